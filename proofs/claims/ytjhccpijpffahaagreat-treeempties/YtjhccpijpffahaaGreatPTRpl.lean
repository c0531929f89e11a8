import Derived.Test.YtjhccpijpffahaaGreatPTChg
import Derived.Test.YtjhccpijpffahaaGreatPTPs
import Derived.Test.YtjhccpijpffahaaGreatPTRepS
import Derived.Test.YtjhccpijpffahaaGreatPTMem
set_option maxRecDepth 100000
set_option linter.unusedVariables false
set_option linter.unusedSimpArgs false
set_option maxHeartbeats 8000000
namespace Go.Proofs.YtjhccpijpffahaaGreat
open Go.RowKit Go.Maps Pl
noncomputable def kidsUp (a : AS) (c : CH) (ps : List Nd) : Nat -> KR
 | 0 => ⟨0,[],a,c⟩
 | k + 1 => if (kidsUp a c ps k).e ≠ 0 then kidsUp a c ps k else
   if (writeF (kidsUp a c ps k).a (kidsUp a c ps k).c (ps.getD k noneN)).e ≠ 0 then ⟨(writeF (kidsUp a c ps k).a (kidsUp a c ps k).c (ps.getD k noneN)).e,[],(writeF (kidsUp a c ps k).a (kidsUp a c ps k).c (ps.getD k noneN)).a,(writeF (kidsUp a c ps k).a (kidsUp a c ps k).c (ps.getD k noneN)).c⟩ else
   ⟨0,(kidsUp a c ps k).xs ++ [(writeF (kidsUp a c ps k).a (kidsUp a c ps k).c (ps.getD k noneN)).x],(writeF (kidsUp a c ps k).a (kidsUp a c ps k).c (ps.getD k noneN)).a,(writeF (kidsUp a c ps k).a (kidsUp a c ps k).c (ps.getD k noneN)).c⟩
theorem zko9 {a : AS} {c : CH} {ps : List Nd} {k : Nat} (h : (kidsUp a c ps k).e ≠ 0) (j : Nat) (hj : k <= j) : kidsUp a c ps j = kidsUp a c ps k:=by
 induction j with
 | zero => have : k = 0 := by omega
           subst this; rfl
 | succ j ih =>
  by_cases e : k = j + 1
  ·rw [e]
  ·have:=ih (by omega)
   rw [kidsUp,this,if_pos h]
theorem zcy9 {a : AS} {c : CH} {ps : List Nd} (h : ps.length <= 2) : (kidsUp a c ps ps.length).e = (kidsF a c ps).e /\ (kidsUp a c ps ps.length).a = (kidsF a c ps).a /\ (kidsUp a c ps ps.length).c = (kidsF a c ps).c /\ ((kidsF a c ps).e = 0 -> (kidsUp a c ps ps.length).xs = (kidsF a c ps).xs):=by
 match ps,h with
 | [],_ => exact ⟨rfl,rfl,rfl,fun _ => rfl⟩
 | [p],_ =>
  simp only [List.length_cons,List.length_nil,kidsUp,kidsF,List.getD_cons_zero,ne_eq,not_true_eq_false,if_false]
  by_cases e : (writeF a c p).e = 0
  ·simp [e]
  ·simp [e]
 | [p,q],_ =>
  simp only [List.length_cons,List.length_nil,kidsUp,kidsF,List.getD_cons_zero,List.getD_cons_succ,ne_eq,not_true_eq_false,if_false]
  by_cases e : (writeF a c p).e = 0
  ·simp only [e,not_true_eq_false,if_false]
   by_cases e2 : (writeF (writeF a c p).a (writeF a c p).c q).e = 0
   ·simp [e2]
   ·simp [e2]
  ·simp [e]
def keysUp (key : ByteArray) (ps : List Nd) (k : Nat) : List ByteArray:=(keysF key ps).take k
theorem zij9 (key : ByteArray) (ps : List Nd) {k : Nat} (hk : k < ps.length) : keysUp key ps (k + 1) = keysUp key ps k ++ [if k = 0 then key else kA (ps.getD k noneN) 0]:=by
 unfold keysUp
 cases ps with
 | nil => simp at hk
 | cons p r =>
  rw [List.take_add_one]
  congr 1
  cases k with
  | zero => rfl
  | succ k =>
   have hk2 : k < r.length:=by simpa using hk
   simp [keysF,hk2]
theorem zel9 (key : ByteArray) (ps : List Nd) : (keysF key ps).length = ps.length:=by cases ps <;> simp [keysF]
theorem zkn9 (key : ByteArray) (ps : List Nd) : keysUp key ps ps.length = keysF key ps:=zn5 (by rw [zel9]; exact zn6 _)
theorem Ps.at {Z : Nat -> Prop} {w : World} {v : Value} {ps : List Nd} (h : Ps Z w v ps) {k : Nat} (hk : k < ps.length) :
  ∃ b u1 u2 u3,v = .slice (some ⟨b,0,none⟩) ps.length ps.length /\ (w.cell? ⟨b,k * 4,none⟩ = some (.bool (ps.getD k noneN).lf) /\ w.cell? ⟨b,k * 4 + 1,none⟩ = some u1 /\ w.cell? ⟨b,k * 4 + 2,none⟩ = some u2 /\ w.cell? ⟨b,k * 4 + 3,none⟩ = some u3) /\ Nn w (ps.getD k noneN) u1 u2 u3 /\ (∀ j,(u1.ownBlock = some j ∨ u2.ownBlock = some j ∨ u3.ownBlock = some j) -> Z j) /\ Z b:=by
 match ps,h,k,hk with
 | [n],⟨b,u1,u2,u3,h1,h2,h3,h4,h5⟩,0,_ =>
  have hc:=fun i => cell_of_row w b i _ _ (0,0) h2
  exact ⟨b,u1,u2,u3,h1,⟨by rw [hc]; rfl,by rw [hc]; rfl,by rw [hc]; rfl,by rw [hc]; rfl⟩,h3,h5,h4⟩
 | [n,m],⟨b,u1,u2,u3,x1,x2,x3,h1,h2,h3,h3',h4,h5,h6⟩,0,_ =>
  have hc:=fun i => cell_of_row w b i _ _ (0,0) h2
  exact ⟨b,u1,u2,u3,h1,⟨by rw [hc]; rfl,by rw [hc]; rfl,by rw [hc]; rfl,by rw [hc]; rfl⟩,h3,h5,h4⟩
 | [n,m],⟨b,u1,u2,u3,x1,x2,x3,h1,h2,h3,h3',h4,h5,h6⟩,1,_ =>
  have hc:=fun i => cell_of_row w b i _ _ (0,0) h2
  exact ⟨b,x1,x2,x3,h1,⟨by rw [hc]; rfl,by rw [hc]; rfl,by rw [hc]; rfl,by rw [hc]; rfl⟩,h3',h6,h4⟩
theorem zcr9 (a : AS) (c : CH) (n : Nd) : (writeF a c n).c.tk.length <= c.tk.length + 1 /\ (writeF a c n).c.gn = c.gn /\ (writeF a c n).c.lv = c.lv:=by
 unfold writeF
 split
 ·split
  ·simp
  ·exact ⟨by simp,rfl,rfl⟩
 ·exact ⟨by simp,rfl,rfl⟩
theorem znb9 (a : AS) (c : CH) (ps : List Nd) (k : Nat) : (kidsUp a c ps k).c.tk.length <= c.tk.length + k /\ (kidsUp a c ps k).c.gn = c.gn /\ (kidsUp a c ps k).c.lv = c.lv:=by
 induction k with
 | zero => exact ⟨by simp [kidsUp],rfl,rfl⟩
 | succ k ih =>
  have hw:=zcr9 (kidsUp a c ps k).a (kidsUp a c ps k).c (ps.getD k noneN)
  simp only [kidsUp]
  split
  ·exact ⟨by omega,ih.2⟩
  ·split
   ·exact ⟨by simp only; omega,hw.2.1.trans ih.2.1,hw.2.2.trans ih.2.2⟩
   ·exact ⟨by simp only; omega,hw.2.1.trans ih.2.1,hw.2.2.trans ih.2.2⟩
theorem zme9 {a : AS} {c : CH} {n : Nd} (h : (writeF a c n).e = 0) : mayN n = true:=by
 unfold writeF at h
 by_cases hm : mayN n = true
 ·exact hm
 ·rw [if_neg hm] at h
  simp at h
def Ap3 (H : Nat -> Prop) (v1 v2 v3 : Value) : Prop:=∀ j,(v1.ownBlock = some j ∨ v2.ownBlock = some j ∨ v3.ownBlock = some j) -> ¬ H j
def RplT (H : Nat -> Prop) (w : World) (t cc d M N : Nat) (b : CB) (u1 u2 u3 : Value) (r : NR) (e : Ending) (w' : World) : Prop:=
 ∃ H' x1 x2 x3,e = .returned (.tuple #[nod r.n.lf x1 x2 x3,.int .i64 r.e]) /\ Gz H' w' t cc d M N r.a b r.c /\ Tch (fun k => H k ∨ u1.ownBlock = some k ∨ u3.ownBlock = some k) w w' /\ (∀ k,H' k -> H k ∨ w.heap.size <= k) /\ Nn w' r.n x1 x2 x3 ∧
  (∀ j,(x1.ownBlock = some j ∨ x2.ownBlock = some j ∨ x3.ownBlock = some j) -> (u1.ownBlock = some j ∨ u2.ownBlock = some j ∨ u3.ownBlock = some j ∨ w.heap.size <= j) /\ ¬ H' j /\ j < w'.heap.size)
structure RpI (H : Nat -> Prop) (w1 : World) (t cc d M N : Nat) (a : AS) (b : CB) (c : CH) (ps : List Nd) (key : ByteArray) (k : Nat) (vk vd : Value) (wr : World) (H' : Nat -> Prop) : Prop where
 gz : Gz H' wr t cc d M N (kidsUp a c ps k).a b (kidsUp a c ps k).c
 tc : Tch H w1 wr
 hh : ∀ j,H' j -> H j ∨ w1.heap.size <= j
 ok : (kidsUp a c ps k).e = 0
 ks : OwV w1.heap.size 9 wr vk (strs (keysUp key ps k))
 kd : OwV w1.heap.size 3 wr vd (nums (kidsUp a c ps k).xs)
 ak : ∀ j,vk.ownBlock = some j -> ¬ H' j
 ad : ∀ j,vd.ownBlock = some j -> ¬ H' j
theorem zhf9 (a : AS) (c : CH) (ps : List Nd) (k : Nat) : (kidsUp a c ps k).xs.length <= k:=by
 induction k with
 | zero => simp [kidsUp]
 | succ k ih =>
  simp only [kidsUp]
  split
  ·omega
  ·split
   ·simp
   ·simp; omega
section
variable {H : Nat -> Prop} {t cc d M N : Nat} {a : AS} {b : CB} {c : CH}
theorem zaj9 (n : Nd) (u1 u2 u3 v : Value) (i j : Nat) (ps : List Nd) (Z : Nat -> Prop) (w : World) (G : Gz H w t cc d M N a b c) (hk : OwV 0 9 w u1 (strs n.ks)) (hv : RdV w u2 (strs n.vs)) (hd : OwV 0 3 w u3 (nums n.kd)) (ha : Ap3 H u1 u2 u3) (ha2 : ∀ k,u2.ownBlock = some k -> u1.ownBlock ≠ some k /\ u3.ownBlock ≠ some k) (hu2 : ∀ k,u2.ownBlock = some k -> k < w.heap.size)
  (hP : Ps Z w v ps) (hZ : ∀ k,Z k -> ¬ H k) (hij : i < j) (hj : j <= n.ks.length) (hjd : j <= n.kd.length) (hn : n.ks.length <= 1000 /\ n.kd.length <= 1000) (hs : ∀ p,p ∈ ps -> Sm p) (hl : c.tk.length <= 1000) :
  Calls Tryz.prog 146 #[chp b,nod n.lf u1 u2 u3,.int .i64 (i : Int),.int .i64 (j : Int),v] w fun e w' => RplT H w t cc d M N b u1 u2 u3 (replaceF a c n i j ps) e w':=by
 obtain ⟨a1,c1,rfl⟩:=hk.long
 obtain ⟨a2,c2,rfl⟩:=hv.long
 obtain ⟨a3,c3,rfl⟩:=hd.long
 rw [zh9] at hk ha ha2 ⊢
 rw [zh9] at hv ha ha2 hu2 ⊢
 rw [zn9] at hd ha ha2 ⊢
 obtain ⟨L1,hL1⟩:=exH n.ks.length
 obtain ⟨L2,hL2⟩:=exH n.vs.length
 obtain ⟨L3,hL3⟩:=exH n.kd.length
 obtain ⟨lf,hlf⟩:=exH n.lf
 rw [hL1.out] at hk ha ha2 hj hn ⊢
 rw [hL2.out] at hv ha ha2 hu2 ⊢
 rw [hL3.out] at hd ha ha2 hjd hn ⊢
 rw [hlf.out]
 obtain ⟨hpl,va,rfl⟩:=hP.len
 have HPA:=fun k hk => hP.at (k:=k) hk
 obtain ⟨L,hL⟩:=exH ps.length
 rw [hL.out] at hpl HPA ⊢
 obtain ⟨cb,hcb⟩:=exH b.cb
 -- the two boxes
 obtain ⟨W1,hW1⟩:=exN (w.alloc (.cells #[.bool lf,.slice a1 L1 c1,.slice a2 L2 c2,.slice a3 L3 c3] 93))
 obtain ⟨W2,hW2⟩:=exN (W1.alloc (.cells #[.bool false,.slice none 0 0,.slice none 0 0,.slice none 0 0] 93))
 have s1 : W1.heap.size = w.heap.size + 1:=by rw [<- hW1]; simp
 have s2 : W2.heap.size = w.heap.size + 2:=by rw [<- hW2]; simp [s1]
 have b1 : Below w.heap.size w W1:=by rw [<- hW1]; exact za9 _ _
 have b2 : Below W1.heap.size W1 W2:=by rw [<- hW2]; exact za9 _ _
 have b12 : Below w.heap.size w W2:=b1.trans (b2.mono b1.size)
 have V2 : Nb W2 93 w.heap.size lf (.slice a1 L1 c1) (.slice a2 L2 c2) (.slice a3 L3 c3):=by
  have : Nb W1 93 w.heap.size lf (.slice a1 L1 c1) (.slice a2 L2 c2) (.slice a3 L3 c3):=by rw [<- hW1]; exact nb_new _ _ _ _ _ _
  exact this.below b2
 have X2 : Nb W2 93 W1.heap.size false (.slice none 0 0) (.slice none 0 0) (.slice none 0 0):=by rw [<- hW2]; exact nb_new _ _ _ _ _ _
 have HV2:=hideN V2
 have HX2:=hideN X2
 have HB:=hideN b12
 have HS2:=hideN s2
 have HS1:=hideN s1
 have HG:=hideN G
 have HK:=hideN hk
 have HVV:=hideN hv
 have HD:=hideN hd
 have HA:=hideN ha
 have HA2:=hideN ha2
 have HU2 : Hid (∀ y,(Value.slice a2 L2 c2).ownBlock = some y -> ¬ W2.heap.size <= y):=fun y hy => by have:=hu2 y hy; omega
 have HPP:=hideN HPA
 have HZ:=hideN hZ
 have HSS:=hideN hs
 have HTL:=hideN hl
 have HHL:=hideN G.hl
 obtain ⟨key0,hkey0⟩:=exH (kA n i)
 obtain ⟨RR,hRR⟩:=exH (replaceF a c n i j ps)
 rw [hRR.out]
 have hNN : Nn w n (.slice a1 L1 c1) (.slice a2 L2 c2) (.slice a3 L3 c3):=⟨hk.rd,hv,hd.rd⟩
 obtain ⟨kb,ko,rfl,ck0⟩:=hNN.key (i:=i) (by rw [hL1.out]; omega)
 rw [hkey0.out] at ck0
 have HCK:=hideN ck0
 have HKLT : Hid (kb < w.heap.size):=World.block_lt_of_cell? w ⟨kb,ko + i,none⟩ ck0
 unfold chp nod
 rw [hcb.out]
 have i0 : (0 : Int) <= (i : Int):=by omega
 have i1 : (i : Int) < (L1 : Int):=by omega
 have HIJ : Hid (i < j /\ j <= L1 /\ j <= L3 /\ L1 <= 1000 /\ L3 <= 1000 /\ L <= 2):=⟨hij,hj,hjd,hn.1,hn.2,hpl⟩
 clear G hk hv hd ha ha2 hu2 hP HPA hZ hs hl b1 b2 b12 V2 X2 s1 s2 hNN ck0 hij hj hjd hn
 go_enter Tryz.func146,Tryz.ntmps146
 go_wp2_with fail
 go_loopw [12,13,21] (fun vk vd kv wr => ∃ (k : Nat) (ka : Option Addr) (kl kc : Nat) (da : Option Addr) (dl dc : Nat) (H' : Nat -> Prop),k <= L /\ kv = .int .i64 k /\ vk = .slice ka kl kc /\ vd = .slice da dl dc /\ Hid (RpI H W2 t cc d M N a b c ps key0 k (.slice ka kl kc) (.slice da dl dc) wr H')) (fun _ _ kv _ => L - (intOf kv).toNat)
 case atStart => exact ⟨0,none,0,0,none,0,0,H,zn7 _,rfl,rfl,rfl,⟨HG.out.below HB.out,Tch.refl _ _,fun _ e => .inl e,rfl,zal9 _ _ _,zal9 _ _ _,fun _ e => (by cases e),fun _ e => (by cases e)⟩⟩
 case round =>
  obtain ⟨k,ka,kl,kc,da,dl,dc,H',hkL,rfl,rfl,rfl,hI⟩:=hrel
  by_cases hkt : k < L
  ·have hkI : (k : Int) < (L : Int):=by omega
   have hk0 : (0 : Int) <= (k : Int):=by omega
   have I:=hI.out
   obtain ⟨b0,p1,p2,p3,hsl,hpc,hpn,hpz,hzb⟩:=HPP.out k hkt
   simp only [Value.slice.injEq,and_true] at hsl
   obtain rfl:=hsl
   have hw2:=HS2.out
   have hsz : W2.heap.size <= wr.heap.size:=I.tc.size
   have SAME : ∀ x,x < w.heap.size -> ¬ H x -> wr.heap[x]? = w.heap[x]?:=fun x h1 h2 => by
    rw [I.tc.block x (by omega) h2]
    exact (Tch.of_below (S:=fun _ => False) HB.out).block x h1 (fun e => e)
   have TW : Tch H w wr:=(Tch.of_below HB.out).trans I.tc (fun _ _ e => e)
   have hb0 : b0 < w.heap.size:=World.block_lt_of_cell? w ⟨b0,k * 4,none⟩ hpc.1
   have CS : ∀ o,wr.cell? ⟨b0,o,none⟩ = w.cell? ⟨b0,o,none⟩:=fun o => by unfold World.cell?; rw [SAME b0 hb0 (HZ.out b0 hzb)]
   obtain ⟨q1,e1,q2,e2,q3,e3,rfl,rfl,rfl,_⟩:=hpn.out
   obtain ⟨p,hp⟩:=exH (ps.getD k noneN)
   rw [hp.out] at hpc hpn hpz
   obtain ⟨P1,hP1⟩:=exH p.ks.length
   obtain ⟨P2,hP2⟩:=exH p.vs.length
   obtain ⟨P3,hP3⟩:=exH p.kd.length
   obtain ⟨pf,hpf⟩:=exH p.lf
   rw [hP1.out,hP2.out,hP3.out] at hpc hpn hpz
   rw [hpf.out] at hpc
   have d0 : wr.cell? ⟨b0,k * 4,none⟩ = some (.bool pf):=by rw [CS]; exact hpc.1
   have d1 : wr.cell? ⟨b0,k * 4 + 1,none⟩ = some (.slice q1 P1 e1):=by rw [CS]; exact hpc.2.1
   have d2 : wr.cell? ⟨b0,k * 4 + 2,none⟩ = some (.slice q2 P2 e2):=by rw [CS]; exact hpc.2.2.1
   have d3 : wr.cell? ⟨b0,k * 4 + 3,none⟩ = some (.slice q3 P3 e3):=by rw [CS]; exact hpc.2.2.2
   have HSP : Hid (Sm p):=HSS.out p (by rw [<- hp.out,zn3,List.getElem?_eq_getElem (by rw [hL.out]; exact hkt)]; exact List.getElem_mem _)
   obtain ⟨W4,hW4⟩:=exN (wr.alloc (.cells #[.bool pf,.slice q1 P1 e1,.slice q2 P2 e2,.slice q3 P3 e3] 93))
   have b4 : Below wr.heap.size wr W4:=by rw [<- hW4]; exact za9 _ _
   have N4 : Nb W4 93 wr.heap.size pf (.slice q1 P1 e1) (.slice q2 P2 e2) (.slice q3 P3 e3):=by rw [<- hW4]; exact nb_new _ _ _ _ _ _
   have npn : Nn wr p (.slice q1 P1 e1) (.slice q2 P2 e2) (.slice q3 P3 e3):=hpn.tch TW (fun x hx => HZ.out x (hpz x (.inl hx))) (fun x hx => HZ.out x (hpz x (.inr (.inl hx)))) (fun x hx => HZ.out x (hpz x (.inr (.inr hx))))
   have htk:=(znb9 a c ps k).1
   have HW:=hideN (zdl9 p _ _ _ W4 (I.gz.below b4) (npn.below b4) HSP.out (by have:=HTL.out; have:=HIJ.out; omega))
   rw [hpf.out] at HW
   obtain ⟨Q,hQ⟩:=exH (writeF (kidsUp a c ps k).a (kidsUp a c ps k).c p)
   rw [hQ.out] at HW
   obtain ⟨x,hx⟩:=exH Q.x
   obtain ⟨ec,hec⟩:=exH Q.e
   rw [hx.out,hec.out] at HW
   unfold chp nod at HW
   rw [hcb.out] at HW
   have HI:=hideN I
   have HN4:=hideN N4
   have HB4:=hideN b4
   have HPN:=hideN hpn
   have HPZ:=hideN hpz
   have HSM:=hideN SAME
   have HTW:=hideN TW
   have HSZ:=hideN hsz
   have n0:=N4.c0
   have n1:=N4.c1
   have n2:=N4.c2
   have n3:=N4.c3
   clear I hI hpc hpn hpz hzb hsz SAME TW hb0 CS npn htk N4 b4 hw2
   go_wp2_with fail
   refine HW.out.mono ?_
   rintro e w5 ⟨rfl,H5,G5,T5,hH5⟩
   have HG5:=hideN G5
   have HT5:=hideN T5
   have HH5:=hideN hH5
   have hw2:=HS2.out
   have hw1:=HS1.out
   have hsz:=HSZ.out
   have h4 : W4.heap.size = wr.heap.size + 1:=by rw [<- hW4]; simp
   -- what is older than the loop,or the part's own box,stays
   have OLD : ∀ y,y < W4.heap.size -> ¬ H' y -> w5.heap[y]? = W4.heap[y]?:=fun y h1 h2 => T5.block y h1 h2
   have OLDr : ∀ y,y < wr.heap.size -> ¬ H' y -> w5.heap[y]? = wr.heap[y]?:=fun y h1 h2 => by
    rw [OLD y (by omega) h2]; exact (Tch.of_below (S:=fun _ => False) HB4.out).block y h1 (fun e => e)
   have nH' : ∀ y,y < W2.heap.size -> ¬ H y -> ¬ H' y:=fun y h1 h2 e => (HI.out.hh y e).elim h2 (fun e => by omega)
   have HOLD : Hid (∀ y,y < W2.heap.size -> ¬ H y -> w5.heap[y]? = W2.heap[y]?):=fun y h1 h2 => by
    rw [OLDr y (by omega) (nH' y h1 h2)]
    exact HI.out.tc.block y h1 h2
   have nHw : ∀ y,w.heap.size <= y -> ¬ H y:=fun y h1 e => by have:=HHL.out y e; omega
   have X5 : Nb w5 93 W1.heap.size false (.slice none 0 0) (.slice none 0 0) (.slice none 0 0):=by unfold Nb; rw [HOLD.out W1.heap.size (by omega) (nHw W1.heap.size (by omega))]; exact HX2.out
   have Y5 : Nb w5 93 w.heap.size lf (.slice (some ⟨kb,ko,none⟩) L1 c1) (.slice a2 L2 c2) (.slice a3 L3 c3):=by unfold Nb; rw [HOLD.out w.heap.size (by omega) (nHw w.heap.size (by omega))]; exact HV2.out
   have N5 : Nb w5 93 wr.heap.size pf (.slice q1 P1 e1) (.slice q2 P2 e2) (.slice q3 P3 e3):=by
    unfold Nb
    rw [OLD _ (by omega) (fun e => by have:=HI.out.gz.hl _ e; omega)]
    exact HN4.out
   have TW5 : Tch H w w5:=by
    have x1 : Tch H w W4:=HTW.out.trans (Tch.of_below (S:=H) HB4.out) (fun _ _ e => e)
    exact x1.trans T5 (fun y hy e => (HI.out.hh y e).elim id (fun e => by omega))
   have HHN : ∀ y,H5 y -> H y ∨ w.heap.size <= y:=fun y e => by
    rcases hH5 y e with e | e
    ·exact (HI.out.hh y e).imp id (fun e => by omega)
    ·exact .inr (by omega)
   by_cases hec0 : ec = 0
   ·subst hec0
    have hmay : mayN p = true:=zme9 (a:=(kidsUp a c ps k).a) (c:=(kidsUp a c ps k).c) (by rw [hQ.out]; exact hec.out)
    have hP1l : 1 <= P1:=by rw [<- hP1.out]; exact (zw9.1 hmay).1
    have n5p : Nn w5 p (.slice q1 P1 e1) (.slice q2 P2 e2) (.slice q3 P3 e3):=HPN.out.tch TW5 (fun y hy => HZ.out y (HPZ.out y (.inl hy))) (fun y hy => HZ.out y (HPZ.out y (.inr (.inl hy)))) (fun y hy => HZ.out y (HPZ.out y (.inr (.inr hy))))
    obtain ⟨kb2,ko2,rfl,ckp⟩:=n5p.key (i:=0) (by rw [hP1.out]; omega)
    obtain ⟨kp,hkp⟩:=exH (kA p 0)
    rw [hkp.out,Nat.add_zero] at ckp
    have ckn : w5.cell? ⟨kb,ko + i,none⟩ = some (.string key0):=by
     rw [TW5.cell (p:=⟨kb,ko + i,none⟩) HKLT.out (HA.out kb (.inl rfl))]
     exact HCK.out
    have ap1 : (0 : Int) < (P1 : Int):=by omega
    -- the rows so far
    have nk5 : ∀ y,(Value.slice ka kl kc).ownBlock = some y -> ¬ H5 y:=fun y hy e => by
     have:=HI.out.ks.owns.lt y hy
     exact (hH5 y e).elim (HI.out.ak y hy) (fun e => by omega)
    have nd5 : ∀ y,(Value.slice da dl dc).ownBlock = some y -> ¬ H5 y:=fun y hy e => by
     have:=HI.out.kd.owns.lt y hy
     exact (hH5 y e).elim (HI.out.ad y hy) (fun e => by omega)
    have ok5 : OwV W2.heap.size 9 w5 (.slice ka kl kc) (strs (keysUp key0 ps k)):=(HI.out.ks.below HB4.out).tch T5 (fun y hy => HI.out.ak y hy)
    have od5 : OwV W2.heap.size 3 w5 (.slice da dl dc) (nums (kidsUp a c ps k).xs):=(HI.out.kd.below HB4.out).tch T5 (fun y hy => HI.out.ad y hy)
    have lk5 : (strs (keysUp key0 ps k)).length <= 10:=by rw [zh9]; unfold keysUp; rw [List.length_take]; have:=HIJ.out; omega
    have ld5 : (nums (kidsUp a c ps k).xs).length <= 10:=by rw [zn9]; have:=zhf9 a c ps k; have:=HIJ.out; omega
    have tc5 : Tch H W2 w5:=by
     have x1 : Tch H W2 W4:=HI.out.tc.trans (Tch.of_below (S:=H) HB4.out) (fun _ _ e => e)
     exact x1.trans T5 (fun y hy e => (HI.out.hh y e).elim id (fun e => by omega))
    have hs5 : W2.heap.size <= w5.heap.size:=tc5.size
    have HHW : ∀ y,H5 y -> H y ∨ W2.heap.size <= y:=fun y e => by
     rcases hH5 y e with e | e
     ·exact HI.out.hh y e
     ·exact .inr (by omega)
    have hUP : kidsUp a c ps (k + 1) = ⟨0,(kidsUp a c ps k).xs ++ [x],Q.a,Q.c⟩:=by
     have hq : (writeF (kidsUp a c ps k).a (kidsUp a c ps k).c (ps.getD k noneN)) = Q:=by rw [hp.out]; exact hQ.out
     simp only [kidsUp]
     rw [hq,if_neg (by rw [HI.out.ok]; simp),if_neg (by rw [hec.out]; simp),hx.out]
    have hKY : keysUp key0 ps (k + 1) = keysUp key0 ps k ++ [if k = 0 then key0 else kp]:=by rw [zij9 key0 ps (by rw [hL.out]; exact hkt),hp.out,hkp.out]
    obtain ⟨ky,hky⟩:=exH ((if k = 0 then key0 else kp))
    rw [hky.out] at hKY
    have FIN : Hid (∀ (w7 w9 : World) (v7 v9 : Value),OwV W2.heap.size 9 w7 v7 (strs (keysUp key0 ps k) ++ [.string ky]) -> Tch (fun y => (Value.slice ka kl kc).ownBlock = some y) (w5.alloc (.cells #[.string ky] 9)) w7 -> Fsh (w5.alloc (.cells #[.string ky] 9)) (.slice ka kl kc) v7 -> OwV W2.heap.size 3 w9 v9 (nums (kidsUp a c ps k).xs ++ [.int .i64 x]) -> Tch (fun y => (Value.slice da dl dc).ownBlock = some y) (w7.alloc (.cells #[.int .i64 x] 3)) w9 -> Fsh (w7.alloc (.cells #[.int .i64 x] 3)) (.slice da dl dc) v9 -> RpI H W2 t cc d M N a b c ps key0 (k + 1) v7 v9 w9 H5):=fun w7 w9 v7 v9 o7 t7 f7 o9 t9 f9 => by
     have z6 : (w5.alloc (.cells #[.string ky] 9)).heap.size = w5.heap.size + 1:=by simp
     have z7:=t7.size
     have z8 : (w7.alloc (.cells #[.int .i64 x] 3)).heap.size = w7.heap.size + 1:=by simp
     have b6:=za9 w5 (.cells #[.string ky] 9)
     have b8:=za9 w7 (.cells #[.int .i64 x] 3)
     have TA : Tch (fun y => (Value.slice ka kl kc).ownBlock = some y ∨ (Value.slice da dl dc).ownBlock = some y) w5 w9:=(((Tch.of_below b6).trans (t7.mono (fun _ _ e => .inl e)) (fun _ _ e => e)).trans (Tch.of_below b8) (fun _ _ e => e)).trans (t9.mono (fun _ _ e => .inr e)) (fun _ _ e => e)
     have e1 : strs (keysUp key0 ps k) ++ [.string ky] = strs (keysUp key0 ps (k + 1)):=by rw [hKY]; simp [strs]
     have e2 : nums (kidsUp a c ps k).xs ++ [.int .i64 x] = nums (kidsUp a c ps (k + 1)).xs:=by rw [hUP]; simp [nums]
     rw [e1] at o7
     rw [e2] at o9
     have od7 : OwV W2.heap.size 3 w7 (.slice da dl dc) (nums (kidsUp a c ps k).xs):=(od5.below b6).tch t7 (fun y hy e => (od5.apart ok5 (by decide) hy) e)
     refine ⟨by rw [hUP]; exact G5.tch TA (fun y hy e => e.elim (fun e => nk5 y e hy) (fun e => nd5 y e hy)),tc5.trans TA (fun y hy e => ?_),HHW,by rw [hUP],(o7.below b8).tch t9 (fun y hy e => ?_),o9,fun y hy e => ?_,fun y hy e => ?_⟩
     ·rcases e with e | e
      ·have:=ok5.ge y e; omega
      ·have:=od5.ge y e; omega
     ·exact (o7.below b8).apart (od7.below b8) (by decide) hy e
     ·rcases f7 y hy with q | q
      ·exact nk5 y q e
      ·have:=G5.hl y e; omega
     ·rcases f9 y hy with q | q
      ·exact nd5 y q e
      ·have:=G5.hl y e; omega
    have HOK:=hideN ok5
    have HOD:=hideN od5
    have HLK:=hideN lk5
    have HLD:=hideN ld5
    have HS5:=hideN hs5
    have m1:=N5.c1
    have y1:=Y5.c1
    have HLL : Hid (k + 1 <= L):=hkt
    obtain ⟨W6,hW6⟩:=exN (w5.alloc (.cells #[.string ky] 9))
    have b6 : Below w5.heap.size w5 W6:=by rw [<- hW6]; exact za9 _ _
    have k6 : Hid (W6.cell? ⟨w5.heap.size,0,none⟩ = some (.string ky)):=by show _ = _; rw [<- hW6,cell_of_row _ w5.heap.size 0 _ _ (0,0) (heap_alloc_new w5 _)]; rfl
    have OK6 : Hid (OwV W2.heap.size 9 W6 (.slice ka kl kc) (strs (keysUp key0 ps k))):=ok5.below b6
    have OD6 : Hid (OwV W2.heap.size 3 W6 (.slice da dl dc) (nums (kidsUp a c ps k).xs)):=od5.below b6
    have S6 : Hid (W2.heap.size <= W6.heap.size):=zn2 hs5 b6.size
    rw [hW6] at FIN
    clear G5 T5 hH5 OLD OLDr nH' nHw X5 TW5 HHN n0 n1 n2 n3 d0 d1 d2 d3 h4 hw2 hw1 hsz HW nk5 nd5 ok5 od5 lk5 ld5 tc5 hs5 HHW hUP hKY b6 n5p N5 Y5 hmay hP1l
    by_cases hk0 : k = 0
    ·have hkz : ((k : Int) == 0) = true:=by rw [beq_iff_eq]; omega
     obtain rfl : key0 = ky:=by rw [<- hky.out,if_pos hk0]
     clear hk0
     go_wp2_with (at_builtin; refine zaa9 91 9 (.string ⟨#[]⟩) 16 elemS _ rfl (.tmp 47) (.tmp 49) rfl W2.heap.size _ (strs (keysUp key0 ps k)) rfl OK6.out w5.heap.size (.string key0) rfl rfl k6.out (by have:=HLK.out; omega) (by have:=HLK.out; omega) S6.out ?_; intro v7 w7 o7 g7 f7; refine Hid.out ?_)
     refine hideN ?_
     obtain ⟨x7,y7,z7,rfl⟩ : ∃ a l c,v7 = .slice a l c:=by obtain ⟨a,c,e⟩:=o7.long; exact ⟨_,_,_,e⟩
     obtain ⟨W8,hW8⟩:=exN (w7.alloc (.cells #[.int .i64 x] 3))
     have b8 : Below w7.heap.size w7 W8:=by rw [<- hW8]; exact za9 _ _
     have k8 : Hid (W8.cell? ⟨w7.heap.size,0,none⟩ = some (.int .i64 x)):=by show _ = _; rw [<- hW8,cell_of_row _ w7.heap.size 0 _ _ (0,0) (heap_alloc_new w7 _)]; rfl
     have OD8 : Hid (OwV W2.heap.size 3 W8 (.slice da dl dc) (nums (kidsUp a c ps k).xs)):=(OD6.out.tch g7.tch (fun y hy e => (OD6.out.apart OK6.out (by decide) hy) e)).below b8
     have S8 : Hid (W2.heap.size <= W8.heap.size):=zn2 S6.out (zn2 g7.tch.size b8.size)
     have HO7:=hideN o7
     have HT7:=hideN g7.tch
     have HF7:=hideN f7
     clear o7 g7 f7 b8 hW6
     go_wp2_with (at_builtin; refine zaa9 56 3 (.int .i64 0) 8 elemIN _ rfl (.tmp 51) (.tmp 53) rfl W2.heap.size _ (nums (kidsUp a c ps k).xs) rfl OD8.out w7.heap.size (.int .i64 x) rfl rfl k8.out (by have:=HLD.out; omega) (by have:=HLD.out; omega) S8.out ?_; intro v9 w9 o9 g9 f9; refine Hid.out ?_)
     refine hideN ?_
     obtain ⟨x9,y9,z9,rfl⟩ : ∃ a l c,v9 = .slice a l c:=by obtain ⟨a,c,e⟩:=o9.long; exact ⟨_,_,_,e⟩
     rw [<- hW8] at g9 f9
     have HR9:=hideN (FIN.out w7 w9 _ _ HO7.out HT7.out HF7.out o9 g9.tch f9)
     clear o9 g9 f9 hW8
     go_wp2_with fail
     exact ⟨⟨k + 1,_,_,_,_,_,_,H5,HLL.out,by rfl,rfl,rfl,HR9⟩,by simp [intOf]; omega⟩
    ·have hkz : ((k : Int) == 0) = false:=by rw [beq_eq_false_iff_ne]; omega
     obtain rfl : kp = ky:=by rw [<- hky.out,if_neg hk0]
     clear hk0
     go_wp2_with (at_builtin; refine zaa9 91 9 (.string ⟨#[]⟩) 16 elemS _ rfl (.tmp 47) (.tmp 49) rfl W2.heap.size _ (strs (keysUp key0 ps k)) rfl OK6.out w5.heap.size (.string kp) rfl rfl k6.out (by have:=HLK.out; omega) (by have:=HLK.out; omega) S6.out ?_; intro v7 w7 o7 g7 f7; refine Hid.out ?_)
     refine hideN ?_
     obtain ⟨x7,y7,z7,rfl⟩ : ∃ a l c,v7 = .slice a l c:=by obtain ⟨a,c,e⟩:=o7.long; exact ⟨_,_,_,e⟩
     obtain ⟨W8,hW8⟩:=exN (w7.alloc (.cells #[.int .i64 x] 3))
     have b8 : Below w7.heap.size w7 W8:=by rw [<- hW8]; exact za9 _ _
     have k8 : Hid (W8.cell? ⟨w7.heap.size,0,none⟩ = some (.int .i64 x)):=by show _ = _; rw [<- hW8,cell_of_row _ w7.heap.size 0 _ _ (0,0) (heap_alloc_new w7 _)]; rfl
     have OD8 : Hid (OwV W2.heap.size 3 W8 (.slice da dl dc) (nums (kidsUp a c ps k).xs)):=(OD6.out.tch g7.tch (fun y hy e => (OD6.out.apart OK6.out (by decide) hy) e)).below b8
     have S8 : Hid (W2.heap.size <= W8.heap.size):=zn2 S6.out (zn2 g7.tch.size b8.size)
     have HO7:=hideN o7
     have HT7:=hideN g7.tch
     have HF7:=hideN f7
     clear o7 g7 f7 b8 hW6
     go_wp2_with (at_builtin; refine zaa9 56 3 (.int .i64 0) 8 elemIN _ rfl (.tmp 51) (.tmp 53) rfl W2.heap.size _ (nums (kidsUp a c ps k).xs) rfl OD8.out w7.heap.size (.int .i64 x) rfl rfl k8.out (by have:=HLD.out; omega) (by have:=HLD.out; omega) S8.out ?_; intro v9 w9 o9 g9 f9; refine Hid.out ?_)
     refine hideN ?_
     obtain ⟨x9,y9,z9,rfl⟩ : ∃ a l c,v9 = .slice a l c:=by obtain ⟨a,c,e⟩:=o9.long; exact ⟨_,_,_,e⟩
     rw [<- hW8] at g9 f9
     have HR9:=hideN (FIN.out w7 w9 _ _ HO7.out HT7.out HF7.out o9 g9.tch f9)
     clear o9 g9 f9 hW8
     go_wp2_with fail
     exact ⟨⟨k + 1,_,_,_,_,_,_,H5,HLL.out,by rfl,rfl,rfl,HR9⟩,by simp [intOf]; omega⟩
   ·have hE1 : (ec == 0) = false:=by rw [beq_eq_false_iff_ne]; exact hec0
    have hE2 : (ec != 0) = true:=by rw [bne,hE1]; rfl
    have HUP : (kidsUp a c ps (k + 1)).e = ec /\ (kidsUp a c ps (k + 1)).a = Q.a /\ (kidsUp a c ps (k + 1)).c = Q.c:=by
     have hq : (writeF (kidsUp a c ps k).a (kidsUp a c ps k).c (ps.getD k noneN)) = Q:=by rw [hp.out]; exact hQ.out
     simp only [kidsUp]
     rw [hq,if_neg (by rw [HI.out.ok]; simp),if_pos (by rw [hec.out]; exact hec0)]
     exact ⟨hec.out,rfl,rfl⟩
    have HFE : (kidsF a c ps).e = ec /\ (kidsF a c ps).a = Q.a /\ (kidsF a c ps).c = Q.c:=by
     have:=zcy9 (a:=a) (c:=c) (ps:=ps) (by rw [hL.out]; exact HIJ.out.2.2.2.2.2)
     have hb:=zko9 (a:=a) (c:=c) (ps:=ps) (k:=k + 1) (by rw [HUP.1]; exact hec0) ps.length (by rw [hL.out]; omega)
     rw [hb,HUP.1,HUP.2.1,HUP.2.2] at this
     exact ⟨this.1.symm,this.2.1.symm,this.2.2.1.symm⟩
    have HRE : Hid (RR = ⟨ec,noneN,Q.a,Q.c⟩):=by show _ = _; rw [<- hRR.out]; unfold replaceF; rw [HFE.1,if_pos hec0,HFE.2.1,HFE.2.2]
    have tt:=zg9 w5 W1.heap.size (.bool false) (.slice none 0 0) (.slice none 0 0) (.slice none 0 0)
    have XA:=X5.all false (.slice none 0 0) (.slice none 0 0) (.slice none 0 0)
    obtain ⟨WA,hWA⟩:=exN ((((w5.setCell ⟨W1.heap.size,0,none⟩ (.bool false)).setCell ⟨W1.heap.size,1,none⟩ (.slice none 0 0)).setCell ⟨W1.heap.size,2,none⟩ (.slice none 0 0)).setCell ⟨W1.heap.size,3,none⟩ (.slice none 0 0))
    rw [hWA] at tt XA
    have n5 : ∀ y,H5 y -> y ≠ W1.heap.size:=fun y e q => by
     rcases hH5 y e with e | e
     ·exact nH' W1.heap.size (by omega) (nHw W1.heap.size (by omega)) (by rw [<- q]; exact e)
     ·omega
    have HFIN : Hid (RplT H w t cc d M N b (.slice (some ⟨kb,ko,none⟩) L1 c1) (.slice a2 L2 c2) (.slice a3 L3 c3) RR (.returned (.tuple #[nod false (.slice none 0 0) (.slice none 0 0) (.slice none 0 0),.int .i64 ec])) WA):=by
     show RplT _ _ _ _ _ _ _ _ _ _ _ _ _ _
     rw [HRE.out]
     refine ⟨H5,_,_,_,rfl,G5.tch tt n5,(TW5.mono (fun _ _ e => .inl e)).trans tt (fun y hy e => by omega),HHN,⟨zam9 _,zam9 _,zam9 _⟩,fun y hy => ?_⟩
     rcases hy with e | e | e <;> cases e
    have HXA:=hideN XA.load
    have HWA:=hideN hWA
    have s0:=X5.c0
    have s1:=X5.c1
    have s2:=X5.c2
    have s3:=X5.c3
    have f0:=X5.fz 0
    have f1:=X5.fz 1
    have f2:=X5.fz 2
    have f3:=X5.fz 3
    clear G5 T5 hH5 OLD OLDr nH' nHw X5 Y5 N5 TW5 HHN HUP HFE tt XA n5 hec0 n0 n1 n2 n3 d0 d1 d2 d3 h4 hw2 hw1 hsz hWA HW
    go_wp2_with fail
    rw [HWA.out]
    refine bodyPost_ret (v:=.tuple #[nod false (.slice none 0 0) (.slice none 0 0) (.slice none 0 0),.int .i64 ec]) (ze9 (p:=10) (ty:=93) rfl _ _ _ W1.heap.size _ _ rfl HXA.out rfl) rfl ?_
    exact HFIN.out
  ·have ht1 : decide ((k : Int) < (L : Int)) = false:=by rw [zn4]; omega
   have ht2 : decide (k < L) = false:=by rw [zn4]; exact hkt
   obtain rfl : L = k:=by omega
   have I:=hI.out
   have hw2:=HS2.out
   have hw1:=HS1.out
   have hpl2 : ps.length <= 2:=by rw [hL.out]; exact HIJ.out.2.2.2.2.2
   have hall:=zcy9 (a:=a) (c:=c) (ps:=ps) hpl2
   rw [hL.out] at hall
   have hF0 : (kidsF a c ps).e = 0:=by rw [<- hall.1]; exact I.ok
   have hxs:=hall.2.2.2 hF0
   have hkeys : keysUp key0 ps L = keysF key0 ps:=by rw [<- hL.out]; exact zkn9 key0 ps
   have TW : Tch H w wr:=(Tch.of_below HB.out).trans I.tc (fun _ _ e => e)
   have nH' : ∀ y,y < W2.heap.size -> ¬ H y -> ¬ H' y:=fun y h1 h2 e => (I.hh y e).elim h2 (fun e => by omega)
   have nHw : ∀ y,w.heap.size <= y -> ¬ H y:=fun y h1 e => by have:=HHL.out y e; omega
   have Y0 : Nb wr 93 w.heap.size lf (.slice (some ⟨kb,ko,none⟩) L1 c1) (.slice a2 L2 c2) (.slice a3 L3 c3):=HV2.out.tch I.tc (nHw _ (zn6 _))
   have X0 : Nb wr 93 W1.heap.size false (.slice none 0 0) (.slice none 0 0) (.slice none 0 0):=HX2.out.tch I.tc (nHw _ (by omega))
   have K0 : OwV 0 9 wr (.slice (some ⟨kb,ko,none⟩) L1 c1) (strs n.ks):=HK.out.tch TW (fun y hy => HA.out y (.inl hy))
   have D0 : OwV 0 3 wr (.slice a3 L3 c3) (nums n.kd):=HD.out.tch TW (fun y hy => HA.out y (.inr (.inr hy)))
   have V0 : RdV wr (.slice a2 L2 c2) (strs n.vs):=HVV.out.tch TW (fun y hy => HA.out y (.inr (.inl hy)))
   have vk0 : OwV 0 9 wr (.slice ka kl kc) (strs (keysF key0 ps)):=by rw [<- hkeys]; exact I.ks.less (zn7 _)
   have vd0 : OwV 0 3 wr (.slice da dl dc) (nums (kidsF a c ps).xs):=by rw [<- hxs]; exact I.kd.less (zn7 _)
   have klt : ∀ y,(Value.slice (some ⟨kb,ko,none⟩) L1 c1).ownBlock = some y -> y < w.heap.size:=fun y hy => HK.out.owns.lt y hy
   have dlt : ∀ y,(Value.slice a3 L3 c3).ownBlock = some y -> y < w.heap.size:=fun y hy => HD.out.owns.lt y hy
   have hlk : (strs n.ks).length = L1:=by rw [zh9]; exact hL1.out
   have hld : (nums n.kd).length = L3:=by rw [zn9]; exact hL3.out
   have hij:=HIJ.out
   have HR1:=hideN (zrd9 (B:=0) (w:=wr) (.slice (some ⟨kb,ko,none⟩) L1 c1) (strs n.ks) i j (.slice ka kl kc) (strs (keysF key0 ps)) K0 vk0 (fun y hy e => by have:=I.ks.ge y hy; have:=klt y e; omega) (zao9 _) (zao9 _) hij.1 (by rw [hlk]; exact hij.2.1) (by rw [zh9,zel9]; omega) (by rw [hlk]; omega) (zn7 _))
   have z1:=Y0.c1
   have HI:=hideN I
   have HY0:=hideN Y0
   have HX0:=hideN X0
   have HD0:=hideN D0
   have HV0:=hideN V0
   have HVD:=hideN vd0
   have HTW:=hideN TW
   have HKL:=hideN klt
   have HDL:=hideN dlt
   have HLD:=hideN hld
   have HNH:=hideN nH'
   have HNW:=hideN nHw
   have HF0:=hideN hF0
   have HAC : Hid ((kidsF a c ps).a = (kidsUp a c ps L).a /\ (kidsF a c ps).c = (kidsUp a c ps L).c):=⟨hall.2.1.symm,hall.2.2.1.symm⟩
   have HHW:=hideN (show W2.heap.size = w.heap.size + 2 /\ W1.heap.size = w.heap.size + 1 from ⟨hw2,hw1⟩)
   clear I hI hw2 hw1 hpl2 hall hF0 hxs hkeys TW nH' nHw Y0 X0 K0 D0 V0 vk0 vd0 klt dlt hlk hld hij hkt hkL
   go_wp2_with fail
   refine HR1.out.mono ?_
   rintro e w5 ⟨v5,rfl,T5⟩
   have HT5:=hideN T5
   have Y5 : Nb w5 93 w.heap.size lf (.slice (some ⟨kb,ko,none⟩) L1 c1) (.slice a2 L2 c2) (.slice a3 L3 c3):=HY0.out.tch T5.tc (fun e => by have:=HKL.out _ e; omega)
   obtain ⟨x5,y5,z5,rfl⟩ : ∃ a l c,v5 = .slice a l c:=by obtain ⟨a,c,e⟩:=T5.ow.long; exact ⟨_,_,_,e⟩
   obtain ⟨W6,hW6⟩:=exN (w5.setCell ⟨w.heap.size,1,none⟩ (.slice x5 y5 z5))
   have t6 : Tch (fun y => y = w.heap.size) w5 W6:=by rw [<- hW6]; exact tch_at _ _ _ _
   have Y6 : Nb W6 93 w.heap.size lf (.slice x5 y5 z5) (.slice a2 L2 c2) (.slice a3 L3 c3):=by rw [<- hW6]; exact Y5.s1 _
   have D6 : OwV 0 3 W6 (.slice a3 L3 c3) (nums n.kd):=(HD0.out.tch T5.tc (fun y hy e => (HD0.out.apart (HK.out.tch HTW.out (fun y hy => HA.out y (.inl hy))) (by decide) hy) e)).tch t6 (fun y hy e => by have:=HDL.out y hy; omega)
   have E6 : OwV 0 3 W6 (.slice da dl dc) (nums (kidsF a c ps).xs):=by
    have hge:=HI.out.kd.ge
    have hz:=HHW.out
    refine (HVD.out.tch T5.tc (fun y hy e => ?_)).tch t6 (fun y hy e => ?_)
    ·have:=hge y hy; have:=HKL.out y e; omega
    ·have:=hge y hy; omega
   have hld:=HLD.out
   have hij:=HIJ.out
   have hxl : (nums (kidsF a c ps).xs).length <= 1000000:=by
    have h1:=zhf9 a c ps L
    have h2:=HI.out.kd.1
    have h3:=HVD.out.1
    rw [zn9]
    have:=zcy9 (a:=a) (c:=c) (ps:=ps) (by rw [hL.out]; exact hij.2.2.2.2.2)
    rw [hL.out] at this
    rw [<- this.2.2.2 HF0.out]
    omega
   have HR2:=hideN (zrc9 (B:=0) (w:=W6) (.slice a3 L3 c3) (nums n.kd) i j (.slice da dl dc) (nums (kidsF a c ps).xs) D6 E6 (fun y hy e => by have:=HI.out.kd.ge y hy; have:=HDL.out y e; have:=HHW.out; omega) (zcz9 _) (zcz9 _) hij.1 (by rw [hld]; exact hij.2.2.1) hxl (by rw [hld]; omega) (zn7 _))
   have p1:=Y5.c1
   have p2:=Y5.fz 1
   have r3:=Y6.c3
   have HY6:=hideN Y6
   have HT6:=hideN t6
   clear T5 Y5 t6 Y6 D6 E6 hld hij hxl HR1 z1
   go_wp2_with fail
   refine HR2.out.mono ?_
   rintro e w7 ⟨v7,rfl,T7⟩
   obtain ⟨x7,y7,z7,rfl⟩ : ∃ a l c,v7 = .slice a l c:=by obtain ⟨a,c,e⟩:=T7.ow.long; exact ⟨_,_,_,e⟩
   have Y7 : Nb w7 93 w.heap.size lf (.slice x5 y5 z5) (.slice a2 L2 c2) (.slice a3 L3 c3):=HY6.out.tch T7.tc (fun e => by have:=HDL.out _ e; omega)
   obtain ⟨W8,hW8⟩:=exN (w7.setCell ⟨w.heap.size,3,none⟩ (.slice x7 y7 z7))
   have t8 : Tch (fun y => y = w.heap.size) w7 W8:=by rw [<- hW8]; exact tch_at _ _ _ _
   have Y8 : Nb W8 93 w.heap.size lf (.slice x5 y5 z5) (.slice a2 L2 c2) (.slice x7 y7 z7):=by rw [<- hW8]; exact Y7.s3 _
   have hz:=HHW.out
   have X8 : Nb W8 93 W1.heap.size false (.slice none 0 0) (.slice none 0 0) (.slice none 0 0):=(((HX0.out.tch HT5.out.tc (fun e => by have:=HKL.out _ e; omega)).tch HT6.out (by omega)).tch T7.tc (fun e => by have:=HDL.out _ e; omega)).tch t8 (by omega)
   obtain ⟨WA,hWA⟩:=exN ((((W8.setCell ⟨W1.heap.size,0,none⟩ (.bool lf)).setCell ⟨W1.heap.size,1,none⟩ (.slice x5 y5 z5)).setCell ⟨W1.heap.size,2,none⟩ (.slice a2 L2 c2)).setCell ⟨W1.heap.size,3,none⟩ (.slice x7 y7 z7))
   have tA : Tch (fun y => y = W1.heap.size) W8 WA:=by rw [<- hWA]; exact zg9 _ _ _ _ _ _
   have XA : Nb WA 93 W1.heap.size lf (.slice x5 y5 z5) (.slice a2 L2 c2) (.slice x7 y7 z7):=by rw [<- hWA]; exact X8.all _ _ _ _
   have sz5:=HT5.out.tc.size
   have sz6:=HT6.out.size
   have sz7:=T7.tc.size
   have szr:=HI.out.tc.size
   have HFIN : Hid (RplT H w t cc d M N b (.slice (some ⟨kb,ko,none⟩) L1 c1) (.slice a2 L2 c2) (.slice a3 L3 c3) RR (.returned (.tuple #[nod lf (.slice x5 y5 z5) (.slice a2 L2 c2) (.slice x7 y7 z7),.int .i64 0])) WA):=by
    have hRE : RR = ⟨0,zai9 n i j (keysF key0 ps) (kidsF a c ps).xs,(kidsF a c ps).a,(kidsF a c ps).c⟩:=by
     rw [<- hRR.out]; unfold replaceF; rw [HF0.out,if_neg (by simp),hkey0.out]
    rw [hRE,HAC.out.1,HAC.out.2]
    -- all that is written from wr on
    have T5' : Tch (fun y => (y = w.heap.size ∨ y = W1.heap.size) ∨ (Value.slice (some ⟨kb,ko,none⟩) L1 c1).ownBlock = some y ∨ (Value.slice a3 L3 c3).ownBlock = some y) wr WA:=((((HT5.out.tc.mono (fun y _ e => .inr (.inl e))).trans HT6.out (fun y _ e => .inl (.inl e))).trans T7.tc (fun y _ e => .inr (.inr e))).trans t8 (fun y _ e => .inl (.inl e))).trans tA (fun y _ e => .inl (.inr e))
    have nS : ∀ y,H' y -> ¬ ((y = w.heap.size ∨ y = W1.heap.size) ∨ (Value.slice (some ⟨kb,ko,none⟩) L1 c1).ownBlock = some y ∨ (Value.slice a3 L3 c3).ownBlock = some y):=fun y hy e => by
     rcases e with (e | e) | e | e
     ·exact HNH.out y (by omega) (HNW.out y (by omega)) hy
     ·exact HNH.out y (by omega) (HNW.out y (by omega)) hy
     ·exact HNH.out y (by have:=HKL.out y e; omega) (HA.out y (.inl e)) hy
     ·exact HNH.out y (by have:=HDL.out y e; omega) (HA.out y (.inr (.inr e))) hy
    have R5 : RdV WA (.slice x5 y5 z5) (strs (n.ks.take i ++ (keysF key0 ps ++ n.ks.drop j))):=by
     have e0 : (strs n.ks).take i ++ (strs (keysF key0 ps) ++ (strs n.ks).drop j) = strs (n.ks.take i ++ (keysF key0 ps ++ n.ks.drop j)):=by simp [strs,List.map_take,List.map_drop]
     have o5:=HT5.out.ow
     rw [e0] at o5
     have n5 : ∀ y,(Value.slice x5 y5 z5).ownBlock = some y -> y ≠ w.heap.size /\ y ≠ W1.heap.size:=fun y hy => by
      rcases HT5.out.fs y hy with q | q
      ·have:=HKL.out y q; omega
      ·omega
     have o6:=o5.tch HT6.out (fun y hy e => (n5 y hy).1 e)
     have dd : OwV 0 3 W6 (.slice a3 L3 c3) (nums n.kd):=(HD0.out.tch HT5.out.tc (fun y hy e => (HD0.out.apart (HK.out.tch HTW.out (fun y hy => HA.out y (.inl hy))) (by decide) hy) e)).tch HT6.out (fun y hy e => by have:=HDL.out y hy; omega)
     have o7:=o6.tch T7.tc (fun y hy e => o6.apart dd (by decide) hy e)
     exact ((o7.tch t8 (fun y hy e => (n5 y hy).1 e)).tch tA (fun y hy e => (n5 y hy).2 e)).rd
    have R7 : RdV WA (.slice x7 y7 z7) (nums (n.kd.take i ++ ((kidsF a c ps).xs ++ n.kd.drop j))):=by
     have e0 : (nums n.kd).take i ++ (nums (kidsF a c ps).xs ++ (nums n.kd).drop j) = nums (n.kd.take i ++ ((kidsF a c ps).xs ++ n.kd.drop j)):=by simp [nums,List.map_take,List.map_drop]
     have o7:=T7.ow
     rw [e0] at o7
     have n7 : ∀ y,(Value.slice x7 y7 z7).ownBlock = some y -> y ≠ w.heap.size /\ y ≠ W1.heap.size:=fun y hy => by
      rcases T7.fs y hy with q | q
      ·have:=HDL.out y q; omega
      ·omega
     exact ((o7.tch t8 (fun y hy e => (n7 y hy).1 e)).tch tA (fun y hy e => (n7 y hy).2 e)).rd
    have V7 : RdV WA (.slice a2 L2 c2) (strs n.vs):=by
     by_cases h0 : strs n.vs = []
     ·have l0 : L2 = 0:=by rw [<- hL2.out,<- zh9,h0]; rfl
      obtain ⟨q1,q2,q3,q4,q5,q6,q7⟩:=HV0.out
      exact ⟨q1,q2,q3,q4,q5,q6,.inl h0⟩
     ·refine HV0.out.tch T5' (fun y hy e => ?_)
      have hlt:=HVV.out.blk_lt h0 y hy
      rcases e with (e | e) | e | e
      ·omega
      ·omega
      ·exact (HA2.out y hy).1 e
      ·exact (HA2.out y hy).2 e
    refine ⟨H',_,_,_,by rw [show (zai9 n i j (keysF key0 ps) (kidsF a c ps).xs).lf = n.lf from rfl,hlf.out],HI.out.gz.tch T5' nS,(HTW.out.mono (fun _ _ e => .inl e)).trans T5' (fun y hy e => ?_),fun y hy => (HI.out.hh y hy).imp id (fun e => by omega),⟨R5,V7,R7⟩,fun y hy => ?_⟩
    ·rcases e with (e | e) | e | e
     ·omega
     ·omega
     ·exact .inr (.inl e)
     ·exact .inr (.inr e)
    ·have s8:=t8.size
     have sA:=tA.size
     rcases hy with e | e | e
     ·have u5:=HT5.out.ow.owns.lt y e
      rcases HT5.out.fs y e with q | q
      ·exact ⟨.inl q,HNH.out y (by have:=HKL.out y q; omega) (HA.out y (.inl q)),by omega⟩
      ·exact ⟨.inr (.inr (.inr (by omega))),fun e => by have:=HI.out.gz.hl y e; omega,by omega⟩
     ·have u2:=HU2.out y e
      have sr:=HI.out.tc.size
      refine ⟨.inr (.inl e),fun q => ?_,by omega⟩
      rcases HI.out.hh y q with q | q
      ·exact HA.out y (.inr (.inl e)) q
      ·exact HU2.out y e q
     ·have u7:=T7.ow.owns.lt y e
      rcases T7.fs y e with q | q
      ·exact ⟨.inr (.inr (.inl q)),HNH.out y (by have:=HDL.out y q; omega) (HA.out y (.inr (.inr q))),by omega⟩
      ·exact ⟨.inr (.inr (.inr (by omega))),fun e => by have:=HI.out.gz.hl y e; omega,by omega⟩
   have HXL:=hideN XA.load
   have HWA:=hideN hWA
   have m3:=Y7.c3
   have m4:=Y7.fz 3
   have s0:=Y8.c0
   have s1:=Y8.c1
   have s2:=Y8.c2
   have s3:=Y8.c3
   have g0:=X8.c0
   have g1:=X8.c1
   have g2:=X8.c2
   have g3:=X8.c3
   have f0:=X8.fz 0
   have f1:=X8.fz 1
   have f2:=X8.fz 2
   have f3:=X8.fz 3
   clear T7 Y7 t8 Y8 X8 tA XA hz sz5 sz6 sz7 szr HR2 r3 p1 p2 hWA
   go_wp2_with fail
   rw [HWA.out]
   refine bodyPost_ret (v:=.tuple #[nod lf (.slice x5 y5 z5) (.slice a2 L2 c2) (.slice x7 y7 z7),.int .i64 0]) (ze9 (p:=10) (ty:=93) rfl _ _ _ W1.heap.size _ _ rfl HXL.out rfl) rfl ?_
   exact HFIN.out
end
section
variable {H : Nat -> Prop} {t cc d M N : Nat} {a : AS} {b : CB} {c : CH}
theorem zle9 (ps : List Nd) (v : Value) (Z : Nat -> Prop) (w : World) (G : Gz H w t cc d M N a b c) (hP : Ps Z w v ps) (hZ : ∀ k,Z k -> ¬ H k) (hs : ∀ p,p ∈ ps -> Sm p) (hl : c.tk.length <= 1000) (hlv : c.lv <= 1000)
  (hl2 : (replaceF a c top0 0 1 ps).c.tk.length <= 100000) (hs2 : Sm (replaceF a c top0 0 1 ps).n) :
  Calls Tryz.prog 115 #[chp b,v] w fun e w' => e = .returned (.tuple #[.int .i64 (raiseF a c ps).x,.int .i64 (raiseF a c ps).e]) /\ GzTo H w w' t cc d M N (raiseF a c ps).a b (raiseF a c ps).c:=by
 obtain ⟨_,va,rfl⟩:=hP.len
 obtain ⟨pl,hpl⟩:=exH ps.length
 rw [hpl.out] at hP ⊢
 have c4:=G.c4
 have HG:=hideN G
 have HP:=hideN hP
 have HZ:=hideN hZ
 have HS:=hideN hs
 have HL:=hideN hl
 have HL2:=hideN hl2
 have HS2:=hideN hs2
 obtain ⟨cb,hcb⟩:=exH b.cb
 obtain ⟨lv,hlv'⟩ : ∃ q,Hid (c.lv = q):=⟨_,rfl⟩
 rw [hcb.out,hlv'.out] at c4
 rw [hlv'.out] at hlv
 obtain ⟨RR,hRR⟩:=exH (raiseF a c ps)
 rw [hRR.out]
 unfold chp
 rw [hcb.out]
 clear G hP hZ hs hl hl2 hs2
 go_enter Tryz.func115,Tryz.ntmps115
 by_cases h16 : lv = 16
 ·subst h16
  have HR : Hid (RR = ⟨0,7,a,c⟩):=by
   show RR = _
   rw [<- hRR.out]
   unfold raiseF
   rw [if_pos hlv'.out]
  go_wp2_with fail
  go_ret2
  rw [HR.out]
  exact ⟨rfl,HG.out.to⟩
 ·have hne : decide ((lv : Int) = 16) = false:=by rw [zn4]; omega
  have hne2 : ((lv : Int) == 16) = false:=by rw [beq_eq_false_iff_ne]; omega
  have HN16 : Hid (raiseF a c ps = if (replaceF a c top0 0 1 ps).e ≠ 0 then ⟨0,(replaceF a c top0 0 1 ps).e,(replaceF a c top0 0 1 ps).a,(replaceF a c top0 0 1 ps).c⟩ else writeF (replaceF a c top0 0 1 ps).a (replaceF a c top0 0 1 ps).c (replaceF a c top0 0 1 ps).n):=by
   show raiseF a c ps = _
   unfold raiseF
   rw [if_neg (by rw [hlv'.out]; exact h16)]
  obtain ⟨W1,hW1⟩:=exN (w.alloc (.cells #[.string ⟨#[]⟩] 9))
  obtain ⟨W2,hW2⟩:=exN (W1.alloc (.cells #[.int .i64 0] 3))
  have s1 : W1.heap.size = w.heap.size + 1:=by rw [<- hW1]; simp
  have s2 : W2.heap.size = w.heap.size + 2:=by rw [<- hW2]; simp [s1]
  have b1 : Below w.heap.size w W1:=by rw [<- hW1]; exact za9 _ _
  have b2 : Below W1.heap.size W1 W2:=by rw [<- hW2]; exact za9 _ _
  have b12 : Below w.heap.size w W2:=b1.trans (b2.mono b1.size)
  have g1 : Rw 9 W2 w.heap.size [.string eS]:=by
   have : Rw 9 W1 w.heap.size [.string eS]:=by rw [<- hW1]; exact Rw.new _ _ _
   exact this.tch (Tch.of_below (S:=fun _ => False) b2) (fun e => e)
  have g2 : Rw 3 W2 W1.heap.size [.int .i64 0]:=by rw [<- hW2]; exact Rw.new _ _ _
  have k1 : OwV 0 9 W2 (.slice (some ⟨w.heap.size,0,none⟩) 1 1) (strs top0.ks):=g1.owV (zn7 _) rfl (by decide) (zn6 _) rfl
  have k3 : OwV 0 3 W2 (.slice (some ⟨W1.heap.size,0,none⟩) 1 1) (nums top0.kd):=g2.owV (zn7 _) rfl (by decide) (zn6 _) rfl
  have hlw:=HG.out.hl
  have RP:=zaj9 top0 (.slice (some ⟨w.heap.size,0,none⟩) 1 1) (.slice none 0 0) (.slice (some ⟨W1.heap.size,0,none⟩) 1 1) (.slice va pl pl) 0 1 ps Z W2 (HG.out.below b12) k1 (zal9 0 9 _).rd k3 (fun j hj e => by
   have:=hlw j e
   rcases hj with q | q | q
   ·simp [Value.ownBlock] at q; omega
   ·cases q
   ·simp [Value.ownBlock] at q; omega) (fun k e => by cases e) (fun k e => by cases e) (HP.out.below b12) HZ.out (by decide) (by decide) (by decide) (by decide) HS.out HL.out
  unfold chp at RP
  rw [hcb.out,show ((0 : Nat) : Int) = 0 from rfl,show ((1 : Nat) : Int) = 1 from rfl,show top0.lf = false from rfl] at RP
  unfold nod at RP
  have HRP:=hideN RP
  have HB12:=hideN b12
  have HSZ : Hid (W1.heap.size = w.heap.size + 1 /\ W2.heap.size = w.heap.size + 2):=⟨s1,s2⟩
  clear RP b1 b2 b12 g1 g2 k1 k3 hlw s1 s2
  go_wp2_with fail
  refine HRP.out.mono ?_
  rintro e W3 ⟨H3,x1,x2,x3,rfl,g3,t3,h3,n3,f3⟩
  obtain ⟨rr,hrr⟩:=exH (replaceF a c top0 0 1 ps)
  have HL2':=HL2.out
  have HS2':=HS2.out
  have HN':=HN16.out
  rw [hrr.out] at g3 n3 HL2' HS2' HN' ⊢
  obtain ⟨p1,q1,p2,q2,p3,q3,rfl,rfl,rfl,_,_,_,_⟩:=n3.out
  obtain ⟨L1,hL1⟩:=exH rr.n.ks.length
  obtain ⟨L2,hL2⟩:=exH rr.n.vs.length
  obtain ⟨L3,hL3⟩:=exH rr.n.kd.length
  obtain ⟨lf,hlf⟩:=exH rr.n.lf
  obtain ⟨re,hre'⟩ : ∃ L,Hid (rr.e = L):=⟨_,rfl⟩
  rw [hL1.out,hL2.out,hL3.out] at n3 f3
  rw [hL1.out,hL2.out,hL3.out,hlf.out,hre'.out]
  have hz:=HSZ.out
  have TW : Tch H w W3:=(Tch.of_below (S:=H) HB12.out).trans t3 (fun y hy e => by
   rcases e with e | e | e
   ·exact e
   ·simp [Value.ownBlock] at e; omega
   ·simp [Value.ownBlock] at e; omega)
  have HH3 : Hid (∀ k,H3 k -> H k ∨ w.heap.size <= k):=fun k hk => (h3 k hk).imp id (fun e => by omega)
  obtain ⟨W4,hW4⟩:=exN (W3.alloc (.cells #[.bool false,.slice none 0 0,.slice none 0 0,.slice none 0 0] 93))
  have NB : Nb W4 93 W3.heap.size false (.slice none 0 0) (.slice none 0 0) (.slice none 0 0):=by rw [<- hW4]; exact nb_new _ _ _ _ _ _
  have b4 : Below W3.heap.size W3 W4:=by rw [<- hW4]; exact za9 _ _
  obtain ⟨W5,hW5⟩:=exN ((((W4.setCell ⟨W3.heap.size,0,none⟩ (.bool lf)).setCell ⟨W3.heap.size,1,none⟩ (.slice p1 L1 q1)).setCell ⟨W3.heap.size,2,none⟩ (.slice p2 L2 q2)).setCell ⟨W3.heap.size,3,none⟩ (.slice p3 L3 q3))
  have NC : Nb W5 93 W3.heap.size lf (.slice p1 L1 q1) (.slice p2 L2 q2) (.slice p3 L3 q3):=by rw [<- hW5]; exact NB.all _ _ _ _
  have t5 : Tch (fun y => y = W3.heap.size) W4 W5:=by rw [<- hW5]; exact zg9 _ _ _ _ _ _
  have t35 : Tch (fun _ => False) W3 W5:=(Tch.of_below b4).trans t5 (fun y hy e => by omega)
  have g5:=g3.tch t35 (fun _ _ e => e)
  have n5:=n3.tch t35 (fun _ _ e => e) (fun _ _ e => e) (fun _ _ e => e)
  have TW5 : Tch H w W5:=TW.trans t35 (fun _ _ e => e.elim)
  have WP:=zdl9 rr.n _ _ _ W5 g5 n5 HS2' HL2'
  unfold chp nod at WP
  rw [hcb.out,hlf.out] at WP
  have HWP:=hideN WP
  have HG5:=hideN g5
  have HTW5:=hideN TW5
  have HNN:=hideN HN'
  have nb0:=NB.c0
  have nb1:=NB.c1
  have nb2:=NB.c2
  have nb3:=NB.c3
  have nz0:=NB.fz 0
  have nz1:=NB.fz 1
  have nz2:=NB.fz 2
  have nz3:=NB.fz 3
  have nc0:=NC.c0
  have nc1:=NC.c1
  have nc2:=NC.c2
  have nc3:=NC.c3
  clear WP g3 t3 h3 n3 f3 g5 n5 TW TW5 t35 t5 b4 NB NC hz HL2' HS2' HN' HRP
  unfold nod
  by_cases hre : re = 0
  ·subst hre
   go_wp2_with fail
   refine HWP.out.mono ?_
   rintro e W6 ⟨rfl,H6,g6,t6,h6⟩
   have HR : Hid (RR = writeF rr.a rr.c rr.n):=by
    show RR = _
    rw [<- hRR.out,HNN.out,if_neg (by rw [hre'.out]; simp)]
   have HF : Hid (GzTo H w W6 t cc d M N RR.a b RR.c):=by
    show GzTo _ _ _ _ _ _ _ _ _ _ _
    rw [HR.out]
    exact ⟨H6,g6,HTW5.out.trans t6 (fun y hy e => (HH3.out y e).elim id (fun e => by omega)),fun k hk => (h6 k hk).elim (HH3.out k) (fun e => .inr (by have:=HTW5.out.size; omega))⟩
   have HRX : Hid ((writeF rr.a rr.c rr.n).x = RR.x /\ (writeF rr.a rr.c rr.n).e = RR.e):=by
    show _ /\ _
    rw [HR.out]
    exact ⟨rfl,rfl⟩
   rw [HRX.out.1,HRX.out.2]
   clear g6 t6 h6
   go_wp2_with fail
   go_ret2
   exact ⟨rfl,HF.out⟩
  ·have de1 : (re == 0) = false:=by rw [beq_eq_false_iff_ne]; exact hre
   have de2 : (re != 0) = true:=by rw [bne,de1]; rfl
   have HR : Hid (RR = ⟨0,re,rr.a,rr.c⟩):=by
    show RR = _
    rw [<- hRR.out,HNN.out,if_pos (by rw [hre'.out]; exact hre),hre'.out]
   clear hre
   go_wp2_with fail
   go_ret2
   rw [HR.out]
   exact ⟨rfl,H3,HG5.out,HTW5.out,HH3.out⟩
end
def BelT (H : Nat -> Prop) (w : World) (t cc d M N : Nat) (b : CB) (r : BR) (e : Ending) (w' : World) : Prop:=
 ∃ H' Z v,e = .returned (.tuple #[v,.int .i64 r.e]) /\ Gz H' w' t cc d M N r.a b r.c /\ Tch H w w' /\ (∀ k,H' k -> H k ∨ w.heap.size <= k) /\ Ps Z w' v r.ps /\ (∀ k,Z k -> w.heap.size <= k /\ k < w'.heap.size /\ ¬ H' k)
section
variable {H : Nat -> Prop} {t cc d M N : Nat} {a : AS} {b : CB} {c : CH}
theorem Gz.after {H' : Nat -> Prop} {w w1 w2 : World} {a : AS} {c : CH} (t1 : Tch H w w1) (h1 : ∀ k,H' k -> H k ∨ w.heap.size <= k) (g : GzTo H' w1 w2 t cc d M N a b c) : GzTo H w w2 t cc d M N a b c:=by
 obtain ⟨H6,g6,t6,h6⟩:=g
 exact ⟨H6,g6,t1.trans t6 (fun y hy e => (h1 y e).elim id (fun e => by omega)),fun k hk => (h6 k hk).elim (h1 k) (fun e => .inr (by have:=t1.size; omega))⟩
theorem zlh9 (D : CD) (x : Int) (w : World) (Qk : Prop)
  (hp : Calls Tryz.prog 113 #[chp b,.int .i64 x] w fun e w' => BelT H w t cc d M N b (partsF D a c x) e w' /\ Qk)
  (hQ : Qk -> (∀ p,p ∈ (partsF D a c x).ps -> Sm p) /\ (partsF D a c x).c.tk.length <= 1000 /\ (partsF D a c x).c.lv <= 1000 ∧
  (replaceF (partsF D a c x).a (partsF D a c x).c top0 0 1 (partsF D a c x).ps).c.tk.length <= 100000 /\ Sm (replaceF (partsF D a c x).a (partsF D a c x).c top0 0 1 (partsF D a c x).ps).n) :
  Calls Tryz.prog 85 #[chp b,.int .i64 x] w fun e w' => e = .returned (.tuple #[.int .i64 (rootedF D a c x).x,.int .i64 (rootedF D a c x).e]) /\ GzTo H w w' t cc d M N (rootedF D a c x).a b (rootedF D a c x).c /\ Qk:=by
 obtain ⟨r,hr⟩:=exH (partsF D a c x)
 rw [hr.out] at hp hQ
 obtain ⟨RR,hRR⟩:=exH (rootedF D a c x)
 rw [hRR.out]
 have HRR : Hid (RR = if r.e ≠ 0 then ⟨0,r.e,r.a,r.c⟩ else if r.ps.length = 0 then ⟨0,0,r.a,r.c⟩ else if r.ps.length = 1 then (if (r.ps.getD 0 noneN).kd.length = 1 then ⟨dA (r.ps.getD 0 noneN) 0,0,r.a,r.c⟩ else writeF r.a r.c (r.ps.getD 0 noneN)) else raiseF r.a r.c r.ps):=by
  show RR = _
  rw [<- hRR.out]
  unfold rootedF
  rw [hr.out]
 have HP:=hideN hp
 have HQ:=hideN hQ
 obtain ⟨cb,hcb⟩:=exH b.cb
 unfold chp at HP ⊢
 rw [hcb.out] at HP ⊢
 clear hp hQ
 go_enter Tryz.func85,Tryz.ntmps85
 go_wp2_with fail
 refine HP.out.mono ?_
 rintro e W1 ⟨⟨H1,Z,v,rfl,g1,t1,h1,p1,z1⟩,hq⟩
 obtain ⟨hs,hl,hlv,hl2,hs2⟩:=HQ.out hq
 have HS:=hideN hs
 have HL:=hideN hl
 have HLV:=hideN hlv
 have HL2:=hideN hl2
 have HS2:=hideN hs2
 have HK:=hideN hq
 clear hs hl hlv hl2 hs2 hq
 obtain ⟨hpl2,va,rfl⟩:=p1.len
 obtain ⟨pl,hpl⟩:=exH r.ps.length
 obtain ⟨re,hre'⟩ : ∃ L,Hid (r.e = L):=⟨_,rfl⟩
 rw [hpl.out] at p1 hpl2 ⊢
 rw [hre'.out]
 have HG1:=hideN g1
 have HT1:=hideN t1
 have HH1:=hideN h1
 have HP1:=hideN p1
 have HZ1:=hideN z1
 clear g1 t1 h1 p1 z1
 by_cases hre : re = 0
 ·subst hre
  by_cases h0 : pl = 0
  ·subst h0
   have HR : Hid (RR = ⟨0,0,r.a,r.c⟩):=by
    show RR = _
    rw [HRR.out,if_neg (by rw [hre'.out]; simp),if_pos hpl.out]
   go_wp2_with fail
   go_ret2
   rw [HR.out]
   exact ⟨rfl,⟨H1,HG1.out,HT1.out,HH1.out⟩,HK.out⟩
  ·by_cases h1 : pl = 1
   ·subst h1
    obtain ⟨n,hn⟩ : ∃ n,r.ps = [n]:=by
     have:=hpl.out
     match hh : r.ps,this with
     | [n],_ => exact ⟨n,rfl⟩
    have HPn:=HP1.out
    rw [hn] at HPn
    obtain ⟨q,u1,u2,u3,hv,hq,nn,zq,zu⟩:=HPn
    cases hv
    obtain ⟨a1,c1,a2,c2,a3,c3,rfl,rfl,rfl,_,_,_,_⟩:=nn.out
    obtain ⟨L1,hL1⟩:=exH n.ks.length
    obtain ⟨L2,hL2⟩:=exH n.vs.length
    obtain ⟨L3,hL3⟩:=exH n.kd.length
    obtain ⟨lf,hlf⟩:=exH n.lf
    rw [hL1.out,hL2.out,hL3.out] at nn
    rw [hL1.out,hL2.out,hL3.out,hlf.out] at hq
    have hc:=fun i => cell_of_row W1 q i _ _ (0,0) hq
    have k0 : W1.cell? ⟨q,0,none⟩ = some (.bool lf):=by rw [hc]; rfl
    have k1 : W1.cell? ⟨q,1,none⟩ = some (.slice a1 L1 c1):=by rw [hc]; rfl
    have k2 : W1.cell? ⟨q,2,none⟩ = some (.slice a2 L2 c2):=by rw [hc]; rfl
    have k3 : W1.cell? ⟨q,3,none⟩ = some (.slice a3 L3 c3):=by rw [hc]; rfl
    have HNN:=hideN nn
    have hgd : Hid (r.ps.getD 0 noneN = n):=by show _ = _; rw [hn]; rfl
    by_cases h3 : L3 = 1
    ·subst h3
     obtain ⟨kb,ko,rfl,ck⟩:=nn.kid (i:=0) (by rw [hL3.out]; decide)
     rw [Nat.add_zero] at ck
     obtain ⟨kd,hkd⟩:=exH (dA n 0)
     rw [hkd.out] at ck
     have HR : Hid (RR = ⟨kd,0,r.a,r.c⟩):=by
      show RR = _
      rw [HRR.out,if_neg (by rw [hre'.out]; simp),if_neg (by rw [hpl.out]; simp),if_pos hpl.out,hgd.out,if_pos hL3.out,hkd.out]
     clear hc hq nn zq zu h0
     go_wp2_with fail
     go_ret2
     rw [HR.out]
     exact ⟨rfl,⟨H1,HG1.out,HT1.out,HH1.out⟩,HK.out⟩
    ·have d3 : decide ((L3 : Int) = 1) = false:=by rw [zn4]; omega
     have e3 : ((L3 : Int) == 1) = false:=by rw [beq_eq_false_iff_ne]; omega
     have HR : Hid (RR = writeF r.a r.c n):=by
      show RR = _
      rw [HRR.out,if_neg (by rw [hre'.out]; simp),if_neg (by rw [hpl.out]; simp),if_pos hpl.out,hgd.out,if_neg (by rw [hL3.out]; exact h3)]
     have WP:=zdl9 n _ _ _ W1 HG1.out nn (HS.out n (by rw [hn]; simp)) (by have:=HL.out; omega)
     unfold chp nod at WP
     rw [hcb.out,hlf.out,<- HR.out] at WP
     have HWP:=hideN WP
     clear hc hq nn zq zu h0 WP
     go_wp2_with fail
     refine HWP.out.mono ?_
     rintro e W6 ⟨rfl,g6⟩
     have HF:=hideN (Gz.after HT1.out HH1.out g6)
     clear g6
     go_wp2_with fail
     go_ret2
     exact ⟨rfl,HF.out,HK.out⟩
   ·have h2 : pl = 2:=by omega
    subst h2
    have HR : Hid (RR = raiseF r.a r.c r.ps):=by
     show RR = _
     rw [HRR.out,if_neg (by rw [hre'.out]; simp),if_neg (by rw [hpl.out]; simp),if_neg (by rw [hpl.out]; simp)]
    have WP:=zle9 r.ps _ Z W1 HG1.out HP1.out (fun k hk => (HZ1.out k hk).2.2) HS.out HL.out HLV.out HL2.out HS2.out
    unfold chp at WP
    rw [hcb.out,<- HR.out] at WP
    have HWP:=hideN WP
    clear WP h0 h1
    go_wp2_with fail
    refine HWP.out.mono ?_
    rintro e W6 ⟨rfl,g6⟩
    have HF:=hideN (Gz.after HT1.out HH1.out g6)
    clear g6
    go_wp2_with fail
    go_ret2
    exact ⟨rfl,HF.out,HK.out⟩
 ·have de1 : (re == 0) = false:=by rw [beq_eq_false_iff_ne]; exact hre
  have de2 : (re != 0) = true:=by rw [bne,de1]; rfl
  have HR : Hid (RR = ⟨0,re,r.a,r.c⟩):=by
   show RR = _
   rw [HRR.out,if_pos (by rw [hre'.out]; exact hre),hre'.out]
  clear hre
  go_wp2_with fail
  go_ret2
  rw [HR.out]
  exact ⟨rfl,⟨H1,HG1.out,HT1.out,HH1.out⟩,HK.out⟩
end
section
variable {H : Nat -> Prop} {t cc d M N : Nat} {a : AS} {b : CB}
theorem zqp9 (D : CD) (x : Int) (w : World) (Qk : Prop)
  (hp : Calls Tryz.prog 85 #[chp b,.int .i64 x] w fun e w' => e = .returned (.tuple #[.int .i64 (rootedF D a ch0 x).x,.int .i64 (rootedF D a ch0 x).e]) /\ GzTo H w w' t cc d M N (rootedF D a ch0 x).a b (rootedF D a ch0 x).c /\ Qk)
  (hl : Qk -> (rootedF D a ch0 x).c.tk.length <= 100000 /\ (rootedF D a ch0 x).c.gn.length <= 100000) :
  Calls Tryz.prog 53 #[chp b,.int .i64 x] w fun e w' => e = .returned (.tuple #[.int .i64 (madeF D a x).x,.int .i64 (madeF D a x).e]) /\ TzTo H w w' t cc d M N (madeF D a x).a:=by
 obtain ⟨r,hr⟩:=exH (rootedF D a ch0 x)
 rw [hr.out] at hp hl
 obtain ⟨RR,hRR⟩:=exH (madeF D a x)
 rw [hRR.out]
 have HRR : Hid (RR = if r.e ≠ 0 then ⟨0,r.e,r.a.gos r.c.tk⟩ else ⟨r.x,0,r.a.gos r.c.gn⟩):=by
  show RR = _
  rw [<- hRR.out]
  unfold madeF
  rw [hr.out]
 obtain ⟨re,hre'⟩ : ∃ L,Hid (r.e = L):=⟨_,rfl⟩
 obtain ⟨rx,hrx⟩:=exH r.x
 rw [hre'.out,hrx.out] at hp
 have HP:=hideN hp
 have HL:=hideN hl
 obtain ⟨cb,hcb⟩:=exH b.cb
 unfold chp at HP ⊢
 rw [hcb.out] at HP ⊢
 clear hp hl
 go_enter Tryz.func53,Tryz.ntmps53
 go_wp2_with fail
 refine HP.out.mono ?_
 rintro e W1 ⟨rfl,⟨H1,⟨U,vt,vg,g1⟩,t1,h1⟩,hq⟩
 obtain ⟨ta,tc,hvt⟩:=g1.cg.tk.long
 obtain ⟨ga,gc,hvg⟩:=g1.cg.gn.long
 subst hvt hvg
 obtain ⟨LT,hLT⟩:=exH ((nums r.c.tk).length)
 obtain ⟨LG,hLG⟩:=exH ((nums r.c.gn).length)
 rw [hLT.out,hLG.out] at g1
 have n2:=g1.tz.n2
 have k0 : W1.drew.cell? ⟨cb,0,none⟩ = some (tp t):=by rw [<- hcb.out]; exact (g1.cg.cell 0).trans rfl
 have k5 : W1.drew.cell? ⟨cb,5,none⟩ = some (.slice ta LT tc):=by rw [<- hcb.out]; exact (g1.cg.cell 5).trans rfl
 have k6 : W1.drew.cell? ⟨cb,6,none⟩ = some (.slice ga LG gc):=by rw [<- hcb.out]; exact (g1.cg.cell 6).trans rfl
 have TD : Tch (fun _ => False) W1 W1.drew:=zp9 _ _
 have T1 : Tch H w W1.drew:=t1.trans TD (fun _ _ e => e.elim)
 have ncb : ¬ U cb:=by rw [<- hcb.out]; exact g1.un _ (.inl rfl)
 have zd : Tz U W1.drew t cc d M N r.a:=g1.tz.tch TD (fun _ _ e => e)
 have hU : ∀ k,U k -> H k ∨ w.heap.size <= k:=fun k hk => h1 k (g1.hx k (.inl hk))
 have HST : Hid (∀ W X,TzTo U W1.drew W t cc d M N X -> (W.cell? ⟨cb,0,none⟩ = some (tp t) /\ W.cell? ⟨cb,5,none⟩ = some (.slice ta LT tc) /\ W.cell? ⟨cb,6,none⟩ = some (.slice ga LG gc)) /\ TzTo H w W t cc d M N X):=fun W X hW => by
  have e2:=TzTo.after T1 hU hW
  obtain ⟨U',z,tt,_⟩:=hW
  have q : ∀ i v,W1.drew.cell? ⟨cb,i,none⟩ = some v -> W.cell? ⟨cb,i,none⟩ = some v:=fun i v h => by rw [tt.cell (p:=⟨cb,i,none⟩) (World.block_lt_of_cell? W1.drew ⟨cb,i,none⟩ h) ncb]; exact h
  exact ⟨⟨q _ _ k0,q _ _ k5,q _ _ k6⟩,e2⟩
 have hS : W1.drew.cell? ⟨cb,0,none⟩ = some (tp t) /\ W1.drew.cell? ⟨cb,5,none⟩ = some (.slice ta LT tc) /\ W1.drew.cell? ⟨cb,6,none⟩ = some (.slice ga LG gc):=⟨k0,k5,k6⟩
 have hlL:=HL.out hq
 have LTk:=zhh9 r.c.tk (fun y hy => by have:=g1.cg.wf y (.inl hy); exact zap9 (by omega) (by omega)) (.slice ta LT tc) W1.drew zd (g1.cg.tk.rd.tch TD (fun _ _ e => e)) (fun j hj => g1.un j (.inr (.inl hj))) (by omega)
 have LGn:=zhh9 r.c.gn (fun y hy => by have:=g1.cg.wf y (.inr hy); exact zap9 (by omega) (by omega)) (.slice ga LG gc) W1.drew zd (g1.cg.gn.rd.tch TD (fun _ _ e => e)) (fun j hj => g1.un j (.inr (.inr hj))) (by omega)
 have HLT:=hideN LTk
 have HLG:=hideN LGn
 clear LTk LGn hlL hU zd ncb T1 TD k0 k5 k6 n2 g1 t1 h1
 by_cases hre : re = 0
 ·subst hre
  have HR : Hid (RR = ⟨rx,0,r.a.gos r.c.gn⟩):=by
   show RR = _
   rw [HRR.out,if_neg (by rw [hre'.out]; simp),hrx.out]
  go_wp2_with fail
  go_region_held3 (fun w' => w'.cell? ⟨cb,0,none⟩ = some (tp t) /\ w'.cell? ⟨cb,5,none⟩ = some (.slice ta LT tc) /\ w'.cell? ⟨cb,6,none⟩ = some (.slice ga LG gc)) (first | go_keep | exact hS9)
   (first
    | (go_at_call 58; refine HLG.out.mono ?_; rintro e W9 ⟨rfl,h9⟩; obtain ⟨hS9,g9⟩:=HST.out W9 _ h9; have HG9:=hideN g9; clear h9 g9))
  go_wp2_with fail
  go_ret2
  rw [HR.out]
  exact ⟨rfl,HG9.out⟩
 ·have de1 : (re == 0) = false:=by rw [beq_eq_false_iff_ne]; exact hre
  have de2 : (re != 0) = true:=by rw [bne,de1]; rfl
  have HR : Hid (RR = ⟨0,re,r.a.gos r.c.tk⟩):=by
   show RR = _
   rw [HRR.out,if_pos (by rw [hre'.out]; exact hre),hre'.out]
  clear hre
  go_wp2_with fail
  go_region_held3 (fun w' => w'.cell? ⟨cb,0,none⟩ = some (tp t) /\ w'.cell? ⟨cb,5,none⟩ = some (.slice ta LT tc) /\ w'.cell? ⟨cb,6,none⟩ = some (.slice ga LG gc)) (first | go_keep | exact hS9)
   (first
    | (go_at_call 58; refine HLT.out.mono ?_; rintro e W9 ⟨rfl,h9⟩; obtain ⟨hS9,g9⟩:=HST.out W9 _ h9; have HG9:=hideN g9; clear h9 g9))
  go_wp2_with fail
  go_ret2
  rw [HR.out]
  exact ⟨rfl,HG9.out⟩
end
end Go.Proofs.YtjhccpijpffahaaGreat
