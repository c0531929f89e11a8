import Derived.Test.YtjhccpijpffahaaGreatPTRpl
import Derived.Test.YtjhccpijpffahaaGreatPNCut
set_option maxRecDepth 100000
set_option linter.unusedVariables false
set_option linter.unusedSimpArgs false
set_option maxHeartbeats 8000000
namespace Go.Proofs.YtjhccpijpffahaaGreat
open Go.RowKit Go.Maps Pl
def JndT (H : Nat -> Prop) (w : World) (t cc d M N : Nat) (a : AS) (b : CB) (p1 p2 p3 : Value) (r : JR) (e : Ending) (w' : World) : Prop:=
 ∃ H' x1 x2 x3,e = .returned (.tuple #[nod r.n.lf x1 x2 x3,.int .i64 (r.i : Int),.int .i64 (r.j : Int),.int .i64 r.e]) /\ Gz H' w' t cc d M N a b r.c /\ Tch H w w' /\ (∀ k,H' k -> H k ∨ w.heap.size <= k) /\ Nn w' r.n x1 x2 x3 ∧
  (∀ j,(x1.ownBlock = some j ∨ x2.ownBlock = some j ∨ x3.ownBlock = some j) -> (p1.ownBlock = some j ∨ p2.ownBlock = some j ∨ p3.ownBlock = some j ∨ w.heap.size <= j) /\ ¬ H' j)
structure JnI (H : Nat -> Prop) (w1 : World) (t cc d M N : Nat) (a : AS) (b : CB) (c : CH) (wr : World) (H' : Nat -> Prop) : Prop where
 gz : Gz H' wr t cc d M N a b c
 tc : Tch H w1 wr
 hh : ∀ j,H' j -> H j ∨ w1.heap.size <= j
section
variable {H : Nat -> Prop} {t cc d M N : Nat} {a : AS} {b : CB} {c : CH}
def RdG (H : Nat -> Prop) (w : World) (t cc d M N : Nat) (a : AS) (b : CB) (c : CH) (r : Int × Nd) (e : Ending) (w' : World) : Prop:=
 ∃ H' v1 v2 v3,e = .returned (.tuple #[nod r.2.lf v1 v2 v3,.int .i64 r.1]) /\ Ow3 w.heap.size w' r.2 v1 v2 v3 /\ Gz H' w' t cc d M N a b c /\ Tch H w w' /\ (∀ k,H' k -> H k ∨ w.heap.size <= k) /\ Ap3 H' v1 v2 v3
theorem zho9 (x : Int) (lv : Nat) (w : World) (G : Gz H w t cc d M N a b c) :
  Calls Tryz.prog 106 #[tp t,.int .i64 x,.int .i64 (lv : Int)] w fun e w' => RdG H w t cc d M N a b c (look a x lv) e w':=by
 obtain ⟨U,vt,vg,h⟩:=G
 refine (zhp9 x lv w h.tz).mono ?_
 rintro e w' ⟨v1,v2,v3,rfl,ho,U',h1,h2,h3,h4⟩
 obtain ⟨U2,g1,g2,g3⟩:=h.tzTo ⟨U',h1,h2,h3⟩
 have hlt : ∀ k,(k = b.cb ∨ vt.ownBlock = some k ∨ vg.ownBlock = some k) -> k < w.heap.size:=fun k hk => h.hl k (h.hx k (.inr hk))
 -- the same,with U' itself
 have G' : GzAt (fun k => H k ∨ U' k) w' t cc d M N a b c U' vt vg:=⟨h1,h.cg.tch h2 (fun k hk => h.un k hk),fun k hk e => (h3 k e).elim (h.un k hk) (fun e => by have:=hlt k hk; omega),fun k hk => hk.elim .inr (fun e => .inl (h.hx k (.inr e))),fun k hk => hk.elim (fun e => zn1 (h.hl k e) h2.size) (h1.ul k)⟩
 refine ⟨_,v1,v2,v3,rfl,ho,⟨U',vt,vg,G'⟩,h2.mono (fun k _ e => h.hx k (.inl e)),fun k hk => hk.elim .inl (fun e => (h3 k e).imp (fun q => h.hx k (.inl q)) id),fun j hj e => ?_⟩
 rcases e with e | e
 ·have:=h.hl j e
  have:=ho.fr j hj
  omega
 ·exact h4 j hj e
theorem zq9 {fn : Func} {p u v x : Tmp} {ty : TypeId} (h : fn.results = #[.cell p ty,.tmp u,.tmp v,.tmp x]) (tmps : Array Value) (P : Program) (w : World) (b : Nat) (r r1 r2 r3 : Value) (ha : tmps.getD p undef = .pointer (some ⟨b,0,none⟩))
  (hl : (loadVar ty ⟨b,0,none⟩).run P w = .ok r w) (h1 : tmps.getD u undef = r1) (h2 : tmps.getD v undef = r2) (h3 : tmps.getD x undef = r3) : (results fn tmps).run P w = .ok (.tuple #[r,r1,r2,r3]) w:=by
 rw [Array.getD_eq_getD_getElem?] at ha h1 h2 h3
 simp only [results,h]
 simp [Sem.run_bind,Result.andThen,asAddr]
 rw [ha,h1,h2,h3]
 simp [hl]
theorem zku9 {m : Nd} (h : mayN m = true) (hs : Sm m) : m.ks.length <= 1000 /\ m.vs.length <= 1000 /\ m.kd.length <= 1000:=by
 have hm:=zw9.1 h
 have hr:=zep9 hm (by have:=hs.kl; omega)
 have h1:=enc_le hr (zn6 _)
 rw [zjr9 hr (zn6 _)] at h1
 have h2:=szN_ge m m.ks.length
 obtain ⟨_,_,_,h3⟩:=hm
 split at h3
 ·obtain ⟨_,e1,e2⟩:=h3
  omega
 ·obtain ⟨_,e1,e2⟩:=h3
  omega
theorem zjx9 {α : Type} (xs ys : List α) (i : Nat) (z : α) : (xs ++ ys).getD i z = if i < xs.length then xs.getD i z else ys.getD (i - xs.length) z:=by
 simp only [zn3]
 split
 ·rw [List.getElem?_append_left (by assumption)]
 ·rw [List.getElem?_append_right (by omega)]
theorem zce9 {n m : Nd} (hn : Sm n) (hm : Sm m) (h1 : n.ks.length + m.ks.length <= 4000) (h2 : n.vs.length + m.vs.length <= 4000) (h3 : n.kd.length + m.kd.length <= 4000) : Sm (joinN n m):=by
 refine ⟨fun i => ?_,fun i => ?_,?_,?_,?_⟩
 ·show ((n.ks ++ m.ks).getD i eS).size <= _
  rw [zjx9]
  split
  ·exact hn.ks i
  ·exact hm.ks _
 ·show ((n.vs ++ m.vs).getD i eS).size <= _
  rw [zjx9]
  split
  ·exact hn.vs i
  ·exact hm.vs _
 ·show (n.ks ++ m.ks).length <= _
  rw [List.length_append]; omega
 ·show (n.vs ++ m.vs).length <= _
  rw [List.length_append]; omega
 ·show (n.kd ++ m.kd).length <= _
  rw [List.length_append]; omega
theorem idx2a (x y : Int) (w : World) : (Instr.index 245 (.agg #[.int .i64 x,.int .i64 y]) (.int .i64 0)).run Tryz.prog w = .ok (.int .i64 x) w:=by kernel_rfl
theorem idx2b (x y : Int) (w : World) : (Instr.index 245 (.agg #[.int .i64 x,.int .i64 y]) (.int .i64 1)).run Tryz.prog w = .ok (.int .i64 y) w:=by kernel_rfl
theorem zih9 (n p : Nd) (u1 u2 u3 p1 p2 p3 : Value) (at_ lv : Nat) (w : World) (G : Gz H w t cc d M N a b c) (hn : Nn w n u1 u2 u3) (hp : Nn w p p1 p2 p3) (ha : Ap3 H u1 u2 u3) (hap : Ap3 H p1 p2 p3) (hpl : ∀ j,(p1.ownBlock = some j ∨ p2.ownBlock = some j ∨ p3.ownBlock = some j) -> j < w.heap.size) (hsp : Sm p) (hpk : p.ks.length <= 1000 /\ p.vs.length <= 1000 /\ p.kd.length <= 1000) (hat : at_ <= 1000) (hlv : lv <= 1000) (hnk : n.kd.length <= 1000) (hkd : ∀ i,i < n.kd.length -> 0 <= dA n i /\ dA n i <= 65535) (hl : c.gn.length <= 1000) (hV : ∀ x,(a.V x).1 = 0 -> mayN (a.V x).2 = true /\ Sm (a.V x).2) :
  Calls Tryz.prog 160 #[chp b,nod n.lf u1 u2 u3,.int .i64 (at_ : Int),.int .i64 (lv : Int),nod p.lf p1 p2 p3] w fun e w' => JndT H w t cc d M N a b p1 p2 p3 (joinedF a c n at_ lv p) e w':=by
 obtain ⟨a1,c1,a2,c2,a3,c3,rfl,rfl,rfl,_,_,_,_⟩:=hn.out
 obtain ⟨d1,f1,d2,f2,d3,f3,rfl,rfl,rfl,_,_,_,_⟩:=hp.out
 obtain ⟨L1,hL1⟩:=exH n.ks.length
 obtain ⟨L2,hL2⟩:=exH n.vs.length
 obtain ⟨L3,hL3⟩:=exH n.kd.length
 obtain ⟨lf,hlf⟩:=exH n.lf
 obtain ⟨P1,hP1⟩:=exH p.ks.length
 obtain ⟨P2,hP2⟩:=exH p.vs.length
 obtain ⟨P3,hP3⟩:=exH p.kd.length
 obtain ⟨pf,hpf⟩:=exH p.lf
 rw [hL1.out,hL2.out,hL3.out] at hn ha ⊢
 rw [hP1.out,hP2.out,hP3.out] at hp hap hpl ⊢
 rw [hL3.out] at hnk hkd
 rw [hlf.out,hpf.out]
 obtain ⟨W1,hW1⟩:=exN (w.alloc (.cells #[.bool lf,.slice a1 L1 c1,.slice a2 L2 c2,.slice a3 L3 c3] 93))
 obtain ⟨W2,hW2⟩:=exN (W1.alloc (.cells #[.bool pf,.slice d1 P1 f1,.slice d2 P2 f2,.slice d3 P3 f3] 93))
 obtain ⟨W3,hW3⟩:=exN (W2.alloc (.cells #[.bool false,.slice none 0 0,.slice none 0 0,.slice none 0 0] 93))
 have s1 : W1.heap.size = w.heap.size + 1:=by rw [<- hW1]; simp
 have s2 : W2.heap.size = w.heap.size + 2:=by rw [<- hW2]; simp [s1]
 have s3 : W3.heap.size = w.heap.size + 3:=by rw [<- hW3]; simp [s2]
 have b1 : Below w.heap.size w W1:=by rw [<- hW1]; exact za9 _ _
 have b2 : Below W1.heap.size W1 W2:=by rw [<- hW2]; exact za9 _ _
 have b3 : Below W2.heap.size W2 W3:=by rw [<- hW3]; exact za9 _ _
 have b12 : Below w.heap.size w W2:=b1.trans (b2.mono b1.size)
 have b13 : Below w.heap.size w W3:=b12.trans (b3.mono b12.size)
 have V3 : Nb W3 93 w.heap.size lf (.slice a1 L1 c1) (.slice a2 L2 c2) (.slice a3 L3 c3):=by
  have : Nb W1 93 w.heap.size lf (.slice a1 L1 c1) (.slice a2 L2 c2) (.slice a3 L3 c3):=by rw [<- hW1]; exact nb_new _ _ _ _ _ _
  exact (this.below b2).below b3
 have P3' : Nb W3 93 W1.heap.size pf (.slice d1 P1 f1) (.slice d2 P2 f2) (.slice d3 P3 f3):=by
  have : Nb W2 93 W1.heap.size pf (.slice d1 P1 f1) (.slice d2 P2 f2) (.slice d3 P3 f3):=by rw [<- hW2]; exact nb_new _ _ _ _ _ _
  exact this.below b3
 have X3 : Nb W3 93 W2.heap.size false (.slice none 0 0) (.slice none 0 0) (.slice none 0 0):=by rw [<- hW3]; exact nb_new _ _ _ _ _ _
 have HSZ : Hid (W1.heap.size = w.heap.size + 1 /\ W2.heap.size = w.heap.size + 2 /\ W3.heap.size = w.heap.size + 3):=⟨s1,s2,s3⟩
 have HV3:=hideN V3
 have HP3:=hideN P3'
 have HX3:=hideN X3
 have HB:=hideN b13
 have HG:=hideN G
 have HN:=hideN hn
 have HP:=hideN hp
 have HA:=hideN ha
 have HAP:=hideN hap
 have HPL:=hideN hpl
 have HSP:=hideN hsp
 have HPK:=hideN hpk
 have HKD:=hideN hkd
 have HGL:=hideN hl
 have HHL:=hideN G.hl
 have HVV:=hideN hV
 obtain ⟨cb,hcb⟩:=exH b.cb
 obtain ⟨RR,hRR⟩:=exH (joinedF a c n at_ lv p)
 rw [hRR.out]
 unfold chp nod
 rw [hcb.out]
 have w1:=zbf9 (x:=(at_ : Int) - 1) (by omega) (by omega)
 have w2:=zbf9 (x:=(at_ : Int) + 1) (by omega) (by omega)
 clear G hn hp ha hap hpl hsp hpk hkd hl hV b1 b2 b3 b12 b13 V3 P3' X3 s1 s2 s3
 go_enter Tryz.func160,Tryz.ntmps160
 go_wp2_with fail
 go_loopw [25] (fun kv wr => ∃ (k : Nat) (H' : Nat -> Prop),k <= 2 /\ kv = .int .i64 k /\ Hid (JnI H W3 t cc d M N a b c wr H' /\ (1 <= k -> besF a c n at_ lv p ((at_ : Int) - 1) = none) /\ (2 <= k -> besF a c n at_ lv p ((at_ : Int) + 1) = none))) (fun kv _ => 2 - (intOf kv).toNat)
 case atStart => exact ⟨0,H,by omega,rfl,⟨⟨HG.out.below HB.out,Tch.refl _ _,fun _ e => .inl e⟩,fun e => by omega,fun e => by omega⟩⟩
 case round =>
  obtain ⟨k,H',hk,rfl,hI⟩:=hrel
  by_cases hkt : k < 2
  ·have I:=hI.out
   obtain ⟨bv,hbv⟩ : ∃ bv : Int,bv = (if k = 0 then (at_ : Int) - 1 else (at_ : Int) + 1):=⟨_,rfl⟩
   have hix : (Instr.index 245 (.agg #[.int .i64 ((at_ : Int) - 1),.int .i64 ((at_ : Int) + 1)]) (.int .i64 (k : Int))).run Tryz.prog wr = .ok (.int .i64 bv) wr:=by
    have : k = 0 ∨ k = 1:=by omega
    rcases this with rfl | rfl
    ·rw [hbv,if_pos rfl]; exact idx2a _ _ _
    ·rw [hbv,if_neg (by decide)]; exact idx2b _ _ _
   have hki : (k : Int) < 2:=by omega
   have hk0 : (0 : Int) <= (k : Int):=by omega
   have hbr : -1 <= bv /\ bv <= 1001:=by rw [hbv]; split <;> omega
   have NXT : besF a c n at_ lv p bv = none -> ((1 <= k + 1 -> besF a c n at_ lv p ((at_ : Int) - 1) = none) /\ (2 <= k + 1 -> besF a c n at_ lv p ((at_ : Int) + 1) = none)):=fun e => by
    have : k = 0 ∨ k = 1:=by omega
    rcases this with rfl | rfl
    ·rw [hbv,if_pos rfl] at e
     exact ⟨fun _ => e,fun q => by omega⟩
    ·rw [hbv,if_neg (by decide)] at e
     exact ⟨fun _ => I.2.1 (by omega),fun _ => e⟩
   have hz:=HSZ.out
   have hsr : W3.heap.size <= wr.heap.size:=I.1.tc.size
   have nHw : ∀ y,w.heap.size <= y -> ¬ H y:=fun y h1 e => by have:=HHL.out y e; omega
   have V0 : Nb wr 93 w.heap.size lf (.slice a1 L1 c1) (.slice a2 L2 c2) (.slice a3 L3 c3):=HV3.out.tch I.1.tc (nHw _ (zn6 _))
   have P0 : Nb wr 93 W1.heap.size pf (.slice d1 P1 f1) (.slice d2 P2 f2) (.slice d3 P3 f3):=HP3.out.tch I.1.tc (nHw _ (by omega))
   have X0 : Nb wr 93 W2.heap.size false (.slice none 0 0) (.slice none 0 0) (.slice none 0 0):=HX3.out.tch I.1.tc (nHw _ (by omega))
   have TW : Tch H w wr:=(Tch.of_below HB.out).trans I.1.tc (fun _ _ e => e)
   have q3:=V0.c3
   have HII:=hideN I
   have HNX:=hideN NXT
   have HKB : Hid (bv = (if k = 0 then (at_ : Int) - 1 else (at_ : Int) + 1)):=hbv
   by_cases hout : bv < 0 ∨ (L3 : Int) <= bv
   ·have HN0 : Hid (besF a c n at_ lv p bv = none):=by show _ = _; unfold besF; rw [if_pos (by rw [hL3.out]; exact hout)]
    clear I hI hbv V0 P0 X0 TW nHw hz hsr NXT
    by_cases hneg : bv < 0
    ·have e1 : decide (bv < 0) = true:=by rw [decide_eq_true_iff]; exact hneg
     clear hout
     go_wp2_with fail
     exact ⟨⟨k + 1,H',by omega,by rfl,⟨HII.out.1,HNX.out HN0.out⟩⟩,by simp [intOf]; omega⟩
    ·have e1 : decide (bv < 0) = false:=by rw [zn4]; exact hneg
     have e2 : (L3 : Int) <= bv:=hout.resolve_left hneg
     have e3 : bv ≥ (L3 : Int):=e2
     have e4 : decide (bv ≥ (L3 : Int)) = true:=by rw [decide_eq_true_iff]; exact e2
     have e5 : decide ((L3 : Int) <= bv) = true:=by rw [decide_eq_true_iff]; exact e2
     clear hout hneg
     go_wp2_with fail
     exact ⟨⟨k + 1,H',by omega,by rfl,⟨HII.out.1,HNX.out HN0.out⟩⟩,by simp [intOf]; omega⟩
   ·obtain ⟨bi,rfl⟩ : ∃ bi : Nat,bv = bi:=⟨bv.toNat,by omega⟩
    have hbl : bi < L3:=by omega
    have hnn : Nn wr n (.slice a1 L1 c1) (.slice a2 L2 c2) (.slice a3 L3 c3):=HN.out.tch TW (fun y hy => HA.out y (.inl hy)) (fun y hy => HA.out y (.inr (.inl hy))) (fun y hy => HA.out y (.inr (.inr hy)))
    obtain ⟨kb,ko,rfl,ck⟩:=hnn.kid (i:=bi) (by rw [hL3.out]; exact hbl)
    obtain ⟨kid,hkid⟩:=exH (dA n bi)
    rw [hkid.out] at ck
    have HKR : Hid (0 <= kid /\ kid <= 65535):=by rw [<- hkid.out]; exact HKD.out bi hbl
    have e1 : decide ((bi : Int) < 0) = false:=by rw [zn4]; omega
    have e2 : decide ((bi : Int) ≥ (L3 : Int)) = false:=by rw [zn4]; omega
    have e3 : decide ((L3 : Int) <= (bi : Int)) = false:=by rw [zn4]; omega
    have e4 : decide (L3 <= bi) = false:=by rw [zn4]; omega
    have i0 : (0 : Int) <= (bi : Int):=by omega
    have i1 : (bi : Int) < (L3 : Int):=by omega
    have wl:=wk_nat (x:=(lv : Int) + 1) (t:=lv + 1) (by omega) (by omega)
    have wl2:=zs9 (x:=(lv : Int) + 1) (t:=lv + 1) (by omega) (by omega)
    have c0 : wr.cell? ⟨cb,0,none⟩ = some (tp t):=by rw [<- hcb.out]; exact I.1.gz.c0
    have hS : wr.drew.cell? ⟨cb,0,none⟩ = some (tp t) /\ wr.drew.cell? ⟨w.heap.size,3,none⟩ = some (.slice (some ⟨kb,ko,none⟩) L3 c3) /\ wr.drew.cell? ⟨kb,ko + bi,none⟩ = some (.int .i64 kid):=⟨c0,q3,ck⟩
    have HRD : Hid (∀ W,Below wr.heap.size wr W -> Calls Tryz.prog 106 #[tp t,.int .i64 kid,.int .i64 ((lv + 1 : Nat) : Int)] W fun e w' => RdG H' W t cc d M N a b c (look a kid (lv + 1)) e w'):=fun W hb => zho9 kid (lv + 1) W (I.1.gz.below hb)
    obtain ⟨rd,hrd⟩:=exH (look a kid (lv + 1))
    rw [hrd.out] at HRD
    obtain ⟨re,rn⟩:=rd
    obtain ⟨R1,hR1⟩:=exH rn.ks.length
    obtain ⟨R2,hR2⟩:=exH rn.vs.length
    obtain ⟨R3,hR3⟩:=exH rn.kd.length
    obtain ⟨rl,hrl⟩:=exH rn.lf
    have HBD : Hid (Below wr.heap.size wr wr.drew):=(Below.refl _ _).drew
    have HBA : Hid (Below wr.heap.size wr (wr.drew.alloc (.cells #[.bool false,.slice none 0 0,.slice none 0 0,.slice none 0 0] 93))):=HBD.out.trans (show Below wr.drew.heap.size wr.drew _ from za9 _ _)
    have hbk : kb < w.heap.size:=by
     have:=HN.out.kid (i:=bi) (by rw [hL3.out]; exact hbl)
     obtain ⟨kb',ko',e',ck'⟩:=this
     cases e'
     exact World.block_lt_of_cell? w ⟨kb,ko + bi,none⟩ ck'
    -- what holds in every world behind the read
    have HST : Hid (∀ W W5 H5,Below wr.heap.size wr W -> Gz H5 W5 t cc d M N a b c -> Tch H' W W5 -> (∀ y,H5 y -> H' y ∨ W.heap.size <= y) →
      (W5.cell? ⟨cb,0,none⟩ = some (tp t) /\ W5.cell? ⟨w.heap.size,3,none⟩ = some (.slice (some ⟨kb,ko,none⟩) L3 c3) /\ W5.cell? ⟨kb,ko + bi,none⟩ = some (.int .i64 kid)) /\ (JnI H W3 t cc d M N a b c W5 H5 /\ ∀ y,H5 y -> H' y ∨ wr.heap.size <= y)):=fun W W5 H5 hb hg ht hh => by
     have x1 : Tch H' wr W5:=(Tch.of_below (S:=H') hb).trans ht (fun _ _ e => e)
     have hhb:=hb.size
     have nk : ¬ H' kb:=fun e => (I.1.hh kb e).elim (HA.out kb (.inr (.inr rfl))) (fun e => by omega)
     have nw : ¬ H' w.heap.size:=fun e => (I.1.hh _ e).elim (nHw _ (zn6 _)) (fun e => by omega)
     refine ⟨⟨by rw [<- hcb.out]; exact hg.c0,?_,?_⟩,⟨hg,I.1.tc.trans x1 (fun y hy e => (I.1.hh y e).elim id (fun e => by omega)),fun y hy => ?_⟩,fun y hy => (hh y hy).imp id (fun e => by omega)⟩
     ·exact (V0.tch x1 nw).c3
     ·rw [x1.cell (p:=⟨kb,ko + bi,none⟩) (World.block_lt_of_cell? wr ⟨kb,ko + bi,none⟩ ck) nk]; exact ck
     ·rcases hh y hy with e | e
      ·exact I.1.hh y e
      ·exact .inr (by omega)
    have HNB : Hid (∀ W5,Tch H' (wr.drew.alloc (.cells #[.bool false,.slice none 0 0,.slice none 0 0,.slice none 0 0] 93)) W5 -> Nb W5 93 wr.heap.size false (.slice none 0 0) (.slice none 0 0) (.slice none 0 0)):=fun W5 ht => by
     have n0 : Nb (wr.drew.alloc (.cells #[.bool false,.slice none 0 0,.slice none 0 0,.slice none 0 0] 93)) 93 wr.heap.size false (.slice none 0 0) (.slice none 0 0) (.slice none 0 0):=nb_new wr.drew _ _ _ _ _
     exact n0.tch ht (fun e => by have:=I.1.gz.hl _ e; omega)
    have HLW:=hideN I.1.gz.hl
    have HSR : Hid (W3.heap.size <= wr.heap.size):=hsr
    have HSM : Hid (∀ r,besF a c n at_ lv p (bi : Int) = some r -> RR = r):=fun r e => by
     rw [<- hRR.out]
     unfold joinedF
     have hk2 : k = 0 ∨ k = 1:=by omega
     have hkb:=HKB.out
     rcases hk2 with rfl | rfl
     ·rw [if_pos rfl] at hkb
      rw [hkb] at e
      rw [e]
     ·rw [if_neg (by decide)] at hkb
      rw [hkb] at e
      rw [I.2.1 (by omega),e]
    have HBE : Hid ((re ≠ 0 -> besF a c n at_ lv p (bi : Int) = some ⟨re,noneN,0,0,c⟩) /\ (re = 0 -> (bi : Int) < (at_ : Int) -> besF a c n at_ lv p (bi : Int) = if mayN (joinN rn p) = true then some ⟨0,joinN rn p,bi,bi + 2,leaveF a c kid⟩ else none) /\ (re = 0 -> ¬ (bi : Int) < (at_ : Int) -> besF a c n at_ lv p (bi : Int) = if mayN (joinN p rn) = true then some ⟨0,joinN p rn,at_,at_ + 2,leaveF a c kid⟩ else none)):=by
     have e0 : besF a c n at_ lv p (bi : Int) = if re ≠ 0 then some ⟨re,noneN,0,0,c⟩ else if (bi : Int) < (at_ : Int) then (if mayN (joinN rn p) = true then some ⟨0,joinN rn p,bi,bi + 2,leaveF a c kid⟩ else none) else (if mayN (joinN p rn) = true then some ⟨0,joinN p rn,at_,at_ + 2,leaveF a c kid⟩ else none):=by
      unfold besF
      rw [if_neg (by rw [hL3.out]; omega),Int.toNat_natCast,hkid.out,hrd.out]
     exact ⟨fun h => by rw [e0,if_pos h],fun h h' => by rw [e0,if_neg (by rw [h]; simp),if_pos h'],fun h h' => by rw [e0,if_neg (by rw [h]; simp),if_neg h']⟩
    have HVR : Hid (re = 0 -> mayN rn = true /\ Sm rn):=fun e => by
     have h:=hrd.out
     unfold look at h
     split at h
     ·have:=congrArg Prod.fst h
      simp at this
      omega
     ·have:=HVV.out kid (by rw [h]; exact e)
      rw [h] at this
      exact this
    have HKC : Hid (∀ W,Tch H w W -> W.cell? ⟨kb,ko + bi,none⟩ = some (.int .i64 kid)):=fun W hW => by
     have h' : Nn W n (.slice a1 L1 c1) (.slice a2 L2 c2) (.slice (some ⟨kb,ko,none⟩) L3 c3):=HN.out.tch hW (fun y hy => HA.out y (.inl hy)) (fun y hy => HA.out y (.inr (.inl hy))) (fun y hy => HA.out y (.inr (.inr hy)))
     obtain ⟨kb',ko',e',ck'⟩:=h'.kid (i:=bi) (by rw [hL3.out]; exact hbl)
     cases e'
     rw [hkid.out] at ck'
     exact ck'
    clear I hI hbv NXT hout hbr TW nHw hnn hbk hz hsr
    go_wp2_with fail
    --REGION
    have mixed : Tryz.prog.follows .mixedOrders = true:=by kernel_rfl
    refine beginW (S:=fun w' => w'.cell? ⟨cb,0,none⟩ = some (tp t) /\ w'.cell? ⟨w.heap.size,3,none⟩ = some (.slice (some ⟨kb,ko,none⟩) L3 c3) /\ w'.cell? ⟨kb,ko + bi,none⟩ = some (.int .i64 kid)) (t:=17) mixed ?_
    refine tkW 0 (some 38) (.move (.tmp 0)) (Value.pointer (some ⟨cb,0,none⟩)) (by rintro o ho w' ⟨z1,z2,z3⟩; go_simp) hS ?_
    simp only [Act.put,qa,qb,qc]
    refine tkW 1 (some 39) (.nilCheck (.tmp 38)) (Value.pointer (some ⟨cb,0,none⟩)) (by rintro o ho w' ⟨z1,z2,z3⟩; go_simp) hS ?_
    simp only [Act.put,qa,qb,qc]
    refine tkW 2 (some 40) (.fieldAddr 114 (.tmp 39) 0) (Value.pointer (some ⟨cb,0,none⟩)) (by rintro o ho w' ⟨z1,z2,z3⟩; go_simp) hS ?_
    simp only [Act.put,qa,qb,qc]
    refine tkW 3 (some 41) (.load 34 (.tmp 40)) (tp t) (by rintro o ho w' ⟨z1,z2,z3⟩; go_simp) hS ?_
    simp only [Act.put,qa,qb,qc]
    refine tkW 4 (some 42) (.fieldAddr 93 (.tmp 6) 3) (Value.pointer (some ⟨w.heap.size,3,none⟩)) (by rintro o ho w' ⟨z1,z2,z3⟩; go_simp) hS ?_
    simp only [Act.put,qa,qb,qc]
    refine tkW 5 (some 43) (.load 56 (.tmp 42)) (Value.slice (some ⟨kb,ko,none⟩) L3 c3) (by rintro o ho w' ⟨z1,z2,z3⟩; go_simp) hS ?_
    simp only [Act.put,qa,qb,qc]
    refine tkW 6 (some 44) (.move (.tmp 15)) (Value.int .i64 (bi : Int)) (by rintro o ho w' ⟨z1,z2,z3⟩; go_simp) hS ?_
    simp only [Act.put,qa,qb,qc]
    refine tkW 7 (some 45) (.indexAddr 56 (.tmp 43) (.tmp 44)) (Value.pointer (some ⟨kb,ko + bi,none⟩)) (by rintro o ho w' ⟨z1,z2,z3⟩; go_simp) hS ?_
    simp only [Act.put,qa,qb,qc]
    refine tkW 8 (some 46) (.load 3 (.tmp 45)) (Value.int .i64 kid) (by rintro o ho w' ⟨z1,z2,z3⟩; go_simp) hS ?_
    simp only [Act.put,qa,qb,qc]
    refine tkW 9 (some 47) (.move (.tmp 3)) (Value.int .i64 (lv : Int)) (by rintro o ho w' ⟨z1,z2,z3⟩; go_simp) hS ?_
    simp only [Act.put,qa,qb,qc]
    refine tkW 10 (some 48) (.binOp .add 3 (.tmp 47) (.const (.int .i64 1)) 3) (Value.int .i64 ((lv + 1 : Nat) : Int)) (by rintro o ho w' ⟨z1,z2,z3⟩; go_simp) hS ?_
    simp only [Act.put,qa,qb,qc]
    refine zcj9 11 15 (some 49) (.call { callee:=.value (.func 106),args:=#[.tmp 41,.tmp 46,.tmp 48],argTypes:=#[34,3,3] }) (some 16) (.alloc 93) rfl rfl (by kernel_rfl) ?_ ?_
    ·rintro o K hd ho hg hK
     refine zd9 (enters_of Tryz.func106 (by kernel_rfl) rfl) ho (vs:=#[tp t,.int .i64 kid,.int .i64 ((lv + 1 : Nat) : Int)]) (by kernel_rfl) (HRD.out _ HBD.out) ?_
     rintro e W5 ⟨H5,v1,v2,v3,he,ho5,hg5,ht5,hh5,ha5⟩
     obtain ⟨x1,y1,x2,y2,x3,y3,rfl,rfl,rfl,_,_,_,_⟩:=ho5.nn.out
     simp only [hR1.out,hR2.out,hR3.out,hrl.out] at he ho5 ha5
     refine ⟨_,he,?_⟩
     rw [hd]
     obtain ⟨hS5,hF5⟩:=HST.out _ W5 H5 HBD.out hg5 ht5 hh5
     refine hK _ _ (fun _ => hS5) ?_
     clear ho hd hg hK he
     simp only [Act.put,qa,qb,qc]
     refine tkW 12 (some 37) (.move (.tmp 49)) (Value.tuple #[nod rl (.slice x1 R1 y1) (.slice x2 R2 y2) (.slice x3 R3 y3),.int .i64 re]) (by rintro o ho w' _; go_simp) hS5 ?_
     simp only [Act.put,qa,qb,qc]
     refine tkW 13 (some 50) (.extract (.tmp 37) 0) (nod rl (.slice x1 R1 y1) (.slice x2 R2 y2) (.slice x3 R3 y3)) (by rintro o ho w' _; go_simp) hS5 ?_
     simp only [Act.put,qa,qb,qc]
     refine tkW 14 (some 51) (.extract (.tmp 37) 1) (Value.int .i64 re) (by rintro o ho w' _; go_simp) hS5 ?_
     simp only [Act.put,qa,qb,qc]
     obtain ⟨q,hq⟩:=exN W5.heap.size
     refine rdW 15 (some 16) (.alloc 93) ?_
     rintro o K hd ho hg hK
     refine zbk9 ho ?_
     rw [hd,hq]
     obtain ⟨Y,hY⟩:=exN (W5.alloc (.cells #[.bool false,.slice none 0 0,.slice none 0 0,.slice none 0 0] 93))
     rw [hY]
     have bY : Below W5.heap.size W5 Y:=by rw [<- hY]; exact za9 _ _
     have NBq : Nb Y 93 q false (.slice none 0 0) (.slice none 0 0) (.slice none 0 0):=by rw [<- hY,<- hq]; exact nb_new _ _ _ _ _ _
     have HQL : Hid (cb < q /\ w.heap.size < q /\ kb < q):=by
      rw [<- hq]
      exact ⟨World.block_lt_of_cell? W5 ⟨cb,0,none⟩ hS5.1,World.block_lt_of_cell? W5 ⟨w.heap.size,3,none⟩ hS5.2.1,World.block_lt_of_cell? W5 ⟨kb,ko + bi,none⟩ hS5.2.2⟩
     have hSY : Y.cell? ⟨cb,0,none⟩ = some (tp t) /\ Y.cell? ⟨w.heap.size,3,none⟩ = some (.slice (some ⟨kb,ko,none⟩) L3 c3) /\ Y.cell? ⟨kb,ko + bi,none⟩ = some (.int .i64 kid):=by
      have q : ∀ p v,W5.cell? p = some v -> Y.cell? p = some v:=fun p v hp => by rw [bY.cell (World.block_lt_of_cell? W5 p hp)]; exact hp
      exact ⟨q _ _ hS5.1,q _ _ hS5.2.1,q _ _ hS5.2.2⟩
     refine hK _ _ (fun _ => hSY) ?_
     clear ho hd hg hK
     simp only [Act.put,qa,qb,qc]
     obtain ⟨W7,hW7⟩:=exN ((((Y.setCell ⟨q,0,none⟩ (.bool rl)).setCell ⟨q,1,none⟩ (.slice x1 R1 y1)).setCell ⟨q,2,none⟩ (.slice x2 R2 y2)).setCell ⟨q,3,none⟩ (.slice x3 R3 y3))
     have t7 : Tch (fun y => y = q) Y W7:=by rw [<- hW7]; exact zg9 _ _ _ _ _ _
     have N7 : Nb W7 93 q rl (.slice x1 R1 y1) (.slice x2 R2 y2) (.slice x3 R3 y3):=by rw [<- hW7]; exact NBq.all _ _ _ _
     have hS7 : W7.cell? ⟨cb,0,none⟩ = some (tp t) /\ W7.cell? ⟨w.heap.size,3,none⟩ = some (.slice (some ⟨kb,ko,none⟩) L3 c3) /\ W7.cell? ⟨kb,ko + bi,none⟩ = some (.int .i64 kid):=by
      have e : ∀ p v,Y.cell? p = some v -> p.block ≠ q -> W7.cell? p = some v:=fun p v hp hn => by rw [t7.cell (World.block_lt_of_cell? Y p hp) hn]; exact hp
      exact ⟨e _ _ hSY.1 (by show cb ≠ q; have:=HQL.out; omega),e _ _ hSY.2.1 (by show w.heap.size ≠ q; have:=HQL.out; omega),e _ _ hSY.2.2 (by show kb ≠ q; have:=HQL.out; omega)⟩
     refine rdW 16 none (.store 93 (.tmp 16) (.tmp 50)) ?_
     rintro o K hd ho hg hK
     refine zu9 ho rfl rfl NBq ?_
     rw [hd,hW7]
     refine hK _ _ (fun _ => hS7) ?_
     clear ho hd hg hK
     simp only [Act.put,qa,qb,qc]
     refine rdW 17 (some 17) (.assign (.tmp 51)) ?_
     rintro o K hd ho hg hK
     refine stepY (v:=.int .i64 re) (by unfold execOp; simp only [ho]; go_simp) ?_
     rw [hd]
     refine hK _ _ (fun e => absurd rfl e) ?_
     refine doneW (by kernel_rfl) ?_ _
     clear ho hd hg hK
     simp only [Act.put,qa,qb,qc]
     have HREST : Hid (Nb W7 93 q rl (.slice x1 R1 y1) (.slice x2 R2 y2) (.slice x3 R3 y3) /\ Nn W7 rn (.slice x1 R1 y1) (.slice x2 R2 y2) (.slice x3 R3 y3) /\ Fr3 wr.heap.size (.slice x1 R1 y1) (.slice x2 R2 y2) (.slice x3 R3 y3) /\ JnI H W3 t cc d M N a b c W7 H5 /\ (∀ y,H5 y -> H' y ∨ wr.heap.size <= y) /\ Ap3 H5 (.slice x1 R1 y1) (.slice x2 R2 y2) (.slice x3 R3 y3) /\ ¬ H5 q):=by
      have fr:=ho5.fr
      refine ⟨N7,(ho5.nn.below bY).tch t7 (fun y hy e => ?_) (fun y hy e => ?_) (fun y hy e => ?_),?_,⟨(hF5.1.gz.below bY).tch t7 (fun y hy e => ?_),(hF5.1.tc.trans (Tch.of_below (S:=H) bY) (fun _ _ e => e)).trans t7 (fun y hy e => ?_),hF5.1.hh⟩,hF5.2,ha5,fun e => ?_⟩
      ·have:=ho5.k.owns.lt y hy; omega
      ·have:=ho5.v.owns.lt y hy; omega
      ·have:=ho5.d.owns.lt y hy; omega
      ·exact ho5.fr
      ·have:=hF5.1.gz.hl y hy; omega
      ·have:=hF5.1.tc.size; omega
      ·have:=hF5.1.gz.hl q e; omega
     clear hW7 t7 N7 hS7 NBq hF5 hg5 ht5 hh5 ho5 ha5 hS5
     revert HREST
     generalize W7 = W8
     intro HREST
     have J8:=HREST.out.2.2.2.1
     have hz8:=HSZ.out
     have nH8 : ∀ y,w.heap.size <= y -> ¬ H y:=fun y h1 e => by have:=HHL.out y e; omega
     have nH5 : ∀ y,w.heap.size <= y -> y < W3.heap.size -> ¬ H5 y:=fun y h1 h2 e => (J8.hh y e).elim (nH8 y h1) (fun e => by omega)
     have X8 : Nb W8 93 W2.heap.size false (.slice none 0 0) (.slice none 0 0) (.slice none 0 0):=HX3.out.tch J8.tc (nH8 _ (by omega))
     have TW8 : Tch H w W8:=(Tch.of_below (S:=H) HB.out).trans J8.tc (fun _ _ e => e)
     have s83:=J8.tc.size
     by_cases hre : re = 0
     ·subst hre
      have NB8:=HREST.out.1
      have NN8:=HREST.out.2.1
      have P8 : Nb W8 93 W1.heap.size pf (.slice d1 P1 f1) (.slice d2 P2 f2) (.slice d3 P3 f3):=HP3.out.tch J8.tc (nH8 _ (by omega))
      have NP8 : Nn W8 p (.slice d1 P1 f1) (.slice d2 P2 f2) (.slice d3 P3 f3):=HP.out.tch TW8 (fun y hy => HAP.out y (.inl hy)) (fun y hy => HAP.out y (.inr (.inl hy))) (fun y hy => HAP.out y (.inr (.inr hy)))
      obtain ⟨hmy,hsm⟩:=HVR.out rfl
      obtain ⟨lr1,lr2,lr3⟩:=zku9 hmy hsm
      have hpk:=HPK.out
      have J1:=zbv9 p rn _ _ _ _ _ _ W8 NP8 NN8 (by omega) (by omega) (by omega)
      rw [hpf.out,hrl.out] at J1
      have HJ1:=hideN J1
      have SB1:=hideN (zce9 HSP.out hsm (by omega) (by omega) (by omega))
      have SB2:=hideN (zce9 hsm HSP.out (by omega) (by omega) (by omega))
      have HLR : Hid (rn.ks.length <= 1000 /\ rn.vs.length <= 1000 /\ rn.kd.length <= 1000):=⟨lr1,lr2,lr3⟩
      have H88 : Hid (Nb W8 93 W1.heap.size pf (.slice d1 P1 f1) (.slice d2 P2 f2) (.slice d3 P3 f3) /\ Nn W8 p (.slice d1 P1 f1) (.slice d2 P2 f2) (.slice d3 P3 f3) /\ Nb W8 93 q rl (.slice x1 R1 y1) (.slice x2 R2 y2) (.slice x3 R3 y3) /\ Nn W8 rn (.slice x1 R1 y1) (.slice x2 R2 y2) (.slice x3 R3 y3)):=⟨P8,NP8,NB8,NN8⟩
      have ppc0:=P8.c0
      have ppc1:=P8.c1
      have ppc2:=P8.c2
      have ppc3:=P8.c3
      have bbc0:=NB8.c0
      have bbc1:=NB8.c1
      have bbc2:=NB8.c2
      have bbc3:=NB8.c3
      clear J1 hmy hsm lr1 lr2 lr3 hpk NP8 NN8 P8 NB8 X8 TW8 J8 nH8 nH5 s83 hz8
      unfold nod at HJ1
      go_wp2_with fail
      refine HJ1.out.mono ?_
      rintro e W9 ⟨⟨zx1,zx2,zx3,rfl,nz,fz1,fz2,fz3⟩,b9⟩
      clear HJ1 ppc0 bbc0 ppc1 bbc1 ppc2 bbc2 ppc3 bbc3
      by_cases hlt : (bi : Int) < (at_ : Int)
      ·obtain ⟨zp1,zo1,zp2,zo2,zp3,zo3,rfl,rfl,rfl,_,_,_,_⟩:=nz.out
       obtain ⟨U1,hU1⟩:=exH ((joinN p rn).ks.length)
       obtain ⟨U2,hU2⟩:=exH ((joinN p rn).vs.length)
       obtain ⟨U3,hU3⟩:=exH ((joinN p rn).kd.length)
       simp only [hU1.out,hU2.out,hU3.out] at nz fz1 fz2 fz3
       simp only [hU1.out,hU2.out,hU3.out]
       obtain ⟨WB,hWB⟩:=exN (W9.alloc (.cells #[.bool false,.slice none 0 0,.slice none 0 0,.slice none 0 0] 93))
       have NB : Nb WB 93 W9.heap.size false (.slice none 0 0) (.slice none 0 0) (.slice none 0 0):=by rw [<- hWB]; exact nb_new _ _ _ _ _ _
       have bB : Below W9.heap.size W9 WB:=by rw [<- hWB]; exact za9 _ _
       obtain ⟨WC,hWC⟩:=exN ((((WB.setCell ⟨W9.heap.size,0,none⟩ (.bool pf)).setCell ⟨W9.heap.size,1,none⟩ (.slice zp1 U1 zo1)).setCell ⟨W9.heap.size,2,none⟩ (.slice zp2 U2 zo2)).setCell ⟨W9.heap.size,3,none⟩ (.slice zp3 U3 zo3))
       have NC : Nb WC 93 W9.heap.size pf (.slice zp1 U1 zo1) (.slice zp2 U2 zo2) (.slice zp3 U3 zo3):=by rw [<- hWC]; exact NB.all _ _ _ _
       have tC : Tch (fun y => y = W9.heap.size) WB WC:=by rw [<- hWC]; exact zg9 _ _ _ _ _ _
       have s9:=b9.size
       have t8C : Tch (fun _ => False) W8 WC:=((Tch.of_below b9).trans (Tch.of_below bB) (fun _ _ e => e)).trans tC (fun y hy e => by omega)
       have P9:=H88.out.1.tch t8C (fun e => e)
       have B9:=H88.out.2.2.1.tch t8C (fun e => e)
       have NP9:=H88.out.2.1.tch t8C (fun _ _ e => e) (fun _ _ e => e) (fun _ _ e => e)
       have NN9:=H88.out.2.2.2.tch t8C (fun _ _ e => e) (fun _ _ e => e) (fun _ _ e => e)
       have hpk:=HPK.out
       have hlr:=HLR.out
       have J2:=zbv9 rn p _ _ _ _ _ _ WC NN9 NP9 (by omega) (by omega) (by omega)
       rw [hpf.out,hrl.out] at J2
       have HJ2:=hideN J2
       have Ht8C:=hideN t8C
       have HNC:=hideN NC
       have Hs9:=hideN s9
       have nbc0:=NB.c0
       have nbc1:=NB.c1
       have nbc2:=NB.c2
       have nbc3:=NB.c3
       have nbz0:=NB.fz 0
       have nbz1:=NB.fz 1
       have nbz2:=NB.fz 2
       have nbz3:=NB.fz 3
       have ppc0:=P9.c0
       have ppc1:=P9.c1
       have ppc2:=P9.c2
       have ppc3:=P9.c3
       have bbc0:=B9.c0
       have bbc1:=B9.c1
       have bbc2:=B9.c2
       have bbc3:=B9.c3
       have dl : decide ((bi : Int) < (at_ : Int)) = true:=by rw [decide_eq_true_iff]; exact hlt
       clear NB bB NC tC t8C P9 B9 NP9 NN9 hpk hlr J2 s9 nz fz1 fz2 fz3 b9
       unfold nod at HJ2
       go_wp2_with fail
       refine HJ2.out.mono ?_
       rintro e WD ⟨⟨zx1,zx2,zx3,rfl,nz,fz1,fz2,fz3⟩,bD⟩
       obtain ⟨zg1,zh1,zg2,zh2,zg3,zh3,rfl,rfl,rfl,_,_,_,_⟩:=nz.out
       obtain ⟨Q1,hQ1⟩:=exH ((joinN rn p).ks.length)
       obtain ⟨Q2,hQ2⟩:=exH ((joinN rn p).vs.length)
       obtain ⟨Q3,hQ3⟩:=exH ((joinN rn p).kd.length)
       simp only [hQ1.out,hQ2.out,hQ3.out] at nz fz1 fz2 fz3
       simp only [hQ1.out,hQ2.out,hQ3.out]
       have ND : Nb WD 93 W9.heap.size pf (.slice zp1 U1 zo1) (.slice zp2 U2 zo2) (.slice zp3 U3 zo3):=HNC.out.below bD
       obtain ⟨WE,hWE⟩:=exN ((((WD.setCell ⟨W9.heap.size,0,none⟩ (.bool rl)).setCell ⟨W9.heap.size,1,none⟩ (.slice zg1 Q1 zh1)).setCell ⟨W9.heap.size,2,none⟩ (.slice zg2 Q2 zh2)).setCell ⟨W9.heap.size,3,none⟩ (.slice zg3 Q3 zh3))
       have NQ : Nb WE 93 W9.heap.size rl (.slice zg1 Q1 zh1) (.slice zg2 Q2 zh2) (.slice zg3 Q3 zh3):=by rw [<- hWE]; exact ND.all _ _ _ _
       have tE : Tch (fun y => y = W9.heap.size) WD WE:=by rw [<- hWE]; exact zg9 _ _ _ _ _ _
       have s9:=Hs9.out
       have sC:=Ht8C.out.size
       have sq:=HNC.out.lt
       have t8X : Tch (fun _ => False) W8 WE:=(Ht8C.out.trans (Tch.of_below bD) (fun _ _ e => e)).trans tE (fun y hy e => by omega)
       have sE:=tE.size
       have nzX : Nn WE (joinN rn p) (.slice zg1 Q1 zh1) (.slice zg2 Q2 zh2) (.slice zg3 Q3 zh3):=nz.tch tE (fun y hy e => by have:=(fz1 y hy).1; omega) (fun y hy e => by have:=(fz2 y hy).1; omega) (fun y hy e => by have:=(fz3 y hy).1; omega)
       have frX : ∀ j,((Value.slice zg1 Q1 zh1).ownBlock = some j ∨ (Value.slice zg2 Q2 zh2).ownBlock = some j ∨ (Value.slice zg3 Q3 zh3).ownBlock = some j) -> W8.heap.size <= j /\ j < WE.heap.size:=fun j hj => by
        rcases hj with e | e | e
        ·have:=fz1 j e; omega
        ·have:=fz2 j e; omega
        ·have:=fz3 j e; omega
       have SBX:=SB2
       have lfX : Hid ((joinN rn p).lf = rl):=by show rn.lf = rl; exact hrl.out
       have HBX : Hid (besF a c n at_ lv p (bi : Int) = if mayN (joinN rn p) = true then some ⟨0,joinN rn p,bi,bi + 2,leaveF a c kid⟩ else none):=HBE.out.2.1 (by trivial) hlt
       have J8:=HREST.out.2.2.2.1
       have hz8:=HSZ.out
       have nH8 : ∀ y,w.heap.size <= y -> ¬ H y:=fun y h1 e => by have:=HHL.out y e; omega
       have nH5 : ∀ y,w.heap.size <= y -> y < W3.heap.size -> ¬ H5 y:=fun y h1 h2 e => (J8.hh y e).elim (nH8 y h1) (fun e => by omega)
       have s83:=J8.tc.size
       have ndc0:=ND.c0
       have ndc1:=ND.c1
       have ndc2:=ND.c2
       have ndc3:=ND.c3
       have ndz0:=ND.fz 0
       have ndz1:=ND.fz 1
       have ndz2:=ND.fz 2
       have ndz3:=ND.fz 3
       clear ND tE sC sq sE nz fz1 fz2 fz3 bD
       have JX : JnI H W3 t cc d M N a b c WE H5:=⟨J8.gz.tch t8X (fun _ _ e => e),J8.tc.trans t8X (fun _ _ e => e.elim),J8.hh⟩
       have HJX:=hideN JX
       have MX:=zci9 (joinN rn p) _ _ _ WE nzX SBX.out
       rw [lfX.out] at MX
       obtain ⟨mb,hmb⟩:=exH (mayN (joinN rn p))
       rw [hmb.out] at MX
       have HMX:=hideN MX
       have HNQ:=hideN NQ
       have Hnz:=hideN nzX
       have Hfr:=hideN frX
       have HnH5:=hideN nH5
       have Hq8 : Hid (W8.heap.size <= W9.heap.size /\ W3.heap.size <= W8.heap.size /\ W8.heap.size <= WE.heap.size):=⟨s9,s83,t8X.size⟩
       have qqc0:=NQ.c0
       have qqc1:=NQ.c1
       have qqc2:=NQ.c2
       have qqc3:=NQ.c3
       clear JX MX t8X nzX frX nH5 NQ J8 nH8 hz8 s83 s9
       unfold nod at HMX
       go_wp2_with fail
       refine HMX.out.mono ?_
       rintro e WM ⟨rfl,bM⟩
       have HbM:=hideN bM
       clear bM
       cases mb
       ·have HN0 : Hid (besF a c n at_ lv p (bi : Int) = none):=by show _ = _; rw [HBX.out,hmb.out]; rfl
        go_wp2_with fail
        exact ⟨⟨k + 1,H5,by omega,by rfl,⟨⟨HJX.out.gz.below HbM.out,HJX.out.tc.trans (Tch.of_below HbM.out) (fun _ _ e => e),HJX.out.hh⟩,HNX.out HN0.out⟩⟩,by simp [intOf]; omega⟩
       ·have HRX : Hid (RR = ⟨0,joinN rn p,bi,bi + 2,leaveF a c kid⟩):=HSM.out _ (by rw [HBX.out,hmb.out]; rfl)
        have hz8:=HSZ.out
        have nH8 : ∀ y,w.heap.size <= y -> ¬ H y:=fun y h1 e => by have:=HHL.out y e; omega
        have TM : Tch H W3 WM:=HJX.out.tc.trans (Tch.of_below (S:=H) HbM.out) (fun _ _ e => e)
        have TWM : Tch H w WM:=(Tch.of_below (S:=H) HB.out).trans TM (fun _ _ e => e)
        have VM : Nb WM 93 w.heap.size lf (.slice a1 L1 c1) (.slice a2 L2 c2) (.slice (some ⟨kb,ko,none⟩) L3 c3):=HV3.out.tch TM (nH8 _ (zn6 _))
        have vc3:=VM.c3
        have vck:=HKC.out WM TWM
        have gM:=HJX.out.gz.below HbM.out
        have LX:=zaz9 kid (by have:=HKR.out; exact zap9 (by omega) (by omega)) WM gM (by have:=HGL.out; omega)
        unfold chp at LX
        rw [hcb.out] at LX
        have HLX:=hideN LX
        have XM : Hid (Nb WM 93 W2.heap.size false (.slice none 0 0) (.slice none 0 0) (.slice none 0 0)):=HX3.out.tch TM (nH8 _ (by omega))
        have QM : Hid (Nb WM 93 W9.heap.size rl (.slice zg1 Q1 zh1) (.slice zg2 Q2 zh2) (.slice zg3 Q3 zh3)):=HNQ.out.below HbM.out
        have HTM:=hideN TWM
        have HgM:=hideN gM
        clear TM TWM VM gM LX hz8 nH8
        go_wp2_with fail
        refine HLX.out.mono ?_
        rintro e WL ⟨rfl,H6,g6,t6,h6⟩
        have hz8:=HSZ.out
        have hq8:=Hq8.out
        have nq9 : ¬ H5 W9.heap.size:=fun e => by have:=HREST.out.2.2.2.1.gz.hl _ e; omega
        have hsM':=HbM.out.size
        have n52 : ¬ H5 W2.heap.size:=HnH5.out _ (by omega) (by omega)
        have XL:=XM.out.tch t6 n52
        have QL:=QM.out.tch t6 nq9
        obtain ⟨WF,hWF⟩:=exN ((((WL.setCell ⟨W2.heap.size,0,none⟩ (.bool rl)).setCell ⟨W2.heap.size,1,none⟩ (.slice zg1 Q1 zh1)).setCell ⟨W2.heap.size,2,none⟩ (.slice zg2 Q2 zh2)).setCell ⟨W2.heap.size,3,none⟩ (.slice zg3 Q3 zh3))
        have XF : Nb WF 93 W2.heap.size rl (.slice zg1 Q1 zh1) (.slice zg2 Q2 zh2) (.slice zg3 Q3 zh3):=by rw [<- hWF]; exact XL.all _ _ _ _
        have tF : Tch (fun y => y = W2.heap.size) WL WF:=by rw [<- hWF]; exact zg9 _ _ _ _ _ _
        have HXF:=hideN XF.load
        have HF : Hid (JndT H w t cc d M N a b (.slice d1 P1 f1) (.slice d2 P2 f2) (.slice d3 P3 f3) RR (.returned (.tuple #[nod rl (.slice zg1 Q1 zh1) (.slice zg2 Q2 zh2) (.slice zg3 Q3 zh3),.int .i64 (bi : Int),.int .i64 ((bi + 2 : Nat) : Int),.int .i64 0])) WF):=by
         show JndT _ _ _ _ _ _ _ _ _ _ _ _ _ _ _
         rw [HRX.out]
         have h58 : ∀ y,H5 y -> y < W8.heap.size:=fun y e => HREST.out.2.2.2.1.gz.hl y e
         have fr0 : ∀ j,((Value.slice zg1 Q1 zh1).ownBlock = some j ∨ (Value.slice zg2 Q2 zh2).ownBlock = some j ∨ (Value.slice zg3 Q3 zh3).ownBlock = some j) -> W8.heap.size <= j /\ j < WE.heap.size:=Hfr.out
         have hsM:=HbM.out.size
         have hs6:=t6.size
         have nzM : Nn WM (joinN rn p) (.slice zg1 Q1 zh1) (.slice zg2 Q2 zh2) (.slice zg3 Q3 zh3):=Hnz.out.below HbM.out
         have nzL : Nn WL (joinN rn p) (.slice zg1 Q1 zh1) (.slice zg2 Q2 zh2) (.slice zg3 Q3 zh3):=nzM.tch t6 (fun y hy e => by have:=h58 y e; have:=(fr0 y (.inl hy)).1; omega) (fun y hy e => by have:=h58 y e; have:=(fr0 y (.inr (.inl hy))).1; omega) (fun y hy e => by have:=h58 y e; have:=(fr0 y (.inr (.inr hy))).1; omega)
         have n62 : ∀ y,H6 y -> y ≠ W2.heap.size:=fun y e q => by
          subst q
          exact (h6 _ e).elim n52 (fun e => by omega)
         refine ⟨H6,_,_,_,by rw [show (JR.n ⟨0,joinN rn p,bi,bi + 2,leaveF a c kid⟩) = joinN rn p from rfl,lfX.out],g6.tch tF (fun y hy e => n62 y hy e),(HTM.out.trans t6 (fun y hy e => (HREST.out.2.2.2.1.hh y e).elim id (fun e => by omega))).trans tF (fun y hy e => by omega),fun y hy => (h6 y hy).elim (fun e => (HREST.out.2.2.2.1.hh y e).imp id (fun e => by omega)) (fun e => .inr (by omega)),nzL.tch tF (fun y hy e => by have:=(fr0 y (.inl hy)).1; omega) (fun y hy e => by have:=(fr0 y (.inr (.inl hy))).1; omega) (fun y hy e => by have:=(fr0 y (.inr (.inr hy))).1; omega),fun j hj => ?_⟩
         have:=fr0 j hj
         refine ⟨.inr (.inr (.inr (by omega))),fun e => (h6 j e).elim (fun e => by have:=h58 j e; omega) (fun e => by omega)⟩
        have qlc0:=QL.c0
        have qlc1:=QL.c1
        have qlc2:=QL.c2
        have qlc3:=QL.c3
        have xlc0:=XL.c0
        have xlc1:=XL.c1
        have xlc2:=XL.c2
        have xlc3:=XL.c3
        have xlz0:=XL.fz 0
        have xlz1:=XL.fz 1
        have xlz2:=XL.fz 2
        have xlz3:=XL.fz 3
        have wf1:=wk_nat (x:=(bi : Int) + 2) (t:=bi + 2) (by omega) (by omega)
        have wf2:=zs9 (x:=(bi : Int) + 2) (t:=bi + 2) (by omega) (by omega)
        clear XL QL XF tF g6 t6 h6 hz8 hq8 nq9 n52 hsM'
        go_wp2_with fail
        try rw [hWF]
        refine bodyPost_ret (v:=.tuple #[nod rl (.slice zg1 Q1 zh1) (.slice zg2 Q2 zh2) (.slice zg3 Q3 zh3),.int .i64 (bi : Int),.int .i64 ((bi + 2 : Nat) : Int),.int .i64 0]) (zq9 (p:=10) (ty:=93) rfl _ _ _ W2.heap.size _ _ _ _ rfl HXF.out rfl rfl rfl) rfl ?_
        exact HF.out
      ·
       obtain ⟨zg1,zh1,zg2,zh2,zg3,zh3,rfl,rfl,rfl,_,_,_,_⟩:=nz.out
       obtain ⟨Q1,hQ1⟩:=exH ((joinN p rn).ks.length)
       obtain ⟨Q2,hQ2⟩:=exH ((joinN p rn).vs.length)
       obtain ⟨Q3,hQ3⟩:=exH ((joinN p rn).kd.length)
       simp only [hQ1.out,hQ2.out,hQ3.out] at nz fz1 fz2 fz3
       simp only [hQ1.out,hQ2.out,hQ3.out]
       obtain ⟨WB,hWB⟩:=exN (W9.alloc (.cells #[.bool false,.slice none 0 0,.slice none 0 0,.slice none 0 0] 93))
       have NB : Nb WB 93 W9.heap.size false (.slice none 0 0) (.slice none 0 0) (.slice none 0 0):=by rw [<- hWB]; exact nb_new _ _ _ _ _ _
       have bB : Below W9.heap.size W9 WB:=by rw [<- hWB]; exact za9 _ _
       obtain ⟨WC,hWC⟩:=exN ((((WB.setCell ⟨W9.heap.size,0,none⟩ (.bool pf)).setCell ⟨W9.heap.size,1,none⟩ (.slice zg1 Q1 zh1)).setCell ⟨W9.heap.size,2,none⟩ (.slice zg2 Q2 zh2)).setCell ⟨W9.heap.size,3,none⟩ (.slice zg3 Q3 zh3))
       have NC : Nb WC 93 W9.heap.size pf (.slice zg1 Q1 zh1) (.slice zg2 Q2 zh2) (.slice zg3 Q3 zh3):=by rw [<- hWC]; exact NB.all _ _ _ _
       have tC : Tch (fun y => y = W9.heap.size) WB WC:=by rw [<- hWC]; exact zg9 _ _ _ _ _ _
       have s9:=b9.size
       have sC:=tC.size
       have sB:=bB.size
       have t8X : Tch (fun _ => False) W8 WC:=((Tch.of_below b9).trans (Tch.of_below bB) (fun _ _ e => e)).trans tC (fun y hy e => by omega)
       have NQ:=NC
       have nzX : Nn WC (joinN p rn) (.slice zg1 Q1 zh1) (.slice zg2 Q2 zh2) (.slice zg3 Q3 zh3):=(nz.below bB).tch tC (fun y hy e => by have:=(fz1 y hy).2; omega) (fun y hy e => by have:=(fz2 y hy).2; omega) (fun y hy e => by have:=(fz3 y hy).2; omega)
       have frX : ∀ j,((Value.slice zg1 Q1 zh1).ownBlock = some j ∨ (Value.slice zg2 Q2 zh2).ownBlock = some j ∨ (Value.slice zg3 Q3 zh3).ownBlock = some j) -> W8.heap.size <= j /\ j < WC.heap.size:=fun j hj => by
        rcases hj with e | e | e
        ·have:=fz1 j e; omega
        ·have:=fz2 j e; omega
        ·have:=fz3 j e; omega
       have SBX:=SB1
       have lfX : Hid ((joinN p rn).lf = pf):=by show p.lf = pf; exact hpf.out
       have HBX : Hid (besF a c n at_ lv p (bi : Int) = if mayN (joinN p rn) = true then some ⟨0,joinN p rn,at_,at_ + 2,leaveF a c kid⟩ else none):=HBE.out.2.2 (by trivial) (by omega)
       have dl : decide ((bi : Int) < (at_ : Int)) = false:=by rw [zn4]; exact hlt
       have J8:=HREST.out.2.2.2.1
       have hz8:=HSZ.out
       have nH8 : ∀ y,w.heap.size <= y -> ¬ H y:=fun y h1 e => by have:=HHL.out y e; omega
       have nH5 : ∀ y,w.heap.size <= y -> y < W3.heap.size -> ¬ H5 y:=fun y h1 h2 e => (J8.hh y e).elim (nH8 y h1) (fun e => by omega)
       have s83:=J8.tc.size
       have nbc0:=NB.c0
       have nbc1:=NB.c1
       have nbc2:=NB.c2
       have nbc3:=NB.c3
       have nbz0:=NB.fz 0
       have nbz1:=NB.fz 1
       have nbz2:=NB.fz 2
       have nbz3:=NB.fz 3
       clear NB bB tC sC sB nz fz1 fz2 fz3 b9 NC
       have JX : JnI H W3 t cc d M N a b c WC H5:=⟨J8.gz.tch t8X (fun _ _ e => e),J8.tc.trans t8X (fun _ _ e => e.elim),J8.hh⟩
       have HJX:=hideN JX
       have MX:=zci9 (joinN p rn) _ _ _ WC nzX SBX.out
       rw [lfX.out] at MX
       obtain ⟨mb,hmb⟩:=exH (mayN (joinN p rn))
       rw [hmb.out] at MX
       have HMX:=hideN MX
       have HNQ:=hideN NQ
       have Hnz:=hideN nzX
       have Hfr:=hideN frX
       have HnH5:=hideN nH5
       have Hq8 : Hid (W8.heap.size <= W9.heap.size /\ W3.heap.size <= W8.heap.size /\ W8.heap.size <= WC.heap.size):=⟨s9,s83,t8X.size⟩
       have qqc0:=NQ.c0
       have qqc1:=NQ.c1
       have qqc2:=NQ.c2
       have qqc3:=NQ.c3
       clear JX MX t8X nzX frX nH5 NQ J8 nH8 hz8 s83 s9
       unfold nod at HMX
       go_wp2_with fail
       refine HMX.out.mono ?_
       rintro e WM ⟨rfl,bM⟩
       have HbM:=hideN bM
       clear bM
       cases mb
       ·have HN0 : Hid (besF a c n at_ lv p (bi : Int) = none):=by show _ = _; rw [HBX.out,hmb.out]; rfl
        go_wp2_with fail
        exact ⟨⟨k + 1,H5,by omega,by rfl,⟨⟨HJX.out.gz.below HbM.out,HJX.out.tc.trans (Tch.of_below HbM.out) (fun _ _ e => e),HJX.out.hh⟩,HNX.out HN0.out⟩⟩,by simp [intOf]; omega⟩
       ·have HRX : Hid (RR = ⟨0,joinN p rn,at_,at_ + 2,leaveF a c kid⟩):=HSM.out _ (by rw [HBX.out,hmb.out]; rfl)
        have hz8:=HSZ.out
        have nH8 : ∀ y,w.heap.size <= y -> ¬ H y:=fun y h1 e => by have:=HHL.out y e; omega
        have TM : Tch H W3 WM:=HJX.out.tc.trans (Tch.of_below (S:=H) HbM.out) (fun _ _ e => e)
        have TWM : Tch H w WM:=(Tch.of_below (S:=H) HB.out).trans TM (fun _ _ e => e)
        have VM : Nb WM 93 w.heap.size lf (.slice a1 L1 c1) (.slice a2 L2 c2) (.slice (some ⟨kb,ko,none⟩) L3 c3):=HV3.out.tch TM (nH8 _ (zn6 _))
        have vc3:=VM.c3
        have vck:=HKC.out WM TWM
        have gM:=HJX.out.gz.below HbM.out
        have LX:=zaz9 kid (by have:=HKR.out; exact zap9 (by omega) (by omega)) WM gM (by have:=HGL.out; omega)
        unfold chp at LX
        rw [hcb.out] at LX
        have HLX:=hideN LX
        have XM : Hid (Nb WM 93 W2.heap.size false (.slice none 0 0) (.slice none 0 0) (.slice none 0 0)):=HX3.out.tch TM (nH8 _ (by omega))
        have QM : Hid (Nb WM 93 W9.heap.size pf (.slice zg1 Q1 zh1) (.slice zg2 Q2 zh2) (.slice zg3 Q3 zh3)):=HNQ.out.below HbM.out
        have HTM:=hideN TWM
        have HgM:=hideN gM
        clear TM TWM VM gM LX hz8 nH8
        go_wp2_with fail
        refine HLX.out.mono ?_
        rintro e WL ⟨rfl,H6,g6,t6,h6⟩
        have hz8:=HSZ.out
        have hq8:=Hq8.out
        have nq9 : ¬ H5 W9.heap.size:=fun e => by have:=HREST.out.2.2.2.1.gz.hl _ e; omega
        have hsM':=HbM.out.size
        have n52 : ¬ H5 W2.heap.size:=HnH5.out _ (by omega) (by omega)
        have XL:=XM.out.tch t6 n52
        have QL:=QM.out.tch t6 nq9
        obtain ⟨WF,hWF⟩:=exN ((((WL.setCell ⟨W2.heap.size,0,none⟩ (.bool pf)).setCell ⟨W2.heap.size,1,none⟩ (.slice zg1 Q1 zh1)).setCell ⟨W2.heap.size,2,none⟩ (.slice zg2 Q2 zh2)).setCell ⟨W2.heap.size,3,none⟩ (.slice zg3 Q3 zh3))
        have XF : Nb WF 93 W2.heap.size pf (.slice zg1 Q1 zh1) (.slice zg2 Q2 zh2) (.slice zg3 Q3 zh3):=by rw [<- hWF]; exact XL.all _ _ _ _
        have tF : Tch (fun y => y = W2.heap.size) WL WF:=by rw [<- hWF]; exact zg9 _ _ _ _ _ _
        have HXF:=hideN XF.load
        have HF : Hid (JndT H w t cc d M N a b (.slice d1 P1 f1) (.slice d2 P2 f2) (.slice d3 P3 f3) RR (.returned (.tuple #[nod pf (.slice zg1 Q1 zh1) (.slice zg2 Q2 zh2) (.slice zg3 Q3 zh3),.int .i64 (at_ : Int),.int .i64 ((at_ + 2 : Nat) : Int),.int .i64 0])) WF):=by
         show JndT _ _ _ _ _ _ _ _ _ _ _ _ _ _ _
         rw [HRX.out]
         have h58 : ∀ y,H5 y -> y < W8.heap.size:=fun y e => HREST.out.2.2.2.1.gz.hl y e
         have fr0 : ∀ j,((Value.slice zg1 Q1 zh1).ownBlock = some j ∨ (Value.slice zg2 Q2 zh2).ownBlock = some j ∨ (Value.slice zg3 Q3 zh3).ownBlock = some j) -> W8.heap.size <= j /\ j < WC.heap.size:=Hfr.out
         have hsM:=HbM.out.size
         have hs6:=t6.size
         have nzM : Nn WM (joinN p rn) (.slice zg1 Q1 zh1) (.slice zg2 Q2 zh2) (.slice zg3 Q3 zh3):=Hnz.out.below HbM.out
         have nzL : Nn WL (joinN p rn) (.slice zg1 Q1 zh1) (.slice zg2 Q2 zh2) (.slice zg3 Q3 zh3):=nzM.tch t6 (fun y hy e => by have:=h58 y e; have:=(fr0 y (.inl hy)).1; omega) (fun y hy e => by have:=h58 y e; have:=(fr0 y (.inr (.inl hy))).1; omega) (fun y hy e => by have:=h58 y e; have:=(fr0 y (.inr (.inr hy))).1; omega)
         have n62 : ∀ y,H6 y -> y ≠ W2.heap.size:=fun y e q => by
          subst q
          exact (h6 _ e).elim n52 (fun e => by omega)
         refine ⟨H6,_,_,_,by rw [show (JR.n ⟨0,joinN p rn,at_,at_ + 2,leaveF a c kid⟩) = joinN p rn from rfl,lfX.out],g6.tch tF (fun y hy e => n62 y hy e),(HTM.out.trans t6 (fun y hy e => (HREST.out.2.2.2.1.hh y e).elim id (fun e => by omega))).trans tF (fun y hy e => by omega),fun y hy => (h6 y hy).elim (fun e => (HREST.out.2.2.2.1.hh y e).imp id (fun e => by omega)) (fun e => .inr (by omega)),nzL.tch tF (fun y hy e => by have:=(fr0 y (.inl hy)).1; omega) (fun y hy e => by have:=(fr0 y (.inr (.inl hy))).1; omega) (fun y hy e => by have:=(fr0 y (.inr (.inr hy))).1; omega),fun j hj => ?_⟩
         have:=fr0 j hj
         refine ⟨.inr (.inr (.inr (by omega))),fun e => (h6 j e).elim (fun e => by have:=h58 j e; omega) (fun e => by omega)⟩
        have qlc0:=QL.c0
        have qlc1:=QL.c1
        have qlc2:=QL.c2
        have qlc3:=QL.c3
        have xlc0:=XL.c0
        have xlc1:=XL.c1
        have xlc2:=XL.c2
        have xlc3:=XL.c3
        have xlz0:=XL.fz 0
        have xlz1:=XL.fz 1
        have xlz2:=XL.fz 2
        have xlz3:=XL.fz 3
        have wf1:=wk_nat (x:=(at_ : Int) + 2) (t:=at_ + 2) (by omega) (by omega)
        have wf2:=zs9 (x:=(at_ : Int) + 2) (t:=at_ + 2) (by omega) (by omega)
        clear XL QL XF tF g6 t6 h6 hz8 hq8 nq9 n52 hsM'
        go_wp2_with fail
        try rw [hWF]
        refine bodyPost_ret (v:=.tuple #[nod pf (.slice zg1 Q1 zh1) (.slice zg2 Q2 zh2) (.slice zg3 Q3 zh3),.int .i64 (at_ : Int),.int .i64 ((at_ + 2 : Nat) : Int),.int .i64 0]) (zq9 (p:=10) (ty:=93) rfl _ _ _ W2.heap.size _ _ _ _ rfl HXF.out rfl rfl rfl) rfl ?_
        exact HF.out
     ·have de1 : (re == 0) = false:=by rw [beq_eq_false_iff_ne]; exact hre
      have de2 : (re != 0) = true:=by rw [bne,de1]; rfl
      obtain ⟨WA,hWA⟩:=exN ((((W8.setCell ⟨W2.heap.size,0,none⟩ (.bool false)).setCell ⟨W2.heap.size,1,none⟩ (.slice none 0 0)).setCell ⟨W2.heap.size,2,none⟩ (.slice none 0 0)).setCell ⟨W2.heap.size,3,none⟩ (.slice none 0 0))
      have XA : Nb WA 93 W2.heap.size false (.slice none 0 0) (.slice none 0 0) (.slice none 0 0):=by rw [<- hWA]; exact X8.all _ _ _ _
      have tA : Tch (fun y => y = W2.heap.size) W8 WA:=by rw [<- hWA]; exact zg9 _ _ _ _ _ _
      have HXA:=hideN XA.load
      have HF : Hid (JndT H w t cc d M N a b (.slice d1 P1 f1) (.slice d2 P2 f2) (.slice d3 P3 f3) RR (.returned (.tuple #[nod false (.slice none 0 0) (.slice none 0 0) (.slice none 0 0),.int .i64 0,.int .i64 0,.int .i64 re])) WA):=by
       show JndT _ _ _ _ _ _ _ _ _ _ _ _ _ _ _
       rw [HSM.out _ (HBE.out.1 hre)]
       refine ⟨H5,_,_,_,rfl,J8.gz.tch tA (fun y hy e => nH5 y (by omega) (by omega) hy),TW8.trans tA (fun y hy e => by omega),fun y hy => (J8.hh y hy).imp id (fun e => by omega),(zgd9 0 WA).nn,fun j hj => ?_⟩
       rcases hj with e | e | e <;> cases e
      have xxc0:=X8.c0
      have xxc1:=X8.c1
      have xxc2:=X8.c2
      have xxc3:=X8.c3
      have xxz0:=X8.fz 0
      have xxz1:=X8.fz 1
      have xxz2:=X8.fz 2
      have xxz3:=X8.fz 3
      clear X8 XA tA TW8 J8 nH8 nH5 s83 hz8 hre
      go_wp2_with fail
      try rw [hWA]
      refine bodyPost_ret (v:=.tuple #[nod false (.slice none 0 0) (.slice none 0 0) (.slice none 0 0),.int .i64 0,.int .i64 0,.int .i64 re]) (zq9 (p:=10) (ty:=93) rfl _ _ _ W2.heap.size _ _ _ _ rfl HXA.out rfl rfl rfl) rfl ?_
      exact HF.out
    ·rintro o K hd ho hg hK
     refine zbk9 ho ?_
     obtain ⟨q,hq⟩:=exN wr.drew.heap.size
     rw [hd,hq]
     obtain ⟨Y0,hY0⟩:=exN (wr.drew.alloc (.cells #[.bool false,.slice none 0 0,.slice none 0 0,.slice none 0 0] 93))
     have hSY : Y0.cell? ⟨cb,0,none⟩ = some (tp t) /\ Y0.cell? ⟨w.heap.size,3,none⟩ = some (.slice (some ⟨kb,ko,none⟩) L3 c3) /\ Y0.cell? ⟨kb,ko + bi,none⟩ = some (.int .i64 kid):=by
      have bY : Below wr.drew.heap.size wr.drew Y0:=by rw [<- hY0]; exact za9 _ _
      have q : ∀ p v,wr.drew.cell? p = some v -> Y0.cell? p = some v:=fun p v hp => by rw [bY.cell (World.block_lt_of_cell? wr.drew p hp)]; exact hp
      exact ⟨q _ _ hS.1,q _ _ hS.2.1,q _ _ hS.2.2⟩
     have HBA' : Hid (Below wr.heap.size wr Y0):=by rw [<- hY0]; exact HBA.out
     rw [hY0]
     refine hK _ _ (fun _ => hSY) ?_
     clear ho hd hg hK
     simp only [Act.put,qa,qb,qc]
     refine rdW 11 (some 49) (.call { callee:=.value (.func 106),args:=#[.tmp 41,.tmp 46,.tmp 48],argTypes:=#[34,3,3] }) ?_
     rintro o K hd ho hg hK
     refine zd9 (enters_of Tryz.func106 (by kernel_rfl) rfl) ho (vs:=#[tp t,.int .i64 kid,.int .i64 ((lv + 1 : Nat) : Int)]) (by kernel_rfl) (HRD.out _ HBA'.out) ?_
     rintro e W5 ⟨H5,v1,v2,v3,he,ho5,hg5,ht5,hh5,ha5⟩
     obtain ⟨x1,y1,x2,y2,x3,y3,rfl,rfl,rfl,_,_,_,_⟩:=ho5.nn.out
     simp only [hR1.out,hR2.out,hR3.out,hrl.out] at he ho5 ha5
     refine ⟨_,he,?_⟩
     rw [hd]
     obtain ⟨hS5,hF5⟩:=HST.out _ W5 H5 HBA'.out hg5 ht5 hh5
     refine hK _ _ (fun _ => hS5) ?_
     clear ho hd hg hK he
     simp only [Act.put,qa,qb,qc]
     rw [<- hY0] at ht5
     have NBq : Nb W5 93 q false (.slice none 0 0) (.slice none 0 0) (.slice none 0 0):=by rw [<- hq]; exact HNB.out W5 ht5
     have HQL : Hid (cb < q /\ w.heap.size < q /\ kb < q):=by
      rw [<- hq]
      exact ⟨World.block_lt_of_cell? wr.drew ⟨cb,0,none⟩ hS.1,World.block_lt_of_cell? wr.drew ⟨w.heap.size,3,none⟩ hS.2.1,World.block_lt_of_cell? wr.drew ⟨kb,ko + bi,none⟩ hS.2.2⟩
     have hqq : wr.heap.size = q:=hq
     have hY0s : Y0.heap.size = q + 1:=by rw [<- hY0,<- hq]; simp
     refine tkW 12 (some 37) (.move (.tmp 49)) (Value.tuple #[nod rl (.slice x1 R1 y1) (.slice x2 R2 y2) (.slice x3 R3 y3),.int .i64 re]) (by rintro o ho w' _; go_simp) hS5 ?_
     simp only [Act.put,qa,qb,qc]
     refine tkW 13 (some 50) (.extract (.tmp 37) 0) (nod rl (.slice x1 R1 y1) (.slice x2 R2 y2) (.slice x3 R3 y3)) (by rintro o ho w' _; go_simp) hS5 ?_
     simp only [Act.put,qa,qb,qc]
     refine tkW 14 (some 51) (.extract (.tmp 37) 1) (Value.int .i64 re) (by rintro o ho w' _; go_simp) hS5 ?_
     simp only [Act.put,qa,qb,qc]
     obtain ⟨W7,hW7⟩:=exN ((((W5.setCell ⟨q,0,none⟩ (.bool rl)).setCell ⟨q,1,none⟩ (.slice x1 R1 y1)).setCell ⟨q,2,none⟩ (.slice x2 R2 y2)).setCell ⟨q,3,none⟩ (.slice x3 R3 y3))
     have t7 : Tch (fun y => y = q) W5 W7:=by rw [<- hW7]; exact zg9 _ _ _ _ _ _
     have N7 : Nb W7 93 q rl (.slice x1 R1 y1) (.slice x2 R2 y2) (.slice x3 R3 y3):=by rw [<- hW7]; exact NBq.all _ _ _ _
     have hS7 : W7.cell? ⟨cb,0,none⟩ = some (tp t) /\ W7.cell? ⟨w.heap.size,3,none⟩ = some (.slice (some ⟨kb,ko,none⟩) L3 c3) /\ W7.cell? ⟨kb,ko + bi,none⟩ = some (.int .i64 kid):=by
      have e : ∀ p v,W5.cell? p = some v -> p.block ≠ q -> W7.cell? p = some v:=fun p v hp hn => by rw [t7.cell (World.block_lt_of_cell? W5 p hp) hn]; exact hp
      exact ⟨e _ _ hS5.1 (by show cb ≠ q; have:=HQL.out; omega),e _ _ hS5.2.1 (by show w.heap.size ≠ q; have:=HQL.out; omega),e _ _ hS5.2.2 (by show kb ≠ q; have:=HQL.out; omega)⟩
     refine rdW 16 none (.store 93 (.tmp 16) (.tmp 50)) ?_
     rintro o K hd ho hg hK
     refine zu9 ho rfl rfl NBq ?_
     rw [hd,hW7]
     refine hK _ _ (fun _ => hS7) ?_
     clear ho hd hg hK
     simp only [Act.put,qa,qb,qc]
     refine rdW 17 (some 17) (.assign (.tmp 51)) ?_
     rintro o K hd ho hg hK
     refine stepY (v:=.int .i64 re) (by unfold execOp; simp only [ho]; go_simp) ?_
     rw [hd]
     refine hK _ _ (fun e => absurd rfl e) ?_
     refine doneW (by kernel_rfl) ?_ _
     clear ho hd hg hK
     simp only [Act.put,qa,qb,qc]
     have HREST : Hid (Nb W7 93 q rl (.slice x1 R1 y1) (.slice x2 R2 y2) (.slice x3 R3 y3) /\ Nn W7 rn (.slice x1 R1 y1) (.slice x2 R2 y2) (.slice x3 R3 y3) /\ Fr3 wr.heap.size (.slice x1 R1 y1) (.slice x2 R2 y2) (.slice x3 R3 y3) /\ JnI H W3 t cc d M N a b c W7 H5 /\ (∀ y,H5 y -> H' y ∨ wr.heap.size <= y) /\ Ap3 H5 (.slice x1 R1 y1) (.slice x2 R2 y2) (.slice x3 R3 y3) /\ ¬ H5 q):=by
      have fr:=ho5.fr
      have HB5:=HBA'.out.size
      have r1 : ∀ j,((Value.slice x1 R1 y1).ownBlock = some j ∨ (Value.slice x2 R2 y2).ownBlock = some j ∨ (Value.slice x3 R3 y3).ownBlock = some j) -> j ≠ q:=fun j hj e => by have:=fr j hj; omega
      have nq : ¬ H5 q:=fun e => (hh5 q e).elim (fun e => by have:=HLW.out q e; omega) (fun e => by omega)
      refine ⟨N7,ho5.nn.tch t7 (fun y hy e => r1 y (.inl hy) e) (fun y hy e => r1 y (.inr (.inl hy)) e) (fun y hy e => r1 y (.inr (.inr hy)) e),fun j hj => zn2 (by omega) (fr j hj),⟨hF5.1.gz.tch t7 (fun y hy e => nq (by rw [<- e]; exact hy)),hF5.1.tc.trans t7 (fun y hy e => ?_),hF5.1.hh⟩,hF5.2,ha5,nq⟩
      have:=HSR.out
      omega
     clear hW7 t7 N7 hS7 NBq hF5 hg5 ht5 hh5 ho5 ha5 hS5
     revert HREST
     generalize W7 = W8
     intro HREST
     have J8:=HREST.out.2.2.2.1
     have hz8:=HSZ.out
     have nH8 : ∀ y,w.heap.size <= y -> ¬ H y:=fun y h1 e => by have:=HHL.out y e; omega
     have nH5 : ∀ y,w.heap.size <= y -> y < W3.heap.size -> ¬ H5 y:=fun y h1 h2 e => (J8.hh y e).elim (nH8 y h1) (fun e => by omega)
     have X8 : Nb W8 93 W2.heap.size false (.slice none 0 0) (.slice none 0 0) (.slice none 0 0):=HX3.out.tch J8.tc (nH8 _ (by omega))
     have TW8 : Tch H w W8:=(Tch.of_below (S:=H) HB.out).trans J8.tc (fun _ _ e => e)
     have s83:=J8.tc.size
     by_cases hre : re = 0
     ·subst hre
      have NB8:=HREST.out.1
      have NN8:=HREST.out.2.1
      have P8 : Nb W8 93 W1.heap.size pf (.slice d1 P1 f1) (.slice d2 P2 f2) (.slice d3 P3 f3):=HP3.out.tch J8.tc (nH8 _ (by omega))
      have NP8 : Nn W8 p (.slice d1 P1 f1) (.slice d2 P2 f2) (.slice d3 P3 f3):=HP.out.tch TW8 (fun y hy => HAP.out y (.inl hy)) (fun y hy => HAP.out y (.inr (.inl hy))) (fun y hy => HAP.out y (.inr (.inr hy)))
      obtain ⟨hmy,hsm⟩:=HVR.out rfl
      obtain ⟨lr1,lr2,lr3⟩:=zku9 hmy hsm
      have hpk:=HPK.out
      have J1:=zbv9 p rn _ _ _ _ _ _ W8 NP8 NN8 (by omega) (by omega) (by omega)
      rw [hpf.out,hrl.out] at J1
      have HJ1:=hideN J1
      have SB1:=hideN (zce9 HSP.out hsm (by omega) (by omega) (by omega))
      have SB2:=hideN (zce9 hsm HSP.out (by omega) (by omega) (by omega))
      have HLR : Hid (rn.ks.length <= 1000 /\ rn.vs.length <= 1000 /\ rn.kd.length <= 1000):=⟨lr1,lr2,lr3⟩
      have H88 : Hid (Nb W8 93 W1.heap.size pf (.slice d1 P1 f1) (.slice d2 P2 f2) (.slice d3 P3 f3) /\ Nn W8 p (.slice d1 P1 f1) (.slice d2 P2 f2) (.slice d3 P3 f3) /\ Nb W8 93 q rl (.slice x1 R1 y1) (.slice x2 R2 y2) (.slice x3 R3 y3) /\ Nn W8 rn (.slice x1 R1 y1) (.slice x2 R2 y2) (.slice x3 R3 y3)):=⟨P8,NP8,NB8,NN8⟩
      have ppc0:=P8.c0
      have ppc1:=P8.c1
      have ppc2:=P8.c2
      have ppc3:=P8.c3
      have bbc0:=NB8.c0
      have bbc1:=NB8.c1
      have bbc2:=NB8.c2
      have bbc3:=NB8.c3
      clear J1 hmy hsm lr1 lr2 lr3 hpk NP8 NN8 P8 NB8 X8 TW8 J8 nH8 nH5 s83 hz8
      unfold nod at HJ1
      go_wp2_with fail
      refine HJ1.out.mono ?_
      rintro e W9 ⟨⟨zx1,zx2,zx3,rfl,nz,fz1,fz2,fz3⟩,b9⟩
      clear HJ1 ppc0 bbc0 ppc1 bbc1 ppc2 bbc2 ppc3 bbc3
      by_cases hlt : (bi : Int) < (at_ : Int)
      ·obtain ⟨zp1,zo1,zp2,zo2,zp3,zo3,rfl,rfl,rfl,_,_,_,_⟩:=nz.out
       obtain ⟨U1,hU1⟩:=exH ((joinN p rn).ks.length)
       obtain ⟨U2,hU2⟩:=exH ((joinN p rn).vs.length)
       obtain ⟨U3,hU3⟩:=exH ((joinN p rn).kd.length)
       simp only [hU1.out,hU2.out,hU3.out] at nz fz1 fz2 fz3
       simp only [hU1.out,hU2.out,hU3.out]
       obtain ⟨WB,hWB⟩:=exN (W9.alloc (.cells #[.bool false,.slice none 0 0,.slice none 0 0,.slice none 0 0] 93))
       have NB : Nb WB 93 W9.heap.size false (.slice none 0 0) (.slice none 0 0) (.slice none 0 0):=by rw [<- hWB]; exact nb_new _ _ _ _ _ _
       have bB : Below W9.heap.size W9 WB:=by rw [<- hWB]; exact za9 _ _
       obtain ⟨WC,hWC⟩:=exN ((((WB.setCell ⟨W9.heap.size,0,none⟩ (.bool pf)).setCell ⟨W9.heap.size,1,none⟩ (.slice zp1 U1 zo1)).setCell ⟨W9.heap.size,2,none⟩ (.slice zp2 U2 zo2)).setCell ⟨W9.heap.size,3,none⟩ (.slice zp3 U3 zo3))
       have NC : Nb WC 93 W9.heap.size pf (.slice zp1 U1 zo1) (.slice zp2 U2 zo2) (.slice zp3 U3 zo3):=by rw [<- hWC]; exact NB.all _ _ _ _
       have tC : Tch (fun y => y = W9.heap.size) WB WC:=by rw [<- hWC]; exact zg9 _ _ _ _ _ _
       have s9:=b9.size
       have t8C : Tch (fun _ => False) W8 WC:=((Tch.of_below b9).trans (Tch.of_below bB) (fun _ _ e => e)).trans tC (fun y hy e => by omega)
       have P9:=H88.out.1.tch t8C (fun e => e)
       have B9:=H88.out.2.2.1.tch t8C (fun e => e)
       have NP9:=H88.out.2.1.tch t8C (fun _ _ e => e) (fun _ _ e => e) (fun _ _ e => e)
       have NN9:=H88.out.2.2.2.tch t8C (fun _ _ e => e) (fun _ _ e => e) (fun _ _ e => e)
       have hpk:=HPK.out
       have hlr:=HLR.out
       have J2:=zbv9 rn p _ _ _ _ _ _ WC NN9 NP9 (by omega) (by omega) (by omega)
       rw [hpf.out,hrl.out] at J2
       have HJ2:=hideN J2
       have Ht8C:=hideN t8C
       have HNC:=hideN NC
       have Hs9:=hideN s9
       have nbc0:=NB.c0
       have nbc1:=NB.c1
       have nbc2:=NB.c2
       have nbc3:=NB.c3
       have nbz0:=NB.fz 0
       have nbz1:=NB.fz 1
       have nbz2:=NB.fz 2
       have nbz3:=NB.fz 3
       have ppc0:=P9.c0
       have ppc1:=P9.c1
       have ppc2:=P9.c2
       have ppc3:=P9.c3
       have bbc0:=B9.c0
       have bbc1:=B9.c1
       have bbc2:=B9.c2
       have bbc3:=B9.c3
       have dl : decide ((bi : Int) < (at_ : Int)) = true:=by rw [decide_eq_true_iff]; exact hlt
       clear NB bB NC tC t8C P9 B9 NP9 NN9 hpk hlr J2 s9 nz fz1 fz2 fz3 b9
       unfold nod at HJ2
       go_wp2_with fail
       refine HJ2.out.mono ?_
       rintro e WD ⟨⟨zx1,zx2,zx3,rfl,nz,fz1,fz2,fz3⟩,bD⟩
       obtain ⟨zg1,zh1,zg2,zh2,zg3,zh3,rfl,rfl,rfl,_,_,_,_⟩:=nz.out
       obtain ⟨Q1,hQ1⟩:=exH ((joinN rn p).ks.length)
       obtain ⟨Q2,hQ2⟩:=exH ((joinN rn p).vs.length)
       obtain ⟨Q3,hQ3⟩:=exH ((joinN rn p).kd.length)
       simp only [hQ1.out,hQ2.out,hQ3.out] at nz fz1 fz2 fz3
       simp only [hQ1.out,hQ2.out,hQ3.out]
       have ND : Nb WD 93 W9.heap.size pf (.slice zp1 U1 zo1) (.slice zp2 U2 zo2) (.slice zp3 U3 zo3):=HNC.out.below bD
       obtain ⟨WE,hWE⟩:=exN ((((WD.setCell ⟨W9.heap.size,0,none⟩ (.bool rl)).setCell ⟨W9.heap.size,1,none⟩ (.slice zg1 Q1 zh1)).setCell ⟨W9.heap.size,2,none⟩ (.slice zg2 Q2 zh2)).setCell ⟨W9.heap.size,3,none⟩ (.slice zg3 Q3 zh3))
       have NQ : Nb WE 93 W9.heap.size rl (.slice zg1 Q1 zh1) (.slice zg2 Q2 zh2) (.slice zg3 Q3 zh3):=by rw [<- hWE]; exact ND.all _ _ _ _
       have tE : Tch (fun y => y = W9.heap.size) WD WE:=by rw [<- hWE]; exact zg9 _ _ _ _ _ _
       have s9:=Hs9.out
       have sC:=Ht8C.out.size
       have sq:=HNC.out.lt
       have t8X : Tch (fun _ => False) W8 WE:=(Ht8C.out.trans (Tch.of_below bD) (fun _ _ e => e)).trans tE (fun y hy e => by omega)
       have sE:=tE.size
       have nzX : Nn WE (joinN rn p) (.slice zg1 Q1 zh1) (.slice zg2 Q2 zh2) (.slice zg3 Q3 zh3):=nz.tch tE (fun y hy e => by have:=(fz1 y hy).1; omega) (fun y hy e => by have:=(fz2 y hy).1; omega) (fun y hy e => by have:=(fz3 y hy).1; omega)
       have frX : ∀ j,((Value.slice zg1 Q1 zh1).ownBlock = some j ∨ (Value.slice zg2 Q2 zh2).ownBlock = some j ∨ (Value.slice zg3 Q3 zh3).ownBlock = some j) -> W8.heap.size <= j /\ j < WE.heap.size:=fun j hj => by
        rcases hj with e | e | e
        ·have:=fz1 j e; omega
        ·have:=fz2 j e; omega
        ·have:=fz3 j e; omega
       have SBX:=SB2
       have lfX : Hid ((joinN rn p).lf = rl):=by show rn.lf = rl; exact hrl.out
       have HBX : Hid (besF a c n at_ lv p (bi : Int) = if mayN (joinN rn p) = true then some ⟨0,joinN rn p,bi,bi + 2,leaveF a c kid⟩ else none):=HBE.out.2.1 (by trivial) hlt
       have J8:=HREST.out.2.2.2.1
       have hz8:=HSZ.out
       have nH8 : ∀ y,w.heap.size <= y -> ¬ H y:=fun y h1 e => by have:=HHL.out y e; omega
       have nH5 : ∀ y,w.heap.size <= y -> y < W3.heap.size -> ¬ H5 y:=fun y h1 h2 e => (J8.hh y e).elim (nH8 y h1) (fun e => by omega)
       have s83:=J8.tc.size
       have ndc0:=ND.c0
       have ndc1:=ND.c1
       have ndc2:=ND.c2
       have ndc3:=ND.c3
       have ndz0:=ND.fz 0
       have ndz1:=ND.fz 1
       have ndz2:=ND.fz 2
       have ndz3:=ND.fz 3
       clear ND tE sC sq sE nz fz1 fz2 fz3 bD
       have JX : JnI H W3 t cc d M N a b c WE H5:=⟨J8.gz.tch t8X (fun _ _ e => e),J8.tc.trans t8X (fun _ _ e => e.elim),J8.hh⟩
       have HJX:=hideN JX
       have MX:=zci9 (joinN rn p) _ _ _ WE nzX SBX.out
       rw [lfX.out] at MX
       obtain ⟨mb,hmb⟩:=exH (mayN (joinN rn p))
       rw [hmb.out] at MX
       have HMX:=hideN MX
       have HNQ:=hideN NQ
       have Hnz:=hideN nzX
       have Hfr:=hideN frX
       have HnH5:=hideN nH5
       have Hq8 : Hid (W8.heap.size <= W9.heap.size /\ W3.heap.size <= W8.heap.size /\ W8.heap.size <= WE.heap.size):=⟨s9,s83,t8X.size⟩
       have qqc0:=NQ.c0
       have qqc1:=NQ.c1
       have qqc2:=NQ.c2
       have qqc3:=NQ.c3
       clear JX MX t8X nzX frX nH5 NQ J8 nH8 hz8 s83 s9
       unfold nod at HMX
       go_wp2_with fail
       refine HMX.out.mono ?_
       rintro e WM ⟨rfl,bM⟩
       have HbM:=hideN bM
       clear bM
       cases mb
       ·have HN0 : Hid (besF a c n at_ lv p (bi : Int) = none):=by show _ = _; rw [HBX.out,hmb.out]; rfl
        go_wp2_with fail
        exact ⟨⟨k + 1,H5,by omega,by rfl,⟨⟨HJX.out.gz.below HbM.out,HJX.out.tc.trans (Tch.of_below HbM.out) (fun _ _ e => e),HJX.out.hh⟩,HNX.out HN0.out⟩⟩,by simp [intOf]; omega⟩
       ·have HRX : Hid (RR = ⟨0,joinN rn p,bi,bi + 2,leaveF a c kid⟩):=HSM.out _ (by rw [HBX.out,hmb.out]; rfl)
        have hz8:=HSZ.out
        have nH8 : ∀ y,w.heap.size <= y -> ¬ H y:=fun y h1 e => by have:=HHL.out y e; omega
        have TM : Tch H W3 WM:=HJX.out.tc.trans (Tch.of_below (S:=H) HbM.out) (fun _ _ e => e)
        have TWM : Tch H w WM:=(Tch.of_below (S:=H) HB.out).trans TM (fun _ _ e => e)
        have VM : Nb WM 93 w.heap.size lf (.slice a1 L1 c1) (.slice a2 L2 c2) (.slice (some ⟨kb,ko,none⟩) L3 c3):=HV3.out.tch TM (nH8 _ (zn6 _))
        have vc3:=VM.c3
        have vck:=HKC.out WM TWM
        have gM:=HJX.out.gz.below HbM.out
        have LX:=zaz9 kid (by have:=HKR.out; exact zap9 (by omega) (by omega)) WM gM (by have:=HGL.out; omega)
        unfold chp at LX
        rw [hcb.out] at LX
        have HLX:=hideN LX
        have XM : Hid (Nb WM 93 W2.heap.size false (.slice none 0 0) (.slice none 0 0) (.slice none 0 0)):=HX3.out.tch TM (nH8 _ (by omega))
        have QM : Hid (Nb WM 93 W9.heap.size rl (.slice zg1 Q1 zh1) (.slice zg2 Q2 zh2) (.slice zg3 Q3 zh3)):=HNQ.out.below HbM.out
        have HTM:=hideN TWM
        have HgM:=hideN gM
        clear TM TWM VM gM LX hz8 nH8
        go_wp2_with fail
        refine HLX.out.mono ?_
        rintro e WL ⟨rfl,H6,g6,t6,h6⟩
        have hz8:=HSZ.out
        have hq8:=Hq8.out
        have nq9 : ¬ H5 W9.heap.size:=fun e => by have:=HREST.out.2.2.2.1.gz.hl _ e; omega
        have hsM':=HbM.out.size
        have n52 : ¬ H5 W2.heap.size:=HnH5.out _ (by omega) (by omega)
        have XL:=XM.out.tch t6 n52
        have QL:=QM.out.tch t6 nq9
        obtain ⟨WF,hWF⟩:=exN ((((WL.setCell ⟨W2.heap.size,0,none⟩ (.bool rl)).setCell ⟨W2.heap.size,1,none⟩ (.slice zg1 Q1 zh1)).setCell ⟨W2.heap.size,2,none⟩ (.slice zg2 Q2 zh2)).setCell ⟨W2.heap.size,3,none⟩ (.slice zg3 Q3 zh3))
        have XF : Nb WF 93 W2.heap.size rl (.slice zg1 Q1 zh1) (.slice zg2 Q2 zh2) (.slice zg3 Q3 zh3):=by rw [<- hWF]; exact XL.all _ _ _ _
        have tF : Tch (fun y => y = W2.heap.size) WL WF:=by rw [<- hWF]; exact zg9 _ _ _ _ _ _
        have HXF:=hideN XF.load
        have HF : Hid (JndT H w t cc d M N a b (.slice d1 P1 f1) (.slice d2 P2 f2) (.slice d3 P3 f3) RR (.returned (.tuple #[nod rl (.slice zg1 Q1 zh1) (.slice zg2 Q2 zh2) (.slice zg3 Q3 zh3),.int .i64 (bi : Int),.int .i64 ((bi + 2 : Nat) : Int),.int .i64 0])) WF):=by
         show JndT _ _ _ _ _ _ _ _ _ _ _ _ _ _ _
         rw [HRX.out]
         have h58 : ∀ y,H5 y -> y < W8.heap.size:=fun y e => HREST.out.2.2.2.1.gz.hl y e
         have fr0 : ∀ j,((Value.slice zg1 Q1 zh1).ownBlock = some j ∨ (Value.slice zg2 Q2 zh2).ownBlock = some j ∨ (Value.slice zg3 Q3 zh3).ownBlock = some j) -> W8.heap.size <= j /\ j < WE.heap.size:=Hfr.out
         have hsM:=HbM.out.size
         have hs6:=t6.size
         have nzM : Nn WM (joinN rn p) (.slice zg1 Q1 zh1) (.slice zg2 Q2 zh2) (.slice zg3 Q3 zh3):=Hnz.out.below HbM.out
         have nzL : Nn WL (joinN rn p) (.slice zg1 Q1 zh1) (.slice zg2 Q2 zh2) (.slice zg3 Q3 zh3):=nzM.tch t6 (fun y hy e => by have:=h58 y e; have:=(fr0 y (.inl hy)).1; omega) (fun y hy e => by have:=h58 y e; have:=(fr0 y (.inr (.inl hy))).1; omega) (fun y hy e => by have:=h58 y e; have:=(fr0 y (.inr (.inr hy))).1; omega)
         have n62 : ∀ y,H6 y -> y ≠ W2.heap.size:=fun y e q => by
          subst q
          exact (h6 _ e).elim n52 (fun e => by omega)
         refine ⟨H6,_,_,_,by rw [show (JR.n ⟨0,joinN rn p,bi,bi + 2,leaveF a c kid⟩) = joinN rn p from rfl,lfX.out],g6.tch tF (fun y hy e => n62 y hy e),(HTM.out.trans t6 (fun y hy e => (HREST.out.2.2.2.1.hh y e).elim id (fun e => by omega))).trans tF (fun y hy e => by omega),fun y hy => (h6 y hy).elim (fun e => (HREST.out.2.2.2.1.hh y e).imp id (fun e => by omega)) (fun e => .inr (by omega)),nzL.tch tF (fun y hy e => by have:=(fr0 y (.inl hy)).1; omega) (fun y hy e => by have:=(fr0 y (.inr (.inl hy))).1; omega) (fun y hy e => by have:=(fr0 y (.inr (.inr hy))).1; omega),fun j hj => ?_⟩
         have:=fr0 j hj
         refine ⟨.inr (.inr (.inr (by omega))),fun e => (h6 j e).elim (fun e => by have:=h58 j e; omega) (fun e => by omega)⟩
        have qlc0:=QL.c0
        have qlc1:=QL.c1
        have qlc2:=QL.c2
        have qlc3:=QL.c3
        have xlc0:=XL.c0
        have xlc1:=XL.c1
        have xlc2:=XL.c2
        have xlc3:=XL.c3
        have xlz0:=XL.fz 0
        have xlz1:=XL.fz 1
        have xlz2:=XL.fz 2
        have xlz3:=XL.fz 3
        have wf1:=wk_nat (x:=(bi : Int) + 2) (t:=bi + 2) (by omega) (by omega)
        have wf2:=zs9 (x:=(bi : Int) + 2) (t:=bi + 2) (by omega) (by omega)
        clear XL QL XF tF g6 t6 h6 hz8 hq8 nq9 n52 hsM'
        go_wp2_with fail
        try rw [hWF]
        refine bodyPost_ret (v:=.tuple #[nod rl (.slice zg1 Q1 zh1) (.slice zg2 Q2 zh2) (.slice zg3 Q3 zh3),.int .i64 (bi : Int),.int .i64 ((bi + 2 : Nat) : Int),.int .i64 0]) (zq9 (p:=10) (ty:=93) rfl _ _ _ W2.heap.size _ _ _ _ rfl HXF.out rfl rfl rfl) rfl ?_
        exact HF.out
      ·
       obtain ⟨zg1,zh1,zg2,zh2,zg3,zh3,rfl,rfl,rfl,_,_,_,_⟩:=nz.out
       obtain ⟨Q1,hQ1⟩:=exH ((joinN p rn).ks.length)
       obtain ⟨Q2,hQ2⟩:=exH ((joinN p rn).vs.length)
       obtain ⟨Q3,hQ3⟩:=exH ((joinN p rn).kd.length)
       simp only [hQ1.out,hQ2.out,hQ3.out] at nz fz1 fz2 fz3
       simp only [hQ1.out,hQ2.out,hQ3.out]
       obtain ⟨WB,hWB⟩:=exN (W9.alloc (.cells #[.bool false,.slice none 0 0,.slice none 0 0,.slice none 0 0] 93))
       have NB : Nb WB 93 W9.heap.size false (.slice none 0 0) (.slice none 0 0) (.slice none 0 0):=by rw [<- hWB]; exact nb_new _ _ _ _ _ _
       have bB : Below W9.heap.size W9 WB:=by rw [<- hWB]; exact za9 _ _
       obtain ⟨WC,hWC⟩:=exN ((((WB.setCell ⟨W9.heap.size,0,none⟩ (.bool pf)).setCell ⟨W9.heap.size,1,none⟩ (.slice zg1 Q1 zh1)).setCell ⟨W9.heap.size,2,none⟩ (.slice zg2 Q2 zh2)).setCell ⟨W9.heap.size,3,none⟩ (.slice zg3 Q3 zh3))
       have NC : Nb WC 93 W9.heap.size pf (.slice zg1 Q1 zh1) (.slice zg2 Q2 zh2) (.slice zg3 Q3 zh3):=by rw [<- hWC]; exact NB.all _ _ _ _
       have tC : Tch (fun y => y = W9.heap.size) WB WC:=by rw [<- hWC]; exact zg9 _ _ _ _ _ _
       have s9:=b9.size
       have sC:=tC.size
       have sB:=bB.size
       have t8X : Tch (fun _ => False) W8 WC:=((Tch.of_below b9).trans (Tch.of_below bB) (fun _ _ e => e)).trans tC (fun y hy e => by omega)
       have NQ:=NC
       have nzX : Nn WC (joinN p rn) (.slice zg1 Q1 zh1) (.slice zg2 Q2 zh2) (.slice zg3 Q3 zh3):=(nz.below bB).tch tC (fun y hy e => by have:=(fz1 y hy).2; omega) (fun y hy e => by have:=(fz2 y hy).2; omega) (fun y hy e => by have:=(fz3 y hy).2; omega)
       have frX : ∀ j,((Value.slice zg1 Q1 zh1).ownBlock = some j ∨ (Value.slice zg2 Q2 zh2).ownBlock = some j ∨ (Value.slice zg3 Q3 zh3).ownBlock = some j) -> W8.heap.size <= j /\ j < WC.heap.size:=fun j hj => by
        rcases hj with e | e | e
        ·have:=fz1 j e; omega
        ·have:=fz2 j e; omega
        ·have:=fz3 j e; omega
       have SBX:=SB1
       have lfX : Hid ((joinN p rn).lf = pf):=by show p.lf = pf; exact hpf.out
       have HBX : Hid (besF a c n at_ lv p (bi : Int) = if mayN (joinN p rn) = true then some ⟨0,joinN p rn,at_,at_ + 2,leaveF a c kid⟩ else none):=HBE.out.2.2 (by trivial) (by omega)
       have dl : decide ((bi : Int) < (at_ : Int)) = false:=by rw [zn4]; exact hlt
       have J8:=HREST.out.2.2.2.1
       have hz8:=HSZ.out
       have nH8 : ∀ y,w.heap.size <= y -> ¬ H y:=fun y h1 e => by have:=HHL.out y e; omega
       have nH5 : ∀ y,w.heap.size <= y -> y < W3.heap.size -> ¬ H5 y:=fun y h1 h2 e => (J8.hh y e).elim (nH8 y h1) (fun e => by omega)
       have s83:=J8.tc.size
       have nbc0:=NB.c0
       have nbc1:=NB.c1
       have nbc2:=NB.c2
       have nbc3:=NB.c3
       have nbz0:=NB.fz 0
       have nbz1:=NB.fz 1
       have nbz2:=NB.fz 2
       have nbz3:=NB.fz 3
       clear NB bB tC sC sB nz fz1 fz2 fz3 b9 NC
       have JX : JnI H W3 t cc d M N a b c WC H5:=⟨J8.gz.tch t8X (fun _ _ e => e),J8.tc.trans t8X (fun _ _ e => e.elim),J8.hh⟩
       have HJX:=hideN JX
       have MX:=zci9 (joinN p rn) _ _ _ WC nzX SBX.out
       rw [lfX.out] at MX
       obtain ⟨mb,hmb⟩:=exH (mayN (joinN p rn))
       rw [hmb.out] at MX
       have HMX:=hideN MX
       have HNQ:=hideN NQ
       have Hnz:=hideN nzX
       have Hfr:=hideN frX
       have HnH5:=hideN nH5
       have Hq8 : Hid (W8.heap.size <= W9.heap.size /\ W3.heap.size <= W8.heap.size /\ W8.heap.size <= WC.heap.size):=⟨s9,s83,t8X.size⟩
       have qqc0:=NQ.c0
       have qqc1:=NQ.c1
       have qqc2:=NQ.c2
       have qqc3:=NQ.c3
       clear JX MX t8X nzX frX nH5 NQ J8 nH8 hz8 s83 s9
       unfold nod at HMX
       go_wp2_with fail
       refine HMX.out.mono ?_
       rintro e WM ⟨rfl,bM⟩
       have HbM:=hideN bM
       clear bM
       cases mb
       ·have HN0 : Hid (besF a c n at_ lv p (bi : Int) = none):=by show _ = _; rw [HBX.out,hmb.out]; rfl
        go_wp2_with fail
        exact ⟨⟨k + 1,H5,by omega,by rfl,⟨⟨HJX.out.gz.below HbM.out,HJX.out.tc.trans (Tch.of_below HbM.out) (fun _ _ e => e),HJX.out.hh⟩,HNX.out HN0.out⟩⟩,by simp [intOf]; omega⟩
       ·have HRX : Hid (RR = ⟨0,joinN p rn,at_,at_ + 2,leaveF a c kid⟩):=HSM.out _ (by rw [HBX.out,hmb.out]; rfl)
        have hz8:=HSZ.out
        have nH8 : ∀ y,w.heap.size <= y -> ¬ H y:=fun y h1 e => by have:=HHL.out y e; omega
        have TM : Tch H W3 WM:=HJX.out.tc.trans (Tch.of_below (S:=H) HbM.out) (fun _ _ e => e)
        have TWM : Tch H w WM:=(Tch.of_below (S:=H) HB.out).trans TM (fun _ _ e => e)
        have VM : Nb WM 93 w.heap.size lf (.slice a1 L1 c1) (.slice a2 L2 c2) (.slice (some ⟨kb,ko,none⟩) L3 c3):=HV3.out.tch TM (nH8 _ (zn6 _))
        have vc3:=VM.c3
        have vck:=HKC.out WM TWM
        have gM:=HJX.out.gz.below HbM.out
        have LX:=zaz9 kid (by have:=HKR.out; exact zap9 (by omega) (by omega)) WM gM (by have:=HGL.out; omega)
        unfold chp at LX
        rw [hcb.out] at LX
        have HLX:=hideN LX
        have XM : Hid (Nb WM 93 W2.heap.size false (.slice none 0 0) (.slice none 0 0) (.slice none 0 0)):=HX3.out.tch TM (nH8 _ (by omega))
        have QM : Hid (Nb WM 93 W9.heap.size pf (.slice zg1 Q1 zh1) (.slice zg2 Q2 zh2) (.slice zg3 Q3 zh3)):=HNQ.out.below HbM.out
        have HTM:=hideN TWM
        have HgM:=hideN gM
        clear TM TWM VM gM LX hz8 nH8
        go_wp2_with fail
        refine HLX.out.mono ?_
        rintro e WL ⟨rfl,H6,g6,t6,h6⟩
        have hz8:=HSZ.out
        have hq8:=Hq8.out
        have nq9 : ¬ H5 W9.heap.size:=fun e => by have:=HREST.out.2.2.2.1.gz.hl _ e; omega
        have hsM':=HbM.out.size
        have n52 : ¬ H5 W2.heap.size:=HnH5.out _ (by omega) (by omega)
        have XL:=XM.out.tch t6 n52
        have QL:=QM.out.tch t6 nq9
        obtain ⟨WF,hWF⟩:=exN ((((WL.setCell ⟨W2.heap.size,0,none⟩ (.bool pf)).setCell ⟨W2.heap.size,1,none⟩ (.slice zg1 Q1 zh1)).setCell ⟨W2.heap.size,2,none⟩ (.slice zg2 Q2 zh2)).setCell ⟨W2.heap.size,3,none⟩ (.slice zg3 Q3 zh3))
        have XF : Nb WF 93 W2.heap.size pf (.slice zg1 Q1 zh1) (.slice zg2 Q2 zh2) (.slice zg3 Q3 zh3):=by rw [<- hWF]; exact XL.all _ _ _ _
        have tF : Tch (fun y => y = W2.heap.size) WL WF:=by rw [<- hWF]; exact zg9 _ _ _ _ _ _
        have HXF:=hideN XF.load
        have HF : Hid (JndT H w t cc d M N a b (.slice d1 P1 f1) (.slice d2 P2 f2) (.slice d3 P3 f3) RR (.returned (.tuple #[nod pf (.slice zg1 Q1 zh1) (.slice zg2 Q2 zh2) (.slice zg3 Q3 zh3),.int .i64 (at_ : Int),.int .i64 ((at_ + 2 : Nat) : Int),.int .i64 0])) WF):=by
         show JndT _ _ _ _ _ _ _ _ _ _ _ _ _ _ _
         rw [HRX.out]
         have h58 : ∀ y,H5 y -> y < W8.heap.size:=fun y e => HREST.out.2.2.2.1.gz.hl y e
         have fr0 : ∀ j,((Value.slice zg1 Q1 zh1).ownBlock = some j ∨ (Value.slice zg2 Q2 zh2).ownBlock = some j ∨ (Value.slice zg3 Q3 zh3).ownBlock = some j) -> W8.heap.size <= j /\ j < WC.heap.size:=Hfr.out
         have hsM:=HbM.out.size
         have hs6:=t6.size
         have nzM : Nn WM (joinN p rn) (.slice zg1 Q1 zh1) (.slice zg2 Q2 zh2) (.slice zg3 Q3 zh3):=Hnz.out.below HbM.out
         have nzL : Nn WL (joinN p rn) (.slice zg1 Q1 zh1) (.slice zg2 Q2 zh2) (.slice zg3 Q3 zh3):=nzM.tch t6 (fun y hy e => by have:=h58 y e; have:=(fr0 y (.inl hy)).1; omega) (fun y hy e => by have:=h58 y e; have:=(fr0 y (.inr (.inl hy))).1; omega) (fun y hy e => by have:=h58 y e; have:=(fr0 y (.inr (.inr hy))).1; omega)
         have n62 : ∀ y,H6 y -> y ≠ W2.heap.size:=fun y e q => by
          subst q
          exact (h6 _ e).elim n52 (fun e => by omega)
         refine ⟨H6,_,_,_,by rw [show (JR.n ⟨0,joinN p rn,at_,at_ + 2,leaveF a c kid⟩) = joinN p rn from rfl,lfX.out],g6.tch tF (fun y hy e => n62 y hy e),(HTM.out.trans t6 (fun y hy e => (HREST.out.2.2.2.1.hh y e).elim id (fun e => by omega))).trans tF (fun y hy e => by omega),fun y hy => (h6 y hy).elim (fun e => (HREST.out.2.2.2.1.hh y e).imp id (fun e => by omega)) (fun e => .inr (by omega)),nzL.tch tF (fun y hy e => by have:=(fr0 y (.inl hy)).1; omega) (fun y hy e => by have:=(fr0 y (.inr (.inl hy))).1; omega) (fun y hy e => by have:=(fr0 y (.inr (.inr hy))).1; omega),fun j hj => ?_⟩
         have:=fr0 j hj
         refine ⟨.inr (.inr (.inr (by omega))),fun e => (h6 j e).elim (fun e => by have:=h58 j e; omega) (fun e => by omega)⟩
        have qlc0:=QL.c0
        have qlc1:=QL.c1
        have qlc2:=QL.c2
        have qlc3:=QL.c3
        have xlc0:=XL.c0
        have xlc1:=XL.c1
        have xlc2:=XL.c2
        have xlc3:=XL.c3
        have xlz0:=XL.fz 0
        have xlz1:=XL.fz 1
        have xlz2:=XL.fz 2
        have xlz3:=XL.fz 3
        have wf1:=wk_nat (x:=(at_ : Int) + 2) (t:=at_ + 2) (by omega) (by omega)
        have wf2:=zs9 (x:=(at_ : Int) + 2) (t:=at_ + 2) (by omega) (by omega)
        clear XL QL XF tF g6 t6 h6 hz8 hq8 nq9 n52 hsM'
        go_wp2_with fail
        try rw [hWF]
        refine bodyPost_ret (v:=.tuple #[nod pf (.slice zg1 Q1 zh1) (.slice zg2 Q2 zh2) (.slice zg3 Q3 zh3),.int .i64 (at_ : Int),.int .i64 ((at_ + 2 : Nat) : Int),.int .i64 0]) (zq9 (p:=10) (ty:=93) rfl _ _ _ W2.heap.size _ _ _ _ rfl HXF.out rfl rfl rfl) rfl ?_
        exact HF.out
     ·have de1 : (re == 0) = false:=by rw [beq_eq_false_iff_ne]; exact hre
      have de2 : (re != 0) = true:=by rw [bne,de1]; rfl
      obtain ⟨WA,hWA⟩:=exN ((((W8.setCell ⟨W2.heap.size,0,none⟩ (.bool false)).setCell ⟨W2.heap.size,1,none⟩ (.slice none 0 0)).setCell ⟨W2.heap.size,2,none⟩ (.slice none 0 0)).setCell ⟨W2.heap.size,3,none⟩ (.slice none 0 0))
      have XA : Nb WA 93 W2.heap.size false (.slice none 0 0) (.slice none 0 0) (.slice none 0 0):=by rw [<- hWA]; exact X8.all _ _ _ _
      have tA : Tch (fun y => y = W2.heap.size) W8 WA:=by rw [<- hWA]; exact zg9 _ _ _ _ _ _
      have HXA:=hideN XA.load
      have HF : Hid (JndT H w t cc d M N a b (.slice d1 P1 f1) (.slice d2 P2 f2) (.slice d3 P3 f3) RR (.returned (.tuple #[nod false (.slice none 0 0) (.slice none 0 0) (.slice none 0 0),.int .i64 0,.int .i64 0,.int .i64 re])) WA):=by
       show JndT _ _ _ _ _ _ _ _ _ _ _ _ _ _ _
       rw [HSM.out _ (HBE.out.1 hre)]
       refine ⟨H5,_,_,_,rfl,J8.gz.tch tA (fun y hy e => nH5 y (by omega) (by omega) hy),TW8.trans tA (fun y hy e => by omega),fun y hy => (J8.hh y hy).imp id (fun e => by omega),(zgd9 0 WA).nn,fun j hj => ?_⟩
       rcases hj with e | e | e <;> cases e
      have xxc0:=X8.c0
      have xxc1:=X8.c1
      have xxc2:=X8.c2
      have xxc3:=X8.c3
      have xxz0:=X8.fz 0
      have xxz1:=X8.fz 1
      have xxz2:=X8.fz 2
      have xxz3:=X8.fz 3
      clear X8 XA tA TW8 J8 nH8 nH5 s83 hz8 hre
      go_wp2_with fail
      try rw [hWA]
      refine bodyPost_ret (v:=.tuple #[nod false (.slice none 0 0) (.slice none 0 0) (.slice none 0 0),.int .i64 0,.int .i64 0,.int .i64 re]) (zq9 (p:=10) (ty:=93) rfl _ _ _ W2.heap.size _ _ _ _ rfl HXA.out rfl rfl rfl) rfl ?_
      exact HF.out
    --END
  ·have hk2 : k = 2:=by omega
   subst hk2
   have I:=hI.out
   have hz8:=HSZ.out
   have nH8 : ∀ y,w.heap.size <= y -> ¬ H y:=fun y h1 e => by have:=HHL.out y e; omega
   have X8 : Nb wr 93 W2.heap.size false (.slice none 0 0) (.slice none 0 0) (.slice none 0 0):=HX3.out.tch I.1.tc (nH8 _ (by omega))
   have P8 : Nb wr 93 W1.heap.size pf (.slice d1 P1 f1) (.slice d2 P2 f2) (.slice d3 P3 f3):=HP3.out.tch I.1.tc (nH8 _ (by omega))
   have TW8 : Tch H w wr:=(Tch.of_below (S:=H) HB.out).trans I.1.tc (fun _ _ e => e)
   have NP8 : Nn wr p (.slice d1 P1 f1) (.slice d2 P2 f2) (.slice d3 P3 f3):=HP.out.tch TW8 (fun y hy => HAP.out y (.inl hy)) (fun y hy => HAP.out y (.inr (.inl hy))) (fun y hy => HAP.out y (.inr (.inr hy)))
   have n52 : ∀ y,H' y -> y ≠ W2.heap.size:=fun y e q => by
    subst q
    exact (I.1.hh _ e).elim (nH8 _ (by omega)) (fun e => by omega)
   obtain ⟨WA,hWA⟩:=exN ((((wr.setCell ⟨W2.heap.size,0,none⟩ (.bool pf)).setCell ⟨W2.heap.size,1,none⟩ (.slice d1 P1 f1)).setCell ⟨W2.heap.size,2,none⟩ (.slice d2 P2 f2)).setCell ⟨W2.heap.size,3,none⟩ (.slice d3 P3 f3))
   have XA : Nb WA 93 W2.heap.size pf (.slice d1 P1 f1) (.slice d2 P2 f2) (.slice d3 P3 f3):=by rw [<- hWA]; exact X8.all _ _ _ _
   have tA : Tch (fun y => y = W2.heap.size) wr WA:=by rw [<- hWA]; exact zg9 _ _ _ _ _ _
   have HXA:=hideN XA.load
   have HF : Hid (JndT H w t cc d M N a b (.slice d1 P1 f1) (.slice d2 P2 f2) (.slice d3 P3 f3) RR (.returned (.tuple #[nod pf (.slice d1 P1 f1) (.slice d2 P2 f2) (.slice d3 P3 f3),.int .i64 (at_ : Int),.int .i64 ((at_ + 1 : Nat) : Int),.int .i64 0])) WA):=by
    show JndT _ _ _ _ _ _ _ _ _ _ _ _ _ _ _
    have er : RR = ⟨0,p,at_,at_ + 1,c⟩:=by
     rw [<- hRR.out]
     unfold joinedF
     rw [I.2.1 (by omega),I.2.2 (by omega)]
    rw [er]
    refine ⟨H',_,_,_,by rw [show (JR.n ⟨0,p,at_,at_ + 1,c⟩) = p from rfl,hpf.out],I.1.gz.tch tA (fun y hy e => n52 y hy e),TW8.trans tA (fun y hy e => by omega),fun y hy => (I.1.hh y hy).imp id (fun e => by omega),NP8.tch tA (fun y hy e => by have:=HPL.out y (.inl hy); omega) (fun y hy e => by have:=HPL.out y (.inr (.inl hy)); omega) (fun y hy e => by have:=HPL.out y (.inr (.inr hy)); omega),fun j hj => ⟨?_,fun e => ?_⟩⟩
    ·rcases hj with e | e | e
     ·exact .inl e
     ·exact .inr (.inl e)
     ·exact .inr (.inr (.inl e))
    ·exact (I.1.hh j e).elim (fun e => HAP.out j hj e) (fun e => by have:=HPL.out j hj; omega)
   have ppc0:=P8.c0
   have ppc1:=P8.c1
   have ppc2:=P8.c2
   have ppc3:=P8.c3
   have xxc0:=X8.c0
   have xxc1:=X8.c1
   have xxc2:=X8.c2
   have xxc3:=X8.c3
   have xxz0:=X8.fz 0
   have xxz1:=X8.fz 1
   have xxz2:=X8.fz 2
   have xxz3:=X8.fz 3
   have wf1:=wk_nat (x:=(at_ : Int) + 1) (t:=at_ + 1) (by omega) (by omega)
   have wf2:=zs9 (x:=(at_ : Int) + 1) (t:=at_ + 1) (by omega) (by omega)
   clear w2 X8 P8 XA tA TW8 NP8 nH8 n52 I hI hz8
   go_wp2_with fail
   try rw [hWA]
   refine bodyPost_ret (v:=.tuple #[nod pf (.slice d1 P1 f1) (.slice d2 P2 f2) (.slice d3 P3 f3),.int .i64 (at_ : Int),.int .i64 ((at_ + 1 : Nat) : Int),.int .i64 0]) (zq9 (p:=10) (ty:=93) rfl _ _ _ W2.heap.size _ _ _ _ rfl HXA.out rfl rfl rfl) rfl ?_
   exact HF.out
end
end Go.Proofs.YtjhccpijpffahaaGreat
namespace Go.Proofs.YtjhccpijpffahaaGreat
open Go.RowKit Pl
structure SzT (n : Nd) : Prop where
 sm : Sm n
 k : n.ks.length <= 500
 v : n.vs.length <= 500
 d : n.kd.length <= 500
structure Vk (n : Nd) : Prop where
 may : mayN n = true
 sm : Sm n
theorem Vk.len {m : Nd} (h : Vk m) : m.ks.length <= 240 /\ m.vs.length <= 240 /\ m.kd.length <= 240:=by
 have hm:=zw9.1 h.may
 have hr:=zep9 hm (by have:=h.sm.kl; omega)
 have h1:=enc_le hr (zn6 _)
 rw [zjr9 hr (zn6 _)] at h1
 have h2:=szN_ge m m.ks.length
 obtain ⟨_,_,_,h3⟩:=hm
 split at h3
 ·obtain ⟨_,e1,e2⟩:=h3
  omega
 ·obtain ⟨_,e1,e2⟩:=h3
  omega
theorem Vk.sz {m : Nd} (h : Vk m) : SzT m:=by have:=h.len; exact ⟨h.sm,by omega,by omega,by omega⟩
theorem Vk.pos {m : Nd} (h : Vk m) : 1 <= m.ks.length:=(zw9.1 h.may).1
theorem Vk.leaf {m : Nd} (h : Vk m) (hl : m.lf = true) : m.vs.length = m.ks.length /\ m.kd.length = 0:=by
 obtain ⟨_,_,_,h3⟩:=zw9.1 h.may
 rw [if_pos hl] at h3
 exact h3.2
theorem Vk.inner {m : Nd} (h : Vk m) (hl : m.lf = false) : (∀ i,i < m.kd.length -> 0 <= dA m i /\ dA m i <= 65535) /\ m.kd.length = m.ks.length /\ m.vs.length = 0:=by
 obtain ⟨_,_,_,h3⟩:=zw9.1 h.may
 rw [if_neg (by rw [hl]; decide)] at h3
 exact h3
theorem zdr9 {l : List ByteArray} {B : Nat} (h : ∀ i,(l.getD i eS).size <= B) : ∀ s ∈ l,s.size <= B:=fun s hs => by
 obtain ⟨i,hi,rfl⟩:=List.getElem_of_mem hs
 have:=h i
 rw [zn3,List.getElem?_eq_getElem hi] at this
 exact this
theorem Sm.km {n : Nd} (h : Sm n) : ∀ s ∈ n.ks,s.size <= 140737488351232:=zdr9 h.ks
theorem Sm.vm {n : Nd} (h : Sm n) : ∀ s ∈ n.vs,s.size <= 140737488351232:=zdr9 h.vs
theorem sz_of {n : Nd} (h1 : ∀ s ∈ n.ks,s.size <= 140737488351232) (h2 : ∀ s ∈ n.vs,s.size <= 140737488351232) (k : n.ks.length <= 500) (v : n.vs.length <= 500) (d : n.kd.length <= 500) : SzT n:=
 ⟨⟨fun i => zbu9 h1 i,fun i => zbu9 h2 i,by omega,by omega,by omega⟩,k,v,d⟩
theorem zlz9 : SzT noneN:=sz_of (by simp [noneN]) (by simp [noneN]) (by simp [noneN]) (by simp [noneN]) (by simp [noneN])
theorem zes9 {n : Nd} (h : SzT n) : ∀ p ∈ piecesF n,SzT p:=by
 intro p hp
 unfold piecesF at hp
 split at hp
 ·cases hp
 ·split at hp
  ·rw [List.mem_singleton.1 hp]; exact h
  ·split at hp
   ·rcases List.mem_cons.1 hp with rfl | hp
    ·have e : joinN n noneN = n:=by
      cases n
      simp [joinN,noneN]
     rw [e]; exact h
    ·rw [List.mem_singleton.1 hp]; exact zlz9
   ·rcases List.mem_cons.1 hp with rfl | hp
    ·exact sz_of (fun s hs => h.sm.km s (List.mem_of_mem_take hs)) (fun s hs => h.sm.vm s (List.mem_of_mem_take hs)) (by have:=h.k; simp only [takeN,List.length_take]; omega) (by have:=h.v; simp only [takeN,List.length_take]; omega) (by have:=h.d; simp only [takeN,List.length_take]; omega)
    ·rw [List.mem_singleton.1 hp]
     exact sz_of (fun s hs => h.sm.km s (List.mem_of_mem_drop hs)) (fun s hs => h.sm.vm s (List.mem_of_mem_drop hs)) (by have:=h.k; simp only [dropN,List.length_drop]; omega) (by have:=h.v; simp only [dropN,List.length_drop]; omega) (by have:=h.d; simp only [dropN,List.length_drop]; omega)
theorem zdb9 (n : Nd) : (piecesF n).length <= 2:=by
 unfold piecesF
 split
 ·simp
 ·split
  ·simp
  ·split <;> simp
def setK (n : Nd) (i : Nat) (k : ByteArray) : Nd:={ n with ks:=n.ks.set i k }
theorem znh9 {x y : ByteArray} {B : Nat} (hx : x.size <= B) (hy : y.size <= B) : (minS x y).size <= B:=by unfold minS; split <;> assumption
theorem zgg9 (n : Nd) (i : Nat) (k : ByteArray) : (setK n i k).ks.length = n.ks.length:=by simp [setK]
theorem ztp9 {n : Nd} (h : Sm n) {i : Nat} {k : ByteArray} (hk : k.size <= 140737488351232) : Sm (setK n i k):=by
 refine ⟨fun j => zbu9 (fun s hs => ?_) j,h.vs,by rw [zgg9]; exact h.kl,h.vl,h.dl⟩
 rcases List.mem_or_eq_of_mem_set hs with e | e
 ·exact h.km s e
 ·rw [e]; exact hk
theorem zna9 (a : AS) (c : CH) (ps : List Nd) : (kidsF a c ps).xs.length <= ps.length:=by
 induction ps generalizing a c with
 | nil => simp [kidsF]
 | cons p r ih =>
  unfold kidsF
  split
  ·simp
  ·have:=ih (writeF a c p).a (writeF a c p).c
   simp only [List.length_cons]; omega
theorem zmz9 (a : AS) (c : CH) (ps : List Nd) : (kidsF a c ps).c.tk.length <= c.tk.length + ps.length /\ (kidsF a c ps).c.gn = c.gn /\ (kidsF a c ps).c.lv = c.lv:=by
 induction ps generalizing a c with
 | nil => simp [kidsF]
 | cons p r ih =>
  have hw:=zcr9 a c p
  unfold kidsF
  split
  ·exact ⟨by simp only [List.length_cons]; omega,hw.2.1,hw.2.2⟩
  ·have:=ih (writeF a c p).a (writeF a c p).c
   exact ⟨by simp only [List.length_cons]; omega,this.2.1.trans hw.2.1,this.2.2.trans hw.2.2⟩
theorem zag9 (a : AS) (c : CH) {n : Nd} (i j : Nat) {ps : List Nd} (hs : Sm n) (hl : n.ks.length <= 240 /\ n.vs.length <= 240 /\ n.kd.length <= 240) (hp : ∀ p ∈ ps,Sm p) (h2 : ps.length <= 2) : SzT (replaceF a c n i j ps).n:=by
 unfold replaceF
 split
 ·exact zlz9
 ·have hx:=zna9 a c ps
  have hkl:=zel9 (kA n i) ps
  refine sz_of (fun s hs' => ?_) (fun s hs' => hs.vm s hs') ?_ (by simp only [zai9]; omega) ?_
  ·simp only [zai9,List.mem_append] at hs'
   rcases hs' with e | e | e
   ·exact hs.km s (List.mem_of_mem_take e)
   ·cases ps with
    | nil => cases e
    | cons p r =>
     rcases List.mem_cons.1 e with rfl | e
     ·exact hs.ks i
     ·obtain ⟨q,hq,rfl⟩:=List.mem_map.1 e
      exact (hp q (List.mem_cons_of_mem _ hq)).ks 0
   ·exact hs.km s (List.mem_of_mem_drop e)
  ·simp only [zai9,List.length_append,List.length_take,List.length_drop]; omega
  ·simp only [zai9,List.length_append,List.length_take,List.length_drop]; omega
theorem zbp9 (a : AS) (c : CH) (n : Nd) (i j : Nat) (ps : List Nd) : (replaceF a c n i j ps).c.tk.length <= c.tk.length + ps.length /\ (replaceF a c n i j ps).c.gn = c.gn /\ (replaceF a c n i j ps).c.lv = c.lv:=by
 unfold replaceF
 split <;> exact zmz9 a c ps
theorem zar9 (a : AS) (c : CH) (x : Int) : (leaveF a c x).gn.length <= c.gn.length + 1 /\ (leaveF a c x).tk = c.tk /\ (leaveF a c x).lv = c.lv:=by
 unfold leaveF
 split
 ·exact ⟨by simp,rfl,rfl⟩
 ·exact ⟨by omega,rfl,rfl⟩
structure JOk (c : CH) (n : Nd) (r : JR) : Prop where
 gn : r.c.gn.length <= c.gn.length + 1
 tk : r.c.tk = c.tk
 lv : r.c.lv = c.lv
 sz : SzT r.n
 ij : r.e = 0 -> r.i < r.j /\ r.j <= n.kd.length /\ r.i <= 1000 /\ r.j <= 1002
theorem zoe9 {a : AS} (hV : ∀ x,(a.V x).1 = 0 -> Vk (a.V x).2) (c : CH) {n p : Nd} {at_ lv : Nat} (hp : SzT p) (hat : at_ < n.kd.length) (hn : n.kd.length <= 1000) {b : Int} (hb : b = (at_ : Int) - 1 ∨ b = (at_ : Int) + 1) {r : JR} (h : besF a c n at_ lv p b = some r) : JOk c n r:=by
 unfold besF at h
 split at h
 ·cases h
 ·rename_i hbr
  have hin : 0 <= b /\ b < (n.kd.length : Int):=by omega
  split at h
  ·cases h
   exact ⟨by simp,rfl,rfl,zlz9,fun e => absurd e (by assumption)⟩
  ·rename_i h0
   have hv : Vk (look a (dA n b.toNat) (lv + 1)).2:=by
    unfold look at h0 ⊢
    split
    ·rename_i hl
     rw [if_pos hl] at h0
     exact absurd (by decide) h0
    ·rename_i hl
     rw [if_neg hl] at h0
     exact hV _ (by simpa using h0)
   have hvl:=hv.len
   have hc:=zar9 a c (dA n b.toNat)
   split at h
   ·split at h
    ·rename_i hm
     cases h
     have hsm:=zce9 hv.sm hp.sm (by have:=hp.k; omega) (by have:=hp.v; omega) (by have:=hp.d; omega)
     exact ⟨hc.1,hc.2.1,hc.2.2,(Vk.mk hm hsm).sz,fun _ => ⟨by simp only; omega,by simp only; omega,by simp only; omega,by simp only; omega⟩⟩
    ·cases h
   ·split at h
    ·rename_i hm
     cases h
     have hsm:=zce9 hp.sm hv.sm (by have:=hp.k; omega) (by have:=hp.v; omega) (by have:=hp.d; omega)
     exact ⟨hc.1,hc.2.1,hc.2.2,(Vk.mk hm hsm).sz,fun _ => ⟨by simp only; omega,by simp only; omega,by simp only; omega,by simp only; omega⟩⟩
    ·cases h
theorem zkk9 {a : AS} (hV : ∀ x,(a.V x).1 = 0 -> Vk (a.V x).2) (c : CH) {n p : Nd} {at_ lv : Nat} (hp : SzT p) (hat : at_ < n.kd.length) (hn : n.kd.length <= 1000) : JOk c n (joinedF a c n at_ lv p):=by
 unfold joinedF
 split
 ·rename_i r h
  exact zoe9 hV c hp hat hn (.inl rfl) h
 ·split
  ·rename_i r h
   exact zoe9 hV c hp hat hn (.inr rfl) h
  ·exact ⟨by simp,rfl,rfl,hp,fun _ => ⟨by simp,by simp only; omega,by simp only; omega,by simp only; omega⟩⟩
end Go.Proofs.YtjhccpijpffahaaGreat
