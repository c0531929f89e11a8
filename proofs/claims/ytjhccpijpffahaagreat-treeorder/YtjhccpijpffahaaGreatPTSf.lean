import Derived.Test.YtjhccpijpffahaaGreatPTPl
import Derived.Great.BuildSlice
set_option maxRecDepth 100000
set_option linter.unusedVariables false
set_option linter.unusedSimpArgs false
set_option maxHeartbeats 8000000
namespace Go.Proofs.YtjhccpijpffahaaGreat
open Go.RowKit
def Tr (V : Int -> Int × Nd) (c : Nat) : Nat -> Int -> List E2 -> List Int -> Prop
 | 0,x,L,B => x = 0 /\ L = [] /\ B = []
 | h + 1,x,L,B => h <= 15 /\ x ≠ 0 /\ ∃ n B1,V x = (0,n) /\ Bm n /\ 1 <= n.ks.length /\ sz n <= 240 /\ Nod V c h n eS none L B1 /\ B = x :: B1
theorem Tr.congr {V V' : Int -> Int × Nd} {c lev : Nat} {x : Int} {L : List E2} {B : List Int} (h : Tr V c lev x L B) (e : ∀ y ∈ B,V' y = V y) : Tr V' c lev x L B:=by
 cases lev with
 | zero => exact h
 | succ k =>
  obtain ⟨a0,a00,n,B1,a1,a2,a3,a4,a5,rfl⟩:=h
  exact ⟨a0,a00,n,B1,by rw [e x List.mem_cons_self]; exact a1,a2,a3,a4,a5.congr (fun y hy => e y (List.mem_cons_of_mem _ hy)),rfl⟩
theorem gos_V : ∀ (l : List Int) (a : AS) (y : Int),(a.gos l).V y = (if y ∈ l then a.Q y else a.V y) /\ (a.gos l).Q = a.Q
 | [],a,y => by simp [zhe9]
 | x :: l,a,y => by
  rw [zfx9]
  obtain ⟨h1,h2⟩:=gos_V l (a.go x) y
  refine ⟨?_,h2⟩
  rw [h1]
  by_cases e : y ∈ l
  ·simp [e,AS.go]
  ·by_cases e2 : y = x
   ·subst e2; simp [e,AS.go,updI]
   ·simp [e,e2,AS.go,updI]
section
variable {d : CD} {op : List E2 -> List E2} {c : Nat}
theorem zqc9 : Bm leaf0:=⟨fun k hk => (by cases hk),List.Pairwise.nil,fun _ k hk => (by cases hk),fun _ => ⟨rfl,rfl,fun v hv => (by cases hv)⟩,fun e => (by cases e)⟩
theorem ztt9 : Bm top0:=⟨fun k hk => by rw [List.mem_singleton.1 hk]; decide,by simp [top0],fun e => (by cases e),fun e => (by cases e),fun _ => ⟨rfl,rfl,fun x hx => by rw [List.mem_singleton.1 hx]; decide⟩⟩
def MadeOk (d : CD) (op : List E2 -> List E2) (c lev : Nat) (a : AS) (x : Int) (L : List E2) (B : List Int) (r : WR) : Prop:=
 ∃ T X : List Int,Ev a r.a T /\ r.c.tk = T ∧
  (r.e = 10 /\ r.a.A.L.count 0 = 0 /\ T.length <= 2 * lev ∨
   r.e = 7 /\ d.jn = false /\ lev = 16 /\ (∃ (B' : List Int) (p q : Nd),(∀ y,B'.count y + X.count y = B.count y + T.count y) /\ Pts r.a.V c 15 [p,q] eS none (op L) B') ∨
   r.e = 0 /\ (r.c.gn = X.filter a.F /\ ∀ y ∈ X,y ∈ B) /\ T.length <= 2 * lev + 1 /\ (∃ (B' : List Int) (lev' : Nat),(∀ y,B'.count y + X.count y = B.count y + T.count y) /\ Tr r.a.V c lev' r.x (op L) B') /\ (d.jn = true -> T.length <= X.length))
theorem znc9 (hd : LfOk d op) (hc1 : 1 <= c) (hc2 : c <= 2) (hcj : d.jn = true -> c = 1) {lev : Nat} {a : AS} {x : Int} {L : List E2} {B : List Int} (hT : Tr a.V c lev x L B)
  (hnd : ∀ y,B.count y <= 1) (hst : ∀ y ∈ B,Ah.stv a.A y = 1) (hao : Ao a) (hlo : 1 <= a.A.lo) (hin : d.jn = true -> ∃ e ∈ L,e.1 = d.key) :
  MadeOk d op c lev a x L B (rootedF d a ch0 x):=by
 obtain ⟨r,hr⟩:=exN (partsF d a ch0 x)
 -- what parts tells
 have hP : ∃ (h : Nat) (T X : List Int),Ev a r.a T /\ r.c.tk = T /\ T.length <= 2 * h /\ (lev = h + 1 ∨ lev = 0 /\ h = 0) /\ h <= 15 ∧
   (r.e = 10 /\ r.a.A.L.count 0 = 0 ∨ r.e = 0 /\ (r.c.gn = X.filter a.F /\ ∀ y ∈ X,y ∈ B) /\ (lev = h + 1 /\ r.c.lv = h + 1 ∨ lev = 0 /\ r.c.lv = 0) /\ (∃ B' : List Int,(∀ y,B'.count y + X.count y = B.count y + T.count y) /\ Pts r.a.V c h r.ps eS none (op L) B') ∧
    (lev = 0 -> r.ps.length <= 1 /\ d.jn = false) /\ (d.jn = true -> r.ps.length <= 1 /\ T.length + 1 <= X.length)):=by
  cases lev with
  | zero =>
   obtain ⟨rfl,rfl,rfl⟩:=hT
   have hj : d.jn = false:=by
    cases e : d.jn with
    | false => rfl
    | true => obtain ⟨_,q,_⟩:=hin e; cases q
   have e0 : partsF d a ch0 0 = ⟨0,piecesF (d.lf leaf0),a,ch0⟩:=by unfold partsF; rw [if_pos rfl]
   rw [e0] at hr
   subst hr
   have s0 : sz leaf0 = 1:=rfl
   obtain ⟨m1,m2,m3,m4,m5,m6,m7⟩:=hd.lf leaf0 eS none rfl zqc9 (by rw [s0]; decide) (fun k hk => by cases hk) (Ke.none _) (fun b hb => by cases hb)
   have hN : Nod a.V c 0 (d.lf leaf0) eS none (op []) []:=⟨m1,m4,m5.symm,rfl⟩
   obtain ⟨p1,p2⟩:=zcu9 hN m2 (by omega)
   refine ⟨0,[],[],Ev.refl a,rfl,by simp,.inr ⟨rfl,rfl⟩,by omega,.inr ⟨rfl,⟨rfl,fun y hy => (by cases hy)⟩,.inr ⟨rfl,rfl⟩,⟨[],by simp,p1⟩,fun _ => ⟨?_,hj⟩,fun e => by rw [hj] at e; cases e⟩⟩
   rcases p2 with ⟨_,e⟩ | ⟨e,_⟩ | ⟨_,e⟩
   ·show (piecesF (d.lf leaf0)).length <= 1; rw [e]; simp
   ·show (piecesF (d.lf leaf0)).length <= 1; rw [e]; simp
   ·omega
  | succ h =>
   obtain ⟨a0,a00,n,B1,a1,a2,a3,a4,a5,rfl⟩:=hT
   have e0 : partsF d a ch0 x = belowF d 16 a ch0 x 1:=by unfold partsF; rw [if_neg a00]
   rw [e0] at hr
   have:=zpd9 hd hc1 hc2 hcj h 16 a ch0 x 1 n eS eS none L B1 a1 a2 a3 a4 a5 (by omega) (by omega) (Ke.refl _) (Ke.none _) (fun b hb => by cases hb) hnd hst hao hin
   rw [hr] at this
   obtain ⟨T,X,t1,t2,t3,t4⟩:=this
   refine ⟨h,T,X,t1,by rw [t2]; rfl,t3,.inl rfl,a0,?_⟩
   rcases t4 with t4 | ⟨t5,t6,t7,t8,t9,t10⟩
   ·exact .inl t4
   ·exact .inr ⟨t5,⟨by rw [t6.1]; rfl,t6.2⟩,.inl ⟨rfl,by rw [t7]; omega⟩,t8,fun e => (by cases e),t10⟩
 obtain ⟨h,T,X,ev,etk,etl,hlev,h15,hR⟩:=hP
 have aoR:=ev.ao hao
 rcases hR with ⟨e,c0⟩ | ⟨e,⟨egn,exb⟩,elv,⟨B',hB,hP⟩,hz,hjt⟩
 ·have e1 : rootedF d a ch0 x = ⟨0,r.e,r.a,r.c⟩:=by unfold rootedF; simp only [hr]; rw [if_pos (by rw [e]; decide)]
  rw [e1]
  refine ⟨T,[],ev,etk,.inl ⟨e,c0,?_⟩⟩
  rcases hlev with q | ⟨q,q2⟩ <;> omega
 have hstR : ∀ y ∈ B',Ah.stv r.a.A y = 1:=fun y hy => by
  by_cases ht : y ∈ T
  ·exact ev.tk y ht
  ·rw [ev.st y ht]
   refine hst y ?_
   have h1 : 0 < B'.count y:=List.count_pos_iff.2 hy
   have h2 : T.count y = 0:=List.count_eq_zero.2 ht
   have h3:=hB y
   exact List.count_pos_iff.1 (by omega)
 have ne0 : ∀ {b : AS} {y : Int},b.A.lo = a.A.lo -> Ah.stv b.A y = 1 -> y ≠ 0:=fun hl hs e => by
  have:=zev9 (s:=_) (by rw [hs]; decide)
  omega
 have e2 : rootedF d a ch0 x = (if r.ps.length = 0 then ⟨0,0,r.a,r.c⟩ else
   if r.ps.length = 1 then (if (r.ps.getD 0 noneN).kd.length = 1 then ⟨dA (r.ps.getD 0 noneN) 0,0,r.a,r.c⟩ else writeF r.a r.c (r.ps.getD 0 noneN)) else raiseF r.a r.c r.ps):=by
  unfold rootedF; simp only [hr]; rw [if_neg (by rw [e]; decide)]
 rw [e2]
 have hlev2 : 2 * h <= 2 * lev /\ (lev = 0 -> h = 0):=by rcases hlev with q | ⟨q,q2⟩ <;> constructor <;> omega
 have hP0:=hP
 generalize hps : r.ps = ps at hP hz hjt
 generalize hOL : op L = OL at hP
 cases hP with
 | zero =>
  rw [if_pos (by rfl)]
  refine ⟨T,X,ev,etk,.inr (.inr ⟨rfl,⟨egn,exb⟩,by omega,⟨[],0,hB,rfl,hOL,rfl⟩,fun hj => by have:=(hjt hj).2; omega⟩)⟩
 | one b1 l1 s1 n1 =>
  rename_i p
  rw [if_neg (by simp),if_pos (by rfl)]
  show MadeOk d op c lev a x L B (if p.kd.length = 1 then _ else writeF r.a r.c p)
  by_cases hk : p.kd.length = 1
  ·rw [if_pos hk]
   cases h with
   | zero => rw [(b1.lf n1.1).2.1] at hk; simp at hk
   | succ h =>
    obtain ⟨w1,w2,w3⟩:=n1
    have hkl:=(b1.inn w1).1
    obtain ⟨k,hks⟩ : ∃ k,p.ks = [k]:=by
     cases e3 : p.ks with
     | nil => rw [e3] at l1; simp at l1
     | cons k l => cases l with
      | nil => exact ⟨k,rfl⟩
      | cons => rw [e3] at hkl; simp at hkl; omega
    obtain ⟨y,hkd⟩ : ∃ y,p.kd = [y]:=by
     cases e3 : p.kd with
     | nil => rw [e3] at hk; simp at hk
     | cons k l => cases l with
      | nil => exact ⟨k,rfl⟩
      | cons => rw [e3] at hk; simp at hk
    rw [hks,hkd] at w3
    obtain ⟨L1,L2,B1,B2,⟨m,B3,v1,v2,v3,v4,v5,rfl⟩,⟨rfl,rfl⟩,rfl,rfl⟩:=w3
    have hy : dA p 0 = y:=by unfold dA; rw [hkd]; rfl
    show MadeOk d op c lev a x L B ⟨dA p 0,0,r.a,r.c⟩
    rw [hy]
    refine ⟨T,X,ev,etk,.inr (.inr ⟨rfl,⟨egn,exb⟩,by show T.length <= _; omega,⟨_,h + 1,hB,by omega,?_,m,B3,v1,v2,by omega,v4,?_,by simp⟩,fun hj => by have:=(hjt hj).2; omega⟩)⟩
    ·exact ne0 (b:=r.a) ev.lo (hstR y (by simp))
    ·rw [hOL,List.append_nil]
     exact v5.mono (Ke.none _) (Hle.none _)
  ·rw [if_neg hk]
   rcases zdi9 r.a r.c (b1.may l1 s1) with ⟨e3,c0,ea,ec⟩ | ⟨e3,ev3,ec,ex⟩
   ·exact ⟨T,[],by rw [ea]; exact ev,by rw [ec]; exact etk,.inl ⟨e3,by rw [ea]; exact c0,by omega⟩⟩
   ·generalize hw : writeF r.a r.c p = w at *
    have ntw : ∀ y ∈ B',y ∉ [w.x]:=fun y hy e => by have:=ev3.fr y e; have:=hstR y hy; omega
    refine ⟨T ++ [w.x],X,ev.trans ev3,by rw [ec]; show r.c.tk ++ _ = _; rw [etk],.inr (.inr ⟨e3,⟨by rw [ec]; exact egn,exb⟩,by simp; omega,⟨w.x :: B',h + 1,fun y => ?_,h15,?_,p,B',ex,b1,l1,s1,?_,rfl⟩,fun hj => by have:=(hjt hj).2; simp; omega⟩)⟩
    ·have:=hB y
     simp only [List.count_append,List.count_cons,List.count_nil] at this ⊢
     omega
    ·exact ne0 (b:=w.a) (ev3.lo.trans ev.lo) (ev3.tk w.x (by simp))
    ·rw [hOL]
     exact n1.congr (fun y hy => ev3.v y (ntw y hy))
 | two b1 l1 s1 b2 l2 s2 n1 n2 =>
  rename_i p q L1 L2 B1 B2
  rw [if_neg (by simp),if_neg (by simp)]
  have hjn : d.jn = false:=by
   cases e3 : d.jn with
   | false => rfl
   | true => have:=(hjt e3).1; simp at this
  have hlv : lev = h + 1 /\ r.c.lv = h + 1:=by
   rcases elv with q | ⟨q,_⟩
   ·exact q
   ·have:=(hz q).1; simp at this
  unfold raiseF
  by_cases h16 : r.c.lv = 16
  ·rw [if_pos h16]
   have : h = 15:=by omega
   subst this
   refine ⟨T,X,ev,etk,.inr (.inl ⟨rfl,hjn,by omega,B1 ++ B2,p,q,hB,?_⟩)⟩
   rw [hOL]
   exact .two b1 l1 s1 b2 l2 s2 n1 n2
  ·rw [if_neg h16]
   have hp2 : Pts r.a.V c h [p,q] eS (nxt [] none) (L1 ++ L2) (B1 ++ B2):=.two b1 l1 s1 b2 l2 s2 n1 n2
   obtain ⟨T2,w1,w2,w3,w4⟩:=window (a:=r.a) (n1:=top0) (ps:=[p,q]) (kx:=eS) (KA:=[]) (KW:=[]) (KC:=[]) (DA:=[]) (DW:=[0]) (DC:=[]) (LA:=[]) (LC:=[]) (BA:=[]) (BC:=[]) (lo:=eS) (hi:=none) r.c rfl ztt9 rfl rfl rfl rfl ⟨rfl,rfl⟩ ⟨rfl,rfl⟩ hp2
    (fun m hm => by
     rcases List.mem_cons.1 hm with e | e
     ·rw [e]; omega
     ·rw [List.mem_singleton.1 e]; omega) (fun k hk => ⟨Ke.none _,fun b hb => by cases hb⟩) aoR (fun y hy => hstR y (by simpa using hy)) (i:=0) (j:=1) rfl rfl
   rcases w4 with ⟨e1,e2,e3⟩ | ⟨e1,wb,ws,ws1,wl,B4,hB4,wN⟩
   ·rw [if_pos (by rw [e1]; decide)]
    refine ⟨T ++ T2,[],ev.trans w1,by show (replaceF r.a r.c top0 0 1 [p,q]).c.tk = _; rw [w2]; show r.c.tk ++ T2 = _; rw [etk],.inl ⟨e1,e2,?_⟩⟩
    simp at e3; rw [List.length_append]; omega
   ·rw [if_neg (by rw [e1]; decide)]
    have st : sz top0 = 4:=rfl
    generalize hq : replaceF r.a r.c top0 0 1 [p,q] = Q at *
    have hst4 : ∀ y ∈ B4,Ah.stv Q.a.A y = 1:=fun y hy => by
     by_cases ht : y ∈ T2
     ·exact w1.tk y ht
     ·rw [w1.st y ht]
      refine hstR y ?_
      have h1 : 0 < B4.count y:=List.count_pos_iff.2 hy
      have h2 : T2.count y = 0:=List.count_eq_zero.2 ht
      have h3:=hB4 y
      simp only [List.count_nil] at h3
      exact List.count_pos_iff.1 (by omega)
    have wl' : Q.n.ks.length = 2:=by
     have : top0.ks.length = 1:=rfl
     simp at wl; omega
    rcases zdi9 Q.a Q.c (wb.may (by omega) (by omega)) with ⟨e3,c0,ea,ec⟩ | ⟨e3,ev3,ec,ex⟩
    ·refine ⟨T ++ T2,[],by rw [ea]; exact ev.trans w1,by rw [ec,w2]; show r.c.tk ++ T2 = _; rw [etk],.inl ⟨e3,by rw [ea]; exact c0,?_⟩⟩
     simp at w3; rw [List.length_append]; omega
    ·generalize hw : writeF Q.a Q.c Q.n = w at *
     have ntw : ∀ y ∈ B4,y ∉ [w.x]:=fun y hy e => by have:=ev3.fr y e; have:=hst4 y hy; omega
     refine ⟨(T ++ T2) ++ [w.x],X,(ev.trans w1).trans ev3,by rw [ec,w2]; show (r.c.tk ++ T2) ++ _ = _; rw [etk],.inr (.inr ⟨e3,⟨by rw [ec,w2]; exact egn,exb⟩,?_,⟨w.x :: B4,h + 2,fun y => ?_,by omega,?_,Q.n,B4,ex,wb,by omega,by omega,?_,rfl⟩,fun hj => by rw [hjn] at hj; cases hj⟩)⟩
     ·simp at w3; simp; omega
     ·have:=hB y
      have:=hB4 y
      simp only [List.count_append,List.count_cons,List.count_nil] at *
      omega
     ·exact ne0 (b:=w.a) (ev3.lo.trans (w1.lo.trans ev.lo)) (ev3.tk w.x (by simp))
     ·rw [hOL]
      have:=wN.congr (V':=w.a.V) (fun y hy => ev3.v y (ntw y hy))
      simpa using this
end
def insE (key val : ByteArray) (L : List E2) : List E2:=L.filter (fun e => lts e.1 key) ++ (key,val) :: L.filter (fun e => lts key e.1)
theorem zgz9 {p : E2 -> Bool} {L : List E2} (h : ∀ e ∈ L,p e = true) : L.filter p = L:=List.filter_eq_self.2 h
theorem zau9 {p : E2 -> Bool} {L : List E2} (h : ∀ e ∈ L,p e = false) : L.filter p = []:=List.filter_eq_nil_iff.2 (fun e he => by rw [h e he]; decide)
theorem eqs_ne {a b : ByteArray} (h : a ≠ b) : eqs a b = false:=by
 cases e : eqs a b with
 | false => rfl
 | true => exact absurd (eqsP.1 e) h
theorem Kl.ne {a b : ByteArray} (h : Kl a b) : a ≠ b:=fun e => by rw [e] at h; exact h.irr
theorem zfy9 {key : ByteArray} (val : ByteArray) {L1 L L2 : List E2} (h1 : ∀ e ∈ L1,Kl e.1 key) (h2 : ∀ e ∈ L2,Kl key e.1) : insE key val (L1 ++ (L ++ L2)) = L1 ++ (insE key val L ++ L2):=by
 unfold insE
 rw [List.filter_append,List.filter_append,List.filter_append,List.filter_append,zgz9 (L:=L1) h1,zau9 (L:=L2) (fun e he => (h2 e he).le),zau9 (L:=L1) (fun e he => (h1 e he).le),zgz9 (L:=L2) h2]
 simp
theorem zpx9 (key val : ByteArray) : insE key val [] = [(key,val)]:=rfl
theorem zpy9 (key val v : ByteArray) : insE key val [(key,v)] = [(key,val)]:=by
 unfold insE
 rw [zau9 (p:=fun e => lts e.1 key) (L:=[(key,v)]) (fun e he => by rw [List.mem_singleton.1 he]; exact Ke.refl _),zau9 (L:=[(key,v)]) (fun e he => by rw [List.mem_singleton.1 he]; exact Ke.refl _)]
 rfl
theorem zqd9 {n : Nd} (hl : n.lf = true) (hb : Bm n) (key : ByteArray) : ∃ (at_ : Nat) (K1 K2 V1 V2 : List ByteArray),plc n key n.ks.length = at_ /\ n.ks = K1 ++ K2 /\ n.vs = V1 ++ V2 /\ K1.length = at_ /\ V1.length = at_ /\ K2.length = V2.length /\ (∀ k ∈ K1,Kl k key) ∧
  ((at_ < n.ks.length /\ eqs (kA n at_) key = true) /\ (∃ K3 v V3,K2 = key :: K3 /\ V2 = v :: V3 /\ vA n at_ = v /\ K3.length = V3.length /\ ∀ k ∈ K3,Kl key k) ∨ ¬ (at_ < n.ks.length /\ eqs (kA n at_) key = true) /\ ∀ k ∈ K2,Kl key k):=by
 obtain ⟨v1,v2,v3⟩:=hb.lf hl
 obtain ⟨p1,p2⟩:=zet9 hl key n.ks.length
 have p3:=plc_le n key n.ks.length
 obtain ⟨at_,hat⟩:=exN (plc n key n.ks.length)
 rw [hat] at p1 p2 p3
 have hlt : ∀ i j,i < j -> j < n.ks.length -> Kl (kA n i) (kA n j):=fun i j h1 h2 => by
  have:=List.pairwise_iff_getElem.1 hb.up i j (by omega) h2 h1
  unfold kA
  rw [zn3,zn3,List.getElem?_eq_getElem h2,List.getElem?_eq_getElem (by omega)]
  exact this
 have hk1 : ∀ k ∈ n.ks.take at_,Kl k key:=fun k hk => by
  obtain ⟨i,hi,rfl⟩:=List.getElem_of_mem hk
  rw [List.length_take] at hi
  have e : (n.ks.take at_)[i]'(by rw [List.length_take]; exact hi) = kA n i:=by
   unfold kA; rw [zn3,List.getElem?_eq_getElem (by omega)]; simp
  rw [e]
  rcases p2 with q | q
  ·omega
  ·by_cases c : i = at_ - 1
   ·rw [c]; exact q
   ·exact (hlt i (at_ - 1) (by omega) (by omega)).trans q
 refine ⟨at_,n.ks.take at_,n.ks.drop at_,n.vs.take at_,n.vs.drop at_,hat,by simp,by simp,by simp; omega,by simp; omega,by simp; omega,hk1,?_⟩
 have hk2 : ∀ k ∈ n.ks.drop at_,∃ j,at_ <= j /\ j < n.ks.length /\ k = kA n j:=fun k hk => by
  obtain ⟨i,hi,rfl⟩:=List.getElem_of_mem hk
  rw [List.length_drop] at hi
  refine ⟨at_ + i,by omega,by omega,?_⟩
  unfold kA; rw [zn3,List.getElem?_eq_getElem (by omega)]; simp
 by_cases c : at_ < n.ks.length /\ eqs (kA n at_) key = true
 ·left
  refine ⟨c,n.ks.drop (at_ + 1),vA n at_,n.vs.drop (at_ + 1),?_,?_,rfl,by simp; omega,fun k hk => ?_⟩
  ·have : kA n at_ = key:=eqsP.1 c.2
   rw [<- this]; unfold kA
   rw [zn3,List.getElem?_eq_getElem c.1]; simp
  ·unfold vA
   rw [zn3,List.getElem?_eq_getElem (by omega)]; simp
  ·obtain ⟨i,hi,rfl⟩:=List.getElem_of_mem hk
   rw [List.length_drop] at hi
   have e : (n.ks.drop (at_ + 1))[i]'(by rw [List.length_drop]; exact hi) = kA n (at_ + 1 + i):=by
    unfold kA; rw [zn3,List.getElem?_eq_getElem (by omega)]; simp
   rw [e,<- eqsP.1 c.2]
   exact hlt at_ _ (by omega) (by omega)
 ·right
  refine ⟨c,fun k hk => ?_⟩
  obtain ⟨j,j1,j2,rfl⟩:=hk2 k hk
  rcases (p1 j j1 j2).or with q | q
  ·exact q
  ·exfalso
   by_cases e : j = at_
   ·subst e; exact c ⟨j2,eqsP.2 q.symm⟩
   ·have h1:=hlt at_ j (by omega) j2
    rw [<- q] at h1
    exact (p1 at_ (zn6 _) (by omega)).not h1
theorem put_lf {key val : ByteArray} (h0 : key ≠ eS) (hk : key.size <= 24) (hv : val.size <= 24) : LfOk ⟨key,insL key val,false⟩ (insE key val) where
 loc:=fun L1 L L2 h1 h2 => zfy9 val h1 h2
 key:=hk
 lf:=by
  intro n lo hi hl hb hs hr hlo hhi
  obtain ⟨v1,v2,v3⟩:=hb.lf hl
  obtain ⟨at_,K1,K2,V1,V2,hat,e1,e2,l1,l2,l3,h1,h2⟩:=zqd9 hl hb key
  have up:=hb.up
  rw [e1] at up
  obtain ⟨u1,u2,u3⟩:=List.pairwise_append.1 up
  have hz : ∀ e ∈ K1.zip V1,Kl e.1 key:=fun e he => h1 _ (List.of_mem_zip he).1
  dsimp only at hlo hhi ⊢
  rcases h2 with ⟨c,K3,v,V3,rfl,rfl,_,l4,h3⟩ | ⟨c,h3⟩
  ·have hm : insL key val n = { n with vs:=V1 ++ val :: V3 }:=by
    unfold insL; simp only [hat]; rw [if_pos c,e2,List.set_append_right _ _ (by omega),show at_ - V1.length = 0 by omega]; rfl
   have hz3 : ∀ e ∈ K3.zip V3,Kl key e.1:=fun e he => h3 _ (List.of_mem_zip he).1
   have hbm : Bm { n with vs:=V1 ++ val :: V3 }:={
    ks:=hb.ks
    up:=hb.up
    ne:=hb.ne
    lf:=fun _ => ⟨by show (V1 ++ val :: V3).length = n.ks.length; rw [e1]; simp; omega,v2,fun w hw => by
     rcases List.mem_append.1 hw with q | q
     ·exact v3 w (by rw [e2]; simp [q])
     ·rcases List.mem_cons.1 q with q | q
      ·rw [q]; exact hv
      ·exact v3 w (by rw [e2]; simp [q])⟩
    inn:=fun e => by have : n.lf = false:=e; rw [hl] at this; cases this }
   rw [hm]
   refine ⟨hl,hbm,?_,hr,?_,fun _ => ⟨zn6 _,by show 1 <= n.ks.length; rw [e1]; simp; omega⟩,fun e => by cases e⟩
   ·rw [zbz9 (n:={ n with vs:=V1 ++ val :: V3 }) hl (hbm.lf hl).1,zbz9 hl v1,e2]
    simp only [zal9,zaj9]
    omega
   ·show n.ks.zip (V1 ++ val :: V3) = _
    rw [e1,e2,List.zip_append (by omega),List.zip_append (by omega),List.zip_cons_cons,List.zip_cons_cons,show (key,v) :: K3.zip V3 = [(key,v)] ++ K3.zip V3 from rfl,zfy9 val hz hz3,zpy9]
    rfl
  ·have hm : insL key val n = { n with ks:=K1 ++ key :: K2,vs:=V1 ++ val :: V2 }:=by
    unfold insL; simp only [hat]; rw [if_neg c,e1,e2,<- l1,List.take_left,List.drop_left,l1,<- l2,List.take_left,List.drop_left,List.set_append_right _ _ (by omega),Nat.sub_self]; rfl
   have hz3 : ∀ e ∈ K2.zip V2,Kl key e.1:=fun e he => h3 _ (List.of_mem_zip he).1
   have hbm : Bm { n with ks:=K1 ++ key :: K2,vs:=V1 ++ val :: V2 }:={
    ks:=fun k hk' => by
     rcases List.mem_append.1 hk' with q | q
     ·exact hb.ks k (by rw [e1]; simp [q])
     ·rcases List.mem_cons.1 q with q | q
      ·rw [q]; exact hk
      ·exact hb.ks k (by rw [e1]; simp [q])
    up:=List.pairwise_append.2 ⟨u1,List.pairwise_cons.2 ⟨h3,u2⟩,fun p hp q hq => by
     rcases List.mem_cons.1 hq with e | e
     ·rw [e]; exact h1 p hp
     ·exact u3 p hp q e⟩
    ne:=fun e k hk' => by
     rcases List.mem_append.1 hk' with q | q
     ·exact hb.ne hl k (by rw [e1]; simp [q])
     ·rcases List.mem_cons.1 q with q | q
      ·rw [q]; exact h0
      ·exact hb.ne hl k (by rw [e1]; simp [q])
    lf:=fun _ => ⟨by show (V1 ++ val :: V2).length = (K1 ++ key :: K2).length; simp; omega,v2,fun w hw => by
     rcases List.mem_append.1 hw with q | q
     ·exact v3 w (by rw [e2]; simp [q])
     ·rcases List.mem_cons.1 q with q | q
      ·rw [q]; exact hv
      ·exact v3 w (by rw [e2]; simp [q])⟩
    inn:=fun e => by have : n.lf = false:=e; rw [hl] at this; cases this }
   rw [hm]
   refine ⟨hl,hbm,?_,fun k hk' => ?_,?_,fun _ => ⟨by show n.ks.length <= (K1 ++ key :: K2).length; rw [e1]; simp,by show 1 <= (K1 ++ key :: K2).length; simp; omega⟩,fun e => by cases e⟩
   ·rw [zbz9 (n:={ n with ks:=K1 ++ key :: K2,vs:=V1 ++ val :: V2 }) hl (hbm.lf hl).1,zbz9 hl v1,e1,e2]
    simp only [zal9,zaj9,List.length_append,List.length_cons]
    omega
   ·rcases List.mem_append.1 hk' with q | q
    ·exact hr k (by rw [e1]; simp [q])
    ·rcases List.mem_cons.1 q with q | q
     ·rw [q]; exact ⟨hlo,hhi⟩
     ·exact hr k (by rw [e1]; simp [q])
   ·show (K1 ++ key :: K2).zip (V1 ++ val :: V2) = _
    rw [e1,e2,List.zip_append (by omega),List.zip_append (by omega),List.zip_cons_cons,show K2.zip V2 = [] ++ K2.zip V2 from rfl,zfy9 val hz hz3,zpx9]
    rfl
def fndE (key : ByteArray) (L : List E2) : ByteArray × Bool:=match L.find? (fun e => eqs e.1 key) with
 | some e => (e.2,true)
 | none => (eS,false)
theorem zsb9 {key : ByteArray} {L : List E2} (h : (fndE key L).2 = false) : ∀ e ∈ L,e.1 ≠ key:=by
 unfold fndE at h
 split at h
 ·cases h
 ·rename_i he
  intro e hm e2
  have:=List.find?_eq_none.1 he e hm
  exact this (eqsP.2 e2)
def inR (from_ to : ByteArray) (e : E2) : Bool:=!lts e.1 from_ && (eqs to eS || lts e.1 to)
def scnE (from_ to : ByteArray) (m : Nat) (L : List E2) : List E2:=(L.filter (inR from_ to)).take m
theorem zpf9 {n : Nd} (to : ByteArray) : (∀ j,bsF n to <= j -> j < n.ks.length -> Ke to (kA n j)) /\ (bsF n to = 0 ∨ Kl (kA n (bsF n to - 1)) to) /\ bsF n to <= n.ks.length:=by
 obtain ⟨h1,h2⟩:=zet9 (n:={ n with lf:=true }) rfl to n.ks.length
 exact ⟨h1,h2,plc_le _ _ _⟩
theorem kA_lt {n : Nd} (hb : Bm n) {i j : Nat} (h1 : i < j) (h2 : j < n.ks.length) : Kl (kA n i) (kA n j):=by
 have:=List.pairwise_iff_getElem.1 hb.up i j (by omega) h2 h1
 unfold kA
 rw [zn3,zn3,List.getElem?_eq_getElem h2,List.getElem?_eq_getElem (by omega)]
 exact this
theorem zgx9 {n : Nd} (hb : Bm n) (to : ByteArray) : endF n to <= n.ks.length /\ (∀ j,endF n to <= j -> j < n.ks.length -> eqs to eS = false /\ Ke to (kA n j)) /\ (∀ j,j < endF n to -> eqs to eS = true ∨ Kl (kA n j) to):=by
 obtain ⟨h1,h2,h3⟩:=zpf9 (n:=n) to
 unfold endF
 cases e : eqs to eS with
 | true => rw [if_pos rfl]; exact ⟨zn6 _,fun j a b => by omega,fun j _ => .inl rfl⟩
 | false =>
  rw [if_neg (by decide)]
  refine ⟨h3,fun j a b => ⟨rfl,h1 j a b⟩,fun j hj => .inr ?_⟩
  rcases h2 with q | q
  ·omega
  ·by_cases c : j = bsF n to - 1
   ·rw [c]; exact q
   ·exact (kA_lt hb (by omega) (by omega)).trans q
theorem zrw9 {n : Nd} (hv : n.vs.length = n.ks.length) {i j : Nat} (hij : i <= j) (hj : j <= n.ks.length) : entF n i j = ((n.ks.zip n.vs).take j).drop i:=by
 unfold entF
 apply List.ext_getElem
 ·simp; omega
 ·intro k h1 h2
  simp at h1 h2 ⊢
  unfold kA vA
  rw [zn3,zn3,List.getElem?_eq_getElem (by omega),List.getElem?_eq_getElem (by omega)]
  simp
theorem zsa9 {p : E2 -> Bool} (L : List E2) {i j : Nat} (hij : i <= j) (h1 : ∀ k,k < i -> (hk : k < L.length) -> p L[k] = false) (h2 : ∀ k,j <= k -> (hk : k < L.length) -> p L[k] = false) (h3 : ∀ k,i <= k -> k < j -> (hk : k < L.length) -> p L[k] = true) : L.filter p = (L.take j).drop i:=by
 have e : L = L.take i ++ ((L.take j).drop i ++ L.drop j):=by
  rw [show L.take i = (L.take j).take i by rw [List.take_take,Nat.min_eq_left hij],<- List.append_assoc,List.take_append_drop,List.take_append_drop]
 have f1 : (L.take i).filter p = []:=zau9 (fun e he => by
  obtain ⟨k,hk,rfl⟩:=List.getElem_of_mem he
  rw [List.length_take] at hk
  rw [List.getElem_take]
  exact h1 k (by omega) (by omega))
 have f2 : (L.drop j).filter p = []:=zau9 (fun e he => by
  obtain ⟨k,hk,rfl⟩:=List.getElem_of_mem he
  rw [List.length_drop] at hk
  rw [List.getElem_drop]
  exact h2 (j + k) (by omega) (by omega))
 have f3 : ((L.take j).drop i).filter p = (L.take j).drop i:=zgz9 (fun e he => by
  obtain ⟨k,hk,rfl⟩:=List.getElem_of_mem he
  rw [List.length_drop,List.length_take] at hk
  rw [List.getElem_drop,List.getElem_take]
  exact h3 (i + k) (by omega) (by omega) (by omega))
 conv => lhs; rw [e]
 rw [List.filter_append,List.filter_append,f1,f2,f3]
 simp
structure Sc (most : Nat) (acc : List E2) (L : List E2) (z B : List Int) (r : DR (List E2 × Bool)) : Prop where
 e : r.e = 0
 s : r.s = (acc ++ L.take (most - acc.length),decide ((acc ++ L.take (most - acc.length)).length = most))
 z : ∀ y ∈ r.z,y ∈ z ∨ y ∈ B
theorem zre9 {α : Type} (acc L M : List α) (m : Nat) (h : acc.length <= m) : (acc ++ L.take (m - acc.length)) ++ M.take (m - (acc ++ L.take (m - acc.length)).length) = acc ++ (L ++ M).take (m - acc.length):=by
 rw [List.take_append,List.append_assoc]
 congr 2
 simp only [List.length_append,List.length_take]
 congr 1
 omega
section
variable {a : AS} {c : Nat} {from_ to : ByteArray} {most : Nat}
theorem Fo.scan {h f lv : Nat} (IH : ∀ (acc : List E2) (z : List Int) (x : Int) (k : ByteArray) (hi : Option ByteArray) (L : List E2) (B : List Int),acc.length <= most -> Sub a.V c h x k hi L B -> (∀ y,B.count y <= 1) -> (∀ y ∈ B,y ∉ z) -> Sc most acc (L.filter (inR from_ to)) z B (downF (scanW from_ to most) a f lv (acc,decide (acc.length = most)) z x)) :
  ∀ {ks : List ByteArray} {xs : List Int} {hi : Option ByteArray} {L : List E2} {B : List Int} (acc : List E2) (z : List Int),Fo (Sub a.V c h) ks xs hi L B -> acc.length <= most -> (∀ y,B.count y <= 1) -> (∀ y ∈ B,y ∉ z) →
   Sc most acc (L.filter (inR from_ to)) z B (goF (scanW from_ to most).en (downF (scanW from_ to most) a f lv) xs (acc,decide (acc.length = most)) z)
 | [],[],_,_,_,acc,z,⟨rfl,rfl⟩,h1,h2,h3 => ⟨rfl,by simp [goF],fun y hy => .inl hy⟩
 | k :: ks,x :: xs,hi,_,_,acc,z,⟨L1,L2,B1,B2,p,q,rfl,rfl⟩,h1,h2,h3 => by
  unfold goF
  by_cases hm : acc.length = most
  ·rw [if_pos (by show decide _ = true; rw [decide_eq_true_iff]; exact hm)]
   exact ⟨rfl,by subst hm; simp,fun y hy => .inl hy⟩
  ·rw [if_neg (by show ¬ decide _ = true; rw [decide_eq_true_iff]; exact hm)]
   have hc : ∀ y,B1.count y + B2.count y <= 1:=fun y => by have:=h2 y; rw [List.count_append] at this; exact this
   have r1:=IH acc z x k (nxt ks hi) L1 B1 h1 p (fun y => by have:=hc y; omega) (fun y hy => h3 y (List.mem_append_left _ hy))
   rw [if_neg (by rw [r1.e]; decide),r1.s]
   have r2:=Fo.scan IH (acc ++ (L1.filter (inR from_ to)).take (most - acc.length)) (downF (scanW from_ to most) a f lv (acc,decide (acc.length = most)) z x).z q (by simp only [List.length_append,List.length_take]; omega) (fun y => by have:=hc y; omega) (fun y hy hz => by
    rcases r1.z y hz with e | e
    ·exact h3 y (List.mem_append_right _ hy) e
    ·have h4 : 0 < B1.count y:=List.count_pos_iff.2 e
     have h5 : 0 < B2.count y:=List.count_pos_iff.2 hy
     have:=hc y
     omega)
   refine ⟨r2.e,?_,fun y hy => ?_⟩
   ·rw [r2.s,List.filter_append,zre9 _ _ _ _ h1]
   ·rcases r2.z y hy with e | e
    ·rcases r1.z y e with e | e
     ·exact .inl e
     ·exact .inr (List.mem_append_left _ e)
    ·exact .inr (List.mem_append_right _ e)
 | [],_ :: _,_,_,_,_,_,h,_,_,_ => h.elim
 | _ :: _,[],_,_,_,_,_,h,_,_,_ => h.elim
theorem znh9 (hc : 1 <= c) : ∀ (h f lv : Nat) (acc : List E2) (z : List Int) (x : Int) (n : Nd) (lo : ByteArray) (hi : Option ByteArray) (L : List E2) (B : List Int),
  acc.length <= most -> a.V x = (0,n) -> Bm n -> 1 <= n.ks.length -> Nod a.V c h n lo hi L B -> h < f -> lv + h <= 16 -> (∀ y,(x :: B).count y <= 1) -> (∀ y ∈ x :: B,y ∉ z) →
  Sc most acc (L.filter (inR from_ to)) z (x :: B) (downF (scanW from_ to most) a f lv (acc,decide (acc.length = most)) z x):=by
 intro h
 induction h with
 | zero =>
  intro f lv acc z x n lo hi L B hac hV hb hl hN hf hlv hnd hz
  obtain ⟨f,rfl⟩ : ∃ g,f = g + 1:=⟨f - 1,by omega⟩
  obtain ⟨a1,a2,rfl,rfl⟩:=hN
  obtain ⟨v1,v2,v3⟩:=hb.lf a1
  have hlk : look a x lv = (0,n):=by unfold look; rw [if_neg (by omega)]; exact hV
  obtain ⟨e1,e2,e3⟩:=zgx9 hb to
  obtain ⟨p1,p2⟩:=zet9 a1 from_ n.ks.length
  have p3:=plc_le n from_ n.ks.length
  have hent : entF n (fstF n from_ to) (endF n to) = (n.ks.zip n.vs).filter (inR from_ to):=by
   rw [zrw9 v1 (by unfold fstF; omega) e1]
   have hk : ∀ k,(hk : k < (n.ks.zip n.vs).length) -> ((n.ks.zip n.vs)[k]).1 = kA n k /\ k < n.ks.length:=fun k hk => by
    have h1 : k < n.ks.length:=by rw [List.length_zip] at hk; omega
    refine ⟨?_,h1⟩
    unfold kA
    rw [zn3,List.getElem?_eq_getElem h1]; simp
   refine (zsa9 _ (by unfold fstF; omega) (fun k h1 h2 => ?_) (fun k h1 h2 => ?_) (fun k h1 h2 h3 => ?_)).symm
   ·obtain ⟨q1,q2⟩:=hk k h2
    unfold inR
    rw [q1]
    have hp : Kl (kA n k) from_:=by
     rcases p2 with q | q
     ·unfold fstF at h1; omega
     ·by_cases c : k = plc n from_ n.ks.length - 1
      ·rw [c]; exact q
      ·exact (kA_lt hb (by unfold fstF at h1; omega) (by omega)).trans q
    rw [show lts (kA n k) from_ = true from hp]; rfl
   ·obtain ⟨q1,q2⟩:=hk k h2
    unfold inR
    rw [q1]
    obtain ⟨t1,t2⟩:=e2 k h1 q2
    rw [t1,show lts (kA n k) to = false from t2]; simp
   ·obtain ⟨q1,q2⟩:=hk k h3
    unfold inR
    rw [q1]
    have hp : Ke from_ (kA n k):=p1 k (by unfold fstF at h1; omega) q2
    rw [show lts (kA n k) from_ = false from hp]
    rcases e3 k h2 with t | t
    ·rw [t]; rfl
    ·rw [show lts (kA n k) to = true from t]; simp
  unfold downF
  rw [if_neg (hz x (by simp)),hlk]
  simp only [ne_eq,not_true_eq_false,if_false,scanW,a1,if_true,goF,hent]
  exact ⟨rfl,rfl,fun y hy => (List.mem_cons.1 hy).elim (fun e => .inr (by simp [e])) .inl⟩
 | succ h ih =>
  intro f lv acc z x n lo hi L B hac hV hb hl hN hf hlv hnd hz
  obtain ⟨f,rfl⟩ : ∃ g,f = g + 1:=⟨f - 1,by omega⟩
  have hlk : look a x lv = (0,n):=by unfold look; rw [if_neg (by omega)]; exact hV
  obtain ⟨a1,a2,a3⟩:=hN
  obtain ⟨q1,q2,q3⟩:=hb.inn a1
  obtain ⟨e1,e2,e3⟩:=zgx9 hb to
  obtain ⟨p1,p2,p3⟩:=zes9 a1 from_ n.ks.length
  have p3:=p3 hl
  obtain ⟨i,hi'⟩ : ∃ q,fstF n from_ to = q:=⟨_,rfl⟩
  obtain ⟨j,hj⟩:=exN (endF n to)
  have hij : i <= j:=by rw [<- hi',<- hj]; unfold fstF; omega
  have hip : i <= plc n from_ n.ks.length:=by rw [<- hi']; unfold fstF; omega
  rw [hj] at e1 e2 e3
  have K0 : n.ks = n.ks.take i ++ ((n.ks.take j).drop i ++ n.ks.drop j):=by rw [show n.ks.take i = (n.ks.take j).take i by rw [List.take_take,Nat.min_eq_left hij],<- List.append_assoc,List.take_append_drop,List.take_append_drop]
  have D0 : n.kd = n.kd.take i ++ ((n.kd.take j).drop i ++ n.kd.drop j):=by rw [show n.kd.take i = (n.kd.take j).take i by rw [List.take_take,Nat.min_eq_left hij],<- List.append_assoc,List.take_append_drop,List.take_append_drop]
  have a3 : Fo (Sub a.V c h) n.ks n.kd hi L B:=a3
  rw [K0,D0] at a3
  obtain ⟨L1,L4,B1,B4,f1,f4,rfl,rfl⟩:=(Fo.app (by simp; omega)).1 a3
  obtain ⟨L2,L3,B2,B3,f2,f3,rfl,rfl⟩:=(Fo.app (by simp; omega)).1 f4
  have up:=hb.up
  rw [K0] at up
  obtain ⟨u1,u4,u14⟩:=List.pairwise_append.1 up
  obtain ⟨u2,u3,u23⟩:=List.pairwise_append.1 u4
  have g1 : L1.filter (inR from_ to) = []:=by
   rcases Nat.eq_zero_or_pos i with i0 | i0
   ·subst i0
    simp only [List.take_zero] at f1
    rw [f1.1]; rfl
   ·refine zau9 (fun e he => ?_)
    have hr : ∀ k ∈ n.ks.take i,Lh k (nxt ((n.ks.take j).drop i ++ n.ks.drop j) hi):=fun k hk => by
     cases hq : (n.ks.take j).drop i ++ n.ks.drop j with
     | nil => exact (a2 k (List.mem_of_mem_take hk)).2
     | cons k' K => intro b hb'; cases hb'; exact u14 k hk k' (by rw [hq]; simp)
    have h1:=((f1.facts (fun x k hi L B s => Sub.facts s) u1 hr).1 e he).2
    have hil : i < n.ks.length:=by omega
    have hn : nxt ((n.ks.take j).drop i ++ n.ks.drop j) hi = some (kA n i):=by
     have : (n.ks.take j).drop i ++ n.ks.drop j = n.ks.drop i:=by
      have:=K0
      conv at this => lhs; rw [<- List.take_append_drop i n.ks]
      exact (List.append_cancel_left this).symm
     rw [this]
     unfold kA
     rw [zn3,List.getElem?_eq_getElem hil,<- List.getElem_cons_drop hil]
     rfl
    have h2:=h1 _ hn
    have h3 : Ke (kA n i) from_:=by
     rcases p2 with q | q
     ·omega
     ·by_cases cc : i = plc n from_ n.ks.length
      ·rw [cc]; exact q
      ·exact ((kA_lt hb (by omega) p3).trans_le q).le
    unfold inR
    rw [show lts e.1 from_ = true from h2.trans_le h3]; rfl
  have g3 : L3.filter (inR from_ to) = []:=zau9 (fun e he => by
   obtain ⟨⟨k,K,w1,w2⟩,_⟩:=(f3.facts (fun x k hi L B s => Sub.facts s) u3 (fun k hk => (a2 k (List.mem_of_mem_drop hk)).2)).1 e he
   have hjl : j < n.ks.length:=by
    have:=congrArg List.length w1; simp at this; omega
   have hk : k = kA n j:=by
    unfold kA
    rw [zn3,List.getElem?_eq_getElem hjl]
    rw [<- List.getElem_cons_drop hjl] at w1
    cases w1; rfl
   obtain ⟨t1,t2⟩:=e2 j (zn6 _) hjl
   unfold inR
   rw [t1,show lts e.1 to = false from t2.trans (hk ▸ w2)]; simp)
  have hcn : ∀ q,[x].count q + B1.count q + B2.count q + B3.count q <= 1:=fun q => by
   have:=hnd q
   rw [show x :: (B1 ++ (B2 ++ B3)) = [x] ++ (B1 ++ (B2 ++ B3)) from rfl] at this
   simp only [List.count_append] at this
   omega
  have main:=Fo.scan (a:=a) (c:=c) (from_:=from_) (to:=to) (most:=most) (h:=h) (f:=f) (lv:=lv + 1) (fun acc z x k hi L B w1 w2 w3 w4 => by
   obtain ⟨m,B5,v1,v2,v3,v4,v5,rfl⟩:=w2
   exact ih f (lv + 1) acc z x m k hi L B5 w1 v1 v2 (by omega) v5 (by omega) (by omega) w3 w4) acc (x :: z) f2 hac (fun y => by have:=hcn y; omega) (fun q hq hm => by
   rcases List.mem_cons.1 hm with e | e
   ·have h1:=hcn q
    have h2 : 0 < B2.count q:=List.count_pos_iff.2 hq
    have h3 : 0 < [x].count q:=List.count_pos_iff.2 (by simp [e])
    omega
   ·exact hz q (by simp only [List.mem_cons,List.mem_append]; exact .inr (.inr (.inl hq))) e)
  have e0 : downF (scanW from_ to most) a (f + 1) lv (acc,decide (acc.length = most)) z x = goF (scanW from_ to most).en (downF (scanW from_ to most) a f (lv + 1)) ((n.kd.take j).drop i) (acc,decide (acc.length = most)) (x :: z):=by
   rw [downF,if_neg (hz x (by simp)),hlk]
   simp only [ne_eq,not_true_eq_false,if_false]
   have : (scanW from_ to most).st (acc,decide (acc.length = most)) x n = ((acc,decide (acc.length = most)),(n.kd.take j).drop i):=by
    simp only [scanW,a1,Bool.false_eq_true,if_false,hi',hj]
   rw [this]
  rw [e0,List.filter_append,List.filter_append,g1,g3,List.nil_append,List.append_nil]
  refine ⟨main.e,main.s,fun y hy => ?_⟩
  rcases main.z y hy with e | e
  ·rcases List.mem_cons.1 e with e | e
   ·exact .inr (by simp [e])
   ·exact .inl e
  ·exact .inr (by simp only [List.mem_cons,List.mem_append]; exact .inr (.inr (.inl e)))
end
theorem zos9 {a : AS} {c lev : Nat} {x : Int} {L : List E2} {B : List Int} (hc : 1 <= c) (h : Tr a.V c lev x L B) (hnd : ∀ y,B.count y <= 1) (from_ to : ByteArray) (most : Nat) :
  (fromF (scanW from_ to most) a ([],false) x).e = 0 /\ (fromF (scanW from_ to most) a ([],false) x).s.1 = scnE from_ to most L:=by
 unfold fromF
 cases lev with
 | zero => obtain ⟨rfl,rfl,rfl⟩:=h; rw [if_pos rfl]; exact ⟨rfl,by simp [scnE]⟩
 | succ h' =>
  obtain ⟨a0,a00,n,B1,a1,a2,a3,a4,a5,rfl⟩:=h
  rw [if_neg a00]
  have hlk : look a x 1 = (0,n):=by unfold look; rw [if_neg (by omega)]; exact a1
  have e0 : downF (scanW from_ to most) a 16 1 ([],false) [] x = downF (scanW from_ to most) a 16 1 ([],decide (([] : List E2).length = most)) [] x:=by
   unfold downF
   simp only [List.not_mem_nil,if_false,hlk,ne_eq,not_true_eq_false]
   rfl
  rw [e0]
  have:=znh9 (from_:=from_) (to:=to) (most:=most) hc h' 16 1 [] [] x n eS none L B1 (by simp) a1 a2 a3 a5 (by omega) (by omega) hnd (fun y _ h => by cases h)
  refine ⟨this.e,?_⟩
  rw [this.s]
  simp [scnE]
theorem Tr.few {V : Int -> Int × Nd} {lev : Nat} {x : Int} {L : List E2} {B : List Int} (h : Tr V 2 lev x L B) : B.length <= L.length /\ (lev = 0 ∨ 2 ^ (lev - 1) <= L.length):=by
 cases lev with
 | zero => rw [h.2.2]; exact ⟨zn7 _,.inl rfl⟩
 | succ k =>
  obtain ⟨a0,a00,n,B1,a1,a2,a3,a4,a5,rfl⟩:=h
  have h1:=a5.blk (zn6 _) a2
  have h2:=a5.cnt a2
  refine ⟨by rw [List.length_cons]; omega,.inr ?_⟩
  exact zn2 (Nat.le_mul_of_pos_right _ a3) h2
theorem go_A {a : AS} {x : Int} (hx : Ah.stv a.A x = 1) : (∀ y,Ah.stv (a.go x).A y = if y = x then 0 else Ah.stv a.A y) /\ (a.go x).A.L.count 0 = a.A.L.count 0 + 1 /\ (a.go x).A.lo = a.A.lo /\ (a.go x).A.L.length = a.A.L.length /\ (a.go x).A.as = a.A.as:=by
 have hr:=zev9 (s:=a.A) (x:=x) (by rw [hx]; decide)
 have hb : Ah.back x a.A = (true,Ah.put a.A (x - a.A.lo).toNat 0):=by unfold Ah.back; rw [if_neg (by omega)]
 have hp : ∀ m,Ah.stv (Ah.put a.A (x - a.A.lo).toNat 0) m = if m = x then 0 else Ah.stv a.A m:=fun m => by
  rw [Ah.stv_put (by omega),show ((a.A.lo + (x - a.A.lo).toNat : Nat) : Int) = x by omega]
 unfold AS.go
 rw [hb]
 refine ⟨hp,?_,rfl,by simp [Ah.put],rfl⟩
 have:=Ah.cnt_set a.A.L (x - a.A.lo).toNat (by omega) 0 0
 have hg : Ah.G a.A.L (x - a.A.lo).toNat = 1:=by
  unfold Ah.stv at hx
  rw [if_pos hr] at hx
  exact hx
 rw [hg] at this
 show (a.A.L.set (x - a.A.lo).toNat 0).count 0 = _
 rw [if_neg (by decide),if_pos rfl] at this
 omega
theorem gos_A : ∀ (l : List Int) (a : AS),l.Nodup -> (∀ y ∈ l,Ah.stv a.A y = 1) -> (∀ y,Ah.stv (a.gos l).A y = if y ∈ l then 0 else Ah.stv a.A y) /\ (a.gos l).A.L.count 0 = a.A.L.count 0 + l.length /\ (a.gos l).A.lo = a.A.lo /\ (a.gos l).A.L.length = a.A.L.length /\ (a.gos l).A.as = a.A.as
 | [],a,_,_ => ⟨fun y => by simp [zhe9],by simp [zhe9],rfl,rfl,rfl⟩
 | x :: l,a,hn,hs => by
  obtain ⟨n1,n2⟩:=List.nodup_cons.1 hn
  obtain ⟨g1,g2,g3,g4,g5⟩:=go_A (hs x List.mem_cons_self)
  obtain ⟨t1,t2,t3,t4,t5⟩:=gos_A l (a.go x) n2 (fun y hy => by
   rw [g1,if_neg (fun (e : y = x) => n1 (e ▸ hy))]
   exact hs y (List.mem_cons_of_mem _ hy))
  rw [zfx9]
  refine ⟨fun y => ?_,by rw [t2,g2,List.length_cons]; omega,t3.trans g3,t4.trans g4,t5.trans g5⟩
  rw [t1,g1]
  by_cases e : y ∈ l
  ·simp [e]
  ·by_cases e2 : y = x
   ·simp [e,e2]
   ·simp [e,e2]
theorem gos_FP : ∀ (l : List Int) (a : AS) (x : Int),(a.gos l).F x = (if x ∈ l then false else a.F x)
 | [],a,x => by simp [zhe9]
 | y :: l,a,x => by
  rw [zfx9,gos_FP l]
  by_cases h : x ∈ l
  ·simp [h]
  ·by_cases e : x = y
   ·subst e; simp [AS.go,updI]
   ·simp [h,e,AS.go,updI]
theorem len_eq {A B C D : List Int} (h : ∀ y,A.count y + B.count y = C.count y + D.count y) : A.length + B.length = C.length + D.length:=by
 have : (A ++ B).Perm (C ++ D):=List.perm_iff_count.2 (fun y => by rw [List.count_append,List.count_append]; exact h y)
 have:=this.length_eq
 rwa [List.length_append,List.length_append] at this
structure Stp (a a' : AS) (T X : List Int) : Prop where
 v : ∀ y,y ∉ T -> y ∉ X -> a'.V y = a.V y
 f : ∀ y,a'.F y = true ↔ (y ∈ T ∨ a.F y = true) /\ y ∉ X
 st : ∀ y,Ah.stv a'.A y = if y ∈ X then 0 else if y ∈ T then 1 else Ah.stv a.A y
 ct : a'.A.L.count 0 + T.length = a.A.L.count 0 + X.length
 lo : a'.A.lo = a.A.lo
 ln : a'.A.L.length = a.A.L.length
 sa : a.A.as = 0 -> a'.A.as = 0
 fr : ∀ y ∈ T,Ah.stv a.A y = 0
theorem Ev.stp {a b : AS} {T X : List Int} (h : Ev a b T) (hn : X.Nodup) (hs : ∀ y ∈ X,Ah.stv a.A y = 1) : Stp a (b.gos X) T X:=by
 have dj : ∀ y ∈ X,y ∉ T:=fun y hy ht => by have:=h.fr y ht; have:=hs y hy; omega
 obtain ⟨g1,g2,g3,g4,g5⟩:=gos_A X b hn (fun y hy => by rw [h.st y (dj y hy)]; exact hs y hy)
 refine ⟨fun y h1 h2 => ?_,fun y => ?_,fun y => ?_,by have:=h.ct; omega,g3.trans h.lo,g4.trans h.ln,fun e => g5.trans (h.sa e),h.fr⟩
 ·rw [(gos_V X b y).1,if_neg h2]; exact h.v y h1
 ·rw [gos_FP]
  by_cases e : y ∈ X
  ·simp [e]
  ·rw [if_neg e]
   by_cases e2 : y ∈ T
   ·simp [e,e2,h.ft y e2]
   ·simp [e,e2,h.f y e2]
 ·rw [g1]
  by_cases e : y ∈ X
  ·simp [e]
  ·by_cases e2 : y ∈ T
   ·simp [e,e2,h.tk y e2]
   ·simp [e,e2,h.st y e2]
theorem fil2 {p q : E2 -> Bool} (h : ∀ e,¬ (p e = true /\ q e = true)) : ∀ L : List E2,(L.filter p).length + (L.filter q).length <= L.length
 | [] => by simp
 | e :: L => by
  have:=fil2 h L
  have:=h e
  simp only [List.filter_cons]
  split
  ·split
   ·rename_i h1 h2; exact absurd ⟨h1,h2⟩ this
   ·simp only [List.length_cons]; omega
  ·split
   ·simp only [List.length_cons]; omega
   ·simp only [List.length_cons]; omega
theorem zek9 (key val : ByteArray) (L : List E2) : (insE key val L).length <= L.length + 1:=by
 unfold insE
 rw [List.length_append,List.length_cons]
 have h:=fil2 (p:=fun e => lts e.1 key) (q:=fun e => lts key e.1) (fun e ⟨h1,h2⟩ => Kl.irr (Kl.trans (a:=e.1) h1 h2)) L
 generalize (L.filter fun e => lts e.1 key).length = u at *
 generalize (L.filter fun e => lts key e.1).length = v at *
 omega
structure All (a : AS) (c lev : Nat) (x : Int) (L : List E2) (B : List Int) : Prop where
 tr : Tr a.V c lev x L B
 nd : ∀ y,B.count y <= 1
 nw : ∀ y ∈ B,a.F y = true /\ Ah.stv a.A y = 1
structure Amp (a : AS) : Prop where
 ao : Ao a
 lo : 1 <= a.A.lo
 sa : a.A.as = 0
theorem Stp.amp {a a' : AS} {T X : List Int} (h : Stp a a' T X) (m : Amp a) : Amp a':=⟨by have:=m.ao; unfold Ao at *; rw [h.lo,h.ln]; exact this,by rw [h.lo]; exact m.lo,h.sa m.sa⟩
theorem All.stay {a a' : AS} {c lev : Nat} {x : Int} {L : List E2} {B T X : List Int} (h : All a c lev x L B) (s : Stp a a' T X) (hx : ∀ y ∈ B,y ∉ X) : All a' c lev x L B:=by
 have nt : ∀ y ∈ B,y ∉ T:=fun y hy ht => by have:=s.fr y ht; have:=(h.nw y hy).2; omega
 exact ⟨h.tr.congr (fun y hy => s.v y (nt y hy) (hx y hy)),h.nd,fun y hy => ⟨(s.f y).2 ⟨.inr (h.nw y hy).1,hx y hy⟩,by rw [s.st,if_neg (hx y hy),if_neg (nt y hy)]; exact (h.nw y hy).2⟩⟩
theorem zpb9 {d : CD} {op : List E2 -> List E2} {c : Nat} (hd : LfOk d op) (hc1 : 1 <= c) (hc2 : c <= 2) (hcj : d.jn = true -> c = 1) {lev : Nat} {a : AS} {x : Int} {L : List E2} {B : List Int} (h : All a c lev x L B) (m : Amp a)
  (hin : d.jn = true -> ∃ e ∈ L,e.1 = d.key) (hroom : 2 * lev + 1 <= a.A.L.count 0) (hdeep : d.jn = false -> (op L).length < 65536 /\ c = 2) :
  (madeF d a x).e = 0 /\ ∃ lev' B' T X,All (madeF d a x).a c lev' (madeF d a x).x (op L) B' /\ Stp a (madeF d a x).a T X /\ (∀ y,B'.count y + X.count y = B.count y + T.count y) /\ (d.jn = true -> B'.length <= B.length):=by
 have hm:=znc9 hd hc1 hc2 hcj h.tr h.nd (fun y hy => (h.nw y hy).2) m.ao m.lo hin
 obtain ⟨r,hr⟩:=exN (rootedF d a ch0 x)
 rw [hr] at hm
 obtain ⟨T,X,ev,etk,hR⟩:=hm
 have nt : ∀ y ∈ B,y ∉ T:=fun y hy ht => by have:=ev.fr y ht; have:=(h.nw y hy).2; omega
 rcases hR with ⟨e,c0,tl⟩ | ⟨e,hjn,l16,B',p,q,hB,hP⟩ | ⟨e,⟨egn,exb⟩,tl,⟨B',lev',hB,hT⟩,hj⟩
 ·have:=ev.ct; omega
 ·exfalso
  obtain ⟨h1,h2⟩:=hdeep hjn
  subst h2
  generalize hOL : op L = OL at hP h1
  cases hP with
  | two b1 l1 s1 b2 l2 s2 n1 n2 =>
   have:=n1.cnt b1
   have h3 : 2 ^ 15 * 2 <= 2 ^ 15 * p.ks.length:=Nat.mul_le_mul_left _ l1
   rw [List.length_append] at h1
   omega
 ·have xnt : ∀ y ∈ X,y ∉ T:=fun y hy => nt y (exb y hy)
  have hxn : ∀ y,X.count y <= 1 /\ (y ∈ X -> B'.count y = 0):=fun y => by
   have h2:=hB y
   have h3:=h.nd y
   by_cases hy : y ∈ X
   ·have h4 : 0 < X.count y:=List.count_pos_iff.2 hy
    have : T.count y = 0:=List.count_eq_zero.2 (xnt y hy)
    exact ⟨by omega,fun _ => by omega⟩
   ·exact ⟨by have:=List.count_eq_zero.2 hy; omega,fun e => absurd e hy⟩
  have hfil : X.filter a.F = X:=List.filter_eq_self.2 (fun y hy => (h.nw y (exb y hy)).1)
  have e0 : madeF d a x = ⟨r.x,0,r.a.gos X⟩:=by
   unfold madeF; simp only [hr]; rw [if_neg (by rw [e]; decide),egn,hfil]
  rw [e0]
  have stp:=ev.stp (X:=X) (List.nodup_iff_count.2 (fun y => (hxn y).1)) (fun y hy => (h.nw y (exb y hy)).2)
  have hb' : ∀ y ∈ B',y ∉ X:=fun y hy hx => by have:=(hxn y).2 hx; have:=List.count_pos_iff.2 hy; omega
  refine ⟨rfl,lev',B',T,X,⟨hT.congr (fun y hy => ?_),fun y => ?_,fun y hy => ?_⟩,stp,hB,fun hjt => ?_⟩
  ·rw [(gos_V X r.a y).1,if_neg (hb' y hy)]
  ·have h2:=hB y
   have h3:=h.nd y
   by_cases ht : y ∈ T
   ·have h4 : T.count y <= 1:=List.nodup_iff_count.1 ev.nd y
    have h5 : B.count y = 0:=List.count_eq_zero.2 (fun hb => nt y hb ht)
    omega
   ·have : T.count y = 0:=List.count_eq_zero.2 ht
    omega
  ·have h1 : y ∈ T ∨ y ∈ B:=by
    have h2:=hB y
    have h3:=List.count_pos_iff.2 hy
    by_cases ht : y ∈ T
    ·exact .inl ht
    ·have : T.count y = 0:=List.count_eq_zero.2 ht
     exact .inr (List.count_pos_iff.1 (by omega))
   refine ⟨(stp.f y).2 ⟨h1.imp id (fun hb => (h.nw y hb).1),hb' y hy⟩,?_⟩
   rw [stp.st,if_neg (hb' y hy)]
   split
   ·rfl
   ·rename_i ht; exact (h.nw y (h1.resolve_left ht)).2
  ·have:=hj hjt
   have:=len_eq hB
   omega
theorem znu9 {lev : Nat} {a : AS} {x : Int} {L : List E2} {B : List Int} (h : All a 2 lev x L B) (m : Amp a) {key val : ByteArray} (h0 : key ≠ eS) (hk : key.size <= 24) (hv : val.size <= 24) (hl : L.length <= 1000) (hroom : 22 <= a.A.L.count 0) :
  (putF a x key val).e = 0 /\ ∃ lev' B' T X,All (putF a x key val).a 2 lev' (putF a x key val).x (insE key val L) B' /\ Stp a (putF a x key val).a T X /\ (∀ y,B'.count y + X.count y = B.count y + T.count y):=by
 have e0 : putF a x key val = madeF ⟨key,insL key val,false⟩ a x:=by
  unfold putF
  rw [if_neg]
  rintro (q | q | q)
  ·exact h0 (eqsP.1 q)
  ·omega
  ·omega
 rw [e0]
 have hfew:=h.tr.few
 have hlev : lev <= 10:=by
  rcases hfew.2 with q | q
  ·omega
  ·by_cases c : lev <= 10
   ·exact c
   ·exfalso
    have : 2 ^ 10 <= 2 ^ (lev - 1):=Nat.pow_le_pow_right (by decide) (by omega)
    omega
 obtain ⟨h1,lev',B',T,X,h2,h3,h4,_⟩:=zpb9 (put_lf h0 hk hv) (by decide) (by decide) (fun e => by cases e) h m (fun e => by cases e) (by omega) (fun _ => ⟨by have:=zek9 key val L; omega,rfl⟩)
 exact ⟨h1,lev',B',T,X,h2,h3,h4⟩
end Go.Proofs.YtjhccpijpffahaaGreat
namespace Go.Proofs.YtjhccpijpffahaaGreat
open Go.RowKit Pl
theorem infN4 : ∃ i,Tryz.prog.info? 93 = some i /\ i.zero = some (nod false (.slice none 0 0) (.slice none 0 0) (.slice none 0 0)) /\ i.size = 4 /\ i.bytes = 80:=info_parts (z:=nod false (.slice none 0 0) (.slice none 0 0) (.slice none 0 0)) (size:=4) (bytes:=80) (by kernel_rfl)
theorem zrj9 (w : World) (lf : Bool) (b1 b2 b3 : Option Addr) (l1 l2 l3 c1 c2 c3 : Nat) : (Instr.buildSlice 176 1 #[(0,.agg #[.bool lf,.slice b1 l1 c1,.slice b2 l2 c2,.slice b3 l3 c3])]).run Tryz.prog w = .ok (.slice (some ⟨w.heap.size,0,none⟩) 1 1) (w.alloc (.cells #[.bool lf,.slice b1 l1 c1,.slice b2 l2 c2,.slice b3 l3 c3] 93)):=by
 obtain ⟨i,hi,hz,h1,hb⟩:=infN4
 refine run_buildSlice w _ 93 1 _ _ i _ Tryz.underlying176 hi hz (by rw [h1]; decide) (by rw [h1]; decide) ?_
 rw [h1]
 have:=Go.Great.fill_whole (s:=4) (by decide) [.agg #[.bool lf,.slice b1 l1 c1,.slice b2 l2 c2,.slice b3 l3 c3]] ((Array.range (1 * 4)).map ((Value.agg #[.bool false,.slice none 0 0,.slice none 0 0,.slice none 0 0]).cells[· % (Value.agg #[.bool false,.slice none 0 0,.slice none 0 0,.slice none 0 0]).cells.size]!)) (fun v hv => by
   simp at hv
   subst hv
   rfl) (by simp)
 refine this.trans ?_
 simp [Value.cells]
theorem zrk9 (w : World) (lf lg : Bool) (b1 b2 b3 d1 d2 d3 : Option Addr) (l1 l2 l3 c1 c2 c3 m1 m2 m3 e1 e2 e3 : Nat) : (Instr.buildSlice 176 2 #[(0,.agg #[.bool lf,.slice b1 l1 c1,.slice b2 l2 c2,.slice b3 l3 c3]),(1,.agg #[.bool lg,.slice d1 m1 e1,.slice d2 m2 e2,.slice d3 m3 e3])]).run Tryz.prog w = .ok (.slice (some ⟨w.heap.size,0,none⟩) 2 2) (w.alloc (.cells #[.bool lf,.slice b1 l1 c1,.slice b2 l2 c2,.slice b3 l3 c3,.bool lg,.slice d1 m1 e1,.slice d2 m2 e2,.slice d3 m3 e3] 93)):=by
 obtain ⟨i,hi,hz,h1,hb⟩:=infN4
 refine run_buildSlice w _ 93 2 _ _ i _ Tryz.underlying176 hi hz (by rw [h1]; decide) (by rw [h1]; decide) ?_
 rw [h1]
 have:=Go.Great.fill_whole (s:=4) (by decide) [.agg #[.bool lf,.slice b1 l1 c1,.slice b2 l2 c2,.slice b3 l3 c3],.agg #[.bool lg,.slice d1 m1 e1,.slice d2 m2 e2,.slice d3 m3 e3]] ((Array.range (2 * 4)).map ((Value.agg #[.bool false,.slice none 0 0,.slice none 0 0,.slice none 0 0]).cells[· % (Value.agg #[.bool false,.slice none 0 0,.slice none 0 0,.slice none 0 0]).cells.size]!)) (fun v hv => by
   simp at hv
   rcases hv with rfl | rfl <;> rfl) (by simp)
 refine this.trans ?_
 simp [Value.cells]
theorem zcs9 (n : Nd) (u1 u2 u3 : Value) (Z : Nat -> Prop) (w : World) (h : Nn w n u1 u2 u3) (hs : Sm n) (hz : ∀ j,(u1.ownBlock = some j ∨ u2.ownBlock = some j ∨ u3.ownBlock = some j) -> Z j) (hu : Ub3 w u1 u2 u3) :
  Calls Tryz.prog 142 #[nod n.lf u1 u2 u3] w fun e w' => ∃ v,e = .returned v /\ Ps (fun j => (Z j ∨ w.heap.size <= j) /\ j < w'.heap.size) w' v (piecesF n) /\ Below w.heap.size w w':=by
 obtain ⟨a1,c1,a2,c2,a3,c3,rfl,rfl,rfl,⟨l1,l2,l3,l4,l5,l6⟩,_,_,_⟩:=h.out
 have HSZ0:=fun W hb => zch9 n _ _ _ W (h.below hb) hs
 have HSP0:=fun W hb => zld9 n _ _ _ W (h.below hb) hs
 obtain ⟨L1,hL1⟩:=exH n.ks.length
 obtain ⟨L2,hL2⟩:=exH n.vs.length
 obtain ⟨L3,hL3⟩:=exH n.kd.length
 have H:=hideN h
 have HZ:=hideN hz
 have HU:=hideN hu
 rw [hL1.out] at H HZ HU l1 ⊢
 rw [hL2.out] at H HZ HU l3 ⊢
 rw [hL3.out] at H HZ HU l5 ⊢
 obtain ⟨lf,hlf⟩:=exH n.lf
 obtain ⟨z,hzz⟩:=exH (W (szN n L1))
 rw [hlf.out]
 have HSZ : Hid (∀ W,Below w.heap.size w W -> Calls Tryz.prog 157 #[.agg #[.bool lf,.slice a1 L1 c1,.slice a2 L2 c2,.slice a3 L3 c3]] W fun e w' => e = .returned (.int .i64 z) /\ Below W.heap.size W w'):=fun W hb => by
  have:=HSZ0 W hb
  rw [hL1.out,hL2.out,hL3.out,hlf.out,hzz.out] at this
  exact this
 have HSP : Hid (∀ W,Below w.heap.size w W -> Calls Tryz.prog 158 #[.agg #[.bool lf,.slice a1 L1 c1,.slice a2 L2 c2,.slice a3 L3 c3]] W fun e w' => (∃ k1 k2 k3 o1 o2 o3 A B,e = .returned (.tuple #[nod A.lf k1 k2 k3,nod B.lf o1 o2 o3]) /\ Nn w' A k1 k2 k3 /\ Nn w' B o1 o2 o3 /\ SplR n A B /\ Fr3 W.heap.size k1 k2 k3 /\ Fr3 W.heap.size o1 o2 o3 /\ Ub3 w' k1 k2 k3 /\ Ub3 w' o1 o2 o3) /\ Below W.heap.size W w'):=fun W hb => by
  have:=HSP0 W hb
  rw [hL1.out,hL2.out,hL3.out,hlf.out] at this
  exact this
 unfold nod
 obtain ⟨W1,hW1⟩:=exN (w.alloc (.cells #[.bool lf,.slice a1 L1 c1,.slice a2 L2 c2,.slice a3 L3 c3] 93))
 have B1 : Hid (Below w.heap.size w W1):=by rw [<- hW1]; exact za9 _ _
 have V1 : Hid (Nb W1 93 w.heap.size lf (.slice a1 L1 c1) (.slice a2 L2 c2) (.slice a3 L3 c3)):=by rw [<- hW1]; exact nb_new _ _ _ _ _ _
 have p0:=V1.out.c0
 have p1:=V1.out.c1
 have p2:=V1.out.c2
 have p3:=V1.out.c3
 clear h hs hz hu HSZ0 HSP0 l2 l3 l4 l5 l6
 by_cases h0 : L1 = 0
 ·have HPF : Hid (piecesF n = []):=by show _ = _; unfold piecesF; rw [if_pos (by rw [hL1.out]; exact h0)]
  rw [HPF.out]
  have e0 : ((L1 : Int) == 0) = true:=by rw [beq_iff_eq]; omega
  clear h0
  go_enter Tryz.func142,Tryz.ntmps142
  go_wp2_with fail
  go_ret
  exact ⟨_,rfl,rfl,B1.out⟩
 ·have e0 : ((L1 : Int) == 0) = false:=by rw [beq_eq_false_iff_ne]; omega
  by_cases h24 : z <= 240
  ·have HPF : Hid (piecesF n = [n]):=by show _ = _; unfold piecesF; rw [if_neg (by rw [hL1.out]; exact h0),if_pos (by rw [hL1.out,hzz.out]; exact h24)]
   rw [HPF.out]
   have hbd:=zrj9
   go_enter Tryz.func142,Tryz.ntmps142
   go_wp2_with fail
   refine (HSZ.out W1 B1.out).mono ?_
   rintro e w2 ⟨rfl,b2⟩
   have V2:=V1.out.below b2
   have BB : Hid (Below w.heap.size w w2):=B1.out.trans (b2.mono B1.out.size)
   have q0:=V2.c0
   have q1:=V2.c1
   have q2:=V2.c2
   have q3:=V2.c3
   have HW3 : Hid (Ps (fun j => (Z j ∨ w.heap.size <= j) /\ j < (w2.alloc (.cells #[.bool lf,.slice a1 L1 c1,.slice a2 L2 c2,.slice a3 L3 c3] 93)).heap.size) (w2.alloc (.cells #[.bool lf,.slice a1 L1 c1,.slice a2 L2 c2,.slice a3 L3 c3] 93)) (.slice (some ⟨w2.heap.size,0,none⟩) 1 1) [n] /\ Below w.heap.size w (w2.alloc (.cells #[.bool lf,.slice a1 L1 c1,.slice a2 L2 c2,.slice a3 L3 c3] 93))):=by
    have b3:=za9 w2 (.cells #[.bool lf,.slice a1 L1 c1,.slice a2 L2 c2,.slice a3 L3 c3] 93)
    refine ⟨⟨_,_,_,_,rfl,by rw [hlf.out]; exact heap_alloc_new w2 _,(H.out.below BB.out).below b3,⟨.inr BB.out.size,by simp⟩,fun j hj => ⟨.inl (HZ.out j hj),zn1 (HU.out j hj) (zn2 BB.out.size b3.size)⟩⟩,BB.out.trans (b3.mono BB.out.size)⟩
   clear b2 p0 p1 p2 p3 hW1 HSZ V2 h0
   go_wp2_with fail
   go_ret
   exact ⟨_,rfl,HW3.out⟩
  ·have g24 : decide (z <= 240) = false:=by rw [zn4]; exact h24
   have HN0 : Hid (n.ks.length ≠ 0):=by show _ ≠ _; rw [hL1.out]; exact h0
   have HN1 : Hid (240 < W (szN n n.ks.length)):=by show _ < _; rw [hL1.out,hzz.out]; omega
   obtain ⟨pp,hpp⟩:=exH (piecesF n)
   rw [hpp.out]
   have hbd:=zrk9
   go_enter Tryz.func142,Tryz.ntmps142
   go_wp2_with fail
   refine (HSZ.out W1 B1.out).mono ?_
   rintro e w2 ⟨rfl,b2⟩
   have V2:=V1.out.below b2
   have BB : Hid (Below w.heap.size w w2):=B1.out.trans (b2.mono B1.out.size)
   have q0:=V2.c0
   have q1:=V2.c1
   have q2:=V2.c2
   have q3:=V2.c3
   clear b2 p0 p1 p2 p3 hW1 HSZ V2 h0
   go_wp2_with fail
   refine (HSP.out w2 BB.out).mono ?_
   rintro e w3 ⟨⟨k1,k2,k3,o1,o2,o3,A,B,rfl,hA,hB,hR,fA,fB,uA,uB⟩,b3⟩
   have HPQ : Hid (pp = [A,B]):=by show _ = _; rw [<- hpp.out]; exact zgb9 HN0.out (Int.not_le.2 HN1.out) hR
   have B3 : Hid (Below w.heap.size w w3):=BB.out.trans (b3.mono BB.out.size)
   have hsz:=BB.out.size
   obtain ⟨x1,y1,x2,y2,x3,y3,rfl,rfl,rfl,_⟩:=hA.out
   obtain ⟨s1,t1,s2,t2,s3,t3,rfl,rfl,rfl,_⟩:=hB.out
   obtain ⟨A1,hA1⟩:=exH A.ks.length
   obtain ⟨A2,hA2⟩:=exH A.vs.length
   obtain ⟨A3,hA3⟩:=exH A.kd.length
   obtain ⟨E1,hE1⟩:=exH B.ks.length
   obtain ⟨E2,hE2⟩:=exH B.vs.length
   obtain ⟨E3,hE3⟩:=exH B.kd.length
   obtain ⟨fA',hfA⟩ : ∃ l,Hid (A.lf = l):=⟨_,rfl⟩
   obtain ⟨fB',hfB⟩ : ∃ l,Hid (B.lf = l):=⟨_,rfl⟩
   rw [hA1.out,hA2.out,hA3.out] at hA fA uA
   rw [hE1.out,hE2.out,hE3.out] at hB fB uB
   rw [hA1.out,hA2.out,hA3.out,hE1.out,hE2.out,hE3.out,hfA.out,hfB.out]
   have HA:=hideN hA
   have HB:=hideN hB
   have FA:=hideN fA
   have FB:=hideN fB
   have UA:=hideN uA
   have UB:=hideN uB
   unfold nod
   obtain ⟨YA,hYA⟩:=exN (w3.alloc (.cells #[.bool false,.slice none 0 0,.slice none 0 0,.slice none 0 0] 93))
   obtain ⟨YB,hYB⟩:=exN (YA.alloc (.cells #[.bool false,.slice none 0 0,.slice none 0 0,.slice none 0 0] 93))
   have sA : YA.heap.size = w3.heap.size + 1:=by rw [<- hYA]; simp
   have bA : Below w3.heap.size w3 YA:=by rw [<- hYA]; exact za9 _ _
   have bB : Below YA.heap.size YA YB:=by rw [<- hYB]; exact za9 _ _
   have NA0 : Nb YA 93 w3.heap.size false (.slice none 0 0) (.slice none 0 0) (.slice none 0 0):=by rw [<- hYA]; exact nb_new _ _ _ _ _ _
   have NA1:=NA0.below bB
   have NB1 : Nb YB 93 (w3.heap.size + 1) false (.slice none 0 0) (.slice none 0 0) (.slice none 0 0):=by rw [<- hYB,<- sA]; exact nb_new _ _ _ _ _ _
   have tA:=zp9 YB w3.heap.size (.bool fA') (.slice x1 A1 y1) (.slice x2 A2 y2) (.slice x3 A3 y3)
   have NA2:=NA1.all fA' (.slice x1 A1 y1) (.slice x2 A2 y2) (.slice x3 A3 y3)
   have NB2:=NB1.tch tA (by omega)
   obtain ⟨WA,hWA⟩:=exN (((((YB.setCell ⟨w3.heap.size,0,none⟩ (.bool fA')).setCell ⟨w3.heap.size,1,none⟩ (.slice x1 A1 y1)).setCell ⟨w3.heap.size,2,none⟩ (.slice x2 A2 y2)).setCell ⟨w3.heap.size,3,none⟩ (.slice x3 A3 y3)))
   rw [hWA] at tA NA2 NB2
   have tB:=zp9 WA (w3.heap.size + 1) (.bool fB') (.slice s1 E1 t1) (.slice s2 E2 t2) (.slice s3 E3 t3)
   have NB3:=NB2.all fB' (.slice s1 E1 t1) (.slice s2 E2 t2) (.slice s3 E3 t3)
   have NA3:=NA2.tch tB (by omega)
   obtain ⟨WB,hWB⟩:=exN (((((WA.setCell ⟨w3.heap.size + 1,0,none⟩ (.bool fB')).setCell ⟨w3.heap.size + 1,1,none⟩ (.slice s1 E1 t1)).setCell ⟨w3.heap.size + 1,2,none⟩ (.slice s2 E2 t2)).setCell ⟨w3.heap.size + 1,3,none⟩ (.slice s3 E3 t3)))
   rw [hWB] at tB NB3 NA3
   have b4 : Below w3.heap.size w3 WB:=by
    have h1 : Below w3.heap.size w3 YB:=bA.trans (bB.mono bA.size)
    have h2 : Below w3.heap.size w3 WA:=h1.trans (tA.below h1.size (fun j e => by omega))
    exact h2.trans (tB.below h2.size (fun j e => by omega))
   have HFIN : Hid (Ps (fun j => (Z j ∨ w.heap.size <= j) /\ j < (WB.alloc (.cells #[.bool fA',.slice x1 A1 y1,.slice x2 A2 y2,.slice x3 A3 y3,.bool fB',.slice s1 E1 t1,.slice s2 E2 t2,.slice s3 E3 t3] 93)).heap.size) (WB.alloc (.cells #[.bool fA',.slice x1 A1 y1,.slice x2 A2 y2,.slice x3 A3 y3,.bool fB',.slice s1 E1 t1,.slice s2 E2 t2,.slice s3 E3 t3] 93)) (.slice (some ⟨WB.heap.size,0,none⟩) 2 2) pp /\ Below w.heap.size w (WB.alloc (.cells #[.bool fA',.slice x1 A1 y1,.slice x2 A2 y2,.slice x3 A3 y3,.bool fB',.slice s1 E1 t1,.slice s2 E2 t2,.slice s3 E3 t3] 93))):=by
    have b5:=za9 WB (.cells #[.bool fA',.slice x1 A1 y1,.slice x2 A2 y2,.slice x3 A3 y3,.bool fB',.slice s1 E1 t1,.slice s2 E2 t2,.slice s3 E3 t3] 93)
    have b45 : Below w.heap.size w WB:=B3.out.trans (b4.mono B3.out.size)
    refine ⟨?_,b45.trans (b5.mono b45.size)⟩
    rw [HPQ.out]
    exact ⟨_,_,_,_,_,_,_,rfl,by rw [hfA.out,hfB.out]; exact heap_alloc_new WB _,(HA.out.below b4).below b5,(HB.out.below b4).below b5,⟨.inr b45.size,by simp⟩,fun j hj => ⟨.inr (zn2 hsz (FA.out j hj)),zn1 (UA.out j hj) (zn2 b4.size b5.size)⟩,fun j hj => ⟨.inr (zn2 hsz (FB.out j hj)),zn1 (UB.out j hj) (zn2 b4.size b5.size)⟩⟩
   have p0:=NA1.c0
   have p1:=NA1.c1
   have p2:=NA1.c2
   have p3:=NA1.c3
   have f0:=NA1.fz 0
   have f1:=NA1.fz 1
   have f2:=NA1.fz 2
   have f3:=NA1.fz 3
   have y0:=NB2.c0
   have y1':=NB2.c1
   have y2':=NB2.c2
   have y3':=NB2.c3
   have g0:=NB2.fz 0
   have g1:=NB2.fz 1
   have g2:=NB2.fz 2
   have g3:=NB2.fz 3
   have r0:=NA3.c0
   have r1:=NA3.c1
   have r2:=NA3.c2
   have r3:=NA3.c3
   have v0:=NB3.c0
   have v1:=NB3.c1
   have v2:=NB3.c2
   have v3:=NB3.c3
   clear hA hB hR fA fB uA uB b3 hsz bA bB NA0 NA1 NB1 tA NA2 NB2 tB NB3 NA3 b4 q0 q1 q2 q3 HSP
   go_wp2_with fail
   go_ret
   exact ⟨_,rfl,HFIN.out⟩
end Go.Proofs.YtjhccpijpffahaaGreat
