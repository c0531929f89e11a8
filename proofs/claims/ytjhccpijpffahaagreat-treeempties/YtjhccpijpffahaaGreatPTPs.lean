import Derived.Test.YtjhccpijpffahaaGreatPTPl
import Derived.Test.YtjhccpijpffahaaGreatPNPl
import Derived.Great.BuildSlice
set_option maxRecDepth 100000
set_option linter.unusedVariables false
set_option linter.unusedSimpArgs false
set_option maxHeartbeats 8000000
namespace Go.Proofs.YtjhccpijpffahaaGreat
open Go.RowKit Pl
theorem belowN {n : Nat} {w : World} (h : n <= w.heap.size) (q : Nat) : Below n w (w.drewN q):=(⟨rfl,rfl,rfl,zn6 _,fun _ _ _ => rfl⟩ : Tch (fun _ => False) w (w.drewN q)).below h (fun _ e => e.elim)
theorem zcc9 (n : Nd) (u1 u2 u3 : Value) (key : ByteArray) (w : World) (h : Nn w n u1 u2 u3) (hs : Sm n) :
  Calls Tryz.prog 43 #[nod n.lf u1 u2 u3,.string key] w fun e w' => e = .returned (.tuple #[.int .i64 (plc n key n.ks.length : Int),.bool (decide (plc n key n.ks.length < n.ks.length /\ eqs (kA n (plc n key n.ks.length)) key = true))]) /\ Below w.heap.size w w':=by
 obtain ⟨a1,c1,a2,c2,a3,c3,rfl,rfl,rfl,⟨l1,l2,l3,l4,l5,l6⟩,_,_,_⟩:=h.out
 have HP0:=fun W hb => zet9 n _ _ _ key W (h.below hb) hs
 have hple:=plc_le n key n.ks.length
 have hkl:=hs.kl
 obtain ⟨L1,hL1⟩:=exH n.ks.length
 obtain ⟨L2,hL2⟩:=exH n.vs.length
 obtain ⟨L3,hL3⟩:=exH n.kd.length
 have H:=hideN h
 rw [hL1.out] at H l1 hple hkl ⊢
 rw [hL2.out] at H l3 ⊢
 rw [hL3.out] at H l5 ⊢
 obtain ⟨lf,hlf⟩:=exH n.lf
 obtain ⟨p,hp⟩:=exH (plc n key L1)
 rw [hp.out] at hple ⊢
 obtain ⟨fl,hfl⟩:=exH (decide (p < L1 /\ eqs (kA n p) key = true))
 rw [hfl.out]
 rw [hlf.out]
 have HP : Hid (∀ W,Below w.heap.size w W -> Calls Tryz.prog 42 #[.agg #[.bool lf,.slice a1 L1 c1,.slice a2 L2 c2,.slice a3 L3 c3],.string key] W fun e w' => e = .returned (.int .i64 (p : Int)) /\ Below W.heap.size W w'):=fun W hb => by
  have:=HP0 W hb
  rw [hL1.out,hL2.out,hL3.out,hlf.out,hp.out] at this
  exact this
 unfold nod
 obtain ⟨W1,hW1⟩:=exN (w.alloc (.cells #[.bool lf,.slice a1 L1 c1,.slice a2 L2 c2,.slice a3 L3 c3] 93))
 have B1 : Hid (Below w.heap.size w W1):=by rw [<- hW1]; exact za9 _ _
 have V1 : Hid (Nb W1 93 w.heap.size lf (.slice a1 L1 c1) (.slice a2 L2 c2) (.slice a3 L3 c3)):=by rw [<- hW1]; exact nb_new _ _ _ _ _ _
 have p0:=V1.out.c0
 have p1:=V1.out.c1
 have p2:=V1.out.c2
 have p3:=V1.out.c3
 clear h hs HP0 hL2 hL3 l2 l3 l4 l5 l6
 go_enter Tryz.func43,Tryz.ntmps43
 go_wp2_with fail
 refine (HP.out W1 B1.out).mono ?_
 rintro e w2 ⟨rfl,b2⟩
 have V2:=V1.out.below b2
 have q1:=V2.c1
 have BB : Hid (Below w.heap.size w w2):=B1.out.trans (b2.mono B1.out.size)
 have H2 : Nn w2 n (.slice a1 L1 c1) (.slice a2 L2 c2) (.slice a3 L3 c3):=H.out.below BB.out
 clear b2 p0 p1 p2 p3 hW1 HP V2
 by_cases hlt : p < L1
 ·obtain ⟨b,o,rfl,ck⟩:=H2.key (i:=p) (by rw [hL1.out]; exact hlt)
  obtain ⟨ky,hky⟩:=exH (kA n p)
  rw [hky.out] at ck
  have i0 : (0 : Int) <= (p : Int):=by omega
  have i1 : (p : Int) < (L1 : Int):=by omega
  clear H2
  cases hc : (ky.toList == key.toList) with
  | true =>
   obtain rfl : fl = true:=by rw [<- hfl.out,decide_eq_true_iff,hky.out]; exact ⟨hlt,hc⟩
   go_wp2_with fail
   go_quiet (fail)
   go_wp2_with fail
   go_ret2
   exact ⟨rfl,BB.out.trans (belowN BB.out.size _)⟩
  | false =>
   obtain rfl : fl = false:=by rw [<- hfl.out,zn4,hky.out]; rintro ⟨_,e⟩; unfold eqs at e; rw [hc] at e; cases e
   go_wp2_with fail
   go_quiet (fail)
   go_wp2_with fail
   go_ret2
   exact ⟨rfl,BB.out.trans (belowN BB.out.size _)⟩
 ·obtain rfl : fl = false:=by rw [<- hfl.out,zn4]; rintro ⟨e,_⟩; exact hlt e
  have i1 : decide ((p : Int) < (L1 : Int)) = false:=by rw [zn4]; omega
  have i2 : decide (p < L1) = false:=by rw [zn4]; omega
  clear hlt H2
  go_wp2_with fail
  go_quiet (fail)
  go_wp2_with fail
  go_ret2
  exact ⟨rfl,BB.out.trans (belowN BB.out.size _)⟩
def Ps (Z : Nat -> Prop) (w : World) (v : Value) : List Nd -> Prop
 | [] => v = .slice none 0 0
 | [n] => ∃ b u1 u2 u3,v = .slice (some ⟨b,0,none⟩) 1 1 /\ w.heap[b]? = some (.cells #[.bool n.lf,u1,u2,u3] 93 (0,0)) /\ Nn w n u1 u2 u3 /\ Z b /\ (∀ j,(u1.ownBlock = some j ∨ u2.ownBlock = some j ∨ u3.ownBlock = some j) -> Z j)
 | [n,m] => ∃ b u1 u2 u3 x1 x2 x3,v = .slice (some ⟨b,0,none⟩) 2 2 /\ w.heap[b]? = some (.cells #[.bool n.lf,u1,u2,u3,.bool m.lf,x1,x2,x3] 93 (0,0)) /\ Nn w n u1 u2 u3 /\ Nn w m x1 x2 x3 /\ Z b /\ (∀ j,(u1.ownBlock = some j ∨ u2.ownBlock = some j ∨ u3.ownBlock = some j) -> Z j) /\ (∀ j,(x1.ownBlock = some j ∨ x2.ownBlock = some j ∨ x3.ownBlock = some j) -> Z j)
 | _ => False
theorem Ps.len {Z : Nat -> Prop} {w : World} {v : Value} {ps : List Nd} (h : Ps Z w v ps) : ps.length <= 2 /\ ∃ a,v = .slice a ps.length ps.length:=by
 match ps,h with
 | [],h => exact ⟨by simp,none,h⟩
 | [n],⟨b,_,_,_,h,_⟩ => exact ⟨by simp,_,h⟩
 | [n,m],⟨b,_,_,_,_,_,_,h,_⟩ => exact ⟨by simp,_,h⟩
theorem Ps.tch {Z S : Nat -> Prop} {w w' : World} {v : Value} {ps : List Nd} (h : Ps Z w v ps) (ht : Tch S w w') (hn : ∀ j,Z j -> ¬ S j) : Ps Z w' v ps:=by
 match ps,h with
 | [],h => exact h
 | [n],⟨b,u1,u2,u3,h1,h2,h3,h4,h5⟩ =>
  exact ⟨b,u1,u2,u3,h1,by rw [ht.block b (Array.getElem?_eq_some_iff.1 h2).1 (hn b h4)]; exact h2,h3.tch ht (fun j e => hn j (h5 j (.inl e))) (fun j e => hn j (h5 j (.inr (.inl e)))) (fun j e => hn j (h5 j (.inr (.inr e)))),h4,h5⟩
 | [n,m],⟨b,u1,u2,u3,x1,x2,x3,h1,h2,h3,h3',h4,h5,h6⟩ =>
  exact ⟨b,u1,u2,u3,x1,x2,x3,h1,by rw [ht.block b (Array.getElem?_eq_some_iff.1 h2).1 (hn b h4)]; exact h2,h3.tch ht (fun j e => hn j (h5 j (.inl e))) (fun j e => hn j (h5 j (.inr (.inl e)))) (fun j e => hn j (h5 j (.inr (.inr e)))),h3'.tch ht (fun j e => hn j (h6 j (.inl e))) (fun j e => hn j (h6 j (.inr (.inl e)))) (fun j e => hn j (h6 j (.inr (.inr e)))),h4,h5,h6⟩
theorem Ps.below {Z : Nat -> Prop} {w w' : World} {v : Value} {ps : List Nd} (h : Ps Z w v ps) (hb : Below w.heap.size w w') : Ps Z w' v ps:=h.tch (S:=fun _ => False) (Tch.of_below hb) (fun _ _ e => e)
theorem zge9 {n A B : Nd} (h0 : n.ks.length ≠ 0) (h1 : ¬ W (szN n n.ks.length) <= 240) (hR : SplR n A B) : piecesF n = [A,B]:=by
 unfold piecesF
 rw [if_neg h0,if_neg h1]
 rcases hR with ⟨h2,rfl,rfl⟩ | ⟨h2,m,hm,rfl,rfl⟩
 ·rw [if_pos h2]
 ·rw [if_neg (by omega),zou9 hm]
theorem infN4 : ∃ i,Tryz.prog.info? 93 = some i /\ i.zero = some (nod false (.slice none 0 0) (.slice none 0 0) (.slice none 0 0)) /\ i.size = 4 /\ i.bytes = 80:=info_parts (z:=nod false (.slice none 0 0) (.slice none 0 0) (.slice none 0 0)) (size:=4) (bytes:=80) (by kernel_rfl)
theorem zrr9 (w : World) (lf : Bool) (b1 b2 b3 : Option Addr) (l1 l2 l3 c1 c2 c3 : Nat) : (Instr.buildSlice 176 1 #[(0,.agg #[.bool lf,.slice b1 l1 c1,.slice b2 l2 c2,.slice b3 l3 c3])]).run Tryz.prog w = .ok (.slice (some ⟨w.heap.size,0,none⟩) 1 1) (w.alloc (.cells #[.bool lf,.slice b1 l1 c1,.slice b2 l2 c2,.slice b3 l3 c3] 93)):=by
 obtain ⟨i,hi,hz,h1,hb⟩:=infN4
 refine run_buildSlice w _ 93 1 _ _ i _ Tryz.underlying176 hi hz (by rw [h1]; decide) (by rw [h1]; decide) ?_
 rw [h1]
 have:=Go.Great.fill_whole (s:=4) (by decide) [.agg #[.bool lf,.slice b1 l1 c1,.slice b2 l2 c2,.slice b3 l3 c3]] ((Array.range (1 * 4)).map ((Value.agg #[.bool false,.slice none 0 0,.slice none 0 0,.slice none 0 0]).cells[· % (Value.agg #[.bool false,.slice none 0 0,.slice none 0 0,.slice none 0 0]).cells.size]!)) (fun v hv => by
   simp at hv
   subst hv
   rfl) (by simp)
 refine this.trans ?_
 simp [Value.cells]
theorem zrs9 (w : World) (lf lg : Bool) (b1 b2 b3 d1 d2 d3 : Option Addr) (l1 l2 l3 c1 c2 c3 m1 m2 m3 e1 e2 e3 : Nat) : (Instr.buildSlice 176 2 #[(0,.agg #[.bool lf,.slice b1 l1 c1,.slice b2 l2 c2,.slice b3 l3 c3]),(1,.agg #[.bool lg,.slice d1 m1 e1,.slice d2 m2 e2,.slice d3 m3 e3])]).run Tryz.prog w = .ok (.slice (some ⟨w.heap.size,0,none⟩) 2 2) (w.alloc (.cells #[.bool lf,.slice b1 l1 c1,.slice b2 l2 c2,.slice b3 l3 c3,.bool lg,.slice d1 m1 e1,.slice d2 m2 e2,.slice d3 m3 e3] 93)):=by
 obtain ⟨i,hi,hz,h1,hb⟩:=infN4
 refine run_buildSlice w _ 93 2 _ _ i _ Tryz.underlying176 hi hz (by rw [h1]; decide) (by rw [h1]; decide) ?_
 rw [h1]
 have:=Go.Great.fill_whole (s:=4) (by decide) [.agg #[.bool lf,.slice b1 l1 c1,.slice b2 l2 c2,.slice b3 l3 c3],.agg #[.bool lg,.slice d1 m1 e1,.slice d2 m2 e2,.slice d3 m3 e3]] ((Array.range (2 * 4)).map ((Value.agg #[.bool false,.slice none 0 0,.slice none 0 0,.slice none 0 0]).cells[· % (Value.agg #[.bool false,.slice none 0 0,.slice none 0 0,.slice none 0 0]).cells.size]!)) (fun v hv => by
   simp at hv
   rcases hv with rfl | rfl <;> rfl) (by simp)
 refine this.trans ?_
 simp [Value.cells]
theorem zas9 (n : Nd) (u1 u2 u3 : Value) (Z : Nat -> Prop) (w : World) (h : Nn w n u1 u2 u3) (hs : Sm n) (hz : ∀ j,(u1.ownBlock = some j ∨ u2.ownBlock = some j ∨ u3.ownBlock = some j) -> Z j) (hu : Ub3 w u1 u2 u3) :
  Calls Tryz.prog 142 #[nod n.lf u1 u2 u3] w fun e w' => ∃ v,e = .returned v /\ Ps (fun j => (Z j ∨ w.heap.size <= j) /\ j < w'.heap.size) w' v (piecesF n) /\ Below w.heap.size w w':=by
 obtain ⟨a1,c1,a2,c2,a3,c3,rfl,rfl,rfl,⟨l1,l2,l3,l4,l5,l6⟩,_,_,_⟩:=h.out
 have HSZ0:=fun W hb => zbx9 n _ _ _ W (h.below hb) hs
 have HSP0:=fun W hb => zlq9 n _ _ _ W (h.below hb) hs
 obtain ⟨L1,hL1⟩:=exH n.ks.length
 obtain ⟨L2,hL2⟩:=exH n.vs.length
 obtain ⟨L3,hL3⟩:=exH n.kd.length
 have H:=hideN h
 have HZ:=hideN hz
 have HU:=hideN hu
 rw [hL1.out] at H HZ HU l1 ⊢
 rw [hL2.out] at H HZ HU l3 ⊢
 rw [hL3.out] at H HZ HU l5 ⊢
 obtain ⟨lf,hlf⟩:=exH n.lf
 obtain ⟨z,hzz⟩:=exH (W (szN n L1))
 rw [hlf.out]
 have HSZ : Hid (∀ W,Below w.heap.size w W -> Calls Tryz.prog 157 #[.agg #[.bool lf,.slice a1 L1 c1,.slice a2 L2 c2,.slice a3 L3 c3]] W fun e w' => e = .returned (.int .i64 z) /\ Below W.heap.size W w'):=fun W hb => by
  have:=HSZ0 W hb
  rw [hL1.out,hL2.out,hL3.out,hlf.out,hzz.out] at this
  exact this
 have HSP : Hid (∀ W,Below w.heap.size w W -> Calls Tryz.prog 158 #[.agg #[.bool lf,.slice a1 L1 c1,.slice a2 L2 c2,.slice a3 L3 c3]] W fun e w' => (∃ k1 k2 k3 o1 o2 o3 A B,e = .returned (.tuple #[nod A.lf k1 k2 k3,nod B.lf o1 o2 o3]) /\ Nn w' A k1 k2 k3 /\ Nn w' B o1 o2 o3 /\ SplR n A B /\ Fr3 W.heap.size k1 k2 k3 /\ Fr3 W.heap.size o1 o2 o3 /\ Ub3 w' k1 k2 k3 /\ Ub3 w' o1 o2 o3) /\ Below W.heap.size W w'):=fun W hb => by
  have:=HSP0 W hb
  rw [hL1.out,hL2.out,hL3.out,hlf.out] at this
  exact this
 unfold nod
 obtain ⟨W1,hW1⟩:=exN (w.alloc (.cells #[.bool lf,.slice a1 L1 c1,.slice a2 L2 c2,.slice a3 L3 c3] 93))
 have B1 : Hid (Below w.heap.size w W1):=by rw [<- hW1]; exact za9 _ _
 have V1 : Hid (Nb W1 93 w.heap.size lf (.slice a1 L1 c1) (.slice a2 L2 c2) (.slice a3 L3 c3)):=by rw [<- hW1]; exact nb_new _ _ _ _ _ _
 have p0:=V1.out.c0
 have p1:=V1.out.c1
 have p2:=V1.out.c2
 have p3:=V1.out.c3
 clear h hs hz hu HSZ0 HSP0 l2 l3 l4 l5 l6
 by_cases h0 : L1 = 0
 ·have HPF : Hid (piecesF n = []):=by show _ = _; unfold piecesF; rw [if_pos (by rw [hL1.out]; exact h0)]
  rw [HPF.out]
  have e0 : ((L1 : Int) == 0) = true:=by rw [beq_iff_eq]; omega
  clear h0
  go_enter Tryz.func142,Tryz.ntmps142
  go_wp2_with fail
  go_ret
  exact ⟨_,rfl,rfl,B1.out⟩
 ·have e0 : ((L1 : Int) == 0) = false:=by rw [beq_eq_false_iff_ne]; omega
  by_cases h24 : z <= 240
  ·have HPF : Hid (piecesF n = [n]):=by show _ = _; unfold piecesF; rw [if_neg (by rw [hL1.out]; exact h0),if_pos (by rw [hL1.out,hzz.out]; exact h24)]
   rw [HPF.out]
   have hbd:=zrr9
   go_enter Tryz.func142,Tryz.ntmps142
   go_wp2_with fail
   refine (HSZ.out W1 B1.out).mono ?_
   rintro e w2 ⟨rfl,b2⟩
   have V2:=V1.out.below b2
   have BB : Hid (Below w.heap.size w w2):=B1.out.trans (b2.mono B1.out.size)
   have q0:=V2.c0
   have q1:=V2.c1
   have q2:=V2.c2
   have q3:=V2.c3
   have HW3 : Hid (Ps (fun j => (Z j ∨ w.heap.size <= j) /\ j < (w2.alloc (.cells #[.bool lf,.slice a1 L1 c1,.slice a2 L2 c2,.slice a3 L3 c3] 93)).heap.size) (w2.alloc (.cells #[.bool lf,.slice a1 L1 c1,.slice a2 L2 c2,.slice a3 L3 c3] 93)) (.slice (some ⟨w2.heap.size,0,none⟩) 1 1) [n] /\ Below w.heap.size w (w2.alloc (.cells #[.bool lf,.slice a1 L1 c1,.slice a2 L2 c2,.slice a3 L3 c3] 93))):=by
    have b3:=za9 w2 (.cells #[.bool lf,.slice a1 L1 c1,.slice a2 L2 c2,.slice a3 L3 c3] 93)
    refine ⟨⟨_,_,_,_,rfl,by rw [hlf.out]; exact heap_alloc_new w2 _,(H.out.below BB.out).below b3,⟨.inr BB.out.size,by simp⟩,fun j hj => ⟨.inl (HZ.out j hj),zn1 (HU.out j hj) (zn2 BB.out.size b3.size)⟩⟩,BB.out.trans (b3.mono BB.out.size)⟩
   clear b2 p0 p1 p2 p3 hW1 HSZ V2 h0
   go_wp2_with fail
   go_ret
   exact ⟨_,rfl,HW3.out⟩
  ·have g24 : decide (z <= 240) = false:=by rw [zn4]; exact h24
   have HN0 : Hid (n.ks.length ≠ 0):=by show _ ≠ _; rw [hL1.out]; exact h0
   have HN1 : Hid (240 < W (szN n n.ks.length)):=by show _ < _; rw [hL1.out,hzz.out]; omega
   obtain ⟨pp,hpp⟩:=exH (piecesF n)
   rw [hpp.out]
   have hbd:=zrs9
   go_enter Tryz.func142,Tryz.ntmps142
   go_wp2_with fail
   refine (HSZ.out W1 B1.out).mono ?_
   rintro e w2 ⟨rfl,b2⟩
   have V2:=V1.out.below b2
   have BB : Hid (Below w.heap.size w w2):=B1.out.trans (b2.mono B1.out.size)
   have q0:=V2.c0
   have q1:=V2.c1
   have q2:=V2.c2
   have q3:=V2.c3
   clear b2 p0 p1 p2 p3 hW1 HSZ V2 h0
   go_wp2_with fail
   refine (HSP.out w2 BB.out).mono ?_
   rintro e w3 ⟨⟨k1,k2,k3,o1,o2,o3,A,B,rfl,hA,hB,hR,fA,fB,uA,uB⟩,b3⟩
   have HPQ : Hid (pp = [A,B]):=by show _ = _; rw [<- hpp.out]; exact zge9 HN0.out (Int.not_le.2 HN1.out) hR
   have B3 : Hid (Below w.heap.size w w3):=BB.out.trans (b3.mono BB.out.size)
   have hsz:=BB.out.size
   obtain ⟨x1,y1,x2,y2,x3,y3,rfl,rfl,rfl,_⟩:=hA.out
   obtain ⟨s1,t1,s2,t2,s3,t3,rfl,rfl,rfl,_⟩:=hB.out
   obtain ⟨A1,hA1⟩:=exH A.ks.length
   obtain ⟨A2,hA2⟩:=exH A.vs.length
   obtain ⟨A3,hA3⟩:=exH A.kd.length
   obtain ⟨E1,hE1⟩:=exH B.ks.length
   obtain ⟨E2,hE2⟩:=exH B.vs.length
   obtain ⟨E3,hE3⟩:=exH B.kd.length
   obtain ⟨fA',hfA⟩ : ∃ l,Hid (A.lf = l):=⟨_,rfl⟩
   obtain ⟨fB',hfB⟩ : ∃ l,Hid (B.lf = l):=⟨_,rfl⟩
   rw [hA1.out,hA2.out,hA3.out] at hA fA uA
   rw [hE1.out,hE2.out,hE3.out] at hB fB uB
   rw [hA1.out,hA2.out,hA3.out,hE1.out,hE2.out,hE3.out,hfA.out,hfB.out]
   have HA:=hideN hA
   have HB:=hideN hB
   have FA:=hideN fA
   have FB:=hideN fB
   have UA:=hideN uA
   have UB:=hideN uB
   unfold nod
   obtain ⟨YA,hYA⟩:=exN (w3.alloc (.cells #[.bool false,.slice none 0 0,.slice none 0 0,.slice none 0 0] 93))
   obtain ⟨YB,hYB⟩:=exN (YA.alloc (.cells #[.bool false,.slice none 0 0,.slice none 0 0,.slice none 0 0] 93))
   have sA : YA.heap.size = w3.heap.size + 1:=by rw [<- hYA]; simp
   have bA : Below w3.heap.size w3 YA:=by rw [<- hYA]; exact za9 _ _
   have bB : Below YA.heap.size YA YB:=by rw [<- hYB]; exact za9 _ _
   have NA0 : Nb YA 93 w3.heap.size false (.slice none 0 0) (.slice none 0 0) (.slice none 0 0):=by rw [<- hYA]; exact nb_new _ _ _ _ _ _
   have NA1:=NA0.below bB
   have NB1 : Nb YB 93 (w3.heap.size + 1) false (.slice none 0 0) (.slice none 0 0) (.slice none 0 0):=by rw [<- hYB,<- sA]; exact nb_new _ _ _ _ _ _
   have tA:=zg9 YB w3.heap.size (.bool fA') (.slice x1 A1 y1) (.slice x2 A2 y2) (.slice x3 A3 y3)
   have NA2:=NA1.all fA' (.slice x1 A1 y1) (.slice x2 A2 y2) (.slice x3 A3 y3)
   have NB2:=NB1.tch tA (by omega)
   obtain ⟨WA,hWA⟩:=exN (((((YB.setCell ⟨w3.heap.size,0,none⟩ (.bool fA')).setCell ⟨w3.heap.size,1,none⟩ (.slice x1 A1 y1)).setCell ⟨w3.heap.size,2,none⟩ (.slice x2 A2 y2)).setCell ⟨w3.heap.size,3,none⟩ (.slice x3 A3 y3)))
   rw [hWA] at tA NA2 NB2
   have tB:=zg9 WA (w3.heap.size + 1) (.bool fB') (.slice s1 E1 t1) (.slice s2 E2 t2) (.slice s3 E3 t3)
   have NB3:=NB2.all fB' (.slice s1 E1 t1) (.slice s2 E2 t2) (.slice s3 E3 t3)
   have NA3:=NA2.tch tB (by omega)
   obtain ⟨WB,hWB⟩:=exN (((((WA.setCell ⟨w3.heap.size + 1,0,none⟩ (.bool fB')).setCell ⟨w3.heap.size + 1,1,none⟩ (.slice s1 E1 t1)).setCell ⟨w3.heap.size + 1,2,none⟩ (.slice s2 E2 t2)).setCell ⟨w3.heap.size + 1,3,none⟩ (.slice s3 E3 t3)))
   rw [hWB] at tB NB3 NA3
   have b4 : Below w3.heap.size w3 WB:=by
    have h1 : Below w3.heap.size w3 YB:=bA.trans (bB.mono bA.size)
    have h2 : Below w3.heap.size w3 WA:=h1.trans (tA.below h1.size (fun j e => by omega))
    exact h2.trans (tB.below h2.size (fun j e => by omega))
   have HFIN : Hid (Ps (fun j => (Z j ∨ w.heap.size <= j) /\ j < (WB.alloc (.cells #[.bool fA',.slice x1 A1 y1,.slice x2 A2 y2,.slice x3 A3 y3,.bool fB',.slice s1 E1 t1,.slice s2 E2 t2,.slice s3 E3 t3] 93)).heap.size) (WB.alloc (.cells #[.bool fA',.slice x1 A1 y1,.slice x2 A2 y2,.slice x3 A3 y3,.bool fB',.slice s1 E1 t1,.slice s2 E2 t2,.slice s3 E3 t3] 93)) (.slice (some ⟨WB.heap.size,0,none⟩) 2 2) pp /\ Below w.heap.size w (WB.alloc (.cells #[.bool fA',.slice x1 A1 y1,.slice x2 A2 y2,.slice x3 A3 y3,.bool fB',.slice s1 E1 t1,.slice s2 E2 t2,.slice s3 E3 t3] 93))):=by
    have b5:=za9 WB (.cells #[.bool fA',.slice x1 A1 y1,.slice x2 A2 y2,.slice x3 A3 y3,.bool fB',.slice s1 E1 t1,.slice s2 E2 t2,.slice s3 E3 t3] 93)
    have b45 : Below w.heap.size w WB:=B3.out.trans (b4.mono B3.out.size)
    refine ⟨?_,b45.trans (b5.mono b45.size)⟩
    rw [HPQ.out]
    exact ⟨_,_,_,_,_,_,_,rfl,by rw [hfA.out,hfB.out]; exact heap_alloc_new WB _,(HA.out.below b4).below b5,(HB.out.below b4).below b5,⟨.inr b45.size,by simp⟩,fun j hj => ⟨.inr (zn2 hsz (FA.out j hj)),zn1 (UA.out j hj) (zn2 b4.size b5.size)⟩,fun j hj => ⟨.inr (zn2 hsz (FB.out j hj)),zn1 (UB.out j hj) (zn2 b4.size b5.size)⟩⟩
   have p0:=NA1.c0
   have p1:=NA1.c1
   have p2:=NA1.c2
   have p3:=NA1.c3
   have f0:=NA1.fz 0
   have f1:=NA1.fz 1
   have f2:=NA1.fz 2
   have f3:=NA1.fz 3
   have y0:=NB2.c0
   have y1':=NB2.c1
   have y2':=NB2.c2
   have y3':=NB2.c3
   have g0:=NB2.fz 0
   have g1:=NB2.fz 1
   have g2:=NB2.fz 2
   have g3:=NB2.fz 3
   have r0:=NA3.c0
   have r1:=NA3.c1
   have r2:=NA3.c2
   have r3:=NA3.c3
   have v0:=NB3.c0
   have v1:=NB3.c1
   have v2:=NB3.c2
   have v3:=NB3.c3
   clear hA hB hR fA fB uA uB b3 hsz bA bB NA0 NA1 NB1 tA NA2 NB2 tB NB3 NA3 b4 q0 q1 q2 q3 HSP
   go_wp2_with fail
   go_ret
   exact ⟨_,rfl,HFIN.out⟩
end Go.Proofs.YtjhccpijpffahaaGreat
