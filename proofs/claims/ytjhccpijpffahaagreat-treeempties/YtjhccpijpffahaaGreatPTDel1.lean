import Derived.Test.YtjhccpijpffahaaGreatPTIns
import Derived.Test.YtjhccpijpffahaaGreatPTPs
import Derived.Test.YtjhccpijpffahaaGreatPTPl
set_option maxRecDepth 100000
set_option linter.unusedVariables false
set_option linter.unusedSimpArgs false
set_option maxHeartbeats 8000000
namespace Go.Proofs.YtjhccpijpffahaaGreat
open Go.RowKit Go.Maps Pl
def AtL (B : Nat) (w : World) (n' : Nd) (u1 u2 u3 : Value) (e : Ending) (w' : World) : Prop:=
 ∃ v1 v2 v3,e = .returned (nod n'.lf v1 v2 v3) /\ Ow3 B w' n' v1 v2 v3 /\ Tch (fun k => u1.ownBlock = some k ∨ u2.ownBlock = some k) w w' ∧
  (∀ j,(v1.ownBlock = some j ∨ v2.ownBlock = some j ∨ v3.ownBlock = some j) -> (u1.ownBlock = some j ∨ u2.ownBlock = some j ∨ u3.ownBlock = some j) ∨ w.heap.size <= j)
section
variable {B : Nat} {w : World}
theorem zps9 (n : Nd) (u1 u2 u3 : Value) (key : ByteArray) (kb : Nat) (w : World) (hB : B <= w.heap.size) (h : Ow3 B w n u1 u2 u3) (hs : Sm n) (hkl : n.ks.length <= 1000) (hv : n.vs.length = n.ks.length) (hkb : w.cell? ⟨kb,0,none⟩ = some (.string key)) :
  Calls Tryz.prog 54 #[nod n.lf u1 u2 u3,.pointer (some ⟨kb,0,none⟩)] w fun e w' => AtL B w (delL key n) u1 u2 u3 e w':=by
 obtain ⟨a1,c1,a2,c2,a3,c3,rfl,rfl,rfl,_,_,_,_⟩:=h.nn.out
 obtain ⟨L1,hL1⟩:=exH n.ks.length
 obtain ⟨L2,hL2⟩:=exH n.vs.length
 obtain ⟨L3,hL3⟩:=exH n.kd.length
 obtain ⟨lf,hlf⟩:=exH n.lf
 rw [hL1.out,hL2.out,hL3.out] at h ⊢
 rw [hL1.out,hL2.out] at hv
 rw [hL1.out] at hkl
 rw [hlf.out]
 obtain ⟨W1,hW1⟩:=exN (w.alloc (.cells #[.bool lf,.slice a1 L1 c1,.slice a2 L2 c2,.slice a3 L3 c3] 93))
 obtain ⟨W2,hW2⟩:=exN (W1.alloc (.cells #[.bool false,.slice none 0 0,.slice none 0 0,.slice none 0 0] 93))
 have s1 : W1.heap.size = w.heap.size + 1:=by rw [<- hW1]; simp
 have s2 : W2.heap.size = w.heap.size + 2:=by rw [<- hW2]; simp [s1]
 have b1 : Below w.heap.size w W1:=by rw [<- hW1]; exact za9 _ _
 have b2 : Below W1.heap.size W1 W2:=by rw [<- hW2]; exact za9 _ _
 have b12 : Below w.heap.size w W2:=b1.trans (b2.mono b1.size)
 have V2 : Nb W2 93 w.heap.size lf (.slice a1 L1 c1) (.slice a2 L2 c2) (.slice a3 L3 c3):=by
  have : Nb W1 93 w.heap.size lf (.slice a1 L1 c1) (.slice a2 L2 c2) (.slice a3 L3 c3):=by rw [<- hW1]; exact nb_new _ _ _ _ _ _
  exact this.below b2
 have X2 : Nb W2 93 W1.heap.size false (.slice none 0 0) (.slice none 0 0) (.slice none 0 0):=by rw [<- hW2]; exact nb_new _ _ _ _ _ _
 have k2 : W2.cell? ⟨kb,0,none⟩ = some (.string key):=by rw [b12.cell (World.block_lt_of_cell? w ⟨kb,0,none⟩ hkb)]; exact hkb
 have PL:=zcc9 n _ _ _ key W2 (h.nn.below b12) hs
 rw [hlf.out,hL1.out] at PL
 have hpl : plc n key L1 <= L1:=plc_le n key L1
 obtain ⟨at_,hat⟩:=exH (plc n key L1)
 rw [hat.out] at PL hpl
 obtain ⟨th,hth⟩:=exH (decide (at_ < L1 /\ eqs (kA n at_) key = true))
 rw [hth.out] at PL
 have HPL:=hideN PL
 have HH:=hideN h
 have HB2:=hideN b12
 have HSZ : Hid (W1.heap.size = w.heap.size + 1 /\ W2.heap.size = w.heap.size + 2):=⟨s1,s2⟩
 have HV2:=hideN V2
 have HX2:=hideN X2
 have HBB:=hideN hB
 have HVL:=hideN hv
 have vc0:=V2.c0
 have vc1:=V2.c1
 have vc2:=V2.c2
 have vc3:=V2.c3
 clear h hs PL V2 X2 b1 b2 b12 s1 s2 hB hkb hv
 unfold nod at HPL ⊢
 go_enter Tryz.func54,Tryz.ntmps54
 go_wp2_with fail
 refine HPL.out.mono ?_
 rintro e W3 ⟨rfl,b3⟩
 have hz:=HSZ.out
 have T3 : Tch (fun _ => False) w W3:=(Tch.of_below HB2.out).trans (Tch.of_below b3) (fun _ _ e => e)
 have V3:=HV2.out.below b3
 have X3:=HX2.out.below b3
 have O3 : Ow3 B W3 n (.slice a1 L1 c1) (.slice a2 L2 c2) (.slice a3 L3 c3):=HH.out.tch T3 (fun _ _ e => e)
 clear vc0 vc1 vc2 vc3 b3
 -- the end,whatever the node is then
 have HEND : Hid (∀ (n' : Nd) (W : World) (y1 y2 : Value),n'.lf = lf -> n' = delL key n -> Ow3 B W n' y1 y2 (.slice a3 L3 c3) -> Nb W 93 W1.heap.size false (.slice none 0 0) (.slice none 0 0) (.slice none 0 0) -> Tch (fun k => (Value.slice a1 L1 c1).ownBlock = some k ∨ (Value.slice a2 L2 c2).ownBlock = some k) w W →
   (∀ j,(y1.ownBlock = some j ∨ y2.ownBlock = some j) -> ((Value.slice a1 L1 c1).ownBlock = some j ∨ (Value.slice a2 L2 c2).ownBlock = some j) ∨ W1.heap.size < j) →
   ∃ WA,(((W.setCell ⟨W1.heap.size,0,none⟩ (.bool lf)).setCell ⟨W1.heap.size,1,none⟩ y1).setCell ⟨W1.heap.size,2,none⟩ y2).setCell ⟨W1.heap.size,3,none⟩ (.slice a3 L3 c3) = WA /\ (loadVar 93 ⟨W1.heap.size,0,none⟩).run Tryz.prog WA = .ok (nod lf y1 y2 (.slice a3 L3 c3)) WA /\ AtL B w (delL key n) (.slice a1 L1 c1) (.slice a2 L2 c2) (.slice a3 L3 c3) (.returned (nod lf y1 y2 (.slice a3 L3 c3))) WA):=fun n' W y1 y2 hl e ho hx ht hf => by
  have tA:=zg9 W W1.heap.size (.bool lf) y1 y2 (.slice a3 L3 c3)
  have hu:=HH.out.k.lt
  have hu2:=HH.out.v.lt
  have hu3:=HH.out.d.lt
  have OA:=ho.tch tA (fun j hj q => by
   subst q
   rcases hj with q | q | q
   ·rcases hf _ (.inl q) with (q | q) | q
    ·have:=hu _ q; omega
    ·have:=hu2 _ q; omega
    ·omega
   ·rcases hf _ (.inr q) with (q | q) | q
    ·have:=hu _ q; omega
    ·have:=hu2 _ q; omega
    ·omega
   ·have:=hu3 _ q; omega)
  refine ⟨_,rfl,(hx.all _ _ _ _).load,y1,y2,_,by rw [<- e,hl],e ▸ OA,?_,fun j hj => ?_⟩
  ·exact ht.trans tA (fun y hy q => by omega)
  ·rcases hj with q | q | q
   ·exact (hf j (.inl q)).imp (fun q => q.imp id .inl) (fun q => by omega)
   ·exact (hf j (.inr q)).imp (fun q => q.imp id .inl) (fun q => by omega)
   ·exact .inl (.inr (.inr q))
 have HO3:=hideN O3
 have HT3:=hideN T3
 have HV3:=hideN V3
 have HX3:=hideN X3
 cases th
 ·have HD : Hid (delL key n = n):=by
   show delL key n = n
   unfold delL
   simp only [hL1.out,hat.out]
   rw [if_neg]
   have:=hth.out
   rw [zn4] at this
   exact this
  obtain ⟨WA,hWA,hld,hfin⟩:=HEND.out n W3 _ _ hlf.out HD.out.symm O3 X3 (T3.mono (fun _ _ e => e.elim)) (fun j hj => .inl hj)
  have HLD:=hideN hld
  have HFIN:=hideN hfin
  have vc0:=V3.c0
  have vc1:=V3.c1
  have vc2:=V3.c2
  have vc3:=V3.c3
  have xc0:=X3.c0
  have xc1:=X3.c1
  have xc2:=X3.c2
  have xc3:=X3.c3
  have xz0:=X3.fz 0
  have xz1:=X3.fz 1
  have xz2:=X3.fz 2
  have xz3:=X3.fz 3
  clear hld hfin V3 X3 O3 T3 hz HEND
  go_wp2_with fail
  try rw [hWA]
  refine bodyPost_ret (v:=nod lf (.slice a1 L1 c1) (.slice a2 L2 c2) (.slice a3 L3 c3)) (zat9 (p:=3) (ty:=93) rfl _ _ _ W1.heap.size _ rfl HLD.out) rfl ?_
  exact HFIN.out
 ·have hth':=hth.out
  rw [decide_eq_true_iff] at hth'
  have hlt : at_ < L1:=hth'.1
  have HD : Hid (delL key n = { n with ks:=n.ks.take at_ ++ n.ks.drop (at_ + 1),vs:=n.vs.take at_ ++ n.vs.drop (at_ + 1) }):=by
   show delL key n = _
   unfold delL
   simp only [hL1.out,hat.out]
   rw [if_pos hth']
  have D1:=zjn9 (w:=W3) (.slice a1 L1 c1) n.ks at_ O3.k (by rw [hL1.out]; exact hlt)
  have HD1:=hideN D1
  have HLT:=hideN hlt
  have vc1:=V3.c1
  have vc2:=V3.c2
  have wf1:=zbf9 (x:=(at_ : Int) + 1) (by omega) (by omega)
  have wf2 : wrap64 ((at_ : Int) + 1) = (at_ : Int) + 1:=by unfold wrap64; omega
  clear D1 V3 X3 O3 T3 hz hth'
  go_wp2_with fail
  refine HD1.out.mono ?_
  rintro e W4 ⟨y1,rfl,TR⟩
  obtain ⟨x5,z5,rfl⟩:=TR.ow.long
  obtain ⟨q5,hq5⟩:=exH ((strs (n.ks.take at_ ++ n.ks.drop (at_ + 1))).length)
  rw [hq5.out] at TR
  rw [hq5.out]
  have hz:=HSZ.out
  have hu:=HH.out.k.lt
  have hu2:=HH.out.v.lt
  have hu3:=HH.out.d.lt
  have V4:=HV3.out.tch TR.tc (fun e => by have:=hu _ e; omega)
  have X4:=HX3.out.tch TR.tc (fun e => by have:=hu _ e; omega)
  obtain ⟨W5,hW5⟩:=exN (W4.setCell ⟨w.heap.size,1,none⟩ (.slice x5 q5 z5))
  have V5 : Nb W5 93 w.heap.size lf (.slice x5 q5 z5) (.slice a2 L2 c2) (.slice a3 L3 c3):=by rw [<- hW5]; exact V4.s1 _
  have t5 : Tch (fun k => k = w.heap.size) W4 W5:=by rw [<- hW5]; exact Tch.setCell (S:=fun k => k = w.heap.size) (Tch.refl _ _) (p:=⟨w.heap.size,1,none⟩) (fun _ => rfl) _
  have X5:=X4.tch t5 (by show ¬ W1.heap.size = w.heap.size; omega)
  have s34:=TR.tc.size
  have s3:=HT3.out.size
  have hs3 : W1.heap.size < W3.heap.size:=HX3.out.lt
  have T35 : Tch (fun k => k = w.heap.size ∨ (Value.slice a1 L1 c1).ownBlock = some k) W3 W5:=(TR.tc.mono (fun k _ e => .inr e)).trans t5 (fun k _ e => .inl e)
  have O5 : OwV B 9 W5 (.slice a2 L2 c2) (strs n.vs):=HO3.out.v.tch T35 (fun j hj e => e.elim (fun e => by have:=hu2 j hj; omega) (fun e => HO3.out.ap j e hj))
  have K5 : OwV B 9 W5 (.slice x5 q5 z5) (strs (n.ks.take at_ ++ n.ks.drop (at_ + 1))):=TR.ow.tch t5 (fun j hj e => (TR.fs j hj).elim (fun q => by have:=hu j q; omega) (fun q => by omega))
  have F5 : ∀ j,(Value.slice x5 q5 z5).ownBlock = some j -> (Value.slice a1 L1 c1).ownBlock = some j ∨ W1.heap.size < j:=fun j hj => (TR.fs j hj).imp id (fun e => by omega)
  have D2:=zjn9 (w:=W5) (.slice a2 L2 c2) n.vs at_ O5 (by rw [hL2.out,HVL.out]; exact HLT.out)
  have HD2:=hideN D2
  have HK5:=hideN K5
  have HF5:=hideN F5
  have HT35:=hideN T35
  have HV5:=hideN V5
  have HX5:=hideN X5
  have H5L:=hideN O5.lt
  have HK5L:=hideN K5.lt
  have e2:=V5.c2
  have v4:=V4.c1
  have v4z:=V4.fz 1
  clear D2 K5 F5 T35 V5 X5 O5 V4 X4 TR t5 hz hu hu2 hu3 s34 s3 hs3 vc1 vc2
  go_wp2_with fail
  refine HD2.out.mono ?_
  rintro e W6 ⟨y2,rfl,TR⟩
  obtain ⟨x6,z6,rfl⟩:=TR.ow.long
  obtain ⟨q6,hq6⟩:=exH ((strs (n.vs.take at_ ++ n.vs.drop (at_ + 1))).length)
  rw [hq6.out] at TR
  rw [hq6.out]
  have hz:=HSZ.out
  have hu:=HH.out.k.lt
  have hu2:=HH.out.v.lt
  have hu3:=HH.out.d.lt
  have s3:=HT3.out.size
  have s5:=HT35.out.size
  have hs3 : W1.heap.size < W3.heap.size:=HX3.out.lt
  have V6:=HV5.out.tch TR.tc (fun e => by have:=hu2 _ e; omega)
  have X6:=HX5.out.tch TR.tc (fun e => by have:=hu2 _ e; omega)
  obtain ⟨W7,hW7⟩:=exN (W6.setCell ⟨w.heap.size,2,none⟩ (.slice x6 q6 z6))
  have V7 : Nb W7 93 w.heap.size lf (.slice x5 q5 z5) (.slice x6 q6 z6) (.slice a3 L3 c3):=by rw [<- hW7]; exact V6.s2 _
  have t7 : Tch (fun k => k = w.heap.size) W6 W7:=by rw [<- hW7]; exact Tch.setCell (S:=fun k => k = w.heap.size) (Tch.refl _ _) (p:=⟨w.heap.size,2,none⟩) (fun _ => rfl) _
  have X7:=X6.tch t7 (by show ¬ W1.heap.size = w.heap.size; omega)
  have T57 : Tch (fun k => k = w.heap.size ∨ (Value.slice a2 L2 c2).ownBlock = some k) W5 W7:=(TR.tc.mono (fun k _ e => .inr e)).trans t7 (fun k _ e => .inl e)
  have T7 : Tch (fun k => (Value.slice a1 L1 c1).ownBlock = some k ∨ (Value.slice a2 L2 c2).ownBlock = some k) w W7:=((HT3.out.mono (fun _ _ e => e.elim)).trans HT35.out (fun y hy e => e.elim (fun e => by omega) .inl)).trans T57 (fun y hy e => e.elim (fun e => by omega) .inr)
  have D7 : OwV B 3 W7 (.slice a3 L3 c3) (nums n.kd):=by
   refine (HO3.out.d.tch HT35.out (fun j hj e => e.elim (fun e => by have:=hu3 j hj; omega) (fun e => HO3.out.k.apart HO3.out.d (by decide) e hj))).tch T57 (fun j hj e => e.elim (fun e => by have:=hu3 j hj; omega) (fun e => HO3.out.v.apart HO3.out.d (by decide) e hj))
  have ap7 : ∀ j,(Value.slice x5 q5 z5).ownBlock = some j -> (Value.slice x6 q6 z6).ownBlock ≠ some j:=fun j h1 h2 => by
   have l5:=HK5L.out j h1
   rcases TR.fs j h2 with q | q
   ·rcases HF5.out j h1 with r | r
    ·exact HO3.out.ap j r q
    ·have:=hu2 j q; omega
   ·omega
  have K7:=HK5.out.tch T57 (fun j hj e => by
   rcases HF5.out j hj with r | r
   ·exact e.elim (fun e => by have:=hu j r; omega) (fun e => HO3.out.ap j r e)
   ·exact e.elim (fun e => by omega) (fun e => by have:=hu2 j e; omega))
  have U7 : OwV B 9 W7 (.slice x6 q6 z6) (strs (n.vs.take at_ ++ n.vs.drop (at_ + 1))):=TR.ow.tch t7 (fun j hj e => (TR.fs j hj).elim (fun q => by have:=hu2 j q; omega) (fun q => by omega))
  obtain ⟨WA,hWA,hld,hfin⟩:=HEND.out { n with ks:=n.ks.take at_ ++ n.ks.drop (at_ + 1),vs:=n.vs.take at_ ++ n.vs.drop (at_ + 1) } W7 (.slice x5 q5 z5) (.slice x6 q6 z6) hlf.out HD.out.symm ⟨K7,U7,D7,ap7⟩ X7 T7 (fun j hj => by
   rcases hj with e | e
   ·exact (HF5.out j e).imp .inl id
   ·exact (TR.fs j e).imp .inr (fun q => by omega))
  have HLD:=hideN hld
  have HFIN:=hideN hfin
  have vc0:=V7.c0
  have vc1:=V7.c1
  have vc2:=V7.c2
  have vc3:=V7.c3
  have v6:=V6.c2
  have v6z:=V6.fz 2
  have xc0:=X7.c0
  have xc1:=X7.c1
  have xc2:=X7.c2
  have xc3:=X7.c3
  have xz0:=X7.fz 0
  have xz1:=X7.fz 1
  have xz2:=X7.fz 2
  have xz3:=X7.fz 3
  clear hld hfin V7 X7 V6 X6 TR t7 T57 T7 D7 ap7 K7 U7 hz hu hu2 hu3 s3 s5 hs3 HEND
  go_wp2_with fail
  try rw [hWA]
  refine bodyPost_ret (v:=nod lf (.slice x5 q5 z5) (.slice x6 q6 z6) (.slice a3 L3 c3)) (zat9 (p:=3) (ty:=93) rfl _ _ _ W1.heap.size _ rfl HLD.out) rfl ?_
  exact HFIN.out
end
section
variable {B : Nat} {w : World}
theorem OwV.put1 {e : TypeId} {g o l cap : Nat} {cs : List Value} (h : OwV B e w (.slice (some ⟨g,o,none⟩) l cap) cs) {i : Nat} (hi : i < cs.length) (x : Value) : OwV B e (w.setCell ⟨g,o + i,none⟩ x) (.slice (some ⟨g,o,none⟩) l cap) (cs.set i x):=by
 rcases h.rows with ⟨h0,_⟩ | ⟨g',cap',cur,h0,hb,hr,h1,h2,h3,h4⟩
 ·cases h0
 ·cases h0
  have hr' : Rw e (w.setCell ⟨g,0 + i,none⟩ x) g (cur.set i x):=by
   rw [Nat.zero_add]
   have:=heap_setCell_same w g i _ _ x hr
   unfold Rw
   rw [this]
   simp
  refine hr'.owV hb (by rw [List.length_set]; exact h3) h2 h1 ?_
  rw [List.take_set,h4]
theorem OwV.fz1 {e : TypeId} {g o l cap : Nat} {cs : List Value} (h : OwV B e w (.slice (some ⟨g,o,none⟩) l cap) cs) (i : Nat) : w.frozen? ⟨g,i,none⟩ = false:=by
 rcases h.rows with ⟨h0,_⟩ | ⟨g',cap',cur,h0,hb,hr,h1,h2,h3,h4⟩
 ·cases h0
 ·cases h0
  exact hr.fz i
theorem zgk9 (ss : List ByteArray) (i : Nat) (x : ByteArray) : strs (ss.set i x) = (strs ss).set i (.string x):=by unfold strs; rw [List.map_set]
theorem zgj9 (ss : List ByteArray) (i : Nat) (x : ByteArray) : strs (ss.take i ++ x :: ss.drop i) = (strs ss).take i ++ .string x :: (strs ss).drop i:=by unfold strs; simp [List.map_take,List.map_drop]
theorem zqj9 (n : Nd) (u1 u2 u3 : Value) (key val : ByteArray) (kb vb : Nat) (w : World) (hB : B <= w.heap.size) (h : Ow3 B w n u1 u2 u3) (hs : Sm n) (hkl : n.ks.length <= 1000) (hv : n.vs.length = n.ks.length) (hkb : w.cell? ⟨kb,0,none⟩ = some (.string key)) (hvb : w.cell? ⟨vb,0,none⟩ = some (.string val)) (hvB : vb < B) :
  Calls Tryz.prog 51 #[nod n.lf u1 u2 u3,.pointer (some ⟨kb,0,none⟩),.pointer (some ⟨vb,0,none⟩)] w fun e w' => AtL B w (insL key val n) u1 u2 u3 e w':=by
 obtain ⟨a1,c1,a2,c2,a3,c3,rfl,rfl,rfl,_,_,_,_⟩:=h.nn.out
 obtain ⟨L1,hL1⟩:=exH n.ks.length
 obtain ⟨L2,hL2⟩:=exH n.vs.length
 obtain ⟨L3,hL3⟩:=exH n.kd.length
 obtain ⟨lf,hlf⟩:=exH n.lf
 rw [hL1.out,hL2.out,hL3.out] at h ⊢
 rw [hL1.out,hL2.out] at hv
 rw [hL1.out] at hkl
 rw [hlf.out]
 obtain ⟨W1,hW1⟩:=exN (w.alloc (.cells #[.bool lf,.slice a1 L1 c1,.slice a2 L2 c2,.slice a3 L3 c3] 93))
 obtain ⟨W2,hW2⟩:=exN (W1.alloc (.cells #[.bool false,.slice none 0 0,.slice none 0 0,.slice none 0 0] 93))
 have s1 : W1.heap.size = w.heap.size + 1:=by rw [<- hW1]; simp
 have s2 : W2.heap.size = w.heap.size + 2:=by rw [<- hW2]; simp [s1]
 have b1 : Below w.heap.size w W1:=by rw [<- hW1]; exact za9 _ _
 have b2 : Below W1.heap.size W1 W2:=by rw [<- hW2]; exact za9 _ _
 have b12 : Below w.heap.size w W2:=b1.trans (b2.mono b1.size)
 have V2 : Nb W2 93 w.heap.size lf (.slice a1 L1 c1) (.slice a2 L2 c2) (.slice a3 L3 c3):=by
  have : Nb W1 93 w.heap.size lf (.slice a1 L1 c1) (.slice a2 L2 c2) (.slice a3 L3 c3):=by rw [<- hW1]; exact nb_new _ _ _ _ _ _
  exact this.below b2
 have X2 : Nb W2 93 W1.heap.size false (.slice none 0 0) (.slice none 0 0) (.slice none 0 0):=by rw [<- hW2]; exact nb_new _ _ _ _ _ _
 have k2 : W2.cell? ⟨kb,0,none⟩ = some (.string key):=by rw [b12.cell (World.block_lt_of_cell? w ⟨kb,0,none⟩ hkb)]; exact hkb
 have PL:=zcc9 n _ _ _ key W2 (h.nn.below b12) hs
 rw [hlf.out,hL1.out] at PL
 have hpl : plc n key L1 <= L1:=plc_le n key L1
 obtain ⟨at_,hat⟩:=exH (plc n key L1)
 rw [hat.out] at PL hpl
 obtain ⟨th,hth⟩:=exH (decide (at_ < L1 /\ eqs (kA n at_) key = true))
 rw [hth.out] at PL
 have HPL:=hideN PL
 have HH:=hideN h
 have HB2:=hideN b12
 have HSZ : Hid (W1.heap.size = w.heap.size + 1 /\ W2.heap.size = w.heap.size + 2):=⟨s1,s2⟩
 have HV2:=hideN V2
 have HX2:=hideN X2
 have HBB:=hideN hB
 have HVL:=hideN hv
 have HVB:=hideN hvb
 have HVBB:=hideN hvB
 have vc0:=V2.c0
 have vc1:=V2.c1
 have vc2:=V2.c2
 have vc3:=V2.c3
 clear h hs PL V2 X2 b1 b2 b12 s1 s2 hB hkb hv hvb hvB
 unfold nod at HPL ⊢
 go_enter Tryz.func51,Tryz.ntmps51
 go_wp2_with fail
 refine HPL.out.mono ?_
 rintro e W3 ⟨rfl,b3⟩
 have hz:=HSZ.out
 have T3 : Tch (fun _ => False) w W3:=(Tch.of_below HB2.out).trans (Tch.of_below b3) (fun _ _ e => e)
 have V3:=HV2.out.below b3
 have X3:=HX2.out.below b3
 have O3 : Ow3 B W3 n (.slice a1 L1 c1) (.slice a2 L2 c2) (.slice a3 L3 c3):=HH.out.tch T3 (fun _ _ e => e)
 have bb3:=b3
 clear vc0 vc1 vc2 vc3 b3
 -- the end,whatever the node is then
 have HEND : Hid (∀ (n' : Nd) (W : World) (y1 y2 : Value),n'.lf = lf -> n' = insL key val n -> Ow3 B W n' y1 y2 (.slice a3 L3 c3) -> Nb W 93 W1.heap.size false (.slice none 0 0) (.slice none 0 0) (.slice none 0 0) -> Tch (fun k => (Value.slice a1 L1 c1).ownBlock = some k ∨ (Value.slice a2 L2 c2).ownBlock = some k) w W →
   (∀ j,(y1.ownBlock = some j ∨ y2.ownBlock = some j) -> ((Value.slice a1 L1 c1).ownBlock = some j ∨ (Value.slice a2 L2 c2).ownBlock = some j) ∨ W1.heap.size < j) →
   ∃ WA,(((W.setCell ⟨W1.heap.size,0,none⟩ (.bool lf)).setCell ⟨W1.heap.size,1,none⟩ y1).setCell ⟨W1.heap.size,2,none⟩ y2).setCell ⟨W1.heap.size,3,none⟩ (.slice a3 L3 c3) = WA /\ (loadVar 93 ⟨W1.heap.size,0,none⟩).run Tryz.prog WA = .ok (nod lf y1 y2 (.slice a3 L3 c3)) WA /\ AtL B w (insL key val n) (.slice a1 L1 c1) (.slice a2 L2 c2) (.slice a3 L3 c3) (.returned (nod lf y1 y2 (.slice a3 L3 c3))) WA):=fun n' W y1 y2 hl e ho hx ht hf => by
  have tA:=zg9 W W1.heap.size (.bool lf) y1 y2 (.slice a3 L3 c3)
  have hu:=HH.out.k.lt
  have hu2:=HH.out.v.lt
  have hu3:=HH.out.d.lt
  have OA:=ho.tch tA (fun j hj q => by
   subst q
   rcases hj with q | q | q
   ·rcases hf _ (.inl q) with (q | q) | q
    ·have:=hu _ q; omega
    ·have:=hu2 _ q; omega
    ·omega
   ·rcases hf _ (.inr q) with (q | q) | q
    ·have:=hu _ q; omega
    ·have:=hu2 _ q; omega
    ·omega
   ·have:=hu3 _ q; omega)
  refine ⟨_,rfl,(hx.all _ _ _ _).load,y1,y2,_,by rw [<- e,hl],e ▸ OA,?_,fun j hj => ?_⟩
  ·exact ht.trans tA (fun y hy q => by omega)
  ·rcases hj with q | q | q
   ·exact (hf j (.inl q)).imp (fun q => q.imp id .inl) (fun q => by omega)
   ·exact (hf j (.inr q)).imp (fun q => q.imp id .inl) (fun q => by omega)
   ·exact .inl (.inr (.inr q))
 have HO3:=hideN O3
 have HT3:=hideN T3
 have HV3:=hideN V3
 have HX3:=hideN X3
 have HVC : Hid (∀ W,Tch (fun k => (Value.slice a1 L1 c1).ownBlock = some k ∨ (Value.slice a2 L2 c2).ownBlock = some k) w W -> W.cell? ⟨vb,0,none⟩ = some (.string val)):=fun W hW => by
  rw [hW.cell (p:=⟨vb,0,none⟩) (World.block_lt_of_cell? w ⟨vb,0,none⟩ HVB.out) (fun e => by
   have:=HVBB.out
   rcases e with e | e
   ·have : B <= vb:=HH.out.k.ge vb e
    omega
   ·have : B <= vb:=HH.out.v.ge vb e
    omega)]
  exact HVB.out
 cases th
 ·have hth':=hth.out
  rw [zn4] at hth'
  have HD : Hid (insL key val n = { n with ks:=n.ks.take at_ ++ (key :: n.ks.drop at_),vs:=(n.vs.take at_ ++ (eS :: n.vs.drop at_)).set at_ val }):=by
   show insL key val n = _
   unfold insL
   simp only [hL1.out,hat.out]
   rw [if_neg hth']
  obtain ⟨W4,hW4⟩:=exN (W3.alloc (.cells #[.string key] 9))
  have b4 : Below W3.heap.size W3 W4:=by rw [<- hW4]; exact za9 _ _
  have g4 : Rw 9 W4 W3.heap.size [.string key]:=by rw [<- hW4]; exact Rw.new _ _ _
  have s3:=T3.size
  have s4:=b4.size
  have D1:=zki9 (B:=B) (w:=W4) (.slice a1 L1 c1) (strs n.ks) at_ (.string key) W3.heap.size (O3.k.below b4) (zao9 _) rfl (by rw [zh9,hL1.out]; exact hpl) (by rw [zh9,hL1.out]; omega) g4 (fun e => by have:=HH.out.k.lt _ e; omega) (by have:=HBB.out; omega)
  rw [<- zgj9] at D1
  have HD1:=hideN D1
  have HPLE:=hideN hpl
  have V4:=V3.below b4
  have X4:=X3.below b4
  have O4:=O3.below b4
  have T4 : Tch (fun _ => False) w W4:=T3.trans (Tch.of_below b4) (fun _ _ e => e)
  have HO4:=hideN O4
  have HT4:=hideN T4
  have HV4:=hideN V4
  have HX4:=hideN X4
  have vc1:=V3.c1
  have vc2:=V3.c2
  have kc3 : W3.cell? ⟨kb,0,none⟩ = some (.string key):=by
   rw [bb3.cell (World.block_lt_of_cell? W2 ⟨kb,0,none⟩ k2)]; exact k2
  clear D1 V3 X3 O3 T3 hz hth' V4 X4 O4 T4 b4 g4 s3 s4 hpl
  go_wp2_with fail
  refine HD1.out.mono ?_
  rintro e W5 ⟨y1,rfl,TR⟩
  obtain ⟨x5,z5,rfl⟩:=TR.ow.long
  obtain ⟨q5,hq5⟩:=exH ((strs (n.ks.take at_ ++ key :: n.ks.drop at_)).length)
  rw [hq5.out] at TR
  rw [hq5.out]
  have hz:=HSZ.out
  have hu:=HH.out.k.lt
  have hu2:=HH.out.v.lt
  have hu3:=HH.out.d.lt
  have V5:=HV4.out.tch TR.tc (fun e => by have:=hu _ e; omega)
  have X5:=HX4.out.tch TR.tc (fun e => by have:=hu _ e; omega)
  obtain ⟨W6,hW6⟩:=exN (W5.setCell ⟨w.heap.size,1,none⟩ (.slice x5 q5 z5))
  have V6 : Nb W6 93 w.heap.size lf (.slice x5 q5 z5) (.slice a2 L2 c2) (.slice a3 L3 c3):=by rw [<- hW6]; exact V5.s1 _
  have t6 : Tch (fun k => k = w.heap.size) W5 W6:=by rw [<- hW6]; exact Tch.setCell (S:=fun k => k = w.heap.size) (Tch.refl _ _) (p:=⟨w.heap.size,1,none⟩) (fun _ => rfl) _
  have X6:=X5.tch t6 (by show ¬ W1.heap.size = w.heap.size; omega)
  obtain ⟨W7,hW7⟩:=exN (W6.alloc (.cells #[.string ⟨#[]⟩] 9))
  have b7 : Below W6.heap.size W6 W7:=by rw [<- hW7]; exact za9 _ _
  have g7 : Rw 9 W7 W6.heap.size [.string eS]:=by rw [<- hW7]; exact Rw.new _ _ _
  have V7:=V6.below b7
  have X7:=X6.below b7
  have s45:=TR.tc.size
  have s56:=t6.size
  have s67:=b7.size
  have hs4 : W1.heap.size < W4.heap.size:=HX4.out.lt
  have T47 : Tch (fun k => k = w.heap.size ∨ (Value.slice a1 L1 c1).ownBlock = some k) W4 W7:=((TR.tc.mono (fun k _ e => .inr e)).trans t6 (fun k _ e => .inl e)).trans (Tch.of_below b7) (fun _ _ e => e)
  have O7 : OwV B 9 W7 (.slice a2 L2 c2) (strs n.vs):=HO4.out.v.tch T47 (fun j hj e => e.elim (fun e => by have:=hu2 j hj; omega) (fun e => HO4.out.ap j e hj))
  have K7 : OwV B 9 W7 (.slice x5 q5 z5) (strs (n.ks.take at_ ++ key :: n.ks.drop at_)):=(TR.ow.tch t6 (fun j hj e => (TR.fs j hj).elim (fun q => by have:=hu j q; omega) (fun q => by omega))).below b7
  have F7 : ∀ j,(Value.slice x5 q5 z5).ownBlock = some j -> (Value.slice a1 L1 c1).ownBlock = some j ∨ W1.heap.size < j:=fun j hj => (TR.fs j hj).imp id (fun e => by omega)
  have hpl:=HPLE.out
  have D2:=zki9 (B:=B) (w:=W7) (.slice a2 L2 c2) (strs n.vs) at_ (.string eS) W6.heap.size O7 (zao9 _) rfl (by rw [zh9,hL2.out,HVL.out]; exact hpl) (by rw [zh9,hL2.out,HVL.out]; omega) g7 (fun e => by have:=hu2 _ e; omega) (by have:=HBB.out; have:=HT4.out.size; omega)
  rw [<- zgj9] at D2
  have HD2:=hideN D2
  have HK7:=hideN K7
  have HF7:=hideN F7
  have HT47:=hideN T47
  have HV7:=hideN V7
  have HX7:=hideN X7
  have HK7L:=hideN K7.lt
  have e2:=V6.c2
  have v5:=V5.c1
  have v5z:=V5.fz 1
  unfold eS at HD2
  clear D2 K7 F7 T47 V7 X7 O7 V6 X6 V5 X5 TR t6 b7 g7 hz hu hu2 hu3 s45 s56 s67 hs4 vc1 vc2 kc3 hpl
  go_wp2_with fail
  refine HD2.out.mono ?_
  rintro e W8 ⟨y2,rfl,TR⟩
  have TR : Trn B 9 W7 W8 (.slice a2 L2 c2) y2 (strs (n.vs.take at_ ++ eS :: n.vs.drop at_)):=TR
  have hz:=HSZ.out
  have hu:=HH.out.k.lt
  have hu2:=HH.out.v.lt
  have hu3:=HH.out.d.lt
  have hpl:=HPLE.out
  have s4:=HT4.out.size
  have s7:=HT47.out.size
  have hs4 : W1.heap.size < W4.heap.size:=HX4.out.lt
  have hl6 : (n.vs.take at_ ++ eS :: n.vs.drop at_).length = L2 + 1:=by
   have:=HVL.out
   rw [List.length_append,List.length_cons,List.length_take,List.length_drop,hL2.out]; omega
  obtain ⟨x6,z6,rfl⟩:=TR.ow.long
  obtain ⟨q6,hq6⟩:=exN ((strs (n.vs.take at_ ++ eS :: n.vs.drop at_)).length)
  rw [hq6] at TR
  rw [hq6]
  have hq6' : q6 = L2 + 1:=by rw [<- hq6,zh9,hl6]
  obtain ⟨g,o,rfl,ck8⟩:=TR.ow.rd.at (i:=at_) (c:=.string eS) (by
   have:=HVL.out
   rw [zgj9,List.getElem?_append_right (by rw [List.length_take]; omega),List.length_take,zh9,hL2.out]
   rw [show at_ - min at_ L2 = 0 by omega]; rfl)
  have V8:=HV7.out.tch TR.tc (fun e => by have:=hu2 _ e; omega)
  have X8:=HX7.out.tch TR.tc (fun e => by have:=hu2 _ e; omega)
  obtain ⟨W9,hW9⟩:=exN (W8.setCell ⟨w.heap.size,2,none⟩ (.slice (some ⟨g,o,none⟩) q6 z6))
  have V9 : Nb W9 93 w.heap.size lf (.slice x5 q5 z5) (.slice (some ⟨g,o,none⟩) q6 z6) (.slice a3 L3 c3):=by rw [<- hW9]; exact V8.s2 _
  have t9 : Tch (fun k => k = w.heap.size) W8 W9:=by rw [<- hW9]; exact Tch.setCell (S:=fun k => k = w.heap.size) (Tch.refl _ _) (p:=⟨w.heap.size,2,none⟩) (fun _ => rfl) _
  have X9:=X8.tch t9 (by show ¬ W1.heap.size = w.heap.size; omega)
  have T79 : Tch (fun k => k = w.heap.size ∨ (Value.slice a2 L2 c2).ownBlock = some k) W7 W9:=(TR.tc.mono (fun k _ e => .inr e)).trans t9 (fun k _ e => .inl e)
  have T9 : Tch (fun k => (Value.slice a1 L1 c1).ownBlock = some k ∨ (Value.slice a2 L2 c2).ownBlock = some k) w W9:=((HT4.out.mono (fun _ _ e => e.elim)).trans HT47.out (fun y hy e => e.elim (fun e => by omega) .inl)).trans T79 (fun y hy e => e.elim (fun e => by omega) .inr)
  have D9 : OwV B 3 W9 (.slice a3 L3 c3) (nums n.kd):=by
   refine (HO4.out.d.tch HT47.out (fun j hj e => e.elim (fun e => by have:=hu3 j hj; omega) (fun e => HO4.out.k.apart HO4.out.d (by decide) e hj))).tch T79 (fun j hj e => e.elim (fun e => by have:=hu3 j hj; omega) (fun e => HO4.out.v.apart HO4.out.d (by decide) e hj))
  have ap9 : ∀ j,(Value.slice x5 q5 z5).ownBlock = some j -> (Value.slice (some ⟨g,o,none⟩) q6 z6).ownBlock ≠ some j:=fun j h1 h2 => by
   have l5:=HK7L.out j h1
   rcases TR.fs j h2 with q | q
   ·rcases HF7.out j h1 with r | r
    ·exact HO4.out.ap j r q
    ·have:=hu2 j q; omega
   ·omega
  have K9:=HK7.out.tch T79 (fun j hj e => by
   rcases HF7.out j hj with r | r
   ·exact e.elim (fun e => by have:=hu j r; omega) (fun e => HO4.out.ap j r e)
   ·exact e.elim (fun e => by omega) (fun e => by have:=hu2 j e; omega))
  have U9 : OwV B 9 W9 (.slice (some ⟨g,o,none⟩) q6 z6) (strs (n.vs.take at_ ++ eS :: n.vs.drop at_)):=TR.ow.tch t9 (fun j hj e => (TR.fs j hj).elim (fun q => by have:=hu2 j q; omega) (fun q => by omega))
  have fs9 : ∀ j,(Value.slice (some ⟨g,o,none⟩) q6 z6).ownBlock = some j -> (Value.slice a2 L2 c2).ownBlock = some j ∨ W1.heap.size < j:=fun j hj => (TR.fs j hj).imp id (fun e => by omega)
  have ck9 : W9.cell? ⟨g,o + at_,none⟩ = some (.string eS):=by
   rw [t9.cell (p:=⟨g,o + at_,none⟩) (World.block_lt_of_cell? W8 ⟨g,o + at_,none⟩ ck8) (fun e => (fs9 g rfl).elim (fun q => by have:=hu2 g q; have e : g = w.heap.size:=e; omega) (fun q => by have e : g = w.heap.size:=e; omega))]; exact ck8
  have v8:=V8.c2
  have v8z:=V8.fz 2
  obtain ⟨WB,hWB⟩:=exN (W9.setCell ⟨g,o + at_,none⟩ (.string val))
  have tB : Tch (fun k => k = g) W9 WB:=by rw [<- hWB]; exact Tch.setCell (S:=fun k => k = g) (Tch.refl _ _) (p:=⟨g,o + at_,none⟩) (fun _ => rfl) _
  have UB : OwV B 9 WB (.slice (some ⟨g,o,none⟩) q6 z6) (strs ((n.vs.take at_ ++ (eS :: n.vs.drop at_)).set at_ val)):=by
   rw [zgk9,<- hWB]
   exact U9.put1 (by rw [zh9,hl6]; have:=HVL.out; omega) _
  have hgf : ((Value.slice a2 L2 c2).ownBlock = some g) ∨ W1.heap.size < g:=fs9 g rfl
  have hgw : g ≠ w.heap.size:=fun e => hgf.elim (fun q => by have:=hu2 g q; omega) (fun q => by omega)
  have hg1 : g ≠ W1.heap.size:=fun e => hgf.elim (fun q => by have:=hu2 g q; omega) (fun q => by omega)
  have VB:=V9.tch tB (by exact fun e => hgw e.symm)
  have XB:=X9.tch tB (by exact fun e => hg1 e.symm)
  have KB:=K9.tch tB (fun j hj e => by subst e; exact ap9 j hj rfl)
  have DB:=D9.tch tB (fun j hj e => by subst e; exact U9.apart D9 (by decide) rfl hj)
  have TB : Tch (fun k => (Value.slice a1 L1 c1).ownBlock = some k ∨ (Value.slice a2 L2 c2).ownBlock = some k) w WB:=T9.trans tB (fun y hy e => by subst e; exact hgf.elim .inr (fun q => by omega))
  obtain ⟨WA,hWA,hld,hfin⟩:=HEND.out { n with ks:=n.ks.take at_ ++ (key :: n.ks.drop at_),vs:=(n.vs.take at_ ++ (eS :: n.vs.drop at_)).set at_ val } WB (.slice x5 q5 z5) (.slice (some ⟨g,o,none⟩) q6 z6) hlf.out HD.out.symm ⟨KB,UB,DB,ap9⟩ XB TB (fun j hj => by
   rcases hj with e | e
   ·exact (HF7.out j e).imp .inl id
   ·exact (fs9 j e).imp .inr id)
  have HLD:=hideN hld
  have HFIN:=hideN hfin
  have vvc:=HVC.out W9 T9
  have wb0:=VB.c0
  have wb1:=VB.c1
  have wb2:=VB.c2
  have wb3:=VB.c3
  have vw2:=V9.c2
  have zzf:=U9.fz1 (o + at_)
  have xc0:=XB.c0
  have xc1:=XB.c1
  have xc2:=XB.c2
  have xc3:=XB.c3
  have xz0:=XB.fz 0
  have xz1:=XB.fz 1
  have xz2:=XB.fz 2
  have xz3:=XB.fz 3
  have iL : at_ < q6:=by have:=HVL.out; omega
  have i0 : (0 : Int) <= (at_ : Int):=by omega
  have i1 : (at_ : Int) < (q6 : Int):=by omega
  clear hld hfin tB UB hgf hgw hg1 VB XB KB DB TB HEND hu hu2 hu3 hz TR V8 X8 V9 X9 t9 T79 T9 D9 ap9 K9 U9 fs9 hl6 hq6 hq6' hpl s4 s7 hs4 ck8
  go_wp2_with fail
  try rw [hWA]
  refine bodyPost_ret (v:=nod lf (.slice x5 q5 z5) (.slice (some ⟨g,o,none⟩) q6 z6) (.slice a3 L3 c3)) (zat9 (p:=4) (ty:=93) rfl _ _ _ W1.heap.size _ rfl HLD.out) rfl ?_
  exact HFIN.out
 ·have hth':=hth.out
  rw [decide_eq_true_iff] at hth'
  have hlt : at_ < L1:=hth'.1
  have HD : Hid (insL key val n = { n with vs:=n.vs.set at_ val }):=by
   show insL key val n = _
   unfold insL
   simp only [hL1.out,hat.out]
   rw [if_pos hth']
  have hu:=HH.out.k.lt
  have hu2:=HH.out.v.lt
  have hu3:=HH.out.d.lt
  have hl2 : at_ < n.vs.length:=by rw [hL2.out,HVL.out]; exact hlt
  obtain ⟨g,o,rfl,ck3⟩:=O3.v.rd.at (i:=at_) (c:=.string (n.vs.getD at_ eS)) (by rw [strs,List.getElem?_map,List.getElem?_eq_getElem hl2,zn3,List.getElem?_eq_getElem hl2]; rfl)
  have T3' : Tch (fun k => (Value.slice a1 L1 c1).ownBlock = some k ∨ (Value.slice (some ⟨g,o,none⟩) L2 c2).ownBlock = some k) w W3:=T3.mono (fun _ _ e => e.elim)
  have F3 : ∀ j,(Value.slice a1 L1 c1).ownBlock = some j -> (Value.slice a1 L1 c1).ownBlock = some j ∨ W1.heap.size < j:=fun j hj => .inl hj
  have fs3 : ∀ j,(Value.slice (some ⟨g,o,none⟩) L2 c2).ownBlock = some j -> (Value.slice (some ⟨g,o,none⟩) L2 c2).ownBlock = some j ∨ W1.heap.size < j:=fun j hj => .inl hj
  obtain ⟨WB,hWB⟩:=exN (W3.setCell ⟨g,o + at_,none⟩ (.string val))
  have tB : Tch (fun k => k = g) W3 WB:=by rw [<- hWB]; exact Tch.setCell (S:=fun k => k = g) (Tch.refl _ _) (p:=⟨g,o + at_,none⟩) (fun _ => rfl) _
  have UB : OwV B 9 WB (.slice (some ⟨g,o,none⟩) L2 c2) (strs (n.vs.set at_ val)):=by
   rw [zgk9,<- hWB]
   exact O3.v.put1 (by rw [zh9]; exact hl2) _
  have hgf : ((Value.slice (some ⟨g,o,none⟩) L2 c2).ownBlock = some g) ∨ W1.heap.size < g:=fs3 g rfl
  have hgw : g ≠ w.heap.size:=fun e => hgf.elim (fun q => by have:=hu2 g q; omega) (fun q => by omega)
  have hg1 : g ≠ W1.heap.size:=fun e => hgf.elim (fun q => by have:=hu2 g q; omega) (fun q => by omega)
  have VB:=V3.tch tB (by exact fun e => hgw e.symm)
  have XB:=X3.tch tB (by exact fun e => hg1 e.symm)
  have KB:=O3.k.tch tB (fun j hj e => by subst e; exact O3.ap j hj rfl)
  have DB:=O3.d.tch tB (fun j hj e => by subst e; exact O3.v.apart O3.d (by decide) rfl hj)
  have TB : Tch (fun k => (Value.slice a1 L1 c1).ownBlock = some k ∨ (Value.slice (some ⟨g,o,none⟩) L2 c2).ownBlock = some k) w WB:=T3'.trans tB (fun y hy e => by subst e; exact hgf.elim .inr (fun q => by omega))
  obtain ⟨WA,hWA,hld,hfin⟩:=HEND.out { n with vs:=n.vs.set at_ val } WB (.slice a1 L1 c1) (.slice (some ⟨g,o,none⟩) L2 c2) hlf.out HD.out.symm ⟨KB,UB,DB,O3.ap⟩ XB TB (fun j hj => by
   rcases hj with e | e
   ·exact (F3 j e).imp .inl id
   ·exact (fs3 j e).imp .inr id)
  have HLD:=hideN hld
  have HFIN:=hideN hfin
  have vvc:=HVC.out W3 T3'
  have wb0:=VB.c0
  have wb1:=VB.c1
  have wb2:=VB.c2
  have wb3:=VB.c3
  have vw2:=V3.c2
  have zzf:=O3.v.fz1 (o + at_)
  have xc0:=XB.c0
  have xc1:=XB.c1
  have xc2:=XB.c2
  have xc3:=XB.c3
  have xz0:=XB.fz 0
  have xz1:=XB.fz 1
  have xz2:=XB.fz 2
  have xz3:=XB.fz 3
  have iL : at_ < L2:=by have:=HVL.out; omega
  have i0 : (0 : Int) <= (at_ : Int):=by omega
  have i1 : (at_ : Int) < (L2 : Int):=by omega
  clear hld hfin tB UB hgf hgw hg1 VB XB KB DB TB HEND hu hu2 hu3 hz V3 X3 O3 T3 T3' F3 fs3 hl2 hth'
  go_wp2_with fail
  try rw [hWA]
  refine bodyPost_ret (v:=nod lf (.slice a1 L1 c1) (.slice (some ⟨g,o,none⟩) L2 c2) (.slice a3 L3 c3)) (zat9 (p:=4) (ty:=93) rfl _ _ _ W1.heap.size _ rfl HLD.out) rfl ?_
  exact HFIN.out
end
end Go.Proofs.YtjhccpijpffahaaGreat
