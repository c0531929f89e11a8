import Derived.Test.YtobenjkacpipeaaGreatPMRunP
import Derived.Test.YtobenjkacpipeaaGreatPMBest
set_option maxRecDepth 100000
set_option linter.unusedVariables false
set_option linter.unusedSimpArgs false
set_option maxHeartbeats 8000000
namespace Go.Proofs.YtobenjkacpipeaaGreat
open Go.RowKit Pl
theorem zpd9 {ds : List Int} {ps : List Sq} {k at_ : Nat} {out : List Int} (hk : k < ps.length) (h : lt_ ds ps k = some (at_, out)) (hb : (ps.getD k sq0).1 < 0 ∨ (ps.getD k sq0).2.1 < 0 ∨ (ps.getD k sq0).2.2 < 0 ∨ (ds.length : Int) - (at_ : Int) < (ps.getD k sq0).1 ∨ (ds.length : Int) - (at_ : Int) - (ps.getD k sq0).1 < (ps.getD k sq0).2.1) : litR ds ps = (5, []) := by
 have h1 : lt_ ds ps (k + 1) = none := by
  simp only [lt_]
  rw [h]
  exact if_pos hb
 unfold litR
 rw [zzy9 h1 hk]
theorem zut9 {ds : List Int} {ps : List Sq} {k at_ : Nat} {out : List Int} (h : lt_ ds ps k = some (at_, out)) (hb : ¬ ((ps.getD k sq0).1 < 0 ∨ (ps.getD k sq0).2.1 < 0 ∨ (ps.getD k sq0).2.2 < 0 ∨ (ds.length : Int) - (at_ : Int) < (ps.getD k sq0).1 ∨ (ds.length : Int) - (at_ : Int) - (ps.getD k sq0).1 < (ps.getD k sq0).2.1)) :
  lt_ ds ps (k + 1) = some (at_ + (ps.getD k sq0).1.toNat + (ps.getD k sq0).2.1.toNat, out ++ (ds.drop at_).take (ps.getD k sq0).1.toNat) := by
 simp only [lt_]
 rw [h]
 exact if_neg hb
set_option maxRecDepth 100000 in
theorem zkx9 (v1 v2 : Value) (ds : List Int) (ps : List Sq) (w : World) (h1 : Rd .u8 w v1 ds) (hl : ds.length <= 140737488351232) (h2 : RdS w v2 ps) (hp : ps.length <= 140737488355328) :
  Calls Tryz.prog 26 #[v1, v2] w fun e w' => BPost (litR ds ps) w e w' := by
 obtain ⟨R, hR⟩ : ∃ R, Hid (litR ds ps = R) := ⟨_, rfl⟩
 rw [hR.out]
 have H1 : Hid (Rd .u8 w v1 ds) := h1
 obtain ⟨la, lc, rfl, _, _, _, _⟩ := h1
 obtain ⟨pa, pc, rfl, _, _, q2⟩ := h2
 have C2 : Hid (ps = [] ∨ ∃ b o, pa = some ⟨b, o, none⟩ /\ ∀ i, i < ps.length -> w.cell? ⟨b, o + i * 3, none⟩ = some (.int .i64 (ps.getD i sq0).1) /\ w.cell? ⟨b, o + i * 3 + 1, none⟩ = some (.int .i64 (ps.getD i sq0).2.1) /\ w.cell? ⟨b, o + i * 3 + 2, none⟩ = some (.int .i64 (ps.getD i sq0).2.2)) := q2
 clear q2
 go_enter Tryz.func26, Tryz.ntmps26
 go_wp2_with fail
 go_loopw [6, 7, 13] (fun ov lv i wr => ∃ (k at_ : Nat) (out : List Int), k <= ps.length /\ i = .int .i64 k /\ at_ <= ds.length /\ out.length <= at_ /\ Hid (lt_ ds ps k = some (at_, out)) /\ Hid (Rd .u8 w lv (ds.drop at_)) /\ Hid (Owns .u8 5 wr ov out) /\ Hid (Below w.heap.size w wr) /\ Hid (∀ j, ov.ownBlock = some j -> w.heap.size <= j)) (fun _ _ i _ => ps.length - (intOf i).toNat)
 case atStart => exact ⟨0, 0, [], Nat.zero_le _, rfl, Nat.zero_le _, Nat.zero_le _, rfl, by show Rd _ _ _ _; rw [List.drop_zero]; exact H1.out, zf9 _ _ _, Below.refl _ _, fun j e => by cases e⟩
 case round =>
  obtain ⟨k, at_, out, hk, rfl, hat, hout, HLT, HLV, HO, HB, HN⟩ := hrel
  obtain ⟨La, Lc, hLv⟩ : ∃ a c, u7 = .slice a (ds.length - at_) c := by obtain ⟨a, c, e, _⟩ := HLV.out; rw [List.length_drop] at e; exact ⟨a, c, e⟩
  subst hLv
  obtain ⟨lf, hlf⟩ : ∃ lf, Hid (ds.length - at_ = lf) := ⟨_, rfl⟩
  have hlfI : (lf : Int) = (ds.length : Int) - (at_ : Int) := by rw [<- hlf.out]; omega
  have HLFI : Hid ((lf : Int) = (ds.length : Int) - (at_ : Int)) := hlfI
  have hlf2 : lf + at_ = ds.length := by omega
  clear hlfI
  rw [hlf.out] at HLV ⊢
  obtain ⟨Oa, Oc, hOv⟩ : ∃ a c, u6 = .slice a out.length c := by obtain ⟨a, c, e, _⟩ := HO.out.rd; exact ⟨a, c, e⟩
  subst hOv
  have HLL : Hid ((ds.drop at_).length = ds.length - at_) := List.length_drop
  by_cases hlt : k < ps.length
  ·obtain ⟨b, o, ha, hc⟩ : ∃ b o, pa = some ⟨b, o, none⟩ /\ ∀ i, i < ps.length -> w.cell? ⟨b, o + i * 3, none⟩ = some (.int .i64 (ps.getD i sq0).1) /\ w.cell? ⟨b, o + i * 3 + 1, none⟩ = some (.int .i64 (ps.getD i sq0).2.1) /\ w.cell? ⟨b, o + i * 3 + 2, none⟩ = some (.int .i64 (ps.getD i sq0).2.2) := by
    rcases C2.out with h | h
    ·rw [h] at hlt; simp at hlt
    ·exact h
   subst ha
   obtain ⟨⟨x, y, z⟩, hX⟩ : ∃ X, Hid (ps.getD k sq0 = X) := ⟨_, rfl⟩
   obtain ⟨c0, c1, c2⟩ := hc k hlt
   rw [hX.out] at c0 c1 c2
   have hbw := World.block_lt_of_cell? w _ c0
   rw [<- HB.out.cell (p := ⟨b, o + k * 3, none⟩) hbw] at c0
   rw [<- HB.out.cell (p := ⟨b, o + k * 3 + 1, none⟩) hbw] at c1
   rw [<- HB.out.cell (p := ⟨b, o + k * 3 + 2, none⟩) hbw] at c2
   have hbr : b < wr.heap.size := Nat.lt_of_lt_of_le hbw HB.out.size
   have HBAD : Hid (x < 0 ∨ y < 0 ∨ z < 0 ∨ (ds.length : Int) - (at_ : Int) < x ∨ (ds.length : Int) - (at_ : Int) - x < y -> R = (5, [])) := fun h => by
    rw [<- hR.out]
    exact zpd9 hlt HLT.out (by rw [hX.out]; exact h)
   obtain ⟨wS, hwS⟩ : ∃ wS, Hid (wr.alloc (.cells #[.int .i64 x, .int .i64 y, .int .i64 z] 55) = wS) := ⟨_, rfl⟩
   have bS : Below wr.heap.size wr wS := by rw [<- hwS.out]; exact (Below.refl _ _).alloc (Nat.le_refl _) _
   have HBS : Hid (Below w.heap.size w wS) := HB.out.trans (bS.mono HB.out.size)
   have HOS : Hid (Owns .u8 5 wS (.slice Oa out.length Oc) out) := HO.out.below bS
   have HBSa : Hid (Below w.heap.size w (wr.alloc (.cells #[.int .i64 x, .int .i64 y, .int .i64 z] 55))) := by show Below _ _ _; rw [hwS.out]; exact HBS.out
   have hblk : wS.heap[wr.heap.size]? = some (.cells #[.int .i64 x, .int .i64 y, .int .i64 z] 55 (0, 0)) := by rw [<- hwS.out]; exact heap_alloc_new wr _
   obtain ⟨S, hS⟩ : ∃ S, Hid (wr.heap.size = S) := ⟨_, rfl⟩
   rw [hS.out] at hblk
   have HBK : Hid (wS.heap[S]? = some (.cells #[.int .i64 x, .int .i64 y, .int .i64 z] 55 (0, 0))) := hblk
   clear hc hbw bS hblk
   by_cases h1 : x < 0
   ·have HE : Hid (R = (5, [])) := HBAD.out (.inl h1)
    go_wp2_with fail
    go_ret2
    rw [HE.out]
    exact BPost.bad HBSa.out
   have g1 : decide (x < 0) = false := by rw [decide_eq_false_iff_not]; exact h1
   by_cases h2 : y < 0
   ·have HE : Hid (R = (5, [])) := HBAD.out (.inr (.inl h2))
    go_wp2_with fail
    go_ret2
    rw [HE.out]
    exact BPost.bad HBSa.out
   have g2 : decide (y < 0) = false := by rw [decide_eq_false_iff_not]; exact h2
   by_cases h3 : z < 0
   ·have HE : Hid (R = (5, [])) := HBAD.out (.inr (.inr (.inl h3)))
    go_wp2_with fail
    go_ret2
    rw [HE.out]
    exact BPost.bad HBSa.out
   have g3 : decide (z < 0) = false := by rw [decide_eq_false_iff_not]; exact h3
   by_cases h4 : (lf : Int) < x
   ·have HE : Hid (R = (5, [])) := HBAD.out (.inr (.inr (.inr (.inl (by omega)))))
    go_wp2_with fail
    go_ret2
    rw [HE.out]
    exact BPost.bad HBSa.out
   have g4 : decide ((lf : Int) < x) = false := by rw [decide_eq_false_iff_not]; exact h4
   by_cases h5 : (lf : Int) - x < y
   ·have HE : Hid (R = (5, [])) := HBAD.out (.inr (.inr (.inr (.inr (by omega)))))
    go_wp2_with fail
    go_ret2
    rw [HE.out]
    exact BPost.bad HBSa.out
   have g5 : decide ((lf : Int) - x < y) = false := by rw [decide_eq_false_iff_not]; exact h5
   obtain ⟨X, rfl⟩ := Int.eq_ofNat_of_zero_le (show 0 <= x by omega)
   obtain ⟨Y, rfl⟩ := Int.eq_ofNat_of_zero_le (show 0 <= y by omega)
   have hfit : at_ + X + Y <= ds.length := by omega
   have HLT2 : Hid (lt_ ds ps (k + 1) = some (at_ + X + Y, out ++ (ds.drop at_).take X)) := by
    show _ = _
    have := zut9 HLT.out (by rw [hX.out]; show ¬ ((X : Int) < 0 ∨ (Y : Int) < 0 ∨ z < 0 ∨ (ds.length : Int) - (at_ : Int) < (X : Int) ∨ (ds.length : Int) - (at_ : Int) - (X : Int) < (Y : Int)); omega)
    rw [hX.out] at this
    exact this
   clear h1 h2 h3 h4 h5 HBAD HLT HBSa
   go_wp2_with (refine zgh9 _ w rfl (.tmp 46) (.tmp 48) rfl (.slice La lf Lc) (ds.drop at_) rfl HLV.out X rfl (by rw [HLL.out]; omega) ?_)
   intro v5 hv5
   rw [hwS.out, hS.out]
   have HV5 : Hid (Rd .u8 wS v5 ((ds.drop at_).take X)) := hv5.below HBS.out
   have HVL : Hid (((ds.drop at_).take X).length <= X) := by show _ <= _; rw [List.length_take]; omega
   clear hv5 c0 c1 c2
   go_wp2_with (at_builtin; refine zb9 _ rfl (.tmp 45) (.tmp 49) 22 rfl 5 .u8 1 elem8 (.slice Oa out.length Oc) out rfl HOS.out v5 ((ds.drop at_).take X) rfl HV5.out (by have := HVL.out; omega) (by have := HVL.out; omega) ?_)
   intro v6 w6 ho6 hg6
   obtain ⟨b6, n6⟩ := hg6.onto HBS.out HN.out
   have O6 : Hid (Owns .u8 5 w6 v6 (out ++ (ds.drop at_).take X)) := ho6
   have B6 : Hid (Below w.heap.size w w6) := b6
   have N6 : Hid (∀ j, v6.ownBlock = some j -> w.heap.size <= j) := n6
   have HK6 : Hid (w6.heap[S]? = some (.cells #[.int .i64 (X : Int), .int .i64 (Y : Int), .int .i64 z] 55 (0, 0))) := by
    show _ = _
    rw [hg6.tch.block S (Array.getElem?_eq_some_iff.1 HBK.out).1 (fun e => by
     obtain ⟨cur, hcur⟩ := zv9 (w := wS) HOS.out e
     rw [HBK.out] at hcur
     simp at hcur)]
    exact HBK.out
   have e0 : w6.cell? ⟨S, 0, none⟩ = some (.int .i64 (X : Int)) := by rw [cell_of_row w6 S 0 _ _ (0, 0) HK6.out]; rfl
   have e1 : w6.cell? ⟨S, 1, none⟩ = some (.int .i64 (Y : Int)) := by rw [cell_of_row w6 S 1 _ _ (0, 0) HK6.out]; rfl
   have HOL : Hid ((out ++ (ds.drop at_).take X).length <= at_ + X + Y) := by show _ <= _; rw [List.length_append]; have := HVL.out; omega
   clear ho6 hg6 b6 n6 HBK HOS HBS HV5 HVL HN HO HB
   obtain ⟨Z, hZ⟩ : ∃ Z, Hid (X + Y = Z) := ⟨_, rfl⟩
   have hXY : (X : Int) + (Y : Int) = (Z : Int) := by rw [<- hZ.out]; omega
   go_wp2_with (refine zdq9 _ w rfl (.tmp 51) (.tmp 56) rfl (.slice La lf Lc) (ds.drop at_) rfl HLV.out Z rfl (by rw [HLL.out, <- hZ.out]; omega) ?_)
   intro v7 hv7
   have HV7 : Hid (Rd .u8 w v7 (ds.drop (at_ + X + Y))) := by
    show Rd _ _ _ _
    have e : at_ + X + Y = at_ + Z := by rw [<- hZ.out]; omega
    rw [e]
    first | exact hv7 | (rw [<- List.drop_drop]; exact hv7)
   clear hv7
   go_wp2_with fail
   go_roundw
   case rel => exact ⟨k + 1, at_ + X + Y, _, by omega, by go_num, hfit, HOL.out, HLT2, HV7, O6, B6, N6⟩
   case measure => simp [intOf]; omega
  ·obtain rfl : k = ps.length := by omega
   have HE : Hid (R = (0, out ++ ds.drop at_)) := by
    show R = _
    rw [<- hR.out]
    unfold litR
    rw [HLT.out]
   have HVW : Hid (Rd .u8 wr (.slice La lf Lc) (ds.drop at_)) := HLV.out.below HB.out
   go_wp2_with (at_builtin; refine zb9 _ rfl (.tmp 59) (.tmp 60) 22 rfl 5 .u8 1 elem8 (.slice Oa out.length Oc) out rfl HO.out (.slice La lf Lc) (ds.drop at_) rfl HVW.out (by have := HLL.out; omega) (by have := HLL.out; omega) ?_)
   intro v6 w6 ho6 hg6
   obtain ⟨b6, n6⟩ := hg6.onto HB.out HN.out
   have O6 : Hid (Owns .u8 5 w6 v6 (out ++ ds.drop at_)) := ho6
   have B6 : Hid (Below w.heap.size w w6) := b6
   have N6 : Hid (∀ j, v6.ownBlock = some j -> w.heap.size <= j) := n6
   clear ho6 hg6 b6 n6
   go_wp2_with fail
   go_ret2
   rw [HE.out]
   exact ⟨_, rfl, B6.out, N6.out, O6.out⟩
set_option maxRecDepth 100000 in
theorem zbh9 (v1 v2 : Value) (ds : List Int) (ps : List Sq) (w : World) (h1 : Rd .u8 w v1 ds) (hl : ds.length <= 140737488351232) (h2 : RdS w v2 ps) (hp : ps.length <= 140737488355328) :
  Calls Tryz.prog 18 #[v1, v2] w fun e w' => BPost (litR ds ps) w e w' := by
 obtain ⟨R, hR⟩ : ∃ R, Hid (litR ds ps = R) := ⟨_, rfl⟩
 rw [hR.out]
 have H1 : Hid (Rd .u8 w v1 ds) := h1
 obtain ⟨la, lc, rfl, _, _, _, _⟩ := h1
 obtain ⟨pa, pc, rfl, _, _, q2⟩ := h2
 have C2 : Hid (ps = [] ∨ ∃ b o, pa = some ⟨b, o, none⟩ /\ ∀ i, i < ps.length -> w.cell? ⟨b, o + i * 3, none⟩ = some (.int .i64 (ps.getD i sq0).1) /\ w.cell? ⟨b, o + i * 3 + 1, none⟩ = some (.int .i64 (ps.getD i sq0).2.1) /\ w.cell? ⟨b, o + i * 3 + 2, none⟩ = some (.int .i64 (ps.getD i sq0).2.2)) := q2
 clear q2
 go_enter Tryz.func18, Tryz.ntmps18
 go_wp2_with fail
 go_loopw [6, 7, 8] (fun ov lv i wr => ∃ (k at_ : Nat) (out : List Int), k <= ps.length /\ i = .int .i64 k /\ at_ <= ds.length /\ out.length <= at_ /\ Hid (lt_ ds ps k = some (at_, out)) /\ lv = .int .i64 (at_ : Int) /\ Hid (Owns .u8 5 wr ov out) /\ Hid (Below w.heap.size w wr) /\ Hid (∀ j, ov.ownBlock = some j -> w.heap.size <= j)) (fun _ _ i _ => ps.length - (intOf i).toNat)
 case atStart => exact ⟨0, 0, [], Nat.zero_le _, rfl, Nat.zero_le _, Nat.zero_le _, rfl, rfl, zf9 _ _ _, Below.refl _ _, fun j e => by cases e⟩
 case round =>
  obtain ⟨k, at_, out, hk, rfl, hat, hout, HLT, rfl, HO, HB, HN⟩ := hrel
  obtain ⟨Oa, Oc, hOv⟩ : ∃ a c, u6 = .slice a out.length c := by obtain ⟨a, c, e, _⟩ := HO.out.rd; exact ⟨a, c, e⟩
  subst hOv
  have HLL : Hid ((ds.drop at_).length = ds.length - at_) := List.length_drop
  by_cases hlt : k < ps.length
  ·obtain ⟨b, o, ha, hc⟩ : ∃ b o, pa = some ⟨b, o, none⟩ /\ ∀ i, i < ps.length -> w.cell? ⟨b, o + i * 3, none⟩ = some (.int .i64 (ps.getD i sq0).1) /\ w.cell? ⟨b, o + i * 3 + 1, none⟩ = some (.int .i64 (ps.getD i sq0).2.1) /\ w.cell? ⟨b, o + i * 3 + 2, none⟩ = some (.int .i64 (ps.getD i sq0).2.2) := by
    rcases C2.out with h | h
    ·rw [h] at hlt; simp at hlt
    ·exact h
   subst ha
   obtain ⟨⟨x, y, z⟩, hX⟩ : ∃ X, Hid (ps.getD k sq0 = X) := ⟨_, rfl⟩
   obtain ⟨c0, c1, c2⟩ := hc k hlt
   rw [hX.out] at c0 c1 c2
   have hbw := World.block_lt_of_cell? w _ c0
   rw [<- HB.out.cell (p := ⟨b, o + k * 3, none⟩) hbw] at c0
   rw [<- HB.out.cell (p := ⟨b, o + k * 3 + 1, none⟩) hbw] at c1
   rw [<- HB.out.cell (p := ⟨b, o + k * 3 + 2, none⟩) hbw] at c2
   have hbr : b < wr.heap.size := Nat.lt_of_lt_of_le hbw HB.out.size
   have HBAD : Hid (x < 0 ∨ y < 0 ∨ z < 0 ∨ (ds.length : Int) - (at_ : Int) < x ∨ (ds.length : Int) - (at_ : Int) - x < y -> R = (5, [])) := fun h => by
    rw [<- hR.out]
    exact zpd9 hlt HLT.out (by rw [hX.out]; exact h)
   obtain ⟨wS, hwS⟩ : ∃ wS, Hid (wr.alloc (.cells #[.int .i64 x, .int .i64 y, .int .i64 z] 55) = wS) := ⟨_, rfl⟩
   have bS : Below wr.heap.size wr wS := by rw [<- hwS.out]; exact (Below.refl _ _).alloc (Nat.le_refl _) _
   have HBS : Hid (Below w.heap.size w wS) := HB.out.trans (bS.mono HB.out.size)
   have HOS : Hid (Owns .u8 5 wS (.slice Oa out.length Oc) out) := HO.out.below bS
   have HBSa : Hid (Below w.heap.size w (wr.alloc (.cells #[.int .i64 x, .int .i64 y, .int .i64 z] 55))) := by show Below _ _ _; rw [hwS.out]; exact HBS.out
   have hblk : wS.heap[wr.heap.size]? = some (.cells #[.int .i64 x, .int .i64 y, .int .i64 z] 55 (0, 0)) := by rw [<- hwS.out]; exact heap_alloc_new wr _
   obtain ⟨S, hS⟩ : ∃ S, Hid (wr.heap.size = S) := ⟨_, rfl⟩
   rw [hS.out] at hblk
   have HBK : Hid (wS.heap[S]? = some (.cells #[.int .i64 x, .int .i64 y, .int .i64 z] 55 (0, 0))) := hblk
   clear hc hbw bS hblk
   by_cases h1 : x < 0
   ·have HE : Hid (R = (5, [])) := HBAD.out (.inl h1)
    go_wp2_with fail
    go_ret2
    rw [HE.out]
    exact BPost.bad HBSa.out
   have g1 : decide (x < 0) = false := by rw [decide_eq_false_iff_not]; exact h1
   by_cases h2 : y < 0
   ·have HE : Hid (R = (5, [])) := HBAD.out (.inr (.inl h2))
    go_wp2_with fail
    go_ret2
    rw [HE.out]
    exact BPost.bad HBSa.out
   have g2 : decide (y < 0) = false := by rw [decide_eq_false_iff_not]; exact h2
   by_cases h3 : z < 0
   ·have HE : Hid (R = (5, [])) := HBAD.out (.inr (.inr (.inl h3)))
    go_wp2_with fail
    go_ret2
    rw [HE.out]
    exact BPost.bad HBSa.out
   have g3 : decide (z < 0) = false := by rw [decide_eq_false_iff_not]; exact h3
   by_cases h4 : (ds.length : Int) - (at_ : Int) < x
   ·have HE : Hid (R = (5, [])) := HBAD.out (.inr (.inr (.inr (.inl (by omega)))))
    go_wp2_with fail
    go_ret2
    rw [HE.out]
    exact BPost.bad HBSa.out
   have g4 : decide ((ds.length : Int) - (at_ : Int) < x) = false := by rw [decide_eq_false_iff_not]; exact h4
   by_cases h5 : (ds.length : Int) - (at_ : Int) - x < y
   ·have HE : Hid (R = (5, [])) := HBAD.out (.inr (.inr (.inr (.inr (by omega)))))
    go_wp2_with fail
    go_ret2
    rw [HE.out]
    exact BPost.bad HBSa.out
   have g5 : decide ((ds.length : Int) - (at_ : Int) - x < y) = false := by rw [decide_eq_false_iff_not]; exact h5
   obtain ⟨X, rfl⟩ := Int.eq_ofNat_of_zero_le (show 0 <= x by omega)
   obtain ⟨Y, rfl⟩ := Int.eq_ofNat_of_zero_le (show 0 <= y by omega)
   have hfit : at_ + X + Y <= ds.length := by omega
   have HLT2 : Hid (lt_ ds ps (k + 1) = some (at_ + X + Y, out ++ (ds.drop at_).take X)) := by
    show _ = _
    have := zut9 HLT.out (by rw [hX.out]; show ¬ ((X : Int) < 0 ∨ (Y : Int) < 0 ∨ z < 0 ∨ (ds.length : Int) - (at_ : Int) < (X : Int) ∨ (ds.length : Int) - (at_ : Int) - (X : Int) < (Y : Int)); omega)
    rw [hX.out] at this
    exact this
   clear h1 h2 h3 h4 h5 HBAD HLT HBSa
   go_wp2_with (refine zom9 _ w rfl (.tmp 55) (.tmp 56) (.tmp 60) rfl (.slice la ds.length lc) ds rfl H1.out at_ X rfl rfl (by omega) ?_)
   intro v5 hv5
   rw [hwS.out, hS.out]
   have HV5 : Hid (Rd .u8 wS v5 ((ds.drop at_).take X)) := hv5.below HBS.out
   have HVL : Hid (((ds.drop at_).take X).length <= X) := by show _ <= _; rw [List.length_take]; omega
   clear hv5 c0 c1 c2
   go_wp2_with (at_builtin; refine zb9 _ rfl (.tmp 54) (.tmp 61) 22 rfl 5 .u8 1 elem8 (.slice Oa out.length Oc) out rfl HOS.out v5 ((ds.drop at_).take X) rfl HV5.out (by have := HVL.out; omega) (by have := HVL.out; omega) ?_)
   intro v6 w6 ho6 hg6
   obtain ⟨b6, n6⟩ := hg6.onto HBS.out HN.out
   have O6 : Hid (Owns .u8 5 w6 v6 (out ++ (ds.drop at_).take X)) := ho6
   have B6 : Hid (Below w.heap.size w w6) := b6
   have N6 : Hid (∀ j, v6.ownBlock = some j -> w.heap.size <= j) := n6
   have HK6 : Hid (w6.heap[S]? = some (.cells #[.int .i64 (X : Int), .int .i64 (Y : Int), .int .i64 z] 55 (0, 0))) := by
    show _ = _
    rw [hg6.tch.block S (Array.getElem?_eq_some_iff.1 HBK.out).1 (fun e => by
     obtain ⟨cur, hcur⟩ := zv9 (w := wS) HOS.out e
     rw [HBK.out] at hcur
     simp at hcur)]
    exact HBK.out
   have e0 : w6.cell? ⟨S, 0, none⟩ = some (.int .i64 (X : Int)) := by rw [cell_of_row w6 S 0 _ _ (0, 0) HK6.out]; rfl
   have e1 : w6.cell? ⟨S, 1, none⟩ = some (.int .i64 (Y : Int)) := by rw [cell_of_row w6 S 1 _ _ (0, 0) HK6.out]; rfl
   have HOL : Hid ((out ++ (ds.drop at_).take X).length <= at_ + X + Y) := by show _ <= _; rw [List.length_append]; have := HVL.out; omega
   clear ho6 hg6 b6 n6 HBK HOS HBS HV5 HVL HN HO HB
   go_wp2_with fail
   go_roundw
   case rel => exact ⟨k + 1, at_ + X + Y, _, by omega, by go_num, hfit, HOL.out, HLT2, by go_num, O6, B6, N6⟩
   case measure => simp [intOf]; omega
  ·obtain rfl : k = ps.length := by omega
   have HE : Hid (R = (0, out ++ ds.drop at_)) := by
    show R = _
    rw [<- hR.out]
    unfold litR
    rw [HLT.out]
   go_wp2_with (refine zdq9 _ w rfl (.tmp 71) (.tmp 72) rfl (.slice la ds.length lc) ds rfl H1.out at_ rfl hat ?_)
   intro v5 hv5
   have HVW : Hid (Rd .u8 wr v5 (ds.drop at_)) := hv5.below HB.out
   clear hv5
   go_wp2_with (at_builtin; refine zb9 _ rfl (.tmp 70) (.tmp 73) 22 rfl 5 .u8 1 elem8 (.slice Oa out.length Oc) out rfl HO.out v5 (ds.drop at_) rfl HVW.out (by have := HLL.out; omega) (by have := HLL.out; omega) ?_)
   intro v6 w6 ho6 hg6
   obtain ⟨b6, n6⟩ := hg6.onto HB.out HN.out
   have O6 : Hid (Owns .u8 5 w6 v6 (out ++ ds.drop at_)) := ho6
   have B6 : Hid (Below w.heap.size w w6) := b6
   have N6 : Hid (∀ j, v6.ownBlock = some j -> w.heap.size <= j) := n6
   clear ho6 hg6 b6 n6
   go_wp2_with fail
   go_ret2
   rw [HE.out]
   exact ⟨_, rfl, B6.out, N6.out, O6.out⟩
theorem zqh9 (ds : List Int) (i : Nat) : ∀ d, (bst ds i d).1 = 0 ∨ (1 <= (bst ds i d).2 /\ (bst ds i d).2 <= d /\ 4 <= (bst ds i d).1 /\ (bst ds i d).1 = rn ds i (i - (bst ds i d).2) (ml ds i))
 | 0 => .inl rfl
 | d + 1 => by
  simp only [bst]
  split
  ·rename_i h
   right
   exact ⟨by simp, Nat.le_refl _, h.1, rfl⟩
  ·rcases zqh9 ds i d with h | ⟨h1, h2, h3, h4⟩
   ·exact .inl h
   ·exact .inr ⟨h1, by omega, h3, h4⟩
theorem zcd9 {ds : List Int} {W i : Nat} (h : 0 < (best ds W i).1) : 1 <= (best ds W i).2 /\ (best ds W i).2 <= i /\ (best ds W i).2 <= W /\ 4 <= (best ds W i).1 /\ i + (best ds W i).1 <= ds.length /\ ∀ j, j < (best ds W i).1 -> ds.getD (i + j) 0 = ds.getD (i - (best ds W i).2 + j) 0 := by
 have hb := zhs9 ds W i
 unfold best at h hb ⊢
 rcases zqh9 ds i (min W i) with h1 | ⟨h1, h2, h3, h4⟩
 ·omega
 ·refine ⟨h1, by omega, by omega, h3, by omega, fun j hj => ?_⟩
  rw [h4] at hj
  exact rn_eq ds i _ _ j hj
inductive SC (ds : List Int) (W : Nat) : List Sq -> Nat -> Prop
 | nil : SC ds W [] 0
 | snoc (ps : List Sq) (p l : Nat) : SC ds W ps p -> 0 < (best ds W (p + l)).1 -> SC ds W (ps ++ [((l : Int), ((best ds W (p + l)).1 : Int), ((best ds W (p + l)).2 : Int))]) (p + l + (best ds W (p + l)).1)
theorem fst_sc (ds : List Int) (W : Nat) : ∀ k, (fst_ ds W k).2.1 <= (fst_ ds W k).1 /\ (fst_ ds W k).1 <= ds.length /\ SC ds W (fst_ ds W k).2.2 ((fst_ ds W k).1 - (fst_ ds W k).2.1)
 | 0 => ⟨Nat.le_refl _, Nat.zero_le _, SC.nil⟩
 | k + 1 => by
  obtain ⟨h1, h2, h3⟩ := fst_sc ds W k
  simp only [fst_]
  split
  ·rename_i hlt
   split
   ·refine ⟨by simp only; omega, by simp only; omega, ?_⟩
    simp only
    rw [show (fst_ ds W k).1 + 1 - ((fst_ ds W k).2.1 + 1) = (fst_ ds W k).1 - (fst_ ds W k).2.1 by omega]
    exact h3
   ·rename_i hn
    have hb := zhs9 ds W (fst_ ds W k).1
    refine ⟨by simp only; omega, by simp only; omega, ?_⟩
    simp only
    have e : (fst_ ds W k).1 - (fst_ ds W k).2.1 + (fst_ ds W k).2.1 = (fst_ ds W k).1 := by omega
    have := SC.snoc (fst_ ds W k).2.2 _ (fst_ ds W k).2.1 h3 (by rw [e]; omega)
    rw [e] at this
    rw [Nat.sub_zero]
    exact this
  ·exact ⟨h1, h2, h3⟩
theorem sc_le {ds : List Int} {W : Nat} {ps : List Sq} {p : Nat} (h : SC ds W ps p) : p <= ds.length := by
 cases h with
 | nil => exact Nat.zero_le _
 | snoc ps p l h hp => exact (zcd9 hp).2.2.2.2.1
theorem zqa9 {ps qs : List Sq} {k : Nat} (h : k < ps.length) : (ps ++ qs).getD k sq0 = ps.getD k sq0 := by
 rw [List.getD_eq_getElem?_getD, List.getD_eq_getElem?_getD, List.getElem?_append_left h]
theorem getD_mid' (ps : List Sq) (x : Sq) : (ps ++ [x]).getD ps.length sq0 = x := by simp [List.getD_eq_getElem?_getD]
theorem lt_pre (ds : List Int) (ps qs : List Sq) : ∀ k, k <= ps.length -> lt_ ds (ps ++ qs) k = lt_ ds ps k
 | 0, _ => rfl
 | k + 1, h => by
  simp only [lt_]
  rw [lt_pre ds ps qs k (by omega), zqa9 (by omega)]
theorem rs_pre (ls : List Int) (ps qs : List Sq) (most : Int) : ∀ k, k <= ps.length -> rs ls (ps ++ qs) most k = rs ls ps most k
 | 0, _ => rfl
 | k + 1, h => by
  simp only [rs]
  rw [rs_pre ls ps qs most k (by omega), zqa9 (by omega)]
theorem sc_lit {ds : List Int} {W : Nat} {ps : List Sq} {p : Nat} (h : SC ds W ps p) : ∃ L, lt_ ds ps ps.length = some (p, L) := by
 induction h with
 | nil => exact ⟨[], rfl⟩
 | snoc ps p l h hp ih =>
  obtain ⟨L, hL⟩ := ih
  obtain ⟨s1, s2, s3, s4, s5, _⟩ := zcd9 hp
  refine ⟨L ++ (ds.drop p).take l, ?_⟩
  rw [List.length_append, List.length_cons, List.length_nil, Nat.zero_add]
  simp only [lt_]
  rw [lt_pre ds ps _ _ (Nat.le_refl _), hL, getD_mid']
  simp only
  rw [if_neg (by omega)]
  simp only [Int.toNat_natCast]
theorem zuo9 {ds : List Int} {W : Nat} {ps : List Sq} {p l : Nat} {L : List Int} (hL : lt_ ds ps ps.length = some (p, L)) (hp : 0 < (best ds W (p + l)).1) :
  lt_ ds (ps ++ [((l : Int), ((best ds W (p + l)).1 : Int), ((best ds W (p + l)).2 : Int))]) (ps.length + 1) = some (p + l + (best ds W (p + l)).1, L ++ (ds.drop p).take l) := by
 obtain ⟨s1, s2, s3, s4, s5, _⟩ := zcd9 hp
 simp only [lt_]
 rw [lt_pre ds ps _ _ (Nat.le_refl _), hL, getD_mid']
 simp only
 rw [if_neg (by omega)]
 simp only [Int.toNat_natCast]
theorem zrn9 (ds : List Int) (n i : Nat) (h : i < n) : (ds.take n).getD i 0 = ds.getD i 0 := by
 rw [List.getD_eq_getElem?_getD, List.getElem?_take, if_pos h, <- List.getD_eq_getElem?_getD]
theorem ztf9 (ds : List Int) (n : Nat) (h : n < ds.length) : ds.take (n + 1) = ds.take n ++ [ds.getD n 0] := by
 rw [List.take_succ_eq_append_getElem h, List.getD_eq_getElem?_getD, List.getElem?_eq_getElem h]
 rfl
theorem zpt9 {ds : List Int} {q d m : Nat} (h1 : 1 <= d) (h2 : d <= q) (hm : q + m <= ds.length) (he : ∀ j, j < m -> ds.getD (q + j) 0 = ds.getD (q - d + j) 0) : ∀ n, n <= m -> cpy d n (ds.take q) = ds.take (q + n)
 | 0, _ => rfl
 | n + 1, hn => by
  have hl : (ds.take (q + n)).length = q + n := by rw [List.length_take]; omega
  rw [zkg9, zpt9 h1 h2 hm he n (by omega), hl, zrn9 _ _ _ (by omega), <- Nat.add_assoc, ztf9 ds (q + n) (by omega), he n (by omega)]
  congr 3
  omega
theorem sc_run {ds ls : List Int} {W : Nat} {ps : List Sq} {p : Nat} (h : SC ds W ps p) : ∀ {L more : List Int} {most : Int}, lt_ ds ps ps.length = some (p, L) -> ls = L ++ more -> (p : Int) <= most -> rs ls ps most ps.length = (0, L.length, ds.take p) := by
 induction h with
 | nil =>
  intro L more most hL hls hm
  simp [lt_] at hL
  subst hL
  rfl
 | snoc ps p l h hp ih =>
  intro L more most hL hls hm
  obtain ⟨L0, hL0⟩ := sc_lit h
  have e1 := zuo9 (l := l) hL0 hp
  rw [List.length_append, List.length_cons, List.length_nil, Nat.zero_add] at hL ⊢
  rw [e1] at hL
  simp only [Option.some.injEq, Prod.mk.injEq, true_and] at hL
  obtain ⟨s1, s2, s3, s4, s5, s6⟩ := zcd9 hp
  have hpl := sc_le h
  have ht : ((ds.drop p).take l).length = l := by rw [List.length_take, List.length_drop]; omega
  have e2 := ih hL0 (more := (ds.drop p).take l ++ more) (by rw [hls, <- hL, List.append_assoc]) (most := most) (by omega)
  simp only [rs]
  rw [rs_pre ls ps _ most _ (Nat.le_refl _), e2, getD_mid']
  have hll : ls.length = L0.length + l + more.length := by rw [hls, <- hL, List.length_append, List.length_append, ht]
  have htp : (ds.take p).length = p := by rw [List.length_take]; omega
  have hdl : (ls.drop L0.length).take l = (ds.drop p).take l := by
   rw [hls, <- hL, List.append_assoc, List.drop_left]
   rw [List.take_append_of_le_length (by omega), List.take_take, Nat.min_self]
  rw [if_neg (by simp)]
  simp only
  rw [htp]
  have hok : okS ((l : Int), ((best ds W (p + l)).1 : Int), ((best ds W (p + l)).2 : Int)) (ls.length - L0.length) p = true := by
   unfold okS
   rw [decide_eq_true_eq]
   simp only
   omega
  rw [if_neg (by rw [hok]; simp), if_neg (by omega)]
  simp only [Int.toNat_natCast]
  rw [hdl]
  have hcat : ds.take p ++ (ds.drop p).take l = ds.take (p + l) := by rw [<- List.take_add]
  rw [hcat, zpt9 s1 s2 s5 s6 _ (Nat.le_refl _), <- hL, List.length_append, ht]
theorem zfa9 (ds : List Int) (W : Nat) (hn : ds.length <= 65536) : ∃ L, litR ds (steps ds W) = (0, L) /\ runR L (steps ds W) (ds.length : Int) = (0, ds) /\ (0 < ds.length -> runR L (steps ds W) ((ds.length : Int) - 1) = (11, [])) /\ L.length <= ds.length := by
 obtain ⟨_, h2, h3⟩ := fst_sc ds W ds.length
 obtain ⟨p, hp⟩ : ∃ p, (fst_ ds W ds.length).1 - (fst_ ds W ds.length).2.1 = p := ⟨_, rfl⟩
 rw [hp] at h3
 obtain ⟨ps, hps⟩ : ∃ ps, (fst_ ds W ds.length).2.2 = ps := ⟨_, rfl⟩
 unfold steps
 rw [hps] at h3 ⊢
 obtain ⟨L, hL⟩ := sc_lit h3
 have hpl := sc_le h3
 have hbd := lt_bd hL
 simp only at hbd
 have htp : (ds.take p).length = p := by rw [List.length_take]; omega
 have hdp : (L ++ ds.drop p).drop L.length = ds.drop p := List.drop_left
 refine ⟨L ++ ds.drop p, by unfold litR; rw [hL], ?_, fun h0 => ?_, by rw [List.length_append, List.length_drop]; omega⟩
 ·have e := sc_run h3 hL rfl (ls := L ++ ds.drop p) (more := ds.drop p) (most := (ds.length : Int)) (by omega)
  unfold runR
  rw [if_neg (by omega), e]
  simp only
  rw [if_neg (by simp), htp, if_neg (by rw [List.length_append, List.length_drop]; push_cast; omega), hdp, List.take_append_drop]
 ·by_cases hlt : p < ds.length
  ·have e := sc_run h3 hL rfl (ls := L ++ ds.drop p) (more := ds.drop p) (most := (ds.length : Int) - 1) (by omega)
   unfold runR
   rw [if_neg (by omega), e]
   simp only
   rw [if_neg (by simp), htp, if_pos (by rw [List.length_append, List.length_drop]; push_cast; omega)]
  ·have hpe : p = ds.length := by omega
   cases h3 with
   | nil => omega
   | snoc ps' p' l h hp' =>
    obtain ⟨L0, hL0⟩ := sc_lit h
    have e1 := zuo9 (l := l) hL0 hp'
    rw [List.length_append, List.length_cons, List.length_nil, Nat.zero_add] at hL
    rw [e1] at hL
    simp only [Option.some.injEq, Prod.mk.injEq, true_and] at hL
    obtain ⟨s1, s2, s3, s4, s5, s6⟩ := zcd9 hp'
    have ht : ((ds.drop p').take l).length = l := by rw [List.length_take, List.length_drop]; omega
    have e2 := sc_run h hL0 (ls := L ++ ds.drop (p' + l + (best ds W (p' + l)).1)) (more := (ds.drop p').take l ++ ds.drop (p' + l + (best ds W (p' + l)).1)) (by rw [<- hL, List.append_assoc]) (most := (ds.length : Int) - 1) (by omega)
    refine zgv9 (k := ps'.length) (by omega) (by simp) (by decide) ?_
    simp only [rs]
    rw [rs_pre _ ps' _ _ _ (Nat.le_refl _), e2, getD_mid']
    rw [if_neg (by simp)]
    simp only
    have htp' : (ds.take p').length = p' := by rw [List.length_take]; omega
    rw [htp']
    have hok : okS ((l : Int), ((best ds W (p' + l)).1 : Int), ((best ds W (p' + l)).2 : Int)) ((L ++ ds.drop (p' + l + (best ds W (p' + l)).1)).length - L0.length) p' = true := by
     unfold okS
     rw [decide_eq_true_eq, <- hL]
     simp only [List.length_append, ht]
     omega
    rw [if_neg (by rw [hok]; simp), if_pos (by omega)]
end Go.Proofs.YtobenjkacpipeaaGreat
