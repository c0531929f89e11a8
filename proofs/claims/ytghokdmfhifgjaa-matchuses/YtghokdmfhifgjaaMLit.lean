/-
  Literals walked: the program's and the document's.
-/
import Derived.Test.YtghokdmfhifgjaaMRun
namespace Go.Proofs.Ytghokdmfhifgjaa
open Go.RowKit Pl
set_option linter.unusedVariables false

theorem litR_bad {ds : List Int} {ps : List Sq} {k at_ : Nat} {out : List Int} (hk : k < ps.length) (h : lt_ ds ps k = some (at_, out)) (hb : (ps.getD k sq0).1 < 0 ∨ (ps.getD k sq0).2.1 < 0 ∨ (ps.getD k sq0).2.2 < 0 ∨ (ds.length : Int) - (at_ : Int) < (ps.getD k sq0).1 ∨ (ds.length : Int) - (at_ : Int) - (ps.getD k sq0).1 < (ps.getD k sq0).2.1) : litR ds ps = (5, []) := by
  have h1 : lt_ ds ps (k + 1) = none := by
    simp only [lt_]
    rw [h]
    exact if_pos hb
  unfold litR
  rw [lt_stop h1 hk]

theorem lt_good {ds : List Int} {ps : List Sq} {k at_ : Nat} {out : List Int} (h : lt_ ds ps k = some (at_, out)) (hb : ¬ ((ps.getD k sq0).1 < 0 ∨ (ps.getD k sq0).2.1 < 0 ∨ (ps.getD k sq0).2.2 < 0 ∨ (ds.length : Int) - (at_ : Int) < (ps.getD k sq0).1 ∨ (ds.length : Int) - (at_ : Int) - (ps.getD k sq0).1 < (ps.getD k sq0).2.1)) :
    lt_ ds ps (k + 1) = some (at_ + (ps.getD k sq0).1.toNat + (ps.getD k sq0).2.1.toNat, out ++ (ds.drop at_).take (ps.getD k sq0).1.toNat) := by
  simp only [lt_]
  rw [h]
  exact if_neg hb

set_option maxRecDepth 100000 in
set_option maxHeartbeats 4000000 in
theorem literals_any (v1 v2 : Value) (ds : List Int) (ps : List Sq) (w : World) (h1 : Rd .u8 w v1 ds) (hl : ds.length ≤ 140737488351232) (h2 : RdS w v2 ps) (hp : ps.length ≤ 140737488355328) :
    Calls Try.prog 16 #[v1, v2] w fun e w' => BPost (litR ds ps) w e w' := by
  obtain ⟨R, hR⟩ : ∃ R, Hid (litR ds ps = R) := ⟨_, rfl⟩
  rw [hR.out]
  have H1 : Hid (Rd .u8 w v1 ds) := h1
  obtain ⟨la, lc, rfl, _, _, _, _⟩ := h1
  obtain ⟨pa, pc, rfl, _, _, q2⟩ := h2
  have C2 : Hid (ps = [] ∨ ∃ b o, pa = some ⟨b, o, none⟩ ∧ ∀ i, i < ps.length → w.cell? ⟨b, o + i * 3, none⟩ = some (.int .i64 (ps.getD i sq0).1) ∧ w.cell? ⟨b, o + i * 3 + 1, none⟩ = some (.int .i64 (ps.getD i sq0).2.1) ∧ w.cell? ⟨b, o + i * 3 + 2, none⟩ = some (.int .i64 (ps.getD i sq0).2.2)) := q2
  clear q2
  go_enter Try.func16, Try.ntmps16
  go_wp2_with fail
  go_loopw [6, 7, 13] (fun ov lv i wr => ∃ (k at_ : Nat) (out : List Int), k ≤ ps.length ∧ i = .int .i64 k ∧ at_ ≤ ds.length ∧ out.length ≤ at_ ∧ Hid (lt_ ds ps k = some (at_, out)) ∧ Hid (Rd .u8 w lv (ds.drop at_)) ∧ Hid (Owns .u8 5 wr ov out) ∧ Hid (Below w.heap.size w wr) ∧ Hid (∀ j, ov.ownBlock = some j → w.heap.size ≤ j)) (fun _ _ i _ => ps.length - (intOf i).toNat)
  case atStart => exact ⟨0, 0, [], Nat.zero_le _, rfl, Nat.zero_le _, Nat.zero_le _, rfl, by show Rd _ _ _ _; rw [List.drop_zero]; exact H1.out, owns_nil _ _ _, Below.refl _ _, fun j e => by cases e⟩
  case round =>
    obtain ⟨k, at_, out, hk, rfl, hat, hout, HLT, HLV, HO, HB, HN⟩ := hrel
    obtain ⟨La, Lc, hLv⟩ : ∃ a c, u7 = .slice a (ds.length - at_) c := by obtain ⟨a, c, e, _⟩ := HLV.out; rw [List.length_drop] at e; exact ⟨a, c, e⟩
    subst hLv
    obtain ⟨lf, hlf⟩ : ∃ lf, Hid (ds.length - at_ = lf) := ⟨_, rfl⟩
    have hlfI : (lf : Int) = (ds.length : Int) - (at_ : Int) := by rw [← hlf.out]; omega
    have HLFI : Hid ((lf : Int) = (ds.length : Int) - (at_ : Int)) := hlfI
    have hlf2 : lf + at_ = ds.length := by omega
    clear hlfI
    rw [hlf.out] at HLV ⊢
    obtain ⟨Oa, Oc, hOv⟩ : ∃ a c, u6 = .slice a out.length c := by obtain ⟨a, c, e, _⟩ := HO.out.rd; exact ⟨a, c, e⟩
    subst hOv
    have HLL : Hid ((ds.drop at_).length = ds.length - at_) := List.length_drop
    by_cases hlt : k < ps.length
    · obtain ⟨b, o, ha, hc⟩ : ∃ b o, pa = some ⟨b, o, none⟩ ∧ ∀ i, i < ps.length → w.cell? ⟨b, o + i * 3, none⟩ = some (.int .i64 (ps.getD i sq0).1) ∧ w.cell? ⟨b, o + i * 3 + 1, none⟩ = some (.int .i64 (ps.getD i sq0).2.1) ∧ w.cell? ⟨b, o + i * 3 + 2, none⟩ = some (.int .i64 (ps.getD i sq0).2.2) := by
        rcases C2.out with h | h
        · rw [h] at hlt; simp at hlt
        · exact h
      subst ha
      obtain ⟨⟨x, y, z⟩, hX⟩ : ∃ X, Hid (ps.getD k sq0 = X) := ⟨_, rfl⟩
      obtain ⟨c0, c1, c2⟩ := hc k hlt
      rw [hX.out] at c0 c1 c2
      have hbw := World.block_lt_of_cell? w _ c0
      rw [← HB.out.cell (p := ⟨b, o + k * 3, none⟩) hbw] at c0
      rw [← HB.out.cell (p := ⟨b, o + k * 3 + 1, none⟩) hbw] at c1
      rw [← HB.out.cell (p := ⟨b, o + k * 3 + 2, none⟩) hbw] at c2
      have hbr : b < wr.heap.size := Nat.lt_of_lt_of_le hbw HB.out.size
      have HBAD : Hid (x < 0 ∨ y < 0 ∨ z < 0 ∨ (ds.length : Int) - (at_ : Int) < x ∨ (ds.length : Int) - (at_ : Int) - x < y → R = (5, [])) := fun h => by
        rw [← hR.out]
        exact litR_bad hlt HLT.out (by rw [hX.out]; exact h)
      obtain ⟨wS, hwS⟩ : ∃ wS, Hid (wr.alloc (.cells #[.int .i64 x, .int .i64 y, .int .i64 z] 37) = wS) := ⟨_, rfl⟩
      have bS : Below wr.heap.size wr wS := by rw [← hwS.out]; exact (Below.refl _ _).alloc (Nat.le_refl _) _
      have HBS : Hid (Below w.heap.size w wS) := HB.out.trans (bS.mono HB.out.size)
      have HOS : Hid (Owns .u8 5 wS (.slice Oa out.length Oc) out) := HO.out.below bS
      have HBSa : Hid (Below w.heap.size w (wr.alloc (.cells #[.int .i64 x, .int .i64 y, .int .i64 z] 37))) := by show Below _ _ _; rw [hwS.out]; exact HBS.out
      have hblk : wS.heap[wr.heap.size]? = some (.cells #[.int .i64 x, .int .i64 y, .int .i64 z] 37 (0, 0)) := by rw [← hwS.out]; exact heap_alloc_new wr _
      obtain ⟨S, hS⟩ : ∃ S, Hid (wr.heap.size = S) := ⟨_, rfl⟩
      rw [hS.out] at hblk
      have HBK : Hid (wS.heap[S]? = some (.cells #[.int .i64 x, .int .i64 y, .int .i64 z] 37 (0, 0))) := hblk
      clear hc hbw bS hblk
      by_cases h1 : x < 0
      · have HE : Hid (R = (5, [])) := HBAD.out (.inl h1)
        go_wp2_with fail
        go_ret2
        rw [HE.out]
        exact BPost.bad HBSa.out
      have g1 : decide (x < 0) = false := by rw [decide_eq_false_iff_not]; exact h1
      by_cases h2 : y < 0
      · have HE : Hid (R = (5, [])) := HBAD.out (.inr (.inl h2))
        go_wp2_with fail
        go_ret2
        rw [HE.out]
        exact BPost.bad HBSa.out
      have g2 : decide (y < 0) = false := by rw [decide_eq_false_iff_not]; exact h2
      by_cases h3 : z < 0
      · have HE : Hid (R = (5, [])) := HBAD.out (.inr (.inr (.inl h3)))
        go_wp2_with fail
        go_ret2
        rw [HE.out]
        exact BPost.bad HBSa.out
      have g3 : decide (z < 0) = false := by rw [decide_eq_false_iff_not]; exact h3
      by_cases h4 : (lf : Int) < x
      · have HE : Hid (R = (5, [])) := HBAD.out (.inr (.inr (.inr (.inl (by omega)))))
        go_wp2_with fail
        go_ret2
        rw [HE.out]
        exact BPost.bad HBSa.out
      have g4 : decide ((lf : Int) < x) = false := by rw [decide_eq_false_iff_not]; exact h4
      by_cases h5 : (lf : Int) - x < y
      · have HE : Hid (R = (5, [])) := HBAD.out (.inr (.inr (.inr (.inr (by omega)))))
        go_wp2_with fail
        go_ret2
        rw [HE.out]
        exact BPost.bad HBSa.out
      have g5 : decide ((lf : Int) - x < y) = false := by rw [decide_eq_false_iff_not]; exact h5
      obtain ⟨X, rfl⟩ := Int.eq_ofNat_of_zero_le (show 0 ≤ x by omega)
      obtain ⟨Y, rfl⟩ := Int.eq_ofNat_of_zero_le (show 0 ≤ y by omega)
      have hfit : at_ + X + Y ≤ ds.length := by omega
      have HLT2 : Hid (lt_ ds ps (k + 1) = some (at_ + X + Y, out ++ (ds.drop at_).take X)) := by
        show _ = _
        have := lt_good HLT.out (by rw [hX.out]; show ¬ ((X : Int) < 0 ∨ (Y : Int) < 0 ∨ z < 0 ∨ (ds.length : Int) - (at_ : Int) < (X : Int) ∨ (ds.length : Int) - (at_ : Int) - (X : Int) < (Y : Int)); omega)
        rw [hX.out] at this
        exact this
      clear h1 h2 h3 h4 h5 HBAD HLT HBSa
      go_wp2_with (refine wpList_upto _ w rfl (.tmp 46) (.tmp 48) rfl (.slice La lf Lc) (ds.drop at_) rfl HLV.out X rfl (by rw [HLL.out]; omega) ?_)
      intro v5 hv5
      rw [hwS.out, hS.out]
      have HV5 : Hid (Rd .u8 wS v5 ((ds.drop at_).take X)) := hv5.below HBS.out
      have HVL : Hid (((ds.drop at_).take X).length ≤ X) := by show _ ≤ _; rw [List.length_take]; omega
      clear hv5 c0 c1 c2
      go_wp2_with (at_builtin; refine wpList_many _ rfl (.tmp 45) (.tmp 49) 22 rfl 5 .u8 1 elem8 (.slice Oa out.length Oc) out rfl HOS.out v5 ((ds.drop at_).take X) rfl HV5.out (by have := HVL.out; omega) (by have := HVL.out; omega) ?_)
      intro v6 w6 ho6 hg6
      obtain ⟨b6, n6⟩ := hg6.onto HBS.out HN.out
      have O6 : Hid (Owns .u8 5 w6 v6 (out ++ (ds.drop at_).take X)) := ho6
      have B6 : Hid (Below w.heap.size w w6) := b6
      have N6 : Hid (∀ j, v6.ownBlock = some j → w.heap.size ≤ j) := n6
      have HK6 : Hid (w6.heap[S]? = some (.cells #[.int .i64 (X : Int), .int .i64 (Y : Int), .int .i64 z] 37 (0, 0))) := by
        show _ = _
        rw [hg6.tch.block S (Array.getElem?_eq_some_iff.1 HBK.out).1 (fun e => by
          obtain ⟨cur, hcur⟩ := block_of_owns (w := wS) HOS.out e
          rw [HBK.out] at hcur
          simp at hcur)]
        exact HBK.out
      have e0 : w6.cell? ⟨S, 0, none⟩ = some (.int .i64 (X : Int)) := by rw [cell_of_row w6 S 0 _ _ (0, 0) HK6.out]; rfl
      have e1 : w6.cell? ⟨S, 1, none⟩ = some (.int .i64 (Y : Int)) := by rw [cell_of_row w6 S 1 _ _ (0, 0) HK6.out]; rfl
      have HOL : Hid ((out ++ (ds.drop at_).take X).length ≤ at_ + X + Y) := by show _ ≤ _; rw [List.length_append]; have := HVL.out; omega
      clear ho6 hg6 b6 n6 HBK HOS HBS HV5 HVL HN HO HB
      obtain ⟨Z, hZ⟩ : ∃ Z, Hid (X + Y = Z) := ⟨_, rfl⟩
      have hXY : (X : Int) + (Y : Int) = (Z : Int) := by rw [← hZ.out]; omega
      go_wp2_with (refine wpList_from _ w rfl (.tmp 51) (.tmp 56) rfl (.slice La lf Lc) (ds.drop at_) rfl HLV.out Z rfl (by rw [HLL.out, ← hZ.out]; omega) ?_)
      intro v7 hv7
      have HV7 : Hid (Rd .u8 w v7 (ds.drop (at_ + X + Y))) := by
        show Rd _ _ _ _
        have e : at_ + X + Y = at_ + Z := by rw [← hZ.out]; omega
        rw [e]
        first | exact hv7 | (rw [← List.drop_drop]; exact hv7)
      clear hv7
      go_wp2_with fail
      go_roundw
      case rel => exact ⟨k + 1, at_ + X + Y, _, by omega, by go_num, hfit, HOL.out, HLT2, HV7, O6, B6, N6⟩
      case measure => simp [intOf]; omega

    · obtain rfl : k = ps.length := by omega
      have HE : Hid (R = (0, out ++ ds.drop at_)) := by
        show R = _
        rw [← hR.out]
        unfold litR
        rw [HLT.out]
      have HVW : Hid (Rd .u8 wr (.slice La lf Lc) (ds.drop at_)) := HLV.out.below HB.out
      go_wp2_with (at_builtin; refine wpList_many _ rfl (.tmp 59) (.tmp 60) 22 rfl 5 .u8 1 elem8 (.slice Oa out.length Oc) out rfl HO.out (.slice La lf Lc) (ds.drop at_) rfl HVW.out (by have := HLL.out; omega) (by have := HLL.out; omega) ?_)
      intro v6 w6 ho6 hg6
      obtain ⟨b6, n6⟩ := hg6.onto HB.out HN.out
      have O6 : Hid (Owns .u8 5 w6 v6 (out ++ ds.drop at_)) := ho6
      have B6 : Hid (Below w.heap.size w w6) := b6
      have N6 : Hid (∀ j, v6.ownBlock = some j → w.heap.size ≤ j) := n6
      clear ho6 hg6 b6 n6
      go_wp2_with fail
      go_ret2
      rw [HE.out]
      exact ⟨_, rfl, B6.out, N6.out, O6.out⟩

set_option maxRecDepth 100000 in
set_option maxHeartbeats 4000000 in
theorem refLiterals_any (v1 v2 : Value) (ds : List Int) (ps : List Sq) (w : World) (h1 : Rd .u8 w v1 ds) (hl : ds.length ≤ 140737488351232) (h2 : RdS w v2 ps) (hp : ps.length ≤ 140737488355328) :
    Calls Try.prog 17 #[v1, v2] w fun e w' => BPost (litR ds ps) w e w' := by
  obtain ⟨R, hR⟩ : ∃ R, Hid (litR ds ps = R) := ⟨_, rfl⟩
  rw [hR.out]
  have H1 : Hid (Rd .u8 w v1 ds) := h1
  obtain ⟨la, lc, rfl, _, _, _, _⟩ := h1
  obtain ⟨pa, pc, rfl, _, _, q2⟩ := h2
  have C2 : Hid (ps = [] ∨ ∃ b o, pa = some ⟨b, o, none⟩ ∧ ∀ i, i < ps.length → w.cell? ⟨b, o + i * 3, none⟩ = some (.int .i64 (ps.getD i sq0).1) ∧ w.cell? ⟨b, o + i * 3 + 1, none⟩ = some (.int .i64 (ps.getD i sq0).2.1) ∧ w.cell? ⟨b, o + i * 3 + 2, none⟩ = some (.int .i64 (ps.getD i sq0).2.2)) := q2
  clear q2
  go_enter Try.func17, Try.ntmps17
  go_wp2_with fail
  go_loopw [6, 7, 8] (fun ov lv i wr => ∃ (k at_ : Nat) (out : List Int), k ≤ ps.length ∧ i = .int .i64 k ∧ at_ ≤ ds.length ∧ out.length ≤ at_ ∧ Hid (lt_ ds ps k = some (at_, out)) ∧ lv = .int .i64 (at_ : Int) ∧ Hid (Owns .u8 5 wr ov out) ∧ Hid (Below w.heap.size w wr) ∧ Hid (∀ j, ov.ownBlock = some j → w.heap.size ≤ j)) (fun _ _ i _ => ps.length - (intOf i).toNat)
  case atStart => exact ⟨0, 0, [], Nat.zero_le _, rfl, Nat.zero_le _, Nat.zero_le _, rfl, rfl, owns_nil _ _ _, Below.refl _ _, fun j e => by cases e⟩
  case round =>
    obtain ⟨k, at_, out, hk, rfl, hat, hout, HLT, rfl, HO, HB, HN⟩ := hrel
    obtain ⟨Oa, Oc, hOv⟩ : ∃ a c, u6 = .slice a out.length c := by obtain ⟨a, c, e, _⟩ := HO.out.rd; exact ⟨a, c, e⟩
    subst hOv
    have HLL : Hid ((ds.drop at_).length = ds.length - at_) := List.length_drop
    by_cases hlt : k < ps.length
    · obtain ⟨b, o, ha, hc⟩ : ∃ b o, pa = some ⟨b, o, none⟩ ∧ ∀ i, i < ps.length → w.cell? ⟨b, o + i * 3, none⟩ = some (.int .i64 (ps.getD i sq0).1) ∧ w.cell? ⟨b, o + i * 3 + 1, none⟩ = some (.int .i64 (ps.getD i sq0).2.1) ∧ w.cell? ⟨b, o + i * 3 + 2, none⟩ = some (.int .i64 (ps.getD i sq0).2.2) := by
        rcases C2.out with h | h
        · rw [h] at hlt; simp at hlt
        · exact h
      subst ha
      obtain ⟨⟨x, y, z⟩, hX⟩ : ∃ X, Hid (ps.getD k sq0 = X) := ⟨_, rfl⟩
      obtain ⟨c0, c1, c2⟩ := hc k hlt
      rw [hX.out] at c0 c1 c2
      have hbw := World.block_lt_of_cell? w _ c0
      rw [← HB.out.cell (p := ⟨b, o + k * 3, none⟩) hbw] at c0
      rw [← HB.out.cell (p := ⟨b, o + k * 3 + 1, none⟩) hbw] at c1
      rw [← HB.out.cell (p := ⟨b, o + k * 3 + 2, none⟩) hbw] at c2
      have hbr : b < wr.heap.size := Nat.lt_of_lt_of_le hbw HB.out.size
      have HBAD : Hid (x < 0 ∨ y < 0 ∨ z < 0 ∨ (ds.length : Int) - (at_ : Int) < x ∨ (ds.length : Int) - (at_ : Int) - x < y → R = (5, [])) := fun h => by
        rw [← hR.out]
        exact litR_bad hlt HLT.out (by rw [hX.out]; exact h)
      obtain ⟨wS, hwS⟩ : ∃ wS, Hid (wr.alloc (.cells #[.int .i64 x, .int .i64 y, .int .i64 z] 37) = wS) := ⟨_, rfl⟩
      have bS : Below wr.heap.size wr wS := by rw [← hwS.out]; exact (Below.refl _ _).alloc (Nat.le_refl _) _
      have HBS : Hid (Below w.heap.size w wS) := HB.out.trans (bS.mono HB.out.size)
      have HOS : Hid (Owns .u8 5 wS (.slice Oa out.length Oc) out) := HO.out.below bS
      have HBSa : Hid (Below w.heap.size w (wr.alloc (.cells #[.int .i64 x, .int .i64 y, .int .i64 z] 37))) := by show Below _ _ _; rw [hwS.out]; exact HBS.out
      have hblk : wS.heap[wr.heap.size]? = some (.cells #[.int .i64 x, .int .i64 y, .int .i64 z] 37 (0, 0)) := by rw [← hwS.out]; exact heap_alloc_new wr _
      obtain ⟨S, hS⟩ : ∃ S, Hid (wr.heap.size = S) := ⟨_, rfl⟩
      rw [hS.out] at hblk
      have HBK : Hid (wS.heap[S]? = some (.cells #[.int .i64 x, .int .i64 y, .int .i64 z] 37 (0, 0))) := hblk
      clear hc hbw bS hblk
      by_cases h1 : x < 0
      · have HE : Hid (R = (5, [])) := HBAD.out (.inl h1)
        go_wp2_with fail
        go_ret2
        rw [HE.out]
        exact BPost.bad HBSa.out
      have g1 : decide (x < 0) = false := by rw [decide_eq_false_iff_not]; exact h1
      by_cases h2 : y < 0
      · have HE : Hid (R = (5, [])) := HBAD.out (.inr (.inl h2))
        go_wp2_with fail
        go_ret2
        rw [HE.out]
        exact BPost.bad HBSa.out
      have g2 : decide (y < 0) = false := by rw [decide_eq_false_iff_not]; exact h2
      by_cases h3 : z < 0
      · have HE : Hid (R = (5, [])) := HBAD.out (.inr (.inr (.inl h3)))
        go_wp2_with fail
        go_ret2
        rw [HE.out]
        exact BPost.bad HBSa.out
      have g3 : decide (z < 0) = false := by rw [decide_eq_false_iff_not]; exact h3
      by_cases h4 : (ds.length : Int) - (at_ : Int) < x
      · have HE : Hid (R = (5, [])) := HBAD.out (.inr (.inr (.inr (.inl (by omega)))))
        go_wp2_with fail
        go_ret2
        rw [HE.out]
        exact BPost.bad HBSa.out
      have g4 : decide ((ds.length : Int) - (at_ : Int) < x) = false := by rw [decide_eq_false_iff_not]; exact h4
      by_cases h5 : (ds.length : Int) - (at_ : Int) - x < y
      · have HE : Hid (R = (5, [])) := HBAD.out (.inr (.inr (.inr (.inr (by omega)))))
        go_wp2_with fail
        go_ret2
        rw [HE.out]
        exact BPost.bad HBSa.out
      have g5 : decide ((ds.length : Int) - (at_ : Int) - x < y) = false := by rw [decide_eq_false_iff_not]; exact h5
      obtain ⟨X, rfl⟩ := Int.eq_ofNat_of_zero_le (show 0 ≤ x by omega)
      obtain ⟨Y, rfl⟩ := Int.eq_ofNat_of_zero_le (show 0 ≤ y by omega)
      have hfit : at_ + X + Y ≤ ds.length := by omega
      have HLT2 : Hid (lt_ ds ps (k + 1) = some (at_ + X + Y, out ++ (ds.drop at_).take X)) := by
        show _ = _
        have := lt_good HLT.out (by rw [hX.out]; show ¬ ((X : Int) < 0 ∨ (Y : Int) < 0 ∨ z < 0 ∨ (ds.length : Int) - (at_ : Int) < (X : Int) ∨ (ds.length : Int) - (at_ : Int) - (X : Int) < (Y : Int)); omega)
        rw [hX.out] at this
        exact this
      clear h1 h2 h3 h4 h5 HBAD HLT HBSa
      go_wp2_with (refine wpList_mid _ w rfl (.tmp 55) (.tmp 56) (.tmp 60) rfl (.slice la ds.length lc) ds rfl H1.out at_ X rfl rfl (by omega) ?_)
      intro v5 hv5
      rw [hwS.out, hS.out]
      have HV5 : Hid (Rd .u8 wS v5 ((ds.drop at_).take X)) := hv5.below HBS.out
      have HVL : Hid (((ds.drop at_).take X).length ≤ X) := by show _ ≤ _; rw [List.length_take]; omega
      clear hv5 c0 c1 c2
      go_wp2_with (at_builtin; refine wpList_many _ rfl (.tmp 54) (.tmp 61) 22 rfl 5 .u8 1 elem8 (.slice Oa out.length Oc) out rfl HOS.out v5 ((ds.drop at_).take X) rfl HV5.out (by have := HVL.out; omega) (by have := HVL.out; omega) ?_)
      intro v6 w6 ho6 hg6
      obtain ⟨b6, n6⟩ := hg6.onto HBS.out HN.out
      have O6 : Hid (Owns .u8 5 w6 v6 (out ++ (ds.drop at_).take X)) := ho6
      have B6 : Hid (Below w.heap.size w w6) := b6
      have N6 : Hid (∀ j, v6.ownBlock = some j → w.heap.size ≤ j) := n6
      have HK6 : Hid (w6.heap[S]? = some (.cells #[.int .i64 (X : Int), .int .i64 (Y : Int), .int .i64 z] 37 (0, 0))) := by
        show _ = _
        rw [hg6.tch.block S (Array.getElem?_eq_some_iff.1 HBK.out).1 (fun e => by
          obtain ⟨cur, hcur⟩ := block_of_owns (w := wS) HOS.out e
          rw [HBK.out] at hcur
          simp at hcur)]
        exact HBK.out
      have e0 : w6.cell? ⟨S, 0, none⟩ = some (.int .i64 (X : Int)) := by rw [cell_of_row w6 S 0 _ _ (0, 0) HK6.out]; rfl
      have e1 : w6.cell? ⟨S, 1, none⟩ = some (.int .i64 (Y : Int)) := by rw [cell_of_row w6 S 1 _ _ (0, 0) HK6.out]; rfl
      have HOL : Hid ((out ++ (ds.drop at_).take X).length ≤ at_ + X + Y) := by show _ ≤ _; rw [List.length_append]; have := HVL.out; omega
      clear ho6 hg6 b6 n6 HBK HOS HBS HV5 HVL HN HO HB
      go_wp2_with fail
      go_roundw
      case rel => exact ⟨k + 1, at_ + X + Y, _, by omega, by go_num, hfit, HOL.out, HLT2, by go_num, O6, B6, N6⟩
      case measure => simp [intOf]; omega

    · obtain rfl : k = ps.length := by omega
      have HE : Hid (R = (0, out ++ ds.drop at_)) := by
        show R = _
        rw [← hR.out]
        unfold litR
        rw [HLT.out]
      go_wp2_with (refine wpList_from _ w rfl (.tmp 71) (.tmp 72) rfl (.slice la ds.length lc) ds rfl H1.out at_ rfl hat ?_)
      intro v5 hv5
      have HVW : Hid (Rd .u8 wr v5 (ds.drop at_)) := hv5.below HB.out
      clear hv5
      go_wp2_with (at_builtin; refine wpList_many _ rfl (.tmp 70) (.tmp 73) 22 rfl 5 .u8 1 elem8 (.slice Oa out.length Oc) out rfl HO.out v5 (ds.drop at_) rfl HVW.out (by have := HLL.out; omega) (by have := HLL.out; omega) ?_)
      intro v6 w6 ho6 hg6
      obtain ⟨b6, n6⟩ := hg6.onto HB.out HN.out
      have O6 : Hid (Owns .u8 5 w6 v6 (out ++ ds.drop at_)) := ho6
      have B6 : Hid (Below w.heap.size w w6) := b6
      have N6 : Hid (∀ j, v6.ownBlock = some j → w.heap.size ≤ j) := n6
      clear ho6 hg6 b6 n6
      go_wp2_with fail
      go_ret2
      rw [HE.out]
      exact ⟨_, rfl, B6.out, N6.out, O6.out⟩
end Go.Proofs.Ytghokdmfhifgjaa
