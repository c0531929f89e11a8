/-
  SumsStay: what is handed in stays, spare room too: for every bytes the law answers true.
-/
import Derived.Test.YtndbpbbhipiolaaSLives
namespace Go.Proofs.Ytndbpbbhipiolaa
open Go.RowKit Pl
set_option linter.unusedVariables false

theorem rd123 (w : World) : Rd .u8 (w.alloc (.cells #[.int .u8 1, .int .u8 2, .int .u8 3] 5)) (.slice (some ⟨w.heap.size, 0, none⟩) 3 3) [1, 2, 3] := rd_lit w [1, 2, 3] (0, 0) (by unfold maxLen; decide)

set_option maxRecDepth 100000 in
set_option maxHeartbeats 4000000 in
theorem sumsStay_walk (v : Value) (xs : List Int) (w : World) (h1 : Rd .u8 w v xs) (hb : By xs) :
    Calls Try.prog 6 #[v] w fun e w' => e = .returned (.bool true) ∧ Below w.heap.size w w' := by
  obtain ⟨a, cap, hv, hlc, hcm, _⟩ := id h1
  subst hv
  have H1 : Hid (Rd .u8 w (.slice a xs.length cap) xs) := h1
  have HB : Hid (By xs) := hb
  have hm : xs.length ≤ 9223372036854775807 := by unfold maxLen at hcm; omega
  clear h1 hb hcm
  go_enter Try.func6, Try.ntmps6
  by_cases c : xs.length > 65536
  · have R1 : Hid (Rd .u8 w (.slice a 65536 cap) (xs.take 65536)) := rd_cut H1.out 65536 (by omega)
    have HB1 : Hid (By (xs.take 65536)) := by_take HB.out _
    have hc1 : (65536 : Int) < (xs.length : Int) := by omega
    have hcap : 65536 ≤ cap := by omega
    have hyl : (xs.take 65536).length = 65536 := by rw [List.length_take]; omega
    have HL1 : Hid (([] : List Int).length + (xs.take 65536).length ≤ 9223372036854775807) := by show _ ≤ _; rw [hyl]; decide
    have HL2 : Hid ((([] : List Int).length + (xs.take 65536).length) * 1 ≤ 140737488355328) := by show _ ≤ _; rw [hyl]; decide
    go_wp2_with (at_builtin; refine wpList_many _ rfl (.tmp 10) (.tmp 11) 22 rfl 5 .u8 1 elem8 (.slice none 0 0) [] ?h1 (owns_nil _ _ _) _ (xs.take 65536) ?h2 R1.out HL1.out HL2.out ?_; (case h1 => kernel_rfl); (case h2 => kernel_rfl))
    intro ov w2 ho2 hg2
    have HN2 : Hid (∀ k, ov.ownBlock = some k → w.heap.size ≤ k) := hg2.below.2
    obtain ⟨ys, hys⟩ : ∃ ys, xs.take 65536 = ys := ⟨_, rfl⟩
    rw [hys] at R1 HB1 hyl ho2
    obtain ⟨L, hL⟩ : ∃ L, 65536 = L := ⟨_, rfl⟩
    rw [hL] at R1 hyl ⊢
    have hL5 : L ≤ 65536 := by omega
    have hLc : L ≤ cap := by omega
    clear hc1 hcap c hys hL H1 HB HL1 HL2
    obtain ⟨b2, n2⟩ := hg2.below
    have O2 : Hid (Owns .u8 5 w2 ov ys) := ho2
    have B2 : Hid (Below w.heap.size w w2) := b2
    have r3 := rd123 w2
    have O2' : Hid (Owns .u8 5 (w2.alloc (.cells #[.int .u8 1, .int .u8 2, .int .u8 3] 5)) ov ys) := O2.out.below ((Below.refl _ _).alloc (Nat.le_refl _) _)
    have R3 : Hid (Rd .u8 (w2.alloc (.cells #[.int .u8 1, .int .u8 2, .int .u8 3] 5)) (.slice (some ⟨w2.heap.size, 0, none⟩) 3 3) [1, 2, 3]) := r3
    have HL1 : Hid (ys.length + [1, 2, 3].length ≤ 9223372036854775807) := by show _ ≤ _; rw [hyl]; simp; omega
    have HL2 : Hid ((ys.length + [1, 2, 3].length) * 1 ≤ 140737488355328) := by show _ ≤ _; rw [hyl]; simp; omega
    clear ho2 hg2 b2 n2 r3
    go_wp2_with (at_builtin; refine wpList_many _ rfl (.tmp 13) (.tmp 14) 22 rfl 5 .u8 1 elem8 ov ys ?h1 O2'.out _ [1, 2, 3] ?h2 R3.out HL1.out HL2.out ?_; (case h1 => kernel_rfl); (case h2 => kernel_rfl))
    intro ov3 w3 ho3 hg3
    have B3 : Hid (Below w.heap.size w w3) := by
      have h23 : Below w2.heap.size w2 (w2.alloc (.cells #[.int .u8 1, .int .u8 2, .int .u8 3] 5)) := (Below.refl _ _).alloc (Nat.le_refl _) _
      have h2 := B2.out.trans (h23.mono B2.out.size)
      exact h2.trans (hg3.1.below h2.size (fun k e => HN2.out k e))
    have HYL3 : (ys ++ [1, 2, 3]).length = L + 3 := by rw [List.length_append, hyl]; rfl
    obtain ⟨g, cp, hv3, hgl, hcp1, hcp2, hcell, _⟩ := Owns.shape ho3 (by omega)
    rw [HYL3] at hv3 hcp1
    subst hv3
    have HCL : Hid (∀ i, i < L + 3 → w3.cell? ⟨g, i, none⟩ = some (.int .u8 ((ys ++ [1, 2, 3]).getD i 0))) := fun i hi => hcell i (by omega)
    have RO : Hid (Rd .u8 w3 (.slice (some ⟨g, 0, none⟩) L cp) ys) := by
      have h := ho3.rd
      have h2 := rd_cut h L (by rw [HYL3]; omega)
      rw [List.take_append_of_le_length (by omega), List.take_of_length_le (by omega)] at h2
      exact h2
    have hcp3 : cp ≤ 9223372036854775807 := by unfold maxLen at hcp2; omega
    clear ho3 hg3 hcell O2 O2' R3 HL1 HL2 hcp2
    go_wp2_with fail
    refine (sha_any _ ys w3 RO.out HB1.out (by omega)).mono ?_
    rintro e w4 ⟨rfl, hb4⟩
    have B4 : Hid (Below w.heap.size w w4) := B3.out.trans (hb4.mono B3.out.size)
    have RO4 : Hid (Rd .u8 w4 (.slice (some ⟨g, 0, none⟩) L cp) ys) := RO.out.below hb4
    have HC4 : Hid (∀ i, i < L + 3 → w4.cell? ⟨g, i, none⟩ = some (.int .u8 ((ys ++ [1, 2, 3]).getD i 0))) := fun i hi => by
      have h := HCL.out i hi
      rw [hb4.cell (p := ⟨g, i, none⟩) (World.block_lt_of_cell? w3 ⟨g, i, none⟩ h)]
      exact h
    clear hb4 HCL RO B3
    go_wp2_with fail
    refine (crc_any _ ys w4 RO4.out HB1.out).mono ?_
    rintro e w5 ⟨rfl, rfl⟩
    generalize crc ys = X
    generalize ucs IntKind.u8 32 (sha ys) = F
    go_wp2_with fail
    go_loopw [4] (fun i wr => ∃ k : Nat, k ≤ L ∧ i = .int .i64 k ∧ Hid (Tch (fun _ => False) w5 wr)) (fun i _ => L - (intOf i).toNat)
    case atStart => exact ⟨0, Nat.zero_le _, rfl, Tch.refl _ _⟩
    case round =>
      obtain ⟨k, hk, rfl, T⟩ := hrel
      by_cases hlt : k < L
      · obtain ⟨ab, ao, ha, hc⟩ : ∃ b o, a = some ⟨b, o, none⟩ ∧ ∀ i, i < L → w.cell? ⟨b, o + i, none⟩ = some (.int .u8 (ys.getD i 0)) := by
          obtain ⟨_, _, e, _, _, _, h⟩ := R1.out
          cases e
          rcases h with h0 | ⟨b, o, e, h⟩
          · have hz : ys.length = 0 := by rw [h0]; rfl
            omega
          · exact ⟨b, o, e, fun i hi => h i (by omega)⟩
        subst ha
        have c1 : wr.cell? ⟨ab, ao + k, none⟩ = some (.int .u8 (ys.getD k 0)) := by
          have h0 := hc k hlt
          have h1 := World.block_lt_of_cell? w ⟨ab, ao + k, none⟩ h0
          have h2 := B4.out.cell (p := ⟨ab, ao + k, none⟩) h1
          rw [T.out.cell (p := ⟨ab, ao + k, none⟩) (by have := B4.out.size; simp only at h1 ⊢; omega) (fun e => e), h2, h0]
        have c2 : wr.cell? ⟨g, k, none⟩ = some (.int .u8 (ys.getD k 0)) := by
          have h0 := HC4.out k (by omega)
          rw [T.out.cell (p := ⟨g, k, none⟩) (World.block_lt_of_cell? w5 ⟨g, k, none⟩ h0) (fun e => e), h0]
          rw [List.getD_eq_getElem?_getD, List.getD_eq_getElem?_getD, List.getElem?_append_left (by omega)]
        obtain ⟨x, hx⟩ : ∃ x, ys.getD k 0 = x := ⟨_, rfl⟩
        rw [hx] at c1 c2
        have hxx : (x != x) = false := by simp
        have hi1 : (k : Int) < (L : Int) := by omega
        have hi2 : (k : Int) < (L : Int) + 3 := by omega
        clear hc hx
        go_wp2_with fail
        go_quiet (fail)
        go_wp2_with fail
        go_roundw
        case rel => exact ⟨k + 1, by omega, by go_num, by first | exact T | exact ⟨T.out.os, T.out.tape, T.out.output, T.out.size, T.out.block⟩⟩
        case measure => simp [intOf]; omega
      · have d0 : wr.cell? ⟨g, L, none⟩ = some (.int .u8 1) := by
          have h0 := HC4.out L (by omega)
          rw [T.out.cell (p := ⟨g, L, none⟩) (World.block_lt_of_cell? w5 ⟨g, L, none⟩ h0) (fun e => e), h0, List.getD_eq_getElem?_getD, List.getElem?_append_right (by omega), hyl]
          simp
        have d1 : wr.cell? ⟨g, L + 1, none⟩ = some (.int .u8 2) := by
          have h0 := HC4.out (L + 1) (by omega)
          rw [T.out.cell (p := ⟨g, L + 1, none⟩) (World.block_lt_of_cell? w5 ⟨g, L + 1, none⟩ h0) (fun e => e), h0, List.getD_eq_getElem?_getD, List.getElem?_append_right (by omega), hyl, show L + 1 - L = 1 by omega]
          simp
        have d2 : wr.cell? ⟨g, L + 2, none⟩ = some (.int .u8 3) := by
          have h0 := HC4.out (L + 2) (by omega)
          rw [T.out.cell (p := ⟨g, L + 2, none⟩) (World.block_lt_of_cell? w5 ⟨g, L + 2, none⟩ h0) (fun e => e), h0, List.getD_eq_getElem?_getD, List.getElem?_append_right (by omega), hyl, show L + 2 - L = 2 by omega]
          simp
        have hkn : ¬ (k : Int) < (L : Int) := by omega
        have hi0 : (L : Int) < (L : Int) + 3 := by omega
        have B5 : Hid (Below w.heap.size w wr) := B4.out.trans (T.out.below B4.out.size (fun _ e => e.elim))
        clear hlt
        go_wp2_with fail
        refine (lives_any _).mono ?_
        rintro e w9 ⟨rfl, hb9⟩
        go_wp2_with fail
        go_ret
        exact ⟨rfl, B5.out.trans (hb9.mono B5.out.size)⟩
  · have R1 : Hid (Rd .u8 w (.slice a xs.length cap) xs) := H1
    have HB1 : Hid (By xs) := HB
    have hc1 : ¬ (65536 : Int) < (xs.length : Int) := by omega
    have HL1 : Hid (([] : List Int).length + xs.length ≤ 9223372036854775807) := by show _ ≤ _; simp; omega
    have HL2 : Hid ((([] : List Int).length + xs.length) * 1 ≤ 140737488355328) := by show _ ≤ _; simp; omega
    go_wp2_with (at_builtin; refine wpList_many _ rfl (.tmp 10) (.tmp 11) 22 rfl 5 .u8 1 elem8 (.slice none 0 0) [] ?h1 (owns_nil _ _ _) _ xs ?h2 R1.out HL1.out HL2.out ?_; (case h1 => kernel_rfl); (case h2 => kernel_rfl))
    intro ov w2 ho2 hg2
    have HN2 : Hid (∀ k, ov.ownBlock = some k → w.heap.size ≤ k) := hg2.below.2
    obtain ⟨ys, hys⟩ : ∃ ys, xs = ys := ⟨_, rfl⟩
    subst hys
    obtain ⟨L, hyl⟩ : ∃ L, xs.length = L := ⟨_, rfl⟩
    rw [hyl] at R1 ⊢
    have hL5 : L ≤ 65536 := by omega
    have hLc : L ≤ cap := by omega
    clear hc1 c H1 HB HL1 HL2
    obtain ⟨b2, n2⟩ := hg2.below
    have O2 : Hid (Owns .u8 5 w2 ov xs) := ho2
    have B2 : Hid (Below w.heap.size w w2) := b2
    have r3 := rd123 w2
    have O2' : Hid (Owns .u8 5 (w2.alloc (.cells #[.int .u8 1, .int .u8 2, .int .u8 3] 5)) ov xs) := O2.out.below ((Below.refl _ _).alloc (Nat.le_refl _) _)
    have R3 : Hid (Rd .u8 (w2.alloc (.cells #[.int .u8 1, .int .u8 2, .int .u8 3] 5)) (.slice (some ⟨w2.heap.size, 0, none⟩) 3 3) [1, 2, 3]) := r3
    have HL1 : Hid (xs.length + [1, 2, 3].length ≤ 9223372036854775807) := by show _ ≤ _; rw [hyl]; simp; omega
    have HL2 : Hid ((xs.length + [1, 2, 3].length) * 1 ≤ 140737488355328) := by show _ ≤ _; rw [hyl]; simp; omega
    clear ho2 hg2 b2 n2 r3
    go_wp2_with (at_builtin; refine wpList_many _ rfl (.tmp 13) (.tmp 14) 22 rfl 5 .u8 1 elem8 ov xs ?h1 O2'.out _ [1, 2, 3] ?h2 R3.out HL1.out HL2.out ?_; (case h1 => kernel_rfl); (case h2 => kernel_rfl))
    intro ov3 w3 ho3 hg3
    have B3 : Hid (Below w.heap.size w w3) := by
      have h23 : Below w2.heap.size w2 (w2.alloc (.cells #[.int .u8 1, .int .u8 2, .int .u8 3] 5)) := (Below.refl _ _).alloc (Nat.le_refl _) _
      have h2 := B2.out.trans (h23.mono B2.out.size)
      exact h2.trans (hg3.1.below h2.size (fun k e => HN2.out k e))
    have HYL3 : (xs ++ [1, 2, 3]).length = L + 3 := by rw [List.length_append, hyl]; rfl
    obtain ⟨g, cp, hv3, hgl, hcp1, hcp2, hcell, _⟩ := Owns.shape ho3 (by omega)
    rw [HYL3] at hv3 hcp1
    subst hv3
    have HCL : Hid (∀ i, i < L + 3 → w3.cell? ⟨g, i, none⟩ = some (.int .u8 ((xs ++ [1, 2, 3]).getD i 0))) := fun i hi => hcell i (by omega)
    have RO : Hid (Rd .u8 w3 (.slice (some ⟨g, 0, none⟩) L cp) xs) := by
      have h := ho3.rd
      have h2 := rd_cut h L (by rw [HYL3]; omega)
      rw [List.take_append_of_le_length (by omega), List.take_of_length_le (by omega)] at h2
      exact h2
    have hcp3 : cp ≤ 9223372036854775807 := by unfold maxLen at hcp2; omega
    clear ho3 hg3 hcell O2 O2' R3 HL1 HL2 hcp2
    go_wp2_with fail
    refine (sha_any _ xs w3 RO.out HB1.out (by omega)).mono ?_
    rintro e w4 ⟨rfl, hb4⟩
    have B4 : Hid (Below w.heap.size w w4) := B3.out.trans (hb4.mono B3.out.size)
    have RO4 : Hid (Rd .u8 w4 (.slice (some ⟨g, 0, none⟩) L cp) xs) := RO.out.below hb4
    have HC4 : Hid (∀ i, i < L + 3 → w4.cell? ⟨g, i, none⟩ = some (.int .u8 ((xs ++ [1, 2, 3]).getD i 0))) := fun i hi => by
      have h := HCL.out i hi
      rw [hb4.cell (p := ⟨g, i, none⟩) (World.block_lt_of_cell? w3 ⟨g, i, none⟩ h)]
      exact h
    clear hb4 HCL RO B3
    go_wp2_with fail
    refine (crc_any _ xs w4 RO4.out HB1.out).mono ?_
    rintro e w5 ⟨rfl, rfl⟩
    generalize crc xs = X
    generalize ucs IntKind.u8 32 (sha xs) = F
    go_wp2_with fail
    go_loopw [4] (fun i wr => ∃ k : Nat, k ≤ L ∧ i = .int .i64 k ∧ Hid (Tch (fun _ => False) w5 wr)) (fun i _ => L - (intOf i).toNat)
    case atStart => exact ⟨0, Nat.zero_le _, rfl, Tch.refl _ _⟩
    case round =>
      obtain ⟨k, hk, rfl, T⟩ := hrel
      by_cases hlt : k < L
      · obtain ⟨ab, ao, ha, hc⟩ : ∃ b o, a = some ⟨b, o, none⟩ ∧ ∀ i, i < L → w.cell? ⟨b, o + i, none⟩ = some (.int .u8 (xs.getD i 0)) := by
          obtain ⟨_, _, e, _, _, _, h⟩ := R1.out
          cases e
          rcases h with h0 | ⟨b, o, e, h⟩
          · have hz : xs.length = 0 := by rw [h0]; rfl
            omega
          · exact ⟨b, o, e, fun i hi => h i (by omega)⟩
        subst ha
        have c1 : wr.cell? ⟨ab, ao + k, none⟩ = some (.int .u8 (xs.getD k 0)) := by
          have h0 := hc k hlt
          have h1 := World.block_lt_of_cell? w ⟨ab, ao + k, none⟩ h0
          have h2 := B4.out.cell (p := ⟨ab, ao + k, none⟩) h1
          rw [T.out.cell (p := ⟨ab, ao + k, none⟩) (by have := B4.out.size; simp only at h1 ⊢; omega) (fun e => e), h2, h0]
        have c2 : wr.cell? ⟨g, k, none⟩ = some (.int .u8 (xs.getD k 0)) := by
          have h0 := HC4.out k (by omega)
          rw [T.out.cell (p := ⟨g, k, none⟩) (World.block_lt_of_cell? w5 ⟨g, k, none⟩ h0) (fun e => e), h0]
          rw [List.getD_eq_getElem?_getD, List.getD_eq_getElem?_getD, List.getElem?_append_left (by omega)]
        obtain ⟨x, hx⟩ : ∃ x, xs.getD k 0 = x := ⟨_, rfl⟩
        rw [hx] at c1 c2
        have hxx : (x != x) = false := by simp
        have hi1 : (k : Int) < (L : Int) := by omega
        have hi2 : (k : Int) < (L : Int) + 3 := by omega
        clear hc hx
        go_wp2_with fail
        go_quiet (fail)
        go_wp2_with fail
        go_roundw
        case rel => exact ⟨k + 1, by omega, by go_num, by first | exact T | exact ⟨T.out.os, T.out.tape, T.out.output, T.out.size, T.out.block⟩⟩
        case measure => simp [intOf]; omega
      · have d0 : wr.cell? ⟨g, L, none⟩ = some (.int .u8 1) := by
          have h0 := HC4.out L (by omega)
          rw [T.out.cell (p := ⟨g, L, none⟩) (World.block_lt_of_cell? w5 ⟨g, L, none⟩ h0) (fun e => e), h0, List.getD_eq_getElem?_getD, List.getElem?_append_right (by omega), hyl]
          simp
        have d1 : wr.cell? ⟨g, L + 1, none⟩ = some (.int .u8 2) := by
          have h0 := HC4.out (L + 1) (by omega)
          rw [T.out.cell (p := ⟨g, L + 1, none⟩) (World.block_lt_of_cell? w5 ⟨g, L + 1, none⟩ h0) (fun e => e), h0, List.getD_eq_getElem?_getD, List.getElem?_append_right (by omega), hyl, show L + 1 - L = 1 by omega]
          simp
        have d2 : wr.cell? ⟨g, L + 2, none⟩ = some (.int .u8 3) := by
          have h0 := HC4.out (L + 2) (by omega)
          rw [T.out.cell (p := ⟨g, L + 2, none⟩) (World.block_lt_of_cell? w5 ⟨g, L + 2, none⟩ h0) (fun e => e), h0, List.getD_eq_getElem?_getD, List.getElem?_append_right (by omega), hyl, show L + 2 - L = 2 by omega]
          simp
        have hkn : ¬ (k : Int) < (L : Int) := by omega
        have hi0 : (L : Int) < (L : Int) + 3 := by omega
        have B5 : Hid (Below w.heap.size w wr) := B4.out.trans (T.out.below B4.out.size (fun _ e => e.elim))
        clear hlt
        go_wp2_with fail
        refine (lives_any _).mono ?_
        rintro e w9 ⟨rfl, hb9⟩
        go_wp2_with fail
        go_ret
        exact ⟨rfl, B5.out.trans (hb9.mono B5.out.size)⟩
end Go.Proofs.Ytndbpbbhipiolaa
