/-
  CutCuts: bytes are cut just where the document says: for every bytes the law answers true.
-/
import Derived.Test.YtfdnlkhipjjnbaaCRefC
import Derived.Test.YtfdnlkhipjjnbaaCLives
import Derived.Deep.QuietTactic
import Derived.BigQuiet
namespace Go.Proofs.Ytfdnlkhipjjnbaa
open Go.RowKit Pl
set_option linter.unusedVariables false

set_option maxRecDepth 100000 in
set_option maxHeartbeats 4000000 in
theorem cutCuts_walk (v : Value) (xs : List Int) (w : World) (h1 : Rd .u8 w v xs) (hb : By xs) :
    Calls Try.prog 4 #[v] w fun e w' => e = .returned (.bool true) ∧ Below w.heap.size w w' := by
  obtain ⟨a, cap, hv, hlc, hcm, _⟩ := id h1
  subst hv
  have H1 : Hid (Rd .u8 w (.slice a xs.length cap) xs) := h1
  have HB : Hid (By xs) := hb
  have hm : xs.length ≤ 9223372036854775807 := by unfold maxLen at hcm; omega
  clear h1 hb hcm
  by_cases c : xs.length > 65536
  · have R1 : Hid (Rd .u8 w (.slice a 65536 cap) (xs.take 65536)) := rd_cut H1.out 65536 (by omega)
    have HB1 : Hid (By (xs.take 65536)) := by_take HB.out _
    have HL1 : Hid ((xs.take 65536).length ≤ 1000000) := by show _ ≤ _; rw [List.length_take]; omega
    have hc1 : (65536 : Int) < (xs.length : Int) := by omega
    have hcap : 65536 ≤ cap := by omega
    go_enter Try.func4, Try.ntmps4
    go_wp2_with fail
    refine (cut_any _ _ w R1.out HB1.out HL1.out).mono ?_
    rintro e w1 ⟨⟨v1, ls, rfl, o1, cs1, n1⟩, b1⟩
    have B1 : Hid (Below w.heap.size w w1) := b1
    have R2 : Hid (Rd .u8 w1 (.slice a 65536 cap) (xs.take 65536)) := R1.out.below b1
    have Q1 : Hid (Rd .i64 w1 v1 (il ls)) := o1.rd
    have HC1 : Hid (Cs (bN (xs.take 65536)) (xs.take 65536).length ls) := cs1
    clear o1 cs1 n1 b1
    go_wp2_with fail
    refine (refCut_any _ _ w1 R2.out HB1.out HL1.out).mono ?_
    rintro e w2 ⟨⟨v2, ms, rfl, o2, cs2, n2⟩, b2⟩
    have e12 : ms = ls := cs2.uniq HC1.out
    subst e12
    have B2 : Hid (Below w.heap.size w w2) := B1.out.trans (b2.mono B1.out.size)
    have HLS : Hid (ms.length ≤ 1000000) := Nat.le_trans cs2.len HL1.out
    obtain ⟨a1, c1, hv1, hc1, hm1, _, hcell1⟩ := Q1.out.below b2
    obtain ⟨a2, c2, hv2, hc2, hm2, _, hcell2⟩ := o2.rd
    rw [il_len] at hv1 hv2 hc1 hc2 hcell1 hcell2
    obtain ⟨N, hN⟩ : ∃ N, ms.length = N := ⟨_, rfl⟩
    rw [hN] at hv1 hv2 hc1 hc2 hcell1 hcell2 HLS
    have HK1 : Hid (il ms = [] ∨ ∃ b o, a1 = some ⟨b, o, none⟩ ∧ ∀ i, i < N → w2.cell? ⟨b, o + i, none⟩ = some (.int .i64 ((il ms).getD i 0))) := hcell1
    have HK2 : Hid (il ms = [] ∨ ∃ b o, a2 = some ⟨b, o, none⟩ ∧ ∀ i, i < N → w2.cell? ⟨b, o + i, none⟩ = some (.int .i64 ((il ms).getD i 0))) := hcell2
    have HNL : Hid ((il ms).length = N) := by show _ = _; rw [il_len]; exact hN
    have hNs := HLS.out
    have k1 : c1 ≤ 9223372036854775807 := by unfold maxLen at hm1; omega
    have k2 : c2 ≤ 9223372036854775807 := by unfold maxLen at hm2; omega
    subst hv1
    subst hv2
    clear hcell1 hcell2 o2 cs2 n2 b2 hm1 hm2 hN Q1 R2 HC1
    go_wp2_with fail
    go_loopw [5] (fun i wr => ∃ k : Nat, k ≤ N ∧ i = .int .i64 k ∧ Hid (Below w2.heap.size w2 wr)) (fun i _ => N - (intOf i).toNat)
    case atStart => exact ⟨0, Nat.zero_le _, rfl, Below.refl _ _⟩
    case round =>
      obtain ⟨k, hk, rfl, BW⟩ := hrel
      by_cases hlt : k < N
      · obtain ⟨x1, y1, ha1, hx1⟩ : ∃ b o, a1 = some ⟨b, o, none⟩ ∧ ∀ i, i < N → w2.cell? ⟨b, o + i, none⟩ = some (.int .i64 ((il ms).getD i 0)) := by
          rcases HK1.out with h | h
          · have := HNL.out; rw [h] at this; simp at this; omega
          · exact h
        obtain ⟨x2, y2, ha2, hx2⟩ : ∃ b o, a2 = some ⟨b, o, none⟩ ∧ ∀ i, i < N → w2.cell? ⟨b, o + i, none⟩ = some (.int .i64 ((il ms).getD i 0)) := by
          rcases HK2.out with h | h
          · have := HNL.out; rw [h] at this; simp at this; omega
          · exact h
        subst ha1
        subst ha2
        have d1 : wr.cell? ⟨x1, y1 + k, none⟩ = some (.int .i64 ((il ms).getD k 0)) := by
          rw [BW.out.cell (p := ⟨x1, y1 + k, none⟩) (World.block_lt_of_cell? w2 ⟨x1, y1 + k, none⟩ (hx1 k hlt))]; exact hx1 k hlt
        have d2 : wr.cell? ⟨x2, y2 + k, none⟩ = some (.int .i64 ((il ms).getD k 0)) := by
          rw [BW.out.cell (p := ⟨x2, y2 + k, none⟩) (World.block_lt_of_cell? w2 ⟨x2, y2 + k, none⟩ (hx2 k hlt))]; exact hx2 k hlt
        generalize (il ms).getD k 0 = z at d1 d2
        have hi1 : (k : Int) < (N : Int) := by omega
        clear hx1 hx2
        go_wp2_with fail
        go_quiet (fail)
        go_wp2_with fail
        go_roundw
        case rel => exact ⟨k + 1, by omega, by go_num, BW.out.trans (Below.of_drewN _ _ _)⟩
        case measure => simp [intOf]; omega
      · have hkn : ¬ (k : Int) < (N : Int) := by omega
        go_wp2_with fail
        refine (lives_anyC _).mono ?_
        rintro e w9 ⟨rfl, b9⟩
        go_wp2_with fail
        go_ret
        exact ⟨rfl, B2.out.trans ((BW.out.trans (b9.mono BW.out.size)).mono B2.out.size)⟩
  · have hc1 : ¬ (65536 : Int) < (xs.length : Int) := by omega
    have R1 := H1
    have HB1 := HB
    have HL1 : Hid (xs.length ≤ 1000000) := by show _ ≤ _; omega
    go_enter Try.func4, Try.ntmps4
    go_wp2_with fail
    refine (cut_any _ _ w R1.out HB1.out HL1.out).mono ?_
    rintro e w1 ⟨⟨v1, ls, rfl, o1, cs1, n1⟩, b1⟩
    have B1 : Hid (Below w.heap.size w w1) := b1
    have R2 : Hid (Rd .u8 w1 (.slice a xs.length cap) xs) := R1.out.below b1
    have Q1 : Hid (Rd .i64 w1 v1 (il ls)) := o1.rd
    have HC1 : Hid (Cs (bN xs) xs.length ls) := cs1
    clear o1 cs1 n1 b1
    go_wp2_with fail
    refine (refCut_any _ _ w1 R2.out HB1.out HL1.out).mono ?_
    rintro e w2 ⟨⟨v2, ms, rfl, o2, cs2, n2⟩, b2⟩
    have e12 : ms = ls := cs2.uniq HC1.out
    subst e12
    have B2 : Hid (Below w.heap.size w w2) := B1.out.trans (b2.mono B1.out.size)
    have HLS : Hid (ms.length ≤ 1000000) := Nat.le_trans cs2.len HL1.out
    obtain ⟨a1, c1, hv1, hc1, hm1, _, hcell1⟩ := Q1.out.below b2
    obtain ⟨a2, c2, hv2, hc2, hm2, _, hcell2⟩ := o2.rd
    rw [il_len] at hv1 hv2 hc1 hc2 hcell1 hcell2
    obtain ⟨N, hN⟩ : ∃ N, ms.length = N := ⟨_, rfl⟩
    rw [hN] at hv1 hv2 hc1 hc2 hcell1 hcell2 HLS
    have HK1 : Hid (il ms = [] ∨ ∃ b o, a1 = some ⟨b, o, none⟩ ∧ ∀ i, i < N → w2.cell? ⟨b, o + i, none⟩ = some (.int .i64 ((il ms).getD i 0))) := hcell1
    have HK2 : Hid (il ms = [] ∨ ∃ b o, a2 = some ⟨b, o, none⟩ ∧ ∀ i, i < N → w2.cell? ⟨b, o + i, none⟩ = some (.int .i64 ((il ms).getD i 0))) := hcell2
    have HNL : Hid ((il ms).length = N) := by show _ = _; rw [il_len]; exact hN
    have hNs := HLS.out
    have k1 : c1 ≤ 9223372036854775807 := by unfold maxLen at hm1; omega
    have k2 : c2 ≤ 9223372036854775807 := by unfold maxLen at hm2; omega
    subst hv1
    subst hv2
    clear hcell1 hcell2 o2 cs2 n2 b2 hm1 hm2 hN Q1 R2 HC1
    go_wp2_with fail
    go_loopw [5] (fun i wr => ∃ k : Nat, k ≤ N ∧ i = .int .i64 k ∧ Hid (Below w2.heap.size w2 wr)) (fun i _ => N - (intOf i).toNat)
    case atStart => exact ⟨0, Nat.zero_le _, rfl, Below.refl _ _⟩
    case round =>
      obtain ⟨k, hk, rfl, BW⟩ := hrel
      by_cases hlt : k < N
      · obtain ⟨x1, y1, ha1, hx1⟩ : ∃ b o, a1 = some ⟨b, o, none⟩ ∧ ∀ i, i < N → w2.cell? ⟨b, o + i, none⟩ = some (.int .i64 ((il ms).getD i 0)) := by
          rcases HK1.out with h | h
          · have := HNL.out; rw [h] at this; simp at this; omega
          · exact h
        obtain ⟨x2, y2, ha2, hx2⟩ : ∃ b o, a2 = some ⟨b, o, none⟩ ∧ ∀ i, i < N → w2.cell? ⟨b, o + i, none⟩ = some (.int .i64 ((il ms).getD i 0)) := by
          rcases HK2.out with h | h
          · have := HNL.out; rw [h] at this; simp at this; omega
          · exact h
        subst ha1
        subst ha2
        have d1 : wr.cell? ⟨x1, y1 + k, none⟩ = some (.int .i64 ((il ms).getD k 0)) := by
          rw [BW.out.cell (p := ⟨x1, y1 + k, none⟩) (World.block_lt_of_cell? w2 ⟨x1, y1 + k, none⟩ (hx1 k hlt))]; exact hx1 k hlt
        have d2 : wr.cell? ⟨x2, y2 + k, none⟩ = some (.int .i64 ((il ms).getD k 0)) := by
          rw [BW.out.cell (p := ⟨x2, y2 + k, none⟩) (World.block_lt_of_cell? w2 ⟨x2, y2 + k, none⟩ (hx2 k hlt))]; exact hx2 k hlt
        generalize (il ms).getD k 0 = z at d1 d2
        have hi1 : (k : Int) < (N : Int) := by omega
        clear hx1 hx2
        go_wp2_with fail
        go_quiet (fail)
        go_wp2_with fail
        go_roundw
        case rel => exact ⟨k + 1, by omega, by go_num, BW.out.trans (Below.of_drewN _ _ _)⟩
        case measure => simp [intOf]; omega
      · have hkn : ¬ (k : Int) < (N : Int) := by omega
        go_wp2_with fail
        refine (lives_anyC _).mono ?_
        rintro e w9 ⟨rfl, b9⟩
        go_wp2_with fail
        go_ret
        exact ⟨rfl, B2.out.trans ((BW.out.trans (b9.mono BW.out.size)).mono B2.out.size)⟩
end Go.Proofs.Ytfdnlkhipjjnbaa
