/-
  FseWhole: a share of counts may be, and just the symbols that stand have some of it: for every counts and log the law answers true.
-/
import Derived.Test.YtkiejjnnjjdfjaaFFil
import Derived.Test.YtkiejjnnjjdfjaaFRefMay
import Derived.Test.YtkiejjnnjjdfjaaFLives
namespace Go.Proofs.Ytkiejjnnjjdfjaa
open Go.RowKit Pl
set_option linter.unusedVariables false

set_option maxRecDepth 100000 in
set_option maxHeartbeats 2000000 in
theorem fseWhole_walk (v1 : Value) (c : List Int) (log : Int) (w : World) (h1 : Rd .i64 w v1 c) :
    Calls Try.prog 4 #[v1, .int .i64 log] w fun e w' => e = .returned (.bool true) ∧ Below w.heap.size w w' := by
  have H1 : Hid (Rd .i64 w v1 c) := h1
  obtain ⟨a1, p1, e1, _, _, _, q1⟩ := h1
  subst e1
  have C1 : Hid (c = [] ∨ ∃ b o, a1 = some ⟨b, o, none⟩ ∧ ∀ i, i < c.length → w.cell? ⟨b, o + i, none⟩ = some (.int .i64 (c.getD i 0))) := q1
  clear q1
  have HSH : Hid (Calls Try.prog 9 #[.slice a1 c.length p1, .int .i64 log] w fun e w' => DPost (shR c log) w e w') := share_any _ c log w H1.out
  go_enter Try.func4, Try.ntmps4
  go_wp2_with fail
  refine HSH.out.mono ?_
  clear HSH
  cases hm : mayC c log with
  | false =>
    intro e w4 hD
    have he : shR c log = (1, []) := by unfold shR; rw [if_pos hm]
    rw [he] at hD
    obtain ⟨d, rfl, hb4, _, ho4⟩ := hD
    obtain ⟨da, dc, rfl⟩ : ∃ a c, d = .slice a 0 c := by obtain ⟨a, c, e, _⟩ := ho4.rd; exact ⟨a, c, e⟩
    have B4 : Hid (Below w.heap.size w w4) := hb4
    clear hb4 he hm ho4
    go_wp2_with fail
    refine (lives_any _).mono ?_
    rintro e w6 ⟨rfl, hb6⟩
    go_wp2_with fail
    go_ret
    exact ⟨rfl, B4.out.trans (hb6.mono B4.out.size)⟩
  | true =>
    obtain ⟨s, he, hms, hsl, hsp⟩ := share_may hm
    obtain ⟨lg, rfl, hsok⟩ := Sok.of hms
    have HMS : Hid (mayS s lg = true) := hms
    have HSP : Hid (∀ i, 0 < s.getD i 0 ↔ 0 < c.getD i 0) := hsp
    have hcl : c.length ≤ 64 := by unfold mayC at hm; rw [decide_eq_true_eq] at hm; exact hm.2.2.1
    intro e w4 hD
    rw [he] at hD
    obtain ⟨sv, rfl, hb4, _, ho4⟩ := hD
    have B4 : Hid (Below w.heap.size w w4) := hb4
    have O4 : Hid (Owns .i64 3 w4 sv s) := ho4
    obtain ⟨sb, sc, rfl, _, _, _, q4, _⟩ := ho4.shape hsok.pos
    have Q4 : Hid (∀ i, i < s.length → w4.cell? ⟨sb, i, none⟩ = some (.int .i64 (s.getD i 0))) := q4
    clear hb4 ho4 he hm hms hsp hsok q4
    go_wp2_with fail
    refine (refMay_rd _ s lg w4 O4.out.rd).mono ?_
    rintro e w5 ⟨rfl, rfl⟩
    rw [HMS.out]
    go_wp2_with fail
    go_loopw [8] (fun i wr => ∃ k : Nat, k ≤ c.length ∧ i = .int .i64 k ∧ Hid (Below w5.heap.size w5 wr)) (fun i _ => c.length - (intOf i).toNat)
    case atStart => exact ⟨0, Nat.zero_le _, rfl, Below.refl _ _⟩
    case round =>
      obtain ⟨k, hk, rfl, B5⟩ := hrel
      by_cases hlt : k < c.length
      · obtain ⟨b, o, ha, hc⟩ : ∃ b o, a1 = some ⟨b, o, none⟩ ∧ ∀ i, i < c.length → w.cell? ⟨b, o + i, none⟩ = some (.int .i64 (c.getD i 0)) := by
          rcases C1.out with rfl | h
          · simp at hlt
          · exact h
        subst ha
        obtain ⟨x, hx⟩ : ∃ x, Hid (c.getD k 0 = x) := ⟨_, rfl⟩
        have BB : Below w.heap.size w wr := B4.out.trans (B5.out.mono B4.out.size)
        have cx : wr.cell? ⟨b, o + k, none⟩ = some (.int .i64 x) := by
          have h0 := hc k hlt
          rw [BB.cell (p := ⟨b, o + k, none⟩) (World.block_lt_of_cell? w ⟨b, o + k, none⟩ h0), h0, hx.out]
        clear hc BB
        by_cases hks : k < s.length
        · obtain ⟨y, hy⟩ : ∃ y, Hid (s.getD k 0 = y) := ⟨_, rfl⟩
          have cy : wr.cell? ⟨sb, k, none⟩ = some (.int .i64 y) := by
            have h0 := Q4.out k hks
            rw [B5.out.cell (p := ⟨sb, k, none⟩) (World.block_lt_of_cell? w5 ⟨sb, k, none⟩ h0), h0, hy.out]
          have hiff := HSP.out k
          rw [hx.out, hy.out] at hiff
          have g1 : decide ((k : Int) < (s.length : Int)) = true := by rw [decide_eq_true_eq]; omega
          have g2 : decide (0 < x) = decide (0 < y) := by rw [decide_eq_decide]; exact hiff.symm
          by_cases hy0 : 0 < y
          · have g3 : decide (0 < y) = true := by rw [decide_eq_true_eq]; exact hy0
            rw [g3] at g2
            clear hiff hy0
            go_wp2_with fail
            go_quiet (fail)
            go_wp2_with fail
            go_roundw
            case rel => exact ⟨k + 1, by omega, by go_num, B5.out.trans (Below.of_drewN _ _ _)⟩
            case measure => simp [intOf]; omega
          · have g3 : decide (0 < y) = false := by rw [decide_eq_false_iff_not]; exact hy0
            rw [g3] at g2
            clear hiff hy0
            go_wp2_with fail
            go_quiet (fail)
            go_wp2_with fail
            go_roundw
            case rel => exact ⟨k + 1, by omega, by go_num, B5.out.trans (Below.of_drewN _ _ _)⟩
            case measure => simp [intOf]; omega
        · have g1 : decide ((k : Int) < (s.length : Int)) = false := by rw [decide_eq_false_iff_not]; omega
          have g2 : decide (0 < x) = false := by
            rw [decide_eq_false_iff_not]
            have hiff := HSP.out k
            rw [hx.out, gout (show s.length ≤ k by omega)] at hiff
            omega
          go_wp2_with fail
          go_quiet (fail)
          go_wp2_with fail
          go_roundw
          case rel => exact ⟨k + 1, by omega, by go_num, B5.out.trans (Below.of_drewN _ _ _)⟩
          case measure => simp [intOf]; omega
      · have BB : Hid (Below w.heap.size w wr) := B4.out.trans (B5.out.mono B4.out.size)
        go_wp2_with fail
        refine (lives_any _).mono ?_
        rintro e w6 ⟨rfl, hb6⟩
        go_wp2_with fail
        go_ret
        exact ⟨rfl, BB.out.trans (hb6.mono BB.out.size)⟩
end Go.Proofs.Ytkiejjnnjjdfjaa
