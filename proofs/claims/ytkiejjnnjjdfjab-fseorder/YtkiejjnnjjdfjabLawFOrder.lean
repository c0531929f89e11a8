/-
  FseOrder: who stands more often has a share that is lesser by at most as many as there are symbols: for every counts and log the law answers true.
-/
import Derived.Test.YtkiejjnnjjdfjabFFil
import Derived.Test.YtkiejjnnjjdfjabFLives
namespace Go.Proofs.Ytkiejjnnjjdfjab
open Go.RowKit Pl
set_option linter.unusedVariables false

set_option maxRecDepth 100000 in
set_option maxHeartbeats 2000000 in
theorem fseOrder_walk (v1 : Value) (c : List Int) (log : Int) (w : World) (h1 : Rd .i64 w v1 c) :
    Calls Try.prog 3 #[v1, .int .i64 log] w fun e w' => e = .returned (.bool true) ∧ Below w.heap.size w w' := by
  have H1 : Hid (Rd .i64 w v1 c) := h1
  obtain ⟨a1, p1, e1, _, _, _, q1⟩ := h1
  subst e1
  have C1 : Hid (c = [] ∨ ∃ b o, a1 = some ⟨b, o, none⟩ ∧ ∀ i, i < c.length → w.cell? ⟨b, o + i, none⟩ = some (.int .i64 (c.getD i 0))) := q1
  clear q1
  have HSH : Hid (Calls Try.prog 4 #[.slice a1 c.length p1, .int .i64 log] w fun e w' => DPost (shR c log) w e w') := share_any _ c log w H1.out
  go_enter Try.func3, Try.ntmps3
  go_wp2_with fail
  refine HSH.out.mono ?_
  clear HSH
  cases hm : mayC c log with
  | false =>
    intro e w4 hD
    have he : shR c log = (1, []) := by unfold shR; rw [if_pos hm]
    rw [he] at hD
    obtain ⟨d, rfl, hb4, _, ho4⟩ := hD
    have B4 : Hid (Below w.heap.size w w4) := hb4
    clear hb4 he hm ho4
    go_wp2_with fail
    refine (lives_any _).mono ?_
    rintro e w6 ⟨rfl, hb6⟩
    go_wp2_with fail
    go_ret
    exact ⟨rfl, B4.out.trans (hb6.mono B4.out.size)⟩
  | true =>
    obtain ⟨s, he, hsl, hsb, hso⟩ := share_order hm
    have hcl : c.length ≤ 64 := by unfold mayC at hm; rw [decide_eq_true_eq] at hm; exact hm.2.2.1
    have hs0 : 0 < s.length := by
      obtain ⟨s2, he2, hms2, _, _⟩ := share_may hm
      rw [he] at he2
      cases he2
      obtain ⟨lg, _, hsok⟩ := Sok.of hms2
      exact hsok.pos
    have HSB : Hid (∀ i, 0 ≤ s.getD i 0 ∧ s.getD i 0 ≤ 1024) := hsb
    have HSO : Hid (∀ a b, c.getD b 0 < c.getD a 0 → s.getD b 0 ≤ s.getD a 0 + (s.length : Int)) := hso
    intro e w4 hD
    rw [he] at hD
    obtain ⟨sv, rfl, hb4, _, ho4⟩ := hD
    have B4 : Hid (Below w.heap.size w w4) := hb4
    obtain ⟨sb, sc, rfl, _, _, _, q4, _⟩ := ho4.shape hs0
    have Q4 : Hid (∀ i, i < s.length → w4.cell? ⟨sb, i, none⟩ = some (.int .i64 (s.getD i 0))) := q4
    obtain ⟨b, o, ha, hc⟩ : ∃ b o, a1 = some ⟨b, o, none⟩ ∧ ∀ i, i < c.length → w.cell? ⟨b, o + i, none⟩ = some (.int .i64 (c.getD i 0)) := by
      rcases C1.out with rfl | h
      · simp at hsl; rw [hsl] at hs0; simp at hs0
      · exact h
    subst ha
    have QC : Hid (∀ i, i < c.length → w4.cell? ⟨b, o + i, none⟩ = some (.int .i64 (c.getD i 0))) := fun i hi => by
      have h0 := hc i hi
      rw [B4.out.cell (p := ⟨b, o + i, none⟩) (World.block_lt_of_cell? w ⟨b, o + i, none⟩ h0), h0]
    clear hb4 ho4 he hm q4 hsb hso hc C1
    go_wp2_with fail
    go_loopw [7] (fun i wr => ∃ k : Nat, k ≤ s.length ∧ i = .int .i64 k ∧ Hid (Below w4.heap.size w4 wr)) (fun i _ => s.length - (intOf i).toNat)
    case atStart => exact ⟨0, Nat.zero_le _, rfl, Below.refl _ _⟩
    case round =>
      obtain ⟨k, hk, rfl, B5⟩ := hrel
      by_cases hlt : k < s.length
      · obtain ⟨x, hx⟩ : ∃ x, Hid (c.getD k 0 = x) := ⟨_, rfl⟩
        obtain ⟨y, hy⟩ : ∃ y, Hid (s.getD k 0 = y) := ⟨_, rfl⟩
        have hyb := HSB.out k
        rw [hy.out] at hyb
        go_wp2_with fail
        go_loopw [8] (fun i wr => ∃ m : Nat, m ≤ s.length ∧ i = .int .i64 m ∧ Hid (Below w4.heap.size w4 wr)) (fun i _ => s.length - (intOf i).toNat)
        case atStart => exact ⟨0, Nat.zero_le _, rfl, B5⟩
        case round =>
          clear B5
          obtain ⟨m, hm, rfl, B6⟩ := hrel
          by_cases hlm : m < s.length
          · obtain ⟨x2, hx2⟩ : ∃ x, Hid (c.getD m 0 = x) := ⟨_, rfl⟩
            obtain ⟨y2, hy2⟩ : ∃ y, Hid (s.getD m 0 = y) := ⟨_, rfl⟩
            have cx : wr.cell? ⟨b, o + k, none⟩ = some (.int .i64 x) := by
              have h0 := QC.out k (by omega)
              rw [B6.out.cell (p := ⟨b, o + k, none⟩) (World.block_lt_of_cell? w4 ⟨b, o + k, none⟩ h0), h0, hx.out]
            have cx2 : wr.cell? ⟨b, o + m, none⟩ = some (.int .i64 x2) := by
              have h0 := QC.out m (by omega)
              rw [B6.out.cell (p := ⟨b, o + m, none⟩) (World.block_lt_of_cell? w4 ⟨b, o + m, none⟩ h0), h0, hx2.out]
            have cy : wr.cell? ⟨sb, k, none⟩ = some (.int .i64 y) := by
              have h0 := Q4.out k hlt
              rw [B6.out.cell (p := ⟨sb, k, none⟩) (World.block_lt_of_cell? w4 ⟨sb, k, none⟩ h0), h0, hy.out]
            have cy2 : wr.cell? ⟨sb, m, none⟩ = some (.int .i64 y2) := by
              have h0 := Q4.out m hlm
              rw [B6.out.cell (p := ⟨sb, m, none⟩) (World.block_lt_of_cell? w4 ⟨sb, m, none⟩ h0), h0, hy2.out]
            have hkc : (k : Int) < (c.length : Int) := by omega
            have hmc : (m : Int) < (c.length : Int) := by omega
            by_cases hgt : x2 < x
            · have g1 : decide (x2 < x) = true := by rw [decide_eq_true_eq]; exact hgt
              have hle := HSO.out k m (by rw [hx.out, hx2.out]; exact hgt)
              rw [hy.out, hy2.out] at hle
              have g2 : decide (y + (s.length : Int) < y2) = false := by rw [decide_eq_false_iff_not]; omega
              clear hgt
              go_wp2_with fail
              go_quiet (fail)
              go_wp2_with fail
              go_roundw
              case rel => exact ⟨m + 1, by omega, by go_num, B6.out.trans (Below.of_drewN _ _ _)⟩
              case measure => simp [intOf]; omega
            · have g1 : decide (x2 < x) = false := by rw [decide_eq_false_iff_not]; exact hgt
              clear hgt
              go_wp2_with fail
              go_quiet (fail)
              go_wp2_with fail
              go_roundw
              case rel => exact ⟨m + 1, by omega, by go_num, B6.out.trans (Below.of_drewN _ _ _)⟩
              case measure => simp [intOf]; omega
          · go_wp2_with fail
            go_roundw
            case rel => exact ⟨k + 1, by omega, by go_num, B6⟩
            case measure => simp [intOf]; omega
      · have BB : Hid (Below w.heap.size w wr) := B4.out.trans (B5.out.mono B4.out.size)
        go_wp2_with fail
        refine (lives_any _).mono ?_
        rintro e w6 ⟨rfl, hb6⟩
        go_wp2_with fail
        go_ret
        exact ⟨rfl, BB.out.trans (hb6.mono BB.out.size)⟩
end Go.Proofs.Ytkiejjnnjjdfjab
