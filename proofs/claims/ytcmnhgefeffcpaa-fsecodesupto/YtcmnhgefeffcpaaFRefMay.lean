/-
  When a share may be: the document's word is the program's.
-/
import Derived.Test.YtcmnhgefeffcpaaFMay
namespace Go.Proofs.Ytcmnhgefeffcpaa
open Go.RowKit Pl
set_option linter.unusedVariables false

theorem refMay_bad (a : Option Addr) (n cap : Nat) (log : Int) (w : World) (h : log < 5 ∨ 9 < log ∨ n < 1 ∨ 64 < n) :
    Calls Try.prog 29 #[.slice a n cap, .int .i64 log] w fun e w' => e = .returned (.bool false) ∧ w' = w := by
  by_cases h1 : log < 5
  · clear h
    go_enter Try.func29, Try.ntmps29
    go_wp2
    go_ret
    exact ⟨rfl, rfl⟩
  · have g1 : decide (log < 5) = false := by rw [decide_eq_false_iff_not]; exact h1
    by_cases h2 : 9 < log
    · clear h
      go_enter Try.func29, Try.ntmps29
      go_wp2
      go_ret
      exact ⟨rfl, rfl⟩
    · have g2 : decide (9 < log) = false := by rw [decide_eq_false_iff_not]; exact h2
      by_cases h3 : n < 1
      · obtain rfl : n = 0 := by omega
        clear h
        go_enter Try.func29, Try.ntmps29
        go_wp2
        go_ret
        exact ⟨rfl, rfl⟩
      · have h4 : (64 : Int) < (n : Int) := by omega
        have g3 : decide ((n : Int) < 1) = false := by rw [decide_eq_false_iff_not]; omega
        clear h
        go_enter Try.func29, Try.ntmps29
        go_wp2
        go_ret
        exact ⟨rfl, rfl⟩

set_option maxRecDepth 100000 in
set_option maxHeartbeats 1000000 in
theorem refMay_any (b o cap : Nat) (s : List Int) (lg : Nat) (w : World) (h5 : 5 ≤ lg) (h9 : lg ≤ 9) (h1 : 1 ≤ s.length) (h2 : s.length ≤ 64)
    (hc : ∀ i, i < s.length → w.cell? ⟨b, o + i, none⟩ = some (.int .i64 (s.getD i 0))) :
    Calls Try.prog 29 #[.slice (some ⟨b, o, none⟩) s.length cap, .int .i64 lg] w fun e w' => e = .returned (.bool (mayS s lg)) ∧ w' = w := by
  have HC : Hid (∀ i, i < s.length → w.cell? ⟨b, o + i, none⟩ = some (.int .i64 (s.getD i 0))) := hc
  obtain ⟨y, hye⟩ : ∃ y, Hid (s.getD (s.length - 1) 0 = y) := ⟨_, rfl⟩
  have cy : w.cell? ⟨b, o + (s.length - 1), none⟩ = some (.int .i64 y) := by rw [hc _ (by omega), hye.out]
  obtain ⟨R, hR⟩ : ∃ R, Hid (mayS s lg = R) := ⟨_, rfl⟩
  obtain ⟨z, hz, hz1, hz2, hw, hpz⟩ := pow_z h5 h9
  have HPZ : Hid ((2 : Int) ^ lg = (z : Int)) := hpz
  have g1 : decide ((lg : Int) < 5) = false := by rw [decide_eq_false_iff_not]; omega
  have g2 : decide (9 < (lg : Int)) = false := by rw [decide_eq_false_iff_not]; omega
  have g3 : decide ((s.length : Int) < 1) = false := by rw [decide_eq_false_iff_not]; omega
  have g4 : decide (64 < (s.length : Int)) = false := by rw [decide_eq_false_iff_not]; omega
  rw [hR.out]
  clear hc hpz
  by_cases hy0 : y = 0
  · have g5 : (y == 0) = true := by simp [hy0]
    have HR : Hid (R = false) := by
      show R = false
      rw [← hR.out]
      unfold mayS
      exact decide_eq_false (fun h => h.2.2.2.2.2 (by rw [hye.out]; exact hy0))
    clear hy0
    go_enter Try.func29, Try.ntmps29
    go_wp2
    go_ret
    exact ⟨by rw [HR.out]; rfl, rfl⟩
  · have g5 : (y == 0) = false := by simp [hy0]
    have HY0 : Hid (y ≠ 0) := hy0
    clear hy0
    go_enter Try.func29, Try.ntmps29
    go_wp2
    go_loop [5, 6] (fun t i => ∃ (k : Nat) (r : Int), k ≤ s.length ∧ i = .int .i64 k ∧ t = .int .i64 r ∧ 0 ≤ r ∧ r ≤ 32768 ∧ Hid (cumI s k = r ∧ r ≤ 512 * k ∧ ∀ j, j < k → 0 ≤ s.getD j 0)) (fun _ i => s.length - (intOf i).toNat)
    case atStart => exact ⟨0, 0, Nat.zero_le _, rfl, rfl, by omega, by omega, rfl, by omega, fun j hj => by omega⟩
    case round =>
      obtain ⟨k, r, hk, rfl, rfl, hr0, hr1, hI⟩ := hrel
      by_cases hlt : k < s.length
      · obtain ⟨x, hxe⟩ : ∃ x, Hid (s.getD k 0 = x) := ⟨_, rfl⟩
        have cx : w.cell? ⟨b, o + k, none⟩ = some (.int .i64 x) := by rw [HC.out k hlt, hxe.out]
        by_cases hbad : x < 0 ∨ 512 < x
        · have HR : Hid (R = false) := by
            show R = false
            rw [← hR.out]
            unfold mayS
            refine decide_eq_false (fun h => ?_)
            have h4 := h.2.2.2.1
            have h6 := cumI_le h4 hlt
            have h7 := h4 k hlt
            rw [h.2.2.2.2.1, Int.toNat_natCast, HPZ.out] at h6
            rw [hxe.out] at h6 h7
            omega
          rcases hbad with hbad | hbad
          · go_wp2
            go_ret
            exact ⟨by rw [HR.out]; rfl, rfl⟩
          · go_wp2
            go_ret
            exact ⟨by rw [HR.out]; rfl, rfl⟩
        · have hx0 : 0 ≤ x := by omega
          have hx1 : x ≤ 512 := by omega
          have HI : Hid (cumI s (k + 1) = r + x ∧ r + x ≤ 512 * ((k + 1 : Nat) : Int) ∧ ∀ j, j < k + 1 → 0 ≤ s.getD j 0) := by
            refine ⟨by simp only [cumI]; rw [hI.out.1, hxe.out], by have := hI.out.2.1; omega, fun j hj => ?_⟩
            by_cases e : j < k
            · exact hI.out.2.2 j e
            · have : j = k := by omega
              subst this
              rw [hxe.out]; exact hx0
          have hg1 : decide (x < 0) = false := by rw [decide_eq_false_iff_not]; omega
          have hg2 : decide (512 < x) = false := by rw [decide_eq_false_iff_not]; omega
          have hrx : r + x ≤ 32768 := by have := HI.out.2.1; omega
          clear hbad
          go_wp2
          go_round
          case rel => exact ⟨k + 1, r + x, by omega, by go_num, by first | rfl | go_num, by omega, hrx, HI⟩
          case measure => simp [intOf]; omega
      · obtain rfl : k = s.length := by omega
        have HR : Hid (R = (r == (z : Int))) := by
          show R = _
          rw [← hR.out]
          unfold mayS
          rw [hI.out.1, hye.out, Bool.eq_iff_iff, decide_eq_true_eq, Int.toNat_natCast, HPZ.out, beq_iff_eq]
          exact ⟨fun h => h.2.2.2.2.1, fun h => ⟨by omega, by omega, h2, hI.out.2.2, h, HY0.out⟩⟩
        go_wp2
        go_ret
        exact ⟨by rw [HR.out]; rfl, rfl⟩

theorem refMay_rd (v : Value) (s : List Int) (log : Int) (w : World) (h : Rd .i64 w v s) :
    Calls Try.prog 29 #[v, .int .i64 log] w fun e w' => e = .returned (.bool (mayS s log)) ∧ w' = w := by
  obtain ⟨a, cap, rfl, _, _, _, h⟩ := h
  by_cases hb : log < 5 ∨ 9 < log ∨ s.length < 1 ∨ 64 < s.length
  · have hf : mayS s log = false := by
      unfold mayS
      refine decide_eq_false (fun h => ?_)
      obtain ⟨h1, h2, h3, h4, h5, h6⟩ := h
      rcases hb with hb | hb | hb | hb
      · omega
      · omega
      · have hl : s = [] := List.eq_nil_of_length_eq_zero (by omega)
        rw [hl] at h6
        exact h6 rfl
      · omega
    rw [hf]
    exact refMay_bad a _ cap log w hb
  · rcases h with rfl | ⟨b, o, rfl, hc⟩
    · simp at hb
    · obtain ⟨lg, rfl⟩ := Int.eq_ofNat_of_zero_le (show 0 ≤ log by omega)
      exact refMay_any b o cap s lg w (by omega) (by omega) (by omega) (by omega) hc
end Go.Proofs.Ytcmnhgefeffcpaa
