import Derived.Test.YtokkippjbagmkaaGreatGNum
set_option maxRecDepth 100000
/-
  What the document's own reader of short numbers answers.
-/
namespace Go.Proofs.YtokkippjbagmkaaGreat
open Go.RowKit Pl
set_option linter.unusedVariables false

set_option maxHeartbeats 400000 in
theorem refNum_any (b o cap : Nat) (xs : List Int) (w : World) (hx : ∀ i, 0 ≤ xs.getD i 0 ∧ xs.getD i 0 ≤ 255) (hl : xs.length ≤ cap) (hm : cap ≤ maxLen)
    (hc : ∀ i, i < xs.length → w.cell? ⟨b, o + i, none⟩ = some (.int .u8 (xs.getD i 0))) :
    Calls Tryz.prog 66 #[.slice (some ⟨b, o, none⟩) xs.length cap] w fun e w' =>
      e = .returned (.tuple #[.int .i64 (resN (numRes xs)), .int .i64 (resK (numRes xs)), .int .i64 (resE (numRes xs))]) ∧ w' = w := by
  unfold maxLen at hm
  have HX : Hid (∀ i, 0 ≤ xs.getD i 0 ∧ xs.getD i 0 ≤ 255) := hx
  have HC : Hid (∀ i, i < xs.length → w.cell? ⟨b, o + i, none⟩ = some (.int .u8 (xs.getD i 0))) := hc
  have R0 : Hid (numFrom xs 5 0 = numRes xs) := rfl
  generalize numRes xs = R at *
  clear hx hc
  go_enter Tryz.func66, Tryz.ntmps66
  go_wp2
  go_loop [5, 6, 7] (fun n s i => ∃ k : Nat, k ≤ xs.length ∧ k ≤ 5 ∧ i = .int .i64 k ∧ n = .int .i64 (numAt xs k) ∧ s = .int .i64 (128 ^ k) ∧ Hid (numFrom xs (5 - k) k = R)) (fun _ _ i => 5 - (intOf i).toNat)
  case atStart => exact ⟨0, Nat.zero_le _, by omega, rfl, rfl, rfl, R0⟩
  case round =>
    obtain ⟨k, hk, hk5, rfl, rfl, rfl, hR⟩ := hrel
    have hbd := numAt_bd xs HX.out k
    by_cases hlt : k < xs.length ∧ k < 5
    · obtain ⟨hlt, hk5'⟩ := hlt
      obtain ⟨x, hxe⟩ : ∃ x, Hid (xs.getD k 0 = x) := ⟨_, rfl⟩
      obtain ⟨m, hme⟩ : ∃ m, Hid (numAt xs (k + 1) = m) := ⟨_, rfl⟩
      obtain ⟨p, hpe⟩ : ∃ p, Hid ((128 : Int) ^ k = p) := ⟨_, rfl⟩
      obtain ⟨n0, hn0⟩ : ∃ n0, Hid (numAt xs k = n0) := ⟨_, rfl⟩
      have hx1 : 0 ≤ x ∧ x ≤ 255 := by have h := HX.out k; rw [hxe.out] at h; exact h
      have hp1 : 0 < p ∧ p ≤ 268435456 := by rw [← hpe.out]; exact ⟨Int.pow_pos (by decide), pow_128_le k hk5'⟩
      have hn1 : 0 ≤ n0 ∧ n0 < p := by rw [← hpe.out, ← hn0.out]; exact hbd
      rw [hpe.out, hn0.out]
      clear hbd
      have hcx : w.cell? ⟨b, o + k, none⟩ = some (.int .u8 x) := by rw [HC.out k hlt, hxe.out]
      obtain ⟨q, hq⟩ : ∃ q, x % 128 * p = q := ⟨_, rfl⟩
      have hq0 : 0 ≤ q := by rw [← hq]; exact Int.mul_nonneg (by omega) (by omega)
      have hq1 : q ≤ 127 * 268435456 := by rw [← hq]; exact Int.mul_le_mul (by omega) hp1.2 (by omega) (by decide)
      have hnq : n0 + q = m := by rw [← hme.out, ← hq, ← hn0.out, ← hpe.out, ← hxe.out]; rfl
      have hm1 : 0 ≤ m ∧ m ≤ 34359738368 := by omega
      have HP : Hid (p * 128 = 128 ^ (k + 1)) := by show _ = _; rw [← hpe.out]; exact (Int.pow_succ _ _).symm
      by_cases h128 : 128 ≤ x
      · have hN := numFrom_more hk5' hlt (by rw [hxe.out]; exact h128) hR.out
        have HN : Hid (numFrom xs (5 - (k + 1)) (k + 1) = R) := hN
        clear hN
        go_wp2
        go_round
        case rel => exact ⟨k + 1, by omega, by omega, by go_num, by rw [hme.out], by rw [HP.out], HN⟩
        case measure => simp [intOf]; omega
      · by_cases hbad : 4294967295 < m ∨ (0 < k ∧ x = 0)
        · have hN := numFrom_bad hk5' hlt (by rw [hxe.out]; exact h128) (by rw [hme.out, hxe.out]; exact hbad) hR.out
          have HN : Hid (R = none) := hN
          have HB : Hid (4294967295 < m ∨ (0 < k ∧ x = 0)) := hbad
          clear hN hbad
          by_cases hz : x = 0
          · have hz' : (x == 0) = true := by simp [hz]
            have HZ : Hid (x = 0) := hz
            clear hz
            go_wp2
            all_goals
              first
              | (go_ret3; exact ⟨by rw [HN.out]; rfl, rfl⟩)
              | (exfalso; have := HB.out; have := HZ.out; omega)
          · have hz' : (x == 0) = false := by simp [hz]
            go_wp2
            all_goals
              first
              | (go_ret3; exact ⟨by rw [HN.out]; rfl, rfl⟩)
              | (exfalso; have := HB.out; omega)
        · have hN := numFrom_good hk5' hlt (by rw [hxe.out]; exact h128) (by rw [hme.out, hxe.out]; exact hbad) hR.out
          rw [hme.out] at hN
          have HN : Hid (R = some (m, k + 1)) := hN
          have HB : Hid (¬ (4294967295 < m ∨ (0 < k ∧ x = 0))) := hbad
          have hmm : ¬ 4294967295 < m := by omega
          clear hN hbad
          by_cases hz : x = 0
          · have hz' : (x == 0) = true := by simp [hz]
            have hk0 : ¬ 0 < k := by have := HB.out; omega
            have HZ : Hid (x = 0) := hz
            clear hz
            go_wp2
            all_goals
              first
              | (go_ret3; exact ⟨by rw [HN.out]; rfl, rfl⟩)
              | (exfalso; have := HZ.out; omega)
          · have hz' : (x == 0) = false := by simp [hz]
            go_wp2
            all_goals
              first
              | (go_ret3; exact ⟨by rw [HN.out]; rfl, rfl⟩)
              | (exfalso; omega)
    · have hN : R = none := numFrom_end hlt hk5 hR.out
      have HN : Hid (R = none) := hN
      clear hN
      by_cases hkl : k < xs.length
      · have hk5' : k = 5 := by omega
        subst hk5'
        go_wp2
        go_ret3
        exact ⟨by rw [HN.out]; rfl, rfl⟩
      · go_wp2
        go_ret3
        exact ⟨by rw [HN.out]; rfl, rfl⟩

theorem refNum_empty (a : Option Addr) (cap : Nat) (w : World) :
    Calls Tryz.prog 66 #[.slice a 0 cap] w fun e w' => e = .returned (.tuple #[.int .i64 0, .int .i64 0, .int .i64 3]) ∧ w' = w := by
  go_enter Tryz.func66, Tryz.ntmps66
  go_wp2
  go_loop [7] (fun i => i = .int .i64 0) (fun _ => 0)
  case atStart => rfl
  case round =>
    subst hrel
    go_wp2
    go_ret3
    exact ⟨rfl, rfl⟩

theorem refNum_rd (v : Value) (xs : List Int) (w : World) (h : Rd .u8 w v xs) (hx : By xs) :
    Calls Tryz.prog 66 #[v] w fun e w' =>
      e = .returned (.tuple #[.int .i64 (resN (numRes xs)), .int .i64 (resK (numRes xs)), .int .i64 (resE (numRes xs))]) ∧ w' = w := by
  obtain ⟨a, cap, rfl, hl, hm, _, h⟩ := h
  rcases h with rfl | ⟨b, o, rfl, hc⟩
  · exact refNum_empty a cap w
  · exact refNum_any b o cap xs w hx hl hm hc

end Go.Proofs.YtokkippjbagmkaaGreat
