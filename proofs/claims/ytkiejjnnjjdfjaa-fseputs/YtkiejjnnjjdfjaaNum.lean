/-
  What the two readers of short numbers answer: the number, its bytes, the word, as the plain function has it.
-/
import Derived.Test.YtkiejjnnjjdfjaaProg
import Derived.Test.YtkiejjnnjjdfjaaMem
import Derived.WalkKit
import Derived.WalkSpells
namespace Go.Proofs.Ytkiejjnnjjdfjaa
open Go.RowKit Pl
set_option linter.unusedVariables false



/-- A number below 2^j, and one laid above it: 'or' is a sum. -/
theorem or_above (n x : Int) (j : Nat) (hn : 0 ≤ n) (hn1 : n < 2 ^ j) (hx : 0 ≤ x) (hx1 : x * 2 ^ j < 2 ^ 62) (hj : j ≤ 62) : bits BinOp.or IntKind.i64 n (x * 2 ^ j) = n + x * 2 ^ j := by
  obtain ⟨a, rfl⟩ := Int.eq_ofNat_of_zero_le hn
  obtain ⟨c, rfl⟩ := Int.eq_ofNat_of_zero_le hx
  have e : ((c : Int) * 2 ^ j) = ((c * 2 ^ j : Nat) : Int) := by push_cast; rfl
  have ha : a < 2 ^ j := by exact_mod_cast hn1
  have ha' : a < 2 ^ 62 := Nat.lt_of_lt_of_le ha (Nat.pow_le_pow_right (by decide) hj)
  have hc : c * 2 ^ j < 2 ^ 62 := by exact_mod_cast hx1
  rw [e, (bits_nat .i64 62 (by decide) wraps_i64 a _ ha' hc).2, or_shift a c j ha]
  push_cast
  rfl

theorem or_num (xs : List Int) (k : Nat) (x : Int) (hxe : xs.getD k 0 = x) (hk : k < 5) (hb : 0 ≤ numAt xs k ∧ numAt xs k < 128 ^ k) :
    bits BinOp.or IntKind.i64 (numAt xs k) (wrap64 (x % 128 * 2 ^ (7 * k))) = numAt xs (k + 1) := by
  have hp := pow_128_le k hk
  have hp0 : (0 : Int) < 128 ^ k := Int.pow_pos (by decide)
  have hy0 : 0 ≤ x % 128 := by omega
  have hy1 : x % 128 ≤ 127 := by omega
  simp only [numAt, hxe]
  rw [pow_128] at *
  generalize x % 128 = y at *
  have hz0 : 0 ≤ y * 2 ^ (7 * k) := Int.mul_nonneg hy0 (Int.le_of_lt hp0)
  have hz1 : y * 2 ^ (7 * k) ≤ 127 * 268435456 := Int.mul_le_mul hy1 hp (Int.le_of_lt hp0) (by decide)
  rw [IntWalk.wrap64_in _ ⟨by omega, by omega⟩]
  exact or_above _ _ _ hb.1 hb.2 hy0 (by omega) (by omega)

set_option maxHeartbeats 400000 in
theorem num_any (b o cap : Nat) (xs : List Int) (w : World) (hx : ∀ i, 0 ≤ xs.getD i 0 ∧ xs.getD i 0 ≤ 255) (hl : xs.length ≤ cap) (hm : cap ≤ maxLen)
    (hc : ∀ i, i < xs.length → w.cell? ⟨b, o + i, none⟩ = some (.int .u8 (xs.getD i 0))) :
    Calls Try.prog 31 #[.slice (some ⟨b, o, none⟩) xs.length cap] w fun e w' =>
      e = .returned (.tuple #[.int .i64 (resN (numRes xs)), .int .i64 (resK (numRes xs)), .int .i64 (resE (numRes xs))]) ∧ w' = w := by
  unfold maxLen at hm
  have HX : Hid (∀ i, 0 ≤ xs.getD i 0 ∧ xs.getD i 0 ≤ 255) := hx
  have HC : Hid (∀ i, i < xs.length → w.cell? ⟨b, o + i, none⟩ = some (.int .u8 (xs.getD i 0))) := hc
  have R0 : Hid (numFrom xs 5 0 = numRes xs) := rfl
  generalize numRes xs = R at *
  clear hx hc
  by_cases h5 : xs.length ≤ 5
  all_goals
    go_enter Try.func31, Try.ntmps31
    go_wp2
    go_loop [5, 15] (fun n i => ∃ k : Nat, k ≤ xs.length ∧ k ≤ 5 ∧ i = .int .i64 k ∧ n = .int .i64 (numAt xs k) ∧ Hid (numFrom xs (5 - k) k = R)) (fun _ i => 5 - (intOf i).toNat)
    case atStart => exact ⟨0, Nat.zero_le _, by omega, rfl, rfl, R0⟩
    case round =>
      obtain ⟨k, hk, hk5, rfl, rfl, hR⟩ := hrel
      have hbd := numAt_bd xs HX.out k
      by_cases hlt : k < xs.length ∧ k < 5
      · obtain ⟨hlt, hk5'⟩ := hlt
        obtain ⟨x, hxe⟩ : ∃ x, Hid (xs.getD k 0 = x) := ⟨_, rfl⟩
        obtain ⟨m, hme⟩ : ∃ m, Hid (numAt xs (k + 1) = m) := ⟨_, rfl⟩
        have hx1 : 0 ≤ x ∧ x ≤ 255 := by have h := HX.out k; rw [hxe.out] at h; exact h
        have hcx : w.cell? ⟨b, o + k, none⟩ = some (.int .u8 x) := by rw [HC.out k hlt, hxe.out]
        have hor : bits BinOp.or IntKind.i64 (numAt xs k) (wrap64 (x % 128 * 2 ^ (7 * k))) = m := by rw [← hme.out]; exact or_num xs k x hxe.out hk5' hbd
        clear hbd
        by_cases h128 : 128 ≤ x
        · have hN := numFrom_more hk5' hlt (by rw [hxe.out]; exact h128) hR.out
          have HN : Hid (numFrom xs (5 - (k + 1)) (k + 1) = R) := hN
          clear hN
          go_wp2
          go_round
          case rel => exact ⟨k + 1, by omega, by omega, by go_num, by rw [hme.out], HN⟩
          case measure => simp [intOf]; omega
        · by_cases hbad : 4294967295 < m ∨ (0 < k ∧ x = 0)
          · have hN := numFrom_bad hk5' hlt (by rw [hxe.out]; exact h128) (by rw [hme.out, hxe.out]; exact hbad) hR.out
            have HN : Hid (R = none) := hN
            have HB : Hid (4294967295 < m ∨ (0 < k ∧ x = 0)) := hbad
            clear hN hbad
            go_wp2
            all_goals
              first
              | (go_ret3; exact ⟨by rw [HN.out]; rfl, rfl⟩)
              | (exfalso; have := HB.out; omega)
          · have hN := numFrom_good hk5' hlt (by rw [hxe.out]; exact h128) (by rw [hme.out, hxe.out]; exact hbad) hR.out
            rw [hme.out] at hN
            have HN : Hid (R = some (m, k + 1)) := hN
            have HB : Hid (¬ (4294967295 < m ∨ (0 < k ∧ x = 0))) := hbad
            clear hN hbad
            go_wp2
            all_goals
              first
              | (go_ret3; exact ⟨by rw [HN.out]; rfl, rfl⟩)
              | (exfalso; have := HB.out; omega)
              | (have hk0 : k = 0 := by omega
                 subst hk0
                 go_ret3
                 exact ⟨by rw [HN.out]; rfl, rfl⟩)
      · have hN : R = none := numFrom_end hlt hk5 hR.out
        have HN : Hid (R = none) := hN
        clear hN
        have hk' : k = xs.length ∨ k = 5 := by omega
        go_wp2
        go_ret3
        exact ⟨by rw [HN.out]; rfl, rfl⟩

theorem num_empty (a : Option Addr) (cap : Nat) (w : World) :
    Calls Try.prog 31 #[.slice a 0 cap] w fun e w' => e = .returned (.tuple #[.int .i64 0, .int .i64 0, .int .i64 3]) ∧ w' = w := by
  cases a
  all_goals
    go_enter Try.func31, Try.ntmps31
    go_wp2
    go_loop [15] (fun i => i = .int .i64 0) (fun _ => 0)
    case atStart => rfl
    case round =>
      subst hrel
      go_wp2
      go_ret3
      exact ⟨rfl, rfl⟩

/-- Short numbers off a row of bytes that can be read. -/
theorem num_rd (v : Value) (xs : List Int) (w : World) (h : Rd .u8 w v xs) (hx : By xs) :
    Calls Try.prog 31 #[v] w fun e w' =>
      e = .returned (.tuple #[.int .i64 (resN (numRes xs)), .int .i64 (resK (numRes xs)), .int .i64 (resE (numRes xs))]) ∧ w' = w := by
  obtain ⟨a, cap, rfl, hl, hm, _, h⟩ := h
  rcases h with rfl | ⟨b, o, rfl, hc⟩
  · exact num_empty a cap w
  · exact num_any b o cap xs w hx hl hm hc

end Go.Proofs.Ytkiejjnnjjdfjaa
