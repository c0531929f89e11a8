/-
  A number of 32 bits, turned.
-/
import Derived.Test.YtfdnlkhipjjnbaaSPl
import Derived.Deep.RegionWith
import Derived.BigQuiet
namespace Go.Proofs.Ytfdnlkhipjjnbaa
open Go.RowKit Pl
set_option linter.unusedVariables false

/-- Bits moved n places down, those that fall out come in at the top. -/
def rot (n x : Nat) : Nat := x / 2 ^ n + x % 2 ^ n * 2 ^ (32 - n)

theorem rot_lt (n x : Nat) (h0 : 0 < n) (hn : n < 32) (hx : x < 4294967296) : rot n x < 4294967296 := by
  unfold rot
  have h1 : x / 2 ^ n < 2 ^ (32 - n) := by
    rw [Nat.div_lt_iff_lt_mul (Nat.pow_pos (by decide)), ← Nat.pow_add, show 32 - n + n = 32 by omega]
    omega
  have h2 : x % 2 ^ n < 2 ^ n := Nat.mod_lt _ (Nat.pow_pos (by decide))
  have h3 : x % 2 ^ n * 2 ^ (32 - n) + 2 ^ (32 - n) ≤ 2 ^ n * 2 ^ (32 - n) := by
    rw [← Nat.succ_mul]; exact Nat.mul_le_mul_right _ h2
  rw [← Nat.pow_add, show n + (32 - n) = 32 by omega] at h3
  omega

theorem rot_or (n x : Nat) (h0 : 0 < n) (hn : n < 32) (hx : x < 4294967296) : (x * 2 ^ (32 - n) % 4294967296) ||| (x / 2 ^ n) = rot n x := by
  have h1 : x / 2 ^ n < 2 ^ (32 - n) := by
    rw [Nat.div_lt_iff_lt_mul (Nat.pow_pos (by decide)), ← Nat.pow_add, show 32 - n + n = 32 by omega]
    omega
  have e : x * 2 ^ (32 - n) % 4294967296 = x % 2 ^ n * 2 ^ (32 - n) := by
    rw [show (4294967296 : Nat) = 2 ^ n * 2 ^ (32 - n) by rw [← Nat.pow_add, show n + (32 - n) = 32 by omega], Nat.mul_mod_mul_right]
  rw [e, nat_join (32 - n) _ _ (by simp) h1]
  unfold rot
  omega

theorem and31 (n : Nat) (h0 : 0 < n) (hn : n < 32) : Go.bits .and .u64 (IntKind.u64.wrap (-(n : Int))) 31 = ((32 - n : Nat) : Int) := by
  rw [IntKind.wrap_u64, show (-(n : Int)) % 18446744073709551616 = ((18446744073709551616 - n : Nat) : Int) by omega]
  have := u64_and_nat (18446744073709551616 - n) 31 (by omega) (by decide)
  rw [nat_mask5] at this
  rw [show (31 : Int) = ((31 : Nat) : Int) by rfl, this]
  omega

set_option maxRecDepth 100000 in
set_option maxHeartbeats 1000000 in
theorem rl_any (x n : Nat) (w : World) (h0 : 0 < n) (hn : n < 32) (hx : x < 4294967296) :
    Calls Try.prog 36 #[.int .u32 x, .int .i64 (-(n : Int))] w fun e w' => e = .returned (.int .u32 (rot n x : Int)) ∧ w' = w := by
  have hs := and31 n h0 hn
  obtain ⟨m, hm⟩ : ∃ m, 32 - n = m := ⟨_, rfl⟩
  rw [hm] at hs
  have hR : Go.bits .or .u32 ((x : Int) * 2 ^ m % 4294967296) ((x : Int) / 2 ^ n) = (rot n x : Int) := by
    rw [← rot_or n x h0 hn hx, ← hm, show (x : Int) * 2 ^ (32 - n) % 4294967296 = ((x * 2 ^ (32 - n) % 4294967296 : Nat) : Int) by rw [Int.natCast_emod, Int.natCast_mul, Int.natCast_pow]; rfl, show (x : Int) / 2 ^ n = ((x / 2 ^ n : Nat) : Int) by rw [Int.natCast_ediv, Int.natCast_pow]; rfl]
    exact u32_or_nat _ _ (Nat.mod_lt _ (by decide)) (Nat.lt_of_le_of_lt (Nat.div_le_self _ _) hx)
  have hm1 : (0 : Int) ≤ (m : Int) := by omega
  have hm2 : (m : Int) ≤ 31 := by omega
  have hn2 : (32 : Int) - (m : Int) = (n : Int) := by omega
  have hn3 : (32 - (m : Int)) % 18446744073709551616 = (n : Int) := by omega
  obtain ⟨R, hR2⟩ : ∃ R, rot n x = R := ⟨_, rfl⟩
  rw [hR2] at hR ⊢
  go_enter Try.func36, Try.ntmps36
  go_wp2
  go_ret
  exact ⟨rfl, rfl⟩

set_option maxRecDepth 100000 in
set_option maxHeartbeats 1000000 in
theorem turn_any (x n : Nat) (w : World) (h0 : 0 < n) (hn : n < 32) (hx : x < 4294967296) :
    Calls Try.prog 35 #[.int .u32 x, .int .i64 (n : Int)] w fun e w' => e = .returned (.int .u32 (rot n x : Int)) ∧ w' = w := by
  have hn3 : ((0 - (n : Int)) + 9223372036854775808) % 18446744073709551616 - 9223372036854775808 = -(n : Int) := by omega
  have hn4 : (-(n : Int) + 9223372036854775808) % 18446744073709551616 - 9223372036854775808 = -(n : Int) := by omega
  go_enter Try.func35, Try.ntmps35
  go_wp2_with (go_at_call 36; refine (rl_any x n _ h0 hn hx).mono ?_; rintro e w1 ⟨rfl, rfl⟩)
  go_ret
  exact ⟨rfl, rfl⟩

end Go.Proofs.Ytfdnlkhipjjnbaa
