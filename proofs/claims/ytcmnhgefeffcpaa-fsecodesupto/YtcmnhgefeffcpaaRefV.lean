/-
  The number of some bits of a row, by the document.
-/
import Derived.Test.YtcmnhgefeffcpaaE64
import Derived.Test.YtcmnhgefeffcpaaTkP
namespace Go.Proofs.Ytcmnhgefeffcpaa
open Go.RowKit Pl
set_option linter.unusedVariables false

set_option maxHeartbeats 400000 in
theorem value_any (b o cap p n : Nat) (xs : List Int) (w : World) (hx : Bits xs) (hl : xs.length ≤ 4611686018427387904) (hn : p + n ≤ xs.length) (h32 : n ≤ 32)
    (hc : ∀ i, i < xs.length → w.cell? ⟨b, o + i, none⟩ = some (.int .i64 (xs.getD i 0))) :
    Calls Try.prog 61 #[.slice (some ⟨b, o, none⟩) xs.length cap, .int .i64 p, .int .i64 n] w fun e w' => e = .returned (.int .i64 (val xs p n)) ∧ w' = w := by
  have HC : Hid (∀ i, i < xs.length → w.cell? ⟨b, o + i, none⟩ = some (.int .i64 (xs.getD i 0))) := hc
  have HX : Hid (Bits xs) := hx
  clear hc hx
  go_enter Try.func61, Try.ntmps61
  go_wp2
  go_loop [7, 8, 9] (fun v s i => ∃ (k : Nat) (z t : Int), k ≤ n ∧ i = .int .i64 k ∧ v = .int .i64 z ∧ s = .int .i64 t ∧ 0 ≤ z ∧ z ≤ t ∧ 1 ≤ t ∧ t ≤ 4294967296 ∧ Hid (val xs p k = z ∧ (2 : Int) ^ k = t)) (fun _ _ i => n - (intOf i).toNat)
  case atStart => exact ⟨0, 0, 1, Nat.zero_le _, rfl, rfl, rfl, by omega, by omega, by omega, by omega, rfl, rfl⟩
  case round =>
    obtain ⟨k, z, t, hk, rfl, rfl, rfl, hz0, hzt, ht1, ht2, hzz⟩ := hrel
    by_cases hlt : k < n
    · obtain ⟨c, hce⟩ : ∃ c, Hid (xs.getD (p + k) 0 = c) := ⟨_, rfl⟩
      have hc01 : c = 0 ∨ c = 1 := by rw [← hce.out]; exact HX.out _
      have cc : w.cell? ⟨b, o + (p + k), none⟩ = some (.int .i64 c) := by rw [HC.out _ (by omega), hce.out]
      obtain ⟨d, hd⟩ : ∃ d, c * t = d := ⟨_, rfl⟩
      have hd1 : 0 ≤ d ∧ d ≤ t := by rcases hc01 with rfl | rfl <;> simp at hd <;> omega
      have HZ : Hid (val xs p (k + 1) = z + d ∧ (2 : Int) ^ (k + 1) = t * 2) := by
        refine ⟨?_, ?_⟩
        · show val xs p k + xs.getD (p + k) 0 * 2 ^ k = z + d
          rw [hzz.out.1, hzz.out.2, hce.out, hd]
        · rw [Int.pow_succ, hzz.out.2]
      have ht3 : t * 2 ≤ 4294967296 := by
        have h1 : (2 : Int) ^ (k + 1) ≤ 2 ^ 32 := two_pow_le (by omega)
        have e32 : (2 : Int) ^ 32 = 4294967296 := by decide
        rw [HZ.out.2] at h1
        omega
      have HB : Hid (z + d ≤ t * 2) := by
        have := (val_bd HX.out p (k + 1)).2
        rw [HZ.out.1, HZ.out.2] at this
        exact Int.le_of_lt this
      clear hc01
      go_wp2
      go_round
      case rel => exact ⟨k + 1, z + d, t * 2, by omega, by go_num, by first | rfl | go_num, by first | rfl | go_num, by omega, HB.out, by omega, ht3, HZ⟩
      case measure => simp [intOf]; omega
    · obtain rfl : k = n := by omega
      go_wp2
      go_ret
      exact ⟨by rw [hzz.out.1]; rfl, rfl⟩

theorem value_zero (v : Value) (p : Nat) (w : World) :
    Calls Try.prog 61 #[v, .int .i64 p, .int .i64 0] w fun e w' => e = .returned (.int .i64 0) ∧ w' = w := by
  go_enter Try.func61, Try.ntmps61
  go_wp2
  go_loop [7, 9] (fun v i => v = .int .i64 0 ∧ i = .int .i64 0) (fun _ _ => 0)
  case atStart => exact ⟨rfl, rfl⟩
  case round =>
    obtain ⟨rfl, rfl⟩ := hrel
    go_wp2
    go_ret
    exact ⟨rfl, rfl⟩

end Go.Proofs.Ytcmnhgefeffcpaa
