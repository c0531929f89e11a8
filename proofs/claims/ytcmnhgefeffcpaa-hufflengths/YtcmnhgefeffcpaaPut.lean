/-
  What Put does: the bits of a value that may be, or nothing.
-/
import Derived.Test.YtcmnhgefeffcpaaWr
namespace Go.Proofs.Ytcmnhgefeffcpaa
open Go.RowKit Pl
set_option linter.unusedVariables false

set_option maxHeartbeats 400000 in
theorem put_ok (b : Nat) (rv : Value) (n : Nat) (v : Int) (bs : List Int) (w : World) (h : Wr w b rv bs) (hn : bs.length ≤ 1125899906841900) (h32 : n ≤ 32) (hv : 0 ≤ v) (hv1 : v < 2 ^ n) :
    Calls Try.prog 26 #[.pointer (some ⟨b, 0, none⟩), .int .i64 n, .int .i64 v] w fun e w' => e = .returned (.int .i64 0) ∧ ∃ rv', WrTo w b rv w' rv' (bs ++ bitsOf v n) := by
  have H : Hid (Wr w b rv bs) := h
  have hq : (v / 2 ^ n != 0) = false := by rw [Int.ediv_eq_zero_of_lt hv hv1]; rfl
  have hv64 : v ≤ 4294967296 := by
    have : (2 : Int) ^ n ≤ 2 ^ 32 := two_pow_le h32
    have e : (2 : Int) ^ 32 = 4294967296 := by decide
    omega
  clear h hv1
  go_enter Try.func26, Try.ntmps26
  go_wp2_with fail
  go_loopw [25] (fun i wr => ∃ (k : Nat) (rv' : Value), k ≤ n ∧ i = .int .i64 k ∧ Hid (WrTo w b rv wr rv' (bs ++ bitsOf v k))) (fun i _ => n - (intOf i).toNat)
  case atStart => exact ⟨0, rv, Nat.zero_le _, rfl, by simpa [bitsOf, Hid] using WrTo.refl H.out⟩
  case round =>
    obtain ⟨k, rv', hk, rfl, hT⟩ := hrel
    by_cases hlt : k < n
    · obtain ⟨c, hce⟩ : ∃ c, Hid (v / 2 ^ k % 2 = c) := ⟨_, rfl⟩
      have hand : Go.bits BinOp.and IntKind.i64 (v / 2 ^ k) 1 = c := by
        rw [← hce.out]
        have h0 : 0 ≤ v / 2 ^ k := Int.ediv_nonneg hv (Int.le_of_lt (Int.pow_pos (by decide)))
        have h1 : v / 2 ^ k ≤ v := Int.ediv_le_self _ hv
        obtain ⟨a, ha⟩ := Int.eq_ofNat_of_zero_le h0
        rw [ha] at h1 ⊢
        have := (bits_nat .i64 62 (by decide) wraps_i64 a 1 (by omega) (by decide)).1
        rw [and_one] at this
        exact this
      have hc01 : c = 0 ∨ c = 1 := by rw [← hce.out]; exact bit_of v k
      have HC : Hid (c = 0 ∨ c = 1) := hc01
      have hc256 : c % 256 = c := by omega
      clear hc01
      go_wp2_with fail
      refine (add_any b rv' c (bs ++ bitsOf v k) wr hT.out.wr (by simp [bitsOf_length]; omega) HC.out).mono ?_
      rintro e w2 ⟨rfl, rv2, h2, h3, h4⟩
      have hT2 : Hid (WrTo w b rv w2 rv2 (bs ++ bitsOf v (k + 1))) := by
        have := hT.out.trans ⟨h2, h3, h4⟩
        show WrTo w b rv w2 rv2 (bs ++ (bitsOf v k ++ [v / 2 ^ k % 2]))
        rw [hce.out, ← List.append_assoc]
        exact this
      clear h2 h3 h4 hT
      go_wp2_with fail
      go_roundw
      case rel => exact ⟨k + 1, rv2, by omega, by go_num, hT2⟩
      case measure => simp [intOf]; omega
    · obtain rfl : k = n := by omega
      go_wp2_with fail
      go_ret
      exact ⟨rfl, rv', hT.out⟩

set_option maxHeartbeats 400000 in
theorem put_bad (a : Option Addr) (n v : Int) (w : World) (h64 : v < 9223372036854775808) (h : n < 0 ∨ 32 < n ∨ v < 0 ∨ 2 ^ n.toNat ≤ v) :
    Calls Try.prog 26 #[.pointer a, .int .i64 n, .int .i64 v] w fun e w' => e = .returned (.int .i64 1) ∧ w' = w := by
  by_cases h1 : n < 0
  · go_enter Try.func26, Try.ntmps26
    go_wp2_with fail
    go_ret
    exact ⟨rfl, rfl⟩
  · by_cases h2 : 32 < n
    · go_enter Try.func26, Try.ntmps26
      go_wp2_with fail
      go_ret
      exact ⟨rfl, rfl⟩
    · by_cases h3 : v < 0
      · go_enter Try.func26, Try.ntmps26
        go_wp2_with fail
        go_ret
        exact ⟨rfl, rfl⟩
      · obtain ⟨m, rfl⟩ := Int.eq_ofNat_of_zero_le (show 0 ≤ n by omega)
        have h4 : (2 : Int) ^ m ≤ v := by
          rcases h with h | h | h | h
          · omega
          · omega
          · omega
          · simpa using h
        have hq : (v / 2 ^ m != 0) = true := by
          have hp : (0 : Int) < 2 ^ m := Int.pow_pos (by decide)
          have : 1 ≤ v / 2 ^ m := by rw [Int.le_ediv_iff_mul_le hp]; omega
          simp; omega
        clear h h4
        go_enter Try.func26, Try.ntmps26
        go_wp2_with fail
        go_ret
        exact ⟨rfl, rfl⟩
end Go.Proofs.Ytcmnhgefeffcpaa
