/-
  Check sums, plainly: numbers of 32 bits.
-/
import Derived.Test.YtdicgaepggffbaaRow
import Derived.Laws.BitsAllLaws
namespace Go.Proofs.Ytdicgaepggffbaa
open Go.RowKit Pl
set_option linter.unusedVariables false

/-- One bit: the number is halved, and, if its lowest bit was 1, put together with the given one. -/
def c1 (x : Nat) : Nat := if x % 2 = 1 then x / 2 ^^^ 2197175160 else x / 2
/-- So many bits. -/
def c8 : Nat → Nat → Nat
  | 0, x => x
  | k + 1, x => c1 (c8 k x)
/-- The number behind k bytes. -/
def cR (xs : List Int) : Nat → Nat
  | 0 => 4294967295
  | k + 1 => c8 8 (cR xs k ^^^ (xs.getD k 0).toNat)
def crc (xs : List Int) : Nat := 4294967295 - cR xs xs.length

theorem c1_lt {x : Nat} (h : x < 4294967296) : c1 x < 4294967296 := by
  unfold c1
  split
  · exact Nat.xor_lt_two_pow (n := 32) (by omega) (by decide)
  · omega
theorem c8_lt {x : Nat} (h : x < 4294967296) : ∀ k, c8 k x < 4294967296
  | 0 => h
  | k + 1 => c1_lt (c8_lt h k)
theorem cR_lt {xs : List Int} (hb : By xs) : ∀ k, cR xs k < 4294967296
  | 0 => by show (4294967295 : Nat) < _; decide
  | k + 1 => by
    refine c8_lt ?_ 8
    have := hb k
    exact Nat.xor_lt_two_pow (n := 32) (cR_lt hb k) (by omega)

theorem not_nat (x : Nat) (h : x < 4294967296) : 4294967295 ^^^ x = 4294967295 - x := by
  have h1 : (~~~ (BitVec.ofNat 32 x)).toNat = 4294967295 - x := by rw [BitVec.toNat_not, BitVec.toNat_ofNat]; omega
  have h2 : (BitVec.allOnes 32 ^^^ BitVec.ofNat 32 x).toNat = 4294967295 ^^^ x := by
    rw [BitVec.toNat_xor, BitVec.toNat_ofNat, BitVec.toNat_allOnes, Nat.mod_eq_of_lt (show x < 2 ^ 32 by omega)]
  rw [← h1, ← h2, BitVec.not_def]
theorem not_prog (x : Nat) (h : x < 4294967296) : Go.bits .xor .u32 IntKind.u32.max (x : Int) = ((4294967295 - x : Nat) : Int) := by
  have e : IntKind.u32.max = ((4294967295 : Nat) : Int) := by decide
  rw [e, u32_xor_nat _ _ (by decide) h, not_nat x h]
/-- The program's own step. -/
theorem c1_prog (x : Nat) (h : x < 4294967296) : Go.bits .xor .u32 ((x : Int) / 2) (2197175160 * Go.bits .and .u32 (x : Int) 1 % 4294967296) = (c1 x : Int) := by
  have e1 : Go.bits .and .u32 (x : Int) 1 = ((x % 2 : Nat) : Int) := by
    have := u32_and_nat x 1 h (by decide)
    rw [nat_mask1] at this
    exact this
  rw [e1]
  have e2 : (x : Int) / 2 = ((x / 2 : Nat) : Int) := by omega
  rw [e2]
  unfold c1
  by_cases c : x % 2 = 1
  · rw [if_pos c, c]
    have := u32_xor_nat (x / 2) 2197175160 (by omega) (by decide)
    exact this
  · have c0 : x % 2 = 0 := by omega
    rw [if_neg c, c0]
    have := u32_xor_nat (x / 2) 0 (by omega) (by decide)
    simpa using this
end Go.Proofs.Ytdicgaepggffbaa
