/-
  A byte of a row, as a natural number.
-/
import Derived.Test.YtdicgaepggffbaaSPl
namespace Go.Proofs.Ytdicgaepggffbaa
open Go.RowKit Pl
set_option linter.unusedVariables false

/-- A byte. -/
def bN (xs : List Int) (j : Nat) : Nat := (xs.getD j 0).toNat
theorem bN_lt {xs : List Int} (h : By xs) (j : Nat) : bN xs j < 256 := by have := h j; unfold bN; omega
theorem bN_eq {xs : List Int} (h : By xs) (j : Nat) : xs.getD j 0 = (bN xs j : Int) := by have := h j; unfold bN; omega

end Go.Proofs.Ytdicgaepggffbaa
