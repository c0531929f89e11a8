/-
  When lengths may be, by the document, plainly.
-/
import Derived.Test.YtcmnhgefeffcpaaRow
import Derived.Test.YtcmnhgefeffcpaaE64
namespace Go.Proofs.Ytcmnhgefeffcpaa
open Go.RowKit Pl
set_option linter.unusedVariables false

/-- How many of the first k have a code, and the room that they take. -/
def manyTo (ls : List Int) : Nat → Int
  | 0 => 0
  | k + 1 => manyTo ls k + if 0 < ls.getD k 0 then 1 else 0
def roomTo (ls : List Int) : Nat → Int
  | 0 => 0
  | k + 1 => roomTo ls k + if 0 < ls.getD k 0 then 2 ^ (11 - (ls.getD k 0).toNat) else 0

/-- Lengths may be. -/
def mayB (ls : List Int) : Bool :=
  decide (1 ≤ ls.length ∧ ls.length ≤ 256 ∧ ls.getD (ls.length - 1) 0 ≠ 0 ∧ (∀ i, i < ls.length → 0 ≤ ls.getD i 0 ∧ ls.getD i 0 ≤ 11) ∧
    if manyTo ls ls.length = 1 then ls.getD (ls.length - 1) 0 = 1 else roomTo ls ls.length = 2048)

theorem manyTo_bd (ls : List Int) (k : Nat) : 0 ≤ manyTo ls k ∧ manyTo ls k ≤ k := by
  induction k with
  | zero => simp [manyTo]
  | succ k ih => simp only [manyTo]; split <;> omega
theorem roomTo_bd (ls : List Int) (k : Nat) : 0 ≤ roomTo ls k ∧ roomTo ls k ≤ 2048 * k := by
  induction k with
  | zero => simp [roomTo]
  | succ k ih =>
    simp only [roomTo]
    have h1 : (0 : Int) < 2 ^ (11 - (ls.getD k 0).toNat) := Int.pow_pos (by decide)
    have h2 : (2 : Int) ^ (11 - (ls.getD k 0).toNat) ≤ 2 ^ 11 := two_pow_le (by omega)
    have e : (2 : Int) ^ 11 = 2048 := by decide
    split <;> omega

end Go.Proofs.Ytcmnhgefeffcpaa
