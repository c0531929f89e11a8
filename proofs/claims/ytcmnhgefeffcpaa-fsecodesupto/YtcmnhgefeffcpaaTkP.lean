/-
  What is told of a take, plainly.
-/
import Derived.Test.YtcmnhgefeffcpaaE64
namespace Go.Proofs.Ytcmnhgefeffcpaa
open Go.RowKit Pl
set_option linter.unusedVariables false

/-- What is told of a take that fails. -/
theorem tk_bad {left : Nat} {n : Int} (bs : List Int) (p : Nat) (h : tkE left n ≠ 0) : tkV bs left p n = 0 ∧ tkN left n = 0 := by
  unfold tkE at h
  unfold tkV tkN
  split at h
  · rename_i h1; rw [if_pos h1, if_pos h1]; exact ⟨rfl, rfl⟩
  · rename_i h1
    split at h
    · rename_i h2; rw [if_neg h1, if_pos h2, if_neg h1, if_pos h2]; exact ⟨rfl, rfl⟩
    · exact absurd rfl h

theorem tk_good {left : Nat} {n : Int} (bs : List Int) (p : Nat) (h : tkE left n = 0) : ∃ m : Nat, n = (m : Int) ∧ m ≤ 32 ∧ m ≤ left ∧ tkV bs left p n = val bs p m ∧ tkN left n = m := by
  have hn : 0 ≤ n ∧ n ≤ 32 ∧ n ≤ (left : Int) := by
    unfold tkE at h
    split at h
    · cases h
    · split at h
      · cases h
      · omega
  obtain ⟨m, rfl⟩ := Int.eq_ofNat_of_zero_le hn.1
  refine ⟨m, rfl, by omega, by omega, ?_, ?_⟩
  · unfold tkV; rw [if_neg (by omega), if_neg (by omega)]; rfl
  · unfold tkN; rw [if_neg (by omega), if_neg (by omega)]; rfl

theorem Bits.unp (ys : List Int) (p : Nat) : Bits ((unpack ys).drop p) := (bits_unpack ys).drop p

end Go.Proofs.Ytcmnhgefeffcpaa
