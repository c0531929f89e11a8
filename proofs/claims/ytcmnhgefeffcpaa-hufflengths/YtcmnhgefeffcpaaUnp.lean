/-
  Plain facts on bytes as rows of bits, and on what is taken of them.
-/
import Derived.Test.YtcmnhgefeffcpaaPlain
namespace Go.Proofs.Ytcmnhgefeffcpaa.Pl

/-- The bits of bytes, the first byte's lowest first. -/
def unpack : List Int → List Int
  | [] => []
  | y :: ys => bitsOf y 8 ++ unpack ys

theorem unpack_length (ys : List Int) : (unpack ys).length = 8 * ys.length := by
  induction ys with
  | nil => rfl
  | cons y ys ih => simp [unpack, bitsOf_length, ih]; omega

theorem unpack_append (xs ys : List Int) : unpack (xs ++ ys) = unpack xs ++ unpack ys := by
  induction xs with
  | nil => rfl
  | cons x xs ih => simp [unpack, ih]

theorem bitsOf_getD (v : Int) (n i : Nat) : (bitsOf v n).getD i 0 = if i < n then v / 2 ^ i % 2 else 0 := by
  induction n with
  | zero => simp [bitsOf]
  | succ n ih =>
    rw [bitsOf, getD_snoc, ih, bitsOf_length]
    by_cases h : i < n
    · rw [if_pos h, if_neg (by omega), if_pos (by omega), Int.add_zero]
    · rw [if_neg h]
      by_cases e : i = n
      · subst e; rw [if_pos rfl, if_pos (by omega), Int.zero_add]
      · rw [if_neg e, if_neg (by omega), Int.zero_add]

theorem getD_append (a b : List Int) (i : Nat) : (a ++ b).getD i 0 = if i < a.length then a.getD i 0 else b.getD (i - a.length) 0 := by
  rw [List.getD_eq_getElem?_getD, List.getElem?_append]
  split <;> rw [List.getD_eq_getElem?_getD]

theorem unpack_getD (ys : List Int) (p : Nat) : (unpack ys).getD p 0 = ys.getD (p / 8) 0 / 2 ^ (p % 8) % 2 := by
  induction ys generalizing p with
  | nil => simp [unpack]
  | cons y ys ih =>
    rw [unpack, getD_append, bitsOf_length, bitsOf_getD]
    by_cases h : p < 8
    · rw [if_pos h, if_pos h]
      have e1 : p / 8 = 0 := by omega
      have e2 : p % 8 = p := by omega
      rw [e1, e2]; rfl
    · rw [if_neg h, ih]
      have e1 : p / 8 = (p - 8) / 8 + 1 := by omega
      have e2 : p % 8 = (p - 8) % 8 := by omega
      rw [e1, ← e2]; rfl

theorem bits_unpack (ys : List Int) : Bits (unpack ys) := by
  intro i
  rw [unpack_getD]
  omega

theorem val_drop (bs : List Int) (p q n : Nat) : val (bs.drop p) q n = val bs (p + q) n := by
  unfold val
  refine bv_congr _ _ n fun i _ => ?_
  rw [List.getD_eq_getElem?_getD, List.getElem?_drop, List.getD_eq_getElem?_getD, Nat.add_assoc]

theorem Bits.drop {bs : List Int} (h : Bits bs) (p : Nat) : Bits (bs.drop p) := by
  intro i
  have := h (p + i)
  rw [List.getD_eq_getElem?_getD, List.getElem?_drop, ← List.getD_eq_getElem?_getD]
  exact this

theorem Bits.take {bs : List Int} (h : Bits bs) (p : Nat) : Bits (bs.take p) := by
  intro i
  rw [List.getD_eq_getElem?_getD, List.getElem?_take]
  split
  · rw [← List.getD_eq_getElem?_getD]; exact h i
  · simp

/-- What is told of n bits, where so many are left: the word. -/
def tkE (left : Nat) (n : Int) : Int := if n < 0 ∨ 32 < n then 1 else if (left : Int) < n then 3 else 0
/-- How many are taken. -/
def tkN (left : Nat) (n : Int) : Nat := if n < 0 ∨ 32 < n then 0 else if (left : Int) < n then 0 else n.toNat
/-- The number. -/
def tkV (bs : List Int) (left : Nat) (p : Nat) (n : Int) : Int := if n < 0 ∨ 32 < n then 0 else if (left : Int) < n then 0 else val bs p n.toNat

theorem tkN_le (left : Nat) (n : Int) : tkN left n ≤ left := by
  unfold tkN
  split
  · omega
  · split <;> omega

end Go.Proofs.Ytcmnhgefeffcpaa.Pl
