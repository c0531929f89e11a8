/-
  What the document's own readers answer: a row of bits, the number of some, what is left.
-/
import Derived.Test.YtcmnhgefeffcpaaRow
import Derived.Test.YtcmnhgefeffcpaaUnp
namespace Go.Proofs.Ytcmnhgefeffcpaa
open Go.RowKit Pl
set_option linter.unusedVariables false

theorem elem64 : Elem Try.prog 22 3 .i64 8 := ⟨Try.underlying22, info_parts (z := .int .i64 0) (size := 1) (bytes := 8) (by kernel_rfl)⟩

theorem bitsOf_snoc (v : Int) (k : Nat) : bitsOf v (k + 1) = bitsOf v k ++ [v / 2 ^ k % 2] := rfl

theorem unpack_snoc (xs : List Int) (y : Int) : unpack (xs ++ [y]) = unpack xs ++ bitsOf y 8 := by
  rw [unpack_append]; simp [unpack]

theorem take_snoc' (ys : List Int) (k : Nat) (h : k < ys.length) : ys.take (k + 1) = ys.take k ++ [ys.getD k 0] := by
  rw [List.take_succ_eq_append_getElem h]
  simp [List.getD_eq_getElem?_getD, h]



end Go.Proofs.Ytcmnhgefeffcpaa
