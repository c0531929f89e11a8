/-
  Rows of numbers that a call makes for itself (Row0), and what is known of bytes.
-/
import Derived.Test.YtbpaeecclikeiaaRow0
namespace Go.Proofs.Ytbpaeecclikeiaa
open Go.RowKit

theorem elem8 : Elem Try.prog 32 5 .u8 1 := ⟨Try.underlying32, info_parts (z := .int .u8 0) (size := 1) (bytes := 1) (by kernel_rfl)⟩

end Go.Proofs.Ytbpaeecclikeiaa
