/-
  Rows of numbers that a call makes for itself (Row0), and what is known of bytes.
-/
import Derived.Test.YtdicgaepggffbaaRow0
namespace Go.Proofs.Ytdicgaepggffbaa
open Go.RowKit

theorem elem8 : Elem Try.prog 25 5 .u8 1 := ⟨Try.underlying25, info_parts (z := .int .u8 0) (size := 1) (bytes := 1) (by kernel_rfl)⟩

end Go.Proofs.Ytdicgaepggffbaa
