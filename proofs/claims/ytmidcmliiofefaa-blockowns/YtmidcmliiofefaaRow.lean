/-
  Rows of numbers that a call makes for itself (Row0), and what is known of bytes.
-/
import Derived.Test.YtmidcmliiofefaaRow0
namespace Go.Proofs.Ytmidcmliiofefaa
open Go.RowKit

theorem elem8 : Elem Try.prog 22 5 .u8 1 := ⟨Try.underlying22, info_parts (z := .int .u8 0) (size := 1) (bytes := 1) (by kernel_rfl)⟩

end Go.Proofs.Ytmidcmliiofefaa
