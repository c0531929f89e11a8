/-
  The program's Get of whatever bytes.
-/
import Derived.Test.YtmidcmliiofefaaBGet4
import Derived.Test.YtmidcmliiofefaaBGet5
namespace Go.Proofs.Ytmidcmliiofefaa
open Go.RowKit Pl
set_option linter.unusedVariables false

theorem get_any (n : Int) (v : Value) (xs : List Int) (w : World) (hr : Rd .u8 w v xs) (hb : By xs) : Calls Try.prog 13 #[.int .i64 n, v] w fun e w' => GetR n xs w e w' := by
  by_cases hl : xs.length = 256
  · by_cases he : xs = smd xs
    · cases hm : mayK n (xs.getD 0 0) (bdy xs).length with
      | false => exact get_may n v xs w hr hb hl he hm
      | true =>
        by_cases hq : xs = sec n (xs.getD 0 0) (bdy xs)
        · exact get_ok n v xs w hr hb hl he hm hq
        · exact get_img n v xs w hr hb hl he hm hq
    · exact get_sum n v xs w hr hb hl he
  · exact get_len n v xs w hr hl
end Go.Proofs.Ytmidcmliiofefaa
