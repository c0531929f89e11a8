/-
  The program's sector as a value: the sum is laid behind its other bytes.
-/
import Derived.Test.YtmidcmliiofefaaBSum
import Derived.StillTailTactics
import Derived.Test.YtmidcmliiofefaaFrOf
namespace Go.Proofs.Ytmidcmliiofefaa
open Go.RowKit Pl
set_option linter.unusedVariables false
set_option linter.unusedSimpArgs false
set_option maxRecDepth 100000

theorem crc_lt {xs : List Int} (h : By xs) : crc xs < 4294967296 := by unfold crc; omega

theorem summed_any (xs : List Int) (w : World) (hl : xs.length = 256) (hb : By xs) :
    Calls Try.prog 20 #[.agg (bcs xs).toArray] w fun e w' => e = .returned (.agg (bcs (smd xs)).toArray) ∧ Below w.heap.size w w' := summedU_any xs w hl hb
theorem Fv.u {w : World} {g : Nat} {xs : List Int} (h : Fv w g xs) : Fu w g xs := h
theorem Fu.v {w : World} {g : Nat} {xs : List Int} (h : Fu w g xs) : Fv w g xs := h
end Go.Proofs.Ytmidcmliiofefaa
