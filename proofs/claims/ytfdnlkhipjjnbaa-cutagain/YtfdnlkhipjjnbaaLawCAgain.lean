/-
  CutAgain: what is alike is cut alike: for all bytes the law answers true.
-/
import Derived.Test.YtfdnlkhipjjnbaaLawCAgain1
import Derived.Test.YtfdnlkhipjjnbaaLawCAgain2
import Derived.Test.YtfdnlkhipjjnbaaLawCAgain3
import Derived.Test.YtfdnlkhipjjnbaaLawCAgain4
namespace Go.Proofs.Ytfdnlkhipjjnbaa
open Go.RowKit Pl
set_option linter.unusedVariables false

theorem cutAgain_walk (v tv : Value) (xs ts : List Int) (w : World) (h1 : Rd .u8 w v xs) (hb : By xs) (h2 : Rd .u8 w tv ts) (hbt : By ts) :
    Calls Try.prog 8 #[v, tv] w fun e w' => e = .returned (.bool true) ∧ Below w.heap.size w w' := by
  obtain ⟨a, cap, hv, hlc, hcm, _⟩ := id h1
  subst hv
  obtain ⟨ta, tcap, hv, hlt, hcmt, _⟩ := id h2
  subst hv
  have hm : cap ≤ 9223372036854775807 := by unfold maxLen at hcm; omega
  have hmt : tcap ≤ 9223372036854775807 := by unfold maxLen at hcmt; omega
  by_cases c1 : 65536 < xs.length <;> by_cases c2 : 65536 < ts.length
  · exact cutAgain_walk4 a cap xs ta tcap ts w h1 hlc hm hb h2 hlt hmt hbt c1 (by omega) c2 (by omega)
  · exact cutAgain_walk3 a cap xs ta tcap ts w h1 hlc hm hb h2 hlt hmt hbt c1 (by omega) c2 (by omega)
  · exact cutAgain_walk2 a cap xs ta tcap ts w h1 hlc hm hb h2 hlt hmt hbt c1 (by omega) c2 (by omega)
  · exact cutAgain_walk1 a cap xs ta tcap ts w h1 hlc hm hb h2 hlt hmt hbt c1 (by omega) c2 (by omega)
end Go.Proofs.Ytfdnlkhipjjnbaa
