/-
  CutGears: each byte's gear is the document's: for every byte the law answers true.
-/
import Derived.Test.YtfdnlkhipjjnbaaCLives
namespace Go.Proofs.Ytfdnlkhipjjnbaa
open Go.RowKit Pl
set_option linter.unusedVariables false

set_option maxRecDepth 100000 in
set_option maxHeartbeats 2000000 in
theorem cutGears_walk (b : Nat) (w : World) (hb : b < 256) :
    Calls Try.prog 5 #[.int .u8 (b : Int)] w fun e w' => e = .returned (.bool true) ∧ Below w.heap.size w w' := by
  have GP : Hid (∀ W, Calls Try.prog 15 #[.int .u8 (b : Int)] W fun e w' => e = .returned (.int .i64 (gr b : Int)) ∧ Below W.heap.size W w') := fun W => gearB_any b W hb
  have GR : Hid (∀ W, Calls Try.prog 16 #[.int .u8 (b : Int)] W fun e w' => e = .returned (.int .i64 (gr b : Int)) ∧ Below W.heap.size W w') := fun W => refGear_any b W hb
  generalize gr b = G at *
  go_enter Try.func5, Try.ntmps5
  go_wp2_with fail
  refine (GP.out _).mono ?_
  rintro e w1 ⟨rfl, b1⟩
  have B1 : Hid (Below w.heap.size w w1) := b1
  clear b1
  go_wp2_with fail
  refine (GR.out _).mono ?_
  rintro e w2 ⟨rfl, b2⟩
  have B2 : Hid (Below w.heap.size w w2) := B1.out.trans (b2.mono B1.out.size)
  clear b2
  go_wp2_with fail
  refine (lives_anyC _).mono ?_
  rintro e w9 ⟨rfl, b9⟩
  go_wp2_with fail
  go_ret
  exact ⟨rfl, B2.out.trans (b9.mono B2.out.size)⟩
end Go.Proofs.Ytfdnlkhipjjnbaa
