/-
  Which texts are names.
-/
import Derived.Test.YtcjdhbiiigdmmaaDoorNxLives
import Derived.Test.YtcjdhbiiigdmmaaDoorNxRef
namespace Go.Proofs.YtcjdhbiiigdmmaaDoor
open Go.RowKit Nx
set_option linter.unusedVariables false
set_option maxRecDepth 100000

set_option maxHeartbeats 1000000 in
theorem namesNames_walk (s : ByteArray) (w : World) : Calls Tryd.prog 5 #[.string s] w fun e w' => e = .returned (.bool true) ∧ Below w.heap.size w w' := by
  have c1 := fun W => name_any s W
  have c2 := fun W => refName_any s W
  have c3 := fun W => lives_anyX W
  obtain ⟨r, hr⟩ : ∃ r, nameL (bl s) = r := ⟨_, rfl⟩
  rw [hr] at c1 c2
  clear hr
  have hd : (r == r) = true := by simp
  go_enter Tryd.func5, Tryd.ntmps5
  go_wp2_with (first | (go_at_call 13; refine (c1 _).mono ?_; rintro e w1 ⟨rfl, hb1⟩) | (go_at_call 14; refine (c2 _).mono ?_; rintro e w2 ⟨rfl, hb2⟩) | (go_at_call 10; refine (c3 _).mono ?_; rintro e w3 ⟨rfl, hb3⟩; (have h12 := hb1.trans (hb2.mono hb1.size)); (have HB := hideN (h12.trans (hb3.mono h12.size)))))
  go_ret
  exact ⟨by simp, HB.out⟩
end Go.Proofs.YtcjdhbiiigdmmaaDoor
