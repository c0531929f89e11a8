/-
  FseShares: symbols that stand so often get just the shares of the document: for every counts and log the law answers true.
-/
import Derived.Test.YtkiejjnnjjdfjaaFRefShare
import Derived.Test.YtkiejjnnjjdfjaaFNums
import Derived.Test.YtkiejjnnjjdfjaaFLives
namespace Go.Proofs.Ytkiejjnnjjdfjaa
open Go.RowKit Pl
set_option linter.unusedVariables false

set_option maxRecDepth 100000 in
set_option maxHeartbeats 2000000 in
theorem fseShares_walk (v1 : Value) (c : List Int) (log : Int) (w : World) (h1 : Rd .i64 w v1 c) :
    Calls Try.prog 3 #[v1, .int .i64 log] w fun e w' => e = .returned (.bool true) ∧ Below w.heap.size w w' := by
  have H1 : Hid (Rd .i64 w v1 c) := h1
  clear h1
  obtain ⟨r, hr⟩ : ∃ r, Hid (shR c log = r) := ⟨_, rfl⟩
  have HSH : Hid (Calls Try.prog 9 #[v1, .int .i64 log] w fun e w' => DPost r w e w') := by show Calls _ _ _ _ _; rw [← hr.out]; exact share_any _ c log w H1.out
  go_enter Try.func3, Try.ntmps3
  go_wp2_with fail
  refine HSH.out.mono ?_
  clear HSH
  intro e w2 hD
  obtain ⟨d, rfl, hb2, _, ho2⟩ := hD
  have B2 : Hid (Below w.heap.size w w2) := hb2
  have O2 : Hid (Owns .i64 3 w2 d r.2) := ho2
  clear hb2 ho2
  have HS2 : Hid (Calls Try.prog 10 #[v1, .int .i64 log] w2 fun e w' => DPost r w2 e w') := by show Calls _ _ _ _ _; rw [← hr.out]; exact refShare_any _ c log w2 (H1.out.below B2.out)
  go_wp2_with fail
  refine HS2.out.mono ?_
  clear HS2
  intro e w3 hD
  obtain ⟨d2, rfl, hb3, _, ho3⟩ := hD
  have B3 : Hid (Below w.heap.size w w3) := B2.out.trans (hb3.mono B2.out.size)
  have O3 : Hid (Owns .i64 3 w3 d2 r.2) := ho3
  have O23 : Hid (Owns .i64 3 w3 d r.2) := O2.out.below hb3
  clear hb3 ho3 B2 O2
  go_wp2_with fail
  refine (numbers_rd _ _ r.2 r.2 w3 O23.out.rd O3.out.rd).mono ?_
  rintro e w4 ⟨rfl, hb4⟩
  have hdec : decide (r.2 = r.2) = true := by simp
  rw [hdec]
  have B4 : Hid (Below w.heap.size w w4) := B3.out.trans (hb4.mono B3.out.size)
  obtain ⟨x, hx⟩ : ∃ x, Hid (r.1 = x) := ⟨_, rfl⟩
  rw [hx.out]
  have hxx : (x == x) = true := by simp
  clear hb4 hdec B3 O3 O23
  go_wp2_with fail
  refine (lives_any _).mono ?_
  rintro e w9 ⟨rfl, hb9⟩
  go_wp2_with fail
  go_ret
  exact ⟨rfl, B4.out.trans (hb9.mono B4.out.size)⟩
end Go.Proofs.Ytkiejjnnjjdfjaa
