/-
  FseGets: any bytes begin with just the share that the document says, or with none: for every bytes the law answers true.
-/
import Derived.Test.YtkiejjnnjjdfjaaFGet3
import Derived.Test.YtkiejjnnjjdfjaaFNums
import Derived.Test.YtkiejjnnjjdfjaaFLives
namespace Go.Proofs.Ytkiejjnnjjdfjaa
open Go.RowKit Pl
set_option linter.unusedVariables false

set_option maxRecDepth 100000 in
set_option maxHeartbeats 2000000 in
theorem fseGets_walk (v1 : Value) (ys : List Int) (w : World) (h1 : Rd .u8 w v1 ys) (hy : By ys) :
    Calls Try.prog 6 #[v1] w fun e w' => e = .returned (.bool true) ∧ Below w.heap.size w w' := by
  have H1 : Hid (Rd .u8 w v1 ys) := h1
  have HY : Hid (By ys) := hy
  clear h1 hy
  obtain ⟨r, hr⟩ : ∃ r, Hid (getR ys = r) := ⟨_, rfl⟩
  have HSH : Hid (Calls Try.prog 17 #[v1] w fun e w' => GPost r w e w') := by show Calls _ _ _ _ _; rw [← hr.out]; exact getShare_rd _ ys w H1.out HY.out
  go_enter Try.func6, Try.ntmps6
  go_wp2_with fail
  refine HSH.out.mono ?_
  clear HSH
  intro e w2 hD
  obtain ⟨d, rfl, hb2, _, ho2⟩ := hD
  have B2 : Hid (Below w.heap.size w w2) := hb2
  have O2 : Hid (Owns .i64 3 w2 d r.2.1) := ho2
  clear hb2 ho2
  have HS2 : Hid (Calls Try.prog 18 #[v1] w2 fun e w' => GPost r w2 e w') := by show Calls _ _ _ _ _; rw [← hr.out]; exact refGetShare_rd _ ys w2 (H1.out.below B2.out) HY.out
  go_wp2_with fail
  refine HS2.out.mono ?_
  clear HS2
  intro e w3 hD
  obtain ⟨d2, rfl, hb3, _, ho3⟩ := hD
  have B3 : Hid (Below w.heap.size w w3) := B2.out.trans (hb3.mono B2.out.size)
  have O3 : Hid (Owns .i64 3 w3 d2 r.2.1) := ho3
  have O23 : Hid (Owns .i64 3 w3 d r.2.1) := O2.out.below hb3
  clear hb3 ho3 B2 O2
  go_wp2_with fail
  refine (numbers_rd _ _ r.2.1 r.2.1 w3 O23.out.rd O3.out.rd).mono ?_
  rintro e w4 ⟨rfl, hb4⟩
  have hdec : decide (r.2.1 = r.2.1) = true := by simp
  rw [hdec]
  have B4 : Hid (Below w.heap.size w w4) := B3.out.trans (hb4.mono B3.out.size)
  obtain ⟨x, hx⟩ : ∃ x, Hid (r.1 = x) := ⟨_, rfl⟩
  obtain ⟨y, hy⟩ : ∃ y, Hid (r.2.2.1 = y) := ⟨_, rfl⟩
  obtain ⟨z, hz⟩ : ∃ z, Hid (r.2.2.2 = z) := ⟨_, rfl⟩
  rw [hx.out, hy.out, hz.out]
  have hxx : (x == x) = true := by simp
  have hyy : (y == y) = true := by simp
  have hzz : (z == z) = true := by simp
  clear hb4 hdec B3 O3 O23
  go_wp2_with fail
  refine (lives_any _).mono ?_
  rintro e w9 ⟨rfl, hb9⟩
  go_wp2_with fail
  go_ret
  exact ⟨rfl, B4.out.trans (hb9.mono B4.out.size)⟩
end Go.Proofs.Ytkiejjnnjjdfjaa
