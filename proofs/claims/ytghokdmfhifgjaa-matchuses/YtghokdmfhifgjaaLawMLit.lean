/-
  MatchLiterals: the bytes that stand as they are are the document's: for every bytes and steps the law answers true.
-/
import Derived.Test.YtghokdmfhifgjaaMLit
import Derived.Test.YtghokdmfhifgjaaMLives
import Derived.Test.YtghokdmfhifgjaaSame
namespace Go.Proofs.Ytghokdmfhifgjaa
open Go.RowKit Pl
set_option linter.unusedVariables false

theorem RdS.below {w w' : World} {v : Value} {ps : List Sq} (h : RdS w v ps) (hb : Below w.heap.size w w') : RdS w' v ps := by
  obtain ⟨a, cap, e, h1, h2, h⟩ := h
  refine ⟨a, cap, e, h1, h2, ?_⟩
  rcases h with h | ⟨b, o, ha, hc⟩
  · exact .inl h
  · refine .inr ⟨b, o, ha, fun i hi => ?_⟩
    obtain ⟨c0, c1, c2⟩ := hc i hi
    have hb0 := World.block_lt_of_cell? w _ c0
    rw [hb.cell (p := ⟨b, o + i * 3, none⟩) hb0, hb.cell (p := ⟨b, o + i * 3 + 1, none⟩) hb0, hb.cell (p := ⟨b, o + i * 3 + 2, none⟩) hb0]
    exact ⟨c0, c1, c2⟩

set_option maxRecDepth 100000 in
set_option maxHeartbeats 2000000 in
theorem matchLiterals_walk (v1 v2 : Value) (ds : List Int) (ps : List Sq) (w : World) (h1 : Rd .u8 w v1 ds) (hl : ds.length ≤ 140737488351232) (h2 : RdS w v2 ps) (hp : ps.length ≤ 140737488355328) :
    Calls Try.prog 5 #[v1, v2] w fun e w' => e = .returned (.bool true) ∧ Below w.heap.size w w' := by
  have H1 : Hid (Rd .u8 w v1 ds) := h1
  have H2 : Hid (RdS w v2 ps) := h2
  clear h1 h2
  obtain ⟨r, hr⟩ : ∃ r, Hid (litR ds ps = r) := ⟨_, rfl⟩
  have HSH : Hid (Calls Try.prog 16 #[v1, v2] w fun e w' => BPost r w e w') := by show Calls _ _ _ _ _; rw [← hr.out]; exact literals_any _ _ ds ps w H1.out hl H2.out hp
  go_enter Try.func5, Try.ntmps5
  go_wp2_with fail
  refine HSH.out.mono ?_
  clear HSH
  intro e w2 hD
  obtain ⟨d, rfl, hb2, _, ho2⟩ := hD
  have B2 : Hid (Below w.heap.size w w2) := hb2
  have O2 : Hid (Owns .u8 5 w2 d r.2) := ho2
  clear hb2 ho2
  have HS2 : Hid (Calls Try.prog 17 #[v1, v2] w2 fun e w' => BPost r w2 e w') := by show Calls _ _ _ _ _; rw [← hr.out]; exact refLiterals_any _ _ ds ps w2 (H1.out.below B2.out) hl (H2.out.below B2.out) hp
  go_wp2_with fail
  refine HS2.out.mono ?_
  clear HS2
  intro e w3 hD
  obtain ⟨d2, rfl, hb3, _, ho3⟩ := hD
  have B3 : Hid (Below w.heap.size w w3) := B2.out.trans (hb3.mono B2.out.size)
  have O3 : Hid (Owns .u8 5 w3 d2 r.2) := ho3
  have O23 : Hid (Owns .u8 5 w3 d r.2) := O2.out.below hb3
  clear hb3 ho3 B2 O2
  go_wp2_with fail
  refine (same_rd _ _ r.2 r.2 w3 O23.out.rd O3.out.rd).mono ?_
  rintro e w4 ⟨rfl, hb4⟩
  have hdec : decide (r.2 = r.2) = true := by simp
  rw [hdec]
  have B4 : Hid (Below w.heap.size w w4) := B3.out.trans (hb4.mono B3.out.size)
  obtain ⟨x, hx⟩ : ∃ x, Hid (r.1 = x) := ⟨_, rfl⟩
  rw [hx.out]
  have hxx : (x == x) = true := by simp
  clear hb4 hdec B3 O3 O23
  go_wp2_with fail
  refine (lives_any _).mono ?_
  rintro e w9 ⟨rfl, hb9⟩
  go_wp2_with fail
  go_ret
  exact ⟨rfl, B4.out.trans (hb9.mono B4.out.size)⟩
end Go.Proofs.Ytghokdmfhifgjaa
