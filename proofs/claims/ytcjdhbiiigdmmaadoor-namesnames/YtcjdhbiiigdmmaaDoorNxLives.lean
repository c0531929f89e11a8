/-
  The layer's examples.
-/
import Derived.Test.YtcjdhbiiigdmmaaDoorNxUnd
import Derived.Great.BuildSlice
namespace Go.Proofs.YtcjdhbiiigdmmaaDoor
open Go.RowKit Nx
set_option linter.unusedVariables false
set_option maxRecDepth 100000

theorem JoR.yes {w w' : World} {e : Ending} {ps : List (List UInt8)} {s : ByteArray} (h : JoR w w' e ps) (hj : jo ps = some (bl s)) : e = .returned (.tuple #[.string s, .int .i64 0]) ∧ Below w.heap.size w w' := by
  obtain ⟨p, c, rfl, hb, h | h⟩ := h
  · obtain ⟨h1, rfl⟩ := h
    rw [hj] at h1
    rw [bl_inj (Option.some.inj h1)]
    exact ⟨rfl, hb⟩
  · rw [hj] at h; cases h.1
theorem JoR.no {w w' : World} {e : Ending} {ps : List (List UInt8)} (h : JoR w w' e ps) (hj : jo ps = none) : e = .returned (.tuple #[.string ⟨#[]⟩, .int .i64 20]) ∧ Below w.heap.size w w' := by
  obtain ⟨p, c, rfl, hb, h | h⟩ := h
  · rw [hj] at h; cases h.1
  · obtain ⟨_, rfl, rfl⟩ := h
    exact ⟨rfl, hb⟩
theorem sp_ex : sp [47, 97, 47, 98] = some [[97], [98]] := by decide +kernel
theorem jo_ex : jo [[97], [98]] = some [47, 97, 47, 98] := by decide +kernel
theorem und_ex : und [47, 97] [47, 97, 47, 98] = true := by decide +kernel
theorem name_ex : nameL [97] = true := by decide +kernel
theorem two_of {ss : List ByteArray} (h : [[97], [98]] = ss.map bl) : ss = [⟨#[97]⟩, ⟨#[98]⟩] := map_bl_inj (by rw [← h]; rfl)
theorem rdV_newS (w : World) (cs : List Value) (e : TypeId) (h : cs.length ≤ 100) : RdV (w.alloc (.cells cs.toArray e)) (.slice (some ⟨w.heap.size, 0, none⟩) cs.length cs.length) cs :=
  ⟨_, _, rfl, Nat.le_refl _, by unfold maxLen; omega, (fun e => by cases e), .inr ⟨w.heap.size, 0, rfl, fun i c hc => by rw [Nat.zero_add, cell_of_row _ w.heap.size i _ _ (0, 0) (heap_alloc_new w _), List.getElem?_toArray]; exact hc⟩⟩

set_option maxHeartbeats 1000000 in
theorem lives_anyX (w : World) : Calls Tryd.prog 10 #[] w fun e w' => e = .returned (.bool true) ∧ Below w.heap.size w w' := by
  have c1 := (split_any ⟨#[47, 97, 47, 98]⟩ w (by decide)).mono fun e w' h => h.yes (q := [[97], [98]]) sp_ex
  have c2 := fun W h => join_any (.slice (some ⟨W, 0, none⟩) 2 2) [⟨#[97]⟩, ⟨#[98]⟩] h
  have c3 := fun W => name_any ⟨#[97]⟩ W
  have e3 : nameL (bl ⟨#[97]⟩) = true := name_ex
  rw [e3] at c3
  have c4 := fun W => under_any ⟨#[47, 97]⟩ ⟨#[47, 97, 47, 98]⟩ W (by decide) (by decide)
  have e4 : und (bl ⟨#[47, 97]⟩) (bl ⟨#[47, 97, 47, 98]⟩) = true := und_ex
  rw [e4] at c4
  clear e3 e4
  go_enter Tryd.func10, Tryd.ntmps10
  go_wp2_with (go_at_call 7; refine c1.mono ?_; rintro e w1 ⟨a1, m1, k1, xs, rfl, hv1, hb1, hx, hm, l1, l2⟩; refine Hid.out ?_)
  have hxs := two_of hx.out.symm
  subst hxs
  have hm2 : m1 = 2 := hm.out.symm
  subst hm2
  have d2 := c2 w1.heap.size (w1.alloc (.cells #[.string ⟨#[97]⟩, .string ⟨#[98]⟩] 9)) (rdV_newS w1 (strs [⟨#[97]⟩, ⟨#[98]⟩]) _ (by decide))
  have HA : Hid (Below w.heap.size w (w1.alloc (.cells #[.string ⟨#[97]⟩, .string ⟨#[98]⟩] 9))) := hb1.trans ((below_alloc _ _).mono hb1.size)
  have HV : Hid (RdV (w1.alloc (.cells #[.string ⟨#[97]⟩, .string ⟨#[98]⟩] 9)) (.slice a1 2 k1) (strs [⟨#[97]⟩, ⟨#[98]⟩])) := hv1.out.below (below_alloc _ _)
  clear c1 c2 hx hm hv1 hb1
  refine hideN ?_
  go_wp2_with (go_at_call 11; refine d2.mono ?_; rintro e w2 ⟨p, n2, rfl, hb2, hc2⟩; refine Hid.out ?_)
  have HC : Hid (p = ⟨#[47, 97, 47, 98]⟩ ∧ n2 = 0) := by
    have e2 : jo ([⟨#[97]⟩, ⟨#[98]⟩].map bl) = some [47, 97, 47, 98] := jo_ex
    rw [e2] at hc2
    rcases hc2 with ⟨h, rfl⟩ | ⟨h, _⟩
    · exact ⟨bl_inj (Option.some.inj h).symm, rfl⟩
    · cases h
  obtain ⟨rfl, rfl⟩ := HC.out
  have HB2 := hideN (HA.out.trans (hb2.mono HA.out.size))
  have HV2 := HV.out.below hb2
  obtain ⟨b1, o1, rfl, cx0⟩ := HV2.str (i := 0) (by decide)
  obtain ⟨b2, o2, e, cx1⟩ := HV2.str (i := 1) (by decide)
  cases e
  have cx0' : w2.cell? ⟨b1, o1 + 0, none⟩ = some (.string ⟨#[97]⟩) := cx0
  have cx1' : w2.cell? ⟨b1, o1 + 1, none⟩ = some (.string ⟨#[98]⟩) := cx1
  rw [Nat.add_zero] at cx0'
  clear HC hc2 d2 hb2 HV HA cx0 cx1 HV2
  refine hideN ?_
  go_wp2_with (first | (go_at_call 13; refine (c3 _).mono ?_; rintro e w3 ⟨rfl, hb3⟩) | (go_at_call 15; refine (c4 _).mono ?_; rintro e w4 ⟨rfl, hb4⟩; (have HB4 := hideN ((HB2.out.trans (hb3.mono HB2.out.size)).trans (hb4.mono (HB2.out.trans (hb3.mono HB2.out.size)).size)))))
  go_ret
  exact ⟨rfl, by first | exact HB4.out | assumption⟩
end Go.Proofs.YtcjdhbiiigdmmaaDoor
