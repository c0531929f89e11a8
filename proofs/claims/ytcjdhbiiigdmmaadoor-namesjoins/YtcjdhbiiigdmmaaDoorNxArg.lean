/-
  A list of texts that came in can be read.
-/
import Derived.Test.YtcjdhbiiigdmmaaDoorNxMem
import Derived.Deep.Slices
import Derived.SliceStrings
import Derived.ChangeSame
import Derived.SizedLaws
namespace Go.Proofs.YtcjdhbiiigdmmaaDoor
open Go.RowKit Go.ChangeShapes Go.WideShapes
set_option linter.unusedVariables false

section
variable {H : Type} {enc : TypeId × Value → H} {W : World} {base : Nat} {spare : Nat → Bool} {held : Bool}
theorem weightsAll_mem {P : Program} {e : TypeId} {l : List (DataW H)} {d : DataW H} (hd : d ∈ l) {n : Nat} (hn : n ∈ d.weights P e) : n ∈ DataW.weightsAll P e l := by
  induction l with
  | nil => cases hd
  | cons x r ih =>
    simp only [DataW.weightsAll]
    rcases List.mem_cons.1 hd with e1 | e1
    · subst e1; exact List.mem_append_left _ hn
    · exact List.mem_append_right _ (ih e1)
theorem texts_open {fuel : Nat} {cs : List Value} {x : DataW H × List MemPlace} (h : DataW.trod enc Tryd.prog W base spare held fuel 22 cs = some x) (hw : ∀ n ∈ x.1.weights Tryd.prog 22, n ≤ reachBytes) :
    ∃ (u : Value) (ss : List ByteArray), cs = [u] ∧ RdV W u (Go.Proofs.YtcjdhbiiigdmmaaDoor.strs ss) ∧ ss.length ≤ 8796093021952 ∧ ∀ i, (ss.getD i eS).size ≤ 140737488351232 := by
  have hc1 : Tryd.prog.cellsOf 9 = 1 := by kernel_rfl
  rcases open_strings Tryd.underlying22 Tryd.underlying9 hc1 h with ⟨h1, h2⟩ | ⟨a, len, cap, ss, rfl, hb, hl, hm, hz, rfl, hcell, hsz⟩
  · exact ⟨.slice none 0 0, [], h1, rdV_nil W, by simp, fun i => by rw [List.getD_nil]; exact Nat.zero_le _⟩
  · have hlm : len ≤ ss.length := by rw [hz]; split <;> omega
    have hb16 : Tryd.prog.bytesOf 9 = 16 := by kernel_rfl
    simp only [DataW.weights, Tryd.underlying22] at hw
    have w1 := hw _ (List.mem_cons_self ..)
    rw [hb16] at w1
    simp only [Go.ChangeShapes.strs, List.length_map, List.length_take, List.length_drop] at w1
    unfold reachBytes at w1
    have e1 : (ss.take len).length = len := by rw [List.length_take]; omega
    refine ⟨_, ss.take len, rfl, ⟨some a, cap, by rw [Go.Proofs.YtcjdhbiiigdmmaaDoor.strs_len, e1], by rw [Go.Proofs.YtcjdhbiiigdmmaaDoor.strs_len, e1]; exact hl, hm, (fun e => by cases e), ?_⟩, by omega, fun i => ?_⟩
    · by_cases h0 : len = 0
      · left; rw [h0]; rfl
      · right
        obtain ⟨b, off, spot⟩ := a
        have hspot : spot = none := by simpa [Addr.add] using World.cell?_spot (hcell 0 (by omega))
        subst hspot
        refine ⟨b, off, rfl, fun i c hi => ?_⟩
        have hil : i < len := by have := (List.getElem?_eq_some_iff.1 hi).1; rw [Go.Proofs.YtcjdhbiiigdmmaaDoor.strs_len, e1] at this; exact this
        have := hcell i (by omega)
        rw [Addr.add_lit] at this
        rw [this, ← hi]
        simp only [Go.Proofs.YtcjdhbiiigdmmaaDoor.strs, List.getElem?_map, List.getElem?_take, if_pos hil, List.getD_eq_getElem?_getD]
        rw [List.getElem?_eq_getElem (show i < ss.length by omega)]
        rfl
    · rw [List.getD_eq_getElem?_getD]
      cases e : (ss.take len)[i]? with
      | none => exact Nat.zero_le _
      | some s =>
        have hs := List.mem_of_getElem? e
        have := hw s.data.toList.length (List.mem_cons_of_mem _ (List.mem_append_left _ (weightsAll_mem (d := .lit (.string s.data.toList)) (List.mem_map.2 ⟨s, hs, rfl⟩) (by simp [DataW.weights]))))
        unfold reachBytes at this
        rw [Array.length_toList] at this
        exact this
end
end Go.Proofs.YtcjdhbiiigdmmaaDoor
