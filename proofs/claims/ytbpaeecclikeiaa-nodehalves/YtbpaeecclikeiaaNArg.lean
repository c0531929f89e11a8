/-
  A node that came in as one struct can be read, and how great it may be.
-/
import Derived.Test.YtbpaeecclikeiaaNMem
import Derived.Deep.Slices
import Derived.SliceStrings
import Derived.ChangeSame
import Derived.SizedLaws
namespace Go.Proofs.Ytbpaeecclikeiaa
open Go.RowKit Pl Go.ChangeShapes Go.WideShapes
set_option linter.unusedVariables false

theorem len4N {α : Type} {l : List α} (h : l.length = 4) : ∃ a b c d, l = [a, b, c, d] := by
  match l, h with
  | [a, b, c, d], _ => exact ⟨a, b, c, d, rfl⟩

section
variable {H : Type} {enc : TypeId × Value → H} {W : World} {base : Nat} {spare : Nat → Bool} {held : Bool}
theorem weightsAll_mem {P : Program} {e : TypeId} {l : List (DataW H)} {d : DataW H} (hd : d ∈ l) {n : Nat} (hn : n ∈ d.weights P e) : n ∈ DataW.weightsAll P e l := by
  induction l with
  | nil => cases hd
  | cons x r ih =>
    simp only [DataW.weightsAll]
    rcases List.mem_cons.1 hd with e1 | e1
    · subst e1; exact List.mem_append_left _ hn
    · exact List.mem_append_right _ (ih e1)
theorem texts_open {fuel : Nat} {cs : List Value} {x : DataW H × List MemPlace} (h : DataW.trod enc Try.prog W base spare held fuel 22 cs = some x) (hw : ∀ n ∈ x.1.weights Try.prog 22, n ≤ reachBytes) :
    ∃ (u : Value) (ss : List ByteArray), cs = [u] ∧ RdV W u (Go.Proofs.Ytbpaeecclikeiaa.strs ss) ∧ ss.length ≤ 8796093021952 ∧ ∀ i, (ss.getD i eS).size ≤ 140737488351232 := by
  have hc1 : Try.prog.cellsOf 9 = 1 := by kernel_rfl
  rcases open_strings Try.underlying22 Try.underlying9 hc1 h with ⟨h1, h2⟩ | ⟨a, len, cap, ss, rfl, hb, hl, hm, hz, rfl, hcell, hsz⟩
  · exact ⟨.slice none 0 0, [], h1, rdV_nil W, by simp, fun i => by rw [List.getD_nil]; exact Nat.zero_le _⟩
  · have hlm : len ≤ ss.length := by rw [hz]; split <;> omega
    have hb16 : Try.prog.bytesOf 9 = 16 := by kernel_rfl
    simp only [DataW.weights, Try.underlying22] at hw
    have w1 := hw _ (List.mem_cons_self ..)
    rw [hb16] at w1
    simp only [Go.ChangeShapes.strs, List.length_map, List.length_take, List.length_drop] at w1
    unfold reachBytes at w1
    have e1 : (ss.take len).length = len := by rw [List.length_take]; omega
    refine ⟨_, ss.take len, rfl, ⟨some a, cap, by rw [Go.Proofs.Ytbpaeecclikeiaa.strs_len, e1], by rw [Go.Proofs.Ytbpaeecclikeiaa.strs_len, e1]; exact hl, hm, (fun e => by cases e), ?_⟩, by omega, fun i => ?_⟩
    · by_cases h0 : len = 0
      · left; rw [h0]; rfl
      · right
        obtain ⟨b, off, spot⟩ := a
        have hspot : spot = none := by simpa [Addr.add] using World.cell?_spot (hcell 0 (by omega))
        subst hspot
        refine ⟨b, off, rfl, fun i c hi => ?_⟩
        have hil : i < len := by have := (List.getElem?_eq_some_iff.1 hi).1; rw [Go.Proofs.Ytbpaeecclikeiaa.strs_len, e1] at this; exact this
        have := hcell i (by omega)
        rw [Addr.add_lit] at this
        rw [this, ← hi]
        simp only [Go.Proofs.Ytbpaeecclikeiaa.strs, List.getElem?_map, List.getElem?_take, if_pos hil, List.getD_eq_getElem?_getD]
        rw [List.getElem?_eq_getElem (show i < ss.length by omega)]
        rfl
    · rw [List.getD_eq_getElem?_getD]
      cases e : (ss.take len)[i]? with
      | none => exact Nat.zero_le _
      | some s =>
        have hs := List.mem_of_getElem? e
        have := hw s.data.toList.length (List.mem_cons_of_mem _ (List.mem_append_left _ (weightsAll_mem (d := .lit (.string s.data.toList)) (List.mem_map.2 ⟨s, hs, rfl⟩) (by simp [DataW.weights]))))
        unfold reachBytes at this
        rw [Array.length_toList] at this
        exact this
theorem numbers_open {fuel : Nat} {cs : List Value} {x : DataW H × List MemPlace} (h : DataW.trod enc Try.prog W base spare held fuel 23 cs = some x) (hw : ∀ n ∈ x.1.weights Try.prog 23, n ≤ reachBytes) :
    ∃ (u : Value) (ds : List Int), cs = [u] ∧ RdV W u (nums ds) ∧ ds.length ≤ 17592186043904 := by
  have hc1 : Try.prog.cellsOf 3 = 1 := by kernel_rfl
  rcases open_ints Try.underlying23 Try.underlying3 hc1 h with ⟨h1, h2⟩ | ⟨a, len, cap, zs, rfl, hb, hl, hm, hz, rfl, hcell, hwz⟩
  · exact ⟨.slice none 0 0, [], h1, rdV_nil W, by simp⟩
  · have hlm : len ≤ zs.length := by rw [hz]; split <;> omega
    have hb8 : Try.prog.bytesOf 3 = 8 := by kernel_rfl
    simp only [DataW.weights, Try.underlying23] at hw
    have w1 := hw _ (List.mem_cons_self ..)
    rw [hb8] at w1
    simp only [lits, List.length_map, List.length_take, List.length_drop] at w1
    unfold reachBytes at w1
    have e1 : (zs.take len).length = len := by rw [List.length_take]; omega
    refine ⟨_, zs.take len, rfl, ⟨some a, cap, by rw [nums_len, e1], by rw [nums_len, e1]; exact hl, hm, (fun e => by cases e), ?_⟩, by omega⟩
    by_cases h0 : len = 0
    · left; rw [h0]; rfl
    · right
      obtain ⟨b, off, spot⟩ := a
      have hspot : spot = none := by simpa [Addr.add] using World.cell?_spot (hcell 0 (by omega))
      subst hspot
      refine ⟨b, off, rfl, fun i c hi => ?_⟩
      have hil : i < len := by have := (List.getElem?_eq_some_iff.1 hi).1; rw [nums_len, e1] at this; exact this
      have := hcell i (by omega)
      rw [Addr.add_lit] at this
      rw [this, ← hi]
      simp only [nums, List.getElem?_map, List.getElem?_take, if_pos hil, List.getD_eq_getElem?_getD]
      rw [List.getElem?_eq_getElem (show i < zs.length by omega)]
      rfl
theorem node_open {fuel : Nat} {cs : List Value} {x : DataW H × List MemPlace} (h : DataW.trod enc Try.prog W base spare held fuel 25 cs = some x) (hw : ∀ n ∈ x.1.weights Try.prog 25, n ≤ reachBytes) :
    ∃ (n : Nd) (u1 u2 u3 : Value), cs = [.bool n.lf, u1, u2, u3] ∧ Nn W n u1 u2 u3 ∧ Sm n := by
  obtain ⟨xs, m, _, hx, hl, hxl, hf⟩ := DataW.trod_struct Try.underlying25 h
  have hl4 : cs.length = 4 := by rw [hl]; kernel_rfl
  have hx4 : xs.length = 4 := by rw [hxl]; rfl
  clear hl hxl
  obtain ⟨y0, y1, y2, y3, rfl⟩ := len4N hx4
  obtain ⟨v0, v1, v2, v3, rfl⟩ := len4N hl4
  have k0 : Try.prog.cellsOf 4 = 1 := by kernel_rfl
  have k1 : Try.prog.cellsOf 22 = 1 := by kernel_rfl
  have k3 : Try.prog.cellsOf 23 = 1 := by kernel_rfl
  have g0 : DataW.trod enc Try.prog W base spare held m 4 (([v0, v1, v2, v3].drop 0).take (Try.prog.cellsOf 4)) = some y0 := hf 0 _ rfl
  have g1 : DataW.trod enc Try.prog W base spare held m 22 (([v0, v1, v2, v3].drop 1).take (Try.prog.cellsOf 22)) = some y1 := hf 1 _ rfl
  have g2 : DataW.trod enc Try.prog W base spare held m 22 (([v0, v1, v2, v3].drop 2).take (Try.prog.cellsOf 22)) = some y2 := hf 2 _ rfl
  have g3 : DataW.trod enc Try.prog W base spare held m 23 (([v0, v1, v2, v3].drop 3).take (Try.prog.cellsOf 23)) = some y3 := hf 3 _ rfl
  rw [k0] at g0
  rw [k1] at g1 g2
  rw [k3] at g3
  have hx1 : x.1 = .agg [y0.1, y1.1, y2.1, y3.1] := by rw [hx]; rfl
  rw [hx1] at hw
  simp only [DataW.weights, Try.underlying25, DataW.weightsEach, List.map_cons, List.map_nil] at hw
  obtain ⟨lf, e0, _⟩ := DataW.trod_bool Try.underlying4 g0
  cases e0
  obtain ⟨w1, ks, c1, r1, l1, s1⟩ := texts_open g1 (fun n hn => hw n (by simp [hn]))
  obtain ⟨w2, vs, c2, r2, l2, s2⟩ := texts_open g2 (fun n hn => hw n (by simp [hn]))
  obtain ⟨w3, ds, c3, r3, l3⟩ := numbers_open g3 (fun n hn => hw n (by simp [hn]))
  cases c1
  cases c2
  cases c3
  exact ⟨⟨lf, ks, vs, ds⟩, _, _, _, rfl, ⟨r1, r2, r3⟩, ⟨s1, s2, l1, l2, l3⟩⟩
end
end Go.Proofs.Ytbpaeecclikeiaa
