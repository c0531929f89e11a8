/-
  Rows of sectors: blocks of 256 bytes each, side by side.
-/
import Derived.Test.YtaacidgihhcpkaaDBs
import Derived.Deep.MidRow
import Derived.Deep.WholeRow
namespace Go.Proofs.Ytaacidgihhcpkaa
open Go.RowKit
set_option linter.unusedVariables false

/-- Each has 256 bytes. -/
def SOk (rows : List (List Int)) : Prop := ∀ x ∈ rows, x.length = 256 ∧ By x

theorem SOk.nil : SOk [] := fun x h => by cases h
theorem SOk.cons {a : List Int} {r : List (List Int)} (h : SOk (a :: r)) : SOk r := fun x hx => h x (List.mem_cons_of_mem _ hx)
theorem SOk.app {a b : List (List Int)} (h : SOk a) (k : SOk b) : SOk (a ++ b) := fun x hx => by
  rcases List.mem_append.1 hx with e | e
  · exact h x e
  · exact k x e
theorem SOk.one {x : List Int} (h : x.length = 256) (hb : By x) : SOk [x] := fun y hy => by simp at hy; subst hy; exact ⟨h, hb⟩
theorem SOk.set {a : List (List Int)} (h : SOk a) (i : Nat) {x : List Int} (hx : x.length = 256) (hb : By x) : SOk (a.set i x) := fun y hy => by
  rcases List.mem_or_eq_of_mem_set hy with e | e
  · exact h y e
  · subst e; exact ⟨hx, hb⟩
theorem SOk.get {a : List (List Int)} (h : SOk a) {i : Nat} (hi : i < a.length) : (a.getD i []).length = 256 ∧ By (a.getD i []) := by
  rw [List.getD_eq_getElem?_getD, List.getElem?_eq_getElem hi]
  exact h _ (List.getElem_mem hi)
theorem SOk.last {a : List (List Int)} (h : SOk a) (h0 : a ≠ []) (d : List Int) : (a.getLastD d).length = 256 ∧ By (a.getLastD d) := by
  rw [List.getLastD_eq_getLast?, List.getLast?_eq_some_getLast h0]
  exact h _ (List.getLast_mem h0)
theorem SOk.map {a : List (List Int)} (h : SOk a) (f : List Int → List Int) (hf : ∀ x, x.length = 256 → By x → (f x).length = 256 ∧ By (f x)) : SOk (a.map f) := fun y hy => by
  obtain ⟨x, hx, rfl⟩ := List.mem_map.1 hy
  exact hf x (h x hx).1 (h x hx).2

theorem flat_len : ∀ {rows : List (List Int)}, SOk rows → rows.flatten.length = rows.length * 256
  | [], _ => rfl
  | a :: r, h => by
    have := flat_len h.cons
    have := (h a (List.mem_cons_self)).1
    simp only [List.flatten_cons, List.length_append, List.length_cons]
    omega

theorem flat_get : ∀ {rows : List (List Int)}, SOk rows → ∀ {i : Nat}, i < rows.length → ∀ {j : Nat}, j < 256 → rows.flatten[i * 256 + j]? = (rows.getD i [])[j]?
  | [], _, i, hi, _, _ => by simp at hi
  | a :: r, h, 0, _, j, hj => by
    have := (h a (List.mem_cons_self)).1
    simp only [List.flatten_cons, Nat.zero_mul, Nat.zero_add, List.getD_cons_zero]
    rw [List.getElem?_append_left (by omega)]
  | a :: r, h, i + 1, hi, j, hj => by
    have ha := (h a (List.mem_cons_self)).1
    simp only [List.flatten_cons, List.getD_cons_succ]
    rw [List.getElem?_append_right (by omega), ← flat_get h.cons (i := i) (by simpa using hi) hj]
    congr 1
    omega

theorem flat_put : ∀ {rows : List (List Int)}, SOk rows → ∀ {i : Nat}, i < rows.length → ∀ (x : List Int), rows.flatten.take (i * 256) ++ x ++ rows.flatten.drop (i * 256 + 256) = (rows.set i x).flatten
  | [], _, i, hi, _ => by simp at hi
  | a :: r, h, 0, _, x => by
    have ha := (h a (List.mem_cons_self)).1
    simp only [List.flatten_cons, Nat.zero_mul, Nat.zero_add, List.set_cons_zero, List.take_zero, List.nil_append]
    rw [← ha, List.drop_left]
  | a :: r, h, i + 1, hi, x => by
    have ha := (h a (List.mem_cons_self)).1
    have ih := flat_put h.cons (i := i) (by simpa using hi) x
    simp only [List.flatten_cons, List.set_cons_succ]
    rw [← ih, List.take_append, List.drop_append, List.take_of_length_le (by omega), List.drop_eq_nil_of_le (by omega)]
    rw [show (i + 1) * 256 - a.length = i * 256 by omega, show (i + 1) * 256 + 256 - a.length = i * 256 + 256 by omega]
    simp

/-- The slice v has these sectors for its own. -/
def SecR (w : World) (v : Value) (rows : List (List Int)) : Prop := SOk rows ∧ w.ownsRow 0 83 256 v rows.length (bcs rows.flatten)

section
variable {w w' : World} {v : Value} {rows : List (List Int)} {b k cap : Nat}

theorem SecR.nil (w : World) : SecR w (.slice none 0 0) [] := ⟨SOk.nil, World.ownsRow_nil _ _ _ _⟩
theorem SecR.tch {S : Nat → Prop} (h : SecR w v rows) (ht : Tch S w w') (hn : ∀ j, v.ownBlock = some j → ¬ S j) : SecR w' v rows := ⟨h.1, ht.owns h.2 hn⟩
theorem SecR.below (h : SecR w v rows) (hb : Below w.heap.size w w') : SecR w' v rows := h.tch (S := fun _ => False) (Tch.of_below hb) (fun _ _ e => e)
theorem SecR.lt (h : SecR w v rows) : ∀ j, v.ownBlock = some j → j < w.heap.size := fun j hj => (World.ownsRow.lt h.2 j hj).2
theorem SecR.shape (h : SecR w v rows) (h0 : rows ≠ []) : ∃ g cap cur, v = .slice (some ⟨g, 0, none⟩) rows.length cap ∧ w.heap[g]? = some (.cells cur 83 (0, 0)) ∧ rows.length ≤ cap ∧ cap ≤ maxLen ∧ cur.size = cap * 256 ∧ cur.toList.take (rows.length * 256) = bcs rows.flatten := by
  rcases h.2.2 with ⟨_, e⟩ | ⟨g, cap, cur, e, _, hg, h1, h2, h3, h4⟩
  · exact absurd (List.eq_nil_of_length_eq_zero e) h0
  · exact ⟨g, cap, cur, e, hg, h1, h2, h3, h4⟩
theorem SecR.blk (h : SecR w (.slice (some ⟨b, 0, none⟩) k cap) rows) : ∃ cur, k = rows.length ∧ w.heap[b]? = some (.cells cur 83 (0, 0)) ∧ rows.length ≤ cap ∧ cap ≤ maxLen ∧ cur.size = cap * 256 ∧ cur.toList.take (rows.length * 256) = bcs rows.flatten := by
  rcases h.2.2 with ⟨e, _⟩ | ⟨g, c, cur, e, _, hg, h1, h2, h3, h4⟩
  · cases e
  · simp only [Value.slice.injEq, Option.some.injEq, Addr.mk.injEq, and_true] at e
    obtain ⟨rfl, rfl, rfl⟩ := e
    exact ⟨cur, rfl, hg, h1, h2, h3, h4⟩

theorem SecR.load (h : SecR w (.slice (some ⟨b, 0, none⟩) k cap) rows) {i : Nat} (hi : i < rows.length) : w.rangeAt b (i * 256) (bcs (rows.getD i [])) := fun j u hu => by
  obtain ⟨cur, rfl, hg, h1, h2, h3, h4⟩ := h.blk
  have hl := (h.1.get hi).1
  have hj : j < 256 := by have := (List.getElem?_eq_some_iff.1 hu).1; rw [bcs_len, hl] at this; exact this
  rw [cell_of_row w b (i * 256 + j) cur _ (0, 0) hg]
  have e : (cur.toList.take (rows.length * 256))[i * 256 + j]? = cur.toList[i * 256 + j]? := by rw [List.getElem?_take, if_pos (by omega)]
  rw [← Array.getElem?_toList, ← e, h4, bcs, List.getElem?_map, flat_get h.1 hi hj, ← List.getElem?_map]
  exact hu

theorem SecR.there (h : SecR w (.slice (some ⟨b, 0, none⟩) k cap) rows) {i : Nat} (hi : i < rows.length) : w.there b (i * 256) 256 := fun j hj => by
  obtain ⟨cur, rfl, hg, h1, h2, h3, h4⟩ := h.blk
  refine ⟨?_, frozen_of_row w b _ _ _ hg⟩
  rw [cell_of_row w b (i * 256 + j) cur _ (0, 0) hg, Array.getElem?_eq_getElem (by omega)]
  rfl

theorem SecR.put (h : SecR w (.slice (some ⟨b, 0, none⟩) k cap) rows) {i : Nat} (hi : i < rows.length) {x : List Int} (hx : x.length = 256) (hb : By x) :
    SecR (w.setCells b (i * 256) (bcs x)) (.slice (some ⟨b, 0, none⟩) k cap) (rows.set i x) := by
  obtain ⟨cur, rfl, hg, h1, h2, h3, h4⟩ := h.blk
  have hs := heap_setCells_same (bcs x) (i * 256) w cur hg (by rw [bcs_len, hx]; omega)
  refine ⟨h.1.set i hx hb, ?_, .inr ⟨b, cap, _, by rw [List.length_set], Nat.zero_le _, hs, by rw [List.length_set]; exact h1, h2, ?_, ?_⟩⟩
  · rw [bcs_len, flat_len (h.1.set i hx hb)]
  · simp only [List.size_toArray, List.length_append, List.length_take, List.length_drop, bcs_len, hx, Array.length_toList]
    omega
  · rw [List.length_set, ← flat_put h.1 hi x, bcs_app, bcs_app, bcs_len, hx]
    have f := flat_len h.1
    have e1 : bcs (List.take (i * 256) rows.flatten) = List.take (i * 256) cur.toList := by
      rw [bcs, List.map_take, ← bcs, ← h4, List.take_take, Nat.min_eq_left (by omega)]
    have e2 : bcs (List.drop (i * 256 + 256) rows.flatten) = List.take (rows.length * 256 - (i * 256 + 256)) (List.drop (i * 256 + 256) cur.toList) := by
      rw [bcs, List.map_drop, ← bcs, ← h4, List.drop_take]
    rw [e1, e2]
    simp only [List.append_assoc]
    have hc : cur.toList.length = cap * 256 := by rw [Array.length_toList]; exact h3
    rw [List.take_append, List.take_append, List.take_of_length_le (by simp; omega), List.take_of_length_le (l := bcs x) (by rw [bcs_len, hx, List.length_take, hc]; omega)]
    rw [bcs_len, hx, List.length_take, hc, Nat.min_eq_left (by omega)]
    rw [show rows.length * 256 - i * 256 - 256 = rows.length * 256 - (i * 256 + 256) by omega]

theorem flat_put1 : ∀ {rows : List (List Int)}, SOk rows → ∀ {i : Nat}, i < rows.length → ∀ {j : Nat}, j < 256 → ∀ (y : Int), rows.flatten.set (i * 256 + j) y = (rows.set i ((rows.getD i []).set j y)).flatten
  | [], _, i, hi, _, _, _ => by simp at hi
  | a :: r, h, 0, _, j, hj, y => by
    have ha := (h a (List.mem_cons_self)).1
    simp only [List.flatten_cons, Nat.zero_mul, Nat.zero_add, List.set_cons_zero, List.getD_cons_zero]
    rw [List.set_append_left _ _ (by omega)]
  | a :: r, h, i + 1, hi, j, hj, y => by
    have ha := (h a (List.mem_cons_self)).1
    have ih := flat_put1 h.cons (i := i) (by simpa using hi) hj y
    simp only [List.flatten_cons, List.set_cons_succ, List.getD_cons_succ]
    rw [← ih, List.set_append_right _ _ (by omega)]
    congr 2
    omega

theorem SecR.put1 (h : SecR w (.slice (some ⟨b, 0, none⟩) k cap) rows) {i j : Nat} (hi : i < rows.length) (hj : j < 256) {y : Int} (h0 : 0 ≤ y) (h255 : y ≤ 255) :
    SecR (w.setCell ⟨b, i * 256 + j, none⟩ (.int .u8 y)) (.slice (some ⟨b, 0, none⟩) k cap) (rows.set i ((rows.getD i []).set j y)) := by
  obtain ⟨cur, rfl, hg, h1, h2, h3, h4⟩ := h.blk
  have hs := heap_setCell_same w b (i * 256 + j) cur _ (.int .u8 y) hg
  have hr := h.1.get hi
  have hok : SOk (rows.set i ((rows.getD i []).set j y)) := h.1.set i (by rw [List.length_set]; exact hr.1) (hr.2.set j h0 h255)
  refine ⟨hok, ?_, .inr ⟨b, cap, _, by rw [List.length_set], Nat.zero_le _, hs, by rw [List.length_set]; exact h1, h2, by simp only [Array.size_setIfInBounds]; exact h3, ?_⟩⟩
  · rw [bcs_len, flat_len hok]
  · rw [List.length_set, ← flat_put1 h.1 hi hj y, bcs, List.map_set, ← bcs, ← h4, Array.toList_setIfInBounds, List.take_set]

theorem SecR.cell (h : SecR w (.slice (some ⟨b, 0, none⟩) k cap) rows) {i j : Nat} (hi : i < rows.length) (hj : j < 256) : w.cell? ⟨b, i * 256 + j, none⟩ = some (.int .u8 ((rows.getD i []).getD j 0)) ∧ w.frozen? ⟨b, i * 256 + j, none⟩ = false := by
  obtain ⟨cur, rfl, hg, _⟩ := h.blk
  refine ⟨?_, frozen_of_row w b _ _ _ hg⟩
  have hl := (h.1.get hi).1
  refine h.load hi j _ ?_
  generalize rows.getD i [] = R at hl ⊢
  rw [bcs, List.getElem?_map, List.getD_eq_getElem?_getD, List.getElem?_eq_getElem (by omega)]
  rfl
end

theorem info_sec : (Try.prog.info? 83).map (fun i => (i.zero, i.size, i.bytes)) = some (some (.agg (bcs zz).toArray), 256, 256) := by kernel_rfl

theorem info_sec2 : (Try.prog.info? 83).map (fun i => (i.zero, i.size)) = some (some (.agg (bcs zz).toArray), 256) := by kernel_rfl

end Go.Proofs.Ytaacidgihhcpkaa
