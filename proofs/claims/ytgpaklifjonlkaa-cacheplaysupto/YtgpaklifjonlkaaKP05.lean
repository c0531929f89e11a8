import Derived.Test.YtgpaklifjonlkaaKP03
import Derived.Deep.MidRow
import Derived.Deep.WholeRow
import Derived.Laws.ResultCell
/-
  Bytes as cells, and rows of bytes at the head of a block.
-/
namespace Go.Proofs.Ytgpaklifjonlkaa
open Go.RowKit
set_option linter.unusedVariables false

theorem hideP {p : Prop} (h : p) : Hid p := h

theorem heap_setCells_same {b : Nat} {t : TypeId} : ∀ (vs : List Value) (o : Nat) (w : World) (C : Array Value), w.heap[b]? = some (.cells C t (0, 0)) → o + vs.length ≤ C.size →
    (w.setCells b o vs).heap[b]? = some (.cells (C.toList.take o ++ vs ++ C.toList.drop (o + vs.length)).toArray t (0, 0))
  | [], o, w, C, h, hl => by
    simp only [World.setCells, List.append_nil, List.length_nil, Nat.add_zero, List.take_append_drop, Array.toArray_toList]
    exact h
  | v :: r, o, w, C, h, hl => by
    simp only [List.length_cons] at hl
    have h1 := heap_setCell_same w b o C t v h
    have h2 := heap_setCells_same r (o + 1) _ _ h1 (by simp; omega)
    rw [World.setCells, h2]
    refine congrArg (fun l => some (Obj.cells (List.toArray l) t (0, 0))) ?_
    simp only [Array.toList_setIfInBounds, List.length_cons]
    rw [List.take_set, List.drop_set, if_pos (by omega)]
    have e1 : (List.take (o + 1) C.toList).set o v = List.take o C.toList ++ [v] := by
      rw [List.take_add_one, List.getElem?_eq_getElem (by simpa using (show o < C.size by omega))]
      rw [List.set_append_right _ _ (by simp; omega)]
      simp only [List.length_take, Array.length_toList, Option.toList_some]
      rw [Nat.min_eq_left (by omega), Nat.sub_self]
      rfl
    rw [e1, show o + 1 + r.length = o + (r.length + 1) by omega]
    simp

theorem setCells_tchD (b : Nat) : ∀ (vs : List Value) (o : Nat) (w : World), Tch (fun k => k = b) w (w.setCells b o vs)
  | [], _, w => Tch.refl _ w
  | v :: r, o, w => by
    have h1 : Tch (fun k => k = b) w (w.setCell ⟨b, o, none⟩ v) := Tch.setCell (Tch.refl (fun k => k = b) w) (p := ⟨b, o, none⟩) (fun _ => rfl) v
    have h2 := setCells_tchD b r (o + 1) (w.setCell ⟨b, o, none⟩ v)
    exact h1.trans h2 (fun _ _ e => e)

/-- The bytes as cells. -/
def bcs (xs : List Int) : List Value := xs.map (Value.int .u8)
theorem bcs_len (xs : List Int) : (bcs xs).length = xs.length := by simp [bcs]
theorem bcs_one (xs : List Int) : ∀ v ∈ bcs xs, v.oneCell' = true := fun v hv => by
  obtain ⟨x, _, rfl⟩ := List.mem_map.1 hv
  rfl
theorem bcs_all (xs : List Int) : (bcs xs).toArray.all (·.oneCell') = true := all_oneCell_toArray (bcs_one xs)
theorem bcs_app (xs ys : List Int) : bcs (xs ++ ys) = bcs xs ++ bcs ys := by simp [bcs]

/-- 256 noughts. -/
def zz : List Int := List.replicate 256 0
theorem zz_len : zz.length = 256 := by simp only [zz, List.length_replicate]
theorem zz_by : By zz := fun i => by
  unfold zz
  rw [List.getD_eq_getElem?_getD, List.getElem?_replicate]
  split <;> exact ⟨by decide, by decide⟩
theorem zz_get {i : Nat} (h : i < 256) : zz[i]? = some 0 := by
  unfold zz
  rw [List.getElem?_replicate, if_pos h]

theorem By.set {x : List Int} (h : By x) (j : Nat) {y : Int} (h0 : 0 ≤ y) (h1 : y ≤ 255) : By (x.set j y) := fun i => by
  rw [List.getD_eq_getElem?_getD, List.getElem?_set]
  split
  · split
    · exact ⟨h0, h1⟩
    · simp
  · rw [← List.getD_eq_getElem?_getD]; exact h i

section
variable {P : Program}
/-- A whole array into the block that was made last. -/
theorem wpList_store_newD (w : World) {ops : Array Oper} {rest : List Oper} {op : Oper} {a : Act} {Q : Exit → Act → World → Prop} (hgd : op.guard = none) (ty : TypeId) (x y : Operand) (ho : op.op = .store ty x y)
    (c c' : Array Value) (hx : a.eval x = .pointer (some ⟨w.heap.size, 0, none⟩)) (hy : a.eval y = .agg c') (hi : (P.info? ty).map (·.size) = some c'.size) (hs : c.size = c'.size) (h1 : c'.all (·.oneCell') = true)
    (h : wpList P ops Q rest (a.put op.dst undef) (w.alloc (.cells c' ty))) : wpList P ops Q (op :: rest) a (w.alloc (.cells c ty)) := by
  refine wpList_plain hgd fun K hK => ?_
  have hrun := run_storeAt_new (P := P) w ty c c' hi hs h1
  unfold Oper.wp execOp
  simp only [ho, hx, hy, Sem.run_bind, Sem.run_pure, Result.andThen_ok, hrun]
  exact hK _ _ h
end

/-- Bytes at the head of a block, which may be written. -/
def Wb (w : World) (v : Value) (xs : List Int) : Prop := ∃ b cap t C, v = .slice (some ⟨b, 0, none⟩) xs.length cap ∧ xs.length ≤ cap ∧ cap ≤ maxLen ∧ w.heap[b]? = some (.cells C t (0, 0)) ∧ C.toList.take xs.length = bcs xs

section
variable {w w' : World} {v : Value} {xs : List Int}
theorem Wb.rd (h : Wb w v xs) : Rd .u8 w v xs := by
  obtain ⟨b, cap, t, C, rfl, h1, h2, h3, h4⟩ := h
  refine ⟨_, cap, rfl, h1, h2, (fun e => by cases e), .inr ⟨b, 0, rfl, fun i hi => ?_⟩⟩
  rw [Nat.zero_add, cell_of_row w b i C t (0, 0) h3]
  have e : (C.toList.take xs.length)[i]? = C.toList[i]? := by rw [List.getElem?_take, if_pos hi]
  rw [← Array.getElem?_toList, ← e, h4, bcs, List.getElem?_map, List.getD_eq_getElem?_getD, List.getElem?_eq_getElem hi]
  rfl
theorem Wb.tch {S : Nat → Prop} (h : Wb w v xs) (ht : Tch S w w') (hn : ∀ j, v.ownBlock = some j → ¬ S j) : Wb w' v xs := by
  obtain ⟨b, cap, t, C, rfl, h1, h2, h3, h4⟩ := h
  exact ⟨b, cap, t, C, rfl, h1, h2, by rw [ht.block b (Array.getElem?_eq_some_iff.1 h3).1 (hn b rfl)]; exact h3, h4⟩
theorem Wb.below (h : Wb w v xs) (hb : Below w.heap.size w w') : Wb w' v xs := h.tch (S := fun _ => False) (Tch.of_below hb) (fun _ _ e => e)
theorem Wb.fz {b k cap : Nat} (h : Wb w (.slice (some ⟨b, 0, none⟩) k cap) xs) (i : Nat) : w.frozen? ⟨b, i, none⟩ = false := by
  obtain ⟨b', cap', t, C, e, h1, h2, h3, h4⟩ := h
  simp only [Value.slice.injEq, Option.some.injEq, Addr.mk.injEq, and_true] at e
  obtain ⟨rfl, _, _⟩ := e
  exact frozen_of_row w b i C t h3
theorem Wb.lt (h : Wb w v xs) : ∀ j, v.ownBlock = some j → j < w.heap.size := fun j hj => by
  obtain ⟨b, cap, t, C, rfl, h1, h2, h3, h4⟩ := h
  cases hj
  exact (Array.getElem?_eq_some_iff.1 h3).1
theorem wb_new (w : World) (xs : List Int) (t : TypeId) (h : xs.length ≤ maxLen) : Wb (w.alloc (.cells (bcs xs).toArray t)) (.slice (some ⟨w.heap.size, 0, none⟩) xs.length xs.length) xs :=
  ⟨w.heap.size, xs.length, t, (bcs xs).toArray, rfl, Nat.le_refl _, h, heap_alloc_new w _, by rw [List.toList_toArray, List.take_of_length_le (by rw [bcs_len]; exact Nat.le_refl _)]⟩
theorem Wb.set {b k cap : Nat} (h : Wb w (.slice (some ⟨b, 0, none⟩) k cap) xs) (i : Nat) (y : Int) : Wb (w.setCell ⟨b, i, none⟩ (.int .u8 y)) (.slice (some ⟨b, 0, none⟩) k cap) (xs.set i y) := by
  obtain ⟨b', cap', t, C, e, h1, h2, h3, h4⟩ := h
  simp only [Value.slice.injEq, Option.some.injEq, Addr.mk.injEq, and_true] at e
  obtain ⟨rfl, rfl, rfl⟩ := e
  refine ⟨b, cap, t, _, by rw [List.length_set], by rw [List.length_set]; exact h1, h2, heap_setCell_same w b i C t _ h3, ?_⟩
  rw [List.length_set, Array.toList_setIfInBounds, List.take_set, h4, bcs, bcs, List.map_set]
end

end Go.Proofs.Ytgpaklifjonlkaa
/-
  Rows of sectors: blocks of 256 bytes each, side by side.
-/
namespace Go.Proofs.Ytgpaklifjonlkaa
open Go.RowKit
set_option linter.unusedVariables false

/-- Each has 256 bytes. -/
def SOk (rows : List (List Int)) : Prop := ∀ x ∈ rows, x.length = 256 ∧ By x

theorem SOk.nil : SOk [] := fun x h => by cases h
theorem SOk.cons {a : List Int} {r : List (List Int)} (h : SOk (a :: r)) : SOk r := fun x hx => h x (List.mem_cons_of_mem _ hx)
theorem SOk.app {a b : List (List Int)} (h : SOk a) (k : SOk b) : SOk (a ++ b) := fun x hx => by
  rcases List.mem_append.1 hx with e | e
  · exact h x e
  · exact k x e
theorem SOk.one {x : List Int} (h : x.length = 256) (hb : By x) : SOk [x] := fun y hy => by simp at hy; subst hy; exact ⟨h, hb⟩
theorem SOk.set {a : List (List Int)} (h : SOk a) (i : Nat) {x : List Int} (hx : x.length = 256) (hb : By x) : SOk (a.set i x) := fun y hy => by
  rcases List.mem_or_eq_of_mem_set hy with e | e
  · exact h y e
  · subst e; exact ⟨hx, hb⟩
theorem SOk.get {a : List (List Int)} (h : SOk a) {i : Nat} (hi : i < a.length) : (a.getD i []).length = 256 ∧ By (a.getD i []) := by
  rw [List.getD_eq_getElem?_getD, List.getElem?_eq_getElem hi]
  exact h _ (List.getElem_mem hi)
theorem SOk.last {a : List (List Int)} (h : SOk a) (h0 : a ≠ []) (d : List Int) : (a.getLastD d).length = 256 ∧ By (a.getLastD d) := by
  rw [List.getLastD_eq_getLast?, List.getLast?_eq_some_getLast h0]
  exact h _ (List.getLast_mem h0)
theorem SOk.map {a : List (List Int)} (h : SOk a) (f : List Int → List Int) (hf : ∀ x, x.length = 256 → By x → (f x).length = 256 ∧ By (f x)) : SOk (a.map f) := fun y hy => by
  obtain ⟨x, hx, rfl⟩ := List.mem_map.1 hy
  exact hf x (h x hx).1 (h x hx).2

theorem flat_len : ∀ {rows : List (List Int)}, SOk rows → rows.flatten.length = rows.length * 256
  | [], _ => rfl
  | a :: r, h => by
    have := flat_len h.cons
    have := (h a (List.mem_cons_self)).1
    simp only [List.flatten_cons, List.length_append, List.length_cons]
    omega

theorem flat_get : ∀ {rows : List (List Int)}, SOk rows → ∀ {i : Nat}, i < rows.length → ∀ {j : Nat}, j < 256 → rows.flatten[i * 256 + j]? = (rows.getD i [])[j]?
  | [], _, i, hi, _, _ => by simp at hi
  | a :: r, h, 0, _, j, hj => by
    have := (h a (List.mem_cons_self)).1
    simp only [List.flatten_cons, Nat.zero_mul, Nat.zero_add, List.getD_cons_zero]
    rw [List.getElem?_append_left (by omega)]
  | a :: r, h, i + 1, hi, j, hj => by
    have ha := (h a (List.mem_cons_self)).1
    simp only [List.flatten_cons, List.getD_cons_succ]
    rw [List.getElem?_append_right (by omega), ← flat_get h.cons (i := i) (by simpa using hi) hj]
    congr 1
    omega

theorem flat_put : ∀ {rows : List (List Int)}, SOk rows → ∀ {i : Nat}, i < rows.length → ∀ (x : List Int), rows.flatten.take (i * 256) ++ x ++ rows.flatten.drop (i * 256 + 256) = (rows.set i x).flatten
  | [], _, i, hi, _ => by simp at hi
  | a :: r, h, 0, _, x => by
    have ha := (h a (List.mem_cons_self)).1
    simp only [List.flatten_cons, Nat.zero_mul, Nat.zero_add, List.set_cons_zero, List.take_zero, List.nil_append]
    rw [← ha, List.drop_left]
  | a :: r, h, i + 1, hi, x => by
    have ha := (h a (List.mem_cons_self)).1
    have ih := flat_put h.cons (i := i) (by simpa using hi) x
    simp only [List.flatten_cons, List.set_cons_succ]
    rw [← ih, List.take_append, List.drop_append, List.take_of_length_le (by omega), List.drop_eq_nil_of_le (by omega)]
    rw [show (i + 1) * 256 - a.length = i * 256 by omega, show (i + 1) * 256 + 256 - a.length = i * 256 + 256 by omega]
    simp

/-- The slice v has these sectors for its own. -/
def SecR (w : World) (v : Value) (rows : List (List Int)) : Prop := SOk rows ∧ w.ownsRow 0 101 256 v rows.length (bcs rows.flatten)

section
variable {w w' : World} {v : Value} {rows : List (List Int)} {b k cap : Nat}

theorem SecR.nil (w : World) : SecR w (.slice none 0 0) [] := ⟨SOk.nil, World.ownsRow_nil _ _ _ _⟩
theorem SecR.tch {S : Nat → Prop} (h : SecR w v rows) (ht : Tch S w w') (hn : ∀ j, v.ownBlock = some j → ¬ S j) : SecR w' v rows := ⟨h.1, ht.owns h.2 hn⟩
theorem SecR.below (h : SecR w v rows) (hb : Below w.heap.size w w') : SecR w' v rows := h.tch (S := fun _ => False) (Tch.of_below hb) (fun _ _ e => e)
theorem SecR.lt (h : SecR w v rows) : ∀ j, v.ownBlock = some j → j < w.heap.size := fun j hj => (World.ownsRow.lt h.2 j hj).2
theorem SecR.shape (h : SecR w v rows) (h0 : rows ≠ []) : ∃ g cap cur, v = .slice (some ⟨g, 0, none⟩) rows.length cap ∧ w.heap[g]? = some (.cells cur 101 (0, 0)) ∧ rows.length ≤ cap ∧ cap ≤ maxLen ∧ cur.size = cap * 256 ∧ cur.toList.take (rows.length * 256) = bcs rows.flatten := by
  rcases h.2.2 with ⟨_, e⟩ | ⟨g, cap, cur, e, _, hg, h1, h2, h3, h4⟩
  · exact absurd (List.eq_nil_of_length_eq_zero e) h0
  · exact ⟨g, cap, cur, e, hg, h1, h2, h3, h4⟩
theorem SecR.blk (h : SecR w (.slice (some ⟨b, 0, none⟩) k cap) rows) : ∃ cur, k = rows.length ∧ w.heap[b]? = some (.cells cur 101 (0, 0)) ∧ rows.length ≤ cap ∧ cap ≤ maxLen ∧ cur.size = cap * 256 ∧ cur.toList.take (rows.length * 256) = bcs rows.flatten := by
  rcases h.2.2 with ⟨e, _⟩ | ⟨g, c, cur, e, _, hg, h1, h2, h3, h4⟩
  · cases e
  · simp only [Value.slice.injEq, Option.some.injEq, Addr.mk.injEq, and_true] at e
    obtain ⟨rfl, rfl, rfl⟩ := e
    exact ⟨cur, rfl, hg, h1, h2, h3, h4⟩

theorem SecR.load (h : SecR w (.slice (some ⟨b, 0, none⟩) k cap) rows) {i : Nat} (hi : i < rows.length) : w.rangeAt b (i * 256) (bcs (rows.getD i [])) := fun j u hu => by
  obtain ⟨cur, rfl, hg, h1, h2, h3, h4⟩ := h.blk
  have hl := (h.1.get hi).1
  have hj : j < 256 := by have := (List.getElem?_eq_some_iff.1 hu).1; rw [bcs_len, hl] at this; exact this
  rw [cell_of_row w b (i * 256 + j) cur _ (0, 0) hg]
  have e : (cur.toList.take (rows.length * 256))[i * 256 + j]? = cur.toList[i * 256 + j]? := by rw [List.getElem?_take, if_pos (by omega)]
  rw [← Array.getElem?_toList, ← e, h4, bcs, List.getElem?_map, flat_get h.1 hi hj, ← List.getElem?_map]
  exact hu

theorem SecR.there (h : SecR w (.slice (some ⟨b, 0, none⟩) k cap) rows) {i : Nat} (hi : i < rows.length) : w.there b (i * 256) 256 := fun j hj => by
  obtain ⟨cur, rfl, hg, h1, h2, h3, h4⟩ := h.blk
  refine ⟨?_, frozen_of_row w b _ _ _ hg⟩
  rw [cell_of_row w b (i * 256 + j) cur _ (0, 0) hg, Array.getElem?_eq_getElem (by omega)]
  rfl

theorem SecR.put (h : SecR w (.slice (some ⟨b, 0, none⟩) k cap) rows) {i : Nat} (hi : i < rows.length) {x : List Int} (hx : x.length = 256) (hb : By x) :
    SecR (w.setCells b (i * 256) (bcs x)) (.slice (some ⟨b, 0, none⟩) k cap) (rows.set i x) := by
  obtain ⟨cur, rfl, hg, h1, h2, h3, h4⟩ := h.blk
  have hs := heap_setCells_same (bcs x) (i * 256) w cur hg (by rw [bcs_len, hx]; omega)
  refine ⟨h.1.set i hx hb, ?_, .inr ⟨b, cap, _, by rw [List.length_set], Nat.zero_le _, hs, by rw [List.length_set]; exact h1, h2, ?_, ?_⟩⟩
  · rw [bcs_len, flat_len (h.1.set i hx hb)]
  · simp only [List.size_toArray, List.length_append, List.length_take, List.length_drop, bcs_len, hx, Array.length_toList]
    omega
  · rw [List.length_set, ← flat_put h.1 hi x, bcs_app, bcs_app, bcs_len, hx]
    have f := flat_len h.1
    have e1 : bcs (List.take (i * 256) rows.flatten) = List.take (i * 256) cur.toList := by
      rw [bcs, List.map_take, ← bcs, ← h4, List.take_take, Nat.min_eq_left (by omega)]
    have e2 : bcs (List.drop (i * 256 + 256) rows.flatten) = List.take (rows.length * 256 - (i * 256 + 256)) (List.drop (i * 256 + 256) cur.toList) := by
      rw [bcs, List.map_drop, ← bcs, ← h4, List.drop_take]
    rw [e1, e2]
    simp only [List.append_assoc]
    have hc : cur.toList.length = cap * 256 := by rw [Array.length_toList]; exact h3
    rw [List.take_append, List.take_append, List.take_of_length_le (by simp; omega), List.take_of_length_le (l := bcs x) (by rw [bcs_len, hx, List.length_take, hc]; omega)]
    rw [bcs_len, hx, List.length_take, hc, Nat.min_eq_left (by omega)]
    rw [show rows.length * 256 - i * 256 - 256 = rows.length * 256 - (i * 256 + 256) by omega]

theorem flat_put1 : ∀ {rows : List (List Int)}, SOk rows → ∀ {i : Nat}, i < rows.length → ∀ {j : Nat}, j < 256 → ∀ (y : Int), rows.flatten.set (i * 256 + j) y = (rows.set i ((rows.getD i []).set j y)).flatten
  | [], _, i, hi, _, _, _ => by simp at hi
  | a :: r, h, 0, _, j, hj, y => by
    have ha := (h a (List.mem_cons_self)).1
    simp only [List.flatten_cons, Nat.zero_mul, Nat.zero_add, List.set_cons_zero, List.getD_cons_zero]
    rw [List.set_append_left _ _ (by omega)]
  | a :: r, h, i + 1, hi, j, hj, y => by
    have ha := (h a (List.mem_cons_self)).1
    have ih := flat_put1 h.cons (i := i) (by simpa using hi) hj y
    simp only [List.flatten_cons, List.set_cons_succ, List.getD_cons_succ]
    rw [← ih, List.set_append_right _ _ (by omega)]
    congr 2
    omega

theorem SecR.put1 (h : SecR w (.slice (some ⟨b, 0, none⟩) k cap) rows) {i j : Nat} (hi : i < rows.length) (hj : j < 256) {y : Int} (h0 : 0 ≤ y) (h255 : y ≤ 255) :
    SecR (w.setCell ⟨b, i * 256 + j, none⟩ (.int .u8 y)) (.slice (some ⟨b, 0, none⟩) k cap) (rows.set i ((rows.getD i []).set j y)) := by
  obtain ⟨cur, rfl, hg, h1, h2, h3, h4⟩ := h.blk
  have hs := heap_setCell_same w b (i * 256 + j) cur _ (.int .u8 y) hg
  have hr := h.1.get hi
  have hok : SOk (rows.set i ((rows.getD i []).set j y)) := h.1.set i (by rw [List.length_set]; exact hr.1) (hr.2.set j h0 h255)
  refine ⟨hok, ?_, .inr ⟨b, cap, _, by rw [List.length_set], Nat.zero_le _, hs, by rw [List.length_set]; exact h1, h2, by simp only [Array.size_setIfInBounds]; exact h3, ?_⟩⟩
  · rw [bcs_len, flat_len hok]
  · rw [List.length_set, ← flat_put1 h.1 hi hj y, bcs, List.map_set, ← bcs, ← h4, Array.toList_setIfInBounds, List.take_set]

theorem SecR.cell (h : SecR w (.slice (some ⟨b, 0, none⟩) k cap) rows) {i j : Nat} (hi : i < rows.length) (hj : j < 256) : w.cell? ⟨b, i * 256 + j, none⟩ = some (.int .u8 ((rows.getD i []).getD j 0)) ∧ w.frozen? ⟨b, i * 256 + j, none⟩ = false := by
  obtain ⟨cur, rfl, hg, _⟩ := h.blk
  refine ⟨?_, frozen_of_row w b _ _ _ hg⟩
  have hl := (h.1.get hi).1
  refine h.load hi j _ ?_
  generalize rows.getD i [] = R at hl ⊢
  rw [bcs, List.getElem?_map, List.getD_eq_getElem?_getD, List.getElem?_eq_getElem (by omega)]
  rfl
end

theorem info_sec : (Try.prog.info? 101).map (fun i => (i.zero, i.size, i.bytes)) = some (some (.agg (bcs zz).toArray), 256, 256) := by kernel_rfl

theorem info_sec2 : (Try.prog.info? 101).map (fun i => (i.zero, i.size)) = some (some (.agg (bcs zz).toArray), 256) := by kernel_rfl

end Go.Proofs.Ytgpaklifjonlkaa
/-
  The program's sector as a value: the sum is laid behind its other bytes.
-/
namespace Go.Proofs.Ytgpaklifjonlkaa
open Go.RowKit Pl
set_option linter.unusedVariables false
set_option linter.unusedSimpArgs false
set_option maxRecDepth 100000

theorem info_frm : (Try.prog.info? 106).map (fun i => (i.zero, i.size)) = some (some (.agg (bcs zz).toArray), 256) := by kernel_rfl
theorem arr_len : Try.prog.arrayLen 106 = 256 := by kernel_rfl
theorem arr_el : Try.prog.elem 106 = 5 := by kernel_rfl
theorem arr_und : Try.prog.underlying 106 = some (.array (Try.prog.arrayLen 106) (Try.prog.elem 106)) := by rw [arr_len, arr_el]; exact Try.underlying106

theorem slice_frm (g : Nat) (w : World) : (Instr.sliceAt 106 (.pointer (some ⟨g, 0, none⟩)) none none none).run Try.prog w = .ok (.slice (some ⟨g, 0, none⟩) 256 256) w := by
  rw [run_sliceAt_array_all w 106 _ arr_und, arr_len, arr_el]
  simp [slicedAt, go_sem]
theorem slice_frm_h (g : Nat) (w : World) : (Instr.sliceAt 106 (.pointer (some ⟨g, 0, none⟩)) none (some (.int .i64 252)) none).run Try.prog w = .ok (.slice (some ⟨g, 0, none⟩) 252 256) w := by
  have := run_sliceAt_array_h w 106 ⟨g, 0, none⟩ arr_und .i64 252 (by omega) (by rw [arr_len]; omega)
  rw [arr_len, arr_el] at this
  rw [this]
  simp [slicedAt, go_sem]

/-- A variable that is a sector: its bytes. -/
def Fv (w : World) (g : Nat) (xs : List Int) : Prop := w.heap[g]? = some (.cells (bcs xs).toArray 106 (0, 0)) ∧ xs.length = 256 ∧ By xs

section
variable {w w' : World} {g : Nat} {xs : List Int}
theorem Fv.lt (h : Fv w g xs) : g < w.heap.size := (Array.getElem?_eq_some_iff.1 h.1).1
theorem Fv.tch {S : Nat → Prop} (h : Fv w g xs) (ht : Tch S w w') (hg : ¬ S g) : Fv w' g xs := ⟨by rw [ht.block g h.lt hg]; exact h.1, h.2⟩
theorem Fv.below (h : Fv w g xs) (hb : Below w.heap.size w w') : Fv w' g xs := h.tch (S := fun _ => False) (Tch.of_below hb) (fun e => e)
theorem Fv.wb (h : Fv w g xs) : Wb w (.slice (some ⟨g, 0, none⟩) 256 256) xs :=
  ⟨g, 256, _, _, by rw [h.2.1], by rw [h.2.1]; exact Nat.le_refl _, by unfold maxLen; omega, h.1, by rw [h.2.1, List.toList_toArray, List.take_of_length_le (by rw [bcs_len, h.2.1]; exact Nat.le_refl _)]⟩
theorem Fv.rd (h : Fv w g xs) : Rd .u8 w (.slice (some ⟨g, 0, none⟩) 256 256) xs := h.wb.rd
theorem Fv.cell (h : Fv w g xs) {i : Nat} (hi : i < 256) : w.cell? ⟨g, i, none⟩ = some (.int .u8 (xs.getD i 0)) := by
  rw [cell_of_row w g i _ _ (0, 0) h.1, List.getElem?_toArray, bcs, List.getElem?_map, List.getD_eq_getElem?_getD, List.getElem?_eq_getElem (by rw [h.2.1]; exact hi)]
  rfl
theorem Fv.fz (h : Fv w g xs) (i : Nat) : w.frozen? ⟨g, i, none⟩ = false := frozen_of_row w g i _ _ h.1
theorem Fv.rdTo (h : Fv w g xs) (m : Nat) (hm : m ≤ 256) : Rd .u8 w (.slice (some ⟨g, 0, none⟩) m 256) (xs.take m) :=
  rd_take m (by rw [h.2.1]; exact hm) (by rw [h.2.1]; exact Nat.le_refl _) (by unfold maxLen; omega) (fun i hi => by rw [Nat.zero_add]; exact h.cell (by rw [← h.2.1]; exact hi))
theorem Fv.range (h : Fv w g xs) : w.rangeAt g 0 (bcs xs) := fun j u hu => by
  have hj : j < 256 := by have := (List.getElem?_eq_some_iff.1 hu).1; rw [bcs_len, h.2.1] at this; exact this
  rw [Nat.zero_add, cell_of_row w g j _ _ (0, 0) h.1, List.getElem?_toArray]
  exact hu
theorem Fv.there (h : Fv w g xs) : w.there g 0 256 := fun j hj => by
  rw [Nat.zero_add]
  exact ⟨by rw [h.cell hj]; rfl, h.fz j⟩
theorem Fv.set (h : Fv w g xs) (i : Nat) {y : Int} (h0 : 0 ≤ y) (h1 : y ≤ 255) : Fv (w.setCell ⟨g, i, none⟩ (.int .u8 y)) g (xs.set i y) := by
  refine ⟨?_, by rw [List.length_set]; exact h.2.1, h.2.2.set i h0 h1⟩
  have := heap_setCell_same w g i _ _ (.int .u8 y) h.1
  rw [this, bcs, bcs, List.map_set]
  simp
theorem fv_new (w : World) (hl : xs.length = 256) (hb : By xs) : Fv (w.alloc (.cells (bcs xs).toArray 106)) w.heap.size xs := ⟨heap_alloc_new w _, hl, hb⟩
end

/-- The bytes so far: j bytes of the sum stand. -/
def sj (xs : List Int) (j : Nat) : List Int := xs.take 252 ++ ((le4 (crc (xs.take 252))).take j ++ xs.drop (252 + j))
theorem sj_0 (xs : List Int) : sj xs 0 = xs := by unfold sj; rw [List.take_zero, List.nil_append, List.take_append_drop]
theorem sj_4 {xs : List Int} (h : xs.length = 256) : sj xs 4 = smd xs := by
  unfold sj smd
  rw [List.drop_of_length_le (by omega), List.append_nil, List.take_of_length_le (l := le4 _) (by rw [le4_len]; exact Nat.le_refl _)]
theorem sj_step {xs : List Int} (h : xs.length = 256) {j : Nat} (hj : j < 4) : (sj xs j).set (252 + j) ((le4 (crc (xs.take 252))).getD j 0) = sj xs (j + 1) := by
  unfold sj
  generalize crc (xs.take 252) = s
  have hl : (xs.take 252).length = 252 := by rw [List.length_take]; omega
  rw [List.set_append_right _ _ (by omega), hl, show 252 + j - 252 = j by omega]
  congr 1
  have hm : ((le4 s).take j).length = j := by rw [List.length_take, le4_len]; omega
  rw [List.set_append_right _ _ (by omega), hm, Nat.sub_self, List.drop_eq_getElem_cons (show 252 + j < xs.length by omega), List.set_cons_zero]
  rw [List.take_succ_eq_append_getElem (show j < (le4 s).length by rw [le4_len]; exact hj), List.append_assoc, List.getD_eq_getElem?_getD, List.getElem?_eq_getElem (show j < (le4 s).length by rw [le4_len]; exact hj)]
  rfl
theorem le4_get (s j : Nat) (hj : j < 4) : (le4 s).getD j 0 = ((s / 2 ^ (8 * j) % 256 : Nat) : Int) := by
  match j, hj with
  | 0, _ => simp [le4]
  | 1, _ => rfl
  | 2, _ => rfl
  | 3, _ => rfl
theorem results_cellB {fn : Func} {p : Tmp} {ty : TypeId} (h : fn.results = #[.cell p ty]) (tmps : Array Value) (P : Program) (w : World) :
    (results fn tmps).run P w = ((asAddr (tmps.getD p undef)).run P w).andThen fun a w₁ => (loadVar ty a).run P w₁ := by
  simp only [results, h]
  simp [Sem.run_bind, Result.andThen]
theorem results_atB {fn : Func} {p : Tmp} {ty : TypeId} (h : fn.results = #[.cell p ty]) (tmps : Array Value) (P : Program) (w : World) (b : Nat) (v : Value) (ha : tmps.getD p undef = .pointer (some ⟨b, 0, none⟩))
    (hl : (loadVar ty ⟨b, 0, none⟩).run P w = .ok v w) : (results fn tmps).run P w = .ok v w := by
  rw [results_cellB h, ha]
  simp [asAddr, Result.andThen, hl]
theorem inf_frm : (Try.prog.info? 106).map (·.size) = some 256 := (zero_of_info info_frm).2
theorem bcs_size {xs : List Int} (h : xs.length = 256) : (bcs xs).toArray.size = 256 := by rw [List.size_toArray, bcs_len, h]
/-- A whole sector is laid into a variable, and told from there. -/
theorem Fv.put {w : World} {g : Nat} {xs ys : List Int} (h : Fv w g xs) (hl : ys.length = 256) (hb : By ys) : Fv (w.setCells g 0 (bcs ys)) g ys := by
  refine ⟨?_, hl, hb⟩
  have := heap_setCells_same (bcs ys) 0 w _ h.1 (by rw [bcs_len, bcs_size h.2.1, hl]; exact Nat.le_refl _)
  rw [this, List.toList_toArray, List.take_zero, List.nil_append, List.drop_of_length_le (by rw [bcs_len, bcs_len, hl, h.2.1]; exact Nat.le_refl _), List.append_nil]
theorem Fv.load {w : World} {g : Nat} {xs : List Int} (h : Fv w g xs) : (loadVar 106 ⟨g, 0, none⟩).run Try.prog w = .ok (.agg (bcs xs).toArray) w :=
  run_loadVar_mid (P := Try.prog) w g 0 106 (bcs xs) _ h.range Try.underlying106 rfl (by rw [bcs_len, h.2.1]; exact inf_frm)
end Go.Proofs.Ytgpaklifjonlkaa
/-
  The program's sector of a superblock, as a value.
-/
namespace Go.Proofs.Ytgpaklifjonlkaa
open Go.RowKit Pl
set_option linter.unusedVariables false
set_option linter.unusedSimpArgs false
set_option maxRecDepth 100000

theorem info_frmU : (Try.prog.info? 106).map (fun i => (i.zero, i.size)) = some (some (.agg (bcs zz).toArray), 256) := by kernel_rfl
theorem arr_lenU : Try.prog.arrayLen 106 = 256 := by kernel_rfl
theorem arr_elU : Try.prog.elem 106 = 5 := by kernel_rfl
theorem arr_undU : Try.prog.underlying 106 = some (.array (Try.prog.arrayLen 106) (Try.prog.elem 106)) := by rw [arr_lenU, arr_elU]; exact Try.underlying106

theorem slice_frmU (g : Nat) (w : World) : (Instr.sliceAt 106 (.pointer (some ⟨g, 0, none⟩)) none none none).run Try.prog w = .ok (.slice (some ⟨g, 0, none⟩) 256 256) w := by
  rw [run_sliceAt_array_all w 106 _ arr_undU, arr_lenU, arr_elU]
  simp [slicedAt, go_sem]
theorem slice_frm_hU (g : Nat) (w : World) : (Instr.sliceAt 106 (.pointer (some ⟨g, 0, none⟩)) none (some (.int .i64 252)) none).run Try.prog w = .ok (.slice (some ⟨g, 0, none⟩) 252 256) w := by
  have := run_sliceAt_array_h w 106 ⟨g, 0, none⟩ arr_undU .i64 252 (by omega) (by rw [arr_lenU]; omega)
  rw [arr_lenU, arr_elU] at this
  rw [this]
  simp [slicedAt, go_sem]

/-- A variable that is a sector: its bytes. -/
def Fu (w : World) (g : Nat) (xs : List Int) : Prop := w.heap[g]? = some (.cells (bcs xs).toArray 106 (0, 0)) ∧ xs.length = 256 ∧ By xs

section
variable {w w' : World} {g : Nat} {xs : List Int}
theorem Fu.lt (h : Fu w g xs) : g < w.heap.size := (Array.getElem?_eq_some_iff.1 h.1).1
theorem Fu.tch {S : Nat → Prop} (h : Fu w g xs) (ht : Tch S w w') (hg : ¬ S g) : Fu w' g xs := ⟨by rw [ht.block g h.lt hg]; exact h.1, h.2⟩
theorem Fu.below (h : Fu w g xs) (hb : Below w.heap.size w w') : Fu w' g xs := h.tch (S := fun _ => False) (Tch.of_below hb) (fun e => e)
theorem Fu.wb (h : Fu w g xs) : Wb w (.slice (some ⟨g, 0, none⟩) 256 256) xs :=
  ⟨g, 256, _, _, by rw [h.2.1], by rw [h.2.1]; exact Nat.le_refl _, by unfold maxLen; omega, h.1, by rw [h.2.1, List.toList_toArray, List.take_of_length_le (by rw [bcs_len, h.2.1]; exact Nat.le_refl _)]⟩
theorem Fu.rd (h : Fu w g xs) : Rd .u8 w (.slice (some ⟨g, 0, none⟩) 256 256) xs := h.wb.rd
theorem Fu.cell (h : Fu w g xs) {i : Nat} (hi : i < 256) : w.cell? ⟨g, i, none⟩ = some (.int .u8 (xs.getD i 0)) := by
  rw [cell_of_row w g i _ _ (0, 0) h.1, List.getElem?_toArray, bcs, List.getElem?_map, List.getD_eq_getElem?_getD, List.getElem?_eq_getElem (by rw [h.2.1]; exact hi)]
  rfl
theorem Fu.fz (h : Fu w g xs) (i : Nat) : w.frozen? ⟨g, i, none⟩ = false := frozen_of_row w g i _ _ h.1
theorem Fu.rdTo (h : Fu w g xs) (m : Nat) (hm : m ≤ 256) : Rd .u8 w (.slice (some ⟨g, 0, none⟩) m 256) (xs.take m) :=
  rd_take m (by rw [h.2.1]; exact hm) (by rw [h.2.1]; exact Nat.le_refl _) (by unfold maxLen; omega) (fun i hi => by rw [Nat.zero_add]; exact h.cell (by rw [← h.2.1]; exact hi))
theorem Fu.range (h : Fu w g xs) : w.rangeAt g 0 (bcs xs) := fun j u hu => by
  have hj : j < 256 := by have := (List.getElem?_eq_some_iff.1 hu).1; rw [bcs_len, h.2.1] at this; exact this
  rw [Nat.zero_add, cell_of_row w g j _ _ (0, 0) h.1, List.getElem?_toArray]
  exact hu
theorem Fu.there (h : Fu w g xs) : w.there g 0 256 := fun j hj => by
  rw [Nat.zero_add]
  exact ⟨by rw [h.cell hj]; rfl, h.fz j⟩
theorem Fu.set (h : Fu w g xs) (i : Nat) {y : Int} (h0 : 0 ≤ y) (h1 : y ≤ 255) : Fu (w.setCell ⟨g, i, none⟩ (.int .u8 y)) g (xs.set i y) := by
  refine ⟨?_, by rw [List.length_set]; exact h.2.1, h.2.2.set i h0 h1⟩
  have := heap_setCell_same w g i _ _ (.int .u8 y) h.1
  rw [this, bcs, bcs, List.map_set]
  simp
theorem fv_newU (w : World) (hl : xs.length = 256) (hb : By xs) : Fu (w.alloc (.cells (bcs xs).toArray 106)) w.heap.size xs := ⟨heap_alloc_new w _, hl, hb⟩
end

theorem results_cellU {fn : Func} {p : Tmp} {ty : TypeId} (h : fn.results = #[.cell p ty]) (tmps : Array Value) (P : Program) (w : World) :
    (results fn tmps).run P w = ((asAddr (tmps.getD p undef)).run P w).andThen fun a w₁ => (loadVar ty a).run P w₁ := by
  simp only [results, h]
  simp [Sem.run_bind, Result.andThen]
theorem results_atU {fn : Func} {p : Tmp} {ty : TypeId} (h : fn.results = #[.cell p ty]) (tmps : Array Value) (P : Program) (w : World) (b : Nat) (v : Value) (ha : tmps.getD p undef = .pointer (some ⟨b, 0, none⟩))
    (hl : (loadVar ty ⟨b, 0, none⟩).run P w = .ok v w) : (results fn tmps).run P w = .ok v w := by
  rw [results_cellU h, ha]
  simp [asAddr, Result.andThen, hl]
theorem inf_frmU : (Try.prog.info? 106).map (·.size) = some 256 := (zero_of_info info_frmU).2
theorem bcs_sizeU {xs : List Int} (h : xs.length = 256) : (bcs xs).toArray.size = 256 := by rw [List.size_toArray, bcs_len, h]
/-- A whole sector is laid into a variable, and told from there. -/
theorem Fu.put {w : World} {g : Nat} {xs ys : List Int} (h : Fu w g xs) (hl : ys.length = 256) (hb : By ys) : Fu (w.setCells g 0 (bcs ys)) g ys := by
  refine ⟨?_, hl, hb⟩
  have := heap_setCells_same (bcs ys) 0 w _ h.1 (by rw [bcs_len, bcs_sizeU h.2.1, hl]; exact Nat.le_refl _)
  rw [this, List.toList_toArray, List.take_zero, List.nil_append, List.drop_of_length_le (by rw [bcs_len, bcs_len, hl, h.2.1]; exact Nat.le_refl _), List.append_nil]
theorem Fu.load {w : World} {g : Nat} {xs : List Int} (h : Fu w g xs) : (loadVar 106 ⟨g, 0, none⟩).run Try.prog w = .ok (.agg (bcs xs).toArray) w :=
  run_loadVar_mid (P := Try.prog) w g 0 106 (bcs xs) _ h.range Try.underlying106 rfl (by rw [bcs_len, h.2.1]; exact inf_frmU)
end Go.Proofs.Ytgpaklifjonlkaa
