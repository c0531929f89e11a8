/-
  Bytes as cells, and rows of bytes at the head of a block.
-/
import Derived.Test.YtbpaeecclikeiaaRow
import Derived.Deep.MidRow
import Derived.Deep.WholeRow
namespace Go.Proofs.Ytbpaeecclikeiaa
open Go.RowKit
set_option linter.unusedVariables false

theorem hideP {p : Prop} (h : p) : Hid p := h

theorem heap_setCells_same {b : Nat} {t : TypeId} : ∀ (vs : List Value) (o : Nat) (w : World) (C : Array Value), w.heap[b]? = some (.cells C t (0, 0)) → o + vs.length ≤ C.size →
    (w.setCells b o vs).heap[b]? = some (.cells (C.toList.take o ++ vs ++ C.toList.drop (o + vs.length)).toArray t (0, 0))
  | [], o, w, C, h, hl => by
    simp only [World.setCells, List.append_nil, List.length_nil, Nat.add_zero, List.take_append_drop, Array.toArray_toList]
    exact h
  | v :: r, o, w, C, h, hl => by
    simp only [List.length_cons] at hl
    have h1 := heap_setCell_same w b o C t v h
    have h2 := heap_setCells_same r (o + 1) _ _ h1 (by simp; omega)
    rw [World.setCells, h2]
    refine congrArg (fun l => some (Obj.cells (List.toArray l) t (0, 0))) ?_
    simp only [Array.toList_setIfInBounds, List.length_cons]
    rw [List.take_set, List.drop_set, if_pos (by omega)]
    have e1 : (List.take (o + 1) C.toList).set o v = List.take o C.toList ++ [v] := by
      rw [List.take_add_one, List.getElem?_eq_getElem (by simpa using (show o < C.size by omega))]
      rw [List.set_append_right _ _ (by simp; omega)]
      simp only [List.length_take, Array.length_toList, Option.toList_some]
      rw [Nat.min_eq_left (by omega), Nat.sub_self]
      rfl
    rw [e1, show o + 1 + r.length = o + (r.length + 1) by omega]
    simp

theorem setCells_tchD (b : Nat) : ∀ (vs : List Value) (o : Nat) (w : World), Tch (fun k => k = b) w (w.setCells b o vs)
  | [], _, w => Tch.refl _ w
  | v :: r, o, w => by
    have h1 : Tch (fun k => k = b) w (w.setCell ⟨b, o, none⟩ v) := Tch.setCell (Tch.refl (fun k => k = b) w) (p := ⟨b, o, none⟩) (fun _ => rfl) v
    have h2 := setCells_tchD b r (o + 1) (w.setCell ⟨b, o, none⟩ v)
    exact h1.trans h2 (fun _ _ e => e)

/-- The bytes as cells. -/
def bcs (xs : List Int) : List Value := xs.map (Value.int .u8)
theorem bcs_len (xs : List Int) : (bcs xs).length = xs.length := by simp [bcs]
theorem bcs_one (xs : List Int) : ∀ v ∈ bcs xs, v.oneCell' = true := fun v hv => by
  obtain ⟨x, _, rfl⟩ := List.mem_map.1 hv
  rfl
theorem bcs_all (xs : List Int) : (bcs xs).toArray.all (·.oneCell') = true := all_oneCell_toArray (bcs_one xs)
theorem bcs_app (xs ys : List Int) : bcs (xs ++ ys) = bcs xs ++ bcs ys := by simp [bcs]

/-- 256 noughts. -/
def zz : List Int := List.replicate 256 0
theorem zz_len : zz.length = 256 := by simp only [zz, List.length_replicate]
theorem zz_by : By zz := fun i => by
  unfold zz
  rw [List.getD_eq_getElem?_getD, List.getElem?_replicate]
  split <;> exact ⟨by decide, by decide⟩
theorem zz_get {i : Nat} (h : i < 256) : zz[i]? = some 0 := by
  unfold zz
  rw [List.getElem?_replicate, if_pos h]

theorem By.set {x : List Int} (h : By x) (j : Nat) {y : Int} (h0 : 0 ≤ y) (h1 : y ≤ 255) : By (x.set j y) := fun i => by
  rw [List.getD_eq_getElem?_getD, List.getElem?_set]
  split
  · split
    · exact ⟨h0, h1⟩
    · simp
  · rw [← List.getD_eq_getElem?_getD]; exact h i

section
variable {P : Program}
/-- A whole array into the block that was made last. -/
theorem wpList_store_newD (w : World) {ops : Array Oper} {rest : List Oper} {op : Oper} {a : Act} {Q : Exit → Act → World → Prop} (hgd : op.guard = none) (ty : TypeId) (x y : Operand) (ho : op.op = .store ty x y)
    (c c' : Array Value) (hx : a.eval x = .pointer (some ⟨w.heap.size, 0, none⟩)) (hy : a.eval y = .agg c') (hi : (P.info? ty).map (·.size) = some c'.size) (hs : c.size = c'.size) (h1 : c'.all (·.oneCell') = true)
    (h : wpList P ops Q rest (a.put op.dst undef) (w.alloc (.cells c' ty))) : wpList P ops Q (op :: rest) a (w.alloc (.cells c ty)) := by
  refine wpList_plain hgd fun K hK => ?_
  have hrun := run_storeAt_new (P := P) w ty c c' hi hs h1
  unfold Oper.wp execOp
  simp only [ho, hx, hy, Sem.run_bind, Sem.run_pure, Result.andThen_ok, hrun]
  exact hK _ _ h
end

/-- Bytes at the head of a block, which may be written. -/
def Wb (w : World) (v : Value) (xs : List Int) : Prop := ∃ b cap t C, v = .slice (some ⟨b, 0, none⟩) xs.length cap ∧ xs.length ≤ cap ∧ cap ≤ maxLen ∧ w.heap[b]? = some (.cells C t (0, 0)) ∧ C.toList.take xs.length = bcs xs

section
variable {w w' : World} {v : Value} {xs : List Int}
theorem Wb.rd (h : Wb w v xs) : Rd .u8 w v xs := by
  obtain ⟨b, cap, t, C, rfl, h1, h2, h3, h4⟩ := h
  refine ⟨_, cap, rfl, h1, h2, (fun e => by cases e), .inr ⟨b, 0, rfl, fun i hi => ?_⟩⟩
  rw [Nat.zero_add, cell_of_row w b i C t (0, 0) h3]
  have e : (C.toList.take xs.length)[i]? = C.toList[i]? := by rw [List.getElem?_take, if_pos hi]
  rw [← Array.getElem?_toList, ← e, h4, bcs, List.getElem?_map, List.getD_eq_getElem?_getD, List.getElem?_eq_getElem hi]
  rfl
theorem Wb.tch {S : Nat → Prop} (h : Wb w v xs) (ht : Tch S w w') (hn : ∀ j, v.ownBlock = some j → ¬ S j) : Wb w' v xs := by
  obtain ⟨b, cap, t, C, rfl, h1, h2, h3, h4⟩ := h
  exact ⟨b, cap, t, C, rfl, h1, h2, by rw [ht.block b (Array.getElem?_eq_some_iff.1 h3).1 (hn b rfl)]; exact h3, h4⟩
theorem Wb.below (h : Wb w v xs) (hb : Below w.heap.size w w') : Wb w' v xs := h.tch (S := fun _ => False) (Tch.of_below hb) (fun _ _ e => e)
theorem Wb.fz {b k cap : Nat} (h : Wb w (.slice (some ⟨b, 0, none⟩) k cap) xs) (i : Nat) : w.frozen? ⟨b, i, none⟩ = false := by
  obtain ⟨b', cap', t, C, e, h1, h2, h3, h4⟩ := h
  simp only [Value.slice.injEq, Option.some.injEq, Addr.mk.injEq, and_true] at e
  obtain ⟨rfl, _, _⟩ := e
  exact frozen_of_row w b i C t h3
theorem Wb.lt (h : Wb w v xs) : ∀ j, v.ownBlock = some j → j < w.heap.size := fun j hj => by
  obtain ⟨b, cap, t, C, rfl, h1, h2, h3, h4⟩ := h
  cases hj
  exact (Array.getElem?_eq_some_iff.1 h3).1
theorem wb_new (w : World) (xs : List Int) (t : TypeId) (h : xs.length ≤ maxLen) : Wb (w.alloc (.cells (bcs xs).toArray t)) (.slice (some ⟨w.heap.size, 0, none⟩) xs.length xs.length) xs :=
  ⟨w.heap.size, xs.length, t, (bcs xs).toArray, rfl, Nat.le_refl _, h, heap_alloc_new w _, by rw [List.toList_toArray, List.take_of_length_le (by rw [bcs_len]; exact Nat.le_refl _)]⟩
theorem Wb.set {b k cap : Nat} (h : Wb w (.slice (some ⟨b, 0, none⟩) k cap) xs) (i : Nat) (y : Int) : Wb (w.setCell ⟨b, i, none⟩ (.int .u8 y)) (.slice (some ⟨b, 0, none⟩) k cap) (xs.set i y) := by
  obtain ⟨b', cap', t, C, e, h1, h2, h3, h4⟩ := h
  simp only [Value.slice.injEq, Option.some.injEq, Addr.mk.injEq, and_true] at e
  obtain ⟨rfl, rfl, rfl⟩ := e
  refine ⟨b, cap, t, _, by rw [List.length_set], by rw [List.length_set]; exact h1, h2, heap_setCell_same w b i C t _ h3, ?_⟩
  rw [List.length_set, Array.toList_setIfInBounds, List.take_set, h4, bcs, bcs, List.map_set]
end

end Go.Proofs.Ytbpaeecclikeiaa
