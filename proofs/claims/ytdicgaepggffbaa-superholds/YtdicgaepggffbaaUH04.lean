import Derived.Test.YtdicgaepggffbaaUH03
import Derived.Deep.MidRow
import Derived.Deep.WholeRow
import Derived.Maps.AppendAt
import Derived.Laws.ResultCell
/-
  Bytes as cells, and rows of bytes at the head of a block.
-/
namespace Go.Proofs.Ytdicgaepggffbaa
open Go.RowKit
set_option linter.unusedVariables false

theorem hideP {p : Prop} (h : p) : Hid p := h

theorem heap_setCells_same {b : Nat} {t : TypeId} : ∀ (vs : List Value) (o : Nat) (w : World) (C : Array Value), w.heap[b]? = some (.cells C t (0, 0)) → o + vs.length ≤ C.size →
    (w.setCells b o vs).heap[b]? = some (.cells (C.toList.take o ++ vs ++ C.toList.drop (o + vs.length)).toArray t (0, 0))
  | [], o, w, C, h, hl => by
    simp only [World.setCells, List.append_nil, List.length_nil, Nat.add_zero, List.take_append_drop, Array.toArray_toList]
    exact h
  | v :: r, o, w, C, h, hl => by
    simp only [List.length_cons] at hl
    have h1 := heap_setCell_same w b o C t v h
    have h2 := heap_setCells_same r (o + 1) _ _ h1 (by simp; omega)
    rw [World.setCells, h2]
    refine congrArg (fun l => some (Obj.cells (List.toArray l) t (0, 0))) ?_
    simp only [Array.toList_setIfInBounds, List.length_cons]
    rw [List.take_set, List.drop_set, if_pos (by omega)]
    have e1 : (List.take (o + 1) C.toList).set o v = List.take o C.toList ++ [v] := by
      rw [List.take_add_one, List.getElem?_eq_getElem (by simpa using (show o < C.size by omega))]
      rw [List.set_append_right _ _ (by simp; omega)]
      simp only [List.length_take, Array.length_toList, Option.toList_some]
      rw [Nat.min_eq_left (by omega), Nat.sub_self]
      rfl
    rw [e1, show o + 1 + r.length = o + (r.length + 1) by omega]
    simp

theorem setCells_tchD (b : Nat) : ∀ (vs : List Value) (o : Nat) (w : World), Tch (fun k => k = b) w (w.setCells b o vs)
  | [], _, w => Tch.refl _ w
  | v :: r, o, w => by
    have h1 : Tch (fun k => k = b) w (w.setCell ⟨b, o, none⟩ v) := Tch.setCell (Tch.refl (fun k => k = b) w) (p := ⟨b, o, none⟩) (fun _ => rfl) v
    have h2 := setCells_tchD b r (o + 1) (w.setCell ⟨b, o, none⟩ v)
    exact h1.trans h2 (fun _ _ e => e)

/-- The bytes as cells. -/
def bcs (xs : List Int) : List Value := xs.map (Value.int .u8)
theorem bcs_len (xs : List Int) : (bcs xs).length = xs.length := by simp [bcs]
theorem bcs_one (xs : List Int) : ∀ v ∈ bcs xs, v.oneCell' = true := fun v hv => by
  obtain ⟨x, _, rfl⟩ := List.mem_map.1 hv
  rfl
theorem bcs_all (xs : List Int) : (bcs xs).toArray.all (·.oneCell') = true := all_oneCell_toArray (bcs_one xs)
theorem bcs_app (xs ys : List Int) : bcs (xs ++ ys) = bcs xs ++ bcs ys := by simp [bcs]

/-- 256 noughts. -/
def zz : List Int := List.replicate 256 0
theorem zz_len : zz.length = 256 := by simp only [zz, List.length_replicate]
theorem zz_by : By zz := fun i => by
  unfold zz
  rw [List.getD_eq_getElem?_getD, List.getElem?_replicate]
  split <;> exact ⟨by decide, by decide⟩
theorem zz_get {i : Nat} (h : i < 256) : zz[i]? = some 0 := by
  unfold zz
  rw [List.getElem?_replicate, if_pos h]

theorem By.set {x : List Int} (h : By x) (j : Nat) {y : Int} (h0 : 0 ≤ y) (h1 : y ≤ 255) : By (x.set j y) := fun i => by
  rw [List.getD_eq_getElem?_getD, List.getElem?_set]
  split
  · split
    · exact ⟨h0, h1⟩
    · simp
  · rw [← List.getD_eq_getElem?_getD]; exact h i

section
variable {P : Program}
/-- A whole array into the block that was made last. -/
theorem wpList_store_newD (w : World) {ops : Array Oper} {rest : List Oper} {op : Oper} {a : Act} {Q : Exit → Act → World → Prop} (hgd : op.guard = none) (ty : TypeId) (x y : Operand) (ho : op.op = .store ty x y)
    (c c' : Array Value) (hx : a.eval x = .pointer (some ⟨w.heap.size, 0, none⟩)) (hy : a.eval y = .agg c') (hi : (P.info? ty).map (·.size) = some c'.size) (hs : c.size = c'.size) (h1 : c'.all (·.oneCell') = true)
    (h : wpList P ops Q rest (a.put op.dst undef) (w.alloc (.cells c' ty))) : wpList P ops Q (op :: rest) a (w.alloc (.cells c ty)) := by
  refine wpList_plain hgd fun K hK => ?_
  have hrun := run_storeAt_new (P := P) w ty c c' hi hs h1
  unfold Oper.wp execOp
  simp only [ho, hx, hy, Sem.run_bind, Sem.run_pure, Result.andThen_ok, hrun]
  exact hK _ _ h
end

/-- Bytes at the head of a block, which may be written. -/
def Wb (w : World) (v : Value) (xs : List Int) : Prop := ∃ b cap t C, v = .slice (some ⟨b, 0, none⟩) xs.length cap ∧ xs.length ≤ cap ∧ cap ≤ maxLen ∧ w.heap[b]? = some (.cells C t (0, 0)) ∧ C.toList.take xs.length = bcs xs

section
variable {w w' : World} {v : Value} {xs : List Int}
theorem Wb.rd (h : Wb w v xs) : Rd .u8 w v xs := by
  obtain ⟨b, cap, t, C, rfl, h1, h2, h3, h4⟩ := h
  refine ⟨_, cap, rfl, h1, h2, (fun e => by cases e), .inr ⟨b, 0, rfl, fun i hi => ?_⟩⟩
  rw [Nat.zero_add, cell_of_row w b i C t (0, 0) h3]
  have e : (C.toList.take xs.length)[i]? = C.toList[i]? := by rw [List.getElem?_take, if_pos hi]
  rw [← Array.getElem?_toList, ← e, h4, bcs, List.getElem?_map, List.getD_eq_getElem?_getD, List.getElem?_eq_getElem hi]
  rfl
theorem Wb.tch {S : Nat → Prop} (h : Wb w v xs) (ht : Tch S w w') (hn : ∀ j, v.ownBlock = some j → ¬ S j) : Wb w' v xs := by
  obtain ⟨b, cap, t, C, rfl, h1, h2, h3, h4⟩ := h
  exact ⟨b, cap, t, C, rfl, h1, h2, by rw [ht.block b (Array.getElem?_eq_some_iff.1 h3).1 (hn b rfl)]; exact h3, h4⟩
theorem Wb.below (h : Wb w v xs) (hb : Below w.heap.size w w') : Wb w' v xs := h.tch (S := fun _ => False) (Tch.of_below hb) (fun _ _ e => e)
theorem Wb.fz {b k cap : Nat} (h : Wb w (.slice (some ⟨b, 0, none⟩) k cap) xs) (i : Nat) : w.frozen? ⟨b, i, none⟩ = false := by
  obtain ⟨b', cap', t, C, e, h1, h2, h3, h4⟩ := h
  simp only [Value.slice.injEq, Option.some.injEq, Addr.mk.injEq, and_true] at e
  obtain ⟨rfl, _, _⟩ := e
  exact frozen_of_row w b i C t h3
theorem Wb.lt (h : Wb w v xs) : ∀ j, v.ownBlock = some j → j < w.heap.size := fun j hj => by
  obtain ⟨b, cap, t, C, rfl, h1, h2, h3, h4⟩ := h
  cases hj
  exact (Array.getElem?_eq_some_iff.1 h3).1
theorem wb_new (w : World) (xs : List Int) (t : TypeId) (h : xs.length ≤ maxLen) : Wb (w.alloc (.cells (bcs xs).toArray t)) (.slice (some ⟨w.heap.size, 0, none⟩) xs.length xs.length) xs :=
  ⟨w.heap.size, xs.length, t, (bcs xs).toArray, rfl, Nat.le_refl _, h, heap_alloc_new w _, by rw [List.toList_toArray, List.take_of_length_le (by rw [bcs_len]; exact Nat.le_refl _)]⟩
theorem Wb.set {b k cap : Nat} (h : Wb w (.slice (some ⟨b, 0, none⟩) k cap) xs) (i : Nat) (y : Int) : Wb (w.setCell ⟨b, i, none⟩ (.int .u8 y)) (.slice (some ⟨b, 0, none⟩) k cap) (xs.set i y) := by
  obtain ⟨b', cap', t, C, e, h1, h2, h3, h4⟩ := h
  simp only [Value.slice.injEq, Option.some.injEq, Addr.mk.injEq, and_true] at e
  obtain ⟨rfl, rfl, rfl⟩ := e
  refine ⟨b, cap, t, _, by rw [List.length_set], by rw [List.length_set]; exact h1, h2, heap_setCell_same w b i C t _ h3, ?_⟩
  rw [List.length_set, Array.toList_setIfInBounds, List.take_set, h4, bcs, bcs, List.map_set]
end

end Go.Proofs.Ytdicgaepggffbaa
/-
  Versions and superblocks in memory.
-/
namespace Go.Proofs.Ytdicgaepggffbaa
open Go.RowKit Pl
set_option linter.unusedVariables false
set_option linter.unusedSimpArgs false

/-- The four cells of a version. -/
structure VCell (w : World) (b o : Nat) (x : Vn) : Prop where
  c0 : w.cell? ⟨b, o, none⟩ = some (.int .i64 x.id)
  c1 : w.cell? ⟨b, o + 1, none⟩ = some (.int .i64 x.root)
  c2 : w.cell? ⟨b, o + 2, none⟩ = some (.int .i64 x.nx)
  c3 : w.cell? ⟨b, o + 3, none⟩ = some (.bool x.fx)
/-- The slice v reads as these versions. -/
def RdV (w : World) (v : Value) (xs : List Vn) : Prop :=
  ∃ a cap, v = .slice a xs.length cap ∧ xs.length ≤ cap ∧ cap ≤ maxLen ∧ (xs = [] ∨ ∃ b o, a = some ⟨b, o, none⟩ ∧ ∀ i x, xs[i]? = some x → VCell w b (o + i * 4) x)

theorem VCell.tch {S : Nat → Prop} {w w' : World} {b o : Nat} {x : Vn} (h : VCell w b o x) (ht : Tch S w w') (hn : ¬ S b) : VCell w' b o x := by
  have hl := World.block_lt_of_cell? w ⟨b, o, none⟩ h.c0
  exact {
    c0 := by rw [ht.cell (p := ⟨b, o, none⟩) hl hn]; exact h.c0
    c1 := by rw [ht.cell (p := ⟨b, o + 1, none⟩) hl hn]; exact h.c1
    c2 := by rw [ht.cell (p := ⟨b, o + 2, none⟩) hl hn]; exact h.c2
    c3 := by rw [ht.cell (p := ⟨b, o + 3, none⟩) hl hn]; exact h.c3 }
theorem RdV.tch {S : Nat → Prop} {w w' : World} {v : Value} {xs : List Vn} (h : RdV w v xs) (ht : Tch S w w') (hn : ∀ b, v.ownBlock = some b → ¬ S b) : RdV w' v xs := by
  obtain ⟨a, cap, rfl, hl, hm, h⟩ := h
  refine ⟨a, cap, rfl, hl, hm, ?_⟩
  rcases h with h | ⟨b, o, rfl, hc⟩
  · exact .inl h
  · exact .inr ⟨b, o, rfl, fun i x hx => (hc i x hx).tch ht (hn b rfl)⟩
theorem RdV.below {w w' : World} {v : Value} {xs : List Vn} (h : RdV w v xs) (hb : Below w.heap.size w w') : RdV w' v xs := h.tch (S := fun _ => False) (Tch.of_below hb) (fun _ _ e => e)
theorem rdV_nil (w : World) : RdV w (.slice none 0 0) [] := ⟨none, 0, rfl, Nat.le_refl _, by unfold maxLen; omega, .inl rfl⟩
theorem RdV.at_ {w wr : World} {a : Option Addr} {n cap : Nat} {xs : List Vn} (h : RdV w (.slice a n cap) xs) (hb : Below w.heap.size w wr) {k : Nat} {x : Vn} (hk : xs[k]? = some x) : ∃ b o, a = some ⟨b, o, none⟩ ∧ VCell wr b (o + k * 4) x := by
  obtain ⟨a', cap', e, _, _, hc⟩ := h
  simp only [Value.slice.injEq] at e
  obtain ⟨rfl, _, _⟩ := e
  rcases hc with e | ⟨b, o, rfl, hc⟩
  · rw [e] at hk; simp at hk
  · exact ⟨b, o, rfl, (hc k _ hk).tch (S := fun _ => False) (Tch.of_below hb) (fun e => e)⟩

def vcells (ps : List Vn) : List Value := ps.flatMap fun p => [Value.int .i64 p.id, .int .i64 p.root, .int .i64 p.nx, .bool p.fx]
theorem vcells_length (ps : List Vn) : (vcells ps).length = ps.length * 4 := by
  induction ps with
  | nil => rfl
  | cons p ps ih => simp only [vcells, List.flatMap_cons, List.length_append, List.length_cons, List.length_nil] at *; omega
theorem vcells_append (ps qs : List Vn) : vcells (ps ++ qs) = vcells ps ++ vcells qs := by simp [vcells]
theorem vcells_get : ∀ (ps : List Vn) (i : Nat) (x : Vn), ps[i]? = some x → (vcells ps)[i * 4]? = some (.int .i64 x.id) ∧ (vcells ps)[i * 4 + 1]? = some (.int .i64 x.root) ∧ (vcells ps)[i * 4 + 2]? = some (.int .i64 x.nx) ∧ (vcells ps)[i * 4 + 3]? = some (.bool x.fx)
  | [], i, x, h => by simp at h
  | p :: ps, 0, x, h => by
    simp at h
    subst h
    have e : vcells (p :: ps) = [Value.int .i64 p.id, .int .i64 p.root, .int .i64 p.nx, .bool p.fx] ++ vcells ps := by simp [vcells]
    rw [e]
    exact ⟨rfl, rfl, rfl, rfl⟩
  | p :: ps, i + 1, x, h => by
    have e : vcells (p :: ps) = [Value.int .i64 p.id, .int .i64 p.root, .int .i64 p.nx, .bool p.fx] ++ vcells ps := by simp [vcells]
    have := vcells_get ps i x (by simpa using h)
    rw [e, show (i + 1) * 4 = i * 4 + 4 by omega]
    exact ⟨by simpa using this.1, by simpa using this.2.1, by simpa using this.2.2.1, by simpa using this.2.2.2⟩
/-- The slice v is a row of its own and holds these versions. -/
def OwnsV (w : World) (v : Value) (ps : List Vn) : Prop := w.ownsRow 0 66 4 v ps.length (vcells ps)
theorem ownsV_nil (w : World) : OwnsV w (.slice none 0 0) [] := World.ownsRow_nil _ _ _ _
theorem OwnsV.rd {w : World} {v : Value} {ps : List Vn} (h : OwnsV w v ps) : RdV w v ps := by
  have h' : w.ownsRow 0 66 4 v ps.length (vcells ps) := h
  rcases h'.2 with ⟨rfl, h0⟩ | ⟨g, cap, cur, rfl, _, hg, hnc, hcm, _⟩
  · have hx : ps = [] := List.eq_nil_of_length_eq_zero h0
    subst hx
    exact rdV_nil w
  · refine ⟨some ⟨g, 0, none⟩, cap, rfl, hnc, hcm, .inr ⟨g, 0, rfl, fun i x hi => ?_⟩⟩
    have hil := (List.getElem?_eq_some_iff.1 hi).1
    have := vcells_get ps i x hi
    exact ⟨by rw [Nat.zero_add, h'.cellAt (i * 4) (by omega)]; exact this.1, by rw [Nat.zero_add, h'.cellAt (i * 4 + 1) (by omega)]; exact this.2.1, by rw [Nat.zero_add, h'.cellAt (i * 4 + 2) (by omega)]; exact this.2.2.1, by rw [Nat.zero_add, h'.cellAt (i * 4 + 3) (by omega)]; exact this.2.2.2⟩
theorem OwnsV.tch {S : Nat → Prop} {w w' : World} {v : Value} {ps : List Vn} (h : OwnsV w v ps) (ht : Tch S w w') (hn : ∀ j, v.ownBlock = some j → ¬ S j) : OwnsV w' v ps := ht.owns h hn
theorem OwnsV.below {w w' : World} {v : Value} {ps : List Vn} (h : OwnsV w v ps) (hb : Below w.heap.size w w') : OwnsV w' v ps := h.tch (S := fun _ => False) (Tch.of_below hb) (fun _ _ e => e)
theorem OwnsV.lt {w : World} {v : Value} {ps : List Vn} (h : OwnsV w v ps) : ∀ j, v.ownBlock = some j → j < w.heap.size := fun j hj => (World.ownsRow.lt h j hj).2
theorem infoV : (Try.prog.info? 66).map (fun i => (i.zero, i.size, i.bytes)) = some (some (.agg #[.int .i64 0, .int .i64 0, .int .i64 0, .bool false]), 4, 32) := by kernel_rfl

theorem vcells_put : ∀ (ps : List Vn) (i : Nat), i < ps.length → ∀ x : Vn, (vcells ps).take (i * 4) ++ [.int .i64 x.id, .int .i64 x.root, .int .i64 x.nx, .bool x.fx] ++ (vcells ps).drop (i * 4 + 4) = vcells (ps.set i x)
  | [], i, h, _ => by simp at h
  | p :: ps, 0, _, x => by
    have e : ∀ q : Vn, vcells (q :: ps) = [Value.int .i64 q.id, .int .i64 q.root, .int .i64 q.nx, .bool q.fx] ++ vcells ps := fun q => by simp [vcells]
    rw [List.set_cons_zero, e, e]
    rfl
  | p :: ps, i + 1, h, x => by
    have e : ∀ qs : List Vn, vcells (p :: qs) = [Value.int .i64 p.id, .int .i64 p.root, .int .i64 p.nx, .bool p.fx] ++ vcells qs := fun q => by simp [vcells]
    have ih := vcells_put ps i (by simpa using h) x
    rw [List.set_cons_succ, e, e, ← ih, show (i + 1) * 4 = 4 + i * 4 by omega]
    simp only [List.take_append, List.drop_append, List.length_cons, List.length_nil, List.append_assoc]
    rw [List.take_of_length_le (by simp), List.drop_of_length_le (by simp), show 4 + i * 4 - (0 + 1 + 1 + 1 + 1) = i * 4 by omega, show 4 + i * 4 + 4 - (0 + 1 + 1 + 1 + 1) = i * 4 + 4 by omega, List.nil_append]
/-- One version is laid into a row. -/
theorem OwnsV.put {w : World} {g n cap : Nat} {ps : List Vn} (h : OwnsV w (.slice (some ⟨g, 0, none⟩) n cap) ps) {i : Nat} (hi : i < ps.length) (x : Vn) :
    OwnsV (w.setCells g (i * 4) [.int .i64 x.id, .int .i64 x.root, .int .i64 x.nx, .bool x.fx]) (.slice (some ⟨g, 0, none⟩) n cap) (ps.set i x) := by
  have h' : w.ownsRow 0 66 4 (.slice (some ⟨g, 0, none⟩) n cap) ps.length (vcells ps) := h
  rcases h'.2 with ⟨e, _⟩ | ⟨g', c, cur, e, _, hg, h1, h2, h3, h4⟩
  · cases e
  · simp only [Value.slice.injEq, Option.some.injEq, Addr.mk.injEq, and_true] at e
    obtain ⟨rfl, rfl, rfl⟩ := e
    have hs := heap_setCells_same [.int .i64 x.id, .int .i64 x.root, .int .i64 x.nx, .bool x.fx] (i * 4) w cur hg (by simp; omega)
    refine ⟨by rw [vcells_length], .inr ⟨g, cap, _, by rw [List.length_set], Nat.zero_le _, hs, by rw [List.length_set]; exact h1, h2, ?_, ?_⟩⟩
    · simp only [List.size_toArray, List.length_append, List.length_take, List.length_drop, List.length_cons, List.length_nil, Array.length_toList]
      omega
    · rw [List.length_set, ← vcells_put ps i hi x, ← h4]
      have hc : cur.toList.length = cap * 4 := by rw [Array.length_toList]; exact h3
      rw [List.take_take, Nat.min_eq_left (by omega), List.drop_take]
      simp only [List.toList_toArray, List.length_cons, List.length_nil]
      rw [List.take_append, List.take_append, List.take_of_length_le (l := List.take (i * 4) cur.toList) (by simp; omega)]
      simp only [List.length_append, List.length_take, hc, List.length_cons, List.length_nil]
      rw [Nat.min_eq_left (by omega), List.take_of_length_le (l := [_, _, _, _]) (by simp; omega)]

/-- A superblock as a value. -/
def supv (s : Sp) (v : Value) : Value := .agg #[.int .i64 s.gen, .int .i64 s.sc, .int .i64 s.nx, v]
theorem inf_sup : (Try.prog.info? 24).map (·.size) = some 4 := by kernel_rfl
/-- A variable that is a superblock. -/
def Uv (w : World) (b : Nat) (s : Sp) (v : Value) : Prop := w.heap[b]? = some (.cells #[.int .i64 s.gen, .int .i64 s.sc, .int .i64 s.nx, v] 24 (0, 0))
section
variable {w w' : World} {b : Nat} {s : Sp} {v : Value}
theorem Uv.range (h : Uv w b s v) : w.rangeAt b 0 [.int .i64 s.gen, .int .i64 s.sc, .int .i64 s.nx, v] := fun j u hu => by
  rw [Nat.zero_add, cell_of_row w b j _ _ (0, 0) h, List.getElem?_toArray]
  exact hu
theorem Uv.load (h : Uv w b s v) : (loadVar 24 ⟨b, 0, none⟩).run Try.prog w = .ok (supv s v) w :=
  run_loadVar_mid (P := Try.prog) w b 0 24 [.int .i64 s.gen, .int .i64 s.sc, .int .i64 s.nx, v] _ h.range Try.underlying24 rfl inf_sup
theorem Uv.c0 (h : Uv w b s v) : w.cell? ⟨b, 0, none⟩ = some (.int .i64 s.gen) := by rw [cell_of_row w b 0 _ _ (0, 0) h]; rfl
theorem Uv.c1 (h : Uv w b s v) : w.cell? ⟨b, 1, none⟩ = some (.int .i64 s.sc) := by rw [cell_of_row w b 1 _ _ (0, 0) h]; rfl
theorem Uv.c2 (h : Uv w b s v) : w.cell? ⟨b, 2, none⟩ = some (.int .i64 s.nx) := by rw [cell_of_row w b 2 _ _ (0, 0) h]; rfl
theorem Uv.c3 (h : Uv w b s v) : w.cell? ⟨b, 3, none⟩ = some v := by rw [cell_of_row w b 3 _ _ (0, 0) h]; rfl
theorem Uv.fz (h : Uv w b s v) (i : Nat) : w.frozen? ⟨b, i, none⟩ = false := frozen_of_row w b i _ _ h
theorem Uv.lt (h : Uv w b s v) : b < w.heap.size := (Array.getElem?_eq_some_iff.1 h).1
theorem Uv.tch {S : Nat → Prop} (h : Uv w b s v) (ht : Tch S w w') (hb : ¬ S b) : Uv w' b s v := by unfold Uv; rw [ht.block b h.lt hb]; exact h
theorem Uv.below (h : Uv w b s v) (hb : Below w.heap.size w w') : Uv w' b s v := h.tch (S := fun _ => False) (Tch.of_below hb) (fun e => e)
theorem Uv.put (h : Uv w b s v) (t : Sp) (u : Value) : Uv ((((w.setCell ⟨b, 0, none⟩ (.int .i64 t.gen)).setCell ⟨b, 1, none⟩ (.int .i64 t.sc)).setCell ⟨b, 2, none⟩ (.int .i64 t.nx)).setCell ⟨b, 3, none⟩ u) b t u := by
  have h1 := heap_setCell_same w b 0 _ _ (.int .i64 t.gen) h
  have h2 := heap_setCell_same _ b 1 _ _ (.int .i64 t.sc) h1
  have h3 := heap_setCell_same _ b 2 _ _ (.int .i64 t.nx) h2
  exact heap_setCell_same _ b 3 _ _ u h3
theorem uv_new (w : World) (s : Sp) (v : Value) : Uv (w.alloc (.cells #[.int .i64 s.gen, .int .i64 s.sc, .int .i64 s.nx, v] 24)) w.heap.size s v := heap_alloc_new w _
end
end Go.Proofs.Ytdicgaepggffbaa
/-
  Rows of sectors: blocks of 256 bytes each, side by side.
-/
namespace Go.Proofs.Ytdicgaepggffbaa
open Go.RowKit
set_option linter.unusedVariables false

/-- Each has 256 bytes. -/
def SOk (rows : List (List Int)) : Prop := ∀ x ∈ rows, x.length = 256 ∧ By x

theorem SOk.nil : SOk [] := fun x h => by cases h
theorem SOk.cons {a : List Int} {r : List (List Int)} (h : SOk (a :: r)) : SOk r := fun x hx => h x (List.mem_cons_of_mem _ hx)
theorem SOk.app {a b : List (List Int)} (h : SOk a) (k : SOk b) : SOk (a ++ b) := fun x hx => by
  rcases List.mem_append.1 hx with e | e
  · exact h x e
  · exact k x e
theorem SOk.one {x : List Int} (h : x.length = 256) (hb : By x) : SOk [x] := fun y hy => by simp at hy; subst hy; exact ⟨h, hb⟩
theorem SOk.set {a : List (List Int)} (h : SOk a) (i : Nat) {x : List Int} (hx : x.length = 256) (hb : By x) : SOk (a.set i x) := fun y hy => by
  rcases List.mem_or_eq_of_mem_set hy with e | e
  · exact h y e
  · subst e; exact ⟨hx, hb⟩
theorem SOk.get {a : List (List Int)} (h : SOk a) {i : Nat} (hi : i < a.length) : (a.getD i []).length = 256 ∧ By (a.getD i []) := by
  rw [List.getD_eq_getElem?_getD, List.getElem?_eq_getElem hi]
  exact h _ (List.getElem_mem hi)
theorem SOk.last {a : List (List Int)} (h : SOk a) (h0 : a ≠ []) (d : List Int) : (a.getLastD d).length = 256 ∧ By (a.getLastD d) := by
  rw [List.getLastD_eq_getLast?, List.getLast?_eq_some_getLast h0]
  exact h _ (List.getLast_mem h0)
theorem SOk.map {a : List (List Int)} (h : SOk a) (f : List Int → List Int) (hf : ∀ x, x.length = 256 → By x → (f x).length = 256 ∧ By (f x)) : SOk (a.map f) := fun y hy => by
  obtain ⟨x, hx, rfl⟩ := List.mem_map.1 hy
  exact hf x (h x hx).1 (h x hx).2

theorem flat_len : ∀ {rows : List (List Int)}, SOk rows → rows.flatten.length = rows.length * 256
  | [], _ => rfl
  | a :: r, h => by
    have := flat_len h.cons
    have := (h a (List.mem_cons_self)).1
    simp only [List.flatten_cons, List.length_append, List.length_cons]
    omega

theorem flat_get : ∀ {rows : List (List Int)}, SOk rows → ∀ {i : Nat}, i < rows.length → ∀ {j : Nat}, j < 256 → rows.flatten[i * 256 + j]? = (rows.getD i [])[j]?
  | [], _, i, hi, _, _ => by simp at hi
  | a :: r, h, 0, _, j, hj => by
    have := (h a (List.mem_cons_self)).1
    simp only [List.flatten_cons, Nat.zero_mul, Nat.zero_add, List.getD_cons_zero]
    rw [List.getElem?_append_left (by omega)]
  | a :: r, h, i + 1, hi, j, hj => by
    have ha := (h a (List.mem_cons_self)).1
    simp only [List.flatten_cons, List.getD_cons_succ]
    rw [List.getElem?_append_right (by omega), ← flat_get h.cons (i := i) (by simpa using hi) hj]
    congr 1
    omega

theorem flat_put : ∀ {rows : List (List Int)}, SOk rows → ∀ {i : Nat}, i < rows.length → ∀ (x : List Int), rows.flatten.take (i * 256) ++ x ++ rows.flatten.drop (i * 256 + 256) = (rows.set i x).flatten
  | [], _, i, hi, _ => by simp at hi
  | a :: r, h, 0, _, x => by
    have ha := (h a (List.mem_cons_self)).1
    simp only [List.flatten_cons, Nat.zero_mul, Nat.zero_add, List.set_cons_zero, List.take_zero, List.nil_append]
    rw [← ha, List.drop_left]
  | a :: r, h, i + 1, hi, x => by
    have ha := (h a (List.mem_cons_self)).1
    have ih := flat_put h.cons (i := i) (by simpa using hi) x
    simp only [List.flatten_cons, List.set_cons_succ]
    rw [← ih, List.take_append, List.drop_append, List.take_of_length_le (by omega), List.drop_eq_nil_of_le (by omega)]
    rw [show (i + 1) * 256 - a.length = i * 256 by omega, show (i + 1) * 256 + 256 - a.length = i * 256 + 256 by omega]
    simp

/-- The slice v has these sectors for its own. -/
def SecR (w : World) (v : Value) (rows : List (List Int)) : Prop := SOk rows ∧ w.ownsRow 0 83 256 v rows.length (bcs rows.flatten)

section
variable {w w' : World} {v : Value} {rows : List (List Int)} {b k cap : Nat}

theorem SecR.nil (w : World) : SecR w (.slice none 0 0) [] := ⟨SOk.nil, World.ownsRow_nil _ _ _ _⟩
theorem SecR.tch {S : Nat → Prop} (h : SecR w v rows) (ht : Tch S w w') (hn : ∀ j, v.ownBlock = some j → ¬ S j) : SecR w' v rows := ⟨h.1, ht.owns h.2 hn⟩
theorem SecR.below (h : SecR w v rows) (hb : Below w.heap.size w w') : SecR w' v rows := h.tch (S := fun _ => False) (Tch.of_below hb) (fun _ _ e => e)
theorem SecR.lt (h : SecR w v rows) : ∀ j, v.ownBlock = some j → j < w.heap.size := fun j hj => (World.ownsRow.lt h.2 j hj).2
theorem SecR.shape (h : SecR w v rows) (h0 : rows ≠ []) : ∃ g cap cur, v = .slice (some ⟨g, 0, none⟩) rows.length cap ∧ w.heap[g]? = some (.cells cur 83 (0, 0)) ∧ rows.length ≤ cap ∧ cap ≤ maxLen ∧ cur.size = cap * 256 ∧ cur.toList.take (rows.length * 256) = bcs rows.flatten := by
  rcases h.2.2 with ⟨_, e⟩ | ⟨g, cap, cur, e, _, hg, h1, h2, h3, h4⟩
  · exact absurd (List.eq_nil_of_length_eq_zero e) h0
  · exact ⟨g, cap, cur, e, hg, h1, h2, h3, h4⟩
theorem SecR.blk (h : SecR w (.slice (some ⟨b, 0, none⟩) k cap) rows) : ∃ cur, k = rows.length ∧ w.heap[b]? = some (.cells cur 83 (0, 0)) ∧ rows.length ≤ cap ∧ cap ≤ maxLen ∧ cur.size = cap * 256 ∧ cur.toList.take (rows.length * 256) = bcs rows.flatten := by
  rcases h.2.2 with ⟨e, _⟩ | ⟨g, c, cur, e, _, hg, h1, h2, h3, h4⟩
  · cases e
  · simp only [Value.slice.injEq, Option.some.injEq, Addr.mk.injEq, and_true] at e
    obtain ⟨rfl, rfl, rfl⟩ := e
    exact ⟨cur, rfl, hg, h1, h2, h3, h4⟩

theorem SecR.load (h : SecR w (.slice (some ⟨b, 0, none⟩) k cap) rows) {i : Nat} (hi : i < rows.length) : w.rangeAt b (i * 256) (bcs (rows.getD i [])) := fun j u hu => by
  obtain ⟨cur, rfl, hg, h1, h2, h3, h4⟩ := h.blk
  have hl := (h.1.get hi).1
  have hj : j < 256 := by have := (List.getElem?_eq_some_iff.1 hu).1; rw [bcs_len, hl] at this; exact this
  rw [cell_of_row w b (i * 256 + j) cur _ (0, 0) hg]
  have e : (cur.toList.take (rows.length * 256))[i * 256 + j]? = cur.toList[i * 256 + j]? := by rw [List.getElem?_take, if_pos (by omega)]
  rw [← Array.getElem?_toList, ← e, h4, bcs, List.getElem?_map, flat_get h.1 hi hj, ← List.getElem?_map]
  exact hu

theorem SecR.there (h : SecR w (.slice (some ⟨b, 0, none⟩) k cap) rows) {i : Nat} (hi : i < rows.length) : w.there b (i * 256) 256 := fun j hj => by
  obtain ⟨cur, rfl, hg, h1, h2, h3, h4⟩ := h.blk
  refine ⟨?_, frozen_of_row w b _ _ _ hg⟩
  rw [cell_of_row w b (i * 256 + j) cur _ (0, 0) hg, Array.getElem?_eq_getElem (by omega)]
  rfl

theorem SecR.put (h : SecR w (.slice (some ⟨b, 0, none⟩) k cap) rows) {i : Nat} (hi : i < rows.length) {x : List Int} (hx : x.length = 256) (hb : By x) :
    SecR (w.setCells b (i * 256) (bcs x)) (.slice (some ⟨b, 0, none⟩) k cap) (rows.set i x) := by
  obtain ⟨cur, rfl, hg, h1, h2, h3, h4⟩ := h.blk
  have hs := heap_setCells_same (bcs x) (i * 256) w cur hg (by rw [bcs_len, hx]; omega)
  refine ⟨h.1.set i hx hb, ?_, .inr ⟨b, cap, _, by rw [List.length_set], Nat.zero_le _, hs, by rw [List.length_set]; exact h1, h2, ?_, ?_⟩⟩
  · rw [bcs_len, flat_len (h.1.set i hx hb)]
  · simp only [List.size_toArray, List.length_append, List.length_take, List.length_drop, bcs_len, hx, Array.length_toList]
    omega
  · rw [List.length_set, ← flat_put h.1 hi x, bcs_app, bcs_app, bcs_len, hx]
    have f := flat_len h.1
    have e1 : bcs (List.take (i * 256) rows.flatten) = List.take (i * 256) cur.toList := by
      rw [bcs, List.map_take, ← bcs, ← h4, List.take_take, Nat.min_eq_left (by omega)]
    have e2 : bcs (List.drop (i * 256 + 256) rows.flatten) = List.take (rows.length * 256 - (i * 256 + 256)) (List.drop (i * 256 + 256) cur.toList) := by
      rw [bcs, List.map_drop, ← bcs, ← h4, List.drop_take]
    rw [e1, e2]
    simp only [List.append_assoc]
    have hc : cur.toList.length = cap * 256 := by rw [Array.length_toList]; exact h3
    rw [List.take_append, List.take_append, List.take_of_length_le (by simp; omega), List.take_of_length_le (l := bcs x) (by rw [bcs_len, hx, List.length_take, hc]; omega)]
    rw [bcs_len, hx, List.length_take, hc, Nat.min_eq_left (by omega)]
    rw [show rows.length * 256 - i * 256 - 256 = rows.length * 256 - (i * 256 + 256) by omega]

theorem flat_put1 : ∀ {rows : List (List Int)}, SOk rows → ∀ {i : Nat}, i < rows.length → ∀ {j : Nat}, j < 256 → ∀ (y : Int), rows.flatten.set (i * 256 + j) y = (rows.set i ((rows.getD i []).set j y)).flatten
  | [], _, i, hi, _, _, _ => by simp at hi
  | a :: r, h, 0, _, j, hj, y => by
    have ha := (h a (List.mem_cons_self)).1
    simp only [List.flatten_cons, Nat.zero_mul, Nat.zero_add, List.set_cons_zero, List.getD_cons_zero]
    rw [List.set_append_left _ _ (by omega)]
  | a :: r, h, i + 1, hi, j, hj, y => by
    have ha := (h a (List.mem_cons_self)).1
    have ih := flat_put1 h.cons (i := i) (by simpa using hi) hj y
    simp only [List.flatten_cons, List.set_cons_succ, List.getD_cons_succ]
    rw [← ih, List.set_append_right _ _ (by omega)]
    congr 2
    omega

theorem SecR.put1 (h : SecR w (.slice (some ⟨b, 0, none⟩) k cap) rows) {i j : Nat} (hi : i < rows.length) (hj : j < 256) {y : Int} (h0 : 0 ≤ y) (h255 : y ≤ 255) :
    SecR (w.setCell ⟨b, i * 256 + j, none⟩ (.int .u8 y)) (.slice (some ⟨b, 0, none⟩) k cap) (rows.set i ((rows.getD i []).set j y)) := by
  obtain ⟨cur, rfl, hg, h1, h2, h3, h4⟩ := h.blk
  have hs := heap_setCell_same w b (i * 256 + j) cur _ (.int .u8 y) hg
  have hr := h.1.get hi
  have hok : SOk (rows.set i ((rows.getD i []).set j y)) := h.1.set i (by rw [List.length_set]; exact hr.1) (hr.2.set j h0 h255)
  refine ⟨hok, ?_, .inr ⟨b, cap, _, by rw [List.length_set], Nat.zero_le _, hs, by rw [List.length_set]; exact h1, h2, by simp only [Array.size_setIfInBounds]; exact h3, ?_⟩⟩
  · rw [bcs_len, flat_len hok]
  · rw [List.length_set, ← flat_put1 h.1 hi hj y, bcs, List.map_set, ← bcs, ← h4, Array.toList_setIfInBounds, List.take_set]

theorem SecR.cell (h : SecR w (.slice (some ⟨b, 0, none⟩) k cap) rows) {i j : Nat} (hi : i < rows.length) (hj : j < 256) : w.cell? ⟨b, i * 256 + j, none⟩ = some (.int .u8 ((rows.getD i []).getD j 0)) ∧ w.frozen? ⟨b, i * 256 + j, none⟩ = false := by
  obtain ⟨cur, rfl, hg, _⟩ := h.blk
  refine ⟨?_, frozen_of_row w b _ _ _ hg⟩
  have hl := (h.1.get hi).1
  refine h.load hi j _ ?_
  generalize rows.getD i [] = R at hl ⊢
  rw [bcs, List.getElem?_map, List.getD_eq_getElem?_getD, List.getElem?_eq_getElem (by omega)]
  rfl
end

theorem info_sec : (Try.prog.info? 83).map (fun i => (i.zero, i.size, i.bytes)) = some (some (.agg (bcs zz).toArray), 256, 256) := by kernel_rfl

theorem info_sec2 : (Try.prog.info? 83).map (fun i => (i.zero, i.size)) = some (some (.agg (bcs zz).toArray), 256) := by kernel_rfl

end Go.Proofs.Ytdicgaepggffbaa
/-
  The program's sector of a superblock, as a value.
-/
namespace Go.Proofs.Ytdicgaepggffbaa
open Go.RowKit Pl
set_option linter.unusedVariables false
set_option linter.unusedSimpArgs false
set_option maxRecDepth 100000

theorem info_frmU : (Try.prog.info? 62).map (fun i => (i.zero, i.size)) = some (some (.agg (bcs zz).toArray), 256) := by kernel_rfl
theorem arr_lenU : Try.prog.arrayLen 62 = 256 := by kernel_rfl
theorem arr_elU : Try.prog.elem 62 = 5 := by kernel_rfl
theorem arr_undU : Try.prog.underlying 62 = some (.array (Try.prog.arrayLen 62) (Try.prog.elem 62)) := by rw [arr_lenU, arr_elU]; exact Try.underlying62

theorem slice_frmU (g : Nat) (w : World) : (Instr.sliceAt 62 (.pointer (some ⟨g, 0, none⟩)) none none none).run Try.prog w = .ok (.slice (some ⟨g, 0, none⟩) 256 256) w := by
  rw [run_sliceAt_array_all w 62 _ arr_undU, arr_lenU, arr_elU]
  simp [slicedAt, go_sem]
theorem slice_frm_hU (g : Nat) (w : World) : (Instr.sliceAt 62 (.pointer (some ⟨g, 0, none⟩)) none (some (.int .i64 252)) none).run Try.prog w = .ok (.slice (some ⟨g, 0, none⟩) 252 256) w := by
  have := run_sliceAt_array_h w 62 ⟨g, 0, none⟩ arr_undU .i64 252 (by omega) (by rw [arr_lenU]; omega)
  rw [arr_lenU, arr_elU] at this
  rw [this]
  simp [slicedAt, go_sem]

/-- A variable that is a sector: its bytes. -/
def Fu (w : World) (g : Nat) (xs : List Int) : Prop := w.heap[g]? = some (.cells (bcs xs).toArray 62 (0, 0)) ∧ xs.length = 256 ∧ By xs

section
variable {w w' : World} {g : Nat} {xs : List Int}
theorem Fu.lt (h : Fu w g xs) : g < w.heap.size := (Array.getElem?_eq_some_iff.1 h.1).1
theorem Fu.tch {S : Nat → Prop} (h : Fu w g xs) (ht : Tch S w w') (hg : ¬ S g) : Fu w' g xs := ⟨by rw [ht.block g h.lt hg]; exact h.1, h.2⟩
theorem Fu.below (h : Fu w g xs) (hb : Below w.heap.size w w') : Fu w' g xs := h.tch (S := fun _ => False) (Tch.of_below hb) (fun e => e)
theorem Fu.wb (h : Fu w g xs) : Wb w (.slice (some ⟨g, 0, none⟩) 256 256) xs :=
  ⟨g, 256, _, _, by rw [h.2.1], by rw [h.2.1]; exact Nat.le_refl _, by unfold maxLen; omega, h.1, by rw [h.2.1, List.toList_toArray, List.take_of_length_le (by rw [bcs_len, h.2.1]; exact Nat.le_refl _)]⟩
theorem Fu.rd (h : Fu w g xs) : Rd .u8 w (.slice (some ⟨g, 0, none⟩) 256 256) xs := h.wb.rd
theorem Fu.cell (h : Fu w g xs) {i : Nat} (hi : i < 256) : w.cell? ⟨g, i, none⟩ = some (.int .u8 (xs.getD i 0)) := by
  rw [cell_of_row w g i _ _ (0, 0) h.1, List.getElem?_toArray, bcs, List.getElem?_map, List.getD_eq_getElem?_getD, List.getElem?_eq_getElem (by rw [h.2.1]; exact hi)]
  rfl
theorem Fu.fz (h : Fu w g xs) (i : Nat) : w.frozen? ⟨g, i, none⟩ = false := frozen_of_row w g i _ _ h.1
theorem Fu.rdTo (h : Fu w g xs) (m : Nat) (hm : m ≤ 256) : Rd .u8 w (.slice (some ⟨g, 0, none⟩) m 256) (xs.take m) :=
  rd_take m (by rw [h.2.1]; exact hm) (by rw [h.2.1]; exact Nat.le_refl _) (by unfold maxLen; omega) (fun i hi => by rw [Nat.zero_add]; exact h.cell (by rw [← h.2.1]; exact hi))
theorem Fu.range (h : Fu w g xs) : w.rangeAt g 0 (bcs xs) := fun j u hu => by
  have hj : j < 256 := by have := (List.getElem?_eq_some_iff.1 hu).1; rw [bcs_len, h.2.1] at this; exact this
  rw [Nat.zero_add, cell_of_row w g j _ _ (0, 0) h.1, List.getElem?_toArray]
  exact hu
theorem Fu.there (h : Fu w g xs) : w.there g 0 256 := fun j hj => by
  rw [Nat.zero_add]
  exact ⟨by rw [h.cell hj]; rfl, h.fz j⟩
theorem Fu.set (h : Fu w g xs) (i : Nat) {y : Int} (h0 : 0 ≤ y) (h1 : y ≤ 255) : Fu (w.setCell ⟨g, i, none⟩ (.int .u8 y)) g (xs.set i y) := by
  refine ⟨?_, by rw [List.length_set]; exact h.2.1, h.2.2.set i h0 h1⟩
  have := heap_setCell_same w g i _ _ (.int .u8 y) h.1
  rw [this, bcs, bcs, List.map_set]
  simp
theorem fv_newU (w : World) (hl : xs.length = 256) (hb : By xs) : Fu (w.alloc (.cells (bcs xs).toArray 62)) w.heap.size xs := ⟨heap_alloc_new w _, hl, hb⟩
end

theorem results_cellU {fn : Func} {p : Tmp} {ty : TypeId} (h : fn.results = #[.cell p ty]) (tmps : Array Value) (P : Program) (w : World) :
    (results fn tmps).run P w = ((asAddr (tmps.getD p undef)).run P w).andThen fun a w₁ => (loadVar ty a).run P w₁ := by
  simp only [results, h]
  simp [Sem.run_bind, Result.andThen]
theorem results_atU {fn : Func} {p : Tmp} {ty : TypeId} (h : fn.results = #[.cell p ty]) (tmps : Array Value) (P : Program) (w : World) (b : Nat) (v : Value) (ha : tmps.getD p undef = .pointer (some ⟨b, 0, none⟩))
    (hl : (loadVar ty ⟨b, 0, none⟩).run P w = .ok v w) : (results fn tmps).run P w = .ok v w := by
  rw [results_cellU h, ha]
  simp [asAddr, Result.andThen, hl]
theorem inf_frmU : (Try.prog.info? 62).map (·.size) = some 256 := (zero_of_info info_frmU).2
theorem bcs_sizeU {xs : List Int} (h : xs.length = 256) : (bcs xs).toArray.size = 256 := by rw [List.size_toArray, bcs_len, h]
/-- A whole sector is laid into a variable, and told from there. -/
theorem Fu.put {w : World} {g : Nat} {xs ys : List Int} (h : Fu w g xs) (hl : ys.length = 256) (hb : By ys) : Fu (w.setCells g 0 (bcs ys)) g ys := by
  refine ⟨?_, hl, hb⟩
  have := heap_setCells_same (bcs ys) 0 w _ h.1 (by rw [bcs_len, bcs_sizeU h.2.1, hl]; exact Nat.le_refl _)
  rw [this, List.toList_toArray, List.take_zero, List.nil_append, List.drop_of_length_le (by rw [bcs_len, bcs_len, hl, h.2.1]; exact Nat.le_refl _), List.append_nil]
theorem Fu.load {w : World} {g : Nat} {xs : List Int} (h : Fu w g xs) : (loadVar 62 ⟨g, 0, none⟩).run Try.prog w = .ok (.agg (bcs xs).toArray) w :=
  run_loadVar_mid (P := Try.prog) w g 0 62 (bcs xs) _ h.range Try.underlying62 rfl (by rw [bcs_len, h.2.1]; exact inf_frmU)
end Go.Proofs.Ytdicgaepggffbaa
