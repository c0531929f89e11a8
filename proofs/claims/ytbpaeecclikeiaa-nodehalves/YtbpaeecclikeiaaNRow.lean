/-
  Rows of bytes that are new since some world, and what is appended to them: a byte, two, a text.
-/
import Derived.Test.YtbpaeecclikeiaaNVar
namespace Go.Proofs.Ytbpaeecclikeiaa
open Go.RowKit Pl
set_option linter.unusedVariables false

/-- The slice v is a row of its own, no older than B, and holds the bytes xs. -/
def OwB (B : Nat) (w : World) (v : Value) (xs : List Int) : Prop := w.ownsRow B 5 1 v xs.length (xs.map (Value.int .u8))
theorem owB_nil (B : Nat) (w : World) : OwB B w (.slice none 0 0) [] := World.ownsRow_nil _ _ _ _
theorem OwB.owns {B : Nat} {w : World} {v : Value} {xs : List Int} (h : OwB B w v xs) : Owns .u8 5 w v xs := by
  refine ⟨h.1, ?_⟩
  rcases h.2 with h0 | ⟨g, cap, cur, rfl, hb, rest⟩
  · exact .inl h0
  · exact .inr ⟨g, cap, cur, rfl, Nat.zero_le _, rest⟩
theorem OwB.rd {B : Nat} {w : World} {v : Value} {xs : List Int} (h : OwB B w v xs) : Rd .u8 w v xs := h.owns.rd
theorem OwB.ge {B : Nat} {w : World} {v : Value} {xs : List Int} (h : OwB B w v xs) : ∀ j, v.ownBlock = some j → B ≤ j := fun j hj => (World.ownsRow.lt h j hj).1
theorem OwB.tch {S : Nat → Prop} {B : Nat} {w w' : World} {v : Value} {xs : List Int} (h : OwB B w v xs) (ht : Tch S w w') (hn : ∀ j, v.ownBlock = some j → ¬ S j) : OwB B w' v xs := by
  refine ⟨h.1, ?_⟩
  rcases h.2 with h0 | ⟨g, cap, cur, rfl, hb, hg, rest⟩
  · exact .inl h0
  · refine .inr ⟨g, cap, cur, rfl, hb, ?_, rest⟩
    rw [ht.block g (Array.getElem?_eq_some_iff.1 hg).1 (hn g rfl)]
    exact hg
theorem OwB.below {B : Nat} {w w' : World} {v : Value} {xs : List Int} (h : OwB B w v xs) (hb : Below w.heap.size w w') : OwB B w' v xs := h.tch (S := fun _ => False) (Tch.of_below hb) (fun _ _ e => e)
theorem OwB.long {B : Nat} {w : World} {v : Value} {xs : List Int} (h : OwB B w v xs) : ∃ a cap, v = .slice a xs.length cap := by
  obtain ⟨a, cap, e, _⟩ := h.rd
  exact ⟨a, cap, e⟩
theorem OwB.ne {B : Nat} {w : World} {v : Value} {xs : List Int} (h : OwB B w v xs) {b : Nat} {C : Array Value} {T : TypeId} (hb : w.heap[b]? = some (.cells C T (0, 0))) (hT : 5 ≠ T) : v.ownBlock ≠ some b :=
  (OwnsV.ints h.owns).ne hb hT
theorem OwB.mono {B B' : Nat} {w : World} {v : Value} {xs : List Int} (h : OwB B w v xs) (hb : B' ≤ B) : OwB B' w v xs := by
  refine ⟨h.1, ?_⟩
  rcases h.2 with h0 | ⟨g, cap, cur, rfl, hg, rest⟩
  · exact .inl h0
  · exact .inr ⟨g, cap, cur, rfl, Nat.le_trans hb hg, rest⟩
/-- What an append leaves. -/
structure Gb (B : Nat) (w w' : World) (v : Value) : Prop where
  tch : Tch (fun k => v.ownBlock = some k) w w'
theorem Gb.below {B : Nat} {w w' : World} {v : Value} {xs : List Int} (h : Gb B w w' v) (ho : OwB B w v xs) (hB : B ≤ w.heap.size) : Below B w w' := h.tch.below hB (fun k e => ho.ge k e)

theorem inf_u8 : ∃ i, Try.prog.info? 5 = some i ∧ i.zero = some (.int .u8 0) ∧ i.size = 1 ∧ i.bytes = 1 := info_parts (z := .int .u8 0) (size := 1) (bytes := 1) (by kernel_rfl)

theorem run_moreB (B : Nat) (w : World) (ty : TypeId) (v : Value) (xs : List Int) (hown : OwB B w v xs) (g : Nat) (ys : List Int) (hg : ∀ j u, (ys.map (Value.int .u8))[j]? = some u → w.cell? ⟨g, j, none⟩ = some u) (hl : xs.length + ys.length ≤ 100000) (hB : B ≤ w.heap.size) :
    ∃ v' w', (Builtin.append_ #[32, 32] ty #[v, .slice (some ⟨g, 0, none⟩) ys.length ys.length]).run Try.prog w = .ok v' w' ∧ OwB B w' v' (xs ++ ys) ∧ Gb B w w' v := by
  obtain ⟨i, hi, hz, h1, hb⟩ := inf_u8
  obtain ⟨v', w', hr, ho, hgr, _⟩ := run_append_own (P := Try.prog) w B 32 ty 5 i (.int .u8 0) 1 1 Try.underlying32 hi hz h1 hb rfl (by decide) v xs.length (xs.map (Value.int .u8)) hown ⟨g, 0, none⟩ ys.length ys.length (ys.map (Value.int .u8)) (by simp)
    (fun j u hu => by rw [Addr.add_lit, Nat.zero_add]; exact hg j u hu) (fun u hu => by obtain ⟨x, _, rfl⟩ := List.mem_map.1 hu; rfl) (by unfold maxLen; omega) (by omega) hB
  refine ⟨v', w', hr, ?_, ⟨(Tch.refl _ w).grown hgr (fun _ _ e => e)⟩⟩
  unfold OwB
  rw [List.length_append, List.map_append]
  exact ho
theorem run_strB (B : Nat) (w : World) (ty : TypeId) (v : Value) (xs : List Int) (hown : OwB B w v xs) (s : ByteArray) (hl : xs.length + s.size ≤ 100000) (hB : B ≤ w.heap.size) :
    ∃ v' w', (Builtin.append_ #[32, 9] ty #[v, .string s]).run Try.prog w = .ok v' w' ∧ OwB B w' v' (xs ++ bts s) ∧ Gb B w w' v := by
  obtain ⟨i, hi, hz, h1, hb⟩ := inf_u8
  obtain ⟨v', w', hr, ho, hgr, _⟩ := Lib.run_append_own_string (P := Try.prog) w B 32 9 ty 5 i Try.underlying32 Try.underlying9 hi hz h1 hb v xs.length (xs.map (Value.int .u8)) hown s (by unfold maxLen; omega) (by omega) hB
  refine ⟨v', w', hr, ?_, ⟨(Tch.refl _ w).grown hgr (fun _ _ e => e)⟩⟩
  unfold OwB
  rw [List.length_append, List.map_append, bts_len, ← bts_cells]
  exact ho

section
variable {ops : Array Oper} {rest : List Oper} {o : Oper} {a : Act} {Q : Exit → Act → World → Prop}
theorem wpList_moreB (w : World) (hgd : o.guard = none) (s x : Operand) (ho : o.op = .call { callee := .builtin .append, args := #[s, x], argTypes := #[32, 32] })
    (B : Nat) (v : Value) (xs : List Int) (hs : a.eval s = v) (hown : OwB B w v xs) (g : Nat) (ys : List Int) (hx : a.eval x = .slice (some ⟨g, 0, none⟩) ys.length ys.length) (hg : ∀ j u, (ys.map (Value.int .u8))[j]? = some u → w.cell? ⟨g, j, none⟩ = some u)
    (hl : xs.length + ys.length ≤ 100000) (hB : B ≤ w.heap.size)
    (h : ∀ v' w', OwB B w' v' (xs ++ ys) → Gb B w w' v → wpList Try.prog ops Q rest (a.put o.dst v') w') : wpList Try.prog ops Q (o :: rest) a w := by
  obtain ⟨v', w', hr, h2, h3⟩ := run_moreB B w o.type v xs hown g ys hg hl hB
  refine wpList_plain hgd fun K hK => ?_
  unfold Oper.wp
  simp [execOp, ho, resolve, invoke, builtin, hs, hx, hr, Result.andThen]
  exact hK _ _ (h v' w' h2 h3)
theorem wpList_strB (w : World) (hgd : o.guard = none) (s x : Operand) (ho : o.op = .call { callee := .builtin .append, args := #[s, x], argTypes := #[32, 9] })
    (B : Nat) (v : Value) (xs : List Int) (hs : a.eval s = v) (hown : OwB B w v xs) (st : ByteArray) (hx : a.eval x = .string st)
    (hl : xs.length + st.size ≤ 100000) (hB : B ≤ w.heap.size)
    (h : ∀ v' w', OwB B w' v' (xs ++ bts st) → Gb B w w' v → wpList Try.prog ops Q rest (a.put o.dst v') w') : wpList Try.prog ops Q (o :: rest) a w := by
  obtain ⟨v', w', hr, h2, h3⟩ := run_strB B w o.type v xs hown st hl hB
  refine wpList_plain hgd fun K hK => ?_
  unfold Oper.wp
  simp [execOp, ho, resolve, invoke, builtin, hs, hx, hr, Result.andThen]
  exact hK _ _ (h v' w' h2 h3)
theorem step_moreB {w : World} {K : Act → World → Prop} {E : Prop} (hgd : o.guard = none) (s x : Operand) (ho : o.op = .call { callee := .builtin .append, args := #[s, x], argTypes := #[32, 32] })
    (B : Nat) (v : Value) (xs : List Int) (hs : a.eval s = v) (hown : OwB B w v xs) (g : Nat) (ys : List Int) (hx : a.eval x = .slice (some ⟨g, 0, none⟩) ys.length ys.length) (hg : ∀ j u, (ys.map (Value.int .u8))[j]? = some u → w.cell? ⟨g, j, none⟩ = some u)
    (hl : xs.length + ys.length ≤ 100000) (hB : B ≤ w.heap.size)
    (h : ∀ v' w', OwB B w' v' (xs ++ ys) → Gb B w w' v → K (a.put o.dst v') w') :
    if Region.wanted o (yielded ops a.tmps) = true then Oper.wp Try.prog o a w K Q else E := by
  have hw : Region.wanted o (yielded ops a.tmps) = true := by simp [Region.wanted, hgd]
  rw [if_pos hw]
  obtain ⟨v', w', hr, h2, h3⟩ := run_moreB B w o.type v xs hown g ys hg hl hB
  unfold Oper.wp
  simp [execOp, ho, resolve, invoke, builtin, hs, hx, hr, Result.andThen]
  exact h v' w' h2 h3
theorem step_strB {w : World} {K : Act → World → Prop} {E : Prop} (hgd : o.guard = none) (s x : Operand) (ho : o.op = .call { callee := .builtin .append, args := #[s, x], argTypes := #[32, 9] })
    (B : Nat) (v : Value) (xs : List Int) (hs : a.eval s = v) (hown : OwB B w v xs) (st : ByteArray) (hx : a.eval x = .string st)
    (hl : xs.length + st.size ≤ 100000) (hB : B ≤ w.heap.size)
    (h : ∀ v' w', OwB B w' v' (xs ++ bts st) → Gb B w w' v → K (a.put o.dst v') w') :
    if Region.wanted o (yielded ops a.tmps) = true then Oper.wp Try.prog o a w K Q else E := by
  have hw : Region.wanted o (yielded ops a.tmps) = true := by simp [Region.wanted, hgd]
  rw [if_pos hw]
  obtain ⟨v', w', hr, h2, h3⟩ := run_strB B w o.type v xs hown st hl hB
  unfold Oper.wp
  simp [execOp, ho, resolve, invoke, builtin, hs, hx, hr, Result.andThen]
  exact h v' w' h2 h3
end
/-- A block of its own for some bytes. -/
theorem cells_new (w : World) (ys : List Int) (j : Nat) (u : Value) (h : (ys.map (Value.int .u8))[j]? = some u) : (w.alloc (.cells (ys.map (Value.int .u8)).toArray 5)).cell? ⟨w.heap.size, j, none⟩ = some u := by
  rw [cell_of_row _ w.heap.size j _ _ (0, 0) (heap_alloc_new w _), List.getElem?_toArray]
  exact h
end Go.Proofs.Ytbpaeecclikeiaa
