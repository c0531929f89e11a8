/-
  Variables that are rows of numbers by value: an array of numbers of one kind.
-/
import Derived.Test.YtfdnlkhipjjnbaaRow
import Derived.Deep.WholeRow
import Derived.Deep.MidRow
import Derived.Laws.ResultCell
namespace Go.Proofs.Ytfdnlkhipjjnbaa
open Go.RowKit Pl
set_option linter.unusedVariables false

/-- The cells. -/
def ucs (k : IntKind) (n : Nat) (c : Nat → Nat) : List Value := (List.range n).map fun i => .int k (c i : Int)

section
variable (k : IntKind)
theorem ucs_length (n : Nat) (c : Nat → Nat) : (ucs k n c).length = n := by simp [ucs]
theorem ucs_size (n : Nat) (c : Nat → Nat) : (ucs k n c).toArray.size = n := by simp [ucs]
theorem ucs_one (n : Nat) (c : Nat → Nat) : (ucs k n c).toArray.all (·.oneCell') = true := by
  refine all_oneCell_toArray (fun v hv => ?_)
  simp only [ucs, List.mem_map] at hv
  obtain ⟨i, _, rfl⟩ := hv
  rfl
theorem ucs_get (n : Nat) (c : Nat → Nat) (i : Nat) (h : i < n) : (ucs k n c)[i]? = some (.int k (c i : Int)) := by simp [ucs, h]
theorem ucs_congr {n : Nat} {c d : Nat → Nat} (h : ∀ i, i < n → c i = d i) : ucs k n c = ucs k n d := by
  unfold ucs
  refine List.map_congr_left fun i hi => ?_
  rw [h i (by simpa using hi)]
end

/-- One number turned. -/
def updN (c : Nat → Nat) (i : Nat) (v : Nat) (j : Nat) : Nat := if j = i then v else c j

theorem ucs_set (k : IntKind) (n : Nat) (c : Nat → Nat) (i : Nat) (v : Nat) (h : i < n) : (ucs k n c).set i (.int k (v : Int)) = ucs k n (updN c i v) := by
  apply List.ext_getElem?
  intro j
  rw [List.getElem?_set]
  by_cases e : i = j
  · subst e
    rw [if_pos rfl, if_pos (by rw [ucs_length]; exact h), ucs_get _ _ _ _ h]
    simp [updN]
  · rw [if_neg e]
    by_cases hj : j < n
    · rw [ucs_get _ _ _ _ hj, ucs_get _ _ _ _ hj]
      simp only [updN]
      rw [if_neg (fun h => e h.symm)]
    · rw [List.getElem?_eq_none (by rw [ucs_length]; omega), List.getElem?_eq_none (by rw [ucs_length]; omega)]

/-- A variable of n numbers at block g. -/
def Uv (k : IntKind) (w : World) (g : Nat) (t : TypeId) (n : Nat) (c : Nat → Nat) : Prop := w.heap[g]? = some (.cells (ucs k n c).toArray t (0, 0))

section
variable {k : IntKind} {w : World} {g : Nat} {t : TypeId} {n : Nat} {c : Nat → Nat}
theorem Uv.at_ (h : Uv k w g t n c) (i : Nat) (hi : i < n) : w.cell? ⟨g, i, none⟩ = some (.int k (c i : Int)) := by
  rw [cell_of_row w g i _ _ (0, 0) h]
  simp [ucs, hi]
theorem Uv.fz (h : Uv k w g t n c) (i : Nat) : w.frozen? ⟨g, i, none⟩ = false := frozen_of_row w g i _ _ h
theorem Uv.lt (h : Uv k w g t n c) : g < w.heap.size := (Array.getElem?_eq_some_iff.1 h).1
theorem Uv.tch {S : Nat → Prop} {w' : World} (h : Uv k w g t n c) (ht : Tch S w w') (hg : ¬ S g) : Uv k w' g t n c := by
  unfold Uv; rw [ht.block g h.lt hg]; exact h
theorem Uv.below {w' : World} (h : Uv k w g t n c) (hb : Below w.heap.size w w') : Uv k w' g t n c := h.tch (S := fun _ => False) (Tch.of_below hb) (fun e => e)
theorem Uv.set (h : Uv k w g t n c) (i : Nat) (hi : i < n) (v : Nat) : Uv k (w.setCell ⟨g, i, none⟩ (.int k (v : Int))) g t n (updN c i v) := by
  unfold Uv
  have h1 := heap_setCell_same w g i _ _ (.int k (v : Int)) h
  rw [h1, ← ucs_set k n c i v hi]
  simp
theorem Uv.congr {d : Nat → Nat} (h : Uv k w g t n c) (e : ∀ i, i < n → c i = d i) : Uv k w g t n d := by
  unfold Uv; rw [← ucs_congr k e]; exact h
theorem Uv.range (h : Uv k w g t n c) : w.rangeAt g 0 (ucs k n c) := fun j v hv => by
  rw [Nat.zero_add, cell_of_row w g j _ _ (0, 0) h]
  simpa using hv
theorem uv_new (k : IntKind) (w : World) (t : TypeId) (n : Nat) (c : Nat → Nat) : Uv k (w.alloc (.cells (ucs k n c).toArray t)) w.heap.size t n c := heap_alloc_new w _
theorem Uv.there (h : Uv k w g t n c) : w.there g 0 n := fun j hj => by
  rw [Nat.zero_add]
  refine ⟨?_, frozen_of_row w g j _ _ h⟩
  rw [cell_of_row w g j _ _ (0, 0) h]
  simp [ucs, hj]
end

theorem results_cellS {fn : Func} {p : Tmp} {ty : TypeId} (h : fn.results = #[.cell p ty]) (tmps : Array Value) (P : Program) (w : World) :
    (results fn tmps).run P w = ((asAddr (tmps.getD p undef)).run P w).andThen fun a w₁ => (loadVar ty a).run P w₁ := by
  simp only [results, h]
  simp [Sem.run_bind, Result.andThen]

theorem results_atS {fn : Func} {p : Tmp} {ty : TypeId} (h : fn.results = #[.cell p ty]) (tmps : Array Value) (P : Program) (w : World) (b : Nat) (v : Value) (ha : tmps.getD p undef = .pointer (some ⟨b, 0, none⟩))
    (hl : (loadVar ty ⟨b, 0, none⟩).run P w = .ok v w) : (results fn tmps).run P w = .ok v w := by
  rw [results_cellS h, ha]
  simp [asAddr, Result.andThen, hl]

theorem setCells_tchS (b : Nat) : ∀ (vs : List Value) (o : Nat) (w : World), Tch (fun k => k = b) w (w.setCells b o vs)
  | [], _, w => Tch.refl _ w
  | v :: r, o, w => by
    have h1 : Tch (fun k => k = b) w (w.setCell ⟨b, o, none⟩ v) := Tch.setCell (Tch.refl (fun k => k = b) w) (p := ⟨b, o, none⟩) (fun _ => rfl) v
    have h2 := setCells_tchS b r (o + 1) (w.setCell ⟨b, o, none⟩ v)
    exact h1.trans h2 (fun _ _ e => e)

section
variable {P : Program}
/-- A whole array into the block that was made last, at the list of a region's operations. -/
theorem wpList_store_newS (w : World) {ops : Array Oper} {rest : List Oper} {op : Oper} {a : Act} {Q : Exit → Act → World → Prop} (hgd : op.guard = none) (ty : TypeId) (x y : Operand) (ho : op.op = .store ty x y)
    (c c' : Array Value) (hx : a.eval x = .pointer (some ⟨w.heap.size, 0, none⟩)) (hy : a.eval y = .agg c') (hi : (P.info? ty).map (·.size) = some c'.size) (hs : c.size = c'.size) (h1 : c'.all (·.oneCell') = true)
    (h : wpList P ops Q rest (a.put op.dst undef) (w.alloc (.cells c' ty))) : wpList P ops Q (op :: rest) a (w.alloc (.cells c ty)) := by
  refine wpList_plain hgd fun K hK => ?_
  have hrun := run_storeAt_new (P := P) w ty c c' hi hs h1
  unfold Oper.wp execOp
  simp only [ho, hx, hy, Sem.run_bind, Sem.run_pure, Result.andThen_ok, hrun]
  exact hK _ _ h
end

theorem info_64 : (Try.prog.info? 37).map (fun i => (i.zero, i.size)) = some (some (.agg (ucs .u32 64 (fun _ => 0)).toArray), 64) := by kernel_rfl
theorem info_8 : (Try.prog.info? 35).map (fun i => (i.zero, i.size)) = some (some (.agg (ucs .u32 8 (fun _ => 0)).toArray), 8) := by kernel_rfl
theorem info_32 : (Try.prog.info? 23).map (fun i => (i.zero, i.size)) = some (some (.agg (ucs .u8 32 (fun _ => 0)).toArray), 32) := by kernel_rfl
end Go.Proofs.Ytfdnlkhipjjnbaa
