/-
  Variables that are rows of ints by value: an array of ints, of structs of ints, a struct of such arrays.
-/
import Derived.Test.YtcmnhgefeffcpaaRow
import Derived.Deep.WholeRow
import Derived.Deep.MidRow
import Derived.Laws.ResultCell
namespace Go.Proofs.Ytcmnhgefeffcpaa
open Go.RowKit Pl
set_option linter.unusedVariables false

/-- The cells. -/
def ics (n : Nat) (c : Nat → Int) : List Value := (List.range n).map fun i => .int .i64 (c i)

theorem ics_length (n : Nat) (c : Nat → Int) : (ics n c).length = n := by simp [ics]
theorem ics_size (n : Nat) (c : Nat → Int) : (ics n c).toArray.size = n := by simp [ics]
theorem ics_one (n : Nat) (c : Nat → Int) : (ics n c).toArray.all (·.oneCell') = true := by
  refine all_oneCell_toArray (fun v hv => ?_)
  simp only [ics, List.mem_map] at hv
  obtain ⟨i, _, rfl⟩ := hv
  rfl
theorem ics_get (n : Nat) (c : Nat → Int) (i : Nat) (h : i < n) : (ics n c)[i]? = some (.int .i64 (c i)) := by simp [ics, h]
theorem ics_congr {n : Nat} {c d : Nat → Int} (h : ∀ i, i < n → c i = d i) : ics n c = ics n d := by
  unfold ics
  refine List.map_congr_left fun i hi => ?_
  rw [h i (by simpa using hi)]

/-- One number turned. -/
def upd (c : Nat → Int) (i : Nat) (v : Int) (j : Nat) : Int := if j = i then v else c j

theorem ics_set (n : Nat) (c : Nat → Int) (i : Nat) (v : Int) (h : i < n) : (ics n c).set i (.int .i64 v) = ics n (upd c i v) := by
  apply List.ext_getElem?
  intro j
  rw [List.getElem?_set]
  by_cases e : i = j
  · subst e
    rw [if_pos rfl, if_pos (by rw [ics_length]; exact h), ics_get _ _ _ h]
    simp [upd]
  · rw [if_neg e]
    by_cases hj : j < n
    · rw [ics_get _ _ _ hj, ics_get _ _ _ hj]
      simp only [upd]
      rw [if_neg (fun h => e h.symm)]
    · rw [List.getElem?_eq_none (by rw [ics_length]; omega), List.getElem?_eq_none (by rw [ics_length]; omega)]

/-- A variable of n ints at block g. -/
def Iv (w : World) (g : Nat) (t : TypeId) (n : Nat) (c : Nat → Int) : Prop := w.heap[g]? = some (.cells (ics n c).toArray t (0, 0))

section
variable {w : World} {g : Nat} {t : TypeId} {n : Nat} {c : Nat → Int}
theorem Iv.at_ (h : Iv w g t n c) (i : Nat) (hi : i < n) : w.cell? ⟨g, i, none⟩ = some (.int .i64 (c i)) := by
  rw [cell_of_row w g i _ _ (0, 0) h]
  simp [ics, hi]
theorem Iv.fz (h : Iv w g t n c) (i : Nat) : w.frozen? ⟨g, i, none⟩ = false := frozen_of_row w g i _ _ h
theorem Iv.lt (h : Iv w g t n c) : g < w.heap.size := (Array.getElem?_eq_some_iff.1 h).1
theorem Iv.tch {S : Nat → Prop} {w' : World} (h : Iv w g t n c) (ht : Tch S w w') (hg : ¬ S g) : Iv w' g t n c := by
  unfold Iv; rw [ht.block g h.lt hg]; exact h
theorem Iv.below {w' : World} (h : Iv w g t n c) (hb : Below w.heap.size w w') : Iv w' g t n c := h.tch (S := fun _ => False) (Tch.of_below hb) (fun e => e)
theorem Iv.set (h : Iv w g t n c) (i : Nat) (hi : i < n) (v : Int) : Iv (w.setCell ⟨g, i, none⟩ (.int .i64 v)) g t n (upd c i v) := by
  unfold Iv
  have h1 := heap_setCell_same w g i _ _ (.int .i64 v) h
  rw [h1, ← ics_set n c i v hi]
  simp
theorem Iv.congr {d : Nat → Int} (h : Iv w g t n c) (e : ∀ i, i < n → c i = d i) : Iv w g t n d := by
  unfold Iv; rw [← ics_congr e]; exact h
theorem Iv.range (h : Iv w g t n c) : w.rangeAt g 0 (ics n c) := fun j v hv => by
  rw [Nat.zero_add, cell_of_row w g j _ _ (0, 0) h]
  simpa using hv
theorem iv_new (w : World) (t : TypeId) (n : Nat) (c : Nat → Int) : Iv (w.alloc (.cells (ics n c).toArray t)) w.heap.size t n c := heap_alloc_new w _
end

theorem there_of_blockF {w : World} {b : Nat} {C : Array Value} {t : TypeId} {n : Nat} (h : w.heap[b]? = some (.cells C t (0, 0))) (hn : C.size = n) : w.there b 0 n := fun j hj => by
  rw [Nat.zero_add]
  refine ⟨?_, frozen_of_row w b j _ _ h⟩
  rw [cell_of_row w b j _ _ (0, 0) h]
  simp [hn, hj]

theorem results_cellF {fn : Func} {p : Tmp} {ty : TypeId} (h : fn.results = #[.cell p ty]) (tmps : Array Value) (P : Program) (w : World) :
    (results fn tmps).run P w = ((asAddr (tmps.getD p undef)).run P w).andThen fun a w₁ => (loadVar ty a).run P w₁ := by
  simp only [results, h]
  simp [Sem.run_bind, Result.andThen]

theorem results_atF {fn : Func} {p : Tmp} {ty : TypeId} (h : fn.results = #[.cell p ty]) (tmps : Array Value) (P : Program) (w : World) (b : Nat) (v : Value) (ha : tmps.getD p undef = .pointer (some ⟨b, 0, none⟩))
    (hl : (loadVar ty ⟨b, 0, none⟩).run P w = .ok v w) : (results fn tmps).run P w = .ok v w := by
  rw [results_cellF h, ha]
  simp [asAddr, Result.andThen, hl]

theorem setCells_tchF (b : Nat) : ∀ (vs : List Value) (o : Nat) (w : World), Tch (fun k => k = b) w (w.setCells b o vs)
  | [], _, w => Tch.refl _ w
  | v :: r, o, w => by
    have h1 : Tch (fun k => k = b) w (w.setCell ⟨b, o, none⟩ v) := Tch.setCell (Tch.refl (fun k => k = b) w) (p := ⟨b, o, none⟩) (fun _ => rfl) v
    have h2 := setCells_tchF b r (o + 1) (w.setCell ⟨b, o, none⟩ v)
    exact h1.trans h2 (fun _ _ e => e)

section
variable {P : Program}
/-- A whole array into the block that was made last, at the list of a region's operations. -/
theorem wpList_store_newF (w : World) {ops : Array Oper} {rest : List Oper} {op : Oper} {a : Act} {Q : Exit → Act → World → Prop} (hgd : op.guard = none) (ty : TypeId) (x y : Operand) (ho : op.op = .store ty x y)
    (c c' : Array Value) (hx : a.eval x = .pointer (some ⟨w.heap.size, 0, none⟩)) (hy : a.eval y = .agg c') (hi : (P.info? ty).map (·.size) = some c'.size) (hs : c.size = c'.size) (h1 : c'.all (·.oneCell') = true)
    (h : wpList P ops Q rest (a.put op.dst undef) (w.alloc (.cells c' ty))) : wpList P ops Q (op :: rest) a (w.alloc (.cells c ty)) := by
  refine wpList_plain hgd fun K hK => ?_
  have hrun := run_storeAt_new (P := P) w ty c c' hi hs h1
  unfold Oper.wp execOp
  simp only [ho, hx, hy, Sem.run_bind, Sem.run_pure, Result.andThen_ok, hrun]
  exact hK _ _ h
end

theorem info_tab : (Try.prog.info? 68).map (fun i => (i.zero, i.size)) = some (some (.agg (ics 1536 (fun _ => 0)).toArray), 1536) := by kernel_rfl
theorem info_i64 : (Try.prog.info? 43).map (fun i => (i.zero, i.size)) = some (some (.agg (ics 64 (fun _ => 0)).toArray), 64) := by kernel_rfl
theorem info_spots : (Try.prog.info? 46).map (fun i => (i.zero, i.size)) = some (some (.agg (ics 576 (fun _ => 0)).toArray), 576) := by kernel_rfl


theorem slice_tab (g z : Nat) (hz : z ≤ 512) (w : World) : (Instr.sliceAt 68 (.pointer (some ⟨g, 0, none⟩)) none (some (.int .i64 (z : Int))) none).run Try.prog w = .ok (.slice (some ⟨g, 0, none⟩) z 512) w := by
  have hL : Try.prog.arrayLen 68 = 512 := by kernel_rfl
  have hE : Try.prog.elem 68 = 66 := by kernel_rfl
  have ht : Try.prog.underlying 68 = some (.array (Try.prog.arrayLen 68) (Try.prog.elem 68)) := by rw [hL, hE]; exact Try.underlying68
  rw [run_sliceAt_array_h w 68 _ ht .i64 z (by omega) (by rw [hL]; omega), hL, hE]
  simp [slicedAt, go_sem]

theorem slice_64 (g : Nat) (w : World) : (Instr.sliceAt 43 (.pointer (some ⟨g, 0, none⟩)) none none none).run Try.prog w = .ok (.slice (some ⟨g, 0, none⟩) 64 64) w := by
  have hL : Try.prog.arrayLen 43 = 64 := by kernel_rfl
  have hE : Try.prog.elem 43 = 3 := by kernel_rfl
  have ht : Try.prog.underlying 43 = some (.array (Try.prog.arrayLen 43) (Try.prog.elem 43)) := by rw [hL, hE]; exact Try.underlying43
  rw [run_sliceAt_array_all w 43 _ ht, hL, hE]
  simp [slicedAt, go_sem]

end Go.Proofs.Ytcmnhgefeffcpaa
