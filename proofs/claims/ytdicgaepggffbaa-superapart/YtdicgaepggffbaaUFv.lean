/-
  The program's sector of a superblock, as a value.
-/
import Derived.Test.YtdicgaepggffbaaUPl
import Derived.Test.YtdicgaepggffbaaDBs
import Derived.Test.YtdicgaepggffbaaSCrc
import Derived.Test.YtdicgaepggffbaaMCut
import Derived.Laws.ResultCell
namespace Go.Proofs.Ytdicgaepggffbaa
open Go.RowKit Pl
set_option linter.unusedVariables false
set_option linter.unusedSimpArgs false
set_option maxRecDepth 100000

theorem info_frmU : (Try.prog.info? 62).map (fun i => (i.zero, i.size)) = some (some (.agg (bcs zz).toArray), 256) := by kernel_rfl
theorem arr_lenU : Try.prog.arrayLen 62 = 256 := by kernel_rfl
theorem arr_elU : Try.prog.elem 62 = 5 := by kernel_rfl
theorem arr_undU : Try.prog.underlying 62 = some (.array (Try.prog.arrayLen 62) (Try.prog.elem 62)) := by rw [arr_lenU, arr_elU]; exact Try.underlying62

theorem slice_frmU (g : Nat) (w : World) : (Instr.sliceAt 62 (.pointer (some ⟨g, 0, none⟩)) none none none).run Try.prog w = .ok (.slice (some ⟨g, 0, none⟩) 256 256) w := by
  rw [run_sliceAt_array_all w 62 _ arr_undU, arr_lenU, arr_elU]
  simp [slicedAt, go_sem]
theorem slice_frm_hU (g : Nat) (w : World) : (Instr.sliceAt 62 (.pointer (some ⟨g, 0, none⟩)) none (some (.int .i64 252)) none).run Try.prog w = .ok (.slice (some ⟨g, 0, none⟩) 252 256) w := by
  have := run_sliceAt_array_h w 62 ⟨g, 0, none⟩ arr_undU .i64 252 (by omega) (by rw [arr_lenU]; omega)
  rw [arr_lenU, arr_elU] at this
  rw [this]
  simp [slicedAt, go_sem]

/-- A variable that is a sector: its bytes. -/
def Fu (w : World) (g : Nat) (xs : List Int) : Prop := w.heap[g]? = some (.cells (bcs xs).toArray 62 (0, 0)) ∧ xs.length = 256 ∧ By xs

section
variable {w w' : World} {g : Nat} {xs : List Int}
theorem Fu.lt (h : Fu w g xs) : g < w.heap.size := (Array.getElem?_eq_some_iff.1 h.1).1
theorem Fu.tch {S : Nat → Prop} (h : Fu w g xs) (ht : Tch S w w') (hg : ¬ S g) : Fu w' g xs := ⟨by rw [ht.block g h.lt hg]; exact h.1, h.2⟩
theorem Fu.below (h : Fu w g xs) (hb : Below w.heap.size w w') : Fu w' g xs := h.tch (S := fun _ => False) (Tch.of_below hb) (fun e => e)
theorem Fu.wb (h : Fu w g xs) : Wb w (.slice (some ⟨g, 0, none⟩) 256 256) xs :=
  ⟨g, 256, _, _, by rw [h.2.1], by rw [h.2.1]; exact Nat.le_refl _, by unfold maxLen; omega, h.1, by rw [h.2.1, List.toList_toArray, List.take_of_length_le (by rw [bcs_len, h.2.1]; exact Nat.le_refl _)]⟩
theorem Fu.rd (h : Fu w g xs) : Rd .u8 w (.slice (some ⟨g, 0, none⟩) 256 256) xs := h.wb.rd
theorem Fu.cell (h : Fu w g xs) {i : Nat} (hi : i < 256) : w.cell? ⟨g, i, none⟩ = some (.int .u8 (xs.getD i 0)) := by
  rw [cell_of_row w g i _ _ (0, 0) h.1, List.getElem?_toArray, bcs, List.getElem?_map, List.getD_eq_getElem?_getD, List.getElem?_eq_getElem (by rw [h.2.1]; exact hi)]
  rfl
theorem Fu.fz (h : Fu w g xs) (i : Nat) : w.frozen? ⟨g, i, none⟩ = false := frozen_of_row w g i _ _ h.1
theorem Fu.rdTo (h : Fu w g xs) (m : Nat) (hm : m ≤ 256) : Rd .u8 w (.slice (some ⟨g, 0, none⟩) m 256) (xs.take m) :=
  rd_take m (by rw [h.2.1]; exact hm) (by rw [h.2.1]; exact Nat.le_refl _) (by unfold maxLen; omega) (fun i hi => by rw [Nat.zero_add]; exact h.cell (by rw [← h.2.1]; exact hi))
theorem Fu.range (h : Fu w g xs) : w.rangeAt g 0 (bcs xs) := fun j u hu => by
  have hj : j < 256 := by have := (List.getElem?_eq_some_iff.1 hu).1; rw [bcs_len, h.2.1] at this; exact this
  rw [Nat.zero_add, cell_of_row w g j _ _ (0, 0) h.1, List.getElem?_toArray]
  exact hu
theorem Fu.there (h : Fu w g xs) : w.there g 0 256 := fun j hj => by
  rw [Nat.zero_add]
  exact ⟨by rw [h.cell hj]; rfl, h.fz j⟩
theorem Fu.set (h : Fu w g xs) (i : Nat) {y : Int} (h0 : 0 ≤ y) (h1 : y ≤ 255) : Fu (w.setCell ⟨g, i, none⟩ (.int .u8 y)) g (xs.set i y) := by
  refine ⟨?_, by rw [List.length_set]; exact h.2.1, h.2.2.set i h0 h1⟩
  have := heap_setCell_same w g i _ _ (.int .u8 y) h.1
  rw [this, bcs, bcs, List.map_set]
  simp
theorem fv_newU (w : World) (hl : xs.length = 256) (hb : By xs) : Fu (w.alloc (.cells (bcs xs).toArray 62)) w.heap.size xs := ⟨heap_alloc_new w _, hl, hb⟩
end

theorem results_cellU {fn : Func} {p : Tmp} {ty : TypeId} (h : fn.results = #[.cell p ty]) (tmps : Array Value) (P : Program) (w : World) :
    (results fn tmps).run P w = ((asAddr (tmps.getD p undef)).run P w).andThen fun a w₁ => (loadVar ty a).run P w₁ := by
  simp only [results, h]
  simp [Sem.run_bind, Result.andThen]
theorem results_atU {fn : Func} {p : Tmp} {ty : TypeId} (h : fn.results = #[.cell p ty]) (tmps : Array Value) (P : Program) (w : World) (b : Nat) (v : Value) (ha : tmps.getD p undef = .pointer (some ⟨b, 0, none⟩))
    (hl : (loadVar ty ⟨b, 0, none⟩).run P w = .ok v w) : (results fn tmps).run P w = .ok v w := by
  rw [results_cellU h, ha]
  simp [asAddr, Result.andThen, hl]
theorem inf_frmU : (Try.prog.info? 62).map (·.size) = some 256 := (zero_of_info info_frmU).2
theorem bcs_sizeU {xs : List Int} (h : xs.length = 256) : (bcs xs).toArray.size = 256 := by rw [List.size_toArray, bcs_len, h]
/-- A whole sector is laid into a variable, and told from there. -/
theorem Fu.put {w : World} {g : Nat} {xs ys : List Int} (h : Fu w g xs) (hl : ys.length = 256) (hb : By ys) : Fu (w.setCells g 0 (bcs ys)) g ys := by
  refine ⟨?_, hl, hb⟩
  have := heap_setCells_same (bcs ys) 0 w _ h.1 (by rw [bcs_len, bcs_sizeU h.2.1, hl]; exact Nat.le_refl _)
  rw [this, List.toList_toArray, List.take_zero, List.nil_append, List.drop_of_length_le (by rw [bcs_len, bcs_len, hl, h.2.1]; exact Nat.le_refl _), List.append_nil]
theorem Fu.load {w : World} {g : Nat} {xs : List Int} (h : Fu w g xs) : (loadVar 62 ⟨g, 0, none⟩).run Try.prog w = .ok (.agg (bcs xs).toArray) w :=
  run_loadVar_mid (P := Try.prog) w g 0 62 (bcs xs) _ h.range Try.underlying62 rfl (by rw [bcs_len, h.2.1]; exact inf_frmU)
end Go.Proofs.Ytdicgaepggffbaa
