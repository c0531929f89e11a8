/-
  Boxes: small blocks of cells; pieces and journals in memory.
-/
import Derived.Test.YtaacidgihhcpkaaJPl
import Derived.Test.YtaacidgihhcpkaaDBs
import Derived.Maps.AppendAt
import Derived.Deep.MidRow
namespace Go.Proofs.Ytaacidgihhcpkaa
open Go.RowKit Pl
set_option linter.unusedVariables false
set_option linter.unusedSimpArgs false

/-- A block with these cells. -/
def Bo (w : World) (b : Nat) (t : TypeId) (cs : List Value) : Prop := w.heap[b]? = some (.cells cs.toArray t (0, 0))
section
variable {w w' : World} {b : Nat} {t : TypeId} {cs : List Value}
theorem Bo.cell (h : Bo w b t cs) {i : Nat} {v : Value} (hi : cs[i]? = some v) : w.cell? ⟨b, i, none⟩ = some v := by rw [cell_of_row w b i _ _ (0, 0) h, List.getElem?_toArray]; exact hi
theorem Bo.fz (h : Bo w b t cs) (i : Nat) : w.frozen? ⟨b, i, none⟩ = false := frozen_of_row w b i _ _ h
theorem Bo.lt (h : Bo w b t cs) : b < w.heap.size := (Array.getElem?_eq_some_iff.1 h).1
theorem Bo.tch {S : Nat → Prop} (h : Bo w b t cs) (ht : Tch S w w') (hb : ¬ S b) : Bo w' b t cs := by unfold Bo; rw [ht.block b h.lt hb]; exact h
theorem Bo.below (h : Bo w b t cs) (hb : Below w.heap.size w w') : Bo w' b t cs := h.tch (S := fun _ => False) (Tch.of_below hb) (fun e => e)
theorem Bo.belowB {B : Nat} {w0 : World} (h : Bo w b t cs) (hB : Below B w w') (hl : b < B) : Bo w' b t cs := by unfold Bo; rw [hB.block b hl]; exact h
theorem Bo.set (h : Bo w b t cs) (i : Nat) (v : Value) : Bo (w.setCell ⟨b, i, none⟩ v) b t (cs.set i v) := by
  have := heap_setCell_same w b i _ _ v h
  unfold Bo
  rw [this]
  simp
theorem Bo.range (h : Bo w b t cs) : w.rangeAt b 0 cs := fun j u hu => by
  rw [Nat.zero_add, cell_of_row w b j _ _ (0, 0) h, List.getElem?_toArray]
  exact hu
theorem bo_new (w : World) (t : TypeId) (cs : List Value) : Bo (w.alloc (.cells cs.toArray t)) w.heap.size t cs := heap_alloc_new w _
end

/-- A piece as a value, and its cells. -/
def pcs5 (p : Pc) (v : Value) : List Value := [.int .i64 (p.pl : Int), .int .i64 (p.mn : Int), .int .i64 (p.gen : Int), .int .i64 (p.num : Int), v]
def pcv (p : Pc) (v : Value) : Value := .agg #[.int .i64 (p.pl : Int), .int .i64 (p.mn : Int), .int .i64 (p.gen : Int), .int .i64 (p.num : Int), v]
theorem inf_pc : (Try.prog.info? 82).map (·.size) = some 5 := by kernel_rfl
theorem inf_pcz : (Try.prog.info? 82).map (fun i => (i.zero, i.size)) = some (some (.agg #[.int .i64 0, .int .i64 0, .int .i64 0, .int .i64 0, .slice none 0 0]), 5) := by kernel_rfl
theorem inf_mkz : (Try.prog.info? 77).map (fun i => (i.zero, i.size)) = some (some (.agg #[.int .i64 0, .int .i64 0, .int .i64 0, .int .i64 0]), 4) := by kernel_rfl
theorem inf_jz : (Try.prog.info? 74).map (fun i => (i.zero, i.size)) = some (some (.agg #[.pointer none, .int .i64 0, .int .i64 0, .int .i64 0]), 4) := by kernel_rfl
theorem pc_load {w : World} {b : Nat} {p : Pc} {v : Value} (h : Bo w b 82 (pcs5 p v)) : (loadVar 82 ⟨b, 0, none⟩).run Try.prog w = .ok (pcv p v) w :=
  run_loadVar_mid (P := Try.prog) w b 0 82 (pcs5 p v) _ h.range Try.underlying82 rfl inf_pc

/-- A journal's box: its disk, generation, how many records, the next sector. -/
def Jb (w : World) (j d g m a : Nat) : Prop := Bo w j 74 [.pointer (some ⟨d, 0, none⟩), .int .i64 (g : Int), .int .i64 (m : Int), .int .i64 (a : Int)]
end Go.Proofs.Ytaacidgihhcpkaa
