/-
  Variables that are blocks.
-/
import Derived.Test.YtbpaeecclikeiaaNRow
namespace Go.Proofs.Ytbpaeecclikeiaa
open Go.RowKit Pl
set_option linter.unusedVariables false

def blN (k : Int) (v : Value) : Value := .agg #[.int .i64 k, v]
theorem inf_blN : (Try.prog.info? 34).map (·.size) = some 2 := by kernel_rfl
/-- A variable that is a block. -/
def Kb (w : World) (b : Nat) (K : Int) (v : Value) : Prop := w.heap[b]? = some (.cells #[.int .i64 K, v] 34 (0, 0))
section
variable {w w' : World} {b : Nat} {K : Int} {v : Value}
theorem Kb.range (h : Kb w b K v) : w.rangeAt b 0 [.int .i64 K, v] := fun j u hu => by
  rw [Nat.zero_add, cell_of_row w b j _ _ (0, 0) h, List.getElem?_toArray]
  exact hu
theorem Kb.load (h : Kb w b K v) : (loadVar 34 ⟨b, 0, none⟩).run Try.prog w = .ok (blN K v) w :=
  run_loadVar_mid (P := Try.prog) w b 0 34 [.int .i64 K, v] _ h.range Try.underlying34 rfl inf_blN
theorem Kb.c0 (h : Kb w b K v) : w.cell? ⟨b, 0, none⟩ = some (.int .i64 K) := by rw [cell_of_row w b 0 _ _ (0, 0) h]; rfl
theorem Kb.c1 (h : Kb w b K v) : w.cell? ⟨b, 1, none⟩ = some v := by rw [cell_of_row w b 1 _ _ (0, 0) h]; rfl
theorem Kb.fz (h : Kb w b K v) (i : Nat) : w.frozen? ⟨b, i, none⟩ = false := frozen_of_row w b i _ _ h
theorem Kb.lt (h : Kb w b K v) : b < w.heap.size := (Array.getElem?_eq_some_iff.1 h).1
theorem Kb.tch {S : Nat → Prop} (h : Kb w b K v) (ht : Tch S w w') (hb : ¬ S b) : Kb w' b K v := by unfold Kb; rw [ht.block b h.lt hb]; exact h
theorem Kb.below (h : Kb w b K v) (hb : Below w.heap.size w w') : Kb w' b K v := h.tch (S := fun _ => False) (Tch.of_below hb) (fun e => e)
theorem Kb.put (h : Kb w b K v) (J : Int) (u : Value) : Kb ((w.setCell ⟨b, 0, none⟩ (.int .i64 J)).setCell ⟨b, 1, none⟩ u) b J u := by
  have h1 := heap_setCell_same w b 0 _ _ (.int .i64 J) h
  have h2 := heap_setCell_same _ b 1 _ _ u h1
  exact h2
theorem Kb.s0 (h : Kb w b K v) (J : Int) : Kb (w.setCell ⟨b, 0, none⟩ (.int .i64 J)) b J v := heap_setCell_same w b 0 _ _ (.int .i64 J) h
theorem Kb.s1 (h : Kb w b K v) (u : Value) : Kb (w.setCell ⟨b, 1, none⟩ u) b K u := heap_setCell_same w b 1 _ _ u h
theorem kb_new (w : World) (K : Int) (v : Value) : Kb (w.alloc (.cells #[.int .i64 K, v] 34)) w.heap.size K v := heap_alloc_new w _
theorem tch_two (w : World) (b : Nat) (x0 x1 : Value) : Tch (fun j => j = b) w ((w.setCell ⟨b, 0, none⟩ x0).setCell ⟨b, 1, none⟩ x1) :=
  (tch_at w b 0 x0).trans (tch_at _ b 1 x1) (fun _ _ e => e)
end
/-- A leaf's kind, or an inner node's. -/
def kdN (lf : Bool) : Int := if lf = true then 1 else 2
end Go.Proofs.Ytbpaeecclikeiaa
