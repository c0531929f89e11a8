/-
  Variables that are nodes, written; and results that lie in one.
-/
import Derived.Test.YtbpaeecclikeiaaNMem
import Derived.Test.YtbpaeecclikeiaaDBs
import Derived.Laws.ResultCell
namespace Go.Proofs.Ytbpaeecclikeiaa
open Go.RowKit Pl
set_option linter.unusedVariables false

theorem tch_at (w : World) (b i : Nat) (v : Value) : Tch (fun j => j = b) w (w.setCell ⟨b, i, none⟩ v) := (Tch.refl (fun j => j = b) w).setCell (p := ⟨b, i, none⟩) (fun _ => rfl) _
theorem inf_nod : (Try.prog.info? 26).map (·.size) = some 4 := by kernel_rfl
theorem inf_ref : (Try.prog.info? 25).map (·.size) = some 4 := by kernel_rfl
section
variable {w w' : World} {T : TypeId} {b : Nat} {lf : Bool} {u1 u2 u3 : Value}
theorem Nb.range (h : Nb w T b lf u1 u2 u3) : w.rangeAt b 0 [.bool lf, u1, u2, u3] := fun j u hu => by
  rw [Nat.zero_add, cell_of_row w b j _ _ (0, 0) h, List.getElem?_toArray]
  exact hu
theorem Nb.load (h : Nb w 26 b lf u1 u2 u3) : (loadVar 26 ⟨b, 0, none⟩).run Try.prog w = .ok (nod lf u1 u2 u3) w :=
  run_loadVar_mid (P := Try.prog) w b 0 26 [.bool lf, u1, u2, u3] _ h.range Try.underlying26 rfl inf_nod
theorem Nb.loadR (h : Nb w 25 b lf u1 u2 u3) : (loadVar 25 ⟨b, 0, none⟩).run Try.prog w = .ok (nod lf u1 u2 u3) w :=
  run_loadVar_mid (P := Try.prog) w b 0 25 [.bool lf, u1, u2, u3] _ h.range Try.underlying25 rfl inf_ref
theorem Nb.s0 (h : Nb w T b lf u1 u2 u3) (x : Bool) : Nb (w.setCell ⟨b, 0, none⟩ (.bool x)) T b x u1 u2 u3 := heap_setCell_same w b 0 _ _ (.bool x) h
theorem Nb.s1 (h : Nb w T b lf u1 u2 u3) (x : Value) : Nb (w.setCell ⟨b, 1, none⟩ x) T b lf x u2 u3 := heap_setCell_same w b 1 _ _ x h
theorem Nb.s2 (h : Nb w T b lf u1 u2 u3) (x : Value) : Nb (w.setCell ⟨b, 2, none⟩ x) T b lf u1 x u3 := heap_setCell_same w b 2 _ _ x h
theorem Nb.s3 (h : Nb w T b lf u1 u2 u3) (x : Value) : Nb (w.setCell ⟨b, 3, none⟩ x) T b lf u1 u2 x := heap_setCell_same w b 3 _ _ x h
theorem Nb.all (h : Nb w T b lf u1 u2 u3) (x : Bool) (x1 x2 x3 : Value) : Nb ((((w.setCell ⟨b, 0, none⟩ (.bool x)).setCell ⟨b, 1, none⟩ x1).setCell ⟨b, 2, none⟩ x2).setCell ⟨b, 3, none⟩ x3) T b x x1 x2 x3 := (((h.s0 x).s1 x1).s2 x2).s3 x3
theorem tch_all (w : World) (b : Nat) (x0 x1 x2 x3 : Value) : Tch (fun j => j = b) w ((((w.setCell ⟨b, 0, none⟩ x0).setCell ⟨b, 1, none⟩ x1).setCell ⟨b, 2, none⟩ x2).setCell ⟨b, 3, none⟩ x3) :=
  (((tch_at w b 0 x0).trans (tch_at _ b 1 x1) (fun _ _ e => e)).trans (tch_at _ b 2 x2) (fun _ _ e => e)).trans (tch_at _ b 3 x3) (fun _ _ e => e)
end
theorem Nn.tch {S : Nat → Prop} {w w' : World} {n : Nd} {u1 u2 u3 : Value} (h : Nn w n u1 u2 u3) (ht : Tch S w w') (h1 : ∀ b, u1.ownBlock = some b → ¬ S b) (h2 : ∀ b, u2.ownBlock = some b → ¬ S b) (h3 : ∀ b, u3.ownBlock = some b → ¬ S b) : Nn w' n u1 u2 u3 :=
  ⟨h.k.tch ht h1, h.v.tch ht h2, h.d.tch ht h3⟩

theorem results_cellN {fn : Func} {p : Tmp} {ty : TypeId} (h : fn.results = #[.cell p ty]) (tmps : Array Value) (P : Program) (w : World) :
    (results fn tmps).run P w = ((asAddr (tmps.getD p undef)).run P w).andThen fun a w₁ => (loadVar ty a).run P w₁ := by
  simp only [results, h]
  simp [Sem.run_bind, Result.andThen]
theorem results_atN {fn : Func} {p : Tmp} {ty : TypeId} (h : fn.results = #[.cell p ty]) (tmps : Array Value) (P : Program) (w : World) (b : Nat) (v : Value) (ha : tmps.getD p undef = .pointer (some ⟨b, 0, none⟩))
    (hl : (loadVar ty ⟨b, 0, none⟩).run P w = .ok v w) : (results fn tmps).run P w = .ok v w := by
  rw [results_cellN h, ha]
  simp [asAddr, Result.andThen, hl]
theorem results_twoN {fn : Func} {p u : Tmp} {ty : TypeId} (h : fn.results = #[.cell p ty, .tmp u]) (tmps : Array Value) (P : Program) (w : World) (b : Nat) (v x : Value) (ha : tmps.getD p undef = .pointer (some ⟨b, 0, none⟩))
    (hl : (loadVar ty ⟨b, 0, none⟩).run P w = .ok v w) (hx : tmps.getD u undef = x) : (results fn tmps).run P w = .ok (.tuple #[v, x]) w := by
  rw [results_cell_tmp h, ha]
  simp [asAddr, Result.andThen, hl, hx]
/-- What is owned in some type's row lies in no variable of another type. -/
theorem OwnsV.ne {e : TypeId} {w : World} {v : Value} {cs : List Value} (h : OwnsV e w v cs) {b : Nat} {C : Array Value} {T : TypeId} (hb : w.heap[b]? = some (.cells C T (0, 0))) (hT : e ≠ T) : v.ownBlock ≠ some b := by
  intro hv
  have h' : w.ownsRow 0 e 1 v cs.length cs := h
  rcases h'.2 with ⟨rfl, _⟩ | ⟨g, cap, cur, rfl, _, hg, _⟩
  · cases hv
  · simp only [Value.ownBlock, Option.some.injEq] at hv
    subst hv
    rw [hb] at hg
    simp only [Option.some.injEq, Obj.cells.injEq] at hg
    exact hT hg.2.1.symm
theorem RdV.long {w : World} {v : Value} {cs : List Value} (h : RdV w v cs) : ∃ a cap, v = .slice a cs.length cap := by
  obtain ⟨a, cap, e, _⟩ := h
  exact ⟨a, cap, e⟩
end Go.Proofs.Ytbpaeecclikeiaa
