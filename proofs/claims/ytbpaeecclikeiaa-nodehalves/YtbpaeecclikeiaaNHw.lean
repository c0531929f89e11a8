/-
  For the walk of NodeHalves: one item of a list as a list; the document's node made and stored.
-/
import Derived.Test.YtbpaeecclikeiaaNOne
namespace Go.Proofs.Ytbpaeecclikeiaa
open Go.RowKit Pl
set_option linter.unusedVariables false
set_option linter.unusedSimpArgs false
set_option maxRecDepth 100000

theorem midSV (bb bo L cap k : Nat) (h1 : k < L) (h2 : L ≤ cap) (w : World) : (Instr.sliceAt 22 (.slice (some ⟨bb, bo, none⟩) L cap) (some (.int .i64 (k : Int))) (some (.int .i64 ((k : Int) + 1))) none).run Try.prog w = .ok (.slice (some ⟨bb, bo + k, none⟩) 1 (cap - k)) w := by
  rw [run_sliceAt_slice _ _ _ _ _ _ underSV, run_slice_lh _ _ _ _ _ underSV _ _ _ _ (by omega) (by omega) (by omega), sizeSV]
  have e : ((k : Int) + 1).toNat = k + 1 := by omega
  have e2 : ¬ cap = k := by omega
  have e3 : k + 1 - k = 1 := by omega
  simp [Result.andThen, e, sliced, e2, e3, Addr.add]
theorem midIV (bb bo L cap k : Nat) (h1 : k < L) (h2 : L ≤ cap) (w : World) : (Instr.sliceAt 23 (.slice (some ⟨bb, bo, none⟩) L cap) (some (.int .i64 (k : Int))) (some (.int .i64 ((k : Int) + 1))) none).run Try.prog w = .ok (.slice (some ⟨bb, bo + k, none⟩) 1 (cap - k)) w := by
  rw [run_sliceAt_slice _ _ _ _ _ _ underIV, run_slice_lh _ _ _ _ _ underIV _ _ _ _ (by omega) (by omega) (by omega), sizeIV]
  have e : ((k : Int) + 1).toNat = k + 1 := by omega
  have e2 : ¬ cap = k := by omega
  have e3 : k + 1 - k = 1 := by omega
  simp [Result.andThen, e, sliced, e2, e3, Addr.add]
theorem rdV_one {w : World} {bb o cap : Nat} {x : Value} (hc : w.cell? ⟨bb, o, none⟩ = some x) (h1 : 1 ≤ cap) (h2 : cap ≤ 9223372036854775807) : RdV w (.slice (some ⟨bb, o, none⟩) 1 cap) [x] := by
  refine ⟨_, cap, rfl, h1, by unfold maxLen; omega, fun e => (by cases e), .inr ⟨bb, o, rfl, fun i c hi => ?_⟩⟩
  cases i with
  | zero =>
    simp only [List.getElem?_cons_zero, Option.some.injEq] at hi
    subst hi
    exact hc
  | succ i => simp at hi
theorem wp_allocR {o : Oper} {a : Act} {w : World} {K : Act → World → Prop} {Q : Exit → Act → World → Prop} (ho : o.op = .alloc 25)
    (h : K (a.put o.dst (.pointer (some ⟨w.heap.size, 0, none⟩))) (w.alloc (.cells #[.bool false, .slice none 0 0, .slice none 0 0, .slice none 0 0] 25))) : Oper.wp Try.prog o a w K Q := by
  have hrun : (execOp a.eval o).run Try.prog w = .ok (Next.value (.pointer (some ⟨w.heap.size, 0, none⟩))) (w.alloc (.cells #[.bool false, .slice none 0 0, .slice none 0 0, .slice none 0 0] 25)) := by
    unfold execOp
    simp only [ho]
    go_simp
  unfold Oper.wp
  simp only [hrun, Oper.upon]
  exact h
theorem wp_storeR {o : Oper} {a : Act} {w : World} {K : Act → World → Prop} {Q : Exit → Act → World → Prop} {x y : Operand} {b : Nat} {lf lf' : Bool} {b1 b2 b3 : Option Addr} {l1 l2 l3 c1 c2 c3 : Nat} {u1 u2 u3 : Value} (ho : o.op = .store 25 x y) (hx : a.eval x = .pointer (some ⟨b, 0, none⟩)) (hy : a.eval y = nod lf (.slice b1 l1 c1) (.slice b2 l2 c2) (.slice b3 l3 c3)) (hN : Nb w 25 b lf' u1 u2 u3)
    (h : K (a.put o.dst undef) ((((w.setCell ⟨b, 0, none⟩ (.bool lf)).setCell ⟨b, 1, none⟩ (.slice b1 l1 c1)).setCell ⟨b, 2, none⟩ (.slice b2 l2 c2)).setCell ⟨b, 3, none⟩ (.slice b3 l3 c3))) : Oper.wp Try.prog o a w K Q := by
  have hrun : (Instr.storeAt 25 (.pointer (some ⟨b, 0, none⟩)) (nod lf (.slice b1 l1 c1) (.slice b2 l2 c2) (.slice b3 l3 c3))).run Try.prog w = .ok () ((((w.setCell ⟨b, 0, none⟩ (.bool lf)).setCell ⟨b, 1, none⟩ (.slice b1 l1 c1)).setCell ⟨b, 2, none⟩ (.slice b2 l2 c2)).setCell ⟨b, 3, none⟩ (.slice b3 l3 c3)) := by
    have p0 := hN.c0
    have p1 := hN.c1
    have p2 := hN.c2
    have p3 := hN.c3
    have f0 := hN.fz 0
    have f1 := hN.fz 1
    have f2 := hN.fz 2
    have f3 := hN.fz 3
    unfold nod
    go_simp
  unfold Oper.wp execOp
  simp only [ho, hx, hy, Sem.run_bind, Sem.run_pure, Result.andThen_ok, hrun]
  exact h
end Go.Proofs.Ytbpaeecclikeiaa
