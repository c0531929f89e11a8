/-
  Two marks of pieces compared.
-/
import Derived.Test.YtaacidgihhcpkaaJMem
import Derived.Laws.StructEq
import Derived.ChangeKeysEq
namespace Go.Proofs.Ytaacidgihhcpkaa
open Go.RowKit Pl
set_option linter.unusedVariables false
set_option linter.unusedSimpArgs false
set_option maxRecDepth 100000

theorem und_mk : Try.prog.underlying 77 = some (.struct (Try.prog.fieldsOf 77)) := by kernel_rfl
theorem stood_mk : Try.prog.stoodInHeld 77 = false := by kernel_rfl
theorem flds_mk : ((Try.prog.fieldsOf 77).toList.map fun f => (decide (f.name = "_"), f.type, f.offset)) = [(false, 3, 0), (false, 3, 1), (false, 3, 2), (false, 3, 3)] := by kernel_rfl
theorem len4J {α : Type} {l : List α} (h : l.length = 4) : ∃ a b c d, l = [a, b, c, d] := by
  match l, h with
  | [a, b, c, d], _ => exact ⟨a, b, c, d, rfl⟩
theorem eqF_stepJ {P : Program} (w : World) (d : Nat) (xs ys : Array Value) (f : Field) (fs : List Field) (a b : Value) (r : Bool) (hn : ¬ f.name = "_") (ha : (part f.type xs f.offset).run P w = .ok a w) (hb : (part f.type ys f.offset).run P w = .ok b w) (hr : (Op.equalIn d f.type a b).run P w = .ok r w) :
    (Op.eqFields d xs ys (f :: fs)).run P w = if r = true then (Op.eqFields d xs ys fs).run P w else .ok false w := by
  simp only [Op.eqFields, hn, ne_eq, not_false_eq_true, if_true, Sem.run_bind, ha, hb, hr, Result.andThen_ok]
  cases r <;> simp
def mk4 (a b c d : Int) : Value := .agg #[.int .i64 a, .int .i64 b, .int .i64 c, .int .i64 d]
theorem eqFldsJ (w : World) (d : Nat) (x0 x1 x2 x3 y0 y1 y2 y3 : Int) (fs : List Field) (h : (fs.map fun f => (decide (f.name = "_"), f.type, f.offset)) = [(false, 3, 0), (false, 3, 1), (false, 3, 2), (false, 3, 3)]) :
    (Op.eqFields (d + 1) #[.int .i64 x0, .int .i64 x1, .int .i64 x2, .int .i64 x3] #[.int .i64 y0, .int .i64 y1, .int .i64 y2, .int .i64 y3] fs).run Try.prog w = .ok (x0 == y0 && (x1 == y1 && (x2 == y2 && x3 == y3))) w := by
  obtain ⟨f0, f1, f2, f3, rfl⟩ := len4J (l := fs) (by have := congrArg List.length h; simpa using this)
  simp only [List.map_cons, List.map_nil, List.cons.injEq, Prod.mk.injEq, and_true, decide_eq_false_iff_not] at h
  obtain ⟨⟨n0, t0, o0⟩, ⟨n1, t1, o1⟩, ⟨n2, t2, o2⟩, n3, t3, o3⟩ := h
  have e0 : ∀ a b : Int, (Op.equalIn (d + 1) 3 (.int .i64 a) (.int .i64 b)).run Try.prog w = .ok (a == b) w := fun a b => run_equalIn_int (P := Try.prog) w d 3 .i64 .i64 a b Try.underlying3
  rw [eqF_stepJ w (d + 1) _ _ f0 _ (.int .i64 x0) (.int .i64 y0) (x0 == y0) n0 (by rw [t0, o0]; exact run_part_plain w (by kernel_rfl) rfl) (by rw [t0, o0]; exact run_part_plain w (by kernel_rfl) rfl) (by rw [t0]; exact e0 _ _)]
  rw [eqF_stepJ w (d + 1) _ _ f1 _ (.int .i64 x1) (.int .i64 y1) (x1 == y1) n1 (by rw [t1, o1]; exact run_part_plain w (by kernel_rfl) rfl) (by rw [t1, o1]; exact run_part_plain w (by kernel_rfl) rfl) (by rw [t1]; exact e0 _ _)]
  rw [eqF_stepJ w (d + 1) _ _ f2 _ (.int .i64 x2) (.int .i64 y2) (x2 == y2) n2 (by rw [t2, o2]; exact run_part_plain w (by kernel_rfl) rfl) (by rw [t2, o2]; exact run_part_plain w (by kernel_rfl) rfl) (by rw [t2]; exact e0 _ _)]
  rw [eqF_stepJ w (d + 1) _ _ f3 _ (.int .i64 x3) (.int .i64 y3) (x3 == y3) n3 (by rw [t3, o3]; exact run_part_plain w (by kernel_rfl) rfl) (by rw [t3, o3]; exact run_part_plain w (by kernel_rfl) rfl) (by rw [t3]; exact e0 _ _)]
  generalize (x0 == y0) = b0
  generalize (x1 == y1) = b1
  generalize (x2 == y2) = b2
  generalize (x3 == y3) = b3
  cases b0 <;> cases b1 <;> cases b2 <;> cases b3 <;> simp [Op.eqFields]
theorem eq_mk (w : World) (x0 x1 x2 x3 y0 y1 y2 y3 : Int) : (Op.equalIn 10000 77 (.agg #[.int .i64 x0, .int .i64 x1, .int .i64 x2, .int .i64 x3]) (.agg #[.int .i64 y0, .int .i64 y1, .int .i64 y2, .int .i64 y3])).run Try.prog w = .ok (decide (x0 = y0 ∧ x1 = y1 ∧ x2 = y2 ∧ x3 = y3)) w := by
  rw [run_equalIn_struct w 9999 77 _ _ und_mk stood_mk, eqFldsJ w 9998 x0 x1 x2 x3 y0 y1 y2 y3 _ flds_mk]
  congr 1
  rw [Bool.eq_iff_iff]
  simp
end Go.Proofs.Ytaacidgihhcpkaa
