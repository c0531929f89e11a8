/-
  Which function a heap's call through its interface comes to.
-/
import Derived.Test.YtpdhdlopbmhgfaaRow
import Derived.Test.YtpdhdlopbmhgfaaE64
namespace Go.Proofs.Ytpdhdlopbmhgfaa
open Go.RowKit Pl
set_option linter.unusedVariables false

theorem load_one (a : Addr) (v : Value) (w : World) (h : w.cell? a = some v) : (load a).run Try.prog w = .ok v w := by
  simp [load, Sem.run, h]

theorem meth_len (a : Addr) (v : Value) (w : World) (h : w.cell? a = some v) : (method 205 78 (.pointer (some a)) "Len").run Try.prog w = .ok (38, v) w := by
  have e : (method 205 78 (.pointer (some a)) "Len").run Try.prog w = (do let v ← load a; pure (38, v) : Sem (FuncId × Value)).run Try.prog w := by kernel_rfl
  rw [e]
  simp [load_one a v w h]

theorem meth_less (a : Addr) (v : Value) (w : World) (h : w.cell? a = some v) : (method 205 78 (.pointer (some a)) "Less").run Try.prog w = .ok (61, v) w := by
  have e : (method 205 78 (.pointer (some a)) "Less").run Try.prog w = (do let v ← load a; pure (61, v) : Sem (FuncId × Value)).run Try.prog w := by kernel_rfl
  rw [e]
  simp [load_one a v w h]

theorem meth_swap (a : Addr) (v : Value) (w : World) (h : w.cell? a = some v) : (method 205 78 (.pointer (some a)) "Swap").run Try.prog w = .ok (62, v) w := by
  have e : (method 205 78 (.pointer (some a)) "Swap").run Try.prog w = (do let v ← load a; pure (62, v) : Sem (FuncId × Value)).run Try.prog w := by kernel_rfl
  rw [e]
  simp [load_one a v w h]

theorem meth_pop (a : Addr) (w : World) : (method 205 78 (.pointer (some a)) "Pop").run Try.prog w = .ok (63, .pointer (some a)) w := by kernel_rfl

theorem meth_push (a : Addr) (w : World) : (method 205 78 (.pointer (some a)) "Push").run Try.prog w = .ok (64, .pointer (some a)) w := by kernel_rfl

end Go.Proofs.Ytpdhdlopbmhgfaa
