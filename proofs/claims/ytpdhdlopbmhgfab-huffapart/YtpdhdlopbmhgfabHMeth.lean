/-
  Which function a heap's call through its interface comes to.
-/
import Derived.Test.YtpdhdlopbmhgfabRow
import Derived.Test.YtpdhdlopbmhgfabE64
namespace Go.Proofs.Ytpdhdlopbmhgfab
open Go.RowKit Pl
set_option linter.unusedVariables false

theorem load_one (a : Addr) (v : Value) (w : World) (h : w.cell? a = some v) : (load a).run Try.prog w = .ok v w := by
  simp [load, Sem.run, h]

theorem meth_len (a : Addr) (v : Value) (w : World) (h : w.cell? a = some v) : (method 200 73 (.pointer (some a)) "Len").run Try.prog w = .ok (32, v) w := by
  have e : (method 200 73 (.pointer (some a)) "Len").run Try.prog w = (do let v ← load a; pure (32, v) : Sem (FuncId × Value)).run Try.prog w := by kernel_rfl
  rw [e]
  simp [load_one a v w h]

theorem meth_less (a : Addr) (v : Value) (w : World) (h : w.cell? a = some v) : (method 200 73 (.pointer (some a)) "Less").run Try.prog w = .ok (55, v) w := by
  have e : (method 200 73 (.pointer (some a)) "Less").run Try.prog w = (do let v ← load a; pure (55, v) : Sem (FuncId × Value)).run Try.prog w := by kernel_rfl
  rw [e]
  simp [load_one a v w h]

theorem meth_swap (a : Addr) (v : Value) (w : World) (h : w.cell? a = some v) : (method 200 73 (.pointer (some a)) "Swap").run Try.prog w = .ok (56, v) w := by
  have e : (method 200 73 (.pointer (some a)) "Swap").run Try.prog w = (do let v ← load a; pure (56, v) : Sem (FuncId × Value)).run Try.prog w := by kernel_rfl
  rw [e]
  simp [load_one a v w h]

theorem meth_pop (a : Addr) (w : World) : (method 200 73 (.pointer (some a)) "Pop").run Try.prog w = .ok (57, .pointer (some a)) w := by kernel_rfl

theorem meth_push (a : Addr) (w : World) : (method 200 73 (.pointer (some a)) "Push").run Try.prog w = .ok (58, .pointer (some a)) w := by kernel_rfl

end Go.Proofs.Ytpdhdlopbmhgfab
