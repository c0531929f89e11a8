/-
  Which function a heap's call through its interface comes to.
-/
import Derived.Test.YtcmnhgefeffcpaaRow
import Derived.Test.YtcmnhgefeffcpaaE64
namespace Go.Proofs.Ytcmnhgefeffcpaa
open Go.RowKit Pl
set_option linter.unusedVariables false
set_option maxRecDepth 100000

theorem load_one (a : Addr) (v : Value) (w : World) (h : w.cell? a = some v) : (load a).run Try.prog w = .ok v w := by
  simp [load, Sem.run, h]

theorem meth_len (a : Addr) (v : Value) (w : World) (h : w.cell? a = some v) : (method 255 130 (.pointer (some a)) "Len").run Try.prog w = .ok (75, v) w := by
  have e : (method 255 130 (.pointer (some a)) "Len").run Try.prog w = (do let v ← load a; pure (75, v) : Sem (FuncId × Value)).run Try.prog w := by kernel_rfl
  rw [e]
  simp [load_one a v w h]

theorem meth_less (a : Addr) (v : Value) (w : World) (h : w.cell? a = some v) : (method 255 130 (.pointer (some a)) "Less").run Try.prog w = .ok (98, v) w := by
  have e : (method 255 130 (.pointer (some a)) "Less").run Try.prog w = (do let v ← load a; pure (98, v) : Sem (FuncId × Value)).run Try.prog w := by kernel_rfl
  rw [e]
  simp [load_one a v w h]

theorem meth_swap (a : Addr) (v : Value) (w : World) (h : w.cell? a = some v) : (method 255 130 (.pointer (some a)) "Swap").run Try.prog w = .ok (99, v) w := by
  have e : (method 255 130 (.pointer (some a)) "Swap").run Try.prog w = (do let v ← load a; pure (99, v) : Sem (FuncId × Value)).run Try.prog w := by kernel_rfl
  rw [e]
  simp [load_one a v w h]

theorem meth_pop (a : Addr) (w : World) : (method 255 130 (.pointer (some a)) "Pop").run Try.prog w = .ok (100, .pointer (some a)) w := by kernel_rfl

theorem meth_push (a : Addr) (w : World) : (method 255 130 (.pointer (some a)) "Push").run Try.prog w = .ok (101, .pointer (some a)) w := by kernel_rfl

end Go.Proofs.Ytcmnhgefeffcpaa
