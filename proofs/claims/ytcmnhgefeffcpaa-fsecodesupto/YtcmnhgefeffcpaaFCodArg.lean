/-
  A share with its log and a number that came in as one struct can be read.
-/
import Derived.Test.YtcmnhgefeffcpaaRow
import Derived.Deep.Slices
import Derived.ChangeSame
namespace Go.Proofs.Ytcmnhgefeffcpaa
open Go.RowKit Pl Go.ChangeShapes Go.WideShapes
set_option linter.unusedVariables false

theorem len3 {α : Type} {l : List α} (h : l.length = 3) : ∃ a b c, l = [a, b, c] := by
  match l, h with
  | [a, b, c], _ => exact ⟨a, b, c, rfl⟩

section
variable {H : Type} {enc : TypeId × Value → H} {W : World} {base : Nat} {spare : Nat → Bool} {held : Bool}
theorem coded_open {fuel : Nat} {cs : List Value} {x : DataW H × List MemPlace} (h : DataW.trod enc Try.prog W base spare held fuel 30 cs = some x) :
    ∃ (u0 : Value) (b n : Int) (y0 y1 y2 : DataW H × List MemPlace) (m : Nat), cs = [u0, .int .i64 b, .int .i64 n] ∧ DataW.trod enc Try.prog W base spare held m 22 [u0] = some y0 ∧ x.1 = .agg [y0.1, y1.1, y2.1] := by
  obtain ⟨xs, n, _, hx, hl, hxl, hf⟩ := DataW.trod_struct Try.underlying30 h
  have hl3 : cs.length = 3 := by rw [hl]; kernel_rfl
  have hx3 : xs.length = 3 := by rw [hxl]; rfl
  clear hl hxl
  obtain ⟨y0, y1, y2, rfl⟩ := len3 hx3
  obtain ⟨v0, v1, v2, rfl⟩ := len3 hl3
  · have k1 : Try.prog.cellsOf 3 = 1 := by kernel_rfl
    have k0 : Try.prog.cellsOf 22 = 1 := by kernel_rfl
    have g0 : DataW.trod enc Try.prog W base spare held n 22 (([v0, v1, v2].drop 0).take (Try.prog.cellsOf 22)) = some y0 := hf 0 _ rfl
    have g1 : DataW.trod enc Try.prog W base spare held n 3 (([v0, v1, v2].drop 1).take (Try.prog.cellsOf 3)) = some y1 := hf 1 _ rfl
    have g2 : DataW.trod enc Try.prog W base spare held n 3 (([v0, v1, v2].drop 2).take (Try.prog.cellsOf 3)) = some y2 := hf 2 _ rfl
    rw [k0] at g0
    rw [k1] at g1 g2
    obtain ⟨n1, e1, _, _⟩ := DataW.trod_int Try.underlying3 g1
    obtain ⟨n2, e2, _, _⟩ := DataW.trod_int Try.underlying3 g2
    cases e1
    cases e2
    exact ⟨v0, n1, n2, y0, y1, y2, n, rfl, g0, by rw [hx]; rfl⟩
end
end Go.Proofs.Ytcmnhgefeffcpaa
