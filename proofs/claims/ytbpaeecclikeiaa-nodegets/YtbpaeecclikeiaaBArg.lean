/-
  A block that came in as one struct can be read.
-/
import Derived.Test.YtbpaeecclikeiaaRow
import Derived.Deep.Slices
import Derived.ChangeSame
import Derived.SizedLaws
namespace Go.Proofs.Ytbpaeecclikeiaa
open Go.RowKit Pl Go.ChangeShapes Go.WideShapes
set_option linter.unusedVariables false

theorem len2B {α : Type} {l : List α} (h : l.length = 2) : ∃ a b, l = [a, b] := by
  match l, h with
  | [a, b], _ => exact ⟨a, b, rfl⟩

section
variable {H : Type} {enc : TypeId × Value → H} {W : World} {base : Nat} {spare : Nat → Bool} {held : Bool}
theorem block_open {fuel : Nat} {cs : List Value} {x : DataW H × List MemPlace} (h : DataW.trod enc Try.prog W base spare held fuel 34 cs = some x) :
    ∃ (k : Int) (u1 : Value) (y0 y1 : DataW H × List MemPlace) (m : Nat), cs = [.int .i64 k, u1] ∧ DataW.trod enc Try.prog W base spare held m 32 [u1] = some y1 ∧ x.1 = .agg [y0.1, y1.1] := by
  obtain ⟨xs, n, _, hx, hl, hxl, hf⟩ := DataW.trod_struct Try.underlying34 h
  have hl2 : cs.length = 2 := by rw [hl]; kernel_rfl
  have hx2 : xs.length = 2 := by rw [hxl]; rfl
  clear hl hxl
  obtain ⟨y0, y1, rfl⟩ := len2B hx2
  obtain ⟨v0, v1, rfl⟩ := len2B hl2
  have k0 : Try.prog.cellsOf 3 = 1 := by kernel_rfl
  have k1 : Try.prog.cellsOf 32 = 1 := by kernel_rfl
  have g0 : DataW.trod enc Try.prog W base spare held n 3 (([v0, v1].drop 0).take (Try.prog.cellsOf 3)) = some y0 := hf 0 _ rfl
  have g1 : DataW.trod enc Try.prog W base spare held n 32 (([v0, v1].drop 1).take (Try.prog.cellsOf 32)) = some y1 := hf 1 _ rfl
  rw [k0] at g0
  rw [k1] at g1
  obtain ⟨n1, e1, _, _⟩ := DataW.trod_int Try.underlying3 g0
  cases e1
  exact ⟨n1, v1, y0, y1, n, rfl, g1, by rw [hx]; rfl⟩

/-- How great its body may be. -/
theorem block_sized {ts : List TypeId} {ds : List (DataW H)} (h : (DataW.weightsEach Try.prog ts ds).all (· ≤ reachBytes) = true) {j : Nat} {y0 : DataW H} {elems spare : List (DataW H)} (ht : ts[j]? = some 34) (hd : ds[j]? = some (.agg [y0, .slice elems spare])) :
    elems.length + spare.length ≤ reachBytes := by
  have hb : Try.prog.bytesOf 5 = 1 := by kernel_rfl
  have := List.all_eq_true.1 h _ (DataW.weights_mem_each ht hd ((elems.length + spare.length) * Try.prog.bytesOf 5) (by simp [DataW.weights, DataW.weightsEach, Try.underlying34, Try.underlying32]))
  rw [hb, Nat.mul_one] at this
  simpa using this
end
end Go.Proofs.Ytbpaeecclikeiaa
