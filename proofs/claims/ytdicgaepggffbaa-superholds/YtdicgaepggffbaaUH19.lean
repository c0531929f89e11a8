import Derived.Test.YtdicgaepggffbaaUH04
import Derived.Deep.Slices
import Derived.ChangeSame
import Derived.OpenShut
/-
  A superblock, and a slice of versions, that came in can be read.
-/
namespace Go.Proofs.Ytdicgaepggffbaa
open Go.RowKit Go.ChangeShapes Go.WideShapes
set_option linter.unusedVariables false

theorem len4A {α : Type} {l : List α} (h : l.length = 4) : ∃ a b c d, l = [a, b, c, d] := by
  match l, h with
  | [a, b, c, d], _ => exact ⟨a, b, c, d, rfl⟩

section
variable {H : Type} {enc : TypeId × Value → H} {W : World} {base : Nat} {spare : Nat → Bool} {held : Bool}

theorem one_version {fuel : Nat} {cs : List Value} {x : DataW H × List MemPlace} (h : DataW.trod enc Try.prog W base spare held fuel 66 cs = some x) :
    ∃ y : Vn, cs = [.int .i64 y.id, .int .i64 y.root, .int .i64 y.nx, .bool y.fx] := by
  obtain ⟨xs, n, _, hx, hl, hxl, hf⟩ := DataW.trod_struct Try.underlying66 h
  have hl4 : cs.length = 4 := by rw [hl]; kernel_rfl
  have hx4 : xs.length = 4 := by rw [hxl]; rfl
  clear hl hxl
  obtain ⟨y0, y1, y2, y3, rfl⟩ := len4A hx4
  obtain ⟨v0, v1, v2, v3, rfl⟩ := len4A hl4
  have k1 : Try.prog.cellsOf 3 = 1 := by kernel_rfl
  have k3 : Try.prog.cellsOf 4 = 1 := by kernel_rfl
  have g0 : DataW.trod enc Try.prog W base spare held n 3 (([v0, v1, v2, v3].drop 0).take (Try.prog.cellsOf 3)) = some y0 := hf 0 _ rfl
  have g1 : DataW.trod enc Try.prog W base spare held n 3 (([v0, v1, v2, v3].drop 1).take (Try.prog.cellsOf 3)) = some y1 := hf 1 _ rfl
  have g2 : DataW.trod enc Try.prog W base spare held n 3 (([v0, v1, v2, v3].drop 2).take (Try.prog.cellsOf 3)) = some y2 := hf 2 _ rfl
  have g3 : DataW.trod enc Try.prog W base spare held n 4 (([v0, v1, v2, v3].drop 3).take (Try.prog.cellsOf 4)) = some y3 := hf 3 _ rfl
  rw [k1] at g0 g1 g2
  rw [k3] at g3
  obtain ⟨n0, e0, _, _⟩ := DataW.trod_int Try.underlying3 g0
  obtain ⟨n1, e1, _, _⟩ := DataW.trod_int Try.underlying3 g1
  obtain ⟨n2, e2, _, _⟩ := DataW.trod_int Try.underlying3 g2
  obtain ⟨b3, e3, _⟩ := DataW.trod_bool Try.underlying4 g3
  cases e0
  cases e1
  cases e2
  cases e3
  exact ⟨⟨n0, n1, n2, b3⟩, rfl⟩

theorem versions_open {fuel : Nat} {cs : List Value} {x : DataW H × List MemPlace} (h : DataW.trod enc Try.prog W base spare held fuel 22 cs = some x) :
    ∃ (v : Value) (ps : List Vn), cs = [v] ∧ RdV W v ps := by
  rcases Go.Deep.open_slice Try.underlying22 h with ⟨h1, h2⟩ | ⟨a, len, cap, m, n, D, Pl, rfl, hb, hl, hm, hmm, rfl, hx⟩
  · exact ⟨.slice none 0 0, [], h1, rdV_nil W⟩
  · have c4 : Try.prog.cellsOf 66 = 4 := by kernel_rfl
    have hlm : len ≤ m := by rw [hmm]; split <;> omega
    have each : ∀ i, i < len → ∃ y : Vn, W.cell? (a.add (i * 4)) = some (.int .i64 y.id) ∧ W.cell? (a.add (i * 4 + 1)) = some (.int .i64 y.root) ∧ W.cell? (a.add (i * 4 + 2)) = some (.int .i64 y.nx) ∧ W.cell? (a.add (i * 4 + 3)) = some (.bool y.fx) := by
      intro i hi
      obtain ⟨cs', h1, h2⟩ := hx i (by omega)
      rw [c4] at h1
      obtain ⟨_, hlen, hcell⟩ := World.cells?_some h1
      obtain ⟨y, rfl⟩ := one_version h2
      have e0 := hcell 0 (by omega)
      have e1 := hcell 1 (by omega)
      have e2 := hcell 2 (by omega)
      have e3 := hcell 3 (by omega)
      rw [Go.Deep.add_add] at e0 e1 e2 e3
      exact ⟨y, by simpa using e0, by simpa using e1, by simpa using e2, by simpa using e3⟩
    have hinh : Inhabited Vn := ⟨⟨0, 0, 0, false⟩⟩
    obtain ⟨f, hf⟩ := Go.Deep.choose_lt (α := Vn) each
    refine ⟨_, (List.range len).map f, rfl, some a, cap, by simp, by simpa using hl, hm, ?_⟩
    by_cases h0 : len = 0
    · left; rw [h0]; rfl
    · right
      obtain ⟨b, off, spot⟩ := a
      have hspot : spot = none := by simpa [Addr.add] using World.cell?_spot (hf 0 (by omega)).1
      subst hspot
      refine ⟨b, off, rfl, fun i x hi => ?_⟩
      have hil : i < len := by have := (List.getElem?_eq_some_iff.1 hi).1; simpa using this
      have hg : x = f i := by simp [hil] at hi; exact hi.symm
      subst hg
      obtain ⟨c0, c1, c2, c3⟩ := hf i hil
      rw [Addr.add_lit] at c0 c1 c2 c3
      exact ⟨c0, by rw [Nat.add_assoc]; exact c1, by rw [Nat.add_assoc]; exact c2, by rw [Nat.add_assoc]; exact c3⟩

theorem one_super {fuel : Nat} {cs : List Value} {x : DataW H × List MemPlace} (h : DataW.trod enc Try.prog W base spare held fuel 24 cs = some x) :
    ∃ (s : Sp) (v : Value), cs = [.int .i64 s.gen, .int .i64 s.sc, .int .i64 s.nx, v] ∧ RdV W v s.vs := by
  obtain ⟨xs, n, _, hx, hl, hxl, hf⟩ := DataW.trod_struct Try.underlying24 h
  have hl4 : cs.length = 4 := by rw [hl]; kernel_rfl
  have hx4 : xs.length = 4 := by rw [hxl]; rfl
  clear hl hxl
  obtain ⟨y0, y1, y2, y3, rfl⟩ := len4A hx4
  obtain ⟨v0, v1, v2, v3, rfl⟩ := len4A hl4
  have k1 : Try.prog.cellsOf 3 = 1 := by kernel_rfl
  have k3 : Try.prog.cellsOf 22 = 1 := by kernel_rfl
  have g0 : DataW.trod enc Try.prog W base spare held n 3 (([v0, v1, v2, v3].drop 0).take (Try.prog.cellsOf 3)) = some y0 := hf 0 _ rfl
  have g1 : DataW.trod enc Try.prog W base spare held n 3 (([v0, v1, v2, v3].drop 1).take (Try.prog.cellsOf 3)) = some y1 := hf 1 _ rfl
  have g2 : DataW.trod enc Try.prog W base spare held n 3 (([v0, v1, v2, v3].drop 2).take (Try.prog.cellsOf 3)) = some y2 := hf 2 _ rfl
  have g3 : DataW.trod enc Try.prog W base spare held n 22 (([v0, v1, v2, v3].drop 3).take (Try.prog.cellsOf 22)) = some y3 := hf 3 _ rfl
  rw [k1] at g0 g1 g2
  rw [k3] at g3
  obtain ⟨n0, e0, _, _⟩ := DataW.trod_int Try.underlying3 g0
  obtain ⟨n1, e1, _, _⟩ := DataW.trod_int Try.underlying3 g1
  obtain ⟨n2, e2, _, _⟩ := DataW.trod_int Try.underlying3 g2
  obtain ⟨v, ps, e3, hr⟩ := versions_open g3
  cases e0
  cases e1
  cases e2
  cases e3
  exact ⟨⟨n0, n1, n2, ps⟩, v3, rfl, hr⟩
end
end Go.Proofs.Ytdicgaepggffbaa
