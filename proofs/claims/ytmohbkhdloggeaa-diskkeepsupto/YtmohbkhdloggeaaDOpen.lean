/-
  A slice of deeds, and a deed, that came in can be read.
-/
import Derived.Test.YtmohbkhdloggeaaDArg
import Derived.Deep.Slices
import Derived.ChangeSame
import Derived.OpenShut
namespace Go.Proofs.Ytmohbkhdloggeaa
open Go.RowKit Go.ChangeShapes Go.WideShapes
set_option linter.unusedVariables false

theorem len6 {α : Type} {l : List α} (h : l.length = 6) : ∃ a b c d e f, l = [a, b, c, d, e, f] := by
  match l, h with
  | [a, b, c, d, e, f], _ => exact ⟨a, b, c, d, e, f, rfl⟩

section
variable {H : Type} {enc : TypeId × Value → H} {W : World} {base : Nat} {spare : Nat → Bool} {held : Bool}

theorem one_deed {fuel : Nat} {cs : List Value} {x : DataW H × List MemPlace} (h : DataW.trod enc Try.prog W base spare held fuel 34 cs = some x) :
    ∃ d : Dd, cs = [.int .i64 d.kind, .int .i64 d.at_, .int .u8 d.fill, .int .u8 d.last, .bool d.short, d.pv] ∧ DdOk d ∧ Rd .i64 W d.pv d.ps := by
  obtain ⟨xs, n, _, hx, hl, hxl, hf⟩ := DataW.trod_struct Try.underlying34 h
  have hl6 : cs.length = 6 := by rw [hl]; kernel_rfl
  have hx6 : xs.length = 6 := by rw [hxl]; rfl
  clear hl hxl
  obtain ⟨y0, y1, y2, y3, y4, y5, rfl⟩ := len6 hx6
  obtain ⟨v0, v1, v2, v3, v4, v5, rfl⟩ := len6 hl6
  have k1 : Try.prog.cellsOf 3 = 1 := by kernel_rfl
  have k2 : Try.prog.cellsOf 5 = 1 := by kernel_rfl
  have k3 : Try.prog.cellsOf 4 = 1 := by kernel_rfl
  have k4 : Try.prog.cellsOf 32 = 1 := by kernel_rfl
  have g0 : DataW.trod enc Try.prog W base spare held n 3 (([v0, v1, v2, v3, v4, v5].drop 0).take (Try.prog.cellsOf 3)) = some y0 := hf 0 _ rfl
  have g1 : DataW.trod enc Try.prog W base spare held n 3 (([v0, v1, v2, v3, v4, v5].drop 1).take (Try.prog.cellsOf 3)) = some y1 := hf 1 _ rfl
  have g2 : DataW.trod enc Try.prog W base spare held n 5 (([v0, v1, v2, v3, v4, v5].drop 2).take (Try.prog.cellsOf 5)) = some y2 := hf 2 _ rfl
  have g3 : DataW.trod enc Try.prog W base spare held n 5 (([v0, v1, v2, v3, v4, v5].drop 3).take (Try.prog.cellsOf 5)) = some y3 := hf 3 _ rfl
  have g4 : DataW.trod enc Try.prog W base spare held n 4 (([v0, v1, v2, v3, v4, v5].drop 4).take (Try.prog.cellsOf 4)) = some y4 := hf 4 _ rfl
  have g5 : DataW.trod enc Try.prog W base spare held n 32 (([v0, v1, v2, v3, v4, v5].drop 5).take (Try.prog.cellsOf 32)) = some y5 := hf 5 _ rfl
  rw [k1] at g0 g1
  rw [k2] at g2 g3
  rw [k3] at g4
  rw [k4] at g5
  obtain ⟨n0, e0, _, w0⟩ := DataW.trod_int Try.underlying3 g0
  obtain ⟨n1, e1, _, w1⟩ := DataW.trod_int Try.underlying3 g1
  obtain ⟨n2, e2, _, w2⟩ := DataW.trod_int Try.underlying5 g2
  obtain ⟨n3, e3, _, w3⟩ := DataW.trod_int Try.underlying5 g3
  obtain ⟨b4, e4, _⟩ := DataW.trod_bool Try.underlying4 g4
  cases e0
  cases e1
  cases e2
  cases e3
  cases e4
  have f2 : 0 ≤ n2 ∧ n2 ≤ 255 := by simpa [Lit.wf, IntKind.min, IntKind.max, IntKind.signed, IntKind.bits] using w2
  have f3 : 0 ≤ n3 ∧ n3 ≤ 255 := by simpa [Lit.wf, IntKind.min, IntKind.max, IntKind.signed, IntKind.bits] using w3
  rcases open_ints Try.underlying32 Try.underlying3 (by kernel_rfl) g5 with ⟨hcs, _⟩ | ⟨a, l, c, zs, hcs, _, hl', hm, hz, hxx, hcell, hwz⟩
  · simp only [List.drop_succ_cons, List.drop_zero, List.take_succ_cons, List.take_zero, List.cons.injEq, and_true] at hcs
    subst hcs
    exact ⟨⟨n0, n1, n2, n3, b4, .slice none 0 0, []⟩, rfl, ⟨w0, w1, f2, f3⟩, ⟨none, 0, rfl, Nat.le_refl _, by unfold maxLen; omega, fun _ => rfl, .inl rfl⟩⟩
  · simp only [List.drop_succ_cons, List.drop_zero, List.take_succ_cons, List.take_zero, List.cons.injEq, and_true] at hcs
    subst hcs
    have hlz : l ≤ zs.length := by rw [hz]; split <;> omega
    refine ⟨⟨n0, n1, n2, n3, b4, .slice (some a) l c, zs.take l⟩, rfl, ⟨w0, w1, f2, f3⟩, ?_⟩
    have e : (zs.take l).length = l := by rw [List.length_take]; omega
    refine ⟨some a, c, by rw [e], by rw [e]; exact hl', hm, (fun e => by cases e), ?_⟩
    by_cases h0 : l = 0
    · left; rw [h0]; rfl
    · right
      obtain ⟨b, off, spot⟩ := a
      have hc := hcell 0 (by omega)
      have hspot : spot = none := by simpa [Addr.add] using World.cell?_spot hc
      subst hspot
      refine ⟨b, off, rfl, fun i hi0 => ?_⟩
      have hi : i < l := by have h2 : i < (zs.take l).length := hi0; rw [e] at h2; exact h2
      have := hcell i (by omega)
      rw [Addr.add_lit] at this
      rw [this, List.getD_eq_getElem?_getD, List.getD_eq_getElem?_getD, List.getElem?_take, if_pos (by omega)]

theorem deeds_open {fuel : Nat} {cs : List Value} {x : DataW H × List MemPlace} (h : DataW.trod enc Try.prog W base spare held fuel 22 cs = some x) :
    (cs = [.slice none 0 0] ∧ x.1 = .nil) ∨ ∃ (a : Addr) (len cap : Nat) (ps : List Dd) (es fs : List (DataW H)), cs = [.slice (some a) len cap] ∧ ps.length = len ∧ RdD W (.slice (some a) len cap) ps ∧ x.1 = .slice es fs ∧ es.length = len := by
  rcases Go.Deep.open_slice Try.underlying22 h with ⟨h1, h2⟩ | ⟨a, len, cap, m, n, D, Pl, rfl, hb, hl, hm, hmm, rfl, hx⟩
  · exact .inl ⟨h1, by rw [h2]⟩
  · right
    have c6 : Try.prog.cellsOf 34 = 6 := by kernel_rfl
    have hlm : len ≤ m := by rw [hmm]; split <;> omega
    have each : ∀ i, i < len → ∃ d : Dd, W.cell? (a.add (i * 6)) = some (.int .i64 d.kind) ∧ W.cell? (a.add (i * 6 + 1)) = some (.int .i64 d.at_) ∧ W.cell? (a.add (i * 6 + 2)) = some (.int .u8 d.fill) ∧ W.cell? (a.add (i * 6 + 3)) = some (.int .u8 d.last) ∧ W.cell? (a.add (i * 6 + 4)) = some (.bool d.short) ∧ W.cell? (a.add (i * 6 + 5)) = some d.pv ∧ DdOk d ∧ Rd .i64 W d.pv d.ps := by
      intro i hi
      obtain ⟨cs', h1, h2⟩ := hx i (by omega)
      rw [c6] at h1
      obtain ⟨_, hlen, hcell⟩ := World.cells?_some h1
      obtain ⟨d, rfl, hok, hrd⟩ := one_deed h2
      have e0 := hcell 0 (by omega)
      have e1 := hcell 1 (by omega)
      have e2 := hcell 2 (by omega)
      have e3 := hcell 3 (by omega)
      have e4 := hcell 4 (by omega)
      have e5 := hcell 5 (by omega)
      rw [Go.Deep.add_add] at e0 e1 e2 e3 e4 e5
      exact ⟨d, by simpa using e0, by simpa using e1, by simpa using e2, by simpa using e3, by simpa using e4, by simpa using e5, hok, hrd⟩
    have hinh : Inhabited Dd := ⟨⟨0, 0, 0, 0, false, .slice none 0 0, []⟩⟩
    obtain ⟨f, hf⟩ := Go.Deep.choose_lt (α := Dd) each
    refine ⟨a, len, cap, (List.range len).map f, _, _, rfl, by simp, ?_, rfl, by simp⟩
    refine ⟨some a, cap, by simp, by simpa using hl, hm, ?_⟩
    by_cases h0 : len = 0
    · left; rw [h0]; rfl
    · right
      obtain ⟨b, off, spot⟩ := a
      have hspot : spot = none := by simpa [Addr.add] using World.cell?_spot (hf 0 (by omega)).1
      subst hspot
      refine ⟨b, off, rfl, fun i x hi => ?_⟩
      have hil : i < len := by have := (List.getElem?_eq_some_iff.1 hi).1; simpa using this
      have hg : x = f i := by simp [hil] at hi; exact hi.symm
      subst hg
      obtain ⟨c0, c1, c2, c3, c4, c5, hok, hrd⟩ := hf i hil
      rw [Addr.add_lit] at c0 c1 c2 c3 c4 c5
      exact ⟨c0, by rw [Nat.add_assoc]; exact c1, by rw [Nat.add_assoc]; exact c2, by rw [Nat.add_assoc]; exact c3, by rw [Nat.add_assoc]; exact c4, by rw [Nat.add_assoc]; exact c5, hok, hrd⟩
end
end Go.Proofs.Ytmohbkhdloggeaa
