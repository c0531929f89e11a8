import Derived.Test.YtdicgaepggffbaaUH18
import Derived.Test.YtdicgaepggffbaaUH19
/-
  A slice of deeds, and of superblocks, that came in can be read.
-/
namespace Go.Proofs.Ytdicgaepggffbaa
open Go.RowKit Go.ChangeShapes Go.WideShapes
set_option linter.unusedVariables false

theorem len7 {α : Type} {l : List α} (h : l.length = 7) : ∃ a b c d e f g, l = [a, b, c, d, e, f, g] := by
  match l, h with
  | [a, b, c, d, e, f, g], _ => exact ⟨a, b, c, d, e, f, g, rfl⟩

section
variable {H : Type} {enc : TypeId × Value → H} {W : World} {base : Nat} {spare : Nat → Bool} {held : Bool}

theorem one_udeed {fuel : Nat} {cs : List Value} {x : DataW H × List MemPlace} (h : DataW.trod enc Try.prog W base spare held fuel 45 cs = some x) :
    ∃ d : Ud, cs = [.int .i64 d.kind, .int .i64 d.su.gen, .int .i64 d.su.sc, .int .i64 d.su.nx, d.sv, .int .i64 d.at_, d.pv] ∧ UdOk d ∧ RdV W d.sv d.su.vs ∧ Rd .i64 W d.pv d.ps := by
  obtain ⟨xs, n, _, hx, hl, hxl, hf⟩ := DataW.trod_struct Try.underlying45 h
  have hl6 : cs.length = 7 := by rw [hl]; kernel_rfl
  have hx6 : xs.length = 4 := by rw [hxl]; rfl
  clear hl hxl
  obtain ⟨y0, y1, y2, y3, rfl⟩ := len4A hx6
  obtain ⟨v0, v1, v2, v3, v4, v5, v6, rfl⟩ := len7 hl6
  have k1 : Try.prog.cellsOf 3 = 1 := by kernel_rfl
  have k2 : Try.prog.cellsOf 24 = 4 := by kernel_rfl
  have k4 : Try.prog.cellsOf 43 = 1 := by kernel_rfl
  have g0 : DataW.trod enc Try.prog W base spare held n 3 (([v0, v1, v2, v3, v4, v5, v6].drop 0).take (Try.prog.cellsOf 3)) = some y0 := hf 0 _ rfl
  have g1 : DataW.trod enc Try.prog W base spare held n 24 (([v0, v1, v2, v3, v4, v5, v6].drop 1).take (Try.prog.cellsOf 24)) = some y1 := hf 1 _ rfl
  have g2 : DataW.trod enc Try.prog W base spare held n 3 (([v0, v1, v2, v3, v4, v5, v6].drop 5).take (Try.prog.cellsOf 3)) = some y2 := hf 2 _ rfl
  have g5 : DataW.trod enc Try.prog W base spare held n 43 (([v0, v1, v2, v3, v4, v5, v6].drop 6).take (Try.prog.cellsOf 43)) = some y3 := hf 3 _ rfl
  rw [k1] at g0 g2
  rw [k2] at g1
  rw [k4] at g5
  obtain ⟨n0, e0, _, w0⟩ := DataW.trod_int Try.underlying3 g0
  obtain ⟨n2, e2, _, w2⟩ := DataW.trod_int Try.underlying3 g2
  obtain ⟨s, sv, e1, r1⟩ := one_super g1
  simp only [List.drop_succ_cons, List.drop_zero, List.take_succ_cons, List.take_zero, List.cons.injEq, and_true] at e1
  obtain ⟨rfl, rfl, rfl, rfl⟩ := e1
  cases e0
  cases e2
  rcases open_ints Try.underlying43 Try.underlying3 (by kernel_rfl) g5 with ⟨hcs, _⟩ | ⟨a, l, c, zs, hcs, _, hl', hm, hz, hxx, hcell, hwz⟩
  · simp only [List.drop_succ_cons, List.drop_zero, List.take_succ_cons, List.take_zero, List.cons.injEq, and_true] at hcs
    subst hcs
    exact ⟨⟨n0, s, v4, n2, .slice none 0 0, []⟩, rfl, ⟨w0, w2⟩, r1, ⟨none, 0, rfl, Nat.le_refl _, by unfold maxLen; omega, fun _ => rfl, .inl rfl⟩⟩
  · simp only [List.drop_succ_cons, List.drop_zero, List.take_succ_cons, List.take_zero, List.cons.injEq, and_true] at hcs
    subst hcs
    have hlz : l ≤ zs.length := by rw [hz]; split <;> omega
    refine ⟨⟨n0, s, v4, n2, .slice (some a) l c, zs.take l⟩, rfl, ⟨w0, w2⟩, r1, ?_⟩
    have e : (zs.take l).length = l := by rw [List.length_take]; omega
    refine ⟨some a, c, by rw [e], by rw [e]; exact hl', hm, (fun e => by cases e), ?_⟩
    by_cases h0 : l = 0
    · left; rw [h0]; rfl
    · right
      obtain ⟨b, off, spot⟩ := a
      have hc := hcell 0 (by omega)
      have hspot : spot = none := by simpa [Addr.add] using World.cell?_spot hc
      subst hspot
      refine ⟨b, off, rfl, fun i hi0 => ?_⟩
      have hi : i < l := by have h2 : i < (zs.take l).length := hi0; rw [e] at h2; exact h2
      have := hcell i (by omega)
      rw [Addr.add_lit] at this
      rw [this, List.getD_eq_getElem?_getD, List.getD_eq_getElem?_getD, List.getElem?_take, if_pos (by omega)]

theorem udeeds_open {fuel : Nat} {cs : List Value} {x : DataW H × List MemPlace} (h : DataW.trod enc Try.prog W base spare held fuel 36 cs = some x) :
    (cs = [.slice none 0 0] ∧ x.1 = .nil) ∨ ∃ (a : Addr) (len cap : Nat) (ps : List Ud) (es fs : List (DataW H)), cs = [.slice (some a) len cap] ∧ ps.length = len ∧ RdU W (.slice (some a) len cap) ps ∧ x.1 = .slice es fs ∧ es.length = len := by
  rcases Go.Deep.open_slice Try.underlying36 h with ⟨h1, h2⟩ | ⟨a, len, cap, m, n, D, Pl, rfl, hb, hl, hm, hmm, rfl, hx⟩
  · exact .inl ⟨h1, by rw [h2]⟩
  · right
    have c7 : Try.prog.cellsOf 45 = 7 := by kernel_rfl
    have hlm : len ≤ m := by rw [hmm]; split <;> omega
    have each : ∀ i, i < len → ∃ d : Ud, W.cell? (a.add (i * 7)) = some (.int .i64 d.kind) ∧ W.cell? (a.add (i * 7 + 1)) = some (.int .i64 d.su.gen) ∧ W.cell? (a.add (i * 7 + 2)) = some (.int .i64 d.su.sc) ∧ W.cell? (a.add (i * 7 + 3)) = some (.int .i64 d.su.nx) ∧ W.cell? (a.add (i * 7 + 4)) = some d.sv ∧ W.cell? (a.add (i * 7 + 5)) = some (.int .i64 d.at_) ∧ W.cell? (a.add (i * 7 + 6)) = some d.pv ∧ UdOk d ∧ RdV W d.sv d.su.vs ∧ Rd .i64 W d.pv d.ps := by
      intro i hi
      obtain ⟨cs', h1, h2⟩ := hx i (by omega)
      rw [c7] at h1
      obtain ⟨_, hlen, hcell⟩ := World.cells?_some h1
      obtain ⟨d, rfl, hok, hrv, hrd⟩ := one_udeed h2
      have e0 := hcell 0 (by omega)
      have e1 := hcell 1 (by omega)
      have e2 := hcell 2 (by omega)
      have e3 := hcell 3 (by omega)
      have e4 := hcell 4 (by omega)
      have e5 := hcell 5 (by omega)
      have e6 := hcell 6 (by omega)
      rw [Go.Deep.add_add] at e0 e1 e2 e3 e4 e5 e6
      exact ⟨d, by simpa using e0, by simpa using e1, by simpa using e2, by simpa using e3, by simpa using e4, by simpa using e5, by simpa using e6, hok, hrv, hrd⟩
    have hinh : Inhabited Ud := ⟨⟨0, sp0, .slice none 0 0, 0, .slice none 0 0, []⟩⟩
    obtain ⟨f, hf⟩ := Go.Deep.choose_lt (α := Ud) each
    refine ⟨a, len, cap, (List.range len).map f, _, _, rfl, by simp, ?_, rfl, by simp⟩
    refine ⟨some a, cap, by simp, by simpa using hl, hm, ?_⟩
    by_cases h0 : len = 0
    · left; rw [h0]; rfl
    · right
      obtain ⟨b, off, spot⟩ := a
      have hspot : spot = none := by simpa [Addr.add] using World.cell?_spot (hf 0 (by omega)).1
      subst hspot
      refine ⟨b, off, rfl, fun i x hi => ?_⟩
      have hil : i < len := by have := (List.getElem?_eq_some_iff.1 hi).1; simpa using this
      have hg : x = f i := by simp [hil] at hi; exact hi.symm
      subst hg
      obtain ⟨c0, c1, c2, c3, c4, c5, c6, hok, hrv, hrd⟩ := hf i hil
      rw [Addr.add_lit] at c0 c1 c2 c3 c4 c5 c6
      exact ⟨c0, by rw [Nat.add_assoc]; exact c1, by rw [Nat.add_assoc]; exact c2, by rw [Nat.add_assoc]; exact c3, by rw [Nat.add_assoc]; exact c4, by rw [Nat.add_assoc]; exact c5, by rw [Nat.add_assoc]; exact c6, hok, hrv, hrd⟩

theorem supers_open {fuel : Nat} {cs : List Value} {x : DataW H × List MemPlace} (h : DataW.trod enc Try.prog W base spare held fuel 57 cs = some x) :
    (cs = [.slice none 0 0] ∧ x.1 = .nil) ∨ ∃ (a : Addr) (len cap : Nat) (ps : List (Sp × Value)) (es fs : List (DataW H)), cs = [.slice (some a) len cap] ∧ ps.length = len ∧ RdSp W (.slice (some a) len cap) ps ∧ x.1 = .slice es fs ∧ es.length = len := by
  rcases Go.Deep.open_slice Try.underlying57 h with ⟨h1, h2⟩ | ⟨a, len, cap, m, n, D, Pl, rfl, hb, hl, hm, hmm, rfl, hx⟩
  · exact .inl ⟨h1, by rw [h2]⟩
  · right
    have c4' : Try.prog.cellsOf 24 = 4 := by kernel_rfl
    have hlm : len ≤ m := by rw [hmm]; split <;> omega
    have each : ∀ i, i < len → ∃ d : Sp × Value, W.cell? (a.add (i * 4)) = some (.int .i64 d.1.gen) ∧ W.cell? (a.add (i * 4 + 1)) = some (.int .i64 d.1.sc) ∧ W.cell? (a.add (i * 4 + 2)) = some (.int .i64 d.1.nx) ∧ W.cell? (a.add (i * 4 + 3)) = some d.2 ∧ RdV W d.2 d.1.vs := by
      intro i hi
      obtain ⟨cs', h1, h2⟩ := hx i (by omega)
      rw [c4'] at h1
      obtain ⟨_, hlen, hcell⟩ := World.cells?_some h1
      obtain ⟨s, v, rfl, hrv⟩ := one_super h2
      have e0 := hcell 0 (by omega)
      have e1 := hcell 1 (by omega)
      have e2 := hcell 2 (by omega)
      have e3 := hcell 3 (by omega)
      rw [Go.Deep.add_add] at e0 e1 e2 e3
      exact ⟨(s, v), by simpa using e0, by simpa using e1, by simpa using e2, by simpa using e3, hrv⟩
    have hinh : Inhabited (Sp × Value) := ⟨(sp0, .slice none 0 0)⟩
    obtain ⟨f, hf⟩ := Go.Deep.choose_lt (α := Sp × Value) each
    refine ⟨a, len, cap, (List.range len).map f, _, _, rfl, by simp, ?_, rfl, by simp⟩
    refine ⟨some a, cap, by simp, by simpa using hl, hm, ?_⟩
    by_cases h0 : len = 0
    · left; rw [h0]; rfl
    · right
      obtain ⟨b, off, spot⟩ := a
      have hspot : spot = none := by simpa [Addr.add] using World.cell?_spot (hf 0 (by omega)).1
      subst hspot
      refine ⟨b, off, rfl, fun i x hi => ?_⟩
      have hil : i < len := by have := (List.getElem?_eq_some_iff.1 hi).1; simpa using this
      have hg : x = f i := by simp [hil] at hi; exact hi.symm
      subst hg
      obtain ⟨c0, c1, c2, c3, hrv⟩ := hf i hil
      rw [Addr.add_lit] at c0 c1 c2 c3
      exact ⟨c0, by rw [Nat.add_assoc]; exact c1, by rw [Nat.add_assoc]; exact c2, by rw [Nat.add_assoc]; exact c3, hrv⟩
end
end Go.Proofs.Ytdicgaepggffbaa
