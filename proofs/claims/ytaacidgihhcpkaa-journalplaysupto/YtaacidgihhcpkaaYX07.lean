import Derived.Test.YtaacidgihhcpkaaYX05
import Derived.Test.YtaacidgihhcpkaaYX06
import Derived.Test.YtaacidgihhcpkaaYX03
import Derived.Deep.Slices
import Derived.ChangeSame
import Derived.SizedLaws
/-
  A slice of rows of bytes, and of deeds of layer 11, that came in can be read.
-/
namespace Go.Proofs.Ytaacidgihhcpkaa
open Go.RowKit Pl Go.ChangeShapes Go.WideShapes
set_option linter.unusedVariables false

section
variable {H : Type} {enc : TypeId × Value → H} {W : World} {base : Nat} {spare : Nat → Bool} {held : Bool}

theorem one_row {fuel : Nat} {cs : List Value} {x : DataW H × List MemPlace} (h : DataW.trod enc Try.prog W base spare held fuel 36 cs = some x) :
    ∃ (u : Value) (ys : List Int), cs = [u] ∧ Rd .u8 W u ys ∧ By ys ∧ (ys = [] ∨ ∃ es fs, x.1 = .slice es fs ∧ ys.length ≤ es.length + fs.length) := by
  rcases open_ints Try.underlying36 Try.underlying5 (by kernel_rfl) h with ⟨hcs, _⟩ | ⟨a, l, c, zs, hcs, _, hl', hm, hz, hxx, hcell, hwz⟩
  · exact ⟨.slice none 0 0, [], hcs, ⟨none, 0, rfl, Nat.le_refl _, by unfold maxLen; omega, fun _ => rfl, .inl rfl⟩, by_of_memB (by simp), .inl rfl⟩
  · have hlz : l ≤ zs.length := by rw [hz]; split <;> omega
    have e : (zs.take l).length = l := by rw [List.length_take]; omega
    refine ⟨.slice (some a) l c, zs.take l, hcs, ⟨some a, c, by rw [e], by rw [e]; exact hl', hm, (fun e => by cases e), ?_⟩, by_of_wf (fun n hn => hwz n (List.mem_of_mem_take hn)), .inr ⟨lits .u8 (zs.take l), lits .u8 (zs.drop l), by rw [hxx], ?_⟩⟩
    · by_cases h0 : l = 0
      · left; rw [h0]; rfl
      · right
        obtain ⟨b, off, spot⟩ := a
        have hc := hcell 0 (by omega)
        have hspot : spot = none := by simpa [Addr.add] using World.cell?_spot hc
        subst hspot
        refine ⟨b, off, rfl, fun i hi0 => ?_⟩
        have hi : i < l := by have h2 : i < (zs.take l).length := hi0; rw [e] at h2; exact h2
        have := hcell i (by omega)
        rw [Addr.add_lit] at this
        rw [this, List.getD_eq_getElem?_getD, List.getD_eq_getElem?_getD, List.getElem?_take, if_pos (by omega)]
    · simp only [lits, List.length_map]; omega

theorem weights_all_mem {P : Program} {e : TypeId} : ∀ {l : List (DataW H)} {d : DataW H}, d ∈ l → ∀ n ∈ d.weights P e, n ∈ DataW.weightsAll P e l
  | d0 :: l, d, hd, n, hn => by
    simp only [DataW.weightsAll, List.mem_append]
    rcases List.mem_cons.1 hd with e | e
    · subst e; exact .inl hn
    · exact .inr (weights_all_mem e n hn)

theorem rows_open {fuel : Nat} {cs : List Value} {x : DataW H × List MemPlace} (h : DataW.trod enc Try.prog W base spare held fuel 46 cs = some x) :
    (cs = [.slice none 0 0] ∧ x.1 = .nil) ∨ ∃ (a : Addr) (len cap : Nat) (ps : List (List Int)) (es fs : List (DataW H)), cs = [.slice (some a) len cap] ∧ ps.length = len ∧ RdL W (.slice (some a) len cap) ps ∧ (∀ y ∈ ps, By y) ∧ x.1 = .slice es fs ∧ es.length = len ∧
      ((∀ n ∈ x.1.weights Try.prog 46, n ≤ reachBytes) → ∀ y ∈ ps, y.length ≤ reachBytes) := by
  rcases Go.Deep.open_slice Try.underlying46 h with ⟨h1, h2⟩ | ⟨a, len, cap, m, n, D, Pl, rfl, hb, hl, hm, hmm, rfl, hx⟩
  · exact .inl ⟨h1, by rw [h2]⟩
  · right
    have c1 : Try.prog.cellsOf 36 = 1 := by kernel_rfl
    have hlm : len ≤ m := by rw [hmm]; split <;> omega
    have each : ∀ i, i < len → ∃ p : Value × List Int, W.cell? (a.add i) = some p.1 ∧ Rd .u8 W p.1 p.2 ∧ By p.2 ∧ (p.2 = [] ∨ ∃ es fs, D i = .slice es fs ∧ p.2.length ≤ es.length + fs.length) := by
      intro i hi
      obtain ⟨cs', h1, h2⟩ := hx i (by omega)
      rw [c1] at h1
      obtain ⟨_, hlen, hcell⟩ := World.cells?_some h1
      obtain ⟨u, ys, rfl, r1, r2, r3⟩ := one_row h2
      have e0 := hcell 0 (by omega)
      rw [Go.Deep.add_add] at e0
      exact ⟨(u, ys), by simpa using e0, r1, r2, r3⟩
    have hinh : Inhabited (Value × List Int) := ⟨(.slice none 0 0, [])⟩
    obtain ⟨f, hf⟩ := Go.Deep.choose_lt (α := Value × List Int) each
    refine ⟨a, len, cap, (List.range len).map fun i => (f i).2, _, _, rfl, by simp, ?_, ?_, rfl, by simp, ?_⟩
    · refine ⟨some a, cap, by simp, by simpa using hl, hm, ?_⟩
      by_cases h0 : len = 0
      · left; rw [h0]; rfl
      · right
        obtain ⟨b, off, spot⟩ := a
        have hspot : spot = none := by simpa [Addr.add] using World.cell?_spot (hf 0 (by omega)).1
        subst hspot
        refine ⟨b, off, rfl, fun i hi => ?_⟩
        have hil : i < len := by simpa using hi
        obtain ⟨c0, r1, r2, r3⟩ := hf i hil
        rw [Addr.add_lit] at c0
        refine ⟨(f i).1, c0, ?_⟩
        rw [List.getD_eq_getElem?_getD, List.getElem?_map, List.getElem?_range hil]
        exact r1
    · intro y hy
      obtain ⟨i, hi, rfl⟩ := List.mem_map.1 hy
      exact (hf i (by simpa using hi)).2.2.1
    · intro hw y hy
      obtain ⟨i, hi, rfl⟩ := List.mem_map.1 hy
      have hil : i < len := by simpa using hi
      obtain ⟨_, _, _, r3⟩ := hf i hil
      rcases r3 with e | ⟨es, fs, e1, e2⟩
      · rw [e]; exact Nat.zero_le _
      · have hb1 : Try.prog.bytesOf 5 = 1 := by kernel_rfl
        have hmem : D i ∈ (List.range len).map D := List.mem_map.2 ⟨i, hi, rfl⟩
        have hw1 := weights_all_mem (P := Try.prog) (e := 36) hmem ((es.length + fs.length) * Try.prog.bytesOf 5) (by rw [e1]; simp [DataW.weights, Try.underlying36])
        have := hw ((es.length + fs.length) * Try.prog.bytesOf 5) (by simp only [DataW.weights, Try.underlying46, List.mem_cons, List.mem_append]; exact .inr (.inl hw1))
        rw [hb1] at this
        omega
end
end Go.Proofs.Ytaacidgihhcpkaa
/-
  Deeds of layer 11 in memory.
-/
namespace Go.Proofs.Ytaacidgihhcpkaa
open Go.RowKit Pl Go.ChangeShapes Go.WideShapes
set_option linter.unusedVariables false

/-- A deed: its kind, its bytes, a number, its picks. -/
structure Jq where
  kind : Int
  dv : Value
  data : List Int
  n : Int
  pv : Value
  ps : List Int
structure JqOk (w : World) (x : Jq) : Prop where
  wk : (Lit.int .i64 x.kind).wf = true
  wn : (Lit.int .i64 x.n).wf = true
  rd : Rd .u8 w x.dv x.data
  by_ : By x.data
  rp : Rd .i64 w x.pv x.ps
structure JqC (w : World) (b o : Nat) (x : Jq) : Prop where
  c0 : w.cell? ⟨b, o, none⟩ = some (.int .i64 x.kind)
  c1 : w.cell? ⟨b, o + 1, none⟩ = some x.dv
  c2 : w.cell? ⟨b, o + 2, none⟩ = some (.int .i64 x.n)
  c3 : w.cell? ⟨b, o + 3, none⟩ = some x.pv
def RdJ (w : World) (v : Value) (xs : List Jq) : Prop :=
  ∃ a cap, v = .slice a xs.length cap ∧ xs.length ≤ cap ∧ cap ≤ maxLen ∧ (xs = [] ∨ ∃ b o, a = some ⟨b, o, none⟩ ∧ ∀ i x, xs[i]? = some x → JqC w b (o + i * 4) x ∧ JqOk w x)
theorem RdJ.at_ {w wr : World} {a : Option Addr} {n cap : Nat} {xs : List Jq} (h : RdJ w (.slice a n cap) xs) (hb : Below w.heap.size w wr) {k : Nat} {x : Jq} (hk : xs[k]? = some x) : ∃ b o, a = some ⟨b, o, none⟩ ∧ JqC wr b (o + k * 4) x ∧ JqOk w x := by
  obtain ⟨a', cap', e, _, _, hc⟩ := h
  cases e
  rcases hc with e | ⟨b, o, rfl, hc⟩
  · rw [e] at hk; simp at hk
  · obtain ⟨c, r⟩ := hc k x hk
    have ht := Tch.of_below (S := fun _ => False) hb
    have hl := World.block_lt_of_cell? w ⟨b, o + k * 4, none⟩ c.c0
    exact ⟨b, o, rfl, ⟨by rw [ht.cell (p := ⟨b, o + k * 4, none⟩) hl (fun e => e)]; exact c.c0, by rw [ht.cell (p := ⟨b, o + k * 4 + 1, none⟩) hl (fun e => e)]; exact c.c1, by rw [ht.cell (p := ⟨b, o + k * 4 + 2, none⟩) hl (fun e => e)]; exact c.c2, by rw [ht.cell (p := ⟨b, o + k * 4 + 3, none⟩) hl (fun e => e)]; exact c.c3⟩, r⟩

theorem len4K {α : Type} {l : List α} (h : l.length = 4) : ∃ a b c d, l = [a, b, c, d] := by
  match l, h with
  | [a, b, c, d], _ => exact ⟨a, b, c, d, rfl⟩

section
variable {H : Type} {enc : TypeId × Value → H} {W : World} {base : Nat} {spare : Nat → Bool} {held : Bool}

theorem one_ints {fuel : Nat} {cs : List Value} {x : DataW H × List MemPlace} (h : DataW.trod enc Try.prog W base spare held fuel 37 cs = some x) : ∃ (u : Value) (ys : List Int), cs = [u] ∧ Rd .i64 W u ys := by
  rcases open_ints Try.underlying37 Try.underlying3 (by kernel_rfl) h with ⟨hcs, _⟩ | ⟨a, l, c, zs, hcs, _, hl', hm, hz, hxx, hcell, hwz⟩
  · exact ⟨.slice none 0 0, [], hcs, none, 0, rfl, Nat.le_refl _, by unfold maxLen; omega, fun _ => rfl, .inl rfl⟩
  · have hlz : l ≤ zs.length := by rw [hz]; split <;> omega
    have e : (zs.take l).length = l := by rw [List.length_take]; omega
    refine ⟨.slice (some a) l c, zs.take l, hcs, some a, c, by rw [e], by rw [e]; exact hl', hm, (fun e => by cases e), ?_⟩
    by_cases h0 : l = 0
    · left; rw [h0]; rfl
    · right
      obtain ⟨b, off, spot⟩ := a
      have hc := hcell 0 (by omega)
      have hspot : spot = none := by simpa [Addr.add] using World.cell?_spot hc
      subst hspot
      refine ⟨b, off, rfl, fun i hi0 => ?_⟩
      have hi : i < l := by have h2 : i < (zs.take l).length := hi0; rw [e] at h2; exact h2
      have := hcell i (by omega)
      rw [Addr.add_lit] at this
      rw [this, List.getD_eq_getElem?_getD, List.getD_eq_getElem?_getD, List.getElem?_take, if_pos (by omega)]

theorem one_jdeed {fuel : Nat} {cs : List Value} {x : DataW H × List MemPlace} (h : DataW.trod enc Try.prog W base spare held fuel 39 cs = some x) :
    ∃ d : Jq, cs = [.int .i64 d.kind, d.dv, .int .i64 d.n, d.pv] ∧ JqOk W d := by
  obtain ⟨xs, n, _, hx, hl, hxl, hf⟩ := DataW.trod_struct Try.underlying39 h
  have hl6 : cs.length = 4 := by rw [hl]; kernel_rfl
  have hx6 : xs.length = 4 := by rw [hxl]; rfl
  clear hl hxl
  obtain ⟨y0, y1, y2, y3, rfl⟩ := len4K hx6
  obtain ⟨v0, v1, v2, v3, rfl⟩ := len4K hl6
  have k1 : Try.prog.cellsOf 3 = 1 := by kernel_rfl
  have k2 : Try.prog.cellsOf 36 = 1 := by kernel_rfl
  have k4 : Try.prog.cellsOf 37 = 1 := by kernel_rfl
  have g0 : DataW.trod enc Try.prog W base spare held n 3 (([v0, v1, v2, v3].drop 0).take (Try.prog.cellsOf 3)) = some y0 := hf 0 _ rfl
  have g1 : DataW.trod enc Try.prog W base spare held n 36 (([v0, v1, v2, v3].drop 1).take (Try.prog.cellsOf 36)) = some y1 := hf 1 _ rfl
  have g2 : DataW.trod enc Try.prog W base spare held n 3 (([v0, v1, v2, v3].drop 2).take (Try.prog.cellsOf 3)) = some y2 := hf 2 _ rfl
  have g3 : DataW.trod enc Try.prog W base spare held n 37 (([v0, v1, v2, v3].drop 3).take (Try.prog.cellsOf 37)) = some y3 := hf 3 _ rfl
  rw [k1] at g0 g2
  rw [k2] at g1
  rw [k4] at g3
  obtain ⟨n0, e0, _, w0⟩ := DataW.trod_int Try.underlying3 g0
  obtain ⟨n2, e2, _, w2⟩ := DataW.trod_int Try.underlying3 g2
  obtain ⟨u1, z1, e1, r1, b1, _⟩ := one_row g1
  obtain ⟨u3, z3, e3, r3⟩ := one_ints g3
  simp only [List.drop_succ_cons, List.drop_zero, List.take_succ_cons, List.take_zero, List.cons.injEq, and_true] at e1 e3
  subst e1 e3
  cases e0
  cases e2
  exact ⟨⟨n0, v1, z1, n2, v3, z3⟩, rfl, ⟨w0, w2, r1, b1, r3⟩⟩

theorem jdeeds_open {fuel : Nat} {cs : List Value} {x : DataW H × List MemPlace} (h : DataW.trod enc Try.prog W base spare held fuel 22 cs = some x) :
    (cs = [.slice none 0 0] ∧ x.1 = .nil) ∨ ∃ (a : Addr) (len cap : Nat) (ps : List Jq) (es fs : List (DataW H)), cs = [.slice (some a) len cap] ∧ ps.length = len ∧ RdJ W (.slice (some a) len cap) ps ∧ x.1 = .slice es fs ∧ es.length = len := by
  rcases Go.Deep.open_slice Try.underlying22 h with ⟨h1, h2⟩ | ⟨a, len, cap, m, n, D, Pl, rfl, hb, hl, hm, hmm, rfl, hx⟩
  · exact .inl ⟨h1, by rw [h2]⟩
  · right
    have c4 : Try.prog.cellsOf 39 = 4 := by kernel_rfl
    have hlm : len ≤ m := by rw [hmm]; split <;> omega
    have each : ∀ i, i < len → ∃ d : Jq, W.cell? (a.add (i * 4)) = some (.int .i64 d.kind) ∧ W.cell? (a.add (i * 4 + 1)) = some d.dv ∧ W.cell? (a.add (i * 4 + 2)) = some (.int .i64 d.n) ∧ W.cell? (a.add (i * 4 + 3)) = some d.pv ∧ JqOk W d := by
      intro i hi
      obtain ⟨cs', h1, h2⟩ := hx i (by omega)
      rw [c4] at h1
      obtain ⟨_, hlen, hcell⟩ := World.cells?_some h1
      obtain ⟨d, rfl, hok⟩ := one_jdeed h2
      have e0 := hcell 0 (by omega)
      have e1 := hcell 1 (by omega)
      have e2 := hcell 2 (by omega)
      have e3 := hcell 3 (by omega)
      rw [Go.Deep.add_add] at e0 e1 e2 e3
      exact ⟨d, by simpa using e0, by simpa using e1, by simpa using e2, by simpa using e3, hok⟩
    have hinh : Inhabited Jq := ⟨⟨0, .slice none 0 0, [], 0, .slice none 0 0, []⟩⟩
    obtain ⟨f, hf⟩ := Go.Deep.choose_lt (α := Jq) each
    refine ⟨a, len, cap, (List.range len).map f, _, _, rfl, by simp, ?_, rfl, by simp⟩
    refine ⟨some a, cap, by simp, by simpa using hl, hm, ?_⟩
    by_cases h0 : len = 0
    · left; rw [h0]; rfl
    · right
      obtain ⟨b, off, spot⟩ := a
      have hspot : spot = none := by simpa [Addr.add] using World.cell?_spot (hf 0 (by omega)).1
      subst hspot
      refine ⟨b, off, rfl, fun i x hi => ?_⟩
      have hil : i < len := by have := (List.getElem?_eq_some_iff.1 hi).1; simpa using this
      have hg : x = f i := by simp [hil] at hi; exact hi.symm
      subst hg
      obtain ⟨c0, c1, c2, c3, hok⟩ := hf i hil
      rw [Addr.add_lit] at c0 c1 c2 c3
      exact ⟨⟨c0, by rw [Nat.add_assoc]; exact c1, by rw [Nat.add_assoc]; exact c2, by rw [Nat.add_assoc]; exact c3⟩, hok⟩
end
end Go.Proofs.Ytaacidgihhcpkaa
/-
  Deeds of layer 11 in memory, and how long their bytes are.
-/
namespace Go.Proofs.Ytaacidgihhcpkaa
open Go.RowKit Pl Go.ChangeShapes Go.WideShapes
set_option linter.unusedVariables false

section
variable {H : Type} {enc : TypeId × Value → H} {W : World} {base : Nat} {spare : Nat → Bool} {held : Bool}

theorem one_jdeedL {fuel : Nat} {cs : List Value} {x : DataW H × List MemPlace} (h : DataW.trod enc Try.prog W base spare held fuel 39 cs = some x) :
    ∃ d : Jq, cs = [.int .i64 d.kind, d.dv, .int .i64 d.n, d.pv] ∧ JqOk W d ∧ (d.data = [] ∨ ∃ pts e f, x.1 = DataW.agg pts ∧ DataW.slice e f ∈ pts ∧ d.data.length ≤ e.length + f.length) := by
  obtain ⟨xs, n, _, hx, hl, hxl, hf⟩ := DataW.trod_struct Try.underlying39 h
  have hl6 : cs.length = 4 := by rw [hl]; kernel_rfl
  have hx6 : xs.length = 4 := by rw [hxl]; rfl
  clear hl hxl
  obtain ⟨y0, y1, y2, y3, rfl⟩ := len4K hx6
  obtain ⟨v0, v1, v2, v3, rfl⟩ := len4K hl6
  have k1 : Try.prog.cellsOf 3 = 1 := by kernel_rfl
  have k2 : Try.prog.cellsOf 36 = 1 := by kernel_rfl
  have k4 : Try.prog.cellsOf 37 = 1 := by kernel_rfl
  have g0 : DataW.trod enc Try.prog W base spare held n 3 (([v0, v1, v2, v3].drop 0).take (Try.prog.cellsOf 3)) = some y0 := hf 0 _ rfl
  have g1 : DataW.trod enc Try.prog W base spare held n 36 (([v0, v1, v2, v3].drop 1).take (Try.prog.cellsOf 36)) = some y1 := hf 1 _ rfl
  have g2 : DataW.trod enc Try.prog W base spare held n 3 (([v0, v1, v2, v3].drop 2).take (Try.prog.cellsOf 3)) = some y2 := hf 2 _ rfl
  have g3 : DataW.trod enc Try.prog W base spare held n 37 (([v0, v1, v2, v3].drop 3).take (Try.prog.cellsOf 37)) = some y3 := hf 3 _ rfl
  rw [k1] at g0 g2
  rw [k2] at g1
  rw [k4] at g3
  obtain ⟨n0, e0, _, w0⟩ := DataW.trod_int Try.underlying3 g0
  obtain ⟨n2, e2, _, w2⟩ := DataW.trod_int Try.underlying3 g2
  obtain ⟨u1, z1, e1, r1, b1, l1⟩ := one_row g1
  obtain ⟨u3, z3, e3, r3⟩ := one_ints g3
  simp only [List.drop_succ_cons, List.drop_zero, List.take_succ_cons, List.take_zero, List.cons.injEq, and_true] at e1 e3
  subst e1 e3
  cases e0
  cases e2
  refine ⟨⟨n0, v1, z1, n2, v3, z3⟩, rfl, ⟨w0, w2, r1, b1, r3⟩, ?_⟩
  rcases l1 with e | ⟨e, f, he, hl⟩
  · exact .inl e
  · exact .inr ⟨_, e, f, by rw [hx], by rw [← he]; simp, hl⟩

theorem jdeeds_long {fuel : Nat} {cs : List Value} {x : DataW H × List MemPlace} (h : DataW.trod enc Try.prog W base spare held fuel 22 cs = some x) :
    (cs = [.slice none 0 0] ∧ x.1 = .nil) ∨ ∃ (a : Addr) (len cap : Nat) (ps : List Jq) (es fs : List (DataW H)), cs = [.slice (some a) len cap] ∧ ps.length = len ∧ RdJ W (.slice (some a) len cap) ps ∧ x.1 = .slice es fs ∧ es.length = len ∧ ∀ y ∈ ps, y.data = [] ∨ ∃ pts e f, DataW.agg pts ∈ es ∧ DataW.slice e f ∈ pts ∧ y.data.length ≤ e.length + f.length := by
  rcases Go.Deep.open_slice Try.underlying22 h with ⟨h1, h2⟩ | ⟨a, len, cap, m, n, D, Pl, rfl, hb, hl, hm, hmm, rfl, hx⟩
  · exact .inl ⟨h1, by rw [h2]⟩
  · right
    have c4 : Try.prog.cellsOf 39 = 4 := by kernel_rfl
    have hlm : len ≤ m := by rw [hmm]; split <;> omega
    have each : ∀ i, i < len → ∃ d : Jq, W.cell? (a.add (i * 4)) = some (.int .i64 d.kind) ∧ W.cell? (a.add (i * 4 + 1)) = some d.dv ∧ W.cell? (a.add (i * 4 + 2)) = some (.int .i64 d.n) ∧ W.cell? (a.add (i * 4 + 3)) = some d.pv ∧ JqOk W d ∧ (d.data = [] ∨ ∃ pts e f, D i = DataW.agg pts ∧ DataW.slice e f ∈ pts ∧ d.data.length ≤ e.length + f.length) := by
      intro i hi
      obtain ⟨cs', h1, h2⟩ := hx i (by omega)
      rw [c4] at h1
      obtain ⟨_, hlen, hcell⟩ := World.cells?_some h1
      obtain ⟨d, rfl, hok⟩ := one_jdeedL h2
      have e0 := hcell 0 (by omega)
      have e1 := hcell 1 (by omega)
      have e2 := hcell 2 (by omega)
      have e3 := hcell 3 (by omega)
      rw [Go.Deep.add_add] at e0 e1 e2 e3
      exact ⟨d, by simpa using e0, by simpa using e1, by simpa using e2, by simpa using e3, hok⟩
    have hinh : Inhabited Jq := ⟨⟨0, .slice none 0 0, [], 0, .slice none 0 0, []⟩⟩
    obtain ⟨f, hf⟩ := Go.Deep.choose_lt (α := Jq) each
    refine ⟨a, len, cap, (List.range len).map f, _, _, rfl, by simp, ?_, rfl, by simp, ?_⟩
    · refine ⟨some a, cap, by simp, by simpa using hl, hm, ?_⟩
      by_cases h0 : len = 0
      · left; rw [h0]; rfl
      · right
        obtain ⟨b, off, spot⟩ := a
        have hspot : spot = none := by simpa [Addr.add] using World.cell?_spot (hf 0 (by omega)).1
        subst hspot
        refine ⟨b, off, rfl, fun i x hi => ?_⟩
        have hil : i < len := by have := (List.getElem?_eq_some_iff.1 hi).1; simpa using this
        have hg : x = f i := by simp [hil] at hi; exact hi.symm
        subst hg
        obtain ⟨c0, c1, c2, c3, hok, _⟩ := hf i hil
        rw [Addr.add_lit] at c0 c1 c2 c3
        exact ⟨⟨c0, by rw [Nat.add_assoc]; exact c1, by rw [Nat.add_assoc]; exact c2, by rw [Nat.add_assoc]; exact c3⟩, hok⟩
    · intro y hy
      obtain ⟨i, hi, rfl⟩ := List.mem_map.1 hy
      have hil : i < len := by simpa using hi
      obtain ⟨_, _, _, _, _, hd⟩ := hf i hil
      rcases hd with e | ⟨pts, e, g, h1, h2, h3⟩
      · exact .inl e
      · exact .inr ⟨pts, e, g, List.mem_map.2 ⟨i, hi, h1⟩, h2, h3⟩
end
end Go.Proofs.Ytaacidgihhcpkaa
