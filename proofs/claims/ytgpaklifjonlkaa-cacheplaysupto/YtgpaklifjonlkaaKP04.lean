import Derived.Test.YtgpaklifjonlkaaKP03
import Derived.Deep.Slices
import Derived.ChangeSame
import Derived.SizedLaws
/-
  A block that came in as one struct can be read.
-/
namespace Go.Proofs.Ytgpaklifjonlkaa
open Go.RowKit Pl Go.ChangeShapes Go.WideShapes
set_option linter.unusedVariables false

theorem len2B {α : Type} {l : List α} (h : l.length = 2) : ∃ a b, l = [a, b] := by
  match l, h with
  | [a, b], _ => exact ⟨a, b, rfl⟩

section
variable {H : Type} {enc : TypeId × Value → H} {W : World} {base : Nat} {spare : Nat → Bool} {held : Bool}
theorem block_open {fuel : Nat} {cs : List Value} {x : DataW H × List MemPlace} (h : DataW.trod enc Try.prog W base spare held fuel 40 cs = some x) :
    ∃ (k : Int) (u1 : Value) (y0 y1 : DataW H × List MemPlace) (m : Nat), cs = [.int .i64 k, u1] ∧ DataW.trod enc Try.prog W base spare held m 38 [u1] = some y1 ∧ x.1 = .agg [y0.1, y1.1] := by
  obtain ⟨xs, n, _, hx, hl, hxl, hf⟩ := DataW.trod_struct Try.underlying40 h
  have hl2 : cs.length = 2 := by rw [hl]; kernel_rfl
  have hx2 : xs.length = 2 := by rw [hxl]; rfl
  clear hl hxl
  obtain ⟨y0, y1, rfl⟩ := len2B hx2
  obtain ⟨v0, v1, rfl⟩ := len2B hl2
  have k0 : Try.prog.cellsOf 3 = 1 := by kernel_rfl
  have k1 : Try.prog.cellsOf 38 = 1 := by kernel_rfl
  have g0 : DataW.trod enc Try.prog W base spare held n 3 (([v0, v1].drop 0).take (Try.prog.cellsOf 3)) = some y0 := hf 0 _ rfl
  have g1 : DataW.trod enc Try.prog W base spare held n 38 (([v0, v1].drop 1).take (Try.prog.cellsOf 38)) = some y1 := hf 1 _ rfl
  rw [k0] at g0
  rw [k1] at g1
  obtain ⟨n1, e1, _, _⟩ := DataW.trod_int Try.underlying3 g0
  cases e1
  exact ⟨n1, v1, y0, y1, n, rfl, g1, by rw [hx]; rfl⟩

/-- How great its body may be. -/
theorem block_sized {ts : List TypeId} {ds : List (DataW H)} (h : (DataW.weightsEach Try.prog ts ds).all (· ≤ reachBytes) = true) {j : Nat} {y0 : DataW H} {elems spare : List (DataW H)} (ht : ts[j]? = some 40) (hd : ds[j]? = some (.agg [y0, .slice elems spare])) :
    elems.length + spare.length ≤ reachBytes := by
  have hb : Try.prog.bytesOf 5 = 1 := by kernel_rfl
  have := List.all_eq_true.1 h _ (DataW.weights_mem_each ht hd ((elems.length + spare.length) * Try.prog.bytesOf 5) (by simp [DataW.weights, DataW.weightsEach, Try.underlying40, Try.underlying38]))
  rw [hb, Nat.mul_one] at this
  simpa using this
end
end Go.Proofs.Ytgpaklifjonlkaa
/-
  Deeds of layer 13 in memory, and how long their bodies are.
-/
namespace Go.Proofs.Ytgpaklifjonlkaa
open Go.RowKit Go.ChangeShapes Go.WideShapes
set_option linter.unusedVariables false

/-- A deed: its kind, a number, a block, its picks. -/
structure Kq where
  kind : Int
  n : Int
  bk : Int
  bv : Value
  body : List Int
  pv : Value
  ps : List Int
structure KqOk (w : World) (x : Kq) : Prop where
  wk : (Lit.int .i64 x.kind).wf = true
  wn : (Lit.int .i64 x.n).wf = true
  rd : Rd .u8 w x.bv x.body
  by_ : By x.body
  rp : Rd .i64 w x.pv x.ps
structure KqC (w : World) (b o : Nat) (x : Kq) : Prop where
  c0 : w.cell? ⟨b, o, none⟩ = some (.int .i64 x.kind)
  c1 : w.cell? ⟨b, o + 1, none⟩ = some (.int .i64 x.n)
  c2 : w.cell? ⟨b, o + 2, none⟩ = some (.int .i64 x.bk)
  c3 : w.cell? ⟨b, o + 3, none⟩ = some x.bv
  c4 : w.cell? ⟨b, o + 4, none⟩ = some x.pv
def RdK (w : World) (v : Value) (xs : List Kq) : Prop :=
  ∃ a cap, v = .slice a xs.length cap ∧ xs.length ≤ cap ∧ cap ≤ maxLen ∧ (xs = [] ∨ ∃ b o, a = some ⟨b, o, none⟩ ∧ ∀ i x, xs[i]? = some x → KqC w b (o + i * 5) x ∧ KqOk w x)
theorem RdK.at_ {w wr : World} {a : Option Addr} {n cap : Nat} {xs : List Kq} (h : RdK w (.slice a n cap) xs) (hb : Below w.heap.size w wr) {k : Nat} {x : Kq} (hk : xs[k]? = some x) : ∃ b o, a = some ⟨b, o, none⟩ ∧ KqC wr b (o + k * 5) x ∧ KqOk w x := by
  obtain ⟨a', cap', e, _, _, hc⟩ := h
  cases e
  rcases hc with e | ⟨b, o, rfl, hc⟩
  · rw [e] at hk; simp at hk
  · obtain ⟨c, r⟩ := hc k x hk
    have ht := Tch.of_below (S := fun _ => False) hb
    have hl := World.block_lt_of_cell? w ⟨b, o + k * 5, none⟩ c.c0
    exact ⟨b, o, rfl, ⟨by rw [ht.cell (p := ⟨b, o + k * 5, none⟩) hl (fun e => e)]; exact c.c0, by rw [ht.cell (p := ⟨b, o + k * 5 + 1, none⟩) hl (fun e => e)]; exact c.c1, by rw [ht.cell (p := ⟨b, o + k * 5 + 2, none⟩) hl (fun e => e)]; exact c.c2, by rw [ht.cell (p := ⟨b, o + k * 5 + 3, none⟩) hl (fun e => e)]; exact c.c3, by rw [ht.cell (p := ⟨b, o + k * 5 + 4, none⟩) hl (fun e => e)]; exact c.c4⟩, r⟩

theorem len4D {α : Type} {l : List α} (h : l.length = 4) : ∃ a b c d, l = [a, b, c, d] := by
  match l, h with
  | [a, b, c, d], _ => exact ⟨a, b, c, d, rfl⟩
theorem len5D {α : Type} {l : List α} (h : l.length = 5) : ∃ a b c d e, l = [a, b, c, d, e] := by
  match l, h with
  | [a, b, c, d, e], _ => exact ⟨a, b, c, d, e, rfl⟩

section
variable {H : Type} {enc : TypeId × Value → H} {W : World} {base : Nat} {spare : Nat → Bool} {held : Bool}

theorem one_rowK {fuel : Nat} {cs : List Value} {x : DataW H × List MemPlace} (h : DataW.trod enc Try.prog W base spare held fuel 38 cs = some x) :
    ∃ (u : Value) (ys : List Int), cs = [u] ∧ Rd .u8 W u ys ∧ By ys ∧ (ys = [] ∨ ∃ es fs, x.1 = .slice es fs ∧ ys.length ≤ es.length + fs.length) := by
  rcases open_ints Try.underlying38 Try.underlying5 (by kernel_rfl) h with ⟨hcs, _⟩ | ⟨a, l, c, zs, hcs, _, hl', hm, hz, hxx, hcell, hwz⟩
  · exact ⟨.slice none 0 0, [], hcs, ⟨none, 0, rfl, Nat.le_refl _, by unfold maxLen; omega, fun _ => rfl, .inl rfl⟩, by_of_memB (by simp), .inl rfl⟩
  · have hlz : l ≤ zs.length := by rw [hz]; split <;> omega
    have e : (zs.take l).length = l := by rw [List.length_take]; omega
    refine ⟨.slice (some a) l c, zs.take l, hcs, ⟨some a, c, by rw [e], by rw [e]; exact hl', hm, (fun e => by cases e), ?_⟩, by_of_wf (fun n hn => hwz n (List.mem_of_mem_take hn)), .inr ⟨lits .u8 (zs.take l), lits .u8 (zs.drop l), by rw [hxx], ?_⟩⟩
    · by_cases h0 : l = 0
      · left; rw [h0]; rfl
      · right
        obtain ⟨b, off, spot⟩ := a
        have hc := hcell 0 (by omega)
        have hspot : spot = none := by simpa [Addr.add] using World.cell?_spot hc
        subst hspot
        refine ⟨b, off, rfl, fun i hi0 => ?_⟩
        have hi : i < l := by have h2 : i < (zs.take l).length := hi0; rw [e] at h2; exact h2
        have := hcell i (by omega)
        rw [Addr.add_lit] at this
        rw [this, List.getD_eq_getElem?_getD, List.getD_eq_getElem?_getD, List.getElem?_take, if_pos (by omega)]
    · simp only [lits, List.length_map]; omega

theorem one_intsK {fuel : Nat} {cs : List Value} {x : DataW H × List MemPlace} (h : DataW.trod enc Try.prog W base spare held fuel 41 cs = some x) : ∃ (u : Value) (ys : List Int), cs = [u] ∧ Rd .i64 W u ys := by
  rcases open_ints Try.underlying41 Try.underlying3 (by kernel_rfl) h with ⟨hcs, _⟩ | ⟨a, l, c, zs, hcs, _, hl', hm, hz, hxx, hcell, hwz⟩
  · exact ⟨.slice none 0 0, [], hcs, none, 0, rfl, Nat.le_refl _, by unfold maxLen; omega, fun _ => rfl, .inl rfl⟩
  · have hlz : l ≤ zs.length := by rw [hz]; split <;> omega
    have e : (zs.take l).length = l := by rw [List.length_take]; omega
    refine ⟨.slice (some a) l c, zs.take l, hcs, some a, c, by rw [e], by rw [e]; exact hl', hm, (fun e => by cases e), ?_⟩
    by_cases h0 : l = 0
    · left; rw [h0]; rfl
    · right
      obtain ⟨b, off, spot⟩ := a
      have hc := hcell 0 (by omega)
      have hspot : spot = none := by simpa [Addr.add] using World.cell?_spot hc
      subst hspot
      refine ⟨b, off, rfl, fun i hi0 => ?_⟩
      have hi : i < l := by have h2 : i < (zs.take l).length := hi0; rw [e] at h2; exact h2
      have := hcell i (by omega)
      rw [Addr.add_lit] at this
      rw [this, List.getD_eq_getElem?_getD, List.getD_eq_getElem?_getD, List.getElem?_take, if_pos (by omega)]

/-- How long a deed's body may be, by what was handed in. -/
def Bulky (x : DataW H) (d : Kq) : Prop := d.body = [] ∨ ∃ pts qts e f, x = DataW.agg pts ∧ DataW.agg qts ∈ pts ∧ DataW.slice e f ∈ qts ∧ d.body.length ≤ e.length + f.length

theorem one_kdeed {fuel : Nat} {cs : List Value} {x : DataW H × List MemPlace} (h : DataW.trod enc Try.prog W base spare held fuel 43 cs = some x) :
    ∃ d : Kq, cs = [.int .i64 d.kind, .int .i64 d.n, .int .i64 d.bk, d.bv, d.pv] ∧ KqOk W d ∧ Bulky x.1 d := by
  obtain ⟨xs, n, _, hx, hl, hxl, hf⟩ := DataW.trod_struct Try.underlying43 h
  have hl6 : cs.length = 5 := by rw [hl]; kernel_rfl
  have hx6 : xs.length = 4 := by rw [hxl]; rfl
  clear hl hxl
  obtain ⟨y0, y1, y2, y3, rfl⟩ := len4D hx6
  obtain ⟨v0, v1, v2, v3, v4, rfl⟩ := len5D hl6
  have k1 : Try.prog.cellsOf 3 = 1 := by kernel_rfl
  have k2 : Try.prog.cellsOf 40 = 2 := by kernel_rfl
  have k4 : Try.prog.cellsOf 41 = 1 := by kernel_rfl
  have g0 : DataW.trod enc Try.prog W base spare held n 3 (([v0, v1, v2, v3, v4].drop 0).take (Try.prog.cellsOf 3)) = some y0 := hf 0 _ rfl
  have g1 : DataW.trod enc Try.prog W base spare held n 3 (([v0, v1, v2, v3, v4].drop 1).take (Try.prog.cellsOf 3)) = some y1 := hf 1 _ rfl
  have g2 : DataW.trod enc Try.prog W base spare held n 40 (([v0, v1, v2, v3, v4].drop 2).take (Try.prog.cellsOf 40)) = some y2 := hf 2 _ rfl
  have g3 : DataW.trod enc Try.prog W base spare held n 41 (([v0, v1, v2, v3, v4].drop 4).take (Try.prog.cellsOf 41)) = some y3 := hf 3 _ rfl
  rw [k1] at g0 g1
  rw [k2] at g2
  rw [k4] at g3
  obtain ⟨n0, e0, _, w0⟩ := DataW.trod_int Try.underlying3 g0
  obtain ⟨n1, e1, _, w1⟩ := DataW.trod_int Try.underlying3 g1
  obtain ⟨kb, ub, z0, z1, mm, e2, hb, hz⟩ := block_open g2
  obtain ⟨u2, zz2, e4, r2, b2, l2⟩ := one_rowK hb
  obtain ⟨u3, z3, e3, r3⟩ := one_intsK g3
  simp only [List.drop_succ_cons, List.drop_zero, List.take_succ_cons, List.take_zero, List.cons.injEq, and_true] at e2 e3 e4
  obtain ⟨e2, e5⟩ := e2
  subst e2 e3 e4 e5
  cases e0
  cases e1
  refine ⟨⟨n0, n1, kb, v3, zz2, v4, z3⟩, rfl, ⟨w0, w1, r2, b2, r3⟩, ?_⟩
  rcases l2 with e | ⟨e, f, he, hl⟩
  · exact .inl e
  · exact .inr ⟨_, _, e, f, by rw [hx], by simp only [List.map_cons, List.mem_cons]; exact .inr (.inr (.inl hz.symm)), by rw [← he]; simp, hl⟩

theorem kdeeds_long {fuel : Nat} {cs : List Value} {x : DataW H × List MemPlace} (h : DataW.trod enc Try.prog W base spare held fuel 22 cs = some x) :
    (cs = [.slice none 0 0] ∧ x.1 = .nil) ∨ ∃ (a : Addr) (len cap : Nat) (ps : List Kq) (es fs : List (DataW H)), cs = [.slice (some a) len cap] ∧ ps.length = len ∧ RdK W (.slice (some a) len cap) ps ∧ x.1 = .slice es fs ∧ es.length = len ∧ ∀ y ∈ ps, y.body = [] ∨ ∃ pts qts e f, DataW.agg pts ∈ es ∧ DataW.agg qts ∈ pts ∧ DataW.slice e f ∈ qts ∧ y.body.length ≤ e.length + f.length := by
  rcases Go.Deep.open_slice Try.underlying22 h with ⟨h1, h2⟩ | ⟨a, len, cap, m, n, D, Pl, rfl, hb, hl, hm, hmm, rfl, hx⟩
  · exact .inl ⟨h1, by rw [h2]⟩
  · right
    have c4 : Try.prog.cellsOf 43 = 5 := by kernel_rfl
    have hlm : len ≤ m := by rw [hmm]; split <;> omega
    have each : ∀ i, i < len → ∃ d : Kq, W.cell? (a.add (i * 5)) = some (.int .i64 d.kind) ∧ W.cell? (a.add (i * 5 + 1)) = some (.int .i64 d.n) ∧ W.cell? (a.add (i * 5 + 2)) = some (.int .i64 d.bk) ∧ W.cell? (a.add (i * 5 + 3)) = some d.bv ∧ W.cell? (a.add (i * 5 + 4)) = some d.pv ∧ KqOk W d ∧ Bulky (D i) d := by
      intro i hi
      obtain ⟨cs', h1, h2⟩ := hx i (by omega)
      rw [c4] at h1
      obtain ⟨_, hlen, hcell⟩ := World.cells?_some h1
      obtain ⟨d, rfl, hok⟩ := one_kdeed h2
      have e0 := hcell 0 (by omega)
      have e1 := hcell 1 (by omega)
      have e2 := hcell 2 (by omega)
      have e3 := hcell 3 (by omega)
      have e4 := hcell 4 (by omega)
      rw [Go.Deep.add_add] at e0 e1 e2 e3 e4
      exact ⟨d, by simpa using e0, by simpa using e1, by simpa using e2, by simpa using e3, by simpa using e4, hok⟩
    have hinh : Inhabited Kq := ⟨⟨0, 0, 0, .slice none 0 0, [], .slice none 0 0, []⟩⟩
    obtain ⟨f, hf⟩ := Go.Deep.choose_lt (α := Kq) each
    refine ⟨a, len, cap, (List.range len).map f, _, _, rfl, by simp, ?_, rfl, by simp, ?_⟩
    · refine ⟨some a, cap, by simp, by simpa using hl, hm, ?_⟩
      by_cases h0 : len = 0
      · left; rw [h0]; rfl
      · right
        obtain ⟨b, off, spot⟩ := a
        have hspot : spot = none := by simpa [Addr.add] using World.cell?_spot (hf 0 (by omega)).1
        subst hspot
        refine ⟨b, off, rfl, fun i x hi => ?_⟩
        have hil : i < len := by have := (List.getElem?_eq_some_iff.1 hi).1; simpa using this
        have hg : x = f i := by simp [hil] at hi; exact hi.symm
        subst hg
        obtain ⟨c0, c1, c2, c3, c4, hok, _⟩ := hf i hil
        rw [Addr.add_lit] at c0 c1 c2 c3 c4
        exact ⟨⟨c0, by rw [Nat.add_assoc]; exact c1, by rw [Nat.add_assoc]; exact c2, by rw [Nat.add_assoc]; exact c3, by rw [Nat.add_assoc]; exact c4⟩, hok⟩
    · intro y hy
      obtain ⟨i, hi, rfl⟩ := List.mem_map.1 hy
      have hil : i < len := by simpa using hi
      obtain ⟨_, _, _, _, _, _, hd⟩ := hf i hil
      rcases hd with e | ⟨pts, qts, e, g, h1, h2, h3, h4⟩
      · exact .inl e
      · exact .inr ⟨pts, qts, e, g, List.mem_map.2 ⟨i, hi, h1⟩, h2, h3, h4⟩
theorem kdeeds_open {fuel : Nat} {cs : List Value} {x : DataW H × List MemPlace} (h : DataW.trod enc Try.prog W base spare held fuel 22 cs = some x) :
    (cs = [.slice none 0 0] ∧ x.1 = .nil) ∨ ∃ (a : Addr) (len cap : Nat) (ps : List Kq) (es fs : List (DataW H)), cs = [.slice (some a) len cap] ∧ ps.length = len ∧ RdK W (.slice (some a) len cap) ps ∧ x.1 = .slice es fs ∧ es.length = len := by
  rcases kdeeds_long h with h | ⟨a, l, c, ps, es, fs, h1, h2, h3, h4, h5, _⟩
  · exact .inl h
  · exact .inr ⟨a, l, c, ps, es, fs, h1, h2, h3, h4, h5⟩
end
end Go.Proofs.Ytgpaklifjonlkaa
