import Derived.Test.YtdicgaepggffbaaUH04
import Derived.Test.YtdicgaepggffbaaUH17
/-
  A slice of deeds, and of superblocks, that can be read; one of n.
-/
namespace Go.Proofs.Ytdicgaepggffbaa
open Go.RowKit Go.Maps
set_option linter.unusedVariables false
set_option linter.unusedSimpArgs false
set_option maxRecDepth 100000

/-- One of n. -/
def pk (c : Int) (n : Nat) : Nat := (if c < 0 then (-(c + 1)).toNat else c.toNat) % n
theorem pk_lt (c : Int) {n : Nat} (h : 0 < n) : pk c n < n := Nat.mod_lt _ h

theorem pick_any (c : Int) (n : Nat) (h0 : 0 < n) (hn : n < 1000000) (hc : (Lit.int .i64 c).wf = true) (w : World) :
    Calls Try.prog 19 #[.int .i64 c, .int .i64 (n : Int)] w fun e w' => e = .returned (.int .i64 (pk c n : Int)) ∧ w' = w := by
  have hw : -9223372036854775808 ≤ c ∧ c ≤ 9223372036854775807 := by simpa [Lit.wf, IntKind.min, IntKind.max, IntKind.signed, IntKind.bits] using hc
  have hb0 : ((n : Int) == 0) = false := by rw [beq_eq_false_iff_ne]; omega
  have hbm : ((n : Int) == -1) = false := by rw [beq_eq_false_iff_ne]; omega
  have hn0 : (0 : Int) < (n : Int) := by omega
  obtain ⟨h1, h2⟩ := hw
  clear hc
  by_cases h : c < 0
  · obtain ⟨x, hx⟩ : ∃ x : Nat, -(c + 1) = (x : Int) := ⟨(-(c + 1)).toNat, by omega⟩
    have HP : Hid (pk c n = x % n) := by show _ = _; unfold pk; rw [if_pos h, hx]; rfl
    have hc1 : c + 1 = -(x : Int) := by omega
    have HX : Hid ((x : Int).tmod (n : Int) = ((x % n : Nat) : Int)) := rfl
    have hm : ((x % n : Nat) : Int) < (n : Int) := by have := Nat.mod_lt x h0; omega
    have hx63 : (x : Int) ≤ 9223372036854775807 := by omega
    rw [HP.out]
    go_enter Try.func19, Try.ntmps19
    go_wp2_with fail
    go_ret
    exact ⟨by first | rfl | simp, rfl⟩
  · obtain ⟨x, hx⟩ : ∃ x : Nat, c = (x : Int) := ⟨c.toNat, by omega⟩
    subst hx
    have HP : Hid (pk (x : Int) n = x % n) := by show _ = _; unfold pk; rw [if_neg h]; rfl
    rw [HP.out]
    go_enter Try.func19, Try.ntmps19
    go_wp2_with fail
    go_ret
    exact ⟨by first | rfl | simp, rfl⟩

/-- A deed. -/
structure Ud where
  kind : Int
  su : Sp
  sv : Value
  at_ : Int
  pv : Value
  ps : List Int

structure UdOk (x : Ud) : Prop where
  k : (Lit.int .i64 x.kind).wf = true
  a : (Lit.int .i64 x.at_).wf = true

/-- The seven cells of a deed. -/
structure UdCell (w : World) (b o : Nat) (x : Ud) : Prop where
  c0 : w.cell? ⟨b, o, none⟩ = some (.int .i64 x.kind)
  c1 : w.cell? ⟨b, o + 1, none⟩ = some (.int .i64 x.su.gen)
  c2 : w.cell? ⟨b, o + 2, none⟩ = some (.int .i64 x.su.sc)
  c3 : w.cell? ⟨b, o + 3, none⟩ = some (.int .i64 x.su.nx)
  c4 : w.cell? ⟨b, o + 4, none⟩ = some x.sv
  c5 : w.cell? ⟨b, o + 5, none⟩ = some (.int .i64 x.at_)
  c6 : w.cell? ⟨b, o + 6, none⟩ = some x.pv
  ok : UdOk x
  rv : RdV w x.sv x.su.vs
  rd : Rd .i64 w x.pv x.ps

/-- The slice v reads as these deeds. -/
def RdU (w : World) (v : Value) (xs : List Ud) : Prop :=
  ∃ a cap, v = .slice a xs.length cap ∧ xs.length ≤ cap ∧ cap ≤ maxLen ∧ (xs = [] ∨ ∃ b o, a = some ⟨b, o, none⟩ ∧ ∀ i x, xs[i]? = some x → UdCell w b (o + i * 7) x)

theorem UdCell.below {w w' : World} {b o : Nat} {x : Ud} (h : UdCell w b o x) (hb : Below w.heap.size w w') : UdCell w' b o x := by
  have hl := World.block_lt_of_cell? w ⟨b, o, none⟩ h.c0
  exact {
    c0 := by rw [hb.cell (p := ⟨b, o, none⟩) hl]; exact h.c0
    c1 := by rw [hb.cell (p := ⟨b, o + 1, none⟩) hl]; exact h.c1
    c2 := by rw [hb.cell (p := ⟨b, o + 2, none⟩) hl]; exact h.c2
    c3 := by rw [hb.cell (p := ⟨b, o + 3, none⟩) hl]; exact h.c3
    c4 := by rw [hb.cell (p := ⟨b, o + 4, none⟩) hl]; exact h.c4
    c5 := by rw [hb.cell (p := ⟨b, o + 5, none⟩) hl]; exact h.c5
    c6 := by rw [hb.cell (p := ⟨b, o + 6, none⟩) hl]; exact h.c6
    ok := h.ok
    rv := h.rv.below hb
    rd := h.rd.below hb }

theorem Rd.blk {k : IntKind} {w : World} {v : Value} {xs : List Int} (h : Rd k w v xs) (h0 : xs ≠ []) : ∀ j, v.ownBlock = some j → j < w.heap.size := fun j hj => by
  obtain ⟨a, cap, rfl, _, _, _, hc⟩ := h
  rcases hc with e | ⟨b, o, rfl, hc⟩
  · exact absurd e h0
  · cases hj
    exact World.block_lt_of_cell? w ⟨b, o + 0, none⟩ (hc 0 (List.length_pos_iff.2 h0))

theorem RdU.at_ {w wr : World} {a : Option Addr} {n cap : Nat} {xs : List Ud} (h : RdU w (.slice a n cap) xs) (hb : Below w.heap.size w wr) {k : Nat} (hk : k < xs.length) : ∃ b o, a = some ⟨b, o, none⟩ ∧ UdCell wr b (o + k * 7) xs[k] ∧ UdCell w b (o + k * 7) xs[k] := by
  obtain ⟨a', cap', e, _, _, hc⟩ := h
  simp only [Value.slice.injEq] at e
  obtain ⟨rfl, _, _⟩ := e
  rcases hc with e | ⟨b, o, rfl, hc⟩
  · rw [e] at hk; simp at hk
  · exact ⟨b, o, rfl, (hc k _ (List.getElem?_eq_getElem hk)).below hb, hc k _ (List.getElem?_eq_getElem hk)⟩

/-- The four cells of a superblock. -/
structure SpCell (w : World) (b o : Nat) (x : Sp × Value) : Prop where
  c0 : w.cell? ⟨b, o, none⟩ = some (.int .i64 x.1.gen)
  c1 : w.cell? ⟨b, o + 1, none⟩ = some (.int .i64 x.1.sc)
  c2 : w.cell? ⟨b, o + 2, none⟩ = some (.int .i64 x.1.nx)
  c3 : w.cell? ⟨b, o + 3, none⟩ = some x.2
  rv : RdV w x.2 x.1.vs

/-- The slice v reads as these superblocks. -/
def RdSp (w : World) (v : Value) (xs : List (Sp × Value)) : Prop :=
  ∃ a cap, v = .slice a xs.length cap ∧ xs.length ≤ cap ∧ cap ≤ maxLen ∧ (xs = [] ∨ ∃ b o, a = some ⟨b, o, none⟩ ∧ ∀ i x, xs[i]? = some x → SpCell w b (o + i * 4) x)

theorem SpCell.below {w w' : World} {b o : Nat} {x : Sp × Value} (h : SpCell w b o x) (hb : Below w.heap.size w w') : SpCell w' b o x := by
  have hl := World.block_lt_of_cell? w ⟨b, o, none⟩ h.c0
  exact {
    c0 := by rw [hb.cell (p := ⟨b, o, none⟩) hl]; exact h.c0
    c1 := by rw [hb.cell (p := ⟨b, o + 1, none⟩) hl]; exact h.c1
    c2 := by rw [hb.cell (p := ⟨b, o + 2, none⟩) hl]; exact h.c2
    c3 := by rw [hb.cell (p := ⟨b, o + 3, none⟩) hl]; exact h.c3
    rv := h.rv.below hb }

theorem RdSp.at_ {w wr : World} {a : Option Addr} {n cap : Nat} {xs : List (Sp × Value)} (h : RdSp w (.slice a n cap) xs) (hb : Below w.heap.size w wr) {k : Nat} (hk : k < xs.length) : ∃ b o, a = some ⟨b, o, none⟩ ∧ SpCell wr b (o + k * 4) xs[k] := by
  obtain ⟨a', cap', e, _, _, hc⟩ := h
  simp only [Value.slice.injEq] at e
  obtain ⟨rfl, _, _⟩ := e
  rcases hc with e | ⟨b, o, rfl, hc⟩
  · rw [e] at hk; simp at hk
  · exact ⟨b, o, rfl, (hc k _ (List.getElem?_eq_getElem hk)).below hb⟩
end Go.Proofs.Ytdicgaepggffbaa
