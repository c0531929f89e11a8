/-
  A slice of deeds that can be read.
-/
import Derived.Test.YtmohbkhdloggeaaDBy
namespace Go.Proofs.Ytmohbkhdloggeaa
open Go.RowKit Go.Maps
set_option linter.unusedVariables false
set_option linter.unusedSimpArgs false

/-- The six cells of a deed. -/
structure DCell (w : World) (b o : Nat) (x : Dd) : Prop where
  c0 : w.cell? ⟨b, o, none⟩ = some (.int .i64 x.kind)
  c1 : w.cell? ⟨b, o + 1, none⟩ = some (.int .i64 x.at_)
  c2 : w.cell? ⟨b, o + 2, none⟩ = some (.int .u8 x.fill)
  c3 : w.cell? ⟨b, o + 3, none⟩ = some (.int .u8 x.last)
  c4 : w.cell? ⟨b, o + 4, none⟩ = some (.bool x.short)
  c5 : w.cell? ⟨b, o + 5, none⟩ = some x.pv
  ok : DdOk x
  rd : Rd .i64 w x.pv x.ps

/-- The slice v reads as these deeds. -/
def RdD (w : World) (v : Value) (xs : List Dd) : Prop :=
  ∃ a cap, v = .slice a xs.length cap ∧ xs.length ≤ cap ∧ cap ≤ maxLen ∧ (xs = [] ∨ ∃ b o, a = some ⟨b, o, none⟩ ∧ ∀ i x, xs[i]? = some x → DCell w b (o + i * 6) x)

theorem DCell.below {w w' : World} {b o : Nat} {x : Dd} (h : DCell w b o x) (hb : Below w.heap.size w w') : DCell w' b o x := by
  have hl := World.block_lt_of_cell? w ⟨b, o, none⟩ h.c0
  exact {
    c0 := by rw [hb.cell (p := ⟨b, o, none⟩) hl]; exact h.c0
    c1 := by rw [hb.cell (p := ⟨b, o + 1, none⟩) hl]; exact h.c1
    c2 := by rw [hb.cell (p := ⟨b, o + 2, none⟩) hl]; exact h.c2
    c3 := by rw [hb.cell (p := ⟨b, o + 3, none⟩) hl]; exact h.c3
    c4 := by rw [hb.cell (p := ⟨b, o + 4, none⟩) hl]; exact h.c4
    c5 := by rw [hb.cell (p := ⟨b, o + 5, none⟩) hl]; exact h.c5
    ok := h.ok
    rd := h.rd.below hb }

theorem Rd.blk {k : IntKind} {w : World} {v : Value} {xs : List Int} (h : Rd k w v xs) (h0 : xs ≠ []) : ∀ j, v.ownBlock = some j → j < w.heap.size := fun j hj => by
  obtain ⟨a, cap, rfl, _, _, _, hc⟩ := h
  rcases hc with e | ⟨b, o, rfl, hc⟩
  · exact absurd e h0
  · cases hj
    exact World.block_lt_of_cell? w ⟨b, o + 0, none⟩ (hc 0 (List.length_pos_iff.2 h0))

theorem RdD.at_ {w wr : World} {a : Option Addr} {n cap : Nat} {xs : List Dd} (h : RdD w (.slice a n cap) xs) (hb : Below w.heap.size w wr) {k : Nat} (hk : k < xs.length) : ∃ b o, a = some ⟨b, o, none⟩ ∧ DCell wr b (o + k * 6) xs[k] := by
  obtain ⟨a', cap', e, _, _, hc⟩ := h
  simp only [Value.slice.injEq] at e
  obtain ⟨rfl, _, _⟩ := e
  rcases hc with e | ⟨b, o, rfl, hc⟩
  · rw [e] at hk; simp at hk
  · exact ⟨b, o, rfl, (hc k _ (List.getElem?_eq_getElem hk)).below hb⟩
end Go.Proofs.Ytmohbkhdloggeaa
