/-
  A reader of bits.
-/
import Derived.Test.YtcmnhgefeffcpaaRdN
namespace Go.Proofs.Ytcmnhgefeffcpaa
open Go.RowKit Pl
set_option linter.unusedVariables false

/-- A reader at block b: its row rv holds the bytes ys, the bit p comes next. -/
structure Rr (w : World) (b : Nat) (rv : Value) (ys : List Int) (p : Nat) : Prop where
  blk : w.heap[b]? = some (.cells #[rv, .int .i64 p] 117 (0, 0))
  own : Owns .u8 5 w rv ys
  bys : By ys
  le : p ≤ 8 * ys.length
  small : ys.length ≤ 140737488355328

theorem Rr.c0 {w : World} {b : Nat} {rv : Value} {ys : List Int} {p : Nat} (h : Rr w b rv ys p) : w.cell? ⟨b, 0, none⟩ = some rv := by
  rw [cell_of_row w b 0 _ _ (0, 0) h.blk]; rfl
theorem Rr.c1 {w : World} {b : Nat} {rv : Value} {ys : List Int} {p : Nat} (h : Rr w b rv ys p) : w.cell? ⟨b, 1, none⟩ = some (.int .i64 p) := by
  rw [cell_of_row w b 1 _ _ (0, 0) h.blk]; rfl
theorem Rr.fz {w : World} {b : Nat} {rv : Value} {ys : List Int} {p : Nat} (h : Rr w b rv ys p) (j : Nat) : w.frozen? ⟨b, j, none⟩ = false := frozen_of_row w b j _ _ h.blk
theorem Rr.lt {w : World} {b : Nat} {rv : Value} {ys : List Int} {p : Nat} (h : Rr w b rv ys p) : b < w.heap.size := (Array.getElem?_eq_some_iff.1 h.blk).1
theorem Rr.shape {w : World} {b : Nat} {rv : Value} {ys : List Int} {p : Nat} (h : Rr w b rv ys p) : ∃ a cap, rv = .slice a ys.length cap := by
  obtain ⟨a, cap, e, _⟩ := h.own.rd
  exact ⟨a, cap, e⟩
theorem Rr.tch {S : Nat → Prop} {w w' : World} {b : Nat} {rv : Value} {ys : List Int} {p : Nat} (h : Rr w b rv ys p) (ht : Tch S w w') (hb : ¬ S b) (hr : ∀ k, rv.ownBlock = some k → ¬ S k) : Rr w' b rv ys p :=
  ⟨by rw [ht.block b h.lt hb]; exact h.blk, h.own.tch ht hr, h.bys, h.le, h.small⟩
theorem Rr.below {w w' : World} {b : Nat} {rv : Value} {ys : List Int} {p : Nat} (h : Rr w b rv ys p) (ht : Below w.heap.size w w') : Rr w' b rv ys p :=
  h.tch (S := fun _ => False) (Tch.of_below ht) (fun e => e) (fun _ _ e => e)
/-- A reader's own block is none of bytes. -/
theorem Rr.ne {w : World} {b : Nat} {rv : Value} {ys : List Int} {p : Nat} (h : Rr w b rv ys p) : rv.ownBlock ≠ some b := by
  intro hg
  rcases h.own.2 with ⟨rfl, _⟩ | ⟨g', cap, cur, rfl, _, hgg, _⟩
  · simp [Value.ownBlock] at hg
  · simp only [Value.ownBlock, Option.some.injEq] at hg
    subst hg
    rw [h.blk] at hgg
    simp at hgg
theorem Rr.move {w : World} {b : Nat} {rv : Value} {ys : List Int} {p : Nat} (h : Rr w b rv ys p) (q : Nat) (hq : q ≤ 8 * ys.length) : Rr (w.setCell ⟨b, 1, none⟩ (.int .i64 q)) b rv ys q := by
  refine ⟨?_, h.own.tch (S := fun k => k = b) ((Tch.refl (fun k => k = b) w).setCell (p := ⟨b, 1, none⟩) (fun _ => rfl) _) (fun j hj e => h.ne (by rw [hj, e])), h.bys, hq, h.small⟩
  rw [heap_setCell_same w b 1 _ _ (.int .i64 q) h.blk]
  simp

set_option maxHeartbeats 400000 in
theorem left_any (b : Nat) (rv : Value) (ys : List Int) (p : Nat) (w : World) (h : Rr w b rv ys p) :
    Calls Try.prog 50 #[.pointer (some ⟨b, 0, none⟩)] w fun e w' => e = .returned (.int .i64 ((8 * ys.length - p : Nat) : Int)) ∧ ∃ n, w' = w.drewN n := by
  have c0 := h.c0
  have c1 := h.c1
  have hle := h.le
  have hsm := h.small
  obtain ⟨a, cap, rfl⟩ := h.shape
  clear h
  go_enter Try.func50, Try.ntmps50
  go_wp2
  go_quiet (fail)
  go_wp2
  go_ret
  refine ⟨?_, _, rfl⟩
  have e : ((8 * ys.length - p : Nat) : Int) = 8 * (ys.length : Int) - p := by omega
  rw [e]
  rfl

end Go.Proofs.Ytcmnhgefeffcpaa
