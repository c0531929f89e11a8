/-
  What is taken of bytes from the end: the backward reader, and the document's own.
-/
import Derived.Test.YtcmnhgefeffcpaaRdN
import Derived.Test.YtcmnhgefeffcpaaWrF
import Derived.Test.YtcmnhgefeffcpaaTkP
import Derived.Test.YtcmnhgefeffcpaaLen8
namespace Go.Proofs.Ytcmnhgefeffcpaa
open Go.RowKit Pl
set_option linter.unusedVariables false

theorem bitLen_fin : ∀ n : Fin 256, n.val ≠ 0 → 1 ≤ Lib.bitLen n.val ∧ Lib.bitLen n.val ≤ 8 ∧ n.val / 2 ^ (Lib.bitLen n.val - 1) % 2 = 1 ∧ ∀ j : Fin 8, Lib.bitLen n.val ≤ j.val → n.val / 2 ^ j.val % 2 = 0 := by decide +kernel

/-- Where the mark stands, if the last byte is y. -/
def markAt (ys : List Int) : Nat := 8 * (ys.length - 1) + (Lib.bitLen (ys.getD (ys.length - 1) 0).toNat - 1)

/-- There is a mark. -/
def HasMark (ys : List Int) : Prop := 0 < ys.length ∧ ys.getD (ys.length - 1) 0 ≠ 0

theorem mark_lt {ys : List Int} (hy : By ys) (h : HasMark ys) : markAt ys < 8 * ys.length ∧ (unpack ys).getD (markAt ys) 0 = 1 ∧ ∀ p, markAt ys < p → p < 8 * ys.length → (unpack ys).getD p 0 = 0 := by
  obtain ⟨hl, hne⟩ := h
  have hb := hy (ys.length - 1)
  obtain ⟨y, hye⟩ : ∃ y : Nat, ys.getD (ys.length - 1) 0 = (y : Int) := Int.eq_ofNat_of_zero_le hb.1
  obtain ⟨h1, h2, h3, h4⟩ := bitLen_fin ⟨y, by omega⟩ (by simp; omega)
  simp only at h1 h2 h3 h4
  have em : markAt ys = 8 * (ys.length - 1) + (Lib.bitLen y - 1) := by unfold markAt; rw [hye]; rfl
  rw [em]
  refine ⟨by omega, ?_, fun p hp hpl => ?_⟩
  · rw [unpack_getD, show (8 * (ys.length - 1) + (Lib.bitLen y - 1)) / 8 = ys.length - 1 by omega, show (8 * (ys.length - 1) + (Lib.bitLen y - 1)) % 8 = Lib.bitLen y - 1 by omega, hye]
    exact_mod_cast h3
  · rw [unpack_getD, show p / 8 = ys.length - 1 by omega, hye]
    have := h4 ⟨p % 8, by omega⟩ (by simp only; omega)
    simp only at this
    exact_mod_cast this

/-- A backward reader at block b: its row rv holds the bytes ys, p bits are left. -/
structure Bk (w : World) (b : Nat) (rv : Value) (ys : List Int) (p : Nat) : Prop where
  blk : w.heap[b]? = some (.cells #[rv, .int .i64 p] 105 (0, 0))
  own : Owns .u8 5 w rv ys
  bys : By ys
  le : p ≤ 8 * ys.length
  small : ys.length ≤ 140737488355328

theorem Bk.c0 {w : World} {b : Nat} {rv : Value} {ys : List Int} {p : Nat} (h : Bk w b rv ys p) : w.cell? ⟨b, 0, none⟩ = some rv := by
  rw [cell_of_row w b 0 _ _ (0, 0) h.blk]; rfl
theorem Bk.c1 {w : World} {b : Nat} {rv : Value} {ys : List Int} {p : Nat} (h : Bk w b rv ys p) : w.cell? ⟨b, 1, none⟩ = some (.int .i64 p) := by
  rw [cell_of_row w b 1 _ _ (0, 0) h.blk]; rfl
theorem Bk.fz {w : World} {b : Nat} {rv : Value} {ys : List Int} {p : Nat} (h : Bk w b rv ys p) (j : Nat) : w.frozen? ⟨b, j, none⟩ = false := frozen_of_row w b j _ _ h.blk
theorem Bk.lt {w : World} {b : Nat} {rv : Value} {ys : List Int} {p : Nat} (h : Bk w b rv ys p) : b < w.heap.size := (Array.getElem?_eq_some_iff.1 h.blk).1
theorem Bk.shape {w : World} {b : Nat} {rv : Value} {ys : List Int} {p : Nat} (h : Bk w b rv ys p) : ∃ a cap, rv = .slice a ys.length cap := by
  obtain ⟨a, cap, e, _⟩ := h.own.rd
  exact ⟨a, cap, e⟩
theorem Bk.tch {S : Nat → Prop} {w w' : World} {b : Nat} {rv : Value} {ys : List Int} {p : Nat} (h : Bk w b rv ys p) (ht : Tch S w w') (hb : ¬ S b) (hr : ∀ k, rv.ownBlock = some k → ¬ S k) : Bk w' b rv ys p :=
  ⟨by rw [ht.block b h.lt hb]; exact h.blk, h.own.tch ht hr, h.bys, h.le, h.small⟩
theorem Bk.below {w w' : World} {b : Nat} {rv : Value} {ys : List Int} {p : Nat} (h : Bk w b rv ys p) (ht : Below w.heap.size w w') : Bk w' b rv ys p :=
  h.tch (S := fun _ => False) (Tch.of_below ht) (fun e => e) (fun _ _ e => e)
/-- Its own block is none of bytes. -/
theorem Bk.ne {w : World} {b : Nat} {rv : Value} {ys : List Int} {p : Nat} (h : Bk w b rv ys p) : rv.ownBlock ≠ some b := by
  intro hg
  rcases h.own.2 with ⟨rfl, _⟩ | ⟨g', cap, cur, rfl, _, hgg, _⟩
  · simp [Value.ownBlock] at hg
  · simp only [Value.ownBlock, Option.some.injEq] at hg
    subst hg
    rw [h.blk] at hgg
    simp at hgg
theorem Bk.move {w : World} {b : Nat} {rv : Value} {ys : List Int} {p : Nat} (h : Bk w b rv ys p) (q : Nat) (hq : q ≤ 8 * ys.length) : Bk (w.setCell ⟨b, 1, none⟩ (.int .i64 q)) b rv ys q := by
  refine ⟨?_, h.own.tch (S := fun k => k = b) ((Tch.refl (fun k => k = b) w).setCell (p := ⟨b, 1, none⟩) (fun _ => rfl) _) (fun j hj e => h.ne (by rw [hj, e])), h.bys, hq, h.small⟩
  rw [heap_setCell_same w b 1 _ _ (.int .i64 q) h.blk]
  simp


set_option maxHeartbeats 1000000 in
theorem backTake_any (b : Nat) (rv : Value) (ys : List Int) (p : Nat) (n : Int) (w : World) (h : Bk w b rv ys p) :
    Calls Try.prog 59 #[.pointer (some ⟨b, 0, none⟩), .int .i64 n] w fun e w' =>
      e = .returned (.tuple #[.int .i64 (tkV (unpack ys) p (p - tkN p n) n), .int .i64 (tkE p n)]) ∧ Bk w' b rv ys (p - tkN p n) ∧ Tch (fun k => k = b) w w' := by
  have H : Hid (Bk w b rv ys p) := h
  have hle := h.le
  have hsm := h.small
  have c0 := h.c0
  have c1 := h.c1
  have f1 := h.fz 1
  clear h
  by_cases hE : tkE p n = 0
  · obtain ⟨m, rfl, hm32, hml, eV, eN⟩ := tk_good (unpack ys) (p - tkN p n) hE
    rw [eV, eN, hE]
    have HE : Hid (tkE p m = 0) := hE
    clear eV eN hE
    have hm2 : p - m + m ≤ 8 * ys.length := by omega
    have em : ((p - m : Nat) : Int) = (p : Int) - m := by omega
    have EM : Hid (((p - m : Nat) : Int) = (p : Int) - m) := em
    have HW : ∀ q, Hid (Bk ((w.setCell ⟨b, 1, none⟩ (.int .i64 ((p : Int) - m))).drewN q) b rv ys (p - m)) := by
      intro q
      have := (H.out.move (p - m) (by omega)).tch (Tch.of_drewN (fun _ => False) _ q) (fun e => e) (fun _ _ e => e)
      rw [EM.out] at this
      exact this
    clear em
    go_enter Try.func59, Try.ntmps59
    go_wp2_with fail
    refine (mayTake_any _ p _).mono ?_
    rintro e w2 ⟨rfl, rfl⟩
    rw [HE.out]
    go_wp2_with fail
    have c0' : (w2.setCell ⟨b, 1, none⟩ (.int .i64 ((p : Int) - m))).cell? ⟨b, 0, none⟩ = some rv := by simpa using (HW 0).out.c0
    go_quiet ((go_at_call 71; rw [← EM.out]; exact Calls.quiet_of_same (number_rd rv (p - m) m ys _ (by rw [EM.out]; exact (HW _).out.own.rd) H.out.bys (by omega) hm2 hm32)))
    go_wp2_with fail
    go_ret2
    refine ⟨rfl, (HW _).out, ?_⟩
    exact (Tch.setCell (Tch.refl (fun k => k = b) w2) (p := ⟨b, 1, none⟩) (fun _ => rfl) _).trans (S' := fun k => k = b) (Tch.of_drewN _ _ _) (fun _ _ e => e)
  · obtain ⟨e1, e2⟩ := tk_bad (unpack ys) (p - tkN p n) hE
    rw [e1, e2]
    obtain ⟨E, hEE⟩ : ∃ E, tkE p n = E := ⟨_, rfl⟩
    rw [hEE] at hE ⊢
    have HE : Hid (tkE p n = E) := hEE
    have hne : (E != 0) = true := by simpa using hE
    clear e1 e2 hE hEE
    go_enter Try.func59, Try.ntmps59
    go_wp2_with fail
    refine (mayTake_any _ p _).mono ?_
    rintro e w2 ⟨rfl, rfl⟩
    rw [HE.out]
    go_wp2_with fail
    go_ret2
    exact ⟨rfl, H.out, Tch.refl _ _⟩
end Go.Proofs.Ytcmnhgefeffcpaa
