/-
  The document's examples hold.
-/
import Derived.Test.YtghokdmfhifgjaaMFind2
import Derived.Test.YtghokdmfhifgjaaMRun
import Derived.Lib.SlBytesConst
import Derived.Laws.BytesArg
namespace Go.Proofs.Ytghokdmfhifgjaa
open Go.RowKit Pl
set_option linter.unusedVariables false

def exB : List Int := [97, 98, 99, 100, 97, 98, 99, 100, 97, 98, 99, 100]
def exC : List Int := [97, 98, 99, 100, 120]
theorem ex_find : findR exB 100 = (0, [(4, 8, 4)]) := by decide +kernel
theorem ex_run : runR exC [(4, 8, 4)] 99 = (0, [97, 98, 99, 100, 97, 98, 99, 100, 97, 98, 99, 100, 120]) := by decide +kernel

/-- A literal's row, marked behind its last cell. -/
theorem rd_lit (w : World) (xs : List Int) (fz : Nat × Nat) (hm : xs.length ≤ maxLen) : Rd .u8 (w.alloc (.cells (xs.map (Value.int .u8)).toArray 5 fz)) (.slice (some ⟨w.heap.size, 0, none⟩) xs.length xs.length) xs := by
  refine ⟨_, xs.length, rfl, Nat.le_refl _, hm, fun e => (by cases e), .inr ⟨w.heap.size, 0, rfl, fun i hi => ?_⟩⟩
  have h : (w.alloc (.cells (xs.map (Value.int .u8)).toArray 5 fz)).heap[w.heap.size]? = some (.cells (xs.map (Value.int .u8)).toArray 5 fz) := heap_alloc_new w _
  rw [Nat.zero_add, cell_of_row _ _ i _ _ fz h]
  simp [List.getD_eq_getElem?_getD, hi]

theorem rdB (w : World) : Rd .u8 (w.alloc (.cells #[.int .u8 97, .int .u8 98, .int .u8 99, .int .u8 100, .int .u8 97, .int .u8 98, .int .u8 99, .int .u8 100, .int .u8 97, .int .u8 98, .int .u8 99, .int .u8 100] 5 (12, 13))) (.slice (some ⟨w.heap.size, 0, none⟩) 12 12) exB := rd_lit w exB (12, 13) (by unfold maxLen; decide)
theorem rdC (w : World) : Rd .u8 (w.alloc (.cells #[.int .u8 97, .int .u8 98, .int .u8 99, .int .u8 100, .int .u8 120] 5 (5, 6))) (.slice (some ⟨w.heap.size, 0, none⟩) 5 5) exC := rd_lit w exC (5, 6) (by unfold maxLen; decide)
theorem ownSq (w : World) (a b c : Int) : OwnsS (w.alloc (.cells #[.int .i64 a, .int .i64 b, .int .i64 c] 37)) (.slice (some ⟨w.heap.size, 0, none⟩) 1 1) [(a, b, c)] :=
  World.ownsRow_lit w #[.int .i64 a, .int .i64 b, .int .i64 c] 1 (Nat.zero_le _) (by unfold maxLen; omega) rfl
theorem byB : By exB := fun i => by
  match i with
  | 0 => decide | 1 => decide | 2 => decide | 3 => decide | 4 => decide | 5 => decide | 6 => decide | 7 => decide | 8 => decide | 9 => decide | 10 => decide | 11 => decide
  | n + 12 => simp [exB]

set_option maxRecDepth 100000 in
set_option maxHeartbeats 2000000 in
theorem lives_any (w : World) : Calls Try.prog 12 #[] w fun e w' => e = .returned (.bool true) ∧ Below w.heap.size w w' := by
  have kc := fun (w : World) (C : Array Value) (n c : Nat) => Lib.run_convert_bytes_const (P := Try.prog) w 22 5 C n c Try.underlying22 Try.underlying5
  go_enter Try.func12, Try.ntmps12
  go_wp2_with fail
  refine (find_any _ exB 100 _ (rdB w) byB).mono ?_
  intro e w1 h
  rw [ex_find] at h
  obtain ⟨d1, rfl, b1, f1, o1⟩ := h
  have B1 : Hid (Below w.heap.size w w1) := ((Below.refl _ w).alloc (Nat.le_refl _) _).trans (b1.mono (by simp))
  have O1 : Hid (OwnsS w1 d1 [(4, 8, 4)]) := o1
  clear b1 f1 o1
  go_wp2_with fail
  have h12 : Below w1.heap.size w1 ((w1.alloc (.cells #[.int .u8 97, .int .u8 98, .int .u8 99, .int .u8 100, .int .u8 120] 5 (5, 6))).alloc (.cells #[.int .i64 4, .int .i64 8, .int .i64 4] 37)) := ((Below.refl _ w1).alloc (Nat.le_refl _) _).alloc (by simp) _
  have r1 : Rd .u8 ((w1.alloc (.cells #[.int .u8 97, .int .u8 98, .int .u8 99, .int .u8 100, .int .u8 120] 5 (5, 6))).alloc (.cells #[.int .i64 4, .int .i64 8, .int .i64 4] 37)) (.slice (some ⟨w1.heap.size, 0, none⟩) 5 5) exC := (rdC w1).below ((Below.refl _ _).alloc (Nat.le_refl _) _)
  have r2 := (ownSq (w1.alloc (.cells #[.int .u8 97, .int .u8 98, .int .u8 99, .int .u8 100, .int .u8 120] 5 (5, 6))) 4 8 4).rd
  rw [World.size_alloc] at r2
  refine (run_any _ _ exC [(4, 8, 4)] 99 _ r1 (by decide) r2 (by decide)).mono ?_
  intro e w2 h
  rw [ex_run] at h
  obtain ⟨d2, rfl, b2, f2, o2⟩ := h
  have B12 : Below w1.heap.size w1 w2 := h12.trans (b2.mono h12.size)
  have B2 : Hid (Below w.heap.size w w2) := B1.out.trans (B12.mono B1.out.size)
  have o1 := O1.out.below B12
  obtain ⟨a1, c1, e1, _, _, q1⟩ := o1.rd
  rcases q1 with q1 | ⟨bb, oo, rfl, q1⟩
  · cases q1
  subst e1
  obtain ⟨p0, p1, p2⟩ := q1 0 (by decide)
  obtain ⟨s2, c2, rfl, _, _, _, q2, _⟩ := o2.shape (by decide)
  have kd := run_convert_bytes_arg (P := Try.prog) w2 22 5 Try.underlying22 Try.underlying5 s2 0 13 c2 [97, 98, 99, 100, 97, 98, 99, 100, 97, 98, 99, 100, 120] rfl (fun i hi => by rw [Nat.zero_add]; exact q2 i hi) 9 Try.underlying9
  have ks : strOfNums [97, 98, 99, 100, 97, 98, 99, 100, 97, 98, 99, 100, 120] = ⟨#[97, 98, 99, 100, 97, 98, 99, 100, 97, 98, 99, 100, 120]⟩ := by decide +kernel
  rw [ks] at kd
  simp only [List.getD_cons_zero, List.length_cons, List.length_nil, Nat.zero_add, Nat.reduceAdd, Nat.zero_mul, Nat.add_zero] at p0 p1 p2 ⊢
  clear b2 f2 o2 h12 r1 r2 B1 O1 q1 q2 o1 B12 ks kc
  go_wp2_with fail
  go_ret
  exact ⟨rfl, B2.out⟩
end Go.Proofs.Ytghokdmfhifgjaa
