/-
  The document's examples hold.
-/
import Derived.Test.YtcmnhgefeffcpaaFShare
import Derived.Test.YtcmnhgefeffcpaaFRt
namespace Go.Proofs.Ytcmnhgefeffcpaa
open Go.RowKit Pl
set_option linter.unusedVariables false

theorem ex_share : shR [3, 1, 0, 4] 5 = (0, [12, 4, 0, 16]) := by decide +kernel
theorem ex_encF : encR [32] 5 [0, 0, 0] = (0, [32]) := by decide +kernel
theorem ex_dec : decR [32] 5 [32] 3 = (0, [0, 0, 0]) := by decide +kernel

theorem rd4 (w : World) (a b c d : Int) : Rd .i64 (w.alloc (.cells #[.int .i64 a, .int .i64 b, .int .i64 c, .int .i64 d] 3)) (.slice (some ⟨w.heap.size, 0, none⟩) 4 4) [a, b, c, d] :=
  rd_of_owns (e := 3) (World.ownsRow_lit w #[.int .i64 a, .int .i64 b, .int .i64 c, .int .i64 d] 4 (Nat.zero_le _) (by unfold maxLen; omega) rfl)
theorem rd3 (w : World) (a b c : Int) : Rd .i64 (w.alloc (.cells #[.int .i64 a, .int .i64 b, .int .i64 c] 3)) (.slice (some ⟨w.heap.size, 0, none⟩) 3 3) [a, b, c] :=
  rd_of_owns (e := 3) (World.ownsRow_lit w #[.int .i64 a, .int .i64 b, .int .i64 c] 3 (Nat.zero_le _) (by unfold maxLen; omega) rfl)
theorem rd1 (w : World) (a : Int) : Rd .i64 (w.alloc (.cells #[.int .i64 a] 3)) (.slice (some ⟨w.heap.size, 0, none⟩) 1 1) [a] :=
  rd_of_owns (e := 3) (World.ownsRow_lit w #[.int .i64 a] 1 (Nat.zero_le _) (by unfold maxLen; omega) rfl)
theorem rd1b (w : World) (a : Int) : Rd .u8 (w.alloc (.cells #[.int .u8 a] 5)) (.slice (some ⟨w.heap.size, 0, none⟩) 1 1) [a] :=
  rd_of_owns (e := 5) (World.ownsRow_lit w #[.int .u8 a] 1 (Nat.zero_le _) (by unfold maxLen; omega) rfl)

set_option maxRecDepth 100000 in
set_option maxHeartbeats 2000000 in
theorem lives_anyF (w : World) : Calls Try.prog 15 #[] w fun e w' => e = .returned (.bool true) ∧ Below w.heap.size w w' := by
  go_enter Try.func15, Try.ntmps15
  go_wp2_with fail
  refine (share_any _ [3, 1, 0, 4] 5 _ (rd4 w 3 1 0 4)).mono ?_
  rintro e w1 h
  rw [ex_share] at h
  obtain ⟨d1, rfl, b1, f1, o1⟩ := h
  obtain ⟨s1, c1, rfl, _, _, _, hc1, _⟩ := o1.shape (by decide)
  have B1 : Hid (Below w.heap.size w w1) := ((Below.refl _ w).alloc (Nat.le_refl _) _).trans (b1.mono (by simp))
  have O1 : Hid (Owns .i64 3 w1 (.slice (some ⟨s1, 0, none⟩) 4 c1) [12, 4, 0, 16]) := o1
  clear b1 f1 o1 hc1
  go_wp2_with fail
  have h12 : Below w1.heap.size w1 ((w1.alloc (.cells #[.int .i64 32] 3)).alloc (.cells #[.int .i64 0, .int .i64 0, .int .i64 0] 3)) := ((Below.refl _ w1).alloc (Nat.le_refl _) _).alloc (by simp) _
  have r1 : Rd .i64 ((w1.alloc (.cells #[.int .i64 32] 3)).alloc (.cells #[.int .i64 0, .int .i64 0, .int .i64 0] 3)) (.slice (some ⟨w1.heap.size, 0, none⟩) 1 1) [32] := (rd1 w1 32).below ((Below.refl _ _).alloc (Nat.le_refl _) _)
  have r2 := rd3 (w1.alloc (.cells #[.int .i64 32] 3)) 0 0 0
  rw [World.size_alloc] at r2
  refine (encode_anyF _ _ [32] [0, 0, 0] 5 _ r1 r2).mono ?_
  rintro e w2 h
  rw [ex_encF] at h
  obtain ⟨d2, rfl, b2, f2, o2⟩ := h
  have B12 : Below w1.heap.size w1 w2 := h12.trans (b2.mono h12.size)
  have B2 : Hid (Below w.heap.size w w2) := B1.out.trans (B12.mono B1.out.size)
  have O12 : Hid (Owns .i64 3 w2 (.slice (some ⟨s1, 0, none⟩) 4 c1) [12, 4, 0, 16]) := O1.out.below B12
  obtain ⟨s2, c2, rfl, _, _, _, hc2, _⟩ := o2.shape (by decide)
  have O2 : Hid (Owns .u8 5 w2 (.slice (some ⟨s2, 0, none⟩) 1 c2) [32]) := o2
  clear b2 f2 o2 hc2 B12 h12 r1 r2 B1 O1
  go_wp2_with fail
  have h23 : Below w2.heap.size w2 ((w2.alloc (.cells #[.int .i64 32] 3)).alloc (.cells #[.int .u8 32] 5)) := ((Below.refl _ w2).alloc (Nat.le_refl _) _).alloc (by simp) _
  have r3 : Rd .i64 ((w2.alloc (.cells #[.int .i64 32] 3)).alloc (.cells #[.int .u8 32] 5)) (.slice (some ⟨w2.heap.size, 0, none⟩) 1 1) [32] := (rd1 w2 32).below ((Below.refl _ _).alloc (Nat.le_refl _) _)
  have r4 := rd1b (w2.alloc (.cells #[.int .i64 32] 3)) 32
  rw [World.size_alloc] at r4
  refine (decode_anyF _ _ [32] [32] 5 3 _ r3 r4 (by intro i; match i with | 0 => decide | n + 1 => simp) (by decide)).mono ?_
  rintro e w3 h
  rw [ex_dec] at h
  obtain ⟨d3, rfl, b3, f3, o3⟩ := h
  have B23 : Below w2.heap.size w2 w3 := h23.trans (b3.mono h23.size)
  have B3 : Hid (Below w.heap.size w w3) := B2.out.trans (B23.mono B2.out.size)
  obtain ⟨s3, c3, rfl, _, _, _, hc3, _⟩ := o3.shape (by decide)
  have O13 := O12.out.below B23
  have O23 := O2.out.below B23
  obtain ⟨_, _, e1, _, _, _, q1, _⟩ := O13.shape (by decide)
  obtain ⟨_, _, e2, _, _, _, q2, _⟩ := O23.shape (by decide)
  cases e1
  cases e2
  have p0 := q1 0 (by decide)
  have p1 := q1 1 (by decide)
  have p3 := q1 3 (by decide)
  have p4 := q2 0 (by decide)
  simp only [List.getD_cons_zero, List.getD_cons_succ, List.length_cons, List.length_nil, Nat.zero_add, Nat.reduceAdd] at p0 p1 p3 p4 ⊢
  clear b3 f3 o3 hc3 B23 h23 r3 r4 B2 O12 O2 O13 O23 q1 q2
  go_wp2_with fail
  go_ret
  exact ⟨rfl, B3.out⟩
end Go.Proofs.Ytcmnhgefeffcpaa
