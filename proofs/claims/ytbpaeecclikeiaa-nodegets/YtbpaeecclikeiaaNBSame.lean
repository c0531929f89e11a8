/-
  The document's Same of two blocks.
-/
import Derived.Test.YtbpaeecclikeiaaNBlk
import Derived.Test.YtbpaeecclikeiaaSame
namespace Go.Proofs.Ytbpaeecclikeiaa
open Go.RowKit Pl
set_option linter.unusedVariables false
set_option linter.unusedSimpArgs false
set_option maxRecDepth 100000

set_option maxHeartbeats 400000 in
theorem sameB_any (k1 k2 : Int) (u v : Value) (xs ys : List Int) (w : World) (hx : Rd .u8 w u xs) (hy : Rd .u8 w v ys) :
    Calls Try.prog 16 #[blN k1 u, blN k2 v] w fun e w' => e = .returned (.bool (decide (k1 = k2) && decide (xs = ys))) ∧ Below w.heap.size w w' := by
  obtain ⟨a, ca, rfl, _⟩ := id hx
  obtain ⟨b, cb, rfl, _⟩ := id hy
  obtain ⟨W1, hW1⟩ : ∃ W1, w.alloc (.cells #[.int .i64 k1, .slice a xs.length ca] 34) = W1 := ⟨_, rfl⟩
  obtain ⟨W2, hW2⟩ : ∃ W2, W1.alloc (.cells #[.int .i64 k2, .slice b ys.length cb] 34) = W2 := ⟨_, rfl⟩
  have s1 : W1.heap.size = w.heap.size + 1 := by rw [← hW1]; simp
  have b1 : Below w.heap.size w W1 := by rw [← hW1]; exact (Below.refl _ _).alloc (Nat.le_refl _) _
  have b2 : Below W1.heap.size W1 W2 := by rw [← hW2]; exact (Below.refl _ _).alloc (Nat.le_refl _) _
  have B2 : Hid (Below w.heap.size w W2) := b1.trans (b2.mono (by omega))
  have Q1 : Kb W1 w.heap.size k1 (.slice a xs.length ca) := by rw [← hW1]; exact kb_new w _ _
  have P2 : Hid (Kb W2 w.heap.size k1 (.slice a xs.length ca)) := Q1.below b2
  have R2 : Hid (Kb W2 (w.heap.size + 1) k2 (.slice b ys.length cb)) := by rw [← hW2, ← s1]; exact kb_new W1 _ _
  have HS := hideN (same_rd _ _ xs ys W2 (hx.below B2.out) (hy.below B2.out))
  have p0 := P2.out.c0
  have p1 := P2.out.c1
  have r0 := R2.out.c0
  have r1 := R2.out.c1
  generalize decide (xs = ys) = sm at *
  generalize xs.length = l1 at *
  generalize ys.length = l2 at *
  clear hx hy b1 b2 Q1
  unfold blN
  by_cases hk : k1 = k2
  · have hd : (k1 == k2) = true := by rw [beq_iff_eq]; exact hk
    have e : (decide (k1 = k2) && sm) = sm := by rw [decide_eq_true hk]; rfl
    rw [e]
    have HK : Hid (k1 = k2) := hk
    clear e hk
    go_enter Try.func16, Try.ntmps16
    go_wp2_with fail
    refine HS.out.mono ?_
    rintro e w3 ⟨rfl, b3⟩
    have P3 := P2.out.below b3
    have R3 := R2.out.below b3
    have c0 := P3.c0
    have d0 := R3.c0
    have B3 : Hid (Below w.heap.size w w3) := B2.out.trans (b3.mono B2.out.size)
    clear p0 p1 r0 r1 P3 R3 b3
    go_wp2_with fail
    go_ret
    exact ⟨rfl, B3.out⟩
  · have hd : (k1 == k2) = false := by rw [beq_eq_false_iff_ne]; exact hk
    have e : (decide (k1 = k2) && sm) = false := by rw [decide_eq_false hk]; rfl
    rw [e]
    clear e
    go_enter Try.func16, Try.ntmps16
    go_wp2_with fail
    refine HS.out.mono ?_
    rintro e w3 ⟨rfl, b3⟩
    have P3 := P2.out.below b3
    have R3 := R2.out.below b3
    have c0 := P3.c0
    have d0 := R3.c0
    have B3 : Hid (Below w.heap.size w w3) := B2.out.trans (b3.mono B2.out.size)
    clear p0 p1 r0 r1 P3 R3 b3
    go_wp2_with fail
    go_ret
    exact ⟨rfl, B3.out⟩
end Go.Proofs.Ytbpaeecclikeiaa
