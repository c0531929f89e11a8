/-
  SuperPuts: a superblock is written as the document says, or refused, and read again: for every superblock the law answers true.
-/
import Derived.Test.YtdicgaepggffbaaLawUGets
namespace Go.Proofs.Ytdicgaepggffbaa
open Go.RowKit Pl
set_option linter.unusedVariables false
set_option linter.unusedSimpArgs false
set_option maxRecDepth 100000

set_option maxHeartbeats 1000000 in
theorem superPuts_walk (s : Sp) (v : Value) (w : World) (hr : RdV w v s.vs) :
    Calls Try.prog 3 #[supv s v] w fun e w' => e = .returned (.bool true) ∧ Below w.heap.size w w' := by
  obtain ⟨a, cap, rfl, h1, h2, _⟩ := id hr
  have HR : Hid (RdV w (.slice a s.vs.length cap) s.vs) := hr
  obtain ⟨W1, hW1⟩ : ∃ W1, w.alloc (.cells #[.int .i64 s.gen, .int .i64 s.sc, .int .i64 s.nx, .slice a s.vs.length cap] 24) = W1 := ⟨_, rfl⟩
  have B1 : Hid (Below w.heap.size w W1) := by rw [← hW1]; exact (Below.refl _ _).alloc (Nat.le_refl _) _
  have U1 : Hid (Uv W1 w.heap.size s (.slice a s.vs.length cap)) := by rw [← hW1]; exact uv_new w s _
  have HP : Hid (∀ W, Below w.heap.size w W → Calls Try.prog 8 #[supv s (.slice a s.vs.length cap)] W fun e w' => PutU s W e w') := fun W h => putU_any s _ W (HR.out.below h)
  have HQ : Hid (∀ W, Below w.heap.size w W → Calls Try.prog 9 #[supv s (.slice a s.vs.length cap)] W fun e w' => PutV s W e w') := fun W h => refPutU_any s _ W (HR.out.below h)
  have HA : Hid (∀ W, Below w.heap.size w W → Calls Try.prog 11 #[supv s (.slice a s.vs.length cap)] W fun e w' => e = .returned (.bool (mayU s)) ∧ Below W.heap.size W w') := fun W h => refMayU_any s _ W (HR.out.below h)
  have HB : Hid (∀ W, Below w.heap.size w W → Calls Try.prog 12 #[supv s (.slice a s.vs.length cap)] W fun e w' => e = .returned (.bool (mayU s)) ∧ Below W.heap.size W w') := fun W h => mayU_any s _ W (HR.out.below h)
  obtain ⟨M, hM⟩ : ∃ M, Hid (mayU s = M) := ⟨_, rfl⟩
  unfold supv at HP HQ HA HB
  unfold supv
  obtain ⟨l, hl⟩ : ∃ l, Hid (s.vs.length = l) := ⟨_, rfl⟩
  obtain ⟨ge, hge⟩ : ∃ l, Hid (s.gen = l) := ⟨_, rfl⟩
  obtain ⟨sc, hsc⟩ : ∃ l, Hid (s.sc = l) := ⟨_, rfl⟩
  obtain ⟨nx, hnx⟩ : ∃ l, Hid (s.nx = l) := ⟨_, rfl⟩
  rw [hl.out, hge.out, hsc.out, hnx.out] at HP HQ HA HB hW1 ⊢
  rw [hM.out] at HA HB
  rw [hl.out] at HR U1
  have CS : Hid (∀ W, Uv W w.heap.size s (.slice a l cap) → W.cell? ⟨w.heap.size, 0, none⟩ = some (.int .i64 ge) ∧ W.cell? ⟨w.heap.size, 1, none⟩ = some (.int .i64 sc) ∧ W.cell? ⟨w.heap.size, 2, none⟩ = some (.int .i64 nx) ∧ W.cell? ⟨w.heap.size, 3, none⟩ = some (.slice a l cap)) := fun W h => ⟨by rw [← hge.out]; exact h.c0, by rw [← hsc.out]; exact h.c1, by rw [← hnx.out]; exact h.c2, h.c3⟩
  obtain ⟨q0, q1, q2, q3⟩ := CS.out W1 U1.out
  clear hr h1 h2
  go_enter Try.func3, Try.ntmps3
  go_wp2_with fail
  refine (HP.out W1 B1.out).mono ?_
  rintro e w2 ⟨v2, c2, rfl, b2, n2, h2⟩
  have U2 : Hid (Uv w2 w.heap.size s (.slice a l cap)) := U1.out.below b2
  have B2 : Hid (Below w.heap.size w w2) := B1.out.trans (b2.mono B1.out.size)
  clear q0 q1 q2 q3 hW1
  obtain ⟨q0, q1, q2, q3⟩ := CS.out w2 U2.out
  have HC2 := hideP (HQ.out w2 B2.out)
  cases M with
  | false =>
    rcases h2 with ⟨h, _⟩ | ⟨_, rfl, rfl⟩
    · rw [hM.out] at h; cases h
    clear b2 n2 HP
    go_wp2_with fail
    refine HC2.out.mono ?_
    rintro e w3 ⟨v3, c3, rfl, b3, _, h3⟩
    rcases h3 with ⟨h, _⟩ | ⟨_, rfl, rfl⟩
    · rw [hM.out] at h; cases h
    have U3 : Hid (Uv w3 w.heap.size s (.slice a l cap)) := U2.out.below b3
    have B3 : Hid (Below w.heap.size w w3) := B2.out.trans (b3.mono B2.out.size)
    have HS := hideP (same_rd (.slice none 0 0) (.slice none 0 0) [] [] w3 (owns_nil .u8 5 w3).rd (owns_nil .u8 5 w3).rd)
    rw [decide_eq_true (rfl : ([] : List Int) = [])] at HS
    clear q0 q1 q2 q3 b3
    go_wp2_with fail
    refine HS.out.mono ?_
    rintro e w4 ⟨rfl, b4⟩
    have U4 : Hid (Uv w4 w.heap.size s (.slice a l cap)) := U3.out.below b4
    have B4 : Hid (Below w.heap.size w w4) := B3.out.trans (b4.mono B3.out.size)
    obtain ⟨q0, q1, q2, q3⟩ := CS.out w4 U4.out
    have HC4 := hideP (HA.out w4 B4.out)
    clear b4 HS
    go_wp2_with fail
    refine HC4.out.mono ?_
    rintro e w5 ⟨rfl, b5⟩
    have U5 : Hid (Uv w5 w.heap.size s (.slice a l cap)) := U4.out.below b5
    have B5 : Hid (Below w.heap.size w w5) := B4.out.trans (b5.mono B4.out.size)
    clear q0 q1 q2 q3 b5
    obtain ⟨q0, q1, q2, q3⟩ := CS.out w5 U5.out
    have HC5 := hideP (HB.out w5 B5.out)
    go_wp2_with fail
    refine HC5.out.mono ?_
    rintro e w6 ⟨rfl, b6⟩
    have B6 : Hid (Below w.heap.size w w6) := B5.out.trans (b6.mono B5.out.size)
    clear q0 q1 q2 q3 b6
    go_wp2_with fail
    refine (lives_anyU w6).mono ?_
    rintro e w7 ⟨rfl, b7⟩
    go_wp2_with fail
    go_ret
    exact ⟨rfl, B6.out.trans (b7.mono B6.out.size)⟩
  | true =>
    rcases h2 with ⟨_, rfl, wb2, g2, rfl⟩ | ⟨h, _⟩
    rotate_left
    · rw [hM.out] at h; cases h
    have X2 : Hid (Rd .u8 w2 (.slice (some ⟨g2, 0, none⟩) 256 256) (usec s)) := wb2.rd
    clear b2 n2 HP wb2
    go_wp2_with fail
    refine HC2.out.mono ?_
    rintro e w3 ⟨v3, c3, rfl, b3, _, h3⟩
    rcases h3 with ⟨_, rfl, o3⟩ | ⟨h, _⟩
    rotate_left
    · rw [hM.out] at h; cases h
    have U3 : Hid (Uv w3 w.heap.size s (.slice a l cap)) := U2.out.below b3
    have X3 : Hid (Rd .u8 w3 (.slice (some ⟨g2, 0, none⟩) 256 256) (usec s)) := X2.out.below b3
    have B3 : Hid (Below w.heap.size w w3) := B2.out.trans (b3.mono B2.out.size)
    obtain ⟨a3, cp3, hv3, _⟩ := id o3.rd
    have HS := hideP (same_rd _ _ (usec s) (usec s) w3 X3.out o3.rd)
    rw [decide_eq_true (rfl : usec s = usec s)] at HS
    rw [hv3] at HS ⊢
    clear q0 q1 q2 q3 b3 o3 hv3
    generalize (usec s).length = ul at *
    go_wp2_with fail
    refine HS.out.mono ?_
    rintro e w4 ⟨rfl, b4⟩
    have U4 : Hid (Uv w4 w.heap.size s (.slice a l cap)) := U3.out.below b4
    have X4 : Hid (Rd .u8 w4 (.slice (some ⟨g2, 0, none⟩) 256 256) (usec s)) := X3.out.below b4
    have B4 : Hid (Below w.heap.size w w4) := B3.out.trans (b4.mono B3.out.size)
    obtain ⟨q0, q1, q2, q3⟩ := CS.out w4 U4.out
    have HC4 := hideP (HA.out w4 B4.out)
    clear b4 HS
    go_wp2_with fail
    refine HC4.out.mono ?_
    rintro e w5 ⟨rfl, b5⟩
    have U5 : Hid (Uv w5 w.heap.size s (.slice a l cap)) := U4.out.below b5
    have X5 : Hid (Rd .u8 w5 (.slice (some ⟨g2, 0, none⟩) 256 256) (usec s)) := X4.out.below b5
    have B5 : Hid (Below w.heap.size w w5) := B4.out.trans (b5.mono B4.out.size)
    clear q0 q1 q2 q3 b5
    obtain ⟨q0, q1, q2, q3⟩ := CS.out w5 U5.out
    have HC5 := hideP (HB.out w5 B5.out)
    go_wp2_with fail
    refine HC5.out.mono ?_
    rintro e w6 ⟨rfl, b6⟩
    have U6 : Hid (Uv w6 w.heap.size s (.slice a l cap)) := U5.out.below b6
    have X6 : Hid (Rd .u8 w6 (.slice (some ⟨g2, 0, none⟩) 256 256) (usec s)) := X5.out.below b6
    have B6 : Hid (Below w.heap.size w w6) := B5.out.trans (b6.mono B5.out.size)
    clear q0 q1 q2 q3 b6
    go_wp2_with fail
    refine (getU_any _ (usec s) w6 X6.out (usec_by s)).mono ?_
    intro e w7 h
    obtain ⟨a7, c7, rfl, r7, b7, _⟩ := getU_open h
    rw [getU_put hM.out] at r7 ⊢
    clear h
    simp only [Option.getD_some, Option.isSome_some] at r7 ⊢
    rw [hl.out] at r7 ⊢
    have U7 : Uv w7 w.heap.size s (.slice a l cap) := U6.out.below b7
    have B7 : Below w.heap.size w w7 := B6.out.trans (b7.mono B6.out.size)
    obtain ⟨g, hgs⟩ : ∃ q, w7.heap.size = q := ⟨_, rfl⟩
    obtain ⟨W8, hW8⟩ : ∃ W8, w7.alloc (.cells #[.int .i64 s.gen, .int .i64 s.sc, .int .i64 s.nx, .slice a7 l c7] 24) = W8 := ⟨_, rfl⟩
    have b8 : Below w7.heap.size w7 W8 := by rw [← hW8]; exact (Below.refl _ _).alloc (Nat.le_refl _) _
    have V8 : Hid (Uv W8 g s (.slice a7 l c7)) := by rw [← hW8, ← hgs]; exact uv_new w7 s _
    have U8 : Hid (Uv W8 w.heap.size s (.slice a l cap)) := U7.below b8
    have B8 : Hid (Below w.heap.size w W8) := B7.trans (b8.mono B7.size)
    have HS := refSameU_any s s _ _ W8 (r7.below b8) (HR.out.below B8.out)
    rw [decide_eq_true (rfl : s = s)] at HS
    unfold supv at HS
    unfold supv
    rw [hge.out, hsc.out, hnx.out] at HS hW8 ⊢
    have HS := hideP HS
    obtain ⟨q0, q1, q2, q3⟩ := CS.out W8 U8.out
    have y0 := V8.out.c0
    have y1 := V8.out.c1
    have y2 := V8.out.c2
    have y3 := V8.out.c3
    rw [hge.out] at y0
    rw [hsc.out] at y1
    rw [hnx.out] at y2
    clear r7 b7 b8 U7 B7
    go_wp2_with fail
    refine HS.out.mono ?_
    rintro e w9 ⟨rfl, b9⟩
    have B9 : Hid (Below w.heap.size w w9) := B8.out.trans (b9.mono B8.out.size)
    clear b9 q0 q1 q2 q3 y0 y1 y2 y3 hW8 hgs
    go_wp2_with fail
    refine (lives_anyU w9).mono ?_
    rintro e w10 ⟨rfl, b10⟩
    go_wp2_with fail
    go_ret
    exact ⟨rfl, B9.out.trans (b10.mono B9.out.size)⟩
end Go.Proofs.Ytdicgaepggffbaa
