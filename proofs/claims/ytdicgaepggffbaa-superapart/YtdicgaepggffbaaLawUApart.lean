/-
  SuperApart: two superblocks have the same bytes just if they are the same: for any two the law answers true.
-/
import Derived.Test.YtdicgaepggffbaaULives
import Derived.Test.YtdicgaepggffbaaSame
namespace Go.Proofs.Ytdicgaepggffbaa
open Go.RowKit Pl
set_option linter.unusedVariables false
set_option linter.unusedSimpArgs false
set_option maxRecDepth 100000

theorem usec_iff {s t : Sp} (h : mayU s = true) (k : mayU t = true) : usec s = usec t ↔ s = t := ⟨fun e => IsU.uniq (xs := usec s) ⟨h, rfl⟩ ⟨k, e⟩, fun e => by rw [e]⟩

set_option maxHeartbeats 1000000 in
theorem superApart_walk (s t : Sp) (v u : Value) (w : World) (hr : RdV w v s.vs) (hu : RdV w u t.vs) :
    Calls Try.prog 7 #[supv s v, supv t u] w fun e w' => e = .returned (.bool true) ∧ Below w.heap.size w w' := by
  obtain ⟨a, ca, rfl, _⟩ := id hr
  obtain ⟨b, cb, rfl, _⟩ := id hu
  have HR : Hid (RdV w (.slice a s.vs.length ca) s.vs) := hr
  have HU : Hid (RdV w (.slice b t.vs.length cb) t.vs) := hu
  obtain ⟨W1, hW1⟩ : ∃ W1, w.alloc (.cells #[.int .i64 s.gen, .int .i64 s.sc, .int .i64 s.nx, .slice a s.vs.length ca] 24) = W1 := ⟨_, rfl⟩
  obtain ⟨W2, hW2⟩ : ∃ W2, W1.alloc (.cells #[.int .i64 t.gen, .int .i64 t.sc, .int .i64 t.nx, .slice b t.vs.length cb] 24) = W2 := ⟨_, rfl⟩
  have s1 : W1.heap.size = w.heap.size + 1 := by rw [← hW1]; simp
  have b1 : Below w.heap.size w W1 := by rw [← hW1]; exact (Below.refl _ _).alloc (Nat.le_refl _) _
  have b2 : Below W1.heap.size W1 W2 := by rw [← hW2]; exact (Below.refl _ _).alloc (Nat.le_refl _) _
  have B2 : Hid (Below w.heap.size w W2) := b1.trans (b2.mono (by omega))
  have U1 : Uv W1 w.heap.size s (.slice a s.vs.length ca) := by rw [← hW1]; exact uv_new w s _
  have P2 : Hid (Uv W2 w.heap.size s (.slice a s.vs.length ca)) := U1.below b2
  have R2 : Hid (Uv W2 (w.heap.size + 1) t (.slice b t.vs.length cb)) := by rw [← hW2, ← s1]; exact uv_new W1 t _
  have HP : Hid (∀ W, Below w.heap.size w W → Calls Try.prog 8 #[supv s (.slice a s.vs.length ca)] W fun e w' => PutU s W e w') := fun W h => putU_any s _ W (HR.out.below h)
  have HQ : Hid (∀ W, Below w.heap.size w W → Calls Try.prog 8 #[supv t (.slice b t.vs.length cb)] W fun e w' => PutU t W e w') := fun W h => putU_any t _ W (HU.out.below h)
  have HSA : Hid (∀ W, Below w.heap.size w W → Calls Try.prog 15 #[supv s (.slice a s.vs.length ca), supv t (.slice b t.vs.length cb)] W fun e w' => e = .returned (.bool (decide (s = t))) ∧ Below W.heap.size W w') := fun W h => refSameU_any s t _ _ W (HR.out.below h) (HU.out.below h)
  unfold supv at HP HQ HSA
  unfold supv
  obtain ⟨l, hl⟩ : ∃ l, Hid (s.vs.length = l) := ⟨_, rfl⟩
  obtain ⟨ge, hge⟩ : ∃ l, Hid (s.gen = l) := ⟨_, rfl⟩
  obtain ⟨sc, hsc⟩ : ∃ l, Hid (s.sc = l) := ⟨_, rfl⟩
  obtain ⟨nx, hnx⟩ : ∃ l, Hid (s.nx = l) := ⟨_, rfl⟩
  obtain ⟨m, hm⟩ : ∃ l, Hid (t.vs.length = l) := ⟨_, rfl⟩
  obtain ⟨gf, hgf⟩ : ∃ l, Hid (t.gen = l) := ⟨_, rfl⟩
  obtain ⟨sd, hsd⟩ : ∃ l, Hid (t.sc = l) := ⟨_, rfl⟩
  obtain ⟨ny, hny⟩ : ∃ l, Hid (t.nx = l) := ⟨_, rfl⟩
  rw [hl.out, hge.out, hsc.out, hnx.out] at HP hW1
  rw [hm.out, hgf.out, hsd.out, hny.out] at HQ hW2
  rw [hl.out, hge.out, hsc.out, hnx.out, hm.out, hgf.out, hsd.out, hny.out] at HSA
  rw [hl.out, hge.out, hsc.out, hnx.out, hm.out, hgf.out, hsd.out, hny.out]
  rw [hl.out] at P2
  rw [hm.out] at R2
  have CS : Hid (∀ W, Uv W w.heap.size s (.slice a l ca) → W.cell? ⟨w.heap.size, 0, none⟩ = some (.int .i64 ge) ∧ W.cell? ⟨w.heap.size, 1, none⟩ = some (.int .i64 sc) ∧ W.cell? ⟨w.heap.size, 2, none⟩ = some (.int .i64 nx) ∧ W.cell? ⟨w.heap.size, 3, none⟩ = some (.slice a l ca)) := fun W h => ⟨by rw [← hge.out]; exact h.c0, by rw [← hsc.out]; exact h.c1, by rw [← hnx.out]; exact h.c2, h.c3⟩
  have CT : Hid (∀ W, Uv W (w.heap.size + 1) t (.slice b m cb) → W.cell? ⟨w.heap.size + 1, 0, none⟩ = some (.int .i64 gf) ∧ W.cell? ⟨w.heap.size + 1, 1, none⟩ = some (.int .i64 sd) ∧ W.cell? ⟨w.heap.size + 1, 2, none⟩ = some (.int .i64 ny) ∧ W.cell? ⟨w.heap.size + 1, 3, none⟩ = some (.slice b m cb)) := fun W h => ⟨by rw [← hgf.out]; exact h.c0, by rw [← hsd.out]; exact h.c1, by rw [← hny.out]; exact h.c2, h.c3⟩
  obtain ⟨q0, q1, q2, q3⟩ := CS.out W2 P2.out
  clear hr hu b1 b2 U1
  go_enter Try.func7, Try.ntmps7
  go_wp2_with fail
  refine (HP.out W2 B2.out).mono ?_
  rintro e w3 ⟨v3, c3, rfl, b3, n3, h3⟩
  have P3 : Hid (Uv w3 w.heap.size s (.slice a l ca)) := P2.out.below b3
  have R3 : Hid (Uv w3 (w.heap.size + 1) t (.slice b m cb)) := R2.out.below b3
  have B3 : Hid (Below w.heap.size w w3) := B2.out.trans (b3.mono B2.out.size)
  clear q0 q1 q2 q3 hW1 hW2 s1 P2 R2 B2 b3 n3
  obtain ⟨r0, r1, r2, r3⟩ := CT.out w3 R3.out
  rcases h3 with ⟨hms, rfl, wb3, g3, rfl⟩ | ⟨hms, rfl, rfl⟩
  rotate_left
  · have HC3 := hideP (HQ.out w3 B3.out)
    go_wp2_with fail
    refine HC3.out.mono ?_
    rintro e w4 ⟨v4, c4, rfl, b4, n4, h4⟩
    have B4 : Hid (Below w.heap.size w w4) := B3.out.trans (b4.mono B3.out.size)
    obtain ⟨va4, vn4, vc4, rfl⟩ : ∃ x y z, v4 = .slice x y z := by
      rcases h4 with ⟨_, _, _, g4, rfl⟩ | ⟨_, _, rfl⟩
      · exact ⟨_, _, _, rfl⟩
      · exact ⟨_, _, _, rfl⟩
    clear r0 r1 r2 r3 b4 n4 h4
    go_wp2_with fail
    refine (lives_anyU w4).mono ?_
    rintro e w5 ⟨rfl, b5⟩
    go_wp2_with fail
    go_ret
    exact ⟨rfl, B4.out.trans (b5.mono B4.out.size)⟩
  · have X3 : Hid (Rd .u8 w3 (.slice (some ⟨g3, 0, none⟩) 256 256) (usec s)) := wb3.rd
    have HMS : Hid (mayU s = true) := hms
    have HC3 := hideP (HQ.out w3 B3.out)
    clear wb3 hms
    go_wp2_with fail
    refine HC3.out.mono ?_
    rintro e w4 ⟨v4, c4, rfl, b4, n4, h4⟩
    have P4 : Hid (Uv w4 w.heap.size s (.slice a l ca)) := P3.out.below b4
    have R4 : Hid (Uv w4 (w.heap.size + 1) t (.slice b m cb)) := R3.out.below b4
    have B4 : Hid (Below w.heap.size w w4) := B3.out.trans (b4.mono B3.out.size)
    have X4 : Hid (Rd .u8 w4 (.slice (some ⟨g3, 0, none⟩) 256 256) (usec s)) := X3.out.below b4
    clear r0 r1 r2 r3 b4 n4 P3 R3 B3 X3
    rcases h4 with ⟨hmt, rfl, wb4, g4, rfl⟩ | ⟨hmt, rfl, rfl⟩
    rotate_left
    · go_wp2_with fail
      refine (lives_anyU w4).mono ?_
      rintro e w5 ⟨rfl, b5⟩
      go_wp2_with fail
      go_ret
      exact ⟨rfl, B4.out.trans (b5.mono B4.out.size)⟩
    · have HS := hideP (same_rd _ _ (usec s) (usec t) w4 X4.out wb4.rd)
      have e1 : decide (usec s = usec t) = decide (s = t) := by
        rw [Bool.eq_iff_iff, decide_eq_true_iff, decide_eq_true_iff]
        exact usec_iff HMS.out hmt
      rw [e1] at HS
      obtain ⟨D, hD⟩ : ∃ D, decide (s = t) = D := ⟨_, rfl⟩
      rw [hD] at HS HSA
      clear wb4 hmt e1 hD
      go_wp2_with fail
      refine HS.out.mono ?_
      rintro e w5 ⟨rfl, b5⟩
      have P5 : Hid (Uv w5 w.heap.size s (.slice a l ca)) := P4.out.below b5
      have R5 : Hid (Uv w5 (w.heap.size + 1) t (.slice b m cb)) := R4.out.below b5
      have B5 : Hid (Below w.heap.size w w5) := B4.out.trans (b5.mono B4.out.size)
      obtain ⟨q0, q1, q2, q3⟩ := CS.out w5 P5.out
      obtain ⟨r0, r1, r2, r3⟩ := CT.out w5 R5.out
      have HC5 := hideP (HSA.out w5 B5.out)
      clear b5 P4 R4 B4 X4 HS
      go_wp2_with fail
      refine HC5.out.mono ?_
      rintro e w6 ⟨rfl, b6⟩
      have B6 : Hid (Below w.heap.size w w6) := B5.out.trans (b6.mono B5.out.size)
      have ee : (D == D) = true := by simp
      clear b6 q0 q1 q2 q3 r0 r1 r2 r3
      go_wp2_with fail
      refine (lives_anyU w6).mono ?_
      rintro e w7 ⟨rfl, b7⟩
      go_wp2_with fail
      go_ret
      exact ⟨rfl, B6.out.trans (b7.mono B6.out.size)⟩
end Go.Proofs.Ytdicgaepggffbaa
