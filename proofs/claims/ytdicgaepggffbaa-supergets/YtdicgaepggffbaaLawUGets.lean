/-
  SuperGets: any bytes are read as just the superblock that the document says, or as none: for all bytes the law answers true.
-/
import Derived.Test.YtdicgaepggffbaaULives
import Derived.Test.YtdicgaepggffbaaURGet
namespace Go.Proofs.Ytdicgaepggffbaa
open Go.RowKit Pl
set_option linter.unusedVariables false
set_option linter.unusedSimpArgs false
set_option maxRecDepth 100000

set_option maxHeartbeats 1000000 in
theorem superGets_walk (v : Value) (xs : List Int) (w : World) (hr : Rd .u8 w v xs) (hb : By xs) :
    Calls Try.prog 4 #[v] w fun e w' => e = .returned (.bool true) ∧ Below w.heap.size w w' := by
  obtain ⟨a, cap, rfl, _⟩ := id hr
  have HR : Hid (Rd .u8 w (.slice a xs.length cap) xs) := hr
  have HB : Hid (By xs) := hb
  obtain ⟨l, hl⟩ : ∃ l, Hid (xs.length = l) := ⟨_, rfl⟩
  rw [hl.out] at HR ⊢
  clear hr hb
  obtain ⟨G, hG⟩ : ∃ G, Hid (getU xs = G) := ⟨_, rfl⟩
  obtain ⟨T, hT⟩ : ∃ T, Hid (G.getD sp0 = T) := ⟨_, rfl⟩
  obtain ⟨ok, hok⟩ : ∃ o, Hid (G.isSome = o) := ⟨_, rfl⟩
  obtain ⟨ge, hge⟩ : ∃ l, Hid (T.gen = l) := ⟨_, rfl⟩
  obtain ⟨sc, hsc⟩ : ∃ l, Hid (T.sc = l) := ⟨_, rfl⟩
  obtain ⟨nx, hnx⟩ : ∃ l, Hid (T.nx = l) := ⟨_, rfl⟩
  obtain ⟨m, hm⟩ : ∃ l, Hid (T.vs.length = l) := ⟨_, rfl⟩
  go_enter Try.func4, Try.ntmps4
  go_wp2_with fail
  refine (getU_any _ xs w HR.out HB.out).mono ?_
  intro e w1 h
  obtain ⟨a1, c1, rfl, r1, b1, _⟩ := getU_open h
  rw [hG.out, hT.out, hm.out] at r1
  rw [hG.out, hT.out, hm.out, hok.out]
  clear h
  obtain ⟨q1, hq1⟩ : ∃ q, w1.heap.size = q := ⟨_, rfl⟩
  obtain ⟨W2, hW2⟩ : ∃ W2, w1.alloc (.cells #[.int .i64 T.gen, .int .i64 T.sc, .int .i64 T.nx, .slice a1 m c1] 24) = W2 := ⟨_, rfl⟩
  have b2 : Below w1.heap.size w1 W2 := by rw [← hW2]; exact (Below.refl _ _).alloc (Nat.le_refl _) _
  have V2 : Hid (Uv W2 q1 T (.slice a1 m c1)) := by rw [← hW2, ← hq1]; exact uv_new w1 T _
  have Y2 : Hid (RdV W2 (.slice a1 m c1) T.vs) := r1.below b2
  have B2 : Hid (Below w.heap.size w W2) := b1.trans (b2.mono b1.size)
  have R2 : Hid (Rd .u8 W2 (.slice a l cap) xs) := HR.out.below B2.out
  unfold supv
  rw [hge.out, hsc.out, hnx.out] at hW2 ⊢
  clear r1 b1 b2
  go_wp2_with fail
  refine (refGetU_any _ xs W2 R2.out HB.out).mono ?_
  intro e w3 h
  obtain ⟨a3, c3, rfl, r3, b3, _⟩ := getU_open h
  rw [hG.out, hT.out, hm.out] at r3
  rw [hG.out, hT.out, hm.out, hok.out]
  clear h hW2 hq1
  obtain ⟨q3, hq3⟩ : ∃ q, w3.heap.size = q := ⟨_, rfl⟩
  obtain ⟨W4, hW4⟩ : ∃ W4, w3.alloc (.cells #[.int .i64 T.gen, .int .i64 T.sc, .int .i64 T.nx, .slice a3 m c3] 24) = W4 := ⟨_, rfl⟩
  have b4 : Below w3.heap.size w3 W4 := by rw [← hW4]; exact (Below.refl _ _).alloc (Nat.le_refl _) _
  have b24 : Below W2.heap.size W2 W4 := b3.trans (b4.mono b3.size)
  have V4 : Hid (Uv W4 q3 T (.slice a3 m c3)) := by rw [← hW4, ← hq3]; exact uv_new w3 T _
  have X4 : Hid (Uv W4 q1 T (.slice a1 m c1)) := V2.out.below b24
  have B4 : Hid (Below w.heap.size w W4) := B2.out.trans (b24.mono B2.out.size)
  have HS := hideP (refSameU_any T T _ _ W4 (Y2.out.below b24) (r3.below b4))
  rw [decide_eq_true (rfl : T = T)] at HS
  have p0 := V4.out.c0
  have p1 := V4.out.c1
  have p2 := V4.out.c2
  have p3 := V4.out.c3
  have x0 := X4.out.c0
  have x1 := X4.out.c1
  have x2 := X4.out.c2
  have x3 := X4.out.c3
  unfold supv at HS
  unfold supv
  rw [hge.out, hsc.out, hnx.out] at HS hW4 ⊢
  rw [hge.out] at p0 x0
  rw [hsc.out] at p1 x1
  rw [hnx.out] at p2 x2
  clear r3 b3 b4 b24 V2 Y2 R2 B2
  go_wp2_with fail
  refine HS.out.mono ?_
  rintro e w5 ⟨rfl, b5⟩
  have B5 : Hid (Below w.heap.size w w5) := B4.out.trans (b5.mono B4.out.size)
  have ee : (ok == ok) = true := by simp
  clear b5 p0 p1 p2 p3 x0 x1 x2 x3 hW4 hq3
  go_wp2_with fail
  refine (lives_anyU w5).mono ?_
  rintro e w6 ⟨rfl, b6⟩
  go_wp2_with fail
  go_ret
  exact ⟨rfl, B5.out.trans (b6.mono B5.out.size)⟩
end Go.Proofs.Ytdicgaepggffbaa
