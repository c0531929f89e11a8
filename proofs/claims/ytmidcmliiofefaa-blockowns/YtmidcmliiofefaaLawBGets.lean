/-
  BlockGets: any bytes are read as just the block that the document says, or as none: for every number and bytes the law answers true.
-/
import Derived.Test.YtmidcmliiofefaaBLives
import Derived.Test.YtmidcmliiofefaaBRGet
namespace Go.Proofs.Ytmidcmliiofefaa
open Go.RowKit Pl
set_option linter.unusedVariables false
set_option linter.unusedSimpArgs false
set_option maxRecDepth 100000

/-- What was told lies in a new variable. -/
theorem getR_open {n : Int} {xs : List Int} {w w' : World} {e : Ending} (h : GetR n xs w e w') : ∃ (a : Option Addr) (l c : Nat) (K E : Int) (Y : List Int), e = .returned (.tuple #[.agg #[.int .i64 K, .slice a l c], .int .i64 E]) ∧
    getE n xs = E ∧ getB n xs = (K, Y) ∧ Y.length = l ∧ Rd .u8 w' (.slice a l c) Y ∧ Below w.heap.size w w' ∧ ∀ j, (Value.slice a l c).ownBlock = some j → w.heap.size ≤ j := by
  obtain ⟨v, rfl, hr, hb, hn⟩ := h
  obtain ⟨a, c, hv, _⟩ := id hr
  refine ⟨a, (getB n xs).2.length, c, (getB n xs).1, getE n xs, (getB n xs).2, ?_, rfl, rfl, rfl, by rw [← hv]; exact hr, hb, by rw [← hv]; exact hn⟩
  rw [hv]
  rfl

set_option maxHeartbeats 1000000 in
theorem blockGets_walk (n : Int) (v : Value) (xs : List Int) (w : World) (hr : Rd .u8 w v xs) (hb : By xs) :
    Calls Try.prog 4 #[.int .i64 n, v] w fun e w' => e = .returned (.bool true) ∧ Below w.heap.size w w' := by
  obtain ⟨a, cap, rfl, _⟩ := id hr
  have HR : Hid (Rd .u8 w (.slice a xs.length cap) xs) := hr
  have HB : Hid (By xs) := hb
  obtain ⟨l, hl⟩ : ∃ l, Hid (xs.length = l) := ⟨_, rfl⟩
  rw [hl.out] at HR ⊢
  clear hr hb
  go_enter Try.func4, Try.ntmps4
  go_wp2_with fail
  refine (get_any n _ xs w HR.out HB.out).mono ?_
  intro e w1 h
  obtain ⟨a1, l1, c1, K, E, Y, rfl, hE, hK, hl1, r1, b1, _⟩ := getR_open h
  clear h
  have HE : Hid (getE n xs = E) := hE
  have HK : Hid (getB n xs = (K, Y)) := hK
  obtain ⟨q1, hq1⟩ : ∃ q, w1.heap.size = q := ⟨_, rfl⟩
  obtain ⟨W2, hW2⟩ : ∃ W2, w1.alloc (.cells #[.int .i64 K, .slice a1 l1 c1] 24) = W2 := ⟨_, rfl⟩
  have b2 : Below w1.heap.size w1 W2 := by rw [← hW2]; exact (Below.refl _ _).alloc (Nat.le_refl _) _
  have V2 : Hid (Bkv W2 q1 K (.slice a1 l1 c1)) := by rw [← hW2, ← hq1]; exact bkv_new w1 _ _
  have Y2 : Hid (Rd .u8 W2 (.slice a1 l1 c1) Y) := r1.below b2
  have B2 : Hid (Below w.heap.size w W2) := b1.trans (b2.mono b1.size)
  have R2 : Hid (Rd .u8 W2 (.slice a l cap) xs) := HR.out.below B2.out
  clear hE hK hl1 r1 b1 b2
  go_wp2_with fail
  refine (refGet_any n _ xs W2 R2.out HB.out).mono ?_
  intro e w3 h
  obtain ⟨a3, l3, c3, K3, E3, Y3, rfl, hE, hK, hl3, r3, b3, _⟩ := getR_open h
  rw [HE.out] at hE
  rw [HK.out] at hK
  cases hE
  cases hK
  clear h hW2 hq1
  obtain ⟨q3, hq3⟩ : ∃ q, w3.heap.size = q := ⟨_, rfl⟩
  obtain ⟨W4, hW4⟩ : ∃ W4, w3.alloc (.cells #[.int .i64 K, .slice a3 l3 c3] 24) = W4 := ⟨_, rfl⟩
  have b4 : Below w3.heap.size w3 W4 := by rw [← hW4]; exact (Below.refl _ _).alloc (Nat.le_refl _) _
  have b24 : Below W2.heap.size W2 W4 := b3.trans (b4.mono b3.size)
  have V4 : Hid (Bkv W4 q3 K (.slice a3 l3 c3)) := by rw [← hW4, ← hq3]; exact bkv_new w3 _ _
  have X4 : Hid (Bkv W4 q1 K (.slice a1 l1 c1)) := V2.out.below b24
  have B4 : Hid (Below w.heap.size w W4) := B2.out.trans (b24.mono B2.out.size)
  have hs0 := same2_any K K _ _ Y Y W4 (Y2.out.below b24) (r3.below b4)
  have et : (decide (K = K) && decide (Y = Y)) = true := by simp
  rw [et] at hs0
  have HS := hideP hs0
  clear hs0 et
  have p0 := V4.out.c0
  have p1 := V4.out.c1
  have p2 := X4.out.c0
  have p3 := X4.out.c1
  unfold blk at HS
  clear hl3 r3 b3 b4 b24 V2 Y2 R2 B2
  go_wp2_with fail
  refine HS.out.mono ?_
  rintro e w5 ⟨rfl, b5⟩
  have B5 : Hid (Below w.heap.size w w5) := B4.out.trans (b5.mono B4.out.size)
  have ee : (E == E) = true := by simp
  clear b5 p0 p1 p2 p3 hW4 hq3
  go_wp2_with fail
  refine (lives_anyB w5).mono ?_
  rintro e w6 ⟨rfl, b6⟩
  go_wp2_with fail
  go_ret
  exact ⟨rfl, B5.out.trans (b6.mono B5.out.size)⟩
end Go.Proofs.Ytmidcmliiofefaa
