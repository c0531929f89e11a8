/-
  BlockApart: two blocks have the same bytes just if they and their numbers are the same: for every two blocks and numbers the law answers true.
-/
import Derived.Test.YtmidcmliiofefaaBLives
import Derived.Test.YtmidcmliiofefaaBRSame
namespace Go.Proofs.Ytmidcmliiofefaa
open Go.RowKit Pl
set_option linter.unusedVariables false
set_option linter.unusedSimpArgs false
set_option maxRecDepth 100000

set_option maxHeartbeats 1000000 in
theorem blockApart_walk (k1 k2 m n : Int) (u v : Value) (xs ys : List Int) (w : World) (hx : Rd .u8 w u xs) (hy : Rd .u8 w v ys) (bx : By xs) (by_ : By ys) :
    Calls Try.prog 8 #[.agg #[.int .i64 k1, u], .agg #[.int .i64 k2, v], .int .i64 m, .int .i64 n] w fun e w' => e = .returned (.bool true) ∧ Below w.heap.size w w' := by
  obtain ⟨a, ca, rfl, _⟩ := id hx
  obtain ⟨b, cb, rfl, _⟩ := id hy
  have HX : Hid (Rd .u8 w (.slice a xs.length ca) xs) := hx
  have HY : Hid (Rd .u8 w (.slice b ys.length cb) ys) := hy
  have BX : Hid (By xs) := bx
  have BY : Hid (By ys) := by_
  obtain ⟨l1, hl1⟩ : ∃ l, Hid (xs.length = l) := ⟨_, rfl⟩
  obtain ⟨l2, hl2⟩ : ∃ l, Hid (ys.length = l) := ⟨_, rfl⟩
  rw [hl1.out] at HX ⊢
  rw [hl2.out] at HY ⊢
  obtain ⟨W1, hW1⟩ : ∃ W1, w.alloc (.cells #[.int .i64 k1, .slice a l1 ca] 24) = W1 := ⟨_, rfl⟩
  obtain ⟨W2, hW2⟩ : ∃ W2, W1.alloc (.cells #[.int .i64 k2, .slice b l2 cb] 24) = W2 := ⟨_, rfl⟩
  have s1 : W1.heap.size = w.heap.size + 1 := by rw [← hW1]; simp
  have b1 : Below w.heap.size w W1 := by rw [← hW1]; exact (Below.refl _ _).alloc (Nat.le_refl _) _
  have b2 : Below W1.heap.size W1 W2 := by rw [← hW2]; exact (Below.refl _ _).alloc (Nat.le_refl _) _
  have B2 : Hid (Below w.heap.size w W2) := b1.trans (b2.mono (by omega))
  have Q1 : Bkv W1 w.heap.size k1 (.slice a l1 ca) := by rw [← hW1]; exact bkv_new w _ _
  have P2 : Hid (Bkv W2 w.heap.size k1 (.slice a l1 ca)) := Q1.below b2
  have R2 : Hid (Bkv W2 (w.heap.size + 1) k2 (.slice b l2 cb)) := by rw [← hW2, ← s1]; exact bkv_new W1 _ _
  have HP1 := hideP (put_any m k1 _ xs W2 (HX.out.below B2.out) BX.out)
  unfold blk at HP1
  have p0 := P2.out.c0
  have p1 := P2.out.c1
  have r0 := R2.out.c0
  have r1 := R2.out.c1
  clear hx hy bx by_ b1 b2 Q1
  go_enter Try.func8, Try.ntmps8
  go_wp2_with fail
  refine HP1.out.mono ?_
  rintro e w3 ⟨v3, c3, rfl, b3, n3, h3⟩
  have P3 : Hid (Bkv w3 w.heap.size k1 (.slice a l1 ca)) := P2.out.below b3
  have R3 : Hid (Bkv w3 (w.heap.size + 1) k2 (.slice b l2 cb)) := R2.out.below b3
  have B3 : Hid (Below w.heap.size w w3) := B2.out.trans (b3.mono B2.out.size)
  have HP2 := hideP (put_any n k2 _ ys w3 (HY.out.below B3.out) BY.out)
  unfold blk at HP2
  have H3 : Hid ((mayK m k1 xs.length = true ∧ c3 = 0 ∧ Rd .u8 w3 v3 (sec m k1 xs)) ∨ (mayK m k1 xs.length = false ∧ c3 = 1 ∧ v3 = .slice none 0 0)) := by
    rcases h3 with ⟨h1, h2, h3, _⟩ | h
    · exact .inl ⟨h1, h2, h3.rd⟩
    · exact .inr h
  clear hW1 hW2 s1 b3 n3 h3 p0 p1 r0 r1
  have p0 := P3.out.c0
  have p1 := P3.out.c1
  have r0 := R3.out.c0
  have r1 := R3.out.c1
  go_wp2_with fail
  refine HP2.out.mono ?_
  rintro e w4 ⟨v4, c4, rfl, b4, n4, h4⟩
  have P4 : Hid (Bkv w4 w.heap.size k1 (.slice a l1 ca)) := P3.out.below b4
  have R4 : Hid (Bkv w4 (w.heap.size + 1) k2 (.slice b l2 cb)) := R3.out.below b4
  have B4 : Hid (Below w.heap.size w w4) := B3.out.trans (b4.mono B3.out.size)
  have HB4 : Hid (Below w3.heap.size w3 w4) := b4
  have H4 : Hid ((mayK n k2 ys.length = true ∧ c4 = 0 ∧ Rd .u8 w4 v4 (sec n k2 ys)) ∨ (mayK n k2 ys.length = false ∧ c4 = 1 ∧ v4 = .slice none 0 0)) := by
    rcases h4 with ⟨h1, h2, h3, _⟩ | h
    · exact .inl ⟨h1, h2, h3.rd⟩
    · exact .inr h
  clear b4 n4 h4 p0 p1 r0 r1
  rcases H3.out with ⟨g1, rfl, g3⟩ | ⟨_, rfl, rfl⟩
  · rcases H4.out with ⟨g4, rfl, g6⟩ | ⟨_, rfl, rfl⟩
    · have M1 : Hid (mayK m k1 xs.length = true) := g1
      have M2 : Hid (mayK n k2 ys.length = true) := g4
      have HS1 := hideP (same_rd v3 v4 _ _ w4 (g3.below HB4.out) g6)
      have p0 := P4.out.c0
      have p1 := P4.out.c1
      have r0 := R4.out.c0
      have r1 := R4.out.c1
      clear g1 g3 g4 g6 H3 H4
      go_wp2_with fail
      refine HS1.out.mono ?_
      rintro e w5 ⟨rfl, b5⟩
      have P5 : Hid (Bkv w5 w.heap.size k1 (.slice a l1 ca)) := P4.out.below b5
      have R5 : Hid (Bkv w5 (w.heap.size + 1) k2 (.slice b l2 cb)) := R4.out.below b5
      have B5 : Hid (Below w.heap.size w w5) := B4.out.trans (b5.mono B4.out.size)
      have HS2 := hideP (same2_any k1 k2 _ _ xs ys w5 (HX.out.below B5.out) (HY.out.below B5.out))
      unfold blk at HS2
      obtain ⟨s1, hs1⟩ : ∃ s1, decide (sec m k1 xs = sec n k2 ys) = s1 := ⟨_, rfl⟩
      obtain ⟨s2, hs2⟩ : ∃ s2, (decide (k1 = k2) && decide (xs = ys)) = s2 := ⟨_, rfl⟩
      rw [hs2] at HS2
      rw [hs1]
      have HEQ : Hid (s1 = (s2 && decide (m = n))) := by
        show _ = _
        rw [← hs1, ← hs2, Bool.eq_iff_iff]
        simp only [decide_eq_true_eq, Bool.and_eq_true]
        constructor
        · intro e
          obtain ⟨e1, e2, e3⟩ := sec_inj M1.out M2.out e
          exact ⟨⟨e2, e3⟩, e1⟩
        · rintro ⟨⟨rfl, rfl⟩, rfl⟩
          rfl
      clear hs1 hs2 p0 p1 r0 r1 b5
      have p0 := P5.out.c0
      have p1 := P5.out.c1
      have r0 := R5.out.c0
      have r1 := R5.out.c1
      go_wp2_with fail
      refine HS2.out.mono ?_
      rintro e w6 ⟨rfl, b6⟩
      have B6 : Hid (Below w.heap.size w w6) := B5.out.trans (b6.mono B5.out.size)
      clear b6 p0 p1 r0 r1
      by_cases hmn : m = n
      · have hd : (m == n) = true := by rw [beq_iff_eq]; exact hmn
        have e1 : s1 = s2 := by rw [HEQ.out, decide_eq_true hmn, Bool.and_true]
        subst e1
        have HMN : Hid (m = n) := hmn
        clear hmn
        cases s1 with
        | true =>
          go_wp2_with fail
          refine (lives_anyB w6).mono ?_
          rintro e w7 ⟨rfl, b7⟩
          go_wp2_with fail
          go_ret
          exact ⟨rfl, B6.out.trans (b7.mono B6.out.size)⟩
        | false =>
          go_wp2_with fail
          refine (lives_anyB w6).mono ?_
          rintro e w7 ⟨rfl, b7⟩
          go_wp2_with fail
          go_ret
          exact ⟨rfl, B6.out.trans (b7.mono B6.out.size)⟩
      · have hd : (m == n) = false := by rw [beq_eq_false_iff_ne]; exact hmn
        have e1 : s1 = false := by rw [HEQ.out, decide_eq_false hmn, Bool.and_false]
        subst e1
        clear hmn
        cases s2 with
        | true =>
          go_wp2_with fail
          refine (lives_anyB w6).mono ?_
          rintro e w7 ⟨rfl, b7⟩
          go_wp2_with fail
          go_ret
          exact ⟨rfl, B6.out.trans (b7.mono B6.out.size)⟩
        | false =>
          go_wp2_with fail
          refine (lives_anyB w6).mono ?_
          rintro e w7 ⟨rfl, b7⟩
          go_wp2_with fail
          go_ret
          exact ⟨rfl, B6.out.trans (b7.mono B6.out.size)⟩
    · clear H3 H4 g1 g3
      go_wp2_with fail
      refine (lives_anyB w4).mono ?_
      rintro e w7 ⟨rfl, b7⟩
      go_wp2_with fail
      go_ret
      exact ⟨rfl, B4.out.trans (b7.mono B4.out.size)⟩
  · clear H3
    rcases H4.out with ⟨_, rfl, _⟩ | ⟨_, rfl, _⟩
    · clear H4
      go_wp2_with fail
      refine (lives_anyB w4).mono ?_
      rintro e w7 ⟨rfl, b7⟩
      go_wp2_with fail
      go_ret
      exact ⟨rfl, B4.out.trans (b7.mono B4.out.size)⟩
    · clear H4
      go_wp2_with fail
      refine (lives_anyB w4).mono ?_
      rintro e w7 ⟨rfl, b7⟩
      go_wp2_with fail
      go_ret
      exact ⟨rfl, B4.out.trans (b7.mono B4.out.size)⟩
end Go.Proofs.Ytmidcmliiofefaa
