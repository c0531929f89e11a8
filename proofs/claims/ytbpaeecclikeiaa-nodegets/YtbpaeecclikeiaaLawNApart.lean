/-
  NodeApart: two nodes have the same block just if they are the same: for every two nodes the law answers true.
-/
import Derived.Test.YtbpaeecclikeiaaNLives
import Derived.Test.YtbpaeecclikeiaaNOf
import Derived.Test.YtbpaeecclikeiaaNSame
import Derived.Test.YtbpaeecclikeiaaNBSame
namespace Go.Proofs.Ytbpaeecclikeiaa
open Go.RowKit Pl
set_option linter.unusedVariables false
set_option linter.unusedSimpArgs false
set_option maxRecDepth 100000

/-- What Put tells, whatever it is asked. -/
def PutW (n : Nd) (w : World) (e : Ending) (w' : World) : Prop := ∃ (K : Int) (v : Value) (E : Int) (xs : List Int), e = .returned (.tuple #[.agg #[.int .i64 K, v], .int .i64 E]) ∧ Rd .u8 w' v xs ∧ Below w.heap.size w w' ∧
  ((mayN n = true ∧ K = kdN n.lf ∧ E = 0 ∧ xs = encN n n.ks.length) ∨ (mayN n = false ∧ K = 0 ∧ E = 1 ∧ xs = []))
theorem put_all (n : Nd) (u1 u2 u3 : Value) (w : World) (h : Nn w n u1 u2 u3) (hs : Sm n) : Calls Try.prog 14 #[nod n.lf u1 u2 u3] w fun e w' => PutW n w e w' := by
  cases hm : mayN n with
  | true =>
    refine (put_ok n u1 u2 u3 w h hs hm).mono ?_
    rintro e w' ⟨⟨v, rfl, r⟩, b⟩
    exact ⟨_, v, 0, _, rfl, r, b, .inl ⟨hm, rfl, rfl, rfl⟩⟩
  | false =>
    refine (put_bad n u1 u2 u3 w h hs hm).mono ?_
    rintro e w' ⟨rfl, b⟩
    exact ⟨0, _, 1, [], rfl, rd_none _, b, .inr ⟨hm, rfl, rfl, rfl⟩⟩

set_option maxHeartbeats 1000000 in
theorem nodeApart_walk (m n : Nd) (x1 x2 x3 u1 u2 u3 : Value) (w : World) (hm : Nn w m x1 x2 x3) (hms : Sm m) (h : Nn w n u1 u2 u3) (hs : Sm n) :
    Calls Try.prog 8 #[nod m.lf x1 x2 x3, nod n.lf u1 u2 u3] w fun e w' => e = .returned (.bool true) ∧ Below w.heap.size w w' := by
  obtain ⟨d1, f1, d2, f2, d3, f3, rfl, rfl, rfl, _, _, _, _⟩ := hm.out
  obtain ⟨a1, c1, a2, c2, a3, c3, rfl, rfl, rfl, _, _, _, _⟩ := h.out
  have HM := hideN hm
  have HN := hideN h
  have HMS := hideN hms
  have HNS := hideN hs
  obtain ⟨M1, hM1⟩ : ∃ L, Hid (m.ks.length = L) := ⟨_, rfl⟩
  obtain ⟨M2, hM2⟩ : ∃ L, Hid (m.vs.length = L) := ⟨_, rfl⟩
  obtain ⟨M3, hM3⟩ : ∃ L, Hid (m.kd.length = L) := ⟨_, rfl⟩
  obtain ⟨L1, hL1⟩ : ∃ L, Hid (n.ks.length = L) := ⟨_, rfl⟩
  obtain ⟨L2, hL2⟩ : ∃ L, Hid (n.vs.length = L) := ⟨_, rfl⟩
  obtain ⟨L3, hL3⟩ : ∃ L, Hid (n.kd.length = L) := ⟨_, rfl⟩
  rw [hM1.out, hM2.out, hM3.out] at HM
  rw [hL1.out, hL2.out, hL3.out] at HN
  rw [hM1.out, hM2.out, hM3.out, hL1.out, hL2.out, hL3.out]
  obtain ⟨mf, hmf⟩ : ∃ lf, Hid (m.lf = lf) := ⟨_, rfl⟩
  obtain ⟨lf, hlf⟩ : ∃ lf, Hid (n.lf = lf) := ⟨_, rfl⟩
  rw [hmf.out, hlf.out]
  unfold nod
  obtain ⟨W1, hW1⟩ : ∃ W1, w.alloc (.cells #[.bool mf, .slice d1 M1 f1, .slice d2 M2 f2, .slice d3 M3 f3] 25) = W1 := ⟨_, rfl⟩
  obtain ⟨W2, hW2⟩ : ∃ W2, W1.alloc (.cells #[.bool lf, .slice a1 L1 c1, .slice a2 L2 c2, .slice a3 L3 c3] 25) = W2 := ⟨_, rfl⟩
  have b1 : Below w.heap.size w W1 := by rw [← hW1]; exact below_alloc _ _
  have b2 : Below W1.heap.size W1 W2 := by rw [← hW2]; exact below_alloc _ _
  have B2 : Hid (Below w.heap.size w W2) := b1.trans (b2.mono b1.size)
  have X1 : Nb W1 25 w.heap.size mf (.slice d1 M1 f1) (.slice d2 M2 f2) (.slice d3 M3 f3) := by rw [← hW1]; exact nb_new _ _ _ _ _ _
  have X2 := hideN (X1.below b2)
  have Y2 : Hid (Nb W2 25 W1.heap.size lf (.slice a1 L1 c1) (.slice a2 L2 c2) (.slice a3 L3 c3)) := by rw [← hW2]; exact nb_new _ _ _ _ _ _
  have M2' := hideN (HM.out.below B2.out)
  have N2' := hideN (HN.out.below B2.out)
  have HO1 : Hid (∀ W, Below W2.heap.size W2 W → Calls Try.prog 9 #[.agg #[.bool mf, .slice d1 M1 f1, .slice d2 M2 f2, .slice d3 M3 f3]] W fun e w' => (∃ v1 v2 v3, e = .returned (nod mf v1 v2 v3) ∧ Nn w' m v1 v2 v3) ∧ Below W.heap.size W w') := fun W hb => by
    have := of_any m _ _ _ W (M2'.out.below hb) HMS.out
    rw [hmf.out] at this
    exact this
  have HO2 : Hid (∀ W, Below W2.heap.size W2 W → Calls Try.prog 9 #[.agg #[.bool lf, .slice a1 L1 c1, .slice a2 L2 c2, .slice a3 L3 c3]] W fun e w' => (∃ v1 v2 v3, e = .returned (nod lf v1 v2 v3) ∧ Nn w' n v1 v2 v3) ∧ Below W.heap.size W w') := fun W hb => by
    have := of_any n _ _ _ W (N2'.out.below hb) HNS.out
    rw [hlf.out] at this
    exact this
  have HP1 : Hid (∀ W v1 v2 v3, Nn W m v1 v2 v3 → Calls Try.prog 14 #[nod mf v1 v2 v3] W fun e w' => PutW m W e w') := fun W v1 v2 v3 hn => by
    have := put_all m _ _ _ W hn HMS.out
    rw [hmf.out] at this
    exact this
  have HP2 : Hid (∀ W v1 v2 v3, Nn W n v1 v2 v3 → Calls Try.prog 14 #[nod lf v1 v2 v3] W fun e w' => PutW n W e w') := fun W v1 v2 v3 hn => by
    have := put_all n _ _ _ W hn HNS.out
    rw [hlf.out] at this
    exact this
  have HSA : Hid (∀ W v1 v2 v3, Below W2.heap.size W2 W → Nn W m v1 v2 v3 → Calls Try.prog 17 #[nod mf v1 v2 v3, .agg #[.bool lf, .slice a1 L1 c1, .slice a2 L2 c2, .slice a3 L3 c3]] W fun e w' => e = .returned (.bool (eqN m n)) ∧ Below W.heap.size W w') := fun W v1 v2 v3 hb hn => by
    have := sameN_any m n _ _ _ _ _ _ W hn (N2'.out.below hb)
    rw [hmf.out, hlf.out] at this
    exact this
  have HEQ : Hid (mayN m = true → mayN n = true → (decide (kdN m.lf = kdN n.lf) && decide (encN m m.ks.length = encN n n.ks.length)) = eqN m n) := fun e1 e2 => by
    have r1 := may_real (mayN_iff.1 e1) (by have := HMS.out.kl; omega)
    have r2 := may_real (mayN_iff.1 e2) (by have := HNS.out.kl; omega)
    cases hq : eqN m n with
    | true =>
      have := eqN_iff.1 hq
      subst this
      simp
    | false =>
      rw [Bool.and_eq_false_iff]
      by_cases hk : kdN m.lf = kdN n.lf
      · right
        rw [decide_eq_false_iff_not]
        intro he
        have hl : m.lf = n.lf := by have h1 := kdN_lf m.lf; have h2 := kdN_lf n.lf; rw [hk] at h1; rw [← h1, h2]
        have := eqN_iff.2 (enc_inj r1 r2 hl he)
        rw [hq] at this
        cases this
      · left
        rw [decide_eq_false_iff_not]
        exact hk
  obtain ⟨q, hq⟩ : ∃ b, Hid (eqN m n = b) := ⟨_, rfl⟩
  rw [hq.out] at HSA HEQ
  have p0 := X2.out.c0
  have p1 := X2.out.c1
  have p2 := X2.out.c2
  have p3 := X2.out.c3
  clear hm h hms hs b1 b2 X1 HM HN
  go_enter Try.func8, Try.ntmps8
  go_wp2_with fail
  refine (HO1.out W2 (Below.refl _ _)).mono ?_
  rintro e w3 ⟨⟨v1, v2, v3, rfl, n3⟩, b3⟩
  have B3 := hideN b3
  have N3 := hideN n3
  clear b3 n3 p0 p1 p2 p3 hW1 hW2
  go_wp2_with fail
  refine (HP1.out w3 v1 v2 v3 N3.out).mono ?_
  rintro e w4 ⟨K1, y1, E1, xs1, rfl, r4, b4, h4⟩
  obtain ⟨ya, yc, ey, _⟩ := id r4
  obtain ⟨yl, hyl⟩ : ∃ l, Hid (xs1.length = l) := ⟨_, rfl⟩
  rw [hyl.out] at ey
  subst ey
  obtain ⟨W5, hW5⟩ : ∃ W5, w4.alloc (.cells #[.int .i64 K1, .slice ya yl yc] 34) = W5 := ⟨_, rfl⟩
  have b5 : Below w4.heap.size w4 W5 := by rw [← hW5]; exact below_alloc _ _
  have B5 : Hid (Below W2.heap.size W2 W5) := (B3.out.trans (b4.mono B3.out.size)).trans (b5.mono (by have := B3.out.size; have := b4.size; omega))
  have K5 : Hid (Kb W5 w4.heap.size K1 (.slice ya yl yc)) := by rw [← hW5]; exact kb_new _ _ _
  have R5 := hideN (r4.below b5)
  have H4 := hideN h4
  have Y5 := hideN (Y2.out.below B5.out)
  have p0 := Y5.out.c0
  have p1 := Y5.out.c1
  have p2 := Y5.out.c2
  have p3 := Y5.out.c3
  clear r4 b4 b5 h4 B3 N3
  go_wp2_with fail
  refine (HO2.out W5 B5.out).mono ?_
  rintro e w6 ⟨⟨g1, g2, g3, rfl, n6⟩, b6⟩
  have B6 : Hid (Below W2.heap.size W2 w6) := B5.out.trans (b6.mono B5.out.size)
  have K6 := hideN (K5.out.below b6)
  have R6 := hideN (R5.out.below b6)
  have N6 := hideN n6
  clear b6 n6 p0 p1 p2 p3 hW5 B5 K5 R5 Y5
  go_wp2_with fail
  refine (HP2.out w6 g1 g2 g3 N6.out).mono ?_
  rintro e w7 ⟨K2, y2, E2, xs2, rfl, r7, b7, h7⟩
  obtain ⟨za, zc, ez, _⟩ := id r7
  obtain ⟨zl, hzl⟩ : ∃ l, Hid (xs2.length = l) := ⟨_, rfl⟩
  rw [hzl.out] at ez
  subst ez
  obtain ⟨W8, hW8⟩ : ∃ W8, w7.alloc (.cells #[.int .i64 K2, .slice za zl zc] 34) = W8 := ⟨_, rfl⟩
  have b8 : Below w7.heap.size w7 W8 := by rw [← hW8]; exact below_alloc _ _
  have b78 : Below w6.heap.size w6 W8 := b7.trans (b8.mono b7.size)
  have B8 : Hid (Below W2.heap.size W2 W8) := B6.out.trans (b78.mono B6.out.size)
  have K8 := hideN (K6.out.below b78)
  have R8 := hideN (R6.out.below b78)
  have J8 : Hid (Kb W8 w7.heap.size K2 (.slice za zl zc)) := by rw [← hW8]; exact kb_new _ _ _
  have S8 := hideN (r7.below b8)
  have H7 := hideN h7
  have BF8 : Hid (Below w.heap.size w W8) := B2.out.trans (B8.out.mono B2.out.size)
  clear r7 b7 b8 b78 h7 B6 K6 R6 N6
  rcases H4.out with ⟨m1, rfl, rfl, x1⟩ | ⟨m1, rfl, rfl, x1⟩
  · rcases H7.out with ⟨m2, rfl, rfl, x2⟩ | ⟨m2, rfl, rfl, x2⟩
    · have HE2 : Hid ((decide (kdN m.lf = kdN n.lf) && decide (xs1 = xs2)) = q) := by rw [x1, x2]; exact HEQ.out m1 m2
      obtain ⟨k1, hk1⟩ : ∃ k, Hid (kdN m.lf = k) := ⟨_, rfl⟩
      obtain ⟨k2, hk2⟩ : ∃ k, Hid (kdN n.lf = k) := ⟨_, rfl⟩
      rw [hk1.out] at K8 HE2 ⊢
      rw [hk2.out] at J8 HE2 hW8 ⊢
      have HSM := hideN (sameB_any k1 k2 _ _ xs1 xs2 W8 R8.out S8.out)
      rw [HE2.out] at HSM
      unfold blN at HSM
      have p0 := K8.out.c0
      have p1 := K8.out.c1
      have p2 := J8.out.c0
      have p3 := J8.out.c1
      clear m1 m2 x1 x2 H4 H7 HEQ
      go_wp2_with fail
      refine HSM.out.mono ?_
      rintro e w9 ⟨rfl, b9⟩
      have B9 : Hid (Below W2.heap.size W2 w9) := B8.out.trans (b9.mono B8.out.size)
      have HST : Hid (∀ w', Below W2.heap.size W2 w' → w'.cell? ⟨w.heap.size, 0, none⟩ = some (.bool mf) ∧ w'.cell? ⟨w.heap.size, 1, none⟩ = some (.slice d1 M1 f1) ∧ w'.cell? ⟨w.heap.size, 2, none⟩ = some (.slice d2 M2 f2) ∧ w'.cell? ⟨w.heap.size, 3, none⟩ = some (.slice d3 M3 f3) ∧ w'.cell? ⟨W1.heap.size, 0, none⟩ = some (.bool lf) ∧ w'.cell? ⟨W1.heap.size, 1, none⟩ = some (.slice a1 L1 c1) ∧ w'.cell? ⟨W1.heap.size, 2, none⟩ = some (.slice a2 L2 c2) ∧ w'.cell? ⟨W1.heap.size, 3, none⟩ = some (.slice a3 L3 c3)) := fun w' hb => by have x := X2.out.below hb; have y := Y2.out.below hb; exact ⟨x.c0, x.c1, x.c2, x.c3, y.c0, y.c1, y.c2, y.c3⟩
      have hb9 : Below W2.heap.size W2 w9.drew := B9.out.trans ((Below.refl _ _).drew)
      have hS : w9.drew.cell? ⟨w.heap.size, 0, none⟩ = some (.bool mf) ∧ w9.drew.cell? ⟨w.heap.size, 1, none⟩ = some (.slice d1 M1 f1) ∧ w9.drew.cell? ⟨w.heap.size, 2, none⟩ = some (.slice d2 M2 f2) ∧ w9.drew.cell? ⟨w.heap.size, 3, none⟩ = some (.slice d3 M3 f3) ∧ w9.drew.cell? ⟨W1.heap.size, 0, none⟩ = some (.bool lf) ∧ w9.drew.cell? ⟨W1.heap.size, 1, none⟩ = some (.slice a1 L1 c1) ∧ w9.drew.cell? ⟨W1.heap.size, 2, none⟩ = some (.slice a2 L2 c2) ∧ w9.drew.cell? ⟨W1.heap.size, 3, none⟩ = some (.slice a3 L3 c3) := HST.out _ hb9
      clear p0 p1 p2 p3 b9 hW8
      go_wp2_with fail
      go_region_held3 (fun w' => w'.cell? ⟨w.heap.size, 0, none⟩ = some (.bool mf) ∧ w'.cell? ⟨w.heap.size, 1, none⟩ = some (.slice d1 M1 f1) ∧ w'.cell? ⟨w.heap.size, 2, none⟩ = some (.slice d2 M2 f2) ∧ w'.cell? ⟨w.heap.size, 3, none⟩ = some (.slice d3 M3 f3) ∧ w'.cell? ⟨W1.heap.size, 0, none⟩ = some (.bool lf) ∧ w'.cell? ⟨W1.heap.size, 1, none⟩ = some (.slice a1 L1 c1) ∧ w'.cell? ⟨W1.heap.size, 2, none⟩ = some (.slice a2 L2 c2) ∧ w'.cell? ⟨W1.heap.size, 3, none⟩ = some (.slice a3 L3 c3)) (first | exact hSB | exact hSA | exact hS | go_keep)
        (first
          | (go_at_call 9; refine (HO1.out _ hb9).mono ?_; rintro e wA ⟨⟨o1, o2, o3, rfl, nA⟩, bA⟩; have hbA : Below W2.heap.size W2 wA := hb9.trans (bA.mono hb9.size); have hSA := HST.out wA hbA)
          | (go_at_call 17; refine (HSA.out _ o1 o2 o3 hbA nA).mono ?_; rintro e wB ⟨rfl, bB⟩; have hbB : Below W2.heap.size W2 wB := hbA.trans (bB.mono hbA.size); have hSB := HST.out wB hbB))
      have BB : Hid (Below w.heap.size w wB) := B2.out.trans (hbB.mono B2.out.size)
      clear hS hSA hSB hbB bB hbA bA nA hb9 HST
      cases q <;>
        (go_wp2_with fail
         refine (lives_anyN wB).mono ?_
         rintro e wC ⟨rfl, bC⟩
         go_wp2_with fail
         go_ret
         exact ⟨rfl, BB.out.trans (bC.mono BB.out.size)⟩)
    · clear m1 m2 x1 x2 H4 H7 HEQ
      go_wp2_with fail
      refine (lives_anyN W8).mono ?_
      rintro e wC ⟨rfl, bC⟩
      go_wp2_with fail
      go_ret
      exact ⟨rfl, BF8.out.trans (bC.mono BF8.out.size)⟩
  · clear m1 x1 H4 H7 HEQ
    go_wp2_with fail
    refine (lives_anyN W8).mono ?_
    rintro e wC ⟨rfl, bC⟩
    go_wp2_with fail
    go_ret
    exact ⟨rfl, BF8.out.trans (bC.mono BF8.out.size)⟩
end Go.Proofs.Ytbpaeecclikeiaa
