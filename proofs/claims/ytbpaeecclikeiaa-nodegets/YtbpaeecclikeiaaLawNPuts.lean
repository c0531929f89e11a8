/-
  NodePuts: a node is written as the document says, or refused, and read again: for every node the law answers true.
-/
import Derived.Test.YtbpaeecclikeiaaLawNApart
import Derived.Test.YtbpaeecclikeiaaNRPut
namespace Go.Proofs.Ytbpaeecclikeiaa
open Go.RowKit Pl
set_option linter.unusedVariables false
set_option linter.unusedSimpArgs false
set_option maxRecDepth 100000

theorem refPut_all (n : Nd) (u1 u2 u3 : Value) (w : World) (h : Nn w n u1 u2 u3) (hs : Sm n) : Calls Try.prog 15 #[nod n.lf u1 u2 u3] w fun e w' => PutW n w e w' := by
  cases hm : mayN n with
  | true =>
    refine (refPut_ok n u1 u2 u3 w h hs hm).mono ?_
    rintro e w' ⟨⟨v, rfl, r⟩, b⟩
    exact ⟨_, v, 0, _, rfl, r, b, .inl ⟨hm, rfl, rfl, rfl⟩⟩
  | false =>
    refine (refPut_bad n u1 u2 u3 w h hs hm).mono ?_
    rintro e w' ⟨rfl, b⟩
    exact ⟨0, _, 1, [], rfl, rd_none _, b, .inr ⟨hm, rfl, rfl, rfl⟩⟩

set_option maxHeartbeats 2000000 in
theorem nodePuts_walk (n : Nd) (u1 u2 u3 : Value) (w : World) (h : Nn w n u1 u2 u3) (hs : Sm n) :
    Calls Try.prog 3 #[nod n.lf u1 u2 u3] w fun e w' => e = .returned (.bool true) ∧ Below w.heap.size w w' := by
  obtain ⟨a1, c1, a2, c2, a3, c3, rfl, rfl, rfl, ⟨l1, l2, l3, l4, l5, l6⟩, _, _, _⟩ := h.out
  have H := hideN h
  have HS := hideN hs
  obtain ⟨L1, hL1⟩ : ∃ L, Hid (n.ks.length = L) := ⟨_, rfl⟩
  obtain ⟨L2, hL2⟩ : ∃ L, Hid (n.vs.length = L) := ⟨_, rfl⟩
  obtain ⟨L3, hL3⟩ : ∃ L, Hid (n.kd.length = L) := ⟨_, rfl⟩
  rw [hL1.out] at H l1 ⊢
  rw [hL2.out] at H l3 ⊢
  rw [hL3.out] at H l5 ⊢
  obtain ⟨lf, hlf⟩ : ∃ lf, Hid (n.lf = lf) := ⟨_, rfl⟩
  rw [hlf.out]
  unfold nod
  obtain ⟨W1, hW1⟩ : ∃ W1, w.alloc (.cells #[.bool lf, .slice a1 L1 c1, .slice a2 L2 c2, .slice a3 L3 c3] 25) = W1 := ⟨_, rfl⟩
  have B1 : Hid (Below w.heap.size w W1) := by rw [← hW1]; exact below_alloc _ _
  have V1 : Hid (Nb W1 25 w.heap.size lf (.slice a1 L1 c1) (.slice a2 L2 c2) (.slice a3 L3 c3)) := by rw [← hW1]; exact nb_new _ _ _ _ _ _
  have H1 : Hid (Nn W1 n (.slice a1 L1 c1) (.slice a2 L2 c2) (.slice a3 L3 c3)) := H.out.below B1.out
  obtain ⟨mn, hmn⟩ : ∃ b, Hid (mayN n = b) := ⟨_, rfl⟩
  obtain ⟨z, hz⟩ : ∃ b, Hid (W (szN n n.ks.length) = b) := ⟨_, rfl⟩
  have HOF : Hid (∀ W, Below W1.heap.size W1 W → Calls Try.prog 9 #[.agg #[.bool lf, .slice a1 L1 c1, .slice a2 L2 c2, .slice a3 L3 c3]] W fun e w' => (∃ v1 v2 v3, e = .returned (nod lf v1 v2 v3) ∧ Nn w' n v1 v2 v3) ∧ Below W.heap.size W w') := fun W hb => by
    have := of_any n _ _ _ W (H1.out.below hb) HS.out
    rw [hlf.out] at this
    exact this
  have HRM : Hid (∀ W, Below W1.heap.size W1 W → Calls Try.prog 10 #[.agg #[.bool lf, .slice a1 L1 c1, .slice a2 L2 c2, .slice a3 L3 c3]] W fun e w' => e = .returned (.bool mn) ∧ Below W.heap.size W w') := fun W hb => by
    have := refMay_any n _ _ _ W (H1.out.below hb) HS.out
    rw [hlf.out, hmn.out] at this
    exact this
  have HRS : Hid (∀ W, Below W1.heap.size W1 W → Calls Try.prog 11 #[.agg #[.bool lf, .slice a1 L1 c1, .slice a2 L2 c2, .slice a3 L3 c3]] W fun e w' => e = .returned (.int .i64 z) ∧ Below W.heap.size W w') := fun W hb => by
    have := refSize_any n _ _ _ W (H1.out.below hb) HS.out
    rw [hlf.out, hz.out] at this
    exact this
  have HPM : Hid (∀ W v1 v2 v3, Nn W n v1 v2 v3 → Calls Try.prog 12 #[nod lf v1 v2 v3] W fun e w' => e = .returned (.bool mn) ∧ Below W.heap.size W w') := fun W v1 v2 v3 hn => by
    have := may_any n _ _ _ W hn HS.out
    rw [hlf.out, hmn.out] at this
    exact this
  have HPS : Hid (∀ W v1 v2 v3, Nn W n v1 v2 v3 → Calls Try.prog 13 #[nod lf v1 v2 v3] W fun e w' => e = .returned (.int .i64 z) ∧ Below W.heap.size W w') := fun W v1 v2 v3 hn => by
    have := size_any n _ _ _ W hn HS.out
    rw [hlf.out, hz.out] at this
    exact this
  have HPP : Hid (∀ W v1 v2 v3, Nn W n v1 v2 v3 → Calls Try.prog 14 #[nod lf v1 v2 v3] W fun e w' => PutW n W e w') := fun W v1 v2 v3 hn => by
    have := put_all n _ _ _ W hn HS.out
    rw [hlf.out] at this
    exact this
  have HRP : Hid (∀ W, Below W1.heap.size W1 W → Calls Try.prog 15 #[.agg #[.bool lf, .slice a1 L1 c1, .slice a2 L2 c2, .slice a3 L3 c3]] W fun e w' => PutW n W e w') := fun W hb => by
    have := refPut_all n _ _ _ W (H1.out.below hb) HS.out
    rw [hlf.out] at this
    exact this
  have HSA : Hid (∀ W v1 v2 v3, Below W1.heap.size W1 W → Nn W n v1 v2 v3 → Calls Try.prog 17 #[nod lf v1 v2 v3, .agg #[.bool lf, .slice a1 L1 c1, .slice a2 L2 c2, .slice a3 L3 c3]] W fun e w' => e = .returned (.bool true) ∧ Below W.heap.size W w') := fun W v1 v2 v3 hb hn => by
    have := sameN_any n n _ _ _ _ _ _ W hn (H1.out.below hb)
    rw [hlf.out, eqN_iff.2 rfl] at this
    exact this
  have HRL : Hid (mn = true → Rl n) := fun e => may_real (mayN_iff.1 (by rw [hmn.out]; exact e)) (by have := HS.out.kl; omega)
  have HGE : Hid (mn = true → getN (kdN n.lf) (encN n n.ks.length) = some n) := fun e => get_enc (by rw [hmn.out]; exact e) (HRL.out e)
  have zz : (z != z) = false := by simp
  have p0 := V1.out.c0
  have p1 := V1.out.c1
  have p2 := V1.out.c2
  have p3 := V1.out.c3
  clear h hs H
  go_enter Try.func3, Try.ntmps3
  go_wp2_with fail
  refine (HOF.out W1 (Below.refl _ _)).mono ?_
  rintro e w2 ⟨⟨v1, v2, v3, rfl, n2⟩, b2⟩
  obtain ⟨e1, g1, e2, g2, e3, g3, rfl, rfl, rfl, _, _, _, _⟩ := n2.out
  obtain ⟨K1, hK1⟩ : ∃ L, Hid (n.ks.length = L) := ⟨_, rfl⟩
  obtain ⟨K2, hK2⟩ : ∃ L, Hid (n.vs.length = L) := ⟨_, rfl⟩
  obtain ⟨K3, hK3⟩ : ∃ L, Hid (n.kd.length = L) := ⟨_, rfl⟩
  rw [hK1.out, hK2.out, hK3.out] at n2
  rw [hK1.out, hK2.out, hK3.out]
  unfold nod
  obtain ⟨W3, hW3⟩ : ∃ W3, w2.alloc (.cells #[.bool lf, .slice e1 K1 g1, .slice e2 K2 g2, .slice e3 K3 g3] 26) = W3 := ⟨_, rfl⟩
  have b3 : Below w2.heap.size w2 W3 := by rw [← hW3]; exact below_alloc _ _
  have X3 : Hid (Nb W3 26 w2.heap.size lf (.slice e1 K1 g1) (.slice e2 K2 g2) (.slice e3 K3 g3)) := by rw [← hW3]; exact nb_new _ _ _ _ _ _
  have N3 := hideN (n2.below b3)
  have B3 : Hid (Below W1.heap.size W1 W3) := b2.trans (b3.mono b2.size)
  clear p0 p1 p2 p3
  have V3 := V1.out.below B3.out
  have p0 := V3.c0
  have p1 := V3.c1
  have p2 := V3.c2
  have p3 := V3.c3
  clear n2 b2 b3 V3 hW1
  go_wp2_with fail
  refine (HRM.out W3 B3.out).mono ?_
  rintro e w4 ⟨rfl, b4⟩
  have B4 : Hid (Below W1.heap.size W1 w4) := B3.out.trans (b4.mono B3.out.size)
  have D4 : Hid (Below W3.heap.size W3 w4) := b4
  clear p0 p1 p2 p3 b4 hW3
  have V4 := V1.out.below B4.out
  have p0 := V4.c0
  have p1 := V4.c1
  have p2 := V4.c2
  have p3 := V4.c3
  clear V4
  go_wp2_with fail
  refine (HRS.out w4 B4.out).mono ?_
  rintro e w5 ⟨rfl, b5⟩
  have B5 : Hid (Below W1.heap.size W1 w5) := B4.out.trans (b5.mono B4.out.size)
  have D5 : Hid (Below W3.heap.size W3 w5) := D4.out.trans (b5.mono D4.out.size)
  clear p0 p1 p2 p3 b5
  have V5 := X3.out.below D5.out
  have p0 := V5.c0
  have p1 := V5.c1
  have p2 := V5.c2
  have p3 := V5.c3
  clear V5
  go_wp2_with fail
  refine (HPM.out w5 _ _ _ (N3.out.below D5.out)).mono ?_
  rintro e w6 ⟨rfl, b6⟩
  have D6 : Hid (Below W3.heap.size W3 w6) := D5.out.trans (b6.mono D5.out.size)
  clear p0 p1 p2 p3 b6
  have V6 := X3.out.below D6.out
  have p0 := V6.c0
  have p1 := V6.c1
  have p2 := V6.c2
  have p3 := V6.c3
  have mm : (mn != mn) = false := by simp
  clear V6
  go_wp2_with fail
  refine (HPS.out w6 _ _ _ (N3.out.below D6.out)).mono ?_
  rintro e w7 ⟨rfl, b7⟩
  have D7 : Hid (Below W3.heap.size W3 w7) := D6.out.trans (b7.mono D6.out.size)
  clear p0 p1 p2 p3 b7
  have V7 := X3.out.below D7.out
  have p0 := V7.c0
  have p1 := V7.c1
  have p2 := V7.c2
  have p3 := V7.c3
  clear V7
  go_wp2_with fail
  refine (HPP.out w7 _ _ _ (N3.out.below D7.out)).mono ?_
  rintro e w8 ⟨KK, y1, E1, xs1, rfl, r8, b8, h8⟩
  obtain ⟨ya, yc, ey, _⟩ := id r8
  obtain ⟨yl, hyl⟩ : ∃ l, Hid (xs1.length = l) := ⟨_, rfl⟩
  rw [hyl.out] at ey
  subst ey
  obtain ⟨W9, hW9⟩ : ∃ W9, w8.alloc (.cells #[.int .i64 KK, .slice ya yl yc] 34) = W9 := ⟨_, rfl⟩
  have b9 : Below w8.heap.size w8 W9 := by rw [← hW9]; exact below_alloc _ _
  have D9 : Hid (Below W3.heap.size W3 W9) := (D7.out.trans (b8.mono D7.out.size)).trans (b9.mono (by have := D7.out.size; have := b8.size; omega))
  have Q9 : Hid (Kb W9 w8.heap.size KK (.slice ya yl yc)) := by rw [← hW9]; exact kb_new _ _ _
  have R9 := hideN (r8.below b9)
  have H8 := hideN h8
  have B9 : Hid (Below W1.heap.size W1 W9) := B3.out.trans (D9.out.mono B3.out.size)
  clear p0 p1 p2 p3 r8 b8 b9 h8
  have V9 := V1.out.below B9.out
  have p0 := V9.c0
  have p1 := V9.c1
  have p2 := V9.c2
  have p3 := V9.c3
  clear V9
  go_wp2_with fail
  refine (HRP.out W9 B9.out).mono ?_
  rintro e wA ⟨JJ, y2, E2, xs2, rfl, rA, bA, hA⟩
  obtain ⟨za, zc, ez, _⟩ := id rA
  obtain ⟨zl, hzl⟩ : ∃ l, Hid (xs2.length = l) := ⟨_, rfl⟩
  rw [hzl.out] at ez
  subst ez
  obtain ⟨WB, hWB⟩ : ∃ WB, wA.alloc (.cells #[.int .i64 JJ, .slice za zl zc] 34) = WB := ⟨_, rfl⟩
  have bB : Below wA.heap.size wA WB := by rw [← hWB]; exact below_alloc _ _
  have bAB : Below W9.heap.size W9 WB := bA.trans (bB.mono bA.size)
  have DB : Hid (Below W3.heap.size W3 WB) := D9.out.trans (bAB.mono D9.out.size)
  have BB : Hid (Below W1.heap.size W1 WB) := B9.out.trans (bAB.mono B9.out.size)
  have QB := hideN (Q9.out.below bAB)
  have RB := hideN (R9.out.below bAB)
  have JB : Hid (Kb WB wA.heap.size JJ (.slice za zl zc)) := by rw [← hWB]; exact kb_new _ _ _
  have SB := hideN (rA.below bB)
  have HAA := hideN hA
  have HEQ : Hid (KK = JJ ∧ xs1 = xs2 ∧ E1 = E2) := by
    rcases H8.out with ⟨m1, k1, q1, x1⟩ | ⟨m1, k1, q1, x1⟩ <;> rcases HAA.out with ⟨m2, k2, q2, x2⟩ | ⟨m2, k2, q2, x2⟩
    · exact ⟨by rw [k1, k2], by rw [x1, x2], by rw [q1, q2]⟩
    · rw [m1] at m2; cases m2
    · rw [m1] at m2; cases m2
    · exact ⟨by rw [k1, k2], by rw [x1, x2], by rw [q1, q2]⟩
  obtain ⟨q1, q2, q3⟩ := HEQ.out
  subst q1 q2 q3
  have HSM := hideN (sameB_any KK KK _ _ xs1 xs1 WB RB.out SB.out)
  rw [show (decide (KK = KK) && decide (xs1 = xs1)) = true by simp] at HSM
  unfold blN at HSM
  clear p0 p1 p2 p3 rA bA bB bAB hA hW9 HEQ
  have p0 := QB.out.c0
  have p1 := QB.out.c1
  have p2 := JB.out.c0
  have p3 := JB.out.c1
  go_wp2_with fail
  refine HSM.out.mono ?_
  rintro e wC ⟨rfl, bC⟩
  have DC : Hid (Below W3.heap.size W3 wC) := DB.out.trans (bC.mono DB.out.size)
  have BC : Hid (Below W1.heap.size W1 wC) := BB.out.trans (bC.mono BB.out.size)
  have QC := hideN (QB.out.below bC)
  have RC := hideN (RB.out.below bC)
  clear p0 p1 p2 p3 bC hWB
  have VC := V1.out.below BC.out
  have XC := X3.out.below DC.out
  have p0 := VC.c0
  have p1 := VC.c1
  have p2 := VC.c2
  have p3 := VC.c3
  have p4 := XC.c0
  have p5 := XC.c1
  have p6 := XC.c2
  have p7 := XC.c3
  clear VC XC
  have HS1 := hideN (HSA.out wC _ _ _ BC.out (N3.out.below DC.out))
  unfold nod at HS1
  go_wp2_with fail
  refine HS1.out.mono ?_
  rintro e wD ⟨rfl, bD⟩
  have BD : Hid (Below W1.heap.size W1 wD) := BC.out.trans (bD.mono BC.out.size)
  have QD := hideN (QC.out.below bD)
  have RD := hideN (RC.out.below bD)
  have BF : Hid (Below w.heap.size w wD) := B1.out.trans (BD.out.mono B1.out.size)
  clear p0 p1 p2 p3 p4 p5 p6 p7 bD HS1
  have ee : (E1 != E1) = false := by simp
  rcases H8.out with ⟨m1, k1, q1, x1⟩ | ⟨m1, k1, q1, x1⟩
  · rw [hmn.out] at m1
    subst q1
    have HG1 := hideN (HGE.out m1)
    rw [← k1, ← x1] at HG1
    have HBY : Hid (By xs1) := by rw [x1]; exact enc_by (HRL.out m1) _ (Nat.le_refl _)
    have HGA := hideN (get_any KK _ xs1 wD RD.out HBY.out)
    unfold blN at HGA
    have p0 := QD.out.c0
    have p1 := QD.out.c1
    clear m1 k1 x1 H8 HAA HGE HRL ee
    go_wp2_with fail
    refine HGA.out.mono ?_
    rintro e wE ⟨h6, b6⟩
    rw [HG1.out] at h6
    rcases h6 with ⟨n6, t1, t2, t3, en, rfl, n6r⟩ | ⟨h, _⟩
    rotate_left
    · cases h
    obtain rfl := Option.some.inj en
    obtain ⟨i1, j1, i2, j2, i3, j3, rfl, rfl, rfl, _, _, _, _⟩ := n6r.out
    rw [hK1.out, hK2.out, hK3.out] at n6r
    rw [hK1.out, hK2.out, hK3.out, hlf.out]
    unfold nod
    obtain ⟨WF, hWF⟩ : ∃ WF, wE.alloc (.cells #[.bool lf, .slice i1 K1 j1, .slice i2 K2 j2, .slice i3 K3 j3] 26) = WF := ⟨_, rfl⟩
    have bF : Below wE.heap.size wE WF := by rw [← hWF]; exact below_alloc _ _
    have MF : Nb WF 26 wE.heap.size lf (.slice i1 K1 j1) (.slice i2 K2 j2) (.slice i3 K3 j3) := by rw [← hWF]; exact nb_new _ _ _ _ _ _
    have BF2 : Hid (Below W1.heap.size W1 WF) := (BD.out.trans (b6.mono BD.out.size)).trans (bF.mono (by have := BD.out.size; have := b6.size; omega))
    have HS2 := hideN (HSA.out WF _ _ _ BF2.out (n6r.below bF))
    unfold nod at HS2
    have VF := V1.out.below BF2.out
    clear p0 p1 b6 bF n6r
    have p0 := VF.c0
    have p1 := VF.c1
    have p2 := VF.c2
    have p3 := VF.c3
    have p4 := MF.c0
    have p5 := MF.c1
    have p6 := MF.c2
    have p7 := MF.c3
    clear VF MF HGA
    go_wp2_with fail
    refine HS2.out.mono ?_
    rintro e wG ⟨rfl, bG⟩
    have BG : Hid (Below w.heap.size w wG) := B1.out.trans ((BF2.out.trans (bG.mono BF2.out.size)).mono B1.out.size)
    clear p0 p1 p2 p3 p4 p5 p6 p7 bG HS2 hWF
    go_wp2_with fail
    refine (lives_anyN wG).mono ?_
    rintro e wH ⟨rfl, bH⟩
    go_wp2_with fail
    go_ret
    exact ⟨rfl, BG.out.trans (bH.mono BG.out.size)⟩
  · subst q1
    clear m1 k1 x1 H8 HAA HGE HRL ee
    go_wp2_with fail
    refine (lives_anyN wD).mono ?_
    rintro e wH ⟨rfl, bH⟩
    go_wp2_with fail
    go_ret
    exact ⟨rfl, BF.out.trans (bH.mono BF.out.size)⟩
end Go.Proofs.Ytbpaeecclikeiaa
