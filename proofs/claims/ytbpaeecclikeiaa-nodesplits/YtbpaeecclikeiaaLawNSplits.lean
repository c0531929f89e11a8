/-
  NodeSplits: a node is split where the document says, and its two parts joined are the node: for every node the law answers true.
-/
import Derived.Test.YtbpaeecclikeiaaNHalf
import Derived.Test.YtbpaeecclikeiaaNOf
import Derived.Test.YtbpaeecclikeiaaNSame
import Derived.Test.YtbpaeecclikeiaaNLives
namespace Go.Proofs.Ytbpaeecclikeiaa
open Go.RowKit Pl
set_option linter.unusedVariables false
set_option linter.unusedSimpArgs false
set_option maxRecDepth 100000

set_option maxHeartbeats 1000000 in
theorem nodeSplits_walk (n : Nd) (u1 u2 u3 : Value) (w : World) (h : Nn w n u1 u2 u3) (hs : Sm n) :
    Calls Try.prog 6 #[nod n.lf u1 u2 u3] w fun e w' => e = .returned (.bool true) ∧ Below w.heap.size w w' := by
  obtain ⟨a1, c1, a2, c2, a3, c3, rfl, rfl, rfl, ⟨l1, l2, l3, l4, l5, l6⟩, _, _, _⟩ := h.out
  have H := hideN h
  have HS := hideN hs
  obtain ⟨L1, hL1⟩ : ∃ L, Hid (n.ks.length = L) := ⟨_, rfl⟩
  obtain ⟨L2, hL2⟩ : ∃ L, Hid (n.vs.length = L) := ⟨_, rfl⟩
  obtain ⟨L3, hL3⟩ : ∃ L, Hid (n.kd.length = L) := ⟨_, rfl⟩
  rw [hL1.out] at H l1 ⊢
  rw [hL2.out] at H l3 ⊢
  rw [hL3.out] at H l5 ⊢
  obtain ⟨lf, hlf⟩ : ∃ lf, Hid (n.lf = lf) := ⟨_, rfl⟩
  rw [hlf.out]
  unfold nod
  obtain ⟨W1, hW1⟩ : ∃ W1, w.alloc (.cells #[.bool lf, .slice a1 L1 c1, .slice a2 L2 c2, .slice a3 L3 c3] 25) = W1 := ⟨_, rfl⟩
  have B1 : Hid (Below w.heap.size w W1) := by rw [← hW1]; exact below_alloc _ _
  have V1 : Hid (Nb W1 25 w.heap.size lf (.slice a1 L1 c1) (.slice a2 L2 c2) (.slice a3 L3 c3)) := by rw [← hW1]; exact nb_new _ _ _ _ _ _
  have H1 : Hid (Nn W1 n (.slice a1 L1 c1) (.slice a2 L2 c2) (.slice a3 L3 c3)) := H.out.below B1.out
  have HLV : Hid (∀ W, Calls Try.prog 18 #[] W fun e w' => e = .returned (.bool true) ∧ Below W.heap.size W w') := fun W => lives_anyN W
  have HO : Hid (∀ W, Below W1.heap.size W1 W → Calls Try.prog 9 #[.agg #[.bool lf, .slice a1 L1 c1, .slice a2 L2 c2, .slice a3 L3 c3]] W fun e w' => (∃ v1 v2 v3, e = .returned (nod lf v1 v2 v3) ∧ Nn w' n v1 v2 v3) ∧ Below W.heap.size W w') := fun W hb => by
    have := of_any n _ _ _ W (H1.out.below hb) HS.out
    rw [hlf.out] at this
    exact this
  have HSP : Hid (∀ W v1 v2 v3, Nn W n v1 v2 v3 → Calls Try.prog 23 #[nod lf v1 v2 v3] W fun e w' => (∃ k1 k2 k3 o1 o2 o3 A B, e = .returned (.tuple #[nod A.lf k1 k2 k3, nod B.lf o1 o2 o3]) ∧ Nn w' A k1 k2 k3 ∧ Nn w' B o1 o2 o3 ∧ SplR n A B) ∧ Below W.heap.size W w') := fun W v1 v2 v3 hn => by
    have := split_any n _ _ _ W hn HS.out
    rw [hlf.out] at this
    exact this
  have p0 := V1.out.c0
  have p1 := V1.out.c1
  have p2 := V1.out.c2
  have p3 := V1.out.c3
  clear h hs H
  cases lf with
  | true =>
    by_cases e1 : L2 = L1
    · by_cases e2 : L3 = 0
      · subst e2
        subst e1
        go_enter Try.func6, Try.ntmps6
        go_wp2_with fail
        refine (HO.out W1 (Below.refl _ _)).mono ?_
        rintro e w2 ⟨⟨v1, v2, v3, rfl, hN2⟩, b2⟩
        have B2 := hideN b2
        have N2 := hideN hN2
        clear b2 hN2 p0 p1 p2 p3
        go_wp2_with fail
        refine (HSP.out w2 v1 v2 v3 N2.out).mono ?_
        rintro e w3 ⟨⟨k1, k2, k3, o1, o2, o3, A, C, rfl, hA, hC, hR⟩, b3⟩
        have B3 : Hid (Below W1.heap.size W1 w3) := B2.out.trans (b3.mono B2.out.size)
        have HR := hideN hR
        have HA := hideN hA
        have HC := hideN hC
        obtain ⟨q1, j1, q2, j2, q3, j3, rfl, rfl, rfl, _, _, _, _⟩ := hA.out
        obtain ⟨r1, i1, r2, i2, r3, i3, rfl, rfl, rfl, _, _, _, _⟩ := hC.out
        obtain ⟨A1, hA1⟩ : ∃ L, Hid (A.ks.length = L) := ⟨_, rfl⟩
        obtain ⟨A2, hA2⟩ : ∃ L, Hid (A.vs.length = L) := ⟨_, rfl⟩
        obtain ⟨A3, hA3⟩ : ∃ L, Hid (A.kd.length = L) := ⟨_, rfl⟩
        obtain ⟨C1, hC1⟩ : ∃ L, Hid (C.ks.length = L) := ⟨_, rfl⟩
        obtain ⟨C2, hC2⟩ : ∃ L, Hid (C.vs.length = L) := ⟨_, rfl⟩
        obtain ⟨C3, hC3⟩ : ∃ L, Hid (C.kd.length = L) := ⟨_, rfl⟩
        rw [hA1.out, hA2.out, hA3.out] at HA ⊢
        rw [hC1.out, hC2.out, hC3.out] at HC ⊢
        obtain ⟨fa, hfa⟩ : ∃ f, Hid (A.lf = f) := ⟨_, rfl⟩
        obtain ⟨fc, hfc⟩ : ∃ f, Hid (C.lf = f) := ⟨_, rfl⟩
        rw [hfa.out, hfc.out]
        clear b3 hA hC hR B2 N2
        unfold nod
        obtain rfl : fa = true := by rw [← hfa.out, HR.out.leafA, hlf.out]
        have HFC : Hid (2 ≤ L2 → fc = true) := fun h2 => by rw [← hfc.out, HR.out.leafB (by rw [hL1.out]; exact h2), hlf.out]
        have HRF : Hid (∀ W, Below W1.heap.size W1 W → Calls Try.prog 24 #[.agg #[.bool true, .slice a1 L2 c1, .slice a2 L2 c2, .slice a3 0 c3]] W fun e w' => e = .returned (.int .i64 (A1 : Int)) ∧ Below W.heap.size W w') := fun W hb => by
          have := refSplit_any n _ _ _ W (H1.out.below hb) HS.out
          rw [hlf.out] at this
          refine this.mono ?_
          rintro e w' ⟨⟨m, rfl, hm⟩, hb⟩
          have := HR.out.many hm
          rw [hA1.out] at this
          subst this
          exact ⟨rfl, hb⟩
        obtain ⟨YA, hYA⟩ : ∃ Y, w3.alloc (.cells #[.bool false, .slice none 0 0, .slice none 0 0, .slice none 0 0] 26) = Y := ⟨_, rfl⟩
        obtain ⟨YB, hYB⟩ : ∃ Y, YA.alloc (.cells #[.bool false, .slice none 0 0, .slice none 0 0, .slice none 0 0] 26) = Y := ⟨_, rfl⟩
        have sA : YA.heap.size = w3.heap.size + 1 := by rw [← hYA]; simp
        have bA : Below w3.heap.size w3 YA := by rw [← hYA]; exact below_alloc _ _
        have bB : Below YA.heap.size YA YB := by rw [← hYB]; exact below_alloc _ _
        have NA0 : Nb YA 26 w3.heap.size false (.slice none 0 0) (.slice none 0 0) (.slice none 0 0) := by rw [← hYA]; exact nb_new _ _ _ _ _ _
        have NA1 := NA0.below bB
        have NB1 : Nb YB 26 (w3.heap.size + 1) false (.slice none 0 0) (.slice none 0 0) (.slice none 0 0) := by rw [← hYB, ← sA]; exact nb_new _ _ _ _ _ _
        have tA := tch_all YB w3.heap.size (.bool true) (.slice q1 A1 j1) (.slice q2 A2 j2) (.slice q3 A3 j3)
        have NA2 := NA1.all true (.slice q1 A1 j1) (.slice q2 A2 j2) (.slice q3 A3 j3)
        have NB2 := NB1.tch tA (by omega)
        obtain ⟨WA, hWA⟩ : ∃ Y, ((((YB.setCell ⟨w3.heap.size, 0, none⟩ (.bool true)).setCell ⟨w3.heap.size, 1, none⟩ (.slice q1 A1 j1)).setCell ⟨w3.heap.size, 2, none⟩ (.slice q2 A2 j2)).setCell ⟨w3.heap.size, 3, none⟩ (.slice q3 A3 j3)) = Y := ⟨_, rfl⟩
        rw [hWA] at tA NA2 NB2
        have tB := tch_all WA (w3.heap.size + 1) (.bool fc) (.slice r1 C1 i1) (.slice r2 C2 i2) (.slice r3 C3 i3)
        have NB3 := NB2.all fc (.slice r1 C1 i1) (.slice r2 C2 i2) (.slice r3 C3 i3)
        have NA3 := NA2.tch tB (by omega)
        obtain ⟨WB, hWB⟩ : ∃ Y, ((((WA.setCell ⟨w3.heap.size + 1, 0, none⟩ (.bool fc)).setCell ⟨w3.heap.size + 1, 1, none⟩ (.slice r1 C1 i1)).setCell ⟨w3.heap.size + 1, 2, none⟩ (.slice r2 C2 i2)).setCell ⟨w3.heap.size + 1, 3, none⟩ (.slice r3 C3 i3)) = Y := ⟨_, rfl⟩
        rw [hWB] at tB NB3 NA3
        have b4 : Below w3.heap.size w3 WB := by
          have h1 : Below w3.heap.size w3 YB := bA.trans (bB.mono bA.size)
          have h2 : Below w3.heap.size w3 WA := h1.trans (tA.below h1.size (fun j e => by omega))
          exact h2.trans (tB.below h2.size (fun j e => by omega))
        have B4 : Hid (Below W1.heap.size W1 WB) := B3.out.trans (b4.mono B3.out.size)
        have NA := hideN NA3
        have NC := hideN NB3
        have HST : Hid (∀ w', Below WB.heap.size WB w' → w'.cell? ⟨w.heap.size, 0, none⟩ = some (.bool true) ∧ w'.cell? ⟨w.heap.size, 1, none⟩ = some (.slice a1 L2 c1) ∧ w'.cell? ⟨w.heap.size, 2, none⟩ = some (.slice a2 L2 c2) ∧ w'.cell? ⟨w.heap.size, 3, none⟩ = some (.slice a3 0 c3) ∧ w'.cell? ⟨w3.heap.size, 0, none⟩ = some (.bool true) ∧ w'.cell? ⟨w3.heap.size, 1, none⟩ = some (.slice q1 A1 j1) ∧ w'.cell? ⟨w3.heap.size, 2, none⟩ = some (.slice q2 A2 j2) ∧ w'.cell? ⟨w3.heap.size, 3, none⟩ = some (.slice q3 A3 j3) ∧ w'.cell? ⟨w3.heap.size + 1, 0, none⟩ = some (.bool fc) ∧ w'.cell? ⟨w3.heap.size + 1, 1, none⟩ = some (.slice r1 C1 i1) ∧ w'.cell? ⟨w3.heap.size + 1, 2, none⟩ = some (.slice r2 C2 i2) ∧ w'.cell? ⟨w3.heap.size + 1, 3, none⟩ = some (.slice r3 C3 i3)) := fun w' hb => by
          have x := (V1.out.below B4.out).below hb
          have y := NA3.below hb
          have z := NB3.below hb
          exact ⟨x.c0, x.c1, x.c2, x.c3, y.c0, y.c1, y.c2, y.c3, z.c0, z.c1, z.c2, z.c3⟩
        have HJN : Hid (∀ W, Below WB.heap.size WB W → Calls Try.prog 25 #[.agg #[.bool true, .slice q1 A1 j1, .slice q2 A2 j2, .slice q3 A3 j3], .agg #[.bool fc, .slice r1 C1 i1, .slice r2 C2 i2, .slice r3 C3 i3]] W fun e w' => (∃ x1 x2 x3, e = .returned (nod true x1 x2 x3) ∧ Nn w' n x1 x2 x3) ∧ Below W.heap.size W w') := fun W hb => by
          have ll := HR.out.lens
          have := join_any A C _ _ _ _ _ _ W ((HA.out.below b4).below hb) ((HC.out.below b4).below hb) (by have := HS.out.kl; omega) (by have := HS.out.vl; omega) (by have := HS.out.dl; omega)
          rw [hfa.out, hfc.out, HR.out.join] at this
          refine this.mono ?_
          rintro e w' ⟨⟨x1, x2, x3, rfl, hN, _⟩, hb⟩
          exact ⟨⟨x1, x2, x3, rfl, hN⟩, hb⟩
        have HSA : Hid (∀ W x1 x2 x3, Below WB.heap.size WB W → Nn W n x1 x2 x3 → Calls Try.prog 17 #[nod true x1 x2 x3, .agg #[.bool true, .slice a1 L2 c1, .slice a2 L2 c2, .slice a3 0 c3]] W fun e w' => e = .returned (.bool true) ∧ Below W.heap.size W w') := fun W x1 x2 x3 hb hn => by
          have := sameN_any n n _ _ _ _ _ _ W hn ((H1.out.below B4.out).below hb)
          rw [hlf.out, eqN_iff.2 rfl] at this
          exact this
        have p0 := NA1.c0
        have p1 := NA1.c1
        have p2 := NA1.c2
        have p3 := NA1.c3
        have f0 := NA1.fz 0
        have f1 := NA1.fz 1
        have f2 := NA1.fz 2
        have f3 := NA1.fz 3
        have y0 := NB2.c0
        have y1 := NB2.c1
        have y2 := NB2.c2
        have y3 := NB2.c3
        have g0 := NB2.fz 0
        have g1 := NB2.fz 1
        have g2 := NB2.fz 2
        have g3 := NB2.fz 3
        have SA := hideN sA
        clear b4 bA bB NA0 NA1 NB1 tA NA2 NB2 tB NB3 NA3 hW1
        go_wp2_with fail
        try rw [hWA]
        try rw [hWB]
        clear hWA hWB hYA hYB p0 p1 p2 p3 f0 f1 f2 f3 y0 y1 y2 y3 g0 g1 g2 g3
        have hbB : Below WB.heap.size WB WB.drew := (Below.refl _ _).drew
        have hS : WB.drew.cell? ⟨w.heap.size, 0, none⟩ = some (.bool true) ∧ WB.drew.cell? ⟨w.heap.size, 1, none⟩ = some (.slice a1 L2 c1) ∧ WB.drew.cell? ⟨w.heap.size, 2, none⟩ = some (.slice a2 L2 c2) ∧ WB.drew.cell? ⟨w.heap.size, 3, none⟩ = some (.slice a3 0 c3) ∧ WB.drew.cell? ⟨w3.heap.size, 0, none⟩ = some (.bool true) ∧ WB.drew.cell? ⟨w3.heap.size, 1, none⟩ = some (.slice q1 A1 j1) ∧ WB.drew.cell? ⟨w3.heap.size, 2, none⟩ = some (.slice q2 A2 j2) ∧ WB.drew.cell? ⟨w3.heap.size, 3, none⟩ = some (.slice q3 A3 j3) ∧ WB.drew.cell? ⟨w3.heap.size + 1, 0, none⟩ = some (.bool fc) ∧ WB.drew.cell? ⟨w3.heap.size + 1, 1, none⟩ = some (.slice r1 C1 i1) ∧ WB.drew.cell? ⟨w3.heap.size + 1, 2, none⟩ = some (.slice r2 C2 i2) ∧ WB.drew.cell? ⟨w3.heap.size + 1, 3, none⟩ = some (.slice r3 C3 i3) := HST.out _ hbB
        go_region_held3 (fun w' => w'.cell? ⟨w.heap.size, 0, none⟩ = some (.bool true) ∧ w'.cell? ⟨w.heap.size, 1, none⟩ = some (.slice a1 L2 c1) ∧ w'.cell? ⟨w.heap.size, 2, none⟩ = some (.slice a2 L2 c2) ∧ w'.cell? ⟨w.heap.size, 3, none⟩ = some (.slice a3 0 c3) ∧ w'.cell? ⟨w3.heap.size, 0, none⟩ = some (.bool true) ∧ w'.cell? ⟨w3.heap.size, 1, none⟩ = some (.slice q1 A1 j1) ∧ w'.cell? ⟨w3.heap.size, 2, none⟩ = some (.slice q2 A2 j2) ∧ w'.cell? ⟨w3.heap.size, 3, none⟩ = some (.slice q3 A3 j3) ∧ w'.cell? ⟨w3.heap.size + 1, 0, none⟩ = some (.bool fc) ∧ w'.cell? ⟨w3.heap.size + 1, 1, none⟩ = some (.slice r1 C1 i1) ∧ w'.cell? ⟨w3.heap.size + 1, 2, none⟩ = some (.slice r2 C2 i2) ∧ w'.cell? ⟨w3.heap.size + 1, 3, none⟩ = some (.slice r3 C3 i3)) (first | exact hSD | exact hS | go_keep)
          (first
            | (go_at_call 24; refine (HRF.out _ (B4.out.trans (hbB.mono B4.out.size))).mono ?_; rintro e wD ⟨rfl, bD⟩; have hbD : Below WB.heap.size WB wD := hbB.trans (bD.mono hbB.size); have hSD := HST.out wD hbD))
        have hbE : Hid (Below WB.heap.size WB wD) := hbD
        clear hS hSD bD hbD hbB
        go_wp2_with fail
        have hbF : Below WB.heap.size WB wD.drew := hbE.out.trans ((Below.refl _ _).drew)
        have hS : wD.drew.cell? ⟨w.heap.size, 0, none⟩ = some (.bool true) ∧ wD.drew.cell? ⟨w.heap.size, 1, none⟩ = some (.slice a1 L2 c1) ∧ wD.drew.cell? ⟨w.heap.size, 2, none⟩ = some (.slice a2 L2 c2) ∧ wD.drew.cell? ⟨w.heap.size, 3, none⟩ = some (.slice a3 0 c3) ∧ wD.drew.cell? ⟨w3.heap.size, 0, none⟩ = some (.bool true) ∧ wD.drew.cell? ⟨w3.heap.size, 1, none⟩ = some (.slice q1 A1 j1) ∧ wD.drew.cell? ⟨w3.heap.size, 2, none⟩ = some (.slice q2 A2 j2) ∧ wD.drew.cell? ⟨w3.heap.size, 3, none⟩ = some (.slice q3 A3 j3) ∧ wD.drew.cell? ⟨w3.heap.size + 1, 0, none⟩ = some (.bool fc) ∧ wD.drew.cell? ⟨w3.heap.size + 1, 1, none⟩ = some (.slice r1 C1 i1) ∧ wD.drew.cell? ⟨w3.heap.size + 1, 2, none⟩ = some (.slice r2 C2 i2) ∧ wD.drew.cell? ⟨w3.heap.size + 1, 3, none⟩ = some (.slice r3 C3 i3) := HST.out _ hbF
        go_region_held3 (fun w' => w'.cell? ⟨w.heap.size, 0, none⟩ = some (.bool true) ∧ w'.cell? ⟨w.heap.size, 1, none⟩ = some (.slice a1 L2 c1) ∧ w'.cell? ⟨w.heap.size, 2, none⟩ = some (.slice a2 L2 c2) ∧ w'.cell? ⟨w.heap.size, 3, none⟩ = some (.slice a3 0 c3) ∧ w'.cell? ⟨w3.heap.size, 0, none⟩ = some (.bool true) ∧ w'.cell? ⟨w3.heap.size, 1, none⟩ = some (.slice q1 A1 j1) ∧ w'.cell? ⟨w3.heap.size, 2, none⟩ = some (.slice q2 A2 j2) ∧ w'.cell? ⟨w3.heap.size, 3, none⟩ = some (.slice q3 A3 j3) ∧ w'.cell? ⟨w3.heap.size + 1, 0, none⟩ = some (.bool fc) ∧ w'.cell? ⟨w3.heap.size + 1, 1, none⟩ = some (.slice r1 C1 i1) ∧ w'.cell? ⟨w3.heap.size + 1, 2, none⟩ = some (.slice r2 C2 i2) ∧ w'.cell? ⟨w3.heap.size + 1, 3, none⟩ = some (.slice r3 C3 i3)) (first | exact hSH | exact hSG | exact hS | go_keep)
          (first
            | (go_at_call 25; refine (HJN.out _ hbF).mono ?_; rintro e wG ⟨⟨x1, x2, x3, rfl, nG⟩, bG⟩; have hbG : Below WB.heap.size WB wG := hbF.trans (bG.mono hbF.size); have hSG := HST.out wG hbG)
            | (go_at_call 17; refine (HSA.out _ x1 x2 x3 hbG nG).mono ?_; rintro e wH ⟨rfl, bH⟩; have hbH : Below WB.heap.size WB wH := hbG.trans (bH.mono hbG.size); have hSH := HST.out wH hbH))
        have BH : Hid (Below w.heap.size w wH) := B1.out.trans ((B4.out.trans (hbH.mono B4.out.size)).mono B1.out.size)
        obtain ⟨p0, p1, p2, p3, _, _, _, _, y0, y1, y2, y3⟩ := hSH
        clear hS hSG hbH bH hbG bG hbF nG
        by_cases h2 : L2 < 2
        · go_wp2_with fail
          refine (HLV.out wH).mono ?_
          rintro e wC ⟨rfl, bC⟩
          go_wp2_with fail
          go_ret
          exact ⟨rfl, BH.out.trans (bC.mono BH.out.size)⟩
        · have h3 : decide ((L2 : Int) < 2) = false := by rw [decide_eq_false_iff_not]; omega
          have h4 : ¬ (L2 : Int) < 2 := by omega
          obtain rfl : fc = true := HFC.out (by omega)
          go_wp2_with fail
          refine (HLV.out wH).mono ?_
          rintro e wC ⟨rfl, bC⟩
          go_wp2_with fail
          go_ret
          exact ⟨rfl, BH.out.trans (bC.mono BH.out.size)⟩
      · have i2 : ¬ (L3 : Int) = 0 := by omega
        subst e1
        go_enter Try.func6, Try.ntmps6
        go_wp2_with fail
        refine (HLV.out _).mono ?_
        rintro e w2 ⟨rfl, b2⟩
        have B2 : Hid (Below w.heap.size w w2) := B1.out.trans (b2.mono B1.out.size)
        clear b2
        go_wp2_with fail
        go_ret
        exact ⟨rfl, B2.out⟩
    · have i1 : ¬ (L2 : Int) = (L1 : Int) := by omega
      go_enter Try.func6, Try.ntmps6
      go_wp2_with fail
      refine (HLV.out _).mono ?_
      rintro e w2 ⟨rfl, b2⟩
      have B2 : Hid (Below w.heap.size w w2) := B1.out.trans (b2.mono B1.out.size)
      clear b2
      go_wp2_with fail
      go_ret
      exact ⟨rfl, B2.out⟩
  | false =>
    by_cases e1 : L3 = L1
    · by_cases e2 : L2 = 0
      · subst e2
        subst e1
        go_enter Try.func6, Try.ntmps6
        go_wp2_with fail
        refine (HO.out W1 (Below.refl _ _)).mono ?_
        rintro e w2 ⟨⟨v1, v2, v3, rfl, hN2⟩, b2⟩
        have B2 := hideN b2
        have N2 := hideN hN2
        clear b2 hN2 p0 p1 p2 p3
        go_wp2_with fail
        refine (HSP.out w2 v1 v2 v3 N2.out).mono ?_
        rintro e w3 ⟨⟨k1, k2, k3, o1, o2, o3, A, C, rfl, hA, hC, hR⟩, b3⟩
        have B3 : Hid (Below W1.heap.size W1 w3) := B2.out.trans (b3.mono B2.out.size)
        have HR := hideN hR
        have HA := hideN hA
        have HC := hideN hC
        obtain ⟨q1, j1, q2, j2, q3, j3, rfl, rfl, rfl, _, _, _, _⟩ := hA.out
        obtain ⟨r1, i1, r2, i2, r3, i3, rfl, rfl, rfl, _, _, _, _⟩ := hC.out
        obtain ⟨A1, hA1⟩ : ∃ L, Hid (A.ks.length = L) := ⟨_, rfl⟩
        obtain ⟨A2, hA2⟩ : ∃ L, Hid (A.vs.length = L) := ⟨_, rfl⟩
        obtain ⟨A3, hA3⟩ : ∃ L, Hid (A.kd.length = L) := ⟨_, rfl⟩
        obtain ⟨C1, hC1⟩ : ∃ L, Hid (C.ks.length = L) := ⟨_, rfl⟩
        obtain ⟨C2, hC2⟩ : ∃ L, Hid (C.vs.length = L) := ⟨_, rfl⟩
        obtain ⟨C3, hC3⟩ : ∃ L, Hid (C.kd.length = L) := ⟨_, rfl⟩
        rw [hA1.out, hA2.out, hA3.out] at HA ⊢
        rw [hC1.out, hC2.out, hC3.out] at HC ⊢
        obtain ⟨fa, hfa⟩ : ∃ f, Hid (A.lf = f) := ⟨_, rfl⟩
        obtain ⟨fc, hfc⟩ : ∃ f, Hid (C.lf = f) := ⟨_, rfl⟩
        rw [hfa.out, hfc.out]
        clear b3 hA hC hR B2 N2
        unfold nod
        obtain rfl : fa = false := by rw [← hfa.out, HR.out.leafA, hlf.out]
        have HFC : Hid (2 ≤ L3 → fc = false) := fun h2 => by rw [← hfc.out, HR.out.leafB (by rw [hL1.out]; exact h2), hlf.out]
        have HRF : Hid (∀ W, Below W1.heap.size W1 W → Calls Try.prog 24 #[.agg #[.bool false, .slice a1 L3 c1, .slice a2 0 c2, .slice a3 L3 c3]] W fun e w' => e = .returned (.int .i64 (A1 : Int)) ∧ Below W.heap.size W w') := fun W hb => by
          have := refSplit_any n _ _ _ W (H1.out.below hb) HS.out
          rw [hlf.out] at this
          refine this.mono ?_
          rintro e w' ⟨⟨m, rfl, hm⟩, hb⟩
          have := HR.out.many hm
          rw [hA1.out] at this
          subst this
          exact ⟨rfl, hb⟩
        obtain ⟨YA, hYA⟩ : ∃ Y, w3.alloc (.cells #[.bool false, .slice none 0 0, .slice none 0 0, .slice none 0 0] 26) = Y := ⟨_, rfl⟩
        obtain ⟨YB, hYB⟩ : ∃ Y, YA.alloc (.cells #[.bool false, .slice none 0 0, .slice none 0 0, .slice none 0 0] 26) = Y := ⟨_, rfl⟩
        have sA : YA.heap.size = w3.heap.size + 1 := by rw [← hYA]; simp
        have bA : Below w3.heap.size w3 YA := by rw [← hYA]; exact below_alloc _ _
        have bB : Below YA.heap.size YA YB := by rw [← hYB]; exact below_alloc _ _
        have NA0 : Nb YA 26 w3.heap.size false (.slice none 0 0) (.slice none 0 0) (.slice none 0 0) := by rw [← hYA]; exact nb_new _ _ _ _ _ _
        have NA1 := NA0.below bB
        have NB1 : Nb YB 26 (w3.heap.size + 1) false (.slice none 0 0) (.slice none 0 0) (.slice none 0 0) := by rw [← hYB, ← sA]; exact nb_new _ _ _ _ _ _
        have tA := tch_all YB w3.heap.size (.bool false) (.slice q1 A1 j1) (.slice q2 A2 j2) (.slice q3 A3 j3)
        have NA2 := NA1.all false (.slice q1 A1 j1) (.slice q2 A2 j2) (.slice q3 A3 j3)
        have NB2 := NB1.tch tA (by omega)
        obtain ⟨WA, hWA⟩ : ∃ Y, ((((YB.setCell ⟨w3.heap.size, 0, none⟩ (.bool false)).setCell ⟨w3.heap.size, 1, none⟩ (.slice q1 A1 j1)).setCell ⟨w3.heap.size, 2, none⟩ (.slice q2 A2 j2)).setCell ⟨w3.heap.size, 3, none⟩ (.slice q3 A3 j3)) = Y := ⟨_, rfl⟩
        rw [hWA] at tA NA2 NB2
        have tB := tch_all WA (w3.heap.size + 1) (.bool fc) (.slice r1 C1 i1) (.slice r2 C2 i2) (.slice r3 C3 i3)
        have NB3 := NB2.all fc (.slice r1 C1 i1) (.slice r2 C2 i2) (.slice r3 C3 i3)
        have NA3 := NA2.tch tB (by omega)
        obtain ⟨WB, hWB⟩ : ∃ Y, ((((WA.setCell ⟨w3.heap.size + 1, 0, none⟩ (.bool fc)).setCell ⟨w3.heap.size + 1, 1, none⟩ (.slice r1 C1 i1)).setCell ⟨w3.heap.size + 1, 2, none⟩ (.slice r2 C2 i2)).setCell ⟨w3.heap.size + 1, 3, none⟩ (.slice r3 C3 i3)) = Y := ⟨_, rfl⟩
        rw [hWB] at tB NB3 NA3
        have b4 : Below w3.heap.size w3 WB := by
          have h1 : Below w3.heap.size w3 YB := bA.trans (bB.mono bA.size)
          have h2 : Below w3.heap.size w3 WA := h1.trans (tA.below h1.size (fun j e => by omega))
          exact h2.trans (tB.below h2.size (fun j e => by omega))
        have B4 : Hid (Below W1.heap.size W1 WB) := B3.out.trans (b4.mono B3.out.size)
        have NA := hideN NA3
        have NC := hideN NB3
        have HST : Hid (∀ w', Below WB.heap.size WB w' → w'.cell? ⟨w.heap.size, 0, none⟩ = some (.bool false) ∧ w'.cell? ⟨w.heap.size, 1, none⟩ = some (.slice a1 L3 c1) ∧ w'.cell? ⟨w.heap.size, 2, none⟩ = some (.slice a2 0 c2) ∧ w'.cell? ⟨w.heap.size, 3, none⟩ = some (.slice a3 L3 c3) ∧ w'.cell? ⟨w3.heap.size, 0, none⟩ = some (.bool false) ∧ w'.cell? ⟨w3.heap.size, 1, none⟩ = some (.slice q1 A1 j1) ∧ w'.cell? ⟨w3.heap.size, 2, none⟩ = some (.slice q2 A2 j2) ∧ w'.cell? ⟨w3.heap.size, 3, none⟩ = some (.slice q3 A3 j3) ∧ w'.cell? ⟨w3.heap.size + 1, 0, none⟩ = some (.bool fc) ∧ w'.cell? ⟨w3.heap.size + 1, 1, none⟩ = some (.slice r1 C1 i1) ∧ w'.cell? ⟨w3.heap.size + 1, 2, none⟩ = some (.slice r2 C2 i2) ∧ w'.cell? ⟨w3.heap.size + 1, 3, none⟩ = some (.slice r3 C3 i3)) := fun w' hb => by
          have x := (V1.out.below B4.out).below hb
          have y := NA3.below hb
          have z := NB3.below hb
          exact ⟨x.c0, x.c1, x.c2, x.c3, y.c0, y.c1, y.c2, y.c3, z.c0, z.c1, z.c2, z.c3⟩
        have HJN : Hid (∀ W, Below WB.heap.size WB W → Calls Try.prog 25 #[.agg #[.bool false, .slice q1 A1 j1, .slice q2 A2 j2, .slice q3 A3 j3], .agg #[.bool fc, .slice r1 C1 i1, .slice r2 C2 i2, .slice r3 C3 i3]] W fun e w' => (∃ x1 x2 x3, e = .returned (nod false x1 x2 x3) ∧ Nn w' n x1 x2 x3) ∧ Below W.heap.size W w') := fun W hb => by
          have ll := HR.out.lens
          have := join_any A C _ _ _ _ _ _ W ((HA.out.below b4).below hb) ((HC.out.below b4).below hb) (by have := HS.out.kl; omega) (by have := HS.out.vl; omega) (by have := HS.out.dl; omega)
          rw [hfa.out, hfc.out, HR.out.join] at this
          refine this.mono ?_
          rintro e w' ⟨⟨x1, x2, x3, rfl, hN, _⟩, hb⟩
          exact ⟨⟨x1, x2, x3, rfl, hN⟩, hb⟩
        have HSA : Hid (∀ W x1 x2 x3, Below WB.heap.size WB W → Nn W n x1 x2 x3 → Calls Try.prog 17 #[nod false x1 x2 x3, .agg #[.bool false, .slice a1 L3 c1, .slice a2 0 c2, .slice a3 L3 c3]] W fun e w' => e = .returned (.bool true) ∧ Below W.heap.size W w') := fun W x1 x2 x3 hb hn => by
          have := sameN_any n n _ _ _ _ _ _ W hn ((H1.out.below B4.out).below hb)
          rw [hlf.out, eqN_iff.2 rfl] at this
          exact this
        have p0 := NA1.c0
        have p1 := NA1.c1
        have p2 := NA1.c2
        have p3 := NA1.c3
        have f0 := NA1.fz 0
        have f1 := NA1.fz 1
        have f2 := NA1.fz 2
        have f3 := NA1.fz 3
        have y0 := NB2.c0
        have y1 := NB2.c1
        have y2 := NB2.c2
        have y3 := NB2.c3
        have g0 := NB2.fz 0
        have g1 := NB2.fz 1
        have g2 := NB2.fz 2
        have g3 := NB2.fz 3
        have SA := hideN sA
        clear b4 bA bB NA0 NA1 NB1 tA NA2 NB2 tB NB3 NA3 hW1
        go_wp2_with fail
        try rw [hWA]
        try rw [hWB]
        clear hWA hWB hYA hYB p0 p1 p2 p3 f0 f1 f2 f3 y0 y1 y2 y3 g0 g1 g2 g3
        have hbB : Below WB.heap.size WB WB.drew := (Below.refl _ _).drew
        have hS : WB.drew.cell? ⟨w.heap.size, 0, none⟩ = some (.bool false) ∧ WB.drew.cell? ⟨w.heap.size, 1, none⟩ = some (.slice a1 L3 c1) ∧ WB.drew.cell? ⟨w.heap.size, 2, none⟩ = some (.slice a2 0 c2) ∧ WB.drew.cell? ⟨w.heap.size, 3, none⟩ = some (.slice a3 L3 c3) ∧ WB.drew.cell? ⟨w3.heap.size, 0, none⟩ = some (.bool false) ∧ WB.drew.cell? ⟨w3.heap.size, 1, none⟩ = some (.slice q1 A1 j1) ∧ WB.drew.cell? ⟨w3.heap.size, 2, none⟩ = some (.slice q2 A2 j2) ∧ WB.drew.cell? ⟨w3.heap.size, 3, none⟩ = some (.slice q3 A3 j3) ∧ WB.drew.cell? ⟨w3.heap.size + 1, 0, none⟩ = some (.bool fc) ∧ WB.drew.cell? ⟨w3.heap.size + 1, 1, none⟩ = some (.slice r1 C1 i1) ∧ WB.drew.cell? ⟨w3.heap.size + 1, 2, none⟩ = some (.slice r2 C2 i2) ∧ WB.drew.cell? ⟨w3.heap.size + 1, 3, none⟩ = some (.slice r3 C3 i3) := HST.out _ hbB
        go_region_held3 (fun w' => w'.cell? ⟨w.heap.size, 0, none⟩ = some (.bool false) ∧ w'.cell? ⟨w.heap.size, 1, none⟩ = some (.slice a1 L3 c1) ∧ w'.cell? ⟨w.heap.size, 2, none⟩ = some (.slice a2 0 c2) ∧ w'.cell? ⟨w.heap.size, 3, none⟩ = some (.slice a3 L3 c3) ∧ w'.cell? ⟨w3.heap.size, 0, none⟩ = some (.bool false) ∧ w'.cell? ⟨w3.heap.size, 1, none⟩ = some (.slice q1 A1 j1) ∧ w'.cell? ⟨w3.heap.size, 2, none⟩ = some (.slice q2 A2 j2) ∧ w'.cell? ⟨w3.heap.size, 3, none⟩ = some (.slice q3 A3 j3) ∧ w'.cell? ⟨w3.heap.size + 1, 0, none⟩ = some (.bool fc) ∧ w'.cell? ⟨w3.heap.size + 1, 1, none⟩ = some (.slice r1 C1 i1) ∧ w'.cell? ⟨w3.heap.size + 1, 2, none⟩ = some (.slice r2 C2 i2) ∧ w'.cell? ⟨w3.heap.size + 1, 3, none⟩ = some (.slice r3 C3 i3)) (first | exact hSD | exact hS | go_keep)
          (first
            | (go_at_call 24; refine (HRF.out _ (B4.out.trans (hbB.mono B4.out.size))).mono ?_; rintro e wD ⟨rfl, bD⟩; have hbD : Below WB.heap.size WB wD := hbB.trans (bD.mono hbB.size); have hSD := HST.out wD hbD))
        have hbE : Hid (Below WB.heap.size WB wD) := hbD
        clear hS hSD bD hbD hbB
        go_wp2_with fail
        have hbF : Below WB.heap.size WB wD.drew := hbE.out.trans ((Below.refl _ _).drew)
        have hS : wD.drew.cell? ⟨w.heap.size, 0, none⟩ = some (.bool false) ∧ wD.drew.cell? ⟨w.heap.size, 1, none⟩ = some (.slice a1 L3 c1) ∧ wD.drew.cell? ⟨w.heap.size, 2, none⟩ = some (.slice a2 0 c2) ∧ wD.drew.cell? ⟨w.heap.size, 3, none⟩ = some (.slice a3 L3 c3) ∧ wD.drew.cell? ⟨w3.heap.size, 0, none⟩ = some (.bool false) ∧ wD.drew.cell? ⟨w3.heap.size, 1, none⟩ = some (.slice q1 A1 j1) ∧ wD.drew.cell? ⟨w3.heap.size, 2, none⟩ = some (.slice q2 A2 j2) ∧ wD.drew.cell? ⟨w3.heap.size, 3, none⟩ = some (.slice q3 A3 j3) ∧ wD.drew.cell? ⟨w3.heap.size + 1, 0, none⟩ = some (.bool fc) ∧ wD.drew.cell? ⟨w3.heap.size + 1, 1, none⟩ = some (.slice r1 C1 i1) ∧ wD.drew.cell? ⟨w3.heap.size + 1, 2, none⟩ = some (.slice r2 C2 i2) ∧ wD.drew.cell? ⟨w3.heap.size + 1, 3, none⟩ = some (.slice r3 C3 i3) := HST.out _ hbF
        go_region_held3 (fun w' => w'.cell? ⟨w.heap.size, 0, none⟩ = some (.bool false) ∧ w'.cell? ⟨w.heap.size, 1, none⟩ = some (.slice a1 L3 c1) ∧ w'.cell? ⟨w.heap.size, 2, none⟩ = some (.slice a2 0 c2) ∧ w'.cell? ⟨w.heap.size, 3, none⟩ = some (.slice a3 L3 c3) ∧ w'.cell? ⟨w3.heap.size, 0, none⟩ = some (.bool false) ∧ w'.cell? ⟨w3.heap.size, 1, none⟩ = some (.slice q1 A1 j1) ∧ w'.cell? ⟨w3.heap.size, 2, none⟩ = some (.slice q2 A2 j2) ∧ w'.cell? ⟨w3.heap.size, 3, none⟩ = some (.slice q3 A3 j3) ∧ w'.cell? ⟨w3.heap.size + 1, 0, none⟩ = some (.bool fc) ∧ w'.cell? ⟨w3.heap.size + 1, 1, none⟩ = some (.slice r1 C1 i1) ∧ w'.cell? ⟨w3.heap.size + 1, 2, none⟩ = some (.slice r2 C2 i2) ∧ w'.cell? ⟨w3.heap.size + 1, 3, none⟩ = some (.slice r3 C3 i3)) (first | exact hSH | exact hSG | exact hS | go_keep)
          (first
            | (go_at_call 25; refine (HJN.out _ hbF).mono ?_; rintro e wG ⟨⟨x1, x2, x3, rfl, nG⟩, bG⟩; have hbG : Below WB.heap.size WB wG := hbF.trans (bG.mono hbF.size); have hSG := HST.out wG hbG)
            | (go_at_call 17; refine (HSA.out _ x1 x2 x3 hbG nG).mono ?_; rintro e wH ⟨rfl, bH⟩; have hbH : Below WB.heap.size WB wH := hbG.trans (bH.mono hbG.size); have hSH := HST.out wH hbH))
        have BH : Hid (Below w.heap.size w wH) := B1.out.trans ((B4.out.trans (hbH.mono B4.out.size)).mono B1.out.size)
        obtain ⟨p0, p1, p2, p3, _, _, _, _, y0, y1, y2, y3⟩ := hSH
        clear hS hSG hbH bH hbG bG hbF nG
        by_cases h2 : L3 < 2
        · go_wp2_with fail
          refine (HLV.out wH).mono ?_
          rintro e wC ⟨rfl, bC⟩
          go_wp2_with fail
          go_ret
          exact ⟨rfl, BH.out.trans (bC.mono BH.out.size)⟩
        · have h3 : decide ((L3 : Int) < 2) = false := by rw [decide_eq_false_iff_not]; omega
          have h4 : ¬ (L3 : Int) < 2 := by omega
          obtain rfl : fc = false := HFC.out (by omega)
          go_wp2_with fail
          refine (HLV.out wH).mono ?_
          rintro e wC ⟨rfl, bC⟩
          go_wp2_with fail
          go_ret
          exact ⟨rfl, BH.out.trans (bC.mono BH.out.size)⟩
      · have i2 : ¬ (L2 : Int) = 0 := by omega
        subst e1
        go_enter Try.func6, Try.ntmps6
        go_wp2_with fail
        refine (HLV.out _).mono ?_
        rintro e w2 ⟨rfl, b2⟩
        have B2 : Hid (Below w.heap.size w w2) := B1.out.trans (b2.mono B1.out.size)
        clear b2
        go_wp2_with fail
        go_ret
        exact ⟨rfl, B2.out⟩
    · have i1 : ¬ (L3 : Int) = (L1 : Int) := by omega
      go_enter Try.func6, Try.ntmps6
      go_wp2_with fail
      refine (HLV.out _).mono ?_
      rintro e w2 ⟨rfl, b2⟩
      have B2 : Hid (Below w.heap.size w w2) := B1.out.trans (b2.mono B1.out.size)
      clear b2
      go_wp2_with fail
      go_ret
      exact ⟨rfl, B2.out⟩
end Go.Proofs.Ytbpaeecclikeiaa
