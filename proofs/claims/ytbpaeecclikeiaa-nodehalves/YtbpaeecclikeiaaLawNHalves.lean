/-
  NodeHalves: a node that may be but for its Size, of at most 292, is split into two that may be: for every node the law answers true.
-/
import Derived.Test.YtbpaeecclikeiaaNHw
import Derived.Test.YtbpaeecclikeiaaNRMay
import Derived.Test.YtbpaeecclikeiaaNOf
import Derived.Test.YtbpaeecclikeiaaNSame
import Derived.Test.YtbpaeecclikeiaaNLives
namespace Go.Proofs.Ytbpaeecclikeiaa
open Go.RowKit Pl
set_option linter.unusedVariables false
set_option linter.unusedSimpArgs false
set_option maxRecDepth 100000

set_option maxHeartbeats 4000000 in
theorem nodeHalves_walk (n : Nd) (u1 u2 u3 : Value) (w : World) (h : Nn w n u1 u2 u3) (hs : Sm n) :
    Calls Try.prog 7 #[nod n.lf u1 u2 u3] w fun e w' => e = .returned (.bool true) ∧ Below w.heap.size w w' := by
  obtain ⟨a1, c1, a2, c2, a3, c3, rfl, rfl, rfl, ⟨l1, l2, l3, l4, l5, l6⟩, _, _, _⟩ := h.out
  have H := hideN h
  have HS := hideN hs
  obtain ⟨L1, hL1⟩ : ∃ L, Hid (n.ks.length = L) := ⟨_, rfl⟩
  obtain ⟨L2, hL2⟩ : ∃ L, Hid (n.vs.length = L) := ⟨_, rfl⟩
  obtain ⟨L3, hL3⟩ : ∃ L, Hid (n.kd.length = L) := ⟨_, rfl⟩
  rw [hL1.out] at H l1 ⊢
  rw [hL2.out] at H l3 ⊢
  rw [hL3.out] at H l5 ⊢
  obtain ⟨lf, hlf⟩ : ∃ lf, Hid (n.lf = lf) := ⟨_, rfl⟩
  rw [hlf.out]
  unfold nod
  obtain ⟨W1, hW1⟩ : ∃ W1, w.alloc (.cells #[.bool lf, .slice a1 L1 c1, .slice a2 L2 c2, .slice a3 L3 c3] 25) = W1 := ⟨_, rfl⟩
  have B1 : Hid (Below w.heap.size w W1) := by rw [← hW1]; exact below_alloc _ _
  have V1 : Hid (Nb W1 25 w.heap.size lf (.slice a1 L1 c1) (.slice a2 L2 c2) (.slice a3 L3 c3)) := by rw [← hW1]; exact nb_new _ _ _ _ _ _
  have H1 : Hid (Nn W1 n (.slice a1 L1 c1) (.slice a2 L2 c2) (.slice a3 L3 c3)) := H.out.below B1.out
  obtain ⟨z, hz⟩ : ∃ b, Hid (W (szN n n.ks.length) = b) := ⟨_, rfl⟩
  have HLV : Hid (∀ W, Calls Try.prog 18 #[] W fun e w' => e = .returned (.bool true) ∧ Below W.heap.size W w') := fun W => lives_anyN W
  have HRS : Hid (∀ W, Below W1.heap.size W1 W → Calls Try.prog 11 #[.agg #[.bool lf, .slice a1 L1 c1, .slice a2 L2 c2, .slice a3 L3 c3]] W fun e w' => e = .returned (.int .i64 z) ∧ Below W.heap.size W w') := fun W hb => by
    have := refSize_any n _ _ _ W (H1.out.below hb) HS.out
    rw [hlf.out, hz.out] at this
    exact this
  have HO : Hid (∀ W, Below W1.heap.size W1 W → Calls Try.prog 9 #[.agg #[.bool lf, .slice a1 L1 c1, .slice a2 L2 c2, .slice a3 L3 c3]] W fun e w' => (∃ v1 v2 v3, e = .returned (nod lf v1 v2 v3) ∧ Nn w' n v1 v2 v3) ∧ Below W.heap.size W w') := fun W hb => by
    have := of_any n _ _ _ W (H1.out.below hb) HS.out
    rw [hlf.out] at this
    exact this
  have HSP : Hid (∀ W v1 v2 v3, Nn W n v1 v2 v3 → Calls Try.prog 23 #[nod lf v1 v2 v3] W fun e w' => (∃ k1 k2 k3 o1 o2 o3 A B, e = .returned (.tuple #[nod A.lf k1 k2 k3, nod B.lf o1 o2 o3]) ∧ Nn w' A k1 k2 k3 ∧ Nn w' B o1 o2 o3 ∧ SplR n A B) ∧ Below W.heap.size W w') := fun W v1 v2 v3 hn => by
    have := split_any n _ _ _ W hn HS.out
    rw [hlf.out] at this
    exact this
  have p0 := V1.out.c0
  have p1 := V1.out.c1
  have p2 := V1.out.c2
  have p3 := V1.out.c3
  clear h hs H
  go_enter Try.func7, Try.ntmps7
  go_wp2_with fail
  refine (HRS.out W1 (Below.refl _ _)).mono ?_
  rintro e w2 ⟨rfl, b2⟩
  have B2 := hideN b2
  have BF2 : Hid (Below w.heap.size w w2) := B1.out.trans (b2.mono B1.out.size)
  have V2 := V1.out.below b2
  clear b2 p0 p1 p2 p3 hW1
  have p0 := V2.c0
  have p1 := V2.c1
  have p2 := V2.c2
  have p3 := V2.c3
  clear V2
  by_cases hz1 : z ≤ 240
  · go_wp2_with fail
    refine (HLV.out _).mono ?_
    rintro e wL ⟨rfl, bL⟩
    have BL : Hid (Below w.heap.size w wL) := BF2.out.trans (bL.mono BF2.out.size)
    clear bL
    go_wp2_with fail
    go_ret
    exact ⟨rfl, BL.out⟩
  · by_cases hz2 : 292 < z
    · have hn1 : decide (z ≤ 240) = false := by rw [decide_eq_false_iff_not]; omega
      go_wp2_with fail
      refine (HLV.out _).mono ?_
      rintro e wL ⟨rfl, bL⟩
      have BL : Hid (Below w.heap.size w wL) := BF2.out.trans (bL.mono BF2.out.size)
      clear bL
      go_wp2_with fail
      go_ret
      exact ⟨rfl, BL.out⟩
    · have HZ1 : Hid (¬ z ≤ 240) := hz1
      have HZ2 : Hid (¬ 292 < z) := hz2
      cases lf with
      | true =>
        have hn1 : decide (z ≤ 240) = false := by rw [decide_eq_false_iff_not]; omega
        have hn2 : decide (292 < z) = false := by rw [decide_eq_false_iff_not]; omega
        go_wp2_with fail
        refine (HO.out w2 B2.out).mono ?_
        rintro e w3 ⟨⟨v1, v2, v3, rfl, hN2⟩, b2⟩
        have B3 : Hid (Below W1.heap.size W1 w3) := B2.out.trans (b2.mono B2.out.size)
        have N2 := hideN hN2
        clear b2 hN2 p0 p1 p2 p3
        go_wp2_with fail
        refine (HSP.out w3 v1 v2 v3 N2.out).mono ?_
        rintro e w4 ⟨⟨k1, k2, k3, o1, o2, o3, A, C, rfl, hA, hC, hR⟩, b3⟩
        have B3' : Hid (Below W1.heap.size W1 w4) := B3.out.trans (b3.mono B3.out.size)
        have HR := hideN hR
        have HA := hideN hA
        have HC := hideN hC
        obtain ⟨q1, j1, q2, j2, q3, j3, rfl, rfl, rfl, _, _, _, _⟩ := hA.out
        obtain ⟨r1, i1, r2, i2, r3, i3, rfl, rfl, rfl, _, _, _, _⟩ := hC.out
        obtain ⟨A1, hA1⟩ : ∃ L, Hid (A.ks.length = L) := ⟨_, rfl⟩
        obtain ⟨A2, hA2⟩ : ∃ L, Hid (A.vs.length = L) := ⟨_, rfl⟩
        obtain ⟨A3, hA3⟩ : ∃ L, Hid (A.kd.length = L) := ⟨_, rfl⟩
        obtain ⟨C1, hC1⟩ : ∃ L, Hid (C.ks.length = L) := ⟨_, rfl⟩
        obtain ⟨C2, hC2⟩ : ∃ L, Hid (C.vs.length = L) := ⟨_, rfl⟩
        obtain ⟨C3, hC3⟩ : ∃ L, Hid (C.kd.length = L) := ⟨_, rfl⟩
        rw [hA1.out, hA2.out, hA3.out] at HA ⊢
        rw [hC1.out, hC2.out, hC3.out] at HC ⊢
        obtain ⟨fa, hfa⟩ : ∃ f, Hid (A.lf = f) := ⟨_, rfl⟩
        obtain ⟨fc, hfc⟩ : ∃ f, Hid (C.lf = f) := ⟨_, rfl⟩
        rw [hfa.out, hfc.out]
        clear b3 hA hC hR N2
        unfold nod
        obtain rfl : fa = true := by rw [← hfa.out, HR.out.leafA, hlf.out]
        obtain ⟨YA, hYA⟩ : ∃ Y, w4.alloc (.cells #[.bool false, .slice none 0 0, .slice none 0 0, .slice none 0 0] 26) = Y := ⟨_, rfl⟩
        obtain ⟨YB, hYB⟩ : ∃ Y, YA.alloc (.cells #[.bool false, .slice none 0 0, .slice none 0 0, .slice none 0 0] 26) = Y := ⟨_, rfl⟩
        have sA : YA.heap.size = w4.heap.size + 1 := by rw [← hYA]; simp
        have bA : Below w4.heap.size w4 YA := by rw [← hYA]; exact below_alloc _ _
        have bB : Below YA.heap.size YA YB := by rw [← hYB]; exact below_alloc _ _
        have NA0 : Nb YA 26 w4.heap.size false (.slice none 0 0) (.slice none 0 0) (.slice none 0 0) := by rw [← hYA]; exact nb_new _ _ _ _ _ _
        have NA1 := NA0.below bB
        have NB1 : Nb YB 26 (w4.heap.size + 1) false (.slice none 0 0) (.slice none 0 0) (.slice none 0 0) := by rw [← hYB, ← sA]; exact nb_new _ _ _ _ _ _
        have tA := tch_all YB w4.heap.size (.bool true) (.slice q1 A1 j1) (.slice q2 A2 j2) (.slice q3 A3 j3)
        have NA2 := NA1.all true (.slice q1 A1 j1) (.slice q2 A2 j2) (.slice q3 A3 j3)
        have NB2 := NB1.tch tA (by omega)
        obtain ⟨WA, hWA⟩ : ∃ Y, ((((YB.setCell ⟨w4.heap.size, 0, none⟩ (.bool true)).setCell ⟨w4.heap.size, 1, none⟩ (.slice q1 A1 j1)).setCell ⟨w4.heap.size, 2, none⟩ (.slice q2 A2 j2)).setCell ⟨w4.heap.size, 3, none⟩ (.slice q3 A3 j3)) = Y := ⟨_, rfl⟩
        rw [hWA] at tA NA2 NB2
        have tB := tch_all WA (w4.heap.size + 1) (.bool fc) (.slice r1 C1 i1) (.slice r2 C2 i2) (.slice r3 C3 i3)
        have NB3 := NB2.all fc (.slice r1 C1 i1) (.slice r2 C2 i2) (.slice r3 C3 i3)
        have NA3 := NA2.tch tB (by omega)
        obtain ⟨WB, hWB⟩ : ∃ Y, ((((WA.setCell ⟨w4.heap.size + 1, 0, none⟩ (.bool fc)).setCell ⟨w4.heap.size + 1, 1, none⟩ (.slice r1 C1 i1)).setCell ⟨w4.heap.size + 1, 2, none⟩ (.slice r2 C2 i2)).setCell ⟨w4.heap.size + 1, 3, none⟩ (.slice r3 C3 i3)) = Y := ⟨_, rfl⟩
        rw [hWB] at tB NB3 NA3
        have b4 : Below w4.heap.size w4 WB := by
          have h1 : Below w4.heap.size w4 YB := bA.trans (bB.mono bA.size)
          have h2 : Below w4.heap.size w4 WA := h1.trans (tA.below h1.size (fun j e => by omega))
          exact h2.trans (tB.below h2.size (fun j e => by omega))
        have B4 : Hid (Below W1.heap.size W1 WB) := B3'.out.trans (b4.mono B3'.out.size)
        have NA := hideN NA3
        have NC := hideN NB3
        have HMA : Hid (Bts n → (∀ W, Below WB.heap.size WB W → Calls Try.prog 12 #[.agg #[.bool true, .slice q1 A1 j1, .slice q2 A2 j2, .slice q3 A3 j3]] W fun e w' => e = .returned (.bool true) ∧ Below W.heap.size W w') ∧ (∀ W, Below WB.heap.size WB W → Calls Try.prog 12 #[.agg #[.bool fc, .slice r1 C1 i1, .slice r2 C2 i2, .slice r3 C3 i3]] W fun e w' => e = .returned (.bool true) ∧ Below W.heap.size W w')) := fun hbt => by
          have hm := hbt.halves HS.out (by rw [hz.out]; have := HZ1.out; omega) (by rw [hz.out]; have := HZ2.out; omega) HR.out
          have hsm := HR.out.sm HS.out
          refine ⟨fun W hb => ?_, fun W hb => ?_⟩
          · have := may_any A _ _ _ W ((HA.out.below b4).below hb) hsm.1
            rw [hfa.out, hm.1] at this
            exact this
          · have := may_any C _ _ _ W ((HC.out.below b4).below hb) hsm.2
            rw [hfc.out, hm.2] at this
            exact this
        have p0 := NA1.c0
        have p1 := NA1.c1
        have p2 := NA1.c2
        have p3 := NA1.c3
        have f0 := NA1.fz 0
        have f1 := NA1.fz 1
        have f2 := NA1.fz 2
        have f3 := NA1.fz 3
        have y0 := NB2.c0
        have y1 := NB2.c1
        have y2 := NB2.c2
        have y3 := NB2.c3
        have g0 := NB2.fz 0
        have g1 := NB2.fz 1
        have g2 := NB2.fz 2
        have g3 := NB2.fz 3
        have SA := hideN sA
        clear b4 bA bB NA0 NA1 NB1 tA NA2 NB2 tB NB3 NA3 HO HSP HRS hn1 hn2 hz1 hz2
        go_wp2_with fail
        try rw [hWA]
        try rw [hWB]
        clear hWA hWB hYA hYB p0 p1 p2 p3 f0 f1 f2 f3 y0 y1 y2 y3 g0 g1 g2 g3
        go_loopw [6] (fun i wr => ∃ (k : Nat), k ≤ L1 ∧ i = .int .i64 k ∧ Hid (∀ j, j < k → MayP (oneN n j) ∧ (0 < j → lts (kA n (j - 1)) (kA n j) = true)) ∧ Hid (Below WB.heap.size WB wr)) (fun i _ => L1 - (intOf i).toNat)
        case atStart => exact ⟨0, Nat.zero_le _, rfl, fun j hj => by omega, Below.refl _ _⟩
        case round =>
          obtain ⟨k, hk, rfl, hzk, BW⟩ := hrel
          have BR : Hid (Below W1.heap.size W1 wr) := B4.out.trans (BW.out.mono B4.out.size)
          have V3 : Hid (Nb wr 25 w.heap.size true (.slice a1 L1 c1) (.slice a2 L2 c2) (.slice a3 L3 c3)) := V1.out.below BR.out
          have p0 := V3.out.c0
          have p1 := V3.out.c1
          have p2 := V3.out.c2
          have p3 := V3.out.c3
          by_cases hlt : k < L1
          · obtain ⟨bb, bo, rfl, ck⟩ := (H1.out.below BR.out).key (i := k) (by rw [hL1.out]; exact hlt)
            have HCK : Hid (wr.cell? ⟨bb, bo + k, none⟩ = some (.string (kA n k))) := ck
            have HP : Hid (0 < k → wr.cell? ⟨bb, bo + (k - 1), none⟩ = some (.string (kA n (k - 1)))) := fun h0 => by
              obtain ⟨b', o', e, c⟩ := (H1.out.below BR.out).key (i := k - 1) (by rw [hL1.out]; omega)
              cases e
              exact c
            have U1 := hideN (midSV bb bo L1 c1 k hlt (by omega))
            have hk0 : (0 : Int) ≤ (k : Int) := by omega
            have hk1 : (k : Int) < (L1 : Int) := by omega
            have hk2 : (k : Int) ≤ 8796093021952 := by have := HS.out.kl; rw [hL1.out] at this; omega
            obtain ⟨mb, hmb⟩ : ∃ b, Hid (mayN (oneN n k) = b) := ⟨_, rfl⟩
            clear ck HMA
            go_wp2_with fail
            clear p0 p1 p2 p3
            refine beginW (S := fun w' => Nb w' 25 w.heap.size true (.slice (some ⟨bb, bo, none⟩) L1 c1) (.slice a2 L2 c2) (.slice a3 L3 c3)) (t := 10) (by kernel_rfl) ?_
            have hS : Nb wr.drew 25 w.heap.size true (.slice (some ⟨bb, bo, none⟩) L1 c1) (.slice a2 L2 c2) (.slice a3 L3 c3) := V3.out.below ((Below.refl _ _).drew)
            refine takeW 0 (some 31) (.fieldAddr 25 (.tmp 1) 0) (Value.pointer (some ⟨w.heap.size, 0, none⟩)) rfl rfl (by kernel_rfl) (by kernel_rfl) (by kernel_rfl) (by kernel_rfl) (fun _ _ _ h => h) ?hy hS ?_
            case hy =>
              rintro o ho w' _
              go_simp
            simp only [Act.put, List.setIfInBounds_toArray, List.set_cons_zero, List.set_cons_succ]
            refine takeW 1 (some 32) (.load 4 (.tmp 31)) (Value.bool true) rfl rfl (by kernel_rfl) (by kernel_rfl) (by kernel_rfl) (by kernel_rfl) (fun _ _ _ h => h) ?hy hS ?_
            case hy =>
              rintro o ho w' hA
              have q := hA.c0
              go_simp
            simp only [Act.put, List.setIfInBounds_toArray, List.set_cons_zero, List.set_cons_succ]
            refine takeW 2 (some 33) (.fieldAddr 25 (.tmp 1) 1) (Value.pointer (some ⟨w.heap.size, 1, none⟩)) rfl rfl (by kernel_rfl) (by kernel_rfl) (by kernel_rfl) (by kernel_rfl) (fun _ _ _ h => h) ?hy hS ?_
            case hy =>
              rintro o ho w' _
              go_simp
            simp only [Act.put, List.setIfInBounds_toArray, List.set_cons_zero, List.set_cons_succ]
            refine takeW 3 (some 34) (.load 22 (.tmp 33)) (Value.slice (some ⟨bb, bo, none⟩) L1 c1) rfl rfl (by kernel_rfl) (by kernel_rfl) (by kernel_rfl) (by kernel_rfl) (fun _ _ _ h => h) ?hy hS ?_
            case hy =>
              rintro o ho w' hA
              have q := hA.c1
              go_simp
            simp only [Act.put, List.setIfInBounds_toArray, List.set_cons_zero, List.set_cons_succ]
            refine takeW 4 (some 35) (.move (.tmp 6)) (Value.int .i64 (k : Int)) rfl rfl (by kernel_rfl) (by kernel_rfl) (by kernel_rfl) (by kernel_rfl) (fun _ _ _ h => h) ?hy hS ?_
            case hy =>
              rintro o ho w' _
              go_simp
            simp only [Act.put, List.setIfInBounds_toArray, List.set_cons_zero, List.set_cons_succ]
            refine takeW 5 (some 36) (.move (.tmp 6)) (Value.int .i64 (k : Int)) rfl rfl (by kernel_rfl) (by kernel_rfl) (by kernel_rfl) (by kernel_rfl) (fun _ _ _ h => h) ?hy hS ?_
            case hy =>
              rintro o ho w' _
              go_simp
            simp only [Act.put, List.setIfInBounds_toArray, List.set_cons_zero, List.set_cons_succ]
            refine takeW 6 (some 37) (.binOp .add 3 (.tmp 36) (.const (.int .i64 1)) 3) (Value.int .i64 ((k : Int) + 1)) rfl rfl (by kernel_rfl) (by kernel_rfl) (by kernel_rfl) (by kernel_rfl) (fun _ _ _ h => h) ?hy hS ?_
            case hy =>
              rintro o ho w' _
              have hkw : IntKind.i64.wrap ((k : Int) + 1) = (k : Int) + 1 := by rw [IntKind.wrap_i64]; omega
              go_simp
            simp only [Act.put, List.setIfInBounds_toArray, List.set_cons_zero, List.set_cons_succ]
            refine takeW 7 (some 38) (.slice 22 (.tmp 34) (some (.tmp 35)) (some (.tmp 37)) none) (Value.slice (some ⟨bb, bo + k, none⟩) 1 (c1 - k)) rfl rfl (by kernel_rfl) (by kernel_rfl) (by kernel_rfl) (by kernel_rfl) (fun _ _ _ h => h) ?hy hS ?_
            case hy =>
              rintro o ho w' _
              unfold execOp
              simp only [ho, Option.map_some, Option.map_none, Sem.run_bind]
              erw [U1.out w']
              rfl
            simp only [Act.put, List.setIfInBounds_toArray, List.set_cons_zero, List.set_cons_succ]
            refine takeW 8 (some 39) (.build 25 #[(0, .tmp 32), (1, .tmp 38)]) (nod true (.slice (some ⟨bb, bo + k, none⟩) 1 (c1 - k)) (.slice none 0 0) (.slice none 0 0)) rfl rfl (by kernel_rfl) (by kernel_rfl) (by kernel_rfl) (by kernel_rfl) (fun _ _ _ h => h) ?hy hS ?_
            case hy =>
              rintro o ho w' _
              unfold nod
              go_simp
            simp only [Act.put, List.setIfInBounds_toArray, List.set_cons_zero, List.set_cons_succ]
            obtain ⟨X0, hX0⟩ : ∃ X, wr.drew = X := ⟨_, rfl⟩
            have b0 : Below wr.heap.size wr X0 := by rw [← hX0]; exact (Below.refl _ _).drew
            rw [hX0] at hS ⊢
            refine readyW 9 (some 7) (.alloc 25) rfl (by kernel_rfl) ?_
            rintro o K hd ho hg hK
            refine wp_allocR ho ?_
            rw [hd]
            obtain ⟨p, hp⟩ : ∃ g, X0.heap.size = g := ⟨_, rfl⟩
            obtain ⟨X1, hX1⟩ : ∃ X, X0.alloc (.cells #[.bool false, .slice none 0 0, .slice none 0 0, .slice none 0 0] 25) = X := ⟨_, rfl⟩
            have bl0 : Below X0.heap.size X0 X1 := by rw [← hX1]; exact below_alloc _ _
            have nbp : Nb X1 25 p false (.slice none 0 0) (.slice none 0 0) (.slice none 0 0) := by rw [← hX1, ← hp]; exact nb_new _ _ _ _ _ _
            rw [hX1, hp]
            refine hK _ _ (fun _ => hS.below bl0) ?_
            clear ho hd hg hK
            simp only [Act.put, List.setIfInBounds_toArray, List.set_cons_zero, List.set_cons_succ]
            refine readyW 10 none (.store 25 (.tmp 7) (.tmp 39)) rfl (by kernel_rfl) ?_
            rintro o K hd ho hg hK
            refine wp_storeR ho rfl rfl nbp ?_
            have np := nbp.all true (.slice (some ⟨bb, bo + k, none⟩) 1 (c1 - k)) (.slice none 0 0) (.slice none 0 0)
            have tp := tch_all X1 p (.bool true) (.slice (some ⟨bb, bo + k, none⟩) 1 (c1 - k)) (.slice none 0 0) (.slice none 0 0)
            have HPG : Hid (wr.heap.size ≤ p) := by have := b0.size; show _ ≤ _; omega
            have bY : Below wr.heap.size wr ((((X1.setCell ⟨p, 0, none⟩ (.bool true)).setCell ⟨p, 1, none⟩ (.slice (some ⟨bb, bo + k, none⟩) 1 (c1 - k))).setCell ⟨p, 2, none⟩ (.slice none 0 0)).setCell ⟨p, 3, none⟩ (.slice none 0 0)) := by
              have h1 : Below wr.heap.size wr X1 := b0.trans (bl0.mono b0.size)
              exact h1.trans (tp.below h1.size (fun j e => by have := HPG.out; omega))
            rw [hd]
            refine hK _ _ (fun e => absurd rfl e) ?_
            refine doneW (by kernel_rfl) ?_ _
            clear ho hd hg hK bl0 nbp tp hp hX1 hS hX0 b0
            simp only [Act.put]
            have PY0 := hideN np
            have BY0 := hideN bY
            revert PY0 BY0
            clear np bY
            generalize (((X1.setCell _ _).setCell _ _).setCell _ _).setCell _ _ = Y0
            intro PY0 BY0

            have V4 := V1.out.below (BR.out.trans (BY0.out.mono BR.out.size))
            have y1 := V4.c1
            have ky : Y0.cell? ⟨bb, bo + k, none⟩ = some (.string (kA n k)) := (BY0.out.cell (p := ⟨bb, bo + k, none⟩) (World.block_lt_of_cell? wr ⟨bb, bo + k, none⟩ HCK.out)).trans HCK.out
            clear V4
            obtain ⟨key, hkey⟩ : ∃ s, Hid (kA n k = s) := ⟨_, rfl⟩
            obtain ⟨prv, hprv⟩ : ∃ s, Hid (kA n (k - 1) = s) := ⟨_, rfl⟩
            rw [hkey.out] at ky
            by_cases h0 : 0 < k
            · have h0' : (0 : Int) < (k : Int) := by omega
              have hd0 : decide ((0 : Int) < (k : Int)) = true := by rw [decide_eq_true_iff]; omega
              have cp : Y0.cell? ⟨bb, bo + (k - 1), none⟩ = some (.string prv) := by rw [← hprv.out]; exact (BY0.out.cell (p := ⟨bb, bo + (k - 1), none⟩) (World.block_lt_of_cell? wr ⟨bb, bo + (k - 1), none⟩ (HP.out h0))).trans (HP.out h0)
              cases hlt2 : Op.bytesLess prv.toList key.toList with
              | true =>
                have hg : (!Op.bytesLess prv.toList key.toList) = false := by rw [hlt2]; rfl
                have HOR : Hid (0 < k → lts (kA n (k - 1)) (kA n k) = true) := fun _ => by rw [hkey.out, hprv.out]; exact hlt2
                go_wp2_with fail
                go_quiet (fail)
                clear cp hg hlt2 hd0
                obtain ⟨Y1, hY1⟩ : ∃ Y, Y0.drewN nq = Y := ⟨_, rfl⟩
                rw [hY1]
                have b01 : Below Y0.heap.size Y0 Y1 := by rw [← hY1]; exact Below.of_drewN _ _ _
                have BYr : Hid (Below wr.heap.size wr Y1) := BY0.out.trans (b01.mono BY0.out.size)
                have BY : Hid (Below W1.heap.size W1 Y1) := BR.out.trans (BYr.out.mono BR.out.size)
                have PY : Hid (Nb Y1 25 p true (.slice (some ⟨bb, bo + k, none⟩) 1 (c1 - k)) (.slice none 0 0) (.slice none 0 0)) := PY0.out.below b01
                clear hY1 b01 y1 ky
                have V6 := V1.out.below BY.out
                have y0 := V6.c0
                have y1 := V6.c1
                have y2 := V6.c2
                have y3 := V6.c3
                clear V6
                by_cases hv : k < L2
                · have hvi : (k : Int) < (L2 : Int) := by omega
                  obtain ⟨vb, vo, rfl, cv0⟩ := (H1.out.below BY.out).val (i := k) (by rw [hL2.out]; exact hv)
                  have U2 := midSV vb vo L2 c2 k hv (by omega)
                  have q0 := PY.out.c2
                  have q1 := PY.out.fz 2
                  have NY2 := PY.out.s2 (.slice (some ⟨vb, vo + k, none⟩) 1 (c2 - k))
                  obtain ⟨Y2, hY2⟩ : ∃ Y, Y1.setCell ⟨p, 2, none⟩ (.slice (some ⟨vb, vo + k, none⟩) 1 (c2 - k)) = Y := ⟨_, rfl⟩
                  have t2 := tch_at Y1 p 2 (.slice (some ⟨vb, vo + k, none⟩) 1 (c2 - k))
                  rw [hY2] at NY2 t2
                  have b2' : Below wr.heap.size wr Y2 := BYr.out.trans (t2.below BYr.out.size (fun j e => by have := HPG.out; omega))
                  have HCV : Hid (wr.cell? ⟨vb, vo + k, none⟩ = some (.string (vA n k))) := by
                    obtain ⟨vb', vo', e, c⟩ := (H1.out.below BR.out).val (i := k) (by rw [hL2.out]; exact hv)
                    cases e
                    exact c
                  have ONE : Hid ((oneN n k).vs = [vA n k] ∧ (oneN n k).kd = []) := ⟨by show (if n.lf = true ∧ k < n.vs.length then [vA n k] else []) = _; rw [if_pos ⟨hlf.out, by rw [hL2.out]; exact hv⟩], by show (if n.lf = false ∧ k < n.kd.length then [dA n k] else []) = _; rw [if_neg (by rw [hlf.out]; simp)]⟩
                  have NO : Hid (Nn Y2 (oneN n k) (.slice (some ⟨bb, bo + k, none⟩) 1 (c1 - k)) (.slice (some ⟨vb, vo + k, none⟩) 1 (c2 - k)) (.slice none 0 0)) := ⟨rdV_one (b2'.cell (p := ⟨bb, bo + k, none⟩) (World.block_lt_of_cell? wr ⟨bb, bo + k, none⟩ HCK.out) |>.trans HCK.out) (by omega) (by omega), (by rw [ONE.out.1]; exact rdV_one (b2'.cell (p := ⟨vb, vo + k, none⟩) (World.block_lt_of_cell? wr ⟨vb, vo + k, none⟩ HCV.out) |>.trans HCV.out) (by omega) (by omega)), (by rw [ONE.out.2]; exact rdV_nil _)⟩
                  have HMY : Hid (Calls Try.prog 10 #[.agg #[.bool true, .slice (some ⟨bb, bo + k, none⟩) 1 (c1 - k), .slice (some ⟨vb, vo + k, none⟩) 1 (c2 - k), .slice none 0 0]] Y2 fun e w' => e = .returned (.bool mb) ∧ Below Y2.heap.size Y2 w') := by
                    have := refMay_any (oneN n k) _ _ _ Y2 NO.out (one_sm HS.out k)
                    rw [show (oneN n k).lf = true from hlf.out, hmb.out] at this
                    exact this
                  have BY2 : Hid (Below wr.heap.size wr Y2) := b2'
                  have B5 : Hid (Below WB.heap.size WB Y2) := BW.out.trans (b2'.mono BW.out.size)
                  have V5 := V1.out.below (B4.out.trans (B5.out.mono B4.out.size))
                  have x0 := NY2.c0
                  have x1 := NY2.c1
                  have x2 := NY2.c2
                  have x3 := NY2.c3
                  have z0 := V5.c0
                  have z1 := V5.c1
                  have z2 := V5.c2
                  have z3 := V5.c3
                  clear NO V5 b2' NY2 ONE HCK
                  go_wp2_with fail
                  refine HMY.out.mono ?_
                  rintro e w6 ⟨rfl, b6⟩
                  have B6 : Hid (Below WB.heap.size WB w6) := B5.out.trans (b6.mono B5.out.size)
                  have BF6 : Hid (Below w.heap.size w w6) := B1.out.trans ((B4.out.trans (B6.out.mono B4.out.size)).mono B1.out.size)
                  clear b6 x0 x1 x2 x3 z0 z1 z2 z3 HMY
                  cases mb with
                  | true =>
                    have HK : Hid (∀ j, j < k + 1 → MayP (oneN n j) ∧ (0 < j → lts (kA n (j - 1)) (kA n j) = true)) := fun j hj => by
                      by_cases e : j < k
                      · exact hzk.out j e
                      · have : j = k := by omega
                        subst this
                        exact ⟨mayN_iff.1 hmb.out, HOR.out⟩
                    go_wp2_with fail
                    go_roundw
                    case rel => exact ⟨k + 1, by omega, by go_num, HK, B6⟩
                    case measure => simp [intOf]; omega
                  | false =>
                    go_wp2_with fail
                    refine (HLV.out _).mono ?_
                    rintro e wL ⟨rfl, bL⟩
                    have BL : Hid (Below w.heap.size w wL) := BF6.out.trans (bL.mono BF6.out.size)
                    clear bL
                    go_wp2_with fail
                    go_ret
                    exact ⟨rfl, BL.out⟩
                · have hvd : decide ((k : Int) < (L2 : Int)) = false := by rw [decide_eq_false_iff_not]; omega
                  have hvd2 : decide (k < L2) = false := by rw [decide_eq_false_iff_not]; exact hv
                  obtain ⟨Y2, hY2⟩ : ∃ Y, Y1 = Y := ⟨_, rfl⟩
                  have NY2 := PY.out
                  rw [hY2] at NY2
                  have b2' : Below wr.heap.size wr Y2 := by rw [← hY2]; exact BYr.out
                  subst hY2
                  have ONE : Hid ((oneN n k).vs = [] ∧ (oneN n k).kd = []) := ⟨by show (if n.lf = true ∧ k < n.vs.length then [vA n k] else []) = _; rw [if_neg (by rw [hL2.out, hlf.out]; intro h; exact hv h.2)], by show (if n.lf = false ∧ k < n.kd.length then [dA n k] else []) = _; rw [if_neg (by rw [hL3.out, hlf.out]; simp)]⟩
                  have NO : Hid (Nn Y1 (oneN n k) (.slice (some ⟨bb, bo + k, none⟩) 1 (c1 - k)) (.slice none 0 0) (.slice none 0 0)) := ⟨rdV_one (b2'.cell (p := ⟨bb, bo + k, none⟩) (World.block_lt_of_cell? wr ⟨bb, bo + k, none⟩ HCK.out) |>.trans HCK.out) (by omega) (by omega), (by rw [ONE.out.1]; exact rdV_nil _), (by rw [ONE.out.2]; exact rdV_nil _)⟩
                  have HMY : Hid (Calls Try.prog 10 #[.agg #[.bool true, .slice (some ⟨bb, bo + k, none⟩) 1 (c1 - k), .slice none 0 0, .slice none 0 0]] Y1 fun e w' => e = .returned (.bool mb) ∧ Below Y1.heap.size Y1 w') := by
                    have := refMay_any (oneN n k) _ _ _ Y1 NO.out (one_sm HS.out k)
                    rw [show (oneN n k).lf = true from hlf.out, hmb.out] at this
                    exact this
                  have BY2 : Hid (Below wr.heap.size wr Y1) := b2'
                  have B5 : Hid (Below WB.heap.size WB Y1) := BW.out.trans (b2'.mono BW.out.size)
                  have V5 := V1.out.below (B4.out.trans (B5.out.mono B4.out.size))
                  have x0 := NY2.c0
                  have x1 := NY2.c1
                  have x2 := NY2.c2
                  have x3 := NY2.c3
                  have z0 := V5.c0
                  have z1 := V5.c1
                  have z2 := V5.c2
                  have z3 := V5.c3
                  clear NO V5 b2' NY2 ONE HCK
                  go_wp2_with fail
                  refine HMY.out.mono ?_
                  rintro e w6 ⟨rfl, b6⟩
                  have B6 : Hid (Below WB.heap.size WB w6) := B5.out.trans (b6.mono B5.out.size)
                  have BF6 : Hid (Below w.heap.size w w6) := B1.out.trans ((B4.out.trans (B6.out.mono B4.out.size)).mono B1.out.size)
                  clear b6 x0 x1 x2 x3 z0 z1 z2 z3 HMY
                  cases mb with
                  | true =>
                    have HK : Hid (∀ j, j < k + 1 → MayP (oneN n j) ∧ (0 < j → lts (kA n (j - 1)) (kA n j) = true)) := fun j hj => by
                      by_cases e : j < k
                      · exact hzk.out j e
                      · have : j = k := by omega
                        subst this
                        exact ⟨mayN_iff.1 hmb.out, HOR.out⟩
                    go_wp2_with fail
                    go_roundw
                    case rel => exact ⟨k + 1, by omega, by go_num, HK, B6⟩
                    case measure => simp [intOf]; omega
                  | false =>
                    go_wp2_with fail
                    refine (HLV.out _).mono ?_
                    rintro e wL ⟨rfl, bL⟩
                    have BL : Hid (Below w.heap.size w wL) := BF6.out.trans (bL.mono BF6.out.size)
                    clear bL
                    go_wp2_with fail
                    go_ret
                    exact ⟨rfl, BL.out⟩
              | false =>
                have hg : (!Op.bytesLess prv.toList key.toList) = true := by rw [hlt2]; rfl
                have BF6 : Hid (Below w.heap.size w Y0) := B1.out.trans ((BR.out.trans (BY0.out.mono BR.out.size)).mono B1.out.size)
                go_wp2_with fail
                go_quiet (fail)
                go_wp2_with fail
                refine (HLV.out _).mono ?_
                rintro e wL ⟨rfl, bL⟩
                have BL : Hid (Below w.heap.size w wL) := (BF6.out.trans (Below.of_drewN _ _ _)).trans (bL.mono (BF6.out.trans (Below.of_drewN _ _ _)).size)
                clear bL
                go_wp2_with fail
                go_ret
                exact ⟨rfl, BL.out⟩
            · have hd0 : decide ((0 : Int) < (k : Int)) = false := by rw [decide_eq_false_iff_not]; omega
              have HOR : Hid (0 < k → lts (kA n (k - 1)) (kA n k) = true) := fun e => absurd e h0
              go_wp2_with fail
              go_quiet (fail)
              clear hd0
              obtain ⟨Y1, hY1⟩ : ∃ Y, Y0.drewN nq = Y := ⟨_, rfl⟩
              rw [hY1]
              have b01 : Below Y0.heap.size Y0 Y1 := by rw [← hY1]; exact Below.of_drewN _ _ _
              have BYr : Hid (Below wr.heap.size wr Y1) := BY0.out.trans (b01.mono BY0.out.size)
              have BY : Hid (Below W1.heap.size W1 Y1) := BR.out.trans (BYr.out.mono BR.out.size)
              have PY : Hid (Nb Y1 25 p true (.slice (some ⟨bb, bo + k, none⟩) 1 (c1 - k)) (.slice none 0 0) (.slice none 0 0)) := PY0.out.below b01
              clear hY1 b01 y1 ky
              have V6 := V1.out.below BY.out
              have y0 := V6.c0
              have y1 := V6.c1
              have y2 := V6.c2
              have y3 := V6.c3
              clear V6
              by_cases hv : k < L2
              · have hvi : (k : Int) < (L2 : Int) := by omega
                obtain ⟨vb, vo, rfl, cv0⟩ := (H1.out.below BY.out).val (i := k) (by rw [hL2.out]; exact hv)
                have U2 := midSV vb vo L2 c2 k hv (by omega)
                have q0 := PY.out.c2
                have q1 := PY.out.fz 2
                have NY2 := PY.out.s2 (.slice (some ⟨vb, vo + k, none⟩) 1 (c2 - k))
                obtain ⟨Y2, hY2⟩ : ∃ Y, Y1.setCell ⟨p, 2, none⟩ (.slice (some ⟨vb, vo + k, none⟩) 1 (c2 - k)) = Y := ⟨_, rfl⟩
                have t2 := tch_at Y1 p 2 (.slice (some ⟨vb, vo + k, none⟩) 1 (c2 - k))
                rw [hY2] at NY2 t2
                have b2' : Below wr.heap.size wr Y2 := BYr.out.trans (t2.below BYr.out.size (fun j e => by have := HPG.out; omega))
                have HCV : Hid (wr.cell? ⟨vb, vo + k, none⟩ = some (.string (vA n k))) := by
                  obtain ⟨vb', vo', e, c⟩ := (H1.out.below BR.out).val (i := k) (by rw [hL2.out]; exact hv)
                  cases e
                  exact c
                have ONE : Hid ((oneN n k).vs = [vA n k] ∧ (oneN n k).kd = []) := ⟨by show (if n.lf = true ∧ k < n.vs.length then [vA n k] else []) = _; rw [if_pos ⟨hlf.out, by rw [hL2.out]; exact hv⟩], by show (if n.lf = false ∧ k < n.kd.length then [dA n k] else []) = _; rw [if_neg (by rw [hlf.out]; simp)]⟩
                have NO : Hid (Nn Y2 (oneN n k) (.slice (some ⟨bb, bo + k, none⟩) 1 (c1 - k)) (.slice (some ⟨vb, vo + k, none⟩) 1 (c2 - k)) (.slice none 0 0)) := ⟨rdV_one (b2'.cell (p := ⟨bb, bo + k, none⟩) (World.block_lt_of_cell? wr ⟨bb, bo + k, none⟩ HCK.out) |>.trans HCK.out) (by omega) (by omega), (by rw [ONE.out.1]; exact rdV_one (b2'.cell (p := ⟨vb, vo + k, none⟩) (World.block_lt_of_cell? wr ⟨vb, vo + k, none⟩ HCV.out) |>.trans HCV.out) (by omega) (by omega)), (by rw [ONE.out.2]; exact rdV_nil _)⟩
                have HMY : Hid (Calls Try.prog 10 #[.agg #[.bool true, .slice (some ⟨bb, bo + k, none⟩) 1 (c1 - k), .slice (some ⟨vb, vo + k, none⟩) 1 (c2 - k), .slice none 0 0]] Y2 fun e w' => e = .returned (.bool mb) ∧ Below Y2.heap.size Y2 w') := by
                  have := refMay_any (oneN n k) _ _ _ Y2 NO.out (one_sm HS.out k)
                  rw [show (oneN n k).lf = true from hlf.out, hmb.out] at this
                  exact this
                have BY2 : Hid (Below wr.heap.size wr Y2) := b2'
                have B5 : Hid (Below WB.heap.size WB Y2) := BW.out.trans (b2'.mono BW.out.size)
                have V5 := V1.out.below (B4.out.trans (B5.out.mono B4.out.size))
                have x0 := NY2.c0
                have x1 := NY2.c1
                have x2 := NY2.c2
                have x3 := NY2.c3
                have z0 := V5.c0
                have z1 := V5.c1
                have z2 := V5.c2
                have z3 := V5.c3
                clear NO V5 b2' NY2 ONE HCK
                go_wp2_with fail
                refine HMY.out.mono ?_
                rintro e w6 ⟨rfl, b6⟩
                have B6 : Hid (Below WB.heap.size WB w6) := B5.out.trans (b6.mono B5.out.size)
                have BF6 : Hid (Below w.heap.size w w6) := B1.out.trans ((B4.out.trans (B6.out.mono B4.out.size)).mono B1.out.size)
                clear b6 x0 x1 x2 x3 z0 z1 z2 z3 HMY
                cases mb with
                | true =>
                  have HK : Hid (∀ j, j < k + 1 → MayP (oneN n j) ∧ (0 < j → lts (kA n (j - 1)) (kA n j) = true)) := fun j hj => by
                    by_cases e : j < k
                    · exact hzk.out j e
                    · have : j = k := by omega
                      subst this
                      exact ⟨mayN_iff.1 hmb.out, HOR.out⟩
                  go_wp2_with fail
                  go_roundw
                  case rel => exact ⟨k + 1, by omega, by go_num, HK, B6⟩
                  case measure => simp [intOf]; omega
                | false =>
                  go_wp2_with fail
                  refine (HLV.out _).mono ?_
                  rintro e wL ⟨rfl, bL⟩
                  have BL : Hid (Below w.heap.size w wL) := BF6.out.trans (bL.mono BF6.out.size)
                  clear bL
                  go_wp2_with fail
                  go_ret
                  exact ⟨rfl, BL.out⟩
              · have hvd : decide ((k : Int) < (L2 : Int)) = false := by rw [decide_eq_false_iff_not]; omega
                have hvd2 : decide (k < L2) = false := by rw [decide_eq_false_iff_not]; exact hv
                obtain ⟨Y2, hY2⟩ : ∃ Y, Y1 = Y := ⟨_, rfl⟩
                have NY2 := PY.out
                rw [hY2] at NY2
                have b2' : Below wr.heap.size wr Y2 := by rw [← hY2]; exact BYr.out
                subst hY2
                have ONE : Hid ((oneN n k).vs = [] ∧ (oneN n k).kd = []) := ⟨by show (if n.lf = true ∧ k < n.vs.length then [vA n k] else []) = _; rw [if_neg (by rw [hL2.out, hlf.out]; intro h; exact hv h.2)], by show (if n.lf = false ∧ k < n.kd.length then [dA n k] else []) = _; rw [if_neg (by rw [hL3.out, hlf.out]; simp)]⟩
                have NO : Hid (Nn Y1 (oneN n k) (.slice (some ⟨bb, bo + k, none⟩) 1 (c1 - k)) (.slice none 0 0) (.slice none 0 0)) := ⟨rdV_one (b2'.cell (p := ⟨bb, bo + k, none⟩) (World.block_lt_of_cell? wr ⟨bb, bo + k, none⟩ HCK.out) |>.trans HCK.out) (by omega) (by omega), (by rw [ONE.out.1]; exact rdV_nil _), (by rw [ONE.out.2]; exact rdV_nil _)⟩
                have HMY : Hid (Calls Try.prog 10 #[.agg #[.bool true, .slice (some ⟨bb, bo + k, none⟩) 1 (c1 - k), .slice none 0 0, .slice none 0 0]] Y1 fun e w' => e = .returned (.bool mb) ∧ Below Y1.heap.size Y1 w') := by
                  have := refMay_any (oneN n k) _ _ _ Y1 NO.out (one_sm HS.out k)
                  rw [show (oneN n k).lf = true from hlf.out, hmb.out] at this
                  exact this
                have BY2 : Hid (Below wr.heap.size wr Y1) := b2'
                have B5 : Hid (Below WB.heap.size WB Y1) := BW.out.trans (b2'.mono BW.out.size)
                have V5 := V1.out.below (B4.out.trans (B5.out.mono B4.out.size))
                have x0 := NY2.c0
                have x1 := NY2.c1
                have x2 := NY2.c2
                have x3 := NY2.c3
                have z0 := V5.c0
                have z1 := V5.c1
                have z2 := V5.c2
                have z3 := V5.c3
                clear NO V5 b2' NY2 ONE HCK
                go_wp2_with fail
                refine HMY.out.mono ?_
                rintro e w6 ⟨rfl, b6⟩
                have B6 : Hid (Below WB.heap.size WB w6) := B5.out.trans (b6.mono B5.out.size)
                have BF6 : Hid (Below w.heap.size w w6) := B1.out.trans ((B4.out.trans (B6.out.mono B4.out.size)).mono B1.out.size)
                clear b6 x0 x1 x2 x3 z0 z1 z2 z3 HMY
                cases mb with
                | true =>
                  have HK : Hid (∀ j, j < k + 1 → MayP (oneN n j) ∧ (0 < j → lts (kA n (j - 1)) (kA n j) = true)) := fun j hj => by
                    by_cases e : j < k
                    · exact hzk.out j e
                    · have : j = k := by omega
                      subst this
                      exact ⟨mayN_iff.1 hmb.out, HOR.out⟩
                  go_wp2_with fail
                  go_roundw
                  case rel => exact ⟨k + 1, by omega, by go_num, HK, B6⟩
                  case measure => simp [intOf]; omega
                | false =>
                  go_wp2_with fail
                  refine (HLV.out _).mono ?_
                  rintro e wL ⟨rfl, bL⟩
                  have BL : Hid (Below w.heap.size w wL) := BF6.out.trans (bL.mono BF6.out.size)
                  clear bL
                  go_wp2_with fail
                  go_ret
                  exact ⟨rfl, BL.out⟩
          · have BF6 : Hid (Below w.heap.size w wr) := B1.out.trans (BR.out.mono B1.out.size)
            by_cases e1 : L2 = L1
            · by_cases e2 : L3 = 0
              · have HBT : Hid (Bts n) := by
                  refine ⟨fun i hi => (hzk.out i (by rw [hL1.out] at hi; omega)).1, fun i hi h0 => (hzk.out i (by rw [hL1.out] at hi; omega)).2 h0, ?_⟩
                  rw [hlf.out]
                  rw [if_pos rfl, hL1.out, hL2.out, hL3.out]
                  exact ⟨e1, e2⟩
                have HM2 := hideN (HMA.out HBT.out)
                have M1 := hideN (HM2.out.1 wr BW.out)
                have PA := NA.out.below BW.out
                have s0 := PA.c0
                have s1 := PA.c1
                have s2 := PA.c2
                have s3 := PA.c3
                clear PA
                subst e2
                subst e1
                go_wp2_with fail
                refine M1.out.mono ?_
                rintro e w5 ⟨rfl, b5⟩
                have B5 : Hid (Below WB.heap.size WB w5) := BW.out.trans (b5.mono BW.out.size)
                have M2 := hideN (HM2.out.2 w5 B5.out)
                clear b5 s0 s1 s2 s3 p0 p1 p2 p3
                have PC := NC.out.below B5.out
                have s0 := PC.c0
                have s1 := PC.c1
                have s2 := PC.c2
                have s3 := PC.c3
                clear PC
                go_wp2_with fail
                refine M2.out.mono ?_
                rintro e w6 ⟨rfl, b6⟩
                have B6 : Hid (Below WB.heap.size WB w6) := B5.out.trans (b6.mono B5.out.size)
                have BF7 : Hid (Below w.heap.size w w6) := B1.out.trans ((B4.out.trans (B6.out.mono B4.out.size)).mono B1.out.size)
                clear b6 s0 s1 s2 s3
                go_wp2_with fail
                refine (HLV.out _).mono ?_
                rintro e wL ⟨rfl, bL⟩
                have BL : Hid (Below w.heap.size w wL) := BF7.out.trans (bL.mono BF7.out.size)
                clear bL
                go_wp2_with fail
                go_ret
                exact ⟨rfl, BL.out⟩
              · have i2 : ¬ (L3 : Int) = 0 := by omega
                have i3 : (0 : Int) < (L3 : Int) := by omega
                have i4 : 0 < L3 := by omega
                subst e1
                go_wp2_with fail
                refine (HLV.out _).mono ?_
                rintro e wL ⟨rfl, bL⟩
                have BL : Hid (Below w.heap.size w wL) := BF6.out.trans (bL.mono BF6.out.size)
                clear bL
                go_wp2_with fail
                go_ret
                exact ⟨rfl, BL.out⟩
            · have i1 : ¬ (L2 : Int) = (L1 : Int) := by omega
              go_wp2_with fail
              refine (HLV.out _).mono ?_
              rintro e wL ⟨rfl, bL⟩
              have BL : Hid (Below w.heap.size w wL) := BF6.out.trans (bL.mono BF6.out.size)
              clear bL
              go_wp2_with fail
              go_ret
              exact ⟨rfl, BL.out⟩
      | false =>
        have hn1 : decide (z ≤ 240) = false := by rw [decide_eq_false_iff_not]; omega
        have hn2 : decide (292 < z) = false := by rw [decide_eq_false_iff_not]; omega
        go_wp2_with fail
        refine (HO.out w2 B2.out).mono ?_
        rintro e w3 ⟨⟨v1, v2, v3, rfl, hN2⟩, b2⟩
        have B3 : Hid (Below W1.heap.size W1 w3) := B2.out.trans (b2.mono B2.out.size)
        have N2 := hideN hN2
        clear b2 hN2 p0 p1 p2 p3
        go_wp2_with fail
        refine (HSP.out w3 v1 v2 v3 N2.out).mono ?_
        rintro e w4 ⟨⟨k1, k2, k3, o1, o2, o3, A, C, rfl, hA, hC, hR⟩, b3⟩
        have B3' : Hid (Below W1.heap.size W1 w4) := B3.out.trans (b3.mono B3.out.size)
        have HR := hideN hR
        have HA := hideN hA
        have HC := hideN hC
        obtain ⟨q1, j1, q2, j2, q3, j3, rfl, rfl, rfl, _, _, _, _⟩ := hA.out
        obtain ⟨r1, i1, r2, i2, r3, i3, rfl, rfl, rfl, _, _, _, _⟩ := hC.out
        obtain ⟨A1, hA1⟩ : ∃ L, Hid (A.ks.length = L) := ⟨_, rfl⟩
        obtain ⟨A2, hA2⟩ : ∃ L, Hid (A.vs.length = L) := ⟨_, rfl⟩
        obtain ⟨A3, hA3⟩ : ∃ L, Hid (A.kd.length = L) := ⟨_, rfl⟩
        obtain ⟨C1, hC1⟩ : ∃ L, Hid (C.ks.length = L) := ⟨_, rfl⟩
        obtain ⟨C2, hC2⟩ : ∃ L, Hid (C.vs.length = L) := ⟨_, rfl⟩
        obtain ⟨C3, hC3⟩ : ∃ L, Hid (C.kd.length = L) := ⟨_, rfl⟩
        rw [hA1.out, hA2.out, hA3.out] at HA ⊢
        rw [hC1.out, hC2.out, hC3.out] at HC ⊢
        obtain ⟨fa, hfa⟩ : ∃ f, Hid (A.lf = f) := ⟨_, rfl⟩
        obtain ⟨fc, hfc⟩ : ∃ f, Hid (C.lf = f) := ⟨_, rfl⟩
        rw [hfa.out, hfc.out]
        clear b3 hA hC hR N2
        unfold nod
        obtain rfl : fa = false := by rw [← hfa.out, HR.out.leafA, hlf.out]
        obtain ⟨YA, hYA⟩ : ∃ Y, w4.alloc (.cells #[.bool false, .slice none 0 0, .slice none 0 0, .slice none 0 0] 26) = Y := ⟨_, rfl⟩
        obtain ⟨YB, hYB⟩ : ∃ Y, YA.alloc (.cells #[.bool false, .slice none 0 0, .slice none 0 0, .slice none 0 0] 26) = Y := ⟨_, rfl⟩
        have sA : YA.heap.size = w4.heap.size + 1 := by rw [← hYA]; simp
        have bA : Below w4.heap.size w4 YA := by rw [← hYA]; exact below_alloc _ _
        have bB : Below YA.heap.size YA YB := by rw [← hYB]; exact below_alloc _ _
        have NA0 : Nb YA 26 w4.heap.size false (.slice none 0 0) (.slice none 0 0) (.slice none 0 0) := by rw [← hYA]; exact nb_new _ _ _ _ _ _
        have NA1 := NA0.below bB
        have NB1 : Nb YB 26 (w4.heap.size + 1) false (.slice none 0 0) (.slice none 0 0) (.slice none 0 0) := by rw [← hYB, ← sA]; exact nb_new _ _ _ _ _ _
        have tA := tch_all YB w4.heap.size (.bool false) (.slice q1 A1 j1) (.slice q2 A2 j2) (.slice q3 A3 j3)
        have NA2 := NA1.all false (.slice q1 A1 j1) (.slice q2 A2 j2) (.slice q3 A3 j3)
        have NB2 := NB1.tch tA (by omega)
        obtain ⟨WA, hWA⟩ : ∃ Y, ((((YB.setCell ⟨w4.heap.size, 0, none⟩ (.bool false)).setCell ⟨w4.heap.size, 1, none⟩ (.slice q1 A1 j1)).setCell ⟨w4.heap.size, 2, none⟩ (.slice q2 A2 j2)).setCell ⟨w4.heap.size, 3, none⟩ (.slice q3 A3 j3)) = Y := ⟨_, rfl⟩
        rw [hWA] at tA NA2 NB2
        have tB := tch_all WA (w4.heap.size + 1) (.bool fc) (.slice r1 C1 i1) (.slice r2 C2 i2) (.slice r3 C3 i3)
        have NB3 := NB2.all fc (.slice r1 C1 i1) (.slice r2 C2 i2) (.slice r3 C3 i3)
        have NA3 := NA2.tch tB (by omega)
        obtain ⟨WB, hWB⟩ : ∃ Y, ((((WA.setCell ⟨w4.heap.size + 1, 0, none⟩ (.bool fc)).setCell ⟨w4.heap.size + 1, 1, none⟩ (.slice r1 C1 i1)).setCell ⟨w4.heap.size + 1, 2, none⟩ (.slice r2 C2 i2)).setCell ⟨w4.heap.size + 1, 3, none⟩ (.slice r3 C3 i3)) = Y := ⟨_, rfl⟩
        rw [hWB] at tB NB3 NA3
        have b4 : Below w4.heap.size w4 WB := by
          have h1 : Below w4.heap.size w4 YB := bA.trans (bB.mono bA.size)
          have h2 : Below w4.heap.size w4 WA := h1.trans (tA.below h1.size (fun j e => by omega))
          exact h2.trans (tB.below h2.size (fun j e => by omega))
        have B4 : Hid (Below W1.heap.size W1 WB) := B3'.out.trans (b4.mono B3'.out.size)
        have NA := hideN NA3
        have NC := hideN NB3
        have HMA : Hid (Bts n → (∀ W, Below WB.heap.size WB W → Calls Try.prog 12 #[.agg #[.bool false, .slice q1 A1 j1, .slice q2 A2 j2, .slice q3 A3 j3]] W fun e w' => e = .returned (.bool true) ∧ Below W.heap.size W w') ∧ (∀ W, Below WB.heap.size WB W → Calls Try.prog 12 #[.agg #[.bool fc, .slice r1 C1 i1, .slice r2 C2 i2, .slice r3 C3 i3]] W fun e w' => e = .returned (.bool true) ∧ Below W.heap.size W w')) := fun hbt => by
          have hm := hbt.halves HS.out (by rw [hz.out]; have := HZ1.out; omega) (by rw [hz.out]; have := HZ2.out; omega) HR.out
          have hsm := HR.out.sm HS.out
          refine ⟨fun W hb => ?_, fun W hb => ?_⟩
          · have := may_any A _ _ _ W ((HA.out.below b4).below hb) hsm.1
            rw [hfa.out, hm.1] at this
            exact this
          · have := may_any C _ _ _ W ((HC.out.below b4).below hb) hsm.2
            rw [hfc.out, hm.2] at this
            exact this
        have p0 := NA1.c0
        have p1 := NA1.c1
        have p2 := NA1.c2
        have p3 := NA1.c3
        have f0 := NA1.fz 0
        have f1 := NA1.fz 1
        have f2 := NA1.fz 2
        have f3 := NA1.fz 3
        have y0 := NB2.c0
        have y1 := NB2.c1
        have y2 := NB2.c2
        have y3 := NB2.c3
        have g0 := NB2.fz 0
        have g1 := NB2.fz 1
        have g2 := NB2.fz 2
        have g3 := NB2.fz 3
        have SA := hideN sA
        clear b4 bA bB NA0 NA1 NB1 tA NA2 NB2 tB NB3 NA3 HO HSP HRS hn1 hn2 hz1 hz2
        go_wp2_with fail
        try rw [hWA]
        try rw [hWB]
        clear hWA hWB hYA hYB p0 p1 p2 p3 f0 f1 f2 f3 y0 y1 y2 y3 g0 g1 g2 g3
        go_loopw [6] (fun i wr => ∃ (k : Nat), k ≤ L1 ∧ i = .int .i64 k ∧ Hid (∀ j, j < k → MayP (oneN n j) ∧ (0 < j → lts (kA n (j - 1)) (kA n j) = true)) ∧ Hid (Below WB.heap.size WB wr)) (fun i _ => L1 - (intOf i).toNat)
        case atStart => exact ⟨0, Nat.zero_le _, rfl, fun j hj => by omega, Below.refl _ _⟩
        case round =>
          obtain ⟨k, hk, rfl, hzk, BW⟩ := hrel
          have BR : Hid (Below W1.heap.size W1 wr) := B4.out.trans (BW.out.mono B4.out.size)
          have V3 : Hid (Nb wr 25 w.heap.size false (.slice a1 L1 c1) (.slice a2 L2 c2) (.slice a3 L3 c3)) := V1.out.below BR.out
          have p0 := V3.out.c0
          have p1 := V3.out.c1
          have p2 := V3.out.c2
          have p3 := V3.out.c3
          by_cases hlt : k < L1
          · obtain ⟨bb, bo, rfl, ck⟩ := (H1.out.below BR.out).key (i := k) (by rw [hL1.out]; exact hlt)
            have HCK : Hid (wr.cell? ⟨bb, bo + k, none⟩ = some (.string (kA n k))) := ck
            have HP : Hid (0 < k → wr.cell? ⟨bb, bo + (k - 1), none⟩ = some (.string (kA n (k - 1)))) := fun h0 => by
              obtain ⟨b', o', e, c⟩ := (H1.out.below BR.out).key (i := k - 1) (by rw [hL1.out]; omega)
              cases e
              exact c
            have U1 := hideN (midSV bb bo L1 c1 k hlt (by omega))
            have hk0 : (0 : Int) ≤ (k : Int) := by omega
            have hk1 : (k : Int) < (L1 : Int) := by omega
            have hk2 : (k : Int) ≤ 8796093021952 := by have := HS.out.kl; rw [hL1.out] at this; omega
            obtain ⟨mb, hmb⟩ : ∃ b, Hid (mayN (oneN n k) = b) := ⟨_, rfl⟩
            clear ck HMA
            go_wp2_with fail
            clear p0 p1 p2 p3
            refine beginW (S := fun w' => Nb w' 25 w.heap.size false (.slice (some ⟨bb, bo, none⟩) L1 c1) (.slice a2 L2 c2) (.slice a3 L3 c3)) (t := 10) (by kernel_rfl) ?_
            have hS : Nb wr.drew 25 w.heap.size false (.slice (some ⟨bb, bo, none⟩) L1 c1) (.slice a2 L2 c2) (.slice a3 L3 c3) := V3.out.below ((Below.refl _ _).drew)
            refine takeW 0 (some 31) (.fieldAddr 25 (.tmp 1) 0) (Value.pointer (some ⟨w.heap.size, 0, none⟩)) rfl rfl (by kernel_rfl) (by kernel_rfl) (by kernel_rfl) (by kernel_rfl) (fun _ _ _ h => h) ?hy hS ?_
            case hy =>
              rintro o ho w' _
              go_simp
            simp only [Act.put, List.setIfInBounds_toArray, List.set_cons_zero, List.set_cons_succ]
            refine takeW 1 (some 32) (.load 4 (.tmp 31)) (Value.bool false) rfl rfl (by kernel_rfl) (by kernel_rfl) (by kernel_rfl) (by kernel_rfl) (fun _ _ _ h => h) ?hy hS ?_
            case hy =>
              rintro o ho w' hA
              have q := hA.c0
              go_simp
            simp only [Act.put, List.setIfInBounds_toArray, List.set_cons_zero, List.set_cons_succ]
            refine takeW 2 (some 33) (.fieldAddr 25 (.tmp 1) 1) (Value.pointer (some ⟨w.heap.size, 1, none⟩)) rfl rfl (by kernel_rfl) (by kernel_rfl) (by kernel_rfl) (by kernel_rfl) (fun _ _ _ h => h) ?hy hS ?_
            case hy =>
              rintro o ho w' _
              go_simp
            simp only [Act.put, List.setIfInBounds_toArray, List.set_cons_zero, List.set_cons_succ]
            refine takeW 3 (some 34) (.load 22 (.tmp 33)) (Value.slice (some ⟨bb, bo, none⟩) L1 c1) rfl rfl (by kernel_rfl) (by kernel_rfl) (by kernel_rfl) (by kernel_rfl) (fun _ _ _ h => h) ?hy hS ?_
            case hy =>
              rintro o ho w' hA
              have q := hA.c1
              go_simp
            simp only [Act.put, List.setIfInBounds_toArray, List.set_cons_zero, List.set_cons_succ]
            refine takeW 4 (some 35) (.move (.tmp 6)) (Value.int .i64 (k : Int)) rfl rfl (by kernel_rfl) (by kernel_rfl) (by kernel_rfl) (by kernel_rfl) (fun _ _ _ h => h) ?hy hS ?_
            case hy =>
              rintro o ho w' _
              go_simp
            simp only [Act.put, List.setIfInBounds_toArray, List.set_cons_zero, List.set_cons_succ]
            refine takeW 5 (some 36) (.move (.tmp 6)) (Value.int .i64 (k : Int)) rfl rfl (by kernel_rfl) (by kernel_rfl) (by kernel_rfl) (by kernel_rfl) (fun _ _ _ h => h) ?hy hS ?_
            case hy =>
              rintro o ho w' _
              go_simp
            simp only [Act.put, List.setIfInBounds_toArray, List.set_cons_zero, List.set_cons_succ]
            refine takeW 6 (some 37) (.binOp .add 3 (.tmp 36) (.const (.int .i64 1)) 3) (Value.int .i64 ((k : Int) + 1)) rfl rfl (by kernel_rfl) (by kernel_rfl) (by kernel_rfl) (by kernel_rfl) (fun _ _ _ h => h) ?hy hS ?_
            case hy =>
              rintro o ho w' _
              have hkw : IntKind.i64.wrap ((k : Int) + 1) = (k : Int) + 1 := by rw [IntKind.wrap_i64]; omega
              go_simp
            simp only [Act.put, List.setIfInBounds_toArray, List.set_cons_zero, List.set_cons_succ]
            refine takeW 7 (some 38) (.slice 22 (.tmp 34) (some (.tmp 35)) (some (.tmp 37)) none) (Value.slice (some ⟨bb, bo + k, none⟩) 1 (c1 - k)) rfl rfl (by kernel_rfl) (by kernel_rfl) (by kernel_rfl) (by kernel_rfl) (fun _ _ _ h => h) ?hy hS ?_
            case hy =>
              rintro o ho w' _
              unfold execOp
              simp only [ho, Option.map_some, Option.map_none, Sem.run_bind]
              erw [U1.out w']
              rfl
            simp only [Act.put, List.setIfInBounds_toArray, List.set_cons_zero, List.set_cons_succ]
            refine takeW 8 (some 39) (.build 25 #[(0, .tmp 32), (1, .tmp 38)]) (nod false (.slice (some ⟨bb, bo + k, none⟩) 1 (c1 - k)) (.slice none 0 0) (.slice none 0 0)) rfl rfl (by kernel_rfl) (by kernel_rfl) (by kernel_rfl) (by kernel_rfl) (fun _ _ _ h => h) ?hy hS ?_
            case hy =>
              rintro o ho w' _
              unfold nod
              go_simp
            simp only [Act.put, List.setIfInBounds_toArray, List.set_cons_zero, List.set_cons_succ]
            obtain ⟨X0, hX0⟩ : ∃ X, wr.drew = X := ⟨_, rfl⟩
            have b0 : Below wr.heap.size wr X0 := by rw [← hX0]; exact (Below.refl _ _).drew
            rw [hX0] at hS ⊢
            refine readyW 9 (some 7) (.alloc 25) rfl (by kernel_rfl) ?_
            rintro o K hd ho hg hK
            refine wp_allocR ho ?_
            rw [hd]
            obtain ⟨p, hp⟩ : ∃ g, X0.heap.size = g := ⟨_, rfl⟩
            obtain ⟨X1, hX1⟩ : ∃ X, X0.alloc (.cells #[.bool false, .slice none 0 0, .slice none 0 0, .slice none 0 0] 25) = X := ⟨_, rfl⟩
            have bl0 : Below X0.heap.size X0 X1 := by rw [← hX1]; exact below_alloc _ _
            have nbp : Nb X1 25 p false (.slice none 0 0) (.slice none 0 0) (.slice none 0 0) := by rw [← hX1, ← hp]; exact nb_new _ _ _ _ _ _
            rw [hX1, hp]
            refine hK _ _ (fun _ => hS.below bl0) ?_
            clear ho hd hg hK
            simp only [Act.put, List.setIfInBounds_toArray, List.set_cons_zero, List.set_cons_succ]
            refine readyW 10 none (.store 25 (.tmp 7) (.tmp 39)) rfl (by kernel_rfl) ?_
            rintro o K hd ho hg hK
            refine wp_storeR ho rfl rfl nbp ?_
            have np := nbp.all false (.slice (some ⟨bb, bo + k, none⟩) 1 (c1 - k)) (.slice none 0 0) (.slice none 0 0)
            have tp := tch_all X1 p (.bool false) (.slice (some ⟨bb, bo + k, none⟩) 1 (c1 - k)) (.slice none 0 0) (.slice none 0 0)
            have HPG : Hid (wr.heap.size ≤ p) := by have := b0.size; show _ ≤ _; omega
            have bY : Below wr.heap.size wr ((((X1.setCell ⟨p, 0, none⟩ (.bool false)).setCell ⟨p, 1, none⟩ (.slice (some ⟨bb, bo + k, none⟩) 1 (c1 - k))).setCell ⟨p, 2, none⟩ (.slice none 0 0)).setCell ⟨p, 3, none⟩ (.slice none 0 0)) := by
              have h1 : Below wr.heap.size wr X1 := b0.trans (bl0.mono b0.size)
              exact h1.trans (tp.below h1.size (fun j e => by have := HPG.out; omega))
            rw [hd]
            refine hK _ _ (fun e => absurd rfl e) ?_
            refine doneW (by kernel_rfl) ?_ _
            clear ho hd hg hK bl0 nbp tp hp hX1 hS hX0 b0
            simp only [Act.put]
            have PY0 := hideN np
            have BY0 := hideN bY
            revert PY0 BY0
            clear np bY
            generalize (((X1.setCell _ _).setCell _ _).setCell _ _).setCell _ _ = Y0
            intro PY0 BY0

            have V4 := V1.out.below (BR.out.trans (BY0.out.mono BR.out.size))
            have y1 := V4.c1
            have ky : Y0.cell? ⟨bb, bo + k, none⟩ = some (.string (kA n k)) := (BY0.out.cell (p := ⟨bb, bo + k, none⟩) (World.block_lt_of_cell? wr ⟨bb, bo + k, none⟩ HCK.out)).trans HCK.out
            clear V4
            obtain ⟨key, hkey⟩ : ∃ s, Hid (kA n k = s) := ⟨_, rfl⟩
            obtain ⟨prv, hprv⟩ : ∃ s, Hid (kA n (k - 1) = s) := ⟨_, rfl⟩
            rw [hkey.out] at ky
            by_cases h0 : 0 < k
            · have h0' : (0 : Int) < (k : Int) := by omega
              have hd0 : decide ((0 : Int) < (k : Int)) = true := by rw [decide_eq_true_iff]; omega
              have cp : Y0.cell? ⟨bb, bo + (k - 1), none⟩ = some (.string prv) := by rw [← hprv.out]; exact (BY0.out.cell (p := ⟨bb, bo + (k - 1), none⟩) (World.block_lt_of_cell? wr ⟨bb, bo + (k - 1), none⟩ (HP.out h0))).trans (HP.out h0)
              cases hlt2 : Op.bytesLess prv.toList key.toList with
              | true =>
                have hg : (!Op.bytesLess prv.toList key.toList) = false := by rw [hlt2]; rfl
                have HOR : Hid (0 < k → lts (kA n (k - 1)) (kA n k) = true) := fun _ => by rw [hkey.out, hprv.out]; exact hlt2
                go_wp2_with fail
                go_quiet (fail)
                clear cp hg hlt2 hd0
                obtain ⟨Y1, hY1⟩ : ∃ Y, Y0.drewN nq = Y := ⟨_, rfl⟩
                rw [hY1]
                have b01 : Below Y0.heap.size Y0 Y1 := by rw [← hY1]; exact Below.of_drewN _ _ _
                have BYr : Hid (Below wr.heap.size wr Y1) := BY0.out.trans (b01.mono BY0.out.size)
                have BY : Hid (Below W1.heap.size W1 Y1) := BR.out.trans (BYr.out.mono BR.out.size)
                have PY : Hid (Nb Y1 25 p false (.slice (some ⟨bb, bo + k, none⟩) 1 (c1 - k)) (.slice none 0 0) (.slice none 0 0)) := PY0.out.below b01
                clear hY1 b01 y1 ky
                have V6 := V1.out.below BY.out
                have y0 := V6.c0
                have y1 := V6.c1
                have y2 := V6.c2
                have y3 := V6.c3
                clear V6
                by_cases hv : k < L3
                · have hvi : (k : Int) < (L3 : Int) := by omega
                  obtain ⟨vb, vo, rfl, cv0⟩ := (H1.out.below BY.out).kid (i := k) (by rw [hL3.out]; exact hv)
                  have U2 := midIV vb vo L3 c3 k hv (by omega)
                  have q0 := PY.out.c3
                  have q1 := PY.out.fz 3
                  have NY2 := PY.out.s3 (.slice (some ⟨vb, vo + k, none⟩) 1 (c3 - k))
                  obtain ⟨Y2, hY2⟩ : ∃ Y, Y1.setCell ⟨p, 3, none⟩ (.slice (some ⟨vb, vo + k, none⟩) 1 (c3 - k)) = Y := ⟨_, rfl⟩
                  have t2 := tch_at Y1 p 3 (.slice (some ⟨vb, vo + k, none⟩) 1 (c3 - k))
                  rw [hY2] at NY2 t2
                  have b2' : Below wr.heap.size wr Y2 := BYr.out.trans (t2.below BYr.out.size (fun j e => by have := HPG.out; omega))
                  have HCV : Hid (wr.cell? ⟨vb, vo + k, none⟩ = some (.int .i64 (dA n k))) := by
                    obtain ⟨vb', vo', e, c⟩ := (H1.out.below BR.out).kid (i := k) (by rw [hL3.out]; exact hv)
                    cases e
                    exact c
                  have ONE : Hid ((oneN n k).vs = [] ∧ (oneN n k).kd = [dA n k]) := ⟨by show (if n.lf = true ∧ k < n.vs.length then [vA n k] else []) = _; rw [if_neg (by rw [hlf.out]; simp)], by show (if n.lf = false ∧ k < n.kd.length then [dA n k] else []) = _; rw [if_pos ⟨hlf.out, by rw [hL3.out]; exact hv⟩]⟩
                  have NO : Hid (Nn Y2 (oneN n k) (.slice (some ⟨bb, bo + k, none⟩) 1 (c1 - k)) (.slice none 0 0) (.slice (some ⟨vb, vo + k, none⟩) 1 (c3 - k))) := ⟨rdV_one (b2'.cell (p := ⟨bb, bo + k, none⟩) (World.block_lt_of_cell? wr ⟨bb, bo + k, none⟩ HCK.out) |>.trans HCK.out) (by omega) (by omega), (by rw [ONE.out.1]; exact rdV_nil _), (by rw [ONE.out.2]; exact rdV_one (b2'.cell (p := ⟨vb, vo + k, none⟩) (World.block_lt_of_cell? wr ⟨vb, vo + k, none⟩ HCV.out) |>.trans HCV.out) (by omega) (by omega))⟩
                  have HMY : Hid (Calls Try.prog 10 #[.agg #[.bool false, .slice (some ⟨bb, bo + k, none⟩) 1 (c1 - k), .slice none 0 0, .slice (some ⟨vb, vo + k, none⟩) 1 (c3 - k)]] Y2 fun e w' => e = .returned (.bool mb) ∧ Below Y2.heap.size Y2 w') := by
                    have := refMay_any (oneN n k) _ _ _ Y2 NO.out (one_sm HS.out k)
                    rw [show (oneN n k).lf = false from hlf.out, hmb.out] at this
                    exact this
                  have BY2 : Hid (Below wr.heap.size wr Y2) := b2'
                  have B5 : Hid (Below WB.heap.size WB Y2) := BW.out.trans (b2'.mono BW.out.size)
                  have V5 := V1.out.below (B4.out.trans (B5.out.mono B4.out.size))
                  have x0 := NY2.c0
                  have x1 := NY2.c1
                  have x2 := NY2.c2
                  have x3 := NY2.c3
                  have z0 := V5.c0
                  have z1 := V5.c1
                  have z2 := V5.c2
                  have z3 := V5.c3
                  clear NO V5 b2' NY2 ONE HCK
                  go_wp2_with fail
                  refine HMY.out.mono ?_
                  rintro e w6 ⟨rfl, b6⟩
                  have B6 : Hid (Below WB.heap.size WB w6) := B5.out.trans (b6.mono B5.out.size)
                  have BF6 : Hid (Below w.heap.size w w6) := B1.out.trans ((B4.out.trans (B6.out.mono B4.out.size)).mono B1.out.size)
                  clear b6 x0 x1 x2 x3 z0 z1 z2 z3 HMY
                  cases mb with
                  | true =>
                    have HK : Hid (∀ j, j < k + 1 → MayP (oneN n j) ∧ (0 < j → lts (kA n (j - 1)) (kA n j) = true)) := fun j hj => by
                      by_cases e : j < k
                      · exact hzk.out j e
                      · have : j = k := by omega
                        subst this
                        exact ⟨mayN_iff.1 hmb.out, HOR.out⟩
                    go_wp2_with fail
                    go_roundw
                    case rel => exact ⟨k + 1, by omega, by go_num, HK, B6⟩
                    case measure => simp [intOf]; omega
                  | false =>
                    go_wp2_with fail
                    refine (HLV.out _).mono ?_
                    rintro e wL ⟨rfl, bL⟩
                    have BL : Hid (Below w.heap.size w wL) := BF6.out.trans (bL.mono BF6.out.size)
                    clear bL
                    go_wp2_with fail
                    go_ret
                    exact ⟨rfl, BL.out⟩
                · have hvd : decide ((k : Int) < (L3 : Int)) = false := by rw [decide_eq_false_iff_not]; omega
                  have hvd2 : decide (k < L3) = false := by rw [decide_eq_false_iff_not]; exact hv
                  obtain ⟨Y2, hY2⟩ : ∃ Y, Y1 = Y := ⟨_, rfl⟩
                  have NY2 := PY.out
                  rw [hY2] at NY2
                  have b2' : Below wr.heap.size wr Y2 := by rw [← hY2]; exact BYr.out
                  subst hY2
                  have ONE : Hid ((oneN n k).vs = [] ∧ (oneN n k).kd = []) := ⟨by show (if n.lf = true ∧ k < n.vs.length then [vA n k] else []) = _; rw [if_neg (by rw [hL2.out, hlf.out]; simp)], by show (if n.lf = false ∧ k < n.kd.length then [dA n k] else []) = _; rw [if_neg (by rw [hL3.out, hlf.out]; intro h; exact hv h.2)]⟩
                  have NO : Hid (Nn Y1 (oneN n k) (.slice (some ⟨bb, bo + k, none⟩) 1 (c1 - k)) (.slice none 0 0) (.slice none 0 0)) := ⟨rdV_one (b2'.cell (p := ⟨bb, bo + k, none⟩) (World.block_lt_of_cell? wr ⟨bb, bo + k, none⟩ HCK.out) |>.trans HCK.out) (by omega) (by omega), (by rw [ONE.out.1]; exact rdV_nil _), (by rw [ONE.out.2]; exact rdV_nil _)⟩
                  have HMY : Hid (Calls Try.prog 10 #[.agg #[.bool false, .slice (some ⟨bb, bo + k, none⟩) 1 (c1 - k), .slice none 0 0, .slice none 0 0]] Y1 fun e w' => e = .returned (.bool mb) ∧ Below Y1.heap.size Y1 w') := by
                    have := refMay_any (oneN n k) _ _ _ Y1 NO.out (one_sm HS.out k)
                    rw [show (oneN n k).lf = false from hlf.out, hmb.out] at this
                    exact this
                  have BY2 : Hid (Below wr.heap.size wr Y1) := b2'
                  have B5 : Hid (Below WB.heap.size WB Y1) := BW.out.trans (b2'.mono BW.out.size)
                  have V5 := V1.out.below (B4.out.trans (B5.out.mono B4.out.size))
                  have x0 := NY2.c0
                  have x1 := NY2.c1
                  have x2 := NY2.c2
                  have x3 := NY2.c3
                  have z0 := V5.c0
                  have z1 := V5.c1
                  have z2 := V5.c2
                  have z3 := V5.c3
                  clear NO V5 b2' NY2 ONE HCK
                  go_wp2_with fail
                  refine HMY.out.mono ?_
                  rintro e w6 ⟨rfl, b6⟩
                  have B6 : Hid (Below WB.heap.size WB w6) := B5.out.trans (b6.mono B5.out.size)
                  have BF6 : Hid (Below w.heap.size w w6) := B1.out.trans ((B4.out.trans (B6.out.mono B4.out.size)).mono B1.out.size)
                  clear b6 x0 x1 x2 x3 z0 z1 z2 z3 HMY
                  cases mb with
                  | true =>
                    have HK : Hid (∀ j, j < k + 1 → MayP (oneN n j) ∧ (0 < j → lts (kA n (j - 1)) (kA n j) = true)) := fun j hj => by
                      by_cases e : j < k
                      · exact hzk.out j e
                      · have : j = k := by omega
                        subst this
                        exact ⟨mayN_iff.1 hmb.out, HOR.out⟩
                    go_wp2_with fail
                    go_roundw
                    case rel => exact ⟨k + 1, by omega, by go_num, HK, B6⟩
                    case measure => simp [intOf]; omega
                  | false =>
                    go_wp2_with fail
                    refine (HLV.out _).mono ?_
                    rintro e wL ⟨rfl, bL⟩
                    have BL : Hid (Below w.heap.size w wL) := BF6.out.trans (bL.mono BF6.out.size)
                    clear bL
                    go_wp2_with fail
                    go_ret
                    exact ⟨rfl, BL.out⟩
              | false =>
                have hg : (!Op.bytesLess prv.toList key.toList) = true := by rw [hlt2]; rfl
                have BF6 : Hid (Below w.heap.size w Y0) := B1.out.trans ((BR.out.trans (BY0.out.mono BR.out.size)).mono B1.out.size)
                go_wp2_with fail
                go_quiet (fail)
                go_wp2_with fail
                refine (HLV.out _).mono ?_
                rintro e wL ⟨rfl, bL⟩
                have BL : Hid (Below w.heap.size w wL) := (BF6.out.trans (Below.of_drewN _ _ _)).trans (bL.mono (BF6.out.trans (Below.of_drewN _ _ _)).size)
                clear bL
                go_wp2_with fail
                go_ret
                exact ⟨rfl, BL.out⟩
            · have hd0 : decide ((0 : Int) < (k : Int)) = false := by rw [decide_eq_false_iff_not]; omega
              have HOR : Hid (0 < k → lts (kA n (k - 1)) (kA n k) = true) := fun e => absurd e h0
              go_wp2_with fail
              go_quiet (fail)
              clear hd0
              obtain ⟨Y1, hY1⟩ : ∃ Y, Y0.drewN nq = Y := ⟨_, rfl⟩
              rw [hY1]
              have b01 : Below Y0.heap.size Y0 Y1 := by rw [← hY1]; exact Below.of_drewN _ _ _
              have BYr : Hid (Below wr.heap.size wr Y1) := BY0.out.trans (b01.mono BY0.out.size)
              have BY : Hid (Below W1.heap.size W1 Y1) := BR.out.trans (BYr.out.mono BR.out.size)
              have PY : Hid (Nb Y1 25 p false (.slice (some ⟨bb, bo + k, none⟩) 1 (c1 - k)) (.slice none 0 0) (.slice none 0 0)) := PY0.out.below b01
              clear hY1 b01 y1 ky
              have V6 := V1.out.below BY.out
              have y0 := V6.c0
              have y1 := V6.c1
              have y2 := V6.c2
              have y3 := V6.c3
              clear V6
              by_cases hv : k < L3
              · have hvi : (k : Int) < (L3 : Int) := by omega
                obtain ⟨vb, vo, rfl, cv0⟩ := (H1.out.below BY.out).kid (i := k) (by rw [hL3.out]; exact hv)
                have U2 := midIV vb vo L3 c3 k hv (by omega)
                have q0 := PY.out.c3
                have q1 := PY.out.fz 3
                have NY2 := PY.out.s3 (.slice (some ⟨vb, vo + k, none⟩) 1 (c3 - k))
                obtain ⟨Y2, hY2⟩ : ∃ Y, Y1.setCell ⟨p, 3, none⟩ (.slice (some ⟨vb, vo + k, none⟩) 1 (c3 - k)) = Y := ⟨_, rfl⟩
                have t2 := tch_at Y1 p 3 (.slice (some ⟨vb, vo + k, none⟩) 1 (c3 - k))
                rw [hY2] at NY2 t2
                have b2' : Below wr.heap.size wr Y2 := BYr.out.trans (t2.below BYr.out.size (fun j e => by have := HPG.out; omega))
                have HCV : Hid (wr.cell? ⟨vb, vo + k, none⟩ = some (.int .i64 (dA n k))) := by
                  obtain ⟨vb', vo', e, c⟩ := (H1.out.below BR.out).kid (i := k) (by rw [hL3.out]; exact hv)
                  cases e
                  exact c
                have ONE : Hid ((oneN n k).vs = [] ∧ (oneN n k).kd = [dA n k]) := ⟨by show (if n.lf = true ∧ k < n.vs.length then [vA n k] else []) = _; rw [if_neg (by rw [hlf.out]; simp)], by show (if n.lf = false ∧ k < n.kd.length then [dA n k] else []) = _; rw [if_pos ⟨hlf.out, by rw [hL3.out]; exact hv⟩]⟩
                have NO : Hid (Nn Y2 (oneN n k) (.slice (some ⟨bb, bo + k, none⟩) 1 (c1 - k)) (.slice none 0 0) (.slice (some ⟨vb, vo + k, none⟩) 1 (c3 - k))) := ⟨rdV_one (b2'.cell (p := ⟨bb, bo + k, none⟩) (World.block_lt_of_cell? wr ⟨bb, bo + k, none⟩ HCK.out) |>.trans HCK.out) (by omega) (by omega), (by rw [ONE.out.1]; exact rdV_nil _), (by rw [ONE.out.2]; exact rdV_one (b2'.cell (p := ⟨vb, vo + k, none⟩) (World.block_lt_of_cell? wr ⟨vb, vo + k, none⟩ HCV.out) |>.trans HCV.out) (by omega) (by omega))⟩
                have HMY : Hid (Calls Try.prog 10 #[.agg #[.bool false, .slice (some ⟨bb, bo + k, none⟩) 1 (c1 - k), .slice none 0 0, .slice (some ⟨vb, vo + k, none⟩) 1 (c3 - k)]] Y2 fun e w' => e = .returned (.bool mb) ∧ Below Y2.heap.size Y2 w') := by
                  have := refMay_any (oneN n k) _ _ _ Y2 NO.out (one_sm HS.out k)
                  rw [show (oneN n k).lf = false from hlf.out, hmb.out] at this
                  exact this
                have BY2 : Hid (Below wr.heap.size wr Y2) := b2'
                have B5 : Hid (Below WB.heap.size WB Y2) := BW.out.trans (b2'.mono BW.out.size)
                have V5 := V1.out.below (B4.out.trans (B5.out.mono B4.out.size))
                have x0 := NY2.c0
                have x1 := NY2.c1
                have x2 := NY2.c2
                have x3 := NY2.c3
                have z0 := V5.c0
                have z1 := V5.c1
                have z2 := V5.c2
                have z3 := V5.c3
                clear NO V5 b2' NY2 ONE HCK
                go_wp2_with fail
                refine HMY.out.mono ?_
                rintro e w6 ⟨rfl, b6⟩
                have B6 : Hid (Below WB.heap.size WB w6) := B5.out.trans (b6.mono B5.out.size)
                have BF6 : Hid (Below w.heap.size w w6) := B1.out.trans ((B4.out.trans (B6.out.mono B4.out.size)).mono B1.out.size)
                clear b6 x0 x1 x2 x3 z0 z1 z2 z3 HMY
                cases mb with
                | true =>
                  have HK : Hid (∀ j, j < k + 1 → MayP (oneN n j) ∧ (0 < j → lts (kA n (j - 1)) (kA n j) = true)) := fun j hj => by
                    by_cases e : j < k
                    · exact hzk.out j e
                    · have : j = k := by omega
                      subst this
                      exact ⟨mayN_iff.1 hmb.out, HOR.out⟩
                  go_wp2_with fail
                  go_roundw
                  case rel => exact ⟨k + 1, by omega, by go_num, HK, B6⟩
                  case measure => simp [intOf]; omega
                | false =>
                  go_wp2_with fail
                  refine (HLV.out _).mono ?_
                  rintro e wL ⟨rfl, bL⟩
                  have BL : Hid (Below w.heap.size w wL) := BF6.out.trans (bL.mono BF6.out.size)
                  clear bL
                  go_wp2_with fail
                  go_ret
                  exact ⟨rfl, BL.out⟩
              · have hvd : decide ((k : Int) < (L3 : Int)) = false := by rw [decide_eq_false_iff_not]; omega
                have hvd2 : decide (k < L3) = false := by rw [decide_eq_false_iff_not]; exact hv
                obtain ⟨Y2, hY2⟩ : ∃ Y, Y1 = Y := ⟨_, rfl⟩
                have NY2 := PY.out
                rw [hY2] at NY2
                have b2' : Below wr.heap.size wr Y2 := by rw [← hY2]; exact BYr.out
                subst hY2
                have ONE : Hid ((oneN n k).vs = [] ∧ (oneN n k).kd = []) := ⟨by show (if n.lf = true ∧ k < n.vs.length then [vA n k] else []) = _; rw [if_neg (by rw [hL2.out, hlf.out]; simp)], by show (if n.lf = false ∧ k < n.kd.length then [dA n k] else []) = _; rw [if_neg (by rw [hL3.out, hlf.out]; intro h; exact hv h.2)]⟩
                have NO : Hid (Nn Y1 (oneN n k) (.slice (some ⟨bb, bo + k, none⟩) 1 (c1 - k)) (.slice none 0 0) (.slice none 0 0)) := ⟨rdV_one (b2'.cell (p := ⟨bb, bo + k, none⟩) (World.block_lt_of_cell? wr ⟨bb, bo + k, none⟩ HCK.out) |>.trans HCK.out) (by omega) (by omega), (by rw [ONE.out.1]; exact rdV_nil _), (by rw [ONE.out.2]; exact rdV_nil _)⟩
                have HMY : Hid (Calls Try.prog 10 #[.agg #[.bool false, .slice (some ⟨bb, bo + k, none⟩) 1 (c1 - k), .slice none 0 0, .slice none 0 0]] Y1 fun e w' => e = .returned (.bool mb) ∧ Below Y1.heap.size Y1 w') := by
                  have := refMay_any (oneN n k) _ _ _ Y1 NO.out (one_sm HS.out k)
                  rw [show (oneN n k).lf = false from hlf.out, hmb.out] at this
                  exact this
                have BY2 : Hid (Below wr.heap.size wr Y1) := b2'
                have B5 : Hid (Below WB.heap.size WB Y1) := BW.out.trans (b2'.mono BW.out.size)
                have V5 := V1.out.below (B4.out.trans (B5.out.mono B4.out.size))
                have x0 := NY2.c0
                have x1 := NY2.c1
                have x2 := NY2.c2
                have x3 := NY2.c3
                have z0 := V5.c0
                have z1 := V5.c1
                have z2 := V5.c2
                have z3 := V5.c3
                clear NO V5 b2' NY2 ONE HCK
                go_wp2_with fail
                refine HMY.out.mono ?_
                rintro e w6 ⟨rfl, b6⟩
                have B6 : Hid (Below WB.heap.size WB w6) := B5.out.trans (b6.mono B5.out.size)
                have BF6 : Hid (Below w.heap.size w w6) := B1.out.trans ((B4.out.trans (B6.out.mono B4.out.size)).mono B1.out.size)
                clear b6 x0 x1 x2 x3 z0 z1 z2 z3 HMY
                cases mb with
                | true =>
                  have HK : Hid (∀ j, j < k + 1 → MayP (oneN n j) ∧ (0 < j → lts (kA n (j - 1)) (kA n j) = true)) := fun j hj => by
                    by_cases e : j < k
                    · exact hzk.out j e
                    · have : j = k := by omega
                      subst this
                      exact ⟨mayN_iff.1 hmb.out, HOR.out⟩
                  go_wp2_with fail
                  go_roundw
                  case rel => exact ⟨k + 1, by omega, by go_num, HK, B6⟩
                  case measure => simp [intOf]; omega
                | false =>
                  go_wp2_with fail
                  refine (HLV.out _).mono ?_
                  rintro e wL ⟨rfl, bL⟩
                  have BL : Hid (Below w.heap.size w wL) := BF6.out.trans (bL.mono BF6.out.size)
                  clear bL
                  go_wp2_with fail
                  go_ret
                  exact ⟨rfl, BL.out⟩
          · have BF6 : Hid (Below w.heap.size w wr) := B1.out.trans (BR.out.mono B1.out.size)
            by_cases e1 : L3 = L1
            · by_cases e2 : L2 = 0
              · have HBT : Hid (Bts n) := by
                  refine ⟨fun i hi => (hzk.out i (by rw [hL1.out] at hi; omega)).1, fun i hi h0 => (hzk.out i (by rw [hL1.out] at hi; omega)).2 h0, ?_⟩
                  rw [hlf.out]
                  rw [if_neg (by simp), hL1.out, hL2.out, hL3.out]
                  exact ⟨e1, e2⟩
                have HM2 := hideN (HMA.out HBT.out)
                have M1 := hideN (HM2.out.1 wr BW.out)
                have PA := NA.out.below BW.out
                have s0 := PA.c0
                have s1 := PA.c1
                have s2 := PA.c2
                have s3 := PA.c3
                clear PA
                subst e2
                subst e1
                go_wp2_with fail
                refine M1.out.mono ?_
                rintro e w5 ⟨rfl, b5⟩
                have B5 : Hid (Below WB.heap.size WB w5) := BW.out.trans (b5.mono BW.out.size)
                have M2 := hideN (HM2.out.2 w5 B5.out)
                clear b5 s0 s1 s2 s3 p0 p1 p2 p3
                have PC := NC.out.below B5.out
                have s0 := PC.c0
                have s1 := PC.c1
                have s2 := PC.c2
                have s3 := PC.c3
                clear PC
                go_wp2_with fail
                refine M2.out.mono ?_
                rintro e w6 ⟨rfl, b6⟩
                have B6 : Hid (Below WB.heap.size WB w6) := B5.out.trans (b6.mono B5.out.size)
                have BF7 : Hid (Below w.heap.size w w6) := B1.out.trans ((B4.out.trans (B6.out.mono B4.out.size)).mono B1.out.size)
                clear b6 s0 s1 s2 s3
                go_wp2_with fail
                refine (HLV.out _).mono ?_
                rintro e wL ⟨rfl, bL⟩
                have BL : Hid (Below w.heap.size w wL) := BF7.out.trans (bL.mono BF7.out.size)
                clear bL
                go_wp2_with fail
                go_ret
                exact ⟨rfl, BL.out⟩
              · have i2 : ¬ (L2 : Int) = 0 := by omega
                have i3 : (0 : Int) < (L2 : Int) := by omega
                have i4 : 0 < L2 := by omega
                subst e1
                go_wp2_with fail
                refine (HLV.out _).mono ?_
                rintro e wL ⟨rfl, bL⟩
                have BL : Hid (Below w.heap.size w wL) := BF6.out.trans (bL.mono BF6.out.size)
                clear bL
                go_wp2_with fail
                go_ret
                exact ⟨rfl, BL.out⟩
            · have i1 : ¬ (L3 : Int) = (L1 : Int) := by omega
              go_wp2_with fail
              refine (HLV.out _).mono ?_
              rintro e wL ⟨rfl, bL⟩
              have BL : Hid (Below w.heap.size w wL) := BF6.out.trans (bL.mono BF6.out.size)
              clear bL
              go_wp2_with fail
              go_ret
              exact ⟨rfl, BL.out⟩
end Go.Proofs.Ytbpaeecclikeiaa
