/-
  Whether a node may be: the document's May.
-/
import Derived.Test.YtbpaeecclikeiaaNMay
namespace Go.Proofs.Ytbpaeecclikeiaa
open Go.RowKit Pl
set_option linter.unusedVariables false
set_option linter.unusedSimpArgs false
set_option maxRecDepth 100000

set_option maxHeartbeats 1000000 in
theorem refMay_any (n : Nd) (u1 u2 u3 : Value) (w : World) (h : Nn w n u1 u2 u3) (hs : Sm n) :
    Calls Try.prog 10 #[nod n.lf u1 u2 u3] w fun e w' => e = .returned (.bool (mayN n)) ∧ Below w.heap.size w w' := by
  obtain ⟨a1, c1, a2, c2, a3, c3, rfl, rfl, rfl, ⟨l1, l2, l3, l4, l5, l6⟩, _, _, _⟩ := h.out
  have H := hideN h
  have HS := hideN hs
  obtain ⟨L1, hL1⟩ : ∃ L, Hid (n.ks.length = L) := ⟨_, rfl⟩
  obtain ⟨L2, hL2⟩ : ∃ L, Hid (n.vs.length = L) := ⟨_, rfl⟩
  obtain ⟨L3, hL3⟩ : ∃ L, Hid (n.kd.length = L) := ⟨_, rfl⟩
  rw [hL1.out] at H l1 ⊢
  rw [hL2.out] at H l3 ⊢
  rw [hL3.out] at H l5 ⊢
  obtain ⟨lf, hlf⟩ : ∃ lf, Hid (n.lf = lf) := ⟨_, rfl⟩
  rw [hlf.out]
  unfold nod
  obtain ⟨W1, hW1⟩ : ∃ W1, w.alloc (.cells #[.bool lf, .slice a1 L1 c1, .slice a2 L2 c2, .slice a3 L3 c3] 25) = W1 := ⟨_, rfl⟩
  have B1 : Hid (Below w.heap.size w W1) := by rw [← hW1]; exact below_alloc _ _
  have V1 : Hid (Nb W1 25 w.heap.size lf (.slice a1 L1 c1) (.slice a2 L2 c2) (.slice a3 L3 c3)) := by rw [← hW1]; exact nb_new _ _ _ _ _ _
  have H1 : Hid (Nn W1 n (.slice a1 L1 c1) (.slice a2 L2 c2) (.slice a3 L3 c3)) := H.out.below B1.out
  obtain ⟨mn, hmn⟩ : ∃ b, Hid (mayN n = b) := ⟨_, rfl⟩
  rw [hmn.out]
  obtain ⟨kn, hkn⟩ : ∃ b, Hid (keysN n = b) := ⟨_, rfl⟩
  obtain ⟨z, hz⟩ : ∃ b, Hid (W (szN n n.ks.length) = b) := ⟨_, rfl⟩
  have HL : Hid (lf = true → (mn = true ↔ 1 ≤ L1 ∧ z ≤ 240 ∧ kn = true ∧ L2 = L1 ∧ L3 = 0 ∧ allS n.vs = true)) := fun e => by
    have := may_leaf (n := n) (by rw [hlf.out]; exact e)
    rw [← mayN_iff, hmn.out, hz.out, hkn.out, hL1.out, hL2.out, hL3.out] at this
    exact this
  have HI : Hid (lf = false → (mn = true ↔ 1 ≤ L1 ∧ z ≤ 240 ∧ kn = true ∧ L3 = L1 ∧ L2 = 0 ∧ allI n.kd = true)) := fun e => by
    have := may_inner (n := n) (by rw [hlf.out]; exact e)
    rw [← mayN_iff, hmn.out, hz.out, hkn.out, hL1.out, hL2.out, hL3.out] at this
    exact this
  have HF : Hid (¬ (1 ≤ L1 ∧ z ≤ 240 ∧ kn = true) → mn = false) := fun hh => by
    cases mn with
    | false => rfl
    | true =>
      cases lf with
      | true => exact absurd ((HL.out rfl).1 rfl) (fun ⟨x, y, q, _⟩ => hh ⟨x, y, q⟩)
      | false => exact absurd ((HI.out rfl).1 rfl) (fun ⟨x, y, q, _⟩ => hh ⟨x, y, q⟩)
  have HZ1 : Hid (∀ W, Below W1.heap.size W1 W → Calls Try.prog 11 #[.agg #[.bool lf, .slice a1 L1 c1, .slice a2 L2 c2, .slice a3 L3 c3]] W fun e w' => e = .returned (.int .i64 z) ∧ Below W.heap.size W w') := fun W hb => by
    have := refSize_any n _ _ _ W (H1.out.below hb) HS.out
    rw [hlf.out, hz.out] at this
    exact this
  have HZ : Hid (kn = keysN n) := hkn.out.symm
  have HX : Hid (True) := trivial
  have p0 := V1.out.c0
  have p1 := V1.out.c1
  have p2 := V1.out.c2
  have p3 := V1.out.c3
  clear h hs H HS hmn hkn hz
  by_cases h1 : 1 ≤ L1
  · have e1 : decide ((L1 : Int) < 1) = false := by rw [decide_eq_false_iff_not]; omega
    go_enter Try.func10, Try.ntmps10
    go_wp2_with fail
    refine (HZ1.out W1 (Below.refl _ _)).mono ?_
    rintro e w2 ⟨rfl, b2⟩
    have V2 : Hid (Nb w2 25 w.heap.size lf (.slice a1 L1 c1) (.slice a2 L2 c2) (.slice a3 L3 c3)) := V1.out.below b2
    have B2 : Hid (Below W1.heap.size W1 w2) := b2
    have BF2 : Hid (Below w.heap.size w w2) := B1.out.trans (b2.mono B1.out.size)
    clear b2 p0 p1 p2 p3 hW1
    have p0 := V2.out.c0
    have p1 := V2.out.c1
    have p2 := V2.out.c2
    have p3 := V2.out.c3
    by_cases h2 : z ≤ 240
    · have e2 : decide (240 < z) = false := by rw [decide_eq_false_iff_not]; omega
      go_wp2_with fail
      clear p0 p1 p2 p3
      go_loopw [3] (fun i wr => ∃ (k : Nat), k ≤ L1 ∧ i = .int .i64 k ∧ Hid (∀ j, j < k → kOk n j) ∧ Hid (Below W1.heap.size W1 wr)) (fun i _ => L1 - (intOf i).toNat)
      case atStart => exact ⟨0, Nat.zero_le _, rfl, fun j hj => by omega, B2⟩
      case round =>
        obtain ⟨k, hk, rfl, hzk, BW⟩ := hrel
        have V3 : Hid (Nb wr 25 w.heap.size lf (.slice a1 L1 c1) (.slice a2 L2 c2) (.slice a3 L3 c3)) := V1.out.below BW.out
        have p0 := V3.out.c0
        have p1 := V3.out.c1
        by_cases hlt : k < L1
        · obtain ⟨b, o, rfl, ck⟩ := (H1.out.below BW.out).key (i := k) (by rw [hL1.out]; exact hlt)
          have HB : Hid (¬ kOk n k → mn = false) := fun hb => HF.out (fun q => by have := q.2.2; rw [HZ.out, keysN_not (by rw [hL1.out]; exact hlt) hb] at this; cases this)
          have HO : Hid (kOk n k → ∀ j, j < k + 1 → kOk n j) := fun ho j hj => by
            by_cases e : j < k
            · exact hzk.out j e
            · have : j = k := by omega
              subst this
              exact ho
          have HD : Hid (kOk n k = ((kA n k).size ≤ 24 ∧ (0 < k → lts (kA n (k - 1)) (kA n k) = true) ∧ (n.lf = true → eqs (kA n k) eS = false))) := rfl
          rw [hlf.out] at HD
          have HP : Hid (0 < k → wr.cell? ⟨b, o + (k - 1), none⟩ = some (.string (kA n (k - 1)))) := fun h0 => by
            obtain ⟨b', o', e, c⟩ := (H1.out.below BW.out).key (i := k - 1) (by rw [hL1.out]; omega)
            cases e
            exact c
          have BR : Hid (Below w.heap.size w wr) := B1.out.trans (BW.out.mono B1.out.size)
          obtain ⟨key, hkey⟩ : ∃ s, Hid (kA n k = s) := ⟨_, rfl⟩
          obtain ⟨prv, hprv⟩ : ∃ s, Hid (kA n (k - 1) = s) := ⟨_, rfl⟩
          rw [hkey.out] at ck HD
          rw [hprv.out] at HP HD
          have HE : Hid (eqs key eS = (key.toList == [])) := eqs_nil key
          clear HL HI HZ1 BF2 V3
          by_cases h24 : (key.size : Int) ≤ 24
          · have hd24 : decide (24 < (key.size : Int)) = false := by rw [decide_eq_false_iff_not]; omega
            have H24 : Hid (key.size ≤ 24) := by show _ ≤ _; omega
            by_cases h0 : 0 < k
            · have h0' : (0 : Int) < (k : Int) := by omega
              have hd0 : decide ((0 : Int) < (k : Int)) = true := by rw [decide_eq_true_iff]; omega
              have cp := HP.out h0
              cases hlt2 : Op.bytesLess prv.toList key.toList with
              | true =>
                have hg : (!Op.bytesLess prv.toList key.toList) = false := by rw [hlt2]; rfl
                cases lf with
                | true =>
                  cases hemp : (key.toList == []) with
                  | true =>
                    obtain rfl : mn = false := HB.out (by rw [HD.out]; intro h; have := h.2.2 rfl; rw [HE.out, hemp] at this; cases this)
                    clear HB HO HD HP HE HX HZ HF
                    go_wp2_with fail
                    go_quiet (fail)
                    go_wp2_with fail
                    go_ret
                    exact ⟨rfl, BR.out.trans (Below.of_drewN _ _ _)⟩
                  | false =>
                    have HK : Hid (∀ j, j < k + 1 → kOk n j) := HO.out (by rw [HD.out]; exact ⟨H24.out, fun _ => hlt2, fun _ => by rw [HE.out]; exact hemp⟩)
                    clear HB HO HD HP HE HX HZ HF
                    go_wp2_with fail
                    go_quiet (fail)
                    go_wp2_with fail
                    go_roundw
                    case rel => exact ⟨k + 1, by omega, by go_num, HK, BW.out.trans (Below.of_drewN _ _ _)⟩
                    case measure => simp [intOf]; omega
                | false =>
                  have HK : Hid (∀ j, j < k + 1 → kOk n j) := HO.out (by rw [HD.out]; exact ⟨H24.out, fun _ => hlt2, fun e => by cases e⟩)
                  clear HB HO HD HP HE HX HZ HF
                  go_wp2_with fail
                  go_quiet (fail)
                  go_wp2_with fail
                  go_roundw
                  case rel => exact ⟨k + 1, by omega, by go_num, HK, BW.out.trans (Below.of_drewN _ _ _)⟩
                  case measure => simp [intOf]; omega
              | false =>
                obtain rfl : mn = false := HB.out (by rw [HD.out]; intro h; have := h.2.1 h0; unfold lts at this; rw [hlt2] at this; cases this)
                have hg : (!Op.bytesLess prv.toList key.toList) = true := by rw [hlt2]; rfl
                clear HB HO HD HP HE HX HZ HF
                go_wp2_with fail
                go_quiet (fail)
                go_wp2_with fail
                go_ret
                exact ⟨rfl, BR.out.trans (Below.of_drewN _ _ _)⟩
            · have hd0 : decide ((0 : Int) < (k : Int)) = false := by rw [decide_eq_false_iff_not]; omega
              cases lf with
              | true =>
                cases hemp : (key.toList == []) with
                | true =>
                  obtain rfl : mn = false := HB.out (by rw [HD.out]; intro h; have := h.2.2 rfl; rw [HE.out, hemp] at this; cases this)
                  clear HB HO HD HP HE HX HZ HF
                  go_wp2_with fail
                  go_quiet (fail)
                  go_wp2_with fail
                  go_ret
                  exact ⟨rfl, BR.out.trans (Below.of_drewN _ _ _)⟩
                | false =>
                  have HK : Hid (∀ j, j < k + 1 → kOk n j) := HO.out (by rw [HD.out]; exact ⟨H24.out, fun e => absurd e h0, fun _ => by rw [HE.out]; exact hemp⟩)
                  clear HB HO HD HP HE HX HZ HF
                  go_wp2_with fail
                  go_quiet (fail)
                  go_wp2_with fail
                  go_roundw
                  case rel => exact ⟨k + 1, by omega, by go_num, HK, BW.out.trans (Below.of_drewN _ _ _)⟩
                  case measure => simp [intOf]; omega
              | false =>
                have HK : Hid (∀ j, j < k + 1 → kOk n j) := HO.out (by rw [HD.out]; exact ⟨H24.out, fun e => absurd e h0, fun e => by cases e⟩)
                clear HB HO HD HP HE HX HZ HF
                go_wp2_with fail
                go_quiet (fail)
                go_wp2_with fail
                go_roundw
                case rel => exact ⟨k + 1, by omega, by go_num, HK, BW.out.trans (Below.of_drewN _ _ _)⟩
                case measure => simp [intOf]; omega
          · have hd24 : decide (24 < (key.size : Int)) = true := by rw [decide_eq_true_iff]; omega
            obtain rfl : mn = false := HB.out (by rw [HD.out]; intro h; exact h24 (by omega))
            clear HB HO HD HP HE HX HZ HF
            go_wp2_with fail
            go_quiet (fail)
            go_wp2_with fail
            go_ret
            exact ⟨rfl, BR.out.trans (Below.of_drewN _ _ _)⟩
        · have HKK : Hid (kn = true) := by show _ = _; rw [HZ.out, keysN_iff]; intro i hi; rw [hL1.out] at hi; exact hzk.out i (by omega)
          have BF : Hid (Below w.heap.size w wr) := B1.out.trans (BW.out.mono B1.out.size)
          have BR := BW
          have p2 := V3.out.c2
          have p3 := V3.out.c3
          clear HX
          cases lf with
          | true =>
            have HX : Hid (mn = true ↔ 1 ≤ L1 ∧ z ≤ 240 ∧ kn = true ∧ L2 = L1 ∧ L3 = 0 ∧ allS n.vs = true) := HL.out rfl
            clear HL HI
            have HX2 : Hid (mn = true ↔ L2 = L1 ∧ L3 = 0 ∧ allS n.vs = true) := ⟨fun e => (HX.out.1 e).2.2.2, fun q => HX.out.2 ⟨h1, h2, HKK.out, q⟩⟩
            have HNA : Hid (¬ (allS n.vs = true) → mn = false) := fun hh => by
              cases mn with
              | false => rfl
              | true => exact absurd (HX2.out.1 rfl).2.2 hh
            clear HX HZ HF
            go_wp2_with fail
            go_loop [4] (fun i => ∃ (k : Nat), k ≤ L2 ∧ i = .int .i64 k ∧ Hid (∀ i, i < k → (n.vs.getD i eS).size ≤ 24)) (fun i => L2 - (intOf i).toNat)
            case atStart => exact ⟨0, Nat.zero_le _, rfl, fun j hj => by omega⟩
            case round =>
              obtain ⟨k, hk, rfl, hzz⟩ := hrel
              by_cases hlt : k < L2
              · obtain ⟨b, o, rfl, ck⟩ := (H1.out.below BR.out).val (i := k) (by rw [hL2.out]; exact hlt)
                have HO : Hid (((n.vs.getD k eS).size ≤ 24) → ∀ i, i < k + 1 → (n.vs.getD i eS).size ≤ 24) := fun h0 i hi => by
                  by_cases e : i < k
                  · exact hzz.out i e
                  · have : i = k := by omega
                    rw [this]; exact h0
                have HB : Hid (¬ ((n.vs.getD k eS).size ≤ 24) → mn = false) := fun h0 => HNA.out (fun e => by rw [allS_not (i := k) (by rw [hL2.out]; exact hlt) h0] at e; cases e)
                obtain ⟨x, hx⟩ : ∃ x, Hid (n.vs.getD k eS = x) := ⟨_, rfl⟩
                unfold vA at ck
                rw [hx.out] at ck HO HB
                by_cases hg : (x.size : Int) ≤ 24
                · have hd : decide (24 < (x.size : Int)) = false := by rw [decide_eq_false_iff_not]; omega
                  have HK : Hid (∀ i, i < k + 1 → (n.vs.getD i eS).size ≤ 24) := HO.out (by omega)
                  clear HB HO
                  go_wp2_with fail
                  go_round
                  case rel => exact ⟨k + 1, by omega, by go_num, HK⟩
                  case measure => simp [intOf]; omega
                · have hd : 24 < (x.size : Int) := by omega
                  obtain rfl : mn = false := HB.out (by omega)
                  clear HB HO
                  go_wp2_with fail
                  go_ret
                  exact ⟨rfl, BF.out⟩
              · have HA : Hid (allS n.vs = true) := by show _ = _; rw [allS_iff]; intro i hi; exact hzz.out i (by rw [hL2.out] at hi; omega)
                have HN : Hid (¬ (L2 = L1 ∧ L3 = 0) → mn = false) := fun hh => by
                  cases mn with
                  | false => rfl
                  | true => exact absurd (HX2.out.1 rfl) (fun x => hh ⟨x.1, x.2.1⟩)
                have HY : Hid (L2 = L1 → L3 = 0 → mn = true) := fun x y => HX2.out.2 ⟨x, y, HA.out⟩
                clear HX2 HNA HA
                by_cases h3 : L2 = L1
                · have e3 : ((L2 : Int) == (L1 : Int)) = true := by rw [beq_iff_eq]; omega
                  by_cases h4 : L3 = 0
                  · have e4 : ((L3 : Int) == 0) = true := by rw [beq_iff_eq]; omega
                    obtain rfl : mn = true := HY.out h3 h4
                    clear h3 h4 HY HN
                    go_wp2_with fail
                    go_ret
                    exact ⟨rfl, BF.out⟩
                  · have e4 : ((L3 : Int) == 0) = false := by rw [beq_eq_false_iff_ne]; omega
                    obtain rfl : mn = false := HN.out (fun x => h4 x.2)
                    clear h3 h4 HY HN
                    go_wp2_with fail
                    go_ret
                    exact ⟨rfl, BF.out⟩
                · have e3 : ((L2 : Int) == (L1 : Int)) = false := by rw [beq_eq_false_iff_ne]; omega
                  obtain rfl : mn = false := HN.out (fun x => h3 x.1)
                  clear h3 HY HN
                  go_wp2_with fail
                  go_ret
                  exact ⟨rfl, BF.out⟩
          | false =>
            have HX : Hid (mn = true ↔ 1 ≤ L1 ∧ z ≤ 240 ∧ kn = true ∧ L3 = L1 ∧ L2 = 0 ∧ allI n.kd = true) := HI.out rfl
            clear HL HI
            have HX2 : Hid (mn = true ↔ L3 = L1 ∧ L2 = 0 ∧ allI n.kd = true) := ⟨fun e => (HX.out.1 e).2.2.2, fun q => HX.out.2 ⟨h1, h2, HKK.out, q⟩⟩
            have HNA : Hid (¬ (allI n.kd = true) → mn = false) := fun hh => by
              cases mn with
              | false => rfl
              | true => exact absurd (HX2.out.1 rfl).2.2 hh
            clear HX HZ HF
            go_wp2_with fail
            go_loop [5] (fun i => ∃ (k : Nat), k ≤ L3 ∧ i = .int .i64 k ∧ Hid (∀ i, i < k → 0 ≤ n.kd.getD i 0 ∧ n.kd.getD i 0 ≤ 65535)) (fun i => L3 - (intOf i).toNat)
            case atStart => exact ⟨0, Nat.zero_le _, rfl, fun j hj => by omega⟩
            case round =>
              obtain ⟨k, hk, rfl, hzz⟩ := hrel
              by_cases hlt : k < L3
              · obtain ⟨b, o, rfl, ck⟩ := (H1.out.below BR.out).kid (i := k) (by rw [hL3.out]; exact hlt)
                have HO : Hid ((0 ≤ n.kd.getD k 0 ∧ n.kd.getD k 0 ≤ 65535) → ∀ i, i < k + 1 → 0 ≤ n.kd.getD i 0 ∧ n.kd.getD i 0 ≤ 65535) := fun h0 i hi => by
                  by_cases e : i < k
                  · exact hzz.out i e
                  · have : i = k := by omega
                    rw [this]; exact h0
                have HB : Hid (¬ (0 ≤ n.kd.getD k 0 ∧ n.kd.getD k 0 ≤ 65535) → mn = false) := fun h0 => HNA.out (fun e => by rw [allI_not (i := k) (by rw [hL3.out]; exact hlt) h0] at e; cases e)
                obtain ⟨x, hx⟩ : ∃ x, Hid (n.kd.getD k 0 = x) := ⟨_, rfl⟩
                unfold dA at ck
                rw [hx.out] at ck HO HB
                by_cases hg0 : 0 ≤ x
                · have hd0 : decide (x < 0) = false := by rw [decide_eq_false_iff_not]; omega
                  by_cases hg : x ≤ 65535
                  · have hd : decide (65535 < x) = false := by rw [decide_eq_false_iff_not]; omega
                    have HK : Hid (∀ i, i < k + 1 → 0 ≤ n.kd.getD i 0 ∧ n.kd.getD i 0 ≤ 65535) := HO.out (by omega)
                    clear HB HO
                    go_wp2_with fail
                    go_round
                    case rel => exact ⟨k + 1, by omega, by go_num, HK⟩
                    case measure => simp [intOf]; omega
                  · have hd : 65535 < x := by omega
                    obtain rfl : mn = false := HB.out (by omega)
                    clear HB HO
                    go_wp2_with fail
                    go_ret
                    exact ⟨rfl, BF.out⟩
                · have hd : x < 0 := by omega
                  obtain rfl : mn = false := HB.out (by omega)
                  clear HB HO
                  go_wp2_with fail
                  go_ret
                  exact ⟨rfl, BF.out⟩
              · have HA : Hid (allI n.kd = true) := by show _ = _; rw [allI_iff]; intro i hi; exact hzz.out i (by rw [hL3.out] at hi; omega)
                have HN : Hid (¬ (L3 = L1 ∧ L2 = 0) → mn = false) := fun hh => by
                  cases mn with
                  | false => rfl
                  | true => exact absurd (HX2.out.1 rfl) (fun x => hh ⟨x.1, x.2.1⟩)
                have HY : Hid (L3 = L1 → L2 = 0 → mn = true) := fun x y => HX2.out.2 ⟨x, y, HA.out⟩
                clear HX2 HNA HA
                by_cases h3 : L3 = L1
                · have e3 : ((L3 : Int) == (L1 : Int)) = true := by rw [beq_iff_eq]; omega
                  by_cases h4 : L2 = 0
                  · have e4 : ((L2 : Int) == 0) = true := by rw [beq_iff_eq]; omega
                    obtain rfl : mn = true := HY.out h3 h4
                    clear h3 h4 HY HN
                    go_wp2_with fail
                    go_ret
                    exact ⟨rfl, BF.out⟩
                  · have e4 : ((L2 : Int) == 0) = false := by rw [beq_eq_false_iff_ne]; omega
                    obtain rfl : mn = false := HN.out (fun x => h4 x.2)
                    clear h3 h4 HY HN
                    go_wp2_with fail
                    go_ret
                    exact ⟨rfl, BF.out⟩
                · have e3 : ((L3 : Int) == (L1 : Int)) = false := by rw [beq_eq_false_iff_ne]; omega
                  obtain rfl : mn = false := HN.out (fun x => h3 x.1)
                  clear h3 HY HN
                  go_wp2_with fail
                  go_ret
                  exact ⟨rfl, BF.out⟩
    · have e2 : 240 < z := by omega
      obtain rfl : mn = false := HF.out (fun h => h2 h.2.1)
      go_wp2_with fail
      go_ret
      exact ⟨rfl, BF2.out⟩
  · have e0 : L1 = 0 := by omega
    obtain rfl : mn = false := HF.out (fun h => h1 h.1)
    subst e0
    clear h1
    go_enter Try.func10, Try.ntmps10
    go_wp2_with fail
    go_ret
    exact ⟨rfl, B1.out⟩
end Go.Proofs.Ytbpaeecclikeiaa
