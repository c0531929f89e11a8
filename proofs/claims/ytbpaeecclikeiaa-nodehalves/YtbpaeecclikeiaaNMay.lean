/-
  Whether a node may be: the program's May.
-/
import Derived.Test.YtbpaeecclikeiaaNKeys
import Derived.Test.YtbpaeecclikeiaaNCont
namespace Go.Proofs.Ytbpaeecclikeiaa
open Go.RowKit Pl
set_option linter.unusedVariables false
set_option linter.unusedSimpArgs false
set_option maxRecDepth 100000

theorem may_leaf {n : Nd} (h : n.lf = true) : MayP n ↔ 1 ≤ n.ks.length ∧ W (szN n n.ks.length) ≤ 240 ∧ keysN n = true ∧ n.vs.length = n.ks.length ∧ n.kd.length = 0 ∧ allS n.vs = true := by
  unfold MayP
  rw [if_pos h, keysN_iff, allS_iff]
  exact ⟨fun ⟨a, b, c, d, e, f⟩ => ⟨a, b, c, e, f, d⟩, fun ⟨a, b, c, e, f, d⟩ => ⟨a, b, c, d, e, f⟩⟩
theorem may_inner {n : Nd} (h : n.lf = false) : MayP n ↔ 1 ≤ n.ks.length ∧ W (szN n n.ks.length) ≤ 240 ∧ keysN n = true ∧ n.kd.length = n.ks.length ∧ n.vs.length = 0 ∧ allI n.kd = true := by
  unfold MayP
  rw [if_neg (by rw [h]; decide), keysN_iff, allI_iff]
  exact ⟨fun ⟨a, b, c, d, e, f⟩ => ⟨a, b, c, e, f, d⟩, fun ⟨a, b, c, e, f, d⟩ => ⟨a, b, c, d, e, f⟩⟩

set_option maxHeartbeats 1000000 in
theorem may_any (n : Nd) (u1 u2 u3 : Value) (w : World) (h : Nn w n u1 u2 u3) (hs : Sm n) :
    Calls Try.prog 12 #[nod n.lf u1 u2 u3] w fun e w' => e = .returned (.bool (mayN n)) ∧ Below w.heap.size w w' := by
  obtain ⟨a1, c1, a2, c2, a3, c3, rfl, rfl, rfl, ⟨l1, l2, l3, l4, l5, l6⟩, _, _, _⟩ := h.out
  have H := hideN h
  have HS := hideN hs
  obtain ⟨L1, hL1⟩ : ∃ L, Hid (n.ks.length = L) := ⟨_, rfl⟩
  obtain ⟨L2, hL2⟩ : ∃ L, Hid (n.vs.length = L) := ⟨_, rfl⟩
  obtain ⟨L3, hL3⟩ : ∃ L, Hid (n.kd.length = L) := ⟨_, rfl⟩
  rw [hL1.out] at H l1 ⊢
  rw [hL2.out] at H l3 ⊢
  rw [hL3.out] at H l5 ⊢
  obtain ⟨lf, hlf⟩ : ∃ lf, Hid (n.lf = lf) := ⟨_, rfl⟩
  rw [hlf.out]
  unfold nod
  obtain ⟨W1, hW1⟩ : ∃ W1, w.alloc (.cells #[.bool lf, .slice a1 L1 c1, .slice a2 L2 c2, .slice a3 L3 c3] 26) = W1 := ⟨_, rfl⟩
  have B1 : Hid (Below w.heap.size w W1) := by rw [← hW1]; exact below_alloc _ _
  have V1 : Hid (Nb W1 26 w.heap.size lf (.slice a1 L1 c1) (.slice a2 L2 c2) (.slice a3 L3 c3)) := by rw [← hW1]; exact nb_new _ _ _ _ _ _
  have H1 : Hid (Nn W1 n (.slice a1 L1 c1) (.slice a2 L2 c2) (.slice a3 L3 c3)) := H.out.below B1.out
  obtain ⟨mn, hmn⟩ : ∃ b, Hid (mayN n = b) := ⟨_, rfl⟩
  rw [hmn.out]
  obtain ⟨kn, hkn⟩ : ∃ b, Hid (keysN n = b) := ⟨_, rfl⟩
  obtain ⟨z, hz⟩ : ∃ b, Hid (W (szN n n.ks.length) = b) := ⟨_, rfl⟩
  obtain ⟨av, hav⟩ : ∃ b, Hid (allS n.vs = b) := ⟨_, rfl⟩
  obtain ⟨ad, had⟩ : ∃ b, Hid (allI n.kd = b) := ⟨_, rfl⟩
  have HL : Hid (lf = true → (mn = true ↔ 1 ≤ L1 ∧ z ≤ 240 ∧ kn = true ∧ L2 = L1 ∧ L3 = 0 ∧ av = true)) := fun e => by
    have := may_leaf (n := n) (by rw [hlf.out]; exact e)
    rw [← mayN_iff, hmn.out, hz.out, hkn.out, hav.out, hL1.out, hL2.out, hL3.out] at this
    exact this
  have HI : Hid (lf = false → (mn = true ↔ 1 ≤ L1 ∧ z ≤ 240 ∧ kn = true ∧ L3 = L1 ∧ L2 = 0 ∧ ad = true)) := fun e => by
    have := may_inner (n := n) (by rw [hlf.out]; exact e)
    rw [← mayN_iff, hmn.out, hz.out, hkn.out, had.out, hL1.out, hL2.out, hL3.out] at this
    exact this
  have HF : Hid (¬ (1 ≤ L1 ∧ z ≤ 240 ∧ kn = true) → mn = false) := fun hh => by
    cases mn with
    | false => rfl
    | true =>
      cases lf with
      | true => exact absurd ((HL.out rfl).1 rfl) (fun ⟨x, y, q, _⟩ => hh ⟨x, y, q⟩)
      | false => exact absurd ((HI.out rfl).1 rfl) (fun ⟨x, y, q, _⟩ => hh ⟨x, y, q⟩)
  have HK1 : Hid (∀ W, Below W1.heap.size W1 W → Calls Try.prog 26 #[.agg #[.bool lf, .slice a1 L1 c1, .slice a2 L2 c2, .slice a3 L3 c3]] W fun e w' => e = .returned (.bool kn) ∧ Below W.heap.size W w') := fun W hb => by
    have := keysMay_any n _ _ _ W (H1.out.below hb) HS.out
    rw [hlf.out, hkn.out] at this
    exact this
  have HZ1 : Hid (∀ W, Below W1.heap.size W1 W → Calls Try.prog 13 #[.agg #[.bool lf, .slice a1 L1 c1, .slice a2 L2 c2, .slice a3 L3 c3]] W fun e w' => e = .returned (.int .i64 z) ∧ Below W.heap.size W w') := fun W hb => by
    have := size_any n _ _ _ W (H1.out.below hb) HS.out
    rw [hlf.out, hz.out] at this
    exact this
  have HV1 : Hid (∀ W, Below W1.heap.size W1 W → Calls Try.prog 27 #[.slice a2 L2 c2, .func (.func 28) #[] #[]] W fun e w' => e = .returned (.bool (!av)) ∧ Below W.heap.size W w') := fun W hb => by
    have := containsS_any _ n.vs W (H1.out.below hb).v (by have := HS.out.vl; omega)
    rw [hav.out] at this
    exact this
  have HD1 : Hid (∀ W, Below W1.heap.size W1 W → Calls Try.prog 29 #[.slice a3 L3 c3, .func (.func 30) #[] #[]] W fun e w' => e = .returned (.bool (!ad)) ∧ Below W.heap.size W w') := fun W hb => by
    have := containsI_any _ n.kd W (H1.out.below hb).d (by have := HS.out.dl; omega)
    rw [had.out] at this
    exact this
  have p0 := V1.out.c0
  have p1 := V1.out.c1
  have p2 := V1.out.c2
  have p3 := V1.out.c3
  clear h hs H HS hmn hkn hz hav had hlf hL1 hL2 hL3 H1
  by_cases h1 : 1 ≤ L1
  · have e1 : ((L1 : Int) == 0) = false := by rw [beq_eq_false_iff_ne]; omega
    go_enter Try.func12, Try.ntmps12
    go_wp2_with fail
    refine (HK1.out W1 (Below.refl _ _)).mono ?_
    rintro e w2 ⟨rfl, b2⟩
    have V2 : Hid (Nb w2 26 w.heap.size lf (.slice a1 L1 c1) (.slice a2 L2 c2) (.slice a3 L3 c3)) := V1.out.below b2
    have B2 : Hid (Below W1.heap.size W1 w2) := b2
    clear b2 p0 p1 p2 p3 hW1
    have p0 := V2.out.c0
    have p1 := V2.out.c1
    have p2 := V2.out.c2
    have p3 := V2.out.c3
    cases kn with
    | false =>
      obtain rfl : mn = false := HF.out (fun h => by cases h.2.2)
      go_wp2_with fail
      go_ret
      exact ⟨rfl, B1.out.trans (B2.out.mono B1.out.size)⟩
    | true =>
      go_wp2_with fail
      refine (HZ1.out w2 B2.out).mono ?_
      rintro e w3 ⟨rfl, b3⟩
      have V3 : Hid (Nb w3 26 w.heap.size lf (.slice a1 L1 c1) (.slice a2 L2 c2) (.slice a3 L3 c3)) := V2.out.below b3
      have B3 : Hid (Below W1.heap.size W1 w3) := B2.out.trans (b3.mono B2.out.size)
      have BF : Hid (Below w.heap.size w w3) := B1.out.trans (B3.out.mono B1.out.size)
      clear b3 p0 p1 p2 p3
      have p0 := V3.out.c0
      have p1 := V3.out.c1
      have p2 := V3.out.c2
      have p3 := V3.out.c3
      by_cases h2 : z ≤ 240
      · have e2 : decide (240 < z) = false := by rw [decide_eq_false_iff_not]; omega
        clear HF
        cases lf with
        | true =>
          have HX : Hid (mn = true ↔ 1 ≤ L1 ∧ z ≤ 240 ∧ L2 = L1 ∧ L3 = 0 ∧ av = true) := ⟨fun e => (fun q => ⟨q.1, q.2.1, q.2.2.2⟩) ((HL.out rfl).1 e), fun q => (HL.out rfl).2 ⟨q.1, q.2.1, (by trivial), q.2.2⟩⟩
          have HN : Hid (¬ (L2 = L1 ∧ L3 = 0 ∧ av = true) → mn = false) := fun hh => by
            cases mn with
            | false => rfl
            | true => exact absurd (HX.out.1 rfl) (fun x => hh x.2.2)
          clear HL HI
          by_cases h3 : L2 = L1
          · have e3 : ((L2 : Int) == (L1 : Int)) = true := by rw [beq_iff_eq]; omega
            by_cases h4 : L3 = 0
            · have e4 : ((L3 : Int) == 0) = true := by rw [beq_iff_eq]; omega
              have HQ : Hid (av = true → mn = true) := fun e => HX.out.2 ⟨h1, h2, h3, h4, e⟩
              have HR : Hid (av = false → mn = false) := fun e => HN.out (fun x => by rw [e] at x; cases x.2.2)
              clear h3 h4 HX HN
              go_wp2_with fail
              refine (HV1.out w3 B3.out).mono ?_
              rintro e w4 ⟨rfl, b4⟩
              have BG : Hid (Below w.heap.size w w4) := BF.out.trans (b4.mono BF.out.size)
              clear b4 p0 p1 p2 p3
              cases av with
              | true =>
                obtain rfl : mn = true := HQ.out rfl
                go_wp2_with fail
                go_ret
                exact ⟨rfl, BG.out⟩
              | false =>
                obtain rfl : mn = false := HR.out rfl
                go_wp2_with fail
                go_ret
                exact ⟨rfl, BG.out⟩
            · have e4 : ((L3 : Int) == 0) = false := by rw [beq_eq_false_iff_ne]; omega
              obtain rfl : mn = false := HN.out (fun x => h4 x.2.1)
              clear h3 h4 HX HN
              go_wp2_with fail
              go_ret
              exact ⟨rfl, BF.out⟩
          · have e3 : ((L2 : Int) == (L1 : Int)) = false := by rw [beq_eq_false_iff_ne]; omega
            obtain rfl : mn = false := HN.out (fun x => h3 x.1)
            clear h3 HX HN
            go_wp2_with fail
            go_ret
            exact ⟨rfl, BF.out⟩
        | false =>
          have HX : Hid (mn = true ↔ 1 ≤ L1 ∧ z ≤ 240 ∧ L3 = L1 ∧ L2 = 0 ∧ ad = true) := ⟨fun e => (fun q => ⟨q.1, q.2.1, q.2.2.2⟩) ((HI.out rfl).1 e), fun q => (HI.out rfl).2 ⟨q.1, q.2.1, (by trivial), q.2.2⟩⟩
          have HN : Hid (¬ (L3 = L1 ∧ L2 = 0 ∧ ad = true) → mn = false) := fun hh => by
            cases mn with
            | false => rfl
            | true => exact absurd (HX.out.1 rfl) (fun x => hh x.2.2)
          clear HL HI
          by_cases h3 : L3 = L1
          · have e3 : ((L3 : Int) == (L1 : Int)) = true := by rw [beq_iff_eq]; omega
            by_cases h4 : L2 = 0
            · have e4 : ((L2 : Int) == 0) = true := by rw [beq_iff_eq]; omega
              have HQ : Hid (ad = true → mn = true) := fun e => HX.out.2 ⟨h1, h2, h3, h4, e⟩
              have HR : Hid (ad = false → mn = false) := fun e => HN.out (fun x => by rw [e] at x; cases x.2.2)
              clear h3 h4 HX HN
              go_wp2_with fail
              refine (HD1.out w3 B3.out).mono ?_
              rintro e w4 ⟨rfl, b4⟩
              have BG : Hid (Below w.heap.size w w4) := BF.out.trans (b4.mono BF.out.size)
              clear b4 p0 p1 p2 p3
              cases ad with
              | true =>
                obtain rfl : mn = true := HQ.out rfl
                go_wp2_with fail
                go_ret
                exact ⟨rfl, BG.out⟩
              | false =>
                obtain rfl : mn = false := HR.out rfl
                go_wp2_with fail
                go_ret
                exact ⟨rfl, BG.out⟩
            · have e4 : ((L2 : Int) == 0) = false := by rw [beq_eq_false_iff_ne]; omega
              obtain rfl : mn = false := HN.out (fun x => h4 x.2.1)
              clear h3 h4 HX HN
              go_wp2_with fail
              go_ret
              exact ⟨rfl, BF.out⟩
          · have e3 : ((L3 : Int) == (L1 : Int)) = false := by rw [beq_eq_false_iff_ne]; omega
            obtain rfl : mn = false := HN.out (fun x => h3 x.1)
            clear h3 HX HN
            go_wp2_with fail
            go_ret
            exact ⟨rfl, BF.out⟩
      · have e2 : 240 < z := by omega
        obtain rfl : mn = false := HF.out (fun h => h2 h.2.1)
        go_wp2_with fail
        go_ret
        exact ⟨rfl, BF.out⟩
  · have e0 : L1 = 0 := by omega
    obtain rfl : mn = false := HF.out (fun h => h1 h.1)
    subst e0
    clear h1
    go_enter Try.func12, Try.ntmps12
    go_wp2_with fail
    go_ret
    exact ⟨rfl, B1.out⟩
end Go.Proofs.Ytbpaeecclikeiaa
