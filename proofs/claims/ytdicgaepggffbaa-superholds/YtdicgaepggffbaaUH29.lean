import Derived.Test.YtdicgaepggffbaaUH27
import Derived.Test.YtdicgaepggffbaaUH18
import Derived.Test.YtdicgaepggffbaaUH28
import Derived.Test.YtdicgaepggffbaaUH23
import Derived.Deep.RegionHeld3
/-
  What was saved is what is loaded, behind any loss of power.
-/
namespace Go.Proofs.Ytdicgaepggffbaa
open Go.RowKit Go.Maps
set_option linter.unusedVariables false
set_option linter.unusedSimpArgs false
set_option maxRecDepth 100000

set_option maxHeartbeats 4000000 in
theorem superHolds_walk (lv pv : Value) (xs : List (Sp × Value)) (ps : List Int) (bit : Int) (w : World) (hr : RdSp w lv xs) (hp : Rd .i64 w pv ps) (hbit : (Lit.int .i64 bit).wf = true) :
    Calls Try.prog 6 #[lv, pv, .int .i64 bit] w fun e w' => e = .returned (.bool true) ∧ Below w.heap.size w w' := by
  have HR : Hid (RdSp w lv xs) := hr
  obtain ⟨la, lcap, rfl, hl1, hl2, -⟩ := hr
  obtain ⟨t, ht⟩ : ∃ t, xs.length = t := ⟨_, rfl⟩
  have HT : Hid (xs.length = t) := ht
  have ht63 : (t : Int) ≤ 9223372036854775807 := by unfold maxLen at hl2; omega
  rw [ht] at HR ⊢
  have HP : Hid (∀ W, Below w.heap.size w W → Rd .i64 W pv ps) := fun W h => hp.below h
  have HPN : Hid (∀ (T : Nat → Prop), (∀ k, T k → w.heap.size ≤ k) → ∀ k, pv.ownBlock = some k → ps ≠ [] → ¬ T k) := fun T hT k hk h0 e => by
    have := hp.blk h0 k hk
    have := hT k e
    omega
  obtain ⟨pa, pc, rfl, -⟩ := id hp
  obtain ⟨pl, hpl⟩ : ∃ m, Hid (ps.length = m) := ⟨_, rfl⟩
  rw [hpl.out] at HP HPN ⊢
  have HPK : Hid (∀ W, Calls Try.prog 19 #[.int .i64 bit, .int .i64 ((2048 : Nat) : Int)] W fun e w' => e = .returned (.int .i64 (pk bit 2048 : Int)) ∧ w' = W) := fun W => pick_any bit 2048 (by decide) (by decide) hbit W
  have hpk := pk_lt bit (n := 2048) (by decide)
  generalize pk bit 2048 = pp at HPK hpk
  clear hl1 hl2 ht hp hbit
  have HLV := hideP (fun w => lives_anyU w)
  have HNEW := hideP (new_ok 128 w (by omega) (by omega))
  go_enter Try.func6, Try.ntmps6
  go_wp2_with fail
  refine HNEW.out.mono ?_
  clear HNEW
  rintro e w1 ⟨d, S1, rfl, hd1, hb1, hs1⟩
  have D1 : Hid (Dc S1 w w1 d (DS.new 128)) := ⟨hd1, hb1, hs1⟩
  clear hd1 hb1 hs1
  obtain ⟨W1, hW1⟩ : ∃ W1, Hid (w1.alloc (.cells #[.int .i64 0, .int .i64 0, .int .i64 0, .slice none 0 0] 24) = W1) := ⟨_, rfl⟩
  obtain ⟨lb, hlb⟩ : ∃ g, Hid (w1.heap.size = g) := ⟨_, rfl⟩
  have D2 : Hid (Dc S1 w W1 d (DS.new 128)) := by rw [← hW1.out]; exact D1.out.below ((Below.refl _ _).alloc (Nat.le_refl _) _)
  have L2 : Hid (Bx S1 w W1 lb sp0 (.slice none 0 0)) := by rw [← hW1.out, ← hlb.out]; exact bx_new (m := sp0) D1.out ⟨rdV_nil _, fun e => absurd rfl e⟩
  clear D1
  go_wp2_with fail
  rw [hW1.out, hlb.out]
  clear hW1 hlb
  go_loopw [10] (fun iv wr => ∃ (k : Nat) (S : Nat → Prop) (s : DS) (last : Sp) (a : Option Addr) (c : Nat), k ≤ t ∧ k ≤ 200 ∧ iv = .int .i64 k ∧ Hid (Iv k s last) ∧ Hid (Dc S w wr d s) ∧ Hid (Bx S w wr lb last (.slice a last.vs.length c))) (fun iv _ => t - (intOf iv).toNat)
  case atStart => exact ⟨0, S1, _, sp0, none, 0, Nat.zero_le _, Nat.zero_le _, rfl, iv_new, D2, L2⟩
  case round =>
    clear D2 L2
    obtain ⟨k, S, s, last, a, c, hk, hk2, rfl, HI, D, L⟩ := hrel
    by_cases hkt : k < t ∧ k < 200
    · obtain ⟨hkt, hk200⟩ := hkt
      have hki : (k : Int) < (t : Int) := by omega
      have hkj : (k : Int) < 200 := by omega
      have hk0 : (0 : Int) ≤ (k : Int) := by omega
      obtain ⟨xb, xo, rfl, DC⟩ := HR.out.at_ D.out.2.1 (k := k) (by rw [HT.out]; exact hkt)
      obtain ⟨x, hx⟩ : ∃ x, xs[k]'(by rw [HT.out]; exact hkt) = x := ⟨_, rfl⟩
      have HX0 : Hid (RdV w x.2 x.1.vs) := by
        obtain ⟨_, _, _, DW⟩ := HR.out.at_ (Below.refl _ _) (k := k) (by rw [HT.out]; exact hkt)
        rw [hx] at DW
        exact DW.rv
      rw [hx] at DC
      obtain ⟨c0, c1, c2, c3, hrv⟩ := DC
      obtain ⟨xs1, xv⟩ := x
      dsimp only at *
      have HMA : Hid (∀ W, RdV W xv xs1.vs → Calls Try.prog 33 #[.agg #[.int .i64 xs1.gen, .int .i64 xs1.sc, .int .i64 xs1.nx, xv], .int .i64 ((k : Int) + 1)] W fun e w' => ∃ m a c, Md k m ∧ e = .returned (supv m (.slice a m.vs.length c)) ∧ RdV w' (.slice a m.vs.length c) m.vs ∧ Below W.heap.size W w' ∧ ((Value.slice a m.vs.length c = xv ∧ m.vs = xs1.vs) ∨ ∀ j, (Value.slice a m.vs.length c).ownBlock = some j → W.heap.size ≤ j)) := fun W h => made_any k hk200 xs1 xv W h
      have HRV := hideP hrv
      clear hx hrv
      go_wp2_with fail
      refine (HMA.out _ HRV.out).mono ?_
      rintro e W2 ⟨m, ma, mc, hM, rfl, r2, b2, o2⟩
      have HM := hideP hM
      have kp2 : Kp S W2 (.slice ma m.vs.length mc) m.vs := by
        rcases o2 with ⟨e1, e2⟩ | hn
        · exact kp_old D.out b2 (by rw [e1, e2]; exact HX0.out) r2
        · exact kp_new D.out.1 b2 r2 hn
      obtain ⟨W3, hW3⟩ : ∃ W3, W2.alloc (.cells #[.int .i64 m.gen, .int .i64 m.sc, .int .i64 m.nx, .slice ma m.vs.length mc] 24) = W3 := ⟨_, rfl⟩
      obtain ⟨q, hq⟩ : ∃ q, W2.heap.size = q := ⟨_, rfl⟩
      have b3 : Below W2.heap.size W2 W3 := by rw [← hW3]; exact (Below.refl _ _).alloc (Nat.le_refl _) _
      have D2 := D.out.below b2
      have D3 : Hid (Dc S w W3 d s) := D2.below b3
      have L3 : Hid (Bx S w W3 lb last (.slice a last.vs.length c)) := (L.out.below b2).below b3
      have M3 : Hid (Bx S w W3 q m (.slice ma m.vs.length mc)) := by rw [← hW3, ← hq]; exact bx_new D2 kp2
      have hlq : lb < q := by rw [← hq]; exact (L.out.below b2).uv.lt
      obtain ⟨mg, hmg⟩ : ∃ l, Hid (m.gen = l) := ⟨_, rfl⟩
      obtain ⟨ms, hms⟩ : ∃ l, Hid (m.sc = l) := ⟨_, rfl⟩
      obtain ⟨mn, hmn⟩ : ∃ l, Hid (m.nx = l) := ⟨_, rfl⟩
      obtain ⟨ml, hml⟩ : ∃ l, Hid (m.vs.length = l) := ⟨_, rfl⟩
      obtain ⟨ll, hll⟩ : ∃ l, Hid (last.vs.length = l) := ⟨_, rfl⟩
      rw [hll.out] at L3
      have hmg1 : 1 ≤ mg := by rw [← hmg.out, hM.2.1]; omega
      have hmg2 : mg ≤ 200 := by rw [← hmg.out, hM.2.1]; omega
      have hpu := refPutU_any m _ W3 M3.out.kp.1
      unfold supv at hpu
      unfold supv
      rw [hmg.out, hms.out, hmn.out, hml.out] at hW3 hpu ⊢
      rw [hml.out] at M3
      have HPU := hideP hpu
      have HLQ := hideP hlq
      clear kp2 b2 b3 r2 o2 D2 hpu hM c0 c1 c2 c3 HMA HRV HX0 D L hlq
      have q0 := M3.out.uv.c0
      have q1 := M3.out.uv.c1
      have q2 := M3.out.uv.c2
      have q3 := M3.out.uv.c3
      rw [hmg.out] at q0
      rw [hms.out] at q1
      rw [hmn.out] at q2
      go_wp2_with fail
      refine HPU.out.mono ?_
      clear HPU hW3 q0 q1 q2 q3 hq
      rintro e W4 ⟨v4, c4, rfl, b4, n4, h4⟩
      rcases h4 with ⟨_, rfl, wb⟩ | ⟨hmf, _⟩
      rotate_left
      · rw [HM.out.1] at hmf
        cases hmf
      have D4 : Hid (Dc S w W4 d s) := D3.out.below b4
      have L4 : Hid (Bx S w W4 lb last (.slice a ll c)) := L3.out.below b4
      have M4 : Hid (Bx S w W4 q m (.slice ma ml mc)) := M3.out.below b4
      obtain ⟨z, hz⟩ : ∃ z, mg % 2 = z := ⟨_, rfl⟩
      have hz0 : 0 ≤ z := by omega
      have hz1 : z ≤ 1 := by omega
      have htm : mg.tmod 2 = z := by rw [Int.tmod_eq_emod_of_nonneg (by omega), hz]
      have HZ : Hid (m.gen % 2 = z) := by rw [hmg.out]; exact hz
      have HV0 : Hid (∀ i, (s.V i).length ≤ 0) := fun i => by rw [HI.out.q.V i]; exact Nat.le_refl _
      have HWR := hideP (write_all z v4 (usec m) W4 D4.out.1 wb.rd (usec_by m) (fun k hk e => by have := n4 k hk; have := D3.out.1.slt k e; omega) (fun i => by have := HV0.out i; omega))
      obtain ⟨av, cv, hav, _⟩ := id wb.rd
      rw [HM.out.len] at hav
      subst hav
      generalize wco s z (usec m).length = cw at HWR
      have q0 := M4.out.uv.c0
      rw [hmg.out] at q0
      clear wb b4 n4 D3 L3 M3 hz
      go_wp2_with fail
      refine HWR.out.mono ?_
      clear HWR q0
      rintro e W5 ⟨rfl, hd5⟩
      obtain ⟨S5, hD5, ht5, hs5⟩ := D4.out.to hd5
      have D5 := hideP hD5
      have L5 : Hid (Bx S5 w W5 lb last (.slice a ll c)) := L4.out.dk ht5 hs5
      have M5 : Hid (Bx S5 w W5 q m (.slice ma ml mc)) := M4.out.dk ht5 hs5
      have HPW := hideP (power_any (.slice pa pl pc) ps W5 hD5.1 (HP.out W5 hD5.2.1) (HPN.out S5 hD5.2.2) (fun i => by have := wrr_Vh z (usec m) HV0.out i; omega))
      clear hd5 hD5 ht5 hs5 D4 L4 M4
      go_wp2_with fail
      refine HPW.out.mono ?_
      clear HPW
      rintro e W6 ⟨rfl, hd6⟩
      obtain ⟨S6, hD6, ht6, hs6⟩ := D5.out.to hd6
      have L6 : Hid (Bx S6 w W6 lb last (.slice a ll c)) := L5.out.dk ht6 hs6
      have M6 : Hid (Bx S6 w W6 q m (.slice ma ml mc)) := M5.out.dk ht6 hs6
      have hcut := HI.out.cut HM.out ps
      rw [HZ.out] at hcut
      generalize (wrr s z (usec m)).pw ps = s2 at hD6 hcut
      obtain ⟨hq2, hL2, hld2⟩ := hcut
      have D6 := hideP hD6
      have HQ2 := hideP hq2
      have HL2 := hideP hL2
      have HLA := hideP hld2
      have HLD := hideP (load_anyU W6 hD6.1)
      clear hd6 hD6 ht6 hs6 D5 L5 M5 hq2 hL2 hld2
      go_wp2_with fail
      refine HLD.out.mono ?_
      clear HLD
      rintro e W7 ⟨a7, k7, rfl, r7, b7, n7⟩
      obtain ⟨o, ho⟩ : ∃ o, Hid (loadU s2 = o) := ⟨_, rfl⟩
      rw [ho.out] at r7 n7 HLA ⊢
      obtain ⟨X, hX⟩ : ∃ X, Hid (o.getD sp0 = X) := ⟨_, rfl⟩
      rw [hX.out] at r7 n7 ⊢
      obtain ⟨cd, hcd⟩ : ∃ cd : Int, Hid ((if o.isSome = true then (0 : Int) else 7) = cd) := ⟨_, rfl⟩
      rw [hcd.out]
      have kp7 : Kp S6 W7 (.slice a7 X.vs.length k7) X.vs := kp_new D6.out.1 b7 r7 n7
      obtain ⟨W8, hW8⟩ : ∃ W8, W7.alloc (.cells #[.int .i64 X.gen, .int .i64 X.sc, .int .i64 X.nx, .slice a7 X.vs.length k7] 24) = W8 := ⟨_, rfl⟩
      obtain ⟨tb, htb⟩ : ∃ g, W7.heap.size = g := ⟨_, rfl⟩
      have b8 : Below W7.heap.size W7 W8 := by rw [← hW8]; exact (Below.refl _ _).alloc (Nat.le_refl _) _
      have D7 := D6.out.below b7
      have D8 : Hid (Dc S6 w W8 d s2) := D7.below b8
      have L8 : Hid (Bx S6 w W8 lb last (.slice a ll c)) := (L6.out.below b7).below b8
      have M8 : Hid (Bx S6 w W8 q m (.slice ma ml mc)) := (M6.out.below b7).below b8
      have T8 : Hid (Bx S6 w W8 tb X (.slice a7 X.vs.length k7)) := by rw [← hW8, ← htb]; exact bx_new D7 kp7
      have HQT : Hid (q < tb) := by rw [← htb]; exact (M6.out.below b7).uv.lt
      obtain ⟨xm, hxm⟩ : ∃ m, Hid (X.vs.length = m) := ⟨_, rfl⟩
      obtain ⟨xg, hxg⟩ : ∃ m, Hid (X.gen = m) := ⟨_, rfl⟩
      obtain ⟨xc, hxc⟩ : ∃ m, Hid (X.sc = m) := ⟨_, rfl⟩
      obtain ⟨xn, hxn⟩ : ∃ m, Hid (X.nx = m) := ⟨_, rfl⟩
      have hs1 := refSameU_any X m _ _ W8 T8.out.kp.1 M8.out.kp.1
      unfold supv at hs1
      unfold supv
      rw [hxm.out] at hW8 T8 hs1 ⊢
      rw [hxg.out, hxc.out, hxn.out] at hW8 hs1 ⊢
      rw [hmg.out, hms.out, hmn.out] at hs1
      obtain ⟨bn, hbn⟩ : ∃ b, decide (X = m) = b := ⟨_, rfl⟩
      rw [hbn] at hs1
      have HBN := hideP hbn
      have HS1 := hideP hs1
      have q0 := M8.out.uv.c0
      have q1 := M8.out.uv.c1
      have q2 := M8.out.uv.c2
      have q3 := M8.out.uv.c3
      have u0 := T8.out.uv.c0
      have u1 := T8.out.uv.c1
      have u2 := T8.out.uv.c2
      have u3 := T8.out.uv.c3
      rw [hmg.out] at q0
      rw [hms.out] at q1
      rw [hmn.out] at q2
      rw [hxg.out] at u0
      rw [hxc.out] at u1
      rw [hxn.out] at u2
      clear r7 b7 n7 kp7 b8 D7 D6 L6 M6 hs1 hbn
      go_wp2_with fail
      refine HS1.out.mono ?_
      clear HS1 q0 q1 q2 q3 u0 u1 u2 u3 hW8 htb
      rintro e W9 ⟨rfl, b9⟩
      have D9 : Hid (Dc S6 w W9 d s2) := D8.out.below b9
      have L9 : Hid (Bx S6 w W9 lb last (.slice a ll c)) := L8.out.below b9
      have M9 : Hid (Bx S6 w W9 q m (.slice ma ml mc)) := M8.out.below b9
      have T9 : Hid (Bx S6 w W9 tb X (.slice a7 xm k7)) := T8.out.below b9
      have hs2 := refSameU_any X last _ _ W9 T9.out.kp.1 L9.out.kp.1
      unfold supv at hs2
      obtain ⟨lg, hlg⟩ : ∃ m, Hid (last.gen = m) := ⟨_, rfl⟩
      obtain ⟨lc, hlc⟩ : ∃ m, Hid (last.sc = m) := ⟨_, rfl⟩
      obtain ⟨ln, hln⟩ : ∃ m, Hid (last.nx = m) := ⟨_, rfl⟩
      rw [hxg.out, hxc.out, hxn.out, hlg.out, hlc.out, hln.out] at hs2
      obtain ⟨bo, hbo⟩ : ∃ b, decide (X = last) = b := ⟨_, rfl⟩
      rw [hbo] at hs2
      have HBO := hideP hbo
      have HS2 := hideP hs2
      have q0 := L9.out.uv.c0
      have q1 := L9.out.uv.c1
      have q2 := L9.out.uv.c2
      have q3 := L9.out.uv.c3
      have u0 := T9.out.uv.c0
      have u1 := T9.out.uv.c1
      have u2 := T9.out.uv.c2
      have u3 := T9.out.uv.c3
      rw [hlg.out] at q0
      rw [hlc.out] at q1
      rw [hln.out] at q2
      rw [hxg.out] at u0
      rw [hxc.out] at u1
      rw [hxn.out] at u2
      clear b9 D8 L8 M8 T8 hs2 hbo
      go_wp2_with fail
      refine HS2.out.mono ?_
      clear HS2 q0 q1 q2 q3 u0 u1 u2 u3
      rintro e W10 ⟨rfl, b10⟩
      have D10 : Hid (Dc S6 w W10 d s2) := D9.out.below b10
      have L10 : Hid (Bx S6 w W10 lb last (.slice a ll c)) := L9.out.below b10
      have M10 : Hid (Bx S6 w W10 q m (.slice ma ml mc)) := M9.out.below b10
      have T10 : Hid (Bx S6 w W10 tb X (.slice a7 xm k7)) := T9.out.below b10
      clear b10 D9 L9 M9 T9
      rcases HLA.out with hA | ⟨hk1, hB⟩ | ⟨hk1, hC⟩
      · obtain ⟨rfl, rfl⟩ : cd = 0 ∧ bn = true := ⟨by rw [← hcd.out, hA]; rfl, by rw [← HBN.out]; exact decide_eq_true (by rw [← hX.out, hA]; rfl)⟩
        clear hA HLA
        have hsd := HI.out.saved HM.out HQ2.out HL2.out ps
        have hsv := save_anyU m (.slice ma ml mc) W10 D10.out.1 M10.out.kp.1 (fun i => by rw [HQ2.out.V i]; decide)
        unfold supv at hsv
        rw [hmg.out, hms.out, hmn.out, hsd.1] at hsv
        have HSV := hideP hsv
        have HSD := hideP hsd.2
        have HV3 : Hid (∀ i, ((svv s2 m).V i).length ≤ 1) := fun i => by
          unfold svv
          split
          · have h1 := fl_V_le (wrr s2 (m.gen % 2) (usec m)) i
            have h2 := wrr_Vh (m.gen % 2) (usec m) (s := s2) (k := 0) (fun i => by rw [HQ2.out.V i]; exact Nat.le_refl _) i
            omega
          · rw [HQ2.out.V i]; exact Nat.zero_le _
        have q0 := M10.out.uv.c0
        have q1 := M10.out.uv.c1
        have q2 := M10.out.uv.c2
        have q3 := M10.out.uv.c3
        rw [hmg.out] at q0
        rw [hms.out] at q1
        rw [hmn.out] at q2
        clear hsd hsv
        go_wp2_with fail
        refine HSV.out.mono ?_
        clear HSV q0 q1 q2 q3
        rintro e W11 ⟨rfl, hd11⟩
        obtain ⟨S11, hD11, ht11, hs11⟩ := D10.out.to hd11
        have D11 := hideP hD11
        have L11 : Hid (Bx S11 w W11 lb last (.slice a ll c)) := L10.out.dk ht11 hs11
        have M11 : Hid (Bx S11 w W11 q m (.slice ma ml mc)) := M10.out.dk ht11 hs11
        have T11 : Hid (Bx S11 w W11 tb X (.slice a7 xm k7)) := T10.out.dk ht11 hs11
        have HPW := hideP (power_any (.slice pa pl pc) ps W11 hD11.1 (HP.out W11 hD11.2.1) (HPN.out S11 hD11.2.2) (fun i => by have := HV3.out i; omega))
        clear hd11 hD11 ht11 hs11 D10 L10 M10 T10
        go_wp2_with fail
        refine HPW.out.mono ?_
        clear HPW
        rintro e W12 ⟨rfl, hd12⟩
        obtain ⟨S12, hD12, ht12, hs12⟩ := D11.out.to hd12
        have L12 : Hid (Bx S12 w W12 lb last (.slice a ll c)) := L11.out.dk ht12 hs12
        have M12 : Hid (Bx S12 w W12 q m (.slice ma ml mc)) := M11.out.dk ht12 hs12
        have T12 : Hid (Bx S12 w W12 tb X (.slice a7 xm k7)) := T11.out.dk ht12 hs12
        generalize (svv s2 m).pw ps = s4 at hD12 HSD
        have D12 := hideP hD12
        have hld := load_anyU W12 hD12.1
        rw [HSD.out.1] at hld
        have HLD := hideP hld
        clear hd12 hD12 ht12 hs12 hld D11 L11 M11 T11
        go_wp2_with fail
        refine HLD.out.mono ?_
        clear HLD
        intro e W13 hL
        obtain ⟨a13, k13, rfl, r13, b13, n13⟩ := loadR_some hL
        have kp13 : Kp S12 W13 (.slice a13 m.vs.length k13) m.vs := kp_new D12.out.1 b13 r13 n13
        have D13 : Hid (Dc S12 w W13 d s4) := D12.out.below b13
        have L13 : Hid (Bx S12 w W13 lb last (.slice a ll c)) := L12.out.below b13
        have M13 : Hid (Bx S12 w W13 q m (.slice ma ml mc)) := M12.out.below b13
        have T13 : Hid (Bx S12 w W13 tb X (.slice a7 xm k7)) := T12.out.below b13
        obtain ⟨W14, hW14⟩ : ∃ W14, Hid ((((W13.setCell ⟨tb, 0, none⟩ (.int .i64 m.gen)).setCell ⟨tb, 1, none⟩ (.int .i64 m.sc)).setCell ⟨tb, 2, none⟩ (.int .i64 m.nx)).setCell ⟨tb, 3, none⟩ (.slice a13 m.vs.length k13) = W14) := ⟨_, rfl⟩
        have D14 : Hid (Dc S12 w W14 d s4) := by rw [← hW14.out]; exact D13.out.set T13.out
        have L14 : Hid (Bx S12 w W14 lb last (.slice a ll c)) := by rw [← hW14.out]; exact L13.out.set T13.out.uv (by have := HLQ.out; have := HQT.out; omega)
        have M14 : Hid (Bx S12 w W14 q m (.slice ma ml mc)) := by rw [← hW14.out]; exact M13.out.set T13.out.uv (by have := HQT.out; omega)
        have T14 : Hid (Bx S12 w W14 tb m (.slice a13 m.vs.length k13)) := by rw [← hW14.out]; exact T13.out.put kp13
        rw [hmg.out, hms.out, hmn.out, hml.out] at hW14 ⊢
        rw [hml.out] at T14
        have u0 := T13.out.uv.c0
        have u1 := T13.out.uv.c1
        have u2 := T13.out.uv.c2
        have u3 := T13.out.uv.c3
        rw [hxg.out] at u0
        rw [hxc.out] at u1
        rw [hxn.out] at u2
        have f0 := T13.out.uv.fz 0
        have f1 := T13.out.uv.fz 1
        have f2 := T13.out.uv.fz 2
        have f3 := T13.out.uv.fz 3
        clear hL r13 b13 n13 kp13 D12 L12 M12 T12
        dsimp only
        iterate 12 (first | go_values | go_skip | go_guarded | go_step | go_upon | go_back | (simp only [Int.not_lt, Int.not_le] at *; go_simp) | (go_values <;> (try go_simp)))
        rw [hW14.out]
        clear u0 u1 u2 u3 f0 f1 f2 f3 hW14 D13 L13 M13 T13
        have hs3 := refSameU_any m m _ _ W14 T14.out.kp.1 M14.out.kp.1
        unfold supv at hs3
        rw [decide_eq_true (show m = m from rfl), hmg.out, hms.out, hmn.out] at hs3
        have HS3 := hideP hs3
        have q0 := M14.out.uv.c0
        have q1 := M14.out.uv.c1
        have q2 := M14.out.uv.c2
        have q3 := M14.out.uv.c3
        have u0 := T14.out.uv.c0
        have u1 := T14.out.uv.c1
        have u2 := T14.out.uv.c2
        have u3 := T14.out.uv.c3
        rw [hmg.out] at q0 u0
        rw [hms.out] at q1 u1
        rw [hmn.out] at q2 u2
        clear hs3
        go_wp2_with fail
        refine HS3.out.mono ?_
        clear HS3 q0 q1 q2 q3 u0 u1 u2 u3
        rintro e W15 ⟨rfl, b15⟩
        have D15 : Hid (Dc S12 w W15 d s4) := D14.out.below b15
        have L15 : Hid (Bx S12 w W15 lb last (.slice a ll c)) := L14.out.below b15
        have M15 : Hid (Bx S12 w W15 q m (.slice ma ml mc)) := M14.out.below b15
        have T15 : Hid (Bx S12 w W15 tb m (.slice a13 ml k13)) := T14.out.below b15
        have HCP := hideP (copy_any W15 D15.out.1 (fun i => by rw [HSD.out.2.1.q.V i]; decide))
        clear b15 D14 L14 M14 T14
        go_wp2_with fail
        refine HCP.out.mono ?_
        clear HCP
        rintro e W16 ⟨o6, So, rfl, hd16, b16, n16⟩
        have O16 : Hid (Dk So W16 o6 s4.cpy) := hd16
        have B16 : Hid (Below W15.heap.size W15 W16) := b16
        have N16 : Hid (∀ k, So k → W15.heap.size ≤ k) := n16
        have M16 : Hid (Bx S12 w W16 q m (.slice ma ml mc)) := M15.out.below b16
        have q0 := M16.out.uv.c0
        rw [hmg.out] at q0
        have O16d : Hid (Dk So W16.drew o6 s4.cpy) := hd16.tch (R := fun _ => False) (Tch.drew (Tch.refl _ W16)) (fun _ _ e => e)
        have B16d : Hid (Below W15.heap.size W15 W16.drew) := b16.trans ((Tch.drew (Tch.refl (fun _ => False) W16)).below b16.size (fun _ e => e.elim))
        have HWP : Hid (IntKind.i64.wrap (IntKind.i64.wrap (2048 * z) + (pp : Int)) = 2048 * z + (pp : Int)) := by
          have e1 : IntKind.i64.wrap (2048 * z) = 2048 * z := by rw [IntKind.wrap_i64]; omega
          show _ = _
          rw [e1, IntKind.wrap_i64]
          omega
        have HWF : Hid ((Lit.int .i64 (2048 * z + (pp : Int))).wf = true) := by
          show _ = _
          simp [Lit.wf, IntKind.min, IntKind.max, IntKind.signed, IntKind.bits]
          omega
        have HRO := hideP (HI.out.rots HM.out HSD.out.2.1.q HSD.out.2.2 hpk)
        rw [HZ.out] at HRO
        have hppi : (pp : Int) < 2048 := by omega
        obtain ⟨cr, hcr⟩ : ∃ cr, Hid (rco s4.cpy (2048 * z + (pp : Int)) = cr) := ⟨_, rfl⟩
        obtain ⟨s5, hs5⟩ : ∃ s5, Hid (rtt s4.cpy (2048 * z + (pp : Int)) = s5) := ⟨_, rfl⟩
        rw [hs5.out] at HRO
        clear hd16 b16 n16
        go_wp2_with fail
        go_region_held3 (fun w' => w'.cell? ⟨q, 0, none⟩ = some (.int .i64 mg)) (first | exact p0 | exact q0 | assumption)
          (first
            | (go_at_call 19; refine (HPK.out _).mono ?_; rintro e WP ⟨rfl, rfl⟩)
            | (go_at_call 28; rw [HWP.out]; refine (rot_all (2048 * z + (pp : Int)) _ O16d.out HWF.out).mono ?_; rintro e W17 ⟨rfl, hd17⟩; rw [hcr.out]; rw [hs5.out] at hd17; obtain ⟨S17, h17, t17, n17⟩ := hd17; have O17 : Hid (Dk S17 W17 o6 s5) := h17; have B17 : Hid (Below W15.heap.size W15 W17) := B16d.out.trans (t17.below B16d.out.size N16.out); clear h17 t17 n17; have M17 : Hid (Bx S12 w W17 q m (.slice ma ml mc)) := M15.out.below B17.out; have p0 := M17.out.uv.c0; rw [hmg.out] at p0))
        have D17 : Hid (Dc S12 w W17 d s4) := D15.out.below B17.out
        have L17 : Hid (Bx S12 w W17 lb last (.slice a ll c)) := L15.out.below B17.out
        have T17 : Hid (Bx S12 w W17 tb m (.slice a13 ml k13)) := T15.out.below B17.out
        have HLD := hideP (load_anyU W17 O17.out)
        clear D15 L15 M15 T15 O16 O16d B16 B16d N16 M16 HWF HWP hcr hs5 q0 p0
        go_wp2_with fail
        refine HLD.out.mono ?_
        clear HLD
        rintro e W18 ⟨a18, k18, rfl, r18, b18, n18⟩
        obtain ⟨o5, ho5⟩ : ∃ o, Hid (loadU s5 = o) := ⟨_, rfl⟩
        rw [ho5.out] at r18 n18 HRO ⊢
        obtain ⟨Y, hY⟩ : ∃ X, Hid (o5.getD sp0 = X) := ⟨_, rfl⟩
        rw [hY.out] at r18 n18 ⊢
        obtain ⟨ce, hce⟩ : ∃ cd : Int, Hid ((if o5.isSome = true then (0 : Int) else 7) = cd) := ⟨_, rfl⟩
        rw [hce.out]
        have kp18 : Kp S12 W18 (.slice a18 Y.vs.length k18) Y.vs := kp_new D17.out.1 b18 r18 n18
        have D18 : Hid (Dc S12 w W18 d s4) := D17.out.below b18
        have L18 : Hid (Bx S12 w W18 lb last (.slice a ll c)) := L17.out.below b18
        have M18 : Hid (Bx S12 w W18 q m (.slice ma ml mc)) := M17.out.below b18
        have T18 : Hid (Bx S12 w W18 tb m (.slice a13 ml k13)) := T17.out.below b18
        obtain ⟨W19, hW19⟩ : ∃ W19, Hid ((((W18.setCell ⟨tb, 0, none⟩ (.int .i64 Y.gen)).setCell ⟨tb, 1, none⟩ (.int .i64 Y.sc)).setCell ⟨tb, 2, none⟩ (.int .i64 Y.nx)).setCell ⟨tb, 3, none⟩ (.slice a18 Y.vs.length k18) = W19) := ⟨_, rfl⟩
        have D19 : Hid (Dc S12 w W19 d s4) := by rw [← hW19.out]; exact D18.out.set T18.out
        have L19 : Hid (Bx S12 w W19 lb last (.slice a ll c)) := by rw [← hW19.out]; exact L18.out.set T18.out.uv (by have := HLQ.out; have := HQT.out; omega)
        have M19 : Hid (Bx S12 w W19 q m (.slice ma ml mc)) := by rw [← hW19.out]; exact M18.out.set T18.out.uv (by have := HQT.out; omega)
        have T19 : Hid (Bx S12 w W19 tb Y (.slice a18 Y.vs.length k18)) := by rw [← hW19.out]; exact T18.out.put kp18
        unfold supv
        obtain ⟨ym, hym⟩ : ∃ m, Hid (Y.vs.length = m) := ⟨_, rfl⟩
        obtain ⟨yg, hyg⟩ : ∃ m, Hid (Y.gen = m) := ⟨_, rfl⟩
        obtain ⟨yc, hyc⟩ : ∃ m, Hid (Y.sc = m) := ⟨_, rfl⟩
        obtain ⟨yn, hyn⟩ : ∃ m, Hid (Y.nx = m) := ⟨_, rfl⟩
        rw [hyg.out, hyc.out, hyn.out, hym.out] at hW19 ⊢
        rw [hym.out] at T19
        have u0 := T18.out.uv.c0
        have u1 := T18.out.uv.c1
        have u2 := T18.out.uv.c2
        have u3 := T18.out.uv.c3
        rw [hmg.out] at u0
        rw [hms.out] at u1
        rw [hmn.out] at u2
        have f0 := T18.out.uv.fz 0
        have f1 := T18.out.uv.fz 1
        have f2 := T18.out.uv.fz 2
        have f3 := T18.out.uv.fz 3
        clear r18 b18 n18 kp18 D17 L17 M17 T17 O17 B17
        dsimp only
        iterate 12 (first | go_values | go_skip | go_guarded | go_step | go_upon | go_back | (simp only [Int.not_lt, Int.not_le] at *; go_simp) | (go_values <;> (try go_simp)))
        rw [hW19.out]
        clear u0 u1 u2 u3 f0 f1 f2 f3 hW19 D18 L18 M18 T18
        have hs5 := refSameU_any Y last _ _ W19 T19.out.kp.1 L19.out.kp.1
        unfold supv at hs5
        obtain ⟨b5, hb5⟩ : ∃ b, decide (Y = last) = b := ⟨_, rfl⟩
        rw [hb5, hyg.out, hyc.out, hyn.out, hlg.out, hlc.out, hln.out] at hs5
        have HB5 := hideP hb5
        have HS5 := hideP hs5
        have q0 := L19.out.uv.c0
        have q1 := L19.out.uv.c1
        have q2 := L19.out.uv.c2
        have q3 := L19.out.uv.c3
        have u0 := T19.out.uv.c0
        have u1 := T19.out.uv.c1
        have u2 := T19.out.uv.c2
        have u3 := T19.out.uv.c3
        rw [hlg.out] at q0
        rw [hlc.out] at q1
        rw [hln.out] at q2
        rw [hyg.out] at u0
        rw [hyc.out] at u1
        rw [hyn.out] at u2
        clear hs5 hb5
        go_wp2_with fail
        refine HS5.out.mono ?_
        clear HS5 q0 q1 q2 q3 u0 u1 u2 u3
        rintro e W20 ⟨rfl, b20⟩
        have D20 : Hid (Dc S12 w W20 d s4) := D19.out.below b20
        have L20 : Hid (Bx S12 w W20 lb last (.slice a ll c)) := L19.out.below b20
        have M20 : Hid (Bx S12 w W20 q m (.slice ma ml mc)) := M19.out.below b20
        have hD21 := D20.out.set (t := m) (u := .slice ma ml mc) L20.out
        have hL21 := L20.out.put M20.out.kp
        rw [hmg.out, hms.out, hmn.out] at hD21 hL21
        have D21 := hideP hD21
        have L21 := hideP hL21
        have HIV := hideP HSD.out.2.1
        have q0 := M20.out.uv.c0
        have q1 := M20.out.uv.c1
        have q2 := M20.out.uv.c2
        have q3 := M20.out.uv.c3
        have u0 := L20.out.uv.c0
        have u1 := L20.out.uv.c1
        have u2 := L20.out.uv.c2
        have u3 := L20.out.uv.c3
        rw [hmg.out] at q0
        rw [hms.out] at q1
        rw [hmn.out] at q2
        rw [hlg.out] at u0
        rw [hlc.out] at u1
        rw [hln.out] at u2
        have f0 := L20.out.uv.fz 0
        have f1 := L20.out.uv.fz 1
        have f2 := L20.out.uv.fz 2
        have f3 := L20.out.uv.fz 3
        clear b20 D19 L19 M19 T19 hD21 hL21
        by_cases hk1 : 0 < k
        · have hk3 : (0 : Int) < (k : Int) := by omega
          obtain ⟨rfl, rfl⟩ : ce = 0 ∧ b5 = true := ⟨by rw [← hce.out, HRO.out hk1]; rfl, by rw [← HB5.out]; exact decide_eq_true (by rw [← hY.out, HRO.out hk1]; rfl)⟩
          go_wp2_with fail
          exact ⟨⟨k + 1, S12, s4, m, ma, mc, by omega, by omega, by go_num, HIV, D21, by rw [hml.out]; exact L21⟩, by simp [intOf]; omega⟩
        · have hk3 : ¬ ((0 : Int) < (k : Int)) := by omega
          go_wp2_with fail
          exact ⟨⟨k + 1, S12, s4, m, ma, mc, by omega, by omega, by go_num, HIV, D21, by rw [hml.out]; exact L21⟩, by simp [intOf]; omega⟩
      · obtain ⟨rfl, rfl, rfl⟩ : cd = 0 ∧ bn = false ∧ bo = true := ⟨by rw [← hcd.out, hB]; rfl, by rw [← HBN.out]; exact decide_eq_false (fun e => by have e2 : last = m := by { rw [← e, ← hX.out, hB]; rfl }; have h1 := (HI.out.p hk1).2.1; rw [e2, HM.out.2.1] at h1; omega), by rw [← HBO.out]; exact decide_eq_true (by rw [← hX.out, hB]; rfl)⟩
        have hk3 : (0 : Int) < (k : Int) := by omega
        clear hB HLA
        have hsd := HI.out.saved HM.out HQ2.out HL2.out ps
        have hsv := save_anyU m (.slice ma ml mc) W10 D10.out.1 M10.out.kp.1 (fun i => by rw [HQ2.out.V i]; decide)
        unfold supv at hsv
        rw [hmg.out, hms.out, hmn.out, hsd.1] at hsv
        have HSV := hideP hsv
        have HSD := hideP hsd.2
        have HV3 : Hid (∀ i, ((svv s2 m).V i).length ≤ 1) := fun i => by
          unfold svv
          split
          · have h1 := fl_V_le (wrr s2 (m.gen % 2) (usec m)) i
            have h2 := wrr_Vh (m.gen % 2) (usec m) (s := s2) (k := 0) (fun i => by rw [HQ2.out.V i]; exact Nat.le_refl _) i
            omega
          · rw [HQ2.out.V i]; exact Nat.zero_le _
        have q0 := M10.out.uv.c0
        have q1 := M10.out.uv.c1
        have q2 := M10.out.uv.c2
        have q3 := M10.out.uv.c3
        rw [hmg.out] at q0
        rw [hms.out] at q1
        rw [hmn.out] at q2
        clear hsd hsv
        go_wp2_with fail
        refine HSV.out.mono ?_
        clear HSV q0 q1 q2 q3
        rintro e W11 ⟨rfl, hd11⟩
        obtain ⟨S11, hD11, ht11, hs11⟩ := D10.out.to hd11
        have D11 := hideP hD11
        have L11 : Hid (Bx S11 w W11 lb last (.slice a ll c)) := L10.out.dk ht11 hs11
        have M11 : Hid (Bx S11 w W11 q m (.slice ma ml mc)) := M10.out.dk ht11 hs11
        have T11 : Hid (Bx S11 w W11 tb X (.slice a7 xm k7)) := T10.out.dk ht11 hs11
        have HPW := hideP (power_any (.slice pa pl pc) ps W11 hD11.1 (HP.out W11 hD11.2.1) (HPN.out S11 hD11.2.2) (fun i => by have := HV3.out i; omega))
        clear hd11 hD11 ht11 hs11 D10 L10 M10 T10
        go_wp2_with fail
        refine HPW.out.mono ?_
        clear HPW
        rintro e W12 ⟨rfl, hd12⟩
        obtain ⟨S12, hD12, ht12, hs12⟩ := D11.out.to hd12
        have L12 : Hid (Bx S12 w W12 lb last (.slice a ll c)) := L11.out.dk ht12 hs12
        have M12 : Hid (Bx S12 w W12 q m (.slice ma ml mc)) := M11.out.dk ht12 hs12
        have T12 : Hid (Bx S12 w W12 tb X (.slice a7 xm k7)) := T11.out.dk ht12 hs12
        generalize (svv s2 m).pw ps = s4 at hD12 HSD
        have D12 := hideP hD12
        have hld := load_anyU W12 hD12.1
        rw [HSD.out.1] at hld
        have HLD := hideP hld
        clear hd12 hD12 ht12 hs12 hld D11 L11 M11 T11
        go_wp2_with fail
        refine HLD.out.mono ?_
        clear HLD
        intro e W13 hL
        obtain ⟨a13, k13, rfl, r13, b13, n13⟩ := loadR_some hL
        have kp13 : Kp S12 W13 (.slice a13 m.vs.length k13) m.vs := kp_new D12.out.1 b13 r13 n13
        have D13 : Hid (Dc S12 w W13 d s4) := D12.out.below b13
        have L13 : Hid (Bx S12 w W13 lb last (.slice a ll c)) := L12.out.below b13
        have M13 : Hid (Bx S12 w W13 q m (.slice ma ml mc)) := M12.out.below b13
        have T13 : Hid (Bx S12 w W13 tb X (.slice a7 xm k7)) := T12.out.below b13
        obtain ⟨W14, hW14⟩ : ∃ W14, Hid ((((W13.setCell ⟨tb, 0, none⟩ (.int .i64 m.gen)).setCell ⟨tb, 1, none⟩ (.int .i64 m.sc)).setCell ⟨tb, 2, none⟩ (.int .i64 m.nx)).setCell ⟨tb, 3, none⟩ (.slice a13 m.vs.length k13) = W14) := ⟨_, rfl⟩
        have D14 : Hid (Dc S12 w W14 d s4) := by rw [← hW14.out]; exact D13.out.set T13.out
        have L14 : Hid (Bx S12 w W14 lb last (.slice a ll c)) := by rw [← hW14.out]; exact L13.out.set T13.out.uv (by have := HLQ.out; have := HQT.out; omega)
        have M14 : Hid (Bx S12 w W14 q m (.slice ma ml mc)) := by rw [← hW14.out]; exact M13.out.set T13.out.uv (by have := HQT.out; omega)
        have T14 : Hid (Bx S12 w W14 tb m (.slice a13 m.vs.length k13)) := by rw [← hW14.out]; exact T13.out.put kp13
        rw [hmg.out, hms.out, hmn.out, hml.out] at hW14 ⊢
        rw [hml.out] at T14
        have u0 := T13.out.uv.c0
        have u1 := T13.out.uv.c1
        have u2 := T13.out.uv.c2
        have u3 := T13.out.uv.c3
        rw [hxg.out] at u0
        rw [hxc.out] at u1
        rw [hxn.out] at u2
        have f0 := T13.out.uv.fz 0
        have f1 := T13.out.uv.fz 1
        have f2 := T13.out.uv.fz 2
        have f3 := T13.out.uv.fz 3
        clear hL r13 b13 n13 kp13 D12 L12 M12 T12
        dsimp only
        iterate 12 (first | go_values | go_skip | go_guarded | go_step | go_upon | go_back | (simp only [Int.not_lt, Int.not_le] at *; go_simp) | (go_values <;> (try go_simp)))
        rw [hW14.out]
        clear u0 u1 u2 u3 f0 f1 f2 f3 hW14 D13 L13 M13 T13
        have hs3 := refSameU_any m m _ _ W14 T14.out.kp.1 M14.out.kp.1
        unfold supv at hs3
        rw [decide_eq_true (show m = m from rfl), hmg.out, hms.out, hmn.out] at hs3
        have HS3 := hideP hs3
        have q0 := M14.out.uv.c0
        have q1 := M14.out.uv.c1
        have q2 := M14.out.uv.c2
        have q3 := M14.out.uv.c3
        have u0 := T14.out.uv.c0
        have u1 := T14.out.uv.c1
        have u2 := T14.out.uv.c2
        have u3 := T14.out.uv.c3
        rw [hmg.out] at q0 u0
        rw [hms.out] at q1 u1
        rw [hmn.out] at q2 u2
        clear hs3
        go_wp2_with fail
        refine HS3.out.mono ?_
        clear HS3 q0 q1 q2 q3 u0 u1 u2 u3
        rintro e W15 ⟨rfl, b15⟩
        have D15 : Hid (Dc S12 w W15 d s4) := D14.out.below b15
        have L15 : Hid (Bx S12 w W15 lb last (.slice a ll c)) := L14.out.below b15
        have M15 : Hid (Bx S12 w W15 q m (.slice ma ml mc)) := M14.out.below b15
        have T15 : Hid (Bx S12 w W15 tb m (.slice a13 ml k13)) := T14.out.below b15
        have HCP := hideP (copy_any W15 D15.out.1 (fun i => by rw [HSD.out.2.1.q.V i]; decide))
        clear b15 D14 L14 M14 T14
        go_wp2_with fail
        refine HCP.out.mono ?_
        clear HCP
        rintro e W16 ⟨o6, So, rfl, hd16, b16, n16⟩
        have O16 : Hid (Dk So W16 o6 s4.cpy) := hd16
        have B16 : Hid (Below W15.heap.size W15 W16) := b16
        have N16 : Hid (∀ k, So k → W15.heap.size ≤ k) := n16
        have M16 : Hid (Bx S12 w W16 q m (.slice ma ml mc)) := M15.out.below b16
        have q0 := M16.out.uv.c0
        rw [hmg.out] at q0
        have O16d : Hid (Dk So W16.drew o6 s4.cpy) := hd16.tch (R := fun _ => False) (Tch.drew (Tch.refl _ W16)) (fun _ _ e => e)
        have B16d : Hid (Below W15.heap.size W15 W16.drew) := b16.trans ((Tch.drew (Tch.refl (fun _ => False) W16)).below b16.size (fun _ e => e.elim))
        have HWP : Hid (IntKind.i64.wrap (IntKind.i64.wrap (2048 * z) + (pp : Int)) = 2048 * z + (pp : Int)) := by
          have e1 : IntKind.i64.wrap (2048 * z) = 2048 * z := by rw [IntKind.wrap_i64]; omega
          show _ = _
          rw [e1, IntKind.wrap_i64]
          omega
        have HWF : Hid ((Lit.int .i64 (2048 * z + (pp : Int))).wf = true) := by
          show _ = _
          simp [Lit.wf, IntKind.min, IntKind.max, IntKind.signed, IntKind.bits]
          omega
        have HRO := hideP (HI.out.rots HM.out HSD.out.2.1.q HSD.out.2.2 hpk)
        rw [HZ.out] at HRO
        have hppi : (pp : Int) < 2048 := by omega
        obtain ⟨cr, hcr⟩ : ∃ cr, Hid (rco s4.cpy (2048 * z + (pp : Int)) = cr) := ⟨_, rfl⟩
        obtain ⟨s5, hs5⟩ : ∃ s5, Hid (rtt s4.cpy (2048 * z + (pp : Int)) = s5) := ⟨_, rfl⟩
        rw [hs5.out] at HRO
        clear hd16 b16 n16
        go_wp2_with fail
        go_region_held3 (fun w' => w'.cell? ⟨q, 0, none⟩ = some (.int .i64 mg)) (first | exact p0 | exact q0 | assumption)
          (first
            | (go_at_call 19; refine (HPK.out _).mono ?_; rintro e WP ⟨rfl, rfl⟩)
            | (go_at_call 28; rw [HWP.out]; refine (rot_all (2048 * z + (pp : Int)) _ O16d.out HWF.out).mono ?_; rintro e W17 ⟨rfl, hd17⟩; rw [hcr.out]; rw [hs5.out] at hd17; obtain ⟨S17, h17, t17, n17⟩ := hd17; have O17 : Hid (Dk S17 W17 o6 s5) := h17; have B17 : Hid (Below W15.heap.size W15 W17) := B16d.out.trans (t17.below B16d.out.size N16.out); clear h17 t17 n17; have M17 : Hid (Bx S12 w W17 q m (.slice ma ml mc)) := M15.out.below B17.out; have p0 := M17.out.uv.c0; rw [hmg.out] at p0))
        have D17 : Hid (Dc S12 w W17 d s4) := D15.out.below B17.out
        have L17 : Hid (Bx S12 w W17 lb last (.slice a ll c)) := L15.out.below B17.out
        have T17 : Hid (Bx S12 w W17 tb m (.slice a13 ml k13)) := T15.out.below B17.out
        have HLD := hideP (load_anyU W17 O17.out)
        clear D15 L15 M15 T15 O16 O16d B16 B16d N16 M16 HWF HWP hcr hs5 q0 p0
        go_wp2_with fail
        refine HLD.out.mono ?_
        clear HLD
        rintro e W18 ⟨a18, k18, rfl, r18, b18, n18⟩
        obtain ⟨o5, ho5⟩ : ∃ o, Hid (loadU s5 = o) := ⟨_, rfl⟩
        rw [ho5.out] at r18 n18 HRO ⊢
        obtain ⟨Y, hY⟩ : ∃ X, Hid (o5.getD sp0 = X) := ⟨_, rfl⟩
        rw [hY.out] at r18 n18 ⊢
        obtain ⟨ce, hce⟩ : ∃ cd : Int, Hid ((if o5.isSome = true then (0 : Int) else 7) = cd) := ⟨_, rfl⟩
        rw [hce.out]
        have kp18 : Kp S12 W18 (.slice a18 Y.vs.length k18) Y.vs := kp_new D17.out.1 b18 r18 n18
        have D18 : Hid (Dc S12 w W18 d s4) := D17.out.below b18
        have L18 : Hid (Bx S12 w W18 lb last (.slice a ll c)) := L17.out.below b18
        have M18 : Hid (Bx S12 w W18 q m (.slice ma ml mc)) := M17.out.below b18
        have T18 : Hid (Bx S12 w W18 tb m (.slice a13 ml k13)) := T17.out.below b18
        obtain ⟨W19, hW19⟩ : ∃ W19, Hid ((((W18.setCell ⟨tb, 0, none⟩ (.int .i64 Y.gen)).setCell ⟨tb, 1, none⟩ (.int .i64 Y.sc)).setCell ⟨tb, 2, none⟩ (.int .i64 Y.nx)).setCell ⟨tb, 3, none⟩ (.slice a18 Y.vs.length k18) = W19) := ⟨_, rfl⟩
        have D19 : Hid (Dc S12 w W19 d s4) := by rw [← hW19.out]; exact D18.out.set T18.out
        have L19 : Hid (Bx S12 w W19 lb last (.slice a ll c)) := by rw [← hW19.out]; exact L18.out.set T18.out.uv (by have := HLQ.out; have := HQT.out; omega)
        have M19 : Hid (Bx S12 w W19 q m (.slice ma ml mc)) := by rw [← hW19.out]; exact M18.out.set T18.out.uv (by have := HQT.out; omega)
        have T19 : Hid (Bx S12 w W19 tb Y (.slice a18 Y.vs.length k18)) := by rw [← hW19.out]; exact T18.out.put kp18
        unfold supv
        obtain ⟨ym, hym⟩ : ∃ m, Hid (Y.vs.length = m) := ⟨_, rfl⟩
        obtain ⟨yg, hyg⟩ : ∃ m, Hid (Y.gen = m) := ⟨_, rfl⟩
        obtain ⟨yc, hyc⟩ : ∃ m, Hid (Y.sc = m) := ⟨_, rfl⟩
        obtain ⟨yn, hyn⟩ : ∃ m, Hid (Y.nx = m) := ⟨_, rfl⟩
        rw [hyg.out, hyc.out, hyn.out, hym.out] at hW19 ⊢
        rw [hym.out] at T19
        have u0 := T18.out.uv.c0
        have u1 := T18.out.uv.c1
        have u2 := T18.out.uv.c2
        have u3 := T18.out.uv.c3
        rw [hmg.out] at u0
        rw [hms.out] at u1
        rw [hmn.out] at u2
        have f0 := T18.out.uv.fz 0
        have f1 := T18.out.uv.fz 1
        have f2 := T18.out.uv.fz 2
        have f3 := T18.out.uv.fz 3
        clear r18 b18 n18 kp18 D17 L17 M17 T17 O17 B17
        dsimp only
        iterate 12 (first | go_values | go_skip | go_guarded | go_step | go_upon | go_back | (simp only [Int.not_lt, Int.not_le] at *; go_simp) | (go_values <;> (try go_simp)))
        rw [hW19.out]
        clear u0 u1 u2 u3 f0 f1 f2 f3 hW19 D18 L18 M18 T18
        have hs5 := refSameU_any Y last _ _ W19 T19.out.kp.1 L19.out.kp.1
        unfold supv at hs5
        obtain ⟨b5, hb5⟩ : ∃ b, decide (Y = last) = b := ⟨_, rfl⟩
        rw [hb5, hyg.out, hyc.out, hyn.out, hlg.out, hlc.out, hln.out] at hs5
        have HB5 := hideP hb5
        have HS5 := hideP hs5
        have q0 := L19.out.uv.c0
        have q1 := L19.out.uv.c1
        have q2 := L19.out.uv.c2
        have q3 := L19.out.uv.c3
        have u0 := T19.out.uv.c0
        have u1 := T19.out.uv.c1
        have u2 := T19.out.uv.c2
        have u3 := T19.out.uv.c3
        rw [hlg.out] at q0
        rw [hlc.out] at q1
        rw [hln.out] at q2
        rw [hyg.out] at u0
        rw [hyc.out] at u1
        rw [hyn.out] at u2
        clear hs5 hb5
        go_wp2_with fail
        refine HS5.out.mono ?_
        clear HS5 q0 q1 q2 q3 u0 u1 u2 u3
        rintro e W20 ⟨rfl, b20⟩
        have D20 : Hid (Dc S12 w W20 d s4) := D19.out.below b20
        have L20 : Hid (Bx S12 w W20 lb last (.slice a ll c)) := L19.out.below b20
        have M20 : Hid (Bx S12 w W20 q m (.slice ma ml mc)) := M19.out.below b20
        have hD21 := D20.out.set (t := m) (u := .slice ma ml mc) L20.out
        have hL21 := L20.out.put M20.out.kp
        rw [hmg.out, hms.out, hmn.out] at hD21 hL21
        have D21 := hideP hD21
        have L21 := hideP hL21
        have HIV := hideP HSD.out.2.1
        have q0 := M20.out.uv.c0
        have q1 := M20.out.uv.c1
        have q2 := M20.out.uv.c2
        have q3 := M20.out.uv.c3
        have u0 := L20.out.uv.c0
        have u1 := L20.out.uv.c1
        have u2 := L20.out.uv.c2
        have u3 := L20.out.uv.c3
        rw [hmg.out] at q0
        rw [hms.out] at q1
        rw [hmn.out] at q2
        rw [hlg.out] at u0
        rw [hlc.out] at u1
        rw [hln.out] at u2
        have f0 := L20.out.uv.fz 0
        have f1 := L20.out.uv.fz 1
        have f2 := L20.out.uv.fz 2
        have f3 := L20.out.uv.fz 3
        clear b20 D19 L19 M19 T19 hD21 hL21
        obtain ⟨rfl, rfl⟩ : ce = 0 ∧ b5 = true := ⟨by rw [← hce.out, HRO.out hk1]; rfl, by rw [← HB5.out]; exact decide_eq_true (by rw [← hY.out, HRO.out hk1]; rfl)⟩
        go_wp2_with fail
        exact ⟨⟨k + 1, S12, s4, m, ma, mc, by omega, by omega, by go_num, HIV, D21, by rw [hml.out]; exact L21⟩, by simp [intOf]; omega⟩
      · obtain rfl : cd = 7 := by rw [← hcd.out, hC]; rfl
        have hk3 : ¬ ((0 : Int) < (k : Int)) := by omega
        clear hC HLA
        have hsd := HI.out.saved HM.out HQ2.out HL2.out ps
        have hsv := save_anyU m (.slice ma ml mc) W10 D10.out.1 M10.out.kp.1 (fun i => by rw [HQ2.out.V i]; decide)
        unfold supv at hsv
        rw [hmg.out, hms.out, hmn.out, hsd.1] at hsv
        have HSV := hideP hsv
        have HSD := hideP hsd.2
        have HV3 : Hid (∀ i, ((svv s2 m).V i).length ≤ 1) := fun i => by
          unfold svv
          split
          · have h1 := fl_V_le (wrr s2 (m.gen % 2) (usec m)) i
            have h2 := wrr_Vh (m.gen % 2) (usec m) (s := s2) (k := 0) (fun i => by rw [HQ2.out.V i]; exact Nat.le_refl _) i
            omega
          · rw [HQ2.out.V i]; exact Nat.zero_le _
        have q0 := M10.out.uv.c0
        have q1 := M10.out.uv.c1
        have q2 := M10.out.uv.c2
        have q3 := M10.out.uv.c3
        rw [hmg.out] at q0
        rw [hms.out] at q1
        rw [hmn.out] at q2
        clear hsd hsv
        go_wp2_with fail
        refine HSV.out.mono ?_
        clear HSV q0 q1 q2 q3
        rintro e W11 ⟨rfl, hd11⟩
        obtain ⟨S11, hD11, ht11, hs11⟩ := D10.out.to hd11
        have D11 := hideP hD11
        have L11 : Hid (Bx S11 w W11 lb last (.slice a ll c)) := L10.out.dk ht11 hs11
        have M11 : Hid (Bx S11 w W11 q m (.slice ma ml mc)) := M10.out.dk ht11 hs11
        have T11 : Hid (Bx S11 w W11 tb X (.slice a7 xm k7)) := T10.out.dk ht11 hs11
        have HPW := hideP (power_any (.slice pa pl pc) ps W11 hD11.1 (HP.out W11 hD11.2.1) (HPN.out S11 hD11.2.2) (fun i => by have := HV3.out i; omega))
        clear hd11 hD11 ht11 hs11 D10 L10 M10 T10
        go_wp2_with fail
        refine HPW.out.mono ?_
        clear HPW
        rintro e W12 ⟨rfl, hd12⟩
        obtain ⟨S12, hD12, ht12, hs12⟩ := D11.out.to hd12
        have L12 : Hid (Bx S12 w W12 lb last (.slice a ll c)) := L11.out.dk ht12 hs12
        have M12 : Hid (Bx S12 w W12 q m (.slice ma ml mc)) := M11.out.dk ht12 hs12
        have T12 : Hid (Bx S12 w W12 tb X (.slice a7 xm k7)) := T11.out.dk ht12 hs12
        generalize (svv s2 m).pw ps = s4 at hD12 HSD
        have D12 := hideP hD12
        have hld := load_anyU W12 hD12.1
        rw [HSD.out.1] at hld
        have HLD := hideP hld
        clear hd12 hD12 ht12 hs12 hld D11 L11 M11 T11
        go_wp2_with fail
        refine HLD.out.mono ?_
        clear HLD
        intro e W13 hL
        obtain ⟨a13, k13, rfl, r13, b13, n13⟩ := loadR_some hL
        have kp13 : Kp S12 W13 (.slice a13 m.vs.length k13) m.vs := kp_new D12.out.1 b13 r13 n13
        have D13 : Hid (Dc S12 w W13 d s4) := D12.out.below b13
        have L13 : Hid (Bx S12 w W13 lb last (.slice a ll c)) := L12.out.below b13
        have M13 : Hid (Bx S12 w W13 q m (.slice ma ml mc)) := M12.out.below b13
        have T13 : Hid (Bx S12 w W13 tb X (.slice a7 xm k7)) := T12.out.below b13
        obtain ⟨W14, hW14⟩ : ∃ W14, Hid ((((W13.setCell ⟨tb, 0, none⟩ (.int .i64 m.gen)).setCell ⟨tb, 1, none⟩ (.int .i64 m.sc)).setCell ⟨tb, 2, none⟩ (.int .i64 m.nx)).setCell ⟨tb, 3, none⟩ (.slice a13 m.vs.length k13) = W14) := ⟨_, rfl⟩
        have D14 : Hid (Dc S12 w W14 d s4) := by rw [← hW14.out]; exact D13.out.set T13.out
        have L14 : Hid (Bx S12 w W14 lb last (.slice a ll c)) := by rw [← hW14.out]; exact L13.out.set T13.out.uv (by have := HLQ.out; have := HQT.out; omega)
        have M14 : Hid (Bx S12 w W14 q m (.slice ma ml mc)) := by rw [← hW14.out]; exact M13.out.set T13.out.uv (by have := HQT.out; omega)
        have T14 : Hid (Bx S12 w W14 tb m (.slice a13 m.vs.length k13)) := by rw [← hW14.out]; exact T13.out.put kp13
        rw [hmg.out, hms.out, hmn.out, hml.out] at hW14 ⊢
        rw [hml.out] at T14
        have u0 := T13.out.uv.c0
        have u1 := T13.out.uv.c1
        have u2 := T13.out.uv.c2
        have u3 := T13.out.uv.c3
        rw [hxg.out] at u0
        rw [hxc.out] at u1
        rw [hxn.out] at u2
        have f0 := T13.out.uv.fz 0
        have f1 := T13.out.uv.fz 1
        have f2 := T13.out.uv.fz 2
        have f3 := T13.out.uv.fz 3
        clear hL r13 b13 n13 kp13 D12 L12 M12 T12
        dsimp only
        iterate 12 (first | go_values | go_skip | go_guarded | go_step | go_upon | go_back | (simp only [Int.not_lt, Int.not_le] at *; go_simp) | (go_values <;> (try go_simp)))
        rw [hW14.out]
        clear u0 u1 u2 u3 f0 f1 f2 f3 hW14 D13 L13 M13 T13
        have hs3 := refSameU_any m m _ _ W14 T14.out.kp.1 M14.out.kp.1
        unfold supv at hs3
        rw [decide_eq_true (show m = m from rfl), hmg.out, hms.out, hmn.out] at hs3
        have HS3 := hideP hs3
        have q0 := M14.out.uv.c0
        have q1 := M14.out.uv.c1
        have q2 := M14.out.uv.c2
        have q3 := M14.out.uv.c3
        have u0 := T14.out.uv.c0
        have u1 := T14.out.uv.c1
        have u2 := T14.out.uv.c2
        have u3 := T14.out.uv.c3
        rw [hmg.out] at q0 u0
        rw [hms.out] at q1 u1
        rw [hmn.out] at q2 u2
        clear hs3
        go_wp2_with fail
        refine HS3.out.mono ?_
        clear HS3 q0 q1 q2 q3 u0 u1 u2 u3
        rintro e W15 ⟨rfl, b15⟩
        have D15 : Hid (Dc S12 w W15 d s4) := D14.out.below b15
        have L15 : Hid (Bx S12 w W15 lb last (.slice a ll c)) := L14.out.below b15
        have M15 : Hid (Bx S12 w W15 q m (.slice ma ml mc)) := M14.out.below b15
        have T15 : Hid (Bx S12 w W15 tb m (.slice a13 ml k13)) := T14.out.below b15
        have HCP := hideP (copy_any W15 D15.out.1 (fun i => by rw [HSD.out.2.1.q.V i]; decide))
        clear b15 D14 L14 M14 T14
        go_wp2_with fail
        refine HCP.out.mono ?_
        clear HCP
        rintro e W16 ⟨o6, So, rfl, hd16, b16, n16⟩
        have O16 : Hid (Dk So W16 o6 s4.cpy) := hd16
        have B16 : Hid (Below W15.heap.size W15 W16) := b16
        have N16 : Hid (∀ k, So k → W15.heap.size ≤ k) := n16
        have M16 : Hid (Bx S12 w W16 q m (.slice ma ml mc)) := M15.out.below b16
        have q0 := M16.out.uv.c0
        rw [hmg.out] at q0
        have O16d : Hid (Dk So W16.drew o6 s4.cpy) := hd16.tch (R := fun _ => False) (Tch.drew (Tch.refl _ W16)) (fun _ _ e => e)
        have B16d : Hid (Below W15.heap.size W15 W16.drew) := b16.trans ((Tch.drew (Tch.refl (fun _ => False) W16)).below b16.size (fun _ e => e.elim))
        have HWP : Hid (IntKind.i64.wrap (IntKind.i64.wrap (2048 * z) + (pp : Int)) = 2048 * z + (pp : Int)) := by
          have e1 : IntKind.i64.wrap (2048 * z) = 2048 * z := by rw [IntKind.wrap_i64]; omega
          show _ = _
          rw [e1, IntKind.wrap_i64]
          omega
        have HWF : Hid ((Lit.int .i64 (2048 * z + (pp : Int))).wf = true) := by
          show _ = _
          simp [Lit.wf, IntKind.min, IntKind.max, IntKind.signed, IntKind.bits]
          omega
        have HRO := hideP (HI.out.rots HM.out HSD.out.2.1.q HSD.out.2.2 hpk)
        rw [HZ.out] at HRO
        have hppi : (pp : Int) < 2048 := by omega
        obtain ⟨cr, hcr⟩ : ∃ cr, Hid (rco s4.cpy (2048 * z + (pp : Int)) = cr) := ⟨_, rfl⟩
        obtain ⟨s5, hs5⟩ : ∃ s5, Hid (rtt s4.cpy (2048 * z + (pp : Int)) = s5) := ⟨_, rfl⟩
        rw [hs5.out] at HRO
        clear hd16 b16 n16
        go_wp2_with fail
        go_region_held3 (fun w' => w'.cell? ⟨q, 0, none⟩ = some (.int .i64 mg)) (first | exact p0 | exact q0 | assumption)
          (first
            | (go_at_call 19; refine (HPK.out _).mono ?_; rintro e WP ⟨rfl, rfl⟩)
            | (go_at_call 28; rw [HWP.out]; refine (rot_all (2048 * z + (pp : Int)) _ O16d.out HWF.out).mono ?_; rintro e W17 ⟨rfl, hd17⟩; rw [hcr.out]; rw [hs5.out] at hd17; obtain ⟨S17, h17, t17, n17⟩ := hd17; have O17 : Hid (Dk S17 W17 o6 s5) := h17; have B17 : Hid (Below W15.heap.size W15 W17) := B16d.out.trans (t17.below B16d.out.size N16.out); clear h17 t17 n17; have M17 : Hid (Bx S12 w W17 q m (.slice ma ml mc)) := M15.out.below B17.out; have p0 := M17.out.uv.c0; rw [hmg.out] at p0))
        have D17 : Hid (Dc S12 w W17 d s4) := D15.out.below B17.out
        have L17 : Hid (Bx S12 w W17 lb last (.slice a ll c)) := L15.out.below B17.out
        have T17 : Hid (Bx S12 w W17 tb m (.slice a13 ml k13)) := T15.out.below B17.out
        have HLD := hideP (load_anyU W17 O17.out)
        clear D15 L15 M15 T15 O16 O16d B16 B16d N16 M16 HWF HWP hcr hs5 q0 p0
        go_wp2_with fail
        refine HLD.out.mono ?_
        clear HLD
        rintro e W18 ⟨a18, k18, rfl, r18, b18, n18⟩
        obtain ⟨o5, ho5⟩ : ∃ o, Hid (loadU s5 = o) := ⟨_, rfl⟩
        rw [ho5.out] at r18 n18 HRO ⊢
        obtain ⟨Y, hY⟩ : ∃ X, Hid (o5.getD sp0 = X) := ⟨_, rfl⟩
        rw [hY.out] at r18 n18 ⊢
        obtain ⟨ce, hce⟩ : ∃ cd : Int, Hid ((if o5.isSome = true then (0 : Int) else 7) = cd) := ⟨_, rfl⟩
        rw [hce.out]
        have kp18 : Kp S12 W18 (.slice a18 Y.vs.length k18) Y.vs := kp_new D17.out.1 b18 r18 n18
        have D18 : Hid (Dc S12 w W18 d s4) := D17.out.below b18
        have L18 : Hid (Bx S12 w W18 lb last (.slice a ll c)) := L17.out.below b18
        have M18 : Hid (Bx S12 w W18 q m (.slice ma ml mc)) := M17.out.below b18
        have T18 : Hid (Bx S12 w W18 tb m (.slice a13 ml k13)) := T17.out.below b18
        obtain ⟨W19, hW19⟩ : ∃ W19, Hid ((((W18.setCell ⟨tb, 0, none⟩ (.int .i64 Y.gen)).setCell ⟨tb, 1, none⟩ (.int .i64 Y.sc)).setCell ⟨tb, 2, none⟩ (.int .i64 Y.nx)).setCell ⟨tb, 3, none⟩ (.slice a18 Y.vs.length k18) = W19) := ⟨_, rfl⟩
        have D19 : Hid (Dc S12 w W19 d s4) := by rw [← hW19.out]; exact D18.out.set T18.out
        have L19 : Hid (Bx S12 w W19 lb last (.slice a ll c)) := by rw [← hW19.out]; exact L18.out.set T18.out.uv (by have := HLQ.out; have := HQT.out; omega)
        have M19 : Hid (Bx S12 w W19 q m (.slice ma ml mc)) := by rw [← hW19.out]; exact M18.out.set T18.out.uv (by have := HQT.out; omega)
        have T19 : Hid (Bx S12 w W19 tb Y (.slice a18 Y.vs.length k18)) := by rw [← hW19.out]; exact T18.out.put kp18
        unfold supv
        obtain ⟨ym, hym⟩ : ∃ m, Hid (Y.vs.length = m) := ⟨_, rfl⟩
        obtain ⟨yg, hyg⟩ : ∃ m, Hid (Y.gen = m) := ⟨_, rfl⟩
        obtain ⟨yc, hyc⟩ : ∃ m, Hid (Y.sc = m) := ⟨_, rfl⟩
        obtain ⟨yn, hyn⟩ : ∃ m, Hid (Y.nx = m) := ⟨_, rfl⟩
        rw [hyg.out, hyc.out, hyn.out, hym.out] at hW19 ⊢
        rw [hym.out] at T19
        have u0 := T18.out.uv.c0
        have u1 := T18.out.uv.c1
        have u2 := T18.out.uv.c2
        have u3 := T18.out.uv.c3
        rw [hmg.out] at u0
        rw [hms.out] at u1
        rw [hmn.out] at u2
        have f0 := T18.out.uv.fz 0
        have f1 := T18.out.uv.fz 1
        have f2 := T18.out.uv.fz 2
        have f3 := T18.out.uv.fz 3
        clear r18 b18 n18 kp18 D17 L17 M17 T17 O17 B17
        dsimp only
        iterate 12 (first | go_values | go_skip | go_guarded | go_step | go_upon | go_back | (simp only [Int.not_lt, Int.not_le] at *; go_simp) | (go_values <;> (try go_simp)))
        rw [hW19.out]
        clear u0 u1 u2 u3 f0 f1 f2 f3 hW19 D18 L18 M18 T18
        have hs5 := refSameU_any Y last _ _ W19 T19.out.kp.1 L19.out.kp.1
        unfold supv at hs5
        obtain ⟨b5, hb5⟩ : ∃ b, decide (Y = last) = b := ⟨_, rfl⟩
        rw [hb5, hyg.out, hyc.out, hyn.out, hlg.out, hlc.out, hln.out] at hs5
        have HB5 := hideP hb5
        have HS5 := hideP hs5
        have q0 := L19.out.uv.c0
        have q1 := L19.out.uv.c1
        have q2 := L19.out.uv.c2
        have q3 := L19.out.uv.c3
        have u0 := T19.out.uv.c0
        have u1 := T19.out.uv.c1
        have u2 := T19.out.uv.c2
        have u3 := T19.out.uv.c3
        rw [hlg.out] at q0
        rw [hlc.out] at q1
        rw [hln.out] at q2
        rw [hyg.out] at u0
        rw [hyc.out] at u1
        rw [hyn.out] at u2
        clear hs5 hb5
        go_wp2_with fail
        refine HS5.out.mono ?_
        clear HS5 q0 q1 q2 q3 u0 u1 u2 u3
        rintro e W20 ⟨rfl, b20⟩
        have D20 : Hid (Dc S12 w W20 d s4) := D19.out.below b20
        have L20 : Hid (Bx S12 w W20 lb last (.slice a ll c)) := L19.out.below b20
        have M20 : Hid (Bx S12 w W20 q m (.slice ma ml mc)) := M19.out.below b20
        have hD21 := D20.out.set (t := m) (u := .slice ma ml mc) L20.out
        have hL21 := L20.out.put M20.out.kp
        rw [hmg.out, hms.out, hmn.out] at hD21 hL21
        have D21 := hideP hD21
        have L21 := hideP hL21
        have HIV := hideP HSD.out.2.1
        have q0 := M20.out.uv.c0
        have q1 := M20.out.uv.c1
        have q2 := M20.out.uv.c2
        have q3 := M20.out.uv.c3
        have u0 := L20.out.uv.c0
        have u1 := L20.out.uv.c1
        have u2 := L20.out.uv.c2
        have u3 := L20.out.uv.c3
        rw [hmg.out] at q0
        rw [hms.out] at q1
        rw [hmn.out] at q2
        rw [hlg.out] at u0
        rw [hlc.out] at u1
        rw [hln.out] at u2
        have f0 := L20.out.uv.fz 0
        have f1 := L20.out.uv.fz 1
        have f2 := L20.out.uv.fz 2
        have f3 := L20.out.uv.fz 3
        clear b20 D19 L19 M19 T19 hD21 hL21
        go_wp2_with fail
        exact ⟨⟨k + 1, S12, s4, m, ma, mc, by omega, by omega, by go_num, HIV, D21, by rw [hml.out]; exact L21⟩, by simp [intOf]; omega⟩
    · have HLN := hideP D.out.2.1
      clear D L HI
      by_cases h1 : k < t
      · have hki : (k : Int) < (t : Int) := by omega
        have hkj : ¬ (k : Int) < 200 := by omega
        clear hkt h1
        go_wp2_with fail
        refine (HLV.out _).mono ?_
        rintro e w8 ⟨rfl, hb8⟩
        have B8 : Hid (Below w.heap.size w w8) := HLN.out.trans (hb8.mono HLN.out.size)
        clear hb8
        go_wp2_with fail
        go_ret
        exact ⟨by first | rfl | simp, B8.out⟩
      · have hki : ¬ (k : Int) < (t : Int) := by omega
        clear hkt h1
        go_wp2_with fail
        refine (HLV.out _).mono ?_
        rintro e w8 ⟨rfl, hb8⟩
        have B8 : Hid (Below w.heap.size w w8) := HLN.out.trans (hb8.mono HLN.out.size)
        clear hb8
        go_wp2_with fail
        go_ret
        exact ⟨by first | rfl | simp, B8.out⟩
end Go.Proofs.Ytdicgaepggffbaa
