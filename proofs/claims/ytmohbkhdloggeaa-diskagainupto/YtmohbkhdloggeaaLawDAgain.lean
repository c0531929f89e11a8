/-
  A second loss of power takes nothing.
-/
import Derived.Test.YtmohbkhdloggeaaDElse
import Derived.Test.YtmohbkhdloggeaaDCopy
namespace Go.Proofs.Ytmohbkhdloggeaa
open Go.RowKit Go.Maps
set_option linter.unusedVariables false
set_option linter.unusedSimpArgs false
set_option maxRecDepth 100000

theorem pw_idle {s : DS} (hV : ∀ i, s.V i = []) (ps : List Int) : s.pw ps = { s with c := false, l := 0 } := by
  have hd : s.dirty = [] := by
    unfold DS.dirty
    rw [List.filter_eq_nil_iff]
    intro i _
    simp [hV i]
  unfold DS.pw
  rw [hd]
  rfl

set_option maxHeartbeats 4000000 in
theorem diskAgain_walk (lv : Value) (xs : List Dd) (pv av : Value) (ps qs : List Int) (w : World) (hr : RdD w lv xs) (hl : xs.length ≤ 1048576) (hp : Rd .i64 w pv ps) (ha : Rd .i64 w av qs) :
    Calls Try.prog 8 #[lv, pv, av] w fun e w' => e = .returned (.bool true) ∧ Below w.heap.size w w' := by
  have HR : Hid (RdD w lv xs) := hr
  have HP : Hid (Rd .i64 w pv ps) := hp
  have HA : Hid (Rd .i64 w av qs) := ha
  have HPN : Hid (∀ (v : Value) (zs : List Int), Rd .i64 w v zs → ∀ (T : Nat → Prop), (∀ k, T k → w.heap.size ≤ k) → ∀ k, v.ownBlock = some k → zs ≠ [] → ¬ T k) := fun v zs h T hT k hk h0 e => by
    have := h.blk h0 k hk
    have := hT k e
    omega
  obtain ⟨la, lcap, rfl, hl1, hl2, hl3⟩ := hr
  obtain ⟨t, ht⟩ : ∃ t, xs.length = t := ⟨_, rfl⟩
  have HT : Hid (xs.length = t) := ht
  have htl : t ≤ 1048576 := by omega
  rw [ht] at HR ⊢
  clear hl1 hl2 hl3 ht hl hp ha
  have HLV := hideP (fun w => lives_any w)
  have HNEW := hideP (new_ok 12 w (by decide) (by decide))
  have HRN := hideP (fun w => refNew_ok 12 w (by decide) (by decide))
  go_enter Try.func8, Try.ntmps8
  go_wp2_with fail
  refine HNEW.out.mono ?_
  clear HNEW
  rintro e w1 ⟨d, S1, rfl, hd1, hb1, hs1⟩
  have D1 : Hid (Dk S1 w1 d (DS.new 12) ∧ Below w.heap.size w w1 ∧ ∀ k, S1 k → w.heap.size ≤ k) := ⟨hd1, hb1, hs1⟩
  clear hd1 hb1 hs1
  go_wp2_with fail
  refine (HRN.out _).mono ?_
  clear HRN
  rintro e w2 ⟨r, R1, rfl, hr2, hb2, hs2⟩
  have I0 : Hid (Bt S1 R1 w w2 d r (DS.new 12) (DS.new 12)) := bt_new D1.out.1 D1.out.2.1 D1.out.2.2 hr2 hb2 hs2
  clear hr2 hb2 hs2 D1
  go_wp2_with fail
  go_loopw [11] (fun iv wr => ∃ (k : Nat) (S R : Nat → Prop) (s : DS), k ≤ t ∧ iv = .int .i64 k ∧ Hid (Bt S R w wr d r s s) ∧ Hid (∀ i, (s.V i).length ≤ k) ∧ Hid (s.L.length = 12)) (fun iv _ => t - (intOf iv).toNat)
  case atStart => exact ⟨0, S1, R1, _, Nat.zero_le _, rfl, I0, fun i => Nat.le_refl _, by simp [DS.new, Hid]⟩
  case round =>
    clear I0
    obtain ⟨k, S, R, s, hk, rfl, I, HV, HL⟩ := hrel
    by_cases hkt : k < t
    · have hki : (k : Int) < (t : Int) := by omega
      have hk0 : (0 : Int) ≤ (k : Int) := by omega
      obtain ⟨xb, xo, rfl, DC⟩ := HR.out.at_ I.out.be (k := k) (by rw [HT.out]; exact hkt)
      obtain ⟨hxo, hxr⟩ := HR.out.ok (k := k) (by rw [HT.out]; exact hkt)
      obtain ⟨x, hx⟩ : ∃ x, xs[k]'(by rw [HT.out]; exact hkt) = x := ⟨_, rfl⟩
      rw [hx] at DC hxo hxr
      have HDO := hideP (does_any x hxo wr I.out hxr (fun i => by have := HV.out i; omega))
      have HV2 : Hid (∀ i, ((stp s x).V i).length ≤ k + 1) := stp_V x (Dk.out_V I.out.dk) HV.out
      have HL2 : Hid ((stp s x).L.length = 12) := by rw [stp_L]; exact HL.out
      generalize stp s x = s2 at HDO HV2 HL2
      obtain ⟨kind, at_, fill, last, short, pv, ps⟩ := x
      unfold ddv at HDO
      dsimp only at *
      obtain ⟨cc0, cc1, cc2, cc3, cc4, cc5, hok, hrd⟩ := DC
      dsimp only at *
      clear hx hok hrd hxo hxr I HV HL
      go_wp2_with fail
      refine HDO.out.mono ?_
      clear HDO cc0 cc1 cc2 cc3 cc4 cc5
      rintro e w3 ⟨rfl, S3, R3, h3⟩
      have I3 : Hid (Bt S3 R3 w w3 d r s2 s2) := h3
      clear h3
      go_wp2_with fail
      go_roundw
      case rel => exact ⟨k + 1, S3, R3, s2, by omega, by go_num, I3, HV2, HL2⟩
      case measure => simp [intOf]; omega
    · have hki : ¬ (k : Int) < (t : Int) := by omega
      have D2 : Hid (Dc S w wr d s) := ⟨I.out.dk, I.out.be, I.out.s0⟩
      have HPO := hideP (power_any pv ps wr D2.out.1 (HP.out.below D2.out.2.1) (HPN.out pv ps HP.out S D2.out.2.2) (fun i => by have := HV.out i; omega))
      have HV3 : Hid (∀ i, (s.pw ps).V i = []) := fun i => pw_V s ps (Dk.out_V D2.out.1) i
      have HL3 : Hid ((s.pw ps).L.length = 12) := by rw [pw_len]; exact HL.out
      clear hkt HV I hk HL
      go_wp2_with fail
      refine HPO.out.mono ?_
      clear HPO
      rintro e w3 ⟨rfl, hd3⟩
      obtain ⟨S3, hD3, _, _⟩ := D2.out.to hd3
      have D3 : Hid (Dc S3 w w3 d (s.pw ps)) := hD3
      clear hd3 hD3 D2
      generalize s.pw ps = s3 at *
      have HCP := hideP (copy_any w3 D3.out.1 (fun i => by rw [HV3.out i]; exact Nat.zero_le _))
      go_wp2_with fail
      refine HCP.out.mono ?_
      clear HCP
      rintro e w4 ⟨o, So, rfl, hd4, hb4, hs4⟩
      have D4 : Hid (Dc S3 w w4 d s3) := D3.out.below hb4
      have C4 : Hid (Dk So w4 o s3.cpy) := hd4
      have AP : Hid (∀ k, So k → ¬ S3 k) := fun k hk e => by have := D3.out.1.slt k e; have := hs4 k hk; omega
      clear hd4 hb4 hs4 D3
      have HPO := hideP (power_any av qs w4 D4.out.1 (HA.out.below D4.out.2.1) (HPN.out av qs HA.out S3 D4.out.2.2) (fun i => by rw [HV3.out i]; decide))
      go_wp2_with fail
      refine HPO.out.mono ?_
      clear HPO
      rintro e w5 ⟨rfl, hd5⟩
      obtain ⟨S5, hD5, ht5, _⟩ := D4.out.to hd5
      rw [pw_idle HV3.out] at hD5
      have I5 : Hid (Dc S5 w w5 d { s3 with c := false, l := 0 } ∧ Dk So w5 o s3.cpy) := ⟨hD5, C4.out.tch ht5 AP.out⟩
      clear hd5 hD5 ht5 D4 C4
      go_wp2_with fail
      go_loopw [13] (fun iv wr => ∃ k : Nat, k ≤ 12 ∧ iv = .int .i64 k ∧ Hid (Dc S5 w wr d { s3 with c := false, l := 0 } ∧ Dk So wr o s3.cpy)) (fun iv _ => 12 - (intOf iv).toNat)
      case atStart => exact ⟨0, Nat.zero_le _, rfl, I5⟩
      case round =>
        clear I5
        obtain ⟨j, hj, rfl, J⟩ := hrel
        by_cases hj12 : j < 12
        · have hji : (j : Int) < 12 := by omega
          have H1 := hideP (read_ok j wr J.out.2 (by show j < s3.L.length; rw [HL3.out]; exact hj12))
          go_wp2_with fail
          refine H1.out.mono ?_
          clear H1
          rintro e w6 ⟨v6, rfl, ha6, hb6, hf6⟩
          have J6 : Hid (Dc S5 w w6 d { s3 with c := false, l := 0 } ∧ Dk So w6 o s3.cpy) := ⟨J.out.1.below hb6, J.out.2.below hb6⟩
          have A6 : Hid (Rd .u8 w6 v6 (s3.has j)) := ha6.rd
          have H2 := hideP (read_ok j w6 J6.out.1.1 (by show j < s3.L.length; rw [HL3.out]; exact hj12))
          clear ha6 hb6 hf6 J
          go_wp2_with fail
          refine H2.out.mono ?_
          clear H2
          rintro e w7 ⟨v7, rfl, ha7, hb7, hf7⟩
          have J7 : Hid (Dc S5 w w7 d { s3 with c := false, l := 0 } ∧ Dk So w7 o s3.cpy) := ⟨J6.out.1.below hb7, J6.out.2.below hb7⟩
          have HSM := hideP (same_all v6 v7 (s3.has j) w7 (A6.out.below hb7) ha7.rd)
          clear ha7 hb7 hf7 J6 A6
          go_wp2_with fail
          refine HSM.out.mono ?_
          clear HSM
          rintro e w8 ⟨rfl, hb8⟩
          have J8 : Hid (Dc S5 w w8 d { s3 with c := false, l := 0 } ∧ Dk So w8 o s3.cpy) := ⟨J7.out.1.below hb8, J7.out.2.below hb8⟩
          clear hb8 J7
          go_wp2_with fail
          all_goals exact ⟨⟨j + 1, by omega, by go_num, J8⟩, by simp [intOf]; omega⟩
        · have hji : ¬ (j : Int) < 12 := by omega
          have B7 : Hid (Below w.heap.size w wr) := J.out.1.2.1
          clear J hj hj12
          go_wp2_with fail
          refine (HLV.out _).mono ?_
          rintro e w8 ⟨rfl, hb8⟩
          have B8 : Hid (Below w.heap.size w w8) := B7.out.trans (hb8.mono B7.out.size)
          clear hb8
          go_wp2_with fail
          go_ret
          exact ⟨by first | rfl | simp, B8.out⟩
end Go.Proofs.Ytmohbkhdloggeaa
