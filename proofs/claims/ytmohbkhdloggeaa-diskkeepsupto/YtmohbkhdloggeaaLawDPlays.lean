/-
  Whatever is asked of a disk is answered as the document says.
-/
import Derived.Test.YtmohbkhdloggeaaDDoes
import Derived.Test.YtmohbkhdloggeaaDWhole
namespace Go.Proofs.Ytmohbkhdloggeaa
open Go.RowKit Go.Maps
set_option linter.unusedVariables false
set_option linter.unusedSimpArgs false
set_option maxRecDepth 100000

theorem stp_V {s : DS} (x : Dd) (hV : ∀ i, s.L.length ≤ i → s.V i = []) {k : Nat} (h : ∀ i, (s.V i).length ≤ k) : ∀ i, ((stp s x).V i).length ≤ k + 1 := by
  intro i
  have hi := h i
  unfold stp
  split
  · unfold wrr
    split
    · omega
    · split
      · have := wr_V_le s x.at_.toNat (dby x) i; omega
      · omega
  · have := fl_V_le s i; omega
  · rw [pw_V s x.ps hV i]; simp
  · unfold rtt
    split
    · omega
    · unfold DS.rot vput
      dsimp only
      split
      · rename_i e; rw [List.length_map, ← e]; omega
      · omega
  · unfold ctt
    split
    · omega
    · show (s.V i).length ≤ _; omega
  · omega

/-- The deeds that were read can be read. -/
theorem RdD.ok {w : World} {v : Value} {xs : List Dd} (h : RdD w v xs) {k : Nat} (hk : k < xs.length) : DdOk xs[k] ∧ Rd .i64 w xs[k].pv xs[k].ps := by
  obtain ⟨a, cap, rfl, _⟩ := id h
  obtain ⟨b, o, _, hc⟩ := h.at_ (Below.refl _ _) hk
  exact ⟨hc.ok, hc.rd⟩

/-- Both are new. -/
theorem bt_new {w w1 w2 : World} {d r : Nat} {S R : Nat → Prop} {n : Nat} (hd : Dk S w1 d (DS.new n)) (hb1 : Below w.heap.size w w1) (hs : ∀ k, S k → w.heap.size ≤ k) (hr : Rf R w2 r (DS.new n)) (hb2 : Below w1.heap.size w1 w2) (hr2 : ∀ k, R k → w1.heap.size ≤ k) : Bt S R w w2 d r (DS.new n) (DS.new n) :=
  ⟨hd.below hb2, hr, fun k hk e => by have := hd.slt k hk; have := hr2 k e; omega, hb1.trans (hb2.mono hb1.size), hs, fun k hk => Nat.le_trans hb1.size (hr2 k hk)⟩

set_option maxHeartbeats 4000000 in
theorem diskPlays_walk (n : Int) (lv : Value) (xs : List Dd) (w : World) (hn : (Lit.int .i64 n).wf = true) (hr : RdD w lv xs) (hl : xs.length ≤ 1048576) :
    Calls Try.prog 3 #[.int .i64 n, lv] w fun e w' => e = .returned (.bool true) ∧ Below w.heap.size w w' := by
  have HR : Hid (RdD w lv xs) := hr
  obtain ⟨la, lcap, rfl, hl1, hl2, hl3⟩ := hr
  obtain ⟨t, ht⟩ : ∃ t, xs.length = t := ⟨_, rfl⟩
  have HT : Hid (xs.length = t) := ht
  have htl : t ≤ 1048576 := by omega
  rw [ht] at HR ⊢
  clear hl1 hl2 hl3 hn ht hl
  have HLV := hideP (fun w => lives_any w)
  by_cases h40 : n > 40
  · by_cases h4096 : n ≤ 4096
    · obtain ⟨m, rfl⟩ : ∃ m : Nat, n = (m : Int) := ⟨n.toNat, by omega⟩
      have HNEW := hideP (new_ok m w (by omega) (by omega))
      go_enter Try.func3, Try.ntmps3
      go_wp2_with fail
      refine HNEW.out.mono ?_
      clear HNEW
      rintro e w1 ⟨d, S1, rfl, hd1, hb1, hs1⟩
      have B1 : Hid (Below w.heap.size w w1) := hb1
      clear hd1 hb1 hs1
      go_wp2_with fail
      refine (HLV.out _).mono ?_
      rintro e w2 ⟨rfl, hb2⟩
      have B2 : Hid (Below w.heap.size w w2) := B1.out.trans (hb2.mono B1.out.size)
      clear hb2
      go_wp2_with fail
      go_ret
      exact ⟨by first | rfl | (simp; done) | (simp; omega), B2.out⟩
    · have HNEW := hideP (new_bad n w (by omega))
      go_enter Try.func3, Try.ntmps3
      go_wp2_with fail
      refine HNEW.out.mono ?_
      clear HNEW
      rintro e w ⟨rfl, rfl⟩
      go_wp2_with fail
      refine (HLV.out _).mono ?_
      rintro e w2 ⟨rfl, hb2⟩
      have B2 : Hid (Below w.heap.size w w2) := hb2
      clear hb2
      go_wp2_with fail
      go_ret
      exact ⟨by first | rfl | (simp; done) | (simp; omega), B2.out⟩
  · by_cases h1 : n < 1
    · have HNEW := hideP (new_bad n w (by omega))
      have HRN := hideP (refNew_bad n w (by omega))
      have ht0 : (0 : Int) ≤ (t : Int) := by omega
      go_enter Try.func3, Try.ntmps3
      go_wp2_with fail
      refine HNEW.out.mono ?_
      clear HNEW
      rintro e w ⟨rfl, rfl⟩
      go_wp2_with fail
      refine HRN.out.mono ?_
      clear HRN
      rintro e w ⟨rfl, rfl⟩
      go_wp2_with fail
      go_loopw [11] (fun iv wr => iv = .int .i64 0 ∧ wr = w) (fun _ _ => 0)
      case atStart => exact ⟨rfl, rfl⟩
      case round =>
        obtain ⟨rfl, rfl⟩ := hrel
        by_cases h0 : (0 : Int) < (t : Int)
        · go_wp2_with fail
          refine (HLV.out _).mono ?_
          rintro e w2 ⟨rfl, hb2⟩
          have B2 : Hid (Below wr.heap.size wr w2) := hb2
          clear hb2
          go_wp2_with fail
          go_ret
          exact ⟨by first | rfl | (simp; done) | (simp; omega), B2.out⟩
        · go_wp2_with fail
          refine (HLV.out _).mono ?_
          rintro e w2 ⟨rfl, hb2⟩
          have B2 : Hid (Below wr.heap.size wr w2) := hb2
          clear hb2
          go_wp2_with fail
          go_ret
          exact ⟨by first | rfl | (simp; done) | (simp; omega), B2.out⟩
    · obtain ⟨m, rfl⟩ : ∃ m : Nat, n = (m : Int) := ⟨n.toNat, by omega⟩
      have HNEW := hideP (new_ok m w (by omega) (by omega))
      have HRN := hideP (fun w => refNew_ok m w (by omega) (by omega))
      go_enter Try.func3, Try.ntmps3
      go_wp2_with fail
      refine HNEW.out.mono ?_
      clear HNEW
      rintro e w1 ⟨d, S1, rfl, hd1, hb1, hs1⟩
      have D1 : Hid (Dk S1 w1 d (DS.new m) ∧ Below w.heap.size w w1 ∧ ∀ k, S1 k → w.heap.size ≤ k) := ⟨hd1, hb1, hs1⟩
      clear hd1 hb1 hs1
      go_wp2_with fail
      refine (HRN.out _).mono ?_
      clear HRN
      rintro e w2 ⟨r, R1, rfl, hr2, hb2, hs2⟩
      have I0 : Hid (Bt S1 R1 w w2 d r (DS.new m) (DS.new m)) := bt_new D1.out.1 D1.out.2.1 D1.out.2.2 hr2 hb2 hs2
      clear hr2 hb2 hs2 D1
      go_wp2_with fail
      go_loopw [11] (fun iv wr => ∃ (k : Nat) (S R : Nat → Prop) (s : DS), k ≤ t ∧ iv = .int .i64 k ∧ Hid (Bt S R w wr d r s s) ∧ Hid (∀ i, (s.V i).length ≤ k)) (fun iv _ => t - (intOf iv).toNat)
      case atStart => exact ⟨0, S1, R1, _, Nat.zero_le _, rfl, I0, fun i => Nat.le_refl _⟩
      case round =>
        clear I0
        obtain ⟨k, S, R, s, hk, rfl, I, HV⟩ := hrel
        by_cases hkt : k < t
        · have hki : (k : Int) < (t : Int) := by omega
          have hk0 : (0 : Int) ≤ (k : Int) := by omega
          obtain ⟨xb, xo, rfl, DC⟩ := HR.out.at_ I.out.be (k := k) (by rw [HT.out]; exact hkt)
          obtain ⟨hxo, hxr⟩ := HR.out.ok (k := k) (by rw [HT.out]; exact hkt)
          obtain ⟨x, hx⟩ : ∃ x, xs[k]'(by rw [HT.out]; exact hkt) = x := ⟨_, rfl⟩
          rw [hx] at DC hxo hxr
          have HDO := hideP (does_any x hxo wr I.out hxr (fun i => by have := HV.out i; omega))
          have HV2 : Hid (∀ i, ((stp s x).V i).length ≤ k + 1) := stp_V x (Dk.out_V I.out.dk) HV.out
          generalize stp s x = s2 at HDO HV2
          obtain ⟨kind, at_, fill, last, short, pv, ps⟩ := x
          unfold ddv at HDO
          dsimp only at *
          obtain ⟨cc0, cc1, cc2, cc3, cc4, cc5, hok, hrd⟩ := DC
          dsimp only at *
          clear hx hok hrd hxo hxr I HV
          go_wp2_with fail
          refine HDO.out.mono ?_
          clear HDO cc0 cc1 cc2 cc3 cc4 cc5
          rintro e w3 ⟨rfl, S3, R3, h3⟩
          have I3 : Hid (Bt S3 R3 w w3 d r s2 s2) := h3
          clear h3
          have HDY := hideP (dirty_any w3 I3.out.dk)
          go_wp2_with fail
          refine HDY.out.mono ?_
          clear HDY
          rintro e w4 ⟨dv, rfl, ho4, hb4, hf4⟩
          have I4 : Hid (Bt S3 R3 w w4 d r s2 s2) := I3.out.below hb4
          have O4 : Hid (Rd .i64 w4 dv (s2.dirty.map Int.ofNat)) := ho4.rd
          have HDZ := hideP (refDirty_any w4 I4.out.rf (fun i => by have := HV2.out i; omega))
          clear ho4 hb4 hf4 I3
          go_wp2_with fail
          refine HDZ.out.mono ?_
          clear HDZ
          rintro e w5 ⟨ev, rfl, ho5, hb5, hf5⟩
          have I5 : Hid (Bt S3 R3 w w5 d r s2 s2) := I4.out.below hb5
          have HNM := hideP (numbers_any dv ev _ w5 (O4.out.below hb5) ho5.rd)
          clear ho5 hb5 hf5 I4 O4
          go_wp2_with fail
          refine HNM.out.mono ?_
          clear HNM
          rintro e w6 ⟨rfl, hb6⟩
          have I6 : Hid (Bt S3 R3 w w6 d r s2 s2) := I5.out.below hb6
          clear hb6 I5
          go_wp2_with fail
          go_roundw
          case rel => exact ⟨k + 1, S3, R3, s2, by omega, by go_num, I6, HV2⟩
          case measure => simp [intOf]; omega
        · have hki : ¬ (k : Int) < (t : Int) := by omega
          have HWH := hideP (whole_any wr I.out)
          clear hkt HV I
          go_wp2_with fail
          refine HWH.out.mono ?_
          clear HWH
          rintro e w7 ⟨rfl, h7⟩
          have B7 : Hid (Below w.heap.size w w7) := h7.be
          clear h7
          go_wp2_with fail
          refine (HLV.out _).mono ?_
          rintro e w8 ⟨rfl, hb8⟩
          have B8 : Hid (Below w.heap.size w w8) := B7.out.trans (hb8.mono B7.out.size)
          clear hb8
          go_wp2_with fail
          go_ret
          exact ⟨by first | rfl | simp, B8.out⟩
end Go.Proofs.Ytmohbkhdloggeaa
