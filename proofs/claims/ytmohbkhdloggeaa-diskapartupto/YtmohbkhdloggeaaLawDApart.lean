/-
  A copy is another disk.
-/
import Derived.Test.YtmohbkhdloggeaaDElse
import Derived.Test.YtmohbkhdloggeaaDCopy
import Derived.Test.YtmohbkhdloggeaaDAlone
namespace Go.Proofs.Ytmohbkhdloggeaa
open Go.RowKit Go.Maps
set_option linter.unusedVariables false
set_option linter.unusedSimpArgs false
set_option maxRecDepth 100000

/-- Behind the first k deeds. -/
def sts (xs : List Dd) : Nat → DS
  | 0 => DS.new 12
  | k + 1 => stp (sts xs k) (xs[k]?.getD ⟨0, 0, 0, 0, false, .slice none 0 0, []⟩)
theorem sts_succ {xs : List Dd} {k : Nat} (hk : k < xs.length) : sts xs (k + 1) = stp (sts xs k) xs[k] := by
  rw [sts, List.getElem?_eq_getElem hk]
  rfl

set_option maxHeartbeats 8000000 in
theorem diskApart_walk (lv mv : Value) (xs zs : List Dd) (w : World) (hr : RdD w lv xs) (hl : xs.length ≤ 1048576) (hr2 : RdD w mv zs) (hl2 : zs.length ≤ 1048576) :
    Calls Try.prog 5 #[lv, mv] w fun e w' => e = .returned (.bool true) ∧ Below w.heap.size w w' := by
  have HR : Hid (RdD w lv xs) := hr
  have HZ : Hid (RdD w mv zs) := hr2
  obtain ⟨la, lcap, rfl, _, _, _⟩ := hr
  obtain ⟨ma, mcap, rfl, _, _, _⟩ := hr2
  obtain ⟨t, ht⟩ : ∃ t, xs.length = t := ⟨_, rfl⟩
  obtain ⟨u, hu⟩ : ∃ u, zs.length = u := ⟨_, rfl⟩
  have HT : Hid (xs.length = t) := ht
  have HU : Hid (zs.length = u) := hu
  have htl : t ≤ 1048576 := by omega
  have hul : u ≤ 1048576 := by omega
  rw [ht] at HR ⊢
  rw [hu] at HZ ⊢
  clear ht hu hl hl2
  have HLV := hideP (fun w => lives_any w)
  have HNEW := hideP (new_ok 12 w (by decide) (by decide))
  have HRN := hideP (fun w => refNew_ok 12 w (by decide) (by decide))
  go_enter Try.func5, Try.ntmps5
  go_wp2_with fail
  refine HNEW.out.mono ?_
  clear HNEW
  rintro e w1 ⟨d, S1, rfl, hd1, hb1, hs1⟩
  have D1 : Hid (Dk S1 w1 d (DS.new 12) ∧ Below w.heap.size w w1 ∧ ∀ k, S1 k → w.heap.size ≤ k) := ⟨hd1, hb1, hs1⟩
  clear hd1 hb1 hs1
  go_wp2_with fail
  refine (HRN.out _).mono ?_
  rintro e w2 ⟨r, R1, rfl, hr2, hb2, hs2⟩
  have I0 : Hid (Bt S1 R1 w w2 d r (DS.new 12) (DS.new 12)) := bt_new D1.out.1 D1.out.2.1 D1.out.2.2 hr2 hb2 hs2
  clear hr2 hb2 hs2 D1
  go_wp2_with fail
  go_loopw [9] (fun iv wr => ∃ (k : Nat) (S R : Nat → Prop), k ≤ t ∧ iv = .int .i64 k ∧ Hid (Bt S R w wr d r (sts xs k) (sts xs k)) ∧ Hid (∀ j, j ≤ k → ∀ i, ((sts xs j).V i).length ≤ j)) (fun iv _ => t - (intOf iv).toNat)
  case atStart => exact ⟨0, S1, R1, Nat.zero_le _, rfl, I0, fun j hj i => by have e : j = 0 := (by omega); subst e; exact Nat.le_refl _⟩
  case round =>
    clear I0
    obtain ⟨k, S, R, hk, rfl, I, HV⟩ := hrel
    by_cases hkt : k < t
    · have hki : (k : Int) < (t : Int) := by omega
      have hk0 : (0 : Int) ≤ (k : Int) := by omega
      obtain ⟨xb, xo, rfl, DC⟩ := HR.out.at_ I.out.be (k := k) (by rw [HT.out]; exact hkt)
      obtain ⟨hxo, hxr⟩ := HR.out.ok (k := k) (by rw [HT.out]; exact hkt)
      have hss := sts_succ (xs := xs) (k := k) (by rw [HT.out]; exact hkt)
      obtain ⟨x, hx⟩ : ∃ x, xs[k]'(by rw [HT.out]; exact hkt) = x := ⟨_, rfl⟩
      rw [hx] at DC hxo hxr hss
      have HDO := hideP (does_any x hxo wr I.out hxr (fun i => by have := HV.out k (Nat.le_refl _) i; omega))
      have HV2 : Hid (∀ j, j ≤ k + 1 → ∀ i, ((sts xs j).V i).length ≤ j) := fun j hj i => by
        by_cases e : j = k + 1
        · subst e
          rw [hss]
          exact stp_V x (Dk.out_V I.out.dk) (HV.out k (Nat.le_refl _)) i
        · exact HV.out j (by omega) i
      rw [← hss] at HDO
      obtain ⟨kind, at_, fill, last, short, pv, ps⟩ := x
      unfold ddv at HDO
      dsimp only at *
      obtain ⟨cc0, cc1, cc2, cc3, cc4, cc5, hok, hrd⟩ := DC
      dsimp only at *
      clear hx hok hrd hxo hxr I HV hss
      go_wp2_with fail
      refine HDO.out.mono ?_
      clear HDO cc0 cc1 cc2 cc3 cc4 cc5
      rintro e w3 ⟨rfl, S3, R3, h3⟩
      have I3 : Hid (Bt S3 R3 w w3 d r (sts xs (k + 1)) (sts xs (k + 1))) := h3
      clear h3
      go_wp2_with fail
      all_goals exact ⟨⟨k + 1, S3, R3, by omega, by go_num, I3, HV2⟩, by simp [intOf]; omega⟩
    · have hki : ¬ (k : Int) < (t : Int) := by omega
      obtain rfl : k = t := by omega
      have HCP := hideP (copy_any wr I.out.dk (fun i => by have := HV.out k (Nat.le_refl _) i; omega))
      clear hkt hk
      go_wp2_with fail
      refine HCP.out.mono ?_
      clear HCP
      rintro e w4 ⟨o, So, rfl, hd4, hb4, hs4⟩
      have C4 : Hid (Dk So w4 o (sts xs k).cpy ∧ Below wr.heap.size wr w4 ∧ ∀ j, So j → wr.heap.size ≤ j) := ⟨hd4, hb4, hs4⟩
      clear hd4 hb4 hs4
      go_wp2_with fail
      refine (HRN.out _).mono ?_
      clear HRN
      rintro e w5 ⟨r5, R5, rfl, hr5, hb5, hs5⟩
      have I5 : Hid (Bt So R5 wr w5 o r5 (sts xs k).cpy (sts xs 0)) := ⟨C4.out.1.below hb5, hr5, fun j hj e => by have := C4.out.1.slt j hj; have := hs5 j e; omega, C4.out.2.1.trans (hb5.mono C4.out.2.1.size), C4.out.2.2, fun j hj => Nat.le_trans C4.out.2.1.size (hs5 j hj)⟩
      clear hr5 hb5 hs5 C4
      obtain ⟨W3, hW3⟩ : ∃ W3, wr = W3 := ⟨_, rfl⟩
      rw [hW3] at I I5
      have BW3 : Hid (Below w.heap.size w W3) := I.out.be
      clear hW3
      go_wp2_with fail
      go_loopw [14] (fun iv wr => ∃ (j : Nat) (R : Nat → Prop), j ≤ k ∧ iv = .int .i64 j ∧ Hid (Bt So R W3 wr o r5 (sts xs k).cpy (sts xs j))) (fun iv _ => k - (intOf iv).toNat)
      case atStart => exact ⟨0, R5, Nat.zero_le _, rfl, I5⟩
      case round =>
        clear I5
        obtain ⟨j, R6, hj, rfl, J⟩ := hrel
        by_cases hjk : j < k
        · have hji : (j : Int) < (k : Int) := by omega
          have hj0 : (0 : Int) ≤ (j : Int) := by omega
          obtain ⟨xb, xo, rfl, DC⟩ := HR.out.at_ (BW3.out.trans (J.out.be.mono BW3.out.size)) (k := j) (by rw [HT.out]; exact hjk)
          obtain ⟨hxo, hxr⟩ := HR.out.ok (k := j) (by rw [HT.out]; exact hjk)
          have hss := sts_succ (xs := xs) (k := j) (by rw [HT.out]; exact hjk)
          obtain ⟨x, hx⟩ : ∃ x, xs[j]'(by rw [HT.out]; exact hjk) = x := ⟨_, rfl⟩
          rw [hx] at DC hxo hxr hss
          have HDO := hideP (alone_any x hxo wr J.out (hxr.below BW3.out) (fun i => by have := HV.out j (by omega) i; omega))
          rw [← hss] at HDO
          obtain ⟨kind, at_, fill, last, short, pv, ps⟩ := x
          unfold ddv at HDO
          dsimp only at *
          obtain ⟨cc0, cc1, cc2, cc3, cc4, cc5, hok, hrd⟩ := DC
          dsimp only at *
          clear hx hok hrd hxo hxr J hss
          go_wp2_with fail
          refine HDO.out.mono ?_
          clear HDO cc0 cc1 cc2 cc3 cc4 cc5
          rintro e w6 ⟨rfl, R7, h6⟩
          have J6 : Hid (Bt So R7 W3 w6 o r5 (sts xs k).cpy (sts xs (j + 1))) := h6
          clear h6
          go_wp2_with fail
          go_roundw
          case rel => exact ⟨j + 1, R7, by omega, by go_num, J6⟩
          case measure => simp [intOf]; omega
        · have hji : ¬ (j : Int) < (k : Int) := by omega
          obtain rfl : j = k := by omega
          obtain ⟨lb, cp, A, B, y, W, hf⟩ := J.out.rf
          have f1 := hf.fz 1
          have c1 := hf.c1
          have J7 : Hid (Bt So R6 W3 (wr.setCell ⟨r5, 1, none⟩ (.bool false)) o r5 (sts xs j).cpy (sts xs j).cpy) := by
            have ht := tch_set wr r5 1 (.bool false)
            have h1 : RfTo R6 wr (wr.setCell ⟨r5, 1, none⟩ (.bool false)) r5 (sts xs j).cpy := by
              refine ⟨R6, ⟨lb, cp, A, B, y, W, ?_⟩, ht.mono (fun k _ e => by rw [e]; exact hf.rr), fun k hk => .inl hk⟩
              refine hf.cut false 0 y (by decide) (fun e => by cases e) hf.xlo hf.xhi ht ?_
              rw [heap_setCell_same wr r5 1 _ _ (.bool false) hf.box]
              rfl
            have h2 := hf.rr
            exact ⟨J.out.dk.tch ht (fun k hk e => J.out.ap k hk (by rw [e]; exact h2)), by
              obtain ⟨R7, ⟨lb7, cp7, A7, B7, y7, W7, h7⟩, _⟩ := h1
              refine ⟨lb, cp, A, B, y, W, ?_⟩
              refine hf.cut false 0 y (by decide) (fun e => by cases e) hf.xlo hf.xhi ht ?_
              rw [heap_setCell_same wr r5 1 _ _ (.bool false) hf.box]
              rfl, J.out.ap, J.out.be.trans (ht.below J.out.be.size (fun k e => by rw [e]; exact J.out.r0 _ h2)), J.out.s0, J.out.r0⟩
          have HV7 : Hid (∀ i, ((sts xs j).cpy.V i).length ≤ j) := HV.out j (Nat.le_refl _)
          clear hf J hj hjk
          go_wp2_with fail
          go_loopw [15] (fun iv wr => ∃ (i : Nat) (S R : Nat → Prop) (s : DS), i ≤ u ∧ iv = .int .i64 i ∧ Hid (Bt S R W3 wr o r5 s s) ∧ Hid (∀ z, (s.V z).length ≤ j + i)) (fun iv _ => u - (intOf iv).toNat)
          case atStart => exact ⟨0, So, R6, _, Nat.zero_le _, rfl, J7, HV7⟩
          case round =>
            clear J7 HV7
            obtain ⟨i, S8, R8, s8, hi, rfl, L, HV8⟩ := hrel
            by_cases hiu : i < u
            · have hii : (i : Int) < (u : Int) := by omega
              have hi0 : (0 : Int) ≤ (i : Int) := by omega
              obtain ⟨xb, xo, rfl, DC⟩ := HZ.out.at_ (BW3.out.trans (L.out.be.mono BW3.out.size)) (k := i) (by rw [HU.out]; exact hiu)
              obtain ⟨hxo, hxr⟩ := HZ.out.ok (k := i) (by rw [HU.out]; exact hiu)
              obtain ⟨x, hx⟩ : ∃ x, zs[i]'(by rw [HU.out]; exact hiu) = x := ⟨_, rfl⟩
              rw [hx] at DC hxo hxr
              have HDO := hideP (does_any x hxo wr L.out (hxr.below BW3.out) (fun z => by have := HV8.out z; omega))
              have HV9 : Hid (∀ z, ((stp s8 x).V z).length ≤ j + (i + 1)) := stp_V x (Dk.out_V L.out.dk) HV8.out
              generalize stp s8 x = s9 at HDO HV9
              obtain ⟨kind, at_, fill, last, short, pv, ps⟩ := x
              unfold ddv at HDO
              dsimp only at *
              obtain ⟨cc0, cc1, cc2, cc3, cc4, cc5, hok, hrd⟩ := DC
              dsimp only at *
              clear hx hok hrd hxo hxr L HV8
              go_wp2_with fail
              refine HDO.out.mono ?_
              clear HDO cc0 cc1 cc2 cc3 cc4 cc5
              rintro e w6 ⟨rfl, S9, R9, h6⟩
              have L6 : Hid (Bt S9 R9 W3 w6 o r5 s9 s9) := h6
              clear h6
              go_wp2_with fail
              all_goals exact ⟨⟨i + 1, S9, R9, s9, by omega, by go_num, L6, HV9⟩, by simp [intOf]; omega⟩
            · have hii : ¬ (i : Int) < (u : Int) := by omega
              have I9 : Hid (Bt S R w wr d r (sts xs j) (sts xs j)) := I.out.below L.out.be
              have HW1 := hideP (whole_any2 wr I9.out)
              clear hiu hi
              go_wp2_with fail
              refine HW1.out.mono ?_
              clear HW1
              rintro e w6 ⟨rfl, h61, h62⟩
              have L6 : Hid (Bt S8 R8 W3 w6 o r5 s8 s8) := L.out.below h62
              have B6 : Hid (Below w.heap.size w w6) := h61.be
              clear h61 h62
              have HW2 := hideP (whole_any2 w6 L6.out)
              go_wp2_with fail
              refine HW2.out.mono ?_
              clear HW2
              rintro e w7 ⟨rfl, h71, h72⟩
              have B7 : Hid (Below w.heap.size w w7) := B6.out.trans (h72.mono B6.out.size)
              clear h71 h72
              go_wp2_with fail
              refine (HLV.out _).mono ?_
              rintro e w8 ⟨rfl, hb8⟩
              have B8 : Hid (Below w.heap.size w w8) := B7.out.trans (hb8.mono B7.out.size)
              clear hb8
              go_wp2_with fail
              go_ret
              exact ⟨by first | rfl | simp, B8.out⟩
end Go.Proofs.Ytmohbkhdloggeaa
