/-
  Sectors know nothing of one another: the law.
-/
import Derived.Test.YtmohbkhdloggeaaDElse
namespace Go.Proofs.Ytmohbkhdloggeaa
open Go.RowKit Go.Maps
set_option linter.unusedVariables false
set_option linter.unusedSimpArgs false
set_option maxRecDepth 100000

set_option maxHeartbeats 8000000 in
theorem diskElse_walk (lv : Value) (xs : List Dd) (x : Dd) (w : World) (hr : RdD w lv xs) (hl : xs.length ≤ 1048576) (hxo : DdOk x) :
    Calls Try.prog 6 #[lv, ddv x] w fun e w' => e = .returned (.bool true) ∧ Below w.heap.size w w' := by
  have HR : Hid (RdD w lv xs) := hr
  obtain ⟨la, lcap, rfl, hl1, hl2, hl3⟩ := hr
  obtain ⟨t, ht⟩ : ∃ t, xs.length = t := ⟨_, rfl⟩
  have HT : Hid (xs.length = t) := ht
  have htl : t ≤ 1048576 := by omega
  rw [ht] at HR ⊢
  clear hl1 hl2 hl3 ht hl
  have HLV := hideP (fun w => lives_any w)
  have HBY := hideP (fun w => deed_bytes x hxo w)
  have HDB : Hid (By (dby x)) := dby_by hxo
  have HPA := hideP (fun w => pick_any x.at_ 12 (by decide) (by decide) hxo.a w)
  have hp12 := pk_lt x.at_ (n := 12) (by decide)
  obtain ⟨pa, hpa⟩ : ∃ pa, pk x.at_ 12 = pa := ⟨_, rfl⟩
  rw [hpa] at HPA hp12
  have HPF := hideP (fun w => pick_any (x.fill * 8) 2048 (by decide) (by decide) (by have := hxo.f; simp [Lit.wf, IntKind.min, IntKind.max, IntKind.signed, IntKind.bits]; omega) w)
  have hp20 := pk_lt (x.fill * 8) (n := 2048) (by decide)
  obtain ⟨pf, hpf⟩ : ∃ pf, pk (x.fill * 8) 2048 = pf := ⟨_, rfl⟩
  rw [hpf] at HPF hp20
  have hf1 := hxo.f.1
  have hf2 := hxo.f.2
  obtain ⟨q, hq⟩ : ∃ q, w.heap.size = q := ⟨_, rfl⟩
  obtain ⟨C, hC⟩ : ∃ C : Array Value, #[.int .i64 x.kind, .int .i64 x.at_, .int .u8 x.fill, .int .u8 x.last, .bool x.short, x.pv] = C := ⟨_, rfl⟩
  obtain ⟨W0, hW0⟩ : ∃ W0, w.alloc (.cells C 34) = W0 := ⟨_, rfl⟩
  have B0 : Hid (Below w.heap.size w W0) := by rw [← hW0]; exact (Below.refl _ _).alloc (Nat.le_refl _) _
  have HBX : Hid (W0.heap[q]? = some (.cells C 34 (0, 0))) := by rw [← hW0, ← hq]; exact heap_alloc_new w _
  have HDL : Hid ((dby x).length ≤ 300) := by rw [dby_len]; exact dlen_le x
  obtain ⟨kind, at_, fill, last, short, pv, ps⟩ := x
  unfold ddv at HBY ⊢
  dsimp only at *
  generalize dby ⟨kind, at_, fill, last, short, pv, ps⟩ = ys at *
  have HQ6 : Hid (∀ {W : World}, Below W0.heap.size W0 W → W.cell? ⟨q, 0, none⟩ = some (.int .i64 kind) ∧ W.cell? ⟨q, 1, none⟩ = some (.int .i64 at_) ∧ W.cell? ⟨q, 2, none⟩ = some (.int .u8 fill) ∧ W.cell? ⟨q, 3, none⟩ = some (.int .u8 last) ∧ W.cell? ⟨q, 4, none⟩ = some (.bool short) ∧ W.cell? ⟨q, 5, none⟩ = some pv) := by
    intro W h
    have hb : W.heap[q]? = some (.cells C 34 (0, 0)) := by rw [h.block q (Array.getElem?_eq_some_iff.1 HBX.out).1]; exact HBX.out
    rw [← hC] at hb
    exact ⟨cell_of_row W q 0 _ _ (0, 0) hb, cell_of_row W q 1 _ _ (0, 0) hb, cell_of_row W q 2 _ _ (0, 0) hb, cell_of_row W q 3 _ _ (0, 0) hb, cell_of_row W q 4 _ _ (0, 0) hb, cell_of_row W q 5 _ _ (0, 0) hb⟩
  have HW0 : Hid (w.alloc (.cells #[.int .i64 kind, .int .i64 at_, .int .u8 fill, .int .u8 last, .bool short, pv] 34) = W0) := by rw [hC]; exact hW0
  have HQ : Hid (w.heap.size = q) := hq
  have HNEW := hideP (new_ok 12 W0 (by decide) (by decide))
  have HRN := hideP (fun w => refNew_ok 12 w (by decide) (by decide))
  clear hxo hq hW0 hC hpa hpf HBX
  go_enter Try.func6, Try.ntmps6
  go_wp2_with fail
  rw [HW0.out, HQ.out]
  clear HW0 HQ
  refine HNEW.out.mono ?_
  clear HNEW
  rintro e w1 ⟨d, S1, rfl, hd1, hb1, hs1⟩
  have D1 : Hid (Dk S1 w1 d (DS.new 12) ∧ Below W0.heap.size W0 w1 ∧ ∀ k, S1 k → W0.heap.size ≤ k) := ⟨hd1, hb1, hs1⟩
  clear hd1 hb1 hs1
  go_wp2_with fail
  refine (HRN.out _).mono ?_
  clear HRN
  rintro e w2 ⟨r, R1, rfl, hr2, hb2, hs2⟩
  have I0 : Hid (Bt S1 R1 W0 w2 d r (DS.new 12) (DS.new 12)) := bt_new D1.out.1 D1.out.2.1 D1.out.2.2 hr2 hb2 hs2
  clear hr2 hb2 hs2 D1
  go_wp2_with fail
  go_loopw [9] (fun iv wr => ∃ (k : Nat) (S R : Nat → Prop) (s : DS), k ≤ t ∧ iv = .int .i64 k ∧ Hid (Bt S R W0 wr d r s s) ∧ Hid (∀ i, (s.V i).length ≤ k) ∧ Hid (s.L.length = 12)) (fun iv _ => t - (intOf iv).toNat)
  case atStart => exact ⟨0, S1, R1, _, Nat.zero_le _, rfl, I0, fun i => Nat.le_refl _, by simp [DS.new, Hid]⟩
  case round =>
    clear I0
    obtain ⟨k, S, R, s, hk, rfl, I, HV, HL⟩ := hrel
    by_cases hkt : k < t
    · have hki : (k : Int) < (t : Int) := by omega
      have hk0 : (0 : Int) ≤ (k : Int) := by omega
      obtain ⟨xb, xo, rfl, DC⟩ := HR.out.at_ (B0.out.trans (I.out.be.mono B0.out.size)) (k := k) (by rw [HT.out]; exact hkt)
      obtain ⟨hxo, hxr⟩ := HR.out.ok (k := k) (by rw [HT.out]; exact hkt)
      obtain ⟨x, hx⟩ : ∃ x, xs[k]'(by rw [HT.out]; exact hkt) = x := ⟨_, rfl⟩
      rw [hx] at DC hxo hxr
      have HDO := hideP (does_any x hxo wr I.out (hxr.below B0.out) (fun i => by have := HV.out i; omega))
      have HV2 : Hid (∀ i, ((stp s x).V i).length ≤ k + 1) := stp_V x (Dk.out_V I.out.dk) HV.out
      have HL2 : Hid ((stp s x).L.length = 12) := by rw [stp_L]; exact HL.out
      generalize stp s x = s2 at HDO HV2 HL2
      obtain ⟨kind, at_, fill, last, short, pv, ps⟩ := x
      unfold ddv at HDO
      dsimp only at *
      obtain ⟨cc0, cc1, cc2, cc3, cc4, cc5, hok, hrd⟩ := DC
      dsimp only at *
      clear hx hok hrd hxo hxr I HV HL
      go_wp2_with fail
      refine HDO.out.mono ?_
      clear HDO cc0 cc1 cc2 cc3 cc4 cc5
      rintro e w3 ⟨rfl, S3, R3, h3⟩
      have I3 : Hid (Bt S3 R3 W0 w3 d r s2 s2) := h3
      clear h3
      go_wp2_with fail
      go_roundw
      case rel => exact ⟨k + 1, S3, R3, s2, by omega, by go_num, I3, HV2, HL2⟩
      case measure => simp [intOf]; omega
    · have hki : ¬ (k : Int) < (t : Int) := by omega
      have D2 : Hid (Dc S W0 wr d s) := ⟨I.out.dk, I.out.be, I.out.s0⟩
      have HV2 : Hid (∀ i, (s.V i).length < 274877906943) := fun i => by have := HV.out i; omega
      clear hkt HV I hk
      go_wp2_with fail
      go_loopw [10, 11] (fun hv iv w5 => ∃ (k : Nat) (Ws : List Value), k ≤ 12 ∧ iv = .int .i64 k ∧ Hid (Dc S W0 w5 d s) ∧ Hid (w5.ownsRow 0 41 1 hv k Ws) ∧ Hid (∀ b, hv.ownBlock = some b → ¬ S b ∧ W0.heap.size ≤ b)) (fun _ iv _ => 12 - (intOf iv).toNat)
      case atStart => exact ⟨0, [], Nat.zero_le _, rfl, D2, World.ownsRow_nil _ _ _ _, fun b e => by cases e⟩
      case round =>
        obtain ⟨j, Ws, hj, rfl, DC, RW, FW⟩ := hrel
        clear D2
        by_cases hj12 : j < 12
        · have hji : (j : Int) < 12 := by omega
          have HRD := hideP (read_ok j wr DC.out.1 (by rw [HL.out]; exact hj12))
          go_wp2_with fail
          refine HRD.out.mono ?_
          clear HRD
          rintro e w6 ⟨v6, rfl, ha6, hb6, hf6⟩
          have D6 : Hid (Dc S W0 w6 d s) := DC.out.below hb6
          have HWl : Hid (Ws.length = j) := by have := RW.out.1; show _ = _; omega
          obtain ⟨vb, vc, vt, vC, hv6, _⟩ := id ha6
          obtain ⟨vn, hvn⟩ : ∃ vn, (s.has j).length = vn := ⟨_, rfl⟩
          rw [hvn] at hv6
          subst hv6
          have R6 : Hid ((w6.alloc (.cells #[.slice (some ⟨vb, 0, none⟩) vn vc] 41)).ownsRow 0 41 1 u10 Ws.length Ws) := by
            rw [HWl.out]
            exact (Tch.alloc (Tch.of_below (S := fun _ => False) hb6) _).owns RW.out (fun _ _ e => e)
          have HCV : Hid ((w6.alloc (.cells #[.slice (some ⟨vb, 0, none⟩) vn vc] 41)).cell? ⟨w6.heap.size, 0, none⟩ = some (.slice (some ⟨vb, 0, none⟩) vn vc)) := cell_of_row _ _ 0 _ _ (0, 0) (heap_alloc_new w6 _)
          clear ha6 hb6 hf6 DC RW hvn
          go_wp2_with (at_builtin; refine Hid.out ?_)
          refine hideP ?_
          refine wpList_appV _ rfl (.tmp 59) (.tmp 61) rfl u10 Ws rfl R6.out w6.heap.size (.slice (some ⟨vb, 0, none⟩) vn vc) rfl ⟨_, _, _, rfl⟩ HCV.out (by rw [HWl.out]; omega) ?_
          intro v7 w7 hr7 hg7 hf7
          have T7 : Tch (fun k => u10.ownBlock = some k) w6 w7 := (Tch.alloc (Tch.refl _ w6) _).trans (Tch.of_grown hg7) (fun _ _ e => e)
          have D7 : Hid (Dc S W0 w7 d s) := ⟨D6.out.1.tch T7 (fun k hk e => (FW.out k e).1 hk), D6.out.2.1.trans (T7.below D6.out.2.1.size (fun k e => (FW.out k e).2)), D6.out.2.2⟩
          have R7 : Hid (w7.ownsRow 0 41 1 v7 (j + 1) (Ws ++ [.slice (some ⟨vb, 0, none⟩) vn vc])) := by
            rw [List.length_append, HWl.out] at hr7
            exact hr7
          have F7 : Hid (∀ b, v7.ownBlock = some b → ¬ S b ∧ W0.heap.size ≤ b) := fun b hb => by
            rcases hf7 b hb with e | e
            · exact FW.out b e
            · simp at e
              exact ⟨fun e2 => by have := D6.out.1.slt b e2; omega, by have := D6.out.2.1.size; omega⟩
          clear hr7 hg7 hf7 T7 R6 HCV D6 FW
          go_wp2_with fail
          go_roundw
          case rel => exact ⟨j + 1, _, by omega, by go_num, D7, R7, F7⟩
          case measure => simp [intOf]; omega
        · have hji : ¬ (j : Int) < 12 := by omega
          obtain rfl : j = 12 := by omega
          obtain ⟨g, gcap, hgv⟩ : ∃ g cap, u10 = .slice (some ⟨g, 0, none⟩) 12 cap := by
            rcases RW.out.2 with ⟨_, e⟩ | ⟨g, cap, cur, e, _⟩
            · omega
            · exact ⟨g, cap, e⟩
          subst hgv
          have HPO := hideP (power_any (.slice none 0 0) [] wr DC.out.1 ⟨none, 0, rfl, Nat.le_refl _, by unfold maxLen; omega, fun _ => rfl, .inl rfl⟩ (fun k hk => by cases hk) (fun i => by have := HV2.out i; omega))
          have HV3 : Hid (∀ i, ((s.pw []).V i).length = 0) := fun i => by rw [pw_V s [] (Dk.out_V DC.out.1) i]; rfl
          have HL3 : Hid ((s.pw []).L.length = 12) := by rw [pw_len]; exact HL.out
          clear hj hj12
          go_wp2_with fail
          refine HPO.out.mono ?_
          clear HPO
          rintro e w8 ⟨rfl, hd8⟩
          obtain ⟨S8, hD8, ht8, hs8⟩ := DC.out.to hd8
          generalize s.pw [] = s8 at *
          have H8 : Hid (Hd S8 W0 w8 d g gcap 0 s8 Ws) := by
            have hfg := FW.out g rfl
            have hgl := (RW.out.lt g rfl).2
            refine ⟨hD8, ht8.owns RW.out (fun k hk => by cases hk; exact hfg.1), fun e => ?_, hfg.2, fun i hi => by omega⟩
            rcases hs8 g e with e | e
            · exact hfg.1 e
            · omega
          clear hd8 hD8 ht8 hs8 DC RW FW HV2 HL
          go_wp2_with fail
          go_loopw [14] (fun iv w9 => ∃ (k : Nat) (Vs : List Value), k ≤ 12 ∧ iv = .int .i64 k ∧ Hid (Hd S8 W0 w9 d g gcap k s8 Vs)) (fun iv _ => 12 - (intOf iv).toNat)
          case atStart => exact ⟨0, Ws, Nat.zero_le _, rfl, H8⟩
          case round =>
            clear H8
            obtain ⟨j, Vs, hj, rfl, HI⟩ := hrel
            by_cases hj12 : j < 12
            · have hji : (j : Int) < 12 := by omega
              have hj0 : (0 : Int) ≤ (j : Int) := by omega
              have HRD := hideP (read_ok j wr HI.out.dc.1 (by rw [HL3.out]; exact hj12))
              go_wp2_with fail
              refine HRD.out.mono ?_
              clear HRD
              rintro e w6 ⟨v6, rfl, ha6, hb6, hf6⟩
              have H6 : Hid (Hd S8 W0 w6 d g gcap j s8 Vs) := HI.out.below hb6
              have H7 : Hid (Hd S8 W0 (w6.setCell ⟨g, j, none⟩ v6) d g gcap (j + 1) s8 (Vs.set j v6)) := H6.out.put ha6.rd (Dk.has_len HI.out.dc.1 (by rw [HL3.out]; exact hj12)) (fun b hb => ⟨fun e => by have := HI.out.dc.1.slt b e; have := hf6 b hb; omega, fun e => by have := HI.out.lt; have := hf6 b hb; omega, ha6.lt b hb⟩) hj12
              have hcg : ∃ y, w6.cell? ⟨g, j, none⟩ = some y := by
                have hWl : Vs.length = 12 := by have := H6.out.row.1; omega
                rw [H6.out.row.cellAt j (by omega)]
                exact ⟨_, List.getElem?_eq_getElem (by omega)⟩
              obtain ⟨y, hcy⟩ := hcg
              have hfy := H6.out.row.frozenAt j
              obtain ⟨vb, vc, vt, vC, hv6, _⟩ := id ha6
              obtain ⟨vn, hvn⟩ : ∃ vn, (s8.has j).length = vn := ⟨_, rfl⟩
              rw [hvn] at hv6
              subst hv6
              clear ha6 hb6 hf6 HI H6 hvn
              go_wp2_with fail
              go_roundw
              case rel => exact ⟨j + 1, _, by omega, by go_num, H7⟩
              case measure => simp [intOf]; omega
            · have hji : ¬ (j : Int) < 12 := by omega
              obtain rfl : j = 12 := by omega
              obtain ⟨q0, q1, q2, q3, q4, q5⟩ := HQ6.out HI.out.dc.2.1
              clear hj hj12
              go_wp2_with fail
              refine (HPA.out _).mono ?_
              clear HPA
              rintro e wr ⟨rfl, rfl⟩
              go_wp2_with fail
              refine (HBY.out _).mono ?_
              clear q0 q1 q2 q3 q4 q5
              rintro e w6 ⟨ov, rfl, ho6, hb6, hf6⟩
              have H6 : Hid (Hd S8 W0 w6 d g gcap 12 s8 Vs) := HI.out.below hb6
              have HWR := hideP (write_all (pa : Int) ov ys w6 H6.out.dc.1 ho6.rd HDB.out (fun k hk e => by have := HI.out.dc.1.slt k e; have := hf6 k hk; omega) (fun i => by rw [HV3.out i]; decide))
              clear ho6 hb6 hf6 HI HBY
              go_wp2_with fail
              refine HWR.out.mono ?_
              clear HWR
              rintro e w7 ⟨rfl, hd7⟩
              obtain ⟨S7, h71, h72, h73, h74⟩ := Hd.to (P := fun _ => True) H6.out.dc H6.out.row H6.out.nS H6.out.el hd7
              have H7 : Hid (Dc S7 W0 w7 d (wrr s8 (pa : Int) ys) ∧ w7.ownsRow 0 41 1 (.slice (some ⟨g, 0, none⟩) 12 gcap) 12 Vs ∧ ¬ S7 g ∧ ∀ j, j < 12 → ∃ v, Vs[j]? = some v ∧ Rd .u8 w7 v (s8.has j) ∧ (s8.has j).length = 256 ∧ ∀ b, v.ownBlock = some b → ¬ S7 b ∧ b ≠ g ∧ b < w7.heap.size) := ⟨h71, h72, h73, h74⟩
              clear hd7 h71 h72 h73 h74
              have HL7 : Hid ((wrr s8 (pa : Int) ys).L.length = 12) := by rw [wrr_len]; exact HL3.out
              have HH7 : Hid (∀ i : Nat, i ≠ pa → (wrr s8 (pa : Int) ys).has i = s8.has i) := fun i hi => has_wr (by omega)
              generalize wco s8 (pa : Int) ys.length = cdw at *
              generalize wrr s8 (pa : Int) ys = s7 at *
              obtain ⟨q0, q1, q2, q3, q4, q5⟩ := HQ6.out H7.out.1.2.1
              clear H6
              obtain ⟨mm, hmm⟩ : ∃ mm : Nat, 2048 * pa + pf = mm := ⟨_, rfl⟩
              have hmI : 2048 * (pa : Int) + (pf : Int) = (mm : Int) := by omega
              have HMD : Hid (mm / 2048 = pa) := by show _ = _; omega
              have hpaI : (pa : Int) < 12 := by omega
              have hpfI : (pf : Int) < 2048 := by omega
              have HRO := hideP (rot_ok mm w7 H7.out.1.1 (by rw [HL7.out]; omega))
              clear hmm
              go_wp2_with fail
              refine (HPF.out _).mono ?_
              clear HPF
              rintro e w7 ⟨rfl, rfl⟩
              go_wp2_with fail
              refine HRO.out.mono ?_
              clear HRO q0 q1 q2 q3 q4 q5
              rintro e w8 ⟨rfl, hd8⟩
              obtain ⟨S9, h81, h82, h83, h84⟩ := Hd.to (P := fun _ => True) H7.out.1 H7.out.2.1 H7.out.2.2.1 H7.out.2.2.2 hd8
              have HL9 : Hid ((s7.rot mm).L.length = 12) := by show (s7.L.set _ _).length = 12; rw [List.length_set]; exact HL7.out
              have HH9 : Hid (∀ i : Nat, i ≠ pa → (s7.rot mm).has i = s8.has i) := fun i hi => by rw [has_rot (by rw [HMD.out]; exact hi)]; exact HH7.out i hi
              generalize s7.rot mm = s9 at *
              have H9 : Hid (Dc S9 W0 w8 d s9 ∧ w8.ownsRow 0 41 1 (.slice (some ⟨g, 0, none⟩) 12 gcap) 12 Vs ∧ ∀ j, j < 12 → ∃ v, Vs[j]? = some v ∧ Rd .u8 w8 v (s8.has j) ∧ (s8.has j).length = 256) := ⟨h81, h82, fun j hj => by obtain ⟨v, e1, e2, e3, _⟩ := h84 j hj; exact ⟨v, e1, e2, e3⟩⟩
              clear hd8 h81 h82 h83 h84 H7 HH7 HL7
              go_wp2_with fail
              go_loopw [18] (fun iv wX => ∃ (k : Nat), k ≤ 12 ∧ iv = .int .i64 k ∧ Hid (Dc S9 W0 wX d s9 ∧ wX.ownsRow 0 41 1 (.slice (some ⟨g, 0, none⟩) 12 gcap) 12 Vs ∧ ∀ j, j < 12 → ∃ v, Vs[j]? = some v ∧ Rd .u8 wX v (s8.has j) ∧ (s8.has j).length = 256)) (fun iv _ => 12 - (intOf iv).toNat)
              case atStart => exact ⟨0, Nat.zero_le _, rfl, H9⟩
              case round =>
                clear H9
                obtain ⟨j, hj, rfl, HI⟩ := hrel
                by_cases hj12 : j < 12
                · have hji : (j : Int) < 12 := by omega
                  have hj0 : (0 : Int) ≤ (j : Int) := by omega
                  have HRD := hideP (read_ok j wr HI.out.1.1 (by rw [HL9.out]; exact hj12))
                  go_wp2_with fail
                  refine HRD.out.mono ?_
                  clear HRD
                  rintro e w6 ⟨v6, rfl, ha6, hb6, hf6⟩
                  obtain ⟨hdc, hrow, hel⟩ := HI.out
                  obtain ⟨v, hv1, hv2, hv3⟩ := hel j hj12
                  have hcv : w6.cell? ⟨g, j, none⟩ = some v := by
                    have hr6 := (Tch.of_below (S := fun _ => False) hb6).owns hrow (fun _ _ e => e)
                    rw [hr6.cellAt j (by omega)]
                    exact hv1
                  have H6 : Hid (Dc S9 W0 w6 d s9 ∧ w6.ownsRow 0 41 1 (.slice (some ⟨g, 0, none⟩) 12 gcap) 12 Vs ∧ ∀ j, j < 12 → ∃ v, Vs[j]? = some v ∧ Rd .u8 w6 v (s8.has j) ∧ (s8.has j).length = 256) := ⟨hdc.below hb6, (Tch.of_below (S := fun _ => False) hb6).owns hrow (fun _ _ e => e), fun j hj => by obtain ⟨v, e1, e2, e3⟩ := hel j hj; exact ⟨v, e1, e2.below hb6, e3⟩⟩
                  have hl9 := Dk.has_len hdc.1 (i := j) (by rw [HL9.out]; exact hj12)
                  have HSM := hideP (same_gen v6 v (s9.has j) (s8.has j) w6 ha6.rd (hv2.below hb6) (by rw [hl9, hv3]) (fun e => by rw [e] at hl9; cases hl9))
                  clear ha6 hb6 hf6 hdc hrow hel hv1 hv2 hv3 hl9 HI
                  by_cases hpj : j = pa
                  · subst hpj
                    obtain ⟨z, hz⟩ : ∃ z, decide (s9.has j = s8.has j) = z := ⟨_, rfl⟩
                    rw [hz] at HSM
                    clear hz
                    go_wp2_with fail
                    refine HSM.out.mono ?_
                    clear HSM
                    rintro e w7 ⟨rfl, hb7⟩
                    have H7 : Hid (Dc S9 W0 w7 d s9 ∧ w7.ownsRow 0 41 1 (.slice (some ⟨g, 0, none⟩) 12 gcap) 12 Vs ∧ ∀ j, j < 12 → ∃ v, Vs[j]? = some v ∧ Rd .u8 w7 v (s8.has j) ∧ (s8.has j).length = 256) := ⟨H6.out.1.below hb7, (Tch.of_below (S := fun _ => False) hb7).owns H6.out.2.1 (fun _ _ e => e), fun j hj => by obtain ⟨v, e1, e2, e3⟩ := H6.out.2.2 j hj; exact ⟨v, e1, e2.below hb7, e3⟩⟩
                    clear hb7 H6 hcv
                    go_wp2_with fail
                    all_goals exact ⟨⟨j + 1, by omega, by go_num, H7⟩, by simp [intOf]; omega⟩
                  · have hpe : ((j : Int) == (pa : Int)) = false := by rw [beq_eq_false_iff_ne]; omega
                    have hz : decide (s9.has j = s8.has j) = true := by rw [decide_eq_true_eq]; exact HH9.out j hpj
                    rw [hz] at HSM
                    clear hz
                    go_wp2_with fail
                    refine HSM.out.mono ?_
                    clear HSM
                    rintro e w7 ⟨rfl, hb7⟩
                    have H7 : Hid (Dc S9 W0 w7 d s9 ∧ w7.ownsRow 0 41 1 (.slice (some ⟨g, 0, none⟩) 12 gcap) 12 Vs ∧ ∀ j, j < 12 → ∃ v, Vs[j]? = some v ∧ Rd .u8 w7 v (s8.has j) ∧ (s8.has j).length = 256) := ⟨H6.out.1.below hb7, (Tch.of_below (S := fun _ => False) hb7).owns H6.out.2.1 (fun _ _ e => e), fun j hj => by obtain ⟨v, e1, e2, e3⟩ := H6.out.2.2 j hj; exact ⟨v, e1, e2.below hb7, e3⟩⟩
                    clear hb7 H6 hcv hpj
                    go_wp2_with fail
                    all_goals exact ⟨⟨j + 1, by omega, by go_num, H7⟩, by simp [intOf]; omega⟩
                · have hji : ¬ (j : Int) < 12 := by omega
                  have B7 : Hid (Below w.heap.size w wr) := B0.out.trans (HI.out.1.2.1.mono B0.out.size)
                  clear HI hj hj12
                  go_wp2_with fail
                  refine (HLV.out _).mono ?_
                  rintro e w8 ⟨rfl, hb8⟩
                  have B8 : Hid (Below w.heap.size w w8) := B7.out.trans (hb8.mono B7.out.size)
                  clear hb8
                  go_wp2_with fail
                  go_ret
                  exact ⟨by first | rfl | simp, B8.out⟩
end Go.Proofs.Ytmohbkhdloggeaa
