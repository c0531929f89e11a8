/-
  What is flushed is kept: the law.
-/
import Derived.Test.YtmohbkhdloggeaaDKeeps
import Derived.Test.YtmohbkhdloggeaaLawDCuts
namespace Go.Proofs.Ytmohbkhdloggeaa
open Go.RowKit Go.Maps
set_option linter.unusedVariables false
set_option linter.unusedSimpArgs false
set_option maxRecDepth 100000

theorem info_44 : (Try.prog.info? 44).map (fun i => (i.zero, i.size)) = some (some (.agg nil12.toArray), 12) := by kernel_rfl

theorem wrr_V_le (s : DS) (a : Int) (xs : List Int) (j : Nat) : ((wrr s a xs).V j).length ≤ (s.V j).length + 1 := by
  unfold wrr
  split
  · omega
  · split
    · exact wr_V_le s _ xs j
    · omega

theorem wr_c (s : DS) (i : Nat) (xs : List Int) : (s.wr i xs).c = s.c := by
  unfold DS.wr
  split <;> rfl
theorem wrr_c (s : DS) (a : Int) (xs : List Int) : (wrr s a xs).c = s.c := by
  unfold wrr
  split
  · rfl
  · split
    · exact wr_c s _ xs
    · rfl
theorem fl_full {s : DS} (hc : s.c = false) : s.fl.V = (fun _ => []) ∧ s.fl.c = false := by
  have h : s.can = true := by simp [DS.can, hc]
  unfold DS.fl
  rw [h]
  exact ⟨rfl, hc⟩
theorem wr_full {s : DS} (hc : s.c = false) (i : Nat) (xs : List Int) : (s.wr i xs).V = vput s.V i (s.V i ++ [xs]) ∧ (s.wr i xs).L = s.L := by
  have h : s.can = true := by simp [DS.can, hc]
  unfold DS.wr
  rw [h]
  exact ⟨rfl, rfl⟩

set_option maxHeartbeats 8000000 in
theorem diskKeeps_walk (lv mv pv : Value) (xs zs : List Dd) (ps : List Int) (w : World) (hr : RdD w lv xs) (hl : xs.length ≤ 1048576) (hr2 : RdD w mv zs) (hl2 : zs.length ≤ 1048576) (hp : Rd .i64 w pv ps) :
    Calls Try.prog 4 #[lv, mv, pv] w fun e w' => e = .returned (.bool true) ∧ Below w.heap.size w w' := by
  have HR : Hid (RdD w lv xs) := hr
  have HZ : Hid (RdD w mv zs) := hr2
  have HP : Hid (Rd .i64 w pv ps) := hp
  obtain ⟨la, lcap, rfl, _, _, _⟩ := hr
  obtain ⟨ma, mcap, rfl, _, _, _⟩ := hr2
  obtain ⟨t, ht⟩ : ∃ t, xs.length = t := ⟨_, rfl⟩
  obtain ⟨u, hu⟩ : ∃ u, zs.length = u := ⟨_, rfl⟩
  have HT : Hid (xs.length = t) := ht
  have HU : Hid (zs.length = u) := hu
  have htl : t ≤ 1048576 := by omega
  have hul : u ≤ 1048576 := by omega
  rw [ht] at HR ⊢
  rw [hu] at HZ ⊢
  clear ht hu hl hl2 hp
  have HLV := hideP (fun w => lives_any w)
  have HNEW := hideP (new_ok 12 w (by decide) (by decide))
  go_enter Try.func4, Try.ntmps4
  go_wp2_with fail
  refine HNEW.out.mono ?_
  clear HNEW
  rintro e w1 ⟨d, S1, rfl, hd1, hb1, hs1⟩
  have D1 : Hid (Dc S1 w w1 d (DS.new 12)) := ⟨hd1, hb1, hs1⟩
  clear hd1 hb1 hs1
  go_wp2_with fail
  go_loopw [9] (fun iv wr => ∃ (k : Nat) (S : Nat → Prop) (s : DS), k ≤ t ∧ iv = .int .i64 k ∧ Hid (Dc S w wr d s) ∧ Hid (∀ i, (s.V i).length ≤ k) ∧ Hid (s.L.length = 12 ∧ s.c = false)) (fun iv _ => t - (intOf iv).toNat)
  case atStart => exact ⟨0, S1, _, Nat.zero_le _, rfl, D1, fun i => Nat.le_refl _, by simp [DS.new, Hid]⟩
  case round =>
    clear D1
    obtain ⟨k, S, s, hk, rfl, I, HV, HL⟩ := hrel
    by_cases hkt : k < t
    · have hki : (k : Int) < (t : Int) := by omega
      have hk0 : (0 : Int) ≤ (k : Int) := by omega
      obtain ⟨xb, xo, rfl, DC⟩ := HR.out.at_ I.out.2.1 (k := k) (by rw [HT.out]; exact hkt)
      obtain ⟨hxo, hxr⟩ := HR.out.ok (k := k) (by rw [HT.out]; exact hkt)
      obtain ⟨x, hx⟩ : ∃ x, xs[k]'(by rw [HT.out]; exact hkt) = x := ⟨_, rfl⟩
      rw [hx] at DC hxo hxr
      have HPA := hideP (fun w => pick_any x.at_ 12 (by decide) (by decide) hxo.a w)
      have HBY := hideP (fun w => deed_bytes x hxo w)
      have HDB : Hid (By (dby x)) := dby_by hxo
      obtain ⟨pa, hpa⟩ : ∃ pa, pk x.at_ 12 = pa := ⟨_, rfl⟩
      rw [hpa] at HPA
      generalize hys : dby x = ys at *
      have HXB : Hid (xb < w.heap.size) := by
        obtain ⟨b', o', e, hc⟩ := HR.out.at_ (Below.refl _ _) (k := k) (by rw [HT.out]; exact hkt)
        simp only [Option.some.injEq, Addr.mk.injEq] at e
        rw [e.1]
        exact World.block_lt_of_cell? w ⟨b', o' + k * 6, none⟩ hc.c0
      have HQ6 : Hid (∀ W, Below wr.heap.size wr W → DCell W xb (xo + k * 6) x) := fun W hW => DC.below hW
      obtain ⟨kind, at_, fill, last, short, pv', ps'⟩ := x
      unfold ddv at HBY
      dsimp only at *
      obtain ⟨cc0, cc1, cc2, cc3, cc4, cc5, hok, hrd⟩ := DC
      dsimp only at *
      have HDR : Hid (Dc S w wr.drew d s) := ⟨I.out.1.tch (R := fun _ => False) (Tch.drew (Tch.refl _ wr)) (fun _ _ e => e), I.out.2.1.trans ((Tch.drew (Tch.refl (fun _ => False) wr)).below I.out.2.1.size (fun _ e => e.elim)), I.out.2.2⟩
      have HBD : Hid (∀ W, Below wr.drew.heap.size wr.drew W → Below wr.heap.size wr W) := fun W hW => Below.trans ((Tch.drew (Tch.refl (fun _ => False) wr)).below (Nat.le_refl _) (fun _ e => e.elim)) hW
      clear hx hok hrd hxo hxr hpa hys
      go_wp2_with fail
      go_region_held3 (fun w' => w'.cell? ⟨xb, xo + k * 6, none⟩ = some (.int .i64 kind) ∧ w'.cell? ⟨xb, xo + k * 6 + 1, none⟩ = some (.int .i64 at_) ∧ w'.cell? ⟨xb, xo + k * 6 + 2, none⟩ = some (.int .u8 fill) ∧ w'.cell? ⟨xb, xo + k * 6 + 3, none⟩ = some (.int .u8 last) ∧ w'.cell? ⟨xb, xo + k * 6 + 4, none⟩ = some (.bool short) ∧ w'.cell? ⟨xb, xo + k * 6 + 5, none⟩ = some pv') (go_keep)
        (first
          | (go_at_call 18; refine (HPA.out _).mono ?_; rintro e WP ⟨rfl, rfl⟩)
          | (go_at_call 19; refine (HBY.out _).mono ?_; rintro e W6 ⟨ov6, rfl, ho6, hb6, hf6⟩; have D6 : Hid (Dc S w W6 d s) := HDR.out.below hb6; have B6 : Hid (Below wr.heap.size wr W6) := HBD.out _ hb6; have F6 : Hid (∀ k, ov6.ownBlock = some k → ¬ S k) := fun k hk e => (by have := HDR.out.1.slt k e; have := hf6 k hk; omega); have O6 : Hid (Rd .u8 W6 ov6 ys) := ho6.rd; clear ho6 hb6 hf6; obtain ⟨p0, p1, p2, p3, p4, p5, _, _⟩ := HQ6.out W6 B6.out)
          | (go_at_call 17; refine (write_all (pa : Int) ov6 ys W6 D6.out.1 O6.out HDB.out F6.out (fun i => by have := HV.out i; omega)).mono ?_; rintro e W7 ⟨rfl, hd7⟩; obtain ⟨S7, hD7, hT7, _⟩ := D6.out.to hd7; have D7 : Hid (Dc S7 w W7 d (wrr s (pa : Int) ys)) := hD7; have HC7 : Hid (∀ o, xb < w.heap.size → W7.cell? ⟨xb, o, none⟩ = W6.cell? ⟨xb, o, none⟩) := fun o hlt => hT7.cell (p := ⟨xb, o, none⟩) (Nat.lt_of_lt_of_le hlt D6.out.2.1.size) (fun e => (by have := D6.out.2.2 xb e; omega)); clear hd7 hD7 hT7; have r0 := (HC7.out (xo + k * 6) HXB.out).trans p0; have r1 := (HC7.out (xo + k * 6 + 1) HXB.out).trans p1; have r2 := (HC7.out (xo + k * 6 + 2) HXB.out).trans p2; have r3 := (HC7.out (xo + k * 6 + 3) HXB.out).trans p3; have r4 := (HC7.out (xo + k * 6 + 4) HXB.out).trans p4; have r5 := (HC7.out (xo + k * 6 + 5) HXB.out).trans p5))
      have HV7 : Hid (∀ i, ((wrr s (pa : Int) ys).V i).length ≤ k + 1) := fun i => by have := wrr_V_le s (pa : Int) ys i; have := HV.out i; omega
      have HL7 : Hid ((wrr s (pa : Int) ys).L.length = 12 ∧ (wrr s (pa : Int) ys).c = false) := ⟨by rw [wrr_len]; exact HL.out.1, by rw [wrr_c]; exact HL.out.2⟩
      clear HC7 r0 r1 r2 r3 r4 r5 p0 p1 p2 p3 p4 p5 cc0 cc1 cc2 cc3 cc4 cc5 D6 B6 F6 O6
      go_wp2_with fail
      go_roundw
      case rel => exact ⟨k + 1, S7, _, by omega, by go_num, D7, HV7, HL7⟩
      case measure => simp [intOf]; omega
    · have hki : ¬ (k : Int) < (t : Int) := by omega
      have HFL := hideP (flush_any wr I.out.1)
      clear hkt hk
      obtain ⟨hv44, hi44⟩ := zero_of_info info_44
      clear hi44
      go_wp2_with fail
      refine HFL.out.mono ?_
      clear HFL
      rintro e w3 ⟨rfl, hd3⟩
      obtain ⟨S3, hD3, _, _⟩ := I.out.to hd3
      have D3 : Hid (Dc S3 w w3 d s.fl) := hD3
      obtain ⟨hfV, hfc⟩ := fl_full HL.out.2
      have HLF : Hid (s.fl.L.length = 12 ∧ s.fl.c = false ∧ s.fl.V = fun _ => []) := ⟨by rw [fl_L]; exact HL.out.1, hfc, hfV⟩
      clear hd3 hD3 I HV HL hfV hfc
      generalize s.fl = s3 at *
      obtain ⟨W0, hW0⟩ : ∃ W0, w3.alloc (.cells nil12.toArray 44) = W0 := ⟨_, rfl⟩
      obtain ⟨q, hq⟩ : ∃ q, w3.heap.size = q := ⟨_, rfl⟩
      have K0 : Hid (Kp S3 w W0 d q s3 (fun _ => .slice none 0 0) (fun _ => []) (fun _ => [])) := by
        have hb : Below w3.heap.size w3 W0 := by rw [← hW0]; exact (Below.refl _ _).alloc (Nat.le_refl _) _
        have hqq : W0.heap[q]? = some (.cells nil12.toArray 44 (0, 0)) := by rw [← hW0, ← hq]; exact heap_alloc_new w3 _
        exact {
          dc := D3.out.below hb
          qc := fun i hi => by
            rw [cell_of_row W0 q i _ _ (0, 0) hqq]
            simp only [List.getElem?_toArray]
            exact nil12_get hi
          qf := fun i => frozen_of_row W0 q i _ _ hqq
          ql := (Array.getElem?_eq_some_iff.1 hqq).1
          q0 := by rw [← hq]; exact D3.out.2.1.size
          nS := fun e => by have := D3.out.1.slt q e; omega
          row := fun i hi => World.ownsRow_nil _ _ _ _
          ub := fun i b hi e => by cases e
          ap := fun i j b hi hj hij e => by cases e
          el := fun i j v hi hj => by simp at hj }
      clear D3
      go_wp2_with fail
      clear hq hW0 hv44
      go_loopw [11] (fun iv wr => ∃ (j : Nat) (U : Nat → Value) (Z : Nat → List Value) (Y : Nat → List (List Int)), j ≤ 12 ∧ iv = .int .i64 j ∧ Hid (Kp S3 w wr d q s3 U Z Y) ∧ Hid (∀ i, i < 12 → Y i = if i < j then [s3.has i] else [])) (fun iv _ => 12 - (intOf iv).toNat)
      case atStart => exact ⟨0, _, _, _, Nat.zero_le _, rfl, K0, fun i _ => rfl⟩
      case round =>
        clear K0
        obtain ⟨j, U, Z, Y, hj, rfl, KP, HY⟩ := hrel
        by_cases hj12 : j < 12
        · have hji : (j : Int) < 12 := by omega
          have hji2 : (j : Int) ≤ 11 := by omega
          have hj0 : (0 : Int) ≤ (j : Int) := by omega
          have HRD := hideP (read_ok j wr KP.out.dc.1 (by rw [HLF.out.1]; exact hj12))
          go_wp2_with fail
          refine HRD.out.mono ?_
          clear HRD
          rintro e w6 ⟨v6, rfl, ha6, hb6, hf6⟩
          have K6 : Hid (Kp S3 w w6 d q s3 U Z Y) := KP.out.below hb6
          have F6 : Hid (∀ b, v6.ownBlock = some b → ¬ S3 b ∧ b ≠ q ∧ b < w6.heap.size ∧ ∀ i, i < 12 → (U i).ownBlock ≠ some b) := fun b hb => ⟨fun e => by have := KP.out.dc.1.slt b e; have := hf6 b hb; omega, fun e => by have := KP.out.ql; have := hf6 b hb; omega, ha6.lt b hb, fun i hi e => by have := KP.out.ult hi e; have := hf6 b hb; omega⟩
          have A6 : Hid (Rd .u8 w6 v6 (s3.has j)) := ha6.rd
          have cq := K6.out.qc j hj12
          have fq := K6.out.qf j
          obtain ⟨uv, huv⟩ : ∃ uv, U j = uv := ⟨_, rfl⟩
          have HUV : Hid (U j = uv) := huv
          rw [huv] at cq
          have HZL : Hid ((Z j).length + 1 ≤ 2000000000000) := by
            have h1 := KP.out.zl hj12
            have h2 := HY.out j hj12
            rw [if_neg (Nat.lt_irrefl j)] at h2
            rw [h2] at h1
            show _ ≤ _
            simp at h1
            rw [h1]; decide
          obtain ⟨vb, vc, vt, vC, hv6, _⟩ := id ha6
          obtain ⟨vn, hvn⟩ : ∃ vn, (s3.has j).length = vn := ⟨_, rfl⟩
          rw [hvn] at hv6
          subst hv6
          have R6 : Hid ((w6.alloc (.cells #[.slice (some ⟨vb, 0, none⟩) vn vc] 41)).ownsRow 0 41 1 uv (Z j).length (Z j)) := by
            have h1 := K6.out.row j hj12
            rw [HUV.out, ← K6.out.zl hj12] at h1
            exact (Tch.alloc (Tch.refl (fun _ => False) w6) _).owns h1 (fun _ _ e => e)
          have HCV : Hid ((w6.alloc (.cells #[.slice (some ⟨vb, 0, none⟩) vn vc] 41)).cell? ⟨w6.heap.size, 0, none⟩ = some (.slice (some ⟨vb, 0, none⟩) vn vc)) := cell_of_row _ _ 0 _ _ (0, 0) (heap_alloc_new w6 _)
          clear ha6 hb6 hf6 KP hvn huv
          go_wp2_with (at_builtin; refine Hid.out ?_)
          refine hideP ?_
          refine wpList_appV _ rfl (.tmp 67) (.tmp 69) rfl uv (Z j) rfl R6.out w6.heap.size (.slice (some ⟨vb, 0, none⟩) vn vc) rfl ⟨_, _, _, rfl⟩ HCV.out HZL.out ?_
          intro v7 w7 hr7 hg7 hf7
          have T7 : Tch (fun k => (U j).ownBlock = some k) w6 w7 := by
            rw [HUV.out]
            exact (Tch.alloc (Tch.refl _ w6) _).trans (Tch.of_grown hg7) (fun _ _ e => e)
          have hq7 : ¬ (U j).ownBlock = some q := fun e => (K6.out.ub j q hj12 e).2.1 rfl
          have cq7 : w7.cell? ⟨q, j, none⟩ = some uv := by rw [T7.cell (p := ⟨q, j, none⟩) K6.out.ql hq7]; exact cq
          have fq7 : w7.frozen? ⟨q, j, none⟩ = false := by rw [T7.frozen (p := ⟨q, j, none⟩) K6.out.ql hq7]; exact fq
          have K7 : Hid (Kp S3 w (w7.setCell ⟨q, j, none⟩ v7) d q s3 (updV U j v7) (updW Z j (Z j ++ [.slice (some ⟨vb, 0, none⟩) vn vc])) (vput Y j (Y j ++ [s3.has j]))) := K6.out.push hj12 A6.out ⟨_, _, _, rfl⟩ F6.out hr7 T7 (fun b hb => by
            rcases hf7 b hb with e | e
            · rw [HUV.out]; exact .inl e
            · simp at e; exact .inr (by omega))
          have HY7 : Hid (∀ i, i < 12 → vput Y j (Y j ++ [s3.has j]) i = if i < j + 1 then [s3.has i] else []) := fun i hi => by
            unfold vput
            by_cases e : i = j
            · subst e
              rw [if_pos rfl, if_pos (by omega), HY.out i hi, if_neg (Nat.lt_irrefl i)]
              rfl
            · rw [if_neg e, HY.out i hi]
              by_cases e2 : i < j
              · rw [if_pos e2, if_pos (by omega)]
              · rw [if_neg e2, if_neg (by omega)]
          obtain ⟨g7, n7, cap7, rfl⟩ := vshape hr7 (by simp)
          clear hr7 hg7 hf7 T7 hq7 R6 HCV K6 F6 A6 cq fq
          go_wp2_with fail
          go_roundw
          case rel => exact ⟨j + 1, _, _, _, by omega, by go_num, K7, HY7⟩
          case measure => simp [intOf]; omega
        · have hji : ¬ (j : Int) < 12 := by omega
          obtain rfl : j = 12 := by omega
          have HY3 : Hid (∀ i, i < 12 → Y i = s3.L.getD i [] :: s3.V i) := fun i hi => by
            rw [HY.out i hi, if_pos hi]
            have h0 : s3.V i = [] := by rw [HLF.out.2.2]
            rw [h0, show s3.has i = s3.L.getD i [] by unfold DS.has; rw [h0]; rfl]
          have HV3 : Hid (∀ i, (s3.V i).length ≤ 0) := fun i => by rw [HLF.out.2.2]; exact Nat.le_refl _
          have HL3 : Hid (s3.L.length = 12 ∧ s3.c = false) := ⟨HLF.out.1, HLF.out.2.1⟩
          clear hj hj12 HY HLF
          go_wp2_with fail
          go_loopw [14] (fun iv wr => ∃ (k : Nat) (S : Nat → Prop) (s : DS) (U : Nat → Value) (Z : Nat → List Value) (Y : Nat → List (List Int)), k ≤ u ∧ iv = .int .i64 k ∧ Hid (Kp S w wr d q s U Z Y) ∧ Hid (∀ i, i < 12 → Y i = s.L.getD i [] :: s.V i) ∧ Hid (∀ i, (s.V i).length ≤ k) ∧ Hid (s.L.length = 12 ∧ s.c = false)) (fun iv _ => u - (intOf iv).toNat)
          case atStart => exact ⟨0, S3, s3, U, Z, Y, Nat.zero_le _, rfl, KP, HY3, HV3, HL3⟩
          case round =>
            clear KP HY3 HV3 HL3
            obtain ⟨k, S, s, U, Z, Y, hk, rfl, KP, HY, HV, HL⟩ := hrel
            by_cases hku : k < u
            · have hki : (k : Int) < (u : Int) := by omega
              have hk0 : (0 : Int) ≤ (k : Int) := by omega
              obtain ⟨xb, xo, rfl, DC⟩ := HZ.out.at_ KP.out.dc.2.1 (k := k) (by rw [HU.out]; exact hku)
              obtain ⟨hxo, hxr⟩ := HZ.out.ok (k := k) (by rw [HU.out]; exact hku)
              obtain ⟨x, hx⟩ : ∃ x, zs[k]'(by rw [HU.out]; exact hku) = x := ⟨_, rfl⟩
              rw [hx] at DC hxo hxr
              have HPA := hideP (fun w => pick_any x.at_ 12 (by decide) (by decide) hxo.a w)
              have HBY := hideP (fun w => deed_bytes x hxo w)
              have HDB : Hid (By (dby x)) := dby_by hxo
              have hp12 := pk_lt x.at_ (n := 12) (by decide)
              obtain ⟨pa, hpa⟩ : ∃ pa, pk x.at_ 12 = pa := ⟨_, rfl⟩
              rw [hpa] at HPA hp12
              generalize hys : dby x = ys at *
              obtain ⟨kind, at_, fill, last, short, pv', ps'⟩ := x
              unfold ddv at HBY
              dsimp only at *
              obtain ⟨cc0, cc1, cc2, cc3, cc4, cc5, hok, hrd⟩ := DC
              dsimp only at *
              clear hx hok hrd hxo hxr hpa hys
              have hpi : (pa : Int) < 12 := by omega
              have hpi2 : (pa : Int) ≤ 11 := by omega
              have hp0 : (0 : Int) ≤ (pa : Int) := by omega
              go_wp2_with fail
              refine (HPA.out _).mono ?_
              clear HPA
              rintro e wr ⟨rfl, rfl⟩
              go_wp2_with fail
              refine (HBY.out _).mono ?_
              clear HBY cc0 cc1 cc2 cc3 cc4 cc5
              rintro e w6 ⟨ov, rfl, ho6, hb6, hf6⟩
              have K6 : Hid (Kp S w w6 d q s U Z Y) := KP.out.below hb6
              have F6 : Hid (∀ b, ov.ownBlock = some b → ¬ S b ∧ b ≠ q ∧ b < w6.heap.size ∧ ∀ i, i < 12 → (U i).ownBlock ≠ some b) := fun b hb => ⟨fun e => by have := KP.out.dc.1.slt b e; have := hf6 b hb; omega, fun e => by have := KP.out.ql; have := hf6 b hb; omega, ho6.lt b hb, fun i hi e => by have := KP.out.ult hi e; have := hf6 b hb; omega⟩
              have A6 : Hid (Rd .u8 w6 ov ys) := ho6.rd
              have HWR := hideP (write_all (pa : Int) ov ys w6 K6.out.dc.1 ho6.rd HDB.out (fun b hb => (F6.out b hb).1) (fun i => by have := HV.out i; omega))
              obtain ⟨oa, oc, hov, _⟩ := ho6.rd
              obtain ⟨vn, hvn⟩ : ∃ vn, ys.length = vn := ⟨_, rfl⟩
              have HVN : Hid (ys.length = vn) := hvn
              rw [hvn] at hov
              subst hov
              clear ho6 hb6 hf6 KP hvn
              by_cases hy : vn = 256
              · have HCD : Hid (wco s (pa : Int) ys.length = 0 ∧ wrr s (pa : Int) ys = s.wr pa ys) := by
                  have hnb : ¬ ((pa : Int) < 0 ∨ (s.L.length : Int) ≤ (pa : Int)) := by rw [HL.out.1]; omega
                  show _ ∧ _
                  unfold wco wrr
                  rw [if_neg hnb, if_neg hnb, HVN.out, if_pos hy, if_pos hy]
                  exact ⟨rfl, rfl⟩
                rw [HCD.out.1, HCD.out.2] at HWR
                clear hy
                go_wp2_with fail
                refine HWR.out.mono ?_
                clear HWR
                rintro e w7 ⟨rfl, hd7⟩
                obtain ⟨S7, hK7, hT7, hN7⟩ := K6.out.to hd7
                have A7 : Hid (Rd .u8 w7 (.slice oa vn oc) ys) := A6.out.tch hT7 (fun b hb => (F6.out b hb).1)
                have K7 : Hid (Kp S7 w w7 d q (s.wr pa ys) U Z Y) := hK7
                have F7 : Hid (∀ b, (Value.slice oa vn oc).ownBlock = some b → ¬ S7 b ∧ b ≠ q ∧ b < w7.heap.size ∧ ∀ i, i < 12 → (U i).ownBlock ≠ some b) := fun b hb => ⟨hN7 b (F6.out b hb).2.2.1 (F6.out b hb).1, (F6.out b hb).2.1, Nat.lt_of_lt_of_le (F6.out b hb).2.2.1 hT7.size, (F6.out b hb).2.2.2⟩
                have cq := K7.out.qc pa hp12
                have fq := K7.out.qf pa
                obtain ⟨uv, huv⟩ : ∃ uv, U pa = uv := ⟨_, rfl⟩
                have HUV : Hid (U pa = uv) := huv
                rw [huv] at cq
                have HZL : Hid ((Z pa).length + 1 ≤ 2000000000000) := by
                  have h1 := K7.out.zl hp12
                  rw [HY.out pa hp12, List.length_cons] at h1
                  have := HV.out pa
                  show _ ≤ _
                  omega
                have R7 : Hid ((w7.alloc (.cells #[.slice oa vn oc] 41)).ownsRow 0 41 1 uv (Z pa).length (Z pa)) := by
                  have h1 := K7.out.row pa hp12
                  rw [HUV.out, ← K7.out.zl hp12] at h1
                  exact (Tch.alloc (Tch.refl (fun _ => False) w7) _).owns h1 (fun _ _ e => e)
                have HCV : Hid ((w7.alloc (.cells #[.slice oa vn oc] 41)).cell? ⟨w7.heap.size, 0, none⟩ = some (.slice oa vn oc)) := cell_of_row _ _ 0 _ _ (0, 0) (heap_alloc_new w7 _)
                clear hd7 hK7 hT7 hN7 K6 F6 A6 huv
                go_wp2_with (at_builtin; refine Hid.out ?_)
                refine hideP ?_
                refine wpList_appV _ rfl (.tmp 97) (.tmp 99) rfl uv (Z pa) rfl R7.out w7.heap.size (.slice oa vn oc) rfl ⟨_, _, _, rfl⟩ HCV.out HZL.out ?_
                intro v8 w8 hr8 hg8 hf8
                have T8 : Tch (fun k => (U pa).ownBlock = some k) w7 w8 := by
                  rw [HUV.out]
                  exact (Tch.alloc (Tch.refl _ w7) _).trans (Tch.of_grown hg8) (fun _ _ e => e)
                have hq8 : ¬ (U pa).ownBlock = some q := fun e => (K7.out.ub pa q hp12 e).2.1 rfl
                have cq8 : w8.cell? ⟨q, pa, none⟩ = some uv := by rw [T8.cell (p := ⟨q, pa, none⟩) K7.out.ql hq8]; exact cq
                have fq8 : w8.frozen? ⟨q, pa, none⟩ = false := by rw [T8.frozen (p := ⟨q, pa, none⟩) K7.out.ql hq8]; exact fq
                have K8 : Hid (Kp S7 w (w8.setCell ⟨q, pa, none⟩ v8) d q (s.wr pa ys) (updV U pa v8) (updW Z pa (Z pa ++ [.slice oa vn oc])) (vput Y pa (Y pa ++ [ys]))) := K7.out.push hp12 A7.out ⟨_, _, _, rfl⟩ F7.out hr8 T8 (fun b hb => by
                  rcases hf8 b hb with e | e
                  · rw [HUV.out]; exact .inl e
                  · simp at e; exact .inr (by omega))
                obtain ⟨hwV, hwL⟩ := wr_full HL.out.2 pa ys
                have HY8 : Hid (∀ i, i < 12 → vput Y pa (Y pa ++ [ys]) i = (s.wr pa ys).L.getD i [] :: (s.wr pa ys).V i) := fun i hi => by
                  rw [hwV, hwL]
                  unfold vput
                  by_cases e : i = pa
                  · rw [if_pos e, if_pos e, HY.out pa hp12, e]; rfl
                  · rw [if_neg e, if_neg e]; exact HY.out i hi
                have HV8 : Hid (∀ i, ((s.wr pa ys).V i).length ≤ k + 1) := fun i => by have := wr_V_le s pa ys i; have := HV.out i; omega
                have HL8 : Hid ((s.wr pa ys).L.length = 12 ∧ (s.wr pa ys).c = false) := ⟨by rw [hwL]; exact HL.out.1, by rw [wr_c]; exact HL.out.2⟩
                obtain ⟨g8, n8, cap8, rfl⟩ := vshape hr8 (by simp)
                clear hr8 hg8 hf8 T8 hq8 R7 HCV K7 F7 A7 cq fq hwV hwL HCD
                go_wp2_with fail
                go_roundw
                case rel => exact ⟨k + 1, S7, _, _, _, _, by omega, by go_num, K8, HY8, HV8, HL8⟩
                case measure => simp [intOf]; omega
              · have HCD : Hid (wco s (pa : Int) ys.length = 1 ∧ wrr s (pa : Int) ys = s) := by
                  have hnb : ¬ ((pa : Int) < 0 ∨ (s.L.length : Int) ≤ (pa : Int)) := by rw [HL.out.1]; omega
                  show _ ∧ _
                  unfold wco wrr
                  rw [if_neg hnb, if_neg hnb, HVN.out, if_neg hy, if_neg hy]
                  exact ⟨rfl, rfl⟩
                rw [HCD.out.1, HCD.out.2] at HWR
                have HV8 : Hid (∀ i, (s.V i).length ≤ k + 1) := fun i => by have := HV.out i; omega
                clear hy
                go_wp2_with fail
                refine HWR.out.mono ?_
                clear HWR
                rintro e w7 ⟨rfl, hd7⟩
                obtain ⟨S7, hK7, _, _⟩ := K6.out.to hd7
                have K7 : Hid (Kp S7 w w7 d q s U Z Y) := hK7
                clear hd7 hK7
                go_wp2_with fail
                go_roundw
                case rel => exact ⟨k + 1, S7, _, _, _, _, by omega, by go_num, K7, HY, HV8, HL⟩
                case measure => simp [intOf]; omega
            · have hki : ¬ (k : Int) < (u : Int) := by omega
              have HPO := hideP (power_any pv ps wr KP.out.dc.1 (HP.out.below KP.out.dc.2.1) (fun b hb h0 e => by have := HP.out.blk h0 b hb; have := KP.out.dc.2.2 b e; omega) (fun i => by have := HV.out i; omega))
              have HMM : Hid (∀ i, i < 12 → (s.pw ps).has i ∈ Y i) := fun i hi => by rw [HY.out i hi]; exact pw_mem s ps (Dk.out_V KP.out.dc.1) i
              have HL4 : Hid ((s.pw ps).L.length = 12) := by rw [pw_len]; exact HL.out.1
              have HV4 : Hid (∀ i, (s.pw ps).V i = []) := fun i => pw_V s ps (Dk.out_V KP.out.dc.1) i
              have HYL : Hid (∀ i, i < 12 → ((Y i).length ≤ 1048577 ∧ 0 < (Y i).length)) := fun i hi => by rw [HY.out i hi, List.length_cons]; have := HV.out i; omega
              have HYO : Hid (∀ i, i < 12 → ∀ y ∈ Y i, y.length = 256) := fun i hi y hy => by
                rw [HY.out i hi] at hy
                obtain ⟨_, _, _, gg, hdk⟩ := KP.out.dc.1
                rcases List.mem_cons.1 hy with e | e
                · rw [e]; exact (hdk.lies.1.get (by rw [HL.out.1]; exact hi)).1
                · cases hg : gg i with
                  | none => rw [hdk.no i hg] at e; cases e
                  | some v => exact ((hdk.yes i v hg).2.2.1.1 y e).1
              clear hku hk
              go_wp2_with fail
              refine HPO.out.mono ?_
              clear HPO
              rintro e w3 ⟨rfl, hd3⟩
              obtain ⟨S4, hK4, _, _⟩ := KP.out.to hd3
              have K4 : Hid (Kp S4 w w3 d q (s.pw ps) U Z Y) := hK4
              clear hd3 hK4 KP HY HV HL
              generalize s.pw ps = s4 at *
              go_wp2_with fail
              go_loopw [17] (fun iv wr => ∃ i : Nat, i ≤ 12 ∧ iv = .int .i64 i ∧ Hid (Kp S4 w wr d q s4 U Z Y)) (fun iv _ => 12 - (intOf iv).toNat)
              case atStart => exact ⟨0, Nat.zero_le _, rfl, K4⟩
              case round =>
                clear K4
                obtain ⟨i, hi, rfl, KP⟩ := hrel
                by_cases hi12 : i < 12
                · have hii : (i : Int) < 12 := by omega
                  have hii2 : (i : Int) ≤ 11 := by omega
                  have hi0 : (0 : Int) ≤ (i : Int) := by omega
                  have HRD := hideP (read_ok i wr KP.out.dc.1 (by rw [HL4.out]; exact hi12))
                  go_wp2_with fail
                  refine HRD.out.mono ?_
                  clear HRD
                  rintro e w6 ⟨x6, rfl, ha6, hb6, hf6⟩
                  have K6 : Hid (Kp S4 w w6 d q s4 U Z Y) := KP.out.below hb6
                  have A6 : Hid (Rd .u8 w6 x6 (s4.has i)) := ha6.rd
                  have HX6 : Hid ((s4.has i).length = 256) := Dk.has_len KP.out.dc.1 (by rw [HL4.out]; exact hi12)
                  have HME : Hid (s4.has i ∈ Y i) := HMM.out i hi12
                  generalize s4.has i = X at *
                  obtain ⟨n, hn⟩ : ∃ n, (Y i).length = n := ⟨_, rfl⟩
                  have HNN : Hid ((Y i).length = n) := hn
                  have hnl : n ≤ 1048577 ∧ 0 < n := by rw [← hn]; exact HYL.out i hi12
                  obtain ⟨hnl1, hnl2⟩ := hnl
                  obtain ⟨g, cap, hUg⟩ : ∃ g cap, U i = .slice (some ⟨g, 0, none⟩) n cap := by
                    rcases (KP.out.row i hi12).2 with ⟨_, e⟩ | ⟨g, cap, cur, e, _⟩
                    · omega
                    · exact ⟨g, cap, by rw [e, hn]⟩
                  have HUG : Hid (U i = .slice (some ⟨g, 0, none⟩) n cap) := hUg
                  have I6 : Hid (Kp S4 w w6 d q s4 U Z Y ∧ Rd .u8 w6 x6 X) := ⟨K6.out, A6.out⟩
                  clear ha6 hb6 hf6 KP hn hUg K6 A6
                  go_wp2_with fail
                  go_loopw [20, 21] (fun fv kv wr => ∃ m : Nat, m ≤ n ∧ kv = .int .i64 m ∧ fv = .bool (decide (X ∈ (Y i).take m)) ∧ Hid (Kp S4 w wr d q s4 U Z Y ∧ Rd .u8 wr x6 X)) (fun _ kv _ => n - (intOf kv).toNat)
                  case atStart => exact ⟨0, Nat.zero_le _, rfl, by simp, I6⟩
                  case round =>
                    clear I6
                    obtain ⟨m, hm, rfl, rfl, J⟩ := hrel
                    have cq := J.out.1.qc i hi12
                    rw [HUG.out] at cq
                    by_cases hmn : m < n
                    · have hmi : (m : Int) < (n : Int) := by omega
                      have hm0 : (0 : Int) ≤ (m : Int) := by omega
                      obtain ⟨v, hv⟩ : ∃ v, (Z i)[m]? = some v := ⟨_, List.getElem?_eq_getElem (by rw [J.out.1.zl hi12, HNN.out]; exact hmn)⟩
                      obtain ⟨hv1, hv2, _⟩ := J.out.1.el i m v hi12 hv
                      have cg : wr.cell? ⟨g, m, none⟩ = some v := by
                        have hr := J.out.1.row i hi12
                        rw [HUG.out, HNN.out] at hr
                        rw [hr.cellAt m (by omega)]
                        exact hv
                      have hym : (Y i).getD m [] ∈ Y i := by
                        rw [List.getD_eq_getElem?_getD, List.getElem?_eq_getElem (by rw [HNN.out]; exact hmn)]
                        exact List.getElem_mem _
                      have HSM := hideP (same_gen x6 v X ((Y i).getD m []) wr J.out.2 hv1 (by rw [HX6.out, HYO.out i hi12 _ hym]) (fun e => by have := HX6.out; rw [e] at this; cases this))
                      have HTK : Hid (decide (X ∈ (Y i).take (m + 1)) = (decide (X ∈ (Y i).take m) || decide (X = (Y i).getD m []))) := by
                        show _ = _
                        rw [List.take_add_one, List.getElem?_eq_getElem (by rw [HNN.out]; exact hmn), List.getD_eq_getElem?_getD, List.getElem?_eq_getElem (by rw [HNN.out]; exact hmn)]
                        simp only [Option.toList_some, Option.getD_some, List.mem_append, List.mem_singleton, Bool.decide_or]
                      obtain ⟨va, vn, vc, rfl⟩ := hv2
                      obtain ⟨z, hz⟩ : ∃ z, decide (X = (Y i).getD m []) = z := ⟨_, rfl⟩
                      obtain ⟨f, hf⟩ : ∃ f, decide (X ∈ (Y i).take m) = f := ⟨_, rfl⟩
                      rw [hz] at HSM HTK
                      rw [hf] at HTK
                      rw [hf]
                      clear hz hf hv hv1 hym
                      cases f with
                      | true =>
                        go_wp2_with fail
                        refine HSM.out.mono ?_
                        clear HSM cq cg
                        rintro e w7 ⟨rfl, hb7⟩
                        have J7 : Hid (Kp S4 w w7 d q s4 U Z Y ∧ Rd .u8 w7 x6 X) := ⟨J.out.1.below hb7, J.out.2.below hb7⟩
                        clear hb7 J
                        go_wp2_with fail
                        all_goals exact ⟨⟨m + 1, by omega, by go_num, by rw [HTK.out]; rfl, J7⟩, by simp [intOf]; omega⟩
                      | false =>
                        go_wp2_with fail
                        refine HSM.out.mono ?_
                        clear HSM cq cg
                        rintro e w7 ⟨rfl, hb7⟩
                        have J7 : Hid (Kp S4 w w7 d q s4 U Z Y ∧ Rd .u8 w7 x6 X) := ⟨J.out.1.below hb7, J.out.2.below hb7⟩
                        clear hb7 J
                        go_wp2_with fail
                        all_goals exact ⟨⟨m + 1, by omega, by go_num, by rw [HTK.out]; rfl, J7⟩, by simp [intOf]; omega⟩
                    · have hmi : ¬ (m : Int) < (n : Int) := by omega
                      have hfd : decide (X ∈ (Y i).take m) = true := by rw [decide_eq_true_eq, List.take_of_length_le (by rw [HNN.out]; omega)]; exact HME.out
                      rw [hfd]
                      have J8 : Hid (Kp S4 w wr d q s4 U Z Y) := J.out.1
                      clear hfd hmn hm J
                      by_cases hn1 : n = 1
                      · have hnI : ((n : Int) == 1) = true := by rw [hn1]; rfl
                        subst hn1
                        go_wp2_with fail
                        all_goals exact ⟨⟨i + 1, by omega, by go_num, J8⟩, by simp [intOf]; omega⟩
                      · have hnI : ((n : Int) == 1) = false := by rw [beq_eq_false_iff_ne]; omega
                        go_wp2_with fail
                        all_goals exact ⟨⟨i + 1, by omega, by go_num, J8⟩, by simp [intOf]; omega⟩
                · have hii : ¬ (i : Int) < 12 := by omega
                  have HDY := hideP (dirty_any wr KP.out.dc.1)
                  have HD0 : Hid (s4.dirty.map Int.ofNat = []) := by
                    have hd : s4.dirty = [] := by
                      unfold DS.dirty
                      rw [List.filter_eq_nil_iff]
                      intro j _
                      simp [HV4.out j]
                    rw [hd]; rfl
                  have B7 : Hid (Below w.heap.size w wr) := KP.out.dc.2.1
                  clear KP hi hi12
                  go_wp2_with fail
                  refine HDY.out.mono ?_
                  clear HDY
                  rintro e w8 ⟨dv, rfl, ho8, hb8, hf8⟩
                  rw [HD0.out] at ho8
                  obtain ⟨da, dc, hdv, _⟩ := ho8.rd
                  simp only [List.length_nil] at hdv
                  subst hdv
                  have B8 : Hid (Below w.heap.size w w8) := B7.out.trans (hb8.mono B7.out.size)
                  clear ho8 hb8 hf8
                  go_wp2_with fail
                  refine (HLV.out _).mono ?_
                  rintro e w9 ⟨rfl, hb9⟩
                  have B9 : Hid (Below w.heap.size w w9) := B8.out.trans (hb9.mono B8.out.size)
                  clear hb9
                  go_wp2_with fail
                  go_ret
                  exact ⟨by first | rfl | simp, B9.out⟩
end Go.Proofs.Ytmohbkhdloggeaa
