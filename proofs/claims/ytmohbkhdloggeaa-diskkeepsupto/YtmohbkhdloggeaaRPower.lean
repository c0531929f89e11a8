/-
  The power goes: the document's.
-/
import Derived.Test.YtmohbkhdloggeaaRFlush
import Derived.Test.YtmohbkhdloggeaaDLives
import Derived.Deep.RegionHeld3
namespace Go.Proofs.Ytmohbkhdloggeaa
open Go.RowKit Go.Maps
set_option linter.unusedVariables false
set_option linter.unusedSimpArgs false
set_option maxRecDepth 100000

theorem pers_cl (s : DS) (c : Bool) (l : Nat) (ds : List Nat) (ps : List Int) : ∀ k, ({ s with c := c, l := l } : DS).pers ds ps k = { s.pers ds ps k with c := c, l := l }
  | 0 => rfl
  | k + 1 => by
    rw [DS.pers, DS.pers, pers_cl s c l ds ps k]
    rfl

/-- The pick's remainder, as the document has it. -/
theorem rem_pos {p : Int} {m : Nat} (h : ¬ p.tmod ((m : Int) + 1) < 0) : p.tmod ((m : Int) + 1) = (rem p m : Int) := by
  have hb : (0 : Int) < (m : Int) + 1 := by omega
  have H := tmod_mod p _ hb
  have h2 : p.tmod ((m : Int) + 1) < (m : Int) + 1 := Int.tmod_lt_of_pos p hb
  unfold rem
  rw [← H]
  generalize p.tmod ((m : Int) + 1) = x at *
  have e : (x + ((m : Int) + 1)).tmod ((m : Int) + 1) = x := by rw [Int.tmod_eq_emod_of_nonneg (by omega), Int.add_emod_right, Int.emod_eq_of_lt (by omega) h2]
  rw [e]
  omega
theorem rem_neg {p : Int} {m : Nat} (h : p.tmod ((m : Int) + 1) < 0) : p.tmod ((m : Int) + 1) + m + 1 = (rem p m : Int) := by
  have hb : (0 : Int) < (m : Int) + 1 := by omega
  have H := tmod_mod p _ hb
  have h1 : -((m : Int) + 1) < p.tmod ((m : Int) + 1) := neg_lt_tmod p hb
  unfold rem
  rw [← H]
  generalize p.tmod ((m : Int) + 1) = x at *
  have e : (x + ((m : Int) + 1)).tmod ((m : Int) + 1) = x + ((m : Int) + 1) := by rw [Int.tmod_eq_emod_of_nonneg (by omega), Int.emod_eq_of_lt (by omega) (by omega)]
  rw [e]
  omega

set_option maxHeartbeats 4000000 in
theorem refPower_any {R : Nat → Prop} {r : Nat} {s : DS} (pv : Value) (ps : List Int) (w : World) (h : Rf R w r s) (hr : Rd .i64 w pv ps) (hp : ∀ k, pv.ownBlock = some k → ps ≠ [] → ¬ R k) (hV : ∀ i, (s.V i).length < 274877906944) :
    Calls Try.prog 31 #[dp r, pv] w fun e w' => e = .returned (.tuple #[]) ∧ RfTo R w w' r (s.pw ps) := by
  obtain ⟨lb, cp, A, B, x, W, h⟩ := h
  have c1 := h.c1
  have f1 := h.fz 1
  have HR : Hid (Rd .i64 w pv ps) := hr
  obtain ⟨a, cap, rfl, hpl, hcm, _⟩ := hr
  have HP : Hid (∀ k, (Value.slice a ps.length cap).ownBlock = some k → ps ≠ [] → ¬ R k) := hp
  have HPL : Hid (ps.length ≤ 9223372036854775807) := by show _ ≤ _; unfold maxLen at hcm; omega
  obtain ⟨m, hm⟩ : ∃ m, ps.length = m := ⟨_, rfl⟩
  have HM : Hid (ps.length = m) := hm
  rw [hm] at HR HP HPL ⊢
  have hm63 : (m : Int) ≤ 9223372036854775807 := by have := HPL.out; omega
  obtain ⟨s0, hs0⟩ : ∃ s0 : DS, { s with c := false, l := 0 } = s0 := ⟨_, rfl⟩
  have HPW : Hid (s.pw ps = s0.pers s0.dirty ps s0.dirty.length) := by
    show _ = _
    rw [← hs0]
    exact (pers_cl s false 0 s.dirty ps s.dirty.length).symm
  obtain ⟨W0, hW0⟩ : ∃ W0, w.setCell ⟨r, 1, none⟩ (.bool false) = W0 := ⟨_, rfl⟩
  have T0 : Hid (Tch R w W0) := by rw [← hW0]; exact (tch_set w r 1 _).mono (fun k _ e => by rw [e]; exact h.rr)
  have X0 : Hid (RfAt R W0 r s0 lb cp A B x W) := by
    show RfAt R W0 r s0 lb cp A B x W
    rw [← hW0, ← hs0]
    refine h.cut false 0 x (by decide) (fun e => by cases e) h.xlo h.xhi (tch_set w r 1 _) ?_
    rw [heap_setCell_same w r 1 _ _ (.bool false) h.box]
    rfl
  have HV : Hid (∀ i, (s0.V i).length < 274877906944) := by rw [← hs0]; exact hV
  have HX0 : Hid (Rf R W0 r s0) := ⟨_, _, _, _, _, _, X0.out⟩
  have HDY := hideP (refDirty_any W0 HX0.out HV.out)
  have HN : Hid (1 ≤ s0.L.length ∧ s0.L.length ≤ 4096) := ⟨X0.out.n1, X0.out.n2⟩
  clear h hp hV hcm hpl hm hs0 X0
  go_enter Try.func31, Try.ntmps31
  go_wp2_with fail
  clear hW0
  refine HDY.out.mono ?_
  clear HDY
  rintro e w1 ⟨dv, rfl, ho1, hb1, hf1⟩
  have B1 : Hid (Below W0.heap.size W0 w1) := hb1
  have TB : Hid (Tch R w w1) := T0.out.trans (Tch.of_below hb1) (fun _ _ e => e)
  have D1 : Hid (Rf R w1 r s0) := by
    obtain ⟨lb, cp, A, B, x, W, h⟩ := HX0.out
    exact ⟨_, _, _, _, _, _, h.tch (S := fun _ => False) (Tch.of_below hb1) (fun _ _ e => e)⟩
  have F1 : Hid (∀ k, dv.ownBlock = some k → W0.heap.size ≤ k ∧ k < w1.heap.size) := fun k hk => ⟨hf1 k hk, ho1.lt k hk⟩
  have HRD : Hid (∀ k, R k → k < W0.heap.size) := by obtain ⟨lb, cp, A, B, x, W, h⟩ := HX0.out; exact h.rlt
  have HLN : Hid (s0.dirty.length ≤ 4096) := by have := dirty_len s0; have := HN.out.2; show _ ≤ _; omega
  have OD : Hid (Owns .i64 3 w1 dv (s0.dirty.map Int.ofNat)) := ho1
  obtain ⟨da, dc, hdv, hdl, hdm, hdn, hdc⟩ := ho1.rd
  rw [List.length_map] at hdv hdl hdc
  subst hdv
  have HDC : Hid ((s0.dirty.map Int.ofNat) = [] ∨ ∃ b o, da = some ⟨b, o, none⟩ ∧ ∀ i, i < s0.dirty.length → w1.cell? ⟨b, o + i, none⟩ = some (.int .i64 ((s0.dirty.map Int.ofNat).getD i 0))) := hdc
  obtain ⟨t, ht⟩ : ∃ t, s0.dirty.length = t := ⟨_, rfl⟩
  have HT : Hid (s0.dirty.length = t) := ht
  have htb : t ≤ 4096 := by rw [← ht]; exact HLN.out
  rw [ht] at HDC OD F1 HPW ⊢
  clear ho1 hb1 hf1 hdl hdm hdn hdc ht
  go_wp2_with fail
  go_loopw [5] (fun kv wr => ∃ (k : Nat), k ≤ t ∧ kv = .int .i64 k ∧ Hid (RfTo R w1 wr r (s0.pers s0.dirty ps k))) (fun kv _ => t - (intOf kv).toNat)
  case atStart => exact ⟨0, Nat.zero_le _, rfl, D1.out.to⟩
  case round =>
    obtain ⟨k, hk, rfl, DK⟩ := hrel
    by_cases hkt : k < t
    · have hki : (k : Int) < (t : Int) := by omega
      have hk0 : (0 : Int) ≤ (k : Int) := by omega
      obtain ⟨hA1, hA2, hA3⟩ := pers_at (s := s0) (ps := ps) (k := k) (by rw [HT.out]; exact hkt)
      obtain ⟨R2, ⟨lb2, cp2, A2, B2, x2, W2, hX⟩, hTx, hRx⟩ := DK.out
      obtain ⟨db, dO, rfl, hcell⟩ : ∃ b o, da = some ⟨b, o, none⟩ ∧ ∀ i, i < t → w1.cell? ⟨b, o + i, none⟩ = some (.int .i64 ((s0.dirty.map Int.ofNat).getD i 0)) := by
        rcases HDC.out with e | e
        · have := congrArg List.length e
          rw [List.length_map, HT.out] at this
          simp at this
          omega
        · exact e
      have hF := F1.out db rfl
      have HNR : Hid (¬ R db) := fun e => by have := HRD.out db e; have := hF.1; omega
      have ck : wr.cell? ⟨db, dO + k, none⟩ = some (.int .i64 ((s0.dirty.getD k 0 : Nat) : Int)) := by
        have h0 := hcell k hkt
        rw [hTx.cell (p := ⟨db, dO + k, none⟩) (World.block_lt_of_cell? w1 ⟨db, dO + k, none⟩ h0) HNR.out, h0]
        simp [List.getD_eq_getElem?_getD, List.getElem?_eq_getElem (show k < s0.dirty.length by rw [HT.out]; exact hkt)]
      have HPK : Hid (k < m → ∃ pb pO, a = some ⟨pb, pO, none⟩ ∧ wr.cell? ⟨pb, pO + k, none⟩ = some (.int .i64 (ps.getD k 0))) := fun hkm => by
        obtain ⟨a', cap', e, _, _, _, hcc⟩ := HR.out
        simp only [Value.slice.injEq] at e
        obtain ⟨rfl, _, rfl⟩ := e
        rcases hcc with e | ⟨b, o, rfl, hc⟩
        · rw [e] at HM; have := HM.out; simp at this; omega
        · have hpc := hc k (by rw [HM.out]; exact hkm)
          have hlt := World.block_lt_of_cell? w ⟨b, o + k, none⟩ hpc
          have hnR : ¬ R b := HP.out b rfl (fun e2 => by have := HM.out; rw [e2] at this; simp at this; omega)
          refine ⟨b, o, rfl, ?_⟩
          rw [hTx.cell (p := ⟨b, o + k, none⟩) (Nat.lt_of_lt_of_le hlt TB.out.size) hnR, TB.out.cell (p := ⟨b, o + k, none⟩) hlt hnR]
          exact hpc
      obtain ⟨i, hi⟩ : ∃ i, s0.dirty.getD k 0 = i := ⟨_, rfl⟩
      have HST : Hid (s0.pers s0.dirty ps (k + 1) = (s0.pers s0.dirty ps k).per i (ps.getD k 0)) := by show _ = _; rw [DS.pers, hi]
      rw [hi] at ck hA1 hA2 hA3
      obtain ⟨sk, hsk⟩ : ∃ sk, s0.pers s0.dirty ps k = sk := ⟨_, rfl⟩
      have HLL : Hid (sk.L.length = s0.L.length) := by rw [← hsk]; exact pers_L _ _ _ _
      rw [hsk] at hX HST hA2
      obtain ⟨n, hn⟩ : ∃ n, sk.L.length = n := ⟨_, rfl⟩
      have HI : Hid (i < sk.L.length) := by show _ < _; rw [HLL.out]; exact hA1
      have hin : (i : Int) < (n : Int) := by rw [← hn]; have := HI.out; omega
      have hi0 : (0 : Int) ≤ (i : Int) := by omega
      have hn2 : n ≤ 4096 := by rw [← hn]; exact hX.n2
      have c0 := hX.c0
      rw [hn] at c0
      have ca := hX.ca HI.out
      have cb := hX.cb HI.out
      have HX : Hid (RfAt R2 wr r sk lb2 cp2 A2 B2 x2 W2) := hX
      have HTX : Hid (Tch R w1 wr) := hTx
      have HRX : Hid (∀ j, R2 j → R j ∨ w1.heap.size ≤ j) := hRx
      obtain ⟨ag, acap, hA⟩ := (hX.la i HI.out).sh (hX.okL.get HI.out).1
      have hB := hX.bsh HI.out
      rw [hA2] at hB
      rcases hB with ⟨_, e⟩ | ⟨g, vcap, hb, hc1, hc2, hwl, hwc⟩
      · exact absurd e hA3
      rw [hA] at ca
      rw [hb] at cb
      obtain ⟨q, hq⟩ : ∃ q, (s0.V i).length = q := ⟨_, rfl⟩
      have HQ : Hid ((sk.V i).length = q) := by rw [hA2]; exact hq
      have hq0 : (q : Int) > 0 := by
        have : q ≠ 0 := fun e => hA3 (List.eq_nil_of_length_eq_zero (hq.trans e))
        omega
      have hqM : q < 274877906944 := by rw [← hq]; exact HV.out i
      rw [hq] at cb hc1
      have HWC : Hid (∀ j, j < q → ∃ u, (W2 i)[j]? = some u ∧ wr.cell? ⟨g, j, none⟩ = some u) := fun j hj => by
        obtain ⟨u, hu⟩ : ∃ u, (W2 i)[j]? = some u := ⟨_, List.getElem?_eq_getElem (by omega)⟩
        exact ⟨u, hu, hwc _ _ hu⟩
      have HA : Hid (A2 i = .slice (some ⟨ag, 0, none⟩) 256 acap) := hA
      clear hA hb hc1 hc2 hwl hwc hq hn hX hTx hRx hF hcell hA1 hA2 hA3 hi DK hsk
      obtain ⟨nb, hnb⟩ : ∃ nb, wr.heap.size = nb := ⟨_, rfl⟩
      obtain ⟨W5, hW5⟩ : ∃ W5, (wr.alloc (.cells #[.slice (some ⟨ag, 0, none⟩) 256 acap, .slice (some ⟨g, 0, none⟩) q vcap] 67)).drew = W5 := ⟨_, rfl⟩
      have B5 : Hid (Below nb wr W5) := by rw [← hW5, ← hnb]; exact ((Below.refl _ _).alloc (Nat.le_refl _) _).drew
      have H5 : W5.heap[nb]? = some (.cells #[.slice (some ⟨ag, 0, none⟩) 256 acap, .slice (some ⟨g, 0, none⟩) q vcap] 67 (0, 0)) := by rw [← hW5, ← hnb]; exact heap_alloc_new wr _
      have n0 := cell_of_row W5 nb 0 _ _ (0, 0) H5
      have n1 := cell_of_row W5 nb 1 _ _ (0, 0) H5
      have z0 := frozen_of_row W5 nb 0 _ _ H5
      have z1 := frozen_of_row W5 nb 1 _ _ H5
      have HBX : Hid (∀ b o v, wr.cell? ⟨b, o, none⟩ = some v → b < nb) := fun b o v hv => by rw [← hnb]; exact World.block_lt_of_cell? wr ⟨b, o, none⟩ hv
      have H5H : Hid (W5.heap[nb]? = some (.cells #[.slice (some ⟨ag, 0, none⟩) 256 acap, .slice (some ⟨g, 0, none⟩) q vcap] 67 (0, 0))) := H5
      have HNB : Hid (wr.heap.size = nb) := hnb
      have HW5 : Hid ((wr.alloc (.cells #[.slice (some ⟨ag, 0, none⟩) 256 acap, .slice (some ⟨g, 0, none⟩) q vcap] 67)).drew = W5) := hW5
      clear hnb hW5 H5
      have HNE : Hid (∀ b o v, wr.cell? ⟨b, o, none⟩ = some v → b ≠ nb) := fun b o v hv e => by have := HBX.out b o v hv; omega
      by_cases hkm : k < m
      · obtain ⟨pb, pO, rfl, cp⟩ := HPK.out hkm
        obtain ⟨p, hp⟩ : ∃ p, ps.getD k 0 = p := ⟨_, rfl⟩
        have HPP : Hid (ps.getD k 0 = p) := hp
        rw [hp] at cp
        clear hp HPK
        have cp5 : W5.cell? ⟨pb, pO + k, none⟩ = some (.int .i64 p) := by rw [B5.out.cell (p := ⟨pb, pO + k, none⟩) (HBX.out _ _ _ cp)]; exact cp
        have hb0 : ((q : Int) + 1 == 0) = false := by rw [beq_eq_false_iff_ne]; omega
        have hbm : ((q : Int) + 1 == -1) = false := by rw [beq_eq_false_iff_ne]; omega
        have hbz : (q : Int) + 1 ≠ 0 := by omega
        have hX1 : -((q : Int) + 1) < p.tmod ((q : Int) + 1) := neg_lt_tmod p (by omega)
        have hX2 : p.tmod ((q : Int) + 1) < (q : Int) + 1 := Int.tmod_lt_of_pos p (by omega)
        have hrl := rem_lt p q
        obtain ⟨e, he⟩ : ∃ e, rem p q = e := ⟨_, rfl⟩
        rw [he] at hrl
        have hkmi : (k : Int) < (m : Int) := by omega
        have HRM : Hid (rem (ps.getD k 0) q = e) := by rw [HPP.out]; exact he
        by_cases hneg : p.tmod ((q : Int) + 1) < 0
        · have hE := rem_neg hneg
          rw [he] at hE
          obtain ⟨X, hX⟩ : ∃ X, p.tmod ((q : Int) + 1) = X := ⟨_, rfl⟩
          rw [hX] at hneg hE hX1 hX2
          have he0 : (e : Int) > 0 := by omega
          obtain ⟨j, hj⟩ : ∃ j : Nat, e = j + 1 := ⟨e - 1, by omega⟩
          have HJ : Hid (e = j + 1) := hj
          have hje : (e : Int) - 1 = (j : Int) := by omega
          have hjq : (j : Int) < (q : Int) := by omega
          have hj0 : (0 : Int) ≤ (j : Int) := by omega
          clear hj he HA
          go_wp2_with fail
          go_region_held3 (fun w' => w'.cell? ⟨r, 0, none⟩ = some (.slice (some ⟨lb2, 0, none⟩) n cp2) ∧ w'.cell? ⟨db, dO + k, none⟩ = some (.int .i64 (i : Int)) ∧ w'.cell? ⟨lb2, i * 2, none⟩ = some (.slice (some ⟨ag, 0, none⟩) 256 acap) ∧ w'.cell? ⟨lb2, i * 2 + 1, none⟩ = some (.slice (some ⟨g, 0, none⟩) q vcap)) (go_keep) (fail)
          rw [HW5.out, HNB.out]
          clear HW5
          go_wp2_with fail
          go_quiet (fail)
          obtain ⟨W6, hW6⟩ : ∃ W6, W5.drewN nq = W6 := ⟨_, rfl⟩
          rw [hW6]
          have HT6 : Hid (Tch (fun j => nb ≤ j) wr W6) := by rw [← hW6]; exact Tch.trans (b := W5) (S' := fun j => nb ≤ j) (Tch.of_below (S := fun j => nb ≤ j) (by rw [HNB.out]; exact B5.out)) ⟨rfl, rfl, rfl, Nat.le_refl _, fun _ _ _ => rfl⟩ (fun _ _ e => e)
          have H6 : Hid (W6.heap[nb]? = some (.cells #[.slice (some ⟨ag, 0, none⟩) 256 acap, .slice (some ⟨g, 0, none⟩) q vcap] 67 (0, 0))) := by rw [← hW6]; exact H5H.out
          clear hW6 cp5 n0 n1 z0 z1
          have n06 := cell_of_row W6 nb 0 _ _ (0, 0) H6.out
          have n16 := cell_of_row W6 nb 1 _ _ (0, 0) H6.out
          have z06 := frozen_of_row W6 nb 0 _ _ H6.out
          have z16 := frozen_of_row W6 nb 1 _ _ H6.out
          obtain ⟨u, hu, hcu⟩ := HWC.out j (by omega)
          have HUO : Hid (Owns .u8 5 wr u ((sk.V i).getD j [])) := HX.out.lw i j u HI.out hu
          have HYO : Hid (((sk.V i).getD j []).length = 256 ∧ By ((sk.V i).getD j [])) := (HX.out.okV i).get (by rw [HQ.out]; omega)
          have HUR : Hid (∀ j, u.ownBlock = some j → R2 j) := fun b hb => HX.out.rv i j u b HI.out hu hb
          have HPE : Hid (sk.per i (ps.getD k 0) = { sk with L := sk.L.set i ((sk.V i).getD j []), V := vput sk.V i [] }) := by
            show _ = _
            unfold DS.per
            rw [HQ.out, HRM.out, if_pos (by omega), show e - 1 = j by omega]
          obtain ⟨ug, ucap, rfl⟩ := HUO.out.sh HYO.out.1
          have cu6 : W6.cell? ⟨g, j, none⟩ = some (.slice (some ⟨ug, 0, none⟩) 256 ucap) := by rw [HT6.out.cell (p := ⟨g, j, none⟩) (by rw [HNB.out]; exact HBX.out _ _ _ hcu) (by have := HBX.out _ _ _ hcu; show ¬ nb ≤ g; omega)]; exact hcu
          have T7 : Hid (Tch (fun j => nb ≤ j) wr ((W6.setCell ⟨nb, 0, none⟩ (.slice (some ⟨ug, 0, none⟩) 256 ucap)).setCell ⟨nb, 1, none⟩ (.slice none 0 0))) := HT6.out.trans ((tch_set W6 nb 0 _).trans (tch_set _ nb 1 _) (fun _ _ e => e)) (fun j _ e => by rw [e]; exact Nat.le_refl _)
          have H7 : Hid (((W6.setCell ⟨nb, 0, none⟩ (.slice (some ⟨ug, 0, none⟩) 256 ucap)).setCell ⟨nb, 1, none⟩ (.slice none 0 0)).heap[nb]? = some (.cells #[.slice (some ⟨ug, 0, none⟩) 256 ucap, .slice none 0 0] 67 (0, 0))) := heap_setCell_same _ nb 1 _ _ _ (heap_setCell_same W6 nb 0 _ _ _ H6.out)
          obtain ⟨W7, hW7⟩ : ∃ W7, (W6.setCell ⟨nb, 0, none⟩ (.slice (some ⟨ug, 0, none⟩) 256 ucap)).setCell ⟨nb, 1, none⟩ (.slice none 0 0) = W7 := ⟨_, rfl⟩
          rw [hW7] at T7 H7
          have HT7 : Hid (Tch (fun j => nb ≤ j) wr W7) := T7
          have HW7 : Hid ((W6.setCell ⟨nb, 0, none⟩ (.slice (some ⟨ug, 0, none⟩) 256 ucap)).setCell ⟨nb, 1, none⟩ (.slice none 0 0) = W7) := hW7
          clear hW7 T7 hu hcu HWC
          go_wp2_with fail
          rw [HW7.out]
          clear HW7
          have c07 : W7.cell? ⟨r, 0, none⟩ = some (.slice (some ⟨lb2, 0, none⟩) n cp2) := by rw [HT7.out.cell (p := ⟨r, 0, none⟩) (by rw [HNB.out]; exact HBX.out _ _ _ c0) (by have := HBX.out _ _ _ c0; show ¬ nb ≤ r; omega)]; exact c0
          have ck7 : W7.cell? ⟨db, dO + k, none⟩ = some (.int .i64 (i : Int)) := by rw [HT7.out.cell (p := ⟨db, dO + k, none⟩) (by rw [HNB.out]; exact HBX.out _ _ _ ck) (by have := HBX.out _ _ _ ck; show ¬ nb ≤ db; omega)]; exact ck
          have X7 : Hid (RfAt R2 W7 r sk lb2 cp2 A2 B2 x2 W2) := HX.out.tch HT7.out (fun j hj e => by have := HX.out.rlt j hj; have := HNB.out; omega)
          have ca7 := X7.out.ca HI.out
          have cb7 := X7.out.cb HI.out
          have fa7 := X7.out.fl (i * 2)
          have fb7 := X7.out.fl (i * 2 + 1)
          have m0 := cell_of_row W7 nb 0 _ _ (0, 0) H7.out
          have m1 := cell_of_row W7 nb 1 _ _ (0, 0) H7.out
          clear c0 ck ca cb n06 n16 z06 z16 HBX
          have t8 : Tch (fun j => j = lb2) W7 ((W7.setCell ⟨lb2, i * 2, none⟩ (.slice (some ⟨ug, 0, none⟩) 256 ucap)).setCell ⟨lb2, i * 2 + 1, none⟩ (.slice none 0 0)).drew := ((tch_set W7 lb2 (i * 2) (.slice (some ⟨ug, 0, none⟩) 256 ucap)).trans (tch_set _ lb2 (i * 2 + 1) (.slice none 0 0)) (fun _ _ e => e)).drew
          have FIN : Hid (RfTo R w1 ((W7.setCell ⟨lb2, i * 2, none⟩ (.slice (some ⟨ug, 0, none⟩) 256 ucap)).setCell ⟨lb2, i * 2 + 1, none⟩ (.slice none 0 0)).drew r (s0.pers s0.dirty ps (k + 1))) := by
            show RfTo _ _ _ _ _
            rw [HST.out, HPE.out]
            refine RfTo.trans (w' := W7) ⟨_, _, _, _, _, _, X7.out⟩ (HTX.out.trans HT7.out (fun j hj e => by have := HTX.out.size; have := HNB.out; omega)) HRX.out ?_
            refine X7.out.two HI.out (HUO.out.tch HT7.out (fun j hj e => by have := HX.out.rlt j (HUR.out j hj); have := HNB.out; omega)) HUR.out HYO.out t8 ?_
            exact (Tch.drew (Tch.refl (fun _ => False) _)).owns (row_set1 (row_set0 X7.out.row HI.out _) HI.out _) (fun _ _ e => e)
          clear t8
          go_still_tail 10, (by kernel_rfl)
          go_wp2_with fail
          exact ⟨⟨k + 1, by omega, by go_num, FIN⟩, by simp [intOf]; omega⟩
        · have hE := rem_pos hneg
          rw [he] at hE
          rw [hE] at hneg hX1 hX2
          by_cases h0 : e = 0
          · rw [h0] at hE HRM
            clear he HWC h0 hX1 hX2 hneg hrl
            have HUO : Hid (Owns .u8 5 wr (.slice (some ⟨ag, 0, none⟩) 256 acap) (sk.L.getD i [])) := by rw [← HA.out]; exact HX.out.la i HI.out
            have HUR : Hid (∀ j, (Value.slice (some ⟨ag, 0, none⟩) 256 acap).ownBlock = some j → R2 j) := by rw [← HA.out]; exact fun j hj => HX.out.ra i j HI.out hj
            have HYO : Hid ((sk.L.getD i []).length = 256 ∧ By (sk.L.getD i [])) := HX.out.okL.get HI.out
            have HPE : Hid (sk.per i (ps.getD k 0) = { sk with L := sk.L.set i (sk.L.getD i []), V := vput sk.V i [] }) := by
              show _ = _
              unfold DS.per
              rw [HQ.out, HRM.out, if_neg (by decide), list_set_self HI.out]
            clear HA
            go_wp2_with fail
            go_region_held3 (fun w' => w'.cell? ⟨r, 0, none⟩ = some (.slice (some ⟨lb2, 0, none⟩) n cp2) ∧ w'.cell? ⟨db, dO + k, none⟩ = some (.int .i64 (i : Int)) ∧ w'.cell? ⟨lb2, i * 2, none⟩ = some (.slice (some ⟨ag, 0, none⟩) 256 acap) ∧ w'.cell? ⟨lb2, i * 2 + 1, none⟩ = some (.slice (some ⟨g, 0, none⟩) q vcap)) (go_keep) (fail)
            rw [HW5.out, HNB.out]
            clear HW5
            go_wp2_with fail
            go_quiet (fail)
            obtain ⟨W6, hW6⟩ : ∃ W6, W5.drewN nq = W6 := ⟨_, rfl⟩
            rw [hW6]
            have HT6 : Hid (Tch (fun j => nb ≤ j) wr W6) := by rw [← hW6]; exact Tch.trans (b := W5) (S' := fun j => nb ≤ j) (Tch.of_below (S := fun j => nb ≤ j) (by rw [HNB.out]; exact B5.out)) ⟨rfl, rfl, rfl, Nat.le_refl _, fun _ _ _ => rfl⟩ (fun _ _ e => e)
            have H6 : Hid (W6.heap[nb]? = some (.cells #[.slice (some ⟨ag, 0, none⟩) 256 acap, .slice (some ⟨g, 0, none⟩) q vcap] 67 (0, 0))) := by rw [← hW6]; exact H5H.out
            clear hW6 cp5 n0 n1 z0 z1
            have n06 := cell_of_row W6 nb 0 _ _ (0, 0) H6.out
            have n16 := cell_of_row W6 nb 1 _ _ (0, 0) H6.out
            have z06 := frozen_of_row W6 nb 0 _ _ H6.out
            have z16 := frozen_of_row W6 nb 1 _ _ H6.out
            have HT7 : Hid (Tch (fun j => nb ≤ j) wr (W6.setCell ⟨nb, 1, none⟩ (.slice none 0 0))) := HT6.out.trans (tch_set W6 nb 1 _) (fun j _ e => by rw [e]; exact Nat.le_refl _)
            have H7 : Hid ((W6.setCell ⟨nb, 1, none⟩ (.slice none 0 0)).heap[nb]? = some (.cells #[.slice (some ⟨ag, 0, none⟩) 256 acap, .slice none 0 0] 67 (0, 0))) := heap_setCell_same W6 nb 1 _ _ _ H6.out
            obtain ⟨W7, hW7⟩ : ∃ W7, W6.setCell ⟨nb, 1, none⟩ (.slice none 0 0) = W7 := ⟨_, rfl⟩
            rw [hW7] at HT7 H7
            have HW7 : Hid (W6.setCell ⟨nb, 1, none⟩ (.slice none 0 0) = W7) := hW7
            clear hW7
            go_wp2_with fail
            rw [HW7.out]
            clear HW7
            have c07 : W7.cell? ⟨r, 0, none⟩ = some (.slice (some ⟨lb2, 0, none⟩) n cp2) := by rw [HT7.out.cell (p := ⟨r, 0, none⟩) (by rw [HNB.out]; exact HBX.out _ _ _ c0) (by have := HBX.out _ _ _ c0; show ¬ nb ≤ r; omega)]; exact c0
            have ck7 : W7.cell? ⟨db, dO + k, none⟩ = some (.int .i64 (i : Int)) := by rw [HT7.out.cell (p := ⟨db, dO + k, none⟩) (by rw [HNB.out]; exact HBX.out _ _ _ ck) (by have := HBX.out _ _ _ ck; show ¬ nb ≤ db; omega)]; exact ck
            have X7 : Hid (RfAt R2 W7 r sk lb2 cp2 A2 B2 x2 W2) := HX.out.tch HT7.out (fun j hj e => by have := HX.out.rlt j hj; have := HNB.out; omega)
            have ca7 := X7.out.ca HI.out
            have cb7 := X7.out.cb HI.out
            have fa7 := X7.out.fl (i * 2)
            have fb7 := X7.out.fl (i * 2 + 1)
            have m0 := cell_of_row W7 nb 0 _ _ (0, 0) H7.out
            have m1 := cell_of_row W7 nb 1 _ _ (0, 0) H7.out
            clear c0 ck ca cb n06 n16 z06 z16 HBX
            have t8 : Tch (fun j => j = lb2) W7 ((W7.setCell ⟨lb2, i * 2, none⟩ (.slice (some ⟨ag, 0, none⟩) 256 acap)).setCell ⟨lb2, i * 2 + 1, none⟩ (.slice none 0 0)).drew := ((tch_set W7 lb2 (i * 2) (.slice (some ⟨ag, 0, none⟩) 256 acap)).trans (tch_set _ lb2 (i * 2 + 1) (.slice none 0 0)) (fun _ _ e => e)).drew
            have FIN : Hid (RfTo R w1 ((W7.setCell ⟨lb2, i * 2, none⟩ (.slice (some ⟨ag, 0, none⟩) 256 acap)).setCell ⟨lb2, i * 2 + 1, none⟩ (.slice none 0 0)).drew r (s0.pers s0.dirty ps (k + 1))) := by
              show RfTo _ _ _ _ _
              rw [HST.out, HPE.out]
              refine RfTo.trans (w' := W7) ⟨_, _, _, _, _, _, X7.out⟩ (HTX.out.trans HT7.out (fun j hj e => by have := HTX.out.size; have := HNB.out; omega)) HRX.out ?_
              refine X7.out.two HI.out (HUO.out.tch HT7.out (fun j hj e => by have := HX.out.rlt j (HUR.out j hj); have := HNB.out; omega)) HUR.out HYO.out t8 ?_
              exact (Tch.drew (Tch.refl (fun _ => False) _)).owns (row_set1 (row_set0 X7.out.row HI.out _) HI.out _) (fun _ _ e => e)
            clear t8
            go_still_tail 10, (by kernel_rfl)
            go_wp2_with fail
            exact ⟨⟨k + 1, by omega, by go_num, FIN⟩, by simp [intOf]; omega⟩
          · have he0 : (e : Int) > 0 := by omega
            obtain ⟨j, hj⟩ : ∃ j : Nat, e = j + 1 := ⟨e - 1, by omega⟩
            have HJ : Hid (e = j + 1) := hj
            have hje : (e : Int) - 1 = (j : Int) := by omega
            have hjq : (j : Int) < (q : Int) := by omega
            have hj0 : (0 : Int) ≤ (j : Int) := by omega
            clear hj he h0 HA
            go_wp2_with fail
            go_region_held3 (fun w' => w'.cell? ⟨r, 0, none⟩ = some (.slice (some ⟨lb2, 0, none⟩) n cp2) ∧ w'.cell? ⟨db, dO + k, none⟩ = some (.int .i64 (i : Int)) ∧ w'.cell? ⟨lb2, i * 2, none⟩ = some (.slice (some ⟨ag, 0, none⟩) 256 acap) ∧ w'.cell? ⟨lb2, i * 2 + 1, none⟩ = some (.slice (some ⟨g, 0, none⟩) q vcap)) (go_keep) (fail)
            rw [HW5.out, HNB.out]
            clear HW5
            go_wp2_with fail
            go_quiet (fail)
            obtain ⟨W6, hW6⟩ : ∃ W6, W5.drewN nq = W6 := ⟨_, rfl⟩
            rw [hW6]
            have HT6 : Hid (Tch (fun j => nb ≤ j) wr W6) := by rw [← hW6]; exact Tch.trans (b := W5) (S' := fun j => nb ≤ j) (Tch.of_below (S := fun j => nb ≤ j) (by rw [HNB.out]; exact B5.out)) ⟨rfl, rfl, rfl, Nat.le_refl _, fun _ _ _ => rfl⟩ (fun _ _ e => e)
            have H6 : Hid (W6.heap[nb]? = some (.cells #[.slice (some ⟨ag, 0, none⟩) 256 acap, .slice (some ⟨g, 0, none⟩) q vcap] 67 (0, 0))) := by rw [← hW6]; exact H5H.out
            clear hW6 cp5 n0 n1 z0 z1
            have n06 := cell_of_row W6 nb 0 _ _ (0, 0) H6.out
            have n16 := cell_of_row W6 nb 1 _ _ (0, 0) H6.out
            have z06 := frozen_of_row W6 nb 0 _ _ H6.out
            have z16 := frozen_of_row W6 nb 1 _ _ H6.out
            obtain ⟨u, hu, hcu⟩ := HWC.out j (by omega)
            have HUO : Hid (Owns .u8 5 wr u ((sk.V i).getD j [])) := HX.out.lw i j u HI.out hu
            have HYO : Hid (((sk.V i).getD j []).length = 256 ∧ By ((sk.V i).getD j [])) := (HX.out.okV i).get (by rw [HQ.out]; omega)
            have HUR : Hid (∀ j, u.ownBlock = some j → R2 j) := fun b hb => HX.out.rv i j u b HI.out hu hb
            have HPE : Hid (sk.per i (ps.getD k 0) = { sk with L := sk.L.set i ((sk.V i).getD j []), V := vput sk.V i [] }) := by
              show _ = _
              unfold DS.per
              rw [HQ.out, HRM.out, if_pos (by omega), show e - 1 = j by omega]
            obtain ⟨ug, ucap, rfl⟩ := HUO.out.sh HYO.out.1
            have cu6 : W6.cell? ⟨g, j, none⟩ = some (.slice (some ⟨ug, 0, none⟩) 256 ucap) := by rw [HT6.out.cell (p := ⟨g, j, none⟩) (by rw [HNB.out]; exact HBX.out _ _ _ hcu) (by have := HBX.out _ _ _ hcu; show ¬ nb ≤ g; omega)]; exact hcu
            have T7 : Hid (Tch (fun j => nb ≤ j) wr ((W6.setCell ⟨nb, 0, none⟩ (.slice (some ⟨ug, 0, none⟩) 256 ucap)).setCell ⟨nb, 1, none⟩ (.slice none 0 0))) := HT6.out.trans ((tch_set W6 nb 0 _).trans (tch_set _ nb 1 _) (fun _ _ e => e)) (fun j _ e => by rw [e]; exact Nat.le_refl _)
            have H7 : Hid (((W6.setCell ⟨nb, 0, none⟩ (.slice (some ⟨ug, 0, none⟩) 256 ucap)).setCell ⟨nb, 1, none⟩ (.slice none 0 0)).heap[nb]? = some (.cells #[.slice (some ⟨ug, 0, none⟩) 256 ucap, .slice none 0 0] 67 (0, 0))) := heap_setCell_same _ nb 1 _ _ _ (heap_setCell_same W6 nb 0 _ _ _ H6.out)
            obtain ⟨W7, hW7⟩ : ∃ W7, (W6.setCell ⟨nb, 0, none⟩ (.slice (some ⟨ug, 0, none⟩) 256 ucap)).setCell ⟨nb, 1, none⟩ (.slice none 0 0) = W7 := ⟨_, rfl⟩
            rw [hW7] at T7 H7
            have HT7 : Hid (Tch (fun j => nb ≤ j) wr W7) := T7
            have HW7 : Hid ((W6.setCell ⟨nb, 0, none⟩ (.slice (some ⟨ug, 0, none⟩) 256 ucap)).setCell ⟨nb, 1, none⟩ (.slice none 0 0) = W7) := hW7
            clear hW7 T7 hu hcu HWC
            go_wp2_with fail
            rw [HW7.out]
            clear HW7
            have c07 : W7.cell? ⟨r, 0, none⟩ = some (.slice (some ⟨lb2, 0, none⟩) n cp2) := by rw [HT7.out.cell (p := ⟨r, 0, none⟩) (by rw [HNB.out]; exact HBX.out _ _ _ c0) (by have := HBX.out _ _ _ c0; show ¬ nb ≤ r; omega)]; exact c0
            have ck7 : W7.cell? ⟨db, dO + k, none⟩ = some (.int .i64 (i : Int)) := by rw [HT7.out.cell (p := ⟨db, dO + k, none⟩) (by rw [HNB.out]; exact HBX.out _ _ _ ck) (by have := HBX.out _ _ _ ck; show ¬ nb ≤ db; omega)]; exact ck
            have X7 : Hid (RfAt R2 W7 r sk lb2 cp2 A2 B2 x2 W2) := HX.out.tch HT7.out (fun j hj e => by have := HX.out.rlt j hj; have := HNB.out; omega)
            have ca7 := X7.out.ca HI.out
            have cb7 := X7.out.cb HI.out
            have fa7 := X7.out.fl (i * 2)
            have fb7 := X7.out.fl (i * 2 + 1)
            have m0 := cell_of_row W7 nb 0 _ _ (0, 0) H7.out
            have m1 := cell_of_row W7 nb 1 _ _ (0, 0) H7.out
            clear c0 ck ca cb n06 n16 z06 z16 HBX
            have t8 : Tch (fun j => j = lb2) W7 ((W7.setCell ⟨lb2, i * 2, none⟩ (.slice (some ⟨ug, 0, none⟩) 256 ucap)).setCell ⟨lb2, i * 2 + 1, none⟩ (.slice none 0 0)).drew := ((tch_set W7 lb2 (i * 2) (.slice (some ⟨ug, 0, none⟩) 256 ucap)).trans (tch_set _ lb2 (i * 2 + 1) (.slice none 0 0)) (fun _ _ e => e)).drew
            have FIN : Hid (RfTo R w1 ((W7.setCell ⟨lb2, i * 2, none⟩ (.slice (some ⟨ug, 0, none⟩) 256 ucap)).setCell ⟨lb2, i * 2 + 1, none⟩ (.slice none 0 0)).drew r (s0.pers s0.dirty ps (k + 1))) := by
              show RfTo _ _ _ _ _
              rw [HST.out, HPE.out]
              refine RfTo.trans (w' := W7) ⟨_, _, _, _, _, _, X7.out⟩ (HTX.out.trans HT7.out (fun j hj e => by have := HTX.out.size; have := HNB.out; omega)) HRX.out ?_
              refine X7.out.two HI.out (HUO.out.tch HT7.out (fun j hj e => by have := HX.out.rlt j (HUR.out j hj); have := HNB.out; omega)) HUR.out HYO.out t8 ?_
              exact (Tch.drew (Tch.refl (fun _ => False) _)).owns (row_set1 (row_set0 X7.out.row HI.out _) HI.out _) (fun _ _ e => e)
            clear t8
            go_still_tail 10, (by kernel_rfl)
            go_wp2_with fail
            exact ⟨⟨k + 1, by omega, by go_num, FIN⟩, by simp [intOf]; omega⟩
      · have hkmi : ¬ (k : Int) < (m : Int) := by omega
        have HRM : Hid (rem (ps.getD k 0) q = 0) := by
          show _ = _
          rw [List.getD_eq_getElem?_getD, List.getElem?_eq_none (by rw [HM.out]; omega)]
          simp [rem]
        have HUO : Hid (Owns .u8 5 wr (.slice (some ⟨ag, 0, none⟩) 256 acap) (sk.L.getD i [])) := by rw [← HA.out]; exact HX.out.la i HI.out
        have HUR : Hid (∀ j, (Value.slice (some ⟨ag, 0, none⟩) 256 acap).ownBlock = some j → R2 j) := by rw [← HA.out]; exact fun j hj => HX.out.ra i j HI.out hj
        have HYO : Hid ((sk.L.getD i []).length = 256 ∧ By (sk.L.getD i [])) := HX.out.okL.get HI.out
        have HPE : Hid (sk.per i (ps.getD k 0) = { sk with L := sk.L.set i (sk.L.getD i []), V := vput sk.V i [] }) := by
          show _ = _
          unfold DS.per
          rw [HQ.out, HRM.out, if_neg (by decide), list_set_self HI.out]
        clear HA HWC
        have HT7 : Hid (Tch (fun j => nb ≤ j) wr (W5.setCell ⟨nb, 1, none⟩ (.slice none 0 0))) := (Tch.of_below (S := fun j => nb ≤ j) (by rw [HNB.out]; exact B5.out)).trans (tch_set W5 nb 1 _) (fun j _ e => by rw [e]; exact Nat.le_refl _)
        have H7 : Hid ((W5.setCell ⟨nb, 1, none⟩ (.slice none 0 0)).heap[nb]? = some (.cells #[.slice (some ⟨ag, 0, none⟩) 256 acap, .slice none 0 0] 67 (0, 0))) := heap_setCell_same W5 nb 1 _ _ _ H5H.out
        obtain ⟨W7, hW7⟩ : ∃ W7, W5.setCell ⟨nb, 1, none⟩ (.slice none 0 0) = W7 := ⟨_, rfl⟩
        rw [hW7] at HT7 H7
        have HW7 : Hid (W5.setCell ⟨nb, 1, none⟩ (.slice none 0 0) = W7) := hW7
        clear hW7
        go_wp2_with fail
        go_region_held3 (fun w' => w'.cell? ⟨r, 0, none⟩ = some (.slice (some ⟨lb2, 0, none⟩) n cp2) ∧ w'.cell? ⟨db, dO + k, none⟩ = some (.int .i64 (i : Int)) ∧ w'.cell? ⟨lb2, i * 2, none⟩ = some (.slice (some ⟨ag, 0, none⟩) 256 acap) ∧ w'.cell? ⟨lb2, i * 2 + 1, none⟩ = some (.slice (some ⟨g, 0, none⟩) q vcap)) (go_keep) (fail)
        rw [HW5.out, HNB.out]
        clear HW5
        go_wp2_with fail
        rw [HW7.out]
        clear HW7
        have c07 : W7.cell? ⟨r, 0, none⟩ = some (.slice (some ⟨lb2, 0, none⟩) n cp2) := by rw [HT7.out.cell (p := ⟨r, 0, none⟩) (by rw [HNB.out]; exact HBX.out _ _ _ c0) (by have := HBX.out _ _ _ c0; show ¬ nb ≤ r; omega)]; exact c0
        have ck7 : W7.cell? ⟨db, dO + k, none⟩ = some (.int .i64 (i : Int)) := by rw [HT7.out.cell (p := ⟨db, dO + k, none⟩) (by rw [HNB.out]; exact HBX.out _ _ _ ck) (by have := HBX.out _ _ _ ck; show ¬ nb ≤ db; omega)]; exact ck
        have X7 : Hid (RfAt R2 W7 r sk lb2 cp2 A2 B2 x2 W2) := HX.out.tch HT7.out (fun j hj e => by have := HX.out.rlt j hj; have := HNB.out; omega)
        have ca7 := X7.out.ca HI.out
        have cb7 := X7.out.cb HI.out
        have fa7 := X7.out.fl (i * 2)
        have fb7 := X7.out.fl (i * 2 + 1)
        have m0 := cell_of_row W7 nb 0 _ _ (0, 0) H7.out
        have m1 := cell_of_row W7 nb 1 _ _ (0, 0) H7.out
        clear c0 ck ca cb n0 n1 z0 z1 HBX
        have t8 : Tch (fun j => j = lb2) W7 ((W7.setCell ⟨lb2, i * 2, none⟩ (.slice (some ⟨ag, 0, none⟩) 256 acap)).setCell ⟨lb2, i * 2 + 1, none⟩ (.slice none 0 0)).drew := ((tch_set W7 lb2 (i * 2) (.slice (some ⟨ag, 0, none⟩) 256 acap)).trans (tch_set _ lb2 (i * 2 + 1) (.slice none 0 0)) (fun _ _ e => e)).drew
        have FIN : Hid (RfTo R w1 ((W7.setCell ⟨lb2, i * 2, none⟩ (.slice (some ⟨ag, 0, none⟩) 256 acap)).setCell ⟨lb2, i * 2 + 1, none⟩ (.slice none 0 0)).drew r (s0.pers s0.dirty ps (k + 1))) := by
          show RfTo _ _ _ _ _
          rw [HST.out, HPE.out]
          refine RfTo.trans (w' := W7) ⟨_, _, _, _, _, _, X7.out⟩ (HTX.out.trans HT7.out (fun j hj e => by have := HTX.out.size; have := HNB.out; omega)) HRX.out ?_
          refine X7.out.two HI.out (HUO.out.tch HT7.out (fun j hj e => by have := HX.out.rlt j (HUR.out j hj); have := HNB.out; omega)) HUR.out HYO.out t8 ?_
          exact (Tch.drew (Tch.refl (fun _ => False) _)).owns (row_set1 (row_set0 X7.out.row HI.out _) HI.out _) (fun _ _ e => e)
        clear t8
        go_still_tail 10, (by kernel_rfl)
        go_wp2_with fail
        exact ⟨⟨k + 1, by omega, by go_num, FIN⟩, by simp [intOf]; omega⟩
    · have hki : ¬ (k : Int) < (t : Int) := by omega
      have HK : Hid (k = t) := by show _ = _; omega
      clear hkt
      go_wp2_with fail
      go_end0
      refine ⟨rfl, ?_⟩
      rw [HPW.out, ← HK.out]
      exact RfTo.trans HX0.out T0.out (fun _ e => .inl e) (RfTo.trans (w' := w1) (by obtain ⟨lb, cp, A, B, x, W, h⟩ := HX0.out; exact ⟨_, _, _, _, _, _, h.tch (S := fun _ => False) (Tch.of_below B1.out) (fun _ _ e => e)⟩) (Tch.of_below B1.out) (fun _ e => .inl e) DK.out)
end Go.Proofs.Ytmohbkhdloggeaa
