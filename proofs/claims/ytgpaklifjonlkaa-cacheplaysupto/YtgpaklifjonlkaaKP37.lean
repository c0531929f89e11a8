import Derived.Test.YtgpaklifjonlkaaKP36
import Derived.Test.YtgpaklifjonlkaaKP20
import Derived.Deep.RegionHeld3
import Derived.Test.YtgpaklifjonlkaaKP33
import Derived.Test.YtgpaklifjonlkaaKP21
import Derived.Test.YtgpaklifjonlkaaKP32
import Derived.Test.YtgpaklifjonlkaaKP35
/-
  The power goes: the document's.
-/
namespace Go.Proofs.Ytgpaklifjonlkaa
open Go.RowKit Go.Maps
set_option linter.unusedVariables false
set_option linter.unusedSimpArgs false
set_option maxRecDepth 100000

theorem pers_cl (s : DS) (c : Bool) (l : Nat) (ds : List Nat) (ps : List Int) : ∀ k, ({ s with c := c, l := l } : DS).pers ds ps k = { s.pers ds ps k with c := c, l := l }
  | 0 => rfl
  | k + 1 => by
    rw [DS.pers, DS.pers, pers_cl s c l ds ps k]
    rfl

/-- The pick's remainder, as the document has it. -/
theorem rem_pos {p : Int} {m : Nat} (h : ¬ p.tmod ((m : Int) + 1) < 0) : p.tmod ((m : Int) + 1) = (rem p m : Int) := by
  have hb : (0 : Int) < (m : Int) + 1 := by omega
  have H := tmod_mod p _ hb
  have h2 : p.tmod ((m : Int) + 1) < (m : Int) + 1 := Int.tmod_lt_of_pos p hb
  unfold rem
  rw [← H]
  generalize p.tmod ((m : Int) + 1) = x at *
  have e : (x + ((m : Int) + 1)).tmod ((m : Int) + 1) = x := by rw [Int.tmod_eq_emod_of_nonneg (by omega), Int.add_emod_right, Int.emod_eq_of_lt (by omega) h2]
  rw [e]
  omega
theorem rem_neg {p : Int} {m : Nat} (h : p.tmod ((m : Int) + 1) < 0) : p.tmod ((m : Int) + 1) + m + 1 = (rem p m : Int) := by
  have hb : (0 : Int) < (m : Int) + 1 := by omega
  have H := tmod_mod p _ hb
  have h1 : -((m : Int) + 1) < p.tmod ((m : Int) + 1) := neg_lt_tmod p hb
  unfold rem
  rw [← H]
  generalize p.tmod ((m : Int) + 1) = x at *
  have e : (x + ((m : Int) + 1)).tmod ((m : Int) + 1) = x + ((m : Int) + 1) := by rw [Int.tmod_eq_emod_of_nonneg (by omega), Int.emod_eq_of_lt (by omega) (by omega)]
  rw [e]
  omega

set_option maxHeartbeats 4000000 in
theorem refPower_any {R : Nat → Prop} {r : Nat} {s : DS} (pv : Value) (ps : List Int) (w : World) (h : Rf R w r s) (hr : Rd .i64 w pv ps) (hp : ∀ k, pv.ownBlock = some k → ps ≠ [] → ¬ R k) (hV : ∀ i, (s.V i).length < 274877906944) :
    Calls Try.prog 31 #[dp r, pv] w fun e w' => e = .returned (.tuple #[]) ∧ RfTo R w w' r (s.pw ps) := by
  obtain ⟨lb, cp, A, B, x, W, h⟩ := h
  have c1 := h.c1
  have f1 := h.fz 1
  have HR : Hid (Rd .i64 w pv ps) := hr
  obtain ⟨a, cap, rfl, hpl, hcm, _⟩ := hr
  have HP : Hid (∀ k, (Value.slice a ps.length cap).ownBlock = some k → ps ≠ [] → ¬ R k) := hp
  have HPL : Hid (ps.length ≤ 9223372036854775807) := by show _ ≤ _; unfold maxLen at hcm; omega
  obtain ⟨m, hm⟩ : ∃ m, ps.length = m := ⟨_, rfl⟩
  have HM : Hid (ps.length = m) := hm
  rw [hm] at HR HP HPL ⊢
  have hm63 : (m : Int) ≤ 9223372036854775807 := by have := HPL.out; omega
  obtain ⟨s0, hs0⟩ : ∃ s0 : DS, { s with c := false, l := 0 } = s0 := ⟨_, rfl⟩
  have HPW : Hid (s.pw ps = s0.pers s0.dirty ps s0.dirty.length) := by
    show _ = _
    rw [← hs0]
    exact (pers_cl s false 0 s.dirty ps s.dirty.length).symm
  obtain ⟨W0, hW0⟩ : ∃ W0, w.setCell ⟨r, 1, none⟩ (.bool false) = W0 := ⟨_, rfl⟩
  have T0 : Hid (Tch R w W0) := by rw [← hW0]; exact (tch_set w r 1 _).mono (fun k _ e => by rw [e]; exact h.rr)
  have X0 : Hid (RfAt R W0 r s0 lb cp A B x W) := by
    show RfAt R W0 r s0 lb cp A B x W
    rw [← hW0, ← hs0]
    refine h.cut false 0 x (by decide) (fun e => by cases e) h.xlo h.xhi (tch_set w r 1 _) ?_
    rw [heap_setCell_same w r 1 _ _ (.bool false) h.box]
    rfl
  have HV : Hid (∀ i, (s0.V i).length < 274877906944) := by rw [← hs0]; exact hV
  have HX0 : Hid (Rf R W0 r s0) := ⟨_, _, _, _, _, _, X0.out⟩
  have HDY := hideP (refDirty_any W0 HX0.out HV.out)
  have HN : Hid (1 ≤ s0.L.length ∧ s0.L.length ≤ 4096) := ⟨X0.out.n1, X0.out.n2⟩
  clear h hp hV hcm hpl hm hs0 X0
  go_enter Try.func31, Try.ntmps31
  go_wp2_with fail
  clear hW0
  refine HDY.out.mono ?_
  clear HDY
  rintro e w1 ⟨dv, rfl, ho1, hb1, hf1⟩
  have B1 : Hid (Below W0.heap.size W0 w1) := hb1
  have TB : Hid (Tch R w w1) := T0.out.trans (Tch.of_below hb1) (fun _ _ e => e)
  have D1 : Hid (Rf R w1 r s0) := by
    obtain ⟨lb, cp, A, B, x, W, h⟩ := HX0.out
    exact ⟨_, _, _, _, _, _, h.tch (S := fun _ => False) (Tch.of_below hb1) (fun _ _ e => e)⟩
  have F1 : Hid (∀ k, dv.ownBlock = some k → W0.heap.size ≤ k ∧ k < w1.heap.size) := fun k hk => ⟨hf1 k hk, ho1.lt k hk⟩
  have HRD : Hid (∀ k, R k → k < W0.heap.size) := by obtain ⟨lb, cp, A, B, x, W, h⟩ := HX0.out; exact h.rlt
  have HLN : Hid (s0.dirty.length ≤ 4096) := by have := dirty_len s0; have := HN.out.2; show _ ≤ _; omega
  have OD : Hid (Owns .i64 3 w1 dv (s0.dirty.map Int.ofNat)) := ho1
  obtain ⟨da, dc, hdv, hdl, hdm, hdn, hdc⟩ := ho1.rd
  rw [List.length_map] at hdv hdl hdc
  subst hdv
  have HDC : Hid ((s0.dirty.map Int.ofNat) = [] ∨ ∃ b o, da = some ⟨b, o, none⟩ ∧ ∀ i, i < s0.dirty.length → w1.cell? ⟨b, o + i, none⟩ = some (.int .i64 ((s0.dirty.map Int.ofNat).getD i 0))) := hdc
  obtain ⟨t, ht⟩ : ∃ t, s0.dirty.length = t := ⟨_, rfl⟩
  have HT : Hid (s0.dirty.length = t) := ht
  have htb : t ≤ 4096 := by rw [← ht]; exact HLN.out
  rw [ht] at HDC OD F1 HPW ⊢
  clear ho1 hb1 hf1 hdl hdm hdn hdc ht
  go_wp2_with fail
  go_loopw [5] (fun kv wr => ∃ (k : Nat), k ≤ t ∧ kv = .int .i64 k ∧ Hid (RfTo R w1 wr r (s0.pers s0.dirty ps k))) (fun kv _ => t - (intOf kv).toNat)
  case atStart => exact ⟨0, Nat.zero_le _, rfl, D1.out.to⟩
  case round =>
    obtain ⟨k, hk, rfl, DK⟩ := hrel
    by_cases hkt : k < t
    · have hki : (k : Int) < (t : Int) := by omega
      have hk0 : (0 : Int) ≤ (k : Int) := by omega
      obtain ⟨hA1, hA2, hA3⟩ := pers_at (s := s0) (ps := ps) (k := k) (by rw [HT.out]; exact hkt)
      obtain ⟨R2, ⟨lb2, cp2, A2, B2, x2, W2, hX⟩, hTx, hRx⟩ := DK.out
      obtain ⟨db, dO, rfl, hcell⟩ : ∃ b o, da = some ⟨b, o, none⟩ ∧ ∀ i, i < t → w1.cell? ⟨b, o + i, none⟩ = some (.int .i64 ((s0.dirty.map Int.ofNat).getD i 0)) := by
        rcases HDC.out with e | e
        · have := congrArg List.length e
          rw [List.length_map, HT.out] at this
          simp at this
          omega
        · exact e
      have hF := F1.out db rfl
      have HNR : Hid (¬ R db) := fun e => by have := HRD.out db e; have := hF.1; omega
      have ck : wr.cell? ⟨db, dO + k, none⟩ = some (.int .i64 ((s0.dirty.getD k 0 : Nat) : Int)) := by
        have h0 := hcell k hkt
        rw [hTx.cell (p := ⟨db, dO + k, none⟩) (World.block_lt_of_cell? w1 ⟨db, dO + k, none⟩ h0) HNR.out, h0]
        simp [List.getD_eq_getElem?_getD, List.getElem?_eq_getElem (show k < s0.dirty.length by rw [HT.out]; exact hkt)]
      have HPK : Hid (k < m → ∃ pb pO, a = some ⟨pb, pO, none⟩ ∧ wr.cell? ⟨pb, pO + k, none⟩ = some (.int .i64 (ps.getD k 0))) := fun hkm => by
        obtain ⟨a', cap', e, _, _, _, hcc⟩ := HR.out
        simp only [Value.slice.injEq] at e
        obtain ⟨rfl, _, rfl⟩ := e
        rcases hcc with e | ⟨b, o, rfl, hc⟩
        · rw [e] at HM; have := HM.out; simp at this; omega
        · have hpc := hc k (by rw [HM.out]; exact hkm)
          have hlt := World.block_lt_of_cell? w ⟨b, o + k, none⟩ hpc
          have hnR : ¬ R b := HP.out b rfl (fun e2 => by have := HM.out; rw [e2] at this; simp at this; omega)
          refine ⟨b, o, rfl, ?_⟩
          rw [hTx.cell (p := ⟨b, o + k, none⟩) (Nat.lt_of_lt_of_le hlt TB.out.size) hnR, TB.out.cell (p := ⟨b, o + k, none⟩) hlt hnR]
          exact hpc
      obtain ⟨i, hi⟩ : ∃ i, s0.dirty.getD k 0 = i := ⟨_, rfl⟩
      have HST : Hid (s0.pers s0.dirty ps (k + 1) = (s0.pers s0.dirty ps k).per i (ps.getD k 0)) := by show _ = _; rw [DS.pers, hi]
      rw [hi] at ck hA1 hA2 hA3
      obtain ⟨sk, hsk⟩ : ∃ sk, s0.pers s0.dirty ps k = sk := ⟨_, rfl⟩
      have HLL : Hid (sk.L.length = s0.L.length) := by rw [← hsk]; exact pers_L _ _ _ _
      rw [hsk] at hX HST hA2
      obtain ⟨n, hn⟩ : ∃ n, sk.L.length = n := ⟨_, rfl⟩
      have HI : Hid (i < sk.L.length) := by show _ < _; rw [HLL.out]; exact hA1
      have hin : (i : Int) < (n : Int) := by rw [← hn]; have := HI.out; omega
      have hi0 : (0 : Int) ≤ (i : Int) := by omega
      have hn2 : n ≤ 4096 := by rw [← hn]; exact hX.n2
      have c0 := hX.c0
      rw [hn] at c0
      have ca := hX.ca HI.out
      have cb := hX.cb HI.out
      have HX : Hid (RfAt R2 wr r sk lb2 cp2 A2 B2 x2 W2) := hX
      have HTX : Hid (Tch R w1 wr) := hTx
      have HRX : Hid (∀ j, R2 j → R j ∨ w1.heap.size ≤ j) := hRx
      obtain ⟨ag, acap, hA⟩ := (hX.la i HI.out).sh (hX.okL.get HI.out).1
      have hB := hX.bsh HI.out
      rw [hA2] at hB
      rcases hB with ⟨_, e⟩ | ⟨g, vcap, hb, hc1, hc2, hwl, hwc⟩
      · exact absurd e hA3
      rw [hA] at ca
      rw [hb] at cb
      obtain ⟨q, hq⟩ : ∃ q, (s0.V i).length = q := ⟨_, rfl⟩
      have HQ : Hid ((sk.V i).length = q) := by rw [hA2]; exact hq
      have hq0 : (q : Int) > 0 := by
        have : q ≠ 0 := fun e => hA3 (List.eq_nil_of_length_eq_zero (hq.trans e))
        omega
      have hqM : q < 274877906944 := by rw [← hq]; exact HV.out i
      rw [hq] at cb hc1
      have HWC : Hid (∀ j, j < q → ∃ u, (W2 i)[j]? = some u ∧ wr.cell? ⟨g, j, none⟩ = some u) := fun j hj => by
        obtain ⟨u, hu⟩ : ∃ u, (W2 i)[j]? = some u := ⟨_, List.getElem?_eq_getElem (by omega)⟩
        exact ⟨u, hu, hwc _ _ hu⟩
      have HA : Hid (A2 i = .slice (some ⟨ag, 0, none⟩) 256 acap) := hA
      clear hA hb hc1 hc2 hwl hwc hq hn hX hTx hRx hF hcell hA1 hA2 hA3 hi DK hsk
      obtain ⟨nb, hnb⟩ : ∃ nb, wr.heap.size = nb := ⟨_, rfl⟩
      obtain ⟨W5, hW5⟩ : ∃ W5, (wr.alloc (.cells #[.slice (some ⟨ag, 0, none⟩) 256 acap, .slice (some ⟨g, 0, none⟩) q vcap] 70)).drew = W5 := ⟨_, rfl⟩
      have B5 : Hid (Below nb wr W5) := by rw [← hW5, ← hnb]; exact ((Below.refl _ _).alloc (Nat.le_refl _) _).drew
      have H5 : W5.heap[nb]? = some (.cells #[.slice (some ⟨ag, 0, none⟩) 256 acap, .slice (some ⟨g, 0, none⟩) q vcap] 70 (0, 0)) := by rw [← hW5, ← hnb]; exact heap_alloc_new wr _
      have n0 := cell_of_row W5 nb 0 _ _ (0, 0) H5
      have n1 := cell_of_row W5 nb 1 _ _ (0, 0) H5
      have z0 := frozen_of_row W5 nb 0 _ _ H5
      have z1 := frozen_of_row W5 nb 1 _ _ H5
      have HBX : Hid (∀ b o v, wr.cell? ⟨b, o, none⟩ = some v → b < nb) := fun b o v hv => by rw [← hnb]; exact World.block_lt_of_cell? wr ⟨b, o, none⟩ hv
      have H5H : Hid (W5.heap[nb]? = some (.cells #[.slice (some ⟨ag, 0, none⟩) 256 acap, .slice (some ⟨g, 0, none⟩) q vcap] 70 (0, 0))) := H5
      have HNB : Hid (wr.heap.size = nb) := hnb
      have HW5 : Hid ((wr.alloc (.cells #[.slice (some ⟨ag, 0, none⟩) 256 acap, .slice (some ⟨g, 0, none⟩) q vcap] 70)).drew = W5) := hW5
      clear hnb hW5 H5
      have HNE : Hid (∀ b o v, wr.cell? ⟨b, o, none⟩ = some v → b ≠ nb) := fun b o v hv e => by have := HBX.out b o v hv; omega
      by_cases hkm : k < m
      · obtain ⟨pb, pO, rfl, cp⟩ := HPK.out hkm
        obtain ⟨p, hp⟩ : ∃ p, ps.getD k 0 = p := ⟨_, rfl⟩
        have HPP : Hid (ps.getD k 0 = p) := hp
        rw [hp] at cp
        clear hp HPK
        have cp5 : W5.cell? ⟨pb, pO + k, none⟩ = some (.int .i64 p) := by rw [B5.out.cell (p := ⟨pb, pO + k, none⟩) (HBX.out _ _ _ cp)]; exact cp
        have hb0 : ((q : Int) + 1 == 0) = false := by rw [beq_eq_false_iff_ne]; omega
        have hbm : ((q : Int) + 1 == -1) = false := by rw [beq_eq_false_iff_ne]; omega
        have hbz : (q : Int) + 1 ≠ 0 := by omega
        have hX1 : -((q : Int) + 1) < p.tmod ((q : Int) + 1) := neg_lt_tmod p (by omega)
        have hX2 : p.tmod ((q : Int) + 1) < (q : Int) + 1 := Int.tmod_lt_of_pos p (by omega)
        have hrl := rem_lt p q
        obtain ⟨e, he⟩ : ∃ e, rem p q = e := ⟨_, rfl⟩
        rw [he] at hrl
        have hkmi : (k : Int) < (m : Int) := by omega
        have HRM : Hid (rem (ps.getD k 0) q = e) := by rw [HPP.out]; exact he
        by_cases hneg : p.tmod ((q : Int) + 1) < 0
        · have hE := rem_neg hneg
          rw [he] at hE
          obtain ⟨X, hX⟩ : ∃ X, p.tmod ((q : Int) + 1) = X := ⟨_, rfl⟩
          rw [hX] at hneg hE hX1 hX2
          have he0 : (e : Int) > 0 := by omega
          obtain ⟨j, hj⟩ : ∃ j : Nat, e = j + 1 := ⟨e - 1, by omega⟩
          have HJ : Hid (e = j + 1) := hj
          have hje : (e : Int) - 1 = (j : Int) := by omega
          have hjq : (j : Int) < (q : Int) := by omega
          have hj0 : (0 : Int) ≤ (j : Int) := by omega
          clear hj he HA
          go_wp2_with fail
          go_region_held3 (fun w' => w'.cell? ⟨r, 0, none⟩ = some (.slice (some ⟨lb2, 0, none⟩) n cp2) ∧ w'.cell? ⟨db, dO + k, none⟩ = some (.int .i64 (i : Int)) ∧ w'.cell? ⟨lb2, i * 2, none⟩ = some (.slice (some ⟨ag, 0, none⟩) 256 acap) ∧ w'.cell? ⟨lb2, i * 2 + 1, none⟩ = some (.slice (some ⟨g, 0, none⟩) q vcap)) (go_keep) (fail)
          rw [HW5.out, HNB.out]
          clear HW5
          go_wp2_with fail
          go_quiet (fail)
          obtain ⟨W6, hW6⟩ : ∃ W6, W5.drewN nq = W6 := ⟨_, rfl⟩
          rw [hW6]
          have HT6 : Hid (Tch (fun j => nb ≤ j) wr W6) := by rw [← hW6]; exact Tch.trans (b := W5) (S' := fun j => nb ≤ j) (Tch.of_below (S := fun j => nb ≤ j) (by rw [HNB.out]; exact B5.out)) ⟨rfl, rfl, rfl, Nat.le_refl _, fun _ _ _ => rfl⟩ (fun _ _ e => e)
          have H6 : Hid (W6.heap[nb]? = some (.cells #[.slice (some ⟨ag, 0, none⟩) 256 acap, .slice (some ⟨g, 0, none⟩) q vcap] 70 (0, 0))) := by rw [← hW6]; exact H5H.out
          clear hW6 cp5 n0 n1 z0 z1
          have n06 := cell_of_row W6 nb 0 _ _ (0, 0) H6.out
          have n16 := cell_of_row W6 nb 1 _ _ (0, 0) H6.out
          have z06 := frozen_of_row W6 nb 0 _ _ H6.out
          have z16 := frozen_of_row W6 nb 1 _ _ H6.out
          obtain ⟨u, hu, hcu⟩ := HWC.out j (by omega)
          have HUO : Hid (Owns .u8 5 wr u ((sk.V i).getD j [])) := HX.out.lw i j u HI.out hu
          have HYO : Hid (((sk.V i).getD j []).length = 256 ∧ By ((sk.V i).getD j [])) := (HX.out.okV i).get (by rw [HQ.out]; omega)
          have HUR : Hid (∀ j, u.ownBlock = some j → R2 j) := fun b hb => HX.out.rv i j u b HI.out hu hb
          have HPE : Hid (sk.per i (ps.getD k 0) = { sk with L := sk.L.set i ((sk.V i).getD j []), V := vput sk.V i [] }) := by
            show _ = _
            unfold DS.per
            rw [HQ.out, HRM.out, if_pos (by omega), show e - 1 = j by omega]
          obtain ⟨ug, ucap, rfl⟩ := HUO.out.sh HYO.out.1
          have cu6 : W6.cell? ⟨g, j, none⟩ = some (.slice (some ⟨ug, 0, none⟩) 256 ucap) := by rw [HT6.out.cell (p := ⟨g, j, none⟩) (by rw [HNB.out]; exact HBX.out _ _ _ hcu) (by have := HBX.out _ _ _ hcu; show ¬ nb ≤ g; omega)]; exact hcu
          have T7 : Hid (Tch (fun j => nb ≤ j) wr ((W6.setCell ⟨nb, 0, none⟩ (.slice (some ⟨ug, 0, none⟩) 256 ucap)).setCell ⟨nb, 1, none⟩ (.slice none 0 0))) := HT6.out.trans ((tch_set W6 nb 0 _).trans (tch_set _ nb 1 _) (fun _ _ e => e)) (fun j _ e => by rw [e]; exact Nat.le_refl _)
          have H7 : Hid (((W6.setCell ⟨nb, 0, none⟩ (.slice (some ⟨ug, 0, none⟩) 256 ucap)).setCell ⟨nb, 1, none⟩ (.slice none 0 0)).heap[nb]? = some (.cells #[.slice (some ⟨ug, 0, none⟩) 256 ucap, .slice none 0 0] 70 (0, 0))) := heap_setCell_same _ nb 1 _ _ _ (heap_setCell_same W6 nb 0 _ _ _ H6.out)
          obtain ⟨W7, hW7⟩ : ∃ W7, (W6.setCell ⟨nb, 0, none⟩ (.slice (some ⟨ug, 0, none⟩) 256 ucap)).setCell ⟨nb, 1, none⟩ (.slice none 0 0) = W7 := ⟨_, rfl⟩
          rw [hW7] at T7 H7
          have HT7 : Hid (Tch (fun j => nb ≤ j) wr W7) := T7
          have HW7 : Hid ((W6.setCell ⟨nb, 0, none⟩ (.slice (some ⟨ug, 0, none⟩) 256 ucap)).setCell ⟨nb, 1, none⟩ (.slice none 0 0) = W7) := hW7
          clear hW7 T7 hu hcu HWC
          go_wp2_with fail
          rw [HW7.out]
          clear HW7
          have c07 : W7.cell? ⟨r, 0, none⟩ = some (.slice (some ⟨lb2, 0, none⟩) n cp2) := by rw [HT7.out.cell (p := ⟨r, 0, none⟩) (by rw [HNB.out]; exact HBX.out _ _ _ c0) (by have := HBX.out _ _ _ c0; show ¬ nb ≤ r; omega)]; exact c0
          have ck7 : W7.cell? ⟨db, dO + k, none⟩ = some (.int .i64 (i : Int)) := by rw [HT7.out.cell (p := ⟨db, dO + k, none⟩) (by rw [HNB.out]; exact HBX.out _ _ _ ck) (by have := HBX.out _ _ _ ck; show ¬ nb ≤ db; omega)]; exact ck
          have X7 : Hid (RfAt R2 W7 r sk lb2 cp2 A2 B2 x2 W2) := HX.out.tch HT7.out (fun j hj e => by have := HX.out.rlt j hj; have := HNB.out; omega)
          have ca7 := X7.out.ca HI.out
          have cb7 := X7.out.cb HI.out
          have fa7 := X7.out.fl (i * 2)
          have fb7 := X7.out.fl (i * 2 + 1)
          have m0 := cell_of_row W7 nb 0 _ _ (0, 0) H7.out
          have m1 := cell_of_row W7 nb 1 _ _ (0, 0) H7.out
          clear c0 ck ca cb n06 n16 z06 z16 HBX
          have t8 : Tch (fun j => j = lb2) W7 ((W7.setCell ⟨lb2, i * 2, none⟩ (.slice (some ⟨ug, 0, none⟩) 256 ucap)).setCell ⟨lb2, i * 2 + 1, none⟩ (.slice none 0 0)).drew := ((tch_set W7 lb2 (i * 2) (.slice (some ⟨ug, 0, none⟩) 256 ucap)).trans (tch_set _ lb2 (i * 2 + 1) (.slice none 0 0)) (fun _ _ e => e)).drew
          have FIN : Hid (RfTo R w1 ((W7.setCell ⟨lb2, i * 2, none⟩ (.slice (some ⟨ug, 0, none⟩) 256 ucap)).setCell ⟨lb2, i * 2 + 1, none⟩ (.slice none 0 0)).drew r (s0.pers s0.dirty ps (k + 1))) := by
            show RfTo _ _ _ _ _
            rw [HST.out, HPE.out]
            refine RfTo.trans (w' := W7) ⟨_, _, _, _, _, _, X7.out⟩ (HTX.out.trans HT7.out (fun j hj e => by have := HTX.out.size; have := HNB.out; omega)) HRX.out ?_
            refine X7.out.two HI.out (HUO.out.tch HT7.out (fun j hj e => by have := HX.out.rlt j (HUR.out j hj); have := HNB.out; omega)) HUR.out HYO.out t8 ?_
            exact (Tch.drew (Tch.refl (fun _ => False) _)).owns (row_set1 (row_set0 X7.out.row HI.out _) HI.out _) (fun _ _ e => e)
          clear t8
          go_still_tail 10, (by kernel_rfl)
          go_wp2_with fail
          exact ⟨⟨k + 1, by omega, by go_num, FIN⟩, by simp [intOf]; omega⟩
        · have hE := rem_pos hneg
          rw [he] at hE
          rw [hE] at hneg hX1 hX2
          by_cases h0 : e = 0
          · rw [h0] at hE HRM
            clear he HWC h0 hX1 hX2 hneg hrl
            have HUO : Hid (Owns .u8 5 wr (.slice (some ⟨ag, 0, none⟩) 256 acap) (sk.L.getD i [])) := by rw [← HA.out]; exact HX.out.la i HI.out
            have HUR : Hid (∀ j, (Value.slice (some ⟨ag, 0, none⟩) 256 acap).ownBlock = some j → R2 j) := by rw [← HA.out]; exact fun j hj => HX.out.ra i j HI.out hj
            have HYO : Hid ((sk.L.getD i []).length = 256 ∧ By (sk.L.getD i [])) := HX.out.okL.get HI.out
            have HPE : Hid (sk.per i (ps.getD k 0) = { sk with L := sk.L.set i (sk.L.getD i []), V := vput sk.V i [] }) := by
              show _ = _
              unfold DS.per
              rw [HQ.out, HRM.out, if_neg (by decide), list_set_self HI.out]
            clear HA
            go_wp2_with fail
            go_region_held3 (fun w' => w'.cell? ⟨r, 0, none⟩ = some (.slice (some ⟨lb2, 0, none⟩) n cp2) ∧ w'.cell? ⟨db, dO + k, none⟩ = some (.int .i64 (i : Int)) ∧ w'.cell? ⟨lb2, i * 2, none⟩ = some (.slice (some ⟨ag, 0, none⟩) 256 acap) ∧ w'.cell? ⟨lb2, i * 2 + 1, none⟩ = some (.slice (some ⟨g, 0, none⟩) q vcap)) (go_keep) (fail)
            rw [HW5.out, HNB.out]
            clear HW5
            go_wp2_with fail
            go_quiet (fail)
            obtain ⟨W6, hW6⟩ : ∃ W6, W5.drewN nq = W6 := ⟨_, rfl⟩
            rw [hW6]
            have HT6 : Hid (Tch (fun j => nb ≤ j) wr W6) := by rw [← hW6]; exact Tch.trans (b := W5) (S' := fun j => nb ≤ j) (Tch.of_below (S := fun j => nb ≤ j) (by rw [HNB.out]; exact B5.out)) ⟨rfl, rfl, rfl, Nat.le_refl _, fun _ _ _ => rfl⟩ (fun _ _ e => e)
            have H6 : Hid (W6.heap[nb]? = some (.cells #[.slice (some ⟨ag, 0, none⟩) 256 acap, .slice (some ⟨g, 0, none⟩) q vcap] 70 (0, 0))) := by rw [← hW6]; exact H5H.out
            clear hW6 cp5 n0 n1 z0 z1
            have n06 := cell_of_row W6 nb 0 _ _ (0, 0) H6.out
            have n16 := cell_of_row W6 nb 1 _ _ (0, 0) H6.out
            have z06 := frozen_of_row W6 nb 0 _ _ H6.out
            have z16 := frozen_of_row W6 nb 1 _ _ H6.out
            have HT7 : Hid (Tch (fun j => nb ≤ j) wr (W6.setCell ⟨nb, 1, none⟩ (.slice none 0 0))) := HT6.out.trans (tch_set W6 nb 1 _) (fun j _ e => by rw [e]; exact Nat.le_refl _)
            have H7 : Hid ((W6.setCell ⟨nb, 1, none⟩ (.slice none 0 0)).heap[nb]? = some (.cells #[.slice (some ⟨ag, 0, none⟩) 256 acap, .slice none 0 0] 70 (0, 0))) := heap_setCell_same W6 nb 1 _ _ _ H6.out
            obtain ⟨W7, hW7⟩ : ∃ W7, W6.setCell ⟨nb, 1, none⟩ (.slice none 0 0) = W7 := ⟨_, rfl⟩
            rw [hW7] at HT7 H7
            have HW7 : Hid (W6.setCell ⟨nb, 1, none⟩ (.slice none 0 0) = W7) := hW7
            clear hW7
            go_wp2_with fail
            rw [HW7.out]
            clear HW7
            have c07 : W7.cell? ⟨r, 0, none⟩ = some (.slice (some ⟨lb2, 0, none⟩) n cp2) := by rw [HT7.out.cell (p := ⟨r, 0, none⟩) (by rw [HNB.out]; exact HBX.out _ _ _ c0) (by have := HBX.out _ _ _ c0; show ¬ nb ≤ r; omega)]; exact c0
            have ck7 : W7.cell? ⟨db, dO + k, none⟩ = some (.int .i64 (i : Int)) := by rw [HT7.out.cell (p := ⟨db, dO + k, none⟩) (by rw [HNB.out]; exact HBX.out _ _ _ ck) (by have := HBX.out _ _ _ ck; show ¬ nb ≤ db; omega)]; exact ck
            have X7 : Hid (RfAt R2 W7 r sk lb2 cp2 A2 B2 x2 W2) := HX.out.tch HT7.out (fun j hj e => by have := HX.out.rlt j hj; have := HNB.out; omega)
            have ca7 := X7.out.ca HI.out
            have cb7 := X7.out.cb HI.out
            have fa7 := X7.out.fl (i * 2)
            have fb7 := X7.out.fl (i * 2 + 1)
            have m0 := cell_of_row W7 nb 0 _ _ (0, 0) H7.out
            have m1 := cell_of_row W7 nb 1 _ _ (0, 0) H7.out
            clear c0 ck ca cb n06 n16 z06 z16 HBX
            have t8 : Tch (fun j => j = lb2) W7 ((W7.setCell ⟨lb2, i * 2, none⟩ (.slice (some ⟨ag, 0, none⟩) 256 acap)).setCell ⟨lb2, i * 2 + 1, none⟩ (.slice none 0 0)).drew := ((tch_set W7 lb2 (i * 2) (.slice (some ⟨ag, 0, none⟩) 256 acap)).trans (tch_set _ lb2 (i * 2 + 1) (.slice none 0 0)) (fun _ _ e => e)).drew
            have FIN : Hid (RfTo R w1 ((W7.setCell ⟨lb2, i * 2, none⟩ (.slice (some ⟨ag, 0, none⟩) 256 acap)).setCell ⟨lb2, i * 2 + 1, none⟩ (.slice none 0 0)).drew r (s0.pers s0.dirty ps (k + 1))) := by
              show RfTo _ _ _ _ _
              rw [HST.out, HPE.out]
              refine RfTo.trans (w' := W7) ⟨_, _, _, _, _, _, X7.out⟩ (HTX.out.trans HT7.out (fun j hj e => by have := HTX.out.size; have := HNB.out; omega)) HRX.out ?_
              refine X7.out.two HI.out (HUO.out.tch HT7.out (fun j hj e => by have := HX.out.rlt j (HUR.out j hj); have := HNB.out; omega)) HUR.out HYO.out t8 ?_
              exact (Tch.drew (Tch.refl (fun _ => False) _)).owns (row_set1 (row_set0 X7.out.row HI.out _) HI.out _) (fun _ _ e => e)
            clear t8
            go_still_tail 10, (by kernel_rfl)
            go_wp2_with fail
            exact ⟨⟨k + 1, by omega, by go_num, FIN⟩, by simp [intOf]; omega⟩
          · have he0 : (e : Int) > 0 := by omega
            obtain ⟨j, hj⟩ : ∃ j : Nat, e = j + 1 := ⟨e - 1, by omega⟩
            have HJ : Hid (e = j + 1) := hj
            have hje : (e : Int) - 1 = (j : Int) := by omega
            have hjq : (j : Int) < (q : Int) := by omega
            have hj0 : (0 : Int) ≤ (j : Int) := by omega
            clear hj he h0 HA
            go_wp2_with fail
            go_region_held3 (fun w' => w'.cell? ⟨r, 0, none⟩ = some (.slice (some ⟨lb2, 0, none⟩) n cp2) ∧ w'.cell? ⟨db, dO + k, none⟩ = some (.int .i64 (i : Int)) ∧ w'.cell? ⟨lb2, i * 2, none⟩ = some (.slice (some ⟨ag, 0, none⟩) 256 acap) ∧ w'.cell? ⟨lb2, i * 2 + 1, none⟩ = some (.slice (some ⟨g, 0, none⟩) q vcap)) (go_keep) (fail)
            rw [HW5.out, HNB.out]
            clear HW5
            go_wp2_with fail
            go_quiet (fail)
            obtain ⟨W6, hW6⟩ : ∃ W6, W5.drewN nq = W6 := ⟨_, rfl⟩
            rw [hW6]
            have HT6 : Hid (Tch (fun j => nb ≤ j) wr W6) := by rw [← hW6]; exact Tch.trans (b := W5) (S' := fun j => nb ≤ j) (Tch.of_below (S := fun j => nb ≤ j) (by rw [HNB.out]; exact B5.out)) ⟨rfl, rfl, rfl, Nat.le_refl _, fun _ _ _ => rfl⟩ (fun _ _ e => e)
            have H6 : Hid (W6.heap[nb]? = some (.cells #[.slice (some ⟨ag, 0, none⟩) 256 acap, .slice (some ⟨g, 0, none⟩) q vcap] 70 (0, 0))) := by rw [← hW6]; exact H5H.out
            clear hW6 cp5 n0 n1 z0 z1
            have n06 := cell_of_row W6 nb 0 _ _ (0, 0) H6.out
            have n16 := cell_of_row W6 nb 1 _ _ (0, 0) H6.out
            have z06 := frozen_of_row W6 nb 0 _ _ H6.out
            have z16 := frozen_of_row W6 nb 1 _ _ H6.out
            obtain ⟨u, hu, hcu⟩ := HWC.out j (by omega)
            have HUO : Hid (Owns .u8 5 wr u ((sk.V i).getD j [])) := HX.out.lw i j u HI.out hu
            have HYO : Hid (((sk.V i).getD j []).length = 256 ∧ By ((sk.V i).getD j [])) := (HX.out.okV i).get (by rw [HQ.out]; omega)
            have HUR : Hid (∀ j, u.ownBlock = some j → R2 j) := fun b hb => HX.out.rv i j u b HI.out hu hb
            have HPE : Hid (sk.per i (ps.getD k 0) = { sk with L := sk.L.set i ((sk.V i).getD j []), V := vput sk.V i [] }) := by
              show _ = _
              unfold DS.per
              rw [HQ.out, HRM.out, if_pos (by omega), show e - 1 = j by omega]
            obtain ⟨ug, ucap, rfl⟩ := HUO.out.sh HYO.out.1
            have cu6 : W6.cell? ⟨g, j, none⟩ = some (.slice (some ⟨ug, 0, none⟩) 256 ucap) := by rw [HT6.out.cell (p := ⟨g, j, none⟩) (by rw [HNB.out]; exact HBX.out _ _ _ hcu) (by have := HBX.out _ _ _ hcu; show ¬ nb ≤ g; omega)]; exact hcu
            have T7 : Hid (Tch (fun j => nb ≤ j) wr ((W6.setCell ⟨nb, 0, none⟩ (.slice (some ⟨ug, 0, none⟩) 256 ucap)).setCell ⟨nb, 1, none⟩ (.slice none 0 0))) := HT6.out.trans ((tch_set W6 nb 0 _).trans (tch_set _ nb 1 _) (fun _ _ e => e)) (fun j _ e => by rw [e]; exact Nat.le_refl _)
            have H7 : Hid (((W6.setCell ⟨nb, 0, none⟩ (.slice (some ⟨ug, 0, none⟩) 256 ucap)).setCell ⟨nb, 1, none⟩ (.slice none 0 0)).heap[nb]? = some (.cells #[.slice (some ⟨ug, 0, none⟩) 256 ucap, .slice none 0 0] 70 (0, 0))) := heap_setCell_same _ nb 1 _ _ _ (heap_setCell_same W6 nb 0 _ _ _ H6.out)
            obtain ⟨W7, hW7⟩ : ∃ W7, (W6.setCell ⟨nb, 0, none⟩ (.slice (some ⟨ug, 0, none⟩) 256 ucap)).setCell ⟨nb, 1, none⟩ (.slice none 0 0) = W7 := ⟨_, rfl⟩
            rw [hW7] at T7 H7
            have HT7 : Hid (Tch (fun j => nb ≤ j) wr W7) := T7
            have HW7 : Hid ((W6.setCell ⟨nb, 0, none⟩ (.slice (some ⟨ug, 0, none⟩) 256 ucap)).setCell ⟨nb, 1, none⟩ (.slice none 0 0) = W7) := hW7
            clear hW7 T7 hu hcu HWC
            go_wp2_with fail
            rw [HW7.out]
            clear HW7
            have c07 : W7.cell? ⟨r, 0, none⟩ = some (.slice (some ⟨lb2, 0, none⟩) n cp2) := by rw [HT7.out.cell (p := ⟨r, 0, none⟩) (by rw [HNB.out]; exact HBX.out _ _ _ c0) (by have := HBX.out _ _ _ c0; show ¬ nb ≤ r; omega)]; exact c0
            have ck7 : W7.cell? ⟨db, dO + k, none⟩ = some (.int .i64 (i : Int)) := by rw [HT7.out.cell (p := ⟨db, dO + k, none⟩) (by rw [HNB.out]; exact HBX.out _ _ _ ck) (by have := HBX.out _ _ _ ck; show ¬ nb ≤ db; omega)]; exact ck
            have X7 : Hid (RfAt R2 W7 r sk lb2 cp2 A2 B2 x2 W2) := HX.out.tch HT7.out (fun j hj e => by have := HX.out.rlt j hj; have := HNB.out; omega)
            have ca7 := X7.out.ca HI.out
            have cb7 := X7.out.cb HI.out
            have fa7 := X7.out.fl (i * 2)
            have fb7 := X7.out.fl (i * 2 + 1)
            have m0 := cell_of_row W7 nb 0 _ _ (0, 0) H7.out
            have m1 := cell_of_row W7 nb 1 _ _ (0, 0) H7.out
            clear c0 ck ca cb n06 n16 z06 z16 HBX
            have t8 : Tch (fun j => j = lb2) W7 ((W7.setCell ⟨lb2, i * 2, none⟩ (.slice (some ⟨ug, 0, none⟩) 256 ucap)).setCell ⟨lb2, i * 2 + 1, none⟩ (.slice none 0 0)).drew := ((tch_set W7 lb2 (i * 2) (.slice (some ⟨ug, 0, none⟩) 256 ucap)).trans (tch_set _ lb2 (i * 2 + 1) (.slice none 0 0)) (fun _ _ e => e)).drew
            have FIN : Hid (RfTo R w1 ((W7.setCell ⟨lb2, i * 2, none⟩ (.slice (some ⟨ug, 0, none⟩) 256 ucap)).setCell ⟨lb2, i * 2 + 1, none⟩ (.slice none 0 0)).drew r (s0.pers s0.dirty ps (k + 1))) := by
              show RfTo _ _ _ _ _
              rw [HST.out, HPE.out]
              refine RfTo.trans (w' := W7) ⟨_, _, _, _, _, _, X7.out⟩ (HTX.out.trans HT7.out (fun j hj e => by have := HTX.out.size; have := HNB.out; omega)) HRX.out ?_
              refine X7.out.two HI.out (HUO.out.tch HT7.out (fun j hj e => by have := HX.out.rlt j (HUR.out j hj); have := HNB.out; omega)) HUR.out HYO.out t8 ?_
              exact (Tch.drew (Tch.refl (fun _ => False) _)).owns (row_set1 (row_set0 X7.out.row HI.out _) HI.out _) (fun _ _ e => e)
            clear t8
            go_still_tail 10, (by kernel_rfl)
            go_wp2_with fail
            exact ⟨⟨k + 1, by omega, by go_num, FIN⟩, by simp [intOf]; omega⟩
      · have hkmi : ¬ (k : Int) < (m : Int) := by omega
        have HRM : Hid (rem (ps.getD k 0) q = 0) := by
          show _ = _
          rw [List.getD_eq_getElem?_getD, List.getElem?_eq_none (by rw [HM.out]; omega)]
          simp [rem]
        have HUO : Hid (Owns .u8 5 wr (.slice (some ⟨ag, 0, none⟩) 256 acap) (sk.L.getD i [])) := by rw [← HA.out]; exact HX.out.la i HI.out
        have HUR : Hid (∀ j, (Value.slice (some ⟨ag, 0, none⟩) 256 acap).ownBlock = some j → R2 j) := by rw [← HA.out]; exact fun j hj => HX.out.ra i j HI.out hj
        have HYO : Hid ((sk.L.getD i []).length = 256 ∧ By (sk.L.getD i [])) := HX.out.okL.get HI.out
        have HPE : Hid (sk.per i (ps.getD k 0) = { sk with L := sk.L.set i (sk.L.getD i []), V := vput sk.V i [] }) := by
          show _ = _
          unfold DS.per
          rw [HQ.out, HRM.out, if_neg (by decide), list_set_self HI.out]
        clear HA HWC
        have HT7 : Hid (Tch (fun j => nb ≤ j) wr (W5.setCell ⟨nb, 1, none⟩ (.slice none 0 0))) := (Tch.of_below (S := fun j => nb ≤ j) (by rw [HNB.out]; exact B5.out)).trans (tch_set W5 nb 1 _) (fun j _ e => by rw [e]; exact Nat.le_refl _)
        have H7 : Hid ((W5.setCell ⟨nb, 1, none⟩ (.slice none 0 0)).heap[nb]? = some (.cells #[.slice (some ⟨ag, 0, none⟩) 256 acap, .slice none 0 0] 70 (0, 0))) := heap_setCell_same W5 nb 1 _ _ _ H5H.out
        obtain ⟨W7, hW7⟩ : ∃ W7, W5.setCell ⟨nb, 1, none⟩ (.slice none 0 0) = W7 := ⟨_, rfl⟩
        rw [hW7] at HT7 H7
        have HW7 : Hid (W5.setCell ⟨nb, 1, none⟩ (.slice none 0 0) = W7) := hW7
        clear hW7
        go_wp2_with fail
        go_region_held3 (fun w' => w'.cell? ⟨r, 0, none⟩ = some (.slice (some ⟨lb2, 0, none⟩) n cp2) ∧ w'.cell? ⟨db, dO + k, none⟩ = some (.int .i64 (i : Int)) ∧ w'.cell? ⟨lb2, i * 2, none⟩ = some (.slice (some ⟨ag, 0, none⟩) 256 acap) ∧ w'.cell? ⟨lb2, i * 2 + 1, none⟩ = some (.slice (some ⟨g, 0, none⟩) q vcap)) (go_keep) (fail)
        rw [HW5.out, HNB.out]
        clear HW5
        go_wp2_with fail
        rw [HW7.out]
        clear HW7
        have c07 : W7.cell? ⟨r, 0, none⟩ = some (.slice (some ⟨lb2, 0, none⟩) n cp2) := by rw [HT7.out.cell (p := ⟨r, 0, none⟩) (by rw [HNB.out]; exact HBX.out _ _ _ c0) (by have := HBX.out _ _ _ c0; show ¬ nb ≤ r; omega)]; exact c0
        have ck7 : W7.cell? ⟨db, dO + k, none⟩ = some (.int .i64 (i : Int)) := by rw [HT7.out.cell (p := ⟨db, dO + k, none⟩) (by rw [HNB.out]; exact HBX.out _ _ _ ck) (by have := HBX.out _ _ _ ck; show ¬ nb ≤ db; omega)]; exact ck
        have X7 : Hid (RfAt R2 W7 r sk lb2 cp2 A2 B2 x2 W2) := HX.out.tch HT7.out (fun j hj e => by have := HX.out.rlt j hj; have := HNB.out; omega)
        have ca7 := X7.out.ca HI.out
        have cb7 := X7.out.cb HI.out
        have fa7 := X7.out.fl (i * 2)
        have fb7 := X7.out.fl (i * 2 + 1)
        have m0 := cell_of_row W7 nb 0 _ _ (0, 0) H7.out
        have m1 := cell_of_row W7 nb 1 _ _ (0, 0) H7.out
        clear c0 ck ca cb n0 n1 z0 z1 HBX
        have t8 : Tch (fun j => j = lb2) W7 ((W7.setCell ⟨lb2, i * 2, none⟩ (.slice (some ⟨ag, 0, none⟩) 256 acap)).setCell ⟨lb2, i * 2 + 1, none⟩ (.slice none 0 0)).drew := ((tch_set W7 lb2 (i * 2) (.slice (some ⟨ag, 0, none⟩) 256 acap)).trans (tch_set _ lb2 (i * 2 + 1) (.slice none 0 0)) (fun _ _ e => e)).drew
        have FIN : Hid (RfTo R w1 ((W7.setCell ⟨lb2, i * 2, none⟩ (.slice (some ⟨ag, 0, none⟩) 256 acap)).setCell ⟨lb2, i * 2 + 1, none⟩ (.slice none 0 0)).drew r (s0.pers s0.dirty ps (k + 1))) := by
          show RfTo _ _ _ _ _
          rw [HST.out, HPE.out]
          refine RfTo.trans (w' := W7) ⟨_, _, _, _, _, _, X7.out⟩ (HTX.out.trans HT7.out (fun j hj e => by have := HTX.out.size; have := HNB.out; omega)) HRX.out ?_
          refine X7.out.two HI.out (HUO.out.tch HT7.out (fun j hj e => by have := HX.out.rlt j (HUR.out j hj); have := HNB.out; omega)) HUR.out HYO.out t8 ?_
          exact (Tch.drew (Tch.refl (fun _ => False) _)).owns (row_set1 (row_set0 X7.out.row HI.out _) HI.out _) (fun _ _ e => e)
        clear t8
        go_still_tail 10, (by kernel_rfl)
        go_wp2_with fail
        exact ⟨⟨k + 1, by omega, by go_num, FIN⟩, by simp [intOf]; omega⟩
    · have hki : ¬ (k : Int) < (t : Int) := by omega
      have HK : Hid (k = t) := by show _ = _; omega
      clear hkt
      go_wp2_with fail
      go_end0
      refine ⟨rfl, ?_⟩
      rw [HPW.out, ← HK.out]
      exact RfTo.trans HX0.out T0.out (fun _ e => .inl e) (RfTo.trans (w' := w1) (by obtain ⟨lb, cp, A, B, x, W, h⟩ := HX0.out; exact ⟨_, _, _, _, _, _, h.tch (S := fun _ => False) (Tch.of_below B1.out) (fun _ _ e => e)⟩) (Tch.of_below B1.out) (fun _ e => .inl e) DK.out)
end Go.Proofs.Ytgpaklifjonlkaa
/-
  A bit is turned: the document's.
-/
namespace Go.Proofs.Ytgpaklifjonlkaa
open Go.RowKit Go.Maps
set_option linter.unusedVariables false
set_option linter.unusedSimpArgs false
set_option maxRecDepth 100000

set_option maxHeartbeats 1000000 in
theorem refTurned_any (k : Nat) (v : Value) (x : List Int) (w : World) (hr : Rd .u8 w v x) (hx : x.length = 256) (hbx : By x) (hk : k < 2048) :
    Calls Try.prog 61 #[v, .int .i64 (k : Int)] w fun e w' => ∃ v', e = .returned v' ∧ Owns .u8 5 w' v' (trn k x) ∧ Below w.heap.size w w' ∧ ∀ j, v'.ownBlock = some j → w.heap.size ≤ j := by
  have hj : k / 8 < 256 := by omega
  have hb := hbx (k / 8)
  obtain ⟨y, hy⟩ : ∃ y : Nat, x.getD (k / 8) 0 = (y : Int) := ⟨(x.getD (k / 8) 0).toNat, by omega⟩
  have hy8 : y < 256 := by rw [hy] at hb; omega
  have hr8 : k % 8 < 8 := Nat.mod_lt _ (by decide)
  have hp8 : (2 : Nat) ^ (k % 8) < 256 := by have := Nat.pow_lt_pow_right (a := 2) (by decide) hr8; simpa using this
  have HX : Hid (Go.bits .xor .u8 (y : Int) ((2 ^ (k % 8) : Nat) : Int) = ((y ^^^ 2 ^ (k % 8) : Nat) : Int)) := u8_xor_nat y (2 ^ (k % 8)) (by omega) (by omega)
  have HZ : Hid (y ^^^ 2 ^ (k % 8) < 256) := Nat.xor_lt_two_pow (n := 8) (by omega) (by omega)
  have HT : Hid (trn k x = x.set (k / 8) ((y ^^^ 2 ^ (k % 8) : Nat) : Int)) := by
    show _ = _
    unfold trn
    rw [hy, Int.toNat_natCast]
  have HR : Hid (Rd .u8 w v x) := hr
  have HXL : Hid (x.length = 256) := hx
  obtain ⟨P, hP⟩ : ∃ P : Nat, 2 ^ (k % 8) = P := ⟨_, rfl⟩
  have hsh : IntKind.u8.wrap (1 * 2 ^ (k % 8)) = (P : Int) := by
    rw [← hP, Int.one_mul]
    have : ((2 : Int) ^ (k % 8)) = ((2 ^ (k % 8) : Nat) : Int) := by simp
    rw [this]
    have : ((2 ^ (k % 8) : Nat) : Int) < 256 := by omega
    simp [IntKind.wrap, IntKind.bits, IntKind.signed]
    omega
  rw [hP] at HX HZ HT
  obtain ⟨j, hjj⟩ : ∃ j, k / 8 = j := ⟨_, rfl⟩
  obtain ⟨r, hrr⟩ : ∃ r, k % 8 = r := ⟨_, rfl⟩
  have hdiv : (k : Int).tdiv 8 = (j : Int) := by rw [← hjj]; rfl
  have hmod : (k : Int).tmod 8 = (r : Int) := by rw [← hrr]; rfl
  rw [hjj] at HT hj
  rw [hrr] at hsh hr8
  have HY : Hid (x.getD j 0 = (y : Int)) := by rw [← hjj]; exact hy
  have HJ : Hid (j < 256) := hj
  have HS : Hid (∀ w2 v2, Owns .u8 5 w2 v2 x → ∃ g cap, v2 = .slice (some ⟨g, 0, none⟩) 256 cap ∧ w2.cell? ⟨g, j, none⟩ = some (.int .u8 (y : Int)) ∧ w2.frozen? ⟨g, j, none⟩ = false) := fun w2 v2 h2 => by
    obtain ⟨g, cap, rfl, h3, h4, h5, h6, h7⟩ := h2.shape (by rw [HXL.out]; decide)
    refine ⟨g, cap, by rw [HXL.out], ?_, h7 j⟩
    rw [h6 j (by rw [HXL.out]; exact HJ.out), HY.out]
  have hj1 : (j : Int) < 256 := by omega
  have hj2 : (j : Int) ≤ 255 := by omega
  clear hb hy hp8 hP hjj hrr hr hx hbx hj
  have hj0 : (0 : Int) ≤ (j : Int) := by omega
  have hr0 : (0 : Int) ≤ (r : Int) := by omega
  have hjw : IntKind.i64.wrap (j : Int) = (j : Int) := by rw [IntKind.wrap_i64]; omega
  have hsh2 : IntKind.u8.wrap (2 ^ min r 8) = (P : Int) := by rw [Nat.min_eq_left (by omega), ← hsh, Int.one_mul]
  have hx := HX.out
  obtain ⟨Z, hZ⟩ : ∃ Z : Nat, y ^^^ P = Z := ⟨_, rfl⟩
  rw [hZ] at hx HZ HT
  have HPW : Hid ((2 : Int) ^ r % 256 = (P : Int)) := by
    have h1 := hsh2
    rw [Nat.min_eq_left (by omega)] at h1
    rw [← h1]
    simp [IntKind.wrap, IntKind.bits, IntKind.signed, Hid]
  clear hZ hsh HX
  go_enter Try.func61, Try.ntmps61
  go_wp2_with (at_builtin; refine Hid.out ?_)
  refine hideP ?_
  refine wpList_many w rfl (.tmp 6) (.tmp 7) 38 rfl 5 .u8 1 elem8 (.slice none 0 0) [] rfl (owns_nil _ _ _) _ x rfl HR.out (by rw [HXL.out]; decide) (by rw [HXL.out]; decide) ?_
  intro v2 w2 ho2 hg2
  obtain ⟨g, cap, rfl, cg, fg⟩ := HS.out w2 v2 ho2
  have O2 : Hid (Owns .u8 5 (w2.drew.setCell ⟨g, j, none⟩ (.int .u8 (Z : Int))) (.slice (some ⟨g, 0, none⟩) 256 cap) (x.set j (Z : Int))) := (show Owns .u8 5 w2.drew (.slice (some ⟨g, 0, none⟩) 256 cap) x from ho2.tch (S := fun _ => False) (Tch.drew (Tch.refl _ w2)) (fun _ _ e => e)).set j (Z : Int)
  have F2 : Hid (w.heap.size ≤ g) := hg2.below.2 g rfl
  have B2 : Hid (Below w.heap.size w (w2.drew.setCell ⟨g, j, none⟩ (.int .u8 (Z : Int)))) := by
    have h1 := hg2.below.1
    exact h1.trans ((Tch.trans (S := fun k => k = g) (S' := fun k => k = g) (Tch.drew (Tch.refl _ w2)) (tch_set w2.drew g j _) (fun _ _ e => e)).below h1.size (fun k e => by rw [e]; exact F2.out))
  clear ho2 hg2 HS
  go_wp2_with fail
  go_still_tail 13, (by kernel_rfl)
  go_wp2_with fail
  go_ret
  have hv : Go.bits .xor .u8 (y : Int) ((2 : Int) ^ r % 256) = (Z : Int) := by
    rw [show (2 : Int) ^ r % 256 = (P : Int) from HPW.out]
    exact hx
  rw [hv, HT.out]
  exact ⟨_, rfl, O2.out, B2.out, fun k hk => by cases hk; exact F2.out⟩
end Go.Proofs.Ytgpaklifjonlkaa
/-
  A bit rots: the document's.
-/
namespace Go.Proofs.Ytgpaklifjonlkaa
open Go.RowKit Go.Maps
set_option linter.unusedVariables false
set_option linter.unusedSimpArgs false
set_option maxRecDepth 100000

theorem refRot_bad {R : Nat → Prop} {r : Nat} {s : DS} (bit : Int) (w : World) (h : Rf R w r s) (hb : bit < 0 ∨ 2048 * (s.L.length : Int) ≤ bit) :
    Calls Try.prog 33 #[dp r, .int .i64 bit] w fun e w' => e = .returned (.int .i64 2) ∧ w' = w := by
  obtain ⟨lb, cp, A, B, x, W, h⟩ := h
  by_cases h0 : bit < 0
  · clear hb h
    go_enter Try.func33, Try.ntmps33
    go_wp2_with fail
    go_ret
    exact ⟨rfl, rfl⟩
  · have c0 := h.c0
    have n2 := h.n2
    obtain ⟨n, hn⟩ : ∃ n, s.L.length = n := ⟨_, rfl⟩
    rw [hn] at c0 hb n2
    have h1 : bit ≥ 2048 * (n : Int) := by omega
    clear hb h hn
    go_enter Try.func33, Try.ntmps33
    go_wp2_with fail
    go_ret
    exact ⟨rfl, rfl⟩

/-- The turned ones, so far. -/
structure RotI (w wr : World) (nb : Nat) (v1 : Value) (y : List Int) (bv lv : Value) (Ws : List Value) (Vs : List (List Int)) : Prop where
  be : Below w.heap.size w wr
  box : wr.heap[nb]? = some (.cells #[v1, bv] 70 (0, 0))
  nbn : w.heap.size ≤ nb
  o1 : Owns .u8 5 wr v1 y
  f1 : ∀ k, v1.ownBlock = some k → w.heap.size ≤ k
  row : wr.ownsRow 0 38 1 lv Vs.length Ws
  ows : ∀ (j : Nat) (v : Value), Ws[j]? = some v → Owns .u8 5 wr v (Vs.getD j [])
  fl : ∀ k, lv.ownBlock = some k → w.heap.size ≤ k
  fw : ∀ (j : Nat) (v : Value) (k : Nat), Ws[j]? = some v → v.ownBlock = some k → w.heap.size ≤ k

section
variable {w wr : World} {nb : Nat} {v1 : Value} {y : List Int} {bv lv : Value} {Ws : List Value} {Vs : List (List Int)}
theorem RotI.wl (h : RotI w wr nb v1 y bv lv Ws Vs) : Ws.length = Vs.length := by have := h.row.1; omega
theorem RotI.c0 (h : RotI w wr nb v1 y bv lv Ws Vs) : wr.cell? ⟨nb, 0, none⟩ = some v1 := by rw [cell_of_row wr nb 0 _ _ (0, 0) h.box]; rfl
theorem RotI.c1 (h : RotI w wr nb v1 y bv lv Ws Vs) : wr.cell? ⟨nb, 1, none⟩ = some bv := by rw [cell_of_row wr nb 1 _ _ (0, 0) h.box]; rfl
theorem RotI.lt (h : RotI w wr nb v1 y bv lv Ws Vs) : nb < wr.heap.size := (Array.getElem?_eq_some_iff.1 h.box).1
/-- Another turned one is appended. -/
theorem RotI.step (h : RotI w wr nb v1 y bv lv Ws Vs) {w3 w5 : World} {v3 v5 : Value} {y3 : List Int} (ho : Owns .u8 5 w3 v3 y3) (hb : Below wr.heap.size wr w3) (hf : ∀ k, v3.ownBlock = some k → wr.heap.size ≤ k)
    (hr : w5.ownsRow 0 38 1 v5 (Ws ++ [v3]).length (Ws ++ [v3])) (hg : (w3.alloc (.cells #[v3] 38)).grownBy w5 lv.ownBlock) (hf5 : ∀ k, v5.ownBlock = some k → lv.ownBlock = some k ∨ (w3.alloc (.cells #[v3] 38)).heap.size ≤ k) :
    RotI w w5 nb v1 y bv v5 (Ws ++ [v3]) (Vs ++ [y3]) := by
  have T3 : Tch (fun _ => False) wr w3 := Tch.of_below hb
  have TA : Tch (fun _ => False) w3 (w3.alloc (.cells #[v3] 38)) := Tch.alloc (Tch.refl _ w3) _
  have T5 : Tch (fun k => lv.ownBlock = some k) w3 w5 := (TA.mono (S' := fun k => lv.ownBlock = some k) (fun _ _ e => e.elim)).trans (Tch.of_grown hg) (fun _ _ e => e)
  have T : Tch (fun k => lv.ownBlock = some k) wr w5 := (T3.mono (S' := fun k => lv.ownBlock = some k) (fun _ _ e => e.elim)).trans T5 (fun _ _ e => e)
  have hs1 := h.be.size
  have hs3 := T3.size
  have hne : ∀ {W : World} {v : Value} {ys : List Int} {k : Nat}, Owns .u8 5 W v ys → W.ownsRow 0 38 1 lv Vs.length Ws → v.ownBlock = some k → ¬ lv.ownBlock = some k := fun ho hr hk e => by
    obtain ⟨C, hC⟩ := owns_block ho hk
    obtain ⟨D, hD⟩ := owns_block hr e
    exact block_ne hC hD (by decide) rfl
  have hnb : ¬ lv.ownBlock = some nb := fun e => by
    obtain ⟨D, hD⟩ := owns_block h.row e
    exact block_ne hD h.box (by decide) rfl
  have row3 : w3.ownsRow 0 38 1 lv Vs.length Ws := T3.owns h.row (fun _ _ e => e)
  exact {
    be := h.be.trans (T.below hs1 (fun k e => h.fl k e))
    box := by rw [T.block nb h.lt hnb]; exact h.box
    nbn := h.nbn
    o1 := h.o1.tch T (fun k hk => hne h.o1 h.row hk)
    f1 := h.f1
    row := by
      have e : (Ws ++ [v3]).length = (Vs ++ [y3]).length := by simp [h.wl]
      rw [← e]; exact hr
    ows := fun j v hj => by
      rw [List.getElem?_append] at hj
      rw [List.getD_eq_getElem?_getD, List.getElem?_append]
      have hwl := h.wl
      split at hj
      · rename_i hjl
        rw [if_pos (by omega), ← List.getD_eq_getElem?_getD]
        have ho := h.ows j v hj
        exact ho.tch T (fun k hk => hne ho h.row hk)
      · rename_i hjl
        rw [if_neg (by omega)]
        have hj0 : j - Ws.length = 0 := by
          have := (List.getElem?_eq_some_iff.1 hj).1
          simp at this
          omega
        rw [hj0] at hj
        rw [← hwl, hj0]
        simp at hj
        subst hj
        exact ho.tch T5 (fun k hk => hne ho row3 hk)
    fl := fun k hk => by
      rcases hf5 k hk with e | e
      · exact h.fl k e
      · simp at e; omega
    fw := fun j v k hj hk => by
      rw [List.getElem?_append] at hj
      split at hj
      · exact h.fw j v k hj hk
      · have hj0 : j - Ws.length = 0 := by
          have := (List.getElem?_eq_some_iff.1 hj).1
          simp at this
          omega
        rw [hj0] at hj
        simp at hj
        subst hj
        have := hf k hk
        omega }
end

/-- The turned sector is laid where it was. -/
theorem RotI.fin {R : Nat → Prop} {w wr : World} {r : Nat} {s : DS} {lb cp : Nat} {A B : Nat → Value} {x : Int} {W : Nat → List Value} (h : RfAt R w r s lb cp A B x W) {i b : Nat} (hi : i < s.L.length) (hb : b < 2048)
    {nb : Nat} {v1 bv lv : Value} {Ws : List Value} (I : RotI w wr nb v1 (trn b (s.L.getD i [])) bv lv Ws ((s.V i).map (trn b))) {w' : World} (ht : Tch (fun k => nb = k ∨ k = lb) wr w')
    (hrow : w'.ownsRow 0 70 2 (.slice (some ⟨lb, 0, none⟩) s.L.length cp) s.L.length (cl s.L.length (updV A i v1) (updV B i lv))) :
    RfTo R w w' r { s with L := s.L.set i (trn b (s.L.getD i [])), V := vput s.V i ((s.V i).map (trn b)) } := by
  have hs := I.be.size
  have hlb := h.rlt _ h.rl
  have T : Tch (fun k => k = lb) w w' := (Tch.of_below I.be).trans ht (fun k hk e => by
    rcases e with e | e
    · have := I.nbn; omega
    · exact e)
  have hne : ∀ {v : Value} {k : Nat} {ys : List Int}, Owns .u8 5 wr v ys → (∀ k, v.ownBlock = some k → w.heap.size ≤ k) → v.ownBlock = some k → ¬ (nb = k ∨ k = lb) := fun ho hf hk e => by
    rcases e with e | e
    · obtain ⟨C, hC⟩ := owns_block ho hk
      exact block_ne hC I.box (by decide) e.symm
    · have := hf _ hk; omega
  obtain ⟨hy1, hy2⟩ := h.okL.get hi
  refine h.put hi v1 lv _ _ Ws (T.mono (fun k _ e => .inl e)) hrow (I.o1.tch ht (fun k hk => hne I.o1 I.f1 hk)) (ht.owns I.row (fun k hk e => ?_)) (fun j v hj => (I.ows j v hj).tch ht (fun k hk => hne (I.ows j v hj) (fun k hk => I.fw j v k hj hk) hk)) (trn_ok hb hy1 hy2) ?_ (fun k hk => .inr (I.f1 k hk)) (fun k hk => .inr (I.fl k hk)) (fun j v k hj hk => .inr (I.fw j v k hj hk))
  · rcases e with e | e
    · obtain ⟨C, hC⟩ := owns_block I.row hk
      exact block_ne hC I.box (by decide) e.symm
    · have := I.fl _ hk; omega
  · intro y hy
    obtain ⟨z, hz, rfl⟩ := List.mem_map.1 hy
    exact trn_ok hb (h.okV i z hz).1 (h.okV i z hz).2
end Go.Proofs.Ytgpaklifjonlkaa
/-
  A bit rots: the document's, walked.
-/
namespace Go.Proofs.Ytgpaklifjonlkaa
open Go.RowKit Go.Maps
set_option linter.unusedVariables false
set_option linter.unusedSimpArgs false
set_option maxRecDepth 100000

set_option maxHeartbeats 2000000 in
theorem refRot_ok {R : Nat → Prop} {r : Nat} {s : DS} (b : Nat) (w : World) (h : Rf R w r s) (hb : b < 2048 * s.L.length) (hV : ∀ i, (s.V i).length < 274877906944) :
    Calls Try.prog 33 #[dp r, .int .i64 (b : Int)] w fun e w' => e = .returned (.int .i64 0) ∧ RfTo R w w' r (s.rot b) := by
  obtain ⟨lb, cp, A, B, x, W, h⟩ := h
  obtain ⟨i, hi⟩ : ∃ i, b / 2048 = i := ⟨_, rfl⟩
  obtain ⟨t, ht⟩ : ∃ t, b % 2048 = t := ⟨_, rfl⟩
  have HI : Hid (i < s.L.length) := by show _ < _; omega
  have HTL : Hid (t < 2048) := by show _ < _; omega
  have HROT : Hid (s.rot b = { s with L := s.L.set i (trn t (s.L.getD i [])), V := vput s.V i ((s.V i).map (trn t)) }) := by show _ = _; unfold DS.rot; rw [hi, ht]
  have HX : Hid (RfAt R w r s lb cp A B x W) := h
  have c0 := h.c0
  have ca := h.ca HI.out
  have cb := h.cb HI.out
  have n2 := h.n2
  obtain ⟨n, hn⟩ : ∃ n, s.L.length = n := ⟨_, rfl⟩
  have HN : Hid (s.L.length = n) := hn
  rw [hn] at c0 n2 hb
  have hb0 : ¬ (b : Int) < 0 := by omega
  have hb1 : ¬ (b : Int) ≥ 2048 * (n : Int) := by omega
  have hbb : (b : Int) < 8388608 := by omega
  have hdiv : (b : Int).tdiv 2048 = (i : Int) := by rw [← hi]; rfl
  have hmod : (b : Int).tmod 2048 = (t : Int) := by rw [← ht]; rfl
  have hi0 : (0 : Int) ≤ (i : Int) := by omega
  have hin : (i : Int) < (n : Int) := by rw [← hn]; have := HI.out; omega
  have hi63 : (i : Int) ≤ 4096 := by omega
  have ht63 : (t : Int) ≤ 2048 := by have := HTL.out; omega
  have ht0 : (0 : Int) ≤ (t : Int) := by omega
  have hL := h.la i HI.out
  have hY := h.okL.get HI.out
  obtain ⟨ag, acap, hA⟩ := hL.sh hY.1
  have HA : Hid (Owns .u8 5 w (.slice (some ⟨ag, 0, none⟩) 256 acap) (s.L.getD i [])) := by rw [← hA]; exact hL
  have HY : Hid ((s.L.getD i []).length = 256 ∧ By (s.L.getD i [])) := hY
  obtain ⟨q, hq⟩ : ∃ q, (s.V i).length = q := ⟨_, rfl⟩
  have HQ : Hid ((s.V i).length = q) := hq
  have hqM : q < 274877906944 := by rw [← hq]; exact hV i
  have HB : ∃ a vcap, B i = .slice a q vcap ∧ Hid (∀ k, k < q → ∃ g u, a = some ⟨g, 0, none⟩ ∧ w.cell? ⟨g, k, none⟩ = some u ∧ Owns .u8 5 w u ((s.V i).getD k []) ∧ ((s.V i).getD k []).length = 256 ∧ By ((s.V i).getD k [])) := by
    rcases h.bsh HI.out with ⟨e, e2⟩ | ⟨g, vcap, e, hc1, hc2, hwl, hwc⟩
    · refine ⟨none, 0, ?_, fun k hk => ?_⟩
      · rw [e, ← hq, e2]; rfl
      · rw [← hq, e2] at hk; simp at hk
    · refine ⟨_, vcap, by rw [e, hq], fun k hk => ?_⟩
      obtain ⟨u, hu⟩ : ∃ u, (W i)[k]? = some u := ⟨_, List.getElem?_eq_getElem (by omega)⟩
      obtain ⟨h1, h2⟩ := (h.okV i).get (i := k) (by omega)
      exact ⟨g, u, rfl, hwc _ _ hu, h.lw i k u HI.out hu, h1, h2⟩
  obtain ⟨va, vcap, hB, HBC⟩ := HB
  rw [hA] at ca
  rw [hB] at cb
  obtain ⟨nb, hnb⟩ : ∃ nb, w.heap.size = nb := ⟨_, rfl⟩
  obtain ⟨W1, hW1⟩ : ∃ W1, w.alloc (.cells #[.slice (some ⟨ag, 0, none⟩) 256 acap, .slice va q vcap] 70) = W1 := ⟨_, rfl⟩
  have B1 : Hid (Below w.heap.size w W1) := by rw [← hW1]; exact (Below.refl _ _).alloc (Nat.le_refl _) _
  have H1 : Hid (W1.heap[nb]? = some (.cells #[.slice (some ⟨ag, 0, none⟩) 256 acap, .slice va q vcap] 70 (0, 0))) := by rw [← hW1, ← hnb]; exact heap_alloc_new w _
  have HNB : Hid (w.heap.size = nb) := hnb
  have HW1 : Hid (w.alloc (.cells #[.slice (some ⟨ag, 0, none⟩) 256 acap, .slice va q vcap] 70) = W1) := hW1
  have HC1 := hideP (refTurned_any t _ _ W1 (HA.out.below B1.out).rd HY.out.1 HY.out.2 HTL.out)
  clear h hi ht hn hL hY hA hq hV hB hnb hW1 hb
  go_enter Try.func33, Try.ntmps33
  go_wp2_with fail
  rw [HW1.out, HNB.out]
  refine HC1.out.mono ?_
  clear HC1 HW1
  rintro e w2 ⟨v1, rfl, ho2, hb2, hf2⟩
  obtain ⟨y, hy⟩ : ∃ y, trn t (s.L.getD i []) = y := ⟨_, rfl⟩
  have HYE : Hid (trn t (s.L.getD i []) = y) := hy
  rw [hy] at ho2
  obtain ⟨g1, cap1, rfl⟩ := ho2.sh (by rw [← hy]; exact (trn_ok HTL.out HY.out.1 HY.out.2).1)
  have H2 : w2.heap[nb]? = some (.cells #[.slice (some ⟨ag, 0, none⟩) 256 acap, .slice va q vcap] 70 (0, 0)) := by rw [hb2.block nb (Array.getElem?_eq_some_iff.1 H1.out).1]; exact H1.out
  have m0 := cell_of_row w2 nb 0 _ _ (0, 0) H2
  have z0 := frozen_of_row w2 nb 0 _ _ H2
  have I0 : Hid (RotI w (w2.setCell ⟨nb, 0, none⟩ (.slice (some ⟨g1, 0, none⟩) 256 cap1)) nb (.slice (some ⟨g1, 0, none⟩) 256 cap1) y (.slice va q vcap) (.slice none 0 0) [] (((s.V i).take 0).map (trn t))) := by
    have hBW : Below w.heap.size w w2 := B1.out.trans (hb2.mono B1.out.size)
    have hgn : g1 ≠ nb := by
      obtain ⟨C, hC⟩ := owns_block ho2 rfl
      exact block_ne hC H2 (by decide)
    exact {
      be := hBW.trans ((tch_set w2 nb 0 _).below hBW.size (fun k e => by rw [e, HNB.out]; exact Nat.le_refl _))
      box := heap_setCell_same w2 nb 0 _ _ _ H2
      nbn := by rw [HNB.out]; exact Nat.le_refl _
      o1 := ho2.tch (tch_set w2 nb 0 _) (fun k hk e => by cases hk; exact hgn e)
      f1 := fun k hk => Nat.le_trans B1.out.size (hf2 k hk)
      row := World.ownsRow_nil _ _ _ _
      ows := fun j v hj => by simp at hj
      fl := fun k hk => by cases hk
      fw := fun j v k hj => by simp at hj }
  clear ho2 hb2 hf2 hy H2 H1 B1
  go_wp2_with fail
  clear m0 z0
  go_loopw [6, 7] (fun lv iv wr => ∃ (k : Nat) (Ws : List Value), k ≤ q ∧ iv = .int .i64 k ∧ Hid (RotI w wr nb (.slice (some ⟨g1, 0, none⟩) 256 cap1) y (.slice va q vcap) lv Ws (((s.V i).take k).map (trn t)))) (fun _ iv _ => q - (intOf iv).toNat)
  case atStart => exact ⟨0, [], Nat.zero_le _, rfl, I0⟩
  case round =>
    obtain ⟨k, Ws, hk, rfl, I⟩ := hrel
    have m1 := I.out.c1
    by_cases hkq : k < q
    · have hki : (k : Int) < (q : Int) := by omega
      have hk0 : (0 : Int) ≤ (k : Int) := by omega
      obtain ⟨g, u, rfl, hcu, hou, hul, hub⟩ := HBC.out k hkq
      have hcu2 : wr.cell? ⟨g, k, none⟩ = some u := by rw [I.out.be.cell (p := ⟨g, k, none⟩) (World.block_lt_of_cell? w ⟨g, k, none⟩ hcu)]; exact hcu
      obtain ⟨ug, ucap, rfl⟩ := hou.sh hul
      have HC := hideP (refTurned_any t _ _ wr (hou.below I.out.be).rd hul hub HTL.out)
      have HSV : Hid (((s.V i).take (k + 1)).map (trn t) = ((s.V i).take k).map (trn t) ++ [trn t ((s.V i).getD k [])]) := by
        show _ = _
        rw [List.take_add_one, List.map_append, List.getD_eq_getElem?_getD, List.getElem?_eq_getElem (by rw [HQ.out]; exact hkq)]
        rfl
      have HLE : Hid (Ws.length + 1 ≤ 2000000000000) := by
        have := I.out.wl
        rw [List.length_map, List.length_take] at this
        show _ ≤ _
        omega
      have HY3 : Hid ((trn t ((s.V i).getD k [])).length = 256) := (trn_ok HTL.out hul hub).1
      clear hcu hou hul hub
      go_wp2_with fail
      refine HC.out.mono ?_
      clear HC
      rintro e w3 ⟨v3, rfl, ho3, hb3, hf3⟩
      have O3 : Hid (Owns .u8 5 w3 v3 (trn t ((s.V i).getD k []))) := ho3
      have B3 : Hid (Below wr.heap.size wr w3) := hb3
      have F3 : Hid (∀ k, v3.ownBlock = some k → wr.heap.size ≤ k) := hf3
      obtain ⟨g3, cap3, rfl⟩ := ho3.sh HY3.out
      have R3 : Hid ((w3.alloc (.cells #[.slice (some ⟨g3, 0, none⟩) 256 cap3] 38)).ownsRow 0 38 1 u6 Ws.length Ws) := by
        have h1 := I.out.row
        rw [← I.out.wl] at h1
        exact (Tch.alloc (Tch.of_below (S := fun _ => False) hb3) _).owns h1 (fun _ _ e => e)
      have HCV : Hid ((w3.alloc (.cells #[.slice (some ⟨g3, 0, none⟩) 256 cap3] 38)).cell? ⟨w3.heap.size, 0, none⟩ = some (.slice (some ⟨g3, 0, none⟩) 256 cap3)) := cell_of_row _ _ 0 _ _ (0, 0) (heap_alloc_new w3 _)
      clear ho3 hb3 hf3
      go_wp2_with (at_builtin; refine Hid.out ?_)
      refine hideP ?_
      refine wpList_appV _ rfl (.tmp 41) (.tmp 50) rfl u6 Ws rfl R3.out w3.heap.size (.slice (some ⟨g3, 0, none⟩) 256 cap3) rfl ⟨_, _, _, rfl⟩ HCV.out HLE.out ?_
      intro v5 w5 hr5 hg5 hf5
      have I5 : Hid (RotI w w5 nb (.slice (some ⟨g1, 0, none⟩) 256 cap1) y (.slice (some ⟨g, 0, none⟩) q vcap) v5 (Ws ++ [.slice (some ⟨g3, 0, none⟩) 256 cap3]) (((s.V i).take (k + 1)).map (trn t))) := by
        rw [HSV.out]
        exact I.out.step O3.out B3.out F3.out hr5 hg5 hf5
      clear hr5 hg5 hf5 R3 HCV O3 B3 F3 I
      go_wp2_with fail
      go_roundw
      case rel => exact ⟨k + 1, _, by omega, by go_num, I5⟩
      case measure => simp [intOf]; omega
    · have hki : ¬ (k : Int) < (q : Int) := by omega
      have HK : Hid ((s.V i).take k = s.V i) := by show _ = _; rw [List.take_of_length_le (by rw [HQ.out]; omega)]
      rw [HK.out] at I
      have z1 := frozen_of_row wr nb 1 _ _ I.out.box
      have m0 := I.out.c0
      have HLB : Hid (lb < w.heap.size ∧ r < w.heap.size) := ⟨HX.out.rlt _ HX.out.rl, HX.out.lt⟩
      obtain ⟨la, ln, lc, rfl⟩ : IsSl u6 := by
        rcases I.out.row.2 with ⟨e, _⟩ | ⟨g, cap, cur, e, _⟩
        · exact ⟨_, _, _, e⟩
        · exact ⟨_, _, _, e⟩
      clear hkq HBC
      have m0c := m0
      obtain ⟨W7, hW7⟩ : ∃ W7, wr.setCell ⟨nb, 1, none⟩ (.slice la ln lc) = W7 := ⟨_, rfl⟩
      have H7 : W7.heap[nb]? = some (.cells #[.slice (some ⟨g1, 0, none⟩) 256 cap1, .slice la ln lc] 70 (0, 0)) := by rw [← hW7]; exact heap_setCell_same wr nb 1 _ _ _ I.out.box
      have n0 := cell_of_row W7 nb 0 _ _ (0, 0) H7
      have n1 := cell_of_row W7 nb 1 _ _ (0, 0) H7
      have X7 : Hid (RfAt R W7 r s lb cp A B x W) := by
        rw [← hW7]
        exact (HX.out.tch (S := fun _ => False) (Tch.of_below I.out.be) (fun _ _ e => e)).tch (tch_set wr nb 1 _) (fun k hk e => by have := HX.out.rlt k hk; have := HNB.out; omega)
      have T7 : Hid (Tch (fun k => nb = k ∨ k = lb) wr ((W7.setCell ⟨lb, i * 2, none⟩ (.slice (some ⟨g1, 0, none⟩) 256 cap1)).setCell ⟨lb, i * 2 + 1, none⟩ (.slice la ln lc)).drew) := by
        rw [← hW7]
        exact (((tch_set wr nb 1 (.slice la ln lc)).mono (S' := fun k => nb = k ∨ k = lb) (fun k _ e => .inl e.symm)).trans ((tch_set _ lb (i * 2) _).trans (tch_set _ lb (i * 2 + 1) _) (fun _ _ e => e)) (fun k _ e => .inr e)).drew
      have c07 := X7.out.c0
      rw [HN.out] at c07
      have ca7 := X7.out.ca HI.out
      have cb7 := X7.out.cb HI.out
      have fa7 := X7.out.fl (i * 2)
      have fb7 := X7.out.fl (i * 2 + 1)
      have FIN : Hid (RfTo R w ((W7.setCell ⟨lb, i * 2, none⟩ (.slice (some ⟨g1, 0, none⟩) 256 cap1)).setCell ⟨lb, i * 2 + 1, none⟩ (.slice la ln lc)).drew r (s.rot b)) := by
        rw [HROT.out]
        rw [← HYE.out] at I
        refine RotI.fin HX.out HI.out HTL.out I.out T7.out ?_
        exact (Tch.drew (Tch.refl (fun _ => False) _)).owns (row_set1 (row_set0 X7.out.row HI.out _) HI.out _) (fun _ _ e => e)
      have HW7 : Hid (wr.setCell ⟨nb, 1, none⟩ (.slice la ln lc) = W7) := hW7
      clear hW7 H7 T7
      go_wp2_with fail
      rw [HW7.out]
      clear HW7 m0 m1 z1 m0c c0 ca cb
      have hiw : IntKind.i64.wrap (i : Int) = (i : Int) := by rw [IntKind.wrap_i64]; omega
      go_still_tail 8, (by kernel_rfl)
      go_wp2_with fail
      go_ret
      exact ⟨rfl, FIN.out⟩
end Go.Proofs.Ytgpaklifjonlkaa
/-
  Each deed of the document's disk, for whatever is asked.
-/
namespace Go.Proofs.Ytgpaklifjonlkaa
open Go.RowKit Go.Maps
set_option linter.unusedVariables false
set_option linter.unusedSimpArgs false
set_option maxRecDepth 100000

section
variable {R : Nat → Prop} {r : Nat} {s : DS}
theorem refWrite_all (at_ : Int) (v : Value) (xs : List Int) (w : World) (h : Rf R w r s) (hr : Rd .u8 w v xs) (hy : By xs) (hv : ∀ k, v.ownBlock = some k → ¬ R k) (hm : ∀ i, (s.V i).length < 274877906943) :
    Calls Try.prog 57 #[dp r, .int .i64 at_, v] w fun e w' => e = .returned (.int .i64 (wco s at_ xs.length)) ∧ RfTo R w w' r (wrr s at_ xs) := by
  unfold wco wrr
  by_cases hb : at_ < 0 ∨ (s.L.length : Int) ≤ at_
  · rw [if_pos hb, if_pos hb]
    obtain ⟨a, cap, rfl, _⟩ := hr
    refine (refWrite_range at_ a _ cap w h hb).mono ?_
    rintro e w' ⟨rfl, rfl⟩
    exact ⟨rfl, h.to⟩
  · rw [if_neg hb, if_neg hb]
    obtain ⟨i, rfl⟩ : ∃ i : Nat, at_ = (i : Int) := ⟨at_.toNat, by omega⟩
    by_cases hx : xs.length = 256
    · rw [if_pos hx, if_pos hx]
      exact refWrite_ok i v xs w h (by omega) hr hx hy hv (by have := hm i; omega)
    · rw [if_neg hx, if_neg hx]
      obtain ⟨a, cap, rfl, h1, h2, _⟩ := hr
      refine (refWrite_len i a _ cap w h (by omega) hx (Nat.le_trans h1 h2)).mono ?_
      rintro e w' ⟨rfl, rfl⟩
      exact ⟨rfl, h.to⟩
theorem refRot_all (b : Int) (w : World) (h : Rf R w r s) (hV : ∀ i, (s.V i).length < 274877906944) :
    Calls Try.prog 33 #[dp r, .int .i64 b] w fun e w' => e = .returned (.int .i64 (rco s b)) ∧ RfTo R w w' r (rtt s b) := by
  unfold rco rtt
  by_cases hb : b < 0 ∨ 2048 * (s.L.length : Int) ≤ b
  · rw [if_pos hb, if_pos hb]
    refine (refRot_bad b w h hb).mono ?_
    rintro e w' ⟨rfl, rfl⟩
    exact ⟨rfl, h.to⟩
  · rw [if_neg hb, if_neg hb]
    obtain ⟨i, rfl⟩ : ∃ i : Nat, b = (i : Int) := ⟨b.toNat, by omega⟩
    exact refRot_ok i w h (by omega) hV
theorem refRead_all (at_ : Int) (w : World) (h : Rf R w r s) :
    Calls Try.prog 55 #[dp r, .int .i64 at_] w fun e w' => ∃ v, e = .returned (.tuple #[v, .int .i64 (dco s at_)]) ∧ Owns .u8 5 w' v (dhs s at_) ∧ Below w.heap.size w w' ∧ ∀ k, v.ownBlock = some k → w.heap.size ≤ k := by
  unfold dco dhs
  by_cases hb : at_ < 0 ∨ (s.L.length : Int) ≤ at_
  · rw [if_pos hb, if_pos hb]
    refine (refRead_bad at_ w h hb).mono ?_
    rintro e w' ⟨rfl, rfl⟩
    exact ⟨_, rfl, owns_nil _ _ _, Below.refl _ _, fun k hk => by cases hk⟩
  · rw [if_neg hb, if_neg hb]
    obtain ⟨i, rfl⟩ : ∃ i : Nat, at_ = (i : Int) := ⟨at_.toNat, by omega⟩
    refine (refRead_ok i w h (by omega)).mono ?_
    rintro e w' ⟨v, rfl, h1, h2, h3⟩
    exact ⟨v, rfl, h1, h2, h3⟩
end

/-- Both disks, side by side. -/
structure Bt (S R : Nat → Prop) (w0 w : World) (d r : Nat) (s t : DS) : Prop where
  dk : Dk S w d s
  rf : Rf R w r t
  ap : ∀ k, S k → ¬ R k
  be : Below w0.heap.size w0 w
  s0 : ∀ k, S k → w0.heap.size ≤ k
  r0 : ∀ k, R k → w0.heap.size ≤ k

section
variable {S R : Nat → Prop} {w0 w w' : World} {d r : Nat} {s t : DS}
theorem Bt.tch (h : Bt S R w0 w d r s t) {T : Nat → Prop} (ht : Tch T w w') (hS : ∀ k, T k → ¬ S k ∧ ¬ R k ∧ w0.heap.size ≤ k) : Bt S R w0 w' d r s t :=
  ⟨h.dk.tch ht (fun k hk e => (hS k e).1 hk), h.rf.tch ht (fun k hk e => (hS k e).2.1 hk), h.ap, h.be.trans (ht.below h.be.size (fun k e => (hS k e).2.2)), h.s0, h.r0⟩
theorem Bt.below (h : Bt S R w0 w d r s t) (hb : Below w.heap.size w w') : Bt S R w0 w' d r s t := h.tch (T := fun _ => False) (Tch.of_below hb) (fun _ e => e.elim)
/-- The program's does something. -/
theorem Bt.dkTo (h : Bt S R w0 w d r s t) {s' : DS} (hd : DkTo S w w' d s') : ∃ S', Bt S' R w0 w' d r s' t ∧ Tch S w w' ∧ ∀ k, S' k → S k ∨ w.heap.size ≤ k := by
  obtain ⟨S', h1, h2, h3⟩ := hd
  refine ⟨S', ⟨h1, h.rf.tch h2 (fun k hk e => h.ap k e hk), fun k hk e => ?_, h.be.trans (h2.below h.be.size (fun k e => h.s0 k e)), fun k hk => ?_, h.r0⟩, h2, h3⟩
  · rcases h3 k hk with e2 | e2
    · exact h.ap k e2 e
    · have := h.rf.rlt k e; omega
  · rcases h3 k hk with e2 | e2
    · exact h.s0 k e2
    · exact Nat.le_trans h.be.size e2
/-- The document's does something. -/
theorem Bt.rfTo (h : Bt S R w0 w d r s t) {t' : DS} (hd : RfTo R w w' r t') : ∃ R', Bt S R' w0 w' d r s t' ∧ Tch R w w' ∧ ∀ k, R' k → R k ∨ w.heap.size ≤ k := by
  obtain ⟨R', h1, h2, h3⟩ := hd
  refine ⟨R', ⟨h.dk.tch h2 (fun k hk e => h.ap k hk e), h1, fun k hk e => ?_, h.be.trans (h2.below h.be.size (fun k e => h.r0 k e)), h.s0, fun k hk => ?_⟩, h2, h3⟩
  · rcases h3 k e with e2 | e2
    · exact h.ap k hk e2
    · have := h.dk.slt k hk; omega
  · rcases h3 k hk with e2 | e2
    · exact h.r0 k e2
    · exact Nat.le_trans h.be.size e2
end

end Go.Proofs.Ytgpaklifjonlkaa
