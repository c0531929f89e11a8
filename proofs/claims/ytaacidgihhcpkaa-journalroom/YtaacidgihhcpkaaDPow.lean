/-
  The power goes; a cut.
-/
import Derived.Test.YtaacidgihhcpkaaDPer
namespace Go.Proofs.Ytaacidgihhcpkaa
open Go.RowKit Go.Maps
set_option linter.unusedVariables false
set_option linter.unusedSimpArgs false
set_option maxRecDepth 100000

theorem per_L (s : DS) (i : Nat) (p : Int) : (s.per i p).L.length = s.L.length := by
  unfold DS.per
  dsimp only
  split
  · rw [List.length_set]
  · rfl
theorem pers_L (s : DS) (ds : List Nat) (ps : List Int) : ∀ k, (s.pers ds ps k).L.length = s.L.length
  | 0 => rfl
  | k + 1 => by rw [DS.pers, per_L, pers_L s ds ps k]
theorem pers_V (s : DS) (ds : List Nat) (ps : List Int) (i : Nat) : ∀ k, k ≤ ds.length → (s.pers ds ps k).V i = if i ∈ ds.take k then [] else s.V i
  | 0, _ => by simp [DS.pers]
  | k + 1, hk => by
    have ih := pers_V s ds ps i k (by omega)
    have hd : ds.getD k 0 = ds[k] := by rw [List.getD_eq_getElem?_getD, List.getElem?_eq_getElem (by omega)]; rfl
    show vput (s.pers ds ps k).V (ds.getD k 0) [] i = _
    have hm : i ∈ ds.take (k + 1) ↔ i ∈ ds.take k ∨ i = ds[k] := by rw [List.take_succ_eq_append_getElem (by omega), List.mem_append, List.mem_singleton]
    rw [hd]
    unfold vput
    by_cases e : i = ds[k]
    · rw [if_pos e, if_pos (hm.2 (.inr e))]
    · rw [if_neg e, ih]
      by_cases h : i ∈ ds.take k
      · rw [if_pos h, if_pos (hm.2 (.inl h))]
      · rw [if_neg h, if_neg (fun h2 => by rcases hm.1 h2 with h3 | h3; exact h h3; exact e h3)]

theorem dirty_nodup (s : DS) : s.dirty.Nodup := by
  unfold DS.dirty
  exact List.Pairwise.filter _ List.nodup_range
theorem dirty_mem {s : DS} {i : Nat} : i ∈ s.dirty ↔ i < s.L.length ∧ s.V i ≠ [] := by
  unfold DS.dirty
  simp

theorem pers_at {s : DS} {ps : List Int} {k : Nat} (hk : k < s.dirty.length) : s.dirty.getD k 0 < s.L.length ∧ (s.pers s.dirty ps k).V (s.dirty.getD k 0) = s.V (s.dirty.getD k 0) ∧ s.V (s.dirty.getD k 0) ≠ [] := by
  have hd : s.dirty.getD k 0 = s.dirty[k] := by rw [List.getD_eq_getElem?_getD, List.getElem?_eq_getElem hk]; rfl
  rw [hd]
  have hm := dirty_mem.1 (List.getElem_mem hk)
  refine ⟨hm.1, ?_, hm.2⟩
  rw [pers_V _ _ _ _ _ (by omega), if_neg]
  intro h
  obtain ⟨j, hj, e⟩ := List.getElem_of_mem h
  rw [List.getElem_take] at e
  have hj2 : j < k := by simp at hj; omega
  have := (List.getElem_inj (dirty_nodup s)).1 e
  omega

theorem DkAt.set23 {S : Nat → Prop} {w : World} {d : Nat} {s : DS} {lb vb lc : Nat} {g : Nat → Option Value} (h : DkAt S w d s lb vb lc g) (c : Bool) (l : Nat) (hl : l ≤ 1073741824) :
    DkTo S w ((w.setCell ⟨d, 2, none⟩ (.bool c)).setCell ⟨d, 3, none⟩ (.int .i64 (l : Int))) d { s with c := c, l := l } := by
  refine ⟨S, ⟨lb, vb, lc, g, ((h.set2 c).set3 l hl)⟩, ?_, fun k hk => .inl hk⟩
  have t1 := (tch_set w d 2 (.bool c)).mono (S' := S) (fun k _ e => by rw [e]; exact h.sd)
  have t2 := (tch_set (w.setCell ⟨d, 2, none⟩ (.bool c)) d 3 (.int .i64 (l : Int))).mono (S' := S) (fun k _ e => by rw [e]; exact h.sd)
  exact t1.trans t2 (fun _ _ e => e)

set_option maxHeartbeats 2000000 in
theorem power_any {S : Nat → Prop} {d : Nat} {s : DS} (pv : Value) (ps : List Int) (w : World) (h : Dk S w d s) (hr : Rd .i64 w pv ps) (hp : ∀ k, pv.ownBlock = some k → ps ≠ [] → ¬ S k) (hV : ∀ i, (s.V i).length < 274877906944) :
    Calls Try.prog 17 #[dp d, pv] w fun e w' => e = .returned (.tuple #[]) ∧ DkTo S w w' d (s.pw ps) := by
  have HD : Hid (Dk S w d s) := h
  have HDY := hideP (dirty_any w h)
  have HR : Hid (Rd .i64 w pv ps) := hr
  obtain ⟨a, cap, rfl, hpl, hcm, _⟩ := hr
  have HP : Hid (∀ k, (Value.slice a ps.length cap).ownBlock = some k → ps ≠ [] → ¬ S k) := hp
  have HV : Hid (∀ i, (s.V i).length < 274877906944) := hV
  have HPL : Hid (ps.length ≤ 9223372036854775807) := by show _ ≤ _; unfold maxLen at hcm; omega
  clear h hp hV hcm hpl
  obtain ⟨m, hm⟩ : ∃ m, ps.length = m := ⟨_, rfl⟩
  have HM : Hid (ps.length = m) := hm
  rw [hm] at HR HP HPL ⊢
  have hm63 : (m : Int) ≤ 9223372036854775807 := by have := HPL.out; omega
  clear hm
  go_enter Try.func17, Try.ntmps17
  go_wp2_with fail
  refine HDY.out.mono ?_
  clear HDY
  rintro e w1 ⟨dv, rfl, ho1, hb1, hf1⟩
  have B1 : Hid (Below w.heap.size w w1) := hb1
  have D1 : Hid (Dk S w1 d s) := HD.out.below hb1
  have OD : Hid (Owns .i64 3 w1 dv (s.dirty.map Int.ofNat)) := ho1
  have F1 : Hid (∀ k, dv.ownBlock = some k → w.heap.size ≤ k ∧ k < w1.heap.size) := fun k hk => ⟨hf1 k hk, ho1.lt k hk⟩
  have HLN : Hid (s.dirty.length ≤ 4096) := by have := dirty_len s; obtain ⟨_, _, _, _, h⟩ := HD.out; have := h.n2; show _ ≤ _; omega
  obtain ⟨da, dc, hdv, hdl, hdm, hdn, hdc⟩ := ho1.rd
  rw [List.length_map] at hdv hdl hdc
  subst hdv
  have HDC : Hid ((s.dirty.map Int.ofNat) = [] ∨ ∃ b o, da = some ⟨b, o, none⟩ ∧ ∀ i, i < s.dirty.length → w1.cell? ⟨b, o + i, none⟩ = some (.int .i64 ((s.dirty.map Int.ofNat).getD i 0))) := hdc
  obtain ⟨t, ht⟩ : ∃ t, s.dirty.length = t := ⟨_, rfl⟩
  have HT : Hid (s.dirty.length = t) := ht
  have htb : t ≤ 4096 := by rw [← ht]; exact HLN.out
  rw [ht] at HDC OD F1 ⊢
  clear ho1 hb1 hf1 hdl hdm hdn hdc ht
  go_wp2_with fail
  go_loopw [10] (fun kv wr => ∃ (k : Nat), k ≤ t ∧ kv = .int .i64 k ∧ Hid (DkTo S w1 wr d (s.pers s.dirty ps k))) (fun kv _ => t - (intOf kv).toNat)
  case atStart => exact ⟨0, Nat.zero_le _, rfl, D1.out.to⟩
  case round =>
    obtain ⟨k, hk, rfl, DK⟩ := hrel
    by_cases hkt : k < t
    · have hki : (k : Int) < (t : Int) := by omega
      have hk0 : (0 : Int) ≤ (k : Int) := by omega
      obtain ⟨hA1, hA2, hA3⟩ := pers_at (s := s) (ps := ps) (k := k) (by rw [HT.out]; exact hkt)
      obtain ⟨Sx, hDx, hTx, hSx⟩ := DK.out
      have HSD : Hid (∀ k, S k → k < w.heap.size) := HD.out.slt
      obtain ⟨db, dO, rfl, hcell⟩ : ∃ b o, da = some ⟨b, o, none⟩ ∧ ∀ i, i < t → w1.cell? ⟨b, o + i, none⟩ = some (.int .i64 ((s.dirty.map Int.ofNat).getD i 0)) := by
        rcases HDC.out with e | e
        · have := congrArg List.length e
          rw [List.length_map, HT.out] at this
          simp at this
          omega
        · exact e
      have hF := F1.out db rfl
      have ck : wr.cell? ⟨db, dO + k, none⟩ = some (.int .i64 ((s.dirty.getD k 0 : Nat) : Int)) := by
        have h0 := hcell k hkt
        rw [hTx.cell (p := ⟨db, dO + k, none⟩) (World.block_lt_of_cell? w1 ⟨db, dO + k, none⟩ h0) (fun e => by have := HSD.out db e; have := hF.1; omega), h0]
        simp [List.getD_eq_getElem?_getD, List.getElem?_eq_getElem (show k < s.dirty.length by rw [HT.out]; exact hkt)]
      obtain ⟨i, hi⟩ : ∃ i, s.dirty.getD k 0 = i := ⟨_, rfl⟩
      rw [hi] at ck hA1 hA2 hA3
      have HSTEP : Hid (∀ p, p = ps.getD k 0 → Calls Try.prog 38 #[dp d, .int .i64 (i : Int), .int .i64 p] wr fun e w' => e = .returned (.tuple #[]) ∧ Hid (DkTo S w1 w' d (s.pers s.dirty ps (k + 1)))) := fun p hp => by
        refine (persist_any i p wr hDx (by rw [pers_L]; exact hA1) (by rw [hA2]; exact hA3) (by rw [hA2]; exact HV.out i)).mono ?_
        rintro e w' ⟨rfl, hD⟩
        refine ⟨rfl, ?_⟩
        have := DkTo.trans hDx hTx hSx hD
        rw [DS.pers, hi, ← hp]
        exact this
      clear hcell hA1 hA2 hA3 hDx hTx hSx hF
      by_cases hkm : k < m
      · have hkmi : (k : Int) < (m : Int) := by omega
        obtain ⟨pb, pO, rfl, hpc⟩ : ∃ b o, a = some ⟨b, o, none⟩ ∧ w.cell? ⟨b, o + k, none⟩ = some (.int .i64 (ps.getD k 0)) := by
          obtain ⟨a', cap', e, _, _, _, hcc⟩ := HR.out
          simp only [Value.slice.injEq] at e
          obtain ⟨rfl, _, rfl⟩ := e
          rcases hcc with e | ⟨b, o, rfl, hc⟩
          · rw [e] at HM; have := HM.out; simp at this; omega
          · exact ⟨b, o, rfl, hc k (by rw [HM.out]; exact hkm)⟩
        have cp : wr.cell? ⟨pb, pO + k, none⟩ = some (.int .i64 (ps.getD k 0)) := by
          obtain ⟨Sx, hDx, hTx, hSx⟩ := DK.out
          have hlt := World.block_lt_of_cell? w ⟨pb, pO + k, none⟩ hpc
          rw [hTx.cell (p := ⟨pb, pO + k, none⟩) (Nat.lt_of_lt_of_le hlt B1.out.size) (fun e => HP.out pb rfl (fun e2 => by have := HM.out; rw [e2] at this; simp at this; omega) e), B1.out.cell (p := ⟨pb, pO + k, none⟩) hlt]
          exact hpc
        obtain ⟨p, hp⟩ : ∃ p, ps.getD k 0 = p := ⟨_, rfl⟩
        rw [hp] at cp
        have HC := hideP (HSTEP.out p hp.symm)
        clear hpc hp HSTEP
        go_wp2_with fail
        refine HC.out.mono ?_
        clear HC
        rintro e w2 ⟨rfl, hD2⟩
        go_wp2_with fail
        go_roundw
        case rel => exact ⟨k + 1, by omega, by go_num, hD2⟩
        case measure => simp [intOf]; omega
      · have hkmi : ¬ (k : Int) < (m : Int) := by omega
        have HC := hideP (HSTEP.out 0 (by rw [List.getD_eq_getElem?_getD, List.getElem?_eq_none (by rw [HM.out]; omega)]; rfl))
        clear HSTEP
        go_wp2_with fail
        refine HC.out.mono ?_
        clear HC
        rintro e w2 ⟨rfl, hD2⟩
        go_wp2_with fail
        go_roundw
        case rel => exact ⟨k + 1, by omega, by go_num, hD2⟩
        case measure => simp [intOf]; omega
    · have hki : ¬ (k : Int) < (t : Int) := by omega
      have hkt2 : k = t := by omega
      have DK2 : Hid (DkTo S w1 wr d (s.pers s.dirty ps s.dirty.length)) := by rw [HT.out, ← hkt2]; exact DK.out
      obtain ⟨Sx, hDx, hTx, hSx⟩ := DK2.out
      obtain ⟨lb, vb, lc, g, hA⟩ := hDx
      have HA : Hid (DkAt Sx wr d (s.pers s.dirty ps s.dirty.length) lb vb lc g) := hA
      have HTX : Hid (Tch S w1 wr) := hTx
      have HSX : Hid (∀ k, Sx k → S k ∨ w1.heap.size ≤ k) := hSx
      have c2 := hA.c2
      have c3 := hA.c3
      have f2 := hA.fz 2
      have f3 := hA.fz 3
      clear hA hTx hSx DK DK2 hkt2
      go_wp2_with fail
      go_end0
      refine ⟨rfl, ?_⟩
      have h1 := HA.out.set23 false 0 (Nat.zero_le _)
      have t1 : Tch S w w1 := Tch.of_below B1.out
      have h2 : DkTo S w1 ((wr.setCell ⟨d, 2, none⟩ (.bool false)).setCell ⟨d, 3, none⟩ (.int .i64 ((0 : Nat) : Int))) d (s.pw ps) := DkTo.trans ⟨lb, vb, lc, g, HA.out⟩ HTX.out HSX.out h1
      exact DkTo.trans D1.out t1 (fun _ e => .inl e) h2
end Go.Proofs.Ytaacidgihhcpkaa
