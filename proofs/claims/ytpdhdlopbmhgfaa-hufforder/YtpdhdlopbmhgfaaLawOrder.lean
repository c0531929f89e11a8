/-
  HuffOrder: lengths that are told may be, and who stands more often has no longer code: for every counts the law answers true.
-/
import Derived.Test.YtpdhdlopbmhgfaaHMayL
namespace Go.Proofs.Ytpdhdlopbmhgfaa
open Go.RowKit Pl Hf
set_option linter.unusedVariables false

set_option maxRecDepth 100000 in
set_option maxHeartbeats 8000000 in
theorem huffOrder_walk (v1 : Value) (cs : List Int) (w : World) (h1 : Rd .i64 w v1 cs) :
    Calls Try.prog 5 #[v1] w fun e w' => e = .returned (.bool true) ∧ Below w.heap.size w w' := by
  have H1 : Hid (Rd .i64 w v1 cs) := h1
  obtain ⟨a1, p1, e1, _, _, _, q1⟩ := h1
  subst e1
  have C1 : Hid (cs = [] ∨ ∃ b o, a1 = some ⟨b, o, none⟩ ∧ ∀ i, i < cs.length → w.cell? ⟨b, o + i, none⟩ = some (.int .i64 (cs.getD i 0))) := q1
  clear q1
  go_enter Try.func5, Try.ntmps5
  go_wp2_with fail
  refine (lengths_any _ cs w H1.out).mono ?_
  intro e w1 hL
  obtain ⟨lv, E, rfl, hb1, _, hcase⟩ := hL
  have B1 : Hid (Below w.heap.size w w1) := hb1
  rcases hcase with ⟨rfl, rfl, _⟩ | ⟨rfl, hok, ds, ho, hsh⟩
  · clear hb1
    go_wp2_with fail
    refine (lives_any _).mono ?_
    rintro e w3 ⟨rfl, hb3⟩
    go_wp2_with fail
    go_ret
    exact ⟨rfl, B1.out.trans (hb3.mono B1.out.size)⟩
  · have HOK : Hid (OkC cs) := hok
    have HSH : Hid (ShS (wt cs cs.length) ds) := hsh
    have HO : Hid (Owns .i64 3 w1 lv (lens cs ds)) := ho
    have HM : Hid (mayB (lens cs ds) = true) := may_lens hok hsh
    have hn256 := hok.most
    have hpos : 1 ≤ cs.length := by have := hok.some; have := st_le cs cs.length; omega
    clear hb1 hok hsh ho
    obtain ⟨gl, lc, hlv, _⟩ := Owns.shape HO.out (by rw [lensTo_length]; omega)
    rw [lensTo_length] at hlv
    obtain ⟨M, hM⟩ : ∃ M, Hid (lastSt cs = M) := ⟨_, rfl⟩
    rw [hM.out] at hlv
    subst hlv
    obtain ⟨b, o, ha, hc⟩ : ∃ b o, a1 = some ⟨b, o, none⟩ ∧ ∀ i, i < cs.length → w.cell? ⟨b, o + i, none⟩ = some (.int .i64 (cs.getD i 0)) := by
      rcases C1.out with rfl | h
      · simp at hpos
      · exact h
    subst ha
    have HCX : Hid (∀ (W : World), Tch (fun _ => False) w1 W → (∀ i, i < cs.length → W.cell? ⟨b, o + i, none⟩ = some (.int .i64 (cs.getD i 0))) ∧ (∀ i, i ≤ M → W.cell? ⟨gl, i, none⟩ = some (.int .i64 ((lens cs ds).getD i 0))) ∧ Below w.heap.size w W) := fun W hT => by
      have hB : Below w.heap.size w W := B1.out.trans (hT.below B1.out.size (fun _ e => e.elim))
      refine ⟨fun i hi => ?_, fun i hi => ?_, hB⟩
      · have h0 := hc i hi
        rw [hB.cell (p := ⟨b, o + i, none⟩) (World.block_lt_of_cell? w ⟨b, o + i, none⟩ h0), h0]
      · have OW : Owns .i64 3 W (.slice (some ⟨gl, 0, none⟩) (M + 1) lc) (lens cs ds) := HO.out.tch hT (fun _ _ e => e)
        exact (OW.at1 i (by rw [lensTo_length, hM.out]; omega)).1
    clear hc C1
    go_wp2_with fail
    refine (may_rd _ (lens cs ds) w1 HO.out.rd).mono ?_
    rintro e w2 ⟨rfl, rfl⟩
    rw [HM.out]
    go_wp2_with fail
    go_loopw [6, 7] (fun x i wr => ∃ (k : Nat) (s : Int), k ≤ cs.length ∧ i = .int .i64 k ∧ x = .int .i64 s ∧ 0 ≤ s ∧ s ≤ 4294967295 * k ∧ Hid (sumP cs (fun i => cs.getD i 0) k = s) ∧ Hid (Tch (fun _ => False) w2 wr)) (fun _ i _ => cs.length - (intOf i).toNat)
    case atStart => exact ⟨0, 0, Nat.zero_le _, rfl, rfl, by omega, by omega, rfl, Tch.refl _ _⟩
    case round =>
      obtain ⟨k, s, hk, rfl, rfl, hs0, hs1, HI, T⟩ := hrel
      by_cases hlt : k < cs.length
      · obtain ⟨hX, hZ, _⟩ := HCX.out wr T.out
        obtain ⟨x, hx⟩ : ∃ x, Hid (cs.getD k 0 = x) := ⟨_, rfl⟩
        have cx := hX k hlt
        rw [hx.out] at cx
        have hxb := HOK.out.each k hlt
        rw [hx.out] at hxb
        have HI2 : Hid (sumP cs (fun i => cs.getD i 0) (k + 1) = s + x) := by
          show _ = _
          simp only [sumP]
          rw [HI.out, hx.out]
          split <;> omega
        have hs2 : s + x ≤ 4294967295 * ((k + 1 : Nat) : Int) := by omega
        by_cases hkM : k ≤ M
        · obtain ⟨z, hz⟩ : ∃ z, Hid ((lens cs ds).getD k 0 = z) := ⟨_, rfl⟩
          have cz := hZ k hkM
          rw [hz.out] at cz
          have hiff := lens_pos HOK.out HSH.out k (by rw [hM.out]; exact hkM)
          rw [hz.out, hx.out] at hiff
          have hkM1 : (k : Int) < (M : Int) + 1 := by omega
          clear hX hZ HI
          by_cases hx0 : 0 < x
          · have hz0 : 0 < z := hiff.2 hx0
            clear hiff
            go_wp2_with fail
            go_quiet (fail)
            go_wp2_with fail
            go_roundw
            case rel => exact ⟨k + 1, s + x, by omega, by go_num, by first | rfl | go_num, by omega, hs2, HI2, T.out.trans (S' := fun _ => False) ⟨rfl, rfl, rfl, Nat.le_refl _, fun _ _ _ => rfl⟩ (fun _ _ e => e)⟩
            case measure => simp [intOf]; omega
          · have hz0 : ¬ 0 < z := fun e => hx0 (hiff.1 e)
            have hzb := (lens_bd' HOK.out HSH.out k).1
            rw [hz.out] at hzb
            obtain rfl : x = 0 := by omega
            obtain rfl : z = 0 := by omega
            have HI3 : Hid (sumP cs (fun i => cs.getD i 0) (k + 1) = s) := by have := HI2.out; rw [Int.add_zero] at this; exact this
            clear hiff hx0 hz0 hzb HI2
            go_wp2_with fail
            go_quiet (fail)
            go_wp2_with fail
            go_roundw
            case rel => exact ⟨k + 1, s, by omega, by go_num, by first | rfl | go_num, hs0, by omega, HI3, T.out.trans (S' := fun _ => False) ⟨rfl, rfl, rfl, Nat.le_refl _, fun _ _ _ => rfl⟩ (fun _ _ e => e)⟩
            case measure => simp [intOf]; omega
        · have hx0 : ¬ 0 < x := fun e => hkM (by rw [← hM.out]; exact last_of' hlt (by rw [hx.out]; exact e))
          have hkM1 : (M : Int) + 1 ≤ (k : Int) := by omega
          obtain rfl : x = 0 := by omega
          have HI3 : Hid (sumP cs (fun i => cs.getD i 0) (k + 1) = s) := by have := HI2.out; rw [Int.add_zero] at this; exact this
          have hdk : decide ((k : Int) < (M : Int) + 1) = false := by rw [decide_eq_false_iff_not]; omega
          clear hX hZ HI hx0 HI2
          go_wp2_with fail
          go_quiet (fail)
          go_wp2_with fail
          go_roundw
          case rel => exact ⟨k + 1, s, by omega, by go_num, by first | rfl | go_num, hs0, by omega, HI3, T.out.trans (S' := fun _ => False) ⟨rfl, rfl, rfl, Nat.le_refl _, fun _ _ _ => rfl⟩ (fun _ _ e => e)⟩
          case measure => simp [intOf]; omega
      · obtain rfl : k = cs.length := by omega
        go_wp2_with fail
        go_loopw [8] (fun i wr => ∃ k : Nat, k ≤ cs.length ∧ i = .int .i64 k ∧ Hid (Tch (fun _ => False) w2 wr)) (fun i _ => cs.length - (intOf i).toNat)
        case atStart => exact ⟨0, Nat.zero_le _, rfl, T⟩
        case round =>
          obtain ⟨p, hp, rfl, T2⟩ := hrel
          clear T
          by_cases hgo : p < cs.length ∧ s ≤ 300
          · obtain ⟨hpl, hs300⟩ := hgo
            go_wp2_with fail
            go_loopw [9] (fun i wr => ∃ k : Nat, k ≤ cs.length ∧ i = .int .i64 k ∧ Hid (Tch (fun _ => False) w2 wr)) (fun i _ => cs.length - (intOf i).toNat)
            case atStart => exact ⟨0, Nat.zero_le _, rfl, T2⟩
            case round =>
              obtain ⟨q, hq, rfl, T3⟩ := hrel
              clear T2
              by_cases hql : q < cs.length
              · obtain ⟨hX, hZ, _⟩ := HCX.out wr T3.out
                obtain ⟨x, hx⟩ : ∃ x, Hid (cs.getD p 0 = x) := ⟨_, rfl⟩
                obtain ⟨y, hy⟩ : ∃ y, Hid (cs.getD q 0 = y) := ⟨_, rfl⟩
                have cx := hX p hpl
                have cy := hX q hql
                rw [hx.out] at cx
                rw [hy.out] at cy
                by_cases hxy : y < x
                · by_cases hy0 : 0 < y
                  · have hpM : p ≤ M := by rw [← hM.out]; exact last_of' hpl (by rw [hx.out]; omega)
                    have hqM : q ≤ M := by rw [← hM.out]; exact last_of' hql (by rw [hy.out]; omega)
                    obtain ⟨u, hu⟩ : ∃ u, Hid ((lens cs ds).getD p 0 = u) := ⟨_, rfl⟩
                    obtain ⟨z, hz⟩ : ∃ z, Hid ((lens cs ds).getD q 0 = z) := ⟨_, rfl⟩
                    have cu := hZ p hpM
                    have cz := hZ q hqM
                    rw [hu.out] at cu
                    rw [hz.out] at cz
                    have huz : ¬ z < u := by
                      have := order_core HOK.out HSH.out (by rw [HI.out]; exact hs300) hpl hql (by rw [hx.out, hy.out]; exact hxy) (by rw [hy.out]; exact hy0)
                      rw [hu.out, hz.out] at this
                      omega
                    have m1 : (p : Int) < (M : Int) + 1 := by omega
                    have m2 : (q : Int) < (M : Int) + 1 := by omega
                    clear hX hZ
                    go_wp2_with fail
                    go_quiet (fail)
                    go_wp2_with fail
                    go_roundw
                    case rel => exact ⟨q + 1, by omega, by go_num, T3.out.trans (S' := fun _ => False) ⟨rfl, rfl, rfl, Nat.le_refl _, fun _ _ _ => rfl⟩ (fun _ _ e => e)⟩
                    case measure => simp [intOf]; omega
                  · have hyb := (HOK.out.each q hql).1
                    rw [hy.out] at hyb
                    obtain rfl : y = 0 := by omega
                    clear hX hZ hy0 hyb
                    go_wp2_with fail
                    go_quiet (fail)
                    go_wp2_with fail
                    go_roundw
                    case rel => exact ⟨q + 1, by omega, by go_num, T3.out.trans (S' := fun _ => False) ⟨rfl, rfl, rfl, Nat.le_refl _, fun _ _ _ => rfl⟩ (fun _ _ e => e)⟩
                    case measure => simp [intOf]; omega
                · have hdxy : decide (y < x) = false := by rw [decide_eq_false_iff_not]; exact hxy
                  clear hX hZ hxy
                  go_wp2_with fail
                  go_quiet (fail)
                  go_wp2_with fail
                  go_roundw
                  case rel => exact ⟨q + 1, by omega, by go_num, T3.out.trans (S' := fun _ => False) ⟨rfl, rfl, rfl, Nat.le_refl _, fun _ _ _ => rfl⟩ (fun _ _ e => e)⟩
                  case measure => simp [intOf]; omega
              · obtain rfl : q = cs.length := by omega
                go_wp2_with fail
                go_roundw
                case rel => exact ⟨p + 1, by omega, by go_num, T3⟩
                case measure => simp [intOf]; omega
          · have HB := (HCX.out wr T2.out).2.2
            have HBL : Hid (Below w.heap.size w wr) := HB
            clear HB
            by_cases hpl : p < cs.length
            · have hs300 : ¬ s ≤ 300 := fun e => hgo ⟨hpl, e⟩
              clear hgo
              go_wp2_with fail
              refine (lives_any _).mono ?_
              rintro e w3 ⟨rfl, hb3⟩
              go_wp2_with fail
              go_ret
              exact ⟨rfl, HBL.out.trans (hb3.mono HBL.out.size)⟩
            · clear hgo
              go_wp2_with fail
              refine (lives_any _).mono ?_
              rintro e w3 ⟨rfl, hb3⟩
              go_wp2_with fail
              go_ret
              exact ⟨rfl, HBL.out.trans (hb3.mono HBL.out.size)⟩
end Go.Proofs.Ytpdhdlopbmhgfaa
