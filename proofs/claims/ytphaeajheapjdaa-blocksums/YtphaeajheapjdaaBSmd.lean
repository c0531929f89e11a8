/-
  The program's sector as a value: the sum is laid behind its other bytes.
-/
import Derived.Test.YtphaeajheapjdaaBSum
import Derived.StillTailTactics
namespace Go.Proofs.Ytphaeajheapjdaa
open Go.RowKit Pl
set_option linter.unusedVariables false
set_option linter.unusedSimpArgs false
set_option maxRecDepth 100000

theorem crc_lt {xs : List Int} (h : By xs) : crc xs < 4294967296 := by unfold crc; omega

set_option maxHeartbeats 400000 in
theorem summed_any (xs : List Int) (w : World) (hl : xs.length = 256) (hb : By xs) :
    Calls Try.prog 19 #[.agg (bcs xs).toArray] w fun e w' => e = .returned (.agg (bcs (smd xs)).toArray) ∧ Below w.heap.size w w' := by
  obtain ⟨hv, hi⟩ := zero_of_info info_frm
  have HSH := slice_frm_h
  have HI : Hid ((Try.prog.info? 41).map (·.size) = some 256) := hi
  have HL : Hid (xs.length = 256) := hl
  have HB : Hid (By xs) := hb
  obtain ⟨W1, hW1⟩ : ∃ W1, w.alloc (.cells (bcs xs).toArray 41) = W1 := ⟨_, rfl⟩
  obtain ⟨W2, hW2⟩ : ∃ W2, W1.alloc (.cells (bcs zz).toArray 41) = W2 := ⟨_, rfl⟩
  have F1 : Fv W1 w.heap.size xs := by rw [← hW1]; exact fv_new w hl hb
  have s1 : W1.heap.size = w.heap.size + 1 := by rw [← hW1]; simp
  have s2 : W2.heap.size = w.heap.size + 2 := by rw [← hW2]; simp [s1]
  have FA : Hid (Fv W2 w.heap.size xs) := by rw [← hW2]; exact F1.below ((Below.refl _ _).alloc (Nat.le_refl _) _)
  have FB : Hid (Fv W2 (w.heap.size + 1) zz) := by rw [← hW2, ← s1]; exact fv_new W1 zz_len zz_by
  have B2 : Hid (Below w.heap.size w W2) := by
    rw [← hW2, ← hW1]
    exact ((Below.refl _ _).alloc (Nat.le_refl _) _).alloc (by simp) _
  have HS2 : Hid (W2.heap.size = w.heap.size + 2) := s2
  obtain ⟨Z, hZ⟩ : ∃ Z, Hid ((bcs zz).toArray = Z) := ⟨_, rfl⟩
  obtain ⟨X, hX⟩ : ∃ X, Hid ((bcs xs).toArray = X) := ⟨_, rfl⟩
  rw [hZ.out] at hv hW2
  rw [hX.out] at hW1 ⊢
  have HR : Hid (Rd .u8 W2 (.slice (some ⟨w.heap.size, 0, none⟩) 252 256) (xs.take 252)) := FA.out.rdTo 252 (by decide)
  have HC : Hid (crc (xs.take 252) < 4294967296) := crc_lt (HB.out.take 252)
  obtain ⟨g, hg⟩ : ∃ g, Hid (w.heap.size = g) := ⟨_, rfl⟩
  have hW3 : (w.alloc (.cells X 41)).alloc (.cells Z 41) = W2 := by rw [hW1]; exact hW2
  have HW3 : Hid ((w.alloc (.cells X 41)).alloc (.cells Z 41) = W2) := hW3
  clear hi hl hb F1 s1 s2 hW1 hW2 hW3
  go_enter Try.func19, Try.ntmps19
  go_wp2_with fail
  rw [HW3.out]
  rw [hg.out] at HR FA FB B2 HS2 ⊢
  refine (crc_any _ _ _ HR.out (HB.out.take 252)).mono ?_
  rintro e w3 ⟨rfl, rfl⟩
  obtain ⟨s, hs⟩ : ∃ s, crc (xs.take 252) = s := ⟨_, rfl⟩
  have HSE : Hid (crc (xs.take 252) = s) := hs
  rw [hs] at HC ⊢
  clear hs
  have hs1 : s < 4294967296 := HC.out
  go_wp2_with fail
  go_loopw [7] (fun i wr => ∃ j : Nat, j ≤ 4 ∧ i = .int .i64 j ∧ Hid (Fv wr g (sj xs j)) ∧ Hid (Fv wr (g + 1) zz) ∧ Hid (Below g w wr)) (fun i _ => 4 - (intOf i).toNat)
  case atStart => exact ⟨0, Nat.zero_le _, rfl, by rw [sj_0]; exact FA, FB, B2⟩
  case round =>
    clear FA FB B2 HR
    obtain ⟨j, hj, rfl, FA, FB, B⟩ := hrel
    by_cases hlt : j < 4
    · obtain ⟨y, hy⟩ : ∃ y : Nat, s / 2 ^ (8 * j) % 256 = y := ⟨_, rfl⟩
      have hy2 : y < 256 := by rw [← hy]; exact Nat.mod_lt _ (by decide)
      have hst : (sj xs j).set (252 + j) (y : Int) = sj xs (j + 1) := by
        rw [← sj_step HL.out hlt, HSE.out, le4_get s j hlt, hy]
      obtain ⟨m, hm⟩ : ∃ m, 8 * j = m := ⟨_, rfl⟩
      rw [hm] at hy
      have hy1 : (s : Int) / 2 ^ m % 256 = (y : Int) := by
        rw [← hy, Int.natCast_emod, Int.natCast_ediv, Int.natCast_pow]
        rfl
      have hm1 : 8 * (j : Int) = (m : Int) := by omega
      have hm2 : (m : Int) ≤ 24 := by omega
      obtain ⟨p, hp⟩ : ∃ p, 252 + j = p := ⟨_, rfl⟩
      have hp1 : (252 : Int) + (j : Int) = (p : Int) := by omega
      have hp2 : (p : Int) < 256 := by omega
      rw [hp] at hst
      have cp := FA.out.cell (i := p) (by omega)
      have fp := FA.out.fz p
      have FA1 : Hid (Fv (wr.setCell ⟨g, p, none⟩ (.int .u8 (y : Int))) g (sj xs (j + 1))) := by
        have := FA.out.set p (y := (y : Int)) (by omega) (by omega)
        rw [hst] at this
        exact this
      have FB1 : Hid (Fv (wr.setCell ⟨g, p, none⟩ (.int .u8 (y : Int))) (g + 1) zz) := FB.out.tch (S := fun k => k = g) (Tch.setCell (Tch.refl (fun k => k = g) wr) (p := ⟨g, p, none⟩) (fun _ => rfl) _) (by omega)
      have B1 : Hid (Below g w (wr.setCell ⟨g, p, none⟩ (.int .u8 (y : Int)))) := B.out.setCell (Nat.le_refl _) _
      generalize (sj xs j).getD p 0 = z at cp
      clear FA FB B hy hm hp hst
      go_wp2_with fail
      go_roundw
      case rel => exact ⟨j + 1, by omega, by go_num, FA1, FB1, B1⟩
      case measure => simp [intOf]; omega
    · have hj4 : j = 4 := by omega
      rw [hj4] at FA
      have hnn : ¬ (j : Int) < 4 := by omega
      have FA1 : Hid (Fv wr g (smd xs)) := by rw [← sj_4 HL.out]; exact FA
      have HRG : Hid (wr.rangeAt g 0 (bcs (smd xs))) := FA1.out.range
      have HT : Hid (wr.there (g + 1) 0 256) := FB.out.there
      have HSL : Hid ((bcs (smd xs)).length = 256) := by show _ = _; rw [bcs_len, smd_len HL.out]
      have HSZ : Hid ((bcs (smd xs)).toArray.size = 256) := bcs_size (smd_len HL.out)
      have HON : Hid ((bcs (smd xs)).toArray.all (·.oneCell') = true) := bcs_all _
      have HP : Hid (Fv (wr.setCells (g + 1) 0 (bcs (smd xs))) (g + 1) (smd xs)) := FB.out.put (smd_len HL.out) (smd_by HB.out)
      have HBB : Hid (Below g w (wr.setCells (g + 1) 0 (bcs (smd xs)))) := B.out.trans ((setCells_tchD (g + 1) _ 0 wr).below (by have := FA.out.lt; omega) (fun k e => by omega))
      clear FA hlt
      go_wp2_with (first | (refine wpList_load_mid rfl 41 (.tmp 1) rfl g 0 rfl (bcs (smd xs)) _ HRG.out Try.underlying41 rfl (by rw [HSL.out]; exact HI.out) ?_) | (refine wpList_store_mid rfl 41 (.tmp 2) (.tmp 19) rfl (g + 1) 0 (bcs (smd xs)).toArray rfl rfl (by rw [HSZ.out]; exact HT.out) (by rw [HSZ.out]; exact HI.out) HON.out ?_))
      refine bodyPost_ret (v := .agg (bcs (smd xs)).toArray) ?_ rfl ⟨rfl, ?_⟩
      · exact results_atB (p := 2) (ty := 41) rfl _ _ _ (g + 1) _ rfl (by simpa using HP.out.load)
      · rw [hg.out]; simpa using HBB.out
end Go.Proofs.Ytphaeajheapjdaa
