/-
  The block that a sector tells, be it so or not.
-/
import Derived.Test.YtmidcmliiofefaaBBlk
import Derived.Test.YtmidcmliiofefaaBSmd
namespace Go.Proofs.Ytmidcmliiofefaa
open Go.RowKit Pl
set_option linter.unusedVariables false
set_option linter.unusedSimpArgs false
set_option maxRecDepth 100000

theorem splice_allB (m : Nat) (cs : List Int) (h : cs.length = m) : splice (zr m) 0 cs = cs := by
  unfold splice
  rw [List.take_zero, List.nil_append, List.drop_of_length_le (by rw [zr_len]; omega), List.append_nil]

theorem vN_sl1 {xs : List Int} {i : Nat} (h : i < xs.length) : vN (sl xs i 1) = xs.getD i 0 := by
  rw [show (1 : Nat) = 0 + 1 from rfl, sl_succ (by omega)]
  simp [sl, vN]

set_option maxHeartbeats 400000 in
theorem block_any (xs : List Int) (w : World) (hl : xs.length = 256) (hb : By xs) :
    Calls Try.prog 21 #[.agg (bcs xs).toArray] w fun e w' => ∃ v, e = .returned (blk (xs.getD 0 0) v) ∧ Wb w' v (bdy xs) ∧ Below w.heap.size w w' ∧ ∀ k, v.ownBlock = some k → w.heap.size ≤ k := by
  obtain ⟨j0, hj, hy0, hy1, hy2⟩ := info_parts info_u8B
  have HSL := slice_frm_lh
  have HL : Hid (xs.length = 256) := hl
  have HB : Hid (By xs) := hb
  obtain ⟨W1, hW1⟩ : ∃ W1, w.alloc (.cells (bcs xs).toArray 41) = W1 := ⟨_, rfl⟩
  have F1 : Fv W1 w.heap.size xs := by rw [← hW1]; exact fv_new w hl hb
  have s1 : W1.heap.size = w.heap.size + 1 := by rw [← hW1]; simp
  obtain ⟨X, hX⟩ : ∃ X, Hid ((bcs xs).toArray = X) := ⟨_, rfl⟩
  rw [hX.out] at hW1 ⊢
  have HW1 : Hid (w.alloc (.cells X 41) = W1) := hW1
  obtain ⟨L, hL⟩ : ∃ L, bN xs 1 = L := ⟨_, rfl⟩
  have hL2 : L < 256 := by rw [← hL]; exact bN_lt hb 1
  obtain ⟨m, hm⟩ : ∃ m, min L 244 = m := ⟨_, rfl⟩
  have hm1 : min (L : Int) 244 = (m : Int) := by omega
  have hm2 : m ≤ 244 := by omega
  have hLL : Hid (bN xs 1 = L) := hL
  clear hL
  obtain ⟨W2, hW2⟩ : ∃ W2, W1.alloc (.cells #[.int .i64 0, .slice none 0 0] 24) = W2 := ⟨_, rfl⟩
  have B12 : Below W1.heap.size W1 W2 := by rw [← hW2]; exact (Below.refl _ _).alloc (Nat.le_refl _) _
  have s2 : W2.heap.size = w.heap.size + 2 := by rw [← hW2]; simp [s1]
  have HB2 : Hid (Below w.heap.size w W2) := by rw [← hW2, ← HW1.out]; exact ((Below.refl _ _).alloc (Nat.le_refl _) _).alloc (by simp) _
  have HF2 : Hid (Fv W2 w.heap.size xs) := F1.below B12
  have HQ2 : Hid (W2.heap[w.heap.size + 1]? = some (.cells #[.int .i64 0, .slice none 0 0] 24 (0, 0))) := by show _ = _; rw [← hW2, ← s1]; exact heap_alloc_new W1 _
  have HS2 : Hid (W2.heap.size = w.heap.size + 2) := s2
  have HK : Hid ((xs.drop 8).take m = bdy xs) := by show _ = _; unfold bdy; rw [hLL.out, hm]
  have HN1 : Hid (vN (sl xs 1 1) = (L : Int)) := by show _ = _; rw [vN_sl1 (by omega), bN_eq hb, hLL.out]
  have HN0 : Hid (vN (sl xs 0 1) = xs.getD 0 0) := vN_sl1 (by omega)
  have HM2 : Hid (m ≤ 244) := hm2
  clear F1 B12 s2 hl hb
  by_cases hc : (244 : Int) < (L : Int)
  · obtain rfl : m = 244 := by omega
    clear hm hm1 hm2
    go_enter Try.func21, Try.ntmps21
    go_wp2_with fail
    refine (numberU_any w.heap.size 1 1 xs W2 HF2.out (by decide) (by decide)).mono ?_
    rintro e w2 ⟨rfl, hbn⟩
    rw [HN1.out]
    have HFn : Hid (Fv w2 w.heap.size xs) := (show Fv W2 w.heap.size xs from HF2.out).below hbn
    have HQn : Hid (w2.heap[w.heap.size + 1]? = some (.cells #[.int .i64 0, .slice none 0 0] 24 (0, 0))) := by show _ = _; rw [hbn.block _ (by rw [HS2.out]; omega)]; exact HQ2.out
    have HBn : Hid (Below w.heap.size w w2) := HB2.out.trans (hbn.mono (by rw [HS2.out]; omega))
    obtain ⟨r, hr⟩ : ∃ r, Hid (w2.heap.size = r) := ⟨_, rfl⟩
    have HSr : Hid (w.heap.size + 2 ≤ r) := by rw [← hr.out, ← HS2.out]; exact hbn.size
    clear hbn HF2 HQ2 HB2 hW1 hW2
    go_wp2_with (at_make; refine wpList_make_full _ rfl (.tmp 5) (.tmp 5) 22 rfl 0 5 j0 _ 1 Try.underlying22 hj hy0 hy1 .i64 .i64 _ _ 244 rfl rfl rfl rfl (by rw [hy2]; have := HM2.out; omega) (by unfold maxLen; have := HM2.out; omega) (Nat.zero_le _) ?_)
    intro w3 ho3 hg3
    have b3 : Below w2.heap.size w2 w3 := (Below.refl _ _).grown hg3 (Nat.le_refl _) (fun k e => by cases e)
    obtain ⟨g, hg⟩ : ∃ g, Hid (w.heap.size = g) := ⟨_, rfl⟩
    have M3 : Hid (w3.heap[r]? = some (.cells (bcs (zr 244)).toArray 5 (0, 0))) := by
      refine made_blk ?_
      have h3 := ho3
      rw [toList_madeCells_one, hr.out] at h3
      exact h3
    rw [hg.out] at HFn HQn HSr HBn ⊢
    rw [hr.out]
    have HF3 : Hid (Fv w3 g xs) := HFn.out.below b3
    have HQ3 : Hid (w3.heap[g + 1]? = some (.cells #[.int .i64 0, .slice none 0 0] 24 (0, 0))) := by show _ = _; rw [b3.block (g + 1) (by rw [hr.out]; have := HSr.out; omega)]; exact HQn.out
    have HB3 : Hid (Below g w w3) := HBn.out.trans (b3.mono (by rw [hr.out]; have := HSr.out; omega))
    have HR3 : Hid (Rd .u8 w3 (.slice (some ⟨g, 8, none⟩) 244 248) ((xs.drop 8).take 244)) := HF3.out.rdMid
    have HBG : Hid (r ≤ r) := Nat.le_refl _
    have HBB : Hid (Below (r) w3 w3) := Below.refl _ _
    have HFT : Hid (0 + min ((xs.drop 8).take 244).length 244 ≤ (zr 244).length) := by show _ ≤ _; rw [zr_len]; omega
    clear ho3 hg3 b3 hj hy0 hy1 hy2 HFn HQn HBn
    go_wp2_with (with_reducible (show wpList _ _ _ (Oper.mk _ (Op.call _) _ _ _ _ :: _) _ _); refine wpList_copyB w3 rfl (.tmp 7) (.tmp 8) rfl (r) 0 244 244 ?h3 _ _ M3.out _ _ ?h5 HR3.out HFT.out (r) w3 HBB.out HBG.out ?_; (case h3 => kernel_rfl); (case h5 => kernel_rfl))
    intro w4 M4 B4
    have e4 : splice (zr 244) 0 (((xs.drop 8).take 244).take 244) = bdy xs := by
      rw [List.take_take, Nat.min_eq_left HM2.out, HK.out, splice_allB]
      rw [← HK.out, List.length_take, List.length_drop, HL.out]; have := HM2.out; omega
    rw [e4] at M4
    have HF4 : Hid (Fv w4 g xs) := by
      refine ⟨?_, HF3.out.2⟩
      rw [B4.out.block g (by have := HSr.out; omega)]
      exact HF3.out.1
    have HQ4 : Hid (w4.heap[g + 1]? = some (.cells #[.int .i64 0, .slice none 0 0] 24 (0, 0))) := by show _ = _; rw [B4.out.block (g + 1) (by have := HSr.out; omega)]; exact HQ3.out
    have HB4 : Hid (Below g w w4) := HB3.out.trans (B4.out.mono (by have := HSr.out; omega))
    have hbl : Hid ((bdy xs).length = 244) := by show _ = _; rw [← HK.out, List.length_take, List.length_drop, HL.out]; have := HM2.out; omega
    have HW4b : Hid (Wb w4 (.slice (some ⟨r, 0, none⟩) 244 244) (bdy xs)) := ⟨r, 244, _, _, by rw [hbl.out], by rw [hbl.out]; exact Nat.le_refl _, by unfold maxLen; have := HM2.out; omega, M4.out, by rw [List.toList_toArray, List.take_of_length_le (by rw [bcs_len]; exact Nat.le_refl _)]⟩
    clear HF3 HQ3 HB3 HR3 HBB M3 e4
    go_wp2_with fail
    refine (numberU_any g 0 1 xs w4 HF4.out (by decide) (by decide)).mono ?_
    rintro e w5 ⟨rfl, hbn⟩
    rw [HN0.out]
    have HQ5 : Hid (w5.heap[g + 1]? = some (.cells #[.int .i64 0, .slice none 0 0] 24 (0, 0))) := by show _ = _; rw [hbn.block (g + 1) (Array.getElem?_eq_some_iff.1 HQ4.out).1]; exact HQ4.out
    have HB5 : Hid (Below g w w5) := HB4.out.trans (hbn.mono (Nat.le_of_lt HF4.out.lt))
    have HW5 : Hid (Wb w5 (.slice (some ⟨r, 0, none⟩) 244 244) (bdy xs)) := HW4b.out.below hbn
    clear hbn HF4 HQ4 HB4 HW4b M4
    have q0 : w5.cell? ⟨g + 1, 0, none⟩ = some (.int .i64 0) := by rw [cell_of_row w5 (g + 1) 0 _ _ (0, 0) HQ5.out]; rfl
    have q1 : w5.cell? ⟨g + 1, 1, none⟩ = some (.slice none 0 0) := by rw [cell_of_row w5 (g + 1) 1 _ _ (0, 0) HQ5.out]; rfl
    have f0 : w5.frozen? ⟨g + 1, 0, none⟩ = false := frozen_of_row w5 (g + 1) 0 _ _ HQ5.out
    have f1 : w5.frozen? ⟨g + 1, 1, none⟩ = false := frozen_of_row w5 (g + 1) 1 _ _ HQ5.out
    have hk0 := HB.out 0
    obtain ⟨K, hK⟩ : ∃ K, Hid (xs.getD 0 0 = K) := ⟨_, rfl⟩
    rw [hK.out] at hk0 ⊢
    have HWB : Hid (Wb ((w5.setCell ⟨g + 1, 0, none⟩ (.int .i64 K)).setCell ⟨g + 1, 1, none⟩ (.slice (some ⟨r, 0, none⟩) 244 244)) (.slice (some ⟨r, 0, none⟩) 244 244) (bdy xs)) := by
      exact HW5.out.tch (S := fun k => k = g + 1) (Tch.setCell (Tch.setCell (Tch.refl (fun k => k = g + 1) w5) (p := ⟨g + 1, 0, none⟩) (fun _ => rfl) _) (p := ⟨g + 1, 1, none⟩) (fun _ => rfl) _) (fun j hj e => by cases hj; have e2 : r = g + 1 := e; have := HSr.out; omega)
    have HBE : Hid (Below g w ((w5.setCell ⟨g + 1, 0, none⟩ (.int .i64 K)).setCell ⟨g + 1, 1, none⟩ (.slice (some ⟨r, 0, none⟩) 244 244))) := (HB5.out.setCell (by show g ≤ g + 1; omega) _).setCell (by show g ≤ g + 1; omega) _
    have HLD := hideP (Bkv.put (show Bkv w5 (g + 1) 0 (.slice none 0 0) from HQ5.out) K (.slice (some ⟨r, 0, none⟩) 244 244)).load
    clear HQ5 HB5 HW5
    go_wp2_with fail
    refine bodyPost_ret (v := blk K (.slice (some ⟨r, 0, none⟩) 244 244)) (results_atB (p := 2) (ty := 24) rfl _ _ _ (g + 1) _ rfl HLD.out) rfl ?_
    refine ⟨_, by rw [hK.out], HWB.out, by rw [hg.out]; exact HBE.out, fun k hk => by cases hk; rw [hg.out]; show g ≤ r; have := HSr.out; omega⟩
  · have hLm : m = L := by omega
    rw [hLm] at HK HM2
    clear hLm
    clear hm hm1 hm2
    go_enter Try.func21, Try.ntmps21
    go_wp2_with fail
    refine (numberU_any w.heap.size 1 1 xs W2 HF2.out (by decide) (by decide)).mono ?_
    rintro e w2 ⟨rfl, hbn⟩
    rw [HN1.out]
    have HFn : Hid (Fv w2 w.heap.size xs) := (show Fv W2 w.heap.size xs from HF2.out).below hbn
    have HQn : Hid (w2.heap[w.heap.size + 1]? = some (.cells #[.int .i64 0, .slice none 0 0] 24 (0, 0))) := by show _ = _; rw [hbn.block _ (by rw [HS2.out]; omega)]; exact HQ2.out
    have HBn : Hid (Below w.heap.size w w2) := HB2.out.trans (hbn.mono (by rw [HS2.out]; omega))
    obtain ⟨r, hr⟩ : ∃ r, Hid (w2.heap.size = r) := ⟨_, rfl⟩
    have HSr : Hid (w.heap.size + 2 ≤ r) := by rw [← hr.out, ← HS2.out]; exact hbn.size
    clear hbn HF2 HQ2 HB2 hW1 hW2
    go_wp2_with (at_make; refine wpList_make_full _ rfl (.tmp 5) (.tmp 5) 22 rfl 0 5 j0 _ 1 Try.underlying22 hj hy0 hy1 .i64 .i64 _ _ L rfl rfl rfl rfl (by rw [hy2]; have := HM2.out; omega) (by unfold maxLen; have := HM2.out; omega) (Nat.zero_le _) ?_)
    intro w3 ho3 hg3
    have b3 : Below w2.heap.size w2 w3 := (Below.refl _ _).grown hg3 (Nat.le_refl _) (fun k e => by cases e)
    obtain ⟨g, hg⟩ : ∃ g, Hid (w.heap.size = g) := ⟨_, rfl⟩
    have M3 : Hid (w3.heap[r]? = some (.cells (bcs (zr L)).toArray 5 (0, 0))) := by
      refine made_blk ?_
      have h3 := ho3
      rw [toList_madeCells_one, hr.out] at h3
      exact h3
    rw [hg.out] at HFn HQn HSr HBn ⊢
    rw [hr.out]
    have HF3 : Hid (Fv w3 g xs) := HFn.out.below b3
    have HQ3 : Hid (w3.heap[g + 1]? = some (.cells #[.int .i64 0, .slice none 0 0] 24 (0, 0))) := by show _ = _; rw [b3.block (g + 1) (by rw [hr.out]; have := HSr.out; omega)]; exact HQn.out
    have HB3 : Hid (Below g w w3) := HBn.out.trans (b3.mono (by rw [hr.out]; have := HSr.out; omega))
    have HR3 : Hid (Rd .u8 w3 (.slice (some ⟨g, 8, none⟩) 244 248) ((xs.drop 8).take 244)) := HF3.out.rdMid
    have HBG : Hid (r ≤ r) := Nat.le_refl _
    have HBB : Hid (Below (r) w3 w3) := Below.refl _ _
    have HFT : Hid (0 + min ((xs.drop 8).take 244).length L ≤ (zr L).length) := by show _ ≤ _; rw [zr_len]; omega
    clear ho3 hg3 b3 hj hy0 hy1 hy2 HFn HQn HBn
    go_wp2_with (with_reducible (show wpList _ _ _ (Oper.mk _ (Op.call _) _ _ _ _ :: _) _ _); refine wpList_copyB w3 rfl (.tmp 7) (.tmp 8) rfl (r) 0 L L ?h3 _ _ M3.out _ _ ?h5 HR3.out HFT.out (r) w3 HBB.out HBG.out ?_; (case h3 => kernel_rfl); (case h5 => kernel_rfl))
    intro w4 M4 B4
    have e4 : splice (zr L) 0 (((xs.drop 8).take 244).take L) = bdy xs := by
      rw [List.take_take, Nat.min_eq_left HM2.out, HK.out, splice_allB]
      rw [← HK.out, List.length_take, List.length_drop, HL.out]; have := HM2.out; omega
    rw [e4] at M4
    have HF4 : Hid (Fv w4 g xs) := by
      refine ⟨?_, HF3.out.2⟩
      rw [B4.out.block g (by have := HSr.out; omega)]
      exact HF3.out.1
    have HQ4 : Hid (w4.heap[g + 1]? = some (.cells #[.int .i64 0, .slice none 0 0] 24 (0, 0))) := by show _ = _; rw [B4.out.block (g + 1) (by have := HSr.out; omega)]; exact HQ3.out
    have HB4 : Hid (Below g w w4) := HB3.out.trans (B4.out.mono (by have := HSr.out; omega))
    have hbl : Hid ((bdy xs).length = L) := by show _ = _; rw [← HK.out, List.length_take, List.length_drop, HL.out]; have := HM2.out; omega
    have HW4b : Hid (Wb w4 (.slice (some ⟨r, 0, none⟩) L L) (bdy xs)) := ⟨r, L, _, _, by rw [hbl.out], by rw [hbl.out]; exact Nat.le_refl _, by unfold maxLen; have := HM2.out; omega, M4.out, by rw [List.toList_toArray, List.take_of_length_le (by rw [bcs_len]; exact Nat.le_refl _)]⟩
    clear HF3 HQ3 HB3 HR3 HBB M3 e4
    go_wp2_with fail
    refine (numberU_any g 0 1 xs w4 HF4.out (by decide) (by decide)).mono ?_
    rintro e w5 ⟨rfl, hbn⟩
    rw [HN0.out]
    have HQ5 : Hid (w5.heap[g + 1]? = some (.cells #[.int .i64 0, .slice none 0 0] 24 (0, 0))) := by show _ = _; rw [hbn.block (g + 1) (Array.getElem?_eq_some_iff.1 HQ4.out).1]; exact HQ4.out
    have HB5 : Hid (Below g w w5) := HB4.out.trans (hbn.mono (Nat.le_of_lt HF4.out.lt))
    have HW5 : Hid (Wb w5 (.slice (some ⟨r, 0, none⟩) L L) (bdy xs)) := HW4b.out.below hbn
    clear hbn HF4 HQ4 HB4 HW4b M4
    have q0 : w5.cell? ⟨g + 1, 0, none⟩ = some (.int .i64 0) := by rw [cell_of_row w5 (g + 1) 0 _ _ (0, 0) HQ5.out]; rfl
    have q1 : w5.cell? ⟨g + 1, 1, none⟩ = some (.slice none 0 0) := by rw [cell_of_row w5 (g + 1) 1 _ _ (0, 0) HQ5.out]; rfl
    have f0 : w5.frozen? ⟨g + 1, 0, none⟩ = false := frozen_of_row w5 (g + 1) 0 _ _ HQ5.out
    have f1 : w5.frozen? ⟨g + 1, 1, none⟩ = false := frozen_of_row w5 (g + 1) 1 _ _ HQ5.out
    have hk0 := HB.out 0
    obtain ⟨K, hK⟩ : ∃ K, Hid (xs.getD 0 0 = K) := ⟨_, rfl⟩
    rw [hK.out] at hk0 ⊢
    have HWB : Hid (Wb ((w5.setCell ⟨g + 1, 0, none⟩ (.int .i64 K)).setCell ⟨g + 1, 1, none⟩ (.slice (some ⟨r, 0, none⟩) L L)) (.slice (some ⟨r, 0, none⟩) L L) (bdy xs)) := by
      exact HW5.out.tch (S := fun k => k = g + 1) (Tch.setCell (Tch.setCell (Tch.refl (fun k => k = g + 1) w5) (p := ⟨g + 1, 0, none⟩) (fun _ => rfl) _) (p := ⟨g + 1, 1, none⟩) (fun _ => rfl) _) (fun j hj e => by cases hj; have e2 : r = g + 1 := e; have := HSr.out; omega)
    have HBE : Hid (Below g w ((w5.setCell ⟨g + 1, 0, none⟩ (.int .i64 K)).setCell ⟨g + 1, 1, none⟩ (.slice (some ⟨r, 0, none⟩) L L))) := (HB5.out.setCell (by show g ≤ g + 1; omega) _).setCell (by show g ≤ g + 1; omega) _
    have HLD := hideP (Bkv.put (show Bkv w5 (g + 1) 0 (.slice none 0 0) from HQ5.out) K (.slice (some ⟨r, 0, none⟩) L L)).load
    clear HQ5 HB5 HW5
    go_wp2_with fail
    refine bodyPost_ret (v := blk K (.slice (some ⟨r, 0, none⟩) L L)) (results_atB (p := 2) (ty := 24) rfl _ _ _ (g + 1) _ rfl HLD.out) rfl ?_
    refine ⟨_, by rw [hK.out], HWB.out, by rw [hg.out]; exact HBE.out, fun k hk => by cases hk; rw [hg.out]; show g ≤ r; have := HSr.out; omega⟩
end Go.Proofs.Ytmidcmliiofefaa
