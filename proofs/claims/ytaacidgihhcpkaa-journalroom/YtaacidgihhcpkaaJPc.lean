/-
  The piece that a sector tells, be it so or not.
-/
import Derived.Test.YtaacidgihhcpkaaJSec
namespace Go.Proofs.Ytaacidgihhcpkaa
open Go.RowKit Pl
set_option linter.unusedVariables false
set_option linter.unusedSimpArgs false
set_option maxRecDepth 100000

theorem vN_one (x : Int) : vN [x] = x := by simp [vN]
theorem sl_one {xs : List Int} {a : Nat} (h : a < xs.length) : sl xs a 1 = [xs.getD a 0] := by
  unfold sl
  rw [List.take_one, List.head?_drop, List.getElem?_eq_getElem h, List.getD_eq_getElem?_getD, List.getElem?_eq_getElem h]
  rfl
theorem vN_sl_one {xs : List Int} (hb : By xs) {a : Nat} (h : a < xs.length) : vN (sl xs a 1) = (bN xs a : Int) := by rw [sl_one h, vN_one, bN_eq hb]
theorem vN_sl_nat {xs : List Int} (hb : By xs) (a k : Nat) : vN (sl xs a k) = ((vN (sl xs a k)).toNat : Int) := by
  have := vN_bnd (sl xs a k) ((hb.dropB a).take k)
  omega
def zr (m : Nat) : List Int := List.replicate m 0
theorem zr_len (m : Nat) : (zr m).length = m := by simp [zr]
theorem made_blkJ {w : World} {e : TypeId} {g n : Nat} (h : w.ownsRow 0 e 1 (.slice (some ⟨g, 0, none⟩) n n) n (List.replicate n (.int .u8 0))) : w.heap[g]? = some (.cells (bcs (zr n)).toArray e (0, 0)) := by
  rcases h.2 with ⟨h0, _⟩ | ⟨g', cap, cur, hv, _, hg, hnc, hcm, hcs, htake⟩
  · cases h0
  · cases hv
    rw [hg]
    have e1 : cur.toList = bcs (zr n) := by
      have : cur.toList.take (n * 1) = cur.toList := List.take_of_length_le (by rw [Array.length_toList, hcs]; omega)
      rw [← this, htake, bcs, zr, List.map_replicate]
    rw [← e1]
theorem splice_allJ (m : Nat) (cs : List Int) (h : cs.length = m) : splice (zr m) 0 cs = cs := by
  unfold splice
  rw [List.take_zero, List.nil_append, List.drop_of_length_le (by rw [zr_len]; omega), List.append_nil]
theorem info_u8J : (Try.prog.info? 5).map (fun i => (i.zero, i.size, i.bytes)) = some (some (.int .u8 0), 1, 1) := by kernel_rfl
theorem Fu.rdMid {w : World} {g : Nat} {xs : List Int} (h : Fu w g xs) : Rd .u8 w (.slice (some ⟨g, 12, none⟩) 240 244) ((xs.drop 12).take 240) := by
  have hl := h.2.1
  have e : ((xs.drop 12).take 240).length = 240 := by rw [List.length_take, List.length_drop]; omega
  refine ⟨_, 244, by rw [e], by omega, by unfold maxLen; omega, (fun e => by cases e), .inr ⟨g, 12, rfl, fun i hi => ?_⟩⟩
  rw [e] at hi
  rw [h.cell (by omega), List.getD_eq_getElem?_getD, List.getD_eq_getElem?_getD, List.getElem?_take, if_pos hi, List.getElem?_drop]

set_option maxHeartbeats 1000000 in
theorem pieceOf_any (xs : List Int) (w : World) (hl : xs.length = 256) (hb : By xs) :
    Calls Try.prog 56 #[.agg (bcs xs).toArray] w fun e w' => ∃ v, e = .returned (pcv (rdP xs) v) ∧ Wb w' v (rdP xs).ys ∧ Below w.heap.size w w' ∧ ∀ k, v.ownBlock = some k → w.heap.size ≤ k := by
  obtain ⟨j0, hj, hy0, hy1, hy2⟩ := info_parts info_u8J
  have HSL := slice_frm_lhU
  have HL : Hid (xs.length = 256) := hl
  have HB : Hid (By xs) := hb
  obtain ⟨W1, hW1⟩ : ∃ W1, w.alloc (.cells (bcs xs).toArray 79) = W1 := ⟨_, rfl⟩
  have F1 : Fu W1 w.heap.size xs := by rw [← hW1]; exact fv_newU w hl hb
  have s1 : W1.heap.size = w.heap.size + 1 := by rw [← hW1]; simp
  obtain ⟨X, hX⟩ : ∃ X, Hid ((bcs xs).toArray = X) := ⟨_, rfl⟩
  rw [hX.out] at hW1 ⊢
  obtain ⟨W2, hW2⟩ : ∃ W2, W1.alloc (.cells #[.int .i64 0, .int .i64 0, .int .i64 0, .int .i64 0, .slice none 0 0] 82) = W2 := ⟨_, rfl⟩
  have B12 : Below W1.heap.size W1 W2 := by rw [← hW2]; exact (Below.refl _ _).alloc (Nat.le_refl _) _
  have HB2 : Hid (Below w.heap.size w W2) := by rw [← hW2, ← hW1]; exact ((Below.refl _ _).alloc (Nat.le_refl _) _).alloc (by simp) _
  have HF2 : Hid (Fu W2 w.heap.size xs) := F1.below B12
  have HQ2 : Hid (Bo W2 (w.heap.size + 1) 82 [.int .i64 0, .int .i64 0, .int .i64 0, .int .i64 0, .slice none 0 0]) := by rw [← hW2, ← s1]; exact bo_new W1 _ _
  have HS2 : Hid (W2.heap.size = w.heap.size + 2) := by show _ = _; rw [← hW2]; simp [s1]
  obtain ⟨L, hL⟩ : ∃ L, Hid (bN xs 3 = L) := ⟨_, rfl⟩
  have hL2 : L < 256 := by rw [← hL.out]; exact bN_lt hb 3
  obtain ⟨g, hg⟩ : ∃ g, Hid (w.heap.size = g) := ⟨_, rfl⟩
  clear F1 B12 hl hb
  go_enter Try.func56, Try.ntmps56
  go_wp2_with fail
  rw [hg.out] at HF2 HQ2 HS2 HB2 ⊢
  refine (numberU_any g 3 1 xs W2 HF2.out (by decide) (by decide)).mono ?_
  rintro e w3 ⟨rfl, b3⟩
  rw [vN_sl_one HB.out (by rw [HL.out]; decide), hL.out]
  have HF3 : Hid (Fu w3 g xs) := HF2.out.below b3
  have HQ3 : Hid (Bo w3 (g + 1) 82 [.int .i64 0, .int .i64 0, .int .i64 0, .int .i64 0, .slice none 0 0]) := HQ2.out.below b3
  have HB3 : Hid (Below g w w3) := HB2.out.trans (b3.mono (by rw [HS2.out]; omega))
  have HG3 : Hid (g + 1 < w3.heap.size) := HQ3.out.lt
  clear b3 HF2 HQ2 HB2 HS2 hW1 hW2 s1
  by_cases hc : (240 : Int) < (L : Int)
  · have HK : Hid ((xs.drop 12).take 240 = (rdP xs).ys) := by show _ = _; show _ = (xs.drop 12).take (min (bN xs 3) 240); rw [hL.out]; congr 1; omega
    have HM2 : Hid (240 ≤ 240) := by show _ ≤ _; omega
    go_wp2_with (at_make; refine wpList_make_full _ rfl (.tmp 5) (.tmp 5) 36 rfl 0 5 j0 _ 1 Try.underlying36 hj hy0 hy1 .i64 .i64 _ _ 240 rfl rfl rfl rfl (by rw [hy2]; have := HM2.out; omega) (by unfold maxLen; have := HM2.out; omega) (Nat.zero_le _) ?_)
    intro w4 ho4 hg4
    have b4 : Below w3.heap.size w3 w4 := (Below.refl _ _).grown hg4 (Nat.le_refl _) (fun k e => by cases e)
    obtain ⟨h, hh⟩ : ∃ h, Hid (w3.heap.size = h) := ⟨_, rfl⟩
    rw [hh.out] at HG3 ⊢
    have M4 : Hid (w4.heap[h]? = some (.cells (bcs (zr 240)).toArray 5 (0, 0))) := by
      refine made_blkJ ?_
      have h3 := ho4
      rw [toList_madeCells_one, hh.out] at h3
      exact h3
    have HF4 : Hid (Fu w4 g xs) := HF3.out.below b4
    have HQ4 : Hid (Bo w4 (g + 1) 82 [.int .i64 0, .int .i64 0, .int .i64 0, .int .i64 0, .slice none 0 0]) := HQ3.out.below b4
    have HB4 : Hid (Below g w w4) := HB3.out.trans (b4.mono (by have := HG3.out; rw [hh.out]; omega))
    have HR4 : Hid (Rd .u8 w4 (.slice (some ⟨g, 12, none⟩) 240 244) ((xs.drop 12).take 240)) := HF4.out.rdMid
    have HBG : Hid (h ≤ h) := Nat.le_refl _
    have HBB : Hid (Below h w4 w4) := Below.refl _ _
    have HFT : Hid (0 + min ((xs.drop 12).take 240).length 240 ≤ (zr 240).length) := by show _ ≤ _; rw [zr_len]; omega
    clear ho4 hg4 b4 HF3 HQ3 HB3
    go_wp2_with (with_reducible (show wpList _ _ _ (Oper.mk _ (Op.call _) _ _ _ _ :: _) _ _); refine wpList_copyU w4 rfl (.tmp 7) (.tmp 8) rfl h 0 240 240 ?h3 _ _ M4.out _ _ ?h5 HR4.out HFT.out h w4 HBB.out HBG.out ?_; (case h3 => kernel_rfl); (case h5 => kernel_rfl))
    intro w5 M5 B5
    have e5 : splice (zr 240) 0 (((xs.drop 12).take 240).take 240) = (rdP xs).ys := by
      rw [List.take_take, Nat.min_eq_left HM2.out, HK.out, splice_allJ]
      rw [← HK.out, List.length_take, List.length_drop, HL.out]; have := HM2.out; omega
    rw [e5] at M5
    have HF5 : Hid (Fu w5 g xs) := ⟨by rw [B5.out.block g (by have := HG3.out; omega)]; exact HF4.out.1, HF4.out.2⟩
    have HQ5 : Hid (Bo w5 (g + 1) 82 [.int .i64 0, .int .i64 0, .int .i64 0, .int .i64 0, .slice none 0 0]) := HQ4.out.tch (S := fun k => h ≤ k) ⟨B5.out.os, B5.out.tape, B5.out.output, B5.out.size, fun k hk hn => B5.out.block k (Nat.lt_of_not_le hn)⟩ (by have := HG3.out; omega)
    have HB5 : Hid (Below g w w5) := HB4.out.trans (B5.out.mono (by have := HG3.out; omega))
    have hbl : Hid ((rdP xs).ys.length = 240) := by show _ = _; rw [← HK.out, List.length_take, List.length_drop, HL.out]; have := HM2.out; omega
    have HW5 : Hid (Wb w5 (.slice (some ⟨h, 0, none⟩) 240 240) (rdP xs).ys) := ⟨h, 240, _, _, by rw [hbl.out], by rw [hbl.out]; exact Nat.le_refl _, by unfold maxLen; have := HM2.out; omega, M5.out, by rw [List.toList_toArray, List.take_of_length_le (by rw [bcs_len]; exact Nat.le_refl _)]⟩
    clear HF4 HQ4 HB4 HR4 HBB M4 e5 HFT M5 B5
    generalize goInt (List.take 240 (List.take 240 (List.drop 12 xs))).length = gi
    go_wp2_with fail
    refine (numberU_any g 1 1 xs w5 HF5.out (by decide) (by decide)).mono ?_
    rintro e w6 ⟨rfl, b6⟩
    rw [vN_sl_one HB.out (by rw [HL.out]; decide), show bN xs 1 = (rdP xs).pl from rfl]
    have HF6 : Hid (Fu w6 g xs) := HF5.out.below b6
    have HQ6 : Hid (Bo w6 (g + 1) 82 [.int .i64 0, .int .i64 0, .int .i64 0, .int .i64 0, .slice none 0 0]) := HQ5.out.below b6
    have HB6 : Hid (Below g w w6) := HB5.out.trans (b6.mono (Nat.le_of_lt HF5.out.lt))
    have HW6 : Hid (Wb w6 (.slice (some ⟨h, 0, none⟩) 240 240) (rdP xs).ys) := HW5.out.tch (S := fun _ => False) (Tch.of_below b6) (fun _ _ e => e)
    clear b6 HF5 HQ5 HB5 HW5
    obtain ⟨x6, hx6⟩ : ∃ x, Hid ((rdP xs).pl = x) := ⟨_, rfl⟩
    rw [hx6.out]
    go_wp2_with fail
    refine (numberU_any g 2 1 xs w6 HF6.out (by decide) (by decide)).mono ?_
    rintro e w7 ⟨rfl, b7⟩
    rw [vN_sl_one HB.out (by rw [HL.out]; decide), show bN xs 2 = (rdP xs).mn from rfl]
    have HF7 : Hid (Fu w7 g xs) := HF6.out.below b7
    have HQ7 : Hid (Bo w7 (g + 1) 82 [.int .i64 0, .int .i64 0, .int .i64 0, .int .i64 0, .slice none 0 0]) := HQ6.out.below b7
    have HB7 : Hid (Below g w w7) := HB6.out.trans (b7.mono (Nat.le_of_lt HF6.out.lt))
    have HW7 : Hid (Wb w7 (.slice (some ⟨h, 0, none⟩) 240 240) (rdP xs).ys) := HW6.out.tch (S := fun _ => False) (Tch.of_below b7) (fun _ _ e => e)
    clear b7 HF6 HQ6 HB6 HW6
    obtain ⟨x7, hx7⟩ : ∃ x, Hid ((rdP xs).mn = x) := ⟨_, rfl⟩
    rw [hx7.out]
    go_wp2_with fail
    refine (numberU_any g 4 4 xs w7 HF7.out (by decide) (by decide)).mono ?_
    rintro e w8 ⟨rfl, b8⟩
    rw [vN_sl_nat HB.out, show (vN (sl xs 4 4)).toNat = (rdP xs).gen from rfl]
    have HF8 : Hid (Fu w8 g xs) := HF7.out.below b8
    have HQ8 : Hid (Bo w8 (g + 1) 82 [.int .i64 0, .int .i64 0, .int .i64 0, .int .i64 0, .slice none 0 0]) := HQ7.out.below b8
    have HB8 : Hid (Below g w w8) := HB7.out.trans (b8.mono (Nat.le_of_lt HF7.out.lt))
    have HW8 : Hid (Wb w8 (.slice (some ⟨h, 0, none⟩) 240 240) (rdP xs).ys) := HW7.out.tch (S := fun _ => False) (Tch.of_below b8) (fun _ _ e => e)
    clear b8 HF7 HQ7 HB7 HW7
    obtain ⟨x8, hx8⟩ : ∃ x, Hid ((rdP xs).gen = x) := ⟨_, rfl⟩
    rw [hx8.out]
    go_wp2_with fail
    refine (numberU_any g 8 4 xs w8 HF8.out (by decide) (by decide)).mono ?_
    rintro e w9 ⟨rfl, b9⟩
    rw [vN_sl_nat HB.out, show (vN (sl xs 8 4)).toNat = (rdP xs).num from rfl]
    have HF9 : Hid (Fu w9 g xs) := HF8.out.below b9
    have HQ9 : Hid (Bo w9 (g + 1) 82 [.int .i64 0, .int .i64 0, .int .i64 0, .int .i64 0, .slice none 0 0]) := HQ8.out.below b9
    have HB9 : Hid (Below g w w9) := HB8.out.trans (b9.mono (Nat.le_of_lt HF8.out.lt))
    have HW9 : Hid (Wb w9 (.slice (some ⟨h, 0, none⟩) 240 240) (rdP xs).ys) := HW8.out.tch (S := fun _ => False) (Tch.of_below b9) (fun _ _ e => e)
    clear b9 HF8 HQ8 HB8 HW8
    obtain ⟨x9, hx9⟩ : ∃ x, Hid ((rdP xs).num = x) := ⟨_, rfl⟩
    rw [hx9.out]
    have q0 := HQ9.out.cell (i := 0) rfl
    have q1 := HQ9.out.cell (i := 1) rfl
    have q2 := HQ9.out.cell (i := 2) rfl
    have q3 := HQ9.out.cell (i := 3) rfl
    have q4 := HQ9.out.cell (i := 4) rfl
    have f0 := HQ9.out.fz 0
    have f1 := HQ9.out.fz 1
    have f2 := HQ9.out.fz 2
    have f3 := HQ9.out.fz 3
    have f4 := HQ9.out.fz 4
    have HP := hideP (((((HQ9.out.set 0 (.int .i64 (x6 : Int))).set 1 (.int .i64 (x7 : Int))).set 2 (.int .i64 (x8 : Int))).set 3 (.int .i64 (x9 : Int))).set 4 (.slice (some ⟨h, 0, none⟩) 240 240))
    have HT := hideP (Tch.setCell (Tch.setCell (Tch.setCell (Tch.setCell (Tch.setCell (Tch.refl (fun k => k = g + 1) w9) (p := ⟨g + 1, 0, none⟩) (fun _ => rfl) (.int .i64 (x6 : Int))) (p := ⟨g + 1, 1, none⟩) (fun _ => rfl) (.int .i64 (x7 : Int))) (p := ⟨g + 1, 2, none⟩) (fun _ => rfl) (.int .i64 (x8 : Int))) (p := ⟨g + 1, 3, none⟩) (fun _ => rfl) (.int .i64 (x9 : Int))) (p := ⟨g + 1, 4, none⟩) (fun _ => rfl) (.slice (some ⟨h, 0, none⟩) 240 240))
    have HLD : Hid ((loadVar 82 ⟨g + 1, 0, none⟩).run Try.prog (((((w9.setCell ⟨g + 1, 0, none⟩ (.int .i64 (x6 : Int))).setCell ⟨g + 1, 1, none⟩ (.int .i64 (x7 : Int))).setCell ⟨g + 1, 2, none⟩ (.int .i64 (x8 : Int))).setCell ⟨g + 1, 3, none⟩ (.int .i64 (x9 : Int))).setCell ⟨g + 1, 4, none⟩ (.slice (some ⟨h, 0, none⟩) 240 240)) = .ok (pcv (rdP xs) (.slice (some ⟨h, 0, none⟩) 240 240)) (((((w9.setCell ⟨g + 1, 0, none⟩ (.int .i64 (x6 : Int))).setCell ⟨g + 1, 1, none⟩ (.int .i64 (x7 : Int))).setCell ⟨g + 1, 2, none⟩ (.int .i64 (x8 : Int))).setCell ⟨g + 1, 3, none⟩ (.int .i64 (x9 : Int))).setCell ⟨g + 1, 4, none⟩ (.slice (some ⟨h, 0, none⟩) 240 240))) := by
      have e := pc_load (p := rdP xs) (v := .slice (some ⟨h, 0, none⟩) 240 240) (by unfold pcs5; rw [hx6.out, hx7.out, hx8.out, hx9.out]; exact HP.out)
      exact e
    have HGG : Hid (g + 1 < h) := HG3
    go_wp2_with fail
    refine bodyPost_ret (v := pcv (rdP xs) (.slice (some ⟨h, 0, none⟩) 240 240)) (results_atU (p := 2) (ty := 82) rfl _ _ _ (g + 1) _ rfl HLD.out) rfl ?_
    refine ⟨_, rfl, HW9.out.tch HT.out (fun j hj e => by cases hj; have e2 : h = g + 1 := e; have := HGG.out; omega), ?_, fun k hk => by cases hk; rw [hg.out]; show g ≤ h; have := HGG.out; omega⟩
    rw [hg.out]
    exact HB9.out.trans (HT.out.below (Nat.le_of_lt HF9.out.lt) (fun k e => by rw [e]; omega))
  · have HK : Hid ((xs.drop 12).take L = (rdP xs).ys) := by show _ = _; show _ = (xs.drop 12).take (min (bN xs 3) 240); rw [hL.out]; congr 1; omega
    have HM2 : Hid (L ≤ 240) := by show _ ≤ _; omega
    go_wp2_with (at_make; refine wpList_make_full _ rfl (.tmp 5) (.tmp 5) 36 rfl 0 5 j0 _ 1 Try.underlying36 hj hy0 hy1 .i64 .i64 _ _ L rfl rfl rfl rfl (by rw [hy2]; have := HM2.out; omega) (by unfold maxLen; have := HM2.out; omega) (Nat.zero_le _) ?_)
    intro w4 ho4 hg4
    have b4 : Below w3.heap.size w3 w4 := (Below.refl _ _).grown hg4 (Nat.le_refl _) (fun k e => by cases e)
    obtain ⟨h, hh⟩ : ∃ h, Hid (w3.heap.size = h) := ⟨_, rfl⟩
    rw [hh.out] at HG3 ⊢
    have M4 : Hid (w4.heap[h]? = some (.cells (bcs (zr L)).toArray 5 (0, 0))) := by
      refine made_blkJ ?_
      have h3 := ho4
      rw [toList_madeCells_one, hh.out] at h3
      exact h3
    have HF4 : Hid (Fu w4 g xs) := HF3.out.below b4
    have HQ4 : Hid (Bo w4 (g + 1) 82 [.int .i64 0, .int .i64 0, .int .i64 0, .int .i64 0, .slice none 0 0]) := HQ3.out.below b4
    have HB4 : Hid (Below g w w4) := HB3.out.trans (b4.mono (by have := HG3.out; rw [hh.out]; omega))
    have HR4 : Hid (Rd .u8 w4 (.slice (some ⟨g, 12, none⟩) 240 244) ((xs.drop 12).take 240)) := HF4.out.rdMid
    have HBG : Hid (h ≤ h) := Nat.le_refl _
    have HBB : Hid (Below h w4 w4) := Below.refl _ _
    have HFT : Hid (0 + min ((xs.drop 12).take 240).length L ≤ (zr L).length) := by show _ ≤ _; rw [zr_len]; omega
    clear ho4 hg4 b4 HF3 HQ3 HB3
    go_wp2_with (with_reducible (show wpList _ _ _ (Oper.mk _ (Op.call _) _ _ _ _ :: _) _ _); refine wpList_copyU w4 rfl (.tmp 7) (.tmp 8) rfl h 0 L L ?h3 _ _ M4.out _ _ ?h5 HR4.out HFT.out h w4 HBB.out HBG.out ?_; (case h3 => kernel_rfl); (case h5 => kernel_rfl))
    intro w5 M5 B5
    have e5 : splice (zr L) 0 (((xs.drop 12).take 240).take L) = (rdP xs).ys := by
      rw [List.take_take, Nat.min_eq_left HM2.out, HK.out, splice_allJ]
      rw [← HK.out, List.length_take, List.length_drop, HL.out]; have := HM2.out; omega
    rw [e5] at M5
    have HF5 : Hid (Fu w5 g xs) := ⟨by rw [B5.out.block g (by have := HG3.out; omega)]; exact HF4.out.1, HF4.out.2⟩
    have HQ5 : Hid (Bo w5 (g + 1) 82 [.int .i64 0, .int .i64 0, .int .i64 0, .int .i64 0, .slice none 0 0]) := HQ4.out.tch (S := fun k => h ≤ k) ⟨B5.out.os, B5.out.tape, B5.out.output, B5.out.size, fun k hk hn => B5.out.block k (Nat.lt_of_not_le hn)⟩ (by have := HG3.out; omega)
    have HB5 : Hid (Below g w w5) := HB4.out.trans (B5.out.mono (by have := HG3.out; omega))
    have hbl : Hid ((rdP xs).ys.length = L) := by show _ = _; rw [← HK.out, List.length_take, List.length_drop, HL.out]; have := HM2.out; omega
    have HW5 : Hid (Wb w5 (.slice (some ⟨h, 0, none⟩) L L) (rdP xs).ys) := ⟨h, L, _, _, by rw [hbl.out], by rw [hbl.out]; exact Nat.le_refl _, by unfold maxLen; have := HM2.out; omega, M5.out, by rw [List.toList_toArray, List.take_of_length_le (by rw [bcs_len]; exact Nat.le_refl _)]⟩
    clear HF4 HQ4 HB4 HR4 HBB M4 e5 HFT M5 B5
    generalize goInt (List.take L (List.take 240 (List.drop 12 xs))).length = gi
    go_wp2_with fail
    refine (numberU_any g 1 1 xs w5 HF5.out (by decide) (by decide)).mono ?_
    rintro e w6 ⟨rfl, b6⟩
    rw [vN_sl_one HB.out (by rw [HL.out]; decide), show bN xs 1 = (rdP xs).pl from rfl]
    have HF6 : Hid (Fu w6 g xs) := HF5.out.below b6
    have HQ6 : Hid (Bo w6 (g + 1) 82 [.int .i64 0, .int .i64 0, .int .i64 0, .int .i64 0, .slice none 0 0]) := HQ5.out.below b6
    have HB6 : Hid (Below g w w6) := HB5.out.trans (b6.mono (Nat.le_of_lt HF5.out.lt))
    have HW6 : Hid (Wb w6 (.slice (some ⟨h, 0, none⟩) L L) (rdP xs).ys) := HW5.out.tch (S := fun _ => False) (Tch.of_below b6) (fun _ _ e => e)
    clear b6 HF5 HQ5 HB5 HW5
    obtain ⟨x6, hx6⟩ : ∃ x, Hid ((rdP xs).pl = x) := ⟨_, rfl⟩
    rw [hx6.out]
    go_wp2_with fail
    refine (numberU_any g 2 1 xs w6 HF6.out (by decide) (by decide)).mono ?_
    rintro e w7 ⟨rfl, b7⟩
    rw [vN_sl_one HB.out (by rw [HL.out]; decide), show bN xs 2 = (rdP xs).mn from rfl]
    have HF7 : Hid (Fu w7 g xs) := HF6.out.below b7
    have HQ7 : Hid (Bo w7 (g + 1) 82 [.int .i64 0, .int .i64 0, .int .i64 0, .int .i64 0, .slice none 0 0]) := HQ6.out.below b7
    have HB7 : Hid (Below g w w7) := HB6.out.trans (b7.mono (Nat.le_of_lt HF6.out.lt))
    have HW7 : Hid (Wb w7 (.slice (some ⟨h, 0, none⟩) L L) (rdP xs).ys) := HW6.out.tch (S := fun _ => False) (Tch.of_below b7) (fun _ _ e => e)
    clear b7 HF6 HQ6 HB6 HW6
    obtain ⟨x7, hx7⟩ : ∃ x, Hid ((rdP xs).mn = x) := ⟨_, rfl⟩
    rw [hx7.out]
    go_wp2_with fail
    refine (numberU_any g 4 4 xs w7 HF7.out (by decide) (by decide)).mono ?_
    rintro e w8 ⟨rfl, b8⟩
    rw [vN_sl_nat HB.out, show (vN (sl xs 4 4)).toNat = (rdP xs).gen from rfl]
    have HF8 : Hid (Fu w8 g xs) := HF7.out.below b8
    have HQ8 : Hid (Bo w8 (g + 1) 82 [.int .i64 0, .int .i64 0, .int .i64 0, .int .i64 0, .slice none 0 0]) := HQ7.out.below b8
    have HB8 : Hid (Below g w w8) := HB7.out.trans (b8.mono (Nat.le_of_lt HF7.out.lt))
    have HW8 : Hid (Wb w8 (.slice (some ⟨h, 0, none⟩) L L) (rdP xs).ys) := HW7.out.tch (S := fun _ => False) (Tch.of_below b8) (fun _ _ e => e)
    clear b8 HF7 HQ7 HB7 HW7
    obtain ⟨x8, hx8⟩ : ∃ x, Hid ((rdP xs).gen = x) := ⟨_, rfl⟩
    rw [hx8.out]
    go_wp2_with fail
    refine (numberU_any g 8 4 xs w8 HF8.out (by decide) (by decide)).mono ?_
    rintro e w9 ⟨rfl, b9⟩
    rw [vN_sl_nat HB.out, show (vN (sl xs 8 4)).toNat = (rdP xs).num from rfl]
    have HF9 : Hid (Fu w9 g xs) := HF8.out.below b9
    have HQ9 : Hid (Bo w9 (g + 1) 82 [.int .i64 0, .int .i64 0, .int .i64 0, .int .i64 0, .slice none 0 0]) := HQ8.out.below b9
    have HB9 : Hid (Below g w w9) := HB8.out.trans (b9.mono (Nat.le_of_lt HF8.out.lt))
    have HW9 : Hid (Wb w9 (.slice (some ⟨h, 0, none⟩) L L) (rdP xs).ys) := HW8.out.tch (S := fun _ => False) (Tch.of_below b9) (fun _ _ e => e)
    clear b9 HF8 HQ8 HB8 HW8
    obtain ⟨x9, hx9⟩ : ∃ x, Hid ((rdP xs).num = x) := ⟨_, rfl⟩
    rw [hx9.out]
    have q0 := HQ9.out.cell (i := 0) rfl
    have q1 := HQ9.out.cell (i := 1) rfl
    have q2 := HQ9.out.cell (i := 2) rfl
    have q3 := HQ9.out.cell (i := 3) rfl
    have q4 := HQ9.out.cell (i := 4) rfl
    have f0 := HQ9.out.fz 0
    have f1 := HQ9.out.fz 1
    have f2 := HQ9.out.fz 2
    have f3 := HQ9.out.fz 3
    have f4 := HQ9.out.fz 4
    have HP := hideP (((((HQ9.out.set 0 (.int .i64 (x6 : Int))).set 1 (.int .i64 (x7 : Int))).set 2 (.int .i64 (x8 : Int))).set 3 (.int .i64 (x9 : Int))).set 4 (.slice (some ⟨h, 0, none⟩) L L))
    have HT := hideP (Tch.setCell (Tch.setCell (Tch.setCell (Tch.setCell (Tch.setCell (Tch.refl (fun k => k = g + 1) w9) (p := ⟨g + 1, 0, none⟩) (fun _ => rfl) (.int .i64 (x6 : Int))) (p := ⟨g + 1, 1, none⟩) (fun _ => rfl) (.int .i64 (x7 : Int))) (p := ⟨g + 1, 2, none⟩) (fun _ => rfl) (.int .i64 (x8 : Int))) (p := ⟨g + 1, 3, none⟩) (fun _ => rfl) (.int .i64 (x9 : Int))) (p := ⟨g + 1, 4, none⟩) (fun _ => rfl) (.slice (some ⟨h, 0, none⟩) L L))
    have HLD : Hid ((loadVar 82 ⟨g + 1, 0, none⟩).run Try.prog (((((w9.setCell ⟨g + 1, 0, none⟩ (.int .i64 (x6 : Int))).setCell ⟨g + 1, 1, none⟩ (.int .i64 (x7 : Int))).setCell ⟨g + 1, 2, none⟩ (.int .i64 (x8 : Int))).setCell ⟨g + 1, 3, none⟩ (.int .i64 (x9 : Int))).setCell ⟨g + 1, 4, none⟩ (.slice (some ⟨h, 0, none⟩) L L)) = .ok (pcv (rdP xs) (.slice (some ⟨h, 0, none⟩) L L)) (((((w9.setCell ⟨g + 1, 0, none⟩ (.int .i64 (x6 : Int))).setCell ⟨g + 1, 1, none⟩ (.int .i64 (x7 : Int))).setCell ⟨g + 1, 2, none⟩ (.int .i64 (x8 : Int))).setCell ⟨g + 1, 3, none⟩ (.int .i64 (x9 : Int))).setCell ⟨g + 1, 4, none⟩ (.slice (some ⟨h, 0, none⟩) L L))) := by
      have e := pc_load (p := rdP xs) (v := .slice (some ⟨h, 0, none⟩) L L) (by unfold pcs5; rw [hx6.out, hx7.out, hx8.out, hx9.out]; exact HP.out)
      exact e
    have HGG : Hid (g + 1 < h) := HG3
    go_wp2_with fail
    refine bodyPost_ret (v := pcv (rdP xs) (.slice (some ⟨h, 0, none⟩) L L)) (results_atU (p := 2) (ty := 82) rfl _ _ _ (g + 1) _ rfl HLD.out) rfl ?_
    refine ⟨_, rfl, HW9.out.tch HT.out (fun j hj e => by cases hj; have e2 : h = g + 1 := e; have := HGG.out; omega), ?_, fun k hk => by cases hk; rw [hg.out]; show g ≤ h; have := HGG.out; omega⟩
    rw [hg.out]
    exact HB9.out.trans (HT.out.below (Nat.le_of_lt HF9.out.lt) (fun k e => by rw [e]; omega))
end Go.Proofs.Ytaacidgihhcpkaa
