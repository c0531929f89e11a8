/-
  What a sector has.
-/
import Derived.Test.YtaacidgihhcpkaaDNew
namespace Go.Proofs.Ytaacidgihhcpkaa
open Go.RowKit Go.Maps
set_option linter.unusedVariables false
set_option linter.unusedSimpArgs false
set_option maxRecDepth 100000

theorem slice_sec (g : Nat) (w : World) : (Instr.sliceAt 83 (.pointer (some ⟨g, 0, none⟩)) none none none).run Try.prog w = .ok (.slice (some ⟨g, 0, none⟩) 256 256) w := by
  have hL : Try.prog.arrayLen 83 = 256 := by kernel_rfl
  have hE : Try.prog.elem 83 = 5 := by kernel_rfl
  have ht : Try.prog.underlying 83 = some (.array (Try.prog.arrayLen 83) (Try.prog.elem 83)) := by rw [hL, hE]; exact Try.underlying83
  rw [run_sliceAt_array_all w 83 _ ht, hL, hE]
  simp [slicedAt, go_sem]

theorem cells74 : Try.prog.cellsOf 83 = 256 := by kernel_rfl

theorem read_bad {S : Nat → Prop} {d : Nat} {s : DS} (at_ : Int) (w : World) (h : Dk S w d s) (hb : at_ < 0 ∨ (s.L.length : Int) ≤ at_) :
    Calls Try.prog 54 #[dp d, .int .i64 at_] w fun e w' => e = .returned (.tuple #[.slice none 0 0, .int .i64 2]) ∧ w' = w := by
  obtain ⟨lb, vb, lc, g, h⟩ := h
  have hf : (decide (0 ≤ at_) && decide (at_ < (s.L.length : Int))) = false := by
    rw [Bool.and_eq_false_iff, decide_eq_false_iff_not, decide_eq_false_iff_not]; omega
  have H := isThere_any at_ w h
  rw [hf] at H
  have H := hideP H
  clear h hb
  go_enter Try.func54, Try.ntmps54
  go_wp2_with fail
  refine H.out.mono ?_
  rintro e w ⟨rfl, rfl⟩
  go_wp2_with fail
  go_ret2
  exact ⟨rfl, rfl⟩

set_option maxHeartbeats 1000000 in
theorem read_ok {S : Nat → Prop} {d : Nat} {s : DS} (i : Nat) (w : World) (h : Dk S w d s) (hi : i < s.L.length) :
    Calls Try.prog 54 #[dp d, .int .i64 (i : Int)] w fun e w' => ∃ v, e = .returned (.tuple #[v, .int .i64 0]) ∧ Wb w' v (s.has i) ∧ Below w.heap.size w w' ∧ ∀ k, v.ownBlock = some k → w.heap.size ≤ k := by
  obtain ⟨lb, vb, lc, g, h⟩ := h
  have hf : (decide (0 ≤ (i : Int)) && decide ((i : Int) < (s.L.length : Int))) = true := by
    rw [Bool.and_eq_true, decide_eq_true_eq, decide_eq_true_eq]; omega
  have H := isThere_any i w h
  rw [hf] at H
  have H := hideP H
  have c0 := h.c0
  have c1 := h.c1
  obtain ⟨hv74, hi74⟩ := zero_of_info info_sec2
  have LD : Hid (w.rangeAt lb (i * 256) (bcs (s.L.getD i []))) := h.lies.load hi
  have LL := h.lies.1.get hi
  have HS : Hid (s.has i = (s.V i).getLastD (s.L.getD i [])) := rfl
  have HD : Hid (DkAt S w d s lb vb lc g) := h
  have n2 := h.n2
  obtain ⟨n, hn⟩ : ∃ n, s.L.length = n := ⟨_, rfl⟩
  have HN : Hid (s.L.length = n) := hn
  rw [hn] at hi c0 n2
  obtain ⟨x, hx⟩ : ∃ x, s.L.getD i [] = x := ⟨_, rfl⟩
  rw [hx] at LD LL HS
  obtain ⟨hx1, hx2⟩ := LL
  have HX1 : Hid (x.length = 256) := hx1
  have hsz : Hid ((bcs x).toArray.size = 256) := by show _ = _; rw [List.size_toArray, bcs_len, hx1]
  have HI : Hid ((Try.prog.info? 83).map (·.size) = some 256) := hi74
  obtain ⟨W, hW⟩ : ∃ W, w.alloc (.cells (bcs x).toArray 83) = W := ⟨_, rfl⟩
  have HB : Hid (Below w.heap.size w W) := by rw [← hW]; exact (Below.refl _ _).alloc (Nat.le_refl _) _
  have HDW : Hid (DkAt S W d s lb vb lc g) := h.tch (R := fun _ => False) (Tch.of_below HB.out) (fun _ _ e => e)
  have c1 := HDW.out.c1
  have LKW := HDW.out.map.look (by rw [hn]; exact hi) (by rw [hn]; exact n2)
  have HWB : Hid (Wb W (.slice (some ⟨w.heap.size, 0, none⟩) 256 256) x) := by
    have := wb_new w x 83 (by unfold maxLen; omega)
    rw [hW, hx1] at this
    exact this
  have HQ : Hid (W.heap[w.heap.size]? = some (.cells (bcs x).toArray 83 (0, 0))) := by show _ = _; rw [← hW]; exact heap_alloc_new w _
  have HW : Hid (w.alloc (.cells (bcs x).toArray 83) = W) := hW
  clear h hf hx hx1 hx2 hn hi74 hW
  have hi0 : (i : Int) < (n : Int) := by omega
  obtain ⟨Z, hZ⟩ : ∃ Z, Hid ((bcs zz).toArray = Z) := ⟨_, rfl⟩
  have HZ : Hid (Z.size = 256) := by show _ = _; rw [← hZ.out, List.size_toArray, bcs_len, zz_len]
  rw [hZ.out] at hv74
  have HSL := slice_sec
  obtain ⟨q, hq⟩ : ∃ q, w.heap.size = q := ⟨_, rfl⟩
  have HQE : Hid (w.heap.size = q) := hq
  clear hq
  cases hg : g i with
  | none =>
    have HV : Hid (s.V i = []) := HDW.out.no i hg
    rw [show gv g i = .slice none 0 0 by simp [gv, hg]] at LKW
    clear hg
    go_enter Try.func54, Try.ntmps54
    go_wp2_with fail
    refine H.out.mono ?_
    rintro e w ⟨rfl, rfl⟩
    clear H
    go_wp2_with (first
      | (with_reducible (show wpList _ _ _ (Oper.mk _ (Op.load _ _) _ _ _ _ :: _) _ _); refine wpList_load_mid rfl 83 (.tmp 17) rfl lb (i * 256) rfl _ _ LD.out Try.underlying83 rfl (by rw [HI.out, bcs_len, HX1.out]) ?_)
      | (with_reducible (show wpList _ _ _ (Oper.mk _ (Op.store _ _ _) _ _ _ _ :: _) _ _); refine wpList_store_newD _ rfl 83 (.tmp 6) (.tmp 18) rfl Z (bcs x).toArray rfl rfl (by rw [HI.out, hsz.out]) (by rw [HZ.out, hsz.out]) (bcs_all x) ?_; rw [HW.out]))
    go_ret2
    refine ⟨_, rfl, ?_, HB.out, fun k hk => by cases hk; exact Nat.le_refl _⟩
    rw [HS.out, HV.out]
    exact HWB.out
  | some v =>
    obtain ⟨_, hv2, hv3, _⟩ := HDW.out.yes i v hg
    obtain ⟨b, cap, rfl, _, _, _, _, hk0⟩ := HDW.out.own hg
    rw [show gv g i = .slice (some ⟨b, 0, none⟩) (s.V i).length cap by simp [gv, hg]] at LKW
    have LV : Hid (W.rangeAt b (((s.V i).length - 1) * 256) (bcs ((s.V i).getD ((s.V i).length - 1) []))) := hv3.load (by omega)
    have LY := hv3.1.get (i := (s.V i).length - 1) (by omega)
    have HY : Hid ((s.V i).getLastD x = (s.V i).getD ((s.V i).length - 1) []) := by
      show _ = _
      rw [List.getLastD_eq_getLast?, List.getLast?_eq_getElem?, List.getD_eq_getElem?_getD, List.getElem?_eq_getElem (by omega)]
      rfl
    obtain ⟨y, hy⟩ : ∃ y, (s.V i).getD ((s.V i).length - 1) [] = y := ⟨_, rfl⟩
    rw [hy] at LV LY HY
    obtain ⟨hy1, _⟩ := LY
    have HY1 : Hid (y.length = 256) := hy1
    have hszy : Hid ((bcs y).toArray.size = 256) := by show _ = _; rw [List.size_toArray, bcs_len, hy1]
    have hcap : (s.V i).length ≤ cap ∧ cap ≤ maxLen := by obtain ⟨_, _, _, h1, h2, _⟩ := hv3.blk; exact ⟨h1, h2⟩
    obtain ⟨k, hk⟩ : ∃ k, (s.V i).length = k + 1 := ⟨(s.V i).length - 1, by omega⟩
    rw [hk] at LKW LV hcap
    rw [Nat.add_sub_cancel] at LV
    have hc1 : (k : Int) + 1 ≤ 9223372036854775807 := by have := hcap.1; have := hcap.2; unfold maxLen at this; omega
    have hkk : ((k + 1 : Nat) : Int) = (k : Int) + 1 := by omega
    have TH : Hid (W.there q 0 256) := fun j hj => by
      rw [Nat.zero_add, ← HQE.out]
      refine ⟨?_, frozen_of_row W _ j _ _ HQ.out⟩
      rw [cell_of_row W _ j _ _ (0, 0) HQ.out]
      simp [hj, hsz.out, bcs_len, HX1.out]
    clear hg hv2 hv3 hk0 hy hy1 hcap hk
    go_enter Try.func54, Try.ntmps54
    go_wp2_with fail
    refine H.out.mono ?_
    rintro e w ⟨rfl, rfl⟩
    clear H
    go_wp2_with (first
      | (with_reducible (show wpList _ _ _ (Oper.mk _ (Op.load _ _) _ _ _ _ :: _) _ _); refine wpList_load_mid rfl 83 (.tmp 17) rfl lb (i * 256) rfl _ _ LD.out Try.underlying83 rfl (by rw [HI.out, bcs_len, HX1.out]) ?_)
      | (with_reducible (show wpList _ _ _ (Oper.mk _ (Op.store _ _ _) _ _ _ _ :: _) _ _); refine wpList_store_newD _ rfl 83 (.tmp 6) (.tmp 18) rfl Z (bcs x).toArray rfl rfl (by rw [HI.out, hsz.out]) (by rw [HZ.out, hsz.out]) (bcs_all x) ?_; rw [HW.out])
      | (with_reducible (show wpList _ _ _ (Oper.mk _ (Op.load _ _) _ _ _ _ :: _) _ _); refine wpList_load_mid rfl 83 (.tmp 32) rfl b (k * 256) rfl _ _ LV.out Try.underlying83 rfl (by rw [HI.out, bcs_len, HY1.out]) ?_)
      | (with_reducible (show wpList _ _ _ (Oper.mk _ (Op.store _ _ _) _ _ _ _ :: _) _ _); rw [HQE.out]; refine wpList_store_mid rfl 83 (.tmp 6) (.tmp 33) rfl q 0 (bcs y).toArray rfl rfl (by rw [hszy.out]; exact TH.out) (by rw [HI.out, hszy.out]) (bcs_all y) ?_))
    go_ret2
    refine ⟨_, rfl, ?_, HB.out.trans ((setCells_tchD q (bcs y) 0 W).below HB.out.size (fun k e => by rw [e, ← HQE.out]; exact Nat.le_refl _)), fun k hk => by cases hk; exact Nat.le_of_eq HQE.out⟩
    have HQ2 := HQ.out
    rw [HQE.out] at HQ2
    have h1 := heap_setCells_same (bcs y) 0 W _ HQ2 (by rw [hsz.out, bcs_len, HY1.out]; decide)
    refine ⟨q, 256, _, _, ?_, ?_, by unfold maxLen; omega, h1, ?_⟩
    · rw [HS.out, HY.out, HY1.out]; rfl
    · rw [HS.out, HY.out, HY1.out]; exact Nat.le_refl _
    · rw [HS.out, HY.out, HY1.out]
      simp [bcs_len, HY1.out, HX1.out]
end Go.Proofs.Ytaacidgihhcpkaa
