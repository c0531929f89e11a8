/-
  A bit rots: the document's, walked.
-/
import Derived.Test.YtmohbkhdloggeaaRRot
namespace Go.Proofs.Ytmohbkhdloggeaa
open Go.RowKit Go.Maps
set_option linter.unusedVariables false
set_option linter.unusedSimpArgs false
set_option maxRecDepth 100000

set_option maxHeartbeats 2000000 in
theorem refRot_ok {R : Nat → Prop} {r : Nat} {s : DS} (b : Nat) (w : World) (h : Rf R w r s) (hb : b < 2048 * s.L.length) (hV : ∀ i, (s.V i).length < 274877906944) :
    Calls Try.prog 32 #[dp r, .int .i64 (b : Int)] w fun e w' => e = .returned (.int .i64 0) ∧ RfTo R w w' r (s.rot b) := by
  obtain ⟨lb, cp, A, B, x, W, h⟩ := h
  obtain ⟨i, hi⟩ : ∃ i, b / 2048 = i := ⟨_, rfl⟩
  obtain ⟨t, ht⟩ : ∃ t, b % 2048 = t := ⟨_, rfl⟩
  have HI : Hid (i < s.L.length) := by show _ < _; omega
  have HTL : Hid (t < 2048) := by show _ < _; omega
  have HROT : Hid (s.rot b = { s with L := s.L.set i (trn t (s.L.getD i [])), V := vput s.V i ((s.V i).map (trn t)) }) := by show _ = _; unfold DS.rot; rw [hi, ht]
  have HX : Hid (RfAt R w r s lb cp A B x W) := h
  have c0 := h.c0
  have ca := h.ca HI.out
  have cb := h.cb HI.out
  have n2 := h.n2
  obtain ⟨n, hn⟩ : ∃ n, s.L.length = n := ⟨_, rfl⟩
  have HN : Hid (s.L.length = n) := hn
  rw [hn] at c0 n2 hb
  have hb0 : ¬ (b : Int) < 0 := by omega
  have hb1 : ¬ (b : Int) ≥ 2048 * (n : Int) := by omega
  have hbb : (b : Int) < 8388608 := by omega
  have hdiv : (b : Int).tdiv 2048 = (i : Int) := by rw [← hi]; rfl
  have hmod : (b : Int).tmod 2048 = (t : Int) := by rw [← ht]; rfl
  have hi0 : (0 : Int) ≤ (i : Int) := by omega
  have hin : (i : Int) < (n : Int) := by rw [← hn]; have := HI.out; omega
  have hi63 : (i : Int) ≤ 4096 := by omega
  have ht63 : (t : Int) ≤ 2048 := by have := HTL.out; omega
  have ht0 : (0 : Int) ≤ (t : Int) := by omega
  have hL := h.la i HI.out
  have hY := h.okL.get HI.out
  obtain ⟨ag, acap, hA⟩ := hL.sh hY.1
  have HA : Hid (Owns .u8 5 w (.slice (some ⟨ag, 0, none⟩) 256 acap) (s.L.getD i [])) := by rw [← hA]; exact hL
  have HY : Hid ((s.L.getD i []).length = 256 ∧ By (s.L.getD i [])) := hY
  obtain ⟨q, hq⟩ : ∃ q, (s.V i).length = q := ⟨_, rfl⟩
  have HQ : Hid ((s.V i).length = q) := hq
  have hqM : q < 274877906944 := by rw [← hq]; exact hV i
  have HB : ∃ a vcap, B i = .slice a q vcap ∧ Hid (∀ k, k < q → ∃ g u, a = some ⟨g, 0, none⟩ ∧ w.cell? ⟨g, k, none⟩ = some u ∧ Owns .u8 5 w u ((s.V i).getD k []) ∧ ((s.V i).getD k []).length = 256 ∧ By ((s.V i).getD k [])) := by
    rcases h.bsh HI.out with ⟨e, e2⟩ | ⟨g, vcap, e, hc1, hc2, hwl, hwc⟩
    · refine ⟨none, 0, ?_, fun k hk => ?_⟩
      · rw [e, ← hq, e2]; rfl
      · rw [← hq, e2] at hk; simp at hk
    · refine ⟨_, vcap, by rw [e, hq], fun k hk => ?_⟩
      obtain ⟨u, hu⟩ : ∃ u, (W i)[k]? = some u := ⟨_, List.getElem?_eq_getElem (by omega)⟩
      obtain ⟨h1, h2⟩ := (h.okV i).get (i := k) (by omega)
      exact ⟨g, u, rfl, hwc _ _ hu, h.lw i k u HI.out hu, h1, h2⟩
  obtain ⟨va, vcap, hB, HBC⟩ := HB
  rw [hA] at ca
  rw [hB] at cb
  obtain ⟨nb, hnb⟩ : ∃ nb, w.heap.size = nb := ⟨_, rfl⟩
  obtain ⟨W1, hW1⟩ : ∃ W1, w.alloc (.cells #[.slice (some ⟨ag, 0, none⟩) 256 acap, .slice va q vcap] 67) = W1 := ⟨_, rfl⟩
  have B1 : Hid (Below w.heap.size w W1) := by rw [← hW1]; exact (Below.refl _ _).alloc (Nat.le_refl _) _
  have H1 : Hid (W1.heap[nb]? = some (.cells #[.slice (some ⟨ag, 0, none⟩) 256 acap, .slice va q vcap] 67 (0, 0))) := by rw [← hW1, ← hnb]; exact heap_alloc_new w _
  have HNB : Hid (w.heap.size = nb) := hnb
  have HW1 : Hid (w.alloc (.cells #[.slice (some ⟨ag, 0, none⟩) 256 acap, .slice va q vcap] 67) = W1) := hW1
  have HC1 := hideP (refTurned_any t _ _ W1 (HA.out.below B1.out).rd HY.out.1 HY.out.2 HTL.out)
  clear h hi ht hn hL hY hA hq hV hB hnb hW1 hb
  go_enter Try.func32, Try.ntmps32
  go_wp2_with fail
  rw [HW1.out, HNB.out]
  refine HC1.out.mono ?_
  clear HC1 HW1
  rintro e w2 ⟨v1, rfl, ho2, hb2, hf2⟩
  obtain ⟨y, hy⟩ : ∃ y, trn t (s.L.getD i []) = y := ⟨_, rfl⟩
  have HYE : Hid (trn t (s.L.getD i []) = y) := hy
  rw [hy] at ho2
  obtain ⟨g1, cap1, rfl⟩ := ho2.sh (by rw [← hy]; exact (trn_ok HTL.out HY.out.1 HY.out.2).1)
  have H2 : w2.heap[nb]? = some (.cells #[.slice (some ⟨ag, 0, none⟩) 256 acap, .slice va q vcap] 67 (0, 0)) := by rw [hb2.block nb (Array.getElem?_eq_some_iff.1 H1.out).1]; exact H1.out
  have m0 := cell_of_row w2 nb 0 _ _ (0, 0) H2
  have z0 := frozen_of_row w2 nb 0 _ _ H2
  have I0 : Hid (RotI w (w2.setCell ⟨nb, 0, none⟩ (.slice (some ⟨g1, 0, none⟩) 256 cap1)) nb (.slice (some ⟨g1, 0, none⟩) 256 cap1) y (.slice va q vcap) (.slice none 0 0) [] (((s.V i).take 0).map (trn t))) := by
    have hBW : Below w.heap.size w w2 := B1.out.trans (hb2.mono B1.out.size)
    have hgn : g1 ≠ nb := by
      obtain ⟨C, hC⟩ := owns_block ho2 rfl
      exact block_ne hC H2 (by decide)
    exact {
      be := hBW.trans ((tch_set w2 nb 0 _).below hBW.size (fun k e => by rw [e, HNB.out]; exact Nat.le_refl _))
      box := heap_setCell_same w2 nb 0 _ _ _ H2
      nbn := by rw [HNB.out]; exact Nat.le_refl _
      o1 := ho2.tch (tch_set w2 nb 0 _) (fun k hk e => by cases hk; exact hgn e)
      f1 := fun k hk => Nat.le_trans B1.out.size (hf2 k hk)
      row := World.ownsRow_nil _ _ _ _
      ows := fun j v hj => by simp at hj
      fl := fun k hk => by cases hk
      fw := fun j v k hj => by simp at hj }
  clear ho2 hb2 hf2 hy H2 H1 B1
  go_wp2_with fail
  clear m0 z0
  go_loopw [6, 7] (fun lv iv wr => ∃ (k : Nat) (Ws : List Value), k ≤ q ∧ iv = .int .i64 k ∧ Hid (RotI w wr nb (.slice (some ⟨g1, 0, none⟩) 256 cap1) y (.slice va q vcap) lv Ws (((s.V i).take k).map (trn t)))) (fun _ iv _ => q - (intOf iv).toNat)
  case atStart => exact ⟨0, [], Nat.zero_le _, rfl, I0⟩
  case round =>
    obtain ⟨k, Ws, hk, rfl, I⟩ := hrel
    have m1 := I.out.c1
    by_cases hkq : k < q
    · have hki : (k : Int) < (q : Int) := by omega
      have hk0 : (0 : Int) ≤ (k : Int) := by omega
      obtain ⟨g, u, rfl, hcu, hou, hul, hub⟩ := HBC.out k hkq
      have hcu2 : wr.cell? ⟨g, k, none⟩ = some u := by rw [I.out.be.cell (p := ⟨g, k, none⟩) (World.block_lt_of_cell? w ⟨g, k, none⟩ hcu)]; exact hcu
      obtain ⟨ug, ucap, rfl⟩ := hou.sh hul
      have HC := hideP (refTurned_any t _ _ wr (hou.below I.out.be).rd hul hub HTL.out)
      have HSV : Hid (((s.V i).take (k + 1)).map (trn t) = ((s.V i).take k).map (trn t) ++ [trn t ((s.V i).getD k [])]) := by
        show _ = _
        rw [List.take_add_one, List.map_append, List.getD_eq_getElem?_getD, List.getElem?_eq_getElem (by rw [HQ.out]; exact hkq)]
        rfl
      have HLE : Hid (Ws.length + 1 ≤ 2000000000000) := by
        have := I.out.wl
        rw [List.length_map, List.length_take] at this
        show _ ≤ _
        omega
      have HY3 : Hid ((trn t ((s.V i).getD k [])).length = 256) := (trn_ok HTL.out hul hub).1
      clear hcu hou hul hub
      go_wp2_with fail
      refine HC.out.mono ?_
      clear HC
      rintro e w3 ⟨v3, rfl, ho3, hb3, hf3⟩
      have O3 : Hid (Owns .u8 5 w3 v3 (trn t ((s.V i).getD k []))) := ho3
      have B3 : Hid (Below wr.heap.size wr w3) := hb3
      have F3 : Hid (∀ k, v3.ownBlock = some k → wr.heap.size ≤ k) := hf3
      obtain ⟨g3, cap3, rfl⟩ := ho3.sh HY3.out
      have R3 : Hid ((w3.alloc (.cells #[.slice (some ⟨g3, 0, none⟩) 256 cap3] 41)).ownsRow 0 41 1 u6 Ws.length Ws) := by
        have h1 := I.out.row
        rw [← I.out.wl] at h1
        exact (Tch.alloc (Tch.of_below (S := fun _ => False) hb3) _).owns h1 (fun _ _ e => e)
      have HCV : Hid ((w3.alloc (.cells #[.slice (some ⟨g3, 0, none⟩) 256 cap3] 41)).cell? ⟨w3.heap.size, 0, none⟩ = some (.slice (some ⟨g3, 0, none⟩) 256 cap3)) := cell_of_row _ _ 0 _ _ (0, 0) (heap_alloc_new w3 _)
      clear ho3 hb3 hf3
      go_wp2_with (at_builtin; refine Hid.out ?_)
      refine hideP ?_
      refine wpList_appV _ rfl (.tmp 41) (.tmp 50) rfl u6 Ws rfl R3.out w3.heap.size (.slice (some ⟨g3, 0, none⟩) 256 cap3) rfl ⟨_, _, _, rfl⟩ HCV.out HLE.out ?_
      intro v5 w5 hr5 hg5 hf5
      have I5 : Hid (RotI w w5 nb (.slice (some ⟨g1, 0, none⟩) 256 cap1) y (.slice (some ⟨g, 0, none⟩) q vcap) v5 (Ws ++ [.slice (some ⟨g3, 0, none⟩) 256 cap3]) (((s.V i).take (k + 1)).map (trn t))) := by
        rw [HSV.out]
        exact I.out.step O3.out B3.out F3.out hr5 hg5 hf5
      clear hr5 hg5 hf5 R3 HCV O3 B3 F3 I
      go_wp2_with fail
      go_roundw
      case rel => exact ⟨k + 1, _, by omega, by go_num, I5⟩
      case measure => simp [intOf]; omega
    · have hki : ¬ (k : Int) < (q : Int) := by omega
      have HK : Hid ((s.V i).take k = s.V i) := by show _ = _; rw [List.take_of_length_le (by rw [HQ.out]; omega)]
      rw [HK.out] at I
      have z1 := frozen_of_row wr nb 1 _ _ I.out.box
      have m0 := I.out.c0
      have HLB : Hid (lb < w.heap.size ∧ r < w.heap.size) := ⟨HX.out.rlt _ HX.out.rl, HX.out.lt⟩
      obtain ⟨la, ln, lc, rfl⟩ : IsSl u6 := by
        rcases I.out.row.2 with ⟨e, _⟩ | ⟨g, cap, cur, e, _⟩
        · exact ⟨_, _, _, e⟩
        · exact ⟨_, _, _, e⟩
      clear hkq HBC
      have m0c := m0
      obtain ⟨W7, hW7⟩ : ∃ W7, wr.setCell ⟨nb, 1, none⟩ (.slice la ln lc) = W7 := ⟨_, rfl⟩
      have H7 : W7.heap[nb]? = some (.cells #[.slice (some ⟨g1, 0, none⟩) 256 cap1, .slice la ln lc] 67 (0, 0)) := by rw [← hW7]; exact heap_setCell_same wr nb 1 _ _ _ I.out.box
      have n0 := cell_of_row W7 nb 0 _ _ (0, 0) H7
      have n1 := cell_of_row W7 nb 1 _ _ (0, 0) H7
      have X7 : Hid (RfAt R W7 r s lb cp A B x W) := by
        rw [← hW7]
        exact (HX.out.tch (S := fun _ => False) (Tch.of_below I.out.be) (fun _ _ e => e)).tch (tch_set wr nb 1 _) (fun k hk e => by have := HX.out.rlt k hk; have := HNB.out; omega)
      have T7 : Hid (Tch (fun k => nb = k ∨ k = lb) wr ((W7.setCell ⟨lb, i * 2, none⟩ (.slice (some ⟨g1, 0, none⟩) 256 cap1)).setCell ⟨lb, i * 2 + 1, none⟩ (.slice la ln lc)).drew) := by
        rw [← hW7]
        exact (((tch_set wr nb 1 (.slice la ln lc)).mono (S' := fun k => nb = k ∨ k = lb) (fun k _ e => .inl e.symm)).trans ((tch_set _ lb (i * 2) _).trans (tch_set _ lb (i * 2 + 1) _) (fun _ _ e => e)) (fun k _ e => .inr e)).drew
      have c07 := X7.out.c0
      rw [HN.out] at c07
      have ca7 := X7.out.ca HI.out
      have cb7 := X7.out.cb HI.out
      have fa7 := X7.out.fl (i * 2)
      have fb7 := X7.out.fl (i * 2 + 1)
      have FIN : Hid (RfTo R w ((W7.setCell ⟨lb, i * 2, none⟩ (.slice (some ⟨g1, 0, none⟩) 256 cap1)).setCell ⟨lb, i * 2 + 1, none⟩ (.slice la ln lc)).drew r (s.rot b)) := by
        rw [HROT.out]
        rw [← HYE.out] at I
        refine RotI.fin HX.out HI.out HTL.out I.out T7.out ?_
        exact (Tch.drew (Tch.refl (fun _ => False) _)).owns (row_set1 (row_set0 X7.out.row HI.out _) HI.out _) (fun _ _ e => e)
      have HW7 : Hid (wr.setCell ⟨nb, 1, none⟩ (.slice la ln lc) = W7) := hW7
      clear hW7 H7 T7
      go_wp2_with fail
      rw [HW7.out]
      clear HW7 m0 m1 z1 m0c c0 ca cb
      have hiw : IntKind.i64.wrap (i : Int) = (i : Int) := by rw [IntKind.wrap_i64]; omega
      go_still_tail 8, (by kernel_rfl)
      go_wp2_with fail
      go_ret
      exact ⟨rfl, FIN.out⟩
end Go.Proofs.Ytmohbkhdloggeaa
