/-
  AllocLate: what is given back is not taken too soon, nothing twice.
-/
import Derived.Test.YtamgogkkcbeaaaaALaw
namespace Go.Proofs.Ytamgogkkcbeaaaa
open Go.RowKit Ah
set_option linter.unusedVariables false
set_option maxRecDepth 100000

/-- A variable of forty truths. -/
structure Wv (w : World) (q : Nat) (bs : List Bool) : Prop where
  blk : w.heap[q]? = some (.cells (bs.map Value.bool).toArray 46 (0, 0))
  len : bs.length = 40
theorem Wv.cell {w : World} {q : Nat} {bs : List Bool} (h : Wv w q bs) {i : Nat} (hi : i < 40) : w.cell? ⟨q, i, none⟩ = some (.bool (bs.getD i false)) := by
  rw [cell_of_row w q i _ _ (0, 0) h.blk]
  simp [List.getD_eq_getElem?_getD, show i < bs.length by rw [h.len]; exact hi]
theorem Wv.fz {w : World} {q : Nat} {bs : List Bool} (h : Wv w q bs) (i : Nat) : w.frozen? ⟨q, i, none⟩ = false := frozen_of_row w q i _ _ h.blk
theorem Wv.set {w : World} {q : Nat} {bs : List Bool} (h : Wv w q bs) (i : Nat) (b : Bool) : Wv (w.setCell ⟨q, i, none⟩ (.bool b)) q (bs.set i b) := by
  refine ⟨?_, by rw [List.length_set]; exact h.len⟩
  rw [heap_setCell_same w q i _ _ _ h.blk]
  simp [List.map_set]
theorem Wv.lt {w : World} {q : Nat} {bs : List Bool} (h : Wv w q bs) : q < w.heap.size := (Array.getElem?_eq_some_iff.1 h.blk).1

/-- What lies beside them is turned. -/
theorem Bz.mine {w0 wz w w' : World} {q M R : Nat} {s t : St} (H : Bz w0 wz w (fun k => k = q) M R s t) (hq : w0.heap.size ≤ q) (hs : q < w'.heap.size) (ht : Tch (fun k => k = q) w w') : Bz w0 w' w' (fun k => k = q) M R s t := by
  obtain ⟨X, Y, hp, hr, hxy, hx0, hy0, hb0, hz, hZ⟩ := H
  obtain ⟨_, _, h3, h4⟩ := hZ q rfl
  refine ⟨X, Y, hp.tch ht (fun k hk e => h3 (by rw [← e]; exact hk)), hr.tch ht (fun k hk e => h4 (by rw [← e]; exact hk)), hxy, hx0, hy0, hb0.trans (ht.below hb0.size (fun k e => by rw [e]; exact hq)), Nat.le_refl _, fun k hk => ?_⟩
  rw [hk]
  exact ⟨hs, rfl, h3, h4⟩
/-- As they are now. -/
theorem Bz.now {w0 wz w : World} {q M R : Nat} {s t : St} (H : Bz w0 wz w (fun k => k = q) M R s t) : Bz w0 w w (fun k => k = q) M R s t := by
  obtain ⟨X, Y, hp, hr, hxy, hx0, hy0, hb0, hz, hZ⟩ := H
  refine ⟨X, Y, hp, hr, hxy, hx0, hy0, hb0, Nat.le_refl _, fun k hk => ?_⟩
  obtain ⟨h1, _, h3, h4⟩ := hZ k hk
  exact ⟨by omega, rfl, h3, h4⟩
theorem Wv.keep {w0 w w' : World} {q M R : Nat} {s t : St} {bs : List Bool} (h : Wv w q bs) (H : Bz w0 w w' (fun k => k = q) M R s t) : Wv w' q bs := ⟨by rw [H.keep (k := q) rfl]; exact h.blk, h.len⟩

theorem as_world {P : World → Prop} {a b : World} (h : a = b) (k : P b) : P a := h ▸ k

namespace Ah
/-- What a Take leaves, where some are free. -/
theorem take_more {s : St} (h : Thirty s) (ha : s.as = 0) (hc : s.L.count 0 ≠ 0) : ∃ p : Nat, 10 ≤ p ∧ p < 40 ∧ stv s p = 0 ∧ (take s).1 = p ∧ (take s).2.1 = true ∧ Thirty (take s).2.2 ∧ (take s).2.2.as = 0 ∧ (take s).2.2.L.count 0 + 1 = s.L.count 0 ∧ (take s).2.2.L.count 2 = s.L.count 2 ∧ ∀ k : Int, stv (take s).2.2 k = if k = p then 1 else stv s k := by
  obtain ⟨g1, g2, g3⟩ := first0 hc
  have hl := h.2
  have e : take s = (((s.lo + s.L.idxOf 0 : Nat) : Int), true, ⟨s.lo, s.L.set (s.L.idxOf 0) 1, s.as - 1⟩) := by unfold take; rw [if_neg hc]
  have et := take_eqn s
  have q0 := cnt_set s.L _ g1 0 1
  have q2 := cnt_set s.L _ g1 2 1
  rw [if_pos g2, if_neg (by omega)] at q0
  rw [if_neg (by omega), if_neg (by omega)] at q2
  refine ⟨s.lo + s.L.idxOf 0, by rw [h.1]; omega, by rw [h.1]; omega, by rw [stv_in g1]; exact g2, by rw [e], by rw [e], h.eqn et, by rw [e]; simp only; omega, by rw [e]; simp only; omega, by rw [e]; simp only; omega, fun k => ?_⟩
  have := stv_put (s := s) g1 1 k
  rw [e]
  exact this
end Ah

set_option maxHeartbeats 4000000 in
theorem allocLate_walk (a : Option Addr) (n cap : Nat) (xs : List (Int × Int)) (w : World) (hr : RdA w (.slice a n cap) xs) :
    Calls Try.prog 5 #[.slice a n cap] w fun e w' => e = .returned (.bool true) ∧ Below w.heap.size w w' := by
  obtain ⟨_, _, he, hlc, hcm, _⟩ := id hr
  have hnl : n = xs.length := by cases he; rfl
  have HNL : Hid (n = xs.length) := hnl
  have hn63 : n ≤ 9223372036854775807 := by cases he; unfold maxLen at hcm; omega
  have hcap : n ≤ cap := by cases he; exact hlc
  have hcap63 : cap ≤ 9223372036854775807 := by cases he; unfold maxLen at hcm; omega
  have HR : Hid (RdA w (.slice a n cap) xs) := hr
  clear hr he hlc hcm hnl
  go_enter Try.func5, Try.ntmps5
  go_wp2_with fail
  refine (new_at 10 40 10 40 rfl rfl (by decide) (by decide) w).mono ?_
  rintro e w1 ⟨M, rfl, hp1, hb1⟩
  have HP1 : Hid (Pm w1 M (new 10 40) (fun k => w.heap.size ≤ k ∧ k < w1.heap.size)) := hp1
  have HB1 : Hid (Below w.heap.size w w1) := hb1
  clear hp1 hb1
  go_wp2_with fail
  refine (rnew_at 10 40 10 40 rfl rfl (by decide) (by decide) w1).mono ?_
  rintro e w2 ⟨R, rfl, hr2, hb2⟩
  have B2 : Hid (Bz w w w2 (fun _ => False) M R (new 10 40) (new 10 40)) := Bz.start HP1.out HB1.out hr2 hb2
  clear hr2 hb2 HP1 HB1
  go_wp2_with fail
  go_loopw [7] (fun i wr => ∃ (k : Nat) (s : St), k ≤ n ∧ i = .int .i64 k ∧ Hid (Thirty s) ∧ Hid (Bz w w wr (fun _ => False) M R s s)) (fun i _ => n - (intOf i).toNat)
  case atStart => exact ⟨0, new 10 40, Nat.zero_le _, rfl, thirty_new, B2⟩
  case round =>
    obtain ⟨k, s, hk, rfl, HT, B⟩ := hrel
    clear B2
    by_cases hlt : k < n
    · obtain ⟨x, hx⟩ : ∃ x, xs[k]? = some x := ⟨xs[k]'(by have := HNL.out; omega), List.getElem?_eq_getElem _⟩
      obtain ⟨b, o, rfl, c0, c1, wk, wn⟩ := HR.out.at_ B.out.below0 hx
      obtain ⟨kd, nn⟩ := x
      have HWK : Hid ((Lit.int .i64 kd).wf = true) := wk
      have HWN : Hid ((Lit.int .i64 nn).wf = true) := wn
      simp only at c0 c1
      clear wk wn hx
      go_wp2_with fail
      refine (does_any w wr M R s kd nn HWK.out HWN.out B.out).mono ?_
      rintro e w3 ⟨rfl, hb3⟩
      have B3 : Hid (Bz w w w3 (fun _ => False) M R (stp (pk kd 7) nn s) (stp (pk kd 7) nn s)) := hb3
      have HT3 : Hid (Thirty (stp (pk kd 7) nn s)) := HT.out.eqn (stp_eqn _ _ _)
      clear hb3 B c0 c1 HT
      go_wp2_with fail
      go_roundw
      case rel => exact ⟨k + 1, _, by omega, by first | rfl | go_num, HT3, B3⟩
      case measure => simp [intOf]; omega
    · have hd : decide (k < n) = false := by simp; omega
      go_wp2_with fail
      refine (releaseB B.out).mono ?_
      rintro e w3 ⟨rfl, hb3⟩
      have B3 : Hid (Bz w w w3 (fun _ => False) M R (rls s) s) := hb3
      have HT3 : Hid (Thirty (rls s)) := HT.out
      clear hb3 B HT
      obtain ⟨q, hq⟩ : ∃ q, Hid (w3.heap.size = q) := ⟨_, rfl⟩
      obtain ⟨W4, hW4⟩ : ∃ W4, w3.alloc (.cells ((List.replicate 40 false).map Value.bool).toArray 46) = W4 := ⟨_, rfl⟩
      have V4 : Hid (Wv W4 q (List.replicate 40 false)) := by
        rw [← hW4, ← hq.out]
        exact ⟨heap_alloc_new w3 _, by simp⟩
      have B4 : Hid (Bz w W4 W4 (fun k => k = q) M R (rls s) s) := B3.out.enter (by rw [← hW4]; exact (Below.refl _ _).alloc (Nat.le_refl _) _) _ (fun k e => by rw [e]; exact ⟨by rw [hq.out]; exact Nat.le_refl _, V4.out.lt⟩)
      have hqw : Hid (w.heap.size ≤ q) := by rw [← hq.out]; exact B3.out.below0.size
      have HW4 : Hid (w3.alloc (.cells ((List.replicate 40 false).map Value.bool).toArray 46) = W4) := hW4
      clear hW4 B3
      go_wp2_with fail
      refine as_world HW4.out ?_
      clear HW4
      rw [hq.out]
      obtain ⟨wo, rfl⟩ : ∃ wo, wo = W4 := ⟨_, rfl⟩
      go_loopw [9] (fun i wx => ∃ (t : Nat) (bs : List Bool), 10 ≤ t ∧ t ≤ 40 ∧ i = .int .i64 t ∧ Hid (Wv wx q bs) ∧ Hid (∀ k : Nat, 10 ≤ k → k < t → bs.getD k false = decide (0 < stv (rls s) (k : Int))) ∧ Hid (Bz w wx wx (fun k => k = q) M R (rls s) s)) (fun i _ => 40 - (intOf i).toNat)
      case atStart => exact ⟨10, _, Nat.le_refl _, by omega, rfl, V4, (fun k h1 h2 => by omega), B4⟩
      case round =>
        obtain ⟨t, bs, ht1, ht2, rfl, V, HS, B⟩ := hrel
        clear B4 V4
        by_cases htl : t < 40
        · obtain ⟨b, hb⟩ : ∃ b, Hid (decide (0 < stv (rls s) (t : Int)) = b) := ⟨_, rfl⟩
          go_wp2_with fail
          refine (takenB (t : Int) B.out).mono ?_
          rintro e w4 ⟨rfl, hb4⟩
          rw [hb.out]
          have V5 : Hid (Wv w4 q bs) := V.out.keep hb4
          have B5 : Hid (Bz w w4 w4 (fun k => k = q) M R (rls s) s) := hb4.now
          have ct := V5.out.cell htl
          have ft := V5.out.fz t
          obtain ⟨y, hy⟩ : ∃ y, Hid (bs.getD t false = y) := ⟨_, rfl⟩
          rw [hy.out] at ct
          have T6 : Tch (fun k => k = q) w4 (w4.setCell ⟨q, t, none⟩ (.bool b)) := Tch.setCell (Tch.refl (fun k => k = q) w4) (p := ⟨q, t, none⟩) (fun _ => rfl) _
          have V6 : Hid (Wv (w4.setCell ⟨q, t, none⟩ (.bool b)) q (bs.set t b)) := V5.out.set t b
          have B6 : Hid (Bz w (w4.setCell ⟨q, t, none⟩ (.bool b)) (w4.setCell ⟨q, t, none⟩ (.bool b)) (fun k => k = q) M R (rls s) s) := B5.out.mine hqw.out V6.out.lt T6
          have HS6 : Hid (∀ k : Nat, 10 ≤ k → k < t + 1 → (bs.set t b).getD k false = decide (0 < stv (rls s) (k : Int))) := fun k h1 h2 => by
            have hbl := V.out.len
            by_cases e : k = t
            · subst e
              rw [hb.out, List.getD_eq_getElem?_getD, List.getElem?_set]
              simp [show k < bs.length by omega]
            · rw [List.getD_eq_getElem?_getD, List.getElem?_set, if_neg (fun e2 => e e2.symm), ← List.getD_eq_getElem?_getD]
              exact HS.out k h1 (by omega)
          clear hb4 B T6 B5 V5 V hb HS
          go_wp2_with fail
          go_roundw
          case rel => exact ⟨t + 1, _, by omega, by omega, by first | rfl | go_num, V6, HS6, B6⟩
          case measure => simp [intOf]; omega
        · have ht40 : Hid (t = 40) := by show _ = _; omega
          have hd4 : decide ((t : Int) < 40) = false := by simp; omega
          obtain ⟨f, hf⟩ : ∃ f : Nat, Hid (fre (rls s) = f) := ⟨s.L.count 0, fre_rls s⟩
          obtain ⟨c, hc⟩ : ∃ c : Nat, Hid ((rls s).L.count 2 = c) := ⟨_, rfl⟩
          have hf9 : f ≤ 30 := by
            have h1 := fre_rls s
            rw [hf.out] at h1
            have h2 := List.count_le_length (a := (0 : Int)) (l := s.L)
            have h3 : s.L.length = 30 := HT3.out.2
            omega
          have HC0 : Hid ((rls s).L.count 0 = f) := by
            have h1 := fre_rls s
            rw [hf.out] at h1
            show s.L.count 0 = f
            omega
          have HS40 : Hid (∀ k : Nat, 10 ≤ k → k < 40 → bs.getD k false = decide (0 < stv (rls s) (k : Int))) := by have := HS.out; rw [ht40.out] at this; exact this
          go_wp2_with fail
          refine (droppedB B.out).mono ?_
          rintro e w4 ⟨rfl, hb4⟩
          rw [hc.out]
          have V4 : Hid (Wv w4 q bs) := V.out.keep hb4
          have B4 : Hid (Bz w w4 w4 (fun k => k = q) M R (rls s) s) := hb4.now
          clear hb4 B V HS
          go_wp2_with fail
          refine (freeB B4.out).mono ?_
          rintro e w5 ⟨rfl, hb5⟩
          rw [hf.out]
          have V5 : Hid (Wv w5 q bs) := V4.out.keep hb5
          have B5 : Hid (Bz w w5 w5 (fun k => k = q) M R (rls s) s) := hb5.now
          clear hb5 B4 V4
          go_wp2_with fail
          obtain ⟨wo2, rfl⟩ : ∃ wo2, wo2 = w5 := ⟨_, rfl⟩
          go_loopw [12] (fun i wx => ∃ (j : Nat) (s' : St) (bs' : List Bool), j ≤ f ∧ i = .int .i64 j ∧ Hid (Thirty s') ∧ Hid (s'.as = 0) ∧ Hid (s'.L.count 0 + j = f) ∧ Hid (s'.L.count 2 = c) ∧ Hid (Wv wx q bs') ∧ Hid (∀ k : Nat, 10 ≤ k → k < 40 → bs'.getD k false = decide (0 < stv s' (k : Int))) ∧ Hid (Bz w wx wx (fun k => k = q) M R s' s)) (fun i _ => f - (intOf i).toNat)
          case atStart => exact ⟨0, rls s, bs, Nat.zero_le _, rfl, HT3, rfl, HC0, hc, V5, HS40, B5⟩
          case round =>
            obtain ⟨j, s6, b6, hj, rfl, HT6, HA6, HZ6, HD6, V6, HS6, B6⟩ := hrel
            clear B5 V5
            by_cases hjl : j < f
            · obtain ⟨p, hp1, hp2, hst, e1, e2, HT7, HA7, HZ7, HD7, HST⟩ := take_more HT6.out HA6.out (by have := HZ6.out; omega)
              have hbp : b6.getD p false = false := by rw [HS6.out p hp1 hp2, hst]; rfl
              have HE1 : Hid ((take s6).1 = (p : Int)) := e1
              have HE2 : Hid ((take s6).2.1 = true) := e2
              have HS7 : Hid (∀ k : Nat, 10 ≤ k → k < 40 → (b6.set p true).getD k false = decide (0 < stv (take s6).2.2 (k : Int))) := fun k h1 h2 => by
                have hbl := V6.out.len
                rw [HST]
                by_cases e : k = p
                · subst e
                  rw [if_pos rfl, List.getD_eq_getElem?_getD, List.getElem?_set]
                  simp [show k < b6.length by omega]
                · rw [if_neg (by omega), List.getD_eq_getElem?_getD, List.getElem?_set, if_neg (fun e2 => e e2.symm), ← List.getD_eq_getElem?_getD]
                  exact HS6.out k h1 h2
              have HT8 : Hid (Thirty (take s6).2.2) := HT7
              have HA8 : Hid ((take s6).2.2.as = 0) := HA7
              have HZ8 : Hid ((take s6).2.2.L.count 0 + (j + 1) = f) := by show _ = _; have := HZ6.out; omega
              have HD8 : Hid ((take s6).2.2.L.count 2 = c) := HD7.trans HD6.out
              have HBP : Hid (b6.getD p false = false) := hbp
              have HP1 : (10 : Int) ≤ (p : Int) := by omega
              have HP2 : (p : Int) < 40 := by omega
              have hd5 : decide ((p : Int) < 10) = false := by simp; omega
              have hd6 : decide ((40 : Int) ≤ (p : Int)) = false := by simp; omega
              clear hst e1 e2 HT7 HA7 HZ7 HD7 HST hbp
              go_wp2_with fail
              refine (takeB B6.out).mono ?_
              rintro e w7 ⟨rfl, hb7⟩
              rw [HE1.out, HE2.out]
              have V7 : Hid (Wv w7 q b6) := V6.out.keep hb7
              have B7 : Hid (Bz w w7 w7 (fun k => k = q) M R (take s6).2.2 s) := hb7.now
              have ct := V7.out.cell hp2
              rw [HBP.out] at ct
              have ft := V7.out.fz p
              have T8 : Tch (fun k => k = q) w7 (w7.setCell ⟨q, p, none⟩ (.bool true)) := Tch.setCell (Tch.refl (fun k => k = q) w7) (p := ⟨q, p, none⟩) (fun _ => rfl) _
              have V8 : Hid (Wv (w7.setCell ⟨q, p, none⟩ (.bool true)) q (b6.set p true)) := V7.out.set p true
              have B8 : Hid (Bz w (w7.setCell ⟨q, p, none⟩ (.bool true)) (w7.setCell ⟨q, p, none⟩ (.bool true)) (fun k => k = q) M R (take s6).2.2 s) := B7.out.mine hqw.out V8.out.lt T8
              clear hb7 T8 B7 V7 B6 V6
              go_wp2_with fail
              go_roundw
              case rel => exact ⟨j + 1, _, _, by omega, by first | rfl | go_num, HT8, HA8, HZ8, HD8, V8, HS7, B8⟩
              case measure => simp [intOf]; omega
            · have hc0 : s6.L.count 0 = 0 := by have := HZ6.out; omega
              have HTK : Hid (take s6 = (0, false, s6)) := by show _ = _; unfold take; rw [if_pos hc0]
              have HF : Hid (fre (stl s6) = c) := by
                show _ = _
                unfold fre
                have h1 := (stl_cnt s6.L).1
                have h2 := HD6.out
                have h3 : (stl s6).as = 0 := HA6.out
                have h4 : (stl s6).L.count 0 = c := by simp only [stl]; omega
                rw [h3, h4]
                omega
              have HD : Hid (((stl s6).L.count 2 : Int) = 0) := by
                show _ = _
                have h1 := (stl_cnt s6.L).2
                simp only [stl]
                omega
              have hd7 : decide (j < f) = false := by simp; omega
              have hcc : ((c : Int) == (c : Int)) = true := by simp
              clear hc0
              go_wp2_with fail
              refine (takeB B6.out).mono ?_
              rintro e w7 ⟨rfl, hb7⟩
              rw [HTK.out] at hb7 ⊢
              have B7 : Hid (Bz w wr w7 (fun k => k = q) M R s6 s) := hb7
              simp only
              clear hb7 B6 V6
              go_wp2_with fail
              refine (settleB B7.out.leave).mono ?_
              rintro e w8 ⟨rfl, hb8⟩
              have B8 : Hid (Bz w w w8 (fun _ => False) M R (stl s6) s) := hb8
              clear hb8 B7
              go_wp2_with fail
              refine (freeB B8.out).mono ?_
              rintro e w9 ⟨rfl, hb9⟩
              rw [HF.out]
              have B9 : Hid (Bz w w w9 (fun _ => False) M R (stl s6) s) := hb9
              clear hb9 B8
              go_wp2_with fail
              refine (droppedB B9.out).mono ?_
              rintro e w10 ⟨rfl, hb10⟩
              rw [HD.out]
              have B10 : Hid (Bz w w w10 (fun _ => False) M R (stl s6) s) := hb10
              clear hb10 B9
              go_wp2_with fail
              refine (lives_any _).mono ?_
              rintro e wl ⟨rfl, hbl⟩
              have HBL : Hid (Below w.heap.size w wl) := B10.out.below0.trans ⟨hbl.os, hbl.tape, hbl.output, hbl.size, fun k hk => hbl.block k (by have := (B10.out.below0).size; omega)⟩
              clear hbl
              go_wp2_with fail
              go_ret
              exact ⟨rfl, HBL.out⟩
end Go.Proofs.Ytamgogkkcbeaaaa
