/-
  AllocWhole: nothing is lost.
-/
import Derived.Test.YtamgogkkcbeaaaaALaw
namespace Go.Proofs.Ytamgogkkcbeaaaa
open Go.RowKit Ah
set_option linter.unusedVariables false
set_option maxRecDepth 100000

namespace Ah
/-- All that are taken are given back, as far as i. -/
theorem drop_past {s : St} (h : Thirty s) (ok : Sok s) {j : Nat} (hj : j < 30) (hb : ∀ i, i < j → G s.L i ≠ 1) : (∀ i, i < j + 1 → G (drop ((10 + j : Nat) : Int) s).2.L i ≠ 1) ∧ (drop ((10 + j : Nat) : Int) s).2.as = s.as := by
  have hl : j < s.L.length := by rw [h.2]; exact hj
  have e : stv s ((10 + j : Nat) : Int) = G s.L j := by
    have := stv_in (s := s) hl
    rw [h.1] at this
    exact this
  unfold drop
  split
  · rename_i hc
    refine ⟨fun i hi => ?_, rfl⟩
    by_cases e2 : i = j
    · subst e2; rw [← e]; exact hc
    · exact hb i (by omega)
  · refine ⟨fun i hi => ?_, rfl⟩
    have e3 : (((10 + j : Nat) : Int) - s.lo).toNat = j := by rw [h.1]; omega
    rw [e3]
    have : G (put s j 2).L i = if i = j then 2 else G s.L i := G_set _ _ _ _ hl
    rw [this]
    split
    · omega
    · exact hb i (by omega)
theorem all_free {s : St} (h : Thirty s) (ok : Sok s) (ha : s.as = 0) (hb : ∀ i, i < 30 → G s.L i ≠ 1) : stl s = new 10 40 := by
  have hL : (stl s).L = List.replicate 30 0 := by
    apply ext_G
    · rw [(stl_eqn s).2, h.2]; rfl
    · intro i hi
      rw [(stl_eqn s).2, h.2] at hi
      have := ok.val i (by rw [h.2]; exact hi)
      have := hb i hi
      rw [stl_get s i (by rw [h.2]; exact hi)]
      simp only [G, List.getD_eq_getElem?_getD, List.getElem?_replicate, if_pos hi] at *
      simp only [Option.getD_some]
      split <;> omega
  have e1 : (stl s).lo = 10 := h.1
  have e2 : (stl s).as = 0 := ha
  cases hs : stl s with
  | mk lo L az =>
    rw [hs] at hL e1 e2
    simp only at hL e1 e2
    subst hL e1 e2
    rfl
theorem rr_whole : rr (new 10 40).lo (new 10 40).L (new 10 40).L.length = [(10, 30)] := by decide
theorem fre_whole : fre (new 10 40) = 30 := by decide
end Ah

set_option maxHeartbeats 4000000 in
theorem allocWhole_walk (a : Option Addr) (n cap : Nat) (xs : List (Int × Int)) (w : World) (hr : RdA w (.slice a n cap) xs) :
    Calls Try.prog 7 #[.slice a n cap] w fun e w' => e = .returned (.bool true) ∧ Below w.heap.size w w' := by
  obtain ⟨_, _, he, hlc, hcm, _⟩ := id hr
  have hnl : n = xs.length := by cases he; rfl
  have HNL : Hid (n = xs.length) := hnl
  have hn63 : n ≤ 9223372036854775807 := by cases he; unfold maxLen at hcm; omega
  have hcap : n ≤ cap := by cases he; exact hlc
  have hcap63 : cap ≤ 9223372036854775807 := by cases he; unfold maxLen at hcm; omega
  have HR : Hid (RdA w (.slice a n cap) xs) := hr
  clear hr he hlc hcm hnl
  go_enter Try.func7, Try.ntmps7
  go_wp2_with fail
  refine (new_at 10 40 10 40 rfl rfl (by decide) (by decide) w).mono ?_
  rintro e w1 ⟨M, rfl, hp1, hb1⟩
  have HP1 : Hid (Pm w1 M (new 10 40) (fun k => w.heap.size ≤ k ∧ k < w1.heap.size)) := hp1
  have HB1 : Hid (Below w.heap.size w w1) := hb1
  clear hp1 hb1
  go_wp2_with fail
  refine (rnew_at 10 40 10 40 rfl rfl (by decide) (by decide) w1).mono ?_
  rintro e w2 ⟨R, rfl, hr2, hb2⟩
  have B2 : Hid (Bz w w w2 (fun _ => False) M R (new 10 40) (new 10 40)) := Bz.start HP1.out HB1.out hr2 hb2
  clear hr2 hb2 HP1 HB1
  go_wp2_with fail
  go_loopw [7] (fun i wr => ∃ (k : Nat) (s : St), k ≤ n ∧ i = .int .i64 k ∧ Hid (Thirty s) ∧ Hid (Bz w w wr (fun _ => False) M R s s)) (fun i _ => n - (intOf i).toNat)
  case atStart => exact ⟨0, new 10 40, Nat.zero_le _, rfl, thirty_new, B2⟩
  case round =>
    obtain ⟨k, s, hk, rfl, HT, B⟩ := hrel
    clear B2
    by_cases hlt : k < n
    · obtain ⟨x, hx⟩ : ∃ x, xs[k]? = some x := ⟨xs[k]'(by have := HNL.out; omega), List.getElem?_eq_getElem _⟩
      obtain ⟨b, o, rfl, c0, c1, wk, wn⟩ := HR.out.at_ B.out.below0 hx
      obtain ⟨kd, nn⟩ := x
      have HWK : Hid ((Lit.int .i64 kd).wf = true) := wk
      have HWN : Hid ((Lit.int .i64 nn).wf = true) := wn
      simp only at c0 c1
      clear wk wn hx
      go_wp2_with fail
      refine (does_any w wr M R s kd nn HWK.out HWN.out B.out).mono ?_
      rintro e w3 ⟨rfl, hb3⟩
      have B3 : Hid (Bz w w w3 (fun _ => False) M R (stp (pk kd 7) nn s) (stp (pk kd 7) nn s)) := hb3
      have HT3 : Hid (Thirty (stp (pk kd 7) nn s)) := HT.out.eqn (stp_eqn _ _ _)
      clear hb3 B c0 c1 HT
      go_wp2_with fail
      go_roundw
      case rel => exact ⟨k + 1, _, by omega, by first | rfl | go_num, HT3, B3⟩
      case measure => simp [intOf]; omega
    · have hd : decide (k < n) = false := by simp; omega
      go_wp2_with fail
      refine (releaseB B.out).mono ?_
      rintro e w3 ⟨rfl, hb3⟩
      have B3 : Hid (Bz w w w3 (fun _ => False) M R (rls s) s) := hb3
      have HT3 : Hid (Thirty (rls s)) := HT.out
      clear hb3 B HT
      have HZ3 : Hid (s.L.count 0 + s.L.count 1 + s.L.count 2 = 30) := by
        show _ = _
        rw [cnt_all s.L B3.out.ok.val]
        exact HT3.out.2
      go_wp2_with fail
      obtain ⟨wo, rfl⟩ : ∃ wo, wo = w3 := ⟨_, rfl⟩
      go_loopw [8, 9] (fun c i wx => ∃ (j d : Nat) (t : Nat), j ≤ 30 ∧ d ≤ j ∧ Hid (t = 10 + j) ∧ 10 ≤ t ∧ t ≤ 40 ∧ i = .int .i64 t ∧ c = .int .i64 d ∧ Hid ((s.L.take j).count 1 + (s.L.take j).count 2 = d) ∧ Hid (Bz w w wx (fun _ => False) M R (rls s) s)) (fun _ i _ => 40 - (intOf i).toNat)
      case atStart => exact ⟨0, 0, 10, Nat.zero_le _, Nat.le_refl _, rfl, Nat.le_refl _, by omega, rfl, rfl, (by simp [Hid]), B3⟩
      case round =>
        obtain ⟨j, d, t, hj, hdj, HTJ, ht1, ht2, rfl, rfl, HD, B⟩ := hrel
        clear B3
        by_cases hjl : t < 40
        · have hj30 : j < 30 := by have := HTJ.out; omega
          have hl : j < s.L.length := by have h : s.L.length = 30 := HT3.out.2; omega
          have e : stv (rls s) (t : Int) = G s.L j := by
            have h1 := stv_in (s := rls s) (i := j) hl
            have h2 : (rls s).lo = 10 := HT3.out.1
            rw [h2, ← HTJ.out] at h1
            exact h1
          have hv := B.out.ok.val j hl
          have hv' : G s.L j = 0 ∨ G s.L j = 1 ∨ G s.L j = 2 := hv
          have q1 := cnt_take s.L j hl 1
          have q2 := cnt_take s.L j hl 2
          obtain ⟨b, hb⟩ : ∃ b, Hid (decide (0 < stv (rls s) (t : Int)) = b) := ⟨_, rfl⟩
          have HD2 : Hid ((s.L.take (j + 1)).count 1 + (s.L.take (j + 1)).count 2 = if b then d + 1 else d) := by
            show _ = _
            have hd := HD.out
            have hb2 := hb.out
            rw [e] at hb2
            rcases hv' with h0 | h0 | h0
            · rw [h0] at q1 q2 hb2
              simp at q1 q2 hb2
              subst hb2
              simp
              omega
            · rw [h0] at q1 q2 hb2
              simp at q1 q2 hb2
              subst hb2
              simp
              omega
            · rw [h0] at q1 q2 hb2
              simp at q1 q2 hb2
              subst hb2
              simp
              omega
          have HTJ2 : Hid (t + 1 = 10 + (j + 1)) := by show _ = _; have := HTJ.out; omega
          clear e hv hv' q1 q2 hl
          go_wp2_with fail
          refine (takenB (t : Int) B.out).mono ?_
          rintro e w4 ⟨rfl, hb4⟩
          rw [hb.out]
          have B4 : Hid (Bz w w w4 (fun _ => False) M R (rls s) s) := hb4
          clear hb4 B hb
          cases b with
          | false =>
            have HD3 : Hid ((s.L.take (j + 1)).count 1 + (s.L.take (j + 1)).count 2 = d) := HD2.out
            go_wp2_with fail
            go_roundw
            case rel => exact ⟨j + 1, d, t + 1, by omega, by omega, HTJ2, by omega, by omega, by first | rfl | go_num, rfl, HD3, B4⟩
            case measure => simp [intOf]; omega
          | true =>
            have HD3 : Hid ((s.L.take (j + 1)).count 1 + (s.L.take (j + 1)).count 2 = d + 1) := HD2.out
            go_wp2_with fail
            go_roundw
            case rel => exact ⟨j + 1, d + 1, t + 1, by omega, by omega, HTJ2, by omega, by omega, by first | rfl | go_num, by first | rfl | go_num, HD3, B4⟩
            case measure => simp [intOf]; omega
        · have hj30 : j = 30 := by have := HTJ.out; omega
          have hs30 : s.L.length = 30 := HT3.out.2
          obtain ⟨f, hf⟩ : ∃ f : Nat, Hid (fre (rls s) = f) := ⟨s.L.count 0, fre_rls s⟩
          have hdf : (d : Int) + (f : Int) = 30 := by
            have h1 := HD.out
            rw [hj30, ← hs30, List.take_length] at h1
            have h2 := HZ3.out
            have h3 := fre_rls s
            rw [hf.out] at h3
            omega
          have hf9 : f ≤ 30 := by omega
          have hd9 : d ≤ 30 := by omega
          have ht40 : t = 40 := by omega
          have HT40 : Hid (t = 40) := ht40
          have hcmp : ((30 : Int) != 30) = false := by simp
          have hd4 : decide ((t : Int) < 40) = false := by simp; omega
          clear hj30 hs30 ht40
          go_wp2_with fail
          refine (freeB B.out).mono ?_
          rintro e w4 ⟨rfl, hb4⟩
          rw [hf.out]
          have B4 : Hid (Bz w w w4 (fun _ => False) M R (rls s) s) := hb4
          clear hb4 B
          go_wp2_with fail
          obtain ⟨wo2, rfl⟩ : ∃ wo2, wo2 = w4 := ⟨_, rfl⟩
          go_loopw [10] (fun i wx => ∃ (j t : Nat) (s' : St), j ≤ 30 ∧ Hid (t = 10 + j) ∧ 10 ≤ t ∧ t ≤ 40 ∧ i = .int .i64 t ∧ Hid (Thirty s') ∧ Hid (s'.as = 0) ∧ Hid (∀ i, i < j → G s'.L i ≠ 1) ∧ Hid (Bz w w wx (fun _ => False) M R s' s)) (fun i _ => 40 - (intOf i).toNat)
          case atStart => exact ⟨0, 10, rls s, Nat.zero_le _, rfl, Nat.le_refl _, by omega, rfl, HT3, rfl, (fun i hi => by omega), B4⟩
          case round =>
            obtain ⟨j2, t2, s5, hj2, HTJ2, ht3, ht4, rfl, HT5, HA5, HG5, B5⟩ := hrel
            clear B4
            by_cases hjl2 : t2 < 40
            · have hj30 : j2 < 30 := by have := HTJ2.out; omega
              have hdp := drop_past HT5.out B5.out.ok hj30 HG5.out
              rw [← HTJ2.out] at hdp
              have HG6 : Hid (∀ i, i < j2 + 1 → G (drop (t2 : Int) s5).2.L i ≠ 1) := hdp.1
              have HA6 : Hid ((drop (t2 : Int) s5).2.as = 0) := hdp.2.trans HA5.out
              have HT6 : Hid (Thirty (drop (t2 : Int) s5).2) := HT5.out.eqn (drop_eqn _ _)
              have HTJ3 : Hid (t2 + 1 = 10 + (j2 + 1)) := by show _ = _; have := HTJ2.out; omega
              clear hdp
              go_wp2_with fail
              refine (dropB (t2 : Int) B5.out).mono ?_
              rintro e w6 ⟨rfl, hb6⟩
              have B6 : Hid (Bz w w w6 (fun _ => False) M R (drop (t2 : Int) s5).2 s) := hb6
              obtain ⟨tb, htb⟩ : ∃ tb, Hid ((drop (t2 : Int) s5).1 = tb) := ⟨_, rfl⟩
              rw [htb.out]
              clear hb6 B5
              go_wp2_with fail
              go_roundw
              case rel => exact ⟨j2 + 1, t2 + 1, _, by omega, HTJ3, by omega, by omega, by first | rfl | go_num, HT6, HA6, HG6, B6⟩
              case measure => simp [intOf]; omega
            · have hj30 : j2 = 30 := by have := HTJ2.out; omega
              have HAF : Hid (stl s5 = new 10 40) := all_free HT5.out B5.out.ok HA5.out (fun i hi => HG5.out i (by omega))
              have hd5 : decide ((t2 : Int) < 40) = false := by simp; omega
              clear hj30
              go_wp2_with fail
              refine (settleB B5.out).mono ?_
              rintro e w6 ⟨rfl, hb6⟩
              rw [HAF.out] at hb6
              have B6 : Hid (Bz w w w6 (fun _ => False) M R (new 10 40) s) := hb6
              clear hb6 B5
              go_wp2_with fail
              refine (runsB B6.out).mono ?_
              rintro e w7 ⟨v7, rfl, ho7, hb7, hf7⟩
              rw [rr_whole] at ho7
              have B7 : Hid (Bz w w w7 (fun _ => False) M R (new 10 40) s) := (B6.out.enter hb7 (fun _ => False) (fun _ e => e.elim)).leave
              obtain ⟨g, capr, rfl, _, hcr, hmr, hcc, _⟩ := ho7.shape (by simp)
              have x0 := (hcc 0 (by simp)).1
              have x1 := (hcc 0 (by simp)).2
              simp only [List.getD_cons_zero, Nat.zero_mul, Nat.zero_add] at x0 x1
              have HX : Hid (w7.cell? ⟨g, 0, none⟩ = some (.int .i64 10) ∧ w7.cell? ⟨g, 1, none⟩ = some (.int .i64 30)) := ⟨x0, x1⟩
              simp only [List.length_cons, List.length_nil, Nat.zero_add] at hcr ⊢
              unfold maxLen at hmr
              clear ho7 hb7 hf7 B6 hcc x0 x1
              obtain ⟨X, Y, hp, _⟩ := id B7.out
              have HFR : Hid (Calls Try.prog 12 #[mp M] w7 fun e w' => e = .returned (.int .i64 30) ∧ ∃ q, w' = w7.drewN q) := by have := free_any M (new 10 40) X w7 hp; rw [fre_whole] at this; exact this
              have hq : ∀ W, (Op.equalIn 10000 49 (.agg #[.int .i64 10, .int .i64 30]) (.agg #[.int .i64 10, .int .i64 30])).run Try.prog W = .ok true W := fun W => by have := eq_run W (10, 30) (10, 30); simpa using this
              clear hp
              go_wp2_with fail
              refine HFR.out.mono ?_
              rintro e w8 ⟨rfl, q, rfl⟩
              have HB8 : Hid (Below w.heap.size w (w7.drewN q)) := (B7.out.drew q).below0
              have x0 : (w7.drewN q).cell? ⟨g, 0, none⟩ = some (.int .i64 10) := HX.out.1
              have x1 : (w7.drewN q).cell? ⟨g, 1, none⟩ = some (.int .i64 30) := HX.out.2
              clear HFR B7
              go_wp2_with fail
              refine (lives_any _).mono ?_
              rintro e wl ⟨rfl, hbl⟩
              have HBL : Hid (Below w.heap.size w wl) := HB8.out.trans ⟨hbl.os, hbl.tape, hbl.output, hbl.size, fun k hk => hbl.block k (by have := (HB8.out).size; omega)⟩
              clear hbl
              go_wp2_with fail
              go_ret
              exact ⟨rfl, HBL.out⟩
end Go.Proofs.Ytamgogkkcbeaaaa
