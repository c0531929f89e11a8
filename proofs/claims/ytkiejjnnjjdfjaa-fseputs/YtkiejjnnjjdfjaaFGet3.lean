/-
  GetShare: the document's answer is the program's.
-/
import Derived.Test.YtkiejjnnjjdfjaaFGet2
namespace Go.Proofs.Ytkiejjnnjjdfjaa
open Go.RowKit Pl
set_option linter.unusedVariables false

theorem refGetShare_empty (a : Option Addr) (cap : Nat) (w : World) :
    Calls Try.prog 18 #[.slice a 0 cap] w fun e w' => GPost (getR []) w e w' := by
  go_enter Try.func18, Try.ntmps18
  go_wp2_with fail
  (try simp only [Exit.inBlock, Exit.then])
  refine bodyPost_ret (results_tmp4 rfl _ _ _) rfl ?_
  exact GPost.bad (Below.refl _ _)

set_option maxRecDepth 100000 in
set_option maxHeartbeats 2000000 in
theorem refGetShare_any (b o cap : Nat) (ys : List Int) (w : World) (hy : By ys) (h0 : 0 < ys.length) (hl : ys.length ≤ cap) (hc0 : cap ≤ maxLen) (hc : ∀ i, i < ys.length → w.cell? ⟨b, o + i, none⟩ = some (.int .u8 (ys.getD i 0))) :
    Calls Try.prog 18 #[.slice (some ⟨b, o, none⟩) ys.length cap] w fun e w' => GPost (getR ys) w e w' := by
  have HC : Hid (∀ i, i < ys.length → w.cell? ⟨b, o + i, none⟩ = some (.int .u8 (ys.getD i 0))) := hc
  have HY : Hid (By ys) := hy
  have hcm := hc0
  unfold maxLen at hcm
  obtain ⟨R, hR⟩ : ∃ R, Hid (getR ys = R) := ⟨_, rfl⟩
  rw [hR.out]
  obtain ⟨y, hye⟩ : ∃ y, Hid (ys.getD 0 0 = y) := ⟨_, rfl⟩
  have c0 : w.cell? ⟨b, o, none⟩ = some (.int .u8 y) := by have := hc 0 h0; rw [Nat.add_zero] at this; rw [this, hye.out]
  have hyb := hy 0
  rw [hye.out] at hyb
  have hz : decide ((ys.length : Int) < 1) = false := by rw [decide_eq_false_iff_not]; omega
  have hne : ys.length ≠ 0 := by omega
  have HNE : Hid (ys.length ≠ 0) := hne
  clear hc hy hne
  by_cases h1 : ys.length = 1
  · have HD : Hid (ys.drop 1 = []) := by show _ = _; rw [← h1]; exact List.drop_length
    have HE : Hid (R = (3, [], 0, 0)) := by show R = _; rw [← hR.out]; exact getR_none HNE.out (by rw [HD.out]; rfl)
    have HNM : Hid (∀ a c, Calls Try.prog 34 #[.slice a 0 c] w fun e w' => e = .returned (.tuple #[.int .i64 0, .int .i64 0, .int .i64 3]) ∧ w' = w) := fun a c => refNum_empty a c w
    have h00 : ys.length - 1 = 0 := by omega
    go_enter Try.func18, Try.ntmps18
    go_wp2_with fail
    all_goals
      try rw [h00]
      refine (HNM.out _ _).mono ?_
      rintro e w2 ⟨rfl, rfl⟩
      go_wp2_with fail
      (try simp only [Exit.inBlock, Exit.then])
      refine bodyPost_ret (results_tmp4 rfl _ _ _) rfl ?_
      rw [HE.out]
      exact GPost.bad (Below.refl _ _)
  have h2 : 1 < ys.length := by omega
  have h3 : 1 < cap := by omega
  have HRD : Hid (Rd .u8 w (.slice (some ⟨b, o + 1, none⟩) (ys.length - 1) (cap - 1)) (ys.drop 1)) := rd_drop' 1 (by omega) hl hc0 HC.out
  have HNM : Hid (Calls Try.prog 34 #[.slice (some ⟨b, o + 1, none⟩) (ys.length - 1) (cap - 1)] w fun e w' => e = .returned (.tuple #[.int .i64 (resN (numRes (ys.drop 1))), .int .i64 (resK (numRes (ys.drop 1))), .int .i64 (resE (numRes (ys.drop 1)))]) ∧ w' = w) := refNum_rd _ _ _ HRD.out (HY.out.drop 1)
  clear h1 HRD
  go_enter Try.func18, Try.ntmps18
  go_wp2_with fail
  refine HNM.out.mono ?_
  clear HNM
  rintro e w2 ⟨rfl, rfl⟩
  cases hn : numRes (ys.drop 1) with
  | none =>
    have HE : Hid (R = (3, [], 0, 0)) := by show R = _; rw [← hR.out]; exact getR_none HNE.out hn
    simp only [resN, resK, resE]
    clear hn
    go_wp2_with fail
    (try simp only [Exit.inBlock, Exit.then])
    refine bodyPost_ret (results_tmp4 rfl _ _ _) rfl ?_
    rw [HE.out]
    exact GPost.bad (Below.refl _ _)
  | some r =>
    obtain ⟨n, k⟩ := r
    obtain ⟨k1, k2, k3, _⟩ := numRes_take hn
    rw [List.length_drop] at k2
    have hnb := numRes_val (HY.out.drop 1) hn
    have HN : Hid (numRes (ys.drop 1) = some (n, k)) := hn
    simp only [resN, resK, resE]
    clear hn
    by_cases hlog1 : y < 5
    · have HE : Hid (R = (4, [], 0, 0)) := by show R = _; rw [← hR.out]; exact getR_log HNE.out HN.out (.inl (by rw [hye.out]; omega))
      go_wp2_with fail
      (try simp only [Exit.inBlock, Exit.then])
      refine bodyPost_ret (results_tmp4 rfl _ _ _) rfl ?_
      rw [HE.out]
      exact GPost.bad (Below.refl _ _)
    have hd1 : decide (y < 5) = false := by rw [decide_eq_false_iff_not]; exact hlog1
    by_cases hlog2 : 9 < y
    · have HE : Hid (R = (4, [], 0, 0)) := by show R = _; rw [← hR.out]; exact getR_log HNE.out HN.out (.inl (by rw [hye.out]; omega))
      go_wp2_with fail
      (try simp only [Exit.inBlock, Exit.then])
      refine bodyPost_ret (results_tmp4 rfl _ _ _) rfl ?_
      rw [HE.out]
      exact GPost.bad (Below.refl _ _)
    have hd2 : decide (9 < y) = false := by rw [decide_eq_false_iff_not]; exact hlog2
    by_cases hbig : 64 < n
    · have HE : Hid (R = (4, [], 0, 0)) := by show R = _; rw [← hR.out]; exact getR_log HNE.out HN.out (.inr hbig)
      go_wp2_with fail
      (try simp only [Exit.inBlock, Exit.then])
      refine bodyPost_ret (results_tmp4 rfl _ _ _) rfl ?_
      rw [HE.out]
      exact GPost.bad (Below.refl _ _)
    have hbig2 : decide (64 < n) = false := by rw [decide_eq_false_iff_not]; exact hbig
    obtain ⟨m, rfl⟩ := Int.eq_ofNat_of_zero_le hnb.1
    have hm64 : m ≤ 64 := by omega
    have HB : Hid (¬ (¬ (5 ≤ ys.getD 0 0 ∧ ys.getD 0 0 ≤ 9) ∨ 64 < (m : Int))) := by
      rw [hye.out]
      intro h
      rcases h with h | h
      · exact h ⟨by omega, by omega⟩
      · exact hbig h
    obtain ⟨T, hT⟩ : ∃ T, Hid (tkn (ys.drop (1 + k)) m = T) := ⟨_, rfl⟩
    clear hbig hlog1 hlog2
    go_wp2_with fail
    go_loopw [10, 11, 12] (fun p r i wr => ∃ (j q : Nat) (l : List Int), j ≤ m ∧ 1 + k + q ≤ ys.length ∧ i = .int .i64 j ∧ p = .int .i64 ((1 + k + q : Nat) : Int) ∧ Hid (tkn (ys.drop (1 + k)) j = some (l, q)) ∧ Hid (Owns .i64 3 wr r l) ∧ Hid (Grew w2 wr (.slice none 0 0) r)) (fun _ _ i _ => m - (intOf i).toNat)
    case atStart => exact ⟨0, 0, [], Nat.zero_le _, by omega, rfl, by go_num, rfl, owns_nil _ _ _, Grew.refl _ _⟩
    case round =>
      obtain ⟨j, q, l, hj, hq, rfl, rfl, HT, HO, HG⟩ := hrel
      obtain ⟨Q, hQ⟩ : ∃ Q, Hid (1 + k + q = Q) := ⟨_, rfl⟩
      rw [hQ.out] at hq ⊢
      have HDD : Hid ((ys.drop (1 + k)).drop q = ys.drop Q) := by show _ = _; rw [List.drop_drop, hQ.out]
      by_cases hlt : j < m
      · by_cases hql : ys.length ≤ Q
        · have hQe : Q = ys.length := by omega
          have HE : Hid (R = (3, [], 0, 0)) := by
            show R = _
            rw [← hR.out]
            refine getR_take HNE.out HN.out HB.out ?_
            rw [Int.toNat_natCast]
            refine tkn_none (m := j + 1) ?_ hlt
            simp only [tkn]
            rw [HT.out]
            simp only [HDD.out, hQe, List.drop_length]
            rfl
          have HNM : Hid (∀ a c, Calls Try.prog 34 #[.slice a 0 c] wr fun e w' => e = .returned (.tuple #[.int .i64 0, .int .i64 0, .int .i64 3]) ∧ w' = wr) := fun a c => refNum_empty a c wr
          have h00 : ys.length - Q = 0 := by omega
          have HBL : Hid (Below w2.heap.size w2 wr) := HG.out.below.1
          clear hql hQe
          go_wp2_with fail
          all_goals
            try rw [h00]
            refine (HNM.out _ _).mono ?_
            rintro e w4 ⟨rfl, rfl⟩
            go_wp2_with fail
            (try simp only [Exit.inBlock, Exit.then])
            refine bodyPost_ret (results_tmp4 rfl _ _ _) rfl ?_
            rw [HE.out]
            exact GPost.bad HBL.out
        have HRD : Hid (Rd .u8 wr (.slice (some ⟨b, o + Q, none⟩) (ys.length - Q) (cap - Q)) (ys.drop Q)) := rd_drop' Q hq hl hc0 (fun i hi => by
          have h0 := HC.out i hi
          rw [HG.out.below.1.cell (p := ⟨b, o + i, none⟩) (World.block_lt_of_cell? w2 ⟨b, o + i, none⟩ h0), h0])
        have HNM : Hid (Calls Try.prog 34 #[.slice (some ⟨b, o + Q, none⟩) (ys.length - Q) (cap - Q)] wr fun e w' => e = .returned (.tuple #[.int .i64 (resN (numRes (ys.drop Q))), .int .i64 (resK (numRes (ys.drop Q))), .int .i64 (resE (numRes (ys.drop Q)))]) ∧ w' = wr) := refNum_rd _ _ _ HRD.out (HY.out.drop Q)
        have hcq : Q < cap := by omega
        have hql2 : Q < ys.length := by omega
        clear hql
        go_wp2_with fail
        refine HNM.out.mono ?_
        clear HNM HRD
        rintro e w4 ⟨rfl, rfl⟩
        cases hn : numRes (ys.drop Q) with
        | none =>
          have HE : Hid (R = (3, [], 0, 0)) := by
            show R = _
            rw [← hR.out]
            refine getR_take HNE.out HN.out HB.out ?_
            rw [Int.toNat_natCast]
            refine tkn_none (m := j + 1) ?_ hlt
            simp only [tkn]
            rw [HT.out]
            simp only [HDD.out, hn]
          have HBL : Hid (Below w2.heap.size w2 w4) := HG.out.below.1
          simp only [resN, resK, resE]
          clear hn
          go_wp2_with fail
          (try simp only [Exit.inBlock, Exit.then])
          refine bodyPost_ret (results_tmp4 rfl _ _ _) rfl ?_
          rw [HE.out]
          exact GPost.bad HBL.out
        | some r =>
          obtain ⟨x, u⟩ := r
          obtain ⟨u1, u2, u3, _⟩ := numRes_take hn
          rw [List.length_drop] at u2
          have hx := numRes_val (HY.out.drop Q) hn
          have HT2 : Hid (tkn (ys.drop (1 + k)) (j + 1) = some (l ++ [x], q + u)) := by
            show _ = _
            simp only [tkn]
            rw [HT.out]
            simp only [HDD.out, hn]
          have hll : l.length ≤ 64 := by have := (tkn_le HT.out).1; omega
          simp only [resN, resK, resE]
          clear hn
          go_wp2_with (at_builtin; refine wpList_push _ rfl (.tmp 60) (.tmp 62) 22 rfl 3 .i64 8 elem64 _ l rfl HO.out x rfl (by omega) (by omega) ?_)
          intro v3 w5 ho3 hg3
          have HO3 : Hid (Owns .i64 3 w5 v3 (l ++ [x])) := ho3
          have HG3 : Hid (Grew w2 w5 (.slice none 0 0) v3) := HG.out.trans hg3
          clear ho3 hg3 HO HG
          go_wp2_with fail
          go_roundw
          case rel => exact ⟨j + 1, q + u, l ++ [x], by omega, by have := hQ.out; omega, by go_num, by rw [show (1 + k + (q + u) : Nat) = Q + u by have := hQ.out; omega]; go_num, HT2, HO3, HG3⟩
          case measure => simp [intOf]; omega
      · obtain rfl : j = m := by omega
        have HE : Hid (R = if mayS l y = true then (0, l, y, (Q : Int)) else (4, [], 0, 0)) := by show R = _; rw [← hR.out, getR_last HNE.out HN.out HB.out (by rw [Int.toNat_natCast, HT.out]), hye.out, hQ.out]
        have HMB : Hid (Calls Try.prog 13 #[u11, .int .i64 y] wr fun e w' => e = .returned (.bool (mayS l y)) ∧ w' = wr) := refMay_rd _ _ _ _ HO.out.rd
        obtain ⟨bl, fr⟩ := HG.out.below
        have HBL : Hid (Below w2.heap.size w2 wr) := bl
        have HFR : Hid (∀ k, u11.ownBlock = some k → w2.heap.size ≤ k) := fr
        clear bl fr
        go_wp2_with fail
        refine HMB.out.mono ?_
        clear HMB
        rintro e w5 ⟨rfl, rfl⟩
        cases hmay : mayS l y with
        | false =>
          have HE2 : Hid (R = (4, [], 0, 0)) := by show R = _; rw [HE.out, if_neg (by rw [hmay]; simp)]
          clear hmay
          go_wp2_with fail
          (try simp only [Exit.inBlock, Exit.then])
          refine bodyPost_ret (results_tmp4 rfl _ _ _) rfl ?_
          rw [HE2.out]
          exact GPost.bad HBL.out
        | true =>
          have HE2 : Hid (R = (0, l, y, (Q : Int))) := by show R = _; rw [HE.out, if_pos hmay]
          clear hmay
          go_wp2_with fail
          (try simp only [Exit.inBlock, Exit.then])
          refine bodyPost_ret (results_tmp4 rfl _ _ _) rfl ?_
          rw [HE2.out]
          exact ⟨_, rfl, HBL.out, HFR.out, HO.out⟩

theorem getShare_rd (v : Value) (ys : List Int) (w : World) (h : Rd .u8 w v ys) (hy : By ys) :
    Calls Try.prog 17 #[v] w fun e w' => GPost (getR ys) w e w' := by
  obtain ⟨a, cap, rfl, h1, h2, _, h⟩ := h
  by_cases h0 : ys.length = 0
  · obtain rfl : ys = [] := List.eq_nil_of_length_eq_zero h0
    exact getShare_empty a cap w
  · rcases h with rfl | ⟨b, o, rfl, hc⟩
    · exact absurd rfl h0
    · exact getShare_any b o cap ys w hy (by omega) h1 h2 hc
theorem refGetShare_rd (v : Value) (ys : List Int) (w : World) (h : Rd .u8 w v ys) (hy : By ys) :
    Calls Try.prog 18 #[v] w fun e w' => GPost (getR ys) w e w' := by
  obtain ⟨a, cap, rfl, h1, h2, _, h⟩ := h
  by_cases h0 : ys.length = 0
  · obtain rfl : ys = [] := List.eq_nil_of_length_eq_zero h0
    exact refGetShare_empty a cap w
  · rcases h with rfl | ⟨b, o, rfl, hc⟩
    · exact absurd rfl h0
    · exact refGetShare_any b o cap ys w hy (by omega) h1 h2 hc
end Go.Proofs.Ytkiejjnnjjdfjaa
