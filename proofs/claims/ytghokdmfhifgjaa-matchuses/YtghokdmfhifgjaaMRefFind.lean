/-
  The document's Find; and when two rows of steps are the same.
-/
import Derived.Test.YtghokdmfhifgjaaMRefBest
namespace Go.Proofs.Ytghokdmfhifgjaa
open Go.RowKit Pl
set_option linter.unusedVariables false

set_option maxHeartbeats 1000000 in
theorem refFind_bad (a : Option Addr) (n c : Nat) (win : Int) (w : World) (h : 65536 < n ∨ win < 1 ∨ 65536 < win) :
    Calls Try.prog 10 #[.slice a n c, .int .i64 win] w fun e w' => FPost (1, []) w e w' := by
  by_cases h1 : 65536 < n
  · have h1' : (65536 : Int) < (n : Int) := by omega
    clear h
    go_enter Try.func10, Try.ntmps10
    go_wp2_with fail
    go_ret2
    exact FPost.bad (Below.refl _ _)
  · have g1 : decide ((65536 : Int) < (n : Int)) = false := by rw [decide_eq_false_iff_not]; omega
    by_cases h2 : win < 1
    · clear h
      go_enter Try.func10, Try.ntmps10
      go_wp2_with fail
      go_ret2
      exact FPost.bad (Below.refl _ _)
    · have g2 : decide (win < 1) = false := by rw [decide_eq_false_iff_not]; omega
      have h3 : 65536 < win := by omega
      clear h
      go_enter Try.func10, Try.ntmps10
      go_wp2_with fail
      go_ret2
      exact FPost.bad (Below.refl _ _)

theorem refFind_empty (a : Option Addr) (c : Nat) (W : Nat) (w : World) (hw1 : 1 ≤ W) (hw2 : W ≤ 65536) :
    Calls Try.prog 10 #[.slice a 0 c, .int .i64 W] w fun e w' => FPost (0, []) w e w' := by
  have g2 : decide ((W : Int) < 1) = false := by rw [decide_eq_false_iff_not]; omega
  have g3 : decide ((65536 : Int) < (W : Int)) = false := by rw [decide_eq_false_iff_not]; omega
  go_enter Try.func10, Try.ntmps10
  go_wp2_with fail
  go_loop [6, 8] (fun v a => v = .slice none 0 0 ∧ a = .int .i64 0) (fun _ _ => 0)
  case atStart => exact ⟨rfl, rfl⟩
  case round =>
    obtain ⟨rfl, rfl⟩ := hrel
    go_wp2_with fail
    go_ret2
    exact FPost.bad (Below.refl _ _)

set_option maxRecDepth 100000 in
set_option maxHeartbeats 2000000 in
theorem refFind_good (n b o c : Nat) (W : Nat) (ds : List Int) (w : World) (D : Dt w b o n ds) (h0 : 0 < n) (hn : n ≤ 65536) (hw1 : 1 ≤ W) (hw2 : W ≤ 65536) :
    Calls Try.prog 10 #[.slice (some ⟨b, o, none⟩) n c, .int .i64 W] w fun e w' => FPost (0, steps ds W) w e w' := by
  have HD : Hid (Dt w b o n ds) := D
  have HLN : Hid (n = ds.length) := D.1
  have g1 : decide ((65536 : Int) < (n : Int)) = false := by rw [decide_eq_false_iff_not]; omega
  have g2 : decide ((W : Int) < 1) = false := by rw [decide_eq_false_iff_not]; omega
  have g3 : decide ((65536 : Int) < (W : Int)) = false := by rw [decide_eq_false_iff_not]; omega
  clear D
  go_enter Try.func10, Try.ntmps10
  go_wp2_with fail
  go_loopw [6, 7, 8] (fun v l a wr => ∃ (k at_ lits : Nat), k ≤ at_ ∧ at_ ≤ n ∧ lits ≤ at_ ∧ l = .int .i64 lits ∧ a = .int .i64 at_ ∧ Hid ((fst_ ds W k).1 = at_ ∧ (fst_ ds W k).2.1 = lits) ∧ Hid (OwnsS wr v (fst_ ds W k).2.2) ∧ Hid (Below w.heap.size w wr) ∧ Hid (∀ j, v.ownBlock = some j → w.heap.size ≤ j)) (fun _ _ a _ => n - (intOf a).toNat)
  case atStart => exact ⟨0, 0, 0, Nat.le_refl _, Nat.zero_le _, Nat.le_refl _, rfl, rfl, ⟨rfl, rfl⟩, ownsS_nil _, Below.refl _ _, fun j e => by cases e⟩
  case round =>
    obtain ⟨k, at_, lits, hka, hat, hlit, rfl, rfl, HST, HO, HB, HN⟩ := hrel
    by_cases hlt : at_ < n
    · obtain ⟨x, hx⟩ : ∃ x : Nat, Hid ((best ds W at_).1 = x) := ⟨_, rfl⟩
      obtain ⟨y, hy⟩ : ∃ y : Nat, Hid ((best ds W at_).2 = y) := ⟨_, rfl⟩
      obtain ⟨x2, hx2⟩ : ∃ x : Nat, Hid ((best ds W (at_ + 1)).1 = x) := ⟨_, rfl⟩
      obtain ⟨y2, hy2⟩ : ∃ y : Nat, Hid ((best ds W (at_ + 1)).2 = y) := ⟨_, rfl⟩
      have hxb := best_le ds W at_
      rw [hx.out, hy.out, ← HLN.out] at hxb
      have HB1 : Hid (Calls Try.prog 18 #[.slice (some ⟨b, o, none⟩) n c, .int .i64 W, .int .i64 (at_ : Int)] wr fun e w' => e = .returned (.tuple #[.int .i64 (x : Int), .int .i64 (y : Int)]) ∧ Below wr.heap.size wr w') := by
        have := refBest_any n b o c at_ W ds wr (HD.out.below HB.out) hn hat hw2
        rw [hx.out, hy.out] at this
        exact this
      go_wp2_with fail
      refine HB1.out.mono ?_
      clear HB1
      rintro e w4 ⟨rfl, hb4⟩
      have B4 : Hid (Below w.heap.size w w4) := HB.out.trans (hb4.mono HB.out.size)
      have O4 : Hid (OwnsS w4 u6 (fst_ ds W k).2.2) := HO.out.below hb4
      have HB2 : Hid (Calls Try.prog 18 #[.slice (some ⟨b, o, none⟩) n c, .int .i64 W, .int .i64 ((at_ : Int) + 1)] w4 fun e w' => e = .returned (.tuple #[.int .i64 (x2 : Int), .int .i64 (y2 : Int)]) ∧ Below w4.heap.size w4 w') := by
        have := refBest_any n b o c (at_ + 1) W ds w4 (HD.out.below B4.out) hn (by omega) hw2
        rw [hx2.out, hy2.out] at this
        push_cast at this
        exact this
      clear hb4 HO HB
      go_wp2_with fail
      refine HB2.out.mono ?_
      clear HB2
      rintro e w5 ⟨rfl, hb5⟩
      have B5 : Hid (Below w.heap.size w w5) := B4.out.trans (hb5.mono B4.out.size)
      have O5 : Hid (OwnsS w5 u6 (fst_ ds W k).2.2) := O4.out.below hb5
      clear hb5 B4 O4
      by_cases hlitc : x = 0 ∨ x < x2
      · have HST2 : Hid (fst_ ds W (k + 1) = (at_ + 1, lits + 1, (fst_ ds W k).2.2)) := by
          show _ = _
          simp only [fst_]
          rw [HST.out.1, HST.out.2, hx.out, hx2.out, if_pos (by rw [← HLN.out]; exact hlt), if_pos hlitc]
        have HS3 : Hid ((fst_ ds W (k + 1)).1 = at_ + 1 ∧ (fst_ ds W (k + 1)).2.1 = lits + 1) := ⟨by rw [HST2.out], by rw [HST2.out]⟩
        have O6 : Hid (OwnsS w5 u6 (fst_ ds W (k + 1)).2.2) := by show OwnsS _ _ _; rw [HST2.out]; exact O5.out
        by_cases hx0 : x = 0
        · have g4 : ((x : Int) == 0) = true := by rw [beq_iff_eq]; omega
          clear hlitc hx0
          go_wp2_with fail
          first
            | exact ⟨⟨k + 1, at_ + 1, lits + 1, by omega, by omega, by omega, by push_cast; rfl, by push_cast; rfl, HS3, O6, B5, HN⟩, by simp [intOf]; omega⟩
            | (go_roundw; (case rel => exact ⟨k + 1, at_ + 1, lits + 1, by omega, by omega, by omega, by go_num, by go_num, HS3, O6, B5, HN⟩); (case measure => simp [intOf]; omega))
        · have g4 : ((x : Int) == 0) = false := by rw [beq_eq_false_iff_ne]; omega
          have g5 : (x : Int) < (x2 : Int) := by omega
          clear hlitc hx0
          go_wp2_with fail
          first
            | exact ⟨⟨k + 1, at_ + 1, lits + 1, by omega, by omega, by omega, by push_cast; rfl, by push_cast; rfl, HS3, O6, B5, HN⟩, by simp [intOf]; omega⟩
            | (go_roundw; (case rel => exact ⟨k + 1, at_ + 1, lits + 1, by omega, by omega, by omega, by go_num, by go_num, HS3, O6, B5, HN⟩); (case measure => simp [intOf]; omega))
      · have hx1 : 0 < x := by omega
        have g4 : ((x : Int) == 0) = false := by rw [beq_eq_false_iff_ne]; omega
        have g5 : decide (x < x2) = false := by rw [decide_eq_false_iff_not]; omega
        have g6 : x2 ≤ x := by omega
        have HST2 : Hid (fst_ ds W (k + 1) = (at_ + x, 0, (fst_ ds W k).2.2 ++ [((lits : Int), (x : Int), (y : Int))])) := by
          show _ = _
          simp only [fst_]
          rw [HST.out.1, HST.out.2, hx.out, hy.out, hx2.out, if_pos (by rw [← HLN.out]; exact hlt), if_neg hlitc]
        have HLEN : Hid ((fst_ ds W k).2.2.length ≤ k) := fst_len ds W k
        clear hlitc
        go_wp2_with (at_builtin; refine wpList_pushS w5 rfl (.tmp 54) (.tmp 59) rfl u6 (fst_ ds W k).2.2 rfl O5.out ((lits : Int), (x : Int), (y : Int)) rfl (by have := HLEN.out; omega) ?_)
        intro v6 w6 ho6 hg6
        obtain ⟨b6, n6⟩ := hg6.onto B5.out HN.out
        have O6 : Hid (OwnsS w6 v6 (fst_ ds W (k + 1)).2.2) := by show OwnsS _ _ _; rw [HST2.out]; exact ho6
        have B6 : Hid (Below w.heap.size w w6) := b6
        have N6 : Hid (∀ j, v6.ownBlock = some j → w.heap.size ≤ j) := n6
        have HS3 : Hid ((fst_ ds W (k + 1)).1 = at_ + x ∧ (fst_ ds W (k + 1)).2.1 = 0) := ⟨by rw [HST2.out], by rw [HST2.out]⟩
        clear ho6 hg6 b6 n6 O5 B5 HN
        go_wp2_with fail
        first
          | exact ⟨⟨k + 1, at_ + x, 0, by omega, by omega, by omega, rfl, by push_cast; rfl, HS3, O6, B6, N6⟩, by simp [intOf]; omega⟩
          | (go_roundw; (case rel => exact ⟨k + 1, at_ + x, 0, by omega, by omega, by omega, rfl, by go_num, HS3, O6, B6, N6⟩); (case measure => simp [intOf]; omega))
    · obtain rfl : at_ = n := by omega
      have HEQ : Hid (steps ds W = (fst_ ds W k).2.2) := steps_of ds W k (by rw [HST.out.1, HLN.out]; exact Nat.le_refl _) (by rw [← HLN.out]; exact hka)
      go_wp2_with fail
      go_ret2
      exact ⟨_, rfl, HB.out, HN.out, by show OwnsS _ _ _; rw [HEQ.out]; exact HO.out⟩

theorem refFind_any (v : Value) (ds : List Int) (win : Int) (w : World) (h : Rd .u8 w v ds) (hy : By ds) :
    Calls Try.prog 10 #[v, .int .i64 win] w fun e w' => FPost (findR ds win) w e w' := by
  obtain ⟨a, c, rfl, h1, h2, _, h⟩ := h
  unfold maxLen at h2
  unfold findR
  by_cases hb : 65536 < ds.length ∨ win < 1 ∨ 65536 < win
  · rw [if_pos hb]
    exact refFind_bad a _ c win w hb
  · rw [if_neg hb]
    obtain ⟨W, rfl⟩ := Int.eq_ofNat_of_zero_le (show 0 ≤ win by omega)
    rw [Int.toNat_natCast]
    by_cases h0 : ds.length = 0
    · obtain rfl : ds = [] := List.eq_nil_of_length_eq_zero h0
      exact refFind_empty a c W w (by omega) (by omega)
    · rcases h with rfl | ⟨b, o, rfl, hc⟩
      · exact absurd rfl h0
      · exact refFind_good ds.length b o c W ds w ⟨rfl, hy, hc⟩ (by omega) (by omega) (by omega) (by omega)

set_option maxHeartbeats 1000000 in
theorem stepsSame_any (a b o p ca cb : Nat) (xs : List Sq) (w : World) (h63 : xs.length ≤ 65536)
    (hx : ∀ i, i < xs.length → w.cell? ⟨a, o + i * 3, none⟩ = some (.int .i64 (xs.getD i sq0).1) ∧ w.cell? ⟨a, o + i * 3 + 1, none⟩ = some (.int .i64 (xs.getD i sq0).2.1) ∧ w.cell? ⟨a, o + i * 3 + 2, none⟩ = some (.int .i64 (xs.getD i sq0).2.2))
    (hy : ∀ i, i < xs.length → w.cell? ⟨b, p + i * 3, none⟩ = some (.int .i64 (xs.getD i sq0).1) ∧ w.cell? ⟨b, p + i * 3 + 1, none⟩ = some (.int .i64 (xs.getD i sq0).2.1) ∧ w.cell? ⟨b, p + i * 3 + 2, none⟩ = some (.int .i64 (xs.getD i sq0).2.2)) :
    Calls Try.prog 11 #[.slice (some ⟨a, o, none⟩) xs.length ca, .slice (some ⟨b, p, none⟩) xs.length cb] w fun e w' => e = .returned (.bool true) ∧ Below w.heap.size w w' := by
  have HX : Hid (∀ i, i < xs.length → w.cell? ⟨a, o + i * 3, none⟩ = some (.int .i64 (xs.getD i sq0).1) ∧ w.cell? ⟨a, o + i * 3 + 1, none⟩ = some (.int .i64 (xs.getD i sq0).2.1) ∧ w.cell? ⟨a, o + i * 3 + 2, none⟩ = some (.int .i64 (xs.getD i sq0).2.2)) := hx
  have HY : Hid (∀ i, i < xs.length → w.cell? ⟨b, p + i * 3, none⟩ = some (.int .i64 (xs.getD i sq0).1) ∧ w.cell? ⟨b, p + i * 3 + 1, none⟩ = some (.int .i64 (xs.getD i sq0).2.1) ∧ w.cell? ⟨b, p + i * 3 + 2, none⟩ = some (.int .i64 (xs.getD i sq0).2.2)) := hy
  clear hx hy
  go_enter Try.func11, Try.ntmps11
  go_wp2_with fail
  go_loopw [5] (fun i wr => ∃ k : Nat, k ≤ xs.length ∧ i = .int .i64 k ∧ Hid (Below w.heap.size w wr)) (fun i _ => xs.length - (intOf i).toNat)
  case atStart => exact ⟨0, Nat.zero_le _, rfl, Below.refl _ _⟩
  case round =>
    obtain ⟨k, hk, rfl, HB⟩ := hrel
    by_cases hlt : k < xs.length
    · obtain ⟨⟨x, y, z⟩, hX⟩ : ∃ X, Hid (xs.getD k sq0 = X) := ⟨_, rfl⟩
      obtain ⟨c0, c1, c2⟩ := HX.out k hlt
      obtain ⟨d0, d1, d2⟩ := HY.out k hlt
      rw [hX.out] at c0 c1 c2 d0 d1 d2
      have ha := World.block_lt_of_cell? w _ c0
      have hb := World.block_lt_of_cell? w _ d0
      rw [← HB.out.cell (p := ⟨a, o + k * 3, none⟩) ha] at c0
      rw [← HB.out.cell (p := ⟨a, o + k * 3 + 1, none⟩) ha] at c1
      rw [← HB.out.cell (p := ⟨a, o + k * 3 + 2, none⟩) ha] at c2
      rw [← HB.out.cell (p := ⟨b, p + k * 3, none⟩) hb] at d0
      rw [← HB.out.cell (p := ⟨b, p + k * 3 + 1, none⟩) hb] at d1
      rw [← HB.out.cell (p := ⟨b, p + k * 3 + 2, none⟩) hb] at d2
      clear ha hb
      go_wp2_with fail
      go_quiet (fail)
      go_wp2_with fail
      go_roundw
      case rel => exact ⟨k + 1, by omega, by go_num, HB.out.trans (Below.of_drewN _ _ _)⟩
      case measure => simp [intOf]; omega
    · go_wp2_with fail
      go_ret
      exact ⟨rfl, HB.out⟩

theorem stepsSame_empty (a b : Option Addr) (ca cb : Nat) (w : World) :
    Calls Try.prog 11 #[.slice a 0 ca, .slice b 0 cb] w fun e w' => e = .returned (.bool true) ∧ w' = w := by
  go_enter Try.func11, Try.ntmps11
  go_wp2_with fail
  go_loop [5] (fun i => i = .int .i64 0) (fun _ => 0)
  case atStart => rfl
  case round =>
    subst hrel
    go_wp2_with fail
    go_ret
    exact ⟨rfl, rfl⟩

/-- Two rows that hold the same steps. -/
theorem stepsSame_rd (u v : Value) (xs : List Sq) (w : World) (hl : xs.length ≤ 65536) (hx : RdS w u xs) (hy : RdS w v xs) :
    Calls Try.prog 11 #[u, v] w fun e w' => e = .returned (.bool true) ∧ Below w.heap.size w w' := by
  obtain ⟨a, ca, rfl, _, _, hx⟩ := hx
  obtain ⟨b, cb, rfl, _, _, hy⟩ := hy
  by_cases h0 : xs.length = 0
  · obtain rfl : xs = [] := List.eq_nil_of_length_eq_zero h0
    refine (stepsSame_empty a b ca cb w).mono ?_
    rintro e w' ⟨rfl, rfl⟩
    exact ⟨rfl, Below.refl _ _⟩
  · rcases hx with rfl | ⟨ab, ao, rfl, hx⟩
    · exact absurd rfl h0
    · rcases hy with rfl | ⟨bb, bo, rfl, hy⟩
      · exact absurd rfl h0
      · exact stepsSame_any ab bb ao bo ca cb xs w hl hx hy
end Go.Proofs.Ytghokdmfhifgjaa
