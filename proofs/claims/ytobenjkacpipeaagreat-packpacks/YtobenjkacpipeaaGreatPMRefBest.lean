import Derived.Test.YtobenjkacpipeaaGreatPMBest
set_option maxRecDepth 100000
set_option linter.unusedVariables false
set_option linter.unusedSimpArgs false
set_option maxHeartbeats 8000000
namespace Go.Proofs.YtobenjkacpipeaaGreat
open Go.RowKit Pl
set_option maxRecDepth 100000 in
theorem zfy9 (n b o c i W : Nat) (ds : List Int) (w : World) (D : Dt w b o n ds) (hn : n <= 65536) (hi : i <= n) (hw2 : W <= 65536) :
  Calls Tryz.prog 32 #[.slice (some ⟨b, o, none⟩) n c, .int .i64 W, .int .i64 i] w fun e w' => e = .returned (.tuple #[.int .i64 ((best ds W i).1 : Int), .int .i64 ((best ds W i).2 : Int)]) /\ Below w.heap.size w w' := by
 have HD : Hid (Dt w b o n ds) := D
 obtain ⟨M, hM⟩ : ∃ M, Hid (ml ds i = M) := ⟨_, rfl⟩
 have hM1 : M <= 259 /\ i + M <= n /\ (M = 259 ∨ i + M = n) := by rw [<- hM.out]; unfold ml; have := D.1; omega
 obtain ⟨R, hR⟩ : ∃ R, Hid (best ds W i = R) := ⟨_, rfl⟩
 rw [hR.out]
 clear D
 go_enter Tryz.func32, Tryz.ntmps32
 go_wp2_with fail
 go_loopw [8, 9, 10] (fun l t d wr => ∃ (d0 bl bd : Nat), d0 <= W /\ d0 <= i /\ bl <= 259 /\ l = .int .i64 bl /\ t = .int .i64 bd /\ d = .int .i64 ((d0 : Int) + 1) /\ Hid (bst ds i d0 = (bl, bd)) /\ Hid (Below w.heap.size w wr)) (fun _ _ d _ => i + 1 - (intOf d).toNat)
 case atStart => exact ⟨0, 0, 0, Nat.zero_le _, Nat.zero_le _, by omega, rfl, rfl, rfl, rfl, Below.refl _ _⟩
 case round =>
  obtain ⟨d0, bl, bd, hdW, hdi, hbl, rfl, rfl, rfl, HBS, HB⟩ := hrel
  by_cases hgo : d0 + 1 <= W /\ d0 + 1 <= i
  ·have q1 : (d0 : Int) + 1 <= (W : Int) := by omega
   have q2 : (d0 : Int) + 1 <= (i : Int) := by omega
   obtain ⟨P, hP⟩ : ∃ P, Hid (i - (d0 + 1) = P) := ⟨_, rfl⟩
   have hPI : (P : Int) = (i : Int) - ((d0 : Int) + 1) := by rw [<- hP.out]; omega
   have HPI : Hid ((P : Int) = (i : Int) - ((d0 : Int) + 1)) := hPI
   have hPi : P + (d0 + 1) = i := by omega
   clear hPI hgo
   go_wp2_with fail
   go_loopw [11] (fun x wr => ∃ m : Nat, m <= M /\ x = .int .i64 m /\ Hid (∀ j, j < m -> ds.getD (i + j) 0 = ds.getD (P + j) 0) /\ Hid (Below w.heap.size w wr)) (fun x _ => M - (intOf x).toNat)
   case atStart => exact ⟨0, Nat.zero_le _, rfl, fun j hj => by omega, HB⟩
   case round =>
    clear HB
    obtain ⟨m, hm, rfl, HE, HB⟩ := hrel
    by_cases hlt : m < M
    ·have g1 : (m : Int) < 259 := by omega
     have g2 : (i : Int) + (m : Int) < (n : Int) := by omega
     have hD := HD.out.below HB.out
     obtain ⟨x, hx⟩ : ∃ x, Hid (ds.getD (i + m) 0 = x) := ⟨_, rfl⟩
     obtain ⟨y, hy⟩ : ∃ y, Hid (ds.getD (P + m) 0 = y) := ⟨_, rfl⟩
     have cx : wr.cell? ⟨b, o + (i + m), none⟩ = some (.int .u8 x) := by rw [hD.2.2 (i + m) (by omega), hx.out]
     have cy : wr.cell? ⟨b, o + (P + m), none⟩ = some (.int .u8 y) := by rw [hD.2.2 (P + m) (by omega), hy.out]
     have hidx : (i : Int) + (m : Int) - ((d0 : Int) + 1) = ((P + m : Nat) : Int) := by have := HPI.out; omega
     have hidx2 : ((P + m : Nat) : Int) < (n : Int) := by omega
     obtain ⟨q, hq⟩ : ∃ q, Hid (P + m = q) := ⟨_, rfl⟩
     rw [hq.out] at cy hidx hidx2
     clear hD
     by_cases hxy : x = y
     ·have g3 : (x == y) = true := by simp [hxy]
      have HE2 : Hid (∀ j, j < m + 1 -> ds.getD (i + j) 0 = ds.getD (P + j) 0) := fun j hj => by
       by_cases e : j = m
       ·rw [e, hx.out, hy.out]; exact hxy
       ·exact HE.out j (by omega)
      clear hxy
      go_wp2_with fail
      go_quiet (fail)
      go_wp2_with fail
      go_roundw
      case rel => exact ⟨m + 1, by omega, by go_num, HE2, HB.out.trans (Below.of_drewN _ _ _)⟩
      case measure => simp [intOf]; omega
     ·have g3 : (x == y) = false := by simp [hxy]
      have HRN : Hid (rn ds i P M = m) := rn_of ds i P M m hm HE.out (fun _ => by rw [hx.out, hy.out]; exact hxy)
      have HB1 : Hid (bst ds i (d0 + 1) = if 4 <= m /\ bl < m then (m, d0 + 1) else (bl, bd)) := by
       show _ = _
       simp only [bst]
       rw [hM.out, hP.out, HRN.out, HBS.out]
      clear hxy
      go_wp2_with fail
      go_quiet (fail)
      by_cases hbet : 4 <= m /\ bl < m
      ·have q3 : (4 : Int) <= (m : Int) := by omega
       have q4 : (bl : Int) < (m : Int) := by omega
       have HB2 : Hid (bst ds i (d0 + 1) = (m, d0 + 1)) := by show _ = _; rw [HB1.out, if_pos hbet]
       clear hbet
       go_wp2_with fail
       go_roundw
       case rel => exact ⟨d0 + 1, m, d0 + 1, by omega, by omega, by omega, rfl, by push_cast; rfl, by go_num, HB2, HB.out.trans (Below.of_drewN _ _ _)⟩
       case measure => simp [intOf]; omega
      ·have HB2 : Hid (bst ds i (d0 + 1) = (bl, bd)) := by show _ = _; rw [HB1.out, if_neg hbet]
       by_cases h4 : 4 <= m
       ·have q3 : (4 : Int) <= (m : Int) := by omega
        have q4 : decide (bl < m) = false := by rw [decide_eq_false_iff_not]; omega
        have q5 : m <= bl := by omega
        clear hbet h4
        go_wp2_with fail
        go_roundw
        case rel => exact ⟨d0 + 1, bl, bd, by omega, by omega, hbl, rfl, rfl, by go_num, HB2, HB.out.trans (Below.of_drewN _ _ _)⟩
        case measure => simp [intOf]; omega
       ·have q3 : decide ((4 : Int) <= (m : Int)) = false := by rw [decide_eq_false_iff_not]; omega
        have q4 : m < 4 := by omega
        clear hbet h4
        go_wp2_with fail
        go_roundw
        case rel => exact ⟨d0 + 1, bl, bd, by omega, by omega, hbl, rfl, rfl, by go_num, HB2, HB.out.trans (Below.of_drewN _ _ _)⟩
        case measure => simp [intOf]; omega
    ·obtain rfl : m = M := by omega
     have HRN : Hid (rn ds i P m = m) := rn_of ds i P m m hm HE.out (fun h => by omega)
     have HB1 : Hid (bst ds i (d0 + 1) = if 4 <= m /\ bl < m then (m, d0 + 1) else (bl, bd)) := by
      show _ = _
      simp only [bst]
      rw [hM.out, hP.out, HRN.out, HBS.out]
     have gg : decide ((m : Int) < 259) = false ∨ ((m : Int) < 259 /\ decide ((i : Int) + (m : Int) < (n : Int)) = false) := by
      by_cases h : m = 259
      ·left; rw [decide_eq_false_iff_not]; omega
      ·right; exact ⟨by omega, by rw [decide_eq_false_iff_not]; omega⟩
     rcases gg with g1 | ⟨g1, g2⟩
     all_goals
      go_wp2_with fail
      go_quiet (fail)
      by_cases hbet : 4 <= m /\ bl < m
      ·have q3 : (4 : Int) <= (m : Int) := by omega
       have q4 : (bl : Int) < (m : Int) := by omega
       have HB2 : Hid (bst ds i (d0 + 1) = (m, d0 + 1)) := by show _ = _; rw [HB1.out, if_pos hbet]
       clear hbet
       go_wp2_with fail
       go_roundw
       case rel => exact ⟨d0 + 1, m, d0 + 1, by omega, by omega, by omega, rfl, by push_cast; rfl, by go_num, HB2, HB.out.trans (Below.of_drewN _ _ _)⟩
       case measure => simp [intOf]; omega
      ·have HB2 : Hid (bst ds i (d0 + 1) = (bl, bd)) := by show _ = _; rw [HB1.out, if_neg hbet]
       by_cases h4 : 4 <= m
       ·have q3 : (4 : Int) <= (m : Int) := by omega
        have q4 : decide (bl < m) = false := by rw [decide_eq_false_iff_not]; omega
        have q5 : m <= bl := by omega
        clear hbet h4
        go_wp2_with fail
        go_roundw
        case rel => exact ⟨d0 + 1, bl, bd, by omega, by omega, hbl, rfl, rfl, by go_num, HB2, HB.out.trans (Below.of_drewN _ _ _)⟩
        case measure => simp [intOf]; omega
       ·have q3 : decide ((4 : Int) <= (m : Int)) = false := by rw [decide_eq_false_iff_not]; omega
        have q4 : m < 4 := by omega
        clear hbet h4
        go_wp2_with fail
        go_roundw
        case rel => exact ⟨d0 + 1, bl, bd, by omega, by omega, hbl, rfl, rfl, by go_num, HB2, HB.out.trans (Below.of_drewN _ _ _)⟩
        case measure => simp [intOf]; omega
  ·have hmin : min W i = d0 := by omega
   have HE : Hid (R = (bl, bd)) := by show R = _; rw [<- hR.out, <- HBS.out]; unfold best; rw [hmin]
   have gg : decide ((d0 : Int) + 1 <= (W : Int)) = false ∨ ((d0 : Int) + 1 <= (W : Int) /\ decide ((d0 : Int) + 1 <= (i : Int)) = false) := by
    by_cases h : d0 + 1 <= W
    ·right; exact ⟨by omega, by rw [decide_eq_false_iff_not]; omega⟩
    ·left; rw [decide_eq_false_iff_not]; omega
   clear hgo hmin
   rcases gg with g1 | ⟨g1, g2⟩
   ·go_wp2_with fail
    go_ret2
    rw [HE.out]
    exact ⟨rfl, HB.out⟩
   ·go_wp2_with fail
    go_ret2
    rw [HE.out]
    exact ⟨rfl, HB.out⟩
theorem zng9 (a : Option Addr) (n c : Nat) (win : Int) (w : World) (h : 65536 < n ∨ win < 1 ∨ 65536 < win) :
  Calls Tryz.prog 17 #[.slice a n c, .int .i64 win] w fun e w' => FPost (1, []) w e w' := by
 by_cases h1 : 65536 < n
 ·have h1' : (65536 : Int) < (n : Int) := by omega
  clear h
  go_enter Tryz.func17, Tryz.ntmps17
  go_wp2_with fail
  go_ret2
  exact FPost.bad (Below.refl _ _)
 ·have g1 : decide ((65536 : Int) < (n : Int)) = false := by rw [decide_eq_false_iff_not]; omega
  by_cases h2 : win < 1
  ·clear h
   go_enter Tryz.func17, Tryz.ntmps17
   go_wp2_with fail
   go_ret2
   exact FPost.bad (Below.refl _ _)
  ·have g2 : decide (win < 1) = false := by rw [decide_eq_false_iff_not]; omega
   have h3 : 65536 < win := by omega
   clear h
   go_enter Tryz.func17, Tryz.ntmps17
   go_wp2_with fail
   go_ret2
   exact FPost.bad (Below.refl _ _)
theorem ziu9 (a : Option Addr) (c : Nat) (W : Nat) (w : World) (hw1 : 1 <= W) (hw2 : W <= 65536) :
  Calls Tryz.prog 17 #[.slice a 0 c, .int .i64 W] w fun e w' => FPost (0, []) w e w' := by
 have g2 : decide ((W : Int) < 1) = false := by rw [decide_eq_false_iff_not]; omega
 have g3 : decide ((65536 : Int) < (W : Int)) = false := by rw [decide_eq_false_iff_not]; omega
 go_enter Tryz.func17, Tryz.ntmps17
 go_wp2_with fail
 go_loop [6, 8] (fun v a => v = .slice none 0 0 /\ a = .int .i64 0) (fun _ _ => 0)
 case atStart => exact ⟨rfl, rfl⟩
 case round =>
  obtain ⟨rfl, rfl⟩ := hrel
  go_wp2_with fail
  go_ret2
  exact FPost.bad (Below.refl _ _)
set_option maxRecDepth 100000 in
theorem zkd9 (n b o c : Nat) (W : Nat) (ds : List Int) (w : World) (D : Dt w b o n ds) (h0 : 0 < n) (hn : n <= 65536) (hw1 : 1 <= W) (hw2 : W <= 65536) :
  Calls Tryz.prog 17 #[.slice (some ⟨b, o, none⟩) n c, .int .i64 W] w fun e w' => FPost (0, steps ds W) w e w' := by
 have HD : Hid (Dt w b o n ds) := D
 have HLN : Hid (n = ds.length) := D.1
 have g1 : decide ((65536 : Int) < (n : Int)) = false := by rw [decide_eq_false_iff_not]; omega
 have g2 : decide ((W : Int) < 1) = false := by rw [decide_eq_false_iff_not]; omega
 have g3 : decide ((65536 : Int) < (W : Int)) = false := by rw [decide_eq_false_iff_not]; omega
 clear D
 go_enter Tryz.func17, Tryz.ntmps17
 go_wp2_with fail
 go_loopw [6, 7, 8] (fun v l a wr => ∃ (k at_ lits : Nat), k <= at_ /\ at_ <= n /\ lits <= at_ /\ l = .int .i64 lits /\ a = .int .i64 at_ /\ Hid ((fst_ ds W k).1 = at_ /\ (fst_ ds W k).2.1 = lits) /\ Hid (OwnsS wr v (fst_ ds W k).2.2) /\ Hid (Below w.heap.size w wr) /\ Hid (∀ j, v.ownBlock = some j -> w.heap.size <= j)) (fun _ _ a _ => n - (intOf a).toNat)
 case atStart => exact ⟨0, 0, 0, Nat.le_refl _, Nat.zero_le _, Nat.le_refl _, rfl, rfl, ⟨rfl, rfl⟩, zgy9 _, Below.refl _ _, fun j e => by cases e⟩
 case round =>
  obtain ⟨k, at_, lits, hka, hat, hlit, rfl, rfl, HST, HO, HB, HN⟩ := hrel
  by_cases hlt : at_ < n
  ·obtain ⟨x, hx⟩ : ∃ x : Nat, Hid ((best ds W at_).1 = x) := ⟨_, rfl⟩
   obtain ⟨y, hy⟩ : ∃ y : Nat, Hid ((best ds W at_).2 = y) := ⟨_, rfl⟩
   obtain ⟨x2, hx2⟩ : ∃ x : Nat, Hid ((best ds W (at_ + 1)).1 = x) := ⟨_, rfl⟩
   obtain ⟨y2, hy2⟩ : ∃ y : Nat, Hid ((best ds W (at_ + 1)).2 = y) := ⟨_, rfl⟩
   have hxb := zhs9 ds W at_
   rw [hx.out, hy.out, <- HLN.out] at hxb
   have HB1 : Hid (Calls Tryz.prog 32 #[.slice (some ⟨b, o, none⟩) n c, .int .i64 W, .int .i64 (at_ : Int)] wr fun e w' => e = .returned (.tuple #[.int .i64 (x : Int), .int .i64 (y : Int)]) /\ Below wr.heap.size wr w') := by
    have := zfy9 n b o c at_ W ds wr (HD.out.below HB.out) hn hat hw2
    rw [hx.out, hy.out] at this
    exact this
   go_wp2_with fail
   refine HB1.out.mono ?_
   clear HB1
   rintro e w4 ⟨rfl, hb4⟩
   have B4 : Hid (Below w.heap.size w w4) := HB.out.trans (hb4.mono HB.out.size)
   have O4 : Hid (OwnsS w4 u6 (fst_ ds W k).2.2) := HO.out.below hb4
   have HB2 : Hid (Calls Tryz.prog 32 #[.slice (some ⟨b, o, none⟩) n c, .int .i64 W, .int .i64 ((at_ : Int) + 1)] w4 fun e w' => e = .returned (.tuple #[.int .i64 (x2 : Int), .int .i64 (y2 : Int)]) /\ Below w4.heap.size w4 w') := by
    have := zfy9 n b o c (at_ + 1) W ds w4 (HD.out.below B4.out) hn (by omega) hw2
    rw [hx2.out, hy2.out] at this
    push_cast at this
    exact this
   clear hb4 HO HB
   go_wp2_with fail
   refine HB2.out.mono ?_
   clear HB2
   rintro e w5 ⟨rfl, hb5⟩
   have B5 : Hid (Below w.heap.size w w5) := B4.out.trans (hb5.mono B4.out.size)
   have O5 : Hid (OwnsS w5 u6 (fst_ ds W k).2.2) := O4.out.below hb5
   clear hb5 B4 O4
   by_cases hlitc : x = 0 ∨ x < x2
   ·have HST2 : Hid (fst_ ds W (k + 1) = (at_ + 1, lits + 1, (fst_ ds W k).2.2)) := by
     show _ = _
     simp only [fst_]
     rw [HST.out.1, HST.out.2, hx.out, hx2.out, if_pos (by rw [<- HLN.out]; exact hlt), if_pos hlitc]
    have HS3 : Hid ((fst_ ds W (k + 1)).1 = at_ + 1 /\ (fst_ ds W (k + 1)).2.1 = lits + 1) := ⟨by rw [HST2.out], by rw [HST2.out]⟩
    have O6 : Hid (OwnsS w5 u6 (fst_ ds W (k + 1)).2.2) := by show OwnsS _ _ _; rw [HST2.out]; exact O5.out
    by_cases hx0 : x = 0
    ·have g4 : ((x : Int) == 0) = true := by rw [beq_iff_eq]; omega
     clear hlitc hx0
     go_wp2_with fail
     first
      | exact ⟨⟨k + 1, at_ + 1, lits + 1, by omega, by omega, by omega, by push_cast; rfl, by push_cast; rfl, HS3, O6, B5, HN⟩, by simp [intOf]; omega⟩
      | (go_roundw; (case rel => exact ⟨k + 1, at_ + 1, lits + 1, by omega, by omega, by omega, by go_num, by go_num, HS3, O6, B5, HN⟩); (case measure => simp [intOf]; omega))
    ·have g4 : ((x : Int) == 0) = false := by rw [beq_eq_false_iff_ne]; omega
     have g5 : (x : Int) < (x2 : Int) := by omega
     clear hlitc hx0
     go_wp2_with fail
     first
      | exact ⟨⟨k + 1, at_ + 1, lits + 1, by omega, by omega, by omega, by push_cast; rfl, by push_cast; rfl, HS3, O6, B5, HN⟩, by simp [intOf]; omega⟩
      | (go_roundw; (case rel => exact ⟨k + 1, at_ + 1, lits + 1, by omega, by omega, by omega, by go_num, by go_num, HS3, O6, B5, HN⟩); (case measure => simp [intOf]; omega))
   ·have hx1 : 0 < x := by omega
    have g4 : ((x : Int) == 0) = false := by rw [beq_eq_false_iff_ne]; omega
    have g5 : decide (x < x2) = false := by rw [decide_eq_false_iff_not]; omega
    have g6 : x2 <= x := by omega
    have HST2 : Hid (fst_ ds W (k + 1) = (at_ + x, 0, (fst_ ds W k).2.2 ++ [((lits : Int), (x : Int), (y : Int))])) := by
     show _ = _
     simp only [fst_]
     rw [HST.out.1, HST.out.2, hx.out, hy.out, hx2.out, if_pos (by rw [<- HLN.out]; exact hlt), if_neg hlitc]
    have HLEN : Hid ((fst_ ds W k).2.2.length <= k) := znx9 ds W k
    clear hlitc
    go_wp2_with (at_builtin; refine zeg9 w5 rfl (.tmp 54) (.tmp 59) rfl u6 (fst_ ds W k).2.2 rfl O5.out ((lits : Int), (x : Int), (y : Int)) rfl (by have := HLEN.out; omega) ?_)
    intro v6 w6 ho6 hg6
    obtain ⟨b6, n6⟩ := hg6.onto B5.out HN.out
    have O6 : Hid (OwnsS w6 v6 (fst_ ds W (k + 1)).2.2) := by show OwnsS _ _ _; rw [HST2.out]; exact ho6
    have B6 : Hid (Below w.heap.size w w6) := b6
    have N6 : Hid (∀ j, v6.ownBlock = some j -> w.heap.size <= j) := n6
    have HS3 : Hid ((fst_ ds W (k + 1)).1 = at_ + x /\ (fst_ ds W (k + 1)).2.1 = 0) := ⟨by rw [HST2.out], by rw [HST2.out]⟩
    clear ho6 hg6 b6 n6 O5 B5 HN
    go_wp2_with fail
    first
     | exact ⟨⟨k + 1, at_ + x, 0, by omega, by omega, by omega, rfl, by push_cast; rfl, HS3, O6, B6, N6⟩, by simp [intOf]; omega⟩
     | (go_roundw; (case rel => exact ⟨k + 1, at_ + x, 0, by omega, by omega, by omega, rfl, by go_num, HS3, O6, B6, N6⟩); (case measure => simp [intOf]; omega))
  ·obtain rfl : at_ = n := by omega
   have HEQ : Hid (steps ds W = (fst_ ds W k).2.2) := zqw9 ds W k (by rw [HST.out.1, HLN.out]; exact Nat.le_refl _) (by rw [<- HLN.out]; exact hka)
   go_wp2_with fail
   go_ret2
   exact ⟨_, rfl, HB.out, HN.out, by show OwnsS _ _ _; rw [HEQ.out]; exact HO.out⟩
theorem zdn9 (v : Value) (ds : List Int) (win : Int) (w : World) (h : Rd .u8 w v ds) (hy : By ds) :
  Calls Tryz.prog 17 #[v, .int .i64 win] w fun e w' => FPost (findR ds win) w e w' := by
 obtain ⟨a, c, rfl, h1, h2, _, h⟩ := h
 unfold maxLen at h2
 unfold findR
 by_cases hb : 65536 < ds.length ∨ win < 1 ∨ 65536 < win
 ·rw [if_pos hb]
  exact zng9 a _ c win w hb
 ·rw [if_neg hb]
  obtain ⟨W, rfl⟩ := Int.eq_ofNat_of_zero_le (show 0 <= win by omega)
  rw [Int.toNat_natCast]
  by_cases h0 : ds.length = 0
  ·obtain rfl : ds = [] := List.eq_nil_of_length_eq_zero h0
   exact ziu9 a c W w (by omega) (by omega)
  ·rcases h with rfl | ⟨b, o, rfl, hc⟩
   ·exact absurd rfl h0
   ·exact zkd9 ds.length b o c W ds w ⟨rfl, hy, hc⟩ (by omega) (by omega) (by omega) (by omega)
end Go.Proofs.YtobenjkacpipeaaGreat
