/-
  The document's best match, and its Find.
-/
import Derived.Test.YtghokdmfhifgjaaMFind2
namespace Go.Proofs.Ytghokdmfhifgjaa
open Go.RowKit Pl
set_option linter.unusedVariables false

set_option maxRecDepth 100000 in
set_option maxHeartbeats 4000000 in
theorem refBest_any (n b o c i W : Nat) (ds : List Int) (w : World) (D : Dt w b o n ds) (hn : n ≤ 65536) (hi : i ≤ n) (hw2 : W ≤ 65536) :
    Calls Try.prog 18 #[.slice (some ⟨b, o, none⟩) n c, .int .i64 W, .int .i64 i] w fun e w' => e = .returned (.tuple #[.int .i64 ((best ds W i).1 : Int), .int .i64 ((best ds W i).2 : Int)]) ∧ Below w.heap.size w w' := by
  have HD : Hid (Dt w b o n ds) := D
  obtain ⟨M, hM⟩ : ∃ M, Hid (ml ds i = M) := ⟨_, rfl⟩
  have hM1 : M ≤ 259 ∧ i + M ≤ n ∧ (M = 259 ∨ i + M = n) := by rw [← hM.out]; unfold ml; have := D.1; omega
  obtain ⟨R, hR⟩ : ∃ R, Hid (best ds W i = R) := ⟨_, rfl⟩
  rw [hR.out]
  clear D
  go_enter Try.func18, Try.ntmps18
  go_wp2_with fail
  go_loopw [8, 9, 10] (fun l t d wr => ∃ (d0 bl bd : Nat), d0 ≤ W ∧ d0 ≤ i ∧ bl ≤ 259 ∧ l = .int .i64 bl ∧ t = .int .i64 bd ∧ d = .int .i64 ((d0 : Int) + 1) ∧ Hid (bst ds i d0 = (bl, bd)) ∧ Hid (Below w.heap.size w wr)) (fun _ _ d _ => i + 1 - (intOf d).toNat)
  case atStart => exact ⟨0, 0, 0, Nat.zero_le _, Nat.zero_le _, by omega, rfl, rfl, rfl, rfl, Below.refl _ _⟩
  case round =>
    obtain ⟨d0, bl, bd, hdW, hdi, hbl, rfl, rfl, rfl, HBS, HB⟩ := hrel
    by_cases hgo : d0 + 1 ≤ W ∧ d0 + 1 ≤ i
    · have q1 : (d0 : Int) + 1 ≤ (W : Int) := by omega
      have q2 : (d0 : Int) + 1 ≤ (i : Int) := by omega
      obtain ⟨P, hP⟩ : ∃ P, Hid (i - (d0 + 1) = P) := ⟨_, rfl⟩
      have hPI : (P : Int) = (i : Int) - ((d0 : Int) + 1) := by rw [← hP.out]; omega
      have HPI : Hid ((P : Int) = (i : Int) - ((d0 : Int) + 1)) := hPI
      have hPi : P + (d0 + 1) = i := by omega
      clear hPI hgo
      go_wp2_with fail
      go_loopw [11] (fun x wr => ∃ m : Nat, m ≤ M ∧ x = .int .i64 m ∧ Hid (∀ j, j < m → ds.getD (i + j) 0 = ds.getD (P + j) 0) ∧ Hid (Below w.heap.size w wr)) (fun x _ => M - (intOf x).toNat)
      case atStart => exact ⟨0, Nat.zero_le _, rfl, fun j hj => by omega, HB⟩
      case round =>
        clear HB
        obtain ⟨m, hm, rfl, HE, HB⟩ := hrel
        by_cases hlt : m < M
        · have g1 : (m : Int) < 259 := by omega
          have g2 : (i : Int) + (m : Int) < (n : Int) := by omega
          have hD := HD.out.below HB.out
          obtain ⟨x, hx⟩ : ∃ x, Hid (ds.getD (i + m) 0 = x) := ⟨_, rfl⟩
          obtain ⟨y, hy⟩ : ∃ y, Hid (ds.getD (P + m) 0 = y) := ⟨_, rfl⟩
          have cx : wr.cell? ⟨b, o + (i + m), none⟩ = some (.int .u8 x) := by rw [hD.2.2 (i + m) (by omega), hx.out]
          have cy : wr.cell? ⟨b, o + (P + m), none⟩ = some (.int .u8 y) := by rw [hD.2.2 (P + m) (by omega), hy.out]
          have hidx : (i : Int) + (m : Int) - ((d0 : Int) + 1) = ((P + m : Nat) : Int) := by have := HPI.out; omega
          have hidx2 : ((P + m : Nat) : Int) < (n : Int) := by omega
          obtain ⟨q, hq⟩ : ∃ q, Hid (P + m = q) := ⟨_, rfl⟩
          rw [hq.out] at cy hidx hidx2
          clear hD
          by_cases hxy : x = y
          · have g3 : (x == y) = true := by simp [hxy]
            have HE2 : Hid (∀ j, j < m + 1 → ds.getD (i + j) 0 = ds.getD (P + j) 0) := fun j hj => by
              by_cases e : j = m
              · rw [e, hx.out, hy.out]; exact hxy
              · exact HE.out j (by omega)
            clear hxy
            go_wp2_with fail
            go_quiet (fail)
            go_wp2_with fail
            go_roundw
            case rel => exact ⟨m + 1, by omega, by go_num, HE2, HB.out.trans (Below.of_drewN _ _ _)⟩
            case measure => simp [intOf]; omega
          · have g3 : (x == y) = false := by simp [hxy]
            have HRN : Hid (rn ds i P M = m) := rn_of ds i P M m hm HE.out (fun _ => by rw [hx.out, hy.out]; exact hxy)
            have HB1 : Hid (bst ds i (d0 + 1) = if 4 ≤ m ∧ bl < m then (m, d0 + 1) else (bl, bd)) := by
              show _ = _
              simp only [bst]
              rw [hM.out, hP.out, HRN.out, HBS.out]
            clear hxy
            go_wp2_with fail
            go_quiet (fail)
            by_cases hbet : 4 ≤ m ∧ bl < m
            · have q3 : (4 : Int) ≤ (m : Int) := by omega
              have q4 : (bl : Int) < (m : Int) := by omega
              have HB2 : Hid (bst ds i (d0 + 1) = (m, d0 + 1)) := by show _ = _; rw [HB1.out, if_pos hbet]
              clear hbet
              go_wp2_with fail
              go_roundw
              case rel => exact ⟨d0 + 1, m, d0 + 1, by omega, by omega, by omega, rfl, by push_cast; rfl, by go_num, HB2, HB.out.trans (Below.of_drewN _ _ _)⟩
              case measure => simp [intOf]; omega
            · have HB2 : Hid (bst ds i (d0 + 1) = (bl, bd)) := by show _ = _; rw [HB1.out, if_neg hbet]
              by_cases h4 : 4 ≤ m
              · have q3 : (4 : Int) ≤ (m : Int) := by omega
                have q4 : decide (bl < m) = false := by rw [decide_eq_false_iff_not]; omega
                have q5 : m ≤ bl := by omega
                clear hbet h4
                go_wp2_with fail
                go_roundw
                case rel => exact ⟨d0 + 1, bl, bd, by omega, by omega, hbl, rfl, rfl, by go_num, HB2, HB.out.trans (Below.of_drewN _ _ _)⟩
                case measure => simp [intOf]; omega
              · have q3 : decide ((4 : Int) ≤ (m : Int)) = false := by rw [decide_eq_false_iff_not]; omega
                have q4 : m < 4 := by omega
                clear hbet h4
                go_wp2_with fail
                go_roundw
                case rel => exact ⟨d0 + 1, bl, bd, by omega, by omega, hbl, rfl, rfl, by go_num, HB2, HB.out.trans (Below.of_drewN _ _ _)⟩
                case measure => simp [intOf]; omega
        · obtain rfl : m = M := by omega
          have HRN : Hid (rn ds i P m = m) := rn_of ds i P m m hm HE.out (fun h => by omega)
          have HB1 : Hid (bst ds i (d0 + 1) = if 4 ≤ m ∧ bl < m then (m, d0 + 1) else (bl, bd)) := by
            show _ = _
            simp only [bst]
            rw [hM.out, hP.out, HRN.out, HBS.out]
          have gg : decide ((m : Int) < 259) = false ∨ ((m : Int) < 259 ∧ decide ((i : Int) + (m : Int) < (n : Int)) = false) := by
            by_cases h : m = 259
            · left; rw [decide_eq_false_iff_not]; omega
            · right; exact ⟨by omega, by rw [decide_eq_false_iff_not]; omega⟩
          rcases gg with g1 | ⟨g1, g2⟩
          all_goals
            go_wp2_with fail
            go_quiet (fail)
            by_cases hbet : 4 ≤ m ∧ bl < m
            · have q3 : (4 : Int) ≤ (m : Int) := by omega
              have q4 : (bl : Int) < (m : Int) := by omega
              have HB2 : Hid (bst ds i (d0 + 1) = (m, d0 + 1)) := by show _ = _; rw [HB1.out, if_pos hbet]
              clear hbet
              go_wp2_with fail
              go_roundw
              case rel => exact ⟨d0 + 1, m, d0 + 1, by omega, by omega, by omega, rfl, by push_cast; rfl, by go_num, HB2, HB.out.trans (Below.of_drewN _ _ _)⟩
              case measure => simp [intOf]; omega
            · have HB2 : Hid (bst ds i (d0 + 1) = (bl, bd)) := by show _ = _; rw [HB1.out, if_neg hbet]
              by_cases h4 : 4 ≤ m
              · have q3 : (4 : Int) ≤ (m : Int) := by omega
                have q4 : decide (bl < m) = false := by rw [decide_eq_false_iff_not]; omega
                have q5 : m ≤ bl := by omega
                clear hbet h4
                go_wp2_with fail
                go_roundw
                case rel => exact ⟨d0 + 1, bl, bd, by omega, by omega, hbl, rfl, rfl, by go_num, HB2, HB.out.trans (Below.of_drewN _ _ _)⟩
                case measure => simp [intOf]; omega
              · have q3 : decide ((4 : Int) ≤ (m : Int)) = false := by rw [decide_eq_false_iff_not]; omega
                have q4 : m < 4 := by omega
                clear hbet h4
                go_wp2_with fail
                go_roundw
                case rel => exact ⟨d0 + 1, bl, bd, by omega, by omega, hbl, rfl, rfl, by go_num, HB2, HB.out.trans (Below.of_drewN _ _ _)⟩
                case measure => simp [intOf]; omega
    · have hmin : min W i = d0 := by omega
      have HE : Hid (R = (bl, bd)) := by show R = _; rw [← hR.out, ← HBS.out]; unfold best; rw [hmin]
      have gg : decide ((d0 : Int) + 1 ≤ (W : Int)) = false ∨ ((d0 : Int) + 1 ≤ (W : Int) ∧ decide ((d0 : Int) + 1 ≤ (i : Int)) = false) := by
        by_cases h : d0 + 1 ≤ W
        · right; exact ⟨by omega, by rw [decide_eq_false_iff_not]; omega⟩
        · left; rw [decide_eq_false_iff_not]; omega
      clear hgo hmin
      rcases gg with g1 | ⟨g1, g2⟩
      · go_wp2_with fail
        go_ret2
        rw [HE.out]
        exact ⟨rfl, HB.out⟩
      · go_wp2_with fail
        go_ret2
        rw [HE.out]
        exact ⟨rfl, HB.out⟩
end Go.Proofs.Ytghokdmfhifgjaa
