/-
  May a piece be?
-/
import Derived.Test.YtaacidgihhcpkaaJMem
namespace Go.Proofs.Ytaacidgihhcpkaa
open Go.RowKit Pl
set_option linter.unusedVariables false
set_option linter.unusedSimpArgs false
set_option maxRecDepth 100000

set_option maxHeartbeats 400000 in
theorem mayJ_any (p : Pc) (a : Option Addr) (cap : Nat) (w : World) (hc : p.ys.length ≤ cap) (hm : cap ≤ maxLen) (hb : p.mn < 256) :
    Calls Try.prog 57 #[pcv p (.slice a p.ys.length cap)] w fun e w' => e = .returned (.bool (mayP p)) ∧ Below w.heap.size w w' := by
  obtain ⟨P, hP⟩ : ∃ x : Int, Hid ((p.pl : Int) = x) := ⟨_, rfl⟩
  obtain ⟨M, hM⟩ : ∃ x : Int, Hid ((p.mn : Int) = x) := ⟨_, rfl⟩
  obtain ⟨L, hL⟩ : ∃ x : Nat, Hid (p.ys.length = x) := ⟨_, rfl⟩
  have HR : Hid (mayP p = (decide (P < M) && (decide ((if M = 1 then 0 else if P < M - 1 then 232 else 1 : Int) ≤ (L : Int)) && decide ((L : Int) ≤ 232)))) := by
    show _ = _
    unfold mayP
    have e1 : (p.pl < p.mn) = (P < M) := by rw [← hP.out, ← hM.out]; simp
    have e3 : (p.ys.length ≤ 232) = ((L : Int) ≤ 232) := by rw [hL.out, eq_iff_iff]; omega
    have e2 : (lst p ≤ p.ys.length) = ((if M = 1 then 0 else if P < M - 1 then 232 else 1 : Int) ≤ (L : Int)) := by
      unfold lst
      rw [← hP.out, ← hM.out, hL.out, eq_iff_iff]
      by_cases c1 : p.mn = 1
      · have c1' : (p.mn : Int) = 1 := by omega
        rw [if_pos c1, if_pos c1']; omega
      · have c1' : ¬ (p.mn : Int) = 1 := by omega
        rw [if_neg c1, if_neg c1']
        by_cases c2 : p.pl + 1 < p.mn
        · have c2' : (p.pl : Int) < (p.mn : Int) - 1 := by omega
          rw [if_pos c2, if_pos c2']; omega
        · have c2' : ¬ (p.pl : Int) < (p.mn : Int) - 1 := by omega
          rw [if_neg c2, if_neg c2']; omega
    simp only [e1, e2, e3]
  have m0 : 0 ≤ M := by rw [← hM.out]; omega
  have m1 : M < 256 := by rw [← hM.out]; omega
  unfold pcv
  rw [hP.out, hM.out, hL.out]
  rw [hL.out] at hc
  have hcl : cap ≤ 9223372036854775807 := by unfold maxLen at hm; omega
  obtain ⟨G, hG⟩ : ∃ x : Int, Hid ((p.gen : Int) = x) := ⟨_, rfl⟩
  obtain ⟨N, hN⟩ : ∃ x : Int, Hid ((p.num : Int) = x) := ⟨_, rfl⟩
  rw [hG.out, hN.out]
  obtain ⟨W1, hW1⟩ : ∃ W1, w.alloc (.cells #[.int .i64 P, .int .i64 M, .int .i64 G, .int .i64 N, .slice a L cap] 82) = W1 := ⟨_, rfl⟩
  have HB : Hid (Below w.heap.size w W1) := by rw [← hW1]; exact (Below.refl _ _).alloc (Nat.le_refl _) _
  have Q : Bo W1 w.heap.size 82 [.int .i64 P, .int .i64 M, .int .i64 G, .int .i64 N, .slice a L cap] := by rw [← hW1]; exact bo_new w _ _
  have c0 := Q.cell (i := 0) rfl
  have c1 := Q.cell (i := 1) rfl
  have c4 := Q.cell (i := 4) rfl
  clear Q hm hP hM hL hG hN hb
  by_cases h1 : M = 1
  · have h1b : (M == 1) = true := by simp [h1]
    have H1 : Hid (M = 1) := h1
    clear h1
    by_cases h3 : P < M
    · by_cases h4 : (0 : Int) ≤ (L : Int)
      · by_cases h5 : (L : Int) ≤ 232
        · have HV : Hid (mayP p = true) := by show _ = _; rw [HR.out, if_pos H1.out, decide_eq_true h3, decide_eq_true h4, decide_eq_true h5]; rfl
          clear H1
          go_enter Try.func57, Try.ntmps57
          go_wp2_with fail
          go_ret
          exact ⟨by rw [HV.out]; rfl, HB.out⟩
        · have HV : Hid (mayP p = false) := by show _ = _; rw [HR.out, if_pos H1.out, decide_eq_true h3, decide_eq_true h4, decide_eq_false h5]; rfl
          clear H1
          go_enter Try.func57, Try.ntmps57
          go_wp2_with fail
          go_ret
          exact ⟨by rw [HV.out]; rfl, HB.out⟩
      · exact absurd (Int.natCast_nonneg L) h4
    · have HV : Hid (mayP p = false) := by show _ = _; rw [HR.out, if_pos H1.out, decide_eq_false h3]; rfl
      clear H1
      go_enter Try.func57, Try.ntmps57
      go_wp2_with fail
      go_ret
      exact ⟨by rw [HV.out]; rfl, HB.out⟩
  · have h1b : (M == 1) = false := by simp [h1]
    have H1 : Hid (¬ M = 1) := h1
    clear h1
    by_cases h2 : P < M - 1
    · by_cases h3 : P < M
      · by_cases h4 : (232 : Int) ≤ (L : Int)
        · by_cases h5 : (L : Int) ≤ 232
          · have HV : Hid (mayP p = true) := by show _ = _; rw [HR.out, if_neg H1.out, if_pos h2, decide_eq_true h3, decide_eq_true h4, decide_eq_true h5]; rfl
            clear H1
            go_enter Try.func57, Try.ntmps57
            go_wp2_with fail
            go_ret
            exact ⟨by rw [HV.out]; rfl, HB.out⟩
          · have HV : Hid (mayP p = false) := by show _ = _; rw [HR.out, if_neg H1.out, if_pos h2, decide_eq_true h3, decide_eq_true h4, decide_eq_false h5]; rfl
            clear H1
            go_enter Try.func57, Try.ntmps57
            go_wp2_with fail
            go_ret
            exact ⟨by rw [HV.out]; rfl, HB.out⟩
        · have HV : Hid (mayP p = false) := by show _ = _; rw [HR.out, if_neg H1.out, if_pos h2, decide_eq_true h3, decide_eq_false h4]; rfl
          clear H1
          go_enter Try.func57, Try.ntmps57
          go_wp2_with fail
          go_ret
          exact ⟨by rw [HV.out]; rfl, HB.out⟩
      · exact absurd (show P < M by omega) h3
    · by_cases h3 : P < M
      · by_cases h4 : (1 : Int) ≤ (L : Int)
        · by_cases h5 : (L : Int) ≤ 232
          · have HV : Hid (mayP p = true) := by show _ = _; rw [HR.out, if_neg H1.out, if_neg h2, decide_eq_true h3, decide_eq_true h4, decide_eq_true h5]; rfl
            clear H1
            go_enter Try.func57, Try.ntmps57
            go_wp2_with fail
            go_ret
            exact ⟨by rw [HV.out]; rfl, HB.out⟩
          · have HV : Hid (mayP p = false) := by show _ = _; rw [HR.out, if_neg H1.out, if_neg h2, decide_eq_true h3, decide_eq_true h4, decide_eq_false h5]; rfl
            clear H1
            go_enter Try.func57, Try.ntmps57
            go_wp2_with fail
            go_ret
            exact ⟨by rw [HV.out]; rfl, HB.out⟩
        · have HV : Hid (mayP p = false) := by show _ = _; rw [HR.out, if_neg H1.out, if_neg h2, decide_eq_true h3, decide_eq_false h4]; rfl
          clear H1
          go_enter Try.func57, Try.ntmps57
          go_wp2_with fail
          go_ret
          exact ⟨by rw [HV.out]; rfl, HB.out⟩
      · have HV : Hid (mayP p = false) := by show _ = _; rw [HR.out, if_neg H1.out, if_neg h2, decide_eq_false h3]; rfl
        clear H1
        go_enter Try.func57, Try.ntmps57
        go_wp2_with fail
        go_ret
        exact ⟨by rw [HV.out]; rfl, HB.out⟩
end Go.Proofs.Ytaacidgihhcpkaa
