/-
  The document's text.
-/
import Derived.Test.YtbpaeecclikeiaaNInv
namespace Go.Proofs.Ytbpaeecclikeiaa
open Go.RowKit Pl
set_option linter.unusedVariables false
set_option linter.unusedSimpArgs false
set_option maxRecDepth 100000

theorem drop_at {xs : List Int} {k : Nat} (h : k < xs.length) : xs.drop k = xs.getD k 0 :: xs.drop (k + 1) := by
  rw [List.drop_eq_getElem_cons h, List.getD_eq_getElem?_getD, List.getElem?_eq_getElem h]
  rfl
theorem txt_at {xs : List Int} {k : Nat} (h : k < xs.length) (hb : By xs) (h2 : k + 1 + (xs.getD k 0).toNat ≤ xs.length) :
    txtZ (xs.drop k, false) = (strOfNums ((xs.drop (k + 1)).take (xs.getD k 0).toNat), (xs.drop (k + 1 + (xs.getD k 0).toNat), false)) := by
  unfold txtZ
  rw [drop_at h, numZ_cons]
  simp only
  unfold takeZ
  rw [if_neg (by rw [List.length_drop]; intro h; rcases h with h | h; (· cases h); (· omega))]
  simp only [List.drop_drop]
theorem txt_no {xs : List Int} {k : Nat} (h : ¬ (k < xs.length ∧ k + 1 + (xs.getD k 0).toNat ≤ xs.length)) : (txtZ (xs.drop k, false)).2.2 = true := by
  by_cases hk : k < xs.length
  · unfold txtZ
    rw [drop_at hk, numZ_cons]
    simp only
    unfold takeZ
    rw [if_pos (.inr (by simp only [List.length_drop]; omega))]
  · have e : xs.drop k = [] := List.drop_of_length_le (by omega)
    rw [e]
    unfold txtZ
    have : (numZ (([] : List Int), false)).2.2 = true := by unfold numZ takeZ; rw [if_pos (.inr (by simp))]
    exact takeZ_short _ this

theorem results_threeN {fn : Func} {p q r : Tmp} (h : fn.results = #[.tmp p, .tmp q, .tmp r]) (tmps : Array Value) (P : Program) (w : World) (x y z : Value) (hx : tmps.getD p undef = x) (hy : tmps.getD q undef = y) (hz : tmps.getD r undef = z) :
    (results fn tmps).run P w = .ok (.tuple #[x, y, z]) w := by
  rw [results_tmp3 h, hx, hy, hz]

set_option maxHeartbeats 400000 in
theorem text_any (v : Value) (xs : List Int) (at_ : Nat) (w : World) (hr : Rd .u8 w v xs) (hb : By xs) (ha : at_ ≤ 4611686018427387904) :
    Calls Try.prog 37 #[v, .int .i64 (at_ : Int)] w fun e w' => ((∃ nx : Nat, e = .returned (.tuple #[.string (txtZ (xs.drop at_, false)).1, .int .i64 (nx : Int), .bool true]) ∧ (txtZ (xs.drop at_, false)).2 = (xs.drop nx, false) ∧ nx ≤ xs.length) ∨ (e = .returned (.tuple #[.string ⟨#[]⟩, .int .i64 0, .bool false]) ∧ (txtZ (xs.drop at_, false)).2.2 = true)) ∧ w' = w := by
  obtain ⟨a, cap, rfl, h1, h2, _, h4⟩ := id hr
  have HR := hideN hr
  have hL9 : xs.length ≤ 9223372036854775807 := by unfold maxLen at h2; omega
  have hbk := hb at_
  obtain ⟨L, hL⟩ : ∃ L, Hid (xs.length = L) := ⟨_, rfl⟩
  obtain ⟨x, hx⟩ : ∃ x, Hid (xs.getD at_ 0 = x) := ⟨_, rfl⟩
  obtain ⟨T, hT⟩ : ∃ T, Hid (txtZ (xs.drop at_, false) = T) := ⟨_, rfl⟩
  have HNO : Hid (¬ (at_ < L ∧ at_ + 1 + x.toNat ≤ L) → T.2.2 = true) := fun h => by rw [← hT.out]; exact txt_no (by rw [hL.out, hx.out]; exact h)
  have HYES : Hid (at_ < L → at_ + 1 + x.toNat ≤ L → T = (strOfNums ((xs.drop (at_ + 1)).take x.toNat), (xs.drop (at_ + 1 + x.toNat), false))) := fun q1 q2 => by
    have := txt_at (xs := xs) (k := at_) (by rw [hL.out]; exact q1) hb (by rw [hL.out, hx.out]; exact q2)
    rw [hT.out, hx.out] at this
    exact this
  rw [hT.out]
  rw [hL.out] at HR h1 hL9 ⊢
  rw [hx.out] at hbk
  by_cases hk : at_ < L
  · rcases h4 with h4 | ⟨b, o, rfl, hc⟩
    · rw [h4] at hL; have := hL.out; simp at this; omega
    have cx : w.cell? ⟨b, o + at_, none⟩ = some (.int .u8 x) := by rw [hc at_ (by rw [hL.out]; exact hk), hx.out]
    have HC := hideN hc
    have HC2 := hideN h2
    clear hr hc h2
    obtain ⟨m, hm⟩ : ∃ m : Nat, x = (m : Int) := ⟨x.toNat, by omega⟩
    subst hm
    have hm5 : m ≤ 255 := by omega
    have hd1 : decide ((L : Int) ≤ (at_ : Int)) = false := by rw [decide_eq_false_iff_not]; omega
    by_cases hfit : at_ + 1 + m ≤ L
    · have HY := hideN (HYES.out hk (by rw [Int.toNat_natCast]; exact hfit))
      have hd2 : decide ((L : Int) < (at_ : Int) + 1 + (m : Int)) = false := by rw [decide_eq_false_iff_not]; omega
      have RR : Rd .u8 w (.slice (some ⟨b, o + (at_ + 1), none⟩) m (cap - (at_ + 1))) ((xs.drop (at_ + 1)).take m) := by
        have el : ((xs.drop (at_ + 1)).take m).length = m := by rw [List.length_take, List.length_drop, hL.out]; omega
        refine ⟨_, cap - (at_ + 1), by rw [el], by rw [el]; omega, by have := HC2.out; omega, (fun e => by cases e), .inr ⟨b, o + (at_ + 1), rfl, fun i hi => ?_⟩⟩
        rw [el] at hi
        rw [Nat.add_assoc, HC.out (at_ + 1 + i) (by rw [hL.out]; omega), List.getD_eq_getElem?_getD, List.getD_eq_getElem?_getD, List.getElem?_take, if_pos hi, List.getElem?_drop]
      have hrun := run_str w _ _ RR
      obtain ⟨s, hs⟩ : ∃ s, Hid (strOfNums ((xs.drop (at_ + 1)).take m) = s) := ⟨_, rfl⟩
      rw [hs.out] at hrun
      have e1 : Hid (T.1 = s ∧ T.2 = (xs.drop (at_ + 1 + m), false)) := by show _ ∧ _; rw [HY.out]; simp only [Int.toNat_natCast]; exact ⟨hs.out, trivial⟩
      rw [e1.out.1]
      clear RR HNO HYES HY
      have hnx : ((at_ : Int) + 1 + (m : Int)) = ((at_ + 1 + m : Nat) : Int) := by omega
      have HNX := hideN hnx
      clear hnx
      by_cases hcap : cap = at_ + 1
      · have hm0 : m = 0 := by omega
        subst hm0
        have hrun0 := run_str w (.slice (some ⟨b, o, none⟩) 0 0) [] ⟨some ⟨b, o, none⟩, 0, rfl, Nat.le_refl _, by unfold maxLen; omega, fun _ => rfl, .inl rfl⟩
        have hs0 : strOfNums [] = s := by rw [← hs.out]; rfl
        rw [hs0] at hrun0
        clear hs0 hrun
        subst hcap
        go_enter Try.func37, Try.ntmps37
        go_wp2_with fail
        all_goals
          refine bodyPost_ret (v := .tuple #[.string s, .int .i64 ((at_ : Int) + 1), .bool true]) (results_threeN rfl _ _ _ _ _ _ rfl rfl rfl) rfl ?_
          exact ⟨.inl ⟨at_ + 1, by first | rfl | simp, by simpa using e1.out.2, by omega⟩, rfl⟩
      · go_enter Try.func37, Try.ntmps37
        go_wp2_with fail
        all_goals
          refine bodyPost_ret (v := .tuple #[.string s, .int .i64 ((at_ : Int) + 1 + (m : Int)), .bool true]) (results_threeN rfl _ _ _ _ _ _ rfl rfl rfl) rfl ?_
          exact ⟨.inl ⟨at_ + 1 + m, by rw [HNX.out], e1.out.2, by omega⟩, rfl⟩
    · have HN := hideN (HNO.out (by rw [Int.toNat_natCast]; omega))
      have hd2 : (L : Int) < (at_ : Int) + 1 + (m : Int) := by omega
      clear HNO HYES
      go_enter Try.func37, Try.ntmps37
      go_wp2_with fail
      refine bodyPost_ret (v := .tuple #[.string ⟨#[]⟩, .int .i64 0, .bool false]) (results_threeN rfl _ _ _ _ _ _ rfl rfl rfl) rfl ?_
      exact ⟨.inr ⟨rfl, HN.out⟩, rfl⟩
  · have HN := hideN (HNO.out (by omega))
    have hd1 : (L : Int) ≤ (at_ : Int) := by omega
    clear hr h4 h2 HNO HYES
    go_enter Try.func37, Try.ntmps37
    go_wp2_with fail
    refine bodyPost_ret (v := .tuple #[.string ⟨#[]⟩, .int .i64 0, .bool false]) (results_threeN rfl _ _ _ _ _ _ rfl rfl rfl) rfl ?_
    exact ⟨.inr ⟨rfl, HN.out⟩, rfl⟩
end Go.Proofs.Ytbpaeecclikeiaa
