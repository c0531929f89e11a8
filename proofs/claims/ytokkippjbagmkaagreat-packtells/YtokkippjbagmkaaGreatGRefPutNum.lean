import Derived.Test.YtokkippjbagmkaaGreatGNum
set_option maxRecDepth 100000
/-
  What the document's own writer of short numbers answers.
-/
namespace Go.Proofs.YtokkippjbagmkaaGreat
open Go.RowKit Pl
set_option linter.unusedVariables false

set_option maxHeartbeats 1000000 in
theorem refPutNum_ok (v : Value) (xs : List Int) (n : Int) (w : World) (h : Rd .u8 w v xs) (hb : xs.length ≤ 140737488355000) (h0 : 0 ≤ n) (h1 : n ≤ 4294967295) :
    Calls Tryz.prog 15 #[v, .int .i64 n] w fun e w' => ∃ v', e = .returned (.tuple #[v', .int .i64 0]) ∧ Owns .u8 5 w' v' (xs ++ digits n) ∧ Grew w w' (.slice none 0 0) v' := by
  have H : Hid (Rd .u8 w v xs) := h
  clear h
  go_enter Tryz.func15, Tryz.ntmps15
  go_wp2_with (at_builtin; refine wpList_many _ rfl (.tmp 7) (.tmp 8) 22 rfl 5 .u8 1 elem8 _ [] rfl (owns_nil _ _ _) _ xs rfl H.out ?a1 ?a2 ?_)
  case a1 => simp; omega
  case a2 => simp; omega
  intro v1 w1 ho hg
  go_wp2_with fail
  go_loopw [1, 6] (fun m r wr => ∃ (f : Nat) (q : Int) (done : List Int), m = .int .i64 q ∧ 0 ≤ q ∧ q ≤ 4294967295 ∧ done.length + f = 4 ∧ Hid (q < 128 ^ (f + 1)) ∧ Hid (done ++ dig f q = digits n) ∧
      Owns .u8 5 wr r (xs ++ done) ∧ Grew w wr (.slice none 0 0) r) (fun m _ _ => (intOf m).toNat)
  case atStart =>
    exact ⟨4, n, [], rfl, h0, h1, rfl, by show n < 128 ^ (4 + 1); have : (128 : Int) ^ (4 + 1) = 34359738368 := by decide
                                          omega, rfl, by simpa using ho, hg⟩
  case round =>
    obtain ⟨f, q, done, rfl, hq0, hq1, hf4, hqf, hD, hO, hG⟩ := hrel
    have HO : Hid (Owns .u8 5 wr u6 (xs ++ done)) := hO
    have HG : Hid (Grew w wr (.slice none 0 0) u6) := hG
    clear hO hG ho hg
    by_cases h128 : 128 ≤ q
    · obtain ⟨f', rfl⟩ : ∃ f', f = f' + 1 := by
        cases f with
        | zero => have := hqf.out; simp at this; omega
        | succ f' => exact ⟨f', rfl⟩
      have hp : (128 : Int) ^ (f' + 1 + 1) = 128 ^ (f' + 1) * 128 := Int.pow_succ _ _
      have HQ : Hid (q / 128 < 128 ^ (f' + 1)) := by show q / 128 < _; have := hqf.out; omega
      have HD : Hid ((done ++ [q % 128 + 128]) ++ dig f' (q / 128) = digits n) := by
        have := hD.out
        simp only [dig] at this
        rw [if_pos h128] at this
        simpa [Hid] using this
      clear hp hqf hD
      go_wp2_with (at_builtin; refine wpList_push _ rfl (.tmp 19) (.tmp 24) 22 rfl 5 .u8 1 elem8 _ (xs ++ done) rfl HO.out (q % 128 + 128) rfl ?b1 ?b2 ?_)
      case b1 => first | omega | (simp; omega)
      case b2 => first | omega | (simp; omega)
      intro v' w2 hO2 hG2
      have hG3 := HG.out.trans hG2
      have hO3 : Owns .u8 5 w2 v' (xs ++ (done ++ [q % 128 + 128])) := by simpa using hO2
      clear hG2 hO2
      go_wp2_with fail
      go_roundw
      case rel => exact ⟨f', q / 128, done ++ [q % 128 + 128], rfl, by omega, by omega, by simp; omega, HQ, HD, hO3, hG3⟩
      case measure => simp [intOf]; omega
    · have HD : Hid (done ++ [q] = digits n) := by
        have := hD.out
        cases f with
        | zero => exact this
        | succ f' =>
          simp only [dig] at this
          rw [if_neg h128] at this
          exact this
      clear hD hqf
      go_wp2_with (at_builtin; refine wpList_push _ rfl (.tmp 28) (.tmp 31) 22 rfl 5 .u8 1 elem8 _ (xs ++ done) rfl HO.out q rfl ?c1 ?c2 ?_)
      case c1 => first | omega | (simp; omega)
      case c2 => first | omega | (simp; omega)
      intro v' w2 hO2 hG2
      have hG3 := HG.out.trans hG2
      have hO3 : Owns .u8 5 w2 v' (xs ++ digits n) := by rw [← HD.out]; simpa using hO2
      clear hG2 hO2
      go_wp2_with fail
      go_ret2
      exact ⟨v', rfl, hO3, hG3⟩

theorem refPutNum_bad (v : Value) (xs : List Int) (n : Int) (w : World) (h : Rd .u8 w v xs) (hb : xs.length ≤ 140737488355000) (h0 : n < 0 ∨ 4294967295 < n) :
    Calls Tryz.prog 15 #[v, .int .i64 n] w fun e w' => ∃ v', e = .returned (.tuple #[v', .int .i64 1]) ∧ Owns .u8 5 w' v' xs ∧ Grew w w' (.slice none 0 0) v' := by
  have H : Hid (Rd .u8 w v xs) := h
  clear h
  rcases h0 with h0 | h0
  · go_enter Tryz.func15, Tryz.ntmps15
    go_wp2_with (at_builtin; refine wpList_many _ rfl (.tmp 7) (.tmp 8) 22 rfl 5 .u8 1 elem8 _ [] rfl (owns_nil _ _ _) _ xs rfl H.out ?a1 ?a2 ?_)
    case a1 => simp; omega
    case a2 => simp; omega
    intro v1 w1 ho hg
    go_wp2_with fail
    go_ret2
    exact ⟨v1, rfl, by simpa using ho, hg⟩
  · go_enter Tryz.func15, Tryz.ntmps15
    go_wp2_with (at_builtin; refine wpList_many _ rfl (.tmp 7) (.tmp 8) 22 rfl 5 .u8 1 elem8 _ [] rfl (owns_nil _ _ _) _ xs rfl H.out ?a3 ?a4 ?_)
    case a3 => simp; omega
    case a4 => simp; omega
    intro v1 w1 ho hg
    go_wp2_with fail
    go_ret2
    exact ⟨v1, rfl, by simpa using ho, hg⟩

end Go.Proofs.YtokkippjbagmkaaGreat
