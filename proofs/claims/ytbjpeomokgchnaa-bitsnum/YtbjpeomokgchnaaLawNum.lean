/-
  What the law on short numbers that are read comes to: true, and nothing that was there is touched.
-/
import Derived.Test.YtbjpeomokgchnaaLives
namespace Go.Proofs.Ytbjpeomokgchnaa
open Go.RowKit Pl
set_option linter.unusedVariables false

set_option maxHeartbeats 1000000 in
theorem bitsNum_walk (v : Value) (xs : List Int) (w : World) (h : Rd .u8 w v xs) (hx : By xs) :
    Calls Try.prog 8 #[v] w fun e w' => e = .returned (.bool true) ∧ Below w.heap.size w w' := by
  have H : Hid (Rd .u8 w v xs) := h
  have HX : Hid (By xs) := hx
  obtain ⟨R, HR⟩ : ∃ R, Hid (numRes xs = R) := ⟨_, rfl⟩
  clear h hx
  cases R with
  | none =>
    go_enter Try.func8, Try.ntmps8
    go_wp2_with fail
    refine (num_rd v xs w H.out HX.out).mono ?_
    rintro e w1 ⟨rfl, rfl⟩
    rw [HR.out]
    simp only [resN, resK, resE]
    go_wp2_with fail
    refine (refNum_rd v xs _ H.out HX.out).mono ?_
    rintro e w1 ⟨rfl, rfl⟩
    rw [HR.out]
    simp only [resN, resK, resE]
    go_wp2_with fail
    refine (lives_any _).mono ?_
    rintro e w2 ⟨rfl, hb⟩
    go_wp2_with fail
    go_ret
    exact ⟨rfl, hb⟩
  | some p =>
    obtain ⟨n, k⟩ := p
    obtain ⟨hk1, hkl, hk5, hcut⟩ := numRes_take HR.out
    have HCUT : Hid (numRes (xs.take (k - 1)) = none) := hcut
    clear hcut
    obtain ⟨a, cap, rfl, hl, hm, _, h⟩ := H.out
    obtain ⟨b, o, rfl, hc⟩ : ∃ b o, a = some ⟨b, o, none⟩ ∧ ∀ i, i < xs.length → w.cell? ⟨b, o + i, none⟩ = some (.int .u8 (xs.getD i 0)) := by
      rcases h with rfl | h
      · simp at hkl; omega
      · exact h
    have HT : Hid (Rd .u8 w (.slice (some ⟨b, o, none⟩) (k - 1) cap) (xs.take (k - 1))) := rd_take (k - 1) (by omega) hl hm hc
    clear h hc
    unfold maxLen at hm
    go_enter Try.func8, Try.ntmps8
    go_wp2_with fail
    refine (num_rd _ xs w H.out HX.out).mono ?_
    rintro e w1 ⟨rfl, rfl⟩
    rw [HR.out]
    simp only [resN, resK, resE]
    go_wp2_with fail
    refine (refNum_rd _ xs _ H.out HX.out).mono ?_
    rintro e w1 ⟨rfl, rfl⟩
    rw [HR.out]
    simp only [resN, resK, resE]
    go_wp2_with fail
    refine (num_rd _ _ _ HT.out (HX.out.take _)).mono ?_
    rintro e w1 ⟨rfl, rfl⟩
    rw [HCUT.out]
    simp only [resN, resK, resE]
    go_wp2_with fail
    refine (lives_any _).mono ?_
    rintro e w2 ⟨rfl, hb⟩
    go_wp2_with fail
    go_ret
    exact ⟨rfl, hb⟩
end Go.Proofs.Ytbjpeomokgchnaa
