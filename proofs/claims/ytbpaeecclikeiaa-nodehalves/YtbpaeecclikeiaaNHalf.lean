/-
  The halves of a node that is too big, plainly.
-/
import Derived.Test.YtbpaeecclikeiaaNSpl
namespace Go.Proofs.Ytbpaeecclikeiaa
open Go.RowKit Pl
set_option linter.unusedVariables false

theorem szA_drop (n : Nd) (k i : Nat) : szA (dropN n k) i = szA n (k + i) := by
  have h1 : kA (dropN n k) i = kA n (k + i) := by
    show (n.ks.drop k).getD i eS = n.ks.getD (k + i) eS
    rw [List.getD_eq_getElem?_getD, List.getElem?_drop, ← List.getD_eq_getElem?_getD]
  have h2 : vA (dropN n k) i = vA n (k + i) := by
    show (n.vs.drop k).getD i eS = n.vs.getD (k + i) eS
    rw [List.getD_eq_getElem?_getD, List.getElem?_drop, ← List.getD_eq_getElem?_getD]
  have h3 : (i < (dropN n k).kd.length) = (k + i < n.kd.length) := by
    have : (dropN n k).kd.length = n.kd.length - k := by simp [dropN]
    rw [this]
    exact propext ⟨fun h => by omega, fun h => by omega⟩
  unfold szA
  rw [h1, h2]
  simp only [h3]
  rfl
theorem szN_drop (n : Nd) (k : Nat) : ∀ j, szN (dropN n k) j + szN n k = szN n (k + j) + 1
  | 0 => by show 1 + szN n k = szN n k + 1; omega
  | j + 1 => by
    have := szN_drop n k j
    show szN (dropN n k) j + szA (dropN n k) j + szN n k = szN n (k + j) + szA n (k + j) + 1
    rw [szA_drop]
    omega
/-- Where every key with what stands beside it has at most 50 bytes, and the whole at most 292, both halves have at most 240. -/
theorem half_small {n : Nd} {m : Nat} (h : MidR n m) (h50 : ∀ i, i < n.ks.length → szA n i ≤ 50) (hbig : 240 < szN n n.ks.length) (hmax : szN n n.ks.length ≤ 292) :
    szN (takeN n m) m ≤ 240 ∧ szN (dropN n m) (n.ks.length - m) ≤ 240 := by
  have hl := h.lt
  have h1 := h.one
  have hm : ∀ k, k ≤ n.ks.length → szN n k ≤ szN n n.ks.length := by
    intro k hk
    obtain ⟨d, hd⟩ : ∃ d, k + d = n.ks.length := ⟨_, Nat.add_sub_of_le hk⟩
    rw [← hd]
    clear hd hk
    induction d with
    | zero => exact Nat.le_refl _
    | succ d ih => show _ ≤ szN n (k + d) + szA n (k + d); omega
  have hW : ∀ k, k ≤ n.ks.length → W (szN n k) = (szN n k : Int) := fun k hk => W_small (by have := hm k hk; omega)
  have hh : hlfN n = ((szN n n.ks.length / 2 : Nat) : Int) := by
    unfold hlfN
    rw [hW _ (Nat.le_refl _)]
    rcases tdiv2 (szN n n.ks.length : Int) with ⟨_, e⟩ | ⟨c, _⟩
    · rw [e]; omega
    · omega
  have hd := szN_drop n m (n.ks.length - m)
  rw [Nat.add_sub_of_le (by omega)] at hd
  rw [szN_take n m m (Nat.le_refl _)]
  have hst : szN n m = szN n (m - 1) + szA n (m - 1) := by
    obtain ⟨q, rfl⟩ : ∃ q, m = q + 1 := ⟨m - 1, by omega⟩
    rfl
  have ha := h50 (m - 1) (by omega)
  have hmm := hm m (by omega)
  constructor
  · by_cases c : m = 1
    · subst c
      have : szN n (1 - 1) = 1 := rfl
      omega
    · have := h.no (m - 1) (by omega) (by omega)
      rw [hW _ (by omega), hh] at this
      omega
  · rcases h.yes with e | e
    · have e1 : n.ks.length = m + 1 := by omega
      have hst2 : szN n n.ks.length = szN n m + szA n m := by rw [e1]; rfl
      have := h50 m (by omega)
      omega
    · rw [hh, hW _ (by omega)] at e
      omega
end Go.Proofs.Ytbpaeecclikeiaa
