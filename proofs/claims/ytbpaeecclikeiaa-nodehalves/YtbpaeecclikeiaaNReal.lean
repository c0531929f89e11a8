/-
  Of a node that may be: its sizes are what they are, its bytes are as many.
-/
import Derived.Test.YtbpaeecclikeiaaNMay
namespace Go.Proofs.Ytbpaeecclikeiaa
open Go.RowKit Pl
set_option linter.unusedVariables false

theorem szN_le {n : Nd} {m : Nat} (hk : ∀ i, i < m → (kA n i).size ≤ 24) (hv : n.lf = true → ∀ i, i < m → (vA n i).size ≤ 24) (k : Nat) (h : k ≤ m) : szN n k ≤ 1 + k * 51 := by
  induction k with
  | zero => simp [szN]
  | succ k ih =>
    have h1 := ih (by omega)
    have h2 := hk k (by omega)
    have h3 : szA n k ≤ 51 := by
      unfold szA
      by_cases hl : n.lf = true
      · have := hv hl k (by omega)
        rw [if_pos hl]; omega
      · rw [if_neg hl]; split <;> omega
    simp only [szN]
    omega
theorem szN_ge (n : Nd) (k : Nat) : 1 + k ≤ szN n k := by
  induction k with
  | zero => simp [szN]
  | succ k ih => simp only [szN, szA]; omega
theorem szN_mono (n : Nd) {j k : Nat} (h : j ≤ k) : szN n j ≤ szN n k := by
  induction k with
  | zero => have : j = 0 := by omega
            subst this; exact Nat.le_refl _
  | succ k ih =>
    by_cases e : j ≤ k
    · have := ih e; simp only [szN]; omega
    · have : j = k + 1 := by omega
      subst this; exact Nat.le_refl _

structure Rl (n : Nd) : Prop where
  sz : szN n n.ks.length ≤ 240
  len : 1 ≤ n.ks.length ∧ n.ks.length ≤ 239
  ks : ∀ i, i < n.ks.length → (kA n i).size ≤ 24
  vs : n.lf = true → n.vs.length = n.ks.length ∧ n.kd.length = 0 ∧ ∀ i, i < n.ks.length → (vA n i).size ≤ 24
  kd : n.lf = false → n.kd.length = n.ks.length ∧ n.vs.length = 0 ∧ ∀ i, i < n.ks.length → 0 ≤ dA n i ∧ dA n i ≤ 65535
theorem may_real {n : Nd} (h : MayP n) (hl : n.ks.length ≤ 17592186043904) : Rl n := by
  obtain ⟨h1, h2, h3, h4⟩ := h
  have hk : ∀ i, i < n.ks.length → (kA n i).size ≤ 24 := fun i hi => (h3 i hi).1
  have hv : n.lf = true → n.vs.length = n.ks.length ∧ n.kd.length = 0 ∧ ∀ i, i < n.ks.length → (vA n i).size ≤ 24 := fun e => by
    rw [if_pos e] at h4
    exact ⟨h4.2.1, h4.2.2, fun i hi => h4.1 i (by rw [h4.2.1]; exact hi)⟩
  have hd : n.lf = false → n.kd.length = n.ks.length ∧ n.vs.length = 0 ∧ ∀ i, i < n.ks.length → 0 ≤ dA n i ∧ dA n i ≤ 65535 := fun e => by
    rw [if_neg (by rw [e]; decide)] at h4
    exact ⟨h4.2.1, h4.2.2, fun i hi => h4.1 i (by rw [h4.2.1]; exact hi)⟩
  have h5 := szN_le hk (fun e => (hv e).2.2) n.ks.length (Nat.le_refl _)
  have h6 : W (szN n n.ks.length) = (szN n n.ks.length : Int) := W_small (by omega)
  rw [h6] at h2
  have h7 := szN_ge n n.ks.length
  exact ⟨by omega, ⟨h1, by omega⟩, hk, hv, hd⟩
theorem itm_len {n : Nd} (h : Rl n) {k : Nat} (hk : k < n.ks.length) : (itm n k).length = szA n k := by
  unfold itm szA
  cases e : n.lf with
  | true => simp only [if_true, List.length_cons, List.length_append, bts_len]; omega
  | false =>
    have := (h.kd e).1
    simp only [Bool.false_eq_true, if_false, List.length_cons, List.length_append, bts_len, List.length_nil]
    rw [if_pos (by omega)]
    omega
theorem enc_len {n : Nd} (h : Rl n) {k : Nat} (hk : k ≤ n.ks.length) : (encN n k).length = szN n k := by
  induction k with
  | zero => rfl
  | succ k ih => simp only [encN, szN, List.length_append]; rw [ih (by omega), itm_len h (by omega)]
theorem enc_le {n : Nd} (h : Rl n) {k : Nat} (hk : k ≤ n.ks.length) : (encN n k).length ≤ 240 := by
  rw [enc_len h hk]
  exact Nat.le_trans (szN_mono n hk) h.sz
end Go.Proofs.Ytbpaeecclikeiaa
