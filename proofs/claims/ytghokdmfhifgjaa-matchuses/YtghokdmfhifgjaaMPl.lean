/-
  Matches, plainly: how many bytes are the same, the best match, and the chain of places.
-/
import Derived.Test.YtghokdmfhifgjaaMSlot
namespace Go.Proofs.Ytghokdmfhifgjaa
open Go.RowKit Pl
set_option linter.unusedVariables false

/-- How many bytes from two places on are the same, at most so many. -/
def rn (ds : List Int) (p q : Nat) : Nat → Nat
  | 0 => 0
  | m + 1 => if rn ds p q m = m ∧ ds.getD (p + m) 0 = ds.getD (q + m) 0 then m + 1 else rn ds p q m

theorem rn_le (ds : List Int) (p q : Nat) : ∀ m, rn ds p q m ≤ m
  | 0 => Nat.le_refl _
  | m + 1 => by
    have := rn_le ds p q m
    simp only [rn]
    split <;> omega

theorem rn_eq (ds : List Int) (p q : Nat) : ∀ m j, j < rn ds p q m → ds.getD (p + j) 0 = ds.getD (q + j) 0
  | 0, j, h => by simp [rn] at h
  | m + 1, j, h => by
    simp only [rn] at h
    split at h
    · rename_i h1
      by_cases e : j = m
      · rw [e]; exact h1.2
      · exact rn_eq ds p q m j (by rw [h1.1]; omega)
    · exact rn_eq ds p q m j h

theorem rn_ne (ds : List Int) (p q : Nat) : ∀ m, rn ds p q m < m → ds.getD (p + rn ds p q m) 0 ≠ ds.getD (q + rn ds p q m) 0
  | 0, h => by omega
  | m + 1, h => by
    simp only [rn] at h ⊢
    split at h
    · omega
    · rename_i h1
      rw [if_neg h1]
      by_cases e : rn ds p q m = m
      · rw [e]
        exact fun h2 => h1 ⟨e, h2⟩
      · exact rn_ne ds p q m (by have := rn_le ds p q m; omega)

theorem rn_of (ds : List Int) (p q m n : Nat) (hn : n ≤ m) (h1 : ∀ j, j < n → ds.getD (p + j) 0 = ds.getD (q + j) 0) (h2 : n < m → ds.getD (p + n) 0 ≠ ds.getD (q + n) 0) : rn ds p q m = n := by
  have hl := rn_le ds p q m
  rcases Nat.lt_trichotomy (rn ds p q m) n with e | e | e
  · exact absurd (h1 _ e) (rn_ne ds p q m (by omega))
  · exact e
  · exact absurd (rn_eq ds p q m n e) (h2 (by omega))

theorem rn_comm (ds : List Int) (p q m : Nat) : rn ds p q m = rn ds q p m :=
  rn_of ds p q m _ (rn_le _ _ _ _) (fun j hj => (rn_eq ds q p m j hj).symm) (fun h e => rn_ne ds q p m h e.symm)

/-- How long a match at a place may be. -/
def ml (ds : List Int) (i : Nat) : Nat := min 259 (ds.length - i)

/-- The best match at a place among the first distances. -/
def bst (ds : List Int) (i : Nat) : Nat → Nat × Nat
  | 0 => (0, 0)
  | d + 1 => if 4 ≤ rn ds i (i - (d + 1)) (ml ds i) ∧ (bst ds i d).1 < rn ds i (i - (d + 1)) (ml ds i) then (rn ds i (i - (d + 1)) (ml ds i), d + 1) else bst ds i d

theorem bst_le (ds : List Int) (i : Nat) : ∀ d, (bst ds i d).1 ≤ ml ds i
  | 0 => Nat.zero_le _
  | d + 1 => by
    simp only [bst]
    split
    · exact rn_le _ _ _ _
    · exact bst_le ds i d

theorem bst_mono (ds : List Int) (i : Nat) {d e : Nat} (h : d ≤ e) : (bst ds i d).1 ≤ (bst ds i e).1 := by
  induction e with
  | zero => obtain rfl : d = 0 := by omega
            exact Nat.le_refl _
  | succ e ih =>
    by_cases c : d = e + 1
    · rw [c]; exact Nat.le_refl _
    · have := ih (by omega)
      simp only [bst]
      split
      · rename_i h1; exact Nat.le_trans this (Nat.le_of_lt h1.2)
      · exact this

/-- Nothing better comes, if none of the distances between has four bytes. -/
theorem bst_skip (ds : List Int) (i : Nat) {d e : Nat} (h : d ≤ e) (hs : ∀ t, d < t → t ≤ e → rn ds i (i - t) (ml ds i) < 4 ∨ rn ds i (i - t) (ml ds i) ≤ (bst ds i d).1) : bst ds i e = bst ds i d := by
  induction e with
  | zero => obtain rfl : d = 0 := by omega
            rfl
  | succ e ih =>
    by_cases c : d = e + 1
    · rw [c]
    · have h1 := ih (by omega) (fun t h1 h2 => hs t h1 (by omega))
      simp only [bst]
      rw [h1, if_neg]
      intro h2
      rcases hs (e + 1) (by omega) (Nat.le_refl _) with h3 | h3 <;> omega

/-- The best match at a place. -/
def best (ds : List Int) (win i : Nat) : Nat × Nat := bst ds i (min win i)

/-- The last place ahead of k with that slot, and one; or none. -/
def pv (ds : List Int) (s : Nat) : Nat → Nat
  | 0 => 0
  | k + 1 => if sl ds k = s then k + 1 else pv ds s k

theorem pv_le (ds : List Int) (s : Nat) : ∀ k, pv ds s k ≤ k
  | 0 => Nat.le_refl _
  | k + 1 => by
    have := pv_le ds s k
    simp only [pv]
    split <;> omega

theorem pv_sl (ds : List Int) (s : Nat) : ∀ k, 0 < pv ds s k → sl ds (pv ds s k - 1) = s
  | 0, h => by simp [pv] at h
  | k + 1, h => by
    simp only [pv] at h ⊢
    split at h
    · rename_i h1; rw [if_pos h1]; exact h1
    · rename_i h1; rw [if_neg h1]; exact pv_sl ds s k h

theorem pv_none (ds : List Int) (s : Nat) : ∀ k q, pv ds s k ≤ q → q < k → sl ds q ≠ s
  | 0, q, _, h => by omega
  | k + 1, q, h, h2 => by
    simp only [pv] at h
    split at h
    · omega
    · rename_i h1
      by_cases e : q = k
      · rw [e]; exact h1
      · exact pv_none ds s k q h (by omega)

/-- Places of unlike slots have no four bytes the same. -/
theorem rn_slot (ds : List Int) (i q m : Nat) (h : sl ds q ≠ sl ds i) : rn ds i q m < 4 := by
  rcases Nat.lt_or_ge (rn ds i q m) 4 with e | e
  · exact e
  · exfalso
    apply h
    have h0 := rn_eq ds i q m 0 (by omega)
    have h1 := rn_eq ds i q m 1 (by omega)
    have h2 := rn_eq ds i q m 2 (by omega)
    have h3 := rn_eq ds i q m 3 (by omega)
    rw [Nat.add_zero, Nat.add_zero] at h0
    unfold sl
    rw [h0, h1, h2, h3]

/-- One link of the chain further: what is known of the best one. -/
theorem best_link (ds : List Int) (win i k : Nat) (hk : k < i) (hw : i - k ≤ win) : bst ds i (min win (i - pv ds (sl ds i) k)) = bst ds i (i - k) := by
  have hp := pv_le ds (sl ds i) k
  refine bst_skip ds i (by omega) (fun t h1 h2 => .inl (rn_slot ds i (i - t) _ ?_))
  exact pv_none ds (sl ds i) k (i - t) (by omega) (by omega)

theorem best_start (ds : List Int) (win i : Nat) : bst ds i (min win (i - pv ds (sl ds i) i)) = (0, 0) := by
  have hp := pv_le ds (sl ds i) i
  have := bst_skip ds i (d := 0) (e := min win (i - pv ds (sl ds i) i)) (Nat.zero_le _) (fun t h1 h2 => .inl (rn_slot ds i (i - t) _ (pv_none ds (sl ds i) i (i - t) (by omega) (by omega))))
  rw [this]
  rfl
end Go.Proofs.Ytghokdmfhifgjaa
