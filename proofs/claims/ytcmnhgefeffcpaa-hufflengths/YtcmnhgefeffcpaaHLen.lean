/-
  Lengths of counts: which stand, what they weigh, and the lengths in their places.
-/
import Derived.Test.YtcmnhgefeffcpaaHShal
namespace Go.Proofs.Ytcmnhgefeffcpaa
open Go.RowKit Pl Hf
set_option linter.unusedVariables false
set_option maxRecDepth 100000

theorem getD_rng (f : Nat → Int) (n b : Nat) (h : b < n) : ((List.range n).map f).getD b 0 = f b := by simp [List.getD_eq_getElem?_getD, h]
theorem getD_rep (n i : Nat) : (List.replicate n (0 : Int)).getD i 0 = 0 := by
  simp only [List.getD_eq_getElem?_getD, List.getElem?_replicate]
  split <;> simp

/-- Which of the first k stand. -/
def st (cs : List Int) (k : Nat) : List Nat := (List.range k).filter fun i => 0 < cs.getD i 0
def stI (cs : List Int) (k : Nat) : List Int := (st cs k).map fun (i : Nat) => (i : Int)
def wt (cs : List Int) (k : Nat) : List Int := (st cs k).map fun i => cs.getD i 0

theorem st_succ (cs : List Int) (k : Nat) : st cs (k + 1) = if 0 < cs.getD k 0 then st cs k ++ [k] else st cs k := by
  unfold st
  rw [List.range_succ, List.filter_append]
  by_cases h : 0 < cs.getD k 0
  · rw [if_pos h]; simp only [List.filter_cons, List.filter_nil, h, decide_true, if_true]
  · rw [if_neg h]; simp only [List.filter_cons, List.filter_nil, h, decide_false]; simp

theorem mem_st {cs : List Int} {k i : Nat} : i ∈ st cs k ↔ i < k ∧ 0 < cs.getD i 0 := by simp [st]
theorem st_le (cs : List Int) (k : Nat) : (st cs k).length ≤ k := by
  have := List.length_filter_le (fun i => decide (0 < cs.getD i 0)) (List.range k)
  simpa [st] using this
theorem stI_length (cs : List Int) (k : Nat) : (stI cs k).length = (st cs k).length := by simp [stI]
theorem wt_length (cs : List Int) (k : Nat) : (wt cs k).length = (st cs k).length := by simp [wt]

/-- Where a byte stands among those that stand. -/
abbrev rk (cs : List Int) (b : Nat) : Nat := (st cs b).length

/-- The list begins with those that stand ahead. -/
theorem st_take (cs : List Int) {b k : Nat} (h : b ≤ k) : (st cs k).take (rk cs b) = st cs b := by
  induction k with
  | zero => obtain rfl : b = 0 := by omega
            simp [st]
  | succ k ih =>
    by_cases e : b = k + 1
    · subst e; exact List.take_length
    · have := ih (by omega)
      rw [st_succ]
      split
      · have hle : (st cs b).length ≤ (st cs k).length := by
          have h2 := congrArg List.length this
          rw [List.length_take] at h2
          have h3 : min (st cs b).length (st cs k).length = (st cs b).length := h2
          omega
        rw [List.take_append_of_le_length hle]
        exact this
      · exact this

theorem st_get (cs : List Int) {b k : Nat} (hb : b < k) (hp : 0 < cs.getD b 0) : rk cs b < (st cs k).length ∧ (st cs k).getD (rk cs b) 0 = b := by
  have h1 := st_take cs (b := b + 1) (k := k) (by omega)
  have h2 : st cs (b + 1) = st cs b ++ [b] := by rw [st_succ, if_pos hp]
  have h3 : rk cs (b + 1) = rk cs b + 1 := by unfold rk; rw [h2]; simp
  have h4 : rk cs (b + 1) ≤ (st cs k).length := by
    have := congrArg List.length h1
    rw [List.length_take] at this
    have h5 : min (rk cs (b + 1)) (st cs k).length = rk cs (b + 1) := this
    omega
  refine ⟨by omega, ?_⟩
  have : ((st cs k).take (rk cs (b + 1))).getD (rk cs b) 0 = b := by
    rw [h1, h2]
    simp [List.getD_eq_getElem?_getD, rk]
  rw [List.getD_eq_getElem?_getD, List.getElem?_take, if_pos (by omega), ← List.getD_eq_getElem?_getD] at this
  exact this

/-- Which is the i-th that stands: i stand ahead of it. -/
theorem rk_st (cs : List Int) {k i : Nat} (hi : i < (st cs k).length) : rk cs ((st cs k).getD i 0) = i ∧ (st cs k).getD i 0 < k ∧ 0 < cs.getD ((st cs k).getD i 0) 0 := by
  induction k with
  | zero => simp [st] at hi
  | succ k ih =>
    rw [st_succ] at hi ⊢
    split at hi
    · rename_i hp
      rw [if_pos hp]
      by_cases e : i < (st cs k).length
      · have := ih e
        have eg : (st cs k ++ [k]).getD i 0 = (st cs k).getD i 0 := by simp [List.getD_eq_getElem?_getD, List.getElem?_append_left e]
        rw [eg]
        exact ⟨this.1, by omega, this.2.2⟩
      · simp at hi
        have ei : i = (st cs k).length := by omega
        subst ei
        have eg : (st cs k ++ [k]).getD (st cs k).length 0 = k := by simp [List.getD_eq_getElem?_getD]
        rw [eg]
        exact ⟨rfl, by omega, hp⟩
    · rename_i hp
      rw [if_neg hp]
      have := ih hi
      exact ⟨this.1, by omega, this.2.2⟩

/-- The last one that stands. -/
abbrev lastSt (cs : List Int) : Nat := (st cs cs.length).getD ((st cs cs.length).length - 1) 0

/-- Lengths in their places, of the first k that stand. -/
def lensTo (cs ds : List Int) (k : Nat) : List Int := (List.range (lastSt cs + 1)).map fun b => if 0 < cs.getD b 0 ∧ rk cs b < k then ds.getD (rk cs b) 0 else 0
abbrev lens (cs ds : List Int) : List Int := lensTo cs ds (st cs cs.length).length

theorem lensTo_length (cs ds : List Int) (k : Nat) : (lensTo cs ds k).length = lastSt cs + 1 := by simp [lensTo]
theorem lensTo_getD (cs ds : List Int) (k b : Nat) (hb : b ≤ lastSt cs) : (lensTo cs ds k).getD b 0 = if 0 < cs.getD b 0 ∧ rk cs b < k then ds.getD (rk cs b) 0 else 0 := by
  unfold lensTo
  rw [getD_rng _ _ b (by omega)]
theorem lensTo_zero (cs ds : List Int) : lensTo cs ds 0 = List.replicate (lastSt cs + 1) 0 := by
  refine list_eq_of_getD (by simp [lensTo_length]) (fun i hi => ?_)
  rw [lensTo_length] at hi
  rw [lensTo_getD cs ds 0 i (by omega), if_neg (by omega)]
  rw [getD_rep]

theorem st_le_last (cs : List Int) {i : Nat} (hi : i < (st cs cs.length).length) : (st cs cs.length).getD i 0 ≤ lastSt cs := by
  obtain ⟨h1, h2, h3⟩ := rk_st cs hi
  obtain ⟨g1, g2, g3⟩ := rk_st cs (k := cs.length) (i := (st cs cs.length).length - 1) (by omega)
  by_cases e : (st cs cs.length).getD i 0 ≤ lastSt cs
  · exact e
  · exfalso
    have hle : lastSt cs + 1 ≤ (st cs cs.length).getD i 0 := by omega
    have hm : (st cs (lastSt cs + 1)).length ≤ (st cs ((st cs cs.length).getD i 0)).length := by
      have := congrArg List.length (st_take cs hle)
      rw [List.length_take] at this
      have h3 : min (st cs (lastSt cs + 1)).length (st cs ((st cs cs.length).getD i 0)).length = (st cs (lastSt cs + 1)).length := this
      omega
    have hs : (st cs (lastSt cs + 1)).length = (st cs (lastSt cs)).length + 1 := by
      rw [st_succ, if_pos g3]; simp
    have g1' : (st cs (lastSt cs)).length = (st cs cs.length).length - 1 := g1
    have h1' : (st cs ((st cs cs.length).getD i 0)).length = i := h1
    omega

theorem lensTo_succ (cs ds : List Int) (k : Nat) (hk : k < (st cs cs.length).length) : lensTo cs ds (k + 1) = (lensTo cs ds k).set ((st cs cs.length).getD k 0) (ds.getD k 0) := by
  have hl := st_le_last cs hk
  obtain ⟨h1, h2, h3⟩ := rk_st cs hk
  refine list_eq_of_getD (by simp [lensTo_length]) (fun b hb => ?_)
  rw [lensTo_length] at hb
  rw [getD_set, lensTo_getD cs ds _ b (by omega), lensTo_getD cs ds _ b (by omega), lensTo_length]
  by_cases e : b = (st cs cs.length).getD k 0
  · rw [if_pos (show b = _ ∧ _ from ⟨e, by omega⟩), if_pos ⟨by rw [e]; exact h3, by rw [e, h1]; omega⟩, e, h1]
  · have hne : ¬ (b = (st cs cs.length).getD k 0 ∧ (st cs cs.length).getD k 0 < lastSt cs + 1) := fun x => e x.1
    rw [if_neg hne]
    by_cases hp : 0 < cs.getD b 0
    · have hr : rk cs b ≠ k := by
        intro er
        by_cases hbl : b < cs.length
        · have := (st_get cs hbl hp).2
          rw [er] at this
          exact e this.symm
        · simp only [List.getD_eq_getElem?_getD, List.getElem?_eq_none (by omega : cs.length ≤ b), Option.getD_none] at hp
          omega
      by_cases hlt : rk cs b < k
      · rw [if_pos ⟨hp, by omega⟩, if_pos ⟨hp, hlt⟩]
      · rw [if_neg (fun x => by have := x.2; omega), if_neg (fun x => hlt x.2)]
    · rw [if_neg (fun x => hp x.1), if_neg (fun x => hp x.1)]
end Go.Proofs.Ytcmnhgefeffcpaa
