/-
  The document's lengths, plainly: counts halved in their places, and that depths are decided.
-/
import Derived.Test.YtcmnhgefeffcpaaHTreeW
import Derived.Test.YtcmnhgefeffcpaaHLens
namespace Go.Proofs.Ytcmnhgefeffcpaa
open Go.RowKit Pl Hf
set_option linter.unusedVariables false

/-- Halving decides the depths. -/
theorem Sh.det {ws ds es : List Int} (h : Sh ws ds) (h2 : Sh ws es) : ds = es := by
  induction h with
  | now ws h =>
    cases h2 with
    | now _ _ => rfl
    | on _ _ h3 _ => exact absurd h h3
  | on ws ds h k ih =>
    cases h2 with
    | now _ h3 => exact absurd h3 h
    | on _ _ _ k2 => exact ih k2
theorem ShS.det {ws ds es : List Int} (h : ShS ws ds) (h2 : ShS ws es) : ds = es := by
  rcases h with ⟨h1, rfl⟩ | ⟨h1, h3⟩
  · rcases h2 with ⟨_, rfl⟩ | ⟨h4, _⟩
    · rfl
    · omega
  · rcases h2 with ⟨h4, _⟩ | ⟨_, h4⟩
    · omega
    · exact h3.det h4

/-- The same ones stand. -/
structure Pat (cs os : List Int) : Prop where
  own : Own1 os
  le : os.length ≤ cs.length
  pat : ∀ b, b < os.length → (0 < os.getD b 0 ↔ 0 < cs.getD b 0)
  past : ∀ b, os.length ≤ b → b < cs.length → ¬ 0 < cs.getD b 0
theorem Pat.st {cs os : List Int} (h : Pat cs os) : ∀ k, k ≤ os.length → st os k = st cs k := by
  intro k
  induction k with
  | zero => intro _; rfl
  | succ k ih =>
    intro hk
    rw [st_succ, st_succ, ih (by omega)]
    by_cases c : 0 < os.getD k 0
    · rw [if_pos c, if_pos ((h.pat k (by omega)).1 c)]
    · rw [if_neg c, if_neg (fun e => c ((h.pat k (by omega)).2 e))]
theorem Pat.all {cs os : List Int} (h : Pat cs os) : Go.Proofs.Ytcmnhgefeffcpaa.st os os.length = Go.Proofs.Ytcmnhgefeffcpaa.st cs cs.length := by
  rw [h.st os.length (Nat.le_refl _)]
  have : ∀ d, os.length + d ≤ cs.length → Go.Proofs.Ytcmnhgefeffcpaa.st cs (os.length + d) = Go.Proofs.Ytcmnhgefeffcpaa.st cs os.length := by
    intro d
    induction d with
    | zero => intro _; rfl
    | succ d ih =>
      intro hd
      rw [← Nat.add_assoc, st_succ, if_neg (h.past _ (by omega) (by omega)), ih (by omega)]
  have h2 := this (cs.length - os.length) (by have := h.le; omega)
  rw [show os.length + (cs.length - os.length) = cs.length by have := h.le; omega] at h2
  exact h2.symm
theorem Pat.lens {cs os : List Int} (h : Pat cs os) (ds : List Int) : Go.Proofs.Ytcmnhgefeffcpaa.lens os ds = Go.Proofs.Ytcmnhgefeffcpaa.lens cs ds := by
  have h1 := h.own.lastSt
  have h2 : lastSt cs = lastSt os := by unfold lastSt; rw [h.all]
  unfold Go.Proofs.Ytcmnhgefeffcpaa.lens lensTo
  rw [h2]
  rw [h.all]
  refine List.map_congr_left fun b hb => ?_
  have hb' : b < os.length := by have h3 := List.mem_range.1 hb; rw [h1] at h3; exact h3
  have e : rk os b = rk cs b := by unfold rk; rw [h.st b (by omega)]
  rw [e]
  by_cases c : 0 < os.getD b 0
  · have c2 := (h.pat b hb').1 c
    simp only [c, c2]
  · have c2 : ¬ 0 < cs.getD b 0 := fun e => c ((h.pat b hb').2 e)
    simp only [c, c2]

/-- Those that stand halved. -/
def hvH (x : Int) : Int := if 0 < x then x / 2 + 1 else x
def hvTo (os : List Int) (k : Nat) : List Int := (os.take k).map hvH ++ os.drop k
theorem hvTo_length (os : List Int) (k : Nat) : (hvTo os k).length = os.length := by simp [hvTo]; omega
theorem hvTo_zero (os : List Int) : hvTo os 0 = os := by simp [hvTo]
theorem hvTo_getD (os : List Int) (k i : Nat) (hi : i < os.length) : (hvTo os k).getD i 0 = if i < k then hvH (os.getD i 0) else os.getD i 0 := by
  unfold hvTo
  by_cases c : i < k
  · rw [if_pos c, List.getD_eq_getElem?_getD, List.getElem?_append_left (by simp; omega), List.getElem?_map, List.getElem?_take, if_pos c, List.getElem?_eq_getElem hi]
    simp [List.getD_eq_getElem?_getD, hi]
  · rw [if_neg c, List.getD_eq_getElem?_getD, List.getElem?_append_right (by simp; omega), List.getElem?_drop]
    simp only [List.length_map, List.length_take]
    rw [show k + (i - min k os.length) = i by omega, ← List.getD_eq_getElem?_getD]
theorem hvTo_succ (os : List Int) (k : Nat) (hk : k < os.length) : hvTo os (k + 1) = (hvTo os k).set k (hvH (os.getD k 0)) := by
  refine List.ext_getElem (by rw [hvTo_length, List.length_set, hvTo_length]) (fun i h1 h2 => ?_)
  have hi : i < os.length := by rw [hvTo_length] at h1; exact h1
  have g1 : (hvTo os (k + 1)).getD i 0 = (hvTo os (k + 1))[i] := by simp [List.getD_eq_getElem?_getD, h1]
  have g2 : ((hvTo os k).set k (hvH (os.getD k 0))).getD i 0 = ((hvTo os k).set k (hvH (os.getD k 0)))[i] := by rw [List.getD_eq_getElem?_getD, List.getElem?_eq_getElem h2]; rfl
  rw [← g1, ← g2, getD_set, hvTo_getD os _ i hi, hvTo_getD os _ i hi]
  by_cases e : i = k
  · subst e
    rw [if_pos (Nat.lt_succ_self i), if_pos ⟨rfl, by rw [hvTo_length]; exact hi⟩]
  · rw [if_neg (show ¬ (i = k ∧ k < (hvTo os k).length) from fun h => e h.1)]
    by_cases c : i < k
    · rw [if_pos (show i < k + 1 by omega), if_pos c]
    · rw [if_neg (show ¬ i < k + 1 by omega), if_neg c]
theorem hvH_pos {x : Int} : 0 < hvH x ↔ 0 < x := by unfold hvH; split <;> omega
theorem Own1.hvH {os : List Int} (h : Own1 os) : Own1 (hvTo os os.length) := by
  have hg : ∀ i, i < os.length → (hvTo os os.length).getD i 0 = Go.Proofs.Ytcmnhgefeffcpaa.hvH (os.getD i 0) := fun i hi => by rw [hvTo_getD os _ i hi, if_pos hi]
  refine ⟨by rw [hvTo_length]; exact h.one, by rw [hvTo_length]; exact h.most, fun i => ?_, ?_⟩
  · by_cases c : i < os.length
    · rw [hg i c]
      have := h.each i
      unfold Go.Proofs.Ytcmnhgefeffcpaa.hvH
      split <;> omega
    · rw [List.getD_eq_getElem?_getD, List.getElem?_eq_none (by rw [hvTo_length]; omega)]; decide
  · rw [hvTo_length, hg _ (by have := h.one; omega)]
    exact hvH_pos.2 h.last
theorem Pat.hvH {cs os : List Int} (h : Pat cs os) : Pat cs (hvTo os os.length) := by
  refine ⟨h.own.hvH, by rw [hvTo_length]; exact h.le, fun b hb => ?_, fun b h1 h2 => h.past b (by rw [hvTo_length] at h1; exact h1) h2⟩
  rw [hvTo_length] at hb
  rw [hvTo_getD os _ b hb, if_pos hb, hvH_pos]
  exact h.pat b hb
theorem wt_hv {os : List Int} (hk : Own1 os) : wt (hvTo os os.length) (hvTo os os.length).length = halve (wt os os.length) := by
  have hp : Pat os (hvTo os os.length) := ⟨hk.hvH, by rw [hvTo_length]; exact Nat.le_refl _, fun b hb => by
    rw [hvTo_length] at hb
    rw [hvTo_getD os _ b hb, if_pos hb, hvH_pos], fun b h1 h2 => by rw [hvTo_length] at h1; omega⟩
  unfold wt halve
  rw [hp.all, List.map_map]
  refine List.map_congr_left fun b hb => ?_
  have hm := mem_st.1 hb
  show (hvTo os os.length).getD b 0 = os.getD b 0 / 2 + 1
  rw [hvTo_getD os _ b hm.1, if_pos hm.1]
  unfold Go.Proofs.Ytcmnhgefeffcpaa.hvH
  rw [if_pos hm.2]
/-- All together, in their places. -/
theorem hv_less {os : List Int} (hk : Own1 os) (hn : ¬ All11 (wt os os.length)) (h2 : 2 ≤ (wt os os.length).length) : wsum (hvTo os os.length) < wsum os := by
  have hw : Wts (wt os os.length) := ⟨h2, by rw [wt_length]; exact Nat.le_trans (st_le _ _) hk.most, fun i hi => wt_pos os _ i hi⟩
  obtain ⟨i, hi, hb⟩ := hw.big hn
  rw [wt_length] at hi
  rw [wt_getD os _ i hi] at hb
  have hm := (rk_st os hi).2.1
  unfold wsum
  rw [hvTo_length]
  refine sum_lt (fun j hj => ?_) ⟨_, hm, ?_⟩
  · simp only [cw]
    rw [hvTo_getD os _ j hj, if_pos hj]
    unfold Go.Proofs.Ytcmnhgefeffcpaa.hvH
    split <;> omega
  · simp only [cw]
    rw [hvTo_getD os _ _ hm, if_pos hm]
    unfold Go.Proofs.Ytcmnhgefeffcpaa.hvH
    rw [if_pos (by omega)]
    omega
/-- What the tree tells of the greatest. -/
theorem all11_of {os : List Int} (hk : Own1 os) (h2 : 2 ≤ (wt os os.length).length) : (∀ b, (lens os (dpS os)).getD b 0 ≤ 11) ↔ All11 (wt os os.length) := by
  have hd : dpS os = deps (wt os os.length) := by unfold dpS; rw [if_neg (by rw [← wt_length]; omega)]
  rw [hd]
  constructor
  · intro h i hi
    rw [wt_length] at hi
    have h1 := rk_st os hi
    have h3 := h ((st os os.length).getD i 0)
    rw [lensTo_getD os _ _ _ (st_le_last os hi), if_pos ⟨h1.2.2, by rw [h1.1]; exact hi⟩, h1.1] at h3
    exact h3
  · intro h b
    by_cases c : b ≤ lastSt os
    · rw [lensTo_getD os _ _ b c]
      split
      · rename_i e
        exact h _ (by rw [wt_length]; exact e.2)
      · decide
    · rw [List.getD_eq_getElem?_getD, List.getElem?_eq_none (by rw [lensTo_length]; omega)]; decide
theorem one11_of {os : List Int} (hk : Own1 os) (h1 : (st os os.length).length = 1) : ∀ b, (lens os (dpS os)).getD b 0 ≤ 11 := by
  have hd : dpS os = [1] := by unfold dpS; rw [if_pos h1]
  intro b
  rw [hd]
  by_cases c : b ≤ lastSt os
  · rw [lensTo_getD os _ _ b c]
    split
    · rename_i e
      rw [h1] at e
      rw [show rk os b = 0 by omega]
      decide
    · decide
  · rw [List.getD_eq_getElem?_getD, List.getElem?_eq_none (by rw [lensTo_length]; omega)]; decide
end Go.Proofs.Ytcmnhgefeffcpaa
