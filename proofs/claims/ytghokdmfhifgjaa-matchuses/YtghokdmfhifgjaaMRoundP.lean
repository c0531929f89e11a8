/-
  What is found makes the bytes again: plainly.
-/
import Derived.Test.YtghokdmfhifgjaaMFind
import Derived.Test.YtghokdmfhifgjaaMRunP
namespace Go.Proofs.Ytghokdmfhifgjaa
open Go.RowKit Pl
set_option linter.unusedVariables false

theorem bst_spec (ds : List Int) (i : Nat) : ∀ d, (bst ds i d).1 = 0 ∨ (1 ≤ (bst ds i d).2 ∧ (bst ds i d).2 ≤ d ∧ 4 ≤ (bst ds i d).1 ∧ (bst ds i d).1 = rn ds i (i - (bst ds i d).2) (ml ds i))
  | 0 => .inl rfl
  | d + 1 => by
    simp only [bst]
    split
    · rename_i h
      right
      exact ⟨by simp, Nat.le_refl _, h.1, rfl⟩
    · rcases bst_spec ds i d with h | ⟨h1, h2, h3, h4⟩
      · exact .inl h
      · exact .inr ⟨h1, by omega, h3, h4⟩

theorem best_spec {ds : List Int} {W i : Nat} (h : 0 < (best ds W i).1) : 1 ≤ (best ds W i).2 ∧ (best ds W i).2 ≤ i ∧ (best ds W i).2 ≤ W ∧ 4 ≤ (best ds W i).1 ∧ i + (best ds W i).1 ≤ ds.length ∧ ∀ j, j < (best ds W i).1 → ds.getD (i + j) 0 = ds.getD (i - (best ds W i).2 + j) 0 := by
  have hb := best_le ds W i
  unfold best at h hb ⊢
  rcases bst_spec ds i (min W i) with h1 | ⟨h1, h2, h3, h4⟩
  · omega
  · refine ⟨h1, by omega, by omega, h3, by omega, fun j hj => ?_⟩
    rw [h4] at hj
    exact rn_eq ds i _ _ j hj

/-- Steps that were found, up to a place. -/
inductive SC (ds : List Int) (W : Nat) : List Sq → Nat → Prop
  | nil : SC ds W [] 0
  | snoc (ps : List Sq) (p l : Nat) : SC ds W ps p → 0 < (best ds W (p + l)).1 → SC ds W (ps ++ [((l : Int), ((best ds W (p + l)).1 : Int), ((best ds W (p + l)).2 : Int))]) (p + l + (best ds W (p + l)).1)

theorem fst_sc (ds : List Int) (W : Nat) : ∀ k, (fst_ ds W k).2.1 ≤ (fst_ ds W k).1 ∧ (fst_ ds W k).1 ≤ ds.length ∧ SC ds W (fst_ ds W k).2.2 ((fst_ ds W k).1 - (fst_ ds W k).2.1)
  | 0 => ⟨Nat.le_refl _, Nat.zero_le _, SC.nil⟩
  | k + 1 => by
    obtain ⟨h1, h2, h3⟩ := fst_sc ds W k
    simp only [fst_]
    split
    · rename_i hlt
      split
      · refine ⟨by simp only; omega, by simp only; omega, ?_⟩
        simp only
        rw [show (fst_ ds W k).1 + 1 - ((fst_ ds W k).2.1 + 1) = (fst_ ds W k).1 - (fst_ ds W k).2.1 by omega]
        exact h3
      · rename_i hn
        have hb := best_le ds W (fst_ ds W k).1
        refine ⟨by simp only; omega, by simp only; omega, ?_⟩
        simp only
        have e : (fst_ ds W k).1 - (fst_ ds W k).2.1 + (fst_ ds W k).2.1 = (fst_ ds W k).1 := by omega
        have := SC.snoc (fst_ ds W k).2.2 _ (fst_ ds W k).2.1 h3 (by rw [e]; omega)
        rw [e] at this
        rw [Nat.sub_zero]
        exact this
    · exact ⟨h1, h2, h3⟩

theorem sc_le {ds : List Int} {W : Nat} {ps : List Sq} {p : Nat} (h : SC ds W ps p) : p ≤ ds.length := by
  cases h with
  | nil => exact Nat.zero_le _
  | snoc ps p l h hp => exact (best_spec hp).2.2.2.2.1

theorem getD_pre {ps qs : List Sq} {k : Nat} (h : k < ps.length) : (ps ++ qs).getD k sq0 = ps.getD k sq0 := by
  rw [List.getD_eq_getElem?_getD, List.getD_eq_getElem?_getD, List.getElem?_append_left h]
theorem getD_mid' (ps : List Sq) (x : Sq) : (ps ++ [x]).getD ps.length sq0 = x := by simp [List.getD_eq_getElem?_getD]

theorem lt_pre (ds : List Int) (ps qs : List Sq) : ∀ k, k ≤ ps.length → lt_ ds (ps ++ qs) k = lt_ ds ps k
  | 0, _ => rfl
  | k + 1, h => by
    simp only [lt_]
    rw [lt_pre ds ps qs k (by omega), getD_pre (by omega)]

theorem rs_pre (ls : List Int) (ps qs : List Sq) (most : Int) : ∀ k, k ≤ ps.length → rs ls (ps ++ qs) most k = rs ls ps most k
  | 0, _ => rfl
  | k + 1, h => by
    simp only [rs]
    rw [rs_pre ls ps qs most k (by omega), getD_pre (by omega)]

/-- The literals of steps. -/
theorem sc_lit {ds : List Int} {W : Nat} {ps : List Sq} {p : Nat} (h : SC ds W ps p) : ∃ L, lt_ ds ps ps.length = some (p, L) := by
  induction h with
  | nil => exact ⟨[], rfl⟩
  | snoc ps p l h hp ih =>
    obtain ⟨L, hL⟩ := ih
    obtain ⟨s1, s2, s3, s4, s5, _⟩ := best_spec hp
    refine ⟨L ++ (ds.drop p).take l, ?_⟩
    rw [List.length_append, List.length_cons, List.length_nil, Nat.zero_add]
    simp only [lt_]
    rw [lt_pre ds ps _ _ (Nat.le_refl _), hL, getD_mid']
    simp only
    rw [if_neg (by omega)]
    simp only [Int.toNat_natCast]

theorem lt_snoc {ds : List Int} {W : Nat} {ps : List Sq} {p l : Nat} {L : List Int} (hL : lt_ ds ps ps.length = some (p, L)) (hp : 0 < (best ds W (p + l)).1) :
    lt_ ds (ps ++ [((l : Int), ((best ds W (p + l)).1 : Int), ((best ds W (p + l)).2 : Int))]) (ps.length + 1) = some (p + l + (best ds W (p + l)).1, L ++ (ds.drop p).take l) := by
  obtain ⟨s1, s2, s3, s4, s5, _⟩ := best_spec hp
  simp only [lt_]
  rw [lt_pre ds ps _ _ (Nat.le_refl _), hL, getD_mid']
  simp only
  rw [if_neg (by omega)]
  simp only [Int.toNat_natCast]

theorem take_getD (ds : List Int) (n i : Nat) (h : i < n) : (ds.take n).getD i 0 = ds.getD i 0 := by
  rw [List.getD_eq_getElem?_getD, List.getElem?_take, if_pos h, ← List.getD_eq_getElem?_getD]

theorem take_snoc (ds : List Int) (n : Nat) (h : n < ds.length) : ds.take (n + 1) = ds.take n ++ [ds.getD n 0] := by
  rw [List.take_succ_eq_append_getElem h, List.getD_eq_getElem?_getD, List.getElem?_eq_getElem h]
  rfl

theorem cpy_take {ds : List Int} {q d m : Nat} (h1 : 1 ≤ d) (h2 : d ≤ q) (hm : q + m ≤ ds.length) (he : ∀ j, j < m → ds.getD (q + j) 0 = ds.getD (q - d + j) 0) : ∀ n, n ≤ m → cpy d n (ds.take q) = ds.take (q + n)
  | 0, _ => rfl
  | n + 1, hn => by
    have hl : (ds.take (q + n)).length = q + n := by rw [List.length_take]; omega
    rw [cpy_snoc, cpy_take h1 h2 hm he n (by omega), hl, take_getD _ _ _ (by omega), ← Nat.add_assoc, take_snoc ds (q + n) (by omega), he n (by omega)]
    congr 3
    omega

/-- Steps are run again, as long as they fit. -/
theorem sc_run {ds ls : List Int} {W : Nat} {ps : List Sq} {p : Nat} (h : SC ds W ps p) : ∀ {L more : List Int} {most : Int}, lt_ ds ps ps.length = some (p, L) → ls = L ++ more → (p : Int) ≤ most → rs ls ps most ps.length = (0, L.length, ds.take p) := by
  induction h with
  | nil =>
    intro L more most hL hls hm
    simp [lt_] at hL
    subst hL
    rfl
  | snoc ps p l h hp ih =>
    intro L more most hL hls hm
    obtain ⟨L0, hL0⟩ := sc_lit h
    have e1 := lt_snoc (l := l) hL0 hp
    rw [List.length_append, List.length_cons, List.length_nil, Nat.zero_add] at hL ⊢
    rw [e1] at hL
    simp only [Option.some.injEq, Prod.mk.injEq, true_and] at hL
    obtain ⟨s1, s2, s3, s4, s5, s6⟩ := best_spec hp
    have hpl := sc_le h
    have ht : ((ds.drop p).take l).length = l := by rw [List.length_take, List.length_drop]; omega
    have e2 := ih hL0 (more := (ds.drop p).take l ++ more) (by rw [hls, ← hL, List.append_assoc]) (most := most) (by omega)
    simp only [rs]
    rw [rs_pre ls ps _ most _ (Nat.le_refl _), e2, getD_mid']
    have hll : ls.length = L0.length + l + more.length := by rw [hls, ← hL, List.length_append, List.length_append, ht]
    have htp : (ds.take p).length = p := by rw [List.length_take]; omega
    have hdl : (ls.drop L0.length).take l = (ds.drop p).take l := by
      rw [hls, ← hL, List.append_assoc, List.drop_left]
      rw [List.take_append_of_le_length (by omega), List.take_take, Nat.min_self]
    rw [if_neg (by simp)]
    simp only
    rw [htp]
    have hok : okS ((l : Int), ((best ds W (p + l)).1 : Int), ((best ds W (p + l)).2 : Int)) (ls.length - L0.length) p = true := by
      unfold okS
      rw [decide_eq_true_eq]
      simp only
      omega
    rw [if_neg (by rw [hok]; simp), if_neg (by omega)]
    simp only [Int.toNat_natCast]
    rw [hdl]
    have hcat : ds.take p ++ (ds.drop p).take l = ds.take (p + l) := by rw [← List.take_add]
    rw [hcat, cpy_take s1 s2 s5 s6 _ (Nat.le_refl _), ← hL, List.length_append, ht]

/-- What is found makes the bytes again, and not within a byte less. -/
theorem round_core (ds : List Int) (W : Nat) (hn : ds.length ≤ 65536) : ∃ L, litR ds (steps ds W) = (0, L) ∧ runR L (steps ds W) (ds.length : Int) = (0, ds) ∧ (0 < ds.length → runR L (steps ds W) ((ds.length : Int) - 1) = (11, [])) ∧ L.length ≤ ds.length := by
  obtain ⟨_, h2, h3⟩ := fst_sc ds W ds.length
  obtain ⟨p, hp⟩ : ∃ p, (fst_ ds W ds.length).1 - (fst_ ds W ds.length).2.1 = p := ⟨_, rfl⟩
  rw [hp] at h3
  obtain ⟨ps, hps⟩ : ∃ ps, (fst_ ds W ds.length).2.2 = ps := ⟨_, rfl⟩
  unfold steps
  rw [hps] at h3 ⊢
  obtain ⟨L, hL⟩ := sc_lit h3
  have hpl := sc_le h3
  have hbd := lt_bd hL
  simp only at hbd
  have htp : (ds.take p).length = p := by rw [List.length_take]; omega
  have hdp : (L ++ ds.drop p).drop L.length = ds.drop p := List.drop_left
  refine ⟨L ++ ds.drop p, by unfold litR; rw [hL], ?_, fun h0 => ?_, by rw [List.length_append, List.length_drop]; omega⟩
  · have e := sc_run h3 hL rfl (ls := L ++ ds.drop p) (more := ds.drop p) (most := (ds.length : Int)) (by omega)
    unfold runR
    rw [if_neg (by omega), e]
    simp only
    rw [if_neg (by simp), htp, if_neg (by rw [List.length_append, List.length_drop]; push_cast; omega), hdp, List.take_append_drop]
  · by_cases hlt : p < ds.length
    · have e := sc_run h3 hL rfl (ls := L ++ ds.drop p) (more := ds.drop p) (most := (ds.length : Int) - 1) (by omega)
      unfold runR
      rw [if_neg (by omega), e]
      simp only
      rw [if_neg (by simp), htp, if_pos (by rw [List.length_append, List.length_drop]; push_cast; omega)]
    · have hpe : p = ds.length := by omega
      cases h3 with
      | nil => omega
      | snoc ps' p' l h hp' =>
        obtain ⟨L0, hL0⟩ := sc_lit h
        have e1 := lt_snoc (l := l) hL0 hp'
        rw [List.length_append, List.length_cons, List.length_nil, Nat.zero_add] at hL
        rw [e1] at hL
        simp only [Option.some.injEq, Prod.mk.injEq, true_and] at hL
        obtain ⟨s1, s2, s3, s4, s5, s6⟩ := best_spec hp'
        have ht : ((ds.drop p').take l).length = l := by rw [List.length_take, List.length_drop]; omega
        have e2 := sc_run h hL0 (ls := L ++ ds.drop (p' + l + (best ds W (p' + l)).1)) (more := (ds.drop p').take l ++ ds.drop (p' + l + (best ds W (p' + l)).1)) (by rw [← hL, List.append_assoc]) (most := (ds.length : Int) - 1) (by omega)
        refine runR_err (k := ps'.length) (by omega) (by simp) (by decide) ?_
        simp only [rs]
        rw [rs_pre _ ps' _ _ _ (Nat.le_refl _), e2, getD_mid']
        rw [if_neg (by simp)]
        simp only
        have htp' : (ds.take p').length = p' := by rw [List.length_take]; omega
        rw [htp']
        have hok : okS ((l : Int), ((best ds W (p' + l)).1 : Int), ((best ds W (p' + l)).2 : Int)) ((L ++ ds.drop (p' + l + (best ds W (p' + l)).1)).length - L0.length) p' = true := by
          unfold okS
          rw [decide_eq_true_eq, ← hL]
          simp only [List.length_append, ht]
          omega
        rw [if_neg (by rw [hok]; simp), if_pos (by omega)]
end Go.Proofs.Ytghokdmfhifgjaa
