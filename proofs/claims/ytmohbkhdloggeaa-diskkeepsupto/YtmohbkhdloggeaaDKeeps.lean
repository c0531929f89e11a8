/-
  What is flushed is kept: what the law holds, and what a loss of power leaves.
-/
import Derived.Test.YtmohbkhdloggeaaDElse
namespace Go.Proofs.Ytmohbkhdloggeaa
open Go.RowKit Go.Maps
set_option linter.unusedVariables false
set_option linter.unusedSimpArgs false
set_option maxRecDepth 100000

theorem pers_mem {s : DS} {ps : List Int} (i : Nat) : ∀ k, k ≤ s.dirty.length → (s.pers s.dirty ps k).L.getD i [] ∈ s.L.getD i [] :: s.V i
  | 0, _ => List.mem_cons_self
  | k + 1, hk => by
    have ih := pers_mem (s := s) (ps := ps) i k (by omega)
    obtain ⟨h1, h2, h3⟩ := pers_at (s := s) (ps := ps) (k := k) (by omega)
    rw [DS.pers]
    unfold DS.per
    dsimp only
    rw [h2]
    split
    · rename_i hp
      rw [getD_set_list _ _ _ _ (by rw [pers_L]; exact h1)]
      split
      · rename_i e
        subst e
        have hl := rem_lt (ps.getD k 0) (s.V (s.dirty.getD k 0)).length
        have key : ∀ (V : List (List Int)) (m : Nat), m < V.length → V.getD m [] ∈ V := fun V m h => by
          rw [List.getD_eq_getElem?_getD, List.getElem?_eq_getElem h]
          exact List.getElem_mem _
        exact List.mem_cons_of_mem _ (key _ _ (by omega))
      · exact ih
    · exact ih
/-- Behind a loss of power each sector is one of its versions, or as it lay there. -/
theorem pw_mem (s : DS) (ps : List Int) (hV : ∀ i, s.L.length ≤ i → s.V i = []) (i : Nat) : (s.pw ps).has i ∈ s.L.getD i [] :: s.V i := by
  rw [show (s.pw ps).has i = (s.pw ps).L.getD i [] by unfold DS.has; rw [pw_V s ps hV i]; rfl]
  exact pers_mem i _ (Nat.le_refl _)

/-- What the law holds of the sectors: rows of rows, in the array at block q. -/
structure Kp (S : Nat → Prop) (w wr : World) (d q : Nat) (s : DS) (U : Nat → Value) (Z : Nat → List Value) (Y : Nat → List (List Int)) : Prop where
  dc : Dc S w wr d s
  qc : ∀ i, i < 12 → wr.cell? ⟨q, i, none⟩ = some (U i)
  qf : ∀ i, wr.frozen? ⟨q, i, none⟩ = false
  ql : q < wr.heap.size
  q0 : w.heap.size ≤ q
  nS : ¬ S q
  row : ∀ i, i < 12 → wr.ownsRow 0 41 1 (U i) (Y i).length (Z i)
  ub : ∀ i b, i < 12 → (U i).ownBlock = some b → ¬ S b ∧ b ≠ q ∧ w.heap.size ≤ b
  ap : ∀ i j b, i < 12 → j < 12 → i ≠ j → (U i).ownBlock = some b → (U j).ownBlock ≠ some b
  el : ∀ (i j : Nat) (v : Value), i < 12 → (Z i)[j]? = some v → Rd .u8 wr v ((Y i).getD j []) ∧ IsSl v ∧ ∀ b, v.ownBlock = some b → ¬ S b ∧ b ≠ q ∧ b < wr.heap.size ∧ ∀ h, h < 12 → (U h).ownBlock ≠ some b

section
variable {S : Nat → Prop} {w wr w' : World} {d q : Nat} {s : DS} {U : Nat → Value} {Z : Nat → List Value} {Y : Nat → List (List Int)}
theorem Kp.zl (h : Kp S w wr d q s U Z Y) {i : Nat} (hi : i < 12) : (Z i).length = (Y i).length := by have := (h.row i hi).1; omega
theorem Kp.ult (h : Kp S w wr d q s U Z Y) {i b : Nat} (hi : i < 12) (hb : (U i).ownBlock = some b) : b < wr.heap.size := ((h.row i hi).lt b hb).2
/-- The disk does something. -/
theorem Kp.to (h : Kp S w wr d q s U Z Y) {s' : DS} (hd : DkTo S wr w' d s') : ∃ S', Kp S' w w' d q s' U Z Y ∧ Tch S wr w' ∧ ∀ b, b < wr.heap.size → ¬ S b → ¬ S' b := by
  obtain ⟨S', h1, h2, h3⟩ := h.dc.to hd
  have hn : ∀ b, b < wr.heap.size → ¬ S b → ¬ S' b := fun b hb hS e => by
    rcases h3 b e with e | e
    · exact hS e
    · omega
  exact ⟨S', {
    dc := h1
    qc := fun i hi => by rw [h2.cell (p := ⟨q, i, none⟩) h.ql h.nS]; exact h.qc i hi
    qf := fun i => by rw [h2.frozen (p := ⟨q, i, none⟩) h.ql h.nS]; exact h.qf i
    ql := Nat.lt_of_lt_of_le h.ql h2.size
    q0 := h.q0
    nS := hn q h.ql h.nS
    row := fun i hi => h2.owns (h.row i hi) (fun b hb => (h.ub i b hi hb).1)
    ub := fun i b hi hb => ⟨hn b (h.ult hi hb) (h.ub i b hi hb).1, (h.ub i b hi hb).2⟩
    ap := h.ap
    el := fun i j v hi hj => by
      obtain ⟨e1, e2, e3⟩ := h.el i j v hi hj
      exact ⟨e1.tch h2 (fun b hb => (e3 b hb).1), e2, fun b hb => ⟨hn b (e3 b hb).2.2.1 (e3 b hb).1, (e3 b hb).2.1, Nat.lt_of_lt_of_le (e3 b hb).2.2.1 h2.size, (e3 b hb).2.2.2⟩⟩ }, h2, hn⟩
theorem Kp.below (h : Kp S w wr d q s U Z Y) (hb : Below wr.heap.size wr w') : Kp S w w' d q s U Z Y := by
  have h2 := Tch.of_below (S := fun _ => False) hb
  exact {
    dc := h.dc.below hb
    qc := fun i hi => by rw [h2.cell (p := ⟨q, i, none⟩) h.ql (fun e => e)]; exact h.qc i hi
    qf := fun i => by rw [h2.frozen (p := ⟨q, i, none⟩) h.ql (fun e => e)]; exact h.qf i
    ql := Nat.lt_of_lt_of_le h.ql h2.size
    q0 := h.q0
    nS := h.nS
    row := fun i hi => h2.owns (h.row i hi) (fun b hb e => e)
    ub := h.ub
    ap := h.ap
    el := fun i j v hi hj => by
      obtain ⟨e1, e2, e3⟩ := h.el i j v hi hj
      exact ⟨e1.tch h2 (fun b hb e => e), e2, fun b hb => ⟨(e3 b hb).1, (e3 b hb).2.1, Nat.lt_of_lt_of_le (e3 b hb).2.2.1 h2.size, (e3 b hb).2.2.2⟩⟩ }
/-- A row is appended to a sector's. -/
theorem Kp.push (h : Kp S w wr d q s U Z Y) {a : Nat} (ha : a < 12) {v v5 : Value} {y : List Int} {w5 : World} (hv : Rd .u8 wr v y) (hs : IsSl v) (hf : ∀ b, v.ownBlock = some b → ¬ S b ∧ b ≠ q ∧ b < wr.heap.size ∧ ∀ i, i < 12 → (U i).ownBlock ≠ some b)
    (hr : w5.ownsRow 0 41 1 v5 (Z a ++ [v]).length (Z a ++ [v])) (ht : Tch (fun b => (U a).ownBlock = some b) wr w5) (hf5 : ∀ b, v5.ownBlock = some b → (U a).ownBlock = some b ∨ wr.heap.size ≤ b) :
    Kp S w (w5.setCell ⟨q, a, none⟩ v5) d q s (updV U a v5) (updW Z a (Z a ++ [v])) (vput Y a (Y a ++ [y])) := by
  have hnq : ¬ (U a).ownBlock = some q := fun e => (h.ub a q ha e).2.1 rfl
  have tq := tch_set w5 q a v5
  have T : Tch (fun b => (U a).ownBlock = some b ∨ b = q) wr (w5.setCell ⟨q, a, none⟩ v5) := (ht.mono (S' := fun b => (U a).ownBlock = some b ∨ b = q) (fun b _ e => .inl e)).trans tq (fun b _ e => .inr e)
  have hTS : ∀ b, ((U a).ownBlock = some b ∨ b = q) → ¬ S b ∧ w.heap.size ≤ b := fun b e => by
    rcases e with e | e
    · exact ⟨(h.ub a b ha e).1, (h.ub a b ha e).2.2⟩
    · rw [e]; exact ⟨h.nS, h.q0⟩
  have hs5 := ht.size
  have hws := h.dc.2.1.size
  have hv5 : ∀ b, v5.ownBlock = some b → ¬ S b ∧ b ≠ q ∧ w.heap.size ≤ b := fun b hb => by
    rcases hf5 b hb with e | e
    · exact h.ub a b ha e
    · exact ⟨fun e2 => by have := h.dc.1.slt b e2; omega, fun e2 => by have := h.ql; omega, by omega⟩
  have hne : ∀ i b, i < 12 → i ≠ a → (U i).ownBlock = some b → ¬ ((U a).ownBlock = some b ∨ b = q) := fun i b hi hia hb e => by
    rcases e with e | e
    · exact h.ap i a b hi ha hia hb e
    · exact (h.ub i b hi hb).2.1 e
  have hvne : ∀ i b, i < 12 → i ≠ a → (U i).ownBlock = some b → v5.ownBlock ≠ some b := fun i b hi hia hb e => by
    rcases hf5 b e with e | e
    · exact h.ap i a b hi ha hia hb e
    · have := h.ult hi hb; omega
  have hrd : ∀ {x : Value} {z : List Int}, Rd .u8 wr x z → (∀ b, x.ownBlock = some b → ¬ S b ∧ b ≠ q ∧ b < wr.heap.size ∧ ∀ i, i < 12 → (U i).ownBlock ≠ some b) → Rd .u8 (w5.setCell ⟨q, a, none⟩ v5) x z ∧ ∀ b, x.ownBlock = some b → ¬ S b ∧ b ≠ q ∧ b < (w5.setCell ⟨q, a, none⟩ v5).heap.size ∧ ∀ i, i < 12 → (updV U a v5 i).ownBlock ≠ some b := fun hx hb => by
    refine ⟨hx.tch T (fun b hb2 e => ?_), fun b hb2 => ⟨(hb b hb2).1, (hb b hb2).2.1, Nat.lt_of_lt_of_le (hb b hb2).2.2.1 T.size, fun i hi => ?_⟩⟩
    · rcases e with e | e
      · exact (hb b hb2).2.2.2 a ha e
      · exact (hb b hb2).2.1 e
    · unfold updV
      split
      · intro e
        rcases hf5 b e with e | e
        · exact (hb b hb2).2.2.2 a ha e
        · have := (hb b hb2).2.2.1; omega
      · exact (hb b hb2).2.2.2 i hi
  exact {
    dc := ⟨h.dc.1.tch T (fun k hk e => (hTS k e).1 hk), h.dc.2.1.trans (T.below h.dc.2.1.size (fun k e => (hTS k e).2)), h.dc.2.2⟩
    qc := fun i hi => by
      have h5 : ∀ i, i < 12 → w5.cell? ⟨q, i, none⟩ = some (U i) := fun i hi => by rw [ht.cell (p := ⟨q, i, none⟩) h.ql hnq]; exact h.qc i hi
      unfold updV
      by_cases e : i = a
      · rw [if_pos e, e]; exact World.cell?_setCell_same' _ _ _ (by rw [h5 a ha]; rfl)
      · rw [if_neg e, World.cell?_setCell_other _ _ _ _ (fun e2 => by simp only [Addr.mk.injEq] at e2; exact e e2.2.1.symm)]; exact h5 i hi
    qf := fun i => by rw [World.frozen?_setCell, ht.frozen (p := ⟨q, i, none⟩) h.ql hnq]; exact h.qf i
    ql := Nat.lt_of_lt_of_le h.ql T.size
    q0 := h.q0
    nS := h.nS
    row := fun i hi => by
      unfold updV updW vput
      by_cases e : i = a
      · rw [if_pos e, if_pos e, if_pos e]
        have e2 : (Z a ++ [v]).length = (Y a ++ [y]).length := by simp [h.zl ha]
        rw [← e2]
        exact tq.owns hr (fun b hb => (hv5 b hb).2.1)
      · rw [if_neg e, if_neg e, if_neg e]
        exact T.owns (h.row i hi) (fun b hb => hne i b hi e hb)
    ub := fun i b hi hb => by
      unfold updV at hb
      split at hb
      · exact hv5 b hb
      · exact h.ub i b hi hb
    ap := fun i j b hi hj hij hb => by
      unfold updV at hb ⊢
      by_cases ei : i = a
      · rw [if_pos ei] at hb
        rw [if_neg (fun ej => hij (ei.trans ej.symm))]
        exact fun e => hvne j b hj (fun ej => hij (ei.trans ej.symm)) e hb
      · rw [if_neg ei] at hb
        by_cases ej : j = a
        · rw [if_pos ej]; exact hvne i b hi ei hb
        · rw [if_neg ej]; exact h.ap i j b hi hj hij hb
    el := fun i j x hi hj => by
      unfold updW at hj
      unfold vput
      by_cases e : i = a
      · rw [if_pos e] at hj
        rw [if_pos e, List.getD_eq_getElem?_getD, List.getElem?_append]
        rw [List.getElem?_append] at hj
        have hzl := h.zl ha
        split at hj
        · rename_i hjl
          rw [if_pos (by omega), ← List.getD_eq_getElem?_getD]
          obtain ⟨e1, e2, e3⟩ := h.el a j x ha hj
          obtain ⟨f1, f2⟩ := hrd e1 e3
          exact ⟨f1, e2, f2⟩
        · rename_i hjl
          rw [if_neg (by omega)]
          have hj0 : j - (Z a).length = 0 := by
            have := (List.getElem?_eq_some_iff.1 hj).1
            simp at this
            omega
          rw [hj0] at hj
          rw [← hzl, hj0]
          simp at hj
          subst hj
          obtain ⟨f1, f2⟩ := hrd hv hf
          exact ⟨f1, hs, f2⟩
      · rw [if_neg e] at hj
        rw [if_neg e]
        obtain ⟨e1, e2, e3⟩ := h.el i j x hi hj
        obtain ⟨f1, f2⟩ := hrd e1 e3
        exact ⟨f1, e2, f2⟩ }
end
end Go.Proofs.Ytmohbkhdloggeaa
