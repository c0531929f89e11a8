/-
  What the power leaves; a disk that was made since.
-/
import Derived.Test.YtaacidgihhcpkaaDPow
namespace Go.Proofs.Ytaacidgihhcpkaa
open Go.RowKit Go.Maps
set_option linter.unusedVariables false
set_option linter.unusedSimpArgs false
set_option maxRecDepth 100000

theorem pers_L_nil (s : DS) (ds : List Nat) : ∀ k, (s.pers ds [] k).L = s.L
  | 0 => rfl
  | k + 1 => by
    rw [DS.pers]
    have : rem (([] : List Int).getD k 0) ((s.pers ds [] k).V (ds.getD k 0)).length = 0 := by simp [rem]
    unfold DS.per
    dsimp only
    rw [this, if_neg (by decide), pers_L_nil s ds k]
theorem pw_L_nil (s : DS) : (s.pw []).L = s.L := pers_L_nil s _ _
theorem pw_V (s : DS) (ps : List Int) (hV : ∀ i, s.L.length ≤ i → s.V i = []) (i : Nat) : (s.pw ps).V i = [] := by
  show (s.pers s.dirty ps s.dirty.length).V i = []
  rw [pers_V _ _ _ _ _ (Nat.le_refl _), List.take_length]
  by_cases h : i ∈ s.dirty
  · rw [if_pos h]
  · rw [if_neg h]
    by_cases h1 : i < s.L.length
    · by_cases h2 : s.V i = []
      · exact h2
      · exact absurd (dirty_mem.2 ⟨h1, h2⟩) h
    · exact hV i (by omega)
theorem pw_len (s : DS) (ps : List Int) : (s.pw ps).L.length = s.L.length := pers_L s _ ps _
theorem Dk.out_V {S : Nat → Prop} {w : World} {d : Nat} {s : DS} (h : Dk S w d s) : ∀ i, s.L.length ≤ i → s.V i = [] := fun i hi => by
  obtain ⟨lb, vb, lc, g, h⟩ := h
  cases e : g i with
  | none => exact h.no i e
  | some v => have := (h.yes i v e).1; omega
theorem Dk.len {S : Nat → Prop} {w : World} {d : Nat} {s : DS} (h : Dk S w d s) : 1 ≤ s.L.length ∧ s.L.length ≤ 4096 := by
  obtain ⟨lb, vb, lc, g, h⟩ := h
  exact ⟨h.n1, h.n2⟩
theorem has_of_nil {s : DS} {i : Nat} (h : s.V i = []) : s.has i = s.L.getD i [] := by unfold DS.has; rw [h]; rfl

theorem wr_V_le (s : DS) (i : Nat) (x : List Int) (j : Nat) : ((s.wr i x).V j).length ≤ (s.V j).length + 1 := by
  unfold DS.wr
  split
  · simp only [vput]
    split
    · rename_i e; subst e; simp
    · exact Nat.le_succ _
  · exact Nat.le_succ _
theorem fl_V_le (s : DS) (j : Nat) : (s.fl.V j).length ≤ (s.V j).length := by
  unfold DS.fl
  split
  · simp
  · exact Nat.le_refl _
theorem wr_L (s : DS) (i : Nat) (x : List Int) : (s.wr i x).L = s.L := by
  unfold DS.wr
  split <;> rfl
theorem fl_L (s : DS) : s.fl.L.length = s.L.length := by
  unfold DS.fl
  split <;> simp

/-- A disk that was made since w0. -/
def Dc (S : Nat → Prop) (w0 w : World) (d : Nat) (s : DS) : Prop := Dk S w d s ∧ Below w0.heap.size w0 w ∧ ∀ k, S k → w0.heap.size ≤ k

theorem Dc.to {S : Nat → Prop} {w0 w w' : World} {d : Nat} {s s' : DS} (h : Dc S w0 w d s) (k : DkTo S w w' d s') : ∃ S', Dc S' w0 w' d s' ∧ Tch S w w' ∧ ∀ k, S' k → S k ∨ w.heap.size ≤ k := by
  obtain ⟨S', h1, h2, h3⟩ := k
  refine ⟨S', ⟨h1, h.2.1.trans (h2.below h.2.1.size h.2.2), fun j hj => ?_⟩, h2, h3⟩
  rcases h3 j hj with e | e
  · exact h.2.2 j e
  · exact Nat.le_trans h.2.1.size e
theorem Dc.below {S : Nat → Prop} {w0 w w' : World} {d : Nat} {s : DS} (h : Dc S w0 w d s) (hb : Below w.heap.size w w') : Dc S w0 w' d s := ⟨h.1.below hb, h.2.1.trans (hb.mono h.2.1.size), h.2.2⟩
end Go.Proofs.Ytaacidgihhcpkaa
