/-
  Sectors know nothing of one another.
-/
import Derived.Test.YtmohbkhdloggeaaLawDPlays
namespace Go.Proofs.Ytmohbkhdloggeaa
open Go.RowKit Go.Maps
set_option linter.unusedVariables false
set_option linter.unusedSimpArgs false
set_option maxRecDepth 100000

theorem stp_L (s : DS) (x : Dd) : (stp s x).L.length = s.L.length := by
  unfold stp
  split
  · unfold wrr
    split
    · rfl
    · split
      · rw [wr_L]
      · rfl
  · exact fl_L s
  · exact pw_len s _
  · unfold rtt
    split
    · rfl
    · show (s.L.set _ _).length = _; rw [List.length_set]
  · unfold ctt
    split
    · rfl
    · rfl
  · rfl

/-- Two rows, compared. -/
theorem same_gen (u v : Value) (xs ys : List Int) (w : World) (hu : Rd .u8 w u xs) (hv : Rd .u8 w v ys) (hl : xs.length = ys.length) (h0 : xs ≠ []) : Calls Try.prog 23 #[u, v] w fun e w' => e = .returned (.bool (decide (xs = ys))) ∧ Below w.heap.size w w' := by
  obtain ⟨a, ca, rfl, ha1, ha2, _, ha⟩ := hu
  obtain ⟨b, cb, rfl, hb1, hb2, _, hb⟩ := hv
  have h63 : xs.length ≤ 9223372036854775807 := by unfold maxLen at ha2; omega
  have h1 : ys ≠ [] := fun e => h0 (List.eq_nil_of_length_eq_zero (by rw [hl, e]; rfl))
  rcases ha with e | ⟨ab, ao, rfl, ha⟩
  · exact absurd e h0
  rcases hb with e | ⟨bb, bo, rfl, hb⟩
  · exact absurd e h1
  have := same_any ab bb ao bo ca cb xs ys w hl h63 ha hb
  rw [← hl]
  exact this

/-- What the law holds of sectors: the first k. -/
structure Hd (S : Nat → Prop) (W0 w : World) (d g cap k : Nat) (s : DS) (Ws : List Value) : Prop where
  dc : Dc S W0 w d s
  row : w.ownsRow 0 41 1 (.slice (some ⟨g, 0, none⟩) 12 cap) 12 Ws
  nS : ¬ S g
  g0 : W0.heap.size ≤ g
  el : ∀ j, j < k → ∃ v, Ws[j]? = some v ∧ Rd .u8 w v (s.has j) ∧ (s.has j).length = 256 ∧ ∀ b, v.ownBlock = some b → ¬ S b ∧ b ≠ g ∧ b < w.heap.size

theorem Hd.lt {S : Nat → Prop} {W0 w : World} {d g cap k : Nat} {s : DS} {Ws : List Value} (h : Hd S W0 w d g cap k s Ws) : g < w.heap.size := (h.row.lt g rfl).2
theorem Hd.below {S : Nat → Prop} {W0 w w' : World} {d g cap k : Nat} {s : DS} {Ws : List Value} (h : Hd S W0 w d g cap k s Ws) (hb : Below w.heap.size w w') : Hd S W0 w' d g cap k s Ws :=
  ⟨h.dc.below hb, (Tch.of_below (S := fun _ => False) hb).owns h.row (fun _ _ e => e), h.nS, h.g0, fun j hj => by
    obtain ⟨v, h1, h2, h3, h4⟩ := h.el j hj
    exact ⟨v, h1, h2.below hb, h3, fun b hv => ⟨(h4 b hv).1, (h4 b hv).2.1, Nat.lt_of_lt_of_le (h4 b hv).2.2 hb.size⟩⟩⟩
/-- The disk does something to one sector alone. -/
theorem Hd.to {S : Nat → Prop} {W0 w w' : World} {d g cap : Nat} {P : Nat → Prop} {s s0 s' : DS} {Ws : List Value} (hdc : Dc S W0 w d s) (row : w.ownsRow 0 41 1 (.slice (some ⟨g, 0, none⟩) 12 cap) 12 Ws) (nS : ¬ S g)
    (el : ∀ j, j < 12 → ∃ v, Ws[j]? = some v ∧ Rd .u8 w v (s0.has j) ∧ (s0.has j).length = 256 ∧ ∀ b, v.ownBlock = some b → ¬ S b ∧ b ≠ g ∧ b < w.heap.size) (hd : DkTo S w w' d s') :
    ∃ S', Dc S' W0 w' d s' ∧ w'.ownsRow 0 41 1 (.slice (some ⟨g, 0, none⟩) 12 cap) 12 Ws ∧ ¬ S' g ∧ ∀ j, j < 12 → ∃ v, Ws[j]? = some v ∧ Rd .u8 w' v (s0.has j) ∧ (s0.has j).length = 256 ∧ ∀ b, v.ownBlock = some b → ¬ S' b ∧ b ≠ g ∧ b < w'.heap.size := by
  obtain ⟨S', h1, h2, h3⟩ := hdc.to hd
  have hg := (row.lt g rfl).2
  refine ⟨S', h1, h2.owns row (fun k hk => by cases hk; exact nS), fun e => ?_, fun j hj => ?_⟩
  · rcases h3 g e with e | e
    · exact nS e
    · omega
  · obtain ⟨v, e1, e2, e3, e4⟩ := el j hj
    refine ⟨v, e1, e2.tch h2 (fun k hk => (e4 k hk).1), e3, fun b hv => ⟨fun e => ?_, (e4 b hv).2.1, Nat.lt_of_lt_of_le (e4 b hv).2.2 h2.size⟩⟩
    rcases h3 b e with e | e
    · exact (e4 b hv).1 e
    · have := (e4 b hv).2.2; omega

/-- One more is held. -/
theorem Hd.put {S : Nat → Prop} {W0 w : World} {d g cap k : Nat} {s : DS} {Ws : List Value} (h : Hd S W0 w d g cap k s Ws) {v : Value} (hv : Rd .u8 w v (s.has k)) (hl : (s.has k).length = 256) (hf : ∀ b, v.ownBlock = some b → ¬ S b ∧ b ≠ g ∧ b < w.heap.size) (hk : k < 12) :
    Hd S W0 (w.setCell ⟨g, k, none⟩ v) d g cap (k + 1) s (Ws.set k v) := by
  have ht := tch_set w g k v
  have hWl : Ws.length = 12 := by have := h.row.1; omega
  refine ⟨⟨h.dc.1.tch ht (fun j hj e => h.nS (by rw [← e]; exact hj)), h.dc.2.1.trans (ht.below h.dc.2.1.size (fun j e => by rw [e]; exact h.g0)), h.dc.2.2⟩, (h.row.stored k v).1, h.nS, h.g0, fun j hj => ?_⟩
  by_cases e : j = k
  · subst e
    exact ⟨v, by rw [List.getElem?_set]; simp [hWl, hk], hv.tch ht (fun b hb => (hf b hb).2.1), hl, fun b hb => ⟨(hf b hb).1, (hf b hb).2.1, Nat.lt_of_lt_of_le (hf b hb).2.2 ht.size⟩⟩
  · obtain ⟨u, e1, e2, e3, e4⟩ := h.el j (by omega)
    exact ⟨u, by rw [List.getElem?_set_ne (fun e2 => e e2.symm)]; exact e1, e2.tch ht (fun b hb => (e4 b hb).2.1), e3, fun b hb => ⟨(e4 b hb).1, (e4 b hb).2.1, Nat.lt_of_lt_of_le (e4 b hb).2.2 ht.size⟩⟩

theorem has_wr {s : DS} {a : Int} {xs : List Int} {i : Nat} (hi : (i : Int) ≠ a) : (wrr s a xs).has i = s.has i := by
  unfold wrr
  split
  · rfl
  · split
    · unfold DS.wr
      split
      · unfold DS.has vput
        simp only [DS.tick]
        rw [if_neg (by omega)]
      · rfl
    · rfl
theorem wrr_len (s : DS) (a : Int) (xs : List Int) : (wrr s a xs).L.length = s.L.length := by
  unfold wrr
  split
  · rfl
  · split
    · rw [wr_L]
    · rfl
theorem has_rot {s : DS} {m i : Nat} (hi : i ≠ m / 2048) : (s.rot m).has i = s.has i := by
  unfold DS.rot DS.has vput
  dsimp only
  rw [if_neg hi]
  congr 1
  rw [List.getD_eq_getElem?_getD, List.getElem?_set_ne (fun e => hi e.symm), ← List.getD_eq_getElem?_getD]
theorem Dk.has_len {S : Nat → Prop} {w : World} {d : Nat} {s : DS} (h : Dk S w d s) {i : Nat} (hi : i < s.L.length) : (s.has i).length = 256 := by
  obtain ⟨lb, vb, lc, g, h⟩ := h
  by_cases e : s.V i = []
  · rw [show s.has i = s.L.getD i [] by unfold DS.has; rw [e]; rfl]
    exact (h.lies.1.get hi).1
  · rw [has_last e]
    cases e2 : g i with
    | none => exact absurd (h.no i e2) e
    | some v =>
      have h0 : (s.V i).length ≠ 0 := fun e3 => e (List.eq_nil_of_length_eq_zero e3)
      exact ((h.yes i v e2).2.2.1.1.get (by omega)).1
end Go.Proofs.Ytmohbkhdloggeaa
