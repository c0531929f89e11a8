import Derived.Test.YtgpaklifjonlkaaKP06
import Derived.Test.YtgpaklifjonlkaaKP18
/-
  The sectors with versions, rising.
-/
namespace Go.Proofs.Ytgpaklifjonlkaa
open Go.RowKit Go.Maps Go.Sort Go.Shelf
set_option linter.unusedVariables false
set_option linter.unusedSimpArgs false
set_option maxRecDepth 100000

theorem intKeys_dm (n : Nat) (g : Nat → Option Value) : intKeys (Dm n g) = ((List.range n).filter fun i => (g i).isSome).map Int.ofNat := by
  show (ents n g).map (fun p => _) = _
  unfold ents
  generalize List.range n = l
  induction l with
  | nil => rfl
  | cons i r ih =>
    cases e : g i with
    | none => simp [List.filterMap_cons, e] at ih ⊢; exact ih
    | some v => simp [List.filterMap_cons, e] at ih ⊢; exact ⟨rfl, ih⟩

theorem DkAt.dirty {S : Nat → Prop} {w : World} {d : Nat} {s : DS} {lb vb lc : Nat} {g : Nat → Option Value} (h : DkAt S w d s lb vb lc g) : intKeys (Dm s.L.length g) = s.dirty.map Int.ofNat := by
  rw [intKeys_dm]
  unfold DS.dirty
  congr 1
  refine List.filter_congr fun i hi => ?_
  rw [Bool.eq_iff_iff, decide_eq_true_eq]
  cases e : g i with
  | none => simp [h.no i e]
  | some v => simp [(h.yes i v e).2.1]

theorem dirty_rising (s : DS) : (s.dirty.map Int.ofNat).Pairwise (fun a b => a ≤ b) := by
  rw [List.pairwise_map]
  unfold DS.dirty
  refine List.Pairwise.filter _ (List.Pairwise.imp (fun {a b} (h : a < b) => ?_) List.pairwise_lt_range)
  exact Int.ofNat_le.2 (Nat.le_of_lt h)

theorem sort_dirty {ss : List Int} {s : DS} (h : ss.Perm (s.dirty.map Int.ofNat)) : ss.mergeSort (fun x y => decide (x ≤ y)) = s.dirty.map Int.ofNat := by
  have tr : ∀ a b c : Int, decide (a ≤ b) = true → decide (b ≤ c) = true → decide (a ≤ c) = true := fun a b c h1 h2 => by simp only [decide_eq_true_eq] at *; omega
  have to : ∀ a b : Int, (decide (a ≤ b) || decide (b ≤ a)) = true := fun a b => by simp only [Bool.or_eq_true, decide_eq_true_eq]; omega
  refine List.Perm.eq_of_pairwise (le := fun a b => decide (a ≤ b) = true) (fun a b _ _ h1 h2 => by simp only [decide_eq_true_eq] at h1 h2; omega) (List.pairwise_mergeSort tr to ss) ((dirty_rising s).imp fun {a b} h => by simpa using h) ((List.mergeSort_perm ss _).trans h)

theorem dirty_len (s : DS) : s.dirty.length ≤ s.L.length := by
  have := List.length_filter_le (fun i => decide (s.V i ≠ [])) (List.range s.L.length)
  simpa [DS.dirty] using this

set_option maxHeartbeats 1000000 in
theorem dirty_any {S : Nat → Prop} {d : Nat} {s : DS} (w : World) (hd : Dk S w d s) :
    Calls Try.prog 16 #[dp d] w fun e w' => ∃ v, e = .returned v ∧ Owns .i64 3 w' v (s.dirty.map Int.ofNat) ∧ Below w.heap.size w w' ∧ ∀ k, v.ownBlock = some k → w.heap.size ≤ k := by
  obtain ⟨lb, vb, lc, g, h⟩ := hd
  have c1 := h.c1
  have HP : Hid (intKeys (Dm s.L.length g) = s.dirty.map Int.ofNat) := h.dirty
  have hown := h.map
  have hsz := dm_size s.L.length g
  have n2 := h.n2
  obtain ⟨D0, hD⟩ : ∃ D, Dm s.L.length g = D := ⟨_, rfl⟩
  unfold Mp at hown
  rw [hD] at HP hown hsz
  obtain ⟨nn, hnn⟩ : ∃ n, s.L.length = n := ⟨_, rfl⟩
  rw [hnn] at hown hsz n2
  clear h hD hnn
  refine (callsIn_wide (n := 6)).1 ?_
  have hbl := hown.lt
  have hseq : SeqGives Fence.wide 2 Try.prog 67 #[.pointer (some ⟨w.heap.size, 0, none⟩)] encZ (fun ss => ss.Perm (intKeys D0)) (Maps.size D0) (w.alloc (.cells #[.map (some vb)] 62)) :=
    AnyZI.keys_gives (ρ := Try.keysA_ren) { Try.keysA with } Fence.wide _ trivial rfl (by omega) w.heap.size vb nn D0 _ (by simp) (by simp) (by
      obtain ⟨es, clock, hb, Ft, hs, hD⟩ := hown
      exact ⟨es, clock, (Below.heap_alloc _ _ vb hbl).trans hb, Ft, hs, hD⟩)
  have cK : ∀ mb W, CallsIn Fence.wide 5 Try.prog 41 #[.map mb] W fun e w' => e = .returned (.func (.func 67) #[] #[.pointer (some ⟨W.heap.size, 0, none⟩)]) ∧ w' = W.alloc (.cells #[.map mb] 62) := fun mb W => AnyZI.keys_in Try.keysA Fence.wide 5 trivial rfl mb W
  have cS := AnyZI.sorted_in Try.sortedA Fence.wide 5 trivial trivial trivial trivial rfl (by omega) (Try.sortsA _) (enters_of Try.func64 (by kernel_rfl) rfl) 67 #[.pointer (some ⟨w.heap.size, 0, none⟩)] trivial (enters_of Try.func67 (by kernel_rfl) rfl) _ _ (by unfold maxLen; omega) (by omega) _ hseq
  change CallsIn _ _ Try.prog 36 _ _ _ at cS
  have hfK : Fence.wide.fn 41 := trivial
  have hfS : Fence.wide.fn 36 := trivial
  refine callsIn_of_wp Try.func16 rfl trivial ?_ rfl
  simp only [Try.ntmps16, List.size_toArray, List.length_cons, List.length_nil, Nat.reduceAdd, Nat.reduceSub, Array.replicate_succ, Array.replicate_zero, List.push_toArray, List.append_toArray, List.nil_append, List.cons_append]
  gi_wp2_with (first
    | (gi_at_call 41; refine (cK _ _).mono ?_; rintro e w' ⟨rfl, rfl⟩)
    | (gi_at_call 36; refine cS.mono ?_; rintro e w' ⟨v, ss, rfl, hS, hrow, hnil, hb⟩))
  go_ret
  rw [HP.out] at hS
  have h1 := sort_dirty hS
  have hl : ss.length = (s.dirty.map Int.ofNat).length := hS.length_eq
  rw [h1, hl] at hrow
  have hlow := hrow.lt
  refine ⟨v, rfl, ownsRow_base_a hrow (Nat.zero_le _), ((Below.refl _ w).alloc (Nat.le_refl _) _).trans (hb.mono (by simp)), fun k hk => ?_⟩
  have := (hlow k hk).1
  simp at this
  omega
end Go.Proofs.Ytgpaklifjonlkaa
