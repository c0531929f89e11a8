/-
  A heap of pairs as a list: what a swap does, how one sinks, how one rises, and that the first is the least.
-/
import Derived.KernelRfl
namespace Go.Proofs.Ytcmnhgefeffcpaa.Hf

def ltP (a b : Int × Int) : Prop := a.1 < b.1 ∨ (a.1 = b.1 ∧ a.2 < b.2)
instance (a b : Int × Int) : Decidable (ltP a b) := by unfold ltP; infer_instance
def ltB (a b : Int × Int) : Bool := decide (ltP a b)
theorem ltB_iff {a b : Int × Int} : ltB a b = true ↔ ltP a b := by simp [ltB]
theorem ltB_false {a b : Int × Int} : ltB a b = false ↔ ¬ ltP a b := by simp [ltB]
def leP (a b : Int × Int) : Prop := ¬ ltP b a

theorem leP_trans {a b c : Int × Int} (h : leP a b) (k : leP b c) : leP a c := by unfold leP ltP at *; omega
theorem leP_of_lt {a b : Int × Int} (h : ltP a b) : leP a b := by unfold leP ltP at *; omega
theorem leP_refl (a : Int × Int) : leP a a := by unfold leP ltP at *; omega
theorem leP_total (a b : Int × Int) : leP a b ∨ leP b a := by unfold leP ltP; omega
theorem leP_antisymm {a b : Int × Int} (h : leP a b) (k : leP b a) : a = b := by
  unfold leP ltP at *
  obtain ⟨a1, a2⟩ := a
  obtain ⟨b1, b2⟩ := b
  simp only [Prod.mk.injEq]
  simp only at h k
  omega

abbrev G (ps : List (Int × Int)) (i : Nat) : Int × Int := ps.getD i (0, 0)

def swp (ps : List (Int × Int)) (i j : Nat) : List (Int × Int) := (ps.set i (G ps j)).set j (G ps i)

theorem swp_length (ps : List (Int × Int)) (i j : Nat) : (swp ps i j).length = ps.length := by simp [swp]

theorem swp_perm (ps : List (Int × Int)) {i j : Nat} (hi : i < ps.length) (hj : j < ps.length) : (swp ps i j).Perm ps := by
  have h := Array.swap_perm (xs := ps.toArray) (i := i) (j := j) (by simpa using hi) (by simpa using hj)
  have e : (ps.toArray.swap i j (by simpa using hi) (by simpa using hj)).toList = swp ps i j := by
    simp [Array.swap_def, swp, G, List.getD_eq_getElem?_getD, hi, hj]
  have := Array.perm_iff_toList_perm.1 h
  rw [e] at this
  simpa using this

theorem swp_getD (ps : List (Int × Int)) {i j : Nat} (hi : i < ps.length) (hj : j < ps.length) (k : Nat) : G (swp ps i j) k = if k = j then G ps i else if k = i then G ps j else G ps k := by
  unfold G swp
  simp only [List.getD_eq_getElem?_getD, List.getElem?_set, List.length_set]
  by_cases h1 : k = j
  · subst h1; simp [hj]
  · by_cases h2 : k = i
    · subst h2
      rw [if_neg (fun e => h1 e.symm), if_neg h1]
      simp [hi]
    · rw [if_neg (fun e => h1 e.symm), if_neg (fun e => h2 e.symm), if_neg h1, if_neg h2]

/-- c is a child of a. -/
def Ch (a c : Nat) : Prop := c = 2 * a + 1 ∨ c = 2 * a + 2

/-- From k on, of the first n, no parent is greater than its child. -/
def Heap (ps : List (Int × Int)) (n k : Nat) : Prop := ∀ a c, k ≤ a → Ch a c → c < n → leP (G ps a) (G ps c)

structure Dn (ps0 ps : List (Int × Int)) (n i0 i : Nat) : Prop where
  perm : ps.Perm ps0
  rest : ∀ k, n ≤ k → G ps k = G ps0 k
  ok : ∀ a c, i0 ≤ a → a ≠ i → Ch a c → c < n → leP (G ps a) (G ps c)
  up : ∀ p c, i0 ≤ p → Ch p i → Ch i c → c < n → leP (G ps p) (G ps c)
  ge : i0 ≤ i
  nl : n ≤ ps.length

theorem Dn.start {ps : List (Int × Int)} {n i0 : Nat} (h : Heap ps n (i0 + 1)) (hn : n ≤ ps.length) : Dn ps ps n i0 i0 :=
  ⟨List.Perm.refl _, fun _ _ => rfl, fun a c h1 h2 h3 h4 => h a c (by omega) h3 h4, fun p c h1 h2 h3 h4 => by unfold Ch at h2; omega, Nat.le_refl _, hn⟩

theorem Dn.stop {ps0 ps : List (Int × Int)} {n i0 i : Nat} (h : Dn ps0 ps n i0 i) (hc : ∀ c, Ch i c → c < n → leP (G ps i) (G ps c)) : Heap ps n i0 := by
  intro a c h1 h2 h3
  by_cases e : a = i
  · subst e; exact hc c h2 h3
  · exact h.ok a c h1 e h2 h3

theorem Dn.sink {ps0 ps : List (Int × Int)} {n i0 i j : Nat} (h : Dn ps0 ps n i0 i) (hj : Ch i j) (hn : j < n) (hm : ∀ c, Ch i c → c < n → leP (G ps j) (G ps c)) (hl : ltP (G ps j) (G ps i)) : Dn ps0 (swp ps i j) n i0 j := by
  have hnl := h.nl
  have hge := h.ge
  have hij : i < j := by unfold Ch at hj; omega
  have hi' : i < ps.length := by omega
  have hj' : j < ps.length := by omega
  have g := swp_getD ps hi' hj'
  refine ⟨(swp_perm ps hi' hj').trans h.perm, fun k hk => ?_, fun a c h1 h2 h3 h4 => ?_, fun p c h1 h2 h3 h4 => ?_, by omega, by rw [swp_length]; exact hnl⟩
  · rw [g, if_neg (by omega), if_neg (by omega)]; exact h.rest k hk
  · rw [g a, g c, if_neg h2]
    by_cases ea : a = i
    · subst ea
      rw [if_pos rfl]
      by_cases ec : c = j
      · rw [if_pos ec]; exact leP_of_lt hl
      · rw [if_neg ec, if_neg (by unfold Ch at h3; omega)]; exact hm c h3 h4
    · rw [if_neg ea]
      by_cases ec : c = j
      · subst ec; unfold Ch at hj h3; omega
      · rw [if_neg ec]
        by_cases ec2 : c = i
        · subst ec2; rw [if_pos rfl]; exact h.up a j h1 h3 hj hn
        · rw [if_neg ec2]; exact h.ok a c h1 ea h3 h4
  · have ep : p = i := by unfold Ch at h2 hj; omega
    subst ep
    rw [g p, g c, if_neg (by omega), if_pos rfl, if_neg (by unfold Ch at h3; omega), if_neg (by unfold Ch at h3; omega)]
    exact h.ok j c (by omega) (by omega) h3 h4

structure Up (ps0 ps : List (Int × Int)) (n j : Nat) : Prop where
  perm : ps.Perm ps0
  ok : ∀ a c, c ≠ j → Ch a c → c < n → leP (G ps a) (G ps c)
  up : ∀ p c, Ch p j → Ch j c → c < n → leP (G ps p) (G ps c)
  jn : j < n
  nl : n = ps.length

theorem Up.start {ps : List (Int × Int)} {x : Int × Int} (h : Heap ps ps.length 0) : Up (ps ++ [x]) (ps ++ [x]) (ps.length + 1) ps.length := by
  refine ⟨List.Perm.refl _, fun a c h1 h2 h3 => ?_, fun p c h1 h2 h3 => by unfold Ch at h2; omega, by omega, by simp⟩
  have e : ∀ k, k < ps.length → G (ps ++ [x]) k = G ps k := fun k hk => by simp [G, List.getD_eq_getElem?_getD, List.getElem?_append_left hk]
  rw [e c (by omega), e a (by unfold Ch at h2; omega)]
  exact h a c (Nat.zero_le _) h2 (by omega)

theorem Up.top {ps0 ps : List (Int × Int)} {n : Nat} (h : Up ps0 ps n 0) : Heap ps n 0 := fun a c _ h2 h3 => h.ok a c (by unfold Ch at h2; omega) h2 h3

theorem Up.stop {ps0 ps : List (Int × Int)} {n p j : Nat} (h : Up ps0 ps n j) (hp : Ch p j) (hl : ¬ ltP (G ps j) (G ps p)) : Heap ps n 0 := by
  intro a c _ h2 h3
  by_cases e : c = j
  · subst e
    have : a = p := by unfold Ch at h2 hp; omega
    subst this
    exact hl
  · exact h.ok a c e h2 h3

theorem Up.rise {ps0 ps : List (Int × Int)} {n p j : Nat} (h : Up ps0 ps n j) (hp : Ch p j) (hl : ltP (G ps j) (G ps p)) : Up ps0 (swp ps p j) n p := by
  have hjn := h.jn
  have hnl := h.nl
  have hpj : p < j := by unfold Ch at hp; omega
  have hp' : p < ps.length := by omega
  have hj' : j < ps.length := by omega
  have g := swp_getD ps hp' hj'
  refine ⟨(swp_perm ps hp' hj').trans h.perm, fun a c h1 h2 h3 => ?_, fun q c h1 h2 h3 => ?_, by omega, by rw [swp_length]; exact hnl⟩
  · rw [g a, g c]
    by_cases ec : c = j
    · have ea : a = p := by unfold Ch at h2 hp; omega
      subst ea; subst ec
      rw [if_neg (by omega), if_pos rfl, if_pos rfl]
      exact leP_of_lt hl
    · rw [if_neg ec, if_neg h1]
      by_cases ea : a = j
      · subst ea; rw [if_pos rfl]; exact h.up p c hp h2 h3
      · rw [if_neg ea]
        by_cases ea2 : a = p
        · subst ea2; rw [if_pos rfl]; exact leP_trans (leP_of_lt hl) (h.ok a c ec h2 h3)
        · rw [if_neg ea2]; exact h.ok a c ec h2 h3
  · have hq : leP (G ps q) (G ps p) := h.ok q p (by omega) h1 (by omega)
    rw [g q, g c, if_neg (by unfold Ch at h1; omega), if_neg (by unfold Ch at h1; omega)]
    by_cases ec : c = j
    · subst ec; rw [if_pos rfl]; exact hq
    · rw [if_neg ec, if_neg (by unfold Ch at h2; omega)]
      exact leP_trans hq (h.ok p c ec h2 h3)

/-- The first is the least. -/
theorem Heap.least {ps : List (Int × Int)} {n : Nat} (h : Heap ps n 0) : ∀ k, k < n → leP (G ps 0) (G ps k) := by
  intro k
  induction k using Nat.strongRecOn with
  | ind k ih =>
    intro hk
    by_cases h0 : k = 0
    · subst h0; exact leP_refl _
    · have hc : Ch ((k - 1) / 2) k := by unfold Ch; omega
      exact leP_trans (ih ((k - 1) / 2) (by omega) (by omega)) (h _ k (Nat.zero_le _) hc hk)

theorem mem_G {ps : List (Int × Int)} {x : Int × Int} (h : x ∈ ps) : ∃ k, k < ps.length ∧ G ps k = x := by
  obtain ⟨k, hk, e⟩ := List.mem_iff_getElem.1 h
  exact ⟨k, hk, by simp [G, List.getD_eq_getElem?_getD, hk, e]⟩

theorem G_mem {ps : List (Int × Int)} {k : Nat} (h : k < ps.length) : G ps k ∈ ps := by
  simp [G, List.getD_eq_getElem?_getD, h]

/-- Taking the first: what is left, with the last one in its place, sunk; all but the first. -/
theorem pop_perm {ps qs : List (Int × Int)} {n : Nat} (hl : ps.length = n + 1) (hq : qs.Perm (swp ps 0 n)) (hr : ∀ k, n ≤ k → G qs k = G (swp ps 0 n) k) :
    G qs n = G ps 0 ∧ ps.Perm (G ps 0 :: qs.take n) := by
  have hql : qs.length = n + 1 := by rw [hq.length_eq, swp_length, hl]
  have e : G qs n = G ps 0 := by rw [hr n (Nat.le_refl _), swp_getD ps (by omega) (by omega), if_pos rfl]
  refine ⟨e, ?_⟩
  have h1 : qs = qs.take n ++ [G qs n] := by
    have : qs.take (n + 1) = qs := List.take_of_length_le (by omega)
    conv => lhs; rw [← this, List.take_succ_eq_append_getElem (by omega)]
    simp [G, List.getD_eq_getElem?_getD, hql]
  have h2 : ps.Perm qs := (hq.trans (swp_perm ps (by omega) (by omega))).symm
  rw [h1, e] at h2
  exact h2.trans (List.perm_append_comm)

theorem Heap.take {ps : List (Int × Int)} {n : Nat} (h : Heap ps n 0) : Heap (ps.take n) n 0 := by
  have e : ∀ k, k < n → G (ps.take n) k = G ps k := fun k hk => by simp [G, List.getD_eq_getElem?_getD, hk]
  intro a c h1 h2 h3
  rw [e c h3, e a (by unfold Ch at h2; omega)]
  exact h a c h1 h2 h3

end Go.Proofs.Ytcmnhgefeffcpaa.Hf
