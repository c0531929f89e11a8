/-
  A heap of numbers as a list: what a swap does, how one sinks, how one rises, and that the first is the least.
-/
import Derived.KernelRfl
namespace Go.Proofs.Ytamgogkkcbeaaaa.Ah

abbrev G (ps : List Int) (i : Nat) : Int := ps.getD i 0

def swp (ps : List Int) (i j : Nat) : List Int := (ps.set i (G ps j)).set j (G ps i)

theorem swp_length (ps : List Int) (i j : Nat) : (swp ps i j).length = ps.length := by simp [swp]

theorem swp_perm (ps : List Int) {i j : Nat} (hi : i < ps.length) (hj : j < ps.length) : (swp ps i j).Perm ps := by
  have h := Array.swap_perm (xs := ps.toArray) (i := i) (j := j) (by simpa using hi) (by simpa using hj)
  have e : (ps.toArray.swap i j (by simpa using hi) (by simpa using hj)).toList = swp ps i j := by
    simp [Array.swap_def, swp, G, List.getD_eq_getElem?_getD, hi, hj]
  have := Array.perm_iff_toList_perm.1 h
  rw [e] at this
  simpa using this

theorem swp_getD (ps : List Int) {i j : Nat} (hi : i < ps.length) (hj : j < ps.length) (k : Nat) : G (swp ps i j) k = if k = j then G ps i else if k = i then G ps j else G ps k := by
  unfold G swp
  simp only [List.getD_eq_getElem?_getD, List.getElem?_set, List.length_set]
  by_cases h1 : k = j
  · subst h1; simp [hj]
  · by_cases h2 : k = i
    · subst h2
      rw [if_neg (fun e => h1 e.symm), if_neg h1]
      simp [hi]
    · rw [if_neg (fun e => h1 e.symm), if_neg (fun e => h2 e.symm), if_neg h1, if_neg h2]

/-- c is a child of a. -/
def Ch (a c : Nat) : Prop := c = 2 * a + 1 ∨ c = 2 * a + 2

/-- Of the first n, no parent is greater than its child. -/
def Heap (ps : List Int) (n : Nat) : Prop := ∀ a c, Ch a c → c < n → G ps a ≤ G ps c

/-- So but for i, beside its own. -/
def Hx (ps : List Int) (n i : Nat) : Prop := (∀ a c, a ≠ i → c ≠ i → Ch a c → c < n → G ps a ≤ G ps c) ∧ ∀ p c, Ch p i → Ch i c → c < n → G ps p ≤ G ps c
/-- So but for i with its parent. -/
def Ux (ps : List Int) (n i : Nat) : Prop := (∀ a c, c ≠ i → Ch a c → c < n → G ps a ≤ G ps c) ∧ ∀ p c, Ch p i → Ch i c → c < n → G ps p ≤ G ps c
/-- So but for i with its children. -/
def Dx (ps : List Int) (n i : Nat) : Prop := (∀ a c, a ≠ i → Ch a c → c < n → G ps a ≤ G ps c) ∧ ∀ p c, Ch p i → Ch i c → c < n → G ps p ≤ G ps c

/-- One sinks: it stands at k, and began at i0. -/
structure Dn (ps0 ps : List Int) (n i0 k : Nat) : Prop where
  perm : ps.Perm ps0
  rest : ∀ j, n ≤ j → G ps j = G ps0 j
  ge : i0 ≤ k
  nl : n ≤ ps.length
  ok : (k = i0 ∧ Hx ps n i0) ∨ (i0 < k ∧ Dx ps n k)

theorem Dn.start {ps : List Int} {n i0 : Nat} (h : Hx ps n i0) (hn : n ≤ ps.length) : Dn ps ps n i0 i0 :=
  ⟨List.Perm.refl _, fun _ _ => rfl, Nat.le_refl _, hn, .inl ⟨rfl, h⟩⟩

theorem Dn.stop {ps0 ps : List Int} {n i0 k : Nat} (h : Dn ps0 ps n i0 k) (hc : ∀ c, Ch k c → c < n → G ps k ≤ G ps c) : (i0 < k → Heap ps n) ∧ (¬ i0 < k → Ux ps n i0) := by
  refine ⟨fun hk a c h2 h3 => ?_, fun hk => ?_⟩
  · rcases h.ok with ⟨e, _⟩ | ⟨_, hd, _⟩
    · omega
    · by_cases e : a = k
      · subst e; exact hc c h2 h3
      · exact hd a c e h2 h3
  · rcases h.ok with ⟨e, hx, hu⟩ | ⟨e, _⟩
    · subst e
      refine ⟨fun a c h1 h2 h3 => ?_, hu⟩
      by_cases e : a = k
      · subst e; exact hc c h2 h3
      · exact hx a c e h1 h2 h3
    · omega

theorem Dn.sink {ps0 ps : List Int} {n i0 k j : Nat} (h : Dn ps0 ps n i0 k) (hj : Ch k j) (hn : j < n) (hm : ∀ c, Ch k c → c < n → G ps j ≤ G ps c) (hl : G ps j < G ps k) : Dn ps0 (swp ps k j) n i0 j := by
  have hnl := h.nl
  have hge := h.ge
  have hkj : k < j := by unfold Ch at hj; omega
  have hi' : k < ps.length := by omega
  have hj' : j < ps.length := by omega
  have g := swp_getD ps hi' hj'
  have h1 : ∀ a c, a ≠ k → c ≠ k → Ch a c → c < n → G ps a ≤ G ps c := by
    rcases h.ok with ⟨e, hx, _⟩ | ⟨_, hd, _⟩
    · subst e; exact hx
    · exact fun a c e _ => hd a c e
  have h2 : ∀ p c, Ch p k → Ch k c → c < n → G ps p ≤ G ps c := by
    rcases h.ok with ⟨e, _, hu⟩ | ⟨_, _, hu⟩
    · subst e; exact hu
    · exact hu
  refine ⟨(swp_perm ps hi' hj').trans h.perm, fun i hi => ?_, by omega, by rw [swp_length]; exact hnl, .inr ⟨by omega, fun a c e1 e3 e4 => ?_, fun p c e2 e3 e4 => ?_⟩⟩
  · rw [g, if_neg (by omega), if_neg (by omega)]; exact h.rest i hi
  · rw [g a, g c, if_neg e1]
    by_cases ea : a = k
    · subst ea
      rw [if_pos rfl]
      by_cases ec : c = j
      · rw [if_pos ec]; omega
      · rw [if_neg ec, if_neg (by unfold Ch at e3; omega)]; exact hm c e3 e4
    · rw [if_neg ea]
      by_cases ec : c = j
      · subst ec; unfold Ch at hj e3; omega
      · rw [if_neg ec]
        by_cases ec2 : c = k
        · subst ec2; rw [if_pos rfl]; exact h2 a j e3 hj hn
        · rw [if_neg ec2]; exact h1 a c ea ec2 e3 e4
  · have ep : p = k := by unfold Ch at e2 hj; omega
    subst ep
    rw [g p, g c, if_neg (by omega), if_pos rfl, if_neg (by unfold Ch at e3; omega), if_neg (by unfold Ch at e3; omega)]
    exact h1 j c (by omega) (by unfold Ch at e3; omega) e3 e4

/-- One rises: it stands at j. -/
structure Up (ps0 ps : List Int) (n j : Nat) : Prop where
  perm : ps.Perm ps0
  rest : ∀ k, n ≤ k → G ps k = G ps0 k
  jn : j = 0 ∨ j < n
  nl : n ≤ ps.length
  ux : Ux ps n j

theorem Up.top {ps0 ps : List Int} {n : Nat} (h : Up ps0 ps n 0) : Heap ps n := fun a c h2 h3 => h.ux.1 a c (by unfold Ch at h2; omega) h2 h3

theorem Up.stop {ps0 ps : List Int} {n p j : Nat} (h : Up ps0 ps n j) (hp : Ch p j) (hl : ¬ G ps j < G ps p) : Heap ps n := by
  intro a c h2 h3
  by_cases e : c = j
  · subst e
    have : a = p := by unfold Ch at h2 hp; omega
    subst this
    omega
  · exact h.ux.1 a c e h2 h3

theorem Up.rise {ps0 ps : List Int} {n p j : Nat} (h : Up ps0 ps n j) (hp : Ch p j) (hl : G ps j < G ps p) : Up ps0 (swp ps p j) n p := by
  have hjn : j < n := by rcases h.jn with e | e; (· unfold Ch at hp; omega); (· exact e)
  have hnl := h.nl
  have hpj : p < j := by unfold Ch at hp; omega
  have hp' : p < ps.length := by omega
  have hj' : j < ps.length := by omega
  have g := swp_getD ps hp' hj'
  have ok := h.ux.1
  have up := h.ux.2
  refine ⟨(swp_perm ps hp' hj').trans h.perm, fun k hk => ?_, .inr (by omega), by rw [swp_length]; exact hnl, fun a c h1 h2 h3 => ?_, fun q c h1 h2 h3 => ?_⟩
  · rw [g, if_neg (by omega), if_neg (by omega)]; exact h.rest k hk
  · rw [g a, g c]
    by_cases ec : c = j
    · have ea : a = p := by unfold Ch at h2 hp; omega
      subst ea; subst ec
      rw [if_neg (by omega), if_pos rfl, if_pos rfl]
      omega
    · rw [if_neg ec, if_neg h1]
      by_cases ea : a = j
      · subst ea; rw [if_pos rfl]; exact up p c hp h2 h3
      · rw [if_neg ea]
        by_cases ea2 : a = p
        · subst ea2; rw [if_pos rfl]; exact Int.le_trans (Int.le_of_lt hl) (ok a c ec h2 h3)
        · rw [if_neg ea2]; exact ok a c ec h2 h3
  · have hq : G ps q ≤ G ps p := ok q p (by omega) h1 (by omega)
    rw [g q, g c, if_neg (by unfold Ch at h1; omega), if_neg (by unfold Ch at h1; omega)]
    by_cases ec : c = j
    · subst ec; rw [if_pos rfl]; exact hq
    · rw [if_neg ec, if_neg (by unfold Ch at h2; omega)]
      exact Int.le_trans hq (ok p c ec h2 h3)

/-- The first is the least. -/
theorem Heap.least {ps : List Int} {n : Nat} (h : Heap ps n) : ∀ k, k < n → G ps 0 ≤ G ps k := by
  intro k
  induction k using Nat.strongRecOn with
  | ind k ih =>
    intro hk
    by_cases h0 : k = 0
    · subst h0; exact Int.le_refl _
    · have hc : Ch ((k - 1) / 2) k := by unfold Ch; omega
      exact Int.le_trans (ih ((k - 1) / 2) (by omega) (by omega)) (h _ k hc hk)

theorem mem_G {ps : List Int} {x : Int} (h : x ∈ ps) : ∃ k, k < ps.length ∧ G ps k = x := by
  obtain ⟨k, hk, e⟩ := List.mem_iff_getElem.1 h
  exact ⟨k, hk, by simp [G, List.getD_eq_getElem?_getD, hk, e]⟩

theorem G_mem {ps : List Int} {k : Nat} (h : k < ps.length) : G ps k ∈ ps := by
  simp [G, List.getD_eq_getElem?_getD, h]

/-- One is laid behind a heap. -/
theorem Up.push {ps : List Int} {x : Int} (h : Heap ps ps.length) : Up (ps ++ [x]) (ps ++ [x]) (ps.length + 1) ps.length := by
  refine ⟨List.Perm.refl _, fun _ _ => rfl, .inr (by omega), by simp, fun a c h1 h2 h3 => ?_, fun p c h1 h2 h3 => by unfold Ch at h2; omega⟩
  have e : ∀ k, k < ps.length → G (ps ++ [x]) k = G ps k := fun k hk => by simp [G, List.getD_eq_getElem?_getD, List.getElem?_append_left hk]
  rw [e c (by omega), e a (by unfold Ch at h2; omega)]
  exact h a c h2 (by omega)

/-- The one at i and the last change places: of all but the last so but for i. -/
theorem Hx.swap {ps : List Int} {n i : Nat} (h : Heap ps ps.length) (hn : ps.length = n + 1) (hi : i ≤ n) : Hx (swp ps i n) n i := by
  have g := swp_getD ps (i := i) (j := n) (by omega) (by omega)
  refine ⟨fun a c h1 h2 h3 h4 => ?_, fun p c h1 h2 h3 => ?_⟩
  · have := h3
    unfold Ch at this
    rw [g a, g c, if_neg (by omega), if_neg h1, if_neg (by omega), if_neg h2]
    exact h a c h3 (by omega)
  · have q1 := h1
    have q2 := h2
    unfold Ch at q1 q2
    rw [g p, g c, if_neg (by omega), if_neg (by omega), if_neg (by omega), if_neg (by omega)]
    exact Int.le_trans (h p i h1 (by omega)) (h i c h2 (by omega))

/-- The last, which stood at i, is taken: all but it are left. -/
theorem take_perm {ps qs : List Int} {n i : Nat} (hl : ps.length = n + 1) (hi : i ≤ n) (hq : qs.Perm (swp ps i n)) (hr : ∀ k, n ≤ k → G qs k = G (swp ps i n) k) :
    G qs n = G ps i ∧ ps.Perm (G ps i :: qs.take n) := by
  have hql : qs.length = n + 1 := by rw [hq.length_eq, swp_length, hl]
  have e : G qs n = G ps i := by rw [hr n (Nat.le_refl _), swp_getD ps (by omega) (by omega), if_pos rfl]
  refine ⟨e, ?_⟩
  have h1 : qs = qs.take n ++ [G qs n] := by
    have : qs.take (n + 1) = qs := List.take_of_length_le (by omega)
    conv => lhs; rw [← this, List.take_succ_eq_append_getElem (by omega)]
    simp [G, List.getD_eq_getElem?_getD, hql]
  have h2 : ps.Perm qs := (hq.trans (swp_perm ps (by omega) (by omega))).symm
  rw [h1, e] at h2
  exact h2.trans (List.perm_append_comm)

theorem Heap.take {ps : List Int} {n : Nat} (h : Heap ps n) : Heap (ps.take n) n := by
  have e : ∀ k, k < n → G (ps.take n) k = G ps k := fun k hk => by simp [G, List.getD_eq_getElem?_getD, hk]
  intro a c h2 h3
  rw [e c h3, e a (by unfold Ch at h2; omega)]
  exact h a c h2 h3

/-- Where each stands is kept. -/
def Pls (ns ps : List Int) : Prop := ∀ i, i < ns.length → 0 ≤ G ns i ∧ (G ns i).toNat < ps.length ∧ G ps (G ns i).toNat = i

theorem Pls.inj {ns ps : List Int} (h : Pls ns ps) {i j : Nat} (hi : i < ns.length) (hj : j < ns.length) (e : G ns i = G ns j) : i = j := by
  have a := (h i hi).2.2
  have b := (h j hj).2.2
  rw [e, b] at a
  omega

theorem G_set (ps : List Int) (i : Nat) (x : Int) (k : Nat) (hi : i < ps.length) : G (ps.set i x) k = if k = i then x else G ps k := by
  unfold G
  simp only [List.getD_eq_getElem?_getD, List.getElem?_set]
  by_cases h : k = i
  · subst h; simp [hi]
  · rw [if_neg (fun e => h e.symm), if_neg h]

theorem Pls.swap {ns ps : List Int} (h : Pls ns ps) {i j : Nat} (hi : i < ns.length) (hj : j < ns.length) :
    Pls (swp ns i j) ((ps.set (G ns j).toNat i).set (G ns i).toNat j) := by
  obtain ⟨i0, i1, i2⟩ := h i hi
  obtain ⟨j0, j1, j2⟩ := h j hj
  intro k hk
  rw [swp_length] at hk
  obtain ⟨k0, k1, k2⟩ := h k hk
  have hne : ∀ a, a < ns.length → a ≠ k → (G ns k).toNat ≠ (G ns a).toNat := fun a ha hak e => hak (h.inj ha hk (by have := (h a ha).1; omega))
  rw [swp_getD ns hi hj k]
  simp only [List.length_set]
  by_cases h1 : k = j
  · subst h1
    rw [if_pos rfl]
    exact ⟨i0, i1, by rw [G_set _ _ _ _ (by simpa using i1), if_pos rfl]⟩
  · rw [if_neg h1]
    by_cases h2 : k = i
    · subst h2
      rw [if_pos rfl]
      refine ⟨j0, j1, ?_⟩
      rw [G_set _ _ _ _ (by simpa using i1), if_neg (fun e => hne j hj (fun e => h1 e.symm) e.symm), G_set _ _ _ _ j1, if_pos rfl]
    · rw [if_neg h2]
      refine ⟨k0, k1, ?_⟩
      rw [G_set _ _ _ _ (by simpa using i1), if_neg (hne i hi (fun e => h2 e.symm)), G_set _ _ _ _ j1, if_neg (hne j hj (fun e => h1 e.symm))]
      exact k2

theorem Pls.push {ns ps : List Int} (h : Pls ns ps) {n : Nat} (hn : n < ps.length) (hm : (n : Int) ∉ ns) : Pls (ns ++ [(n : Int)]) (ps.set n ns.length) := by
  intro k hk
  simp only [List.length_append, List.length_cons, List.length_nil] at hk
  by_cases hkl : k < ns.length
  · obtain ⟨k0, k1, k2⟩ := h k hkl
    have e : G (ns ++ [(n : Int)]) k = G ns k := by simp [G, List.getD_eq_getElem?_getD, List.getElem?_append_left hkl]
    rw [e]
    refine ⟨k0, by simpa using k1, ?_⟩
    rw [G_set _ _ _ _ hn, if_neg, k2]
    intro e2
    exact hm (by have : (n : Int) = G ns k := by omega
                 rw [this]; exact G_mem hkl)
  · have : k = ns.length := by omega
    subst this
    have e : G (ns ++ [(n : Int)]) ns.length = n := by simp [G]
    rw [e]
    exact ⟨by omega, by simpa using hn, by rw [G_set _ _ _ _ hn, if_pos (by simp)]⟩

theorem Pls.take {ns ps : List Int} (h : Pls ns ps) (n : Nat) : Pls (ns.take n) ps := by
  intro k hk
  rw [List.length_take] at hk
  have e : G (ns.take n) k = G ns k := by simp only [G, List.getD_eq_getElem?_getD, List.getElem?_take]; rw [if_pos (by omega)]
  rw [e]
  exact h k (by omega)

theorem Pls.nodup {ns ps : List Int} (h : Pls ns ps) : ns.Nodup := by
  rw [List.nodup_iff_pairwise_ne, List.pairwise_iff_getElem]
  intro i j hi hj hij e
  have := h.inj hi hj (by simpa [G, List.getD_eq_getElem?_getD, hi, hj] using e)
  omega

end Go.Proofs.Ytamgogkkcbeaaaa.Ah
