/-
  Numbered things: the two least become one, which is told as what each became part of; and how deep a leaf stands then.
-/
import Derived.Test.YtcmnhgefeffcpaaHuffInit
import Derived.Test.YtcmnhgefeffcpaaHeapP
namespace Go.Proofs.Ytcmnhgefeffcpaa.Hf

structure NT where
  w : Nat
  num : Nat
  ls : List (Nat × Nat)

def insN (x : NT) : List NT → List NT
  | [] => [x]
  | y :: r => if y.w ≤ x.w then y :: insN x r else x :: y :: r

def fg (t : NT) : Nat × List (Nat × Nat) := (t.w, t.ls)
def key (t : NT) : Int × Int := ((t.w : Int), (t.num : Int))
def jn (a b : NT) (N : Nat) : NT := ⟨a.w + b.w, N, bump (a.ls ++ b.ls)⟩

theorem insN_fg (x : NT) (l : List NT) : (insN x l).map fg = insT (fg x) (l.map fg) := by
  induction l with
  | nil => rfl
  | cons y r ih =>
    simp only [insN, List.map_cons, insT]
    show _ = if y.w ≤ x.w then _ else _
    split <;> simp [ih]

theorem insN_perm (x : NT) (l : List NT) : (insN x l).Perm (x :: l) := by
  induction l with
  | nil => exact List.Perm.refl _
  | cons y r ih =>
    simp only [insN]
    split
    · exact (List.Perm.cons y ih).trans (List.Perm.swap x y r)
    · exact List.Perm.refl _

theorem mem_insN {x z : NT} {l : List NT} : z ∈ insN x l ↔ z = x ∨ z ∈ l := by
  rw [(insN_perm x l).mem_iff]; simp

def Lex (l : List NT) : Prop := l.Pairwise fun a b => ltP (key a) (key b)

theorem insN_lex {x : NT} {l : List NT} (h : Lex l) (hx : ∀ t ∈ l, t.num < x.num) : Lex (insN x l) := by
  induction l with
  | nil => simp [insN, Lex]
  | cons y r ih =>
    unfold Lex at h ih
    rw [List.pairwise_cons] at h
    simp only [insN]
    split
    · rename_i hle
      unfold Lex
      rw [List.pairwise_cons]
      refine ⟨fun z hz => ?_, ih h.2 (fun t ht => hx t (by simp [ht]))⟩
      rcases mem_insN.1 hz with rfl | hz
      · have := hx y (by simp)
        unfold ltP key
        simp only
        omega
      · exact h.1 z hz
    · rename_i hle
      unfold Lex
      rw [List.pairwise_cons, List.pairwise_cons]
      refine ⟨fun z hz => ?_, h.1, h.2⟩
      rcases List.mem_cons.1 hz with rfl | hz
      · unfold ltP key; simp only; omega
      · have := h.1 z hz
        unfold ltP key at this ⊢
        simp only at this ⊢
        omega

/-- A heap's first is the head of the same things in their order. -/
theorem heap_head {qs : List (Int × Int)} {t : NT} {r : List NT} (hq : qs.Perm ((t :: r).map key)) (hh : Heap qs qs.length 0) (hl : Lex (t :: r)) : G qs 0 = key t := by
  have hlen : qs.length = r.length + 1 := by rw [hq.length_eq]; simp
  have h1 : leP (G qs 0) (key t) := by
    have : key t ∈ qs := hq.mem_iff.2 (by simp)
    obtain ⟨k, hk, e⟩ := mem_G this
    rw [← e]
    exact hh.least k hk
  have h2 : leP (key t) (G qs 0) := by
    have : G qs 0 ∈ (t :: r).map key := hq.mem_iff.1 (G_mem (by omega))
    simp only [List.map_cons, List.mem_cons, List.mem_map] at this
    rcases this with e | ⟨z, hz, e⟩
    · rw [e]; exact leP_refl _
    · rw [← e]
      unfold Lex at hl
      rw [List.pairwise_cons] at hl
      exact leP_of_lt (hl.1 z hz)
  exact leP_antisymm h1 h2

/-- From i, d times to what it became part of, is k. -/
def Pth (P : Nat → Nat) (Q : Nat → Prop) (i : Nat) : Nat → Nat → Prop
  | 0, k => i = k
  | d + 1, k => ∃ j, Pth P Q i d j ∧ Q j ∧ P j = k

theorem Pth.mono {P P' : Nat → Nat} {Q Q' : Nat → Prop} {i : Nat} (h : ∀ j, Q j → Q' j ∧ P' j = P j) : ∀ {d k : Nat}, Pth P Q i d k → Pth P' Q' i d k
  | 0, _, e => e
  | _ + 1, _, ⟨j, h1, h2, h3⟩ => ⟨j, h1.mono h, (h j h2).1, (h j h2).2.trans h3⟩

theorem Pth.depth {P D : Nat → Nat} {Q : Nat → Prop} {i : Nat} (h : ∀ j, Q j → D j = D (P j) + 1) : ∀ {d k : Nat}, Pth P Q i d k → D i = D k + d
  | 0, _, e => by rw [show i = _ from e]; rfl
  | d + 1, k, ⟨j, h1, h2, h3⟩ => by
    have e1 := h1.depth h
    have e2 := h j h2
    rw [h3] at e2
    omega

abbrev pf (P : List Int) (j : Nat) : Nat := (P.getD j 0).toNat

/-- The state of joining: things L are left, N comes next, P tells what each became part of. -/
structure JS (P : List Int) (N n : Nat) (L : List NT) (T : List (Nat × Nat)) (S f : Nat) : Prop where
  lex : Lex L
  lt : ∀ t ∈ L, t.num < N
  tree : hgo f (L.map fg) = T
  fuel : L.length ≤ f + 1
  cnt : N + L.length = 2 * n
  pth : ∀ t ∈ L, ∀ p ∈ t.ls, Pth (pf P) (fun j => j < N ∧ ∀ t ∈ L, t.num ≠ j) p.1 p.2 t.num
  plen : P.length = 2 * n - 2
  ret : ∀ j, j < N → (∀ t ∈ L, t.num ≠ j) → j < pf P j ∧ pf P j < N
  nn : ∀ j, 0 ≤ P.getD j 0
  sum : (L.map (·.w)).sum = S
  nd : (L.map (·.num)).Nodup
  kid : ∀ j, n ≤ j → j < N → ∃ k, (k < N ∧ ∀ t ∈ L, t.num ≠ k) ∧ pf P k = j

theorem getD_set (P : List Int) (a : Nat) (x : Int) (j : Nat) : (P.set a x).getD j 0 = if j = a ∧ a < P.length then x else P.getD j 0 := by
  simp only [List.getD_eq_getElem?_getD, List.getElem?_set]
  by_cases h : a = j
  · subst h
    by_cases hl : a < P.length
    · simp [hl]
    · simp [hl]
  · rw [if_neg h, if_neg (fun e => h e.1.symm)]

theorem JS.step {P : List Int} {N n : Nat} {a b : NT} {r : List NT} {T : List (Nat × Nat)} {S f : Nat} (h : JS P N n (a :: b :: r) T S (f + 1)) (ha : a.num < P.length) (hb : b.num < P.length) :
    JS ((P.set a.num (N : Int)).set b.num (N : Int)) (N + 1) n (insN (jn a b N) r) T S f := by
  have hlex := h.lex
  unfold Lex at hlex
  rw [List.pairwise_cons, List.pairwise_cons] at hlex
  have hnd := h.nd
  simp only [List.map_cons, List.nodup_cons, List.mem_cons, not_or, List.mem_map, not_exists, not_and] at hnd
  have hal := h.lt a (by simp)
  have hbl := h.lt b (by simp)
  have hg : ∀ j, pf ((P.set a.num (N : Int)).set b.num (N : Int)) j = if j = a.num ∨ j = b.num then N else pf P j := by
    intro j
    unfold pf
    rw [getD_set, getD_set, List.length_set]
    by_cases e1 : j = b.num
    · rw [if_pos ⟨e1, hb⟩, if_pos (.inr e1)]; simp
    · rw [if_neg (fun e => e1 e.1)]
      by_cases e2 : j = a.num
      · rw [if_pos ⟨e2, ha⟩, if_pos (.inl e2)]; simp
      · rw [if_neg (fun e => e2 e.1), if_neg (by rintro (e | e); (· exact e2 e); (· exact e1 e))]
  have hP : ∀ j, (j < N ∧ ∀ t ∈ a :: b :: r, t.num ≠ j) → (j < N + 1 ∧ ∀ t ∈ insN (jn a b N) r, t.num ≠ j) ∧ pf ((P.set a.num (N : Int)).set b.num (N : Int)) j = pf P j := by
    rintro j ⟨h1, h2⟩
    refine ⟨⟨by omega, fun t ht => ?_⟩, ?_⟩
    · rcases mem_insN.1 ht with rfl | ht
      · show N ≠ j; omega
      · exact h2 t (by simp [ht])
    · rw [hg, if_neg]
      rintro (e | e)
      · exact h2 a (by simp) e.symm
      · exact h2 b (by simp) e.symm
  have hQ : ∀ x ∈ [a, b], (x.num < N + 1 ∧ ∀ t ∈ insN (jn a b N) r, t.num ≠ x.num) ∧ pf ((P.set a.num (N : Int)).set b.num (N : Int)) x.num = N := by
    intro x hx
    have hxN : x.num < N := by simp at hx; rcases hx with rfl | rfl <;> assumption
    refine ⟨⟨by omega, fun t ht => ?_⟩, ?_⟩
    · rcases mem_insN.1 ht with rfl | ht2
      · show N ≠ x.num; omega
      · simp at hx
        rcases hx with rfl | rfl
        · exact hnd.1.2 t ht2
        · exact hnd.2.1 t ht2
    · rw [hg, if_pos]
      simp at hx
      rcases hx with rfl | rfl
      · exact .inl rfl
      · exact .inr rfl
  refine ⟨insN_lex hlex.2.2 (fun t ht => h.lt t (by simp [ht])), fun t ht => ?_, ?_, ?_, ?_, ?_, by simp [h.plen], ?_, ?_, ?_, ?_, ?_⟩
  · rcases mem_insN.1 ht with rfl | ht
    · show N < N + 1; omega
    · have := h.lt t (by simp [ht]); omega
  · rw [insN_fg]
    have := h.tree
    simp only [List.map_cons, hgo] at this
    exact this
  · rw [(insN_perm _ _).length_eq]
    have := h.fuel
    simp at this ⊢
    omega
  · rw [(insN_perm _ _).length_eq]
    have := h.cnt
    simp at this ⊢
    omega
  · intro t ht p hp
    rcases mem_insN.1 ht with rfl | ht
    · simp only [jn, bump, List.mem_map, List.mem_append] at hp
      obtain ⟨q, hq, rfl⟩ := hp
      show ∃ j, _
      rcases hq with hq | hq
      · exact ⟨a.num, (h.pth a (by simp) q hq).mono hP, (hQ a (by simp)).1, (hQ a (by simp)).2⟩
      · exact ⟨b.num, (h.pth b (by simp) q hq).mono hP, (hQ b (by simp)).1, (hQ b (by simp)).2⟩
    · exact (h.pth t (by simp [ht]) p hp).mono hP
  · intro j hj hn
    rw [hg]
    by_cases e : j = a.num ∨ j = b.num
    · rw [if_pos e]
      rcases e with e | e <;> omega
    · rw [if_neg e]
      have hjN : j ≠ N := fun e2 => hn (jn a b N) (mem_insN.2 (.inl rfl)) e2.symm
      have := h.ret j (by omega) (fun t ht => by
        simp only [List.mem_cons] at ht
        rcases ht with rfl | rfl | ht
        · exact fun e2 => e (.inl e2.symm)
        · exact fun e2 => e (.inr e2.symm)
        · exact hn t (mem_insN.2 (.inr ht)))
      omega
  · intro j
    rw [getD_set, getD_set]
    split
    · omega
    · split
      · omega
      · exact h.nn j
  · rw [((insN_perm _ _).map _).sum_nat]
    have := h.sum
    simp [jn] at this ⊢
    omega
  · rw [((insN_perm _ _).map _).nodup_iff]
    simp only [List.map_cons, List.nodup_cons]
    refine ⟨fun hm => ?_, hnd.2.2⟩
    obtain ⟨t, ht, e⟩ := List.mem_map.1 hm
    have := h.lt t (by simp [ht])
    simp [jn] at e
    omega
  · intro j h1 h2
    by_cases e : j = N
    · subst e
      exact ⟨a.num, (hQ a (by simp)).1, (hQ a (by simp)).2⟩
    · obtain ⟨k, hk, e2⟩ := h.kid j h1 (by omega)
      exact ⟨k, (hP k hk).1, (hP k hk).2.trans e2⟩

/-- The things that come first: a leaf each. -/
def L0 (c : Nat → Nat) : Nat → List NT
  | 0 => []
  | k + 1 => insN ⟨c k, k, [(k, 0)]⟩ (L0 c k)

theorem L0_facts (c : Nat → Nat) (n : Nat) : Lex (L0 c n) ∧ (∀ t ∈ L0 c n, t.num < n ∧ t.ls = [(t.num, 0)]) ∧ (L0 c n).length = n ∧ ((L0 c n).map (·.num)).Perm (List.range n) ∧
    (L0 c n).map fg = (sortB c (List.range n)).map (leaf c) ∧ ((L0 c n).map key).Perm ((List.range n).map fun i => ((c i : Int), (i : Int))) ∧ ((L0 c n).map (·.w)).sum = ((List.range n).map c).sum := by
  induction n with
  | zero => simp [L0, Lex, sortB]
  | succ n ih =>
    obtain ⟨h1, h2, h3, h4, h5, h6, h7⟩ := ih
    refine ⟨insN_lex h1 (fun t ht => (h2 t ht).1), fun t ht => ?_, ?_, ?_, ?_, ?_, ?_⟩
    · rcases mem_insN.1 ht with rfl | ht
      · exact ⟨Nat.lt_succ_self _, rfl⟩
      · exact ⟨by have := (h2 t ht).1; omega, (h2 t ht).2⟩
    · show (insN _ _).length = _
      rw [(insN_perm _ _).length_eq]; simp [h3]
    · rw [List.range_succ]
      refine ((insN_perm _ _).map _).trans ?_
      simp only [List.map_cons]
      exact (List.Perm.cons n h4).trans (List.perm_append_comm (l₁ := [n]))
    · show (insN _ _).map fg = _
      rw [insN_fg, h5, List.range_succ]
      unfold sortB
      rw [List.foldl_append]
      simp only [List.foldl_cons, List.foldl_nil]
      rw [insB_leaf]
      rfl
    · rw [List.range_succ, List.map_append]
      refine ((insN_perm _ _).map _).trans ?_
      simp only [List.map_cons, List.map_nil]
      exact (List.Perm.cons _ h6).trans (List.perm_append_comm (l₁ := [_]))
    · show ((insN _ _).map _).sum = _
      rw [((insN_perm _ _).map _).sum_nat, List.range_succ, List.map_append]
      simp [h7]
      omega

theorem stand_all (c : Nat → Nat) (n : Nat) (h : ∀ i, i < n → 0 < c i) : stand c n = List.range n := by
  unfold stand
  rw [List.filter_eq_self]
  intro a ha
  simpa using h a (by simpa using ha)

theorem JS.start (c : Nat → Nat) (n : Nat) (hp : ∀ i, i < n → 0 < c i) : JS (List.replicate (2 * n - 2) 0) n n (L0 c n) (treeOf c n) ((List.range n).map c).sum n := by
  obtain ⟨h1, h2, h3, h4, h5, h6, h7⟩ := L0_facts c n
  refine ⟨h1, fun t ht => (h2 t ht).1, ?_, by omega, by omega, fun t ht p hp => ?_, by simp, fun j hj hn => ?_, fun j => ?_, h7, h4.nodup_iff.2 List.nodup_range, fun j h1 h2 => by omega⟩
  · unfold treeOf
    rw [stand_all c n hp, h5, List.length_range]
  · rw [(h2 t ht).2] at hp
    simp at hp
    subst hp
    rfl
  · exfalso
    have : j ∈ (L0 c n).map (·.num) := h4.mem_iff.2 (by simpa using hj)
    obtain ⟨t, ht, e⟩ := List.mem_map.1 this
    exact hn t ht e
  · simp only [List.getD_eq_getElem?_getD, List.getElem?_replicate]
    split <;> simp

/-- One is left: how deep each leaf stands. -/
theorem JS.done {P : List Int} {N n : Nat} {t : NT} {T : List (Nat × Nat)} {S f : Nat} (h : JS P N n [t] T S f) (hn : 1 ≤ n) :
    (∀ j, j < 2 * n - 2 → j < pf P j ∧ pf P j ≤ 2 * n - 2) ∧ ∀ D : Nat → Nat, D (2 * n - 2) = 0 → (∀ j, j < 2 * n - 2 → D j = D (pf P j) + 1) → (∀ p ∈ T, D p.1 = p.2) ∧ ∀ M, (∀ i, i < n → D i ≤ M) → ∀ j, j ≤ 2 * n - 2 → D j ≤ M := by
  have hc := h.cnt
  simp at hc
  have ht : t.num = 2 * n - 2 := by
    have h1 := h.lt t (by simp)
    by_cases e : t.num = 2 * n - 2
    · exact e
    · have := h.ret (2 * n - 2) (by omega) (fun u hu => by simp at hu; subst hu; exact e)
      omega
  have hT : T = t.ls := by
    have := h.tree
    simp only [List.map_cons, List.map_nil] at this
    cases f <;> simp only [hgo] at this <;> exact this.symm
  have hr : ∀ j, j < 2 * n - 2 → j < pf P j ∧ pf P j ≤ 2 * n - 2 := fun j hj => by
    have := h.ret j (by omega) (fun u hu => by simp at hu; subst hu; omega)
    omega
  refine ⟨hr, fun D h0 hD => ⟨fun p hp => ?_, fun M hM j => ?_⟩⟩
  · rw [hT] at hp
    have hpt := h.pth t (by simp) p hp
    have := hpt.depth (D := D) (fun j hj => hD j (by
      have h1 := hj.1
      have h2 := hj.2 t (by simp)
      omega))
    rw [ht, h0] at this
    omega
  · induction j using Nat.strongRecOn with
    | ind j ih =>
      intro hj
      by_cases hjn : j < n
      · exact hM j hjn
      · obtain ⟨k, ⟨hk1, hk2⟩, e⟩ := h.kid j (by omega) (by omega)
        have hk3 := hk2 t (by simp)
        have hkl : k < 2 * n - 2 := by omega
        have hkj := (hr k hkl).1
        have h1 := hD k hkl
        have h2 := ih k (by omega) (by omega)
        rw [e] at h1
        omega
end Go.Proofs.Ytcmnhgefeffcpaa.Hf
