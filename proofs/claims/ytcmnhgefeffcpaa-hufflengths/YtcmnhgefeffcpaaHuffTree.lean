/-
  Plain facts on the tree by least weights: its leaves, its bits, the room of its codes, its depth.
-/
import Derived.Test.YtcmnhgefeffcpaaHuffOpt
namespace Go.Proofs.Ytcmnhgefeffcpaa.Hf

/-- A thing into its place, behind all that weigh no more. A thing: its weight, its leaves (a byte, a depth). -/
def insT (x : Nat × List (Nat × Nat)) : List (Nat × List (Nat × Nat)) → List (Nat × List (Nat × Nat))
  | [] => [x]
  | y :: r => if y.1 ≤ x.1 then y :: insT x r else x :: y :: r

def bump (l : List (Nat × Nat)) : List (Nat × Nat) := l.map fun p => (p.1, p.2 + 1)

/-- Two things become one. -/
def join (a b : Nat × List (Nat × Nat)) : Nat × List (Nat × Nat) := (a.1 + b.1, bump (a.2 ++ b.2))

/-- The two least become one, till one is left: its leaves. -/
def hgo : Nat → List (Nat × List (Nat × Nat)) → List (Nat × Nat)
  | _, [] => []
  | _, [t] => t.2
  | 0, _ :: _ :: _ => []
  | f + 1, a :: b :: r => hgo f (insT (join a b) r)

theorem insT_fst (x : Nat × List (Nat × Nat)) (l : List (Nat × List (Nat × Nat))) : (insT x l).map (·.1) = ins x.1 (l.map (·.1)) := by
  induction l with
  | nil => rfl
  | cons y r ih => simp only [insT, List.map_cons, ins]; split <;> simp [ih]

theorem insT_perm (x : Nat × List (Nat × Nat)) (l : List (Nat × List (Nat × Nat))) : (insT x l).Perm (x :: l) := by
  induction l with
  | nil => exact List.Perm.refl _
  | cons y r ih =>
    simp only [insT]
    split
    · exact (List.Perm.cons y ih).trans (List.Perm.swap x y r)
    · exact List.Perm.refl _

theorem insT_length (x : Nat × List (Nat × Nat)) (l : List (Nat × List (Nat × Nat))) : (insT x l).length = l.length + 1 := (insT_perm x l).length_eq

theorem mem_insT {x z : Nat × List (Nat × Nat)} {l : List (Nat × List (Nat × Nat))} : z ∈ insT x l ↔ z = x ∨ z ∈ l := by
  rw [(insT_perm x l).mem_iff, List.mem_cons]

def leafCost (c : Nat → Nat) (ls : List (Nat × Nat)) : Nat := (ls.map fun p => c p.1 * p.2).sum
def leafW (c : Nat → Nat) (ls : List (Nat × Nat)) : Nat := (ls.map fun p => c p.1).sum
def leafK (M : Nat) (ls : List (Nat × Nat)) : Nat := (ls.map fun p => 2 ^ (M - p.2)).sum

theorem leafCost_append (c : Nat → Nat) (a b : List (Nat × Nat)) : leafCost c (a ++ b) = leafCost c a + leafCost c b := by simp [leafCost]
theorem leafW_append (c : Nat → Nat) (a b : List (Nat × Nat)) : leafW c (a ++ b) = leafW c a + leafW c b := by simp [leafW]
theorem leafK_append (M : Nat) (a b : List (Nat × Nat)) : leafK M (a ++ b) = leafK M a + leafK M b := by simp [leafK]

theorem leafCost_bump (c : Nat → Nat) (a : List (Nat × Nat)) : leafCost c (bump a) = leafCost c a + leafW c a := by
  induction a with
  | nil => rfl
  | cons p t ih =>
    simp only [leafCost, leafW, bump, List.map_cons, List.sum_cons, List.map_map] at ih ⊢
    rw [ih, Nat.mul_add]
    omega

theorem leafW_bump (c : Nat → Nat) (a : List (Nat × Nat)) : leafW c (bump a) = leafW c a := by
  simp [leafW, bump, Function.comp_def]

/-- Each thing weighs what its leaves do. -/
def Good (c : Nat → Nat) (l : List (Nat × List (Nat × Nat))) : Prop := ∀ t ∈ l, t.1 = leafW c t.2

theorem Good.step {c : Nat → Nat} {a b : Nat × List (Nat × Nat)} {r : List (Nat × List (Nat × Nat))} (h : Good c (a :: b :: r)) : Good c (insT (join a b) r) := by
  intro t ht
  rcases mem_insT.1 ht with e | e
  · subst e
    have h1 := h a (by simp)
    have h2 := h b (by simp)
    show a.1 + b.1 = leafW c (bump (a.2 ++ b.2))
    rw [leafW_bump, leafW_append, h1, h2]
  · exact h t (by simp [e])

def allLeaves (l : List (Nat × List (Nat × Nat))) : List (Nat × Nat) := l.flatMap (·.2)

theorem leafCost_perm (c : Nat → Nat) {a b : List (Nat × Nat)} (h : a.Perm b) : leafCost c a = leafCost c b := (h.map _).sum_nat
theorem leafK_perm (M : Nat) {a b : List (Nat × Nat)} (h : a.Perm b) : leafK M a = leafK M b := (h.map _).sum_nat

theorem leaves_ins (x : Nat × List (Nat × Nat)) (l : List (Nat × List (Nat × Nat))) : (allLeaves (insT x l)).Perm (x.2 ++ allLeaves l) := by
  have := (insT_perm x l).flatMap_right (·.2)
  simpa [allLeaves] using this

/-- The bits of all leaves are the weights that were joined. -/
theorem hgo_cost (c : Nat → Nat) (f : Nat) (l : List (Nat × List (Nat × Nat))) (hg : Good c l) (h0 : l ≠ []) (hf : l.length ≤ f + 1) : leafCost c (hgo f l) = leafCost c (allLeaves l) + hc f (l.map (·.1)) := by
  induction f generalizing l with
  | zero =>
    match l, h0, hf with
    | [t], _, _ => simp [hgo, allLeaves, hc]
  | succ f ih =>
    match l, h0, hf, hg with
    | [t], _, _, _ => simp [hgo, allLeaves, hc]
    | a :: b :: r, _, hf, hg =>
      have h1 := ih (insT (join a b) r) hg.step (by intro e; have := insT_length (join a b) r; rw [e] at this; simp at this) (by rw [insT_length]; simp at hf; omega)
      show leafCost c (hgo f (insT (join a b) r)) = _
      rw [h1, leafCost_perm c (leaves_ins _ _), leafCost_append, insT_fst]
      show leafCost c (bump (a.2 ++ b.2)) + _ + _ = _
      rw [leafCost_bump, leafCost_append, leafW_append, ← hg a (by simp), ← hg b (by simp)]
      simp only [allLeaves, List.flatMap_cons, List.map_cons, hc]
      rw [leafCost_append, leafCost_append]
      show _ + hc f (ins (a.1 + b.1) _) = _
      omega

/-- Which bytes are leaves. -/
theorem hgo_bytes (f : Nat) (l : List (Nat × List (Nat × Nat))) (h0 : l ≠ []) (hf : l.length ≤ f + 1) : ((hgo f l).map (·.1)).Perm ((allLeaves l).map (·.1)) := by
  induction f generalizing l with
  | zero =>
    match l, h0, hf with
    | [t], _, _ => simp [hgo, allLeaves]
  | succ f ih =>
    match l, h0, hf with
    | [t], _, _ => simp [hgo, allLeaves]
    | a :: b :: r, _, hf =>
      have h1 := ih (insT (join a b) r) (by intro e; have := insT_length (join a b) r; rw [e] at this; simp at this) (by rw [insT_length]; simp at hf; omega)
      show ((hgo f (insT (join a b) r)).map (·.1)).Perm _
      refine h1.trans (((leaves_ins _ _).map _).trans ?_)
      show (((bump (a.2 ++ b.2)) ++ allLeaves r).map (·.1)).Perm _
      simp [bump, allLeaves, Function.comp_def]

/-- Codes of a thing's leaves take all the room. -/
def Full (l : List (Nat × List (Nat × Nat))) : Prop := ∀ t ∈ l, t.2 ≠ [] ∧ ∀ M, (∀ p ∈ t.2, p.2 ≤ M) → leafK M t.2 = 2 ^ M

theorem leafK_bump (M : Nat) (a : List (Nat × Nat)) : leafK (M + 1) (bump a) = leafK M a := by
  induction a with
  | nil => rfl
  | cons p t ih =>
    simp only [leafK, bump, List.map_cons, List.sum_cons] at ih ⊢
    rw [ih, show M + 1 - (p.2 + 1) = M - p.2 by omega]

theorem Full.step {a b : Nat × List (Nat × Nat)} {r : List (Nat × List (Nat × Nat))} (h : Full (a :: b :: r)) : Full (insT (join a b) r) := by
  intro t ht
  rcases mem_insT.1 ht with e | e
  · subst e
    obtain ⟨a1, a2⟩ := h a (by simp)
    obtain ⟨b1, b2⟩ := h b (by simp)
    refine ⟨by simp [join, bump, a1], fun M hM => ?_⟩
    show leafK M (bump (a.2 ++ b.2)) = 2 ^ M
    have hM' : ∀ p ∈ a.2 ++ b.2, p.2 + 1 ≤ M := fun p hp => hM (p.1, p.2 + 1) (List.mem_map.2 ⟨p, hp, rfl⟩)
    match M, hM' with
    | 0, hM' =>
      obtain ⟨p, t, e⟩ := List.exists_cons_of_ne_nil a1
      have := hM' p (by rw [e]; simp)
      omega
    | M + 1, hM' =>
      rw [leafK_bump, leafK_append, a2 M (fun p hp => by have := hM' p (List.mem_append.2 (.inl hp)); omega), b2 M (fun p hp => by have := hM' p (List.mem_append.2 (.inr hp)); omega), Nat.pow_succ]
      omega
  · exact h t (by simp [e])

theorem hgo_full (f : Nat) (l : List (Nat × List (Nat × Nat))) (hg : Full l) (h0 : l ≠ []) (hf : l.length ≤ f + 1) (M : Nat) (hM : ∀ p ∈ hgo f l, p.2 ≤ M) : leafK M (hgo f l) = 2 ^ M := by
  induction f generalizing l with
  | zero =>
    match l, h0, hf, hg, hM with
    | [t], _, _, hg, hM => exact (hg t (by simp)).2 M hM
  | succ f ih =>
    match l, h0, hf, hg, hM with
    | [t], _, _, hg, hM => exact (hg t (by simp)).2 M hM
    | a :: b :: r, _, hf, hg, hM =>
      exact ih (insT (join a b) r) hg.step (by intro e; have := insT_length (join a b) r; rw [e] at this; simp at this) (by rw [insT_length]; simp at hf; omega) hM

/-! ### How deep it is -/

def fib : Nat → Nat
  | 0 => 0
  | 1 => 1
  | n + 2 => fib (n + 1) + fib n

/-- A deep leaf lies in a heavy thing, beside heavy ones. -/
def Heavy (t s : Nat × List (Nat × Nat)) : Prop := (∀ p ∈ t.2, fib (p.2 + 1) ≤ s.1) ∧ ∀ p ∈ s.2, fib (p.2 + 1) ≤ t.1
def Deep (l : List (Nat × List (Nat × Nat))) : Prop := (∀ t ∈ l, ∀ p ∈ t.2, fib (p.2 + 2) ≤ t.1) ∧ l.Pairwise Heavy

theorem Heavy.symm {t s : Nat × List (Nat × Nat)} (h : Heavy t s) : Heavy s t := ⟨h.2, h.1⟩

theorem Deep.step {a b : Nat × List (Nat × Nat)} {r : List (Nat × List (Nat × Nat))} (h : Deep (a :: b :: r)) (hs : Asc ((a :: b :: r).map (·.1))) : Deep (insT (join a b) r) := by
  obtain ⟨h1, h2⟩ := h
  obtain ⟨pa, h2⟩ := List.pairwise_cons.1 h2
  obtain ⟨pb, h2⟩ := List.pairwise_cons.1 h2
  simp only [List.map_cons] at hs
  obtain ⟨sa, hs⟩ := List.pairwise_cons.1 hs
  obtain ⟨sb, _⟩ := List.pairwise_cons.1 hs
  have hab := pa b (by simp)
  constructor
  · intro t ht p hp
    rcases mem_insT.1 ht with e | e
    · subst e
      obtain ⟨q, hq, rfl⟩ := List.mem_map.1 hp
      show fib (q.2 + 1 + 2) ≤ a.1 + b.1
      have e3 : fib (q.2 + 1 + 2) = fib (q.2 + 2) + fib (q.2 + 1) := rfl
      rw [e3]
      rcases List.mem_append.1 hq with e | e
      · have := h1 a (by simp) q e; have := hab.1 q e; omega
      · have := h1 b (by simp) q e; have := hab.2 q e; omega
    · exact h1 t (by simp [e]) p hp
  · have hj : ∀ s ∈ r, Heavy (join a b) s := by
      intro s hsr
      have ha : a.1 ≤ s.1 := sa s.1 (List.mem_cons.2 (.inr (List.mem_map.2 ⟨s, hsr, rfl⟩)))
      have hb : b.1 ≤ s.1 := sb s.1 (List.mem_map.2 ⟨s, hsr, rfl⟩)
      refine ⟨fun p hp => ?_, fun p hp => ?_⟩
      · obtain ⟨q, hq, rfl⟩ := List.mem_map.1 hp
        show fib (q.2 + 1 + 1) ≤ s.1
        rcases List.mem_append.1 hq with e | e
        · have := h1 a (by simp) q e; show fib (q.2 + 2) ≤ _; omega
        · have := h1 b (by simp) q e; show fib (q.2 + 2) ≤ _; omega
      · have := (pa s (by simp [hsr])).2 p hp
        show _ ≤ a.1 + b.1
        omega
    exact ((insT_perm (join a b) r).pairwise_iff (fun h => h.symm)).2 (List.pairwise_cons.2 ⟨hj, h2⟩)

theorem sum_ins (x : Nat) (l : List Nat) : (ins x l).sum = x + l.sum := by
  induction l with
  | nil => simp [ins]
  | cons y r ih => simp only [ins]; split <;> simp [ih]; omega

theorem hgo_deep (f : Nat) (l : List (Nat × List (Nat × Nat))) (hd : Deep l) (hs : Asc (l.map (·.1))) (h0 : l ≠ []) (hf : l.length ≤ f + 1) : ∀ p ∈ hgo f l, fib (p.2 + 2) ≤ (l.map (·.1)).sum := by
  induction f generalizing l with
  | zero =>
    match l, h0, hf, hd with
    | [t], _, _, hd => intro p hp; simpa using hd.1 t (by simp) p hp
  | succ f ih =>
    match l, h0, hf, hd, hs with
    | [t], _, _, hd, _ => intro p hp; simpa using hd.1 t (by simp) p hp
    | a :: b :: r, _, hf, hd, hs =>
      have h1 := ih (insT (join a b) r) (hd.step hs) (by
          rw [insT_fst]
          simp only [List.map_cons] at hs
          exact ins_asc (List.pairwise_cons.1 (List.pairwise_cons.1 hs).2).2) (by intro e; have := insT_length (join a b) r; rw [e] at this; simp at this) (by rw [insT_length]; simp at hf; omega)
      intro p hp
      have := h1 p hp
      rw [insT_fst, sum_ins] at this
      simp only [List.map_cons, List.sum_cons]
      have e : (join a b).1 = a.1 + b.1 := rfl
      omega

theorem fib_mono {a b : Nat} (h : a ≤ b) : fib a ≤ fib b := by
  induction h with
  | refl => exact Nat.le_refl _
  | step h ih =>
    rename_i m
    cases m with
    | zero => exact Nat.le_trans ih (by decide)
    | succ m => exact Nat.le_trans ih (Nat.le_add_right _ _)

/-- Weights of at most 300 together make no leaf deeper than 11. -/
theorem depth_300 {d : Nat} (h : fib (d + 2) ≤ 300) : d ≤ 11 := by
  rcases Nat.lt_or_ge 11 d with e | e
  · have : fib 14 ≤ fib (d + 2) := fib_mono (by omega)
    have e14 : fib 14 = 377 := by decide
    omega
  · exact e

end Go.Proofs.Ytcmnhgefeffcpaa.Hf
