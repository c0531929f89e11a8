/-
  Plain facts on counts: the bytes that stand, by their counts; the tree over them; its lengths have what a tree's have.
-/
import Derived.Test.YtcmnhgefeffcpaaHuffBest
namespace Go.Proofs.Ytcmnhgefeffcpaa.Hf

/-- A byte into its place by its count, behind all that stand no more often. -/
def insB (c : Nat → Nat) (x : Nat) : List Nat → List Nat
  | [] => [x]
  | y :: r => if c y ≤ c x then y :: insB c x r else x :: y :: r

def sortB (c : Nat → Nat) (bs : List Nat) : List Nat := bs.foldl (fun acc b => insB c b acc) []

def leaf (c : Nat → Nat) (b : Nat) : Nat × List (Nat × Nat) := (c b, [(b, 0)])

theorem insB_perm (c : Nat → Nat) (x : Nat) (l : List Nat) : (insB c x l).Perm (x :: l) := by
  induction l with
  | nil => exact List.Perm.refl _
  | cons y r ih =>
    simp only [insB]
    split
    · exact (List.Perm.cons y ih).trans (List.Perm.swap x y r)
    · exact List.Perm.refl _

theorem insB_map (c : Nat → Nat) (x : Nat) (l : List Nat) : (insB c x l).map c = ins (c x) (l.map c) := by
  induction l with
  | nil => rfl
  | cons y r ih => simp only [insB, List.map_cons, ins]; split <;> simp [ih]

theorem insB_leaf (c : Nat → Nat) (x : Nat) (l : List Nat) : (insB c x l).map (leaf c) = insT (leaf c x) (l.map (leaf c)) := by
  induction l with
  | nil => rfl
  | cons y r ih =>
    simp only [insB, List.map_cons, insT]
    show _ = if c y ≤ c x then _ else _
    split <;> simp [ih]

theorem sortB_acc (c : Nat → Nat) (bs acc : List Nat) (ha : Asc (acc.map c)) : (bs.foldl (fun acc b => insB c b acc) acc).Perm (acc ++ bs) ∧ Asc ((bs.foldl (fun acc b => insB c b acc) acc).map c) := by
  induction bs generalizing acc with
  | nil => exact ⟨by simp, ha⟩
  | cons b r ih =>
    simp only [List.foldl_cons]
    obtain ⟨h1, h2⟩ := ih (insB c b acc) (by rw [insB_map]; exact ins_asc ha)
    refine ⟨h1.trans ?_, h2⟩
    refine ((insB_perm c b acc).append_right r).trans ?_
    exact (List.perm_middle (a := b) (l₁ := acc) (l₂ := r)).symm

theorem sortB_perm (c : Nat → Nat) (bs : List Nat) : (sortB c bs).Perm bs := by simpa [sortB] using (sortB_acc c bs [] (by simp [Asc])).1
theorem sortB_asc (c : Nat → Nat) (bs : List Nat) : Asc ((sortB c bs).map c) := (sortB_acc c bs [] (by simp [Asc])).2

/-- The bytes that stand. -/
def stand (c : Nat → Nat) (n : Nat) : List Nat := (List.range n).filter fun b => 0 < c b

theorem stand_nodup (c : Nat → Nat) (n : Nat) : (stand c n).Nodup := List.nodup_range.filter _
theorem mem_stand {c : Nat → Nat} {n b : Nat} : b ∈ stand c n ↔ b < n ∧ 0 < c b := by simp [stand]

/-- A byte's depth among leaves. -/
def depthOf : List (Nat × Nat) → Nat → Nat
  | [], _ => 0
  | p :: r, b => if p.1 = b then p.2 else depthOf r b

theorem depthOf_mem {ls : List (Nat × Nat)} (hn : (ls.map (·.1)).Nodup) {p : Nat × Nat} (hp : p ∈ ls) : depthOf ls p.1 = p.2 := by
  induction ls with
  | nil => cases hp
  | cons q r ih =>
    simp only [List.map_cons] at hn
    obtain ⟨h1, h2⟩ := List.nodup_cons.1 hn
    simp only [depthOf]
    rcases List.mem_cons.1 hp with e | e
    · subst e; rw [if_pos rfl]
    · rw [if_neg (fun q' => h1 (by rw [q']; exact List.mem_map.2 ⟨p, e, rfl⟩))]
      exact ih h2 e

theorem sumOn_leaves {ls : List (Nat × Nat)} {Bs : List Nat} (hp : (ls.map (·.1)).Perm Bs) (hn : Bs.Nodup) (G : Nat → Nat → Nat) : (ls.map fun p => G p.1 p.2).sum = sumOn Bs (fun b => G b (depthOf ls b)) := by
  have hnd : (ls.map (·.1)).Nodup := hp.nodup_iff.2 hn
  rw [← sumOn_perm hp]
  unfold sumOn
  rw [List.map_map]
  congr 1
  refine List.map_congr_left fun p h => ?_
  show G p.1 p.2 = G p.1 (depthOf ls p.1)
  rw [depthOf_mem hnd h]

theorem map_ne {f : Nat → Nat × List (Nat × Nat)} {l : List Nat} (h : 1 ≤ l.length) : l.map f ≠ [] := by
  cases l with
  | nil => simp at h
  | cons b r => simp

/-- The leaves of the tree over counts. -/
def treeOf (c : Nat → Nat) (n : Nat) : List (Nat × Nat) := hgo (stand c n).length ((sortB c (stand c n)).map (leaf c))

theorem treeOf_bytes (c : Nat → Nat) (n : Nat) (h : 1 ≤ (stand c n).length) : ((treeOf c n).map (·.1)).Perm (sortB c (stand c n)) := by
  have hl : (sortB c (stand c n)).length = (stand c n).length := (sortB_perm c _).length_eq
  have h1 := hgo_bytes (stand c n).length ((sortB c (stand c n)).map (leaf c)) (map_ne (by omega)) (by simp [hl])
  refine h1.trans ?_
  have : (allLeaves ((sortB c (stand c n)).map (leaf c))).map (·.1) = sortB c (stand c n) := by
    generalize sortB c (stand c n) = l
    induction l with
    | nil => rfl
    | cons b r ih => simp only [allLeaves, List.map_cons, List.flatMap_cons, leaf, List.map_append] at ih ⊢; rw [ih]; rfl
  rw [this]

theorem hgo_all (c : Nat → Nat) (l : List Nat) (hp : ∀ b ∈ l, 0 < c b) : Good c (l.map (leaf c)) ∧ Full (l.map (leaf c)) ∧ Deep (l.map (leaf c)) ∧ leafCost c (allLeaves (l.map (leaf c))) = 0 := by
  refine ⟨fun t ht => ?_, fun t ht => ?_, ⟨fun t ht p hp' => ?_, ?_⟩, ?_⟩
  · obtain ⟨b, _, rfl⟩ := List.mem_map.1 ht
    simp [leaf, leafW]
  · obtain ⟨b, _, rfl⟩ := List.mem_map.1 ht
    exact ⟨by simp [leaf], fun M _ => by simp [leaf, leafK]⟩
  · obtain ⟨b, hb, rfl⟩ := List.mem_map.1 ht
    simp only [leaf, List.mem_singleton] at hp'
    subst hp'
    show 1 ≤ c b
    exact hp b hb
  · rw [List.pairwise_map]
    induction l with
    | nil => simp
    | cons b r ih =>
      refine List.pairwise_cons.2 ⟨fun s hs => ⟨fun p hp' => ?_, fun p hp' => ?_⟩, ih (fun b hb => hp b (List.mem_cons.2 (.inr hb)))⟩
      · simp only [leaf, List.mem_singleton] at hp'
        subst hp'
        exact hp s (List.mem_cons.2 (.inr hs))
      · simp only [leaf, List.mem_singleton] at hp'
        subst hp'
        exact hp b (List.mem_cons.2 (.inl rfl))
  · induction l with
    | nil => rfl
    | cons b r ih =>
      have h1 := ih (fun b hb => hp b (List.mem_cons.2 (.inr hb)))
      simp only [allLeaves, List.map_cons, List.flatMap_cons] at h1 ⊢
      rw [leafCost_append, h1]
      simp [leaf, leafCost]

/-- The tree's lengths have what a tree's have. -/
theorem tr_of (c : Nat → Nat) (n : Nat) (h : 2 ≤ (stand c n).length) : Tr c (depthOf (treeOf c n)) (sortB c (stand c n)) := by
  have hl : (sortB c (stand c n)).length = (stand c n).length := (sortB_perm c _).length_eq
  have hnd : (sortB c (stand c n)).Nodup := (sortB_perm c _).nodup_iff.2 (stand_nodup c n)
  have hb := treeOf_bytes c n (by omega)
  have hpos : ∀ b ∈ sortB c (stand c n), 0 < c b := fun b hb => (mem_stand.1 ((sortB_perm c _).mem_iff.1 hb)).2
  obtain ⟨g1, g2, _, g4⟩ := hgo_all c _ hpos
  have h0 : (sortB c (stand c n)).map (leaf c) ≠ [] := map_ne (by omega)
  have hf : ((sortB c (stand c n)).map (leaf c)).length ≤ (stand c n).length + 1 := by simp [hl]
  have hws : ((sortB c (stand c n)).map (leaf c)).map (·.1) = (sortB c (stand c n)).map c := by simp [leaf, Function.comp_def]
  refine ⟨hnd, by omega, fun M hM => ?_, fun M o hM hk => ?_⟩
  · rw [← sumOn_leaves hb hnd (fun _ d => 2 ^ (M - d))]
    refine hgo_full _ _ g2 h0 hf M (fun p hp => ?_)
    have h1 := hM p.1 (hb.mem_iff.1 (List.mem_map.2 ⟨p, hp, rfl⟩))
    rw [depthOf_mem (hb.nodup_iff.2 hnd) hp] at h1
    exact h1
  · rw [← sumOn_leaves hb hnd (fun b d => c b * d)]
    have h1 := hgo_cost c (stand c n).length _ g1 h0 hf
    rw [g4, Nat.zero_add, hws] at h1
    show leafCost c (treeOf c n) ≤ _
    unfold treeOf
    rw [h1]
    have h2 := opt M (stand c n).length ((sortB c (stand c n)).map fun b => (c b, o b)) (by simp [hl]) (by
        rw [List.map_map]
        show Asc ((sortB c (stand c n)).map c)
        exact sortB_asc c _) (fun p hp => by
          obtain ⟨b, hb', rfl⟩ := List.mem_map.1 hp
          exact hM b hb') (by
          unfold kraft
          rw [List.map_map]
          exact hk)
    rw [List.map_map] at h2
    unfold cost at h2
    rw [List.map_map] at h2
    exact h2

/-- Counts of at most 300 together: no depth above 11. -/
theorem tree_300 (c : Nat → Nat) (n : Nat) (h : 1 ≤ (stand c n).length) (hs : sumOn (stand c n) c ≤ 300) : ∀ p ∈ treeOf c n, p.2 ≤ 11 := by
  intro p hp
  have hl : (sortB c (stand c n)).length = (stand c n).length := (sortB_perm c _).length_eq
  have hpos : ∀ b ∈ sortB c (stand c n), 0 < c b := fun b hb => (mem_stand.1 ((sortB_perm c _).mem_iff.1 hb)).2
  obtain ⟨_, _, g3, _⟩ := hgo_all c _ hpos
  have hws : ((sortB c (stand c n)).map (leaf c)).map (·.1) = (sortB c (stand c n)).map c := by simp [leaf, Function.comp_def]
  have h1 := hgo_deep (stand c n).length ((sortB c (stand c n)).map (leaf c)) g3 (by rw [hws]; exact sortB_asc c _) (map_ne (by omega)) (by simp [hl]) p hp
  rw [hws] at h1
  have h2 : ((sortB c (stand c n)).map c).sum = sumOn (stand c n) c := sumOn_perm (sortB_perm c _) c
  exact depth_300 (by omega)

end Go.Proofs.Ytcmnhgefeffcpaa.Hf
