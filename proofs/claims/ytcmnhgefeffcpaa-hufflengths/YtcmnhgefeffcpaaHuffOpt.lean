/-
  Plain facts on codes: lengths that a tree by least weights gives take no more bits than any others whose shares of room fit.
-/
import Derived.KernelRfl
namespace Go.Proofs.Ytcmnhgefeffcpaa.Hf

/-- All bits of weighted lengths. -/
def cost (ps : List (Nat × Nat)) : Nat := (ps.map fun p => p.1 * p.2).sum
/-- The room that codes of these lengths take, of 2^M. -/
def kraft (M : Nat) (ps : List (Nat × Nat)) : Nat := (ps.map fun p => 2 ^ (M - p.2)).sum

/-- A weight into its place, behind all that are no greater. -/
def ins (x : Nat) : List Nat → List Nat
  | [] => [x]
  | y :: r => if y ≤ x then y :: ins x r else x :: y :: r

/-- The bits that the tree by least weights takes: all weights that are joined. -/
def hc : Nat → List Nat → Nat
  | 0, _ => 0
  | _ + 1, [] => 0
  | _ + 1, [_] => 0
  | f + 1, a :: b :: r => (a + b) + hc f (ins (a + b) r)

def Asc (l : List Nat) : Prop := l.Pairwise (· ≤ ·)

theorem ins_length (x : Nat) (l : List Nat) : (ins x l).length = l.length + 1 := by
  induction l with
  | nil => rfl
  | cons y r ih => simp only [ins]; split <;> simp [ih]

theorem mem_ins {x z : Nat} {l : List Nat} : z ∈ ins x l ↔ z = x ∨ z ∈ l := by
  induction l with
  | nil => simp [ins]
  | cons y r ih =>
    simp only [ins]
    split
    · simp only [List.mem_cons, ih]
      constructor
      · rintro (h | h | h)
        · exact .inr (.inl h)
        · exact .inl h
        · exact .inr (.inr h)
      · rintro (h | h | h)
        · exact .inr (.inl h)
        · exact .inl h
        · exact .inr (.inr h)
    · simp [List.mem_cons]

theorem ins_asc {x : Nat} {l : List Nat} (h : Asc l) : Asc (ins x l) := by
  induction l with
  | nil => simp [ins, Asc]
  | cons y r ih =>
    obtain ⟨h1, h2⟩ := List.pairwise_cons.1 h
    simp only [ins]
    split
    · rename_i hle
      refine List.pairwise_cons.2 ⟨fun z hz => ?_, ih h2⟩
      rcases mem_ins.1 hz with e | e
      · omega
      · exact h1 z e
    · rename_i hle
      refine List.pairwise_cons.2 ⟨fun z hz => ?_, h⟩
      rcases List.mem_cons.1 hz with e | e
      · omega
      · have := h1 z e; omega

/-- The same on pairs, by their weights. -/
def insP (x : Nat × Nat) : List (Nat × Nat) → List (Nat × Nat)
  | [] => [x]
  | y :: r => if y.1 ≤ x.1 then y :: insP x r else x :: y :: r

theorem insP_fst (x : Nat × Nat) (l : List (Nat × Nat)) : (insP x l).map (·.1) = ins x.1 (l.map (·.1)) := by
  induction l with
  | nil => rfl
  | cons y r ih => simp only [insP, List.map_cons, ins]; split <;> simp [ih]

theorem insP_cost (x : Nat × Nat) (l : List (Nat × Nat)) : cost (insP x l) = x.1 * x.2 + cost l := by
  induction l with
  | nil => simp [insP, cost]
  | cons y r ih =>
    simp only [insP]
    split
    · simp only [cost, List.map_cons, List.sum_cons] at ih ⊢; omega
    · simp [cost]

theorem insP_kraft (M : Nat) (x : Nat × Nat) (l : List (Nat × Nat)) : kraft M (insP x l) = 2 ^ (M - x.2) + kraft M l := by
  induction l with
  | nil => simp [insP, kraft]
  | cons y r ih =>
    simp only [insP]
    split
    · simp only [kraft, List.map_cons, List.sum_cons] at ih ⊢; omega
    · simp [kraft]

theorem mem_insP {x z : Nat × Nat} {l : List (Nat × Nat)} (h : z ∈ insP x l) : z = x ∨ z ∈ l := by
  induction l with
  | nil => simpa [insP] using h
  | cons y r ih =>
    simp only [insP] at h
    split at h
    · rcases List.mem_cons.1 h with e | e
      · exact .inr (List.mem_cons.2 (.inl e))
      · rcases ih e with e | e
        · exact .inl e
        · exact .inr (List.mem_cons.2 (.inr e))
    · exact List.mem_cons.1 h

/-- The greatest length may as well stand at the least weight. -/
theorem toFront (M a l : Nat) (rs : List (Nat × Nat)) (ha : ∀ p ∈ rs, a ≤ p.1) :
    ∃ l' rs', rs'.map (·.1) = rs.map (·.1) ∧ (∀ p ∈ rs', p.2 ≤ l') ∧ cost ((a, l') :: rs') ≤ cost ((a, l) :: rs) ∧ kraft M ((a, l') :: rs') = kraft M ((a, l) :: rs) ∧
      ∀ K, (∀ p ∈ (a, l) :: rs, p.2 ≤ K) → ∀ p ∈ (a, l') :: rs', p.2 ≤ K := by
  induction rs with
  | nil => exact ⟨l, [], rfl, fun p hp => (by cases hp), Nat.le_refl _, rfl, fun K h => h⟩
  | cons p t ih =>
    obtain ⟨w, m⟩ := p
    obtain ⟨l', t', h1, h2, h3, h4, h5⟩ := ih (fun p hp => ha p (List.mem_cons.2 (.inr hp)))
    have haw : a ≤ w := ha (w, m) (List.mem_cons.2 (.inl rfl))
    by_cases hm : m ≤ l'
    · refine ⟨l', (w, m) :: t', by simp [h1], ?_, ?_, ?_, ?_⟩
      · intro p hp
        rcases List.mem_cons.1 hp with e | e
        · rw [e]; exact hm
        · exact h2 p e
      · simp only [cost, List.map_cons, List.sum_cons] at h3 ⊢; omega
      · simp only [kraft, List.map_cons, List.sum_cons] at h4 ⊢; omega
      · intro K hK p hp
        have h6 := h5 K (fun p hp => by
          rcases List.mem_cons.1 hp with e | e
          · exact hK p (by rw [e]; simp)
          · exact hK p (by simp [e]))
        rcases List.mem_cons.1 hp with e | e
        · exact h6 p (by rw [e]; simp)
        · rcases List.mem_cons.1 e with e | e
          · exact hK p (by rw [e]; simp)
          · exact h6 p (by simp [e])
    · refine ⟨m, (w, l') :: t', by simp [h1], ?_, ?_, ?_, ?_⟩
      · intro p hp
        rcases List.mem_cons.1 hp with e | e
        · rw [e]; show l' ≤ m; omega
        · have := h2 p e; omega
      · have hx : a * m + w * l' ≤ a * l' + w * m := by
          obtain ⟨d, rfl⟩ : ∃ d, w = a + d := ⟨w - a, by omega⟩
          obtain ⟨e, rfl⟩ : ∃ e, m = l' + e := ⟨m - l', by omega⟩
          have : d * l' ≤ d * (l' + e) := Nat.mul_le_mul_left _ (by omega)
          simp only [Nat.add_mul, Nat.mul_add] at this ⊢
          omega
        simp only [cost, List.map_cons, List.sum_cons] at h3 ⊢; omega
      · simp only [kraft, List.map_cons, List.sum_cons] at h4 ⊢; omega
      · intro K hK p hp
        have h6 := h5 K (fun p hp => by
          rcases List.mem_cons.1 hp with e | e
          · exact hK p (by rw [e]; simp)
          · exact hK p (by simp [e]))
        rcases List.mem_cons.1 hp with e | e
        · rw [e]; exact hK (w, m) (by simp)
        · rcases List.mem_cons.1 e with e | e
          · rw [e]; exact h6 (a, l') (by simp)
          · exact h6 p (by simp [e])

theorem kraft_dvd (M L : Nat) (ps : List (Nat × Nat)) (h : ∀ p ∈ ps, p.2 ≤ L) : 2 ^ (M - L) ∣ kraft M ps := by
  induction ps with
  | nil => simp [kraft]
  | cons p t ih =>
    have h1 := ih (fun p hp => h p (List.mem_cons.2 (.inr hp)))
    have h2 : 2 ^ (M - L) ∣ 2 ^ (M - p.2) := Nat.pow_dvd_pow 2 (by have := h p (List.mem_cons.2 (.inl rfl)); omega)
    simp only [kraft, List.map_cons, List.sum_cons] at h1 ⊢
    exact Nat.dvd_add h2 h1

/-- No lengths are better. -/
theorem opt (M f : Nat) (ps : List (Nat × Nat)) (hf : ps.length ≤ f + 1) (hs : Asc (ps.map (·.1))) (hM : ∀ p ∈ ps, p.2 ≤ M) (hk : kraft M ps ≤ 2 ^ M) : hc f (ps.map (·.1)) ≤ cost ps := by
  induction f generalizing ps with
  | zero => simp [hc]
  | succ f ih =>
    match ps, hf, hs, hM, hk with
    | [], _, _, _, _ => simp [hc]
    | [_], _, _, _, _ => simp [hc]
    | (a, l1) :: (b, l2) :: r, hf, hs, hM, hk =>
      simp only [List.map_cons] at hs
      obtain ⟨s1, s2⟩ := List.pairwise_cons.1 hs
      obtain ⟨s3, s4⟩ := List.pairwise_cons.1 s2
      obtain ⟨m1, r1, e1, g1, c1, k1, b1⟩ := toFront M a l1 ((b, l2) :: r) (fun p hp => s1 p.1 (by
        rcases List.mem_cons.1 hp with e | e
        · rw [e]; simp
        · exact List.mem_cons.2 (.inr (List.mem_map.2 ⟨p, e, rfl⟩))))
      cases r1 with
      | nil => simp at e1
      | cons q r1 =>
        obtain ⟨b', l2'⟩ := q
        simp only [List.map_cons, List.cons.injEq] at e1
        obtain ⟨rfl, e1⟩ := e1
        obtain ⟨m2, r2, e2, g2, c2, k2, b2⟩ := toFront M b' l2' r1 (fun p hp => s3 p.1 (by rw [← e1]; exact List.mem_map.2 ⟨p, hp, rfl⟩))
        have hm21 : ∀ p ∈ (b', m2) :: r2, p.2 ≤ m1 := b2 m1 (fun p hp => g1 p hp)
        have hm12 : m2 ≤ m1 := hm21 (b', m2) (by simp)
        have hmM : m1 ≤ M := b1 M hM (a, m1) (by simp)
        have hc2 : cost ((a, m1) :: (b', m2) :: r2) ≤ cost ((a, l1) :: (b', l2) :: r) := by
          simp only [cost, List.map_cons, List.sum_cons] at c1 c2 ⊢; omega
        have hk2 : kraft M ((a, m1) :: (b', m2) :: r2) ≤ 2 ^ M := by
          simp only [kraft, List.map_cons, List.sum_cons] at k1 k2 hk ⊢; omega
        simp only [kraft, List.map_cons, List.sum_cons] at hk2
        -- room for both at the second one's length
        have d1 : 2 ^ (M - m2) ∣ kraft M r2 := kraft_dvd M m2 r2 g2
        have d2 : 2 ^ (M - m2) ∣ 2 ^ M := Nat.pow_dvd_pow 2 (by omega)
        have p1 : 0 < 2 ^ (M - m1) := Nat.two_pow_pos _
        have hroom : 2 ^ (M - m2) + 2 ^ (M - m2) + kraft M r2 ≤ 2 ^ M := by
          obtain ⟨u, hu⟩ := d1
          obtain ⟨v, hv⟩ := d2
          have hk3 : 2 ^ (M - m1) + (2 ^ (M - m2) + kraft M r2) ≤ 2 ^ M := hk2
          rw [hu, hv] at hk3
          rw [hu, hv]
          generalize 2 ^ (M - m2) = q at *
          have hq : q * (1 + u) < q * v := by rw [Nat.mul_add, Nat.mul_one]; omega
          have huv : 1 + u < v := Nat.lt_of_mul_lt_mul_left hq
          have : q * (2 + u) ≤ q * v := Nat.mul_le_mul_left _ (by omega)
          rw [Nat.mul_add] at this
          omega
        have hpos : 1 ≤ m2 := by
          rcases Nat.eq_zero_or_pos m2 with e | e
          · subst e
            have : 0 < 2 ^ M := Nat.two_pow_pos M
            simp only [Nat.sub_zero] at hroom
            omega
          · exact e
        have e3 : 2 ^ (M - (m2 - 1)) = 2 ^ (M - m2) + 2 ^ (M - m2) := by
          rw [show M - (m2 - 1) = (M - m2) + 1 by omega, Nat.pow_succ]; omega
        have hih := ih (insP (a + b', m2 - 1) r2) (by
            have h1 : (insP (a + b', m2 - 1) r2).length = r2.length + 1 := by
              have := congrArg List.length (insP_fst (a + b', m2 - 1) r2)
              rw [List.length_map, ins_length, List.length_map] at this
              exact this
            have h2 : r2.length = r.length := by
              have := congrArg List.length (e2.trans e1)
              simpa using this
            simp only [List.length_cons] at hf
            omega)
          (by rw [insP_fst, e2, e1]; exact ins_asc s4)
          (fun p hp => by
            rcases mem_insP hp with e | e
            · rw [e]; show m2 - 1 ≤ M; omega
            · have := hm21 p (List.mem_cons.2 (.inr e)); omega)
          (by rw [insP_kraft, e3]; exact hroom)
        rw [insP_fst, e2, e1, insP_cost] at hih
        show (a + b') + hc f (ins (a + b') (r.map (·.1))) ≤ _
        refine Nat.le_trans ?_ hc2
        have e4 : (a + b') * (m2 - 1) + (a + b') = (a + b') * m2 := by
          obtain ⟨t, rfl⟩ : ∃ t, m2 = t + 1 := ⟨m2 - 1, by omega⟩
          simp [Nat.mul_add]
        have e5 : a * m2 ≤ a * m1 := Nat.mul_le_mul_left _ hm12
        have e6 : (a + b') * m2 = a * m2 + b' * m2 := Nat.add_mul _ _ _
        simp only [cost, List.map_cons, List.sum_cons] at hih ⊢
        omega

end Go.Proofs.Ytcmnhgefeffcpaa.Hf
