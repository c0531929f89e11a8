/-
  Plain facts on the tree's lengths: no others are better; who weighs more has no longer code; weights of 1 and 2 make no code of more than 11 bits.
-/
import Derived.Test.YtcmnhgefeffcpaaHuffTree
namespace Go.Proofs.Ytcmnhgefeffcpaa.Hf

def sumOn (Bs : List Nat) (g : Nat → Nat) : Nat := (Bs.map g).sum

theorem sumOn_perm {a b : List Nat} (h : a.Perm b) (g : Nat → Nat) : sumOn a g = sumOn b g := (h.map g).sum_nat
theorem sumOn_cons (b : Nat) (r : List Nat) (g : Nat → Nat) : sumOn (b :: r) g = g b + sumOn r g := by simp [sumOn]
theorem sumOn_congr {Bs : List Nat} {g h : Nat → Nat} (e : ∀ b ∈ Bs, g b = h b) : sumOn Bs g = sumOn Bs h := by
  unfold sumOn; rw [List.map_congr_left e]
theorem sumOn_le {Bs : List Nat} {g : Nat → Nat} {m : Nat} (h : ∀ b ∈ Bs, g b ≤ m) : sumOn Bs g ≤ Bs.length * m := by
  induction Bs with
  | nil => simp [sumOn]
  | cons b r ih =>
    rw [sumOn_cons]
    have h1 := ih (fun x hx => h x (List.mem_cons.2 (.inr hx)))
    have h2 := h b (List.mem_cons.2 (.inl rfl))
    simp only [List.length_cons, Nat.add_mul, Nat.one_mul]
    omega

/-- What the lengths d of a tree over the bytes Bs, by the weights c, have. -/
structure Tr (c d : Nat → Nat) (Bs : List Nat) : Prop where
  nd : Bs.Nodup
  two : 2 ≤ Bs.length
  full : ∀ M : Nat, (∀ b ∈ Bs, d b ≤ M) → sumOn Bs (fun b => 2 ^ (M - d b)) = 2 ^ M
  best : ∀ (M : Nat) (o : Nat → Nat), (∀ b ∈ Bs, o b ≤ M) → sumOn Bs (fun b => 2 ^ (M - o b)) ≤ 2 ^ M → sumOn Bs (fun b => c b * d b) ≤ sumOn Bs (fun b => c b * o b)

theorem perm_front {x : Nat} {Bs : List Nat} (h : x ∈ Bs) : Bs.Perm (x :: Bs.erase x) := List.perm_cons_erase h

/-- Some length is the greatest. -/
theorem exists_max (d : Nat → Nat) (Bs : List Nat) (h : Bs ≠ []) : ∃ x ∈ Bs, ∀ b ∈ Bs, d b ≤ d x := by
  induction Bs with
  | nil => exact absurd rfl h
  | cons b r ih =>
    by_cases hr : r = []
    · subst hr; exact ⟨b, by simp, fun y hy => by simp at hy; rw [hy]; exact Nat.le_refl _⟩
    · obtain ⟨x, hx, hm⟩ := ih hr
      by_cases e : d b ≤ d x
      · refine ⟨x, by simp [hx], fun y hy => ?_⟩
        rcases List.mem_cons.1 hy with q | q
        · rw [q]; exact e
        · exact hm y q
      · refine ⟨b, by simp, fun y hy => ?_⟩
        rcases List.mem_cons.1 hy with q | q
        · rw [q]; exact Nat.le_refl _
        · have := hm y q; omega

/-- Who weighs more has no longer code. -/
theorem Tr.order {c d : Nat → Nat} {Bs : List Nat} (h : Tr c d Bs) {x y : Nat} (hx : x ∈ Bs) (hy : y ∈ Bs) (hc : c y < c x) : d x ≤ d y := by
  rcases Nat.lt_or_ge (d y) (d x) with hd | hd
  · exfalso
    have hxy : y ≠ x := fun e => by rw [e] at hc; omega
    have hy' : y ∈ Bs.erase x := (List.mem_erase_of_ne hxy).2 hy
    have hp : Bs.Perm (x :: y :: (Bs.erase x).erase y) := (perm_front hx).trans (List.Perm.cons x (perm_front hy'))
    generalize hR : (Bs.erase x).erase y = R at hp
    have hnd := hp.nodup_iff.1 h.nd
    obtain ⟨n1, n2⟩ := List.nodup_cons.1 hnd
    obtain ⟨n3, _⟩ := List.nodup_cons.1 n2
    obtain ⟨z, _, hm⟩ := exists_max d Bs (List.ne_nil_of_mem hx)
    let o : Nat → Nat := fun b => if b = x then d y else if b = y then d x else d b
    have ox : o x = d y := by simp [o]
    have oy : o y = d x := by simp [o, hxy]
    have oR : ∀ b ∈ R, o b = d b := fun b hb => by
      have e1 : b ≠ x := fun e => n1 (by rw [← e]; simp [hb])
      have e2 : b ≠ y := fun e => n3 (by rw [← e]; exact hb)
      simp [o, e1, e2]
    have hk := h.full (d z) hm
    have hb := h.best (d z) o (fun b hb => by
        by_cases e1 : b = x
        · rw [e1, ox]; exact hm y hy
        · by_cases e2 : b = y
          · rw [e2, oy]; exact hm x hx
          · have : o b = d b := by simp [o, e1, e2]
            rw [this]; exact hm b hb)
      (by
        rw [sumOn_perm hp, sumOn_cons, sumOn_cons] at hk ⊢
        rw [ox, oy, sumOn_congr (fun b hb => by rw [oR b hb])]
        omega)
    rw [sumOn_perm hp, sumOn_perm hp, sumOn_cons, sumOn_cons, sumOn_cons, sumOn_cons, ox, oy, sumOn_congr (g := fun b => c b * o b) (h := fun b => c b * d b) (fun b hb => by rw [oR b hb])] at hb
    have : c x * d y + c y * d x < c x * d x + c y * d y := by
      obtain ⟨u, hu⟩ : ∃ u, c x = c y + (u + 1) := ⟨c x - c y - 1, by omega⟩
      obtain ⟨v, hv⟩ : ∃ v, d x = d y + (v + 1) := ⟨d x - d y - 1, by omega⟩
      rw [hu, hv]
      simp only [Nat.add_mul, Nat.mul_add, Nat.one_mul, Nat.mul_one]
      omega
    omega
  · exact hd

/-- Two at least have the greatest length. -/
theorem Tr.twins {c d : Nat → Nat} {Bs : List Nat} (h : Tr c d Bs) {x : Nat} (hx : x ∈ Bs) (hm : ∀ b ∈ Bs, d b ≤ d x) : ∃ y ∈ Bs, y ≠ x ∧ d y = d x := by
  rcases Classical.em (∃ y ∈ Bs, y ≠ x ∧ d y = d x) with e | e
  · exact e
  · exfalso
    have hp := perm_front hx
    have hk := h.full (d x) hm
    rw [sumOn_perm hp, sumOn_cons, Nat.sub_self, Nat.pow_zero] at hk
    have hnd := h.nd
    have hev : 2 ∣ sumOn (Bs.erase x) (fun b => 2 ^ (d x - d b)) := by
      have : ∀ L : List Nat, (∀ b ∈ L, d b < d x) → 2 ∣ sumOn L (fun b => 2 ^ (d x - d b)) := by
        intro L
        induction L with
        | nil => intro _; simp [sumOn]
        | cons b r ih =>
          intro hL
          rw [sumOn_cons]
          refine Nat.dvd_add ?_ (ih (fun z hz => hL z (List.mem_cons.2 (.inr hz))))
          have := hL b (List.mem_cons.2 (.inl rfl))
          exact Nat.dvd_trans (show 2 ∣ 2 ^ 1 by decide) (Nat.pow_dvd_pow 2 (by omega))
      refine this _ fun b hb => ?_
      have hb' : b ∈ Bs := List.mem_of_mem_erase hb
      have hbx : b ≠ x := fun q => by
        rw [q] at hb
        exact (List.Nodup.not_mem_erase hnd) hb
      have := hm b hb'
      rcases Nat.lt_or_ge (d b) (d x) with q | q
      · exact q
      · exact absurd ⟨b, hb', hbx, by omega⟩ e
    have hpos : d x ≠ 0 := by
      intro q
      have h2 := h.two
      have hl : 1 ≤ (Bs.erase x).length := by rw [List.length_erase_of_mem hx]; omega
      obtain ⟨b, r, hbr⟩ := List.exists_cons_of_ne_nil (show Bs.erase x ≠ [] by intro q; rw [q] at hl; simp at hl)
      rw [q, hbr, sumOn_cons] at hk
      simp at hk
    obtain ⟨u, hu⟩ := hev
    obtain ⟨t, ht⟩ : ∃ t, d x = t + 1 := ⟨d x - 1, by omega⟩
    rw [hu, ht, Nat.pow_succ] at hk
    omega

/-- Weights of 1 and 2 over at most 256 bytes make no code of more than 11 bits. -/
theorem Tr.shallow {c d : Nat → Nat} {Bs : List Nat} (h : Tr c d Bs) (hc : ∀ b ∈ Bs, 1 ≤ c b ∧ c b ≤ 2) (hl : Bs.length ≤ 256) : ∀ b ∈ Bs, d b ≤ 11 := by
  obtain ⟨x, hx, hm⟩ := exists_max d Bs (by intro e; have := h.two; rw [e] at this; simp at this)
  intro b hb
  have hbx := hm b hb
  rcases Nat.lt_or_ge 11 (d x) with hL | hL
  · exfalso
    obtain ⟨y, hy, hyx, hdy⟩ := h.twins hx hm
    have hall : ∀ z ∈ Bs, d x ≤ d z + 2 := by
      intro z hz
      rcases Nat.lt_or_ge (d z + 2) (d x) with hs | hs
      · exfalso
        have hzx : z ≠ x := fun e => by rw [e] at hs; omega
        have hzy : z ≠ y := fun e => by rw [e] at hs; omega
        have hy1 : y ∈ Bs.erase x := (List.mem_erase_of_ne hyx).2 hy
        have hz1 : z ∈ (Bs.erase x).erase y := (List.mem_erase_of_ne hzy).2 ((List.mem_erase_of_ne hzx).2 hz)
        have hp : Bs.Perm (x :: y :: z :: ((Bs.erase x).erase y).erase z) := (perm_front hx).trans (List.Perm.cons x ((perm_front hy1).trans (List.Perm.cons y (perm_front hz1))))
        generalize ((Bs.erase x).erase y).erase z = R at hp
        have hnd := hp.nodup_iff.1 h.nd
        obtain ⟨n1, n2⟩ := List.nodup_cons.1 hnd
        obtain ⟨n3, n4⟩ := List.nodup_cons.1 n2
        obtain ⟨n5, _⟩ := List.nodup_cons.1 n4
        let o : Nat → Nat := fun b => if b = x then d z + 1 else if b = y then d x - 1 else if b = z then d z + 1 else d b
        have ox : o x = d z + 1 := by simp [o]
        have oy : o y = d x - 1 := by simp [o, hyx]
        have oz : o z = d z + 1 := by simp [o, hzx, hzy]
        have oR : ∀ b ∈ R, o b = d b := fun b hb => by
          have e1 : b ≠ x := fun e => n1 (by rw [← e]; simp [hb])
          have e2 : b ≠ y := fun e => n3 (by rw [← e]; simp [hb])
          have e3 : b ≠ z := fun e => n5 (by rw [← e]; exact hb)
          simp [o, e1, e2, e3]
        have hk := h.full (d x) hm
        have hb := h.best (d x) o (fun b hb => by
            by_cases e1 : b = x
            · rw [e1, ox]; omega
            · by_cases e2 : b = y
              · rw [e2, oy]; omega
              · by_cases e3 : b = z
                · rw [e3, oz]; omega
                · have : o b = d b := by simp [o, e1, e2, e3]
                  rw [this]; exact hm b hb)
          (by
            rw [sumOn_perm hp, sumOn_cons, sumOn_cons, sumOn_cons] at hk ⊢
            rw [ox, oy, oz, sumOn_congr (fun b hb => by rw [oR b hb])]
            have e1 : d x - (d x - 1) = 1 := by omega
            have e2 : d x - d z = (d x - (d z + 1)) + 1 := by omega
            rw [e2, Nat.pow_succ, hdy, Nat.sub_self, Nat.pow_zero] at hk
            rw [e1]
            omega)
        rw [sumOn_perm hp, sumOn_perm hp, sumOn_cons, sumOn_cons, sumOn_cons, sumOn_cons, sumOn_cons, sumOn_cons, ox, oy, oz, sumOn_congr (g := fun b => c b * o b) (h := fun b => c b * d b) (fun b hb => by rw [oR b hb])] at hb
        have cx := hc x hx
        have cy := hc y hy
        have cz := hc z hz
        obtain ⟨v, hv⟩ : ∃ v, d x = d z + (v + 3) := ⟨d x - d z - 3, by omega⟩
        rw [hdy, show d x - 1 = d z + (v + 2) by omega, hv] at hb
        simp only [Nat.mul_add, Nat.mul_one] at hb
        have q1 : c x * v = c x * v := rfl
        omega
      · exact hs
    -- so there are too many
    have hk := h.full (d x) hm
    have h4 := sumOn_le (Bs := Bs) (g := fun b => 2 ^ (d x - d b)) (m := 4) (fun b hb => by
      have := hall b hb
      exact Nat.le_trans (Nat.pow_le_pow_right (by decide) (show d x - d b ≤ 2 by omega)) (by decide))
    rw [hk] at h4
    have : 2 ^ 12 ≤ 2 ^ d x := Nat.pow_le_pow_right (by decide) hL
    have e12 : (2 : Nat) ^ 12 = 4096 := by decide
    omega
  · omega

end Go.Proofs.Ytcmnhgefeffcpaa.Hf
