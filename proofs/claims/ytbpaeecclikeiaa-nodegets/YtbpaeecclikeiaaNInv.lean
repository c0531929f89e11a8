/-
  Of bytes that were read to their end: they are the node's.
-/
import Derived.Test.YtbpaeecclikeiaaNRnd
namespace Go.Proofs.Ytbpaeecclikeiaa
open Go.RowKit Pl
set_option linter.unusedVariables false

theorem takeZ_inv {t : List Int × Bool} {m : Nat} (h : (takeZ t m).2.2 = false) : t.2 = false ∧ t.1 = (takeZ t m).1 ++ (takeZ t m).2.1 ∧ (takeZ t m).1.length = m := by
  unfold takeZ at *
  by_cases hc : t.2 = true ∨ t.1.length < m
  · rw [if_pos hc] at h; cases h
  · rw [if_neg hc] at *
    refine ⟨?_, by simp, ?_⟩
    · cases e : t.2 with
      | false => rfl
      | true => exact absurd (.inl e) hc
    · simp only [List.length_take]
      omega
theorem numZ_inv {t : List Int × Bool} (h : (numZ t).2.2 = false) : t.2 = false ∧ t.1 = (numZ t).1 :: (numZ t).2.1 := by
  obtain ⟨h1, h2, h3⟩ := takeZ_inv (t := t) (m := 1) h
  refine ⟨h1, ?_⟩
  unfold numZ
  match e : (takeZ t 1).1, h3 with
  | [x], _ =>
    rw [e] at h2
    simpa using h2
theorem txtZ_inv {t : List Int × Bool} (hb : By t.1) (h : (txtZ t).2.2 = false) : t.2 = false ∧ t.1 = ((txtZ t).1.size : Int) :: (bts (txtZ t).1 ++ (txtZ t).2.1) := by
  obtain ⟨h1, h2, h3⟩ := takeZ_inv (t := (numZ t).2) (m := (numZ t).1.toNat) h
  obtain ⟨h4, h5⟩ := numZ_inv h1
  refine ⟨h4, ?_⟩
  have hn := numZ_le hb
  have hby : By (numZ t).2.1 := takeZ_by2 hb 1
  have hby2 : By (takeZ (numZ t).2 (numZ t).1.toNat).1 := takeZ_by hby _
  have e1 : bts (txtZ t).1 = (takeZ (numZ t).2 (numZ t).1.toNat).1 := bts_str hby2
  have e2 : ((txtZ t).1.size : Int) = (numZ t).1 := by
    unfold txtZ
    simp only
    rw [strOfNums_size, h3]
    omega
  rw [e1, e2]
  conv => lhs; rw [h5]
  rw [h2]
  rfl

/-- The bytes of the first keys, without how many there are. -/
def flatN (n : Nd) : Nat → List Int
  | 0 => []
  | k + 1 => flatN n k ++ itm n k
theorem enc_flat (n : Nd) (k : Nat) : encN n k = (n.ks.length : Int) :: flatN n k := by
  induction k with
  | zero => rfl
  | succ k ih => simp only [encN, flatN]; rw [ih]; rfl
theorem getD_left {α : Type} (d : α) (l r : List α) (i : Nat) (h : i < l.length) : (l ++ r).getD i d = l.getD i d := by
  rw [List.getD_eq_getElem?_getD, List.getD_eq_getElem?_getD, List.getElem?_append_left h]
theorem getD_mid {α : Type} (d x : α) (l : List α) : (l ++ [x]).getD l.length d = x := by
  rw [List.getD_eq_getElem?_getD, List.getElem?_append_right (Nat.le_refl _), Nat.sub_self]
  rfl
theorem flat_congr {m n : Nd} (k : Nat) (h : ∀ i, i < k → itm m i = itm n i) : flatN m k = flatN n k := by
  induction k with
  | zero => rfl
  | succ k ih => simp only [flatN]; rw [ih (fun i hi => h i (by omega)), h k (by omega)]
/-- As many values, or kids, as keys. -/
theorem pzN_full (lf : Bool) (t : List Int × Bool) (k : Nat) : (lf = true → (pzN lf t k).n.vs.length = k ∧ (pzN lf t k).n.kd = []) ∧ (lf = false → (pzN lf t k).n.kd.length = k ∧ (pzN lf t k).n.vs = []) := by
  induction k with
  | zero => exact ⟨fun _ => ⟨rfl, rfl⟩, fun _ => ⟨rfl, rfl⟩⟩
  | succ k ih =>
    simp only [pzN, pzStep]
    rw [pzN_lf]
    refine ⟨fun e => ?_, fun e => ?_⟩
    · have := ih.1 e
      rw [if_pos e]
      exact ⟨by simp [this.1], this.2⟩
    · have := ih.2 e
      rw [if_neg (by rw [e]; decide)]
      exact ⟨by simp [this.1], this.2⟩
theorem pz_inv (lf : Bool) {t : List Int × Bool} (hb : By t.1) (k : Nat) (h : (pzN lf t k).t.2 = false) : t.2 = false ∧ t.1 = flatN (pzN lf t k).n k ++ (pzN lf t k).t.1 := by
  induction k with
  | zero => exact ⟨h, rfl⟩
  | succ k ih =>
    have hl := pzN_len lf t k
    have hf := pzN_full lf t k
    have hby := (pzN_small lf hb k).1
    have hlf := pzN_lf lf t k
    simp only [pzN] at h ⊢
    obtain ⟨p, hp⟩ : ∃ p, pzN lf t k = p := ⟨_, rfl⟩
    rw [hp] at h hl hf hby hlf ih ⊢
    cases lf with
    | true =>
      have hs : pzStep p = ⟨{ p.n with ks := p.n.ks ++ [(txtZ p.t).1], vs := p.n.vs ++ [(txtZ (txtZ p.t).2).1] }, (txtZ (txtZ p.t).2).2⟩ := by unfold pzStep; rw [if_pos hlf]
      rw [hs] at h ⊢
      simp only at h ⊢
      have hby2 := (txtZ_le hby).2
      obtain ⟨i1, i2⟩ := txtZ_inv hby2 h
      obtain ⟨j1, j2⟩ := txtZ_inv hby i1
      obtain ⟨k1, k2⟩ := ih j1
      refine ⟨k1, ?_⟩
      rw [k2, j2, i2]
      simp only [flatN]
      have e1 : flatN { p.n with ks := p.n.ks ++ [(txtZ p.t).1], vs := p.n.vs ++ [(txtZ (txtZ p.t).2).1] } k = flatN p.n k := flat_congr k fun i hi => by
        unfold itm kA vA dA
        simp only
        rw [getD_left _ _ _ _ (by omega), getD_left _ _ _ _ (by have := (hf.1 rfl).1; omega)]
      rw [e1]
      have e2 : itm { p.n with ks := p.n.ks ++ [(txtZ p.t).1], vs := p.n.vs ++ [(txtZ (txtZ p.t).2).1] } k = ((txtZ p.t).1.size : Int) :: (bts (txtZ p.t).1 ++ (((txtZ (txtZ p.t).2).1.size : Int) :: bts (txtZ (txtZ p.t).2).1)) := by
        unfold itm kA vA
        simp only
        rw [if_pos hlf]
        have ek : (p.n.ks ++ [(txtZ p.t).1]).getD k eS = (txtZ p.t).1 := by have := getD_mid eS (txtZ p.t).1 p.n.ks; rw [hl.1] at this; exact this
        have ev : (p.n.vs ++ [(txtZ (txtZ p.t).2).1]).getD k eS = (txtZ (txtZ p.t).2).1 := by have := getD_mid eS (txtZ (txtZ p.t).2).1 p.n.vs; rw [(hf.1 rfl).1] at this; exact this
        rw [ek, ev]
      rw [e2]
      simp
    | false =>
      have hs : pzStep p = ⟨{ p.n with ks := p.n.ks ++ [(txtZ p.t).1], kd := p.n.kd ++ [(numZ (txtZ p.t).2).1 + (numZ (numZ (txtZ p.t).2).2).1 * 256] }, (numZ (numZ (txtZ p.t).2).2).2⟩ := by unfold pzStep; rw [if_neg (by rw [hlf]; decide)]
      rw [hs] at h ⊢
      simp only at h ⊢
      have hby2 := (txtZ_le hby).2
      have hby3 : By (numZ (txtZ p.t).2).2.1 := takeZ_by2 hby2 1
      have l1 := numZ_le hby2
      have l2 := numZ_le hby3
      obtain ⟨g1, g2⟩ := numZ_inv h
      obtain ⟨i1, i2⟩ := numZ_inv g1
      obtain ⟨j1, j2⟩ := txtZ_inv hby i1
      obtain ⟨k1, k2⟩ := ih j1
      refine ⟨k1, ?_⟩
      rw [k2, j2, i2, g2]
      simp only [flatN]
      have e1 : flatN { p.n with ks := p.n.ks ++ [(txtZ p.t).1], kd := p.n.kd ++ [(numZ (txtZ p.t).2).1 + (numZ (numZ (txtZ p.t).2).2).1 * 256] } k = flatN p.n k := flat_congr k fun i hi => by
        unfold itm kA vA dA
        simp only
        rw [getD_left _ _ _ _ (by omega), getD_left _ _ _ _ (by have := (hf.2 rfl).1; omega)]
      rw [e1]
      have e2 : itm { p.n with ks := p.n.ks ++ [(txtZ p.t).1], kd := p.n.kd ++ [(numZ (txtZ p.t).2).1 + (numZ (numZ (txtZ p.t).2).2).1 * 256] } k = ((txtZ p.t).1.size : Int) :: (bts (txtZ p.t).1 ++ [(numZ (txtZ p.t).2).1, (numZ (numZ (txtZ p.t).2).2).1]) := by
        unfold itm kA dA
        simp only
        rw [if_neg (by rw [hlf]; decide)]
        have ek : (p.n.ks ++ [(txtZ p.t).1]).getD k eS = (txtZ p.t).1 := by have := getD_mid eS (txtZ p.t).1 p.n.ks; rw [hl.1] at this; exact this
        have ed : (p.n.kd ++ [(numZ (txtZ p.t).2).1 + (numZ (numZ (txtZ p.t).2).2).1 * 256]).getD k 0 = (numZ (txtZ p.t).2).1 + (numZ (numZ (txtZ p.t).2).2).1 * 256 := by have := getD_mid (0 : Int) ((numZ (txtZ p.t).2).1 + (numZ (numZ (txtZ p.t).2).2).1 * 256) p.n.kd; rw [(hf.2 rfl).1] at this; exact this
        rw [ek, ed]
        have a1 : ((numZ (txtZ p.t).2).1 + (numZ (numZ (txtZ p.t).2).2).1 * 256) % 256 = (numZ (txtZ p.t).2).1 := by omega
        have a2 : ((numZ (txtZ p.t).2).1 + (numZ (numZ (txtZ p.t).2).2).1 * 256) / 256 = (numZ (numZ (txtZ p.t).2).2).1 := by omega
        rw [a1, a2]
      rw [e2]
      simp
/-- Once short, always. -/
theorem takeZ_short {t : List Int × Bool} (m : Nat) (h : t.2 = true) : (takeZ t m).2.2 = true := by unfold takeZ; rw [if_pos (.inl h)]
theorem txtZ_short {t : List Int × Bool} (h : t.2 = true) : (txtZ t).2.2 = true := takeZ_short _ (takeZ_short 1 h)
theorem pzStep_short {p : Pz} (h : p.t.2 = true) : (pzStep p).t.2 = true := by
  unfold pzStep
  split
  · exact txtZ_short (txtZ_short h)
  · exact takeZ_short 1 (takeZ_short 1 (txtZ_short h))
theorem pzN_short {lf : Bool} {t : List Int × Bool} {k : Nat} (h : (pzN lf t k).t.2 = true) (j : Nat) (hj : k ≤ j) : (pzN lf t j).t.2 = true := by
  induction j with
  | zero => have : k = 0 := by omega
            subst this; exact h
  | succ j ih =>
    by_cases e : k ≤ j
    · exact pzStep_short (ih e)
    · have : k = j + 1 := by omega
      subst this; exact h
/-- What is read, and whether it is all, by the bytes alone. -/
theorem get_iff {xs : List Int} {c : Int} {r : List Int} (hx : xs = c :: r) (hb : By xs) {lf : Bool} (h : (pzN lf (r, false) c.toNat).t.2 = false) :
    (rdOk (rdN lf xs) && mayN (rdN lf xs).n) = (mayN (pzN lf (r, false) c.toNat).n && decide (encN (pzN lf (r, false) c.toNat).n (pzN lf (r, false) c.toNat).n.ks.length = xs)) := by
  have e0 : rdN lf xs = pzN lf (r, false) c.toNat := by unfold rdN; rw [hx, numZ_cons]
  rw [e0]
  have hbr : By r := fun i => by have := hb (i + 1); rw [hx] at this; simpa using this
  have hc : 0 ≤ c := by have := hb 0; rw [hx] at this; simpa using this.1
  obtain ⟨_, e1⟩ := pz_inv lf (t := (r, false)) hbr c.toNat h
  obtain ⟨p, hp⟩ : ∃ p, pzN lf (r, false) c.toNat = p := ⟨_, rfl⟩
  have hl := (pzN_len lf (r, false) c.toNat).1
  rw [hp] at h e1 hl ⊢
  simp only at e1
  have e2 : encN p.n p.n.ks.length = c :: flatN p.n c.toNat := by rw [enc_flat, hl]; congr 1; omega
  have e3 : rdOk p = decide (encN p.n p.n.ks.length = xs) := by
    unfold rdOk
    rw [h, e2, hx, e1]
    by_cases hz : p.t.1.length = 0
    · have : p.t.1 = [] := List.eq_nil_of_length_eq_zero hz
      rw [this]
      simp
    · rw [decide_eq_false hz, decide_eq_false]
      · rfl
      · intro e
        apply hz
        have := congrArg List.length e
        simp only [List.length_cons, List.length_append] at this
        omega
  rw [e3, Bool.and_comm]
end Go.Proofs.Ytbpaeecclikeiaa
