/-
  A change within 32 bits side by side is told, plainly.
-/
import Derived.Test.YtdicgaepggffbaaSBn
namespace Go.Proofs.Ytdicgaepggffbaa
open Go.RowKit Pl
set_option linter.unusedVariables false

theorem xor0 {a b : Nat} : a ^^^ b = 0 ↔ a = b := by
  constructor
  · intro h
    have : a ^^^ b ^^^ b = b := by rw [h, Nat.zero_xor]
    rw [Nat.xor_assoc, Nat.xor_self, Nat.xor_zero] at this
    exact this
  · rintro rfl
    exact Nat.xor_self a
theorem c1_xor (a b : Nat) : c1 (a ^^^ b) = c1 a ^^^ c1 b := by
  have hd : (a ^^^ b) / 2 = a / 2 ^^^ b / 2 := by
    have := Nat.xor_div_two_pow (a := a) (b := b) (n := 1)
    simpa using this
  have hm := Nat.xor_mod_two_eq_one (a := a) (b := b)
  unfold c1
  rw [hd]
  by_cases ha : a % 2 = 1
  · by_cases hb : b % 2 = 1
    · rw [if_neg (by rw [hm]; simp [ha, hb]), if_pos ha, if_pos hb]
      rw [Nat.xor_assoc, ← Nat.xor_assoc 2197175160, Nat.xor_comm 2197175160 (b / 2), Nat.xor_assoc (b / 2), Nat.xor_self, Nat.xor_zero]
    · rw [if_pos (by rw [hm]; simp [ha, hb]), if_pos ha, if_neg hb]
      rw [Nat.xor_assoc, Nat.xor_comm (b / 2), ← Nat.xor_assoc]
  · by_cases hb : b % 2 = 1
    · rw [if_pos (by rw [hm]; simp [ha, hb]), if_neg ha, if_pos hb, Nat.xor_assoc]
    · rw [if_neg (by rw [hm]; simp [ha, hb]), if_neg ha, if_neg hb]
theorem c1_zero {x : Nat} (h : x < 4294967296) (h0 : c1 x = 0) : x = 0 := by
  unfold c1 at h0
  split at h0
  · have := xor0.1 h0
    omega
  · omega
theorem c8_xor (k a b : Nat) : c8 k (a ^^^ b) = c8 k a ^^^ c8 k b := by
  induction k with
  | zero => rfl
  | succ k ih => simp only [c8]; rw [ih, c1_xor]
theorem c8_zero (k : Nat) : c8 k 0 = 0 := by
  induction k with
  | zero => rfl
  | succ k ih => simp only [c8]; rw [ih]; rfl
theorem c8_inj {x : Nat} (h : x < 4294967296) (k : Nat) (h0 : c8 k x = 0) : x = 0 := by
  induction k with
  | zero => exact h0
  | succ k ih => exact ih (c1_zero (c8_lt h k) h0)
theorem c8_pow (m y : Nat) : c8 m (2 ^ m * y) = y := by
  induction m generalizing y with
  | zero => simp [c8]
  | succ m ih =>
    simp only [c8]
    rw [Nat.pow_succ, Nat.mul_assoc, ih]
    unfold c1
    rw [if_neg (by omega)]
    omega
theorem c8_add (k m x : Nat) : c8 (m + k) x = c8 k (c8 m x) := by
  induction k with
  | zero => rfl
  | succ k ih => show c1 (c8 (m + k) x) = c1 (c8 k (c8 m x)); rw [ih]

/-- How the difference of two sums goes on, bit by bit. -/
def eR (d : Nat → Bool) : Nat → Nat
  | 0 => 0
  | n + 1 => c1 (eR d n ^^^ (if d n then 1 else 0))
/-- Bits from a on as a number. -/
def vR (d : Nat → Bool) (a : Nat) : Nat → Nat
  | 0 => 0
  | m + 1 => vR d a m ^^^ (if d (a + m) then 2 ^ m else 0)

theorem vR_bit (d : Nat → Bool) (a m i : Nat) : (vR d a m).testBit i = (decide (i < m) && d (a + i)) := by
  induction m with
  | zero => simp [vR]
  | succ m ih =>
    simp only [vR]
    rw [Nat.testBit_xor, ih]
    by_cases hd : d (a + m)
    · rw [if_pos hd, Nat.testBit_two_pow]
      by_cases e : m = i
      · subst e; simp [hd]
      · have h1 : (i < m + 1) = (i < m) := by apply propext; omega
        simp [e, h1]
    · rw [if_neg hd]
      by_cases e : m = i
      · subst e; simp at hd; simp [hd]
      · have h1 : (i < m + 1) = (i < m) := by apply propext; omega
        simp [h1]
theorem vR_lt (d : Nat → Bool) (a m : Nat) : vR d a m < 2 ^ m := by
  refine Nat.lt_pow_two_of_testBit _ (fun i hi => ?_)
  rw [vR_bit]
  simp
  omega
theorem vR_eq (d : Nat → Bool) (a m e : Nat) (he : e < 2 ^ m) (h : ∀ i, i < m → d (a + i) = e.testBit i) : vR d a m = e := by
  apply Nat.eq_of_testBit_eq
  intro i
  rw [vR_bit]
  by_cases hi : i < m
  · simp [hi, h i hi]
  · rw [Nat.testBit_lt_two_pow (Nat.lt_of_lt_of_le he (Nat.pow_le_pow_right (by decide) (by omega)))]
    simp [hi]
theorem vR_zero (d : Nat → Bool) (a m : Nat) (h : ∀ i, i < m → d (a + i) = false) : vR d a m = 0 :=
  vR_eq d a m 0 (Nat.pow_pos (by decide)) (fun i hi => by rw [h i hi]; simp)
theorem eR_run (d : Nat → Bool) (a m : Nat) : eR d (a + m) = c8 m (eR d a ^^^ vR d a m) := by
  induction m with
  | zero => simp [c8, vR]
  | succ m ih =>
    show c1 (eR d (a + m) ^^^ (if d (a + m) then 1 else 0)) = c1 (c8 m (eR d a ^^^ (vR d a m ^^^ (if d (a + m) then 2 ^ m else 0))))
    rw [ih, ← Nat.xor_assoc, c8_xor m (eR d a ^^^ vR d a m)]
    congr 2
    split
    · have := c8_pow m 1
      rw [Nat.mul_one] at this
      exact this.symm
    · exact (c8_zero m).symm

/-- Two rows' sums: the difference. -/
theorem cR_diff (xs ys : List Int) (d : Nat → Bool) (hx : By xs) (hy : By ys) (n : Nat) (h : ∀ j i, j < n → i < 8 → d (8 * j + i) = (bN xs j ^^^ bN ys j).testBit i) : ∀ k, k ≤ n → cR xs k ^^^ cR ys k = eR d (8 * k)
  | 0, _ => by simp [cR, eR]
  | k + 1, hk => by
    have ih := cR_diff xs ys d hx hy n h k (by omega)
    have he : bN xs k ^^^ bN ys k < 2 ^ 8 := Nat.xor_lt_two_pow (bN_lt hx k) (bN_lt hy k)
    show c8 8 (cR xs k ^^^ bN xs k) ^^^ c8 8 (cR ys k ^^^ bN ys k) = eR d (8 * k + 8)
    rw [eR_run, vR_eq d (8 * k) 8 _ he (fun i hi => h k i (by omega) hi), ← ih, ← c8_xor]
    congr 1
    rw [Nat.xor_assoc, ← Nat.xor_assoc (bN xs k), Nat.xor_comm (bN xs k), Nat.xor_assoc (cR ys k), ← Nat.xor_assoc (cR xs k)]

/-- The bits that are turned: n bits of the mask from A on. -/
def dd (A mask N n p : Nat) : Bool := decide (A ≤ p ∧ p < A + n ∧ p < N) && mask.testBit (p - A)

theorem dd_out (A mask N n p : Nat) (h : p < A ∨ A + n ≤ p ∨ N ≤ p) : dd A mask N n p = false := by
  unfold dd
  have : ¬ (A ≤ p ∧ p < A + n ∧ p < N) := by omega
  simp [this]

theorem eR_burst (A mask L : Nat) (hA : A ≤ 8 * L) : eR (dd A mask (8 * L) 32) (8 * L) = 0 ↔ ∀ p, dd A mask (8 * L) 32 p = false := by
  obtain ⟨d, hd⟩ : ∃ d, dd A mask (8 * L) 32 = d := ⟨_, rfl⟩
  have ho := fun p h => dd_out A mask (8 * L) 32 p h
  rw [hd] at ho ⊢
  obtain ⟨m, hm1, hm2, hm3⟩ : ∃ m, m ≤ 32 ∧ A + m ≤ 8 * L ∧ (A + m = 8 * L ∨ m = 32) := by
    by_cases c : A + 32 ≤ 8 * L
    · exact ⟨32, Nat.le_refl _, c, .inr rfl⟩
    · exact ⟨8 * L - A, by omega, by omega, .inl (by omega)⟩
  have e1 : eR d A = 0 := by
    have := eR_run d 0 A
    rw [Nat.zero_add, vR_zero d 0 A (fun i hi => ho _ (.inl (by omega)))] at this
    rw [this, show eR d 0 = 0 from rfl, Nat.xor_zero]
    exact c8_zero A
  have e2 : eR d (A + m) = c8 m (vR d A m) := by rw [eR_run, e1, Nat.zero_xor]
  obtain ⟨r, hr⟩ : ∃ r, 8 * L = A + m + r := ⟨8 * L - (A + m), by omega⟩
  have e3 : eR d (8 * L) = c8 (m + r) (vR d A m) := by
    rw [hr, eR_run d (A + m) r, vR_zero d (A + m) r (fun i hi => ho _ (by omega)), Nat.xor_zero, e2, ← c8_add]
  have hv : vR d A m < 4294967296 := Nat.lt_of_lt_of_le (vR_lt d A m) (Nat.pow_le_pow_right (n := 2) (by decide) hm1)
  rw [e3]
  constructor
  · intro h p
    have hz := c8_inj hv _ h
    by_cases hp : A ≤ p ∧ p < A + m
    · have hb := vR_bit d A m (p - A)
      rw [hz, show A + (p - A) = p by omega] at hb
      have hlt : p - A < m := by omega
      simpa [hlt] using hb.symm
    · exact ho p (by omega)
  · intro h
    rw [vR_zero d A m (fun i _ => h _)]
    exact c8_zero _

/-- What a burst does to the sum. -/
theorem burst_told (xs ys : List Int) (A mask : Nat) (hx : By xs) (hy : By ys) (hl : ys.length = xs.length) (hA : A ≤ 8 * xs.length)
    (h : ∀ j i, j < xs.length → i < 8 → (bN ys j).testBit i = ((bN xs j).testBit i ^^ dd A mask (8 * xs.length) 32 (8 * j + i))) :
    crc ys ≠ crc xs ↔ ∃ p, dd A mask (8 * xs.length) 32 p = true := by
  have h1 := cR_diff xs ys (dd A mask (8 * xs.length) 32) hx hy xs.length (fun j i hj hi => by
    rw [Nat.testBit_xor, h j i hj hi]
    cases (bN xs j).testBit i <;> simp) xs.length (Nat.le_refl _)
  have h2 := eR_burst A mask xs.length hA
  rw [← h1] at h2
  have l1 := cR_lt hx xs.length
  have l2 := cR_lt hy xs.length
  unfold crc
  rw [hl]
  rw [xor0] at h2
  constructor
  · intro hne
    apply Classical.byContradiction
    intro hno
    have : cR xs xs.length = cR ys xs.length := h2.2 (fun p => by
      cases hp : dd A mask (8 * xs.length) 32 p with
      | false => rfl
      | true => exact absurd ⟨p, hp⟩ hno)
    omega
  · rintro ⟨p, hp⟩ he
    have := h2.1 (by omega) p
    rw [this] at hp
    cases hp
end Go.Proofs.Ytdicgaepggffbaa
