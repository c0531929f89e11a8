/-
  Plain facts on short numbers and rows of bits: lists and integers alone, nothing of the program.
-/
import Derived.KernelRfl
namespace Go.Proofs.YtcjdhbiiigdmmaaDoor.Pl

/-- The number that the first k bytes of a short number make. -/
def numAt (xs : List Int) : Nat → Int
  | 0 => 0
  | k + 1 => numAt xs k + (xs.getD k 0 % 128) * 128 ^ k

/-- The short number that stands from byte k on, at most f bytes more. -/
def numFrom (xs : List Int) : Nat → Nat → Option (Int × Nat)
  | 0, _ => none
  | f + 1, k => if k < xs.length then
      (if 128 ≤ xs.getD k 0 then numFrom xs f (k + 1)
       else if 4294967295 < numAt xs (k + 1) ∨ (0 < k ∧ xs.getD k 0 = 0) then none else some (numAt xs (k + 1), k + 1))
    else none

def numRes (xs : List Int) : Option (Int × Nat) := numFrom xs 5 0

def resN (r : Option (Int × Nat)) : Int := match r with | some p => p.1 | none => 0
def resK (r : Option (Int × Nat)) : Int := match r with | some p => p.2 | none => 0
def resE (r : Option (Int × Nat)) : Int := match r with | some _ => 0 | none => 3

theorem numAt_bd (xs : List Int) (hx : ∀ i, 0 ≤ xs.getD i 0 ∧ xs.getD i 0 ≤ 255) (k : Nat) : 0 ≤ numAt xs k ∧ numAt xs k < 128 ^ k := by
  induction k with
  | zero => simp [numAt]
  | succ k ih =>
    have h := hx k
    have hp : (0 : Int) < 128 ^ k := Int.pow_pos (by decide)
    have h0 : 0 ≤ xs.getD k 0 % 128 := by omega
    have h1 : xs.getD k 0 % 128 ≤ 127 := by omega
    simp only [numAt, Int.pow_succ]
    generalize xs.getD k 0 % 128 = y at *
    generalize (128 : Int) ^ k = p at *
    have a := Int.mul_nonneg h0 (Int.le_of_lt hp)
    have b := Int.mul_le_mul_of_nonneg_right h1 (Int.le_of_lt hp)
    constructor
    · omega
    · omega

/-- A bit row of n, and what is laid above it, are a sum. -/
theorem or_shift (n x : Nat) (j : Nat) (h : n < 2 ^ j) : n ||| (x * 2 ^ j) = n + x * 2 ^ j := by
  rw [Nat.or_comm, Nat.mul_comm, ← Nat.two_pow_add_eq_or_of_lt h, Nat.add_comm]

theorem numFrom_more {xs : List Int} {k : Nat} {R : Option (Int × Nat)} (h5 : k < 5) (hl : k < xs.length) (hx : 128 ≤ xs.getD k 0) (h : numFrom xs (5 - k) k = R) : numFrom xs (5 - (k + 1)) (k + 1) = R := by
  have e : 5 - k = (5 - (k + 1)) + 1 := by omega
  rw [e] at h
  simp only [numFrom] at h
  rw [if_pos hl, if_pos hx] at h
  exact h

theorem numFrom_bad {xs : List Int} {k : Nat} {R : Option (Int × Nat)} (h5 : k < 5) (hl : k < xs.length) (hx : ¬ 128 ≤ xs.getD k 0)
    (hb : 4294967295 < numAt xs (k + 1) ∨ (0 < k ∧ xs.getD k 0 = 0)) (h : numFrom xs (5 - k) k = R) : R = none := by
  have e : 5 - k = (5 - (k + 1)) + 1 := by omega
  rw [e] at h
  simp only [numFrom] at h
  rw [if_pos hl, if_neg hx, if_pos hb] at h
  exact h.symm

theorem numFrom_good {xs : List Int} {k : Nat} {R : Option (Int × Nat)} (h5 : k < 5) (hl : k < xs.length) (hx : ¬ 128 ≤ xs.getD k 0)
    (hb : ¬ (4294967295 < numAt xs (k + 1) ∨ (0 < k ∧ xs.getD k 0 = 0))) (h : numFrom xs (5 - k) k = R) : R = some (numAt xs (k + 1), k + 1) := by
  have e : 5 - k = (5 - (k + 1)) + 1 := by omega
  rw [e] at h
  simp only [numFrom] at h
  rw [if_pos hl, if_neg hx, if_neg hb] at h
  exact h.symm

theorem numFrom_end {xs : List Int} {k : Nat} {R : Option (Int × Nat)} (hn : ¬ (k < xs.length ∧ k < 5)) (hk : k ≤ 5) (h : numFrom xs (5 - k) k = R) : R = none := by
  by_cases h5 : k < 5
  · have e : 5 - k = (5 - (k + 1)) + 1 := by omega
    rw [e] at h
    simp only [numFrom] at h
    rw [if_neg (by omega)] at h
    exact h.symm
  · have e : 5 - k = 0 := by omega
    rw [e] at h
    simp only [numFrom] at h
    exact h.symm

theorem pow_128_le (k : Nat) (h : k < 5) : (128 : Int) ^ k ≤ 268435456 := by
  have h : k = 0 ∨ k = 1 ∨ k = 2 ∨ k = 3 ∨ k = 4 := by omega
  rcases h with rfl | rfl | rfl | rfl | rfl <;> decide

theorem pow_128 (k : Nat) : (128 : Int) ^ k = 2 ^ (7 * k) := by
  rw [Int.pow_mul]; rfl


/-! ### Rows of bits -/

/-- The number whose bit i is f i, n of them. -/
def bv (f : Nat → Int) : Nat → Int
  | 0 => 0
  | n + 1 => bv f n + f n * 2 ^ n

/-- The number whose n bits stand in the row from bit p on. -/
def val (bs : List Int) (p n : Nat) : Int := bv (fun i => bs.getD (p + i) 0) n

/-- A row of bits as bytes. -/
def pack (bs : List Int) : List Int := (List.range ((bs.length + 7) / 8)).map fun j => val bs (8 * j) 8

/-- Each is a bit. -/
def Bits (bs : List Int) : Prop := ∀ i, bs.getD i 0 = 0 ∨ bs.getD i 0 = 1

theorem bv_congr (f g : Nat → Int) (n : Nat) (h : ∀ i, i < n → f i = g i) : bv f n = bv g n := by
  induction n with
  | zero => rfl
  | succ n ih => simp only [bv]; rw [ih (fun i hi => h i (by omega)), h n (by omega)]

theorem bv_add (f : Nat → Int) (q : Nat) (c : Int) (n : Nat) : bv (fun i => f i + if i = q then c else 0) n = bv f n + if q < n then c * 2 ^ q else 0 := by
  induction n with
  | zero => simp [bv]
  | succ n ih =>
    simp only [bv, ih]
    by_cases h : n = q
    · subst h
      rw [if_neg (Nat.lt_irrefl n), if_pos rfl, if_pos (Nat.lt_succ_self n), Int.add_mul]
      omega
    · rw [if_neg h]
      by_cases h2 : q < n
      · rw [if_pos h2, if_pos (by omega), Int.add_mul]
        omega
      · rw [if_neg h2, if_neg (by omega), Int.add_mul]
        omega

theorem bv_cut (f : Nat → Int) (r n : Nat) (hr : r ≤ n) (h : ∀ i, r ≤ i → i < n → f i = 0) : bv f n = bv f r := by
  induction n with
  | zero => have : r = 0 := by omega
            subst this; rfl
  | succ n ih =>
    by_cases e : r = n + 1
    · subst e; rfl
    · simp only [bv]
      rw [ih (by omega) (fun i h1 h2 => h i h1 (by omega)), h n (by omega) (by omega)]
      simp

theorem bv_bd (f : Nat → Int) (h : ∀ i, f i = 0 ∨ f i = 1) (n : Nat) : 0 ≤ bv f n ∧ bv f n < 2 ^ n := by
  induction n with
  | zero => simp [bv]
  | succ n ih =>
    simp only [bv, Int.pow_succ]
    have hp : (0 : Int) < 2 ^ n := Int.pow_pos (by decide)
    rcases h n with e | e <;> rw [e] <;> constructor <;> omega

theorem val_bd {bs : List Int} (h : Bits bs) (p n : Nat) : 0 ≤ val bs p n ∧ val bs p n < 2 ^ n := bv_bd _ (fun i => h (p + i)) n

theorem getD_snoc (bs : List Int) (c : Int) (i : Nat) : (bs ++ [c]).getD i 0 = bs.getD i 0 + if i = bs.length then c else 0 := by
  simp only [List.getD_eq_getElem?_getD, List.getElem?_append]
  by_cases h : i < bs.length
  · rw [if_pos h, if_neg (by omega)]; simp
  · rw [if_neg h]
    by_cases e : i = bs.length
    · subst e; simp
    · rw [if_neg e]
      have : bs[i]? = none := List.getElem?_eq_none (by omega)
      rw [this]
      have : [c][i - bs.length]? = none := List.getElem?_eq_none (by simp; omega)
      rw [this]; rfl

theorem Bits.snoc {bs : List Int} (h : Bits bs) {c : Int} (hc : c = 0 ∨ c = 1) : Bits (bs ++ [c]) := by
  intro i
  rw [getD_snoc]
  by_cases e : i = bs.length
  · rw [if_pos e]
    have : bs.getD i 0 = 0 := by subst e; simp
    rw [this]; simpa using hc
  · rw [if_neg e]; simpa using h i

theorem Bits.nil : Bits [] := fun i => by simp

theorem val_snoc (bs : List Int) (c : Int) (p n : Nat) : val (bs ++ [c]) p n = val bs p n + if p ≤ bs.length ∧ bs.length < p + n then c * 2 ^ (bs.length - p) else 0 := by
  unfold val
  by_cases h : p ≤ bs.length
  · rw [bv_congr _ (fun i => bs.getD (p + i) 0 + if i = bs.length - p then c else 0) n (fun i _ => by
      rw [getD_snoc]; congr 1
      by_cases e : p + i = bs.length
      · rw [if_pos e, if_pos (by omega)]
      · rw [if_neg e, if_neg (by omega)]), bv_add (fun i => bs.getD (p + i) 0)]
    congr 1
    by_cases e : bs.length < p + n
    · rw [if_pos (by omega), if_pos ⟨h, e⟩]
    · rw [if_neg (by omega), if_neg (by omega)]
  · rw [if_neg (by omega), Int.add_zero]
    exact bv_congr _ _ n (fun i _ => by rw [getD_snoc, if_neg (by omega), Int.add_zero])

theorem val_past (bs : List Int) (p n : Nat) (h : bs.length ≤ p) : val bs p n = 0 := by
  unfold val
  rw [bv_cut _ 0 n (by omega) (fun i _ _ => by simp [List.getD_eq_getElem?_getD, List.getElem?_eq_none (show bs.length ≤ p + i by omega)])]
  rfl

theorem val_cut (bs : List Int) (p n r : Nat) (hr : r ≤ n) (h : bs.length ≤ p + r) : val bs p n = val bs p r := by
  unfold val
  exact bv_cut _ r n hr (fun i h1 _ => by simp [List.getD_eq_getElem?_getD, List.getElem?_eq_none (show bs.length ≤ p + i by omega)])

theorem pack_length (bs : List Int) : (pack bs).length = (bs.length + 7) / 8 := by simp [pack]

theorem pack_getD (bs : List Int) (j : Nat) : (pack bs).getD j 0 = val bs (8 * j) 8 := by
  by_cases h : j < (bs.length + 7) / 8
  · simp [pack, List.getD_eq_getElem?_getD, h]
  · rw [val_past _ _ _ (by omega)]
    simp [pack, List.getD_eq_getElem?_getD, h]

theorem pack_bd {bs : List Int} (h : Bits bs) (i : Nat) : 0 ≤ (pack bs).getD i 0 ∧ (pack bs).getD i 0 ≤ 255 := by
  rw [pack_getD]
  have := val_bd h (8 * i) 8
  have e : (2 : Int) ^ 8 = 256 := by decide
  omega

theorem list_eq_of_getD {xs ys : List Int} (hl : xs.length = ys.length) (h : ∀ i, i < xs.length → xs.getD i 0 = ys.getD i 0) : xs = ys := by
  refine List.ext_getElem hl fun i h1 h2 => ?_
  have := h i h1
  simpa [List.getD_eq_getElem?_getD, h1, h2] using this

theorem pack_snoc_new (bs : List Int) (c : Int) (h : bs.length % 8 = 0) : pack (bs ++ [c]) = pack bs ++ [c] := by
  refine list_eq_of_getD (by simp [pack_length]; omega) fun i hi => ?_
  rw [pack_getD, val_snoc, getD_snoc, pack_getD, pack_length]
  simp only [pack_length, List.length_append, List.length_cons, List.length_nil] at hi
  congr 1
  by_cases e : i = (bs.length + 7) / 8
  · rw [if_pos (by omega), if_pos e]
    have : bs.length - 8 * i = 0 := by omega
    rw [this]; simp
  · rw [if_neg (by omega), if_neg e]

theorem pack_snoc_mid (bs : List Int) (c : Int) (h : bs.length % 8 ≠ 0) :
    pack (bs ++ [c]) = (pack bs).set (bs.length / 8) ((pack bs).getD (bs.length / 8) 0 + c * 2 ^ (bs.length % 8)) := by
  refine list_eq_of_getD (by simp [pack_length]; omega) fun i hi => ?_
  rw [pack_getD, val_snoc]
  simp only [pack_length, List.length_append, List.length_cons, List.length_nil] at hi
  by_cases e : bs.length / 8 = i
  · subst e
    rw [if_pos (by omega)]
    have e2 : bs.length - 8 * (bs.length / 8) = bs.length % 8 := by omega
    rw [e2]
    have hlt : bs.length / 8 < (pack bs).length := by rw [pack_length]; omega
    simp only [List.getD_eq_getElem?_getD, List.getElem?_set_self hlt, Option.getD_some]
    rw [← List.getD_eq_getElem?_getD, pack_getD]
  · rw [if_neg (by omega), Int.add_zero, ← pack_getD]
    simp only [List.getD_eq_getElem?_getD, List.getElem?_set_ne e]

/-- The last byte of a row has no bit beyond the row. -/
theorem pack_last_lt {bs : List Int} (h : Bits bs) : (pack bs).getD (bs.length / 8) 0 < 2 ^ (bs.length % 8) := by
  rw [pack_getD, val_cut bs _ 8 (bs.length % 8) (by omega) (by omega)]
  exact (val_bd h _ _).2


/-- The n lowest bits of v, the lowest first. -/
def bitsOf (v : Int) : Nat → List Int
  | 0 => []
  | n + 1 => bitsOf v n ++ [v / 2 ^ n % 2]

theorem bitsOf_length (v : Int) (n : Nat) : (bitsOf v n).length = n := by
  induction n with
  | zero => rfl
  | succ n ih => simp [bitsOf, ih]

theorem bit_of (v : Int) (k : Nat) : v / 2 ^ k % 2 = 0 ∨ v / 2 ^ k % 2 = 1 := by omega

theorem two_pow_le {n m : Nat} (h : n ≤ m) : (2 : Int) ^ n ≤ 2 ^ m := by
  have := Nat.pow_le_pow_right (n := 2) (by decide) h
  exact_mod_cast this

theorem and_one (v : Nat) : v &&& 1 = v % 2 := by simp


/-- A short number that is cut ahead of its last byte is none. -/
theorem numFrom_take (xs : List Int) (f k0 : Nat) (n : Int) (k : Nat) (h : numFrom xs f k0 = some (n, k)) : k0 < k ∧ k ≤ xs.length ∧ k ≤ k0 + f ∧ numFrom (xs.take (k - 1)) f k0 = none := by
  induction f generalizing k0 with
  | zero => simp [numFrom] at h
  | succ f ih =>
    simp only [numFrom] at h
    by_cases hl : k0 < xs.length
    · rw [if_pos hl] at h
      by_cases hx : 128 ≤ xs.getD k0 0
      · rw [if_pos hx] at h
        obtain ⟨a, b, c, d⟩ := ih (k0 + 1) h
        refine ⟨by omega, b, by omega, ?_⟩
        simp only [numFrom]
        rw [if_pos (by rw [List.length_take]; omega), if_pos (by rw [List.getD_eq_getElem?_getD, List.getElem?_take, if_pos (by omega), ← List.getD_eq_getElem?_getD]; exact hx)]
        exact d
      · rw [if_neg hx] at h
        split at h
        · cases h
        · simp only [Option.some.injEq, Prod.mk.injEq] at h
          obtain ⟨_, rfl⟩ := h
          refine ⟨by omega, by omega, by omega, ?_⟩
          simp only [numFrom]
          rw [if_neg (by rw [List.length_take]; omega)]
    · rw [if_neg hl] at h
      cases h

theorem numRes_take {xs : List Int} {n : Int} {k : Nat} (h : numRes xs = some (n, k)) : 1 ≤ k ∧ k ≤ xs.length ∧ k ≤ 5 ∧ numRes (xs.take (k - 1)) = none := by
  have := numFrom_take xs 5 0 n k h
  exact ⟨by omega, this.2.1, by omega, this.2.2.2⟩

end Go.Proofs.YtcjdhbiiigdmmaaDoor.Pl
