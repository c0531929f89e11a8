import Derived.KernelRfl
set_option maxRecDepth 100000
set_option linter.unusedVariables false
set_option linter.unusedSimpArgs false
set_option maxHeartbeats 8000000
namespace Go.Proofs.YtobenjkacpipeaaGreat.Pl
def numAt (xs : List Int) : Nat -> Int
 | 0 => 0
 | k + 1 => numAt xs k + (xs.getD k 0 % 128) * 128 ^ k
def zy9 (xs : List Int) : Nat -> Nat -> Option (Int × Nat)
 | 0, _ => none
 | f + 1, k => if k < xs.length then
   (if 128 <= xs.getD k 0 then zy9 xs f (k + 1)
    else if 4294967295 < numAt xs (k + 1) ∨ (0 < k /\ xs.getD k 0 = 0) then none else some (numAt xs (k + 1), k + 1))
  else none
def numRes (xs : List Int) : Option (Int × Nat) := zy9 xs 5 0
def resN (r : Option (Int × Nat)) : Int := match r with | some p => p.1 | none => 0
def resK (r : Option (Int × Nat)) : Int := match r with | some p => p.2 | none => 0
def resE (r : Option (Int × Nat)) : Int := match r with | some _ => 0 | none => 3
theorem zop9 (xs : List Int) (hx : ∀ i, 0 <= xs.getD i 0 /\ xs.getD i 0 <= 255) (k : Nat) : 0 <= numAt xs k /\ numAt xs k < 128 ^ k := by
 induction k with
 | zero => simp [numAt]
 | succ k ih =>
  have h := hx k
  have hp : (0 : Int) < 128 ^ k := Int.pow_pos (by decide)
  have h0 : 0 <= xs.getD k 0 % 128 := by omega
  have h1 : xs.getD k 0 % 128 <= 127 := by omega
  simp only [numAt, Int.pow_succ]
  generalize xs.getD k 0 % 128 = y at *
  generalize (128 : Int) ^ k = p at *
  have a := Int.mul_nonneg h0 (Int.le_of_lt hp)
  have b := Int.mul_le_mul_of_nonneg_right h1 (Int.le_of_lt hp)
  constructor
  ·omega
  ·omega
theorem zez9 (n x : Nat) (j : Nat) (h : n < 2 ^ j) : n ||| (x * 2 ^ j) = n + x * 2 ^ j := by
 rw [Nat.or_comm, Nat.mul_comm, <- Nat.two_pow_add_eq_or_of_lt h, Nat.add_comm]
theorem zjc9 {xs : List Int} {k : Nat} {R : Option (Int × Nat)} (h5 : k < 5) (hl : k < xs.length) (hx : 128 <= xs.getD k 0) (h : zy9 xs (5 - k) k = R) : zy9 xs (5 - (k + 1)) (k + 1) = R := by
 have e : 5 - k = (5 - (k + 1)) + 1 := by omega
 rw [e] at h
 simp only [zy9] at h
 rw [if_pos hl, if_pos hx] at h
 exact h
theorem zmu9 {xs : List Int} {k : Nat} {R : Option (Int × Nat)} (h5 : k < 5) (hl : k < xs.length) (hx : ¬ 128 <= xs.getD k 0)
  (hb : 4294967295 < numAt xs (k + 1) ∨ (0 < k /\ xs.getD k 0 = 0)) (h : zy9 xs (5 - k) k = R) : R = none := by
 have e : 5 - k = (5 - (k + 1)) + 1 := by omega
 rw [e] at h
 simp only [zy9] at h
 rw [if_pos hl, if_neg hx, if_pos hb] at h
 exact h.symm
theorem zji9 {xs : List Int} {k : Nat} {R : Option (Int × Nat)} (h5 : k < 5) (hl : k < xs.length) (hx : ¬ 128 <= xs.getD k 0)
  (hb : ¬ (4294967295 < numAt xs (k + 1) ∨ (0 < k /\ xs.getD k 0 = 0))) (h : zy9 xs (5 - k) k = R) : R = some (numAt xs (k + 1), k + 1) := by
 have e : 5 - k = (5 - (k + 1)) + 1 := by omega
 rw [e] at h
 simp only [zy9] at h
 rw [if_pos hl, if_neg hx, if_neg hb] at h
 exact h.symm
theorem zms9 {xs : List Int} {k : Nat} {R : Option (Int × Nat)} (hn : ¬ (k < xs.length /\ k < 5)) (hk : k <= 5) (h : zy9 xs (5 - k) k = R) : R = none := by
 by_cases h5 : k < 5
 ·have e : 5 - k = (5 - (k + 1)) + 1 := by omega
  rw [e] at h
  simp only [zy9] at h
  rw [if_neg (by omega)] at h
  exact h.symm
 ·have e : 5 - k = 0 := by omega
  rw [e] at h
  simp only [zy9] at h
  exact h.symm
theorem zpx9 (k : Nat) (h : k < 5) : (128 : Int) ^ k <= 268435456 := by
 have h : k = 0 ∨ k = 1 ∨ k = 2 ∨ k = 3 ∨ k = 4 := by omega
 rcases h with rfl | rfl | rfl | rfl | rfl <;> decide
theorem zzd9 (k : Nat) : (128 : Int) ^ k = 2 ^ (7 * k) := by
 rw [Int.pow_mul]; rfl
def bv (f : Nat -> Int) : Nat -> Int
 | 0 => 0
 | n + 1 => bv f n + f n * 2 ^ n
def val (bs : List Int) (p n : Nat) : Int := bv (fun i => bs.getD (p + i) 0) n
def pack (bs : List Int) : List Int := (List.range ((bs.length + 7) / 8)).map fun j => val bs (8 * j) 8
def Bits (bs : List Int) : Prop := ∀ i, bs.getD i 0 = 0 ∨ bs.getD i 0 = 1
theorem zqs9 (f g : Nat -> Int) (n : Nat) (h : ∀ i, i < n -> f i = g i) : bv f n = bv g n := by
 induction n with
 | zero => rfl
 | succ n ih => simp only [bv]; rw [ih (fun i hi => h i (by omega)), h n (by omega)]
theorem bv_add (f : Nat -> Int) (q : Nat) (c : Int) (n : Nat) : bv (fun i => f i + if i = q then c else 0) n = bv f n + if q < n then c * 2 ^ q else 0 := by
 induction n with
 | zero => simp [bv]
 | succ n ih =>
  simp only [bv, ih]
  by_cases h : n = q
  ·subst h
   rw [if_neg (Nat.lt_irrefl n), if_pos rfl, if_pos (Nat.lt_succ_self n), Int.add_mul]
   omega
  ·rw [if_neg h]
   by_cases h2 : q < n
   ·rw [if_pos h2, if_pos (by omega), Int.add_mul]
    omega
   ·rw [if_neg h2, if_neg (by omega), Int.add_mul]
    omega
theorem bv_cut (f : Nat -> Int) (r n : Nat) (hr : r <= n) (h : ∀ i, r <= i -> i < n -> f i = 0) : bv f n = bv f r := by
 induction n with
 | zero => have : r = 0 := by omega
           subst this; rfl
 | succ n ih =>
  by_cases e : r = n + 1
  ·subst e; rfl
  ·simp only [bv]
   rw [ih (by omega) (fun i h1 h2 => h i h1 (by omega)), h n (by omega) (by omega)]
   simp
theorem bv_bd (f : Nat -> Int) (h : ∀ i, f i = 0 ∨ f i = 1) (n : Nat) : 0 <= bv f n /\ bv f n < 2 ^ n := by
 induction n with
 | zero => simp [bv]
 | succ n ih =>
  simp only [bv, Int.pow_succ]
  have hp : (0 : Int) < 2 ^ n := Int.pow_pos (by decide)
  rcases h n with e | e <;> rw [e] <;> constructor <;> omega
theorem val_bd {bs : List Int} (h : Bits bs) (p n : Nat) : 0 <= val bs p n /\ val bs p n < 2 ^ n := bv_bd _ (fun i => h (p + i)) n
theorem zbr9 (bs : List Int) (c : Int) (i : Nat) : (bs ++ [c]).getD i 0 = bs.getD i 0 + if i = bs.length then c else 0 := by
 simp only [List.getD_eq_getElem?_getD, List.getElem?_append]
 by_cases h : i < bs.length
 ·rw [if_pos h, if_neg (by omega)]; simp
 ·rw [if_neg h]
  by_cases e : i = bs.length
  ·subst e; simp
  ·rw [if_neg e]
   have : bs[i]? = none := List.getElem?_eq_none (by omega)
   rw [this]
   have : [c][i - bs.length]? = none := List.getElem?_eq_none (by simp; omega)
   rw [this]; rfl
theorem Bits.snoc {bs : List Int} (h : Bits bs) {c : Int} (hc : c = 0 ∨ c = 1) : Bits (bs ++ [c]) := by
 intro i
 rw [zbr9]
 by_cases e : i = bs.length
 ·rw [if_pos e]
  have : bs.getD i 0 = 0 := by subst e; simp
  rw [this]; simpa using hc
 ·rw [if_neg e]; simpa using h i
theorem Bits.nil : Bits [] := fun i => by simp
theorem zoq9 (bs : List Int) (c : Int) (p n : Nat) : val (bs ++ [c]) p n = val bs p n + if p <= bs.length /\ bs.length < p + n then c * 2 ^ (bs.length - p) else 0 := by
 unfold val
 by_cases h : p <= bs.length
 ·rw [zqs9 _ (fun i => bs.getD (p + i) 0 + if i = bs.length - p then c else 0) n (fun i _ => by
   rw [zbr9]; congr 1
   by_cases e : p + i = bs.length
   ·rw [if_pos e, if_pos (by omega)]
   ·rw [if_neg e, if_neg (by omega)]), bv_add (fun i => bs.getD (p + i) 0)]
  congr 1
  by_cases e : bs.length < p + n
  ·rw [if_pos (by omega), if_pos ⟨h, e⟩]
  ·rw [if_neg (by omega), if_neg (by omega)]
 ·rw [if_neg (by omega), Int.add_zero]
  exact zqs9 _ _ n (fun i _ => by rw [zbr9, if_neg (by omega), Int.add_zero])
theorem zwn9 (bs : List Int) (p n : Nat) (h : bs.length <= p) : val bs p n = 0 := by
 unfold val
 rw [bv_cut _ 0 n (by omega) (fun i _ _ => by simp [List.getD_eq_getElem?_getD, List.getElem?_eq_none (show bs.length <= p + i by omega)])]
 rfl
theorem zum9 (bs : List Int) (p n r : Nat) (hr : r <= n) (h : bs.length <= p + r) : val bs p n = val bs p r := by
 unfold val
 exact bv_cut _ r n hr (fun i h1 _ => by simp [List.getD_eq_getElem?_getD, List.getElem?_eq_none (show bs.length <= p + i by omega)])
theorem zc9 (bs : List Int) : (pack bs).length = (bs.length + 7) / 8 := by simp [pack]
theorem zbb9 (bs : List Int) (j : Nat) : (pack bs).getD j 0 = val bs (8 * j) 8 := by
 by_cases h : j < (bs.length + 7) / 8
 ·simp [pack, List.getD_eq_getElem?_getD, h]
 ·rw [zwn9 _ _ _ (by omega)]
  simp [pack, List.getD_eq_getElem?_getD, h]
theorem zaao9 {bs : List Int} (h : Bits bs) (i : Nat) : 0 <= (pack bs).getD i 0 /\ (pack bs).getD i 0 <= 255 := by
 rw [zbb9]
 have := val_bd h (8 * i) 8
 have e : (2 : Int) ^ 8 = 256 := by decide
 omega
theorem zg9 {xs ys : List Int} (hl : xs.length = ys.length) (h : ∀ i, i < xs.length -> xs.getD i 0 = ys.getD i 0) : xs = ys := by
 refine List.ext_getElem hl fun i h1 h2 => ?_
 have := h i h1
 simpa [List.getD_eq_getElem?_getD, h1, h2] using this
theorem zhm9 (bs : List Int) (c : Int) (h : bs.length % 8 = 0) : pack (bs ++ [c]) = pack bs ++ [c] := by
 refine zg9 (by simp [zc9]; omega) fun i hi => ?_
 rw [zbb9, zoq9, zbr9, zbb9, zc9]
 simp only [zc9, List.length_append, List.length_cons, List.length_nil] at hi
 congr 1
 by_cases e : i = (bs.length + 7) / 8
 ·rw [if_pos (by omega), if_pos e]
  have : bs.length - 8 * i = 0 := by omega
  rw [this]; simp
 ·rw [if_neg (by omega), if_neg e]
theorem zhz9 (bs : List Int) (c : Int) (h : bs.length % 8 ≠ 0) :
  pack (bs ++ [c]) = (pack bs).set (bs.length / 8) ((pack bs).getD (bs.length / 8) 0 + c * 2 ^ (bs.length % 8)) := by
 refine zg9 (by simp [zc9]; omega) fun i hi => ?_
 rw [zbb9, zoq9]
 simp only [zc9, List.length_append, List.length_cons, List.length_nil] at hi
 by_cases e : bs.length / 8 = i
 ·subst e
  rw [if_pos (by omega)]
  have e2 : bs.length - 8 * (bs.length / 8) = bs.length % 8 := by omega
  rw [e2]
  have hlt : bs.length / 8 < (pack bs).length := by rw [zc9]; omega
  simp only [List.getD_eq_getElem?_getD, List.getElem?_set_self hlt, Option.getD_some]
  rw [<- List.getD_eq_getElem?_getD, zbb9]
 ·rw [if_neg (by omega), Int.add_zero, <- zbb9]
  simp only [List.getD_eq_getElem?_getD, List.getElem?_set_ne e]
theorem zjt9 {bs : List Int} (h : Bits bs) : (pack bs).getD (bs.length / 8) 0 < 2 ^ (bs.length % 8) := by
 rw [zbb9, zum9 bs _ 8 (bs.length % 8) (by omega) (by omega)]
 exact (val_bd h _ _).2
def bitsOf (v : Int) : Nat -> List Int
 | 0 => []
 | n + 1 => bitsOf v n ++ [v / 2 ^ n % 2]
theorem za9 (v : Int) (n : Nat) : (bitsOf v n).length = n := by
 induction n with
 | zero => rfl
 | succ n ih => simp [bitsOf, ih]
theorem bit_of (v : Int) (k : Nat) : v / 2 ^ k % 2 = 0 ∨ v / 2 ^ k % 2 = 1 := by omega
theorem zs9 {n m : Nat} (h : n <= m) : (2 : Int) ^ n <= 2 ^ m := by
 have := Nat.pow_le_pow_right (n := 2) (by decide) h
 exact_mod_cast this
theorem ztw9 (v : Nat) : v &&& 1 = v % 2 := by simp
theorem zjo9 (xs : List Int) (f k0 : Nat) (n : Int) (k : Nat) (h : zy9 xs f k0 = some (n, k)) : k0 < k /\ k <= xs.length /\ k <= k0 + f /\ zy9 (xs.take (k - 1)) f k0 = none := by
 induction f generalizing k0 with
 | zero => simp [zy9] at h
 | succ f ih =>
  simp only [zy9] at h
  by_cases hl : k0 < xs.length
  ·rw [if_pos hl] at h
   by_cases hx : 128 <= xs.getD k0 0
   ·rw [if_pos hx] at h
    obtain ⟨a, b, c, d⟩ := ih (k0 + 1) h
    refine ⟨by omega, b, by omega, ?_⟩
    simp only [zy9]
    rw [if_pos (by rw [List.length_take]; omega), if_pos (by rw [List.getD_eq_getElem?_getD, List.getElem?_take, if_pos (by omega), <- List.getD_eq_getElem?_getD]; exact hx)]
    exact d
   ·rw [if_neg hx] at h
    split at h
    ·cases h
    ·simp only [Option.some.injEq, Prod.mk.injEq] at h
     obtain ⟨_, rfl⟩ := h
     refine ⟨by omega, by omega, by omega, ?_⟩
     simp only [zy9]
     rw [if_neg (by rw [List.length_take]; omega)]
  ·rw [if_neg hl] at h
   cases h
theorem zbl9 {xs : List Int} {n : Int} {k : Nat} (h : numRes xs = some (n, k)) : 1 <= k /\ k <= xs.length /\ k <= 5 /\ numRes (xs.take (k - 1)) = none := by
 have := zjo9 xs 5 0 n k h
 exact ⟨by omega, this.2.1, by omega, this.2.2.2⟩
def unpack : List Int -> List Int
 | [] => []
 | y :: ys => bitsOf y 8 ++ unpack ys
theorem zbk9 (v : Int) (n i : Nat) : (bitsOf v n).getD i 0 = if i < n then v / 2 ^ i % 2 else 0 := by
 induction n with
 | zero => simp [bitsOf]
 | succ n ih =>
  rw [bitsOf, zbr9, ih, za9]
  by_cases h : i < n
  ·rw [if_pos h, if_neg (by omega), if_pos (by omega), Int.add_zero]
  ·rw [if_neg h]
   by_cases e : i = n
   ·subst e; rw [if_pos rfl, if_pos (by omega), Int.zero_add]
   ·rw [if_neg e, if_neg (by omega), Int.zero_add]
theorem zal9 (a b : List Int) (i : Nat) : (a ++ b).getD i 0 = if i < a.length then a.getD i 0 else b.getD (i - a.length) 0 := by
 rw [List.getD_eq_getElem?_getD, List.getElem?_append]
 split <;> rw [List.getD_eq_getElem?_getD]
theorem zcg9 (ys : List Int) (p : Nat) : (unpack ys).getD p 0 = ys.getD (p / 8) 0 / 2 ^ (p % 8) % 2 := by
 induction ys generalizing p with
 | nil => simp [unpack]
 | cons y ys ih =>
  rw [unpack, zal9, za9, zbk9]
  by_cases h : p < 8
  ·rw [if_pos h, if_pos h]
   have e1 : p / 8 = 0 := by omega
   have e2 : p % 8 = p := by omega
   rw [e1, e2]; rfl
  ·rw [if_neg h, ih]
   have e1 : p / 8 = (p - 8) / 8 + 1 := by omega
   have e2 : p % 8 = (p - 8) % 8 := by omega
   rw [e1, <- e2]; rfl
theorem zt9 (ys : List Int) : Bits (unpack ys) := by
 intro i
 rw [zcg9]
 omega
def tkE (left : Nat) (n : Int) : Int := if n < 0 ∨ 32 < n then 1 else if (left : Int) < n then 3 else 0
def tkN (left : Nat) (n : Int) : Nat := if n < 0 ∨ 32 < n then 0 else if (left : Int) < n then 0 else n.toNat
def tkV (bs : List Int) (left : Nat) (p : Nat) (n : Int) : Int := if n < 0 ∨ 32 < n then 0 else if (left : Int) < n then 0 else val bs p n.toNat
def dig : Nat -> Int -> List Int
 | 0, n => [n]
 | f + 1, n => if 128 <= n then (n % 128 + 128) :: dig f (n / 128) else [n]
def digits (n : Int) : List Int := dig 4 n
theorem zzk9 (f : Nat) (n : Int) : 1 <= (dig f n).length /\ (dig f n).length <= f + 1 := by
 induction f generalizing n with
 | zero => simp [dig]
 | succ f ih =>
  simp only [dig]
  split
  ·have := ih (n / 128)
   simp only [List.length_cons]
   omega
  ·simp
theorem ze9 (n : Int) : 1 <= (digits n).length /\ (digits n).length <= 5 := zzk9 4 n
theorem zabe9 (a : List Int) (x : Int) (c : List Int) : (a ++ x :: c).getD a.length 0 = x := by
 simp [List.getD_eq_getElem?_getD]
end Go.Proofs.YtobenjkacpipeaaGreat.Pl
