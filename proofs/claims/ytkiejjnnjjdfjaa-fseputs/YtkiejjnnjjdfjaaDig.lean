/-
  Plain facts on short numbers that are written: their bytes, that they are read again, that greater ones have no fewer.
-/
import Derived.Test.YtkiejjnnjjdfjaaPlain
namespace Go.Proofs.Ytkiejjnnjjdfjaa.Pl

/-- The bytes of a short number, at most f + 1 of them. -/
def dig : Nat → Int → List Int
  | 0, n => [n]
  | f + 1, n => if 128 ≤ n then (n % 128 + 128) :: dig f (n / 128) else [n]

def digits (n : Int) : List Int := dig 4 n

theorem dig_len (f : Nat) (n : Int) : 1 ≤ (dig f n).length ∧ (dig f n).length ≤ f + 1 := by
  induction f generalizing n with
  | zero => simp [dig]
  | succ f ih =>
    simp only [dig]
    split
    · have := ih (n / 128)
      simp only [List.length_cons]
      omega
    · simp

theorem digits_len (n : Int) : 1 ≤ (digits n).length ∧ (digits n).length ≤ 5 := dig_len 4 n

theorem dig_mono (f : Nat) (a b : Int) (h : a ≤ b) : (dig f a).length ≤ (dig f b).length := by
  induction f generalizing a b with
  | zero => simp [dig]
  | succ f ih =>
    simp only [dig]
    by_cases ha : 128 ≤ a
    · rw [if_pos ha, if_pos (by omega)]
      have := ih (a / 128) (b / 128) (by omega)
      simp only [List.length_cons]
      omega
    · rw [if_neg ha]
      split <;> simp

theorem getD_mid (a : List Int) (x : Int) (c : List Int) : (a ++ x :: c).getD a.length 0 = x := by
  simp [List.getD_eq_getElem?_getD]

/-- What is written is read again. -/
theorem num_dig (f : Nat) (pre : List Int) (m n : Int) (behind : List Int) (h5 : pre.length + f = 4) (hm : 0 ≤ m) (hm1 : m < 128 ^ (f + 1)) (hk : 0 < pre.length → 0 < m)
    (hn : numAt (pre ++ dig f m ++ behind) pre.length + m * 128 ^ pre.length = n) (hn1 : n ≤ 4294967295) :
    numFrom (pre ++ dig f m ++ behind) (5 - pre.length) pre.length = some (n, pre.length + (dig f m).length) := by
  induction f generalizing pre m with
  | zero =>
    simp only [dig, List.append_assoc, List.singleton_append] at hn ⊢
    have hx := getD_mid pre m behind
    have hl : pre.length < (pre ++ m :: behind).length := by simp
    have hm2 : m < 128 := by simpa using hm1
    have hA : numAt (pre ++ m :: behind) (pre.length + 1) = n := by
      simp only [numAt, hx]
      rw [Int.emod_eq_of_lt hm (by omega)]
      exact hn
    have e : 5 - pre.length = 0 + 1 := by omega
    rw [e]
    simp only [numFrom]
    rw [if_pos hl, hx, if_neg (by omega), hA, if_neg (by omega)]
    simp
  | succ f ih =>
    have e : 5 - pre.length = (5 - (pre.length + 1)) + 1 := by omega
    by_cases h128 : 128 ≤ m
    · have ed : dig (f + 1) m = (m % 128 + 128) :: dig f (m / 128) := by simp only [dig]; rw [if_pos h128]
      rw [ed] at hn ⊢
      have el : pre ++ (m % 128 + 128) :: dig f (m / 128) ++ behind = (pre ++ [m % 128 + 128]) ++ dig f (m / 128) ++ behind := by simp
      have hx : (pre ++ (m % 128 + 128) :: dig f (m / 128) ++ behind).getD pre.length 0 = m % 128 + 128 := by
        rw [List.append_assoc]; exact getD_mid pre _ _
      have hl : pre.length < (pre ++ (m % 128 + 128) :: dig f (m / 128) ++ behind).length := by simp
      rw [e]
      simp only [numFrom]
      rw [if_pos hl, hx, if_pos (by omega)]
      have hA : numAt (pre ++ (m % 128 + 128) :: dig f (m / 128) ++ behind) (pre.length + 1) + (m / 128) * 128 ^ (pre.length + 1) = n := by
        simp only [numAt, hx]
        rw [← hn, Int.pow_succ]
        generalize (128 : Int) ^ pre.length = p
        have e1 : (m % 128 + 128) % 128 = m % 128 := by omega
        rw [e1, Int.add_assoc]
        congr 1
        have e2 : m = m % 128 + m / 128 * 128 := by omega
        have e3 : m / 128 * (p * 128) = m / 128 * 128 * p := by rw [Int.mul_comm p 128, Int.mul_assoc]
        rw [e3, ← Int.add_mul]
        rw [← e2]
      have hp : (128 : Int) ^ (f + 1 + 1) = 128 ^ (f + 1) * 128 := Int.pow_succ _ _
      have r := ih (pre ++ [m % 128 + 128]) (m / 128) (by simp; omega) (by omega) (by omega) (fun _ => by omega) (by rw [el] at hA; simpa using hA)
      rw [el]
      simp only [List.length_append, List.length_cons, List.length_nil] at r ⊢
      simp only [List.append_assoc] at r ⊢
      rw [r]
      simp
      omega
    · have ed : dig (f + 1) m = [m] := by simp only [dig]; rw [if_neg h128]
      rw [ed] at hn ⊢
      simp only [List.append_assoc, List.singleton_append] at hn ⊢
      have hx := getD_mid pre m behind
      have hl : pre.length < (pre ++ m :: behind).length := by simp
      have hA : numAt (pre ++ m :: behind) (pre.length + 1) = n := by
        simp only [numAt, hx]
        rw [Int.emod_eq_of_lt hm (by omega)]
        exact hn
      rw [e]
      simp only [numFrom]
      rw [if_pos hl, hx, if_neg (by omega), hA, if_neg (by omega)]
      simp

theorem num_digits (n : Int) (behind : List Int) (h0 : 0 ≤ n) (h1 : n ≤ 4294967295) : numRes (digits n ++ behind) = some (n, (digits n).length) := by
  have := num_dig 4 [] n n behind rfl h0 (by have : (128 : Int) ^ (4 + 1) = 34359738368 := by decide
                                             omega) (by simp) (by simp [numAt]) h1
  simpa [numRes, digits] using this

theorem dig_by (f : Nat) (n : Int) (h0 : 0 ≤ n) (h1 : n < 128 ^ (f + 1)) : ∀ x ∈ dig f n, 0 ≤ x ∧ x ≤ 255 := by
  induction f generalizing n with
  | zero =>
    intro x hx
    simp only [dig, List.mem_singleton] at hx
    subst hx
    simp at h1
    omega
  | succ f ih =>
    intro x hx
    have hp : (128 : Int) ^ (f + 1 + 1) = 128 ^ (f + 1) * 128 := Int.pow_succ _ _
    simp only [dig] at hx
    split at hx
    · simp only [List.mem_cons] at hx
      rcases hx with rfl | hx
      · omega
      · exact ih (n / 128) (by omega) (by omega) x hx
    · simp only [List.mem_singleton] at hx
      subst hx
      omega

end Go.Proofs.Ytkiejjnnjjdfjaa.Pl
