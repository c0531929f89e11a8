/-
  Bits that are turned one by one, plainly.
-/
import Derived.Test.YtmidcmliiofefaaSBur
namespace Go.Proofs.Ytmidcmliiofefaa
open Go.RowKit Pl
set_option linter.unusedVariables false

/-- Behind n bits. -/
structure Bs (ys zs : List Int) (A mask L n : Nat) (ch : Bool) : Prop where
  len : zs.length = L
  by_ : By zs
  bits : ∀ j i, j < L → i < 8 → (bN zs j).testBit i = ((bN ys j).testBit i ^^ dd A mask (8 * L) n (8 * j + i))
  told : ch = true ↔ ∃ p, dd A mask (8 * L) n p = true

theorem Bs.start {ys : List Int} (A mask L : Nat) (hl : ys.length = L) (hb : By ys) : Bs ys ys A mask L 0 false := by
  refine ⟨hl, hb, fun j i _ _ => ?_, ?_⟩
  · rw [dd_out _ _ _ _ _ (by omega)]; simp
  · constructor
    · intro h; cases h
    · rintro ⟨p, hp⟩
      rw [dd_out _ _ _ _ _ (by omega)] at hp
      cases hp

theorem dd_step (A mask N n p : Nat) : dd A mask N (n + 1) p = (dd A mask N n p ^^ (decide (p = A + n ∧ A + n < N) && mask.testBit n)) := by
  unfold dd
  by_cases e : p = A + n
  · subst e
    rw [show A + n - A = n by omega]
    by_cases c : A + n < N
    · simp [c]
    · simp [c]
  · have h1 : (A ≤ p ∧ p < A + (n + 1) ∧ p < N) ↔ (A ≤ p ∧ p < A + n ∧ p < N) := by omega
    simp [h1, e]

/-- No bit is turned. -/
theorem Bs.skip {ys zs : List Int} {A mask L n : Nat} {ch : Bool} (h : Bs ys zs A mask L n ch) (hn : ¬ (mask.testBit n = true ∧ A + n < 8 * L)) : Bs ys zs A mask L (n + 1) ch := by
  have e : ∀ p, dd A mask (8 * L) (n + 1) p = dd A mask (8 * L) n p := fun p => by
    rw [dd_step]
    have : (decide (p = A + n ∧ A + n < 8 * L) && mask.testBit n) = false := by
      rw [Bool.and_eq_false_iff]
      by_cases c : mask.testBit n = true
      · left
        have hh : ¬ A + n < 8 * L := fun h => hn ⟨c, h⟩
        have : ¬ (p = A + n ∧ A + n < 8 * L) := fun h => hh h.2
        simp [this]
      · right; simpa using c
    rw [this]; simp
  refine ⟨h.len, h.by_, fun j i hj hi => ?_, ?_⟩
  · rw [e]; exact h.bits j i hj hi
  · rw [h.told]; simp only [e]

theorem bN_set (zs : List Int) (q y j : Nat) (hq : q < zs.length) : bN (zs.set q (y : Int)) j = if j = q then y else bN zs j := by
  unfold bN
  rw [List.getD_eq_getElem?_getD, List.getD_eq_getElem?_getD, List.getElem?_set]
  by_cases e : q = j
  · subst e; simp [hq]
  · rw [if_neg e, if_neg (fun h => e h.symm)]

/-- One bit is turned. -/
theorem Bs.flip {ys zs : List Int} {A mask L n : Nat} {ch : Bool} (h : Bs ys zs A mask L n ch) (hm : mask.testBit n = true) (hn : A + n < 8 * L) (q r : Nat) (hq : (A + n) / 8 = q) (hr : (A + n) % 8 = r) :
    Bs ys (zs.set q ((bN zs q ^^^ 2 ^ r : Nat) : Int)) A mask L (n + 1) true := by
  have hql : q < L := by omega
  have hr8 : r < 8 := by omega
  have hp : 2 ^ r < 2 ^ 8 := Nat.pow_lt_pow_right (by decide) hr8
  have hlt : bN zs q ^^^ 2 ^ r < 2 ^ 8 := Nat.xor_lt_two_pow (bN_lt h.by_ q) hp
  refine ⟨by rw [List.length_set]; exact h.len, fun i => ?_, fun j i hj hi => ?_, ?_⟩
  · rw [List.getD_eq_getElem?_getD, List.getElem?_set]
    by_cases e : q = i
    · subst e
      rw [if_pos rfl, if_pos (by rw [h.len]; exact hql)]
      simp only [Option.getD_some]
      omega
    · rw [if_neg e, ← List.getD_eq_getElem?_getD]; exact h.by_ i
  · rw [bN_set _ _ _ _ (by rw [h.len]; exact hql), dd_step, hm]
    by_cases e : j = q
    · subst e
      rw [if_pos rfl, Nat.testBit_xor, h.bits j i hj hi, Nat.testBit_two_pow]
      have e2 : decide (8 * j + i = A + n ∧ A + n < 8 * L) = decide (r = i) := by
        by_cases c : r = i
        · have : 8 * j + i = A + n ∧ A + n < 8 * L := by omega
          simp [c, this]
        · have : ¬ (8 * j + i = A + n ∧ A + n < 8 * L) := by omega
          simp [c, this]
      rw [e2]
      simp
    · rw [if_neg e, h.bits j i hj hi]
      have : ¬ (8 * j + i = A + n ∧ A + n < 8 * L) := by omega
      simp [this]
  · simp only [true_iff]
    refine ⟨A + n, ?_⟩
    rw [dd_step, dd_out A mask (8 * L) n (A + n) (by omega)]
    simp [hn, hm]

theorem Bs.said {ys zs : List Int} {A mask L : Nat} {ch : Bool} (h : Bs ys zs A mask L 32 ch) (hl : ys.length = L) (hy : By ys) (hA : A ≤ 8 * L) : (crc zs != crc ys) = ch := by
  subst hl
  have := burst_told ys zs A mask hy h.by_ h.len hA h.bits
  rw [← h.told] at this
  cases ch with
  | true => simpa using this
  | false => simpa using this

/-- The bit of a mask. -/
theorem mask_bit (K n : Nat) (hK : K < 4294967296) (hn : n ≤ 31) : Go.bits .and .u32 ((K : Int) / 2 ^ n) 1 = if K.testBit n then 1 else 0 := by
  have e1 : (K : Int) / 2 ^ n = ((K / 2 ^ n : Nat) : Int) := by rw [Int.natCast_ediv, Int.natCast_pow]; rfl
  rw [e1]
  have := u32_and_nat (K / 2 ^ n) 1 (Nat.lt_of_le_of_lt (Nat.div_le_self _ _) hK) (by decide)
  rw [nat_mask1] at this
  rw [show (1 : Int) = ((1 : Nat) : Int) from rfl, this, Nat.testBit_eq_decide_div_mod_eq]
  by_cases c : K / 2 ^ n % 2 = 1
  · simp [c]
  · have : K / 2 ^ n % 2 = 0 := by omega
    simp [this]
end Go.Proofs.Ytmidcmliiofefaa
