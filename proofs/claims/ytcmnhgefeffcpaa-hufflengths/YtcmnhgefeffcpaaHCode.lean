/-
  The canonical codes: numbers by rising length, of one length by rising byte; each fits its length, none begins another one.
-/
import Derived.Test.YtcmnhgefeffcpaaHMayC
import Derived.Test.YtcmnhgefeffcpaaHTurn
namespace Go.Proofs.Ytcmnhgefeffcpaa
open Go.RowKit Pl
set_option linter.unusedVariables false

/-- How many of the first k have the length s. -/
def cnt (ls : List Int) (s : Nat) : Nat → Nat
  | 0 => 0
  | k + 1 => cnt ls s k + if ls.getD k 0 = (s : Int) then 1 else 0

/-- The number that comes next behind all of at most s bits. -/
def nxE (ls : List Int) : Nat → Nat
  | 0 => 0
  | s + 1 => 2 * nxE ls s + cnt ls (s + 1) ls.length

/-- The number that comes next at the length s + 1, ahead of byte b. -/
abbrev nx (ls : List Int) (s b : Nat) : Nat := 2 * nxE ls s + cnt ls (s + 1) b

/-- The room of those of the first k that have at most s bits. -/
def rmT (ls : List Int) (s : Nat) : Nat → Nat
  | 0 => 0
  | k + 1 => rmT ls s k + if 0 < ls.getD k 0 ∧ ls.getD k 0 ≤ (s : Int) then 2 ^ (11 - (ls.getD k 0).toNat) else 0

theorem rmT_succ (ls : List Int) (s k : Nat) (hs : s + 1 ≤ 11) : rmT ls (s + 1) k = rmT ls s k + cnt ls (s + 1) k * 2 ^ (11 - (s + 1)) := by
  induction k with
  | zero => simp [rmT, cnt]
  | succ k ih =>
    simp only [rmT, cnt, ih]
    by_cases e : ls.getD k 0 = ((s + 1 : Nat) : Int)
    · rw [if_pos ⟨by omega, by omega⟩, if_neg (by omega), if_pos e, e, Int.toNat_natCast, Nat.add_mul, Nat.one_mul]
      omega
    · rw [if_neg e]
      by_cases h : 0 < ls.getD k 0 ∧ ls.getD k 0 ≤ (s : Int)
      · rw [if_pos ⟨h.1, by omega⟩, if_pos h]; simp; omega
      · rw [if_neg (fun x => h ⟨x.1, by have := x.2; omega⟩), if_neg h]; simp

theorem rmT_zero (ls : List Int) (k : Nat) : rmT ls 0 k = 0 := by
  induction k with
  | zero => rfl
  | succ k ih => simp only [rmT, ih]; rw [if_neg (by omega)]

theorem nxE_room (ls : List Int) (s : Nat) (hs : s ≤ 11) : nxE ls s * 2 ^ (11 - s) = rmT ls s ls.length := by
  induction s with
  | zero => simp [nxE, rmT_zero]
  | succ s ih =>
    have h1 := ih (by omega)
    have e : 11 - s = (11 - (s + 1)) + 1 := by omega
    rw [rmT_succ ls s _ hs, ← h1, e, nxE, Nat.add_mul, Nat.pow_succ]
    rw [Nat.mul_comm (2 ^ _) 2, ← Nat.mul_assoc, Nat.mul_comm (nxE ls s) 2]

theorem rmT_room (ls : List Int) (k : Nat) (h : ∀ i, i < k → ls.getD i 0 ≤ 11) : (rmT ls 11 k : Int) = roomTo ls k := by
  induction k with
  | zero => rfl
  | succ k ih =>
    have h1 := h k (by omega)
    simp only [rmT, roomTo]
    rw [← ih (fun i hi => h i (by omega))]
    by_cases e : 0 < ls.getD k 0
    · rw [if_pos ⟨e, by omega⟩, if_pos e]; push_cast; rfl
    · rw [if_neg (fun x => e x.1), if_neg e]; simp

theorem rmT_mono (ls : List Int) (s t k : Nat) (h : s ≤ t) : rmT ls s k ≤ rmT ls t k := by
  induction k with
  | zero => exact Nat.le_refl _
  | succ k ih =>
    simp only [rmT]
    by_cases e : 0 < ls.getD k 0 ∧ ls.getD k 0 ≤ (s : Int)
    · rw [if_pos e, if_pos ⟨e.1, by have := e.2; omega⟩]; omega
    · rw [if_neg e]; omega

theorem cnt_mono (ls : List Int) (s : Nat) {a b : Nat} (h : a ≤ b) : cnt ls s a ≤ cnt ls s b := by
  induction b with
  | zero => obtain rfl : a = 0 := by omega
            exact Nat.le_refl _
  | succ b ih =>
    by_cases e : a = b + 1
    · subst e; exact Nat.le_refl _
    · have := ih (by omega)
      simp only [cnt]
      omega

theorem cnt_lt (ls : List Int) (s : Nat) {a b : Nat} (h : a < b) (he : ls.getD a 0 = (s : Int)) : cnt ls s a + 1 ≤ cnt ls s b := by
  have := cnt_mono ls s (a := a + 1) (b := b) (by omega)
  simp only [cnt] at this
  rw [if_pos he] at this
  exact this

/-- Lengths that have codes. -/
structure LOk (ls : List Int) : Prop where
  most : ls.length ≤ 256
  each : ∀ i, i < ls.length → 0 ≤ ls.getD i 0 ∧ ls.getD i 0 ≤ 11
  room : roomTo ls ls.length ≤ 2048

theorem LOk.of {ls : List Int} (h : mayC ls = true) : LOk ls := by
  unfold mayC at h
  rw [decide_eq_true_eq] at h
  refine ⟨h.1, h.2.1, ?_⟩
  have := h.2.2
  split at this
  · omega
  · omega

theorem LOk.nxE_le {ls : List Int} (h : LOk ls) {s : Nat} (hs : s ≤ 11) : nxE ls s * 2 ^ (11 - s) ≤ 2048 ∧ nxE ls s ≤ 2 ^ s := by
  have h1 := nxE_room ls s hs
  have h2 := rmT_mono ls s 11 ls.length hs
  have h3 := rmT_room ls ls.length (fun i hi => (h.each i hi).2)
  have h4 := h.room
  have h5 : nxE ls s * 2 ^ (11 - s) ≤ 2048 := by omega
  refine ⟨h5, ?_⟩
  have e : (2048 : Nat) = 2 ^ s * 2 ^ (11 - s) := by rw [← Nat.pow_add, show s + (11 - s) = 11 by omega]
  rw [e] at h5
  exact Nat.le_of_mul_le_mul_right h5 (Nat.pow_pos (by decide))

theorem LOk.pow {s : Nat} (hs : s ≤ 11) : 2 ^ s ≤ 2048 := by
  have : 2 ^ s ≤ 2 ^ 11 := Nat.pow_le_pow_right (by decide) hs
  simpa using this

/-- A code fits its length. -/
theorem LOk.fits {ls : List Int} (h : LOk ls) {s b : Nat} (hs : s + 1 ≤ 11) (hb : b < ls.length) (he : ls.getD b 0 = ((s + 1 : Nat) : Int)) : nx ls s b < 2 ^ (s + 1) := by
  have h1 := (h.nxE_le hs).2
  have h2 := cnt_lt ls (s + 1) hb he
  simp only [nxE] at h1
  show 2 * nxE ls s + cnt ls (s + 1) b < _
  omega

theorem nxE_ge (ls : List Int) {s t : Nat} (h : s ≤ t) : 2 ^ (t - s) * nxE ls s ≤ nxE ls t := by
  induction t with
  | zero => obtain rfl : s = 0 := by omega
            simp [nxE]
  | succ t ih =>
    by_cases e : s = t + 1
    · subst e; simp
    · have h1 := ih (by omega)
      rw [show t + 1 - s = (t - s) + 1 by omega, Nat.pow_succ, Nat.mul_comm (2 ^ _) 2, Nat.mul_assoc]
      simp only [nxE]
      omega

/-- A shorter code is no beginning of a longer one. -/
theorem code_apart (ls : List Int) {s t b c : Nat} (hst : s < t) (hb : b < ls.length) (he : ls.getD b 0 = ((s + 1 : Nat) : Int)) : nx ls s b < nx ls t c / 2 ^ (t - s) := by
  rw [Nat.lt_iff_add_one_le, Nat.le_div_iff_mul_le (Nat.pow_pos (by decide))]
  have h1 := cnt_lt ls (s + 1) hb he
  have h2 : nx ls s b + 1 ≤ nxE ls (s + 1) := by simp only [nxE, nx]; omega
  have h3 := nxE_ge ls (show s + 1 ≤ t by omega)
  have h4 : (nx ls s b + 1) * 2 ^ (t - s) ≤ nxE ls (s + 1) * 2 ^ (t - s) := Nat.mul_le_mul_right _ h2
  have e : 2 ^ (t - s) = 2 * 2 ^ (t - (s + 1)) := by rw [show t - s = (t - (s + 1)) + 1 by omega, Nat.pow_succ, Nat.mul_comm]
  have h5 : nxE ls (s + 1) * 2 ^ (t - s) = 2 * (2 ^ (t - (s + 1)) * nxE ls (s + 1)) := by rw [e, Nat.mul_comm, Nat.mul_assoc]
  simp only [nx] at h4 ⊢
  omega

theorem code_ne (ls : List Int) {s b c : Nat} (hbc : b < c) (he : ls.getD b 0 = ((s + 1 : Nat) : Int)) : nx ls s b < nx ls s c := by
  have := cnt_lt ls (s + 1) hbc he
  simp only [nx]
  omega

/-- A byte's code: how many bits, and the number. -/
def cd (ls : List Int) (b : Nat) : Int × Int := if 0 < ls.getD b 0 then (ls.getD b 0, (nx ls ((ls.getD b 0).toNat - 1) b : Int)) else (0, 0)

/-- The codes that are known behind byte b of the length s. -/
def cdT (ls : List Int) (s b : Nat) : List (Int × Int) := (List.range 256).map fun c => if 0 < ls.getD c 0 ∧ (ls.getD c 0 < (s : Int) ∨ (ls.getD c 0 = (s : Int) ∧ c < b)) then cd ls c else (0, 0)
def cdl (ls : List Int) : List (Int × Int) := (List.range 256).map (cd ls)

theorem getD_rngP (f : Nat → Int × Int) (n b : Nat) (h : b < n) : ((List.range n).map f).getD b (0, 0) = f b := by simp [List.getD_eq_getElem?_getD, h]
theorem cdT_length (ls : List Int) (s b : Nat) : (cdT ls s b).length = 256 := by simp [cdT]
theorem cdl_length (ls : List Int) : (cdl ls).length = 256 := by simp [cdl]

theorem listP_eq {xs ys : List (Int × Int)} (hl : xs.length = ys.length) (h : ∀ i, i < xs.length → xs.getD i (0, 0) = ys.getD i (0, 0)) : xs = ys := by
  apply List.ext_getElem hl
  intro i h1 h2
  have := h i h1
  simpa [List.getD_eq_getElem?_getD, h1, h2] using this

theorem getD_repP (n i : Nat) : (List.replicate n ((0 : Int), (0 : Int))).getD i (0, 0) = (0, 0) := by
  simp only [List.getD_eq_getElem?_getD, List.getElem?_replicate]
  split <;> rfl

theorem cdT_start (ls : List Int) : cdT ls 1 0 = List.replicate 256 (0, 0) := by
  refine listP_eq (by rw [cdT_length, List.length_replicate]) (fun i hi => ?_)
  rw [cdT_length] at hi
  unfold cdT
  rw [getD_rngP _ _ i hi, if_neg (by omega), getD_repP]

theorem cdT_next (ls : List Int) (s : Nat) (h : ls.length ≤ 256) : cdT ls s ls.length = cdT ls (s + 1) 0 := by
  refine listP_eq (by simp [cdT]) (fun i hi => ?_)
  rw [cdT_length] at hi
  unfold cdT
  rw [getD_rngP _ _ i hi, getD_rngP _ _ i hi]
  by_cases hil : i < ls.length
  · by_cases e : 0 < ls.getD i 0 ∧ (ls.getD i 0 < (s : Int) ∨ (ls.getD i 0 = (s : Int) ∧ i < ls.length))
    · rw [if_pos e, if_pos ⟨e.1, by have := e.2; omega⟩]
    · rw [if_neg e, if_neg (fun x => e ⟨x.1, by have := x.2; omega⟩)]
  · have hz : ls.getD i 0 = 0 := by simp [List.getD_eq_getElem?_getD, List.getElem?_eq_none (by omega : ls.length ≤ i)]
    rw [if_neg (by omega), if_neg (by omega)]

theorem cdT_hit (ls : List Int) (s b : Nat) (hb : b < 256) (he : ls.getD b 0 = ((s + 1 : Nat) : Int)) : cdT ls (s + 1) (b + 1) = (cdT ls (s + 1) b).set b (((s + 1 : Nat) : Int), (nx ls s b : Int)) := by
  refine listP_eq (by simp [cdT]) (fun i hi => ?_)
  rw [cdT_length] at hi
  have e2 : ((cdT ls (s + 1) b).set b (((s + 1 : Nat) : Int), (nx ls s b : Int))).getD i (0, 0) = if i = b then (((s + 1 : Nat) : Int), (nx ls s b : Int)) else (cdT ls (s + 1) b).getD i (0, 0) := by
    simp only [List.getD_eq_getElem?_getD, List.getElem?_set, cdT_length]
    by_cases e : b = i
    · subst e; simp [hb]
    · rw [if_neg e, if_neg (fun x => e x.symm)]
  rw [e2]
  unfold cdT
  rw [getD_rngP _ _ i hi, getD_rngP _ _ i hi]
  by_cases e : i = b
  · subst e
    rw [if_pos ⟨by omega, .inr ⟨he, by omega⟩⟩, if_pos rfl]
    unfold cd
    rw [if_pos (by omega), he, Int.toNat_natCast]
    rfl
  · rw [if_neg e]
    by_cases h : 0 < ls.getD i 0 ∧ (ls.getD i 0 < ((s + 1 : Nat) : Int) ∨ (ls.getD i 0 = ((s + 1 : Nat) : Int) ∧ i < b))
    · rw [if_pos h, if_pos ⟨h.1, by have := h.2; omega⟩]
    · rw [if_neg h, if_neg (fun x => h ⟨x.1, by have := x.2; omega⟩)]

theorem cdT_miss (ls : List Int) (s b : Nat) (he : ls.getD b 0 ≠ (s : Int)) : cdT ls s (b + 1) = cdT ls s b := by
  refine listP_eq (by simp [cdT]) (fun i hi => ?_)
  rw [cdT_length] at hi
  unfold cdT
  rw [getD_rngP _ _ i hi, getD_rngP _ _ i hi]
  by_cases h : 0 < ls.getD i 0 ∧ (ls.getD i 0 < (s : Int) ∨ (ls.getD i 0 = (s : Int) ∧ i < b))
  · rw [if_pos h, if_pos ⟨h.1, by have := h.2; omega⟩]
  · rw [if_neg h, if_neg]
    rintro ⟨h1, h2⟩
    apply h
    refine ⟨h1, ?_⟩
    rcases h2 with h2 | ⟨h2, h3⟩
    · exact .inl h2
    · by_cases e : i = b
      · subst e; exact absurd h2 he
      · exact .inr ⟨h2, by omega⟩

theorem cdT_end {ls : List Int} (h : LOk ls) : cdT ls 12 0 = cdl ls := by
  refine listP_eq (by simp [cdT, cdl]) (fun i hi => ?_)
  rw [cdT_length] at hi
  unfold cdT cdl
  rw [getD_rngP _ _ i hi, getD_rngP _ _ i hi]
  by_cases e : 0 < ls.getD i 0
  · have : ls.getD i 0 ≤ 11 := by
      by_cases hil : i < ls.length
      · exact (h.each i hil).2
      · simp [List.getD_eq_getElem?_getD, List.getElem?_eq_none (by omega : ls.length ≤ i)]
    rw [if_pos ⟨e, .inl (by omega)⟩]
  · rw [if_neg (fun x => e x.1)]
    unfold cd
    rw [if_neg e]
end Go.Proofs.Ytcmnhgefeffcpaa
