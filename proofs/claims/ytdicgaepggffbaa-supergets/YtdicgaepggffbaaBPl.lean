/-
  Blocks, plainly: the bytes of a sector, what it tells, and that a change within 32 bits side by side is told.
-/
import Derived.Test.YtdicgaepggffbaaSBur
namespace Go.Proofs.Ytdicgaepggffbaa
open Go.RowKit Pl
set_option linter.unusedVariables false

/-- The four bytes of a sum, the lowest first. -/
def le4 (s : Nat) : List Int := [((s % 256 : Nat) : Int), ((s / 256 % 256 : Nat) : Int), ((s / 65536 % 256 : Nat) : Int), ((s / 16777216 % 256 : Nat) : Int)]
/-- A sector with the sum that its other bytes have. -/
def smd (xs : List Int) : List Int := xs.take 252 ++ le4 (crc (xs.take 252))
/-- What stands ahead of the sum. -/
def pre (n k : Int) (ys : List Int) : List Int := [k, (ys.length : Int), n % 256, n / 256, 0, 0, 0, 0] ++ (ys ++ List.replicate (244 - ys.length) 0)
/-- A block's sector. -/
def sec (n k : Int) (ys : List Int) : List Int := pre n k ys ++ le4 (crc (pre n k ys))
/-- May it be? -/
def mayK (n k : Int) (l : Nat) : Bool := decide (0 ≤ n ∧ n ≤ 65535 ∧ 1 ≤ k ∧ k ≤ 4 ∧ l ≤ 240)
/-- The body that a sector tells. -/
def bdy (xs : List Int) : List Int := (xs.drop 8).take (min (bN xs 1) 244)
/-- What is told of a sector: the error's number. -/
def getE (n : Int) (xs : List Int) : Int :=
  if xs.length ≠ 256 then 1 else if xs ≠ smd xs then 6 else if mayK n (xs.getD 0 0) (bdy xs).length = true ∧ xs = sec n (xs.getD 0 0) (bdy xs) then 0 else 7
/-- The kind and the body. -/
def getB (n : Int) (xs : List Int) : Int × List Int := if getE n xs = 0 then (xs.getD 0 0, bdy xs) else (0, [])

theorem le4_len (s : Nat) : (le4 s).length = 4 := rfl
theorem by_of_memB {xs : List Int} (h : ∀ x ∈ xs, 0 ≤ x ∧ x ≤ 255) : By xs := fun i => by
  rw [List.getD_eq_getElem?_getD]
  cases e : xs[i]? with
  | none => simp
  | some n => exact h n (List.mem_of_getElem? e)
theorem mem_of_by {xs : List Int} (h : By xs) : ∀ x ∈ xs, 0 ≤ x ∧ x ≤ 255 := fun x hx => by
  obtain ⟨i, hi, rfl⟩ := List.getElem_of_mem hx
  have := h i
  rw [List.getD_eq_getElem?_getD, List.getElem?_eq_getElem hi] at this
  exact this
theorem By.appendB {xs ys : List Int} (h : By xs) (k : By ys) : By (xs ++ ys) := by_of_memB fun x hx => by
  rcases List.mem_append.1 hx with e | e
  · exact mem_of_by h x e
  · exact mem_of_by k x e
theorem By.dropB {xs : List Int} (h : By xs) (m : Nat) : By (xs.drop m) := by_of_memB fun x hx => mem_of_by h x (List.mem_of_mem_drop hx)
theorem le4_by (s : Nat) : By (le4 s) := by_of_memB fun x hx => by
  simp only [le4, List.mem_cons, List.not_mem_nil, or_false] at hx
  rcases hx with rfl | rfl | rfl | rfl <;> omega
theorem smd_len {xs : List Int} (h : xs.length = 256) : (smd xs).length = 256 := by simp only [smd, List.length_append, List.length_take, le4_len]; omega
theorem smd_by {xs : List Int} (h : By xs) : By (smd xs) := (h.take 252).appendB (le4_by _)
theorem smd_take {xs : List Int} (h : xs.length = 256) : (smd xs).take 252 = xs.take 252 := by
  unfold smd
  rw [List.take_append_of_le_length (by rw [List.length_take]; omega), List.take_take]
  rfl
theorem smd_idem {xs : List Int} (h : xs.length = 256) : smd (smd xs) = smd xs := by
  show (smd xs).take 252 ++ le4 (crc ((smd xs).take 252)) = _
  rw [smd_take h]
  rfl
theorem pre_len (n k : Int) {ys : List Int} (h : ys.length ≤ 244) : (pre n k ys).length = 252 := by
  simp only [pre, List.length_append, List.length_cons, List.length_nil, List.length_replicate]; omega
theorem sec_len (n k : Int) {ys : List Int} (h : ys.length ≤ 244) : (sec n k ys).length = 256 := by
  simp only [sec, List.length_append, pre_len n k h, le4_len]
theorem sec_take (n k : Int) {ys : List Int} (h : ys.length ≤ 244) : (sec n k ys).take 252 = pre n k ys := by
  unfold sec
  rw [List.take_append_of_le_length (by rw [pre_len n k h]; exact Nat.le_refl _), List.take_of_length_le (by rw [pre_len n k h]; exact Nat.le_refl _)]
theorem sec_smd (n k : Int) {ys : List Int} (h : ys.length ≤ 244) : smd (sec n k ys) = sec n k ys := by
  unfold smd
  rw [sec_take n k h]
  rfl
theorem smd_pre (n k : Int) {ys zs : List Int} (h : ys.length ≤ 244) : smd (pre n k ys ++ zs) = sec n k ys := by
  unfold smd
  rw [List.take_append_of_le_length (by rw [pre_len n k h]; exact Nat.le_refl _), List.take_of_length_le (by rw [pre_len n k h]; exact Nat.le_refl _)]
  rfl
theorem pre_by {n k : Int} {ys : List Int} (hn : 0 ≤ n ∧ n ≤ 65535) (hk : 1 ≤ k ∧ k ≤ 4) (hy : By ys) (hl : ys.length ≤ 244) : By (pre n k ys) := by
  refine By.appendB (by_of_memB fun x hx => ?_) (hy.appendB (by_of_memB fun x hx => ?_))
  · simp only [List.mem_cons, List.not_mem_nil, or_false] at hx
    rcases hx with rfl | rfl | rfl | rfl | rfl | rfl | rfl | rfl <;> omega
  · rw [List.mem_replicate] at hx
    omega
theorem sec_by {n k : Int} {ys : List Int} (hn : 0 ≤ n ∧ n ≤ 65535) (hk : 1 ≤ k ∧ k ≤ 4) (hy : By ys) (hl : ys.length ≤ 244) : By (sec n k ys) := (pre_by hn hk hy hl).appendB (le4_by _)
theorem sec_0 (n k : Int) (ys : List Int) : (sec n k ys).getD 0 0 = k := rfl
theorem sec_1 (n k : Int) (ys : List Int) : (sec n k ys).getD 1 0 = (ys.length : Int) := rfl
theorem sec_bdy (n k : Int) {ys : List Int} (h : ys.length ≤ 244) : bdy (sec n k ys) = ys := by
  have e1 : bN (sec n k ys) 1 = ys.length := by show ((ys.length : Int)).toNat = _; omega
  have e2 : (sec n k ys).drop 8 = ys ++ (List.replicate (244 - ys.length) 0 ++ le4 (crc (pre n k ys))) := by
    show (ys ++ List.replicate (244 - ys.length) 0) ++ le4 (crc (pre n k ys)) = _
    rw [List.append_assoc]
  unfold bdy
  rw [e1, e2, Nat.min_eq_left h, List.take_append_of_le_length (Nat.le_refl _), List.take_of_length_le (Nat.le_refl _)]
theorem bdy_len {xs : List Int} (h : xs.length = 256) : (bdy xs).length = min (bN xs 1) 244 := by
  unfold bdy
  rw [List.length_take, List.length_drop, h]
  omega
theorem bdy_by {xs : List Int} (h : By xs) : By (bdy xs) := (h.dropB 8).take _
theorem mayK_iff {n k : Int} {l : Nat} : mayK n k l = true ↔ 0 ≤ n ∧ n ≤ 65535 ∧ 1 ≤ k ∧ k ≤ 4 ∧ l ≤ 240 := by unfold mayK; exact decide_eq_true_iff
theorem sec_inj {n n' k k' : Int} {ys ys' : List Int} (h : mayK n k ys.length = true) (h' : mayK n' k' ys'.length = true) (e : sec n k ys = sec n' k' ys') : n = n' ∧ k = k' ∧ ys = ys' := by
  obtain ⟨h1, h2, h3, h4, h5⟩ := mayK_iff.1 h
  obtain ⟨g1, g2, g3, g4, g5⟩ := mayK_iff.1 h'
  have e0 : k = k' := congrArg (fun l => List.getD l 0 0) e
  have e2 : n % 256 = n' % 256 := congrArg (fun l => List.getD l 2 0) e
  have e3 : n / 256 = n' / 256 := congrArg (fun l => List.getD l 3 0) e
  have e4 := congrArg bdy e
  rw [sec_bdy n k (by omega), sec_bdy n' k' (by omega)] at e4
  exact ⟨by omega, e0, e4⟩
theorem getE_put {n k : Int} {ys : List Int} (h : mayK n k ys.length = true) : getE n (sec n k ys) = 0 ∧ getB n (sec n k ys) = (k, ys) := by
  obtain ⟨h1, h2, h3, h4, h5⟩ := mayK_iff.1 h
  have hl : ys.length ≤ 244 := by omega
  have e : getE n (sec n k ys) = 0 := by
    unfold getE
    rw [if_neg (by rw [sec_len n k hl]; simp), if_neg (by rw [sec_smd n k hl]; simp), sec_bdy n k hl, sec_0, if_pos ⟨h, rfl⟩]
  refine ⟨e, ?_⟩
  unfold getB
  rw [if_pos e, sec_bdy n k hl, sec_0]
theorem getE_else {m n k : Int} {ys : List Int} (h : mayK n k ys.length = true) (hm : m ≠ n) : getE m (sec n k ys) = 7 := by
  obtain ⟨h1, h2, h3, h4, h5⟩ := mayK_iff.1 h
  have hl : ys.length ≤ 244 := by omega
  unfold getE
  rw [if_neg (by rw [sec_len n k hl]; simp), if_neg (by rw [sec_smd n k hl]; simp), sec_bdy n k hl, sec_0, if_neg]
  rintro ⟨g, e⟩
  exact hm (sec_inj h g e).1.symm

/- A burst over the whole sector, its sum too. -/

theorem c8_fold (m A b : Nat) : c8 8 (c8 m A ^^^ b) = c8 (m + 8) (A ^^^ 2 ^ m * b) := by rw [c8_add, c8_xor m, c8_pow]
theorem split8 (s : Nat) : s = s % 256 ^^^ 2 ^ 8 * (s / 256) := by
  apply Nat.eq_of_testBit_eq
  intro i
  have h1 := Nat.testBit_mod_two_pow s 8 i
  have h2 := Nat.testBit_two_pow_mul (i := 8) (a := s / 2 ^ 8) (j := i)
  have h3 : (s / 2 ^ 8).testBit (i - 8) = s.testBit (i - 8 + 8) := Nat.testBit_div_two_pow _ _
  rw [Nat.testBit_xor, show (256 : Nat) = 2 ^ 8 from rfl, h1, h2, h3]
  by_cases c : i < 8
  · have : ¬ 8 ≤ i := by omega
    simp [c, this]
  · have : 8 ≤ i := by omega
    simp [c, this, show i - 8 + 8 = i by omega]
theorem mul_xor8 (a b : Nat) : 2 ^ 8 * (a ^^^ b) = 2 ^ 8 * a ^^^ 2 ^ 8 * b := by
  apply Nat.eq_of_testBit_eq
  intro i
  rw [Nat.testBit_xor, Nat.testBit_two_pow_mul, Nat.testBit_two_pow_mul, Nat.testBit_two_pow_mul, Nat.testBit_xor]
  cases decide (i ≥ 8) <;> simp
theorem split32 (s : Nat) (h : s < 4294967296) : s = s % 256 ^^^ 2 ^ 8 * (s / 256 % 256) ^^^ 2 ^ 16 * (s / 65536 % 256) ^^^ 2 ^ 24 * (s / 16777216 % 256) := by
  have e1 := split8 s
  have e2 := split8 (s / 256)
  have e3 := split8 (s / 65536)
  have e4 : s / 16777216 % 256 = s / 16777216 := by omega
  rw [Nat.div_div_eq_div_mul] at e2 e3
  have m1 : ∀ a b : Nat, 2 ^ 8 * (a ^^^ b) = 2 ^ 8 * a ^^^ 2 ^ 8 * b := mul_xor8
  have f3 : 2 ^ 8 * (s / 65536) = 2 ^ 8 * (s / 65536 % 256) ^^^ 2 ^ 16 * (s / 16777216) := by
    have := congrArg (2 ^ 8 * ·) e3
    rw [m1, ← Nat.mul_assoc] at this
    exact this
  have f2 : 2 ^ 8 * (s / 256) = 2 ^ 8 * (s / 256 % 256) ^^^ (2 ^ 16 * (s / 65536 % 256) ^^^ 2 ^ 24 * (s / 16777216)) := by
    have := congrArg (2 ^ 8 * ·) e2
    rw [m1] at this
    rw [this]
    congr 1
    have h3 := congrArg (2 ^ 8 * ·) f3
    rw [m1, ← Nat.mul_assoc, ← Nat.mul_assoc, ← Nat.mul_assoc] at h3
    rw [← Nat.mul_assoc]
    exact h3
  rw [e4, Nat.xor_assoc, Nat.xor_assoc, ← f2]
  exact e1

theorem cR_take (xs : List Int) (m : Nat) : ∀ k, k ≤ m → cR (xs.take m) k = cR xs k
  | 0, _ => rfl
  | k + 1, h => by
    simp only [cR]
    rw [cR_take xs m k (by omega), List.getD_eq_getElem?_getD, List.getElem?_take, if_pos (by omega), ← List.getD_eq_getElem?_getD]

/-- Behind a sector whose sum is right the number is always the same. -/
theorem res_same {xs : List Int} (hl : xs.length = 256) (hb : By xs) (h : xs = smd xs) : cR xs 256 = c8 32 4294967295 := by
  obtain ⟨X, hX⟩ : ∃ X, cR xs 252 = X := ⟨_, rfl⟩
  have hXl : X < 4294967296 := hX ▸ cR_lt hb 252
  obtain ⟨s, hs⟩ : ∃ s, crc (xs.take 252) = s := ⟨_, rfl⟩
  have hs1 : s = 4294967295 - X := by
    rw [← hs]
    unfold crc
    rw [List.length_take, hl, show min 252 256 = 252 from rfl, cR_take xs 252 252 (Nat.le_refl _), hX]
  have hg : ∀ j, xs.getD (252 + j) 0 = (le4 s).getD j 0 := fun j => by
    have : xs.getD (252 + j) 0 = (smd xs).getD (252 + j) 0 := by rw [← h]
    rw [this]
    unfold smd
    rw [hs, List.getD_eq_getElem?_getD, List.getElem?_append_right (by rw [List.length_take]; omega), List.length_take, hl, show 252 + j - min 252 256 = j by omega, ← List.getD_eq_getElem?_getD]
  have g0 : (xs.getD 252 0).toNat = s % 256 := by rw [hg 0]; simp [le4]; omega
  have g1 : (xs.getD 253 0).toNat = s / 256 % 256 := by rw [hg 1]; simp [le4]; omega
  have g2 : (xs.getD 254 0).toNat = s / 65536 % 256 := by rw [hg 2]; simp [le4]; omega
  have g3 : (xs.getD 255 0).toNat = s / 16777216 % 256 := by rw [hg 3]; simp [le4]; omega
  have e : cR xs 256 = c8 8 (c8 8 (c8 8 (c8 8 (X ^^^ s % 256) ^^^ s / 256 % 256) ^^^ s / 65536 % 256) ^^^ s / 16777216 % 256) := by
    rw [← g0, ← g1, ← g2, ← g3, ← hX]
    rfl
  rw [e, show c8 8 (X ^^^ s % 256) = c8 8 (X ^^^ s % 256) from rfl, c8_fold 8 (X ^^^ s % 256) (s / 256 % 256), c8_fold (8 + 8), c8_fold (8 + 8 + 8)]
  show c8 32 _ = _
  congr 1
  have hsp := split32 s (by omega)
  rw [Nat.xor_assoc, Nat.xor_assoc, Nat.xor_assoc, ← Nat.xor_assoc (s % 256), ← Nat.xor_assoc (s % 256 ^^^ _)]
  rw [← hsp, hs1, ← not_nat X hXl, Nat.xor_comm 4294967295, ← Nat.xor_assoc, Nat.xor_self, Nat.zero_xor]

/-- Bits are the numbers. -/
theorem ext_bits {xs ys : List Int} (hl : ys.length = xs.length) (hx : By xs) (hy : By ys) (h : ∀ j i, j < xs.length → i < 8 → (bN ys j).testBit i = (bN xs j).testBit i) : ys = xs := by
  apply List.ext_getElem hl
  intro j h1 h2
  have e : bN ys j = bN xs j := by
    apply Nat.eq_of_testBit_eq
    intro i
    by_cases c : i < 8
    · exact h j i h2 c
    · have hp : 2 ^ 8 ≤ 2 ^ i := Nat.pow_le_pow_right (by decide) (by omega)
      rw [Nat.testBit_lt_two_pow (Nat.lt_of_lt_of_le (bN_lt hy j) hp), Nat.testBit_lt_two_pow (Nat.lt_of_lt_of_le (bN_lt hx j) hp)]
  have e1 := bN_eq hy j
  have e2 := bN_eq hx j
  rw [List.getD_eq_getElem?_getD, List.getElem?_eq_getElem h1] at e1
  rw [List.getD_eq_getElem?_getD, List.getElem?_eq_getElem h2] at e2
  simp only [Option.getD_some] at e1 e2
  rw [e1, e2, e]

/-- A change within 32 bits side by side is told. -/
theorem sec_told {xs ys : List Int} {A mask : Nat} (hl : xs.length = 256) (hm : ys.length = 256) (hx : By xs) (hy : By ys) (h : xs = smd xs) (hA : A ≤ 2048)
    (hbits : ∀ j i, j < 256 → i < 8 → (bN ys j).testBit i = ((bN xs j).testBit i ^^ dd A mask 2048 32 (8 * j + i))) : (∃ p, dd A mask 2048 32 p = true) ↔ ys ≠ smd ys := by
  have hb := burst_told xs ys A mask hx hy (by rw [hm, hl]) (by rw [hl]; exact hA) (by rw [hl]; exact hbits)
  rw [hl] at hb
  constructor
  · intro hp he
    refine hb.2 hp ?_
    unfold crc
    rw [hl, hm, res_same hl hx h, res_same hm hy he]
  · intro hne
    apply Classical.byContradiction
    intro hno
    have e : ys = xs := ext_bits (by rw [hm, hl]) hx hy (fun j i hj hi => by
      rw [hbits j i (by rw [hl] at hj; exact hj) hi]
      cases hp : dd A mask 2048 32 (8 * j + i) with
      | false => simp
      | true => exact absurd ⟨_, hp⟩ hno)
    rw [e] at hne
    exact hne h
end Go.Proofs.Ytdicgaepggffbaa
