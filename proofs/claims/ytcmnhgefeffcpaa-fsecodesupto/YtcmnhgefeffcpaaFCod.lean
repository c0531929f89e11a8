/-
  Symbols as a state that moves, plain: written, and read again.
-/
import Derived.Test.YtcmnhgefeffcpaaFPl
import Derived.Test.YtcmnhgefeffcpaaLen8
namespace Go.Proofs.Ytcmnhgefeffcpaa.Pl

/-- How many bits a state loses for a symbol with that share. -/
def nbt (σ sh : Nat) : Nat → Nat → Nat
  | 0, n => n
  | f + 1, n => if σ / 2 ^ n < 2 * sh then n else nbt σ sh f (n + 1)
def nb (σ sh : Nat) : Nat := nbt σ sh 10 0

theorem nbt_spec (σ sh : Nat) : ∀ f n, (∀ m, m < n → 2 * sh ≤ σ / 2 ^ m) → (∀ m, m < nbt σ sh f n → 2 * sh ≤ σ / 2 ^ m) ∧ nbt σ sh f n ≤ n + f ∧ (σ / 2 ^ nbt σ sh f n < 2 * sh ∨ nbt σ sh f n = n + f)
  | 0, n, h => ⟨h, by simp [nbt], .inr rfl⟩
  | f + 1, n, h => by
    simp only [nbt]
    by_cases e : σ / 2 ^ n < 2 * sh
    · rw [if_pos e]; exact ⟨h, by omega, .inl e⟩
    · rw [if_neg e]
      have := nbt_spec σ sh f (n + 1) (fun m hm => by
        by_cases c : m < n
        · exact h m c
        · obtain rfl : m = n := by omega
          omega)
      exact ⟨this.1, by omega, by rcases this.2.2 with h | h; (· exact .inl h); (· exact .inr (by omega))⟩

theorem nb_spec {σ sh : Nat} (h1 : 1 ≤ sh) (h2 : σ < 1024) : σ / 2 ^ nb σ sh < 2 * sh ∧ (∀ m, m < nb σ sh → 2 * sh ≤ σ / 2 ^ m) ∧ nb σ sh ≤ 10 := by
  have h := nbt_spec σ sh 10 0 (fun m hm => by omega)
  refine ⟨?_, h.1, by have := h.2.1; unfold nb; omega⟩
  rcases h.2.2 with e | e
  · exact e
  · unfold nb
    rw [e]
    have : σ / 2 ^ (0 + 10) = 0 := Nat.div_eq_of_lt (by omega)
    omega

theorem nb_eq {σ sh n : Nat} (h1 : 1 ≤ sh) (h2 : σ < 1024) (ha : σ / 2 ^ n < 2 * sh) (hb : ∀ m, m < n → 2 * sh ≤ σ / 2 ^ m) : nb σ sh = n := by
  have h := nb_spec h1 h2
  by_cases c : nb σ sh < n
  · have := hb _ c; omega
  · by_cases c2 : n < nb σ sh
    · have := h.2.1 _ c2; omega
    · omega

/-- The x that is left is between the share and twice it. -/
theorem nb_x {σ sh z : Nat} (h1 : 1 ≤ sh) (h2 : σ < 1024) (hz : z ≤ σ) (hs : sh ≤ z) : sh ≤ σ / 2 ^ nb σ sh ∧ σ / 2 ^ nb σ sh < 2 * sh := by
  have h := nb_spec h1 h2
  refine ⟨?_, h.1⟩
  cases e : nb σ sh with
  | zero => simp; omega
  | succ n =>
    have := h.2.1 n (by omega)
    rw [Nat.pow_succ, ← Nat.div_div_eq_div_mul]
    omega

/-- How many bits a place takes. -/
def bt (lg x : Nat) : Nat := lg + 1 - Lib.bitLen x

theorem bl_fin : ∀ x : Fin 1024, x.val ≠ 0 → 1 ≤ Lib.bitLen x.val ∧ 2 ^ (Lib.bitLen x.val - 1) ≤ x.val ∧ x.val < 2 ^ Lib.bitLen x.val := by decide +kernel

theorem bl {x : Nat} (h0 : 1 ≤ x) (h1 : x < 1024) : 1 ≤ Lib.bitLen x ∧ 2 ^ (Lib.bitLen x - 1) ≤ x ∧ x < 2 ^ Lib.bitLen x := bl_fin ⟨x, h1⟩ (by simp; omega)

theorem bl_le {lg x : Nat} (h0 : 1 ≤ x) (hl : lg ≤ 9) (h1 : x < 2 * 2 ^ lg) : Lib.bitLen x ≤ lg + 1 := by
  have h2 : 2 ^ (lg + 1) ≤ 2 ^ 10 := Nat.pow_le_pow_right (by decide) (by omega)
  have h := bl h0 (by rw [Nat.pow_succ] at h2; omega)
  by_cases c : Lib.bitLen x ≤ lg + 1
  · exact c
  · have : 2 ^ (lg + 1) ≤ 2 ^ (Lib.bitLen x - 1) := Nat.pow_le_pow_right (by decide) (by omega)
    rw [Nat.pow_succ] at this
    omega

/-- With its bits an x fills the upper half. -/
theorem bt_spec {lg x : Nat} (h0 : 1 ≤ x) (hl : lg ≤ 9) (h1 : x < 2 * 2 ^ lg) : 2 ^ lg ≤ x * 2 ^ bt lg x ∧ (x + 1) * 2 ^ bt lg x ≤ 2 * 2 ^ lg ∧ bt lg x ≤ lg := by
  have h2 : 2 ^ (lg + 1) ≤ 2 ^ 10 := Nat.pow_le_pow_right (by decide) (by omega)
  have h := bl h0 (by rw [Nat.pow_succ] at h2; omega)
  have hle := bl_le h0 hl h1
  unfold bt
  refine ⟨?_, ?_, by omega⟩
  · have e : 2 ^ lg = 2 ^ (Lib.bitLen x - 1) * 2 ^ (lg + 1 - Lib.bitLen x) := by rw [← Nat.pow_add]; congr 1; omega
    rw [e]
    exact Nat.mul_le_mul_right _ h.2.1
  · have e : 2 * 2 ^ lg = 2 ^ Lib.bitLen x * 2 ^ (lg + 1 - Lib.bitLen x) := by rw [← Nat.pow_add, Nat.mul_comm, ← Nat.pow_succ]; congr 1; omega
    rw [e]
    exact Nat.mul_le_mul_right _ h.2.2

/-- It is the least number of bits with which it does. -/
theorem bt_least {lg x : Nat} (h0 : 1 ≤ x) (hl : lg ≤ 9) (h1 : x < 2 * 2 ^ lg) {b : Nat} (hb : b < bt lg x) : x * 2 ^ b < 2 ^ lg := by
  have h := bt_spec h0 hl h1
  have e : 2 ^ b * 2 ≤ 2 ^ bt lg x := by rw [← Nat.pow_succ]; exact Nat.pow_le_pow_right (by decide) hb
  have h3 : (x + 1) * (2 ^ b * 2) ≤ (x + 1) * 2 ^ bt lg x := Nat.mul_le_mul_left _ e
  have h4 : 0 < 2 ^ b := Nat.pow_pos (by decide)
  have h5 : (x + 1) * (2 ^ b * 2) = 2 * (x * 2 ^ b) + 2 * 2 ^ b := by rw [Nat.add_mul, ← Nat.mul_assoc, Nat.mul_comm (x * 2 ^ b) 2]; omega
  omega

theorem bt_eq {lg x b : Nat} (h0 : 1 ≤ x) (hl : lg ≤ 9) (h1 : x < 2 * 2 ^ lg) (h2 : 2 ^ lg ≤ x * 2 ^ b) (h3 : ∀ m, m < b → x * 2 ^ m < 2 ^ lg) : bt lg x = b := by
  by_cases c : bt lg x < b
  · have := h3 _ c; have := (bt_spec h0 hl h1).1; omega
  · by_cases c2 : b < bt lg x
    · have := bt_least h0 hl h1 c2; omega
    · omega

/-- The next state. -/
def nxs (f : Nat → Nat) (L z σ k : Nat) : Nat := z + pl f L z z (cu f k + (σ / 2 ^ nb σ (f k) - f k))
/-- The state, and the bits that are put, behind symbols from the last one on. -/
def en (f : Nat → Nat) (L z : Nat) : List Int → Nat × List Int
  | [] => (z, [])
  | s :: r => (nxs f L z (en f L z r).1 s.toNat, (en f L z r).2 ++ bitsOf (en f L z r).1 (nb (en f L z r).1 (f s.toNat)))

theorem en_range {z : Nat} (hz : 0 < z) (f : Nat → Nat) (L : Nat) (ds : List Int) : z ≤ (en f L z ds).1 ∧ (en f L z ds).1 < 2 * z := by
  cases ds with
  | nil => simp only [en]; omega
  | cons s r =>
    simp only [en, nxs]
    have := pl_lt f L z z (cu f s.toNat + ((en f L z r).1 / 2 ^ nb (en f L z r).1 (f s.toNat) - f s.toNat)) hz
    omega

theorem Bits.append {a b : List Int} (ha : Bits a) (hb : Bits b) : Bits (a ++ b) := by
  intro i
  rw [getD_append]
  split
  · exact ha i
  · exact hb _

theorem en_bits (f : Nat → Nat) (L z : Nat) (ds : List Int) : Bits (en f L z ds).2 := by
  induction ds with
  | nil => exact Bits.nil
  | cons s r ih => exact Bits.append ih (bits_bitsOf _ _)

theorem nb_le (σ sh : Nat) : nb σ sh ≤ 10 := by
  have h := nbt_spec σ sh 10 0 (fun m hm => by omega)
  have := h.2.1
  unfold nb
  omega

theorem en_len (f : Nat → Nat) (L z : Nat) (ds : List Int) : (en f L z ds).2.length ≤ 10 * ds.length := by
  induction ds with
  | nil => simp [en]
  | cons s r ih =>
    simp only [en, List.length_append, bitsOf_length, List.length_cons]
    have := nb_le (en f L z r).1 (f s.toNat)
    omega

/-- What is written: the bits, the last state, and the mark. -/
def eRow (f : Nat → Nat) (L z lg : Nat) (ds : List Int) : List Int := (en f L z ds).2 ++ bitsOf ((((en f L z ds).1 : Nat) : Int) - z) lg

/-- What is read, behind k symbols: they, the place, how many bits are left. -/
def dc (f : Nat → Nat) (L z lg : Nat) (B : List Int) (a p : Nat) : Nat → Option (List Int × Nat × Nat)
  | 0 => some ([], a, p)
  | k + 1 => match dc f L z lg B a p k with
    | none => none
    | some (l, a', p') => if p' < bt lg (xs_ f L z a') then none else
      some (l ++ [(tb f L z a' : Int)], xs_ f L z a' * 2 ^ bt lg (xs_ f L z a') - z + (val B (p' - bt lg (xs_ f L z a')) (bt lg (xs_ f L z a'))).toNat, p' - bt lg (xs_ f L z a'))

theorem xs_bd {f : Nat → Nat} {L z : Nat} (h : Fok f L z) {a : Nat} (ha : a < z) : 1 ≤ xs_ f L z a ∧ xs_ f L z a < 2 * z := by
  have h1 := h.ah_lt ha
  have h2 := cu_mono f (show tb f L z a + 1 ≤ L from h.tb_lt a)
  have h3 := h.sum
  simp only [cu] at h2
  unfold xs_
  omega

/-- Places stay within the table. -/
theorem dc_lt {f : Nat → Nat} {L lg : Nat} (h : Fok f L (2 ^ lg)) (hl : lg ≤ 9) {B : List Int} (hB : Bits B) {a p k : Nat} (ha : a < 2 ^ lg) {l : List Int} {a' p' : Nat}
    (he : dc f L (2 ^ lg) lg B a p k = some (l, a', p')) : a' < 2 ^ lg ∧ p' ≤ p ∧ l.length = k := by
  induction k generalizing l a' p' with
  | zero => simp only [dc, Option.some.injEq, Prod.mk.injEq] at he; obtain ⟨rfl, rfl, rfl⟩ := he; exact ⟨ha, Nat.le_refl _, rfl⟩
  | succ k ih =>
    simp only [dc] at he
    cases hq : dc f L (2 ^ lg) lg B a p k with
    | none => rw [hq] at he; simp at he
    | some t =>
      obtain ⟨l1, a1, p1⟩ := t
      rw [hq] at he
      simp only at he
      obtain ⟨i1, i2, i3⟩ := ih hq
      split at he
      · cases he
      · rename_i hb
        simp only [Option.some.injEq, Prod.mk.injEq] at he
        obtain ⟨rfl, rfl, rfl⟩ := he
        have hx := xs_bd h i1
        have hs := bt_spec hx.1 hl hx.2
        have hv := val_bd hB (p1 - bt lg (xs_ f L (2 ^ lg) a1)) (bt lg (xs_ f L (2 ^ lg) a1))
        have e : ((2 : Int) ^ bt lg (xs_ f L (2 ^ lg) a1)) = ((2 ^ bt lg (xs_ f L (2 ^ lg) a1) : Nat) : Int) := by push_cast; rfl
        rw [e] at hv
        rw [Nat.add_mul] at hs
        refine ⟨by omega, by omega, by simp [i3]⟩

end Go.Proofs.Ytcmnhgefeffcpaa.Pl
