/-
  Shares and their tables, plain: which symbol stands at a place, how many stand ahead, where a symbol's places lie.
-/
import Derived.Test.YtcmnhgefeffcpaaRnd
namespace Go.Proofs.Ytcmnhgefeffcpaa.Pl

/-- How much the first k have together. -/
def cu (f : Nat → Nat) : Nat → Nat
  | 0 => 0
  | k + 1 => cu f k + f k

theorem cu_mono (f : Nat → Nat) {a b : Nat} (h : a ≤ b) : cu f a ≤ cu f b := by
  induction b with
  | zero => obtain rfl : a = 0 := by omega
            exact Nat.le_refl _
  | succ b ih =>
    by_cases e : a = b + 1
    · subst e; exact Nat.le_refl _
    · have := ih (by omega); simp only [cu]; omega

/-- Whose is number j, of the first n. -/
def so (f : Nat → Nat) (j : Nat) : Nat → Nat
  | 0 => 0
  | k + 1 => if cu f k ≤ j then k else so f j k

theorem so_eq (f : Nat → Nat) (j k n : Nat) (hk : k < n) (h1 : cu f k ≤ j) (h2 : j < cu f (k + 1)) : so f j n = k := by
  induction n with
  | zero => omega
  | succ n ih =>
    simp only [so]
    by_cases e : k = n
    · subst e; rw [if_pos h1]
    · have := cu_mono f (show k + 1 ≤ n by omega)
      rw [if_neg (by omega), ih (by omega)]

theorem so_spec (f : Nat → Nat) (j n : Nat) (h : j < cu f n) : so f j n < n ∧ cu f (so f j n) ≤ j ∧ j < cu f (so f j n + 1) := by
  induction n with
  | zero => simp [cu] at h
  | succ n ih =>
    simp only [so]
    by_cases e : cu f n ≤ j
    · rw [if_pos e]; exact ⟨by omega, e, h⟩
    · rw [if_neg e]
      have := ih (by omega)
      exact ⟨by omega, this.2⟩

/-- The step of a table, and the one that goes back. -/
def stp (z : Nat) : Nat := z / 2 + z / 8 + 3
def iv (z : Nat) : Nat := if z = 32 then 7 else if z = 64 then 3 else if z = 128 then 91 else if z = 256 then 11 else 363

/-- A table's size. -/
def Zok (z : Nat) : Prop := z = 32 ∨ z = 64 ∨ z = 128 ∨ z = 256 ∨ z = 512

theorem zok_of {log : Nat} (h5 : 5 ≤ log) (h9 : log ≤ 9) : Zok (2 ^ log) := by
  match log, h5, h9 with
  | 5, _, _ => exact .inl rfl
  | 6, _, _ => exact .inr (.inl rfl)
  | 7, _, _ => exact .inr (.inr (.inl rfl))
  | 8, _, _ => exact .inr (.inr (.inr (.inl rfl)))
  | 9, _, _ => exact .inr (.inr (.inr (.inr rfl)))

theorem iv32 : ∀ j : Fin 32, ((j.val * stp 32) % 32 * iv 32) % 32 = j.val ∧ ((j.val * iv 32) % 32 * stp 32) % 32 = j.val := by decide +kernel
theorem iv64 : ∀ j : Fin 64, ((j.val * stp 64) % 64 * iv 64) % 64 = j.val ∧ ((j.val * iv 64) % 64 * stp 64) % 64 = j.val := by decide +kernel
theorem iv128 : ∀ j : Fin 128, ((j.val * stp 128) % 128 * iv 128) % 128 = j.val ∧ ((j.val * iv 128) % 128 * stp 128) % 128 = j.val := by decide +kernel
theorem iv256 : ∀ j : Fin 256, ((j.val * stp 256) % 256 * iv 256) % 256 = j.val ∧ ((j.val * iv 256) % 256 * stp 256) % 256 = j.val := by decide +kernel
theorem iv512 : ∀ j : Fin 512, ((j.val * stp 512) % 512 * iv 512) % 512 = j.val ∧ ((j.val * iv 512) % 512 * stp 512) % 512 = j.val := by decide +kernel

theorem Zok.back {z : Nat} (h : Zok z) {j : Nat} (hj : j < z) : ((j * stp z) % z * iv z) % z = j ∧ ((j * iv z) % z * stp z) % z = j := by
  rcases h with rfl | rfl | rfl | rfl | rfl
  · exact iv32 ⟨j, hj⟩
  · exact iv64 ⟨j, hj⟩
  · exact iv128 ⟨j, hj⟩
  · exact iv256 ⟨j, hj⟩
  · exact iv512 ⟨j, hj⟩

theorem pm32 : ((List.range 32).map (fun q => (q * iv 32) % 32)).isPerm (List.range 32) = true := by decide +kernel
theorem pm64 : ((List.range 64).map (fun q => (q * iv 64) % 64)).isPerm (List.range 64) = true := by decide +kernel
theorem pm128 : ((List.range 128).map (fun q => (q * iv 128) % 128)).isPerm (List.range 128) = true := by decide +kernel
theorem pm256 : ((List.range 256).map (fun q => (q * iv 256) % 256)).isPerm (List.range 256) = true := by decide +kernel
theorem pm512 : ((List.range 512).map (fun q => (q * iv 512) % 512)).isPerm (List.range 512) = true := by decide +kernel

theorem Zok.perm {z : Nat} (h : Zok z) : ((List.range z).map (fun q => (q * iv z) % z)).Perm (List.range z) := by
  rcases h with rfl | rfl | rfl | rfl | rfl
  · exact List.isPerm_iff.1 pm32
  · exact List.isPerm_iff.1 pm64
  · exact List.isPerm_iff.1 pm128
  · exact List.isPerm_iff.1 pm256
  · exact List.isPerm_iff.1 pm512

theorem Zok.pos {z : Nat} (h : Zok z) : 32 ≤ z ∧ z ≤ 512 := by rcases h with rfl | rfl | rfl | rfl | rfl <;> omega

/-- The symbol at a place. -/
def tb (f : Nat → Nat) (L z p : Nat) : Nat := so f ((p * iv z) % z) L
/-- .. when j symbols are laid. -/
def tj (f : Nat → Nat) (L z j p : Nat) : Nat := if (p * iv z) % z < j then tb f L z p else 0

theorem tj_start (f : Nat → Nat) (L z p : Nat) : tj f L z 0 p = 0 := by simp [tj]
theorem tj_end (f : Nat → Nat) (L z p : Nat) (hz : 0 < z) : tj f L z z p = tb f L z p := by unfold tj; rw [if_pos (Nat.mod_lt _ hz)]

theorem tj_step {z : Nat} (hz : Zok z) (f : Nat → Nat) (L j p k : Nat) (hj : j < z) (hp : p < z) (hk : k < L) (h1 : cu f k ≤ j) (h2 : j < cu f (k + 1)) :
    tj f L z (j + 1) p = if p = (j * stp z) % z then k else tj f L z j p := by
  unfold tj
  by_cases e : p = (j * stp z) % z
  · rw [if_pos e]
    have hb := (hz.back hj).1
    rw [← e] at hb
    rw [if_pos (by omega)]
    unfold tb
    rw [hb]
    exact so_eq f j k L hk h1 h2
  · rw [if_neg e]
    have : (p * iv z) % z ≠ j := fun e2 => e (by have := (hz.back hp).2; rw [e2] at this; exact this.symm)
    by_cases e3 : (p * iv z) % z < j
    · rw [if_pos e3, if_pos (by omega)]
    · rw [if_neg e3, if_neg (by omega)]

/-- How many places of symbol k stand ahead of place p. -/
def ah (f : Nat → Nat) (L z k : Nat) : Nat → Nat
  | 0 => 0
  | p + 1 => ah f L z k p + if tb f L z p = k then 1 else 0

theorem ah_mono (f : Nat → Nat) (L z k : Nat) {a b : Nat} (h : a ≤ b) : ah f L z k a ≤ ah f L z k b := by
  induction b with
  | zero => obtain rfl : a = 0 := by omega
            exact Nat.le_refl _
  | succ b ih =>
    by_cases e : a = b + 1
    · subst e; exact Nat.le_refl _
    · have := ih (by omega); simp only [ah]; omega

theorem ah_count (f : Nat → Nat) (L z k p : Nat) : ah f L z k p = (List.range p).countP (fun q => decide (tb f L z q = k)) := by
  induction p with
  | zero => rfl
  | succ p ih =>
    rw [List.range_succ, List.countP_append, ← ih]
    simp only [ah, List.countP_cons, List.countP_nil]
    split <;> simp_all

theorem count_between (a b m : Nat) (h : a ≤ b) : (List.range m).countP (fun j => decide (a ≤ j ∧ j < b)) = min m b - min m a := by
  induction m with
  | zero => simp
  | succ m ih =>
    rw [List.range_succ, List.countP_append, ih]
    simp only [List.countP_cons, List.countP_nil]
    by_cases e : a ≤ m ∧ m < b
    · simp only [e, and_self, decide_true, if_true]; omega
    · simp only [e, decide_false]; simp; omega

/-- All places of a symbol together: its share. -/
theorem ah_all {z : Nat} (hz : Zok z) (f : Nat → Nat) (L k : Nat) (hs : cu f L = z) (hk : k < L) : ah f L z k z = f k := by
  rw [ah_count]
  have h1 : (List.range z).countP (fun q => decide (tb f L z q = k)) = ((List.range z).map (fun q => (q * iv z) % z)).countP (fun j => decide (so f j L = k)) := by
    rw [List.countP_map]; rfl
  rw [h1, hz.perm.countP_eq]
  have h2 : (List.range z).countP (fun j => decide (so f j L = k)) = (List.range z).countP (fun j => decide (cu f k ≤ j ∧ j < cu f (k + 1))) := by
    refine List.countP_congr fun j hj => ?_
    have hj' : j < cu f L := by rw [hs]; simpa using hj
    simp only [decide_eq_true_eq]
    constructor
    · intro e
      have := so_spec f j L hj'
      rw [e] at this
      exact this.2
    · intro e
      exact so_eq f j k L hk e.1 e.2
  rw [h2, count_between _ _ _ (by simp only [cu]; omega)]
  have := cu_mono f (show k + 1 ≤ L by omega)
  simp only [cu] at this ⊢
  omega

/-- What is known of a share: its size, and that all together are it. -/
structure Fok (f : Nat → Nat) (L z : Nat) : Prop where
  zok : Zok z
  sum : cu f L = z

theorem Fok.tb_lt {f : Nat → Nat} {L z : Nat} (h : Fok f L z) (p : Nat) : tb f L z p < L := by
  have : (p * iv z) % z < cu f L := by rw [h.sum]; exact Nat.mod_lt _ (by have := h.zok.pos; omega)
  exact (so_spec f _ L this).1

theorem Fok.ah_lt {f : Nat → Nat} {L z : Nat} (h : Fok f L z) {p : Nat} (hp : p < z) : ah f L z (tb f L z p) p < f (tb f L z p) := by
  have h1 := ah_all h.zok f L (tb f L z p) h.sum (h.tb_lt p)
  have h2 := ah_mono f L z (tb f L z p) (show p + 1 ≤ z by omega)
  simp only [ah, if_true] at h2
  omega

theorem Fok.ah_le {f : Nat → Nat} {L z : Nat} (h : Fok f L z) {k p : Nat} (hk : k < L) (hp : p ≤ z) : ah f L z k p ≤ f k := by
  have h1 := ah_all h.zok f L k h.sum hk
  have h2 := ah_mono f L z k hp
  omega

/-- The x of a place. -/
def xs_ (f : Nat → Nat) (L z p : Nat) : Nat := f (tb f L z p) + ah f L z (tb f L z p) p
/-- Where a place stands among all, symbol by symbol. -/
def ix (f : Nat → Nat) (L z p : Nat) : Nat := cu f (tb f L z p) + ah f L z (tb f L z p) p

theorem Fok.ix_lt {f : Nat → Nat} {L z : Nat} (h : Fok f L z) {p : Nat} (hp : p < z) : ix f L z p < z := by
  have h1 := h.ah_lt hp
  have h2 := cu_mono f (show tb f L z p + 1 ≤ L from h.tb_lt p)
  have h3 := h.sum
  simp only [cu] at h2
  unfold ix
  omega

theorem Fok.ix_inj {f : Nat → Nat} {L z : Nat} (h : Fok f L z) {p q : Nat} (hp : p < z) (hq : q < z) (e : ix f L z p = ix f L z q) : p = q := by
  have a1 := h.ah_lt hp
  have a2 := h.ah_lt hq
  unfold ix at e
  have et : tb f L z p = tb f L z q := by
    by_cases c1 : tb f L z p < tb f L z q
    · have := cu_mono f (show tb f L z p + 1 ≤ tb f L z q from c1)
      simp only [cu] at this
      omega
    · by_cases c2 : tb f L z q < tb f L z p
      · have := cu_mono f (show tb f L z q + 1 ≤ tb f L z p from c2)
        simp only [cu] at this
        omega
      · omega
  rw [et] at e
  have e' : ah f L z (tb f L z q) p = ah f L z (tb f L z q) q := by omega
  by_cases c1 : p < q
  · have := ah_mono f L z (tb f L z q) (show p + 1 ≤ q from c1)
    simp only [ah, et, if_true] at this
    omega
  · by_cases c2 : q < p
    · have := ah_mono f L z (tb f L z q) (show q + 1 ≤ p from c2)
      simp only [ah, if_true] at this
      omega
    · omega

/-- The places, symbol by symbol, when p are laid. -/
def pl (f : Nat → Nat) (L z : Nat) : Nat → Nat → Nat
  | 0, _ => 0
  | p + 1, i => if i = ix f L z p then p else pl f L z p i

theorem Fok.pl_ix {f : Nat → Nat} {L z : Nat} (h : Fok f L z) {p q : Nat} (hp : p ≤ z) (hq : q < p) : pl f L z p (ix f L z q) = q := by
  induction p with
  | zero => omega
  | succ p ih =>
    simp only [pl]
    by_cases e : ix f L z q = ix f L z p
    · rw [if_pos e]; exact (h.ix_inj (by omega) (by omega) e).symm
    · rw [if_neg e]
      by_cases e2 : q = p
      · subst e2; exact absurd rfl e
      · exact ih (by omega) (by omega)

theorem pl_lt (f : Nat → Nat) (L z p i : Nat) (h : 0 < p) : pl f L z p i < p := by
  induction p with
  | zero => omega
  | succ p ih =>
    simp only [pl]
    split
    · omega
    · by_cases e : 0 < p
      · have := ih e; omega
      · obtain rfl : p = 0 := by omega
        simp [pl]

theorem ah_find (f : Nat → Nat) (L z k a : Nat) : ∀ p, a < ah f L z k p → ∃ q, q < p ∧ tb f L z q = k ∧ ah f L z k q = a
  | 0, h => by simp [ah] at h
  | p + 1, h => by
    by_cases c : a < ah f L z k p
    · obtain ⟨q, h1, h2, h3⟩ := ah_find f L z k a p c
      exact ⟨q, by omega, h2, h3⟩
    · simp only [ah] at h
      split at h
      · rename_i e
        exact ⟨p, by omega, e, by omega⟩
      · omega

/-- The place of symbol k with a of its own ahead. -/
theorem Fok.find {f : Nat → Nat} {L z : Nat} (h : Fok f L z) {k a : Nat} (hk : k < L) (ha : a < f k) :
    ∃ q, q < z ∧ tb f L z q = k ∧ ah f L z k q = a ∧ pl f L z z (cu f k + a) = q := by
  obtain ⟨q, h1, h2, h3⟩ := ah_find f L z k a z (by rw [ah_all h.zok f L k h.sum hk]; exact ha)
  refine ⟨q, h1, h2, h3, ?_⟩
  have := h.pl_ix (Nat.le_refl z) h1
  unfold ix at this
  rw [h2, h3] at this
  exact this

end Go.Proofs.Ytcmnhgefeffcpaa.Pl
