/-
  Bits are the codes of one row of bytes only; what was written is such a row.
-/
import Derived.Test.YtcmnhgefeffcpaaHDec
import Derived.Test.YtcmnhgefeffcpaaRnd
namespace Go.Proofs.Ytcmnhgefeffcpaa
open Go.RowKit Pl
set_option linter.unusedVariables false
set_option maxRecDepth 100000

theorem vl_div {bs : List Int} (h : Bits bs) (p t d : Nat) : vl bs p (t + d) / 2 ^ d = vl bs p t := by
  induction d with
  | zero => simp
  | succ d ih =>
    rw [show t + (d + 1) = t + d + 1 by omega]
    simp only [vl]
    have hb := h (p + (t + d))
    have e : (2 : Int) ^ (d + 1) = 2 * 2 ^ d := by rw [Int.pow_succ, Int.mul_comm]
    rw [e, ← Int.ediv_ediv_of_nonneg (by decide), show (2 * vl bs p (t + d) + bs.getD (p + (t + d)) 0) / 2 = vl bs p (t + d) by omega, ih]

theorem hit_code {ls bs : List Int} (hk : LOk ls) {p t c : Nat} (h : Hit ls bs p t c) : 1 ≤ t ∧ t ≤ 11 ∧ vl bs p t = (nx ls (t - 1) c : Int) ∧ ls.getD c 0 = (t : Int) ∧ c < ls.length := by
  obtain ⟨s, v, h1, h2, h3, h4, h5, h6, h7, h8⟩ := hk.code h.2.1
  have := h.2.2.symm.trans h4
  simp only [Prod.mk.injEq] at this
  have e : t = s := by omega
  subst e
  exact ⟨h1, h2, by rw [this.2, h7], h6, h8⟩

theorem hit_unique {ls bs : List Int} (hk : LOk ls) (hb : Bits bs) {p t c t' c' : Nat} (h : Hit ls bs p t c) (h' : Hit ls bs p t' c') : t = t' ∧ c = c' := by
  obtain ⟨a1, a2, a3, a4, a5⟩ := hit_code hk h
  obtain ⟨b1, b2, b3, b4, b5⟩ := hit_code hk h'
  rcases Nat.lt_trichotomy t t' with e | e | e
  · exfalso
    have h1 := code_apart ls (s := t - 1) (t := t' - 1) (b := c) (c := c') (by omega) a5 (by rw [a4]; omega)
    have h2 := vl_div hb p t (t' - t)
    rw [show t + (t' - t) = t' by omega, a3, b3] at h2
    rw [show t' - 1 - (t - 1) = t' - t by omega] at h1
    have h3 : ((nx ls (t' - 1) c' / 2 ^ (t' - t) : Nat) : Int) = (nx ls (t - 1) c : Int) := by push_cast; exact h2
    omega
  · subst e
    exact ⟨rfl, code_inj h.2.1 h'.2.1 (h.2.2.trans h'.2.2.symm)⟩
  · exfalso
    have h1 := code_apart ls (s := t' - 1) (t := t - 1) (b := c') (c := c) (by omega) b5 (by rw [b4]; omega)
    have h2 := vl_div hb p t' (t - t')
    rw [show t' + (t - t') = t by omega, a3, b3] at h2
    rw [show t - 1 - (t' - 1) = t - t' by omega] at h1
    have h3 : ((nx ls (t - 1) c / 2 ^ (t - t') : Nat) : Int) = (nx ls (t' - 1) c' : Int) := by push_cast; exact h2
    omega

theorem rn_det {ls bs : List Int} (hk : LOk ls) (hb : Bits bs) {out : List Int} {q : Nat} (h : Rn ls bs out q) : ∀ {out' : List Int} {q' : Nat}, Rn ls bs out' q' → out.length = out'.length → out = out' ∧ q = q' := by
  induction h with
  | nil =>
    intro out' q' h' hl
    cases h' with
    | nil => exact ⟨rfl, rfl⟩
    | snoc o q t c h hh => simp at hl
  | snoc o q t c h hh ih =>
    intro out' q' h' hl
    cases h' with
    | nil => simp at hl
    | snoc o' q2 t2 c2 h2 hh2 =>
      obtain ⟨rfl, rfl⟩ := ih h2 (by simpa using hl)
      obtain ⟨rfl, rfl⟩ := hit_unique hk hb hh hh2
      exact ⟨rfl, rfl⟩

/-- The bytes ahead of a place, and the code there. -/
theorem rn_split {ls bs : List Int} (hk : LOk ls) {out : List Int} {Q : Nat} (h : Rn ls bs out Q) : ∀ k, k < out.length → ∃ q t c, Rn ls bs (out.take k) q ∧ Hit ls bs q t c ∧ q + t ≤ Q ∧ t ≤ 11 := by
  induction h with
  | nil => intro k hk; simp at hk
  | snoc o q t c h hh ih =>
    intro k hkl
    simp at hkl
    by_cases e : k = o.length
    · subst e
      exact ⟨q, t, c, by rw [List.take_left']; (· exact h); (· rfl), hh, Nat.le_refl _, (hit_code hk hh).2.1⟩
    · obtain ⟨q1, t1, c1, h1, h2, h3, h4⟩ := ih k (by omega)
      refine ⟨q1, t1, c1, ?_, h2, by omega, h4⟩
      rw [List.take_append_of_le_length (by omega)]
      exact h1

theorem rn_len {ls bs : List Int} (hk : LOk ls) {out : List Int} {q : Nat} (h : Rn ls bs out q) : out.length ≤ q := by
  induction h with
  | nil => simp
  | snoc o q t c h hh ih => have := (hit_code hk hh).1; simp; omega

theorem vl_congr {bs cs : List Int} {p q : Nat} : ∀ t, (∀ i, i < t → bs.getD (p + i) 0 = cs.getD (q + i) 0) → vl bs p t = vl cs q t
  | 0, _ => rfl
  | t + 1, h => by
    simp only [vl]
    rw [vl_congr t (fun i hi => h i (by omega)), h t (by omega)]

theorem vl_cbits (v s : Nat) : ∀ t, t ≤ s → vl (cbits v s) 0 t = ((v / 2 ^ (s - t) % 2 ^ t : Nat) : Int)
  | 0, _ => by simp [vl, Nat.mod_one]
  | t + 1, h => by
    simp only [vl]
    rw [vl_cbits v s t (by omega)]
    have e : (cbits v s).getD (0 + t) 0 = ((v / 2 ^ (s - (t + 1)) % 2 : Nat) : Int) := by
      have : (cbits v s).getD t 0 = (v : Int) / 2 ^ (s - 1 - t) % 2 := by simp [cbits, List.getD_eq_getElem?_getD, show t < s by omega]
      rw [Nat.zero_add, this, show s - 1 - t = s - (t + 1) by omega]
      push_cast
      rfl
    rw [e]
    have e2 : s - t = (s - (t + 1)) + 1 := by omega
    have e3 : v / 2 ^ (s - t) = v / 2 ^ (s - (t + 1)) / 2 := by rw [e2, Nat.pow_succ, Nat.div_div_eq_div_mul]
    rw [e3]
    obtain ⟨x, hx⟩ : ∃ x, v / 2 ^ (s - (t + 1)) = x := ⟨_, rfl⟩
    rw [hx]
    have h4 : x % 2 ^ (t + 1) = 2 * (x / 2 % 2 ^ t) + x % 2 := by
      rw [Nat.pow_succ, Nat.mul_comm (2 ^ t) 2, Nat.mod_mul]
      omega
    rw [h4]
    push_cast
    omega

/-- What was written is such a row of bytes. -/
theorem rn_enc {ls : List Int} (hk : LOk ls) (ds : List Int) (hy : By ds) (hc : ∀ i, i < ds.length → 0 < ls.getD (ds.getD i 0).toNat 0) (bs : List Int) (hb : ∀ i, i < (enc ls ds).length → bs.getD i 0 = (enc ls ds).getD i 0) :
    ∀ k, k ≤ ds.length → Rn ls bs (ds.take k) (enc ls (ds.take k)).length
  | 0, _ => by simpa [enc] using Rn.nil
  | k + 1, h => by
    have ih := rn_enc hk ds hy hc bs hb k (by omega)
    obtain ⟨c, hcx⟩ := Int.eq_ofNat_of_zero_le (hy k).1
    have hpos := hc k (by omega)
    rw [hcx, Int.toNat_natCast] at hpos
    obtain ⟨s, v, h1, h2, h3, h4, h5, h6, h7, h8⟩ := hk.code hpos
    have et := enc_take ls ds k (by omega)
    rw [hcx, Int.toNat_natCast] at et
    have hl : (cb ls c).length = s := by rw [cb_length, h4]; simp
    have hsplit : enc ls ds = enc ls (ds.take k) ++ cb ls c ++ enc ls (ds.drop (k + 1)) := by
      rw [← et, ← enc_append, List.take_append_drop]
    have hhit : Hit ls bs (enc ls (ds.take k)).length s c := by
      refine ⟨by have := (hy k).2; omega, hpos, ?_⟩
      rw [h4]
      simp only [Prod.mk.injEq, true_and]
      have e1 : vl bs (enc ls (ds.take k)).length s = vl (cbits v s) 0 s := vl_congr s (fun i hi => by
        rw [hb _ (by rw [hsplit]; simp [hl]; omega), hsplit, List.append_assoc, getD_append, if_neg (by omega), getD_append, if_pos (by rw [hl]; omega), h5]
        congr 1
        omega)
      rw [e1, vl_cbits v s s (Nat.le_refl _)]
      simp [Nat.mod_eq_of_lt h3]
    rw [take_snoc' ds k (by omega), hcx, enc_append]
    simp only [enc, List.append_nil, List.length_append, Int.toNat_natCast]
    rw [hl]
    exact Rn.snoc _ _ s c ih hhit
end Go.Proofs.Ytcmnhgefeffcpaa
