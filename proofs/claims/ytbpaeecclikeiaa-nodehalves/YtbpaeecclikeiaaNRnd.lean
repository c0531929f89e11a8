/-
  What is written is read again.
-/
import Derived.Test.YtbpaeecclikeiaaNGet
import Derived.Test.YtbpaeecclikeiaaNReal
namespace Go.Proofs.Ytbpaeecclikeiaa
open Go.RowKit Pl
set_option linter.unusedVariables false

theorem takeZ_app (a r : List Int) : takeZ (a ++ r, false) a.length = (a, (r, false)) := by
  unfold takeZ
  rw [if_neg (by simp)]
  simp
theorem numZ_cons (x : Int) (r : List Int) : numZ (x :: r, false) = (x, (r, false)) := by
  unfold numZ
  have := takeZ_app [x] r
  simp only [List.singleton_append, List.length_singleton] at this
  rw [this]
  rfl
theorem txtZ_app (s : ByteArray) (r : List Int) : txtZ ((s.size : Int) :: (bts s ++ r), false) = (s, (r, false)) := by
  unfold txtZ
  rw [numZ_cons]
  have h := takeZ_app (bts s) r
  rw [bts_len] at h
  simp only [Int.toNat_natCast]
  rw [h]
  simp only [str_bts]

/-- The bytes of the last keys. -/
def rstN (n : Nd) : Nat → List Int
  | 0 => []
  | j + 1 => itm n (n.ks.length - (j + 1)) ++ rstN n j
theorem rst_step (n : Nd) {k : Nat} (h : k < n.ks.length) : rstN n (n.ks.length - k) = itm n k ++ rstN n (n.ks.length - (k + 1)) := by
  obtain ⟨j, hj⟩ : ∃ j, n.ks.length - k = j + 1 := ⟨n.ks.length - k - 1, by omega⟩
  rw [hj]
  have e1 : n.ks.length - (k + 1) = j := by omega
  have e2 : n.ks.length - (j + 1) = k := by omega
  rw [e1]
  simp only [rstN]
  rw [e2]
theorem enc_rst (n : Nd) (k : Nat) (h : k ≤ n.ks.length) : encN n k ++ rstN n (n.ks.length - k) = (n.ks.length : Int) :: rstN n n.ks.length := by
  induction k with
  | zero => rfl
  | succ k ih =>
    rw [← ih (by omega), rst_step n (show k < n.ks.length by omega)]
    simp only [encN, List.append_assoc]
theorem enc_all (n : Nd) : encN n n.ks.length = (n.ks.length : Int) :: rstN n n.ks.length := by
  have := enc_rst n n.ks.length (Nat.le_refl _)
  rw [Nat.sub_self] at this
  simpa [rstN] using this

theorem take_snocN {α : Type} (d : α) (l : List α) (k : Nat) (h : k < l.length) : l.take (k + 1) = l.take k ++ [l.getD k d] := by
  rw [List.take_succ_eq_append_getElem h]
  simp [List.getD_eq_getElem?_getD, h]

theorem pz_enc {n : Nd} (h : Rl n) (k : Nat) (hk : k ≤ n.ks.length) : pzN n.lf (rstN n n.ks.length, false) k = ⟨⟨n.lf, n.ks.take k, n.vs.take k, n.kd.take k⟩, (rstN n (n.ks.length - k), false)⟩ := by
  induction k with
  | zero => simp [pzN]
  | succ k ih =>
    have hl : k < n.ks.length := by omega
    simp only [pzN]
    rw [ih (by omega)]
    unfold pzStep
    have hst := rst_step n hl
    simp only
    rw [hst]
    have ek := take_snocN eS n.ks k hl
    cases e : n.lf with
    | true =>
      have hv := h.vs e
      have ev := take_snocN eS n.vs k (by omega)
      have ed : n.kd = [] := List.eq_nil_of_length_eq_zero hv.2.1
      rw [if_pos rfl]
      unfold itm
      rw [if_pos e]
      simp only [List.cons_append, List.append_assoc]
      rw [txtZ_app]
      simp only
      rw [txtZ_app]
      rw [ek, ev, ed]
      simp [kA, vA]
    | false =>
      have hd := h.kd e
      have ed := take_snocN (0 : Int) n.kd k (by omega)
      have ev : n.vs = [] := List.eq_nil_of_length_eq_zero hd.2.1
      rw [if_neg (by decide)]
      unfold itm
      rw [if_neg (by rw [e]; decide)]
      simp only [List.cons_append, List.append_assoc, List.nil_append]
      rw [txtZ_app]
      simp only
      rw [numZ_cons]
      simp only
      rw [numZ_cons]
      have hr := hd.2.2 k hl
      rw [ek, ed, ev]
      have : dA n k % 256 + dA n k / 256 * 256 = dA n k := by omega
      simp only [this]
      simp [kA, dA]
theorem rd_enc {n : Nd} (h : Rl n) : rdN n.lf (encN n n.ks.length) = ⟨n, ([], false)⟩ := by
  unfold rdN
  rw [enc_all, numZ_cons]
  simp only [Int.toNat_natCast]
  rw [pz_enc h _ (Nat.le_refl _)]
  obtain ⟨lf, ks, vs, kd⟩ := n
  have hv := h.vs
  have hd := h.kd
  simp only [Nat.sub_self, rstN, List.take_length] at *
  cases lf with
  | true => rw [List.take_of_length_le (by have := (hv rfl).1; omega), List.take_of_length_le (by have := (hv rfl).2.1; omega)]
  | false => rw [List.take_of_length_le (by have := (hd rfl).2.1; omega), List.take_of_length_le (by have := (hd rfl).1; omega)]
theorem kdN_lf (lf : Bool) : decide (kdN lf = 1) = lf := by cases lf <;> rfl
theorem get_enc {n : Nd} (hm : mayN n = true) (h : Rl n) : getN (kdN n.lf) (encN n n.ks.length) = some n := by
  unfold getN
  rw [if_pos (by cases n.lf <;> simp [kdN]), kdN_lf, rd_enc h]
  simp only
  rw [hm, if_pos (by simp [rdOk])]
/-- Two nodes with the same bytes and kinds are the same. -/
theorem enc_inj {m n : Nd} (hm : Rl m) (hn : Rl n) (hk : m.lf = n.lf) (he : encN m m.ks.length = encN n n.ks.length) : m = n := by
  have h1 := rd_enc hm
  have h2 := rd_enc hn
  rw [hk, he, h2] at h1
  exact (Pz.mk.inj h1).1.symm
theorem itm_by {n : Nd} (h : Rl n) {k : Nat} (hk : k < n.ks.length) : By (itm n k) := by
  have app : ∀ {a b : List Int}, By a → By b → By (a ++ b) := fun {a b} ha hb i => by
    rw [List.getD_eq_getElem?_getD, List.getElem?_append]
    split
    · rw [← List.getD_eq_getElem?_getD]; exact ha i
    · rw [← List.getD_eq_getElem?_getD]; exact hb _
  have cons : ∀ {x : Int} {b : List Int}, 0 ≤ x → x ≤ 255 → By b → By (x :: b) := fun {x b} h0 h1 hb i => by
    cases i with
    | zero => simp; omega
    | succ i => simp only [List.getD_cons_succ]; exact hb i
  have h1 := h.ks k hk
  unfold itm
  refine cons (by omega) (by omega) (app (bts_by _) ?_)
  cases e : n.lf with
  | true =>
    have := (h.vs e).2.2 k hk
    rw [if_pos rfl]
    exact cons (by omega) (by omega) (bts_by _)
  | false =>
    have := (h.kd e).2.2 k hk
    rw [if_neg (by decide)]
    exact cons (by omega) (by omega) (cons (by omega) (by omega) (fun i => by simp))
theorem enc_by {n : Nd} (h : Rl n) (k : Nat) (hk : k ≤ n.ks.length) : By (encN n k) := by
  induction k with
  | zero =>
    have := h.len
    intro i
    cases i with
    | zero => simp [encN]; omega
    | succ i => simp [encN]
  | succ k ih =>
    have h1 := ih (by omega)
    have h2 := itm_by h (show k < n.ks.length by omega)
    intro i
    simp only [encN]
    rw [List.getD_eq_getElem?_getD, List.getElem?_append]
    split
    · rw [← List.getD_eq_getElem?_getD]; exact h1 i
    · rw [← List.getD_eq_getElem?_getD]; exact h2 _
end Go.Proofs.Ytbpaeecclikeiaa
