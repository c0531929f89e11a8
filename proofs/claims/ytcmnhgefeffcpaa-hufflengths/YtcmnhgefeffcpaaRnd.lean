/-
  Plain facts: what is packed is unpacked again, what is put is taken again.
-/
import Derived.Test.YtcmnhgefeffcpaaUnp
namespace Go.Proofs.Ytcmnhgefeffcpaa.Pl

theorem bv_bits (v : Int) (hv : 0 ≤ v) (n : Nat) : bv (fun i => v / 2 ^ i % 2) n = v % 2 ^ n := by
  obtain ⟨a, rfl⟩ := Int.eq_ofNat_of_zero_le hv
  induction n with
  | zero => simp [bv]
  | succ n ih =>
    simp only [bv, ih]
    have h := Nat.mod_mul (x := a) (a := 2 ^ n) (b := 2)
    rw [← Nat.pow_succ] at h
    have h2 : ((a % 2 ^ (n + 1) : Nat) : Int) = ((a % 2 ^ n + 2 ^ n * (a / 2 ^ n % 2) : Nat) : Int) := by rw [h]
    push_cast at h2
    rw [h2, Int.mul_comm]

theorem bv_bit (f : Nat → Int) (hf : ∀ i, f i = 0 ∨ f i = 1) (n r : Nat) (hr : r < n) : bv f n / 2 ^ r % 2 = f r := by
  induction n with
  | zero => omega
  | succ n ih =>
    simp only [bv]
    have hb := bv_bd f hf n
    have hp : (0 : Int) < 2 ^ n := Int.pow_pos (by decide)
    by_cases e : r = n
    · subst e
      rw [Int.add_mul_ediv_right _ _ (by omega), Int.ediv_eq_zero_of_lt hb.1 hb.2, Int.zero_add]
      rcases hf r with h | h <;> rw [h] <;> rfl
    · have hrn : r < n := by omega
      obtain ⟨d, hd⟩ : ∃ d, n = r + (d + 1) := ⟨n - r - 1, by omega⟩
      have e2 : f n * 2 ^ n = 2 ^ r * (f n * 2 ^ d * 2) := by
        rw [hd, Int.pow_add, Int.pow_succ]
        generalize (2 : Int) ^ r = x
        generalize (2 : Int) ^ d = y
        generalize f (r + (d + 1)) = z
        rw [← Int.mul_assoc, ← Int.mul_assoc, Int.mul_comm z x, Int.mul_assoc x z y, Int.mul_assoc x (z * y) 2]
      rw [e2, Int.add_mul_ediv_left _ _ (by have : (0 : Int) < 2 ^ r := Int.pow_pos (by decide)
                                            omega), Int.add_mul_emod_self_right]
      exact ih hrn

/-- What is packed is unpacked again, with bits 0 behind. -/
theorem unpack_pack {bs : List Int} (h : Bits bs) (p : Nat) : (unpack (pack bs)).getD p 0 = bs.getD p 0 := by
  rw [unpack_getD, pack_getD]
  unfold val
  rw [bv_bit _ (fun i => h _) 8 (p % 8) (by omega)]
  congr 1
  omega

theorem val_pack {bs : List Int} (h : Bits bs) (p n : Nat) : val (unpack (pack bs)) p n = val bs p n :=
  bv_congr _ _ n fun _ _ => unpack_pack h _

theorem val_mid (pre post : List Int) (v : Int) (n : Nat) (hv : 0 ≤ v) (h1 : v < 2 ^ n) : val (pre ++ bitsOf v n ++ post) pre.length n = v := by
  unfold val
  rw [bv_congr _ (fun i => v / 2 ^ i % 2) n (fun i hi => by
    rw [getD_append, if_pos (by simp [bitsOf_length]; omega), getD_append, if_neg (by omega), bitsOf_getD, show pre.length + i - pre.length = i by omega, if_pos hi]), bv_bits v hv]
  exact Int.emod_eq_of_lt hv h1

/-- A piece that may be put. -/
def OkP (p : Int × Int) : Prop := 0 ≤ p.1 ∧ p.1 ≤ 32 ∧ 0 ≤ p.2 ∧ p.2 < 2 ^ p.1.toNat

/-- The bits of all pieces. -/
def putAll : List (Int × Int) → List Int
  | [] => []
  | p :: ps => bitsOf p.2 p.1.toNat ++ putAll ps

theorem putAll_append (ps qs : List (Int × Int)) : putAll (ps ++ qs) = putAll ps ++ putAll qs := by
  induction ps with
  | nil => rfl
  | cons p ps ih => simp [putAll, ih]

theorem putAll_snoc (ps : List (Int × Int)) (p : Int × Int) : putAll (ps ++ [p]) = putAll ps ++ bitsOf p.2 p.1.toNat := by
  rw [putAll_append]; simp [putAll]

theorem putAll_split (ps : List (Int × Int)) (i : Nat) (h : i < ps.length) : putAll ps = putAll (ps.take i) ++ bitsOf (ps.getD i (0, 0)).2 (ps.getD i (0, 0)).1.toNat ++ putAll (ps.drop (i + 1)) ∧
    (putAll (ps.take (i + 1))).length = (putAll (ps.take i)).length + (ps.getD i (0, 0)).1.toNat := by
  have e1 : ps.take (i + 1) = ps.take i ++ [ps.getD i (0, 0)] := by
    rw [List.take_succ_eq_append_getElem h]
    simp [List.getD_eq_getElem?_getD, h]
  have e2 : putAll ps = putAll (ps.take (i + 1)) ++ putAll (ps.drop (i + 1)) := by
    rw [← putAll_append, List.take_append_drop]
  rw [e2, e1, putAll_snoc]
  refine ⟨rfl, ?_⟩
  rw [List.length_append, bitsOf_length]

theorem putAll_le (ps : List (Int × Int)) (h : ∀ i, i < ps.length → OkP (ps.getD i (0, 0))) : (putAll ps).length ≤ 32 * ps.length := by
  induction ps with
  | nil => simp [putAll]
  | cons p ps ih =>
    have h0 := h 0 (by simp)
    have h1 := ih (fun i hi => by have := h (i + 1) (by simp; omega); simpa using this)
    have h2 : OkP p := h0
    simp only [putAll, List.length_append, bitsOf_length, List.length_cons]
    have := h2.2.1
    omega

theorem bits_bitsOf (v : Int) (n : Nat) : Bits (bitsOf v n) := by
  intro i
  rw [bitsOf_getD]
  split
  · omega
  · exact .inl rfl

/-- What was put is taken again. -/
theorem val_putAll (ps : List (Int × Int)) (i : Nat) (h : i < ps.length) (ho : OkP (ps.getD i (0, 0))) : val (putAll ps) (putAll (ps.take i)).length (ps.getD i (0, 0)).1.toNat = (ps.getD i (0, 0)).2 := by
  rw [(putAll_split ps i h).1]
  exact val_mid _ _ _ _ ho.2.2.1 ho.2.2.2

theorem getD_append_ps (ps qs : List (Int × Int)) (i : Nat) : (ps ++ qs).getD i (0, 0) = if i < ps.length then ps.getD i (0, 0) else qs.getD (i - ps.length) (0, 0) := by
  rw [List.getD_eq_getElem?_getD, List.getElem?_append]
  split <;> rw [List.getD_eq_getElem?_getD]

end Go.Proofs.Ytcmnhgefeffcpaa.Pl
