/-
  Superblocks, plainly: which may be, their bytes, and what bytes tell.
-/
import Derived.Test.YtdicgaepggffbaaBPl
namespace Go.Proofs.Ytdicgaepggffbaa
open Go.RowKit Pl
set_option linter.unusedVariables false

/-- A version. -/
structure Vn where
  id : Int
  root : Int
  nx : Int
  fx : Bool
deriving DecidableEq
/-- A superblock. -/
structure Sp where
  gen : Int
  sc : Int
  nx : Int
  vs : List Vn
deriving DecidableEq
def sp0 : Sp := ⟨0, 0, 0, []⟩

/-- May a version be where it stands? -/
def vOk (nx sc last : Int) (v : Vn) : Bool := decide ((last + 1 ≤ v.id ∧ v.id ≤ nx - 1) ∧ (1 ≤ v.nx ∧ v.nx ≤ 16777216) ∧ (v.root = 0 ∨ (50 ≤ v.root ∧ v.root ≤ sc - 1)))
def vsOk (nx sc : Int) : Int → List Vn → Bool
  | _, [] => true
  | last, v :: r => vOk nx sc last v && vsOk nx sc v.id r
/-- May a superblock be, but for its versions? -/
def hdOk (s : Sp) : Bool := decide (1 ≤ s.gen ∧ s.gen ≤ 4294967295 ∧ 1 ≤ s.nx ∧ s.nx ≤ 4294967295 ∧ 128 ≤ s.sc ∧ s.sc ≤ 4096 ∧ s.vs.length ≤ 8)
def mayU (s : Sp) : Bool := hdOk s && vsOk s.nx s.sc 0 s.vs

/-- So many bytes of a number, the lowest first. -/
def leN (k : Nat) (n : Int) : List Int := (List.range k).map fun i => n / 256 ^ i % 256
/-- The number of such bytes. -/
def vN : List Int → Int
  | [] => 0
  | b :: r => b + 256 * vN r
def vby (v : Vn) : List Int := leN 4 v.id ++ (leN 2 v.root ++ (leN 4 v.nx ++ [if v.fx then 1 else 0]))
def vsb (vs : List Vn) : List Int := vs.flatMap vby
def hdb (s : Sp) : List Int := [75, 73, 83, 84] ++ (leN 4 s.gen ++ (leN 2 s.sc ++ (leN 4 s.nx ++ leN 1 (s.vs.length : Int))))
/-- What stands ahead of the sum. -/
def upre (s : Sp) : List Int := hdb s ++ (vsb s.vs ++ List.replicate (237 - 11 * s.vs.length) 0)
/-- A superblock's sector. -/
def usec (s : Sp) : List Int := upre s ++ le4 (crc (upre s))

/-- Some bytes. -/
def sl (xs : List Int) (a k : Nat) : List Int := (xs.drop a).take k
def rdVn (f : Int → Bool) (xs : List Int) (a : Nat) : Vn := ⟨vN (sl xs a 4), vN (sl xs (a + 4) 2), vN (sl xs (a + 6) 4), f (xs.getD (a + 10) 0)⟩
def rdVs (f : Int → Bool) (xs : List Int) (n : Nat) : List Vn := (List.range n).map fun i => rdVn f xs (15 + 11 * i)
/-- What a sector says, be it so or not. -/
def rdS (f : Int → Bool) (xs : List Int) (n : Nat) : Sp := ⟨vN (sl xs 4 4), vN (sl xs 8 2), vN (sl xs 10 4), rdVs f xs n⟩

theorem leN_len (k : Nat) (n : Int) : (leN k n).length = k := by simp [leN]
theorem leN_succ (k : Nat) (n : Int) : leN (k + 1) n = leN k n ++ [n / 256 ^ k % 256] := by simp [leN, List.range_succ]
theorem leN_cons (k : Nat) (n : Int) : leN (k + 1) n = n % 256 :: leN k (n / 256) := by
  unfold leN
  rw [List.range_succ_eq_map, List.map_cons, List.map_map]
  congr 1
  · simp
  · apply List.map_congr_left
    intro i _
    show n / 256 ^ (i + 1) % 256 = n / 256 / 256 ^ i % 256
    rw [Int.pow_succ, Int.mul_comm, ← Int.ediv_ediv_of_nonneg (by omega)]
theorem leN_by (k : Nat) (n : Int) : By (leN k n) := by_of_memB fun x hx => by
  simp only [leN, List.mem_map] at hx
  obtain ⟨i, _, rfl⟩ := hx
  omega
theorem vN_leN : ∀ (k : Nat) (n : Int), 0 ≤ n → n < 256 ^ k → vN (leN k n) = n
  | 0, n, h0, h1 => by
    simp at h1
    have : n = 0 := by omega
    rw [this]
    rfl
  | k + 1, n, h0, h1 => by
    rw [leN_cons]
    show n % 256 + 256 * vN (leN k (n / 256)) = n
    rw [vN_leN k (n / 256) (by omega) (by rw [Int.pow_succ] at h1; omega)]
    omega
theorem vN_snoc (b : Int) : ∀ xs : List Int, vN (xs ++ [b]) = vN xs + 256 ^ xs.length * b
  | [] => by simp [vN]
  | x :: xs => by
    show x + 256 * vN (xs ++ [b]) = x + 256 * vN xs + 256 ^ (xs.length + 1) * b
    rw [vN_snoc b xs, Int.mul_add, Int.pow_succ, Int.mul_comm (256 ^ xs.length) 256, Int.mul_assoc, Int.add_assoc]
theorem vN_bnd : ∀ xs : List Int, By xs → 0 ≤ vN xs ∧ vN xs < 256 ^ xs.length
  | [], _ => by simp [vN]
  | x :: xs, h => by
    have h0 := h 0
    have h1 := vN_bnd xs (fun i => h (i + 1))
    simp at h0
    show 0 ≤ x + 256 * vN xs ∧ x + 256 * vN xs < 256 ^ (xs.length + 1)
    rw [Int.pow_succ]
    omega
theorem vby_len (v : Vn) : (vby v).length = 11 := by simp [vby, leN_len]
theorem vsb_len (vs : List Vn) : (vsb vs).length = 11 * vs.length := by
  induction vs with
  | nil => rfl
  | cons v r ih =>
    have e : vsb (v :: r) = vby v ++ vsb r := by simp [vsb]
    rw [e, List.length_append, vby_len, ih, List.length_cons]
    omega
theorem vsb_snoc (vs : List Vn) (v : Vn) : vsb (vs ++ [v]) = vsb vs ++ vby v := by simp [vsb]
theorem hdb_len (s : Sp) : (hdb s).length = 15 := by simp [hdb, leN_len]
theorem upre_len {s : Sp} (h : s.vs.length ≤ 8) : (upre s).length = 252 := by
  simp only [upre, List.length_append, hdb_len, vsb_len, List.length_replicate]; omega
theorem usec_len {s : Sp} (h : s.vs.length ≤ 8) : (usec s).length = 256 := by
  simp only [usec, List.length_append, upre_len h, le4_len]
theorem usec_take {s : Sp} (h : s.vs.length ≤ 8) : (usec s).take 252 = upre s := by
  unfold usec
  rw [List.take_append_of_le_length (by rw [upre_len h]; exact Nat.le_refl _), List.take_of_length_le (by rw [upre_len h]; exact Nat.le_refl _)]
theorem usec_smd {s : Sp} (h : s.vs.length ≤ 8) : usec s = smd (usec s) := by
  unfold smd
  rw [usec_take h]
  rfl
theorem vby_by (v : Vn) : By (vby v) := (leN_by _ _).appendB ((leN_by _ _).appendB ((leN_by _ _).appendB (by_of_memB fun x hx => by simp at hx; subst hx; split <;> omega)))
theorem vsb_by (vs : List Vn) : By (vsb vs) := by
  induction vs with
  | nil => exact by_of_memB fun x hx => by cases hx
  | cons v r ih =>
    have e : vsb (v :: r) = vby v ++ vsb r := by simp [vsb]
    rw [e]
    exact (vby_by v).appendB ih
theorem hdb_by (s : Sp) : By (hdb s) := (by_of_memB (by decide)).appendB ((leN_by _ _).appendB ((leN_by _ _).appendB ((leN_by _ _).appendB (leN_by _ _))))
theorem upre_by (s : Sp) : By (upre s) := (hdb_by s).appendB ((vsb_by _).appendB (by_of_memB fun x hx => by rw [List.mem_replicate] at hx; omega))
theorem usec_by (s : Sp) : By (usec s) := (upre_by s).appendB (le4_by _)

theorem mayU_iff {s : Sp} : mayU s = true ↔ (1 ≤ s.gen ∧ s.gen ≤ 4294967295 ∧ 1 ≤ s.nx ∧ s.nx ≤ 4294967295 ∧ 128 ≤ s.sc ∧ s.sc ≤ 4096 ∧ s.vs.length ≤ 8) ∧ vsOk s.nx s.sc 0 s.vs = true := by
  unfold mayU hdOk
  rw [Bool.and_eq_true, decide_eq_true_iff]
theorem vOk_iff {nx sc last : Int} {v : Vn} : vOk nx sc last v = true ↔ (last + 1 ≤ v.id ∧ v.id ≤ nx - 1) ∧ (1 ≤ v.nx ∧ v.nx ≤ 16777216) ∧ (v.root = 0 ∨ (50 ≤ v.root ∧ v.root ≤ sc - 1)) := by unfold vOk; exact decide_eq_true_iff
/-- Numbers of a version that may be. -/
theorem vsOk_mem {nx sc : Int} : ∀ {vs : List Vn} {last : Int}, 0 ≤ last → vsOk nx sc last vs = true → ∀ v ∈ vs, 1 ≤ v.id ∧ v.id ≤ nx - 1 ∧ 1 ≤ v.nx ∧ v.nx ≤ 16777216 ∧ (v.root = 0 ∨ (50 ≤ v.root ∧ v.root ≤ sc - 1))
  | [], _, _, _, v, hv => by cases hv
  | u :: r, last, h0, h, v, hv => by
    unfold vsOk at h
    rw [Bool.and_eq_true, vOk_iff] at h
    rcases List.mem_cons.1 hv with rfl | e
    · omega
    · exact vsOk_mem (last := u.id) (by omega) h.2 v e

theorem sl_app {xs ys zs : List Int} {a k : Nat} (h : xs.drop a = ys ++ zs) (hk : ys.length = k) : sl xs a k = ys ∧ xs.drop (a + k) = zs := by
  subst hk
  refine ⟨by unfold sl; rw [h, List.take_left], ?_⟩
  rw [← List.drop_drop, h, List.drop_left]
theorem vsb_drop (Z : List Int) : ∀ (vs : List Vn) (i : Nat) (v : Vn), vs[i]? = some v → ∃ R, (vsb vs ++ Z).drop (11 * i) = vby v ++ R
  | [], i, v, h => by simp at h
  | u :: r, 0, v, h => by
    simp at h
    subst h
    exact ⟨vsb r ++ Z, by simp [vsb]⟩
  | u :: r, i + 1, v, h => by
    obtain ⟨R, hR⟩ := vsb_drop Z r i v (by simpa using h)
    refine ⟨R, ?_⟩
    have e : vsb (u :: r) ++ Z = vby u ++ (vsb r ++ Z) := by simp [vsb]
    rw [e, show 11 * (i + 1) = 11 + 11 * i by omega, ← List.drop_drop, ← vby_len u, List.drop_left]
    rw [vby_len]
    exact hR
theorem rdVn_of {f : Int → Bool} (f1 : f 1 = true) (f0 : f 0 = false) {xs R : List Int} {a : Nat} {v : Vn} (h : xs.drop a = vby v ++ R) (h1 : 1 ≤ v.id) (h2 : v.id ≤ 4294967295) (h3 : 1 ≤ v.nx) (h4 : v.nx ≤ 16777216) (h5 : 0 ≤ v.root) (h6 : v.root ≤ 4096) : rdVn f xs a = v := by
  unfold vby at h
  simp only [List.append_assoc] at h
  obtain ⟨e1, g1⟩ := sl_app h (leN_len 4 _)
  obtain ⟨e2, g2⟩ := sl_app g1 (leN_len 2 _)
  obtain ⟨e3, g3⟩ := sl_app g2 (leN_len 4 _)
  have e4 : xs.getD (a + 10) 0 = if v.fx then 1 else 0 := by
    have e := congrArg (fun l => List.getD l 0 0) g3
    simp only [List.getD_eq_getElem?_getD, List.getElem?_drop] at e
    rw [List.getD_eq_getElem?_getD, show a + 10 = a + 4 + 2 + 4 + 0 by omega, e]
    rfl
  unfold rdVn
  rw [show a + 6 = a + 4 + 2 by omega, e1, e2, e3, e4, vN_leN 4 _ (by omega) (by omega), vN_leN 2 _ (by omega) (by omega), vN_leN 4 _ (by omega) (by omega)]
  obtain ⟨i, r, n, x⟩ := v
  cases x
  · simp [f0]
  · simp [f1]
/-- What a superblock's sector says is the superblock. -/
theorem rd_usec {f : Int → Bool} (f1 : f 1 = true) (f0 : f 0 = false) {s : Sp} (h : mayU s = true) : rdS f (usec s) s.vs.length = s ∧ (usec s).getD 14 0 = (s.vs.length : Int) := by
  obtain ⟨⟨h1, h2, h3, h4, h5, h6, h7⟩, hv⟩ := mayU_iff.1 h
  have e0 : usec s = [75, 73, 83, 84] ++ (leN 4 s.gen ++ (leN 2 s.sc ++ (leN 4 s.nx ++ (leN 1 (s.vs.length : Int) ++ (vsb s.vs ++ (List.replicate (237 - 11 * s.vs.length) 0 ++ le4 (crc (upre s)))))))) := by
    unfold usec
    conv => lhs; lhs; unfold upre hdb
    simp only [List.append_assoc]
  obtain ⟨_, g0⟩ := sl_app (xs := usec s) (a := 0) (k := 4) (by rw [List.drop_zero]; exact e0) rfl
  obtain ⟨e1, g1⟩ := sl_app g0 (leN_len 4 _)
  obtain ⟨e2, g2⟩ := sl_app g1 (leN_len 2 _)
  obtain ⟨e3, g3⟩ := sl_app g2 (leN_len 4 _)
  obtain ⟨e4, g4⟩ := sl_app g3 (leN_len 1 _)
  have hn : (usec s).getD 14 0 = (s.vs.length : Int) := by
    have e := congrArg (fun l => List.getD l 0 0) g3
    simp only [List.getD_eq_getElem?_getD, List.getElem?_drop] at e
    rw [List.getD_eq_getElem?_getD, show 14 = 0 + 4 + 4 + 2 + 4 + 0 by omega, e]
    simp [leN]
    omega
  refine ⟨?_, hn⟩
  unfold rdS
  rw [show (4 : Nat) = 0 + 4 from rfl, show (8 : Nat) = 0 + 4 + 4 from rfl, show (10 : Nat) = 0 + 4 + 4 + 2 from rfl, e1, e2, e3, vN_leN _ _ (by omega) (by omega), vN_leN _ _ (by omega) (by omega), vN_leN _ _ (by omega) (by omega)]
  have e5 : rdVs f (usec s) s.vs.length = s.vs := by
    apply List.ext_getElem?
    intro i
    unfold rdVs
    rw [List.getElem?_map]
    by_cases hi : i < s.vs.length
    · rw [List.getElem?_range hi]
      obtain ⟨v, hv1⟩ : ∃ v, s.vs[i]? = some v := ⟨_, List.getElem?_eq_getElem hi⟩
      rw [hv1, Option.map_some]
      congr 1
      obtain ⟨R, hR⟩ := vsb_drop (List.replicate (237 - 11 * s.vs.length) 0 ++ le4 (crc (upre s))) s.vs i v hv1
      have hm := vsOk_mem (Int.le_refl 0) hv v (List.mem_of_getElem? hv1)
      refine rdVn_of f1 f0 (R := R) ?_ (by omega) (by omega) (by omega) (by omega) (by omega) (by omega)
      rw [← List.drop_drop, show (15 : Nat) = 0 + 4 + 4 + 2 + 4 + 1 from rfl, g4]
      exact hR
    · rw [List.getElem?_eq_none (l := List.range s.vs.length) (by simp; omega), List.getElem?_eq_none (by omega)]
      rfl
  rw [e5]

/-- These bytes are that superblock's. -/
def IsU (xs : List Int) (s : Sp) : Prop := mayU s = true ∧ xs = usec s
theorem IsU.uniq {xs : List Int} {s t : Sp} (h : IsU xs s) (k : IsU xs t) : s = t := by
  have e := h.2.symm.trans k.2
  have a := rd_usec (f := fun x => x == 1) rfl rfl h.1
  have b := rd_usec (f := fun x => x == 1) rfl rfl k.1
  have n : s.vs.length = t.vs.length := by
    have := a.2.symm.trans ((congrArg (fun l => List.getD l 14 0) e).trans b.2)
    omega
  rw [← a.1, ← b.1, e, n]
/-- The superblock that bytes tell. -/
def getU (xs : List Int) : Option Sp := if mayU (rdS (fun x => x == 1) xs (xs.getD 14 0).toNat) = true ∧ xs = usec (rdS (fun x => x == 1) xs (xs.getD 14 0).toNat) then some (rdS (fun x => x == 1) xs (xs.getD 14 0).toNat) else none
theorem getU_some {xs : List Int} {s : Sp} : getU xs = some s ↔ IsU xs s := by
  constructor
  · intro h
    unfold getU at h
    split at h
    · rename_i c
      cases h
      exact c
    · cases h
  · intro h
    have a := rd_usec (f := fun x => x == 1) rfl rfl h.1
    rw [← h.2] at a
    have n : (xs.getD 14 0).toNat = s.vs.length := by rw [a.2]; rfl
    unfold getU
    rw [n, a.1, if_pos (⟨h.1, h.2⟩ : mayU s = true ∧ xs = usec s)]
theorem getU_none {xs : List Int} (h : ∀ s, ¬ IsU xs s) : getU xs = none := by
  cases e : getU xs with
  | none => rfl
  | some s => exact absurd (getU_some.1 e) (h s)
theorem getU_put {s : Sp} (h : mayU s = true) : getU (usec s) = some s := getU_some.2 ⟨h, rfl⟩
theorem getU_len {xs : List Int} (h : xs.length ≠ 256) : getU xs = none := getU_none fun s hs => h (by rw [hs.2]; exact usec_len (mayU_iff.1 hs.1).1.2.2.2.2.2.2)
/-- Whoever reads what stands there tells this. -/
theorem getU_rd {f : Int → Bool} (f1 : f 1 = true) (f0 : f 0 = false) {xs : List Int} {n : Nat} (hb : By xs) (hn : (n : Int) = xs.getD 14 0 ∨ (8 < n ∧ 8 < xs.getD 14 0)) : getU xs = if mayU (rdS f xs n) = true ∧ xs = usec (rdS f xs n) then some (rdS f xs n) else none := by
  split
  · rename_i c
    exact getU_some.2 c
  · rename_i c
    refine getU_none fun s hs => c ?_
    have a := rd_usec f1 f0 hs.1
    rw [← hs.2] at a
    have h8 := (mayU_iff.1 hs.1).1.2.2.2.2.2.2
    have e : n = s.vs.length := by
      rcases hn with h | h <;> omega
    rw [e, a.1]
    exact hs
end Go.Proofs.Ytdicgaepggffbaa
