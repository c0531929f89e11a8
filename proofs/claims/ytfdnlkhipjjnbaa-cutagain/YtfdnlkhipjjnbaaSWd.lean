/-
  The digest, plainly: words of 32 bits.
-/
import Derived.Test.YtfdnlkhipjjnbaaSRot
namespace Go.Proofs.Ytfdnlkhipjjnbaa
open Go.RowKit Pl
set_option linter.unusedVariables false

theorem xor_lt {a b : Nat} (ha : a < 4294967296) (hb : b < 4294967296) : a ^^^ b < 4294967296 := Nat.xor_lt_two_pow (n := 32) ha hb
theorem and_lt (a : Nat) {b : Nat} (hb : b < 4294967296) : a &&& b < 4294967296 := Nat.and_lt_two_pow (n := 32) a hb

/-- A byte. -/
def bN (xs : List Int) (j : Nat) : Nat := (xs.getD j 0).toNat
theorem bN_lt {xs : List Int} (h : By xs) (j : Nat) : bN xs j < 256 := by have := h j; unfold bN; omega
theorem bN_eq {xs : List Int} (h : By xs) (j : Nat) : xs.getD j 0 = (bN xs j : Int) := by have := h j; unfold bN; omega

/-- Four bytes as a word, the highest first. -/
def wd (b : Nat → Nat) (i : Nat) : Nat := b (4 * i) * 16777216 + b (4 * i + 1) * 65536 + b (4 * i + 2) * 256 + b (4 * i + 3)
theorem wd_lt {b : Nat → Nat} (h : ∀ j, b j < 256) (i : Nat) : wd b i < 4294967296 := by
  have h1 := h (4 * i); have h2 := h (4 * i + 1); have h3 := h (4 * i + 2); have h4 := h (4 * i + 3)
  unfold wd; omega

def g0 (x : Nat) : Nat := rot 7 x ^^^ rot 18 x ^^^ x / 8
def g1 (x : Nat) : Nat := rot 17 x ^^^ rot 19 x ^^^ x / 1024
theorem g0_lt {x : Nat} (h : x < 4294967296) : g0 x < 4294967296 := xor_lt (xor_lt (rot_lt 7 x (by decide) (by decide) h) (rot_lt 18 x (by decide) (by decide) h)) (by omega)
theorem g1_lt {x : Nat} (h : x < 4294967296) : g1 x < 4294967296 := xor_lt (xor_lt (rot_lt 17 x (by decide) (by decide) h) (rot_lt 19 x (by decide) (by decide) h)) (by omega)

/-- The words of a piece. -/
def wF (d : Nat → Nat) (i : Nat) : Nat :=
  if h : i < 16 then d i
  else (wF d (i - 16) + g0 (wF d (i - 15)) + wF d (i - 7) + g1 (wF d (i - 2))) % 4294967296
termination_by i
decreasing_by all_goals omega

theorem wF_lo (d : Nat → Nat) (i : Nat) (h : i < 16) : wF d i = d i := by rw [wF, dif_pos h]
theorem wF_hi (d : Nat → Nat) (p : Nat) : wF d (p + 16) = (wF d p + g0 (wF d (p + 1)) + wF d (p + 9) + g1 (wF d (p + 14))) % 4294967296 := by
  rw [wF, dif_neg (by omega)]
  rw [show p + 16 - 16 = p by omega, show p + 16 - 15 = p + 1 by omega, show p + 16 - 7 = p + 9 by omega, show p + 16 - 2 = p + 14 by omega]
theorem wF_lt {d : Nat → Nat} (h : ∀ i, d i < 4294967296) (i : Nat) : wF d i < 4294967296 := by
  rw [wF]
  split
  · exact h i
  · exact Nat.mod_lt _ (by decide)
theorem wF_of {d f : Nat → Nat} {n : Nat} (h0 : ∀ i, i < 16 → i < n → f i = d i) (h1 : ∀ p, p + 16 < n → f (p + 16) = (f p + g0 (f (p + 1)) + f (p + 9) + g1 (f (p + 14))) % 4294967296) (i : Nat) (hi : i < n) : wF d i = f i := by
  induction i using Nat.strongRecOn with
  | ind i ih =>
    by_cases c : i < 16
    · rw [wF_lo d i c, h0 i c hi]
    · obtain ⟨p, rfl⟩ : ∃ p, i = p + 16 := ⟨i - 16, by omega⟩
      rw [wF_hi, h1 p hi, ih p (by omega) (by omega), ih (p + 1) (by omega) (by omega), ih (p + 9) (by omega) (by omega), ih (p + 14) (by omega) (by omega)]
theorem wF_congr {d e : Nat → Nat} (h : ∀ i, i < 16 → d i = e i) (i : Nat) : wF d i = wF e i :=
  wF_of (n := i + 1) (fun j hj _ => by rw [wF_lo e j hj, h j hj]) (fun p _ => wF_hi e p) i (Nat.lt_succ_self i)

/-- Eight words. -/
structure St where
  a : Nat
  b : Nat
  c : Nat
  d : Nat
  e : Nat
  f : Nat
  g : Nat
  h : Nat
deriving DecidableEq

def St.at_ (s : St) (i : Nat) : Nat := if i = 0 then s.a else if i = 1 then s.b else if i = 2 then s.c else if i = 3 then s.d else if i = 4 then s.e else if i = 5 then s.f else if i = 6 then s.g else s.h
structure St.ok (s : St) : Prop where
  a : s.a < 4294967296
  b : s.b < 4294967296
  c : s.c < 4294967296
  d : s.d < 4294967296
  e : s.e < 4294967296
  f : s.f < 4294967296
  g : s.g < 4294967296
  h : s.h < 4294967296
theorem St.ok.at_ {s : St} (h : s.ok) (i : Nat) : s.at_ i < 4294967296 := by
  obtain ⟨h1, h2, h3, h4, h5, h6, h7, h8⟩ := h
  unfold St.at_
  repeat (split; assumption)
  assumption

def s1 (e : Nat) : Nat := rot 6 e ^^^ rot 11 e ^^^ rot 25 e
def s0 (a : Nat) : Nat := rot 2 a ^^^ rot 13 a ^^^ rot 22 a
def ch (e f g : Nat) : Nat := (e &&& f) ^^^ ((4294967295 - e) &&& g)
def mj (a b c : Nat) : Nat := (a &&& b) ^^^ (a &&& c) ^^^ (b &&& c)
def tt (s : St) (k w : Nat) : Nat := (s.h + s1 s.e + ch s.e s.f s.g + k + w) % 4294967296
def uu (s : St) : Nat := (s0 s.a + mj s.a s.b s.c) % 4294967296
/-- One round. -/
def rnd (s : St) (k w : Nat) : St := ⟨(tt s k w + uu s) % 4294967296, s.a, s.b, s.c, (s.d + tt s k w) % 4294967296, s.e, s.f, s.g⟩
/-- So many rounds. -/
def rns (k w : Nat → Nat) (s : St) : Nat → St
  | 0 => s
  | i + 1 => rnd (rns k w s i) (k i) (w i)
def St.add (s r : St) : St := ⟨(s.a + r.a) % 4294967296, (s.b + r.b) % 4294967296, (s.c + r.c) % 4294967296, (s.d + r.d) % 4294967296, (s.e + r.e) % 4294967296, (s.f + r.f) % 4294967296, (s.g + r.g) % 4294967296, (s.h + r.h) % 4294967296⟩
/-- A piece is added. -/
def mixS (k w : Nat → Nat) (s : St) : St := s.add (rns k w s 64)

theorem s1_lt {x : Nat} (h : x < 4294967296) : s1 x < 4294967296 := xor_lt (xor_lt (rot_lt 6 x (by decide) (by decide) h) (rot_lt 11 x (by decide) (by decide) h)) (rot_lt 25 x (by decide) (by decide) h)
theorem s0_lt {x : Nat} (h : x < 4294967296) : s0 x < 4294967296 := xor_lt (xor_lt (rot_lt 2 x (by decide) (by decide) h) (rot_lt 13 x (by decide) (by decide) h)) (rot_lt 22 x (by decide) (by decide) h)
theorem ch_lt {e f g : Nat} (hf : f < 4294967296) (hg : g < 4294967296) : ch e f g < 4294967296 := xor_lt (and_lt _ hf) (and_lt _ hg)
theorem mj_lt {a b c : Nat} (hb : b < 4294967296) (hc : c < 4294967296) : mj a b c < 4294967296 := xor_lt (xor_lt (and_lt _ hb) (and_lt _ hc)) (and_lt _ hc)
theorem rnd_ok {s : St} (h : s.ok) (k w : Nat) : (rnd s k w).ok := ⟨Nat.mod_lt _ (by decide), h.a, h.b, h.c, Nat.mod_lt _ (by decide), h.e, h.f, h.g⟩
theorem rns_ok {s : St} (h : s.ok) (k w : Nat → Nat) : ∀ i, (rns k w s i).ok
  | 0 => h
  | i + 1 => rnd_ok (rns_ok h k w i) _ _
theorem add_ok (s r : St) : (s.add r).ok := ⟨Nat.mod_lt _ (by decide), Nat.mod_lt _ (by decide), Nat.mod_lt _ (by decide), Nat.mod_lt _ (by decide), Nat.mod_lt _ (by decide), Nat.mod_lt _ (by decide), Nat.mod_lt _ (by decide), Nat.mod_lt _ (by decide)⟩
theorem add_at (s r : St) (i : Nat) (hi : i < 8) : (s.add r).at_ i = (s.at_ i + r.at_ i) % 4294967296 := by
  match i, hi with
  | 0, _ => rfl | 1, _ => rfl | 2, _ => rfl | 3, _ => rfl | 4, _ => rfl | 5, _ => rfl | 6, _ => rfl | 7, _ => rfl

/-- The words k. -/
def kW : List Nat := [0x428a2f98, 0x71374491, 0xb5c0fbcf, 0xe9b5dba5, 0x3956c25b, 0x59f111f1, 0x923f82a4, 0xab1c5ed5,
  0xd807aa98, 0x12835b01, 0x243185be, 0x550c7dc3, 0x72be5d74, 0x80deb1fe, 0x9bdc06a7, 0xc19bf174,
  0xe49b69c1, 0xefbe4786, 0x0fc19dc6, 0x240ca1cc, 0x2de92c6f, 0x4a7484aa, 0x5cb0a9dc, 0x76f988da,
  0x983e5152, 0xa831c66d, 0xb00327c8, 0xbf597fc7, 0xc6e00bf3, 0xd5a79147, 0x06ca6351, 0x14292967,
  0x27b70a85, 0x2e1b2138, 0x4d2c6dfc, 0x53380d13, 0x650a7354, 0x766a0abb, 0x81c2c92e, 0x92722c85,
  0xa2bfe8a1, 0xa81a664b, 0xc24b8b70, 0xc76c51a3, 0xd192e819, 0xd6990624, 0xf40e3585, 0x106aa070,
  0x19a4c116, 0x1e376c08, 0x2748774c, 0x34b0bcb5, 0x391c0cb3, 0x4ed8aa4a, 0x5b9cca4f, 0x682e6ff3,
  0x748f82ee, 0x78a5636f, 0x84c87814, 0x8cc70208, 0x90befffa, 0xa4506ceb, 0xbef9a3f7, 0xc67178f2]
def kF (i : Nat) : Nat := kW.getD i 0
theorem kF_lt (i : Nat) : kF i < 4294967296 := by
  by_cases h : i < 64
  · have : ∀ j : Fin 64, kF j.val < 4294967296 := by decide +kernel
    exact this ⟨i, h⟩
  · unfold kF; rw [List.getD_eq_getElem?_getD, List.getElem?_eq_none (by show 64 ≤ i; omega)]; decide
def st0 : St := ⟨0x6a09e667, 0xbb67ae85, 0x3c6ef372, 0xa54ff53a, 0x510e527f, 0x9b05688c, 0x1f83d9ab, 0x5be0cd19⟩
theorem st0_ok : st0.ok := ⟨by decide, by decide, by decide, by decide, by decide, by decide, by decide, by decide⟩
/-- The words behind so many pieces of bytes b. -/
def dg (b : Nat → Nat) : Nat → St
  | 0 => st0
  | p + 1 => mixS kF (wF (wd fun j => b (64 * p + j))) (dg b p)
theorem dg_ok (b : Nat → Nat) : ∀ p, (dg b p).ok
  | 0 => st0_ok
  | p + 1 => add_ok _ _
theorem mixS_congr {k w k' w' : Nat → Nat} (s : St) (hk : ∀ i, i < 64 → k i = k' i) (hw : ∀ i, i < 64 → w i = w' i) : mixS k w s = mixS k' w' s := by
  have h : ∀ i, i ≤ 64 → rns k w s i = rns k' w' s i := by
    intro i
    induction i with
    | zero => intro _; rfl
    | succ i ih => intro hi; simp only [rns]; rw [ih (by omega), hk i (by omega), hw i (by omega)]
  unfold mixS; rw [h 64 (Nat.le_refl _)]
theorem dg_congr {b c : Nat → Nat} (n : Nat) (h : ∀ j, j < 64 * n → b j = c j) : dg b n = dg c n := by
  induction n with
  | zero => rfl
  | succ n ih =>
    simp only [dg]
    rw [ih (fun j hj => h j (by omega))]
    refine mixS_congr _ (fun _ _ => rfl) (fun i _ => ?_)
    refine wF_congr (fun j hj => ?_) i
    simp only [wd]
    rw [h (64 * n + 4 * j) (by omega), h (64 * n + (4 * j + 1)) (by omega), h (64 * n + (4 * j + 2)) (by omega), h (64 * n + (4 * j + 3)) (by omega)]
/-- The digest's bytes. -/
def dgB (s : St) (i : Nat) : Nat := s.at_ (i / 4) / 2 ^ (24 - 8 * (i % 4)) % 256
end Go.Proofs.Ytfdnlkhipjjnbaa
