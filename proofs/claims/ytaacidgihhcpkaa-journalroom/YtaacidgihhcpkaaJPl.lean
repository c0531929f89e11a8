/-
  The journal, plainly: pieces, their bytes, what a sector tells, and which records sectors tell.
-/
import Derived.Test.YtaacidgihhcpkaaUPl
namespace Go.Proofs.Ytaacidgihhcpkaa
open Go.RowKit Pl
set_option linter.unusedVariables false

/-- A piece: its place, how many there are, the generation, the record's number, its bytes. -/
structure Pc where
  pl : Nat
  mn : Nat
  gen : Nat
  num : Nat
  ys : List Int
deriving DecidableEq

def jhd (p : Pc) : List Int := leN 1 74 ++ (leN 1 (p.pl : Int) ++ (leN 1 (p.mn : Int) ++ (leN 1 (p.ys.length : Int) ++ (leN 4 (p.gen : Int) ++ leN 4 (p.num : Int)))))
/-- What stands ahead of the sum. -/
def jpre (p : Pc) : List Int := jhd p ++ (p.ys ++ List.replicate (240 - p.ys.length) 0)
/-- A piece's sector. -/
def jsec (p : Pc) : List Int := jpre p ++ le4 (crc (jpre p))
/-- The least number of bytes. -/
def lst (p : Pc) : Nat := if p.mn = 1 then 0 else if p.pl + 1 < p.mn then 232 else 1
def mayP (p : Pc) : Bool := decide (p.pl < p.mn) && (decide (lst p ≤ p.ys.length) && decide (p.ys.length ≤ 232))
/-- Its numbers have room. -/
structure OkR (p : Pc) : Prop where
  pl : p.pl < 256
  mn : p.mn < 256
  gen : p.gen < 4294967296
  num : p.num < 4294967296
  len : p.ys.length ≤ 240

/-- What a sector says, be it so or not. -/
def rdP (xs : List Int) : Pc := ⟨bN xs 1, bN xs 2, (vN (sl xs 4 4)).toNat, (vN (sl xs 8 4)).toNat, (xs.drop 12).take (min (bN xs 3) 240)⟩

theorem leN_1 (n : Nat) (h : n < 256) : leN 1 (n : Int) = [(n : Int)] := by
  simp [leN, List.range_succ]
  omega
theorem jhd_len (p : Pc) : (jhd p).length = 12 := by simp [jhd, leN_len]
theorem jpre_len {p : Pc} (h : p.ys.length ≤ 240) : (jpre p).length = 252 := by
  simp only [jpre, List.length_append, jhd_len, List.length_replicate]; omega
theorem jsec_len {p : Pc} (h : p.ys.length ≤ 240) : (jsec p).length = 256 := by simp only [jsec, List.length_append, jpre_len h, le4_len]
theorem jsec_take {p : Pc} (h : p.ys.length ≤ 240) : (jsec p).take 252 = jpre p := by
  unfold jsec
  rw [List.take_append_of_le_length (by rw [jpre_len h]; exact Nat.le_refl _), List.take_of_length_le (by rw [jpre_len h]; exact Nat.le_refl _)]
theorem jsec_smd {p : Pc} (h : p.ys.length ≤ 240) : jsec p = smd (jsec p) := by
  unfold smd
  rw [jsec_take h]
  rfl
theorem smd_jpre {p : Pc} (h : p.ys.length ≤ 240) (zs : List Int) : smd (jpre p ++ zs) = jsec p := by
  unfold smd
  rw [List.take_append_of_le_length (by rw [jpre_len h]; exact Nat.le_refl _), List.take_of_length_le (by rw [jpre_len h]; exact Nat.le_refl _)]
  rfl
theorem jhd_by (p : Pc) : By (jhd p) := (leN_by _ _).appendB ((leN_by _ _).appendB ((leN_by _ _).appendB ((leN_by _ _).appendB ((leN_by _ _).appendB (leN_by _ _)))))
theorem jpre_by {p : Pc} (h : By p.ys) : By (jpre p) := (jhd_by p).appendB (h.appendB (by_of_memB fun x hx => by rw [List.mem_replicate] at hx; omega))
theorem jsec_by {p : Pc} (h : By p.ys) : By (jsec p) := (jpre_by h).appendB (le4_by _)
theorem jsec_0 (p : Pc) : (jsec p).getD 0 0 = 74 := by simp [jsec, jpre, jhd, leN, List.range_succ]
theorem rdP_by {xs : List Int} (h : By xs) : By (rdP xs).ys := (h.dropB 12).take _
theorem rdP_len (xs : List Int) : (rdP xs).ys.length ≤ 240 := by
  show ((xs.drop 12).take (min (bN xs 3) 240)).length ≤ 240
  rw [List.length_take]
  omega
theorem rdP_ok {xs : List Int} (h : By xs) (hl : xs.length = 256) : OkR (rdP xs) := by
  have b4 : ∀ a, a + 4 ≤ 256 → (vN (sl xs a 4)).toNat < 4294967296 := fun a ha => by
    have hb : By (sl xs a 4) := (h.dropB a).take 4
    have := vN_bnd _ hb
    have hlen : (sl xs a 4).length = 4 := by unfold sl; rw [List.length_take, List.length_drop]; omega
    rw [hlen] at this
    omega
  exact ⟨bN_lt h 1, bN_lt h 2, b4 4 (by omega), b4 8 (by omega), rdP_len xs⟩

/-- What a piece's sector says is the piece. -/
theorem rdP_jsec {p : Pc} (h : OkR p) : rdP (jsec p) = p := by
  obtain ⟨h1, h2, h3, h4, h5⟩ := h
  have e0 : jsec p = leN 1 74 ++ (leN 1 (p.pl : Int) ++ (leN 1 (p.mn : Int) ++ (leN 1 (p.ys.length : Int) ++ (leN 4 (p.gen : Int) ++ (leN 4 (p.num : Int) ++ (p.ys ++ (List.replicate (240 - p.ys.length) 0 ++ le4 (crc (jpre p))))))))) := by
    unfold jsec
    conv => lhs; lhs; unfold jpre jhd
    simp only [List.append_assoc]
  obtain ⟨_, g0⟩ := sl_app (xs := jsec p) (a := 0) (k := 1) (by rw [List.drop_zero]; exact e0) (leN_len 1 _)
  obtain ⟨e1, g1⟩ := sl_app g0 (leN_len 1 _)
  obtain ⟨e2, g2⟩ := sl_app g1 (leN_len 1 _)
  obtain ⟨e3, g3⟩ := sl_app g2 (leN_len 1 _)
  obtain ⟨e4, g4⟩ := sl_app g3 (leN_len 4 _)
  obtain ⟨e5, g5⟩ := sl_app g4 (leN_len 4 _)
  have one : ∀ (a n : Nat) (R : List Int), n < 256 → (jsec p).drop a = leN 1 (n : Int) ++ R → bN (jsec p) a = n := fun a n R hn e => by
    have e := congrArg (fun l => List.getD l 0 0) e
    simp only [List.getD_eq_getElem?_getD, List.getElem?_drop, leN_1 n hn] at e
    unfold bN
    rw [List.getD_eq_getElem?_getD, show a = a + 0 by omega, e]
    rfl
  have b1 := one 1 _ _ h1 g0
  have b2 := one 2 _ _ h2 g1
  have b3 := one 3 _ _ (show p.ys.length < 256 by omega) g2
  have e6 : sl (jsec p) 4 4 = leN 4 (p.gen : Int) := e4
  have e7 : sl (jsec p) 8 4 = leN 4 (p.num : Int) := e5
  have e8 : (jsec p).drop 12 = p.ys ++ (List.replicate (240 - p.ys.length) 0 ++ le4 (crc (jpre p))) := g5
  unfold rdP
  rw [b1, b2, b3, e6, e7, e8, vN_leN 4 _ (by omega) (by omega), vN_leN 4 _ (by omega) (by omega), Nat.min_eq_left (by omega), List.take_append_of_le_length (Nat.le_refl _), List.take_of_length_le (Nat.le_refl _)]
  rfl
theorem jsec_inj {p q : Pc} (h : OkR p) (k : OkR q) (e : jsec p = jsec q) : p = q := by rw [← rdP_jsec h, e, rdP_jsec k]

/-- The sector is that of a piece that may be, with this place, so many pieces, this generation and number. -/
def IsP (xs : List Int) (i m g n : Nat) : Prop := mayP (rdP xs) = true ∧ xs = jsec (rdP xs) ∧ (rdP xs).pl = i ∧ (rdP xs).mn = m ∧ (rdP xs).gen = g ∧ (rdP xs).num = n
theorem mayP_iff {p : Pc} : mayP p = true ↔ p.pl < p.mn ∧ lst p ≤ p.ys.length ∧ p.ys.length ≤ 232 := by simp [mayP]
theorem IsP.eq {xs : List Int} {i m g n : Nat} (h : IsP xs i m g n) : xs = jsec ⟨i, m, g, n, (rdP xs).ys⟩ := by
  obtain ⟨_, h2, h3, h4, h5, h6⟩ := h
  conv => lhs; rw [h2]
  subst h3 h4 h5 h6
  rfl
theorem isP_of {p : Pc} (h : OkR p) (hm : mayP p = true) : IsP (jsec p) p.pl p.mn p.gen p.num := by
  unfold IsP
  rw [rdP_jsec h]
  exact ⟨hm, rfl, rfl, rfl, rfl, rfl⟩
theorem isP_jsec {p : Pc} (h : OkR p) {i m g n : Nat} : IsP (jsec p) i m g n ↔ mayP p = true ∧ p.pl = i ∧ p.mn = m ∧ p.gen = g ∧ p.num = n := by
  unfold IsP
  rw [rdP_jsec h]
  constructor
  · rintro ⟨h1, _, h2⟩
    exact ⟨h1, h2⟩
  · rintro ⟨h1, h2⟩
    exact ⟨h1, rfl, h2⟩
theorem IsP.smd {xs : List Int} {i m g n : Nat} (h : IsP xs i m g n) : xs = smd xs := by
  have e := jsec_smd (p := rdP xs) (rdP_len xs)
  rw [← h.2.1] at e
  exact e
theorem not_isP_zz {i m g n : Nat} : ¬ IsP (List.replicate 256 0) i m g n := fun h => by
  have e := congrArg (fun l => List.getD l 0 0) h.2.1
  rw [show List.getD (jsec (rdP (List.replicate 256 0))) 0 0 = 74 from jsec_0 _] at e
  have e2 : (List.replicate 256 (0 : Int)).getD 0 0 = 0 := rfl
  rw [e2] at e
  cases e

/-- How many pieces the record at a sector tells, whether it is one, and its bytes. -/
def jmn (f : Nat → List Int) (a : Nat) : Nat := bN (f a) 2
def JGood (f : Nat → List Int) (g n a : Nat) : Prop := 1 ≤ jmn f a ∧ a + jmn f a ≤ 50 ∧ ∀ i, i < jmn f a → IsP (f (a + i)) i (jmn f a) g n
def jdat (f : Nat → List Int) (a m : Nat) : List Int := (List.range m).flatMap fun i => (rdP (f (a + i))).ys
open Classical in
/-- The records from a sector on, with the number n. -/
noncomputable def jrun (f : Nat → List Int) (g : Nat) : Nat → Nat → Nat → List (List Int)
  | 0, _, _ => []
  | k + 1, n, a => if a < 50 ∧ JGood f g n a then jdat f a (jmn f a) :: jrun f g k (n + 1) (a + jmn f a) else []
noncomputable def jopen (f : Nat → List Int) (g : Nat) : List (List Int) := jrun f g 48 1 2

theorem jdat_succ (f : Nat → List Int) (a m : Nat) : jdat f a (m + 1) = jdat f a m ++ (rdP (f (a + m))).ys := by simp [jdat, List.range_succ]
theorem jrun_end (f : Nat → List Int) (g k n a : Nat) (h : ¬ (a < 50 ∧ JGood f g n a)) : jrun f g k n a = [] := by
  cases k with
  | zero => rfl
  | succ k => unfold jrun; rw [if_neg h]
theorem jrun_go {f : Nat → List Int} {g k n a : Nat} (h : a < 50) (hg : JGood f g n a) : jrun f g (k + 1) n a = jdat f a (jmn f a) :: jrun f g k (n + 1) (a + jmn f a) := by
  conv => lhs; unfold jrun
  rw [if_pos ⟨h, hg⟩]
theorem jrun_len (f : Nat → List Int) (g : Nat) : ∀ k n a, (jrun f g k n a).length ≤ 50 - a
  | 0, n, a => by simp [jrun]
  | k + 1, n, a => by
    by_cases h : a < 50 ∧ JGood f g n a
    · rw [jrun_go h.1 h.2, List.length_cons]
      have := jrun_len f g k (n + 1) (a + jmn f a)
      have := h.2.1
      have := h.1
      omega
    · rw [jrun_end f g _ n a h]; simp
/-- Two disks with the same sectors tell the same. -/
theorem jdat_congr {f f' : Nat → List Int} {a m : Nat} (h : ∀ i, i < m → f (a + i) = f' (a + i)) : jdat f a m = jdat f' a m := by
  induction m with
  | zero => rfl
  | succ m ih => rw [jdat_succ, jdat_succ, ih (fun i hi => h i (by omega)), h m (by omega)]
end Go.Proofs.Ytaacidgihhcpkaa
