/-
  Nodes, plainly: their sizes, which may be, their bytes, where a key stands, where one is split.
-/
import Derived.Test.YtbpaeecclikeiaaRow
import Derived.Laws.BytesArg
import Derived.Lib.AppendStr
import Derived.Laws.Cover1
namespace Go.Proofs.Ytbpaeecclikeiaa
open Go.RowKit Pl
set_option linter.unusedVariables false

/-- A node. -/
structure Nd where
  lf : Bool
  ks : List ByteArray
  vs : List ByteArray
  kd : List Int

def eS : ByteArray := ⟨#[]⟩
def kA (n : Nd) (i : Nat) : ByteArray := n.ks.getD i eS
def vA (n : Nd) (i : Nat) : ByteArray := n.vs.getD i eS
def dA (n : Nd) (i : Nat) : Int := n.kd.getD i 0
/-- How many bytes a key has, with what stands beside it. -/
def szA (n : Nd) (i : Nat) : Nat := 1 + (kA n i).size + (if n.lf = true then 1 + (vA n i).size else if i < n.kd.length then 2 else 0)
/-- How many bytes the first keys have. -/
def szN (n : Nd) : Nat → Nat
  | 0 => 1
  | k + 1 => szN n k + szA n k
/-- A number as the machine has it. -/
def W (x : Nat) : Int := wrap64 (x : Int)
theorem wrap_plus (a b : Int) : wrap64 (wrap64 a + b) = wrap64 (a + b) := by unfold wrap64; omega
theorem wrap_plus2 (a b : Int) : wrap64 (b + wrap64 a) = wrap64 (b + a) := by unfold wrap64; omega
theorem W_small {x : Nat} (h : x < 4611686018427387904) : W x = (x : Int) := by unfold W wrap64; omega
theorem W_add (x y : Nat) : wrap64 (W x + (y : Int)) = W (x + y) := by
  unfold W; rw [wrap_plus]; congr 1
theorem W_in (x : Nat) : -9223372036854775808 ≤ W x ∧ W x ≤ 9223372036854775807 := by unfold W wrap64; omega

theorem u8_low (d : Int) : IntKind.u8.wrap d = d % 256 := by simp [IntKind.wrap, IntKind.signed, IntKind.bits]
theorem u8_high {d : Int} (h0 : 0 ≤ d) (h1 : d ≤ 65535) : IntKind.u8.wrap (d / 256) = d / 256 := by rw [u8_low]; omega

/-- Nothing is greater than what may come in. -/
structure Sm (n : Nd) : Prop where
  ks : ∀ i, (kA n i).size ≤ 140737488351232
  vs : ∀ i, (vA n i).size ≤ 140737488351232
  kl : n.ks.length ≤ 8796093021952
  vl : n.vs.length ≤ 8796093021952
  dl : n.kd.length ≤ 17592186043904

/-- Byte by byte less. -/
def lts (a b : ByteArray) : Bool := Op.bytesLess a.toList b.toList
def eqs (a b : ByteArray) : Bool := a.toList == b.toList

/-- Whether a key may stand where it does. -/
def kOk (n : Nd) (i : Nat) : Prop := (kA n i).size ≤ 24 ∧ (0 < i → lts (kA n (i - 1)) (kA n i) = true) ∧ (n.lf = true → eqs (kA n i) eS = false)
def MayP (n : Nd) : Prop := 1 ≤ n.ks.length ∧ W (szN n n.ks.length) ≤ 240 ∧ (∀ i, i < n.ks.length → kOk n i) ∧
  (if n.lf = true then (∀ i, i < n.vs.length → (vA n i).size ≤ 24) ∧ n.vs.length = n.ks.length ∧ n.kd.length = 0
   else (∀ i, i < n.kd.length → 0 ≤ dA n i ∧ dA n i ≤ 65535) ∧ n.kd.length = n.ks.length ∧ n.vs.length = 0)
open Classical in
noncomputable def mayN (n : Nd) : Bool := decide (MayP n)
theorem mayN_iff {n : Nd} : mayN n = true ↔ MayP n := by unfold mayN; exact @decide_eq_true_iff _ (Classical.propDecidable _)
theorem mayN_no {n : Nd} (h : ¬ MayP n) : mayN n = false := by unfold mayN; exact @decide_eq_false _ (Classical.propDecidable _) h

/-- A text's bytes. -/
def bts (s : ByteArray) : List Int := s.data.toList.map fun b => (b.toNat : Int)
theorem bts_len (s : ByteArray) : (bts s).length = s.size := by unfold bts; rw [List.length_map]; exact Array.length_toList
theorem bts_by (s : ByteArray) : By (bts s) := by
  intro i
  rw [List.getD_eq_getElem?_getD]
  cases e : (bts s)[i]? with
  | none => simp
  | some x =>
    unfold bts at e
    rw [List.getElem?_map] at e
    cases e2 : s.data.toList[i]? with
    | none => rw [e2] at e; cases e
    | some b =>
      rw [e2] at e
      simp only [Option.map_some, Option.some.injEq] at e
      have := b.toNat_lt
      simp only [Option.getD_some]
      omega
theorem bts_cells (s : ByteArray) : Lib.strCells s = (bts s).map (Value.int .u8) := by
  unfold Lib.strCells bts
  rw [List.map_map]
  rfl
theorem bts_str {xs : List Int} (h : By xs) : bts (strOfNums xs) = xs := by
  unfold bts
  rw [strOfNums_data, List.map_map]
  apply List.ext_getElem
  · simp
  · intro i h1 h2
    have hb := h i
    rw [List.getD_eq_getElem?_getD, List.getElem?_eq_getElem h2] at hb
    simp only [Option.getD_some] at hb
    simp only [List.getElem_map, Function.comp]
    have : (UInt8.ofNat (xs[i]).toNat).toNat = (xs[i]).toNat := by rw [UInt8.toNat_ofNat']; omega
    rw [this]; omega
theorem str_bts (s : ByteArray) : strOfNums (bts s) = s := by
  obtain ⟨d⟩ := s
  unfold strOfNums bts
  congr 1
  rw [List.map_map]
  have : (fun n : Int => UInt8.ofNat n.toNat) ∘ (fun b : UInt8 => (b.toNat : Int)) = id := by
    funext b
    simp
  rw [this]
  simp

/-- The bytes of a key, and of what stands beside it. -/
def itm (n : Nd) (i : Nat) : List Int := ((kA n i).size : Int) :: (bts (kA n i) ++ (if n.lf = true then ((vA n i).size : Int) :: bts (vA n i) else [dA n i % 256, dA n i / 256]))
/-- The bytes of the first keys. -/
def encN (n : Nd) : Nat → List Int
  | 0 => [(n.ks.length : Int)]
  | k + 1 => encN n k ++ itm n k

/-- Where a key stands, or goes. -/
def plc (n : Nd) (key : ByteArray) : Nat → Nat
  | 0 => 0
  | k + 1 => if n.lf = true then (if lts (kA n k) key = true then k + 1 else plc n key k) else (if (lts (kA n k) key || eqs (kA n k) key) = true then k else plc n key k)
theorem plc_le (n : Nd) (key : ByteArray) (k : Nat) : plc n key k ≤ k := by
  induction k with
  | zero => exact Nat.le_refl _
  | succ k ih => simp only [plc]; split <;> split <;> omega
end Go.Proofs.Ytbpaeecclikeiaa
