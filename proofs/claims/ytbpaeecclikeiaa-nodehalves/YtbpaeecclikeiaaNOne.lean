/-
  One key of a node as a node of its own; what NodeHalves says, plainly.
-/
import Derived.Test.YtbpaeecclikeiaaNHalf
namespace Go.Proofs.Ytbpaeecclikeiaa
open Go.RowKit Pl
set_option linter.unusedVariables false
set_option linter.unusedSimpArgs false
set_option maxRecDepth 100000

/-- One key, and what stands beside it. -/
def oneN (n : Nd) (i : Nat) : Nd := { lf := n.lf, ks := [kA n i], vs := if n.lf = true ∧ i < n.vs.length then [vA n i] else [], kd := if n.lf = false ∧ i < n.kd.length then [dA n i] else [] }
theorem one_sm {n : Nd} (hs : Sm n) (i : Nat) : Sm (oneN n i) := by
  refine ⟨fun j => ?_, fun j => ?_, ?_, ?_, ?_⟩
  · cases j with
    | zero => exact hs.ks i
    | succ j => show eS.size ≤ _; simp [eS, ByteArray.size]
  · show ((if n.lf = true ∧ i < n.vs.length then [vA n i] else []).getD j eS).size ≤ _
    split
    · cases j with
      | zero => exact hs.vs i
      | succ j => show eS.size ≤ _; simp [eS, ByteArray.size]
    · simp [eS, ByteArray.size]
  · show ([kA n i]).length ≤ _; simp
  · show (if n.lf = true ∧ i < n.vs.length then [vA n i] else []).length ≤ _
    split <;> simp
  · show (if n.lf = false ∧ i < n.kd.length then [dA n i] else []).length ≤ _
    split <;> simp
theorem kA_take (n : Nd) {k i : Nat} (h : i < k) : kA (takeN n k) i = kA n i := by show (n.ks.take k).getD i eS = _; rw [getD_take, if_pos h]; rfl
theorem vA_take (n : Nd) {k i : Nat} (h : i < k) : vA (takeN n k) i = vA n i := by show (n.vs.take k).getD i eS = _; rw [getD_take, if_pos h]; rfl
theorem dA_take (n : Nd) {k i : Nat} (h : i < k) : dA (takeN n k) i = dA n i := by show (n.kd.take k).getD i 0 = _; rw [getD_take, if_pos h]; rfl
theorem kA_drop (n : Nd) (k i : Nat) : kA (dropN n k) i = kA n (k + i) := by
  show (n.ks.drop k).getD i eS = n.ks.getD (k + i) eS
  rw [List.getD_eq_getElem?_getD, List.getElem?_drop, ← List.getD_eq_getElem?_getD]
theorem vA_drop (n : Nd) (k i : Nat) : vA (dropN n k) i = vA n (k + i) := by
  show (n.vs.drop k).getD i eS = n.vs.getD (k + i) eS
  rw [List.getD_eq_getElem?_getD, List.getElem?_drop, ← List.getD_eq_getElem?_getD]
theorem dA_drop (n : Nd) (k i : Nat) : dA (dropN n k) i = dA n (k + i) := by
  show (n.kd.drop k).getD i 0 = n.kd.getD (k + i) 0
  rw [List.getD_eq_getElem?_getD, List.getElem?_drop, ← List.getD_eq_getElem?_getD]
/-- It is one, but for its size. -/
structure Bts (n : Nd) : Prop where
  one : ∀ i, i < n.ks.length → MayP (oneN n i)
  ord : ∀ i, i < n.ks.length → 0 < i → lts (kA n (i - 1)) (kA n i) = true
  shp : if n.lf = true then n.vs.length = n.ks.length ∧ n.kd.length = 0 else n.kd.length = n.ks.length ∧ n.vs.length = 0
theorem Bts.key {n : Nd} (h : Bts n) {i : Nat} (hi : i < n.ks.length) : kOk n i := by
  obtain ⟨_, _, hk, _⟩ := h.one i hi
  obtain ⟨h1, _, h3⟩ := hk 0 (by show 0 < [kA n i].length; simp)
  exact ⟨h1, h.ord i hi, h3⟩
theorem Bts.val {n : Nd} (h : Bts n) (hl : n.lf = true) {i : Nat} (hi : i < n.ks.length) : (vA n i).size ≤ 24 := by
  obtain ⟨_, _, _, hv⟩ := h.one i hi
  have hs := h.shp
  rw [if_pos hl] at hs
  have hl1 : (oneN n i).lf = true := hl
  rw [if_pos hl1] at hv
  have hvs : (oneN n i).vs = [vA n i] := by show (if n.lf = true ∧ i < n.vs.length then [vA n i] else []) = _; rw [if_pos ⟨hl, by omega⟩]
  have := hv.1 0 (by rw [hvs]; simp)
  unfold vA at this
  rw [hvs] at this
  exact this
theorem Bts.kid {n : Nd} (h : Bts n) (hl : n.lf = false) {i : Nat} (hi : i < n.ks.length) : 0 ≤ dA n i ∧ dA n i ≤ 65535 := by
  obtain ⟨_, _, _, hv⟩ := h.one i hi
  have hs := h.shp
  rw [if_neg (by rw [hl]; simp)] at hs
  have hl1 : (oneN n i).lf = false := hl
  rw [if_neg (by rw [hl1]; simp)] at hv
  have hvs : (oneN n i).kd = [dA n i] := by show (if n.lf = false ∧ i < n.kd.length then [dA n i] else []) = _; rw [if_pos ⟨hl, by omega⟩]
  have := hv.1 0 (by rw [hvs]; simp)
  unfold dA at this
  rw [hvs] at this
  exact this
theorem Bts.small {n : Nd} (h : Bts n) {i : Nat} (hi : i < n.ks.length) : szA n i ≤ 50 := by
  have hk := (h.key hi).1
  unfold szA
  cases hl : n.lf with
  | true =>
    have := h.val hl hi
    rw [if_pos rfl]
    omega
  | false =>
    rw [if_neg (by simp)]
    split <;> omega
theorem Bts.sum {n : Nd} (h : Bts n) : ∀ k, k ≤ n.ks.length → szN n k ≤ 1 + 50 * k
  | 0, _ => by show 1 ≤ _; omega
  | k + 1, hk => by
    have := h.sum k (by omega)
    have := h.small (i := k) (by omega)
    show szN n k + szA n k ≤ _
    omega
theorem Bts.halves {n A C : Nd} (h : Bts n) (hs : Sm n) (hbig : 240 < W (szN n n.ks.length)) (hmax : W (szN n n.ks.length) ≤ 292) (hR : SplR n A C) : mayN A = true ∧ mayN C = true := by
  have hsum := h.sum n.ks.length (Nat.le_refl _)
  have hkl := hs.kl
  rw [W_small (by omega)] at hbig hmax
  rcases hR with ⟨h1, _, _⟩ | ⟨h2, m, hm, rfl, rfl⟩
  · omega
  have hh := half_small hm (fun i hi => h.small hi) (by omega) (by omega)
  have hl := hm.lt
  have h1 := hm.one
  have lt : (takeN n m).ks.length = m := len_take n (by omega)
  have ld : (dropN n m).ks.length = n.ks.length - m := by simp only [dropN, List.length_drop]
  rw [mayN_iff, mayN_iff]
  refine ⟨⟨by omega, ?_, fun i hi => ?_, ?_⟩, ⟨by omega, ?_, fun i hi => ?_, ?_⟩⟩
  · rw [lt, W_small (by omega)]; omega
  · rw [lt] at hi
    obtain ⟨k1, k2, k3⟩ := h.key (i := i) (by omega)
    unfold kOk
    rw [kA_take n hi, kA_take n (show i - 1 < m by omega)]
    exact ⟨k1, k2, k3⟩
  · rw [lt]
    show (if n.lf = true then _ else _)
    have hp := h.shp
    cases hlf : n.lf with
    | true =>
      rw [hlf, if_pos rfl] at hp
      rw [if_pos rfl]
      have lv : (takeN n m).vs.length = m := by simp only [takeN, List.length_take]; omega
      refine ⟨fun i hi => ?_, lv, by simp only [takeN, List.length_take]; omega⟩
      rw [lv] at hi
      rw [vA_take n hi]
      exact h.val hlf (by omega)
    | false =>
      rw [hlf, if_neg (by simp)] at hp
      rw [if_neg (by simp)]
      have lv : (takeN n m).kd.length = m := by simp only [takeN, List.length_take]; omega
      refine ⟨fun i hi => ?_, lv, by simp only [takeN, List.length_take]; omega⟩
      rw [lv] at hi
      rw [dA_take n hi]
      exact h.kid hlf (by omega)
  · rw [ld, W_small (by omega)]; omega
  · rw [ld] at hi
    obtain ⟨k1, k2, k3⟩ := h.key (i := m + i) (by omega)
    unfold kOk
    rw [kA_drop n, kA_drop n]
    refine ⟨k1, fun h0 => ?_, k3⟩
    have := k2 (by omega)
    rw [show m + (i - 1) = m + i - 1 by omega]
    exact this
  · rw [ld]
    show (if n.lf = true then _ else _)
    have hp := h.shp
    cases hlf : n.lf with
    | true =>
      rw [hlf, if_pos rfl] at hp
      rw [if_pos rfl]
      have lv : (dropN n m).vs.length = n.ks.length - m := by simp only [dropN, List.length_drop]; omega
      refine ⟨fun i hi => ?_, lv, by simp only [dropN, List.length_drop]; omega⟩
      rw [lv] at hi
      rw [vA_drop n]
      exact h.val hlf (by omega)
    | false =>
      rw [hlf, if_neg (by simp)] at hp
      rw [if_neg (by simp)]
      have lv : (dropN n m).kd.length = n.ks.length - m := by simp only [dropN, List.length_drop]; omega
      refine ⟨fun i hi => ?_, lv, by simp only [dropN, List.length_drop]; omega⟩
      rw [lv] at hi
      rw [dA_drop n]
      exact h.kid hlf (by omega)
end Go.Proofs.Ytbpaeecclikeiaa
