/-
  A slice of pieces that came in can be read.
-/
import Derived.Test.YtbjpeomokgchnaaPiece
namespace Go.Proofs.Ytbjpeomokgchnaa
open Go.RowKit Pl

theorem rdP_of {W : World} {a : Addr} {len cap m : Nat} {V0 V1 : Nat → Value} (hl : len ≤ cap) (hm : cap ≤ maxLen) (hlm : len ≤ m)
    (hc : ∀ i, i < m → W.cell? (a.add (i * 2)) = some (V0 i) ∧ W.cell? (a.add (i * 2 + 1)) = some (V1 i))
    (hi : ∀ i, i < m → (∃ n, V0 i = .int .i64 n ∧ (Lit.int .i64 n).wf = true) ∧ ∃ x, V1 i = .int .i64 x ∧ (Lit.int .i64 x).wf = true) :
    RdP W (.slice (some a) len cap) ((List.range len).map fun i => (intOf (V0 i), intOf (V1 i))) ∧ ∀ i, (((List.range len).map fun i => (intOf (V0 i), intOf (V1 i))).getD i (0, 0)).2 < 9223372036854775808 := by
  have hget : ∀ i, i < len → ((List.range len).map fun i => (intOf (V0 i), intOf (V1 i))).getD i (0, 0) = (intOf (V0 i), intOf (V1 i)) := fun i h => by
    simp [List.getD_eq_getElem?_getD, h]
  refine ⟨⟨some a, cap, by simp, by simpa using hl, hm, ?_⟩, fun i => ?_⟩
  · by_cases h0 : len = 0
    · subst h0; exact .inl rfl
    · right
      obtain ⟨b, off, spot⟩ := a
      have hc0 := (hc 0 (by omega)).1
      have hspot : spot = none := by simpa [Addr.add] using World.cell?_spot hc0
      subst hspot
      refine ⟨b, off, rfl, fun i hi' => ?_⟩
      simp only [List.length_map, List.length_range] at hi'
      rw [hget i hi']
      obtain ⟨c0, c1⟩ := hc i (by omega)
      obtain ⟨⟨n, hn, _⟩, x, hx, _⟩ := hi i (by omega)
      rw [Addr.add_lit, hn] at c0
      rw [Addr.add_lit, hx] at c1
      rw [hn, hx]
      exact ⟨c0, by rw [← Nat.add_assoc] at c1; exact c1⟩
  · by_cases h : i < len
    · rw [hget i h]
      obtain ⟨_, x, hx, hw⟩ := hi i (by omega)
      rw [hx]
      simp [Lit.wf, IntKind.min, IntKind.max, IntKind.signed, IntKind.bits] at hw
      simp only [intOf]
      omega
    · simp [List.getD_eq_getElem?_getD, List.getElem?_eq_none (l := (List.range len).map fun i => (intOf (V0 i), intOf (V1 i))) (i := i) (by simp; omega)]

end Go.Proofs.Ytbjpeomokgchnaa
