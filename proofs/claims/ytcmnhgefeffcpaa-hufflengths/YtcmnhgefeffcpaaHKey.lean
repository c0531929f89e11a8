/-
  A code as a key of a map.
-/
import Derived.Test.YtcmnhgefeffcpaaHEnc
import Derived.DeepKeys4
import Derived.Maps.Own
import Derived.Maps.OwnOps
import Derived.Maps.OwnSet
import Derived.Maps.Keyed
import Derived.Maps.Views
namespace Go.Proofs.Ytcmnhgefeffcpaa
open Go.RowKit Pl Go.Maps Go.WideMaps
set_option linter.unusedVariables false
set_option maxRecDepth 100000

theorem laidOutP : laidOutB Try.prog = true := by kernel_rfl
theorem rowC : (84 : TypeId) < Try.prog.types.size := of_decide_eq_true (by kernel_rfl)
theorem wideC : (match Try.prog.underlying 84 with | some (.array _ _) | some (.struct _) => true | _ => false) = true := by rw [Try.underlying84]
theorem lawC : KeyLaw Try.prog 84 := deep_law_laid laidOutP (m := 2) (by omega) rowC (by kernel_rfl) wideC
theorem keyedC : Keyed Try.prog 84 := Keyed.of_law lawC
theorem cellsC : Try.prog.cellsOf 84 = 2 := by kernel_rfl
theorem cellsI : Try.prog.cellsOf 3 = 1 := by kernel_rfl
theorem keyTypeC : Try.prog.keyType 84 = true := by kernel_rfl

theorem key_ex (a b : Int) (ha : (Lit.int .i64 a).wf = true) (hb : (Lit.int .i64 b).wf = true) : ∃ l, keyOf Try.prog 84 (.agg #[.int .i64 a, .int .i64 b]) = some l := by
  unfold keyOf
  rw [Try.underlying84]
  simp only [keyTypeC]
  have hf : (Value.agg #[.int .i64 a, .int .i64 b]).formed Try.prog 84 = true := by simp [Value.formed, Try.underlying84, cellsC]
  rw [hf]
  have hl : ∀ d, Try.prog.keyLits (d + 2) 84 [.int .i64 a, .int .i64 b] = some [.int .i64 a, .int .i64 b] := fun d => by
    simp [Program.keyLits, Try.underlying84, Try.underlying3, cellsC, cellsI, ha, hb]
  have h36 : 84 < Try.prog.types.size := rowC
  have hs : Try.prog.types.size + 1 = (Try.prog.types.size - 1) + 2 := by omega
  rw [hs, show (Value.agg #[.int .i64 a, .int .i64 b]).cells.toList = [.int .i64 a, .int .i64 b] from rfl, hl]
  exact ⟨_, rfl⟩

theorem code_inj {ls : List Int} {c d : Nat} (hc : 0 < ls.getD c 0) (hd : 0 < ls.getD d 0) (e : cd ls c = cd ls d) : c = d := by
  unfold cd at e
  rw [if_pos hc, if_pos hd] at e
  simp only [Prod.mk.injEq] at e
  obtain ⟨e1, e2⟩ := e
  obtain ⟨s, hs⟩ := Int.eq_ofNat_of_zero_le (Int.le_of_lt hc)
  have hs1 : 1 ≤ s := by omega
  rw [← e1, hs, Int.toNat_natCast] at e2
  rcases Nat.lt_trichotomy c d with h | h | h
  · have := code_ne ls (s := s - 1) h (by rw [hs]; omega)
    omega
  · exact h
  · have := code_ne ls (s := s - 1) h (by rw [← e1, hs]; omega)
    omega

/-- Block b of w is the map of the codes of the first k bytes. -/
def KM (ls : List Int) (w : World) (b k : Nat) : Prop :=
  ∃ (D : DataW Unit) (n : Nat), w.ownsMap Try.prog 84 (plainElem Try.prog 5) b n D ∧ n ≤ k ∧ IsMap D ∧
    ∀ s v kl, keyOf Try.prog 84 (.agg #[.int .i64 s, .int .i64 v]) = some kl →
      (Maps.has D kl = true ↔ ∃ c, c < k ∧ 0 < ls.getD c 0 ∧ cd ls c = (s, v)) ∧ ∀ c, c < k → 0 < ls.getD c 0 → cd ls c = (s, v) → D.atKey kl (.lit (.int .u8 0)) = .lit (.int .u8 (c : Int))

theorem KM.start (ls : List Int) (w : World) : KM ls (w.alloc (.map #[] 0)) w.heap.size 0 :=
  ⟨.map [], 0, World.ownsMap_made w _ _ _, Nat.le_refl _, ⟨[], rfl⟩, fun s v kl _ => ⟨⟨fun h => by simp [Maps.has] at h, fun ⟨c, h, _⟩ => by omega⟩, fun c h => by omega⟩⟩

theorem KM.miss {ls : List Int} {w : World} {b k : Nat} (h : KM ls w b k) (hz : ¬ 0 < ls.getD k 0) : KM ls w b (k + 1) := by
  obtain ⟨D, n, h1, h2, h3, h4⟩ := h
  refine ⟨D, n, h1, by omega, h3, fun s v kl hk => ?_⟩
  obtain ⟨g1, g2⟩ := h4 s v kl hk
  refine ⟨g1.trans ⟨fun ⟨c, a, b⟩ => ⟨c, by omega, b⟩, fun ⟨c, a, b, d⟩ => ⟨c, ?_, b, d⟩⟩, fun c hc hp he => g2 c ?_ hp he⟩
  · by_cases e : c = k
    · subst e; exact absurd b hz
    · omega
  · by_cases e : c = k
    · subst e; exact absurd hp hz
    · omega

theorem KM.hit {ls : List Int} {k : Nat} {D : DataW Unit} {s v : Int} {kl : Lit} (hD : IsMap D) (hk0 : keyOf Try.prog 84 (.agg #[.int .i64 s, .int .i64 v]) = some kl) (hz : 0 < ls.getD k 0) (hc : cd ls k = (s, v))
    (h4 : ∀ s v kl, keyOf Try.prog 84 (.agg #[.int .i64 s, .int .i64 v]) = some kl → (Maps.has D kl = true ↔ ∃ c, c < k ∧ 0 < ls.getD c 0 ∧ cd ls c = (s, v)) ∧ ∀ c, c < k → 0 < ls.getD c 0 → cd ls c = (s, v) → D.atKey kl (.lit (.int .u8 0)) = .lit (.int .u8 (c : Int))) :
    ∀ s' v' kl', keyOf Try.prog 84 (.agg #[.int .i64 s', .int .i64 v']) = some kl' → (Maps.has (D.put kl (.lit (.int .u8 (k : Int)))) kl' = true ↔ ∃ c, c < k + 1 ∧ 0 < ls.getD c 0 ∧ cd ls c = (s', v')) ∧
      ∀ c, c < k + 1 → 0 < ls.getD c 0 → cd ls c = (s', v') → (D.put kl (.lit (.int .u8 (k : Int)))).atKey kl' (.lit (.int .u8 0)) = .lit (.int .u8 (c : Int)) := by
  intro s' v' kl' hk'
  have hlit : WideAt.IsKeyLit kl := keyedC.key hk0
  by_cases e : kl' = kl
  · subst e
    have hv := keyedC.inj hk' hk0
    simp at hv
    obtain ⟨rfl, rfl⟩ := hv
    refine ⟨⟨fun _ => ⟨k, by omega, hz, hc⟩, fun _ => has_put_same hD hlit _⟩, fun c _ hp he => ?_⟩
    have : c = k := code_inj hp hz (he.trans hc.symm)
    subst this
    exact atKey_put_same hD hlit _ _
  · have hne : (s', v') ≠ (s, v) := fun x => e (by
      simp only [Prod.mk.injEq] at x
      obtain ⟨rfl, rfl⟩ := x
      rw [hk0] at hk'
      exact (Option.some.inj hk').symm)
    obtain ⟨g1, g2⟩ := h4 s' v' kl' hk'
    rw [has_put_other e, atKey_put_other e]
    refine ⟨g1.trans ⟨fun ⟨c, a, b⟩ => ⟨c, by omega, b⟩, fun ⟨c, a, b, d⟩ => ⟨c, ?_, b, d⟩⟩, fun c hc2 hp he => g2 c ?_ hp he⟩
    · by_cases e2 : c = k
      · subst e2; exact absurd (d.symm.trans hc) hne
      · omega
    · by_cases e2 : c = k
      · subst e2; exact absurd (he.symm.trans hc) hne
      · omega

theorem KM.lt {ls : List Int} {w : World} {b k : Nat} (h : KM ls w b k) : b < w.heap.size := by
  obtain ⟨D, n, h1, _⟩ := h
  exact h1.lt
theorem KM.tch {S : Nat → Prop} {ls : List Int} {w w' : World} {b k : Nat} (h : KM ls w b k) (ht : Tch S w w') (hb : ¬ S b) : KM ls w' b k := by
  obtain ⟨D, n, h1, h2⟩ := h
  refine ⟨D, n, ?_, h2⟩
  have hlt := h1.lt
  obtain ⟨es, clock, q1, q2⟩ := h1
  exact ⟨es, clock, by rw [ht.block b hlt hb]; exact q1, q2⟩
end Go.Proofs.Ytcmnhgefeffcpaa
