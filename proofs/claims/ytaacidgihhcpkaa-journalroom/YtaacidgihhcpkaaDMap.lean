/-
  The map of versions: by their sector a slice; as data, the slices themselves.
-/
import Derived.Test.YtaacidgihhcpkaaDSec
import Derived.Maps.Own
import Derived.Maps.OwnSet
import Derived.Maps.RangeWalk
import Derived.Maps.Views
import Derived.Maps.Ext
namespace Go.Proofs.Ytaacidgihhcpkaa
open Go.RowKit Go.Maps
set_option linter.unusedVariables false

/-- An element reads as itself. -/
def Rv (v : Value) : Option (DataW Value × List MemPlace) := some (.held v, [])

/-- The entries, rising. -/
def ents (n : Nat) (g : Nat → Option Value) : List (Lit × DataW Value) := (List.range n).filterMap fun i => (g i).map fun v => (Lit.int .i64 (i : Int), DataW.held v)
def Dm (n : Nat) (g : Nat → Option Value) : DataW Value := .map (ents n g)

theorem ents_mem {n : Nat} {g : Nat → Option Value} {p : Lit × DataW Value} : p ∈ ents n g ↔ ∃ i v, i < n ∧ g i = some v ∧ p = (Lit.int .i64 (i : Int), DataW.held v) := by
  unfold ents
  rw [List.mem_filterMap]
  constructor
  · rintro ⟨i, hi, h⟩
    cases e : g i with
    | none => rw [e] at h; cases h
    | some v => rw [e] at h; simp at h hi; exact ⟨i, v, hi, e, h.symm⟩
  · rintro ⟨i, v, hi, e, rfl⟩
    exact ⟨i, by simpa using hi, by rw [e]; rfl⟩

theorem ents_rising (n : Nat) (g : Nat → Option Value) : (ents n g).Pairwise (fun p q => p.1.before q.1 = true) := by
  unfold ents
  rw [List.pairwise_filterMap]
  refine List.Pairwise.imp ?_ List.pairwise_lt_range
  intro i j hij p hp q hq
  cases e : g i with
  | none => rw [e] at hp; cases hp
  | some v =>
    cases e2 : g j with
    | none => rw [e2] at hq; cases hq
    | some u =>
      rw [e] at hp
      rw [e2] at hq
      simp at hp hq
      subst hp
      subst hq
      simp [Lit.before]
      exact hij

theorem dm_canon (n : Nat) (g : Nat → Option Value) : Canon (Dm n g) := ⟨_, rfl, ents_rising n g, fun p hp => by
  obtain ⟨i, v, _, _, rfl⟩ := ents_mem.1 hp
  trivial⟩

theorem dm_has {n : Nat} {g : Nat → Option Value} {kl : Lit} : Maps.has (Dm n g) kl = true ↔ ∃ i v, i < n ∧ g i = some v ∧ kl = Lit.int .i64 (i : Int) := by
  unfold Dm
  rw [has_eq, List.any_eq_true]
  constructor
  · rintro ⟨p, hp, hs⟩
    obtain ⟨i, v, hi, hg, rfl⟩ := ents_mem.1 hp
    exact ⟨i, v, hi, hg, (WideAt.sameKey_eq hs).symm⟩
  · rintro ⟨i, v, hi, hg, rfl⟩
    exact ⟨_, ents_mem.2 ⟨i, v, hi, hg, rfl⟩, by simp [Lit.sameKey]⟩

theorem dm_at {n : Nat} {g : Nat → Option Value} {i : Nat} {v : Value} (hi : i < n) (hg : g i = some v) (z : DataW Value) : (Dm n g).atKey (Lit.int .i64 (i : Int)) z = .held v := by
  unfold Dm DataW.atKey
  cases e : (ents n g).find? (fun p => p.1.sameKey (Lit.int .i64 (i : Int))) with
  | none =>
    have h := List.find?_eq_none.1 e _ (ents_mem.2 ⟨i, v, hi, hg, rfl⟩)
    simp [Lit.sameKey] at h
  | some p =>
    have h1 := List.find?_some e
    have h2 := List.mem_of_find?_eq_some e
    obtain ⟨j, u, _, hu, rfl⟩ := ents_mem.1 h2
    have h3 := WideAt.sameKey_eq h1
    simp at h3
    have h3 : j = i := by omega
    subst h3
    rw [hg] at hu
    cases hu
    simp only [e]

theorem dm_not {n : Nat} {g : Nat → Option Value} {i : Nat} (hg : g i = none) (z : DataW Value) : (Dm n g).atKey (Lit.int .i64 (i : Int)) z = z := by
  refine atKey_of_not_has ?_ z
  rw [Bool.eq_false_iff]
  intro h
  obtain ⟨j, v, _, hj, e⟩ := dm_has.1 h
  simp at e
  have e : i = j := by omega
  subst e
  rw [hg] at hj
  cases hj

/-- One turned. -/
def gput (g : Nat → Option Value) (i : Nat) (v : Option Value) (j : Nat) : Option Value := if j = i then v else g j

theorem dm_ext {D : DataW Value} {n : Nat} {g : Nat → Option Value} (hc : Canon D) (hh : ∀ k, Maps.has D k = true ↔ Maps.has (Dm n g) k = true) (ha : ∀ i v, i < n → g i = some v → ∀ z, D.atKey (Lit.int .i64 (i : Int)) z = .held v) : D = Dm n g := by
  refine Maps.ext hc (dm_canon n g) (fun k => by rw [Bool.eq_iff_iff]; exact hh k) (fun k z h => ?_)
  obtain ⟨i, v, hi, hg, rfl⟩ := dm_has.1 ((hh k).1 h)
  rw [ha i v hi hg z, dm_at hi hg z]

theorem dm_put {n : Nat} {g : Nat → Option Value} {i : Nat} (hi : i < n) (v : Value) (hc : Canon ((Dm n g).put (Lit.int .i64 (i : Int)) (.held v))) : (Dm n g).put (Lit.int .i64 (i : Int)) (.held v) = Dm n (gput g i (some v)) := by
  have hm : IsMap (Dm n g) := ⟨_, rfl⟩
  have hk : WideAt.IsKeyLit (Lit.int .i64 (i : Int)) := trivial
  refine dm_ext hc (fun k => ?_) (fun j u hj hu z => ?_)
  · by_cases e : k = Lit.int .i64 (i : Int)
    · subst e
      rw [has_put_same hm hk]
      exact ⟨fun _ => dm_has.2 ⟨i, v, hi, by simp [gput], rfl⟩, fun _ => rfl⟩
    · rw [has_put_other e, dm_has, dm_has]
      constructor
      · rintro ⟨j, u, hj, hu, rfl⟩
        have : j ≠ i := fun h => e (by rw [h])
        exact ⟨j, u, hj, by simp [gput, this, hu], rfl⟩
      · rintro ⟨j, u, hj, hu, rfl⟩
        have : j ≠ i := fun h => e (by rw [h])
        simp [gput, this] at hu
        exact ⟨j, u, hj, hu, rfl⟩
  · by_cases e : j = i
    · subst e
      simp [gput] at hu
      subst hu
      exact atKey_put_same hm hk _ _
    · simp [gput, e] at hu
      rw [atKey_put_other (by simp; omega), dm_at hj hu]

theorem dm_del {n : Nat} {g : Nat → Option Value} {i : Nat} (hc : Canon ((Dm n g).del (Lit.int .i64 (i : Int)))) : (Dm n g).del (Lit.int .i64 (i : Int)) = Dm n (gput g i none) := by
  refine dm_ext hc (fun k => ?_) (fun j u hj hu z => ?_)
  · by_cases e : k = Lit.int .i64 (i : Int)
    · subst e
      rw [has_del_same]
      constructor
      · intro h; cases h
      · intro h
        obtain ⟨j, u, hj, hu, e⟩ := dm_has.1 h
        simp at e
        have e : j = i := by omega
        subst e
        simp [gput] at hu
    · rw [has_del_other e, dm_has, dm_has]
      constructor
      · rintro ⟨j, u, hj, hu, rfl⟩
        have : j ≠ i := fun h => e (by rw [h])
        exact ⟨j, u, hj, by simp [gput, this, hu], rfl⟩
      · rintro ⟨j, u, hj, hu, rfl⟩
        have : j ≠ i := fun h => e (by rw [h])
        simp [gput, this] at hu
        exact ⟨j, u, hj, hu, rfl⟩
  · by_cases e : j = i
    · subst e
      simp [gput] at hu
    · simp [gput, e] at hu
      rw [atKey_del_other (by simp; omega), dm_at hj hu]

theorem dm_size (n : Nat) (g : Nat → Option Value) : Maps.size (Dm n g) ≤ n := by
  unfold Dm
  rw [size_eq]
  have := List.length_filterMap_le (fun i => (g i).map fun v => (Lit.int .i64 (i : Int), DataW.held v)) (List.range n)
  simpa [ents] using this

theorem dm_empty {n : Nat} {g : Nat → Option Value} (h : ∀ i, i < n → g i = none) : Dm n g = .map [] := by
  unfold Dm
  congr 1
  rw [List.eq_nil_iff_forall_not_mem]
  intro p hp
  obtain ⟨i, v, hi, hg, _⟩ := ents_mem.1 hp
  rw [h i hi] at hg
  cases hg

theorem keyed3 : Keyed Try.prog 3 := int_keyed Try.underlying3
theorem key3 {i : Nat} (hi : i < 9223372036854775808) : keyOf Try.prog 3 (.int .i64 (i : Int)) = some (Lit.int .i64 (i : Int)) :=
  keyOf_int_mk Try.underlying3 (by simp [Lit.wf, IntKind.min, IntKind.max, IntKind.signed, IntKind.bits]; omega)

/-- Block b is the map. -/
def Mp (w : World) (b n : Nat) (g : Nat → Option Value) : Prop := w.ownsMap Try.prog 3 Rv b n (Dm n g)

section
variable {w w' : World} {b n : Nat} {g : Nat → Option Value}
theorem mp_of {m : Nat} {D : DataW Value} (h : w.ownsMap Try.prog 3 Rv b m D) (e : D = Dm n g) : Mp w b n g := by
  subst e
  obtain ⟨es, clock, h1, h2, h3, h4⟩ := h
  refine ⟨es, clock, h1, h2, ?_, h4⟩
  have := dm_size n g
  rw [h4, size_eq, length_read] at this
  exact this
theorem Mp.lt (h : Mp w b n g) : b < w.heap.size := World.ownsMap.lt h
theorem Mp.tch {S : Nat → Prop} (h : Mp w b n g) (ht : Tch S w w') (hb : ¬ S b) : Mp w' b n g := by
  have hlt := h.lt
  obtain ⟨es, clock, q1, q2⟩ := h
  exact ⟨es, clock, by rw [ht.block b hlt hb]; exact q1, q2⟩
theorem Mp.notCells (h : Mp w b n g) {C : Array Value} {t : TypeId} {fr : Nat × Nat} : w.heap[b]? ≠ some (.cells C t fr) := by
  obtain ⟨es, clock, q1, q2⟩ := h
  rw [q1]
  intro e
  cases e
theorem Mp.congr (h : Mp w b n g) {g' : Nat → Option Value} (e : ∀ i, i < n → g i = g' i) : Mp w b n g' := by
  have : Dm n g = Dm n g' := by
    refine dm_ext (dm_canon n g) (fun k => ?_) (fun i v hi hg z => dm_at hi ((e i hi).trans hg) z)
    rw [dm_has, dm_has]
    exact ⟨fun ⟨i, v, hi, hg, hk⟩ => ⟨i, v, hi, (e i hi).symm.trans hg, hk⟩, fun ⟨i, v, hi, hg, hk⟩ => ⟨i, v, hi, (e i hi).trans hg, hk⟩⟩
  unfold Mp
  rw [← this]
  exact h
end

theorem zero61 (w : World) : (zeroValue 62).run Try.prog w = .ok (.slice none 0 0) w := by kernel_rfl

/-- What the map answers. -/
def gv (g : Nat → Option Value) (i : Nat) : Value := (g i).getD (.slice none 0 0)

theorem Mp.look {w : World} {b n : Nat} {g : Nat → Option Value} (h : Mp w b n g) {i : Nat} (hi : i < n) (hn : n ≤ 4096) :
    (Instr.lookup 63 (.map (some b)) (.int .i64 (i : Int)) false).run Try.prog w = .ok (gv g i) w := by
  obtain ⟨v, ps, hr, hv⟩ := World.ownsMap.lookup h keyed3 Try.underlying63 (zero61 w) (zd := .held (.slice none 0 0)) (zp := []) rfl (key3 (i := i) (by omega))
  rw [hr]
  unfold gv
  cases e : g i with
  | none =>
    rw [dm_not e] at hv
    simp only [Rv, Option.some.injEq, Prod.mk.injEq, DataW.held.injEq] at hv
    rw [hv.1]
    rfl
  | some u =>
    rw [dm_at hi e] at hv
    simp only [Rv, Option.some.injEq, Prod.mk.injEq, DataW.held.injEq] at hv
    rw [hv.1]
    rfl

end Go.Proofs.Ytaacidgihhcpkaa
