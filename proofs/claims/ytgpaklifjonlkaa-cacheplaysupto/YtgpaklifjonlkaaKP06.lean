import Derived.Test.YtgpaklifjonlkaaKP05
import Derived.Maps.Own
import Derived.Maps.OwnSet
import Derived.Maps.RangeWalk
import Derived.Maps.Views
import Derived.Maps.Ext
import Derived.Test.YtgpaklifjonlkaaKP03
import Derived.Deep.WholeRow
/-
  The map of versions: by their sector a slice; as data, the slices themselves.
-/
namespace Go.Proofs.Ytgpaklifjonlkaa
open Go.RowKit Go.Maps
set_option linter.unusedVariables false

/-- An element reads as itself. -/
def Rv (v : Value) : Option (DataW Value × List MemPlace) := some (.held v, [])

/-- The entries, rising. -/
def ents (n : Nat) (g : Nat → Option Value) : List (Lit × DataW Value) := (List.range n).filterMap fun i => (g i).map fun v => (Lit.int .i64 (i : Int), DataW.held v)
def Dm (n : Nat) (g : Nat → Option Value) : DataW Value := .map (ents n g)

theorem ents_mem {n : Nat} {g : Nat → Option Value} {p : Lit × DataW Value} : p ∈ ents n g ↔ ∃ i v, i < n ∧ g i = some v ∧ p = (Lit.int .i64 (i : Int), DataW.held v) := by
  unfold ents
  rw [List.mem_filterMap]
  constructor
  · rintro ⟨i, hi, h⟩
    cases e : g i with
    | none => rw [e] at h; cases h
    | some v => rw [e] at h; simp at h hi; exact ⟨i, v, hi, e, h.symm⟩
  · rintro ⟨i, v, hi, e, rfl⟩
    exact ⟨i, by simpa using hi, by rw [e]; rfl⟩

theorem ents_rising (n : Nat) (g : Nat → Option Value) : (ents n g).Pairwise (fun p q => p.1.before q.1 = true) := by
  unfold ents
  rw [List.pairwise_filterMap]
  refine List.Pairwise.imp ?_ List.pairwise_lt_range
  intro i j hij p hp q hq
  cases e : g i with
  | none => rw [e] at hp; cases hp
  | some v =>
    cases e2 : g j with
    | none => rw [e2] at hq; cases hq
    | some u =>
      rw [e] at hp
      rw [e2] at hq
      simp at hp hq
      subst hp
      subst hq
      simp [Lit.before]
      exact hij

theorem dm_canon (n : Nat) (g : Nat → Option Value) : Canon (Dm n g) := ⟨_, rfl, ents_rising n g, fun p hp => by
  obtain ⟨i, v, _, _, rfl⟩ := ents_mem.1 hp
  trivial⟩

theorem dm_has {n : Nat} {g : Nat → Option Value} {kl : Lit} : Maps.has (Dm n g) kl = true ↔ ∃ i v, i < n ∧ g i = some v ∧ kl = Lit.int .i64 (i : Int) := by
  unfold Dm
  rw [has_eq, List.any_eq_true]
  constructor
  · rintro ⟨p, hp, hs⟩
    obtain ⟨i, v, hi, hg, rfl⟩ := ents_mem.1 hp
    exact ⟨i, v, hi, hg, (WideAt.sameKey_eq hs).symm⟩
  · rintro ⟨i, v, hi, hg, rfl⟩
    exact ⟨_, ents_mem.2 ⟨i, v, hi, hg, rfl⟩, by simp [Lit.sameKey]⟩

theorem dm_at {n : Nat} {g : Nat → Option Value} {i : Nat} {v : Value} (hi : i < n) (hg : g i = some v) (z : DataW Value) : (Dm n g).atKey (Lit.int .i64 (i : Int)) z = .held v := by
  unfold Dm DataW.atKey
  cases e : (ents n g).find? (fun p => p.1.sameKey (Lit.int .i64 (i : Int))) with
  | none =>
    have h := List.find?_eq_none.1 e _ (ents_mem.2 ⟨i, v, hi, hg, rfl⟩)
    simp [Lit.sameKey] at h
  | some p =>
    have h1 := List.find?_some e
    have h2 := List.mem_of_find?_eq_some e
    obtain ⟨j, u, _, hu, rfl⟩ := ents_mem.1 h2
    have h3 := WideAt.sameKey_eq h1
    simp at h3
    have h3 : j = i := by omega
    subst h3
    rw [hg] at hu
    cases hu
    simp only [e]

theorem dm_not {n : Nat} {g : Nat → Option Value} {i : Nat} (hg : g i = none) (z : DataW Value) : (Dm n g).atKey (Lit.int .i64 (i : Int)) z = z := by
  refine atKey_of_not_has ?_ z
  rw [Bool.eq_false_iff]
  intro h
  obtain ⟨j, v, _, hj, e⟩ := dm_has.1 h
  simp at e
  have e : i = j := by omega
  subst e
  rw [hg] at hj
  cases hj

/-- One turned. -/
def gput (g : Nat → Option Value) (i : Nat) (v : Option Value) (j : Nat) : Option Value := if j = i then v else g j

theorem dm_ext {D : DataW Value} {n : Nat} {g : Nat → Option Value} (hc : Canon D) (hh : ∀ k, Maps.has D k = true ↔ Maps.has (Dm n g) k = true) (ha : ∀ i v, i < n → g i = some v → ∀ z, D.atKey (Lit.int .i64 (i : Int)) z = .held v) : D = Dm n g := by
  refine Maps.ext hc (dm_canon n g) (fun k => by rw [Bool.eq_iff_iff]; exact hh k) (fun k z h => ?_)
  obtain ⟨i, v, hi, hg, rfl⟩ := dm_has.1 ((hh k).1 h)
  rw [ha i v hi hg z, dm_at hi hg z]

theorem dm_put {n : Nat} {g : Nat → Option Value} {i : Nat} (hi : i < n) (v : Value) (hc : Canon ((Dm n g).put (Lit.int .i64 (i : Int)) (.held v))) : (Dm n g).put (Lit.int .i64 (i : Int)) (.held v) = Dm n (gput g i (some v)) := by
  have hm : IsMap (Dm n g) := ⟨_, rfl⟩
  have hk : WideAt.IsKeyLit (Lit.int .i64 (i : Int)) := trivial
  refine dm_ext hc (fun k => ?_) (fun j u hj hu z => ?_)
  · by_cases e : k = Lit.int .i64 (i : Int)
    · subst e
      rw [has_put_same hm hk]
      exact ⟨fun _ => dm_has.2 ⟨i, v, hi, by simp [gput], rfl⟩, fun _ => rfl⟩
    · rw [has_put_other e, dm_has, dm_has]
      constructor
      · rintro ⟨j, u, hj, hu, rfl⟩
        have : j ≠ i := fun h => e (by rw [h])
        exact ⟨j, u, hj, by simp [gput, this, hu], rfl⟩
      · rintro ⟨j, u, hj, hu, rfl⟩
        have : j ≠ i := fun h => e (by rw [h])
        simp [gput, this] at hu
        exact ⟨j, u, hj, hu, rfl⟩
  · by_cases e : j = i
    · subst e
      simp [gput] at hu
      subst hu
      exact atKey_put_same hm hk _ _
    · simp [gput, e] at hu
      rw [atKey_put_other (by simp; omega), dm_at hj hu]

theorem dm_del {n : Nat} {g : Nat → Option Value} {i : Nat} (hc : Canon ((Dm n g).del (Lit.int .i64 (i : Int)))) : (Dm n g).del (Lit.int .i64 (i : Int)) = Dm n (gput g i none) := by
  refine dm_ext hc (fun k => ?_) (fun j u hj hu z => ?_)
  · by_cases e : k = Lit.int .i64 (i : Int)
    · subst e
      rw [has_del_same]
      constructor
      · intro h; cases h
      · intro h
        obtain ⟨j, u, hj, hu, e⟩ := dm_has.1 h
        simp at e
        have e : j = i := by omega
        subst e
        simp [gput] at hu
    · rw [has_del_other e, dm_has, dm_has]
      constructor
      · rintro ⟨j, u, hj, hu, rfl⟩
        have : j ≠ i := fun h => e (by rw [h])
        exact ⟨j, u, hj, by simp [gput, this, hu], rfl⟩
      · rintro ⟨j, u, hj, hu, rfl⟩
        have : j ≠ i := fun h => e (by rw [h])
        simp [gput, this] at hu
        exact ⟨j, u, hj, hu, rfl⟩
  · by_cases e : j = i
    · subst e
      simp [gput] at hu
    · simp [gput, e] at hu
      rw [atKey_del_other (by simp; omega), dm_at hj hu]

theorem dm_size (n : Nat) (g : Nat → Option Value) : Maps.size (Dm n g) ≤ n := by
  unfold Dm
  rw [size_eq]
  have := List.length_filterMap_le (fun i => (g i).map fun v => (Lit.int .i64 (i : Int), DataW.held v)) (List.range n)
  simpa [ents] using this

theorem dm_empty {n : Nat} {g : Nat → Option Value} (h : ∀ i, i < n → g i = none) : Dm n g = .map [] := by
  unfold Dm
  congr 1
  rw [List.eq_nil_iff_forall_not_mem]
  intro p hp
  obtain ⟨i, v, hi, hg, _⟩ := ents_mem.1 hp
  rw [h i hi] at hg
  cases hg

theorem keyed3 : Keyed Try.prog 3 := int_keyed Try.underlying3
theorem key3 {i : Nat} (hi : i < 9223372036854775808) : keyOf Try.prog 3 (.int .i64 (i : Int)) = some (Lit.int .i64 (i : Int)) :=
  keyOf_int_mk Try.underlying3 (by simp [Lit.wf, IntKind.min, IntKind.max, IntKind.signed, IntKind.bits]; omega)

/-- Block b is the map. -/
def Mp (w : World) (b n : Nat) (g : Nat → Option Value) : Prop := w.ownsMap Try.prog 3 Rv b n (Dm n g)

section
variable {w w' : World} {b n : Nat} {g : Nat → Option Value}
theorem mp_of {m : Nat} {D : DataW Value} (h : w.ownsMap Try.prog 3 Rv b m D) (e : D = Dm n g) : Mp w b n g := by
  subst e
  obtain ⟨es, clock, h1, h2, h3, h4⟩ := h
  refine ⟨es, clock, h1, h2, ?_, h4⟩
  have := dm_size n g
  rw [h4, size_eq, length_read] at this
  exact this
theorem Mp.lt (h : Mp w b n g) : b < w.heap.size := World.ownsMap.lt h
theorem Mp.tch {S : Nat → Prop} (h : Mp w b n g) (ht : Tch S w w') (hb : ¬ S b) : Mp w' b n g := by
  have hlt := h.lt
  obtain ⟨es, clock, q1, q2⟩ := h
  exact ⟨es, clock, by rw [ht.block b hlt hb]; exact q1, q2⟩
theorem Mp.notCells (h : Mp w b n g) {C : Array Value} {t : TypeId} {fr : Nat × Nat} : w.heap[b]? ≠ some (.cells C t fr) := by
  obtain ⟨es, clock, q1, q2⟩ := h
  rw [q1]
  intro e
  cases e
theorem Mp.congr (h : Mp w b n g) {g' : Nat → Option Value} (e : ∀ i, i < n → g i = g' i) : Mp w b n g' := by
  have : Dm n g = Dm n g' := by
    refine dm_ext (dm_canon n g) (fun k => ?_) (fun i v hi hg z => dm_at hi ((e i hi).trans hg) z)
    rw [dm_has, dm_has]
    exact ⟨fun ⟨i, v, hi, hg, hk⟩ => ⟨i, v, hi, (e i hi).symm.trans hg, hk⟩, fun ⟨i, v, hi, hg, hk⟩ => ⟨i, v, hi, (e i hi).trans hg, hk⟩⟩
  unfold Mp
  rw [← this]
  exact h
end

theorem zero61 (w : World) : (zeroValue 61).run Try.prog w = .ok (.slice none 0 0) w := by kernel_rfl

/-- What the map answers. -/
def gv (g : Nat → Option Value) (i : Nat) : Value := (g i).getD (.slice none 0 0)

theorem Mp.look {w : World} {b n : Nat} {g : Nat → Option Value} (h : Mp w b n g) {i : Nat} (hi : i < n) (hn : n ≤ 4096) :
    (Instr.lookup 62 (.map (some b)) (.int .i64 (i : Int)) false).run Try.prog w = .ok (gv g i) w := by
  obtain ⟨v, ps, hr, hv⟩ := World.ownsMap.lookup h keyed3 Try.underlying62 (zero61 w) (zd := .held (.slice none 0 0)) (zp := []) rfl (key3 (i := i) (by omega))
  rw [hr]
  unfold gv
  cases e : g i with
  | none =>
    rw [dm_not e] at hv
    simp only [Rv, Option.some.injEq, Prod.mk.injEq, DataW.held.injEq] at hv
    rw [hv.1]
    rfl
  | some u =>
    rw [dm_at hi e] at hv
    simp only [Rv, Option.some.injEq, Prod.mk.injEq, DataW.held.injEq] at hv
    rw [hv.1]
    rfl

end Go.Proofs.Ytgpaklifjonlkaa
/-
  A disk: what lies there, versions, a cut; in memory: its box, the sectors' row, the map of versions' rows.
-/
namespace Go.Proofs.Ytgpaklifjonlkaa
open Go.RowKit Go.Maps
set_option linter.unusedVariables false
set_option linter.unusedSimpArgs false

structure DS where
  L : List (List Int)
  V : Nat → List (List Int)
  c : Bool
  l : Nat

/-- Is one more write or flush done? -/
def DS.can (s : DS) : Bool := !s.c || s.l != 0
def DS.tick (s : DS) : DS := { s with l := if s.c then s.l - 1 else s.l }
/-- What a sector has. -/
def DS.has (s : DS) (i : Nat) : List Int := (s.V i).getLastD (s.L.getD i [])
def vput (V : Nat → List (List Int)) (i : Nat) (x : List (List Int)) (j : Nat) : List (List Int) := if j = i then x else V j
def DS.wr (s : DS) (i : Nat) (x : List Int) : DS := if s.can then { s.tick with V := vput s.V i (s.V i ++ [x]) } else s
/-- The sectors with versions, rising. -/
def DS.dirty (s : DS) : List Nat := (List.range s.L.length).filter fun i => decide (s.V i ≠ [])
def DS.fl (s : DS) : DS := if s.can then { s.tick with L := (List.range s.L.length).map s.has, V := fun _ => [] } else s
def DS.ct (s : DS) (n : Nat) : DS := { s with c := true, l := if s.c then min n s.l else n }
/-- The pick's remainder. -/
def rem (p : Int) (m : Nat) : Nat := (p % ((m : Int) + 1)).toNat
def DS.per (s : DS) (i : Nat) (p : Int) : DS := { s with L := if 0 < rem p (s.V i).length then s.L.set i ((s.V i).getD (rem p (s.V i).length - 1) []) else s.L, V := vput s.V i [] }
def DS.pers (s : DS) (ds : List Nat) (ps : List Int) : Nat → DS
  | 0 => s
  | k + 1 => (DS.pers s ds ps k).per (ds.getD k 0) (ps.getD k 0)
def DS.pw (s : DS) (ps : List Int) : DS := { s.pers s.dirty ps s.dirty.length with c := false, l := 0 }
/-- One bit turned. -/
def trn (b : Nat) (x : List Int) : List Int := x.set (b / 8) ((((x.getD (b / 8) 0).toNat ^^^ 2 ^ (b % 8) : Nat)) : Int)
def DS.rot (s : DS) (b : Nat) : DS := { s with L := s.L.set (b / 2048) (trn (b % 2048) (s.L.getD (b / 2048) [])), V := vput s.V (b / 2048) ((s.V (b / 2048)).map (trn (b % 2048))) }

theorem tch_set (w : World) (b i : Nat) (v : Value) : Tch (fun k => k = b) w (w.setCell ⟨b, i, none⟩ v) := Tch.setCell (Tch.refl (fun k => k = b) w) (p := ⟨b, i, none⟩) (fun _ => rfl) v

structure DkAt (S : Nat → Prop) (w : World) (d : Nat) (s : DS) (lb vb lc : Nat) (g : Nat → Option Value) : Prop where
  n1 : 1 ≤ s.L.length
  n2 : s.L.length ≤ 4096
  l30 : s.l ≤ 1073741824
  box : w.heap[d]? = some (.cells #[.slice (some ⟨lb, 0, none⟩) s.L.length lc, .map (some vb), .bool s.c, .int .i64 (s.l : Int)] 64 (0, 0))
  lies : SecR w (.slice (some ⟨lb, 0, none⟩) s.L.length lc) s.L
  map : Mp w vb s.L.length g
  no : ∀ i, g i = none → s.V i = []
  yes : ∀ i v, g i = some v → i < s.L.length ∧ s.V i ≠ [] ∧ SecR w v (s.V i) ∧ v.ownBlock ≠ some lb
  apart : ∀ i j v u, g i = some v → g j = some u → i ≠ j → v.ownBlock ≠ u.ownBlock
  sd : S d
  sl : S lb
  sv : S vb
  sg : ∀ i v k, g i = some v → v.ownBlock = some k → S k
  slt : ∀ k, S k → k < w.heap.size

/-- The disk at block d is s; what it has for its own lies in S. -/
def Dk (S : Nat → Prop) (w : World) (d : Nat) (s : DS) : Prop := ∃ lb vb lc g, DkAt S w d s lb vb lc g

/-- From w to w' the disk at d has become s. -/
def DkTo (S : Nat → Prop) (w w' : World) (d : Nat) (s : DS) : Prop := ∃ S', Dk S' w' d s ∧ Tch S w w' ∧ ∀ k, S' k → S k ∨ w.heap.size ≤ k

section
variable {S : Nat → Prop} {w w' : World} {d : Nat} {s : DS} {lb vb lc : Nat} {g : Nat → Option Value}

theorem DkAt.c0 (h : DkAt S w d s lb vb lc g) : w.cell? ⟨d, 0, none⟩ = some (.slice (some ⟨lb, 0, none⟩) s.L.length lc) := by rw [cell_of_row w d 0 _ _ (0, 0) h.box]; rfl
theorem DkAt.c1 (h : DkAt S w d s lb vb lc g) : w.cell? ⟨d, 1, none⟩ = some (.map (some vb)) := by rw [cell_of_row w d 1 _ _ (0, 0) h.box]; rfl
theorem DkAt.c2 (h : DkAt S w d s lb vb lc g) : w.cell? ⟨d, 2, none⟩ = some (.bool s.c) := by rw [cell_of_row w d 2 _ _ (0, 0) h.box]; rfl
theorem DkAt.c3 (h : DkAt S w d s lb vb lc g) : w.cell? ⟨d, 3, none⟩ = some (.int .i64 (s.l : Int)) := by rw [cell_of_row w d 3 _ _ (0, 0) h.box]; rfl
theorem DkAt.fz (h : DkAt S w d s lb vb lc g) (i : Nat) : w.frozen? ⟨d, i, none⟩ = false := frozen_of_row w d i _ _ h.box
theorem DkAt.lt (h : DkAt S w d s lb vb lc g) : d < w.heap.size := (Array.getElem?_eq_some_iff.1 h.box).1

theorem DkAt.ne_lb (h : DkAt S w d s lb vb lc g) : d ≠ lb := fun e => by
  obtain ⟨cur, _, hg, _⟩ := h.lies.blk
  rw [← e, h.box] at hg
  simp at hg
theorem DkAt.ne_vb (h : DkAt S w d s lb vb lc g) : d ≠ vb := fun e => h.map.notCells (by rw [← e]; exact h.box)
theorem DkAt.lb_vb (h : DkAt S w d s lb vb lc g) : lb ≠ vb := fun e => by
  obtain ⟨cur, _, hg, _⟩ := h.lies.blk
  exact h.map.notCells (by rw [← e]; exact hg)
theorem DkAt.own (h : DkAt S w d s lb vb lc g) {i : Nat} {v : Value} (hv : g i = some v) : ∃ b cap, v = .slice (some ⟨b, 0, none⟩) (s.V i).length cap ∧ b ≠ d ∧ b ≠ vb ∧ b ≠ lb ∧ S b ∧ 0 < (s.V i).length := by
  obtain ⟨_, h2, h3, h4⟩ := h.yes i v hv
  obtain ⟨b, cap, cur, rfl, hb, _⟩ := h3.shape h2
  refine ⟨b, cap, rfl, fun e => ?_, fun e => ?_, fun e => h4 (by rw [e]; rfl), h.sg i _ b hv rfl, ?_⟩
  · rw [e, h.box] at hb; simp at hb
  · exact h.map.notCells (by rw [← e]; exact hb)
  · exact Nat.pos_of_ne_zero (fun e => h2 (List.eq_nil_of_length_eq_zero e))

theorem DkAt.tch (h : DkAt S w d s lb vb lc g) {R : Nat → Prop} (ht : Tch R w w') (hn : ∀ k, S k → ¬ R k) : DkAt S w' d s lb vb lc g where
  n1 := h.n1
  n2 := h.n2
  l30 := h.l30
  box := by rw [ht.block d h.lt (hn d h.sd)]; exact h.box
  lies := h.lies.tch ht (fun j e => by cases e; exact hn _ h.sl)
  map := h.map.tch ht (hn _ h.sv)
  no := h.no
  yes := fun i v hv => ⟨(h.yes i v hv).1, (h.yes i v hv).2.1, (h.yes i v hv).2.2.1.tch ht (fun j e => hn j (h.sg i v j hv e)), (h.yes i v hv).2.2.2⟩
  apart := h.apart
  sd := h.sd
  sl := h.sl
  sv := h.sv
  sg := h.sg
  slt := fun k hk => Nat.lt_of_lt_of_le (h.slt k hk) ht.size

theorem Dk.tch {R : Nat → Prop} (h : Dk S w d s) (ht : Tch R w w') (hn : ∀ k, S k → ¬ R k) : Dk S w' d s := by
  obtain ⟨lb, vb, lc, g, h⟩ := h
  exact ⟨lb, vb, lc, g, h.tch ht hn⟩
theorem Dk.below (h : Dk S w d s) (hb : Below w.heap.size w w') : Dk S w' d s := h.tch (R := fun _ => False) (Tch.of_below hb) (fun _ _ e => e)
theorem Dk.to (h : Dk S w d s) : DkTo S w w d s := ⟨S, h, Tch.refl _ _, fun _ e => .inl e⟩
theorem Dk.slt (h : Dk S w d s) : ∀ k, S k → k < w.heap.size := by obtain ⟨_, _, _, _, h⟩ := h; exact h.slt
theorem Dk.to_below (h : Dk S w d s) (hb : Below w.heap.size w w') : DkTo S w w' d s := ⟨S, h.below hb, Tch.of_below hb, fun _ e => .inl e⟩

theorem DkTo.trans {S' : Nat → Prop} {w2 : World} {s1 s2 : DS} (hd : Dk S' w' d s1) (ht : Tch S w w') (hs : ∀ k, S' k → S k ∨ w.heap.size ≤ k) (h2 : DkTo S' w' w2 d s2) : DkTo S w w2 d s2 := by
  obtain ⟨S2, h3, h4, h5⟩ := h2
  refine ⟨S2, h3, ht.trans h4 (fun i hi e => ?_), fun k hk => ?_⟩
  · rcases hs i e with e | e
    · exact e
    · omega
  · rcases h5 k hk with e | e
    · exact hs k e
    · exact .inr (by have := ht.size; omega)

/-- Only the box has turned: its cut. -/
theorem DkAt.cut (h : DkAt S w d s lb vb lc g) (c : Bool) (l : Nat) (hl : l ≤ 1073741824) (ht : Tch (fun k => k = d) w w')
    (hb : w'.heap[d]? = some (.cells #[.slice (some ⟨lb, 0, none⟩) s.L.length lc, .map (some vb), .bool c, .int .i64 (l : Int)] 64 (0, 0))) : DkAt S w' d { s with c := c, l := l } lb vb lc g where
  n1 := h.n1
  n2 := h.n2
  l30 := hl
  box := hb
  lies := h.lies.tch ht (fun j e => by cases e; exact fun e => h.ne_lb e.symm)
  map := h.map.tch ht (fun e => h.ne_vb e.symm)
  no := h.no
  yes := fun i v hv => ⟨(h.yes i v hv).1, (h.yes i v hv).2.1, (h.yes i v hv).2.2.1.tch ht (fun j e => by
    obtain ⟨b, cap, rfl, h1, _⟩ := h.own hv
    cases e
    exact h1), (h.yes i v hv).2.2.2⟩
  apart := h.apart
  sd := h.sd
  sl := h.sl
  sv := h.sv
  sg := h.sg
  slt := fun k hk => Nat.lt_of_lt_of_le (h.slt k hk) ht.size

theorem DkAt.set2 (h : DkAt S w d s lb vb lc g) (c : Bool) : DkAt S (w.setCell ⟨d, 2, none⟩ (.bool c)) d { s with c := c } lb vb lc g := by
  refine h.cut c s.l h.l30 (tch_set w d 2 _) ?_
  rw [heap_setCell_same w d 2 _ _ _ h.box]
  rfl
theorem DkAt.set3 (h : DkAt S w d s lb vb lc g) (l : Nat) (hl : l ≤ 1073741824) : DkAt S (w.setCell ⟨d, 3, none⟩ (.int .i64 (l : Int))) d { s with l := l } lb vb lc g := by
  refine h.cut s.c l hl (tch_set w d 3 _) ?_
  rw [heap_setCell_same w d 3 _ _ _ h.box]
  rfl
end

/-- A pointer to a disk. -/
abbrev dp (d : Nat) : Value := .pointer (some ⟨d, 0, none⟩)

theorem isThere_any {S : Nat → Prop} {d : Nat} {s : DS} {lb vb lc : Nat} {g : Nat → Option Value} (at_ : Int) (w : World) (h : DkAt S w d s lb vb lc g) :
    Calls Try.prog 59 #[dp d, .int .i64 at_] w fun e w' => e = .returned (.bool (decide (0 ≤ at_) && decide (at_ < (s.L.length : Int)))) ∧ w' = w := by
  have c0 := h.c0
  obtain ⟨n, hn⟩ : ∃ n, Hid (s.L.length = n) := ⟨_, rfl⟩
  rw [hn.out] at c0 ⊢
  clear h
  by_cases h0 : 0 ≤ at_
  · by_cases h1 : at_ < (n : Int)
    · go_enter Try.func59, Try.ntmps59
      go_wp2_with fail
      go_ret
      exact ⟨by simp [h0, h1], rfl⟩
    · go_enter Try.func59, Try.ntmps59
      go_wp2_with fail
      go_ret
      exact ⟨by simp [h0, h1], rfl⟩
  · go_enter Try.func59, Try.ntmps59
    go_wp2_with fail
    go_ret
    exact ⟨by rw [decide_eq_false (show ¬ 0 ≤ at_ by omega)]; rfl, rfl⟩

theorem size_any {S : Nat → Prop} {d : Nat} {s : DS} (w : World) (h : Dk S w d s) :
    Calls Try.prog 68 #[dp d] w fun e w' => e = .returned (.int .i64 (s.L.length : Int)) ∧ w' = w := by
  obtain ⟨lb, vb, lc, g, h⟩ := h
  have c0 := h.c0
  obtain ⟨n, hn⟩ : ∃ n, Hid (s.L.length = n) := ⟨_, rfl⟩
  rw [hn.out] at c0 ⊢
  clear h
  go_enter Try.func68, Try.ntmps68
  go_wp2_with fail
  go_ret
  exact ⟨rfl, rfl⟩

theorem isDone_any {S : Nat → Prop} {d : Nat} {s : DS} {lb vb lc : Nat} {g : Nat → Option Value} (w : World) (h : DkAt S w d s lb vb lc g) :
    Calls Try.prog 62 #[dp d] w fun e w' => e = .returned (.bool s.can) ∧ DkAt S w' d (if s.can then s.tick else s) lb vb lc g ∧ Tch (fun k => k = d) w w' := by
  have c2 := h.c2
  have c3 := h.c3
  have f3 := h.fz 3
  have hl := h.l30
  have H : Hid (DkAt S w d s lb vb lc g) := h
  clear h
  obtain ⟨L, V, c, l⟩ := s
  simp only [DS.can, DS.tick] at *
  cases c with
  | false =>
    go_enter Try.func62, Try.ntmps62
    go_wp2_with fail
    go_ret
    exact ⟨rfl, H.out, Tch.refl _ _⟩
  | true =>
    by_cases h0 : l = 0
    · subst h0
      go_enter Try.func62, Try.ntmps62
      go_wp2_with fail
      go_ret
      exact ⟨rfl, H.out, Tch.refl _ _⟩
    · obtain ⟨m, rfl⟩ : ∃ m, l = m + 1 := ⟨l - 1, by omega⟩
      have h1 : (((m + 1 : Nat) : Int) == 0) = false := by rw [beq_eq_false_iff_ne]; omega
      have H2 : Hid (DkAt S (w.setCell ⟨d, 3, none⟩ (.int .i64 (m : Int))) d { L := L, V := V, c := true, l := m } lb vb lc g) := H.out.set3 m (by simp at hl; omega)
      have T2 : Hid (Tch (fun k => k = d) w (w.setCell ⟨d, 3, none⟩ (.int .i64 (m : Int)))) := tch_set w d 3 _
      have hm : ((m + 1 : Nat) : Int) - 1 = (m : Int) := by omega
      have hm2 : (m : Int) ≤ 1073741824 := by simp at hl; omega
      go_enter Try.func62, Try.ntmps62
      go_wp2_with fail
      go_ret
      exact ⟨rfl, H2.out, T2.out⟩
end Go.Proofs.Ytgpaklifjonlkaa
/-
  A cache, plainly: what each block is, the dirty ones' numbers, rising, and the clean ones', the one asked longest ago first.
-/
namespace Go.Proofs.Ytgpaklifjonlkaa
open Go.RowKit
set_option linter.unusedVariables false

structure CS where
  rm : Nat
  B : Nat → Int × List Int
  d : List Nat
  c : List Nat

def bput (B : Nat → Int × List Int) (n : Nat) (x : Int × List Int) (m : Nat) : Int × List Int := if m = n then x else B m
/-- A list without a number. -/
def kwo (l : List Nat) (n : Int) : List Nat := l.filter fun m => decide ((m : Int) ≠ n)
/-- A number is the most recently asked. -/
def kask (rm : Nat) (l : List Nat) (n : Nat) : List Nat := if rm < (kwo l n).length + 1 then (kwo l n ++ [n]).tail else kwo l n ++ [n]
/-- A number goes into a rising list. -/
def kins (l : List Nat) (n : Nat) : List Nat := l.filter (fun m => decide (m < n)) ++ n :: l.filter (fun m => decide (n < m))

structure COk (N : Nat) (s : CS) : Prop where
  r1 : 1 ≤ s.rm
  r2 : s.rm ≤ 1024
  dr : s.d.Pairwise (fun a b => a < b)
  cn : s.c.Nodup
  ap : ∀ n, n ∈ s.d → n ∉ s.c
  dl : ∀ n, n ∈ s.d → 50 ≤ n ∧ n < N
  cl : ∀ n, n ∈ s.c → 50 ≤ n ∧ n < N
  may : ∀ n, n ∈ s.d ∨ n ∈ s.c → mayK (n : Int) (s.B n).1 (s.B n).2.length = true ∧ By (s.B n).2

/-- Is there such a block? -/
def kthere (N : Nat) (n : Int) : Bool := decide (50 ≤ n) && decide (n < (N : Int))
theorem kthere_iff {N : Nat} {n : Int} : kthere N n = true ↔ 50 ≤ n ∧ n < (N : Int) := by simp [kthere]
def CS.keep (s : CS) (n : Nat) (x : Int × List Int) : CS := { s with B := bput s.B n x, d := kwo s.d n, c := kask s.rm s.c n }
def CS.forget (s : CS) (n : Int) : CS := { s with d := kwo s.d n, c := kwo s.c n }
def CS.lay (s : CS) (n : Nat) (x : Int × List Int) : CS := { s with B := bput s.B n x, d := kins s.d n, c := kwo s.c n }
/-- Get: what is told. -/
def CS.getE (s : CS) (D : DS) (n : Int) : Int := if kthere D.L.length n then (if n.toNat ∈ s.d ∨ n.toNat ∈ s.c then 0 else Go.Proofs.Ytgpaklifjonlkaa.getE n (D.has n.toNat)) else 2
def CS.getB (s : CS) (D : DS) (n : Int) : Int × List Int := if kthere D.L.length n then (if n.toNat ∈ s.d ∨ n.toNat ∈ s.c then s.B n.toNat else Go.Proofs.Ytgpaklifjonlkaa.getB n (D.has n.toNat)) else (0, [])
def CS.getS (s : CS) (D : DS) (n : Int) : CS := if s.getE D n = 0 ∧ n.toNat ∉ s.d then s.keep n.toNat (s.getB D n) else s
/-- Put. -/
def CS.putE (s : CS) (N : Nat) (n k : Int) (ys : List Int) : Int := if kthere N n then (if mayK n k ys.length then 0 else 1) else 2
def CS.putS (s : CS) (N : Nat) (n k : Int) (ys : List Int) : CS := if s.putE N n k ys = 0 then s.lay n.toNat (k, ys) else s
/-- Flush: the first of l are written. -/
def flD (D : DS) (B : Nat → Int × List Int) : List Nat → DS
  | [] => D
  | n :: r => flD (D.wr n (sec (n : Int) (B n).1 (B n).2)) B r
def flS (s : CS) : List Nat → CS
  | [] => s
  | n :: r => flS (s.keep n (s.B n)) r
def CS.flush (s : CS) : CS := flS s s.d
def CS.flushD (s : CS) (D : DS) : DS := flD D s.B s.d

theorem kwo_mem {l : List Nat} {n : Int} {m : Nat} : m ∈ kwo l n ↔ m ∈ l ∧ (m : Int) ≠ n := by simp [kwo]
theorem kwo_len (l : List Nat) (n : Int) : (kwo l n).length ≤ l.length := List.length_filter_le _ _
theorem kwo_nodup {l : List Nat} (n : Int) (h : l.Nodup) : (kwo l n).Nodup := h.filter _
theorem kwo_rising {l : List Nat} (n : Int) (h : l.Pairwise (fun a b => a < b)) : (kwo l n).Pairwise (fun a b => a < b) := h.filter _
theorem kwo_not {l : List Nat} {n : Int} (h : ∀ m ∈ l, (m : Int) ≠ n) : kwo l n = l := by
  unfold kwo
  rw [List.filter_eq_self]
  intro m hm
  simpa using h m hm
theorem kwo_one {l : List Nat} {n : Int} (hn : l.Nodup) {i : Nat} (hi : i < l.length) (he : ((l.getD i 0 : Nat) : Int) = n) : kwo l n = l.eraseIdx i := by
  induction l generalizing i with
  | nil => simp at hi
  | cons a r ih =>
    rw [List.nodup_cons] at hn
    cases i with
    | zero =>
      simp at he
      subst he
      show List.filter _ (a :: r) = r
      rw [List.filter_cons_of_neg (by simp)]
      exact kwo_not (fun m hm e => hn.1 (by have : m = a := by omega
                                            rw [← this]; exact hm))
    | succ i =>
      simp at he hi
      have ha : (a : Int) ≠ n := fun e => by
        have : a = r[i]?.getD 0 := by omega
        rw [List.getElem?_eq_getElem hi] at this
        exact hn.1 (by rw [this]; exact List.getElem_mem hi)
      show List.filter _ (a :: r) = _
      rw [List.filter_cons_of_pos (by simpa using ha)]
      exact congrArg _ (ih hn.2 hi (by rw [List.getD_eq_getElem?_getD]; exact he))
theorem bput_same (B : Nat → Int × List Int) (n : Nat) (x : Int × List Int) : bput B n x n = x := by simp [bput]
theorem bput_else (B : Nat → Int × List Int) {n m : Nat} (x : Int × List Int) (h : m ≠ n) : bput B n x m = B m := by simp [bput, h]
theorem bput_self (B : Nat → Int × List Int) (n : Nat) : bput B n (B n) = B := by
  funext m
  unfold bput
  split
  · rename_i h; rw [h]
  · rfl
theorem kask_mem {rm : Nat} {l : List Nat} {n m : Nat} (h : m ∈ kask rm l n) : m = n ∨ (m ∈ l ∧ m ≠ n) := by
  unfold kask at h
  have : m ∈ kwo l n ++ [n] := by
    split at h
    · exact List.mem_of_mem_tail h
    · exact h
  rcases List.mem_append.1 this with e | e
  · exact .inr ⟨(kwo_mem.1 e).1, fun e2 => (kwo_mem.1 e).2 (by omega)⟩
  · exact .inl (by simpa using e)
theorem app_nodup {l : List Nat} {n : Nat} (h : l.Nodup) : (kwo l n ++ [n]).Nodup := by
  rw [List.nodup_append]
  refine ⟨kwo_nodup _ h, by simp, fun a ha b hb e => ?_⟩
  simp at hb
  exact (kwo_mem.1 ha).2 (by omega)
theorem kask_nodup {rm : Nat} {l : List Nat} {n : Nat} (h : l.Nodup) : (kask rm l n).Nodup := by
  unfold kask
  split
  · exact (app_nodup h).tail
  · exact app_nodup h
theorem kask_len {rm : Nat} {l : List Nat} {n : Nat} (h : l.length ≤ rm) : (kask rm l n).length ≤ rm := by
  have := kwo_len l n
  unfold kask
  split <;> simp <;> omega
theorem kins_mem {l : List Nat} {n m : Nat} : m ∈ kins l n ↔ m = n ∨ m ∈ l := by
  unfold kins
  simp only [List.mem_append, List.mem_cons, List.mem_filter, decide_eq_true_eq]
  constructor
  · rintro (⟨h, _⟩ | h | ⟨h, _⟩)
    · exact .inr h
    · exact .inl h
    · exact .inr h
  · rintro (h | h)
    · exact .inr (.inl h)
    · rcases Nat.lt_trichotomy m n with e | e | e
      · exact .inl ⟨h, e⟩
      · exact .inr (.inl e)
      · exact .inr (.inr ⟨h, e⟩)
theorem kins_rising {l : List Nat} {n : Nat} (h : l.Pairwise (fun a b => a < b)) : (kins l n).Pairwise (fun a b => a < b) := by
  unfold kins
  rw [List.pairwise_append, List.pairwise_cons]
  refine ⟨h.filter _, ⟨fun a ha => by simp at ha; exact ha.2, h.filter _⟩, fun a ha b hb => ?_⟩
  simp at ha hb
  rcases hb with e | e <;> omega

theorem len_le_of {l : List Nat} {N : Nat} (hn : l.Nodup) (h : ∀ n, n ∈ l → n < N) : l.length ≤ N := by
  have := List.Nodup.length_le_of_subset (l₁ := l) (l₂ := List.range N) hn (fun n hm => by simpa using h n hm)
  simpa using this
theorem rising_nodup {l : List Nat} (h : l.Pairwise (fun a b => a < b)) : l.Nodup := List.Pairwise.imp (fun {a b} h => Nat.ne_of_lt h) h
theorem kask_tail {rm : Nat} {l : List Nat} {n : Nat} (h : l.Nodup) (hr : rm < (kwo l n).length + 1) (h1 : 1 ≤ rm) : ∃ m : Nat, (kwo l n ++ [n]).head? = some m ∧ m ≠ n ∧ kask rm l n = kwo (kwo l n ++ [n]) m := by
  have hd := app_nodup (n := n) h
  cases e : kwo l n with
  | nil => rw [e] at hr; simp at hr; omega
  | cons a r =>
    refine ⟨a, by simp, fun e2 => ?_, ?_⟩
    · have : a ∈ kwo l n := by rw [e]; simp
      exact (kwo_mem.1 this).2 (by omega)
    · unfold kask
      rw [if_pos hr, e]
      rw [e] at hd
      have := kwo_one (l := a :: r ++ [n]) (n := (a : Int)) hd (i := 0) (by simp) (by simp)
      rw [this]
      simp

section
variable {N : Nat} {s : CS}
theorem COk.cle (h : COk N s) : s.c.length ≤ N := len_le_of h.cn (fun n hn => (h.cl n hn).2)
theorem COk.dle (h : COk N s) : s.d.length ≤ N := len_le_of (rising_nodup h.dr) (fun n hn => (h.dl n hn).2)
theorem COk.forget (h : COk N s) (n : Int) : COk N (s.forget n) where
  r1 := h.r1
  r2 := h.r2
  dr := kwo_rising _ h.dr
  cn := kwo_nodup _ h.cn
  ap := fun m hm hc => h.ap m (kwo_mem.1 hm).1 (kwo_mem.1 hc).1
  dl := fun m hm => h.dl m (kwo_mem.1 hm).1
  cl := fun m hm => h.cl m (kwo_mem.1 hm).1
  may := fun m hm => h.may m (hm.imp (fun e => (kwo_mem.1 e).1) (fun e => (kwo_mem.1 e).1))
theorem COk.lay (h : COk N s) {n : Nat} {x : Int × List Int} (hn : 50 ≤ n ∧ n < N) (hm : mayK (n : Int) x.1 x.2.length = true) (hb : By x.2) : COk N (s.lay n x) where
  r1 := h.r1
  r2 := h.r2
  dr := kins_rising h.dr
  cn := kwo_nodup _ h.cn
  ap := fun m hm hc => by
    rcases kins_mem.1 hm with e | e
    · exact (kwo_mem.1 hc).2 (by omega)
    · exact h.ap m e (kwo_mem.1 hc).1
  dl := fun m hm => by
    rcases kins_mem.1 hm with e | e
    · rw [e]; exact hn
    · exact h.dl m e
  cl := fun m hm => h.cl m (kwo_mem.1 hm).1
  may := fun m hm' => by
    show mayK (m : Int) (bput s.B n x m).1 (bput s.B n x m).2.length = true ∧ By (bput s.B n x m).2
    by_cases e : m = n
    · subst e; rw [bput_same]; exact ⟨hm, hb⟩
    · rw [bput_else _ _ e]
      refine h.may m (hm'.imp (fun e2 => ?_) (fun e2 => (kwo_mem.1 e2).1))
      rcases kins_mem.1 e2 with e3 | e3
      · exact absurd e3 e
      · exact e3
theorem COk.keep (h : COk N s) {n : Nat} {x : Int × List Int} (hn : 50 ≤ n ∧ n < N) (hm : mayK (n : Int) x.1 x.2.length = true) (hb : By x.2) : COk N (s.keep n x) where
  r1 := h.r1
  r2 := h.r2
  dr := kwo_rising _ h.dr
  cn := kask_nodup h.cn
  ap := fun m hm hc => by
    rcases kask_mem hc with e | e
    · exact (kwo_mem.1 hm).2 (by omega)
    · exact h.ap m (kwo_mem.1 hm).1 e.1
  dl := fun m hm => h.dl m (kwo_mem.1 hm).1
  cl := fun m hm => by
    rcases kask_mem hm with e | e
    · rw [e]; exact hn
    · exact h.cl m e.1
  may := fun m hm' => by
    show mayK (m : Int) (bput s.B n x m).1 (bput s.B n x m).2.length = true ∧ By (bput s.B n x m).2
    by_cases e : m = n
    · subst e; rw [bput_same]; exact ⟨hm, hb⟩
    · rw [bput_else _ _ e]
      refine h.may m (hm'.imp (fun e2 => (kwo_mem.1 e2).1) (fun e2 => ?_))
      rcases kask_mem e2 with e3 | e3
      · exact absurd e3 e
      · exact e3.1
end
end Go.Proofs.Ytgpaklifjonlkaa
/-
  A new disk; what a sector has.
-/
namespace Go.Proofs.Ytgpaklifjonlkaa
open Go.RowKit Go.Maps
set_option linter.unusedVariables false
set_option linter.unusedSimpArgs false
set_option maxRecDepth 100000

/-- A new one. -/
def DS.new (n : Nat) : DS := ⟨List.replicate n zz, fun _ => [], false, 0⟩

theorem sok_new (n : Nat) : SOk (List.replicate n zz) := fun x hx => by
  rw [List.mem_replicate] at hx
  rw [hx.2]
  exact ⟨zz_len, zz_by⟩

theorem made_new (n : Nat) : (madeCells (bcs zz).toArray (n * 256)).toList = bcs (List.replicate n zz).flatten := by
  have hL := flat_len (sok_new n)
  rw [List.length_replicate] at hL
  apply List.ext_getElem?
  intro i
  by_cases hi : i < n * 256
  · have h0 : i % 256 < 256 := Nat.mod_lt _ (by decide)
    have h1 : i / 256 < n := by omega
    have e : (List.replicate n zz).flatten[i]? = some 0 := by
      have := flat_get (sok_new n) (i := i / 256) (by rw [List.length_replicate]; exact h1) h0
      rw [show i / 256 * 256 + i % 256 = i by omega] at this
      rw [this, List.getD_eq_getElem?_getD, List.getElem?_replicate, if_pos h1]
      exact zz_get h0
    have hz : (bcs zz)[i % 256]? = some (.int .u8 0) := by rw [bcs, List.getElem?_map, zz_get h0]; rfl
    have hr : (bcs (List.replicate n zz).flatten)[i]? = some (.int .u8 0) := by rw [bcs, List.getElem?_map, e]; rfl
    rw [hr]
    unfold madeCells
    simp only [Array.toList_map, List.getElem?_map, Array.toList_range]
    rw [List.getElem?_range hi]
    simp only [Option.map_some, List.size_toArray, bcs_len, zz_len]
    rw [getElem!_def, List.getElem?_toArray, hz]
  · rw [List.getElem?_eq_none (by rw [Array.length_toList, size_madeCells]; omega), List.getElem?_eq_none (by rw [bcs_len, hL]; omega)]

theorem new_bad (n : Int) (w : World) (h : n < 1 ∨ 4096 < n) : Calls Try.prog 8 #[.int .i64 n] w fun e w' => e = .returned (.tuple #[.pointer none, .int .i64 1]) ∧ w' = w := by
  by_cases h1 : n < 1
  · go_enter Try.func8, Try.ntmps8
    go_wp2_with fail
    go_ret2
    exact ⟨rfl, rfl⟩
  · have h2 : n > 4096 := by omega
    go_enter Try.func8, Try.ntmps8
    go_wp2_with fail
    go_ret2
    exact ⟨rfl, rfl⟩

theorem new_ok (n : Nat) (w : World) (h1 : 1 ≤ n) (h2 : n ≤ 4096) : Calls Try.prog 8 #[.int .i64 (n : Int)] w fun e w' =>
    ∃ d S, e = .returned (.tuple #[dp d, .int .i64 0]) ∧ Dk S w' d (DS.new n) ∧ Below w.heap.size w w' ∧ ∀ k, S k → w.heap.size ≤ k := by
  obtain ⟨j0, hj, hy0, hy1, hy2⟩ := info_parts info_sec
  have hmm := @run_makeMap Try.prog
  have ha : ¬ (n : Int) < 1 := by omega
  have hb : ¬ (n : Int) > 4096 := by omega
  go_enter Try.func8, Try.ntmps8
  go_wp2_with (at_make; refine wpList_make_full _ rfl (.tmp 10) (.tmp 10) 61 rfl 0 101 j0 _ 256 Try.underlying61 hj hy0 hy1 .i64 .i64 _ _ n rfl rfl rfl rfl (by rw [hy2]; omega) (by unfold maxLen; omega) (Nat.zero_le _) ?_)
  intro w1 ho hg
  rw [made_new] at ho
  have O1 : Hid (SecR w1 (.slice (some ⟨w.heap.size, 0, none⟩) n n) (List.replicate n zz)) := ⟨sok_new n, by rw [List.length_replicate]; exact ho⟩
  have B1 : Hid (Below w.heap.size w w1) := ⟨hg.os, hg.tape, hg.output, hg.size, fun k hk => hg.block k hk (by simp)⟩
  have hs : Hid (w.heap.size < w1.heap.size) := O1.out.lt _ rfl
  clear ho hg hj hy0 hy1 hy2
  go_wp2_with fail
  go_ret2
  have M1 : Mp (w1.alloc (.map #[] 0)) w1.heap.size n (fun _ => none) := mp_of (World.ownsMap_made w1 _ _ _) (by rw [dm_empty (fun _ _ => rfl)])
  refine ⟨w1.heap.size + 1, fun k => w.heap.size ≤ k ∧ k < w1.heap.size + 2, by first | rfl | simp, ⟨w.heap.size, w1.heap.size, n, fun _ => none, ?_⟩, ?_, fun k hk => hk.1⟩
  · have hsz : (w1.alloc (.map #[] 0)).heap.size = w1.heap.size + 1 := by simp
    have hbx : ∀ o, ((w1.alloc (.map #[] 0)).alloc o).heap[w1.heap.size + 1]? = some o := fun o => by rw [← hsz]; exact heap_alloc_new _ _
    exact {
      n1 := by simp [DS.new]; exact h1
      n2 := by simp [DS.new]; exact h2
      l30 := by simp [DS.new]
      box := by rw [hbx]; simp [DS.new]
      lies := by
        simp only [DS.new, List.length_replicate]
        exact (O1.out.below ((Below.refl _ _).alloc (Nat.le_refl _) _)).below ((Below.refl _ _).alloc (Nat.le_refl _) _)
      map := by
        simp only [DS.new, List.length_replicate]
        exact M1.tch (S := fun _ => False) (Tch.of_below ((Below.refl _ _).alloc (Nat.le_refl _) _)) (fun e => e)
      no := fun _ _ => rfl
      yes := fun _ _ e => by cases e
      apart := fun _ _ _ _ e => by cases e
      sd := ⟨by have := hs.out; omega, by omega⟩
      sl := ⟨Nat.le_refl _, by have := hs.out; omega⟩
      sv := ⟨by have := hs.out; omega, by omega⟩
      sg := fun _ _ _ e => by cases e
      slt := fun k hk => by simp; exact hk.2 }
  · exact (B1.out.alloc B1.out.size _).alloc (by simp; have := B1.out.size; omega) _

end Go.Proofs.Ytgpaklifjonlkaa
/-
  What a sector has.
-/
namespace Go.Proofs.Ytgpaklifjonlkaa
open Go.RowKit Go.Maps
set_option linter.unusedVariables false
set_option linter.unusedSimpArgs false
set_option maxRecDepth 100000

theorem slice_sec (g : Nat) (w : World) : (Instr.sliceAt 101 (.pointer (some ⟨g, 0, none⟩)) none none none).run Try.prog w = .ok (.slice (some ⟨g, 0, none⟩) 256 256) w := by
  have hL : Try.prog.arrayLen 101 = 256 := by kernel_rfl
  have hE : Try.prog.elem 101 = 5 := by kernel_rfl
  have ht : Try.prog.underlying 101 = some (.array (Try.prog.arrayLen 101) (Try.prog.elem 101)) := by rw [hL, hE]; exact Try.underlying101
  rw [run_sliceAt_array_all w 101 _ ht, hL, hE]
  simp [slicedAt, go_sem]

theorem cells74 : Try.prog.cellsOf 101 = 256 := by kernel_rfl

theorem read_bad {S : Nat → Prop} {d : Nat} {s : DS} (at_ : Int) (w : World) (h : Dk S w d s) (hb : at_ < 0 ∨ (s.L.length : Int) ≤ at_) :
    Calls Try.prog 42 #[dp d, .int .i64 at_] w fun e w' => e = .returned (.tuple #[.slice none 0 0, .int .i64 2]) ∧ w' = w := by
  obtain ⟨lb, vb, lc, g, h⟩ := h
  have hf : (decide (0 ≤ at_) && decide (at_ < (s.L.length : Int))) = false := by
    rw [Bool.and_eq_false_iff, decide_eq_false_iff_not, decide_eq_false_iff_not]; omega
  have H := isThere_any at_ w h
  rw [hf] at H
  have H := hideP H
  clear h hb
  go_enter Try.func42, Try.ntmps42
  go_wp2_with fail
  refine H.out.mono ?_
  rintro e w ⟨rfl, rfl⟩
  go_wp2_with fail
  go_ret2
  exact ⟨rfl, rfl⟩

set_option maxHeartbeats 1000000 in
theorem read_ok {S : Nat → Prop} {d : Nat} {s : DS} (i : Nat) (w : World) (h : Dk S w d s) (hi : i < s.L.length) :
    Calls Try.prog 42 #[dp d, .int .i64 (i : Int)] w fun e w' => ∃ v, e = .returned (.tuple #[v, .int .i64 0]) ∧ Wb w' v (s.has i) ∧ Below w.heap.size w w' ∧ ∀ k, v.ownBlock = some k → w.heap.size ≤ k := by
  obtain ⟨lb, vb, lc, g, h⟩ := h
  have hf : (decide (0 ≤ (i : Int)) && decide ((i : Int) < (s.L.length : Int))) = true := by
    rw [Bool.and_eq_true, decide_eq_true_eq, decide_eq_true_eq]; omega
  have H := isThere_any i w h
  rw [hf] at H
  have H := hideP H
  have c0 := h.c0
  have c1 := h.c1
  obtain ⟨hv74, hi74⟩ := zero_of_info info_sec2
  have LD : Hid (w.rangeAt lb (i * 256) (bcs (s.L.getD i []))) := h.lies.load hi
  have LL := h.lies.1.get hi
  have HS : Hid (s.has i = (s.V i).getLastD (s.L.getD i [])) := rfl
  have HD : Hid (DkAt S w d s lb vb lc g) := h
  have n2 := h.n2
  obtain ⟨n, hn⟩ : ∃ n, s.L.length = n := ⟨_, rfl⟩
  have HN : Hid (s.L.length = n) := hn
  rw [hn] at hi c0 n2
  obtain ⟨x, hx⟩ : ∃ x, s.L.getD i [] = x := ⟨_, rfl⟩
  rw [hx] at LD LL HS
  obtain ⟨hx1, hx2⟩ := LL
  have HX1 : Hid (x.length = 256) := hx1
  have hsz : Hid ((bcs x).toArray.size = 256) := by show _ = _; rw [List.size_toArray, bcs_len, hx1]
  have HI : Hid ((Try.prog.info? 101).map (·.size) = some 256) := hi74
  obtain ⟨W, hW⟩ : ∃ W, w.alloc (.cells (bcs x).toArray 101) = W := ⟨_, rfl⟩
  have HB : Hid (Below w.heap.size w W) := by rw [← hW]; exact (Below.refl _ _).alloc (Nat.le_refl _) _
  have HDW : Hid (DkAt S W d s lb vb lc g) := h.tch (R := fun _ => False) (Tch.of_below HB.out) (fun _ _ e => e)
  have c1 := HDW.out.c1
  have LKW := HDW.out.map.look (by rw [hn]; exact hi) (by rw [hn]; exact n2)
  have HWB : Hid (Wb W (.slice (some ⟨w.heap.size, 0, none⟩) 256 256) x) := by
    have := wb_new w x 101 (by unfold maxLen; omega)
    rw [hW, hx1] at this
    exact this
  have HQ : Hid (W.heap[w.heap.size]? = some (.cells (bcs x).toArray 101 (0, 0))) := by show _ = _; rw [← hW]; exact heap_alloc_new w _
  have HW : Hid (w.alloc (.cells (bcs x).toArray 101) = W) := hW
  clear h hf hx hx1 hx2 hn hi74 hW
  have hi0 : (i : Int) < (n : Int) := by omega
  obtain ⟨Z, hZ⟩ : ∃ Z, Hid ((bcs zz).toArray = Z) := ⟨_, rfl⟩
  have HZ : Hid (Z.size = 256) := by show _ = _; rw [← hZ.out, List.size_toArray, bcs_len, zz_len]
  rw [hZ.out] at hv74
  have HSL := slice_sec
  obtain ⟨q, hq⟩ : ∃ q, w.heap.size = q := ⟨_, rfl⟩
  have HQE : Hid (w.heap.size = q) := hq
  clear hq
  cases hg : g i with
  | none =>
    have HV : Hid (s.V i = []) := HDW.out.no i hg
    rw [show gv g i = .slice none 0 0 by simp [gv, hg]] at LKW
    clear hg
    go_enter Try.func42, Try.ntmps42
    go_wp2_with fail
    refine H.out.mono ?_
    rintro e w ⟨rfl, rfl⟩
    clear H
    go_wp2_with (first
      | (with_reducible (show wpList _ _ _ (Oper.mk _ (Op.load _ _) _ _ _ _ :: _) _ _); refine wpList_load_mid rfl 101 (.tmp 17) rfl lb (i * 256) rfl _ _ LD.out Try.underlying101 rfl (by rw [HI.out, bcs_len, HX1.out]) ?_)
      | (with_reducible (show wpList _ _ _ (Oper.mk _ (Op.store _ _ _) _ _ _ _ :: _) _ _); refine wpList_store_newD _ rfl 101 (.tmp 6) (.tmp 18) rfl Z (bcs x).toArray rfl rfl (by rw [HI.out, hsz.out]) (by rw [HZ.out, hsz.out]) (bcs_all x) ?_; rw [HW.out]))
    go_ret2
    refine ⟨_, rfl, ?_, HB.out, fun k hk => by cases hk; exact Nat.le_refl _⟩
    rw [HS.out, HV.out]
    exact HWB.out
  | some v =>
    obtain ⟨_, hv2, hv3, _⟩ := HDW.out.yes i v hg
    obtain ⟨b, cap, rfl, _, _, _, _, hk0⟩ := HDW.out.own hg
    rw [show gv g i = .slice (some ⟨b, 0, none⟩) (s.V i).length cap by simp [gv, hg]] at LKW
    have LV : Hid (W.rangeAt b (((s.V i).length - 1) * 256) (bcs ((s.V i).getD ((s.V i).length - 1) []))) := hv3.load (by omega)
    have LY := hv3.1.get (i := (s.V i).length - 1) (by omega)
    have HY : Hid ((s.V i).getLastD x = (s.V i).getD ((s.V i).length - 1) []) := by
      show _ = _
      rw [List.getLastD_eq_getLast?, List.getLast?_eq_getElem?, List.getD_eq_getElem?_getD, List.getElem?_eq_getElem (by omega)]
      rfl
    obtain ⟨y, hy⟩ : ∃ y, (s.V i).getD ((s.V i).length - 1) [] = y := ⟨_, rfl⟩
    rw [hy] at LV LY HY
    obtain ⟨hy1, _⟩ := LY
    have HY1 : Hid (y.length = 256) := hy1
    have hszy : Hid ((bcs y).toArray.size = 256) := by show _ = _; rw [List.size_toArray, bcs_len, hy1]
    have hcap : (s.V i).length ≤ cap ∧ cap ≤ maxLen := by obtain ⟨_, _, _, h1, h2, _⟩ := hv3.blk; exact ⟨h1, h2⟩
    obtain ⟨k, hk⟩ : ∃ k, (s.V i).length = k + 1 := ⟨(s.V i).length - 1, by omega⟩
    rw [hk] at LKW LV hcap
    rw [Nat.add_sub_cancel] at LV
    have hc1 : (k : Int) + 1 ≤ 9223372036854775807 := by have := hcap.1; have := hcap.2; unfold maxLen at this; omega
    have hkk : ((k + 1 : Nat) : Int) = (k : Int) + 1 := by omega
    have TH : Hid (W.there q 0 256) := fun j hj => by
      rw [Nat.zero_add, ← HQE.out]
      refine ⟨?_, frozen_of_row W _ j _ _ HQ.out⟩
      rw [cell_of_row W _ j _ _ (0, 0) HQ.out]
      simp [hj, hsz.out, bcs_len, HX1.out]
    clear hg hv2 hv3 hk0 hy hy1 hcap hk
    go_enter Try.func42, Try.ntmps42
    go_wp2_with fail
    refine H.out.mono ?_
    rintro e w ⟨rfl, rfl⟩
    clear H
    go_wp2_with (first
      | (with_reducible (show wpList _ _ _ (Oper.mk _ (Op.load _ _) _ _ _ _ :: _) _ _); refine wpList_load_mid rfl 101 (.tmp 17) rfl lb (i * 256) rfl _ _ LD.out Try.underlying101 rfl (by rw [HI.out, bcs_len, HX1.out]) ?_)
      | (with_reducible (show wpList _ _ _ (Oper.mk _ (Op.store _ _ _) _ _ _ _ :: _) _ _); refine wpList_store_newD _ rfl 101 (.tmp 6) (.tmp 18) rfl Z (bcs x).toArray rfl rfl (by rw [HI.out, hsz.out]) (by rw [HZ.out, hsz.out]) (bcs_all x) ?_; rw [HW.out])
      | (with_reducible (show wpList _ _ _ (Oper.mk _ (Op.load _ _) _ _ _ _ :: _) _ _); refine wpList_load_mid rfl 101 (.tmp 32) rfl b (k * 256) rfl _ _ LV.out Try.underlying101 rfl (by rw [HI.out, bcs_len, HY1.out]) ?_)
      | (with_reducible (show wpList _ _ _ (Oper.mk _ (Op.store _ _ _) _ _ _ _ :: _) _ _); rw [HQE.out]; refine wpList_store_mid rfl 101 (.tmp 6) (.tmp 33) rfl q 0 (bcs y).toArray rfl rfl (by rw [hszy.out]; exact TH.out) (by rw [HI.out, hszy.out]) (bcs_all y) ?_))
    go_ret2
    refine ⟨_, rfl, ?_, HB.out.trans ((setCells_tchD q (bcs y) 0 W).below HB.out.size (fun k e => by rw [e, ← HQE.out]; exact Nat.le_refl _)), fun k hk => by cases hk; exact Nat.le_of_eq HQE.out⟩
    have HQ2 := HQ.out
    rw [HQE.out] at HQ2
    have h1 := heap_setCells_same (bcs y) 0 W _ HQ2 (by rw [hsz.out, bcs_len, HY1.out]; decide)
    refine ⟨q, 256, _, _, ?_, ?_, by unfold maxLen; omega, h1, ?_⟩
    · rw [HS.out, HY.out, HY1.out]; rfl
    · rw [HS.out, HY.out, HY1.out]; exact Nat.le_refl _
    · rw [HS.out, HY.out, HY1.out]
      simp [bcs_len, HY1.out, HX1.out]
end Go.Proofs.Ytgpaklifjonlkaa
/-
  The document's disk in memory: its box, a row of cells, rows of versions, rows of bytes.
-/
namespace Go.Proofs.Ytgpaklifjonlkaa
open Go.RowKit Go.Maps
set_option linter.unusedVariables false
set_option linter.unusedSimpArgs false

def updV (f : Nat → Value) (i : Nat) (v : Value) (j : Nat) : Value := if j = i then v else f j
def updW (f : Nat → List Value) (i : Nat) (v : List Value) (j : Nat) : List Value := if j = i then v else f j
/-- The cells: what lies there, and versions, side by side. -/
def cl (n : Nat) (A B : Nat → Value) : List Value := (List.range (n * 2)).map fun j => if j % 2 = 0 then A (j / 2) else B (j / 2)
theorem cl_len (n : Nat) (A B : Nat → Value) : (cl n A B).length = n * 2 := by simp [cl]
theorem cl_get0 {n : Nat} (A B : Nat → Value) {i : Nat} (h : i < n) : (cl n A B)[i * 2]? = some (A i) := by
  unfold cl
  rw [List.getElem?_map, List.getElem?_range (by omega)]
  simp
theorem cl_get1 {n : Nat} (A B : Nat → Value) {i : Nat} (h : i < n) : (cl n A B)[i * 2 + 1]? = some (B i) := by
  unfold cl
  rw [List.getElem?_map, List.getElem?_range (by omega)]
  simp only [Option.map_some, Option.some.injEq]
  rw [if_neg (by omega), show (i * 2 + 1) / 2 = i by omega]
theorem cl_set0 {n : Nat} (A B : Nat → Value) {i : Nat} (h : i < n) (v : Value) : (cl n A B).set (i * 2) v = cl n (updV A i v) B := by
  apply List.ext_getElem?
  intro j
  rw [List.getElem?_set, cl_len]
  unfold cl
  rw [List.getElem?_map, List.getElem?_map]
  by_cases hj : j < n * 2
  · rw [List.getElem?_range hj]
    simp only [Option.map_some]
    by_cases e : i * 2 = j
    · rw [if_pos e, if_pos (by omega), if_pos (by omega)]
      simp only [updV]
      rw [if_pos (by omega)]
    · rw [if_neg e]
      by_cases h2 : j % 2 = 0
      · rw [if_pos h2, if_pos h2]
        simp only [updV]
        rw [if_neg (by omega)]
      · rw [if_neg h2, if_neg h2]
  · rw [List.getElem?_eq_none (l := List.range (n * 2)) (by simp; omega), if_neg (by omega)]
    rfl
theorem cl_set1 {n : Nat} (A B : Nat → Value) {i : Nat} (h : i < n) (v : Value) : (cl n A B).set (i * 2 + 1) v = cl n A (updV B i v) := by
  apply List.ext_getElem?
  intro j
  rw [List.getElem?_set, cl_len]
  unfold cl
  rw [List.getElem?_map, List.getElem?_map]
  by_cases hj : j < n * 2
  · rw [List.getElem?_range hj]
    simp only [Option.map_some]
    by_cases e : i * 2 + 1 = j
    · rw [if_pos e, if_pos (by omega), if_neg (by omega)]
      simp only [updV]
      rw [if_pos (by omega)]
    · rw [if_neg e]
      by_cases h2 : j % 2 = 0
      · rw [if_pos h2, if_pos h2]
      · rw [if_neg h2, if_neg h2]
        simp only [updV]
        rw [if_neg (by omega)]
  · rw [List.getElem?_eq_none (l := List.range (n * 2)) (by simp; omega), if_neg (by omega)]
    rfl
theorem cl_congr {n : Nat} {A B A' B' : Nat → Value} (ha : ∀ i, i < n → A i = A' i) (hb : ∀ i, i < n → B i = B' i) : cl n A B = cl n A' B' := by
  unfold cl
  refine List.map_congr_left fun j hj => ?_
  have hj : j < n * 2 := by simpa using hj
  by_cases h2 : j % 2 = 0
  · rw [if_pos h2, if_pos h2, ha _ (by omega)]
  · rw [if_neg h2, if_neg h2, hb _ (by omega)]

theorem owns_block {w : World} {base : Nat} {e : TypeId} {size n : Nat} {v : Value} {xs : List Value} (h : w.ownsRow base e size v n xs) {k : Nat} (hk : v.ownBlock = some k) : ∃ C, w.heap[k]? = some (.cells C e (0, 0)) := by
  rcases h.2 with ⟨rfl, _⟩ | ⟨g, cap, cur, rfl, _, hg, _⟩
  · cases hk
  · cases hk; exact ⟨cur, hg⟩
theorem block_ne {w : World} {k j : Nat} {C D : Array Value} {t u : TypeId} {f g : Nat × Nat} (h : w.heap[k]? = some (.cells C t f)) (h2 : w.heap[j]? = some (.cells D u g)) (ht : (t == u) = false) : k ≠ j := fun e => by
  rw [e, h2] at h
  simp only [Option.some.injEq, Obj.cells.injEq] at h
  rw [h.2.1] at ht
  simp at ht

structure RfAt (R : Nat → Prop) (w : World) (r : Nat) (s : DS) (lb cp : Nat) (A B : Nat → Value) (x : Int) (W : Nat → List Value) : Prop where
  n1 : 1 ≤ s.L.length
  n2 : s.L.length ≤ 4096
  box : w.heap[r]? = some (.cells #[.slice (some ⟨lb, 0, none⟩) s.L.length cp, .bool s.c, .int .i64 x] 67 (0, 0))
  left : s.c = true → x = (s.l : Int)
  xlo : -9223372036854775808 ≤ x
  xhi : x ≤ 9223372036854775807
  l30 : s.l ≤ 1073741824
  row : w.ownsRow 0 70 2 (.slice (some ⟨lb, 0, none⟩) s.L.length cp) s.L.length (cl s.L.length A B)
  la : ∀ i, i < s.L.length → Owns .u8 5 w (A i) (s.L.getD i [])
  lv : ∀ i, i < s.L.length → w.ownsRow 0 38 1 (B i) (s.V i).length (W i)
  lw : ∀ (i j : Nat) (v : Value), i < s.L.length → (W i)[j]? = some v → Owns .u8 5 w v ((s.V i).getD j [])
  apart : ∀ i j k, i < s.L.length → j < s.L.length → i ≠ j → (B i).ownBlock = some k → (B j).ownBlock ≠ some k
  okL : SOk s.L
  okV : ∀ i, SOk (s.V i)
  out : ∀ i, s.L.length ≤ i → s.V i = []
  rr : R r
  rl : R lb
  ra : ∀ i k, i < s.L.length → (A i).ownBlock = some k → R k
  rb : ∀ i k, i < s.L.length → (B i).ownBlock = some k → R k
  rv : ∀ (i j : Nat) (v : Value) (k : Nat), i < s.L.length → (W i)[j]? = some v → v.ownBlock = some k → R k
  rlt : ∀ k, R k → k < w.heap.size

def Rf (R : Nat → Prop) (w : World) (r : Nat) (s : DS) : Prop := ∃ lb cp A B x W, RfAt R w r s lb cp A B x W
def RfTo (R : Nat → Prop) (w w' : World) (r : Nat) (s : DS) : Prop := ∃ R', Rf R' w' r s ∧ Tch R w w' ∧ ∀ k, R' k → R k ∨ w.heap.size ≤ k

section
variable {R : Nat → Prop} {w w' : World} {r : Nat} {s : DS} {lb cp : Nat} {A B : Nat → Value} {x : Int} {W : Nat → List Value}

theorem RfAt.c0 (h : RfAt R w r s lb cp A B x W) : w.cell? ⟨r, 0, none⟩ = some (.slice (some ⟨lb, 0, none⟩) s.L.length cp) := by rw [cell_of_row w r 0 _ _ (0, 0) h.box]; rfl
theorem RfAt.c1 (h : RfAt R w r s lb cp A B x W) : w.cell? ⟨r, 1, none⟩ = some (.bool s.c) := by rw [cell_of_row w r 1 _ _ (0, 0) h.box]; rfl
theorem RfAt.c2 (h : RfAt R w r s lb cp A B x W) : w.cell? ⟨r, 2, none⟩ = some (.int .i64 x) := by rw [cell_of_row w r 2 _ _ (0, 0) h.box]; rfl
theorem RfAt.fz (h : RfAt R w r s lb cp A B x W) (i : Nat) : w.frozen? ⟨r, i, none⟩ = false := frozen_of_row w r i _ _ h.box
theorem RfAt.lt (h : RfAt R w r s lb cp A B x W) : r < w.heap.size := (Array.getElem?_eq_some_iff.1 h.box).1
theorem RfAt.ca (h : RfAt R w r s lb cp A B x W) {i : Nat} (hi : i < s.L.length) : w.cell? ⟨lb, i * 2, none⟩ = some (A i) := by
  rw [h.row.cellAt (i * 2) (by omega)]; exact cl_get0 A B hi
theorem RfAt.cb (h : RfAt R w r s lb cp A B x W) {i : Nat} (hi : i < s.L.length) : w.cell? ⟨lb, i * 2 + 1, none⟩ = some (B i) := by
  rw [h.row.cellAt (i * 2 + 1) (by omega)]; exact cl_get1 A B hi
theorem RfAt.fl (h : RfAt R w r s lb cp A B x W) (i : Nat) : w.frozen? ⟨lb, i, none⟩ = false := h.row.frozenAt i
theorem RfAt.bl (h : RfAt R w r s lb cp A B x W) : ∃ C, w.heap[lb]? = some (.cells C 70 (0, 0)) := owns_block h.row rfl
theorem RfAt.ne_lb (h : RfAt R w r s lb cp A B x W) : r ≠ lb := by obtain ⟨C, hC⟩ := h.bl; exact block_ne h.box hC (by decide)
theorem RfAt.b_ne (h : RfAt R w r s lb cp A B x W) {i k : Nat} (hi : i < s.L.length) (hk : (B i).ownBlock = some k) : k ≠ r ∧ k ≠ lb := by
  obtain ⟨C, hC⟩ := owns_block (h.lv i hi) hk
  obtain ⟨D, hD⟩ := h.bl
  exact ⟨block_ne hC h.box (by decide), block_ne hC hD (by decide)⟩
/-- A row of bytes is none of the others. -/
theorem RfAt.y_ne (h : RfAt R w r s lb cp A B x W) {v : Value} {ys : List Int} (ho : Owns .u8 5 w v ys) {k : Nat} (hk : v.ownBlock = some k) : k ≠ r ∧ k ≠ lb ∧ ∀ i, i < s.L.length → (B i).ownBlock ≠ some k := by
  obtain ⟨C, hC⟩ := owns_block ho hk
  obtain ⟨D, hD⟩ := h.bl
  refine ⟨block_ne hC h.box (by decide), block_ne hC hD (by decide), fun i hi e => ?_⟩
  obtain ⟨E, hE⟩ := owns_block (h.lv i hi) e
  exact block_ne hC hE (by decide) rfl

theorem RfAt.tch (h : RfAt R w r s lb cp A B x W) {S : Nat → Prop} (ht : Tch S w w') (hn : ∀ k, R k → ¬ S k) : RfAt R w' r s lb cp A B x W :=
  { h with
    box := by rw [ht.block r h.lt (hn r h.rr)]; exact h.box
    row := ht.owns h.row (fun k e => by cases e; exact hn _ h.rl)
    la := fun i hi => (h.la i hi).tch ht (fun k e => hn k (h.ra i k hi e))
    lv := fun i hi => ht.owns (h.lv i hi) (fun k e => hn k (h.rb i k hi e))
    lw := fun i j v hi hv => (h.lw i j v hi hv).tch ht (fun k e => hn k (h.rv i j v k hi hv e))
    rlt := fun k hk => Nat.lt_of_lt_of_le (h.rlt k hk) ht.size }

theorem RfAt.mono {R2 : Nat → Prop} (h : RfAt R w r s lb cp A B x W) (hm : ∀ k, R k → R2 k) (hl : ∀ k, R2 k → k < w.heap.size) : RfAt R2 w r s lb cp A B x W :=
  { h with rr := hm _ h.rr, rl := hm _ h.rl, ra := fun i k hi hk => hm _ (h.ra i k hi hk), rb := fun i k hi hk => hm _ (h.rb i k hi hk), rv := fun i j v k hi hv hk => hm _ (h.rv i j v k hi hv hk), rlt := hl }
theorem Rf.tch (h : Rf R w r s) {S : Nat → Prop} (ht : Tch S w w') (hn : ∀ k, R k → ¬ S k) : Rf R w' r s := by
  obtain ⟨lb, cp, A, B, x, W, h⟩ := h
  exact ⟨lb, cp, A, B, x, W, h.tch ht hn⟩
theorem Rf.below (h : Rf R w r s) (hb : Below w.heap.size w w') : Rf R w' r s := h.tch (S := fun _ => False) (Tch.of_below hb) (fun _ _ e => e)
theorem Rf.to (h : Rf R w r s) : RfTo R w w r s := ⟨R, h, Tch.refl _ _, fun _ e => .inl e⟩
theorem Rf.rlt (h : Rf R w r s) : ∀ k, R k → k < w.heap.size := by obtain ⟨_, _, _, _, _, _, h⟩ := h; exact h.rlt
theorem RfTo.trans {R' : Nat → Prop} {w2 : World} {s1 s2 : DS} (hd : Rf R' w' r s1) (ht : Tch R w w') (hs : ∀ k, R' k → R k ∨ w.heap.size ≤ k) (h2 : RfTo R' w' w2 r s2) : RfTo R w w2 r s2 := by
  obtain ⟨S2, h3, h4, h5⟩ := h2
  refine ⟨S2, h3, ht.trans h4 (fun i hi e => ?_), fun k hk => ?_⟩
  · rcases hs i e with e | e
    · exact e
    · omega
  · rcases h5 k hk with e | e
    · exact hs k e
    · exact .inr (by have := ht.size; omega)

/-- Only the box has turned. -/
theorem RfAt.cut (h : RfAt R w r s lb cp A B x W) (c : Bool) (l : Nat) (x' : Int) (hl : l ≤ 1073741824) (hx : c = true → x' = (l : Int)) (h1 : -9223372036854775808 ≤ x') (h2 : x' ≤ 9223372036854775807) (ht : Tch (fun k => k = r) w w')
    (hb : w'.heap[r]? = some (.cells #[.slice (some ⟨lb, 0, none⟩) s.L.length cp, .bool c, .int .i64 x'] 67 (0, 0))) : RfAt R w' r { s with c := c, l := l } lb cp A B x' W :=
  { n1 := h.n1, n2 := h.n2, box := hb, left := hx, xlo := h1, xhi := h2, l30 := hl
    row := ht.owns h.row (fun k e => by cases e; exact fun e => h.ne_lb e.symm)
    la := fun i hi => (h.la i hi).tch ht (fun k e => (h.y_ne (h.la i hi) e).1)
    lv := fun i hi => ht.owns (h.lv i hi) (fun k e => (h.b_ne hi e).1)
    lw := fun i j v hi hv => (h.lw i j v hi hv).tch ht (fun k e => (h.y_ne (h.lw i j v hi hv) e).1)
    apart := h.apart, okL := h.okL, okV := h.okV, out := h.out, rr := h.rr, rl := h.rl, ra := h.ra, rb := h.rb, rv := h.rv
    rlt := fun k hk => Nat.lt_of_lt_of_le (h.rlt k hk) ht.size }
theorem RfAt.set1 (h : RfAt R w r s lb cp A B x W) (c : Bool) (hx : c = true → x = (s.l : Int)) : RfAt R (w.setCell ⟨r, 1, none⟩ (.bool c)) r { s with c := c } lb cp A B x W := by
  refine h.cut c s.l x h.l30 hx h.xlo h.xhi (tch_set w r 1 _) ?_
  rw [heap_setCell_same w r 1 _ _ _ h.box]
  rfl
theorem RfAt.set2 (h : RfAt R w r s lb cp A B x W) (l : Nat) (x' : Int) (hl : l ≤ 1073741824) (hx : s.c = true → x' = (l : Int)) (h1 : -9223372036854775808 ≤ x') (h2 : x' ≤ 9223372036854775807) : RfAt R (w.setCell ⟨r, 2, none⟩ (.int .i64 x')) r { s with l := l } lb cp A B x' W := by
  refine h.cut s.c l x' hl hx h1 h2 (tch_set w r 2 _) ?_
  rw [heap_setCell_same w r 2 _ _ _ h.box]
  rfl

theorem RfAt.out_tch (h : RfAt R w r s lb cp A B x W) (S : Nat → Prop) (hS : ∀ k, S k → R k) (ht : Tch S w w') : Tch R w w' := ht.mono (fun k _ e => hS k e)

/-- One cell has turned. -/
theorem RfAt.put (h : RfAt R w r s lb cp A B x W) {i : Nat} (hi : i < s.L.length) (a b : Value) (y : List Int) (V : List (List Int)) (W1 : List Value) (ht : Tch (fun k => k = lb ∨ (B i).ownBlock = some k) w w')
    (hrow : w'.ownsRow 0 70 2 (.slice (some ⟨lb, 0, none⟩) s.L.length cp) s.L.length (cl s.L.length (updV A i a) (updV B i b)))
    (ha : Owns .u8 5 w' a y) (hb : w'.ownsRow 0 38 1 b V.length W1) (hw : ∀ (j : Nat) (v : Value), W1[j]? = some v → Owns .u8 5 w' v (V.getD j []))
    (hy : y.length = 256 ∧ By y) (hV : SOk V) (fa : ∀ k, a.ownBlock = some k → R k ∨ w.heap.size ≤ k) (fb : ∀ k, b.ownBlock = some k → (B i).ownBlock = some k ∨ w.heap.size ≤ k) (fw : ∀ (j : Nat) (v : Value) (k : Nat), W1[j]? = some v → v.ownBlock = some k → R k ∨ w.heap.size ≤ k) :
    RfTo R w w' r { s with L := s.L.set i y, V := vput s.V i V } := by
  have hll : (s.L.set i y).length = s.L.length := List.length_set
  have hnr : ¬ (r = lb ∨ (B i).ownBlock = some r) := by
    rintro (e | e)
    · exact h.ne_lb e
    · exact (h.b_ne hi e).1 rfl
  have hnB : ∀ j k, j < s.L.length → j ≠ i → (B j).ownBlock = some k → ¬ (k = lb ∨ (B i).ownBlock = some k) := fun j k hj hne hk e => by
    rcases e with e | e
    · exact (h.b_ne hj hk).2 e
    · exact h.apart j i k hj hi hne hk e
  have hnY : ∀ v ys k, Owns .u8 5 w v ys → v.ownBlock = some k → ¬ (k = lb ∨ (B i).ownBlock = some k) := fun v ys k ho hk e => by
    have := h.y_ne ho hk
    rcases e with e | e
    · exact this.2.1 e
    · exact this.2.2 i hi e
  refine ⟨fun k => R k ∨ (a.ownBlock = some k ∨ b.ownBlock = some k ∨ ∃ (j : Nat) (v : Value), W1[j]? = some v ∧ v.ownBlock = some k), ⟨lb, cp, updV A i a, updV B i b, x, updW W i W1, ?_⟩, ?_, ?_⟩
  · exact {
      n1 := by rw [hll]; exact h.n1
      n2 := by rw [hll]; exact h.n2
      box := by rw [ht.block r h.lt hnr, h.box, hll]
      left := h.left
      xlo := h.xlo
      xhi := h.xhi
      l30 := h.l30
      row := by rw [hll]; exact hrow
      la := fun j hj => by
        rw [hll] at hj
        simp only [updV, List.getD_eq_getElem?_getD, List.getElem?_set]
        by_cases e : j = i
        · rw [if_pos e, if_pos e.symm, if_pos hi]; exact ha
        · rw [if_neg e, if_neg (fun e2 => e e2.symm), ← List.getD_eq_getElem?_getD]
          exact (h.la j hj).tch ht (fun k hk => hnY _ _ k (h.la j hj) hk)
      lv := fun j hj => by
        rw [hll] at hj
        by_cases e : j = i
        · simp only [updV, updW, vput, if_pos e]; exact hb
        · simp only [updV, updW, vput, if_neg e]
          exact ht.owns (h.lv j hj) (fun k hk => hnB j k hj e hk)
      lw := fun j m v hj hv => by
        rw [hll] at hj
        by_cases e : j = i
        · simp only [updW, vput, if_pos e] at hv ⊢; exact hw m v hv
        · simp only [updW, vput, if_neg e] at hv ⊢
          exact (h.lw j m v hj hv).tch ht (fun k hk => hnY _ _ k (h.lw j m v hj hv) hk)
      apart := fun j m k hj hm hne hk => by
        rw [hll] at hj hm
        have key : ∀ j k, j < s.L.length → j ≠ i → (B j).ownBlock = some k → b.ownBlock ≠ some k := fun j k hj hne hk e => by
          rcases fb k e with e2 | e2
          · exact h.apart j i k hj hi hne hk e2
          · have := (h.lv j hj).lt k hk; omega
        by_cases e : j = i
        · subst e
          simp only [updV, if_pos] at hk
          simp only [updV, if_neg (Ne.symm hne)]
          exact fun e2 => key m k hm (Ne.symm hne) e2 hk
        · simp only [updV, if_neg e] at hk
          by_cases e2 : m = i
          · subst e2
            simp only [updV, if_pos]
            exact key j k hj e hk
          · simp only [updV, if_neg e2]
            exact h.apart j m k hj hm hne hk
      okL := h.okL.set i hy.1 hy.2
      okV := fun j => by
        by_cases e : j = i
        · simp only [vput, if_pos e]; exact hV
        · simp only [vput, if_neg e]; exact h.okV j
      out := fun j hj => by
        rw [hll] at hj
        simp only [vput, if_neg (show j ≠ i by omega)]
        exact h.out j hj
      rr := .inl h.rr
      rl := .inl h.rl
      ra := fun j k hj hk => by
        rw [hll] at hj
        by_cases e : j = i
        · simp only [updV, if_pos e] at hk; exact .inr (.inl hk)
        · simp only [updV, if_neg e] at hk; exact .inl (h.ra j k hj hk)
      rb := fun j k hj hk => by
        rw [hll] at hj
        by_cases e : j = i
        · simp only [updV, if_pos e] at hk; exact .inr (.inr (.inl hk))
        · simp only [updV, if_neg e] at hk; exact .inl (h.rb j k hj hk)
      rv := fun j m v k hj hv hk => by
        rw [hll] at hj
        by_cases e : j = i
        · simp only [updW, if_pos e] at hv; exact .inr (.inr (.inr ⟨m, v, hv, hk⟩))
        · simp only [updW, if_neg e] at hv; exact .inl (h.rv j m v k hj hv hk)
      rlt := fun k hk => by
        rcases hk with hk | hk | hk | ⟨m, v, hv, hk⟩
        · exact Nat.lt_of_lt_of_le (h.rlt k hk) ht.size
        · exact ha.lt k hk
        · exact (hb.lt k hk).2
        · exact (hw m v hv).lt k hk }
  · exact ht.mono (fun k _ e => by
      rcases e with e | e
      · rw [e]; exact h.rl
      · exact h.rb i k hi e)
  · rintro k (hk | hk | hk | ⟨m, v, hv, hk⟩)
    · exact .inl hk
    · exact fa k hk
    · rcases fb k hk with e | e
      · exact .inl (h.rb i k hi e)
      · exact .inr e
    · exact fw m v k hv hk
end
end Go.Proofs.Ytgpaklifjonlkaa
