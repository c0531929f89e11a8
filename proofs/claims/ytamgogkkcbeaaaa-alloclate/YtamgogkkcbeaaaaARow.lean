/-
  Rows of runs (a first number, how many) that a call makes for itself.
-/
import Derived.Test.YtamgogkkcbeaaaaRow0
import Derived.Maps.AppendAt
namespace Go.Proofs.Ytamgogkkcbeaaaa
open Go.RowKit
set_option linter.unusedVariables false
set_option maxRecDepth 100000

/-- The slice v reads as the things ps. -/
def RdT (w : World) (v : Value) (ps : List (Int × Int)) : Prop :=
  ∃ a cap, v = .slice a ps.length cap ∧ ps.length ≤ cap ∧ cap ≤ maxLen ∧
    (ps = [] ∨ ∃ b o, a = some ⟨b, o, none⟩ ∧ ∀ i, i < ps.length → w.cell? ⟨b, o + i * 2, none⟩ = some (.int .i64 (ps.getD i (0, 0)).1) ∧ w.cell? ⟨b, o + i * 2 + 1, none⟩ = some (.int .i64 (ps.getD i (0, 0)).2))

def pcells (ps : List (Int × Int)) : List Value := ps.flatMap fun p => [Value.int .i64 p.1, Value.int .i64 p.2]

theorem pcells_length (ps : List (Int × Int)) : (pcells ps).length = ps.length * 2 := by
  induction ps with
  | nil => rfl
  | cons p ps ih => simp only [pcells, List.flatMap_cons, List.length_append, List.length_cons, List.length_nil] at *; omega

theorem pcells_append (ps qs : List (Int × Int)) : pcells (ps ++ qs) = pcells ps ++ pcells qs := by simp [pcells]

theorem pcells_get (ps : List (Int × Int)) (i : Nat) (h : i < ps.length) : (pcells ps)[i * 2]? = some (.int .i64 (ps.getD i (0, 0)).1) ∧ (pcells ps)[i * 2 + 1]? = some (.int .i64 (ps.getD i (0, 0)).2) := by
  induction ps generalizing i with
  | nil => simp at h
  | cons p ps ih =>
    have e : pcells (p :: ps) = [Value.int .i64 p.1, Value.int .i64 p.2] ++ pcells ps := by simp [pcells]
    rw [e]
    cases i with
    | zero => exact ⟨rfl, rfl⟩
    | succ i =>
      have := ih i (by simpa using h)
      rw [show (i + 1) * 2 = i * 2 + 2 by omega]
      simp only [List.getD_cons_succ]
      exact ⟨by simpa using this.1, by simpa using this.2⟩

/-- The slice v is a row of its own and holds the things ps. -/
def OwnsT (w : World) (v : Value) (ps : List (Int × Int)) : Prop := w.ownsRow 0 49 2 v ps.length (pcells ps)

theorem ownsT_nil (w : World) : OwnsT w (.slice none 0 0) [] := World.ownsRow_nil _ _ _ _

theorem OwnsT.rd {w : World} {v : Value} {ps : List (Int × Int)} (h : OwnsT w v ps) : RdT w v ps := by
  have h' : w.ownsRow 0 49 2 v ps.length (pcells ps) := h
  rcases h'.2 with ⟨rfl, h0⟩ | ⟨g, cap, cur, rfl, _, hg, hnc, hcm, _⟩
  · have hx : ps = [] := List.eq_nil_of_length_eq_zero h0
    subst hx
    exact ⟨none, 0, rfl, Nat.le_refl _, by unfold maxLen; omega, .inl rfl⟩
  · refine ⟨some ⟨g, 0, none⟩, cap, rfl, hnc, hcm, .inr ⟨g, 0, rfl, fun i hi => ?_⟩⟩
    have := pcells_get ps i hi
    rw [Nat.zero_add, h'.cellAt (i * 2) (by omega), h'.cellAt (i * 2 + 1) (by omega)]
    exact this

theorem OwnsT.tch {S : Nat → Prop} {w w' : World} {v : Value} {ps : List (Int × Int)} (h : OwnsT w v ps) (ht : Tch S w w') (hn : ∀ j, v.ownBlock = some j → ¬ S j) : OwnsT w' v ps := ht.owns h hn

theorem OwnsT.below {w w' : World} {v : Value} {ps : List (Int × Int)} (h : OwnsT w v ps) (hb : Below w.heap.size w w') : OwnsT w' v ps :=
  h.tch (S := fun _ => False) (Tch.of_below hb) (fun _ _ e => e)

/-- What the block of an owned row is. -/
theorem block_of_owns {w : World} {e : TypeId} {size : Nat} {v : Value} {n : Nat} {xs : List Value} (h : w.ownsRow 0 e size v n xs) {k : Nat} (hk : v.ownBlock = some k) : ∃ cur, w.heap[k]? = some (.cells cur e (0, 0)) := by
  rcases h.2 with ⟨rfl, _⟩ | ⟨g, cap, cur, rfl, _, hg, _⟩
  · cases hk
  · simp only [Value.ownBlock, Option.some.injEq] at hk
    subst hk
    exact ⟨cur, hg⟩

/-- Things and bytes share no block. -/
theorem OwnsT.ne_bytes {w : World} {v u : Value} {ps : List (Int × Int)} {n : Nat} {xs : List Value} (h : OwnsT w v ps) (hu : w.ownsRow 0 5 1 u n xs) {k : Nat} (hk : v.ownBlock = some k) : u.ownBlock ≠ some k := by
  intro e
  obtain ⟨c1, h1⟩ := block_of_owns (w := w) h hk
  obtain ⟨c2, h2⟩ := block_of_owns hu e
  rw [h1] at h2
  simp at h2

/-- Things lie in no block of another type. -/
theorem OwnsT.ne_blk {w : World} {v : Value} {ps : List (Int × Int)} {b : Nat} {cs : Array Value} {t : TypeId} (h : OwnsT w v ps) (hb : w.heap[b]? = some (.cells cs t (0, 0))) (ht : t ≠ 49) {k : Nat} (hk : v.ownBlock = some k) : k ≠ b := by
  intro e
  subst e
  obtain ⟨c1, h1⟩ := block_of_owns (w := w) h hk
  rw [h1] at hb
  simp at hb
  exact ht hb.2.symm

theorem infoT : (Try.prog.info? 49).map (fun i => (i.zero, i.size, i.bytes)) = some (some (.agg #[.int .i64 0, .int .i64 0]), 2, 16) := by kernel_rfl

/-- 'append(v, thing)': the thing lies in a block of its own first. -/
theorem wpList_pushT (w : World) {ops : Array Oper} {rest : List Oper} {o : Oper} {a : Act} {Q : Exit → Act → World → Prop} (hgd : o.guard = none) (s x : Operand)
    (ho : o.op = .call { callee := .builtin .append, args := #[s, x], argTypes := #[38, 38] })
    (v : Value) (ps : List (Int × Int)) (hs : a.eval s = v) (hown : OwnsT w v ps) (p : Int × Int) (hx : a.eval x = .slice (some ⟨w.heap.size, 0, none⟩) 1 1)
    (hbytes : (ps.length + 1) * 16 ≤ 140737488355328)
    (h : ∀ v' w', OwnsT w' v' (ps ++ [p]) → Grew w w' v v' → wpList Try.prog ops Q rest (a.put o.dst v') w') : wpList Try.prog ops Q (o :: rest) a (w.alloc (.cells #[.int .i64 p.1, .int .i64 p.2] 49)) := by
  obtain ⟨i0, hi, hz0, hz1, hz2⟩ := info_parts infoT
  refine wpList_append_own_at (w.alloc (.cells #[.int .i64 p.1, .int .i64 p.2] 49)) hgd s x 38 ho 0 49 i0 _ 2 16 Try.underlying38 hi hz0 hz1 hz2 rfl (by decide) v ps.length (pcells ps) hs (World.ownsRow.alloc hown _)
    ⟨w.heap.size, 0, none⟩ 1 1 [.int .i64 p.1, .int .i64 p.2] hx rfl ?_ ?_ (by unfold maxLen; omega) hbytes (Nat.zero_le _) ?_
  · intro j u hj
    match j, hj with
    | 0, hj => simp at hj; subst hj; simp [Addr.add]
    | 1, hj => simp at hj; subst hj; simp [Addr.add]
  · intro u hu
    simp at hu
    rcases hu with rfl | rfl <;> rfl
  · intro v' w' h2 h3 _ h5
    refine h v' w' ?_ ⟨Tch.grown ((Tch.refl _ w).alloc _) h3 (fun _ _ e => e), fun k hk => ?_⟩
    · unfold OwnsT
      rw [pcells_append]
      simpa [pcells] using h2
    · rcases h5 with e | e
      · exact .inl (by rw [← e]; exact hk)
      · rw [hk] at e
        simp at e
        exact .inr (by omega)


/-- What the value is, where something is owned. -/
theorem OwnsT.shape {w : World} {v : Value} {ps : List (Int × Int)} (h : OwnsT w v ps) (h0 : 0 < ps.length) :
    ∃ g cap, v = .slice (some ⟨g, 0, none⟩) ps.length cap ∧ g < w.heap.size ∧ ps.length ≤ cap ∧ cap ≤ maxLen ∧ (∀ i, i < ps.length → w.cell? ⟨g, i * 2, none⟩ = some (.int .i64 (ps.getD i (0, 0)).1) ∧ w.cell? ⟨g, i * 2 + 1, none⟩ = some (.int .i64 (ps.getD i (0, 0)).2)) ∧ ∀ i, w.frozen? ⟨g, i, none⟩ = false := by
  have h' : w.ownsRow 0 49 2 v ps.length (pcells ps) := h
  rcases h'.2 with ⟨_, e⟩ | ⟨g, cap, cur, rfl, _, hg, hnc, hcm, _⟩
  · omega
  · refine ⟨g, cap, rfl, (Array.getElem?_eq_some_iff.1 hg).1, hnc, hcm, fun i hi => ?_, fun i => h'.frozenAt i⟩
    have := pcells_get ps i hi
    rw [h'.cellAt (i * 2) (by omega), h'.cellAt (i * 2 + 1) (by omega)]
    exact this

theorem pcells_set (ps : List (Int × Int)) (i : Nat) (p : Int × Int) (hi : i < ps.length) : ((pcells ps).set (i * 2) (.int .i64 p.1)).set (i * 2 + 1) (.int .i64 p.2) = pcells (ps.set i p) := by
  induction ps generalizing i with
  | nil => simp at hi
  | cons q r ih =>
    match i with
    | 0 => simp [pcells]
    | i + 1 =>
      have := ih i (by simpa using hi)
      rw [show (i + 1) * 2 = i * 2 + 1 + 1 by omega]
      simpa [pcells] using this

/-- A thing is written. -/
theorem OwnsT.set {w : World} {g n cap : Nat} {ps : List (Int × Int)} (h : OwnsT w (.slice (some ⟨g, 0, none⟩) n cap) ps) (i : Nat) (hi : i < ps.length) (p : Int × Int) :
    OwnsT ((w.setCell ⟨g, i * 2, none⟩ (.int .i64 p.1)).setCell ⟨g, i * 2 + 1, none⟩ (.int .i64 p.2)) (.slice (some ⟨g, 0, none⟩) n cap) (ps.set i p) := by
  have h' : w.ownsRow 0 49 2 (.slice (some ⟨g, 0, none⟩) n cap) ps.length (pcells ps) := h
  have hn : n = ps.length := by
    rcases h'.2 with ⟨e, _⟩ | ⟨g', cap', cur, e, _⟩
    · cases e
    · simp only [Value.slice.injEq] at e; exact e.2.1
  subst hn
  have := ((h'.stored (i * 2) (.int .i64 p.1)).1.stored (i * 2 + 1) (.int .i64 p.2)).1
  unfold OwnsT
  rw [← pcells_set ps i p hi, List.length_set]
  exact this

end Go.Proofs.Ytamgogkkcbeaaaa
