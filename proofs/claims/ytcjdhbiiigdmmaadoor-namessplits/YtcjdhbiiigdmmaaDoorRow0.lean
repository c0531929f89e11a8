/-
  Rows of numbers that a call makes for itself: what they hold, how they grow by append, one element or many.
-/
import Derived.Test.YtcjdhbiiigdmmaaDoorProg
import Derived.Test.YtcjdhbiiigdmmaaDoorMem
import Derived.WalkKit
import Derived.WalkSpells
import Derived.BigRegion
import Derived.BigQuiet
import Derived.Deep.QuietTactic
namespace Go.Proofs.YtcjdhbiiigdmmaaDoor
open Go.RowKit

/-- The slice v is a row of its own and holds the numbers xs. -/
def Owns (k : IntKind) (e : TypeId) (w : World) (v : Value) (xs : List Int) : Prop := w.ownsRow 0 e 1 v xs.length (xs.map (Value.int k))

/-- What an append onto v leaves: nothing old has turned but v's own block; what comes out lies there, or is new. -/
structure Grew (w w' : World) (v v' : Value) : Prop where
  tch : Tch (fun k => v.ownBlock = some k) w w'
  fresh : ∀ k, v'.ownBlock = some k → v.ownBlock = some k ∨ w.heap.size ≤ k

theorem Grew.refl (w : World) (v : Value) : Grew w w v v := ⟨Tch.refl _ _, fun _ e => .inl e⟩

theorem Grew.trans {a b c : World} {u v x : Value} (h : Grew a b u v) (h2 : Grew b c v x) : Grew a c u x := by
  refine ⟨h.tch.trans h2.tch fun i hi e => ?_, fun k hk => ?_⟩
  · rcases h.fresh i e with e | e
    · exact e
    · omega
  · rcases h2.fresh k hk with e | e
    · exact h.fresh k e
    · exact .inr (by have := h.tch.size; omega)

/-- Off an empty row: all is new. -/
theorem Grew.below {w w' : World} {v' : Value} (h : Grew w w' (.slice none 0 0) v') : Below w.heap.size w w' ∧ ∀ k, v'.ownBlock = some k → w.heap.size ≤ k :=
  ⟨h.tch.below (Nat.le_refl _) (fun k e => by cases e), fun k hk => by rcases h.fresh k hk with e | e; (· cases e); (· exact e)⟩

/-- A row that is new since w0 grows: still nothing of w0 has turned. -/
theorem Grew.onto {w0 w w' : World} {v v' : Value} (h : Grew w w' v v') (hb : Below w0.heap.size w0 w) (hn : ∀ k, v.ownBlock = some k → w0.heap.size ≤ k) : Below w0.heap.size w0 w' ∧ ∀ k, v'.ownBlock = some k → w0.heap.size ≤ k :=
  ⟨hb.trans (h.tch.below hb.size (fun k e => hn k e)), fun k hk => by
    rcases h.fresh k hk with e | e
    · exact hn k e
    · have := hb.size; omega⟩

theorem owns_nil (k : IntKind) (e : TypeId) (w : World) : Owns k e w (.slice none 0 0) [] := World.ownsRow_nil _ _ _ _

theorem Owns.rd {k : IntKind} {e : TypeId} {w : World} {v : Value} {xs : List Int} (h : Owns k e w v xs) : Rd k w v xs := rd_of_owns h

theorem Owns.tch {S : Nat → Prop} {k : IntKind} {e : TypeId} {w w' : World} {v : Value} {xs : List Int} (h : Owns k e w v xs) (ht : Tch S w w') (hn : ∀ j, v.ownBlock = some j → ¬ S j) : Owns k e w' v xs := ht.owns h hn

theorem Owns.below {k : IntKind} {e : TypeId} {w w' : World} {v : Value} {xs : List Int} (h : Owns k e w v xs) (hb : Below w.heap.size w w') : Owns k e w' v xs :=
  h.tch (S := fun _ => False) (Tch.of_below hb) (fun _ _ e => e)

theorem Owns.lt {k : IntKind} {e : TypeId} {w : World} {v : Value} {xs : List Int} (h : Owns k e w v xs) : ∀ j, v.ownBlock = some j → j < w.heap.size := fun j hj => (World.ownsRow.lt h j hj).2

/-- What the value is, where something is owned. -/
theorem Owns.shape {k : IntKind} {e : TypeId} {w : World} {v : Value} {xs : List Int} (h : Owns k e w v xs) (h0 : 0 < xs.length) :
    ∃ g cap, v = .slice (some ⟨g, 0, none⟩) xs.length cap ∧ g < w.heap.size ∧ xs.length ≤ cap ∧ cap ≤ maxLen ∧ (∀ i, i < xs.length → w.cell? ⟨g, i, none⟩ = some (.int k (xs.getD i 0))) ∧ ∀ i, w.frozen? ⟨g, i, none⟩ = false := by
  have h' : w.ownsRow 0 e 1 v xs.length (xs.map (Value.int k)) := h
  rcases h'.2 with ⟨_, e⟩ | ⟨g, cap, cur, rfl, _, hg, hnc, hcm, _⟩
  · omega
  · refine ⟨g, cap, rfl, (Array.getElem?_eq_some_iff.1 hg).1, hnc, hcm, fun i hi => ?_, fun i => h'.frozenAt i⟩
    rw [h'.cellAt i (by omega)]
    simp [List.getD_eq_getElem?_getD, hi]

/-- One cell of a row is written. -/
theorem Owns.set {k : IntKind} {e : TypeId} {w : World} {g n cap : Nat} {xs : List Int} (h : Owns k e w (.slice (some ⟨g, 0, none⟩) n cap) xs) (j : Nat) (u : Int) :
    Owns k e (w.setCell ⟨g, j, none⟩ (.int k u)) (.slice (some ⟨g, 0, none⟩) n cap) (xs.set j u) := by
  have h' : w.ownsRow 0 e 1 (.slice (some ⟨g, 0, none⟩) n cap) xs.length (xs.map (Value.int k)) := h
  have hn : n = xs.length := by
    rcases h'.2 with ⟨e, _⟩ | ⟨g', cap', cur, e, _⟩
    · cases e
    · simp only [Value.slice.injEq] at e; exact e.2.1
  subst hn
  have := (h'.stored j (.int k u)).1
  unfold Owns
  rw [List.length_set, List.map_set]
  exact this

/-- What is known of a slice type of one-cell numbers. -/
structure Elem (P : Program) (t e : TypeId) (k : IntKind) (bytes : Nat) : Prop where
  ht : P.underlying t = some (.slice e)
  info : ∃ i, P.info? e = some i ∧ i.zero = some (.int k 0) ∧ i.size = 1 ∧ i.bytes = bytes

section
variable {P : Program}

/-- 'append(v, u...)': many. -/
theorem wpList_many (w : World) {ops : Array Oper} {rest : List Oper} {o : Oper} {a : Act} {Q : Exit → Act → World → Prop} (hgd : o.guard = none) (s x : Operand) (t : TypeId)
    (ho : o.op = .call { callee := .builtin .append, args := #[s, x], argTypes := #[t, t] }) (e : TypeId) (k : IntKind) (bytes : Nat) (E : Elem P t e k bytes)
    (v : Value) (xs : List Int) (hs : a.eval s = v) (hown : Owns k e w v xs) (u : Value) (ys : List Int) (hx : a.eval x = u) (hu : Rd k w u ys)
    (h63 : xs.length + ys.length ≤ 9223372036854775807) (hbytes : (xs.length + ys.length) * bytes ≤ 140737488355328)
    (h : ∀ v' w', Owns k e w' v' (xs ++ ys) → Grew w w' v v' → wpList P ops Q rest (a.put o.dst v') w') : wpList P ops Q (o :: rest) a w := by
  obtain ⟨ht, i, hi, hz, h1, hb⟩ := E
  refine wpList_app w hgd s x t ho e i (.int k 0) bytes ht hi hz h1 hb rfl v (xs.map (Value.int k)) hs (by unfold Owns at hown; simpa using hown) u (ys.map (Value.int k)) hx (src_of_rd hu) (by unfold maxLen; simpa using h63) (by simpa using hbytes) ?_
  intro v' w' h2 h3 h4
  refine h v' w' (by unfold Owns; simpa using h2) ⟨(Tch.refl _ w).grown h3 (fun _ _ e => e), h4⟩

/-- 'append(v, x)': one, which lies in a block of its own first. -/
theorem wpList_push (w : World) {ops : Array Oper} {rest : List Oper} {o : Oper} {a : Act} {Q : Exit → Act → World → Prop} (hgd : o.guard = none) (s x : Operand) (t : TypeId)
    (ho : o.op = .call { callee := .builtin .append, args := #[s, x], argTypes := #[t, t] }) (e : TypeId) (k : IntKind) (bytes : Nat) (E : Elem P t e k bytes)
    (v : Value) (xs : List Int) (hs : a.eval s = v) (hown : Owns k e w v xs) (y : Int) (hx : a.eval x = .slice (some ⟨w.heap.size, 0, none⟩) 1 1)
    (h63 : xs.length + 1 ≤ 9223372036854775807) (hbytes : (xs.length + 1) * bytes ≤ 140737488355328)
    (h : ∀ v' w', Owns k e w' v' (xs ++ [y]) → Grew w w' v v' → wpList P ops Q rest (a.put o.dst v') w') : wpList P ops Q (o :: rest) a (w.alloc (.cells #[.int k y] e)) := by
  obtain ⟨ht, i, hi, hz, h1, hb⟩ := E
  refine wpList_app (w.alloc (.cells #[.int k y] e)) hgd s x t ho e i (.int k 0) bytes ht hi hz h1 hb rfl v (xs.map (Value.int k)) hs (by unfold Owns at hown; simpa using hown.alloc _) _ [.int k y] hx (src_one w _ _ rfl) (by unfold maxLen; simpa using h63) (by simpa using hbytes) ?_
  intro v' w' h2 h3 h4
  refine h v' w' (by unfold Owns; simpa using h2) ⟨Tch.grown ((Tch.refl _ w).alloc _) h3 (fun _ _ e => e), fun k hk => ?_⟩
  rcases h4 k hk with e | e
  · exact .inl e
  · exact .inr (by simp at e; omega)
end

/-- Draws turn no block. -/
theorem Below.of_drewN (B : Nat) (w : World) (n : Nat) : Below B w (w.drewN n) := ⟨rfl, rfl, rfl, Nat.le_refl _, fun _ _ => rfl⟩

end Go.Proofs.YtcjdhbiiigdmmaaDoor
