/-
  Versions and superblocks in memory.
-/
import Derived.Test.YtdicgaepggffbaaUPl
import Derived.Test.YtdicgaepggffbaaDBs
import Derived.Maps.AppendAt
import Derived.Deep.MidRow
namespace Go.Proofs.Ytdicgaepggffbaa
open Go.RowKit Pl
set_option linter.unusedVariables false
set_option linter.unusedSimpArgs false

/-- The four cells of a version. -/
structure VCell (w : World) (b o : Nat) (x : Vn) : Prop where
  c0 : w.cell? ⟨b, o, none⟩ = some (.int .i64 x.id)
  c1 : w.cell? ⟨b, o + 1, none⟩ = some (.int .i64 x.root)
  c2 : w.cell? ⟨b, o + 2, none⟩ = some (.int .i64 x.nx)
  c3 : w.cell? ⟨b, o + 3, none⟩ = some (.bool x.fx)
/-- The slice v reads as these versions. -/
def RdV (w : World) (v : Value) (xs : List Vn) : Prop :=
  ∃ a cap, v = .slice a xs.length cap ∧ xs.length ≤ cap ∧ cap ≤ maxLen ∧ (xs = [] ∨ ∃ b o, a = some ⟨b, o, none⟩ ∧ ∀ i x, xs[i]? = some x → VCell w b (o + i * 4) x)

theorem VCell.tch {S : Nat → Prop} {w w' : World} {b o : Nat} {x : Vn} (h : VCell w b o x) (ht : Tch S w w') (hn : ¬ S b) : VCell w' b o x := by
  have hl := World.block_lt_of_cell? w ⟨b, o, none⟩ h.c0
  exact {
    c0 := by rw [ht.cell (p := ⟨b, o, none⟩) hl hn]; exact h.c0
    c1 := by rw [ht.cell (p := ⟨b, o + 1, none⟩) hl hn]; exact h.c1
    c2 := by rw [ht.cell (p := ⟨b, o + 2, none⟩) hl hn]; exact h.c2
    c3 := by rw [ht.cell (p := ⟨b, o + 3, none⟩) hl hn]; exact h.c3 }
theorem RdV.tch {S : Nat → Prop} {w w' : World} {v : Value} {xs : List Vn} (h : RdV w v xs) (ht : Tch S w w') (hn : ∀ b, v.ownBlock = some b → ¬ S b) : RdV w' v xs := by
  obtain ⟨a, cap, rfl, hl, hm, h⟩ := h
  refine ⟨a, cap, rfl, hl, hm, ?_⟩
  rcases h with h | ⟨b, o, rfl, hc⟩
  · exact .inl h
  · exact .inr ⟨b, o, rfl, fun i x hx => (hc i x hx).tch ht (hn b rfl)⟩
theorem RdV.below {w w' : World} {v : Value} {xs : List Vn} (h : RdV w v xs) (hb : Below w.heap.size w w') : RdV w' v xs := h.tch (S := fun _ => False) (Tch.of_below hb) (fun _ _ e => e)
theorem rdV_nil (w : World) : RdV w (.slice none 0 0) [] := ⟨none, 0, rfl, Nat.le_refl _, by unfold maxLen; omega, .inl rfl⟩
theorem RdV.at_ {w wr : World} {a : Option Addr} {n cap : Nat} {xs : List Vn} (h : RdV w (.slice a n cap) xs) (hb : Below w.heap.size w wr) {k : Nat} {x : Vn} (hk : xs[k]? = some x) : ∃ b o, a = some ⟨b, o, none⟩ ∧ VCell wr b (o + k * 4) x := by
  obtain ⟨a', cap', e, _, _, hc⟩ := h
  simp only [Value.slice.injEq] at e
  obtain ⟨rfl, _, _⟩ := e
  rcases hc with e | ⟨b, o, rfl, hc⟩
  · rw [e] at hk; simp at hk
  · exact ⟨b, o, rfl, (hc k _ hk).tch (S := fun _ => False) (Tch.of_below hb) (fun e => e)⟩

def vcells (ps : List Vn) : List Value := ps.flatMap fun p => [Value.int .i64 p.id, .int .i64 p.root, .int .i64 p.nx, .bool p.fx]
theorem vcells_length (ps : List Vn) : (vcells ps).length = ps.length * 4 := by
  induction ps with
  | nil => rfl
  | cons p ps ih => simp only [vcells, List.flatMap_cons, List.length_append, List.length_cons, List.length_nil] at *; omega
theorem vcells_append (ps qs : List Vn) : vcells (ps ++ qs) = vcells ps ++ vcells qs := by simp [vcells]
theorem vcells_get : ∀ (ps : List Vn) (i : Nat) (x : Vn), ps[i]? = some x → (vcells ps)[i * 4]? = some (.int .i64 x.id) ∧ (vcells ps)[i * 4 + 1]? = some (.int .i64 x.root) ∧ (vcells ps)[i * 4 + 2]? = some (.int .i64 x.nx) ∧ (vcells ps)[i * 4 + 3]? = some (.bool x.fx)
  | [], i, x, h => by simp at h
  | p :: ps, 0, x, h => by
    simp at h
    subst h
    have e : vcells (p :: ps) = [Value.int .i64 p.id, .int .i64 p.root, .int .i64 p.nx, .bool p.fx] ++ vcells ps := by simp [vcells]
    rw [e]
    exact ⟨rfl, rfl, rfl, rfl⟩
  | p :: ps, i + 1, x, h => by
    have e : vcells (p :: ps) = [Value.int .i64 p.id, .int .i64 p.root, .int .i64 p.nx, .bool p.fx] ++ vcells ps := by simp [vcells]
    have := vcells_get ps i x (by simpa using h)
    rw [e, show (i + 1) * 4 = i * 4 + 4 by omega]
    exact ⟨by simpa using this.1, by simpa using this.2.1, by simpa using this.2.2.1, by simpa using this.2.2.2⟩
/-- The slice v is a row of its own and holds these versions. -/
def OwnsV (w : World) (v : Value) (ps : List Vn) : Prop := w.ownsRow 0 66 4 v ps.length (vcells ps)
theorem ownsV_nil (w : World) : OwnsV w (.slice none 0 0) [] := World.ownsRow_nil _ _ _ _
theorem OwnsV.rd {w : World} {v : Value} {ps : List Vn} (h : OwnsV w v ps) : RdV w v ps := by
  have h' : w.ownsRow 0 66 4 v ps.length (vcells ps) := h
  rcases h'.2 with ⟨rfl, h0⟩ | ⟨g, cap, cur, rfl, _, hg, hnc, hcm, _⟩
  · have hx : ps = [] := List.eq_nil_of_length_eq_zero h0
    subst hx
    exact rdV_nil w
  · refine ⟨some ⟨g, 0, none⟩, cap, rfl, hnc, hcm, .inr ⟨g, 0, rfl, fun i x hi => ?_⟩⟩
    have hil := (List.getElem?_eq_some_iff.1 hi).1
    have := vcells_get ps i x hi
    exact ⟨by rw [Nat.zero_add, h'.cellAt (i * 4) (by omega)]; exact this.1, by rw [Nat.zero_add, h'.cellAt (i * 4 + 1) (by omega)]; exact this.2.1, by rw [Nat.zero_add, h'.cellAt (i * 4 + 2) (by omega)]; exact this.2.2.1, by rw [Nat.zero_add, h'.cellAt (i * 4 + 3) (by omega)]; exact this.2.2.2⟩
theorem OwnsV.tch {S : Nat → Prop} {w w' : World} {v : Value} {ps : List Vn} (h : OwnsV w v ps) (ht : Tch S w w') (hn : ∀ j, v.ownBlock = some j → ¬ S j) : OwnsV w' v ps := ht.owns h hn
theorem OwnsV.below {w w' : World} {v : Value} {ps : List Vn} (h : OwnsV w v ps) (hb : Below w.heap.size w w') : OwnsV w' v ps := h.tch (S := fun _ => False) (Tch.of_below hb) (fun _ _ e => e)
theorem OwnsV.lt {w : World} {v : Value} {ps : List Vn} (h : OwnsV w v ps) : ∀ j, v.ownBlock = some j → j < w.heap.size := fun j hj => (World.ownsRow.lt h j hj).2
theorem infoV : (Try.prog.info? 66).map (fun i => (i.zero, i.size, i.bytes)) = some (some (.agg #[.int .i64 0, .int .i64 0, .int .i64 0, .bool false]), 4, 32) := by kernel_rfl

theorem vcells_put : ∀ (ps : List Vn) (i : Nat), i < ps.length → ∀ x : Vn, (vcells ps).take (i * 4) ++ [.int .i64 x.id, .int .i64 x.root, .int .i64 x.nx, .bool x.fx] ++ (vcells ps).drop (i * 4 + 4) = vcells (ps.set i x)
  | [], i, h, _ => by simp at h
  | p :: ps, 0, _, x => by
    have e : ∀ q : Vn, vcells (q :: ps) = [Value.int .i64 q.id, .int .i64 q.root, .int .i64 q.nx, .bool q.fx] ++ vcells ps := fun q => by simp [vcells]
    rw [List.set_cons_zero, e, e]
    rfl
  | p :: ps, i + 1, h, x => by
    have e : ∀ qs : List Vn, vcells (p :: qs) = [Value.int .i64 p.id, .int .i64 p.root, .int .i64 p.nx, .bool p.fx] ++ vcells qs := fun q => by simp [vcells]
    have ih := vcells_put ps i (by simpa using h) x
    rw [List.set_cons_succ, e, e, ← ih, show (i + 1) * 4 = 4 + i * 4 by omega]
    simp only [List.take_append, List.drop_append, List.length_cons, List.length_nil, List.append_assoc]
    rw [List.take_of_length_le (by simp), List.drop_of_length_le (by simp), show 4 + i * 4 - (0 + 1 + 1 + 1 + 1) = i * 4 by omega, show 4 + i * 4 + 4 - (0 + 1 + 1 + 1 + 1) = i * 4 + 4 by omega, List.nil_append]
/-- One version is laid into a row. -/
theorem OwnsV.put {w : World} {g n cap : Nat} {ps : List Vn} (h : OwnsV w (.slice (some ⟨g, 0, none⟩) n cap) ps) {i : Nat} (hi : i < ps.length) (x : Vn) :
    OwnsV (w.setCells g (i * 4) [.int .i64 x.id, .int .i64 x.root, .int .i64 x.nx, .bool x.fx]) (.slice (some ⟨g, 0, none⟩) n cap) (ps.set i x) := by
  have h' : w.ownsRow 0 66 4 (.slice (some ⟨g, 0, none⟩) n cap) ps.length (vcells ps) := h
  rcases h'.2 with ⟨e, _⟩ | ⟨g', c, cur, e, _, hg, h1, h2, h3, h4⟩
  · cases e
  · simp only [Value.slice.injEq, Option.some.injEq, Addr.mk.injEq, and_true] at e
    obtain ⟨rfl, rfl, rfl⟩ := e
    have hs := heap_setCells_same [.int .i64 x.id, .int .i64 x.root, .int .i64 x.nx, .bool x.fx] (i * 4) w cur hg (by simp; omega)
    refine ⟨by rw [vcells_length], .inr ⟨g, cap, _, by rw [List.length_set], Nat.zero_le _, hs, by rw [List.length_set]; exact h1, h2, ?_, ?_⟩⟩
    · simp only [List.size_toArray, List.length_append, List.length_take, List.length_drop, List.length_cons, List.length_nil, Array.length_toList]
      omega
    · rw [List.length_set, ← vcells_put ps i hi x, ← h4]
      have hc : cur.toList.length = cap * 4 := by rw [Array.length_toList]; exact h3
      rw [List.take_take, Nat.min_eq_left (by omega), List.drop_take]
      simp only [List.toList_toArray, List.length_cons, List.length_nil]
      rw [List.take_append, List.take_append, List.take_of_length_le (l := List.take (i * 4) cur.toList) (by simp; omega)]
      simp only [List.length_append, List.length_take, hc, List.length_cons, List.length_nil]
      rw [Nat.min_eq_left (by omega), List.take_of_length_le (l := [_, _, _, _]) (by simp; omega)]

/-- A superblock as a value. -/
def supv (s : Sp) (v : Value) : Value := .agg #[.int .i64 s.gen, .int .i64 s.sc, .int .i64 s.nx, v]
theorem inf_sup : (Try.prog.info? 24).map (·.size) = some 4 := by kernel_rfl
/-- A variable that is a superblock. -/
def Uv (w : World) (b : Nat) (s : Sp) (v : Value) : Prop := w.heap[b]? = some (.cells #[.int .i64 s.gen, .int .i64 s.sc, .int .i64 s.nx, v] 24 (0, 0))
section
variable {w w' : World} {b : Nat} {s : Sp} {v : Value}
theorem Uv.range (h : Uv w b s v) : w.rangeAt b 0 [.int .i64 s.gen, .int .i64 s.sc, .int .i64 s.nx, v] := fun j u hu => by
  rw [Nat.zero_add, cell_of_row w b j _ _ (0, 0) h, List.getElem?_toArray]
  exact hu
theorem Uv.load (h : Uv w b s v) : (loadVar 24 ⟨b, 0, none⟩).run Try.prog w = .ok (supv s v) w :=
  run_loadVar_mid (P := Try.prog) w b 0 24 [.int .i64 s.gen, .int .i64 s.sc, .int .i64 s.nx, v] _ h.range Try.underlying24 rfl inf_sup
theorem Uv.c0 (h : Uv w b s v) : w.cell? ⟨b, 0, none⟩ = some (.int .i64 s.gen) := by rw [cell_of_row w b 0 _ _ (0, 0) h]; rfl
theorem Uv.c1 (h : Uv w b s v) : w.cell? ⟨b, 1, none⟩ = some (.int .i64 s.sc) := by rw [cell_of_row w b 1 _ _ (0, 0) h]; rfl
theorem Uv.c2 (h : Uv w b s v) : w.cell? ⟨b, 2, none⟩ = some (.int .i64 s.nx) := by rw [cell_of_row w b 2 _ _ (0, 0) h]; rfl
theorem Uv.c3 (h : Uv w b s v) : w.cell? ⟨b, 3, none⟩ = some v := by rw [cell_of_row w b 3 _ _ (0, 0) h]; rfl
theorem Uv.fz (h : Uv w b s v) (i : Nat) : w.frozen? ⟨b, i, none⟩ = false := frozen_of_row w b i _ _ h
theorem Uv.lt (h : Uv w b s v) : b < w.heap.size := (Array.getElem?_eq_some_iff.1 h).1
theorem Uv.tch {S : Nat → Prop} (h : Uv w b s v) (ht : Tch S w w') (hb : ¬ S b) : Uv w' b s v := by unfold Uv; rw [ht.block b h.lt hb]; exact h
theorem Uv.below (h : Uv w b s v) (hb : Below w.heap.size w w') : Uv w' b s v := h.tch (S := fun _ => False) (Tch.of_below hb) (fun e => e)
theorem Uv.put (h : Uv w b s v) (t : Sp) (u : Value) : Uv ((((w.setCell ⟨b, 0, none⟩ (.int .i64 t.gen)).setCell ⟨b, 1, none⟩ (.int .i64 t.sc)).setCell ⟨b, 2, none⟩ (.int .i64 t.nx)).setCell ⟨b, 3, none⟩ u) b t u := by
  have h1 := heap_setCell_same w b 0 _ _ (.int .i64 t.gen) h
  have h2 := heap_setCell_same _ b 1 _ _ (.int .i64 t.sc) h1
  have h3 := heap_setCell_same _ b 2 _ _ (.int .i64 t.nx) h2
  exact heap_setCell_same _ b 3 _ _ u h3
theorem uv_new (w : World) (s : Sp) (v : Value) : Uv (w.alloc (.cells #[.int .i64 s.gen, .int .i64 s.sc, .int .i64 s.nx, v] 24)) w.heap.size s v := heap_alloc_new w _
end
end Go.Proofs.Ytdicgaepggffbaa
