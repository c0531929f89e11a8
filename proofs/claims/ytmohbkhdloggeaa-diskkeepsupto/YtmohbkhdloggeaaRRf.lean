/-
  The document's disk in memory: its box, a row of cells, rows of versions, rows of bytes.
-/
import Derived.Test.YtmohbkhdloggeaaDDk
import Derived.Deep.WholeRow
namespace Go.Proofs.Ytmohbkhdloggeaa
open Go.RowKit Go.Maps
set_option linter.unusedVariables false
set_option linter.unusedSimpArgs false

def updV (f : Nat → Value) (i : Nat) (v : Value) (j : Nat) : Value := if j = i then v else f j
def updW (f : Nat → List Value) (i : Nat) (v : List Value) (j : Nat) : List Value := if j = i then v else f j
/-- The cells: what lies there, and versions, side by side. -/
def cl (n : Nat) (A B : Nat → Value) : List Value := (List.range (n * 2)).map fun j => if j % 2 = 0 then A (j / 2) else B (j / 2)
theorem cl_len (n : Nat) (A B : Nat → Value) : (cl n A B).length = n * 2 := by simp [cl]
theorem cl_get0 {n : Nat} (A B : Nat → Value) {i : Nat} (h : i < n) : (cl n A B)[i * 2]? = some (A i) := by
  unfold cl
  rw [List.getElem?_map, List.getElem?_range (by omega)]
  simp
theorem cl_get1 {n : Nat} (A B : Nat → Value) {i : Nat} (h : i < n) : (cl n A B)[i * 2 + 1]? = some (B i) := by
  unfold cl
  rw [List.getElem?_map, List.getElem?_range (by omega)]
  simp only [Option.map_some, Option.some.injEq]
  rw [if_neg (by omega), show (i * 2 + 1) / 2 = i by omega]
theorem cl_set0 {n : Nat} (A B : Nat → Value) {i : Nat} (h : i < n) (v : Value) : (cl n A B).set (i * 2) v = cl n (updV A i v) B := by
  apply List.ext_getElem?
  intro j
  rw [List.getElem?_set, cl_len]
  unfold cl
  rw [List.getElem?_map, List.getElem?_map]
  by_cases hj : j < n * 2
  · rw [List.getElem?_range hj]
    simp only [Option.map_some]
    by_cases e : i * 2 = j
    · rw [if_pos e, if_pos (by omega), if_pos (by omega)]
      simp only [updV]
      rw [if_pos (by omega)]
    · rw [if_neg e]
      by_cases h2 : j % 2 = 0
      · rw [if_pos h2, if_pos h2]
        simp only [updV]
        rw [if_neg (by omega)]
      · rw [if_neg h2, if_neg h2]
  · rw [List.getElem?_eq_none (l := List.range (n * 2)) (by simp; omega), if_neg (by omega)]
    rfl
theorem cl_set1 {n : Nat} (A B : Nat → Value) {i : Nat} (h : i < n) (v : Value) : (cl n A B).set (i * 2 + 1) v = cl n A (updV B i v) := by
  apply List.ext_getElem?
  intro j
  rw [List.getElem?_set, cl_len]
  unfold cl
  rw [List.getElem?_map, List.getElem?_map]
  by_cases hj : j < n * 2
  · rw [List.getElem?_range hj]
    simp only [Option.map_some]
    by_cases e : i * 2 + 1 = j
    · rw [if_pos e, if_pos (by omega), if_neg (by omega)]
      simp only [updV]
      rw [if_pos (by omega)]
    · rw [if_neg e]
      by_cases h2 : j % 2 = 0
      · rw [if_pos h2, if_pos h2]
      · rw [if_neg h2, if_neg h2]
        simp only [updV]
        rw [if_neg (by omega)]
  · rw [List.getElem?_eq_none (l := List.range (n * 2)) (by simp; omega), if_neg (by omega)]
    rfl
theorem cl_congr {n : Nat} {A B A' B' : Nat → Value} (ha : ∀ i, i < n → A i = A' i) (hb : ∀ i, i < n → B i = B' i) : cl n A B = cl n A' B' := by
  unfold cl
  refine List.map_congr_left fun j hj => ?_
  have hj : j < n * 2 := by simpa using hj
  by_cases h2 : j % 2 = 0
  · rw [if_pos h2, if_pos h2, ha _ (by omega)]
  · rw [if_neg h2, if_neg h2, hb _ (by omega)]

theorem owns_block {w : World} {base : Nat} {e : TypeId} {size n : Nat} {v : Value} {xs : List Value} (h : w.ownsRow base e size v n xs) {k : Nat} (hk : v.ownBlock = some k) : ∃ C, w.heap[k]? = some (.cells C e (0, 0)) := by
  rcases h.2 with ⟨rfl, _⟩ | ⟨g, cap, cur, rfl, _, hg, _⟩
  · cases hk
  · cases hk; exact ⟨cur, hg⟩
theorem block_ne {w : World} {k j : Nat} {C D : Array Value} {t u : TypeId} {f g : Nat × Nat} (h : w.heap[k]? = some (.cells C t f)) (h2 : w.heap[j]? = some (.cells D u g)) (ht : (t == u) = false) : k ≠ j := fun e => by
  rw [e, h2] at h
  simp only [Option.some.injEq, Obj.cells.injEq] at h
  rw [h.2.1] at ht
  simp at ht

structure RfAt (R : Nat → Prop) (w : World) (r : Nat) (s : DS) (lb cp : Nat) (A B : Nat → Value) (x : Int) (W : Nat → List Value) : Prop where
  n1 : 1 ≤ s.L.length
  n2 : s.L.length ≤ 4096
  box : w.heap[r]? = some (.cells #[.slice (some ⟨lb, 0, none⟩) s.L.length cp, .bool s.c, .int .i64 x] 54 (0, 0))
  left : s.c = true → x = (s.l : Int)
  xlo : -9223372036854775808 ≤ x
  xhi : x ≤ 9223372036854775807
  l30 : s.l ≤ 1073741824
  row : w.ownsRow 0 67 2 (.slice (some ⟨lb, 0, none⟩) s.L.length cp) s.L.length (cl s.L.length A B)
  la : ∀ i, i < s.L.length → Owns .u8 5 w (A i) (s.L.getD i [])
  lv : ∀ i, i < s.L.length → w.ownsRow 0 41 1 (B i) (s.V i).length (W i)
  lw : ∀ (i j : Nat) (v : Value), i < s.L.length → (W i)[j]? = some v → Owns .u8 5 w v ((s.V i).getD j [])
  apart : ∀ i j k, i < s.L.length → j < s.L.length → i ≠ j → (B i).ownBlock = some k → (B j).ownBlock ≠ some k
  okL : SOk s.L
  okV : ∀ i, SOk (s.V i)
  out : ∀ i, s.L.length ≤ i → s.V i = []
  rr : R r
  rl : R lb
  ra : ∀ i k, i < s.L.length → (A i).ownBlock = some k → R k
  rb : ∀ i k, i < s.L.length → (B i).ownBlock = some k → R k
  rv : ∀ (i j : Nat) (v : Value) (k : Nat), i < s.L.length → (W i)[j]? = some v → v.ownBlock = some k → R k
  rlt : ∀ k, R k → k < w.heap.size

def Rf (R : Nat → Prop) (w : World) (r : Nat) (s : DS) : Prop := ∃ lb cp A B x W, RfAt R w r s lb cp A B x W
def RfTo (R : Nat → Prop) (w w' : World) (r : Nat) (s : DS) : Prop := ∃ R', Rf R' w' r s ∧ Tch R w w' ∧ ∀ k, R' k → R k ∨ w.heap.size ≤ k

section
variable {R : Nat → Prop} {w w' : World} {r : Nat} {s : DS} {lb cp : Nat} {A B : Nat → Value} {x : Int} {W : Nat → List Value}

theorem RfAt.c0 (h : RfAt R w r s lb cp A B x W) : w.cell? ⟨r, 0, none⟩ = some (.slice (some ⟨lb, 0, none⟩) s.L.length cp) := by rw [cell_of_row w r 0 _ _ (0, 0) h.box]; rfl
theorem RfAt.c1 (h : RfAt R w r s lb cp A B x W) : w.cell? ⟨r, 1, none⟩ = some (.bool s.c) := by rw [cell_of_row w r 1 _ _ (0, 0) h.box]; rfl
theorem RfAt.c2 (h : RfAt R w r s lb cp A B x W) : w.cell? ⟨r, 2, none⟩ = some (.int .i64 x) := by rw [cell_of_row w r 2 _ _ (0, 0) h.box]; rfl
theorem RfAt.fz (h : RfAt R w r s lb cp A B x W) (i : Nat) : w.frozen? ⟨r, i, none⟩ = false := frozen_of_row w r i _ _ h.box
theorem RfAt.lt (h : RfAt R w r s lb cp A B x W) : r < w.heap.size := (Array.getElem?_eq_some_iff.1 h.box).1
theorem RfAt.ca (h : RfAt R w r s lb cp A B x W) {i : Nat} (hi : i < s.L.length) : w.cell? ⟨lb, i * 2, none⟩ = some (A i) := by
  rw [h.row.cellAt (i * 2) (by omega)]; exact cl_get0 A B hi
theorem RfAt.cb (h : RfAt R w r s lb cp A B x W) {i : Nat} (hi : i < s.L.length) : w.cell? ⟨lb, i * 2 + 1, none⟩ = some (B i) := by
  rw [h.row.cellAt (i * 2 + 1) (by omega)]; exact cl_get1 A B hi
theorem RfAt.fl (h : RfAt R w r s lb cp A B x W) (i : Nat) : w.frozen? ⟨lb, i, none⟩ = false := h.row.frozenAt i
theorem RfAt.bl (h : RfAt R w r s lb cp A B x W) : ∃ C, w.heap[lb]? = some (.cells C 67 (0, 0)) := owns_block h.row rfl
theorem RfAt.ne_lb (h : RfAt R w r s lb cp A B x W) : r ≠ lb := by obtain ⟨C, hC⟩ := h.bl; exact block_ne h.box hC (by decide)
theorem RfAt.b_ne (h : RfAt R w r s lb cp A B x W) {i k : Nat} (hi : i < s.L.length) (hk : (B i).ownBlock = some k) : k ≠ r ∧ k ≠ lb := by
  obtain ⟨C, hC⟩ := owns_block (h.lv i hi) hk
  obtain ⟨D, hD⟩ := h.bl
  exact ⟨block_ne hC h.box (by decide), block_ne hC hD (by decide)⟩
/-- A row of bytes is none of the others. -/
theorem RfAt.y_ne (h : RfAt R w r s lb cp A B x W) {v : Value} {ys : List Int} (ho : Owns .u8 5 w v ys) {k : Nat} (hk : v.ownBlock = some k) : k ≠ r ∧ k ≠ lb ∧ ∀ i, i < s.L.length → (B i).ownBlock ≠ some k := by
  obtain ⟨C, hC⟩ := owns_block ho hk
  obtain ⟨D, hD⟩ := h.bl
  refine ⟨block_ne hC h.box (by decide), block_ne hC hD (by decide), fun i hi e => ?_⟩
  obtain ⟨E, hE⟩ := owns_block (h.lv i hi) e
  exact block_ne hC hE (by decide) rfl

theorem RfAt.tch (h : RfAt R w r s lb cp A B x W) {S : Nat → Prop} (ht : Tch S w w') (hn : ∀ k, R k → ¬ S k) : RfAt R w' r s lb cp A B x W :=
  { h with
    box := by rw [ht.block r h.lt (hn r h.rr)]; exact h.box
    row := ht.owns h.row (fun k e => by cases e; exact hn _ h.rl)
    la := fun i hi => (h.la i hi).tch ht (fun k e => hn k (h.ra i k hi e))
    lv := fun i hi => ht.owns (h.lv i hi) (fun k e => hn k (h.rb i k hi e))
    lw := fun i j v hi hv => (h.lw i j v hi hv).tch ht (fun k e => hn k (h.rv i j v k hi hv e))
    rlt := fun k hk => Nat.lt_of_lt_of_le (h.rlt k hk) ht.size }

theorem RfAt.mono {R2 : Nat → Prop} (h : RfAt R w r s lb cp A B x W) (hm : ∀ k, R k → R2 k) (hl : ∀ k, R2 k → k < w.heap.size) : RfAt R2 w r s lb cp A B x W :=
  { h with rr := hm _ h.rr, rl := hm _ h.rl, ra := fun i k hi hk => hm _ (h.ra i k hi hk), rb := fun i k hi hk => hm _ (h.rb i k hi hk), rv := fun i j v k hi hv hk => hm _ (h.rv i j v k hi hv hk), rlt := hl }
theorem Rf.tch (h : Rf R w r s) {S : Nat → Prop} (ht : Tch S w w') (hn : ∀ k, R k → ¬ S k) : Rf R w' r s := by
  obtain ⟨lb, cp, A, B, x, W, h⟩ := h
  exact ⟨lb, cp, A, B, x, W, h.tch ht hn⟩
theorem Rf.below (h : Rf R w r s) (hb : Below w.heap.size w w') : Rf R w' r s := h.tch (S := fun _ => False) (Tch.of_below hb) (fun _ _ e => e)
theorem Rf.to (h : Rf R w r s) : RfTo R w w r s := ⟨R, h, Tch.refl _ _, fun _ e => .inl e⟩
theorem Rf.rlt (h : Rf R w r s) : ∀ k, R k → k < w.heap.size := by obtain ⟨_, _, _, _, _, _, h⟩ := h; exact h.rlt
theorem RfTo.trans {R' : Nat → Prop} {w2 : World} {s1 s2 : DS} (hd : Rf R' w' r s1) (ht : Tch R w w') (hs : ∀ k, R' k → R k ∨ w.heap.size ≤ k) (h2 : RfTo R' w' w2 r s2) : RfTo R w w2 r s2 := by
  obtain ⟨S2, h3, h4, h5⟩ := h2
  refine ⟨S2, h3, ht.trans h4 (fun i hi e => ?_), fun k hk => ?_⟩
  · rcases hs i e with e | e
    · exact e
    · omega
  · rcases h5 k hk with e | e
    · exact hs k e
    · exact .inr (by have := ht.size; omega)

/-- Only the box has turned. -/
theorem RfAt.cut (h : RfAt R w r s lb cp A B x W) (c : Bool) (l : Nat) (x' : Int) (hl : l ≤ 1073741824) (hx : c = true → x' = (l : Int)) (h1 : -9223372036854775808 ≤ x') (h2 : x' ≤ 9223372036854775807) (ht : Tch (fun k => k = r) w w')
    (hb : w'.heap[r]? = some (.cells #[.slice (some ⟨lb, 0, none⟩) s.L.length cp, .bool c, .int .i64 x'] 54 (0, 0))) : RfAt R w' r { s with c := c, l := l } lb cp A B x' W :=
  { n1 := h.n1, n2 := h.n2, box := hb, left := hx, xlo := h1, xhi := h2, l30 := hl
    row := ht.owns h.row (fun k e => by cases e; exact fun e => h.ne_lb e.symm)
    la := fun i hi => (h.la i hi).tch ht (fun k e => (h.y_ne (h.la i hi) e).1)
    lv := fun i hi => ht.owns (h.lv i hi) (fun k e => (h.b_ne hi e).1)
    lw := fun i j v hi hv => (h.lw i j v hi hv).tch ht (fun k e => (h.y_ne (h.lw i j v hi hv) e).1)
    apart := h.apart, okL := h.okL, okV := h.okV, out := h.out, rr := h.rr, rl := h.rl, ra := h.ra, rb := h.rb, rv := h.rv
    rlt := fun k hk => Nat.lt_of_lt_of_le (h.rlt k hk) ht.size }
theorem RfAt.set1 (h : RfAt R w r s lb cp A B x W) (c : Bool) (hx : c = true → x = (s.l : Int)) : RfAt R (w.setCell ⟨r, 1, none⟩ (.bool c)) r { s with c := c } lb cp A B x W := by
  refine h.cut c s.l x h.l30 hx h.xlo h.xhi (tch_set w r 1 _) ?_
  rw [heap_setCell_same w r 1 _ _ _ h.box]
  rfl
theorem RfAt.set2 (h : RfAt R w r s lb cp A B x W) (l : Nat) (x' : Int) (hl : l ≤ 1073741824) (hx : s.c = true → x' = (l : Int)) (h1 : -9223372036854775808 ≤ x') (h2 : x' ≤ 9223372036854775807) : RfAt R (w.setCell ⟨r, 2, none⟩ (.int .i64 x')) r { s with l := l } lb cp A B x' W := by
  refine h.cut s.c l x' hl hx h1 h2 (tch_set w r 2 _) ?_
  rw [heap_setCell_same w r 2 _ _ _ h.box]
  rfl

theorem RfAt.out_tch (h : RfAt R w r s lb cp A B x W) (S : Nat → Prop) (hS : ∀ k, S k → R k) (ht : Tch S w w') : Tch R w w' := ht.mono (fun k _ e => hS k e)

/-- One cell has turned. -/
theorem RfAt.put (h : RfAt R w r s lb cp A B x W) {i : Nat} (hi : i < s.L.length) (a b : Value) (y : List Int) (V : List (List Int)) (W1 : List Value) (ht : Tch (fun k => k = lb ∨ (B i).ownBlock = some k) w w')
    (hrow : w'.ownsRow 0 67 2 (.slice (some ⟨lb, 0, none⟩) s.L.length cp) s.L.length (cl s.L.length (updV A i a) (updV B i b)))
    (ha : Owns .u8 5 w' a y) (hb : w'.ownsRow 0 41 1 b V.length W1) (hw : ∀ (j : Nat) (v : Value), W1[j]? = some v → Owns .u8 5 w' v (V.getD j []))
    (hy : y.length = 256 ∧ By y) (hV : SOk V) (fa : ∀ k, a.ownBlock = some k → R k ∨ w.heap.size ≤ k) (fb : ∀ k, b.ownBlock = some k → (B i).ownBlock = some k ∨ w.heap.size ≤ k) (fw : ∀ (j : Nat) (v : Value) (k : Nat), W1[j]? = some v → v.ownBlock = some k → R k ∨ w.heap.size ≤ k) :
    RfTo R w w' r { s with L := s.L.set i y, V := vput s.V i V } := by
  have hll : (s.L.set i y).length = s.L.length := List.length_set
  have hnr : ¬ (r = lb ∨ (B i).ownBlock = some r) := by
    rintro (e | e)
    · exact h.ne_lb e
    · exact (h.b_ne hi e).1 rfl
  have hnB : ∀ j k, j < s.L.length → j ≠ i → (B j).ownBlock = some k → ¬ (k = lb ∨ (B i).ownBlock = some k) := fun j k hj hne hk e => by
    rcases e with e | e
    · exact (h.b_ne hj hk).2 e
    · exact h.apart j i k hj hi hne hk e
  have hnY : ∀ v ys k, Owns .u8 5 w v ys → v.ownBlock = some k → ¬ (k = lb ∨ (B i).ownBlock = some k) := fun v ys k ho hk e => by
    have := h.y_ne ho hk
    rcases e with e | e
    · exact this.2.1 e
    · exact this.2.2 i hi e
  refine ⟨fun k => R k ∨ (a.ownBlock = some k ∨ b.ownBlock = some k ∨ ∃ (j : Nat) (v : Value), W1[j]? = some v ∧ v.ownBlock = some k), ⟨lb, cp, updV A i a, updV B i b, x, updW W i W1, ?_⟩, ?_, ?_⟩
  · exact {
      n1 := by rw [hll]; exact h.n1
      n2 := by rw [hll]; exact h.n2
      box := by rw [ht.block r h.lt hnr, h.box, hll]
      left := h.left
      xlo := h.xlo
      xhi := h.xhi
      l30 := h.l30
      row := by rw [hll]; exact hrow
      la := fun j hj => by
        rw [hll] at hj
        simp only [updV, List.getD_eq_getElem?_getD, List.getElem?_set]
        by_cases e : j = i
        · rw [if_pos e, if_pos e.symm, if_pos hi]; exact ha
        · rw [if_neg e, if_neg (fun e2 => e e2.symm), ← List.getD_eq_getElem?_getD]
          exact (h.la j hj).tch ht (fun k hk => hnY _ _ k (h.la j hj) hk)
      lv := fun j hj => by
        rw [hll] at hj
        by_cases e : j = i
        · simp only [updV, updW, vput, if_pos e]; exact hb
        · simp only [updV, updW, vput, if_neg e]
          exact ht.owns (h.lv j hj) (fun k hk => hnB j k hj e hk)
      lw := fun j m v hj hv => by
        rw [hll] at hj
        by_cases e : j = i
        · simp only [updW, vput, if_pos e] at hv ⊢; exact hw m v hv
        · simp only [updW, vput, if_neg e] at hv ⊢
          exact (h.lw j m v hj hv).tch ht (fun k hk => hnY _ _ k (h.lw j m v hj hv) hk)
      apart := fun j m k hj hm hne hk => by
        rw [hll] at hj hm
        have key : ∀ j k, j < s.L.length → j ≠ i → (B j).ownBlock = some k → b.ownBlock ≠ some k := fun j k hj hne hk e => by
          rcases fb k e with e2 | e2
          · exact h.apart j i k hj hi hne hk e2
          · have := (h.lv j hj).lt k hk; omega
        by_cases e : j = i
        · subst e
          simp only [updV, if_pos] at hk
          simp only [updV, if_neg (Ne.symm hne)]
          exact fun e2 => key m k hm (Ne.symm hne) e2 hk
        · simp only [updV, if_neg e] at hk
          by_cases e2 : m = i
          · subst e2
            simp only [updV, if_pos]
            exact key j k hj e hk
          · simp only [updV, if_neg e2]
            exact h.apart j m k hj hm hne hk
      okL := h.okL.set i hy.1 hy.2
      okV := fun j => by
        by_cases e : j = i
        · simp only [vput, if_pos e]; exact hV
        · simp only [vput, if_neg e]; exact h.okV j
      out := fun j hj => by
        rw [hll] at hj
        simp only [vput, if_neg (show j ≠ i by omega)]
        exact h.out j hj
      rr := .inl h.rr
      rl := .inl h.rl
      ra := fun j k hj hk => by
        rw [hll] at hj
        by_cases e : j = i
        · simp only [updV, if_pos e] at hk; exact .inr (.inl hk)
        · simp only [updV, if_neg e] at hk; exact .inl (h.ra j k hj hk)
      rb := fun j k hj hk => by
        rw [hll] at hj
        by_cases e : j = i
        · simp only [updV, if_pos e] at hk; exact .inr (.inr (.inl hk))
        · simp only [updV, if_neg e] at hk; exact .inl (h.rb j k hj hk)
      rv := fun j m v k hj hv hk => by
        rw [hll] at hj
        by_cases e : j = i
        · simp only [updW, if_pos e] at hv; exact .inr (.inr (.inr ⟨m, v, hv, hk⟩))
        · simp only [updW, if_neg e] at hv; exact .inl (h.rv j m v k hj hv hk)
      rlt := fun k hk => by
        rcases hk with hk | hk | hk | ⟨m, v, hv, hk⟩
        · exact Nat.lt_of_lt_of_le (h.rlt k hk) ht.size
        · exact ha.lt k hk
        · exact (hb.lt k hk).2
        · exact (hw m v hv).lt k hk }
  · exact ht.mono (fun k _ e => by
      rcases e with e | e
      · rw [e]; exact h.rl
      · exact h.rb i k hi e)
  · rintro k (hk | hk | hk | ⟨m, v, hv, hk⟩)
    · exact .inl hk
    · exact fa k hk
    · rcases fb k hk with e | e
      · exact .inl (h.rb i k hi e)
      · exact .inr e
    · exact fw m v k hv hk
end
end Go.Proofs.Ytmohbkhdloggeaa
