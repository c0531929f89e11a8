/-
  A disk: what lies there, versions, a cut; in memory: its box, the sectors' row, the map of versions' rows.
-/
import Derived.Test.YtaacidgihhcpkaaDMap
namespace Go.Proofs.Ytaacidgihhcpkaa
open Go.RowKit Go.Maps
set_option linter.unusedVariables false
set_option linter.unusedSimpArgs false

structure DS where
  L : List (List Int)
  V : Nat → List (List Int)
  c : Bool
  l : Nat

/-- Is one more write or flush done? -/
def DS.can (s : DS) : Bool := !s.c || s.l != 0
def DS.tick (s : DS) : DS := { s with l := if s.c then s.l - 1 else s.l }
/-- What a sector has. -/
def DS.has (s : DS) (i : Nat) : List Int := (s.V i).getLastD (s.L.getD i [])
def vput (V : Nat → List (List Int)) (i : Nat) (x : List (List Int)) (j : Nat) : List (List Int) := if j = i then x else V j
def DS.wr (s : DS) (i : Nat) (x : List Int) : DS := if s.can then { s.tick with V := vput s.V i (s.V i ++ [x]) } else s
/-- The sectors with versions, rising. -/
def DS.dirty (s : DS) : List Nat := (List.range s.L.length).filter fun i => decide (s.V i ≠ [])
def DS.fl (s : DS) : DS := if s.can then { s.tick with L := (List.range s.L.length).map s.has, V := fun _ => [] } else s
def DS.ct (s : DS) (n : Nat) : DS := { s with c := true, l := if s.c then min n s.l else n }
/-- The pick's remainder. -/
def rem (p : Int) (m : Nat) : Nat := (p % ((m : Int) + 1)).toNat
def DS.per (s : DS) (i : Nat) (p : Int) : DS := { s with L := if 0 < rem p (s.V i).length then s.L.set i ((s.V i).getD (rem p (s.V i).length - 1) []) else s.L, V := vput s.V i [] }
def DS.pers (s : DS) (ds : List Nat) (ps : List Int) : Nat → DS
  | 0 => s
  | k + 1 => (DS.pers s ds ps k).per (ds.getD k 0) (ps.getD k 0)
def DS.pw (s : DS) (ps : List Int) : DS := { s.pers s.dirty ps s.dirty.length with c := false, l := 0 }
/-- One bit turned. -/
def trn (b : Nat) (x : List Int) : List Int := x.set (b / 8) ((((x.getD (b / 8) 0).toNat ^^^ 2 ^ (b % 8) : Nat)) : Int)
def DS.rot (s : DS) (b : Nat) : DS := { s with L := s.L.set (b / 2048) (trn (b % 2048) (s.L.getD (b / 2048) [])), V := vput s.V (b / 2048) ((s.V (b / 2048)).map (trn (b % 2048))) }

theorem tch_set (w : World) (b i : Nat) (v : Value) : Tch (fun k => k = b) w (w.setCell ⟨b, i, none⟩ v) := Tch.setCell (Tch.refl (fun k => k = b) w) (p := ⟨b, i, none⟩) (fun _ => rfl) v

structure DkAt (S : Nat → Prop) (w : World) (d : Nat) (s : DS) (lb vb lc : Nat) (g : Nat → Option Value) : Prop where
  n1 : 1 ≤ s.L.length
  n2 : s.L.length ≤ 4096
  l30 : s.l ≤ 1073741824
  box : w.heap[d]? = some (.cells #[.slice (some ⟨lb, 0, none⟩) s.L.length lc, .map (some vb), .bool s.c, .int .i64 (s.l : Int)] 65 (0, 0))
  lies : SecR w (.slice (some ⟨lb, 0, none⟩) s.L.length lc) s.L
  map : Mp w vb s.L.length g
  no : ∀ i, g i = none → s.V i = []
  yes : ∀ i v, g i = some v → i < s.L.length ∧ s.V i ≠ [] ∧ SecR w v (s.V i) ∧ v.ownBlock ≠ some lb
  apart : ∀ i j v u, g i = some v → g j = some u → i ≠ j → v.ownBlock ≠ u.ownBlock
  sd : S d
  sl : S lb
  sv : S vb
  sg : ∀ i v k, g i = some v → v.ownBlock = some k → S k
  slt : ∀ k, S k → k < w.heap.size

/-- The disk at block d is s; what it has for its own lies in S. -/
def Dk (S : Nat → Prop) (w : World) (d : Nat) (s : DS) : Prop := ∃ lb vb lc g, DkAt S w d s lb vb lc g

/-- From w to w' the disk at d has become s. -/
def DkTo (S : Nat → Prop) (w w' : World) (d : Nat) (s : DS) : Prop := ∃ S', Dk S' w' d s ∧ Tch S w w' ∧ ∀ k, S' k → S k ∨ w.heap.size ≤ k

section
variable {S : Nat → Prop} {w w' : World} {d : Nat} {s : DS} {lb vb lc : Nat} {g : Nat → Option Value}

theorem DkAt.c0 (h : DkAt S w d s lb vb lc g) : w.cell? ⟨d, 0, none⟩ = some (.slice (some ⟨lb, 0, none⟩) s.L.length lc) := by rw [cell_of_row w d 0 _ _ (0, 0) h.box]; rfl
theorem DkAt.c1 (h : DkAt S w d s lb vb lc g) : w.cell? ⟨d, 1, none⟩ = some (.map (some vb)) := by rw [cell_of_row w d 1 _ _ (0, 0) h.box]; rfl
theorem DkAt.c2 (h : DkAt S w d s lb vb lc g) : w.cell? ⟨d, 2, none⟩ = some (.bool s.c) := by rw [cell_of_row w d 2 _ _ (0, 0) h.box]; rfl
theorem DkAt.c3 (h : DkAt S w d s lb vb lc g) : w.cell? ⟨d, 3, none⟩ = some (.int .i64 (s.l : Int)) := by rw [cell_of_row w d 3 _ _ (0, 0) h.box]; rfl
theorem DkAt.fz (h : DkAt S w d s lb vb lc g) (i : Nat) : w.frozen? ⟨d, i, none⟩ = false := frozen_of_row w d i _ _ h.box
theorem DkAt.lt (h : DkAt S w d s lb vb lc g) : d < w.heap.size := (Array.getElem?_eq_some_iff.1 h.box).1

theorem DkAt.ne_lb (h : DkAt S w d s lb vb lc g) : d ≠ lb := fun e => by
  obtain ⟨cur, _, hg, _⟩ := h.lies.blk
  rw [← e, h.box] at hg
  simp at hg
theorem DkAt.ne_vb (h : DkAt S w d s lb vb lc g) : d ≠ vb := fun e => h.map.notCells (by rw [← e]; exact h.box)
theorem DkAt.lb_vb (h : DkAt S w d s lb vb lc g) : lb ≠ vb := fun e => by
  obtain ⟨cur, _, hg, _⟩ := h.lies.blk
  exact h.map.notCells (by rw [← e]; exact hg)
theorem DkAt.own (h : DkAt S w d s lb vb lc g) {i : Nat} {v : Value} (hv : g i = some v) : ∃ b cap, v = .slice (some ⟨b, 0, none⟩) (s.V i).length cap ∧ b ≠ d ∧ b ≠ vb ∧ b ≠ lb ∧ S b ∧ 0 < (s.V i).length := by
  obtain ⟨_, h2, h3, h4⟩ := h.yes i v hv
  obtain ⟨b, cap, cur, rfl, hb, _⟩ := h3.shape h2
  refine ⟨b, cap, rfl, fun e => ?_, fun e => ?_, fun e => h4 (by rw [e]; rfl), h.sg i _ b hv rfl, ?_⟩
  · rw [e, h.box] at hb; simp at hb
  · exact h.map.notCells (by rw [← e]; exact hb)
  · exact Nat.pos_of_ne_zero (fun e => h2 (List.eq_nil_of_length_eq_zero e))

theorem DkAt.tch (h : DkAt S w d s lb vb lc g) {R : Nat → Prop} (ht : Tch R w w') (hn : ∀ k, S k → ¬ R k) : DkAt S w' d s lb vb lc g where
  n1 := h.n1
  n2 := h.n2
  l30 := h.l30
  box := by rw [ht.block d h.lt (hn d h.sd)]; exact h.box
  lies := h.lies.tch ht (fun j e => by cases e; exact hn _ h.sl)
  map := h.map.tch ht (hn _ h.sv)
  no := h.no
  yes := fun i v hv => ⟨(h.yes i v hv).1, (h.yes i v hv).2.1, (h.yes i v hv).2.2.1.tch ht (fun j e => hn j (h.sg i v j hv e)), (h.yes i v hv).2.2.2⟩
  apart := h.apart
  sd := h.sd
  sl := h.sl
  sv := h.sv
  sg := h.sg
  slt := fun k hk => Nat.lt_of_lt_of_le (h.slt k hk) ht.size

theorem Dk.tch {R : Nat → Prop} (h : Dk S w d s) (ht : Tch R w w') (hn : ∀ k, S k → ¬ R k) : Dk S w' d s := by
  obtain ⟨lb, vb, lc, g, h⟩ := h
  exact ⟨lb, vb, lc, g, h.tch ht hn⟩
theorem Dk.below (h : Dk S w d s) (hb : Below w.heap.size w w') : Dk S w' d s := h.tch (R := fun _ => False) (Tch.of_below hb) (fun _ _ e => e)
theorem Dk.to (h : Dk S w d s) : DkTo S w w d s := ⟨S, h, Tch.refl _ _, fun _ e => .inl e⟩
theorem Dk.slt (h : Dk S w d s) : ∀ k, S k → k < w.heap.size := by obtain ⟨_, _, _, _, h⟩ := h; exact h.slt
theorem Dk.to_below (h : Dk S w d s) (hb : Below w.heap.size w w') : DkTo S w w' d s := ⟨S, h.below hb, Tch.of_below hb, fun _ e => .inl e⟩

theorem DkTo.trans {S' : Nat → Prop} {w2 : World} {s1 s2 : DS} (hd : Dk S' w' d s1) (ht : Tch S w w') (hs : ∀ k, S' k → S k ∨ w.heap.size ≤ k) (h2 : DkTo S' w' w2 d s2) : DkTo S w w2 d s2 := by
  obtain ⟨S2, h3, h4, h5⟩ := h2
  refine ⟨S2, h3, ht.trans h4 (fun i hi e => ?_), fun k hk => ?_⟩
  · rcases hs i e with e | e
    · exact e
    · omega
  · rcases h5 k hk with e | e
    · exact hs k e
    · exact .inr (by have := ht.size; omega)

/-- Only the box has turned: its cut. -/
theorem DkAt.cut (h : DkAt S w d s lb vb lc g) (c : Bool) (l : Nat) (hl : l ≤ 1073741824) (ht : Tch (fun k => k = d) w w')
    (hb : w'.heap[d]? = some (.cells #[.slice (some ⟨lb, 0, none⟩) s.L.length lc, .map (some vb), .bool c, .int .i64 (l : Int)] 65 (0, 0))) : DkAt S w' d { s with c := c, l := l } lb vb lc g where
  n1 := h.n1
  n2 := h.n2
  l30 := hl
  box := hb
  lies := h.lies.tch ht (fun j e => by cases e; exact fun e => h.ne_lb e.symm)
  map := h.map.tch ht (fun e => h.ne_vb e.symm)
  no := h.no
  yes := fun i v hv => ⟨(h.yes i v hv).1, (h.yes i v hv).2.1, (h.yes i v hv).2.2.1.tch ht (fun j e => by
    obtain ⟨b, cap, rfl, h1, _⟩ := h.own hv
    cases e
    exact h1), (h.yes i v hv).2.2.2⟩
  apart := h.apart
  sd := h.sd
  sl := h.sl
  sv := h.sv
  sg := h.sg
  slt := fun k hk => Nat.lt_of_lt_of_le (h.slt k hk) ht.size

theorem DkAt.set2 (h : DkAt S w d s lb vb lc g) (c : Bool) : DkAt S (w.setCell ⟨d, 2, none⟩ (.bool c)) d { s with c := c } lb vb lc g := by
  refine h.cut c s.l h.l30 (tch_set w d 2 _) ?_
  rw [heap_setCell_same w d 2 _ _ _ h.box]
  rfl
theorem DkAt.set3 (h : DkAt S w d s lb vb lc g) (l : Nat) (hl : l ≤ 1073741824) : DkAt S (w.setCell ⟨d, 3, none⟩ (.int .i64 (l : Int))) d { s with l := l } lb vb lc g := by
  refine h.cut s.c l hl (tch_set w d 3 _) ?_
  rw [heap_setCell_same w d 3 _ _ _ h.box]
  rfl
end

/-- A pointer to a disk. -/
abbrev dp (d : Nat) : Value := .pointer (some ⟨d, 0, none⟩)

theorem isThere_any {S : Nat → Prop} {d : Nat} {s : DS} {lb vb lc : Nat} {g : Nat → Option Value} (at_ : Int) (w : World) (h : DkAt S w d s lb vb lc g) :
    Calls Try.prog 40 #[dp d, .int .i64 at_] w fun e w' => e = .returned (.bool (decide (0 ≤ at_) && decide (at_ < (s.L.length : Int)))) ∧ w' = w := by
  have c0 := h.c0
  obtain ⟨n, hn⟩ : ∃ n, Hid (s.L.length = n) := ⟨_, rfl⟩
  rw [hn.out] at c0 ⊢
  clear h
  by_cases h0 : 0 ≤ at_
  · by_cases h1 : at_ < (n : Int)
    · go_enter Try.func40, Try.ntmps40
      go_wp2_with fail
      go_ret
      exact ⟨by simp [h0, h1], rfl⟩
    · go_enter Try.func40, Try.ntmps40
      go_wp2_with fail
      go_ret
      exact ⟨by simp [h0, h1], rfl⟩
  · go_enter Try.func40, Try.ntmps40
    go_wp2_with fail
    go_ret
    exact ⟨by rw [decide_eq_false (show ¬ 0 ≤ at_ by omega)]; rfl, rfl⟩

theorem size_any {S : Nat → Prop} {d : Nat} {s : DS} (w : World) (h : Dk S w d s) :
    Calls Try.prog 49 #[dp d] w fun e w' => e = .returned (.int .i64 (s.L.length : Int)) ∧ w' = w := by
  obtain ⟨lb, vb, lc, g, h⟩ := h
  have c0 := h.c0
  obtain ⟨n, hn⟩ : ∃ n, Hid (s.L.length = n) := ⟨_, rfl⟩
  rw [hn.out] at c0 ⊢
  clear h
  go_enter Try.func49, Try.ntmps49
  go_wp2_with fail
  go_ret
  exact ⟨rfl, rfl⟩

theorem isDone_any {S : Nat → Prop} {d : Nat} {s : DS} {lb vb lc : Nat} {g : Nat → Option Value} (w : World) (h : DkAt S w d s lb vb lc g) :
    Calls Try.prog 37 #[dp d] w fun e w' => e = .returned (.bool s.can) ∧ DkAt S w' d (if s.can then s.tick else s) lb vb lc g ∧ Tch (fun k => k = d) w w' := by
  have c2 := h.c2
  have c3 := h.c3
  have f3 := h.fz 3
  have hl := h.l30
  have H : Hid (DkAt S w d s lb vb lc g) := h
  clear h
  obtain ⟨L, V, c, l⟩ := s
  simp only [DS.can, DS.tick] at *
  cases c with
  | false =>
    go_enter Try.func37, Try.ntmps37
    go_wp2_with fail
    go_ret
    exact ⟨rfl, H.out, Tch.refl _ _⟩
  | true =>
    by_cases h0 : l = 0
    · subst h0
      go_enter Try.func37, Try.ntmps37
      go_wp2_with fail
      go_ret
      exact ⟨rfl, H.out, Tch.refl _ _⟩
    · obtain ⟨m, rfl⟩ : ∃ m, l = m + 1 := ⟨l - 1, by omega⟩
      have h1 : (((m + 1 : Nat) : Int) == 0) = false := by rw [beq_eq_false_iff_ne]; omega
      have H2 : Hid (DkAt S (w.setCell ⟨d, 3, none⟩ (.int .i64 (m : Int))) d { L := L, V := V, c := true, l := m } lb vb lc g) := H.out.set3 m (by simp at hl; omega)
      have T2 : Hid (Tch (fun k => k = d) w (w.setCell ⟨d, 3, none⟩ (.int .i64 (m : Int)))) := tch_set w d 3 _
      have hm : ((m + 1 : Nat) : Int) - 1 = (m : Int) := by omega
      have hm2 : (m : Int) ≤ 1073741824 := by simp at hl; omega
      go_enter Try.func37, Try.ntmps37
      go_wp2_with fail
      go_ret
      exact ⟨rfl, H2.out, T2.out⟩
end Go.Proofs.Ytaacidgihhcpkaa
