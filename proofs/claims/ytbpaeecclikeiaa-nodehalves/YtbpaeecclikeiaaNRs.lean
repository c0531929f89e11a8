/-
  The program's read: what it has in memory; and the same plainly.
-/
import Derived.Test.YtbpaeecclikeiaaNSrc
import Derived.Test.YtbpaeecclikeiaaNReg
namespace Go.Proofs.Ytbpaeecclikeiaa
open Go.RowKit Pl
set_option linter.unusedVariables false
set_option linter.unusedSimpArgs false
set_option maxRecDepth 100000

/-- A node that is read, and what is left. -/
structure Pz where
  n : Nd
  t : List Int × Bool
def pzStep (p : Pz) : Pz :=
  if p.n.lf = true then ⟨{ p.n with ks := p.n.ks ++ [(txtZ p.t).1], vs := p.n.vs ++ [(txtZ (txtZ p.t).2).1] }, (txtZ (txtZ p.t).2).2⟩
  else ⟨{ p.n with ks := p.n.ks ++ [(txtZ p.t).1], kd := p.n.kd ++ [(numZ (txtZ p.t).2).1 + (numZ (numZ (txtZ p.t).2).2).1 * 256] }, (numZ (numZ (txtZ p.t).2).2).2⟩
def pzN (lf : Bool) (t : List Int × Bool) : Nat → Pz
  | 0 => ⟨⟨lf, [], [], []⟩, t⟩
  | k + 1 => pzStep (pzN lf t k)
theorem pzN_lf (lf : Bool) (t : List Int × Bool) (k : Nat) : (pzN lf t k).n.lf = lf := by
  induction k with
  | zero => rfl
  | succ k ih => simp only [pzN, pzStep]; split <;> exact ih
theorem pzN_len (lf : Bool) (t : List Int × Bool) (k : Nat) : (pzN lf t k).n.ks.length = k ∧ (pzN lf t k).n.vs.length ≤ k ∧ (pzN lf t k).n.kd.length ≤ k := by
  induction k with
  | zero => exact ⟨rfl, Nat.le_refl _, Nat.le_refl _⟩
  | succ k ih =>
    simp only [pzN, pzStep]
    split
    · simp only [List.length_append, List.length_cons, List.length_nil]; omega
    · simp only [List.length_append, List.length_cons, List.length_nil]; omega

theorem OwV.lt {B : Nat} {e : TypeId} {w : World} {v : Value} {cs : List Value} (h : OwV B e w v cs) : ∀ j, v.ownBlock = some j → j < w.heap.size := h.owns.lt

/-- The source at block g, the node at block nb, its rows no older than B. -/
structure Rs (B n0 : Nat) (w : World) (g nb : Nat) (v1 v2 v3 : Value) (p : Pz) : Prop where
  src : SzX n0 w g p.t
  nv : Nb w 26 nb p.n.lf v1 v2 v3
  k : OwV B 9 w v1 (strs p.n.ks)
  v : OwV B 9 w v2 (strs p.n.vs)
  d : OwV B 3 w v3 (nums p.n.kd)
  ap : ∀ j, v1.ownBlock = some j → v2.ownBlock ≠ some j
  gn : g ≠ nb
  gB : g < B
  nB : nb < B
  n0 : n0 ≤ nb
  wB : B ≤ w.heap.size

theorem after_key {B n0 : Nat} {w w1 cw' w6 : World} {g nb : Nat} {v1 v2 v3 v6 : Value} {p : Pz} {t' : List Int × Bool} {y : ByteArray} (h : Rs B n0 w g nb v1 v2 v3 p) (ht : Tch (fun k => k = g) w w1) (hx : SzX n0 w1 g t') (hb : Below w1.heap.size w1 cw')
    (g6 : Gb B cw' w6 v1) (o6 : OwV B 9 w6 v6 (strs p.n.ks ++ [.string y])) (hf : Fsh cw' v1 v6) :
    (w6.cell? ⟨nb, 1, none⟩ = some v1 ∧ w6.frozen? ⟨nb, 1, none⟩ = false) ∧ Rs B n0 (w6.setCell ⟨nb, 1, none⟩ v6) g nb v6 v2 v3 ⟨{ p.n with ks := p.n.ks ++ [y] }, t'⟩ ∧ Below n0 w (w6.setCell ⟨nb, 1, none⟩ v6) := by
  have g := g6
  have n1 : Nb w1 26 nb p.n.lf v1 v2 v3 := h.nv.tch ht (fun e => h.gn e.symm)
  have n2 : Nb cw' 26 nb p.n.lf v1 v2 v3 := n1.below hb
  have hB1 : B ≤ w1.heap.size := Nat.le_trans h.wB ht.size
  have hB2 : B ≤ cw'.heap.size := Nat.le_trans hB1 hb.size
  have oi : OwV B 9 cw' v1 (strs p.n.ks) := (h.k.tch ht (fun x hx e => by have := h.k.ge x hx; have := h.gB; omega)).below hb
  have n6 : Nb w6 26 nb p.n.lf v1 v2 v3 := n2.tch g.tch (fun e => by have := oi.ge _ e; have := h.nB; omega)
  have t7 := tch_at w6 nb 1 v6
  have P1a : OwV B 9 cw' v2 _ := (h.v.tch ht (fun x hx e => by have := h.v.ge x hx; have := h.gB; omega)).below hb
  have P1b : OwV B 9 w6 v2 _ := P1a.tch g.tch (fun x hx e => h.ap x e hx)
  have P1 : OwV B 9 (w6.setCell ⟨nb, 1, none⟩ v6) v2 _ := P1b.tch t7 (fun x hx e => by have := h.v.ge x hx; have := h.nB; omega)
  have P2a : OwV B 3 cw' v3 _ := (h.d.tch ht (fun x hx e => by have := h.d.ge x hx; have := h.gB; omega)).below hb
  have P2b : OwV B 3 w6 v3 _ := P2a.tch g.tch (fun x hx e => (h.d.apart h.k (by decide) hx) e)
  have P2 : OwV B 3 (w6.setCell ⟨nb, 1, none⟩ v6) v3 _ := P2b.tch t7 (fun x hx e => by have := h.d.ge x hx; have := h.nB; omega)
  have O7 : OwV B 9 (w6.setCell ⟨nb, 1, none⟩ v6) v6 (strs p.n.ks ++ [.string y]) := o6.tch t7 (fun x hx e => by have := o6.ge x hx; have := h.nB; omega)
  have x2 : SzX n0 cw' _ t' := hx.below hb
  have b6 : Below B cw' w6 := g.belowV oi hB2
  have x6 : SzX n0 w6 _ t' := x2.tch g.tch (fun e => by have := oi.ge _ e; have := h.gB; omega) (fun k e => by have := oi.ge _ e; have := h.nB; have := h.n0; omega) (by have := h.n0; have := h.nB; omega)
  have x7 : SzX n0 (w6.setCell ⟨nb, 1, none⟩ v6) _ t' := x6.tch t7 (fun e => h.gn e) (fun k e => by rw [e]; exact h.n0) (by have := h.n0; have := h.nB; have := b6.size; omega)
  have z1 : Below n0 w w1 := ht.below (by have := h.n0; have := h.nB; have := h.wB; omega) (fun k e => by rw [e]; exact h.src.new)
  have z2 : Below n0 w w6 := (z1.trans (hb.mono (by have := h.n0; have := h.nB; omega))).trans (b6.mono (by have := h.n0; have := h.nB; omega))
  have z7 : Below n0 w (w6.setCell ⟨nb, 1, none⟩ v6) := z2.trans (t7.below (by have := h.n0; have := h.nB; have := b6.size; omega) (fun k e => by rw [e]; exact h.n0))
  have hsz : B ≤ (w6.setCell ⟨nb, 1, none⟩ v6).heap.size := Nat.le_trans hB2 (Nat.le_trans b6.size t7.size)
  have O7' : OwV B 9 (w6.setCell ⟨nb, 1, none⟩ v6) v6 (strs (p.n.ks ++ [y])) := by unfold strs; rw [List.map_append]; exact O7
  refine ⟨⟨n6.c1, n6.fz 1⟩, ⟨x7, n6.s1 v6, O7', P1, P2, fun x hx => by
    rcases hf x hx with e | e
    · exact h.ap x e
    · exact fun e2 => by have h3 := h.v.lt x e2; have h4 := ht.size; have h5 := hb.size; omega, h.gn, h.gB, h.nB, h.n0, hsz⟩, z7⟩

theorem after_val {B n0 : Nat} {w w1 cw' w6 : World} {g nb : Nat} {v1 v2 v3 v6 : Value} {p : Pz} {t' : List Int × Bool} {y : ByteArray} (h : Rs B n0 w g nb v1 v2 v3 p) (ht : Tch (fun k => k = g) w w1) (hx : SzX n0 w1 g t') (hb : Below w1.heap.size w1 cw')
    (g6 : Gb B cw' w6 v2) (o6 : OwV B 9 w6 v6 (strs p.n.vs ++ [.string y])) (hf : Fsh cw' v2 v6) :
    (w6.cell? ⟨nb, 2, none⟩ = some v2 ∧ w6.frozen? ⟨nb, 2, none⟩ = false) ∧ Rs B n0 (w6.setCell ⟨nb, 2, none⟩ v6) g nb v1 v6 v3 ⟨{ p.n with vs := p.n.vs ++ [y] }, t'⟩ ∧ Below n0 w (w6.setCell ⟨nb, 2, none⟩ v6) := by
  have g := g6
  have n1 : Nb w1 26 nb p.n.lf v1 v2 v3 := h.nv.tch ht (fun e => h.gn e.symm)
  have n2 : Nb cw' 26 nb p.n.lf v1 v2 v3 := n1.below hb
  have hB1 : B ≤ w1.heap.size := Nat.le_trans h.wB ht.size
  have hB2 : B ≤ cw'.heap.size := Nat.le_trans hB1 hb.size
  have oi : OwV B 9 cw' v2 (strs p.n.vs) := (h.v.tch ht (fun x hx e => by have := h.v.ge x hx; have := h.gB; omega)).below hb
  have n6 : Nb w6 26 nb p.n.lf v1 v2 v3 := n2.tch g.tch (fun e => by have := oi.ge _ e; have := h.nB; omega)
  have t7 := tch_at w6 nb 2 v6
  have P0a : OwV B 9 cw' v1 _ := (h.k.tch ht (fun x hx e => by have := h.k.ge x hx; have := h.gB; omega)).below hb
  have P0b : OwV B 9 w6 v1 _ := P0a.tch g.tch (fun x hx e => h.ap x hx e)
  have P0 : OwV B 9 (w6.setCell ⟨nb, 2, none⟩ v6) v1 _ := P0b.tch t7 (fun x hx e => by have := h.k.ge x hx; have := h.nB; omega)
  have P2a : OwV B 3 cw' v3 _ := (h.d.tch ht (fun x hx e => by have := h.d.ge x hx; have := h.gB; omega)).below hb
  have P2b : OwV B 3 w6 v3 _ := P2a.tch g.tch (fun x hx e => (h.d.apart h.v (by decide) hx) e)
  have P2 : OwV B 3 (w6.setCell ⟨nb, 2, none⟩ v6) v3 _ := P2b.tch t7 (fun x hx e => by have := h.d.ge x hx; have := h.nB; omega)
  have O7 : OwV B 9 (w6.setCell ⟨nb, 2, none⟩ v6) v6 (strs p.n.vs ++ [.string y]) := o6.tch t7 (fun x hx e => by have := o6.ge x hx; have := h.nB; omega)
  have x2 : SzX n0 cw' _ t' := hx.below hb
  have b6 : Below B cw' w6 := g.belowV oi hB2
  have x6 : SzX n0 w6 _ t' := x2.tch g.tch (fun e => by have := oi.ge _ e; have := h.gB; omega) (fun k e => by have := oi.ge _ e; have := h.nB; have := h.n0; omega) (by have := h.n0; have := h.nB; omega)
  have x7 : SzX n0 (w6.setCell ⟨nb, 2, none⟩ v6) _ t' := x6.tch t7 (fun e => h.gn e) (fun k e => by rw [e]; exact h.n0) (by have := h.n0; have := h.nB; have := b6.size; omega)
  have z1 : Below n0 w w1 := ht.below (by have := h.n0; have := h.nB; have := h.wB; omega) (fun k e => by rw [e]; exact h.src.new)
  have z2 : Below n0 w w6 := (z1.trans (hb.mono (by have := h.n0; have := h.nB; omega))).trans (b6.mono (by have := h.n0; have := h.nB; omega))
  have z7 : Below n0 w (w6.setCell ⟨nb, 2, none⟩ v6) := z2.trans (t7.below (by have := h.n0; have := h.nB; have := b6.size; omega) (fun k e => by rw [e]; exact h.n0))
  have hsz : B ≤ (w6.setCell ⟨nb, 2, none⟩ v6).heap.size := Nat.le_trans hB2 (Nat.le_trans b6.size t7.size)
  have O7' : OwV B 9 (w6.setCell ⟨nb, 2, none⟩ v6) v6 (strs (p.n.vs ++ [y])) := by unfold strs; rw [List.map_append]; exact O7
  refine ⟨⟨n6.c2, n6.fz 2⟩, ⟨x7, n6.s2 v6, P0, O7', P2, fun x hx e2 => by
    rcases hf x e2 with e | e
    · exact h.ap x hx e
    · have h3 := h.k.lt x hx; have h4 := ht.size; have h5 := hb.size; omega, h.gn, h.gB, h.nB, h.n0, hsz⟩, z7⟩

theorem after_kid {B n0 : Nat} {w w1 cw' w6 : World} {g nb : Nat} {v1 v2 v3 v6 : Value} {p : Pz} {t' : List Int × Bool} {y : Int} (h : Rs B n0 w g nb v1 v2 v3 p) (ht : Tch (fun k => k = g) w w1) (hx : SzX n0 w1 g t') (hb : Below w1.heap.size w1 cw')
    (g6 : Gb B cw' w6 v3) (o6 : OwV B 3 w6 v6 (nums p.n.kd ++ [.int .i64 y])) (hf : Fsh cw' v3 v6) :
    (w6.cell? ⟨nb, 3, none⟩ = some v3 ∧ w6.frozen? ⟨nb, 3, none⟩ = false) ∧ Rs B n0 (w6.setCell ⟨nb, 3, none⟩ v6) g nb v1 v2 v6 ⟨{ p.n with kd := p.n.kd ++ [y] }, t'⟩ ∧ Below n0 w (w6.setCell ⟨nb, 3, none⟩ v6) := by
  have g := g6
  have n1 : Nb w1 26 nb p.n.lf v1 v2 v3 := h.nv.tch ht (fun e => h.gn e.symm)
  have n2 : Nb cw' 26 nb p.n.lf v1 v2 v3 := n1.below hb
  have hB1 : B ≤ w1.heap.size := Nat.le_trans h.wB ht.size
  have hB2 : B ≤ cw'.heap.size := Nat.le_trans hB1 hb.size
  have oi : OwV B 3 cw' v3 (nums p.n.kd) := (h.d.tch ht (fun x hx e => by have := h.d.ge x hx; have := h.gB; omega)).below hb
  have n6 : Nb w6 26 nb p.n.lf v1 v2 v3 := n2.tch g.tch (fun e => by have := oi.ge _ e; have := h.nB; omega)
  have t7 := tch_at w6 nb 3 v6
  have P0a : OwV B 9 cw' v1 _ := (h.k.tch ht (fun x hx e => by have := h.k.ge x hx; have := h.gB; omega)).below hb
  have P0b : OwV B 9 w6 v1 _ := P0a.tch g.tch (fun x hx e => (h.k.apart h.d (by decide) hx) e)
  have P0 : OwV B 9 (w6.setCell ⟨nb, 3, none⟩ v6) v1 _ := P0b.tch t7 (fun x hx e => by have := h.k.ge x hx; have := h.nB; omega)
  have P1a : OwV B 9 cw' v2 _ := (h.v.tch ht (fun x hx e => by have := h.v.ge x hx; have := h.gB; omega)).below hb
  have P1b : OwV B 9 w6 v2 _ := P1a.tch g.tch (fun x hx e => (h.v.apart h.d (by decide) hx) e)
  have P1 : OwV B 9 (w6.setCell ⟨nb, 3, none⟩ v6) v2 _ := P1b.tch t7 (fun x hx e => by have := h.v.ge x hx; have := h.nB; omega)
  have O7 : OwV B 3 (w6.setCell ⟨nb, 3, none⟩ v6) v6 (nums p.n.kd ++ [.int .i64 y]) := o6.tch t7 (fun x hx e => by have := o6.ge x hx; have := h.nB; omega)
  have x2 : SzX n0 cw' _ t' := hx.below hb
  have b6 : Below B cw' w6 := g.belowV oi hB2
  have x6 : SzX n0 w6 _ t' := x2.tch g.tch (fun e => by have := oi.ge _ e; have := h.gB; omega) (fun k e => by have := oi.ge _ e; have := h.nB; have := h.n0; omega) (by have := h.n0; have := h.nB; omega)
  have x7 : SzX n0 (w6.setCell ⟨nb, 3, none⟩ v6) _ t' := x6.tch t7 (fun e => h.gn e) (fun k e => by rw [e]; exact h.n0) (by have := h.n0; have := h.nB; have := b6.size; omega)
  have z1 : Below n0 w w1 := ht.below (by have := h.n0; have := h.nB; have := h.wB; omega) (fun k e => by rw [e]; exact h.src.new)
  have z2 : Below n0 w w6 := (z1.trans (hb.mono (by have := h.n0; have := h.nB; omega))).trans (b6.mono (by have := h.n0; have := h.nB; omega))
  have z7 : Below n0 w (w6.setCell ⟨nb, 3, none⟩ v6) := z2.trans (t7.below (by have := h.n0; have := h.nB; have := b6.size; omega) (fun k e => by rw [e]; exact h.n0))
  have hsz : B ≤ (w6.setCell ⟨nb, 3, none⟩ v6).heap.size := Nat.le_trans hB2 (Nat.le_trans b6.size t7.size)
  have O7' : OwV B 3 (w6.setCell ⟨nb, 3, none⟩ v6) v6 (nums (p.n.kd ++ [y])) := by unfold nums; rw [List.map_append]; exact O7
  refine ⟨⟨n6.c3, n6.fz 3⟩, ⟨x7, n6.s3 v6, P0, P1, O7', h.ap, h.gn, h.gB, h.nB, h.n0, hsz⟩, z7⟩
end Go.Proofs.Ytbpaeecclikeiaa
