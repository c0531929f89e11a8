/-
  A node of the document's that grows, key by key.
-/
import Derived.Test.YtbpaeecclikeiaaNRs
namespace Go.Proofs.Ytbpaeecclikeiaa
open Go.RowKit Pl
set_option linter.unusedVariables false
set_option linter.unusedSimpArgs false
set_option maxRecDepth 100000

/-- The node at block nb, its rows no older than B. -/
structure Rq (B n0 : Nat) (w : World) (nb : Nat) (v1 v2 v3 : Value) (n : Nd) : Prop where
  nv : Nb w 25 nb n.lf v1 v2 v3
  k : OwV B 9 w v1 (strs n.ks)
  v : OwV B 9 w v2 (strs n.vs)
  d : OwV B 3 w v3 (nums n.kd)
  ap : ∀ j, v1.ownBlock = some j → v2.ownBlock ≠ some j
  nB : nb < B
  n0 : n0 ≤ nb
  wB : B ≤ w.heap.size
theorem Rq.nn {B n0 : Nat} {w : World} {nb : Nat} {v1 v2 v3 : Value} {n : Nd} (h : Rq B n0 w nb v1 v2 v3 n) : Nn w n v1 v2 v3 := ⟨h.k.rd, h.v.rd, h.d.rd⟩

theorem grow_key {B n0 : Nat} {w cw' w6 : World} {nb : Nat} {v1 v2 v3 v6 : Value} {n : Nd} {y : ByteArray} (h : Rq B n0 w nb v1 v2 v3 n) (hb : Below w.heap.size w cw')
    (g : Gb B cw' w6 v1) (o6 : OwV B 9 w6 v6 (strs n.ks ++ [.string y])) (hf : Fsh cw' v1 v6) :
    (w6.cell? ⟨nb, 1, none⟩ = some v1 ∧ w6.frozen? ⟨nb, 1, none⟩ = false) ∧ Rq B n0 (w6.setCell ⟨nb, 1, none⟩ v6) nb v6 v2 v3 { n with ks := n.ks ++ [y] } ∧ Below n0 w (w6.setCell ⟨nb, 1, none⟩ v6) ∧ Below n0 w w6 := by
  have n2 : Nb cw' 25 nb n.lf v1 v2 v3 := h.nv.below hb
  have hB2 : B ≤ cw'.heap.size := Nat.le_trans h.wB hb.size
  have oi : OwV B 9 cw' v1 (strs n.ks) := h.k.below hb
  have n6 : Nb w6 25 nb n.lf v1 v2 v3 := n2.tch g.tch (fun e => by have := oi.ge _ e; have := h.nB; omega)
  have t7 := tch_at w6 nb 1 v6
  have P1b : OwV B 9 w6 v2 _ := (h.v.below hb).tch g.tch (fun x hx e => h.ap x e hx)
  have P1 : OwV B 9 (w6.setCell ⟨nb, 1, none⟩ v6) v2 _ := P1b.tch t7 (fun x hx e => by have := h.v.ge x hx; have := h.nB; omega)
  have P2b : OwV B 3 w6 v3 _ := (h.d.below hb).tch g.tch (fun x hx e => (h.d.apart h.k (by decide) hx) e)
  have P2 : OwV B 3 (w6.setCell ⟨nb, 1, none⟩ v6) v3 _ := P2b.tch t7 (fun x hx e => by have := h.d.ge x hx; have := h.nB; omega)
  have O7 : OwV B 9 (w6.setCell ⟨nb, 1, none⟩ v6) v6 (strs (n.ks ++ [y])) := by
    unfold strs
    rw [List.map_append]
    exact o6.tch t7 (fun x hx e => by have := o6.ge x hx; have := h.nB; omega)
  have b6 : Below B cw' w6 := g.belowV oi hB2
  have z2 : Below n0 w w6 := (hb.mono (by have := h.n0; have := h.nB; have := h.wB; omega)).trans (b6.mono (by have := h.n0; have := h.nB; omega))
  have z7 : Below n0 w (w6.setCell ⟨nb, 1, none⟩ v6) := z2.trans (t7.below (by have := h.n0; have := h.nB; have := b6.size; omega) (fun k e => by rw [e]; exact h.n0))
  have hsz : B ≤ (w6.setCell ⟨nb, 1, none⟩ v6).heap.size := Nat.le_trans hB2 (Nat.le_trans b6.size t7.size)
  exact ⟨⟨n6.c1, n6.fz 1⟩, ⟨n6.s1 v6, O7, P1, P2, fun x hx => by
    rcases hf x hx with e | e
    · exact h.ap x e
    · exact fun e2 => by have h3 := h.v.lt x e2; have h5 := hb.size; omega, h.nB, h.n0, hsz⟩, z7, z2⟩

theorem grow_val {B n0 : Nat} {w cw' w6 : World} {nb : Nat} {v1 v2 v3 v6 : Value} {n : Nd} {y : ByteArray} (h : Rq B n0 w nb v1 v2 v3 n) (hb : Below w.heap.size w cw')
    (g : Gb B cw' w6 v2) (o6 : OwV B 9 w6 v6 (strs n.vs ++ [.string y])) (hf : Fsh cw' v2 v6) :
    (w6.cell? ⟨nb, 2, none⟩ = some v2 ∧ w6.frozen? ⟨nb, 2, none⟩ = false) ∧ Rq B n0 (w6.setCell ⟨nb, 2, none⟩ v6) nb v1 v6 v3 { n with vs := n.vs ++ [y] } ∧ Below n0 w (w6.setCell ⟨nb, 2, none⟩ v6) ∧ Below n0 w w6 := by
  have n2 : Nb cw' 25 nb n.lf v1 v2 v3 := h.nv.below hb
  have hB2 : B ≤ cw'.heap.size := Nat.le_trans h.wB hb.size
  have oi : OwV B 9 cw' v2 (strs n.vs) := h.v.below hb
  have n6 : Nb w6 25 nb n.lf v1 v2 v3 := n2.tch g.tch (fun e => by have := oi.ge _ e; have := h.nB; omega)
  have t7 := tch_at w6 nb 2 v6
  have P0b : OwV B 9 w6 v1 _ := (h.k.below hb).tch g.tch (fun x hx e => h.ap x hx e)
  have P0 : OwV B 9 (w6.setCell ⟨nb, 2, none⟩ v6) v1 _ := P0b.tch t7 (fun x hx e => by have := h.k.ge x hx; have := h.nB; omega)
  have P2b : OwV B 3 w6 v3 _ := (h.d.below hb).tch g.tch (fun x hx e => (h.d.apart h.v (by decide) hx) e)
  have P2 : OwV B 3 (w6.setCell ⟨nb, 2, none⟩ v6) v3 _ := P2b.tch t7 (fun x hx e => by have := h.d.ge x hx; have := h.nB; omega)
  have O7 : OwV B 9 (w6.setCell ⟨nb, 2, none⟩ v6) v6 (strs (n.vs ++ [y])) := by
    unfold strs
    rw [List.map_append]
    exact o6.tch t7 (fun x hx e => by have := o6.ge x hx; have := h.nB; omega)
  have b6 : Below B cw' w6 := g.belowV oi hB2
  have z2 : Below n0 w w6 := (hb.mono (by have := h.n0; have := h.nB; have := h.wB; omega)).trans (b6.mono (by have := h.n0; have := h.nB; omega))
  have z7 : Below n0 w (w6.setCell ⟨nb, 2, none⟩ v6) := z2.trans (t7.below (by have := h.n0; have := h.nB; have := b6.size; omega) (fun k e => by rw [e]; exact h.n0))
  have hsz : B ≤ (w6.setCell ⟨nb, 2, none⟩ v6).heap.size := Nat.le_trans hB2 (Nat.le_trans b6.size t7.size)
  exact ⟨⟨n6.c2, n6.fz 2⟩, ⟨n6.s2 v6, P0, O7, P2, fun x hx e2 => by
    rcases hf x e2 with e | e
    · exact h.ap x hx e
    · have h3 := h.k.lt x hx; have h5 := hb.size; omega, h.nB, h.n0, hsz⟩, z7, z2⟩

theorem grow_kid {B n0 : Nat} {w cw' w6 : World} {nb : Nat} {v1 v2 v3 v6 : Value} {n : Nd} {y : Int} (h : Rq B n0 w nb v1 v2 v3 n) (hb : Below w.heap.size w cw')
    (g : Gb B cw' w6 v3) (o6 : OwV B 3 w6 v6 (nums n.kd ++ [.int .i64 y])) (hf : Fsh cw' v3 v6) :
    (w6.cell? ⟨nb, 3, none⟩ = some v3 ∧ w6.frozen? ⟨nb, 3, none⟩ = false) ∧ Rq B n0 (w6.setCell ⟨nb, 3, none⟩ v6) nb v1 v2 v6 { n with kd := n.kd ++ [y] } ∧ Below n0 w (w6.setCell ⟨nb, 3, none⟩ v6) ∧ Below n0 w w6 := by
  have n2 : Nb cw' 25 nb n.lf v1 v2 v3 := h.nv.below hb
  have hB2 : B ≤ cw'.heap.size := Nat.le_trans h.wB hb.size
  have oi : OwV B 3 cw' v3 (nums n.kd) := h.d.below hb
  have n6 : Nb w6 25 nb n.lf v1 v2 v3 := n2.tch g.tch (fun e => by have := oi.ge _ e; have := h.nB; omega)
  have t7 := tch_at w6 nb 3 v6
  have P0b : OwV B 9 w6 v1 _ := (h.k.below hb).tch g.tch (fun x hx e => (h.k.apart h.d (by decide) hx) e)
  have P0 : OwV B 9 (w6.setCell ⟨nb, 3, none⟩ v6) v1 _ := P0b.tch t7 (fun x hx e => by have := h.k.ge x hx; have := h.nB; omega)
  have P1b : OwV B 9 w6 v2 _ := (h.v.below hb).tch g.tch (fun x hx e => (h.v.apart h.d (by decide) hx) e)
  have P1 : OwV B 9 (w6.setCell ⟨nb, 3, none⟩ v6) v2 _ := P1b.tch t7 (fun x hx e => by have := h.v.ge x hx; have := h.nB; omega)
  have O7 : OwV B 3 (w6.setCell ⟨nb, 3, none⟩ v6) v6 (nums (n.kd ++ [y])) := by
    unfold nums
    rw [List.map_append]
    exact o6.tch t7 (fun x hx e => by have := o6.ge x hx; have := h.nB; omega)
  have b6 : Below B cw' w6 := g.belowV oi hB2
  have z2 : Below n0 w w6 := (hb.mono (by have := h.n0; have := h.nB; have := h.wB; omega)).trans (b6.mono (by have := h.n0; have := h.nB; omega))
  have z7 : Below n0 w (w6.setCell ⟨nb, 3, none⟩ v6) := z2.trans (t7.below (by have := h.n0; have := h.nB; have := b6.size; omega) (fun k e => by rw [e]; exact h.n0))
  have hsz : B ≤ (w6.setCell ⟨nb, 3, none⟩ v6).heap.size := Nat.le_trans hB2 (Nat.le_trans b6.size t7.size)
  exact ⟨⟨n6.c3, n6.fz 3⟩, ⟨n6.s3 v6, P0, P1, O7, h.ap, h.nB, h.n0, hsz⟩, z7, z2⟩
end Go.Proofs.Ytbpaeecclikeiaa
