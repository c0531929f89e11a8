import Derived.Test.YtobenjkacpipeaaGreatPMem
import Derived.Test.YtobenjkacpipeaaGreatPPlain
import Derived.Test.YtobenjkacpipeaaGreatProg
import Derived.WalkKit
import Derived.WalkSpells
import Derived.BigRegion
import Derived.BigQuiet
import Derived.Deep.QuietTactic
set_option maxRecDepth 100000
set_option linter.unusedVariables false
set_option linter.unusedSimpArgs false
set_option maxHeartbeats 8000000
namespace Go.Proofs.YtobenjkacpipeaaGreat
open Go.RowKit Pl
theorem elem64 : Elem Tryz.prog 56 3 .i64 8 := ⟨Tryz.underlying56, info_parts (z := .int .i64 0) (size := 1) (bytes := 8) (by kernel_rfl)⟩
theorem zmn9 (v : Int) (k : Nat) : bitsOf v (k + 1) = bitsOf v k ++ [v / 2 ^ k % 2] := rfl
theorem take_snoc' (ys : List Int) (k : Nat) (h : k < ys.length) : ys.take (k + 1) = ys.take k ++ [ys.getD k 0] := by
 rw [List.take_succ_eq_append_getElem h]
 simp [List.getD_eq_getElem?_getD, h]
theorem info8 : (Tryz.prog.info? 5).map (fun i => (i.zero, i.size, i.bytes)) = some (some (.int .u8 0), 1, 1) := by kernel_rfl
structure Wr (w : World) (b : Nat) (rv : Value) (bs : List Int) : Prop where
 blk : w.heap[b]? = some (.cells #[rv, .int .i64 bs.length] 154 (0, 0))
 own : w.ownsRow 0 5 1 rv (pack bs).length ((pack bs).map (Value.int .u8))
 bits : Bits bs
theorem Wr.c0 {w : World} {b : Nat} {rv : Value} {bs : List Int} (h : Wr w b rv bs) : w.cell? ⟨b, 0, none⟩ = some rv := by
 rw [cell_of_row w b 0 _ _ (0, 0) h.blk]; rfl
theorem Wr.c1 {w : World} {b : Nat} {rv : Value} {bs : List Int} (h : Wr w b rv bs) : w.cell? ⟨b, 1, none⟩ = some (.int .i64 bs.length) := by
 rw [cell_of_row w b 1 _ _ (0, 0) h.blk]; rfl
theorem Wr.fz {w : World} {b : Nat} {rv : Value} {bs : List Int} (h : Wr w b rv bs) (j : Nat) : w.frozen? ⟨b, j, none⟩ = false := frozen_of_row w b j _ _ h.blk
theorem Wr.lt {w : World} {b : Nat} {rv : Value} {bs : List Int} (h : Wr w b rv bs) : b < w.heap.size := (Array.getElem?_eq_some_iff.1 h.blk).1
theorem Wr.ne {w : World} {b g : Nat} {rv v : Value} {bs : List Int} {n : Nat} {xs : List Value} (h : Wr w b rv bs) (ho : w.ownsRow 0 5 1 v n xs) (hg : v.ownBlock = some g) : g ≠ b := by
 intro e
 subst e
 rcases ho.2 with ⟨rfl, _⟩ | ⟨g', cap, cur, rfl, _, hgg, _⟩
 ·simp [Value.ownBlock] at hg
 ·simp only [Value.ownBlock, Option.some.injEq] at hg
  subst hg
  rw [h.blk] at hgg
  simp at hgg
theorem Wr.tch {S : Nat -> Prop} {w w' : World} {b : Nat} {rv : Value} {bs : List Int} (h : Wr w b rv bs) (ht : Tch S w w') (hb : ¬ S b) (hr : ∀ k, rv.ownBlock = some k -> ¬ S k) : Wr w' b rv bs :=
 ⟨by rw [ht.block b h.lt hb]; exact h.blk, ht.owns h.own hr, h.bits⟩
theorem zuz9 (y c : Int) (r : Nat) (hr : r < 8) (hy : 0 <= y) (hy1 : y < 2 ^ r) (hc : c = 0 ∨ c = 1) : Go.bits BinOp.or IntKind.u8 y (c * 2 ^ r % 256) = y + c * 2 ^ r := by
 obtain ⟨a, rfl⟩ := Int.eq_ofNat_of_zero_le hy
 have ha : a < 2 ^ r := by exact_mod_cast hy1
 have hp : 2 ^ r <= 2 ^ 7 := Nat.pow_le_pow_right (by decide) (by omega)
 have e7 : (2 : Nat) ^ 7 = 128 := by decide
 have e8 : (2 : Nat) ^ 8 = 256 := by decide
 obtain ⟨d, rfl, hd⟩ : ∃ d : Nat, c = (d : Int) /\ d <= 1 := by
  rcases hc with rfl | rfl
  ·exact ⟨0, rfl, by omega⟩
  ·exact ⟨1, rfl, by omega⟩
 have hm : d * 2 ^ r <= 1 * 2 ^ r := Nat.mul_le_mul_right _ hd
 have e : ((d : Int) * 2 ^ r % 256) = ((d * 2 ^ r : Nat) : Int) := by
  have : ((d : Int) * 2 ^ r) = ((d * 2 ^ r : Nat) : Int) := by push_cast; rfl
  rw [this]; omega
 rw [e, (bits_nat .u8 8 (by decide) wraps_u8 a _ (by omega) (by omega)).2, zez9 a d r ha]
 push_cast
 rfl
theorem Wr.mid {w : World} {b g len cap : Nat} {bs : List Int} {c : Int} (h : Wr w b (.slice (some ⟨g, 0, none⟩) len cap) bs) (hm : bs.length % 8 ≠ 0) (hc : c = 0 ∨ c = 1) :
  Wr ((w.setCell ⟨g, bs.length / 8, none⟩ (.int .u8 ((pack bs).getD (bs.length / 8) 0 + c * 2 ^ (bs.length % 8)))).setCell ⟨b, 1, none⟩ (.int .i64 ((bs.length : Int) + 1))).drew b (.slice (some ⟨g, 0, none⟩) len cap) (bs ++ [c]) := by
 have hne : g ≠ b := h.ne h.own rfl
 have hlen : len = (pack bs).length := by
  rcases h.own.2 with ⟨e, _⟩ | ⟨g', cap', cur, e, _⟩
  ·cases e
  ·simp only [Value.slice.injEq] at e; exact e.2.1
 subst hlen
 refine ⟨?_, ?_, h.bits.snoc hc⟩
 ·have h1 : (w.setCell ⟨g, bs.length / 8, none⟩ (.int .u8 ((pack bs).getD (bs.length / 8) 0 + c * 2 ^ (bs.length % 8)))).heap[b]? = some (.cells #[.slice (some ⟨g, 0, none⟩) (pack bs).length cap, .int .i64 bs.length] 154 (0, 0)) := by
   rw [Below.heap_setCell _ _ _ _ (fun e => hne e.symm)]; exact h.blk
  have h2 := heap_setCell_same _ b 1 _ _ (.int .i64 ((bs.length : Int) + 1)) h1
  show ((w.setCell ⟨g, bs.length / 8, none⟩ _).setCell ⟨b, 1, none⟩ _).heap[b]? = _
  rw [h2]
  simp
 ·have h1 := (h.own.stored (bs.length / 8) (.int .u8 ((pack bs).getD (bs.length / 8) 0 + c * 2 ^ (bs.length % 8)))).1
  have h2 : ((w.setCell ⟨g, bs.length / 8, none⟩ (.int .u8 ((pack bs).getD (bs.length / 8) 0 + c * 2 ^ (bs.length % 8)))).setCell ⟨b, 1, none⟩ (.int .i64 ((bs.length : Int) + 1))).ownsRow 0 5 1
    (.slice (some ⟨g, 0, none⟩) (pack bs).length cap) (pack bs).length (((pack bs).map (Value.int .u8)).set (bs.length / 8) (.int .u8 ((pack bs).getD (bs.length / 8) 0 + c * 2 ^ (bs.length % 8)))) :=
   Tch.owns (S := fun k => k = b) ((Tch.refl (fun k => k = b) _).setCell (p := ⟨b, 1, none⟩) (fun _ => rfl) _) h1 (fun k hk => by simp only [Value.ownBlock, Option.some.injEq] at hk; omega)
  rw [zhz9 bs c hm, List.map_set, List.length_set]
  exact h2
theorem zzc9 (b g cap : Nat) (y bit : Int) (n : Nat) (len : Nat) (w : World) (h8 : ((n : Int) % 8 == 0) = false) (hn : n <= 4611686018427387904) (hb : 0 <= bit /\ bit <= 1) (hy : 0 <= y /\ y <= 255) (hlen : n / 8 < len)
  (c0 : w.cell? ⟨b, 0, none⟩ = some (.slice (some ⟨g, 0, none⟩) len cap)) (c1 : w.cell? ⟨b, 1, none⟩ = some (.int .i64 n))
  (f0 : w.frozen? ⟨b, 0, none⟩ = false) (f1 : w.frozen? ⟨b, 1, none⟩ = false) (hne : g ≠ b)
  (cy : w.cell? ⟨g, n / 8, none⟩ = some (.int .u8 y)) (fy : w.frozen? ⟨g, n / 8, none⟩ = false) :
  Calls Tryz.prog 127 #[.pointer (some ⟨b, 0, none⟩), .int .u8 bit] w fun e w' => e = .returned (.tuple #[]) ∧
   w' = ((w.setCell ⟨g, n / 8, none⟩ (.int .u8 (Go.bits BinOp.or IntKind.u8 y (bit * 2 ^ (n % 8) % 256)))).setCell ⟨b, 1, none⟩ (.int .i64 ((n : Int) + 1))).drew := by
 go_enter Tryz.func127, Tryz.ntmps127
 go_wp2
 go_region
 go_wp2
 go_end0
 exact ⟨rfl, rfl⟩
theorem Wr.appended {w w1 : World} {b : Nat} {rv v' : Value} {bs : List Int} {o : Obj} (h : Wr w b rv bs)
  (ho : w1.ownsRow 0 5 1 v' ((pack bs).map (Value.int .u8) ++ [Value.int .u8 0]).length ((pack bs).map (Value.int .u8) ++ [Value.int .u8 0]))
  (hg : (w.alloc o).grownBy w1 rv.ownBlock) (hf : ∀ k, v'.ownBlock = some k -> rv.ownBlock = some k ∨ w.heap.size + 1 <= k) (h8 : bs.length % 8 = 0) :
  ∃ g cap', v' = .slice (some ⟨g, 0, none⟩) (bs.length / 8 + 1) cap' ∧
   w1.cell? ⟨b, 0, none⟩ = some rv /\ w1.cell? ⟨b, 1, none⟩ = some (.int .i64 bs.length) /\ w1.frozen? ⟨b, 0, none⟩ = false /\ w1.frozen? ⟨b, 1, none⟩ = false /\ g ≠ b ∧
   w1.cell? ⟨g, bs.length / 8, none⟩ = some (.int .u8 0) /\ w1.frozen? ⟨g, bs.length / 8, none⟩ = false ∧
   ∀ c, c = 0 ∨ c = 1 -> Hid (Wr (((w1.setCell ⟨b, 0, none⟩ v').setCell ⟨g, bs.length / 8, none⟩ (.int .u8 c)).setCell ⟨b, 1, none⟩ (.int .i64 ((bs.length : Int) + 1))).drew b v' (bs ++ [c]) ∧
    Tch (fun k => k = b ∨ rv.ownBlock = some k) w (((w1.setCell ⟨b, 0, none⟩ v').setCell ⟨g, bs.length / 8, none⟩ (.int .u8 c)).setCell ⟨b, 1, none⟩ (.int .i64 ((bs.length : Int) + 1))).drew ∧
    ∀ k, v'.ownBlock = some k -> rv.ownBlock = some k ∨ w.heap.size <= k) := by
 have hblk : w1.heap[b]? = some (.cells #[rv, .int .i64 bs.length] 154 (0, 0)) := by
  rw [hg.block b (by have := h.lt; simp; omega) (fun e => by
   exact h.ne h.own e.symm rfl), Below.heap_alloc _ _ _ h.lt]
  exact h.blk
 have hlen : ((pack bs).map (Value.int .u8) ++ [Value.int .u8 0]).length = bs.length / 8 + 1 := by simp [zc9]; omega
 have ho' := ho
 rw [hlen] at ho
 obtain ⟨g, cap', rfl⟩ : ∃ g cap', v' = .slice (some ⟨g, 0, none⟩) (bs.length / 8 + 1) cap' := by
  rcases ho.2 with ⟨_, e⟩ | ⟨g, cap', cur, e, _⟩
  ·omega
  ·exact ⟨g, cap', e⟩
 have hne : g ≠ b := by
  intro e
  subst e
  rcases ho.2 with ⟨e, _⟩ | ⟨g', cap, cur, e, _, hgg, _⟩
  ·cases e
  ·simp only [Value.slice.injEq, Option.some.injEq, Addr.mk.injEq, and_true] at e
   rw [<- e.1, hblk] at hgg
   simp at hgg
 have hfr : ∀ k, (Value.slice (some ⟨g, 0, none⟩) (bs.length / 8 + 1) cap').ownBlock = some k -> rv.ownBlock = some k ∨ w.heap.size <= k := by
  intro k hk
  rcases hf k hk with e | e
  ·exact .inl e
  ·exact .inr (by omega)
 refine ⟨g, cap', rfl, by rw [cell_of_row w1 b 0 _ _ (0, 0) hblk]; rfl, by rw [cell_of_row w1 b 1 _ _ (0, 0) hblk]; rfl, frozen_of_row w1 b 0 _ _ hblk, frozen_of_row w1 b 1 _ _ hblk, hne,
  by rw [ho.cellAt (bs.length / 8) (by omega), List.getElem?_append_right (by simp [zc9]; omega), show bs.length / 8 - ((pack bs).map (Value.int .u8)).length = 0 by simp [zc9]; omega]; rfl, ho.frozenAt _, fun c hc => ?_⟩
 have hL : (pack bs).length = bs.length / 8 := by rw [zc9]; omega
 refine ⟨⟨?_, ?_, h.bits.snoc hc⟩, ?_, hfr⟩
 ·have h1 := heap_setCell_same w1 b 0 _ _ (.slice (some ⟨g, 0, none⟩) (bs.length / 8 + 1) cap') hblk
  have h2 : ((w1.setCell ⟨b, 0, none⟩ (.slice (some ⟨g, 0, none⟩) (bs.length / 8 + 1) cap')).setCell ⟨g, bs.length / 8, none⟩ (.int .u8 c)).heap[b]? = _ :=
   (Below.heap_setCell _ _ _ _ (fun e => hne e.symm)).trans h1
  have h3 := heap_setCell_same _ b 1 _ _ (.int .i64 ((bs.length : Int) + 1)) h2
  show (((w1.setCell ⟨b, 0, none⟩ _).setCell ⟨g, bs.length / 8, none⟩ _).setCell ⟨b, 1, none⟩ _).heap[b]? = _
  rw [h3]
  simp
 ·have h1 : (w1.setCell ⟨b, 0, none⟩ (.slice (some ⟨g, 0, none⟩) (bs.length / 8 + 1) cap')).ownsRow 0 5 1 (.slice (some ⟨g, 0, none⟩) (bs.length / 8 + 1) cap') (bs.length / 8 + 1) ((pack bs).map (Value.int .u8) ++ [Value.int .u8 0]) :=
   Tch.owns (S := fun k => k = b) ((Tch.refl (fun k => k = b) _).setCell (p := ⟨b, 0, none⟩) (fun _ => rfl) _) ho (fun k hk => by simp only [Value.ownBlock, Option.some.injEq] at hk; omega)
  have h2 := (h1.stored (bs.length / 8) (.int .u8 c)).1
  have h3 := Tch.owns (S := fun k => k = b) ((Tch.refl (fun k => k = b) _).setCell (p := ⟨b, 1, none⟩) (fun _ => rfl) (.int .i64 ((bs.length : Int) + 1))) h2 (fun k hk => by simp only [Value.ownBlock, Option.some.injEq] at hk; omega)
  rw [zhm9 bs c h8, List.map_append]
  have e1 : ((pack bs).map (Value.int .u8) ++ [Value.int .u8 0]).set (bs.length / 8) (.int .u8 c) = (pack bs).map (Value.int .u8) ++ [c].map (Value.int .u8) := by
   rw [List.set_append_right _ _ (by simp [hL])]
   simp [hL]
  rw [e1] at h3
  have e2 : (pack bs ++ [c]).length = bs.length / 8 + 1 := by simp [hL]
  rw [e2]
  exact h3
 ·refine Tch.drew (Tch.setCell (Tch.setCell (Tch.setCell (Tch.grown ((Tch.refl _ w).alloc o) hg (fun k _ e => .inr e)) (fun _ => .inl rfl) _) (fun hlt => ?_) _) (fun _ => .inl rfl) _)
  rcases hfr g rfl with e | e
  ·exact .inr e
  ·exact absurd hlt (by show ¬ g < _; omega)
theorem zzb9 (b : Nat) (rv : Value) (bit : Int) (bs : List Int) (w : World) (h : Wr w b rv bs) (h8 : bs.length % 8 = 0) (hn : bs.length <= 1125899906842000) (hb : bit = 0 ∨ bit = 1) :
  Calls Tryz.prog 127 #[.pointer (some ⟨b, 0, none⟩), .int .u8 bit] w fun e w' => e = .returned (.tuple #[]) ∧
   ∃ rv', Wr w' b rv' (bs ++ [bit]) /\ Tch (fun k => k = b ∨ rv.ownBlock = some k) w w' /\ ∀ k, rv'.ownBlock = some k -> rv.ownBlock = some k ∨ w.heap.size <= k := by
 have hb1 : 0 <= bit /\ bit <= 1 := by omega
 have h8' : ((bs.length : Int) % 8 == 0) = true := by simp; omega
 have c0 := h.c0
 have c1 := h.c1
 have f0 := h.fz 0
 have f1 := h.fz 1
 have hlt := h.lt
 have H : Hid (Wr w b rv bs) := h
 clear h
 obtain ⟨i0, hi, hz0, hz1, hz2⟩ := info_parts info8
 have hown : Hid (∀ o, (w.alloc o).ownsRow 0 5 1 rv ((pack bs).map (Value.int .u8)).length ((pack bs).map (Value.int .u8))) := fun o => by simpa using H.out.own.alloc o
 have hpl : ((pack bs).map (Value.int .u8)).length = (bs.length + 7) / 8 := by simp [zc9]
 have HPL : Hid (((pack bs).map (Value.int .u8)).length = (bs.length + 7) / 8) := hpl
 clear hpl
 go_enter Tryz.func127, Tryz.ntmps127
 go_wp2_with (at_builtin; refine zdb9 _ rfl (.tmp 14) (.tmp 15) 22 rfl 5 i0 (.int .u8 0) 1 Tryz.underlying22 hi hz0 hz1 hz2 rfl rv ((pack bs).map (Value.int .u8)) rfl (hown.out _) _ [.int .u8 0] rfl (zvf9 _ _ _ rfl) ?b1 ?b2 ?_)
 case b1 => rw [HPL.out]; unfold maxLen; simp; omega
 case b2 => rw [HPL.out]; simp; omega
 intro v' w1 hown' hgrow hfresh
 have R := H.out.appended (by simpa using hown') hgrow hfresh h8
 clear hown' hgrow hfresh
 obtain ⟨g, cap', rfl, d0, d1, e0, e1, hne, cy, fy, hR⟩ := R
 have HR := hR bit hb
 clear hR
 have hor : Go.bits BinOp.or IntKind.u8 0 (bit % 256) = bit := by
  have e := zuz9 0 bit 0 (by omega) (by omega) (by decide) hb
  simpa using e
 go_wp2
 go_region
 go_wp2
 go_end0
 exact ⟨rfl, _, HR.out.1, HR.out.2.1, HR.out.2.2⟩
theorem zpc9 (b : Nat) (rv : Value) (bit : Int) (bs : List Int) (w : World) (h : Wr w b rv bs) (hn : bs.length <= 1125899906842000) (hb : bit = 0 ∨ bit = 1) :
  Calls Tryz.prog 127 #[.pointer (some ⟨b, 0, none⟩), .int .u8 bit] w fun e w' => e = .returned (.tuple #[]) ∧
   ∃ rv', Wr w' b rv' (bs ++ [bit]) /\ Tch (fun k => k = b ∨ rv.ownBlock = some k) w w' /\ ∀ k, rv'.ownBlock = some k -> rv.ownBlock = some k ∨ w.heap.size <= k := by
 by_cases h8 : bs.length % 8 = 0
 ·exact zzb9 b rv bit bs w h h8 hn hb
 ·have hL : (pack bs).length = bs.length / 8 + 1 := by rw [zc9]; omega
  obtain ⟨g, cap, rfl⟩ : ∃ g cap, rv = .slice (some ⟨g, 0, none⟩) (bs.length / 8 + 1) cap := by
   rcases h.own.2 with ⟨_, e⟩ | ⟨g, cap', cur, e, _⟩
   ·omega
   ·exact ⟨g, cap', by rw [e, hL]⟩
  have ho := h.own
  rw [hL] at ho
  have hne : g ≠ b := h.ne h.own rfl
  have hlast := zjt9 h.bits
  have hbd := zaao9 h.bits (bs.length / 8)
  have cy : w.cell? ⟨g, bs.length / 8, none⟩ = some (.int .u8 ((pack bs).getD (bs.length / 8) 0)) := by
   rw [ho.cellAt _ (by omega)]
   simp [List.getD_eq_getElem?_getD, hL]
  refine (zzc9 b g cap _ bit bs.length (bs.length / 8 + 1) w (by simp; omega) (by omega) (by omega) hbd (by omega) h.c0 h.c1 (h.fz 0) (h.fz 1) hne cy (ho.frozenAt _)).mono ?_
  rintro e w' ⟨rfl, rfl⟩
  rw [zuz9 _ bit _ (by omega) hbd.1 hlast hb]
  exact ⟨rfl, _, h.mid h8 hb, Tch.drew (Tch.setCell (Tch.setCell (Tch.refl _ _) (fun _ => .inr rfl) _) (fun _ => .inl rfl) _), fun k hk => .inl hk⟩
structure WrTo (w : World) (b : Nat) (rv : Value) (w' : World) (rv' : Value) (bs : List Int) : Prop where
 wr : Wr w' b rv' bs
 tch : Tch (fun k => k = b ∨ rv.ownBlock = some k) w w'
 fresh : ∀ k, rv'.ownBlock = some k -> rv.ownBlock = some k ∨ w.heap.size <= k
theorem WrTo.refl {w : World} {b : Nat} {rv : Value} {bs : List Int} (h : Wr w b rv bs) : WrTo w b rv w rv bs := ⟨h, Tch.refl _ _, fun _ e => .inl e⟩
theorem WrTo.trans {w w1 w2 : World} {b : Nat} {rv rv1 rv2 : Value} {bs1 bs2 : List Int} (h1 : WrTo w b rv w1 rv1 bs1) (h2 : WrTo w1 b rv1 w2 rv2 bs2) : WrTo w b rv w2 rv2 bs2 := by
 refine ⟨h2.wr, h1.tch.trans h2.tch fun i hi e => ?_, fun k hk => ?_⟩
 ·rcases e with e | e
  ·exact .inl e
  ·rcases h1.fresh i e with e | e
   ·exact .inr e
   ·omega
 ·rcases h2.fresh k hk with e | e
  ·exact h1.fresh k e
  ·exact .inr (by have := h1.tch.size; omega)
theorem put_ok (b : Nat) (rv : Value) (n : Nat) (v : Int) (bs : List Int) (w : World) (h : Wr w b rv bs) (hn : bs.length <= 1125899906841900) (h32 : n <= 32) (hv : 0 <= v) (hv1 : v < 2 ^ n) :
  Calls Tryz.prog 95 #[.pointer (some ⟨b, 0, none⟩), .int .i64 n, .int .i64 v] w fun e w' => e = .returned (.int .i64 0) /\ ∃ rv', WrTo w b rv w' rv' (bs ++ bitsOf v n) := by
 have H : Hid (Wr w b rv bs) := h
 have hq : (v / 2 ^ n != 0) = false := by rw [Int.ediv_eq_zero_of_lt hv hv1]; rfl
 have hv64 : v <= 4294967296 := by
  have : (2 : Int) ^ n <= 2 ^ 32 := zs9 h32
  have e : (2 : Int) ^ 32 = 4294967296 := by decide
  omega
 clear h hv1
 go_enter Tryz.func95, Tryz.ntmps95
 go_wp2_with fail
 go_loopw [25] (fun i wr => ∃ (k : Nat) (rv' : Value), k <= n /\ i = .int .i64 k /\ Hid (WrTo w b rv wr rv' (bs ++ bitsOf v k))) (fun i _ => n - (intOf i).toNat)
 case atStart => exact ⟨0, rv, Nat.zero_le _, rfl, by simpa [bitsOf, Hid] using WrTo.refl H.out⟩
 case round =>
  obtain ⟨k, rv', hk, rfl, hT⟩ := hrel
  by_cases hlt : k < n
  ·obtain ⟨c, hce⟩ : ∃ c, Hid (v / 2 ^ k % 2 = c) := ⟨_, rfl⟩
   have hand : Go.bits BinOp.and IntKind.i64 (v / 2 ^ k) 1 = c := by
    rw [<- hce.out]
    have h0 : 0 <= v / 2 ^ k := Int.ediv_nonneg hv (Int.le_of_lt (Int.pow_pos (by decide)))
    have h1 : v / 2 ^ k <= v := Int.ediv_le_self _ hv
    obtain ⟨a, ha⟩ := Int.eq_ofNat_of_zero_le h0
    rw [ha] at h1 ⊢
    have := (bits_nat .i64 62 (by decide) zi9 a 1 (by omega) (by decide)).1
    rw [ztw9] at this
    exact this
   have hc01 : c = 0 ∨ c = 1 := by rw [<- hce.out]; exact bit_of v k
   have HC : Hid (c = 0 ∨ c = 1) := hc01
   have hc256 : c % 256 = c := by omega
   clear hc01
   go_wp2_with fail
   refine (zpc9 b rv' c (bs ++ bitsOf v k) wr hT.out.wr (by simp [za9]; omega) HC.out).mono ?_
   rintro e w2 ⟨rfl, rv2, h2, h3, h4⟩
   have hT2 : Hid (WrTo w b rv w2 rv2 (bs ++ bitsOf v (k + 1))) := by
    have := hT.out.trans ⟨h2, h3, h4⟩
    show WrTo w b rv w2 rv2 (bs ++ (bitsOf v k ++ [v / 2 ^ k % 2]))
    rw [hce.out, <- List.append_assoc]
    exact this
   clear h2 h3 h4 hT
   go_wp2_with fail
   go_roundw
   case rel => exact ⟨k + 1, rv2, by omega, by go_num, hT2⟩
   case measure => simp [intOf]; omega
  ·obtain rfl : k = n := by omega
   go_wp2_with fail
   go_ret
   exact ⟨rfl, rv', hT.out⟩
theorem zls9 (v : Value) (xs : List Int) (w : World) (h : Rd .u8 w v xs) (hb : xs.length <= 140737488355328) :
  Calls Tryz.prog 46 #[v] w fun e w' => ∃ v', e = .returned v' /\ w'.ownsRow 0 5 1 v' xs.length (xs.map (Value.int .u8)) /\ Below w.heap.size w w' /\ ∀ k, v'.ownBlock = some k -> w.heap.size <= k := by
 obtain ⟨i0, hi, hz0, hz1, hz2⟩ := info_parts info8
 have H := zlu9 h
 have HS : Hid (Src w v (xs.map (Value.int .u8))) := H
 clear H h
 go_enter Tryz.func46, Tryz.ntmps46
 go_wp2_with (at_builtin; refine zdb9 _ rfl (.const (Value.slice none 0 0)) (.tmp 3) 22 rfl 5 i0 (.int .u8 0) 1 Tryz.underlying22 hi hz0 hz1 hz2 rfl (.slice none 0 0) [] rfl (World.ownsRow_nil _ _ _ _) _ (xs.map (Value.int .u8)) rfl HS.out ?b1 ?b2 ?_)
 case b1 => simp; unfold maxLen; omega
 case b2 => simp; omega
 intro v' w1 hown hgrow hfresh
 go_wp2
 go_ret
 refine ⟨v', rfl, by simpa using hown, (Below.refl _ _).grown hgrow (Nat.le_refl _) (fun k e => by cases e), fun k hk => ?_⟩
 rcases hfresh k hk with e | e
 ·cases e
 ·exact e
theorem zbd9 (w : World) :
  Calls Tryz.prog 93 #[] w fun e w' => e = .returned (.pointer (some ⟨w.heap.size, 0, none⟩)) /\ Wr w' w.heap.size (.slice none 0 0) [] /\ Below w.heap.size w w' := by
 go_enter Tryz.func93, Tryz.ntmps93
 go_wp2
 go_ret
 refine ⟨rfl, ⟨?_, World.ownsRow_nil _ _ _ _, Bits.nil⟩, (Below.refl _ _).alloc (Nat.le_refl _) _⟩
 exact heap_alloc_new w _
theorem zde9 (v : Value) (xs : List Int) (w : World) (h : Rd .u8 w v xs) (hb : xs.length <= 140737488355328) :
  Calls Tryz.prog 46 #[v] w fun e w' => ∃ v', e = .returned v' /\ Owns .u8 5 w' v' xs /\ Grew w w' (.slice none 0 0) v' := by
 refine (zls9 v xs w h hb).mono ?_
 rintro e w' ⟨v', rfl, h1, h2, h3⟩
 exact ⟨v', rfl, h1, Tch.of_below h2, fun k hk => .inr (h3 k hk)⟩
end Go.Proofs.YtobenjkacpipeaaGreat
namespace Go.Proofs.YtobenjkacpipeaaGreat.Pl
theorem zan9 (v : Int) (n : Nat) : Bits (bitsOf v n) := by
 intro i
 rw [zbk9]
 split
 ·omega
 ·exact .inl rfl
end Go.Proofs.YtobenjkacpipeaaGreat.Pl
