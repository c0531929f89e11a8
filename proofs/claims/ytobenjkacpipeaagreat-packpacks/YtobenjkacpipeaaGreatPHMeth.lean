import Derived.Test.YtobenjkacpipeaaGreatPMem
import Derived.Test.YtobenjkacpipeaaGreatPE64
import Derived.Maps.AppendAt
import Derived.Test.YtobenjkacpipeaaGreatPHeapP
set_option maxRecDepth 100000
set_option linter.unusedVariables false
set_option linter.unusedSimpArgs false
set_option maxHeartbeats 8000000
namespace Go.Proofs.YtobenjkacpipeaaGreat
open Go.RowKit Pl
theorem zkj9 (a : Addr) (v : Value) (w : World) (h : w.cell? a = some v) : (load a).run Tryz.prog w = .ok v w := by
 simp [load, Sem.run, h]
theorem zkz9 (a : Addr) (v : Value) (w : World) (h : w.cell? a = some v) : (method 331 206 (.pointer (some a)) "Len").run Tryz.prog w = .ok (162, v) w := by
 have e : (method 331 206 (.pointer (some a)) "Len").run Tryz.prog w = (do let v ← load a; pure (162, v) : Sem (FuncId × Value)).run Tryz.prog w := by kernel_rfl
 rw [e]
 simp [zkj9 a v w h]
theorem zap9 (a : Addr) (v : Value) (w : World) (h : w.cell? a = some v) : (method 331 206 (.pointer (some a)) "Less").run Tryz.prog w = .ok (185, v) w := by
 have e : (method 331 206 (.pointer (some a)) "Less").run Tryz.prog w = (do let v ← load a; pure (185, v) : Sem (FuncId × Value)).run Tryz.prog w := by kernel_rfl
 rw [e]
 simp [zkj9 a v w h]
theorem zda9 (a : Addr) (v : Value) (w : World) (h : w.cell? a = some v) : (method 331 206 (.pointer (some a)) "Swap").run Tryz.prog w = .ok (186, v) w := by
 have e : (method 331 206 (.pointer (some a)) "Swap").run Tryz.prog w = (do let v ← load a; pure (186, v) : Sem (FuncId × Value)).run Tryz.prog w := by kernel_rfl
 rw [e]
 simp [zkj9 a v w h]
theorem zyi9 (a : Addr) (w : World) : (method 331 206 (.pointer (some a)) "Pop").run Tryz.prog w = .ok (187, .pointer (some a)) w := by kernel_rfl
theorem zsl9 (a : Addr) (w : World) : (method 331 206 (.pointer (some a)) "Push").run Tryz.prog w = .ok (188, .pointer (some a)) w := by kernel_rfl
def RdT (w : World) (v : Value) (ps : List (Int × Int)) : Prop :=
 ∃ a cap, v = .slice a ps.length cap /\ ps.length <= cap /\ cap <= maxLen ∧
  (ps = [] ∨ ∃ b o, a = some ⟨b, o, none⟩ /\ ∀ i, i < ps.length -> w.cell? ⟨b, o + i * 2, none⟩ = some (.int .i64 (ps.getD i (0, 0)).1) /\ w.cell? ⟨b, o + i * 2 + 1, none⟩ = some (.int .i64 (ps.getD i (0, 0)).2))
def pcells (ps : List (Int × Int)) : List Value := ps.flatMap fun p => [Value.int .i64 p.1, Value.int .i64 p.2]
theorem zaq9 (ps : List (Int × Int)) : (pcells ps).length = ps.length * 2 := by
 induction ps with
 | nil => rfl
 | cons p ps ih => simp only [pcells, List.flatMap_cons, List.length_append, List.length_cons, List.length_nil] at *; omega
theorem zdw9 (ps qs : List (Int × Int)) : pcells (ps ++ qs) = pcells ps ++ pcells qs := by simp [pcells]
theorem zcx9 (ps : List (Int × Int)) (i : Nat) (h : i < ps.length) : (pcells ps)[i * 2]? = some (.int .i64 (ps.getD i (0, 0)).1) /\ (pcells ps)[i * 2 + 1]? = some (.int .i64 (ps.getD i (0, 0)).2) := by
 induction ps generalizing i with
 | nil => simp at h
 | cons p ps ih =>
  have e : pcells (p :: ps) = [Value.int .i64 p.1, Value.int .i64 p.2] ++ pcells ps := by simp [pcells]
  rw [e]
  cases i with
  | zero => exact ⟨rfl, rfl⟩
  | succ i =>
   have := ih i (by simpa using h)
   rw [show (i + 1) * 2 = i * 2 + 2 by omega]
   simp only [List.getD_cons_succ]
   exact ⟨by simpa using this.1, by simpa using this.2⟩
def OwnsT (w : World) (v : Value) (ps : List (Int × Int)) : Prop := w.ownsRow 0 204 2 v ps.length (pcells ps)
theorem OwnsT.rd {w : World} {v : Value} {ps : List (Int × Int)} (h : OwnsT w v ps) : RdT w v ps := by
 have h' : w.ownsRow 0 204 2 v ps.length (pcells ps) := h
 rcases h'.2 with ⟨rfl, h0⟩ | ⟨g, cap, cur, rfl, _, hg, hnc, hcm, _⟩
 ·have hx : ps = [] := List.eq_nil_of_length_eq_zero h0
  subst hx
  exact ⟨none, 0, rfl, Nat.le_refl _, by unfold maxLen; omega, .inl rfl⟩
 ·refine ⟨some ⟨g, 0, none⟩, cap, rfl, hnc, hcm, .inr ⟨g, 0, rfl, fun i hi => ?_⟩⟩
  have := zcx9 ps i hi
  rw [Nat.zero_add, h'.cellAt (i * 2) (by omega), h'.cellAt (i * 2 + 1) (by omega)]
  exact this
theorem OwnsT.tch {S : Nat -> Prop} {w w' : World} {v : Value} {ps : List (Int × Int)} (h : OwnsT w v ps) (ht : Tch S w w') (hn : ∀ j, v.ownBlock = some j -> ¬ S j) : OwnsT w' v ps := ht.owns h hn
theorem OwnsT.below {w w' : World} {v : Value} {ps : List (Int × Int)} (h : OwnsT w v ps) (hb : Below w.heap.size w w') : OwnsT w' v ps :=
 h.tch (S := fun _ => False) (Tch.of_below hb) (fun _ _ e => e)
theorem zag9 {w : World} {e : TypeId} {size : Nat} {v : Value} {n : Nat} {xs : List Value} (h : w.ownsRow 0 e size v n xs) {k : Nat} (hk : v.ownBlock = some k) : ∃ cur, w.heap[k]? = some (.cells cur e (0, 0)) := by
 rcases h.2 with ⟨rfl, _⟩ | ⟨g, cap, cur, rfl, _, hg, _⟩
 ·cases hk
 ·simp only [Value.ownBlock, Option.some.injEq] at hk
  subst hk
  exact ⟨cur, hg⟩
theorem OwnsT.ne_blk {w : World} {v : Value} {ps : List (Int × Int)} {b : Nat} {cs : Array Value} {t : TypeId} (h : OwnsT w v ps) (hb : w.heap[b]? = some (.cells cs t (0, 0))) (ht : t ≠ 204) {k : Nat} (hk : v.ownBlock = some k) : k ≠ b := by
 intro e
 subst e
 obtain ⟨c1, h1⟩ := zag9 (w := w) h hk
 rw [h1] at hb
 simp at hb
 exact ht hb.2.symm
theorem infoT : (Tryz.prog.info? 204).map (fun i => (i.zero, i.size, i.bytes)) = some (some (.agg #[.int .i64 0, .int .i64 0]), 2, 16) := by kernel_rfl
theorem zkk9 (w : World) {ops : Array Oper} {rest : List Oper} {o : Oper} {a : Act} {Q : Exit -> Act -> World -> Prop} (hgd : o.guard = none) (s x : Operand)
  (ho : o.op = .call { callee := .builtin .append, args := #[s, x], argTypes := #[202, 202] })
  (v : Value) (ps : List (Int × Int)) (hs : a.eval s = v) (hown : OwnsT w v ps) (p : Int × Int) (hx : a.eval x = .slice (some ⟨w.heap.size, 0, none⟩) 1 1)
  (hbytes : (ps.length + 1) * 16 <= 140737488355328)
  (h : ∀ v' w', OwnsT w' v' (ps ++ [p]) -> Grew w w' v v' -> wpList Tryz.prog ops Q rest (a.put o.dst v') w') : wpList Tryz.prog ops Q (o :: rest) a (w.alloc (.cells #[.int .i64 p.1, .int .i64 p.2] 204)) := by
 obtain ⟨i0, hi, hz0, hz1, hz2⟩ := info_parts infoT
 refine wpList_append_own_at (w.alloc (.cells #[.int .i64 p.1, .int .i64 p.2] 204)) hgd s x 202 ho 0 204 i0 _ 2 16 Tryz.underlying202 hi hz0 hz1 hz2 rfl (by decide) v ps.length (pcells ps) hs (World.ownsRow.alloc hown _)
  ⟨w.heap.size, 0, none⟩ 1 1 [.int .i64 p.1, .int .i64 p.2] hx rfl ?_ ?_ (by unfold maxLen; omega) hbytes (Nat.zero_le _) ?_
 ·intro j u hj
  match j, hj with
  | 0, hj => simp at hj; subst hj; simp [Addr.add]
  | 1, hj => simp at hj; subst hj; simp [Addr.add]
 ·intro u hu
  simp at hu
  rcases hu with rfl | rfl <;> rfl
 ·intro v' w' h2 h3 _ h5
  refine h v' w' ?_ ⟨Tch.grown ((Tch.refl _ w).alloc _) h3 (fun _ _ e => e), fun k hk => ?_⟩
  ·unfold OwnsT
   rw [zdw9]
   simpa [pcells] using h2
  ·rcases h5 with e | e
   ·exact .inl (by rw [<- e]; exact hk)
   ·rw [hk] at e
    simp at e
    exact .inr (by omega)
structure Hp (w : World) (h : Nat) (v : Value) (ps : List (Int × Int)) : Prop where
 blk : w.heap[h]? = some (.cells #[v] 202 (0, 0))
 own : OwnsT w v ps
theorem Hp.c0 {w : World} {h : Nat} {v : Value} {ps : List (Int × Int)} (H : Hp w h v ps) : w.cell? ⟨h, 0, none⟩ = some v := by
 rw [cell_of_row w h 0 _ _ (0, 0) H.blk]; rfl
theorem Hp.fz {w : World} {h : Nat} {v : Value} {ps : List (Int × Int)} (H : Hp w h v ps) : w.frozen? ⟨h, 0, none⟩ = false := frozen_of_row w h 0 _ _ H.blk
theorem Hp.lt {w : World} {h : Nat} {v : Value} {ps : List (Int × Int)} (H : Hp w h v ps) : h < w.heap.size := (Array.getElem?_eq_some_iff.1 H.blk).1
theorem Hp.ne {w : World} {h : Nat} {v : Value} {ps : List (Int × Int)} (H : Hp w h v ps) : v.ownBlock ≠ some h := fun e => H.own.ne_blk H.blk (by decide) e rfl
theorem Hp.tch {S : Nat -> Prop} {w w' : World} {h : Nat} {v : Value} {ps : List (Int × Int)} (H : Hp w h v ps) (ht : Tch S w w') (hb : ¬ S h) (hr : ∀ k, v.ownBlock = some k -> ¬ S k) : Hp w' h v ps :=
 ⟨by rw [ht.block h H.lt hb]; exact H.blk, H.own.tch ht hr⟩
theorem Hp.below {w w' : World} {h : Nat} {v : Value} {ps : List (Int × Int)} (H : Hp w h v ps) (ht : Below w.heap.size w w') : Hp w' h v ps :=
 H.tch (S := fun _ => False) (Tch.of_below ht) (fun e => e) (fun _ _ e => e)
theorem OwnsT.shape {w : World} {v : Value} {ps : List (Int × Int)} (h : OwnsT w v ps) (h0 : 0 < ps.length) :
  ∃ g cap, v = .slice (some ⟨g, 0, none⟩) ps.length cap /\ g < w.heap.size /\ ps.length <= cap /\ cap <= maxLen /\ (∀ i, i < ps.length -> w.cell? ⟨g, i * 2, none⟩ = some (.int .i64 (ps.getD i (0, 0)).1) /\ w.cell? ⟨g, i * 2 + 1, none⟩ = some (.int .i64 (ps.getD i (0, 0)).2)) /\ ∀ i, w.frozen? ⟨g, i, none⟩ = false := by
 have h' : w.ownsRow 0 204 2 v ps.length (pcells ps) := h
 rcases h'.2 with ⟨_, e⟩ | ⟨g, cap, cur, rfl, _, hg, hnc, hcm, _⟩
 ·omega
 ·refine ⟨g, cap, rfl, (Array.getElem?_eq_some_iff.1 hg).1, hnc, hcm, fun i hi => ?_, fun i => h'.frozenAt i⟩
  have := zcx9 ps i hi
  rw [h'.cellAt (i * 2) (by omega), h'.cellAt (i * 2 + 1) (by omega)]
  exact this
theorem zhr9 (ps : List (Int × Int)) (i : Nat) (p : Int × Int) (hi : i < ps.length) : ((pcells ps).set (i * 2) (.int .i64 p.1)).set (i * 2 + 1) (.int .i64 p.2) = pcells (ps.set i p) := by
 induction ps generalizing i with
 | nil => simp at hi
 | cons q r ih =>
  match i with
  | 0 => simp [pcells]
  | i + 1 =>
   have := ih i (by simpa using hi)
   rw [show (i + 1) * 2 = i * 2 + 1 + 1 by omega]
   simpa [pcells] using this
theorem OwnsT.set {w : World} {g n cap : Nat} {ps : List (Int × Int)} (h : OwnsT w (.slice (some ⟨g, 0, none⟩) n cap) ps) (i : Nat) (hi : i < ps.length) (p : Int × Int) :
  OwnsT ((w.setCell ⟨g, i * 2, none⟩ (.int .i64 p.1)).setCell ⟨g, i * 2 + 1, none⟩ (.int .i64 p.2)) (.slice (some ⟨g, 0, none⟩) n cap) (ps.set i p) := by
 have h' : w.ownsRow 0 204 2 (.slice (some ⟨g, 0, none⟩) n cap) ps.length (pcells ps) := h
 have hn : n = ps.length := by
  rcases h'.2 with ⟨e, _⟩ | ⟨g', cap', cur, e, _⟩
  ·cases e
  ·simp only [Value.slice.injEq] at e; exact e.2.1
 subst hn
 have := ((h'.stored (i * 2) (.int .i64 p.1)).1.stored (i * 2 + 1) (.int .i64 p.2)).1
 unfold OwnsT
 rw [<- zhr9 ps i p hi, List.length_set]
 exact this
end Go.Proofs.YtobenjkacpipeaaGreat
namespace Go.Proofs.YtobenjkacpipeaaGreat
open Go.RowKit Pl Hf
theorem zff9 (a : Option Addr) (n cap : Nat) (w : World) :
  Calls Tryz.prog 162 #[.slice a n cap] w fun e w' => e = .returned (.int .i64 n) /\ w' = w := by
 go_enter Tryz.func162, Tryz.ntmps162
 go_wp2
 go_ret
 exact ⟨rfl, rfl⟩
theorem zry9 (v : Value) (ps : List (Int × Int)) (i j : Nat) (w : World) (h : OwnsT w v ps) (hi : i < ps.length) (hj : j < ps.length) :
  Calls Tryz.prog 185 #[v, .int .i64 i, .int .i64 j] w fun e w' => e = .returned (.bool (ltB (G ps i) (G ps j))) /\ Tch (fun _ => False) w w' := by
 obtain ⟨g, cap, rfl, _, _, _, hc, _⟩ := h.shape (by omega)
 obtain ⟨c0, c1⟩ := hc i hi
 obtain ⟨d0, d1⟩ := hc j hj
 simp only [G]
 obtain ⟨x, hx⟩ : ∃ x, Hid (ps.getD i (0, 0) = x) := ⟨_, rfl⟩
 obtain ⟨y, hy⟩ : ∃ y, Hid (ps.getD j (0, 0) = y) := ⟨_, rfl⟩
 rw [hx.out] at c0 c1 ⊢
 rw [hy.out] at d0 d1 ⊢
 obtain ⟨x1, x2⟩ := x
 obtain ⟨y1, y2⟩ := y
 simp only at c0 c1 d0 d1
 clear hc h
 by_cases he : x1 = y1
 ·have hne : (x1 != y1) = false := by simp [he]
  have HE : Hid (ltB (x1, x2) (y1, y2) = decide (x2 < y2)) := by
   show _ = _
   unfold ltB; rw [decide_eq_decide]; unfold ltP; simp only; omega
  rw [HE.out]
  clear he
  go_enter Tryz.func185, Tryz.ntmps185
  go_wp2_with fail
  go_quiet (fail)
  go_wp2_with fail
  go_quiet (fail)
  go_wp2_with fail
  go_ret
  exact ⟨rfl, ⟨rfl, rfl, rfl, Nat.le_refl _, fun _ _ _ => rfl⟩⟩
 ·have hne : (x1 != y1) = true := by simp [he]
  have HE : Hid (ltB (x1, x2) (y1, y2) = decide (x1 < y1)) := by
   show _ = _
   unfold ltB; rw [decide_eq_decide]; unfold ltP; simp only; omega
  rw [HE.out]
  clear he
  go_enter Tryz.func185, Tryz.ntmps185
  go_wp2_with fail
  go_quiet (fail)
  go_wp2_with fail
  go_quiet (fail)
  go_wp2_with fail
  go_ret
  exact ⟨rfl, ⟨rfl, rfl, rfl, Nat.le_refl _, fun _ _ _ => rfl⟩⟩
theorem OwnsT.at2 {w : World} {g n cap : Nat} {ps : List (Int × Int)} (h : OwnsT w (.slice (some ⟨g, 0, none⟩) n cap) ps) : ∀ i, i < ps.length -> ∃ x1 x2, G ps i = (x1, x2) /\ w.cell? ⟨g, i * 2, none⟩ = some (.int .i64 x1) /\ w.cell? ⟨g, i * 2 + 1, none⟩ = some (.int .i64 x2) := by
 intro i hi
 obtain ⟨g', cap', e, _, _, _, hc, _⟩ := h.shape (by omega)
 simp only [Value.slice.injEq, Option.some.injEq, Addr.mk.injEq, and_true] at e
 obtain ⟨rfl, _, _⟩ := e
 exact ⟨_, _, rfl, hc i hi⟩
theorem ztp9 (h : Nat) (v : Value) (ps : List (Int × Int)) (i j : Nat) (w : World) (H : Hp w h v ps) (hi : i < ps.length) (hj : j < ps.length) :
  Calls Tryz.prog 186 #[v, .int .i64 i, .int .i64 j] w fun e w' => e = .returned (.tuple #[]) /\ Hp w' h v (swp ps i j) /\ Tch (fun k => v.ownBlock = some k) w w' := by
 obtain ⟨g, cap, rfl, hg, hcap, hmax, hc, fz⟩ := H.own.shape (by omega)
 obtain ⟨x1, x2, hx, c0, c1⟩ := H.own.at2 i hi
 obtain ⟨y1, y2, hy, d0, d1⟩ := H.own.at2 j hj
 have HH : Hid (Hp w h (.slice (some ⟨g, 0, none⟩) ps.length cap) ps) := H
 have HX : Hid (G ps i = (x1, x2)) := hx
 have HY : Hid (G ps j = (y1, y2)) := hy
 have f0 := fz (i * 2)
 have f1 := fz (i * 2 + 1)
 have f2 := fz (j * 2)
 have f3 := fz (j * 2 + 1)
 clear hc fz H hx hy
 by_cases hij : i = j
 ·subst hij
  have e : y1 = x1 /\ y2 = x2 := by have := HX.out.symm.trans HY.out; simp only [Prod.mk.injEq] at this; exact ⟨this.1.symm, this.2.symm⟩
  obtain ⟨rfl, rfl⟩ := e
  clear d0 d1 f2 f3
  go_enter Tryz.func186, Tryz.ntmps186
  go_wp2_with fail
  go_region
  go_wp2_with fail
  go_end0
  refine ⟨rfl, ?_, ?_⟩
  ·have h1 := (HH.out.own.set i hi (y1, y2)).set i (by simpa using hi) (y1, y2)
   refine ⟨?_, ?_⟩
   ·have hne : g ≠ h := fun e => HH.out.ne (by rw [e]; rfl)
    show ((((w.setCell ⟨g, i * 2, none⟩ _).setCell ⟨g, i * 2 + 1, none⟩ _).setCell ⟨g, i * 2, none⟩ _).setCell ⟨g, i * 2 + 1, none⟩ _).heap[h]? = _
    rw [Below.heap_setCell _ _ _ _ (fun e => hne e.symm), Below.heap_setCell _ _ _ _ (fun e => hne e.symm), Below.heap_setCell _ _ _ _ (fun e => hne e.symm), Below.heap_setCell _ _ _ _ (fun e => hne e.symm)]
    exact HH.out.blk
   ·unfold swp; rw [HX.out]; exact h1
  ·exact (Tch.drew (Tch.setCell (Tch.setCell (Tch.setCell (Tch.setCell (Tch.refl (fun k => k = g) w) (p := ⟨g, _, none⟩) (fun _ => rfl) _) (p := ⟨g, _, none⟩) (fun _ => rfl) _) (p := ⟨g, _, none⟩) (fun _ => rfl) _) (p := ⟨g, _, none⟩) (fun _ => rfl) _)).mono (fun k _ e => by rw [e]; rfl)
 ·go_enter Tryz.func186, Tryz.ntmps186
  go_wp2_with fail
  go_region
  go_wp2_with fail
  go_end0
  refine ⟨rfl, ?_, ?_⟩
  ·have h1 := (HH.out.own.set i hi (y1, y2)).set j (by simpa using hj) (x1, x2)
   refine ⟨?_, ?_⟩
   ·have hne : g ≠ h := fun e => HH.out.ne (by rw [e]; rfl)
    show ((((w.setCell ⟨g, i * 2, none⟩ _).setCell ⟨g, i * 2 + 1, none⟩ _).setCell ⟨g, j * 2, none⟩ _).setCell ⟨g, j * 2 + 1, none⟩ _).heap[h]? = _
    rw [Below.heap_setCell _ _ _ _ (fun e => hne e.symm), Below.heap_setCell _ _ _ _ (fun e => hne e.symm), Below.heap_setCell _ _ _ _ (fun e => hne e.symm), Below.heap_setCell _ _ _ _ (fun e => hne e.symm)]
    exact HH.out.blk
   ·unfold swp; rw [HX.out, HY.out]; exact h1
  ·exact (Tch.drew (Tch.setCell (Tch.setCell (Tch.setCell (Tch.setCell (Tch.refl (fun k => k = g) w) (p := ⟨g, _, none⟩) (fun _ => rfl) _) (p := ⟨g, _, none⟩) (fun _ => rfl) _) (p := ⟨g, _, none⟩) (fun _ => rfl) _) (p := ⟨g, _, none⟩) (fun _ => rfl) _)).mono (fun k _ e => by rw [e]; rfl)
def Ret (e : Ending) : Prop := ∃ u, e = .returned u
abbrev hv (h : Nat) : Value := .iface 206 (.pointer (some ⟨h, 0, none⟩))
theorem Hp.len {w : World} {h : Nat} {v : Value} {ps : List (Int × Int)} (H : Hp w h v ps) : ∃ a cap, v = .slice a ps.length cap := by
 obtain ⟨a, cap, e, _⟩ := H.own.rd
 exact ⟨a, cap, e⟩
theorem zbf9 (h : Nat) (v : Value) (ps : List (Int × Int)) (i j : Nat) (x y : Int) (b : Bool) (w : World) (H : Hp w h v ps) (hi : i < ps.length) (hj : j < ps.length) (hx : x = i) (hy : y = j) (hb : ltB (G ps i) (G ps j) = b) :
  Calls Tryz.prog 185 #[v, .int .i64 x, .int .i64 y] w fun e w' => e = .returned (.bool b) /\ Hp w' h v ps /\ Tch (fun _ => False) w w' := by
 subst hx; subst hy; subst hb
 refine (zry9 v ps i j w H.own hi hj).mono ?_
 rintro e w' ⟨rfl, ht⟩
 exact ⟨rfl, H.tch ht (fun e => e) (fun _ _ e => e), ht⟩
theorem zfm9 (h : Nat) (v : Value) (ps : List (Int × Int)) (i j : Nat) (x y : Int) (w : World) (H : Hp w h v ps) (hi : i < ps.length) (hj : j < ps.length) (hx : x = i) (hy : y = j) :
  Calls Tryz.prog 186 #[v, .int .i64 x, .int .i64 y] w fun e w' => e = .returned (.tuple #[]) /\ Hp w' h v (swp ps i j) /\ Tch (fun k => v.ownBlock = some k) w w' := by
 subst hx; subst hy
 exact ztp9 h v ps i j w H hi hj
theorem zof9 (h : Nat) (v : Value) (ps : List (Int × Int)) (i0 n : Nat) (w : World) (H : Hp w h v ps) (hn : n <= ps.length) (hl : ps.length <= 100000) (hi : i0 <= n) (hh : Heap ps n (i0 + 1)) :
  Calls Tryz.prog 165 #[hv h, .int .i64 i0, .int .i64 n] w fun e w' => Ret e /\ ∃ qs, Hp w' h v qs /\ qs.Perm ps /\ (∀ k, n <= k -> G qs k = G ps k) /\ Heap qs n i0 /\ Tch (fun k => v.ownBlock = some k) w w' := by
 have HH : Hid (Hp w h v ps) := H
 have HD : Hid (Dn ps ps n i0 i0) := Dn.start hh hn
 clear H hh
 go_enter Tryz.func165, Tryz.ntmps165
 go_wp2_with fail
 go_loopw [7] (fun i wr => ∃ (k : Nat) (qs : List (Int × Int)), k <= n /\ i0 <= k /\ i = .int .i64 k /\ Hid (Hp wr h v qs) /\ Hid (Dn ps qs n i0 k) /\ Hid (Tch (fun k => v.ownBlock = some k) w wr)) (fun i _ => n - (intOf i).toNat)
 case atStart => exact ⟨i0, ps, hi, Nat.le_refl _, rfl, HH, HD, Tch.refl _ _⟩
 case round =>
  obtain ⟨k, qs, hk, hk0, rfl, HP, HD2, HT⟩ := hrel
  clear HH HD
  have hql : qs.length = ps.length := HD2.out.perm.length_eq
  have HQL : Hid (qs.length = ps.length) := hql
  clear hql
  by_cases h1 : 2 * k + 1 < n
  ·by_cases h2 : 2 * k + 2 < n
   ·cases hb1 : ltB (G qs (2 * k + 2)) (G qs (2 * k + 1)) with
    | false =>
     have HB1 : Hid (ltB (G qs (2 * k + 2)) (G qs (2 * k + 1)) = false) := hb1
     clear hb1
     have HM : Hid (∀ c, Ch k c -> c < n -> leP (G qs (2 * k + 1)) (G qs c)) := fun c hc hcn => by rcases hc with rfl | rfl; (· exact zcp9 _); (· exact zcf9.1 HB1.out)
     have hm := zap9 ⟨h, 0, none⟩ v wr HP.out.c0
     go_wp2_with fail
     refine (zbf9 h v qs (2 * k + 2) (2 * k + 1) _ _ false wr HP.out (by rw [HQL.out]; omega) (by rw [HQL.out]; omega) (by omega) (by omega) HB1.out).mono ?_
     rintro e w1 ⟨rfl, hp1, ht1⟩
     have HP1 : Hid (Hp w1 h v qs) := hp1
     have HT1 : Hid (Tch (fun k => v.ownBlock = some k) w w1) := HT.out.trans (S' := fun _ => False) ht1 (fun _ _ e => e.elim)
     clear hp1 ht1 hm HP HT
     cases hb2 : ltB (G qs (2 * k + 1)) (G qs k) with
     | false =>
      have HB2 : Hid (ltB (G qs (2 * k + 1)) (G qs k) = false) := hb2
      clear hb2
      have hm := zap9 ⟨h, 0, none⟩ v w1 HP1.out.c0
      go_wp2_with fail
      refine (zbf9 h v qs (2 * k + 1) k _ _ false w1 HP1.out (by rw [HQL.out]; omega) (by rw [HQL.out]; omega) (by omega) (by omega) HB2.out).mono ?_
      rintro e w2 ⟨rfl, hp2, ht2⟩
      have HP2 : Hid (Hp w2 h v qs) := hp2
      have HT2 : Hid (Tch (fun k => v.ownBlock = some k) w w2) := HT1.out.trans (S' := fun _ => False) ht2 (fun _ _ e => e.elim)
      clear hp2 ht2 hm HP1 HT1
      have HF : Hid (Heap qs n i0) := HD2.out.stop (fun c hc hcn => zbp9 (zcf9.1 HB2.out) (HM.out c hc hcn))
      go_wp2_with fail
      go_ret
      exact ⟨⟨_, rfl⟩, qs, HP2.out, HD2.out.perm, HD2.out.rest, HF.out, HT2.out⟩
     | true =>
      have HB2 : Hid (ltB (G qs (2 * k + 1)) (G qs k) = true) := hb2
      clear hb2
      have hm := zap9 ⟨h, 0, none⟩ v w1 HP1.out.c0
      go_wp2_with fail
      refine (zbf9 h v qs (2 * k + 1) k _ _ true w1 HP1.out (by rw [HQL.out]; omega) (by rw [HQL.out]; omega) (by omega) (by omega) HB2.out).mono ?_
      rintro e w2 ⟨rfl, hp2, ht2⟩
      have HP2 : Hid (Hp w2 h v qs) := hp2
      have HT2 : Hid (Tch (fun k => v.ownBlock = some k) w w2) := HT1.out.trans (S' := fun _ => False) ht2 (fun _ _ e => e.elim)
      clear hp2 ht2 hm HP1 HT1
      have hm := zda9 ⟨h, 0, none⟩ v w2 HP2.out.c0
      go_wp2_with fail
      refine (zfm9 h v qs k (2 * k + 1) _ _ w2 HP2.out (by rw [HQL.out]; omega) (by rw [HQL.out]; omega) (by omega) (by omega)).mono ?_
      rintro e w3 ⟨rfl, hp3, ht3⟩
      have HP3 : Hid (Hp w3 h v (swp qs k (2 * k + 1))) := hp3
      have HT3 : Hid (Tch (fun k => v.ownBlock = some k) w w3) := HT2.out.trans ht3 (fun _ _ e => e)
      have HD3 : Hid (Dn ps (swp qs k (2 * k + 1)) n i0 (2 * k + 1)) := HD2.out.sink (by unfold Ch; omega) (by omega) HM.out (zck9.1 HB2.out)
      clear hp3 ht3 hm HP2 HT2 HD2
      go_wp2_with fail
      go_roundw
      case rel => exact ⟨2 * k + 1, swp qs k (2 * k + 1), by omega, by omega, by go_num, HP3, HD3, HT3⟩
      case measure => simp [intOf]; omega
    | true =>
     have HB1 : Hid (ltB (G qs (2 * k + 2)) (G qs (2 * k + 1)) = true) := hb1
     clear hb1
     have HM : Hid (∀ c, Ch k c -> c < n -> leP (G qs (2 * k + 2)) (G qs c)) := fun c hc hcn => by rcases hc with rfl | rfl; (· exact zce9 (zck9.1 HB1.out)); (· exact zcp9 _)
     have hm := zap9 ⟨h, 0, none⟩ v wr HP.out.c0
     go_wp2_with fail
     refine (zbf9 h v qs (2 * k + 2) (2 * k + 1) _ _ true wr HP.out (by rw [HQL.out]; omega) (by rw [HQL.out]; omega) (by omega) (by omega) HB1.out).mono ?_
     rintro e w1 ⟨rfl, hp1, ht1⟩
     have HP1 : Hid (Hp w1 h v qs) := hp1
     have HT1 : Hid (Tch (fun k => v.ownBlock = some k) w w1) := HT.out.trans (S' := fun _ => False) ht1 (fun _ _ e => e.elim)
     clear hp1 ht1 hm HP HT
     cases hb2 : ltB (G qs (2 * k + 2)) (G qs k) with
     | false =>
      have HB2 : Hid (ltB (G qs (2 * k + 2)) (G qs k) = false) := hb2
      clear hb2
      have hm := zap9 ⟨h, 0, none⟩ v w1 HP1.out.c0
      go_wp2_with fail
      refine (zbf9 h v qs (2 * k + 2) k _ _ false w1 HP1.out (by rw [HQL.out]; omega) (by rw [HQL.out]; omega) (by omega) (by omega) HB2.out).mono ?_
      rintro e w2 ⟨rfl, hp2, ht2⟩
      have HP2 : Hid (Hp w2 h v qs) := hp2
      have HT2 : Hid (Tch (fun k => v.ownBlock = some k) w w2) := HT1.out.trans (S' := fun _ => False) ht2 (fun _ _ e => e.elim)
      clear hp2 ht2 hm HP1 HT1
      have HF : Hid (Heap qs n i0) := HD2.out.stop (fun c hc hcn => zbp9 (zcf9.1 HB2.out) (HM.out c hc hcn))
      go_wp2_with fail
      go_ret
      exact ⟨⟨_, rfl⟩, qs, HP2.out, HD2.out.perm, HD2.out.rest, HF.out, HT2.out⟩
     | true =>
      have HB2 : Hid (ltB (G qs (2 * k + 2)) (G qs k) = true) := hb2
      clear hb2
      have hm := zap9 ⟨h, 0, none⟩ v w1 HP1.out.c0
      go_wp2_with fail
      refine (zbf9 h v qs (2 * k + 2) k _ _ true w1 HP1.out (by rw [HQL.out]; omega) (by rw [HQL.out]; omega) (by omega) (by omega) HB2.out).mono ?_
      rintro e w2 ⟨rfl, hp2, ht2⟩
      have HP2 : Hid (Hp w2 h v qs) := hp2
      have HT2 : Hid (Tch (fun k => v.ownBlock = some k) w w2) := HT1.out.trans (S' := fun _ => False) ht2 (fun _ _ e => e.elim)
      clear hp2 ht2 hm HP1 HT1
      have hm := zda9 ⟨h, 0, none⟩ v w2 HP2.out.c0
      go_wp2_with fail
      refine (zfm9 h v qs k (2 * k + 2) _ _ w2 HP2.out (by rw [HQL.out]; omega) (by rw [HQL.out]; omega) (by omega) (by omega)).mono ?_
      rintro e w3 ⟨rfl, hp3, ht3⟩
      have HP3 : Hid (Hp w3 h v (swp qs k (2 * k + 2))) := hp3
      have HT3 : Hid (Tch (fun k => v.ownBlock = some k) w w3) := HT2.out.trans ht3 (fun _ _ e => e)
      have HD3 : Hid (Dn ps (swp qs k (2 * k + 2)) n i0 (2 * k + 2)) := HD2.out.sink (by unfold Ch; omega) (by omega) HM.out (zck9.1 HB2.out)
      clear hp3 ht3 hm HP2 HT2 HD2
      go_wp2_with fail
      go_roundw
      case rel => exact ⟨2 * k + 2, swp qs k (2 * k + 2), by omega, by omega, by go_num, HP3, HD3, HT3⟩
      case measure => simp [intOf]; omega
   ·have HM : Hid (∀ c, Ch k c -> c < n -> leP (G qs (2 * k + 1)) (G qs c)) := fun c hc hcn => by rcases hc with rfl | rfl; (· exact zcp9 _); (· omega)
    cases hb2 : ltB (G qs (2 * k + 1)) (G qs k) with
    | false =>
     have HB2 : Hid (ltB (G qs (2 * k + 1)) (G qs k) = false) := hb2
     clear hb2
     have hm := zap9 ⟨h, 0, none⟩ v wr HP.out.c0
     go_wp2_with fail
     refine (zbf9 h v qs (2 * k + 1) k _ _ false wr HP.out (by rw [HQL.out]; omega) (by rw [HQL.out]; omega) (by omega) (by omega) HB2.out).mono ?_
     rintro e w2 ⟨rfl, hp2, ht2⟩
     have HP2 : Hid (Hp w2 h v qs) := hp2
     have HT2 : Hid (Tch (fun k => v.ownBlock = some k) w w2) := HT.out.trans (S' := fun _ => False) ht2 (fun _ _ e => e.elim)
     clear hp2 ht2 hm HP HT
     have HF : Hid (Heap qs n i0) := HD2.out.stop (fun c hc hcn => zbp9 (zcf9.1 HB2.out) (HM.out c hc hcn))
     go_wp2_with fail
     go_ret
     exact ⟨⟨_, rfl⟩, qs, HP2.out, HD2.out.perm, HD2.out.rest, HF.out, HT2.out⟩
    | true =>
     have HB2 : Hid (ltB (G qs (2 * k + 1)) (G qs k) = true) := hb2
     clear hb2
     have hm := zap9 ⟨h, 0, none⟩ v wr HP.out.c0
     go_wp2_with fail
     refine (zbf9 h v qs (2 * k + 1) k _ _ true wr HP.out (by rw [HQL.out]; omega) (by rw [HQL.out]; omega) (by omega) (by omega) HB2.out).mono ?_
     rintro e w2 ⟨rfl, hp2, ht2⟩
     have HP2 : Hid (Hp w2 h v qs) := hp2
     have HT2 : Hid (Tch (fun k => v.ownBlock = some k) w w2) := HT.out.trans (S' := fun _ => False) ht2 (fun _ _ e => e.elim)
     clear hp2 ht2 hm HP HT
     have hm := zda9 ⟨h, 0, none⟩ v w2 HP2.out.c0
     go_wp2_with fail
     refine (zfm9 h v qs k (2 * k + 1) _ _ w2 HP2.out (by rw [HQL.out]; omega) (by rw [HQL.out]; omega) (by omega) (by omega)).mono ?_
     rintro e w3 ⟨rfl, hp3, ht3⟩
     have HP3 : Hid (Hp w3 h v (swp qs k (2 * k + 1))) := hp3
     have HT3 : Hid (Tch (fun k => v.ownBlock = some k) w w3) := HT2.out.trans ht3 (fun _ _ e => e)
     have HD3 : Hid (Dn ps (swp qs k (2 * k + 1)) n i0 (2 * k + 1)) := HD2.out.sink (by unfold Ch; omega) (by omega) HM.out (zck9.1 HB2.out)
     clear hp3 ht3 hm HP2 HT2 HD2
     go_wp2_with fail
     go_roundw
     case rel => exact ⟨2 * k + 1, swp qs k (2 * k + 1), by omega, by omega, by go_num, HP3, HD3, HT3⟩
     case measure => simp [intOf]; omega
  ·have HF : Hid (Heap qs n i0) := HD2.out.stop (fun c hc hcn => by unfold Ch at hc; omega)
   go_wp2_with fail
   go_ret
   exact ⟨⟨_, rfl⟩, qs, HP.out, HD2.out.perm, HD2.out.rest, HF.out, HT.out⟩
theorem up_any (h : Nat) (v : Value) (ps : List (Int × Int)) (n j0 : Nat) (w : World) (H : Hp w h v ps) (hl : ps.length <= 100000) (hh : Up ps ps n j0) :
  Calls Tryz.prog 166 #[hv h, .int .i64 j0] w fun e w' => e = .returned (.tuple #[]) /\ ∃ qs, Hp w' h v qs /\ qs.Perm ps /\ Heap qs n 0 /\ Tch (fun k => v.ownBlock = some k) w w' := by
 have HH : Hid (Hp w h v ps) := H
 have HD : Hid (Up ps ps n j0) := hh
 have hjn := hh.jn
 have hnl := hh.nl
 clear H hh
 go_enter Tryz.func166, Tryz.ntmps166
 go_wp2_with fail
 go_loopw [1] (fun i wr => ∃ (k : Nat) (qs : List (Int × Int)), k < n /\ i = .int .i64 k /\ Hid (Hp wr h v qs) /\ Hid (Up ps qs n k) /\ Hid (Tch (fun k => v.ownBlock = some k) w wr)) (fun i _ => (intOf i).toNat)
 case atStart => exact ⟨j0, ps, hjn, rfl, HH, HD, Tch.refl _ _⟩
 case round =>
  obtain ⟨k, qs, hk, rfl, HP, HU, HT⟩ := hrel
  clear HH HD
  have HQL : Hid (qs.length = n) := HU.out.nl.symm
  by_cases h0 : k = 0
  ·subst h0
   have HF : Hid (Heap qs n 0) := HU.out.top
   go_wp2_with fail
   go_end0
   exact ⟨rfl, qs, HP.out, HU.out.perm, HF.out, HT.out⟩
  ·obtain ⟨p, hp, hpe⟩ : ∃ p : Nat, Ch p k /\ ((k : Int) - 1).tdiv 2 = p := ⟨(k - 1) / 2, by unfold Ch; omega, by rw [show ((k : Int) - 1) = ((k - 1 : Nat) : Int) by omega]; exact (Int.ofNat_tdiv _ _).symm⟩
   have HC : Hid (Ch p k) := hp
   have hpk : p < k := by unfold Ch at hp; omega
   have hne : ((p : Int) == (k : Int)) = false := by simp; omega
   clear hp
   cases hb : ltB (G qs k) (G qs p) with
   | false =>
    have HB : Hid (ltB (G qs k) (G qs p) = false) := hb
    clear hb
    have hm := zap9 ⟨h, 0, none⟩ v wr HP.out.c0
    go_wp2_with fail
    refine (zbf9 h v qs k p _ _ false wr HP.out (by rw [HQL.out]; omega) (by rw [HQL.out]; omega) (by omega) (by omega) HB.out).mono ?_
    rintro e w2 ⟨rfl, hp2, ht2⟩
    have HP2 : Hid (Hp w2 h v qs) := hp2
    have HT2 : Hid (Tch (fun k => v.ownBlock = some k) w w2) := HT.out.trans (S' := fun _ => False) ht2 (fun _ _ e => e.elim)
    clear hp2 ht2 hm HP HT
    have HF : Hid (Heap qs n 0) := HU.out.stop HC.out (zcf9.1 HB.out)
    go_wp2_with fail
    go_end0
    exact ⟨rfl, qs, HP2.out, HU.out.perm, HF.out, HT2.out⟩
   | true =>
    have HB : Hid (ltB (G qs k) (G qs p) = true) := hb
    clear hb
    have hm := zap9 ⟨h, 0, none⟩ v wr HP.out.c0
    go_wp2_with fail
    refine (zbf9 h v qs k p _ _ true wr HP.out (by rw [HQL.out]; omega) (by rw [HQL.out]; omega) (by omega) (by omega) HB.out).mono ?_
    rintro e w2 ⟨rfl, hp2, ht2⟩
    have HP2 : Hid (Hp w2 h v qs) := hp2
    have HT2 : Hid (Tch (fun k => v.ownBlock = some k) w w2) := HT.out.trans (S' := fun _ => False) ht2 (fun _ _ e => e.elim)
    clear hp2 ht2 hm HP HT
    have hm := zda9 ⟨h, 0, none⟩ v w2 HP2.out.c0
    go_wp2_with fail
    refine (zfm9 h v qs p k _ _ w2 HP2.out (by rw [HQL.out]; omega) (by rw [HQL.out]; omega) (by omega) (by omega)).mono ?_
    rintro e w3 ⟨rfl, hp3, ht3⟩
    have HP3 : Hid (Hp w3 h v (swp qs p k)) := hp3
    have HT3 : Hid (Tch (fun k => v.ownBlock = some k) w w3) := HT2.out.trans ht3 (fun _ _ e => e)
    have HD3 : Hid (Up ps (swp qs p k) n p) := HU.out.rise HC.out (zck9.1 HB.out)
    clear hp3 ht3 hm HP2 HT2 HU
    go_wp2_with fail
    go_roundw
    case rel => exact ⟨p, swp qs p k, by omega, by first | rfl | go_num, HP3, HD3, HT3⟩
    case measure => simp [intOf]; omega
end Go.Proofs.YtobenjkacpipeaaGreat
