import Derived.Test.YtobenjkacpipeaaGreatPE64
import Derived.Test.YtobenjkacpipeaaGreatPMem
import Derived.Maps.AppendAt
set_option maxRecDepth 100000
set_option linter.unusedVariables false
set_option linter.unusedSimpArgs false
set_option maxHeartbeats 8000000
namespace Go.Proofs.YtobenjkacpipeaaGreat
open Go.RowKit Pl
theorem zct9 {k : IntKind} {w : World} {a : Option Addr} {cap : Nat} {xs : List Int} (h : Rd k w (.slice a xs.length cap) xs) (l m : Nat) (hl : l <= m) (hm : m <= xs.length) : Rd k w (sliced a l m cap 1) ((xs.drop l).take (m - l)) := by
 obtain ⟨a', cap', e, h1, h2, h3, h4⟩ := h
 cases e
 have el : ((xs.drop l).take (m - l)).length = m - l := by rw [List.length_take, List.length_drop]; omega
 unfold sliced
 rw [Nat.mul_one]
 by_cases hz : m - l = 0
 ·have hnil : (xs.drop l).take (m - l) = [] := by rw [hz]; rfl
  rw [hnil, hz]
  refine ⟨_, cap - l, rfl, Nat.zero_le _, by omega, fun e => ?_, .inl rfl⟩
  by_cases c : cap = l
  ·omega
  ·rw [if_neg c] at e
   have : a = none := by simpa using e
   have := h3 this
   omega
 ·rcases h4 with rfl | ⟨b, o, rfl, hc⟩
  ·simp at hm; omega
  ·rw [if_neg (by omega)]
   refine ⟨_, cap - l, by rw [el], by omega, by omega, fun e => (by cases e), .inr ⟨b, o + l, ?_, fun i hi => ?_⟩⟩
   ·simp [Addr.add]
   ·rw [el] at hi
    rw [Nat.add_assoc, hc (l + i) (by omega), List.getD_eq_getElem?_getD, List.getD_eq_getElem?_getD, List.getElem?_take, if_pos hi, List.getElem?_drop]
theorem size8 (w : World) : (sizeOf (Tryz.prog.elem 22)).run Tryz.prog w = .ok 1 w := by
 have h : (Tryz.prog.info? (Tryz.prog.elem 22)).map (·.size) = some 1 := by kernel_rfl
 obtain ⟨i, hi, hs⟩ := Option.map_eq_some_iff.1 h
 simp [sizeOf, typeInfo, hi, hs]
theorem under8 : Tryz.prog.underlying 22 = some (.slice (Tryz.prog.elem 22)) := by
 have : Tryz.prog.elem 22 = 5 := by kernel_rfl
 rw [this]
 exact Tryz.underlying22
theorem zdq9 (w w0 : World) {ops : Array Oper} {rest : List Oper} {o : Oper} {a : Act} {Q : Exit -> Act -> World -> Prop} (hgd : o.guard = none) (x l : Operand)
  (ho : o.op = .slice 22 x (some l) none none) (v : Value) (xs : List Int) (hv : a.eval x = v) (hr : Rd .u8 w0 v xs) (m : Nat) (hl : a.eval l = .int .i64 (m : Int)) (hm : m <= xs.length)
  (h : ∀ v', Rd .u8 w0 v' (xs.drop m) -> wpList Tryz.prog ops Q rest (a.put o.dst v') w) : wpList Tryz.prog ops Q (o :: rest) a w := by
 obtain ⟨b, cap, hb, _⟩ := id hr
 rw [hb] at hr
 have h2 := zct9 hr m xs.length hm (Nat.le_refl _)
 rw [show (xs.drop m).take (xs.length - m) = xs.drop m by rw [List.take_of_length_le]; rw [List.length_drop]; omega] at h2
 refine wpList_plain hgd fun K hK => ?_
 have hrun : (Instr.sliceAt 22 (.slice b xs.length cap) (some (.int .i64 (m : Int))) none none).run Tryz.prog w = .ok (sliced b m xs.length cap 1) w := by
  rw [run_sliceAt_slice _ _ _ _ _ _ under8, run_slice_l _ _ _ _ _ under8 _ _ (by omega) (by omega), size8]
  simp [Result.andThen]
 unfold Oper.wp execOp
 simp only [ho, hv, hl, hb, Option.map_some, Option.map_none, Sem.run_bind, hrun, Result.andThen_ok]
 exact hK _ _ (h _ h2)
theorem zgh9 (w w0 : World) {ops : Array Oper} {rest : List Oper} {o : Oper} {a : Act} {Q : Exit -> Act -> World -> Prop} (hgd : o.guard = none) (x l : Operand)
  (ho : o.op = .slice 22 x none (some l) none) (v : Value) (xs : List Int) (hv : a.eval x = v) (hr : Rd .u8 w0 v xs) (m : Nat) (hl : a.eval l = .int .i64 (m : Int)) (hm : m <= xs.length)
  (h : ∀ v', Rd .u8 w0 v' (xs.take m) -> wpList Tryz.prog ops Q rest (a.put o.dst v') w) : wpList Tryz.prog ops Q (o :: rest) a w := by
 obtain ⟨b, cap, hb, hcap, _⟩ := id hr
 rw [hb] at hr
 have h2 := zct9 hr 0 m (Nat.zero_le _) hm
 rw [List.drop_zero, Nat.sub_zero] at h2
 refine wpList_plain hgd fun K hK => ?_
 have hrun : (Instr.sliceAt 22 (.slice b xs.length cap) none (some (.int .i64 (m : Int))) none).run Tryz.prog w = .ok (sliced b 0 m cap 1) w := by
  rw [run_sliceAt_slice _ _ _ _ _ _ under8, run_slice_h _ _ _ _ _ under8 _ _ (by omega) (by omega), size8]
  simp [Result.andThen]
 unfold Oper.wp execOp
 simp only [ho, hv, hl, hb, Option.map_some, Option.map_none, Sem.run_bind, hrun, Result.andThen_ok]
 exact hK _ _ (h _ h2)
theorem zom9 (w w0 : World) {ops : Array Oper} {rest : List Oper} {o : Oper} {a : Act} {Q : Exit -> Act -> World -> Prop} (hgd : o.guard = none) (x l q : Operand)
  (ho : o.op = .slice 22 x (some l) (some q) none) (v : Value) (xs : List Int) (hv : a.eval x = v) (hr : Rd .u8 w0 v xs) (p m : Nat) (hl : a.eval l = .int .i64 (p : Int)) (hq : a.eval q = .int .i64 ((p : Int) + (m : Int))) (hm : p + m <= xs.length)
  (h : ∀ v', Rd .u8 w0 v' ((xs.drop p).take m) -> wpList Tryz.prog ops Q rest (a.put o.dst v') w) : wpList Tryz.prog ops Q (o :: rest) a w := by
 obtain ⟨b, cap, hb, hcap, _⟩ := id hr
 rw [hb] at hr
 have h2 := zct9 hr p (p + m) (by omega) hm
 rw [show p + m - p = m by omega] at h2
 refine wpList_plain hgd fun K hK => ?_
 have hrun : (Instr.sliceAt 22 (.slice b xs.length cap) (some (.int .i64 (p : Int))) (some (.int .i64 ((p : Int) + (m : Int)))) none).run Tryz.prog w = .ok (sliced b p (p + m) cap 1) w := by
  rw [run_sliceAt_slice _ _ _ _ _ _ under8, run_slice_lh _ _ _ _ _ under8 _ _ _ _ (by omega) (by omega) (by omega), size8]
  have e : ((p : Int) + (m : Int)).toNat = p + m := by omega
  simp [Result.andThen, e]
 unfold Oper.wp execOp
 simp only [ho, hv, hl, hq, hb, Option.map_some, Option.map_none, Sem.run_bind, hrun, Result.andThen_ok]
 exact hK _ _ (h _ h2)
abbrev Sq := Int × Int × Int
def sq0 : Sq := (0, 0, 0)
def RdS (w : World) (v : Value) (ps : List Sq) : Prop :=
 ∃ a cap, v = .slice a ps.length cap /\ ps.length <= cap /\ cap <= maxLen ∧
  (ps = [] ∨ ∃ b o, a = some ⟨b, o, none⟩ /\ ∀ i, i < ps.length -> w.cell? ⟨b, o + i * 3, none⟩ = some (.int .i64 (ps.getD i sq0).1) /\ w.cell? ⟨b, o + i * 3 + 1, none⟩ = some (.int .i64 (ps.getD i sq0).2.1) /\ w.cell? ⟨b, o + i * 3 + 2, none⟩ = some (.int .i64 (ps.getD i sq0).2.2))
def scells (ps : List Sq) : List Value := ps.flatMap fun p => [Value.int .i64 p.1, Value.int .i64 p.2.1, Value.int .i64 p.2.2]
theorem zdx9 (ps : List Sq) : (scells ps).length = ps.length * 3 := by
 induction ps with
 | nil => rfl
 | cons p ps ih => simp only [scells, List.flatMap_cons, List.length_append, List.length_cons, List.length_nil] at *; omega
theorem zhx9 (ps qs : List Sq) : scells (ps ++ qs) = scells ps ++ scells qs := by simp [scells]
theorem zho9 (ps : List Sq) (i : Nat) (h : i < ps.length) : (scells ps)[i * 3]? = some (.int .i64 (ps.getD i sq0).1) /\ (scells ps)[i * 3 + 1]? = some (.int .i64 (ps.getD i sq0).2.1) /\ (scells ps)[i * 3 + 2]? = some (.int .i64 (ps.getD i sq0).2.2) := by
 induction ps generalizing i with
 | nil => simp at h
 | cons p ps ih =>
  have e : scells (p :: ps) = [Value.int .i64 p.1, Value.int .i64 p.2.1, Value.int .i64 p.2.2] ++ scells ps := by simp [scells]
  rw [e]
  cases i with
  | zero => exact ⟨rfl, rfl, rfl⟩
  | succ i =>
   have := ih i (by simpa using h)
   rw [show (i + 1) * 3 = i * 3 + 3 by omega]
   simp only [List.getD_cons_succ]
   exact ⟨by simpa using this.1, by simpa using this.2.1, by simpa using this.2.2⟩
def OwnsS (w : World) (v : Value) (ps : List Sq) : Prop := w.ownsRow 0 55 3 v ps.length (scells ps)
theorem zgy9 (w : World) : OwnsS w (.slice none 0 0) [] := World.ownsRow_nil _ _ _ _
theorem OwnsS.rd {w : World} {v : Value} {ps : List Sq} (h : OwnsS w v ps) : RdS w v ps := by
 have h' : w.ownsRow 0 55 3 v ps.length (scells ps) := h
 rcases h'.2 with ⟨rfl, h0⟩ | ⟨g, cap, cur, rfl, _, hg, hnc, hcm, _⟩
 ·have hx : ps = [] := List.eq_nil_of_length_eq_zero h0
  subst hx
  exact ⟨none, 0, rfl, Nat.le_refl _, by unfold maxLen; omega, .inl rfl⟩
 ·refine ⟨some ⟨g, 0, none⟩, cap, rfl, hnc, hcm, .inr ⟨g, 0, rfl, fun i hi => ?_⟩⟩
  have := zho9 ps i hi
  rw [Nat.zero_add, h'.cellAt (i * 3) (by omega), h'.cellAt (i * 3 + 1) (by omega), h'.cellAt (i * 3 + 2) (by omega)]
  exact this
theorem OwnsS.tch {S : Nat -> Prop} {w w' : World} {v : Value} {ps : List Sq} (h : OwnsS w v ps) (ht : Tch S w w') (hn : ∀ j, v.ownBlock = some j -> ¬ S j) : OwnsS w' v ps := ht.owns h hn
theorem OwnsS.below {w w' : World} {v : Value} {ps : List Sq} (h : OwnsS w v ps) (hb : Below w.heap.size w w') : OwnsS w' v ps :=
 h.tch (S := fun _ => False) (Tch.of_below hb) (fun _ _ e => e)
theorem zv9 {w : World} {e : TypeId} {size : Nat} {v : Value} {n : Nat} {xs : List Value} (h : w.ownsRow 0 e size v n xs) {k : Nat} (hk : v.ownBlock = some k) : ∃ cur, w.heap[k]? = some (.cells cur e (0, 0)) := by
 rcases h.2 with ⟨rfl, _⟩ | ⟨g, cap, cur, rfl, _, hg, _⟩
 ·cases hk
 ·simp only [Value.ownBlock, Option.some.injEq] at hk
  subst hk
  exact ⟨cur, hg⟩
theorem OwnsS.ne_blk {w : World} {v : Value} {ps : List Sq} {b : Nat} {cs : Array Value} {t : TypeId} (h : OwnsS w v ps) (hb : w.heap[b]? = some (.cells cs t (0, 0))) (ht : t ≠ 55) {k : Nat} (hk : v.ownBlock = some k) : k ≠ b := by
 intro e
 subst e
 obtain ⟨c1, h1⟩ := zv9 (w := w) h hk
 rw [h1] at hb
 simp at hb
 exact ht hb.2.symm
theorem infoS : (Tryz.prog.info? 55).map (fun i => (i.zero, i.size, i.bytes)) = some (some (.agg #[.int .i64 0, .int .i64 0, .int .i64 0]), 3, 24) := by kernel_rfl
theorem zeg9 (w : World) {ops : Array Oper} {rest : List Oper} {o : Oper} {a : Act} {Q : Exit -> Act -> World -> Prop} (hgd : o.guard = none) (s x : Operand)
  (ho : o.op = .call { callee := .builtin .append, args := #[s, x], argTypes := #[39, 39] })
  (v : Value) (ps : List Sq) (hs : a.eval s = v) (hown : OwnsS w v ps) (p : Sq) (hx : a.eval x = .slice (some ⟨w.heap.size, 0, none⟩) 1 1)
  (hbytes : (ps.length + 1) * 24 <= 140737488355328)
  (h : ∀ v' w', OwnsS w' v' (ps ++ [p]) -> Grew w w' v v' -> wpList Tryz.prog ops Q rest (a.put o.dst v') w') : wpList Tryz.prog ops Q (o :: rest) a (w.alloc (.cells #[.int .i64 p.1, .int .i64 p.2.1, .int .i64 p.2.2] 55)) := by
 obtain ⟨i0, hi, hz0, hz1, hz2⟩ := info_parts infoS
 refine wpList_append_own_at (w.alloc (.cells #[.int .i64 p.1, .int .i64 p.2.1, .int .i64 p.2.2] 55)) hgd s x 39 ho 0 55 i0 _ 3 24 Tryz.underlying39 hi hz0 hz1 hz2 rfl (by decide) v ps.length (scells ps) hs (World.ownsRow.alloc hown _)
  ⟨w.heap.size, 0, none⟩ 1 1 [.int .i64 p.1, .int .i64 p.2.1, .int .i64 p.2.2] hx rfl ?_ ?_ (by unfold maxLen; omega) hbytes (Nat.zero_le _) ?_
 ·intro j u hj
  match j, hj with
  | 0, hj => simp at hj; subst hj; simp [Addr.add]
  | 1, hj => simp at hj; subst hj; simp [Addr.add]
  | 2, hj => simp at hj; subst hj; simp [Addr.add]
 ·intro u hu
  simp at hu
  rcases hu with rfl | rfl | rfl <;> rfl
 ·intro v' w' h2 h3 _ h5
  refine h v' w' ?_ ⟨Tch.grown ((Tch.refl _ w).alloc _) h3 (fun _ _ e => e), fun k hk => ?_⟩
  ·unfold OwnsS
   rw [zhx9]
   simpa [scells] using h2
  ·rcases h5 with e | e
   ·exact .inl (by rw [<- e]; exact hk)
   ·rw [hk] at e
    simp at e
    exact .inr (by omega)
end Go.Proofs.YtobenjkacpipeaaGreat
