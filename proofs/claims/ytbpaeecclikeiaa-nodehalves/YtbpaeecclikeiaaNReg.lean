/-
  Rows of texts and of numbers that are new since some world; what stands in regions that draw their order.
-/
import Derived.Test.YtbpaeecclikeiaaNBlk
import Derived.Test.YtbpaeecclikeiaaDRegT
import Derived.Great.BuildSlice
namespace Go.Proofs.Ytbpaeecclikeiaa
open Go.RowKit Pl
set_option linter.unusedVariables false

/-- The slice v is a row of its own, no older than B, and holds the values cs. -/
def OwV (B : Nat) (e : TypeId) (w : World) (v : Value) (cs : List Value) : Prop := w.ownsRow B e 1 v cs.length cs
section
variable {B : Nat} {e : TypeId} {w w' : World} {v : Value} {cs : List Value}
theorem owV_nil (B : Nat) (e : TypeId) (w : World) : OwV B e w (.slice none 0 0) [] := World.ownsRow_nil _ _ _ _
theorem OwV.owns (h : OwV B e w v cs) : OwnsV e w v cs := by
  refine ⟨h.1, ?_⟩
  rcases h.2 with h0 | ⟨g, cap, cur, rfl, hb, rest⟩
  · exact .inl h0
  · exact .inr ⟨g, cap, cur, rfl, Nat.zero_le _, rest⟩
theorem OwV.rd (h : OwV B e w v cs) : RdV w v cs := h.owns.rd
theorem OwV.ge (h : OwV B e w v cs) : ∀ j, v.ownBlock = some j → B ≤ j := fun j hj => (World.ownsRow.lt h j hj).1
theorem OwV.tch {S : Nat → Prop} (h : OwV B e w v cs) (ht : Tch S w w') (hn : ∀ j, v.ownBlock = some j → ¬ S j) : OwV B e w' v cs := by
  refine ⟨h.1, ?_⟩
  rcases h.2 with h0 | ⟨g, cap, cur, rfl, hb, hg, rest⟩
  · exact .inl h0
  · refine .inr ⟨g, cap, cur, rfl, hb, ?_, rest⟩
    rw [ht.block g (Array.getElem?_eq_some_iff.1 hg).1 (hn g rfl)]
    exact hg
theorem OwV.below (h : OwV B e w v cs) (hb : Below w.heap.size w w') : OwV B e w' v cs := h.tch (S := fun _ => False) (Tch.of_below hb) (fun _ _ e => e)
theorem OwV.long (h : OwV B e w v cs) : ∃ a cap, v = .slice a cs.length cap := h.rd.long
theorem OwV.ne (h : OwV B e w v cs) {b : Nat} {C : Array Value} {T : TypeId} (hb : w.heap[b]? = some (.cells C T (0, 0))) (hT : e ≠ T) : v.ownBlock ≠ some b := h.owns.ne hb hT
theorem Gb.belowV (h : Gb B w w' v) (ho : OwV B e w v cs) (hB : B ≤ w.heap.size) : Below B w w' := h.tch.below hB (fun k e => ho.ge k e)
/-- Two rows of different types share no block. -/
theorem OwV.apart {e2 : TypeId} {v2 : Value} {cs2 : List Value} {B2 : Nat} (h : OwV B e w v cs) (h2 : OwV B2 e2 w v2 cs2) (hT : e ≠ e2) {j : Nat} (hj : v.ownBlock = some j) : v2.ownBlock ≠ some j := fun hj2 => by
  rcases h2.2 with ⟨rfl, _⟩ | ⟨g, cap, cur, rfl, _, hg, _⟩
  · cases hj2
  · simp only [Value.ownBlock, Option.some.injEq] at hj2
    subst hj2
    exact h.ne hg hT hj
end

section
variable {P : Program}
theorem OwV.of {B : Nat} {e : TypeId} {w : World} {v : Value} {cs : List Value} (h : w.ownsRow 0 e 1 v cs.length cs) (hg : ∀ j, v.ownBlock = some j → B ≤ j) : OwV B e w v cs := by
  refine ⟨h.1, ?_⟩
  rcases h.2 with h0 | ⟨g, cap, cur, rfl, hb, rest⟩
  · exact .inl h0
  · exact .inr ⟨g, cap, cur, rfl, hg g rfl, rest⟩
/-- What comes out lies where the row lay, or is new. -/
def Fsh (w : World) (v v' : Value) : Prop := ∀ k, v'.ownBlock = some k → v.ownBlock = some k ∨ w.heap.size ≤ k
theorem run_moreV (B : Nat) (w : World) (t e ty : TypeId) (z : Value) (bytes : Nat) (E : ElemV P t e z bytes) (v : Value) (xs : List Value) (hown : OwV B e w v xs) (g : Nat) (y : Value) (hy1 : y.oneCell' = true) (hg : w.cell? ⟨g, 0, none⟩ = some y)
    (h63 : xs.length + 1 ≤ 9223372036854775807) (hl : (xs.length + 1) * bytes ≤ 140737488355328) (hB : B ≤ w.heap.size) :
    ∃ v' w', (Builtin.append_ #[t, t] ty #[v, .slice (some ⟨g, 0, none⟩) 1 1]).run P w = .ok v' w' ∧ OwV B e w' v' (xs ++ [y]) ∧ Gb B w w' v ∧ Fsh w v v' := by
  obtain ⟨ht, ⟨i, hi, hz, h1, hb⟩, hone⟩ := E
  have hsrc : Src w (.slice (some ⟨g, 0, none⟩) 1 1) [y] := by
    refine ⟨_, 1, rfl, fun u hu => by simp at hu; subst hu; exact hy1, (fun e => by cases e), fun ad ha j u hu => ?_⟩
    obtain rfl := Option.some.inj ha
    match j, hu with
    | 0, hu => simp at hu; subst hu; simpa [Addr.add] using hg
  obtain ⟨v', w', hr, ho, hgr, hf⟩ := run_app (P := P) w t ty e i z bytes ht hi hz h1 hb hone v xs hown.owns _ [y] hsrc (by unfold maxLen; exact h63) hl
  refine ⟨v', w', hr, OwV.of ho (fun j hj => ?_), ⟨(Tch.refl _ w).grown hgr (fun _ _ e => e)⟩, hf⟩
  rcases hf j hj with e | e
  · exact hown.ge j e
  · omega
theorem run_buildV (w : World) (t e : TypeId) (z : Value) (bytes : Nat) (E : ElemV P t e z bytes) (v : Value) (hv : v.cells = #[v]) :
    (Instr.buildSlice t 1 #[(0, v)]).run P w = .ok (.slice (some ⟨w.heap.size, 0, none⟩) 1 1) (w.alloc (.cells #[v] e)) := by
  obtain ⟨ht, ⟨i, hi, hzz, h1, hb⟩, hone⟩ := E
  refine run_buildSlice w _ e 1 _ _ i _ ht hi hzz (by rw [h1]; decide) (by rw [h1]; decide) ?_
  rw [h1]
  exact Go.Great.fill_flat [v] _ (fun u hu => by simp at hu; subst hu; exact hv) (by simp)

variable {o : Oper} {a : Act} {w : World} {K : Act → World → Prop} {Q : Exit → Act → World → Prop}
theorem wp_buildV (t e : TypeId) (z : Value) (bytes : Nat) (E : ElemV P t e z bytes) (x : Operand) (ho : o.op = Op.buildSlice t 1 #[(0, x)]) (v : Value) (hx : a.eval x = v) (hv : v.cells = #[v])
    (h : K (a.put o.dst (.slice (some ⟨w.heap.size, 0, none⟩) 1 1)) (w.alloc (.cells #[v] e))) : Oper.wp P o a w K Q := by
  have hrun := run_buildV w t e z bytes E v hv
  unfold Oper.wp
  simp [execOp, ho, hx, hrun, Result.andThen]
  exact h
theorem wp_moreV (t e : TypeId) (z : Value) (bytes : Nat) (E : ElemV P t e z bytes) (s x : Operand) (ho : o.op = .call { callee := .builtin .append, args := #[s, x], argTypes := #[t, t] })
    (B : Nat) (v : Value) (xs : List Value) (hs : a.eval s = v) (hown : OwV B e w v xs) (g : Nat) (y : Value) (hx : a.eval x = .slice (some ⟨g, 0, none⟩) 1 1) (hy1 : y.oneCell' = true) (hg : w.cell? ⟨g, 0, none⟩ = some y)
    (h63 : xs.length + 1 ≤ 9223372036854775807) (hl : (xs.length + 1) * bytes ≤ 140737488355328) (hB : B ≤ w.heap.size)
    (h : ∀ v' w', OwV B e w' v' (xs ++ [y]) → Gb B w w' v → Fsh w v v' → K (a.put o.dst v') w') : Oper.wp P o a w K Q := by
  obtain ⟨v', w', hr, h2, h3, h4⟩ := run_moreV B w t e o.type z bytes E v xs hown g y hy1 hg h63 hl hB
  unfold Oper.wp
  simp [execOp, ho, resolve, invoke, builtin, hs, hx, hr, Result.andThen]
  exact h v' w' h2 h3 h4
theorem wpList_moreV (t e : TypeId) (z : Value) (bytes : Nat) (E : ElemV P t e z bytes) (w : World) {ops : Array Oper} {rest : List Oper} (hgd : o.guard = none) (s x : Operand) (ho : o.op = .call { callee := .builtin .append, args := #[s, x], argTypes := #[t, t] })
    (B : Nat) (v : Value) (xs : List Value) (hs : a.eval s = v) (hown : OwV B e w v xs) (g : Nat) (y : Value) (hx : a.eval x = .slice (some ⟨g, 0, none⟩) 1 1) (hy1 : y.oneCell' = true) (hg : w.cell? ⟨g, 0, none⟩ = some y)
    (h63 : xs.length + 1 ≤ 9223372036854775807) (hl : (xs.length + 1) * bytes ≤ 140737488355328) (hB : B ≤ w.heap.size)
    (h : ∀ v' w', OwV B e w' v' (xs ++ [y]) → Gb B w w' v → Fsh w v v' → wpList P ops Q rest (a.put o.dst v') w') : wpList P ops Q (o :: rest) a w := by
  obtain ⟨v', w', hr, h2, h3, h4⟩ := run_moreV B w t e o.type z bytes E v xs hown g y hy1 hg h63 hl hB
  refine wpList_plain hgd fun K hK => ?_
  unfold Oper.wp
  simp [execOp, ho, resolve, invoke, builtin, hs, hx, hr, Result.andThen]
  exact hK _ _ (h v' w' h2 h3 h4)
end
theorem elemB : ElemV Try.prog 32 5 (.int .u8 0) 1 := ⟨Try.underlying32, inf_u8, rfl⟩

section
variable {o : Oper} {a : Act} {w : World} {K : Act → World → Prop} {Q : Exit → Act → World → Prop}
theorem wp_moreB (s x : Operand) (ho : o.op = .call { callee := .builtin .append, args := #[s, x], argTypes := #[32, 32] })
    (B : Nat) (v : Value) (xs : List Int) (hs : a.eval s = v) (hown : OwB B w v xs) (g : Nat) (ys : List Int) (hx : a.eval x = .slice (some ⟨g, 0, none⟩) ys.length ys.length) (hg : ∀ j u, (ys.map (Value.int .u8))[j]? = some u → w.cell? ⟨g, j, none⟩ = some u)
    (hl : xs.length + ys.length ≤ 100000) (hB : B ≤ w.heap.size)
    (h : ∀ v' w', OwB B w' v' (xs ++ ys) → Gb B w w' v → K (a.put o.dst v') w') : Oper.wp Try.prog o a w K Q := by
  obtain ⟨v', w', hr, h2, h3⟩ := run_moreB B w o.type v xs hown g ys hg hl hB
  unfold Oper.wp
  simp [execOp, ho, resolve, invoke, builtin, hs, hx, hr, Result.andThen]
  exact h v' w' h2 h3
theorem wp_strB (s x : Operand) (ho : o.op = .call { callee := .builtin .append, args := #[s, x], argTypes := #[32, 9] })
    (B : Nat) (v : Value) (xs : List Int) (hs : a.eval s = v) (hown : OwB B w v xs) (st : ByteArray) (hx : a.eval x = .string st) (hl : xs.length + st.size ≤ 100000) (hB : B ≤ w.heap.size)
    (h : ∀ v' w', OwB B w' v' (xs ++ bts st) → Gb B w w' v → K (a.put o.dst v') w') : Oper.wp Try.prog o a w K Q := by
  obtain ⟨v', w', hr, h2, h3⟩ := run_strB B w o.type v xs hown st hl hB
  unfold Oper.wp
  simp [execOp, ho, resolve, invoke, builtin, hs, hx, hr, Result.andThen]
  exact h v' w' h2 h3
theorem wp_build2B (x y : Operand) (ho : o.op = Op.buildSlice 32 2 #[(0, x), (1, y)]) (p q : Int) (hx : a.eval x = .int .u8 p) (hy : a.eval y = .int .u8 q)
    (h : K (a.put o.dst (.slice (some ⟨w.heap.size, 0, none⟩) 2 2)) (w.alloc (.cells #[.int .u8 p, .int .u8 q] 5))) : Oper.wp Try.prog o a w K Q := by
  have hrun : (Instr.buildSlice 32 2 #[(0, .int .u8 p), (1, .int .u8 q)]).run Try.prog w = .ok (.slice (some ⟨w.heap.size, 0, none⟩) 2 2) (w.alloc (.cells #[.int .u8 p, .int .u8 q] 5)) := by
    obtain ⟨i, hi, hz, h1, hb⟩ := inf_u8
    refine run_buildSlice w _ 5 2 _ _ i _ Try.underlying32 hi hz (by rw [h1]; decide) (by rw [h1]; decide) ?_
    rw [h1]
    exact Go.Great.fill_flat [.int .u8 p, .int .u8 q] _ (fun u hu => by simp at hu; rcases hu with rfl | rfl <;> rfl) (by simp)
  unfold Oper.wp
  simp [execOp, ho, hx, hy, hrun, Result.andThen]
  exact h
theorem wp_storeB {x y : Operand} {p : Addr} {b : Option Addr} {l c : Nat} {u : Value} (ho : o.op = .store 32 x y) (hx : a.eval x = .pointer (some p)) (hy : a.eval y = .slice b l c) (hc : w.cell? p = some u) (hf : w.frozen? p = false)
    (h : K (a.put o.dst undef) (w.setCell p (.slice b l c))) : Oper.wp Try.prog o a w K Q := by
  have hrun : (Instr.storeAt 32 (.pointer (some p)) (.slice b l c)).run Try.prog w = .ok () (w.setCell p (.slice b l c)) := by
    go_simp
  unfold Oper.wp execOp
  simp only [ho, hx, hy, Sem.run_bind, Sem.run_pure, Result.andThen_ok, hrun]
  exact h
theorem wp_storeS {x y : Operand} {p : Addr} {b : Option Addr} {l c : Nat} {u : Value} (ho : o.op = .store 22 x y) (hx : a.eval x = .pointer (some p)) (hy : a.eval y = .slice b l c) (hc : w.cell? p = some u) (hf : w.frozen? p = false)
    (h : K (a.put o.dst undef) (w.setCell p (.slice b l c))) : Oper.wp Try.prog o a w K Q := by
  have hrun : (Instr.storeAt 22 (.pointer (some p)) (.slice b l c)).run Try.prog w = .ok () (w.setCell p (.slice b l c)) := by
    go_simp
  unfold Oper.wp execOp
  simp only [ho, hx, hy, Sem.run_bind, Sem.run_pure, Result.andThen_ok, hrun]
  exact h
theorem wp_storeI {x y : Operand} {p : Addr} {b : Option Addr} {l c : Nat} {u : Value} (ho : o.op = .store 23 x y) (hx : a.eval x = .pointer (some p)) (hy : a.eval y = .slice b l c) (hc : w.cell? p = some u) (hf : w.frozen? p = false)
    (h : K (a.put o.dst undef) (w.setCell p (.slice b l c))) : Oper.wp Try.prog o a w K Q := by
  have hrun : (Instr.storeAt 23 (.pointer (some p)) (.slice b l c)).run Try.prog w = .ok () (w.setCell p (.slice b l c)) := by
    go_simp
  unfold Oper.wp execOp
  simp only [ho, hx, hy, Sem.run_bind, Sem.run_pure, Result.andThen_ok, hrun]
  exact h
end
/-- A body that grew, and is laid into its variable. -/
theorem after_more {B : Nat} {cw cw' w6 : World} {q : Nat} {kd : Int} {v0 v6 : Value} {X Y : List Int} (hK : Kb cw q kd v0) (hb : Below cw.heap.size cw cw') (hO : OwB B cw v0 X) (hq : B ≤ q) (hB : B ≤ cw.heap.size) (g : Gb B cw' w6 v0) (o6 : OwB B w6 v6 Y) :
    Kb w6 q kd v0 ∧ Below B cw w6 ∧ Kb (w6.setCell ⟨q, 1, none⟩ v6) q kd v6 ∧ OwB B (w6.setCell ⟨q, 1, none⟩ v6) v6 Y ∧ Below B cw (w6.setCell ⟨q, 1, none⟩ v6) := by
  have k1 : Kb cw' q kd v0 := hK.below hb
  have o1 : OwB B cw' v0 X := hO.below hb
  have k2 : Kb w6 q kd v0 := k1.tch g.tch (fun e => o1.ne k1 (by decide) e)
  have b2 : Below B cw w6 := (hb.mono hB).trans (g.below o1 (Nat.le_trans hB hb.size))
  have t3 := tch_at w6 q 1 v6
  exact ⟨k2, b2, k2.s1 v6, o6.tch t3 (fun j hj e => o6.ne k2 (by decide) (by rw [hj, e])), b2.trans (t3.below (Nat.le_trans hB b2.size) (fun j e => by omega))⟩
theorem one_new (w : World) (v : Value) (e : TypeId) : (w.alloc (.cells #[v] e)).cell? ⟨w.heap.size, 0, none⟩ = some v := by
  rw [cell_of_row _ w.heap.size 0 _ _ (0, 0) (heap_alloc_new w _)]
  rfl
end Go.Proofs.Ytbpaeecclikeiaa
