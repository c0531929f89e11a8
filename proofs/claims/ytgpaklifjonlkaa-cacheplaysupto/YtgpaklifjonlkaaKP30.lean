import Derived.Test.YtgpaklifjonlkaaKP06
import Derived.Test.YtgpaklifjonlkaaKP08
import Derived.Test.YtgpaklifjonlkaaKP03
import Derived.Maps.AppendAt
/-
  Rows of blocks with their numbers: read, owned, appended to; found, left out, their numbers.
-/
namespace Go.Proofs.Ytgpaklifjonlkaa
open Go.RowKit
set_option linter.unusedVariables false
set_option linter.unusedSimpArgs false
set_option maxRecDepth 100000

structure Hd where
  n : Nat
  k : Int
  v : Value
def Slv (v : Value) : Prop := ∃ a m c, v = .slice a m c
theorem Slv.one {v : Value} (h : Slv v) : v.oneCell' = true := by obtain ⟨a, n, c, rfl⟩ := h; rfl
def hc3 (x : Hd) : List Value := [.int .i64 (x.n : Int), .int .i64 x.k, x.v]
def hcells (ps : List Hd) : List Value := ps.flatMap hc3
theorem hcells_length (ps : List Hd) : (hcells ps).length = ps.length * 3 := by
  induction ps with
  | nil => rfl
  | cons p ps ih => simp only [hcells, List.flatMap_cons, List.length_append, hc3, List.length_cons, List.length_nil] at *; omega
theorem hcells_append (ps qs : List Hd) : hcells (ps ++ qs) = hcells ps ++ hcells qs := by simp [hcells]
theorem hcells_get : ∀ (ps : List Hd) (i : Nat) (x : Hd), ps[i]? = some x → (hcells ps)[i * 3]? = some (.int .i64 (x.n : Int)) ∧ (hcells ps)[i * 3 + 1]? = some (.int .i64 x.k) ∧ (hcells ps)[i * 3 + 2]? = some x.v
  | [], i, x, h => by simp at h
  | p :: ps, 0, x, h => by
    simp at h
    subst h
    exact ⟨rfl, rfl, rfl⟩
  | p :: ps, i + 1, x, h => by
    have e : hcells (p :: ps) = hc3 p ++ hcells ps := rfl
    have := hcells_get ps i x (by simpa using h)
    rw [e, show (i + 1) * 3 = i * 3 + 3 by omega]
    exact ⟨by simpa [hc3] using this.1, by simpa [hc3] using this.2.1, by simpa [hc3] using this.2.2⟩
theorem hcells_one {ps : List Hd} (h : ∀ x, x ∈ ps → Slv x.v) : ∀ u ∈ hcells ps, u.oneCell' = true := fun u hu => by
  obtain ⟨x, hx, hu⟩ := List.mem_flatMap.1 hu
  simp only [hc3, List.mem_cons, List.not_mem_nil, or_false] at hu
  rcases hu with rfl | rfl | rfl
  · rfl
  · rfl
  · exact (h x hx).one

structure HCell (w : World) (b o : Nat) (x : Hd) : Prop where
  c0 : w.cell? ⟨b, o, none⟩ = some (.int .i64 (x.n : Int))
  c1 : w.cell? ⟨b, o + 1, none⟩ = some (.int .i64 x.k)
  c2 : w.cell? ⟨b, o + 2, none⟩ = some x.v
theorem HCell.tch {S : Nat → Prop} {w w' : World} {b o : Nat} {x : Hd} (h : HCell w b o x) (ht : Tch S w w') (hn : ¬ S b) : HCell w' b o x := by
  have hl := World.block_lt_of_cell? w ⟨b, o, none⟩ h.c0
  exact ⟨by rw [ht.cell (p := ⟨b, o, none⟩) hl hn]; exact h.c0, by rw [ht.cell (p := ⟨b, o + 1, none⟩) hl hn]; exact h.c1, by rw [ht.cell (p := ⟨b, o + 2, none⟩) hl hn]; exact h.c2⟩
/-- The slice v reads as these. -/
def RdH (w : World) (v : Value) (ps : List Hd) : Prop :=
  ∃ a cap, v = .slice a ps.length cap ∧ ps.length ≤ cap ∧ cap ≤ maxLen ∧ (a = none → cap = 0) ∧ (ps = [] ∨ ∃ b o, a = some ⟨b, o, none⟩ ∧ ∀ i x, ps[i]? = some x → HCell w b (o + i * 3) x)
theorem RdH.tch {S : Nat → Prop} {w w' : World} {v : Value} {ps : List Hd} (h : RdH w v ps) (ht : Tch S w w') (hn : ∀ b, v.ownBlock = some b → ps ≠ [] → ¬ S b) : RdH w' v ps := by
  obtain ⟨a, cap, rfl, hl, hm, h0, h⟩ := h
  refine ⟨a, cap, rfl, hl, hm, h0, ?_⟩
  rcases h with h | ⟨b, o, rfl, hc⟩
  · exact .inl h
  · by_cases e : ps = []
    · exact .inl e
    · exact .inr ⟨b, o, rfl, fun i x hx => (hc i x hx).tch ht (hn b rfl e)⟩
theorem RdH.below {w w' : World} {v : Value} {ps : List Hd} (h : RdH w v ps) (hb : Below w.heap.size w w') : RdH w' v ps := h.tch (S := fun _ => False) (Tch.of_below hb) (fun _ _ _ e => e)
theorem RdH.lt {w : World} {v : Value} {ps : List Hd} (h : RdH w v ps) (h0 : ps ≠ []) {b : Nat} (hb : v.ownBlock = some b) : b < w.heap.size := by
  obtain ⟨a, cap, rfl, _, _, _, h⟩ := h
  rcases h with e | ⟨b', o, rfl, hc⟩
  · exact absurd e h0
  · cases hb
    cases ps with
    | nil => exact absurd rfl h0
    | cons x r => exact World.block_lt_of_cell? w ⟨b', o + 0 * 3, none⟩ (hc 0 x rfl).c0
theorem rdH_nil (w : World) : RdH w (.slice none 0 0) [] := ⟨none, 0, rfl, Nat.le_refl _, by unfold maxLen; omega, fun _ => rfl, .inl rfl⟩
theorem RdH.at_ {w : World} {a : Option Addr} {n cap : Nat} {ps : List Hd} (h : RdH w (.slice a n cap) ps) {k : Nat} {x : Hd} (hk : ps[k]? = some x) : ∃ b o, a = some ⟨b, o, none⟩ ∧ HCell w b (o + k * 3) x := by
  obtain ⟨a', cap', e, _, _, _, hc⟩ := h
  cases e
  rcases hc with e | ⟨b, o, rfl, hc⟩
  · rw [e] at hk; simp at hk
  · exact ⟨b, o, rfl, hc k x hk⟩
theorem RdH.len {w : World} {v : Value} {ps : List Hd} (h : RdH w v ps) : ∃ a cap, v = .slice a ps.length cap ∧ ps.length ≤ cap ∧ cap ≤ 9223372036854775807 := by
  obtain ⟨a, cap, e, h1, h2, _⟩ := h
  unfold maxLen at h2
  exact ⟨a, cap, e, h1, h2⟩

/-- The slice v is a row of its own and holds these. -/
def OwnsH (w : World) (v : Value) (ps : List Hd) : Prop := w.ownsRow 0 85 3 v ps.length (hcells ps)
theorem ownsH_nil (w : World) : OwnsH w (.slice none 0 0) [] := World.ownsRow_nil _ _ _ _
theorem OwnsH.rd {w : World} {v : Value} {ps : List Hd} (h : OwnsH w v ps) : RdH w v ps := by
  have h' : w.ownsRow 0 85 3 v ps.length (hcells ps) := h
  rcases h'.2 with ⟨rfl, h0⟩ | ⟨g, cap, cur, rfl, _, hg, hnc, hcm, _⟩
  · have hx : ps = [] := List.eq_nil_of_length_eq_zero h0
    subst hx
    exact rdH_nil w
  · refine ⟨some ⟨g, 0, none⟩, cap, rfl, hnc, hcm, (fun e => by cases e), .inr ⟨g, 0, rfl, fun i x hi => ?_⟩⟩
    have hil := (List.getElem?_eq_some_iff.1 hi).1
    have := hcells_get ps i x hi
    exact ⟨by rw [Nat.zero_add, h'.cellAt (i * 3) (by omega)]; exact this.1, by rw [Nat.zero_add, h'.cellAt (i * 3 + 1) (by omega)]; exact this.2.1, by rw [Nat.zero_add, h'.cellAt (i * 3 + 2) (by omega)]; exact this.2.2⟩
theorem OwnsH.tch {S : Nat → Prop} {w w' : World} {v : Value} {ps : List Hd} (h : OwnsH w v ps) (ht : Tch S w w') (hn : ∀ j, v.ownBlock = some j → ¬ S j) : OwnsH w' v ps := ht.owns h hn
theorem OwnsH.below {w w' : World} {v : Value} {ps : List Hd} (h : OwnsH w v ps) (hb : Below w.heap.size w w') : OwnsH w' v ps := h.tch (S := fun _ => False) (Tch.of_below hb) (fun _ _ e => e)
theorem OwnsH.lt {w : World} {v : Value} {ps : List Hd} (h : OwnsH w v ps) : ∀ j, v.ownBlock = some j → j < w.heap.size := fun j hj => (World.ownsRow.lt h j hj).2
theorem infoH : (Try.prog.info? 85).map (fun i => (i.zero, i.size, i.bytes)) = some (some (.agg #[.int .i64 0, .int .i64 0, .slice none 0 0]), 3, 40) := by kernel_rfl

/-- 'append(v, x)': it lies in a block of its own first. -/
theorem wpList_pushH (w : World) {ops : Array Oper} {rest : List Oper} {o : Oper} {a : Act} {Q : Exit → Act → World → Prop} (hgd : o.guard = none) (s x : Operand)
    (ho : o.op = .call { callee := .builtin .append, args := #[s, x], argTypes := #[34, 34] })
    (v : Value) (ps : List Hd) (hs : a.eval s = v) (hown : OwnsH w v ps) (p : Hd) (hp : Slv p.v) (hx : a.eval x = .slice (some ⟨w.heap.size, 0, none⟩) 1 1)
    (hl : ps.length ≤ 100000)
    (h : ∀ v' w', OwnsH w' v' (ps ++ [p]) → Grew w w' v v' → wpList Try.prog ops Q rest (a.put o.dst v') w') : wpList Try.prog ops Q (o :: rest) a (w.alloc (.cells #[.int .i64 (p.n : Int), .int .i64 p.k, p.v] 85)) := by
  obtain ⟨i0, hi, hz0, hz1, hz2⟩ := info_parts infoH
  refine wpList_append_own_at (w.alloc (.cells #[.int .i64 (p.n : Int), .int .i64 p.k, p.v] 85)) hgd s x 34 ho 0 85 i0 _ 3 40 Try.underlying34 hi hz0 hz1 hz2 rfl (by decide) v ps.length (hcells ps) hs (World.ownsRow.alloc hown _)
    ⟨w.heap.size, 0, none⟩ 1 1 (hc3 p) hx rfl ?_ ?_ (by unfold maxLen; omega) (by omega) (Nat.zero_le _) ?_
  · intro j u hj
    match j, hj with
    | 0, hj => simp [hc3] at hj; subst hj; simp [Addr.add]
    | 1, hj => simp [hc3] at hj; subst hj; simp [Addr.add]
    | 2, hj => simp [hc3] at hj; subst hj; simp [Addr.add]
  · intro u hu
    simp only [hc3, List.mem_cons, List.not_mem_nil, or_false] at hu
    rcases hu with rfl | rfl | rfl
    · rfl
    · rfl
    · exact hp.one
  · intro v' w' h2 h3 _ h5
    refine h v' w' ?_ ⟨Tch.grown ((Tch.refl _ w).alloc _) h3 (fun _ _ e => e), fun k hk => ?_⟩
    · unfold OwnsH
      rw [hcells_append]
      simpa [hcells] using h2
    · rcases h5 with e | e
      · exact .inl (by rw [← e]; exact hk)
      · rw [hk] at e
        simp at e
        exact .inr (by omega)

/-- 'append(v, u...)'. -/
theorem wpList_manyH (w : World) {ops : Array Oper} {rest : List Oper} {o : Oper} {a : Act} {Q : Exit → Act → World → Prop} (hgd : o.guard = none) (s x : Operand)
    (ho : o.op = .call { callee := .builtin .append, args := #[s, x], argTypes := #[34, 34] })
    (v : Value) (ps : List Hd) (hs : a.eval s = v) (hown : OwnsH w v ps) (u : Value) (qs : List Hd) (hx : a.eval x = u) (hu : RdH w u qs) (hq : ∀ y, y ∈ qs → Slv y.v) (hl : ps.length + qs.length ≤ 100000)
    (h : ∀ v' w', OwnsH w' v' (ps ++ qs) → Grew w w' v v' → wpList Try.prog ops Q rest (a.put o.dst v') w') : wpList Try.prog ops Q (o :: rest) a w := by
  obtain ⟨i0, hi, hz0, hz1, hz2⟩ := info_parts infoH
  obtain ⟨ad, cap, rfl, h1, h2, h3, h4⟩ := hu
  cases ad with
  | none =>
    have := h3 rfl
    subst this
    have hq0 : qs = [] := List.eq_nil_of_length_eq_zero (by omega)
    subst hq0
    have hrun := run_append_owned_none (P := Try.prog) w 0 34 o.type 85 i0 3 Try.underlying34 hi v ps.length (hcells ps) hown
    refine wpList_plain hgd fun K hK => ?_
    unfold Oper.wp
    simp only [List.length_nil] at hx
    simp [execOp, ho, resolve, invoke, builtin, hs, hx, hrun, Result.andThen]
    exact hK _ _ (h v w (by simpa using hown) (Grew.refl _ _))
  | some ad =>
    refine wpList_append_own_at w hgd s x 34 ho 0 85 i0 _ 3 40 Try.underlying34 hi hz0 hz1 hz2 rfl (by decide) v ps.length (hcells ps) hs hown
      ad qs.length cap (hcells qs) hx (by rw [hcells_length]) ?_ (hcells_one hq) (by unfold maxLen; omega) (by omega) (Nat.zero_le _) ?_
    · intro j y hj
      have hjl : j < qs.length * 3 := by have := (List.getElem?_eq_some_iff.1 hj).1; rw [hcells_length] at this; exact this
      rcases h4 with e | ⟨b, o', e, hc⟩
      · rw [e] at hjl; simp at hjl
      · cases e
        have hq1 : j / 3 < qs.length := by omega
        obtain ⟨z, hz⟩ : ∃ z, qs[j / 3]? = some z := ⟨_, List.getElem?_eq_getElem hq1⟩
        have hcz := hc (j / 3) z hz
        have hg := hcells_get qs (j / 3) z hz
        have hm : j % 3 = 0 ∨ j % 3 = 1 ∨ j % 3 = 2 := by omega
        rw [Addr.add_lit]
        rcases hm with e | e | e
        · have ej : j = j / 3 * 3 := by omega
          rw [ej] at hj ⊢
          rw [hg.1] at hj
          cases hj
          exact hcz.c0
        · have ej : j = j / 3 * 3 + 1 := by omega
          rw [ej] at hj ⊢
          rw [hg.2.1] at hj
          cases hj
          exact hcz.c1
        · have ej : j = j / 3 * 3 + 2 := by omega
          rw [ej] at hj ⊢
          rw [hg.2.2] at hj
          cases hj
          exact hcz.c2
    · intro v' w' h2 h3 _ h5
      refine h v' w' ?_ ⟨(Tch.refl _ w).grown h3 (fun _ _ e => e), fun k hk => ?_⟩
      · unfold OwnsH
        rw [hcells_append, List.length_append]
        exact h2
      · rcases h5 with e | e
        · exact .inl (by rw [← e]; exact hk)
        · rw [hk] at e
          simp at e
          exact .inr (by omega)

theorem sizeHd (w : World) : (sizeOf (Try.prog.elem 34)).run Try.prog w = .ok 3 w := by
  have h : (Try.prog.info? (Try.prog.elem 34)).map (·.size) = some 3 := by kernel_rfl
  obtain ⟨i, hi, hs⟩ := Option.map_eq_some_iff.1 h
  simp [sizeOf, typeInfo, hi, hs]
theorem underHd : Try.prog.underlying 34 = some (.slice (Try.prog.elem 34)) := by
  have : Try.prog.elem 34 = 85 := by kernel_rfl
  rw [this]
  exact Try.underlying34
theorem rdH_sliced {w : World} {a : Option Addr} {cap : Nat} {ps : List Hd} (h : RdH w (.slice a ps.length cap) ps) (l : Nat) (hl : l ≤ ps.length) : RdH w (sliced a l ps.length cap 3) (ps.drop l) := by
  obtain ⟨a', cap', e, h1, h2, h3, h4⟩ := h
  cases e
  have el : (ps.drop l).length = ps.length - l := by rw [List.length_drop]
  unfold sliced
  by_cases hz : ps.length - l = 0
  · have hnil : ps.drop l = [] := List.drop_eq_nil_of_le (by omega)
    rw [hnil, hz]
    refine ⟨_, cap - l, rfl, Nat.zero_le _, by omega, fun e => ?_, .inl rfl⟩
    by_cases c : cap = l
    · omega
    · rw [if_neg c] at e
      have : a = none := by simpa using e
      have := h3 this
      omega
  · rcases h4 with rfl | ⟨b, o, rfl, hc⟩
    · simp at hz
    · rw [if_neg (by omega)]
      refine ⟨_, cap - l, by rw [el], by omega, by omega, fun e => (by cases e), .inr ⟨b, o + l * 3, ?_, fun i x hi => ?_⟩⟩
      · simp [Addr.add]
      · rw [List.getElem?_drop] at hi
        have := hc (l + i) x hi
        rw [show o + l * 3 + i * 3 = o + (l + i) * 3 by omega]
        exact this
/-- 'v[l:]' -/
theorem wpList_fromH (w w0 : World) {ops : Array Oper} {rest : List Oper} {o : Oper} {a : Act} {Q : Exit → Act → World → Prop} (hgd : o.guard = none) (x l : Operand)
    (ho : o.op = .slice 34 x (some l) none none) (v : Value) (ps : List Hd) (hv : a.eval x = v) (hr : RdH w0 v ps) (m : Nat) (hl : a.eval l = .int .i64 (m : Int)) (hm : m ≤ ps.length)
    (h : ∀ v', RdH w0 v' (ps.drop m) → (∀ k, v'.ownBlock = some k → v.ownBlock = some k) → wpList Try.prog ops Q rest (a.put o.dst v') w) : wpList Try.prog ops Q (o :: rest) a w := by
  obtain ⟨b, cap, hb, hcap, _⟩ := id hr
  rw [hb] at hr
  have h2 := rdH_sliced hr m hm
  refine wpList_plain hgd fun K hK => ?_
  have hrun : (Instr.sliceAt 34 (.slice b ps.length cap) (some (.int .i64 (m : Int))) none none).run Try.prog w = .ok (sliced b m ps.length cap 3) w := by
    rw [run_sliceAt_slice _ _ _ _ _ _ underHd, run_slice_l _ _ _ _ _ underHd _ _ (by omega) (by omega), sizeHd]
    simp [Result.andThen]
  unfold Oper.wp execOp
  simp only [ho, hv, hl, hb, Option.map_some, Option.map_none, Sem.run_bind, hrun, Result.andThen_ok]
  refine hK _ _ (h _ h2 (fun k hk => ?_))
  rw [hb]
  unfold sliced at hk
  cases b with
  | none => split at hk <;> cases hk
  | some ad =>
    split at hk
    · exact hk
    · simp only [Option.map_some, Value.ownBlock, Option.some.injEq, Addr.add] at hk ⊢
      split at hk
      · exact hk
      · exact hk
end Go.Proofs.Ytgpaklifjonlkaa
