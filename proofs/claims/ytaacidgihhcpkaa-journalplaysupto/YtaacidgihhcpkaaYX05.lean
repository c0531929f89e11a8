import Derived.Test.YtaacidgihhcpkaaYX04
import Derived.Great.BuildSlice
/-
  Rows of slices' values.
-/
namespace Go.Proofs.Ytaacidgihhcpkaa
open Go.RowKit
set_option linter.unusedVariables false
set_option linter.unusedSimpArgs false
set_option maxRecDepth 100000

theorem info_41 : (Try.prog.info? 36).map (fun i => (i.zero, i.size, i.bytes)) = some (some (.slice none 0 0), 1, 24) := by kernel_rfl

/-- Is it a slice's value? -/
def IsSl (v : Value) : Prop := ∃ a n c, v = .slice a n c
theorem Owns.isSl {k : IntKind} {e : TypeId} {w : World} {v : Value} {xs : List Int} (h : Owns k e w v xs) : IsSl v := by
  obtain ⟨a, c, e, _⟩ := h.rd
  exact ⟨a, _, c, e⟩
theorem IsSl.one {v : Value} (h : IsSl v) : v.oneCell' = true := by obtain ⟨a, n, c, rfl⟩ := h; rfl

theorem vshape {w : World} {v : Value} {n : Nat} {xs : List Value} (h : w.ownsRow 0 36 1 v n xs) (h0 : n ≠ 0) : ∃ g m cap, v = .slice (some ⟨g, 0, none⟩) m cap := by
  rcases h.2 with ⟨_, e⟩ | ⟨g, cap, cur, e, _⟩
  · exact absurd e h0
  · exact ⟨g, _, cap, e⟩

section
variable {o : Oper} {a : Act} {w : World} {K : Act → World → Prop} {Q : Exit → Act → World → Prop}
theorem step_buildV (x : Operand) (ho : o.op = Op.buildSlice 46 1 #[(0, x)]) (v : Value) (hx : a.eval x = v) (hv : IsSl v)
    (h : K (a.put o.dst (.slice (some ⟨w.heap.size, 0, none⟩) 1 1)) (w.alloc (.cells #[v] 36))) : Oper.wp Try.prog o a w K Q := by
  obtain ⟨sa, sn, sc, rfl⟩ := hv
  have hrun : (Instr.buildSlice 46 1 #[(0, .slice sa sn sc)]).run Try.prog w = .ok (.slice (some ⟨w.heap.size, 0, none⟩) 1 1) (w.alloc (.cells #[.slice sa sn sc] 36)) := by
    obtain ⟨j0, hj, hy0, hy1, hy2⟩ := info_parts info_41
    refine run_buildSlice w _ 36 1 _ _ j0 _ Try.underlying46 hj hy0 (by rw [hy1]; decide) (by rw [hy1]; decide) ?_
    rw [hy1]
    exact Go.Great.fill_flat [.slice sa sn sc] _ (fun v hv => by simp at hv; subst hv; rfl) (by simp)
  unfold Oper.wp
  simp [execOp, ho, hx, hrun, Result.andThen]
  exact h

theorem step_appV (s x : Operand) (ho : o.op = .call { callee := .builtin .append, args := #[s, x], argTypes := #[46, 46] }) (v : Value) (xs : List Value) (hs : a.eval s = v) (hown : w.ownsRow 0 36 1 v xs.length xs)
    (g0 : Nat) (u : Value) (hx : a.eval x = .slice (some ⟨g0, 0, none⟩) 1 1) (hu : IsSl u) (hc : w.cell? ⟨g0, 0, none⟩ = some u) (hl : xs.length + 1 ≤ 2000000000000)
    (h : ∀ v' w', w'.ownsRow 0 36 1 v' (xs ++ [u]).length (xs ++ [u]) → w.grownBy w' v.ownBlock → (∀ k, v'.ownBlock = some k → v.ownBlock = some k ∨ w.heap.size ≤ k) → K (a.put o.dst v') w') : Oper.wp Try.prog o a w K Q := by
  obtain ⟨j0, hj, hy0, hy1, hy2⟩ := info_parts info_41
  have hsrc : Src w (.slice (some ⟨g0, 0, none⟩) 1 1) [u] := by
    refine ⟨_, 1, rfl, fun y hy => by simp at hy; subst hy; exact hu.one, (fun e => by cases e), fun ad ha j y hy => ?_⟩
    obtain rfl := Option.some.inj ha
    match j, hy with
    | 0, hy => simp at hy; subst hy; simpa [Addr.add] using hc
  obtain ⟨v', w', hr, h2, h3, h4⟩ := run_app (P := Try.prog) w 46 o.type 36 j0 _ 24 Try.underlying46 hj hy0 hy1 hy2 rfl v xs hown _ [u] hsrc (by unfold maxLen; simp; omega) (by simp; omega)
  unfold Oper.wp
  simp [execOp, ho, resolve, invoke, builtin, hs, hx, hr, Result.andThen]
  exact h v' w' h2 h3 h4

end

/-- 'append(v, u)': a row's value. -/
theorem wpList_appV (w : World) {ops : Array Oper} {rest : List Oper} {o : Oper} {a : Act} {Q : Exit → Act → World → Prop} (hgd : o.guard = none) (s x : Operand)
    (ho : o.op = .call { callee := .builtin .append, args := #[s, x], argTypes := #[46, 46] }) (v : Value) (xs : List Value) (hs : a.eval s = v) (hown : w.ownsRow 0 36 1 v xs.length xs)
    (g0 : Nat) (u : Value) (hx : a.eval x = .slice (some ⟨g0, 0, none⟩) 1 1) (hu : IsSl u) (hc : w.cell? ⟨g0, 0, none⟩ = some u) (hl : xs.length + 1 ≤ 2000000000000)
    (h : ∀ v' w', w'.ownsRow 0 36 1 v' (xs ++ [u]).length (xs ++ [u]) → w.grownBy w' v.ownBlock → (∀ k, v'.ownBlock = some k → v.ownBlock = some k ∨ w.heap.size ≤ k) → wpList Try.prog ops Q rest (a.put o.dst v') w') : wpList Try.prog ops Q (o :: rest) a w := by
  obtain ⟨j0, hj, hy0, hy1, hy2⟩ := info_parts info_41
  have hsrc : Src w (.slice (some ⟨g0, 0, none⟩) 1 1) [u] := by
    refine ⟨_, 1, rfl, fun y hy => by simp at hy; subst hy; exact hu.one, (fun e => by cases e), fun ad ha j y hy => ?_⟩
    obtain rfl := Option.some.inj ha
    match j, hy with
    | 0, hy => simp at hy; subst hy; simpa [Addr.add] using hc
  refine wpList_app w hgd s x 46 ho 36 j0 _ 24 Try.underlying46 hj hy0 hy1 hy2 rfl v xs hs hown _ [u] hx hsrc (by unfold maxLen; simp; omega) (by simp; omega) ?_
  intro v' w' h2 h3 h4
  exact h v' w' h2 h3 h4

end Go.Proofs.Ytaacidgihhcpkaa
/-
  Rows of rows of bytes: read, owned, appended to.
-/
namespace Go.Proofs.Ytaacidgihhcpkaa
open Go.RowKit
set_option linter.unusedVariables false
set_option linter.unusedSimpArgs false
set_option maxRecDepth 100000

/-- The slice v reads as these rows. -/
def RdL (w : World) (v : Value) (rows : List (List Int)) : Prop :=
  ∃ a cap, v = .slice a rows.length cap ∧ rows.length ≤ cap ∧ cap ≤ maxLen ∧ (rows = [] ∨ ∃ b o, a = some ⟨b, o, none⟩ ∧ ∀ i, i < rows.length → ∃ u, w.cell? ⟨b, o + i, none⟩ = some u ∧ Rd .u8 w u (rows.getD i []))
/-- The slice v is a row of its own and holds these rows, whose blocks are in E. -/
def OwL (E : Nat → Prop) (w : World) (v : Value) (rows : List (List Int)) : Prop :=
  ∃ us : List Value, us.length = rows.length ∧ w.ownsRow 0 36 1 v us.length us ∧ ∀ i u, us[i]? = some u → Rd .u8 w u (rows.getD i []) ∧ ∀ k, u.ownBlock = some k → rows.getD i [] ≠ [] → E k ∧ k < w.heap.size ∧ v.ownBlock ≠ some k

theorem Rd.tch0 {S : Nat → Prop} {k : IntKind} {w w' : World} {v : Value} {xs : List Int} (h : Rd k w v xs) (ht : Tch S w w') (hn : ∀ b, v.ownBlock = some b → xs ≠ [] → ¬ S b) : Rd k w' v xs := by
  by_cases e : xs = []
  · subst e
    obtain ⟨a, c, rfl, h1, h2, h3, _⟩ := h
    exact ⟨a, c, rfl, h1, h2, h3, .inl rfl⟩
  · exact h.tch ht (fun b hb => hn b hb e)
theorem Rd.blk_lt {k : IntKind} {w : World} {v : Value} {xs : List Int} (h : Rd k w v xs) (h0 : xs ≠ []) {b : Nat} (hb : v.ownBlock = some b) : b < w.heap.size := by
  obtain ⟨a, c, rfl, h1, h2, h3, h4⟩ := h
  rcases h4 with e | ⟨b', o, rfl, hc⟩
  · exact absurd e h0
  · cases hb
    exact World.block_lt_of_cell? w ⟨b', o + 0, none⟩ (hc 0 (by cases xs with | nil => exact absurd rfl h0 | cons x r => simp))

theorem rd_upto {k : IntKind} {w : World} {a : Option Addr} {n cap : Nat} {xs : List Int} (h : Rd k w (.slice a n cap) xs) {m : Nat} (hm : m ≤ xs.length) : Rd k w (.slice a m cap) (xs.take m) := by
  obtain ⟨a', cap', e, h1, h2, h3, h4⟩ := h
  cases e
  have hl : (xs.take m).length = m := by rw [List.length_take]; omega
  refine ⟨a, cap, by rw [hl], by omega, h2, h3, ?_⟩
  rcases h4 with e | ⟨b, o, rfl, hc⟩
  · subst e; left; simp
  · refine .inr ⟨b, o, rfl, fun i hi => ?_⟩
    rw [hl] at hi
    rw [hc i (by omega), List.getD_eq_getElem?_getD, List.getD_eq_getElem?_getD, List.getElem?_take, if_pos hi]

section
variable {E : Nat → Prop} {w w' : World} {v : Value} {rows : List (List Int)}
theorem RdL.below (h : RdL w v rows) (hb : Below w.heap.size w w') : RdL w' v rows := by
  obtain ⟨a, cap, rfl, h1, h2, h3⟩ := h
  refine ⟨a, cap, rfl, h1, h2, ?_⟩
  rcases h3 with e | ⟨b, o, rfl, hc⟩
  · exact .inl e
  · refine .inr ⟨b, o, rfl, fun i hi => ?_⟩
    obtain ⟨u, c, r⟩ := hc i hi
    have hl := World.block_lt_of_cell? w ⟨b, o + i, none⟩ c
    exact ⟨u, by rw [(Tch.of_below (S := fun _ => False) hb).cell (p := ⟨b, o + i, none⟩) hl (fun e => e)]; exact c, r.below hb⟩
theorem rdL_nil (w : World) : RdL w (.slice none 0 0) [] := ⟨none, 0, rfl, Nat.le_refl _, by unfold maxLen; omega, .inl rfl⟩
theorem owL_nil (E : Nat → Prop) (w : World) : OwL E w (.slice none 0 0) [] := ⟨[], rfl, World.ownsRow_nil _ _ _ _, fun i u h => by simp at h⟩
theorem OwL.rd (h : OwL E w v rows) : RdL w v rows := by
  obtain ⟨us, hl, ho, he⟩ := h
  rcases ho.2 with ⟨rfl, h0⟩ | ⟨g, cap, cur, rfl, _, hg, hnc, hcm, _⟩
  · have hx : rows = [] := List.eq_nil_of_length_eq_zero (by omega)
    subst hx
    exact rdL_nil w
  · rw [hl]
    refine ⟨some ⟨g, 0, none⟩, cap, rfl, by omega, hcm, .inr ⟨g, 0, rfl, fun i hi => ?_⟩⟩
    obtain ⟨u, hu⟩ : ∃ u, us[i]? = some u := ⟨_, List.getElem?_eq_getElem (by omega)⟩
    exact ⟨u, by rw [Nat.zero_add, ho.cellAt i (by omega)]; exact hu, (he i u hu).1⟩
theorem OwL.len (h : OwL E w v rows) : ∃ a cap, v = .slice a rows.length cap ∧ rows.length ≤ cap ∧ cap ≤ maxLen := by
  obtain ⟨a, cap, e, h1, h2, _⟩ := h.rd
  exact ⟨a, cap, e, h1, h2⟩
theorem OwL.lt (h : OwL E w v rows) : ∀ j, v.ownBlock = some j → j < w.heap.size := by
  obtain ⟨us, hl, ho, he⟩ := h
  exact fun j hj => (World.ownsRow.lt ho j hj).2
theorem OwL.tch {S : Nat → Prop} (h : OwL E w v rows) (ht : Tch S w w') (hv : ∀ j, v.ownBlock = some j → ¬ S j) (hE : ∀ k, E k → k < w.heap.size → ¬ S k) : OwL E w' v rows := by
  obtain ⟨us, hl, ho, he⟩ := h
  refine ⟨us, hl, ht.owns ho hv, fun i u hu => ?_⟩
  obtain ⟨h1, h2⟩ := he i u hu
  exact ⟨h1.tch0 ht (fun k hk h0 => hE k (h2 k hk h0).1 (h2 k hk h0).2.1), fun k hk h0 => ⟨(h2 k hk h0).1, Nat.lt_of_lt_of_le (h2 k hk h0).2.1 ht.size, (h2 k hk h0).2.2⟩⟩
theorem OwL.below (h : OwL E w v rows) (hb : Below w.heap.size w w') : OwL E w' v rows := h.tch (S := fun _ => False) (Tch.of_below hb) (fun _ _ e => e) (fun _ _ _ e => e)
theorem RdL.take (h : RdL w v rows) {a : Option Addr} {n cap : Nat} (hv : v = .slice a n cap) {m : Nat} (hm : m ≤ rows.length) : RdL w (.slice a m cap) (rows.take m) := by
  obtain ⟨a', cap', e, h1, h2, h3⟩ := h
  rw [hv] at e
  cases e
  have hl : (rows.take m).length = m := by rw [List.length_take]; omega
  refine ⟨a, cap, by rw [hl], by omega, h2, ?_⟩
  rcases h3 with e | ⟨b, o, rfl, hc⟩
  · subst e; left; simp
  · refine .inr ⟨b, o, rfl, fun i hi => ?_⟩
    rw [hl] at hi
    obtain ⟨u, c, r⟩ := hc i (by omega)
    refine ⟨u, c, ?_⟩
    rw [List.getD_eq_getElem?_getD, List.getElem?_take, if_pos hi, ← List.getD_eq_getElem?_getD]
    exact r
end

/-- 'append(v, u)': one row, whose value lies in a block of its own first. -/
theorem wpList_pushL {E : Nat → Prop} (w : World) {ops : Array Oper} {rest : List Oper} {o : Oper} {a : Act} {Q : Exit → Act → World → Prop} (hgd : o.guard = none) (s x : Operand)
    (ho : o.op = .call { callee := .builtin .append, args := #[s, x], argTypes := #[46, 46] }) (v : Value) (rows : List (List Int)) (hs : a.eval s = v) (hown : OwL E w v rows)
    (u : Value) (ys : List Int) (hu : Rd .u8 w u ys) (hE : ∀ k, u.ownBlock = some k → ys ≠ [] → E k ∧ k < w.heap.size ∧ v.ownBlock ≠ some k) (hx : a.eval x = .slice (some ⟨w.heap.size, 0, none⟩) 1 1) (hl : rows.length + 1 ≤ 2000000000000)
    (h : ∀ v' w', OwL E w' v' (rows ++ [ys]) → Grew w w' v v' → wpList Try.prog ops Q rest (a.put o.dst v') w') : wpList Try.prog ops Q (o :: rest) a (w.alloc (.cells #[u] 36)) := by
  obtain ⟨us, hlen, how, he⟩ := hown
  have hus : IsSl u := by obtain ⟨p, c, e, _⟩ := hu; exact ⟨p, _, c, e⟩
  have hcell : (w.alloc (.cells #[u] 36)).cell? ⟨w.heap.size, 0, none⟩ = some u := by
    rw [cell_of_row _ w.heap.size 0 _ _ (0, 0) (heap_alloc_new w _)]
    rfl
  refine wpList_appV (w.alloc (.cells #[u] 36)) hgd s x ho v us hs (how.alloc _) w.heap.size u hx hus hcell (by omega) ?_
  intro v' w' h2 h3 h4
  have t1 : Tch (fun k => v.ownBlock = some k) w w' := Tch.grown ((Tch.refl _ w).alloc _) h3 (fun _ _ e => e)
  have h4' : ∀ k, v'.ownBlock = some k → v.ownBlock = some k ∨ w.heap.size ≤ k := fun k hk => by
    rcases h4 k hk with e | e
    · exact .inl e
    · exact .inr (by simp at e; omega)
  have ne : ∀ k, k < w.heap.size → v.ownBlock ≠ some k → v'.ownBlock ≠ some k := fun k hk hn e => by
    rcases h4' k e with e | e
    · exact hn e
    · omega
  refine h v' w' ⟨us ++ [u], by simp [hlen], by simpa using h2, fun i z hz => ?_⟩ ⟨t1, h4'⟩
  by_cases hi : i < us.length
  · rw [List.getElem?_append_left hi] at hz
    obtain ⟨r, q⟩ := he i z hz
    have eg : (rows ++ [ys]).getD i [] = rows.getD i [] := by rw [List.getD_eq_getElem?_getD, List.getElem?_append_left (by omega), ← List.getD_eq_getElem?_getD]
    rw [eg]
    exact ⟨r.tch0 t1 (fun k hk h0 => (q k hk h0).2.2), fun k hk h0 => ⟨(q k hk h0).1, Nat.lt_of_lt_of_le (q k hk h0).2.1 t1.size, ne k (q k hk h0).2.1 (q k hk h0).2.2⟩⟩
  · have hi2 : i = us.length := by
      have := (List.getElem?_eq_some_iff.1 hz).1
      simp at this
      omega
    subst hi2
    simp at hz
    subst hz
    have eg : (rows ++ [ys]).getD us.length [] = ys := by rw [List.getD_eq_getElem?_getD, hlen, List.getElem?_append_right (Nat.le_refl _), Nat.sub_self]; rfl
    rw [eg]
    exact ⟨hu.tch0 t1 (fun k hk h0 => (hE k hk h0).2.2), fun k hk h0 => ⟨(hE k hk h0).1, Nat.lt_of_lt_of_le (hE k hk h0).2.1 t1.size, ne k (hE k hk h0).2.1 (hE k hk h0).2.2⟩⟩
end Go.Proofs.Ytaacidgihhcpkaa
