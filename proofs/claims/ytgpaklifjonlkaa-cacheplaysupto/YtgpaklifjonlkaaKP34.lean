import Derived.Test.YtgpaklifjonlkaaKP10
import Derived.Great.BuildSlice
/-
  Rows of slices' values.
-/
namespace Go.Proofs.Ytgpaklifjonlkaa
open Go.RowKit
set_option linter.unusedVariables false
set_option linter.unusedSimpArgs false
set_option maxRecDepth 100000

theorem info_41 : (Try.prog.info? 38).map (fun i => (i.zero, i.size, i.bytes)) = some (some (.slice none 0 0), 1, 24) := by kernel_rfl

/-- Is it a slice's value? -/
def IsSl (v : Value) : Prop := ∃ a n c, v = .slice a n c
theorem Owns.isSl {k : IntKind} {e : TypeId} {w : World} {v : Value} {xs : List Int} (h : Owns k e w v xs) : IsSl v := by
  obtain ⟨a, c, e, _⟩ := h.rd
  exact ⟨a, _, c, e⟩
theorem IsSl.one {v : Value} (h : IsSl v) : v.oneCell' = true := by obtain ⟨a, n, c, rfl⟩ := h; rfl

theorem vshape {w : World} {v : Value} {n : Nat} {xs : List Value} (h : w.ownsRow 0 38 1 v n xs) (h0 : n ≠ 0) : ∃ g m cap, v = .slice (some ⟨g, 0, none⟩) m cap := by
  rcases h.2 with ⟨_, e⟩ | ⟨g, cap, cur, e, _⟩
  · exact absurd e h0
  · exact ⟨g, _, cap, e⟩

section
variable {o : Oper} {a : Act} {w : World} {K : Act → World → Prop} {Q : Exit → Act → World → Prop}
theorem step_buildV (x : Operand) (ho : o.op = Op.buildSlice 68 1 #[(0, x)]) (v : Value) (hx : a.eval x = v) (hv : IsSl v)
    (h : K (a.put o.dst (.slice (some ⟨w.heap.size, 0, none⟩) 1 1)) (w.alloc (.cells #[v] 38))) : Oper.wp Try.prog o a w K Q := by
  obtain ⟨sa, sn, sc, rfl⟩ := hv
  have hrun : (Instr.buildSlice 68 1 #[(0, .slice sa sn sc)]).run Try.prog w = .ok (.slice (some ⟨w.heap.size, 0, none⟩) 1 1) (w.alloc (.cells #[.slice sa sn sc] 38)) := by
    obtain ⟨j0, hj, hy0, hy1, hy2⟩ := info_parts info_41
    refine run_buildSlice w _ 38 1 _ _ j0 _ Try.underlying68 hj hy0 (by rw [hy1]; decide) (by rw [hy1]; decide) ?_
    rw [hy1]
    exact Go.Great.fill_flat [.slice sa sn sc] _ (fun v hv => by simp at hv; subst hv; rfl) (by simp)
  unfold Oper.wp
  simp [execOp, ho, hx, hrun, Result.andThen]
  exact h

theorem step_appV (s x : Operand) (ho : o.op = .call { callee := .builtin .append, args := #[s, x], argTypes := #[68, 68] }) (v : Value) (xs : List Value) (hs : a.eval s = v) (hown : w.ownsRow 0 38 1 v xs.length xs)
    (g0 : Nat) (u : Value) (hx : a.eval x = .slice (some ⟨g0, 0, none⟩) 1 1) (hu : IsSl u) (hc : w.cell? ⟨g0, 0, none⟩ = some u) (hl : xs.length + 1 ≤ 2000000000000)
    (h : ∀ v' w', w'.ownsRow 0 38 1 v' (xs ++ [u]).length (xs ++ [u]) → w.grownBy w' v.ownBlock → (∀ k, v'.ownBlock = some k → v.ownBlock = some k ∨ w.heap.size ≤ k) → K (a.put o.dst v') w') : Oper.wp Try.prog o a w K Q := by
  obtain ⟨j0, hj, hy0, hy1, hy2⟩ := info_parts info_41
  have hsrc : Src w (.slice (some ⟨g0, 0, none⟩) 1 1) [u] := by
    refine ⟨_, 1, rfl, fun y hy => by simp at hy; subst hy; exact hu.one, (fun e => by cases e), fun ad ha j y hy => ?_⟩
    obtain rfl := Option.some.inj ha
    match j, hy with
    | 0, hy => simp at hy; subst hy; simpa [Addr.add] using hc
  obtain ⟨v', w', hr, h2, h3, h4⟩ := run_app (P := Try.prog) w 68 o.type 38 j0 _ 24 Try.underlying68 hj hy0 hy1 hy2 rfl v xs hown _ [u] hsrc (by unfold maxLen; simp; omega) (by simp; omega)
  unfold Oper.wp
  simp [execOp, ho, resolve, invoke, builtin, hs, hx, hr, Result.andThen]
  exact h v' w' h2 h3 h4

end

/-- 'append(v, u)': a row's value. -/
theorem wpList_appV (w : World) {ops : Array Oper} {rest : List Oper} {o : Oper} {a : Act} {Q : Exit → Act → World → Prop} (hgd : o.guard = none) (s x : Operand)
    (ho : o.op = .call { callee := .builtin .append, args := #[s, x], argTypes := #[68, 68] }) (v : Value) (xs : List Value) (hs : a.eval s = v) (hown : w.ownsRow 0 38 1 v xs.length xs)
    (g0 : Nat) (u : Value) (hx : a.eval x = .slice (some ⟨g0, 0, none⟩) 1 1) (hu : IsSl u) (hc : w.cell? ⟨g0, 0, none⟩ = some u) (hl : xs.length + 1 ≤ 2000000000000)
    (h : ∀ v' w', w'.ownsRow 0 38 1 v' (xs ++ [u]).length (xs ++ [u]) → w.grownBy w' v.ownBlock → (∀ k, v'.ownBlock = some k → v.ownBlock = some k ∨ w.heap.size ≤ k) → wpList Try.prog ops Q rest (a.put o.dst v') w') : wpList Try.prog ops Q (o :: rest) a w := by
  obtain ⟨j0, hj, hy0, hy1, hy2⟩ := info_parts info_41
  have hsrc : Src w (.slice (some ⟨g0, 0, none⟩) 1 1) [u] := by
    refine ⟨_, 1, rfl, fun y hy => by simp at hy; subst hy; exact hu.one, (fun e => by cases e), fun ad ha j y hy => ?_⟩
    obtain rfl := Option.some.inj ha
    match j, hy with
    | 0, hy => simp at hy; subst hy; simpa [Addr.add] using hc
  refine wpList_app w hgd s x 68 ho 38 j0 _ 24 Try.underlying68 hj hy0 hy1 hy2 rfl v xs hs hown _ [u] hx hsrc (by unfold maxLen; simp; omega) (by simp; omega) ?_
  intro v' w' h2 h3 h4
  exact h v' w' h2 h3 h4

end Go.Proofs.Ytgpaklifjonlkaa
