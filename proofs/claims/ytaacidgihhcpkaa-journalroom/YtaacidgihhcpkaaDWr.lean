/-
  A sector more: laws of an append, of a slice of one sector, of a map's step.
-/
import Derived.Test.YtaacidgihhcpkaaDRead
import Derived.Test.YtaacidgihhcpkaaDReg
import Derived.Great.BuildSlice
import Derived.Maps.AppendAt
import Derived.Laws.CopyOwn
namespace Go.Proofs.Ytaacidgihhcpkaa
open Go.RowKit Go.Maps
set_option linter.unusedVariables false
set_option linter.unusedSimpArgs false
set_option maxRecDepth 100000

/-- A slice of one sector. -/
theorem run_build1 (xs : List Int) (h : xs.length = 256) (w : World) : (Instr.buildSlice 62 1 #[(0, .agg (bcs xs).toArray)]).run Try.prog w = .ok (.slice (some ⟨w.heap.size, 0, none⟩) 1 1) (w.alloc (.cells (bcs xs).toArray 83)) := by
  obtain ⟨j0, hj, hy0, hy1, hy2⟩ := info_parts info_sec
  refine run_buildSlice w _ 83 1 _ _ j0 _ Try.underlying62 hj hy0 (by rw [hy1]; decide) (by rw [hy1]; decide) ?_
  rw [hy1]
  have := Go.Great.fill_whole (s := 256) (by decide) [.agg (bcs xs).toArray] ((Array.range (1 * 256)).map ((Value.agg (bcs zz).toArray).cells[· % (Value.agg (bcs zz).toArray).cells.size]!)) (fun v hv => by
    simp at hv
    subst hv
    simp only [Value.cells, List.size_toArray, bcs_len, h]) (by simp)
  refine this.trans ?_
  simp [Value.cells]

/-- An append of sectors. -/
theorem run_appS (w : World) (ty : TypeId) (v : Value) (rows : List (List Int)) (h : SecR w v rows) (g0 m c : Nat) (news : List (List Int)) (hl : m = news.length) (hok : SOk news) (hn : w.rangeAt g0 0 (bcs news.flatten)) (hb : rows.length + news.length ≤ 274877906944) :
    ∃ v' w', (Builtin.append_ #[62, 62] ty #[v, .slice (some ⟨g0, 0, none⟩) m c]).run Try.prog w = .ok v' w' ∧ SecR w' v' (rows ++ news) ∧ w.grownBy w' v.ownBlock ∧ ∀ k, v'.ownBlock = some k → v.ownBlock = some k ∨ w.heap.size ≤ k := by
  subst hl
  obtain ⟨j0, hj, hy0, hy1, hy2⟩ := info_parts info_sec
  have hzs : (Value.agg (bcs zz).toArray).cells.size = 256 := by simp only [Value.cells, List.size_toArray, bcs_len, zz_len]
  have hnl : (bcs news.flatten).length = news.length * 256 := by rw [bcs_len, flat_len hok]
  have hnews : ∀ j u, (bcs news.flatten)[j]? = some u → w.cell? ((⟨g0, 0, none⟩ : Addr).add j) = some u := fun j u hu => by
    have := hn j u hu
    rw [Addr.add_lit]
    exact this
  obtain ⟨v', w', hr, ho, hg, _⟩ := run_append_own (P := Try.prog) w 0 62 ty 83 j0 _ 256 256 Try.underlying62 hj hy0 hy1 hy2 hzs (by decide) v rows.length (bcs rows.flatten) h.2 ⟨g0, 0, none⟩ news.length c (bcs news.flatten) hnl hnews (bcs_one _) (by unfold maxLen; omega) (by omega) (Nat.zero_le _)
  have hS : SecR w' v' (rows ++ news) := ⟨h.1.app hok, by rw [List.length_append, List.flatten_append, bcs_app]; exact ho⟩
  refine ⟨v', w', hr, hS, hg, fun k hk => ?_⟩
  rcases h.2.2 with ⟨rfl, h0⟩ | ⟨g, cap, cur, rfl, _, hgg, hnc, hcm, hcs, htake⟩
  · have hx : rows = [] := List.eq_nil_of_length_eq_zero h0
    subst hx
    obtain ⟨v2, w2, hr2, ho2, _, _⟩ := run_append_own (P := Try.prog) w w.heap.size 62 ty 83 j0 _ 256 256 Try.underlying62 hj hy0 hy1 hy2 hzs (by decide) (.slice none 0 0) 0 [] (World.ownsRow_nil _ _ _ _) ⟨g0, 0, none⟩ news.length c (bcs news.flatten) hnl hnews (bcs_one _) (by unfold maxLen; omega) (by omega) (Nat.le_refl _)
    have e2 := hr.symm.trans hr2
    simp only [Result.ok.injEq] at e2
    obtain ⟨rfl, rfl⟩ := e2
    exact .inr (ho2.lt k hk).1
  · by_cases hroom : rows.length + news.length ≤ cap
    · have hr2 := run_append_room (P := Try.prog) w 62 ty 83 j0 Try.underlying62 hj g rows.length cap cur hgg ⟨g0, 0, none⟩ news.length c (bcs news.flatten) (by rw [hy1]; exact hnl) hnews (bcs_one _) hroom (by rw [hy1, hcs, hnl]; omega)
      have e2 := hr.symm.trans hr2
      simp only [Result.ok.injEq] at e2
      obtain ⟨rfl, rfl⟩ := e2
      exact .inl hk
    · have hr2 := run_append_grow (P := Try.prog) w 62 ty 83 j0 _ Try.underlying62 hj hy0 ⟨g, 0, none⟩ rows.length cap (bcs rows.flatten) (by rw [hy1, bcs_len, flat_len h.1]) (h.2.cells (g := g) rfl) ⟨g0, 0, none⟩ news.length c (bcs news.flatten) (by rw [hy1]; exact hnl) hnews (by omega) (by omega)
          (by rw [hy2]; exact growslice_fits (by omega) (by omega))
      have e2 := hr.symm.trans hr2
      simp only [Result.ok.injEq] at e2
      obtain ⟨rfl, rfl⟩ := e2
      simp only [Value.ownBlock, Option.some.injEq] at hk
      exact .inr (by omega)

section
variable {o : Oper} {a : Act} {w : World} {K : Act → World → Prop} {Q : Exit → Act → World → Prop}

theorem step_appS (s x : Operand) (ho : o.op = .call { callee := .builtin .append, args := #[s, x], argTypes := #[62, 62] })
    (v : Value) (rows : List (List Int)) (hs : a.eval s = v) (hR : SecR w v rows) (g0 m c : Nat) (hx : a.eval x = .slice (some ⟨g0, 0, none⟩) m c) (news : List (List Int)) (hl : m = news.length) (hok : SOk news) (hn : w.rangeAt g0 0 (bcs news.flatten)) (hb : rows.length + news.length ≤ 274877906944)
    (h : ∀ v' w', SecR w' v' (rows ++ news) → w.grownBy w' v.ownBlock → (∀ k, v'.ownBlock = some k → v.ownBlock = some k ∨ w.heap.size ≤ k) → K (a.put o.dst v') w') :
    Oper.wp Try.prog o a w K Q := by
  obtain ⟨v', w', hr, h2, h3, h4⟩ := run_appS w o.type v rows hR g0 m c news hl hok hn hb
  unfold Oper.wp
  simp [execOp, ho, resolve, invoke, builtin, hs, hx, hr, Result.andThen]
  exact h v' w' h2 h3 h4

theorem step_mapS (m x v : Operand) (ho : o.op = Op.mapUpdate 63 m x v) (vb n i : Nat) (g : Nat → Option Value) (hm : a.eval m = .map (some vb)) (hM : Mp w vb n g) (hi : i < n) (hn : n ≤ 4096)
    (val : Value) (hx : a.eval x = .int .i64 (i : Int)) (hv : a.eval v = val)
    (h : ∀ w', Mp w' vb n (gput g i (some val)) → w.grownBy w' (some vb) → K (a.put o.dst undef) w') :
    Oper.wp Try.prog o a w K Q := by
  obtain ⟨w', hrun, r1, r2⟩ := World.ownsMap.update (val := val) (d := .held val) (ps := []) hM keyed3 Try.underlying63 (by unfold maxLen; omega) (key3 (i := i) (by omega)) rfl
  unfold Oper.wp
  simp [execOp, ho, hm, hx, hv, hrun, Result.andThen]
  exact h w' (mp_of r1 (dm_put hi val (r1.canon keyed3))) r2

theorem step_upd (m x v : Operand) (ho : o.op = Op.mapUpdate 63 m x v) (mv xv vv : Value) (hm : a.eval m = mv) (hx : a.eval x = xv) (hv : a.eval v = vv) {w6 : World}
    (hrun : (Instr.mapUpdate 63 mv xv vv).run Try.prog w = .ok () w6) (h : K (a.put o.dst undef) w6) :
    Oper.wp Try.prog o a w K Q := by
  unfold Oper.wp
  simp [execOp, ho, hm, hx, hv, hrun, Result.andThen]
  exact h

theorem step_lookS (m x : Operand) (ho : o.op = Op.lookup 63 m x false) (vb n i : Nat) (g : Nat → Option Value) (hm : a.eval m = .map (some vb)) (hM : Mp w vb n g) (hi : i < n) (hn : n ≤ 4096)
    (hx : a.eval x = .int .i64 (i : Int)) (h : K (a.put o.dst (gv g i)) w) :
    Oper.wp Try.prog o a w K Q := by
  have hrun := hM.look hi hn
  unfold Oper.wp
  simp [execOp, ho, hm, hx, hrun, Result.andThen]
  exact h

theorem step_build1 (x : Operand) (ho : o.op = Op.buildSlice 62 1 #[(0, x)]) (xs : List Int) (hl : xs.length = 256) (hx : a.eval x = .agg (bcs xs).toArray)
    (h : K (a.put o.dst (.slice (some ⟨w.heap.size, 0, none⟩) 1 1)) (w.alloc (.cells (bcs xs).toArray 83))) :
    Oper.wp Try.prog o a w K Q := by
  have hrun := run_build1 xs hl w
  unfold Oper.wp
  simp [execOp, ho, hx, hrun, Result.andThen]
  exact h
end

theorem rangeAt_new (w : World) (vs : List Value) (t : TypeId) : (w.alloc (.cells vs.toArray t)).rangeAt w.heap.size 0 vs := fun j v hv => by
  rw [Nat.zero_add, cell_of_row _ _ j _ _ (0, 0) (heap_alloc_new w _)]
  simpa using hv

theorem Tch.of_grown {w w' : World} {row : Option Nat} (hg : w.grownBy w' row) : Tch (fun k => row = some k) w w' := (Tch.refl _ w).grown hg (fun _ _ e => e)

end Go.Proofs.Ytaacidgihhcpkaa
