import Derived.Test.YtgpaklifjonlkaaKP06
import Derived.Test.YtgpaklifjonlkaaKP10
import Derived.Great.BuildSlice
import Derived.Maps.AppendAt
import Derived.Laws.CopyOwn
/-
  A sector more: laws of an append, of a slice of one sector, of a map's step.
-/
namespace Go.Proofs.Ytgpaklifjonlkaa
open Go.RowKit Go.Maps
set_option linter.unusedVariables false
set_option linter.unusedSimpArgs false
set_option maxRecDepth 100000

/-- A slice of one sector. -/
theorem run_build1 (xs : List Int) (h : xs.length = 256) (w : World) : (Instr.buildSlice 61 1 #[(0, .agg (bcs xs).toArray)]).run Try.prog w = .ok (.slice (some ⟨w.heap.size, 0, none⟩) 1 1) (w.alloc (.cells (bcs xs).toArray 101)) := by
  obtain ⟨j0, hj, hy0, hy1, hy2⟩ := info_parts info_sec
  refine run_buildSlice w _ 101 1 _ _ j0 _ Try.underlying61 hj hy0 (by rw [hy1]; decide) (by rw [hy1]; decide) ?_
  rw [hy1]
  have := Go.Great.fill_whole (s := 256) (by decide) [.agg (bcs xs).toArray] ((Array.range (1 * 256)).map ((Value.agg (bcs zz).toArray).cells[· % (Value.agg (bcs zz).toArray).cells.size]!)) (fun v hv => by
    simp at hv
    subst hv
    simp only [Value.cells, List.size_toArray, bcs_len, h]) (by simp)
  refine this.trans ?_
  simp [Value.cells]

/-- An append of sectors. -/
theorem run_appS (w : World) (ty : TypeId) (v : Value) (rows : List (List Int)) (h : SecR w v rows) (g0 m c : Nat) (news : List (List Int)) (hl : m = news.length) (hok : SOk news) (hn : w.rangeAt g0 0 (bcs news.flatten)) (hb : rows.length + news.length ≤ 274877906944) :
    ∃ v' w', (Builtin.append_ #[61, 61] ty #[v, .slice (some ⟨g0, 0, none⟩) m c]).run Try.prog w = .ok v' w' ∧ SecR w' v' (rows ++ news) ∧ w.grownBy w' v.ownBlock ∧ ∀ k, v'.ownBlock = some k → v.ownBlock = some k ∨ w.heap.size ≤ k := by
  subst hl
  obtain ⟨j0, hj, hy0, hy1, hy2⟩ := info_parts info_sec
  have hzs : (Value.agg (bcs zz).toArray).cells.size = 256 := by simp only [Value.cells, List.size_toArray, bcs_len, zz_len]
  have hnl : (bcs news.flatten).length = news.length * 256 := by rw [bcs_len, flat_len hok]
  have hnews : ∀ j u, (bcs news.flatten)[j]? = some u → w.cell? ((⟨g0, 0, none⟩ : Addr).add j) = some u := fun j u hu => by
    have := hn j u hu
    rw [Addr.add_lit]
    exact this
  obtain ⟨v', w', hr, ho, hg, _⟩ := run_append_own (P := Try.prog) w 0 61 ty 101 j0 _ 256 256 Try.underlying61 hj hy0 hy1 hy2 hzs (by decide) v rows.length (bcs rows.flatten) h.2 ⟨g0, 0, none⟩ news.length c (bcs news.flatten) hnl hnews (bcs_one _) (by unfold maxLen; omega) (by omega) (Nat.zero_le _)
  have hS : SecR w' v' (rows ++ news) := ⟨h.1.app hok, by rw [List.length_append, List.flatten_append, bcs_app]; exact ho⟩
  refine ⟨v', w', hr, hS, hg, fun k hk => ?_⟩
  rcases h.2.2 with ⟨rfl, h0⟩ | ⟨g, cap, cur, rfl, _, hgg, hnc, hcm, hcs, htake⟩
  · have hx : rows = [] := List.eq_nil_of_length_eq_zero h0
    subst hx
    obtain ⟨v2, w2, hr2, ho2, _, _⟩ := run_append_own (P := Try.prog) w w.heap.size 61 ty 101 j0 _ 256 256 Try.underlying61 hj hy0 hy1 hy2 hzs (by decide) (.slice none 0 0) 0 [] (World.ownsRow_nil _ _ _ _) ⟨g0, 0, none⟩ news.length c (bcs news.flatten) hnl hnews (bcs_one _) (by unfold maxLen; omega) (by omega) (Nat.le_refl _)
    have e2 := hr.symm.trans hr2
    simp only [Result.ok.injEq] at e2
    obtain ⟨rfl, rfl⟩ := e2
    exact .inr (ho2.lt k hk).1
  · by_cases hroom : rows.length + news.length ≤ cap
    · have hr2 := run_append_room (P := Try.prog) w 61 ty 101 j0 Try.underlying61 hj g rows.length cap cur hgg ⟨g0, 0, none⟩ news.length c (bcs news.flatten) (by rw [hy1]; exact hnl) hnews (bcs_one _) hroom (by rw [hy1, hcs, hnl]; omega)
      have e2 := hr.symm.trans hr2
      simp only [Result.ok.injEq] at e2
      obtain ⟨rfl, rfl⟩ := e2
      exact .inl hk
    · have hr2 := run_append_grow (P := Try.prog) w 61 ty 101 j0 _ Try.underlying61 hj hy0 ⟨g, 0, none⟩ rows.length cap (bcs rows.flatten) (by rw [hy1, bcs_len, flat_len h.1]) (h.2.cells (g := g) rfl) ⟨g0, 0, none⟩ news.length c (bcs news.flatten) (by rw [hy1]; exact hnl) hnews (by omega) (by omega)
          (by rw [hy2]; exact growslice_fits (by omega) (by omega))
      have e2 := hr.symm.trans hr2
      simp only [Result.ok.injEq] at e2
      obtain ⟨rfl, rfl⟩ := e2
      simp only [Value.ownBlock, Option.some.injEq] at hk
      exact .inr (by omega)

section
variable {o : Oper} {a : Act} {w : World} {K : Act → World → Prop} {Q : Exit → Act → World → Prop}

theorem step_appS (s x : Operand) (ho : o.op = .call { callee := .builtin .append, args := #[s, x], argTypes := #[61, 61] })
    (v : Value) (rows : List (List Int)) (hs : a.eval s = v) (hR : SecR w v rows) (g0 m c : Nat) (hx : a.eval x = .slice (some ⟨g0, 0, none⟩) m c) (news : List (List Int)) (hl : m = news.length) (hok : SOk news) (hn : w.rangeAt g0 0 (bcs news.flatten)) (hb : rows.length + news.length ≤ 274877906944)
    (h : ∀ v' w', SecR w' v' (rows ++ news) → w.grownBy w' v.ownBlock → (∀ k, v'.ownBlock = some k → v.ownBlock = some k ∨ w.heap.size ≤ k) → K (a.put o.dst v') w') :
    Oper.wp Try.prog o a w K Q := by
  obtain ⟨v', w', hr, h2, h3, h4⟩ := run_appS w o.type v rows hR g0 m c news hl hok hn hb
  unfold Oper.wp
  simp [execOp, ho, resolve, invoke, builtin, hs, hx, hr, Result.andThen]
  exact h v' w' h2 h3 h4

theorem step_mapS (m x v : Operand) (ho : o.op = Op.mapUpdate 62 m x v) (vb n i : Nat) (g : Nat → Option Value) (hm : a.eval m = .map (some vb)) (hM : Mp w vb n g) (hi : i < n) (hn : n ≤ 4096)
    (val : Value) (hx : a.eval x = .int .i64 (i : Int)) (hv : a.eval v = val)
    (h : ∀ w', Mp w' vb n (gput g i (some val)) → w.grownBy w' (some vb) → K (a.put o.dst undef) w') :
    Oper.wp Try.prog o a w K Q := by
  obtain ⟨w', hrun, r1, r2⟩ := World.ownsMap.update (val := val) (d := .held val) (ps := []) hM keyed3 Try.underlying62 (by unfold maxLen; omega) (key3 (i := i) (by omega)) rfl
  unfold Oper.wp
  simp [execOp, ho, hm, hx, hv, hrun, Result.andThen]
  exact h w' (mp_of r1 (dm_put hi val (r1.canon keyed3))) r2

theorem step_upd (m x v : Operand) (ho : o.op = Op.mapUpdate 62 m x v) (mv xv vv : Value) (hm : a.eval m = mv) (hx : a.eval x = xv) (hv : a.eval v = vv) {w6 : World}
    (hrun : (Instr.mapUpdate 62 mv xv vv).run Try.prog w = .ok () w6) (h : K (a.put o.dst undef) w6) :
    Oper.wp Try.prog o a w K Q := by
  unfold Oper.wp
  simp [execOp, ho, hm, hx, hv, hrun, Result.andThen]
  exact h

theorem step_lookS (m x : Operand) (ho : o.op = Op.lookup 62 m x false) (vb n i : Nat) (g : Nat → Option Value) (hm : a.eval m = .map (some vb)) (hM : Mp w vb n g) (hi : i < n) (hn : n ≤ 4096)
    (hx : a.eval x = .int .i64 (i : Int)) (h : K (a.put o.dst (gv g i)) w) :
    Oper.wp Try.prog o a w K Q := by
  have hrun := hM.look hi hn
  unfold Oper.wp
  simp [execOp, ho, hm, hx, hrun, Result.andThen]
  exact h

theorem step_build1 (x : Operand) (ho : o.op = Op.buildSlice 61 1 #[(0, x)]) (xs : List Int) (hl : xs.length = 256) (hx : a.eval x = .agg (bcs xs).toArray)
    (h : K (a.put o.dst (.slice (some ⟨w.heap.size, 0, none⟩) 1 1)) (w.alloc (.cells (bcs xs).toArray 101))) :
    Oper.wp Try.prog o a w K Q := by
  have hrun := run_build1 xs hl w
  unfold Oper.wp
  simp [execOp, ho, hx, hrun, Result.andThen]
  exact h
end

theorem rangeAt_new (w : World) (vs : List Value) (t : TypeId) : (w.alloc (.cells vs.toArray t)).rangeAt w.heap.size 0 vs := fun j v hv => by
  rw [Nat.zero_add, cell_of_row _ _ j _ _ (0, 0) (heap_alloc_new w _)]
  simpa using hv

theorem Tch.of_grown {w w' : World} {row : Option Nat} (hg : w.grownBy w' row) : Tch (fun k => row = some k) w w' := (Tch.refl _ w).grown hg (fun _ _ e => e)

end Go.Proofs.Ytgpaklifjonlkaa
/-
  A sector is written.
-/
namespace Go.Proofs.Ytgpaklifjonlkaa
open Go.RowKit Go.Maps
set_option linter.unusedVariables false
set_option linter.unusedSimpArgs false
set_option maxRecDepth 100000

theorem write_range {S : Nat → Prop} {d : Nat} {s : DS} (at_ : Int) (a : Option Addr) (len cap : Nat) (w : World) (h : Dk S w d s) (hb : at_ < 0 ∨ (s.L.length : Int) ≤ at_) :
    Calls Try.prog 74 #[dp d, .int .i64 at_, .slice a len cap] w fun e w' => e = .returned (.int .i64 2) ∧ w' = w := by
  obtain ⟨lb, vb, lc, g, h⟩ := h
  have hf : (decide (0 ≤ at_) && decide (at_ < (s.L.length : Int))) = false := by
    rw [Bool.and_eq_false_iff, decide_eq_false_iff_not, decide_eq_false_iff_not]; omega
  have H := isThere_any at_ w h
  rw [hf] at H
  have H := hideP H
  clear h hb
  go_enter Try.func74, Try.ntmps74
  go_wp2_with fail
  refine H.out.mono ?_
  rintro e w ⟨rfl, rfl⟩
  go_wp2_with fail
  go_ret
  exact ⟨rfl, rfl⟩

theorem write_len {S : Nat → Prop} {d : Nat} {s : DS} (i : Nat) (a : Option Addr) (len cap : Nat) (w : World) (h : Dk S w d s) (hi : i < s.L.length) (hl : len ≠ 256) (hm : len ≤ maxLen) :
    Calls Try.prog 74 #[dp d, .int .i64 (i : Int), .slice a len cap] w fun e w' => e = .returned (.int .i64 1) ∧ w' = w := by
  obtain ⟨lb, vb, lc, g, h⟩ := h
  have hf : (decide (0 ≤ (i : Int)) && decide ((i : Int) < (s.L.length : Int))) = true := by
    rw [Bool.and_eq_true, decide_eq_true_eq, decide_eq_true_eq]; omega
  have H := isThere_any i w h
  rw [hf] at H
  have H := hideP H
  have hl2 : ((len : Int) == 256) = false := by rw [beq_eq_false_iff_ne]; omega
  clear h
  go_enter Try.func74, Try.ntmps74
  go_wp2_with fail
  refine H.out.mono ?_
  rintro e w ⟨rfl, rfl⟩
  go_wp2_with fail
  go_ret
  exact ⟨rfl, rfl⟩

/-- A version more. -/
theorem DkAt.more {S : Nat → Prop} {w w' : World} {d : Nat} {s : DS} {lb vb lc : Nat} {g : Nat → Option Value} (h : DkAt S w d s lb vb lc g) {i : Nat} (hi : i < s.L.length) {v : Value} {x : List Int}
    {wa : World} (ta : Tch (fun k => (gv g i).ownBlock = some k) w wa) (hv : SecR wa v (s.V i ++ [x])) (hf : ∀ k, v.ownBlock = some k → (gv g i).ownBlock = some k ∨ w.heap.size ≤ k)
    (hm : Mp w' vb s.L.length (gput g i (some v))) (tb : Tch (fun k => k = vb) wa w') :
    ∃ S', DkAt S' w' d { s with V := vput s.V i (s.V i ++ [x]) } lb vb lc (gput g i (some v)) ∧ Tch S w w' ∧ ∀ k, S' k → S k ∨ w.heap.size ≤ k := by
  have hgs : ∀ k, (gv g i).ownBlock = some k → S k ∧ k ≠ d ∧ k ≠ lb ∧ k ≠ vb := fun k hk => by
    unfold gv at hk
    cases e : g i with
    | none => rw [e] at hk; cases hk
    | some u =>
      rw [e] at hk
      obtain ⟨b, cap, rfl, h1, h2, h3, h4, _⟩ := h.own e
      cases hk
      exact ⟨h4, h1, h3, h2⟩
  have hgj : ∀ j u k, g j = some u → j ≠ i → u.ownBlock = some k → (gv g i).ownBlock ≠ some k := fun j u k hj hne hk e => by
    unfold gv at e
    cases e2 : g i with
    | none => rw [e2] at e; cases e
    | some u2 =>
      rw [e2] at e
      exact h.apart j i u u2 hj e2 hne (hk.trans e.symm)
  have hsz := ta.size
  have hvlt := hv.lt
  have hob : ∃ b, v.ownBlock = some b := by
    obtain ⟨b, cap, cur, rfl, _⟩ := hv.shape (by simp)
    exact ⟨b, rfl⟩
  obtain ⟨vbk, hvbk⟩ := hob
  have hcur : ∀ k, v.ownBlock = some k → k ≠ vb ∧ k ≠ d ∧ k ≠ lb := fun k hk => by
    rcases hf k hk with e | e
    · have := hgs k e; exact ⟨this.2.2.2, this.2.1, this.2.2.1⟩
    · have h1 := h.map.lt; have h2 := h.lt; have h3 := h.slt _ h.sl; omega
  refine ⟨fun k => S k ∨ v.ownBlock = some k, ?_, ?_, ?_⟩
  · have hd1 : wa.heap[d]? = w.heap[d]? := ta.block d h.lt (fun e => (hgs d e).2.1 rfl)
    have hd2 : w'.heap[d]? = wa.heap[d]? := tb.block d (Nat.lt_of_lt_of_le h.lt hsz) (fun e => h.ne_vb e)
    exact {
      n1 := h.n1
      n2 := h.n2
      l30 := h.l30
      box := by rw [hd2, hd1]; exact h.box
      lies := (h.lies.tch ta (fun j e => by cases e; exact fun e => (hgs _ e).2.2.1 rfl)).tch tb (fun j e => by cases e; exact fun e => h.lb_vb e)
      map := hm
      no := fun j hj => by
        by_cases e : j = i
        · subst e; simp [gput] at hj
        · simp only [gput, if_neg e] at hj
          simp only [vput, if_neg e]
          exact h.no j hj
      yes := fun j u hj => by
        by_cases e : j = i
        · subst e
          simp only [gput, if_pos] at hj
          cases hj
          simp only [vput, if_pos]
          exact ⟨hi, by simp, hv.tch tb (fun k hk => (hcur k hk).1), fun e => (hcur lb e).2.2 rfl⟩
        · simp only [gput, if_neg e] at hj
          simp only [vput, if_neg e]
          obtain ⟨h1, h2, h3, h4⟩ := h.yes j u hj
          refine ⟨h1, h2, (h3.tch ta (fun k hk => hgj j u k hj e hk)).tch tb (fun k hk e2 => ?_), h4⟩
          obtain ⟨b, cap, rfl, _, h5, _⟩ := h.own hj
          cases hk
          exact h5 e2
      apart := fun j k u u2 hj hk hne => by
        have key : ∀ j u, g j = some u → j ≠ i → u.ownBlock ≠ v.ownBlock := fun j u hj hne e => by
          obtain ⟨b, cap, rfl, _, _, _, h4, _⟩ := h.own hj
          have hb : v.ownBlock = some b := e.symm
          rcases hf b hb with e2 | e2
          · exact hgj j _ b hj hne rfl e2
          · have := h.slt b h4; omega
        by_cases e : j = i
        · subst e
          simp only [gput, if_pos] at hj
          cases hj
          simp only [gput, if_neg (Ne.symm hne)] at hk
          exact fun e => key k u2 hk (Ne.symm hne) e.symm
        · simp only [gput, if_neg e] at hj
          by_cases e2 : k = i
          · subst e2
            simp only [gput, if_pos] at hk
            cases hk
            exact key j u hj e
          · simp only [gput, if_neg e2] at hk
            exact h.apart j k u u2 hj hk hne
      sd := .inl h.sd
      sl := .inl h.sl
      sv := .inl h.sv
      sg := fun j u k hj hk => by
        by_cases e : j = i
        · subst e
          simp only [gput, if_pos] at hj
          cases hj
          exact .inr hk
        · simp only [gput, if_neg e] at hj
          exact .inl (h.sg j u k hj hk)
      slt := fun k hk => by
        have := tb.size
        rcases hk with hk | hk
        · have := h.slt k hk; omega
        · have := hvlt k hk; omega }
  · exact (ta.mono (S' := S) (fun k _ e => (hgs k e).1)).trans tb (fun k _ e => by rw [e]; exact h.sv)
  · rintro k (hk | hk)
    · exact .inl hk
    · rcases hf k hk with e | e
      · exact .inl (hgs k e).1
      · exact .inr e

theorem splice_all (xs ys : List Value) (h : xs.length = ys.length) : splice xs 0 ys = ys := by
  unfold splice
  simp [h]

set_option maxHeartbeats 2000000 in
theorem write_ok {S : Nat → Prop} {d : Nat} {s : DS} (i : Nat) (v : Value) (xs : List Int) (w : World) (h : Dk S w d s) (hi : i < s.L.length) (hr : Rd .u8 w v xs) (hx : xs.length = 256) (hy : By xs) (hv : ∀ k, v.ownBlock = some k → ¬ S k) (hm : (s.V i).length < 274877906943) :
    Calls Try.prog 74 #[dp d, .int .i64 (i : Int), v] w fun e w' => e = .returned (.int .i64 0) ∧ DkTo S w w' d (s.wr i xs) := by
  obtain ⟨lb, vb, lc, g, h⟩ := h
  have hf : (decide (0 ≤ (i : Int)) && decide ((i : Int) < (s.L.length : Int))) = true := by
    rw [Bool.and_eq_true, decide_eq_true_eq, decide_eq_true_eq]; omega
  have H := isThere_any i w h
  rw [hf] at H
  have H := hideP H
  have H2 := hideP (isDone_any w h)
  have HR : Hid (Rd .u8 w v xs) := hr
  obtain ⟨a, cap, rfl, _⟩ := hr
  rw [hx]
  rw [hx] at HR hv
  have HV : Hid (∀ k, (Value.slice a 256 cap).ownBlock = some k → ¬ S k) := hv
  have HX : Hid (xs.length = 256) := hx
  have HY : Hid (By xs) := hy
  have HM : Hid ((s.V i).length < 274877906943) := hm
  have n2 : Hid (s.L.length ≤ 4096) := h.n2
  have HI : Hid (i < s.L.length) := hi
  obtain ⟨hv74, hi74⟩ := zero_of_info info_sec2
  have HI7 : Hid ((Try.prog.info? 101).map (·.size) = some 256) := hi74
  have HSD : Hid (S d) := h.sd
  have HSLT0 : Hid (∀ k, S k → k < w.heap.size) := h.slt
  clear h hv hx hy hm hf hi hi74
  obtain ⟨Z, hZ⟩ : ∃ Z, Hid ((bcs zz).toArray = Z) := ⟨_, rfl⟩
  rw [hZ.out] at hv74
  have HSL := slice_sec
  go_enter Try.func74, Try.ntmps74
  go_wp2_with fail
  refine H.out.mono ?_
  rintro e w ⟨rfl, rfl⟩
  clear H
  go_wp2_with fail
  refine H2.out.mono ?_
  clear H2
  rintro e w1 ⟨rfl, hd1, ht1⟩
  cases hc : s.can with
  | false =>
    rw [hc] at hd1
    have D1 : Hid (DkAt S w1 d s lb vb lc g) := hd1
    have T1 : Hid (Tch (fun k => k = d) w w1) := ht1
    clear hd1 ht1
    go_wp2_with fail
    go_ret
    refine ⟨rfl, S, ?_, T1.out.mono (fun k _ e => by rw [e]; exact HSD.out), fun k hk => .inl hk⟩
    rw [show s.wr i xs = s by unfold DS.wr; rw [hc]; rfl]
    exact ⟨lb, vb, lc, g, D1.out⟩
  | true =>
    rw [hc] at hd1
    have D1 : Hid (DkAt S w1 d s.tick lb vb lc g) := hd1
    have T1 : Hid (Tch (fun k => k = d) w w1) := ht1
    have HSLT : Hid (∀ k, S k → k < w1.heap.size) := fun k hk => Nat.lt_of_lt_of_le (HSLT0.out k hk) ht1.size
    have R1 : Hid (Rd .u8 w1 (.slice a 256 cap) xs) := by
      refine HR.out.tch ht1 (fun b hb e => HV.out b hb ?_)
      rw [e]; exact HSD.out
    have HWR : Hid (s.wr i xs = { s.tick with V := vput s.tick.V i (s.tick.V i ++ [xs]) }) := by show _ = _; unfold DS.wr; rw [hc]; rfl
    have HM1 : Hid ((s.tick.V i).length < 274877906943) := HM.out
    have HI1 : Hid (i < s.tick.L.length) := HI.out
    have N21 : Hid (s.tick.L.length ≤ 4096) := n2.out
    clear hd1 ht1 HM HI n2 HR
    generalize s.tick = s1 at D1 HWR HM1 HI1 N21
    clear hc
    have hi1 : Hid ((Try.prog.info? 5).map (·.size) = some 1) := by show _ = _; kernel_rfl
    obtain ⟨W0, hW0⟩ : ∃ W0, w1.alloc (.cells Z 101) = W0 := ⟨_, rfl⟩
    have HW0 : Hid (w1.alloc (.cells Z 101) = W0) := hW0
    obtain ⟨q, hq⟩ : ∃ q, w1.heap.size = q := ⟨_, rfl⟩
    have HQE : Hid (w1.heap.size = q) := hq
    have B0 : Hid (Below w1.heap.size w1 W0) := by rw [← hW0]; exact (Below.refl _ _).alloc (Nat.le_refl _) _
    have Q0 : Hid (W0.heap[q]? = some (.cells (bcs zz).toArray 101 (0, 0))) := by show _ = _; rw [← hW0, ← hq, hZ.out]; exact heap_alloc_new w1 _
    have R0 : Hid (Rd .u8 W0 (.slice a 256 cap) xs) := R1.out.below B0.out
    have HZL : Hid ((bcs zz).length = (bcs xs).length) := by show _ = _; rw [bcs_len, bcs_len, zz_len, HX.out]
    have HCP : Hid (0 < (bcs xs).length → ∃ ad, a = some ad ∧ ∀ j u, (bcs xs)[j]? = some u → W0.cell? (ad.add j) = some u) := fun hp => by
      obtain ⟨a', cap', e, _, _, _, hcc⟩ := R0.out
      simp only [Value.slice.injEq] at e
      obtain ⟨rfl, _, rfl⟩ := e
      rcases hcc with e | ⟨b, o, rfl, hc⟩
      · rw [e] at hp; simp [bcs] at hp
      · refine ⟨_, rfl, fun j u hu => ?_⟩
        have hj : j < xs.length := by simpa [bcs] using (List.getElem?_eq_some_iff.1 hu).1
        rw [Addr.add_lit, hc j hj]
        simp [bcs, List.getD_eq_getElem?_getD, hj] at hu ⊢
        exact hu
    have HNM : Hid ((bcs xs).length = Nat.min 256 256) := by show _ = _; rw [bcs_len]; exact HX.out
    have HFT : Hid (0 + (bcs xs).length ≤ (bcs zz).length) := by show _ ≤ _; rw [HZL.out]; omega
    clear hq hW0
    go_wp2_with (with_reducible (show wpList _ _ _ (Oper.mk _ (Op.call _) _ _ _ _ :: _) _ _); refine Hid.out ?_)
    refine hideP ?_
    rw [HW0.out, HQE.out]
    refine wpList_copy_splice rfl (.tmp 17) (.tmp 18) 38 38 rfl 5 Try.underlying38 hi1.out (some ⟨q, 0, none⟩) a 256 256 256 cap ?h1 ?h2 q 0 (bcs zz) 101 Q0.out (bcs xs) HNM.out (fun hp => ⟨rfl, HCP.out hp⟩) HFT.out (bcs_one xs) w1.heap.size w1 B0.out (Nat.le_of_eq HQE.out) ?_
    case h1 => kernel_rfl
    case h2 => kernel_rfl
    intro W2 hQ2 hb2
    rw [splice_all _ _ HZL.out] at hQ2
    have B2 : Hid (Below w1.heap.size w1 W2) := hb2
    have Q2 : Hid (W2.heap[q]? = some (.cells (bcs xs).toArray 101 (0, 0))) := hQ2.out
    have D2 : Hid (DkAt S W2 d s1 lb vb lc g) := D1.out.tch (R := fun _ => False) (Tch.of_below hb2) (fun _ _ e => e)
    have HQS : Hid (q < W2.heap.size) := (Array.getElem?_eq_some_iff.1 hQ2.out).1
    clear hQ2 hb2 B0 Q0 R0 HCP HNM HFT HZL D1 R1 HW0
    have c1 := D2.out.c1
    have hu74 := Try.underlying101
    have hs74 : (Try.prog.info? 101).map (·.size) = some (bcs xs).length := by rw [HI7.out, bcs_len, HX.out]
    have TD : Hid (Tch (fun _ => False) W2 W2.drew) := Tch.drew (Tch.refl _ W2)
    have TDA : Hid (Tch (fun _ => False) W2 (W2.alloc (.cells (bcs xs).toArray 101)).drew) := Tch.drew (Tch.alloc (Tch.refl _ W2) _)
    have MP : Hid (Mp W2 vb s1.L.length g) := D2.out.map
    have RA : W2.rangeAt q 0 (bcs xs) := fun j u hu => by
      rw [Nat.zero_add, cell_of_row W2 q j _ _ (0, 0) Q2.out]
      simpa using hu
    obtain ⟨u, hu⟩ : ∃ u, gv g i = u := ⟨_, rfl⟩
    have HU : Hid (gv g i = u) := hu
    have LK1 := (MP.out.tch TD.out (fun e => e)).look HI1.out N21.out
    have LK2 := (MP.out.tch TDA.out (fun e => e)).look HI1.out N21.out
    have BS := run_build1 xs HX.out
    rw [hu] at LK1 LK2
    have HUB : Hid (∀ k, u.ownBlock = some k → k ≠ d ∧ k ≠ q ∧ k ≠ vb ∧ k < w1.heap.size) := fun k hk => by
      rw [← hu] at hk
      unfold gv at hk
      cases e : g i with
      | none => rw [e] at hk; cases hk
      | some x =>
        rw [e] at hk
        obtain ⟨b, cp, rfl, h1, h2, h3, h4, _⟩ := D2.out.own e
        cases hk
        have hb1 := HSLT.out b h4
        have hb2 : b ≠ q := fun e => by rw [e, ← HQE.out] at hb1; exact Nat.lt_irrefl _ hb1
        exact ⟨h1, hb2, h2, hb1⟩
    have SU : Hid (SecR (W2.alloc (.cells (bcs xs).toArray 101)).drew u (s1.V i)) := by
      rw [← hu]
      unfold gv
      cases e : g i with
      | none => rw [D2.out.no i e]; exact SecR.nil _
      | some x => exact (D2.out.yes i x e).2.2.1.tch TDA.out (fun _ _ e => e)
    have NR : Hid ((W2.alloc (.cells (bcs xs).toArray 101)).drew.rangeAt W2.heap.size 0 (bcs [xs].flatten)) := by
      rw [List.flatten_cons, List.flatten_nil, List.append_nil]
      exact rangeAt_new W2 (bcs xs) _
    have HBD : Hid ((s1.V i).length + [xs].length ≤ 274877906944) := by have := HM1.out; show _ ≤ _; simp; omega
    have CA : (W2.alloc (.cells (bcs xs).toArray 101)).drew.cell? ⟨d, 1, none⟩ = some (.map (some vb)) := by rw [TDA.out.cell (p := ⟨d, 1, none⟩) D2.out.lt (fun e => e)]; exact c1
    have RAA : (W2.alloc (.cells (bcs xs).toArray 101)).drew.rangeAt q 0 (bcs xs) := World.rangeAt_alloc (w := W2) RA _
    have HPOST : Hid (∀ v5 w5, SecR w5 v5 (s1.V i ++ [xs]) → (W2.alloc (.cells (bcs xs).toArray 101)).drew.grownBy w5 u.ownBlock → (∀ k, v5.ownBlock = some k → u.ownBlock = some k ∨ (W2.alloc (.cells (bcs xs).toArray 101)).drew.heap.size ≤ k) →
        ∃ w6, (Instr.mapUpdate 62 (.map (some vb)) (.int .i64 (i : Int)) v5).run Try.prog w5 = .ok () w6 ∧ (w5.cell? ⟨d, 1, none⟩ = some (.map (some vb)) ∧ w5.rangeAt q 0 (bcs xs)) ∧ (w6.cell? ⟨d, 1, none⟩ = some (.map (some vb)) ∧ w6.rangeAt q 0 (bcs xs)) ∧ Hid (DkTo S w w6 d (s.wr i xs))) := by
      intro v5 w5 hs5 hg5 hf5
      have T5 : Tch (fun k => u.ownBlock = some k) W2 w5 := (TDA.out.mono (S' := fun k => u.ownBlock = some k) (fun _ _ e => e.elim)).trans (Tch.of_grown hg5) (fun _ _ e => e)
      have h1 : DkAt S W2 d s1 lb vb lc g := D2.out
      have M5 : Mp w5 vb s1.L.length g := h1.map.tch T5 (fun e => (HUB.out vb e).2.2.1 rfl)
      obtain ⟨w6, hrun, r1, r2⟩ := World.ownsMap.update (val := v5) (d := .held v5) (ps := []) M5 keyed3 Try.underlying62 (by have := N21.out; unfold maxLen; omega) (key3 (i := i) (by have := N21.out; have := HI1.out; omega)) rfl
      have M6 := mp_of r1 (dm_put HI1.out v5 (r1.canon keyed3))
      have T6 : Tch (fun k => k = vb) w5 w6 := (Tch.of_grown r2).mono (fun k _ e => by cases e; rfl)
      have k5 : w5.cell? ⟨d, 1, none⟩ = some (.map (some vb)) := by rw [T5.cell (p := ⟨d, 1, none⟩) h1.lt (fun e => (HUB.out d e).1 rfl)]; exact c1
      have q5 : w5.rangeAt q 0 (bcs xs) := fun j v hv => by rw [T5.cell (p := ⟨q, 0 + j, none⟩) HQS.out (fun e => (HUB.out q e).2.1 rfl)]; exact RA j v hv
      have k6 : w6.cell? ⟨d, 1, none⟩ = some (.map (some vb)) := by rw [T6.cell (p := ⟨d, 1, none⟩) (World.block_lt_of_cell? w5 ⟨d, 1, none⟩ k5) (fun e => h1.ne_vb e)]; exact k5
      have hqv : q ≠ vb := fun e => h1.map.notCells (by rw [← e]; exact Q2.out)
      have q6 : w6.rangeAt q 0 (bcs xs) := fun j v hv => by
        have := q5 j v hv
        rw [T6.cell (p := ⟨q, 0 + j, none⟩) (World.block_lt_of_cell? w5 ⟨q, 0 + j, none⟩ this) (fun e => hqv e)]; exact this
      refine ⟨w6, hrun, ⟨k5, q5⟩, ⟨k6, q6⟩, ?_⟩
      obtain ⟨S', hD, hT, hS'⟩ := DkAt.more (w := W2) (w' := w6) (v := v5) h1 (x := xs) HI1.out (wa := w5) (by rw [hu]; exact T5) hs5 (fun k hk => by
        rw [hu]
        rcases hf5 k hk with e | e
        · exact .inl e
        · exact .inr (by simp at e; omega)) M6 T6
      have t1 : Tch S w W2 := Tch.trans (S := S) (S' := S) (T1.out.mono (S' := S) (fun k _ e => by rw [e]; exact HSD.out)) (Tch.of_below B2.out) (fun _ _ e => e)
      refine ⟨S', ⟨lb, vb, lc, gput g i (some v5), ?_⟩, Tch.trans t1 hT (fun _ _ e => e), fun k hk => ?_⟩
      · rw [HWR.out]; exact hD
      · rcases hS' k hk with e | e
        · exact .inl e
        · exact .inr (Nat.le_trans t1.size e)
    clear hu
    have hS : W2.drew.cell? ⟨d, 1, none⟩ = some (.map (some vb)) ∧ W2.drew.rangeAt q 0 (bcs xs) := ⟨c1, RA⟩
    have hSA : (W2.alloc (.cells (bcs xs).toArray 101)).drew.cell? ⟨d, 1, none⟩ = some (.map (some vb)) ∧ (W2.alloc (.cells (bcs xs).toArray 101)).drew.rangeAt q 0 (bcs xs) := ⟨CA, RAA⟩
    clear LK1 LK2 BS
    go_wp2_with fail
    refine wp_region_held (S := fun w' => w'.cell? ⟨d, 1, none⟩ = some (.map (some vb)) ∧ w'.rangeAt q 0 (bcs xs)) (by kernel_rfl) ?_
    refine takeT 0 (some 20) (.move (.tmp 0)) (Value.pointer (some ⟨d, 0, none⟩)) rfl (by kernel_rfl) (by kernel_rfl) (by kernel_rfl) (fun _ _ _ h => h) ?hy hS ?_
    case hy =>
      rintro o ho w' ⟨hS1, hS2⟩
      go_simp
    simp only [Act.put, List.setIfInBounds_toArray, List.set_cons_zero, List.set_cons_succ]
    refine takeT 1 (some 21) (.nilCheck (.tmp 20)) (Value.pointer (some ⟨d, 0, none⟩)) rfl (by kernel_rfl) (by kernel_rfl) (by kernel_rfl) (fun _ _ _ h => h) ?hy hS ?_
    case hy =>
      rintro o ho w' ⟨hS1, hS2⟩
      go_simp
    simp only [Act.put, List.setIfInBounds_toArray, List.set_cons_zero, List.set_cons_succ]
    refine takeT 2 (some 22) (.fieldAddr 64 (.tmp 21) 1) (Value.pointer (some ⟨d, 1, none⟩)) rfl (by kernel_rfl) (by kernel_rfl) (by kernel_rfl) (fun _ _ _ h => h) ?hy hS ?_
    case hy =>
      rintro o ho w' ⟨hS1, hS2⟩
      go_simp
    simp only [Act.put, List.setIfInBounds_toArray, List.set_cons_zero, List.set_cons_succ]
    refine takeT 3 (some 23) (.load 62 (.tmp 22)) (Value.map (some vb)) rfl (by kernel_rfl) (by kernel_rfl) (by kernel_rfl) (fun _ _ _ h => h) ?hy hS ?_
    case hy =>
      rintro o ho w' ⟨hS1, hS2⟩
      go_simp
    simp only [Act.put, List.setIfInBounds_toArray, List.set_cons_zero, List.set_cons_succ]
    refine takeT 4 (some 24) (.move (.tmp 1)) (Value.int .i64 (i : Int)) rfl (by kernel_rfl) (by kernel_rfl) (by kernel_rfl) (fun _ _ _ h => h) ?hy hS ?_
    case hy =>
      rintro o ho w' ⟨hS1, hS2⟩
      go_simp
    simp only [Act.put, List.setIfInBounds_toArray, List.set_cons_zero, List.set_cons_succ]
    refine takeT 5 (some 25) (.move (.tmp 0)) (Value.pointer (some ⟨d, 0, none⟩)) rfl (by kernel_rfl) (by kernel_rfl) (by kernel_rfl) (fun _ _ _ h => h) ?hy hS ?_
    case hy =>
      rintro o ho w' ⟨hS1, hS2⟩
      go_simp
    simp only [Act.put, List.setIfInBounds_toArray, List.set_cons_zero, List.set_cons_succ]
    refine takeT 6 (some 26) (.nilCheck (.tmp 25)) (Value.pointer (some ⟨d, 0, none⟩)) rfl (by kernel_rfl) (by kernel_rfl) (by kernel_rfl) (fun _ _ _ h => h) ?hy hS ?_
    case hy =>
      rintro o ho w' ⟨hS1, hS2⟩
      go_simp
    simp only [Act.put, List.setIfInBounds_toArray, List.set_cons_zero, List.set_cons_succ]
    refine takeT 7 (some 27) (.fieldAddr 64 (.tmp 26) 1) (Value.pointer (some ⟨d, 1, none⟩)) rfl (by kernel_rfl) (by kernel_rfl) (by kernel_rfl) (fun _ _ _ h => h) ?hy hS ?_
    case hy =>
      rintro o ho w' ⟨hS1, hS2⟩
      go_simp
    simp only [Act.put, List.setIfInBounds_toArray, List.set_cons_zero, List.set_cons_succ]
    refine takeT 8 (some 28) (.load 62 (.tmp 27)) (Value.map (some vb)) rfl (by kernel_rfl) (by kernel_rfl) (by kernel_rfl) (fun _ _ _ h => h) ?hy hS ?_
    case hy =>
      rintro o ho w' ⟨hS1, hS2⟩
      go_simp
    simp only [Act.put, List.setIfInBounds_toArray, List.set_cons_zero, List.set_cons_succ]
    refine takeT 9 (some 29) (.move (.tmp 1)) (Value.int .i64 (i : Int)) rfl (by kernel_rfl) (by kernel_rfl) (by kernel_rfl) (fun _ _ _ h => h) ?hy hS ?_
    case hy =>
      rintro o ho w' ⟨hS1, hS2⟩
      go_simp
    simp only [Act.put, List.setIfInBounds_toArray, List.set_cons_zero, List.set_cons_succ]
    refine takeArr 11 (some 31) 101 (.tmp 7) q 0 (bcs xs) _ rfl (by kernel_rfl) (by kernel_rfl) (by kernel_rfl) (fun _ _ _ h => h) rfl (fun w' h => h.2) hu74 rfl hs74 hS ?_
    simp only [Act.put, List.setIfInBounds_toArray, List.set_cons_zero, List.set_cons_succ]
    refine readyT2 10 12 (some 30) (some 32) (.lookup 62 (.tmp 28) (.tmp 29) false) (.buildSlice 61 1 #[(0, .tmp 31)]) rfl rfl (by kernel_rfl) ?_ ?_
    · rintro o K hd ho hg hK
      refine step_lookS (.tmp 28) (.tmp 29) ho vb s1.L.length i g rfl (MP.out.tch TD.out (fun e => e)) HI1.out N21.out rfl ?_
      rw [HU.out, hd]
      refine hK _ _ hS ?_
      simp only [Act.put, List.setIfInBounds_toArray, List.set_cons_zero, List.set_cons_succ]
      refine readyT 12 (some 32) (.buildSlice 61 1 #[(0, .tmp 31)]) rfl (by kernel_rfl) ?_
      rintro o K hd ho hg hK
      refine step_build1 (.tmp 31) ho xs HX.out rfl ?_
      rw [hd]
      refine hK _ _ hSA ?_
      simp only [Act.put, List.setIfInBounds_toArray, List.set_cons_zero, List.set_cons_succ]
      refine readyT 13 (some 33) (.call { callee := .builtin .append, args := #[.tmp 30, .tmp 32], argTypes := #[61, 61] }) rfl (by kernel_rfl) ?_
      rintro o K hd ho hg hK
      refine step_appS (w := (W2.alloc (.cells (bcs xs).toArray 101)).drew) (.tmp 30) (.tmp 32) ho u (s1.V i) rfl SU.out W2.heap.size 1 1 rfl [xs] rfl (SOk.one HX.out HY.out) NR.out HBD.out ?_
      intro v5 w5 hs5 hg5 hf5
      obtain ⟨w6, hrun6, k5, k6, fin⟩ := HPOST.out v5 w5 hs5 hg5 hf5
      clear hs5 hg5 hf5
      rw [hd]
      refine hK _ _ k5 ?_
      simp only [Act.put, List.setIfInBounds_toArray, List.set_cons_zero, List.set_cons_succ]
      refine readyT 14 none (.mapUpdate 62 (.tmp 23) (.tmp 24) (.tmp 33)) rfl (by kernel_rfl) ?_
      rintro o K hd ho hg hK
      refine step_upd (.tmp 23) (.tmp 24) (.tmp 33) ho _ _ _ rfl rfl rfl hrun6 ?_
      rw [hd]
      refine hK _ _ k6 ?_
      refine wpAnyH_done (by kernel_rfl) ?_ _
      clear ho hd hg hK
      simp only [Act.put]
      go_wp2_with fail
      go_ret
      exact ⟨rfl, fin.out⟩
    · rintro o K hd ho hg hK
      refine step_build1 (.tmp 31) ho xs HX.out rfl ?_
      rw [hd]
      refine hK _ _ hSA ?_
      simp only [Act.put, List.setIfInBounds_toArray, List.set_cons_zero, List.set_cons_succ]
      refine readyT 10 (some 30) (.lookup 62 (.tmp 28) (.tmp 29) false) rfl (by kernel_rfl) ?_
      rintro o K hd ho hg hK
      refine step_lookS (.tmp 28) (.tmp 29) ho vb s1.L.length i g rfl (MP.out.tch TDA.out (fun e => e)) HI1.out N21.out rfl ?_
      rw [HU.out, hd]
      refine hK _ _ hSA ?_
      simp only [Act.put, List.setIfInBounds_toArray, List.set_cons_zero, List.set_cons_succ]
      refine readyT 13 (some 33) (.call { callee := .builtin .append, args := #[.tmp 30, .tmp 32], argTypes := #[61, 61] }) rfl (by kernel_rfl) ?_
      rintro o K hd ho hg hK
      refine step_appS (w := (W2.alloc (.cells (bcs xs).toArray 101)).drew) (.tmp 30) (.tmp 32) ho u (s1.V i) rfl SU.out W2.heap.size 1 1 rfl [xs] rfl (SOk.one HX.out HY.out) NR.out HBD.out ?_
      intro v5 w5 hs5 hg5 hf5
      obtain ⟨w6, hrun6, k5, k6, fin⟩ := HPOST.out v5 w5 hs5 hg5 hf5
      clear hs5 hg5 hf5
      rw [hd]
      refine hK _ _ k5 ?_
      simp only [Act.put, List.setIfInBounds_toArray, List.set_cons_zero, List.set_cons_succ]
      refine readyT 14 none (.mapUpdate 62 (.tmp 23) (.tmp 24) (.tmp 33)) rfl (by kernel_rfl) ?_
      rintro o K hd ho hg hK
      refine step_upd (.tmp 23) (.tmp 24) (.tmp 33) ho _ _ _ rfl rfl rfl hrun6 ?_
      rw [hd]
      refine hK _ _ k6 ?_
      refine wpAnyH_done (by kernel_rfl) ?_ _
      clear ho hd hg hK
      simp only [Act.put]
      go_wp2_with fail
      go_ret
      exact ⟨rfl, fin.out⟩
end Go.Proofs.Ytgpaklifjonlkaa
/-
  All that was written lies there.
-/
namespace Go.Proofs.Ytgpaklifjonlkaa
open Go.RowKit Go.Maps
set_option linter.unusedVariables false
set_option linter.unusedSimpArgs false
set_option maxRecDepth 100000

/-- How far a flush is. -/
def FlM (s : DS) (g : Nat → Option Value) (left : Lit → Bool) (M : List (List Int)) : Prop :=
  M.length = s.L.length ∧ ∀ i, i < s.L.length → M.getD i [] = if (g i).isSome && !left (Lit.int .i64 (i : Int)) then s.has i else s.L.getD i []

theorem getD_set_list (M : List (List Int)) (i j : Nat) (x : List Int) (hi : i < M.length) : (M.set i x).getD j [] = if j = i then x else M.getD j [] := by
  rw [List.getD_eq_getElem?_getD, List.getElem?_set]
  by_cases e : i = j
  · subst e; simp [hi]
  · rw [if_neg e, if_neg (fun h => e h.symm), List.getD_eq_getElem?_getD]

theorem FlM.step {s : DS} {g : Nat → Option Value} {left : Lit → Bool} {M : List (List Int)} (h : FlM s g left M) {i : Nat} (hi : i < s.L.length) (hg : (g i).isSome) :
    FlM s g (fun z => left z && !z.sameKey (Lit.int .i64 (i : Int))) (M.set i (s.has i)) := by
  refine ⟨by rw [List.length_set]; exact h.1, fun j hj => ?_⟩
  rw [getD_set_list M i j _ (by rw [h.1]; exact hi)]
  by_cases e : j = i
  · subst e
    rw [if_pos rfl, hg]
    simp [Lit.sameKey]
  · rw [if_neg e, h.2 j hj]
    have : (Lit.int IntKind.i64 (j : Int)).sameKey (Lit.int .i64 (i : Int)) = false := by simp [Lit.sameKey]; omega
    simp [this]

theorem FlM.fin {s : DS} {g : Nat → Option Value} {left : Lit → Bool} {M : List (List Int)} (h : FlM s g left M) (hl : ∀ k, left k = false) (hn : ∀ i, g i = none → s.V i = []) : M = (List.range s.L.length).map s.has := by
  apply List.ext_getElem
  · rw [h.1]; simp
  · intro i h1 h2
    have hi : i < s.L.length := by rw [← h.1]; exact h1
    have := h.2 i hi
    rw [List.getD_eq_getElem?_getD, List.getElem?_eq_getElem h1] at this
    simp only [Option.getD_some] at this
    rw [this, hl]
    simp only [List.getElem_map, List.getElem_range]
    cases e : g i with
    | none => simp [DS.has, hn i e]
    | some v => simp

theorem FlM.start (s : DS) (g : Nat → Option Value) (n : Nat) (hn : n = s.L.length) : FlM s g (Maps.has (Dm n g)) s.L := by
  subst hn
  refine ⟨rfl, fun i hi => ?_⟩
  cases e : g i with
  | none => simp
  | some v =>
    have : Maps.has (Dm s.L.length g) (Lit.int .i64 (i : Int)) = true := dm_has.2 ⟨i, v, hi, e, rfl⟩
    simp [this]

theorem DS.has_ok {S : Nat → Prop} {w : World} {d : Nat} {s : DS} {lb vb lc : Nat} {g : Nat → Option Value} (h : DkAt S w d s lb vb lc g) {i : Nat} (hi : i < s.L.length) : (s.has i).length = 256 ∧ By (s.has i) := by
  unfold DS.has
  by_cases e : s.V i = []
  · rw [e]; exact h.lies.1.get hi
  · cases e2 : g i with
    | none => exact absurd (h.no i e2) e
    | some v => exact (h.yes i v e2).2.2.1.1.last e _

/-- Behind a flush. -/
theorem DkAt.flushed {S : Nat → Prop} {w w' : World} {d : Nat} {s : DS} {lb vb lc r : Nat} {g : Nat → Option Value} (h : DkAt S w d s lb vb lc g) (hr : w.heap.size ≤ r) (ht : Tch (fun k => k = lb ∨ k = r ∨ k = vb) w w')
    (hl : SecR w' (.slice (some ⟨lb, 0, none⟩) s.L.length lc) ((List.range s.L.length).map s.has)) (hm : Mp w' vb s.L.length (fun _ => none)) :
    DkTo S w w' d { s with L := (List.range s.L.length).map s.has, V := fun _ => [] } := by
  have hd : w'.heap[d]? = w.heap[d]? := ht.block d h.lt (by
    rintro (e | e | e)
    · exact h.ne_lb e
    · have := h.lt; omega
    · exact h.ne_vb e)
  refine ⟨S, ⟨lb, vb, lc, fun _ => none, ?_⟩, ?_, fun k hk => .inl hk⟩
  · exact {
      n1 := by simpa using h.n1
      n2 := by simpa using h.n2
      l30 := h.l30
      box := by rw [hd, h.box]; simp
      lies := by simpa using hl
      map := by simpa using hm
      no := fun _ _ => rfl
      yes := fun _ _ e => by cases e
      apart := fun _ _ _ _ e => by cases e
      sd := h.sd
      sl := h.sl
      sv := h.sv
      sg := fun _ _ _ e => by cases e
      slt := fun k hk => Nat.lt_of_lt_of_le (h.slt k hk) ht.size }
  · refine ht.mono (fun k hk e => ?_)
    rcases e with e | e | e
    · rw [e]; exact h.sl
    · omega
    · rw [e]; exact h.sv
/-- A map cleared. -/
theorem has_last {s : DS} {i : Nat} (h : s.V i ≠ []) : s.has i = (s.V i).getD ((s.V i).length - 1) [] := by
  unfold DS.has
  generalize s.L.getD i [] = x
  have : (s.V i).length ≠ 0 := fun e => h (List.eq_nil_of_length_eq_zero e)
  rw [List.getLastD_eq_getLast?, List.getLast?_eq_getElem?, List.getD_eq_getElem?_getD, List.getElem?_eq_getElem (by omega)]
  rfl

theorem run_clear {w : World} {vb n : Nat} {g : Nat → Option Value} (h : Mp w vb n g) (ty : TypeId) : ∃ w', (Builtin.clear_ #[62] ty #[.map (some vb)]).run Try.prog w = .ok (.tuple #[]) w' ∧ Mp w' vb n (fun _ => none) ∧ Tch (fun k => k = vb) w w' := by
  obtain ⟨es, clock, hb, F, _⟩ := h
  refine ⟨{ w with heap := w.heap.setIfInBounds vb (.map #[] clock) }, ?_, ?_, ?_⟩
  · simp [Builtin.clear_, run_underlying Try.underlying62, MapKept.run_getObj_map hb, MapKept.run_setObj_map _ hb, Result.andThen]
  · have hs : ({ w with heap := w.heap.setIfInBounds vb (.map #[] clock) } : World).heap[vb]? = some (.map #[] clock) := by
      have := (Array.getElem?_eq_some_iff.1 hb).1
      simp [this]
    refine mp_of (m := 0) (D := .map []) ⟨#[], clock, hs, ⟨by simp, MapKept.stamped_empty clock, by simp⟩, Nat.le_refl _, rfl⟩ (dm_empty (fun _ _ => rfl)).symm
  · refine ⟨rfl, rfl, rfl, by simp, fun k hk hne => ?_⟩
    show (w.heap.setIfInBounds vb (.map #[] clock))[k]? = w.heap[k]?
    rw [Array.getElem?_setIfInBounds_ne (fun e => hne e.symm)]

theorem wpList_clear {ops : Array Oper} {rest : List Oper} {o : Oper} {a : Act} {w : World} {Q : Exit → Act → World → Prop} (hgd : o.guard = none) (x : Operand) (ho : o.op = .call { callee := .builtin .clear, args := #[x], argTypes := #[62] })
    (vb n : Nat) (g : Nat → Option Value) (hx : a.eval x = .map (some vb)) (hM : Mp w vb n g) (h : ∀ w', Mp w' vb n (fun _ => none) → Tch (fun k => k = vb) w w' → wpList Try.prog ops Q rest (a.put o.dst (.tuple #[])) w') : wpList Try.prog ops Q (o :: rest) a w := by
  obtain ⟨w', hr, h1, h2⟩ := run_clear hM o.type
  refine wpList_plain hgd fun K hK => ?_
  unfold Oper.wp
  simp [execOp, ho, resolve, invoke, builtin, hx, hr, Result.andThen]
  exact hK _ _ (h w' h1 h2)

set_option maxHeartbeats 2000000 in
theorem flush_any {S : Nat → Prop} {d : Nat} {s : DS} (w : World) (h : Dk S w d s) :
    Calls Try.prog 34 #[dp d] w fun e w' => e = .returned (.tuple #[]) ∧ DkTo S w w' d s.fl := by
  obtain ⟨lb, vb, lc, g, h⟩ := h
  have H2 := hideP (isDone_any w h)
  have HSD : Hid (S d) := h.sd
  clear h
  obtain ⟨hv74, hi74⟩ := zero_of_info info_sec2
  have HI7 : Hid ((Try.prog.info? 101).map (·.size) = some 256) := hi74
  clear hv74 hi74
  go_enter Try.func34, Try.ntmps34
  go_wp2_with fail
  refine H2.out.mono ?_
  clear H2
  rintro e w1 ⟨rfl, hd1, ht1⟩
  cases hc : s.can with
  | false =>
    rw [hc] at hd1
    have D1 : Hid (DkAt S w1 d s lb vb lc g) := hd1
    have T1 : Hid (Tch (fun k => k = d) w w1) := ht1
    clear hd1 ht1
    go_wp2_with fail
    refine bodyPost_ret (results_none rfl _ _ _) rfl ?_
    refine ⟨rfl, S, ?_, T1.out.mono (fun k _ e => by rw [e]; exact HSD.out), fun k hk => .inl hk⟩
    rw [show s.fl = s by unfold DS.fl; rw [hc]; rfl]
    exact ⟨lb, vb, lc, g, D1.out⟩
  | true =>
    rw [hc] at hd1
    have D1 : Hid (DkAt S w1 d s.tick lb vb lc g) := hd1
    have T1 : Hid (Tch (fun k => k = d) w w1) := ht1
    have HFL : Hid (s.fl = { s.tick with L := (List.range s.tick.L.length).map s.tick.has, V := fun _ => [] }) := by show _ = _; unfold DS.fl; rw [hc]; rfl
    clear hd1 ht1
    generalize s.tick = s1 at D1 HFL
    clear hc
    have c1 := D1.out.c1
    have HM : Hid (Mp w1 vb s1.L.length g) := D1.out.map
    have HN2 : Hid (s1.L.length ≤ 4096) := D1.out.n2
    obtain ⟨n, hn⟩ : ∃ n, s1.L.length = n := ⟨_, rfl⟩
    have HN : Hid (s1.L.length = n) := hn
    rw [hn] at HM HN2
    clear hn
    go_wp2_with (at_range; refine wpList_range_own _ rfl (.tmp 10) 62 rfl 3 61 keyed3 Try.underlying62 Rv vb n (Dm n g) rfl HM.out ?_; intro w0 hrg0 hg0 hs0)
    go_frame
    obtain ⟨r, hr⟩ : ∃ r, w1.heap.size = r := ⟨_, rfl⟩
    have HRE : Hid (w1.heap.size = r) := hr
    rw [hr] at hrg0 ⊢
    have T0 : Hid (Tch (fun k => k = lb ∨ k = r ∨ k = vb) w1 w0) := (Tch.of_grown hg0).mono (fun k _ e => by cases e)
    have RG0 : Hid (w0.ranges Try.prog 3 Rv vb r n (Dm n g) (Maps.has (Dm n g)) (Maps.size (Dm n g))) := hrg0
    have L0 : Hid (SecR w0 (.slice (some ⟨lb, 0, none⟩) n lc) s1.L) := by
      have := D1.out.lies.tch (Tch.of_grown hg0) (fun j _ e => by cases e)
      rw [HN.out] at this
      exact this
    clear hr hrg0 hg0 hs0
    go_loopw [2] (fun _ wr => ∃ left cnt M, Hid (wr.ranges Try.prog 3 Rv vb r n (Dm n g) left cnt) ∧ Hid (SecR wr (.slice (some ⟨lb, 0, none⟩) n lc) M) ∧ Hid (FlM s1 g left M) ∧ Hid (Tch (fun k => k = lb ∨ k = r ∨ k = vb) w1 wr)) (fun _ wr => wr.rangeLeft vb r)
    case atStart => exact ⟨_, _, s1.L, RG0, L0, FlM.start s1 g n HN.out.symm, T0⟩
    case round =>
      obtain ⟨left, cnt, M, RG, LM, FM, TW⟩ := hrel
      have cd0 : wr.cell? ⟨d, 0, none⟩ = some (.slice (some ⟨lb, 0, none⟩) n lc) := by
        have hc0 := D1.out.c0
        rw [HN.out] at hc0
        rw [TW.out.cell (p := ⟨d, 0, none⟩) D1.out.lt (by
          rintro (e | e | e)
          · exact D1.out.ne_lb e
          · have := D1.out.lt; have := HRE.out; simp only at e; omega
          · exact D1.out.ne_vb e)]
        exact hc0
      have cd1 : wr.cell? ⟨d, 1, none⟩ = some (.map (some vb)) := by
        rw [TW.out.cell (p := ⟨d, 1, none⟩) D1.out.lt (by
          rintro (e | e | e)
          · exact D1.out.ne_lb e
          · have := D1.out.lt; have := HRE.out; simp only at e; omega
          · exact D1.out.ne_vb e)]
        exact c1
      go_wp2_with (at_next; refine wpList_next_ranges _ rfl (.tmp 11) rfl 3 keyed3 Rv (Value.int .i64) (fun v : Value => v) (fun key kl hk => by obtain ⟨x, hx, _⟩ := Maps.keyOf_int_inv Try.underlying3 hk; exact ⟨x, hx⟩) (fun v y _ => ⟨v, rfl⟩) vb r n _ _ _ rfl RG.out ?_ ?_)
      · intro _ hl0
        have MW : Hid (Mp wr vb n g) := RG.out.owns
        go_wp2_with (with_reducible (show wpList _ _ _ (Oper.mk _ (Op.call _) _ _ _ _ :: _) _ _); refine wpList_clear rfl (.tmp 32) rfl vb n g rfl MW.out ?_)
        intro w2 hm2 ht2
        have M2 : Hid (Mp w2 vb n (fun _ => none)) := hm2
        have T2 : Hid (Tch (fun k => k = vb) wr w2) := ht2
        clear hm2 ht2
        go_wp2_with fail
        go_end0
        refine ⟨rfl, ?_⟩
        rw [HFL.out]
        have e := FM.out.fin hl0 D1.out.no
        have hl2 : SecR w2 (.slice (some ⟨lb, 0, none⟩) n lc) M := LM.out.tch T2.out (fun j e => by cases e; exact D1.out.lb_vb)
        rw [e, ← HN.out] at hl2
        have hm3 := M2.out
        rw [← HN.out] at hm3
        have := D1.out.flushed (r := r) (Nat.le_of_eq HRE.out) (TW.out.trans T2.out (fun k _ e => .inr (.inr e))) hl2 hm3
        obtain ⟨S', h1, h2, h3⟩ := this
        have t1 : Tch S w w1 := T1.out.mono (fun k _ e => by rw [e]; exact HSD.out)
        refine ⟨S', h1, Tch.trans t1 h2 (fun _ _ e => e), fun k hk => ?_⟩
        rcases h3 k hk with e | e
        · exact .inl e
        · exact .inr (Nat.le_trans t1.size e)
      · intro x c kl yd yp w2 cnt2 hkey hlk hv hat hrg2 hlt hg2 hs2 hen
        obtain ⟨x', ex, rfl, _⟩ := Maps.keyOf_int_inv Try.underlying3 hkey
        cases ex
        have hyd : yd = .held c := by simp only [Rv, Option.some.injEq, Prod.mk.injEq] at hv; exact hv.1.symm
        obtain ⟨i, v, hi, hgi, ei⟩ := dm_has.1 (has_true_of_atKey (y := yd) hat)
        simp only [Lit.int.injEq, true_and] at ei
        subst ei
        have hcv : v = c := by
          have h1 := hat (.held v)
          rw [dm_at hi hgi, hyd] at h1
          simpa using h1
        subst hcv
        obtain ⟨_, hv2, hv3, _⟩ := D1.out.yes i v hgi
        obtain ⟨b, cap, rfl, hbd, hbv, hbl, hbS, hk0⟩ := D1.out.own hgi
        have hbr : b ≠ r := fun e => by have := D1.out.slt b hbS; have := HRE.out; omega
        have T2 : Hid (Tch (fun k => k = r) wr w2) := (Tch.of_grown hg2).mono (fun k _ e => by cases e; rfl)
        have TW2 : Hid (Tch (fun k => k = lb ∨ k = r ∨ k = vb) w1 w2) := TW.out.trans T2.out (fun k _ e => .inr (.inl e))
        have SV : Hid (SecR w2 (.slice (some ⟨b, 0, none⟩) (s1.V i).length cap) (s1.V i)) := hv3.tch TW2.out (fun j e => by
          cases e
          rintro (e | e | e)
          · exact hbl e
          · exact hbr e
          · exact hbv e)
        have HD0 : Hid (d ≠ r ∧ lb ≠ r) := ⟨fun e => by have := D1.out.lt; have := HRE.out; omega, fun e => by have := D1.out.slt _ D1.out.sl; have := HRE.out; omega⟩
        have LM2 : Hid (SecR w2 (.slice (some ⟨lb, 0, none⟩) n lc) M) := LM.out.tch T2.out (fun j e => by cases e; exact HD0.out.2)
        have HIN : Hid (i < n) := hi
        have HGI : Hid ((g i).isSome = true) := by show _ = _; rw [hgi]; rfl
        have HMI : Hid (i < M.length) := by show _ < _; rw [FM.out.1, HN.out]; exact hi
        have cd2 : w2.cell? ⟨d, 0, none⟩ = some (.slice (some ⟨lb, 0, none⟩) n lc) := by
          rw [T2.out.cell (p := ⟨d, 0, none⟩) (World.block_lt_of_cell? wr ⟨d, 0, none⟩ cd0) (fun e => HD0.out.1 e)]; exact cd0
        have HHAS : Hid (s1.has i = (s1.V i).getD ((s1.V i).length - 1) []) := has_last hv2
        have LV : w2.rangeAt b (((s1.V i).length - 1) * 256) (bcs ((s1.V i).getD ((s1.V i).length - 1) [])) := SV.out.load (by omega)
        have LY := hv3.1.get (i := (s1.V i).length - 1) (by omega)
        have hcap : (s1.V i).length ≤ cap ∧ cap ≤ maxLen := by obtain ⟨_, _, _, h1, h2, _⟩ := SV.out.blk; exact ⟨h1, h2⟩
        obtain ⟨y, hy⟩ : ∃ y, (s1.V i).getD ((s1.V i).length - 1) [] = y := ⟨_, rfl⟩
        rw [hy] at LV LY HHAS
        have HY1 : Hid (y.length = 256 ∧ By y) := LY
        obtain ⟨j, hj⟩ : ∃ j, (s1.V i).length - 1 = j := ⟨_, rfl⟩
        obtain ⟨m, hm⟩ : ∃ m, (s1.V i).length = m := ⟨_, rfl⟩
        rw [hj] at LV
        rw [hm] at hcap hj hk0 hen ⊢
        have hm1 : (m : Int) ≤ 9223372036854775807 := by have := hcap.1; have := hcap.2; unfold maxLen at this; omega
        have hmj : (m : Int) - 1 = (j : Int) := by omega
        have HJW : Hid (IntKind.i64.wrap (j : Int) = (j : Int)) := by show _ = _; rw [IntKind.wrap_i64]; omega
        have hj0 : (0 : Int) ≤ (j : Int) := by omega
        have hjm : (j : Int) < (m : Int) := by omega
        have hi0 : (0 : Int) ≤ (i : Int) := by omega
        have hin : (i : Int) < (n : Int) := by omega
        have hu74 := Try.underlying101
        have hs74 : (Try.prog.info? 101).map (·.size) = some (bcs y).length := by rw [HI7.out, bcs_len, HY1.out.1]
        have W3 : Hid (SecR (w2.setCells lb (i * 256) (bcs y)) (.slice (some ⟨lb, 0, none⟩) n lc) (M.set i y)) := LM2.out.put HMI.out HY1.out.1 HY1.out.2
        have T3 : Hid (Tch (fun k => k = lb) w2 (w2.setCells lb (i * 256) (bcs y))) := setCells_tchD lb (bcs y) (i * 256) w2
        have TH : Hid (w2.there lb (i * 256) 256) := LM2.out.there HMI.out
        have HBL : Hid (b ≠ lb ∧ d ≠ lb ∧ r ≠ lb ∧ vb ≠ lb) := ⟨hbl, D1.out.ne_lb, HD0.out.2.symm, D1.out.lb_vb.symm⟩
        have RG2 : Hid (w2.ranges Try.prog 3 Rv vb r n (Dm n g) (fun z => left z && !z.sameKey (Lit.int .i64 (i : Int))) cnt2) := hrg2
        have FM2 : Hid (FlM s1 g (fun z => left z && !z.sameKey (Lit.int .i64 (i : Int))) (M.set i y)) := by
          have := FM.out.step (by rw [HN.out]; exact hi) HGI.out
          rw [HHAS.out] at this
          exact this
        have HLT : Hid (cnt2 < cnt) := hlt
        clear hkey hlk hv hat hyd hgi hv2 hv3 hbd hbv hbl hbS hbr LY hy hj hcap hk0 hg2 hs2 hrg2 hlt hi HIN cd0 cd1 SV
        have hS : w2.drew.cell? ⟨d, 0, none⟩ = some (.slice (some ⟨lb, 0, none⟩) n lc) ∧ w2.drew.rangeAt b (j * 256) (bcs y) := ⟨cd2, LV⟩
        go_wp2_with fail
        refine wp_region_held (S := fun w' => w'.cell? ⟨d, 0, none⟩ = some (.slice (some ⟨lb, 0, none⟩) n lc) ∧ w'.rangeAt b (j * 256) (bcs y)) (by kernel_rfl) ?_
        refine takeT 0 (some 17) (.move (.tmp 0)) (Value.pointer (some ⟨d, 0, none⟩)) rfl (by kernel_rfl) (by kernel_rfl) (by kernel_rfl) (fun _ _ _ h => h) ?hy hS ?_
        case hy =>
          rintro o ho w' ⟨hS1, hS2⟩
          go_simp
        simp only [Act.put, List.setIfInBounds_toArray, List.set_cons_zero, List.set_cons_succ]
        refine takeT 1 (some 18) (.nilCheck (.tmp 17)) (Value.pointer (some ⟨d, 0, none⟩)) rfl (by kernel_rfl) (by kernel_rfl) (by kernel_rfl) (fun _ _ _ h => h) ?hy hS ?_
        case hy =>
          rintro o ho w' ⟨hS1, hS2⟩
          go_simp
        simp only [Act.put, List.setIfInBounds_toArray, List.set_cons_zero, List.set_cons_succ]
        refine takeT 2 (some 19) (.fieldAddr 64 (.tmp 18) 0) (Value.pointer (some ⟨d, 0, none⟩)) rfl (by kernel_rfl) (by kernel_rfl) (by kernel_rfl) (fun _ _ _ h => h) ?hy hS ?_
        case hy =>
          rintro o ho w' ⟨hS1, hS2⟩
          go_simp
        simp only [Act.put, List.setIfInBounds_toArray, List.set_cons_zero, List.set_cons_succ]
        refine takeT 3 (some 20) (.load 61 (.tmp 19)) (Value.slice (some ⟨lb, 0, none⟩) n lc) rfl (by kernel_rfl) (by kernel_rfl) (by kernel_rfl) (fun _ _ _ h => h) ?hy hS ?_
        case hy =>
          rintro o ho w' ⟨hS1, hS2⟩
          go_simp
        simp only [Act.put, List.setIfInBounds_toArray, List.set_cons_zero, List.set_cons_succ]
        refine takeT 4 (some 21) (.move (.tmp 2)) (Value.int .i64 (i : Int)) rfl (by kernel_rfl) (by kernel_rfl) (by kernel_rfl) (fun _ _ _ h => h) ?hy hS ?_
        case hy =>
          rintro o ho w' ⟨hS1, hS2⟩
          go_simp
        simp only [Act.put, List.setIfInBounds_toArray, List.set_cons_zero, List.set_cons_succ]
        refine takeT 5 (some 22) (.move (.tmp 3)) (Value.slice (some ⟨b, 0, none⟩) m cap) rfl (by kernel_rfl) (by kernel_rfl) (by kernel_rfl) (fun _ _ _ h => h) ?hy hS ?_
        case hy =>
          rintro o ho w' ⟨hS1, hS2⟩
          go_simp
        simp only [Act.put, List.setIfInBounds_toArray, List.set_cons_zero, List.set_cons_succ]
        refine takeT 6 (some 23) (.move (.tmp 3)) (Value.slice (some ⟨b, 0, none⟩) m cap) rfl (by kernel_rfl) (by kernel_rfl) (by kernel_rfl) (fun _ _ _ h => h) ?hy hS ?_
        case hy =>
          rintro o ho w' ⟨hS1, hS2⟩
          go_simp
        simp only [Act.put, List.setIfInBounds_toArray, List.set_cons_zero, List.set_cons_succ]
        refine takeT 7 (some 24) (.call { callee := .builtin .len, args := #[.tmp 23], argTypes := #[61] }) (Value.int .i64 (m : Int)) rfl (by kernel_rfl) (by kernel_rfl) (by kernel_rfl) (fun _ _ _ h => h) ?hy hS ?_
        case hy =>
          rintro o ho w' ⟨hS1, hS2⟩
          go_simp
        simp only [Act.put, List.setIfInBounds_toArray, List.set_cons_zero, List.set_cons_succ]
        refine takeT 8 (some 25) (.binOp .sub 3 (.tmp 24) (.const (.int .i64 1)) 3) (Value.int .i64 (j : Int)) rfl (by kernel_rfl) (by kernel_rfl) (by kernel_rfl) (fun _ _ _ h => h) ?hy hS ?_
        case hy =>
          rintro o ho w' ⟨hS1, hS2⟩
          go_simp
          exact HJW.out
        simp only [Act.put, List.setIfInBounds_toArray, List.set_cons_zero, List.set_cons_succ]
        refine takeT 9 (some 26) (.indexAddr 61 (.tmp 22) (.tmp 25)) (Value.pointer (some ⟨b, j * 256, none⟩)) rfl (by kernel_rfl) (by kernel_rfl) (by kernel_rfl) (fun _ _ _ h => h) ?hy hS ?_
        case hy =>
          rintro o ho w' ⟨hS1, hS2⟩
          go_simp
        simp only [Act.put, List.setIfInBounds_toArray, List.set_cons_zero, List.set_cons_succ]
        refine takeArr 10 (some 27) 101 (.tmp 26) b (j * 256) (bcs y) _ rfl (by kernel_rfl) (by kernel_rfl) (by kernel_rfl) (fun _ _ _ h => h) rfl (fun w' h => h.2) hu74 rfl hs74 hS ?_
        simp only [Act.put, List.setIfInBounds_toArray, List.set_cons_zero, List.set_cons_succ]
        refine takeT 11 (some 28) (.indexAddr 61 (.tmp 20) (.tmp 21)) (Value.pointer (some ⟨lb, i * 256, none⟩)) rfl (by kernel_rfl) (by kernel_rfl) (by kernel_rfl) (fun _ _ _ h => h) ?hy hS ?_
        case hy =>
          rintro o ho w' ⟨hS1, hS2⟩
          go_simp
        simp only [Act.put, List.setIfInBounds_toArray, List.set_cons_zero, List.set_cons_succ]
        refine readyT 12 none (.store 101 (.tmp 28) (.tmp 27)) rfl (by kernel_rfl) ?_
        rintro o K hd ho hg hK
        refine wp_store_mid (w := w2.drew) 101 (.tmp 28) (.tmp 27) ho lb (i * 256) (bcs y).toArray rfl rfl (by rw [List.size_toArray, bcs_len, HY1.out.1]; exact TH.out) (by rw [hs74, List.size_toArray]) (bcs_all y) ?_
        rw [hd]
        have T3D : Hid (Tch (fun k => k = lb) w2 (w2.drew.setCells lb (i * 256) (bcs y))) := Tch.trans (S := fun k => k = lb) (S' := fun k => k = lb) (Tch.drew (Tch.refl _ w2)) (setCells_tchD lb (bcs y) (i * 256) w2.drew) (fun _ _ e => e)
        have W3D : Hid (SecR (w2.drew.setCells lb (i * 256) (bcs y)) (.slice (some ⟨lb, 0, none⟩) n lc) (M.set i y)) := (show SecR w2.drew (.slice (some ⟨lb, 0, none⟩) n lc) M from LM2.out.tch (S := fun _ => False) (Tch.drew (Tch.refl _ w2)) (fun _ _ e => e)).put HMI.out HY1.out.1 HY1.out.2
        rw [List.toList_toArray]
        generalize hW4 : w2.drew.setCells lb (i * 256) (bcs y) = W4 at T3D W3D ⊢
        refine hK _ _ ⟨?_, ?_⟩ ?_
        · rw [T3D.out.cell (p := ⟨d, 0, none⟩) (World.block_lt_of_cell? w2 ⟨d, 0, none⟩ cd2) (fun e => HBL.out.2.1 e)]; exact cd2
        · intro k v hv
          have h0 := LV k v hv
          rw [T3D.out.cell (p := ⟨b, j * 256 + k, none⟩) (World.block_lt_of_cell? w2 ⟨b, j * 256 + k, none⟩ h0) (fun e => HBL.out.1 e)]; exact h0
        refine wpAnyH_done (by kernel_rfl) ?_ _
        clear ho hd hg hK hW4 hS LV
        simp only [Act.put]
        go_wp2_with fail
        have RG4 : W4.ranges Try.prog 3 Rv vb r n (Dm n g) (fun z => left z && !z.sameKey (Lit.int .i64 (i : Int))) cnt2 := RG2.out.kept (row := some lb) ⟨T3D.out.os, T3D.out.tape, T3D.out.output, T3D.out.size, fun k hk hne => T3D.out.block k hk (fun e => hne (by rw [e]))⟩ (fun e => by cases e; exact HBL.out.2.2.2 rfl) (fun e => by cases e; exact HBL.out.2.2.1 rfl)
        go_roundw
        case rel => exact ⟨_, cnt2, M.set i y, RG4, W3D, FM2, TW2.out.trans T3D.out (fun k _ e => .inl e)⟩
        case measure => rw [RG4.left_eq, RG.out.left_eq]; exact HLT.out
end Go.Proofs.Ytgpaklifjonlkaa
