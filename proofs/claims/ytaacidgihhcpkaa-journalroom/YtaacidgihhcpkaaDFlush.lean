/-
  All that was written lies there.
-/
import Derived.Test.YtaacidgihhcpkaaDWrite
namespace Go.Proofs.Ytaacidgihhcpkaa
open Go.RowKit Go.Maps
set_option linter.unusedVariables false
set_option linter.unusedSimpArgs false
set_option maxRecDepth 100000

/-- How far a flush is. -/
def FlM (s : DS) (g : Nat → Option Value) (left : Lit → Bool) (M : List (List Int)) : Prop :=
  M.length = s.L.length ∧ ∀ i, i < s.L.length → M.getD i [] = if (g i).isSome && !left (Lit.int .i64 (i : Int)) then s.has i else s.L.getD i []

theorem getD_set_list (M : List (List Int)) (i j : Nat) (x : List Int) (hi : i < M.length) : (M.set i x).getD j [] = if j = i then x else M.getD j [] := by
  rw [List.getD_eq_getElem?_getD, List.getElem?_set]
  by_cases e : i = j
  · subst e; simp [hi]
  · rw [if_neg e, if_neg (fun h => e h.symm), List.getD_eq_getElem?_getD]

theorem FlM.step {s : DS} {g : Nat → Option Value} {left : Lit → Bool} {M : List (List Int)} (h : FlM s g left M) {i : Nat} (hi : i < s.L.length) (hg : (g i).isSome) :
    FlM s g (fun z => left z && !z.sameKey (Lit.int .i64 (i : Int))) (M.set i (s.has i)) := by
  refine ⟨by rw [List.length_set]; exact h.1, fun j hj => ?_⟩
  rw [getD_set_list M i j _ (by rw [h.1]; exact hi)]
  by_cases e : j = i
  · subst e
    rw [if_pos rfl, hg]
    simp [Lit.sameKey]
  · rw [if_neg e, h.2 j hj]
    have : (Lit.int IntKind.i64 (j : Int)).sameKey (Lit.int .i64 (i : Int)) = false := by simp [Lit.sameKey]; omega
    simp [this]

theorem FlM.fin {s : DS} {g : Nat → Option Value} {left : Lit → Bool} {M : List (List Int)} (h : FlM s g left M) (hl : ∀ k, left k = false) (hn : ∀ i, g i = none → s.V i = []) : M = (List.range s.L.length).map s.has := by
  apply List.ext_getElem
  · rw [h.1]; simp
  · intro i h1 h2
    have hi : i < s.L.length := by rw [← h.1]; exact h1
    have := h.2 i hi
    rw [List.getD_eq_getElem?_getD, List.getElem?_eq_getElem h1] at this
    simp only [Option.getD_some] at this
    rw [this, hl]
    simp only [List.getElem_map, List.getElem_range]
    cases e : g i with
    | none => simp [DS.has, hn i e]
    | some v => simp

theorem FlM.start (s : DS) (g : Nat → Option Value) (n : Nat) (hn : n = s.L.length) : FlM s g (Maps.has (Dm n g)) s.L := by
  subst hn
  refine ⟨rfl, fun i hi => ?_⟩
  cases e : g i with
  | none => simp
  | some v =>
    have : Maps.has (Dm s.L.length g) (Lit.int .i64 (i : Int)) = true := dm_has.2 ⟨i, v, hi, e, rfl⟩
    simp [this]

theorem DS.has_ok {S : Nat → Prop} {w : World} {d : Nat} {s : DS} {lb vb lc : Nat} {g : Nat → Option Value} (h : DkAt S w d s lb vb lc g) {i : Nat} (hi : i < s.L.length) : (s.has i).length = 256 ∧ By (s.has i) := by
  unfold DS.has
  by_cases e : s.V i = []
  · rw [e]; exact h.lies.1.get hi
  · cases e2 : g i with
    | none => exact absurd (h.no i e2) e
    | some v => exact (h.yes i v e2).2.2.1.1.last e _

/-- Behind a flush. -/
theorem DkAt.flushed {S : Nat → Prop} {w w' : World} {d : Nat} {s : DS} {lb vb lc r : Nat} {g : Nat → Option Value} (h : DkAt S w d s lb vb lc g) (hr : w.heap.size ≤ r) (ht : Tch (fun k => k = lb ∨ k = r ∨ k = vb) w w')
    (hl : SecR w' (.slice (some ⟨lb, 0, none⟩) s.L.length lc) ((List.range s.L.length).map s.has)) (hm : Mp w' vb s.L.length (fun _ => none)) :
    DkTo S w w' d { s with L := (List.range s.L.length).map s.has, V := fun _ => [] } := by
  have hd : w'.heap[d]? = w.heap[d]? := ht.block d h.lt (by
    rintro (e | e | e)
    · exact h.ne_lb e
    · have := h.lt; omega
    · exact h.ne_vb e)
  refine ⟨S, ⟨lb, vb, lc, fun _ => none, ?_⟩, ?_, fun k hk => .inl hk⟩
  · exact {
      n1 := by simpa using h.n1
      n2 := by simpa using h.n2
      l30 := h.l30
      box := by rw [hd, h.box]; simp
      lies := by simpa using hl
      map := by simpa using hm
      no := fun _ _ => rfl
      yes := fun _ _ e => by cases e
      apart := fun _ _ _ _ e => by cases e
      sd := h.sd
      sl := h.sl
      sv := h.sv
      sg := fun _ _ _ e => by cases e
      slt := fun k hk => Nat.lt_of_lt_of_le (h.slt k hk) ht.size }
  · refine ht.mono (fun k hk e => ?_)
    rcases e with e | e | e
    · rw [e]; exact h.sl
    · omega
    · rw [e]; exact h.sv
/-- A map cleared. -/
theorem has_last {s : DS} {i : Nat} (h : s.V i ≠ []) : s.has i = (s.V i).getD ((s.V i).length - 1) [] := by
  unfold DS.has
  generalize s.L.getD i [] = x
  have : (s.V i).length ≠ 0 := fun e => h (List.eq_nil_of_length_eq_zero e)
  rw [List.getLastD_eq_getLast?, List.getLast?_eq_getElem?, List.getD_eq_getElem?_getD, List.getElem?_eq_getElem (by omega)]
  rfl

theorem run_clear {w : World} {vb n : Nat} {g : Nat → Option Value} (h : Mp w vb n g) (ty : TypeId) : ∃ w', (Builtin.clear_ #[63] ty #[.map (some vb)]).run Try.prog w = .ok (.tuple #[]) w' ∧ Mp w' vb n (fun _ => none) ∧ Tch (fun k => k = vb) w w' := by
  obtain ⟨es, clock, hb, F, _⟩ := h
  refine ⟨{ w with heap := w.heap.setIfInBounds vb (.map #[] clock) }, ?_, ?_, ?_⟩
  · simp [Builtin.clear_, run_underlying Try.underlying63, MapKept.run_getObj_map hb, MapKept.run_setObj_map _ hb, Result.andThen]
  · have hs : ({ w with heap := w.heap.setIfInBounds vb (.map #[] clock) } : World).heap[vb]? = some (.map #[] clock) := by
      have := (Array.getElem?_eq_some_iff.1 hb).1
      simp [this]
    refine mp_of (m := 0) (D := .map []) ⟨#[], clock, hs, ⟨by simp, MapKept.stamped_empty clock, by simp⟩, Nat.le_refl _, rfl⟩ (dm_empty (fun _ _ => rfl)).symm
  · refine ⟨rfl, rfl, rfl, by simp, fun k hk hne => ?_⟩
    show (w.heap.setIfInBounds vb (.map #[] clock))[k]? = w.heap[k]?
    rw [Array.getElem?_setIfInBounds_ne (fun e => hne e.symm)]

theorem wpList_clear {ops : Array Oper} {rest : List Oper} {o : Oper} {a : Act} {w : World} {Q : Exit → Act → World → Prop} (hgd : o.guard = none) (x : Operand) (ho : o.op = .call { callee := .builtin .clear, args := #[x], argTypes := #[63] })
    (vb n : Nat) (g : Nat → Option Value) (hx : a.eval x = .map (some vb)) (hM : Mp w vb n g) (h : ∀ w', Mp w' vb n (fun _ => none) → Tch (fun k => k = vb) w w' → wpList Try.prog ops Q rest (a.put o.dst (.tuple #[])) w') : wpList Try.prog ops Q (o :: rest) a w := by
  obtain ⟨w', hr, h1, h2⟩ := run_clear hM o.type
  refine wpList_plain hgd fun K hK => ?_
  unfold Oper.wp
  simp [execOp, ho, resolve, invoke, builtin, hx, hr, Result.andThen]
  exact hK _ _ (h w' h1 h2)

set_option maxHeartbeats 2000000 in
theorem flush_any {S : Nat → Prop} {d : Nat} {s : DS} (w : World) (h : Dk S w d s) :
    Calls Try.prog 15 #[dp d] w fun e w' => e = .returned (.tuple #[]) ∧ DkTo S w w' d s.fl := by
  obtain ⟨lb, vb, lc, g, h⟩ := h
  have H2 := hideP (isDone_any w h)
  have HSD : Hid (S d) := h.sd
  clear h
  obtain ⟨hv74, hi74⟩ := zero_of_info info_sec2
  have HI7 : Hid ((Try.prog.info? 83).map (·.size) = some 256) := hi74
  clear hv74 hi74
  go_enter Try.func15, Try.ntmps15
  go_wp2_with fail
  refine H2.out.mono ?_
  clear H2
  rintro e w1 ⟨rfl, hd1, ht1⟩
  cases hc : s.can with
  | false =>
    rw [hc] at hd1
    have D1 : Hid (DkAt S w1 d s lb vb lc g) := hd1
    have T1 : Hid (Tch (fun k => k = d) w w1) := ht1
    clear hd1 ht1
    go_wp2_with fail
    refine bodyPost_ret (results_none rfl _ _ _) rfl ?_
    refine ⟨rfl, S, ?_, T1.out.mono (fun k _ e => by rw [e]; exact HSD.out), fun k hk => .inl hk⟩
    rw [show s.fl = s by unfold DS.fl; rw [hc]; rfl]
    exact ⟨lb, vb, lc, g, D1.out⟩
  | true =>
    rw [hc] at hd1
    have D1 : Hid (DkAt S w1 d s.tick lb vb lc g) := hd1
    have T1 : Hid (Tch (fun k => k = d) w w1) := ht1
    have HFL : Hid (s.fl = { s.tick with L := (List.range s.tick.L.length).map s.tick.has, V := fun _ => [] }) := by show _ = _; unfold DS.fl; rw [hc]; rfl
    clear hd1 ht1
    generalize s.tick = s1 at D1 HFL
    clear hc
    have c1 := D1.out.c1
    have HM : Hid (Mp w1 vb s1.L.length g) := D1.out.map
    have HN2 : Hid (s1.L.length ≤ 4096) := D1.out.n2
    obtain ⟨n, hn⟩ : ∃ n, s1.L.length = n := ⟨_, rfl⟩
    have HN : Hid (s1.L.length = n) := hn
    rw [hn] at HM HN2
    clear hn
    go_wp2_with (at_range; refine wpList_range_own _ rfl (.tmp 10) 63 rfl 3 62 keyed3 Try.underlying63 Rv vb n (Dm n g) rfl HM.out ?_; intro w0 hrg0 hg0 hs0)
    go_frame
    obtain ⟨r, hr⟩ : ∃ r, w1.heap.size = r := ⟨_, rfl⟩
    have HRE : Hid (w1.heap.size = r) := hr
    rw [hr] at hrg0 ⊢
    have T0 : Hid (Tch (fun k => k = lb ∨ k = r ∨ k = vb) w1 w0) := (Tch.of_grown hg0).mono (fun k _ e => by cases e)
    have RG0 : Hid (w0.ranges Try.prog 3 Rv vb r n (Dm n g) (Maps.has (Dm n g)) (Maps.size (Dm n g))) := hrg0
    have L0 : Hid (SecR w0 (.slice (some ⟨lb, 0, none⟩) n lc) s1.L) := by
      have := D1.out.lies.tch (Tch.of_grown hg0) (fun j _ e => by cases e)
      rw [HN.out] at this
      exact this
    clear hr hrg0 hg0 hs0
    go_loopw [2] (fun _ wr => ∃ left cnt M, Hid (wr.ranges Try.prog 3 Rv vb r n (Dm n g) left cnt) ∧ Hid (SecR wr (.slice (some ⟨lb, 0, none⟩) n lc) M) ∧ Hid (FlM s1 g left M) ∧ Hid (Tch (fun k => k = lb ∨ k = r ∨ k = vb) w1 wr)) (fun _ wr => wr.rangeLeft vb r)
    case atStart => exact ⟨_, _, s1.L, RG0, L0, FlM.start s1 g n HN.out.symm, T0⟩
    case round =>
      obtain ⟨left, cnt, M, RG, LM, FM, TW⟩ := hrel
      have cd0 : wr.cell? ⟨d, 0, none⟩ = some (.slice (some ⟨lb, 0, none⟩) n lc) := by
        have hc0 := D1.out.c0
        rw [HN.out] at hc0
        rw [TW.out.cell (p := ⟨d, 0, none⟩) D1.out.lt (by
          rintro (e | e | e)
          · exact D1.out.ne_lb e
          · have := D1.out.lt; have := HRE.out; simp only at e; omega
          · exact D1.out.ne_vb e)]
        exact hc0
      have cd1 : wr.cell? ⟨d, 1, none⟩ = some (.map (some vb)) := by
        rw [TW.out.cell (p := ⟨d, 1, none⟩) D1.out.lt (by
          rintro (e | e | e)
          · exact D1.out.ne_lb e
          · have := D1.out.lt; have := HRE.out; simp only at e; omega
          · exact D1.out.ne_vb e)]
        exact c1
      go_wp2_with (at_next; refine wpList_next_ranges _ rfl (.tmp 11) rfl 3 keyed3 Rv (Value.int .i64) (fun v : Value => v) (fun key kl hk => by obtain ⟨x, hx, _⟩ := Maps.keyOf_int_inv Try.underlying3 hk; exact ⟨x, hx⟩) (fun v y _ => ⟨v, rfl⟩) vb r n _ _ _ rfl RG.out ?_ ?_)
      · intro _ hl0
        have MW : Hid (Mp wr vb n g) := RG.out.owns
        go_wp2_with (with_reducible (show wpList _ _ _ (Oper.mk _ (Op.call _) _ _ _ _ :: _) _ _); refine wpList_clear rfl (.tmp 32) rfl vb n g rfl MW.out ?_)
        intro w2 hm2 ht2
        have M2 : Hid (Mp w2 vb n (fun _ => none)) := hm2
        have T2 : Hid (Tch (fun k => k = vb) wr w2) := ht2
        clear hm2 ht2
        go_wp2_with fail
        go_end0
        refine ⟨rfl, ?_⟩
        rw [HFL.out]
        have e := FM.out.fin hl0 D1.out.no
        have hl2 : SecR w2 (.slice (some ⟨lb, 0, none⟩) n lc) M := LM.out.tch T2.out (fun j e => by cases e; exact D1.out.lb_vb)
        rw [e, ← HN.out] at hl2
        have hm3 := M2.out
        rw [← HN.out] at hm3
        have := D1.out.flushed (r := r) (Nat.le_of_eq HRE.out) (TW.out.trans T2.out (fun k _ e => .inr (.inr e))) hl2 hm3
        obtain ⟨S', h1, h2, h3⟩ := this
        have t1 : Tch S w w1 := T1.out.mono (fun k _ e => by rw [e]; exact HSD.out)
        refine ⟨S', h1, Tch.trans t1 h2 (fun _ _ e => e), fun k hk => ?_⟩
        rcases h3 k hk with e | e
        · exact .inl e
        · exact .inr (Nat.le_trans t1.size e)
      · intro x c kl yd yp w2 cnt2 hkey hlk hv hat hrg2 hlt hg2 hs2 hen
        obtain ⟨x', ex, rfl, _⟩ := Maps.keyOf_int_inv Try.underlying3 hkey
        cases ex
        have hyd : yd = .held c := by simp only [Rv, Option.some.injEq, Prod.mk.injEq] at hv; exact hv.1.symm
        obtain ⟨i, v, hi, hgi, ei⟩ := dm_has.1 (has_true_of_atKey (y := yd) hat)
        simp only [Lit.int.injEq, true_and] at ei
        subst ei
        have hcv : v = c := by
          have h1 := hat (.held v)
          rw [dm_at hi hgi, hyd] at h1
          simpa using h1
        subst hcv
        obtain ⟨_, hv2, hv3, _⟩ := D1.out.yes i v hgi
        obtain ⟨b, cap, rfl, hbd, hbv, hbl, hbS, hk0⟩ := D1.out.own hgi
        have hbr : b ≠ r := fun e => by have := D1.out.slt b hbS; have := HRE.out; omega
        have T2 : Hid (Tch (fun k => k = r) wr w2) := (Tch.of_grown hg2).mono (fun k _ e => by cases e; rfl)
        have TW2 : Hid (Tch (fun k => k = lb ∨ k = r ∨ k = vb) w1 w2) := TW.out.trans T2.out (fun k _ e => .inr (.inl e))
        have SV : Hid (SecR w2 (.slice (some ⟨b, 0, none⟩) (s1.V i).length cap) (s1.V i)) := hv3.tch TW2.out (fun j e => by
          cases e
          rintro (e | e | e)
          · exact hbl e
          · exact hbr e
          · exact hbv e)
        have HD0 : Hid (d ≠ r ∧ lb ≠ r) := ⟨fun e => by have := D1.out.lt; have := HRE.out; omega, fun e => by have := D1.out.slt _ D1.out.sl; have := HRE.out; omega⟩
        have LM2 : Hid (SecR w2 (.slice (some ⟨lb, 0, none⟩) n lc) M) := LM.out.tch T2.out (fun j e => by cases e; exact HD0.out.2)
        have HIN : Hid (i < n) := hi
        have HGI : Hid ((g i).isSome = true) := by show _ = _; rw [hgi]; rfl
        have HMI : Hid (i < M.length) := by show _ < _; rw [FM.out.1, HN.out]; exact hi
        have cd2 : w2.cell? ⟨d, 0, none⟩ = some (.slice (some ⟨lb, 0, none⟩) n lc) := by
          rw [T2.out.cell (p := ⟨d, 0, none⟩) (World.block_lt_of_cell? wr ⟨d, 0, none⟩ cd0) (fun e => HD0.out.1 e)]; exact cd0
        have HHAS : Hid (s1.has i = (s1.V i).getD ((s1.V i).length - 1) []) := has_last hv2
        have LV : w2.rangeAt b (((s1.V i).length - 1) * 256) (bcs ((s1.V i).getD ((s1.V i).length - 1) [])) := SV.out.load (by omega)
        have LY := hv3.1.get (i := (s1.V i).length - 1) (by omega)
        have hcap : (s1.V i).length ≤ cap ∧ cap ≤ maxLen := by obtain ⟨_, _, _, h1, h2, _⟩ := SV.out.blk; exact ⟨h1, h2⟩
        obtain ⟨y, hy⟩ : ∃ y, (s1.V i).getD ((s1.V i).length - 1) [] = y := ⟨_, rfl⟩
        rw [hy] at LV LY HHAS
        have HY1 : Hid (y.length = 256 ∧ By y) := LY
        obtain ⟨j, hj⟩ : ∃ j, (s1.V i).length - 1 = j := ⟨_, rfl⟩
        obtain ⟨m, hm⟩ : ∃ m, (s1.V i).length = m := ⟨_, rfl⟩
        rw [hj] at LV
        rw [hm] at hcap hj hk0 hen ⊢
        have hm1 : (m : Int) ≤ 9223372036854775807 := by have := hcap.1; have := hcap.2; unfold maxLen at this; omega
        have hmj : (m : Int) - 1 = (j : Int) := by omega
        have HJW : Hid (IntKind.i64.wrap (j : Int) = (j : Int)) := by show _ = _; rw [IntKind.wrap_i64]; omega
        have hj0 : (0 : Int) ≤ (j : Int) := by omega
        have hjm : (j : Int) < (m : Int) := by omega
        have hi0 : (0 : Int) ≤ (i : Int) := by omega
        have hin : (i : Int) < (n : Int) := by omega
        have hu74 := Try.underlying83
        have hs74 : (Try.prog.info? 83).map (·.size) = some (bcs y).length := by rw [HI7.out, bcs_len, HY1.out.1]
        have W3 : Hid (SecR (w2.setCells lb (i * 256) (bcs y)) (.slice (some ⟨lb, 0, none⟩) n lc) (M.set i y)) := LM2.out.put HMI.out HY1.out.1 HY1.out.2
        have T3 : Hid (Tch (fun k => k = lb) w2 (w2.setCells lb (i * 256) (bcs y))) := setCells_tchD lb (bcs y) (i * 256) w2
        have TH : Hid (w2.there lb (i * 256) 256) := LM2.out.there HMI.out
        have HBL : Hid (b ≠ lb ∧ d ≠ lb ∧ r ≠ lb ∧ vb ≠ lb) := ⟨hbl, D1.out.ne_lb, HD0.out.2.symm, D1.out.lb_vb.symm⟩
        have RG2 : Hid (w2.ranges Try.prog 3 Rv vb r n (Dm n g) (fun z => left z && !z.sameKey (Lit.int .i64 (i : Int))) cnt2) := hrg2
        have FM2 : Hid (FlM s1 g (fun z => left z && !z.sameKey (Lit.int .i64 (i : Int))) (M.set i y)) := by
          have := FM.out.step (by rw [HN.out]; exact hi) HGI.out
          rw [HHAS.out] at this
          exact this
        have HLT : Hid (cnt2 < cnt) := hlt
        clear hkey hlk hv hat hyd hgi hv2 hv3 hbd hbv hbl hbS hbr LY hy hj hcap hk0 hg2 hs2 hrg2 hlt hi HIN cd0 cd1 SV
        have hS : w2.drew.cell? ⟨d, 0, none⟩ = some (.slice (some ⟨lb, 0, none⟩) n lc) ∧ w2.drew.rangeAt b (j * 256) (bcs y) := ⟨cd2, LV⟩
        go_wp2_with fail
        refine wp_region_held (S := fun w' => w'.cell? ⟨d, 0, none⟩ = some (.slice (some ⟨lb, 0, none⟩) n lc) ∧ w'.rangeAt b (j * 256) (bcs y)) (by kernel_rfl) ?_
        refine takeT 0 (some 17) (.move (.tmp 0)) (Value.pointer (some ⟨d, 0, none⟩)) rfl (by kernel_rfl) (by kernel_rfl) (by kernel_rfl) (fun _ _ _ h => h) ?hy hS ?_
        case hy =>
          rintro o ho w' ⟨hS1, hS2⟩
          go_simp
        simp only [Act.put, List.setIfInBounds_toArray, List.set_cons_zero, List.set_cons_succ]
        refine takeT 1 (some 18) (.nilCheck (.tmp 17)) (Value.pointer (some ⟨d, 0, none⟩)) rfl (by kernel_rfl) (by kernel_rfl) (by kernel_rfl) (fun _ _ _ h => h) ?hy hS ?_
        case hy =>
          rintro o ho w' ⟨hS1, hS2⟩
          go_simp
        simp only [Act.put, List.setIfInBounds_toArray, List.set_cons_zero, List.set_cons_succ]
        refine takeT 2 (some 19) (.fieldAddr 65 (.tmp 18) 0) (Value.pointer (some ⟨d, 0, none⟩)) rfl (by kernel_rfl) (by kernel_rfl) (by kernel_rfl) (fun _ _ _ h => h) ?hy hS ?_
        case hy =>
          rintro o ho w' ⟨hS1, hS2⟩
          go_simp
        simp only [Act.put, List.setIfInBounds_toArray, List.set_cons_zero, List.set_cons_succ]
        refine takeT 3 (some 20) (.load 62 (.tmp 19)) (Value.slice (some ⟨lb, 0, none⟩) n lc) rfl (by kernel_rfl) (by kernel_rfl) (by kernel_rfl) (fun _ _ _ h => h) ?hy hS ?_
        case hy =>
          rintro o ho w' ⟨hS1, hS2⟩
          go_simp
        simp only [Act.put, List.setIfInBounds_toArray, List.set_cons_zero, List.set_cons_succ]
        refine takeT 4 (some 21) (.move (.tmp 2)) (Value.int .i64 (i : Int)) rfl (by kernel_rfl) (by kernel_rfl) (by kernel_rfl) (fun _ _ _ h => h) ?hy hS ?_
        case hy =>
          rintro o ho w' ⟨hS1, hS2⟩
          go_simp
        simp only [Act.put, List.setIfInBounds_toArray, List.set_cons_zero, List.set_cons_succ]
        refine takeT 5 (some 22) (.move (.tmp 3)) (Value.slice (some ⟨b, 0, none⟩) m cap) rfl (by kernel_rfl) (by kernel_rfl) (by kernel_rfl) (fun _ _ _ h => h) ?hy hS ?_
        case hy =>
          rintro o ho w' ⟨hS1, hS2⟩
          go_simp
        simp only [Act.put, List.setIfInBounds_toArray, List.set_cons_zero, List.set_cons_succ]
        refine takeT 6 (some 23) (.move (.tmp 3)) (Value.slice (some ⟨b, 0, none⟩) m cap) rfl (by kernel_rfl) (by kernel_rfl) (by kernel_rfl) (fun _ _ _ h => h) ?hy hS ?_
        case hy =>
          rintro o ho w' ⟨hS1, hS2⟩
          go_simp
        simp only [Act.put, List.setIfInBounds_toArray, List.set_cons_zero, List.set_cons_succ]
        refine takeT 7 (some 24) (.call { callee := .builtin .len, args := #[.tmp 23], argTypes := #[62] }) (Value.int .i64 (m : Int)) rfl (by kernel_rfl) (by kernel_rfl) (by kernel_rfl) (fun _ _ _ h => h) ?hy hS ?_
        case hy =>
          rintro o ho w' ⟨hS1, hS2⟩
          go_simp
        simp only [Act.put, List.setIfInBounds_toArray, List.set_cons_zero, List.set_cons_succ]
        refine takeT 8 (some 25) (.binOp .sub 3 (.tmp 24) (.const (.int .i64 1)) 3) (Value.int .i64 (j : Int)) rfl (by kernel_rfl) (by kernel_rfl) (by kernel_rfl) (fun _ _ _ h => h) ?hy hS ?_
        case hy =>
          rintro o ho w' ⟨hS1, hS2⟩
          go_simp
          exact HJW.out
        simp only [Act.put, List.setIfInBounds_toArray, List.set_cons_zero, List.set_cons_succ]
        refine takeT 9 (some 26) (.indexAddr 62 (.tmp 22) (.tmp 25)) (Value.pointer (some ⟨b, j * 256, none⟩)) rfl (by kernel_rfl) (by kernel_rfl) (by kernel_rfl) (fun _ _ _ h => h) ?hy hS ?_
        case hy =>
          rintro o ho w' ⟨hS1, hS2⟩
          go_simp
        simp only [Act.put, List.setIfInBounds_toArray, List.set_cons_zero, List.set_cons_succ]
        refine takeArr 10 (some 27) 83 (.tmp 26) b (j * 256) (bcs y) _ rfl (by kernel_rfl) (by kernel_rfl) (by kernel_rfl) (fun _ _ _ h => h) rfl (fun w' h => h.2) hu74 rfl hs74 hS ?_
        simp only [Act.put, List.setIfInBounds_toArray, List.set_cons_zero, List.set_cons_succ]
        refine takeT 11 (some 28) (.indexAddr 62 (.tmp 20) (.tmp 21)) (Value.pointer (some ⟨lb, i * 256, none⟩)) rfl (by kernel_rfl) (by kernel_rfl) (by kernel_rfl) (fun _ _ _ h => h) ?hy hS ?_
        case hy =>
          rintro o ho w' ⟨hS1, hS2⟩
          go_simp
        simp only [Act.put, List.setIfInBounds_toArray, List.set_cons_zero, List.set_cons_succ]
        refine readyT 12 none (.store 83 (.tmp 28) (.tmp 27)) rfl (by kernel_rfl) ?_
        rintro o K hd ho hg hK
        refine wp_store_mid (w := w2.drew) 83 (.tmp 28) (.tmp 27) ho lb (i * 256) (bcs y).toArray rfl rfl (by rw [List.size_toArray, bcs_len, HY1.out.1]; exact TH.out) (by rw [hs74, List.size_toArray]) (bcs_all y) ?_
        rw [hd]
        have T3D : Hid (Tch (fun k => k = lb) w2 (w2.drew.setCells lb (i * 256) (bcs y))) := Tch.trans (S := fun k => k = lb) (S' := fun k => k = lb) (Tch.drew (Tch.refl _ w2)) (setCells_tchD lb (bcs y) (i * 256) w2.drew) (fun _ _ e => e)
        have W3D : Hid (SecR (w2.drew.setCells lb (i * 256) (bcs y)) (.slice (some ⟨lb, 0, none⟩) n lc) (M.set i y)) := (show SecR w2.drew (.slice (some ⟨lb, 0, none⟩) n lc) M from LM2.out.tch (S := fun _ => False) (Tch.drew (Tch.refl _ w2)) (fun _ _ e => e)).put HMI.out HY1.out.1 HY1.out.2
        rw [List.toList_toArray]
        generalize hW4 : w2.drew.setCells lb (i * 256) (bcs y) = W4 at T3D W3D ⊢
        refine hK _ _ ⟨?_, ?_⟩ ?_
        · rw [T3D.out.cell (p := ⟨d, 0, none⟩) (World.block_lt_of_cell? w2 ⟨d, 0, none⟩ cd2) (fun e => HBL.out.2.1 e)]; exact cd2
        · intro k v hv
          have h0 := LV k v hv
          rw [T3D.out.cell (p := ⟨b, j * 256 + k, none⟩) (World.block_lt_of_cell? w2 ⟨b, j * 256 + k, none⟩ h0) (fun e => HBL.out.1 e)]; exact h0
        refine wpAnyH_done (by kernel_rfl) ?_ _
        clear ho hd hg hK hW4 hS LV
        simp only [Act.put]
        go_wp2_with fail
        have RG4 : W4.ranges Try.prog 3 Rv vb r n (Dm n g) (fun z => left z && !z.sameKey (Lit.int .i64 (i : Int))) cnt2 := RG2.out.kept (row := some lb) ⟨T3D.out.os, T3D.out.tape, T3D.out.output, T3D.out.size, fun k hk hne => T3D.out.block k hk (fun e => hne (by rw [e]))⟩ (fun e => by cases e; exact HBL.out.2.2.2 rfl) (fun e => by cases e; exact HBL.out.2.2.1 rfl)
        go_roundw
        case rel => exact ⟨_, cnt2, M.set i y, RG4, W3D, FM2, TW2.out.trans T3D.out (fun k _ e => .inl e)⟩
        case measure => rw [RG4.left_eq, RG.out.left_eq]; exact HLT.out
end Go.Proofs.Ytaacidgihhcpkaa
