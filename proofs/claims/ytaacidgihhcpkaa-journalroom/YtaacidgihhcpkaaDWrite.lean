/-
  A sector is written.
-/
import Derived.Test.YtaacidgihhcpkaaDWr
namespace Go.Proofs.Ytaacidgihhcpkaa
open Go.RowKit Go.Maps
set_option linter.unusedVariables false
set_option linter.unusedSimpArgs false
set_option maxRecDepth 100000

theorem write_range {S : Nat → Prop} {d : Nat} {s : DS} (at_ : Int) (a : Option Addr) (len cap : Nat) (w : World) (h : Dk S w d s) (hb : at_ < 0 ∨ (s.L.length : Int) ≤ at_) :
    Calls Try.prog 19 #[dp d, .int .i64 at_, .slice a len cap] w fun e w' => e = .returned (.int .i64 2) ∧ w' = w := by
  obtain ⟨lb, vb, lc, g, h⟩ := h
  have hf : (decide (0 ≤ at_) && decide (at_ < (s.L.length : Int))) = false := by
    rw [Bool.and_eq_false_iff, decide_eq_false_iff_not, decide_eq_false_iff_not]; omega
  have H := isThere_any at_ w h
  rw [hf] at H
  have H := hideP H
  clear h hb
  go_enter Try.func19, Try.ntmps19
  go_wp2_with fail
  refine H.out.mono ?_
  rintro e w ⟨rfl, rfl⟩
  go_wp2_with fail
  go_ret
  exact ⟨rfl, rfl⟩

theorem write_len {S : Nat → Prop} {d : Nat} {s : DS} (i : Nat) (a : Option Addr) (len cap : Nat) (w : World) (h : Dk S w d s) (hi : i < s.L.length) (hl : len ≠ 256) (hm : len ≤ maxLen) :
    Calls Try.prog 19 #[dp d, .int .i64 (i : Int), .slice a len cap] w fun e w' => e = .returned (.int .i64 1) ∧ w' = w := by
  obtain ⟨lb, vb, lc, g, h⟩ := h
  have hf : (decide (0 ≤ (i : Int)) && decide ((i : Int) < (s.L.length : Int))) = true := by
    rw [Bool.and_eq_true, decide_eq_true_eq, decide_eq_true_eq]; omega
  have H := isThere_any i w h
  rw [hf] at H
  have H := hideP H
  have hl2 : ((len : Int) == 256) = false := by rw [beq_eq_false_iff_ne]; omega
  clear h
  go_enter Try.func19, Try.ntmps19
  go_wp2_with fail
  refine H.out.mono ?_
  rintro e w ⟨rfl, rfl⟩
  go_wp2_with fail
  go_ret
  exact ⟨rfl, rfl⟩

/-- A version more. -/
theorem DkAt.more {S : Nat → Prop} {w w' : World} {d : Nat} {s : DS} {lb vb lc : Nat} {g : Nat → Option Value} (h : DkAt S w d s lb vb lc g) {i : Nat} (hi : i < s.L.length) {v : Value} {x : List Int}
    {wa : World} (ta : Tch (fun k => (gv g i).ownBlock = some k) w wa) (hv : SecR wa v (s.V i ++ [x])) (hf : ∀ k, v.ownBlock = some k → (gv g i).ownBlock = some k ∨ w.heap.size ≤ k)
    (hm : Mp w' vb s.L.length (gput g i (some v))) (tb : Tch (fun k => k = vb) wa w') :
    ∃ S', DkAt S' w' d { s with V := vput s.V i (s.V i ++ [x]) } lb vb lc (gput g i (some v)) ∧ Tch S w w' ∧ ∀ k, S' k → S k ∨ w.heap.size ≤ k := by
  have hgs : ∀ k, (gv g i).ownBlock = some k → S k ∧ k ≠ d ∧ k ≠ lb ∧ k ≠ vb := fun k hk => by
    unfold gv at hk
    cases e : g i with
    | none => rw [e] at hk; cases hk
    | some u =>
      rw [e] at hk
      obtain ⟨b, cap, rfl, h1, h2, h3, h4, _⟩ := h.own e
      cases hk
      exact ⟨h4, h1, h3, h2⟩
  have hgj : ∀ j u k, g j = some u → j ≠ i → u.ownBlock = some k → (gv g i).ownBlock ≠ some k := fun j u k hj hne hk e => by
    unfold gv at e
    cases e2 : g i with
    | none => rw [e2] at e; cases e
    | some u2 =>
      rw [e2] at e
      exact h.apart j i u u2 hj e2 hne (hk.trans e.symm)
  have hsz := ta.size
  have hvlt := hv.lt
  have hob : ∃ b, v.ownBlock = some b := by
    obtain ⟨b, cap, cur, rfl, _⟩ := hv.shape (by simp)
    exact ⟨b, rfl⟩
  obtain ⟨vbk, hvbk⟩ := hob
  have hcur : ∀ k, v.ownBlock = some k → k ≠ vb ∧ k ≠ d ∧ k ≠ lb := fun k hk => by
    rcases hf k hk with e | e
    · have := hgs k e; exact ⟨this.2.2.2, this.2.1, this.2.2.1⟩
    · have h1 := h.map.lt; have h2 := h.lt; have h3 := h.slt _ h.sl; omega
  refine ⟨fun k => S k ∨ v.ownBlock = some k, ?_, ?_, ?_⟩
  · have hd1 : wa.heap[d]? = w.heap[d]? := ta.block d h.lt (fun e => (hgs d e).2.1 rfl)
    have hd2 : w'.heap[d]? = wa.heap[d]? := tb.block d (Nat.lt_of_lt_of_le h.lt hsz) (fun e => h.ne_vb e)
    exact {
      n1 := h.n1
      n2 := h.n2
      l30 := h.l30
      box := by rw [hd2, hd1]; exact h.box
      lies := (h.lies.tch ta (fun j e => by cases e; exact fun e => (hgs _ e).2.2.1 rfl)).tch tb (fun j e => by cases e; exact fun e => h.lb_vb e)
      map := hm
      no := fun j hj => by
        by_cases e : j = i
        · subst e; simp [gput] at hj
        · simp only [gput, if_neg e] at hj
          simp only [vput, if_neg e]
          exact h.no j hj
      yes := fun j u hj => by
        by_cases e : j = i
        · subst e
          simp only [gput, if_pos] at hj
          cases hj
          simp only [vput, if_pos]
          exact ⟨hi, by simp, hv.tch tb (fun k hk => (hcur k hk).1), fun e => (hcur lb e).2.2 rfl⟩
        · simp only [gput, if_neg e] at hj
          simp only [vput, if_neg e]
          obtain ⟨h1, h2, h3, h4⟩ := h.yes j u hj
          refine ⟨h1, h2, (h3.tch ta (fun k hk => hgj j u k hj e hk)).tch tb (fun k hk e2 => ?_), h4⟩
          obtain ⟨b, cap, rfl, _, h5, _⟩ := h.own hj
          cases hk
          exact h5 e2
      apart := fun j k u u2 hj hk hne => by
        have key : ∀ j u, g j = some u → j ≠ i → u.ownBlock ≠ v.ownBlock := fun j u hj hne e => by
          obtain ⟨b, cap, rfl, _, _, _, h4, _⟩ := h.own hj
          have hb : v.ownBlock = some b := e.symm
          rcases hf b hb with e2 | e2
          · exact hgj j _ b hj hne rfl e2
          · have := h.slt b h4; omega
        by_cases e : j = i
        · subst e
          simp only [gput, if_pos] at hj
          cases hj
          simp only [gput, if_neg (Ne.symm hne)] at hk
          exact fun e => key k u2 hk (Ne.symm hne) e.symm
        · simp only [gput, if_neg e] at hj
          by_cases e2 : k = i
          · subst e2
            simp only [gput, if_pos] at hk
            cases hk
            exact key j u hj e
          · simp only [gput, if_neg e2] at hk
            exact h.apart j k u u2 hj hk hne
      sd := .inl h.sd
      sl := .inl h.sl
      sv := .inl h.sv
      sg := fun j u k hj hk => by
        by_cases e : j = i
        · subst e
          simp only [gput, if_pos] at hj
          cases hj
          exact .inr hk
        · simp only [gput, if_neg e] at hj
          exact .inl (h.sg j u k hj hk)
      slt := fun k hk => by
        have := tb.size
        rcases hk with hk | hk
        · have := h.slt k hk; omega
        · have := hvlt k hk; omega }
  · exact (ta.mono (S' := S) (fun k _ e => (hgs k e).1)).trans tb (fun k _ e => by rw [e]; exact h.sv)
  · rintro k (hk | hk)
    · exact .inl hk
    · rcases hf k hk with e | e
      · exact .inl (hgs k e).1
      · exact .inr e

theorem splice_all (xs ys : List Value) (h : xs.length = ys.length) : splice xs 0 ys = ys := by
  unfold splice
  simp [h]

set_option maxHeartbeats 2000000 in
theorem write_ok {S : Nat → Prop} {d : Nat} {s : DS} (i : Nat) (v : Value) (xs : List Int) (w : World) (h : Dk S w d s) (hi : i < s.L.length) (hr : Rd .u8 w v xs) (hx : xs.length = 256) (hy : By xs) (hv : ∀ k, v.ownBlock = some k → ¬ S k) (hm : (s.V i).length < 274877906943) :
    Calls Try.prog 19 #[dp d, .int .i64 (i : Int), v] w fun e w' => e = .returned (.int .i64 0) ∧ DkTo S w w' d (s.wr i xs) := by
  obtain ⟨lb, vb, lc, g, h⟩ := h
  have hf : (decide (0 ≤ (i : Int)) && decide ((i : Int) < (s.L.length : Int))) = true := by
    rw [Bool.and_eq_true, decide_eq_true_eq, decide_eq_true_eq]; omega
  have H := isThere_any i w h
  rw [hf] at H
  have H := hideP H
  have H2 := hideP (isDone_any w h)
  have HR : Hid (Rd .u8 w v xs) := hr
  obtain ⟨a, cap, rfl, _⟩ := hr
  rw [hx]
  rw [hx] at HR hv
  have HV : Hid (∀ k, (Value.slice a 256 cap).ownBlock = some k → ¬ S k) := hv
  have HX : Hid (xs.length = 256) := hx
  have HY : Hid (By xs) := hy
  have HM : Hid ((s.V i).length < 274877906943) := hm
  have n2 : Hid (s.L.length ≤ 4096) := h.n2
  have HI : Hid (i < s.L.length) := hi
  obtain ⟨hv74, hi74⟩ := zero_of_info info_sec2
  have HI7 : Hid ((Try.prog.info? 83).map (·.size) = some 256) := hi74
  have HSD : Hid (S d) := h.sd
  have HSLT0 : Hid (∀ k, S k → k < w.heap.size) := h.slt
  clear h hv hx hy hm hf hi hi74
  obtain ⟨Z, hZ⟩ : ∃ Z, Hid ((bcs zz).toArray = Z) := ⟨_, rfl⟩
  rw [hZ.out] at hv74
  have HSL := slice_sec
  go_enter Try.func19, Try.ntmps19
  go_wp2_with fail
  refine H.out.mono ?_
  rintro e w ⟨rfl, rfl⟩
  clear H
  go_wp2_with fail
  refine H2.out.mono ?_
  clear H2
  rintro e w1 ⟨rfl, hd1, ht1⟩
  cases hc : s.can with
  | false =>
    rw [hc] at hd1
    have D1 : Hid (DkAt S w1 d s lb vb lc g) := hd1
    have T1 : Hid (Tch (fun k => k = d) w w1) := ht1
    clear hd1 ht1
    go_wp2_with fail
    go_ret
    refine ⟨rfl, S, ?_, T1.out.mono (fun k _ e => by rw [e]; exact HSD.out), fun k hk => .inl hk⟩
    rw [show s.wr i xs = s by unfold DS.wr; rw [hc]; rfl]
    exact ⟨lb, vb, lc, g, D1.out⟩
  | true =>
    rw [hc] at hd1
    have D1 : Hid (DkAt S w1 d s.tick lb vb lc g) := hd1
    have T1 : Hid (Tch (fun k => k = d) w w1) := ht1
    have HSLT : Hid (∀ k, S k → k < w1.heap.size) := fun k hk => Nat.lt_of_lt_of_le (HSLT0.out k hk) ht1.size
    have R1 : Hid (Rd .u8 w1 (.slice a 256 cap) xs) := by
      refine HR.out.tch ht1 (fun b hb e => HV.out b hb ?_)
      rw [e]; exact HSD.out
    have HWR : Hid (s.wr i xs = { s.tick with V := vput s.tick.V i (s.tick.V i ++ [xs]) }) := by show _ = _; unfold DS.wr; rw [hc]; rfl
    have HM1 : Hid ((s.tick.V i).length < 274877906943) := HM.out
    have HI1 : Hid (i < s.tick.L.length) := HI.out
    have N21 : Hid (s.tick.L.length ≤ 4096) := n2.out
    clear hd1 ht1 HM HI n2 HR
    generalize s.tick = s1 at D1 HWR HM1 HI1 N21
    clear hc
    have hi1 : Hid ((Try.prog.info? 5).map (·.size) = some 1) := by show _ = _; kernel_rfl
    obtain ⟨W0, hW0⟩ : ∃ W0, w1.alloc (.cells Z 83) = W0 := ⟨_, rfl⟩
    have HW0 : Hid (w1.alloc (.cells Z 83) = W0) := hW0
    obtain ⟨q, hq⟩ : ∃ q, w1.heap.size = q := ⟨_, rfl⟩
    have HQE : Hid (w1.heap.size = q) := hq
    have B0 : Hid (Below w1.heap.size w1 W0) := by rw [← hW0]; exact (Below.refl _ _).alloc (Nat.le_refl _) _
    have Q0 : Hid (W0.heap[q]? = some (.cells (bcs zz).toArray 83 (0, 0))) := by show _ = _; rw [← hW0, ← hq, hZ.out]; exact heap_alloc_new w1 _
    have R0 : Hid (Rd .u8 W0 (.slice a 256 cap) xs) := R1.out.below B0.out
    have HZL : Hid ((bcs zz).length = (bcs xs).length) := by show _ = _; rw [bcs_len, bcs_len, zz_len, HX.out]
    have HCP : Hid (0 < (bcs xs).length → ∃ ad, a = some ad ∧ ∀ j u, (bcs xs)[j]? = some u → W0.cell? (ad.add j) = some u) := fun hp => by
      obtain ⟨a', cap', e, _, _, _, hcc⟩ := R0.out
      simp only [Value.slice.injEq] at e
      obtain ⟨rfl, _, rfl⟩ := e
      rcases hcc with e | ⟨b, o, rfl, hc⟩
      · rw [e] at hp; simp [bcs] at hp
      · refine ⟨_, rfl, fun j u hu => ?_⟩
        have hj : j < xs.length := by simpa [bcs] using (List.getElem?_eq_some_iff.1 hu).1
        rw [Addr.add_lit, hc j hj]
        simp [bcs, List.getD_eq_getElem?_getD, hj] at hu ⊢
        exact hu
    have HNM : Hid ((bcs xs).length = Nat.min 256 256) := by show _ = _; rw [bcs_len]; exact HX.out
    have HFT : Hid (0 + (bcs xs).length ≤ (bcs zz).length) := by show _ ≤ _; rw [HZL.out]; omega
    clear hq hW0
    go_wp2_with (with_reducible (show wpList _ _ _ (Oper.mk _ (Op.call _) _ _ _ _ :: _) _ _); refine Hid.out ?_)
    refine hideP ?_
    rw [HW0.out, HQE.out]
    refine wpList_copy_splice rfl (.tmp 17) (.tmp 18) 36 36 rfl 5 Try.underlying36 hi1.out (some ⟨q, 0, none⟩) a 256 256 256 cap ?h1 ?h2 q 0 (bcs zz) 83 Q0.out (bcs xs) HNM.out (fun hp => ⟨rfl, HCP.out hp⟩) HFT.out (bcs_one xs) w1.heap.size w1 B0.out (Nat.le_of_eq HQE.out) ?_
    case h1 => kernel_rfl
    case h2 => kernel_rfl
    intro W2 hQ2 hb2
    rw [splice_all _ _ HZL.out] at hQ2
    have B2 : Hid (Below w1.heap.size w1 W2) := hb2
    have Q2 : Hid (W2.heap[q]? = some (.cells (bcs xs).toArray 83 (0, 0))) := hQ2.out
    have D2 : Hid (DkAt S W2 d s1 lb vb lc g) := D1.out.tch (R := fun _ => False) (Tch.of_below hb2) (fun _ _ e => e)
    have HQS : Hid (q < W2.heap.size) := (Array.getElem?_eq_some_iff.1 hQ2.out).1
    clear hQ2 hb2 B0 Q0 R0 HCP HNM HFT HZL D1 R1 HW0
    have c1 := D2.out.c1
    have hu74 := Try.underlying83
    have hs74 : (Try.prog.info? 83).map (·.size) = some (bcs xs).length := by rw [HI7.out, bcs_len, HX.out]
    have TD : Hid (Tch (fun _ => False) W2 W2.drew) := Tch.drew (Tch.refl _ W2)
    have TDA : Hid (Tch (fun _ => False) W2 (W2.alloc (.cells (bcs xs).toArray 83)).drew) := Tch.drew (Tch.alloc (Tch.refl _ W2) _)
    have MP : Hid (Mp W2 vb s1.L.length g) := D2.out.map
    have RA : W2.rangeAt q 0 (bcs xs) := fun j u hu => by
      rw [Nat.zero_add, cell_of_row W2 q j _ _ (0, 0) Q2.out]
      simpa using hu
    obtain ⟨u, hu⟩ : ∃ u, gv g i = u := ⟨_, rfl⟩
    have HU : Hid (gv g i = u) := hu
    have LK1 := (MP.out.tch TD.out (fun e => e)).look HI1.out N21.out
    have LK2 := (MP.out.tch TDA.out (fun e => e)).look HI1.out N21.out
    have BS := run_build1 xs HX.out
    rw [hu] at LK1 LK2
    have HUB : Hid (∀ k, u.ownBlock = some k → k ≠ d ∧ k ≠ q ∧ k ≠ vb ∧ k < w1.heap.size) := fun k hk => by
      rw [← hu] at hk
      unfold gv at hk
      cases e : g i with
      | none => rw [e] at hk; cases hk
      | some x =>
        rw [e] at hk
        obtain ⟨b, cp, rfl, h1, h2, h3, h4, _⟩ := D2.out.own e
        cases hk
        have hb1 := HSLT.out b h4
        have hb2 : b ≠ q := fun e => by rw [e, ← HQE.out] at hb1; exact Nat.lt_irrefl _ hb1
        exact ⟨h1, hb2, h2, hb1⟩
    have SU : Hid (SecR (W2.alloc (.cells (bcs xs).toArray 83)).drew u (s1.V i)) := by
      rw [← hu]
      unfold gv
      cases e : g i with
      | none => rw [D2.out.no i e]; exact SecR.nil _
      | some x => exact (D2.out.yes i x e).2.2.1.tch TDA.out (fun _ _ e => e)
    have NR : Hid ((W2.alloc (.cells (bcs xs).toArray 83)).drew.rangeAt W2.heap.size 0 (bcs [xs].flatten)) := by
      rw [List.flatten_cons, List.flatten_nil, List.append_nil]
      exact rangeAt_new W2 (bcs xs) _
    have HBD : Hid ((s1.V i).length + [xs].length ≤ 274877906944) := by have := HM1.out; show _ ≤ _; simp; omega
    have CA : (W2.alloc (.cells (bcs xs).toArray 83)).drew.cell? ⟨d, 1, none⟩ = some (.map (some vb)) := by rw [TDA.out.cell (p := ⟨d, 1, none⟩) D2.out.lt (fun e => e)]; exact c1
    have RAA : (W2.alloc (.cells (bcs xs).toArray 83)).drew.rangeAt q 0 (bcs xs) := World.rangeAt_alloc (w := W2) RA _
    have HPOST : Hid (∀ v5 w5, SecR w5 v5 (s1.V i ++ [xs]) → (W2.alloc (.cells (bcs xs).toArray 83)).drew.grownBy w5 u.ownBlock → (∀ k, v5.ownBlock = some k → u.ownBlock = some k ∨ (W2.alloc (.cells (bcs xs).toArray 83)).drew.heap.size ≤ k) →
        ∃ w6, (Instr.mapUpdate 63 (.map (some vb)) (.int .i64 (i : Int)) v5).run Try.prog w5 = .ok () w6 ∧ (w5.cell? ⟨d, 1, none⟩ = some (.map (some vb)) ∧ w5.rangeAt q 0 (bcs xs)) ∧ (w6.cell? ⟨d, 1, none⟩ = some (.map (some vb)) ∧ w6.rangeAt q 0 (bcs xs)) ∧ Hid (DkTo S w w6 d (s.wr i xs))) := by
      intro v5 w5 hs5 hg5 hf5
      have T5 : Tch (fun k => u.ownBlock = some k) W2 w5 := (TDA.out.mono (S' := fun k => u.ownBlock = some k) (fun _ _ e => e.elim)).trans (Tch.of_grown hg5) (fun _ _ e => e)
      have h1 : DkAt S W2 d s1 lb vb lc g := D2.out
      have M5 : Mp w5 vb s1.L.length g := h1.map.tch T5 (fun e => (HUB.out vb e).2.2.1 rfl)
      obtain ⟨w6, hrun, r1, r2⟩ := World.ownsMap.update (val := v5) (d := .held v5) (ps := []) M5 keyed3 Try.underlying63 (by have := N21.out; unfold maxLen; omega) (key3 (i := i) (by have := N21.out; have := HI1.out; omega)) rfl
      have M6 := mp_of r1 (dm_put HI1.out v5 (r1.canon keyed3))
      have T6 : Tch (fun k => k = vb) w5 w6 := (Tch.of_grown r2).mono (fun k _ e => by cases e; rfl)
      have k5 : w5.cell? ⟨d, 1, none⟩ = some (.map (some vb)) := by rw [T5.cell (p := ⟨d, 1, none⟩) h1.lt (fun e => (HUB.out d e).1 rfl)]; exact c1
      have q5 : w5.rangeAt q 0 (bcs xs) := fun j v hv => by rw [T5.cell (p := ⟨q, 0 + j, none⟩) HQS.out (fun e => (HUB.out q e).2.1 rfl)]; exact RA j v hv
      have k6 : w6.cell? ⟨d, 1, none⟩ = some (.map (some vb)) := by rw [T6.cell (p := ⟨d, 1, none⟩) (World.block_lt_of_cell? w5 ⟨d, 1, none⟩ k5) (fun e => h1.ne_vb e)]; exact k5
      have hqv : q ≠ vb := fun e => h1.map.notCells (by rw [← e]; exact Q2.out)
      have q6 : w6.rangeAt q 0 (bcs xs) := fun j v hv => by
        have := q5 j v hv
        rw [T6.cell (p := ⟨q, 0 + j, none⟩) (World.block_lt_of_cell? w5 ⟨q, 0 + j, none⟩ this) (fun e => hqv e)]; exact this
      refine ⟨w6, hrun, ⟨k5, q5⟩, ⟨k6, q6⟩, ?_⟩
      obtain ⟨S', hD, hT, hS'⟩ := DkAt.more (w := W2) (w' := w6) (v := v5) h1 (x := xs) HI1.out (wa := w5) (by rw [hu]; exact T5) hs5 (fun k hk => by
        rw [hu]
        rcases hf5 k hk with e | e
        · exact .inl e
        · exact .inr (by simp at e; omega)) M6 T6
      have t1 : Tch S w W2 := Tch.trans (S := S) (S' := S) (T1.out.mono (S' := S) (fun k _ e => by rw [e]; exact HSD.out)) (Tch.of_below B2.out) (fun _ _ e => e)
      refine ⟨S', ⟨lb, vb, lc, gput g i (some v5), ?_⟩, Tch.trans t1 hT (fun _ _ e => e), fun k hk => ?_⟩
      · rw [HWR.out]; exact hD
      · rcases hS' k hk with e | e
        · exact .inl e
        · exact .inr (Nat.le_trans t1.size e)
    clear hu
    have hS : W2.drew.cell? ⟨d, 1, none⟩ = some (.map (some vb)) ∧ W2.drew.rangeAt q 0 (bcs xs) := ⟨c1, RA⟩
    have hSA : (W2.alloc (.cells (bcs xs).toArray 83)).drew.cell? ⟨d, 1, none⟩ = some (.map (some vb)) ∧ (W2.alloc (.cells (bcs xs).toArray 83)).drew.rangeAt q 0 (bcs xs) := ⟨CA, RAA⟩
    clear LK1 LK2 BS
    go_wp2_with fail
    refine wp_region_held (S := fun w' => w'.cell? ⟨d, 1, none⟩ = some (.map (some vb)) ∧ w'.rangeAt q 0 (bcs xs)) (by kernel_rfl) ?_
    refine takeT 0 (some 20) (.move (.tmp 0)) (Value.pointer (some ⟨d, 0, none⟩)) rfl (by kernel_rfl) (by kernel_rfl) (by kernel_rfl) (fun _ _ _ h => h) ?hy hS ?_
    case hy =>
      rintro o ho w' ⟨hS1, hS2⟩
      go_simp
    simp only [Act.put, List.setIfInBounds_toArray, List.set_cons_zero, List.set_cons_succ]
    refine takeT 1 (some 21) (.nilCheck (.tmp 20)) (Value.pointer (some ⟨d, 0, none⟩)) rfl (by kernel_rfl) (by kernel_rfl) (by kernel_rfl) (fun _ _ _ h => h) ?hy hS ?_
    case hy =>
      rintro o ho w' ⟨hS1, hS2⟩
      go_simp
    simp only [Act.put, List.setIfInBounds_toArray, List.set_cons_zero, List.set_cons_succ]
    refine takeT 2 (some 22) (.fieldAddr 65 (.tmp 21) 1) (Value.pointer (some ⟨d, 1, none⟩)) rfl (by kernel_rfl) (by kernel_rfl) (by kernel_rfl) (fun _ _ _ h => h) ?hy hS ?_
    case hy =>
      rintro o ho w' ⟨hS1, hS2⟩
      go_simp
    simp only [Act.put, List.setIfInBounds_toArray, List.set_cons_zero, List.set_cons_succ]
    refine takeT 3 (some 23) (.load 63 (.tmp 22)) (Value.map (some vb)) rfl (by kernel_rfl) (by kernel_rfl) (by kernel_rfl) (fun _ _ _ h => h) ?hy hS ?_
    case hy =>
      rintro o ho w' ⟨hS1, hS2⟩
      go_simp
    simp only [Act.put, List.setIfInBounds_toArray, List.set_cons_zero, List.set_cons_succ]
    refine takeT 4 (some 24) (.move (.tmp 1)) (Value.int .i64 (i : Int)) rfl (by kernel_rfl) (by kernel_rfl) (by kernel_rfl) (fun _ _ _ h => h) ?hy hS ?_
    case hy =>
      rintro o ho w' ⟨hS1, hS2⟩
      go_simp
    simp only [Act.put, List.setIfInBounds_toArray, List.set_cons_zero, List.set_cons_succ]
    refine takeT 5 (some 25) (.move (.tmp 0)) (Value.pointer (some ⟨d, 0, none⟩)) rfl (by kernel_rfl) (by kernel_rfl) (by kernel_rfl) (fun _ _ _ h => h) ?hy hS ?_
    case hy =>
      rintro o ho w' ⟨hS1, hS2⟩
      go_simp
    simp only [Act.put, List.setIfInBounds_toArray, List.set_cons_zero, List.set_cons_succ]
    refine takeT 6 (some 26) (.nilCheck (.tmp 25)) (Value.pointer (some ⟨d, 0, none⟩)) rfl (by kernel_rfl) (by kernel_rfl) (by kernel_rfl) (fun _ _ _ h => h) ?hy hS ?_
    case hy =>
      rintro o ho w' ⟨hS1, hS2⟩
      go_simp
    simp only [Act.put, List.setIfInBounds_toArray, List.set_cons_zero, List.set_cons_succ]
    refine takeT 7 (some 27) (.fieldAddr 65 (.tmp 26) 1) (Value.pointer (some ⟨d, 1, none⟩)) rfl (by kernel_rfl) (by kernel_rfl) (by kernel_rfl) (fun _ _ _ h => h) ?hy hS ?_
    case hy =>
      rintro o ho w' ⟨hS1, hS2⟩
      go_simp
    simp only [Act.put, List.setIfInBounds_toArray, List.set_cons_zero, List.set_cons_succ]
    refine takeT 8 (some 28) (.load 63 (.tmp 27)) (Value.map (some vb)) rfl (by kernel_rfl) (by kernel_rfl) (by kernel_rfl) (fun _ _ _ h => h) ?hy hS ?_
    case hy =>
      rintro o ho w' ⟨hS1, hS2⟩
      go_simp
    simp only [Act.put, List.setIfInBounds_toArray, List.set_cons_zero, List.set_cons_succ]
    refine takeT 9 (some 29) (.move (.tmp 1)) (Value.int .i64 (i : Int)) rfl (by kernel_rfl) (by kernel_rfl) (by kernel_rfl) (fun _ _ _ h => h) ?hy hS ?_
    case hy =>
      rintro o ho w' ⟨hS1, hS2⟩
      go_simp
    simp only [Act.put, List.setIfInBounds_toArray, List.set_cons_zero, List.set_cons_succ]
    refine takeArr 11 (some 31) 83 (.tmp 7) q 0 (bcs xs) _ rfl (by kernel_rfl) (by kernel_rfl) (by kernel_rfl) (fun _ _ _ h => h) rfl (fun w' h => h.2) hu74 rfl hs74 hS ?_
    simp only [Act.put, List.setIfInBounds_toArray, List.set_cons_zero, List.set_cons_succ]
    refine readyT2 10 12 (some 30) (some 32) (.lookup 63 (.tmp 28) (.tmp 29) false) (.buildSlice 62 1 #[(0, .tmp 31)]) rfl rfl (by kernel_rfl) ?_ ?_
    · rintro o K hd ho hg hK
      refine step_lookS (.tmp 28) (.tmp 29) ho vb s1.L.length i g rfl (MP.out.tch TD.out (fun e => e)) HI1.out N21.out rfl ?_
      rw [HU.out, hd]
      refine hK _ _ hS ?_
      simp only [Act.put, List.setIfInBounds_toArray, List.set_cons_zero, List.set_cons_succ]
      refine readyT 12 (some 32) (.buildSlice 62 1 #[(0, .tmp 31)]) rfl (by kernel_rfl) ?_
      rintro o K hd ho hg hK
      refine step_build1 (.tmp 31) ho xs HX.out rfl ?_
      rw [hd]
      refine hK _ _ hSA ?_
      simp only [Act.put, List.setIfInBounds_toArray, List.set_cons_zero, List.set_cons_succ]
      refine readyT 13 (some 33) (.call { callee := .builtin .append, args := #[.tmp 30, .tmp 32], argTypes := #[62, 62] }) rfl (by kernel_rfl) ?_
      rintro o K hd ho hg hK
      refine step_appS (w := (W2.alloc (.cells (bcs xs).toArray 83)).drew) (.tmp 30) (.tmp 32) ho u (s1.V i) rfl SU.out W2.heap.size 1 1 rfl [xs] rfl (SOk.one HX.out HY.out) NR.out HBD.out ?_
      intro v5 w5 hs5 hg5 hf5
      obtain ⟨w6, hrun6, k5, k6, fin⟩ := HPOST.out v5 w5 hs5 hg5 hf5
      clear hs5 hg5 hf5
      rw [hd]
      refine hK _ _ k5 ?_
      simp only [Act.put, List.setIfInBounds_toArray, List.set_cons_zero, List.set_cons_succ]
      refine readyT 14 none (.mapUpdate 63 (.tmp 23) (.tmp 24) (.tmp 33)) rfl (by kernel_rfl) ?_
      rintro o K hd ho hg hK
      refine step_upd (.tmp 23) (.tmp 24) (.tmp 33) ho _ _ _ rfl rfl rfl hrun6 ?_
      rw [hd]
      refine hK _ _ k6 ?_
      refine wpAnyH_done (by kernel_rfl) ?_ _
      clear ho hd hg hK
      simp only [Act.put]
      go_wp2_with fail
      go_ret
      exact ⟨rfl, fin.out⟩
    · rintro o K hd ho hg hK
      refine step_build1 (.tmp 31) ho xs HX.out rfl ?_
      rw [hd]
      refine hK _ _ hSA ?_
      simp only [Act.put, List.setIfInBounds_toArray, List.set_cons_zero, List.set_cons_succ]
      refine readyT 10 (some 30) (.lookup 63 (.tmp 28) (.tmp 29) false) rfl (by kernel_rfl) ?_
      rintro o K hd ho hg hK
      refine step_lookS (.tmp 28) (.tmp 29) ho vb s1.L.length i g rfl (MP.out.tch TDA.out (fun e => e)) HI1.out N21.out rfl ?_
      rw [HU.out, hd]
      refine hK _ _ hSA ?_
      simp only [Act.put, List.setIfInBounds_toArray, List.set_cons_zero, List.set_cons_succ]
      refine readyT 13 (some 33) (.call { callee := .builtin .append, args := #[.tmp 30, .tmp 32], argTypes := #[62, 62] }) rfl (by kernel_rfl) ?_
      rintro o K hd ho hg hK
      refine step_appS (w := (W2.alloc (.cells (bcs xs).toArray 83)).drew) (.tmp 30) (.tmp 32) ho u (s1.V i) rfl SU.out W2.heap.size 1 1 rfl [xs] rfl (SOk.one HX.out HY.out) NR.out HBD.out ?_
      intro v5 w5 hs5 hg5 hf5
      obtain ⟨w6, hrun6, k5, k6, fin⟩ := HPOST.out v5 w5 hs5 hg5 hf5
      clear hs5 hg5 hf5
      rw [hd]
      refine hK _ _ k5 ?_
      simp only [Act.put, List.setIfInBounds_toArray, List.set_cons_zero, List.set_cons_succ]
      refine readyT 14 none (.mapUpdate 63 (.tmp 23) (.tmp 24) (.tmp 33)) rfl (by kernel_rfl) ?_
      rintro o K hd ho hg hK
      refine step_upd (.tmp 23) (.tmp 24) (.tmp 33) ho _ _ _ rfl rfl rfl hrun6 ?_
      rw [hd]
      refine hK _ _ k6 ?_
      refine wpAnyH_done (by kernel_rfl) ?_ _
      clear ho hd hg hK
      simp only [Act.put]
      go_wp2_with fail
      go_ret
      exact ⟨rfl, fin.out⟩
end Go.Proofs.Ytaacidgihhcpkaa
