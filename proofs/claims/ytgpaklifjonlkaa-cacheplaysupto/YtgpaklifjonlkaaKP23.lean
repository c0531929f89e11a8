import Derived.Test.YtgpaklifjonlkaaKP12
import Derived.StillTailTactics
/-
  A block is kept as a clean one.
-/
namespace Go.Proofs.Ytgpaklifjonlkaa
open Go.RowKit Go.Maps
set_option linter.unusedVariables false
set_option linter.unusedSimpArgs false
set_option maxRecDepth 100000

/-- Kept, be there room for it or not. -/
def CS.kp (s : CS) (n : Nat) (x : Int × List Int) : CS := { s with B := bput s.B n x, d := kwo s.d n, c := kwo s.c n ++ [n] }
theorem COk.kp {N : Nat} {s : CS} (h : COk N s) {n : Nat} {x : Int × List Int} (hn : 50 ≤ n ∧ n < N) (hm : mayK (n : Int) x.1 x.2.length = true) (hb : By x.2) : COk N (s.kp n x) := by
  have mem : ∀ m, m ∈ kwo s.c n ++ [n] → m = n ∨ (m ∈ s.c ∧ m ≠ n) := fun m hm => by
    rcases List.mem_append.1 hm with e | e
    · exact .inr ⟨(kwo_mem.1 e).1, fun e2 => (kwo_mem.1 e).2 (by omega)⟩
    · exact .inl (by simpa using e)
  exact {
    r1 := h.r1
    r2 := h.r2
    dr := kwo_rising _ h.dr
    cn := app_nodup h.cn
    ap := fun m hm hc => by
      rcases mem m hc with e | e
      · exact (kwo_mem.1 hm).2 (by omega)
      · exact h.ap m (kwo_mem.1 hm).1 e.1
    dl := fun m hm => h.dl m (kwo_mem.1 hm).1
    cl := fun m hm => by
      rcases mem m hm with e | e
      · rw [e]; exact hn
      · exact h.cl m e.1
    may := fun m hm' => by
      show mayK (m : Int) (bput s.B n x m).1 (bput s.B n x m).2.length = true ∧ By (bput s.B n x m).2
      by_cases e : m = n
      · subst e; rw [bput_same]; exact ⟨hm, hb⟩
      · rw [bput_else _ _ e]
        refine h.may m (hm'.imp (fun e2 => (kwo_mem.1 e2).1) (fun e2 => ?_))
        rcases mem m e2 with e3 | e3
        · exact absurd e3 e
        · exact e3.1 }
theorem kp_keep {s : CS} {n : Nat} {x : Int × List Int} (h : ¬ s.rm < (kwo s.c n).length + 1) : s.kp n x = s.keep n x := by
  unfold CS.kp CS.keep kask
  rw [if_neg h]
theorem kp_forget {N : Nat} {s : CS} (ho : COk N s) {n : Nat} {x : Int × List Int} (h : s.rm < (kwo s.c n).length + 1) : ∃ m, (kwo s.c n ++ [n]).head? = some m ∧ (s.kp n x).forget (m : Int) = s.keep n x := by
  obtain ⟨m, h1, h2, h3⟩ := kask_tail ho.cn h ho.r1
  refine ⟨m, h1, ?_⟩
  unfold CS.forget CS.kp CS.keep
  simp only
  rw [h3, kwo_not (l := kwo s.d n) (n := (m : Int))]
  intro a ha e
  have e : a = m := by omega
  subst e
  have hm : a ∈ kwo s.c n ++ [n] := List.mem_of_mem_head? h1
  rcases List.mem_append.1 hm with e | e
  · exact ho.ap a (kwo_mem.1 ha).1 (kwo_mem.1 e).1
  · exact h2 (by simpa using e)

def vputK (V : Nat → Value) (n : Nat) (v : Value) (m : Nat) : Value := if m = n then v else V m
theorem kg_kp (s : CS) (V : Nat → Value) (n : Nat) (k : Int) (ys : List Int) (v : Value) : gput (kg s V) n (some (hent k v false)) = kg (s.kp n (k, ys)) (vputK V n v) := by
  funext i
  unfold gput kg CS.kp vputK bput
  simp only [kwo_mem, List.mem_append, List.mem_singleton]
  by_cases e : i = n
  · subst e
    simp
  · have : (i : Int) ≠ (n : Int) := by omega
    simp [e, this]

theorem wpList_putH {ops : Array Oper} {rest : List Oper} {o : Oper} {a : Act} {w : World} {Q : Exit → Act → World → Prop} (hgd : o.guard = none) (m x v : Operand) (ho : o.op = .mapUpdate 71 m x v)
    (mb N : Nat) (g : Nat → Option Value) (i : Nat) (val : Value) (hm : a.eval m = .map (some mb)) (hx : a.eval x = .int .i64 (i : Int)) (hv : a.eval v = val) (hM : Mp w mb N g) (hi : i < N) (hn : N ≤ 4096) (h : ∀ w', Mp w' mb N (gput g i (some val)) → Tch (fun k => k = mb) w w' → wpList Try.prog ops Q rest (a.put o.dst undef) w') : wpList Try.prog ops Q (o :: rest) a w := by
  obtain ⟨w', hr, h1, h2⟩ := hM.putH hi hn val
  refine wpList_plain hgd fun K hK => ?_
  unfold Oper.wp
  simp [execOp, ho, hm, hx, hv, hr, Result.andThen]
  exact hK _ _ (h w' h1 h2)

theorem elemI : Elem Try.prog 41 3 .i64 8 := ⟨Try.underlying41, info_parts (z := .int .i64 0) (size := 1) (bytes := 8) (by kernel_rfl)⟩

set_option maxHeartbeats 1000000 in
theorem keep_any {X : Nat → Prop} {c d N : Nat} {s : CS} {mb : Nat} {av : Value} {V : Nat → Value} (n : Nat) (k : Int) (v : Value) (ys : List Int) (w : World) (h : ChAt X w c d N s mb av V) (hn : 50 ≤ n ∧ n < N) (hm : mayK (n : Int) k ys.length = true) (hb : By ys) (hr : Rd .u8 w v ys)
    (hv : ∀ j, v.ownBlock = some j → ys ≠ [] → X j ∧ j ≠ c ∧ j ≠ mb ∧ av.ownBlock ≠ some j) :
    Calls Try.prog 49 #[cp c, .int .i64 (n : Int), blk k v] w fun e w' => e = .returned (.tuple #[]) ∧ ChTo X w w' c d N (s.keep n (k, ys)) ∧ Rd .u8 w' v ys := by
  have H : Hid (ChAt X w c d N s mb av V) := h
  have HY : Hid ((50 ≤ n ∧ n < N) ∧ mayK (n : Int) k ys.length = true ∧ By ys) := ⟨hn, hm, hb⟩
  have HV : Hid (∀ j, v.ownBlock = some j → ys ≠ [] → X j ∧ j ≠ c ∧ j ≠ mb ∧ av.ownBlock ≠ some j) := hv
  have HRd : Hid (Rd .u8 w v ys) := hr
  obtain ⟨W1, hW1⟩ : ∃ W1, w.alloc (.cells #[.int .i64 k, v] 40) = W1 := ⟨_, rfl⟩
  have B1 : Hid (Below w.heap.size w W1) := by rw [← hW1]; exact (Below.refl _ _).alloc (Nat.le_refl _) _
  have Q1 : Hid (Bkv W1 w.heap.size k v) := by rw [← hW1]; exact bkv_new w _ _
  have H1 : Hid (ChAt X W1 c d N s mb av V) := h.tch (R := fun _ => False) (Tch.of_below B1.out) (fun _ _ e => e)
  have HL := hideP (leave_any (n : Int) W1 H1.out.box H1.out.ord H1.out.ok.cn (by have := h.ok.cle; have := h.n2; omega))
  have hn2 : (n : Int) < 4096 := by have := h.n2; omega
  obtain ⟨a, m, cap, rfl⟩ : ∃ a m cap, v = .slice a m cap := by obtain ⟨a, c, e, _⟩ := hr; exact ⟨_, _, _, e⟩
  clear h hn hm hb hr hv
  unfold blk
  go_enter Try.func49, Try.ntmps49
  go_wp2_with fail
  refine HL.out.mono ?_
  rintro e w2 ⟨rfl, av2, hb2, ho2, hv2, ht2⟩
  have HB2 : Hid (w2.heap[c]? = some (.cells #[dp d, .int .i64 (s.rm : Int), .map (some mb), av2] 73 (0, 0))) := hb2
  have HO2 : Hid (OwnsK w2 av2 ((kwo s.c n).map Int.ofNat)) := ho2
  have HV2 : Hid (av2.ownBlock = av.ownBlock) := hv2
  have T2 : Hid (Tch (fun k => k = c ∨ av.ownBlock = some k) w w2) := (Tch.of_below B1.out).trans ht2 (fun _ _ e => e)
  have M2 : Hid (Mp w2 mb N (kg s V)) := H.out.map.tch T2.out (fun e => by
    rcases e with e | e
    · exact H.out.ne_mb e.symm
    · exact H.out.av_mb e)
  have Q2 : Hid (Bkv w2 w.heap.size k (.slice a m cap)) := Q1.out.tch ht2 (fun e => by
    rcases e with e | e
    · have := H.out.lt; omega
    · have := H.out.xlt _ (H.out.xa _ e); omega)
  have c2 : w2.cell? ⟨c, 2, none⟩ = some (.map (some mb)) := by rw [cell_of_row w2 c 2 _ _ (0, 0) hb2]; rfl
  have q0 := Q2.out.c0
  have q1 := Q2.out.c1
  have LD := Q2.out.load
  clear hb2 ho2 hv2 ht2 HL H1 Q1 hW1
  go_wp2_with fail
  refine wp_region_still_tail 7 (by kernel_rfl) (by kernel_rfl) ?_
  simp only [List.take_succ_cons, List.take_zero, List.drop_succ_cons, List.drop_zero]
  repeat still_step
  refine wpStill_nil ?_
  change wpList _ _ _ _ _ w2.drew
  have MD : Hid (Mp w2.drew mb N (kg s V)) := M2.out.tch (S := fun _ => False) ⟨rfl, rfl, rfl, Nat.le_refl _, fun _ _ _ => rfl⟩ (fun e => e)
  refine wpList_putH rfl (.tmp 12) (.tmp 13) (.tmp 15) rfl mb N (kg s V) n (hent k (.slice a m cap) false) (by kernel_rfl) (by kernel_rfl) (by kernel_rfl) MD.out HY.out.1.2 H.out.n2 ?_
  intro w3 m3 t3
  have T3 : Hid (Tch (fun k => k = c ∨ av.ownBlock = some k ∨ k = mb) w w3) := ((T2.out.drew).mono (S' := fun k => k = c ∨ av.ownBlock = some k ∨ k = mb) (fun k _ e => e.imp id .inl)).trans t3 (fun k _ e => .inr (.inr e))
  have M3 : Hid (Mp w3 mb N (gput (kg s V) n (some (hent k (.slice a m cap) false)))) := m3
  have HB3 : Hid (w3.heap[c]? = some (.cells #[dp d, .int .i64 (s.rm : Int), .map (some mb), av2] 73 (0, 0))) := by
    rw [t3.block c (Array.getElem?_eq_some_iff.1 HB2.out).1 H.out.ne_mb]; exact HB2.out
  have HO3 : Hid (OwnsK w3 av2 ((kwo s.c n).map Int.ofNat)) := (HO2.out.tch (S := fun _ => False) (w' := w2.drew) ⟨rfl, rfl, rfl, Nat.le_refl _, fun _ _ _ => rfl⟩ (fun _ _ e => e)).tch t3 (fun k hk e => H.out.av_mb (by rw [HV2.out] at hk; rw [← e]; exact hk))
  have HLen : Hid (((kwo s.c n).map Int.ofNat).length ≤ 100000) := by
    show _ ≤ _
    rw [List.length_map]
    have h1 := kwo_len s.c n
    have h2 := H.out.ok.cle
    have h3 := H.out.n2
    omega
  have c3 : w3.cell? ⟨c, 3, none⟩ = some av2 := by rw [cell_of_row w3 c 3 _ _ (0, 0) HB3.out]; rfl
  clear m3 t3 MD M2 T2 HB2 HO2 Q2 c2 q0 q1 LD B1
  go_wp2_with (at_builtin; refine wpList_push _ rfl (.tmp 20) (.tmp 22) 41 rfl 3 .i64 8 elemI _ ((kwo s.c n).map Int.ofNat) rfl HO3.out (n : Int) rfl (by have := HLen.out; omega) (by have := HLen.out; omega) ?_)
  intro v4 w4 o4 g4
  have T4 : Hid (Tch (fun k => k = c ∨ av.ownBlock = some k ∨ k = mb) w w4) := T3.out.trans g4.tch (fun k _ e => .inr (.inl (by rw [← HV2.out]; exact e)))
  have hne : av2.ownBlock ≠ some c := fun e => H.out.av_c (by rw [← HV2.out]; exact e)
  have HB4 : Hid (w4.heap[c]? = some (.cells #[dp d, .int .i64 (s.rm : Int), .map (some mb), av2] 73 (0, 0))) := by
    rw [g4.tch.block c (Array.getElem?_eq_some_iff.1 HB3.out).1 hne]; exact HB3.out
  have M4 : Hid (Mp w4 mb N (gput (kg s V) n (some (hent k (.slice a m cap) false)))) := M3.out.tch g4.tch (fun e => H.out.av_mb (by rw [← HV2.out]; exact e))
  have F4 : Hid (∀ k, v4.ownBlock = some k → av.ownBlock = some k ∨ w.heap.size ≤ k) := fun k hk => by
    rcases g4.fresh k hk with e | e
    · exact .inl (by rw [← HV2.out]; exact e)
    · exact .inr (Nat.le_trans T3.out.size e)
  have d3 : w4.cell? ⟨c, 3, none⟩ = some av2 := by rw [cell_of_row w4 c 3 _ _ (0, 0) HB4.out]; rfl
  have f3 : w4.frozen? ⟨c, 3, none⟩ = false := frozen_of_row w4 c 3 _ _ HB4.out
  have O4 : Hid (OwnsK w4 v4 (((kwo s.c n) ++ [n]).map Int.ofNat)) := by
    rw [List.map_append]; exact o4
  obtain ⟨W5, hW5⟩ : ∃ W5, w4.setCell ⟨c, 3, none⟩ v4 = W5 := ⟨_, rfl⟩
  have HR5 : Hid (ChAt (fun k => X k ∨ (w.heap.size ≤ k ∧ k < W5.heap.size)) W5 c d N (s.kp n (k, ys)) mb v4 (vputK V n (.slice a m cap)) ∧ Tch X w W5 ∧ Rd .u8 W5 (.slice a m cap) ys) := by
    have ts : Tch (fun k => k = c) w4 W5 := by rw [← hW5]; exact tch_set w4 c 3 v4
    have vc : v4.ownBlock ≠ some c := fun e => by
      rcases F4.out c e with e | e
      · exact H.out.av_c e
      · have := H.out.lt; omega
    have TT := T4.out.trans ts (fun k _ e => .inl e)
    have RR : Rd .u8 W5 (.slice a m cap) ys := HRd.out.tch0 TT (fun i hi h0 e => by
      obtain ⟨_, p1, p2, p3⟩ := HV.out i hi h0
      rcases e with e | e | e
      · exact p1 e
      · exact p3 e
      · exact p2 e)
    refine ⟨H.out.turnAt (V' := vputK V n (.slice a m cap)) (av' := v4) (s' := s.kp n (k, ys)) TT ?_ ?_ ?_ F4.out (H.out.ok.kp HY.out.1 HY.out.2.1 HY.out.2.2) (fun j hj => ?_), H.out.own_tch TT, RR⟩
    · rw [← hW5, heap_setCell_same w4 c 3 _ _ _ HB4.out]; rfl
    · rw [← kg_kp]; exact M4.out.tch ts (fun e => H.out.ne_mb e.symm)
    · exact O4.out.tch ts (fun k hk e => vc (by rw [← e]; exact hk))
    · by_cases e : j = n
      · subst e
        have e1 : vputK V j (.slice a m cap) j = .slice a m cap := by simp [vputK]
        have e2 : ((s.kp j (k, ys)).B j) = (k, ys) := by show bput s.B j (k, ys) j = _; simp [bput]
        rw [e1, e2]
        refine .inr ⟨RR, fun i hi h0 => ?_⟩
        · obtain ⟨p0, p1, p2, p3⟩ := HV.out i hi h0
          refine ⟨.inl p0, p1, p2, fun e => ?_⟩
          rcases F4.out i e with e | e
          · exact p3 e
          · have := H.out.xlt i p0; omega
      · refine .inl ⟨?_, by simp [vputK, e], by show bput s.B n (k, ys) j = _; simp [bput, e]⟩
        rcases hj with hj | hj
        · exact .inl (kwo_mem.1 hj).1
        · rcases List.mem_append.1 hj with e2 | e2
          · exact .inr (kwo_mem.1 e2).1
          · exact absurd (by simpa using e2) e
  obtain ⟨va, vl, vcp, rfl⟩ : ∃ a l c, v4 = .slice a l c := by obtain ⟨a, c, e, _⟩ := o4.rd; exact ⟨_, _, _, e⟩
  obtain ⟨h5, T5, R5⟩ := HR5.out
  obtain ⟨X5, hX5⟩ : ∃ X5 : Nat → Prop, (fun k => X k ∨ (w.heap.size ≤ k ∧ k < W5.heap.size)) = X5 := ⟨_, rfl⟩
  have hX5' : ∀ k, X5 k → X k ∨ w.heap.size ≤ k := fun k hk => by rw [← hX5] at hk; exact hk.imp id (fun e => e.1)
  obtain ⟨V5, hV5⟩ : ∃ V5, vputK V n (.slice a m cap) = V5 := ⟨_, rfl⟩
  have HF5 : Hid (∀ k, (Value.slice va vl vcp).ownBlock = some k → av.ownBlock = some k ∨ w.heap.size ≤ k) := F4
  rw [hX5, hV5] at h5
  have H5 : Hid (ChAt X5 W5 c d N (s.kp n (k, ys)) mb (.slice va vl vcp) V5) := h5
  have HR5d : Hid (Rd .u8 W5 (.slice a m cap) ys) := R5
  clear hX5 hV5 R5
  obtain ⟨g5, cap5, hsl, _, hc5, hm5, hcell5, _⟩ := h5.ord.shape (by simp [CS.kp])
  have hl5 : ((s.kp n (k, ys)).c.map Int.ofNat).length = (kwo s.c n).length + 1 := by simp [CS.kp]
  obtain ⟨L, hL⟩ : ∃ L, Hid ((kwo s.c n).length + 1 = L) := ⟨_, rfl⟩
  rw [hl5, hL.out] at hc5
  have x3 := h5.c3
  rw [hsl] at x3
  have x1 : W5.cell? ⟨c, 1, none⟩ = some (.int .i64 (s.rm : Int)) := h5.c1
  rw [hl5, hL.out] at x3
  have hc6 : cap5 ≤ 9223372036854775807 := by unfold maxLen at hm5; omega
  have hL0 : 0 < L := by rw [← hL.out]; omega
  have y0 := hcell5 0 (by simp [CS.kp])
  have T5' : Hid (Tch X w W5 ∧ ∀ k, X5 k → X k ∨ w.heap.size ≤ k) := ⟨T5, hX5'⟩
  have hr2 : (s.rm : Int) ≤ 1024 := by have := H.out.ok.r2; omega
  clear o4 g4 T4 HB4 M4 F4 O4 HR5 T3 M3 HB3 HO3 c3 T5 hX5' h5 hcell5 hl5 hm5 hne hsl
  by_cases hov : s.rm < L
  · obtain ⟨m5, hm5, hkf⟩ := kp_forget H.out.ok (n := n) (x := (k, ys)) (by rw [hL.out]; exact hov)
    have ym : ((s.kp n (k, ys)).c.map Int.ofNat).getD 0 0 = (m5 : Int) := by
      show (((kwo s.c n) ++ [n]).map Int.ofNat).getD 0 0 = _
      cases e : kwo s.c n ++ [n] with
      | nil => rw [e] at hm5; cases hm5
      | cons a r => rw [e] at hm5; simp at hm5; subst hm5; rfl
    rw [ym] at y0
    have hm4 : m5 < 4096 := by
      have h1 : m5 ∈ (s.kp n (k, ys)).c := List.mem_of_mem_head? hm5
      have h2 := (H5.out.ok.cl m5 h1).2
      have h3 := H.out.n2
      omega
    have HKF : Hid ((s.kp n (k, ys)).forget (m5 : Int) = s.keep n (k, ys)) := hkf
    have hov2 : (L : Int) > (s.rm : Int) := by omega
    have hm6 : Hid ((Lit.int .i64 (m5 : Int)).wf = true) := by simp [Hid, Lit.wf, IntKind.min, IntKind.max, IntKind.signed, IntKind.bits]; omega
    clear hm5 hkf ym hm4
    go_wp2_with fail
    go_quiet (fail)
    obtain ⟨W6, hW6⟩ : ∃ W6, Hid (W5.drewN nq = W6) := ⟨_, rfl⟩
    rw [hW6.out]
    have T6 : Hid (Tch (fun _ => False) W5 W6) := by rw [← hW6.out]; exact ⟨rfl, rfl, rfl, Nat.le_refl _, fun _ _ _ => rfl⟩
    have H6 := hideP (H5.out.tch T6.out (fun _ _ e => e))
    have z3 : W6.cell? ⟨c, 3, none⟩ = some (.slice (some ⟨g5, 0, none⟩) L cap5) := by rw [← hW6.out]; exact x3
    have z0 : W6.cell? ⟨g5, 0, none⟩ = some (.int .i64 (m5 : Int)) := by rw [← hW6.out]; exact y0
    have HF := hideP (forget_at (m5 : Int) W6 H6.out hm6.out)
    rw [HKF.out] at HF
    have TT : Hid (Tch X w W6) := T5'.out.1.trans T6.out (fun _ _ e => e.elim)
    clear x3 x1 y0 H5 hW6 hW5
    go_wp2_with fail
    refine HF.out.mono ?_
    rintro e w7 ⟨rfl, av7, h7, t7⟩
    have HR : Hid (ChTo X w w7 c d N (s.keep n (k, ys)) ∧ Rd .u8 w7 (.slice a m cap) ys) := by
      refine ⟨ChTo.after TT.out T5'.out.2 ⟨_, ⟨_, _, _, h7⟩, H6.out.own_tch t7, fun k hk => hk.imp id (fun e => e.1)⟩, ?_⟩
      refine (HR5d.out.tch T6.out (fun _ _ e => e)).tch0 t7 (fun i hi h0 e => ?_)
      obtain ⟨p0, p1, p2, p3⟩ := HV.out i hi h0
      rcases e with e | e | e
      · exact p1 e
      · rcases HF5.out i e with e | e
        · exact p3 e
        · have := H.out.xlt i p0; omega
      · exact p2 e
    clear h7 t7 HF
    go_wp2_with fail
    go_end0
    exact ⟨rfl, HR.out⟩
  · have hov2 : decide (s.rm < L) = false := by rw [decide_eq_false_iff_not]; exact hov
    have HKP : Hid (s.kp n (k, ys) = s.keep n (k, ys)) := kp_keep (by rw [hL.out]; exact hov)
    clear hov
    go_wp2_with fail
    go_quiet (fail)
    obtain ⟨W6, hW6⟩ : ∃ W6, Hid (W5.drewN nq = W6) := ⟨_, rfl⟩
    rw [hW6.out]
    have T6 : Hid (Tch (fun _ => False) W5 W6) := by rw [← hW6.out]; exact ⟨rfl, rfl, rfl, Nat.le_refl _, fun _ _ _ => rfl⟩
    have H6 := hideP (H5.out.tch T6.out (fun _ _ e => e))
    have HR : Hid (ChTo X w W6 c d N (s.keep n (k, ys)) ∧ Rd .u8 W6 (.slice a m cap) ys) := by
      refine ⟨?_, HR5d.out.tch T6.out (fun _ _ e => e)⟩
      rw [← HKP.out]
      exact ⟨X5, ⟨_, _, _, H6.out⟩, T5'.out.1.trans T6.out (fun _ _ e => e.elim), T5'.out.2⟩
    clear x3 x1 y0 H5 hW6 hW5 H6
    go_wp2_with fail
    go_end0
    exact ⟨rfl, HR.out⟩
end Go.Proofs.Ytgpaklifjonlkaa
