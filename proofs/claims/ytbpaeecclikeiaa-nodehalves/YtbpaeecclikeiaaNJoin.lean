/-
  Two nodes as one: the program's Join.
-/
import Derived.Test.YtbpaeecclikeiaaNCut
import Derived.Test.YtbpaeecclikeiaaNMid
namespace Go.Proofs.Ytbpaeecclikeiaa
open Go.RowKit Pl
set_option linter.unusedVariables false
set_option linter.unusedSimpArgs false
set_option maxRecDepth 100000

section
variable {P : Program} {md : Region.Mode} {ops : Array Oper} {Q : Exit → Act → World → Prop} {S : World → Prop} {t fuel : Nat} {listed : Array Bool} {a : Act} {w : World}
theorem readyW2 (i j : Nat) (d : Option Tmp) (x : Op) (d' : Option Tmp) (x' : Op) (hi : opIs ops i d x) (hj : opIs ops j d' x') (hr : Region.ready md ops listed = [i, j]) (h : StepW P md ops Q S t fuel listed a w i d x) (h' : StepW P md ops Q S t fuel listed a w j d' x') : walkT P md ops Q S t (fuel + 1) listed a w := by
  refine ⟨fun h0 => (by rw [hr] at h0; cases h0), fun q hq => ?_⟩
  rw [hr] at hq
  have : q = i ∨ q = j := by simpa using hq
  rcases this with rfl | rfl
  · exact stepW_op hi h
  · exact stepW_op hj h'
theorem readyW3 (i j k : Nat) (d : Option Tmp) (x : Op) (d' : Option Tmp) (x' : Op) (d'' : Option Tmp) (x'' : Op) (hi : opIs ops i d x) (hj : opIs ops j d' x') (hk : opIs ops k d'' x'') (hr : Region.ready md ops listed = [i, j, k]) (h : StepW P md ops Q S t fuel listed a w i d x) (h' : StepW P md ops Q S t fuel listed a w j d' x') (h'' : StepW P md ops Q S t fuel listed a w k d'' x'') : walkT P md ops Q S t (fuel + 1) listed a w := by
  refine ⟨fun h0 => (by rw [hr] at h0; cases h0), fun q hq => ?_⟩
  rw [hr] at hq
  have : q = i ∨ q = j ∨ q = k := by simpa using hq
  rcases this with rfl | rfl | rfl
  · exact stepW_op hi h
  · exact stepW_op hj h'
  · exact stepW_op hk h''
end
theorem cells_below {w w' : World} {g : Nat} {x y : Value} (h : w.cell? ⟨g, 0, none⟩ = some x ∧ w.cell? ⟨g, 1, none⟩ = some y) (hb : Below w.heap.size w w') : w'.cell? ⟨g, 0, none⟩ = some x ∧ w'.cell? ⟨g, 1, none⟩ = some y :=
  ⟨by rw [hb.cell (p := ⟨g, 0, none⟩) (World.block_lt_of_cell? w ⟨g, 0, none⟩ h.1)]; exact h.1, by rw [hb.cell (p := ⟨g, 1, none⟩) (World.block_lt_of_cell? w ⟨g, 1, none⟩ h.2)]; exact h.2⟩
theorem two_new (w : World) (x y : Value) (e : TypeId) : (w.alloc (.cells #[x, y] e)).cell? ⟨w.heap.size, 0, none⟩ = some x ∧ (w.alloc (.cells #[x, y] e)).cell? ⟨w.heap.size, 1, none⟩ = some y := by
  constructor
  · rw [cell_of_row _ w.heap.size 0 _ _ (0, 0) (heap_alloc_new w _)]; rfl
  · rw [cell_of_row _ w.heap.size 1 _ _ (0, 0) (heap_alloc_new w _)]; rfl
section
variable {o : Oper} {a : Act} {w : World} {K : Act → World → Prop} {Q : Exit → Act → World → Prop}
theorem wp_build2S (x y : Operand) (ho : o.op = Op.buildSlice 84 2 #[(0, x), (1, y)]) (p q : Value) (hx : a.eval x = p) (hy : a.eval y = q) (hp : p.cells = #[p]) (hq : q.cells = #[q])
    (h : K (a.put o.dst (.slice (some ⟨w.heap.size, 0, none⟩) 2 2)) (w.alloc (.cells #[p, q] 22))) : Oper.wp Try.prog o a w K Q := by
  have hrun : (Instr.buildSlice 84 2 #[(0, p), (1, q)]).run Try.prog w = .ok (.slice (some ⟨w.heap.size, 0, none⟩) 2 2) (w.alloc (.cells #[p, q] 22)) := by
    obtain ⟨i, hi, hz, h1, hb⟩ := info_parts (P := Try.prog) (e := 22) (z := .slice none 0 0) (size := 1) (bytes := 24) (by kernel_rfl)
    refine run_buildSlice w _ 22 2 _ _ i _ Try.underlying84 hi hz (by rw [h1]; decide) (by rw [h1]; decide) ?_
    rw [h1]
    exact Go.Great.fill_flat [p, q] _ (fun u hu => by simp at hu; rcases hu with rfl | rfl <;> assumption) (by simp)
  unfold Oper.wp
  simp [execOp, ho, hx, hy, hrun, Result.andThen]
  exact h
theorem wp_build2I (x y : Operand) (ho : o.op = Op.buildSlice 86 2 #[(0, x), (1, y)]) (p q : Value) (hx : a.eval x = p) (hy : a.eval y = q) (hp : p.cells = #[p]) (hq : q.cells = #[q])
    (h : K (a.put o.dst (.slice (some ⟨w.heap.size, 0, none⟩) 2 2)) (w.alloc (.cells #[p, q] 23))) : Oper.wp Try.prog o a w K Q := by
  have hrun : (Instr.buildSlice 86 2 #[(0, p), (1, q)]).run Try.prog w = .ok (.slice (some ⟨w.heap.size, 0, none⟩) 2 2) (w.alloc (.cells #[p, q] 23)) := by
    obtain ⟨i, hi, hz, h1, hb⟩ := info_parts (P := Try.prog) (e := 23) (z := .slice none 0 0) (size := 1) (bytes := 24) (by kernel_rfl)
    refine run_buildSlice w _ 23 2 _ _ i _ Try.underlying86 hi hz (by rw [h1]; decide) (by rw [h1]; decide) ?_
    rw [h1]
    exact Go.Great.fill_flat [p, q] _ (fun u hu => by simp at hu; rcases hu with rfl | rfl <;> assumption) (by simp)
  unfold Oper.wp
  simp [execOp, ho, hx, hy, hrun, Result.andThen]
  exact h
theorem wp_storeN {x y : Operand} {b : Nat} {lf lf' : Bool} {b1 b2 b3 : Option Addr} {l1 l2 l3 c1 c2 c3 : Nat} {u1 u2 u3 : Value} (ho : o.op = .store 26 x y) (hx : a.eval x = .pointer (some ⟨b, 0, none⟩)) (hy : a.eval y = nod lf (.slice b1 l1 c1) (.slice b2 l2 c2) (.slice b3 l3 c3)) (hN : Nb w 26 b lf' u1 u2 u3)
    (h : K (a.put o.dst undef) ((((w.setCell ⟨b, 0, none⟩ (.bool lf)).setCell ⟨b, 1, none⟩ (.slice b1 l1 c1)).setCell ⟨b, 2, none⟩ (.slice b2 l2 c2)).setCell ⟨b, 3, none⟩ (.slice b3 l3 c3))) : Oper.wp Try.prog o a w K Q := by
  have hrun : (Instr.storeAt 26 (.pointer (some ⟨b, 0, none⟩)) (nod lf (.slice b1 l1 c1) (.slice b2 l2 c2) (.slice b3 l3 c3))).run Try.prog w = .ok () ((((w.setCell ⟨b, 0, none⟩ (.bool lf)).setCell ⟨b, 1, none⟩ (.slice b1 l1 c1)).setCell ⟨b, 2, none⟩ (.slice b2 l2 c2)).setCell ⟨b, 3, none⟩ (.slice b3 l3 c3)) := by
    have p0 := hN.c0
    have p1 := hN.c1
    have p2 := hN.c2
    have p3 := hN.c3
    have f0 := hN.fz 0
    have f1 := hN.fz 1
    have f2 := hN.fz 2
    have f3 := hN.fz 3
    unfold nod
    go_simp
  unfold Oper.wp execOp
  simp only [ho, hx, hy, Sem.run_bind, Sem.run_pure, Result.andThen_ok, hrun]
  exact h
end
/-- Two nodes as one, plainly. -/
def joinN (n m : Nd) : Nd := { lf := n.lf, ks := n.ks ++ m.ks, vs := n.vs ++ m.vs, kd := n.kd ++ m.kd }
set_option maxHeartbeats 4000000 in
theorem join_any (n m : Nd) (u1 u2 u3 v1 v2 v3 : Value) (w : World) (hn : Nn w n u1 u2 u3) (hm : Nn w m v1 v2 v3)
    (z1 : (n.ks.length + m.ks.length) * 16 ≤ 140737488355328) (z2 : (n.vs.length + m.vs.length) * 16 ≤ 140737488355328) (z3 : (n.kd.length + m.kd.length) * 8 ≤ 140737488355328) :
    Calls Try.prog 25 #[nod n.lf u1 u2 u3, nod m.lf v1 v2 v3] w fun e w' => (∃ x1 x2 x3, e = .returned (nod n.lf x1 x2 x3) ∧ Nn w' (joinN n m) x1 x2 x3 ∧ (∀ j, x1.ownBlock = some j → w.heap.size ≤ j) ∧ (∀ j, x2.ownBlock = some j → w.heap.size ≤ j) ∧ (∀ j, x3.ownBlock = some j → w.heap.size ≤ j)) ∧ Below w.heap.size w w' := by
  obtain ⟨a1, c1, a2, c2, a3, c3, rfl, rfl, rfl, _, _, _, _⟩ := hn.out
  obtain ⟨d1, f1, d2, f2, d3, f3, rfl, rfl, rfl, _, _, _, _⟩ := hm.out
  have HM := hideN hm
  have HN := hideN hn
  have HZ1 := hideN z1
  have HZ2 := hideN z2
  have HZ3 := hideN z3
  obtain ⟨L1, hL1⟩ : ∃ L, Hid (n.ks.length = L) := ⟨_, rfl⟩
  obtain ⟨L2, hL2⟩ : ∃ L, Hid (n.vs.length = L) := ⟨_, rfl⟩
  obtain ⟨L3, hL3⟩ : ∃ L, Hid (n.kd.length = L) := ⟨_, rfl⟩
  obtain ⟨M1, hM1⟩ : ∃ L, Hid (m.ks.length = L) := ⟨_, rfl⟩
  obtain ⟨M2, hM2⟩ : ∃ L, Hid (m.vs.length = L) := ⟨_, rfl⟩
  obtain ⟨M3, hM3⟩ : ∃ L, Hid (m.kd.length = L) := ⟨_, rfl⟩
  rw [hL1.out, hL2.out, hL3.out] at HN
  rw [hM1.out, hM2.out, hM3.out] at HM
  rw [hL1.out, hL2.out, hL3.out, hM1.out, hM2.out, hM3.out]
  obtain ⟨lf, hlf⟩ : ∃ lf, Hid (n.lf = lf) := ⟨_, rfl⟩
  obtain ⟨mf, hmf⟩ : ∃ lf, Hid (m.lf = lf) := ⟨_, rfl⟩
  rw [hlf.out, hmf.out]
  obtain ⟨W1, hW1⟩ : ∃ W1, w.alloc (.cells #[.bool lf, .slice a1 L1 c1, .slice a2 L2 c2, .slice a3 L3 c3] 26) = W1 := ⟨_, rfl⟩
  obtain ⟨W2, hW2⟩ : ∃ W2, W1.alloc (.cells #[.bool mf, .slice d1 M1 f1, .slice d2 M2 f2, .slice d3 M3 f3] 26) = W2 := ⟨_, rfl⟩
  obtain ⟨W3, hW3⟩ : ∃ W3, W2.alloc (.cells #[.bool false, .slice none 0 0, .slice none 0 0, .slice none 0 0] 26) = W3 := ⟨_, rfl⟩
  have s1 : W1.heap.size = w.heap.size + 1 := by rw [← hW1]; simp
  have s2 : W2.heap.size = w.heap.size + 2 := by rw [← hW2]; simp [s1]
  have s3 : Hid (W3.heap.size = w.heap.size + 3) := by rw [← hW3]; simp [s2, Hid]
  have b1 : Below w.heap.size w W1 := by rw [← hW1]; exact below_alloc _ _
  have b2 : Below W1.heap.size W1 W2 := by rw [← hW2]; exact below_alloc _ _
  have b3 : Below W2.heap.size W2 W3 := by rw [← hW3]; exact below_alloc _ _
  have BW3 : Hid (Below w.heap.size w W3) := (b1.trans (b2.mono b1.size)).trans (b3.mono (b1.trans (b2.mono b1.size)).size)
  have X1 : Nb W1 26 w.heap.size lf (.slice a1 L1 c1) (.slice a2 L2 c2) (.slice a3 L3 c3) := by rw [← hW1]; exact nb_new _ _ _ _ _ _
  have Y2 : Nb W2 26 (w.heap.size + 1) mf (.slice d1 M1 f1) (.slice d2 M2 f2) (.slice d3 M3 f3) := by rw [← hW2, ← s1]; exact nb_new _ _ _ _ _ _
  have Z3 : Nb W3 26 (w.heap.size + 2) false (.slice none 0 0) (.slice none 0 0) (.slice none 0 0) := by rw [← hW3, ← s2]; exact nb_new _ _ _ _ _ _
  have SS : Hid (Nb W3 26 w.heap.size lf (.slice a1 L1 c1) (.slice a2 L2 c2) (.slice a3 L3 c3) ∧ Nb W3 26 (w.heap.size + 1) mf (.slice d1 M1 f1) (.slice d2 M2 f2) (.slice d3 M3 f3) ∧ Nb W3 26 (w.heap.size + 2) false (.slice none 0 0) (.slice none 0 0) (.slice none 0 0)) := ⟨(X1.below b2).below b3, Y2.below b3, Z3⟩
  have HC1 : Hid (∀ (g : Nat) (W : World), Below W3.heap.size W3 W → (W.cell? ⟨g, 0, none⟩ = some (.slice a1 L1 c1) ∧ W.cell? ⟨g, 1, none⟩ = some (.slice d1 M1 f1)) → Calls Try.prog 42 #[.slice (some ⟨g, 0, none⟩) 2 2] W fun e w' => (∃ v', e = .returned v' ∧ OwnsV 9 w' v' (strs n.ks ++ strs m.ks) ∧ ∀ j, v'.ownBlock = some j → W.heap.size ≤ j) ∧ Below W.heap.size W w') := fun g W hb hc =>
    concatS_any g _ _ _ _ W ((HN.out.below BW3.out).below hb).k ((HM.out.below BW3.out).below hb).k (strs_one _) (strs_one _) (by rw [strs_len, strs_len]; exact HZ1.out) hc.1 hc.2
  have HC2 : Hid (∀ (g : Nat) (W : World), Below W3.heap.size W3 W → (W.cell? ⟨g, 0, none⟩ = some (.slice a2 L2 c2) ∧ W.cell? ⟨g, 1, none⟩ = some (.slice d2 M2 f2)) → Calls Try.prog 42 #[.slice (some ⟨g, 0, none⟩) 2 2] W fun e w' => (∃ v', e = .returned v' ∧ OwnsV 9 w' v' (strs n.vs ++ strs m.vs) ∧ ∀ j, v'.ownBlock = some j → W.heap.size ≤ j) ∧ Below W.heap.size W w') := fun g W hb hc =>
    concatS_any g _ _ _ _ W ((HN.out.below BW3.out).below hb).v ((HM.out.below BW3.out).below hb).v (strs_one _) (strs_one _) (by rw [strs_len, strs_len]; exact HZ2.out) hc.1 hc.2
  have HC3 : Hid (∀ (g : Nat) (W : World), Below W3.heap.size W3 W → (W.cell? ⟨g, 0, none⟩ = some (.slice a3 L3 c3) ∧ W.cell? ⟨g, 1, none⟩ = some (.slice d3 M3 f3)) → Calls Try.prog 43 #[.slice (some ⟨g, 0, none⟩) 2 2] W fun e w' => (∃ v', e = .returned v' ∧ OwnsV 3 w' v' (nums n.kd ++ nums m.kd) ∧ ∀ j, v'.ownBlock = some j → W.heap.size ≤ j) ∧ Below W.heap.size W w') := fun g W hb hc =>
    concatI_any g _ _ _ _ W ((HN.out.below BW3.out).below hb).d ((HM.out.below BW3.out).below hb).d (nums_one _) (nums_one _) (by rw [nums_len, nums_len]; exact HZ3.out) hc.1 hc.2
  clear hn hm b1 b2 b3 X1 Y2 Z3 z1 z2 z3 HN HM HZ1 HZ2 HZ3
  unfold nod
  go_enter Try.func25, Try.ntmps25
  go_wp2_with fail

  refine beginW (S := fun w' => Nb w' 26 w.heap.size lf (.slice a1 L1 c1) (.slice a2 L2 c2) (.slice a3 L3 c3) ∧ Nb w' 26 (w.heap.size + 1) mf (.slice d1 M1 f1) (.slice d2 M2 f2) (.slice d3 M3 f3) ∧ Nb w' 26 (w.heap.size + 2) false (.slice none 0 0) (.slice none 0 0) (.slice none 0 0)) (t := 21) (by kernel_rfl) ?_
  have B0 : Hid (Below W3.heap.size W3 W3.drew) := (Below.refl _ _).drew
  have S0 : Hid (Nb W3.drew 26 w.heap.size lf (.slice a1 L1 c1) (.slice a2 L2 c2) (.slice a3 L3 c3) ∧ Nb W3.drew 26 (w.heap.size + 1) mf (.slice d1 M1 f1) (.slice d2 M2 f2) (.slice d3 M3 f3) ∧ Nb W3.drew 26 (w.heap.size + 2) false (.slice none 0 0) (.slice none 0 0) (.slice none 0 0)) := ⟨SS.out.1.below B0.out, SS.out.2.1.below B0.out, SS.out.2.2.below B0.out⟩
  obtain ⟨X0, hX0⟩ : ∃ X, W3.drew = X := ⟨_, rfl⟩
  rw [hX0] at B0 S0 ⊢
  have hS := S0.out
  refine takeW 0 (some 5) (.fieldAddr 26 (.tmp 2) 0) (Value.pointer (some ⟨w.heap.size, 0, none⟩)) rfl rfl (by kernel_rfl) (by kernel_rfl) (by kernel_rfl) (by kernel_rfl) (fun _ _ _ h => h) ?hy hS ?_
  case hy =>
    rintro o ho w' _
    go_simp
  simp only [Act.put, List.setIfInBounds_toArray, List.set_cons_zero, List.set_cons_succ]
  refine takeW 1 (some 6) (.load 4 (.tmp 5)) (Value.bool lf) rfl rfl (by kernel_rfl) (by kernel_rfl) (by kernel_rfl) (by kernel_rfl) (fun _ _ _ h => h) ?hy hS ?_
  case hy =>
    rintro o ho w' ⟨hA, hB, hC⟩
    have q := hA.c0
    go_simp
  simp only [Act.put, List.setIfInBounds_toArray, List.set_cons_zero, List.set_cons_succ]
  refine takeW 2 (some 7) (.fieldAddr 26 (.tmp 2) 1) (Value.pointer (some ⟨w.heap.size, 1, none⟩)) rfl rfl (by kernel_rfl) (by kernel_rfl) (by kernel_rfl) (by kernel_rfl) (fun _ _ _ h => h) ?hy hS ?_
  case hy =>
    rintro o ho w' _
    go_simp
  simp only [Act.put, List.setIfInBounds_toArray, List.set_cons_zero, List.set_cons_succ]
  refine takeW 3 (some 8) (.load 22 (.tmp 7)) (Value.slice a1 L1 c1) rfl rfl (by kernel_rfl) (by kernel_rfl) (by kernel_rfl) (by kernel_rfl) (fun _ _ _ h => h) ?hy hS ?_
  case hy =>
    rintro o ho w' ⟨hA, hB, hC⟩
    have q := hA.c1
    go_simp
  simp only [Act.put, List.setIfInBounds_toArray, List.set_cons_zero, List.set_cons_succ]
  refine takeW 4 (some 9) (.fieldAddr 26 (.tmp 3) 1) (Value.pointer (some ⟨w.heap.size + 1, 1, none⟩)) rfl rfl (by kernel_rfl) (by kernel_rfl) (by kernel_rfl) (by kernel_rfl) (fun _ _ _ h => h) ?hy hS ?_
  case hy =>
    rintro o ho w' _
    go_simp
  simp only [Act.put, List.setIfInBounds_toArray, List.set_cons_zero, List.set_cons_succ]
  refine takeW 5 (some 10) (.load 22 (.tmp 9)) (Value.slice d1 M1 f1) rfl rfl (by kernel_rfl) (by kernel_rfl) (by kernel_rfl) (by kernel_rfl) (fun _ _ _ h => h) ?hy hS ?_
  case hy =>
    rintro o ho w' ⟨hA, hB, hC⟩
    have q := hB.c1
    go_simp
  simp only [Act.put, List.setIfInBounds_toArray, List.set_cons_zero, List.set_cons_succ]
  refine takeW 8 (some 13) (.fieldAddr 26 (.tmp 2) 2) (Value.pointer (some ⟨w.heap.size, 2, none⟩)) rfl rfl (by kernel_rfl) (by kernel_rfl) (by kernel_rfl) (by kernel_rfl) (fun _ _ _ h => h) ?hy hS ?_
  case hy =>
    rintro o ho w' _
    go_simp
  simp only [Act.put, List.setIfInBounds_toArray, List.set_cons_zero, List.set_cons_succ]
  refine takeW 9 (some 14) (.load 22 (.tmp 13)) (Value.slice a2 L2 c2) rfl rfl (by kernel_rfl) (by kernel_rfl) (by kernel_rfl) (by kernel_rfl) (fun _ _ _ h => h) ?hy hS ?_
  case hy =>
    rintro o ho w' ⟨hA, hB, hC⟩
    have q := hA.c2
    go_simp
  simp only [Act.put, List.setIfInBounds_toArray, List.set_cons_zero, List.set_cons_succ]
  refine takeW 10 (some 15) (.fieldAddr 26 (.tmp 3) 2) (Value.pointer (some ⟨w.heap.size + 1, 2, none⟩)) rfl rfl (by kernel_rfl) (by kernel_rfl) (by kernel_rfl) (by kernel_rfl) (fun _ _ _ h => h) ?hy hS ?_
  case hy =>
    rintro o ho w' _
    go_simp
  simp only [Act.put, List.setIfInBounds_toArray, List.set_cons_zero, List.set_cons_succ]
  refine takeW 11 (some 16) (.load 22 (.tmp 15)) (Value.slice d2 M2 f2) rfl rfl (by kernel_rfl) (by kernel_rfl) (by kernel_rfl) (by kernel_rfl) (fun _ _ _ h => h) ?hy hS ?_
  case hy =>
    rintro o ho w' ⟨hA, hB, hC⟩
    have q := hB.c2
    go_simp
  simp only [Act.put, List.setIfInBounds_toArray, List.set_cons_zero, List.set_cons_succ]
  refine takeW 14 (some 19) (.fieldAddr 26 (.tmp 2) 3) (Value.pointer (some ⟨w.heap.size, 3, none⟩)) rfl rfl (by kernel_rfl) (by kernel_rfl) (by kernel_rfl) (by kernel_rfl) (fun _ _ _ h => h) ?hy hS ?_
  case hy =>
    rintro o ho w' _
    go_simp
  simp only [Act.put, List.setIfInBounds_toArray, List.set_cons_zero, List.set_cons_succ]
  refine takeW 15 (some 20) (.load 23 (.tmp 19)) (Value.slice a3 L3 c3) rfl rfl (by kernel_rfl) (by kernel_rfl) (by kernel_rfl) (by kernel_rfl) (fun _ _ _ h => h) ?hy hS ?_
  case hy =>
    rintro o ho w' ⟨hA, hB, hC⟩
    have q := hA.c3
    go_simp
  simp only [Act.put, List.setIfInBounds_toArray, List.set_cons_zero, List.set_cons_succ]
  refine takeW 16 (some 21) (.fieldAddr 26 (.tmp 3) 3) (Value.pointer (some ⟨w.heap.size + 1, 3, none⟩)) rfl rfl (by kernel_rfl) (by kernel_rfl) (by kernel_rfl) (by kernel_rfl) (fun _ _ _ h => h) ?hy hS ?_
  case hy =>
    rintro o ho w' _
    go_simp
  simp only [Act.put, List.setIfInBounds_toArray, List.set_cons_zero, List.set_cons_succ]
  refine takeW 17 (some 22) (.load 23 (.tmp 21)) (Value.slice d3 M3 f3) rfl rfl (by kernel_rfl) (by kernel_rfl) (by kernel_rfl) (by kernel_rfl) (fun _ _ _ h => h) ?hy hS ?_
  case hy =>
    rintro o ho w' ⟨hA, hB, hC⟩
    have q := hB.c3
    go_simp
  simp only [Act.put, List.setIfInBounds_toArray, List.set_cons_zero, List.set_cons_succ]
  clear hS hX0 SS
  refine readyW3 6 12 18 (some 11) (.buildSlice 84 2 #[(0, .tmp 8), (1, .tmp 10)]) (some 17) (.buildSlice 84 2 #[(0, .tmp 14), (1, .tmp 16)]) (some 23) (.buildSlice 86 2 #[(0, .tmp 20), (1, .tmp 22)]) rfl rfl rfl (by kernel_rfl) ?_ ?_ ?_
  · rintro o K hd ho hg hK
    refine wp_build2S (.tmp 8) (.tmp 10) ho (.slice a1 L1 c1) (.slice d1 M1 f1) rfl rfl rfl rfl ?_
    rw [hd]
    obtain ⟨g0, hg0⟩ : ∃ g, X0.heap.size = g := ⟨_, rfl⟩
    obtain ⟨X1, hX1⟩ : ∃ X, X0.alloc (.cells #[.slice a1 L1 c1, .slice d1 M1 f1] 22) = X := ⟨_, rfl⟩
    have bl : Below X0.heap.size X0 X1 := by rw [← hX1]; exact below_alloc _ _
    have e0_1 : Hid (X1.cell? ⟨g0, 0, none⟩ = some (.slice a1 L1 c1) ∧ X1.cell? ⟨g0, 1, none⟩ = some (.slice d1 M1 f1)) := by rw [← hX1, ← hg0]; exact two_new _ _ _ _
    have B1 : Hid (Below W3.heap.size W3 X1) := B0.out.trans (bl.mono B0.out.size)
    have S1 : Hid (Nb X1 26 w.heap.size lf (.slice a1 L1 c1) (.slice a2 L2 c2) (.slice a3 L3 c3) ∧ Nb X1 26 (w.heap.size + 1) mf (.slice d1 M1 f1) (.slice d2 M2 f2) (.slice d3 M3 f3) ∧ Nb X1 26 (w.heap.size + 2) false (.slice none 0 0) (.slice none 0 0) (.slice none 0 0)) := ⟨S0.out.1.below bl, S0.out.2.1.below bl, S0.out.2.2.below bl⟩
    rw [hX1, hg0]
    refine hK _ _ (fun _ => S1.out) ?_
    clear ho hd hg hK bl hX1 hg0 S0 B0
    simp only [Act.put, List.setIfInBounds_toArray, List.set_cons_zero, List.set_cons_succ]
    refine readyW3 7 12 18 (some 12) (.call { callee := .value (.func 42), args := #[.tmp 11], argTypes := #[84] }) (some 17) (.buildSlice 84 2 #[(0, .tmp 14), (1, .tmp 16)]) (some 23) (.buildSlice 86 2 #[(0, .tmp 20), (1, .tmp 22)]) rfl rfl rfl (by kernel_rfl) ?_ ?_ ?_
    · rintro o K hd ho hg hK
      refine step_call (enters_of Try.func42 (by kernel_rfl) rfl) ho (vs := #[.slice (some ⟨g0, 0, none⟩) 2 2]) (by kernel_rfl) (HC1.out _ _ B1.out e0_1.out) ?_
      rintro e X2 ⟨⟨v0, rfl, ro, ng⟩, bl⟩
      refine ⟨_, rfl, ?_⟩
      rw [hd]
      have r0_2 : Hid (RdV X2 v0 (strs n.ks ++ strs m.ks)) := ro.rd
      have n0 : Hid (∀ q, v0.ownBlock = some q → W3.heap.size ≤ q) := fun q hq => Nat.le_trans B1.out.size (ng q hq)
      have B2 : Hid (Below W3.heap.size W3 X2) := B1.out.trans (bl.mono B1.out.size)
      have S2 : Hid (Nb X2 26 w.heap.size lf (.slice a1 L1 c1) (.slice a2 L2 c2) (.slice a3 L3 c3) ∧ Nb X2 26 (w.heap.size + 1) mf (.slice d1 M1 f1) (.slice d2 M2 f2) (.slice d3 M3 f3) ∧ Nb X2 26 (w.heap.size + 2) false (.slice none 0 0) (.slice none 0 0) (.slice none 0 0)) := ⟨S1.out.1.below bl, S1.out.2.1.below bl, S1.out.2.2.below bl⟩
      refine hK _ _ (fun _ => S2.out) ?_
      clear ho hd hg hK bl ro ng S1 B1 e0_1
      simp only [Act.put, List.setIfInBounds_toArray, List.set_cons_zero, List.set_cons_succ]
      refine readyW2 12 18 (some 17) (.buildSlice 84 2 #[(0, .tmp 14), (1, .tmp 16)]) (some 23) (.buildSlice 86 2 #[(0, .tmp 20), (1, .tmp 22)]) rfl rfl (by kernel_rfl) ?_ ?_
      · rintro o K hd ho hg hK
        refine wp_build2S (.tmp 14) (.tmp 16) ho (.slice a2 L2 c2) (.slice d2 M2 f2) rfl rfl rfl rfl ?_
        rw [hd]
        obtain ⟨g1, hg1⟩ : ∃ g, X2.heap.size = g := ⟨_, rfl⟩
        obtain ⟨X3, hX3⟩ : ∃ X, X2.alloc (.cells #[.slice a2 L2 c2, .slice d2 M2 f2] 22) = X := ⟨_, rfl⟩
        have bl : Below X2.heap.size X2 X3 := by rw [← hX3]; exact below_alloc _ _
        have e1_3 : Hid (X3.cell? ⟨g1, 0, none⟩ = some (.slice a2 L2 c2) ∧ X3.cell? ⟨g1, 1, none⟩ = some (.slice d2 M2 f2)) := by rw [← hX3, ← hg1]; exact two_new _ _ _ _
        have B3 : Hid (Below W3.heap.size W3 X3) := B2.out.trans (bl.mono B2.out.size)
        have r0_3 : Hid (RdV X3 v0 (strs n.ks ++ strs m.ks)) := r0_2.out.below bl
        have S3 : Hid (Nb X3 26 w.heap.size lf (.slice a1 L1 c1) (.slice a2 L2 c2) (.slice a3 L3 c3) ∧ Nb X3 26 (w.heap.size + 1) mf (.slice d1 M1 f1) (.slice d2 M2 f2) (.slice d3 M3 f3) ∧ Nb X3 26 (w.heap.size + 2) false (.slice none 0 0) (.slice none 0 0) (.slice none 0 0)) := ⟨S2.out.1.below bl, S2.out.2.1.below bl, S2.out.2.2.below bl⟩
        rw [hX3, hg1]
        refine hK _ _ (fun _ => S3.out) ?_
        clear ho hd hg hK bl hX3 hg1 S2 B2 r0_2
        simp only [Act.put, List.setIfInBounds_toArray, List.set_cons_zero, List.set_cons_succ]
        refine readyW2 13 18 (some 18) (.call { callee := .value (.func 42), args := #[.tmp 17], argTypes := #[84] }) (some 23) (.buildSlice 86 2 #[(0, .tmp 20), (1, .tmp 22)]) rfl rfl (by kernel_rfl) ?_ ?_
        · rintro o K hd ho hg hK
          refine step_call (enters_of Try.func42 (by kernel_rfl) rfl) ho (vs := #[.slice (some ⟨g1, 0, none⟩) 2 2]) (by kernel_rfl) (HC2.out _ _ B3.out e1_3.out) ?_
          rintro e X4 ⟨⟨v1, rfl, ro, ng⟩, bl⟩
          refine ⟨_, rfl, ?_⟩
          rw [hd]
          have r1_4 : Hid (RdV X4 v1 (strs n.vs ++ strs m.vs)) := ro.rd
          have n1 : Hid (∀ q, v1.ownBlock = some q → W3.heap.size ≤ q) := fun q hq => Nat.le_trans B3.out.size (ng q hq)
          have B4 : Hid (Below W3.heap.size W3 X4) := B3.out.trans (bl.mono B3.out.size)
          have r0_4 : Hid (RdV X4 v0 (strs n.ks ++ strs m.ks)) := r0_3.out.below bl
          have S4 : Hid (Nb X4 26 w.heap.size lf (.slice a1 L1 c1) (.slice a2 L2 c2) (.slice a3 L3 c3) ∧ Nb X4 26 (w.heap.size + 1) mf (.slice d1 M1 f1) (.slice d2 M2 f2) (.slice d3 M3 f3) ∧ Nb X4 26 (w.heap.size + 2) false (.slice none 0 0) (.slice none 0 0) (.slice none 0 0)) := ⟨S3.out.1.below bl, S3.out.2.1.below bl, S3.out.2.2.below bl⟩
          refine hK _ _ (fun _ => S4.out) ?_
          clear ho hd hg hK bl ro ng S3 B3 e1_3 r0_3
          simp only [Act.put, List.setIfInBounds_toArray, List.set_cons_zero, List.set_cons_succ]
          refine readyW 18 (some 23) (.buildSlice 86 2 #[(0, .tmp 20), (1, .tmp 22)]) rfl (by kernel_rfl) ?_
          rintro o K hd ho hg hK
          refine wp_build2I (.tmp 20) (.tmp 22) ho (.slice a3 L3 c3) (.slice d3 M3 f3) rfl rfl rfl rfl ?_
          rw [hd]
          obtain ⟨g2, hg2⟩ : ∃ g, X4.heap.size = g := ⟨_, rfl⟩
          obtain ⟨X5, hX5⟩ : ∃ X, X4.alloc (.cells #[.slice a3 L3 c3, .slice d3 M3 f3] 23) = X := ⟨_, rfl⟩
          have bl : Below X4.heap.size X4 X5 := by rw [← hX5]; exact below_alloc _ _
          have e2_5 : Hid (X5.cell? ⟨g2, 0, none⟩ = some (.slice a3 L3 c3) ∧ X5.cell? ⟨g2, 1, none⟩ = some (.slice d3 M3 f3)) := by rw [← hX5, ← hg2]; exact two_new _ _ _ _
          have B5 : Hid (Below W3.heap.size W3 X5) := B4.out.trans (bl.mono B4.out.size)
          have r0_5 : Hid (RdV X5 v0 (strs n.ks ++ strs m.ks)) := r0_4.out.below bl
          have r1_5 : Hid (RdV X5 v1 (strs n.vs ++ strs m.vs)) := r1_4.out.below bl
          have S5 : Hid (Nb X5 26 w.heap.size lf (.slice a1 L1 c1) (.slice a2 L2 c2) (.slice a3 L3 c3) ∧ Nb X5 26 (w.heap.size + 1) mf (.slice d1 M1 f1) (.slice d2 M2 f2) (.slice d3 M3 f3) ∧ Nb X5 26 (w.heap.size + 2) false (.slice none 0 0) (.slice none 0 0) (.slice none 0 0)) := ⟨S4.out.1.below bl, S4.out.2.1.below bl, S4.out.2.2.below bl⟩
          rw [hX5, hg2]
          refine hK _ _ (fun _ => S5.out) ?_
          clear ho hd hg hK bl hX5 hg2 S4 B4 r0_4 r1_4
          simp only [Act.put, List.setIfInBounds_toArray, List.set_cons_zero, List.set_cons_succ]
          refine readyW 19 (some 24) (.call { callee := .value (.func 43), args := #[.tmp 23], argTypes := #[86] }) rfl (by kernel_rfl) ?_
          rintro o K hd ho hg hK
          refine step_call (enters_of Try.func43 (by kernel_rfl) rfl) ho (vs := #[.slice (some ⟨g2, 0, none⟩) 2 2]) (by kernel_rfl) (HC3.out _ _ B5.out e2_5.out) ?_
          rintro e X6 ⟨⟨v2, rfl, ro, ng⟩, bl⟩
          refine ⟨_, rfl, ?_⟩
          rw [hd]
          have r2_6 : Hid (RdV X6 v2 (nums n.kd ++ nums m.kd)) := ro.rd
          have n2 : Hid (∀ q, v2.ownBlock = some q → W3.heap.size ≤ q) := fun q hq => Nat.le_trans B5.out.size (ng q hq)
          have B6 : Hid (Below W3.heap.size W3 X6) := B5.out.trans (bl.mono B5.out.size)
          have r0_6 : Hid (RdV X6 v0 (strs n.ks ++ strs m.ks)) := r0_5.out.below bl
          have r1_6 : Hid (RdV X6 v1 (strs n.vs ++ strs m.vs)) := r1_5.out.below bl
          have S6 : Hid (Nb X6 26 w.heap.size lf (.slice a1 L1 c1) (.slice a2 L2 c2) (.slice a3 L3 c3) ∧ Nb X6 26 (w.heap.size + 1) mf (.slice d1 M1 f1) (.slice d2 M2 f2) (.slice d3 M3 f3) ∧ Nb X6 26 (w.heap.size + 2) false (.slice none 0 0) (.slice none 0 0) (.slice none 0 0)) := ⟨S5.out.1.below bl, S5.out.2.1.below bl, S5.out.2.2.below bl⟩
          refine hK _ _ (fun _ => S6.out) ?_
          clear ho hd hg hK bl ro ng S5 B5 e2_5 r0_5 r1_5
          simp only [Act.put, List.setIfInBounds_toArray, List.set_cons_zero, List.set_cons_succ]
          obtain ⟨x0, y0, e0⟩ := r0_6.out.long
          obtain ⟨x1, y1, e1⟩ := r1_6.out.long
          obtain ⟨x2, y2, e2⟩ := r2_6.out.long
          obtain ⟨q0, hq0⟩ : ∃ q, Hid ((strs n.ks ++ strs m.ks).length = q) := ⟨_, rfl⟩
          obtain ⟨q1, hq1⟩ : ∃ q, Hid ((strs n.vs ++ strs m.vs).length = q) := ⟨_, rfl⟩
          obtain ⟨q2, hq2⟩ : ∃ q, Hid ((nums n.kd ++ nums m.kd).length = q) := ⟨_, rfl⟩
          rw [hq0.out] at e0
          rw [hq1.out] at e1
          rw [hq2.out] at e2
          subst e0 e1 e2
          refine readyW 20 (some 25) (.build 26 #[(0, .tmp 6), (1, .tmp 12), (2, .tmp 18), (3, .tmp 24)]) rfl (by kernel_rfl) ?_
          rintro o K hd ho hg hK
          refine stepY (v := nod lf (.slice x0 q0 y0) (.slice x1 q1 y1) (.slice x2 q2 y2)) ?hy ?_
          case hy => unfold nod; go_simp
          rw [hd]
          refine hK _ _ (fun _ => S6.out) ?_
          clear ho hd hg hK
          simp only [Act.put, List.setIfInBounds_toArray, List.set_cons_zero, List.set_cons_succ]
          refine readyW 21 none (.store 26 (.tmp 4) (.tmp 25)) rfl (by kernel_rfl) ?_
          rintro o K hd ho hg hK
          refine wp_storeN ho rfl rfl S6.out.2.2 ?_
          rw [hd]
          refine hK _ _ (fun e => absurd rfl e) ?_
          refine doneW (by kernel_rfl) ?_ _
          clear ho hd hg hK
          simp only [Act.put]
          have YA := S6.out.2.2.all lf (.slice x0 q0 y0) (.slice x1 q1 y1) (.slice x2 q2 y2)
          have tA := tch_all X6 (w.heap.size + 2) (.bool lf) (.slice x0 q0 y0) (.slice x1 q1 y1) (.slice x2 q2 y2)
          obtain ⟨XA, hXA⟩ : ∃ XA, Hid ((((X6.setCell ⟨w.heap.size + 2, 0, none⟩ (.bool lf)).setCell ⟨w.heap.size + 2, 1, none⟩ (.slice x0 q0 y0)).setCell ⟨w.heap.size + 2, 2, none⟩ (.slice x1 q1 y1)).setCell ⟨w.heap.size + 2, 3, none⟩ (.slice x2 q2 y2) = XA) := ⟨_, rfl⟩
          rw [hXA.out] at YA tA ⊢
          have LA := hideN YA.load
          have NA : Hid (Nn XA (joinN n m) (.slice x0 q0 y0) (.slice x1 q1 y1) (.slice x2 q2 y2)) := by
            refine ⟨?_, ?_, ?_⟩
            · have := r0_6.out.tch tA (fun j hj e => by have := n0.out j hj; have := s3.out; omega)
              simpa [joinN, strs] using this
            · have := r1_6.out.tch tA (fun j hj e => by have := n1.out j hj; have := s3.out; omega)
              simpa [joinN, strs] using this
            · have := r2_6.out.tch tA (fun j hj e => by have := n2.out j hj; have := s3.out; omega)
              simpa [joinN, nums] using this
          have BA : Hid (Below w.heap.size w XA) := BW3.out.trans ((B6.out.mono BW3.out.size).trans (tA.below (Nat.le_trans BW3.out.size B6.out.size) (fun j e => by omega)))
          clear YA tA hXA
          go_wp2_with fail
          refine bodyPost_ret (v := nod lf (.slice x0 q0 y0) (.slice x1 q1 y1) (.slice x2 q2 y2)) (results_atN (p := 4) (ty := 26) rfl _ _ _ (w.heap.size + 2) _ rfl LA.out) rfl ?_
          exact ⟨⟨_, _, _, rfl, NA.out, fun j hj => Nat.le_trans BW3.out.size (n0.out j hj), fun j hj => Nat.le_trans BW3.out.size (n1.out j hj), fun j hj => Nat.le_trans BW3.out.size (n2.out j hj)⟩, BA.out⟩
        · rintro o K hd ho hg hK
          refine wp_build2I (.tmp 20) (.tmp 22) ho (.slice a3 L3 c3) (.slice d3 M3 f3) rfl rfl rfl rfl ?_
          rw [hd]
          obtain ⟨g2, hg2⟩ : ∃ g, X3.heap.size = g := ⟨_, rfl⟩
          obtain ⟨X4, hX4⟩ : ∃ X, X3.alloc (.cells #[.slice a3 L3 c3, .slice d3 M3 f3] 23) = X := ⟨_, rfl⟩
          have bl : Below X3.heap.size X3 X4 := by rw [← hX4]; exact below_alloc _ _
          have e2_4 : Hid (X4.cell? ⟨g2, 0, none⟩ = some (.slice a3 L3 c3) ∧ X4.cell? ⟨g2, 1, none⟩ = some (.slice d3 M3 f3)) := by rw [← hX4, ← hg2]; exact two_new _ _ _ _
          have B4 : Hid (Below W3.heap.size W3 X4) := B3.out.trans (bl.mono B3.out.size)
          have r0_4 : Hid (RdV X4 v0 (strs n.ks ++ strs m.ks)) := r0_3.out.below bl
          have e1_4 : Hid (X4.cell? ⟨g1, 0, none⟩ = some (.slice a2 L2 c2) ∧ X4.cell? ⟨g1, 1, none⟩ = some (.slice d2 M2 f2)) := cells_below e1_3.out bl
          have S4 : Hid (Nb X4 26 w.heap.size lf (.slice a1 L1 c1) (.slice a2 L2 c2) (.slice a3 L3 c3) ∧ Nb X4 26 (w.heap.size + 1) mf (.slice d1 M1 f1) (.slice d2 M2 f2) (.slice d3 M3 f3) ∧ Nb X4 26 (w.heap.size + 2) false (.slice none 0 0) (.slice none 0 0) (.slice none 0 0)) := ⟨S3.out.1.below bl, S3.out.2.1.below bl, S3.out.2.2.below bl⟩
          rw [hX4, hg2]
          refine hK _ _ (fun _ => S4.out) ?_
          clear ho hd hg hK bl hX4 hg2 S3 B3 e1_3 r0_3
          simp only [Act.put, List.setIfInBounds_toArray, List.set_cons_zero, List.set_cons_succ]
          refine readyW 13 (some 18) (.call { callee := .value (.func 42), args := #[.tmp 17], argTypes := #[84] }) rfl (by kernel_rfl) ?_
          rintro o K hd ho hg hK
          refine step_call (enters_of Try.func42 (by kernel_rfl) rfl) ho (vs := #[.slice (some ⟨g1, 0, none⟩) 2 2]) (by kernel_rfl) (HC2.out _ _ B4.out e1_4.out) ?_
          rintro e X5 ⟨⟨v1, rfl, ro, ng⟩, bl⟩
          refine ⟨_, rfl, ?_⟩
          rw [hd]
          have r1_5 : Hid (RdV X5 v1 (strs n.vs ++ strs m.vs)) := ro.rd
          have n1 : Hid (∀ q, v1.ownBlock = some q → W3.heap.size ≤ q) := fun q hq => Nat.le_trans B4.out.size (ng q hq)
          have B5 : Hid (Below W3.heap.size W3 X5) := B4.out.trans (bl.mono B4.out.size)
          have r0_5 : Hid (RdV X5 v0 (strs n.ks ++ strs m.ks)) := r0_4.out.below bl
          have e2_5 : Hid (X5.cell? ⟨g2, 0, none⟩ = some (.slice a3 L3 c3) ∧ X5.cell? ⟨g2, 1, none⟩ = some (.slice d3 M3 f3)) := cells_below e2_4.out bl
          have S5 : Hid (Nb X5 26 w.heap.size lf (.slice a1 L1 c1) (.slice a2 L2 c2) (.slice a3 L3 c3) ∧ Nb X5 26 (w.heap.size + 1) mf (.slice d1 M1 f1) (.slice d2 M2 f2) (.slice d3 M3 f3) ∧ Nb X5 26 (w.heap.size + 2) false (.slice none 0 0) (.slice none 0 0) (.slice none 0 0)) := ⟨S4.out.1.below bl, S4.out.2.1.below bl, S4.out.2.2.below bl⟩
          refine hK _ _ (fun _ => S5.out) ?_
          clear ho hd hg hK bl ro ng S4 B4 e1_4 e2_4 r0_4
          simp only [Act.put, List.setIfInBounds_toArray, List.set_cons_zero, List.set_cons_succ]
          refine readyW 19 (some 24) (.call { callee := .value (.func 43), args := #[.tmp 23], argTypes := #[86] }) rfl (by kernel_rfl) ?_
          rintro o K hd ho hg hK
          refine step_call (enters_of Try.func43 (by kernel_rfl) rfl) ho (vs := #[.slice (some ⟨g2, 0, none⟩) 2 2]) (by kernel_rfl) (HC3.out _ _ B5.out e2_5.out) ?_
          rintro e X6 ⟨⟨v2, rfl, ro, ng⟩, bl⟩
          refine ⟨_, rfl, ?_⟩
          rw [hd]
          have r2_6 : Hid (RdV X6 v2 (nums n.kd ++ nums m.kd)) := ro.rd
          have n2 : Hid (∀ q, v2.ownBlock = some q → W3.heap.size ≤ q) := fun q hq => Nat.le_trans B5.out.size (ng q hq)
          have B6 : Hid (Below W3.heap.size W3 X6) := B5.out.trans (bl.mono B5.out.size)
          have r0_6 : Hid (RdV X6 v0 (strs n.ks ++ strs m.ks)) := r0_5.out.below bl
          have r1_6 : Hid (RdV X6 v1 (strs n.vs ++ strs m.vs)) := r1_5.out.below bl
          have S6 : Hid (Nb X6 26 w.heap.size lf (.slice a1 L1 c1) (.slice a2 L2 c2) (.slice a3 L3 c3) ∧ Nb X6 26 (w.heap.size + 1) mf (.slice d1 M1 f1) (.slice d2 M2 f2) (.slice d3 M3 f3) ∧ Nb X6 26 (w.heap.size + 2) false (.slice none 0 0) (.slice none 0 0) (.slice none 0 0)) := ⟨S5.out.1.below bl, S5.out.2.1.below bl, S5.out.2.2.below bl⟩
          refine hK _ _ (fun _ => S6.out) ?_
          clear ho hd hg hK bl ro ng S5 B5 e2_5 r0_5 r1_5
          simp only [Act.put, List.setIfInBounds_toArray, List.set_cons_zero, List.set_cons_succ]
          obtain ⟨x0, y0, e0⟩ := r0_6.out.long
          obtain ⟨x1, y1, e1⟩ := r1_6.out.long
          obtain ⟨x2, y2, e2⟩ := r2_6.out.long
          obtain ⟨q0, hq0⟩ : ∃ q, Hid ((strs n.ks ++ strs m.ks).length = q) := ⟨_, rfl⟩
          obtain ⟨q1, hq1⟩ : ∃ q, Hid ((strs n.vs ++ strs m.vs).length = q) := ⟨_, rfl⟩
          obtain ⟨q2, hq2⟩ : ∃ q, Hid ((nums n.kd ++ nums m.kd).length = q) := ⟨_, rfl⟩
          rw [hq0.out] at e0
          rw [hq1.out] at e1
          rw [hq2.out] at e2
          subst e0 e1 e2
          refine readyW 20 (some 25) (.build 26 #[(0, .tmp 6), (1, .tmp 12), (2, .tmp 18), (3, .tmp 24)]) rfl (by kernel_rfl) ?_
          rintro o K hd ho hg hK
          refine stepY (v := nod lf (.slice x0 q0 y0) (.slice x1 q1 y1) (.slice x2 q2 y2)) ?hy ?_
          case hy => unfold nod; go_simp
          rw [hd]
          refine hK _ _ (fun _ => S6.out) ?_
          clear ho hd hg hK
          simp only [Act.put, List.setIfInBounds_toArray, List.set_cons_zero, List.set_cons_succ]
          refine readyW 21 none (.store 26 (.tmp 4) (.tmp 25)) rfl (by kernel_rfl) ?_
          rintro o K hd ho hg hK
          refine wp_storeN ho rfl rfl S6.out.2.2 ?_
          rw [hd]
          refine hK _ _ (fun e => absurd rfl e) ?_
          refine doneW (by kernel_rfl) ?_ _
          clear ho hd hg hK
          simp only [Act.put]
          have YA := S6.out.2.2.all lf (.slice x0 q0 y0) (.slice x1 q1 y1) (.slice x2 q2 y2)
          have tA := tch_all X6 (w.heap.size + 2) (.bool lf) (.slice x0 q0 y0) (.slice x1 q1 y1) (.slice x2 q2 y2)
          obtain ⟨XA, hXA⟩ : ∃ XA, Hid ((((X6.setCell ⟨w.heap.size + 2, 0, none⟩ (.bool lf)).setCell ⟨w.heap.size + 2, 1, none⟩ (.slice x0 q0 y0)).setCell ⟨w.heap.size + 2, 2, none⟩ (.slice x1 q1 y1)).setCell ⟨w.heap.size + 2, 3, none⟩ (.slice x2 q2 y2) = XA) := ⟨_, rfl⟩
          rw [hXA.out] at YA tA ⊢
          have LA := hideN YA.load
          have NA : Hid (Nn XA (joinN n m) (.slice x0 q0 y0) (.slice x1 q1 y1) (.slice x2 q2 y2)) := by
            refine ⟨?_, ?_, ?_⟩
            · have := r0_6.out.tch tA (fun j hj e => by have := n0.out j hj; have := s3.out; omega)
              simpa [joinN, strs] using this
            · have := r1_6.out.tch tA (fun j hj e => by have := n1.out j hj; have := s3.out; omega)
              simpa [joinN, strs] using this
            · have := r2_6.out.tch tA (fun j hj e => by have := n2.out j hj; have := s3.out; omega)
              simpa [joinN, nums] using this
          have BA : Hid (Below w.heap.size w XA) := BW3.out.trans ((B6.out.mono BW3.out.size).trans (tA.below (Nat.le_trans BW3.out.size B6.out.size) (fun j e => by omega)))
          clear YA tA hXA
          go_wp2_with fail
          refine bodyPost_ret (v := nod lf (.slice x0 q0 y0) (.slice x1 q1 y1) (.slice x2 q2 y2)) (results_atN (p := 4) (ty := 26) rfl _ _ _ (w.heap.size + 2) _ rfl LA.out) rfl ?_
          exact ⟨⟨_, _, _, rfl, NA.out, fun j hj => Nat.le_trans BW3.out.size (n0.out j hj), fun j hj => Nat.le_trans BW3.out.size (n1.out j hj), fun j hj => Nat.le_trans BW3.out.size (n2.out j hj)⟩, BA.out⟩
      · rintro o K hd ho hg hK
        refine wp_build2I (.tmp 20) (.tmp 22) ho (.slice a3 L3 c3) (.slice d3 M3 f3) rfl rfl rfl rfl ?_
        rw [hd]
        obtain ⟨g2, hg2⟩ : ∃ g, X2.heap.size = g := ⟨_, rfl⟩
        obtain ⟨X3, hX3⟩ : ∃ X, X2.alloc (.cells #[.slice a3 L3 c3, .slice d3 M3 f3] 23) = X := ⟨_, rfl⟩
        have bl : Below X2.heap.size X2 X3 := by rw [← hX3]; exact below_alloc _ _
        have e2_3 : Hid (X3.cell? ⟨g2, 0, none⟩ = some (.slice a3 L3 c3) ∧ X3.cell? ⟨g2, 1, none⟩ = some (.slice d3 M3 f3)) := by rw [← hX3, ← hg2]; exact two_new _ _ _ _
        have B3 : Hid (Below W3.heap.size W3 X3) := B2.out.trans (bl.mono B2.out.size)
        have r0_3 : Hid (RdV X3 v0 (strs n.ks ++ strs m.ks)) := r0_2.out.below bl
        have S3 : Hid (Nb X3 26 w.heap.size lf (.slice a1 L1 c1) (.slice a2 L2 c2) (.slice a3 L3 c3) ∧ Nb X3 26 (w.heap.size + 1) mf (.slice d1 M1 f1) (.slice d2 M2 f2) (.slice d3 M3 f3) ∧ Nb X3 26 (w.heap.size + 2) false (.slice none 0 0) (.slice none 0 0) (.slice none 0 0)) := ⟨S2.out.1.below bl, S2.out.2.1.below bl, S2.out.2.2.below bl⟩
        rw [hX3, hg2]
        refine hK _ _ (fun _ => S3.out) ?_
        clear ho hd hg hK bl hX3 hg2 S2 B2 r0_2
        simp only [Act.put, List.setIfInBounds_toArray, List.set_cons_zero, List.set_cons_succ]
        refine readyW 12 (some 17) (.buildSlice 84 2 #[(0, .tmp 14), (1, .tmp 16)]) rfl (by kernel_rfl) ?_
        rintro o K hd ho hg hK
        refine wp_build2S (.tmp 14) (.tmp 16) ho (.slice a2 L2 c2) (.slice d2 M2 f2) rfl rfl rfl rfl ?_
        rw [hd]
        obtain ⟨g1, hg1⟩ : ∃ g, X3.heap.size = g := ⟨_, rfl⟩
        obtain ⟨X4, hX4⟩ : ∃ X, X3.alloc (.cells #[.slice a2 L2 c2, .slice d2 M2 f2] 22) = X := ⟨_, rfl⟩
        have bl : Below X3.heap.size X3 X4 := by rw [← hX4]; exact below_alloc _ _
        have e1_4 : Hid (X4.cell? ⟨g1, 0, none⟩ = some (.slice a2 L2 c2) ∧ X4.cell? ⟨g1, 1, none⟩ = some (.slice d2 M2 f2)) := by rw [← hX4, ← hg1]; exact two_new _ _ _ _
        have B4 : Hid (Below W3.heap.size W3 X4) := B3.out.trans (bl.mono B3.out.size)
        have r0_4 : Hid (RdV X4 v0 (strs n.ks ++ strs m.ks)) := r0_3.out.below bl
        have e2_4 : Hid (X4.cell? ⟨g2, 0, none⟩ = some (.slice a3 L3 c3) ∧ X4.cell? ⟨g2, 1, none⟩ = some (.slice d3 M3 f3)) := cells_below e2_3.out bl
        have S4 : Hid (Nb X4 26 w.heap.size lf (.slice a1 L1 c1) (.slice a2 L2 c2) (.slice a3 L3 c3) ∧ Nb X4 26 (w.heap.size + 1) mf (.slice d1 M1 f1) (.slice d2 M2 f2) (.slice d3 M3 f3) ∧ Nb X4 26 (w.heap.size + 2) false (.slice none 0 0) (.slice none 0 0) (.slice none 0 0)) := ⟨S3.out.1.below bl, S3.out.2.1.below bl, S3.out.2.2.below bl⟩
        rw [hX4, hg1]
        refine hK _ _ (fun _ => S4.out) ?_
        clear ho hd hg hK bl hX4 hg1 S3 B3 e2_3 r0_3
        simp only [Act.put, List.setIfInBounds_toArray, List.set_cons_zero, List.set_cons_succ]
        refine readyW 13 (some 18) (.call { callee := .value (.func 42), args := #[.tmp 17], argTypes := #[84] }) rfl (by kernel_rfl) ?_
        rintro o K hd ho hg hK
        refine step_call (enters_of Try.func42 (by kernel_rfl) rfl) ho (vs := #[.slice (some ⟨g1, 0, none⟩) 2 2]) (by kernel_rfl) (HC2.out _ _ B4.out e1_4.out) ?_
        rintro e X5 ⟨⟨v1, rfl, ro, ng⟩, bl⟩
        refine ⟨_, rfl, ?_⟩
        rw [hd]
        have r1_5 : Hid (RdV X5 v1 (strs n.vs ++ strs m.vs)) := ro.rd
        have n1 : Hid (∀ q, v1.ownBlock = some q → W3.heap.size ≤ q) := fun q hq => Nat.le_trans B4.out.size (ng q hq)
        have B5 : Hid (Below W3.heap.size W3 X5) := B4.out.trans (bl.mono B4.out.size)
        have r0_5 : Hid (RdV X5 v0 (strs n.ks ++ strs m.ks)) := r0_4.out.below bl
        have e2_5 : Hid (X5.cell? ⟨g2, 0, none⟩ = some (.slice a3 L3 c3) ∧ X5.cell? ⟨g2, 1, none⟩ = some (.slice d3 M3 f3)) := cells_below e2_4.out bl
        have S5 : Hid (Nb X5 26 w.heap.size lf (.slice a1 L1 c1) (.slice a2 L2 c2) (.slice a3 L3 c3) ∧ Nb X5 26 (w.heap.size + 1) mf (.slice d1 M1 f1) (.slice d2 M2 f2) (.slice d3 M3 f3) ∧ Nb X5 26 (w.heap.size + 2) false (.slice none 0 0) (.slice none 0 0) (.slice none 0 0)) := ⟨S4.out.1.below bl, S4.out.2.1.below bl, S4.out.2.2.below bl⟩
        refine hK _ _ (fun _ => S5.out) ?_
        clear ho hd hg hK bl ro ng S4 B4 e1_4 e2_4 r0_4
        simp only [Act.put, List.setIfInBounds_toArray, List.set_cons_zero, List.set_cons_succ]
        refine readyW 19 (some 24) (.call { callee := .value (.func 43), args := #[.tmp 23], argTypes := #[86] }) rfl (by kernel_rfl) ?_
        rintro o K hd ho hg hK
        refine step_call (enters_of Try.func43 (by kernel_rfl) rfl) ho (vs := #[.slice (some ⟨g2, 0, none⟩) 2 2]) (by kernel_rfl) (HC3.out _ _ B5.out e2_5.out) ?_
        rintro e X6 ⟨⟨v2, rfl, ro, ng⟩, bl⟩
        refine ⟨_, rfl, ?_⟩
        rw [hd]
        have r2_6 : Hid (RdV X6 v2 (nums n.kd ++ nums m.kd)) := ro.rd
        have n2 : Hid (∀ q, v2.ownBlock = some q → W3.heap.size ≤ q) := fun q hq => Nat.le_trans B5.out.size (ng q hq)
        have B6 : Hid (Below W3.heap.size W3 X6) := B5.out.trans (bl.mono B5.out.size)
        have r0_6 : Hid (RdV X6 v0 (strs n.ks ++ strs m.ks)) := r0_5.out.below bl
        have r1_6 : Hid (RdV X6 v1 (strs n.vs ++ strs m.vs)) := r1_5.out.below bl
        have S6 : Hid (Nb X6 26 w.heap.size lf (.slice a1 L1 c1) (.slice a2 L2 c2) (.slice a3 L3 c3) ∧ Nb X6 26 (w.heap.size + 1) mf (.slice d1 M1 f1) (.slice d2 M2 f2) (.slice d3 M3 f3) ∧ Nb X6 26 (w.heap.size + 2) false (.slice none 0 0) (.slice none 0 0) (.slice none 0 0)) := ⟨S5.out.1.below bl, S5.out.2.1.below bl, S5.out.2.2.below bl⟩
        refine hK _ _ (fun _ => S6.out) ?_
        clear ho hd hg hK bl ro ng S5 B5 e2_5 r0_5 r1_5
        simp only [Act.put, List.setIfInBounds_toArray, List.set_cons_zero, List.set_cons_succ]
        obtain ⟨x0, y0, e0⟩ := r0_6.out.long
        obtain ⟨x1, y1, e1⟩ := r1_6.out.long
        obtain ⟨x2, y2, e2⟩ := r2_6.out.long
        obtain ⟨q0, hq0⟩ : ∃ q, Hid ((strs n.ks ++ strs m.ks).length = q) := ⟨_, rfl⟩
        obtain ⟨q1, hq1⟩ : ∃ q, Hid ((strs n.vs ++ strs m.vs).length = q) := ⟨_, rfl⟩
        obtain ⟨q2, hq2⟩ : ∃ q, Hid ((nums n.kd ++ nums m.kd).length = q) := ⟨_, rfl⟩
        rw [hq0.out] at e0
        rw [hq1.out] at e1
        rw [hq2.out] at e2
        subst e0 e1 e2
        refine readyW 20 (some 25) (.build 26 #[(0, .tmp 6), (1, .tmp 12), (2, .tmp 18), (3, .tmp 24)]) rfl (by kernel_rfl) ?_
        rintro o K hd ho hg hK
        refine stepY (v := nod lf (.slice x0 q0 y0) (.slice x1 q1 y1) (.slice x2 q2 y2)) ?hy ?_
        case hy => unfold nod; go_simp
        rw [hd]
        refine hK _ _ (fun _ => S6.out) ?_
        clear ho hd hg hK
        simp only [Act.put, List.setIfInBounds_toArray, List.set_cons_zero, List.set_cons_succ]
        refine readyW 21 none (.store 26 (.tmp 4) (.tmp 25)) rfl (by kernel_rfl) ?_
        rintro o K hd ho hg hK
        refine wp_storeN ho rfl rfl S6.out.2.2 ?_
        rw [hd]
        refine hK _ _ (fun e => absurd rfl e) ?_
        refine doneW (by kernel_rfl) ?_ _
        clear ho hd hg hK
        simp only [Act.put]
        have YA := S6.out.2.2.all lf (.slice x0 q0 y0) (.slice x1 q1 y1) (.slice x2 q2 y2)
        have tA := tch_all X6 (w.heap.size + 2) (.bool lf) (.slice x0 q0 y0) (.slice x1 q1 y1) (.slice x2 q2 y2)
        obtain ⟨XA, hXA⟩ : ∃ XA, Hid ((((X6.setCell ⟨w.heap.size + 2, 0, none⟩ (.bool lf)).setCell ⟨w.heap.size + 2, 1, none⟩ (.slice x0 q0 y0)).setCell ⟨w.heap.size + 2, 2, none⟩ (.slice x1 q1 y1)).setCell ⟨w.heap.size + 2, 3, none⟩ (.slice x2 q2 y2) = XA) := ⟨_, rfl⟩
        rw [hXA.out] at YA tA ⊢
        have LA := hideN YA.load
        have NA : Hid (Nn XA (joinN n m) (.slice x0 q0 y0) (.slice x1 q1 y1) (.slice x2 q2 y2)) := by
          refine ⟨?_, ?_, ?_⟩
          · have := r0_6.out.tch tA (fun j hj e => by have := n0.out j hj; have := s3.out; omega)
            simpa [joinN, strs] using this
          · have := r1_6.out.tch tA (fun j hj e => by have := n1.out j hj; have := s3.out; omega)
            simpa [joinN, strs] using this
          · have := r2_6.out.tch tA (fun j hj e => by have := n2.out j hj; have := s3.out; omega)
            simpa [joinN, nums] using this
        have BA : Hid (Below w.heap.size w XA) := BW3.out.trans ((B6.out.mono BW3.out.size).trans (tA.below (Nat.le_trans BW3.out.size B6.out.size) (fun j e => by omega)))
        clear YA tA hXA
        go_wp2_with fail
        refine bodyPost_ret (v := nod lf (.slice x0 q0 y0) (.slice x1 q1 y1) (.slice x2 q2 y2)) (results_atN (p := 4) (ty := 26) rfl _ _ _ (w.heap.size + 2) _ rfl LA.out) rfl ?_
        exact ⟨⟨_, _, _, rfl, NA.out, fun j hj => Nat.le_trans BW3.out.size (n0.out j hj), fun j hj => Nat.le_trans BW3.out.size (n1.out j hj), fun j hj => Nat.le_trans BW3.out.size (n2.out j hj)⟩, BA.out⟩
    · rintro o K hd ho hg hK
      refine wp_build2S (.tmp 14) (.tmp 16) ho (.slice a2 L2 c2) (.slice d2 M2 f2) rfl rfl rfl rfl ?_
      rw [hd]
      obtain ⟨g1, hg1⟩ : ∃ g, X1.heap.size = g := ⟨_, rfl⟩
      obtain ⟨X2, hX2⟩ : ∃ X, X1.alloc (.cells #[.slice a2 L2 c2, .slice d2 M2 f2] 22) = X := ⟨_, rfl⟩
      have bl : Below X1.heap.size X1 X2 := by rw [← hX2]; exact below_alloc _ _
      have e1_2 : Hid (X2.cell? ⟨g1, 0, none⟩ = some (.slice a2 L2 c2) ∧ X2.cell? ⟨g1, 1, none⟩ = some (.slice d2 M2 f2)) := by rw [← hX2, ← hg1]; exact two_new _ _ _ _
      have B2 : Hid (Below W3.heap.size W3 X2) := B1.out.trans (bl.mono B1.out.size)
      have e0_2 : Hid (X2.cell? ⟨g0, 0, none⟩ = some (.slice a1 L1 c1) ∧ X2.cell? ⟨g0, 1, none⟩ = some (.slice d1 M1 f1)) := cells_below e0_1.out bl
      have S2 : Hid (Nb X2 26 w.heap.size lf (.slice a1 L1 c1) (.slice a2 L2 c2) (.slice a3 L3 c3) ∧ Nb X2 26 (w.heap.size + 1) mf (.slice d1 M1 f1) (.slice d2 M2 f2) (.slice d3 M3 f3) ∧ Nb X2 26 (w.heap.size + 2) false (.slice none 0 0) (.slice none 0 0) (.slice none 0 0)) := ⟨S1.out.1.below bl, S1.out.2.1.below bl, S1.out.2.2.below bl⟩
      rw [hX2, hg1]
      refine hK _ _ (fun _ => S2.out) ?_
      clear ho hd hg hK bl hX2 hg1 S1 B1 e0_1
      simp only [Act.put, List.setIfInBounds_toArray, List.set_cons_zero, List.set_cons_succ]
      refine readyW2 7 18 (some 12) (.call { callee := .value (.func 42), args := #[.tmp 11], argTypes := #[84] }) (some 23) (.buildSlice 86 2 #[(0, .tmp 20), (1, .tmp 22)]) rfl rfl (by kernel_rfl) ?_ ?_
      · rintro o K hd ho hg hK
        refine step_call (enters_of Try.func42 (by kernel_rfl) rfl) ho (vs := #[.slice (some ⟨g0, 0, none⟩) 2 2]) (by kernel_rfl) (HC1.out _ _ B2.out e0_2.out) ?_
        rintro e X3 ⟨⟨v0, rfl, ro, ng⟩, bl⟩
        refine ⟨_, rfl, ?_⟩
        rw [hd]
        have r0_3 : Hid (RdV X3 v0 (strs n.ks ++ strs m.ks)) := ro.rd
        have n0 : Hid (∀ q, v0.ownBlock = some q → W3.heap.size ≤ q) := fun q hq => Nat.le_trans B2.out.size (ng q hq)
        have B3 : Hid (Below W3.heap.size W3 X3) := B2.out.trans (bl.mono B2.out.size)
        have e1_3 : Hid (X3.cell? ⟨g1, 0, none⟩ = some (.slice a2 L2 c2) ∧ X3.cell? ⟨g1, 1, none⟩ = some (.slice d2 M2 f2)) := cells_below e1_2.out bl
        have S3 : Hid (Nb X3 26 w.heap.size lf (.slice a1 L1 c1) (.slice a2 L2 c2) (.slice a3 L3 c3) ∧ Nb X3 26 (w.heap.size + 1) mf (.slice d1 M1 f1) (.slice d2 M2 f2) (.slice d3 M3 f3) ∧ Nb X3 26 (w.heap.size + 2) false (.slice none 0 0) (.slice none 0 0) (.slice none 0 0)) := ⟨S2.out.1.below bl, S2.out.2.1.below bl, S2.out.2.2.below bl⟩
        refine hK _ _ (fun _ => S3.out) ?_
        clear ho hd hg hK bl ro ng S2 B2 e0_2 e1_2
        simp only [Act.put, List.setIfInBounds_toArray, List.set_cons_zero, List.set_cons_succ]
        refine readyW2 13 18 (some 18) (.call { callee := .value (.func 42), args := #[.tmp 17], argTypes := #[84] }) (some 23) (.buildSlice 86 2 #[(0, .tmp 20), (1, .tmp 22)]) rfl rfl (by kernel_rfl) ?_ ?_
        · rintro o K hd ho hg hK
          refine step_call (enters_of Try.func42 (by kernel_rfl) rfl) ho (vs := #[.slice (some ⟨g1, 0, none⟩) 2 2]) (by kernel_rfl) (HC2.out _ _ B3.out e1_3.out) ?_
          rintro e X4 ⟨⟨v1, rfl, ro, ng⟩, bl⟩
          refine ⟨_, rfl, ?_⟩
          rw [hd]
          have r1_4 : Hid (RdV X4 v1 (strs n.vs ++ strs m.vs)) := ro.rd
          have n1 : Hid (∀ q, v1.ownBlock = some q → W3.heap.size ≤ q) := fun q hq => Nat.le_trans B3.out.size (ng q hq)
          have B4 : Hid (Below W3.heap.size W3 X4) := B3.out.trans (bl.mono B3.out.size)
          have r0_4 : Hid (RdV X4 v0 (strs n.ks ++ strs m.ks)) := r0_3.out.below bl
          have S4 : Hid (Nb X4 26 w.heap.size lf (.slice a1 L1 c1) (.slice a2 L2 c2) (.slice a3 L3 c3) ∧ Nb X4 26 (w.heap.size + 1) mf (.slice d1 M1 f1) (.slice d2 M2 f2) (.slice d3 M3 f3) ∧ Nb X4 26 (w.heap.size + 2) false (.slice none 0 0) (.slice none 0 0) (.slice none 0 0)) := ⟨S3.out.1.below bl, S3.out.2.1.below bl, S3.out.2.2.below bl⟩
          refine hK _ _ (fun _ => S4.out) ?_
          clear ho hd hg hK bl ro ng S3 B3 e1_3 r0_3
          simp only [Act.put, List.setIfInBounds_toArray, List.set_cons_zero, List.set_cons_succ]
          refine readyW 18 (some 23) (.buildSlice 86 2 #[(0, .tmp 20), (1, .tmp 22)]) rfl (by kernel_rfl) ?_
          rintro o K hd ho hg hK
          refine wp_build2I (.tmp 20) (.tmp 22) ho (.slice a3 L3 c3) (.slice d3 M3 f3) rfl rfl rfl rfl ?_
          rw [hd]
          obtain ⟨g2, hg2⟩ : ∃ g, X4.heap.size = g := ⟨_, rfl⟩
          obtain ⟨X5, hX5⟩ : ∃ X, X4.alloc (.cells #[.slice a3 L3 c3, .slice d3 M3 f3] 23) = X := ⟨_, rfl⟩
          have bl : Below X4.heap.size X4 X5 := by rw [← hX5]; exact below_alloc _ _
          have e2_5 : Hid (X5.cell? ⟨g2, 0, none⟩ = some (.slice a3 L3 c3) ∧ X5.cell? ⟨g2, 1, none⟩ = some (.slice d3 M3 f3)) := by rw [← hX5, ← hg2]; exact two_new _ _ _ _
          have B5 : Hid (Below W3.heap.size W3 X5) := B4.out.trans (bl.mono B4.out.size)
          have r0_5 : Hid (RdV X5 v0 (strs n.ks ++ strs m.ks)) := r0_4.out.below bl
          have r1_5 : Hid (RdV X5 v1 (strs n.vs ++ strs m.vs)) := r1_4.out.below bl
          have S5 : Hid (Nb X5 26 w.heap.size lf (.slice a1 L1 c1) (.slice a2 L2 c2) (.slice a3 L3 c3) ∧ Nb X5 26 (w.heap.size + 1) mf (.slice d1 M1 f1) (.slice d2 M2 f2) (.slice d3 M3 f3) ∧ Nb X5 26 (w.heap.size + 2) false (.slice none 0 0) (.slice none 0 0) (.slice none 0 0)) := ⟨S4.out.1.below bl, S4.out.2.1.below bl, S4.out.2.2.below bl⟩
          rw [hX5, hg2]
          refine hK _ _ (fun _ => S5.out) ?_
          clear ho hd hg hK bl hX5 hg2 S4 B4 r0_4 r1_4
          simp only [Act.put, List.setIfInBounds_toArray, List.set_cons_zero, List.set_cons_succ]
          refine readyW 19 (some 24) (.call { callee := .value (.func 43), args := #[.tmp 23], argTypes := #[86] }) rfl (by kernel_rfl) ?_
          rintro o K hd ho hg hK
          refine step_call (enters_of Try.func43 (by kernel_rfl) rfl) ho (vs := #[.slice (some ⟨g2, 0, none⟩) 2 2]) (by kernel_rfl) (HC3.out _ _ B5.out e2_5.out) ?_
          rintro e X6 ⟨⟨v2, rfl, ro, ng⟩, bl⟩
          refine ⟨_, rfl, ?_⟩
          rw [hd]
          have r2_6 : Hid (RdV X6 v2 (nums n.kd ++ nums m.kd)) := ro.rd
          have n2 : Hid (∀ q, v2.ownBlock = some q → W3.heap.size ≤ q) := fun q hq => Nat.le_trans B5.out.size (ng q hq)
          have B6 : Hid (Below W3.heap.size W3 X6) := B5.out.trans (bl.mono B5.out.size)
          have r0_6 : Hid (RdV X6 v0 (strs n.ks ++ strs m.ks)) := r0_5.out.below bl
          have r1_6 : Hid (RdV X6 v1 (strs n.vs ++ strs m.vs)) := r1_5.out.below bl
          have S6 : Hid (Nb X6 26 w.heap.size lf (.slice a1 L1 c1) (.slice a2 L2 c2) (.slice a3 L3 c3) ∧ Nb X6 26 (w.heap.size + 1) mf (.slice d1 M1 f1) (.slice d2 M2 f2) (.slice d3 M3 f3) ∧ Nb X6 26 (w.heap.size + 2) false (.slice none 0 0) (.slice none 0 0) (.slice none 0 0)) := ⟨S5.out.1.below bl, S5.out.2.1.below bl, S5.out.2.2.below bl⟩
          refine hK _ _ (fun _ => S6.out) ?_
          clear ho hd hg hK bl ro ng S5 B5 e2_5 r0_5 r1_5
          simp only [Act.put, List.setIfInBounds_toArray, List.set_cons_zero, List.set_cons_succ]
          obtain ⟨x0, y0, e0⟩ := r0_6.out.long
          obtain ⟨x1, y1, e1⟩ := r1_6.out.long
          obtain ⟨x2, y2, e2⟩ := r2_6.out.long
          obtain ⟨q0, hq0⟩ : ∃ q, Hid ((strs n.ks ++ strs m.ks).length = q) := ⟨_, rfl⟩
          obtain ⟨q1, hq1⟩ : ∃ q, Hid ((strs n.vs ++ strs m.vs).length = q) := ⟨_, rfl⟩
          obtain ⟨q2, hq2⟩ : ∃ q, Hid ((nums n.kd ++ nums m.kd).length = q) := ⟨_, rfl⟩
          rw [hq0.out] at e0
          rw [hq1.out] at e1
          rw [hq2.out] at e2
          subst e0 e1 e2
          refine readyW 20 (some 25) (.build 26 #[(0, .tmp 6), (1, .tmp 12), (2, .tmp 18), (3, .tmp 24)]) rfl (by kernel_rfl) ?_
          rintro o K hd ho hg hK
          refine stepY (v := nod lf (.slice x0 q0 y0) (.slice x1 q1 y1) (.slice x2 q2 y2)) ?hy ?_
          case hy => unfold nod; go_simp
          rw [hd]
          refine hK _ _ (fun _ => S6.out) ?_
          clear ho hd hg hK
          simp only [Act.put, List.setIfInBounds_toArray, List.set_cons_zero, List.set_cons_succ]
          refine readyW 21 none (.store 26 (.tmp 4) (.tmp 25)) rfl (by kernel_rfl) ?_
          rintro o K hd ho hg hK
          refine wp_storeN ho rfl rfl S6.out.2.2 ?_
          rw [hd]
          refine hK _ _ (fun e => absurd rfl e) ?_
          refine doneW (by kernel_rfl) ?_ _
          clear ho hd hg hK
          simp only [Act.put]
          have YA := S6.out.2.2.all lf (.slice x0 q0 y0) (.slice x1 q1 y1) (.slice x2 q2 y2)
          have tA := tch_all X6 (w.heap.size + 2) (.bool lf) (.slice x0 q0 y0) (.slice x1 q1 y1) (.slice x2 q2 y2)
          obtain ⟨XA, hXA⟩ : ∃ XA, Hid ((((X6.setCell ⟨w.heap.size + 2, 0, none⟩ (.bool lf)).setCell ⟨w.heap.size + 2, 1, none⟩ (.slice x0 q0 y0)).setCell ⟨w.heap.size + 2, 2, none⟩ (.slice x1 q1 y1)).setCell ⟨w.heap.size + 2, 3, none⟩ (.slice x2 q2 y2) = XA) := ⟨_, rfl⟩
          rw [hXA.out] at YA tA ⊢
          have LA := hideN YA.load
          have NA : Hid (Nn XA (joinN n m) (.slice x0 q0 y0) (.slice x1 q1 y1) (.slice x2 q2 y2)) := by
            refine ⟨?_, ?_, ?_⟩
            · have := r0_6.out.tch tA (fun j hj e => by have := n0.out j hj; have := s3.out; omega)
              simpa [joinN, strs] using this
            · have := r1_6.out.tch tA (fun j hj e => by have := n1.out j hj; have := s3.out; omega)
              simpa [joinN, strs] using this
            · have := r2_6.out.tch tA (fun j hj e => by have := n2.out j hj; have := s3.out; omega)
              simpa [joinN, nums] using this
          have BA : Hid (Below w.heap.size w XA) := BW3.out.trans ((B6.out.mono BW3.out.size).trans (tA.below (Nat.le_trans BW3.out.size B6.out.size) (fun j e => by omega)))
          clear YA tA hXA
          go_wp2_with fail
          refine bodyPost_ret (v := nod lf (.slice x0 q0 y0) (.slice x1 q1 y1) (.slice x2 q2 y2)) (results_atN (p := 4) (ty := 26) rfl _ _ _ (w.heap.size + 2) _ rfl LA.out) rfl ?_
          exact ⟨⟨_, _, _, rfl, NA.out, fun j hj => Nat.le_trans BW3.out.size (n0.out j hj), fun j hj => Nat.le_trans BW3.out.size (n1.out j hj), fun j hj => Nat.le_trans BW3.out.size (n2.out j hj)⟩, BA.out⟩
        · rintro o K hd ho hg hK
          refine wp_build2I (.tmp 20) (.tmp 22) ho (.slice a3 L3 c3) (.slice d3 M3 f3) rfl rfl rfl rfl ?_
          rw [hd]
          obtain ⟨g2, hg2⟩ : ∃ g, X3.heap.size = g := ⟨_, rfl⟩
          obtain ⟨X4, hX4⟩ : ∃ X, X3.alloc (.cells #[.slice a3 L3 c3, .slice d3 M3 f3] 23) = X := ⟨_, rfl⟩
          have bl : Below X3.heap.size X3 X4 := by rw [← hX4]; exact below_alloc _ _
          have e2_4 : Hid (X4.cell? ⟨g2, 0, none⟩ = some (.slice a3 L3 c3) ∧ X4.cell? ⟨g2, 1, none⟩ = some (.slice d3 M3 f3)) := by rw [← hX4, ← hg2]; exact two_new _ _ _ _
          have B4 : Hid (Below W3.heap.size W3 X4) := B3.out.trans (bl.mono B3.out.size)
          have r0_4 : Hid (RdV X4 v0 (strs n.ks ++ strs m.ks)) := r0_3.out.below bl
          have e1_4 : Hid (X4.cell? ⟨g1, 0, none⟩ = some (.slice a2 L2 c2) ∧ X4.cell? ⟨g1, 1, none⟩ = some (.slice d2 M2 f2)) := cells_below e1_3.out bl
          have S4 : Hid (Nb X4 26 w.heap.size lf (.slice a1 L1 c1) (.slice a2 L2 c2) (.slice a3 L3 c3) ∧ Nb X4 26 (w.heap.size + 1) mf (.slice d1 M1 f1) (.slice d2 M2 f2) (.slice d3 M3 f3) ∧ Nb X4 26 (w.heap.size + 2) false (.slice none 0 0) (.slice none 0 0) (.slice none 0 0)) := ⟨S3.out.1.below bl, S3.out.2.1.below bl, S3.out.2.2.below bl⟩
          rw [hX4, hg2]
          refine hK _ _ (fun _ => S4.out) ?_
          clear ho hd hg hK bl hX4 hg2 S3 B3 e1_3 r0_3
          simp only [Act.put, List.setIfInBounds_toArray, List.set_cons_zero, List.set_cons_succ]
          refine readyW 13 (some 18) (.call { callee := .value (.func 42), args := #[.tmp 17], argTypes := #[84] }) rfl (by kernel_rfl) ?_
          rintro o K hd ho hg hK
          refine step_call (enters_of Try.func42 (by kernel_rfl) rfl) ho (vs := #[.slice (some ⟨g1, 0, none⟩) 2 2]) (by kernel_rfl) (HC2.out _ _ B4.out e1_4.out) ?_
          rintro e X5 ⟨⟨v1, rfl, ro, ng⟩, bl⟩
          refine ⟨_, rfl, ?_⟩
          rw [hd]
          have r1_5 : Hid (RdV X5 v1 (strs n.vs ++ strs m.vs)) := ro.rd
          have n1 : Hid (∀ q, v1.ownBlock = some q → W3.heap.size ≤ q) := fun q hq => Nat.le_trans B4.out.size (ng q hq)
          have B5 : Hid (Below W3.heap.size W3 X5) := B4.out.trans (bl.mono B4.out.size)
          have r0_5 : Hid (RdV X5 v0 (strs n.ks ++ strs m.ks)) := r0_4.out.below bl
          have e2_5 : Hid (X5.cell? ⟨g2, 0, none⟩ = some (.slice a3 L3 c3) ∧ X5.cell? ⟨g2, 1, none⟩ = some (.slice d3 M3 f3)) := cells_below e2_4.out bl
          have S5 : Hid (Nb X5 26 w.heap.size lf (.slice a1 L1 c1) (.slice a2 L2 c2) (.slice a3 L3 c3) ∧ Nb X5 26 (w.heap.size + 1) mf (.slice d1 M1 f1) (.slice d2 M2 f2) (.slice d3 M3 f3) ∧ Nb X5 26 (w.heap.size + 2) false (.slice none 0 0) (.slice none 0 0) (.slice none 0 0)) := ⟨S4.out.1.below bl, S4.out.2.1.below bl, S4.out.2.2.below bl⟩
          refine hK _ _ (fun _ => S5.out) ?_
          clear ho hd hg hK bl ro ng S4 B4 e1_4 e2_4 r0_4
          simp only [Act.put, List.setIfInBounds_toArray, List.set_cons_zero, List.set_cons_succ]
          refine readyW 19 (some 24) (.call { callee := .value (.func 43), args := #[.tmp 23], argTypes := #[86] }) rfl (by kernel_rfl) ?_
          rintro o K hd ho hg hK
          refine step_call (enters_of Try.func43 (by kernel_rfl) rfl) ho (vs := #[.slice (some ⟨g2, 0, none⟩) 2 2]) (by kernel_rfl) (HC3.out _ _ B5.out e2_5.out) ?_
          rintro e X6 ⟨⟨v2, rfl, ro, ng⟩, bl⟩
          refine ⟨_, rfl, ?_⟩
          rw [hd]
          have r2_6 : Hid (RdV X6 v2 (nums n.kd ++ nums m.kd)) := ro.rd
          have n2 : Hid (∀ q, v2.ownBlock = some q → W3.heap.size ≤ q) := fun q hq => Nat.le_trans B5.out.size (ng q hq)
          have B6 : Hid (Below W3.heap.size W3 X6) := B5.out.trans (bl.mono B5.out.size)
          have r0_6 : Hid (RdV X6 v0 (strs n.ks ++ strs m.ks)) := r0_5.out.below bl
          have r1_6 : Hid (RdV X6 v1 (strs n.vs ++ strs m.vs)) := r1_5.out.below bl
          have S6 : Hid (Nb X6 26 w.heap.size lf (.slice a1 L1 c1) (.slice a2 L2 c2) (.slice a3 L3 c3) ∧ Nb X6 26 (w.heap.size + 1) mf (.slice d1 M1 f1) (.slice d2 M2 f2) (.slice d3 M3 f3) ∧ Nb X6 26 (w.heap.size + 2) false (.slice none 0 0) (.slice none 0 0) (.slice none 0 0)) := ⟨S5.out.1.below bl, S5.out.2.1.below bl, S5.out.2.2.below bl⟩
          refine hK _ _ (fun _ => S6.out) ?_
          clear ho hd hg hK bl ro ng S5 B5 e2_5 r0_5 r1_5
          simp only [Act.put, List.setIfInBounds_toArray, List.set_cons_zero, List.set_cons_succ]
          obtain ⟨x0, y0, e0⟩ := r0_6.out.long
          obtain ⟨x1, y1, e1⟩ := r1_6.out.long
          obtain ⟨x2, y2, e2⟩ := r2_6.out.long
          obtain ⟨q0, hq0⟩ : ∃ q, Hid ((strs n.ks ++ strs m.ks).length = q) := ⟨_, rfl⟩
          obtain ⟨q1, hq1⟩ : ∃ q, Hid ((strs n.vs ++ strs m.vs).length = q) := ⟨_, rfl⟩
          obtain ⟨q2, hq2⟩ : ∃ q, Hid ((nums n.kd ++ nums m.kd).length = q) := ⟨_, rfl⟩
          rw [hq0.out] at e0
          rw [hq1.out] at e1
          rw [hq2.out] at e2
          subst e0 e1 e2
          refine readyW 20 (some 25) (.build 26 #[(0, .tmp 6), (1, .tmp 12), (2, .tmp 18), (3, .tmp 24)]) rfl (by kernel_rfl) ?_
          rintro o K hd ho hg hK
          refine stepY (v := nod lf (.slice x0 q0 y0) (.slice x1 q1 y1) (.slice x2 q2 y2)) ?hy ?_
          case hy => unfold nod; go_simp
          rw [hd]
          refine hK _ _ (fun _ => S6.out) ?_
          clear ho hd hg hK
          simp only [Act.put, List.setIfInBounds_toArray, List.set_cons_zero, List.set_cons_succ]
          refine readyW 21 none (.store 26 (.tmp 4) (.tmp 25)) rfl (by kernel_rfl) ?_
          rintro o K hd ho hg hK
          refine wp_storeN ho rfl rfl S6.out.2.2 ?_
          rw [hd]
          refine hK _ _ (fun e => absurd rfl e) ?_
          refine doneW (by kernel_rfl) ?_ _
          clear ho hd hg hK
          simp only [Act.put]
          have YA := S6.out.2.2.all lf (.slice x0 q0 y0) (.slice x1 q1 y1) (.slice x2 q2 y2)
          have tA := tch_all X6 (w.heap.size + 2) (.bool lf) (.slice x0 q0 y0) (.slice x1 q1 y1) (.slice x2 q2 y2)
          obtain ⟨XA, hXA⟩ : ∃ XA, Hid ((((X6.setCell ⟨w.heap.size + 2, 0, none⟩ (.bool lf)).setCell ⟨w.heap.size + 2, 1, none⟩ (.slice x0 q0 y0)).setCell ⟨w.heap.size + 2, 2, none⟩ (.slice x1 q1 y1)).setCell ⟨w.heap.size + 2, 3, none⟩ (.slice x2 q2 y2) = XA) := ⟨_, rfl⟩
          rw [hXA.out] at YA tA ⊢
          have LA := hideN YA.load
          have NA : Hid (Nn XA (joinN n m) (.slice x0 q0 y0) (.slice x1 q1 y1) (.slice x2 q2 y2)) := by
            refine ⟨?_, ?_, ?_⟩
            · have := r0_6.out.tch tA (fun j hj e => by have := n0.out j hj; have := s3.out; omega)
              simpa [joinN, strs] using this
            · have := r1_6.out.tch tA (fun j hj e => by have := n1.out j hj; have := s3.out; omega)
              simpa [joinN, strs] using this
            · have := r2_6.out.tch tA (fun j hj e => by have := n2.out j hj; have := s3.out; omega)
              simpa [joinN, nums] using this
          have BA : Hid (Below w.heap.size w XA) := BW3.out.trans ((B6.out.mono BW3.out.size).trans (tA.below (Nat.le_trans BW3.out.size B6.out.size) (fun j e => by omega)))
          clear YA tA hXA
          go_wp2_with fail
          refine bodyPost_ret (v := nod lf (.slice x0 q0 y0) (.slice x1 q1 y1) (.slice x2 q2 y2)) (results_atN (p := 4) (ty := 26) rfl _ _ _ (w.heap.size + 2) _ rfl LA.out) rfl ?_
          exact ⟨⟨_, _, _, rfl, NA.out, fun j hj => Nat.le_trans BW3.out.size (n0.out j hj), fun j hj => Nat.le_trans BW3.out.size (n1.out j hj), fun j hj => Nat.le_trans BW3.out.size (n2.out j hj)⟩, BA.out⟩
      · rintro o K hd ho hg hK
        refine wp_build2I (.tmp 20) (.tmp 22) ho (.slice a3 L3 c3) (.slice d3 M3 f3) rfl rfl rfl rfl ?_
        rw [hd]
        obtain ⟨g2, hg2⟩ : ∃ g, X2.heap.size = g := ⟨_, rfl⟩
        obtain ⟨X3, hX3⟩ : ∃ X, X2.alloc (.cells #[.slice a3 L3 c3, .slice d3 M3 f3] 23) = X := ⟨_, rfl⟩
        have bl : Below X2.heap.size X2 X3 := by rw [← hX3]; exact below_alloc _ _
        have e2_3 : Hid (X3.cell? ⟨g2, 0, none⟩ = some (.slice a3 L3 c3) ∧ X3.cell? ⟨g2, 1, none⟩ = some (.slice d3 M3 f3)) := by rw [← hX3, ← hg2]; exact two_new _ _ _ _
        have B3 : Hid (Below W3.heap.size W3 X3) := B2.out.trans (bl.mono B2.out.size)
        have e0_3 : Hid (X3.cell? ⟨g0, 0, none⟩ = some (.slice a1 L1 c1) ∧ X3.cell? ⟨g0, 1, none⟩ = some (.slice d1 M1 f1)) := cells_below e0_2.out bl
        have e1_3 : Hid (X3.cell? ⟨g1, 0, none⟩ = some (.slice a2 L2 c2) ∧ X3.cell? ⟨g1, 1, none⟩ = some (.slice d2 M2 f2)) := cells_below e1_2.out bl
        have S3 : Hid (Nb X3 26 w.heap.size lf (.slice a1 L1 c1) (.slice a2 L2 c2) (.slice a3 L3 c3) ∧ Nb X3 26 (w.heap.size + 1) mf (.slice d1 M1 f1) (.slice d2 M2 f2) (.slice d3 M3 f3) ∧ Nb X3 26 (w.heap.size + 2) false (.slice none 0 0) (.slice none 0 0) (.slice none 0 0)) := ⟨S2.out.1.below bl, S2.out.2.1.below bl, S2.out.2.2.below bl⟩
        rw [hX3, hg2]
        refine hK _ _ (fun _ => S3.out) ?_
        clear ho hd hg hK bl hX3 hg2 S2 B2 e0_2 e1_2
        simp only [Act.put, List.setIfInBounds_toArray, List.set_cons_zero, List.set_cons_succ]
        refine readyW 7 (some 12) (.call { callee := .value (.func 42), args := #[.tmp 11], argTypes := #[84] }) rfl (by kernel_rfl) ?_
        rintro o K hd ho hg hK
        refine step_call (enters_of Try.func42 (by kernel_rfl) rfl) ho (vs := #[.slice (some ⟨g0, 0, none⟩) 2 2]) (by kernel_rfl) (HC1.out _ _ B3.out e0_3.out) ?_
        rintro e X4 ⟨⟨v0, rfl, ro, ng⟩, bl⟩
        refine ⟨_, rfl, ?_⟩
        rw [hd]
        have r0_4 : Hid (RdV X4 v0 (strs n.ks ++ strs m.ks)) := ro.rd
        have n0 : Hid (∀ q, v0.ownBlock = some q → W3.heap.size ≤ q) := fun q hq => Nat.le_trans B3.out.size (ng q hq)
        have B4 : Hid (Below W3.heap.size W3 X4) := B3.out.trans (bl.mono B3.out.size)
        have e1_4 : Hid (X4.cell? ⟨g1, 0, none⟩ = some (.slice a2 L2 c2) ∧ X4.cell? ⟨g1, 1, none⟩ = some (.slice d2 M2 f2)) := cells_below e1_3.out bl
        have e2_4 : Hid (X4.cell? ⟨g2, 0, none⟩ = some (.slice a3 L3 c3) ∧ X4.cell? ⟨g2, 1, none⟩ = some (.slice d3 M3 f3)) := cells_below e2_3.out bl
        have S4 : Hid (Nb X4 26 w.heap.size lf (.slice a1 L1 c1) (.slice a2 L2 c2) (.slice a3 L3 c3) ∧ Nb X4 26 (w.heap.size + 1) mf (.slice d1 M1 f1) (.slice d2 M2 f2) (.slice d3 M3 f3) ∧ Nb X4 26 (w.heap.size + 2) false (.slice none 0 0) (.slice none 0 0) (.slice none 0 0)) := ⟨S3.out.1.below bl, S3.out.2.1.below bl, S3.out.2.2.below bl⟩
        refine hK _ _ (fun _ => S4.out) ?_
        clear ho hd hg hK bl ro ng S3 B3 e0_3 e1_3 e2_3
        simp only [Act.put, List.setIfInBounds_toArray, List.set_cons_zero, List.set_cons_succ]
        refine readyW 13 (some 18) (.call { callee := .value (.func 42), args := #[.tmp 17], argTypes := #[84] }) rfl (by kernel_rfl) ?_
        rintro o K hd ho hg hK
        refine step_call (enters_of Try.func42 (by kernel_rfl) rfl) ho (vs := #[.slice (some ⟨g1, 0, none⟩) 2 2]) (by kernel_rfl) (HC2.out _ _ B4.out e1_4.out) ?_
        rintro e X5 ⟨⟨v1, rfl, ro, ng⟩, bl⟩
        refine ⟨_, rfl, ?_⟩
        rw [hd]
        have r1_5 : Hid (RdV X5 v1 (strs n.vs ++ strs m.vs)) := ro.rd
        have n1 : Hid (∀ q, v1.ownBlock = some q → W3.heap.size ≤ q) := fun q hq => Nat.le_trans B4.out.size (ng q hq)
        have B5 : Hid (Below W3.heap.size W3 X5) := B4.out.trans (bl.mono B4.out.size)
        have r0_5 : Hid (RdV X5 v0 (strs n.ks ++ strs m.ks)) := r0_4.out.below bl
        have e2_5 : Hid (X5.cell? ⟨g2, 0, none⟩ = some (.slice a3 L3 c3) ∧ X5.cell? ⟨g2, 1, none⟩ = some (.slice d3 M3 f3)) := cells_below e2_4.out bl
        have S5 : Hid (Nb X5 26 w.heap.size lf (.slice a1 L1 c1) (.slice a2 L2 c2) (.slice a3 L3 c3) ∧ Nb X5 26 (w.heap.size + 1) mf (.slice d1 M1 f1) (.slice d2 M2 f2) (.slice d3 M3 f3) ∧ Nb X5 26 (w.heap.size + 2) false (.slice none 0 0) (.slice none 0 0) (.slice none 0 0)) := ⟨S4.out.1.below bl, S4.out.2.1.below bl, S4.out.2.2.below bl⟩
        refine hK _ _ (fun _ => S5.out) ?_
        clear ho hd hg hK bl ro ng S4 B4 e1_4 e2_4 r0_4
        simp only [Act.put, List.setIfInBounds_toArray, List.set_cons_zero, List.set_cons_succ]
        refine readyW 19 (some 24) (.call { callee := .value (.func 43), args := #[.tmp 23], argTypes := #[86] }) rfl (by kernel_rfl) ?_
        rintro o K hd ho hg hK
        refine step_call (enters_of Try.func43 (by kernel_rfl) rfl) ho (vs := #[.slice (some ⟨g2, 0, none⟩) 2 2]) (by kernel_rfl) (HC3.out _ _ B5.out e2_5.out) ?_
        rintro e X6 ⟨⟨v2, rfl, ro, ng⟩, bl⟩
        refine ⟨_, rfl, ?_⟩
        rw [hd]
        have r2_6 : Hid (RdV X6 v2 (nums n.kd ++ nums m.kd)) := ro.rd
        have n2 : Hid (∀ q, v2.ownBlock = some q → W3.heap.size ≤ q) := fun q hq => Nat.le_trans B5.out.size (ng q hq)
        have B6 : Hid (Below W3.heap.size W3 X6) := B5.out.trans (bl.mono B5.out.size)
        have r0_6 : Hid (RdV X6 v0 (strs n.ks ++ strs m.ks)) := r0_5.out.below bl
        have r1_6 : Hid (RdV X6 v1 (strs n.vs ++ strs m.vs)) := r1_5.out.below bl
        have S6 : Hid (Nb X6 26 w.heap.size lf (.slice a1 L1 c1) (.slice a2 L2 c2) (.slice a3 L3 c3) ∧ Nb X6 26 (w.heap.size + 1) mf (.slice d1 M1 f1) (.slice d2 M2 f2) (.slice d3 M3 f3) ∧ Nb X6 26 (w.heap.size + 2) false (.slice none 0 0) (.slice none 0 0) (.slice none 0 0)) := ⟨S5.out.1.below bl, S5.out.2.1.below bl, S5.out.2.2.below bl⟩
        refine hK _ _ (fun _ => S6.out) ?_
        clear ho hd hg hK bl ro ng S5 B5 e2_5 r0_5 r1_5
        simp only [Act.put, List.setIfInBounds_toArray, List.set_cons_zero, List.set_cons_succ]
        obtain ⟨x0, y0, e0⟩ := r0_6.out.long
        obtain ⟨x1, y1, e1⟩ := r1_6.out.long
        obtain ⟨x2, y2, e2⟩ := r2_6.out.long
        obtain ⟨q0, hq0⟩ : ∃ q, Hid ((strs n.ks ++ strs m.ks).length = q) := ⟨_, rfl⟩
        obtain ⟨q1, hq1⟩ : ∃ q, Hid ((strs n.vs ++ strs m.vs).length = q) := ⟨_, rfl⟩
        obtain ⟨q2, hq2⟩ : ∃ q, Hid ((nums n.kd ++ nums m.kd).length = q) := ⟨_, rfl⟩
        rw [hq0.out] at e0
        rw [hq1.out] at e1
        rw [hq2.out] at e2
        subst e0 e1 e2
        refine readyW 20 (some 25) (.build 26 #[(0, .tmp 6), (1, .tmp 12), (2, .tmp 18), (3, .tmp 24)]) rfl (by kernel_rfl) ?_
        rintro o K hd ho hg hK
        refine stepY (v := nod lf (.slice x0 q0 y0) (.slice x1 q1 y1) (.slice x2 q2 y2)) ?hy ?_
        case hy => unfold nod; go_simp
        rw [hd]
        refine hK _ _ (fun _ => S6.out) ?_
        clear ho hd hg hK
        simp only [Act.put, List.setIfInBounds_toArray, List.set_cons_zero, List.set_cons_succ]
        refine readyW 21 none (.store 26 (.tmp 4) (.tmp 25)) rfl (by kernel_rfl) ?_
        rintro o K hd ho hg hK
        refine wp_storeN ho rfl rfl S6.out.2.2 ?_
        rw [hd]
        refine hK _ _ (fun e => absurd rfl e) ?_
        refine doneW (by kernel_rfl) ?_ _
        clear ho hd hg hK
        simp only [Act.put]
        have YA := S6.out.2.2.all lf (.slice x0 q0 y0) (.slice x1 q1 y1) (.slice x2 q2 y2)
        have tA := tch_all X6 (w.heap.size + 2) (.bool lf) (.slice x0 q0 y0) (.slice x1 q1 y1) (.slice x2 q2 y2)
        obtain ⟨XA, hXA⟩ : ∃ XA, Hid ((((X6.setCell ⟨w.heap.size + 2, 0, none⟩ (.bool lf)).setCell ⟨w.heap.size + 2, 1, none⟩ (.slice x0 q0 y0)).setCell ⟨w.heap.size + 2, 2, none⟩ (.slice x1 q1 y1)).setCell ⟨w.heap.size + 2, 3, none⟩ (.slice x2 q2 y2) = XA) := ⟨_, rfl⟩
        rw [hXA.out] at YA tA ⊢
        have LA := hideN YA.load
        have NA : Hid (Nn XA (joinN n m) (.slice x0 q0 y0) (.slice x1 q1 y1) (.slice x2 q2 y2)) := by
          refine ⟨?_, ?_, ?_⟩
          · have := r0_6.out.tch tA (fun j hj e => by have := n0.out j hj; have := s3.out; omega)
            simpa [joinN, strs] using this
          · have := r1_6.out.tch tA (fun j hj e => by have := n1.out j hj; have := s3.out; omega)
            simpa [joinN, strs] using this
          · have := r2_6.out.tch tA (fun j hj e => by have := n2.out j hj; have := s3.out; omega)
            simpa [joinN, nums] using this
        have BA : Hid (Below w.heap.size w XA) := BW3.out.trans ((B6.out.mono BW3.out.size).trans (tA.below (Nat.le_trans BW3.out.size B6.out.size) (fun j e => by omega)))
        clear YA tA hXA
        go_wp2_with fail
        refine bodyPost_ret (v := nod lf (.slice x0 q0 y0) (.slice x1 q1 y1) (.slice x2 q2 y2)) (results_atN (p := 4) (ty := 26) rfl _ _ _ (w.heap.size + 2) _ rfl LA.out) rfl ?_
        exact ⟨⟨_, _, _, rfl, NA.out, fun j hj => Nat.le_trans BW3.out.size (n0.out j hj), fun j hj => Nat.le_trans BW3.out.size (n1.out j hj), fun j hj => Nat.le_trans BW3.out.size (n2.out j hj)⟩, BA.out⟩
    · rintro o K hd ho hg hK
      refine wp_build2I (.tmp 20) (.tmp 22) ho (.slice a3 L3 c3) (.slice d3 M3 f3) rfl rfl rfl rfl ?_
      rw [hd]
      obtain ⟨g2, hg2⟩ : ∃ g, X1.heap.size = g := ⟨_, rfl⟩
      obtain ⟨X2, hX2⟩ : ∃ X, X1.alloc (.cells #[.slice a3 L3 c3, .slice d3 M3 f3] 23) = X := ⟨_, rfl⟩
      have bl : Below X1.heap.size X1 X2 := by rw [← hX2]; exact below_alloc _ _
      have e2_2 : Hid (X2.cell? ⟨g2, 0, none⟩ = some (.slice a3 L3 c3) ∧ X2.cell? ⟨g2, 1, none⟩ = some (.slice d3 M3 f3)) := by rw [← hX2, ← hg2]; exact two_new _ _ _ _
      have B2 : Hid (Below W3.heap.size W3 X2) := B1.out.trans (bl.mono B1.out.size)
      have e0_2 : Hid (X2.cell? ⟨g0, 0, none⟩ = some (.slice a1 L1 c1) ∧ X2.cell? ⟨g0, 1, none⟩ = some (.slice d1 M1 f1)) := cells_below e0_1.out bl
      have S2 : Hid (Nb X2 26 w.heap.size lf (.slice a1 L1 c1) (.slice a2 L2 c2) (.slice a3 L3 c3) ∧ Nb X2 26 (w.heap.size + 1) mf (.slice d1 M1 f1) (.slice d2 M2 f2) (.slice d3 M3 f3) ∧ Nb X2 26 (w.heap.size + 2) false (.slice none 0 0) (.slice none 0 0) (.slice none 0 0)) := ⟨S1.out.1.below bl, S1.out.2.1.below bl, S1.out.2.2.below bl⟩
      rw [hX2, hg2]
      refine hK _ _ (fun _ => S2.out) ?_
      clear ho hd hg hK bl hX2 hg2 S1 B1 e0_1
      simp only [Act.put, List.setIfInBounds_toArray, List.set_cons_zero, List.set_cons_succ]
      refine readyW2 7 12 (some 12) (.call { callee := .value (.func 42), args := #[.tmp 11], argTypes := #[84] }) (some 17) (.buildSlice 84 2 #[(0, .tmp 14), (1, .tmp 16)]) rfl rfl (by kernel_rfl) ?_ ?_
      · rintro o K hd ho hg hK
        refine step_call (enters_of Try.func42 (by kernel_rfl) rfl) ho (vs := #[.slice (some ⟨g0, 0, none⟩) 2 2]) (by kernel_rfl) (HC1.out _ _ B2.out e0_2.out) ?_
        rintro e X3 ⟨⟨v0, rfl, ro, ng⟩, bl⟩
        refine ⟨_, rfl, ?_⟩
        rw [hd]
        have r0_3 : Hid (RdV X3 v0 (strs n.ks ++ strs m.ks)) := ro.rd
        have n0 : Hid (∀ q, v0.ownBlock = some q → W3.heap.size ≤ q) := fun q hq => Nat.le_trans B2.out.size (ng q hq)
        have B3 : Hid (Below W3.heap.size W3 X3) := B2.out.trans (bl.mono B2.out.size)
        have e2_3 : Hid (X3.cell? ⟨g2, 0, none⟩ = some (.slice a3 L3 c3) ∧ X3.cell? ⟨g2, 1, none⟩ = some (.slice d3 M3 f3)) := cells_below e2_2.out bl
        have S3 : Hid (Nb X3 26 w.heap.size lf (.slice a1 L1 c1) (.slice a2 L2 c2) (.slice a3 L3 c3) ∧ Nb X3 26 (w.heap.size + 1) mf (.slice d1 M1 f1) (.slice d2 M2 f2) (.slice d3 M3 f3) ∧ Nb X3 26 (w.heap.size + 2) false (.slice none 0 0) (.slice none 0 0) (.slice none 0 0)) := ⟨S2.out.1.below bl, S2.out.2.1.below bl, S2.out.2.2.below bl⟩
        refine hK _ _ (fun _ => S3.out) ?_
        clear ho hd hg hK bl ro ng S2 B2 e0_2 e2_2
        simp only [Act.put, List.setIfInBounds_toArray, List.set_cons_zero, List.set_cons_succ]
        refine readyW 12 (some 17) (.buildSlice 84 2 #[(0, .tmp 14), (1, .tmp 16)]) rfl (by kernel_rfl) ?_
        rintro o K hd ho hg hK
        refine wp_build2S (.tmp 14) (.tmp 16) ho (.slice a2 L2 c2) (.slice d2 M2 f2) rfl rfl rfl rfl ?_
        rw [hd]
        obtain ⟨g1, hg1⟩ : ∃ g, X3.heap.size = g := ⟨_, rfl⟩
        obtain ⟨X4, hX4⟩ : ∃ X, X3.alloc (.cells #[.slice a2 L2 c2, .slice d2 M2 f2] 22) = X := ⟨_, rfl⟩
        have bl : Below X3.heap.size X3 X4 := by rw [← hX4]; exact below_alloc _ _
        have e1_4 : Hid (X4.cell? ⟨g1, 0, none⟩ = some (.slice a2 L2 c2) ∧ X4.cell? ⟨g1, 1, none⟩ = some (.slice d2 M2 f2)) := by rw [← hX4, ← hg1]; exact two_new _ _ _ _
        have B4 : Hid (Below W3.heap.size W3 X4) := B3.out.trans (bl.mono B3.out.size)
        have r0_4 : Hid (RdV X4 v0 (strs n.ks ++ strs m.ks)) := r0_3.out.below bl
        have e2_4 : Hid (X4.cell? ⟨g2, 0, none⟩ = some (.slice a3 L3 c3) ∧ X4.cell? ⟨g2, 1, none⟩ = some (.slice d3 M3 f3)) := cells_below e2_3.out bl
        have S4 : Hid (Nb X4 26 w.heap.size lf (.slice a1 L1 c1) (.slice a2 L2 c2) (.slice a3 L3 c3) ∧ Nb X4 26 (w.heap.size + 1) mf (.slice d1 M1 f1) (.slice d2 M2 f2) (.slice d3 M3 f3) ∧ Nb X4 26 (w.heap.size + 2) false (.slice none 0 0) (.slice none 0 0) (.slice none 0 0)) := ⟨S3.out.1.below bl, S3.out.2.1.below bl, S3.out.2.2.below bl⟩
        rw [hX4, hg1]
        refine hK _ _ (fun _ => S4.out) ?_
        clear ho hd hg hK bl hX4 hg1 S3 B3 e2_3 r0_3
        simp only [Act.put, List.setIfInBounds_toArray, List.set_cons_zero, List.set_cons_succ]
        refine readyW 13 (some 18) (.call { callee := .value (.func 42), args := #[.tmp 17], argTypes := #[84] }) rfl (by kernel_rfl) ?_
        rintro o K hd ho hg hK
        refine step_call (enters_of Try.func42 (by kernel_rfl) rfl) ho (vs := #[.slice (some ⟨g1, 0, none⟩) 2 2]) (by kernel_rfl) (HC2.out _ _ B4.out e1_4.out) ?_
        rintro e X5 ⟨⟨v1, rfl, ro, ng⟩, bl⟩
        refine ⟨_, rfl, ?_⟩
        rw [hd]
        have r1_5 : Hid (RdV X5 v1 (strs n.vs ++ strs m.vs)) := ro.rd
        have n1 : Hid (∀ q, v1.ownBlock = some q → W3.heap.size ≤ q) := fun q hq => Nat.le_trans B4.out.size (ng q hq)
        have B5 : Hid (Below W3.heap.size W3 X5) := B4.out.trans (bl.mono B4.out.size)
        have r0_5 : Hid (RdV X5 v0 (strs n.ks ++ strs m.ks)) := r0_4.out.below bl
        have e2_5 : Hid (X5.cell? ⟨g2, 0, none⟩ = some (.slice a3 L3 c3) ∧ X5.cell? ⟨g2, 1, none⟩ = some (.slice d3 M3 f3)) := cells_below e2_4.out bl
        have S5 : Hid (Nb X5 26 w.heap.size lf (.slice a1 L1 c1) (.slice a2 L2 c2) (.slice a3 L3 c3) ∧ Nb X5 26 (w.heap.size + 1) mf (.slice d1 M1 f1) (.slice d2 M2 f2) (.slice d3 M3 f3) ∧ Nb X5 26 (w.heap.size + 2) false (.slice none 0 0) (.slice none 0 0) (.slice none 0 0)) := ⟨S4.out.1.below bl, S4.out.2.1.below bl, S4.out.2.2.below bl⟩
        refine hK _ _ (fun _ => S5.out) ?_
        clear ho hd hg hK bl ro ng S4 B4 e1_4 e2_4 r0_4
        simp only [Act.put, List.setIfInBounds_toArray, List.set_cons_zero, List.set_cons_succ]
        refine readyW 19 (some 24) (.call { callee := .value (.func 43), args := #[.tmp 23], argTypes := #[86] }) rfl (by kernel_rfl) ?_
        rintro o K hd ho hg hK
        refine step_call (enters_of Try.func43 (by kernel_rfl) rfl) ho (vs := #[.slice (some ⟨g2, 0, none⟩) 2 2]) (by kernel_rfl) (HC3.out _ _ B5.out e2_5.out) ?_
        rintro e X6 ⟨⟨v2, rfl, ro, ng⟩, bl⟩
        refine ⟨_, rfl, ?_⟩
        rw [hd]
        have r2_6 : Hid (RdV X6 v2 (nums n.kd ++ nums m.kd)) := ro.rd
        have n2 : Hid (∀ q, v2.ownBlock = some q → W3.heap.size ≤ q) := fun q hq => Nat.le_trans B5.out.size (ng q hq)
        have B6 : Hid (Below W3.heap.size W3 X6) := B5.out.trans (bl.mono B5.out.size)
        have r0_6 : Hid (RdV X6 v0 (strs n.ks ++ strs m.ks)) := r0_5.out.below bl
        have r1_6 : Hid (RdV X6 v1 (strs n.vs ++ strs m.vs)) := r1_5.out.below bl
        have S6 : Hid (Nb X6 26 w.heap.size lf (.slice a1 L1 c1) (.slice a2 L2 c2) (.slice a3 L3 c3) ∧ Nb X6 26 (w.heap.size + 1) mf (.slice d1 M1 f1) (.slice d2 M2 f2) (.slice d3 M3 f3) ∧ Nb X6 26 (w.heap.size + 2) false (.slice none 0 0) (.slice none 0 0) (.slice none 0 0)) := ⟨S5.out.1.below bl, S5.out.2.1.below bl, S5.out.2.2.below bl⟩
        refine hK _ _ (fun _ => S6.out) ?_
        clear ho hd hg hK bl ro ng S5 B5 e2_5 r0_5 r1_5
        simp only [Act.put, List.setIfInBounds_toArray, List.set_cons_zero, List.set_cons_succ]
        obtain ⟨x0, y0, e0⟩ := r0_6.out.long
        obtain ⟨x1, y1, e1⟩ := r1_6.out.long
        obtain ⟨x2, y2, e2⟩ := r2_6.out.long
        obtain ⟨q0, hq0⟩ : ∃ q, Hid ((strs n.ks ++ strs m.ks).length = q) := ⟨_, rfl⟩
        obtain ⟨q1, hq1⟩ : ∃ q, Hid ((strs n.vs ++ strs m.vs).length = q) := ⟨_, rfl⟩
        obtain ⟨q2, hq2⟩ : ∃ q, Hid ((nums n.kd ++ nums m.kd).length = q) := ⟨_, rfl⟩
        rw [hq0.out] at e0
        rw [hq1.out] at e1
        rw [hq2.out] at e2
        subst e0 e1 e2
        refine readyW 20 (some 25) (.build 26 #[(0, .tmp 6), (1, .tmp 12), (2, .tmp 18), (3, .tmp 24)]) rfl (by kernel_rfl) ?_
        rintro o K hd ho hg hK
        refine stepY (v := nod lf (.slice x0 q0 y0) (.slice x1 q1 y1) (.slice x2 q2 y2)) ?hy ?_
        case hy => unfold nod; go_simp
        rw [hd]
        refine hK _ _ (fun _ => S6.out) ?_
        clear ho hd hg hK
        simp only [Act.put, List.setIfInBounds_toArray, List.set_cons_zero, List.set_cons_succ]
        refine readyW 21 none (.store 26 (.tmp 4) (.tmp 25)) rfl (by kernel_rfl) ?_
        rintro o K hd ho hg hK
        refine wp_storeN ho rfl rfl S6.out.2.2 ?_
        rw [hd]
        refine hK _ _ (fun e => absurd rfl e) ?_
        refine doneW (by kernel_rfl) ?_ _
        clear ho hd hg hK
        simp only [Act.put]
        have YA := S6.out.2.2.all lf (.slice x0 q0 y0) (.slice x1 q1 y1) (.slice x2 q2 y2)
        have tA := tch_all X6 (w.heap.size + 2) (.bool lf) (.slice x0 q0 y0) (.slice x1 q1 y1) (.slice x2 q2 y2)
        obtain ⟨XA, hXA⟩ : ∃ XA, Hid ((((X6.setCell ⟨w.heap.size + 2, 0, none⟩ (.bool lf)).setCell ⟨w.heap.size + 2, 1, none⟩ (.slice x0 q0 y0)).setCell ⟨w.heap.size + 2, 2, none⟩ (.slice x1 q1 y1)).setCell ⟨w.heap.size + 2, 3, none⟩ (.slice x2 q2 y2) = XA) := ⟨_, rfl⟩
        rw [hXA.out] at YA tA ⊢
        have LA := hideN YA.load
        have NA : Hid (Nn XA (joinN n m) (.slice x0 q0 y0) (.slice x1 q1 y1) (.slice x2 q2 y2)) := by
          refine ⟨?_, ?_, ?_⟩
          · have := r0_6.out.tch tA (fun j hj e => by have := n0.out j hj; have := s3.out; omega)
            simpa [joinN, strs] using this
          · have := r1_6.out.tch tA (fun j hj e => by have := n1.out j hj; have := s3.out; omega)
            simpa [joinN, strs] using this
          · have := r2_6.out.tch tA (fun j hj e => by have := n2.out j hj; have := s3.out; omega)
            simpa [joinN, nums] using this
        have BA : Hid (Below w.heap.size w XA) := BW3.out.trans ((B6.out.mono BW3.out.size).trans (tA.below (Nat.le_trans BW3.out.size B6.out.size) (fun j e => by omega)))
        clear YA tA hXA
        go_wp2_with fail
        refine bodyPost_ret (v := nod lf (.slice x0 q0 y0) (.slice x1 q1 y1) (.slice x2 q2 y2)) (results_atN (p := 4) (ty := 26) rfl _ _ _ (w.heap.size + 2) _ rfl LA.out) rfl ?_
        exact ⟨⟨_, _, _, rfl, NA.out, fun j hj => Nat.le_trans BW3.out.size (n0.out j hj), fun j hj => Nat.le_trans BW3.out.size (n1.out j hj), fun j hj => Nat.le_trans BW3.out.size (n2.out j hj)⟩, BA.out⟩
      · rintro o K hd ho hg hK
        refine wp_build2S (.tmp 14) (.tmp 16) ho (.slice a2 L2 c2) (.slice d2 M2 f2) rfl rfl rfl rfl ?_
        rw [hd]
        obtain ⟨g1, hg1⟩ : ∃ g, X2.heap.size = g := ⟨_, rfl⟩
        obtain ⟨X3, hX3⟩ : ∃ X, X2.alloc (.cells #[.slice a2 L2 c2, .slice d2 M2 f2] 22) = X := ⟨_, rfl⟩
        have bl : Below X2.heap.size X2 X3 := by rw [← hX3]; exact below_alloc _ _
        have e1_3 : Hid (X3.cell? ⟨g1, 0, none⟩ = some (.slice a2 L2 c2) ∧ X3.cell? ⟨g1, 1, none⟩ = some (.slice d2 M2 f2)) := by rw [← hX3, ← hg1]; exact two_new _ _ _ _
        have B3 : Hid (Below W3.heap.size W3 X3) := B2.out.trans (bl.mono B2.out.size)
        have e0_3 : Hid (X3.cell? ⟨g0, 0, none⟩ = some (.slice a1 L1 c1) ∧ X3.cell? ⟨g0, 1, none⟩ = some (.slice d1 M1 f1)) := cells_below e0_2.out bl
        have e2_3 : Hid (X3.cell? ⟨g2, 0, none⟩ = some (.slice a3 L3 c3) ∧ X3.cell? ⟨g2, 1, none⟩ = some (.slice d3 M3 f3)) := cells_below e2_2.out bl
        have S3 : Hid (Nb X3 26 w.heap.size lf (.slice a1 L1 c1) (.slice a2 L2 c2) (.slice a3 L3 c3) ∧ Nb X3 26 (w.heap.size + 1) mf (.slice d1 M1 f1) (.slice d2 M2 f2) (.slice d3 M3 f3) ∧ Nb X3 26 (w.heap.size + 2) false (.slice none 0 0) (.slice none 0 0) (.slice none 0 0)) := ⟨S2.out.1.below bl, S2.out.2.1.below bl, S2.out.2.2.below bl⟩
        rw [hX3, hg1]
        refine hK _ _ (fun _ => S3.out) ?_
        clear ho hd hg hK bl hX3 hg1 S2 B2 e0_2 e2_2
        simp only [Act.put, List.setIfInBounds_toArray, List.set_cons_zero, List.set_cons_succ]
        refine readyW 7 (some 12) (.call { callee := .value (.func 42), args := #[.tmp 11], argTypes := #[84] }) rfl (by kernel_rfl) ?_
        rintro o K hd ho hg hK
        refine step_call (enters_of Try.func42 (by kernel_rfl) rfl) ho (vs := #[.slice (some ⟨g0, 0, none⟩) 2 2]) (by kernel_rfl) (HC1.out _ _ B3.out e0_3.out) ?_
        rintro e X4 ⟨⟨v0, rfl, ro, ng⟩, bl⟩
        refine ⟨_, rfl, ?_⟩
        rw [hd]
        have r0_4 : Hid (RdV X4 v0 (strs n.ks ++ strs m.ks)) := ro.rd
        have n0 : Hid (∀ q, v0.ownBlock = some q → W3.heap.size ≤ q) := fun q hq => Nat.le_trans B3.out.size (ng q hq)
        have B4 : Hid (Below W3.heap.size W3 X4) := B3.out.trans (bl.mono B3.out.size)
        have e1_4 : Hid (X4.cell? ⟨g1, 0, none⟩ = some (.slice a2 L2 c2) ∧ X4.cell? ⟨g1, 1, none⟩ = some (.slice d2 M2 f2)) := cells_below e1_3.out bl
        have e2_4 : Hid (X4.cell? ⟨g2, 0, none⟩ = some (.slice a3 L3 c3) ∧ X4.cell? ⟨g2, 1, none⟩ = some (.slice d3 M3 f3)) := cells_below e2_3.out bl
        have S4 : Hid (Nb X4 26 w.heap.size lf (.slice a1 L1 c1) (.slice a2 L2 c2) (.slice a3 L3 c3) ∧ Nb X4 26 (w.heap.size + 1) mf (.slice d1 M1 f1) (.slice d2 M2 f2) (.slice d3 M3 f3) ∧ Nb X4 26 (w.heap.size + 2) false (.slice none 0 0) (.slice none 0 0) (.slice none 0 0)) := ⟨S3.out.1.below bl, S3.out.2.1.below bl, S3.out.2.2.below bl⟩
        refine hK _ _ (fun _ => S4.out) ?_
        clear ho hd hg hK bl ro ng S3 B3 e0_3 e1_3 e2_3
        simp only [Act.put, List.setIfInBounds_toArray, List.set_cons_zero, List.set_cons_succ]
        refine readyW 13 (some 18) (.call { callee := .value (.func 42), args := #[.tmp 17], argTypes := #[84] }) rfl (by kernel_rfl) ?_
        rintro o K hd ho hg hK
        refine step_call (enters_of Try.func42 (by kernel_rfl) rfl) ho (vs := #[.slice (some ⟨g1, 0, none⟩) 2 2]) (by kernel_rfl) (HC2.out _ _ B4.out e1_4.out) ?_
        rintro e X5 ⟨⟨v1, rfl, ro, ng⟩, bl⟩
        refine ⟨_, rfl, ?_⟩
        rw [hd]
        have r1_5 : Hid (RdV X5 v1 (strs n.vs ++ strs m.vs)) := ro.rd
        have n1 : Hid (∀ q, v1.ownBlock = some q → W3.heap.size ≤ q) := fun q hq => Nat.le_trans B4.out.size (ng q hq)
        have B5 : Hid (Below W3.heap.size W3 X5) := B4.out.trans (bl.mono B4.out.size)
        have r0_5 : Hid (RdV X5 v0 (strs n.ks ++ strs m.ks)) := r0_4.out.below bl
        have e2_5 : Hid (X5.cell? ⟨g2, 0, none⟩ = some (.slice a3 L3 c3) ∧ X5.cell? ⟨g2, 1, none⟩ = some (.slice d3 M3 f3)) := cells_below e2_4.out bl
        have S5 : Hid (Nb X5 26 w.heap.size lf (.slice a1 L1 c1) (.slice a2 L2 c2) (.slice a3 L3 c3) ∧ Nb X5 26 (w.heap.size + 1) mf (.slice d1 M1 f1) (.slice d2 M2 f2) (.slice d3 M3 f3) ∧ Nb X5 26 (w.heap.size + 2) false (.slice none 0 0) (.slice none 0 0) (.slice none 0 0)) := ⟨S4.out.1.below bl, S4.out.2.1.below bl, S4.out.2.2.below bl⟩
        refine hK _ _ (fun _ => S5.out) ?_
        clear ho hd hg hK bl ro ng S4 B4 e1_4 e2_4 r0_4
        simp only [Act.put, List.setIfInBounds_toArray, List.set_cons_zero, List.set_cons_succ]
        refine readyW 19 (some 24) (.call { callee := .value (.func 43), args := #[.tmp 23], argTypes := #[86] }) rfl (by kernel_rfl) ?_
        rintro o K hd ho hg hK
        refine step_call (enters_of Try.func43 (by kernel_rfl) rfl) ho (vs := #[.slice (some ⟨g2, 0, none⟩) 2 2]) (by kernel_rfl) (HC3.out _ _ B5.out e2_5.out) ?_
        rintro e X6 ⟨⟨v2, rfl, ro, ng⟩, bl⟩
        refine ⟨_, rfl, ?_⟩
        rw [hd]
        have r2_6 : Hid (RdV X6 v2 (nums n.kd ++ nums m.kd)) := ro.rd
        have n2 : Hid (∀ q, v2.ownBlock = some q → W3.heap.size ≤ q) := fun q hq => Nat.le_trans B5.out.size (ng q hq)
        have B6 : Hid (Below W3.heap.size W3 X6) := B5.out.trans (bl.mono B5.out.size)
        have r0_6 : Hid (RdV X6 v0 (strs n.ks ++ strs m.ks)) := r0_5.out.below bl
        have r1_6 : Hid (RdV X6 v1 (strs n.vs ++ strs m.vs)) := r1_5.out.below bl
        have S6 : Hid (Nb X6 26 w.heap.size lf (.slice a1 L1 c1) (.slice a2 L2 c2) (.slice a3 L3 c3) ∧ Nb X6 26 (w.heap.size + 1) mf (.slice d1 M1 f1) (.slice d2 M2 f2) (.slice d3 M3 f3) ∧ Nb X6 26 (w.heap.size + 2) false (.slice none 0 0) (.slice none 0 0) (.slice none 0 0)) := ⟨S5.out.1.below bl, S5.out.2.1.below bl, S5.out.2.2.below bl⟩
        refine hK _ _ (fun _ => S6.out) ?_
        clear ho hd hg hK bl ro ng S5 B5 e2_5 r0_5 r1_5
        simp only [Act.put, List.setIfInBounds_toArray, List.set_cons_zero, List.set_cons_succ]
        obtain ⟨x0, y0, e0⟩ := r0_6.out.long
        obtain ⟨x1, y1, e1⟩ := r1_6.out.long
        obtain ⟨x2, y2, e2⟩ := r2_6.out.long
        obtain ⟨q0, hq0⟩ : ∃ q, Hid ((strs n.ks ++ strs m.ks).length = q) := ⟨_, rfl⟩
        obtain ⟨q1, hq1⟩ : ∃ q, Hid ((strs n.vs ++ strs m.vs).length = q) := ⟨_, rfl⟩
        obtain ⟨q2, hq2⟩ : ∃ q, Hid ((nums n.kd ++ nums m.kd).length = q) := ⟨_, rfl⟩
        rw [hq0.out] at e0
        rw [hq1.out] at e1
        rw [hq2.out] at e2
        subst e0 e1 e2
        refine readyW 20 (some 25) (.build 26 #[(0, .tmp 6), (1, .tmp 12), (2, .tmp 18), (3, .tmp 24)]) rfl (by kernel_rfl) ?_
        rintro o K hd ho hg hK
        refine stepY (v := nod lf (.slice x0 q0 y0) (.slice x1 q1 y1) (.slice x2 q2 y2)) ?hy ?_
        case hy => unfold nod; go_simp
        rw [hd]
        refine hK _ _ (fun _ => S6.out) ?_
        clear ho hd hg hK
        simp only [Act.put, List.setIfInBounds_toArray, List.set_cons_zero, List.set_cons_succ]
        refine readyW 21 none (.store 26 (.tmp 4) (.tmp 25)) rfl (by kernel_rfl) ?_
        rintro o K hd ho hg hK
        refine wp_storeN ho rfl rfl S6.out.2.2 ?_
        rw [hd]
        refine hK _ _ (fun e => absurd rfl e) ?_
        refine doneW (by kernel_rfl) ?_ _
        clear ho hd hg hK
        simp only [Act.put]
        have YA := S6.out.2.2.all lf (.slice x0 q0 y0) (.slice x1 q1 y1) (.slice x2 q2 y2)
        have tA := tch_all X6 (w.heap.size + 2) (.bool lf) (.slice x0 q0 y0) (.slice x1 q1 y1) (.slice x2 q2 y2)
        obtain ⟨XA, hXA⟩ : ∃ XA, Hid ((((X6.setCell ⟨w.heap.size + 2, 0, none⟩ (.bool lf)).setCell ⟨w.heap.size + 2, 1, none⟩ (.slice x0 q0 y0)).setCell ⟨w.heap.size + 2, 2, none⟩ (.slice x1 q1 y1)).setCell ⟨w.heap.size + 2, 3, none⟩ (.slice x2 q2 y2) = XA) := ⟨_, rfl⟩
        rw [hXA.out] at YA tA ⊢
        have LA := hideN YA.load
        have NA : Hid (Nn XA (joinN n m) (.slice x0 q0 y0) (.slice x1 q1 y1) (.slice x2 q2 y2)) := by
          refine ⟨?_, ?_, ?_⟩
          · have := r0_6.out.tch tA (fun j hj e => by have := n0.out j hj; have := s3.out; omega)
            simpa [joinN, strs] using this
          · have := r1_6.out.tch tA (fun j hj e => by have := n1.out j hj; have := s3.out; omega)
            simpa [joinN, strs] using this
          · have := r2_6.out.tch tA (fun j hj e => by have := n2.out j hj; have := s3.out; omega)
            simpa [joinN, nums] using this
        have BA : Hid (Below w.heap.size w XA) := BW3.out.trans ((B6.out.mono BW3.out.size).trans (tA.below (Nat.le_trans BW3.out.size B6.out.size) (fun j e => by omega)))
        clear YA tA hXA
        go_wp2_with fail
        refine bodyPost_ret (v := nod lf (.slice x0 q0 y0) (.slice x1 q1 y1) (.slice x2 q2 y2)) (results_atN (p := 4) (ty := 26) rfl _ _ _ (w.heap.size + 2) _ rfl LA.out) rfl ?_
        exact ⟨⟨_, _, _, rfl, NA.out, fun j hj => Nat.le_trans BW3.out.size (n0.out j hj), fun j hj => Nat.le_trans BW3.out.size (n1.out j hj), fun j hj => Nat.le_trans BW3.out.size (n2.out j hj)⟩, BA.out⟩
  · rintro o K hd ho hg hK
    refine wp_build2S (.tmp 14) (.tmp 16) ho (.slice a2 L2 c2) (.slice d2 M2 f2) rfl rfl rfl rfl ?_
    rw [hd]
    obtain ⟨g1, hg1⟩ : ∃ g, X0.heap.size = g := ⟨_, rfl⟩
    obtain ⟨X1, hX1⟩ : ∃ X, X0.alloc (.cells #[.slice a2 L2 c2, .slice d2 M2 f2] 22) = X := ⟨_, rfl⟩
    have bl : Below X0.heap.size X0 X1 := by rw [← hX1]; exact below_alloc _ _
    have e1_1 : Hid (X1.cell? ⟨g1, 0, none⟩ = some (.slice a2 L2 c2) ∧ X1.cell? ⟨g1, 1, none⟩ = some (.slice d2 M2 f2)) := by rw [← hX1, ← hg1]; exact two_new _ _ _ _
    have B1 : Hid (Below W3.heap.size W3 X1) := B0.out.trans (bl.mono B0.out.size)
    have S1 : Hid (Nb X1 26 w.heap.size lf (.slice a1 L1 c1) (.slice a2 L2 c2) (.slice a3 L3 c3) ∧ Nb X1 26 (w.heap.size + 1) mf (.slice d1 M1 f1) (.slice d2 M2 f2) (.slice d3 M3 f3) ∧ Nb X1 26 (w.heap.size + 2) false (.slice none 0 0) (.slice none 0 0) (.slice none 0 0)) := ⟨S0.out.1.below bl, S0.out.2.1.below bl, S0.out.2.2.below bl⟩
    rw [hX1, hg1]
    refine hK _ _ (fun _ => S1.out) ?_
    clear ho hd hg hK bl hX1 hg1 S0 B0
    simp only [Act.put, List.setIfInBounds_toArray, List.set_cons_zero, List.set_cons_succ]
    refine readyW2 6 18 (some 11) (.buildSlice 84 2 #[(0, .tmp 8), (1, .tmp 10)]) (some 23) (.buildSlice 86 2 #[(0, .tmp 20), (1, .tmp 22)]) rfl rfl (by kernel_rfl) ?_ ?_
    · rintro o K hd ho hg hK
      refine wp_build2S (.tmp 8) (.tmp 10) ho (.slice a1 L1 c1) (.slice d1 M1 f1) rfl rfl rfl rfl ?_
      rw [hd]
      obtain ⟨g0, hg0⟩ : ∃ g, X1.heap.size = g := ⟨_, rfl⟩
      obtain ⟨X2, hX2⟩ : ∃ X, X1.alloc (.cells #[.slice a1 L1 c1, .slice d1 M1 f1] 22) = X := ⟨_, rfl⟩
      have bl : Below X1.heap.size X1 X2 := by rw [← hX2]; exact below_alloc _ _
      have e0_2 : Hid (X2.cell? ⟨g0, 0, none⟩ = some (.slice a1 L1 c1) ∧ X2.cell? ⟨g0, 1, none⟩ = some (.slice d1 M1 f1)) := by rw [← hX2, ← hg0]; exact two_new _ _ _ _
      have B2 : Hid (Below W3.heap.size W3 X2) := B1.out.trans (bl.mono B1.out.size)
      have e1_2 : Hid (X2.cell? ⟨g1, 0, none⟩ = some (.slice a2 L2 c2) ∧ X2.cell? ⟨g1, 1, none⟩ = some (.slice d2 M2 f2)) := cells_below e1_1.out bl
      have S2 : Hid (Nb X2 26 w.heap.size lf (.slice a1 L1 c1) (.slice a2 L2 c2) (.slice a3 L3 c3) ∧ Nb X2 26 (w.heap.size + 1) mf (.slice d1 M1 f1) (.slice d2 M2 f2) (.slice d3 M3 f3) ∧ Nb X2 26 (w.heap.size + 2) false (.slice none 0 0) (.slice none 0 0) (.slice none 0 0)) := ⟨S1.out.1.below bl, S1.out.2.1.below bl, S1.out.2.2.below bl⟩
      rw [hX2, hg0]
      refine hK _ _ (fun _ => S2.out) ?_
      clear ho hd hg hK bl hX2 hg0 S1 B1 e1_1
      simp only [Act.put, List.setIfInBounds_toArray, List.set_cons_zero, List.set_cons_succ]
      refine readyW2 7 18 (some 12) (.call { callee := .value (.func 42), args := #[.tmp 11], argTypes := #[84] }) (some 23) (.buildSlice 86 2 #[(0, .tmp 20), (1, .tmp 22)]) rfl rfl (by kernel_rfl) ?_ ?_
      · rintro o K hd ho hg hK
        refine step_call (enters_of Try.func42 (by kernel_rfl) rfl) ho (vs := #[.slice (some ⟨g0, 0, none⟩) 2 2]) (by kernel_rfl) (HC1.out _ _ B2.out e0_2.out) ?_
        rintro e X3 ⟨⟨v0, rfl, ro, ng⟩, bl⟩
        refine ⟨_, rfl, ?_⟩
        rw [hd]
        have r0_3 : Hid (RdV X3 v0 (strs n.ks ++ strs m.ks)) := ro.rd
        have n0 : Hid (∀ q, v0.ownBlock = some q → W3.heap.size ≤ q) := fun q hq => Nat.le_trans B2.out.size (ng q hq)
        have B3 : Hid (Below W3.heap.size W3 X3) := B2.out.trans (bl.mono B2.out.size)
        have e1_3 : Hid (X3.cell? ⟨g1, 0, none⟩ = some (.slice a2 L2 c2) ∧ X3.cell? ⟨g1, 1, none⟩ = some (.slice d2 M2 f2)) := cells_below e1_2.out bl
        have S3 : Hid (Nb X3 26 w.heap.size lf (.slice a1 L1 c1) (.slice a2 L2 c2) (.slice a3 L3 c3) ∧ Nb X3 26 (w.heap.size + 1) mf (.slice d1 M1 f1) (.slice d2 M2 f2) (.slice d3 M3 f3) ∧ Nb X3 26 (w.heap.size + 2) false (.slice none 0 0) (.slice none 0 0) (.slice none 0 0)) := ⟨S2.out.1.below bl, S2.out.2.1.below bl, S2.out.2.2.below bl⟩
        refine hK _ _ (fun _ => S3.out) ?_
        clear ho hd hg hK bl ro ng S2 B2 e0_2 e1_2
        simp only [Act.put, List.setIfInBounds_toArray, List.set_cons_zero, List.set_cons_succ]
        refine readyW2 13 18 (some 18) (.call { callee := .value (.func 42), args := #[.tmp 17], argTypes := #[84] }) (some 23) (.buildSlice 86 2 #[(0, .tmp 20), (1, .tmp 22)]) rfl rfl (by kernel_rfl) ?_ ?_
        · rintro o K hd ho hg hK
          refine step_call (enters_of Try.func42 (by kernel_rfl) rfl) ho (vs := #[.slice (some ⟨g1, 0, none⟩) 2 2]) (by kernel_rfl) (HC2.out _ _ B3.out e1_3.out) ?_
          rintro e X4 ⟨⟨v1, rfl, ro, ng⟩, bl⟩
          refine ⟨_, rfl, ?_⟩
          rw [hd]
          have r1_4 : Hid (RdV X4 v1 (strs n.vs ++ strs m.vs)) := ro.rd
          have n1 : Hid (∀ q, v1.ownBlock = some q → W3.heap.size ≤ q) := fun q hq => Nat.le_trans B3.out.size (ng q hq)
          have B4 : Hid (Below W3.heap.size W3 X4) := B3.out.trans (bl.mono B3.out.size)
          have r0_4 : Hid (RdV X4 v0 (strs n.ks ++ strs m.ks)) := r0_3.out.below bl
          have S4 : Hid (Nb X4 26 w.heap.size lf (.slice a1 L1 c1) (.slice a2 L2 c2) (.slice a3 L3 c3) ∧ Nb X4 26 (w.heap.size + 1) mf (.slice d1 M1 f1) (.slice d2 M2 f2) (.slice d3 M3 f3) ∧ Nb X4 26 (w.heap.size + 2) false (.slice none 0 0) (.slice none 0 0) (.slice none 0 0)) := ⟨S3.out.1.below bl, S3.out.2.1.below bl, S3.out.2.2.below bl⟩
          refine hK _ _ (fun _ => S4.out) ?_
          clear ho hd hg hK bl ro ng S3 B3 e1_3 r0_3
          simp only [Act.put, List.setIfInBounds_toArray, List.set_cons_zero, List.set_cons_succ]
          refine readyW 18 (some 23) (.buildSlice 86 2 #[(0, .tmp 20), (1, .tmp 22)]) rfl (by kernel_rfl) ?_
          rintro o K hd ho hg hK
          refine wp_build2I (.tmp 20) (.tmp 22) ho (.slice a3 L3 c3) (.slice d3 M3 f3) rfl rfl rfl rfl ?_
          rw [hd]
          obtain ⟨g2, hg2⟩ : ∃ g, X4.heap.size = g := ⟨_, rfl⟩
          obtain ⟨X5, hX5⟩ : ∃ X, X4.alloc (.cells #[.slice a3 L3 c3, .slice d3 M3 f3] 23) = X := ⟨_, rfl⟩
          have bl : Below X4.heap.size X4 X5 := by rw [← hX5]; exact below_alloc _ _
          have e2_5 : Hid (X5.cell? ⟨g2, 0, none⟩ = some (.slice a3 L3 c3) ∧ X5.cell? ⟨g2, 1, none⟩ = some (.slice d3 M3 f3)) := by rw [← hX5, ← hg2]; exact two_new _ _ _ _
          have B5 : Hid (Below W3.heap.size W3 X5) := B4.out.trans (bl.mono B4.out.size)
          have r0_5 : Hid (RdV X5 v0 (strs n.ks ++ strs m.ks)) := r0_4.out.below bl
          have r1_5 : Hid (RdV X5 v1 (strs n.vs ++ strs m.vs)) := r1_4.out.below bl
          have S5 : Hid (Nb X5 26 w.heap.size lf (.slice a1 L1 c1) (.slice a2 L2 c2) (.slice a3 L3 c3) ∧ Nb X5 26 (w.heap.size + 1) mf (.slice d1 M1 f1) (.slice d2 M2 f2) (.slice d3 M3 f3) ∧ Nb X5 26 (w.heap.size + 2) false (.slice none 0 0) (.slice none 0 0) (.slice none 0 0)) := ⟨S4.out.1.below bl, S4.out.2.1.below bl, S4.out.2.2.below bl⟩
          rw [hX5, hg2]
          refine hK _ _ (fun _ => S5.out) ?_
          clear ho hd hg hK bl hX5 hg2 S4 B4 r0_4 r1_4
          simp only [Act.put, List.setIfInBounds_toArray, List.set_cons_zero, List.set_cons_succ]
          refine readyW 19 (some 24) (.call { callee := .value (.func 43), args := #[.tmp 23], argTypes := #[86] }) rfl (by kernel_rfl) ?_
          rintro o K hd ho hg hK
          refine step_call (enters_of Try.func43 (by kernel_rfl) rfl) ho (vs := #[.slice (some ⟨g2, 0, none⟩) 2 2]) (by kernel_rfl) (HC3.out _ _ B5.out e2_5.out) ?_
          rintro e X6 ⟨⟨v2, rfl, ro, ng⟩, bl⟩
          refine ⟨_, rfl, ?_⟩
          rw [hd]
          have r2_6 : Hid (RdV X6 v2 (nums n.kd ++ nums m.kd)) := ro.rd
          have n2 : Hid (∀ q, v2.ownBlock = some q → W3.heap.size ≤ q) := fun q hq => Nat.le_trans B5.out.size (ng q hq)
          have B6 : Hid (Below W3.heap.size W3 X6) := B5.out.trans (bl.mono B5.out.size)
          have r0_6 : Hid (RdV X6 v0 (strs n.ks ++ strs m.ks)) := r0_5.out.below bl
          have r1_6 : Hid (RdV X6 v1 (strs n.vs ++ strs m.vs)) := r1_5.out.below bl
          have S6 : Hid (Nb X6 26 w.heap.size lf (.slice a1 L1 c1) (.slice a2 L2 c2) (.slice a3 L3 c3) ∧ Nb X6 26 (w.heap.size + 1) mf (.slice d1 M1 f1) (.slice d2 M2 f2) (.slice d3 M3 f3) ∧ Nb X6 26 (w.heap.size + 2) false (.slice none 0 0) (.slice none 0 0) (.slice none 0 0)) := ⟨S5.out.1.below bl, S5.out.2.1.below bl, S5.out.2.2.below bl⟩
          refine hK _ _ (fun _ => S6.out) ?_
          clear ho hd hg hK bl ro ng S5 B5 e2_5 r0_5 r1_5
          simp only [Act.put, List.setIfInBounds_toArray, List.set_cons_zero, List.set_cons_succ]
          obtain ⟨x0, y0, e0⟩ := r0_6.out.long
          obtain ⟨x1, y1, e1⟩ := r1_6.out.long
          obtain ⟨x2, y2, e2⟩ := r2_6.out.long
          obtain ⟨q0, hq0⟩ : ∃ q, Hid ((strs n.ks ++ strs m.ks).length = q) := ⟨_, rfl⟩
          obtain ⟨q1, hq1⟩ : ∃ q, Hid ((strs n.vs ++ strs m.vs).length = q) := ⟨_, rfl⟩
          obtain ⟨q2, hq2⟩ : ∃ q, Hid ((nums n.kd ++ nums m.kd).length = q) := ⟨_, rfl⟩
          rw [hq0.out] at e0
          rw [hq1.out] at e1
          rw [hq2.out] at e2
          subst e0 e1 e2
          refine readyW 20 (some 25) (.build 26 #[(0, .tmp 6), (1, .tmp 12), (2, .tmp 18), (3, .tmp 24)]) rfl (by kernel_rfl) ?_
          rintro o K hd ho hg hK
          refine stepY (v := nod lf (.slice x0 q0 y0) (.slice x1 q1 y1) (.slice x2 q2 y2)) ?hy ?_
          case hy => unfold nod; go_simp
          rw [hd]
          refine hK _ _ (fun _ => S6.out) ?_
          clear ho hd hg hK
          simp only [Act.put, List.setIfInBounds_toArray, List.set_cons_zero, List.set_cons_succ]
          refine readyW 21 none (.store 26 (.tmp 4) (.tmp 25)) rfl (by kernel_rfl) ?_
          rintro o K hd ho hg hK
          refine wp_storeN ho rfl rfl S6.out.2.2 ?_
          rw [hd]
          refine hK _ _ (fun e => absurd rfl e) ?_
          refine doneW (by kernel_rfl) ?_ _
          clear ho hd hg hK
          simp only [Act.put]
          have YA := S6.out.2.2.all lf (.slice x0 q0 y0) (.slice x1 q1 y1) (.slice x2 q2 y2)
          have tA := tch_all X6 (w.heap.size + 2) (.bool lf) (.slice x0 q0 y0) (.slice x1 q1 y1) (.slice x2 q2 y2)
          obtain ⟨XA, hXA⟩ : ∃ XA, Hid ((((X6.setCell ⟨w.heap.size + 2, 0, none⟩ (.bool lf)).setCell ⟨w.heap.size + 2, 1, none⟩ (.slice x0 q0 y0)).setCell ⟨w.heap.size + 2, 2, none⟩ (.slice x1 q1 y1)).setCell ⟨w.heap.size + 2, 3, none⟩ (.slice x2 q2 y2) = XA) := ⟨_, rfl⟩
          rw [hXA.out] at YA tA ⊢
          have LA := hideN YA.load
          have NA : Hid (Nn XA (joinN n m) (.slice x0 q0 y0) (.slice x1 q1 y1) (.slice x2 q2 y2)) := by
            refine ⟨?_, ?_, ?_⟩
            · have := r0_6.out.tch tA (fun j hj e => by have := n0.out j hj; have := s3.out; omega)
              simpa [joinN, strs] using this
            · have := r1_6.out.tch tA (fun j hj e => by have := n1.out j hj; have := s3.out; omega)
              simpa [joinN, strs] using this
            · have := r2_6.out.tch tA (fun j hj e => by have := n2.out j hj; have := s3.out; omega)
              simpa [joinN, nums] using this
          have BA : Hid (Below w.heap.size w XA) := BW3.out.trans ((B6.out.mono BW3.out.size).trans (tA.below (Nat.le_trans BW3.out.size B6.out.size) (fun j e => by omega)))
          clear YA tA hXA
          go_wp2_with fail
          refine bodyPost_ret (v := nod lf (.slice x0 q0 y0) (.slice x1 q1 y1) (.slice x2 q2 y2)) (results_atN (p := 4) (ty := 26) rfl _ _ _ (w.heap.size + 2) _ rfl LA.out) rfl ?_
          exact ⟨⟨_, _, _, rfl, NA.out, fun j hj => Nat.le_trans BW3.out.size (n0.out j hj), fun j hj => Nat.le_trans BW3.out.size (n1.out j hj), fun j hj => Nat.le_trans BW3.out.size (n2.out j hj)⟩, BA.out⟩
        · rintro o K hd ho hg hK
          refine wp_build2I (.tmp 20) (.tmp 22) ho (.slice a3 L3 c3) (.slice d3 M3 f3) rfl rfl rfl rfl ?_
          rw [hd]
          obtain ⟨g2, hg2⟩ : ∃ g, X3.heap.size = g := ⟨_, rfl⟩
          obtain ⟨X4, hX4⟩ : ∃ X, X3.alloc (.cells #[.slice a3 L3 c3, .slice d3 M3 f3] 23) = X := ⟨_, rfl⟩
          have bl : Below X3.heap.size X3 X4 := by rw [← hX4]; exact below_alloc _ _
          have e2_4 : Hid (X4.cell? ⟨g2, 0, none⟩ = some (.slice a3 L3 c3) ∧ X4.cell? ⟨g2, 1, none⟩ = some (.slice d3 M3 f3)) := by rw [← hX4, ← hg2]; exact two_new _ _ _ _
          have B4 : Hid (Below W3.heap.size W3 X4) := B3.out.trans (bl.mono B3.out.size)
          have r0_4 : Hid (RdV X4 v0 (strs n.ks ++ strs m.ks)) := r0_3.out.below bl
          have e1_4 : Hid (X4.cell? ⟨g1, 0, none⟩ = some (.slice a2 L2 c2) ∧ X4.cell? ⟨g1, 1, none⟩ = some (.slice d2 M2 f2)) := cells_below e1_3.out bl
          have S4 : Hid (Nb X4 26 w.heap.size lf (.slice a1 L1 c1) (.slice a2 L2 c2) (.slice a3 L3 c3) ∧ Nb X4 26 (w.heap.size + 1) mf (.slice d1 M1 f1) (.slice d2 M2 f2) (.slice d3 M3 f3) ∧ Nb X4 26 (w.heap.size + 2) false (.slice none 0 0) (.slice none 0 0) (.slice none 0 0)) := ⟨S3.out.1.below bl, S3.out.2.1.below bl, S3.out.2.2.below bl⟩
          rw [hX4, hg2]
          refine hK _ _ (fun _ => S4.out) ?_
          clear ho hd hg hK bl hX4 hg2 S3 B3 e1_3 r0_3
          simp only [Act.put, List.setIfInBounds_toArray, List.set_cons_zero, List.set_cons_succ]
          refine readyW 13 (some 18) (.call { callee := .value (.func 42), args := #[.tmp 17], argTypes := #[84] }) rfl (by kernel_rfl) ?_
          rintro o K hd ho hg hK
          refine step_call (enters_of Try.func42 (by kernel_rfl) rfl) ho (vs := #[.slice (some ⟨g1, 0, none⟩) 2 2]) (by kernel_rfl) (HC2.out _ _ B4.out e1_4.out) ?_
          rintro e X5 ⟨⟨v1, rfl, ro, ng⟩, bl⟩
          refine ⟨_, rfl, ?_⟩
          rw [hd]
          have r1_5 : Hid (RdV X5 v1 (strs n.vs ++ strs m.vs)) := ro.rd
          have n1 : Hid (∀ q, v1.ownBlock = some q → W3.heap.size ≤ q) := fun q hq => Nat.le_trans B4.out.size (ng q hq)
          have B5 : Hid (Below W3.heap.size W3 X5) := B4.out.trans (bl.mono B4.out.size)
          have r0_5 : Hid (RdV X5 v0 (strs n.ks ++ strs m.ks)) := r0_4.out.below bl
          have e2_5 : Hid (X5.cell? ⟨g2, 0, none⟩ = some (.slice a3 L3 c3) ∧ X5.cell? ⟨g2, 1, none⟩ = some (.slice d3 M3 f3)) := cells_below e2_4.out bl
          have S5 : Hid (Nb X5 26 w.heap.size lf (.slice a1 L1 c1) (.slice a2 L2 c2) (.slice a3 L3 c3) ∧ Nb X5 26 (w.heap.size + 1) mf (.slice d1 M1 f1) (.slice d2 M2 f2) (.slice d3 M3 f3) ∧ Nb X5 26 (w.heap.size + 2) false (.slice none 0 0) (.slice none 0 0) (.slice none 0 0)) := ⟨S4.out.1.below bl, S4.out.2.1.below bl, S4.out.2.2.below bl⟩
          refine hK _ _ (fun _ => S5.out) ?_
          clear ho hd hg hK bl ro ng S4 B4 e1_4 e2_4 r0_4
          simp only [Act.put, List.setIfInBounds_toArray, List.set_cons_zero, List.set_cons_succ]
          refine readyW 19 (some 24) (.call { callee := .value (.func 43), args := #[.tmp 23], argTypes := #[86] }) rfl (by kernel_rfl) ?_
          rintro o K hd ho hg hK
          refine step_call (enters_of Try.func43 (by kernel_rfl) rfl) ho (vs := #[.slice (some ⟨g2, 0, none⟩) 2 2]) (by kernel_rfl) (HC3.out _ _ B5.out e2_5.out) ?_
          rintro e X6 ⟨⟨v2, rfl, ro, ng⟩, bl⟩
          refine ⟨_, rfl, ?_⟩
          rw [hd]
          have r2_6 : Hid (RdV X6 v2 (nums n.kd ++ nums m.kd)) := ro.rd
          have n2 : Hid (∀ q, v2.ownBlock = some q → W3.heap.size ≤ q) := fun q hq => Nat.le_trans B5.out.size (ng q hq)
          have B6 : Hid (Below W3.heap.size W3 X6) := B5.out.trans (bl.mono B5.out.size)
          have r0_6 : Hid (RdV X6 v0 (strs n.ks ++ strs m.ks)) := r0_5.out.below bl
          have r1_6 : Hid (RdV X6 v1 (strs n.vs ++ strs m.vs)) := r1_5.out.below bl
          have S6 : Hid (Nb X6 26 w.heap.size lf (.slice a1 L1 c1) (.slice a2 L2 c2) (.slice a3 L3 c3) ∧ Nb X6 26 (w.heap.size + 1) mf (.slice d1 M1 f1) (.slice d2 M2 f2) (.slice d3 M3 f3) ∧ Nb X6 26 (w.heap.size + 2) false (.slice none 0 0) (.slice none 0 0) (.slice none 0 0)) := ⟨S5.out.1.below bl, S5.out.2.1.below bl, S5.out.2.2.below bl⟩
          refine hK _ _ (fun _ => S6.out) ?_
          clear ho hd hg hK bl ro ng S5 B5 e2_5 r0_5 r1_5
          simp only [Act.put, List.setIfInBounds_toArray, List.set_cons_zero, List.set_cons_succ]
          obtain ⟨x0, y0, e0⟩ := r0_6.out.long
          obtain ⟨x1, y1, e1⟩ := r1_6.out.long
          obtain ⟨x2, y2, e2⟩ := r2_6.out.long
          obtain ⟨q0, hq0⟩ : ∃ q, Hid ((strs n.ks ++ strs m.ks).length = q) := ⟨_, rfl⟩
          obtain ⟨q1, hq1⟩ : ∃ q, Hid ((strs n.vs ++ strs m.vs).length = q) := ⟨_, rfl⟩
          obtain ⟨q2, hq2⟩ : ∃ q, Hid ((nums n.kd ++ nums m.kd).length = q) := ⟨_, rfl⟩
          rw [hq0.out] at e0
          rw [hq1.out] at e1
          rw [hq2.out] at e2
          subst e0 e1 e2
          refine readyW 20 (some 25) (.build 26 #[(0, .tmp 6), (1, .tmp 12), (2, .tmp 18), (3, .tmp 24)]) rfl (by kernel_rfl) ?_
          rintro o K hd ho hg hK
          refine stepY (v := nod lf (.slice x0 q0 y0) (.slice x1 q1 y1) (.slice x2 q2 y2)) ?hy ?_
          case hy => unfold nod; go_simp
          rw [hd]
          refine hK _ _ (fun _ => S6.out) ?_
          clear ho hd hg hK
          simp only [Act.put, List.setIfInBounds_toArray, List.set_cons_zero, List.set_cons_succ]
          refine readyW 21 none (.store 26 (.tmp 4) (.tmp 25)) rfl (by kernel_rfl) ?_
          rintro o K hd ho hg hK
          refine wp_storeN ho rfl rfl S6.out.2.2 ?_
          rw [hd]
          refine hK _ _ (fun e => absurd rfl e) ?_
          refine doneW (by kernel_rfl) ?_ _
          clear ho hd hg hK
          simp only [Act.put]
          have YA := S6.out.2.2.all lf (.slice x0 q0 y0) (.slice x1 q1 y1) (.slice x2 q2 y2)
          have tA := tch_all X6 (w.heap.size + 2) (.bool lf) (.slice x0 q0 y0) (.slice x1 q1 y1) (.slice x2 q2 y2)
          obtain ⟨XA, hXA⟩ : ∃ XA, Hid ((((X6.setCell ⟨w.heap.size + 2, 0, none⟩ (.bool lf)).setCell ⟨w.heap.size + 2, 1, none⟩ (.slice x0 q0 y0)).setCell ⟨w.heap.size + 2, 2, none⟩ (.slice x1 q1 y1)).setCell ⟨w.heap.size + 2, 3, none⟩ (.slice x2 q2 y2) = XA) := ⟨_, rfl⟩
          rw [hXA.out] at YA tA ⊢
          have LA := hideN YA.load
          have NA : Hid (Nn XA (joinN n m) (.slice x0 q0 y0) (.slice x1 q1 y1) (.slice x2 q2 y2)) := by
            refine ⟨?_, ?_, ?_⟩
            · have := r0_6.out.tch tA (fun j hj e => by have := n0.out j hj; have := s3.out; omega)
              simpa [joinN, strs] using this
            · have := r1_6.out.tch tA (fun j hj e => by have := n1.out j hj; have := s3.out; omega)
              simpa [joinN, strs] using this
            · have := r2_6.out.tch tA (fun j hj e => by have := n2.out j hj; have := s3.out; omega)
              simpa [joinN, nums] using this
          have BA : Hid (Below w.heap.size w XA) := BW3.out.trans ((B6.out.mono BW3.out.size).trans (tA.below (Nat.le_trans BW3.out.size B6.out.size) (fun j e => by omega)))
          clear YA tA hXA
          go_wp2_with fail
          refine bodyPost_ret (v := nod lf (.slice x0 q0 y0) (.slice x1 q1 y1) (.slice x2 q2 y2)) (results_atN (p := 4) (ty := 26) rfl _ _ _ (w.heap.size + 2) _ rfl LA.out) rfl ?_
          exact ⟨⟨_, _, _, rfl, NA.out, fun j hj => Nat.le_trans BW3.out.size (n0.out j hj), fun j hj => Nat.le_trans BW3.out.size (n1.out j hj), fun j hj => Nat.le_trans BW3.out.size (n2.out j hj)⟩, BA.out⟩
      · rintro o K hd ho hg hK
        refine wp_build2I (.tmp 20) (.tmp 22) ho (.slice a3 L3 c3) (.slice d3 M3 f3) rfl rfl rfl rfl ?_
        rw [hd]
        obtain ⟨g2, hg2⟩ : ∃ g, X2.heap.size = g := ⟨_, rfl⟩
        obtain ⟨X3, hX3⟩ : ∃ X, X2.alloc (.cells #[.slice a3 L3 c3, .slice d3 M3 f3] 23) = X := ⟨_, rfl⟩
        have bl : Below X2.heap.size X2 X3 := by rw [← hX3]; exact below_alloc _ _
        have e2_3 : Hid (X3.cell? ⟨g2, 0, none⟩ = some (.slice a3 L3 c3) ∧ X3.cell? ⟨g2, 1, none⟩ = some (.slice d3 M3 f3)) := by rw [← hX3, ← hg2]; exact two_new _ _ _ _
        have B3 : Hid (Below W3.heap.size W3 X3) := B2.out.trans (bl.mono B2.out.size)
        have e0_3 : Hid (X3.cell? ⟨g0, 0, none⟩ = some (.slice a1 L1 c1) ∧ X3.cell? ⟨g0, 1, none⟩ = some (.slice d1 M1 f1)) := cells_below e0_2.out bl
        have e1_3 : Hid (X3.cell? ⟨g1, 0, none⟩ = some (.slice a2 L2 c2) ∧ X3.cell? ⟨g1, 1, none⟩ = some (.slice d2 M2 f2)) := cells_below e1_2.out bl
        have S3 : Hid (Nb X3 26 w.heap.size lf (.slice a1 L1 c1) (.slice a2 L2 c2) (.slice a3 L3 c3) ∧ Nb X3 26 (w.heap.size + 1) mf (.slice d1 M1 f1) (.slice d2 M2 f2) (.slice d3 M3 f3) ∧ Nb X3 26 (w.heap.size + 2) false (.slice none 0 0) (.slice none 0 0) (.slice none 0 0)) := ⟨S2.out.1.below bl, S2.out.2.1.below bl, S2.out.2.2.below bl⟩
        rw [hX3, hg2]
        refine hK _ _ (fun _ => S3.out) ?_
        clear ho hd hg hK bl hX3 hg2 S2 B2 e0_2 e1_2
        simp only [Act.put, List.setIfInBounds_toArray, List.set_cons_zero, List.set_cons_succ]
        refine readyW 7 (some 12) (.call { callee := .value (.func 42), args := #[.tmp 11], argTypes := #[84] }) rfl (by kernel_rfl) ?_
        rintro o K hd ho hg hK
        refine step_call (enters_of Try.func42 (by kernel_rfl) rfl) ho (vs := #[.slice (some ⟨g0, 0, none⟩) 2 2]) (by kernel_rfl) (HC1.out _ _ B3.out e0_3.out) ?_
        rintro e X4 ⟨⟨v0, rfl, ro, ng⟩, bl⟩
        refine ⟨_, rfl, ?_⟩
        rw [hd]
        have r0_4 : Hid (RdV X4 v0 (strs n.ks ++ strs m.ks)) := ro.rd
        have n0 : Hid (∀ q, v0.ownBlock = some q → W3.heap.size ≤ q) := fun q hq => Nat.le_trans B3.out.size (ng q hq)
        have B4 : Hid (Below W3.heap.size W3 X4) := B3.out.trans (bl.mono B3.out.size)
        have e1_4 : Hid (X4.cell? ⟨g1, 0, none⟩ = some (.slice a2 L2 c2) ∧ X4.cell? ⟨g1, 1, none⟩ = some (.slice d2 M2 f2)) := cells_below e1_3.out bl
        have e2_4 : Hid (X4.cell? ⟨g2, 0, none⟩ = some (.slice a3 L3 c3) ∧ X4.cell? ⟨g2, 1, none⟩ = some (.slice d3 M3 f3)) := cells_below e2_3.out bl
        have S4 : Hid (Nb X4 26 w.heap.size lf (.slice a1 L1 c1) (.slice a2 L2 c2) (.slice a3 L3 c3) ∧ Nb X4 26 (w.heap.size + 1) mf (.slice d1 M1 f1) (.slice d2 M2 f2) (.slice d3 M3 f3) ∧ Nb X4 26 (w.heap.size + 2) false (.slice none 0 0) (.slice none 0 0) (.slice none 0 0)) := ⟨S3.out.1.below bl, S3.out.2.1.below bl, S3.out.2.2.below bl⟩
        refine hK _ _ (fun _ => S4.out) ?_
        clear ho hd hg hK bl ro ng S3 B3 e0_3 e1_3 e2_3
        simp only [Act.put, List.setIfInBounds_toArray, List.set_cons_zero, List.set_cons_succ]
        refine readyW 13 (some 18) (.call { callee := .value (.func 42), args := #[.tmp 17], argTypes := #[84] }) rfl (by kernel_rfl) ?_
        rintro o K hd ho hg hK
        refine step_call (enters_of Try.func42 (by kernel_rfl) rfl) ho (vs := #[.slice (some ⟨g1, 0, none⟩) 2 2]) (by kernel_rfl) (HC2.out _ _ B4.out e1_4.out) ?_
        rintro e X5 ⟨⟨v1, rfl, ro, ng⟩, bl⟩
        refine ⟨_, rfl, ?_⟩
        rw [hd]
        have r1_5 : Hid (RdV X5 v1 (strs n.vs ++ strs m.vs)) := ro.rd
        have n1 : Hid (∀ q, v1.ownBlock = some q → W3.heap.size ≤ q) := fun q hq => Nat.le_trans B4.out.size (ng q hq)
        have B5 : Hid (Below W3.heap.size W3 X5) := B4.out.trans (bl.mono B4.out.size)
        have r0_5 : Hid (RdV X5 v0 (strs n.ks ++ strs m.ks)) := r0_4.out.below bl
        have e2_5 : Hid (X5.cell? ⟨g2, 0, none⟩ = some (.slice a3 L3 c3) ∧ X5.cell? ⟨g2, 1, none⟩ = some (.slice d3 M3 f3)) := cells_below e2_4.out bl
        have S5 : Hid (Nb X5 26 w.heap.size lf (.slice a1 L1 c1) (.slice a2 L2 c2) (.slice a3 L3 c3) ∧ Nb X5 26 (w.heap.size + 1) mf (.slice d1 M1 f1) (.slice d2 M2 f2) (.slice d3 M3 f3) ∧ Nb X5 26 (w.heap.size + 2) false (.slice none 0 0) (.slice none 0 0) (.slice none 0 0)) := ⟨S4.out.1.below bl, S4.out.2.1.below bl, S4.out.2.2.below bl⟩
        refine hK _ _ (fun _ => S5.out) ?_
        clear ho hd hg hK bl ro ng S4 B4 e1_4 e2_4 r0_4
        simp only [Act.put, List.setIfInBounds_toArray, List.set_cons_zero, List.set_cons_succ]
        refine readyW 19 (some 24) (.call { callee := .value (.func 43), args := #[.tmp 23], argTypes := #[86] }) rfl (by kernel_rfl) ?_
        rintro o K hd ho hg hK
        refine step_call (enters_of Try.func43 (by kernel_rfl) rfl) ho (vs := #[.slice (some ⟨g2, 0, none⟩) 2 2]) (by kernel_rfl) (HC3.out _ _ B5.out e2_5.out) ?_
        rintro e X6 ⟨⟨v2, rfl, ro, ng⟩, bl⟩
        refine ⟨_, rfl, ?_⟩
        rw [hd]
        have r2_6 : Hid (RdV X6 v2 (nums n.kd ++ nums m.kd)) := ro.rd
        have n2 : Hid (∀ q, v2.ownBlock = some q → W3.heap.size ≤ q) := fun q hq => Nat.le_trans B5.out.size (ng q hq)
        have B6 : Hid (Below W3.heap.size W3 X6) := B5.out.trans (bl.mono B5.out.size)
        have r0_6 : Hid (RdV X6 v0 (strs n.ks ++ strs m.ks)) := r0_5.out.below bl
        have r1_6 : Hid (RdV X6 v1 (strs n.vs ++ strs m.vs)) := r1_5.out.below bl
        have S6 : Hid (Nb X6 26 w.heap.size lf (.slice a1 L1 c1) (.slice a2 L2 c2) (.slice a3 L3 c3) ∧ Nb X6 26 (w.heap.size + 1) mf (.slice d1 M1 f1) (.slice d2 M2 f2) (.slice d3 M3 f3) ∧ Nb X6 26 (w.heap.size + 2) false (.slice none 0 0) (.slice none 0 0) (.slice none 0 0)) := ⟨S5.out.1.below bl, S5.out.2.1.below bl, S5.out.2.2.below bl⟩
        refine hK _ _ (fun _ => S6.out) ?_
        clear ho hd hg hK bl ro ng S5 B5 e2_5 r0_5 r1_5
        simp only [Act.put, List.setIfInBounds_toArray, List.set_cons_zero, List.set_cons_succ]
        obtain ⟨x0, y0, e0⟩ := r0_6.out.long
        obtain ⟨x1, y1, e1⟩ := r1_6.out.long
        obtain ⟨x2, y2, e2⟩ := r2_6.out.long
        obtain ⟨q0, hq0⟩ : ∃ q, Hid ((strs n.ks ++ strs m.ks).length = q) := ⟨_, rfl⟩
        obtain ⟨q1, hq1⟩ : ∃ q, Hid ((strs n.vs ++ strs m.vs).length = q) := ⟨_, rfl⟩
        obtain ⟨q2, hq2⟩ : ∃ q, Hid ((nums n.kd ++ nums m.kd).length = q) := ⟨_, rfl⟩
        rw [hq0.out] at e0
        rw [hq1.out] at e1
        rw [hq2.out] at e2
        subst e0 e1 e2
        refine readyW 20 (some 25) (.build 26 #[(0, .tmp 6), (1, .tmp 12), (2, .tmp 18), (3, .tmp 24)]) rfl (by kernel_rfl) ?_
        rintro o K hd ho hg hK
        refine stepY (v := nod lf (.slice x0 q0 y0) (.slice x1 q1 y1) (.slice x2 q2 y2)) ?hy ?_
        case hy => unfold nod; go_simp
        rw [hd]
        refine hK _ _ (fun _ => S6.out) ?_
        clear ho hd hg hK
        simp only [Act.put, List.setIfInBounds_toArray, List.set_cons_zero, List.set_cons_succ]
        refine readyW 21 none (.store 26 (.tmp 4) (.tmp 25)) rfl (by kernel_rfl) ?_
        rintro o K hd ho hg hK
        refine wp_storeN ho rfl rfl S6.out.2.2 ?_
        rw [hd]
        refine hK _ _ (fun e => absurd rfl e) ?_
        refine doneW (by kernel_rfl) ?_ _
        clear ho hd hg hK
        simp only [Act.put]
        have YA := S6.out.2.2.all lf (.slice x0 q0 y0) (.slice x1 q1 y1) (.slice x2 q2 y2)
        have tA := tch_all X6 (w.heap.size + 2) (.bool lf) (.slice x0 q0 y0) (.slice x1 q1 y1) (.slice x2 q2 y2)
        obtain ⟨XA, hXA⟩ : ∃ XA, Hid ((((X6.setCell ⟨w.heap.size + 2, 0, none⟩ (.bool lf)).setCell ⟨w.heap.size + 2, 1, none⟩ (.slice x0 q0 y0)).setCell ⟨w.heap.size + 2, 2, none⟩ (.slice x1 q1 y1)).setCell ⟨w.heap.size + 2, 3, none⟩ (.slice x2 q2 y2) = XA) := ⟨_, rfl⟩
        rw [hXA.out] at YA tA ⊢
        have LA := hideN YA.load
        have NA : Hid (Nn XA (joinN n m) (.slice x0 q0 y0) (.slice x1 q1 y1) (.slice x2 q2 y2)) := by
          refine ⟨?_, ?_, ?_⟩
          · have := r0_6.out.tch tA (fun j hj e => by have := n0.out j hj; have := s3.out; omega)
            simpa [joinN, strs] using this
          · have := r1_6.out.tch tA (fun j hj e => by have := n1.out j hj; have := s3.out; omega)
            simpa [joinN, strs] using this
          · have := r2_6.out.tch tA (fun j hj e => by have := n2.out j hj; have := s3.out; omega)
            simpa [joinN, nums] using this
        have BA : Hid (Below w.heap.size w XA) := BW3.out.trans ((B6.out.mono BW3.out.size).trans (tA.below (Nat.le_trans BW3.out.size B6.out.size) (fun j e => by omega)))
        clear YA tA hXA
        go_wp2_with fail
        refine bodyPost_ret (v := nod lf (.slice x0 q0 y0) (.slice x1 q1 y1) (.slice x2 q2 y2)) (results_atN (p := 4) (ty := 26) rfl _ _ _ (w.heap.size + 2) _ rfl LA.out) rfl ?_
        exact ⟨⟨_, _, _, rfl, NA.out, fun j hj => Nat.le_trans BW3.out.size (n0.out j hj), fun j hj => Nat.le_trans BW3.out.size (n1.out j hj), fun j hj => Nat.le_trans BW3.out.size (n2.out j hj)⟩, BA.out⟩
    · rintro o K hd ho hg hK
      refine wp_build2I (.tmp 20) (.tmp 22) ho (.slice a3 L3 c3) (.slice d3 M3 f3) rfl rfl rfl rfl ?_
      rw [hd]
      obtain ⟨g2, hg2⟩ : ∃ g, X1.heap.size = g := ⟨_, rfl⟩
      obtain ⟨X2, hX2⟩ : ∃ X, X1.alloc (.cells #[.slice a3 L3 c3, .slice d3 M3 f3] 23) = X := ⟨_, rfl⟩
      have bl : Below X1.heap.size X1 X2 := by rw [← hX2]; exact below_alloc _ _
      have e2_2 : Hid (X2.cell? ⟨g2, 0, none⟩ = some (.slice a3 L3 c3) ∧ X2.cell? ⟨g2, 1, none⟩ = some (.slice d3 M3 f3)) := by rw [← hX2, ← hg2]; exact two_new _ _ _ _
      have B2 : Hid (Below W3.heap.size W3 X2) := B1.out.trans (bl.mono B1.out.size)
      have e1_2 : Hid (X2.cell? ⟨g1, 0, none⟩ = some (.slice a2 L2 c2) ∧ X2.cell? ⟨g1, 1, none⟩ = some (.slice d2 M2 f2)) := cells_below e1_1.out bl
      have S2 : Hid (Nb X2 26 w.heap.size lf (.slice a1 L1 c1) (.slice a2 L2 c2) (.slice a3 L3 c3) ∧ Nb X2 26 (w.heap.size + 1) mf (.slice d1 M1 f1) (.slice d2 M2 f2) (.slice d3 M3 f3) ∧ Nb X2 26 (w.heap.size + 2) false (.slice none 0 0) (.slice none 0 0) (.slice none 0 0)) := ⟨S1.out.1.below bl, S1.out.2.1.below bl, S1.out.2.2.below bl⟩
      rw [hX2, hg2]
      refine hK _ _ (fun _ => S2.out) ?_
      clear ho hd hg hK bl hX2 hg2 S1 B1 e1_1
      simp only [Act.put, List.setIfInBounds_toArray, List.set_cons_zero, List.set_cons_succ]
      refine readyW 6 (some 11) (.buildSlice 84 2 #[(0, .tmp 8), (1, .tmp 10)]) rfl (by kernel_rfl) ?_
      rintro o K hd ho hg hK
      refine wp_build2S (.tmp 8) (.tmp 10) ho (.slice a1 L1 c1) (.slice d1 M1 f1) rfl rfl rfl rfl ?_
      rw [hd]
      obtain ⟨g0, hg0⟩ : ∃ g, X2.heap.size = g := ⟨_, rfl⟩
      obtain ⟨X3, hX3⟩ : ∃ X, X2.alloc (.cells #[.slice a1 L1 c1, .slice d1 M1 f1] 22) = X := ⟨_, rfl⟩
      have bl : Below X2.heap.size X2 X3 := by rw [← hX3]; exact below_alloc _ _
      have e0_3 : Hid (X3.cell? ⟨g0, 0, none⟩ = some (.slice a1 L1 c1) ∧ X3.cell? ⟨g0, 1, none⟩ = some (.slice d1 M1 f1)) := by rw [← hX3, ← hg0]; exact two_new _ _ _ _
      have B3 : Hid (Below W3.heap.size W3 X3) := B2.out.trans (bl.mono B2.out.size)
      have e1_3 : Hid (X3.cell? ⟨g1, 0, none⟩ = some (.slice a2 L2 c2) ∧ X3.cell? ⟨g1, 1, none⟩ = some (.slice d2 M2 f2)) := cells_below e1_2.out bl
      have e2_3 : Hid (X3.cell? ⟨g2, 0, none⟩ = some (.slice a3 L3 c3) ∧ X3.cell? ⟨g2, 1, none⟩ = some (.slice d3 M3 f3)) := cells_below e2_2.out bl
      have S3 : Hid (Nb X3 26 w.heap.size lf (.slice a1 L1 c1) (.slice a2 L2 c2) (.slice a3 L3 c3) ∧ Nb X3 26 (w.heap.size + 1) mf (.slice d1 M1 f1) (.slice d2 M2 f2) (.slice d3 M3 f3) ∧ Nb X3 26 (w.heap.size + 2) false (.slice none 0 0) (.slice none 0 0) (.slice none 0 0)) := ⟨S2.out.1.below bl, S2.out.2.1.below bl, S2.out.2.2.below bl⟩
      rw [hX3, hg0]
      refine hK _ _ (fun _ => S3.out) ?_
      clear ho hd hg hK bl hX3 hg0 S2 B2 e1_2 e2_2
      simp only [Act.put, List.setIfInBounds_toArray, List.set_cons_zero, List.set_cons_succ]
      refine readyW 7 (some 12) (.call { callee := .value (.func 42), args := #[.tmp 11], argTypes := #[84] }) rfl (by kernel_rfl) ?_
      rintro o K hd ho hg hK
      refine step_call (enters_of Try.func42 (by kernel_rfl) rfl) ho (vs := #[.slice (some ⟨g0, 0, none⟩) 2 2]) (by kernel_rfl) (HC1.out _ _ B3.out e0_3.out) ?_
      rintro e X4 ⟨⟨v0, rfl, ro, ng⟩, bl⟩
      refine ⟨_, rfl, ?_⟩
      rw [hd]
      have r0_4 : Hid (RdV X4 v0 (strs n.ks ++ strs m.ks)) := ro.rd
      have n0 : Hid (∀ q, v0.ownBlock = some q → W3.heap.size ≤ q) := fun q hq => Nat.le_trans B3.out.size (ng q hq)
      have B4 : Hid (Below W3.heap.size W3 X4) := B3.out.trans (bl.mono B3.out.size)
      have e1_4 : Hid (X4.cell? ⟨g1, 0, none⟩ = some (.slice a2 L2 c2) ∧ X4.cell? ⟨g1, 1, none⟩ = some (.slice d2 M2 f2)) := cells_below e1_3.out bl
      have e2_4 : Hid (X4.cell? ⟨g2, 0, none⟩ = some (.slice a3 L3 c3) ∧ X4.cell? ⟨g2, 1, none⟩ = some (.slice d3 M3 f3)) := cells_below e2_3.out bl
      have S4 : Hid (Nb X4 26 w.heap.size lf (.slice a1 L1 c1) (.slice a2 L2 c2) (.slice a3 L3 c3) ∧ Nb X4 26 (w.heap.size + 1) mf (.slice d1 M1 f1) (.slice d2 M2 f2) (.slice d3 M3 f3) ∧ Nb X4 26 (w.heap.size + 2) false (.slice none 0 0) (.slice none 0 0) (.slice none 0 0)) := ⟨S3.out.1.below bl, S3.out.2.1.below bl, S3.out.2.2.below bl⟩
      refine hK _ _ (fun _ => S4.out) ?_
      clear ho hd hg hK bl ro ng S3 B3 e0_3 e1_3 e2_3
      simp only [Act.put, List.setIfInBounds_toArray, List.set_cons_zero, List.set_cons_succ]
      refine readyW 13 (some 18) (.call { callee := .value (.func 42), args := #[.tmp 17], argTypes := #[84] }) rfl (by kernel_rfl) ?_
      rintro o K hd ho hg hK
      refine step_call (enters_of Try.func42 (by kernel_rfl) rfl) ho (vs := #[.slice (some ⟨g1, 0, none⟩) 2 2]) (by kernel_rfl) (HC2.out _ _ B4.out e1_4.out) ?_
      rintro e X5 ⟨⟨v1, rfl, ro, ng⟩, bl⟩
      refine ⟨_, rfl, ?_⟩
      rw [hd]
      have r1_5 : Hid (RdV X5 v1 (strs n.vs ++ strs m.vs)) := ro.rd
      have n1 : Hid (∀ q, v1.ownBlock = some q → W3.heap.size ≤ q) := fun q hq => Nat.le_trans B4.out.size (ng q hq)
      have B5 : Hid (Below W3.heap.size W3 X5) := B4.out.trans (bl.mono B4.out.size)
      have r0_5 : Hid (RdV X5 v0 (strs n.ks ++ strs m.ks)) := r0_4.out.below bl
      have e2_5 : Hid (X5.cell? ⟨g2, 0, none⟩ = some (.slice a3 L3 c3) ∧ X5.cell? ⟨g2, 1, none⟩ = some (.slice d3 M3 f3)) := cells_below e2_4.out bl
      have S5 : Hid (Nb X5 26 w.heap.size lf (.slice a1 L1 c1) (.slice a2 L2 c2) (.slice a3 L3 c3) ∧ Nb X5 26 (w.heap.size + 1) mf (.slice d1 M1 f1) (.slice d2 M2 f2) (.slice d3 M3 f3) ∧ Nb X5 26 (w.heap.size + 2) false (.slice none 0 0) (.slice none 0 0) (.slice none 0 0)) := ⟨S4.out.1.below bl, S4.out.2.1.below bl, S4.out.2.2.below bl⟩
      refine hK _ _ (fun _ => S5.out) ?_
      clear ho hd hg hK bl ro ng S4 B4 e1_4 e2_4 r0_4
      simp only [Act.put, List.setIfInBounds_toArray, List.set_cons_zero, List.set_cons_succ]
      refine readyW 19 (some 24) (.call { callee := .value (.func 43), args := #[.tmp 23], argTypes := #[86] }) rfl (by kernel_rfl) ?_
      rintro o K hd ho hg hK
      refine step_call (enters_of Try.func43 (by kernel_rfl) rfl) ho (vs := #[.slice (some ⟨g2, 0, none⟩) 2 2]) (by kernel_rfl) (HC3.out _ _ B5.out e2_5.out) ?_
      rintro e X6 ⟨⟨v2, rfl, ro, ng⟩, bl⟩
      refine ⟨_, rfl, ?_⟩
      rw [hd]
      have r2_6 : Hid (RdV X6 v2 (nums n.kd ++ nums m.kd)) := ro.rd
      have n2 : Hid (∀ q, v2.ownBlock = some q → W3.heap.size ≤ q) := fun q hq => Nat.le_trans B5.out.size (ng q hq)
      have B6 : Hid (Below W3.heap.size W3 X6) := B5.out.trans (bl.mono B5.out.size)
      have r0_6 : Hid (RdV X6 v0 (strs n.ks ++ strs m.ks)) := r0_5.out.below bl
      have r1_6 : Hid (RdV X6 v1 (strs n.vs ++ strs m.vs)) := r1_5.out.below bl
      have S6 : Hid (Nb X6 26 w.heap.size lf (.slice a1 L1 c1) (.slice a2 L2 c2) (.slice a3 L3 c3) ∧ Nb X6 26 (w.heap.size + 1) mf (.slice d1 M1 f1) (.slice d2 M2 f2) (.slice d3 M3 f3) ∧ Nb X6 26 (w.heap.size + 2) false (.slice none 0 0) (.slice none 0 0) (.slice none 0 0)) := ⟨S5.out.1.below bl, S5.out.2.1.below bl, S5.out.2.2.below bl⟩
      refine hK _ _ (fun _ => S6.out) ?_
      clear ho hd hg hK bl ro ng S5 B5 e2_5 r0_5 r1_5
      simp only [Act.put, List.setIfInBounds_toArray, List.set_cons_zero, List.set_cons_succ]
      obtain ⟨x0, y0, e0⟩ := r0_6.out.long
      obtain ⟨x1, y1, e1⟩ := r1_6.out.long
      obtain ⟨x2, y2, e2⟩ := r2_6.out.long
      obtain ⟨q0, hq0⟩ : ∃ q, Hid ((strs n.ks ++ strs m.ks).length = q) := ⟨_, rfl⟩
      obtain ⟨q1, hq1⟩ : ∃ q, Hid ((strs n.vs ++ strs m.vs).length = q) := ⟨_, rfl⟩
      obtain ⟨q2, hq2⟩ : ∃ q, Hid ((nums n.kd ++ nums m.kd).length = q) := ⟨_, rfl⟩
      rw [hq0.out] at e0
      rw [hq1.out] at e1
      rw [hq2.out] at e2
      subst e0 e1 e2
      refine readyW 20 (some 25) (.build 26 #[(0, .tmp 6), (1, .tmp 12), (2, .tmp 18), (3, .tmp 24)]) rfl (by kernel_rfl) ?_
      rintro o K hd ho hg hK
      refine stepY (v := nod lf (.slice x0 q0 y0) (.slice x1 q1 y1) (.slice x2 q2 y2)) ?hy ?_
      case hy => unfold nod; go_simp
      rw [hd]
      refine hK _ _ (fun _ => S6.out) ?_
      clear ho hd hg hK
      simp only [Act.put, List.setIfInBounds_toArray, List.set_cons_zero, List.set_cons_succ]
      refine readyW 21 none (.store 26 (.tmp 4) (.tmp 25)) rfl (by kernel_rfl) ?_
      rintro o K hd ho hg hK
      refine wp_storeN ho rfl rfl S6.out.2.2 ?_
      rw [hd]
      refine hK _ _ (fun e => absurd rfl e) ?_
      refine doneW (by kernel_rfl) ?_ _
      clear ho hd hg hK
      simp only [Act.put]
      have YA := S6.out.2.2.all lf (.slice x0 q0 y0) (.slice x1 q1 y1) (.slice x2 q2 y2)
      have tA := tch_all X6 (w.heap.size + 2) (.bool lf) (.slice x0 q0 y0) (.slice x1 q1 y1) (.slice x2 q2 y2)
      obtain ⟨XA, hXA⟩ : ∃ XA, Hid ((((X6.setCell ⟨w.heap.size + 2, 0, none⟩ (.bool lf)).setCell ⟨w.heap.size + 2, 1, none⟩ (.slice x0 q0 y0)).setCell ⟨w.heap.size + 2, 2, none⟩ (.slice x1 q1 y1)).setCell ⟨w.heap.size + 2, 3, none⟩ (.slice x2 q2 y2) = XA) := ⟨_, rfl⟩
      rw [hXA.out] at YA tA ⊢
      have LA := hideN YA.load
      have NA : Hid (Nn XA (joinN n m) (.slice x0 q0 y0) (.slice x1 q1 y1) (.slice x2 q2 y2)) := by
        refine ⟨?_, ?_, ?_⟩
        · have := r0_6.out.tch tA (fun j hj e => by have := n0.out j hj; have := s3.out; omega)
          simpa [joinN, strs] using this
        · have := r1_6.out.tch tA (fun j hj e => by have := n1.out j hj; have := s3.out; omega)
          simpa [joinN, strs] using this
        · have := r2_6.out.tch tA (fun j hj e => by have := n2.out j hj; have := s3.out; omega)
          simpa [joinN, nums] using this
      have BA : Hid (Below w.heap.size w XA) := BW3.out.trans ((B6.out.mono BW3.out.size).trans (tA.below (Nat.le_trans BW3.out.size B6.out.size) (fun j e => by omega)))
      clear YA tA hXA
      go_wp2_with fail
      refine bodyPost_ret (v := nod lf (.slice x0 q0 y0) (.slice x1 q1 y1) (.slice x2 q2 y2)) (results_atN (p := 4) (ty := 26) rfl _ _ _ (w.heap.size + 2) _ rfl LA.out) rfl ?_
      exact ⟨⟨_, _, _, rfl, NA.out, fun j hj => Nat.le_trans BW3.out.size (n0.out j hj), fun j hj => Nat.le_trans BW3.out.size (n1.out j hj), fun j hj => Nat.le_trans BW3.out.size (n2.out j hj)⟩, BA.out⟩
  · rintro o K hd ho hg hK
    refine wp_build2I (.tmp 20) (.tmp 22) ho (.slice a3 L3 c3) (.slice d3 M3 f3) rfl rfl rfl rfl ?_
    rw [hd]
    obtain ⟨g2, hg2⟩ : ∃ g, X0.heap.size = g := ⟨_, rfl⟩
    obtain ⟨X1, hX1⟩ : ∃ X, X0.alloc (.cells #[.slice a3 L3 c3, .slice d3 M3 f3] 23) = X := ⟨_, rfl⟩
    have bl : Below X0.heap.size X0 X1 := by rw [← hX1]; exact below_alloc _ _
    have e2_1 : Hid (X1.cell? ⟨g2, 0, none⟩ = some (.slice a3 L3 c3) ∧ X1.cell? ⟨g2, 1, none⟩ = some (.slice d3 M3 f3)) := by rw [← hX1, ← hg2]; exact two_new _ _ _ _
    have B1 : Hid (Below W3.heap.size W3 X1) := B0.out.trans (bl.mono B0.out.size)
    have S1 : Hid (Nb X1 26 w.heap.size lf (.slice a1 L1 c1) (.slice a2 L2 c2) (.slice a3 L3 c3) ∧ Nb X1 26 (w.heap.size + 1) mf (.slice d1 M1 f1) (.slice d2 M2 f2) (.slice d3 M3 f3) ∧ Nb X1 26 (w.heap.size + 2) false (.slice none 0 0) (.slice none 0 0) (.slice none 0 0)) := ⟨S0.out.1.below bl, S0.out.2.1.below bl, S0.out.2.2.below bl⟩
    rw [hX1, hg2]
    refine hK _ _ (fun _ => S1.out) ?_
    clear ho hd hg hK bl hX1 hg2 S0 B0
    simp only [Act.put, List.setIfInBounds_toArray, List.set_cons_zero, List.set_cons_succ]
    refine readyW2 6 12 (some 11) (.buildSlice 84 2 #[(0, .tmp 8), (1, .tmp 10)]) (some 17) (.buildSlice 84 2 #[(0, .tmp 14), (1, .tmp 16)]) rfl rfl (by kernel_rfl) ?_ ?_
    · rintro o K hd ho hg hK
      refine wp_build2S (.tmp 8) (.tmp 10) ho (.slice a1 L1 c1) (.slice d1 M1 f1) rfl rfl rfl rfl ?_
      rw [hd]
      obtain ⟨g0, hg0⟩ : ∃ g, X1.heap.size = g := ⟨_, rfl⟩
      obtain ⟨X2, hX2⟩ : ∃ X, X1.alloc (.cells #[.slice a1 L1 c1, .slice d1 M1 f1] 22) = X := ⟨_, rfl⟩
      have bl : Below X1.heap.size X1 X2 := by rw [← hX2]; exact below_alloc _ _
      have e0_2 : Hid (X2.cell? ⟨g0, 0, none⟩ = some (.slice a1 L1 c1) ∧ X2.cell? ⟨g0, 1, none⟩ = some (.slice d1 M1 f1)) := by rw [← hX2, ← hg0]; exact two_new _ _ _ _
      have B2 : Hid (Below W3.heap.size W3 X2) := B1.out.trans (bl.mono B1.out.size)
      have e2_2 : Hid (X2.cell? ⟨g2, 0, none⟩ = some (.slice a3 L3 c3) ∧ X2.cell? ⟨g2, 1, none⟩ = some (.slice d3 M3 f3)) := cells_below e2_1.out bl
      have S2 : Hid (Nb X2 26 w.heap.size lf (.slice a1 L1 c1) (.slice a2 L2 c2) (.slice a3 L3 c3) ∧ Nb X2 26 (w.heap.size + 1) mf (.slice d1 M1 f1) (.slice d2 M2 f2) (.slice d3 M3 f3) ∧ Nb X2 26 (w.heap.size + 2) false (.slice none 0 0) (.slice none 0 0) (.slice none 0 0)) := ⟨S1.out.1.below bl, S1.out.2.1.below bl, S1.out.2.2.below bl⟩
      rw [hX2, hg0]
      refine hK _ _ (fun _ => S2.out) ?_
      clear ho hd hg hK bl hX2 hg0 S1 B1 e2_1
      simp only [Act.put, List.setIfInBounds_toArray, List.set_cons_zero, List.set_cons_succ]
      refine readyW2 7 12 (some 12) (.call { callee := .value (.func 42), args := #[.tmp 11], argTypes := #[84] }) (some 17) (.buildSlice 84 2 #[(0, .tmp 14), (1, .tmp 16)]) rfl rfl (by kernel_rfl) ?_ ?_
      · rintro o K hd ho hg hK
        refine step_call (enters_of Try.func42 (by kernel_rfl) rfl) ho (vs := #[.slice (some ⟨g0, 0, none⟩) 2 2]) (by kernel_rfl) (HC1.out _ _ B2.out e0_2.out) ?_
        rintro e X3 ⟨⟨v0, rfl, ro, ng⟩, bl⟩
        refine ⟨_, rfl, ?_⟩
        rw [hd]
        have r0_3 : Hid (RdV X3 v0 (strs n.ks ++ strs m.ks)) := ro.rd
        have n0 : Hid (∀ q, v0.ownBlock = some q → W3.heap.size ≤ q) := fun q hq => Nat.le_trans B2.out.size (ng q hq)
        have B3 : Hid (Below W3.heap.size W3 X3) := B2.out.trans (bl.mono B2.out.size)
        have e2_3 : Hid (X3.cell? ⟨g2, 0, none⟩ = some (.slice a3 L3 c3) ∧ X3.cell? ⟨g2, 1, none⟩ = some (.slice d3 M3 f3)) := cells_below e2_2.out bl
        have S3 : Hid (Nb X3 26 w.heap.size lf (.slice a1 L1 c1) (.slice a2 L2 c2) (.slice a3 L3 c3) ∧ Nb X3 26 (w.heap.size + 1) mf (.slice d1 M1 f1) (.slice d2 M2 f2) (.slice d3 M3 f3) ∧ Nb X3 26 (w.heap.size + 2) false (.slice none 0 0) (.slice none 0 0) (.slice none 0 0)) := ⟨S2.out.1.below bl, S2.out.2.1.below bl, S2.out.2.2.below bl⟩
        refine hK _ _ (fun _ => S3.out) ?_
        clear ho hd hg hK bl ro ng S2 B2 e0_2 e2_2
        simp only [Act.put, List.setIfInBounds_toArray, List.set_cons_zero, List.set_cons_succ]
        refine readyW 12 (some 17) (.buildSlice 84 2 #[(0, .tmp 14), (1, .tmp 16)]) rfl (by kernel_rfl) ?_
        rintro o K hd ho hg hK
        refine wp_build2S (.tmp 14) (.tmp 16) ho (.slice a2 L2 c2) (.slice d2 M2 f2) rfl rfl rfl rfl ?_
        rw [hd]
        obtain ⟨g1, hg1⟩ : ∃ g, X3.heap.size = g := ⟨_, rfl⟩
        obtain ⟨X4, hX4⟩ : ∃ X, X3.alloc (.cells #[.slice a2 L2 c2, .slice d2 M2 f2] 22) = X := ⟨_, rfl⟩
        have bl : Below X3.heap.size X3 X4 := by rw [← hX4]; exact below_alloc _ _
        have e1_4 : Hid (X4.cell? ⟨g1, 0, none⟩ = some (.slice a2 L2 c2) ∧ X4.cell? ⟨g1, 1, none⟩ = some (.slice d2 M2 f2)) := by rw [← hX4, ← hg1]; exact two_new _ _ _ _
        have B4 : Hid (Below W3.heap.size W3 X4) := B3.out.trans (bl.mono B3.out.size)
        have r0_4 : Hid (RdV X4 v0 (strs n.ks ++ strs m.ks)) := r0_3.out.below bl
        have e2_4 : Hid (X4.cell? ⟨g2, 0, none⟩ = some (.slice a3 L3 c3) ∧ X4.cell? ⟨g2, 1, none⟩ = some (.slice d3 M3 f3)) := cells_below e2_3.out bl
        have S4 : Hid (Nb X4 26 w.heap.size lf (.slice a1 L1 c1) (.slice a2 L2 c2) (.slice a3 L3 c3) ∧ Nb X4 26 (w.heap.size + 1) mf (.slice d1 M1 f1) (.slice d2 M2 f2) (.slice d3 M3 f3) ∧ Nb X4 26 (w.heap.size + 2) false (.slice none 0 0) (.slice none 0 0) (.slice none 0 0)) := ⟨S3.out.1.below bl, S3.out.2.1.below bl, S3.out.2.2.below bl⟩
        rw [hX4, hg1]
        refine hK _ _ (fun _ => S4.out) ?_
        clear ho hd hg hK bl hX4 hg1 S3 B3 e2_3 r0_3
        simp only [Act.put, List.setIfInBounds_toArray, List.set_cons_zero, List.set_cons_succ]
        refine readyW 13 (some 18) (.call { callee := .value (.func 42), args := #[.tmp 17], argTypes := #[84] }) rfl (by kernel_rfl) ?_
        rintro o K hd ho hg hK
        refine step_call (enters_of Try.func42 (by kernel_rfl) rfl) ho (vs := #[.slice (some ⟨g1, 0, none⟩) 2 2]) (by kernel_rfl) (HC2.out _ _ B4.out e1_4.out) ?_
        rintro e X5 ⟨⟨v1, rfl, ro, ng⟩, bl⟩
        refine ⟨_, rfl, ?_⟩
        rw [hd]
        have r1_5 : Hid (RdV X5 v1 (strs n.vs ++ strs m.vs)) := ro.rd
        have n1 : Hid (∀ q, v1.ownBlock = some q → W3.heap.size ≤ q) := fun q hq => Nat.le_trans B4.out.size (ng q hq)
        have B5 : Hid (Below W3.heap.size W3 X5) := B4.out.trans (bl.mono B4.out.size)
        have r0_5 : Hid (RdV X5 v0 (strs n.ks ++ strs m.ks)) := r0_4.out.below bl
        have e2_5 : Hid (X5.cell? ⟨g2, 0, none⟩ = some (.slice a3 L3 c3) ∧ X5.cell? ⟨g2, 1, none⟩ = some (.slice d3 M3 f3)) := cells_below e2_4.out bl
        have S5 : Hid (Nb X5 26 w.heap.size lf (.slice a1 L1 c1) (.slice a2 L2 c2) (.slice a3 L3 c3) ∧ Nb X5 26 (w.heap.size + 1) mf (.slice d1 M1 f1) (.slice d2 M2 f2) (.slice d3 M3 f3) ∧ Nb X5 26 (w.heap.size + 2) false (.slice none 0 0) (.slice none 0 0) (.slice none 0 0)) := ⟨S4.out.1.below bl, S4.out.2.1.below bl, S4.out.2.2.below bl⟩
        refine hK _ _ (fun _ => S5.out) ?_
        clear ho hd hg hK bl ro ng S4 B4 e1_4 e2_4 r0_4
        simp only [Act.put, List.setIfInBounds_toArray, List.set_cons_zero, List.set_cons_succ]
        refine readyW 19 (some 24) (.call { callee := .value (.func 43), args := #[.tmp 23], argTypes := #[86] }) rfl (by kernel_rfl) ?_
        rintro o K hd ho hg hK
        refine step_call (enters_of Try.func43 (by kernel_rfl) rfl) ho (vs := #[.slice (some ⟨g2, 0, none⟩) 2 2]) (by kernel_rfl) (HC3.out _ _ B5.out e2_5.out) ?_
        rintro e X6 ⟨⟨v2, rfl, ro, ng⟩, bl⟩
        refine ⟨_, rfl, ?_⟩
        rw [hd]
        have r2_6 : Hid (RdV X6 v2 (nums n.kd ++ nums m.kd)) := ro.rd
        have n2 : Hid (∀ q, v2.ownBlock = some q → W3.heap.size ≤ q) := fun q hq => Nat.le_trans B5.out.size (ng q hq)
        have B6 : Hid (Below W3.heap.size W3 X6) := B5.out.trans (bl.mono B5.out.size)
        have r0_6 : Hid (RdV X6 v0 (strs n.ks ++ strs m.ks)) := r0_5.out.below bl
        have r1_6 : Hid (RdV X6 v1 (strs n.vs ++ strs m.vs)) := r1_5.out.below bl
        have S6 : Hid (Nb X6 26 w.heap.size lf (.slice a1 L1 c1) (.slice a2 L2 c2) (.slice a3 L3 c3) ∧ Nb X6 26 (w.heap.size + 1) mf (.slice d1 M1 f1) (.slice d2 M2 f2) (.slice d3 M3 f3) ∧ Nb X6 26 (w.heap.size + 2) false (.slice none 0 0) (.slice none 0 0) (.slice none 0 0)) := ⟨S5.out.1.below bl, S5.out.2.1.below bl, S5.out.2.2.below bl⟩
        refine hK _ _ (fun _ => S6.out) ?_
        clear ho hd hg hK bl ro ng S5 B5 e2_5 r0_5 r1_5
        simp only [Act.put, List.setIfInBounds_toArray, List.set_cons_zero, List.set_cons_succ]
        obtain ⟨x0, y0, e0⟩ := r0_6.out.long
        obtain ⟨x1, y1, e1⟩ := r1_6.out.long
        obtain ⟨x2, y2, e2⟩ := r2_6.out.long
        obtain ⟨q0, hq0⟩ : ∃ q, Hid ((strs n.ks ++ strs m.ks).length = q) := ⟨_, rfl⟩
        obtain ⟨q1, hq1⟩ : ∃ q, Hid ((strs n.vs ++ strs m.vs).length = q) := ⟨_, rfl⟩
        obtain ⟨q2, hq2⟩ : ∃ q, Hid ((nums n.kd ++ nums m.kd).length = q) := ⟨_, rfl⟩
        rw [hq0.out] at e0
        rw [hq1.out] at e1
        rw [hq2.out] at e2
        subst e0 e1 e2
        refine readyW 20 (some 25) (.build 26 #[(0, .tmp 6), (1, .tmp 12), (2, .tmp 18), (3, .tmp 24)]) rfl (by kernel_rfl) ?_
        rintro o K hd ho hg hK
        refine stepY (v := nod lf (.slice x0 q0 y0) (.slice x1 q1 y1) (.slice x2 q2 y2)) ?hy ?_
        case hy => unfold nod; go_simp
        rw [hd]
        refine hK _ _ (fun _ => S6.out) ?_
        clear ho hd hg hK
        simp only [Act.put, List.setIfInBounds_toArray, List.set_cons_zero, List.set_cons_succ]
        refine readyW 21 none (.store 26 (.tmp 4) (.tmp 25)) rfl (by kernel_rfl) ?_
        rintro o K hd ho hg hK
        refine wp_storeN ho rfl rfl S6.out.2.2 ?_
        rw [hd]
        refine hK _ _ (fun e => absurd rfl e) ?_
        refine doneW (by kernel_rfl) ?_ _
        clear ho hd hg hK
        simp only [Act.put]
        have YA := S6.out.2.2.all lf (.slice x0 q0 y0) (.slice x1 q1 y1) (.slice x2 q2 y2)
        have tA := tch_all X6 (w.heap.size + 2) (.bool lf) (.slice x0 q0 y0) (.slice x1 q1 y1) (.slice x2 q2 y2)
        obtain ⟨XA, hXA⟩ : ∃ XA, Hid ((((X6.setCell ⟨w.heap.size + 2, 0, none⟩ (.bool lf)).setCell ⟨w.heap.size + 2, 1, none⟩ (.slice x0 q0 y0)).setCell ⟨w.heap.size + 2, 2, none⟩ (.slice x1 q1 y1)).setCell ⟨w.heap.size + 2, 3, none⟩ (.slice x2 q2 y2) = XA) := ⟨_, rfl⟩
        rw [hXA.out] at YA tA ⊢
        have LA := hideN YA.load
        have NA : Hid (Nn XA (joinN n m) (.slice x0 q0 y0) (.slice x1 q1 y1) (.slice x2 q2 y2)) := by
          refine ⟨?_, ?_, ?_⟩
          · have := r0_6.out.tch tA (fun j hj e => by have := n0.out j hj; have := s3.out; omega)
            simpa [joinN, strs] using this
          · have := r1_6.out.tch tA (fun j hj e => by have := n1.out j hj; have := s3.out; omega)
            simpa [joinN, strs] using this
          · have := r2_6.out.tch tA (fun j hj e => by have := n2.out j hj; have := s3.out; omega)
            simpa [joinN, nums] using this
        have BA : Hid (Below w.heap.size w XA) := BW3.out.trans ((B6.out.mono BW3.out.size).trans (tA.below (Nat.le_trans BW3.out.size B6.out.size) (fun j e => by omega)))
        clear YA tA hXA
        go_wp2_with fail
        refine bodyPost_ret (v := nod lf (.slice x0 q0 y0) (.slice x1 q1 y1) (.slice x2 q2 y2)) (results_atN (p := 4) (ty := 26) rfl _ _ _ (w.heap.size + 2) _ rfl LA.out) rfl ?_
        exact ⟨⟨_, _, _, rfl, NA.out, fun j hj => Nat.le_trans BW3.out.size (n0.out j hj), fun j hj => Nat.le_trans BW3.out.size (n1.out j hj), fun j hj => Nat.le_trans BW3.out.size (n2.out j hj)⟩, BA.out⟩
      · rintro o K hd ho hg hK
        refine wp_build2S (.tmp 14) (.tmp 16) ho (.slice a2 L2 c2) (.slice d2 M2 f2) rfl rfl rfl rfl ?_
        rw [hd]
        obtain ⟨g1, hg1⟩ : ∃ g, X2.heap.size = g := ⟨_, rfl⟩
        obtain ⟨X3, hX3⟩ : ∃ X, X2.alloc (.cells #[.slice a2 L2 c2, .slice d2 M2 f2] 22) = X := ⟨_, rfl⟩
        have bl : Below X2.heap.size X2 X3 := by rw [← hX3]; exact below_alloc _ _
        have e1_3 : Hid (X3.cell? ⟨g1, 0, none⟩ = some (.slice a2 L2 c2) ∧ X3.cell? ⟨g1, 1, none⟩ = some (.slice d2 M2 f2)) := by rw [← hX3, ← hg1]; exact two_new _ _ _ _
        have B3 : Hid (Below W3.heap.size W3 X3) := B2.out.trans (bl.mono B2.out.size)
        have e0_3 : Hid (X3.cell? ⟨g0, 0, none⟩ = some (.slice a1 L1 c1) ∧ X3.cell? ⟨g0, 1, none⟩ = some (.slice d1 M1 f1)) := cells_below e0_2.out bl
        have e2_3 : Hid (X3.cell? ⟨g2, 0, none⟩ = some (.slice a3 L3 c3) ∧ X3.cell? ⟨g2, 1, none⟩ = some (.slice d3 M3 f3)) := cells_below e2_2.out bl
        have S3 : Hid (Nb X3 26 w.heap.size lf (.slice a1 L1 c1) (.slice a2 L2 c2) (.slice a3 L3 c3) ∧ Nb X3 26 (w.heap.size + 1) mf (.slice d1 M1 f1) (.slice d2 M2 f2) (.slice d3 M3 f3) ∧ Nb X3 26 (w.heap.size + 2) false (.slice none 0 0) (.slice none 0 0) (.slice none 0 0)) := ⟨S2.out.1.below bl, S2.out.2.1.below bl, S2.out.2.2.below bl⟩
        rw [hX3, hg1]
        refine hK _ _ (fun _ => S3.out) ?_
        clear ho hd hg hK bl hX3 hg1 S2 B2 e0_2 e2_2
        simp only [Act.put, List.setIfInBounds_toArray, List.set_cons_zero, List.set_cons_succ]
        refine readyW 7 (some 12) (.call { callee := .value (.func 42), args := #[.tmp 11], argTypes := #[84] }) rfl (by kernel_rfl) ?_
        rintro o K hd ho hg hK
        refine step_call (enters_of Try.func42 (by kernel_rfl) rfl) ho (vs := #[.slice (some ⟨g0, 0, none⟩) 2 2]) (by kernel_rfl) (HC1.out _ _ B3.out e0_3.out) ?_
        rintro e X4 ⟨⟨v0, rfl, ro, ng⟩, bl⟩
        refine ⟨_, rfl, ?_⟩
        rw [hd]
        have r0_4 : Hid (RdV X4 v0 (strs n.ks ++ strs m.ks)) := ro.rd
        have n0 : Hid (∀ q, v0.ownBlock = some q → W3.heap.size ≤ q) := fun q hq => Nat.le_trans B3.out.size (ng q hq)
        have B4 : Hid (Below W3.heap.size W3 X4) := B3.out.trans (bl.mono B3.out.size)
        have e1_4 : Hid (X4.cell? ⟨g1, 0, none⟩ = some (.slice a2 L2 c2) ∧ X4.cell? ⟨g1, 1, none⟩ = some (.slice d2 M2 f2)) := cells_below e1_3.out bl
        have e2_4 : Hid (X4.cell? ⟨g2, 0, none⟩ = some (.slice a3 L3 c3) ∧ X4.cell? ⟨g2, 1, none⟩ = some (.slice d3 M3 f3)) := cells_below e2_3.out bl
        have S4 : Hid (Nb X4 26 w.heap.size lf (.slice a1 L1 c1) (.slice a2 L2 c2) (.slice a3 L3 c3) ∧ Nb X4 26 (w.heap.size + 1) mf (.slice d1 M1 f1) (.slice d2 M2 f2) (.slice d3 M3 f3) ∧ Nb X4 26 (w.heap.size + 2) false (.slice none 0 0) (.slice none 0 0) (.slice none 0 0)) := ⟨S3.out.1.below bl, S3.out.2.1.below bl, S3.out.2.2.below bl⟩
        refine hK _ _ (fun _ => S4.out) ?_
        clear ho hd hg hK bl ro ng S3 B3 e0_3 e1_3 e2_3
        simp only [Act.put, List.setIfInBounds_toArray, List.set_cons_zero, List.set_cons_succ]
        refine readyW 13 (some 18) (.call { callee := .value (.func 42), args := #[.tmp 17], argTypes := #[84] }) rfl (by kernel_rfl) ?_
        rintro o K hd ho hg hK
        refine step_call (enters_of Try.func42 (by kernel_rfl) rfl) ho (vs := #[.slice (some ⟨g1, 0, none⟩) 2 2]) (by kernel_rfl) (HC2.out _ _ B4.out e1_4.out) ?_
        rintro e X5 ⟨⟨v1, rfl, ro, ng⟩, bl⟩
        refine ⟨_, rfl, ?_⟩
        rw [hd]
        have r1_5 : Hid (RdV X5 v1 (strs n.vs ++ strs m.vs)) := ro.rd
        have n1 : Hid (∀ q, v1.ownBlock = some q → W3.heap.size ≤ q) := fun q hq => Nat.le_trans B4.out.size (ng q hq)
        have B5 : Hid (Below W3.heap.size W3 X5) := B4.out.trans (bl.mono B4.out.size)
        have r0_5 : Hid (RdV X5 v0 (strs n.ks ++ strs m.ks)) := r0_4.out.below bl
        have e2_5 : Hid (X5.cell? ⟨g2, 0, none⟩ = some (.slice a3 L3 c3) ∧ X5.cell? ⟨g2, 1, none⟩ = some (.slice d3 M3 f3)) := cells_below e2_4.out bl
        have S5 : Hid (Nb X5 26 w.heap.size lf (.slice a1 L1 c1) (.slice a2 L2 c2) (.slice a3 L3 c3) ∧ Nb X5 26 (w.heap.size + 1) mf (.slice d1 M1 f1) (.slice d2 M2 f2) (.slice d3 M3 f3) ∧ Nb X5 26 (w.heap.size + 2) false (.slice none 0 0) (.slice none 0 0) (.slice none 0 0)) := ⟨S4.out.1.below bl, S4.out.2.1.below bl, S4.out.2.2.below bl⟩
        refine hK _ _ (fun _ => S5.out) ?_
        clear ho hd hg hK bl ro ng S4 B4 e1_4 e2_4 r0_4
        simp only [Act.put, List.setIfInBounds_toArray, List.set_cons_zero, List.set_cons_succ]
        refine readyW 19 (some 24) (.call { callee := .value (.func 43), args := #[.tmp 23], argTypes := #[86] }) rfl (by kernel_rfl) ?_
        rintro o K hd ho hg hK
        refine step_call (enters_of Try.func43 (by kernel_rfl) rfl) ho (vs := #[.slice (some ⟨g2, 0, none⟩) 2 2]) (by kernel_rfl) (HC3.out _ _ B5.out e2_5.out) ?_
        rintro e X6 ⟨⟨v2, rfl, ro, ng⟩, bl⟩
        refine ⟨_, rfl, ?_⟩
        rw [hd]
        have r2_6 : Hid (RdV X6 v2 (nums n.kd ++ nums m.kd)) := ro.rd
        have n2 : Hid (∀ q, v2.ownBlock = some q → W3.heap.size ≤ q) := fun q hq => Nat.le_trans B5.out.size (ng q hq)
        have B6 : Hid (Below W3.heap.size W3 X6) := B5.out.trans (bl.mono B5.out.size)
        have r0_6 : Hid (RdV X6 v0 (strs n.ks ++ strs m.ks)) := r0_5.out.below bl
        have r1_6 : Hid (RdV X6 v1 (strs n.vs ++ strs m.vs)) := r1_5.out.below bl
        have S6 : Hid (Nb X6 26 w.heap.size lf (.slice a1 L1 c1) (.slice a2 L2 c2) (.slice a3 L3 c3) ∧ Nb X6 26 (w.heap.size + 1) mf (.slice d1 M1 f1) (.slice d2 M2 f2) (.slice d3 M3 f3) ∧ Nb X6 26 (w.heap.size + 2) false (.slice none 0 0) (.slice none 0 0) (.slice none 0 0)) := ⟨S5.out.1.below bl, S5.out.2.1.below bl, S5.out.2.2.below bl⟩
        refine hK _ _ (fun _ => S6.out) ?_
        clear ho hd hg hK bl ro ng S5 B5 e2_5 r0_5 r1_5
        simp only [Act.put, List.setIfInBounds_toArray, List.set_cons_zero, List.set_cons_succ]
        obtain ⟨x0, y0, e0⟩ := r0_6.out.long
        obtain ⟨x1, y1, e1⟩ := r1_6.out.long
        obtain ⟨x2, y2, e2⟩ := r2_6.out.long
        obtain ⟨q0, hq0⟩ : ∃ q, Hid ((strs n.ks ++ strs m.ks).length = q) := ⟨_, rfl⟩
        obtain ⟨q1, hq1⟩ : ∃ q, Hid ((strs n.vs ++ strs m.vs).length = q) := ⟨_, rfl⟩
        obtain ⟨q2, hq2⟩ : ∃ q, Hid ((nums n.kd ++ nums m.kd).length = q) := ⟨_, rfl⟩
        rw [hq0.out] at e0
        rw [hq1.out] at e1
        rw [hq2.out] at e2
        subst e0 e1 e2
        refine readyW 20 (some 25) (.build 26 #[(0, .tmp 6), (1, .tmp 12), (2, .tmp 18), (3, .tmp 24)]) rfl (by kernel_rfl) ?_
        rintro o K hd ho hg hK
        refine stepY (v := nod lf (.slice x0 q0 y0) (.slice x1 q1 y1) (.slice x2 q2 y2)) ?hy ?_
        case hy => unfold nod; go_simp
        rw [hd]
        refine hK _ _ (fun _ => S6.out) ?_
        clear ho hd hg hK
        simp only [Act.put, List.setIfInBounds_toArray, List.set_cons_zero, List.set_cons_succ]
        refine readyW 21 none (.store 26 (.tmp 4) (.tmp 25)) rfl (by kernel_rfl) ?_
        rintro o K hd ho hg hK
        refine wp_storeN ho rfl rfl S6.out.2.2 ?_
        rw [hd]
        refine hK _ _ (fun e => absurd rfl e) ?_
        refine doneW (by kernel_rfl) ?_ _
        clear ho hd hg hK
        simp only [Act.put]
        have YA := S6.out.2.2.all lf (.slice x0 q0 y0) (.slice x1 q1 y1) (.slice x2 q2 y2)
        have tA := tch_all X6 (w.heap.size + 2) (.bool lf) (.slice x0 q0 y0) (.slice x1 q1 y1) (.slice x2 q2 y2)
        obtain ⟨XA, hXA⟩ : ∃ XA, Hid ((((X6.setCell ⟨w.heap.size + 2, 0, none⟩ (.bool lf)).setCell ⟨w.heap.size + 2, 1, none⟩ (.slice x0 q0 y0)).setCell ⟨w.heap.size + 2, 2, none⟩ (.slice x1 q1 y1)).setCell ⟨w.heap.size + 2, 3, none⟩ (.slice x2 q2 y2) = XA) := ⟨_, rfl⟩
        rw [hXA.out] at YA tA ⊢
        have LA := hideN YA.load
        have NA : Hid (Nn XA (joinN n m) (.slice x0 q0 y0) (.slice x1 q1 y1) (.slice x2 q2 y2)) := by
          refine ⟨?_, ?_, ?_⟩
          · have := r0_6.out.tch tA (fun j hj e => by have := n0.out j hj; have := s3.out; omega)
            simpa [joinN, strs] using this
          · have := r1_6.out.tch tA (fun j hj e => by have := n1.out j hj; have := s3.out; omega)
            simpa [joinN, strs] using this
          · have := r2_6.out.tch tA (fun j hj e => by have := n2.out j hj; have := s3.out; omega)
            simpa [joinN, nums] using this
        have BA : Hid (Below w.heap.size w XA) := BW3.out.trans ((B6.out.mono BW3.out.size).trans (tA.below (Nat.le_trans BW3.out.size B6.out.size) (fun j e => by omega)))
        clear YA tA hXA
        go_wp2_with fail
        refine bodyPost_ret (v := nod lf (.slice x0 q0 y0) (.slice x1 q1 y1) (.slice x2 q2 y2)) (results_atN (p := 4) (ty := 26) rfl _ _ _ (w.heap.size + 2) _ rfl LA.out) rfl ?_
        exact ⟨⟨_, _, _, rfl, NA.out, fun j hj => Nat.le_trans BW3.out.size (n0.out j hj), fun j hj => Nat.le_trans BW3.out.size (n1.out j hj), fun j hj => Nat.le_trans BW3.out.size (n2.out j hj)⟩, BA.out⟩
    · rintro o K hd ho hg hK
      refine wp_build2S (.tmp 14) (.tmp 16) ho (.slice a2 L2 c2) (.slice d2 M2 f2) rfl rfl rfl rfl ?_
      rw [hd]
      obtain ⟨g1, hg1⟩ : ∃ g, X1.heap.size = g := ⟨_, rfl⟩
      obtain ⟨X2, hX2⟩ : ∃ X, X1.alloc (.cells #[.slice a2 L2 c2, .slice d2 M2 f2] 22) = X := ⟨_, rfl⟩
      have bl : Below X1.heap.size X1 X2 := by rw [← hX2]; exact below_alloc _ _
      have e1_2 : Hid (X2.cell? ⟨g1, 0, none⟩ = some (.slice a2 L2 c2) ∧ X2.cell? ⟨g1, 1, none⟩ = some (.slice d2 M2 f2)) := by rw [← hX2, ← hg1]; exact two_new _ _ _ _
      have B2 : Hid (Below W3.heap.size W3 X2) := B1.out.trans (bl.mono B1.out.size)
      have e2_2 : Hid (X2.cell? ⟨g2, 0, none⟩ = some (.slice a3 L3 c3) ∧ X2.cell? ⟨g2, 1, none⟩ = some (.slice d3 M3 f3)) := cells_below e2_1.out bl
      have S2 : Hid (Nb X2 26 w.heap.size lf (.slice a1 L1 c1) (.slice a2 L2 c2) (.slice a3 L3 c3) ∧ Nb X2 26 (w.heap.size + 1) mf (.slice d1 M1 f1) (.slice d2 M2 f2) (.slice d3 M3 f3) ∧ Nb X2 26 (w.heap.size + 2) false (.slice none 0 0) (.slice none 0 0) (.slice none 0 0)) := ⟨S1.out.1.below bl, S1.out.2.1.below bl, S1.out.2.2.below bl⟩
      rw [hX2, hg1]
      refine hK _ _ (fun _ => S2.out) ?_
      clear ho hd hg hK bl hX2 hg1 S1 B1 e2_1
      simp only [Act.put, List.setIfInBounds_toArray, List.set_cons_zero, List.set_cons_succ]
      refine readyW 6 (some 11) (.buildSlice 84 2 #[(0, .tmp 8), (1, .tmp 10)]) rfl (by kernel_rfl) ?_
      rintro o K hd ho hg hK
      refine wp_build2S (.tmp 8) (.tmp 10) ho (.slice a1 L1 c1) (.slice d1 M1 f1) rfl rfl rfl rfl ?_
      rw [hd]
      obtain ⟨g0, hg0⟩ : ∃ g, X2.heap.size = g := ⟨_, rfl⟩
      obtain ⟨X3, hX3⟩ : ∃ X, X2.alloc (.cells #[.slice a1 L1 c1, .slice d1 M1 f1] 22) = X := ⟨_, rfl⟩
      have bl : Below X2.heap.size X2 X3 := by rw [← hX3]; exact below_alloc _ _
      have e0_3 : Hid (X3.cell? ⟨g0, 0, none⟩ = some (.slice a1 L1 c1) ∧ X3.cell? ⟨g0, 1, none⟩ = some (.slice d1 M1 f1)) := by rw [← hX3, ← hg0]; exact two_new _ _ _ _
      have B3 : Hid (Below W3.heap.size W3 X3) := B2.out.trans (bl.mono B2.out.size)
      have e1_3 : Hid (X3.cell? ⟨g1, 0, none⟩ = some (.slice a2 L2 c2) ∧ X3.cell? ⟨g1, 1, none⟩ = some (.slice d2 M2 f2)) := cells_below e1_2.out bl
      have e2_3 : Hid (X3.cell? ⟨g2, 0, none⟩ = some (.slice a3 L3 c3) ∧ X3.cell? ⟨g2, 1, none⟩ = some (.slice d3 M3 f3)) := cells_below e2_2.out bl
      have S3 : Hid (Nb X3 26 w.heap.size lf (.slice a1 L1 c1) (.slice a2 L2 c2) (.slice a3 L3 c3) ∧ Nb X3 26 (w.heap.size + 1) mf (.slice d1 M1 f1) (.slice d2 M2 f2) (.slice d3 M3 f3) ∧ Nb X3 26 (w.heap.size + 2) false (.slice none 0 0) (.slice none 0 0) (.slice none 0 0)) := ⟨S2.out.1.below bl, S2.out.2.1.below bl, S2.out.2.2.below bl⟩
      rw [hX3, hg0]
      refine hK _ _ (fun _ => S3.out) ?_
      clear ho hd hg hK bl hX3 hg0 S2 B2 e1_2 e2_2
      simp only [Act.put, List.setIfInBounds_toArray, List.set_cons_zero, List.set_cons_succ]
      refine readyW 7 (some 12) (.call { callee := .value (.func 42), args := #[.tmp 11], argTypes := #[84] }) rfl (by kernel_rfl) ?_
      rintro o K hd ho hg hK
      refine step_call (enters_of Try.func42 (by kernel_rfl) rfl) ho (vs := #[.slice (some ⟨g0, 0, none⟩) 2 2]) (by kernel_rfl) (HC1.out _ _ B3.out e0_3.out) ?_
      rintro e X4 ⟨⟨v0, rfl, ro, ng⟩, bl⟩
      refine ⟨_, rfl, ?_⟩
      rw [hd]
      have r0_4 : Hid (RdV X4 v0 (strs n.ks ++ strs m.ks)) := ro.rd
      have n0 : Hid (∀ q, v0.ownBlock = some q → W3.heap.size ≤ q) := fun q hq => Nat.le_trans B3.out.size (ng q hq)
      have B4 : Hid (Below W3.heap.size W3 X4) := B3.out.trans (bl.mono B3.out.size)
      have e1_4 : Hid (X4.cell? ⟨g1, 0, none⟩ = some (.slice a2 L2 c2) ∧ X4.cell? ⟨g1, 1, none⟩ = some (.slice d2 M2 f2)) := cells_below e1_3.out bl
      have e2_4 : Hid (X4.cell? ⟨g2, 0, none⟩ = some (.slice a3 L3 c3) ∧ X4.cell? ⟨g2, 1, none⟩ = some (.slice d3 M3 f3)) := cells_below e2_3.out bl
      have S4 : Hid (Nb X4 26 w.heap.size lf (.slice a1 L1 c1) (.slice a2 L2 c2) (.slice a3 L3 c3) ∧ Nb X4 26 (w.heap.size + 1) mf (.slice d1 M1 f1) (.slice d2 M2 f2) (.slice d3 M3 f3) ∧ Nb X4 26 (w.heap.size + 2) false (.slice none 0 0) (.slice none 0 0) (.slice none 0 0)) := ⟨S3.out.1.below bl, S3.out.2.1.below bl, S3.out.2.2.below bl⟩
      refine hK _ _ (fun _ => S4.out) ?_
      clear ho hd hg hK bl ro ng S3 B3 e0_3 e1_3 e2_3
      simp only [Act.put, List.setIfInBounds_toArray, List.set_cons_zero, List.set_cons_succ]
      refine readyW 13 (some 18) (.call { callee := .value (.func 42), args := #[.tmp 17], argTypes := #[84] }) rfl (by kernel_rfl) ?_
      rintro o K hd ho hg hK
      refine step_call (enters_of Try.func42 (by kernel_rfl) rfl) ho (vs := #[.slice (some ⟨g1, 0, none⟩) 2 2]) (by kernel_rfl) (HC2.out _ _ B4.out e1_4.out) ?_
      rintro e X5 ⟨⟨v1, rfl, ro, ng⟩, bl⟩
      refine ⟨_, rfl, ?_⟩
      rw [hd]
      have r1_5 : Hid (RdV X5 v1 (strs n.vs ++ strs m.vs)) := ro.rd
      have n1 : Hid (∀ q, v1.ownBlock = some q → W3.heap.size ≤ q) := fun q hq => Nat.le_trans B4.out.size (ng q hq)
      have B5 : Hid (Below W3.heap.size W3 X5) := B4.out.trans (bl.mono B4.out.size)
      have r0_5 : Hid (RdV X5 v0 (strs n.ks ++ strs m.ks)) := r0_4.out.below bl
      have e2_5 : Hid (X5.cell? ⟨g2, 0, none⟩ = some (.slice a3 L3 c3) ∧ X5.cell? ⟨g2, 1, none⟩ = some (.slice d3 M3 f3)) := cells_below e2_4.out bl
      have S5 : Hid (Nb X5 26 w.heap.size lf (.slice a1 L1 c1) (.slice a2 L2 c2) (.slice a3 L3 c3) ∧ Nb X5 26 (w.heap.size + 1) mf (.slice d1 M1 f1) (.slice d2 M2 f2) (.slice d3 M3 f3) ∧ Nb X5 26 (w.heap.size + 2) false (.slice none 0 0) (.slice none 0 0) (.slice none 0 0)) := ⟨S4.out.1.below bl, S4.out.2.1.below bl, S4.out.2.2.below bl⟩
      refine hK _ _ (fun _ => S5.out) ?_
      clear ho hd hg hK bl ro ng S4 B4 e1_4 e2_4 r0_4
      simp only [Act.put, List.setIfInBounds_toArray, List.set_cons_zero, List.set_cons_succ]
      refine readyW 19 (some 24) (.call { callee := .value (.func 43), args := #[.tmp 23], argTypes := #[86] }) rfl (by kernel_rfl) ?_
      rintro o K hd ho hg hK
      refine step_call (enters_of Try.func43 (by kernel_rfl) rfl) ho (vs := #[.slice (some ⟨g2, 0, none⟩) 2 2]) (by kernel_rfl) (HC3.out _ _ B5.out e2_5.out) ?_
      rintro e X6 ⟨⟨v2, rfl, ro, ng⟩, bl⟩
      refine ⟨_, rfl, ?_⟩
      rw [hd]
      have r2_6 : Hid (RdV X6 v2 (nums n.kd ++ nums m.kd)) := ro.rd
      have n2 : Hid (∀ q, v2.ownBlock = some q → W3.heap.size ≤ q) := fun q hq => Nat.le_trans B5.out.size (ng q hq)
      have B6 : Hid (Below W3.heap.size W3 X6) := B5.out.trans (bl.mono B5.out.size)
      have r0_6 : Hid (RdV X6 v0 (strs n.ks ++ strs m.ks)) := r0_5.out.below bl
      have r1_6 : Hid (RdV X6 v1 (strs n.vs ++ strs m.vs)) := r1_5.out.below bl
      have S6 : Hid (Nb X6 26 w.heap.size lf (.slice a1 L1 c1) (.slice a2 L2 c2) (.slice a3 L3 c3) ∧ Nb X6 26 (w.heap.size + 1) mf (.slice d1 M1 f1) (.slice d2 M2 f2) (.slice d3 M3 f3) ∧ Nb X6 26 (w.heap.size + 2) false (.slice none 0 0) (.slice none 0 0) (.slice none 0 0)) := ⟨S5.out.1.below bl, S5.out.2.1.below bl, S5.out.2.2.below bl⟩
      refine hK _ _ (fun _ => S6.out) ?_
      clear ho hd hg hK bl ro ng S5 B5 e2_5 r0_5 r1_5
      simp only [Act.put, List.setIfInBounds_toArray, List.set_cons_zero, List.set_cons_succ]
      obtain ⟨x0, y0, e0⟩ := r0_6.out.long
      obtain ⟨x1, y1, e1⟩ := r1_6.out.long
      obtain ⟨x2, y2, e2⟩ := r2_6.out.long
      obtain ⟨q0, hq0⟩ : ∃ q, Hid ((strs n.ks ++ strs m.ks).length = q) := ⟨_, rfl⟩
      obtain ⟨q1, hq1⟩ : ∃ q, Hid ((strs n.vs ++ strs m.vs).length = q) := ⟨_, rfl⟩
      obtain ⟨q2, hq2⟩ : ∃ q, Hid ((nums n.kd ++ nums m.kd).length = q) := ⟨_, rfl⟩
      rw [hq0.out] at e0
      rw [hq1.out] at e1
      rw [hq2.out] at e2
      subst e0 e1 e2
      refine readyW 20 (some 25) (.build 26 #[(0, .tmp 6), (1, .tmp 12), (2, .tmp 18), (3, .tmp 24)]) rfl (by kernel_rfl) ?_
      rintro o K hd ho hg hK
      refine stepY (v := nod lf (.slice x0 q0 y0) (.slice x1 q1 y1) (.slice x2 q2 y2)) ?hy ?_
      case hy => unfold nod; go_simp
      rw [hd]
      refine hK _ _ (fun _ => S6.out) ?_
      clear ho hd hg hK
      simp only [Act.put, List.setIfInBounds_toArray, List.set_cons_zero, List.set_cons_succ]
      refine readyW 21 none (.store 26 (.tmp 4) (.tmp 25)) rfl (by kernel_rfl) ?_
      rintro o K hd ho hg hK
      refine wp_storeN ho rfl rfl S6.out.2.2 ?_
      rw [hd]
      refine hK _ _ (fun e => absurd rfl e) ?_
      refine doneW (by kernel_rfl) ?_ _
      clear ho hd hg hK
      simp only [Act.put]
      have YA := S6.out.2.2.all lf (.slice x0 q0 y0) (.slice x1 q1 y1) (.slice x2 q2 y2)
      have tA := tch_all X6 (w.heap.size + 2) (.bool lf) (.slice x0 q0 y0) (.slice x1 q1 y1) (.slice x2 q2 y2)
      obtain ⟨XA, hXA⟩ : ∃ XA, Hid ((((X6.setCell ⟨w.heap.size + 2, 0, none⟩ (.bool lf)).setCell ⟨w.heap.size + 2, 1, none⟩ (.slice x0 q0 y0)).setCell ⟨w.heap.size + 2, 2, none⟩ (.slice x1 q1 y1)).setCell ⟨w.heap.size + 2, 3, none⟩ (.slice x2 q2 y2) = XA) := ⟨_, rfl⟩
      rw [hXA.out] at YA tA ⊢
      have LA := hideN YA.load
      have NA : Hid (Nn XA (joinN n m) (.slice x0 q0 y0) (.slice x1 q1 y1) (.slice x2 q2 y2)) := by
        refine ⟨?_, ?_, ?_⟩
        · have := r0_6.out.tch tA (fun j hj e => by have := n0.out j hj; have := s3.out; omega)
          simpa [joinN, strs] using this
        · have := r1_6.out.tch tA (fun j hj e => by have := n1.out j hj; have := s3.out; omega)
          simpa [joinN, strs] using this
        · have := r2_6.out.tch tA (fun j hj e => by have := n2.out j hj; have := s3.out; omega)
          simpa [joinN, nums] using this
      have BA : Hid (Below w.heap.size w XA) := BW3.out.trans ((B6.out.mono BW3.out.size).trans (tA.below (Nat.le_trans BW3.out.size B6.out.size) (fun j e => by omega)))
      clear YA tA hXA
      go_wp2_with fail
      refine bodyPost_ret (v := nod lf (.slice x0 q0 y0) (.slice x1 q1 y1) (.slice x2 q2 y2)) (results_atN (p := 4) (ty := 26) rfl _ _ _ (w.heap.size + 2) _ rfl LA.out) rfl ?_
      exact ⟨⟨_, _, _, rfl, NA.out, fun j hj => Nat.le_trans BW3.out.size (n0.out j hj), fun j hj => Nat.le_trans BW3.out.size (n1.out j hj), fun j hj => Nat.le_trans BW3.out.size (n2.out j hj)⟩, BA.out⟩

end Go.Proofs.Ytbpaeecclikeiaa
