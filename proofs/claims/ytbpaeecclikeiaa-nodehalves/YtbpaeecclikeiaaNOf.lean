/-
  The law's own 'of': a node of the program's, in memory of its own.
-/
import Derived.Test.YtbpaeecclikeiaaNVar
namespace Go.Proofs.Ytbpaeecclikeiaa
open Go.RowKit Pl
set_option linter.unusedVariables false
set_option linter.unusedSimpArgs false
set_option maxRecDepth 100000

set_option maxHeartbeats 1000000 in
theorem of_any (n : Nd) (u1 u2 u3 : Value) (w : World) (h : Nn w n u1 u2 u3) (hs : Sm n) :
    Calls Try.prog 9 #[nod n.lf u1 u2 u3] w fun e w' => (∃ v1 v2 v3, e = .returned (nod n.lf v1 v2 v3) ∧ Nn w' n v1 v2 v3) ∧ Below w.heap.size w w' := by
  obtain ⟨a1, c1, a2, c2, a3, c3, rfl, rfl, rfl, _, _, _, _⟩ := h.out
  have H := hideN h
  have HS := hideN hs
  obtain ⟨L1, hL1⟩ : ∃ L, Hid (n.ks.length = L) := ⟨_, rfl⟩
  obtain ⟨L2, hL2⟩ : ∃ L, Hid (n.vs.length = L) := ⟨_, rfl⟩
  obtain ⟨L3, hL3⟩ : ∃ L, Hid (n.kd.length = L) := ⟨_, rfl⟩
  rw [hL1.out, hL2.out, hL3.out] at H
  rw [hL1.out, hL2.out, hL3.out]
  obtain ⟨lf, hlf⟩ : ∃ lf, Hid (n.lf = lf) := ⟨_, rfl⟩
  rw [hlf.out]
  unfold nod
  obtain ⟨W1, hW1⟩ : ∃ W1, w.alloc (.cells #[.bool lf, .slice a1 L1 c1, .slice a2 L2 c2, .slice a3 L3 c3] 25) = W1 := ⟨_, rfl⟩
  obtain ⟨W2, hW2⟩ : ∃ W2, W1.alloc (.cells #[.bool false, .slice none 0 0, .slice none 0 0, .slice none 0 0] 26) = W2 := ⟨_, rfl⟩
  have z1 : W1.heap.size = w.heap.size + 1 := by rw [← hW1]; simp
  have z2 : W2.heap.size = w.heap.size + 2 := by rw [← hW2]; simp [z1]
  have b1 : Below w.heap.size w W1 := by rw [← hW1]; exact below_alloc _ _
  have b2 : Below W1.heap.size W1 W2 := by rw [← hW2]; exact below_alloc _ _
  have b3 : Below W2.heap.size W2 (W2.alloc (.cells #[.bool lf, .slice none 0 0, .slice none 0 0, .slice none 0 0] 26)) := below_alloc _ _
  have B3 : Hid (Below w.heap.size w (W2.alloc (.cells #[.bool lf, .slice none 0 0, .slice none 0 0, .slice none 0 0] 26))) := (b1.trans (b2.mono b1.size)).trans (b3.mono (by omega))
  have X1 : Nb W1 25 w.heap.size lf (.slice a1 L1 c1) (.slice a2 L2 c2) (.slice a3 L3 c3) := by rw [← hW1]; exact nb_new _ _ _ _ _ _
  have Y2 : Nb W2 26 W1.heap.size false (.slice none 0 0) (.slice none 0 0) (.slice none 0 0) := by rw [← hW2]; exact nb_new _ _ _ _ _ _
  have Z3 : Hid (Nb (W2.alloc (.cells #[.bool lf, .slice none 0 0, .slice none 0 0, .slice none 0 0] 26)) 26 W2.heap.size lf (.slice none 0 0) (.slice none 0 0) (.slice none 0 0)) := nb_new _ _ _ _ _ _
  have X2 : Nb W2 25 w.heap.size lf (.slice a1 L1 c1) (.slice a2 L2 c2) (.slice a3 L3 c3) := X1.below b2
  have X3 : Hid (Nb (W2.alloc (.cells #[.bool lf, .slice none 0 0, .slice none 0 0, .slice none 0 0] 26)) 25 w.heap.size lf (.slice a1 L1 c1) (.slice a2 L2 c2) (.slice a3 L3 c3)) := X2.below b3
  have Y3 : Hid (Nb (W2.alloc (.cells #[.bool lf, .slice none 0 0, .slice none 0 0, .slice none 0 0] 26)) 26 W1.heap.size false (.slice none 0 0) (.slice none 0 0) (.slice none 0 0)) := Y2.below b3
  have R3 : Hid (Nn (W2.alloc (.cells #[.bool lf, .slice none 0 0, .slice none 0 0, .slice none 0 0] 26)) n (.slice a1 L1 c1) (.slice a2 L2 c2) (.slice a3 L3 c3)) := H.out.below B3.out
  have p0 : W2.cell? ⟨w.heap.size, 0, none⟩ = some (.bool lf) := X2.c0
  have p1 : (W2.alloc (.cells #[.bool lf, .slice none 0 0, .slice none 0 0, .slice none 0 0] 26)).cell? ⟨w.heap.size, 1, none⟩ = some (.slice a1 L1 c1) := X3.out.c1
  have ZZ : Hid (W1.heap.size = w.heap.size + 1 ∧ W2.heap.size = w.heap.size + 2) := ⟨z1, z2⟩
  have HA1 : Hid (([] : List Value).length + (strs n.ks).length ≤ 9223372036854775807 ∧ (([] : List Value).length + (strs n.ks).length) * 16 ≤ 140737488355328) := by show _ ∧ _; rw [strs_len]; have := HS.out.kl; simp; omega
  have HA2 : Hid (([] : List Value).length + (strs n.vs).length ≤ 9223372036854775807 ∧ (([] : List Value).length + (strs n.vs).length) * 16 ≤ 140737488355328) := by show _ ∧ _; rw [strs_len]; have := HS.out.vl; simp; omega
  have HA3 : Hid (([] : List Value).length + (nums n.kd).length ≤ 9223372036854775807 ∧ (([] : List Value).length + (nums n.kd).length) * 8 ≤ 140737488355328) := by show _ ∧ _; rw [nums_len]; have := HS.out.dl; simp; omega
  clear h hs b1 b2 b3 X1 X2 Y2 z2 z1
  go_enter Try.func9, Try.ntmps9
  go_wp2_with (first | (refine wpList_store_newD _ rfl 26 (.tmp 3) (.tmp 6) rfl _ #[.bool lf, .slice none 0 0, .slice none 0 0, .slice none 0 0] ?h1 ?h2 inf_nod rfl rfl ?_; (case h1 => rfl); (case h2 => rfl); skip) | (at_builtin; refine wpList_manyV _ rfl (.tmp 8) (.tmp 10) 22 rfl 9 _ 16 elemS _ [] rfl (ownsV_nil _ _) _ (strs n.ks) rfl R3.out.k (strs_one _) HA1.out.1 HA1.out.2 ?_))
  intro v1 w4 o4 g4
  try rw [List.nil_append] at o4
  have gb := g4.below
  have X4 : Hid (Nb w4 25 w.heap.size lf (.slice a1 L1 c1) (.slice a2 L2 c2) (.slice a3 L3 c3)) := X3.out.below gb.1
  have Y4 : Hid (Nb w4 26 W1.heap.size false (.slice none 0 0) (.slice none 0 0) (.slice none 0 0)) := Y3.out.below gb.1
  have Z4 : Nb w4 26 W2.heap.size lf (.slice none 0 0) (.slice none 0 0) (.slice none 0 0) := Z3.out.below gb.1
  have B4 : Below w.heap.size w w4 := B3.out.trans (gb.1.mono B3.out.size)
  have R4 : Nn w4 n (.slice a1 L1 c1) (.slice a2 L2 c2) (.slice a3 L3 c3) := R3.out.below gb.1
  obtain ⟨d1, f1, e1⟩ := o4.rd.long
  subst e1
  obtain ⟨K1, hK1⟩ : ∃ k, Hid ((strs n.ks).length = k) := ⟨_, rfl⟩
  have O4 := hideN o4
  rw [hK1.out] at O4
  obtain ⟨W5, hW5⟩ : ∃ W5, w4.setCell ⟨W2.heap.size, 1, none⟩ (.slice d1 K1 f1) = W5 := ⟨_, rfl⟩
  have t5 : Tch (fun j => j = W2.heap.size) w4 W5 := by rw [← hW5]; exact tch_at _ _ _ _
  have q1 := Z4.c1
  have r1 := Z4.fz 1
  have hne : w.heap.size ≠ W2.heap.size ∧ W1.heap.size ≠ W2.heap.size := by have := ZZ.out; omega
  have X5 : Hid (Nb W5 25 w.heap.size lf (.slice a1 L1 c1) (.slice a2 L2 c2) (.slice a3 L3 c3)) := X4.out.tch t5 hne.1
  have Y5 : Hid (Nb W5 26 W1.heap.size false (.slice none 0 0) (.slice none 0 0) (.slice none 0 0)) := Y4.out.tch t5 hne.2
  have Z5 : Hid (Nb W5 26 W2.heap.size lf (.slice d1 K1 f1) (.slice none 0 0) (.slice none 0 0)) := by rw [← hW5]; exact Z4.s1 _
  have O5 : Hid (OwnsV 9 W5 (.slice d1 K1 f1) (strs n.ks)) := O4.out.tch t5 (fun j hj e => O4.out.ne Z4 (by decide) (by rw [hj, e]))
  have B5 : Hid (Below w.heap.size w W5) := B4.trans (t5.below B4.size (fun j e => by have := ZZ.out; omega))
  have R5 : Hid (Nn W5 n (.slice a1 L1 c1) (.slice a2 L2 c2) (.slice a3 L3 c3)) := H.out.below B5.out
  have p2 := X5.out.c2
  have p3 := Z5.out.c2
  rw [hK1.out]
  clear o4 g4 gb X4 Y4 Z4 B4 R4 O4 t5 hne X3 Y3 Z3 B3 R3 p0 p1 hW1 hW2
  go_wp2_with (at_builtin; refine wpList_manyV _ rfl (.tmp 14) (.tmp 16) 22 rfl 9 _ 16 elemS _ [] rfl (ownsV_nil _ _) _ (strs n.vs) rfl R5.out.v (strs_one _) HA2.out.1 HA2.out.2 ?_)
  clear q1 r1 hW5
  intro v2 w6 o6 g6
  try rw [List.nil_append] at o6
  have gb := g6.below
  have X6 : Nb w6 25 w.heap.size lf (.slice a1 L1 c1) (.slice a2 L2 c2) (.slice a3 L3 c3) := X5.out.below gb.1
  have Y6 : Nb w6 26 W1.heap.size false (.slice none 0 0) (.slice none 0 0) (.slice none 0 0) := Y5.out.below gb.1
  have Z6 : Nb w6 26 W2.heap.size lf (.slice d1 K1 f1) (.slice none 0 0) (.slice none 0 0) := Z5.out.below gb.1
  have B6 : Below w.heap.size w w6 := B5.out.trans (gb.1.mono B5.out.size)
  have P6 : OwnsV 9 w6 (.slice d1 K1 f1) (strs n.ks) := O5.out.below gb.1
  obtain ⟨d2, f2, e2⟩ := o6.rd.long
  subst e2
  obtain ⟨K2, hK2⟩ : ∃ k, Hid ((strs n.vs).length = k) := ⟨_, rfl⟩
  have O6 := hideN o6
  rw [hK2.out] at O6
  obtain ⟨W7, hW7⟩ : ∃ W7, w6.setCell ⟨W2.heap.size, 2, none⟩ (.slice d2 K2 f2) = W7 := ⟨_, rfl⟩
  have t7 : Tch (fun j => j = W2.heap.size) w6 W7 := by rw [← hW7]; exact tch_at _ _ _ _
  have q1 := Z6.c2
  have r1 := Z6.fz 2
  have hne : w.heap.size ≠ W2.heap.size ∧ W1.heap.size ≠ W2.heap.size := by have := ZZ.out; omega
  have X7 : Hid (Nb W7 25 w.heap.size lf (.slice a1 L1 c1) (.slice a2 L2 c2) (.slice a3 L3 c3)) := X6.tch t7 hne.1
  have Y7 : Hid (Nb W7 26 W1.heap.size false (.slice none 0 0) (.slice none 0 0) (.slice none 0 0)) := Y6.tch t7 hne.2
  have Z7 : Hid (Nb W7 26 W2.heap.size lf (.slice d1 K1 f1) (.slice d2 K2 f2) (.slice none 0 0)) := by rw [← hW7]; exact Z6.s2 _
  have P7 : Hid (OwnsV 9 W7 (.slice d1 K1 f1) (strs n.ks)) := P6.tch t7 (fun j hj e => P6.ne Z6 (by decide) (by rw [hj, e]))
  have O7 : Hid (OwnsV 9 W7 (.slice d2 K2 f2) (strs n.vs)) := O6.out.tch t7 (fun j hj e => O6.out.ne Z6 (by decide) (by rw [hj, e]))
  have B7 : Hid (Below w.heap.size w W7) := B6.trans (t7.below B6.size (fun j e => by have := ZZ.out; omega))
  have R7 : Hid (Nn W7 n (.slice a1 L1 c1) (.slice a2 L2 c2) (.slice a3 L3 c3)) := H.out.below B7.out
  clear p2 p3
  have p2 := X7.out.c3
  have p3 := Z7.out.c3
  rw [hK2.out]
  clear o6 g6 gb X6 Y6 Z6 B6 P6 O6 t7 hne X5 Y5 Z5 B5 R5 O5
  go_wp2_with (at_builtin; refine wpList_manyV _ rfl (.tmp 20) (.tmp 22) 23 rfl 3 _ 8 elemI _ [] rfl (ownsV_nil _ _) _ (nums n.kd) rfl R7.out.d (nums_one _) HA3.out.1 HA3.out.2 ?_)
  clear q1 r1 hW7
  intro v3 w8 o8 g8
  try rw [List.nil_append] at o8
  have gb := g8.below
  have Y8 : Nb w8 26 W1.heap.size false (.slice none 0 0) (.slice none 0 0) (.slice none 0 0) := Y7.out.below gb.1
  have Z8 : Nb w8 26 W2.heap.size lf (.slice d1 K1 f1) (.slice d2 K2 f2) (.slice none 0 0) := Z7.out.below gb.1
  have B8 : Below w.heap.size w w8 := B7.out.trans (gb.1.mono B7.out.size)
  have P8 : OwnsV 9 w8 (.slice d1 K1 f1) (strs n.ks) := P7.out.below gb.1
  have Q8 : OwnsV 9 w8 (.slice d2 K2 f2) (strs n.vs) := O7.out.below gb.1
  obtain ⟨d3, f3, e3⟩ := o8.rd.long
  subst e3
  obtain ⟨K3, hK3⟩ : ∃ k, Hid ((nums n.kd).length = k) := ⟨_, rfl⟩
  have O8 := hideN o8
  rw [hK3.out] at O8
  obtain ⟨W9, hW9⟩ : ∃ W9, w8.setCell ⟨W2.heap.size, 3, none⟩ (.slice d3 K3 f3) = W9 := ⟨_, rfl⟩
  have t9 : Tch (fun j => j = W2.heap.size) w8 W9 := by rw [← hW9]; exact tch_at _ _ _ _
  have q1 := Z8.c3
  have r1 := Z8.fz 3
  have hne : w.heap.size ≠ W2.heap.size ∧ W1.heap.size ≠ W2.heap.size := by have := ZZ.out; omega
  have Y9 : Hid (Nb W9 26 W1.heap.size false (.slice none 0 0) (.slice none 0 0) (.slice none 0 0)) := Y8.tch t9 hne.2
  have Z9 : Hid (Nb W9 26 W2.heap.size lf (.slice d1 K1 f1) (.slice d2 K2 f2) (.slice d3 K3 f3)) := by rw [← hW9]; exact Z8.s3 _
  have P9 : OwnsV 9 W9 (.slice d1 K1 f1) (strs n.ks) := P8.tch t9 (fun j hj e => P8.ne Z8 (by decide) (by rw [hj, e]))
  have Q9 : OwnsV 9 W9 (.slice d2 K2 f2) (strs n.vs) := Q8.tch t9 (fun j hj e => Q8.ne Z8 (by decide) (by rw [hj, e]))
  have O9 : OwnsV 3 W9 (.slice d3 K3 f3) (nums n.kd) := O8.out.tch t9 (fun j hj e => O8.out.ne Z8 (by decide) (by rw [hj, e]))
  have B9 : Below w.heap.size w W9 := B8.trans (t9.below B8.size (fun j e => by have := ZZ.out; omega))
  obtain ⟨WA, hWA⟩ : ∃ WA, Hid ((((W9.setCell ⟨W1.heap.size, 0, none⟩ (.bool lf)).setCell ⟨W1.heap.size, 1, none⟩ (.slice d1 K1 f1)).setCell ⟨W1.heap.size, 2, none⟩ (.slice d2 K2 f2)).setCell ⟨W1.heap.size, 3, none⟩ (.slice d3 K3 f3) = WA) := ⟨_, rfl⟩
  have YA : Hid (Nb WA 26 W1.heap.size lf (.slice d1 K1 f1) (.slice d2 K2 f2) (.slice d3 K3 f3)) := by rw [← hWA.out]; exact Y9.out.all _ _ _ _
  have tA : Tch (fun j => j = W1.heap.size) W9 WA := by rw [← hWA.out]; exact tch_all _ _ _ _ _ _
  have NA : Hid (Nn WA n (.slice d1 K1 f1) (.slice d2 K2 f2) (.slice d3 K3 f3)) := ⟨P9.rd.tch tA (fun j hj e => P9.ne Y9.out (by decide) (by rw [hj, e])), Q9.rd.tch tA (fun j hj e => Q9.ne Y9.out (by decide) (by rw [hj, e])), O9.rd.tch tA (fun j hj e => O9.ne Y9.out (by decide) (by rw [hj, e]))⟩
  have BA : Hid (Below w.heap.size w WA) := B9.trans (tA.below B9.size (fun j e => by have := ZZ.out; omega))
  have s0 := Y9.out.c0
  have s1 := Y9.out.c1
  have s2 := Y9.out.c2
  have s3 := Y9.out.c3
  have f_0 := Y9.out.fz 0
  have f_1 := Y9.out.fz 1
  have f_2 := Y9.out.fz 2
  have f_3 := Y9.out.fz 3
  have y0 := Z9.out.c0
  have y1 := Z9.out.c1
  have y2 := Z9.out.c2
  have y3 := Z9.out.c3
  rw [hK3.out]
  clear o8 g8 gb Y8 Z8 B8 P8 Q8 O8 t9 hne X7 Y7 Z7 B7 R7 P7 O7 P9 Q9 O9 B9 tA p2 p3
  go_wp2_with fail
  rw [hWA.out]
  refine bodyPost_ret (v := nod lf (.slice d1 K1 f1) (.slice d2 K2 f2) (.slice d3 K3 f3)) (results_atN (p := 2) (ty := 26) rfl _ _ _ W1.heap.size _ rfl YA.out.load) rfl ?_
  exact ⟨⟨_, _, _, rfl, NA.out⟩, BA.out⟩
end Go.Proofs.Ytbpaeecclikeiaa
