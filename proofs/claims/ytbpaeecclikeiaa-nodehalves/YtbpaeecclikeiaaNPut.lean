/-
  The program's Put.
-/
import Derived.Test.YtbpaeecclikeiaaNWr
import Derived.Test.YtbpaeecclikeiaaNBlk
namespace Go.Proofs.Ytbpaeecclikeiaa
open Go.RowKit Pl
set_option linter.unusedVariables false
set_option linter.unusedSimpArgs false
set_option maxRecDepth 100000

set_option maxHeartbeats 1000000 in
theorem put_ok (n : Nd) (u1 u2 u3 : Value) (w : World) (h : Nn w n u1 u2 u3) (hs : Sm n) (hm : mayN n = true) :
    Calls Try.prog 14 #[nod n.lf u1 u2 u3] w fun e w' => (∃ v, e = .returned (.tuple #[blN (kdN n.lf) v, .int .i64 0]) ∧ Rd .u8 w' v (encN n n.ks.length)) ∧ Below w.heap.size w w' := by
  obtain ⟨a1, c1, a2, c2, a3, c3, rfl, rfl, rfl, ⟨l1, l2, l3, l4, l5, l6⟩, _, _, _⟩ := h.out
  have H := hideN h
  have HS := hideN hs
  obtain ⟨L1, hL1⟩ : ∃ L, Hid (n.ks.length = L) := ⟨_, rfl⟩
  obtain ⟨L2, hL2⟩ : ∃ L, Hid (n.vs.length = L) := ⟨_, rfl⟩
  obtain ⟨L3, hL3⟩ : ∃ L, Hid (n.kd.length = L) := ⟨_, rfl⟩
  rw [hL1.out] at H l1 ⊢
  rw [hL2.out] at H l3 ⊢
  rw [hL3.out] at H l5 ⊢
  obtain ⟨lf, hlf⟩ : ∃ lf, Hid (n.lf = lf) := ⟨_, rfl⟩
  rw [hlf.out]
  unfold nod
  obtain ⟨W1, hW1⟩ : ∃ W1, w.alloc (.cells #[.bool lf, .slice a1 L1 c1, .slice a2 L2 c2, .slice a3 L3 c3] 26) = W1 := ⟨_, rfl⟩
  have B1 : Hid (Below w.heap.size w W1) := by rw [← hW1]; exact below_alloc _ _
  have V1 : Hid (Nb W1 26 w.heap.size lf (.slice a1 L1 c1) (.slice a2 L2 c2) (.slice a3 L3 c3)) := by rw [← hW1]; exact nb_new _ _ _ _ _ _
  have H1 : Hid (Nn W1 n (.slice a1 L1 c1) (.slice a2 L2 c2) (.slice a3 L3 c3)) := H.out.below B1.out
  obtain ⟨W2, hW2⟩ : ∃ W2, W1.alloc (.cells #[.int .i64 0, .slice none 0 0] 34) = W2 := ⟨_, rfl⟩
  have b2 : Below W1.heap.size W1 W2 := by rw [← hW2]; exact below_alloc _ _
  have V2 : Hid (Nb W2 26 w.heap.size lf (.slice a1 L1 c1) (.slice a2 L2 c2) (.slice a3 L3 c3)) := V1.out.below b2
  have K2 : Hid (Kb W2 W1.heap.size 0 (.slice none 0 0)) := by rw [← hW2]; exact kb_new _ _ _
  have B2 : Hid (Below w.heap.size w W2) := B1.out.trans (b2.mono B1.out.size)
  have H2 : Hid (Nn W2 n (.slice a1 L1 c1) (.slice a2 L2 c2) (.slice a3 L3 c3)) := H1.out.below b2
  have HW1 : Hid (w.heap.size < W1.heap.size) := V1.out.lt
  have HM1 : Hid (∀ W, Below W2.heap.size W2 W → Calls Try.prog 12 #[.agg #[.bool lf, .slice a1 L1 c1, .slice a2 L2 c2, .slice a3 L3 c3]] W fun e w' => e = .returned (.bool true) ∧ Below W.heap.size W w') := fun W hb => by
    have := may_any n _ _ _ W (H2.out.below hb) HS.out
    rw [hlf.out, hm] at this
    exact this
  have HR : Rl n := may_real (mayN_iff.1 hm) (by have := HS.out.kl; omega)
  have HC1 : Hid (∀ W, Below W2.heap.size W2 W → Calls Try.prog 32 #[.agg #[.bool lf, .slice a1 L1 c1, .slice a2 L2 c2, .slice a3 L3 c3]] W fun e w' => (∃ v, e = .returned v ∧ OwB W.heap.size w' v (encN n n.ks.length)) ∧ Below W.heap.size W w') := fun W hb => by
    have := written_any n _ _ _ W (H2.out.below hb) HS.out HR
    rw [hlf.out] at this
    exact this
  obtain ⟨T, hT⟩ : ∃ T, Hid (encN n n.ks.length = T) := ⟨_, rfl⟩
  rw [hT.out] at HC1
  rw [← hL1.out, hT.out]
  have p0 := V2.out.c0
  have p1 := V2.out.c1
  have p2 := V2.out.c2
  have p3 := V2.out.c3
  clear h hs H hm b2 HR
  rw [hL1.out]
  go_enter Try.func14, Try.ntmps14
  go_wp2_with fail
  refine (HM1.out W2 (Below.refl _ _)).mono ?_
  rintro e w3 ⟨rfl, b3⟩
  have V3 : Hid (Nb w3 26 w.heap.size lf (.slice a1 L1 c1) (.slice a2 L2 c2) (.slice a3 L3 c3)) := V2.out.below b3
  have B3 := hideN b3
  clear b3 p0 p1 p2 p3 hW1 hW2 HM1
  have p0 := V3.out.c0
  have p1 := V3.out.c1
  have p2 := V3.out.c2
  have p3 := V3.out.c3
  cases lf with
  | true =>
    go_wp2_with fail
    refine (HC1.out w3 B3.out).mono ?_
    rintro e w4 ⟨⟨v, rfl, o4⟩, b4⟩
    have B4 : Below W2.heap.size W2 w4 := B3.out.trans (b4.mono B3.out.size)
    have K4 : Kb w4 W1.heap.size 0 (.slice none 0 0) := K2.out.below B4
    obtain ⟨va, vc, e4⟩ := o4.long
    obtain ⟨vl, hvl⟩ : ∃ l, Hid (T.length = l) := ⟨_, rfl⟩
    rw [hvl.out] at e4
    subst e4
    obtain ⟨W5, hW5⟩ : ∃ W5, Hid ((w4.setCell ⟨W1.heap.size, 0, none⟩ (.int .i64 1)).setCell ⟨W1.heap.size, 1, none⟩ (.slice va vl vc) = W5) := ⟨_, rfl⟩
    have K5 : Hid (Kb W5 W1.heap.size 1 (.slice va vl vc)) := by rw [← hW5.out]; exact K4.put _ _
    have t5 : Tch (fun j => j = W1.heap.size) w4 W5 := by rw [← hW5.out]; exact tch_two _ _ _ _
    have R5 : Hid (Rd .u8 W5 (.slice va vl vc) T) := (o4.tch t5 (fun j hj e => o4.ne K4 (by decide) (by rw [hj, e]))).rd
    have B4' : Below w.heap.size w w4 := B2.out.trans (B4.mono B2.out.size)
    have B5 : Hid (Below w.heap.size w W5) := B4'.trans (t5.below B4'.size (fun j e => by have := HW1.out; omega))
    have s0 := K4.c0
    have s1 := K4.c1
    have g0 := K4.fz 0
    have g1 := K4.fz 1
    clear o4 b4 B4 K4 t5 B4' p0 p1 p2 p3 HC1
    go_wp2_with fail
    rw [hW5.out]
    refine bodyPost_ret (v := .tuple #[blN 1 (.slice va vl vc), .int .i64 0]) (results_twoN (p := 2) (ty := 34) rfl _ _ _ W1.heap.size _ _ rfl K5.out.load rfl) rfl ?_
    exact ⟨⟨_, rfl, R5.out⟩, B5.out⟩
  | false =>
    go_wp2_with fail
    refine (HC1.out w3 B3.out).mono ?_
    rintro e w4 ⟨⟨v, rfl, o4⟩, b4⟩
    have B4 : Below W2.heap.size W2 w4 := B3.out.trans (b4.mono B3.out.size)
    have K4 : Kb w4 W1.heap.size 0 (.slice none 0 0) := K2.out.below B4
    obtain ⟨va, vc, e4⟩ := o4.long
    obtain ⟨vl, hvl⟩ : ∃ l, Hid (T.length = l) := ⟨_, rfl⟩
    rw [hvl.out] at e4
    subst e4
    obtain ⟨W5, hW5⟩ : ∃ W5, Hid ((w4.setCell ⟨W1.heap.size, 0, none⟩ (.int .i64 2)).setCell ⟨W1.heap.size, 1, none⟩ (.slice va vl vc) = W5) := ⟨_, rfl⟩
    have K5 : Hid (Kb W5 W1.heap.size 2 (.slice va vl vc)) := by rw [← hW5.out]; exact K4.put _ _
    have t5 : Tch (fun j => j = W1.heap.size) w4 W5 := by rw [← hW5.out]; exact tch_two _ _ _ _
    have R5 : Hid (Rd .u8 W5 (.slice va vl vc) T) := (o4.tch t5 (fun j hj e => o4.ne K4 (by decide) (by rw [hj, e]))).rd
    have B4' : Below w.heap.size w w4 := B2.out.trans (B4.mono B2.out.size)
    have B5 : Hid (Below w.heap.size w W5) := B4'.trans (t5.below B4'.size (fun j e => by have := HW1.out; omega))
    have s0 := K4.c0
    have s1 := K4.c1
    have g0 := K4.fz 0
    have g1 := K4.fz 1
    clear o4 b4 B4 K4 t5 B4' p0 p1 p2 p3 HC1
    go_wp2_with fail
    rw [hW5.out]
    refine bodyPost_ret (v := .tuple #[blN 2 (.slice va vl vc), .int .i64 0]) (results_twoN (p := 2) (ty := 34) rfl _ _ _ W1.heap.size _ _ rfl K5.out.load rfl) rfl ?_
    exact ⟨⟨_, rfl, R5.out⟩, B5.out⟩

set_option maxHeartbeats 1000000 in
theorem put_bad (n : Nd) (u1 u2 u3 : Value) (w : World) (h : Nn w n u1 u2 u3) (hs : Sm n) (hm : mayN n = false) :
    Calls Try.prog 14 #[nod n.lf u1 u2 u3] w fun e w' => e = .returned (.tuple #[blN 0 (.slice none 0 0), .int .i64 1]) ∧ Below w.heap.size w w' := by
  obtain ⟨a1, c1, a2, c2, a3, c3, rfl, rfl, rfl, ⟨l1, l2, l3, l4, l5, l6⟩, _, _, _⟩ := h.out
  have H := hideN h
  have HS := hideN hs
  obtain ⟨L1, hL1⟩ : ∃ L, Hid (n.ks.length = L) := ⟨_, rfl⟩
  obtain ⟨L2, hL2⟩ : ∃ L, Hid (n.vs.length = L) := ⟨_, rfl⟩
  obtain ⟨L3, hL3⟩ : ∃ L, Hid (n.kd.length = L) := ⟨_, rfl⟩
  rw [hL1.out] at H l1 ⊢
  rw [hL2.out] at H l3 ⊢
  rw [hL3.out] at H l5 ⊢
  obtain ⟨lf, hlf⟩ : ∃ lf, Hid (n.lf = lf) := ⟨_, rfl⟩
  rw [hlf.out]
  unfold nod
  obtain ⟨W1, hW1⟩ : ∃ W1, w.alloc (.cells #[.bool lf, .slice a1 L1 c1, .slice a2 L2 c2, .slice a3 L3 c3] 26) = W1 := ⟨_, rfl⟩
  have B1 : Hid (Below w.heap.size w W1) := by rw [← hW1]; exact below_alloc _ _
  have V1 : Hid (Nb W1 26 w.heap.size lf (.slice a1 L1 c1) (.slice a2 L2 c2) (.slice a3 L3 c3)) := by rw [← hW1]; exact nb_new _ _ _ _ _ _
  have H1 : Hid (Nn W1 n (.slice a1 L1 c1) (.slice a2 L2 c2) (.slice a3 L3 c3)) := H.out.below B1.out
  obtain ⟨W2, hW2⟩ : ∃ W2, W1.alloc (.cells #[.int .i64 0, .slice none 0 0] 34) = W2 := ⟨_, rfl⟩
  have b2 : Below W1.heap.size W1 W2 := by rw [← hW2]; exact below_alloc _ _
  have V2 : Hid (Nb W2 26 w.heap.size lf (.slice a1 L1 c1) (.slice a2 L2 c2) (.slice a3 L3 c3)) := V1.out.below b2
  have K2 : Hid (Kb W2 W1.heap.size 0 (.slice none 0 0)) := by rw [← hW2]; exact kb_new _ _ _
  have B2 : Hid (Below w.heap.size w W2) := B1.out.trans (b2.mono B1.out.size)
  have H2 : Hid (Nn W2 n (.slice a1 L1 c1) (.slice a2 L2 c2) (.slice a3 L3 c3)) := H1.out.below b2
  have HW1 : Hid (w.heap.size < W1.heap.size) := V1.out.lt
  have HM1 : Hid (∀ W, Below W2.heap.size W2 W → Calls Try.prog 12 #[.agg #[.bool lf, .slice a1 L1 c1, .slice a2 L2 c2, .slice a3 L3 c3]] W fun e w' => e = .returned (.bool false) ∧ Below W.heap.size W w') := fun W hb => by
    have := may_any n _ _ _ W (H2.out.below hb) HS.out
    rw [hlf.out, hm] at this
    exact this
  have p0 := V2.out.c0
  have p1 := V2.out.c1
  have p2 := V2.out.c2
  have p3 := V2.out.c3
  clear h hs H hm b2
  go_enter Try.func14, Try.ntmps14
  go_wp2_with fail
  refine (HM1.out W2 (Below.refl _ _)).mono ?_
  rintro e w4 ⟨rfl, B4⟩
  have K4 : Kb w4 W1.heap.size 0 (.slice none 0 0) := K2.out.below B4
  obtain ⟨W5, hW5⟩ : ∃ W5, Hid ((w4.setCell ⟨W1.heap.size, 0, none⟩ (.int .i64 0)).setCell ⟨W1.heap.size, 1, none⟩ (.slice none 0 0) = W5) := ⟨_, rfl⟩
  have K5 : Hid (Kb W5 W1.heap.size 0 (.slice none 0 0)) := by rw [← hW5.out]; exact K4.put _ _
  have t5 : Tch (fun j => j = W1.heap.size) w4 W5 := by rw [← hW5.out]; exact tch_two _ _ _ _
  have B4' : Below w.heap.size w w4 := B2.out.trans (B4.mono B2.out.size)
  have B5 : Hid (Below w.heap.size w W5) := B4'.trans (t5.below B4'.size (fun j e => by have := HW1.out; omega))
  have s0 := K4.c0
  have s1 := K4.c1
  have g0 := K4.fz 0
  have g1 := K4.fz 1
  clear B4 K4 t5 B4' p0 p1 p2 p3 HM1 hW1 hW2
  go_wp2_with fail
  rw [hW5.out]
  refine bodyPost_ret (v := .tuple #[blN 0 (.slice none 0 0), .int .i64 1]) (results_twoN (p := 2) (ty := 34) rfl _ _ _ W1.heap.size _ _ rfl K5.out.load rfl) rfl ?_
  exact ⟨rfl, B5.out⟩
end Go.Proofs.Ytbpaeecclikeiaa
