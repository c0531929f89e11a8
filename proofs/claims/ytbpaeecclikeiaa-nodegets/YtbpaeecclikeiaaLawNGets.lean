/-
  NodeGets: any block is read as just the node that the document says, or as none: for every block the law answers true.
-/
import Derived.Test.YtbpaeecclikeiaaNRGet
namespace Go.Proofs.Ytbpaeecclikeiaa
open Go.RowKit Pl
set_option linter.unusedVariables false
set_option linter.unusedSimpArgs false
set_option maxRecDepth 100000

noncomputable def getP (kd : Int) (xs : List Int) : Nd × Int := match getN kd xs with
  | some n => (n, 0)
  | none => (⟨false, [], [], []⟩, 7)
theorem getR_openN {kd : Int} {xs : List Int} {w w' : World} {e : Ending} (h : GetR kd xs w e w') : ∃ (a1 a2 a3 : Option Addr) (l1 c1 l2 c2 l3 c3 : Nat), e = .returned (.tuple #[.agg #[.bool (getP kd xs).1.lf, .slice a1 l1 c1, .slice a2 l2 c2, .slice a3 l3 c3], .int .i64 (getP kd xs).2]) ∧ Nn w' (getP kd xs).1 (.slice a1 l1 c1) (.slice a2 l2 c2) (.slice a3 l3 c3) ∧ Below w.heap.size w w' := by
  obtain ⟨h, hb⟩ := h
  unfold getP
  rcases h with ⟨n, v1, v2, v3, hg, rfl, hn⟩ | ⟨hg, rfl⟩
  · rw [hg]
    obtain ⟨a1, c1, a2, c2, a3, c3, rfl, rfl, rfl, _⟩ := hn.out
    exact ⟨a1, a2, a3, _, c1, _, c2, _, c3, rfl, hn, hb⟩
  · rw [hg]
    exact ⟨none, none, none, 0, 0, 0, 0, 0, 0, rfl, ⟨rdV_nil _, rdV_nil _, rdV_nil _⟩, hb⟩

set_option maxHeartbeats 1000000 in
theorem nodeGets_walk (kd : Int) (v : Value) (xs : List Int) (w : World) (hr : Rd .u8 w v xs) (hb : By xs) (hl : xs.length ≤ 140737488351232) :
    Calls Try.prog 4 #[.agg #[.int .i64 kd, v]] w fun e w' => e = .returned (.bool true) ∧ Below w.heap.size w w' := by
  obtain ⟨a, cap, rfl, _⟩ := id hr
  have HR := hideN hr
  have HY := hideN hb
  have HL := hideN hl
  obtain ⟨L, hL⟩ : ∃ L, Hid (xs.length = L) := ⟨_, rfl⟩
  rw [hL.out] at HR ⊢
  obtain ⟨W1, hW1⟩ : ∃ W1, w.alloc (.cells #[.int .i64 kd, .slice a L cap] 34) = W1 := ⟨_, rfl⟩
  have b1 : Below w.heap.size w W1 := by rw [← hW1]; exact below_alloc _ _
  have B1 := hideN b1
  have K1 : Hid (Kb W1 w.heap.size kd (.slice a L cap)) := by rw [← hW1]; exact kb_new _ _ _
  have R1 := hideN (HR.out.below b1)
  have HG1 := hideN (get_any kd _ xs W1 R1.out HY.out)
  have HG2 : Hid (∀ W, Below W1.heap.size W1 W → Calls Try.prog 20 #[.agg #[.int .i64 kd, .slice a L cap]] W fun e w' => GetR kd xs W e w') := fun W hb => refGet_any kd _ xs W (R1.out.below hb) HY.out HL.out
  unfold blN at HG1
  obtain ⟨P, hP⟩ : ∃ p, Hid (getP kd xs = p) := ⟨_, rfl⟩
  have q0 := K1.out.c0
  have q1 := K1.out.c1
  clear hr hb hl b1
  go_enter Try.func4, Try.ntmps4
  go_wp2_with fail
  refine HG1.out.mono ?_
  intro e w2 h2
  obtain ⟨a1, a2, a3, l1, c1, l2, c2, l3, c3, rfl, n2, b2⟩ := getR_openN h2
  rw [hP.out] at n2
  rw [hP.out]
  obtain ⟨n, E⟩ := P
  simp only at n2 ⊢
  obtain ⟨lf, hlf⟩ : ∃ lf, Hid (n.lf = lf) := ⟨_, rfl⟩
  rw [hlf.out]
  obtain ⟨W3, hW3⟩ : ∃ W3, w2.alloc (.cells #[.bool lf, .slice a1 l1 c1, .slice a2 l2 c2, .slice a3 l3 c3] 26) = W3 := ⟨_, rfl⟩
  have b3 : Below w2.heap.size w2 W3 := by rw [← hW3]; exact below_alloc _ _
  have X3 : Hid (Nb W3 26 w2.heap.size lf (.slice a1 l1 c1) (.slice a2 l2 c2) (.slice a3 l3 c3)) := by rw [← hW3]; exact nb_new _ _ _ _ _ _
  have N3 := hideN (n2.below b3)
  have B3 : Hid (Below W1.heap.size W1 W3) := b2.trans (b3.mono b2.size)
  have K3 := K1.out.below B3.out
  clear h2 n2 b2 b3 q0 q1 HG1 hW1
  have q0 := K3.c0
  have q1 := K3.c1
  clear K3
  go_wp2_with fail
  refine (HG2.out W3 B3.out).mono ?_
  intro e w4 h4
  obtain ⟨d1, d2, d3, m1, f1, m2, f2, m3, f3, rfl, n4, b4⟩ := getR_openN h4
  rw [hP.out] at n4
  rw [hP.out]
  simp only at n4 ⊢
  rw [hlf.out]
  obtain ⟨W5, hW5⟩ : ∃ W5, w4.alloc (.cells #[.bool lf, .slice d1 m1 f1, .slice d2 m2 f2, .slice d3 m3 f3] 25) = W5 := ⟨_, rfl⟩
  have b5 : Below w4.heap.size w4 W5 := by rw [← hW5]; exact below_alloc _ _
  have b45 : Below W3.heap.size W3 W5 := b4.trans (b5.mono b4.size)
  have Y5 : Nb W5 25 w4.heap.size lf (.slice d1 m1 f1) (.slice d2 m2 f2) (.slice d3 m3 f3) := by rw [← hW5]; exact nb_new _ _ _ _ _ _
  have X5 := X3.out.below b45
  have HSA : Hid (Calls Try.prog 17 #[.agg #[.bool lf, .slice a1 l1 c1, .slice a2 l2 c2, .slice a3 l3 c3], .agg #[.bool lf, .slice d1 m1 f1, .slice d2 m2 f2, .slice d3 m3 f3]] W5 fun e w' => e = .returned (.bool true) ∧ Below W5.heap.size W5 w') := by
    have := sameN_any n n _ _ _ _ _ _ W5 (N3.out.below b45) (n4.below b5)
    rw [hlf.out, eqN_iff.2 rfl] at this
    exact this
  have B5 : Hid (Below w.heap.size w W5) := B1.out.trans ((B3.out.trans (b45.mono B3.out.size)).mono B1.out.size)
  clear q0 q1 h4 n4 b4 b5 b45 hW3
  have p0 := X5.c0
  have p1 := X5.c1
  have p2 := X5.c2
  have p3 := X5.c3
  have p4 := Y5.c0
  have p5 := Y5.c1
  have p6 := Y5.c2
  have p7 := Y5.c3
  clear X5 Y5
  go_wp2_with fail
  refine HSA.out.mono ?_
  rintro e w6 ⟨rfl, b6⟩
  have B6 : Hid (Below w.heap.size w w6) := B5.out.trans (b6.mono B5.out.size)
  have ee : (E == E) = true := by simp
  clear b6 p0 p1 p2 p3 p4 p5 p6 p7 hW5
  go_wp2_with fail
  refine (lives_anyN w6).mono ?_
  rintro e w7 ⟨rfl, b7⟩
  go_wp2_with fail
  go_ret
  exact ⟨rfl, B6.out.trans (b7.mono B6.out.size)⟩
end Go.Proofs.Ytbpaeecclikeiaa
