/-
  How many keys go into the first of two: the program's middle.
-/
import Derived.Test.YtbpaeecclikeiaaNSz
namespace Go.Proofs.Ytbpaeecclikeiaa
open Go.RowKit Pl
set_option linter.unusedVariables false
set_option linter.unusedSimpArgs false
set_option maxRecDepth 100000

theorem tdiv2 (z : Int) : (0 ≤ z ∧ z.tdiv 2 = z / 2) ∨ (z < 0 ∧ z.tdiv 2 = -((-z) / 2)) := by
  by_cases h : 0 ≤ z
  · exact .inl ⟨h, Int.tdiv_eq_ediv_of_nonneg h⟩
  · refine .inr ⟨by omega, ?_⟩
    have : (-(-z)).tdiv 2 = -((-z).tdiv 2) := Int.neg_tdiv _ _
    rw [Int.neg_neg] at this
    rw [this, Int.tdiv_eq_ediv_of_nonneg (by omega)]
/-- Half of a node's size. -/
def hlfN (n : Nd) : Int := (W (szN n n.ks.length)).tdiv 2
/-- How many keys go into the first. -/
structure MidR (n : Nd) (m : Nat) : Prop where
  one : 1 ≤ m
  lt : m + 1 ≤ n.ks.length
  no : ∀ k, 1 ≤ k → k < m → W (szN n k) < hlfN n
  yes : m + 1 = n.ks.length ∨ hlfN n ≤ W (szN n m)
theorem MidR.same {n : Nd} {m m' : Nat} (h : MidR n m) (h' : MidR n m') : m = m' := by
  rcases Nat.lt_trichotomy m m' with c | c | c
  · have := h'.no m h.one c
    have := h'.lt
    rcases h.yes with e | e
    · omega
    · omega
  · exact c
  · have := h.no m' h'.one c
    have := h.lt
    rcases h'.yes with e | e
    · omega
    · omega

set_option maxHeartbeats 400000 in
theorem middle_any (n : Nd) (u1 u2 u3 : Value) (w : World) (h : Nn w n u1 u2 u3) (hs : Sm n) (h2 : 2 ≤ n.ks.length) :
    Calls Try.prog 38 #[nod n.lf u1 u2 u3] w fun e w' => (∃ m : Nat, e = .returned (.int .i64 (m : Int)) ∧ MidR n m) ∧ Below w.heap.size w w' := by
  obtain ⟨a1, c1, a2, c2, a3, c3, rfl, rfl, rfl, ⟨l1, l2, l3, l4, l5, l6⟩, _, _, _⟩ := h.out
  have H := hideN h
  have HS := hideN hs
  obtain ⟨L1, hL1⟩ : ∃ L, Hid (n.ks.length = L) := ⟨_, rfl⟩
  obtain ⟨L2, hL2⟩ : ∃ L, Hid (n.vs.length = L) := ⟨_, rfl⟩
  obtain ⟨L3, hL3⟩ : ∃ L, Hid (n.kd.length = L) := ⟨_, rfl⟩
  rw [hL1.out] at H l1 h2 ⊢
  rw [hL2.out] at H l3 ⊢
  rw [hL3.out] at H l5 ⊢
  obtain ⟨lf, hlf⟩ : ∃ lf, Hid (n.lf = lf) := ⟨_, rfl⟩
  rw [hlf.out]
  unfold nod
  obtain ⟨W1, hW1⟩ : ∃ W1, w.alloc (.cells #[.bool lf, .slice a1 L1 c1, .slice a2 L2 c2, .slice a3 L3 c3] 26) = W1 := ⟨_, rfl⟩
  have B1 : Hid (Below w.heap.size w W1) := by rw [← hW1]; exact below_alloc _ _
  have V1 : Hid (Nb W1 26 w.heap.size lf (.slice a1 L1 c1) (.slice a2 L2 c2) (.slice a3 L3 c3)) := by rw [← hW1]; exact nb_new _ _ _ _ _ _
  have H1 : Hid (Nn W1 n (.slice a1 L1 c1) (.slice a2 L2 c2) (.slice a3 L3 c3)) := H.out.below B1.out
  have HC : Hid (∀ (W : World) (k : Nat), Below W1.heap.size W1 W → k < L1 → Calls Try.prog 31 #[.agg #[.bool lf, .slice a1 L1 c1, .slice a2 L2 c2, .slice a3 L3 c3], .int .i64 (k : Int)] W fun e w' => e = .returned (.int .i64 (szA n k : Int)) ∧ Below W.heap.size W w') := fun W k hb hk => by
    have := sizeAt_any n _ _ _ k W (H1.out.below hb) HS.out (by rw [hL1.out]; exact hk)
    rw [hlf.out] at this
    exact this
  obtain ⟨z, hz⟩ : ∃ z : Int, Hid (W (szN n L1) = z) := ⟨_, rfl⟩
  have HZ : Hid (∀ (W : World), Below W1.heap.size W1 W → Calls Try.prog 13 #[.agg #[.bool lf, .slice a1 L1 c1, .slice a2 L2 c2, .slice a3 L3 c3]] W fun e w' => e = .returned (.int .i64 z) ∧ Below W.heap.size W w') := fun W hb => by
    have := size_any n _ _ _ W (H1.out.below hb) HS.out
    rw [hlf.out, hL1.out, hz.out] at this
    exact this
  have hzi : -9223372036854775808 ≤ z ∧ z ≤ 9223372036854775807 := by rw [← hz.out]; exact W_in _
  obtain ⟨y, hy⟩ : ∃ y : Int, Hid (z.tdiv 2 = y) := ⟨_, rfl⟩
  have hyi : IntKind.i64.wrap (z.tdiv 2) = y := by
    have := tdiv2 z
    rw [IntKind.wrap_i64, ← hy.out]
    omega
  have HY : Hid (hlfN n = y) := by show _ = _; unfold hlfN; rw [hL1.out, hz.out, hy.out]
  have hl1 : IntKind.i64.wrap ((L1 : Int) - 1) = ((L1 - 1 : Nat) : Int) := by rw [IntKind.wrap_i64]; omega
  obtain ⟨Q, hQ⟩ : ∃ Q, L1 - 1 = Q := ⟨_, rfl⟩
  rw [hQ] at hl1
  have hQL : Hid (Q + 1 = L1) := by show _ = _; omega
  have hQ1 : 1 ≤ Q := by omega
  have hQb : Q ≤ 9223372036854775806 := by omega
  have p0 := V1.out.c0
  have p1 := V1.out.c1
  have p2 := V1.out.c2
  have p3 := V1.out.c3
  clear h hs H h2 hQ
  go_enter Try.func38, Try.ntmps38
  go_wp2_with fail
  refine (HZ.out _ (Below.refl _ _)).mono ?_
  rintro e w0 ⟨rfl, b0⟩
  have B0 := hideN b0
  clear b0 p0 p1 p2 p3 hW1
  go_wp2_with fail
  go_loopw [5, 15] (fun s i wr => ∃ (k : Nat) (z : Int), k ≤ Q ∧ i = .int .i64 k ∧ s = .int .i64 z ∧ Hid (z = W (szN n k)) ∧ Hid (∀ j, 1 ≤ j → j ≤ k → W (szN n j) < y) ∧ Hid (Below W1.heap.size W1 wr)) (fun _ i _ => Q - (intOf i).toNat)
  case atStart => exact ⟨0, 1, Nat.zero_le _, rfl, rfl, by show (1 : Int) = W 1; rw [W_small (by omega)]; rfl, fun j h1 h2 => by omega, B0⟩
  case round =>
    clear B0
    obtain ⟨k, z', hk, rfl, rfl, hz', HN, BR⟩ := hrel
    by_cases hlt : k < Q
    · have V2 : Hid (Nb wr 26 w.heap.size lf (.slice a1 L1 c1) (.slice a2 L2 c2) (.slice a3 L3 c3)) := V1.out.below BR.out
      have p0 := V2.out.c0
      have p1 := V2.out.c1
      have p2 := V2.out.c2
      have p3 := V2.out.c3
      go_wp2_with fail
      refine (HC.out wr k BR.out (by have := hQL.out; omega)).mono ?_
      rintro e w2 ⟨rfl, b2⟩
      have B2 : Hid (Below W1.heap.size W1 w2) := BR.out.trans (b2.mono BR.out.size)
      obtain ⟨r, hr⟩ : ∃ r, Hid (szA n k = r) := ⟨_, rfl⟩
      rw [hr.out]
      obtain ⟨s, hs⟩ : ∃ s : Int, Hid (W (szN n (k + 1)) = s) := ⟨_, rfl⟩
      have hsw : IntKind.i64.wrap (z' + (r : Int)) = s := by rw [show IntKind.i64.wrap (z' + (r : Int)) = wrap64 (z' + (r : Int)) from (by first | rfl | simp | (rw [IntKind.wrap_i64]; unfold wrap64; omega)), hz'.out, W_add, ← hr.out]; exact hs.out
      clear b2 BR V2 p0 p1 p2 p3
      by_cases hge : y ≤ s
      · go_wp2_with fail
        go_ret
        refine ⟨⟨k + 1, by first | rfl | go_num, by omega, by rw [hL1.out]; have := hQL.out; omega, fun j h1 h2 => ?_, .inr ?_⟩, B1.out.trans (B2.out.mono B1.out.size)⟩
        · rw [HY.out]; exact HN.out j h1 (by omega)
        · rw [HY.out, hs.out]; exact hge
      · go_wp2_with fail
        go_roundw
        case rel => exact ⟨k + 1, s, by omega, by go_num, rfl, hs.out.symm, fun j h1 h2 => by
          by_cases c : j = k + 1
          · rw [c, hs.out]; omega
          · exact HN.out j h1 (by omega), B2⟩
        case measure => simp [intOf]; omega
    · have hkl : k = Q := by omega
      subst hkl
      go_wp2_with fail
      go_ret
      refine ⟨⟨k, rfl, hQ1, by rw [hL1.out]; have := hQL.out; omega, fun j h1 h2 => ?_, .inl ?_⟩, B1.out.trans (BR.out.mono B1.out.size)⟩
      · rw [HY.out]; exact HN.out j h1 (by omega)
      · rw [hL1.out]; exact hQL.out
end Go.Proofs.Ytbpaeecclikeiaa
