/-
  The document's Split.
-/
import Derived.Test.YtbpaeecclikeiaaNFirst
namespace Go.Proofs.Ytbpaeecclikeiaa
open Go.RowKit Pl
set_option linter.unusedVariables false
set_option linter.unusedSimpArgs false
set_option maxRecDepth 100000

theorem getD_take {α : Type} (l : List α) (d : α) (k i : Nat) : (l.take k).getD i d = if i < k then l.getD i d else d := by
  rw [List.getD_eq_getElem?_getD, List.getElem?_take]
  split
  · rw [List.getD_eq_getElem?_getD]
  · rfl
theorem sm_take {n : Nd} (hs : Sm n) (k : Nat) : Sm (takeN n k) := by
  refine ⟨fun i => ?_, fun i => ?_, ?_, ?_, ?_⟩
  · show ((n.ks.take k).getD i eS).size ≤ _
    rw [getD_take]
    split
    · exact hs.ks i
    · exact Nat.zero_le _
  · show ((n.vs.take k).getD i eS).size ≤ _
    rw [getD_take]
    split
    · exact hs.vs i
    · exact Nat.zero_le _
  · have := hs.kl; simp only [takeN, List.length_take]; omega
  · have := hs.vl; simp only [takeN, List.length_take]; omega
  · have := hs.dl; simp only [takeN, List.length_take]; omega
theorem szA_take (n : Nd) {k i : Nat} (h : i < k) : szA (takeN n k) i = szA n i := by
  have h1 : kA (takeN n k) i = kA n i := by show (n.ks.take k).getD i eS = _; rw [getD_take, if_pos h]; rfl
  have h2 : vA (takeN n k) i = vA n i := by show (n.vs.take k).getD i eS = _; rw [getD_take, if_pos h]; rfl
  have h3 : (i < (takeN n k).kd.length) = (i < n.kd.length) := by
    have : (takeN n k).kd.length = min k n.kd.length := by simp [takeN]
    rw [this]
    exact propext ⟨fun h => by omega, fun h => by omega⟩
  unfold szA
  rw [h1, h2]
  simp only [h3]
  rfl
theorem szN_take (n : Nd) (k : Nat) : ∀ j, j ≤ k → szN (takeN n k) j = szN n j
  | 0, _ => rfl
  | j + 1, h => by
    show szN (takeN n k) j + szA (takeN n k) j = szN n j + szA n j
    rw [szN_take n k j (by omega), szA_take n (by omega)]
theorem len_take (n : Nd) {k : Nat} (h : k ≤ n.ks.length) : (takeN n k).ks.length = k := by simp only [takeN, List.length_take]; omega
set_option maxHeartbeats 1000000 in
theorem refSplit_any (n : Nd) (u1 u2 u3 : Value) (w : World) (h : Nn w n u1 u2 u3) (hs : Sm n) :
    Calls Try.prog 24 #[nod n.lf u1 u2 u3] w fun e w' => (∃ m : Nat, e = .returned (.int .i64 (m : Int)) ∧ ((n.ks.length < 2 ∧ m = n.ks.length) ∨ (2 ≤ n.ks.length ∧ MidR n m))) ∧ Below w.heap.size w w' := by
  obtain ⟨a1, c1, a2, c2, a3, c3, rfl, rfl, rfl, ⟨l1, l2, l3, l4, l5, l6⟩, _, _, _⟩ := h.out
  have H := hideN h
  have HS := hideN hs
  obtain ⟨L1, hL1⟩ : ∃ L, Hid (n.ks.length = L) := ⟨_, rfl⟩
  obtain ⟨L2, hL2⟩ : ∃ L, Hid (n.vs.length = L) := ⟨_, rfl⟩
  obtain ⟨L3, hL3⟩ : ∃ L, Hid (n.kd.length = L) := ⟨_, rfl⟩
  rw [hL1.out] at H l1 ⊢
  rw [hL2.out] at H l3 ⊢
  rw [hL3.out] at H l5 ⊢
  obtain ⟨lf, hlf⟩ : ∃ lf, Hid (n.lf = lf) := ⟨_, rfl⟩
  rw [hlf.out]
  unfold nod
  obtain ⟨W1, hW1⟩ : ∃ W1, w.alloc (.cells #[.bool lf, .slice a1 L1 c1, .slice a2 L2 c2, .slice a3 L3 c3] 25) = W1 := ⟨_, rfl⟩
  have B1 : Hid (Below w.heap.size w W1) := by rw [← hW1]; exact below_alloc _ _
  have V1 : Hid (Nb W1 25 w.heap.size lf (.slice a1 L1 c1) (.slice a2 L2 c2) (.slice a3 L3 c3)) := by rw [← hW1]; exact nb_new _ _ _ _ _ _
  have H1 : Hid (Nn W1 n (.slice a1 L1 c1) (.slice a2 L2 c2) (.slice a3 L3 c3)) := H.out.below B1.out
  have p0 := V1.out.c0
  have p1 := V1.out.c1
  have p2 := V1.out.c2
  have p3 := V1.out.c3
  by_cases hl2 : L1 < 2
  · have hli : (L1 : Int) < 2 := by omega
    have HL : Hid (L1 < 2) := hl2
    clear h hs H
    go_enter Try.func24, Try.ntmps24
    go_wp2_with fail
    go_ret
    exact ⟨⟨L1, rfl, .inl ⟨HL.out, rfl⟩⟩, B1.out⟩
  · have hli : ¬ (L1 : Int) < 2 := by omega
    have H2 : Hid (2 ≤ L1) := by show _ ≤ _; omega
    have h2 : 2 ≤ L1 := by omega
    obtain ⟨z, hz⟩ : ∃ z : Int, Hid (W (szN n L1) = z) := ⟨_, rfl⟩
    have HZ : Hid (∀ (W : World), Below W1.heap.size W1 W → Calls Try.prog 11 #[.agg #[.bool lf, .slice a1 L1 c1, .slice a2 L2 c2, .slice a3 L3 c3]] W fun e w' => e = .returned (.int .i64 z) ∧ Below W.heap.size W w') := fun W hb => by
      have := refSize_any n _ _ _ W (H1.out.below hb) HS.out
      rw [hlf.out, hL1.out, hz.out] at this
      exact this
    have HF : Hid (∀ (W : World) (k : Nat), Below W1.heap.size W1 W → k ≤ L1 → Calls Try.prog 41 #[.agg #[.bool lf, .slice a1 L1 c1, .slice a2 L2 c2, .slice a3 L3 c3], .int .i64 (k : Int)] W fun e w' => (∃ x1 x2 x3, e = .returned (nod lf x1 x2 x3) ∧ Nn w' (takeN n k) x1 x2 x3) ∧ Below W.heap.size W w') := fun W k hb hk => by
      have := first_any n _ _ _ k W (H1.out.below hb) HS.out (by rw [hL1.out]; exact hk)
      rw [hlf.out] at this
      exact this
    have HFS : Hid (∀ (U : World) (k : Nat) (x1 x2 x3 : Value), k ≤ L1 → Nn U (takeN n k) x1 x2 x3 → Calls Try.prog 11 #[nod lf x1 x2 x3] U fun e w' => e = .returned (.int .i64 (W (szN n k))) ∧ Below U.heap.size U w') := fun U k x1 x2 x3 hk hN => by
      have := refSize_any (takeN n k) _ _ _ U hN (sm_take HS.out k)
      rw [len_take n (by rw [hL1.out]; exact hk), szN_take n k k (Nat.le_refl _), show (takeN n k).lf = lf from hlf.out] at this
      exact this
    have hzi : -9223372036854775808 ≤ z ∧ z ≤ 9223372036854775807 := by rw [← hz.out]; exact W_in _
    obtain ⟨y, hy⟩ : ∃ y : Int, Hid (z.tdiv 2 = y) := ⟨_, rfl⟩
    have hyi : IntKind.i64.wrap (z.tdiv 2) = y := by
      have := tdiv2 z
      rw [IntKind.wrap_i64, ← hy.out]
      omega
    have HY : Hid (hlfN n = y) := by show _ = _; unfold hlfN; rw [hL1.out, hz.out, hy.out]
    have hl1 : IntKind.i64.wrap ((L1 : Int) - 1) = ((L1 - 1 : Nat) : Int) := by rw [IntKind.wrap_i64]; omega
    obtain ⟨Q, hQ⟩ : ∃ Q, L1 - 1 = Q := ⟨_, rfl⟩
    rw [hQ] at hl1
    have hQL : Hid (Q + 1 = L1) := by show _ = _; omega
    have hQ1 : 1 ≤ Q := by omega
    have hQb : Q ≤ 9223372036854775806 := by omega
    clear h hs H h2 hQ hl2
    go_enter Try.func24, Try.ntmps24
    go_wp2_with fail
    clear p0 p1 p2 p3 hW1
    go_loopw [3] (fun i wr => ∃ k : Nat, 1 ≤ k ∧ k ≤ Q ∧ i = .int .i64 k ∧ Hid (∀ j, 1 ≤ j → j < k → W (szN n j) < y) ∧ Hid (Below W1.heap.size W1 wr)) (fun i _ => Q - (intOf i).toNat)
    case atStart => exact ⟨1, Nat.le_refl _, hQ1, rfl, fun j h1 h2 => by omega, Below.refl _ _⟩
    case round =>
      obtain ⟨k, hk1, hk, rfl, HN, BR⟩ := hrel
      have V2 : Hid (Nb wr 25 w.heap.size lf (.slice a1 L1 c1) (.slice a2 L2 c2) (.slice a3 L3 c3)) := V1.out.below BR.out
      have p0 := V2.out.c0
      have p1 := V2.out.c1
      have p2 := V2.out.c2
      have p3 := V2.out.c3
      by_cases hlt : k < Q
      · have hki : (k : Int) < (Q : Int) := by omega
        go_wp2_with fail
        refine (HF.out wr k BR.out (by have := hQL.out; omega)).mono ?_
        rintro e w2 ⟨⟨x1, x2, x3, rfl, hN⟩, b2⟩
        have B2 : Hid (Below W1.heap.size W1 w2) := BR.out.trans (b2.mono BR.out.size)
        have N2 := hideN hN
        clear b2 BR V2 p0 p1 p2 p3 hN
        go_wp2_with fail
        refine (HFS.out w2 k x1 x2 x3 (by have := hQL.out; omega) N2.out).mono ?_
        rintro e w3 ⟨rfl, b3⟩
        have B3 : Hid (Below W1.heap.size W1 w3) := B2.out.trans (b3.mono B2.out.size)
        obtain ⟨s, hs⟩ : ∃ s : Int, Hid (W (szN n k) = s) := ⟨_, rfl⟩
        rw [hs.out]
        have V3 : Hid (Nb w3 25 w.heap.size lf (.slice a1 L1 c1) (.slice a2 L2 c2) (.slice a3 L3 c3)) := V1.out.below B3.out
        have p0 := V3.out.c0
        have p1 := V3.out.c1
        have p2 := V3.out.c2
        have p3 := V3.out.c3
        clear b3 B2 N2
        go_wp2_with fail
        refine (HZ.out w3 B3.out).mono ?_
        rintro e w4 ⟨rfl, b4⟩
        have B4 : Hid (Below W1.heap.size W1 w4) := B3.out.trans (b4.mono B3.out.size)
        clear b4 B3 V3 p0 p1 p2 p3
        by_cases hge : y ≤ s
        · go_wp2_with fail
          go_ret
          refine ⟨⟨k, rfl, .inr ⟨H2.out, hk1, by rw [hL1.out]; have := hQL.out; omega, fun j h1 h2 => ?_, .inr ?_⟩⟩, B1.out.trans (B4.out.mono B1.out.size)⟩
          · rw [HY.out]; exact HN.out j h1 h2
          · rw [HY.out, hs.out]; exact hge
        · go_wp2_with fail
          go_roundw
          case rel => exact ⟨k + 1, by omega, by omega, by go_num, fun j h1 h2 => by
            by_cases c : j = k
            · rw [c, hs.out]; omega
            · exact HN.out j h1 (by omega), B4⟩
          case measure => simp [intOf]; omega
      · have hkl : k = Q := by omega
        subst hkl
        go_wp2_with fail
        go_ret
        refine ⟨⟨k, rfl, .inr ⟨H2.out, hQ1, by rw [hL1.out]; have := hQL.out; omega, fun j h1 h2 => ?_, .inl ?_⟩⟩, B1.out.trans (BR.out.mono B1.out.size)⟩
        · rw [HY.out]; exact HN.out j h1 h2
        · rw [hL1.out]; exact hQL.out
end Go.Proofs.Ytbpaeecclikeiaa
