/-
  The size of a node: the document's, and the program's.
-/
import Derived.Test.YtbpaeecclikeiaaNMem
namespace Go.Proofs.Ytbpaeecclikeiaa
open Go.RowKit Pl
set_option linter.unusedVariables false
set_option linter.unusedSimpArgs false
set_option maxRecDepth 100000

theorem szN_leaf {n : Nd} {k : Nat} (h : n.lf = true) : szN n (k + 1) = szN n k + (1 + (kA n k).size + (1 + (vA n k).size)) := by
  simp only [szN, szA, h, if_true]
theorem szN_kid {n : Nd} {k : Nat} (h : n.lf = false) (hk : k < n.kd.length) : szN n (k + 1) = szN n k + (1 + (kA n k).size + 2) := by
  simp only [szN, szA, h, hk, if_true, Bool.false_eq_true, if_false]
theorem szN_none {n : Nd} {k : Nat} (h : n.lf = false) (hk : ¬ k < n.kd.length) : szN n (k + 1) = szN n k + (1 + (kA n k).size) := by
  simp only [szN, szA, h, hk, if_false, Bool.false_eq_true, Nat.add_zero]
theorem vA_none {n : Nd} {k : Nat} (h : ¬ k < n.vs.length) : (vA n k).size = 0 := by
  unfold vA
  rw [List.getD_eq_getElem?_getD, List.getElem?_eq_none (by omega)]
  rfl

set_option maxHeartbeats 400000 in
theorem refSize_any (n : Nd) (u1 u2 u3 : Value) (w : World) (h : Nn w n u1 u2 u3) (hs : Sm n) :
    Calls Try.prog 11 #[nod n.lf u1 u2 u3] w fun e w' => e = .returned (.int .i64 (W (szN n n.ks.length))) ∧ Below w.heap.size w w' := by
  obtain ⟨a1, c1, a2, c2, a3, c3, rfl, rfl, rfl, ⟨l1, l2, l3, l4, l5, l6⟩, _, _, _⟩ := h.out
  have H := hideN h
  have HS := hideN hs
  obtain ⟨L1, hL1⟩ : ∃ L, Hid (n.ks.length = L) := ⟨_, rfl⟩
  obtain ⟨L2, hL2⟩ : ∃ L, Hid (n.vs.length = L) := ⟨_, rfl⟩
  obtain ⟨L3, hL3⟩ : ∃ L, Hid (n.kd.length = L) := ⟨_, rfl⟩
  rw [hL1.out] at H l1 ⊢
  rw [hL2.out] at H l3 ⊢
  rw [hL3.out] at H l5 ⊢
  obtain ⟨lf, hlf⟩ : ∃ lf, Hid (n.lf = lf) := ⟨_, rfl⟩
  rw [hlf.out]
  unfold nod
  obtain ⟨W1, hW1⟩ : ∃ W1, w.alloc (.cells #[.bool lf, .slice a1 L1 c1, .slice a2 L2 c2, .slice a3 L3 c3] 25) = W1 := ⟨_, rfl⟩
  have B1 : Hid (Below w.heap.size w W1) := by rw [← hW1]; exact below_alloc _ _
  have V1 : Hid (Nb W1 25 w.heap.size lf (.slice a1 L1 c1) (.slice a2 L2 c2) (.slice a3 L3 c3)) := by rw [← hW1]; exact nb_new _ _ _ _ _ _
  have H1 : Hid (Nn W1 n (.slice a1 L1 c1) (.slice a2 L2 c2) (.slice a3 L3 c3)) := H.out.below B1.out
  have p0 := V1.out.c0
  have p1 := V1.out.c1
  have p2 := V1.out.c2
  have p3 := V1.out.c3
  clear h hs H
  go_enter Try.func11, Try.ntmps11
  go_wp2_with fail
  go_loop [3, 4] (fun s i => ∃ (k : Nat) (z : Int), k ≤ L1 ∧ i = .int .i64 k ∧ s = .int .i64 z ∧ Hid (z = W (szN n k))) (fun _ i => L1 - (intOf i).toNat)
  case atStart => exact ⟨0, 1, Nat.zero_le _, rfl, rfl, by show (1 : Int) = W 1; rw [W_small (by omega)]; rfl⟩
  case round =>
    obtain ⟨k, z, hk, rfl, rfl, hz⟩ := hrel
    by_cases hlt : k < L1
    · obtain ⟨b, o, rfl, ck⟩ := H1.out.key (i := k) (by rw [hL1.out]; exact hlt)
      obtain ⟨key, hkey⟩ : ∃ s, Hid (kA n k = s) := ⟨_, rfl⟩
      rw [hkey.out] at ck
      cases lf with
      | true =>
        by_cases hv : k < L2
        · obtain ⟨b2, o2, rfl, cv⟩ := H1.out.val (i := k) (by rw [hL2.out]; exact hv)
          obtain ⟨val, hval⟩ : ∃ s, Hid (vA n k = s) := ⟨_, rfl⟩
          rw [hval.out] at cv
          go_wp2_with fail
          go_round
          case rel => exact ⟨k + 1, _, by omega, by go_num, rfl, by
            show _ = _
            rw [szN_leaf hlf.out, hkey.out, hval.out, hz.out]
            unfold W; simp only [wrap_plus]; congr 1; omega⟩
          case measure => simp [intOf]; omega
        · go_wp2_with fail
          go_round
          case rel => exact ⟨k + 1, _, by omega, by go_num, rfl, by
            show _ = _
            rw [szN_leaf hlf.out, hkey.out, vA_none (by rw [hL2.out]; exact hv), hz.out]
            unfold W; simp only [wrap_plus]; congr 1; omega⟩
          case measure => simp [intOf]; omega
      | false =>
        by_cases hv : k < L3
        · go_wp2_with fail
          go_round
          case rel => exact ⟨k + 1, _, by omega, by go_num, rfl, by
            show _ = _
            rw [szN_kid hlf.out (by rw [hL3.out]; exact hv), hkey.out, hz.out]
            unfold W; simp only [wrap_plus]; congr 1; omega⟩
          case measure => simp [intOf]; omega
        · go_wp2_with fail
          go_round
          case rel => exact ⟨k + 1, _, by omega, by go_num, rfl, by
            show _ = _
            rw [szN_none hlf.out (by rw [hL3.out]; exact hv), hkey.out, hz.out]
            unfold W; simp only [wrap_plus]; congr 1; omega⟩
          case measure => simp [intOf]; omega
    · have hkl : k = L1 := by omega
      rw [hkl] at hz
      obtain rfl : z = W (szN n L1) := hz.out
      go_wp2_with fail
      go_ret
      exact ⟨rfl, B1.out⟩

set_option maxHeartbeats 400000 in
theorem sizeAt_any (n : Nd) (u1 u2 u3 : Value) (k : Nat) (w : World) (h : Nn w n u1 u2 u3) (hs : Sm n) (hk : k < n.ks.length) :
    Calls Try.prog 31 #[nod n.lf u1 u2 u3, .int .i64 (k : Int)] w fun e w' => e = .returned (.int .i64 (szA n k : Int)) ∧ Below w.heap.size w w' := by
  obtain ⟨a1, c1, a2, c2, a3, c3, rfl, rfl, rfl, ⟨l1, l2, l3, l4, l5, l6⟩, _, _, _⟩ := h.out
  have H := hideN h
  have HS := hideN hs
  have hks := hs.ks k
  have hvs := hs.vs k
  obtain ⟨L1, hL1⟩ : ∃ L, Hid (n.ks.length = L) := ⟨_, rfl⟩
  obtain ⟨L2, hL2⟩ : ∃ L, Hid (n.vs.length = L) := ⟨_, rfl⟩
  obtain ⟨L3, hL3⟩ : ∃ L, Hid (n.kd.length = L) := ⟨_, rfl⟩
  rw [hL1.out] at H l1 hk ⊢
  rw [hL2.out] at H l3 ⊢
  rw [hL3.out] at H l5 ⊢
  obtain ⟨lf, hlf⟩ : ∃ lf, Hid (n.lf = lf) := ⟨_, rfl⟩
  rw [hlf.out]
  unfold nod
  obtain ⟨W1, hW1⟩ : ∃ W1, w.alloc (.cells #[.bool lf, .slice a1 L1 c1, .slice a2 L2 c2, .slice a3 L3 c3] 26) = W1 := ⟨_, rfl⟩
  have B1 : Hid (Below w.heap.size w W1) := by rw [← hW1]; exact below_alloc _ _
  have V1 : Hid (Nb W1 26 w.heap.size lf (.slice a1 L1 c1) (.slice a2 L2 c2) (.slice a3 L3 c3)) := by rw [← hW1]; exact nb_new _ _ _ _ _ _
  have H1 : Hid (Nn W1 n (.slice a1 L1 c1) (.slice a2 L2 c2) (.slice a3 L3 c3)) := H.out.below B1.out
  have p0 := V1.out.c0
  have p1 := V1.out.c1
  have p2 := V1.out.c2
  have p3 := V1.out.c3
  clear h hs H
  obtain ⟨b, o, rfl, ck⟩ := H1.out.key (i := k) (by rw [hL1.out]; exact hk)
  obtain ⟨key, hkey⟩ : ∃ s, Hid (kA n k = s) := ⟨_, rfl⟩
  obtain ⟨r, hr⟩ : ∃ r, Hid (szA n k = r) := ⟨_, rfl⟩
  rw [hr.out]
  rw [hkey.out] at ck hks
  have HKS := hideN hks
  have HVS := hideN hvs
  clear hks hvs
  cases lf with
  | true =>
    by_cases hv : k < L2
    · obtain ⟨b2, o2, rfl, cv⟩ := H1.out.val (i := k) (by rw [hL2.out]; exact hv)
      obtain ⟨val, hval⟩ : ∃ s, Hid (vA n k = s) := ⟨_, rfl⟩
      rw [hval.out] at cv HVS
      go_enter Try.func31, Try.ntmps31
      go_wp2_with fail
      go_ret
      refine ⟨congrArg (fun x => Ending.returned (.int .i64 x)) (?_ : wrap64 (wrap64 (wrap64 (1 + ↑key.size) + 1) + ↑val.size) = (r : Int)), B1.out⟩
      rw [← hr.out, szA, if_pos hlf.out, hkey.out, hval.out]
      simp only [wrap_plus]
      have h1 := HKS.out
      have h2 := HVS.out
      unfold wrap64
      omega
    · go_enter Try.func31, Try.ntmps31
      go_wp2_with fail
      go_ret
      refine ⟨congrArg (fun x => Ending.returned (.int .i64 x)) (?_ : wrap64 (wrap64 (1 + ↑key.size) + 1) = (r : Int)), B1.out⟩
      rw [← hr.out, szA, if_pos hlf.out, hkey.out, vA_none (by rw [hL2.out]; exact hv)]
      simp only [wrap_plus]
      have h1 := HKS.out
      unfold wrap64
      omega
  | false =>
    have hlf' : ¬ n.lf = true := by rw [hlf.out]; decide
    have HLF := hideN hlf'
    clear hlf'
    by_cases hv : k < L3
    · go_enter Try.func31, Try.ntmps31
      go_wp2_with fail
      go_ret
      refine ⟨congrArg (fun x => Ending.returned (.int .i64 x)) (?_ : wrap64 (wrap64 (1 + ↑key.size) + 2) = (r : Int)), B1.out⟩
      rw [← hr.out, szA, if_neg HLF.out, if_pos (by rw [hL3.out]; exact hv), hkey.out]
      simp only [wrap_plus]
      have h1 := HKS.out
      unfold wrap64
      omega
    · go_enter Try.func31, Try.ntmps31
      go_wp2_with fail
      go_ret
      refine ⟨congrArg (fun x => Ending.returned (.int .i64 x)) (?_ : wrap64 (1 + ↑key.size) = (r : Int)), B1.out⟩
      rw [← hr.out, szA, if_neg HLF.out, if_neg (by rw [hL3.out]; exact hv), hkey.out]
      have h1 := HKS.out
      unfold wrap64
      omega

theorem szA_lt {n : Nd} (hs : Sm n) (k : Nat) : szA n k < 281474976710656 := by
  have h1 := hs.ks k
  have h2 := hs.vs k
  unfold szA
  split
  · omega
  · split <;> omega

/-- What every walk over a node begins with: its slices written out, its variable laid. -/
theorem nn_box {w : World} {n : Nd} {u1 u2 u3 : Value} (h : Nn w n u1 u2 u3) (T : TypeId) : Nn (w.alloc (.cells #[.bool n.lf, u1, u2, u3] T)) n u1 u2 u3 := h.below (below_alloc _ _)

set_option maxHeartbeats 400000 in
theorem size_any (n : Nd) (u1 u2 u3 : Value) (w : World) (h : Nn w n u1 u2 u3) (hs : Sm n) :
    Calls Try.prog 13 #[nod n.lf u1 u2 u3] w fun e w' => e = .returned (.int .i64 (W (szN n n.ks.length))) ∧ Below w.heap.size w w' := by
  obtain ⟨a1, c1, a2, c2, a3, c3, rfl, rfl, rfl, ⟨l1, l2, l3, l4, l5, l6⟩, _, _, _⟩ := h.out
  have H := hideN h
  have HS := hideN hs
  obtain ⟨L1, hL1⟩ : ∃ L, Hid (n.ks.length = L) := ⟨_, rfl⟩
  obtain ⟨L2, hL2⟩ : ∃ L, Hid (n.vs.length = L) := ⟨_, rfl⟩
  obtain ⟨L3, hL3⟩ : ∃ L, Hid (n.kd.length = L) := ⟨_, rfl⟩
  rw [hL1.out] at H l1 ⊢
  rw [hL2.out] at H l3 ⊢
  rw [hL3.out] at H l5 ⊢
  obtain ⟨lf, hlf⟩ : ∃ lf, Hid (n.lf = lf) := ⟨_, rfl⟩
  rw [hlf.out]
  unfold nod
  obtain ⟨W1, hW1⟩ : ∃ W1, w.alloc (.cells #[.bool lf, .slice a1 L1 c1, .slice a2 L2 c2, .slice a3 L3 c3] 26) = W1 := ⟨_, rfl⟩
  have B1 : Hid (Below w.heap.size w W1) := by rw [← hW1]; exact below_alloc _ _
  have V1 : Hid (Nb W1 26 w.heap.size lf (.slice a1 L1 c1) (.slice a2 L2 c2) (.slice a3 L3 c3)) := by rw [← hW1]; exact nb_new _ _ _ _ _ _
  have H1 : Hid (Nn W1 n (.slice a1 L1 c1) (.slice a2 L2 c2) (.slice a3 L3 c3)) := H.out.below B1.out
  have HC : Hid (∀ (W : World) (k : Nat), Below W1.heap.size W1 W → k < L1 → Calls Try.prog 31 #[.agg #[.bool lf, .slice a1 L1 c1, .slice a2 L2 c2, .slice a3 L3 c3], .int .i64 (k : Int)] W fun e w' => e = .returned (.int .i64 (szA n k : Int)) ∧ Below W.heap.size W w') := fun W k hb hk => by
    have := sizeAt_any n _ _ _ k W (H1.out.below hb) HS.out (by rw [hL1.out]; exact hk)
    rw [hlf.out] at this
    exact this
  have p1 := V1.out.c1
  clear h hs H
  go_enter Try.func13, Try.ntmps13
  go_wp2_with fail
  clear p1 hW1
  go_loopw [3, 8] (fun s i wr => ∃ (k : Nat) (z : Int), k ≤ L1 ∧ i = .int .i64 k ∧ s = .int .i64 z ∧ Hid (z = W (szN n k)) ∧ Hid (Below W1.heap.size W1 wr)) (fun _ i _ => L1 - (intOf i).toNat)
  case atStart => exact ⟨0, 1, Nat.zero_le _, rfl, rfl, by show (1 : Int) = W 1; rw [W_small (by omega)]; rfl, Below.refl _ _⟩
  case round =>
    obtain ⟨k, z, hk, rfl, rfl, hz, BR⟩ := hrel
    by_cases hlt : k < L1
    · have V2 : Hid (Nb wr 26 w.heap.size lf (.slice a1 L1 c1) (.slice a2 L2 c2) (.slice a3 L3 c3)) := V1.out.below BR.out
      have p0 := V2.out.c0
      have p1 := V2.out.c1
      have p2 := V2.out.c2
      have p3 := V2.out.c3
      go_wp2_with fail
      refine (HC.out wr k BR.out hlt).mono ?_
      rintro e w2 ⟨rfl, b2⟩
      have B2 : Hid (Below W1.heap.size W1 w2) := BR.out.trans (b2.mono BR.out.size)
      obtain ⟨r, hr⟩ : ∃ r, Hid (szA n k = r) := ⟨_, rfl⟩
      rw [hr.out]
      clear b2 BR V2 p0 p1 p2 p3
      go_wp2_with fail
      go_roundw
      case rel => exact ⟨k + 1, _, by omega, by go_num, rfl, by
        show _ = _
        rw [hz.out, W_add, szN, hr.out], B2⟩
      case measure => simp [intOf]; omega
    · have hkl : k = L1 := by omega
      rw [hkl] at hz
      obtain rfl : z = W (szN n L1) := hz.out
      go_wp2_with fail
      go_ret
      exact ⟨rfl, B1.out.trans (BR.out.mono B1.out.size)⟩
end Go.Proofs.Ytbpaeecclikeiaa
