/-
  When two lists are the same, and two nodes.
-/
import Derived.Test.YtbpaeecclikeiaaNMem
namespace Go.Proofs.Ytbpaeecclikeiaa
open Go.RowKit Pl
set_option linter.unusedVariables false
set_option linter.unusedSimpArgs false
set_option maxRecDepth 100000

theorem toList_inj {a b : ByteArray} (h : a.toList = b.toList) : a = b := by
  rw [ByteArray.toList_eq, ByteArray.toList_eq] at h
  obtain ⟨x⟩ := a
  obtain ⟨y⟩ := b
  congr 1
  exact Array.toList_inj.1 h
open Classical in
noncomputable def eqS (xs ys : List ByteArray) : Bool := decide (xs = ys)
theorem eqS_yes {xs ys : List ByteArray} : eqS xs ys = true ↔ xs = ys := by unfold eqS; exact decide_eq_true_iff
theorem eqS_no {xs ys : List ByteArray} : eqS xs ys = false ↔ ¬ xs = ys := by unfold eqS; exact decide_eq_false_iff_not
open Classical in
noncomputable def eqI (xs ys : List Int) : Bool := decide (xs = ys)
theorem eqI_yes {xs ys : List Int} : eqI xs ys = true ↔ xs = ys := by unfold eqI; exact decide_eq_true_iff
theorem eqI_no {xs ys : List Int} : eqI xs ys = false ↔ ¬ xs = ys := by unfold eqI; exact decide_eq_false_iff_not

set_option maxHeartbeats 400000 in
theorem sameS_any (u v : Value) (xs ys : List ByteArray) (w : World) (hx : RdV w u (strs xs)) (hy : RdV w v (strs ys)) :
    Calls Try.prog 34 #[u, v] w fun e w' => e = .returned (.bool (eqS xs ys)) ∧ Below w.heap.size w w' := by
  obtain ⟨a, ca, rfl, l1, l2, _⟩ := hx.len
  obtain ⟨b, cb, rfl, l3, l4, _⟩ := hy.len
  have HX := hideN hx
  have HY := hideN hy
  rw [strs_len] at HX l1 ⊢
  rw [strs_len] at HY l3 ⊢
  obtain ⟨r, hr⟩ : ∃ r, Hid (eqS xs ys = r) := ⟨_, rfl⟩
  rw [hr.out]
  by_cases hl : xs.length = ys.length
  · rw [← hl] at HY l3 ⊢
    have HL := hideN hl
    obtain ⟨L, hL⟩ : ∃ L, Hid (xs.length = L) := ⟨_, rfl⟩
    rw [hL.out] at HX HY l1 l3 ⊢
    clear hx hy hl
    go_enter Try.func34, Try.ntmps34
    go_wp2_with fail
    go_loopw [5] (fun i wr => ∃ (k : Nat), k ≤ L ∧ i = .int .i64 k ∧ Hid (∀ j, j < k → xs.getD j eS = ys.getD j eS) ∧ Hid (Below w.heap.size w wr)) (fun i _ => L - (intOf i).toNat)
    case atStart => exact ⟨0, Nat.zero_le _, rfl, fun j hj => by omega, Below.refl _ _⟩
    case round =>
      obtain ⟨k, hk, rfl, hz, BR⟩ := hrel
      by_cases hlt : k < L
      · obtain ⟨b1, o1, rfl, cx⟩ := (HX.out.below BR.out).at (i := k) (c := .string (xs.getD k eS)) (by rw [strs, List.getElem?_map, List.getElem?_eq_getElem (by rw [hL.out]; exact hlt)]; simp [List.getD_eq_getElem?_getD, show k < xs.length by rw [hL.out]; exact hlt])
        obtain ⟨b2, o2, rfl, cy⟩ := (HY.out.below BR.out).at (i := k) (c := .string (ys.getD k eS)) (by rw [strs, List.getElem?_map, List.getElem?_eq_getElem (by rw [← HL.out, hL.out]; exact hlt)]; simp [List.getD_eq_getElem?_getD, show k < ys.length by rw [← HL.out, hL.out]; exact hlt])
        have HO : Hid (xs.getD k eS = ys.getD k eS → ∀ j, j < k + 1 → xs.getD j eS = ys.getD j eS) := fun h0 j hj => by
          by_cases e : j < k
          · exact hz.out j e
          · have : j = k := by omega
            rw [this]; exact h0
        have HB : Hid (¬ xs.getD k eS = ys.getD k eS → r = false) := fun h0 => by
          rw [← hr.out, eqS_no]
          intro e
          exact h0 (by rw [e])
        obtain ⟨x, hxe⟩ : ∃ x, Hid (xs.getD k eS = x) := ⟨_, rfl⟩
        obtain ⟨y, hye⟩ : ∃ y, Hid (ys.getD k eS = y) := ⟨_, rfl⟩
        rw [hxe.out] at cx HO HB
        rw [hye.out] at cy HO HB
        by_cases hxy : x = y
        · have HK := hideN (HO.out hxy)
          have hd : (!(x.toList == y.toList)) = false := by rw [hxy]; simp
          clear hxy HO HB
          go_wp2_with fail
          go_quiet (fail)
          go_wp2_with fail
          go_roundw
          case rel => exact ⟨k + 1, by omega, by go_num, HK, BR.out.trans (Below.of_drewN _ _ _)⟩
          case measure => simp [intOf]; omega
        · have hF : r = false := HB.out hxy
          subst hF
          have hd : (!(x.toList == y.toList)) = true := by
            rw [beq_eq_false_iff_ne.2 (fun e => hxy (toList_inj e))]; rfl
          clear hxy HO HB
          go_wp2_with fail
          go_quiet (fail)
          go_wp2_with fail
          go_ret
          exact ⟨rfl, BR.out.trans (Below.of_drewN _ _ _)⟩
      · have hT : r = true := by
          rw [← hr.out, eqS_yes]
          refine List.ext_getElem HL.out (fun i h1 h2 => ?_)
          have := hz.out i (by rw [hL.out] at h1; omega)
          rw [List.getD_eq_getElem?_getD, List.getD_eq_getElem?_getD, List.getElem?_eq_getElem h1, List.getElem?_eq_getElem h2] at this
          exact this
        subst hT
        go_wp2_with fail
        go_ret
        exact ⟨rfl, BR.out⟩
  · have hF : r = false := by rw [← hr.out, eqS_no]; intro e; exact hl (by rw [e])
    subst hF
    have hd : ((xs.length : Int) != (ys.length : Int)) = true := by simp; omega
    clear hx hy hl HX HY
    go_enter Try.func34, Try.ntmps34
    go_wp2_with fail
    go_ret
    exact ⟨rfl, Below.refl _ _⟩

set_option maxHeartbeats 400000 in
theorem sameI_any (u v : Value) (xs ys : List Int) (w : World) (hx : RdV w u (nums xs)) (hy : RdV w v (nums ys)) :
    Calls Try.prog 35 #[u, v] w fun e w' => e = .returned (.bool (eqI xs ys)) ∧ Below w.heap.size w w' := by
  obtain ⟨a, ca, rfl, l1, l2, _⟩ := hx.len
  obtain ⟨b, cb, rfl, l3, l4, _⟩ := hy.len
  have HX := hideN hx
  have HY := hideN hy
  rw [nums_len] at HX l1 ⊢
  rw [nums_len] at HY l3 ⊢
  obtain ⟨r, hr⟩ : ∃ r, Hid (eqI xs ys = r) := ⟨_, rfl⟩
  rw [hr.out]
  by_cases hl : xs.length = ys.length
  · rw [← hl] at HY l3 ⊢
    have HL := hideN hl
    obtain ⟨L, hL⟩ : ∃ L, Hid (xs.length = L) := ⟨_, rfl⟩
    rw [hL.out] at HX HY l1 l3 ⊢
    clear hx hy hl
    go_enter Try.func35, Try.ntmps35
    go_wp2_with fail
    go_loopw [5] (fun i wr => ∃ (k : Nat), k ≤ L ∧ i = .int .i64 k ∧ Hid (∀ j, j < k → xs.getD j 0 = ys.getD j 0) ∧ Hid (Below w.heap.size w wr)) (fun i _ => L - (intOf i).toNat)
    case atStart => exact ⟨0, Nat.zero_le _, rfl, fun j hj => by omega, Below.refl _ _⟩
    case round =>
      obtain ⟨k, hk, rfl, hz, BR⟩ := hrel
      by_cases hlt : k < L
      · obtain ⟨b1, o1, rfl, cx⟩ := (HX.out.below BR.out).at (i := k) (c := .int .i64 (xs.getD k 0)) (by rw [nums, List.getElem?_map, List.getElem?_eq_getElem (by rw [hL.out]; exact hlt)]; simp [List.getD_eq_getElem?_getD, show k < xs.length by rw [hL.out]; exact hlt])
        obtain ⟨b2, o2, rfl, cy⟩ := (HY.out.below BR.out).at (i := k) (c := .int .i64 (ys.getD k 0)) (by rw [nums, List.getElem?_map, List.getElem?_eq_getElem (by rw [← HL.out, hL.out]; exact hlt)]; simp [List.getD_eq_getElem?_getD, show k < ys.length by rw [← HL.out, hL.out]; exact hlt])
        have HO : Hid (xs.getD k 0 = ys.getD k 0 → ∀ j, j < k + 1 → xs.getD j 0 = ys.getD j 0) := fun h0 j hj => by
          by_cases e : j < k
          · exact hz.out j e
          · have : j = k := by omega
            rw [this]; exact h0
        have HB : Hid (¬ xs.getD k 0 = ys.getD k 0 → r = false) := fun h0 => by
          rw [← hr.out, eqI_no]
          intro e
          exact h0 (by rw [e])
        obtain ⟨x, hxe⟩ : ∃ x, Hid (xs.getD k 0 = x) := ⟨_, rfl⟩
        obtain ⟨y, hye⟩ : ∃ y, Hid (ys.getD k 0 = y) := ⟨_, rfl⟩
        rw [hxe.out] at cx HO HB
        rw [hye.out] at cy HO HB
        by_cases hxy : x = y
        · have HK := hideN (HO.out hxy)
          have hd : (x != y) = false := by rw [hxy]; simp
          clear hxy HO HB
          go_wp2_with fail
          go_quiet (fail)
          go_wp2_with fail
          go_roundw
          case rel => exact ⟨k + 1, by omega, by go_num, HK, BR.out.trans (Below.of_drewN _ _ _)⟩
          case measure => simp [intOf]; omega
        · have hF : r = false := HB.out hxy
          subst hF
          have hd : (x != y) = true := by
            simpa using hxy
          clear hxy HO HB
          go_wp2_with fail
          go_quiet (fail)
          go_wp2_with fail
          go_ret
          exact ⟨rfl, BR.out.trans (Below.of_drewN _ _ _)⟩
      · have hT : r = true := by
          rw [← hr.out, eqI_yes]
          refine List.ext_getElem HL.out (fun i h1 h2 => ?_)
          have := hz.out i (by rw [hL.out] at h1; omega)
          rw [List.getD_eq_getElem?_getD, List.getD_eq_getElem?_getD, List.getElem?_eq_getElem h1, List.getElem?_eq_getElem h2] at this
          exact this
        subst hT
        go_wp2_with fail
        go_ret
        exact ⟨rfl, BR.out⟩
  · have hF : r = false := by rw [← hr.out, eqI_no]; intro e; exact hl (by rw [e])
    subst hF
    have hd : ((xs.length : Int) != (ys.length : Int)) = true := by simp; omega
    clear hx hy hl HX HY
    go_enter Try.func35, Try.ntmps35
    go_wp2_with fail
    go_ret
    exact ⟨rfl, Below.refl _ _⟩

/-- Whether two nodes are the same. -/
noncomputable def eqN (a b : Nd) : Bool := (a.lf == b.lf) && eqS a.ks b.ks && eqS a.vs b.vs && eqI a.kd b.kd
theorem eqN_iff {a b : Nd} : eqN a b = true ↔ a = b := by
  unfold eqN
  rw [Bool.and_eq_true, Bool.and_eq_true, Bool.and_eq_true, eqS_yes, eqS_yes, eqI_yes, beq_iff_eq]
  obtain ⟨a1, a2, a3, a4⟩ := a
  obtain ⟨b1, b2, b3, b4⟩ := b
  simp only [Nd.mk.injEq]
  exact ⟨fun ⟨⟨⟨x, y⟩, z⟩, q⟩ => ⟨x, y, z, q⟩, fun ⟨x, y, z, q⟩ => ⟨⟨⟨x, y⟩, z⟩, q⟩⟩

set_option maxHeartbeats 1000000 in
theorem sameN_any (m n : Nd) (v1 v2 v3 u1 u2 u3 : Value) (w : World) (hm : Nn w m v1 v2 v3) (hn : Nn w n u1 u2 u3) :
    Calls Try.prog 17 #[nod m.lf v1 v2 v3, nod n.lf u1 u2 u3] w fun e w' => e = .returned (.bool (eqN m n)) ∧ Below w.heap.size w w' := by
  obtain ⟨a1, c1, a2, c2, a3, c3, rfl, rfl, rfl, _, _, _, _⟩ := hn.out
  obtain ⟨d1, f1, d2, f2, d3, f3, rfl, rfl, rfl, _, _, _, _⟩ := hm.out
  have HM := hideN hm
  have HN := hideN hn
  obtain ⟨L1, hL1⟩ : ∃ L, Hid (n.ks.length = L) := ⟨_, rfl⟩
  obtain ⟨L2, hL2⟩ : ∃ L, Hid (n.vs.length = L) := ⟨_, rfl⟩
  obtain ⟨L3, hL3⟩ : ∃ L, Hid (n.kd.length = L) := ⟨_, rfl⟩
  obtain ⟨M1, hM1⟩ : ∃ L, Hid (m.ks.length = L) := ⟨_, rfl⟩
  obtain ⟨M2, hM2⟩ : ∃ L, Hid (m.vs.length = L) := ⟨_, rfl⟩
  obtain ⟨M3, hM3⟩ : ∃ L, Hid (m.kd.length = L) := ⟨_, rfl⟩
  rw [hL1.out, hL2.out, hL3.out] at HN
  rw [hM1.out, hM2.out, hM3.out] at HM
  rw [hL1.out, hL2.out, hL3.out, hM1.out, hM2.out, hM3.out]
  obtain ⟨lf, hlf⟩ : ∃ lf, Hid (n.lf = lf) := ⟨_, rfl⟩
  obtain ⟨mf, hmf⟩ : ∃ lf, Hid (m.lf = lf) := ⟨_, rfl⟩
  obtain ⟨s1, hs1⟩ : ∃ b, Hid (eqS m.ks n.ks = b) := ⟨_, rfl⟩
  obtain ⟨s2, hs2⟩ : ∃ b, Hid (eqS m.vs n.vs = b) := ⟨_, rfl⟩
  obtain ⟨s3, hs3⟩ : ∃ b, Hid (eqI m.kd n.kd = b) := ⟨_, rfl⟩
  unfold eqN
  rw [hlf.out, hmf.out, hs1.out, hs2.out, hs3.out]
  obtain ⟨r, hr⟩ : ∃ b, Hid ((mf == lf && s1 && s2 && s3) = b) := ⟨_, rfl⟩
  rw [hr.out]
  unfold nod
  obtain ⟨W1, hW1⟩ : ∃ W1, w.alloc (.cells #[.bool mf, .slice d1 M1 f1, .slice d2 M2 f2, .slice d3 M3 f3] 26) = W1 := ⟨_, rfl⟩
  obtain ⟨W2, hW2⟩ : ∃ W2, W1.alloc (.cells #[.bool lf, .slice a1 L1 c1, .slice a2 L2 c2, .slice a3 L3 c3] 25) = W2 := ⟨_, rfl⟩
  have z1 : W1.heap.size = w.heap.size + 1 := by rw [← hW1]; simp
  have b1 : Below w.heap.size w W1 := by rw [← hW1]; exact below_alloc _ _
  have b2 : Below W1.heap.size W1 W2 := by rw [← hW2]; exact below_alloc _ _
  have B2 : Hid (Below w.heap.size w W2) := b1.trans (b2.mono b1.size)
  have X1 : Nb W1 26 w.heap.size mf (.slice d1 M1 f1) (.slice d2 M2 f2) (.slice d3 M3 f3) := by rw [← hW1]; exact nb_new _ _ _ _ _ _
  have X2 : Hid (Nb W2 26 w.heap.size mf (.slice d1 M1 f1) (.slice d2 M2 f2) (.slice d3 M3 f3)) := X1.below b2
  have Y2 : Hid (Nb W2 25 (w.heap.size + 1) lf (.slice a1 L1 c1) (.slice a2 L2 c2) (.slice a3 L3 c3)) := by rw [← hW2, ← z1]; exact nb_new _ _ _ _ _ _
  have HC1 : Hid (∀ W, Below W2.heap.size W2 W → Calls Try.prog 34 #[.slice d1 M1 f1, .slice a1 L1 c1] W fun e w' => e = .returned (.bool s1) ∧ Below W.heap.size W w') := fun W hb => by
    have := sameS_any _ _ _ _ W ((HM.out.below B2.out).below hb).k ((HN.out.below B2.out).below hb).k
    rw [hs1.out] at this
    exact this
  have HC2 : Hid (∀ W, Below W2.heap.size W2 W → Calls Try.prog 34 #[.slice d2 M2 f2, .slice a2 L2 c2] W fun e w' => e = .returned (.bool s2) ∧ Below W.heap.size W w') := fun W hb => by
    have := sameS_any _ _ _ _ W ((HM.out.below B2.out).below hb).v ((HN.out.below B2.out).below hb).v
    rw [hs2.out] at this
    exact this
  have HC3 : Hid (∀ W, Below W2.heap.size W2 W → Calls Try.prog 35 #[.slice d3 M3 f3, .slice a3 L3 c3] W fun e w' => e = .returned (.bool s3) ∧ Below W.heap.size W w') := fun W hb => by
    have := sameI_any _ _ _ _ W ((HM.out.below B2.out).below hb).d ((HN.out.below B2.out).below hb).d
    rw [hs3.out] at this
    exact this
  have p1 := X2.out.c1
  have q1 := Y2.out.c1
  clear hm hn HM HN hL1 hL2 hL3 hM1 hM2 hM3 hs1 hs2 hs3 hlf hmf b1 b2 X1
  go_enter Try.func17, Try.ntmps17
  go_wp2_with fail
  refine (HC1.out W2 (Below.refl _ _)).mono ?_
  rintro e w3 ⟨rfl, b3⟩
  have B3 := hideN b3
  have p2 := (X2.out.below b3).c2
  have q2 := (Y2.out.below b3).c2
  clear b3 p1 q1 hW1 hW2 z1
  go_wp2_with fail
  refine (HC2.out w3 B3.out).mono ?_
  rintro e w4 ⟨rfl, b4⟩
  have B4 : Hid (Below W2.heap.size W2 w4) := B3.out.trans (b4.mono B3.out.size)
  have p3 := (X2.out.below B4.out).c3
  have q3 := (Y2.out.below B4.out).c3
  clear b4 p2 q2
  go_wp2_with fail
  refine (HC3.out w4 B4.out).mono ?_
  rintro e w5 ⟨rfl, b5⟩
  have B5 : Hid (Below W2.heap.size W2 w5) := B4.out.trans (b5.mono B4.out.size)
  have p0 := (X2.out.below B5.out).c0
  have q0 := (Y2.out.below B5.out).c0
  have BF : Hid (Below w.heap.size w w5) := B2.out.trans (B5.out.mono B2.out.size)
  clear b5 p3 q3
  cases mf <;> cases lf <;> cases s1 <;> cases s2 <;> cases s3 <;> (obtain rfl := hr.out; go_wp2_with fail; go_ret; exact ⟨rfl, BF.out⟩)
end Go.Proofs.Ytbpaeecclikeiaa
