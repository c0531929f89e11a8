/-
  The document's Under.
-/
import Derived.Test.YtcjdhbiiigdmmaaDoorNxRSp
import Derived.Test.YtcjdhbiiigdmmaaDoorNxUnd
namespace Go.Proofs.YtcjdhbiiigdmmaaDoor
open Go.RowKit Nx
set_option linter.unusedVariables false
set_option maxRecDepth 100000

set_option maxHeartbeats 1000000 in
theorem refUnder_any (a b : ByteArray) (w : World) (ha : a.size ≤ 140737488351232) (hb : b.size ≤ 140737488351232) :
    Calls Tryd.prog 16 #[.string a, .string b] w fun e w' => e = .returned (.bool (und (bl a) (bl b))) ∧ Below w.heap.size w w' := by
  have c1 := refSplit_any a w ha
  have c2 := fun W => refSplit_any b W hb
  obtain ⟨p, hp⟩ : ∃ p, bl a = p := ⟨_, rfl⟩
  obtain ⟨q, hq⟩ : ∃ q, bl b = q := ⟨_, rfl⟩
  rw [hp] at c1 ⊢
  rw [hq] at c2 ⊢
  clear hp hq ha hb
  obtain ⟨r, hr⟩ : ∃ r, Hid (und p q = r) := ⟨_, rfl⟩
  rw [hr.out]
  cases h1 : sp p with
  | none =>
    have hF : r = false := by rw [← hr.out]; exact und_none (.inl h1)
    subst hF
    replace c1 := c1.mono fun e w' h => h.no h1
    clear h1 hr
    cases h2 : sp q with
    | none =>
      replace c2 := fun W => (c2 W).mono fun e w' h => h.no h2
      clear h2
      go_enter Tryd.func16, Tryd.ntmps16
      go_wp2_with (go_at_call 8; with_reducible refine c1.mono ?_; rintro e w1 ⟨a1, k1, rfl, hv1, hb1⟩)
      clear c1
      go_wp2_with (go_at_call 8; with_reducible refine (c2 _).mono ?_; rintro e w2 ⟨a2, k2, rfl, hv2, hb2⟩)
      go_ret
      exact ⟨rfl, hb1.trans (hb2.mono hb1.size)⟩
    | some y =>
      replace c2 := fun W => (c2 W).mono fun e w' h => h.yes h2
      clear h2
      go_enter Tryd.func16, Tryd.ntmps16
      go_wp2_with (go_at_call 8; with_reducible refine c1.mono ?_; rintro e w1 ⟨a1, k1, rfl, hv1, hb1⟩)
      clear c1
      go_wp2_with (go_at_call 8; with_reducible refine (c2 _).mono ?_; rintro e w2 ⟨a2, m2, k2, ys, rfl, hv2, hb2, hy, hn, l3, l4⟩)
      go_ret
      exact ⟨rfl, hb1.trans (hb2.mono hb1.size)⟩
  | some x =>
    have H1 := hideN h1
    replace c1 := c1.mono fun e w' h => h.yes h1
    clear h1
    cases h2 : sp q with
    | none =>
      have hF : r = false := by rw [← hr.out]; exact und_none (.inr h2)
      subst hF
      replace c2 := fun W => (c2 W).mono fun e w' h => h.no h2
      clear h2 hr
      go_enter Tryd.func16, Tryd.ntmps16
      go_wp2_with (go_at_call 8; with_reducible refine c1.mono ?_; rintro e w1 ⟨a1, m1, k1, xs, rfl, hv1, hb1, hx, hm, l1, l2⟩)
      clear c1
      go_wp2_with (go_at_call 8; with_reducible refine (c2 _).mono ?_; rintro e w2 ⟨a2, k2, rfl, hv2, hb2⟩)
      go_ret
      exact ⟨rfl, hb1.trans (hb2.mono hb1.size)⟩
    | some y =>
      have H2 := hideN h2
      replace c2 := fun W => (c2 W).mono fun e w' h => h.yes h2
      clear h2
      go_enter Tryd.func16, Tryd.ntmps16
      go_wp2_with (go_at_call 8; with_reducible refine c1.mono ?_; rintro e w1 ⟨a1, m1, k1, xs, rfl, hv1, hb1, hx, hm, l1, l2⟩)
      clear c1
      go_wp2_with (go_at_call 8; with_reducible refine (c2 _).mono ?_; rintro e w2 ⟨a2, m2, k2, ys, rfl, hv2, hb2, hy, hn, l3, l4⟩; refine Hid.out ?_)
      have HB2 := hideN (hb1.trans (hb2.mono hb1.size))
      have HV1 := hideN (hv1.out.below hb2)
      have HU : Hid (r = (decide (m1 ≤ m2) && eqS xs (ys.take m1))) := by
        have e : r = (decide (m1 ≤ m2) && eqS xs (ys.take m1)) := by
          rw [← hr.out, und_some (xs := xs) (ys := ys) (by rw [hx.out]; exact H1.out) (by rw [hy.out]; exact H2.out), hm.out, hn.out]
        exact e
      clear c2 hb1 hb2 hv1 H1 H2 hx hy hr
      by_cases hl : (m2 : Int) < (m1 : Int)
      · have hF : r = false := by rw [HU.out, decide_eq_false (by omega)]; rfl
        subst hF
        refine hideN ?_
        go_wp2_with fail
        go_ret
        exact ⟨rfl, HB2.out⟩
      · have HF : Hid (r = eqS xs (ys.take m1)) := by
          have e : r = eqS xs (ys.take m1) := by rw [HU.out, decide_eq_true (by omega), Bool.true_and]
          exact e
        have HV2 := hv2
        have hL := hm
        have hM := hn
        clear HU hv2 hm hn
        refine hideN ?_
        go_wp2_with fail
        go_loopw [9] (fun i wr => ∃ (k : Nat), k ≤ m1 ∧ i = .int .i64 k ∧ Hid (∀ j, j < k → xs.getD j eS = ys.getD j eS) ∧ Hid (Below w.heap.size w wr ∧ Below w2.heap.size w2 wr)) (fun i _ => m1 - (intOf i).toNat)
        case atStart => exact ⟨0, Nat.zero_le _, rfl, fun j hj => by omega, HB2.out, Below.refl _ _⟩
        case round =>
          obtain ⟨k, hk, rfl, hz, BR⟩ := hrel
          by_cases hlt : k < m1
          · obtain ⟨b1, o1, rfl, cx⟩ := (HV1.out.below BR.out.2).str (i := k) (by rw [hL.out]; exact hlt)
            obtain ⟨b2, o2, rfl, cy⟩ := (HV2.out.below BR.out.2).str (i := k) (by rw [hM.out]; omega)
            have HO : Hid (xs.getD k eS = ys.getD k eS → ∀ j, j < k + 1 → xs.getD j eS = ys.getD j eS) := fun h0 j hj => by
              by_cases e : j < k
              · exact hz.out j e
              · have : j = k := by omega
                rw [this]; exact h0
            have HB : Hid (¬ xs.getD k eS = ys.getD k eS → r = false) := fun h0 => by
              rw [HF.out, eqS_no]
              intro e
              have hk2 : k < xs.length := by rw [hL.out]; exact hlt
              refine h0 ?_
              have e2 : xs.getD k eS = (ys.take m1).getD k eS := by rw [← e]
              rw [e2, List.getD_eq_getElem?_getD, List.getD_eq_getElem?_getD, List.getElem?_take, if_pos hlt]
            obtain ⟨x, hxe⟩ : ∃ x, Hid (xs.getD k eS = x) := ⟨_, rfl⟩
            obtain ⟨y, hye⟩ : ∃ y, Hid (ys.getD k eS = y) := ⟨_, rfl⟩
            rw [hxe.out] at cx HO HB
            rw [hye.out] at cy HO HB
            by_cases hxy : x = y
            · have HK := hideN (HO.out hxy)
              have hd : (!(x.toList == y.toList)) = false := by rw [hxy]; simp
              clear hxy HO HB
              go_wp2_with fail
              go_quiet (fail)
              go_wp2_with fail
              first
                | (go_roundw
                   case rel => exact ⟨k + 1, by omega, by go_num, HK, BR.out.1.trans (Below.of_drewN _ _ _), BR.out.2.trans (Below.of_drewN _ _ _)⟩
                   case measure => simp [intOf]; omega)
                | exact ⟨⟨k + 1, by omega, by go_num, HK, BR.out.1.trans (Below.of_drewN _ _ _), BR.out.2.trans (Below.of_drewN _ _ _)⟩, by simp [intOf]; omega⟩
            · have hF : r = false := HB.out hxy
              subst hF
              have hd : (!(x.toList == y.toList)) = true := by
                rw [beq_eq_false_iff_ne.2 (fun e => hxy (bl_inj (by rw [← toList_bl, ← toList_bl, e])))]; rfl
              clear hxy HO HB
              go_wp2_with fail
              go_quiet (fail)
              go_wp2_with fail
              go_ret
              exact ⟨rfl, BR.out.1.trans (Below.of_drewN _ _ _)⟩
          · have hT : r = true := by
              rw [HF.out, eqS_yes]
              have hML : m1 ≤ m2 := by omega
              refine List.ext_getElem (by rw [List.length_take, hL.out, hM.out]; omega) fun j h1 h2 => ?_
              have h3 : j < ys.length := by rw [List.length_take] at h2; omega
              have h4 : j < m1 := by rw [hL.out] at h1; exact h1
              have := hz.out j (by rw [hL.out] at h1; omega)
              simpa [List.getD_eq_getElem?_getD, h1, h3, h4] using this
            subst hT
            go_wp2_with fail
            go_ret
            exact ⟨rfl, BR.out.1⟩
end Go.Proofs.YtcjdhbiiigdmmaaDoor
