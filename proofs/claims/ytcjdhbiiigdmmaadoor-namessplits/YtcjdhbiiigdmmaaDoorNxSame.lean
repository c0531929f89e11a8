/-
  When two lists of texts are the same.
-/
import Derived.Test.YtcjdhbiiigdmmaaDoorNxMem
namespace Go.Proofs.YtcjdhbiiigdmmaaDoor
open Go.RowKit Nx
set_option linter.unusedVariables false
set_option maxRecDepth 100000
open Classical in
noncomputable def eqS (xs ys : List ByteArray) : Bool := decide (xs = ys)
theorem eqS_yes {xs ys : List ByteArray} : eqS xs ys = true ↔ xs = ys := by unfold eqS; exact decide_eq_true_iff
theorem eqS_no {xs ys : List ByteArray} : eqS xs ys = false ↔ ¬ xs = ys := by unfold eqS; exact decide_eq_false_iff_not

set_option maxHeartbeats 1000000 in
theorem equal_any (u v : Value) (xs ys : List ByteArray) (w : World) (hx : RdV w u (strs xs)) (hy : RdV w v (strs ys)) :
    Calls Tryd.prog 23 #[u, v] w fun e w' => e = .returned (.bool (eqS xs ys)) ∧ Below w.heap.size w w' := by
  obtain ⟨a, ca, rfl, l1, l2, _⟩ := hx.len
  obtain ⟨b, cb, rfl, l3, l4, _⟩ := hy.len
  have HX := hideN hx
  have HY := hideN hy
  rw [strs_len] at HX l1 ⊢
  rw [strs_len] at HY l3 ⊢
  obtain ⟨r, hr⟩ : ∃ r, Hid (eqS xs ys = r) := ⟨_, rfl⟩
  rw [hr.out]
  by_cases hl : xs.length = ys.length
  · rw [← hl] at HY l3 ⊢
    have HL := hideN hl
    obtain ⟨L, hL⟩ : ∃ L, Hid (xs.length = L) := ⟨_, rfl⟩
    rw [hL.out] at HX HY l1 l3 ⊢
    clear hx hy hl
    go_enter Tryd.func23, Tryd.ntmps23
    go_wp2_with fail
    go_loopw [13] (fun i wr => ∃ (k : Nat), k ≤ L ∧ i = .int .i64 k ∧ Hid (∀ j, j < k → xs.getD j eS = ys.getD j eS) ∧ Hid (Below w.heap.size w wr)) (fun i _ => L - (intOf i).toNat)
    case atStart => exact ⟨0, Nat.zero_le _, rfl, fun j hj => by omega, Below.refl _ _⟩
    case round =>
      obtain ⟨k, hk, rfl, hz, BR⟩ := hrel
      by_cases hlt : k < L
      · obtain ⟨b1, o1, rfl, cx⟩ := (HX.out.below BR.out).str (i := k) (by rw [hL.out]; exact hlt)
        obtain ⟨b2, o2, rfl, cy⟩ := (HY.out.below BR.out).str (i := k) (by rw [← HL.out, hL.out]; exact hlt)
        have HO : Hid (xs.getD k eS = ys.getD k eS → ∀ j, j < k + 1 → xs.getD j eS = ys.getD j eS) := fun h0 j hj => by
          by_cases e : j < k
          · exact hz.out j e
          · have : j = k := by omega
            rw [this]; exact h0
        have HB : Hid (¬ xs.getD k eS = ys.getD k eS → r = false) := fun h0 => by
          rw [← hr.out, eqS_no]
          intro e
          exact h0 (by rw [e])
        obtain ⟨x, hxe⟩ : ∃ x, Hid (xs.getD k eS = x) := ⟨_, rfl⟩
        obtain ⟨y, hye⟩ : ∃ y, Hid (ys.getD k eS = y) := ⟨_, rfl⟩
        rw [hxe.out] at cx HO HB
        rw [hye.out] at cy HO HB
        by_cases hxy : x = y
        · have HK := hideN (HO.out hxy)
          have hd : (!(x.toList == y.toList)) = false := by rw [hxy]; simp
          clear hxy HO HB
          go_wp2_with fail
          go_quiet (fail)
          go_wp2_with fail
          first
            | (go_roundw
               case rel => exact ⟨k + 1, by omega, by go_num, HK, BR.out.trans (Below.of_drewN _ _ _)⟩
               case measure => simp [intOf]; omega)
            | exact ⟨⟨k + 1, by omega, by go_num, HK, BR.out.trans (Below.of_drewN _ _ _)⟩, by simp [intOf]; omega⟩
        · have hF : r = false := HB.out hxy
          subst hF
          have hd : (!(x.toList == y.toList)) = true := by
            rw [beq_eq_false_iff_ne.2 (fun e => hxy (bl_inj (by rw [← toList_bl, ← toList_bl, e])))]; rfl
          clear hxy HO HB
          go_wp2_with fail
          go_quiet (fail)
          go_wp2_with fail
          go_ret
          exact ⟨rfl, BR.out.trans (Below.of_drewN _ _ _)⟩
      · have hF : r = true := by
          rw [← hr.out, eqS_yes]
          refine List.ext_getElem (by rw [← HL.out]) fun j h1 h2 => ?_
          have := hz.out j (by rw [hL.out] at h1; omega)
          simpa [List.getD_eq_getElem?_getD, h1, h2] using this
        subst hF
        go_wp2_with fail
        go_ret
        exact ⟨rfl, BR.out⟩
  · have hF : r = false := by
      rw [← hr.out, eqS_no]
      intro e
      exact hl (by rw [e])
    subst hF
    have hd : ((xs.length : Int) == (ys.length : Int)) = false := beq_eq_false_iff_ne.2 (by omega)
    clear hx hy hl
    go_enter Tryd.func23, Tryd.ntmps23
    go_wp2_with fail
    go_ret
    exact ⟨rfl, Below.refl _ _⟩

set_option maxHeartbeats 1000000 in
theorem same_any (u v : Value) (xs ys : List ByteArray) (w : World) (hx : RdV w u (strs xs)) (hy : RdV w v (strs ys)) :
    Calls Tryd.prog 9 #[u, v] w fun e w' => e = .returned (.bool (eqS xs ys)) ∧ Below w.heap.size w w' := by
  obtain ⟨a, ca, rfl, l1, l2, _⟩ := hx.len
  obtain ⟨b, cb, rfl, l3, l4, _⟩ := hy.len
  have HX := hideN hx
  have HY := hideN hy
  rw [strs_len] at HX l1 ⊢
  rw [strs_len] at HY l3 ⊢
  obtain ⟨r, hr⟩ : ∃ r, Hid (eqS xs ys = r) := ⟨_, rfl⟩
  rw [hr.out]
  by_cases hl : xs.length = ys.length
  · rw [← hl] at HY l3 ⊢
    have HL := hideN hl
    obtain ⟨L, hL⟩ : ∃ L, Hid (xs.length = L) := ⟨_, rfl⟩
    rw [hL.out] at HX HY l1 l3 ⊢
    clear hx hy hl
    go_enter Tryd.func9, Tryd.ntmps9
    go_wp2_with fail
    go_loopw [5] (fun i wr => ∃ (k : Nat), k ≤ L ∧ i = .int .i64 k ∧ Hid (∀ j, j < k → xs.getD j eS = ys.getD j eS) ∧ Hid (Below w.heap.size w wr)) (fun i _ => L - (intOf i).toNat)
    case atStart => exact ⟨0, Nat.zero_le _, rfl, fun j hj => by omega, Below.refl _ _⟩
    case round =>
      obtain ⟨k, hk, rfl, hz, BR⟩ := hrel
      by_cases hlt : k < L
      · obtain ⟨b1, o1, rfl, cx⟩ := (HX.out.below BR.out).str (i := k) (by rw [hL.out]; exact hlt)
        obtain ⟨b2, o2, rfl, cy⟩ := (HY.out.below BR.out).str (i := k) (by rw [← HL.out, hL.out]; exact hlt)
        have HO : Hid (xs.getD k eS = ys.getD k eS → ∀ j, j < k + 1 → xs.getD j eS = ys.getD j eS) := fun h0 j hj => by
          by_cases e : j < k
          · exact hz.out j e
          · have : j = k := by omega
            rw [this]; exact h0
        have HB : Hid (¬ xs.getD k eS = ys.getD k eS → r = false) := fun h0 => by
          rw [← hr.out, eqS_no]
          intro e
          exact h0 (by rw [e])
        obtain ⟨x, hxe⟩ : ∃ x, Hid (xs.getD k eS = x) := ⟨_, rfl⟩
        obtain ⟨y, hye⟩ : ∃ y, Hid (ys.getD k eS = y) := ⟨_, rfl⟩
        rw [hxe.out] at cx HO HB
        rw [hye.out] at cy HO HB
        by_cases hxy : x = y
        · have HK := hideN (HO.out hxy)
          have hd : (!(x.toList == y.toList)) = false := by rw [hxy]; simp
          clear hxy HO HB
          go_wp2_with fail
          go_quiet (fail)
          go_wp2_with fail
          first
            | (go_roundw
               case rel => exact ⟨k + 1, by omega, by go_num, HK, BR.out.trans (Below.of_drewN _ _ _)⟩
               case measure => simp [intOf]; omega)
            | exact ⟨⟨k + 1, by omega, by go_num, HK, BR.out.trans (Below.of_drewN _ _ _)⟩, by simp [intOf]; omega⟩
        · have hF : r = false := HB.out hxy
          subst hF
          have hd : (!(x.toList == y.toList)) = true := by
            rw [beq_eq_false_iff_ne.2 (fun e => hxy (bl_inj (by rw [← toList_bl, ← toList_bl, e])))]; rfl
          clear hxy HO HB
          go_wp2_with fail
          go_quiet (fail)
          go_wp2_with fail
          go_ret
          exact ⟨rfl, BR.out.trans (Below.of_drewN _ _ _)⟩
      · have hF : r = true := by
          rw [← hr.out, eqS_yes]
          refine List.ext_getElem (by rw [← HL.out]) fun j h1 h2 => ?_
          have := hz.out j (by rw [hL.out] at h1; omega)
          simpa [List.getD_eq_getElem?_getD, h1, h2] using this
        subst hF
        go_wp2_with fail
        go_ret
        exact ⟨rfl, BR.out⟩
  · have hF : r = false := by
      rw [← hr.out, eqS_no]
      intro e
      exact hl (by rw [e])
    subst hF
    have hd : ((xs.length : Int) == (ys.length : Int)) = false := beq_eq_false_iff_ne.2 (by omega)
    clear hx hy hl
    go_enter Tryd.func9, Tryd.ntmps9
    go_wp2_with fail
    go_ret
    exact ⟨rfl, Below.refl _ _⟩
end Go.Proofs.YtcjdhbiiigdmmaaDoor
