/-
  Under, of the program.
-/
import Derived.Test.YtcjdhbiiigdmmaaDoorNxPath
import Derived.Test.YtcjdhbiiigdmmaaDoorNxSame
namespace Go.Proofs.YtcjdhbiiigdmmaaDoor
open Go.RowKit Nx
set_option linter.unusedVariables false
set_option maxRecDepth 100000

theorem und_no1 {p q : List UInt8} (h : sp p = none) : und p q = false := by unfold und; rw [h]
theorem und_no2 {p q : List UInt8} (h : sp q = none) : und p q = false := by unfold und; rw [h]; split <;> simp_all
theorem map_bl_inj {xs ys : List ByteArray} (h : xs.map bl = ys.map bl) : xs = ys := by
  induction xs generalizing ys with
  | nil => cases ys with
    | nil => rfl
    | cons y ys => cases h
  | cons x xs ih => cases ys with
    | nil => cases h
    | cons y ys =>
      simp only [List.map_cons, List.cons.injEq] at h
      rw [bl_inj h.1, ih h.2]
theorem und_some {p q : List UInt8} {xs ys : List ByteArray} (h : sp p = some (xs.map bl)) (h2 : sp q = some (ys.map bl)) : und p q = (decide (xs.length ≤ ys.length) && eqS xs (ys.take xs.length)) := by
  unfold und
  rw [h, h2]
  simp only [List.length_map]
  by_cases hl : xs.length ≤ ys.length
  · rw [decide_eq_true hl, Bool.true_and]
    by_cases he : xs = ys.take xs.length
    · rw [eqS_yes.2 he, decide_eq_true]
      refine ⟨hl, ?_⟩
      rw [← List.map_take, ← he]
    · rw [eqS_no.2 he, decide_eq_false]
      rintro ⟨_, e⟩
      rw [← List.map_take] at e
      exact he (map_bl_inj e)
  · rw [decide_eq_false hl, decide_eq_false (fun e => hl e.1), Bool.false_and]
theorem RdV.upto {w : World} {a : Option Addr} {l cap : Nat} {ss : List ByteArray} (h : RdV w (.slice a l cap) (strs ss)) (n : Nat) (hn : n ≤ ss.length) : RdV w (.slice a n cap) (strs (ss.take n)) := by
  obtain ⟨a', cap', e, hl, hm, h0, h⟩ := h
  cases e
  rw [strs_len] at hl
  have e1 : (strs (ss.take n)).length = n := by rw [strs_len, List.length_take]; omega
  refine ⟨a, cap, by rw [e1], by rw [e1]; omega, hm, h0, ?_⟩
  rcases h with h | ⟨b, o, rfl, hc⟩
  · left
    have : ss = [] := by simpa [strs] using h
    rw [this]; simp [strs]
  · refine .inr ⟨b, o, rfl, fun i c hi => hc i c ?_⟩
    unfold strs at hi ⊢
    rw [List.map_take, List.getElem?_take] at hi
    split at hi
    · exact hi
    · cases hi

theorem und_none {p q : List UInt8} (h : sp p = none ∨ sp q = none) : und p q = false := by
  rcases h with h | h
  · exact und_no1 h
  · exact und_no2 h

set_option maxHeartbeats 1000000 in
theorem under_any (a b : ByteArray) (w : World) (ha : a.size ≤ 140737488351232) (hb : b.size ≤ 140737488351232) :
    Calls Tryd.prog 15 #[.string a, .string b] w fun e w' => e = .returned (.bool (und (bl a) (bl b))) ∧ Below w.heap.size w w' := by
  have c1 := split_any a w ha
  have c2 := fun W => split_any b W hb
  obtain ⟨p, hp⟩ : ∃ p, bl a = p := ⟨_, rfl⟩
  obtain ⟨q, hq⟩ : ∃ q, bl b = q := ⟨_, rfl⟩
  rw [hp] at c1 ⊢
  rw [hq] at c2 ⊢
  clear hp hq ha hb
  obtain ⟨r, hr⟩ : ∃ r, Hid (und p q = r) := ⟨_, rfl⟩
  rw [hr.out]
  cases h1 : sp p with
  | none =>
    have hF : r = false := by rw [← hr.out]; exact und_none (.inl h1)
    subst hF
    replace c1 := c1.mono fun e w' h => h.no h1
    clear h1 hr c2
    go_enter Tryd.func15, Tryd.ntmps15
    go_wp2_with (go_at_call 7; with_reducible refine c1.mono ?_; rintro e w1 ⟨a1, k1, rfl, hv1, hb1⟩)
    go_ret
    exact ⟨rfl, hb1⟩
  | some x =>
    have H1 := hideN h1
    replace c1 := c1.mono fun e w' h => h.yes h1
    clear h1
    cases h2 : sp q with
    | none =>
      have hF : r = false := by rw [← hr.out]; exact und_none (.inr h2)
      subst hF
      replace c2 := fun W => (c2 W).mono fun e w' h => h.no h2
      clear h2 hr
      go_enter Tryd.func15, Tryd.ntmps15
      go_wp2_with (go_at_call 7; with_reducible refine c1.mono ?_; rintro e w1 ⟨a1, m1, k1, xs, rfl, hv1, hb1, hx, hm, l1, l2⟩)
      clear c1
      go_wp2_with fail
      refine (c2 _).mono ?_
      rintro e w2 ⟨a2, k2, rfl, hv2, hb2⟩
      go_wp2_with fail
      go_ret
      exact ⟨rfl, hb1.trans (hb2.mono hb1.size)⟩
    | some y =>
      have H2 := hideN h2
      replace c2 := fun W => (c2 W).mono fun e w' h => h.yes h2
      clear h2
      go_enter Tryd.func15, Tryd.ntmps15
      go_wp2_with (go_at_call 7; with_reducible refine c1.mono ?_; rintro e w1 ⟨a1, m1, k1, xs, rfl, hv1, hb1, hx, hm, l1, l2⟩)
      have HB1 := hideN hb1
      clear hb1 c1
      go_wp2_with (go_at_call 7; with_reducible refine (c2 _).mono ?_; rintro e w2 ⟨a2, m2, k2, ys, rfl, hv2, hb2, hy, hn, l3, l4⟩; refine Hid.out ?_)
      have HB2 := hideN (HB1.out.trans (hb2.mono HB1.out.size))
      have HV1 := hideN (hv1.out.below hb2)
      have HU : Hid (r = (decide (m1 ≤ m2) && eqS xs (ys.take m1))) := by
        have e : r = (decide (m1 ≤ m2) && eqS xs (ys.take m1)) := by
          rw [← hr.out, und_some (xs := xs) (ys := ys) (by rw [hx.out]; exact H1.out) (by rw [hy.out]; exact H2.out), hm.out, hn.out]
        exact e
      clear c2 hb2 hv1 HB1 H1 H2 hx hy hr
      by_cases hl : (m2 : Int) < (m1 : Int)
      · have hF : r = false := by rw [HU.out, decide_eq_false (by omega)]; rfl
        subst hF
        refine hideN ?_
        go_wp2_with fail
        go_ret
        exact ⟨rfl, HB2.out⟩
      · have hF : eqS xs (ys.take m1) = r := by rw [HU.out, decide_eq_true (by omega), Bool.true_and]
        have HV2 : Hid (RdV w2 (.slice a2 m1 k2) (strs (ys.take m1))) := hv2.out.upto m1 (by rw [hn.out]; omega)
        have d := equal_any _ _ xs (ys.take m1) w2 HV1.out HV2.out
        rw [hF] at d
        clear HU hF
        refine hideN ?_
        go_wp2_with (go_at_call 23; refine d.mono ?_; rintro e w3 ⟨rfl, hb3⟩)
        go_ret
        exact ⟨rfl, HB2.out.trans (hb3.mono HB2.out.size)⟩
end Go.Proofs.YtcjdhbiiigdmmaaDoor
