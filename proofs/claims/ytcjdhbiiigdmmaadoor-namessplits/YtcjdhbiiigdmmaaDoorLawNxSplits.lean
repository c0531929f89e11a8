/-
  A path's names.
-/
import Derived.Test.YtcjdhbiiigdmmaaDoorNxLives
import Derived.Test.YtcjdhbiiigdmmaaDoorNxRSp
namespace Go.Proofs.YtcjdhbiiigdmmaaDoor
open Go.RowKit Nx
set_option linter.unusedVariables false
set_option maxRecDepth 100000

set_option maxHeartbeats 1000000 in
theorem namesSplits_walk (s : ByteArray) (w : World) (hs : s.size ≤ 140737488351232) : Calls Tryd.prog 3 #[.string s] w fun e w' => e = .returned (.bool true) ∧ Below w.heap.size w w' := by
  have c1 := fun W => split_any s W hs
  have c2 := fun W => refSplit_any s W hs
  have c3 := fun W => lives_anyX W
  have c4 := fun W u v xs h1 h2 => same_any u v xs xs W h1 h2
  have c5 := fun W v xs h => join_any v xs W h
  have hd : (s.toList == s.toList) = true := by simp
  clear hs
  cases hq : sp (bl s) with
  | none =>
    replace c1 := fun W => (c1 W).mono fun e w' h => h.no hq
    replace c2 := fun W => (c2 W).mono fun e w' h => h.no hq
    clear hq c5 hd
    go_enter Tryd.func3, Tryd.ntmps3
    go_wp2_with (go_at_call 7; refine (c1 _).mono ?_; rintro e w1 ⟨a1, k1, rfl, hv1, hb1⟩)
    clear c1
    go_wp2_with (go_at_call 8; refine (c2 _).mono ?_; rintro e w2 ⟨a2, k2, rfl, hv2, hb2⟩)
    have HB2 := hideN (hb1.trans (hb2.mono hb1.size))
    have c6 := c4 w2 _ _ _ (hv1.out.below hb2) hv2.out
    rw [eqS_yes.2 rfl] at c6
    clear hb1 hb2 hv1 hv2 c2 c4
    go_wp2_with (go_at_call 9; refine c6.mono ?_; rintro e w3 ⟨rfl, hb3⟩)
    have HB3 := hideN (HB2.out.trans (hb3.mono HB2.out.size))
    clear hb3 HB2 c6
    go_wp2_with (go_at_call 10; refine (c3 _).mono ?_; rintro e w4 ⟨rfl, hb4⟩)
    go_ret
    exact ⟨rfl, HB3.out.trans (hb4.mono HB3.out.size)⟩
  | some q =>
    have HJ := hideN (jo_sp hq)
    replace c1 := fun W => (c1 W).mono fun e w' h => h.yes hq
    replace c2 := fun W => (c2 W).mono fun e w' h => h.yes hq
    clear hq
    go_enter Tryd.func3, Tryd.ntmps3
    go_wp2_with (go_at_call 7; refine (c1 _).mono ?_; rintro e w1 ⟨a1, m1, k1, xs, rfl, hv1, hb1, hx, hm, l1, l2⟩)
    clear c1
    go_wp2_with (go_at_call 8; refine (c2 _).mono ?_; rintro e w2 ⟨a2, m2, k2, ys, rfl, hv2, hb2, hy, hn, l3, l4⟩)
    have hxy : xs = ys := map_bl_inj (by rw [hx.out, hy.out])
    subst hxy
    have HB2 := hideN (hb1.trans (hb2.mono hb1.size))
    have HV2 := hideN (hv1.out.below hb2)
    have c6 := c4 w2 _ _ _ HV2.out hv2.out
    rw [eqS_yes.2 rfl] at c6
    clear hb1 hb2 hv1 hv2 c2 c4 hm hn hy
    go_wp2_with (go_at_call 9; refine c6.mono ?_; rintro e w3 ⟨rfl, hb3⟩)
    have HB3 := hideN (HB2.out.trans (hb3.mono HB2.out.size))
    have c7 := (c5 w3 _ _ (HV2.out.below hb3)).mono fun e w' h => h.yes (by rw [hx.out]; exact HJ.out)
    clear hb3 HB2 c6 c5
    go_wp2_with (first | (go_at_call 11; refine c7.mono ?_; rintro e w4 ⟨rfl, hb4⟩; (have HB4 := hideN (HB3.out.trans (hb4.mono HB3.out.size))); clear hb4) | (go_at_call 10; refine (c3 _).mono ?_; rintro e w5 ⟨rfl, hb5⟩; (have HB5 := hideN (HB4.out.trans (hb5.mono HB4.out.size)))))
    go_ret
    exact ⟨rfl, HB5.out⟩
end Go.Proofs.YtcjdhbiiigdmmaaDoor
