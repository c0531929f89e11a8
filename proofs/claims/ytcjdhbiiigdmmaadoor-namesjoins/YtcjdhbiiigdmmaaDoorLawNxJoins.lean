/-
  The path of names.
-/
import Derived.Test.YtcjdhbiiigdmmaaDoorNxLives
import Derived.Test.YtcjdhbiiigdmmaaDoorNxRJo
namespace Go.Proofs.YtcjdhbiiigdmmaaDoor
open Go.RowKit Nx
set_option linter.unusedVariables false
set_option maxRecDepth 100000

theorem jo_size {ps : List (List UInt8)} {p : ByteArray} (h : jo ps = some (bl p)) : p.size ≤ 102 := by
  unfold jo at h
  split at h
  · next e =>
    obtain ⟨h6, hn⟩ := mayP_all e
    have h1 := sl_len (ps := ps) (fun z hz => nameL_len (hn z hz))
    have h2 := Option.some.inj h
    rw [← bl_len, ← h2]
    unfold pth
    split
    · simp
    · omega
  · cases h

set_option maxHeartbeats 1000000 in
theorem namesJoins_walk (v : Value) (ss : List ByteArray) (w : World) (h : RdV w v (strs ss)) : Calls Tryd.prog 4 #[v] w fun e w' => e = .returned (.bool true) ∧ Below w.heap.size w w' := by
  have HV := hideN h
  have c1 := fun W h => join_any v ss W h
  have c2 := fun W h => refJoin_any v ss W h
  have c3 := fun W => lives_anyX W
  have c4 := fun W u v xs h1 h2 => same_any u v xs xs W h1 h2
  obtain ⟨a, ca, rfl, l1, l2, _⟩ := h.len
  rw [strs_len] at c1 c2 HV l1 ⊢
  clear h
  cases hq : jo (ss.map bl) with
  | none =>
    have d1 := (c1 w HV.out).mono fun e w' h => h.no hq
    replace c2 := fun W h => (c2 W h).mono fun e w' h => h.no hq
    clear hq c1 c4
    go_enter Tryd.func4, Tryd.ntmps4
    go_wp2_with (go_at_call 11; refine d1.mono ?_; rintro e w1 ⟨rfl, hb1⟩)
    have d2 := c2 w1 (HV.out.below hb1)
    clear c2 d1
    go_wp2_with (first | (go_at_call 12; refine d2.mono ?_; rintro e w2 ⟨rfl, hb2⟩) | (go_at_call 10; refine (c3 _).mono ?_; rintro e w3 ⟨rfl, hb3⟩; (have h12 := hb1.trans (hb2.mono hb1.size)); (have HB := hideN (h12.trans (hb3.mono h12.size)))))
    go_ret
    exact ⟨rfl, HB.out⟩
  | some p0 =>
    obtain ⟨s, rfl⟩ : ∃ s, bl s = p0 := ⟨mk p0, bl_mk p0⟩
    have HJ := sp_jo hq
    have hz := jo_size hq
    have d1 := (c1 w HV.out).mono fun e w' h => h.yes hq
    replace c2 := fun W h => (c2 W h).mono fun e w' h => h.yes hq
    have c5 := fun W => (split_any s W (by omega)).mono fun e w' h => h.yes HJ
    have hd : (s.toList == s.toList) = true := by simp
    have hd2 : (!(s.toList == s.toList)) = false := by simp
    clear hq c1 hz HJ
    go_enter Tryd.func4, Tryd.ntmps4
    go_wp2_with (go_at_call 11; refine d1.mono ?_; rintro e w1 ⟨rfl, hb1⟩)
    have d2 := c2 w1 (HV.out.below hb1)
    clear c2 d1
    go_wp2_with (go_at_call 12; refine d2.mono ?_; rintro e w2 ⟨rfl, hb2⟩; (have HB2 := hideN (hb1.trans (hb2.mono hb1.size))); (have HV2 := hideN ((HV.out.below hb1).below hb2)); clear hb1 hb2)
    go_wp2_with (go_at_call 7; refine (c5 _).mono ?_; rintro e w3 ⟨a3, m3, k3, xs, rfl, hv3, hb3, hx, hm, l3, l4⟩)
    have hxs : xs = ss := map_bl_inj hx.out
    subst hxs
    have HB3 := hideN (HB2.out.trans (hb3.mono HB2.out.size))
    have d3 := c4 w3 _ _ _ hv3.out (HV2.out.below hb3)
    rw [eqS_yes.2 rfl] at d3
    clear hb3 c5 c4 d2 hx hm
    go_wp2_with (first | (go_at_call 9; refine d3.mono ?_; rintro e w4 ⟨rfl, hb4⟩; (have HB4 := hideN (HB3.out.trans (hb4.mono HB3.out.size))); clear hb4) | (go_at_call 10; refine (c3 _).mono ?_; rintro e w5 ⟨rfl, hb5⟩; (have HB5 := hideN (HB4.out.trans (hb5.mono HB4.out.size)))))
    go_ret
    exact ⟨rfl, HB5.out⟩
end Go.Proofs.YtcjdhbiiigdmmaaDoor
