/-
  The document's May of superblocks.
-/
import Derived.Test.YtdicgaepggffbaaUMay
namespace Go.Proofs.Ytdicgaepggffbaa
open Go.RowKit Pl
set_option linter.unusedVariables false
set_option linter.unusedSimpArgs false
set_option maxRecDepth 100000

/-- What the document's loop knows of the version ahead. -/
def Ahead (vs : List Vn) (k : Nat) (last : Int) : Prop := (k = 0 ∧ last = 0) ∨ ∃ p y, k = p + 1 ∧ vs[p]? = some y ∧ y.id = last ∧ 1 ≤ last

set_option maxHeartbeats 2000000 in
theorem refMayU_any (s : Sp) (v : Value) (w : World) (hr : RdV w v s.vs) :
    Calls Try.prog 11 #[supv s v] w fun e w' => e = .returned (.bool (mayU s)) ∧ Below w.heap.size w w' := by
  obtain ⟨a, cap, rfl, hc1, hc2, _⟩ := id hr
  have HR : Hid (RdV w (.slice a s.vs.length cap) s.vs) := hr
  have hl63 : s.vs.length ≤ 9223372036854775807 := by unfold maxLen at hc2; omega
  obtain ⟨W1, hW1⟩ : ∃ W1, w.alloc (.cells #[.int .i64 s.gen, .int .i64 s.sc, .int .i64 s.nx, .slice a s.vs.length cap] 24) = W1 := ⟨_, rfl⟩
  have B1 : Hid (Below w.heap.size w W1) := by rw [← hW1]; exact (Below.refl _ _).alloc (Nat.le_refl _) _
  have U1 : Hid (Uv W1 w.heap.size s (.slice a s.vs.length cap)) := by rw [← hW1]; exact uv_new w s _
  have q0 := U1.out.c0
  have q1 := U1.out.c1
  have q2 := U1.out.c2
  have q3 := U1.out.c3
  have HM : Hid (mayU s = true ↔ (1 ≤ s.gen ∧ s.gen ≤ 4294967295 ∧ 1 ≤ s.nx ∧ s.nx ≤ 4294967295 ∧ 128 ≤ s.sc ∧ s.sc ≤ 4096 ∧ s.vs.length ≤ 8) ∧ vsOk s.nx s.sc 0 s.vs = true) := mayU_iff
  unfold supv
  obtain ⟨M, hM⟩ : ∃ M, Hid (mayU s = M) := ⟨_, rfl⟩
  obtain ⟨l, hl⟩ : ∃ l, Hid (s.vs.length = l) := ⟨_, rfl⟩
  obtain ⟨ge, hge⟩ : ∃ l, Hid (s.gen = l) := ⟨_, rfl⟩
  obtain ⟨sc, hsc⟩ : ∃ l, Hid (s.sc = l) := ⟨_, rfl⟩
  obtain ⟨nx, hnx⟩ : ∃ l, Hid (s.nx = l) := ⟨_, rfl⟩
  rw [hM.out, hl.out, hge.out, hsc.out, hnx.out] at HM
  rw [hl.out, hge.out, hsc.out, hnx.out] at hW1
  rw [hl.out] at q3 hl63 HR U1
  rw [hge.out] at q0
  rw [hsc.out] at q1
  rw [hnx.out] at q2
  rw [hM.out, hl.out, hge.out, hsc.out, hnx.out]
  clear hr hc1 hc2
  have HF : Hid (¬ (1 ≤ ge ∧ ge ≤ 4294967295 ∧ 1 ≤ nx ∧ nx ≤ 4294967295 ∧ 128 ≤ sc ∧ sc ≤ 4096 ∧ l ≤ 8) → false = M) := fun h => by
    cases M with
    | false => rfl
    | true => exact absurd (HM.out.1 rfl).1 h
  by_cases g1 : ge < 1
  · have HE := hideP (HF.out (by omega))
    clear HM HF
    go_enter Try.func11, Try.ntmps11
    go_wp2_with fail
    go_ret
    exact ⟨by rw [← HE.out]; rfl, B1.out⟩
  have g1d : decide (ge < 1) = false := decide_eq_false g1
  by_cases g2 : ge > 4294967295
  · have HE := hideP (HF.out (by omega))
    clear HM HF
    go_enter Try.func11, Try.ntmps11
    go_wp2_with fail
    go_ret
    exact ⟨by rw [← HE.out]; rfl, B1.out⟩
  have g2d : decide (ge > 4294967295) = false := decide_eq_false g2
  by_cases g3 : nx < 1
  · have HE := hideP (HF.out (by omega))
    clear HM HF
    go_enter Try.func11, Try.ntmps11
    go_wp2_with fail
    go_ret
    exact ⟨by rw [← HE.out]; rfl, B1.out⟩
  have g3d : decide (nx < 1) = false := decide_eq_false g3
  by_cases g4 : nx > 4294967295
  · have HE := hideP (HF.out (by omega))
    clear HM HF
    go_enter Try.func11, Try.ntmps11
    go_wp2_with fail
    go_ret
    exact ⟨by rw [← HE.out]; rfl, B1.out⟩
  have g4d : decide (nx > 4294967295) = false := decide_eq_false g4
  by_cases g5 : sc < 128
  · have HE := hideP (HF.out (by omega))
    clear HM HF
    go_enter Try.func11, Try.ntmps11
    go_wp2_with fail
    go_ret
    exact ⟨by rw [← HE.out]; rfl, B1.out⟩
  have g5d : decide (sc < 128) = false := decide_eq_false g5
  by_cases g6 : sc > 4096
  · have HE := hideP (HF.out (by omega))
    clear HM HF
    go_enter Try.func11, Try.ntmps11
    go_wp2_with fail
    go_ret
    exact ⟨by rw [← HE.out]; rfl, B1.out⟩
  have g6d : decide (sc > 4096) = false := decide_eq_false g6
  by_cases g7 : (l : Int) > 8
  · have HE := hideP (HF.out (by omega))
    clear HM HF
    go_enter Try.func11, Try.ntmps11
    go_wp2_with fail
    go_ret
    exact ⟨by rw [← HE.out]; rfl, B1.out⟩
  have g7d : decide ((l : Int) > 8) = false := decide_eq_false g7
  have HE2 : Hid (vsOk nx sc 0 s.vs = M) := by
    show _ = _
    cases hG : vsOk nx sc 0 s.vs with
    | false =>
      rw [hG] at HM
      cases M with
      | false => rfl
      | true => exact absurd (HM.out.1 rfl).2 (by simp)
    | true =>
      rw [hG] at HM
      exact (HM.out.2 ⟨by omega, rfl⟩).symm
  have hl8 : l ≤ 8 := by omega
  clear HM HF
  go_enter Try.func11, Try.ntmps11
  go_wp2_with fail
  clear hW1 q0 q1 q2 q3
  obtain ⟨g, hg⟩ : ∃ g, Hid (w.heap.size = g) := ⟨_, rfl⟩
  rw [hg.out] at U1 B1 ⊢
  go_loopw [3] (fun i wr => ∃ (k : Nat) (last : Int), k ≤ l ∧ i = .int .i64 k ∧ 0 ≤ last ∧ Hid (vsOk nx sc last (s.vs.drop k) = M) ∧ Hid (Ahead s.vs k last) ∧ Hid (Below g w wr) ∧ Hid (Uv wr g s (.slice a l cap))) (fun i _ => l - (intOf i).toNat)
  case atStart => exact ⟨0, 0, Nat.zero_le _, rfl, by decide, by rw [List.drop_zero]; exact HE2, .inl ⟨rfl, rfl⟩, B1, U1⟩
  case round =>
    clear B1 U1 HE2
    obtain ⟨k, last, hk, rfl, hl0, HK, HAH, B, U⟩ := hrel
    have u3 := U.out.c3
    by_cases hlt : k < l
    · obtain ⟨x, hx⟩ : ∃ x, s.vs[k]? = some x := ⟨_, List.getElem?_eq_getElem (by rw [hl.out]; exact hlt)⟩
      have HXK : Hid (s.vs[k]? = some x) := hx
      obtain ⟨b, o, rfl, VC⟩ := HR.out.at_ (hg.out ▸ B.out : Below w.heap.size w wr) hx
      have v0 := VC.c0
      have v1 := VC.c1
      have v2 := VC.c2
      have v3 := VC.c3
      have HST : Hid ((vOk nx sc last x && vsOk nx sc x.id (s.vs.drop (k + 1))) = M) := by
        show _ = _
        rw [← vsOk_step hx]
        exact HK.out
      have hkl : (k : Int) < (l : Int) := by omega
      obtain ⟨W3, hW3⟩ : ∃ W3, wr.alloc (.cells #[.int .i64 x.id, .int .i64 x.root, .int .i64 x.nx, .bool x.fx] 66) = W3 := ⟨_, rfl⟩
      have bw : Below wr.heap.size wr W3 := by rw [← hW3]; exact (Below.refl _ _).alloc (Nat.le_refl _) _
      have B3 : Hid (Below g w W3) := B.out.trans (bw.mono (Nat.le_of_lt U.out.lt))
      have U3 : Hid (Uv W3 g s (.slice (some ⟨b, o, none⟩) l cap)) := U.out.below bw
      obtain ⟨q, hq⟩ : ∃ q, wr.heap.size = q := ⟨_, rfl⟩
      have V3 : VCell W3 q 0 x := by rw [← hW3, ← hq]; exact (vv_new wr x).cells
      have y0 := V3.c0
      have y1 := V3.c1
      have y2 := V3.c2
      have z1 := U3.out.c1
      have z2 := U3.out.c2
      have z3 := U3.out.c3
      rw [hsc.out] at z1
      rw [hnx.out] at z2
      obtain ⟨xi, hxi⟩ : ∃ n, Hid (x.id = n) := ⟨_, rfl⟩
      obtain ⟨xr, hxr⟩ : ∃ n, Hid (x.root = n) := ⟨_, rfl⟩
      obtain ⟨xn, hxn⟩ : ∃ n, Hid (x.nx = n) := ⟨_, rfl⟩
      have HVO : vOk nx sc last x = true ↔ (last + 1 ≤ xi ∧ xi ≤ nx - 1) ∧ (1 ≤ xn ∧ xn ≤ 16777216) ∧ (xr = 0 ∨ (50 ≤ xr ∧ xr ≤ sc - 1)) := by rw [← hxi.out, ← hxr.out, ← hxn.out]; exact vOk_iff
      have HBAD : Hid (¬ ((last + 1 ≤ xi ∧ xi ≤ nx - 1) ∧ (1 ≤ xn ∧ xn ≤ 16777216) ∧ (xr = 0 ∨ (50 ≤ xr ∧ xr ≤ sc - 1))) → false = M) := fun h => by
        rw [← HST.out]
        cases e : vOk nx sc last x with
        | false => rfl
        | true => exact absurd (HVO.1 e) h
      have HGOOD : Hid (((last + 1 ≤ xi ∧ xi ≤ nx - 1) ∧ (1 ≤ xn ∧ xn ≤ 16777216) ∧ (xr = 0 ∨ (50 ≤ xr ∧ xr ≤ sc - 1))) → vsOk nx sc xi (s.vs.drop (k + 1)) = M) := fun h => by
        rw [← HST.out, HVO.2 h, hxi.out]
        rfl
      rw [hxi.out] at y0 v0 hW3
      rw [hxr.out] at y1 v1 hW3
      rw [hxn.out] at y2 v2 hW3
      generalize x.fx = xf at *
      clear VC V3 HK U B HVO HST hx bw
      by_cases i1 : xi < 1
      · have HE : Hid (false = M) := HBAD.out (by omega)
        clear HBAD HGOOD
        go_wp2_with fail
        go_quiet (fail)
        have B4 : Hid (Below g w (W3.drewN nq)) := B3.out.trans (Below.of_drewN _ _ _)
        go_wp2_with fail
        go_ret
        exact ⟨by rw [← HE.out]; rfl, by rw [hg.out]; exact B4.out⟩
      have i1d : decide (xi < 1) = false := decide_eq_false i1
      by_cases i2 : xi ≥ nx
      · have HE : Hid (false = M) := HBAD.out (by omega)
        have i2x : nx ≤ xi := i2
        clear HBAD HGOOD
        go_wp2_with fail
        go_quiet (fail)
        have B4 : Hid (Below g w (W3.drewN nq)) := B3.out.trans (Below.of_drewN _ _ _)
        go_wp2_with fail
        go_ret
        exact ⟨by rw [← HE.out]; rfl, by rw [hg.out]; exact B4.out⟩
      have i2d : decide (xi ≥ nx) = false := decide_eq_false i2
      have i2e : decide (nx ≤ xi) = false := decide_eq_false i2
      rcases HAH.out with ⟨hk0, hlast⟩ | ⟨p, y, hkp, hy, hyl, hy1⟩
      · have k0d : decide ((k : Int) > 0) = false := by rw [decide_eq_false_iff_not]; omega
        have k0e : decide (0 < k) = false := by rw [decide_eq_false_iff_not]; omega
        have HK0 : Hid (k = 0 ∧ last = 0) := ⟨hk0, hlast⟩
        have hge1 : last + 1 ≤ xi := by omega
        clear hk0 hlast
        go_wp2_with fail
        go_quiet (fail)
        have B4 : Hid (Below g w (W3.drewN nq)) := B3.out.trans (Below.of_drewN _ _ _)
        have U4 : Hid (Uv (W3.drewN nq) g s (.slice (some ⟨b, o, none⟩) l cap)) := U3
        by_cases r0 : xr = 0
        · subst r0
          by_cases n1 : xn < 1
          · have HE : Hid (false = M) := HBAD.out (by omega)
            clear HBAD HGOOD
            go_wp2_with fail
            go_ret
            exact ⟨by rw [← HE.out]; rfl, by rw [hg.out]; exact B4.out⟩
          have n1d : decide (xn < 1) = false := decide_eq_false n1
          by_cases n2 : xn > 16777216
          · have HE : Hid (false = M) := HBAD.out (by omega)
            clear HBAD HGOOD
            go_wp2_with fail
            go_ret
            exact ⟨by rw [← HE.out]; rfl, by rw [hg.out]; exact B4.out⟩
          have n2d : decide (xn > 16777216) = false := decide_eq_false n2
          have HN := hideP (HGOOD.out (by omega))
          have HA : Hid (Ahead s.vs (k + 1) xi) := .inr ⟨k, x, rfl, HXK.out, hxi.out, by omega⟩
          clear HBAD HGOOD n1 n2
          go_wp2_with fail
          go_roundw
          case rel => exact ⟨k + 1, xi, by omega, by go_num, by omega, HN, HA, B4, U4⟩
          case measure => simp [intOf]; omega
        have r0d : (xr == 0) = false := by rw [beq_eq_false_iff_ne]; exact r0
        by_cases r1 : xr < 50
        · have HE : Hid (false = M) := HBAD.out (by omega)
          clear HBAD HGOOD
          go_wp2_with fail
          go_ret
          exact ⟨by rw [← HE.out]; rfl, by rw [hg.out]; exact B4.out⟩
        have r1d : decide (xr < 50) = false := decide_eq_false r1
        by_cases r2 : xr ≥ sc
        · have HE : Hid (false = M) := HBAD.out (by omega)
          clear HBAD HGOOD
          go_wp2_with fail
          go_ret
          exact ⟨by rw [← HE.out]; rfl, by rw [hg.out]; exact B4.out⟩
        have r2d : decide (xr ≥ sc) = false := decide_eq_false r2
        have r2e : decide (sc ≤ xr) = false := decide_eq_false r2
        by_cases n1 : xn < 1
        · have HE : Hid (false = M) := HBAD.out (by omega)
          clear HBAD HGOOD
          go_wp2_with fail
          go_ret
          exact ⟨by rw [← HE.out]; rfl, by rw [hg.out]; exact B4.out⟩
        have n1d : decide (xn < 1) = false := decide_eq_false n1
        by_cases n2 : xn > 16777216
        · have HE : Hid (false = M) := HBAD.out (by omega)
          clear HBAD HGOOD
          go_wp2_with fail
          go_ret
          exact ⟨by rw [← HE.out]; rfl, by rw [hg.out]; exact B4.out⟩
        have n2d : decide (xn > 16777216) = false := decide_eq_false n2
        have HN := hideP (HGOOD.out (by omega))
        have HA : Hid (Ahead s.vs (k + 1) xi) := .inr ⟨k, x, rfl, HXK.out, hxi.out, by omega⟩
        clear HBAD HGOOD n1 n2
        go_wp2_with fail
        go_roundw
        case rel => exact ⟨k + 1, xi, by omega, by go_num, by omega, HN, HA, B4, U4⟩
        case measure => simp [intOf]; omega
      · obtain ⟨b', o', eb, YC⟩ := HR.out.at_ (hg.out ▸ B3.out : Below w.heap.size w W3) hy
        cases eb
        have p0 := YC.c0
        rw [hyl] at p0
        have k0 : (k : Int) > 0 := by omega
        have k0n : 0 < k := by omega
        have k1 : (k : Int) - 1 = (p : Int) := by omega
        have pl : (p : Int) < (l : Int) := by omega
        clear YC hkp hy hyl
        by_cases i3 : last ≥ xi
        · have HE : Hid (false = M) := HBAD.out (by omega)
          have i3x : xi ≤ last := i3
          clear HBAD HGOOD
          go_wp2_with fail
          go_quiet (fail)
          have B4 : Hid (Below g w (W3.drewN nq)) := B3.out.trans (Below.of_drewN _ _ _)
          go_wp2_with fail
          go_ret
          exact ⟨by rw [← HE.out]; rfl, by rw [hg.out]; exact B4.out⟩
        have i3d : decide (last ≥ xi) = false := decide_eq_false i3
        have i3e : decide (xi ≤ last) = false := decide_eq_false i3
        have hge1 : last + 1 ≤ xi := by omega
        go_wp2_with fail
        go_quiet (fail)
        have B4 : Hid (Below g w (W3.drewN nq)) := B3.out.trans (Below.of_drewN _ _ _)
        have U4 : Hid (Uv (W3.drewN nq) g s (.slice (some ⟨b, o, none⟩) l cap)) := U3
        by_cases r0 : xr = 0
        · subst r0
          by_cases n1 : xn < 1
          · have HE : Hid (false = M) := HBAD.out (by omega)
            clear HBAD HGOOD
            go_wp2_with fail
            go_ret
            exact ⟨by rw [← HE.out]; rfl, by rw [hg.out]; exact B4.out⟩
          have n1d : decide (xn < 1) = false := decide_eq_false n1
          by_cases n2 : xn > 16777216
          · have HE : Hid (false = M) := HBAD.out (by omega)
            clear HBAD HGOOD
            go_wp2_with fail
            go_ret
            exact ⟨by rw [← HE.out]; rfl, by rw [hg.out]; exact B4.out⟩
          have n2d : decide (xn > 16777216) = false := decide_eq_false n2
          have HN := hideP (HGOOD.out (by omega))
          have HA : Hid (Ahead s.vs (k + 1) xi) := .inr ⟨k, x, rfl, HXK.out, hxi.out, by omega⟩
          clear HBAD HGOOD n1 n2
          go_wp2_with fail
          go_roundw
          case rel => exact ⟨k + 1, xi, by omega, by go_num, by omega, HN, HA, B4, U4⟩
          case measure => simp [intOf]; omega
        have r0d : (xr == 0) = false := by rw [beq_eq_false_iff_ne]; exact r0
        by_cases r1 : xr < 50
        · have HE : Hid (false = M) := HBAD.out (by omega)
          clear HBAD HGOOD
          go_wp2_with fail
          go_ret
          exact ⟨by rw [← HE.out]; rfl, by rw [hg.out]; exact B4.out⟩
        have r1d : decide (xr < 50) = false := decide_eq_false r1
        by_cases r2 : xr ≥ sc
        · have HE : Hid (false = M) := HBAD.out (by omega)
          clear HBAD HGOOD
          go_wp2_with fail
          go_ret
          exact ⟨by rw [← HE.out]; rfl, by rw [hg.out]; exact B4.out⟩
        have r2d : decide (xr ≥ sc) = false := decide_eq_false r2
        have r2e : decide (sc ≤ xr) = false := decide_eq_false r2
        by_cases n1 : xn < 1
        · have HE : Hid (false = M) := HBAD.out (by omega)
          clear HBAD HGOOD
          go_wp2_with fail
          go_ret
          exact ⟨by rw [← HE.out]; rfl, by rw [hg.out]; exact B4.out⟩
        have n1d : decide (xn < 1) = false := decide_eq_false n1
        by_cases n2 : xn > 16777216
        · have HE : Hid (false = M) := HBAD.out (by omega)
          clear HBAD HGOOD
          go_wp2_with fail
          go_ret
          exact ⟨by rw [← HE.out]; rfl, by rw [hg.out]; exact B4.out⟩
        have n2d : decide (xn > 16777216) = false := decide_eq_false n2
        have HN := hideP (HGOOD.out (by omega))
        have HA : Hid (Ahead s.vs (k + 1) xi) := .inr ⟨k, x, rfl, HXK.out, hxi.out, by omega⟩
        clear HBAD HGOOD n1 n2
        go_wp2_with fail
        go_roundw
        case rel => exact ⟨k + 1, xi, by omega, by go_num, by omega, HN, HA, B4, U4⟩
        case measure => simp [intOf]; omega
    · have hkl : ¬ (k : Int) < (l : Int) := by omega
      have HE : Hid (true = M) := by
        show true = M
        rw [← HK.out, List.drop_of_length_le (by rw [hl.out]; omega)]
        rfl
      clear HK
      go_wp2_with fail
      go_ret
      exact ⟨by rw [← HE.out]; rfl, by rw [hg.out]; exact B.out⟩
end Go.Proofs.Ytdicgaepggffbaa
