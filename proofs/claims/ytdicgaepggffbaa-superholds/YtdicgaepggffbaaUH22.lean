import Derived.Test.YtdicgaepggffbaaUH04
import Derived.Test.YtdicgaepggffbaaUH06
/-
  The program's May.
-/
namespace Go.Proofs.Ytdicgaepggffbaa
open Go.RowKit Pl
set_option linter.unusedVariables false
set_option linter.unusedSimpArgs false
set_option maxRecDepth 100000

set_option maxHeartbeats 400000 in
theorem within_any (n l m : Int) (w : World) : Calls Try.prog 38 #[.int .i64 n, .int .i64 l, .int .i64 m] w fun e w' => e = .returned (.bool (decide (l ≤ n) && decide (n ≤ m))) ∧ w' = w := by
  by_cases h1 : l ≤ n
  · by_cases h2 : n ≤ m
    · have e : (decide (l ≤ n) && decide (n ≤ m)) = true := by rw [decide_eq_true h1, decide_eq_true h2]; rfl
      rw [e]
      have h3 : n ≥ l := h1
      clear e
      go_enter Try.func38, Try.ntmps38
      go_wp2_with fail
      go_ret
      exact ⟨rfl, rfl⟩
    · have e : (decide (l ≤ n) && decide (n ≤ m)) = false := by rw [decide_eq_true h1, decide_eq_false h2]; rfl
      rw [e]
      have h3 : n ≥ l := h1
      have h4 : decide (n ≤ m) = false := decide_eq_false h2
      clear e h2
      go_enter Try.func38, Try.ntmps38
      go_wp2_with fail
      go_ret
      exact ⟨rfl, rfl⟩
  · have e : (decide (l ≤ n) && decide (n ≤ m)) = false := by rw [decide_eq_false h1]; rfl
    rw [e]
    have h4 : decide (l ≤ n) = false := decide_eq_false h1
    have h5 : decide (n ≥ l) = false := h4
    clear e h1
    go_enter Try.func38, Try.ntmps38
    go_wp2_with fail
    go_ret
    exact ⟨rfl, rfl⟩

/-- A variable that is a version. -/
def Vv (w : World) (b : Nat) (x : Vn) : Prop := w.heap[b]? = some (.cells #[.int .i64 x.id, .int .i64 x.root, .int .i64 x.nx, .bool x.fx] 66 (0, 0))
theorem Vv.cells {w : World} {b : Nat} {x : Vn} (h : Vv w b x) : VCell w b 0 x :=
  ⟨by rw [cell_of_row w b 0 _ _ (0, 0) h]; rfl, by rw [cell_of_row w b 1 _ _ (0, 0) h]; rfl, by rw [cell_of_row w b 2 _ _ (0, 0) h]; rfl, by rw [cell_of_row w b 3 _ _ (0, 0) h]; rfl⟩
theorem vv_new (w : World) (x : Vn) : Vv (w.alloc (.cells #[.int .i64 x.id, .int .i64 x.root, .int .i64 x.nx, .bool x.fx] 66)) w.heap.size x := heap_alloc_new w _

theorem vsOk_step {nx sc last : Int} {vs : List Vn} {k : Nat} {x : Vn} (hk : vs[k]? = some x) : vsOk nx sc last (vs.drop k) = (vOk nx sc last x && vsOk nx sc x.id (vs.drop (k + 1))) := by
  obtain ⟨hl, e⟩ := List.getElem?_eq_some_iff.1 hk
  rw [List.drop_eq_getElem_cons hl, e]
  rfl

set_option maxHeartbeats 1000000 in
theorem versionsMay_any (s : Sp) (v : Value) (w : World) (hr : RdV w v s.vs) (hn0 : 1 ≤ s.nx) (hn1 : s.nx ≤ 4294967295) (hs0 : 128 ≤ s.sc) (hs1 : s.sc ≤ 4096) (hl8 : s.vs.length ≤ 8) :
    Calls Try.prog 39 #[supv s v] w fun e w' => e = .returned (.bool (vsOk s.nx s.sc 0 s.vs)) ∧ Below w.heap.size w w' := by
  obtain ⟨a, cap, rfl, hc1, hc2, _⟩ := id hr
  have HR : Hid (RdV w (.slice a s.vs.length cap) s.vs) := hr
  obtain ⟨W1, hW1⟩ : ∃ W1, w.alloc (.cells #[.int .i64 s.gen, .int .i64 s.sc, .int .i64 s.nx, .slice a s.vs.length cap] 24) = W1 := ⟨_, rfl⟩
  have B1 : Hid (Below w.heap.size w W1) := by rw [← hW1]; exact (Below.refl _ _).alloc (Nat.le_refl _) _
  have U1 : Hid (Uv W1 w.heap.size s (.slice a s.vs.length cap)) := by rw [← hW1]; exact uv_new w s _
  have q3 := U1.out.c3
  obtain ⟨G, hG⟩ : ∃ G, vsOk s.nx s.sc 0 s.vs = G := ⟨_, rfl⟩
  have HG : Hid (vsOk s.nx s.sc 0 s.vs = G) := hG
  rw [hG]
  have HS : Hid (W1.heap.size = w.heap.size + 1) := by show _ = _; rw [← hW1]; simp
  obtain ⟨l, hl⟩ : ∃ l, Hid (s.vs.length = l) := ⟨_, rfl⟩
  rw [hl.out] at HR hW1 U1 q3 hl8 ⊢
  obtain ⟨nx, hnx⟩ : ∃ n, Hid (s.nx = n) := ⟨_, rfl⟩
  obtain ⟨sc, hsc⟩ : ∃ n, Hid (s.sc = n) := ⟨_, rfl⟩
  rw [hnx.out] at hn0 hn1
  rw [hsc.out] at hs0 hs1
  rw [hnx.out, hsc.out] at HG
  clear hr hc1 hc2 hG
  unfold supv
  go_enter Try.func39, Try.ntmps39
  go_wp2_with fail
  clear hW1
  obtain ⟨g, hg⟩ : ∃ g, Hid (w.heap.size = g) := ⟨_, rfl⟩
  rw [hg.out] at U1 B1 HS ⊢
  go_loopw [3, 9] (fun lv i wr => ∃ (k : Nat) (last : Int), k ≤ l ∧ i = .int .i64 k ∧ lv = .int .i64 last ∧ 0 ≤ last ∧ last ≤ 4294967295 ∧ Hid (vsOk nx sc last (s.vs.drop k) = G) ∧ Hid (Below g w wr) ∧ Hid (Uv wr g s (.slice a l cap))) (fun _ i _ => l - (intOf i).toNat)
  case atStart => exact ⟨0, 0, Nat.zero_le _, rfl, rfl, by decide, by decide, by rw [List.drop_zero]; exact HG, B1, U1⟩
  case round =>
    clear B1 U1 HS q3
    obtain ⟨k, last, hk, rfl, rfl, hl0, hl1, HK, B, U⟩ := hrel
    by_cases hlt : k < l
    · obtain ⟨x, hx⟩ : ∃ x, s.vs[k]? = some x := ⟨_, List.getElem?_eq_getElem (by rw [hl.out]; exact hlt)⟩
      obtain ⟨b, o, rfl, VC⟩ := HR.out.at_ (hg.out ▸ B.out : Below w.heap.size w wr) hx
      have v0 := VC.c0
      have v1 := VC.c1
      have v2 := VC.c2
      have v3 := VC.c3
      have HST : Hid ((vOk nx sc last x && vsOk nx sc x.id (s.vs.drop (k + 1))) = G) := by
        show _ = _
        rw [← vsOk_step hx]
        exact HK.out
      have hkl : (k : Int) < (l : Int) := by omega
      obtain ⟨W3, hW3⟩ : ∃ W3, wr.alloc (.cells #[.int .i64 x.id, .int .i64 x.root, .int .i64 x.nx, .bool x.fx] 66) = W3 := ⟨_, rfl⟩
      have B3 : Hid (Below g w W3) := by rw [← hW3]; exact B.out.alloc (by have := B.out.size; have := hg.out; omega) _
      have U3 : Hid (Uv W3 g s (.slice (some ⟨b, o, none⟩) l cap)) := by rw [← hW3]; exact U.out.below ((Below.refl _ _).alloc (Nat.le_refl _) _)
      obtain ⟨q, hq⟩ : ∃ q, wr.heap.size = q := ⟨_, rfl⟩
      have V3 : VCell W3 q 0 x := by rw [← hW3, ← hq]; exact (vv_new wr x).cells
      have y0 := V3.c0
      have y1 := V3.c1
      have y2 := V3.c2
      have z1 := U3.out.c1
      have z2 := U3.out.c2
      rw [hsc.out] at z1
      rw [hnx.out] at z2
      obtain ⟨xi, hxi⟩ : ∃ n, Hid (x.id = n) := ⟨_, rfl⟩
      obtain ⟨xr, hxr⟩ : ∃ n, Hid (x.root = n) := ⟨_, rfl⟩
      obtain ⟨xn, hxn⟩ : ∃ n, Hid (x.nx = n) := ⟨_, rfl⟩
      have HVO : Hid (vOk nx sc last x = true ↔ (last + 1 ≤ xi ∧ xi ≤ nx - 1) ∧ (1 ≤ xn ∧ xn ≤ 16777216) ∧ (xr = 0 ∨ (50 ≤ xr ∧ xr ≤ sc - 1))) := by rw [← hxi.out, ← hxr.out, ← hxn.out]; exact vOk_iff
      rw [hxi.out] at y0 v0 HST hW3
      rw [hxr.out] at y1 v1 hW3
      rw [hxn.out] at y2 v2 hW3
      generalize x.fx = xf at *
      clear VC V3 HK U B
      go_wp2_with fail
      refine (within_any xi (last + 1) (nx - 1) W3).mono ?_
      rintro e w4 ⟨rfl, rfl⟩
      clear hW3 hq v0 v1 v2 v3
      obtain ⟨b1, hb1⟩ : ∃ b, (decide (last + 1 ≤ xi) && decide (xi ≤ nx - 1)) = b := ⟨_, rfl⟩
      rw [hb1]
      cases b1 with
      | false =>
        have HF : Hid (false = G) := by
          show false = G
          rw [← HST.out]
          have : vOk nx sc last x = false := by
            rw [Bool.eq_false_iff, ne_eq, HVO.out]
            intro h
            rw [decide_eq_true h.1.1, decide_eq_true h.1.2] at hb1
            cases hb1
          rw [this]
          rfl
        clear hb1 HST HVO
        go_wp2_with fail
        go_ret
        exact ⟨by rw [← HF.out]; rfl, by rw [hg.out]; exact B3.out⟩
      | true =>
        rw [Bool.and_eq_true, decide_eq_true_iff, decide_eq_true_iff] at hb1
        have HB1 : Hid (last + 1 ≤ xi ∧ xi ≤ nx - 1) := hb1
        clear hb1
        go_wp2_with fail
        refine (within_any xn 1 16777216 w4).mono ?_
        rintro e w4 ⟨rfl, rfl⟩
        obtain ⟨b2, hb2⟩ : ∃ b, (decide (1 ≤ xn) && decide (xn ≤ 16777216)) = b := ⟨_, rfl⟩
        rw [hb2]
        cases b2 with
        | false =>
          have HF : Hid (false = G) := by
            show false = G
            rw [← HST.out]
            have : vOk nx sc last x = false := by
              rw [Bool.eq_false_iff, ne_eq, HVO.out]
              intro h
              rw [decide_eq_true h.2.1.1, decide_eq_true h.2.1.2] at hb2
              cases hb2
            rw [this]
            rfl
          clear hb2 HST HVO
          go_wp2_with fail
          go_ret
          exact ⟨by rw [← HF.out]; rfl, by rw [hg.out]; exact B3.out⟩
        | true =>
          rw [Bool.and_eq_true, decide_eq_true_iff, decide_eq_true_iff] at hb2
          have HB2 : Hid (1 ≤ xn ∧ xn ≤ 16777216) := hb2
          clear hb2
          by_cases hr0 : xr = 0
          · have HN : Hid (vsOk nx sc xi (s.vs.drop (k + 1)) = G) := by
              show _ = G
              rw [← HST.out, HVO.out.2 ⟨HB1.out, HB2.out, .inl hr0⟩]
              rfl
            have hxb : 0 ≤ xi ∧ xi ≤ 4294967295 := by have := HB1.out; omega
            obtain ⟨hx0, hx1⟩ := hxb
            clear HST HVO HB1 HB2
            subst hr0
            go_wp2_with fail
            go_roundw
            case rel => exact ⟨k + 1, xi, by omega, by go_num, rfl, hx0, hx1, HN, B3, U3⟩
            case measure => simp [intOf]; omega
          · have hr1 : (xr == 0) = false := by rw [beq_eq_false_iff_ne]; exact hr0
            have HR0 : Hid (xr ≠ 0) := hr0
            clear hr0
            go_wp2_with fail
            refine (within_any xr 50 (sc - 1) w4).mono ?_
            rintro e w4 ⟨rfl, rfl⟩
            obtain ⟨b3, hb3⟩ : ∃ b, (decide (50 ≤ xr) && decide (xr ≤ sc - 1)) = b := ⟨_, rfl⟩
            rw [hb3]
            cases b3 with
            | false =>
              have HF : Hid (false = G) := by
                show false = G
                rw [← HST.out]
                have : vOk nx sc last x = false := by
                  rw [Bool.eq_false_iff, ne_eq, HVO.out]
                  rintro ⟨_, _, h | h⟩
                  · exact HR0.out h
                  · rw [decide_eq_true h.1, decide_eq_true h.2] at hb3
                    cases hb3
                rw [this]
                rfl
              clear hb3 HST HVO hr1
              go_wp2_with fail
              go_ret
              exact ⟨by rw [← HF.out]; rfl, by rw [hg.out]; exact B3.out⟩
            | true =>
              rw [Bool.and_eq_true, decide_eq_true_iff, decide_eq_true_iff] at hb3
              have HN : Hid (vsOk nx sc xi (s.vs.drop (k + 1)) = G) := by
                show _ = G
                rw [← HST.out, HVO.out.2 ⟨HB1.out, HB2.out, .inr hb3⟩]
                rfl
              have hxb : 0 ≤ xi ∧ xi ≤ 4294967295 := by have := HB1.out; omega
              obtain ⟨hx0, hx1⟩ := hxb
              clear hb3 HST HVO HB1 HB2 hr1
              go_wp2_with fail
              go_roundw
              case rel => exact ⟨k + 1, xi, by omega, by go_num, rfl, hx0, hx1, HN, B3, U3⟩
              case measure => simp [intOf]; omega
    · have hkl : ¬ (k : Int) < (l : Int) := by omega
      have HF : Hid (true = G) := by
        show true = G
        rw [← HK.out, List.drop_of_length_le (by rw [hl.out]; omega)]
        rfl
      clear HK
      go_wp2_with fail
      go_ret
      exact ⟨by rw [← HF.out]; rfl, by rw [hg.out]; exact B.out⟩

set_option maxHeartbeats 1000000 in
theorem mayU_any (s : Sp) (v : Value) (w : World) (hr : RdV w v s.vs) :
    Calls Try.prog 12 #[supv s v] w fun e w' => e = .returned (.bool (mayU s)) ∧ Below w.heap.size w w' := by
  obtain ⟨a, cap, rfl, hc1, hc2, _⟩ := id hr
  have HR : Hid (RdV w (.slice a s.vs.length cap) s.vs) := hr
  have hl63 : s.vs.length ≤ 9223372036854775807 := by unfold maxLen at hc2; omega
  obtain ⟨W1, hW1⟩ : ∃ W1, w.alloc (.cells #[.int .i64 s.gen, .int .i64 s.sc, .int .i64 s.nx, .slice a s.vs.length cap] 24) = W1 := ⟨_, rfl⟩
  have B1 : Hid (Below w.heap.size w W1) := by rw [← hW1]; exact (Below.refl _ _).alloc (Nat.le_refl _) _
  have U1 : Hid (Uv W1 w.heap.size s (.slice a s.vs.length cap)) := by rw [← hW1]; exact uv_new w s _
  have q0 := U1.out.c0
  have q1 := U1.out.c1
  have q2 := U1.out.c2
  have q3 := U1.out.c3
  have R1 : Hid (RdV W1 (.slice a s.vs.length cap) s.vs) := HR.out.below B1.out
  have HM : Hid (mayU s = true ↔ (1 ≤ s.gen ∧ s.gen ≤ 4294967295 ∧ 1 ≤ s.nx ∧ s.nx ≤ 4294967295 ∧ 128 ≤ s.sc ∧ s.sc ≤ 4096 ∧ s.vs.length ≤ 8) ∧ vsOk s.nx s.sc 0 s.vs = true) := mayU_iff
  have HVM : Hid (1 ≤ s.nx → s.nx ≤ 4294967295 → 128 ≤ s.sc → s.sc ≤ 4096 → s.vs.length ≤ 8 → Calls Try.prog 39 #[supv s (.slice a s.vs.length cap)] W1 fun e w' => e = .returned (.bool (vsOk s.nx s.sc 0 s.vs)) ∧ Below W1.heap.size W1 w') := fun h1 h2 h3 h4 h5 => versionsMay_any s _ W1 R1.out h1 h2 h3 h4 h5
  unfold supv at HVM
  unfold supv
  obtain ⟨M, hM⟩ : ∃ M, Hid (mayU s = M) := ⟨_, rfl⟩
  obtain ⟨G, hG⟩ : ∃ M, Hid (vsOk s.nx s.sc 0 s.vs = M) := ⟨_, rfl⟩
  obtain ⟨l, hl⟩ : ∃ l, Hid (s.vs.length = l) := ⟨_, rfl⟩
  obtain ⟨ge, hge⟩ : ∃ l, Hid (s.gen = l) := ⟨_, rfl⟩
  obtain ⟨sc, hsc⟩ : ∃ l, Hid (s.sc = l) := ⟨_, rfl⟩
  obtain ⟨nx, hnx⟩ : ∃ l, Hid (s.nx = l) := ⟨_, rfl⟩
  rw [hM.out, hG.out, hl.out, hge.out, hsc.out, hnx.out] at HM
  rw [hG.out, hl.out, hge.out, hsc.out, hnx.out] at HVM
  rw [hl.out, hge.out, hsc.out, hnx.out] at hW1
  rw [hl.out] at q3 hl63
  rw [hge.out] at q0
  rw [hsc.out] at q1
  rw [hnx.out] at q2
  rw [hM.out, hl.out, hge.out, hsc.out, hnx.out]
  clear hr hc1 hc2 U1 R1 HR
  have HF : Hid (¬ ((1 ≤ ge ∧ ge ≤ 4294967295 ∧ 1 ≤ nx ∧ nx ≤ 4294967295 ∧ 128 ≤ sc ∧ sc ≤ 4096 ∧ l ≤ 8) ∧ G = true) → false = M) := fun h => by
    cases M with
    | false => rfl
    | true => exact absurd (HM.out.1 rfl) h
  go_enter Try.func12, Try.ntmps12
  go_wp2_with fail
  refine (within_any ge 1 4294967295 W1).mono ?_
  rintro e w2 ⟨rfl, rfl⟩
  clear hW1
  obtain ⟨b1, hb1⟩ : ∃ b, (decide (1 ≤ ge) && decide (ge ≤ 4294967295)) = b := ⟨_, rfl⟩
  rw [hb1]
  cases b1 with
  | false =>
    have HE := hideP (HF.out (fun h => by rw [decide_eq_true h.1.1, decide_eq_true h.1.2.1] at hb1; cases hb1))
    clear hb1
    go_wp2_with fail
    go_ret
    exact ⟨by rw [← HE.out]; rfl, B1.out⟩
  | true =>
  rw [Bool.and_eq_true, decide_eq_true_iff, decide_eq_true_iff] at hb1
  have HB1 := hideP hb1
  clear hb1
  go_wp2_with fail
  refine (within_any nx 1 4294967295 w2).mono ?_
  rintro e w2 ⟨rfl, rfl⟩
  obtain ⟨b1, hb1⟩ : ∃ b, (decide (1 ≤ nx) && decide (nx ≤ 4294967295)) = b := ⟨_, rfl⟩
  rw [hb1]
  cases b1 with
  | false =>
    have HE := hideP (HF.out (fun h => by rw [decide_eq_true h.1.2.2.1, decide_eq_true h.1.2.2.2.1] at hb1; cases hb1))
    clear hb1
    go_wp2_with fail
    go_ret
    exact ⟨by rw [← HE.out]; rfl, B1.out⟩
  | true =>
  rw [Bool.and_eq_true, decide_eq_true_iff, decide_eq_true_iff] at hb1
  have HB2 := hideP hb1
  clear hb1
  go_wp2_with fail
  refine (within_any sc 128 4096 w2).mono ?_
  rintro e w2 ⟨rfl, rfl⟩
  obtain ⟨b1, hb1⟩ : ∃ b, (decide (128 ≤ sc) && decide (sc ≤ 4096)) = b := ⟨_, rfl⟩
  rw [hb1]
  cases b1 with
  | false =>
    have HE := hideP (HF.out (fun h => by rw [decide_eq_true h.1.2.2.2.2.1, decide_eq_true h.1.2.2.2.2.2.1] at hb1; cases hb1))
    clear hb1
    go_wp2_with fail
    go_ret
    exact ⟨by rw [← HE.out]; rfl, B1.out⟩
  | true =>
  rw [Bool.and_eq_true, decide_eq_true_iff, decide_eq_true_iff] at hb1
  have HB3 := hideP hb1
  clear hb1
  by_cases h8 : l ≤ 8
  · have h9 : (l : Int) ≤ 8 := by omega
    have HC := hideP (HVM.out HB2.out.1 HB2.out.2 HB3.out.1 HB3.out.2 h8)
    have HE : Hid (G = M) := by
      show G = M
      cases G with
      | false => exact HF.out (fun h => by cases h.2)
      | true => exact (HM.out.2 ⟨⟨HB1.out.1, HB1.out.2, HB2.out.1, HB2.out.2, HB3.out.1, HB3.out.2, h8⟩, rfl⟩).symm
    clear HVM HM HF
    go_wp2_with fail
    refine HC.out.mono ?_
    rintro e w3 ⟨rfl, hb3⟩
    have B3 := hideP (B1.out.trans (hb3.mono B1.out.size))
    clear hb3 HC
    cases G with
    | false =>
      go_wp2_with fail
      go_ret
      exact ⟨by rw [← HE.out]; rfl, B3.out⟩
    | true =>
      go_wp2_with fail
      go_ret
      exact ⟨by rw [← HE.out]; rfl, B3.out⟩
  · have h9 : decide ((l : Int) ≤ 8) = false := by rw [decide_eq_false_iff_not]; omega
    have HE := hideP (HF.out (fun h => by have := h.1.2.2.2.2.2.2; omega))
    clear h8
    go_wp2_with fail
    go_ret
    exact ⟨by rw [← HE.out]; rfl, B1.out⟩
end Go.Proofs.Ytdicgaepggffbaa
/-
  The document's May of superblocks.
-/
namespace Go.Proofs.Ytdicgaepggffbaa
open Go.RowKit Pl
set_option linter.unusedVariables false
set_option linter.unusedSimpArgs false
set_option maxRecDepth 100000

/-- What the document's loop knows of the version ahead. -/
def Ahead (vs : List Vn) (k : Nat) (last : Int) : Prop := (k = 0 ∧ last = 0) ∨ ∃ p y, k = p + 1 ∧ vs[p]? = some y ∧ y.id = last ∧ 1 ≤ last

set_option maxHeartbeats 2000000 in
theorem refMayU_any (s : Sp) (v : Value) (w : World) (hr : RdV w v s.vs) :
    Calls Try.prog 11 #[supv s v] w fun e w' => e = .returned (.bool (mayU s)) ∧ Below w.heap.size w w' := by
  obtain ⟨a, cap, rfl, hc1, hc2, _⟩ := id hr
  have HR : Hid (RdV w (.slice a s.vs.length cap) s.vs) := hr
  have hl63 : s.vs.length ≤ 9223372036854775807 := by unfold maxLen at hc2; omega
  obtain ⟨W1, hW1⟩ : ∃ W1, w.alloc (.cells #[.int .i64 s.gen, .int .i64 s.sc, .int .i64 s.nx, .slice a s.vs.length cap] 24) = W1 := ⟨_, rfl⟩
  have B1 : Hid (Below w.heap.size w W1) := by rw [← hW1]; exact (Below.refl _ _).alloc (Nat.le_refl _) _
  have U1 : Hid (Uv W1 w.heap.size s (.slice a s.vs.length cap)) := by rw [← hW1]; exact uv_new w s _
  have q0 := U1.out.c0
  have q1 := U1.out.c1
  have q2 := U1.out.c2
  have q3 := U1.out.c3
  have HM : Hid (mayU s = true ↔ (1 ≤ s.gen ∧ s.gen ≤ 4294967295 ∧ 1 ≤ s.nx ∧ s.nx ≤ 4294967295 ∧ 128 ≤ s.sc ∧ s.sc ≤ 4096 ∧ s.vs.length ≤ 8) ∧ vsOk s.nx s.sc 0 s.vs = true) := mayU_iff
  unfold supv
  obtain ⟨M, hM⟩ : ∃ M, Hid (mayU s = M) := ⟨_, rfl⟩
  obtain ⟨l, hl⟩ : ∃ l, Hid (s.vs.length = l) := ⟨_, rfl⟩
  obtain ⟨ge, hge⟩ : ∃ l, Hid (s.gen = l) := ⟨_, rfl⟩
  obtain ⟨sc, hsc⟩ : ∃ l, Hid (s.sc = l) := ⟨_, rfl⟩
  obtain ⟨nx, hnx⟩ : ∃ l, Hid (s.nx = l) := ⟨_, rfl⟩
  rw [hM.out, hl.out, hge.out, hsc.out, hnx.out] at HM
  rw [hl.out, hge.out, hsc.out, hnx.out] at hW1
  rw [hl.out] at q3 hl63 HR U1
  rw [hge.out] at q0
  rw [hsc.out] at q1
  rw [hnx.out] at q2
  rw [hM.out, hl.out, hge.out, hsc.out, hnx.out]
  clear hr hc1 hc2
  have HF : Hid (¬ (1 ≤ ge ∧ ge ≤ 4294967295 ∧ 1 ≤ nx ∧ nx ≤ 4294967295 ∧ 128 ≤ sc ∧ sc ≤ 4096 ∧ l ≤ 8) → false = M) := fun h => by
    cases M with
    | false => rfl
    | true => exact absurd (HM.out.1 rfl).1 h
  by_cases g1 : ge < 1
  · have HE := hideP (HF.out (by omega))
    clear HM HF
    go_enter Try.func11, Try.ntmps11
    go_wp2_with fail
    go_ret
    exact ⟨by rw [← HE.out]; rfl, B1.out⟩
  have g1d : decide (ge < 1) = false := decide_eq_false g1
  by_cases g2 : ge > 4294967295
  · have HE := hideP (HF.out (by omega))
    clear HM HF
    go_enter Try.func11, Try.ntmps11
    go_wp2_with fail
    go_ret
    exact ⟨by rw [← HE.out]; rfl, B1.out⟩
  have g2d : decide (ge > 4294967295) = false := decide_eq_false g2
  by_cases g3 : nx < 1
  · have HE := hideP (HF.out (by omega))
    clear HM HF
    go_enter Try.func11, Try.ntmps11
    go_wp2_with fail
    go_ret
    exact ⟨by rw [← HE.out]; rfl, B1.out⟩
  have g3d : decide (nx < 1) = false := decide_eq_false g3
  by_cases g4 : nx > 4294967295
  · have HE := hideP (HF.out (by omega))
    clear HM HF
    go_enter Try.func11, Try.ntmps11
    go_wp2_with fail
    go_ret
    exact ⟨by rw [← HE.out]; rfl, B1.out⟩
  have g4d : decide (nx > 4294967295) = false := decide_eq_false g4
  by_cases g5 : sc < 128
  · have HE := hideP (HF.out (by omega))
    clear HM HF
    go_enter Try.func11, Try.ntmps11
    go_wp2_with fail
    go_ret
    exact ⟨by rw [← HE.out]; rfl, B1.out⟩
  have g5d : decide (sc < 128) = false := decide_eq_false g5
  by_cases g6 : sc > 4096
  · have HE := hideP (HF.out (by omega))
    clear HM HF
    go_enter Try.func11, Try.ntmps11
    go_wp2_with fail
    go_ret
    exact ⟨by rw [← HE.out]; rfl, B1.out⟩
  have g6d : decide (sc > 4096) = false := decide_eq_false g6
  by_cases g7 : (l : Int) > 8
  · have HE := hideP (HF.out (by omega))
    clear HM HF
    go_enter Try.func11, Try.ntmps11
    go_wp2_with fail
    go_ret
    exact ⟨by rw [← HE.out]; rfl, B1.out⟩
  have g7d : decide ((l : Int) > 8) = false := decide_eq_false g7
  have HE2 : Hid (vsOk nx sc 0 s.vs = M) := by
    show _ = _
    cases hG : vsOk nx sc 0 s.vs with
    | false =>
      rw [hG] at HM
      cases M with
      | false => rfl
      | true => exact absurd (HM.out.1 rfl).2 (by simp)
    | true =>
      rw [hG] at HM
      exact (HM.out.2 ⟨by omega, rfl⟩).symm
  have hl8 : l ≤ 8 := by omega
  clear HM HF
  go_enter Try.func11, Try.ntmps11
  go_wp2_with fail
  clear hW1 q0 q1 q2 q3
  obtain ⟨g, hg⟩ : ∃ g, Hid (w.heap.size = g) := ⟨_, rfl⟩
  rw [hg.out] at U1 B1 ⊢
  go_loopw [3] (fun i wr => ∃ (k : Nat) (last : Int), k ≤ l ∧ i = .int .i64 k ∧ 0 ≤ last ∧ Hid (vsOk nx sc last (s.vs.drop k) = M) ∧ Hid (Ahead s.vs k last) ∧ Hid (Below g w wr) ∧ Hid (Uv wr g s (.slice a l cap))) (fun i _ => l - (intOf i).toNat)
  case atStart => exact ⟨0, 0, Nat.zero_le _, rfl, by decide, by rw [List.drop_zero]; exact HE2, .inl ⟨rfl, rfl⟩, B1, U1⟩
  case round =>
    clear B1 U1 HE2
    obtain ⟨k, last, hk, rfl, hl0, HK, HAH, B, U⟩ := hrel
    have u3 := U.out.c3
    by_cases hlt : k < l
    · obtain ⟨x, hx⟩ : ∃ x, s.vs[k]? = some x := ⟨_, List.getElem?_eq_getElem (by rw [hl.out]; exact hlt)⟩
      have HXK : Hid (s.vs[k]? = some x) := hx
      obtain ⟨b, o, rfl, VC⟩ := HR.out.at_ (hg.out ▸ B.out : Below w.heap.size w wr) hx
      have v0 := VC.c0
      have v1 := VC.c1
      have v2 := VC.c2
      have v3 := VC.c3
      have HST : Hid ((vOk nx sc last x && vsOk nx sc x.id (s.vs.drop (k + 1))) = M) := by
        show _ = _
        rw [← vsOk_step hx]
        exact HK.out
      have hkl : (k : Int) < (l : Int) := by omega
      obtain ⟨W3, hW3⟩ : ∃ W3, wr.alloc (.cells #[.int .i64 x.id, .int .i64 x.root, .int .i64 x.nx, .bool x.fx] 66) = W3 := ⟨_, rfl⟩
      have bw : Below wr.heap.size wr W3 := by rw [← hW3]; exact (Below.refl _ _).alloc (Nat.le_refl _) _
      have B3 : Hid (Below g w W3) := B.out.trans (bw.mono (Nat.le_of_lt U.out.lt))
      have U3 : Hid (Uv W3 g s (.slice (some ⟨b, o, none⟩) l cap)) := U.out.below bw
      obtain ⟨q, hq⟩ : ∃ q, wr.heap.size = q := ⟨_, rfl⟩
      have V3 : VCell W3 q 0 x := by rw [← hW3, ← hq]; exact (vv_new wr x).cells
      have y0 := V3.c0
      have y1 := V3.c1
      have y2 := V3.c2
      have z1 := U3.out.c1
      have z2 := U3.out.c2
      have z3 := U3.out.c3
      rw [hsc.out] at z1
      rw [hnx.out] at z2
      obtain ⟨xi, hxi⟩ : ∃ n, Hid (x.id = n) := ⟨_, rfl⟩
      obtain ⟨xr, hxr⟩ : ∃ n, Hid (x.root = n) := ⟨_, rfl⟩
      obtain ⟨xn, hxn⟩ : ∃ n, Hid (x.nx = n) := ⟨_, rfl⟩
      have HVO : vOk nx sc last x = true ↔ (last + 1 ≤ xi ∧ xi ≤ nx - 1) ∧ (1 ≤ xn ∧ xn ≤ 16777216) ∧ (xr = 0 ∨ (50 ≤ xr ∧ xr ≤ sc - 1)) := by rw [← hxi.out, ← hxr.out, ← hxn.out]; exact vOk_iff
      have HBAD : Hid (¬ ((last + 1 ≤ xi ∧ xi ≤ nx - 1) ∧ (1 ≤ xn ∧ xn ≤ 16777216) ∧ (xr = 0 ∨ (50 ≤ xr ∧ xr ≤ sc - 1))) → false = M) := fun h => by
        rw [← HST.out]
        cases e : vOk nx sc last x with
        | false => rfl
        | true => exact absurd (HVO.1 e) h
      have HGOOD : Hid (((last + 1 ≤ xi ∧ xi ≤ nx - 1) ∧ (1 ≤ xn ∧ xn ≤ 16777216) ∧ (xr = 0 ∨ (50 ≤ xr ∧ xr ≤ sc - 1))) → vsOk nx sc xi (s.vs.drop (k + 1)) = M) := fun h => by
        rw [← HST.out, HVO.2 h, hxi.out]
        rfl
      rw [hxi.out] at y0 v0 hW3
      rw [hxr.out] at y1 v1 hW3
      rw [hxn.out] at y2 v2 hW3
      generalize x.fx = xf at *
      clear VC V3 HK U B HVO HST hx bw
      by_cases i1 : xi < 1
      · have HE : Hid (false = M) := HBAD.out (by omega)
        clear HBAD HGOOD
        go_wp2_with fail
        go_quiet (fail)
        have B4 : Hid (Below g w (W3.drewN nq)) := B3.out.trans (Below.of_drewN _ _ _)
        go_wp2_with fail
        go_ret
        exact ⟨by rw [← HE.out]; rfl, by rw [hg.out]; exact B4.out⟩
      have i1d : decide (xi < 1) = false := decide_eq_false i1
      by_cases i2 : xi ≥ nx
      · have HE : Hid (false = M) := HBAD.out (by omega)
        have i2x : nx ≤ xi := i2
        clear HBAD HGOOD
        go_wp2_with fail
        go_quiet (fail)
        have B4 : Hid (Below g w (W3.drewN nq)) := B3.out.trans (Below.of_drewN _ _ _)
        go_wp2_with fail
        go_ret
        exact ⟨by rw [← HE.out]; rfl, by rw [hg.out]; exact B4.out⟩
      have i2d : decide (xi ≥ nx) = false := decide_eq_false i2
      have i2e : decide (nx ≤ xi) = false := decide_eq_false i2
      rcases HAH.out with ⟨hk0, hlast⟩ | ⟨p, y, hkp, hy, hyl, hy1⟩
      · have k0d : decide ((k : Int) > 0) = false := by rw [decide_eq_false_iff_not]; omega
        have k0e : decide (0 < k) = false := by rw [decide_eq_false_iff_not]; omega
        have HK0 : Hid (k = 0 ∧ last = 0) := ⟨hk0, hlast⟩
        have hge1 : last + 1 ≤ xi := by omega
        clear hk0 hlast
        go_wp2_with fail
        go_quiet (fail)
        have B4 : Hid (Below g w (W3.drewN nq)) := B3.out.trans (Below.of_drewN _ _ _)
        have U4 : Hid (Uv (W3.drewN nq) g s (.slice (some ⟨b, o, none⟩) l cap)) := U3
        by_cases r0 : xr = 0
        · subst r0
          by_cases n1 : xn < 1
          · have HE : Hid (false = M) := HBAD.out (by omega)
            clear HBAD HGOOD
            go_wp2_with fail
            go_ret
            exact ⟨by rw [← HE.out]; rfl, by rw [hg.out]; exact B4.out⟩
          have n1d : decide (xn < 1) = false := decide_eq_false n1
          by_cases n2 : xn > 16777216
          · have HE : Hid (false = M) := HBAD.out (by omega)
            clear HBAD HGOOD
            go_wp2_with fail
            go_ret
            exact ⟨by rw [← HE.out]; rfl, by rw [hg.out]; exact B4.out⟩
          have n2d : decide (xn > 16777216) = false := decide_eq_false n2
          have HN := hideP (HGOOD.out (by omega))
          have HA : Hid (Ahead s.vs (k + 1) xi) := .inr ⟨k, x, rfl, HXK.out, hxi.out, by omega⟩
          clear HBAD HGOOD n1 n2
          go_wp2_with fail
          go_roundw
          case rel => exact ⟨k + 1, xi, by omega, by go_num, by omega, HN, HA, B4, U4⟩
          case measure => simp [intOf]; omega
        have r0d : (xr == 0) = false := by rw [beq_eq_false_iff_ne]; exact r0
        by_cases r1 : xr < 50
        · have HE : Hid (false = M) := HBAD.out (by omega)
          clear HBAD HGOOD
          go_wp2_with fail
          go_ret
          exact ⟨by rw [← HE.out]; rfl, by rw [hg.out]; exact B4.out⟩
        have r1d : decide (xr < 50) = false := decide_eq_false r1
        by_cases r2 : xr ≥ sc
        · have HE : Hid (false = M) := HBAD.out (by omega)
          clear HBAD HGOOD
          go_wp2_with fail
          go_ret
          exact ⟨by rw [← HE.out]; rfl, by rw [hg.out]; exact B4.out⟩
        have r2d : decide (xr ≥ sc) = false := decide_eq_false r2
        have r2e : decide (sc ≤ xr) = false := decide_eq_false r2
        by_cases n1 : xn < 1
        · have HE : Hid (false = M) := HBAD.out (by omega)
          clear HBAD HGOOD
          go_wp2_with fail
          go_ret
          exact ⟨by rw [← HE.out]; rfl, by rw [hg.out]; exact B4.out⟩
        have n1d : decide (xn < 1) = false := decide_eq_false n1
        by_cases n2 : xn > 16777216
        · have HE : Hid (false = M) := HBAD.out (by omega)
          clear HBAD HGOOD
          go_wp2_with fail
          go_ret
          exact ⟨by rw [← HE.out]; rfl, by rw [hg.out]; exact B4.out⟩
        have n2d : decide (xn > 16777216) = false := decide_eq_false n2
        have HN := hideP (HGOOD.out (by omega))
        have HA : Hid (Ahead s.vs (k + 1) xi) := .inr ⟨k, x, rfl, HXK.out, hxi.out, by omega⟩
        clear HBAD HGOOD n1 n2
        go_wp2_with fail
        go_roundw
        case rel => exact ⟨k + 1, xi, by omega, by go_num, by omega, HN, HA, B4, U4⟩
        case measure => simp [intOf]; omega
      · obtain ⟨b', o', eb, YC⟩ := HR.out.at_ (hg.out ▸ B3.out : Below w.heap.size w W3) hy
        cases eb
        have p0 := YC.c0
        rw [hyl] at p0
        have k0 : (k : Int) > 0 := by omega
        have k0n : 0 < k := by omega
        have k1 : (k : Int) - 1 = (p : Int) := by omega
        have pl : (p : Int) < (l : Int) := by omega
        clear YC hkp hy hyl
        by_cases i3 : last ≥ xi
        · have HE : Hid (false = M) := HBAD.out (by omega)
          have i3x : xi ≤ last := i3
          clear HBAD HGOOD
          go_wp2_with fail
          go_quiet (fail)
          have B4 : Hid (Below g w (W3.drewN nq)) := B3.out.trans (Below.of_drewN _ _ _)
          go_wp2_with fail
          go_ret
          exact ⟨by rw [← HE.out]; rfl, by rw [hg.out]; exact B4.out⟩
        have i3d : decide (last ≥ xi) = false := decide_eq_false i3
        have i3e : decide (xi ≤ last) = false := decide_eq_false i3
        have hge1 : last + 1 ≤ xi := by omega
        go_wp2_with fail
        go_quiet (fail)
        have B4 : Hid (Below g w (W3.drewN nq)) := B3.out.trans (Below.of_drewN _ _ _)
        have U4 : Hid (Uv (W3.drewN nq) g s (.slice (some ⟨b, o, none⟩) l cap)) := U3
        by_cases r0 : xr = 0
        · subst r0
          by_cases n1 : xn < 1
          · have HE : Hid (false = M) := HBAD.out (by omega)
            clear HBAD HGOOD
            go_wp2_with fail
            go_ret
            exact ⟨by rw [← HE.out]; rfl, by rw [hg.out]; exact B4.out⟩
          have n1d : decide (xn < 1) = false := decide_eq_false n1
          by_cases n2 : xn > 16777216
          · have HE : Hid (false = M) := HBAD.out (by omega)
            clear HBAD HGOOD
            go_wp2_with fail
            go_ret
            exact ⟨by rw [← HE.out]; rfl, by rw [hg.out]; exact B4.out⟩
          have n2d : decide (xn > 16777216) = false := decide_eq_false n2
          have HN := hideP (HGOOD.out (by omega))
          have HA : Hid (Ahead s.vs (k + 1) xi) := .inr ⟨k, x, rfl, HXK.out, hxi.out, by omega⟩
          clear HBAD HGOOD n1 n2
          go_wp2_with fail
          go_roundw
          case rel => exact ⟨k + 1, xi, by omega, by go_num, by omega, HN, HA, B4, U4⟩
          case measure => simp [intOf]; omega
        have r0d : (xr == 0) = false := by rw [beq_eq_false_iff_ne]; exact r0
        by_cases r1 : xr < 50
        · have HE : Hid (false = M) := HBAD.out (by omega)
          clear HBAD HGOOD
          go_wp2_with fail
          go_ret
          exact ⟨by rw [← HE.out]; rfl, by rw [hg.out]; exact B4.out⟩
        have r1d : decide (xr < 50) = false := decide_eq_false r1
        by_cases r2 : xr ≥ sc
        · have HE : Hid (false = M) := HBAD.out (by omega)
          clear HBAD HGOOD
          go_wp2_with fail
          go_ret
          exact ⟨by rw [← HE.out]; rfl, by rw [hg.out]; exact B4.out⟩
        have r2d : decide (xr ≥ sc) = false := decide_eq_false r2
        have r2e : decide (sc ≤ xr) = false := decide_eq_false r2
        by_cases n1 : xn < 1
        · have HE : Hid (false = M) := HBAD.out (by omega)
          clear HBAD HGOOD
          go_wp2_with fail
          go_ret
          exact ⟨by rw [← HE.out]; rfl, by rw [hg.out]; exact B4.out⟩
        have n1d : decide (xn < 1) = false := decide_eq_false n1
        by_cases n2 : xn > 16777216
        · have HE : Hid (false = M) := HBAD.out (by omega)
          clear HBAD HGOOD
          go_wp2_with fail
          go_ret
          exact ⟨by rw [← HE.out]; rfl, by rw [hg.out]; exact B4.out⟩
        have n2d : decide (xn > 16777216) = false := decide_eq_false n2
        have HN := hideP (HGOOD.out (by omega))
        have HA : Hid (Ahead s.vs (k + 1) xi) := .inr ⟨k, x, rfl, HXK.out, hxi.out, by omega⟩
        clear HBAD HGOOD n1 n2
        go_wp2_with fail
        go_roundw
        case rel => exact ⟨k + 1, xi, by omega, by go_num, by omega, HN, HA, B4, U4⟩
        case measure => simp [intOf]; omega
    · have hkl : ¬ (k : Int) < (l : Int) := by omega
      have HE : Hid (true = M) := by
        show true = M
        rw [← HK.out, List.drop_of_length_le (by rw [hl.out]; omega)]
        rfl
      clear HK
      go_wp2_with fail
      go_ret
      exact ⟨by rw [← HE.out]; rfl, by rw [hg.out]; exact B.out⟩
end Go.Proofs.Ytdicgaepggffbaa
