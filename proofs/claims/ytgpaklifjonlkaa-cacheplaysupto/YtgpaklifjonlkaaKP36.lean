import Derived.Test.YtgpaklifjonlkaaKP35
import Derived.StillTailTactics
/-
  The document's Flush.
-/
namespace Go.Proofs.Ytgpaklifjonlkaa
open Go.RowKit Go.Maps
set_option linter.unusedVariables false
set_option linter.unusedSimpArgs false
set_option maxRecDepth 100000

/-- The first k are flushed. -/
def fls (s : DS) : Nat → DS
  | 0 => s
  | k + 1 => { fls s k with L := (fls s k).L.set k (s.has k), V := vput (fls s k).V k [] }
theorem fls_len (s : DS) : ∀ k, (fls s k).L.length = s.L.length
  | 0 => rfl
  | k + 1 => by show ((fls s k).L.set k _).length = _; rw [List.length_set, fls_len s k]
theorem fls_V (s : DS) (i : Nat) : ∀ k, (fls s k).V i = if i < k then [] else s.V i
  | 0 => by simp [fls]
  | k + 1 => by
    show vput (fls s k).V k [] i = _
    unfold vput
    by_cases e : i = k
    · rw [if_pos e, if_pos (by omega)]
    · rw [if_neg e, fls_V s i k]
      by_cases h : i < k
      · rw [if_pos h, if_pos (by omega)]
      · rw [if_neg h, if_neg (by omega)]
theorem fls_L (s : DS) (i : Nat) : ∀ k, k ≤ s.L.length → (fls s k).L.getD i [] = if i < k then s.has i else s.L.getD i []
  | 0, _ => by simp [fls]
  | k + 1, hk => by
    show ((fls s k).L.set k (s.has k)).getD i [] = _
    rw [getD_set_list _ _ _ _ (by rw [fls_len]; omega)]
    by_cases e : i = k
    · rw [if_pos e, if_pos (by omega), e]
    · rw [if_neg e, fls_L s i k (by omega)]
      by_cases h : i < k
      · rw [if_pos h, if_pos (by omega)]
      · rw [if_neg h, if_neg (by omega)]
theorem fls_c (s : DS) : ∀ k, (fls s k).c = s.c ∧ (fls s k).l = s.l
  | 0 => ⟨rfl, rfl⟩
  | k + 1 => fls_c s k
theorem fls_has {s : DS} {k : Nat} (hk : k < s.L.length) : (fls s k).has k = s.has k := by
  unfold DS.has
  rw [fls_V, if_neg (by omega), fls_L s k k (by omega), if_neg (by omega)]
theorem fls_same {s : DS} {k : Nat} (hk : k < s.L.length) (h : s.V k = []) : fls s (k + 1) = fls s k := by
  have h1 : (fls s k).L.set k (s.has k) = (fls s k).L := by
    have e : s.has k = (fls s k).L.getD k [] := by rw [fls_L s k k (by omega), if_neg (by omega)]; unfold DS.has; rw [h]; rfl
    rw [e]
    exact list_set_self (by rw [fls_len]; exact hk)
  have h2 : vput (fls s k).V k [] = (fls s k).V := by
    funext i
    unfold vput
    by_cases e : i = k
    · rw [if_pos e, e, fls_V, if_neg (by omega), h]
    · rw [if_neg e]
  show ({ fls s k with L := (fls s k).L.set k (s.has k), V := vput (fls s k).V k [] } : DS) = _
  rw [h1, h2]
theorem fls_end {s : DS} (hV : ∀ i, s.L.length ≤ i → s.V i = []) : fls s s.L.length = { s with L := (List.range s.L.length).map s.has, V := fun _ => [] } := by
  have h1 : (fls s s.L.length).L = (List.range s.L.length).map s.has := by
    apply List.ext_getElem
    · rw [fls_len]; simp
    · intro i a b
      have hi : i < s.L.length := by rw [fls_len] at a; exact a
      have := fls_L s i s.L.length (Nat.le_refl _)
      rw [List.getD_eq_getElem?_getD, List.getElem?_eq_getElem a, if_pos hi] at this
      simpa using this
  have h2 : (fls s s.L.length).V = fun _ => [] := by
    funext i
    rw [fls_V]
    by_cases e : i < s.L.length
    · rw [if_pos e]
    · rw [if_neg e, hV i (by omega)]
  obtain ⟨h3, h4⟩ := fls_c s s.L.length
  cases e : fls s s.L.length
  rw [e] at h1 h2 h3 h4
  simp only at h1 h2 h3 h4
  rw [h1, h2, h3, h4]

/-- What lay there and the versions of one sector are written anew, in place. -/
theorem RfAt.two {R : Nat → Prop} {w w' : World} {r : Nat} {s : DS} {lb cp : Nat} {A B : Nat → Value} {x : Int} {W : Nat → List Value} (h : RfAt R w r s lb cp A B x W) {i : Nat} (hi : i < s.L.length) {u : Value} {y : List Int} (hu : Owns .u8 5 w u y) (hR : ∀ k, u.ownBlock = some k → R k) (hy : y.length = 256 ∧ By y)
    (t : Tch (fun k => k = lb) w w') (hrow : w'.ownsRow 0 70 2 (.slice (some ⟨lb, 0, none⟩) s.L.length cp) s.L.length (cl s.L.length (updV A i u) (updV B i (.slice none 0 0)))) :
    RfTo R w w' r { s with L := s.L.set i y, V := vput s.V i [] } := by
  exact h.put hi u (.slice none 0 0) y [] [] (t.mono (fun k _ e => .inl e)) hrow (hu.tch t (fun k hk => (h.y_ne hu hk).2.1)) (World.ownsRow_nil _ _ _ _) (fun j v hj => by simp at hj) hy SOk.nil (fun k hk => .inl (hR k hk)) (fun k hk => by cases hk) (fun j v k hj => by simp at hj)

set_option maxHeartbeats 2000000 in
theorem refFlush_any {R : Nat → Prop} {r : Nat} {s : DS} (w : World) (h : Rf R w r s) :
    Calls Try.prog 35 #[dp r] w fun e w' => e = .returned (.tuple #[]) ∧ RfTo R w w' r s.fl := by
  obtain ⟨lb, cp, A, B, x, W, h⟩ := h
  have c1 := h.c1
  have c2 := h.c2
  have f2 := h.fz 2
  have HX : Hid (RfAt R w r s lb cp A B x W) := h
  have hle := h.left
  clear h
  by_cases hc : s.can = true
  · obtain ⟨x', hx'⟩ : ∃ x', wrap64 (x - 1) = x' := ⟨_, rfl⟩
    have HL1 : Hid (RfAt R (w.setCell ⟨r, 2, none⟩ (.int .i64 x')) r s.tick lb cp A B x' W) := HX.out.less hc x' hx'.symm
    have HFL : Hid (s.fl = fls s.tick s.tick.L.length) := by
      show _ = _
      rw [fls_end (s := s.tick) HX.out.out]
      unfold DS.fl
      rw [hc]
      rfl
    obtain ⟨W1, hW1⟩ : ∃ W1, w.setCell ⟨r, 2, none⟩ (.int .i64 x') = W1 := ⟨_, rfl⟩
    have T1 : Hid (Tch R w W1) := by rw [← hW1]; exact (tch_set w r 2 _).mono (fun k _ e => by rw [e]; exact HX.out.rr)
    rw [hW1] at HL1
    have HSC : (s.c = false) ∨ (s.c = true ∧ ((x == 0) = false)) := by
      cases e : s.c with
      | false => exact .inl rfl
      | true =>
        refine .inr ⟨rfl, ?_⟩
        rw [hle e, beq_eq_false_iff_ne]
        intro e2
        simp [DS.can, e] at hc
        omega
    generalize hs1 : s.tick = s1 at HL1 HFL
    have HO : Hid (Rf R W1 r s1) := ⟨lb, cp, A, B, x', W, HL1.out⟩
    obtain ⟨n, hn⟩ : ∃ n, s1.L.length = n := ⟨_, rfl⟩
    have HN : Hid (s1.L.length = n) := hn
    have hn2 : n ≤ 4096 := by rw [← hn]; exact HL1.out.n2
    rw [hn] at HFL
    clear hs1 hle hc hn HX HL1
    rcases HSC with hsc | ⟨hsc, hx0⟩
    · rw [hsc] at c1
      clear hsc
      go_enter Try.func35, Try.ntmps35
      go_wp2_with fail
      clear hW1 hx'
      go_loopw [2] (fun iv wr => ∃ k : Nat, k ≤ n ∧ iv = .int .i64 k ∧ Hid (RfTo R W1 wr r (fls s1 k))) (fun iv _ => n - (intOf iv).toNat)
      case atStart => exact ⟨0, Nat.zero_le _, rfl, HO.out.to⟩
      case round =>
        obtain ⟨k, hk, rfl, RK⟩ := hrel
        obtain ⟨R2, ⟨lb2, cp2, A2, B2, x2, W2, hX⟩, ht, hR⟩ := RK.out
        have HX : Hid (RfAt R2 wr r (fls s1 k) lb2 cp2 A2 B2 x2 W2) := hX
        have HTR : Hid (Tch R W1 wr) := ht
        have HRR : Hid (∀ j, R2 j → R j ∨ W1.heap.size ≤ j) := hR
        have d0 := hX.c0
        rw [fls_len, HN.out] at d0
        clear ht hR
        by_cases hkn : k < n
        · have hki : (k : Int) < (n : Int) := by omega
          have hk0 : (0 : Int) ≤ (k : Int) := by omega
          have HKL : Hid (k < (fls s1 k).L.length) := by show _ < _; rw [fls_len, HN.out]; exact hkn
          have cb := hX.cb HKL.out
          have hV : (fls s1 k).V k = s1.V k := by rw [fls_V, if_neg (by omega)]
          have hB := hX.bsh HKL.out
          rw [hV] at hB
          by_cases hV0 : s1.V k = []
          · have HS : Hid (RfTo R W1 wr r (fls s1 (k + 1))) := by rw [fls_same (by rw [HN.out]; exact hkn) hV0]; exact RK
            rcases hB with ⟨hb, _⟩ | ⟨g, cap, hb, _⟩
            · rw [hb] at cb
              clear hb hV hV0 hX
              go_wp2_with fail
              go_roundw
              case rel => exact ⟨k + 1, by omega, by go_num, HS⟩
              case measure => simp [intOf]; omega
            · rw [hb, hV0] at cb
              simp only [List.length_nil] at cb
              clear hb hV hV0 hX
              go_wp2_with fail
              go_roundw
              case rel => exact ⟨k + 1, by omega, by go_num, HS⟩
              case measure => simp [intOf]; omega
          · have h0 : (s1.V k).length ≠ 0 := fun e => hV0 (List.eq_nil_of_length_eq_zero e)
            rcases hB with ⟨hb, e⟩ | ⟨g, cap, hb, hc1, hc2, hwl, hwc⟩
            · exact absurd e hV0
            · rw [hb] at cb
              obtain ⟨u, hu⟩ : ∃ u, (W2 k)[(s1.V k).length - 1]? = some u := ⟨_, List.getElem?_eq_getElem (by omega)⟩
              have HU := hX.lw k _ u HKL.out hu
              have HUR : Hid (∀ j, u.ownBlock = some j → R2 j) := fun j hj => hX.rv k _ u j HKL.out hu hj
              have cu := hwc _ _ hu
              rw [hV] at HU
              have hY := (hX.okV k).get (i := (s1.V k).length - 1) (by rw [hV]; omega)
              rw [hV] at hY
              have HH : Hid (s1.has k = (s1.V k).getD ((s1.V k).length - 1) []) := has_last hV0
              obtain ⟨y, hy⟩ : ∃ y, (s1.V k).getD ((s1.V k).length - 1) [] = y := ⟨_, rfl⟩
              rw [hy] at HU HH hY
              have HUO : Hid (Owns .u8 5 wr u y) := HU
              have HYO : Hid (y.length = 256 ∧ By y) := hY
              obtain ⟨ug, ucap, rfl⟩ := HU.sh hY.1
              obtain ⟨m, hm⟩ : ∃ m, (s1.V k).length = m := ⟨_, rfl⟩
              obtain ⟨j, hj⟩ : ∃ j, (s1.V k).length - 1 = j := ⟨_, rfl⟩
              rw [hj] at cu
              rw [hm] at cb hc1 h0 hj
              have hm63 : (m : Int) ≤ 9223372036854775807 := by unfold maxLen at hc2; omega
              have hmI : (m : Int) > 0 := by omega
              have hmj : (m : Int) - 1 = (j : Int) := by omega
              have hjw : IntKind.i64.wrap (j : Int) = (j : Int) := by rw [IntKind.wrap_i64]; omega
              have hj0 : (0 : Int) ≤ (j : Int) := by omega
              have hjm : (j : Int) < (m : Int) := by omega
              have ca := hX.ca HKL.out
              have fa := hX.fl (k * 2)
              have fb := hX.fl (k * 2 + 1)
              obtain ⟨WD, hWD⟩ : ∃ WD, (wr.setCell ⟨lb2, k * 2, none⟩ (.slice (some ⟨ug, 0, none⟩) 256 ucap)).drew = WD := ⟨_, rfl⟩
              have t1 := tch_set wr lb2 (k * 2) (.slice (some ⟨ug, 0, none⟩) 256 ucap)
              have HTD : Hid (Tch (fun j => j = lb2) wr WD) := by rw [← hWD]; exact t1.drew
              have HRW : Hid (WD.ownsRow 0 70 2 (.slice (some ⟨lb2, 0, none⟩) (fls s1 k).L.length cp2) (fls s1 k).L.length (cl (fls s1 k).L.length (updV A2 k (.slice (some ⟨ug, 0, none⟩) 256 ucap)) B2)) := by
                show World.ownsRow _ _ _ _ _ _ _
                rw [← hWD]
                exact (Tch.drew (Tch.refl (fun _ => False) _)).owns (row_set0 hX.row HKL.out _) (fun _ _ e => e)
              have dD : WD.cell? ⟨r, 0, none⟩ = some (.slice (some ⟨lb2, 0, none⟩) n cp2) := by rw [← d0]; exact HTD.out.cell hX.lt hX.ne_lb
              have fD := HRW.out.frozenAt (k * 2 + 1)
              have cD : WD.cell? ⟨lb2, k * 2 + 1, none⟩ = some (B2 k) := by rw [HRW.out.cellAt (k * 2 + 1) (by have := HKL.out; omega)]; exact cl_get1 _ _ HKL.out
              have FIN : Hid (RfTo R W1 (WD.setCell ⟨lb2, k * 2 + 1, none⟩ (.slice none 0 0)) r (fls s1 (k + 1))) := by
                have h2 := HX.out.two HKL.out HUO.out HUR.out HYO.out (HTD.out.trans (tch_set WD lb2 (k * 2 + 1) (.slice none 0 0)) (fun _ _ e => e)) (row_set1 HRW.out HKL.out _)
                have e : fls s1 (k + 1) = { fls s1 k with L := (fls s1 k).L.set k y, V := vput (fls s1 k).V k [] } := by
                  show ({ fls s1 k with L := (fls s1 k).L.set k (s1.has k), V := vput (fls s1 k).V k [] } : DS) = _
                  rw [HH.out]
                rw [e]
                exact RfTo.trans (w' := wr) ⟨lb2, cp2, A2, B2, x2, W2, HX.out⟩ HTR.out HRR.out h2
              clear t1
              clear hb hV hV0 hX hwl hwc hu hy hY hm hj hc1 hc2 HU h0 RK
              go_wp2_with fail
              go_still_tail 19, (by kernel_rfl)
              go_wp2_with fail
              go_roundw
              case rel => exact ⟨k + 1, by omega, by go_num, FIN⟩
              case measure => simp [intOf]; omega
        · have hki : ¬ (k : Int) < (n : Int) := by omega
          have HK : Hid (k = n) := by show _ = _; omega
          clear hkn hX
          go_wp2_with fail
          go_end0
          refine ⟨rfl, ?_⟩
          rw [HFL.out, ← HK.out]
          exact RfTo.trans HO.out T1.out (fun _ e => .inl e) RK.out
    · rw [hsc] at c1
      clear hsc
      go_enter Try.func35, Try.ntmps35
      go_wp2_with fail
      clear hW1 hx'
      go_loopw [2] (fun iv wr => ∃ k : Nat, k ≤ n ∧ iv = .int .i64 k ∧ Hid (RfTo R W1 wr r (fls s1 k))) (fun iv _ => n - (intOf iv).toNat)
      case atStart => exact ⟨0, Nat.zero_le _, rfl, HO.out.to⟩
      case round =>
        obtain ⟨k, hk, rfl, RK⟩ := hrel
        obtain ⟨R2, ⟨lb2, cp2, A2, B2, x2, W2, hX⟩, ht, hR⟩ := RK.out
        have HX : Hid (RfAt R2 wr r (fls s1 k) lb2 cp2 A2 B2 x2 W2) := hX
        have HTR : Hid (Tch R W1 wr) := ht
        have HRR : Hid (∀ j, R2 j → R j ∨ W1.heap.size ≤ j) := hR
        have d0 := hX.c0
        rw [fls_len, HN.out] at d0
        clear ht hR
        by_cases hkn : k < n
        · have hki : (k : Int) < (n : Int) := by omega
          have hk0 : (0 : Int) ≤ (k : Int) := by omega
          have HKL : Hid (k < (fls s1 k).L.length) := by show _ < _; rw [fls_len, HN.out]; exact hkn
          have cb := hX.cb HKL.out
          have hV : (fls s1 k).V k = s1.V k := by rw [fls_V, if_neg (by omega)]
          have hB := hX.bsh HKL.out
          rw [hV] at hB
          by_cases hV0 : s1.V k = []
          · have HS : Hid (RfTo R W1 wr r (fls s1 (k + 1))) := by rw [fls_same (by rw [HN.out]; exact hkn) hV0]; exact RK
            rcases hB with ⟨hb, _⟩ | ⟨g, cap, hb, _⟩
            · rw [hb] at cb
              clear hb hV hV0 hX
              go_wp2_with fail
              go_roundw
              case rel => exact ⟨k + 1, by omega, by go_num, HS⟩
              case measure => simp [intOf]; omega
            · rw [hb, hV0] at cb
              simp only [List.length_nil] at cb
              clear hb hV hV0 hX
              go_wp2_with fail
              go_roundw
              case rel => exact ⟨k + 1, by omega, by go_num, HS⟩
              case measure => simp [intOf]; omega
          · have h0 : (s1.V k).length ≠ 0 := fun e => hV0 (List.eq_nil_of_length_eq_zero e)
            rcases hB with ⟨hb, e⟩ | ⟨g, cap, hb, hc1, hc2, hwl, hwc⟩
            · exact absurd e hV0
            · rw [hb] at cb
              obtain ⟨u, hu⟩ : ∃ u, (W2 k)[(s1.V k).length - 1]? = some u := ⟨_, List.getElem?_eq_getElem (by omega)⟩
              have HU := hX.lw k _ u HKL.out hu
              have HUR : Hid (∀ j, u.ownBlock = some j → R2 j) := fun j hj => hX.rv k _ u j HKL.out hu hj
              have cu := hwc _ _ hu
              rw [hV] at HU
              have hY := (hX.okV k).get (i := (s1.V k).length - 1) (by rw [hV]; omega)
              rw [hV] at hY
              have HH : Hid (s1.has k = (s1.V k).getD ((s1.V k).length - 1) []) := has_last hV0
              obtain ⟨y, hy⟩ : ∃ y, (s1.V k).getD ((s1.V k).length - 1) [] = y := ⟨_, rfl⟩
              rw [hy] at HU HH hY
              have HUO : Hid (Owns .u8 5 wr u y) := HU
              have HYO : Hid (y.length = 256 ∧ By y) := hY
              obtain ⟨ug, ucap, rfl⟩ := HU.sh hY.1
              obtain ⟨m, hm⟩ : ∃ m, (s1.V k).length = m := ⟨_, rfl⟩
              obtain ⟨j, hj⟩ : ∃ j, (s1.V k).length - 1 = j := ⟨_, rfl⟩
              rw [hj] at cu
              rw [hm] at cb hc1 h0 hj
              have hm63 : (m : Int) ≤ 9223372036854775807 := by unfold maxLen at hc2; omega
              have hmI : (m : Int) > 0 := by omega
              have hmj : (m : Int) - 1 = (j : Int) := by omega
              have hjw : IntKind.i64.wrap (j : Int) = (j : Int) := by rw [IntKind.wrap_i64]; omega
              have hj0 : (0 : Int) ≤ (j : Int) := by omega
              have hjm : (j : Int) < (m : Int) := by omega
              have ca := hX.ca HKL.out
              have fa := hX.fl (k * 2)
              have fb := hX.fl (k * 2 + 1)
              obtain ⟨WD, hWD⟩ : ∃ WD, (wr.setCell ⟨lb2, k * 2, none⟩ (.slice (some ⟨ug, 0, none⟩) 256 ucap)).drew = WD := ⟨_, rfl⟩
              have t1 := tch_set wr lb2 (k * 2) (.slice (some ⟨ug, 0, none⟩) 256 ucap)
              have HTD : Hid (Tch (fun j => j = lb2) wr WD) := by rw [← hWD]; exact t1.drew
              have HRW : Hid (WD.ownsRow 0 70 2 (.slice (some ⟨lb2, 0, none⟩) (fls s1 k).L.length cp2) (fls s1 k).L.length (cl (fls s1 k).L.length (updV A2 k (.slice (some ⟨ug, 0, none⟩) 256 ucap)) B2)) := by
                show World.ownsRow _ _ _ _ _ _ _
                rw [← hWD]
                exact (Tch.drew (Tch.refl (fun _ => False) _)).owns (row_set0 hX.row HKL.out _) (fun _ _ e => e)
              have dD : WD.cell? ⟨r, 0, none⟩ = some (.slice (some ⟨lb2, 0, none⟩) n cp2) := by rw [← d0]; exact HTD.out.cell hX.lt hX.ne_lb
              have fD := HRW.out.frozenAt (k * 2 + 1)
              have cD : WD.cell? ⟨lb2, k * 2 + 1, none⟩ = some (B2 k) := by rw [HRW.out.cellAt (k * 2 + 1) (by have := HKL.out; omega)]; exact cl_get1 _ _ HKL.out
              have FIN : Hid (RfTo R W1 (WD.setCell ⟨lb2, k * 2 + 1, none⟩ (.slice none 0 0)) r (fls s1 (k + 1))) := by
                have h2 := HX.out.two HKL.out HUO.out HUR.out HYO.out (HTD.out.trans (tch_set WD lb2 (k * 2 + 1) (.slice none 0 0)) (fun _ _ e => e)) (row_set1 HRW.out HKL.out _)
                have e : fls s1 (k + 1) = { fls s1 k with L := (fls s1 k).L.set k y, V := vput (fls s1 k).V k [] } := by
                  show ({ fls s1 k with L := (fls s1 k).L.set k (s1.has k), V := vput (fls s1 k).V k [] } : DS) = _
                  rw [HH.out]
                rw [e]
                exact RfTo.trans (w' := wr) ⟨lb2, cp2, A2, B2, x2, W2, HX.out⟩ HTR.out HRR.out h2
              clear t1
              clear hb hV hV0 hX hwl hwc hu hy hY hm hj hc1 hc2 HU h0 RK
              go_wp2_with fail
              go_still_tail 19, (by kernel_rfl)
              go_wp2_with fail
              go_roundw
              case rel => exact ⟨k + 1, by omega, by go_num, FIN⟩
              case measure => simp [intOf]; omega
        · have hki : ¬ (k : Int) < (n : Int) := by omega
          have HK : Hid (k = n) := by show _ = _; omega
          clear hkn hX
          go_wp2_with fail
          go_end0
          refine ⟨rfl, ?_⟩
          rw [HFL.out, ← HK.out]
          exact RfTo.trans HO.out T1.out (fun _ e => .inl e) RK.out
  · have hcc : s.c = true ∧ s.l = 0 := by
      cases e : s.c with
      | false => simp [DS.can, e] at hc
      | true => simp [DS.can, e] at hc; exact ⟨rfl, hc⟩
    rw [hcc.1] at c1
    rw [hle hcc.1, hcc.2] at c2
    have HW : Hid (s.fl = s) := by show _ = _; unfold DS.fl; rw [if_neg hc]
    clear hc hcc hle
    go_enter Try.func35, Try.ntmps35
    go_wp2_with fail
    refine bodyPost_ret (results_none rfl _ _ _) rfl ?_
    refine ⟨rfl, ?_⟩
    rw [HW.out]
    exact (show Rf R w r s from ⟨lb, cp, A, B, x, W, HX.out⟩).to
end Go.Proofs.Ytgpaklifjonlkaa
