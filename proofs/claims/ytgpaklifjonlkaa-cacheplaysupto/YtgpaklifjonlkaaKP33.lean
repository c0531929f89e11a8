import Derived.Test.YtgpaklifjonlkaaKP06
import Derived.Test.YtgpaklifjonlkaaKP11
/-
  The document's Read, Cuts and Dirty.
-/
namespace Go.Proofs.Ytgpaklifjonlkaa
open Go.RowKit Go.Maps
set_option linter.unusedVariables false
set_option linter.unusedSimpArgs false
set_option maxRecDepth 100000

/-- What a row of bytes' slice looks like. -/
theorem Owns.sh {w : World} {v : Value} {ys : List Int} (h : Owns .u8 5 w v ys) (hl : ys.length = 256) : ∃ g cap, v = .slice (some ⟨g, 0, none⟩) 256 cap := by
  obtain ⟨g, cap, e, _⟩ := h.shape (by omega)
  exact ⟨g, cap, by rw [e, hl]⟩

/-- The versions' slice. -/
theorem RfAt.bsh {R : Nat → Prop} {w : World} {r : Nat} {s : DS} {lb cp : Nat} {A B : Nat → Value} {x : Int} {W : Nat → List Value} (h : RfAt R w r s lb cp A B x W) {i : Nat} (hi : i < s.L.length) :
    (B i = .slice none 0 0 ∧ s.V i = []) ∨ ∃ g cap, B i = .slice (some ⟨g, 0, none⟩) (s.V i).length cap ∧ (s.V i).length ≤ cap ∧ cap ≤ maxLen ∧ (W i).length = (s.V i).length ∧ ∀ j v, (W i)[j]? = some v → w.cell? ⟨g, j, none⟩ = some v := by
  have hv := h.lv i hi
  have hlen : (W i).length = (s.V i).length := by have := hv.1; omega
  rcases hv.2 with ⟨e, e2⟩ | ⟨g, cap, cur, e, _, _, h1, h2, _⟩
  · exact .inl ⟨e, List.eq_nil_of_length_eq_zero e2⟩
  · refine .inr ⟨g, cap, e, h1, h2, hlen, fun j v hj => ?_⟩
    rw [e] at hv
    have hjl := (List.getElem?_eq_some_iff.1 hj).1
    rw [hv.cellAt j (by omega)]
    exact hj

theorem refRead_bad {R : Nat → Prop} {r : Nat} {s : DS} (at_ : Int) (w : World) (h : Rf R w r s) (hb : at_ < 0 ∨ (s.L.length : Int) ≤ at_) :
    Calls Try.prog 55 #[dp r, .int .i64 at_] w fun e w' => e = .returned (.tuple #[.slice none 0 0, .int .i64 2]) ∧ w' = w := by
  obtain ⟨lb, cp, A, B, x, W, h⟩ := h
  have c0 := h.c0
  obtain ⟨n, hn⟩ : ∃ n, s.L.length = n := ⟨_, rfl⟩
  rw [hn] at c0 hb
  clear h hn
  by_cases h0 : at_ < 0
  · go_enter Try.func55, Try.ntmps55
    go_wp2_with fail
    go_ret2
    exact ⟨rfl, rfl⟩
  · have h1 : at_ ≥ (n : Int) := by omega
    go_enter Try.func55, Try.ntmps55
    go_wp2_with fail
    go_ret2
    exact ⟨rfl, rfl⟩

set_option maxHeartbeats 1000000 in
theorem refRead_ok {R : Nat → Prop} {r : Nat} {s : DS} (i : Nat) (w : World) (h : Rf R w r s) (hi : i < s.L.length) :
    Calls Try.prog 55 #[dp r, .int .i64 (i : Int)] w fun e w' => ∃ v, e = .returned (.tuple #[v, .int .i64 0]) ∧ Owns .u8 5 w' v (s.has i) ∧ Below w.heap.size w w' ∧ ∀ k, v.ownBlock = some k → w.heap.size ≤ k := by
  obtain ⟨lb, cp, A, B, x, W, h⟩ := h
  have c0 := h.c0
  have ca := h.ca hi
  have cb := h.cb hi
  have hA := h.la i hi
  obtain ⟨ag, acap, hAe⟩ := hA.sh (h.okL.get hi).1
  have HA : Hid (Owns .u8 5 w (.slice (some ⟨ag, 0, none⟩) 256 acap) (s.L.getD i [])) := by rw [← hAe]; exact hA
  rw [hAe] at ca
  have hB := h.bsh hi
  obtain ⟨y0, hy0⟩ : ∃ y0, s.L.getD i [] = y0 := ⟨_, rfl⟩
  have HL : Hid (y0.length = 256) := by rw [← hy0]; exact (h.okL.get hi).1
  have HY0 : Hid (s.L.getD i [] = y0) := hy0
  rw [hy0] at HA
  obtain ⟨n, hn⟩ : ∃ n, s.L.length = n := ⟨_, rfl⟩
  have hin : (i : Int) < (n : Int) := by omega
  have hni : ¬ (i : Int) ≥ (n : Int) := by omega
  have hi0 : ¬ (i : Int) < 0 := by omega
  have hi0' : (0 : Int) ≤ (i : Int) := by omega
  have HLT : Hid (lb < w.heap.size) := h.rlt _ h.rl
  have HX : Hid (RfAt R w r s lb cp A B x W) := h
  have HI : Hid (i < s.L.length) := hi
  rw [hn] at c0
  clear h hA hAe hn hy0
  rcases hB with ⟨hb, hV⟩ | ⟨g, cap, hb, hc1, hc2, hwl, hwc⟩
  · rw [hb] at cb
    have HH : Hid (s.has i = y0) := by show _ = _; unfold DS.has; rw [hV]; exact HY0.out
    clear hb hV
    have B1 : Hid (Below w.heap.size w (w.alloc (.cells #[.slice (some ⟨ag, 0, none⟩) 256 acap, .slice none 0 0] 70))) := (Below.refl _ _).alloc (Nat.le_refl _) _
    have A1 : Hid (Owns .u8 5 (w.alloc (.cells #[.slice (some ⟨ag, 0, none⟩) 256 acap, .slice none 0 0] 70)) (.slice (some ⟨ag, 0, none⟩) 256 acap) y0) := HA.out.below B1.out
    go_enter Try.func55, Try.ntmps55
    go_wp2_with (at_builtin; refine wpList_many (w.alloc (.cells #[.slice (some ⟨ag, 0, none⟩) 256 acap, .slice none 0 0] 70)) rfl (.tmp 41) (.tmp 42) 38 rfl 5 .u8 1 elem8 (.slice none 0 0) [] rfl (owns_nil _ _ _) _ y0 rfl A1.out.rd (by rw [HL.out]; decide) (by rw [HL.out]; decide) ?_)
    intro v2 w2 ho2 hg2
    have O2 : Hid (Owns .u8 5 w2 v2 y0) := ho2
    have G2 : Hid (Below (w.alloc (.cells #[.slice (some ⟨ag, 0, none⟩) 256 acap, .slice none 0 0] 70)).heap.size (w.alloc (.cells #[.slice (some ⟨ag, 0, none⟩) 256 acap, .slice none 0 0] 70)) w2 ∧ ∀ k, v2.ownBlock = some k → (w.alloc (.cells #[.slice (some ⟨ag, 0, none⟩) 256 acap, .slice none 0 0] 70)).heap.size ≤ k) := hg2.below
    clear ho2 hg2
    go_wp2_with fail
    go_ret2
    refine ⟨v2, rfl, ?_, B1.out.trans (G2.out.1.mono B1.out.size), fun k hk => Nat.le_trans B1.out.size (G2.out.2 k hk)⟩
    rw [HH.out]
    exact O2.out
  · rw [hb] at cb
    by_cases hV : s.V i = []
    · have HH : Hid (s.has i = y0) := by show _ = _; unfold DS.has; rw [hV]; exact HY0.out
      rw [hV] at cb
      simp only [List.length_nil] at cb
      clear hb hV hwc hwl hc1 hc2
      have B1 : Hid (Below w.heap.size w (w.alloc (.cells #[.slice (some ⟨ag, 0, none⟩) 256 acap, .slice (some ⟨g, 0, none⟩) 0 cap] 70))) := (Below.refl _ _).alloc (Nat.le_refl _) _
      have A1 : Hid (Owns .u8 5 (w.alloc (.cells #[.slice (some ⟨ag, 0, none⟩) 256 acap, .slice (some ⟨g, 0, none⟩) 0 cap] 70)) (.slice (some ⟨ag, 0, none⟩) 256 acap) y0) := HA.out.below B1.out
      go_enter Try.func55, Try.ntmps55
      go_wp2_with (at_builtin; refine wpList_many (w.alloc (.cells #[.slice (some ⟨ag, 0, none⟩) 256 acap, .slice (some ⟨g, 0, none⟩) 0 cap] 70)) rfl (.tmp 41) (.tmp 42) 38 rfl 5 .u8 1 elem8 (.slice none 0 0) [] rfl (owns_nil _ _ _) _ y0 rfl A1.out.rd (by rw [HL.out]; decide) (by rw [HL.out]; decide) ?_)
      intro v2 w2 ho2 hg2
      have O2 : Hid (Owns .u8 5 w2 v2 y0) := ho2
      have G2 : Hid (Below (w.alloc (.cells #[.slice (some ⟨ag, 0, none⟩) 256 acap, .slice (some ⟨g, 0, none⟩) 0 cap] 70)).heap.size (w.alloc (.cells #[.slice (some ⟨ag, 0, none⟩) 256 acap, .slice (some ⟨g, 0, none⟩) 0 cap] 70)) w2 ∧ ∀ k, v2.ownBlock = some k → (w.alloc (.cells #[.slice (some ⟨ag, 0, none⟩) 256 acap, .slice (some ⟨g, 0, none⟩) 0 cap] 70)).heap.size ≤ k) := hg2.below
      clear ho2 hg2
      go_wp2_with fail
      go_ret2
      refine ⟨v2, rfl, ?_, B1.out.trans (G2.out.1.mono B1.out.size), fun k hk => Nat.le_trans B1.out.size (G2.out.2 k hk)⟩
      rw [HH.out]
      exact O2.out
    · have h0 : (s.V i).length ≠ 0 := fun e => hV (List.eq_nil_of_length_eq_zero e)
      have HH : Hid (s.has i = (s.V i).getD ((s.V i).length - 1) []) := has_last hV
      obtain ⟨u, hu⟩ : ∃ u, (W i)[(s.V i).length - 1]? = some u := ⟨_, List.getElem?_eq_getElem (by omega)⟩
      have HU := HX.out.lw i _ u HI.out hu
      have cu := hwc _ _ hu
      have hY := (HX.out.okV i).get (i := (s.V i).length - 1) (by omega)
      obtain ⟨y, hy⟩ : ∃ y, (s.V i).getD ((s.V i).length - 1) [] = y := ⟨_, rfl⟩
      rw [hy] at HU HH hY
      obtain ⟨ug, ucap, rfl⟩ := HU.sh hY.1
      have HYL : Hid (y.length = 256) := hY.1
      obtain ⟨k, hk⟩ : ∃ k, (s.V i).length = k + 1 := ⟨(s.V i).length - 1, by omega⟩
      rw [hk] at cb hc1 cu
      rw [Nat.add_sub_cancel] at cu
      have hk63 : (k : Int) + 1 ≤ 9223372036854775807 := by unfold maxLen at hc2; omega
      have hkk : ((k + 1 : Nat) : Int) = (k : Int) + 1 := by omega
      have hgl := World.block_lt_of_cell? w ⟨g, k, none⟩ cu
      clear hb hV hwc hwl hc1 hc2 h0 hu hy hY hk
      have B1 : Hid (Below w.heap.size w (w.alloc (.cells #[.slice (some ⟨ag, 0, none⟩) 256 acap, .slice (some ⟨g, 0, none⟩) (k + 1) cap] 70))) := (Below.refl _ _).alloc (Nat.le_refl _) _
      have cu1 : (w.alloc (.cells #[.slice (some ⟨ag, 0, none⟩) 256 acap, .slice (some ⟨g, 0, none⟩) (k + 1) cap] 70)).cell? ⟨g, k, none⟩ = some (.slice (some ⟨ug, 0, none⟩) 256 ucap) := by rw [B1.out.cell (p := ⟨g, k, none⟩) hgl]; exact cu
      have A1 : Hid (Owns .u8 5 (w.alloc (.cells #[.slice (some ⟨ag, 0, none⟩) 256 acap, .slice (some ⟨g, 0, none⟩) (k + 1) cap] 70)) (.slice (some ⟨ug, 0, none⟩) 256 ucap) y) := HU.below B1.out
      clear hgl HU
      go_enter Try.func55, Try.ntmps55
      go_wp2_with (at_builtin; refine wpList_many (w.alloc (.cells #[.slice (some ⟨ag, 0, none⟩) 256 acap, .slice (some ⟨g, 0, none⟩) (k + 1) cap] 70)) rfl (.tmp 41) (.tmp 42) 38 rfl 5 .u8 1 elem8 (.slice none 0 0) [] rfl (owns_nil _ _ _) _ y rfl A1.out.rd (by rw [HYL.out]; decide) (by rw [HYL.out]; decide) ?_)
      intro v2 w2 ho2 hg2
      have O2 : Hid (Owns .u8 5 w2 v2 y) := ho2
      have G2 : Hid (Below (w.alloc (.cells #[.slice (some ⟨ag, 0, none⟩) 256 acap, .slice (some ⟨g, 0, none⟩) (k + 1) cap] 70)).heap.size (w.alloc (.cells #[.slice (some ⟨ag, 0, none⟩) 256 acap, .slice (some ⟨g, 0, none⟩) (k + 1) cap] 70)) w2 ∧ ∀ kk, v2.ownBlock = some kk → (w.alloc (.cells #[.slice (some ⟨ag, 0, none⟩) 256 acap, .slice (some ⟨g, 0, none⟩) (k + 1) cap] 70)).heap.size ≤ kk) := hg2.below
      clear ho2 hg2
      go_wp2_with fail
      go_ret2
      refine ⟨v2, rfl, ?_, B1.out.trans (G2.out.1.mono B1.out.size), fun k hk => Nat.le_trans B1.out.size (G2.out.2 k hk)⟩
      rw [HH.out]
      exact O2.out

theorem RfAt.set12 {R : Nat → Prop} {w : World} {r : Nat} {s : DS} {lb cp : Nat} {A B : Nat → Value} {x : Int} {W : Nat → List Value} (h : RfAt R w r s lb cp A B x W) (c : Bool) (l : Nat) (hl : l ≤ 1073741824) :
    RfTo R w ((w.setCell ⟨r, 1, none⟩ (.bool c)).setCell ⟨r, 2, none⟩ (.int .i64 (l : Int))) r { s with c := c, l := l } := by
  have t1 := tch_set w r 1 (.bool c)
  have t2 := tch_set (w.setCell ⟨r, 1, none⟩ (.bool c)) r 2 (.int .i64 (l : Int))
  have t : Tch (fun k => k = r) w ((w.setCell ⟨r, 1, none⟩ (.bool c)).setCell ⟨r, 2, none⟩ (.int .i64 (l : Int))) := t1.trans t2 (fun _ _ e => e)
  refine ⟨R, ⟨lb, cp, A, B, (l : Int), W, h.cut c l (l : Int) hl (fun _ => rfl) (by omega) (by omega) t ?_⟩, t.mono (fun k _ e => by rw [e]; exact h.rr), fun k hk => .inl hk⟩
  have h1 := heap_setCell_same w r 1 _ _ (.bool c) h.box
  rw [heap_setCell_same _ r 2 _ _ _ h1]
  rfl

theorem elem64 : Elem Try.prog 41 3 .i64 8 := ⟨Try.underlying41, info_parts (z := .int .i64 0) (size := 1) (bytes := 8) (by kernel_rfl)⟩

/-- The dirty ones below k. -/
def dtk (s : DS) (k : Nat) : List Int := ((List.range k).filter fun i => decide (s.V i ≠ [])).map Int.ofNat
theorem dtk_succ (s : DS) (k : Nat) : dtk s (k + 1) = if s.V k = [] then dtk s k else dtk s k ++ [(k : Int)] := by
  unfold dtk
  rw [List.range_succ, List.filter_append, List.map_append]
  by_cases h : s.V k = []
  · rw [if_pos h]; simp [h]
  · rw [if_neg h]; simp [h]
theorem dtk_len (s : DS) (k : Nat) : (dtk s k).length ≤ k := by
  unfold dtk
  rw [List.length_map]
  have := List.length_filter_le (fun i => decide (s.V i ≠ [])) (List.range k)
  simpa using this

set_option maxHeartbeats 1000000 in
theorem refDirty_any {R : Nat → Prop} {r : Nat} {s : DS} (w : World) (h : Rf R w r s) (hV : ∀ i, (s.V i).length < 274877906944) :
    Calls Try.prog 17 #[dp r] w fun e w' => ∃ v, e = .returned v ∧ Owns .i64 3 w' v (s.dirty.map Int.ofNat) ∧ Below w.heap.size w w' ∧ ∀ k, v.ownBlock = some k → w.heap.size ≤ k := by
  obtain ⟨lb, cp, A, B, x, W, h⟩ := h
  have HX : Hid (RfAt R w r s lb cp A B x W) := h
  have HFIN : Hid (dtk s s.L.length = s.dirty.map Int.ofNat) := rfl
  have n2 := h.n2
  have HV : Hid (∀ i, (s.V i).length < 274877906944) := hV
  obtain ⟨n, hn⟩ : ∃ n, s.L.length = n := ⟨_, rfl⟩
  have HN : Hid (s.L.length = n) := hn
  rw [hn] at n2 HFIN
  clear h hn hV
  go_enter Try.func17, Try.ntmps17
  go_wp2_with fail
  go_loopw [3, 4] (fun ov iv wr => ∃ k : Nat, k ≤ n ∧ iv = .int .i64 k ∧ Hid (Owns .i64 3 wr ov (dtk s k)) ∧ Hid (Below w.heap.size w wr) ∧ Hid (∀ k, ov.ownBlock = some k → w.heap.size ≤ k)) (fun _ iv _ => n - (intOf iv).toNat)
  case atStart => exact ⟨0, Nat.zero_le _, rfl, owns_nil _ _ _, Below.refl _ _, fun k e => by cases e⟩
  case round =>
    obtain ⟨k, hk, rfl, O1, B1, F1⟩ := hrel
    have HXR : Hid (RfAt R wr r s lb cp A B x W) := HX.out.tch (S := fun j => w.heap.size ≤ j) ⟨B1.out.os, B1.out.tape, B1.out.output, B1.out.size, fun j hj _ => B1.out.block j hj⟩ (fun j hj e => by have := HX.out.rlt j hj; omega)
    have c0 := HXR.out.c0
    rw [HN.out] at c0
    by_cases hkn : k < n
    · have hki : (k : Int) < (n : Int) := by omega
      have hk0 : (0 : Int) ≤ (k : Int) := by omega
      have cb := HXR.out.cb (i := k) (by rw [HN.out]; exact hkn)
      have hB := HXR.out.bsh (i := k) (by rw [HN.out]; exact hkn)
      have hstep := dtk_succ s k
      rcases hB with ⟨hb, hV⟩ | ⟨g, cap, hb, hc1, hc2, _, _⟩
      · rw [hb] at cb
        rw [if_pos hV] at hstep
        have O2 : Hid (Owns .i64 3 wr u3 (dtk s (k + 1))) := by rw [hstep]; exact O1
        clear hb hV hstep
        go_wp2_with fail
        go_roundw
        case rel => exact ⟨k + 1, by omega, by go_num, O2, B1, F1⟩
        case measure => simp [intOf]; omega
      · rw [hb] at cb
        obtain ⟨t, ht⟩ : ∃ t, (s.V k).length = t := ⟨_, rfl⟩
        rw [ht] at cb hc1
        have ht63 : (t : Int) ≤ 9223372036854775807 := by unfold maxLen at hc2; omega
        by_cases hV : s.V k = []
        · have ht0 : t = 0 := by rw [← ht, hV]; rfl
          rw [ht0] at cb
          rw [if_pos hV] at hstep
          have O2 : Hid (Owns .i64 3 wr u3 (dtk s (k + 1))) := by rw [hstep]; exact O1
          clear hb hV hstep ht ht0 hc1 hc2 ht63
          go_wp2_with fail
          go_roundw
          case rel => exact ⟨k + 1, by omega, by go_num, O2, B1, F1⟩
          case measure => simp [intOf]; omega
        · have ht0 : (t : Int) > 0 := by
            have : t ≠ 0 := fun e => hV (List.eq_nil_of_length_eq_zero (ht.trans e))
            omega
          rw [if_neg hV] at hstep
          have HST : Hid (dtk s (k + 1) = dtk s k ++ [(k : Int)]) := hstep
          have HLE : Hid ((dtk s k).length ≤ 4096) := by have := dtk_len s k; show _ ≤ _; omega
          clear hb hV hstep ht hc1 hc2
          go_wp2_with (at_builtin; refine Hid.out ?_)
          refine hideP ?_
          refine (wpList_push wr rfl (.tmp 24) (.tmp 26) 41 rfl 3 .i64 8 elem64 u3 (dtk s k) rfl O1.out (k : Int) rfl (by have := HLE.out; omega) (by have := HLE.out; omega) ?_)
          intro v2 w2 ho2 hg2
          rw [← HST.out] at ho2
          have O2 : Hid (Owns .i64 3 w2 v2 (dtk s (k + 1))) := ho2
          have G2 := hg2.onto B1.out F1.out
          have B2 : Hid (Below w.heap.size w w2) := G2.1
          have F2 : Hid (∀ k, v2.ownBlock = some k → w.heap.size ≤ k) := G2.2
          clear ho2 hg2 G2
          go_wp2_with fail
          go_roundw
          case rel => exact ⟨k + 1, by omega, by go_num, O2, B2, F2⟩
          case measure => simp [intOf]; omega
    · have hki : ¬ (k : Int) < (n : Int) := by omega
      have HK : Hid (k = n) := by show _ = _; omega
      clear hkn
      go_wp2_with fail
      go_ret
      refine ⟨_, rfl, ?_, B1.out, F1.out⟩
      have := O1.out
      rw [HK.out, HFIN.out] at this
      exact this
end Go.Proofs.Ytgpaklifjonlkaa
