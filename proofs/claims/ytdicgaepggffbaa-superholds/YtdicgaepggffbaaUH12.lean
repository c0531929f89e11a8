import Derived.Test.YtdicgaepggffbaaUH05
import Derived.Test.YtdicgaepggffbaaUH07
import Derived.Lib.SliceRun
/-
  The document's Read, Cuts and Dirty.
-/
namespace Go.Proofs.Ytdicgaepggffbaa
open Go.RowKit Go.Maps
set_option linter.unusedVariables false
set_option linter.unusedSimpArgs false
set_option maxRecDepth 100000

/-- What a row of bytes' slice looks like. -/
theorem Owns.sh {w : World} {v : Value} {ys : List Int} (h : Owns .u8 5 w v ys) (hl : ys.length = 256) : ∃ g cap, v = .slice (some ⟨g, 0, none⟩) 256 cap := by
  obtain ⟨g, cap, e, _⟩ := h.shape (by omega)
  exact ⟨g, cap, by rw [e, hl]⟩

/-- The versions' slice. -/
theorem RfAt.bsh {R : Nat → Prop} {w : World} {r : Nat} {s : DS} {lb cp : Nat} {A B : Nat → Value} {x : Int} {W : Nat → List Value} (h : RfAt R w r s lb cp A B x W) {i : Nat} (hi : i < s.L.length) :
    (B i = .slice none 0 0 ∧ s.V i = []) ∨ ∃ g cap, B i = .slice (some ⟨g, 0, none⟩) (s.V i).length cap ∧ (s.V i).length ≤ cap ∧ cap ≤ maxLen ∧ (W i).length = (s.V i).length ∧ ∀ j v, (W i)[j]? = some v → w.cell? ⟨g, j, none⟩ = some v := by
  have hv := h.lv i hi
  have hlen : (W i).length = (s.V i).length := by have := hv.1; omega
  rcases hv.2 with ⟨e, e2⟩ | ⟨g, cap, cur, e, _, _, h1, h2, _⟩
  · exact .inl ⟨e, List.eq_nil_of_length_eq_zero e2⟩
  · refine .inr ⟨g, cap, e, h1, h2, hlen, fun j v hj => ?_⟩
    rw [e] at hv
    have hjl := (List.getElem?_eq_some_iff.1 hj).1
    rw [hv.cellAt j (by omega)]
    exact hj

theorem refRead_bad {R : Nat → Prop} {r : Nat} {s : DS} (at_ : Int) (w : World) (h : Rf R w r s) (hb : at_ < 0 ∨ (s.L.length : Int) ≤ at_) :
    Calls Try.prog 52 #[dp r, .int .i64 at_] w fun e w' => e = .returned (.tuple #[.slice none 0 0, .int .i64 2]) ∧ w' = w := by
  obtain ⟨lb, cp, A, B, x, W, h⟩ := h
  have c0 := h.c0
  obtain ⟨n, hn⟩ : ∃ n, s.L.length = n := ⟨_, rfl⟩
  rw [hn] at c0 hb
  clear h hn
  by_cases h0 : at_ < 0
  · go_enter Try.func52, Try.ntmps52
    go_wp2_with fail
    go_ret2
    exact ⟨rfl, rfl⟩
  · have h1 : at_ ≥ (n : Int) := by omega
    go_enter Try.func52, Try.ntmps52
    go_wp2_with fail
    go_ret2
    exact ⟨rfl, rfl⟩

set_option maxHeartbeats 1000000 in
theorem refRead_ok {R : Nat → Prop} {r : Nat} {s : DS} (i : Nat) (w : World) (h : Rf R w r s) (hi : i < s.L.length) :
    Calls Try.prog 52 #[dp r, .int .i64 (i : Int)] w fun e w' => ∃ v, e = .returned (.tuple #[v, .int .i64 0]) ∧ Owns .u8 5 w' v (s.has i) ∧ Below w.heap.size w w' ∧ ∀ k, v.ownBlock = some k → w.heap.size ≤ k := by
  obtain ⟨lb, cp, A, B, x, W, h⟩ := h
  have c0 := h.c0
  have ca := h.ca hi
  have cb := h.cb hi
  have hA := h.la i hi
  obtain ⟨ag, acap, hAe⟩ := hA.sh (h.okL.get hi).1
  have HA : Hid (Owns .u8 5 w (.slice (some ⟨ag, 0, none⟩) 256 acap) (s.L.getD i [])) := by rw [← hAe]; exact hA
  rw [hAe] at ca
  have hB := h.bsh hi
  obtain ⟨y0, hy0⟩ : ∃ y0, s.L.getD i [] = y0 := ⟨_, rfl⟩
  have HL : Hid (y0.length = 256) := by rw [← hy0]; exact (h.okL.get hi).1
  have HY0 : Hid (s.L.getD i [] = y0) := hy0
  rw [hy0] at HA
  obtain ⟨n, hn⟩ : ∃ n, s.L.length = n := ⟨_, rfl⟩
  have hin : (i : Int) < (n : Int) := by omega
  have hni : ¬ (i : Int) ≥ (n : Int) := by omega
  have hi0 : ¬ (i : Int) < 0 := by omega
  have hi0' : (0 : Int) ≤ (i : Int) := by omega
  have HLT : Hid (lb < w.heap.size) := h.rlt _ h.rl
  have HX : Hid (RfAt R w r s lb cp A B x W) := h
  have HI : Hid (i < s.L.length) := hi
  rw [hn] at c0
  clear h hA hAe hn hy0
  rcases hB with ⟨hb, hV⟩ | ⟨g, cap, hb, hc1, hc2, hwl, hwc⟩
  · rw [hb] at cb
    have HH : Hid (s.has i = y0) := by show _ = _; unfold DS.has; rw [hV]; exact HY0.out
    clear hb hV
    have B1 : Hid (Below w.heap.size w (w.alloc (.cells #[.slice (some ⟨ag, 0, none⟩) 256 acap, .slice none 0 0] 80))) := (Below.refl _ _).alloc (Nat.le_refl _) _
    have A1 : Hid (Owns .u8 5 (w.alloc (.cells #[.slice (some ⟨ag, 0, none⟩) 256 acap, .slice none 0 0] 80)) (.slice (some ⟨ag, 0, none⟩) 256 acap) y0) := HA.out.below B1.out
    go_enter Try.func52, Try.ntmps52
    go_wp2_with (at_builtin; refine wpList_many (w.alloc (.cells #[.slice (some ⟨ag, 0, none⟩) 256 acap, .slice none 0 0] 80)) rfl (.tmp 41) (.tmp 42) 25 rfl 5 .u8 1 elem8 (.slice none 0 0) [] rfl (owns_nil _ _ _) _ y0 rfl A1.out.rd (by rw [HL.out]; decide) (by rw [HL.out]; decide) ?_)
    intro v2 w2 ho2 hg2
    have O2 : Hid (Owns .u8 5 w2 v2 y0) := ho2
    have G2 : Hid (Below (w.alloc (.cells #[.slice (some ⟨ag, 0, none⟩) 256 acap, .slice none 0 0] 80)).heap.size (w.alloc (.cells #[.slice (some ⟨ag, 0, none⟩) 256 acap, .slice none 0 0] 80)) w2 ∧ ∀ k, v2.ownBlock = some k → (w.alloc (.cells #[.slice (some ⟨ag, 0, none⟩) 256 acap, .slice none 0 0] 80)).heap.size ≤ k) := hg2.below
    clear ho2 hg2
    go_wp2_with fail
    go_ret2
    refine ⟨v2, rfl, ?_, B1.out.trans (G2.out.1.mono B1.out.size), fun k hk => Nat.le_trans B1.out.size (G2.out.2 k hk)⟩
    rw [HH.out]
    exact O2.out
  · rw [hb] at cb
    by_cases hV : s.V i = []
    · have HH : Hid (s.has i = y0) := by show _ = _; unfold DS.has; rw [hV]; exact HY0.out
      rw [hV] at cb
      simp only [List.length_nil] at cb
      clear hb hV hwc hwl hc1 hc2
      have B1 : Hid (Below w.heap.size w (w.alloc (.cells #[.slice (some ⟨ag, 0, none⟩) 256 acap, .slice (some ⟨g, 0, none⟩) 0 cap] 80))) := (Below.refl _ _).alloc (Nat.le_refl _) _
      have A1 : Hid (Owns .u8 5 (w.alloc (.cells #[.slice (some ⟨ag, 0, none⟩) 256 acap, .slice (some ⟨g, 0, none⟩) 0 cap] 80)) (.slice (some ⟨ag, 0, none⟩) 256 acap) y0) := HA.out.below B1.out
      go_enter Try.func52, Try.ntmps52
      go_wp2_with (at_builtin; refine wpList_many (w.alloc (.cells #[.slice (some ⟨ag, 0, none⟩) 256 acap, .slice (some ⟨g, 0, none⟩) 0 cap] 80)) rfl (.tmp 41) (.tmp 42) 25 rfl 5 .u8 1 elem8 (.slice none 0 0) [] rfl (owns_nil _ _ _) _ y0 rfl A1.out.rd (by rw [HL.out]; decide) (by rw [HL.out]; decide) ?_)
      intro v2 w2 ho2 hg2
      have O2 : Hid (Owns .u8 5 w2 v2 y0) := ho2
      have G2 : Hid (Below (w.alloc (.cells #[.slice (some ⟨ag, 0, none⟩) 256 acap, .slice (some ⟨g, 0, none⟩) 0 cap] 80)).heap.size (w.alloc (.cells #[.slice (some ⟨ag, 0, none⟩) 256 acap, .slice (some ⟨g, 0, none⟩) 0 cap] 80)) w2 ∧ ∀ k, v2.ownBlock = some k → (w.alloc (.cells #[.slice (some ⟨ag, 0, none⟩) 256 acap, .slice (some ⟨g, 0, none⟩) 0 cap] 80)).heap.size ≤ k) := hg2.below
      clear ho2 hg2
      go_wp2_with fail
      go_ret2
      refine ⟨v2, rfl, ?_, B1.out.trans (G2.out.1.mono B1.out.size), fun k hk => Nat.le_trans B1.out.size (G2.out.2 k hk)⟩
      rw [HH.out]
      exact O2.out
    · have h0 : (s.V i).length ≠ 0 := fun e => hV (List.eq_nil_of_length_eq_zero e)
      have HH : Hid (s.has i = (s.V i).getD ((s.V i).length - 1) []) := has_last hV
      obtain ⟨u, hu⟩ : ∃ u, (W i)[(s.V i).length - 1]? = some u := ⟨_, List.getElem?_eq_getElem (by omega)⟩
      have HU := HX.out.lw i _ u HI.out hu
      have cu := hwc _ _ hu
      have hY := (HX.out.okV i).get (i := (s.V i).length - 1) (by omega)
      obtain ⟨y, hy⟩ : ∃ y, (s.V i).getD ((s.V i).length - 1) [] = y := ⟨_, rfl⟩
      rw [hy] at HU HH hY
      obtain ⟨ug, ucap, rfl⟩ := HU.sh hY.1
      have HYL : Hid (y.length = 256) := hY.1
      obtain ⟨k, hk⟩ : ∃ k, (s.V i).length = k + 1 := ⟨(s.V i).length - 1, by omega⟩
      rw [hk] at cb hc1 cu
      rw [Nat.add_sub_cancel] at cu
      have hk63 : (k : Int) + 1 ≤ 9223372036854775807 := by unfold maxLen at hc2; omega
      have hkk : ((k + 1 : Nat) : Int) = (k : Int) + 1 := by omega
      have hgl := World.block_lt_of_cell? w ⟨g, k, none⟩ cu
      clear hb hV hwc hwl hc1 hc2 h0 hu hy hY hk
      have B1 : Hid (Below w.heap.size w (w.alloc (.cells #[.slice (some ⟨ag, 0, none⟩) 256 acap, .slice (some ⟨g, 0, none⟩) (k + 1) cap] 80))) := (Below.refl _ _).alloc (Nat.le_refl _) _
      have cu1 : (w.alloc (.cells #[.slice (some ⟨ag, 0, none⟩) 256 acap, .slice (some ⟨g, 0, none⟩) (k + 1) cap] 80)).cell? ⟨g, k, none⟩ = some (.slice (some ⟨ug, 0, none⟩) 256 ucap) := by rw [B1.out.cell (p := ⟨g, k, none⟩) hgl]; exact cu
      have A1 : Hid (Owns .u8 5 (w.alloc (.cells #[.slice (some ⟨ag, 0, none⟩) 256 acap, .slice (some ⟨g, 0, none⟩) (k + 1) cap] 80)) (.slice (some ⟨ug, 0, none⟩) 256 ucap) y) := HU.below B1.out
      clear hgl HU
      go_enter Try.func52, Try.ntmps52
      go_wp2_with (at_builtin; refine wpList_many (w.alloc (.cells #[.slice (some ⟨ag, 0, none⟩) 256 acap, .slice (some ⟨g, 0, none⟩) (k + 1) cap] 80)) rfl (.tmp 41) (.tmp 42) 25 rfl 5 .u8 1 elem8 (.slice none 0 0) [] rfl (owns_nil _ _ _) _ y rfl A1.out.rd (by rw [HYL.out]; decide) (by rw [HYL.out]; decide) ?_)
      intro v2 w2 ho2 hg2
      have O2 : Hid (Owns .u8 5 w2 v2 y) := ho2
      have G2 : Hid (Below (w.alloc (.cells #[.slice (some ⟨ag, 0, none⟩) 256 acap, .slice (some ⟨g, 0, none⟩) (k + 1) cap] 80)).heap.size (w.alloc (.cells #[.slice (some ⟨ag, 0, none⟩) 256 acap, .slice (some ⟨g, 0, none⟩) (k + 1) cap] 80)) w2 ∧ ∀ kk, v2.ownBlock = some kk → (w.alloc (.cells #[.slice (some ⟨ag, 0, none⟩) 256 acap, .slice (some ⟨g, 0, none⟩) (k + 1) cap] 80)).heap.size ≤ kk) := hg2.below
      clear ho2 hg2
      go_wp2_with fail
      go_ret2
      refine ⟨v2, rfl, ?_, B1.out.trans (G2.out.1.mono B1.out.size), fun k hk => Nat.le_trans B1.out.size (G2.out.2 k hk)⟩
      rw [HH.out]
      exact O2.out

theorem RfAt.set12 {R : Nat → Prop} {w : World} {r : Nat} {s : DS} {lb cp : Nat} {A B : Nat → Value} {x : Int} {W : Nat → List Value} (h : RfAt R w r s lb cp A B x W) (c : Bool) (l : Nat) (hl : l ≤ 1073741824) :
    RfTo R w ((w.setCell ⟨r, 1, none⟩ (.bool c)).setCell ⟨r, 2, none⟩ (.int .i64 (l : Int))) r { s with c := c, l := l } := by
  have t1 := tch_set w r 1 (.bool c)
  have t2 := tch_set (w.setCell ⟨r, 1, none⟩ (.bool c)) r 2 (.int .i64 (l : Int))
  have t : Tch (fun k => k = r) w ((w.setCell ⟨r, 1, none⟩ (.bool c)).setCell ⟨r, 2, none⟩ (.int .i64 (l : Int))) := t1.trans t2 (fun _ _ e => e)
  refine ⟨R, ⟨lb, cp, A, B, (l : Int), W, h.cut c l (l : Int) hl (fun _ => rfl) (by omega) (by omega) t ?_⟩, t.mono (fun k _ e => by rw [e]; exact h.rr), fun k hk => .inl hk⟩
  have h1 := heap_setCell_same w r 1 _ _ (.bool c) h.box
  rw [heap_setCell_same _ r 2 _ _ _ h1]
  rfl

theorem elem64 : Elem Try.prog 43 3 .i64 8 := ⟨Try.underlying43, info_parts (z := .int .i64 0) (size := 1) (bytes := 8) (by kernel_rfl)⟩

/-- The dirty ones below k. -/
def dtk (s : DS) (k : Nat) : List Int := ((List.range k).filter fun i => decide (s.V i ≠ [])).map Int.ofNat
theorem dtk_succ (s : DS) (k : Nat) : dtk s (k + 1) = if s.V k = [] then dtk s k else dtk s k ++ [(k : Int)] := by
  unfold dtk
  rw [List.range_succ, List.filter_append, List.map_append]
  by_cases h : s.V k = []
  · rw [if_pos h]; simp [h]
  · rw [if_neg h]; simp [h]
theorem dtk_len (s : DS) (k : Nat) : (dtk s k).length ≤ k := by
  unfold dtk
  rw [List.length_map]
  have := List.length_filter_le (fun i => decide (s.V i ≠ [])) (List.range k)
  simpa using this

set_option maxHeartbeats 1000000 in
theorem refDirty_any {R : Nat → Prop} {r : Nat} {s : DS} (w : World) (h : Rf R w r s) (hV : ∀ i, (s.V i).length < 274877906944) :
    Calls Try.prog 48 #[dp r] w fun e w' => ∃ v, e = .returned v ∧ Owns .i64 3 w' v (s.dirty.map Int.ofNat) ∧ Below w.heap.size w w' ∧ ∀ k, v.ownBlock = some k → w.heap.size ≤ k := by
  obtain ⟨lb, cp, A, B, x, W, h⟩ := h
  have HX : Hid (RfAt R w r s lb cp A B x W) := h
  have HFIN : Hid (dtk s s.L.length = s.dirty.map Int.ofNat) := rfl
  have n2 := h.n2
  have HV : Hid (∀ i, (s.V i).length < 274877906944) := hV
  obtain ⟨n, hn⟩ : ∃ n, s.L.length = n := ⟨_, rfl⟩
  have HN : Hid (s.L.length = n) := hn
  rw [hn] at n2 HFIN
  clear h hn hV
  go_enter Try.func48, Try.ntmps48
  go_wp2_with fail
  go_loopw [3, 4] (fun ov iv wr => ∃ k : Nat, k ≤ n ∧ iv = .int .i64 k ∧ Hid (Owns .i64 3 wr ov (dtk s k)) ∧ Hid (Below w.heap.size w wr) ∧ Hid (∀ k, ov.ownBlock = some k → w.heap.size ≤ k)) (fun _ iv _ => n - (intOf iv).toNat)
  case atStart => exact ⟨0, Nat.zero_le _, rfl, owns_nil _ _ _, Below.refl _ _, fun k e => by cases e⟩
  case round =>
    obtain ⟨k, hk, rfl, O1, B1, F1⟩ := hrel
    have HXR : Hid (RfAt R wr r s lb cp A B x W) := HX.out.tch (S := fun j => w.heap.size ≤ j) ⟨B1.out.os, B1.out.tape, B1.out.output, B1.out.size, fun j hj _ => B1.out.block j hj⟩ (fun j hj e => by have := HX.out.rlt j hj; omega)
    have c0 := HXR.out.c0
    rw [HN.out] at c0
    by_cases hkn : k < n
    · have hki : (k : Int) < (n : Int) := by omega
      have hk0 : (0 : Int) ≤ (k : Int) := by omega
      have cb := HXR.out.cb (i := k) (by rw [HN.out]; exact hkn)
      have hB := HXR.out.bsh (i := k) (by rw [HN.out]; exact hkn)
      have hstep := dtk_succ s k
      rcases hB with ⟨hb, hV⟩ | ⟨g, cap, hb, hc1, hc2, _, _⟩
      · rw [hb] at cb
        rw [if_pos hV] at hstep
        have O2 : Hid (Owns .i64 3 wr u3 (dtk s (k + 1))) := by rw [hstep]; exact O1
        clear hb hV hstep
        go_wp2_with fail
        go_roundw
        case rel => exact ⟨k + 1, by omega, by go_num, O2, B1, F1⟩
        case measure => simp [intOf]; omega
      · rw [hb] at cb
        obtain ⟨t, ht⟩ : ∃ t, (s.V k).length = t := ⟨_, rfl⟩
        rw [ht] at cb hc1
        have ht63 : (t : Int) ≤ 9223372036854775807 := by unfold maxLen at hc2; omega
        by_cases hV : s.V k = []
        · have ht0 : t = 0 := by rw [← ht, hV]; rfl
          rw [ht0] at cb
          rw [if_pos hV] at hstep
          have O2 : Hid (Owns .i64 3 wr u3 (dtk s (k + 1))) := by rw [hstep]; exact O1
          clear hb hV hstep ht ht0 hc1 hc2 ht63
          go_wp2_with fail
          go_roundw
          case rel => exact ⟨k + 1, by omega, by go_num, O2, B1, F1⟩
          case measure => simp [intOf]; omega
        · have ht0 : (t : Int) > 0 := by
            have : t ≠ 0 := fun e => hV (List.eq_nil_of_length_eq_zero (ht.trans e))
            omega
          rw [if_neg hV] at hstep
          have HST : Hid (dtk s (k + 1) = dtk s k ++ [(k : Int)]) := hstep
          have HLE : Hid ((dtk s k).length ≤ 4096) := by have := dtk_len s k; show _ ≤ _; omega
          clear hb hV hstep ht hc1 hc2
          go_wp2_with (at_builtin; refine Hid.out ?_)
          refine hideP ?_
          refine (wpList_push wr rfl (.tmp 24) (.tmp 26) 43 rfl 3 .i64 8 elem64 u3 (dtk s k) rfl O1.out (k : Int) rfl (by have := HLE.out; omega) (by have := HLE.out; omega) ?_)
          intro v2 w2 ho2 hg2
          rw [← HST.out] at ho2
          have O2 : Hid (Owns .i64 3 w2 v2 (dtk s (k + 1))) := ho2
          have G2 := hg2.onto B1.out F1.out
          have B2 : Hid (Below w.heap.size w w2) := G2.1
          have F2 : Hid (∀ k, v2.ownBlock = some k → w.heap.size ≤ k) := G2.2
          clear ho2 hg2 G2
          go_wp2_with fail
          go_roundw
          case rel => exact ⟨k + 1, by omega, by go_num, O2, B2, F2⟩
          case measure => simp [intOf]; omega
    · have hki : ¬ (k : Int) < (n : Int) := by omega
      have HK : Hid (k = n) := by show _ = _; omega
      clear hkn
      go_wp2_with fail
      go_ret
      refine ⟨_, rfl, ?_, B1.out, F1.out⟩
      have := O1.out
      rw [HK.out, HFIN.out] at this
      exact this
end Go.Proofs.Ytdicgaepggffbaa
/-
  A copy.
-/
namespace Go.Proofs.Ytdicgaepggffbaa
open Go.RowKit Go.Maps
set_option linter.unusedVariables false
set_option linter.unusedSimpArgs false
set_option maxRecDepth 100000

/-- 'append(v, u...)' of sectors. -/
theorem wpList_appS (w : World) {ops : Array Oper} {rest : List Oper} {o : Oper} {a : Act} {Q : Exit → Act → World → Prop} (hgd : o.guard = none) (s x : Operand)
    (ho : o.op = .call { callee := .builtin .append, args := #[s, x], argTypes := #[71, 71] })
    (v : Value) (rows : List (List Int)) (hs : a.eval s = v) (hR : SecR w v rows) (g0 m c : Nat) (hx : a.eval x = .slice (some ⟨g0, 0, none⟩) m c) (news : List (List Int)) (hl : m = news.length) (hok : SOk news) (hn : w.rangeAt g0 0 (bcs news.flatten)) (hb : rows.length + news.length ≤ 274877906944)
    (h : ∀ v' w', SecR w' v' (rows ++ news) → w.grownBy w' v.ownBlock → (∀ k, v'.ownBlock = some k → v.ownBlock = some k ∨ w.heap.size ≤ k) → wpList Try.prog ops Q rest (a.put o.dst v') w') : wpList Try.prog ops Q (o :: rest) a w := by
  obtain ⟨v', w', hr, h2, h3, h4⟩ := run_appS w o.type v rows hR g0 m c news hl hok hn hb
  refine wpList_plain hgd fun K hK => ?_
  unfold Oper.wp
  simp [execOp, ho, resolve, invoke, builtin, hs, hx, hr, Result.andThen]
  exact hK _ _ (h v' w' h2 h3 h4)

/-- slices.Clone of sectors. -/
theorem clone_sec (b n cap : Nat) (rows : List (List Int)) (w : World) (h : SecR w (.slice (some ⟨b, 0, none⟩) n cap) rows) (hb : rows.length ≤ 274877906944) :
    Calls Try.prog 53 #[.slice (some ⟨b, 0, none⟩) n cap] w fun e w' => ∃ v, e = .returned v ∧ SecR w' v rows ∧ Below w.heap.size w w' ∧ ∀ k, v.ownBlock = some k → w.heap.size ≤ k := by
  have q22 : ∀ (w : World) (a : Option Addr) (n c n' c' : Nat), (binOp .eql 71 (.slice a n c) (.slice none n' c')).run Try.prog w = .ok (.bool a.isNone) w := fun w a n c n' c' => Lib.run_eql_slice_nil w _ _ a n c n' c' Try.underlying71
  obtain ⟨cur, hn, _⟩ := h.blk
  have HN : Hid (n = rows.length) := hn
  have HE : Hid (SecR (w.alloc (.cells #[] 83)) (.slice (some ⟨w.heap.size, 0, none⟩) 0 0) []) := ⟨SOk.nil, rfl, .inr ⟨w.heap.size, 0, #[], rfl, Nat.zero_le _, heap_alloc_new w _, Nat.le_refl _, by unfold maxLen; omega, rfl, rfl⟩⟩
  have HS : Hid (SecR (w.alloc (.cells #[] 83)) (.slice (some ⟨b, 0, none⟩) n cap) rows) := h.below ((Below.refl _ _).alloc (Nat.le_refl _) _)
  have HB : Hid (rows.length ≤ 274877906944) := hb
  have HRA : Hid ((w.alloc (.cells #[] 83)).rangeAt b 0 (bcs rows.flatten)) := fun j u hu => by
    have := HS.out.2.cells (g := b) rfl j u hu
    rw [Addr.add_lit] at this
    exact this
  clear h hn hb
  go_enter Try.func53, Try.ntmps53
  go_wp2_with (at_builtin; refine Hid.out ?_)
  refine hideP ?_
  refine wpList_appS _ rfl (.tmp 5) (.tmp 6) rfl _ [] rfl HE.out b n cap rfl rows HN.out HS.out.1 HRA.out (by have := HB.out; simp; omega) ?_
  intro v1 w1 ho hg hf
  have O1 : Hid (SecR w1 v1 rows) := ho
  have B1 : Hid (Below w.heap.size w w1) := ((Below.refl _ _).alloc (Nat.le_refl _) _).trans ((Tch.of_grown hg).below (by simp) (fun k e => by cases e; exact Nat.le_refl _))
  have F1 : Hid (∀ k, v1.ownBlock = some k → w.heap.size ≤ k) := fun k hk => by
    rcases hf k hk with e | e
    · cases e; exact Nat.le_refl _
    · simp at e; omega
  clear ho hg hf
  go_wp2_with fail
  go_ret
  exact ⟨v1, rfl, O1.out, B1.out, F1.out⟩

/-- Versions are given to a sector. -/
theorem DkAt.give {S : Nat → Prop} {w w' : World} {d : Nat} {s : DS} {lb vb lc : Nat} {g : Nat → Option Value} (h : DkAt S w d s lb vb lc g) {i : Nat} (hi : i < s.L.length) {v : Value} {Y : List (List Int)} (hY : Y ≠ [])
    {wa : World} (ta : Tch (fun k => (gv g i).ownBlock = some k) w wa) (hv : SecR wa v Y) (hf : ∀ k, v.ownBlock = some k → (gv g i).ownBlock = some k ∨ w.heap.size ≤ k)
    (hm : Mp w' vb s.L.length (gput g i (some v))) (tb : Tch (fun k => k = vb) wa w') :
    ∃ S', DkAt S' w' d { s with V := vput s.V i Y } lb vb lc (gput g i (some v)) ∧ Tch S w w' ∧ ∀ k, S' k → S k ∨ w.heap.size ≤ k := by
  have hgs : ∀ k, (gv g i).ownBlock = some k → S k ∧ k ≠ d ∧ k ≠ lb ∧ k ≠ vb := fun k hk => by
    unfold gv at hk
    cases e : g i with
    | none => rw [e] at hk; cases hk
    | some u =>
      rw [e] at hk
      obtain ⟨b, cap, rfl, h1, h2, h3, h4, _⟩ := h.own e
      cases hk
      exact ⟨h4, h1, h3, h2⟩
  have hgj : ∀ j u k, g j = some u → j ≠ i → u.ownBlock = some k → (gv g i).ownBlock ≠ some k := fun j u k hj hne hk e => by
    unfold gv at e
    cases e2 : g i with
    | none => rw [e2] at e; cases e
    | some u2 =>
      rw [e2] at e
      exact h.apart j i u u2 hj e2 hne (hk.trans e.symm)
  have hsz := ta.size
  have hvlt := hv.lt
  have hob : ∃ b, v.ownBlock = some b := by
    obtain ⟨b, cap, cur, rfl, _⟩ := hv.shape hY
    exact ⟨b, rfl⟩
  obtain ⟨vbk, hvbk⟩ := hob
  have hcur : ∀ k, v.ownBlock = some k → k ≠ vb ∧ k ≠ d ∧ k ≠ lb := fun k hk => by
    rcases hf k hk with e | e
    · have := hgs k e; exact ⟨this.2.2.2, this.2.1, this.2.2.1⟩
    · have h1 := h.map.lt; have h2 := h.lt; have h3 := h.slt _ h.sl; omega
  refine ⟨fun k => S k ∨ v.ownBlock = some k, ?_, ?_, ?_⟩
  · have hd1 : wa.heap[d]? = w.heap[d]? := ta.block d h.lt (fun e => (hgs d e).2.1 rfl)
    have hd2 : w'.heap[d]? = wa.heap[d]? := tb.block d (Nat.lt_of_lt_of_le h.lt hsz) (fun e => h.ne_vb e)
    exact {
      n1 := h.n1
      n2 := h.n2
      l30 := h.l30
      box := by rw [hd2, hd1]; exact h.box
      lies := (h.lies.tch ta (fun j e => by cases e; exact fun e => (hgs _ e).2.2.1 rfl)).tch tb (fun j e => by cases e; exact fun e => h.lb_vb e)
      map := hm
      no := fun j hj => by
        by_cases e : j = i
        · subst e; simp [gput] at hj
        · simp only [gput, if_neg e] at hj
          simp only [vput, if_neg e]
          exact h.no j hj
      yes := fun j u hj => by
        by_cases e : j = i
        · subst e
          simp only [gput, if_pos] at hj
          cases hj
          simp only [vput, if_pos]
          exact ⟨hi, hY, hv.tch tb (fun k hk => (hcur k hk).1), fun e => (hcur lb e).2.2 rfl⟩
        · simp only [gput, if_neg e] at hj
          simp only [vput, if_neg e]
          obtain ⟨h1, h2, h3, h4⟩ := h.yes j u hj
          refine ⟨h1, h2, (h3.tch ta (fun k hk => hgj j u k hj e hk)).tch tb (fun k hk e2 => ?_), h4⟩
          obtain ⟨b, cap, rfl, _, h5, _⟩ := h.own hj
          cases hk
          exact h5 e2
      apart := fun j k u u2 hj hk hne => by
        have key : ∀ j u, g j = some u → j ≠ i → u.ownBlock ≠ v.ownBlock := fun j u hj hne e => by
          obtain ⟨b, cap, rfl, _, _, _, h4, _⟩ := h.own hj
          have hb : v.ownBlock = some b := e.symm
          rcases hf b hb with e2 | e2
          · exact hgj j _ b hj hne rfl e2
          · have := h.slt b h4; omega
        by_cases e : j = i
        · subst e
          simp only [gput, if_pos] at hj
          cases hj
          simp only [gput, if_neg (Ne.symm hne)] at hk
          exact fun e => key k u2 hk (Ne.symm hne) e.symm
        · simp only [gput, if_neg e] at hj
          by_cases e2 : k = i
          · subst e2
            simp only [gput, if_pos] at hk
            cases hk
            exact key j u hj e
          · simp only [gput, if_neg e2] at hk
            exact h.apart j k u u2 hj hk hne
      sd := .inl h.sd
      sl := .inl h.sl
      sv := .inl h.sv
      sg := fun j u k hj hk => by
        by_cases e : j = i
        · subst e
          simp only [gput, if_pos] at hj
          cases hj
          exact .inr hk
        · simp only [gput, if_neg e] at hj
          exact .inl (h.sg j u k hj hk)
      slt := fun k hk => by
        have := tb.size
        rcases hk with hk | hk
        · have := h.slt k hk; omega
        · have := hvlt k hk; omega }
  · exact (ta.mono (S' := S) (fun k _ e => (hgs k e).1)).trans tb (fun k _ e => by rw [e]; exact h.sv)
  · rintro k (hk | hk)
    · exact .inl hk
    · rcases hf k hk with e | e
      · exact .inl (hgs k e).1
      · exact .inr e


/-- How far a copy is. -/
def CpM (s : DS) (g : Nat → Option Value) (left : Lit → Bool) (V : Nat → List (List Int)) : Prop :=
  ∀ i, V i = if (g i).isSome && !left (Lit.int .i64 (i : Int)) then s.V i else []
theorem CpM.step {s : DS} {g : Nat → Option Value} {left : Lit → Bool} {V : Nat → List (List Int)} (h : CpM s g left V) {i : Nat} (hg : (g i).isSome) :
    CpM s g (fun z => left z && !z.sameKey (Lit.int .i64 (i : Int))) (vput V i (s.V i)) := fun j => by
  unfold vput
  by_cases e : j = i
  · subst e
    rw [if_pos rfl, hg]
    simp [Lit.sameKey]
  · rw [if_neg e, h j]
    have : (Lit.int IntKind.i64 (j : Int)).sameKey (Lit.int .i64 (i : Int)) = false := by simp [Lit.sameKey]; omega
    simp [this]
theorem CpM.fin {s : DS} {g : Nat → Option Value} {left : Lit → Bool} {V : Nat → List (List Int)} (h : CpM s g left V) (hl : ∀ k, left k = false) (hn : ∀ i, g i = none → s.V i = []) : V = s.V := by
  funext i
  rw [h i, hl]
  cases e : g i with
  | none => simp [hn i e]
  | some v => simp
theorem CpM.start (s : DS) (g : Nat → Option Value) (n : Nat) (hg : ∀ i v, g i = some v → i < n) : CpM s g (Maps.has (Dm n g)) (fun _ => []) := fun i => by
  cases e : g i with
  | none => simp
  | some v =>
    have : Maps.has (Dm n g) (Lit.int .i64 (i : Int)) = true := dm_has.2 ⟨i, v, hg i v e, e, rfl⟩
    simp [this]

/-- What a copy is. -/
def DS.cpy (s : DS) : DS := { L := s.L, V := s.V, c := false, l := 0 }

set_option maxHeartbeats 4000000 in
theorem copy_any {S : Nat → Prop} {d : Nat} {s : DS} (w : World) (h : Dk S w d s) (hV : ∀ i, (s.V i).length ≤ 274877906944) :
    Calls Try.prog 34 #[dp d] w fun e w' => ∃ o So, e = .returned (dp o) ∧ Dk So w' o s.cpy ∧ Below w.heap.size w w' ∧ ∀ k, So k → w.heap.size ≤ k := by
  obtain ⟨lb, vb, lc, g, h⟩ := h
  have c0 := h.c0
  have HV : Hid (∀ i, (s.V i).length ≤ 274877906944) := hV
  have D0 : Hid (DkAt S w d s lb vb lc g) := h
  have n2 := h.n2
  have n1 := h.n1
  have HCL := hideP (clone_sec lb s.L.length lc s.L w h.lies (by omega))
  obtain ⟨n, hn⟩ : ∃ n, s.L.length = n := ⟨_, rfl⟩
  have HN : Hid (s.L.length = n) := hn
  rw [hn] at c0 HCL n1 n2
  have hmm := @run_makeMap Try.prog
  clear h hn hV
  go_enter Try.func34, Try.ntmps34
  go_wp2_with fail
  refine HCL.out.mono ?_
  clear HCL
  rintro e w1 ⟨v1, rfl, ho1, hb1, hf1⟩
  obtain ⟨lb1, lc1, cur1, hv1, _⟩ := ho1.shape (fun e => by rw [e] at HN; have := HN.out; simp at this; omega)
  rw [HN.out] at hv1
  subst hv1
  have hlb1 : lb1 < w1.heap.size := ho1.lt lb1 rfl
  have hlb0 : w.heap.size ≤ lb1 := hf1 lb1 rfl
  obtain ⟨W2, hW2⟩ : ∃ W2, (w1.alloc (.map #[] 0)).alloc (.cells #[.slice (some ⟨lb1, 0, none⟩) n lc1, .map (some w1.heap.size), .bool false, .int .i64 0] 74) = W2 := ⟨_, rfl⟩
  obtain ⟨vb1, hvb1⟩ : ∃ vb1, w1.heap.size = vb1 := ⟨_, rfl⟩
  have hsz : W2.heap.size = vb1 + 2 := by rw [← hW2, ← hvb1]; simp
  have hb2 : Below w1.heap.size w1 W2 := by
    rw [← hW2]
    exact ((Below.refl _ _).alloc (Nat.le_refl _) _).alloc (by simp) _
  have DO : Hid (DkAt (fun k => w.heap.size ≤ k ∧ k < vb1 + 2) W2 (vb1 + 1) { s.cpy with V := fun _ => [] } lb1 vb1 lc1 (fun _ => none)) := by
    have M1 : Mp (w1.alloc (.map #[] 0)) w1.heap.size n (fun _ => none) := mp_of (World.ownsMap_made w1 _ _ _) (by rw [dm_empty (fun _ _ => rfl)])
    have hbs := hb1.size
    exact {
      n1 := by show 1 ≤ s.L.length; rw [HN.out]; exact n1
      n2 := by show s.L.length ≤ 4096; rw [HN.out]; exact n2
      l30 := Nat.zero_le _
      box := by
        show W2.heap[vb1 + 1]? = some (.cells #[.slice (some ⟨lb1, 0, none⟩) s.L.length lc1, .map (some vb1), .bool false, .int .i64 0] _ _)
        rw [HN.out, ← hW2, ← hvb1]
        have hs : (w1.alloc (.map #[] 0)).heap.size = w1.heap.size + 1 := by simp
        rw [← hs]
        exact heap_alloc_new _ _
      lies := by
        show SecR W2 (.slice (some ⟨lb1, 0, none⟩) s.L.length lc1) s.L
        rw [HN.out]
        exact ho1.below hb2
      map := by
        show Mp W2 vb1 s.L.length _
        rw [HN.out, ← hW2, ← hvb1]
        exact M1.tch (S := fun _ => False) (Tch.of_below ((Below.refl _ _).alloc (Nat.le_refl _) _)) (fun e => e)
      no := fun _ _ => rfl
      yes := fun _ _ e => by cases e
      apart := fun _ _ _ _ e => by cases e
      sd := ⟨by omega, by omega⟩
      sl := ⟨hlb0, by omega⟩
      sv := ⟨by omega, by omega⟩
      sg := fun _ _ _ e => by cases e
      slt := fun k hk => by rw [hsz]; exact hk.2 }
  have B2 : Hid (Below w.heap.size w W2) := hb1.trans (hb2.mono hb1.size)
  have HVB : Hid (w.heap.size ≤ vb1) := by rw [← hvb1]; exact hb1.size
  have D2 : Hid (DkAt S W2 d s lb vb lc g) := D0.out.tch (R := fun _ => False) (Tch.of_below B2.out) (fun _ _ e => e)
  have c12 := D2.out.c1
  have HM : Hid (Mp W2 vb n g) := by have := D2.out.map; rw [HN.out] at this; exact this
  have HVV : Hid (w1.heap.size = vb1) := hvb1
  clear ho1 hb1 hf1 hb2 hvb1 hlb1 hlb0 hsz
  go_wp2_with (at_range; refine wpList_range_own _ rfl (.tmp 17) 72 rfl 3 71 keyed3 Try.underlying72 Rv vb n (Dm n g) rfl HM.out ?_; intro w0 hrg0 hg0 hs0)
  go_frame
  obtain ⟨r, hr⟩ : ∃ r, W2.heap.size = r := ⟨_, rfl⟩
  have HRE : Hid (W2.heap.size = r) := hr
  rw [hr] at hrg0 ⊢
  rw [HVV.out]
  have T0 : Hid (Tch (fun _ => False) W2 w0) := (Tch.of_grown hg0).mono (fun k _ e => by cases e)
  have RG0 : Hid (w0.ranges Try.prog 3 Rv vb r n (Dm n g) (Maps.has (Dm n g)) (Maps.size (Dm n g))) := hrg0
  have HLG : Hid (∀ i v, g i = some v → i < n) := fun i v e => by have := (D0.out.yes i v e).1; rw [HN.out] at this; exact this
  have DO0 : Hid (DkAt (fun k => w.heap.size ≤ k ∧ k < vb1 + 2) w0 (vb1 + 1) { s.cpy with V := fun _ => [] } lb1 vb1 lc1 (fun _ => none)) := DO.out.tch T0.out (fun _ _ e => e)
  have HR0 : Hid (vb1 + 2 ≤ r ∧ w.heap.size ≤ r) := by
    have h1 := DO.out.slt (vb1 + 1) ⟨by have := HVB.out; omega, by omega⟩
    have h2 := HVB.out
    have h3 := HRE.out
    exact ⟨by omega, by omega⟩
  have BW0 : Hid (Below w.heap.size w w0) := B2.out.trans (T0.out.below B2.out.size (fun _ e => e.elim))
  clear hr hrg0 hg0 hs0 hW2 DO T0 c12 HM
  go_loopw [] (fun wr => ∃ left cnt V So g', Hid (wr.ranges Try.prog 3 Rv vb r n (Dm n g) left cnt) ∧ Hid (CpM s g left V) ∧ Hid (DkAt So wr (vb1 + 1) { s.cpy with V := V } lb1 vb1 lc1 g') ∧ Hid (Below w.heap.size w wr) ∧ Hid (∀ k, So k → w.heap.size ≤ k ∧ k ≠ r)) (fun wr => wr.rangeLeft vb r)
  case atStart => exact ⟨_, _, _, _, _, RG0, CpM.start s g n HLG.out, DO0, BW0, fun k hk => ⟨hk.1, by have := HR0.out.1; have := hk.2; omega⟩⟩
  case round =>
    obtain ⟨left, cnt, V, So, g', RG, CM, DK, BW, FS⟩ := hrel
    clear RG0 DO0 BW0
    go_wp2_with (at_next; refine wpList_next_ranges _ rfl (.tmp 18) rfl 3 keyed3 Rv (Value.int .i64) (fun v : Value => v) (fun key kl hk => by obtain ⟨x, hx, _⟩ := Maps.keyOf_int_inv Try.underlying3 hk; exact ⟨x, hx⟩) (fun v y _ => ⟨v, rfl⟩) vb r n _ _ _ rfl RG.out ?_ ?_)
    · intro _ hl0
      have HF : Hid (V = s.V) := CM.out.fin hl0 D0.out.no
      clear hl0
      go_wp2_with fail
      go_ret
      refine ⟨vb1 + 1, So, rfl, ?_, BW.out, fun k hk => (FS.out k hk).1⟩
      have h := DK.out
      rw [HF.out] at h
      exact ⟨_, _, _, _, h⟩
    · intro x c kl yd yp w2 cnt2 hkey hlk hv hat hrg2 hlt hg2 hs2 hen
      obtain ⟨x', ex, rfl, _⟩ := Maps.keyOf_int_inv Try.underlying3 hkey
      cases ex
      have hyd : yd = .held c := by simp only [Rv, Option.some.injEq, Prod.mk.injEq] at hv; exact hv.1.symm
      obtain ⟨i, v, hi, hgi, ei⟩ := dm_has.1 (has_true_of_atKey (y := yd) hat)
      simp only [Lit.int.injEq, true_and] at ei
      subst ei
      have hcv : v = c := by
        have h1 := hat (.held v)
        rw [dm_at hi hgi, hyd] at h1
        simpa using h1
      subst hcv
      obtain ⟨_, hv2, hv3, _⟩ := D0.out.yes i v hgi
      obtain ⟨b, cap, rfl, hbd, hbv, hbl, hbS, hk0⟩ := D0.out.own hgi
      have hbw : b < w.heap.size := D0.out.slt b hbS
      have hvw : vb < w.heap.size := D0.out.slt vb D0.out.sv
      have T2 : Hid (Tch (fun k => k = r) wr w2) := (Tch.of_grown hg2).mono (fun k _ e => by cases e; rfl)
      have BW2 : Hid (Below w.heap.size w w2) := BW.out.trans (T2.out.below BW.out.size (fun k e => by rw [e]; exact HR0.out.2))
      have SV : Hid (SecR w2 (.slice (some ⟨b, 0, none⟩) (s.V i).length cap) (s.V i)) := hv3.below BW2.out
      have DK2 : Hid (DkAt So w2 (vb1 + 1) { s.cpy with V := V } lb1 vb1 lc1 g') := DK.out.tch T2.out (fun k hk e => (FS.out k hk).2 e)
      have RG2 : Hid (w2.ranges Try.prog 3 Rv vb r n (Dm n g) (fun z => left z && !z.sameKey (Lit.int .i64 (i : Int))) cnt2) := hrg2
      have CM2 : Hid (CpM s g (fun z => left z && !z.sameKey (Lit.int .i64 (i : Int))) (vput V i (s.V i))) := CM.out.step (by rw [hgi]; rfl)
      have HLT : Hid (cnt2 < cnt) := hlt
      have HNE : Hid (s.V i ≠ []) := hv2
      have HIN : Hid (i < n) := hi
      have hi0 : (0 : Int) ≤ (i : Int) := by omega
      have HVI : Hid ((s.V i).length ≤ 274877906944) := HV.out i
      have HVW : Hid (vb < w.heap.size ∧ vb ≠ vb1 ∧ r ≠ vb1) := ⟨hvw, fun e => by have := HVB.out; omega, fun e => by have := HR0.out.1; omega⟩
      have cm2 : w2.drew.cell? ⟨vb1 + 1, 1, none⟩ = some (.map (some vb1)) := DK2.out.c1
      have cm1 : w2.cell? ⟨vb1 + 1, 1, none⟩ = some (.map (some vb1)) := DK2.out.c1
      obtain ⟨m, hm⟩ : ∃ m, (s.V i).length = m := ⟨_, rfl⟩
      have HMM : Hid ((s.V i).length = m) := hm
      have HSTEP : Hid (∀ W3 v3, SecR W3 v3 (s.V i) → Below w2.drew.heap.size w2.drew W3 → (∀ k, v3.ownBlock = some k → w2.drew.heap.size ≤ k) →
          W3.cell? ⟨vb1 + 1, 1, none⟩ = some (.map (some vb1)) ∧ ∃ W4, (Instr.mapUpdate 72 (.map (some vb1)) (.int .i64 (i : Int)) v3).run Try.prog W3 = .ok () W4 ∧ W4.cell? ⟨vb1 + 1, 1, none⟩ = some (.map (some vb1)) ∧
            Hid (W4.ranges Try.prog 3 Rv vb r n (Dm n g) (fun z => left z && !z.sameKey (Lit.int .i64 (i : Int))) cnt2 ∧ Below w.heap.size w W4 ∧ ∃ S4 g4, DkAt S4 W4 (vb1 + 1) { s.cpy with V := vput V i (s.V i) } lb1 vb1 lc1 g4 ∧ ∀ k, S4 k → w.heap.size ≤ k ∧ k ≠ r)) := by
        intro W3 v3 hs3 hb3 hf3
        have DD : DkAt So w2.drew (vb1 + 1) { s.cpy with V := V } lb1 vb1 lc1 g' := DK2.out.tch (R := fun _ => False) (Tch.drew (Tch.refl _ w2)) (fun _ _ e => e)
        have D3 : DkAt So W3 (vb1 + 1) { s.cpy with V := V } lb1 vb1 lc1 g' := DD.tch (R := fun _ => False) (Tch.of_below hb3) (fun _ _ e => e)
        have hM : Mp W3 vb1 n g' := by have := D3.map; rw [show ({ s.cpy with V := V } : DS).L.length = n from HN.out] at this; exact this
        obtain ⟨W4, hrun, r1, r2⟩ := World.ownsMap.update (val := v3) (d := .held v3) (ps := []) hM keyed3 Try.underlying72 (by unfold maxLen; omega) (key3 (i := i) (by have := HIN.out; omega)) rfl
        have hM4 : Mp W4 vb1 n (gput g' i (some v3)) := mp_of r1 (dm_put HIN.out v3 (r1.canon keyed3))
        have T4 : Tch (fun k => k = vb1) W3 W4 := (Tch.of_grown r2).mono (fun k _ e => by cases e; rfl)
        have T3 : Tch (fun _ => False) w2.drew W3 := Tch.of_below hb3
        have T24 : Tch (fun k => k = vb1) w2 W4 := Tch.trans (b := w2.drew) (S := fun k => k = vb1) (S' := fun k => k = vb1) (Tch.drew (Tch.refl _ w2)) ((T3.mono (S' := fun k => k = vb1) (fun _ _ e => e.elim)).trans T4 (fun _ _ e => e)) (fun _ _ e => e)
        have hM4' : Mp W4 vb1 ({ s.cpy with V := V } : DS).L.length (gput g' i (some v3)) := by rw [show ({ s.cpy with V := V } : DS).L.length = n from HN.out]; exact hM4
        obtain ⟨S4, h41, h42, h43⟩ := DD.give (i := i) (by show i < s.L.length; rw [HN.out]; exact HIN.out) HNE.out (wa := W3) (T3.mono (fun _ _ e => e.elim)) hs3 (fun k hk => .inr (hf3 k hk)) hM4' T4
        have hne : vb1 + 1 ≠ vb1 := by omega
        refine ⟨D3.c1, W4, hrun, by rw [T4.cell (p := ⟨vb1 + 1, 1, none⟩) D3.lt hne]; exact D3.c1, RG2.out.kept (row := some vb1) ⟨T24.os, T24.tape, T24.output, T24.size, fun k hk hne => T24.block k hk (fun e => hne (by rw [e]))⟩ (fun e => by cases e; exact HVW.out.2.1 rfl) (fun e => by cases e; exact HVW.out.2.2 rfl), BW2.out.trans (T24.below BW2.out.size (fun k e => by rw [e]; exact HVB.out)), S4, _, h41, fun k hk => ?_⟩
        rcases h43 k hk with e | e
        · exact FS.out k e
        · have h1 : w2.heap.size ≤ k := e
          have h2 : r < w2.heap.size := RG2.out.lt
          have h3 := BW2.out.size
          exact ⟨by omega, by omega⟩
      clear hkey hlk hv hat hyd hgi hv2 hv3 hbd hbv hbl hbS hg2 hs2 hrg2 hlt hi hvw
      have HCL := hideP (clone_sec b (s.V i).length cap (s.V i) w2.drew (show SecR w2.drew (.slice (some ⟨b, 0, none⟩) (s.V i).length cap) (s.V i) from SV.out.tch (S := fun _ => False) (Tch.drew (Tch.refl _ w2)) (fun _ _ e => e)) HVI.out)
      rw [hm] at HCL hen ⊢
      clear hm hk0 hbw
      go_wp2_with fail
      go_region_held3 (fun w' => w'.cell? ⟨vb1 + 1, 1, none⟩ = some (.map (some vb1))) (go_keep)
        (first
          | (go_at_call 53; refine HCL.out.mono ?_; rintro e W3 ⟨v3, rfl, hs3, hb3, hf3⟩; obtain ⟨k3, W4, hup, k4, FIN⟩ := HSTEP.out W3 v3 hs3 hb3 hf3; clear hs3 hb3 hf3))
      go_wp2_with fail
      obtain ⟨RG4, B4, S4, g4, D4, F4⟩ := FIN.out
      go_roundw
      case rel => exact ⟨_, cnt2, _, S4, g4, RG4, CM2, D4, B4, F4⟩
      case measure => rw [RG4.left_eq, RG.out.left_eq]; exact HLT.out
end Go.Proofs.Ytdicgaepggffbaa
