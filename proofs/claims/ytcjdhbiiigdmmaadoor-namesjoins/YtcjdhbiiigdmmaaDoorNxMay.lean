/-
  strings.SplitN; which names may stand one behind the other; a path's names: Split, of the program.
-/
import Derived.Test.YtcjdhbiiigdmmaaDoorNxSplit
namespace Go.Proofs.YtcjdhbiiigdmmaaDoor
open Go.RowKit Nx
set_option linter.unusedVariables false
set_option maxRecDepth 100000

theorem rdV_cells (w : World) (t : TypeId) (ss : List ByteArray) (N : Nat) (h : ss.length ≤ N) (hN : N ≤ 7) : RdV (w.alloc (.cells (Lib.cellsOf ss N) t)) (.slice (some ⟨w.heap.size, 0, none⟩) ss.length N) (strs ss) := by
  refine ⟨_, N, by rw [strs_len], by rw [strs_len]; exact h, by unfold maxLen; omega, (fun e => by cases e), .inr ⟨w.heap.size, 0, rfl, fun i c hi => ?_⟩⟩
  have hc := cell_of_row (w.alloc (.cells (Lib.cellsOf ss N) t)) w.heap.size (0 + i) _ _ (0, 0) (heap_alloc_new w _)
  rw [hc, Nat.zero_add]
  have hi2 : i < ss.length := by have := (List.getElem?_eq_some_iff.1 hi).1; rwa [strs_len] at this
  rw [← hi]
  unfold Lib.cellsOf strs
  rw [List.getElem?_toArray, List.getElem?_append_left (by rw [List.length_map]; exact hi2)]

theorem splitN_any (s : ByteArray) (w : World) (hs : s.size ≤ 140737488351232) :
    Calls Tryd.prog 18 #[.string s, .string ⟨#[47]⟩, .int .i64 7] w fun e w' =>
      ∃ (v : Value) (ss : List ByteArray), e = .returned v ∧ Below w.heap.size w w' ∧ RdV w' v (strs ss) ∧ ss.length ≤ 7 ∧ ss.map bl = sn (min 7 (s.size + 1) - 1) (bl s) := by
  have c := genSplit_any s (min 7 (s.size + 1)) w hs rfl
  obtain ⟨N, hN⟩ : ∃ N, Hid (min 7 (s.size + 1) = N) := ⟨_, rfl⟩
  rw [hN.out] at c ⊢
  have HL : Hid (∀ ss : List ByteArray, ss.map bl = sn (N - 1) (bl s) → ss.length ≤ N) := fun ss e => by
    have h1 : ss.length = (sn (N - 1) (bl s)).length := by rw [← e, List.length_map]
    have h2 := sn_pcs (N - 1) (bl s)
    have h0 := hN.out
    by_cases h3 : (pcs (bl s)).length ≤ N - 1 + 1
    · rw [h1, h2.1 h3]; omega
    · rw [h1, h2.2 (by omega)]; omega
  have H7 : Hid (N ≤ 7) := by have := hN.out; show N ≤ 7; omega
  clear hN
  go_enter Tryd.func18, Tryd.ntmps18
  go_wp2_with (go_at_call 25; refine c.mono ?_; rintro e w' ⟨ss, rfl, rfl, hm⟩)
  go_ret
  have h1 := HL.out ss hm
  have h7 := H7.out
  exact ⟨_, ss, rfl, below_alloc _ _, rdV_cells w _ ss N h1 h7, by omega, hm⟩

def namesB (ss : List ByteArray) : Bool := ss.all fun s => nameL (bl s)
theorem not_any (s : ByteArray) (w : World) : Calls Tryd.prog 26 #[.string s] w fun e w' => e = .returned (.bool (!nameL (bl s))) ∧ Below w.heap.size w w' := by
  have c := name_any s
  obtain ⟨b, hb⟩ : ∃ b, nameL (bl s) = b := ⟨_, rfl⟩
  rw [hb] at c ⊢
  clear hb
  go_enter Tryd.func26, Tryd.ntmps26
  go_wp2_with (go_at_call 13; refine (c _).mono ?_; rintro e w' ⟨rfl, hb⟩)
  go_ret
  exact ⟨rfl, hb⟩

set_option maxHeartbeats 1000000 in
theorem indexNot_any (v : Value) (ss : List ByteArray) (w : World) (h : RdV w v (strs ss)) :
    Calls Tryd.prog 36 #[v, .func (.func 26) #[] #[]] w fun e w' =>
      ∃ i : Int, e = .returned (.int .i64 i) ∧ Below w.heap.size w w' ∧ decide (0 ≤ i) = !namesB ss := by
  obtain ⟨a, ca, rfl, l1, l2, _⟩ := h.len
  have HX := hideN h
  rw [strs_len] at HX l1 ⊢
  clear h
  obtain ⟨r, hr⟩ : ∃ r, Hid (namesB ss = r) := ⟨_, rfl⟩
  rw [hr.out]
  obtain ⟨L, hL⟩ : ∃ L, Hid (ss.length = L) := ⟨_, rfl⟩
  rw [hL.out] at HX l1 ⊢
  go_enter Tryd.func36, Tryd.ntmps36
  go_wp2_with fail
  go_loopw [8] (fun i wr => ∃ (k : Nat), k ≤ L ∧ i = .int .i64 k ∧ Hid ((ss.drop k).all (fun s => nameL (bl s)) = r) ∧ Hid (Below w.heap.size w wr)) (fun i _ => L - (intOf i).toNat)
  case atStart => exact ⟨0, Nat.zero_le _, rfl, by rw [List.drop_zero]; exact hr, Below.refl _ _⟩
  case round =>
    obtain ⟨k, hk, rfl, hz, BR⟩ := hrel
    by_cases hlt : k < L
    · obtain ⟨b1, o1, rfl, cx⟩ := (HX.out.below BR.out).str (i := k) (by rw [hL.out]; exact hlt)
      obtain ⟨x, hxe⟩ : ∃ x, Hid (ss.getD k eS = x) := ⟨_, rfl⟩
      have hd : Hid (ss.drop k = ss.getD k eS :: ss.drop (k + 1)) := by
        have hk2 : k < ss.length := by rw [hL.out]; exact hlt
        have : ss.drop k = ss.getD k eS :: ss.drop (k + 1) := by rw [List.drop_eq_getElem_cons hk2]; simp [List.getD_eq_getElem?_getD, hk2]
        exact this
      rw [hxe.out] at cx hd
      have c := not_any x wr
      cases hn : nameL (bl x) with
      | true =>
        rw [hn] at c
        have HK : Hid ((ss.drop (k + 1)).all (fun s => nameL (bl s)) = r) := by
          have e : (ss.drop (k + 1)).all (fun s => nameL (bl s)) = r := by rw [← hz.out, hd.out, List.all_cons, hn]; simp
          exact e
        clear hn hd hz
        go_wp2_with (go_at_call 26; refine c.mono ?_; rintro e w' ⟨rfl, hb⟩)
        exact ⟨⟨k + 1, by omega, by go_num, HK, BR.out.trans (hb.mono BR.out.size)⟩, by simp [intOf]; omega⟩
      | false =>
        rw [hn] at c
        have hF : r = false := by rw [← hz.out, hd.out, List.all_cons, hn]; rfl
        subst hF
        clear hn hd hz
        go_wp2_with (go_at_call 26; refine c.mono ?_; rintro e w' ⟨rfl, hb⟩)
        go_ret
        exact ⟨_, rfl, BR.out.trans (hb.mono BR.out.size), by simp⟩
    · have hF : r = true := by
        rw [← hz.out, List.drop_eq_nil_of_le (by rw [hL.out]; omega)]; rfl
      subst hF
      go_wp2_with fail
      go_ret
      exact ⟨_, rfl, BR.out, by simp⟩
theorem containsNot_any (v : Value) (ss : List ByteArray) (w : World) (h : RdV w v (strs ss)) :
    Calls Tryd.prog 27 #[v, .func (.func 26) #[] #[]] w fun e w' => e = .returned (.bool (!namesB ss)) ∧ Below w.heap.size w w' := by
  have c := indexNot_any v ss w h
  clear h
  obtain ⟨r, hr⟩ : ∃ r, (!namesB ss) = r := ⟨_, rfl⟩
  rw [hr] at c ⊢
  clear hr
  go_enter Tryd.func27, Tryd.ntmps27
  go_wp2_with (go_at_call 36; refine c.mono ?_; rintro e w' ⟨i, rfl, hb, hi⟩)
  go_ret
  exact ⟨by first | rfl | (rw [hi]) | simp [hi], hb⟩
theorem mayP_names (ss : List ByteArray) : mayP (ss.map bl) = (decide (ss.length ≤ 6) && namesB ss) := by
  unfold mayP namesB
  rw [List.length_map, List.all_map]
  rfl
theorem mayStand_any (v : Value) (ss : List ByteArray) (w : World) (h : RdV w v (strs ss)) :
    Calls Tryd.prog 19 #[v] w fun e w' => e = .returned (.bool (mayP (ss.map bl))) ∧ Below w.heap.size w w' := by
  rw [mayP_names]
  have c := containsNot_any v ss w h
  obtain ⟨a, ca, rfl, l1, l2, _⟩ := h.len
  rw [strs_len] at l1 c ⊢
  clear h
  obtain ⟨r, hr⟩ : ∃ r, namesB ss = r := ⟨_, rfl⟩
  rw [hr] at c ⊢
  clear hr
  by_cases h6 : (ss.length : Int) ≤ 6
  · have e : decide (ss.length ≤ 6) = true := decide_eq_true (by omega)
    rw [e, Bool.true_and]
    clear e
    go_enter Tryd.func19, Tryd.ntmps19
    go_wp2_with (go_at_call 27; refine c.mono ?_; rintro e w' ⟨rfl, hb⟩)
    go_ret
    exact ⟨by simp, hb⟩
  · have e : decide (ss.length ≤ 6) = false := decide_eq_false (by omega)
    rw [e, Bool.false_and]
    clear e
    go_enter Tryd.func19, Tryd.ntmps19
    go_wp2_with (go_at_call 27; refine c.mono ?_; rintro e w' ⟨rfl, hb⟩)
    go_ret
    exact ⟨by simp, Below.refl _ _⟩
end Go.Proofs.YtcjdhbiiigdmmaaDoor
