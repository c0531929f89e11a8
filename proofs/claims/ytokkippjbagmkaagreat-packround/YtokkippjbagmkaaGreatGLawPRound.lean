import Derived.Test.YtokkippjbagmkaaGreatGPkRnd1
import Derived.Test.YtokkippjbagmkaaGreatGPkLv
import Derived.Test.YtokkippjbagmkaaGreatGSame
/-
  PackRound: what is packed is unpacked again: for every bytes the law answers true.
-/
namespace Go.Proofs.YtokkippjbagmkaaGreat
open Go.RowKit Pl
set_option linter.unusedVariables false
set_option maxRecDepth 100000
set_option linter.unusedSimpArgs false

theorem rd_cutP {w : World} {a : Option Addr} {n c : Nat} {xs : List Int} (h : Rd .u8 w (.slice a n c) xs) (m : Nat) (hm : m ≤ xs.length) : Rd .u8 w (.slice a m c) (xs.take m) := by
  obtain ⟨a', c', e, h1, h2, h3, h4⟩ := h
  simp only [Value.slice.injEq] at e
  obtain ⟨rfl, rfl, rfl⟩ := e
  have hl : (xs.take m).length = m := by rw [List.length_take]; omega
  refine ⟨a, c, by rw [hl], by omega, h2, h3, ?_⟩
  rcases h4 with h | ⟨b, o, rfl, h⟩
  · exact .inl (by rw [h]; simp)
  · refine .inr ⟨b, o, rfl, fun i hi => ?_⟩
    rw [h i (by omega), List.getD_eq_getElem?_getD, List.getD_eq_getElem?_getD, List.getElem?_take, if_pos (by omega)]

set_option maxHeartbeats 1000000 in
theorem packRound_big (v : Value) (ds : List Int) (more : Int) (w : World) (hr : Rd .u8 w v ds) (hbig : 65536 < ds.length) :
    Calls Tryz.prog 5 #[v, .int .u8 more] w fun e w' => e = .returned (.bool true) ∧ Below w.heap.size w w' := by
  have HP : Hid (Calls Tryz.prog 9 #[v] w fun e w' => e = .returned (.tuple #[.slice none 0 0, .int .i64 1]) ∧ Below w.heap.size w w') := pack_big v ds w hr hbig
  obtain ⟨a, cap, rfl, hlc, hcm, _⟩ := hr
  have hb : (65536 : Int) < (ds.length : Int) := by omega
  go_enter Tryz.func5, Tryz.ntmps5
  go_wp2_with fail
  refine HP.out.mono ?_
  clear HP
  rintro e w1 ⟨rfl, hb1⟩
  have B1 : Hid (Below w.heap.size w w1) := hb1
  clear hb1
  go_wp2_with fail
  refine (lives_anyP _).mono ?_
  rintro e w2 ⟨rfl, hb2⟩
  go_wp2_with fail
  go_ret
  exact ⟨rfl, B1.out.trans (hb2.mono B1.out.size)⟩

set_option maxHeartbeats 2000000 in
theorem packRound_fit (v : Value) (ds : List Int) (more : Int) (w : World) (hr : Rd .u8 w v ds) (hy : By ds) (hmore : 0 ≤ more ∧ more ≤ 255) (hn : ds.length ≤ 65536) (hold : ∀ k, v.ownBlock = some k → k < w.heap.size) :
    Calls Tryz.prog 5 #[v, .int .u8 more] w fun e w' => e = .returned (.bool true) ∧ Below w.heap.size w w' := by
  have HP : Hid (Calls Tryz.prog 9 #[v] w fun e w' => ∃ ov out, e = .returned (.tuple #[ov, .int .i64 0]) ∧ PackR ds out ∧ Owns .u8 5 w' ov out ∧ Below w.heap.size w w' ∧ ∀ k, ov.ownBlock = some k → w.heap.size ≤ k) := pack_any v ds w hr hy hn hold
  have HR : Hid (Rd .u8 w v ds) := hr
  have HY : Hid (By ds) := hy
  obtain ⟨a, cap, rfl, hlc, hcm, hrest⟩ := hr
  clear hrest
  have hb : (ds.length : Int) ≤ 65536 := by omega
  obtain ⟨n, hn2⟩ : ∃ n, ds.length = n := ⟨_, rfl⟩
  have HN : Hid (ds.length = n) := hn2
  rw [hn2] at hn hlc hb HR HP ⊢
  clear hy hold hn2
  go_enter Tryz.func5, Tryz.ntmps5
  go_wp2_with fail
  refine HP.out.mono ?_
  clear HP
  rintro e w1 ⟨ov, out, rfl, hp, ho, hb1, hf⟩
  have B1 : Hid (Below w.heap.size w w1) := hb1
  have O1 : Hid (Owns .u8 5 w1 ov out) := ho
  have N1 : Hid (∀ k, ov.ownBlock = some k → w.heap.size ≤ k) := hf
  have HOB : Hid (By out) := pack_by HY.out (by rw [HN.out]; exact hn) hp
  obtain ⟨u1, u2, u3, u4⟩ := pack_unp HY.out (by rw [HN.out]; exact hn) hp
  obtain ⟨l1, l2⟩ := pack_le8 (by rw [HN.out]; exact hn) hp
  rw [HN.out] at u1 u2 u3 u4 l2
  have U1 : Hid (unpS out (n : Int) = (0, ds)) := u1
  have U2 : Hid (0 < n → unpS out ((n : Int) - 1) = (11, [])) := u2
  have U3 : Hid (unpS (out.take (out.length - 1)) (n : Int) = (5, [])) := u3
  have U4 : Hid (∀ x, unpS (out ++ [x]) (n : Int) = (5, [])) := u4
  obtain ⟨m, hm⟩ : ∃ m, out.length = m := ⟨_, rfl⟩
  have HM : Hid (out.length = m) := hm
  rw [hm] at l1 l2 U3
  obtain ⟨oa, oc, hov, hoc, hom, horest⟩ := ho.rd
  clear horest
  rw [hm] at hov hoc
  subst hov
  clear hb1 ho hf hp u1 u2 u3 u4 hm
  go_wp2_with fail
  refine (unpack_any _ out (n : Int) w1 O1.out.rd HOB.out (by rw [HM.out]; omega) O1.out.lt).mono ?_
  intro e w2 h2
  rw [U1.out] at h2
  obtain ⟨bv, rfl, hn2, hb2⟩ := h2
  have B2 : Hid (Below w.heap.size w w2) := B1.out.trans (hb2.mono B1.out.size)
  have O2 : Hid (Owns .u8 5 w2 (.slice oa m oc) out) := O1.out.below hb2
  have N2 : Hid (Rd .u8 w2 bv ds) := hn2.rd
  simp only
  clear hn2 hb2 B1 O1
  go_wp2_with fail
  refine (same_rd _ _ ds ds w2 N2.out (HR.out.below B2.out)).mono ?_
  rintro e w3 ⟨rfl, hb3⟩
  have hdec : decide (ds = ds) = true := by simp
  rw [hdec]
  have B3 : Hid (Below w.heap.size w w3) := B2.out.trans (hb3.mono B2.out.size)
  have O3 : Hid (Owns .u8 5 w3 (.slice oa m oc) out) := O2.out.below hb3
  clear hdec hb3 B2 O2 N2
  have hm8 : ¬ (n : Int) + 8 < (m : Int) := by omega
  go_wp2_with fail
  refine (unpack_any _ out ((n : Int) - 1) w3 O3.out.rd HOB.out (by rw [HM.out]; omega) O3.out.lt).mono ?_
  rintro e w4 ⟨cv, rfl, _, hb4⟩
  have hE : n = 0 ∨ (0 < n ∧ (unpS out ((n : Int) - 1)).1 = 11) := by
    by_cases e : n = 0
    · exact .inl e
    · exact .inr ⟨by omega, by rw [U2.out (by omega)]⟩
  obtain ⟨E, hE0⟩ : ∃ E, (unpS out ((n : Int) - 1)).1 = E := ⟨_, rfl⟩
  rw [hE0] at hE ⊢
  have B4 : Hid (Below w.heap.size w w4) := B3.out.trans (hb4.mono B3.out.size)
  have O4 : Hid (Owns .u8 5 w4 (.slice oa m oc) out) := O3.out.below hb4
  have HM1 : Hid (Value.int .i64 ((m : Int) - 1) = .int .i64 ((m - 1 : Nat) : Int)) := by show _ = _; congr 1; omega
  have HMB : Hid (By [more]) := by_one hmore
  clear hb4 B3 O3 hE0
  rcases hE with hz | ⟨hp, rfl⟩
  · have hz2 : ¬ (0 : Int) < (n : Int) := by omega
    clear hz
    have R5 : Hid (Rd .u8 w4 (.slice oa (m - 1) oc) (out.take (m - 1))) := rd_cutP O4.out.rd (m - 1) (by rw [HM.out]; omega)
    have HB5 : Hid (∀ k, (Value.slice oa (m - 1) oc).ownBlock = some k → k < w4.heap.size) := fun k hk => O4.out.lt k (by cases oa with | none => cases hk | some x => exact hk)
    go_wp2_with fail
    refine (unpack_any _ (out.take (m - 1)) (n : Int) w4 R5.out (HOB.out.take _) (by rw [List.length_take, HM.out]; omega) HB5.out).mono ?_
    intro e w6 h6
    rw [U3.out] at h6
    obtain ⟨dv, rfl, _, hb6⟩ := h6
    have B6 : Hid (Below w.heap.size w w6) := B4.out.trans (hb6.mono B4.out.size)
    have O6 : Hid (Owns .u8 5 w6 (.slice oa m oc) out) := O4.out.below hb6
    have HL63 : Hid (out.length + 1 ≤ 9223372036854775807) := by show _ ≤ _; rw [HM.out]; omega
    have HL47 : Hid ((out.length + 1) * 1 ≤ 140737488355328) := by show _ ≤ _; rw [HM.out]; omega
    simp only
    clear hb6 B4 O4 R5 HB5
    go_wp2_with (at_builtin; refine wpList_push w6 rfl (.tmp 88) (.tmp 90) 22 rfl 5 .u8 1 elem8 (.slice oa m oc) out rfl O6.out more rfl HL63.out HL47.out ?_)
    intro v7 w7 ho7 hg7
    have O7 : Hid (Owns .u8 5 w7 v7 (out ++ [more])) := ho7
    have B7 : Hid (Below w.heap.size w w7) := B6.out.trans (hg7.1.below B6.out.size (fun k e => N1.out k e))
    clear ho7 hg7 B6 O6
    go_wp2_with fail
    refine (unpack_any v7 (out ++ [more]) (n : Int) w7 O7.out.rd (HOB.out.append HMB.out) (by rw [List.length_append, HM.out]; simp; omega) O7.out.lt).mono ?_
    intro e w8 h8
    rw [U4.out more] at h8
    obtain ⟨ev, rfl, _, hb8⟩ := h8
    have B8 : Hid (Below w.heap.size w w8) := B7.out.trans (hb8.mono B7.out.size)
    simp only
    clear hb8 B7 O7
    go_wp2_with fail
    refine (lives_anyP _).mono ?_
    rintro e w9 ⟨rfl, hb9⟩
    go_wp2_with fail
    go_ret
    exact ⟨rfl, B8.out.trans (hb9.mono B8.out.size)⟩
  · have hz2 : (0 : Int) < (n : Int) := by omega
    clear hp
    have R5 : Hid (Rd .u8 w4 (.slice oa (m - 1) oc) (out.take (m - 1))) := rd_cutP O4.out.rd (m - 1) (by rw [HM.out]; omega)
    have HB5 : Hid (∀ k, (Value.slice oa (m - 1) oc).ownBlock = some k → k < w4.heap.size) := fun k hk => O4.out.lt k (by cases oa with | none => cases hk | some x => exact hk)
    go_wp2_with fail
    refine (unpack_any _ (out.take (m - 1)) (n : Int) w4 R5.out (HOB.out.take _) (by rw [List.length_take, HM.out]; omega) HB5.out).mono ?_
    intro e w6 h6
    rw [U3.out] at h6
    obtain ⟨dv, rfl, _, hb6⟩ := h6
    have B6 : Hid (Below w.heap.size w w6) := B4.out.trans (hb6.mono B4.out.size)
    have O6 : Hid (Owns .u8 5 w6 (.slice oa m oc) out) := O4.out.below hb6
    have HL63 : Hid (out.length + 1 ≤ 9223372036854775807) := by show _ ≤ _; rw [HM.out]; omega
    have HL47 : Hid ((out.length + 1) * 1 ≤ 140737488355328) := by show _ ≤ _; rw [HM.out]; omega
    simp only
    clear hb6 B4 O4 R5 HB5
    go_wp2_with (at_builtin; refine wpList_push w6 rfl (.tmp 88) (.tmp 90) 22 rfl 5 .u8 1 elem8 (.slice oa m oc) out rfl O6.out more rfl HL63.out HL47.out ?_)
    intro v7 w7 ho7 hg7
    have O7 : Hid (Owns .u8 5 w7 v7 (out ++ [more])) := ho7
    have B7 : Hid (Below w.heap.size w w7) := B6.out.trans (hg7.1.below B6.out.size (fun k e => N1.out k e))
    clear ho7 hg7 B6 O6
    go_wp2_with fail
    refine (unpack_any v7 (out ++ [more]) (n : Int) w7 O7.out.rd (HOB.out.append HMB.out) (by rw [List.length_append, HM.out]; simp; omega) O7.out.lt).mono ?_
    intro e w8 h8
    rw [U4.out more] at h8
    obtain ⟨ev, rfl, _, hb8⟩ := h8
    have B8 : Hid (Below w.heap.size w w8) := B7.out.trans (hb8.mono B7.out.size)
    simp only
    clear hb8 B7 O7
    go_wp2_with fail
    refine (lives_anyP _).mono ?_
    rintro e w9 ⟨rfl, hb9⟩
    go_wp2_with fail
    go_ret
    exact ⟨rfl, B8.out.trans (hb9.mono B8.out.size)⟩

theorem packRound_walk (v : Value) (ds : List Int) (more : Int) (w : World) (hr : Rd .u8 w v ds) (hy : By ds) (hmore : 0 ≤ more ∧ more ≤ 255) (hold : ∀ k, v.ownBlock = some k → k < w.heap.size) :
    Calls Tryz.prog 5 #[v, .int .u8 more] w fun e w' => e = .returned (.bool true) ∧ Below w.heap.size w w' := by
  by_cases h : ds.length ≤ 65536
  · exact packRound_fit v ds more w hr hy hmore h hold
  · exact packRound_big v ds more w hr (by omega)
end Go.Proofs.YtokkippjbagmkaaGreat
