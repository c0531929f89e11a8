/-
  The document's Lengths, walked.
-/
import Derived.Test.YtcmnhgefeffcpaaHRLenP
import Derived.Test.YtcmnhgefeffcpaaE64
namespace Go.Proofs.Ytcmnhgefeffcpaa
open Go.RowKit Pl Hf
set_option linter.unusedVariables false

theorem pat_start {cs : List Int} {p : Nat} (h1 : cs.length ≤ 256) (he : ∀ i, i < cs.length → 0 ≤ cs.getD i 0 ∧ cs.getD i 0 ≤ 4294967295) (hp : p < cs.length) (hpp : 0 < cs.getD p 0) (hq : ∀ j, p < j → j < cs.length → ¬ 0 < cs.getD j 0) :
    Pat cs (cs.take (p + 1)) ∧ wt (cs.take (p + 1)) (cs.take (p + 1)).length = wt cs cs.length := by
  have hl : (cs.take (p + 1)).length = p + 1 := by rw [List.length_take]; omega
  have hg : ∀ b, b < p + 1 → (cs.take (p + 1)).getD b 0 = cs.getD b 0 := fun b hb => by
    rw [List.getD_eq_getElem?_getD, List.getElem?_take, if_pos hb, ← List.getD_eq_getElem?_getD]
  have hP : Pat cs (cs.take (p + 1)) := by
    refine ⟨⟨by omega, by omega, fun i => ?_, ?_⟩, by omega, fun b hb => by rw [hg b (by omega)], fun b h1 h2 => hq b (by omega) h2⟩
    · by_cases c : i < p + 1
      · rw [hg i c]; have := he i (by omega); omega
      · rw [List.getD_eq_getElem?_getD, List.getElem?_eq_none (by omega)]; decide
    · rw [hl, hg _ (by omega)]; exact hpp
  refine ⟨hP, ?_⟩
  unfold wt
  rw [hP.all]
  refine List.map_congr_left fun b hb => ?_
  have hm := mem_st.1 (by rw [← hP.all] at hb; exact hb)
  exact hg b (by omega)

theorem hvTo_same (os : List Int) (k : Nat) (hk : k < os.length) (hx : ¬ 0 < os.getD k 0) : hvTo os (k + 1) = hvTo os k := by
  have e : hvH (os.getD k 0) = os.getD k 0 := by unfold hvH; rw [if_neg hx]
  rw [hvTo_succ os k hk, e]
  have h1 := hvTo_getD os k k hk
  rw [if_neg (Nat.lt_irrefl k)] at h1
  rw [← h1]
  have hl : k < (hvTo os k).length := by rw [hvTo_length]; exact hk
  rw [List.getD_eq_getElem?_getD, List.getElem?_eq_getElem hl]
  exact List.set_getElem_self hl
theorem shS_more {ws ds : List Int} (h2 : 2 ≤ ws.length) (hn : ¬ All11 ws) (h : ShS (halve ws) ds) : ShS ws ds := by
  rcases h with ⟨h1, _⟩ | ⟨_, h3⟩
  · rw [halve_length] at h1; omega
  · exact .inr ⟨h2, Sh.on ws ds hn h3⟩
theorem shS_now {os : List Int} (hk : Own1 os) (h : ∀ b, (lens os (dpS os)).getD b 0 ≤ 11) : ShS (wt os os.length) (dpS os) := by
  have hp := hk.pos
  by_cases e : (st os os.length).length = 1
  · exact .inl ⟨by rw [wt_length]; exact e, by unfold dpS; rw [if_pos e]⟩
  · have h2 : 2 ≤ (wt os os.length).length := by rw [wt_length]; omega
    have h3 := Sh.now _ ((all11_of hk h2).1 h)
    have hd : dpS os = deps (wt os os.length) := by unfold dpS; rw [if_neg e]
    rw [hd]
    exact .inr ⟨h2, h3⟩
theorem not11 {os : List Int} (hk : Own1 os) (h : ¬ ∀ b, (lens os (dpS os)).getD b 0 ≤ 11) : 2 ≤ (wt os os.length).length ∧ ¬ All11 (wt os os.length) := by
  have hp := hk.pos
  have h2 : 2 ≤ (wt os os.length).length := by
    rw [wt_length]
    by_cases e : (st os os.length).length = 1
    · exact absurd (one11_of hk e) h
    · omega
  exact ⟨h2, fun e => h ((all11_of hk h2).2 e)⟩

set_option maxRecDepth 100000 in
set_option maxHeartbeats 4000000 in
theorem refLengths_any (v : Value) (cs : List Int) (w : World) (hr : Rd .i64 w v cs) : Calls Try.prog 6 #[v] w fun e w' => LPost cs w e w' := by
  obtain ⟨a, cap, hv, hlc, hcm, _, hcc⟩ := id hr
  subst hv
  have HR : Hid (Rd .i64 w (.slice a cs.length cap) cs) := hr
  have HC : Hid (cs = [] ∨ ∃ b o, a = some ⟨b, o, none⟩ ∧ ∀ i, i < cs.length → w.cell? ⟨b, o + i, none⟩ = some (.int .i64 (cs.getD i 0))) := hcc
  have hcm2 : cap ≤ 9223372036854775807 := by unfold maxLen at hcm; omega
  clear hr hcc hcm
  by_cases h256 : 256 < cs.length
  · have hb : (256 : Int) < (cs.length : Int) := by omega
    have HNO : Hid (¬ OkC cs) := fun h => by have := h.most; omega
    go_enter Try.func6, Try.ntmps6
    go_wp2_with fail
    go_ret2
    exact LPost.bad (Below.refl _ _) HNO.out
  · have hb : ¬ (256 : Int) < (cs.length : Int) := by omega
    go_enter Try.func6, Try.ntmps6
    go_wp2_with fail
    go_loop [4, 5] (fun l i => ∃ (k : Nat) (z : Int), k ≤ cs.length ∧ i = .int .i64 k ∧ l = .int .i64 z ∧ -1 ≤ z ∧ z < k ∧ Hid (∀ j, j < k → 0 ≤ cs.getD j 0 ∧ cs.getD j 0 ≤ 4294967295) ∧ Hid (∀ j, j < k → z < (j : Int) → ¬ 0 < cs.getD j 0) ∧ Hid (0 ≤ z → 0 < cs.getD z.toNat 0)) (fun _ i => cs.length - (intOf i).toNat)
    case atStart => exact ⟨0, -1, Nat.zero_le _, rfl, rfl, by omega, by omega, (fun j hj => by omega), (fun j hj => by omega), (fun h => by omega)⟩
    case round =>
      obtain ⟨k, z, hk, rfl, rfl, hz1, hz2, HE, HZ, HP⟩ := hrel
      by_cases hlt : k < cs.length
      · obtain ⟨cb, co, ha, hcl⟩ : ∃ b o, a = some ⟨b, o, none⟩ ∧ ∀ i, i < cs.length → w.cell? ⟨b, o + i, none⟩ = some (.int .i64 (cs.getD i 0)) := by
          rcases HC.out with h | h
          · rw [h] at hlt; simp at hlt
          · exact h
        subst ha
        have cx := hcl k hlt
        have hi1 : (k : Int) < (cs.length : Int) := by omega
        obtain ⟨x, hx⟩ : ∃ x, cs.getD k 0 = x := ⟨_, rfl⟩
        rw [hx] at cx
        by_cases h0 : x < 0
        · have HNO : Hid (¬ OkC cs) := fun h => by have := (h.each k hlt).1; omega
          clear hcl hx
          go_wp2_with fail
          go_ret2
          exact LPost.bad (Below.refl _ _) HNO.out
        · by_cases h4 : 4294967295 < x
          · have HNO : Hid (¬ OkC cs) := fun h => by have := (h.each k hlt).2; omega
            have hd0 : decide (x < 0) = false := by rw [decide_eq_false_iff_not]; exact h0
            clear hcl hx h0
            go_wp2_with fail
            go_ret2
            exact LPost.bad (Below.refl _ _) HNO.out
          · have hd0 : decide (x < 0) = false := by rw [decide_eq_false_iff_not]; exact h0
            have hd4 : decide (4294967295 < x) = false := by rw [decide_eq_false_iff_not]; exact h4
            have HE2 : Hid (∀ j, j < k + 1 → 0 ≤ cs.getD j 0 ∧ cs.getD j 0 ≤ 4294967295) := fun j hj => by
              by_cases e : j = k
              · rw [e, hx]; omega
              · exact HE.out j (by omega)
            by_cases hpx : 0 < x
            · have HZ2 : Hid (∀ j, j < k + 1 → (k : Int) < (j : Int) → ¬ 0 < cs.getD j 0) := fun j h1 h2 => by omega
              have HP2 : Hid (0 ≤ (k : Int) → 0 < cs.getD ((k : Int)).toNat 0) := fun _ => by rw [Int.toNat_natCast, hx]; exact hpx
              clear hcl hx h0 h4
              go_wp2_with fail
              first
                | exact ⟨⟨k + 1, (k : Int), by omega, by go_num, rfl, by omega, by omega, HE2, HZ2, HP2⟩, by simp [intOf]; omega⟩
                | (go_round
                   case rel => exact ⟨k + 1, (k : Int), by omega, by go_num, rfl, by omega, by omega, HE2, HZ2, HP2⟩
                   case measure => simp [intOf]; omega)
            · have HZ2 : Hid (∀ j, j < k + 1 → z < (j : Int) → ¬ 0 < cs.getD j 0) := fun j h1 h2 => by
                by_cases e : j = k
                · rw [e, hx]; exact hpx
                · exact HZ.out j (by omega) h2
              clear hcl hx h0 h4
              go_wp2_with fail
              first
                | exact ⟨⟨k + 1, z, by omega, by go_num, rfl, by omega, by omega, HE2, HZ2, HP⟩, by simp [intOf]; omega⟩
                | (go_round
                   case rel => exact ⟨k + 1, z, by omega, by go_num, rfl, by omega, by omega, HE2, HZ2, HP⟩
                   case measure => simp [intOf]; omega)
      · have hkl : k = cs.length := by omega
        have hkn : ¬ (k : Int) < (cs.length : Int) := by omega
        by_cases hz : z < 0
        · have HNO : Hid (¬ OkC cs) := fun h => by
            have h1 := h.some
            have h2 := (rk_st cs (k := cs.length) (i := 0) h1).2
            exact HZ.out _ (by rw [hkl]; exact h2.1) (by omega) h2.2
          clear hkl
          go_wp2_with fail
          go_ret2
          exact LPost.bad (Below.refl _ _) HNO.out
        · obtain ⟨p, rfl⟩ := Int.eq_ofNat_of_zero_le (show 0 ≤ z by omega)
          have hpl : p < cs.length := by omega
          have hpp : 0 < cs.getD p 0 := by have := HP.out (by omega); rw [Int.toNat_natCast] at this; exact this
          have HOK : Hid (OkC cs) := ⟨by omega, by rw [← hkl]; exact HE.out, by
            have := (st_get cs hpl hpp).1
            omega⟩
          obtain ⟨hpat, hwt⟩ := pat_start (cs := cs) (p := p) (by omega) (by rw [← hkl]; exact HE.out) hpl hpp (fun j h1 h2 => HZ.out j (by omega) (by omega))
          have HPAT : Hid (Pat cs (cs.take (p + 1))) := hpat
          have HWT : Hid (wt (cs.take (p + 1)) (cs.take (p + 1)).length = wt cs cs.length) := hwt
          have HTL : Hid ((cs.take (p + 1)).length = p + 1) := by show _ = _; rw [List.length_take]; omega
          have HPL1 : Hid (p + 1 ≤ cs.length) := by show _ ≤ _; omega
          have hp2 : p ≤ 255 := by omega
          clear hpat hwt hz hkl hpp HE HZ HP hz1 hz2 hlt hk
          obtain ⟨cb, co, ha, hcl⟩ : ∃ b o, a = some ⟨b, o, none⟩ ∧ ∀ i, i < cs.length → w.cell? ⟨b, o + i, none⟩ = some (.int .i64 (cs.getD i 0)) := by
            rcases HC.out with h | h
            · rw [h] at hpl; simp at hpl
            · exact h
          subst ha
          have RT : Hid (Rd .i64 w (.slice (some ⟨cb, co, none⟩) (p + 1) cap) (cs.take (p + 1))) := rd_take (p + 1) HPL1.out hlc (by unfold maxLen; omega) hcl
          have hs1 : (p : Int) + 1 ≤ (cap : Int) := by omega
          have hs2 : p + 1 ≤ cap := by omega
          clear hcl
          go_wp2_with (at_builtin; refine wpList_many _ rfl (.tmp 39) (.tmp 43) 22 rfl 3 .i64 8 elem64 (.slice none 0 0) [] rfl (owns_nil _ _ _) _ (cs.take (p + 1)) rfl RT.out ?a1 ?a2 ?_; (case a1 => rw [HTL.out]; simp; omega); (case a2 => rw [HTL.out]; simp; omega))
          intro v6 w6 ho6 hg6
          obtain ⟨b6, n6⟩ := hg6.below
          obtain ⟨g, cp, hv6, hgl6, hcp1, hcp2, _⟩ := ho6.shape (by rw [HTL.out]; omega)
          rw [HTL.out] at hv6 hcp1
          subst hv6
          have O6 : Hid (Owns .i64 3 w6 (.slice (some ⟨g, 0, none⟩) (p + 1) cp) (cs.take (p + 1))) := ho6
          have B6 : Hid (Below w.heap.size w w6) := b6
          have HGW : Hid (w.heap.size ≤ g) := n6 g rfl
          have hcp3 : cp ≤ 9223372036854775807 := by unfold maxLen at hcp2; omega
          have HK0 : Hid (∀ ds, ShS (wt (cs.take (p + 1)) (cs.take (p + 1)).length) ds → ShS (wt cs cs.length) ds) := fun ds h => by rw [HWT.out] at h; exact h
          clear ho6 hg6 b6 n6 hgl6 hcp2 RT
          go_wp2_with fail
          go_loopw [9] (fun i9 wr => ∃ os : List Int, Hid (Pat cs os) ∧ Hid (os.length = p + 1) ∧ Hid (Owns .i64 3 wr (.slice (some ⟨g, 0, none⟩) (p + 1) cp) os) ∧ Hid (∀ ds, ShS (wt os os.length) ds → ShS (wt cs cs.length) ds) ∧ Hid (Below w.heap.size w wr)) (fun _ wr => msr wr g (p + 1))
          case atStart => exact ⟨cs.take (p + 1), HPAT, HTL, O6, HK0, B6⟩
          case round =>
            clear HPAT HTL O6 HK0 B6 HWT
            obtain ⟨os, HPAT, HOL, OO, HKK, BW⟩ := hrel
            have HMS : Hid (msr wr g (p + 1) = wsum os) := by show _ = _; rw [← HOL.out]; exact msr_owns OO.out
            have HTR : Hid (Calls Try.prog 17 #[.slice (some ⟨g, 0, none⟩) (p + 1) cp] wr fun e w' => TPostH os wr e w') := refTree_any _ os wr OO.out.rd HPAT.out.own
            go_wp2_with fail
            refine HTR.out.mono ?_
            rintro e w7 ⟨ov, m, rfl, hov, h11, hfr, hb7⟩
            have OV : Hid (Owns .i64 3 w7 ov (lens os (dpS os))) := hov
            have H11 : Hid (m ≤ 11 ↔ ∀ b, (lens os (dpS os)).getD b 0 ≤ 11) := h11
            have HFR : Hid (∀ k, ov.ownBlock = some k → w.heap.size ≤ k) := fun k hk => Nat.le_trans BW.out.size (hfr k hk)
            have O7 : Hid (Owns .i64 3 w7 (.slice (some ⟨g, 0, none⟩) (p + 1) cp) os) := OO.out.below hb7
            have B7 : Hid (Below w.heap.size w w7) := BW.out.trans (hb7.mono BW.out.size)
            clear hov h11 hfr hb7 HTR OO BW
            by_cases hm : m ≤ 11
            · have HSH : Hid (ShS (wt cs cs.length) (dpS os)) := HKK.out _ (shS_now HPAT.out.own (H11.out.1 hm))
              have OV2 : Hid (Owns .i64 3 w7 ov (lens cs (dpS os))) := by have h := OV.out; rw [HPAT.out.lens] at h; exact h
              go_wp2_with fail
              go_ret2
              exact ⟨ov, 0, rfl, B7.out, HFR.out, .inr ⟨rfl, HOK.out, dpS os, OV2.out, HSH.out⟩⟩
            · have HNA : Hid (2 ≤ (wt os os.length).length ∧ ¬ All11 (wt os os.length)) := not11 HPAT.out.own (fun h => hm (H11.out.2 h))
              have HLT : Hid (wsum (hvTo os os.length) < wsum os) := hv_less HPAT.out.own HNA.out.2 HNA.out.1
              have HEA : Hid (∀ i, 0 ≤ os.getD i 0 ∧ os.getD i 0 ≤ 4294967296) := HPAT.out.own.each
              clear OV H11 HFR
              go_wp2_with fail
              go_loopw [9] (fun i wr2 => ∃ k : Nat, k ≤ p + 1 ∧ i = .int .i64 k ∧ Hid (Owns .i64 3 wr2 (.slice (some ⟨g, 0, none⟩) (p + 1) cp) (hvTo os k)) ∧ Hid (Below w.heap.size w wr2)) (fun i _ => p + 1 - (intOf i).toNat)
              case atStart => exact ⟨0, Nat.zero_le _, rfl, by rw [hvTo_zero]; exact O7, B7⟩
              case round =>
                clear O7 B7
                obtain ⟨k, hk, rfl, OH, BH⟩ := hrel
                by_cases hkl : k < p + 1
                · have hi1 : (k : Int) < (p : Int) + 1 := by omega
                  have hi2 : (k : Int) < ((p + 1 : Nat) : Int) := by omega
                  have hko : k < os.length := by rw [HOL.out]; exact hkl
                  obtain ⟨g', cp', hvh, _, _, _, hcellh, hfzh⟩ := OH.out.shape (by rw [hvTo_length]; omega)
                  simp only [Value.slice.injEq, Option.some.injEq, Addr.mk.injEq] at hvh
                  obtain ⟨⟨rfl, _⟩, hxx1, hxx2⟩ := hvh
                  have ck := hcellh k (by rw [hvTo_length]; exact hko)
                  have fk := hfzh k
                  rw [hvTo_getD os k k hko, if_neg (Nat.lt_irrefl k)] at ck
                  have hxb := HEA.out k
                  by_cases hx : 0 < os.getD k 0
                  · have OH2 : Hid (Owns .i64 3 (wr.setCell ⟨g, k, none⟩ (.int .i64 (os.getD k 0 / 2 + 1))) (.slice (some ⟨g, 0, none⟩) (p + 1) cp) (hvTo os (k + 1))) := by
                      have h := OH.out.set k (hvH (os.getD k 0))
                      rw [← hvTo_succ os k hko] at h
                      unfold hvH at h
                      rw [if_pos hx] at h
                      exact h
                    have BH2 : Hid (Below w.heap.size w (wr.setCell ⟨g, k, none⟩ (.int .i64 (os.getD k 0 / 2 + 1)))) := BH.out.trans ((Tch.setCell (Tch.refl (fun j => j = g) wr) (p := ⟨g, k, none⟩) (fun _ => rfl) _).below BH.out.size (fun j e => by rw [e]; exact HGW.out))
                    generalize os.getD k 0 = x at *
                    have hdv : x.tdiv 2 = x / 2 := Int.tdiv_eq_ediv_of_nonneg (by omega)
                    clear hxx1 hxx2 hcellh hfzh OH BH
                    go_wp2_with fail
                    go_roundw
                    case rel => exact ⟨k + 1, by omega, by go_num, OH2, BH2⟩
                    case measure => simp [intOf]; omega
                  · have OH2 : Hid (Owns .i64 3 wr (.slice (some ⟨g, 0, none⟩) (p + 1) cp) (hvTo os (k + 1))) := by rw [hvTo_same os k hko hx]; exact OH
                    generalize os.getD k 0 = x at *
                    clear hxx1 hxx2 hcellh hfzh OH
                    go_wp2_with fail
                    first
                      | exact ⟨⟨k + 1, by omega, by go_num, OH2, BH⟩, by simp [intOf]; omega⟩
                      | (go_roundw
                         case rel => exact ⟨k + 1, by omega, by go_num, OH2, BH⟩
                         case measure => simp [intOf]; omega)
                · have hkn : ¬ (k : Int) < (p : Int) + 1 := by omega
                  have hkn2 : ¬ (k : Int) < ((p + 1 : Nat) : Int) := by omega
                  have hke : k = os.length := by rw [HOL.out]; omega
                  rw [hke] at OH
                  have HP2 : Hid (Pat cs (hvTo os os.length)) := HPAT.out.hvH
                  have HOL2 : Hid ((hvTo os os.length).length = p + 1) := by show _ = _; rw [hvTo_length]; exact HOL.out
                  have HK2 : Hid (∀ ds, ShS (wt (hvTo os os.length) (hvTo os os.length).length) ds → ShS (wt cs cs.length) ds) := fun ds h => by
                    rw [wt_hv HPAT.out.own] at h
                    exact HKK.out ds (shS_more HNA.out.1 HNA.out.2 h)
                  have HM2 : Hid (msr wr g (p + 1) = wsum (hvTo os os.length)) := by show _ = _; rw [← HOL2.out]; exact msr_owns OH.out
                  clear hke
                  go_wp2_with fail
                  exact ⟨⟨_, HP2, HOL2, OH, HK2, BH⟩, by rw [HM2.out, HMS.out]; exact HLT.out⟩
end Go.Proofs.Ytcmnhgefeffcpaa
