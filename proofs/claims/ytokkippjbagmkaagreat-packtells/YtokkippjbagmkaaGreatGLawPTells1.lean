import Derived.Test.YtokkippjbagmkaaGreatGSRefCrc
import Derived.StillTailTactics
set_option maxRecDepth 100000
/-
  PackTells, case 1 of 4.
-/
namespace Go.Proofs.YtokkippjbagmkaaGreat
open Go.RowKit Pl
set_option linter.unusedVariables false
set_option maxRecDepth 100000
set_option linter.unusedSimpArgs false

set_option maxHeartbeats 1000000 in
theorem packTells_a (a : Option Addr) (cap : Nat) (ys : List Int) (at_ : Int) (K L : Nat) (w : World) (h1 : Rd .u8 w (.slice a L cap) ys) (hyl : ys.length = L) (hL : L ≤ 65536) (hb : By ys) (hold : ∀ k, (Value.slice a L cap).ownBlock = some k → k < w.heap.size) (ha0 : 0 ≤ at_) (ha1 : at_ ≤ 9223372036854775807) (hK : K < 4294967296) :
    Calls Tryz.prog 7 #[.slice a L cap, .int .i64 at_, .int .u32 (K : Int)] w fun e w' => e = .returned (.bool true) ∧ Below w.heap.size w w' := by
  have R0 : Hid (Rd .u8 w (.slice a L cap) ys) := h1
  have HB : Hid (By ys) := hb
  have HO : Hid (∀ k, (Value.slice a L cap).ownBlock = some k → k < w.heap.size) := hold
  have HY : Hid (ys.length = L) := hyl
  clear h1 hb hold hyl
  have hLi : (L : Int) ≤ 65536 := by omega
  go_enter Tryz.func7, Tryz.ntmps7
  go_wp2_with fail
  refine (refPack_nil w).mono ?_
  rintro e w1 ⟨rv, rs, rfl, ho1, hb1, hf1⟩
  obtain ⟨ra, rc, hrv, hrc, hrm, hrest⟩ := ho1.rd
  clear hrest
  subst hrv
  have O1 : Hid (Owns .u8 5 w1 (.slice ra 0 rc) []) := owns_none ho1
  have B1 : Hid (Below w.heap.size w w1) := hb1
  have N1 : Hid (∀ k, (Value.slice ra 0 rc).ownBlock = some k → w.heap.size ≤ k) := fun k hk => hf1 k (by cases ra with | none => cases hk | some x => exact hk)
  have hrc2 : rc ≤ 9223372036854775807 := by unfold maxLen at hrm; omega
  obtain ⟨rl, hrl⟩ : ∃ rl, rs.length = rl := ⟨_, rfl⟩
  rw [hrl] at hrc ⊢
  clear ho1 hb1 hf1 hrl hrm
  have HL1 : Hid (([] : List Int).length + 1 ≤ 9223372036854775807) := by show _ ≤ _; simp
  have HL2 : Hid ((([] : List Int).length + 1) * 1 ≤ 140737488355328) := by show _ ≤ _; simp
  go_wp2_with (at_builtin; refine wpList_push w1 rfl (.tmp 32) (.tmp 33) 22 rfl 5 .u8 1 elem8 (.slice ra 0 rc) [] rfl O1.out 0 rfl HL1.out HL2.out ?_)
  intro v2 w2 ho2 hg2
  have O2 : Hid (Owns .u8 5 w2 v2 [0]) := ho2
  have B2 : Hid (Below w.heap.size w w2) := B1.out.trans (hg2.tch.below B1.out.size N1.out)
  clear ho2 hg2 O1 B1 N1 HL1 HL2
  go_wp2_with fail
  refine (refPutNum_ok v2 [0] (L : Int) w2 O2.out.rd (by simp) (by omega) (by omega)).mono ?_
  rintro e w3 ⟨v3, rfl, ho3, hg3⟩
  obtain ⟨pre, hpre0⟩ : ∃ pre, [0] ++ digits (L : Int) = pre := ⟨_, rfl⟩
  have hpre : Hid ([0] ++ digits (L : Int) = pre) := hpre0
  clear hpre0
  have hpl : pre.length ≤ 6 := by rw [← hpre.out]; have := digits_len (L : Int); simp; omega
  rw [hpre.out] at ho3
  have O3 : Hid (Owns .u8 5 w3 v3 pre) := ho3
  have B3 : Hid (Below w.heap.size w w3) := B2.out.trans (hg3.below.1.mono B2.out.size)
  have N3 : Hid (∀ k, v3.ownBlock = some k → w.heap.size ≤ k) := fun k hk => by have := hg3.below.2 k hk; have := B2.out.size; omega
  obtain ⟨a3, c3_, hv3, hc31, hc32, hrest⟩ := ho3.rd
  clear hrest
  obtain ⟨F, hF⟩ : ∃ F, pre.length = F := ⟨_, rfl⟩
  have HF : Hid (pre.length = F) := hF
  rw [hF] at hv3 hpl
  subst hv3
  have R3 : Hid (Rd .u8 w3 (.slice a L cap) ys) := R0.out.below B3.out
  have HL1 : Hid (pre.length + ys.length ≤ 9223372036854775807) := by show _ ≤ _; rw [HF.out, HY.out]; omega
  have HL2 : Hid ((pre.length + ys.length) * 1 ≤ 140737488355328) := by show _ ≤ _; rw [HF.out, HY.out]; omega
  clear ho3 hg3 O2 B2 hF hc31 hc32
  go_wp2_with (at_builtin; refine wpList_many w3 rfl (.tmp 44) (.tmp 45) 22 rfl 5 .u8 1 elem8 (.slice a3 F c3_) pre rfl O3.out (.slice a L cap) ys rfl R3.out HL1.out HL2.out ?_)
  intro v4 w4 ho4 hg4
  have O4 : Hid (Owns .u8 5 w4 v4 (pre ++ ys)) := ho4
  have B4 : Hid (Below w.heap.size w w4) := B3.out.trans (hg4.tch.below B3.out.size N3.out)
  have N4 : Hid (∀ k, v4.ownBlock = some k → w.heap.size ≤ k) := fun k hk => by
    rcases hg4.fresh k hk with e | e
    · exact N3.out k e
    · have := B3.out.size; omega
  clear ho4 hg4 O3 B3 N3 R3 HL1 HL2
  go_wp2_with fail
  refine (pack_any _ ys w4 (R0.out.below B4.out) HB.out (by rw [HY.out]; exact hL) (fun k hk => by have := HO.out k hk; have := B4.out.size; omega)).mono ?_
  rintro e w5 ⟨pv, out, rfl, hp, ho5, hb5, hf5⟩
  obtain ⟨hs1, hs2⟩ := packR_sum hp
  have O5 : Hid (Owns .u8 5 w5 v4 (pre ++ ys)) := O4.out.below hb5
  have B5 : Hid (Below w.heap.size w w5) := B4.out.trans (hb5.mono B4.out.size)
  have P5 : Hid (Rd .u8 w5 pv out) := ho5.rd
  have HS2 : Hid (out.drop (out.length - 4) = sumB (crc ys)) := hs2
  obtain ⟨pa, pc, hpv, hpc, hpm, hrest⟩ := ho5.rd
  clear hrest
  obtain ⟨m, hm⟩ : ∃ m, out.length = m := ⟨_, rfl⟩
  have HM : Hid (out.length = m) := hm
  rw [hm] at hpv hs1 HS2 hpc
  subst hpv
  have hm1 : m ≤ 9223372036854775807 := by unfold maxLen at hpm; omega
  have hm4 : ¬ (m : Int) < 4 := by omega
  clear ho5 hb5 hf5 hp hs2 hm O4 B4 hpm
  have HM4 : Hid (Value.int .i64 ((m : Int) - 4) = .int .i64 ((m - 4 : Nat) : Int)) := by show _ = _; congr 1; omega
  obtain ⟨a4, c4, hv4, hc41, hc42, hrest⟩ := O5.out.rd
  clear hrest
  have HX : Hid ((pre ++ ys).length = F + L) := by show _ = _; rw [List.length_append, HF.out, HY.out]
  rw [HX.out] at hv4 hc41
  subst hv4
  have HL1 : Hid ((pre ++ ys).length + (sumB (crc ys)).length ≤ 9223372036854775807) := by show _ ≤ _; rw [HX.out, sumB_length]; omega
  have HL2 : Hid (((pre ++ ys).length + (sumB (crc ys)).length) * 1 ≤ 140737488355328) := by show _ ≤ _; rw [HX.out, sumB_length]; omega
  have HSL : Hid (Rd .u8 w5 (sliced pa (m - 4) m pc 1) (sumB (crc ys))) := by
    have h0 := P5.out
    rw [← HM.out] at h0
    have h := rd_sliced h0 (out.length - 4) out.length (by omega) (Nat.le_refl _)
    rw [HM.out, HS2.out, List.take_of_length_le (by rw [sumB_length]; omega)] at h
    exact h
  have HSL2 : Hid (Rd .u8 w5 (.slice (pa.map (fun x => x.add (m - 4))) (m - (m - 4)) (pc - (m - 4))) (sumB (crc ys))) := by
    have h := HSL.out
    unfold sliced at h
    have e : ¬ pc = m - 4 := by omega
    simp [e] at h
    exact h
  go_wp2_with (at_builtin; refine wpList_many w5 rfl (.tmp 59) (.tmp 64) 22 rfl 5 .u8 1 elem8 (.slice a4 (F + L) c4) (pre ++ ys) rfl O5.out _ (sumB (crc ys)) rfl ?R HL1.out HL2.out ?_)
  case R => simp [Act.eval]; exact HSL2.out
  intro v6 w6 ho6 hg6
  replace ho6 : Owns .u8 5 w6 v6 (pre ++ ys ++ sumB (crc ys)) := by rw [List.append_assoc]; exact ho6
  have O6 : Hid (Owns .u8 5 w6 v6 (pre ++ ys ++ sumB (crc ys))) := ho6
  have B6 : Hid (Below w.heap.size w w6) := B5.out.trans (hg6.tch.below B5.out.size N4.out)
  have N6 : Hid (∀ k, v6.ownBlock = some k → w.heap.size ≤ k) := fun k hk => by
    rcases hg6.fresh k hk with e | e
    · exact N4.out k e
    · have := B5.out.size; omega
  obtain ⟨a6, c6, hv6, hc61, hc62, hrest⟩ := ho6.rd
  clear hrest
  have HZ : Hid ((pre ++ ys ++ sumB (crc ys)).length = F + L + 4) := by show _ = _; rw [List.length_append, HX.out, sumB_length]
  rw [HZ.out] at hv6 hc61
  subst hv6
  have HBF : Hid (∀ zs, By zs → By (pre ++ zs ++ sumB (crc ys))) := fun zs hz => by rw [← hpre.out]; exact (((by_one (by decide)).append (by_dig _ (by omega) (by omega))).append hz).append (by_sum _)
  have HU1 : Hid (unpS (pre ++ ys ++ sumB (crc ys)) (L : Int) = (0, ys)) := by
    show _ = _
    rw [← hpre.out, unp_raw HY.out hL (crc_le ys), if_pos rfl]
  clear ho6 hg6 O5 B5 N4 HSL HSL2 P5 HL1 HL2
  go_wp2_with fail
  refine (unpack_any _ _ (L : Int) w6 O6.out.rd (HBF.out ys HB.out) (by rw [HZ.out]; omega) O6.out.lt).mono ?_
  intro e w7 h7
  rw [HU1.out] at h7
  obtain ⟨bv, rfl, hn7, hb7⟩ := h7
  have O7 : Hid (Owns .u8 5 w7 (.slice a6 (F + L + 4) c6) (pre ++ ys ++ sumB (crc ys))) := O6.out.below hb7
  have B7 : Hid (Below w.heap.size w w7) := B6.out.trans (hb7.mono B6.out.size)
  have R7 : Hid (Rd .u8 w7 bv ys) := hn7.rd
  simp only
  clear hn7 hb7 O6 B6
  go_wp2_with fail
  refine (same_rd _ _ ys ys w7 R7.out (R0.out.below B7.out)).mono ?_
  rintro e w8 ⟨rfl, hb8⟩
  have hdec : decide (ys = ys) = true := by simp
  rw [hdec]
  have O8 : Hid (Owns .u8 5 w8 (.slice a6 (F + L + 4) c6) (pre ++ ys ++ sumB (crc ys))) := O7.out.below hb8
  have B8 : Hid (Below w.heap.size w w8) := B7.out.trans (hb8.mono B7.out.size)
  clear hdec hb8 O7 B7 R7
  obtain ⟨A, hA⟩ : ∃ A : Nat, at_ % (8 * (L : Int) + 1) = (A : Int) := ⟨(at_ % (8 * (L : Int) + 1)).toNat, by have := Int.emod_nonneg at_ (show (8 * (L : Int) + 1) ≠ 0 by omega); omega⟩
  have hA1 : A ≤ 8 * L := by have := Int.emod_lt_of_pos at_ (show 0 < (8 * (L : Int) + 1) by omega); omega
  have hmod : at_.tmod (8 * (L : Int) + 1) = (A : Int) := by rw [Int.tmod_eq_emod_of_nonneg ha0]; exact hA
  have hc62b : c6 ≤ 9223372036854775807 := by unfold maxLen at hc62; omega
  have ST : Hid (Bs ys ys A K L 0 false) := Bs.start A K L HY.out HB.out
  clear hc62
  go_wp2_with fail
  go_loopw [16, 17] (fun ch i wr => ∃ (n : Nat) (zs : List Int) (c : Bool), n ≤ 32 ∧ i = .int .i64 n ∧ ch = .bool c ∧ Hid (Bs ys zs A K L n c) ∧ Hid (Owns .u8 5 wr (.slice a6 (F + L + 4) c6) (pre ++ zs ++ sumB (crc ys))) ∧ Hid (Below w.heap.size w wr)) (fun _ i _ => 32 - (intOf i).toNat)
  case atStart => exact ⟨0, ys, false, Nat.zero_le _, rfl, rfl, ST, O8, B8⟩
  case round =>
    clear ST O8 B8
    obtain ⟨n, zs, c, hn, rfl, rfl, S5, O5, B5⟩ := hrel
    by_cases hlt : n < 32
    · have hmb := mask_bit K n hK (by omega)
      obtain ⟨I, hI⟩ : ∃ I, A + n = I := ⟨_, rfl⟩
      have hI1 : (A : Int) + (n : Int) = (I : Int) := by omega
      obtain ⟨q, hq⟩ : ∃ q, I / 8 = q := ⟨_, rfl⟩
      have hq1 : (I : Int) / 8 = (q : Int) := by omega
      by_cases hbit : K.testBit n = true
      · rw [if_pos hbit] at hmb
        by_cases hin : I < 8 * L
        · obtain ⟨r, hr⟩ : ∃ r, I % 8 = r := ⟨_, rfl⟩
          have hr1 : (I : Int) % 8 = (r : Int) := by omega
          have hqL : q < L := by omega
          have hqL1 : (q : Int) < (L : Int) := by omega
          have hzl : q < zs.length := by rw [S5.out.len]; omega
          have hfl : (pre ++ zs ++ sumB (crc ys)).length = F + L + 4 := by rw [List.length_append, List.length_append, HF.out, S5.out.len, sumB_length]
          obtain ⟨g, cp, hv, _, _, _, hcell, hfz⟩ := O5.out.shape (by rw [hfl]; omega)
          rw [hfl] at hv
          cases hv
          have cq := hcell (F + q) (by rw [hfl]; omega)
          have e1 := getD_mid2 pre zs (sumB (crc ys)) q hzl
          rw [HF.out] at e1
          rw [e1] at cq
          have fq := hfz (F + q)
          rw [bN_eq S5.out.by_] at cq
          have hz := bN_lt S5.out.by_ q
          have hr8 : r < 8 := by omega
          have hT1 : 2 ^ r < 256 := Nat.lt_of_lt_of_le (Nat.pow_lt_pow_right (by decide) hr8) (by decide)
          have hx := u8_xor_nat (bN zs q) (2 ^ r) hz hT1
          have S6 : Hid (Bs ys (zs.set q ((bN zs q ^^^ 2 ^ r : Nat) : Int)) A K L (n + 1) true) := S5.out.flip hbit (by omega) q r (by omega) (by omega)
          have O6 : Hid (Owns .u8 5 (wr.setCell ⟨g, F + q, none⟩ (.int .u8 ((bN zs q ^^^ 2 ^ r : Nat) : Int))) (.slice (some ⟨g, 0, none⟩) (F + L + 4) c6) (pre ++ zs.set q ((bN zs q ^^^ 2 ^ r : Nat) : Int) ++ sumB (crc ys))) := by
            have h := O5.out.set (F + q) ((bN zs q ^^^ 2 ^ r : Nat) : Int)
            have e2 := set_mid pre zs (sumB (crc ys)) q ((bN zs q ^^^ 2 ^ r : Nat) : Int) hzl
            rw [HF.out] at e2
            rw [e2] at h
            exact h
          have B6 : Hid (Below w.heap.size w (wr.setCell ⟨g, F + q, none⟩ (.int .u8 ((bN zs q ^^^ 2 ^ r : Nat) : Int)))) := B5.out.setCell (N6.out g rfl) _
          obtain ⟨Y, hY⟩ : ∃ Y, bN zs q ^^^ 2 ^ r = Y := ⟨_, rfl⟩
          rw [hY] at S6 O6 B6 hx
          generalize bN zs q = z at cq hz hx hY
          obtain ⟨T, hT⟩ : ∃ T, 2 ^ r = T := ⟨_, rfl⟩
          rw [hT] at hT1 hx
          have hT2 : (2 : Int) ^ r = (T : Int) := by rw [← hT, Int.natCast_pow]; rfl
          have hT3 : IntKind.u8.wrap (T : Int) = (T : Int) := by rw [IntKind.wrap_u8']; omega
          have hq2 : (I : Int).tdiv 8 = (q : Int) := by rw [Int.tdiv_eq_ediv_of_nonneg (by omega)]; exact hq1
          have hr2 : (I : Int).tmod 8 = (r : Int) := by rw [Int.tmod_eq_emod_of_nonneg (by omega)]; exact hr1
          have hw1 : IntKind.i64.wrap (q : Int) = (q : Int) := by rw [IntKind.wrap_i64]; omega
          have hw2 : IntKind.i64.wrap (r : Int) = (r : Int) := by rw [IntKind.wrap_i64]; omega
          obtain ⟨G, hG⟩ : ∃ G, F + q = G := ⟨_, rfl⟩
          rw [hG] at cq fq O6 B6
          have hFq : (F : Int) + (q : Int) = (G : Int) := by omega
          have hw3 : IntKind.i64.wrap ((F : Int) + (q : Int)) = (G : Int) := by rw [hFq, IntKind.wrap_i64]; omega
          have hw4 : IntKind.i64.wrap (G : Int) = (G : Int) := by rw [IntKind.wrap_i64]; omega
          have hGL : G < F + L + 4 := by omega
          have hGL1 : (G : Int) < (F : Int) + (L : Int) + 4 := by omega
          have hGL2 : (G : Int) < ((F + L + 4 : Nat) : Int) := by omega
          clear hcell hfz hY hT hI hr S5 O5 B5 hbit hq e1 hfl hzl hG
          go_wp2_with fail
          refine wp_region_still_tail 17 (by kernel_rfl) (by kernel_rfl) ?_
          simp only [List.take_succ_cons, List.take_zero, List.drop_succ_cons, List.drop_zero]
          repeat still_step
          refine wpStill_nil ?_
          go_wp2_with fail
          go_roundw
          case rel => exact ⟨n + 1, _, true, by omega, by go_num, rfl, S6, by first | exact O6 | exact O6.out.tch (S := fun _ => False) ⟨rfl, rfl, rfl, Nat.le_refl _, fun _ _ _ => rfl⟩ (fun _ _ e => e), B6.out.drew⟩
          case measure => simp [intOf]; omega
        · have hqL1 : ¬ (q : Int) < (L : Int) := by omega
          have S6 : Hid (Bs ys zs A K L (n + 1) c) := S5.out.skip (by rintro ⟨_, h⟩; omega)
          clear S5 hbit hq hI
          go_wp2_with fail
          go_roundw
          case rel => exact ⟨n + 1, zs, c, by omega, by go_num, rfl, S6, O5, B5⟩
          case measure => simp [intOf]; omega
      · have hbf : K.testBit n = false := by simpa using hbit
        rw [if_neg hbit] at hmb
        have S6 : Hid (Bs ys zs A K L (n + 1) c) := S5.out.skip (by rintro ⟨h, _⟩; exact hbit h)
        clear S5 hbit hbf hq hI
        go_wp2_with fail
        go_roundw
        case rel => exact ⟨n + 1, zs, c, by omega, by go_num, rfl, S6, O5, B5⟩
        case measure => simp [intOf]; omega
    · have hn32 : n = 32 := by omega
      rw [hn32] at S5
      have hnn : ¬ (n : Int) < 32 := by omega
      have hsd := S5.out.said HY.out HB.out hA1
      have HUZ : Hid (unpS (pre ++ zs ++ sumB (crc ys)) (L : Int) = if crc ys = crc zs then (0, zs) else (6, [])) := by
        show _ = _
        rw [← hpre.out]
        exact unp_raw S5.out.len hL (crc_le ys)
      have HZB : Hid (By (pre ++ zs ++ sumB (crc ys))) := HBF.out zs S5.out.by_
      have HZL : Hid ((pre ++ zs ++ sumB (crc ys)).length ≤ 140737488355328) := by show _ ≤ _; rw [List.length_append, List.length_append, HF.out, S5.out.len, sumB_length]; omega
      have hEc : ∃ E xs, (if crc ys = crc zs then ((0 : Int), zs) else (6, [])) = (E, xs) ∧ ((E == 6) == c) = true := by
        by_cases e : crc ys = crc zs
        · refine ⟨0, zs, by rw [if_pos e], ?_⟩
          rw [← hsd, e]; simp
        · refine ⟨6, [], by rw [if_neg e], ?_⟩
          have : (crc zs != crc ys) = true := by rw [bne_iff_ne]; exact fun h => e h.symm
          rw [← hsd, this]; rfl
      obtain ⟨E, xs, hE1, hE2⟩ := hEc
      rw [hE1] at HUZ
      clear hE1 hsd hlt S5
      go_wp2_with fail
      refine (unpack_any _ _ (L : Int) wr O5.out.rd HZB.out HZL.out O5.out.lt).mono ?_
      intro e w9 h9
      rw [HUZ.out] at h9
      obtain ⟨gv, rfl, _, hb9⟩ := h9
      have B9 : Hid (Below w.heap.size w w9) := B5.out.trans (hb9.mono B5.out.size)
      simp only
      clear hb9 B5 O5
      go_wp2_with fail
      refine (lives_anyP _).mono ?_
      rintro e wz ⟨rfl, hbz⟩
      go_wp2_with fail
      go_ret
      exact ⟨rfl, B9.out.trans (hbz.mono B9.out.size)⟩
end Go.Proofs.YtokkippjbagmkaaGreat

/-
  PackTells, case 2 of 4.
-/
namespace Go.Proofs.YtokkippjbagmkaaGreat
open Go.RowKit Pl
set_option linter.unusedVariables false
set_option maxRecDepth 100000
set_option linter.unusedSimpArgs false

set_option maxHeartbeats 1000000 in
theorem packTells_b (a : Option Addr) (cap : Nat) (ys : List Int) (at_ : Int) (K L : Nat) (w : World) (h1 : Rd .u8 w (.slice a L cap) ys) (hyl : ys.length = L) (hL : L ≤ 65536) (hb : By ys) (hold : ∀ k, (Value.slice a L cap).ownBlock = some k → k < w.heap.size) (ha0 : at_ < 0) (ha1 : -9223372036854775808 ≤ at_) (hK : K < 4294967296) :
    Calls Tryz.prog 7 #[.slice a L cap, .int .i64 at_, .int .u32 (K : Int)] w fun e w' => e = .returned (.bool true) ∧ Below w.heap.size w w' := by
  have R0 : Hid (Rd .u8 w (.slice a L cap) ys) := h1
  have HB : Hid (By ys) := hb
  have HO : Hid (∀ k, (Value.slice a L cap).ownBlock = some k → k < w.heap.size) := hold
  have HY : Hid (ys.length = L) := hyl
  clear h1 hb hold hyl
  have hLi : (L : Int) ≤ 65536 := by omega
  go_enter Tryz.func7, Tryz.ntmps7
  go_wp2_with fail
  refine (refPack_nil w).mono ?_
  rintro e w1 ⟨rv, rs, rfl, ho1, hb1, hf1⟩
  obtain ⟨ra, rc, hrv, hrc, hrm, hrest⟩ := ho1.rd
  clear hrest
  subst hrv
  have O1 : Hid (Owns .u8 5 w1 (.slice ra 0 rc) []) := owns_none ho1
  have B1 : Hid (Below w.heap.size w w1) := hb1
  have N1 : Hid (∀ k, (Value.slice ra 0 rc).ownBlock = some k → w.heap.size ≤ k) := fun k hk => hf1 k (by cases ra with | none => cases hk | some x => exact hk)
  have hrc2 : rc ≤ 9223372036854775807 := by unfold maxLen at hrm; omega
  obtain ⟨rl, hrl⟩ : ∃ rl, rs.length = rl := ⟨_, rfl⟩
  rw [hrl] at hrc ⊢
  clear ho1 hb1 hf1 hrl hrm
  have HL1 : Hid (([] : List Int).length + 1 ≤ 9223372036854775807) := by show _ ≤ _; simp
  have HL2 : Hid ((([] : List Int).length + 1) * 1 ≤ 140737488355328) := by show _ ≤ _; simp
  go_wp2_with (at_builtin; refine wpList_push w1 rfl (.tmp 32) (.tmp 33) 22 rfl 5 .u8 1 elem8 (.slice ra 0 rc) [] rfl O1.out 0 rfl HL1.out HL2.out ?_)
  intro v2 w2 ho2 hg2
  have O2 : Hid (Owns .u8 5 w2 v2 [0]) := ho2
  have B2 : Hid (Below w.heap.size w w2) := B1.out.trans (hg2.tch.below B1.out.size N1.out)
  clear ho2 hg2 O1 B1 N1 HL1 HL2
  go_wp2_with fail
  refine (refPutNum_ok v2 [0] (L : Int) w2 O2.out.rd (by simp) (by omega) (by omega)).mono ?_
  rintro e w3 ⟨v3, rfl, ho3, hg3⟩
  obtain ⟨pre, hpre0⟩ : ∃ pre, [0] ++ digits (L : Int) = pre := ⟨_, rfl⟩
  have hpre : Hid ([0] ++ digits (L : Int) = pre) := hpre0
  clear hpre0
  have hpl : pre.length ≤ 6 := by rw [← hpre.out]; have := digits_len (L : Int); simp; omega
  rw [hpre.out] at ho3
  have O3 : Hid (Owns .u8 5 w3 v3 pre) := ho3
  have B3 : Hid (Below w.heap.size w w3) := B2.out.trans (hg3.below.1.mono B2.out.size)
  have N3 : Hid (∀ k, v3.ownBlock = some k → w.heap.size ≤ k) := fun k hk => by have := hg3.below.2 k hk; have := B2.out.size; omega
  obtain ⟨a3, c3_, hv3, hc31, hc32, hrest⟩ := ho3.rd
  clear hrest
  obtain ⟨F, hF⟩ : ∃ F, pre.length = F := ⟨_, rfl⟩
  have HF : Hid (pre.length = F) := hF
  rw [hF] at hv3 hpl
  subst hv3
  have R3 : Hid (Rd .u8 w3 (.slice a L cap) ys) := R0.out.below B3.out
  have HL1 : Hid (pre.length + ys.length ≤ 9223372036854775807) := by show _ ≤ _; rw [HF.out, HY.out]; omega
  have HL2 : Hid ((pre.length + ys.length) * 1 ≤ 140737488355328) := by show _ ≤ _; rw [HF.out, HY.out]; omega
  clear ho3 hg3 O2 B2 hF hc31 hc32
  go_wp2_with (at_builtin; refine wpList_many w3 rfl (.tmp 44) (.tmp 45) 22 rfl 5 .u8 1 elem8 (.slice a3 F c3_) pre rfl O3.out (.slice a L cap) ys rfl R3.out HL1.out HL2.out ?_)
  intro v4 w4 ho4 hg4
  have O4 : Hid (Owns .u8 5 w4 v4 (pre ++ ys)) := ho4
  have B4 : Hid (Below w.heap.size w w4) := B3.out.trans (hg4.tch.below B3.out.size N3.out)
  have N4 : Hid (∀ k, v4.ownBlock = some k → w.heap.size ≤ k) := fun k hk => by
    rcases hg4.fresh k hk with e | e
    · exact N3.out k e
    · have := B3.out.size; omega
  clear ho4 hg4 O3 B3 N3 R3 HL1 HL2
  go_wp2_with fail
  refine (pack_any _ ys w4 (R0.out.below B4.out) HB.out (by rw [HY.out]; exact hL) (fun k hk => by have := HO.out k hk; have := B4.out.size; omega)).mono ?_
  rintro e w5 ⟨pv, out, rfl, hp, ho5, hb5, hf5⟩
  obtain ⟨hs1, hs2⟩ := packR_sum hp
  have O5 : Hid (Owns .u8 5 w5 v4 (pre ++ ys)) := O4.out.below hb5
  have B5 : Hid (Below w.heap.size w w5) := B4.out.trans (hb5.mono B4.out.size)
  have P5 : Hid (Rd .u8 w5 pv out) := ho5.rd
  have HS2 : Hid (out.drop (out.length - 4) = sumB (crc ys)) := hs2
  obtain ⟨pa, pc, hpv, hpc, hpm, hrest⟩ := ho5.rd
  clear hrest
  obtain ⟨m, hm⟩ : ∃ m, out.length = m := ⟨_, rfl⟩
  have HM : Hid (out.length = m) := hm
  rw [hm] at hpv hs1 HS2 hpc
  subst hpv
  have hm1 : m ≤ 9223372036854775807 := by unfold maxLen at hpm; omega
  have hm4 : ¬ (m : Int) < 4 := by omega
  clear ho5 hb5 hf5 hp hs2 hm O4 B4 hpm
  have HM4 : Hid (Value.int .i64 ((m : Int) - 4) = .int .i64 ((m - 4 : Nat) : Int)) := by show _ = _; congr 1; omega
  obtain ⟨a4, c4, hv4, hc41, hc42, hrest⟩ := O5.out.rd
  clear hrest
  have HX : Hid ((pre ++ ys).length = F + L) := by show _ = _; rw [List.length_append, HF.out, HY.out]
  rw [HX.out] at hv4 hc41
  subst hv4
  have HL1 : Hid ((pre ++ ys).length + (sumB (crc ys)).length ≤ 9223372036854775807) := by show _ ≤ _; rw [HX.out, sumB_length]; omega
  have HL2 : Hid (((pre ++ ys).length + (sumB (crc ys)).length) * 1 ≤ 140737488355328) := by show _ ≤ _; rw [HX.out, sumB_length]; omega
  have HSL : Hid (Rd .u8 w5 (sliced pa (m - 4) m pc 1) (sumB (crc ys))) := by
    have h0 := P5.out
    rw [← HM.out] at h0
    have h := rd_sliced h0 (out.length - 4) out.length (by omega) (Nat.le_refl _)
    rw [HM.out, HS2.out, List.take_of_length_le (by rw [sumB_length]; omega)] at h
    exact h
  have HSL2 : Hid (Rd .u8 w5 (.slice (pa.map (fun x => x.add (m - 4))) (m - (m - 4)) (pc - (m - 4))) (sumB (crc ys))) := by
    have h := HSL.out
    unfold sliced at h
    have e : ¬ pc = m - 4 := by omega
    simp [e] at h
    exact h
  go_wp2_with (at_builtin; refine wpList_many w5 rfl (.tmp 59) (.tmp 64) 22 rfl 5 .u8 1 elem8 (.slice a4 (F + L) c4) (pre ++ ys) rfl O5.out _ (sumB (crc ys)) rfl ?R HL1.out HL2.out ?_)
  case R => simp [Act.eval]; exact HSL2.out
  intro v6 w6 ho6 hg6
  replace ho6 : Owns .u8 5 w6 v6 (pre ++ ys ++ sumB (crc ys)) := by rw [List.append_assoc]; exact ho6
  have O6 : Hid (Owns .u8 5 w6 v6 (pre ++ ys ++ sumB (crc ys))) := ho6
  have B6 : Hid (Below w.heap.size w w6) := B5.out.trans (hg6.tch.below B5.out.size N4.out)
  have N6 : Hid (∀ k, v6.ownBlock = some k → w.heap.size ≤ k) := fun k hk => by
    rcases hg6.fresh k hk with e | e
    · exact N4.out k e
    · have := B5.out.size; omega
  obtain ⟨a6, c6, hv6, hc61, hc62, hrest⟩ := ho6.rd
  clear hrest
  have HZ : Hid ((pre ++ ys ++ sumB (crc ys)).length = F + L + 4) := by show _ = _; rw [List.length_append, HX.out, sumB_length]
  rw [HZ.out] at hv6 hc61
  subst hv6
  have HBF : Hid (∀ zs, By zs → By (pre ++ zs ++ sumB (crc ys))) := fun zs hz => by rw [← hpre.out]; exact (((by_one (by decide)).append (by_dig _ (by omega) (by omega))).append hz).append (by_sum _)
  have HU1 : Hid (unpS (pre ++ ys ++ sumB (crc ys)) (L : Int) = (0, ys)) := by
    show _ = _
    rw [← hpre.out, unp_raw HY.out hL (crc_le ys), if_pos rfl]
  clear ho6 hg6 O5 B5 N4 HSL HSL2 P5 HL1 HL2
  go_wp2_with fail
  refine (unpack_any _ _ (L : Int) w6 O6.out.rd (HBF.out ys HB.out) (by rw [HZ.out]; omega) O6.out.lt).mono ?_
  intro e w7 h7
  rw [HU1.out] at h7
  obtain ⟨bv, rfl, hn7, hb7⟩ := h7
  have O7 : Hid (Owns .u8 5 w7 (.slice a6 (F + L + 4) c6) (pre ++ ys ++ sumB (crc ys))) := O6.out.below hb7
  have B7 : Hid (Below w.heap.size w w7) := B6.out.trans (hb7.mono B6.out.size)
  have R7 : Hid (Rd .u8 w7 bv ys) := hn7.rd
  simp only
  clear hn7 hb7 O6 B6
  go_wp2_with fail
  refine (same_rd _ _ ys ys w7 R7.out (R0.out.below B7.out)).mono ?_
  rintro e w8 ⟨rfl, hb8⟩
  have hdec : decide (ys = ys) = true := by simp
  rw [hdec]
  have O8 : Hid (Owns .u8 5 w8 (.slice a6 (F + L + 4) c6) (pre ++ ys ++ sumB (crc ys))) := O7.out.below hb8
  have B8 : Hid (Below w.heap.size w w8) := B7.out.trans (hb8.mono B7.out.size)
  clear hdec hb8 O7 B7 R7
  obtain ⟨P, hn1⟩ : ∃ P : Int, -(at_ + 1) = P := ⟨_, rfl⟩
  have hP1 : 0 ≤ P := by omega
  have hP2 : P ≤ 9223372036854775807 := by omega
  obtain ⟨A, hA⟩ : ∃ A : Nat, P % (8 * (L : Int) + 1) = (A : Int) := ⟨(P % (8 * (L : Int) + 1)).toNat, by have := Int.emod_nonneg P (show (8 * (L : Int) + 1) ≠ 0 by omega); omega⟩
  have hA1 : A ≤ 8 * L := by have := Int.emod_lt_of_pos P (show 0 < (8 * (L : Int) + 1) by omega); omega
  have hmod : P.tmod (8 * (L : Int) + 1) = (A : Int) := by rw [Int.tmod_eq_emod_of_nonneg hP1]; exact hA
  have hc62b : c6 ≤ 9223372036854775807 := by unfold maxLen at hc62; omega
  have ST : Hid (Bs ys ys A K L 0 false) := Bs.start A K L HY.out HB.out
  clear hc62
  go_wp2_with fail
  go_loopw [16, 17] (fun ch i wr => ∃ (n : Nat) (zs : List Int) (c : Bool), n ≤ 32 ∧ i = .int .i64 n ∧ ch = .bool c ∧ Hid (Bs ys zs A K L n c) ∧ Hid (Owns .u8 5 wr (.slice a6 (F + L + 4) c6) (pre ++ zs ++ sumB (crc ys))) ∧ Hid (Below w.heap.size w wr)) (fun _ i _ => 32 - (intOf i).toNat)
  case atStart => exact ⟨0, ys, false, Nat.zero_le _, rfl, rfl, ST, O8, B8⟩
  case round =>
    clear ST O8 B8
    obtain ⟨n, zs, c, hn, rfl, rfl, S5, O5, B5⟩ := hrel
    by_cases hlt : n < 32
    · have hmb := mask_bit K n hK (by omega)
      obtain ⟨I, hI⟩ : ∃ I, A + n = I := ⟨_, rfl⟩
      have hI1 : (A : Int) + (n : Int) = (I : Int) := by omega
      obtain ⟨q, hq⟩ : ∃ q, I / 8 = q := ⟨_, rfl⟩
      have hq1 : (I : Int) / 8 = (q : Int) := by omega
      by_cases hbit : K.testBit n = true
      · rw [if_pos hbit] at hmb
        by_cases hin : I < 8 * L
        · obtain ⟨r, hr⟩ : ∃ r, I % 8 = r := ⟨_, rfl⟩
          have hr1 : (I : Int) % 8 = (r : Int) := by omega
          have hqL : q < L := by omega
          have hqL1 : (q : Int) < (L : Int) := by omega
          have hzl : q < zs.length := by rw [S5.out.len]; omega
          have hfl : (pre ++ zs ++ sumB (crc ys)).length = F + L + 4 := by rw [List.length_append, List.length_append, HF.out, S5.out.len, sumB_length]
          obtain ⟨g, cp, hv, _, _, _, hcell, hfz⟩ := O5.out.shape (by rw [hfl]; omega)
          rw [hfl] at hv
          cases hv
          have cq := hcell (F + q) (by rw [hfl]; omega)
          have e1 := getD_mid2 pre zs (sumB (crc ys)) q hzl
          rw [HF.out] at e1
          rw [e1] at cq
          have fq := hfz (F + q)
          rw [bN_eq S5.out.by_] at cq
          have hz := bN_lt S5.out.by_ q
          have hr8 : r < 8 := by omega
          have hT1 : 2 ^ r < 256 := Nat.lt_of_lt_of_le (Nat.pow_lt_pow_right (by decide) hr8) (by decide)
          have hx := u8_xor_nat (bN zs q) (2 ^ r) hz hT1
          have S6 : Hid (Bs ys (zs.set q ((bN zs q ^^^ 2 ^ r : Nat) : Int)) A K L (n + 1) true) := S5.out.flip hbit (by omega) q r (by omega) (by omega)
          have O6 : Hid (Owns .u8 5 (wr.setCell ⟨g, F + q, none⟩ (.int .u8 ((bN zs q ^^^ 2 ^ r : Nat) : Int))) (.slice (some ⟨g, 0, none⟩) (F + L + 4) c6) (pre ++ zs.set q ((bN zs q ^^^ 2 ^ r : Nat) : Int) ++ sumB (crc ys))) := by
            have h := O5.out.set (F + q) ((bN zs q ^^^ 2 ^ r : Nat) : Int)
            have e2 := set_mid pre zs (sumB (crc ys)) q ((bN zs q ^^^ 2 ^ r : Nat) : Int) hzl
            rw [HF.out] at e2
            rw [e2] at h
            exact h
          have B6 : Hid (Below w.heap.size w (wr.setCell ⟨g, F + q, none⟩ (.int .u8 ((bN zs q ^^^ 2 ^ r : Nat) : Int)))) := B5.out.setCell (N6.out g rfl) _
          obtain ⟨Y, hY⟩ : ∃ Y, bN zs q ^^^ 2 ^ r = Y := ⟨_, rfl⟩
          rw [hY] at S6 O6 B6 hx
          generalize bN zs q = z at cq hz hx hY
          obtain ⟨T, hT⟩ : ∃ T, 2 ^ r = T := ⟨_, rfl⟩
          rw [hT] at hT1 hx
          have hT2 : (2 : Int) ^ r = (T : Int) := by rw [← hT, Int.natCast_pow]; rfl
          have hT3 : IntKind.u8.wrap (T : Int) = (T : Int) := by rw [IntKind.wrap_u8']; omega
          have hq2 : (I : Int).tdiv 8 = (q : Int) := by rw [Int.tdiv_eq_ediv_of_nonneg (by omega)]; exact hq1
          have hr2 : (I : Int).tmod 8 = (r : Int) := by rw [Int.tmod_eq_emod_of_nonneg (by omega)]; exact hr1
          have hw1 : IntKind.i64.wrap (q : Int) = (q : Int) := by rw [IntKind.wrap_i64]; omega
          have hw2 : IntKind.i64.wrap (r : Int) = (r : Int) := by rw [IntKind.wrap_i64]; omega
          obtain ⟨G, hG⟩ : ∃ G, F + q = G := ⟨_, rfl⟩
          rw [hG] at cq fq O6 B6
          have hFq : (F : Int) + (q : Int) = (G : Int) := by omega
          have hw3 : IntKind.i64.wrap ((F : Int) + (q : Int)) = (G : Int) := by rw [hFq, IntKind.wrap_i64]; omega
          have hw4 : IntKind.i64.wrap (G : Int) = (G : Int) := by rw [IntKind.wrap_i64]; omega
          have hGL : G < F + L + 4 := by omega
          have hGL1 : (G : Int) < (F : Int) + (L : Int) + 4 := by omega
          have hGL2 : (G : Int) < ((F + L + 4 : Nat) : Int) := by omega
          clear hcell hfz hY hT hI hr S5 O5 B5 hbit hq e1 hfl hzl hG
          go_wp2_with fail
          refine wp_region_still_tail 17 (by kernel_rfl) (by kernel_rfl) ?_
          simp only [List.take_succ_cons, List.take_zero, List.drop_succ_cons, List.drop_zero]
          repeat still_step
          refine wpStill_nil ?_
          go_wp2_with fail
          go_roundw
          case rel => exact ⟨n + 1, _, true, by omega, by go_num, rfl, S6, by first | exact O6 | exact O6.out.tch (S := fun _ => False) ⟨rfl, rfl, rfl, Nat.le_refl _, fun _ _ _ => rfl⟩ (fun _ _ e => e), B6.out.drew⟩
          case measure => simp [intOf]; omega
        · have hqL1 : ¬ (q : Int) < (L : Int) := by omega
          have S6 : Hid (Bs ys zs A K L (n + 1) c) := S5.out.skip (by rintro ⟨_, h⟩; omega)
          clear S5 hbit hq hI
          go_wp2_with fail
          go_roundw
          case rel => exact ⟨n + 1, zs, c, by omega, by go_num, rfl, S6, O5, B5⟩
          case measure => simp [intOf]; omega
      · have hbf : K.testBit n = false := by simpa using hbit
        rw [if_neg hbit] at hmb
        have S6 : Hid (Bs ys zs A K L (n + 1) c) := S5.out.skip (by rintro ⟨h, _⟩; exact hbit h)
        clear S5 hbit hbf hq hI
        go_wp2_with fail
        go_roundw
        case rel => exact ⟨n + 1, zs, c, by omega, by go_num, rfl, S6, O5, B5⟩
        case measure => simp [intOf]; omega
    · have hn32 : n = 32 := by omega
      rw [hn32] at S5
      have hnn : ¬ (n : Int) < 32 := by omega
      have hsd := S5.out.said HY.out HB.out hA1
      have HUZ : Hid (unpS (pre ++ zs ++ sumB (crc ys)) (L : Int) = if crc ys = crc zs then (0, zs) else (6, [])) := by
        show _ = _
        rw [← hpre.out]
        exact unp_raw S5.out.len hL (crc_le ys)
      have HZB : Hid (By (pre ++ zs ++ sumB (crc ys))) := HBF.out zs S5.out.by_
      have HZL : Hid ((pre ++ zs ++ sumB (crc ys)).length ≤ 140737488355328) := by show _ ≤ _; rw [List.length_append, List.length_append, HF.out, S5.out.len, sumB_length]; omega
      have hEc : ∃ E xs, (if crc ys = crc zs then ((0 : Int), zs) else (6, [])) = (E, xs) ∧ ((E == 6) == c) = true := by
        by_cases e : crc ys = crc zs
        · refine ⟨0, zs, by rw [if_pos e], ?_⟩
          rw [← hsd, e]; simp
        · refine ⟨6, [], by rw [if_neg e], ?_⟩
          have : (crc zs != crc ys) = true := by rw [bne_iff_ne]; exact fun h => e h.symm
          rw [← hsd, this]; rfl
      obtain ⟨E, xs, hE1, hE2⟩ := hEc
      rw [hE1] at HUZ
      clear hE1 hsd hlt S5
      go_wp2_with fail
      refine (unpack_any _ _ (L : Int) wr O5.out.rd HZB.out HZL.out O5.out.lt).mono ?_
      intro e w9 h9
      rw [HUZ.out] at h9
      obtain ⟨gv, rfl, _, hb9⟩ := h9
      have B9 : Hid (Below w.heap.size w w9) := B5.out.trans (hb9.mono B5.out.size)
      simp only
      clear hb9 B5 O5
      go_wp2_with fail
      refine (lives_anyP _).mono ?_
      rintro e wz ⟨rfl, hbz⟩
      go_wp2_with fail
      go_ret
      exact ⟨rfl, B9.out.trans (hbz.mono B9.out.size)⟩
end Go.Proofs.YtokkippjbagmkaaGreat

/-
  PackTells, case 3 of 4.
-/
namespace Go.Proofs.YtokkippjbagmkaaGreat
open Go.RowKit Pl
set_option linter.unusedVariables false
set_option maxRecDepth 100000
set_option linter.unusedSimpArgs false

set_option maxHeartbeats 1000000 in
theorem packTells_c (a : Option Addr) (cap : Nat) (ys : List Int) (at_ : Int) (K n0 : Nat) (w : World) (h1 : Rd .u8 w (.slice a 65536 cap) ys) (hyl : ys.length = 65536) (hn0 : 65536 < n0) (hn1c : n0 ≤ cap) (hcm : cap ≤ maxLen) (hb : By ys) (hold : ∀ k, (Value.slice a 65536 cap).ownBlock = some k → k < w.heap.size) (ha0 : 0 ≤ at_) (ha1 : at_ ≤ 9223372036854775807) (hK : K < 4294967296) :
    Calls Tryz.prog 7 #[.slice a n0 cap, .int .i64 at_, .int .u32 (K : Int)] w fun e w' => e = .returned (.bool true) ∧ Below w.heap.size w w' := by
  have R0 : Hid (Rd .u8 w (.slice a 65536 cap) ys) := h1
  have HB : Hid (By ys) := hb
  have HO : Hid (∀ k, (Value.slice a 65536 cap).ownBlock = some k → k < w.heap.size) := hold
  have HY : Hid (ys.length = 65536) := hyl
  clear h1 hb hold hyl
  have hbI : (65536 : Int) < (n0 : Int) := by omega
  have hcap : 65536 ≤ cap := by omega
  go_enter Tryz.func7, Tryz.ntmps7
  go_wp2_with fail
  obtain ⟨L, hLe⟩ : ∃ L, 65536 = L := ⟨_, rfl⟩
  rw [hLe] at R0 HO HY ⊢
  have hL : L ≤ 65536 := by omega
  have hLi : (L : Int) ≤ 65536 := by omega
  have hLc : L ≤ cap := by omega
  clear hLe hbI hcap hn0 hn1c
  refine (refPack_nil w).mono ?_
  rintro e w1 ⟨rv, rs, rfl, ho1, hb1, hf1⟩
  obtain ⟨ra, rc, hrv, hrc, hrm, hrest⟩ := ho1.rd
  clear hrest
  subst hrv
  have O1 : Hid (Owns .u8 5 w1 (.slice ra 0 rc) []) := owns_none ho1
  have B1 : Hid (Below w.heap.size w w1) := hb1
  have N1 : Hid (∀ k, (Value.slice ra 0 rc).ownBlock = some k → w.heap.size ≤ k) := fun k hk => hf1 k (by cases ra with | none => cases hk | some x => exact hk)
  have hrc2 : rc ≤ 9223372036854775807 := by unfold maxLen at hrm; omega
  obtain ⟨rl, hrl⟩ : ∃ rl, rs.length = rl := ⟨_, rfl⟩
  rw [hrl] at hrc ⊢
  clear ho1 hb1 hf1 hrl hrm
  have HL1 : Hid (([] : List Int).length + 1 ≤ 9223372036854775807) := by show _ ≤ _; simp
  have HL2 : Hid ((([] : List Int).length + 1) * 1 ≤ 140737488355328) := by show _ ≤ _; simp
  go_wp2_with (at_builtin; refine wpList_push w1 rfl (.tmp 32) (.tmp 33) 22 rfl 5 .u8 1 elem8 (.slice ra 0 rc) [] rfl O1.out 0 rfl HL1.out HL2.out ?_)
  intro v2 w2 ho2 hg2
  have O2 : Hid (Owns .u8 5 w2 v2 [0]) := ho2
  have B2 : Hid (Below w.heap.size w w2) := B1.out.trans (hg2.tch.below B1.out.size N1.out)
  clear ho2 hg2 O1 B1 N1 HL1 HL2
  go_wp2_with fail
  refine (refPutNum_ok v2 [0] (L : Int) w2 O2.out.rd (by simp) (by omega) (by omega)).mono ?_
  rintro e w3 ⟨v3, rfl, ho3, hg3⟩
  obtain ⟨pre, hpre0⟩ : ∃ pre, [0] ++ digits (L : Int) = pre := ⟨_, rfl⟩
  have hpre : Hid ([0] ++ digits (L : Int) = pre) := hpre0
  clear hpre0
  have hpl : pre.length ≤ 6 := by rw [← hpre.out]; have := digits_len (L : Int); simp; omega
  rw [hpre.out] at ho3
  have O3 : Hid (Owns .u8 5 w3 v3 pre) := ho3
  have B3 : Hid (Below w.heap.size w w3) := B2.out.trans (hg3.below.1.mono B2.out.size)
  have N3 : Hid (∀ k, v3.ownBlock = some k → w.heap.size ≤ k) := fun k hk => by have := hg3.below.2 k hk; have := B2.out.size; omega
  obtain ⟨a3, c3_, hv3, hc31, hc32, hrest⟩ := ho3.rd
  clear hrest
  obtain ⟨F, hF⟩ : ∃ F, pre.length = F := ⟨_, rfl⟩
  have HF : Hid (pre.length = F) := hF
  rw [hF] at hv3 hpl
  subst hv3
  have R3 : Hid (Rd .u8 w3 (.slice a L cap) ys) := R0.out.below B3.out
  have HL1 : Hid (pre.length + ys.length ≤ 9223372036854775807) := by show _ ≤ _; rw [HF.out, HY.out]; omega
  have HL2 : Hid ((pre.length + ys.length) * 1 ≤ 140737488355328) := by show _ ≤ _; rw [HF.out, HY.out]; omega
  clear ho3 hg3 O2 B2 hF hc31 hc32
  go_wp2_with (at_builtin; refine wpList_many w3 rfl (.tmp 44) (.tmp 45) 22 rfl 5 .u8 1 elem8 (.slice a3 F c3_) pre rfl O3.out (.slice a L cap) ys rfl R3.out HL1.out HL2.out ?_)
  intro v4 w4 ho4 hg4
  have O4 : Hid (Owns .u8 5 w4 v4 (pre ++ ys)) := ho4
  have B4 : Hid (Below w.heap.size w w4) := B3.out.trans (hg4.tch.below B3.out.size N3.out)
  have N4 : Hid (∀ k, v4.ownBlock = some k → w.heap.size ≤ k) := fun k hk => by
    rcases hg4.fresh k hk with e | e
    · exact N3.out k e
    · have := B3.out.size; omega
  clear ho4 hg4 O3 B3 N3 R3 HL1 HL2
  go_wp2_with fail
  refine (pack_any _ ys w4 (R0.out.below B4.out) HB.out (by rw [HY.out]; exact hL) (fun k hk => by have := HO.out k hk; have := B4.out.size; omega)).mono ?_
  rintro e w5 ⟨pv, out, rfl, hp, ho5, hb5, hf5⟩
  obtain ⟨hs1, hs2⟩ := packR_sum hp
  have O5 : Hid (Owns .u8 5 w5 v4 (pre ++ ys)) := O4.out.below hb5
  have B5 : Hid (Below w.heap.size w w5) := B4.out.trans (hb5.mono B4.out.size)
  have P5 : Hid (Rd .u8 w5 pv out) := ho5.rd
  have HS2 : Hid (out.drop (out.length - 4) = sumB (crc ys)) := hs2
  obtain ⟨pa, pc, hpv, hpc, hpm, hrest⟩ := ho5.rd
  clear hrest
  obtain ⟨m, hm⟩ : ∃ m, out.length = m := ⟨_, rfl⟩
  have HM : Hid (out.length = m) := hm
  rw [hm] at hpv hs1 HS2 hpc
  subst hpv
  have hm1 : m ≤ 9223372036854775807 := by unfold maxLen at hpm; omega
  have hm4 : ¬ (m : Int) < 4 := by omega
  clear ho5 hb5 hf5 hp hs2 hm O4 B4 hpm
  have HM4 : Hid (Value.int .i64 ((m : Int) - 4) = .int .i64 ((m - 4 : Nat) : Int)) := by show _ = _; congr 1; omega
  obtain ⟨a4, c4, hv4, hc41, hc42, hrest⟩ := O5.out.rd
  clear hrest
  have HX : Hid ((pre ++ ys).length = F + L) := by show _ = _; rw [List.length_append, HF.out, HY.out]
  rw [HX.out] at hv4 hc41
  subst hv4
  have HL1 : Hid ((pre ++ ys).length + (sumB (crc ys)).length ≤ 9223372036854775807) := by show _ ≤ _; rw [HX.out, sumB_length]; omega
  have HL2 : Hid (((pre ++ ys).length + (sumB (crc ys)).length) * 1 ≤ 140737488355328) := by show _ ≤ _; rw [HX.out, sumB_length]; omega
  have HSL : Hid (Rd .u8 w5 (sliced pa (m - 4) m pc 1) (sumB (crc ys))) := by
    have h0 := P5.out
    rw [← HM.out] at h0
    have h := rd_sliced h0 (out.length - 4) out.length (by omega) (Nat.le_refl _)
    rw [HM.out, HS2.out, List.take_of_length_le (by rw [sumB_length]; omega)] at h
    exact h
  have HSL2 : Hid (Rd .u8 w5 (.slice (pa.map (fun x => x.add (m - 4))) (m - (m - 4)) (pc - (m - 4))) (sumB (crc ys))) := by
    have h := HSL.out
    unfold sliced at h
    have e : ¬ pc = m - 4 := by omega
    simp [e] at h
    exact h
  go_wp2_with (at_builtin; refine wpList_many w5 rfl (.tmp 59) (.tmp 64) 22 rfl 5 .u8 1 elem8 (.slice a4 (F + L) c4) (pre ++ ys) rfl O5.out _ (sumB (crc ys)) rfl ?R HL1.out HL2.out ?_)
  case R => simp [Act.eval]; exact HSL2.out
  intro v6 w6 ho6 hg6
  replace ho6 : Owns .u8 5 w6 v6 (pre ++ ys ++ sumB (crc ys)) := by rw [List.append_assoc]; exact ho6
  have O6 : Hid (Owns .u8 5 w6 v6 (pre ++ ys ++ sumB (crc ys))) := ho6
  have B6 : Hid (Below w.heap.size w w6) := B5.out.trans (hg6.tch.below B5.out.size N4.out)
  have N6 : Hid (∀ k, v6.ownBlock = some k → w.heap.size ≤ k) := fun k hk => by
    rcases hg6.fresh k hk with e | e
    · exact N4.out k e
    · have := B5.out.size; omega
  obtain ⟨a6, c6, hv6, hc61, hc62, hrest⟩ := ho6.rd
  clear hrest
  have HZ : Hid ((pre ++ ys ++ sumB (crc ys)).length = F + L + 4) := by show _ = _; rw [List.length_append, HX.out, sumB_length]
  rw [HZ.out] at hv6 hc61
  subst hv6
  have HBF : Hid (∀ zs, By zs → By (pre ++ zs ++ sumB (crc ys))) := fun zs hz => by rw [← hpre.out]; exact (((by_one (by decide)).append (by_dig _ (by omega) (by omega))).append hz).append (by_sum _)
  have HU1 : Hid (unpS (pre ++ ys ++ sumB (crc ys)) (L : Int) = (0, ys)) := by
    show _ = _
    rw [← hpre.out, unp_raw HY.out hL (crc_le ys), if_pos rfl]
  clear ho6 hg6 O5 B5 N4 HSL HSL2 P5 HL1 HL2
  go_wp2_with fail
  refine (unpack_any _ _ (L : Int) w6 O6.out.rd (HBF.out ys HB.out) (by rw [HZ.out]; omega) O6.out.lt).mono ?_
  intro e w7 h7
  rw [HU1.out] at h7
  obtain ⟨bv, rfl, hn7, hb7⟩ := h7
  have O7 : Hid (Owns .u8 5 w7 (.slice a6 (F + L + 4) c6) (pre ++ ys ++ sumB (crc ys))) := O6.out.below hb7
  have B7 : Hid (Below w.heap.size w w7) := B6.out.trans (hb7.mono B6.out.size)
  have R7 : Hid (Rd .u8 w7 bv ys) := hn7.rd
  simp only
  clear hn7 hb7 O6 B6
  go_wp2_with fail
  refine (same_rd _ _ ys ys w7 R7.out (R0.out.below B7.out)).mono ?_
  rintro e w8 ⟨rfl, hb8⟩
  have hdec : decide (ys = ys) = true := by simp
  rw [hdec]
  have O8 : Hid (Owns .u8 5 w8 (.slice a6 (F + L + 4) c6) (pre ++ ys ++ sumB (crc ys))) := O7.out.below hb8
  have B8 : Hid (Below w.heap.size w w8) := B7.out.trans (hb8.mono B7.out.size)
  clear hdec hb8 O7 B7 R7
  obtain ⟨A, hA⟩ : ∃ A : Nat, at_ % (8 * (L : Int) + 1) = (A : Int) := ⟨(at_ % (8 * (L : Int) + 1)).toNat, by have := Int.emod_nonneg at_ (show (8 * (L : Int) + 1) ≠ 0 by omega); omega⟩
  have hA1 : A ≤ 8 * L := by have := Int.emod_lt_of_pos at_ (show 0 < (8 * (L : Int) + 1) by omega); omega
  have hmod : at_.tmod (8 * (L : Int) + 1) = (A : Int) := by rw [Int.tmod_eq_emod_of_nonneg ha0]; exact hA
  have hc62b : c6 ≤ 9223372036854775807 := by unfold maxLen at hc62; omega
  have ST : Hid (Bs ys ys A K L 0 false) := Bs.start A K L HY.out HB.out
  clear hc62
  go_wp2_with fail
  go_loopw [16, 17] (fun ch i wr => ∃ (n : Nat) (zs : List Int) (c : Bool), n ≤ 32 ∧ i = .int .i64 n ∧ ch = .bool c ∧ Hid (Bs ys zs A K L n c) ∧ Hid (Owns .u8 5 wr (.slice a6 (F + L + 4) c6) (pre ++ zs ++ sumB (crc ys))) ∧ Hid (Below w.heap.size w wr)) (fun _ i _ => 32 - (intOf i).toNat)
  case atStart => exact ⟨0, ys, false, Nat.zero_le _, rfl, rfl, ST, O8, B8⟩
  case round =>
    clear ST O8 B8
    obtain ⟨n, zs, c, hn, rfl, rfl, S5, O5, B5⟩ := hrel
    by_cases hlt : n < 32
    · have hmb := mask_bit K n hK (by omega)
      obtain ⟨I, hI⟩ : ∃ I, A + n = I := ⟨_, rfl⟩
      have hI1 : (A : Int) + (n : Int) = (I : Int) := by omega
      obtain ⟨q, hq⟩ : ∃ q, I / 8 = q := ⟨_, rfl⟩
      have hq1 : (I : Int) / 8 = (q : Int) := by omega
      by_cases hbit : K.testBit n = true
      · rw [if_pos hbit] at hmb
        by_cases hin : I < 8 * L
        · obtain ⟨r, hr⟩ : ∃ r, I % 8 = r := ⟨_, rfl⟩
          have hr1 : (I : Int) % 8 = (r : Int) := by omega
          have hqL : q < L := by omega
          have hqL1 : (q : Int) < (L : Int) := by omega
          have hzl : q < zs.length := by rw [S5.out.len]; omega
          have hfl : (pre ++ zs ++ sumB (crc ys)).length = F + L + 4 := by rw [List.length_append, List.length_append, HF.out, S5.out.len, sumB_length]
          obtain ⟨g, cp, hv, _, _, _, hcell, hfz⟩ := O5.out.shape (by rw [hfl]; omega)
          rw [hfl] at hv
          cases hv
          have cq := hcell (F + q) (by rw [hfl]; omega)
          have e1 := getD_mid2 pre zs (sumB (crc ys)) q hzl
          rw [HF.out] at e1
          rw [e1] at cq
          have fq := hfz (F + q)
          rw [bN_eq S5.out.by_] at cq
          have hz := bN_lt S5.out.by_ q
          have hr8 : r < 8 := by omega
          have hT1 : 2 ^ r < 256 := Nat.lt_of_lt_of_le (Nat.pow_lt_pow_right (by decide) hr8) (by decide)
          have hx := u8_xor_nat (bN zs q) (2 ^ r) hz hT1
          have S6 : Hid (Bs ys (zs.set q ((bN zs q ^^^ 2 ^ r : Nat) : Int)) A K L (n + 1) true) := S5.out.flip hbit (by omega) q r (by omega) (by omega)
          have O6 : Hid (Owns .u8 5 (wr.setCell ⟨g, F + q, none⟩ (.int .u8 ((bN zs q ^^^ 2 ^ r : Nat) : Int))) (.slice (some ⟨g, 0, none⟩) (F + L + 4) c6) (pre ++ zs.set q ((bN zs q ^^^ 2 ^ r : Nat) : Int) ++ sumB (crc ys))) := by
            have h := O5.out.set (F + q) ((bN zs q ^^^ 2 ^ r : Nat) : Int)
            have e2 := set_mid pre zs (sumB (crc ys)) q ((bN zs q ^^^ 2 ^ r : Nat) : Int) hzl
            rw [HF.out] at e2
            rw [e2] at h
            exact h
          have B6 : Hid (Below w.heap.size w (wr.setCell ⟨g, F + q, none⟩ (.int .u8 ((bN zs q ^^^ 2 ^ r : Nat) : Int)))) := B5.out.setCell (N6.out g rfl) _
          obtain ⟨Y, hY⟩ : ∃ Y, bN zs q ^^^ 2 ^ r = Y := ⟨_, rfl⟩
          rw [hY] at S6 O6 B6 hx
          generalize bN zs q = z at cq hz hx hY
          obtain ⟨T, hT⟩ : ∃ T, 2 ^ r = T := ⟨_, rfl⟩
          rw [hT] at hT1 hx
          have hT2 : (2 : Int) ^ r = (T : Int) := by rw [← hT, Int.natCast_pow]; rfl
          have hT3 : IntKind.u8.wrap (T : Int) = (T : Int) := by rw [IntKind.wrap_u8']; omega
          have hq2 : (I : Int).tdiv 8 = (q : Int) := by rw [Int.tdiv_eq_ediv_of_nonneg (by omega)]; exact hq1
          have hr2 : (I : Int).tmod 8 = (r : Int) := by rw [Int.tmod_eq_emod_of_nonneg (by omega)]; exact hr1
          have hw1 : IntKind.i64.wrap (q : Int) = (q : Int) := by rw [IntKind.wrap_i64]; omega
          have hw2 : IntKind.i64.wrap (r : Int) = (r : Int) := by rw [IntKind.wrap_i64]; omega
          obtain ⟨G, hG⟩ : ∃ G, F + q = G := ⟨_, rfl⟩
          rw [hG] at cq fq O6 B6
          have hFq : (F : Int) + (q : Int) = (G : Int) := by omega
          have hw3 : IntKind.i64.wrap ((F : Int) + (q : Int)) = (G : Int) := by rw [hFq, IntKind.wrap_i64]; omega
          have hw4 : IntKind.i64.wrap (G : Int) = (G : Int) := by rw [IntKind.wrap_i64]; omega
          have hGL : G < F + L + 4 := by omega
          have hGL1 : (G : Int) < (F : Int) + (L : Int) + 4 := by omega
          have hGL2 : (G : Int) < ((F + L + 4 : Nat) : Int) := by omega
          clear hcell hfz hY hT hI hr S5 O5 B5 hbit hq e1 hfl hzl hG
          go_wp2_with fail
          refine wp_region_still_tail 17 (by kernel_rfl) (by kernel_rfl) ?_
          simp only [List.take_succ_cons, List.take_zero, List.drop_succ_cons, List.drop_zero]
          repeat still_step
          refine wpStill_nil ?_
          go_wp2_with fail
          go_roundw
          case rel => exact ⟨n + 1, _, true, by omega, by go_num, rfl, S6, by first | exact O6 | exact O6.out.tch (S := fun _ => False) ⟨rfl, rfl, rfl, Nat.le_refl _, fun _ _ _ => rfl⟩ (fun _ _ e => e), B6.out.drew⟩
          case measure => simp [intOf]; omega
        · have hqL1 : ¬ (q : Int) < (L : Int) := by omega
          have S6 : Hid (Bs ys zs A K L (n + 1) c) := S5.out.skip (by rintro ⟨_, h⟩; omega)
          clear S5 hbit hq hI
          go_wp2_with fail
          go_roundw
          case rel => exact ⟨n + 1, zs, c, by omega, by go_num, rfl, S6, O5, B5⟩
          case measure => simp [intOf]; omega
      · have hbf : K.testBit n = false := by simpa using hbit
        rw [if_neg hbit] at hmb
        have S6 : Hid (Bs ys zs A K L (n + 1) c) := S5.out.skip (by rintro ⟨h, _⟩; exact hbit h)
        clear S5 hbit hbf hq hI
        go_wp2_with fail
        go_roundw
        case rel => exact ⟨n + 1, zs, c, by omega, by go_num, rfl, S6, O5, B5⟩
        case measure => simp [intOf]; omega
    · have hn32 : n = 32 := by omega
      rw [hn32] at S5
      have hnn : ¬ (n : Int) < 32 := by omega
      have hsd := S5.out.said HY.out HB.out hA1
      have HUZ : Hid (unpS (pre ++ zs ++ sumB (crc ys)) (L : Int) = if crc ys = crc zs then (0, zs) else (6, [])) := by
        show _ = _
        rw [← hpre.out]
        exact unp_raw S5.out.len hL (crc_le ys)
      have HZB : Hid (By (pre ++ zs ++ sumB (crc ys))) := HBF.out zs S5.out.by_
      have HZL : Hid ((pre ++ zs ++ sumB (crc ys)).length ≤ 140737488355328) := by show _ ≤ _; rw [List.length_append, List.length_append, HF.out, S5.out.len, sumB_length]; omega
      have hEc : ∃ E xs, (if crc ys = crc zs then ((0 : Int), zs) else (6, [])) = (E, xs) ∧ ((E == 6) == c) = true := by
        by_cases e : crc ys = crc zs
        · refine ⟨0, zs, by rw [if_pos e], ?_⟩
          rw [← hsd, e]; simp
        · refine ⟨6, [], by rw [if_neg e], ?_⟩
          have : (crc zs != crc ys) = true := by rw [bne_iff_ne]; exact fun h => e h.symm
          rw [← hsd, this]; rfl
      obtain ⟨E, xs, hE1, hE2⟩ := hEc
      rw [hE1] at HUZ
      clear hE1 hsd hlt S5
      go_wp2_with fail
      refine (unpack_any _ _ (L : Int) wr O5.out.rd HZB.out HZL.out O5.out.lt).mono ?_
      intro e w9 h9
      rw [HUZ.out] at h9
      obtain ⟨gv, rfl, _, hb9⟩ := h9
      have B9 : Hid (Below w.heap.size w w9) := B5.out.trans (hb9.mono B5.out.size)
      simp only
      clear hb9 B5 O5
      go_wp2_with fail
      refine (lives_anyP _).mono ?_
      rintro e wz ⟨rfl, hbz⟩
      go_wp2_with fail
      go_ret
      exact ⟨rfl, B9.out.trans (hbz.mono B9.out.size)⟩
end Go.Proofs.YtokkippjbagmkaaGreat

/-
  PackTells, case 4 of 4.
-/
namespace Go.Proofs.YtokkippjbagmkaaGreat
open Go.RowKit Pl
set_option linter.unusedVariables false
set_option maxRecDepth 100000
set_option linter.unusedSimpArgs false

set_option maxHeartbeats 1000000 in
theorem packTells_d (a : Option Addr) (cap : Nat) (ys : List Int) (at_ : Int) (K n0 : Nat) (w : World) (h1 : Rd .u8 w (.slice a 65536 cap) ys) (hyl : ys.length = 65536) (hn0 : 65536 < n0) (hn1c : n0 ≤ cap) (hcm : cap ≤ maxLen) (hb : By ys) (hold : ∀ k, (Value.slice a 65536 cap).ownBlock = some k → k < w.heap.size) (ha0 : at_ < 0) (ha1 : -9223372036854775808 ≤ at_) (hK : K < 4294967296) :
    Calls Tryz.prog 7 #[.slice a n0 cap, .int .i64 at_, .int .u32 (K : Int)] w fun e w' => e = .returned (.bool true) ∧ Below w.heap.size w w' := by
  have R0 : Hid (Rd .u8 w (.slice a 65536 cap) ys) := h1
  have HB : Hid (By ys) := hb
  have HO : Hid (∀ k, (Value.slice a 65536 cap).ownBlock = some k → k < w.heap.size) := hold
  have HY : Hid (ys.length = 65536) := hyl
  clear h1 hb hold hyl
  have hbI : (65536 : Int) < (n0 : Int) := by omega
  have hcap : 65536 ≤ cap := by omega
  go_enter Tryz.func7, Tryz.ntmps7
  go_wp2_with fail
  obtain ⟨L, hLe⟩ : ∃ L, 65536 = L := ⟨_, rfl⟩
  rw [hLe] at R0 HO HY ⊢
  have hL : L ≤ 65536 := by omega
  have hLi : (L : Int) ≤ 65536 := by omega
  have hLc : L ≤ cap := by omega
  clear hLe hbI hcap hn0 hn1c
  refine (refPack_nil w).mono ?_
  rintro e w1 ⟨rv, rs, rfl, ho1, hb1, hf1⟩
  obtain ⟨ra, rc, hrv, hrc, hrm, hrest⟩ := ho1.rd
  clear hrest
  subst hrv
  have O1 : Hid (Owns .u8 5 w1 (.slice ra 0 rc) []) := owns_none ho1
  have B1 : Hid (Below w.heap.size w w1) := hb1
  have N1 : Hid (∀ k, (Value.slice ra 0 rc).ownBlock = some k → w.heap.size ≤ k) := fun k hk => hf1 k (by cases ra with | none => cases hk | some x => exact hk)
  have hrc2 : rc ≤ 9223372036854775807 := by unfold maxLen at hrm; omega
  obtain ⟨rl, hrl⟩ : ∃ rl, rs.length = rl := ⟨_, rfl⟩
  rw [hrl] at hrc ⊢
  clear ho1 hb1 hf1 hrl hrm
  have HL1 : Hid (([] : List Int).length + 1 ≤ 9223372036854775807) := by show _ ≤ _; simp
  have HL2 : Hid ((([] : List Int).length + 1) * 1 ≤ 140737488355328) := by show _ ≤ _; simp
  go_wp2_with (at_builtin; refine wpList_push w1 rfl (.tmp 32) (.tmp 33) 22 rfl 5 .u8 1 elem8 (.slice ra 0 rc) [] rfl O1.out 0 rfl HL1.out HL2.out ?_)
  intro v2 w2 ho2 hg2
  have O2 : Hid (Owns .u8 5 w2 v2 [0]) := ho2
  have B2 : Hid (Below w.heap.size w w2) := B1.out.trans (hg2.tch.below B1.out.size N1.out)
  clear ho2 hg2 O1 B1 N1 HL1 HL2
  go_wp2_with fail
  refine (refPutNum_ok v2 [0] (L : Int) w2 O2.out.rd (by simp) (by omega) (by omega)).mono ?_
  rintro e w3 ⟨v3, rfl, ho3, hg3⟩
  obtain ⟨pre, hpre0⟩ : ∃ pre, [0] ++ digits (L : Int) = pre := ⟨_, rfl⟩
  have hpre : Hid ([0] ++ digits (L : Int) = pre) := hpre0
  clear hpre0
  have hpl : pre.length ≤ 6 := by rw [← hpre.out]; have := digits_len (L : Int); simp; omega
  rw [hpre.out] at ho3
  have O3 : Hid (Owns .u8 5 w3 v3 pre) := ho3
  have B3 : Hid (Below w.heap.size w w3) := B2.out.trans (hg3.below.1.mono B2.out.size)
  have N3 : Hid (∀ k, v3.ownBlock = some k → w.heap.size ≤ k) := fun k hk => by have := hg3.below.2 k hk; have := B2.out.size; omega
  obtain ⟨a3, c3_, hv3, hc31, hc32, hrest⟩ := ho3.rd
  clear hrest
  obtain ⟨F, hF⟩ : ∃ F, pre.length = F := ⟨_, rfl⟩
  have HF : Hid (pre.length = F) := hF
  rw [hF] at hv3 hpl
  subst hv3
  have R3 : Hid (Rd .u8 w3 (.slice a L cap) ys) := R0.out.below B3.out
  have HL1 : Hid (pre.length + ys.length ≤ 9223372036854775807) := by show _ ≤ _; rw [HF.out, HY.out]; omega
  have HL2 : Hid ((pre.length + ys.length) * 1 ≤ 140737488355328) := by show _ ≤ _; rw [HF.out, HY.out]; omega
  clear ho3 hg3 O2 B2 hF hc31 hc32
  go_wp2_with (at_builtin; refine wpList_many w3 rfl (.tmp 44) (.tmp 45) 22 rfl 5 .u8 1 elem8 (.slice a3 F c3_) pre rfl O3.out (.slice a L cap) ys rfl R3.out HL1.out HL2.out ?_)
  intro v4 w4 ho4 hg4
  have O4 : Hid (Owns .u8 5 w4 v4 (pre ++ ys)) := ho4
  have B4 : Hid (Below w.heap.size w w4) := B3.out.trans (hg4.tch.below B3.out.size N3.out)
  have N4 : Hid (∀ k, v4.ownBlock = some k → w.heap.size ≤ k) := fun k hk => by
    rcases hg4.fresh k hk with e | e
    · exact N3.out k e
    · have := B3.out.size; omega
  clear ho4 hg4 O3 B3 N3 R3 HL1 HL2
  go_wp2_with fail
  refine (pack_any _ ys w4 (R0.out.below B4.out) HB.out (by rw [HY.out]; exact hL) (fun k hk => by have := HO.out k hk; have := B4.out.size; omega)).mono ?_
  rintro e w5 ⟨pv, out, rfl, hp, ho5, hb5, hf5⟩
  obtain ⟨hs1, hs2⟩ := packR_sum hp
  have O5 : Hid (Owns .u8 5 w5 v4 (pre ++ ys)) := O4.out.below hb5
  have B5 : Hid (Below w.heap.size w w5) := B4.out.trans (hb5.mono B4.out.size)
  have P5 : Hid (Rd .u8 w5 pv out) := ho5.rd
  have HS2 : Hid (out.drop (out.length - 4) = sumB (crc ys)) := hs2
  obtain ⟨pa, pc, hpv, hpc, hpm, hrest⟩ := ho5.rd
  clear hrest
  obtain ⟨m, hm⟩ : ∃ m, out.length = m := ⟨_, rfl⟩
  have HM : Hid (out.length = m) := hm
  rw [hm] at hpv hs1 HS2 hpc
  subst hpv
  have hm1 : m ≤ 9223372036854775807 := by unfold maxLen at hpm; omega
  have hm4 : ¬ (m : Int) < 4 := by omega
  clear ho5 hb5 hf5 hp hs2 hm O4 B4 hpm
  have HM4 : Hid (Value.int .i64 ((m : Int) - 4) = .int .i64 ((m - 4 : Nat) : Int)) := by show _ = _; congr 1; omega
  obtain ⟨a4, c4, hv4, hc41, hc42, hrest⟩ := O5.out.rd
  clear hrest
  have HX : Hid ((pre ++ ys).length = F + L) := by show _ = _; rw [List.length_append, HF.out, HY.out]
  rw [HX.out] at hv4 hc41
  subst hv4
  have HL1 : Hid ((pre ++ ys).length + (sumB (crc ys)).length ≤ 9223372036854775807) := by show _ ≤ _; rw [HX.out, sumB_length]; omega
  have HL2 : Hid (((pre ++ ys).length + (sumB (crc ys)).length) * 1 ≤ 140737488355328) := by show _ ≤ _; rw [HX.out, sumB_length]; omega
  have HSL : Hid (Rd .u8 w5 (sliced pa (m - 4) m pc 1) (sumB (crc ys))) := by
    have h0 := P5.out
    rw [← HM.out] at h0
    have h := rd_sliced h0 (out.length - 4) out.length (by omega) (Nat.le_refl _)
    rw [HM.out, HS2.out, List.take_of_length_le (by rw [sumB_length]; omega)] at h
    exact h
  have HSL2 : Hid (Rd .u8 w5 (.slice (pa.map (fun x => x.add (m - 4))) (m - (m - 4)) (pc - (m - 4))) (sumB (crc ys))) := by
    have h := HSL.out
    unfold sliced at h
    have e : ¬ pc = m - 4 := by omega
    simp [e] at h
    exact h
  go_wp2_with (at_builtin; refine wpList_many w5 rfl (.tmp 59) (.tmp 64) 22 rfl 5 .u8 1 elem8 (.slice a4 (F + L) c4) (pre ++ ys) rfl O5.out _ (sumB (crc ys)) rfl ?R HL1.out HL2.out ?_)
  case R => simp [Act.eval]; exact HSL2.out
  intro v6 w6 ho6 hg6
  replace ho6 : Owns .u8 5 w6 v6 (pre ++ ys ++ sumB (crc ys)) := by rw [List.append_assoc]; exact ho6
  have O6 : Hid (Owns .u8 5 w6 v6 (pre ++ ys ++ sumB (crc ys))) := ho6
  have B6 : Hid (Below w.heap.size w w6) := B5.out.trans (hg6.tch.below B5.out.size N4.out)
  have N6 : Hid (∀ k, v6.ownBlock = some k → w.heap.size ≤ k) := fun k hk => by
    rcases hg6.fresh k hk with e | e
    · exact N4.out k e
    · have := B5.out.size; omega
  obtain ⟨a6, c6, hv6, hc61, hc62, hrest⟩ := ho6.rd
  clear hrest
  have HZ : Hid ((pre ++ ys ++ sumB (crc ys)).length = F + L + 4) := by show _ = _; rw [List.length_append, HX.out, sumB_length]
  rw [HZ.out] at hv6 hc61
  subst hv6
  have HBF : Hid (∀ zs, By zs → By (pre ++ zs ++ sumB (crc ys))) := fun zs hz => by rw [← hpre.out]; exact (((by_one (by decide)).append (by_dig _ (by omega) (by omega))).append hz).append (by_sum _)
  have HU1 : Hid (unpS (pre ++ ys ++ sumB (crc ys)) (L : Int) = (0, ys)) := by
    show _ = _
    rw [← hpre.out, unp_raw HY.out hL (crc_le ys), if_pos rfl]
  clear ho6 hg6 O5 B5 N4 HSL HSL2 P5 HL1 HL2
  go_wp2_with fail
  refine (unpack_any _ _ (L : Int) w6 O6.out.rd (HBF.out ys HB.out) (by rw [HZ.out]; omega) O6.out.lt).mono ?_
  intro e w7 h7
  rw [HU1.out] at h7
  obtain ⟨bv, rfl, hn7, hb7⟩ := h7
  have O7 : Hid (Owns .u8 5 w7 (.slice a6 (F + L + 4) c6) (pre ++ ys ++ sumB (crc ys))) := O6.out.below hb7
  have B7 : Hid (Below w.heap.size w w7) := B6.out.trans (hb7.mono B6.out.size)
  have R7 : Hid (Rd .u8 w7 bv ys) := hn7.rd
  simp only
  clear hn7 hb7 O6 B6
  go_wp2_with fail
  refine (same_rd _ _ ys ys w7 R7.out (R0.out.below B7.out)).mono ?_
  rintro e w8 ⟨rfl, hb8⟩
  have hdec : decide (ys = ys) = true := by simp
  rw [hdec]
  have O8 : Hid (Owns .u8 5 w8 (.slice a6 (F + L + 4) c6) (pre ++ ys ++ sumB (crc ys))) := O7.out.below hb8
  have B8 : Hid (Below w.heap.size w w8) := B7.out.trans (hb8.mono B7.out.size)
  clear hdec hb8 O7 B7 R7
  obtain ⟨P, hn1⟩ : ∃ P : Int, -(at_ + 1) = P := ⟨_, rfl⟩
  have hP1 : 0 ≤ P := by omega
  have hP2 : P ≤ 9223372036854775807 := by omega
  obtain ⟨A, hA⟩ : ∃ A : Nat, P % (8 * (L : Int) + 1) = (A : Int) := ⟨(P % (8 * (L : Int) + 1)).toNat, by have := Int.emod_nonneg P (show (8 * (L : Int) + 1) ≠ 0 by omega); omega⟩
  have hA1 : A ≤ 8 * L := by have := Int.emod_lt_of_pos P (show 0 < (8 * (L : Int) + 1) by omega); omega
  have hmod : P.tmod (8 * (L : Int) + 1) = (A : Int) := by rw [Int.tmod_eq_emod_of_nonneg hP1]; exact hA
  have hc62b : c6 ≤ 9223372036854775807 := by unfold maxLen at hc62; omega
  have ST : Hid (Bs ys ys A K L 0 false) := Bs.start A K L HY.out HB.out
  clear hc62
  go_wp2_with fail
  go_loopw [16, 17] (fun ch i wr => ∃ (n : Nat) (zs : List Int) (c : Bool), n ≤ 32 ∧ i = .int .i64 n ∧ ch = .bool c ∧ Hid (Bs ys zs A K L n c) ∧ Hid (Owns .u8 5 wr (.slice a6 (F + L + 4) c6) (pre ++ zs ++ sumB (crc ys))) ∧ Hid (Below w.heap.size w wr)) (fun _ i _ => 32 - (intOf i).toNat)
  case atStart => exact ⟨0, ys, false, Nat.zero_le _, rfl, rfl, ST, O8, B8⟩
  case round =>
    clear ST O8 B8
    obtain ⟨n, zs, c, hn, rfl, rfl, S5, O5, B5⟩ := hrel
    by_cases hlt : n < 32
    · have hmb := mask_bit K n hK (by omega)
      obtain ⟨I, hI⟩ : ∃ I, A + n = I := ⟨_, rfl⟩
      have hI1 : (A : Int) + (n : Int) = (I : Int) := by omega
      obtain ⟨q, hq⟩ : ∃ q, I / 8 = q := ⟨_, rfl⟩
      have hq1 : (I : Int) / 8 = (q : Int) := by omega
      by_cases hbit : K.testBit n = true
      · rw [if_pos hbit] at hmb
        by_cases hin : I < 8 * L
        · obtain ⟨r, hr⟩ : ∃ r, I % 8 = r := ⟨_, rfl⟩
          have hr1 : (I : Int) % 8 = (r : Int) := by omega
          have hqL : q < L := by omega
          have hqL1 : (q : Int) < (L : Int) := by omega
          have hzl : q < zs.length := by rw [S5.out.len]; omega
          have hfl : (pre ++ zs ++ sumB (crc ys)).length = F + L + 4 := by rw [List.length_append, List.length_append, HF.out, S5.out.len, sumB_length]
          obtain ⟨g, cp, hv, _, _, _, hcell, hfz⟩ := O5.out.shape (by rw [hfl]; omega)
          rw [hfl] at hv
          cases hv
          have cq := hcell (F + q) (by rw [hfl]; omega)
          have e1 := getD_mid2 pre zs (sumB (crc ys)) q hzl
          rw [HF.out] at e1
          rw [e1] at cq
          have fq := hfz (F + q)
          rw [bN_eq S5.out.by_] at cq
          have hz := bN_lt S5.out.by_ q
          have hr8 : r < 8 := by omega
          have hT1 : 2 ^ r < 256 := Nat.lt_of_lt_of_le (Nat.pow_lt_pow_right (by decide) hr8) (by decide)
          have hx := u8_xor_nat (bN zs q) (2 ^ r) hz hT1
          have S6 : Hid (Bs ys (zs.set q ((bN zs q ^^^ 2 ^ r : Nat) : Int)) A K L (n + 1) true) := S5.out.flip hbit (by omega) q r (by omega) (by omega)
          have O6 : Hid (Owns .u8 5 (wr.setCell ⟨g, F + q, none⟩ (.int .u8 ((bN zs q ^^^ 2 ^ r : Nat) : Int))) (.slice (some ⟨g, 0, none⟩) (F + L + 4) c6) (pre ++ zs.set q ((bN zs q ^^^ 2 ^ r : Nat) : Int) ++ sumB (crc ys))) := by
            have h := O5.out.set (F + q) ((bN zs q ^^^ 2 ^ r : Nat) : Int)
            have e2 := set_mid pre zs (sumB (crc ys)) q ((bN zs q ^^^ 2 ^ r : Nat) : Int) hzl
            rw [HF.out] at e2
            rw [e2] at h
            exact h
          have B6 : Hid (Below w.heap.size w (wr.setCell ⟨g, F + q, none⟩ (.int .u8 ((bN zs q ^^^ 2 ^ r : Nat) : Int)))) := B5.out.setCell (N6.out g rfl) _
          obtain ⟨Y, hY⟩ : ∃ Y, bN zs q ^^^ 2 ^ r = Y := ⟨_, rfl⟩
          rw [hY] at S6 O6 B6 hx
          generalize bN zs q = z at cq hz hx hY
          obtain ⟨T, hT⟩ : ∃ T, 2 ^ r = T := ⟨_, rfl⟩
          rw [hT] at hT1 hx
          have hT2 : (2 : Int) ^ r = (T : Int) := by rw [← hT, Int.natCast_pow]; rfl
          have hT3 : IntKind.u8.wrap (T : Int) = (T : Int) := by rw [IntKind.wrap_u8']; omega
          have hq2 : (I : Int).tdiv 8 = (q : Int) := by rw [Int.tdiv_eq_ediv_of_nonneg (by omega)]; exact hq1
          have hr2 : (I : Int).tmod 8 = (r : Int) := by rw [Int.tmod_eq_emod_of_nonneg (by omega)]; exact hr1
          have hw1 : IntKind.i64.wrap (q : Int) = (q : Int) := by rw [IntKind.wrap_i64]; omega
          have hw2 : IntKind.i64.wrap (r : Int) = (r : Int) := by rw [IntKind.wrap_i64]; omega
          obtain ⟨G, hG⟩ : ∃ G, F + q = G := ⟨_, rfl⟩
          rw [hG] at cq fq O6 B6
          have hFq : (F : Int) + (q : Int) = (G : Int) := by omega
          have hw3 : IntKind.i64.wrap ((F : Int) + (q : Int)) = (G : Int) := by rw [hFq, IntKind.wrap_i64]; omega
          have hw4 : IntKind.i64.wrap (G : Int) = (G : Int) := by rw [IntKind.wrap_i64]; omega
          have hGL : G < F + L + 4 := by omega
          have hGL1 : (G : Int) < (F : Int) + (L : Int) + 4 := by omega
          have hGL2 : (G : Int) < ((F + L + 4 : Nat) : Int) := by omega
          clear hcell hfz hY hT hI hr S5 O5 B5 hbit hq e1 hfl hzl hG
          go_wp2_with fail
          refine wp_region_still_tail 17 (by kernel_rfl) (by kernel_rfl) ?_
          simp only [List.take_succ_cons, List.take_zero, List.drop_succ_cons, List.drop_zero]
          repeat still_step
          refine wpStill_nil ?_
          go_wp2_with fail
          go_roundw
          case rel => exact ⟨n + 1, _, true, by omega, by go_num, rfl, S6, by first | exact O6 | exact O6.out.tch (S := fun _ => False) ⟨rfl, rfl, rfl, Nat.le_refl _, fun _ _ _ => rfl⟩ (fun _ _ e => e), B6.out.drew⟩
          case measure => simp [intOf]; omega
        · have hqL1 : ¬ (q : Int) < (L : Int) := by omega
          have S6 : Hid (Bs ys zs A K L (n + 1) c) := S5.out.skip (by rintro ⟨_, h⟩; omega)
          clear S5 hbit hq hI
          go_wp2_with fail
          go_roundw
          case rel => exact ⟨n + 1, zs, c, by omega, by go_num, rfl, S6, O5, B5⟩
          case measure => simp [intOf]; omega
      · have hbf : K.testBit n = false := by simpa using hbit
        rw [if_neg hbit] at hmb
        have S6 : Hid (Bs ys zs A K L (n + 1) c) := S5.out.skip (by rintro ⟨h, _⟩; exact hbit h)
        clear S5 hbit hbf hq hI
        go_wp2_with fail
        go_roundw
        case rel => exact ⟨n + 1, zs, c, by omega, by go_num, rfl, S6, O5, B5⟩
        case measure => simp [intOf]; omega
    · have hn32 : n = 32 := by omega
      rw [hn32] at S5
      have hnn : ¬ (n : Int) < 32 := by omega
      have hsd := S5.out.said HY.out HB.out hA1
      have HUZ : Hid (unpS (pre ++ zs ++ sumB (crc ys)) (L : Int) = if crc ys = crc zs then (0, zs) else (6, [])) := by
        show _ = _
        rw [← hpre.out]
        exact unp_raw S5.out.len hL (crc_le ys)
      have HZB : Hid (By (pre ++ zs ++ sumB (crc ys))) := HBF.out zs S5.out.by_
      have HZL : Hid ((pre ++ zs ++ sumB (crc ys)).length ≤ 140737488355328) := by show _ ≤ _; rw [List.length_append, List.length_append, HF.out, S5.out.len, sumB_length]; omega
      have hEc : ∃ E xs, (if crc ys = crc zs then ((0 : Int), zs) else (6, [])) = (E, xs) ∧ ((E == 6) == c) = true := by
        by_cases e : crc ys = crc zs
        · refine ⟨0, zs, by rw [if_pos e], ?_⟩
          rw [← hsd, e]; simp
        · refine ⟨6, [], by rw [if_neg e], ?_⟩
          have : (crc zs != crc ys) = true := by rw [bne_iff_ne]; exact fun h => e h.symm
          rw [← hsd, this]; rfl
      obtain ⟨E, xs, hE1, hE2⟩ := hEc
      rw [hE1] at HUZ
      clear hE1 hsd hlt S5
      go_wp2_with fail
      refine (unpack_any _ _ (L : Int) wr O5.out.rd HZB.out HZL.out O5.out.lt).mono ?_
      intro e w9 h9
      rw [HUZ.out] at h9
      obtain ⟨gv, rfl, _, hb9⟩ := h9
      have B9 : Hid (Below w.heap.size w w9) := B5.out.trans (hb9.mono B5.out.size)
      simp only
      clear hb9 B5 O5
      go_wp2_with fail
      refine (lives_anyP _).mono ?_
      rintro e wz ⟨rfl, hbz⟩
      go_wp2_with fail
      go_ret
      exact ⟨rfl, B9.out.trans (hbz.mono B9.out.size)⟩
end Go.Proofs.YtokkippjbagmkaaGreat
