/-
  SumsBursts: a change within 32 bits side by side is told: for every bytes, place and mask the law answers true.
-/
import Derived.Test.YtndbpbbhipiolaaSLives
import Derived.Test.YtndbpbbhipiolaaSBur
import Derived.StillTailTactics
namespace Go.Proofs.Ytndbpbbhipiolaa
open Go.RowKit Pl
set_option linter.unusedVariables false

/-- Behind n bits. -/
structure Bs (ys zs : List Int) (A mask L n : Nat) (ch : Bool) : Prop where
  len : zs.length = L
  by_ : By zs
  bits : ∀ j i, j < L → i < 8 → (bN zs j).testBit i = ((bN ys j).testBit i ^^ dd A mask (8 * L) n (8 * j + i))
  told : ch = true ↔ ∃ p, dd A mask (8 * L) n p = true

theorem Bs.start {ys : List Int} (A mask L : Nat) (hl : ys.length = L) (hb : By ys) : Bs ys ys A mask L 0 false := by
  refine ⟨hl, hb, fun j i _ _ => ?_, ?_⟩
  · rw [dd_out _ _ _ _ _ (by omega)]; simp
  · constructor
    · intro h; cases h
    · rintro ⟨p, hp⟩
      rw [dd_out _ _ _ _ _ (by omega)] at hp
      cases hp

theorem dd_step (A mask N n p : Nat) : dd A mask N (n + 1) p = (dd A mask N n p ^^ (decide (p = A + n ∧ A + n < N) && mask.testBit n)) := by
  unfold dd
  by_cases e : p = A + n
  · subst e
    rw [show A + n - A = n by omega]
    by_cases c : A + n < N
    · simp [c]
    · simp [c]
  · have h1 : (A ≤ p ∧ p < A + (n + 1) ∧ p < N) ↔ (A ≤ p ∧ p < A + n ∧ p < N) := by omega
    simp [h1, e]

/-- No bit is turned. -/
theorem Bs.skip {ys zs : List Int} {A mask L n : Nat} {ch : Bool} (h : Bs ys zs A mask L n ch) (hn : ¬ (mask.testBit n = true ∧ A + n < 8 * L)) : Bs ys zs A mask L (n + 1) ch := by
  have e : ∀ p, dd A mask (8 * L) (n + 1) p = dd A mask (8 * L) n p := fun p => by
    rw [dd_step]
    have : (decide (p = A + n ∧ A + n < 8 * L) && mask.testBit n) = false := by
      rw [Bool.and_eq_false_iff]
      by_cases c : mask.testBit n = true
      · left
        have hh : ¬ A + n < 8 * L := fun h => hn ⟨c, h⟩
        have : ¬ (p = A + n ∧ A + n < 8 * L) := fun h => hh h.2
        simp [this]
      · right; simpa using c
    rw [this]; simp
  refine ⟨h.len, h.by_, fun j i hj hi => ?_, ?_⟩
  · rw [e]; exact h.bits j i hj hi
  · rw [h.told]; simp only [e]

theorem bN_set (zs : List Int) (q y j : Nat) (hq : q < zs.length) : bN (zs.set q (y : Int)) j = if j = q then y else bN zs j := by
  unfold bN
  rw [List.getD_eq_getElem?_getD, List.getD_eq_getElem?_getD, List.getElem?_set]
  by_cases e : q = j
  · subst e; simp [hq]
  · rw [if_neg e, if_neg (fun h => e h.symm)]

/-- One bit is turned. -/
theorem Bs.flip {ys zs : List Int} {A mask L n : Nat} {ch : Bool} (h : Bs ys zs A mask L n ch) (hm : mask.testBit n = true) (hn : A + n < 8 * L) (q r : Nat) (hq : (A + n) / 8 = q) (hr : (A + n) % 8 = r) :
    Bs ys (zs.set q ((bN zs q ^^^ 2 ^ r : Nat) : Int)) A mask L (n + 1) true := by
  have hql : q < L := by omega
  have hr8 : r < 8 := by omega
  have hp : 2 ^ r < 2 ^ 8 := Nat.pow_lt_pow_right (by decide) hr8
  have hlt : bN zs q ^^^ 2 ^ r < 2 ^ 8 := Nat.xor_lt_two_pow (bN_lt h.by_ q) hp
  refine ⟨by rw [List.length_set]; exact h.len, fun i => ?_, fun j i hj hi => ?_, ?_⟩
  · rw [List.getD_eq_getElem?_getD, List.getElem?_set]
    by_cases e : q = i
    · subst e
      rw [if_pos rfl, if_pos (by rw [h.len]; exact hql)]
      simp only [Option.getD_some]
      omega
    · rw [if_neg e, ← List.getD_eq_getElem?_getD]; exact h.by_ i
  · rw [bN_set _ _ _ _ (by rw [h.len]; exact hql), dd_step, hm]
    by_cases e : j = q
    · subst e
      rw [if_pos rfl, Nat.testBit_xor, h.bits j i hj hi, Nat.testBit_two_pow]
      have e2 : decide (8 * j + i = A + n ∧ A + n < 8 * L) = decide (r = i) := by
        by_cases c : r = i
        · have : 8 * j + i = A + n ∧ A + n < 8 * L := by omega
          simp [c, this]
        · have : ¬ (8 * j + i = A + n ∧ A + n < 8 * L) := by omega
          simp [c, this]
      rw [e2]
      simp
    · rw [if_neg e, h.bits j i hj hi]
      have : ¬ (8 * j + i = A + n ∧ A + n < 8 * L) := by omega
      simp [this]
  · simp only [true_iff]
    refine ⟨A + n, ?_⟩
    rw [dd_step, dd_out A mask (8 * L) n (A + n) (by omega)]
    simp [hn, hm]

theorem Bs.said {ys zs : List Int} {A mask L : Nat} {ch : Bool} (h : Bs ys zs A mask L 32 ch) (hl : ys.length = L) (hy : By ys) (hA : A ≤ 8 * L) : (crc zs != crc ys) = ch := by
  subst hl
  have := burst_told ys zs A mask hy h.by_ h.len hA h.bits
  rw [← h.told] at this
  cases ch with
  | true => simpa using this
  | false => simpa using this

/-- The bit of a mask. -/
theorem mask_bit (K n : Nat) (hK : K < 4294967296) (hn : n ≤ 31) : Go.bits .and .u32 ((K : Int) / 2 ^ n) 1 = if K.testBit n then 1 else 0 := by
  have e1 : (K : Int) / 2 ^ n = ((K / 2 ^ n : Nat) : Int) := by rw [Int.natCast_ediv, Int.natCast_pow]; rfl
  rw [e1]
  have := u32_and_nat (K / 2 ^ n) 1 (Nat.lt_of_le_of_lt (Nat.div_le_self _ _) hK) (by decide)
  rw [nat_mask1] at this
  rw [show (1 : Int) = ((1 : Nat) : Int) from rfl, this, Nat.testBit_eq_decide_div_mod_eq]
  by_cases c : K / 2 ^ n % 2 = 1
  · simp [c]
  · have : K / 2 ^ n % 2 = 0 := by omega
    simp [this]

set_option maxRecDepth 100000 in
set_option maxHeartbeats 4000000 in
theorem sumsBursts_walk (v : Value) (xs : List Int) (at_ : Int) (K : Nat) (w : World) (h1 : Rd .u8 w v xs) (hb : By xs) (ha0 : -9223372036854775808 ≤ at_) (ha1 : at_ ≤ 9223372036854775807) (hK : K < 4294967296) :
    Calls Try.prog 5 #[v, .int .i64 at_, .int .u32 (K : Int)] w fun e w' => e = .returned (.bool true) ∧ Below w.heap.size w w' := by
  obtain ⟨a, cap, hv, hlc, hcm, _⟩ := id h1
  subst hv
  have H1 : Hid (Rd .u8 w (.slice a xs.length cap) xs) := h1
  have HB : Hid (By xs) := hb
  have hm : xs.length ≤ 9223372036854775807 := by unfold maxLen at hcm; omega
  clear h1 hb hcm
  go_enter Try.func5, Try.ntmps5
  by_cases c : xs.length > 65536
  · have R1 : Hid (Rd .u8 w (.slice a 65536 cap) (xs.take 65536)) := rd_cut H1.out 65536 (by omega)
    have HB1 : Hid (By (xs.take 65536)) := by_take HB.out _
    have hc1 : (65536 : Int) < (xs.length : Int) := by omega
    have hcap : 65536 ≤ cap := by omega
    have hyl : (xs.take 65536).length = 65536 := by rw [List.length_take]; omega
    have HL1 : Hid (([] : List Int).length + (xs.take 65536).length ≤ 9223372036854775807) := by show _ ≤ _; rw [hyl]; decide
    have HL2 : Hid ((([] : List Int).length + (xs.take 65536).length) * 1 ≤ 140737488355328) := by show _ ≤ _; rw [hyl]; decide
    go_wp2_with (at_builtin; refine wpList_many _ rfl (.tmp 16) (.tmp 17) 22 rfl 5 .u8 1 elem8 (.slice none 0 0) [] ?h1 (owns_nil _ _ _) _ (xs.take 65536) ?h2 R1.out HL1.out HL2.out ?_; (case h1 => kernel_rfl); (case h2 => kernel_rfl))
    intro ov w2 ho2 hg2
    have HN2 : Hid (∀ k, ov.ownBlock = some k → w.heap.size ≤ k) := hg2.below.2
    obtain ⟨ys, hys⟩ : ∃ ys, xs.take 65536 = ys := ⟨_, rfl⟩
    rw [hys] at R1 HB1 hyl
    replace ho2 : Owns .u8 5 w2 ov ys := by rw [← hys]; exact ho2
    obtain ⟨L, hL⟩ : ∃ L, 65536 = L := ⟨_, rfl⟩
    rw [hL] at R1 hyl ⊢
    have hL5 : L ≤ 65536 := by omega
    have hLc : L ≤ cap := by omega
    clear hc1 hcap c hys hL H1 HB HL1 HL2
    obtain ⟨b2, n2⟩ := hg2.below
    have O2 : Hid (Owns .u8 5 w2 ov ys) := ho2
    have B2 : Hid (Below w.heap.size w w2) := b2
    clear ho2 hg2 b2 n2
    obtain ⟨oa, oc, hov, ho1, ho2, _⟩ := O2.out.rd
    rw [hyl] at hov ho1
    subst hov
    have hoc : oc ≤ 9223372036854775807 := by unfold maxLen at ho2; omega
    clear ho2
    obtain ⟨P, hP0, hP1⟩ : ∃ P : Int, P = (if at_ < 0 then -(at_ + 1) else at_) ∧ 0 ≤ P := ⟨_, rfl, by split <;> omega⟩
    have hP2 : P ≤ 9223372036854775807 := by rw [hP0]; split <;> omega
    obtain ⟨A, hA⟩ : ∃ A : Nat, P % (8 * (L : Int) + 1) = (A : Int) := ⟨(P % (8 * (L : Int) + 1)).toNat, by have := Int.emod_nonneg P (show (8 * (L : Int) + 1) ≠ 0 by omega); omega⟩
    have hA1 : A ≤ 8 * L := by have := Int.emod_lt_of_pos P (show 0 < (8 * (L : Int) + 1) by omega); omega
    have hmod : P.tmod (8 * (L : Int) + 1) = (A : Int) := by rw [Int.tmod_eq_emod_of_nonneg hP1]; exact hA
    have ST : Hid (Bs ys ys A K L 0 false) := Bs.start A K L hyl HB1.out
    by_cases hneg : at_ < 0
    · rw [if_pos hneg] at hP0
      have hn1 : -(at_ + 1) = P := hP0.symm
      clear hP0
      go_wp2_with fail
      go_loopw [8, 9] (fun ch i wr => ∃ (n : Nat) (zs : List Int) (c : Bool), n ≤ 32 ∧ i = .int .i64 n ∧ ch = .bool c ∧ Hid (Bs ys zs A K L n c) ∧ Hid (Owns .u8 5 wr (.slice oa L oc) zs) ∧ Hid (Below w.heap.size w wr)) (fun _ i _ => 32 - (intOf i).toNat)
      case atStart => exact ⟨0, ys, false, Nat.zero_le _, rfl, rfl, ST, O2, B2⟩
      case round =>
        clear ST O2 B2
        obtain ⟨n, zs, c, hn, rfl, rfl, S5, O5, B5⟩ := hrel
        by_cases hlt : n < 32
        · have hmb := mask_bit K n hK (by omega)
          obtain ⟨I, hI⟩ : ∃ I, A + n = I := ⟨_, rfl⟩
          have hI1 : (A : Int) + (n : Int) = (I : Int) := by omega
          obtain ⟨q, hq⟩ : ∃ q, I / 8 = q := ⟨_, rfl⟩
          have hq1 : (I : Int) / 8 = (q : Int) := by omega
          by_cases hbit : K.testBit n = true
          · rw [if_pos hbit] at hmb
            by_cases hin : I < 8 * L
            · obtain ⟨r, hr⟩ : ∃ r, I % 8 = r := ⟨_, rfl⟩
              have hr1 : (I : Int) % 8 = (r : Int) := by omega
              have hqL : q < L := by omega
              have hqL1 : (q : Int) < (L : Int) := by omega
              obtain ⟨g, cp, hv, _, _, _, hcell, hfz⟩ := O5.out.shape (by rw [S5.out.len]; omega)
              rw [S5.out.len] at hv
              cases hv
              have cq := hcell q (by rw [S5.out.len]; omega)
              have fq := hfz q
              rw [bN_eq S5.out.by_] at cq
              have hz := bN_lt S5.out.by_ q
              have hr8 : r < 8 := by omega
              have hT1 : 2 ^ r < 256 := Nat.lt_of_lt_of_le (Nat.pow_lt_pow_right (by decide) hr8) (by decide)
              have hx := u8_xor_nat (bN zs q) (2 ^ r) hz hT1
              have S6 : Hid (Bs ys (zs.set q ((bN zs q ^^^ 2 ^ r : Nat) : Int)) A K L (n + 1) true) := S5.out.flip hbit (by omega) q r (by omega) (by omega)
              have O6 : Hid (Owns .u8 5 (wr.setCell ⟨g, q, none⟩ (.int .u8 ((bN zs q ^^^ 2 ^ r : Nat) : Int))) (.slice (some ⟨g, 0, none⟩) L oc) (zs.set q ((bN zs q ^^^ 2 ^ r : Nat) : Int))) := O5.out.set q _
              have B6 : Hid (Below w.heap.size w (wr.setCell ⟨g, q, none⟩ (.int .u8 ((bN zs q ^^^ 2 ^ r : Nat) : Int)))) := B5.out.setCell (HN2.out g rfl) _
              obtain ⟨Y, hY⟩ : ∃ Y, bN zs q ^^^ 2 ^ r = Y := ⟨_, rfl⟩
              rw [hY] at S6 O6 B6 hx
              generalize bN zs q = z at cq hz hx hY
              obtain ⟨T, hT⟩ : ∃ T, 2 ^ r = T := ⟨_, rfl⟩
              rw [hT] at hT1 hx
              have hT2 : (2 : Int) ^ r = (T : Int) := by rw [← hT, Int.natCast_pow]; rfl
              have hT3 : IntKind.u8.wrap (T : Int) = (T : Int) := by rw [IntKind.wrap_u8']; omega
              have hq2 : (I : Int).tdiv 8 = (q : Int) := by rw [Int.tdiv_eq_ediv_of_nonneg (by omega)]; exact hq1
              have hr2 : (I : Int).tmod 8 = (r : Int) := by rw [Int.tmod_eq_emod_of_nonneg (by omega)]; exact hr1
              have hw1 : IntKind.i64.wrap (q : Int) = (q : Int) := by rw [IntKind.wrap_i64]; omega
              have hw2 : IntKind.i64.wrap (r : Int) = (r : Int) := by rw [IntKind.wrap_i64]; omega
              clear hcell hfz hY hT hI hr S5 O5 B5 hbit hq
              go_wp2_with fail
              refine wp_region_still_tail 13 (by kernel_rfl) (by kernel_rfl) ?_
              simp only [List.take_succ_cons, List.take_zero, List.drop_succ_cons, List.drop_zero]
              repeat still_step
              refine wpStill_nil ?_
              go_wp2_with fail
              go_roundw
              case rel => exact ⟨n + 1, _, true, by omega, by go_num, rfl, S6, by first | exact O6 | exact O6.out.tch (S := fun _ => False) ⟨rfl, rfl, rfl, Nat.le_refl _, fun _ _ _ => rfl⟩ (fun _ _ e => e), B6.out.drew⟩
              case measure => simp [intOf]; omega
            · have hqL1 : ¬ (q : Int) < (L : Int) := by omega
              have S6 : Hid (Bs ys zs A K L (n + 1) c) := S5.out.skip (by rintro ⟨_, h⟩; omega)
              clear S5 hbit hq hI
              go_wp2_with fail
              go_roundw
              case rel => exact ⟨n + 1, zs, c, by omega, by go_num, rfl, S6, O5, B5⟩
              case measure => simp [intOf]; omega
          · have hbf : K.testBit n = false := by simpa using hbit
            rw [if_neg hbit] at hmb
            have S6 : Hid (Bs ys zs A K L (n + 1) c) := S5.out.skip (by rintro ⟨h, _⟩; exact hbit h)
            clear S5 hbit hbf hq hI
            go_wp2_with fail
            go_roundw
            case rel => exact ⟨n + 1, zs, c, by omega, by go_num, rfl, S6, O5, B5⟩
            case measure => simp [intOf]; omega
        · have hn32 : n = 32 := by omega
          rw [hn32] at S5
          have hnn : ¬ (n : Int) < 32 := by omega
          have R5 : Hid (Rd .u8 wr (.slice a L cap) ys) := R1.out.below B5.out
          have HZ : Hid (By zs) := S5.out.by_
          have hsd := S5.out.said hyl HB1.out hA1
          have RZ : Hid (Rd .u8 wr (.slice oa L oc) zs) := O5.out.rd
          clear hlt
          go_wp2_with fail
          refine (crc_any _ zs wr RZ.out HZ.out).mono ?_
          rintro e w6 ⟨rfl, rfl⟩
          go_wp2_with fail
          refine (crc_any _ ys _ R5.out HB1.out).mono ?_
          rintro e w7 ⟨rfl, rfl⟩
          generalize crc zs = X at *
          generalize crc ys = Y at *
          have hsd2 : ((X : Int) != (Y : Int)) = c := by
            rw [← hsd, Bool.eq_iff_iff]
            simp only [bne_iff_ne, ne_eq]
            omega
          have hcc : (c == c) = true := by simp
          go_wp2_with fail
          refine (lives_any _).mono ?_
          rintro e w9 ⟨rfl, hb9⟩
          go_wp2_with fail
          go_ret
          exact ⟨rfl, B5.out.trans (hb9.mono B5.out.size)⟩
    · rw [if_neg hneg] at hP0
      subst hP0
      go_wp2_with fail
      go_loopw [8, 9] (fun ch i wr => ∃ (n : Nat) (zs : List Int) (c : Bool), n ≤ 32 ∧ i = .int .i64 n ∧ ch = .bool c ∧ Hid (Bs ys zs A K L n c) ∧ Hid (Owns .u8 5 wr (.slice oa L oc) zs) ∧ Hid (Below w.heap.size w wr)) (fun _ i _ => 32 - (intOf i).toNat)
      case atStart => exact ⟨0, ys, false, Nat.zero_le _, rfl, rfl, ST, O2, B2⟩
      case round =>
        clear ST O2 B2
        obtain ⟨n, zs, c, hn, rfl, rfl, S5, O5, B5⟩ := hrel
        by_cases hlt : n < 32
        · have hmb := mask_bit K n hK (by omega)
          obtain ⟨I, hI⟩ : ∃ I, A + n = I := ⟨_, rfl⟩
          have hI1 : (A : Int) + (n : Int) = (I : Int) := by omega
          obtain ⟨q, hq⟩ : ∃ q, I / 8 = q := ⟨_, rfl⟩
          have hq1 : (I : Int) / 8 = (q : Int) := by omega
          by_cases hbit : K.testBit n = true
          · rw [if_pos hbit] at hmb
            by_cases hin : I < 8 * L
            · obtain ⟨r, hr⟩ : ∃ r, I % 8 = r := ⟨_, rfl⟩
              have hr1 : (I : Int) % 8 = (r : Int) := by omega
              have hqL : q < L := by omega
              have hqL1 : (q : Int) < (L : Int) := by omega
              obtain ⟨g, cp, hv, _, _, _, hcell, hfz⟩ := O5.out.shape (by rw [S5.out.len]; omega)
              rw [S5.out.len] at hv
              cases hv
              have cq := hcell q (by rw [S5.out.len]; omega)
              have fq := hfz q
              rw [bN_eq S5.out.by_] at cq
              have hz := bN_lt S5.out.by_ q
              have hr8 : r < 8 := by omega
              have hT1 : 2 ^ r < 256 := Nat.lt_of_lt_of_le (Nat.pow_lt_pow_right (by decide) hr8) (by decide)
              have hx := u8_xor_nat (bN zs q) (2 ^ r) hz hT1
              have S6 : Hid (Bs ys (zs.set q ((bN zs q ^^^ 2 ^ r : Nat) : Int)) A K L (n + 1) true) := S5.out.flip hbit (by omega) q r (by omega) (by omega)
              have O6 : Hid (Owns .u8 5 (wr.setCell ⟨g, q, none⟩ (.int .u8 ((bN zs q ^^^ 2 ^ r : Nat) : Int))) (.slice (some ⟨g, 0, none⟩) L oc) (zs.set q ((bN zs q ^^^ 2 ^ r : Nat) : Int))) := O5.out.set q _
              have B6 : Hid (Below w.heap.size w (wr.setCell ⟨g, q, none⟩ (.int .u8 ((bN zs q ^^^ 2 ^ r : Nat) : Int)))) := B5.out.setCell (HN2.out g rfl) _
              obtain ⟨Y, hY⟩ : ∃ Y, bN zs q ^^^ 2 ^ r = Y := ⟨_, rfl⟩
              rw [hY] at S6 O6 B6 hx
              generalize bN zs q = z at cq hz hx hY
              obtain ⟨T, hT⟩ : ∃ T, 2 ^ r = T := ⟨_, rfl⟩
              rw [hT] at hT1 hx
              have hT2 : (2 : Int) ^ r = (T : Int) := by rw [← hT, Int.natCast_pow]; rfl
              have hT3 : IntKind.u8.wrap (T : Int) = (T : Int) := by rw [IntKind.wrap_u8']; omega
              have hq2 : (I : Int).tdiv 8 = (q : Int) := by rw [Int.tdiv_eq_ediv_of_nonneg (by omega)]; exact hq1
              have hr2 : (I : Int).tmod 8 = (r : Int) := by rw [Int.tmod_eq_emod_of_nonneg (by omega)]; exact hr1
              have hw1 : IntKind.i64.wrap (q : Int) = (q : Int) := by rw [IntKind.wrap_i64]; omega
              have hw2 : IntKind.i64.wrap (r : Int) = (r : Int) := by rw [IntKind.wrap_i64]; omega
              clear hcell hfz hY hT hI hr S5 O5 B5 hbit hq
              go_wp2_with fail
              refine wp_region_still_tail 13 (by kernel_rfl) (by kernel_rfl) ?_
              simp only [List.take_succ_cons, List.take_zero, List.drop_succ_cons, List.drop_zero]
              repeat still_step
              refine wpStill_nil ?_
              go_wp2_with fail
              go_roundw
              case rel => exact ⟨n + 1, _, true, by omega, by go_num, rfl, S6, by first | exact O6 | exact O6.out.tch (S := fun _ => False) ⟨rfl, rfl, rfl, Nat.le_refl _, fun _ _ _ => rfl⟩ (fun _ _ e => e), B6.out.drew⟩
              case measure => simp [intOf]; omega
            · have hqL1 : ¬ (q : Int) < (L : Int) := by omega
              have S6 : Hid (Bs ys zs A K L (n + 1) c) := S5.out.skip (by rintro ⟨_, h⟩; omega)
              clear S5 hbit hq hI
              go_wp2_with fail
              go_roundw
              case rel => exact ⟨n + 1, zs, c, by omega, by go_num, rfl, S6, O5, B5⟩
              case measure => simp [intOf]; omega
          · have hbf : K.testBit n = false := by simpa using hbit
            rw [if_neg hbit] at hmb
            have S6 : Hid (Bs ys zs A K L (n + 1) c) := S5.out.skip (by rintro ⟨h, _⟩; exact hbit h)
            clear S5 hbit hbf hq hI
            go_wp2_with fail
            go_roundw
            case rel => exact ⟨n + 1, zs, c, by omega, by go_num, rfl, S6, O5, B5⟩
            case measure => simp [intOf]; omega
        · have hn32 : n = 32 := by omega
          rw [hn32] at S5
          have hnn : ¬ (n : Int) < 32 := by omega
          have R5 : Hid (Rd .u8 wr (.slice a L cap) ys) := R1.out.below B5.out
          have HZ : Hid (By zs) := S5.out.by_
          have hsd := S5.out.said hyl HB1.out hA1
          have RZ : Hid (Rd .u8 wr (.slice oa L oc) zs) := O5.out.rd
          clear hlt
          go_wp2_with fail
          refine (crc_any _ zs wr RZ.out HZ.out).mono ?_
          rintro e w6 ⟨rfl, rfl⟩
          go_wp2_with fail
          refine (crc_any _ ys _ R5.out HB1.out).mono ?_
          rintro e w7 ⟨rfl, rfl⟩
          generalize crc zs = X at *
          generalize crc ys = Y at *
          have hsd2 : ((X : Int) != (Y : Int)) = c := by
            rw [← hsd, Bool.eq_iff_iff]
            simp only [bne_iff_ne, ne_eq]
            omega
          have hcc : (c == c) = true := by simp
          go_wp2_with fail
          refine (lives_any _).mono ?_
          rintro e w9 ⟨rfl, hb9⟩
          go_wp2_with fail
          go_ret
          exact ⟨rfl, B5.out.trans (hb9.mono B5.out.size)⟩
  · have R1 : Hid (Rd .u8 w (.slice a xs.length cap) xs) := H1
    have HB1 : Hid (By xs) := HB
    have hc1 : ¬ (65536 : Int) < (xs.length : Int) := by omega
    have HL1 : Hid (([] : List Int).length + xs.length ≤ 9223372036854775807) := by show _ ≤ _; simp; omega
    have HL2 : Hid ((([] : List Int).length + xs.length) * 1 ≤ 140737488355328) := by show _ ≤ _; simp; omega
    go_wp2_with (at_builtin; refine wpList_many _ rfl (.tmp 16) (.tmp 17) 22 rfl 5 .u8 1 elem8 (.slice none 0 0) [] ?h1 (owns_nil _ _ _) _ xs ?h2 R1.out HL1.out HL2.out ?_; (case h1 => kernel_rfl); (case h2 => kernel_rfl))
    intro ov w2 ho2 hg2
    have HN2 : Hid (∀ k, ov.ownBlock = some k → w.heap.size ≤ k) := hg2.below.2
    obtain ⟨L, hyl⟩ : ∃ L, xs.length = L := ⟨_, rfl⟩
    rw [hyl] at R1 ⊢
    have hL5 : L ≤ 65536 := by omega
    have hLc : L ≤ cap := by omega
    clear hc1 c H1 HB HL1 HL2
    obtain ⟨b2, n2⟩ := hg2.below
    have O2 : Hid (Owns .u8 5 w2 ov xs) := ho2
    have B2 : Hid (Below w.heap.size w w2) := b2
    clear ho2 hg2 b2 n2
    obtain ⟨oa, oc, hov, ho1, ho2, _⟩ := O2.out.rd
    rw [hyl] at hov ho1
    subst hov
    have hoc : oc ≤ 9223372036854775807 := by unfold maxLen at ho2; omega
    clear ho2
    obtain ⟨P, hP0, hP1⟩ : ∃ P : Int, P = (if at_ < 0 then -(at_ + 1) else at_) ∧ 0 ≤ P := ⟨_, rfl, by split <;> omega⟩
    have hP2 : P ≤ 9223372036854775807 := by rw [hP0]; split <;> omega
    obtain ⟨A, hA⟩ : ∃ A : Nat, P % (8 * (L : Int) + 1) = (A : Int) := ⟨(P % (8 * (L : Int) + 1)).toNat, by have := Int.emod_nonneg P (show (8 * (L : Int) + 1) ≠ 0 by omega); omega⟩
    have hA1 : A ≤ 8 * L := by have := Int.emod_lt_of_pos P (show 0 < (8 * (L : Int) + 1) by omega); omega
    have hmod : P.tmod (8 * (L : Int) + 1) = (A : Int) := by rw [Int.tmod_eq_emod_of_nonneg hP1]; exact hA
    have ST : Hid (Bs xs xs A K L 0 false) := Bs.start A K L hyl HB1.out
    by_cases hneg : at_ < 0
    · rw [if_pos hneg] at hP0
      have hn1 : -(at_ + 1) = P := hP0.symm
      clear hP0
      go_wp2_with fail
      go_loopw [8, 9] (fun ch i wr => ∃ (n : Nat) (zs : List Int) (c : Bool), n ≤ 32 ∧ i = .int .i64 n ∧ ch = .bool c ∧ Hid (Bs xs zs A K L n c) ∧ Hid (Owns .u8 5 wr (.slice oa L oc) zs) ∧ Hid (Below w.heap.size w wr)) (fun _ i _ => 32 - (intOf i).toNat)
      case atStart => exact ⟨0, xs, false, Nat.zero_le _, rfl, rfl, ST, O2, B2⟩
      case round =>
        clear ST O2 B2
        obtain ⟨n, zs, c, hn, rfl, rfl, S5, O5, B5⟩ := hrel
        by_cases hlt : n < 32
        · have hmb := mask_bit K n hK (by omega)
          obtain ⟨I, hI⟩ : ∃ I, A + n = I := ⟨_, rfl⟩
          have hI1 : (A : Int) + (n : Int) = (I : Int) := by omega
          obtain ⟨q, hq⟩ : ∃ q, I / 8 = q := ⟨_, rfl⟩
          have hq1 : (I : Int) / 8 = (q : Int) := by omega
          by_cases hbit : K.testBit n = true
          · rw [if_pos hbit] at hmb
            by_cases hin : I < 8 * L
            · obtain ⟨r, hr⟩ : ∃ r, I % 8 = r := ⟨_, rfl⟩
              have hr1 : (I : Int) % 8 = (r : Int) := by omega
              have hqL : q < L := by omega
              have hqL1 : (q : Int) < (L : Int) := by omega
              obtain ⟨g, cp, hv, _, _, _, hcell, hfz⟩ := O5.out.shape (by rw [S5.out.len]; omega)
              rw [S5.out.len] at hv
              cases hv
              have cq := hcell q (by rw [S5.out.len]; omega)
              have fq := hfz q
              rw [bN_eq S5.out.by_] at cq
              have hz := bN_lt S5.out.by_ q
              have hr8 : r < 8 := by omega
              have hT1 : 2 ^ r < 256 := Nat.lt_of_lt_of_le (Nat.pow_lt_pow_right (by decide) hr8) (by decide)
              have hx := u8_xor_nat (bN zs q) (2 ^ r) hz hT1
              have S6 : Hid (Bs xs (zs.set q ((bN zs q ^^^ 2 ^ r : Nat) : Int)) A K L (n + 1) true) := S5.out.flip hbit (by omega) q r (by omega) (by omega)
              have O6 : Hid (Owns .u8 5 (wr.setCell ⟨g, q, none⟩ (.int .u8 ((bN zs q ^^^ 2 ^ r : Nat) : Int))) (.slice (some ⟨g, 0, none⟩) L oc) (zs.set q ((bN zs q ^^^ 2 ^ r : Nat) : Int))) := O5.out.set q _
              have B6 : Hid (Below w.heap.size w (wr.setCell ⟨g, q, none⟩ (.int .u8 ((bN zs q ^^^ 2 ^ r : Nat) : Int)))) := B5.out.setCell (HN2.out g rfl) _
              obtain ⟨Y, hY⟩ : ∃ Y, bN zs q ^^^ 2 ^ r = Y := ⟨_, rfl⟩
              rw [hY] at S6 O6 B6 hx
              generalize bN zs q = z at cq hz hx hY
              obtain ⟨T, hT⟩ : ∃ T, 2 ^ r = T := ⟨_, rfl⟩
              rw [hT] at hT1 hx
              have hT2 : (2 : Int) ^ r = (T : Int) := by rw [← hT, Int.natCast_pow]; rfl
              have hT3 : IntKind.u8.wrap (T : Int) = (T : Int) := by rw [IntKind.wrap_u8']; omega
              have hq2 : (I : Int).tdiv 8 = (q : Int) := by rw [Int.tdiv_eq_ediv_of_nonneg (by omega)]; exact hq1
              have hr2 : (I : Int).tmod 8 = (r : Int) := by rw [Int.tmod_eq_emod_of_nonneg (by omega)]; exact hr1
              have hw1 : IntKind.i64.wrap (q : Int) = (q : Int) := by rw [IntKind.wrap_i64]; omega
              have hw2 : IntKind.i64.wrap (r : Int) = (r : Int) := by rw [IntKind.wrap_i64]; omega
              clear hcell hfz hY hT hI hr S5 O5 B5 hbit hq
              go_wp2_with fail
              refine wp_region_still_tail 13 (by kernel_rfl) (by kernel_rfl) ?_
              simp only [List.take_succ_cons, List.take_zero, List.drop_succ_cons, List.drop_zero]
              repeat still_step
              refine wpStill_nil ?_
              go_wp2_with fail
              go_roundw
              case rel => exact ⟨n + 1, _, true, by omega, by go_num, rfl, S6, by first | exact O6 | exact O6.out.tch (S := fun _ => False) ⟨rfl, rfl, rfl, Nat.le_refl _, fun _ _ _ => rfl⟩ (fun _ _ e => e), B6.out.drew⟩
              case measure => simp [intOf]; omega
            · have hqL1 : ¬ (q : Int) < (L : Int) := by omega
              have S6 : Hid (Bs xs zs A K L (n + 1) c) := S5.out.skip (by rintro ⟨_, h⟩; omega)
              clear S5 hbit hq hI
              go_wp2_with fail
              go_roundw
              case rel => exact ⟨n + 1, zs, c, by omega, by go_num, rfl, S6, O5, B5⟩
              case measure => simp [intOf]; omega
          · have hbf : K.testBit n = false := by simpa using hbit
            rw [if_neg hbit] at hmb
            have S6 : Hid (Bs xs zs A K L (n + 1) c) := S5.out.skip (by rintro ⟨h, _⟩; exact hbit h)
            clear S5 hbit hbf hq hI
            go_wp2_with fail
            go_roundw
            case rel => exact ⟨n + 1, zs, c, by omega, by go_num, rfl, S6, O5, B5⟩
            case measure => simp [intOf]; omega
        · have hn32 : n = 32 := by omega
          rw [hn32] at S5
          have hnn : ¬ (n : Int) < 32 := by omega
          have R5 : Hid (Rd .u8 wr (.slice a L cap) xs) := R1.out.below B5.out
          have HZ : Hid (By zs) := S5.out.by_
          have hsd := S5.out.said hyl HB1.out hA1
          have RZ : Hid (Rd .u8 wr (.slice oa L oc) zs) := O5.out.rd
          clear hlt
          go_wp2_with fail
          refine (crc_any _ zs wr RZ.out HZ.out).mono ?_
          rintro e w6 ⟨rfl, rfl⟩
          go_wp2_with fail
          refine (crc_any _ xs _ R5.out HB1.out).mono ?_
          rintro e w7 ⟨rfl, rfl⟩
          generalize crc zs = X at *
          generalize crc xs = Y at *
          have hsd2 : ((X : Int) != (Y : Int)) = c := by
            rw [← hsd, Bool.eq_iff_iff]
            simp only [bne_iff_ne, ne_eq]
            omega
          have hcc : (c == c) = true := by simp
          go_wp2_with fail
          refine (lives_any _).mono ?_
          rintro e w9 ⟨rfl, hb9⟩
          go_wp2_with fail
          go_ret
          exact ⟨rfl, B5.out.trans (hb9.mono B5.out.size)⟩
    · rw [if_neg hneg] at hP0
      subst hP0
      go_wp2_with fail
      go_loopw [8, 9] (fun ch i wr => ∃ (n : Nat) (zs : List Int) (c : Bool), n ≤ 32 ∧ i = .int .i64 n ∧ ch = .bool c ∧ Hid (Bs xs zs A K L n c) ∧ Hid (Owns .u8 5 wr (.slice oa L oc) zs) ∧ Hid (Below w.heap.size w wr)) (fun _ i _ => 32 - (intOf i).toNat)
      case atStart => exact ⟨0, xs, false, Nat.zero_le _, rfl, rfl, ST, O2, B2⟩
      case round =>
        clear ST O2 B2
        obtain ⟨n, zs, c, hn, rfl, rfl, S5, O5, B5⟩ := hrel
        by_cases hlt : n < 32
        · have hmb := mask_bit K n hK (by omega)
          obtain ⟨I, hI⟩ : ∃ I, A + n = I := ⟨_, rfl⟩
          have hI1 : (A : Int) + (n : Int) = (I : Int) := by omega
          obtain ⟨q, hq⟩ : ∃ q, I / 8 = q := ⟨_, rfl⟩
          have hq1 : (I : Int) / 8 = (q : Int) := by omega
          by_cases hbit : K.testBit n = true
          · rw [if_pos hbit] at hmb
            by_cases hin : I < 8 * L
            · obtain ⟨r, hr⟩ : ∃ r, I % 8 = r := ⟨_, rfl⟩
              have hr1 : (I : Int) % 8 = (r : Int) := by omega
              have hqL : q < L := by omega
              have hqL1 : (q : Int) < (L : Int) := by omega
              obtain ⟨g, cp, hv, _, _, _, hcell, hfz⟩ := O5.out.shape (by rw [S5.out.len]; omega)
              rw [S5.out.len] at hv
              cases hv
              have cq := hcell q (by rw [S5.out.len]; omega)
              have fq := hfz q
              rw [bN_eq S5.out.by_] at cq
              have hz := bN_lt S5.out.by_ q
              have hr8 : r < 8 := by omega
              have hT1 : 2 ^ r < 256 := Nat.lt_of_lt_of_le (Nat.pow_lt_pow_right (by decide) hr8) (by decide)
              have hx := u8_xor_nat (bN zs q) (2 ^ r) hz hT1
              have S6 : Hid (Bs xs (zs.set q ((bN zs q ^^^ 2 ^ r : Nat) : Int)) A K L (n + 1) true) := S5.out.flip hbit (by omega) q r (by omega) (by omega)
              have O6 : Hid (Owns .u8 5 (wr.setCell ⟨g, q, none⟩ (.int .u8 ((bN zs q ^^^ 2 ^ r : Nat) : Int))) (.slice (some ⟨g, 0, none⟩) L oc) (zs.set q ((bN zs q ^^^ 2 ^ r : Nat) : Int))) := O5.out.set q _
              have B6 : Hid (Below w.heap.size w (wr.setCell ⟨g, q, none⟩ (.int .u8 ((bN zs q ^^^ 2 ^ r : Nat) : Int)))) := B5.out.setCell (HN2.out g rfl) _
              obtain ⟨Y, hY⟩ : ∃ Y, bN zs q ^^^ 2 ^ r = Y := ⟨_, rfl⟩
              rw [hY] at S6 O6 B6 hx
              generalize bN zs q = z at cq hz hx hY
              obtain ⟨T, hT⟩ : ∃ T, 2 ^ r = T := ⟨_, rfl⟩
              rw [hT] at hT1 hx
              have hT2 : (2 : Int) ^ r = (T : Int) := by rw [← hT, Int.natCast_pow]; rfl
              have hT3 : IntKind.u8.wrap (T : Int) = (T : Int) := by rw [IntKind.wrap_u8']; omega
              have hq2 : (I : Int).tdiv 8 = (q : Int) := by rw [Int.tdiv_eq_ediv_of_nonneg (by omega)]; exact hq1
              have hr2 : (I : Int).tmod 8 = (r : Int) := by rw [Int.tmod_eq_emod_of_nonneg (by omega)]; exact hr1
              have hw1 : IntKind.i64.wrap (q : Int) = (q : Int) := by rw [IntKind.wrap_i64]; omega
              have hw2 : IntKind.i64.wrap (r : Int) = (r : Int) := by rw [IntKind.wrap_i64]; omega
              clear hcell hfz hY hT hI hr S5 O5 B5 hbit hq
              go_wp2_with fail
              refine wp_region_still_tail 13 (by kernel_rfl) (by kernel_rfl) ?_
              simp only [List.take_succ_cons, List.take_zero, List.drop_succ_cons, List.drop_zero]
              repeat still_step
              refine wpStill_nil ?_
              go_wp2_with fail
              go_roundw
              case rel => exact ⟨n + 1, _, true, by omega, by go_num, rfl, S6, by first | exact O6 | exact O6.out.tch (S := fun _ => False) ⟨rfl, rfl, rfl, Nat.le_refl _, fun _ _ _ => rfl⟩ (fun _ _ e => e), B6.out.drew⟩
              case measure => simp [intOf]; omega
            · have hqL1 : ¬ (q : Int) < (L : Int) := by omega
              have S6 : Hid (Bs xs zs A K L (n + 1) c) := S5.out.skip (by rintro ⟨_, h⟩; omega)
              clear S5 hbit hq hI
              go_wp2_with fail
              go_roundw
              case rel => exact ⟨n + 1, zs, c, by omega, by go_num, rfl, S6, O5, B5⟩
              case measure => simp [intOf]; omega
          · have hbf : K.testBit n = false := by simpa using hbit
            rw [if_neg hbit] at hmb
            have S6 : Hid (Bs xs zs A K L (n + 1) c) := S5.out.skip (by rintro ⟨h, _⟩; exact hbit h)
            clear S5 hbit hbf hq hI
            go_wp2_with fail
            go_roundw
            case rel => exact ⟨n + 1, zs, c, by omega, by go_num, rfl, S6, O5, B5⟩
            case measure => simp [intOf]; omega
        · have hn32 : n = 32 := by omega
          rw [hn32] at S5
          have hnn : ¬ (n : Int) < 32 := by omega
          have R5 : Hid (Rd .u8 wr (.slice a L cap) xs) := R1.out.below B5.out
          have HZ : Hid (By zs) := S5.out.by_
          have hsd := S5.out.said hyl HB1.out hA1
          have RZ : Hid (Rd .u8 wr (.slice oa L oc) zs) := O5.out.rd
          clear hlt
          go_wp2_with fail
          refine (crc_any _ zs wr RZ.out HZ.out).mono ?_
          rintro e w6 ⟨rfl, rfl⟩
          go_wp2_with fail
          refine (crc_any _ xs _ R5.out HB1.out).mono ?_
          rintro e w7 ⟨rfl, rfl⟩
          generalize crc zs = X at *
          generalize crc xs = Y at *
          have hsd2 : ((X : Int) != (Y : Int)) = c := by
            rw [← hsd, Bool.eq_iff_iff]
            simp only [bne_iff_ne, ne_eq]
            omega
          have hcc : (c == c) = true := by simp
          go_wp2_with fail
          refine (lives_any _).mono ?_
          rintro e w9 ⟨rfl, hb9⟩
          go_wp2_with fail
          go_ret
          exact ⟨rfl, B5.out.trans (hb9.mono B5.out.size)⟩
end Go.Proofs.Ytndbpbbhipiolaa
