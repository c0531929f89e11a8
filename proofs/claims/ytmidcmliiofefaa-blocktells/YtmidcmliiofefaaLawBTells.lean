/-
  BlockTells: a sector that was changed within 32 bits side by side is none: for every number, block, place and mask the law answers true.
-/
import Derived.Test.YtmidcmliiofefaaLawBGets
import Derived.Test.YtmidcmliiofefaaSBs
import Derived.StillTailTactics
namespace Go.Proofs.Ytmidcmliiofefaa
open Go.RowKit Pl
set_option linter.unusedVariables false
set_option linter.unusedSimpArgs false
set_option maxRecDepth 100000

theorem Wb.cellB {w : World} {g k cap : Nat} {zs : List Int} (h : Wb w (.slice (some ⟨g, 0, none⟩) k cap) zs) (hl : zs.length = k) {j : Nat} (hj : j < k) : w.cell? ⟨g, j, none⟩ = some (.int .u8 (zs.getD j 0)) := by
  obtain ⟨b, cp, t, C, e, h1, h2, h3, h4⟩ := h
  cases e
  rw [cell_of_row w g j C t (0, 0) h3]
  have e : (C.toList.take zs.length)[j]? = C.toList[j]? := by rw [List.getElem?_take, if_pos hj]
  rw [← Array.getElem?_toList, ← e, h4, bcs, List.getElem?_map, List.getD_eq_getElem?_getD, List.getElem?_eq_getElem hj]
  rfl

/-- What is told of a sector some bits of which were turned. -/
theorem tells_code {n : Int} {T zs : List Int} {A K : Nat} {c : Bool} (hl : T.length = 256) (hb : By T) (hs : T = smd T) (h0 : getE n T = 0) (h : Bs T zs A K 256 32 c) (hA : A ≤ 2048) : getE n zs = if c = true then 6 else 0 := by
  have ht := sec_told hl h.len hb h.by_ hs hA h.bits
  cases c with
  | true =>
    have hne := ht.1 (h.told.1 rfl)
    unfold getE
    rw [if_neg (by rw [h.len]; simp), if_pos hne]
    rfl
  | false =>
    have hno : ∀ p, dd A K (8 * 256) 32 p = false := fun p => by
      cases hp : dd A K (8 * 256) 32 p with
      | false => rfl
      | true => have := h.told.2 ⟨p, hp⟩; cases this
    have e : zs = T := ext_bits (by rw [h.len, hl]) hb h.by_ (fun j i hj hi => by
      rw [h.bits j i (by rw [hl] at hj; exact hj) hi, hno]
      simp)
    rw [e, h0]
    rfl

set_option maxHeartbeats 4000000 in
theorem blockTells_walk (n k at_ : Int) (K : Nat) (v : Value) (ys : List Int) (w : World) (hr : Rd .u8 w v ys) (hb : By ys) (ha0 : -9223372036854775808 ≤ at_) (ha1 : at_ ≤ 9223372036854775807) (hK : K < 4294967296) :
    Calls Try.prog 6 #[.int .i64 n, .agg #[.int .i64 k, v], .int .i64 at_, .int .u32 (K : Int)] w fun e w' => e = .returned (.bool true) ∧ Below w.heap.size w w' := by
  obtain ⟨a, cap, rfl, h1, h2, _⟩ := id hr
  have HY : Hid (Rd .u8 w (.slice a ys.length cap) ys) := hr
  have BY : Hid (By ys) := hb
  obtain ⟨l, hl⟩ : ∃ l, Hid (ys.length = l) := ⟨_, rfl⟩
  rw [hl.out] at HY ⊢
  obtain ⟨W1, hW1⟩ : ∃ W1, w.alloc (.cells #[.int .i64 k, .slice a l cap] 24) = W1 := ⟨_, rfl⟩
  have B1 : Hid (Below w.heap.size w W1) := by rw [← hW1]; exact (Below.refl _ _).alloc (Nat.le_refl _) _
  have V1 : Hid (Bkv W1 w.heap.size k (.slice a l cap)) := by rw [← hW1]; exact bkv_new w _ _
  have p0 := V1.out.c0
  have p1 := V1.out.c1
  have HP1 := hideP (put_any n k _ ys W1 (HY.out.below B1.out) BY.out)
  unfold blk at HP1
  clear hr hb h1 h2
  go_enter Try.func6, Try.ntmps6
  go_wp2_with fail
  refine HP1.out.mono ?_
  rintro e w3 ⟨v3, c3, rfl, b3, n3, h3⟩
  have B3 : Hid (Below w.heap.size w w3) := B1.out.trans (b3.mono B1.out.size)
  rcases h3 with ⟨hm, rfl, wb3, g, rfl⟩ | ⟨_, rfl, rfl⟩
  rotate_left
  · clear b3 n3 p0 p1 hW1
    go_wp2_with fail
    refine (lives_anyB w3).mono ?_
    rintro e w5 ⟨rfl, b5⟩
    go_wp2_with fail
    go_ret
    exact ⟨rfl, B3.out.trans (b5.mono B3.out.size)⟩
  have NW : Hid (w.heap.size ≤ g) := Nat.le_trans B1.out.size (n3 g rfl)
  have HGP := hideP (getE_put hm)
  have hy4 : ys.length ≤ 244 := by have := (mayK_iff.1 hm).2.2.2.2; omega
  have HTL : Hid ((sec n k ys).length = 256) := sec_len n k hy4
  have HTS : Hid (sec n k ys = smd (sec n k ys)) := (sec_smd n k hy4).symm
  have HTB : Hid (By (sec n k ys)) := by
    obtain ⟨m1, m2, m3, m4, m5⟩ := mayK_iff.1 hm
    exact sec_by ⟨m1, m2⟩ ⟨m3, m4⟩ BY.out (by omega)
  obtain ⟨T, hT⟩ : ∃ T, Hid (sec n k ys = T) := ⟨_, rfl⟩
  rw [hT.out] at wb3 HGP HTB HTL HTS
  have X3 : Hid (Wb w3 (.slice (some ⟨g, 0, none⟩) 256 256) T) := wb3
  clear b3 n3 hm wb3 p0 p1 hy4 hW1
  obtain ⟨P, hP0, hP1⟩ : ∃ P : Int, P = (if at_ < 0 then -(at_ + 1) else at_) ∧ 0 ≤ P := ⟨_, rfl, by split <;> omega⟩
  have hP2 : P ≤ 9223372036854775807 := by rw [hP0]; split <;> omega
  obtain ⟨A, hA⟩ : ∃ A : Nat, P % 2048 = (A : Int) := ⟨(P % 2048).toNat, by omega⟩
  have hA1 : A < 2048 := by omega
  have HA : Hid (A ≤ 2048) := Nat.le_of_lt hA1
  have hmod : P.tmod 2048 = (A : Int) := by rw [Int.tmod_eq_emod_of_nonneg hP1]; exact hA
  have ST : Hid (Bs T T A K 256 0 false) := Bs.start A K 256 HTL.out HTB.out
  by_cases hneg : at_ < 0
  · rw [if_pos hneg] at hP0
    have hn1 : -(at_ + 1) = P := hP0.symm
    clear hP0
    go_wp2_with fail
    go_loopw [11, 12] (fun ch i wr => ∃ (m : Nat) (zs : List Int) (c : Bool), m ≤ 32 ∧ i = .int .i64 m ∧ ch = .bool c ∧ Hid (Bs T zs A K 256 m c) ∧ Hid (Wb wr (.slice (some ⟨g, 0, none⟩) 256 256) zs) ∧ Hid (Below w.heap.size w wr)) (fun _ i _ => 32 - (intOf i).toNat)
    case atStart => exact ⟨0, T, false, Nat.zero_le _, rfl, rfl, ST, X3, B3⟩
    case round =>
      clear ST X3 B3
      obtain ⟨m, zs, c, hm, rfl, rfl, S5, O5, B5⟩ := hrel
      by_cases hlt : m < 32
      · have hmb := mask_bit K m hK (by omega)
        obtain ⟨I, hI⟩ : ∃ I, A + m = I := ⟨_, rfl⟩
        have hI1 : (A : Int) + (m : Int) = (I : Int) := by omega
        by_cases hbit : K.testBit m = true
        · rw [if_pos hbit] at hmb
          by_cases hin : I < 2048
          · have hin1 : (I : Int) < 2048 := by omega
            obtain ⟨q, hq⟩ : ∃ q, I / 8 = q := ⟨_, rfl⟩
            have hq1 : (I : Int) / 8 = (q : Int) := by omega
            obtain ⟨r, hr⟩ : ∃ r, I % 8 = r := ⟨_, rfl⟩
            have hr1 : (I : Int) % 8 = (r : Int) := by omega
            have hqL : q < 256 := by omega
            have hqL1 : (q : Int) < 256 := by omega
            have cq := Wb.cellB O5.out S5.out.len hqL
            have fq := O5.out.fz q
            rw [bN_eq S5.out.by_] at cq
            have hz := bN_lt S5.out.by_ q
            have hr8 : r < 8 := by omega
            have hT1 : 2 ^ r < 256 := Nat.lt_of_lt_of_le (Nat.pow_lt_pow_right (by decide) hr8) (by decide)
            have hx := u8_xor_nat (bN zs q) (2 ^ r) hz hT1
            have S6 : Hid (Bs T (zs.set q ((bN zs q ^^^ 2 ^ r : Nat) : Int)) A K 256 (m + 1) true) := S5.out.flip hbit (by omega) q r (by omega) (by omega)
            have O6 : Hid (Wb (wr.setCell ⟨g, q, none⟩ (.int .u8 ((bN zs q ^^^ 2 ^ r : Nat) : Int))) (.slice (some ⟨g, 0, none⟩) 256 256) (zs.set q ((bN zs q ^^^ 2 ^ r : Nat) : Int))) := O5.out.set q _
            have B6 : Hid (Below w.heap.size w (wr.setCell ⟨g, q, none⟩ (.int .u8 ((bN zs q ^^^ 2 ^ r : Nat) : Int)))) := B5.out.setCell NW.out _
            obtain ⟨Y, hY⟩ : ∃ Y, bN zs q ^^^ 2 ^ r = Y := ⟨_, rfl⟩
            rw [hY] at S6 O6 B6 hx
            generalize bN zs q = z at cq hz hx hY
            obtain ⟨P2, hT⟩ : ∃ P2, 2 ^ r = P2 := ⟨_, rfl⟩
            rw [hT] at hT1 hx
            have hT2 : (2 : Int) ^ r = (P2 : Int) := by rw [← hT, Int.natCast_pow]; rfl
            have hT3 : IntKind.u8.wrap (P2 : Int) = (P2 : Int) := by rw [IntKind.wrap_u8']; omega
            have hq2 : (I : Int).tdiv 8 = (q : Int) := by rw [Int.tdiv_eq_ediv_of_nonneg (by omega)]; exact hq1
            have hr2 : (I : Int).tmod 8 = (r : Int) := by rw [Int.tmod_eq_emod_of_nonneg (by omega)]; exact hr1
            have hw1 : IntKind.i64.wrap (q : Int) = (q : Int) := by rw [IntKind.wrap_i64]; omega
            have hw2 : IntKind.i64.wrap (r : Int) = (r : Int) := by rw [IntKind.wrap_i64]; omega
            clear hY hT hI hr S5 O5 B5 hbit hq
            go_wp2_with fail
            refine wp_region_still_tail 13 (by kernel_rfl) (by kernel_rfl) ?_
            simp only [List.take_succ_cons, List.take_zero, List.drop_succ_cons, List.drop_zero]
            repeat still_step
            refine wpStill_nil ?_
            go_wp2_with fail
            go_roundw
            case rel => exact ⟨m + 1, _, true, by omega, by go_num, rfl, S6, by first | exact O6 | exact O6.out.tch (S := fun _ => False) ⟨rfl, rfl, rfl, Nat.le_refl _, fun _ _ _ => rfl⟩ (fun _ _ e => e), B6.out.drew⟩
            case measure => simp [intOf]; omega
          · have hqL1 : ¬ (I : Int) < 2048 := by omega
            have S6 : Hid (Bs T zs A K 256 (m + 1) c) := S5.out.skip (by rintro ⟨_, h⟩; omega)
            clear S5 hbit hI
            go_wp2_with fail
            go_roundw
            case rel => exact ⟨m + 1, zs, c, by omega, by go_num, rfl, S6, O5, B5⟩
            case measure => simp [intOf]; omega
        · have hbf : K.testBit m = false := by simpa using hbit
          rw [if_neg hbit] at hmb
          have S6 : Hid (Bs T zs A K 256 (m + 1) c) := S5.out.skip (by rintro ⟨h, _⟩; exact hbit h)
          clear S5 hbit hbf hI
          go_wp2_with fail
          go_roundw
          case rel => exact ⟨m + 1, zs, c, by omega, by go_num, rfl, S6, O5, B5⟩
          case measure => simp [intOf]; omega
      · have hn32 : m = 32 := by omega
        rw [hn32] at S5
        have hnn : ¬ (m : Int) < 32 := by omega
        have HZ : Hid (By zs) := S5.out.by_
        have HCD : Hid (getE n zs = if c = true then 6 else 0) := tells_code HTL.out HTB.out HTS.out HGP.out.1 S5.out HA.out
        clear hlt
        go_wp2_with fail
        refine (get_any n _ zs wr O5.out.rd HZ.out).mono ?_
        intro e w6 h
        obtain ⟨a6, l6, c6, K6, E6, Y6, rfl, hE6, hK6, hl6, r6, b6, _⟩ := getR_open h
        clear h
        rw [HCD.out] at hE6
        obtain ⟨W7, hW7⟩ : ∃ W7, w6.alloc (.cells #[.int .i64 K6, .slice a6 l6 c6] 24) = W7 := ⟨_, rfl⟩
        have b7 : Below w6.heap.size w6 W7 := by rw [← hW7]; exact (Below.refl _ _).alloc (Nat.le_refl _) _
        have B7 : Hid (Below w.heap.size w W7) := B5.out.trans ((b6.trans (b7.mono b6.size)).mono B5.out.size)
        clear S5 O5 B5 hK6 hl6 r6 b6 b7 HCD HZ hn32
        cases c with
        | true =>
          obtain rfl : 6 = E6 := by simpa using hE6
          clear hE6
          go_wp2_with fail
          refine (lives_anyB W7).mono ?_
          rintro e w10 ⟨rfl, b10⟩
          go_wp2_with fail
          go_ret
          exact ⟨rfl, B7.out.trans (b10.mono B7.out.size)⟩
        | false =>
          obtain rfl : 0 = E6 := by simpa using hE6
          clear hE6
          go_wp2_with fail
          refine (lives_anyB W7).mono ?_
          rintro e w10 ⟨rfl, b10⟩
          go_wp2_with fail
          go_ret
          exact ⟨rfl, B7.out.trans (b10.mono B7.out.size)⟩
  · rw [if_neg hneg] at hP0
    subst hP0
    go_wp2_with fail
    go_loopw [11, 12] (fun ch i wr => ∃ (m : Nat) (zs : List Int) (c : Bool), m ≤ 32 ∧ i = .int .i64 m ∧ ch = .bool c ∧ Hid (Bs T zs A K 256 m c) ∧ Hid (Wb wr (.slice (some ⟨g, 0, none⟩) 256 256) zs) ∧ Hid (Below w.heap.size w wr)) (fun _ i _ => 32 - (intOf i).toNat)
    case atStart => exact ⟨0, T, false, Nat.zero_le _, rfl, rfl, ST, X3, B3⟩
    case round =>
      clear ST X3 B3
      obtain ⟨m, zs, c, hm, rfl, rfl, S5, O5, B5⟩ := hrel
      by_cases hlt : m < 32
      · have hmb := mask_bit K m hK (by omega)
        obtain ⟨I, hI⟩ : ∃ I, A + m = I := ⟨_, rfl⟩
        have hI1 : (A : Int) + (m : Int) = (I : Int) := by omega
        by_cases hbit : K.testBit m = true
        · rw [if_pos hbit] at hmb
          by_cases hin : I < 2048
          · have hin1 : (I : Int) < 2048 := by omega
            obtain ⟨q, hq⟩ : ∃ q, I / 8 = q := ⟨_, rfl⟩
            have hq1 : (I : Int) / 8 = (q : Int) := by omega
            obtain ⟨r, hr⟩ : ∃ r, I % 8 = r := ⟨_, rfl⟩
            have hr1 : (I : Int) % 8 = (r : Int) := by omega
            have hqL : q < 256 := by omega
            have hqL1 : (q : Int) < 256 := by omega
            have cq := Wb.cellB O5.out S5.out.len hqL
            have fq := O5.out.fz q
            rw [bN_eq S5.out.by_] at cq
            have hz := bN_lt S5.out.by_ q
            have hr8 : r < 8 := by omega
            have hT1 : 2 ^ r < 256 := Nat.lt_of_lt_of_le (Nat.pow_lt_pow_right (by decide) hr8) (by decide)
            have hx := u8_xor_nat (bN zs q) (2 ^ r) hz hT1
            have S6 : Hid (Bs T (zs.set q ((bN zs q ^^^ 2 ^ r : Nat) : Int)) A K 256 (m + 1) true) := S5.out.flip hbit (by omega) q r (by omega) (by omega)
            have O6 : Hid (Wb (wr.setCell ⟨g, q, none⟩ (.int .u8 ((bN zs q ^^^ 2 ^ r : Nat) : Int))) (.slice (some ⟨g, 0, none⟩) 256 256) (zs.set q ((bN zs q ^^^ 2 ^ r : Nat) : Int))) := O5.out.set q _
            have B6 : Hid (Below w.heap.size w (wr.setCell ⟨g, q, none⟩ (.int .u8 ((bN zs q ^^^ 2 ^ r : Nat) : Int)))) := B5.out.setCell NW.out _
            obtain ⟨Y, hY⟩ : ∃ Y, bN zs q ^^^ 2 ^ r = Y := ⟨_, rfl⟩
            rw [hY] at S6 O6 B6 hx
            generalize bN zs q = z at cq hz hx hY
            obtain ⟨P2, hT⟩ : ∃ P2, 2 ^ r = P2 := ⟨_, rfl⟩
            rw [hT] at hT1 hx
            have hT2 : (2 : Int) ^ r = (P2 : Int) := by rw [← hT, Int.natCast_pow]; rfl
            have hT3 : IntKind.u8.wrap (P2 : Int) = (P2 : Int) := by rw [IntKind.wrap_u8']; omega
            have hq2 : (I : Int).tdiv 8 = (q : Int) := by rw [Int.tdiv_eq_ediv_of_nonneg (by omega)]; exact hq1
            have hr2 : (I : Int).tmod 8 = (r : Int) := by rw [Int.tmod_eq_emod_of_nonneg (by omega)]; exact hr1
            have hw1 : IntKind.i64.wrap (q : Int) = (q : Int) := by rw [IntKind.wrap_i64]; omega
            have hw2 : IntKind.i64.wrap (r : Int) = (r : Int) := by rw [IntKind.wrap_i64]; omega
            clear hY hT hI hr S5 O5 B5 hbit hq
            go_wp2_with fail
            refine wp_region_still_tail 13 (by kernel_rfl) (by kernel_rfl) ?_
            simp only [List.take_succ_cons, List.take_zero, List.drop_succ_cons, List.drop_zero]
            repeat still_step
            refine wpStill_nil ?_
            go_wp2_with fail
            go_roundw
            case rel => exact ⟨m + 1, _, true, by omega, by go_num, rfl, S6, by first | exact O6 | exact O6.out.tch (S := fun _ => False) ⟨rfl, rfl, rfl, Nat.le_refl _, fun _ _ _ => rfl⟩ (fun _ _ e => e), B6.out.drew⟩
            case measure => simp [intOf]; omega
          · have hqL1 : ¬ (I : Int) < 2048 := by omega
            have S6 : Hid (Bs T zs A K 256 (m + 1) c) := S5.out.skip (by rintro ⟨_, h⟩; omega)
            clear S5 hbit hI
            go_wp2_with fail
            go_roundw
            case rel => exact ⟨m + 1, zs, c, by omega, by go_num, rfl, S6, O5, B5⟩
            case measure => simp [intOf]; omega
        · have hbf : K.testBit m = false := by simpa using hbit
          rw [if_neg hbit] at hmb
          have S6 : Hid (Bs T zs A K 256 (m + 1) c) := S5.out.skip (by rintro ⟨h, _⟩; exact hbit h)
          clear S5 hbit hbf hI
          go_wp2_with fail
          go_roundw
          case rel => exact ⟨m + 1, zs, c, by omega, by go_num, rfl, S6, O5, B5⟩
          case measure => simp [intOf]; omega
      · have hn32 : m = 32 := by omega
        rw [hn32] at S5
        have hnn : ¬ (m : Int) < 32 := by omega
        have HZ : Hid (By zs) := S5.out.by_
        have HCD : Hid (getE n zs = if c = true then 6 else 0) := tells_code HTL.out HTB.out HTS.out HGP.out.1 S5.out HA.out
        clear hlt
        go_wp2_with fail
        refine (get_any n _ zs wr O5.out.rd HZ.out).mono ?_
        intro e w6 h
        obtain ⟨a6, l6, c6, K6, E6, Y6, rfl, hE6, hK6, hl6, r6, b6, _⟩ := getR_open h
        clear h
        rw [HCD.out] at hE6
        obtain ⟨W7, hW7⟩ : ∃ W7, w6.alloc (.cells #[.int .i64 K6, .slice a6 l6 c6] 24) = W7 := ⟨_, rfl⟩
        have b7 : Below w6.heap.size w6 W7 := by rw [← hW7]; exact (Below.refl _ _).alloc (Nat.le_refl _) _
        have B7 : Hid (Below w.heap.size w W7) := B5.out.trans ((b6.trans (b7.mono b6.size)).mono B5.out.size)
        clear S5 O5 B5 hK6 hl6 r6 b6 b7 HCD HZ hn32
        cases c with
        | true =>
          obtain rfl : 6 = E6 := by simpa using hE6
          clear hE6
          go_wp2_with fail
          refine (lives_anyB W7).mono ?_
          rintro e w10 ⟨rfl, b10⟩
          go_wp2_with fail
          go_ret
          exact ⟨rfl, B7.out.trans (b10.mono B7.out.size)⟩
        | false =>
          obtain rfl : 0 = E6 := by simpa using hE6
          clear hE6
          go_wp2_with fail
          refine (lives_anyB W7).mono ?_
          rintro e w10 ⟨rfl, b10⟩
          go_wp2_with fail
          go_ret
          exact ⟨rfl, B7.out.trans (b10.mono B7.out.size)⟩
end Go.Proofs.Ytmidcmliiofefaa
