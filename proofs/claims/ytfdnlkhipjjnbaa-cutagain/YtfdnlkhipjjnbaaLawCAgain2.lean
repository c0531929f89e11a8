/-
  CutAgain's walk, where other data are cut to their first 65536 bytes.
-/
import Derived.Test.YtfdnlkhipjjnbaaLawCAgain1
namespace Go.Proofs.Ytfdnlkhipjjnbaa
open Go.RowKit Pl
set_option linter.unusedVariables false

set_option maxRecDepth 100000 in
set_option maxHeartbeats 8000000 in
theorem cutAgain_walk2 (a : Option Addr) (cap : Nat) (xs : List Int) (ta : Option Addr) (tcap : Nat) (ts : List Int) (w : World) (H1 : Rd .u8 w (.slice a xs.length cap) xs) (hlc : xs.length ≤ cap) (hm : cap ≤ 9223372036854775807) (HB : By xs) (H2 : Rd .u8 w (.slice ta ts.length tcap) ts) (hlt : ts.length ≤ tcap) (hmt : tcap ≤ 9223372036854775807) (HBt : By ts)
    (c1 : ¬ 65536 < xs.length) (hc1 : ¬ (65536 : Int) < (xs.length : Int)) (c2 : 65536 < ts.length) (hc2 : (65536 : Int) < (ts.length : Int)) :
    Calls Try.prog 8 #[.slice a xs.length cap, .slice ta ts.length tcap] w fun e w' => e = .returned (.bool true) ∧ Below w.heap.size w w' := by
  have R1 : Hid (Rd .u8 w (.slice a xs.length cap) xs) := H1
  have HB1 : Hid (By xs) := HB
  have HXL : Hid ((xs).length = xs.length) := rfl
  have HL1 : Hid ((xs).length ≤ 1000000) := by show _ ≤ _; rw [HXL.out]; omega
  have R1t : Hid (Rd .u8 w (.slice ta 65536 tcap) (ts.take 65536)) := rd_cut H2 65536 (by omega)
  have HB1t : Hid (By (ts.take 65536)) := by_take HBt _
  have HYL : Hid (((ts.take 65536)).length ≤ 65536) := by show _ ≤ _; rw [List.length_take]; omega
  clear H1 HB H2 HBt
  go_enter Try.func8, Try.ntmps8
  go_wp2_with fail
  refine (cut_any _ _ w R1.out HB1.out HL1.out).mono ?_
  rintro e w1 ⟨⟨v1, la, rfl, o1, cs1, n1⟩, b1⟩
  have B1 : Hid (Below w.heap.size w w1) := b1
  have HC1 : Hid (Cs (bN xs) xs.length la) := by have h := cs1; skip; exact h
  have HLA : Hid (la.length ≤ 1000000) := Nat.le_trans cs1.len HL1.out
  have Q1 : Hid (Rd .i64 w1 v1 (il la)) := o1.rd
  obtain ⟨a1, c1, hv1, hc1', hm1, _⟩ := o1.rd
  rw [il_len] at hv1 hc1'
  obtain ⟨N, hN⟩ : ∃ N, la.length = N := ⟨_, rfl⟩
  rw [hN] at hv1 hc1' HLA
  have k1 : c1 ≤ 9223372036854775807 := by unfold maxLen at hm1; omega
  have hNs := HLA.out
  subst hv1
  clear o1 cs1 n1 b1 hm1
  by_cases hN0 : N = 0
  · have z1 : ((N : Int) == 0) = true := by rw [beq_iff_eq]; omega
    clear hN
    go_wp2_with fail
    refine (lives_anyC _).mono ?_
    rintro e w9 ⟨rfl, b9⟩
    go_wp2_with fail
    go_ret
    exact ⟨rfl, B1.out.trans (b9.mono B1.out.size)⟩
  · have z1 : ((N : Int) == 0) = false := by rw [beq_eq_false_iff_ne]; omega
    have z2 : ¬ (N : Int) = 0 := by omega
    obtain ⟨N1, hN1⟩ : ∃ N1, N - 1 = N1 := ⟨_, rfl⟩
    have i1 : (N : Int) - 1 = (N1 : Int) := by omega
    have i2 : (N1 : Int) < (N : Int) := by omega
    obtain ⟨x1, y1, ha1, hx1⟩ := cells_of Q1.out hN (by omega)
    subst ha1
    have hx2 := hx1 N1 (by omega)
    have hpart := last_part HC1.out hN (by omega) hN1
    obtain ⟨x, hxe⟩ : ∃ x, la.getD N1 0 = x := ⟨_, rfl⟩
    rw [hxe] at hx2 hpart
    obtain ⟨hla, hxM⟩ := hpart
    have HPA : Hid (la = la.take N1 ++ [x]) := hla
    have HLN : Hid (la.length = N) := hN
    obtain ⟨n, hn⟩ : ∃ n, xs.length - x = n := ⟨_, rfl⟩
    have j1 : (xs.length : Int) - (x : Int) = (n : Int) := by omega
    have j2 : ¬ (n : Int) < 0 := by omega
    have j3 : IntKind.i64.wrap (n : Int) = (n : Int) := by rw [IntKind.wrap_i64]; omega
    have h : n ≤ xs.length := by omega
    skip
    have HNX : Hid (n ≤ (xs).length) := h
    clear h
    have HXN : Hid (x + n = xs.length) := by show _ = _; omega
    clear hx1 hxe hla hn hN
    go_wp2_with (with_reducible (show wpList _ _ _ (Oper.mk _ (Op.slice _ _ _ _ _) _ _ _ _ :: _) _ _); refine wpList_upto _ w rfl (.tmp 40) (.tmp 41) rfl _ xs ?h1 R1.out n ?h2 HNX.out ?_; (case h1 => kernel_rfl); (case h2 => kernel_rfl))
    intro v2 r2
    have R2 : Hid (Rd .u8 w1 v2 ((xs).take n)) := r2.below B1.out
    have HTN : Hid (((xs).take n).length = n) := by show _ = _; rw [List.length_take]; have := HNX.out; omega
    have HYL2 : Hid (((ts.take 65536)).length ≤ 65536) := HYL
    have hn6 : n ≤ 65536 := by omega
    clear r2
    go_wp2_with (at_builtin; refine wpList_many _ rfl (.tmp 39) (.tmp 42) 22 rfl 5 .u8 1 elem8 (.slice none 0 0) [] rfl (owns_nil _ _ _) v2 ((xs).take n) rfl R2.out (by rw [HTN.out]; simp; omega) (by rw [HTN.out]; simp; omega) ?_)
    intro v3 w3 o3 g3
    have B3 : Hid (Below w1.heap.size w1 w3) := g3.below.1
    have N3 : Hid (∀ j, v3.ownBlock = some j → w1.heap.size ≤ j) := g3.below.2
    have O3 : Hid (Owns .u8 5 w3 v3 ((xs).take n)) := o3
    have T3 : Hid (Rd .u8 w3 (.slice ta 65536 tcap) (ts.take 65536)) := (R1t.out.below B1.out).below B3.out
    clear o3 g3 R2
    go_wp2_with (at_builtin; refine wpList_many _ rfl (.tmp 44) (.tmp 45) 22 rfl 5 .u8 1 elem8 v3 ((xs).take n) rfl O3.out _ (ts.take 65536) rfl T3.out (by rw [HTN.out]; have := HYL2.out; omega) (by rw [HTN.out]; have := HYL2.out; omega) ?_)
    intro v4 w4 o4 g4
    have h4 := g4.onto B3.out N3.out
    have B4 : Hid (Below w1.heap.size w1 w4) := h4.1
    have R4 : Hid (Rd .u8 w4 v4 ((xs).take n ++ (ts.take 65536))) := o4.rd
    have T4 : Hid (Rd .u8 w4 (.slice ta 65536 tcap) (ts.take 65536)) := (R1t.out.below B1.out).below B4.out
    have HB4 : Hid (By ((xs).take n ++ (ts.take 65536))) := by_app (by_take HB1.out n) HB1t.out
    have HL4 : Hid (((xs).take n ++ (ts.take 65536)).length = n + ((ts.take 65536)).length) := by show _ = _; rw [List.length_append, HTN.out]
    clear o4 g4 h4 O3 T3 B3 N3
    go_wp2_with fail
    refine (cut_any _ _ w4 R4.out HB4.out (by rw [HL4.out]; have := HYL2.out; omega)).mono ?_
    rintro e w5 ⟨⟨v5, ll, rfl, o5, cs5, n5⟩, b5⟩
    have B5 : Hid (Below w1.heap.size w1 w5) := B4.out.trans (b5.mono B4.out.size)
    have Q5 : Hid (Rd .i64 w5 v5 (il ll)) := o5.rd
    have HC5 : Hid (Cs (bN ((xs).take n ++ (ts.take 65536))) (n + ((ts.take 65536)).length) ll) := by have h := cs5; rw [HL4.out] at h; exact h
    have T5 : Hid (Rd .u8 w5 (.slice ta 65536 tcap) (ts.take 65536)) := T4.out.below b5
    clear o5 cs5 n5 b5 R4 T4 B4
    go_wp2_with fail
    refine (cut_any _ _ w5 T5.out HB1t.out (by have := HYL2.out; omega)).mono ?_
    rintro e w6 ⟨⟨v6, lt, rfl, o6, cs6, n6⟩, b6⟩
    have B6 : Hid (Below w1.heap.size w1 w6) := B5.out.trans (b6.mono B5.out.size)
    have ell : ll = la.take N1 ++ lt := HC5.out.uniq (again_of (X := xs) (Y := (ts.take 65536)) HC1.out HPA.out HXN.out HNX.out cs6)
    subst ell
    have HLT : Hid (lt.length ≤ 65536) := Nat.le_trans cs6.len HYL2.out
    have Q1' : Hid (Rd .i64 w6 (.slice (some ⟨x1, y1, none⟩) N c1) (il la)) := Q1.out.below B6.out
    have Q5' : Hid (Rd .i64 w6 v5 (il (la.take N1 ++ lt))) := Q5.out.below b6
    have Q6' : Hid (Rd .i64 w6 v6 (il lt)) := o6.rd
    have HTK : Hid ((la.take N1).length = N1) := by show _ = _; rw [List.length_take, HLN.out]; omega
    obtain ⟨a5, c5, hv5, hc5', hm5, _⟩ := Q5'.out
    obtain ⟨a6, c6, hv6, hc6', hm6, _⟩ := Q6'.out
    rw [il_len] at hv5 hc5' hv6 hc6'
    obtain ⟨K, hK⟩ : ∃ K, lt.length = K := ⟨_, rfl⟩
    obtain ⟨J, hJ⟩ : ∃ J, (la.take N1 ++ lt).length = J := ⟨_, rfl⟩
    have hJ2 : J = N1 + K := by rw [← hJ, List.length_append, HTK.out, hK]
    rw [hK] at hv6 hc6' HLT
    rw [hJ] at hv5 hc5'
    have k5 : c5 ≤ 9223372036854775807 := by unfold maxLen at hm5; omega
    have k6 : c6 ≤ 9223372036854775807 := by unfold maxLen at hm6; omega
    have HK : Hid (lt.length = K) := hK
    have HJ : Hid ((la.take N1 ++ lt).length = J) := hJ
    have hK6 := HLT.out
    subst hv5
    subst hv6
    have q1 : (N1 : Int) + (K : Int) = (J : Int) := by omega
    have q2 : IntKind.i64.wrap (J : Int) = (J : Int) := by rw [IntKind.wrap_i64]; omega
    have HJ2 : Hid (J = N1 + K) := hJ2
    clear hK hJ hJ2 hm5 hm6 cs6 n6 o6 b6 B5 Q1 Q5 HC5 T5 hx2
    go_wp2_with fail
    go_loopw [10] (fun i wr => ∃ k : Nat, k ≤ J ∧ i = .int .i64 k ∧ Hid (Below w6.heap.size w6 wr)) (fun i _ => J - (intOf i).toNat)
    case atStart => exact ⟨0, Nat.zero_le _, rfl, Below.refl _ _⟩
    case round =>
      obtain ⟨k, hk, rfl, BW⟩ := hrel
      by_cases hlt : k < J
      · obtain ⟨x5, y5, ha5, hx5⟩ := cells_of (Q5'.out.below BW.out) HJ.out (by omega)
        have d5 := hx5 k hlt
        have hi1 : (k : Int) < (J : Int) := by omega
        subst ha5
        by_cases hs : k < N1
        · obtain ⟨x7, y7, ha7, hx7⟩ := cells_of (Q1'.out.below BW.out) HLN.out (by omega)
          simp only [Option.some.injEq, Addr.mk.injEq, and_true] at ha7
          obtain ⟨rfl, rfl⟩ := ha7
          have d7 := hx7 k (by omega)
          have e57 : (la.take N1 ++ lt).getD k 0 = la.getD k 0 := by
            rw [List.getD_eq_getElem?_getD, List.getD_eq_getElem?_getD, List.getElem?_append_left (by rw [HTK.out]; exact hs), List.getElem?_take, if_pos hs]
          rw [e57] at d5
          generalize la.getD k 0 = z at d5 d7
          have hs1 : (k : Int) < (N1 : Int) := by omega
          have hs2 : (k : Int) < (N : Int) := by omega
          clear hx5 hx7 e57
          go_wp2_with fail
          first
            | exact ⟨⟨k + 1, by omega, by go_num, BW⟩, by simp [intOf]; omega⟩
            | (go_roundw
               case rel => exact ⟨k + 1, by omega, by go_num, BW⟩
               case measure => simp [intOf]; omega)
        · obtain ⟨r, hr⟩ : ∃ r, k - N1 = r := ⟨_, rfl⟩
          obtain ⟨x7, y7, ha7, hx7⟩ := cells_of (Q6'.out.below BW.out) HK.out (by have := HJ2.out; omega)
          subst ha7
          have d7 := hx7 r (by have := HJ2.out; omega)
          have e57 : (la.take N1 ++ lt).getD k 0 = lt.getD r 0 := by
            rw [List.getD_eq_getElem?_getD, List.getD_eq_getElem?_getD, List.getElem?_append_right (by rw [HTK.out]; omega), HTK.out, hr]
          rw [e57] at d5
          generalize lt.getD r 0 = z at d5 d7
          have hs1 : ¬ (k : Int) < (N1 : Int) := by omega
          have hs2 : (k : Int) - (N : Int) + 1 = (r : Int) := by omega
          have hs3 : (r : Int) < (K : Int) := by have := HJ2.out; omega
          have hs4 : IntKind.i64.wrap ((k : Int) - (N : Int)) = (k : Int) - (N : Int) := by rw [IntKind.wrap_i64]; omega
          clear hx5 hx7 e57 hr
          go_wp2_with fail
          first
            | exact ⟨⟨k + 1, by omega, by go_num, BW⟩, by simp [intOf]; omega⟩
            | (go_roundw
               case rel => exact ⟨k + 1, by omega, by go_num, BW⟩
               case measure => simp [intOf]; omega)
      · have hkn : ¬ (k : Int) < (J : Int) := by omega
        go_wp2_with fail
        refine (lives_anyC _).mono ?_
        rintro e w9 ⟨rfl, b9⟩
        go_wp2_with fail
        go_ret
        exact ⟨rfl, B1.out.trans (((B6.out.trans (BW.out.mono B6.out.size)).trans (b9.mono (Nat.le_trans B6.out.size BW.out.size))).mono B1.out.size)⟩
end Go.Proofs.Ytfdnlkhipjjnbaa
