/-
  The program's digest.
-/
import Derived.Test.YtfdnlkhipjjnbaaSFw
import Derived.Test.YtfdnlkhipjjnbaaSByt
import Derived.Test.YtfdnlkhipjjnbaaSLst
namespace Go.Proofs.Ytfdnlkhipjjnbaa
open Go.RowKit Pl
set_option linter.unusedVariables false

/-- How many pieces so many bytes have. -/
def np (L : Nat) : Nat := (L + 8) / 64 + 1
/-- The bytes, closed. -/
def pm (xs : List Int) (i : Nat) : Nat :=
  if i < xs.length then bN xs i else if i = xs.length then 128 else if 64 * np xs.length - 8 ≤ i then 8 * xs.length / 2 ^ (8 * (64 * np xs.length - 1 - i)) % 256 else 0
/-- The digest's bytes. -/
def sha (xs : List Int) (i : Nat) : Nat := dgB (dg (pm xs) (np xs.length)) i

/-- Whole pieces first, then the last ones. -/
theorem sha_parts (xs : List Int) (m R : Nat) (hm : xs.length / 64 = m) (hR : 64 * np xs.length = 64 * m + R) (n : Nat) (hn : R = 64 * n) :
    tks (bN ((List.range R).map fun i => (lpS (xs.drop (64 * m)) xs.length R i : Int))) (tks (bN (xs.take (64 * m))) st0 m) n = dg (pm xs) (np xs.length) := by
  have hL : 64 * m ≤ xs.length := by omega
  have e1 : tks (bN (xs.take (64 * m))) st0 m = tks (pm xs) st0 m := tks_congr _ _ (fun j hj => by
    unfold pm bN
    rw [if_pos (by omega), List.getD_eq_getElem?_getD, List.getElem?_take, if_pos hj, ← List.getD_eq_getElem?_getD])
  have hnp : np xs.length = m + n := by omega
  rw [e1, ← tks_dg, hnp, ← tks_add]
  refine tks_congr _ _ (fun j hj => ?_)
  rw [range_bN _ _ _ (by omega)]
  unfold lpS lp1 pm
  rw [List.length_drop, bN_drop, hR]
  unfold np at hR
  by_cases c1 : 64 * m + j < xs.length
  · rw [if_pos c1, if_neg (by omega), if_pos (by omega)]
  · rw [if_neg c1]
    by_cases c2 : 64 * m + j = xs.length
    · rw [if_pos c2, if_neg (by omega), if_neg (by omega), if_pos (by omega)]
    · rw [if_neg c2]
      by_cases c3 : R - 8 ≤ j
      · rw [if_pos c3, if_pos (by omega), show 64 * m + R - 1 - (64 * m + j) = R - 1 - j by omega]
      · rw [if_neg c3, if_neg (by omega), if_neg (by omega), if_neg (by omega)]

theorem rd_cut {k : IntKind} {w : World} {a : Option Addr} {cap n : Nat} {xs : List Int} (h : Rd k w (.slice a n cap) xs) (m : Nat) (hm : m ≤ xs.length) : Rd k w (.slice a m cap) (xs.take m) := by
  obtain ⟨a', cap', e, h1, h2, h3, h4⟩ := h
  cases e
  have el : (xs.take m).length = m := by rw [List.length_take]; omega
  refine ⟨a, cap, by rw [el], by omega, h2, h3, ?_⟩
  rcases h4 with rfl | ⟨b, o, rfl, hc⟩
  · exact .inl (by simp)
  · refine .inr ⟨b, o, rfl, fun i hi => ?_⟩
    rw [el] at hi
    rw [hc i (by omega), List.getD_eq_getElem?_getD, List.getD_eq_getElem?_getD, List.getElem?_take, if_pos hi]

theorem by_take {xs : List Int} (h : By xs) (m : Nat) : By (xs.take m) := fun i => by
  have := h i
  rw [List.getD_eq_getElem?_getD] at this ⊢
  rw [List.getElem?_take]
  split
  · exact this
  · simp

theorem last_any (v : Value) (xs : List Int) (sz m R : Nat) (w : World) (hr : Rd .u8 w v (xs.drop (64 * m))) (hb : By xs) (hm : xs.length / 64 = m) (hR : 64 * np xs.length = 64 * m + R) (hsz : sz ≤ 65536) :
    Calls Try.prog 22 #[v, .int .i64 (sz : Int)] w fun e w' => LPostS (xs.drop (64 * m)) sz R w e w' := by
  unfold np at hR
  have hl : (xs.drop (64 * m)).length = xs.length - 64 * m := List.length_drop
  by_cases c : (xs.drop (64 * m)).length + 9 ≤ 64
  · obtain rfl : R = 64 := by omega
    exact last64 v _ sz w hr (by_drop hb _) (by omega) hsz c
  · obtain rfl : R = 128 := by omega
    exact last128 v _ sz w hr (by_drop hb _) (by omega) hsz (by omega)

set_option maxRecDepth 100000 in
set_option maxHeartbeats 2000000 in
theorem sha_any (v : Value) (xs : List Int) (w : World) (hr : Rd .u8 w v xs) (hb : By xs) (hL : xs.length ≤ 65536) :
    Calls Try.prog 9 #[v] w fun e w' => e = .returned (.agg (ucs .u8 32 (sha xs)).toArray) ∧ Below w.heap.size w w' := by
  obtain ⟨a, cap, hv, _⟩ := id hr
  subst hv
  have HR : Hid (Rd .u8 w (.slice a xs.length cap) xs) := hr
  have HB : Hid (By xs) := hb
  clear hr hb
  obtain ⟨hv32, hi32⟩ := zero_of_info info_32
  have HI32 : Hid ((Try.prog.info? 23).map (·.size) = some 32) := hi32
  obtain ⟨hv8, hi8⟩ := zero_of_info info_8
  have HI8 : Hid ((Try.prog.info? 35).map (·.size) = some 8) := hi8
  obtain ⟨hv64, hi64⟩ := zero_of_info info_64
  have HI64 : Hid ((Try.prog.info? 37).map (·.size) = some 64) := hi64
  clear hi32 hi8 hi64
  obtain ⟨Z32, hZ32⟩ : ∃ Z, Hid ((ucs .u8 32 (fun _ => 0)).toArray = Z) := ⟨_, rfl⟩
  rw [hZ32.out] at hv32
  obtain ⟨Z8, hZ8⟩ : ∃ Z, Hid ((ucs .u32 8 (fun _ => 0)).toArray = Z) := ⟨_, rfl⟩
  rw [hZ8.out] at hv8
  have HZ8 : Hid (Z8.size = 8) := by show _ = _; rw [← hZ8.out]; exact ucs_size _ _ _
  obtain ⟨Z64, hZ64⟩ : ∃ Z, Hid ((ucs .u32 64 (fun _ => 0)).toArray = Z) := ⟨_, rfl⟩
  rw [hZ64.out] at hv64
  have HZ64 : Hid (Z64.size = 64) := by show _ = _; rw [← hZ64.out]; exact ucs_size _ _ _
  obtain ⟨F, hF⟩ : ∃ F, Hid (ucs .u8 32 (sha xs) = F) := ⟨_, rfl⟩
  rw [hF.out]
  obtain ⟨F8, hF8⟩ : ∃ F, Hid (ucs .u32 8 st0.at_ = F) := ⟨_, rfl⟩
  have HF8 : Hid (F8.toArray.size = 8) := by show _ = _; rw [← hF8.out]; exact ucs_size _ _ _
  have HO8 : Hid (F8.toArray.all (·.oneCell') = true) := by show _ = _; rw [← hF8.out]; exact ucs_one _ _ _
  obtain ⟨F64, hF64⟩ : ∃ F, Hid (ucs .u32 64 kF = F) := ⟨_, rfl⟩
  have HF64 : Hid (F64.toArray.size = 64) := by show _ = _; rw [← hF64.out]; exact ucs_size _ _ _
  have HO64 : Hid (F64.toArray.all (·.oneCell') = true) := by show _ = _; rw [← hF64.out]; exact ucs_one _ _ _
  obtain ⟨m, hm⟩ : ∃ m, xs.length / 64 = m := ⟨_, rfl⟩
  obtain ⟨L, hLe⟩ : ∃ L, xs.length = L := ⟨_, rfl⟩
  rw [hLe] at HR hL hm ⊢
  obtain ⟨q, hq⟩ : ∃ q, 64 * m = q := ⟨_, rfl⟩
  have hm1 : (L : Int) / 64 * 64 = (q : Int) := by omega
  have hm2 : (L : Int) / 64 = (m : Int) := by omega
  have hm3 : (m : Int) * 64 = (q : Int) := by omega
  have hqL : q ≤ L := by omega
  go_enter Try.func9, Try.ntmps9
  go_wp2_with fail
  refine (firstWords_any _).mono ?_
  rintro e w1 ⟨rfl, hb1⟩
  have B1 : Hid (Below w.heap.size w w1) := ((Below.refl _ _).alloc (Nat.le_refl _) _).trans (hb1.mono (by simp))
  have R1 : Hid (Uv .u8 w1 w.heap.size 23 32 (fun _ => 0)) := by
    have h0 := uv_new .u8 w 23 32 (fun _ => 0)
    rw [hZ32.out] at h0
    exact h0.below hb1
  rw [hF8.out]
  clear hb1 hv32
  go_wp2_with (with_reducible (show wpList _ _ _ (Oper.mk _ (Op.store _ _ _) _ _ _ _ :: _) _ _); refine wpList_store_newS w1 rfl 35 (.tmp 3) (.tmp 6) rfl Z8 F8.toArray ?h3 ?h4 (by rw [HF8.out]; exact HI8.out) (by rw [HF8.out, HZ8.out]) HO8.out ?_; (case h3 => kernel_rfl); (case h4 => kernel_rfl))
  refine (mixedWords_any _).mono ?_
  rintro e w2 ⟨rfl, hb2⟩
  obtain ⟨sg, hsg⟩ : ∃ sg, w1.heap.size = sg := ⟨_, rfl⟩
  have b12 : Below w1.heap.size w1 w2 := ((Below.refl _ _).alloc (Nat.le_refl _) _).trans (hb2.mono (by simp))
  have U2 : Hid (Uv .u32 w2 sg 35 8 st0.at_) := by
    have h0 := uv_new .u32 w1 35 8 st0.at_
    rw [hF8.out, hsg] at h0
    exact h0.below hb2
  have B2 : Hid (Below w.heap.size w w2) := B1.out.trans (b12.mono B1.out.size)
  have R2 : Hid (Uv .u8 w2 w.heap.size 23 32 (fun _ => 0)) := R1.out.below b12
  have HWS : Hid (w.heap.size < sg) := by show _ < _; rw [← hsg]; exact R1.out.lt
  rw [hF64.out, hsg]
  clear hb2 hv8 b12 B1 R1 hsg
  go_wp2_with (with_reducible (show wpList _ _ _ (Oper.mk _ (Op.store _ _ _) _ _ _ _ :: _) _ _); refine wpList_store_newS w2 rfl 37 (.tmp 4) (.tmp 7) rfl Z64 F64.toArray ?h3 ?h4 (by rw [HF64.out]; exact HI64.out) (by rw [HF64.out, HZ64.out]) HO64.out ?_; (case h3 => kernel_rfl); (case h4 => kernel_rfl))
  obtain ⟨kg, hkg⟩ : ∃ kg, w2.heap.size = kg := ⟨_, rfl⟩
  obtain ⟨w3, hw3⟩ : ∃ w3, Hid (w2.alloc (.cells F64.toArray 37) = w3) := ⟨_, rfl⟩
  have b23 : Below w2.heap.size w2 w3 := by rw [← hw3.out]; exact (Below.refl _ _).alloc (Nat.le_refl _) _
  have K3 : Hid (Uv .u32 w3 kg 37 64 kF) := by
    have h0 := uv_new .u32 w2 37 64 kF
    rw [hF64.out, hkg, hw3.out] at h0
    exact h0
  have U3 : Hid (Uv .u32 w3 sg 35 8 st0.at_) := U2.out.below b23
  have B3 : Hid (Below w.heap.size w w3) := B2.out.trans (b23.mono B2.out.size)
  have R3 : Hid (Uv .u8 w3 w.heap.size 23 32 (fun _ => 0)) := R2.out.below b23
  have HNE : Hid (kg ≠ sg) := by
    show _ ≠ _
    have := U2.out.lt
    omega
  have HD3 : Hid (Rd .u8 w3 (.slice a L cap) xs) := HR.out.below B3.out
  rw [hw3.out, hkg]
  have HQX : Hid (q ≤ xs.length) := by show _ ≤ _; omega
  clear b23 hw3 hkg hv64 U2 B2 R2 HR
  refine (takeAll_any sg kg st0 _ (xs.take q) m w3 U3.out K3.out HNE.out st0_ok (rd_cut HD3.out q HQX.out) (by_take HB.out q) (by rw [List.length_take]; omega)).mono ?_
  rintro e w4 ⟨rfl, u4, t4⟩
  have HLT : Hid (w.heap.size ≠ sg) := by show _ ≠ _; have := HWS.out; omega
  have U4 : Hid (Uv .u32 w4 sg 35 8 (tks (bN (xs.take q)) st0 m).at_) := u4
  have K4 : Hid (Uv .u32 w4 kg 37 64 kF) := K3.out.tch t4 HNE.out
  have R4 : Hid (Uv .u8 w4 w.heap.size 23 32 (fun _ => 0)) := R3.out.tch t4 HLT.out
  have B4 : Hid (Below w.heap.size w w4) := B3.out.trans (t4.below B3.out.size (fun k e => by rw [e]; have := HWS.out; omega))
  have D4 : Hid (Rd .u8 w4 (.slice a L cap) xs) := rd_apart HD3.out U3.out t4
  clear u4 t4 U3 K3 R3 B3 HD3
  go_wp2_with (with_reducible (show wpList _ _ _ (Oper.mk _ (Op.slice _ _ _ _ _) _ _ _ _ :: _) _ _); refine wpList_from w4 w4 rfl (.tmp 16) (.tmp 17) rfl (.slice a L cap) xs ?h1 D4.out q ?h2 HQX.out ?_; (case h1 => kernel_rfl); (case h2 => kernel_rfl))
  intro v5 r5
  obtain ⟨R, hR⟩ : ∃ R, 64 * np L = 64 * m + R := ⟨64 * np L - 64 * m, by unfold np; omega⟩
  obtain ⟨n2, hn2⟩ : ∃ n2, R = 64 * n2 := ⟨np L - m, by omega⟩
  have D5 : Hid (Rd .u8 w4 v5 (xs.drop (64 * m))) := by rw [hq]; exact r5
  have HLA : Hid (Calls Try.prog 22 #[v5, .int .i64 (L : Int)] w4 fun e w' => LPostS (xs.drop (64 * m)) L R w4 e w') :=
    last_any v5 xs L m R w4 D5.out HB.out (by rw [hLe]; exact hm) (by rw [hLe]; exact hR) hL
  have HSP : Hid (tks (bN ((List.range R).map fun i => (lpS (xs.drop (64 * m)) L R i : Int))) (tks (bN (xs.take (64 * m))) st0 m) n2 = dg (pm xs) (np xs.length)) := by
    have := sha_parts xs m R (by rw [hLe]; exact hm) (by rw [hLe]; exact hR) n2 hn2
    rw [hLe] at this ⊢
    exact this
  clear r5 D4 D5
  go_wp2_with fail
  refine HLA.out.mono ?_
  rintro e w5 ⟨v6, rfl, r6, hb5⟩
  have U5 : Hid (Uv .u32 w5 sg 35 8 (tks (bN (xs.take (64 * m))) st0 m).at_) := by rw [hq]; exact U4.out.below hb5
  have K5 : Hid (Uv .u32 w5 kg 37 64 kF) := K4.out.below hb5
  have R5 : Hid (Uv .u8 w5 w.heap.size 23 32 (fun _ => 0)) := R4.out.below hb5
  have B5 : Hid (Below w.heap.size w w5) := B4.out.trans (hb5.mono B4.out.size)
  have R6 : Hid (Rd .u8 w5 v6 ((List.range R).map fun i => (lpS (xs.drop (64 * m)) L R i : Int))) := r6
  clear HLA r6 hb5 U4 K4 R4 B4
  go_wp2_with fail
  refine (takeAll_any sg kg _ v6 _ n2 w5 U5.out K5.out HNE.out (tks_ok _ st0_ok m) R6.out (range_by R (lp_lt (by_drop HB.out _) L R)) (by simp; exact hn2)).mono ?_
  rintro e w6 ⟨rfl, u6, t6⟩
  rw [HSP.out] at u6
  have U6 : Hid (Uv .u32 w6 sg 35 8 (dg (pm xs) (np xs.length)).at_) := u6
  have R6' : Hid (Uv .u8 w6 w.heap.size 23 32 (fun _ => 0)) := R5.out.tch t6 HLT.out
  have B6 : Hid (Below w.heap.size w w6) := B5.out.trans (t6.below B5.out.size (fun k e => by rw [e]; have := HWS.out; omega))
  clear u6 t6 U5 K5 R5 B5 R6 HSP
  go_wp2_with fail
  refine (bytes_anyS sg _ w6 U6.out (dg_ok _ _)).mono ?_
  rintro e w7 ⟨rfl, hb7⟩
  have eF : ucs .u8 32 (dgB (dg (pm xs) (np xs.length))) = F := by rw [← hF.out]; rfl
  rw [eF]
  have B7 : Hid (Below w.heap.size w w7) := B6.out.trans (hb7.mono B6.out.size)
  have RR : Hid (w7.there w.heap.size 0 32) := (R6'.out.below hb7).there
  have HPL : Hid (F.length = 32) := by show _ = _; rw [← hF.out, ucs_length]
  have HSZ : Hid (F.toArray.size = 32) := by show _ = _; rw [List.size_toArray]; exact HPL.out
  have HON : Hid (F.toArray.all (·.oneCell') = true) := by show _ = _; rw [← hF.out]; exact ucs_one _ _ _
  clear hb7 B6 R6' U6 eF
  go_wp2_with (with_reducible (show wpList _ _ _ (Oper.mk _ (Op.store _ _ _) _ _ _ _ :: _) _ _); refine wpList_store_mid rfl 23 (.tmp 2) (.tmp 23) rfl w.heap.size 0 F.toArray ?h1 ?h2 (by rw [HSZ.out]; exact RR.out) (by rw [HSZ.out]; exact HI32.out) HON.out ?_; (case h1 => kernel_rfl); (case h2 => kernel_rfl))
  have hld := run_loadVar_mid (P := Try.prog) (w7.setCells w.heap.size 0 F.toArray.toList) w.heap.size 0 23 F _ (by
    have := World.rangeAt_setCells_same w7 w.heap.size 0 F.toArray.toList (by rw [Array.length_toList, HSZ.out]; exact RR.out)
    simpa using this) Try.underlying23 rfl (by rw [HPL.out]; exact HI32.out)
  refine bodyPost_ret (v := .agg F.toArray) ?_ rfl ⟨rfl, ?_⟩
  · exact results_atS (p := 2) (ty := 23) rfl _ _ _ w.heap.size _ rfl hld
  · exact B7.out.trans ((setCells_tchS w.heap.size _ 0 w7).below B7.out.size (fun k e => by rw [e]; exact Nat.le_refl _))
end Go.Proofs.Ytfdnlkhipjjnbaa
