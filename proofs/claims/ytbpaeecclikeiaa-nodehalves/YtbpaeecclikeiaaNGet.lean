/-
  The program's Get.
-/
import Derived.Test.YtbpaeecclikeiaaNRead
import Derived.Test.YtbpaeecclikeiaaNMay
namespace Go.Proofs.Ytbpaeecclikeiaa
open Go.RowKit Pl
set_option linter.unusedVariables false
set_option linter.unusedSimpArgs false
set_option maxRecDepth 100000

theorem takeZ_by2 {t : List Int × Bool} (h : By t.1) (m : Nat) : By (takeZ t m).2.1 := by
  unfold takeZ
  split
  · exact h
  · exact h.dropN m
theorem numZ_le {t : List Int × Bool} (h : By t.1) : 0 ≤ (numZ t).1 ∧ (numZ t).1 ≤ 255 := takeZ_by h 1 0
theorem txtZ_le {t : List Int × Bool} (h : By t.1) : (txtZ t).1.size ≤ 255 ∧ By (txtZ t).2.1 := by
  have h1 := numZ_le h
  have h2 : By (numZ t).2.1 := takeZ_by2 h 1
  refine ⟨?_, takeZ_by2 h2 _⟩
  unfold txtZ
  simp only
  rw [strOfNums_size]
  rcases takeZ_len (numZ t).2 (numZ t).1.toNat with e | e <;> omega
theorem pzN_small (lf : Bool) {t : List Int × Bool} (h : By t.1) (k : Nat) : By (pzN lf t k).t.1 ∧ (∀ s ∈ (pzN lf t k).n.ks, s.size ≤ 255) ∧ (∀ s ∈ (pzN lf t k).n.vs, s.size ≤ 255) := by
  induction k with
  | zero => exact ⟨h, by simp [pzN], by simp [pzN]⟩
  | succ k ih =>
    obtain ⟨h1, h2, h3⟩ := ih
    have k1 := txtZ_le h1
    have k2 := txtZ_le k1.2
    have n1 : By (numZ (txtZ (pzN lf t k).t).2).2.1 := takeZ_by2 k1.2 1
    have n2 : By (numZ (numZ (txtZ (pzN lf t k).t).2).2).2.1 := takeZ_by2 n1 1
    simp only [pzN, pzStep]
    split
    · refine ⟨k2.2, fun s hs => ?_, fun s hs => ?_⟩
      · rcases List.mem_append.1 hs with e | e
        · exact h2 s e
        · rw [List.mem_singleton.1 e]; exact k1.1
      · rcases List.mem_append.1 hs with e | e
        · exact h3 s e
        · rw [List.mem_singleton.1 e]; exact k2.1
    · refine ⟨n2, fun s hs => ?_, h3⟩
      rcases List.mem_append.1 hs with e | e
      · exact h2 s e
      · rw [List.mem_singleton.1 e]; exact k1.1
theorem getD_size {ss : List ByteArray} {m : Nat} (h : ∀ s ∈ ss, s.size ≤ m) (i : Nat) : (ss.getD i eS).size ≤ m := by
  rw [List.getD_eq_getElem?_getD]
  cases e : ss[i]? with
  | none => exact Nat.zero_le _
  | some s => exact h s (List.mem_of_getElem? e)
theorem rdN_sm (lf : Bool) {xs : List Int} (h : By xs) : Sm (rdN lf xs).n := by
  have hn := numZ_le (t := (xs, false)) h
  have h1 : By (numZ (xs, false)).2.1 := takeZ_by2 (t := (xs, false)) h 1
  have h2 := pzN_small lf h1 (numZ (xs, false)).1.toNat
  have h3 := pzN_len lf (numZ (xs, false)).2 (numZ (xs, false)).1.toNat
  unfold rdN
  exact ⟨fun i => Nat.le_trans (getD_size h2.2.1 i) (by omega), fun i => Nat.le_trans (getD_size h2.2.2 i) (by omega), by omega, by omega, by omega⟩

/-- The node whose block this is, if it may be. -/
noncomputable def getN (kd : Int) (xs : List Int) : Option Nd := if kd = 1 ∨ kd = 2 then (if (rdOk (rdN (decide (kd = 1)) xs) && mayN (rdN (decide (kd = 1)) xs).n) = true then some (rdN (decide (kd = 1)) xs).n else none) else none
/-- What Get tells. -/
def GetR (kd : Int) (xs : List Int) (w : World) (e : Ending) (w' : World) : Prop :=
  ((∃ n v1 v2 v3, getN kd xs = some n ∧ e = .returned (.tuple #[nod n.lf v1 v2 v3, .int .i64 0]) ∧ Nn w' n v1 v2 v3) ∨ (getN kd xs = none ∧ e = .returned (.tuple #[nod false (.slice none 0 0) (.slice none 0 0) (.slice none 0 0), .int .i64 7]))) ∧ Below w.heap.size w w'

set_option maxHeartbeats 1000000 in
theorem get_any (kd : Int) (v : Value) (xs : List Int) (w : World) (hr : Rd .u8 w v xs) (hb : By xs) :
    Calls Try.prog 19 #[blN kd v] w fun e w' => GetR kd xs w e w' := by
  obtain ⟨a, cap, rfl, h1, h2, _⟩ := id hr
  have HR := hideN hr
  have HY := hideN hb
  obtain ⟨L, hL⟩ : ∃ L, Hid (xs.length = L) := ⟨_, rfl⟩
  rw [hL.out] at HR h1 ⊢
  obtain ⟨W1, hW1⟩ : ∃ W1, w.alloc (.cells #[.int .i64 kd, .slice a L cap] 34) = W1 := ⟨_, rfl⟩
  obtain ⟨W2, hW2⟩ : ∃ W2, W1.alloc (.cells #[.bool false, .slice none 0 0, .slice none 0 0, .slice none 0 0] 26) = W2 := ⟨_, rfl⟩
  have b1 : Below w.heap.size w W1 := by rw [← hW1]; exact below_alloc _ _
  have b2 : Below W1.heap.size W1 W2 := by rw [← hW2]; exact below_alloc _ _
  have K1 : Kb W1 w.heap.size kd (.slice a L cap) := by rw [← hW1]; exact kb_new _ _ _
  have HLT : Hid (w.heap.size < W1.heap.size) := K1.lt
  have K2 : Hid (Kb W2 w.heap.size kd (.slice a L cap)) := K1.below b2
  have X2 : Hid (Nb W2 26 W1.heap.size false (.slice none 0 0) (.slice none 0 0) (.slice none 0 0)) := by rw [← hW2]; exact nb_new _ _ _ _ _ _
  have B2 : Hid (Below w.heap.size w W2) := b1.trans (b2.mono b1.size)
  have R2 : Hid (Rd .u8 W2 (.slice a L cap) xs) := HR.out.below B2.out
  have HBAD : Hid (∀ (W : World), getN kd xs = none → Below W2.heap.size W2 W → ∃ WA, ((((W.setCell ⟨W1.heap.size, 0, none⟩ (.bool false)).setCell ⟨W1.heap.size, 1, none⟩ (.slice none 0 0)).setCell ⟨W1.heap.size, 2, none⟩ (.slice none 0 0)).setCell ⟨W1.heap.size, 3, none⟩ (.slice none 0 0) = WA) ∧ Nb WA 26 W1.heap.size false (.slice none 0 0) (.slice none 0 0) (.slice none 0 0) ∧ GetR kd xs w (.returned (.tuple #[nod false (.slice none 0 0) (.slice none 0 0) (.slice none 0 0), .int .i64 7])) WA) := fun W hn hb => by
    have hx := X2.out.below hb
    have t := tch_all W W1.heap.size (.bool false) (.slice none 0 0) (.slice none 0 0) (.slice none 0 0)
    have bw : Below w.heap.size w W := B2.out.trans (hb.mono B2.out.size)
    exact ⟨_, rfl, hx.all _ _ _ _, .inr ⟨hn, rfl⟩, bw.trans (t.below bw.size (fun j e => by have := HLT.out; omega))⟩
  have q0 := K2.out.c0
  have q1 := K2.out.c1
  clear hr hb h2 b1 b2 K1
  unfold blN
  by_cases h12 : kd = 1 ∨ kd = 2
  · have HG : Hid (getN kd xs = (if (rdOk (rdN (decide (kd = 1)) xs) && mayN (rdN (decide (kd = 1)) xs).n) = true then some (rdN (decide (kd = 1)) xs).n else none)) := by show _ = _; unfold getN; rw [if_pos h12]
    rcases h12 with rfl | rfl
    · have HG2 : Hid (getN 1 xs = (if (rdOk (rdN true xs) && mayN (rdN true xs).n) = true then some (rdN true xs).n else none)) := HG.out
      have HRD := hideN (read_any true _ xs W2 R2.out HY.out)
      have HSM : Hid (Sm (rdN true xs).n) := rdN_sm true HY.out
      have HLF : Hid ((rdN true xs).n.lf = true) := pzN_lf _ _ _
      obtain ⟨n, hn⟩ : ∃ n, Hid ((rdN true xs).n = n) := ⟨_, rfl⟩
      obtain ⟨ok, hok⟩ : ∃ b, Hid (rdOk (rdN true xs) = b) := ⟨_, rfl⟩
      rw [hok.out] at HRD HG2
      rw [hn.out] at HRD HG2 HSM HLF
      clear HG
      go_enter Try.func19, Try.ntmps19
      go_wp2_with fail
      refine HRD.out.mono ?_
      rintro e w3 ⟨⟨v1, v2, v3, rfl, n3, fr3⟩, b3⟩
      obtain ⟨a1, c1, a2, c2, a3, c3, rfl, rfl, rfl, _, _, _, _⟩ := n3.out
      obtain ⟨L1, hL1⟩ : ∃ L, Hid (n.ks.length = L) := ⟨_, rfl⟩
      obtain ⟨L2, hL2⟩ : ∃ L, Hid (n.vs.length = L) := ⟨_, rfl⟩
      obtain ⟨L3, hL3⟩ : ∃ L, Hid (n.kd.length = L) := ⟨_, rfl⟩
      rw [hL1.out, hL2.out, hL3.out] at n3 fr3
      have FR := hideN fr3
      rw [hL1.out, hL2.out, hL3.out]
      have N3 := hideN n3
      have B3 := hideN b3
      unfold nod
      obtain ⟨W4, hW4⟩ : ∃ W4, w3.alloc (.cells #[.bool true, .slice a1 L1 c1, .slice a2 L2 c2, .slice a3 L3 c3] 26) = W4 := ⟨_, rfl⟩
      have b4 : Below w3.heap.size w3 W4 := by rw [← hW4]; exact below_alloc _ _
      have V4 : Hid (Nb W4 26 w3.heap.size true (.slice a1 L1 c1) (.slice a2 L2 c2) (.slice a3 L3 c3)) := by rw [← hW4]; exact nb_new _ _ _ _ _ _
      have N4 : Hid (Nn W4 n (.slice a1 L1 c1) (.slice a2 L2 c2) (.slice a3 L3 c3)) := n3.below b4
      have BB4 : Hid (Below W2.heap.size W2 W4) := b3.trans (b4.mono b3.size)
      clear n3 b3 b4 fr3 HRD q0 q1 hW1 hW2
      cases ok with
      | false =>
        have HN : Hid (getN 1 xs = none) := by show _ = _; rw [HG2.out, if_neg (by simp)]
        obtain ⟨WA, hWA, hx, hf⟩ := HBAD.out W4 HN.out BB4.out
        have HX := hideN hx
        have HF := hideN hf
        have HWA := hideN hWA
        have xx := X2.out.below BB4.out
        have s0 := xx.c0
        have s1 := xx.c1
        have s2 := xx.c2
        have s3 := xx.c3
        have f0 := xx.fz 0
        have f1 := xx.fz 1
        have f2 := xx.fz 2
        have f3 := xx.fz 3
        clear hWA hx hf HBAD xx
        go_wp2_with fail
        rw [HWA.out]
        refine bodyPost_ret (v := .tuple #[nod false (.slice none 0 0) (.slice none 0 0) (.slice none 0 0), .int .i64 7]) (results_twoN (p := 2) (ty := 26) rfl _ _ _ W1.heap.size _ _ rfl HX.out.load rfl) rfl ?_
        exact HF.out
      | true =>
        have HM1 : Hid (Calls Try.prog 12 #[.agg #[.bool true, .slice a1 L1 c1, .slice a2 L2 c2, .slice a3 L3 c3]] W4 fun e w' => e = .returned (.bool (mayN n)) ∧ Below W4.heap.size W4 w') := by
          have := may_any n _ _ _ W4 N4.out HSM.out
          rw [HLF.out] at this
          exact this
        have p0 := V4.out.c0
        have p1 := V4.out.c1
        have p2 := V4.out.c2
        have p3 := V4.out.c3
        go_wp2_with fail
        refine HM1.out.mono ?_
        rintro e w5 ⟨rfl, b5⟩
        have B5 : Hid (Below W2.heap.size W2 w5) := BB4.out.trans (b5.mono BB4.out.size)
        have V5 := hideN (V4.out.below b5)
        have N5 := hideN (N4.out.below b5)
        clear b5 p0 p1 p2 p3 hW4 HM1
        cases hmn : mayN n with
        | false =>
          have HN : Hid (getN 1 xs = none) := by show _ = _; rw [HG2.out, hmn, if_neg (by simp)]
          clear hmn HG2
          obtain ⟨WA, hWA, hx, hf⟩ := HBAD.out w5 HN.out B5.out
          have HX := hideN hx
          have HF := hideN hf
          have HWA := hideN hWA
          have xx := X2.out.below B5.out
          have s0 := xx.c0
          have s1 := xx.c1
          have s2 := xx.c2
          have s3 := xx.c3
          have f0 := xx.fz 0
          have f1 := xx.fz 1
          have f2 := xx.fz 2
          have f3 := xx.fz 3
          clear hWA hx hf HBAD xx
          go_wp2_with fail
          rw [HWA.out]
          refine bodyPost_ret (v := .tuple #[nod false (.slice none 0 0) (.slice none 0 0) (.slice none 0 0), .int .i64 7]) (results_twoN (p := 2) (ty := 26) rfl _ _ _ W1.heap.size _ _ rfl HX.out.load rfl) rfl ?_
          exact HF.out
        | true =>
          have HGS : Hid (getN 1 xs = some n) := by show _ = _; rw [HG2.out, hmn, if_pos (by simp)]
          clear hmn HG2 HBAD
          have y0 := V5.out.c0
          have y1 := V5.out.c1
          have y2 := V5.out.c2
          have y3 := V5.out.c3
          have xx := X2.out.below B5.out
          have s0 := xx.c0
          have s1 := xx.c1
          have s2 := xx.c2
          have s3 := xx.c3
          have f0 := xx.fz 0
          have f1 := xx.fz 1
          have f2 := xx.fz 2
          have f3 := xx.fz 3
          obtain ⟨WA, hWA⟩ : ∃ WA, Hid ((((w5.setCell ⟨W1.heap.size, 0, none⟩ (.bool true)).setCell ⟨W1.heap.size, 1, none⟩ (.slice a1 L1 c1)).setCell ⟨W1.heap.size, 2, none⟩ (.slice a2 L2 c2)).setCell ⟨W1.heap.size, 3, none⟩ (.slice a3 L3 c3) = WA) := ⟨_, rfl⟩
          have YA : Hid (Nb WA 26 W1.heap.size true (.slice a1 L1 c1) (.slice a2 L2 c2) (.slice a3 L3 c3)) := by rw [← hWA.out]; exact xx.all _ _ _ _
          have tA : Tch (fun j => j = W1.heap.size) w5 WA := by rw [← hWA.out]; exact tch_all _ _ _ _ _ _
          have hX : W1.heap.size < W2.heap.size := X2.out.lt
          have NA : Hid (Nn WA n (.slice a1 L1 c1) (.slice a2 L2 c2) (.slice a3 L3 c3)) := N5.out.tch tA (fun j hj e => by have := FR.out j (.inl hj); omega) (fun j hj e => by have := FR.out j (.inr (.inl hj)); omega) (fun j hj e => by have := FR.out j (.inr (.inr hj)); omega)
          have bw : Below w.heap.size w w5 := B2.out.trans (B5.out.mono B2.out.size)
          have BF : Hid (Below w.heap.size w WA) := bw.trans (tA.below bw.size (fun j e => by have := HLT.out; omega))
          clear xx tA hX bw
          go_wp2_with fail
          rw [hWA.out]
          refine bodyPost_ret (v := .tuple #[nod true (.slice a1 L1 c1) (.slice a2 L2 c2) (.slice a3 L3 c3), .int .i64 0]) (results_twoN (p := 2) (ty := 26) rfl _ _ _ W1.heap.size _ _ rfl YA.out.load rfl) rfl ?_
          exact ⟨.inl ⟨n, _, _, _, HGS.out, by rw [HLF.out], NA.out⟩, BF.out⟩
    · have HG2 : Hid (getN 2 xs = (if (rdOk (rdN false xs) && mayN (rdN false xs).n) = true then some (rdN false xs).n else none)) := HG.out
      have HRD := hideN (read_any false _ xs W2 R2.out HY.out)
      have HSM : Hid (Sm (rdN false xs).n) := rdN_sm false HY.out
      have HLF : Hid ((rdN false xs).n.lf = false) := pzN_lf _ _ _
      obtain ⟨n, hn⟩ : ∃ n, Hid ((rdN false xs).n = n) := ⟨_, rfl⟩
      obtain ⟨ok, hok⟩ : ∃ b, Hid (rdOk (rdN false xs) = b) := ⟨_, rfl⟩
      rw [hok.out] at HRD HG2
      rw [hn.out] at HRD HG2 HSM HLF
      clear HG
      go_enter Try.func19, Try.ntmps19
      go_wp2_with fail
      refine HRD.out.mono ?_
      rintro e w3 ⟨⟨v1, v2, v3, rfl, n3, fr3⟩, b3⟩
      obtain ⟨a1, c1, a2, c2, a3, c3, rfl, rfl, rfl, _, _, _, _⟩ := n3.out
      obtain ⟨L1, hL1⟩ : ∃ L, Hid (n.ks.length = L) := ⟨_, rfl⟩
      obtain ⟨L2, hL2⟩ : ∃ L, Hid (n.vs.length = L) := ⟨_, rfl⟩
      obtain ⟨L3, hL3⟩ : ∃ L, Hid (n.kd.length = L) := ⟨_, rfl⟩
      rw [hL1.out, hL2.out, hL3.out] at n3 fr3
      have FR := hideN fr3
      rw [hL1.out, hL2.out, hL3.out]
      have N3 := hideN n3
      have B3 := hideN b3
      unfold nod
      obtain ⟨W4, hW4⟩ : ∃ W4, w3.alloc (.cells #[.bool false, .slice a1 L1 c1, .slice a2 L2 c2, .slice a3 L3 c3] 26) = W4 := ⟨_, rfl⟩
      have b4 : Below w3.heap.size w3 W4 := by rw [← hW4]; exact below_alloc _ _
      have V4 : Hid (Nb W4 26 w3.heap.size false (.slice a1 L1 c1) (.slice a2 L2 c2) (.slice a3 L3 c3)) := by rw [← hW4]; exact nb_new _ _ _ _ _ _
      have N4 : Hid (Nn W4 n (.slice a1 L1 c1) (.slice a2 L2 c2) (.slice a3 L3 c3)) := n3.below b4
      have BB4 : Hid (Below W2.heap.size W2 W4) := b3.trans (b4.mono b3.size)
      clear n3 b3 b4 fr3 HRD q0 q1 hW1 hW2
      cases ok with
      | false =>
        have HN : Hid (getN 2 xs = none) := by show _ = _; rw [HG2.out, if_neg (by simp)]
        obtain ⟨WA, hWA, hx, hf⟩ := HBAD.out W4 HN.out BB4.out
        have HX := hideN hx
        have HF := hideN hf
        have HWA := hideN hWA
        have xx := X2.out.below BB4.out
        have s0 := xx.c0
        have s1 := xx.c1
        have s2 := xx.c2
        have s3 := xx.c3
        have f0 := xx.fz 0
        have f1 := xx.fz 1
        have f2 := xx.fz 2
        have f3 := xx.fz 3
        clear hWA hx hf HBAD xx
        go_wp2_with fail
        rw [HWA.out]
        refine bodyPost_ret (v := .tuple #[nod false (.slice none 0 0) (.slice none 0 0) (.slice none 0 0), .int .i64 7]) (results_twoN (p := 2) (ty := 26) rfl _ _ _ W1.heap.size _ _ rfl HX.out.load rfl) rfl ?_
        exact HF.out
      | true =>
        have HM1 : Hid (Calls Try.prog 12 #[.agg #[.bool false, .slice a1 L1 c1, .slice a2 L2 c2, .slice a3 L3 c3]] W4 fun e w' => e = .returned (.bool (mayN n)) ∧ Below W4.heap.size W4 w') := by
          have := may_any n _ _ _ W4 N4.out HSM.out
          rw [HLF.out] at this
          exact this
        have p0 := V4.out.c0
        have p1 := V4.out.c1
        have p2 := V4.out.c2
        have p3 := V4.out.c3
        go_wp2_with fail
        refine HM1.out.mono ?_
        rintro e w5 ⟨rfl, b5⟩
        have B5 : Hid (Below W2.heap.size W2 w5) := BB4.out.trans (b5.mono BB4.out.size)
        have V5 := hideN (V4.out.below b5)
        have N5 := hideN (N4.out.below b5)
        clear b5 p0 p1 p2 p3 hW4 HM1
        cases hmn : mayN n with
        | false =>
          have HN : Hid (getN 2 xs = none) := by show _ = _; rw [HG2.out, hmn, if_neg (by simp)]
          clear hmn HG2
          obtain ⟨WA, hWA, hx, hf⟩ := HBAD.out w5 HN.out B5.out
          have HX := hideN hx
          have HF := hideN hf
          have HWA := hideN hWA
          have xx := X2.out.below B5.out
          have s0 := xx.c0
          have s1 := xx.c1
          have s2 := xx.c2
          have s3 := xx.c3
          have f0 := xx.fz 0
          have f1 := xx.fz 1
          have f2 := xx.fz 2
          have f3 := xx.fz 3
          clear hWA hx hf HBAD xx
          go_wp2_with fail
          rw [HWA.out]
          refine bodyPost_ret (v := .tuple #[nod false (.slice none 0 0) (.slice none 0 0) (.slice none 0 0), .int .i64 7]) (results_twoN (p := 2) (ty := 26) rfl _ _ _ W1.heap.size _ _ rfl HX.out.load rfl) rfl ?_
          exact HF.out
        | true =>
          have HGS : Hid (getN 2 xs = some n) := by show _ = _; rw [HG2.out, hmn, if_pos (by simp)]
          clear hmn HG2 HBAD
          have y0 := V5.out.c0
          have y1 := V5.out.c1
          have y2 := V5.out.c2
          have y3 := V5.out.c3
          have xx := X2.out.below B5.out
          have s0 := xx.c0
          have s1 := xx.c1
          have s2 := xx.c2
          have s3 := xx.c3
          have f0 := xx.fz 0
          have f1 := xx.fz 1
          have f2 := xx.fz 2
          have f3 := xx.fz 3
          obtain ⟨WA, hWA⟩ : ∃ WA, Hid ((((w5.setCell ⟨W1.heap.size, 0, none⟩ (.bool false)).setCell ⟨W1.heap.size, 1, none⟩ (.slice a1 L1 c1)).setCell ⟨W1.heap.size, 2, none⟩ (.slice a2 L2 c2)).setCell ⟨W1.heap.size, 3, none⟩ (.slice a3 L3 c3) = WA) := ⟨_, rfl⟩
          have YA : Hid (Nb WA 26 W1.heap.size false (.slice a1 L1 c1) (.slice a2 L2 c2) (.slice a3 L3 c3)) := by rw [← hWA.out]; exact xx.all _ _ _ _
          have tA : Tch (fun j => j = W1.heap.size) w5 WA := by rw [← hWA.out]; exact tch_all _ _ _ _ _ _
          have hX : W1.heap.size < W2.heap.size := X2.out.lt
          have NA : Hid (Nn WA n (.slice a1 L1 c1) (.slice a2 L2 c2) (.slice a3 L3 c3)) := N5.out.tch tA (fun j hj e => by have := FR.out j (.inl hj); omega) (fun j hj e => by have := FR.out j (.inr (.inl hj)); omega) (fun j hj e => by have := FR.out j (.inr (.inr hj)); omega)
          have bw : Below w.heap.size w w5 := B2.out.trans (B5.out.mono B2.out.size)
          have BF : Hid (Below w.heap.size w WA) := bw.trans (tA.below bw.size (fun j e => by have := HLT.out; omega))
          clear xx tA hX bw
          go_wp2_with fail
          rw [hWA.out]
          refine bodyPost_ret (v := .tuple #[nod false (.slice a1 L1 c1) (.slice a2 L2 c2) (.slice a3 L3 c3), .int .i64 0]) (results_twoN (p := 2) (ty := 26) rfl _ _ _ W1.heap.size _ _ rfl YA.out.load rfl) rfl ?_
          exact ⟨.inl ⟨n, _, _, _, HGS.out, by rw [HLF.out], NA.out⟩, BF.out⟩
  · have n1 : (kd != 1) = true := by simp; omega
    have n2 : (kd != 2) = true := by simp; omega
    have hn : getN kd xs = none := by unfold getN; rw [if_neg h12]
    obtain ⟨WA, hWA, hx, hf⟩ := HBAD.out W2 hn (Below.refl _ _)
    have HX := hideN hx
    have HF := hideN hf
    have HWA := hideN hWA
    have s0 := X2.out.c0
    have s1 := X2.out.c1
    have s2 := X2.out.c2
    have s3 := X2.out.c3
    have f0 := X2.out.fz 0
    have f1 := X2.out.fz 1
    have f2 := X2.out.fz 2
    have f3 := X2.out.fz 3
    clear h12 hWA hx hf hn HBAD
    go_enter Try.func19, Try.ntmps19
    go_wp2_with fail
    rw [HWA.out]
    refine bodyPost_ret (v := .tuple #[nod false (.slice none 0 0) (.slice none 0 0) (.slice none 0 0), .int .i64 7]) (results_twoN (p := 2) (ty := 26) rfl _ _ _ W1.heap.size _ _ rfl HX.out.load rfl) rfl ?_
    exact HF.out
end Go.Proofs.Ytbpaeecclikeiaa
