import Derived.Test.YtaacidgihhcpkaaYX22
import Derived.Test.YtaacidgihhcpkaaYX23
import Derived.Test.YtaacidgihhcpkaaYX19
import Derived.Test.YtaacidgihhcpkaaYX03
/-
  The document's record: the record at a sector.
-/
namespace Go.Proofs.Ytaacidgihhcpkaa
open Go.RowKit Go.Maps Pl
set_option linter.unusedVariables false
set_option linter.unusedSimpArgs false
set_option maxRecDepth 100000

theorem same256 (u v : Value) (xs ys : List Int) (w : World) (hu : Rd .u8 w u xs) (hv : Rd .u8 w v ys) (hx : xs.length = 256) (hy : ys.length = 256) : Calls Try.prog 31 #[u, v] w fun e w' => e = .returned (.bool (decide (xs = ys))) ∧ Below w.heap.size w w' := by
  obtain ⟨a, ca, rfl, ha1, ha2, _, ha⟩ := hu
  obtain ⟨b, cb, rfl, hb1, hb2, _, hb⟩ := hv
  rcases ha with e | ⟨ab, ao, rfl, ha⟩
  · rw [e] at hx; cases hx
  rcases hb with e | ⟨bb, bo, rfl, hb⟩
  · rw [e] at hy; cases hy
  rw [show ys.length = xs.length by rw [hx, hy]]
  exact same_any ab bb ao bo ca cb xs ys w (by rw [hx, hy]) (by omega) ha hb

theorem Rf.has_ok {R : Nat → Prop} {w : World} {r : Nat} {s : DS} (h : Rf R w r s) {i : Nat} (hi : i < s.L.length) : (s.has i).length = 256 ∧ By (s.has i) := by
  obtain ⟨lb, cp, A, B, x, W, h⟩ := h
  unfold DS.has
  by_cases e : s.V i = []
  · rw [e]; exact h.okL.get hi
  · exact (h.okV i).last e _
/-- What a record tells. -/
def RecR (f : Nat → List Int) (g n a : Nat) (w : World) (e : Ending) (w' : World) : Prop :=
  (JGood f g n a ∧ ∃ v, e = .returned (.tuple #[v, .int .i64 (jmn f a : Int)]) ∧ Owns .u8 5 w' v (jdat f a (jmn f a)) ∧ Below w.heap.size w w' ∧ ∀ k, v.ownBlock = some k → w.heap.size ≤ k) ∨
  (¬ JGood f g n a ∧ e = .returned (.tuple #[.slice none 0 0, .int .i64 0]) ∧ Below w.heap.size w w')
theorem jdat_lenR (f : Nat → List Int) (a : Nat) : ∀ m, (jdat f a m).length ≤ 240 * m
  | 0 => by simp [jdat]
  | m + 1 => by
    have h1 := jdat_lenR f a m
    have h2 := rdP_len (f (a + m))
    rw [jdat_succ, List.length_append]
    omega

set_option maxHeartbeats 4000000 in
theorem refRecord_any {R : Nat → Prop} {r : Nat} {s : DS} (at_ g n : Nat) (w : World) (h : Rf R w r s) (h50 : 50 ≤ s.L.length) (hat : at_ < 48) (hg : g < 4294967296) (hn : n < 4294967296) :
    Calls Try.prog 46 #[dp r, .int .i64 (at_ : Int), .int .i64 (g : Int), .int .i64 (n : Int)] w fun e w' => RecR s.has g n (2 + at_) w e w' := by
  have HRA : Hid (∀ (i : Nat) (W : World), Below w.heap.size w W → i < 50 → Calls Try.prog 58 #[.pointer (some ⟨r, 0, none⟩), .int .i64 (i : Int)] W fun e w' => ∃ v, e = .returned (.tuple #[v, .int .i64 0]) ∧ Owns .u8 5 w' v (s.has i) ∧ Below W.heap.size W w' ∧ ∀ k, v.ownBlock = some k → W.heap.size ≤ k) := fun i W hW hi => refRead_ok i W (h.below hW) (by omega)
  have HXO : Hid (∀ i, i < 50 → (s.has i).length = 256 ∧ By (s.has i)) := fun i hi => h.has_ok (by omega)
  obtain ⟨f, hf⟩ : ∃ f, Hid (s.has = f) := ⟨_, rfl⟩
  rw [hf.out] at HRA HXO ⊢
  clear hf h h50
  obtain ⟨A, hA⟩ : ∃ A, 2 + at_ = A := ⟨_, rfl⟩
  have hA1 : (2 : Int) + (at_ : Int) = (A : Int) := by omega
  have hA5 : A < 50 := by omega
  have HAE : Hid (2 + at_ = A) := hA
  rw [hA]
  clear hA
  have HR0 := hideP (HRA.out A w (Below.refl _ _) hA5)
  have HX0 := hideP (HXO.out A hA5)
  unfold dp
  go_enter Try.func46, Try.ntmps46
  go_wp2_with fail
  refine HR0.out.mono ?_
  clear HR0
  rintro e w1 ⟨v1, rfl, o1, b1, n1⟩
  obtain ⟨a1, c1, hv1, hl1, hc1, _, hcc1⟩ := id o1.rd
  obtain ⟨fb, fo, rfl, hce⟩ : ∃ b o, a1 = some ⟨b, o, none⟩ ∧ ∀ i, i < (f A).length → w1.cell? ⟨b, o + i, none⟩ = some (.int .u8 ((f A).getD i 0)) := by
    rcases hcc1 with e | h
    · rw [e] at HX0; have := HX0.out.1; cases this
    · exact h
  have ce2 := hce 2 (by rw [HX0.out.1]; decide)
  rw [bN_eq HX0.out.2] at ce2
  rw [hv1, HX0.out.1]
  have hm0 : bN (f A) 2 < 256 := bN_lt HX0.out.2 2
  obtain ⟨m, hm⟩ : ∃ m, bN (f A) 2 = m := ⟨_, rfl⟩
  have HM : Hid (jmn f A = m) := hm
  rw [hm] at ce2 hm0
  rw [HX0.out.1] at hl1
  have hc19 : c1 ≤ 9223372036854775807 := by unfold maxLen at hc1; omega
  have B1 := hideP b1
  clear hm hv1 hcc1 hce hc1 o1 b1 n1
  by_cases hm1 : m < 1
  · have hm1I : (m : Int) < 1 := by omega
    have HB : Hid (¬ JGood f g n A) := fun h => by have := h.1; rw [HM.out] at this; omega
    go_wp2_with fail
    go_ret2
    exact .inr ⟨HB.out, rfl, B1.out⟩
  · have hm1I : ¬ (m : Int) < 1 := by omega
    by_cases hm2 : 48 < at_ + m
    · have hm2I : (48 : Int) < (at_ : Int) + (m : Int) := by omega
      have HB : Hid (¬ JGood f g n A) := fun h => by have := h.2.1; rw [HM.out] at this; have := HAE.out; omega
      go_wp2_with fail
      go_ret2
      exact .inr ⟨HB.out, rfl, B1.out⟩
    · have hm2I : ¬ (48 : Int) < (at_ : Int) + (m : Int) := by omega
      have hAm : A + m ≤ 50 := by have := HAE.out; omega
      go_wp2_with fail
      go_loopw [13, 14] (fun ov iv wr => ∃ (i : Nat) (v0 : Value), v0 = ov ∧ i ≤ m ∧ iv = .int .i64 (i : Int) ∧ Hid (∀ q, q < i → IsP (f (A + q)) q m g n) ∧ Hid (Owns .u8 5 wr v0 (jdat f A i)) ∧ Hid (Below w.heap.size w wr) ∧ Hid (∀ k, v0.ownBlock = some k → w.heap.size ≤ k)) (fun _ iv _ => m - (intOf iv).toNat)
      case atStart => exact ⟨0, _, rfl, Nat.zero_le _, rfl, (fun q hq => by omega), owns_nil _ _ _, B1, (fun k hk => by cases hk)⟩
      case round =>
        clear B1 ce2
        obtain ⟨i, v0, rfl, hi, rfl, IP, OW, BW, NW⟩ := hrel
        obtain ⟨oa, oc, hoe, _, ho2, _⟩ := id OW.out.rd
        subst hoe
        have hoc9 : oc ≤ 9223372036854775807 := by unfold maxLen at ho2; omega
        have HJD := hideP (jdat_lenR f A i)
        obtain ⟨ol, hol⟩ : ∃ x, Hid ((jdat f A i).length = x) := ⟨_, rfl⟩
        rw [hol.out] at OW NW HJD ⊢
        by_cases hlt : i < m
        · have hltI : (i : Int) < (m : Int) := by omega
          obtain ⟨p, hp⟩ : ∃ p, A + i = p := ⟨_, rfl⟩
          have hpI : (A : Int) + (i : Int) = (p : Int) := by omega
          have hp5 : p < 50 := by omega
          have HPE : Hid (A + i = p) := hp
          clear hp
          have HRP := hideP (HRA.out p wr BW.out hp5)
          have HX := hideP (HXO.out p hp5)
          go_wp2_with fail
          refine HRP.out.mono ?_
          clear HRP
          rintro e w3 ⟨v3, rfl, o3, b3, n3⟩
          obtain ⟨X, hX⟩ : ∃ X, Hid (f p = X) := ⟨_, rfl⟩
          rw [hX.out] at o3 HX
          obtain ⟨a3, c3, hv3, hl3, hc3, _, hcc3⟩ := id o3.rd
          obtain ⟨sb, so, rfl, hce⟩ : ∃ b o, a3 = some ⟨b, o, none⟩ ∧ ∀ i, i < X.length → w3.cell? ⟨b, o + i, none⟩ = some (.int .u8 (X.getD i 0)) := by
            rcases hcc3 with e | h
            · rw [e] at HX; have := HX.out.1; cases this
            · exact h
          have ce3 := hce 3 (by rw [HX.out.1]; decide)
          rw [bN_eq HX.out.2] at ce3
          subst hv3
          rw [HX.out.1] at hl3 ⊢
          have hc39 : c3 ≤ 9223372036854775807 := by unfold maxLen at hc3; omega
          have HR3 : Hid (Rd .u8 w3 (.slice (some ⟨sb, so, none⟩) 256 c3) X) := by have := o3.rd; rw [HX.out.1] at this; exact this
          have hk0 : bN X 3 < 256 := bN_lt HX.out.2 3
          have HLK := hideP (isP_lk (X := X) HX.out.1 HX.out.2 (i := i) (m := m) (g := g) (n := n) hlt hm0 hg hn)
          have HJS : Hid (jdat f A (i + 1) = jdat f A i ++ (rdP X).ys) := by show _ = _; rw [jdat_succ, HPE.out, hX.out]
          have HIY := hideP (fun (k : Nat) (hk : bN X 3 = k) (h : k ≤ 232) => isP_ys HX.out.1 hk h)
          obtain ⟨k, hk⟩ : ∃ k, bN X 3 = k := ⟨_, rfl⟩
          have HK : Hid (bN X 3 = k) := hk
          rw [hk] at ce3 hk0 HLK
          clear hk
          have OW3 := hideP (OW.out.below b3)
          have BW3 : Hid (Below w.heap.size w w3) := BW.out.trans (b3.mono BW.out.size)
          have HSL : Hid (∀ kk, kk ≤ 240 → (sl X 12 kk).length = kk) := fun kk hkk => by show _ = _; unfold sl; rw [List.length_take, List.length_drop, HX.out.1]; omega
          have HBAD : Hid (¬ IsP X i m g n → ¬ JGood f g n A) := fun h1 h2 => h1 (by
            have := h2.2.2 i (by rw [HM.out]; exact hlt)
            rw [HM.out, HPE.out, hX.out] at this
            exact this)
          clear hce hcc3 hc3 o3 b3 n3 OW BW
          by_cases h1 : (232 : Int) < (k : Int)
          · have HB : Hid (¬ JGood f g n A) := HBAD.out (by rw [HLK.out]; intro hh; have := hh.1.1; omega)
            go_wp2_with fail
            go_ret2
            exact .inr ⟨HB.out, rfl, BW3.out⟩
          · by_cases h2 : (i : Int) < (m : Int) - 1
            · by_cases h3 : k = 232
              · have h3b : ((k : Int) != 232) = false := by simp; omega
                by_cases h4 : (0 : Int) < (i : Int)
                · have h5 : ((k : Int) == 0) = false := by simp; omega
                  have H3 : Hid (k = 232) := h3
                  clear h3
                  have HL : Hid (Lk i m k) := ⟨by have := H3.out; omega, fun _ => H3.out, fun _ => by have := H3.out; omega⟩
                  have hk232 : k ≤ 232 := HL.out.1
                  obtain ⟨e12, he12⟩ : ∃ x, 12 + k = x := ⟨_, rfl⟩
                  have he1 : (12 : Int) + (k : Int) = (e12 : Int) := by omega
                  have he2 : e12 ≤ 244 := by omega
                  have HE12 : Hid (12 + k = e12) := he12
                  clear he12
                  have HSR : Hid (Rd .u8 w3 (sliced (some ⟨sb, so, none⟩) 12 e12 c3 1) (sl X 12 k)) := by
                    have := rd_sliced (a := some ⟨sb, so, none⟩) (cap := c3) (xs := X) (by rw [HX.out.1]; exact HR3.out) 12 e12 (by have := HE12.out; omega) (by rw [HX.out.1]; omega)
                    rw [show e12 - 12 = k by have := HE12.out; omega] at this
                    exact this
                  have hsl : ∀ W, (Instr.sliceAt 36 (.slice (some ⟨sb, so, none⟩) 256 c3) (some (.int .i64 12)) (some (.int .i64 (e12 : Int))) none).run Try.prog W = .ok (sliced (some ⟨sb, so, none⟩) 12 e12 c3 1) W := fun W => by
                    have := run_slice_lh (P := Try.prog) W 36 (some ⟨sb, so, none⟩) 256 c3 under8 .i64 .i64 (12 : Int) (e12 : Int) (by omega) (by have := HE12.out; omega) (by omega)
                    rw [run_sliceAt_slice _ _ _ _ _ _ under8, this, size8]
                    simp [Result.andThen]
                  obtain ⟨ca, cc, hcs, hcs1, hcs2, _⟩ := id HSR.out
                  have HSR2 := HSR
                  have HKL := hideP (HSL.out k (by omega))
                  rw [hcs] at hsl HSR2
                  rw [HKL.out] at hsl HSR2
                  have hcc9 : cc ≤ 9223372036854775807 := by unfold maxLen at hcs2; omega
                  have HPC := hideP (refPieceJ_any ⟨i, m, g, n, sl X 12 k⟩ (.slice ca k cc) w3 HSR2.out ((HX.out.2.dropB 12).take k) ⟨by show i < 256; omega, hm0, hg, hn, by show (sl X 12 k).length ≤ 240; rw [HKL.out]; omega⟩)
                  have HJL : Hid ((jsec ⟨i, m, g, n, sl X 12 k⟩).length = 256) := jsec_len (by show (sl X 12 k).length ≤ 240; rw [HKL.out]; omega)
                  dsimp only at HPC
                  obtain ⟨js, hjs⟩ : ∃ js, Hid (jsec ⟨i, m, g, n, sl X 12 k⟩ = js) := ⟨_, rfl⟩
                  rw [hjs.out] at HPC HJL HLK
                  clear hcs hcs1 hcs2 HSR
                  go_wp2_with fail
                  refine HPC.out.mono ?_
                  clear HPC
                  rintro e w5 ⟨v5, rfl, o5, b5, n5⟩
                  have R5 := hideP o5.rd
                  have HX5 := hideP (HR3.out.below b5)
                  have OW5 := hideP (OW3.out.below b5)
                  have RS5 := hideP (HSR2.out.below b5)
                  have BW5 : Hid (Below w.heap.size w w5) := BW3.out.trans (b5.mono BW3.out.size)
                  have HSM := hideP (same256 _ _ X js w5 HX5.out R5.out HX.out.1 HJL.out)
                  clear o5 b5 n5 ce3 HSR2
                  by_cases hxe : X = js
                  · rw [decide_eq_true hxe] at HSM
                    have HIP : Hid (IsP X i m g n) := HLK.out.2 ⟨HL.out, hxe⟩
                    clear hxe
                    go_wp2_with fail
                    refine HSM.out.mono ?_
                    rintro e w6 ⟨rfl, b6⟩
                    have OW6 := hideP (OW5.out.below b6)
                    have RS6 := hideP (RS5.out.below b6)
                    have BW6 : Hid (Below w.heap.size w w6) := BW5.out.trans (b6.mono BW5.out.size)
                    have HYS := hideP (HIY.out k HK.out hk232)
                    have HLE : Hid (ol + k ≤ 100000) := by show _ ≤ _; have := HJD.out; omega
                    obtain ⟨D0, hD0⟩ : ∃ D0, Hid (jdat f A i = D0) := ⟨_, rfl⟩
                    obtain ⟨Y0, hY0⟩ : ∃ Y0, Hid (sl X 12 k = Y0) := ⟨_, rfl⟩
                    rw [hD0.out] at OW6 hol HJS
                    rw [HYS.out] at HJS
                    rw [hY0.out] at RS6 HKL HJS
                    clear b6 HSM OW5 RS5 BW5 R5 HX5 OW3
                    go_wp2_with (at_builtin; refine wpList_many _ rfl (.tmp 89) (.tmp 93) 36 rfl 5 .u8 1 elem8 (.slice oa ol oc) D0 rfl OW6.out (.slice ca k cc) Y0 rfl RS6.out (by rw [hol.out, HKL.out]; have := HLE.out; omega) (by rw [hol.out, HKL.out]; have := HLE.out; omega) ?_)
                    intro v7 w7 o7 g7
                    rw [← HJS.out] at o7
                    have O7 := hideP o7
                    have B7 := hideP (g7.onto BW6.out NW.out)
                    have B7a := hideP B7.out.1
                    have B7b := hideP B7.out.2
                    have IP7 : Hid (∀ q, q < i + 1 → IsP (f (A + q)) q m g n) := fun q hq => by
                      by_cases e : q = i
                      · subst e; rw [HPE.out, hX.out]; exact HIP.out
                      · exact IP.out q (by omega)
                    clear o7 g7 B7 OW6 RS6 hsl
                    go_wp2_with fail
                    go_roundw
                    case rel => exact ⟨i + 1, _, rfl, by omega, by go_num, IP7, O7, B7a, B7b⟩
                    case measure => simp [intOf]; omega
                  · rw [decide_eq_false hxe] at HSM
                    have HB : Hid (¬ JGood f g n A) := HBAD.out (by rw [HLK.out]; intro hh; exact hxe hh.2)
                    clear hxe
                    go_wp2_with fail
                    refine HSM.out.mono ?_
                    rintro e w6 ⟨rfl, b6⟩
                    have BW6 : Hid (Below w.heap.size w w6) := BW5.out.trans (b6.mono BW5.out.size)
                    clear b6 HSM
                    go_wp2_with fail
                    go_ret2
                    exact .inr ⟨HB.out, rfl, BW6.out⟩
                · have H3 : Hid (k = 232) := h3
                  clear h3
                  have HL : Hid (Lk i m k) := ⟨by have := H3.out; omega, fun _ => H3.out, fun _ => by have := H3.out; omega⟩
                  have hk232 : k ≤ 232 := HL.out.1
                  obtain ⟨e12, he12⟩ : ∃ x, 12 + k = x := ⟨_, rfl⟩
                  have he1 : (12 : Int) + (k : Int) = (e12 : Int) := by omega
                  have he2 : e12 ≤ 244 := by omega
                  have HE12 : Hid (12 + k = e12) := he12
                  clear he12
                  have HSR : Hid (Rd .u8 w3 (sliced (some ⟨sb, so, none⟩) 12 e12 c3 1) (sl X 12 k)) := by
                    have := rd_sliced (a := some ⟨sb, so, none⟩) (cap := c3) (xs := X) (by rw [HX.out.1]; exact HR3.out) 12 e12 (by have := HE12.out; omega) (by rw [HX.out.1]; omega)
                    rw [show e12 - 12 = k by have := HE12.out; omega] at this
                    exact this
                  have hsl : ∀ W, (Instr.sliceAt 36 (.slice (some ⟨sb, so, none⟩) 256 c3) (some (.int .i64 12)) (some (.int .i64 (e12 : Int))) none).run Try.prog W = .ok (sliced (some ⟨sb, so, none⟩) 12 e12 c3 1) W := fun W => by
                    have := run_slice_lh (P := Try.prog) W 36 (some ⟨sb, so, none⟩) 256 c3 under8 .i64 .i64 (12 : Int) (e12 : Int) (by omega) (by have := HE12.out; omega) (by omega)
                    rw [run_sliceAt_slice _ _ _ _ _ _ under8, this, size8]
                    simp [Result.andThen]
                  obtain ⟨ca, cc, hcs, hcs1, hcs2, _⟩ := id HSR.out
                  have HSR2 := HSR
                  have HKL := hideP (HSL.out k (by omega))
                  rw [hcs] at hsl HSR2
                  rw [HKL.out] at hsl HSR2
                  have hcc9 : cc ≤ 9223372036854775807 := by unfold maxLen at hcs2; omega
                  have HPC := hideP (refPieceJ_any ⟨i, m, g, n, sl X 12 k⟩ (.slice ca k cc) w3 HSR2.out ((HX.out.2.dropB 12).take k) ⟨by show i < 256; omega, hm0, hg, hn, by show (sl X 12 k).length ≤ 240; rw [HKL.out]; omega⟩)
                  have HJL : Hid ((jsec ⟨i, m, g, n, sl X 12 k⟩).length = 256) := jsec_len (by show (sl X 12 k).length ≤ 240; rw [HKL.out]; omega)
                  dsimp only at HPC
                  obtain ⟨js, hjs⟩ : ∃ js, Hid (jsec ⟨i, m, g, n, sl X 12 k⟩ = js) := ⟨_, rfl⟩
                  rw [hjs.out] at HPC HJL HLK
                  clear hcs hcs1 hcs2 HSR
                  go_wp2_with fail
                  refine HPC.out.mono ?_
                  clear HPC
                  rintro e w5 ⟨v5, rfl, o5, b5, n5⟩
                  have R5 := hideP o5.rd
                  have HX5 := hideP (HR3.out.below b5)
                  have OW5 := hideP (OW3.out.below b5)
                  have RS5 := hideP (HSR2.out.below b5)
                  have BW5 : Hid (Below w.heap.size w w5) := BW3.out.trans (b5.mono BW3.out.size)
                  have HSM := hideP (same256 _ _ X js w5 HX5.out R5.out HX.out.1 HJL.out)
                  clear o5 b5 n5 ce3 HSR2
                  by_cases hxe : X = js
                  · rw [decide_eq_true hxe] at HSM
                    have HIP : Hid (IsP X i m g n) := HLK.out.2 ⟨HL.out, hxe⟩
                    clear hxe
                    go_wp2_with fail
                    refine HSM.out.mono ?_
                    rintro e w6 ⟨rfl, b6⟩
                    have OW6 := hideP (OW5.out.below b6)
                    have RS6 := hideP (RS5.out.below b6)
                    have BW6 : Hid (Below w.heap.size w w6) := BW5.out.trans (b6.mono BW5.out.size)
                    have HYS := hideP (HIY.out k HK.out hk232)
                    have HLE : Hid (ol + k ≤ 100000) := by show _ ≤ _; have := HJD.out; omega
                    obtain ⟨D0, hD0⟩ : ∃ D0, Hid (jdat f A i = D0) := ⟨_, rfl⟩
                    obtain ⟨Y0, hY0⟩ : ∃ Y0, Hid (sl X 12 k = Y0) := ⟨_, rfl⟩
                    rw [hD0.out] at OW6 hol HJS
                    rw [HYS.out] at HJS
                    rw [hY0.out] at RS6 HKL HJS
                    clear b6 HSM OW5 RS5 BW5 R5 HX5 OW3
                    go_wp2_with (at_builtin; refine wpList_many _ rfl (.tmp 89) (.tmp 93) 36 rfl 5 .u8 1 elem8 (.slice oa ol oc) D0 rfl OW6.out (.slice ca k cc) Y0 rfl RS6.out (by rw [hol.out, HKL.out]; have := HLE.out; omega) (by rw [hol.out, HKL.out]; have := HLE.out; omega) ?_)
                    intro v7 w7 o7 g7
                    rw [← HJS.out] at o7
                    have O7 := hideP o7
                    have B7 := hideP (g7.onto BW6.out NW.out)
                    have B7a := hideP B7.out.1
                    have B7b := hideP B7.out.2
                    have IP7 : Hid (∀ q, q < i + 1 → IsP (f (A + q)) q m g n) := fun q hq => by
                      by_cases e : q = i
                      · subst e; rw [HPE.out, hX.out]; exact HIP.out
                      · exact IP.out q (by omega)
                    clear o7 g7 B7 OW6 RS6 hsl
                    go_wp2_with fail
                    go_roundw
                    case rel => exact ⟨i + 1, _, rfl, by omega, by go_num, IP7, O7, B7a, B7b⟩
                    case measure => simp [intOf]; omega
                  · rw [decide_eq_false hxe] at HSM
                    have HB : Hid (¬ JGood f g n A) := HBAD.out (by rw [HLK.out]; intro hh; exact hxe hh.2)
                    clear hxe
                    go_wp2_with fail
                    refine HSM.out.mono ?_
                    rintro e w6 ⟨rfl, b6⟩
                    have BW6 : Hid (Below w.heap.size w w6) := BW5.out.trans (b6.mono BW5.out.size)
                    clear b6 HSM
                    go_wp2_with fail
                    go_ret2
                    exact .inr ⟨HB.out, rfl, BW6.out⟩
              · have h3b : ((k : Int) != 232) = true := by simp; omega
                have HB : Hid (¬ JGood f g n A) := HBAD.out (by rw [HLK.out]; intro hh; exact h3 (hh.1.2.1 (by omega)))
                go_wp2_with fail
                go_ret2
                exact .inr ⟨HB.out, rfl, BW3.out⟩
            · by_cases h4 : (0 : Int) < (i : Int)
              · by_cases h5 : k = 0
                · have h5b : ((k : Int) == 0) = true := by simp [h5]
                  have H5 : Hid (k = 0) := h5
                  clear h5
                  have HB : Hid (¬ JGood f g n A) := HBAD.out (by rw [HLK.out]; intro hh; exact hh.1.2.2 (by omega) H5.out)
                  go_wp2_with fail
                  go_ret2
                  exact .inr ⟨HB.out, rfl, BW3.out⟩
                · have h5b : ((k : Int) == 0) = false := by simp; omega
                  have HL : Hid (Lk i m k) := ⟨by omega, fun h => by omega, fun _ => by omega⟩
                  have hk232 : k ≤ 232 := HL.out.1
                  obtain ⟨e12, he12⟩ : ∃ x, 12 + k = x := ⟨_, rfl⟩
                  have he1 : (12 : Int) + (k : Int) = (e12 : Int) := by omega
                  have he2 : e12 ≤ 244 := by omega
                  have HE12 : Hid (12 + k = e12) := he12
                  clear he12
                  have HSR : Hid (Rd .u8 w3 (sliced (some ⟨sb, so, none⟩) 12 e12 c3 1) (sl X 12 k)) := by
                    have := rd_sliced (a := some ⟨sb, so, none⟩) (cap := c3) (xs := X) (by rw [HX.out.1]; exact HR3.out) 12 e12 (by have := HE12.out; omega) (by rw [HX.out.1]; omega)
                    rw [show e12 - 12 = k by have := HE12.out; omega] at this
                    exact this
                  have hsl : ∀ W, (Instr.sliceAt 36 (.slice (some ⟨sb, so, none⟩) 256 c3) (some (.int .i64 12)) (some (.int .i64 (e12 : Int))) none).run Try.prog W = .ok (sliced (some ⟨sb, so, none⟩) 12 e12 c3 1) W := fun W => by
                    have := run_slice_lh (P := Try.prog) W 36 (some ⟨sb, so, none⟩) 256 c3 under8 .i64 .i64 (12 : Int) (e12 : Int) (by omega) (by have := HE12.out; omega) (by omega)
                    rw [run_sliceAt_slice _ _ _ _ _ _ under8, this, size8]
                    simp [Result.andThen]
                  obtain ⟨ca, cc, hcs, hcs1, hcs2, _⟩ := id HSR.out
                  have HSR2 := HSR
                  have HKL := hideP (HSL.out k (by omega))
                  rw [hcs] at hsl HSR2
                  rw [HKL.out] at hsl HSR2
                  have hcc9 : cc ≤ 9223372036854775807 := by unfold maxLen at hcs2; omega
                  have HPC := hideP (refPieceJ_any ⟨i, m, g, n, sl X 12 k⟩ (.slice ca k cc) w3 HSR2.out ((HX.out.2.dropB 12).take k) ⟨by show i < 256; omega, hm0, hg, hn, by show (sl X 12 k).length ≤ 240; rw [HKL.out]; omega⟩)
                  have HJL : Hid ((jsec ⟨i, m, g, n, sl X 12 k⟩).length = 256) := jsec_len (by show (sl X 12 k).length ≤ 240; rw [HKL.out]; omega)
                  dsimp only at HPC
                  obtain ⟨js, hjs⟩ : ∃ js, Hid (jsec ⟨i, m, g, n, sl X 12 k⟩ = js) := ⟨_, rfl⟩
                  rw [hjs.out] at HPC HJL HLK
                  clear hcs hcs1 hcs2 HSR
                  go_wp2_with fail
                  refine HPC.out.mono ?_
                  clear HPC
                  rintro e w5 ⟨v5, rfl, o5, b5, n5⟩
                  have R5 := hideP o5.rd
                  have HX5 := hideP (HR3.out.below b5)
                  have OW5 := hideP (OW3.out.below b5)
                  have RS5 := hideP (HSR2.out.below b5)
                  have BW5 : Hid (Below w.heap.size w w5) := BW3.out.trans (b5.mono BW3.out.size)
                  have HSM := hideP (same256 _ _ X js w5 HX5.out R5.out HX.out.1 HJL.out)
                  clear o5 b5 n5 ce3 HSR2
                  by_cases hxe : X = js
                  · rw [decide_eq_true hxe] at HSM
                    have HIP : Hid (IsP X i m g n) := HLK.out.2 ⟨HL.out, hxe⟩
                    clear hxe
                    go_wp2_with fail
                    refine HSM.out.mono ?_
                    rintro e w6 ⟨rfl, b6⟩
                    have OW6 := hideP (OW5.out.below b6)
                    have RS6 := hideP (RS5.out.below b6)
                    have BW6 : Hid (Below w.heap.size w w6) := BW5.out.trans (b6.mono BW5.out.size)
                    have HYS := hideP (HIY.out k HK.out hk232)
                    have HLE : Hid (ol + k ≤ 100000) := by show _ ≤ _; have := HJD.out; omega
                    obtain ⟨D0, hD0⟩ : ∃ D0, Hid (jdat f A i = D0) := ⟨_, rfl⟩
                    obtain ⟨Y0, hY0⟩ : ∃ Y0, Hid (sl X 12 k = Y0) := ⟨_, rfl⟩
                    rw [hD0.out] at OW6 hol HJS
                    rw [HYS.out] at HJS
                    rw [hY0.out] at RS6 HKL HJS
                    clear b6 HSM OW5 RS5 BW5 R5 HX5 OW3
                    go_wp2_with (at_builtin; refine wpList_many _ rfl (.tmp 89) (.tmp 93) 36 rfl 5 .u8 1 elem8 (.slice oa ol oc) D0 rfl OW6.out (.slice ca k cc) Y0 rfl RS6.out (by rw [hol.out, HKL.out]; have := HLE.out; omega) (by rw [hol.out, HKL.out]; have := HLE.out; omega) ?_)
                    intro v7 w7 o7 g7
                    rw [← HJS.out] at o7
                    have O7 := hideP o7
                    have B7 := hideP (g7.onto BW6.out NW.out)
                    have B7a := hideP B7.out.1
                    have B7b := hideP B7.out.2
                    have IP7 : Hid (∀ q, q < i + 1 → IsP (f (A + q)) q m g n) := fun q hq => by
                      by_cases e : q = i
                      · subst e; rw [HPE.out, hX.out]; exact HIP.out
                      · exact IP.out q (by omega)
                    clear o7 g7 B7 OW6 RS6 hsl
                    go_wp2_with fail
                    go_roundw
                    case rel => exact ⟨i + 1, _, rfl, by omega, by go_num, IP7, O7, B7a, B7b⟩
                    case measure => simp [intOf]; omega
                  · rw [decide_eq_false hxe] at HSM
                    have HB : Hid (¬ JGood f g n A) := HBAD.out (by rw [HLK.out]; intro hh; exact hxe hh.2)
                    clear hxe
                    go_wp2_with fail
                    refine HSM.out.mono ?_
                    rintro e w6 ⟨rfl, b6⟩
                    have BW6 : Hid (Below w.heap.size w w6) := BW5.out.trans (b6.mono BW5.out.size)
                    clear b6 HSM
                    go_wp2_with fail
                    go_ret2
                    exact .inr ⟨HB.out, rfl, BW6.out⟩
              · have HL : Hid (Lk i m k) := ⟨by omega, fun h => by omega, fun h => by omega⟩
                have hk232 : k ≤ 232 := HL.out.1
                obtain ⟨e12, he12⟩ : ∃ x, 12 + k = x := ⟨_, rfl⟩
                have he1 : (12 : Int) + (k : Int) = (e12 : Int) := by omega
                have he2 : e12 ≤ 244 := by omega
                have HE12 : Hid (12 + k = e12) := he12
                clear he12
                have HSR : Hid (Rd .u8 w3 (sliced (some ⟨sb, so, none⟩) 12 e12 c3 1) (sl X 12 k)) := by
                  have := rd_sliced (a := some ⟨sb, so, none⟩) (cap := c3) (xs := X) (by rw [HX.out.1]; exact HR3.out) 12 e12 (by have := HE12.out; omega) (by rw [HX.out.1]; omega)
                  rw [show e12 - 12 = k by have := HE12.out; omega] at this
                  exact this
                have hsl : ∀ W, (Instr.sliceAt 36 (.slice (some ⟨sb, so, none⟩) 256 c3) (some (.int .i64 12)) (some (.int .i64 (e12 : Int))) none).run Try.prog W = .ok (sliced (some ⟨sb, so, none⟩) 12 e12 c3 1) W := fun W => by
                  have := run_slice_lh (P := Try.prog) W 36 (some ⟨sb, so, none⟩) 256 c3 under8 .i64 .i64 (12 : Int) (e12 : Int) (by omega) (by have := HE12.out; omega) (by omega)
                  rw [run_sliceAt_slice _ _ _ _ _ _ under8, this, size8]
                  simp [Result.andThen]
                obtain ⟨ca, cc, hcs, hcs1, hcs2, _⟩ := id HSR.out
                have HSR2 := HSR
                have HKL := hideP (HSL.out k (by omega))
                rw [hcs] at hsl HSR2
                rw [HKL.out] at hsl HSR2
                have hcc9 : cc ≤ 9223372036854775807 := by unfold maxLen at hcs2; omega
                have HPC := hideP (refPieceJ_any ⟨i, m, g, n, sl X 12 k⟩ (.slice ca k cc) w3 HSR2.out ((HX.out.2.dropB 12).take k) ⟨by show i < 256; omega, hm0, hg, hn, by show (sl X 12 k).length ≤ 240; rw [HKL.out]; omega⟩)
                have HJL : Hid ((jsec ⟨i, m, g, n, sl X 12 k⟩).length = 256) := jsec_len (by show (sl X 12 k).length ≤ 240; rw [HKL.out]; omega)
                dsimp only at HPC
                obtain ⟨js, hjs⟩ : ∃ js, Hid (jsec ⟨i, m, g, n, sl X 12 k⟩ = js) := ⟨_, rfl⟩
                rw [hjs.out] at HPC HJL HLK
                clear hcs hcs1 hcs2 HSR
                go_wp2_with fail
                refine HPC.out.mono ?_
                clear HPC
                rintro e w5 ⟨v5, rfl, o5, b5, n5⟩
                have R5 := hideP o5.rd
                have HX5 := hideP (HR3.out.below b5)
                have OW5 := hideP (OW3.out.below b5)
                have RS5 := hideP (HSR2.out.below b5)
                have BW5 : Hid (Below w.heap.size w w5) := BW3.out.trans (b5.mono BW3.out.size)
                have HSM := hideP (same256 _ _ X js w5 HX5.out R5.out HX.out.1 HJL.out)
                clear o5 b5 n5 ce3 HSR2
                by_cases hxe : X = js
                · rw [decide_eq_true hxe] at HSM
                  have HIP : Hid (IsP X i m g n) := HLK.out.2 ⟨HL.out, hxe⟩
                  clear hxe
                  go_wp2_with fail
                  refine HSM.out.mono ?_
                  rintro e w6 ⟨rfl, b6⟩
                  have OW6 := hideP (OW5.out.below b6)
                  have RS6 := hideP (RS5.out.below b6)
                  have BW6 : Hid (Below w.heap.size w w6) := BW5.out.trans (b6.mono BW5.out.size)
                  have HYS := hideP (HIY.out k HK.out hk232)
                  have HLE : Hid (ol + k ≤ 100000) := by show _ ≤ _; have := HJD.out; omega
                  obtain ⟨D0, hD0⟩ : ∃ D0, Hid (jdat f A i = D0) := ⟨_, rfl⟩
                  obtain ⟨Y0, hY0⟩ : ∃ Y0, Hid (sl X 12 k = Y0) := ⟨_, rfl⟩
                  rw [hD0.out] at OW6 hol HJS
                  rw [HYS.out] at HJS
                  rw [hY0.out] at RS6 HKL HJS
                  clear b6 HSM OW5 RS5 BW5 R5 HX5 OW3
                  go_wp2_with (at_builtin; refine wpList_many _ rfl (.tmp 89) (.tmp 93) 36 rfl 5 .u8 1 elem8 (.slice oa ol oc) D0 rfl OW6.out (.slice ca k cc) Y0 rfl RS6.out (by rw [hol.out, HKL.out]; have := HLE.out; omega) (by rw [hol.out, HKL.out]; have := HLE.out; omega) ?_)
                  intro v7 w7 o7 g7
                  rw [← HJS.out] at o7
                  have O7 := hideP o7
                  have B7 := hideP (g7.onto BW6.out NW.out)
                  have B7a := hideP B7.out.1
                  have B7b := hideP B7.out.2
                  have IP7 : Hid (∀ q, q < i + 1 → IsP (f (A + q)) q m g n) := fun q hq => by
                    by_cases e : q = i
                    · subst e; rw [HPE.out, hX.out]; exact HIP.out
                    · exact IP.out q (by omega)
                  clear o7 g7 B7 OW6 RS6 hsl
                  go_wp2_with fail
                  go_roundw
                  case rel => exact ⟨i + 1, _, rfl, by omega, by go_num, IP7, O7, B7a, B7b⟩
                  case measure => simp [intOf]; omega
                · rw [decide_eq_false hxe] at HSM
                  have HB : Hid (¬ JGood f g n A) := HBAD.out (by rw [HLK.out]; intro hh; exact hxe hh.2)
                  clear hxe
                  go_wp2_with fail
                  refine HSM.out.mono ?_
                  rintro e w6 ⟨rfl, b6⟩
                  have BW6 : Hid (Below w.heap.size w w6) := BW5.out.trans (b6.mono BW5.out.size)
                  clear b6 HSM
                  go_wp2_with fail
                  go_ret2
                  exact .inr ⟨HB.out, rfl, BW6.out⟩
        · have hltI : ¬ (i : Int) < (m : Int) := by omega
          have hie : i = m := by omega
          rw [hie] at IP OW
          have HG : Hid (JGood f g n A) := ⟨by rw [HM.out]; omega, by rw [HM.out]; exact hAm, fun q hq => by rw [HM.out] at hq ⊢; exact IP.out q hq⟩
          clear hie
          go_wp2_with fail
          go_ret2
          refine .inl ⟨HG.out, _, by rw [HM.out]; rfl, ?_, BW.out, NW.out⟩
          rw [HM.out]
          exact OW.out
end Go.Proofs.Ytaacidgihhcpkaa
