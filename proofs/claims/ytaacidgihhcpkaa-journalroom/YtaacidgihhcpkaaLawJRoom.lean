/-
  JournalRoom's walk.
-/
import Derived.Test.YtaacidgihhcpkaaJLives
import Derived.Test.YtaacidgihhcpkaaJFct
import Derived.Test.YtaacidgihhcpkaaDDirty
namespace Go.Proofs.Ytaacidgihhcpkaa
open Go.RowKit Go.Maps Pl
set_option linter.unusedVariables false
set_option linter.unusedSimpArgs false
set_option maxRecDepth 100000

set_option maxHeartbeats 2000000 in
theorem journalRoom_walk (v : Value) (rows : List (List Int)) (w : World) (hr : RdL w v rows) (hb : ∀ y ∈ rows, By y) (hl : ∀ y ∈ rows, y.length ≤ 140737488355328) :
    Calls Try.prog 6 #[v] w fun e w' => e = .returned (.bool true) ∧ Below w.heap.size w w' := by
  obtain ⟨va, vc, rfl, hv1, hv2, _⟩ := id hr
  have HR : Hid (RdL w (.slice va rows.length vc) rows) := hr
  have HB := hideP hb
  have HL := hideP hl
  obtain ⟨n, hn⟩ : ∃ n, Hid (rows.length = n) := ⟨_, rfl⟩
  rw [hn.out] at HR hv1 ⊢
  have hvc : vc ≤ 9223372036854775807 := by unfold maxLen at hv2; omega
  have HN := hideP (new_ok 60 w (by decide) (by decide))
  clear hr hb hl hv2
  go_enter Try.func6, Try.ntmps6
  go_wp2_with fail
  refine HN.out.mono ?_
  rintro e w1 ⟨d, S, rfl, D1, b1, n1⟩
  have HJ := hideP (newJ_any 9 w1 D1 (by simp [DS.new]))
  have HD1 := hideP D1
  have HB1 := hideP b1
  have HN1 := hideP n1
  clear HN D1 b1 n1
  unfold dp at HJ ⊢
  go_wp2_with fail
  refine HJ.out.mono ?_
  rintro e w2 (⟨_, rfl, jb2, b2, s2⟩ | ⟨h, _⟩)
  case inr => exact absurd h (by decide)
  have J2 : Hid (Jd S w w2 d (DS.new 60) w1.heap.size 9 0 2) := jd_new HD1.out HB1.out HN1.out (by simp [DS.new]) (by decide) (by decide) jb2 b2
  obtain ⟨j, hjj⟩ : ∃ j, Hid (w1.heap.size = j) := ⟨_, rfl⟩
  rw [hjj.out] at J2 ⊢
  clear HJ jb2 b2 s2 HD1 HB1 HN1
  go_wp2_with fail
  go_loopw [7, 8, 9] (fun rv nv iv wr => ∃ (k r m a : Nat) (S : Nat → Prop) (s : DS), k ≤ n ∧ iv = .int .i64 (k : Int) ∧ rv = .int .i64 (r : Int) ∧ nv = .int .i64 (m : Int) ∧ r + a = 50 ∧ m + 2 ≤ a ∧ Hid (Jd S w wr d s j 9 m a) ∧ Hid (VI s a ∧ s.c = false ∧ s.L.length = 60)) (fun _ _ iv _ => n - (intOf iv).toNat)
  case atStart => exact ⟨0, 48, 0, 2, S, DS.new 60, Nat.zero_le _, rfl, rfl, rfl, rfl, by decide, J2, fun p => by rw [new_V, if_neg (by omega)]; rfl, rfl, by simp [DS.new]⟩
  case round =>
    clear J2
    obtain ⟨k, r, m, a, S, s, hk, rfl, rfl, rfl, hra, hma, JD, HVI⟩ := hrel
    by_cases hlt : k < n
    · have hkl : (k : Int) < (n : Int) := by omega
      obtain ⟨lb, lo, u, rfl, cu, ru⟩ := HR.out.at_ JD.out.be (k := k) (by rw [hn.out]; exact hlt)
      have HMEM : Hid (rows.getD k [] ∈ rows) := by
        show _ ∈ _
        rw [List.getD_eq_getElem?_getD, List.getElem?_eq_getElem (by rw [hn.out]; exact hlt)]
        exact List.getElem_mem _
      have HYB := hideP (HB.out _ HMEM.out)
      have HYL := hideP (HL.out _ HMEM.out)
      have HRU := hideP ru
      obtain ⟨ua, uc, hue, u1, u2, _⟩ := id ru
      subst hue
      have huc : uc ≤ 9223372036854775807 := by unfold maxLen at u2; omega
      have HVA : Hid (∀ k', (Value.slice ua (rows.getD k []).length uc).ownBlock = some k' → rows.getD k [] ≠ [] → ¬ S k') := fun k' hk' h0 e => by
        obtain ⟨lb', lo', u', e1, c1, r1⟩ := HR.out.at_ (Below.refl _ _) (k := k) (by rw [hn.out]; exact hlt)
        cases e1
        have hlb := World.block_lt_of_cell? w ⟨lb, lo + k, none⟩ c1
        rw [(Tch.of_below (S := fun _ => False) JD.out.be).cell (p := ⟨lb, lo + k, none⟩) hlb (fun e => e), c1] at cu
        cases cu
        have := r1.blk_lt h0 hk'
        have := JD.out.s0 k' e
        omega
      have HA := hideP (appJ JD.out hma (.slice ua (rows.getD k []).length uc) (rows.getD k []) HRU.out HYB.out HVA.out HVI.out.1.le)
      obtain ⟨ys, hys⟩ : ∃ ys, Hid (rows.getD k [] = ys) := ⟨_, rfl⟩
      rw [hys.out] at HA HYL cu u1
      obtain ⟨l, hll⟩ : ∃ l, Hid (ys.length = l) := ⟨_, rfl⟩
      unfold ApJ at HA
      rw [hll.out] at HA HYL cu u1
      obtain ⟨M, hM⟩ : ∃ M, Hid (npc l = M) := ⟨_, rfl⟩
      rw [hM.out] at HA
      have hl47 : l ≤ 140737488355328 := HYL.out
      obtain ⟨X, hX⟩ : ∃ X, (l + 231) / 232 = X := ⟨_, rfl⟩
      have hXI : ((l : Int) + 231).tdiv 232 = (X : Int) := by rw [Int.tdiv_eq_ediv_of_nonneg (by omega)]; omega
      have HX : Hid ((l + 231) / 232 = X) := hX
      have hX3 : (X : Int) < 1000000000000 := by omega
      clear hX ru u2
      by_cases h0 : l = 0
      · have hM1 : M = 1 := by rw [← hM.out, h0]; rfl
        have hX0 : X = 0 := by have := HX.out; omega
        have HX0 : Hid ((X : Int) = 0) := by show _ = _; omega
        have hXz : ((X : Int) == 0) = true := by simp [hX0]
        have HM1 : Hid ((1 : Int) = (M : Int)) := by show _ = _; omega
        have hMp : 1 ≤ M := by omega
        clear hM1 hX0 h0
        go_wp2_with fail
        rw [HM1.out]
        by_cases hf : M ≤ 50 - a
        · have hfI : (M : Int) ≤ (r : Int) := by omega
          refine HA.out.mono ?_
          rintro e w5 (⟨h5, rfl, S5, J5⟩ | ⟨h5, _⟩)
          case inr => exact absurd (by omega) h5
          have HJ5 : Hid (Jd S5 w w5 d (jap s 9 (m + 1) a ys M) j 9 (m + 1) (a + M)) := J5
          obtain ⟨s5, hs5⟩ : ∃ s5, Hid (jap s 9 (m + 1) a ys M = s5) := ⟨_, rfl⟩
          have HV5 : Hid (VI s5 (a + M) ∧ s5.c = false ∧ s5.L.length = 60) := by
            rw [← hs5.out]
            exact ⟨HVI.out.1.app HVI.out.2.1 JD.out.a2 _ _ _ _, by rw [jap_c]; exact HVI.out.2.1, by rw [jap_L]; exact HVI.out.2.2⟩
          rw [hs5.out] at HJ5
          obtain ⟨a5, ha5⟩ : ∃ x, Hid (a + M = x) := ⟨_, rfl⟩
          obtain ⟨m5, hm5⟩ : ∃ x, Hid (m + 1 = x) := ⟨_, rfl⟩
          obtain ⟨r5, hr5⟩ : ∃ x, Hid (r - M = x) := ⟨_, rfl⟩
          have hrI : (r : Int) - (M : Int) = (r5 : Int) := by have := hr5.out; omega
          have hmI : (m : Int) + 1 = (m5 : Int) := by have := hm5.out; omega
          have hra5 : r5 + a5 = 50 := by have := hr5.out; have := ha5.out; omega
          have hma5 : m5 + 2 ≤ a5 := by have := hm5.out; have := ha5.out; have := hMp; omega
          rw [ha5.out] at HJ5 HV5
          rw [hm5.out] at HJ5
          have HRM := hideP (room_any j d 9 m5 a5 w5 HJ5.out.jb HJ5.out.a5)
          have HRE : Hid (50 - a5 = r5) := by show _ = _; omega
          rw [HRE.out] at HRM
          have HMN := hideP (many_any j d 9 m5 a5 w5 HJ5.out.jb)
          have HDY := hideP (dirty_any w5 HJ5.out.dk)
          have HDL := hideP (HV5.out.1.dirty HJ5.out.a2 (by rw [HV5.out.2.2]; have := HJ5.out.a5; omega))
          have hrr : ((r5 : Int) != (r5 : Int)) = false := by simp
          have hmm : ((m5 : Int) != (m5 : Int)) = false := by simp
          unfold dp at HDY
          clear HA h5 hf
          go_wp2_with fail
          refine HRM.out.mono ?_
          rintro e w6 ⟨rfl, rfl⟩
          go_wp2_with fail
          refine HMN.out.mono ?_
          rintro e w6 ⟨rfl, rfl⟩
          go_wp2_with fail
          refine HDY.out.mono ?_
          rintro e w7 ⟨dv, rfl, o7, b7, n7⟩
          obtain ⟨da, dc, hde, d1, d2, _⟩ := id o7.rd
          subst hde
          have HLE : Hid ((s5.dirty.map Int.ofNat).length = a5 - 2) := by show _ = _; rw [List.length_map]; exact HDL.out
          rw [HLE.out]
          have J7 := hideP (HJ5.out.below b7)
          obtain ⟨z, hz⟩ : ∃ z, Hid (a5 - 2 = z) := ⟨_, rfl⟩
          rw [hz.out]
          have hzI : (48 : Int) - (r5 : Int) = (z : Int) := by have := hz.out; omega
          have hzz : ((z : Int) != (z : Int)) = false := by simp
          have hdc : dc ≤ 9223372036854775807 := by unfold maxLen at d2; omega
          have hdz : z ≤ dc := by have := hz.out; have := HLE.out; omega
          clear HRM HMN HDY o7 b7 n7 d1 d2 HDL HLE
          go_wp2_with fail
          go_roundw
          case rel => exact ⟨k + 1, r5, m5, a5, S5, s5, by omega, by go_num, rfl, rfl, by omega, by omega, J7, HV5⟩
          case measure => simp [intOf]; omega
        · have hfI : decide (M ≤ r) = false := by rw [decide_eq_false_iff_not]; omega
          have hfJ : (r : Int) < (M : Int) := by omega
          refine HA.out.mono ?_
          rintro e w5 (⟨h5, _⟩ | ⟨h5, rfl, rfl⟩)
          case inl => exact absurd h5 (by omega)
          have HRM := hideP (room_any j d 9 m a w5 JD.out.jb JD.out.a5)
          have HRE : Hid (50 - a = r) := by show _ = _; omega
          rw [HRE.out] at HRM
          have HMN := hideP (many_any j d 9 m a w5 JD.out.jb)
          have HDY := hideP (dirty_any w5 JD.out.dk)
          have HDL := hideP (HVI.out.1.dirty JD.out.a2 (by rw [HVI.out.2.2]; have := JD.out.a5; omega))
          have hrr : ((r : Int) != (r : Int)) = false := by simp
          have hmm : ((m : Int) != (m : Int)) = false := by simp
          unfold dp at HDY
          clear HA h5 hf
          go_wp2_with fail
          refine HRM.out.mono ?_
          rintro e w6 ⟨rfl, rfl⟩
          go_wp2_with fail
          refine HMN.out.mono ?_
          rintro e w6 ⟨rfl, rfl⟩
          go_wp2_with fail
          refine HDY.out.mono ?_
          rintro e w7 ⟨dv, rfl, o7, b7, n7⟩
          obtain ⟨da, dc, hde, d1, d2, _⟩ := id o7.rd
          subst hde
          have HLE : Hid ((s.dirty.map Int.ofNat).length = a - 2) := by show _ = _; rw [List.length_map]; exact HDL.out
          rw [HLE.out]
          have J7 := hideP (JD.out.below b7)
          obtain ⟨z, hz⟩ : ∃ z, Hid (a - 2 = z) := ⟨_, rfl⟩
          rw [hz.out]
          have hzI : (48 : Int) - (r : Int) = (z : Int) := by have := hz.out; omega
          have hzz : ((z : Int) != (z : Int)) = false := by simp
          have hdc : dc ≤ 9223372036854775807 := by unfold maxLen at d2; omega
          have hdz : z ≤ dc := by have := hz.out; have := HLE.out; omega
          clear HRM HMN HDY o7 b7 n7 d1 d2 HDL HLE
          go_wp2_with fail
          go_roundw
          case rel => exact ⟨k + 1, r, m, a, S, s, by omega, by go_num, rfl, rfl, by omega, by omega, J7, HVI⟩
          case measure => simp [intOf]; omega
      · have hXM : X = M := by rw [← hM.out, ← HX.out]; exact need_eq l (by omega)
        have hMp : 1 ≤ M := by rw [← hM.out]; exact npc_pos l
        have hXz : ((X : Int) == 0) = false := by simp; omega
        have HXM : Hid ((X : Int) = (M : Int)) := by show _ = _; omega
        clear hXM h0
        go_wp2_with fail
        rw [HXM.out]
        by_cases hf : M ≤ 50 - a
        · have hfI : (M : Int) ≤ (r : Int) := by omega
          refine HA.out.mono ?_
          rintro e w5 (⟨h5, rfl, S5, J5⟩ | ⟨h5, _⟩)
          case inr => exact absurd (by omega) h5
          have HJ5 : Hid (Jd S5 w w5 d (jap s 9 (m + 1) a ys M) j 9 (m + 1) (a + M)) := J5
          obtain ⟨s5, hs5⟩ : ∃ s5, Hid (jap s 9 (m + 1) a ys M = s5) := ⟨_, rfl⟩
          have HV5 : Hid (VI s5 (a + M) ∧ s5.c = false ∧ s5.L.length = 60) := by
            rw [← hs5.out]
            exact ⟨HVI.out.1.app HVI.out.2.1 JD.out.a2 _ _ _ _, by rw [jap_c]; exact HVI.out.2.1, by rw [jap_L]; exact HVI.out.2.2⟩
          rw [hs5.out] at HJ5
          obtain ⟨a5, ha5⟩ : ∃ x, Hid (a + M = x) := ⟨_, rfl⟩
          obtain ⟨m5, hm5⟩ : ∃ x, Hid (m + 1 = x) := ⟨_, rfl⟩
          obtain ⟨r5, hr5⟩ : ∃ x, Hid (r - M = x) := ⟨_, rfl⟩
          have hrI : (r : Int) - (M : Int) = (r5 : Int) := by have := hr5.out; omega
          have hmI : (m : Int) + 1 = (m5 : Int) := by have := hm5.out; omega
          have hra5 : r5 + a5 = 50 := by have := hr5.out; have := ha5.out; omega
          have hma5 : m5 + 2 ≤ a5 := by have := hm5.out; have := ha5.out; have := hMp; omega
          rw [ha5.out] at HJ5 HV5
          rw [hm5.out] at HJ5
          have HRM := hideP (room_any j d 9 m5 a5 w5 HJ5.out.jb HJ5.out.a5)
          have HRE : Hid (50 - a5 = r5) := by show _ = _; omega
          rw [HRE.out] at HRM
          have HMN := hideP (many_any j d 9 m5 a5 w5 HJ5.out.jb)
          have HDY := hideP (dirty_any w5 HJ5.out.dk)
          have HDL := hideP (HV5.out.1.dirty HJ5.out.a2 (by rw [HV5.out.2.2]; have := HJ5.out.a5; omega))
          have hrr : ((r5 : Int) != (r5 : Int)) = false := by simp
          have hmm : ((m5 : Int) != (m5 : Int)) = false := by simp
          unfold dp at HDY
          clear HA h5 hf
          go_wp2_with fail
          refine HRM.out.mono ?_
          rintro e w6 ⟨rfl, rfl⟩
          go_wp2_with fail
          refine HMN.out.mono ?_
          rintro e w6 ⟨rfl, rfl⟩
          go_wp2_with fail
          refine HDY.out.mono ?_
          rintro e w7 ⟨dv, rfl, o7, b7, n7⟩
          obtain ⟨da, dc, hde, d1, d2, _⟩ := id o7.rd
          subst hde
          have HLE : Hid ((s5.dirty.map Int.ofNat).length = a5 - 2) := by show _ = _; rw [List.length_map]; exact HDL.out
          rw [HLE.out]
          have J7 := hideP (HJ5.out.below b7)
          obtain ⟨z, hz⟩ : ∃ z, Hid (a5 - 2 = z) := ⟨_, rfl⟩
          rw [hz.out]
          have hzI : (48 : Int) - (r5 : Int) = (z : Int) := by have := hz.out; omega
          have hzz : ((z : Int) != (z : Int)) = false := by simp
          have hdc : dc ≤ 9223372036854775807 := by unfold maxLen at d2; omega
          have hdz : z ≤ dc := by have := hz.out; have := HLE.out; omega
          clear HRM HMN HDY o7 b7 n7 d1 d2 HDL HLE
          go_wp2_with fail
          go_roundw
          case rel => exact ⟨k + 1, r5, m5, a5, S5, s5, by omega, by go_num, rfl, rfl, by omega, by omega, J7, HV5⟩
          case measure => simp [intOf]; omega
        · have hfI : decide (M ≤ r) = false := by rw [decide_eq_false_iff_not]; omega
          have hfJ : (r : Int) < (M : Int) := by omega
          refine HA.out.mono ?_
          rintro e w5 (⟨h5, _⟩ | ⟨h5, rfl, rfl⟩)
          case inl => exact absurd h5 (by omega)
          have HRM := hideP (room_any j d 9 m a w5 JD.out.jb JD.out.a5)
          have HRE : Hid (50 - a = r) := by show _ = _; omega
          rw [HRE.out] at HRM
          have HMN := hideP (many_any j d 9 m a w5 JD.out.jb)
          have HDY := hideP (dirty_any w5 JD.out.dk)
          have HDL := hideP (HVI.out.1.dirty JD.out.a2 (by rw [HVI.out.2.2]; have := JD.out.a5; omega))
          have hrr : ((r : Int) != (r : Int)) = false := by simp
          have hmm : ((m : Int) != (m : Int)) = false := by simp
          unfold dp at HDY
          clear HA h5 hf
          go_wp2_with fail
          refine HRM.out.mono ?_
          rintro e w6 ⟨rfl, rfl⟩
          go_wp2_with fail
          refine HMN.out.mono ?_
          rintro e w6 ⟨rfl, rfl⟩
          go_wp2_with fail
          refine HDY.out.mono ?_
          rintro e w7 ⟨dv, rfl, o7, b7, n7⟩
          obtain ⟨da, dc, hde, d1, d2, _⟩ := id o7.rd
          subst hde
          have HLE : Hid ((s.dirty.map Int.ofNat).length = a - 2) := by show _ = _; rw [List.length_map]; exact HDL.out
          rw [HLE.out]
          have J7 := hideP (JD.out.below b7)
          obtain ⟨z, hz⟩ : ∃ z, Hid (a - 2 = z) := ⟨_, rfl⟩
          rw [hz.out]
          have hzI : (48 : Int) - (r : Int) = (z : Int) := by have := hz.out; omega
          have hzz : ((z : Int) != (z : Int)) = false := by simp
          have hdc : dc ≤ 9223372036854775807 := by unfold maxLen at d2; omega
          have hdz : z ≤ dc := by have := hz.out; have := HLE.out; omega
          clear HRM HMN HDY o7 b7 n7 d1 d2 HDL HLE
          go_wp2_with fail
          go_roundw
          case rel => exact ⟨k + 1, r, m, a, S, s, by omega, by go_num, rfl, rfl, by omega, by omega, J7, HVI⟩
          case measure => simp [intOf]; omega
    · have hkl : ¬ (k : Int) < (n : Int) := by omega
      have HLV := hideP (lives_anyJ wr)
      go_wp2_with fail
      refine HLV.out.mono ?_
      rintro e w3 ⟨rfl, b3⟩
      have B3 : Hid (Below w.heap.size w w3) := JD.out.be.trans (b3.mono JD.out.be.size)
      clear b3
      go_wp2_with fail
      go_ret
      exact ⟨rfl, B3.out⟩
end Go.Proofs.Ytaacidgihhcpkaa
