/-
  The program's keysMay.
-/
import Derived.Test.YtbpaeecclikeiaaNSz
namespace Go.Proofs.Ytbpaeecclikeiaa
open Go.RowKit Pl
set_option linter.unusedVariables false
set_option linter.unusedSimpArgs false
set_option maxRecDepth 100000

theorem eqs_nil (s : ByteArray) : eqs s eS = (s.toList == []) := by unfold eqs eS; simp
def KeysP (n : Nd) : Prop := ∀ i, i < n.ks.length → kOk n i
open Classical in
noncomputable def keysN (n : Nd) : Bool := decide (KeysP n)
theorem keysN_iff {n : Nd} : keysN n = true ↔ ∀ i, i < n.ks.length → kOk n i := by unfold keysN; exact @decide_eq_true_iff _ (Classical.propDecidable _)
theorem keysN_not {n : Nd} {i : Nat} (hi : i < n.ks.length) (h : ¬ kOk n i) : keysN n = false := by
  cases e : keysN n with
  | false => rfl
  | true => exact absurd (keysN_iff.1 e i hi) h

set_option maxHeartbeats 400000 in
theorem keysMay_any (n : Nd) (u1 u2 u3 : Value) (w : World) (h : Nn w n u1 u2 u3) (hs : Sm n) :
    Calls Try.prog 26 #[nod n.lf u1 u2 u3] w fun e w' => e = .returned (.bool (keysN n)) ∧ Below w.heap.size w w' := by
  obtain ⟨a1, c1, a2, c2, a3, c3, rfl, rfl, rfl, ⟨l1, l2, l3, l4, l5, l6⟩, _, _, _⟩ := h.out
  have H := hideN h
  have HS := hideN hs
  obtain ⟨L1, hL1⟩ : ∃ L, Hid (n.ks.length = L) := ⟨_, rfl⟩
  obtain ⟨L2, hL2⟩ : ∃ L, Hid (n.vs.length = L) := ⟨_, rfl⟩
  obtain ⟨L3, hL3⟩ : ∃ L, Hid (n.kd.length = L) := ⟨_, rfl⟩
  rw [hL1.out] at H l1 ⊢
  rw [hL2.out] at H l3 ⊢
  rw [hL3.out] at H l5 ⊢
  obtain ⟨lf, hlf⟩ : ∃ lf, Hid (n.lf = lf) := ⟨_, rfl⟩
  rw [hlf.out]
  unfold nod
  obtain ⟨W1, hW1⟩ : ∃ W1, w.alloc (.cells #[.bool lf, .slice a1 L1 c1, .slice a2 L2 c2, .slice a3 L3 c3] 26) = W1 := ⟨_, rfl⟩
  have B1 : Hid (Below w.heap.size w W1) := by rw [← hW1]; exact below_alloc _ _
  have V1 : Hid (Nb W1 26 w.heap.size lf (.slice a1 L1 c1) (.slice a2 L2 c2) (.slice a3 L3 c3)) := by rw [← hW1]; exact nb_new _ _ _ _ _ _
  have H1 : Hid (Nn W1 n (.slice a1 L1 c1) (.slice a2 L2 c2) (.slice a3 L3 c3)) := H.out.below B1.out
  obtain ⟨kn, hkn⟩ : ∃ b, Hid (keysN n = b) := ⟨_, rfl⟩
  rw [hkn.out]
  have p0 := V1.out.c0
  have p1 := V1.out.c1
  clear h hs H
  go_enter Try.func26, Try.ntmps26
  go_wp2_with fail
  go_loop [8] (fun i => ∃ (k : Nat), k ≤ L1 ∧ i = .int .i64 k ∧ Hid (∀ j, j < k → kOk n j)) (fun i => L1 - (intOf i).toNat)
  case atStart => exact ⟨0, Nat.zero_le _, rfl, fun j hj => by omega⟩
  case round =>
    obtain ⟨k, hk, rfl, hz⟩ := hrel
    by_cases hlt : k < L1
    · obtain ⟨b, o, rfl, ck⟩ := H1.out.key (i := k) (by rw [hL1.out]; exact hlt)
      have HB : Hid (¬ kOk n k → kn = false) := fun hb => by rw [← hkn.out]; exact keysN_not (by rw [hL1.out]; exact hlt) hb
      have HO : Hid (kOk n k → ∀ j, j < k + 1 → kOk n j) := fun ho j hj => by
        by_cases e : j < k
        · exact hz.out j e
        · have : j = k := by omega
          subst this
          exact ho
      have HD : Hid (kOk n k = ((kA n k).size ≤ 24 ∧ (0 < k → lts (kA n (k - 1)) (kA n k) = true) ∧ (n.lf = true → eqs (kA n k) eS = false))) := rfl
      rw [hlf.out] at HD
      have HP : Hid (0 < k → W1.cell? ⟨b, o + (k - 1), none⟩ = some (.string (kA n (k - 1)))) := fun h0 => by
        obtain ⟨b', o', e, c⟩ := H1.out.key (i := k - 1) (by rw [hL1.out]; omega)
        cases e
        exact c
      obtain ⟨key, hkey⟩ : ∃ s, Hid (kA n k = s) := ⟨_, rfl⟩
      obtain ⟨prv, hprv⟩ : ∃ s, Hid (kA n (k - 1) = s) := ⟨_, rfl⟩
      rw [hkey.out] at ck HD
      rw [hprv.out] at HP HD
      have HE : Hid (eqs key eS = (key.toList == [])) := eqs_nil key
      by_cases h24 : (key.size : Int) ≤ 24
      · have hd24 : decide (24 < (key.size : Int)) = false := by rw [decide_eq_false_iff_not]; omega
        have H24 : Hid (key.size ≤ 24) := by show _ ≤ _; omega
        cases lf with
        | true =>
          cases hemp : (key.toList == []) with
          | true =>
            have hF : kn = false := HB.out (by rw [HD.out]; intro h; have := h.2.2 rfl; rw [HE.out, hemp] at this; cases this)
            subst hF
            clear HB HO HD HP HE
            go_wp2_with fail
            go_ret
            exact ⟨rfl, B1.out⟩
          | false =>
            by_cases h0 : 0 < k
            · have h0' : (0 : Int) < (k : Int) := by omega
              have hd0 : decide ((0 : Int) < (k : Int)) = true := by rw [decide_eq_true_iff]; omega
              have cp := HP.out h0
              cases hlt2 : Op.bytesLess prv.toList key.toList with
              | true =>
                have HK : Hid (∀ j, j < k + 1 → kOk n j) := HO.out (by rw [HD.out]; exact ⟨H24.out, fun _ => hlt2, fun _ => by rw [HE.out]; exact hemp⟩)
                have hg : (!Op.bytesLess prv.toList key.toList) = false := by rw [hlt2]; rfl
                clear HB HO HD HP HE
                go_wp2_with fail
                go_round
                case rel => exact ⟨k + 1, by omega, by go_num, HK⟩
                case measure => simp [intOf]; omega
              | false =>
                have hF : kn = false := HB.out (by rw [HD.out]; intro h; have := h.2.1 h0; unfold lts at this; rw [hlt2] at this; cases this)
                have hg : (!Op.bytesLess prv.toList key.toList) = true := by rw [hlt2]; rfl
                subst hF
                clear HB HO HD HP HE
                go_wp2_with fail
                go_ret
                exact ⟨rfl, B1.out⟩
            · have hd0 : decide ((0 : Int) < (k : Int)) = false := by rw [decide_eq_false_iff_not]; omega
              have HK : Hid (∀ j, j < k + 1 → kOk n j) := HO.out (by rw [HD.out]; exact ⟨H24.out, fun e => absurd e h0, fun _ => by rw [HE.out]; exact hemp⟩)
              clear HB HO HD HP HE
              go_wp2_with fail
              go_round
              case rel => exact ⟨k + 1, by omega, by go_num, HK⟩
              case measure => simp [intOf]; omega
        | false =>
          by_cases h0 : 0 < k
          · have h0' : (0 : Int) < (k : Int) := by omega
            have hd0 : decide ((0 : Int) < (k : Int)) = true := by rw [decide_eq_true_iff]; omega
            have cp := HP.out h0
            cases hlt2 : Op.bytesLess prv.toList key.toList with
            | true =>
              have HK : Hid (∀ j, j < k + 1 → kOk n j) := HO.out (by rw [HD.out]; exact ⟨H24.out, fun _ => hlt2, fun e => by cases e⟩)
              have hg : (!Op.bytesLess prv.toList key.toList) = false := by rw [hlt2]; rfl
              clear HB HO HD HP HE
              go_wp2_with fail
              go_round
              case rel => exact ⟨k + 1, by omega, by go_num, HK⟩
              case measure => simp [intOf]; omega
            | false =>
              have hF : kn = false := HB.out (by rw [HD.out]; intro h; have := h.2.1 h0; unfold lts at this; rw [hlt2] at this; cases this)
              have hg : (!Op.bytesLess prv.toList key.toList) = true := by rw [hlt2]; rfl
              subst hF
              clear HB HO HD HP HE
              go_wp2_with fail
              go_ret
              exact ⟨rfl, B1.out⟩
          · have hd0 : decide ((0 : Int) < (k : Int)) = false := by rw [decide_eq_false_iff_not]; omega
            have HK : Hid (∀ j, j < k + 1 → kOk n j) := HO.out (by rw [HD.out]; exact ⟨H24.out, fun e => absurd e h0, fun e => by cases e⟩)
            clear HB HO HD HP HE
            go_wp2_with fail
            go_round
            case rel => exact ⟨k + 1, by omega, by go_num, HK⟩
            case measure => simp [intOf]; omega
      · have hd24 : decide (24 < (key.size : Int)) = true := by rw [decide_eq_true_iff]; omega
        have hF : kn = false := HB.out (by rw [HD.out]; intro h; exact h24 (by omega))
        subst hF
        clear HB HO HD HP HE
        go_wp2_with fail
        go_ret
        exact ⟨rfl, B1.out⟩
    · have hT : kn = true := by rw [← hkn.out, keysN_iff]; intro i hi; rw [hL1.out] at hi; exact hz.out i (by omega)
      subst hT
      go_wp2_with fail
      go_ret
      exact ⟨rfl, B1.out⟩
end Go.Proofs.Ytbpaeecclikeiaa
