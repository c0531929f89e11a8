/-
  Where a key stands, or goes: the program's, and the document's.
-/
import Derived.Test.YtbpaeecclikeiaaNSz
namespace Go.Proofs.Ytbpaeecclikeiaa
open Go.RowKit Pl
set_option linter.unusedVariables false
set_option linter.unusedSimpArgs false
set_option maxRecDepth 100000

set_option maxHeartbeats 1000000 in
theorem place_any (n : Nd) (u1 u2 u3 : Value) (key : ByteArray) (w : World) (h : Nn w n u1 u2 u3) (hs : Sm n) :
    Calls Try.prog 21 #[nod n.lf u1 u2 u3, .string key] w fun e w' => e = .returned (.int .i64 (plc n key n.ks.length : Int)) ∧ Below w.heap.size w w' := by
  obtain ⟨a1, c1, a2, c2, a3, c3, rfl, rfl, rfl, ⟨l1, l2, l3, l4, l5, l6⟩, _, _, _⟩ := h.out
  have H := hideN h
  have HS := hideN hs
  obtain ⟨L1, hL1⟩ : ∃ L, Hid (n.ks.length = L) := ⟨_, rfl⟩
  obtain ⟨L2, hL2⟩ : ∃ L, Hid (n.vs.length = L) := ⟨_, rfl⟩
  obtain ⟨L3, hL3⟩ : ∃ L, Hid (n.kd.length = L) := ⟨_, rfl⟩
  rw [hL1.out] at H l1 ⊢
  rw [hL2.out] at H l3 ⊢
  rw [hL3.out] at H l5 ⊢
  obtain ⟨lf, hlf⟩ : ∃ lf, Hid (n.lf = lf) := ⟨_, rfl⟩
  rw [hlf.out]
  unfold nod
  obtain ⟨W1, hW1⟩ : ∃ W1, w.alloc (.cells #[.bool lf, .slice a1 L1 c1, .slice a2 L2 c2, .slice a3 L3 c3] 26) = W1 := ⟨_, rfl⟩
  have B1 : Hid (Below w.heap.size w W1) := by rw [← hW1]; exact below_alloc _ _
  have V1 : Hid (Nb W1 26 w.heap.size lf (.slice a1 L1 c1) (.slice a2 L2 c2) (.slice a3 L3 c3)) := by rw [← hW1]; exact nb_new _ _ _ _ _ _
  have H1 : Hid (Nn W1 n (.slice a1 L1 c1) (.slice a2 L2 c2) (.slice a3 L3 c3)) := H.out.below B1.out
  have p0 := V1.out.c0
  have p1 := V1.out.c1
  have hb1 : L1 ≤ 8796093021952 := by have := HS.out.kl; rw [hL1.out] at this; exact this
  obtain ⟨r, hr⟩ : ∃ r, Hid (plc n key L1 = r) := ⟨_, rfl⟩
  rw [hr.out]
  clear h hs H HS hL2 hL3
  go_enter Try.func21, Try.ntmps21
  go_wp2_with fail
  go_loop [5, 10] (fun s i => ∃ (k p : Nat), k ≤ L1 ∧ p ≤ k ∧ i = .int .i64 k ∧ s = .int .i64 p ∧ Hid (p = plc n key k)) (fun _ i => L1 - (intOf i).toNat)
  case atStart => exact ⟨0, 0, Nat.zero_le _, Nat.zero_le _, rfl, rfl, rfl⟩
  case round =>
    obtain ⟨k, p, hk, hpk, rfl, rfl, hz⟩ := hrel
    by_cases hlt : k < L1
    · obtain ⟨b, o, rfl, ck⟩ := H1.out.key (i := k) (by rw [hL1.out]; exact hlt)
      have HE : Hid (plc n key (k + 1) = if n.lf = true then (if lts (kA n k) key = true then k + 1 else p) else (if (lts (kA n k) key || eqs (kA n k) key) = true then k else p)) := by show _ = _; rw [hz.out]; rfl
      rw [hlf.out] at HE
      obtain ⟨ky, hky⟩ : ∃ s, Hid (kA n k = s) := ⟨_, rfl⟩
      rw [hky.out] at ck HE
      cases lf with
      | true =>
        cases hc : Op.bytesLess ky.toList key.toList with
        | true =>
          have HR : Hid (k + 1 = plc n key (k + 1)) := by show _ = _; rw [HE.out, if_pos rfl, if_pos (show lts ky key = true from hc)]
          clear HE
          go_wp2_with fail
          go_round
          case rel => exact ⟨k + 1, k + 1, by omega, by omega, by go_num, by go_num, HR⟩
          case measure => simp [intOf]; omega
        | false =>
          have HR : Hid (p = plc n key (k + 1)) := by show _ = _; rw [HE.out, if_pos rfl, if_neg (by unfold lts; rw [hc]; decide)]
          clear HE
          go_wp2_with fail
          go_round
          case rel => exact ⟨k + 1, p, by omega, by omega, by go_num, rfl, HR⟩
          case measure => simp [intOf]; omega
      | false =>
        cases hc : (Op.bytesLess ky.toList key.toList || ky.toList == key.toList) with
        | true =>
          have HR : Hid (k = plc n key (k + 1)) := by show _ = _; rw [HE.out, if_neg (by decide), if_pos (show (lts ky key || eqs ky key) = true from hc)]
          clear HE
          go_wp2_with fail
          go_round
          case rel => exact ⟨k + 1, k, by omega, by omega, by go_num, by first | rfl | go_num, HR⟩
          case measure => simp [intOf]; omega
        | false =>
          have HR : Hid (p = plc n key (k + 1)) := by show _ = _; rw [HE.out, if_neg (by decide), if_neg (by unfold lts eqs; rw [hc]; decide)]
          clear HE
          go_wp2_with fail
          go_round
          case rel => exact ⟨k + 1, p, by omega, by omega, by go_num, rfl, HR⟩
          case measure => simp [intOf]; omega
    · have hkl : k = L1 := by omega
      obtain rfl : r = p := by rw [← hr.out, hz.out, hkl]
      go_wp2_with fail
      go_ret
      exact ⟨rfl, B1.out⟩

set_option maxHeartbeats 1000000 in
theorem refPlace_any (n : Nd) (u1 u2 u3 : Value) (key : ByteArray) (w : World) (h : Nn w n u1 u2 u3) (hs : Sm n) :
    Calls Try.prog 22 #[nod n.lf u1 u2 u3, .string key] w fun e w' => e = .returned (.int .i64 (plc n key n.ks.length : Int)) ∧ Below w.heap.size w w' := by
  obtain ⟨a1, c1, a2, c2, a3, c3, rfl, rfl, rfl, ⟨l1, l2, l3, l4, l5, l6⟩, _, _, _⟩ := h.out
  have H := hideN h
  have HS := hideN hs
  obtain ⟨L1, hL1⟩ : ∃ L, Hid (n.ks.length = L) := ⟨_, rfl⟩
  obtain ⟨L2, hL2⟩ : ∃ L, Hid (n.vs.length = L) := ⟨_, rfl⟩
  obtain ⟨L3, hL3⟩ : ∃ L, Hid (n.kd.length = L) := ⟨_, rfl⟩
  rw [hL1.out] at H l1 ⊢
  rw [hL2.out] at H l3 ⊢
  rw [hL3.out] at H l5 ⊢
  obtain ⟨lf, hlf⟩ : ∃ lf, Hid (n.lf = lf) := ⟨_, rfl⟩
  rw [hlf.out]
  unfold nod
  obtain ⟨W1, hW1⟩ : ∃ W1, w.alloc (.cells #[.bool lf, .slice a1 L1 c1, .slice a2 L2 c2, .slice a3 L3 c3] 25) = W1 := ⟨_, rfl⟩
  have B1 : Hid (Below w.heap.size w W1) := by rw [← hW1]; exact below_alloc _ _
  have V1 : Hid (Nb W1 25 w.heap.size lf (.slice a1 L1 c1) (.slice a2 L2 c2) (.slice a3 L3 c3)) := by rw [← hW1]; exact nb_new _ _ _ _ _ _
  have H1 : Hid (Nn W1 n (.slice a1 L1 c1) (.slice a2 L2 c2) (.slice a3 L3 c3)) := H.out.below B1.out
  have p0 := V1.out.c0
  have p1 := V1.out.c1
  have hb1 : L1 ≤ 8796093021952 := by have := HS.out.kl; rw [hL1.out] at this; exact this
  obtain ⟨r, hr⟩ : ∃ r, Hid (plc n key L1 = r) := ⟨_, rfl⟩
  rw [hr.out]
  clear h hs H HS hL2 hL3
  go_enter Try.func22, Try.ntmps22
  go_wp2_with fail
  go_loop [5, 6] (fun s i => ∃ (k p : Nat), k ≤ L1 ∧ p ≤ k ∧ i = .int .i64 k ∧ s = .int .i64 p ∧ Hid (p = plc n key k)) (fun _ i => L1 - (intOf i).toNat)
  case atStart => exact ⟨0, 0, Nat.zero_le _, Nat.zero_le _, rfl, rfl, rfl⟩
  case round =>
    obtain ⟨k, p, hk, hpk, rfl, rfl, hz⟩ := hrel
    by_cases hlt : k < L1
    · obtain ⟨b, o, rfl, ck⟩ := H1.out.key (i := k) (by rw [hL1.out]; exact hlt)
      have HE : Hid (plc n key (k + 1) = if n.lf = true then (if lts (kA n k) key = true then k + 1 else p) else (if (lts (kA n k) key || eqs (kA n k) key) = true then k else p)) := by show _ = _; rw [hz.out]; rfl
      rw [hlf.out] at HE
      obtain ⟨ky, hky⟩ : ∃ s, Hid (kA n k = s) := ⟨_, rfl⟩
      rw [hky.out] at ck HE
      cases lf with
      | true =>
        cases hc : Op.bytesLess ky.toList key.toList with
        | true =>
          have HR : Hid (k + 1 = plc n key (k + 1)) := by show _ = _; rw [HE.out, if_pos rfl, if_pos (show lts ky key = true from hc)]
          clear HE
          go_wp2_with fail
          go_round
          case rel => exact ⟨k + 1, k + 1, by omega, by omega, by go_num, by go_num, HR⟩
          case measure => simp [intOf]; omega
        | false =>
          have HR : Hid (p = plc n key (k + 1)) := by show _ = _; rw [HE.out, if_pos rfl, if_neg (by unfold lts; rw [hc]; decide)]
          clear HE
          go_wp2_with fail
          go_round
          case rel => exact ⟨k + 1, p, by omega, by omega, by go_num, rfl, HR⟩
          case measure => simp [intOf]; omega
      | false =>
        cases hc : (Op.bytesLess ky.toList key.toList || ky.toList == key.toList) with
        | true =>
          have HR : Hid (k = plc n key (k + 1)) := by show _ = _; rw [HE.out, if_neg (by decide), if_pos (show (lts ky key || eqs ky key) = true from hc)]
          clear HE
          go_wp2_with fail
          go_round
          case rel => exact ⟨k + 1, k, by omega, by omega, by go_num, by first | rfl | go_num, HR⟩
          case measure => simp [intOf]; omega
        | false =>
          have HR : Hid (p = plc n key (k + 1)) := by show _ = _; rw [HE.out, if_neg (by decide), if_neg (by unfold lts eqs; rw [hc]; decide)]
          clear HE
          go_wp2_with fail
          go_round
          case rel => exact ⟨k + 1, p, by omega, by omega, by go_num, rfl, HR⟩
          case measure => simp [intOf]; omega
    · have hkl : k = L1 := by omega
      obtain rfl : r = p := by rw [← hr.out, hz.out, hkl]
      go_wp2_with fail
      go_ret
      exact ⟨rfl, B1.out⟩
end Go.Proofs.Ytbpaeecclikeiaa
