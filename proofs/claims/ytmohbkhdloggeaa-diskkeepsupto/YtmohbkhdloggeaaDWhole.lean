/-
  Lists of numbers, and whole disks, that are the same.
-/
import Derived.Test.YtmohbkhdloggeaaDAll
namespace Go.Proofs.Ytmohbkhdloggeaa
open Go.RowKit Go.Maps
set_option linter.unusedVariables false
set_option linter.unusedSimpArgs false
set_option maxRecDepth 100000

set_option maxHeartbeats 1000000 in
theorem numbers_any (u v : Value) (xs : List Int) (w : World) (hu : Rd .i64 w u xs) (hv : Rd .i64 w v xs) : Calls Try.prog 13 #[u, v] w fun e w' => e = .returned (.bool true) ∧ Below w.heap.size w w' := by
  obtain ⟨a, ca, rfl, ha1, ha2, _, ha⟩ := hu
  obtain ⟨b, cb, rfl, hb1, hb2, _, hb⟩ := hv
  obtain ⟨m, hm⟩ : ∃ m, xs.length = m := ⟨_, rfl⟩
  have h63 : (m : Int) ≤ 9223372036854775807 := by unfold maxLen at ha2; omega
  have HC : Hid (∀ W, Below w.heap.size w W → ∀ k, k < m → ∃ ab ao bb bo x, a = some ⟨ab, ao, none⟩ ∧ b = some ⟨bb, bo, none⟩ ∧ W.cell? ⟨ab, ao + k, none⟩ = some (.int .i64 x) ∧ W.cell? ⟨bb, bo + k, none⟩ = some (.int .i64 x)) := fun W hW k hk => by
    have h0 : xs ≠ [] := fun e => by rw [e] at hm; simp at hm; omega
    rcases ha with e | ⟨ab, ao, rfl, ha⟩
    · exact absurd e h0
    rcases hb with e | ⟨bb, bo, rfl, hb⟩
    · exact absurd e h0
    have h1 := ha k (by omega)
    have h2 := hb k (by omega)
    refine ⟨ab, ao, bb, bo, xs.getD k 0, rfl, rfl, ?_, ?_⟩
    · rw [hW.cell (p := ⟨ab, ao + k, none⟩) (World.block_lt_of_cell? w ⟨ab, ao + k, none⟩ h1)]; exact h1
    · rw [hW.cell (p := ⟨bb, bo + k, none⟩) (World.block_lt_of_cell? w ⟨bb, bo + k, none⟩ h2)]; exact h2
  rw [hm]
  clear ha hb ha1 ha2 hb1 hb2 hm
  go_enter Try.func13, Try.ntmps13
  go_wp2_with fail
  go_loopw [5] (fun iv wr => ∃ k : Nat, k ≤ m ∧ iv = .int .i64 k ∧ Hid (Below w.heap.size w wr)) (fun iv _ => m - (intOf iv).toNat)
  case atStart => exact ⟨0, Nat.zero_le _, rfl, Below.refl _ _⟩
  case round =>
    obtain ⟨k, hk, rfl, B1⟩ := hrel
    by_cases hkm : k < m
    · have hki : (k : Int) < (m : Int) := by omega
      have hk0 : (0 : Int) ≤ (k : Int) := by omega
      obtain ⟨ab, ao, bb, bo, x, rfl, rfl, hc1, hc2⟩ := HC.out wr B1.out k hkm
      go_wp2_with fail
      go_quiet (fail)
      have B2 : Hid (Below w.heap.size w (wr.drewN nq)) := B1.out.trans ((show Tch (fun _ => False) wr (wr.drewN nq) from ⟨rfl, rfl, rfl, Nat.le_refl _, fun _ _ _ => rfl⟩).below B1.out.size (fun _ e => e.elim))
      go_wp2_with fail
      go_roundw
      case rel => exact ⟨k + 1, by omega, by go_num, B2⟩
      case measure => simp [intOf]; omega
    · have hki : ¬ (k : Int) < (m : Int) := by omega
      go_wp2_with fail
      go_ret
      exact ⟨rfl, B1.out⟩

set_option maxHeartbeats 2000000 in
theorem whole_any2 {S R : Nat → Prop} {w0 : World} {d r : Nat} {s : DS} (w : World) (h : Bt S R w0 w d r s s) :
    Calls Try.prog 16 #[dp d, dp r] w fun e w' => e = .returned (.bool true) ∧ Bt S R w0 w' d r s s ∧ Below w.heap.size w w' := by
  obtain ⟨n, hn⟩ : ∃ n, s.L.length = n := ⟨_, rfl⟩
  have HN : Hid (s.L.length = n) := hn
  have hn2 : n ≤ 4096 := by obtain ⟨_, _, _, _, _, _, hf⟩ := h.rf; rw [← hn]; exact hf.n2
  have I0 : Hid (Bt S R w0 w d r s s) := h
  have HC : Hid (∀ W, Bt S R w0 W d r s s → ∃ lb cp, W.cell? ⟨r, 0, none⟩ = some (.slice (some ⟨lb, 0, none⟩) n cp)) := fun W hW => by
    obtain ⟨lb, cp, _, _, _, _, hf⟩ := hW.rf
    have := hf.c0
    rw [HN.out] at this
    exact ⟨lb, cp, this⟩
  clear h hn
  go_enter Try.func16, Try.ntmps16
  go_wp2_with fail
  go_loopw [5] (fun iv wr => ∃ k : Nat, k ≤ n ∧ iv = .int .i64 k ∧ Hid (Bt S R w0 wr d r s s) ∧ Hid (Below w.heap.size w wr)) (fun iv _ => n - (intOf iv).toNat)
  case atStart => exact ⟨0, Nat.zero_le _, rfl, I0, Below.refl _ _⟩
  case round =>
    clear I0
    obtain ⟨k, hk, rfl, I, BW⟩ := hrel
    obtain ⟨lb, cp, c0⟩ := HC.out wr I.out
    by_cases hkn : k < n
    · have hki : (k : Int) < (n : Int) := by omega
      have H1 := hideP (read_ok k wr I.out.dk (by rw [HN.out]; exact hkn))
      go_wp2_with fail
      refine H1.out.mono ?_
      clear H1 c0
      rintro e w1 ⟨av, rfl, ha1, hb1, hf1⟩
      have I1 : Hid (Bt S R w0 w1 d r s s) := I.out.below hb1
      have BW1 : Hid (Below w.heap.size w w1) := BW.out.trans (hb1.mono BW.out.size)
      have A1 : Hid (Rd .u8 w1 av (s.has k)) := ha1.rd
      have H2 := hideP (refRead_ok k w1 I1.out.rf (by rw [HN.out]; exact hkn))
      clear ha1 hb1 hf1 I
      go_wp2_with fail
      refine H2.out.mono ?_
      clear H2
      rintro e w2 ⟨bv, rfl, ho2, hb2, hf2⟩
      have I2 : Hid (Bt S R w0 w2 d r s s) := I1.out.below hb2
      have BW2 : Hid (Below w.heap.size w w2) := BW1.out.trans (hb2.mono BW1.out.size)
      have H3 := hideP (same_all av bv _ w2 (A1.out.below hb2) ho2.rd)
      clear ho2 hb2 hf2 I1 A1
      go_wp2_with fail
      refine H3.out.mono ?_
      clear H3
      rintro e w3 ⟨rfl, hb3⟩
      have I3 : Hid (Bt S R w0 w3 d r s s) := I2.out.below hb3
      have BW3 : Hid (Below w.heap.size w w3) := BW2.out.trans (hb3.mono BW2.out.size)
      clear hb3 I2
      go_wp2_with fail
      go_roundw
      case rel => exact ⟨k + 1, by omega, by go_num, I3, BW3⟩
      case measure => simp [intOf]; omega
    · have hki : ¬ (k : Int) < (n : Int) := by omega
      have HSZ : Hid (∀ W, Bt S R w0 W d r s s → Calls Try.prog 28 #[dp d] W fun e w' => e = .returned (.int .i64 (n : Int)) ∧ w' = W) := fun W hW => by
        have := size_any W hW.dk
        rw [HN.out] at this
        exact this
      have ID : Hid (Bt S R w0 wr.drew d r s s) := I.out.tch (T := fun _ => False) (Tch.drew (Tch.refl _ wr)) (fun _ e => e.elim)
      clear hkn
      go_wp2_with fail
      go_region_held3 (fun w' => w'.cell? ⟨r, 0, none⟩ = some (.slice (some ⟨lb, 0, none⟩) n cp)) (go_keep)
        (first
          | (go_at_call 28; refine (HSZ.out _ ID.out).mono ?_; rintro e w7 ⟨rfl, rfl⟩))
      go_wp2_with fail
      go_ret
      exact ⟨by first | rfl | simp, ID.out, BW.out.trans ((Tch.drew (Tch.refl (fun _ => False) wr)).below BW.out.size (fun _ e => e.elim))⟩

theorem whole_any {S R : Nat → Prop} {w0 : World} {d r : Nat} {s : DS} (w : World) (h : Bt S R w0 w d r s s) :
    Calls Try.prog 16 #[dp d, dp r] w fun e w' => e = .returned (.bool true) ∧ Bt S R w0 w' d r s s := by
  refine (whole_any2 w h).mono ?_
  rintro e w' ⟨h1, h2, _⟩
  exact ⟨h1, h2⟩
end Go.Proofs.Ytmohbkhdloggeaa
