/-
  How many bytes are the same; and places are linked.
-/
import Derived.Test.YtghokdmfhifgjaaMPl
namespace Go.Proofs.Ytghokdmfhifgjaa
open Go.RowKit Pl
set_option linter.unusedVariables false

set_option maxRecDepth 100000 in
set_option maxHeartbeats 1000000 in
theorem fsame_any (F G n b o c p q m : Nat) (win lk : Int) (h : Nat → Int) (ad ds : List Int) (w : World) (H : Fd w F G n (.slice (some ⟨b, o, none⟩) n c) win lk h ad) (D : Dt w b o n ds) (hn : n ≤ 65536) (hp : p + m ≤ n) (hq : q + m ≤ n) :
    Calls Try.prog 24 #[.pointer (some ⟨F, 0, none⟩), .int .i64 p, .int .i64 q, .int .i64 m] w fun e w' => e = .returned (.int .i64 (rn ds p q m)) ∧ Below w.heap.size w w' := by
  have HF : Hid (Fd w F G n (.slice (some ⟨b, o, none⟩) n c) win lk h ad) := H
  have HD : Hid (Dt w b o n ds) := D
  clear H D
  obtain ⟨R, hR⟩ : ∃ R, Hid (rn ds p q m = R) := ⟨_, rfl⟩
  rw [hR.out]
  go_enter Try.func24, Try.ntmps24
  go_wp2_with fail
  go_loopw [9] (fun i wr => ∃ k : Nat, k ≤ m ∧ i = .int .i64 k ∧ Hid (∀ j, j < k → ds.getD (p + j) 0 = ds.getD (q + j) 0) ∧ Hid (Below w.heap.size w wr)) (fun i _ => m - (intOf i).toNat)
  case atStart => exact ⟨0, Nat.zero_le _, rfl, fun j hj => by omega, Below.refl _ _⟩
  case round =>
    obtain ⟨k, hk, rfl, HE, HB⟩ := hrel
    by_cases hlt : k < m
    · have g1 : decide ((k : Int) < (m : Int)) = true := by rw [decide_eq_true_eq]; omega
      have d0 := (HF.out.below HB.out).c0
      have hD := HD.out.below HB.out
      obtain ⟨x, hx⟩ : ∃ x, Hid (ds.getD (p + k) 0 = x) := ⟨_, rfl⟩
      obtain ⟨y, hy⟩ : ∃ y, Hid (ds.getD (q + k) 0 = y) := ⟨_, rfl⟩
      have cx : wr.cell? ⟨b, o + (p + k), none⟩ = some (.int .u8 x) := by rw [hD.2.2 (p + k) (by omega), hx.out]
      have cy : wr.cell? ⟨b, o + (q + k), none⟩ = some (.int .u8 y) := by rw [hD.2.2 (q + k) (by omega), hy.out]
      clear hD
      by_cases hxy : x = y
      · have g2 : (x == y) = true := by simp [hxy]
        have HE2 : Hid (∀ j, j < k + 1 → ds.getD (p + j) 0 = ds.getD (q + j) 0) := fun j hj => by
          by_cases e : j = k
          · rw [e, hx.out, hy.out]; exact hxy
          · exact HE.out j (by omega)
        clear hxy
        go_wp2_with fail
        go_quiet (fail)
        go_wp2_with fail
        go_roundw
        case rel => exact ⟨k + 1, by omega, by go_num, HE2, HB.out.trans (Below.of_drewN _ _ _)⟩
        case measure => simp [intOf]; omega
      · have g2 : (x == y) = false := by simp [hxy]
        have HR : Hid (R = k) := by
          show R = k
          rw [← hR.out]
          exact rn_of ds p q m k hk HE.out (fun _ => by rw [hx.out, hy.out]; exact hxy)
        clear hxy
        go_wp2_with fail
        go_quiet (fail)
        go_wp2_with fail
        go_ret
        exact ⟨by rw [HR.out]; rfl, HB.out.trans (Below.of_drewN _ _ _)⟩
    · obtain rfl : k = m := by omega
      have g1 : decide ((k : Int) < (k : Int)) = false := by simp
      have HR : Hid (R = k) := by
        show R = k
        rw [← hR.out]
        exact rn_of ds p q k k hk HE.out (fun h => by omega)
      go_wp2_with fail
      go_quiet (fail)
      go_wp2_with fail
      go_ret
      exact ⟨by rw [HR.out]; rfl, HB.out.trans (Below.of_drewN _ _ _)⟩
end Go.Proofs.Ytghokdmfhifgjaa
