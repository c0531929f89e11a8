/-
  Things become a heap.
-/
import Derived.Test.YtcmnhgefeffcpaaHPop
namespace Go.Proofs.Ytcmnhgefeffcpaa
open Go.RowKit Pl Hf
set_option linter.unusedVariables false
set_option maxRecDepth 100000

set_option maxHeartbeats 1000000 in
theorem hInit_any (h : Nat) (v : Value) (ps : List (Int × Int)) (w : World) (H : Hp w h v ps) (hl : ps.length ≤ 100000) :
    Calls Try.prog 74 #[hv h] w fun e w' => e = .returned (.tuple #[]) ∧ ∃ qs, Hp w' h v qs ∧ Heap qs qs.length 0 ∧ qs.Perm ps ∧ Tch (fun k => v.ownBlock = some k) w w' := by
  have HH : Hid (Hp w h v ps) := H
  obtain ⟨a, cap, hve⟩ := H.len
  have m0 := meth_len ⟨h, 0, none⟩ v w H.c0
  clear H
  go_enter Try.func74, Try.ntmps74
  go_wp2_with fail
  refine (tLen_any a ps.length cap w).mono ?_
  rintro e w1 ⟨rfl, rfl⟩
  have hq : ((ps.length : Int)).tdiv 2 = ((ps.length / 2 : Nat) : Int) := (Int.ofNat_tdiv _ _).symm
  clear m0
  go_wp2_with fail
  go_loopw [3] (fun i wr => ∃ (k : Nat) (qs : List (Int × Int)), k ≤ ps.length ∧ i = .int .i64 ((k : Int) - 1) ∧ Hid (Hp wr h v qs) ∧ Hid (Heap qs ps.length k) ∧ Hid (qs.Perm ps) ∧ Hid (Tch (fun k => v.ownBlock = some k) w1 wr)) (fun i _ => (intOf i + 1).toNat)
  case atStart => exact ⟨ps.length / 2, ps, by omega, by first | rfl | go_num, HH, (fun x c h1 h2 h3 => by unfold Ch at h2; omega), List.Perm.refl _, Tch.refl _ _⟩
  case round =>
    obtain ⟨k, qs, hk, rfl, HP, HF, HQ, HT⟩ := hrel
    clear HH
    by_cases h0 : k = 0
    · subst h0
      have e1 : ((0 : Nat) : Int) - 1 = -1 := by omega
      rw [e1]
      go_wp2_with fail
      go_end0
      exact ⟨rfl, qs, HP.out, by rw [HQ.out.length_eq]; exact HF.out, HQ.out, HT.out⟩
    · obtain ⟨m, rfl⟩ : ∃ m, k = m + 1 := ⟨k - 1, by omega⟩
      have e1 : ((m + 1 : Nat) : Int) - 1 = (m : Int) := by omega
      rw [e1]
      go_wp2_with fail
      refine (down_any h v qs m ps.length wr HP.out (by rw [HQ.out.length_eq]; omega) (by rw [HQ.out.length_eq]; omega) (by omega) HF.out).mono ?_
      rintro e w2 ⟨⟨u, rfl⟩, q2, hp2, hperm, _, hheap, ht2⟩
      have HP2 : Hid (Hp w2 h v q2) := hp2
      have HF2 : Hid (Heap q2 ps.length m) := hheap
      have HQ2 : Hid (q2.Perm ps) := hperm.trans HQ.out
      have HT2 : Hid (Tch (fun k => v.ownBlock = some k) w1 w2) := HT.out.trans ht2 (fun _ _ e => e)
      clear hp2 hperm hheap ht2 HP HF HQ HT
      go_wp2_with fail
      go_roundw
      case rel => exact ⟨m, q2, by omega, by first | rfl | go_num, HP2, HF2, HQ2, HT2⟩
      case measure => simp [intOf]
end Go.Proofs.Ytcmnhgefeffcpaa
