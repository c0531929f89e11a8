/-
  One rises in a heap.
-/
import Derived.Test.YtcmnhgefeffcpaaHDown
namespace Go.Proofs.Ytcmnhgefeffcpaa
open Go.RowKit Pl Hf
set_option linter.unusedVariables false
set_option maxRecDepth 100000

set_option maxHeartbeats 4000000 in
theorem up_any (h : Nat) (v : Value) (ps : List (Int × Int)) (n j0 : Nat) (w : World) (H : Hp w h v ps) (hl : ps.length ≤ 100000) (hh : Up ps ps n j0) :
    Calls Try.prog 79 #[hv h, .int .i64 j0] w fun e w' => e = .returned (.tuple #[]) ∧ ∃ qs, Hp w' h v qs ∧ qs.Perm ps ∧ Heap qs n 0 ∧ Tch (fun k => v.ownBlock = some k) w w' := by
  have HH : Hid (Hp w h v ps) := H
  have HD : Hid (Up ps ps n j0) := hh
  have hjn := hh.jn
  have hnl := hh.nl
  clear H hh
  go_enter Try.func79, Try.ntmps79
  go_wp2_with fail
  go_loopw [1] (fun i wr => ∃ (k : Nat) (qs : List (Int × Int)), k < n ∧ i = .int .i64 k ∧ Hid (Hp wr h v qs) ∧ Hid (Up ps qs n k) ∧ Hid (Tch (fun k => v.ownBlock = some k) w wr)) (fun i _ => (intOf i).toNat)
  case atStart => exact ⟨j0, ps, hjn, rfl, HH, HD, Tch.refl _ _⟩
  case round =>
    obtain ⟨k, qs, hk, rfl, HP, HU, HT⟩ := hrel
    clear HH HD
    have HQL : Hid (qs.length = n) := HU.out.nl.symm
    by_cases h0 : k = 0
    · subst h0
      have HF : Hid (Heap qs n 0) := HU.out.top
      go_wp2_with fail
      go_end0
      exact ⟨rfl, qs, HP.out, HU.out.perm, HF.out, HT.out⟩
    · obtain ⟨p, hp, hpe⟩ : ∃ p : Nat, Ch p k ∧ ((k : Int) - 1).tdiv 2 = p := ⟨(k - 1) / 2, by unfold Ch; omega, by rw [show ((k : Int) - 1) = ((k - 1 : Nat) : Int) by omega]; exact (Int.ofNat_tdiv _ _).symm⟩
      have HC : Hid (Ch p k) := hp
      have hpk : p < k := by unfold Ch at hp; omega
      have hne : ((p : Int) == (k : Int)) = false := by simp; omega
      clear hp
      cases hb : ltB (G qs k) (G qs p) with
      | false =>
        have HB : Hid (ltB (G qs k) (G qs p) = false) := hb
        clear hb
        have hm := meth_less ⟨h, 0, none⟩ v wr HP.out.c0
        go_wp2_with fail
        refine (tLess_at h v qs k p _ _ false wr HP.out (by rw [HQL.out]; omega) (by rw [HQL.out]; omega) (by omega) (by omega) HB.out).mono ?_
        rintro e w2 ⟨rfl, hp2, ht2⟩
        have HP2 : Hid (Hp w2 h v qs) := hp2
        have HT2 : Hid (Tch (fun k => v.ownBlock = some k) w w2) := HT.out.trans (S' := fun _ => False) ht2 (fun _ _ e => e.elim)
        clear hp2 ht2 hm HP HT
        have HF : Hid (Heap qs n 0) := HU.out.stop HC.out (ltB_false.1 HB.out)
        go_wp2_with fail
        go_end0
        exact ⟨rfl, qs, HP2.out, HU.out.perm, HF.out, HT2.out⟩
      | true =>
        have HB : Hid (ltB (G qs k) (G qs p) = true) := hb
        clear hb
        have hm := meth_less ⟨h, 0, none⟩ v wr HP.out.c0
        go_wp2_with fail
        refine (tLess_at h v qs k p _ _ true wr HP.out (by rw [HQL.out]; omega) (by rw [HQL.out]; omega) (by omega) (by omega) HB.out).mono ?_
        rintro e w2 ⟨rfl, hp2, ht2⟩
        have HP2 : Hid (Hp w2 h v qs) := hp2
        have HT2 : Hid (Tch (fun k => v.ownBlock = some k) w w2) := HT.out.trans (S' := fun _ => False) ht2 (fun _ _ e => e.elim)
        clear hp2 ht2 hm HP HT
        have hm := meth_swap ⟨h, 0, none⟩ v w2 HP2.out.c0
        go_wp2_with fail
        refine (tSwap_at h v qs p k _ _ w2 HP2.out (by rw [HQL.out]; omega) (by rw [HQL.out]; omega) (by omega) (by omega)).mono ?_
        rintro e w3 ⟨rfl, hp3, ht3⟩
        have HP3 : Hid (Hp w3 h v (swp qs p k)) := hp3
        have HT3 : Hid (Tch (fun k => v.ownBlock = some k) w w3) := HT2.out.trans ht3 (fun _ _ e => e)
        have HD3 : Hid (Up ps (swp qs p k) n p) := HU.out.rise HC.out (ltB_iff.1 HB.out)
        clear hp3 ht3 hm HP2 HT2 HU
        go_wp2_with fail
        go_roundw
        case rel => exact ⟨p, swp qs p k, by omega, by first | rfl | go_num, HP3, HD3, HT3⟩
        case measure => simp [intOf]; omega
end Go.Proofs.Ytcmnhgefeffcpaa
