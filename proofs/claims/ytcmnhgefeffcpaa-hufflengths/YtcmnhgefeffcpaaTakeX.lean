/-
  What a reader's Take answers, and what a new reader is.
-/
import Derived.Test.YtcmnhgefeffcpaaRdr
import Derived.Test.YtcmnhgefeffcpaaWrF
namespace Go.Proofs.Ytcmnhgefeffcpaa
open Go.RowKit Pl
set_option linter.unusedVariables false

theorem newReader_any (v : Value) (ys : List Int) (w : World) (h : Rd .u8 w v ys) (hy : By ys) (hl : ys.length ≤ 140737488355328) :
    Calls Try.prog 48 #[v] w fun e w' => ∃ b rv, e = .returned (.pointer (some ⟨b, 0, none⟩)) ∧ Rr w' b rv ys 0 ∧ Below w.heap.size w w' ∧ w.heap.size ≤ b ∧ ∀ k, rv.ownBlock = some k → w.heap.size ≤ k := by
  have H : Hid (Rd .u8 w v ys) := h
  have HY : Hid (By ys) := hy
  clear h hy
  go_enter Try.func48, Try.ntmps48
  go_wp2_with fail
  refine (fresh_owns v ys w H.out hl).mono ?_
  rintro e w1 ⟨v1, rfl, ho, hg⟩
  obtain ⟨b1, f1⟩ := hg.below
  have HO : Hid (Owns .u8 5 w1 v1 ys) := ho
  have B1 : Hid (Below w.heap.size w w1) := b1
  have F1 : Hid (∀ k, v1.ownBlock = some k → w.heap.size ≤ k) := f1
  clear ho hg b1 f1
  obtain ⟨a, cap, hv⟩ : ∃ a cap, v1 = .slice a ys.length cap := by obtain ⟨a, cap, e, _⟩ := HO.out.rd; exact ⟨a, cap, e⟩
  subst hv
  go_wp2_with fail
  go_ret
  refine ⟨w1.heap.size, _, rfl, ⟨heap_alloc_new w1 _, HO.out.below ((Below.refl _ _).alloc (Nat.le_refl _) _), HY.out, Nat.zero_le _, hl⟩, B1.out.alloc B1.out.size _, B1.out.size, F1.out⟩

set_option maxHeartbeats 1000000 in
theorem take_any (b : Nat) (rv : Value) (ys : List Int) (p : Nat) (n : Int) (w : World) (h : Rr w b rv ys p) :
    Calls Try.prog 67 #[.pointer (some ⟨b, 0, none⟩), .int .i64 n] w fun e w' =>
      e = .returned (.tuple #[.int .i64 (tkV (unpack ys) (8 * ys.length - p) p n), .int .i64 (tkE (8 * ys.length - p) n)]) ∧ Rr w' b rv ys (p + tkN (8 * ys.length - p) n) ∧ Tch (fun k => k = b) w w' := by
  have H : Hid (Rr w b rv ys p) := h
  have hle := h.le
  have hsm := h.small
  have c0 := h.c0
  have c1 := h.c1
  have f1 := h.fz 1
  clear h
  by_cases hE : tkE (8 * ys.length - p) n = 0
  · have hn : 0 ≤ n ∧ n ≤ 32 ∧ n ≤ ((8 * ys.length - p : Nat) : Int) := by
      unfold tkE at hE
      split at hE
      · cases hE
      · split at hE
        · cases hE
        · omega
    obtain ⟨m, rfl⟩ := Int.eq_ofNat_of_zero_le hn.1
    have eV : tkV (unpack ys) (8 * ys.length - p) p m = val (unpack ys) p m := by
      unfold tkV; rw [if_neg (by omega), if_neg (by omega)]; rfl
    have eN : tkN (8 * ys.length - p) m = m := by
      unfold tkN; rw [if_neg (by omega), if_neg (by omega)]; rfl
    have HE : Hid (tkE (8 * ys.length - p) m = 0) := hE
    rw [eV, eN, hE]
    clear eV eN hE
    obtain ⟨L, hL⟩ : ∃ L : Nat, 8 * ys.length - p = L := ⟨_, rfl⟩
    rw [hL] at HE hn
    have HL : Hid (8 * ys.length - p = L) := hL
    have hm1 : m ≤ 32 := by omega
    have hm2 : p + m ≤ 8 * ys.length := by omega
    clear hL hn
    clear c0 c1 f1
    go_enter Try.func67, Try.ntmps67
    go_wp2_with fail
    refine (left_any b rv ys p w H.out).mono ?_
    rintro e w1 ⟨rfl, q, hw1⟩
    have H1 : Hid (Rr w1 b rv ys p) := by rw [hw1]; exact H.out.tch (Tch.of_drewN (fun _ => False) w q) (fun e => e) (fun _ _ e => e)
    have T1 : Hid (Tch (fun k => k = b) w w1) := by rw [hw1]; exact Tch.of_drewN _ w q
    clear hw1
    rw [HL.out]
    go_wp2_with fail
    refine (mayTake_any _ L _).mono ?_
    rintro e w2 ⟨rfl, rfl⟩
    rw [HE.out]
    have c0 := H1.out.c0
    have c1 := H1.out.c1
    have f1 := H1.out.fz 1
    go_wp2_with fail
    go_quiet ((go_at_call 71; exact Calls.quiet_of_same (number_rd rv p m ys _ (by exact H1.out.own.rd) H1.out.bys (by omega) hm2 hm1)))
    go_wp2_with fail
    go_ret2
    have em : (((p + m : Nat) : Int)) = (p : Int) + m := by omega
    refine ⟨rfl, ?_, ?_⟩
    · have := (H1.out.tch (Tch.of_drewN (fun _ => False) w2 nq) (fun e => e) (fun _ _ e => e)).move (p + m) hm2
      rw [em] at this
      exact this
    · exact T1.out.trans (S' := fun k => k = b) (Tch.setCell (Tch.of_drewN (fun k => k = b) w2 nq) (p := ⟨b, 1, none⟩) (fun _ => rfl) _) (fun _ _ e => e)
  · have hz : tkV (unpack ys) (8 * ys.length - p) p n = 0 ∧ tkN (8 * ys.length - p) n = 0 := by
      unfold tkE at hE
      unfold tkV tkN
      split at hE
      · rename_i h; rw [if_pos h, if_pos h]; exact ⟨rfl, rfl⟩
      · rename_i h
        split at hE
        · rename_i h2; rw [if_neg h, if_pos h2, if_neg h, if_pos h2]; exact ⟨rfl, rfl⟩
        · exact absurd rfl hE
    rw [hz.1, hz.2]
    obtain ⟨E, hEE⟩ : ∃ E, tkE (8 * ys.length - p) n = E := ⟨_, rfl⟩
    rw [hEE] at hE ⊢
    have HE : Hid (tkE (8 * ys.length - p) n = E) := hEE
    have hne : (E != 0) = true := by simpa using hE
    clear hz hE hEE c0 c1 f1
    go_enter Try.func67, Try.ntmps67
    go_wp2_with fail
    refine (left_any b rv ys p w H.out).mono ?_
    rintro e w1 ⟨rfl, q, hw1⟩
    have H1 : Hid (Rr w1 b rv ys p) := by rw [hw1]; exact H.out.tch (Tch.of_drewN (fun _ => False) w q) (fun e => e) (fun _ _ e => e)
    have T1 : Hid (Tch (fun k => k = b) w w1) := by rw [hw1]; exact Tch.of_drewN _ w q
    clear hw1
    go_wp2_with fail
    refine (mayTake_any _ _ _).mono ?_
    rintro e w2 ⟨rfl, rfl⟩
    rw [HE.out]
    go_wp2_with fail
    go_ret2
    exact ⟨rfl, H1.out, T1.out⟩
end Go.Proofs.Ytcmnhgefeffcpaa
