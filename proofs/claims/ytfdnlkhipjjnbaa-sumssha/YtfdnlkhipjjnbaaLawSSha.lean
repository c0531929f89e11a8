/-
  SumsSha: bytes have just the digest of the document: for every bytes the law answers true.
-/
import Derived.Test.YtfdnlkhipjjnbaaSRefS
import Derived.Test.YtfdnlkhipjjnbaaSLives
import Derived.ChangeKeysEq
namespace Go.Proofs.Ytfdnlkhipjjnbaa
open Go.RowKit Pl
set_option linter.unusedVariables false

theorem eqItems_same (w : World) (d : Nat) (n : Nat) (c : Nat → Nat) : ∀ is : List Nat, (∀ i ∈ is, i < n) → (Op.eqItems (d + 1) 5 1 (ucs .u8 n c).toArray (ucs .u8 n c).toArray is).run Try.prog w = .ok true w
  | [], _ => by simp [Op.eqItems]
  | i :: is, h => by
    have hp : (part 5 (ucs .u8 n c).toArray (i * 1)).run Try.prog w = .ok (.int .u8 (c i : Int)) w := run_part_plain w (by kernel_rfl) (by
      rw [Nat.mul_one, List.getElem?_toArray]
      exact ucs_get _ n c i (h i (by simp)))
    have he : (Op.equalIn (d + 1) 5 (.int .u8 (c i : Int)) (.int .u8 (c i : Int))).run Try.prog w = .ok true w := by
      have := run_equalIn_int (P := Try.prog) w d 5 .u8 .u8 (c i : Int) (c i : Int) Try.underlying5
      simpa using this
    simp only [Op.eqItems, Sem.run_bind, hp, he, Result.andThen_ok]
    have := eqItems_same w d n c is (fun j hj => h j (by simp [hj]))
    simpa using this
theorem cells8 : Try.prog.cellsOf 5 = 1 := by kernel_rfl
theorem eq32 (w : World) (c : Nat → Nat) : (Op.equalIn 10000 23 (.agg (ucs .u8 32 c).toArray) (.agg (ucs .u8 32 c).toArray)).run Try.prog w = .ok true w := by
  obtain ⟨i, hi, _⟩ := elem8.info
  rw [run_equalIn_array w 9999 _ _ Try.underlying23 hi, cells8]
  exact eqItems_same w 9998 32 c _ (fun i hi => by simpa using hi)

set_option maxRecDepth 100000 in
set_option maxHeartbeats 2000000 in
theorem sumsSha_walk (v : Value) (xs : List Int) (w : World) (h1 : Rd .u8 w v xs) (hb : By xs) :
    Calls Try.prog 3 #[v] w fun e w' => e = .returned (.bool true) ∧ Below w.heap.size w w' := by
  obtain ⟨a, cap, hv, hlc, hcm, _⟩ := id h1
  subst hv
  have H1 : Hid (Rd .u8 w (.slice a xs.length cap) xs) := h1
  have HB : Hid (By xs) := hb
  have hm : xs.length ≤ 9223372036854775807 := by unfold maxLen at hcm; omega
  clear h1 hb hcm
  obtain ⟨ys, hys⟩ : ∃ ys, Hid (ys = if xs.length > 65536 then xs.take 65536 else xs) := ⟨_, rfl⟩
  by_cases c : xs.length > 65536
  · have R1 : Hid (Rd .u8 w (.slice a 65536 cap) (xs.take 65536)) := rd_cut H1.out 65536 (by omega)
    have HB1 : Hid (By (xs.take 65536)) := by_take HB.out _
    have hc1 : (65536 : Int) < (xs.length : Int) := by omega
    have hcap : 65536 ≤ cap := by omega
    go_enter Try.func3, Try.ntmps3
    go_wp2_with fail
    refine (sha_any _ _ w R1.out HB1.out (by rw [List.length_take]; omega)).mono ?_
    rintro e w1 ⟨rfl, hb1⟩
    have BB : Hid (Below w.heap.size w w1) := hb1
    have R2 : Hid (Rd .u8 w1 (.slice a 65536 cap) (xs.take 65536)) := R1.out.below hb1
    clear hb1
    obtain ⟨F, hF⟩ : ∃ F, Hid ((ucs .u8 32 (sha (xs.take 65536))).toArray = F) := ⟨_, rfl⟩
    have hq : ∀ W, (Op.equalIn 10000 23 (.agg F) (.agg F)).run Try.prog W = .ok true W := fun W => by rw [← hF.out]; exact eq32 W _
    rw [hF.out]
    go_wp2_with fail
    refine (refSha_any _ _ _ R2.out HB1.out (by rw [List.length_take]; omega)).mono ?_
    rintro e w2 ⟨rfl, hb2⟩
    have B2 : Hid (Below w1.heap.size w1 w2) := hb2
    clear hb2
    rw [hF.out]
    go_wp2_with fail
    refine (lives_anyS _).mono ?_
    rintro e w9 ⟨rfl, hb9⟩
    go_wp2_with fail
    go_ret
    exact ⟨rfl, BB.out.trans ((B2.out.trans (hb9.mono B2.out.size)).mono BB.out.size)⟩
  · have hc1 : ¬ (65536 : Int) < (xs.length : Int) := by omega
    go_enter Try.func3, Try.ntmps3
    go_wp2_with fail
    refine (sha_any _ _ w H1.out HB.out (by omega)).mono ?_
    rintro e w1 ⟨rfl, hb1⟩
    have BB : Hid (Below w.heap.size w w1) := hb1
    have R2 : Hid (Rd .u8 w1 (.slice a xs.length cap) xs) := H1.out.below hb1
    clear hb1
    obtain ⟨F, hF⟩ : ∃ F, Hid ((ucs .u8 32 (sha xs)).toArray = F) := ⟨_, rfl⟩
    have hq : ∀ W, (Op.equalIn 10000 23 (.agg F) (.agg F)).run Try.prog W = .ok true W := fun W => by rw [← hF.out]; exact eq32 W _
    rw [hF.out]
    go_wp2_with fail
    refine (refSha_any _ _ _ R2.out HB.out (by omega)).mono ?_
    rintro e w2 ⟨rfl, hb2⟩
    have B2 : Hid (Below w1.heap.size w1 w2) := hb2
    clear hb2
    rw [hF.out]
    go_wp2_with fail
    refine (lives_anyS _).mono ?_
    rintro e w9 ⟨rfl, hb9⟩
    go_wp2_with fail
    go_ret
    exact ⟨rfl, BB.out.trans ((B2.out.trans (hb9.mono B2.out.size)).mono BB.out.size)⟩
end Go.Proofs.Ytfdnlkhipjjnbaa
