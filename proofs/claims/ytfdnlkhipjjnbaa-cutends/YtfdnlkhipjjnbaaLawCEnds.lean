/-
  CutEnds: where a chunk might end is told as the document says: for every bytes and every place the law answers true.
-/
import Derived.Test.YtfdnlkhipjjnbaaCRefE
import Derived.Test.YtfdnlkhipjjnbaaCLives
namespace Go.Proofs.Ytfdnlkhipjjnbaa
open Go.RowKit Pl
set_option linter.unusedVariables false

set_option maxRecDepth 100000 in
set_option maxHeartbeats 2000000 in
theorem cutEnds_walk (v : Value) (xs : List Int) (at_ : Int) (w : World) (h1 : Rd .u8 w v xs) (hb : By xs) :
    Calls Try.prog 6 #[v, .int .i64 at_] w fun e w' => e = .returned (.bool true) ∧ Below w.heap.size w w' := by
  obtain ⟨a, cap, hv, hlc, hcm, _⟩ := id h1
  subst hv
  have H1 : Hid (Rd .u8 w (.slice a xs.length cap) xs) := h1
  have HB : Hid (By xs) := hb
  have hm : xs.length ≤ 9223372036854775807 := by unfold maxLen at hcm; omega
  clear h1 hb hcm
  by_cases c : xs.length > 65536
  · have R1 : Hid (Rd .u8 w (.slice a 65536 cap) (xs.take 65536)) := rd_cut H1.out 65536 (by omega)
    have HB1 : Hid (By (xs.take 65536)) := by_take HB.out _
    have hc1 : (65536 : Int) < (xs.length : Int) := by omega
    have hcap : 65536 ≤ cap := by omega
    go_enter Try.func6, Try.ntmps6
    go_wp2_with fail
    refine (ends_any _ _ at_ w R1.out HB1.out).mono ?_
    rintro e w1 ⟨rfl, b1⟩
    have B1 : Hid (Below w.heap.size w w1) := b1
    have R2 : Hid (Rd .u8 w1 (.slice a 65536 cap) (xs.take 65536)) := R1.out.below b1
    clear b1
    obtain ⟨b, hbe⟩ : ∃ b, Hid (En (bN (xs.take 65536)) (xs.take 65536).length at_ = b) := ⟨_, rfl⟩
    rw [hbe.out]
    go_wp2_with fail
    refine (refEnds_any _ _ at_ w1 R2.out HB1.out).mono ?_
    rintro e w2 ⟨rfl, b2⟩
    have B2 : Hid (Below w.heap.size w w2) := B1.out.trans (b2.mono B1.out.size)
    rw [hbe.out]
    clear b2
    cases b
    all_goals
      go_wp2_with fail
      refine (lives_anyC _).mono ?_
      rintro e w9 ⟨rfl, b9⟩
      go_wp2_with fail
      go_ret
      exact ⟨rfl, B2.out.trans (b9.mono B2.out.size)⟩
  · have hc1 : ¬ (65536 : Int) < (xs.length : Int) := by omega
    have R1 := H1
    have HB1 := HB
    go_enter Try.func6, Try.ntmps6
    go_wp2_with fail
    refine (ends_any _ _ at_ w R1.out HB1.out).mono ?_
    rintro e w1 ⟨rfl, b1⟩
    have B1 : Hid (Below w.heap.size w w1) := b1
    have R2 : Hid (Rd .u8 w1 (.slice a xs.length cap) xs) := R1.out.below b1
    clear b1
    obtain ⟨b, hbe⟩ : ∃ b, Hid (En (bN xs) xs.length at_ = b) := ⟨_, rfl⟩
    rw [hbe.out]
    go_wp2_with fail
    refine (refEnds_any _ _ at_ w1 R2.out HB1.out).mono ?_
    rintro e w2 ⟨rfl, b2⟩
    have B2 : Hid (Below w.heap.size w w2) := B1.out.trans (b2.mono B1.out.size)
    rw [hbe.out]
    clear b2
    cases b
    all_goals
      go_wp2_with fail
      refine (lives_anyC _).mono ?_
      rintro e w9 ⟨rfl, b9⟩
      go_wp2_with fail
      go_ret
      exact ⟨rfl, B2.out.trans (b9.mono B2.out.size)⟩
end Go.Proofs.Ytfdnlkhipjjnbaa
