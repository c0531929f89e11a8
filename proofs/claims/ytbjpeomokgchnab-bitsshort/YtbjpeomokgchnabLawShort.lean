/-
  What the law on the lengths of short numbers comes to: true, and nothing that was there is touched.
-/
import Derived.Test.YtbjpeomokgchnabPutNum
namespace Go.Proofs.Ytbjpeomokgchnab
open Go.RowKit Pl
set_option linter.unusedVariables false

theorem rd_nil (w : World) : Rd .u8 w (.slice none 0 0) [] := ⟨none, 0, rfl, Nat.le_refl _, by unfold maxLen; omega, fun _ => rfl, .inl rfl⟩

set_option maxRecDepth 100000 in
set_option maxHeartbeats 1000000 in
theorem bitsShort_walk (a b : Int) (w : World) :
    Calls Try.prog 4 #[.int .i64 a, .int .i64 b] w fun e w' => e = .returned (.bool true) ∧ Below w.heap.size w w' := by
  by_cases ha : a < 0 ∨ 4294967295 < a
  · have HA : Hid (a < 0 ∨ 4294967295 < a) := ha
    clear ha
    go_enter Try.func4, Try.ntmps4
    go_wp2_with fail
    refine (putNum_bad _ [] a w (rd_nil w) (by simp) HA.out).mono ?_
    rintro e w1 ⟨v1, rfl, ho1, hg1⟩
    obtain ⟨b1, f1⟩ := hg1.below
    have B1 : Hid (Below w.heap.size w w1) := b1
    clear ho1 hg1 b1 f1
    go_wp2_with fail
    by_cases hb : b < 0 ∨ 4294967295 < b
    · refine (putNum_bad _ [] b w1 (rd_nil w1) (by simp) hb).mono ?_
      rintro e w2 ⟨v2, rfl, ho2, hg2⟩
      obtain ⟨b2, f2⟩ := hg2.below
      have B2 : Hid (Below w.heap.size w w2) := B1.out.trans (b2.mono B1.out.size)
      clear ho2 hg2 b2 f2 hb
      go_wp2_with fail
      refine (lives_any _).mono ?_
      rintro e w3 ⟨rfl, b3⟩
      have B3 : Hid (Below w.heap.size w w3) := B2.out.trans (b3.mono B2.out.size)
      clear b3
      go_wp2_with fail
      go_ret
      exact ⟨rfl, B3.out⟩
    · refine (putNum_ok _ [] b w1 (rd_nil w1) (by simp) (by omega) (by omega)).mono ?_
      rintro e w2 ⟨v2, rfl, ho2, hg2⟩
      obtain ⟨b2, f2⟩ := hg2.below
      have B2 : Hid (Below w.heap.size w w2) := B1.out.trans (b2.mono B1.out.size)
      clear ho2 hg2 b2 f2 hb
      go_wp2_with fail
      refine (lives_any _).mono ?_
      rintro e w3 ⟨rfl, b3⟩
      have B3 : Hid (Below w.heap.size w w3) := B2.out.trans (b3.mono B2.out.size)
      clear b3
      go_wp2_with fail
      go_ret
      exact ⟨rfl, B3.out⟩
  · have h0 : 0 ≤ a := by omega
    have h1 : a ≤ 4294967295 := by omega
    clear ha
    go_enter Try.func4, Try.ntmps4
    go_wp2_with fail
    refine (putNum_ok _ [] a w (rd_nil w) (by simp) h0 h1).mono ?_
    rintro e w1 ⟨v1, rfl, ho1, hg1⟩
    obtain ⟨b1, f1⟩ := hg1.below
    have HO1 : Hid (Owns .u8 5 w1 v1 (digits a)) := by simpa [Hid] using ho1
    have B1 : Hid (Below w.heap.size w w1) := b1
    clear ho1 hg1 b1 f1
    go_wp2_with fail
    by_cases hb : b < 0 ∨ 4294967295 < b
    · refine (putNum_bad _ [] b w1 (rd_nil w1) (by simp) hb).mono ?_
      rintro e w2 ⟨v2, rfl, ho2, hg2⟩
      obtain ⟨b2, f2⟩ := hg2.below
      have B2 : Hid (Below w.heap.size w w2) := B1.out.trans (b2.mono B1.out.size)
      clear ho2 hg2 b2 f2 hb
      go_wp2_with fail
      refine (lives_any _).mono ?_
      rintro e w3 ⟨rfl, b3⟩
      have B3 : Hid (Below w.heap.size w w3) := B2.out.trans (b3.mono B2.out.size)
      clear b3
      go_wp2_with fail
      go_ret
      exact ⟨rfl, B3.out⟩
    · refine (putNum_ok _ [] b w1 (rd_nil w1) (by simp) (by omega) (by omega)).mono ?_
      rintro e w2 ⟨v2, rfl, ho2, hg2⟩
      obtain ⟨b2, f2⟩ := hg2.below
      have HO2 : Hid (Owns .u8 5 w2 v2 (digits b)) := by simpa [Hid] using ho2
      have B2 : Hid (Below w.heap.size w w2) := B1.out.trans (b2.mono B1.out.size)
      have la := digits_len a
      have lb := digits_len b
      obtain ⟨g1, c1, rfl, _⟩ := HO1.out.shape (by omega)
      obtain ⟨g2, c2, rfl, _⟩ := HO2.out.shape (by omega)
      have hmono : ¬ b < a → (digits a).length ≤ (digits b).length := fun h => dig_mono 4 a b (by omega)
      clear ho2 hg2 b2 f2 hb HO1 HO2
      generalize (digits a).length = da at *
      generalize (digits b).length = db at *
      by_cases hab : b < a
      · clear hmono
        go_wp2_with fail
        refine (lives_any _).mono ?_
        rintro e w3 ⟨rfl, b3⟩
        have B3 : Hid (Below w.heap.size w w3) := B2.out.trans (b3.mono B2.out.size)
        clear b3
        go_wp2_with fail
        go_ret
        exact ⟨by simp, B3.out⟩
      · have hm := hmono hab
        clear hmono
        go_wp2_with fail
        refine (lives_any _).mono ?_
        rintro e w3 ⟨rfl, b3⟩
        have B3 : Hid (Below w.heap.size w w3) := B2.out.trans (b3.mono B2.out.size)
        clear b3
        go_wp2_with fail
        go_ret
        exact ⟨by simp, B3.out⟩
end Go.Proofs.Ytbjpeomokgchnab
