/-
  SumsCrc: bytes have just the check sum of the document: for every bytes the law answers true.
-/
import Derived.Test.YtndbpbbhipiolaaSRefCrc
import Derived.Test.YtndbpbbhipiolaaSLives
namespace Go.Proofs.Ytndbpbbhipiolaa
open Go.RowKit Pl
set_option linter.unusedVariables false

set_option maxRecDepth 100000 in
set_option maxHeartbeats 2000000 in
theorem sumsCrc_walk (v : Value) (xs : List Int) (w : World) (h1 : Rd .u8 w v xs) (hb : By xs) :
    Calls Try.prog 3 #[v] w fun e w' => e = .returned (.bool true) ∧ Below w.heap.size w w' := by
  obtain ⟨a, cap, hv, hlc, hcm, _⟩ := id h1
  subst hv
  have H1 : Hid (Rd .u8 w (.slice a xs.length cap) xs) := h1
  have HB : Hid (By xs) := hb
  have hm : xs.length ≤ 9223372036854775807 := by unfold maxLen at hcm; omega
  clear h1 hb hcm
  obtain ⟨ys, hys⟩ : ∃ ys, Hid (ys = if xs.length > 65536 then xs.take 65536 else xs) := ⟨_, rfl⟩
  by_cases c : xs.length > 65536
  · have R1 : Hid (Rd .u8 w (.slice a 65536 cap) (xs.take 65536)) := rd_cut H1.out 65536 (by omega)
    have HB1 : Hid (By (xs.take 65536)) := by_take HB.out _
    have hc1 : (65536 : Int) < (xs.length : Int) := by omega
    have hcap : 65536 ≤ cap := by omega
    go_enter Try.func3, Try.ntmps3
    go_wp2_with fail
    refine (crc_any _ _ w R1.out HB1.out).mono ?_
    rintro e w1 ⟨rfl, rfl⟩
    go_wp2_with fail
    refine (refCrc_any _ _ _ R1.out HB1.out).mono ?_
    rintro e w2 ⟨rfl, hb2⟩
    have B2 : Hid (Below w1.heap.size w1 w2) := hb2
    clear hb2
    generalize crc (xs.take 65536) = X
    go_wp2_with fail
    refine (lives_any _).mono ?_
    rintro e w9 ⟨rfl, hb9⟩
    go_wp2_with fail
    go_ret
    exact ⟨rfl, B2.out.trans (hb9.mono B2.out.size)⟩
  · have hc1 : ¬ (65536 : Int) < (xs.length : Int) := by omega
    go_enter Try.func3, Try.ntmps3
    go_wp2_with fail
    refine (crc_any _ _ w H1.out HB.out).mono ?_
    rintro e w1 ⟨rfl, rfl⟩
    go_wp2_with fail
    refine (refCrc_any _ _ _ H1.out HB.out).mono ?_
    rintro e w2 ⟨rfl, hb2⟩
    have B2 : Hid (Below w1.heap.size w1 w2) := hb2
    clear hb2
    generalize crc xs = X
    go_wp2_with fail
    refine (lives_any _).mono ?_
    rintro e w9 ⟨rfl, hb9⟩
    go_wp2_with fail
    go_ret
    exact ⟨rfl, B2.out.trans (hb9.mono B2.out.size)⟩
end Go.Proofs.Ytndbpbbhipiolaa
