/-
  The program's check sum.
-/
import Derived.Test.YtdicgaepggffbaaSPl
namespace Go.Proofs.Ytdicgaepggffbaa
open Go.RowKit Pl
set_option linter.unusedVariables false

set_option maxRecDepth 100000 in
set_option maxHeartbeats 2000000 in
theorem crc_any (v : Value) (xs : List Int) (w : World) (hr : Rd .u8 w v xs) (hb : By xs) :
    Calls Try.prog 64 #[v] w fun e w' => e = .returned (.int .i64 (crc xs : Int)) ∧ w' = w := by
  obtain ⟨a, cap, rfl, hlc, hcm, _, hcc⟩ := hr
  have HC : Hid (xs = [] ∨ ∃ b o, a = some ⟨b, o, none⟩ ∧ ∀ i, i < xs.length → w.cell? ⟨b, o + i, none⟩ = some (.int .u8 (xs.getD i 0))) := hcc
  have HB : Hid (By xs) := hb
  have hm : xs.length ≤ 9223372036854775807 := by unfold maxLen at hcm; omega
  clear hcc hb hcm
  obtain ⟨R, hR⟩ : ∃ R, Hid (crc xs = R) := ⟨_, rfl⟩
  rw [hR.out]
  go_enter Try.func64, Try.ntmps64
  go_wp2_with fail
  go_loopw [3, 9] (fun x i wr => ∃ (k X : Nat), k ≤ xs.length ∧ i = .int .i64 k ∧ x = .int .u32 X ∧ X < 4294967296 ∧ Hid (cR xs k = X) ∧ wr = w) (fun _ i _ => xs.length - (intOf i).toNat)
  case atStart => exact ⟨0, 4294967295, Nat.zero_le _, rfl, rfl, by decide, rfl, rfl⟩
  case round =>
    obtain ⟨k, X, hk, rfl, rfl, hX, HX, rfl⟩ := hrel
    by_cases hlt : k < xs.length
    · obtain ⟨ab, ao, ha, hc⟩ : ∃ b o, a = some ⟨b, o, none⟩ ∧ ∀ i, i < xs.length → wr.cell? ⟨b, o + i, none⟩ = some (.int .u8 (xs.getD i 0)) := by
        rcases HC.out with rfl | h
        · simp at hlt
        · exact h
      subst ha
      obtain ⟨b, hb⟩ : ∃ b : Nat, Hid (xs.getD k 0 = (b : Int) ∧ b < 256) := by
        have := HB.out k
        exact ⟨(xs.getD k 0).toNat, by omega, by omega⟩
      have hb1 := hb.out.2
      have cx : wr.cell? ⟨ab, ao + k, none⟩ = some (.int .u8 (b : Int)) := by rw [hc k hlt, hb.out.1]
      have hx1 : Go.bits .xor .u32 (X : Int) (b : Int) = ((X ^^^ b : Nat) : Int) := u32_xor_nat X b hX (by omega)
      have hx2 : X ^^^ b < 4294967296 := Nat.xor_lt_two_pow (n := 32) hX (by omega)
      have HN : Hid (cR xs (k + 1) = c8 8 (X ^^^ b)) := by show _ = _; simp only [cR]; rw [HX.out, hb.out.1]; rfl
      obtain ⟨Y, hY⟩ : ∃ Y, X ^^^ b = Y := ⟨_, rfl⟩
      rw [hY] at hx1 hx2 HN
      clear hc HX hY
      go_wp2_with fail
      go_loopw [3, 17] (fun x i wr' => ∃ (j X : Nat), j ≤ 8 ∧ i = .int .i64 j ∧ x = .int .u32 X ∧ X < 4294967296 ∧ Hid (c8 j Y = X) ∧ wr' = wr) (fun _ i _ => 8 - (intOf i).toNat)
      case atStart => exact ⟨0, Y, Nat.zero_le _, rfl, rfl, hx2, rfl, rfl⟩
      case round =>
        obtain ⟨j, Z, hj, rfl, rfl, hZ, HZ, rfl⟩ := hrel
        by_cases hjl : j < 8
        · have hs := c1_prog Z hZ
          have hs2 := c1_lt hZ
          have HZ2 : Hid (c8 (j + 1) Y = c1 Z) := by show _ = _; simp only [c8]; rw [HZ.out]
          go_wp2_with fail
          go_roundw
          case rel => exact ⟨j + 1, c1 Z, by omega, by go_num, by first | rfl | (rw [hs]), hs2, HZ2, trivial⟩
          case measure => simp [intOf]; omega
        · obtain rfl : j = 8 := by omega
          rw [HZ.out] at HN
          go_wp2_with fail
          go_roundw
          case rel => exact ⟨k + 1, Z, by omega, by go_num, rfl, hZ, HN, trivial⟩
          case measure => simp [intOf]; omega
    · obtain rfl : k = xs.length := by omega
      have he : R = 4294967295 - X := by rw [← hR.out]; unfold crc; rw [HX.out]
      have hn := not_prog X hX
      have hn2 : wrap64 ((4294967295 - X : Nat) : Int) = (R : Int) := by rw [he, wrap64]; omega
      go_wp2_with fail
      go_ret
      exact ⟨rfl, rfl⟩
end Go.Proofs.Ytdicgaepggffbaa
