import Derived.Test.YtokkippjbagmkaaGreatGMem
import Derived.Laws.BitsAllLaws
set_option maxRecDepth 100000
/-
  Check sums, plainly: numbers of 32 bits.
-/
namespace Go.Proofs.YtokkippjbagmkaaGreat
open Go.RowKit Pl
set_option linter.unusedVariables false

/-- One bit: the number is halved, and, if its lowest bit was 1, put together with the given one. -/
def c1 (x : Nat) : Nat := if x % 2 = 1 then x / 2 ^^^ 2197175160 else x / 2
/-- So many bits. -/
def c8 : Nat → Nat → Nat
  | 0, x => x
  | k + 1, x => c1 (c8 k x)
/-- The number behind k bytes. -/
def cR (xs : List Int) : Nat → Nat
  | 0 => 4294967295
  | k + 1 => c8 8 (cR xs k ^^^ (xs.getD k 0).toNat)
def crc (xs : List Int) : Nat := 4294967295 - cR xs xs.length

theorem c1_lt {x : Nat} (h : x < 4294967296) : c1 x < 4294967296 := by
  unfold c1
  split
  · exact Nat.xor_lt_two_pow (n := 32) (by omega) (by decide)
  · omega
theorem c8_lt {x : Nat} (h : x < 4294967296) : ∀ k, c8 k x < 4294967296
  | 0 => h
  | k + 1 => c1_lt (c8_lt h k)
theorem cR_lt {xs : List Int} (hb : By xs) : ∀ k, cR xs k < 4294967296
  | 0 => by show (4294967295 : Nat) < _; decide
  | k + 1 => by
    refine c8_lt ?_ 8
    have := hb k
    exact Nat.xor_lt_two_pow (n := 32) (cR_lt hb k) (by omega)

theorem not_nat (x : Nat) (h : x < 4294967296) : 4294967295 ^^^ x = 4294967295 - x := by
  have h1 : (~~~ (BitVec.ofNat 32 x)).toNat = 4294967295 - x := by rw [BitVec.toNat_not, BitVec.toNat_ofNat]; omega
  have h2 : (BitVec.allOnes 32 ^^^ BitVec.ofNat 32 x).toNat = 4294967295 ^^^ x := by
    rw [BitVec.toNat_xor, BitVec.toNat_ofNat, BitVec.toNat_allOnes, Nat.mod_eq_of_lt (show x < 2 ^ 32 by omega)]
  rw [← h1, ← h2, BitVec.not_def]
theorem not_prog (x : Nat) (h : x < 4294967296) : Go.bits .xor .u32 IntKind.u32.max (x : Int) = ((4294967295 - x : Nat) : Int) := by
  have e : IntKind.u32.max = ((4294967295 : Nat) : Int) := by decide
  rw [e, u32_xor_nat _ _ (by decide) h, not_nat x h]
/-- The program's own step. -/
theorem c1_prog (x : Nat) (h : x < 4294967296) : Go.bits .xor .u32 ((x : Int) / 2) (2197175160 * Go.bits .and .u32 (x : Int) 1 % 4294967296) = (c1 x : Int) := by
  have e1 : Go.bits .and .u32 (x : Int) 1 = ((x % 2 : Nat) : Int) := by
    have := u32_and_nat x 1 h (by decide)
    rw [nat_mask1] at this
    exact this
  rw [e1]
  have e2 : (x : Int) / 2 = ((x / 2 : Nat) : Int) := by omega
  rw [e2]
  unfold c1
  by_cases c : x % 2 = 1
  · rw [if_pos c, c]
    have := u32_xor_nat (x / 2) 2197175160 (by omega) (by decide)
    exact this
  · have c0 : x % 2 = 0 := by omega
    rw [if_neg c, c0]
    have := u32_xor_nat (x / 2) 0 (by omega) (by decide)
    simpa using this
end Go.Proofs.YtokkippjbagmkaaGreat

/-
  The program's check sum.
-/
namespace Go.Proofs.YtokkippjbagmkaaGreat
open Go.RowKit Pl
set_option linter.unusedVariables false

set_option maxRecDepth 100000 in
set_option maxHeartbeats 2000000 in
theorem crc_any (v : Value) (xs : List Int) (w : World) (hr : Rd .u8 w v xs) (hb : By xs) :
    Calls Tryz.prog 33 #[v] w fun e w' => e = .returned (.int .i64 (crc xs : Int)) ∧ w' = w := by
  obtain ⟨a, cap, rfl, hlc, hcm, _, hcc⟩ := hr
  have HC : Hid (xs = [] ∨ ∃ b o, a = some ⟨b, o, none⟩ ∧ ∀ i, i < xs.length → w.cell? ⟨b, o + i, none⟩ = some (.int .u8 (xs.getD i 0))) := hcc
  have HB : Hid (By xs) := hb
  have hm : xs.length ≤ 9223372036854775807 := by unfold maxLen at hcm; omega
  clear hcc hb hcm
  obtain ⟨R, hR⟩ : ∃ R, Hid (crc xs = R) := ⟨_, rfl⟩
  rw [hR.out]
  go_enter Tryz.func33, Tryz.ntmps33
  go_wp2_with fail
  go_loopw [3, 9] (fun x i wr => ∃ (k X : Nat), k ≤ xs.length ∧ i = .int .i64 k ∧ x = .int .u32 X ∧ X < 4294967296 ∧ Hid (cR xs k = X) ∧ wr = w) (fun _ i _ => xs.length - (intOf i).toNat)
  case atStart => exact ⟨0, 4294967295, Nat.zero_le _, rfl, rfl, by decide, rfl, rfl⟩
  case round =>
    obtain ⟨k, X, hk, rfl, rfl, hX, HX, rfl⟩ := hrel
    by_cases hlt : k < xs.length
    · obtain ⟨ab, ao, ha, hc⟩ : ∃ b o, a = some ⟨b, o, none⟩ ∧ ∀ i, i < xs.length → wr.cell? ⟨b, o + i, none⟩ = some (.int .u8 (xs.getD i 0)) := by
        rcases HC.out with rfl | h
        · simp at hlt
        · exact h
      subst ha
      obtain ⟨b, hb⟩ : ∃ b : Nat, Hid (xs.getD k 0 = (b : Int) ∧ b < 256) := by
        have := HB.out k
        exact ⟨(xs.getD k 0).toNat, by omega, by omega⟩
      have hb1 := hb.out.2
      have cx : wr.cell? ⟨ab, ao + k, none⟩ = some (.int .u8 (b : Int)) := by rw [hc k hlt, hb.out.1]
      have hx1 : Go.bits .xor .u32 (X : Int) (b : Int) = ((X ^^^ b : Nat) : Int) := u32_xor_nat X b hX (by omega)
      have hx2 : X ^^^ b < 4294967296 := Nat.xor_lt_two_pow (n := 32) hX (by omega)
      have HN : Hid (cR xs (k + 1) = c8 8 (X ^^^ b)) := by show _ = _; simp only [cR]; rw [HX.out, hb.out.1]; rfl
      obtain ⟨Y, hY⟩ : ∃ Y, X ^^^ b = Y := ⟨_, rfl⟩
      rw [hY] at hx1 hx2 HN
      clear hc HX hY
      go_wp2_with fail
      go_loopw [3, 17] (fun x i wr' => ∃ (j X : Nat), j ≤ 8 ∧ i = .int .i64 j ∧ x = .int .u32 X ∧ X < 4294967296 ∧ Hid (c8 j Y = X) ∧ wr' = wr) (fun _ i _ => 8 - (intOf i).toNat)
      case atStart => exact ⟨0, Y, Nat.zero_le _, rfl, rfl, hx2, rfl, rfl⟩
      case round =>
        obtain ⟨j, Z, hj, rfl, rfl, hZ, HZ, rfl⟩ := hrel
        by_cases hjl : j < 8
        · have hs := c1_prog Z hZ
          have hs2 := c1_lt hZ
          have HZ2 : Hid (c8 (j + 1) Y = c1 Z) := by show _ = _; simp only [c8]; rw [HZ.out]
          go_wp2_with fail
          go_roundw
          case rel => exact ⟨j + 1, c1 Z, by omega, by go_num, by first | rfl | (rw [hs]), hs2, HZ2, trivial⟩
          case measure => simp [intOf]; omega
        · obtain rfl : j = 8 := by omega
          rw [HZ.out] at HN
          go_wp2_with fail
          go_roundw
          case rel => exact ⟨k + 1, Z, by omega, by go_num, rfl, hZ, HN, trivial⟩
          case measure => simp [intOf]; omega
    · obtain rfl : k = xs.length := by omega
      have he : R = 4294967295 - X := by rw [← hR.out]; unfold crc; rw [HX.out]
      have hn := not_prog X hX
      have hn2 : wrap64 ((4294967295 - X : Nat) : Int) = (R : Int) := by rw [he, wrap64]; omega
      go_wp2_with fail
      go_ret
      exact ⟨rfl, rfl⟩
end Go.Proofs.YtokkippjbagmkaaGreat
