/-
  The document's check sum.
-/
import Derived.Test.YtdicgaepggffbaaSRefX
namespace Go.Proofs.Ytdicgaepggffbaa
open Go.RowKit Pl
set_option linter.unusedVariables false

set_option maxRecDepth 100000 in
set_option maxHeartbeats 2000000 in
theorem refCrc_any (v : Value) (xs : List Int) (w : World) (hr : Rd .u8 w v xs) (hb : By xs) :
    Calls Try.prog 37 #[v] w fun e w' => e = .returned (.int .i64 (crc xs : Int)) ∧ Below w.heap.size w w' := by
  obtain ⟨a, cap, rfl, hlc, hcm, _, hcc⟩ := hr
  have HC : Hid (xs = [] ∨ ∃ b o, a = some ⟨b, o, none⟩ ∧ ∀ i, i < xs.length → w.cell? ⟨b, o + i, none⟩ = some (.int .u8 (xs.getD i 0))) := hcc
  have HB : Hid (By xs) := hb
  have hm : xs.length ≤ 9223372036854775807 := by unfold maxLen at hcm; omega
  clear hcc hb hcm
  obtain ⟨R, hR⟩ : ∃ R, Hid (crc xs = R) := ⟨_, rfl⟩
  rw [hR.out]
  go_enter Try.func37, Try.ntmps37
  go_wp2_with fail
  go_loopw [3, 4] (fun x i wr => ∃ (k X : Nat), k ≤ xs.length ∧ i = .int .i64 k ∧ x = .int .i64 X ∧ X < 4294967296 ∧ Hid (cR xs k = X) ∧ Hid (Below w.heap.size w wr)) (fun _ i _ => xs.length - (intOf i).toNat)
  case atStart => exact ⟨0, 4294967295, Nat.zero_le _, rfl, rfl, by decide, rfl, Below.refl _ _⟩
  case round =>
    obtain ⟨k, X, hk, rfl, rfl, hX, HX, B⟩ := hrel
    by_cases hlt : k < xs.length
    · obtain ⟨ab, ao, ha, hc⟩ : ∃ b o, a = some ⟨b, o, none⟩ ∧ ∀ i, i < xs.length → w.cell? ⟨b, o + i, none⟩ = some (.int .u8 (xs.getD i 0)) := by
        rcases HC.out with rfl | h
        · simp at hlt
        · exact h
      subst ha
      obtain ⟨b, hb⟩ : ∃ b : Nat, Hid (xs.getD k 0 = (b : Int) ∧ b < 256) := by
        have := HB.out k
        exact ⟨(xs.getD k 0).toNat, by omega, by omega⟩
      have hb1 := hb.out.2
      have cx : wr.cell? ⟨ab, ao + k, none⟩ = some (.int .u8 (b : Int)) := by
        have h0 := hc k hlt
        rw [B.out.cell (p := ⟨ab, ao + k, none⟩) (World.block_lt_of_cell? w ⟨ab, ao + k, none⟩ h0), h0, hb.out.1]
      have hx2 : X ^^^ b < 4294967296 := Nat.xor_lt_two_pow (n := 32) hX (by omega)
      have HX1 : ∀ W, Calls Try.prog 57 #[.int .i64 X, .int .i64 b] W fun e w' => e = .returned (.int .i64 ((X ^^^ b : Nat) : Int)) ∧ w' = W := fun W => xor_any X b W hX (by omega)
      have HN : Hid (cR xs (k + 1) = c8 8 (X ^^^ b)) := by show _ = _; simp only [cR]; rw [HX.out, hb.out.1]; rfl
      obtain ⟨Y, hY⟩ : ∃ Y, X ^^^ b = Y := ⟨_, rfl⟩
      rw [hY] at hx2 HN
      rw [hY] at HX1
      clear hc HX hY
      go_wp2_with (go_at_call 57; refine (HX1 _).mono ?_; rintro _ _ ⟨rfl, rfl⟩)
      clear HX1 cx
      go_loopw [3, 5] (fun x i wr => ∃ (j X : Nat), j ≤ 8 ∧ i = .int .i64 j ∧ x = .int .i64 X ∧ X < 4294967296 ∧ Hid (c8 j Y = X) ∧ Hid (Below w.heap.size w wr)) (fun _ i _ => 8 - (intOf i).toNat)
      case atStart => exact ⟨0, Y, Nat.zero_le _, rfl, rfl, hx2, rfl, by first | exact B | exact B.out.drew⟩
      case round =>
        clear B
        obtain ⟨j, Z, hj, rfl, rfl, hZ, HZ, B⟩ := hrel
        by_cases hjl : j < 8
        · have hs2 := c1_lt hZ
          have HZ2 : Hid (c8 (j + 1) Y = c1 Z) := by show _ = _; simp only [c8]; rw [HZ.out]
          obtain ⟨H, hH⟩ : ∃ H, Z / 2 = H := ⟨_, rfl⟩
          have hh : (Z : Int) / 2 = (H : Int) := by omega
          by_cases ho : Z % 2 = 1
          · have hm2 : (Z : Int) % 2 = 1 := by omega
            have e1 : c1 Z = H ^^^ 2197175160 := by unfold c1; rw [if_pos ho, hH]
            have HX2 : ∀ W, Calls Try.prog 57 #[.int .i64 H, .int .i64 2197175160] W fun e w' => e = .returned (.int .i64 ((H ^^^ 2197175160 : Nat) : Int)) ∧ w' = W := fun W => xor_any H 2197175160 W (by omega) (by decide)
            rw [e1] at hs2 HZ2
            obtain ⟨V, hV⟩ : ∃ V, H ^^^ 2197175160 = V := ⟨_, rfl⟩
            rw [hV] at hs2 HZ2
            rw [hV] at HX2
            clear HZ e1 hV hH ho
            go_wp2_with (go_at_call 57; refine (HX2 _).mono ?_; rintro _ _ ⟨rfl, rfl⟩)
            go_roundw
            case rel => exact ⟨j + 1, V, by omega, by go_num, rfl, hs2, HZ2, B⟩
            case measure => simp [intOf]; omega
          · have hm2 : (Z : Int) % 2 = 0 := by omega
            have e1 : c1 Z = H := by unfold c1; rw [if_neg ho, hH]
            rw [e1] at hs2 HZ2
            clear HZ e1 hH ho
            go_wp2_with fail
            go_roundw
            case rel => exact ⟨j + 1, H, by omega, by go_num, rfl, hs2, HZ2, B⟩
            case measure => simp [intOf]; omega
        · obtain rfl : j = 8 := by omega
          rw [HZ.out] at HN
          go_wp2_with fail
          go_roundw
          case rel => exact ⟨k + 1, Z, by omega, by go_num, rfl, hZ, HN, B⟩
          case measure => simp [intOf]; omega
    · obtain rfl : k = xs.length := by omega
      have he : R = 4294967295 - X := by rw [← hR.out]; unfold crc; rw [HX.out]
      have he2 : (4294967295 : Int) - (X : Int) = (R : Int) := by omega
      clear he
      go_wp2_with fail
      go_ret
      exact ⟨rfl, B.out⟩
end Go.Proofs.Ytdicgaepggffbaa
