import Derived.Test.YtaacidgihhcpkaaYX03
/-
  When two rows of bytes are the same.
-/
namespace Go.Proofs.Ytaacidgihhcpkaa
open Go.RowKit Pl
set_option linter.unusedVariables false

set_option maxHeartbeats 1000000 in
theorem same_any (a b o p ca cb : Nat) (xs ys : List Int) (w : World) (hl : xs.length = ys.length) (h63 : xs.length ≤ 9223372036854775807)
    (hx : ∀ i, i < xs.length → w.cell? ⟨a, o + i, none⟩ = some (.int .u8 (xs.getD i 0))) (hy : ∀ i, i < ys.length → w.cell? ⟨b, p + i, none⟩ = some (.int .u8 (ys.getD i 0))) :
    Calls Try.prog 31 #[.slice (some ⟨a, o, none⟩) xs.length ca, .slice (some ⟨b, p, none⟩) xs.length cb] w fun e w' => e = .returned (.bool (decide (xs = ys))) ∧ Below w.heap.size w w' := by
  have HX : Hid (∀ i, i < xs.length → w.cell? ⟨a, o + i, none⟩ = some (.int .u8 (xs.getD i 0))) := hx
  have HY : Hid (∀ i, i < ys.length → w.cell? ⟨b, p + i, none⟩ = some (.int .u8 (ys.getD i 0))) := hy
  have HL : Hid (xs.length = ys.length) := hl
  clear hx hy hl
  go_enter Try.func31, Try.ntmps31
  go_wp2
  go_loopw [5] (fun i wr => ∃ k : Nat, k ≤ xs.length ∧ i = .int .i64 k ∧ Hid (∀ j, j < k → xs.getD j 0 = ys.getD j 0) ∧ Below w.heap.size w wr) (fun i _ => xs.length - (intOf i).toNat)
  case atStart => exact ⟨0, Nat.zero_le _, rfl, fun j hj => by omega, Below.refl _ _⟩
  case round =>
    obtain ⟨k, hk, rfl, hE, hB⟩ := hrel
    have HB : Hid (Below w.heap.size w wr) := hB
    clear hB
    by_cases hlt : k < xs.length
    · obtain ⟨x, hxe⟩ : ∃ x, Hid (xs.getD k 0 = x) := ⟨_, rfl⟩
      obtain ⟨y, hye⟩ : ∃ y, Hid (ys.getD k 0 = y) := ⟨_, rfl⟩
      have cx : wr.cell? ⟨a, o + k, none⟩ = some (.int .u8 x) := by
        have h := HX.out k hlt
        rw [HB.out.cell (p := ⟨a, o + k, none⟩) (World.block_lt_of_cell? w ⟨a, o + k, none⟩ h), h, hxe.out]
      have cy : wr.cell? ⟨b, p + k, none⟩ = some (.int .u8 y) := by
        have h := HY.out k (by rw [← HL.out]; exact hlt)
        rw [HB.out.cell (p := ⟨b, p + k, none⟩) (World.block_lt_of_cell? w ⟨b, p + k, none⟩ h), h, hye.out]
      by_cases hxy : x = y
      · have hd : (x != y) = false := by simp [hxy]
        have HXY : Hid (x = y) := hxy
        clear hxy
        go_wp2
        go_quiet (fail)
        go_wp2
        go_roundw
        case rel =>
          refine ⟨k + 1, by omega, by go_num, fun j hj => ?_, ?_⟩
          · by_cases e : j < k
            · exact hE.out j e
            · have : j = k := by omega
              subst this
              rw [hxe.out, hye.out]; exact HXY.out
          · exact HB.out.trans (Below.of_drewN _ _ _)
        case measure => simp [intOf]; omega
      · have hd : (x != y) = true := by simp [hxy]
        go_wp2
        go_quiet (fail)
        go_wp2
        go_ret
        refine ⟨?_, HB.out.trans (Below.of_drewN _ _ _)⟩
        have : ¬ xs = ys := fun e => hxy (by rw [← hxe.out, ← hye.out, e])
        simp [this]
    · go_wp2
      go_ret
      refine ⟨?_, HB.out⟩
      have : xs = ys := list_eq_of_getD HL.out fun i hi => hE.out i (by omega)
      simp [this]

theorem same_unlike (a b : Option Addr) (la lb ca cb : Nat) (w : World) (hl : la ≠ lb) :
    Calls Try.prog 31 #[.slice a la ca, .slice b lb cb] w fun e w' => e = .returned (.bool false) ∧ w' = w := by
  have h : ((la : Int) != (lb : Int)) = true := by simp; omega
  clear hl
  go_enter Try.func31, Try.ntmps31
  go_wp2
  go_ret
  exact ⟨rfl, rfl⟩

theorem same_empty (a b : Option Addr) (ca cb : Nat) (w : World) :
    Calls Try.prog 31 #[.slice a 0 ca, .slice b 0 cb] w fun e w' => e = .returned (.bool true) ∧ w' = w := by
  go_enter Try.func31, Try.ntmps31
  go_wp2
  go_loop [5] (fun i => i = .int .i64 0) (fun _ => 0)
  case atStart => rfl
  case round =>
    subst hrel
    go_wp2
    go_ret
    exact ⟨rfl, rfl⟩

/-- Two rows of bytes that can be read: are they the same? -/
theorem same_rd (u v : Value) (xs ys : List Int) (w : World) (hx : Rd .u8 w u xs) (hy : Rd .u8 w v ys) :
    Calls Try.prog 31 #[u, v] w fun e w' => e = .returned (.bool (decide (xs = ys))) ∧ Below w.heap.size w w' := by
  obtain ⟨a, ca, rfl, h1, h2, _, hx⟩ := hx
  obtain ⟨b, cb, rfl, h3, h4, _, hy⟩ := hy
  by_cases hl : xs.length = ys.length
  · rcases hx with rfl | ⟨ab, ao, rfl, hx⟩
    · have : ys = [] := List.eq_nil_of_length_eq_zero (by simpa using hl.symm)
      subst this
      refine (same_empty a b ca cb w).mono ?_
      rintro e w' ⟨rfl, rfl⟩
      exact ⟨by simp, Below.refl _ _⟩
    · rcases hy with rfl | ⟨bb, bo, rfl, hy⟩
      · have : xs = [] := List.eq_nil_of_length_eq_zero (by simpa using hl)
        subst this
        refine (same_empty _ b ca cb w).mono ?_
        rintro e w' ⟨rfl, rfl⟩
        exact ⟨by simp, Below.refl _ _⟩
      · have := same_any ab bb ao bo ca cb xs ys w hl (by unfold maxLen at h2; omega) hx hy
        rw [← hl]
        exact this
  · refine (same_unlike a b _ _ ca cb w hl).mono ?_
    rintro e w' ⟨rfl, rfl⟩
    have : ¬ xs = ys := fun e => hl (by rw [e])
    exact ⟨by simp [this], Below.refl _ _⟩
end Go.Proofs.Ytaacidgihhcpkaa
/-
  Rows that are the same are the same.
-/
namespace Go.Proofs.Ytaacidgihhcpkaa
open Go.RowKit
set_option linter.unusedVariables false
set_option linter.unusedSimpArgs false
set_option maxRecDepth 100000

/-- Rows that are the same are the same. -/
theorem same_all (u v : Value) (xs : List Int) (w : World) (hu : Rd .u8 w u xs) (hv : Rd .u8 w v xs) : Calls Try.prog 31 #[u, v] w fun e w' => e = .returned (.bool true) ∧ Below w.heap.size w w' := by
  obtain ⟨a, ca, rfl, ha1, ha2, _, ha⟩ := hu
  obtain ⟨b, cb, rfl, hb1, hb2, _, hb⟩ := hv
  have h63 : xs.length ≤ 9223372036854775807 := by unfold maxLen at ha2; omega
  by_cases h0 : xs = []
  · subst h0
    simp only [List.length_nil]
    clear ha hb ha1 hb1 ha2 hb2 h63
    go_enter Try.func31, Try.ntmps31
    go_wp2
    go_loopw [5] (fun i wr => i = .int .i64 0 ∧ Below w.heap.size w wr) (fun _ _ => 0)
    case atStart => exact ⟨rfl, Below.refl _ _⟩
    case round =>
      obtain ⟨rfl, hB⟩ := hrel
      go_wp2
      go_ret
      exact ⟨rfl, hB⟩
  · rcases ha with e | ⟨ab, ao, rfl, ha⟩
    · exact absurd e h0
    rcases hb with e | ⟨bb, bo, rfl, hb⟩
    · exact absurd e h0
    have := same_any ab bb ao bo ca cb xs xs w rfl h63 ha hb
    simpa using this

end Go.Proofs.Ytaacidgihhcpkaa
/-
  The document's check sum.
-/
namespace Go.Proofs.Ytaacidgihhcpkaa
open Go.RowKit Pl
set_option linter.unusedVariables false

set_option maxRecDepth 100000 in
set_option maxHeartbeats 2000000 in
theorem refCrc_any (v : Value) (xs : List Int) (w : World) (hr : Rd .u8 w v xs) (hb : By xs) :
    Calls Try.prog 42 #[v] w fun e w' => e = .returned (.int .i64 (crc xs : Int)) ∧ Below w.heap.size w w' := by
  obtain ⟨a, cap, rfl, hlc, hcm, _, hcc⟩ := hr
  have HC : Hid (xs = [] ∨ ∃ b o, a = some ⟨b, o, none⟩ ∧ ∀ i, i < xs.length → w.cell? ⟨b, o + i, none⟩ = some (.int .u8 (xs.getD i 0))) := hcc
  have HB : Hid (By xs) := hb
  have hm : xs.length ≤ 9223372036854775807 := by unfold maxLen at hcm; omega
  clear hcc hb hcm
  obtain ⟨R, hR⟩ : ∃ R, Hid (crc xs = R) := ⟨_, rfl⟩
  rw [hR.out]
  go_enter Try.func42, Try.ntmps42
  go_wp2_with fail
  go_loopw [3, 4] (fun x i wr => ∃ (k X : Nat), k ≤ xs.length ∧ i = .int .i64 k ∧ x = .int .i64 X ∧ X < 4294967296 ∧ Hid (cR xs k = X) ∧ Hid (Below w.heap.size w wr)) (fun _ i _ => xs.length - (intOf i).toNat)
  case atStart => exact ⟨0, 4294967295, Nat.zero_le _, rfl, rfl, by decide, rfl, Below.refl _ _⟩
  case round =>
    obtain ⟨k, X, hk, rfl, rfl, hX, HX, B⟩ := hrel
    by_cases hlt : k < xs.length
    · obtain ⟨ab, ao, ha, hc⟩ : ∃ b o, a = some ⟨b, o, none⟩ ∧ ∀ i, i < xs.length → w.cell? ⟨b, o + i, none⟩ = some (.int .u8 (xs.getD i 0)) := by
        rcases HC.out with rfl | h
        · simp at hlt
        · exact h
      subst ha
      obtain ⟨b, hb⟩ : ∃ b : Nat, Hid (xs.getD k 0 = (b : Int) ∧ b < 256) := by
        have := HB.out k
        exact ⟨(xs.getD k 0).toNat, by omega, by omega⟩
      have hb1 := hb.out.2
      have cx : wr.cell? ⟨ab, ao + k, none⟩ = some (.int .u8 (b : Int)) := by
        have h0 := hc k hlt
        rw [B.out.cell (p := ⟨ab, ao + k, none⟩) (World.block_lt_of_cell? w ⟨ab, ao + k, none⟩ h0), h0, hb.out.1]
      have hx2 : X ^^^ b < 4294967296 := Nat.xor_lt_two_pow (n := 32) hX (by omega)
      have HX1 : ∀ W, Calls Try.prog 53 #[.int .i64 X, .int .i64 b] W fun e w' => e = .returned (.int .i64 ((X ^^^ b : Nat) : Int)) ∧ w' = W := fun W => xor_any X b W hX (by omega)
      have HN : Hid (cR xs (k + 1) = c8 8 (X ^^^ b)) := by show _ = _; simp only [cR]; rw [HX.out, hb.out.1]; rfl
      obtain ⟨Y, hY⟩ : ∃ Y, X ^^^ b = Y := ⟨_, rfl⟩
      rw [hY] at hx2 HN
      rw [hY] at HX1
      clear hc HX hY
      go_wp2_with (go_at_call 53; refine (HX1 _).mono ?_; rintro _ _ ⟨rfl, rfl⟩)
      clear HX1 cx
      go_loopw [3, 5] (fun x i wr => ∃ (j X : Nat), j ≤ 8 ∧ i = .int .i64 j ∧ x = .int .i64 X ∧ X < 4294967296 ∧ Hid (c8 j Y = X) ∧ Hid (Below w.heap.size w wr)) (fun _ i _ => 8 - (intOf i).toNat)
      case atStart => exact ⟨0, Y, Nat.zero_le _, rfl, rfl, hx2, rfl, by first | exact B | exact B.out.drew⟩
      case round =>
        clear B
        obtain ⟨j, Z, hj, rfl, rfl, hZ, HZ, B⟩ := hrel
        by_cases hjl : j < 8
        · have hs2 := c1_lt hZ
          have HZ2 : Hid (c8 (j + 1) Y = c1 Z) := by show _ = _; simp only [c8]; rw [HZ.out]
          obtain ⟨H, hH⟩ : ∃ H, Z / 2 = H := ⟨_, rfl⟩
          have hh : (Z : Int) / 2 = (H : Int) := by omega
          by_cases ho : Z % 2 = 1
          · have hm2 : (Z : Int) % 2 = 1 := by omega
            have e1 : c1 Z = H ^^^ 2197175160 := by unfold c1; rw [if_pos ho, hH]
            have HX2 : ∀ W, Calls Try.prog 53 #[.int .i64 H, .int .i64 2197175160] W fun e w' => e = .returned (.int .i64 ((H ^^^ 2197175160 : Nat) : Int)) ∧ w' = W := fun W => xor_any H 2197175160 W (by omega) (by decide)
            rw [e1] at hs2 HZ2
            obtain ⟨V, hV⟩ : ∃ V, H ^^^ 2197175160 = V := ⟨_, rfl⟩
            rw [hV] at hs2 HZ2
            rw [hV] at HX2
            clear HZ e1 hV hH ho
            go_wp2_with (go_at_call 53; refine (HX2 _).mono ?_; rintro _ _ ⟨rfl, rfl⟩)
            go_roundw
            case rel => exact ⟨j + 1, V, by omega, by go_num, rfl, hs2, HZ2, B⟩
            case measure => simp [intOf]; omega
          · have hm2 : (Z : Int) % 2 = 0 := by omega
            have e1 : c1 Z = H := by unfold c1; rw [if_neg ho, hH]
            rw [e1] at hs2 HZ2
            clear HZ e1 hH ho
            go_wp2_with fail
            go_roundw
            case rel => exact ⟨j + 1, H, by omega, by go_num, rfl, hs2, HZ2, B⟩
            case measure => simp [intOf]; omega
        · obtain rfl : j = 8 := by omega
          rw [HZ.out] at HN
          go_wp2_with fail
          go_roundw
          case rel => exact ⟨k + 1, Z, by omega, by go_num, rfl, hZ, HN, B⟩
          case measure => simp [intOf]; omega
    · obtain rfl : k = xs.length := by omega
      have he : R = 4294967295 - X := by rw [← hR.out]; unfold crc; rw [HX.out]
      have he2 : (4294967295 : Int) - (X : Int) = (R : Int) := by omega
      clear he
      go_wp2_with fail
      go_ret
      exact ⟨rfl, B.out⟩
end Go.Proofs.Ytaacidgihhcpkaa
