/-
  What is taken of bytes: the number whose bits stand in a row from a place on.
-/
import Derived.Test.YtcmnhgefeffcpaaRow
import Derived.Test.YtcmnhgefeffcpaaUnp
namespace Go.Proofs.Ytcmnhgefeffcpaa
open Go.RowKit Pl
set_option linter.unusedVariables false

theorem number_zero (v : Value) (p : Nat) (w : World) :
    Calls Try.prog 71 #[v, .int .i64 p, .int .i64 0] w fun e w' => e = .returned (.int .i64 0) ∧ w' = w := by
  go_enter Try.func71, Try.ntmps71
  go_wp2
  go_loop [7, 12] (fun v i => v = .int .i64 0 ∧ i = .int .i64 0) (fun _ _ => 0)
  case atStart => exact ⟨rfl, rfl⟩
  case round =>
    obtain ⟨rfl, rfl⟩ := hrel
    go_wp2
    go_ret
    exact ⟨rfl, rfl⟩

theorem or_above64 (n c : Int) (j : Nat) (hn : 0 ≤ n) (hn1 : n < 2 ^ j) (hc : c = 0 ∨ c = 1) (hj : j < 32) : Go.bits BinOp.or IntKind.i64 n (wrap64 (c * 2 ^ j)) = n + c * 2 ^ j := by
  have hp : (2 : Int) ^ j ≤ 2 ^ 31 := two_pow_le (by omega)
  have e31 : (2 : Int) ^ 31 = 2147483648 := by decide
  have e62 : (2 : Int) ^ 62 = 4611686018427387904 := by decide
  have hp0 : (0 : Int) < 2 ^ j := Int.pow_pos (by decide)
  have hz : 0 ≤ c * 2 ^ j ∧ c * 2 ^ j ≤ 2147483648 := by
    rcases hc with rfl | rfl <;> constructor <;> omega
  rw [IntWalk.wrap64_in _ ⟨by omega, by omega⟩]
  obtain ⟨a, rfl⟩ := Int.eq_ofNat_of_zero_le hn
  obtain ⟨d, rfl⟩ : ∃ d : Nat, c = (d : Int) := by
    rcases hc with rfl | rfl
    · exact ⟨0, rfl⟩
    · exact ⟨1, rfl⟩
  have e : ((d : Int) * 2 ^ j) = ((d * 2 ^ j : Nat) : Int) := by push_cast; rfl
  have ha : a < 2 ^ j := by exact_mod_cast hn1
  have ha' : a < 2 ^ 62 := Nat.lt_of_lt_of_le ha (Nat.pow_le_pow_right (by decide) (by omega))
  have hd : d * 2 ^ j < 2 ^ 62 := by have := hz.2; rw [e] at this; omega
  rw [e, (bits_nat .i64 62 (by decide) wraps_i64 a _ ha' hd).2, or_shift a d j ha]
  push_cast
  rfl

theorem and_byte (y : Int) (hy : 0 ≤ y) (h1 : y ≤ 255) : Go.bits BinOp.and IntKind.u8 y 1 = y % 2 := by
  obtain ⟨a, rfl⟩ := Int.eq_ofNat_of_zero_le hy
  have := (bits_nat .u8 8 (by decide) wraps_u8 a 1 (by omega) (by decide)).1
  rw [and_one] at this
  exact this

set_option maxHeartbeats 400000 in
theorem number_any (b o cap p n : Nat) (ys : List Int) (w : World) (hy : By ys) (hl : ys.length ≤ 1125899906842624) (hn : p + n ≤ 8 * ys.length) (h32 : n ≤ 32)
    (hc : ∀ i, i < ys.length → w.cell? ⟨b, o + i, none⟩ = some (.int .u8 (ys.getD i 0))) :
    Calls Try.prog 71 #[.slice (some ⟨b, o, none⟩) ys.length cap, .int .i64 p, .int .i64 n] w fun e w' => e = .returned (.int .i64 (val (unpack ys) p n)) ∧ w' = w := by
  have HC : Hid (∀ i, i < ys.length → w.cell? ⟨b, o + i, none⟩ = some (.int .u8 (ys.getD i 0))) := hc
  have HY : Hid (By ys) := hy
  clear hc hy
  go_enter Try.func71, Try.ntmps71
  go_wp2
  go_loop [7, 12] (fun v i => ∃ k : Nat, k ≤ n ∧ i = .int .i64 k ∧ v = .int .i64 (val (unpack ys) p k)) (fun _ i => n - (intOf i).toNat)
  case atStart => exact ⟨0, Nat.zero_le _, rfl, rfl⟩
  case round =>
    obtain ⟨k, hk, rfl, rfl⟩ := hrel
    by_cases hlt : k < n
    · obtain ⟨y, hye⟩ : ∃ y, Hid (ys.getD ((p + k) / 8) 0 = y) := ⟨_, rfl⟩
      have hy1 : 0 ≤ y ∧ y ≤ 255 := by rw [← hye.out]; exact HY.out _
      have cy : w.cell? ⟨b, o + (p + k) / 8, none⟩ = some (.int .u8 y) := by rw [HC.out _ (by omega), hye.out]
      obtain ⟨c, hce⟩ : ∃ c, Hid ((unpack ys).getD (p + k) 0 = c) := ⟨_, rfl⟩
      have hc01 : c = 0 ∨ c = 1 := by rw [← hce.out]; exact bits_unpack ys _
      have HC01 : Hid (c = 0 ∨ c = 1) := hc01
      obtain ⟨z, hze⟩ : ∃ z, Hid (val (unpack ys) p k = z) := ⟨_, rfl⟩
      obtain ⟨z', hze'⟩ : ∃ z', Hid (val (unpack ys) p (k + 1) = z') := ⟨_, rfl⟩
      rw [hze.out]
      have hand : Go.bits BinOp.and IntKind.u8 (y / 2 ^ ((p + k) % 8)) 1 = c := by
        have h0 : 0 ≤ y / 2 ^ ((p + k) % 8) := Int.ediv_nonneg hy1.1 (Int.le_of_lt (Int.pow_pos (by decide)))
        have h1 : y / 2 ^ ((p + k) % 8) ≤ y := Int.ediv_le_self _ hy1.1
        rw [and_byte _ h0 (by omega), ← hce.out, unpack_getD, hye.out]
      have hor : Go.bits BinOp.or IntKind.i64 z (wrap64 (c * 2 ^ k)) = z' := by
        have hb := val_bd (bits_unpack ys) p k
        rw [hze.out] at hb
        rw [or_above64 z c k hb.1 hb.2 HC01.out (by omega), ← hze'.out, ← hze.out, ← hce.out]
        rfl
      have hcb : 0 ≤ c ∧ c ≤ 1 := by omega
      clear hc01
      go_wp2
      go_round
      case rel => exact ⟨k + 1, by omega, by go_num, by rw [hze'.out]⟩
      case measure => simp [intOf]; omega
    · obtain rfl : k = n := by omega
      go_wp2
      go_ret
      exact ⟨rfl, rfl⟩

/-- The number at a place of a row that can be read. -/
theorem number_rd (v : Value) (p n : Nat) (ys : List Int) (w : World) (h : Rd .u8 w v ys) (hy : By ys) (hl : ys.length ≤ 1125899906842624) (hn : p + n ≤ 8 * ys.length) (h32 : n ≤ 32) :
    Calls Try.prog 71 #[v, .int .i64 p, .int .i64 n] w fun e w' => e = .returned (.int .i64 (val (unpack ys) p n)) ∧ w' = w := by
  obtain ⟨a, cap, rfl, _, _, _, h⟩ := h
  rcases h with rfl | ⟨b, o, rfl, hc⟩
  · obtain rfl : n = 0 := by simp at hn; omega
    exact number_zero _ p w
  · exact number_any b o cap p n ys w hy hl hn h32 hc

theorem mayTake_any (n : Int) (left : Nat) (w : World) :
    Calls Try.prog 70 #[.int .i64 n, .int .i64 left] w fun e w' => e = .returned (.int .i64 (tkE left n)) ∧ w' = w := by
  by_cases h1 : n < 0
  · have e : tkE left n = 1 := by unfold tkE; rw [if_pos (by omega)]
    rw [e]; clear e
    go_enter Try.func70, Try.ntmps70
    go_wp2
    go_ret
    exact ⟨rfl, rfl⟩
  · by_cases h2 : 32 < n
    · have e : tkE left n = 1 := by unfold tkE; rw [if_pos (by omega)]
      rw [e]; clear e
      go_enter Try.func70, Try.ntmps70
      go_wp2
      go_ret
      exact ⟨rfl, rfl⟩
    · by_cases h3 : (left : Int) < n
      · have e : tkE left n = 3 := by unfold tkE; rw [if_neg (by omega), if_pos h3]
        rw [e]; clear e
        go_enter Try.func70, Try.ntmps70
        go_wp2
        go_ret
        exact ⟨rfl, rfl⟩
      · have e : tkE left n = 0 := by unfold tkE; rw [if_neg (by omega), if_neg h3]
        rw [e]; clear e
        go_enter Try.func70, Try.ntmps70
        go_wp2
        go_ret
        exact ⟨rfl, rfl⟩

theorem Tch.of_drewN (S : Nat → Prop) (w : World) (n : Nat) : Tch S w (w.drewN n) := ⟨rfl, rfl, rfl, Nat.le_refl _, fun _ _ _ => rfl⟩

end Go.Proofs.Ytcmnhgefeffcpaa
