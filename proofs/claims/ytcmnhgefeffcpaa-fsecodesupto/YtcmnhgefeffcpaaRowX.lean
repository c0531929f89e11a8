/-
  What the document's own readers answer: a row of bits, the number of some, what is left.
-/
import Derived.Test.YtcmnhgefeffcpaaRow
import Derived.Test.YtcmnhgefeffcpaaE64
namespace Go.Proofs.Ytcmnhgefeffcpaa
open Go.RowKit Pl
set_option linter.unusedVariables false

set_option maxHeartbeats 1000000 in
theorem row_any (b o cap : Nat) (ys : List Int) (w : World) (hy : By ys) (hl : ys.length ≤ 1048576)
    (hc : ∀ i, i < ys.length → w.cell? ⟨b, o + i, none⟩ = some (.int .u8 (ys.getD i 0))) :
    Calls Try.prog 60 #[.slice (some ⟨b, o, none⟩) ys.length cap] w fun e w' => ∃ v', e = .returned v' ∧ Owns .i64 3 w' v' (unpack ys) ∧ Grew w w' (.slice none 0 0) v' := by
  have HC : Hid (∀ i, i < ys.length → w.cell? ⟨b, o + i, none⟩ = some (.int .u8 (ys.getD i 0))) := hc
  have HY : Hid (By ys) := hy
  clear hc hy
  go_enter Try.func60, Try.ntmps60
  go_wp2
  go_loopw [3, 4] (fun r i wr => ∃ k : Nat, k ≤ ys.length ∧ i = .int .i64 k ∧ Owns .i64 3 wr r (unpack (ys.take k)) ∧ Grew w wr (.slice none 0 0) r) (fun _ i _ => ys.length - (intOf i).toNat)
  case atStart => exact ⟨0, Nat.zero_le _, rfl, by simpa [unpack] using owns_nil .i64 3 w, Grew.refl _ _⟩
  case round =>
    obtain ⟨k, hk, rfl, hO, hG⟩ := hrel
    have HO : Hid (Owns .i64 3 wr u3 (unpack (ys.take k))) := hO
    have HG : Hid (Grew w wr (.slice none 0 0) u3) := hG
    clear hO hG
    by_cases hlt : k < ys.length
    · obtain ⟨y, hye⟩ : ∃ y, Hid (ys.getD k 0 = y) := ⟨_, rfl⟩
      have hy1 : 0 ≤ y ∧ y ≤ 255 := by rw [← hye.out]; exact HY.out _
      have cy : wr.cell? ⟨b, o + k, none⟩ = some (.int .u8 y) := by
        have h := HC.out k hlt
        rw [HG.out.below.1.cell (p := ⟨b, o + k, none⟩) (World.block_lt_of_cell? w ⟨b, o + k, none⟩ h), h, hye.out]
      go_wp2_with fail
      go_loopw [3, 5, 6] (fun r x j wq => ∃ (m : Nat) (q : Int), m ≤ 8 ∧ j = .int .i64 m ∧ x = .int .i64 q ∧ 0 ≤ q ∧ q ≤ 255 ∧ Hid (y / 2 ^ m = q) ∧ Owns .i64 3 wq r (unpack (ys.take k) ++ bitsOf y m) ∧ Grew w wq (.slice none 0 0) r) (fun _ _ j _ => 8 - (intOf j).toNat)
      case atStart => exact ⟨0, y, by omega, rfl, rfl, hy1.1, hy1.2, by simp [Hid], by simpa [bitsOf] using HO.out, HG.out⟩
      case round =>
        obtain ⟨m, q, hm, rfl, rfl, hq0, hq1, hqe, hO2, hG2⟩ := hrel
        clear cy
        by_cases hm8 : m < 8
        · have hlen : (unpack (ys.take k) ++ bitsOf y m).length ≤ 8388608 := by
            rw [List.length_append, unpack_length, bitsOf_length, List.length_take]; omega
          have HO2 : Hid (Owns .i64 3 wr u3 (unpack (ys.take k) ++ bitsOf y m)) := hO2
          have HG2 : Hid (Grew w wr (.slice none 0 0) u3) := hG2
          have HLEN : Hid ((unpack (ys.take k) ++ bitsOf y m).length ≤ 8388608) := hlen
          clear hO2 hG2 hlen HO HG
          go_wp2_with (at_builtin; refine wpList_push _ rfl (.tmp 22) (.tmp 25) 22 rfl 3 .i64 8 elem64 _ (unpack (ys.take k) ++ bitsOf y m) rfl HO2.out (q % 2) rfl (by have := HLEN.out; omega) (by have := HLEN.out; omega) ?_)
          intro v' w2 hO3 hG3
          have hG4 := HG2.out.trans hG3
          have hO4 : Owns .i64 3 w2 v' (unpack (ys.take k) ++ bitsOf y (m + 1)) := by
            rw [bitsOf_snoc, hqe.out]; simpa using hO3
          have hqe2 : Hid (y / 2 ^ (m + 1) = q / 2) := by
            show _ = _
            rw [← hqe.out, Int.pow_succ, Int.ediv_ediv_of_nonneg (Int.le_of_lt (Int.pow_pos (by decide)))]
          clear hO3 hG3
          go_wp2_with fail
          go_roundw
          case rel => exact ⟨m + 1, q / 2, by omega, by go_num, rfl, by omega, by omega, hqe2, hO4, hG4⟩
          case measure => simp [intOf]; omega
        · have e8 : m = 8 := by omega
          have hO5 : Owns .i64 3 wr u3 (unpack (ys.take (k + 1))) := by
            rw [take_snoc' ys k hlt, unpack_snoc, hye.out, ← e8]; exact hO2
          clear hO2
          go_wp2_with fail
          go_roundw
          case rel => exact ⟨k + 1, by omega, by go_num, hO5, hG2⟩
          case measure => simp [intOf]; omega
    · have hO5 : Owns .i64 3 wr u3 (unpack ys) := by
        have := HO.out
        rw [List.take_of_length_le (by omega)] at this
        exact this
      go_wp2_with fail
      go_ret
      exact ⟨u3, rfl, hO5, HG.out⟩

theorem row_empty (a : Option Addr) (cap : Nat) (w : World) :
    Calls Try.prog 60 #[.slice a 0 cap] w fun e w' => e = .returned (.slice none 0 0) ∧ w' = w := by
  go_enter Try.func60, Try.ntmps60
  go_wp2
  go_loop [3, 4] (fun r i => r = .slice none 0 0 ∧ i = .int .i64 0) (fun _ _ => 0)
  case atStart => exact ⟨rfl, rfl⟩
  case round =>
    obtain ⟨rfl, rfl⟩ := hrel
    go_wp2
    go_ret
    exact ⟨rfl, rfl⟩

/-- The bits of bytes that can be read. -/
theorem row_rd (v : Value) (ys : List Int) (w : World) (h : Rd .u8 w v ys) (hy : By ys) (hl : ys.length ≤ 1048576) :
    Calls Try.prog 60 #[v] w fun e w' => ∃ v', e = .returned v' ∧ Owns .i64 3 w' v' (unpack ys) ∧ Grew w w' (.slice none 0 0) v' := by
  obtain ⟨a, cap, rfl, _, _, _, h⟩ := h
  rcases h with rfl | ⟨b, o, rfl, hc⟩
  · refine (row_empty a cap w).mono ?_
    rintro e w' ⟨rfl, rfl⟩
    exact ⟨_, rfl, owns_nil _ _ _, Grew.refl _ _⟩
  · exact row_any b o cap ys w hy hl hc


end Go.Proofs.Ytcmnhgefeffcpaa
