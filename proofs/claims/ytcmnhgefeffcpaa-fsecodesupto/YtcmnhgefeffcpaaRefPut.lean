/-
  What the document's own Put and Pack answer.
-/
import Derived.Test.YtcmnhgefeffcpaaE64
import Derived.Test.YtcmnhgefeffcpaaRnd
namespace Go.Proofs.Ytcmnhgefeffcpaa
open Go.RowKit Pl
set_option linter.unusedVariables false

set_option maxRecDepth 100000 in
set_option maxHeartbeats 1000000 in
theorem refPut_ok (v : Value) (xs : List Int) (n : Nat) (x : Int) (w : World) (h : Rd .i64 w v xs) (hb : xs.length ≤ 1099511627776) (h32 : n ≤ 32) (hx : 0 ≤ x) (hx1 : x < 2 ^ n) :
    Calls Try.prog 31 #[v, .int .i64 n, .int .i64 x] w fun e w' => ∃ v', e = .returned (.tuple #[v', .int .i64 0]) ∧ Owns .i64 3 w' v' (xs ++ bitsOf x n) ∧ Grew w w' (.slice none 0 0) v' := by
  have H : Hid (Rd .i64 w v xs) := h
  have hp : (2 : Int) ^ n ≤ 2 ^ 32 := two_pow_le h32
  have e32 : (2 : Int) ^ 32 = 4294967296 := by decide
  have hp0 : (0 : Int) < 2 ^ n := Int.pow_pos (by decide)
  obtain ⟨t, hte⟩ : ∃ t : Int, Hid ((2 : Int) ^ n = t) := ⟨_, rfl⟩
  have ht : x < t ∧ t ≤ 4294967296 := by rw [← hte.out]; omega
  have hw : wrap64 (2 ^ n) = t := by rw [IntWalk.wrap64_in _ ⟨by omega, by omega⟩, hte.out]
  clear h hp e32 hp0 hx1
  go_enter Try.func31, Try.ntmps31
  go_wp2_with (at_builtin; refine wpList_many _ rfl (.tmp 27) (.tmp 28) 22 rfl 3 .i64 8 elem64 _ [] rfl (owns_nil _ _ _) _ xs rfl H.out (by simp; omega) (by simp; omega) ?_)
  intro v1 w1 ho hg
  go_wp2_with fail
  go_loopw [2, 8, 9] (fun y r i wr => ∃ (k : Nat) (q : Int), k ≤ n ∧ i = .int .i64 k ∧ y = .int .i64 q ∧ 0 ≤ q ∧ q ≤ 4294967296 ∧ Hid (x / 2 ^ k = q) ∧ Owns .i64 3 wr r (xs ++ bitsOf x k) ∧ Grew w wr (.slice none 0 0) r) (fun _ _ i _ => n - (intOf i).toNat)
  case atStart => exact ⟨0, x, Nat.zero_le _, rfl, rfl, hx, by omega, by simp [Hid], by simpa [bitsOf] using ho, hg⟩
  case round =>
    obtain ⟨k, q, hk, rfl, rfl, hq0, hq1, hqe, hO, hG⟩ := hrel
    have HO : Hid (Owns .i64 3 wr u8 (xs ++ bitsOf x k)) := hO
    have HG : Hid (Grew w wr (.slice none 0 0) u8) := hG
    clear hO hG ho hg
    by_cases hlt : k < n
    · have HLEN : Hid ((xs ++ bitsOf x k).length ≤ 1099511627900) := by
        show _ ≤ _
        rw [List.length_append, bitsOf_length]; omega
      go_wp2_with (at_builtin; refine wpList_push _ rfl (.tmp 35) (.tmp 38) 22 rfl 3 .i64 8 elem64 _ (xs ++ bitsOf x k) rfl HO.out (q % 2) rfl (by have := HLEN.out; omega) (by have := HLEN.out; omega) ?_)
      intro v' w2 hO3 hG3
      have hG4 := HG.out.trans hG3
      have hO4 : Owns .i64 3 w2 v' (xs ++ bitsOf x (k + 1)) := by
        rw [bitsOf_snoc, hqe.out]; simpa using hO3
      have hqe2 : Hid (x / 2 ^ (k + 1) = q / 2) := by
        show _ = _
        rw [← hqe.out, Int.pow_succ, Int.ediv_ediv_of_nonneg (Int.le_of_lt (Int.pow_pos (by decide)))]
      clear hO3 hG3
      go_wp2_with fail
      go_roundw
      case rel => exact ⟨k + 1, q / 2, by omega, by go_num, rfl, by omega, by omega, hqe2, hO4, hG4⟩
      case measure => simp [intOf]; omega
    · obtain rfl : k = n := by omega
      go_wp2_with fail
      go_ret2
      exact ⟨u8, rfl, HO.out, HG.out⟩

set_option maxRecDepth 100000 in
set_option maxHeartbeats 1000000 in
theorem refPut_bad (v : Value) (n x : Int) (w : World) (h64 : x < 9223372036854775808) (h : n < 0 ∨ 32 < n ∨ x < 0 ∨ 2 ^ n.toNat ≤ x) :
    Calls Try.prog 31 #[v, .int .i64 n, .int .i64 x] w fun e w' => e = .returned (.tuple #[v, .int .i64 1]) ∧ w' = w := by
  by_cases h1 : n < 0
  · go_enter Try.func31, Try.ntmps31
    go_wp2_with fail
    go_ret2
    exact ⟨rfl, rfl⟩
  · by_cases h2 : 32 < n
    · go_enter Try.func31, Try.ntmps31
      go_wp2_with fail
      go_ret2
      exact ⟨rfl, rfl⟩
    · by_cases h3 : x < 0
      · go_enter Try.func31, Try.ntmps31
        go_wp2_with fail
        go_ret2
        exact ⟨rfl, rfl⟩
      · obtain ⟨m, rfl⟩ := Int.eq_ofNat_of_zero_le (show 0 ≤ n by omega)
        have h4 : (2 : Int) ^ m ≤ x := by
          rcases h with h | h | h | h
          · omega
          · omega
          · omega
          · simpa using h
        have hp : (2 : Int) ^ m ≤ 2 ^ 32 := two_pow_le (by omega)
        have e32 : (2 : Int) ^ 32 = 4294967296 := by decide
        have hp0 : (0 : Int) < 2 ^ m := Int.pow_pos (by decide)
        obtain ⟨t, hte⟩ : ∃ t : Int, Hid ((2 : Int) ^ m = t) := ⟨_, rfl⟩
        have ht : t ≤ x ∧ t ≤ 4294967296 := by rw [← hte.out]; omega
        have hw : wrap64 (2 ^ m) = t := by rw [IntWalk.wrap64_in _ ⟨by omega, by omega⟩, hte.out]
        clear h h4 hp e32 hp0
        go_enter Try.func31, Try.ntmps31
        go_wp2_with fail
        go_ret2
        exact ⟨rfl, rfl⟩

theorem pack_take_snoc (bs : List Int) (j : Nat) (h : 8 * j < bs.length) : (pack bs).take (j + 1) = (pack bs).take j ++ [val bs (8 * j) 8] := by
  rw [take_snoc' (pack bs) j (by rw [pack_length]; omega), pack_getD]

set_option maxRecDepth 100000 in
set_option maxHeartbeats 1000000 in
theorem pack_any (b o cap : Nat) (bs : List Int) (w : World) (hx : Bits bs) (hl : bs.length ≤ 1099511627776)
    (hc : ∀ i, i < bs.length → w.cell? ⟨b, o + i, none⟩ = some (.int .i64 (bs.getD i 0))) :
    Calls Try.prog 32 #[.slice (some ⟨b, o, none⟩) bs.length cap] w fun e w' => ∃ v', e = .returned v' ∧ Owns .u8 5 w' v' (pack bs) ∧ Grew w w' (.slice none 0 0) v' := by
  have HC : Hid (∀ i, i < bs.length → w.cell? ⟨b, o + i, none⟩ = some (.int .i64 (bs.getD i 0))) := hc
  have HX : Hid (Bits bs) := hx
  clear hc hx
  go_enter Try.func32, Try.ntmps32
  go_wp2
  go_loopw [3, 4] (fun r i wr => ∃ j : Nat, 8 * j ≤ bs.length + 7 ∧ i = .int .i64 (8 * (j : Int)) ∧ Hid (Owns .u8 5 wr r ((pack bs).take j)) ∧ Hid (Grew w wr (.slice none 0 0) r)) (fun _ i _ => bs.length + 8 - (intOf i).toNat)
  case atStart => exact ⟨0, by omega, rfl, by simpa [Hid] using owns_nil .u8 5 w, Grew.refl _ _⟩
  case round =>
    obtain ⟨j, hj, rfl, hO, hG⟩ := hrel
    by_cases hlt : 8 * j < bs.length
    · go_wp2_with fail
      go_loop [5, 6, 7] (fun z s k => ∃ (t : Nat) (y p : Int), t ≤ 8 ∧ 8 * j + t ≤ bs.length ∧ k = .int .i64 (8 * (j : Int) + (t : Int)) ∧ z = .int .i64 y ∧ s = .int .i64 p ∧ 0 ≤ y ∧ y < p ∧ p ≤ 256 ∧ Hid (val bs (8 * j) t = y ∧ (2 : Int) ^ t = p)) (fun _ _ k => 8 * j + 8 - (intOf k).toNat)
      case atStart => exact ⟨0, 0, 1, by omega, by omega, by go_num, rfl, rfl, by omega, by omega, by omega, ⟨rfl, rfl⟩⟩
      case round =>
        obtain ⟨t, y, p, ht, htl, rfl, rfl, rfl, hy0, hyp, hp, hyy⟩ := hrel
        by_cases hin : t < 8 ∧ 8 * j + t < bs.length
        · obtain ⟨h8, hlen⟩ := hin
          obtain ⟨c, hce⟩ : ∃ c, Hid (bs.getD (8 * j + t) 0 = c) := ⟨_, rfl⟩
          have hc01 : c = 0 ∨ c = 1 := by rw [← hce.out]; exact HX.out _
          have cc : wr.cell? ⟨b, o + (8 * j + t), none⟩ = some (.int .i64 c) := by
            have h := HC.out _ hlen
            rw [hG.out.below.1.cell (p := ⟨b, o + (8 * j + t), none⟩) (World.block_lt_of_cell? w ⟨b, o + (8 * j + t), none⟩ h), h, hce.out]
          obtain ⟨d, hd⟩ : ∃ d, c * p = d := ⟨_, rfl⟩
          have hd1 : 0 ≤ d ∧ d ≤ p := by rcases hc01 with rfl | rfl <;> simp at hd <;> omega
          have HZ : Hid (val bs (8 * j) (t + 1) = y + d ∧ (2 : Int) ^ (t + 1) = p * 2) := by
            refine ⟨?_, ?_⟩
            · show val bs (8 * j) t + bs.getD (8 * j + t) 0 * 2 ^ t = y + d
              rw [hyy.out.1, hyy.out.2, hce.out, hd]
            · rw [Int.pow_succ, hyy.out.2]
          have HB : Hid (y + d < p * 2) := by
            have := (val_bd HX.out (8 * j) (t + 1)).2
            rw [HZ.out.1, HZ.out.2] at this
            exact this
          have hp2 : p * 2 ≤ 256 := by
            have h1 : (2 : Int) ^ (t + 1) ≤ 2 ^ 8 := two_pow_le (by omega)
            have e8 : (2 : Int) ^ 8 = 256 := by decide
            rw [HZ.out.2] at h1
            omega
          clear hc01
          go_wp2_with fail
          go_round
          case rel => exact ⟨_, _, _, ⟨t + 1, by omega, by omega, by go_num, y + d, rfl, p * 2, rfl, by omega, HB.out, hp2, HZ⟩, rfl, rfl, rfl⟩
          case measure => simp [intOf]; omega
        · have HV : Hid (val bs (8 * j) 8 = y) := by
            show _ = _
            by_cases e8 : t = 8
            · rw [← hyy.out.1, e8]
            · rw [val_cut bs (8 * j) 8 t ht (by omega), hyy.out.1]
          have HLEN : Hid (((pack bs).take j).length ≤ 1099511627776) := by
            show _ ≤ _
            rw [List.length_take, pack_length]; omega
          by_cases h8 : t < 8
          · go_wp2_with (at_builtin; refine wpList_push _ rfl (.tmp 37) (.tmp 40) 31 rfl 5 .u8 1 elem8 _ ((pack bs).take j) rfl hO.out y rfl (by have := HLEN.out; omega) (by have := HLEN.out; omega) ?_)
            intro v' w2 hO3 hG3
            have hG4 : Hid (Grew w w2 (.slice none 0 0) v') := hG.out.trans hG3
            have hO4 : Hid (Owns .u8 5 w2 v' ((pack bs).take (j + 1))) := by show Owns _ _ _ _ _; rw [pack_take_snoc bs j hlt, HV.out]; exact hO3
            clear hO3 hG3 hG hO
            go_wp2_with fail
            go_roundw
            case rel => exact ⟨j + 1, by omega, by go_num, hO4, hG4⟩
            case measure => simp [intOf]; omega
          · go_wp2_with (at_builtin; refine wpList_push _ rfl (.tmp 37) (.tmp 40) 31 rfl 5 .u8 1 elem8 _ ((pack bs).take j) rfl hO.out y rfl (by have := HLEN.out; omega) (by have := HLEN.out; omega) ?_)
            intro v' w2 hO3 hG3
            have hG4 : Hid (Grew w w2 (.slice none 0 0) v') := hG.out.trans hG3
            have hO4 : Hid (Owns .u8 5 w2 v' ((pack bs).take (j + 1))) := by show Owns _ _ _ _ _; rw [pack_take_snoc bs j hlt, HV.out]; exact hO3
            clear hO3 hG3 hG hO
            go_wp2_with fail
            go_roundw
            case rel => exact ⟨j + 1, by omega, by go_num, hO4, hG4⟩
            case measure => simp [intOf]; omega
    · have hO5 : Owns .u8 5 wr u3 (pack bs) := by
        have := hO.out
        rw [List.take_of_length_le (by rw [pack_length]; omega)] at this
        exact this
      go_wp2_with fail
      go_ret
      exact ⟨u3, rfl, hO5, hG.out⟩

theorem pack_empty (a : Option Addr) (cap : Nat) (w : World) :
    Calls Try.prog 32 #[.slice a 0 cap] w fun e w' => e = .returned (.slice none 0 0) ∧ w' = w := by
  go_enter Try.func32, Try.ntmps32
  go_wp2
  go_loop [3, 4] (fun r i => r = .slice none 0 0 ∧ i = .int .i64 0) (fun _ _ => 0)
  case atStart => exact ⟨rfl, rfl⟩
  case round =>
    obtain ⟨rfl, rfl⟩ := hrel
    go_wp2
    go_ret
    exact ⟨rfl, rfl⟩

/-- A row of bits that can be read, as bytes. -/
theorem pack_rd (v : Value) (bs : List Int) (w : World) (h : Rd .i64 w v bs) (hx : Bits bs) (hl : bs.length ≤ 1099511627776) :
    Calls Try.prog 32 #[v] w fun e w' => ∃ v', e = .returned v' ∧ Owns .u8 5 w' v' (pack bs) ∧ Grew w w' (.slice none 0 0) v' := by
  obtain ⟨a, cap, rfl, _, _, _, h⟩ := h
  rcases h with rfl | ⟨b, o, rfl, hc⟩
  · refine (pack_empty a cap w).mono ?_
    rintro e w' ⟨rfl, rfl⟩
    exact ⟨_, rfl, owns_nil _ _ _, Grew.refl _ _⟩
  · exact pack_any b o cap bs w hx hl hc
end Go.Proofs.Ytcmnhgefeffcpaa
