/-
  What the document's own readers answer: a row of bits, the number of some, what is left.
-/
import Derived.Test.YtbjpeomokgchnaaRow
import Derived.Test.YtbjpeomokgchnaaUnp
namespace Go.Proofs.Ytbjpeomokgchnaa
open Go.RowKit Pl
set_option linter.unusedVariables false

theorem elem64 : Elem Try.prog 25 3 .i64 8 := ⟨Try.underlying25, info_parts (z := .int .i64 0) (size := 1) (bytes := 8) (by kernel_rfl)⟩

theorem bitsOf_snoc (v : Int) (k : Nat) : bitsOf v (k + 1) = bitsOf v k ++ [v / 2 ^ k % 2] := rfl

theorem unpack_snoc (xs : List Int) (y : Int) : unpack (xs ++ [y]) = unpack xs ++ bitsOf y 8 := by
  rw [unpack_append]; simp [unpack]

theorem take_snoc' (ys : List Int) (k : Nat) (h : k < ys.length) : ys.take (k + 1) = ys.take k ++ [ys.getD k 0] := by
  rw [List.take_succ_eq_append_getElem h]
  simp [List.getD_eq_getElem?_getD, h]

set_option maxHeartbeats 1000000 in
theorem row_any (b o cap : Nat) (ys : List Int) (w : World) (hy : By ys) (hl : ys.length ≤ 1048576)
    (hc : ∀ i, i < ys.length → w.cell? ⟨b, o + i, none⟩ = some (.int .u8 (ys.getD i 0))) :
    Calls Try.prog 19 #[.slice (some ⟨b, o, none⟩) ys.length cap] w fun e w' => ∃ v', e = .returned v' ∧ Owns .i64 3 w' v' (unpack ys) ∧ Grew w w' (.slice none 0 0) v' := by
  have HC : Hid (∀ i, i < ys.length → w.cell? ⟨b, o + i, none⟩ = some (.int .u8 (ys.getD i 0))) := hc
  have HY : Hid (By ys) := hy
  clear hc hy
  go_enter Try.func19, Try.ntmps19
  go_wp2
  go_loopw [3, 4] (fun r i wr => ∃ k : Nat, k ≤ ys.length ∧ i = .int .i64 k ∧ Owns .i64 3 wr r (unpack (ys.take k)) ∧ Grew w wr (.slice none 0 0) r) (fun _ i _ => ys.length - (intOf i).toNat)
  case atStart => exact ⟨0, Nat.zero_le _, rfl, by simpa [unpack] using owns_nil .i64 3 w, Grew.refl _ _⟩
  case round =>
    obtain ⟨k, hk, rfl, hO, hG⟩ := hrel
    have HO : Hid (Owns .i64 3 wr u3 (unpack (ys.take k))) := hO
    have HG : Hid (Grew w wr (.slice none 0 0) u3) := hG
    clear hO hG
    by_cases hlt : k < ys.length
    · obtain ⟨y, hye⟩ : ∃ y, Hid (ys.getD k 0 = y) := ⟨_, rfl⟩
      have hy1 : 0 ≤ y ∧ y ≤ 255 := by rw [← hye.out]; exact HY.out _
      have cy : wr.cell? ⟨b, o + k, none⟩ = some (.int .u8 y) := by
        have h := HC.out k hlt
        rw [HG.out.below.1.cell (p := ⟨b, o + k, none⟩) (World.block_lt_of_cell? w ⟨b, o + k, none⟩ h), h, hye.out]
      go_wp2_with fail
      go_loopw [3, 5, 6] (fun r x j wq => ∃ (m : Nat) (q : Int), m ≤ 8 ∧ j = .int .i64 m ∧ x = .int .i64 q ∧ 0 ≤ q ∧ q ≤ 255 ∧ Hid (y / 2 ^ m = q) ∧ Owns .i64 3 wq r (unpack (ys.take k) ++ bitsOf y m) ∧ Grew w wq (.slice none 0 0) r) (fun _ _ j _ => 8 - (intOf j).toNat)
      case atStart => exact ⟨0, y, by omega, rfl, rfl, hy1.1, hy1.2, by simp [Hid], by simpa [bitsOf] using HO.out, HG.out⟩
      case round =>
        obtain ⟨m, q, hm, rfl, rfl, hq0, hq1, hqe, hO2, hG2⟩ := hrel
        clear cy
        by_cases hm8 : m < 8
        · have hlen : (unpack (ys.take k) ++ bitsOf y m).length ≤ 8388608 := by
            rw [List.length_append, unpack_length, bitsOf_length, List.length_take]; omega
          have HO2 : Hid (Owns .i64 3 wr u3 (unpack (ys.take k) ++ bitsOf y m)) := hO2
          have HG2 : Hid (Grew w wr (.slice none 0 0) u3) := hG2
          have HLEN : Hid ((unpack (ys.take k) ++ bitsOf y m).length ≤ 8388608) := hlen
          clear hO2 hG2 hlen HO HG
          go_wp2_with (at_builtin; refine wpList_push _ rfl (.tmp 22) (.tmp 25) 25 rfl 3 .i64 8 elem64 _ (unpack (ys.take k) ++ bitsOf y m) rfl HO2.out (q % 2) rfl (by have := HLEN.out; omega) (by have := HLEN.out; omega) ?_)
          intro v' w2 hO3 hG3
          have hG4 := HG2.out.trans hG3
          have hO4 : Owns .i64 3 w2 v' (unpack (ys.take k) ++ bitsOf y (m + 1)) := by
            rw [bitsOf_snoc, hqe.out]; simpa using hO3
          have hqe2 : Hid (y / 2 ^ (m + 1) = q / 2) := by
            show _ = _
            rw [← hqe.out, Int.pow_succ, Int.ediv_ediv_of_nonneg (Int.le_of_lt (Int.pow_pos (by decide)))]
          clear hO3 hG3
          go_wp2_with fail
          go_roundw
          case rel => exact ⟨m + 1, q / 2, by omega, by go_num, rfl, by omega, by omega, hqe2, hO4, hG4⟩
          case measure => simp [intOf]; omega
        · have e8 : m = 8 := by omega
          have hO5 : Owns .i64 3 wr u3 (unpack (ys.take (k + 1))) := by
            rw [take_snoc' ys k hlt, unpack_snoc, hye.out, ← e8]; exact hO2
          clear hO2
          go_wp2_with fail
          go_roundw
          case rel => exact ⟨k + 1, by omega, by go_num, hO5, hG2⟩
          case measure => simp [intOf]; omega
    · have hO5 : Owns .i64 3 wr u3 (unpack ys) := by
        have := HO.out
        rw [List.take_of_length_le (by omega)] at this
        exact this
      go_wp2_with fail
      go_ret
      exact ⟨u3, rfl, hO5, HG.out⟩

theorem row_empty (a : Option Addr) (cap : Nat) (w : World) :
    Calls Try.prog 19 #[.slice a 0 cap] w fun e w' => e = .returned (.slice none 0 0) ∧ w' = w := by
  go_enter Try.func19, Try.ntmps19
  go_wp2
  go_loop [3, 4] (fun r i => r = .slice none 0 0 ∧ i = .int .i64 0) (fun _ _ => 0)
  case atStart => exact ⟨rfl, rfl⟩
  case round =>
    obtain ⟨rfl, rfl⟩ := hrel
    go_wp2
    go_ret
    exact ⟨rfl, rfl⟩

/-- The bits of bytes that can be read. -/
theorem row_rd (v : Value) (ys : List Int) (w : World) (h : Rd .u8 w v ys) (hy : By ys) (hl : ys.length ≤ 1048576) :
    Calls Try.prog 19 #[v] w fun e w' => ∃ v', e = .returned v' ∧ Owns .i64 3 w' v' (unpack ys) ∧ Grew w w' (.slice none 0 0) v' := by
  obtain ⟨a, cap, rfl, _, _, _, h⟩ := h
  rcases h with rfl | ⟨b, o, rfl, hc⟩
  · refine (row_empty a cap w).mono ?_
    rintro e w' ⟨rfl, rfl⟩
    exact ⟨_, rfl, owns_nil _ _ _, Grew.refl _ _⟩
  · exact row_any b o cap ys w hy hl hc

set_option maxHeartbeats 400000 in
theorem value_any (b o cap p n : Nat) (xs : List Int) (w : World) (hx : Bits xs) (hl : xs.length ≤ 4611686018427387904) (hn : p + n ≤ xs.length) (h32 : n ≤ 32)
    (hc : ∀ i, i < xs.length → w.cell? ⟨b, o + i, none⟩ = some (.int .i64 (xs.getD i 0))) :
    Calls Try.prog 34 #[.slice (some ⟨b, o, none⟩) xs.length cap, .int .i64 p, .int .i64 n] w fun e w' => e = .returned (.int .i64 (val xs p n)) ∧ w' = w := by
  have HC : Hid (∀ i, i < xs.length → w.cell? ⟨b, o + i, none⟩ = some (.int .i64 (xs.getD i 0))) := hc
  have HX : Hid (Bits xs) := hx
  clear hc hx
  go_enter Try.func34, Try.ntmps34
  go_wp2
  go_loop [7, 8, 9] (fun v s i => ∃ (k : Nat) (z t : Int), k ≤ n ∧ i = .int .i64 k ∧ v = .int .i64 z ∧ s = .int .i64 t ∧ 0 ≤ z ∧ z ≤ t ∧ 1 ≤ t ∧ t ≤ 4294967296 ∧ Hid (val xs p k = z ∧ (2 : Int) ^ k = t)) (fun _ _ i => n - (intOf i).toNat)
  case atStart => exact ⟨0, 0, 1, Nat.zero_le _, rfl, rfl, rfl, by omega, by omega, by omega, by omega, rfl, rfl⟩
  case round =>
    obtain ⟨k, z, t, hk, rfl, rfl, rfl, hz0, hzt, ht1, ht2, hzz⟩ := hrel
    by_cases hlt : k < n
    · obtain ⟨c, hce⟩ : ∃ c, Hid (xs.getD (p + k) 0 = c) := ⟨_, rfl⟩
      have hc01 : c = 0 ∨ c = 1 := by rw [← hce.out]; exact HX.out _
      have cc : w.cell? ⟨b, o + (p + k), none⟩ = some (.int .i64 c) := by rw [HC.out _ (by omega), hce.out]
      obtain ⟨d, hd⟩ : ∃ d, c * t = d := ⟨_, rfl⟩
      have hd1 : 0 ≤ d ∧ d ≤ t := by rcases hc01 with rfl | rfl <;> simp at hd <;> omega
      have HZ : Hid (val xs p (k + 1) = z + d ∧ (2 : Int) ^ (k + 1) = t * 2) := by
        refine ⟨?_, ?_⟩
        · show val xs p k + xs.getD (p + k) 0 * 2 ^ k = z + d
          rw [hzz.out.1, hzz.out.2, hce.out, hd]
        · rw [Int.pow_succ, hzz.out.2]
      have ht3 : t * 2 ≤ 4294967296 := by
        have h1 : (2 : Int) ^ (k + 1) ≤ 2 ^ 32 := two_pow_le (by omega)
        have e32 : (2 : Int) ^ 32 = 4294967296 := by decide
        rw [HZ.out.2] at h1
        omega
      have HB : Hid (z + d ≤ t * 2) := by
        have := (val_bd HX.out p (k + 1)).2
        rw [HZ.out.1, HZ.out.2] at this
        exact Int.le_of_lt this
      clear hc01
      go_wp2
      go_round
      case rel => exact ⟨k + 1, z + d, t * 2, by omega, by go_num, by first | rfl | go_num, by first | rfl | go_num, by omega, HB.out, by omega, ht3, HZ⟩
      case measure => simp [intOf]; omega
    · obtain rfl : k = n := by omega
      go_wp2
      go_ret
      exact ⟨by rw [hzz.out.1]; rfl, rfl⟩

theorem value_zero (v : Value) (p : Nat) (w : World) :
    Calls Try.prog 34 #[v, .int .i64 p, .int .i64 0] w fun e w' => e = .returned (.int .i64 0) ∧ w' = w := by
  go_enter Try.func34, Try.ntmps34
  go_wp2
  go_loop [7, 9] (fun v i => v = .int .i64 0 ∧ i = .int .i64 0) (fun _ _ => 0)
  case atStart => exact ⟨rfl, rfl⟩
  case round =>
    obtain ⟨rfl, rfl⟩ := hrel
    go_wp2
    go_ret
    exact ⟨rfl, rfl⟩

/-- What is told of a take that fails. -/
theorem tk_bad {left : Nat} {n : Int} (bs : List Int) (p : Nat) (h : tkE left n ≠ 0) : tkV bs left p n = 0 ∧ tkN left n = 0 := by
  unfold tkE at h
  unfold tkV tkN
  split at h
  · rename_i h1; rw [if_pos h1, if_pos h1]; exact ⟨rfl, rfl⟩
  · rename_i h1
    split at h
    · rename_i h2; rw [if_neg h1, if_pos h2, if_neg h1, if_pos h2]; exact ⟨rfl, rfl⟩
    · exact absurd rfl h

theorem tk_good {left : Nat} {n : Int} (bs : List Int) (p : Nat) (h : tkE left n = 0) : ∃ m : Nat, n = (m : Int) ∧ m ≤ 32 ∧ m ≤ left ∧ tkV bs left p n = val bs p m ∧ tkN left n = m := by
  have hn : 0 ≤ n ∧ n ≤ 32 ∧ n ≤ (left : Int) := by
    unfold tkE at h
    split at h
    · cases h
    · split at h
      · cases h
      · omega
  obtain ⟨m, rfl⟩ := Int.eq_ofNat_of_zero_le hn.1
  refine ⟨m, rfl, by omega, by omega, ?_, ?_⟩
  · unfold tkV; rw [if_neg (by omega), if_neg (by omega)]; rfl
  · unfold tkN; rw [if_neg (by omega), if_neg (by omega)]; rfl

set_option maxHeartbeats 1000000 in
theorem refTake_bad (a : Option Addr) (len cap : Nat) (n : Int) (w : World) (h63 : len ≤ 9223372036854775807) (h : tkE len n ≠ 0) :
    Calls Try.prog 20 #[.slice a len cap, .int .i64 n] w fun e w' => e = .returned (.tuple #[.int .i64 0, .slice a len cap, .int .i64 (tkE len n)]) ∧ w' = w := by
  by_cases h1 : n < 0
  · have e : tkE len n = 1 := by unfold tkE; rw [if_pos (by omega)]
    rw [e]; clear e h
    go_enter Try.func20, Try.ntmps20
    go_wp2
    go_ret3
    exact ⟨rfl, rfl⟩
  · by_cases h2 : 32 < n
    · have e : tkE len n = 1 := by unfold tkE; rw [if_pos (by omega)]
      rw [e]; clear e h
      go_enter Try.func20, Try.ntmps20
      go_wp2
      go_ret3
      exact ⟨rfl, rfl⟩
    · by_cases h3 : (len : Int) < n
      · have e : tkE len n = 3 := by unfold tkE; rw [if_neg (by omega), if_pos h3]
        rw [e]; clear e h
        go_enter Try.func20, Try.ntmps20
        go_wp2
        go_ret3
        exact ⟨rfl, rfl⟩
      · exact absurd (by unfold tkE; rw [if_neg (by omega), if_neg h3]) h

set_option maxHeartbeats 1000000 in
theorem refTake_zero (a : Option Addr) (cap : Nat) (w : World) (ha : a = none → cap = 0) :
    Calls Try.prog 20 #[.slice a 0 cap, .int .i64 0] w fun e w' => e = .returned (.tuple #[.int .i64 0, .slice a 0 cap, .int .i64 0]) ∧ ∃ q, w' = w.drewN q := by
  cases a with
  | none =>
    obtain rfl := ha rfl
    clear ha
    go_enter Try.func20, Try.ntmps20
    go_wp2
    go_quiet ((go_at_call 34; exact Calls.quiet_of_same (value_zero _ 0 _)))
    go_wp2
    go_ret3
    exact ⟨rfl, _, rfl⟩
  | some x =>
    clear ha
    go_enter Try.func20, Try.ntmps20
    go_wp2
    go_quiet ((go_at_call 34; exact Calls.quiet_of_same (value_zero _ 0 _)))
    go_wp2
    go_ret3
    exact ⟨by simp, _, rfl⟩

set_option maxHeartbeats 1000000 in
theorem refTake_ok (b o cap m : Nat) (xs : List Int) (w : World) (hx : Bits xs) (hl : xs.length ≤ cap) (hcap : cap ≤ maxLen) (hs : xs.length ≤ 4611686018427387904) (hm : m ≤ xs.length) (h32 : m ≤ 32)
    (hc : ∀ i, i < xs.length → w.cell? ⟨b, o + i, none⟩ = some (.int .i64 (xs.getD i 0))) :
    Calls Try.prog 20 #[.slice (some ⟨b, o, none⟩) xs.length cap, .int .i64 m] w fun e w' =>
      e = .returned (.tuple #[.int .i64 (val xs 0 m), .slice (if cap = m then some ⟨b, o, none⟩ else some ⟨b, o + m, none⟩) (xs.length - m) (cap - m), .int .i64 0]) ∧ ∃ q, w' = w.drewN q := by
  have HC : Hid (∀ i, i < xs.length → w.cell? ⟨b, o + i, none⟩ = some (.int .i64 (xs.getD i 0))) := hc
  have HX : Hid (Bits xs) := hx
  unfold maxLen at hcap
  clear hc hx
  by_cases hcm : cap = m
  · rw [if_pos hcm]
    subst hcm
    go_enter Try.func20, Try.ntmps20
    go_wp2
    go_quiet ((go_at_call 34; exact Calls.quiet_of_same (value_any b o _ 0 cap xs _ HX.out hs (by omega) h32 (by exact HC.out))))
    go_wp2
    go_ret3
    exact ⟨by simp; omega, _, rfl⟩
  · rw [if_neg hcm]
    go_enter Try.func20, Try.ntmps20
    go_wp2
    go_quiet ((go_at_call 34; exact Calls.quiet_of_same (value_any b o _ 0 m xs _ HX.out hs (by omega) h32 (by exact HC.out))))
    go_wp2
    go_ret3
    exact ⟨by simp, _, rfl⟩

/-- The document's Take, of bits that can be read. -/
theorem refTake_rd (v : Value) (n : Int) (xs : List Int) (w : World) (h : Rd .i64 w v xs) (hx : Bits xs) (hs : xs.length ≤ 4611686018427387904) :
    Calls Try.prog 20 #[v, .int .i64 n] w fun e w' => ∃ v', e = .returned (.tuple #[.int .i64 (tkV xs xs.length 0 n), v', .int .i64 (tkE xs.length n)]) ∧
      Rd .i64 w' v' (xs.drop (tkN xs.length n)) ∧ (∀ k, v'.ownBlock = some k → v.ownBlock = some k) ∧ ∃ q, w' = w.drewN q := by
  have h0 := h
  obtain ⟨a, cap, rfl, hl, hm, ha, h⟩ := h
  by_cases hE : tkE xs.length n = 0
  · obtain ⟨m, rfl, hm32, hml, eV, eN⟩ := tk_good xs 0 hE
    rw [eV, eN, hE]
    rcases h with rfl | ⟨b, o, rfl, hc⟩
    · obtain rfl : m = 0 := by simpa using hml
      refine (refTake_zero a cap w ha).mono ?_
      rintro e w' ⟨rfl, q, rfl⟩
      exact ⟨_, rfl, h0, fun _ e => e, q, rfl⟩
    · refine (refTake_ok b o cap m xs w hx hl hm hs hml hm32 hc).mono ?_
      rintro e w' ⟨rfl, q, rfl⟩
      refine ⟨_, rfl, ⟨_, cap - m, by rw [List.length_drop], by rw [List.length_drop]; omega, by unfold maxLen at *; omega, ?_, ?_⟩, ?_, q, rfl⟩
      · intro e; split at e <;> cases e
      · by_cases hmm : m = xs.length
        · left; rw [hmm]; simp
        · right
          refine ⟨b, o + m, by rw [if_neg (by omega)], fun i hi => ?_⟩
          rw [List.length_drop] at hi
          have := hc (m + i) (by omega)
          rw [List.getD_eq_getElem?_getD, List.getElem?_drop, ← List.getD_eq_getElem?_getD, Nat.add_assoc]
          exact this
      · intro k hk
        split at hk <;> exact hk
  · obtain ⟨e1, e2⟩ := tk_bad xs 0 hE
    rw [e1, e2]
    refine (refTake_bad a xs.length cap n w (by omega) hE).mono ?_
    rintro e w' ⟨rfl, rfl⟩
    exact ⟨_, rfl, h0, fun _ e => e, 0, rfl⟩
end Go.Proofs.Ytbjpeomokgchnaa
