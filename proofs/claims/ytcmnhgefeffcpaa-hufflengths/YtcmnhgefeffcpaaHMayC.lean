/-
  When the program takes lengths for some that may be.
-/
import Derived.Test.YtcmnhgefeffcpaaHMayP
namespace Go.Proofs.Ytcmnhgefeffcpaa
open Go.RowKit Pl
set_option linter.unusedVariables false

/-- Lengths that the program takes. -/
def mayC (ls : List Int) : Bool :=
  decide (ls.length ≤ 256 ∧ (∀ i, i < ls.length → 0 ≤ ls.getD i 0 ∧ ls.getD i 0 ≤ 11) ∧
    if manyTo ls ls.length = 1 then roomTo ls ls.length = 1024 else (roomTo ls ls.length = 2048 ∧ ls.getD (ls.length - 1) 0 ≠ 0))

theorem room_of_none (ls : List Int) (k : Nat) (h : manyTo ls k = 0) : roomTo ls k = 0 := by
  induction k with
  | zero => rfl
  | succ k ih =>
    have hb := manyTo_bd ls k
    simp only [manyTo] at h
    simp only [roomTo]
    split at h
    · omega
    · rename_i hn
      rw [if_neg hn, ih (by omega)]
      rfl

theorem mayC_of_mayB {ls : List Int} (h : mayB ls = true) : mayC ls = true := by
  unfold mayB at h
  unfold mayC
  rw [decide_eq_true_eq] at h ⊢
  obtain ⟨h1, h2, h3, h4, h5⟩ := h
  refine ⟨h2, h4, ?_⟩
  by_cases e : manyTo ls ls.length = 1
  · rw [if_pos e] at h5 ⊢
    obtain ⟨n, hn⟩ : ∃ n, ls.length = n + 1 := ⟨ls.length - 1, by omega⟩
    rw [hn] at h5 e ⊢
    rw [show n + 1 - 1 = n by omega] at h5
    have hb := manyTo_bd ls n
    simp only [manyTo, h5] at e
    simp only [roomTo, h5]
    rw [if_pos (by decide)] at e ⊢
    rw [room_of_none ls n (by omega)]
    decide
  · rw [if_neg e] at h5 ⊢
    exact ⟨h5, h3⟩

theorem maybe_long (a : Option Addr) (n cap : Nat) (w : World) (h : 256 < n) :
    Calls Try.prog 43 #[.slice a n cap] w fun e w' => e = .returned (.bool false) ∧ w' = w := by
  have h' : (256 : Int) < (n : Int) := by omega
  go_enter Try.func43, Try.ntmps43
  go_wp2
  go_ret
  exact ⟨rfl, rfl⟩

theorem maybe_short (a : Option Addr) (cap : Nat) (w : World) :
    Calls Try.prog 43 #[.slice a 0 cap] w fun e w' => e = .returned (.bool false) ∧ w' = w := by
  go_enter Try.func43, Try.ntmps43
  go_wp2
  go_loop [3, 4, 12] (fun m s i => m = .int .i64 0 ∧ s = .int .i64 0 ∧ i = .int .i64 0) (fun _ _ _ => 0)
  case atStart => exact ⟨rfl, rfl, rfl⟩
  case round =>
    obtain ⟨rfl, rfl, rfl⟩ := hrel
    go_wp2
    go_ret
    exact ⟨rfl, rfl⟩

set_option maxRecDepth 100000 in
set_option maxHeartbeats 1000000 in
theorem maybe_any (b o cap : Nat) (ls : List Int) (w : World) (h1 : 1 ≤ ls.length) (h2 : ls.length ≤ 256)
    (hc : ∀ i, i < ls.length → w.cell? ⟨b, o + i, none⟩ = some (.int .i64 (ls.getD i 0))) :
    Calls Try.prog 43 #[.slice (some ⟨b, o, none⟩) ls.length cap] w fun e w' => e = .returned (.bool (mayC ls)) ∧ w' = w := by
  have HC : Hid (∀ i, i < ls.length → w.cell? ⟨b, o + i, none⟩ = some (.int .i64 (ls.getD i 0))) := hc
  obtain ⟨y, hye⟩ : ∃ y, Hid (ls.getD (ls.length - 1) 0 = y) := ⟨_, rfl⟩
  have cy : w.cell? ⟨b, o + (ls.length - 1), none⟩ = some (.int .i64 y) := by rw [hc _ (by omega), hye.out]
  clear hc
  obtain ⟨R, hR⟩ : ∃ R, Hid (mayC ls = R) := ⟨_, rfl⟩
  rw [hR.out]
  go_enter Try.func43, Try.ntmps43
  go_wp2
  go_loop [3, 4, 12] (fun m s i => ∃ (k : Nat) (r t : Int), k ≤ ls.length ∧ i = .int .i64 k ∧ s = .int .i64 r ∧ m = .int .i64 t ∧ 0 ≤ r ∧ r ≤ 524288 ∧ 0 ≤ t ∧ t ≤ 256 ∧ Hid (roomTo ls k = r ∧ manyTo ls k = t ∧ ∀ j, j < k → 0 ≤ ls.getD j 0 ∧ ls.getD j 0 ≤ 11)) (fun _ _ i => ls.length - (intOf i).toNat)
  case atStart => exact ⟨0, 0, 0, Nat.zero_le _, rfl, rfl, rfl, by omega, by omega, by omega, by omega, rfl, rfl, fun j hj => by omega⟩
  case round =>
    obtain ⟨k, r, t, hk, rfl, rfl, rfl, hr0, hr1, ht0, ht1, hI⟩ := hrel
    by_cases hlt : k < ls.length
    · obtain ⟨x, hxe⟩ : ∃ x, Hid (ls.getD k 0 = x) := ⟨_, rfl⟩
      have cx : w.cell? ⟨b, o + k, none⟩ = some (.int .i64 x) := by rw [HC.out k hlt, hxe.out]
      by_cases hbad : x < 0 ∨ 11 < x
      · have HR : Hid (R = false) := by
          show R = false
          rw [← hR.out]
          unfold mayC
          refine decide_eq_false (fun h => ?_)
          have := h.2.1 k hlt
          rw [hxe.out] at this
          omega
        rcases hbad with hbad | hbad
        all_goals
          go_wp2
          go_ret
          exact ⟨by rw [HR.out]; rfl, rfl⟩
      · obtain ⟨m, hm⟩ := Int.eq_ofNat_of_zero_le (show 0 ≤ x by omega)
        subst hm
        have hm11 : m ≤ 11 := by omega
        have hmany := manyTo_bd ls (k + 1)
        have hroom := roomTo_bd ls (k + 1)
        have HJ : Hid (∀ j, j < k + 1 → 0 ≤ ls.getD j 0 ∧ ls.getD j 0 ≤ 11) := fun j hj => by
          by_cases e : j < k
          · exact hI.out.2.2 j e
          · have : j = k := by omega
            subst this
            rw [hxe.out]; omega
        simp only [manyTo, roomTo, hxe.out, hI.out.1, hI.out.2.1] at hmany hroom
        by_cases hm0 : 0 < m
        · have hm0' : (0 : Int) < (m : Int) := by omega
          rw [if_pos hm0'] at hmany hroom
          simp only [Int.toNat_natCast] at hroom
          obtain ⟨q, hq⟩ : ∃ q : Int, Hid ((2 : Int) ^ (11 - m) = q) := ⟨_, rfl⟩
          have hq1 : 0 < q ∧ q ≤ 2048 := by
            rw [← hq.out]
            have h2 : (2 : Int) ^ (11 - m) ≤ 2 ^ 11 := two_pow_le (by omega)
            have e : (2 : Int) ^ 11 = 2048 := by decide
            exact ⟨Int.pow_pos (by decide), by omega⟩
          have hw : wrap64 (2 ^ (11 - m)) = q := by rw [hq.out]; exact IntWalk.wrap64_in _ ⟨by omega, by omega⟩
          rw [hq.out] at hroom
          have HI : Hid (roomTo ls (k + 1) = r + q ∧ manyTo ls (k + 1) = t + 1) := by
            refine ⟨?_, ?_⟩
            · simp only [roomTo, hxe.out, hI.out.1]; rw [if_pos hm0']; simp only [Int.toNat_natCast]; rw [hq.out]
            · simp only [manyTo, hxe.out, hI.out.2.1]; rw [if_pos hm0']
          clear hbad
          go_wp2
          go_round
          case rel => exact ⟨k + 1, r + q, t + 1, by omega, by go_num, by first | rfl | go_num, by first | rfl | go_num, by omega, by omega, by omega, by omega, HI.out.1, HI.out.2, HJ.out⟩
          case measure => simp [intOf]; omega
        · have hm0' : ¬ (0 : Int) < (m : Int) := by omega
          have HI : Hid (roomTo ls (k + 1) = r ∧ manyTo ls (k + 1) = t) := by
            refine ⟨?_, ?_⟩
            · simp only [roomTo, hxe.out, hI.out.1]; rw [if_neg hm0']; omega
            · simp only [manyTo, hxe.out, hI.out.2.1]; rw [if_neg hm0']; omega
          clear hbad hmany hroom
          go_wp2
          go_round
          case rel => exact ⟨k + 1, r, t, by omega, by go_num, rfl, rfl, by omega, by omega, by omega, by omega, HI.out.1, HI.out.2, HJ.out⟩
          case measure => simp [intOf]; omega
    · obtain rfl : k = ls.length := by omega
      have HR : Hid (R = decide (if t = 1 then r = 1024 else (r = 2048 ∧ y ≠ 0))) := by
        show R = _
        rw [← hR.out]
        unfold mayC
        rw [hI.out.1, hI.out.2.1, hye.out]
        rw [decide_eq_decide]
        exact ⟨fun h => h.2.2, fun h => ⟨h2, hI.out.2.2, h⟩⟩
      by_cases ht : t = 1
      · have hte : (t == 1) = true := by simp [ht]
        have HR2 : Hid (R = (r == 1024)) := by show R = _; have := HR.out; rw [this, Bool.eq_iff_iff]; simp [ht]
        clear ht
        go_wp2
        go_ret
        exact ⟨by rw [HR2.out]; rfl, rfl⟩
      · have hte : (t == 1) = false := by simp [ht]
        by_cases hr : r = 2048
        · have hre : (r == 2048) = true := by simp [hr]
          have HR2 : Hid (R = (y != 0)) := by show R = _; have := HR.out; rw [this, Bool.eq_iff_iff]; simp [ht, hr]
          clear ht hr
          go_wp2
          go_ret
          exact ⟨by rw [HR2.out]; rfl, rfl⟩
        · have hre : (r == 2048) = false := by simp [hr]
          have HR2 : Hid (R = false) := by show R = _; have := HR.out; rw [this]; simp [ht, hr]
          clear ht hr
          go_wp2
          go_ret
          exact ⟨by rw [HR2.out]; rfl, rfl⟩

/-- May lengths be, that can be read? -/
theorem maybe_rd (v : Value) (ls : List Int) (w : World) (h : Rd .i64 w v ls) :
    Calls Try.prog 43 #[v] w fun e w' => e = .returned (.bool (mayC ls)) ∧ w' = w := by
  obtain ⟨a, cap, rfl, _, _, _, h⟩ := h
  by_cases h0 : ls.length = 0
  · have hl : ls = [] := List.eq_nil_of_length_eq_zero h0
    subst hl
    exact maybe_short a cap w
  · by_cases h1 : 256 < ls.length
    · have hf : mayC ls = false := by unfold mayC; exact decide_eq_false (fun h => by have := h.1; omega)
      rw [hf]
      exact maybe_long a _ cap w h1
    · rcases h with rfl | ⟨b, o, rfl, hc⟩
      · simp at h0
      · exact maybe_any b o cap ls w (by omega) (by omega) hc
end Go.Proofs.Ytcmnhgefeffcpaa
