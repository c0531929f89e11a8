/-
  When lengths may be, by the document; and two lists of numbers: the same, or one the other's beginning.
-/
import Derived.Test.YtpdhdlopbmhgfaaRow
import Derived.Test.YtpdhdlopbmhgfaaE64
namespace Go.Proofs.Ytpdhdlopbmhgfaa
open Go.RowKit Pl
set_option linter.unusedVariables false

/-- How many of the first k have a code, and the room that they take. -/
def manyTo (ls : List Int) : Nat → Int
  | 0 => 0
  | k + 1 => manyTo ls k + if 0 < ls.getD k 0 then 1 else 0
def roomTo (ls : List Int) : Nat → Int
  | 0 => 0
  | k + 1 => roomTo ls k + if 0 < ls.getD k 0 then 2 ^ (11 - (ls.getD k 0).toNat) else 0

/-- Lengths may be. -/
def mayB (ls : List Int) : Bool :=
  decide (1 ≤ ls.length ∧ ls.length ≤ 256 ∧ ls.getD (ls.length - 1) 0 ≠ 0 ∧ (∀ i, i < ls.length → 0 ≤ ls.getD i 0 ∧ ls.getD i 0 ≤ 11) ∧
    if manyTo ls ls.length = 1 then ls.getD (ls.length - 1) 0 = 1 else roomTo ls ls.length = 2048)

theorem manyTo_bd (ls : List Int) (k : Nat) : 0 ≤ manyTo ls k ∧ manyTo ls k ≤ k := by
  induction k with
  | zero => simp [manyTo]
  | succ k ih => simp only [manyTo]; split <;> omega
theorem roomTo_bd (ls : List Int) (k : Nat) : 0 ≤ roomTo ls k ∧ roomTo ls k ≤ 2048 * k := by
  induction k with
  | zero => simp [roomTo]
  | succ k ih =>
    simp only [roomTo]
    have h1 : (0 : Int) < 2 ^ (11 - (ls.getD k 0).toNat) := Int.pow_pos (by decide)
    have h2 : (2 : Int) ^ (11 - (ls.getD k 0).toNat) ≤ 2 ^ 11 := two_pow_le (by omega)
    have e : (2 : Int) ^ 11 = 2048 := by decide
    split <;> omega

theorem may_short (a : Option Addr) (cap : Nat) (w : World) :
    Calls Try.prog 13 #[.slice a 0 cap] w fun e w' => e = .returned (.bool false) ∧ w' = w := by
  go_enter Try.func13, Try.ntmps13
  go_wp2
  go_ret
  exact ⟨rfl, rfl⟩

theorem may_long (a : Option Addr) (n cap : Nat) (w : World) (h : 256 < n) :
    Calls Try.prog 13 #[.slice a n cap] w fun e w' => e = .returned (.bool false) ∧ w' = w := by
  have h' : (256 : Int) < (n : Int) := by omega
  go_enter Try.func13, Try.ntmps13
  go_wp2
  go_ret
  exact ⟨rfl, rfl⟩

set_option maxRecDepth 100000 in
set_option maxHeartbeats 1000000 in
theorem may_any (b o cap : Nat) (ls : List Int) (w : World) (h1 : 1 ≤ ls.length) (h2 : ls.length ≤ 256)
    (hc : ∀ i, i < ls.length → w.cell? ⟨b, o + i, none⟩ = some (.int .i64 (ls.getD i 0))) :
    Calls Try.prog 13 #[.slice (some ⟨b, o, none⟩) ls.length cap] w fun e w' => e = .returned (.bool (mayB ls)) ∧ w' = w := by
  have HC : Hid (∀ i, i < ls.length → w.cell? ⟨b, o + i, none⟩ = some (.int .i64 (ls.getD i 0))) := hc
  obtain ⟨y, hye⟩ : ∃ y, Hid (ls.getD (ls.length - 1) 0 = y) := ⟨_, rfl⟩
  have cy : w.cell? ⟨b, o + (ls.length - 1), none⟩ = some (.int .i64 y) := by rw [hc _ (by omega), hye.out]
  clear hc
  obtain ⟨R, hR⟩ : ∃ R, Hid (mayB ls = R) := ⟨_, rfl⟩
  rw [hR.out]
  by_cases hy0 : y = 0
  · have hz : (y == 0) = true := by simp [hy0]
    have HR : Hid (R = false) := by
      show R = false
      rw [← hR.out]
      unfold mayB
      exact decide_eq_false (fun h => h.2.2.1 (by rw [hye.out]; exact hy0))
    clear hy0
    go_enter Try.func13, Try.ntmps13
    go_wp2
    go_ret
    exact ⟨by rw [HR.out]; rfl, rfl⟩
  · have hz : (y == 0) = false := by simp [hy0]
    have HY0 : Hid (¬ y = 0) := hy0
    clear hy0
    go_enter Try.func13, Try.ntmps13
    go_wp2
    go_loop [3, 4, 5] (fun s m i => ∃ (k : Nat) (r t : Int), k ≤ ls.length ∧ i = .int .i64 k ∧ s = .int .i64 r ∧ m = .int .i64 t ∧ 0 ≤ r ∧ r ≤ 524288 ∧ 0 ≤ t ∧ t ≤ 256 ∧ Hid (roomTo ls k = r ∧ manyTo ls k = t ∧ ∀ j, j < k → 0 ≤ ls.getD j 0 ∧ ls.getD j 0 ≤ 11)) (fun _ _ i => ls.length - (intOf i).toNat)
    case atStart => exact ⟨0, 0, 0, Nat.zero_le _, rfl, rfl, rfl, by omega, by omega, by omega, by omega, rfl, rfl, fun j hj => by omega⟩
    case round =>
      obtain ⟨k, r, t, hk, rfl, rfl, rfl, hr0, hr1, ht0, ht1, hI⟩ := hrel
      by_cases hlt : k < ls.length
      · obtain ⟨x, hxe⟩ : ∃ x, Hid (ls.getD k 0 = x) := ⟨_, rfl⟩
        have cx : w.cell? ⟨b, o + k, none⟩ = some (.int .i64 x) := by rw [HC.out k hlt, hxe.out]
        by_cases hbad : x < 0 ∨ 11 < x
        · have HR : Hid (R = false) := by
            show R = false
            rw [← hR.out]
            unfold mayB
            refine decide_eq_false (fun h => ?_)
            have := h.2.2.2.1 k hlt
            rw [hxe.out] at this
            omega
          rcases hbad with hbad | hbad
          all_goals
            go_wp2
            go_ret
            exact ⟨by rw [HR.out]; rfl, rfl⟩
        · obtain ⟨m, hm⟩ := Int.eq_ofNat_of_zero_le (show 0 ≤ x by omega)
          subst hm
          have hm11 : m ≤ 11 := by omega
          have hmany := manyTo_bd ls (k + 1)
          have hroom := roomTo_bd ls (k + 1)
          have HJ : Hid (∀ j, j < k + 1 → 0 ≤ ls.getD j 0 ∧ ls.getD j 0 ≤ 11) := fun j hj => by
            by_cases e : j < k
            · exact hI.out.2.2 j e
            · have : j = k := by omega
              subst this
              rw [hxe.out]; omega
          simp only [manyTo, roomTo, hxe.out, hI.out.1, hI.out.2.1] at hmany hroom
          by_cases hm0 : 0 < m
          · have hm0' : (0 : Int) < (m : Int) := by omega
            rw [if_pos hm0'] at hmany hroom
            simp only [Int.toNat_natCast] at hroom
            obtain ⟨q, hq⟩ : ∃ q : Int, Hid ((2 : Int) ^ (11 - m) = q) := ⟨_, rfl⟩
            have hq1 : 0 < q ∧ q ≤ 2048 := by
              rw [← hq.out]
              have h2 : (2 : Int) ^ (11 - m) ≤ 2 ^ 11 := two_pow_le (by omega)
              have e : (2 : Int) ^ 11 = 2048 := by decide
              exact ⟨Int.pow_pos (by decide), by omega⟩
            have hw : wrap64 (2 ^ (11 - m)) = q := by rw [hq.out]; exact IntWalk.wrap64_in _ ⟨by omega, by omega⟩
            rw [hq.out] at hroom
            have HI : Hid (roomTo ls (k + 1) = r + q ∧ manyTo ls (k + 1) = t + 1) := by
              refine ⟨?_, ?_⟩
              · simp only [roomTo, hxe.out, hI.out.1]; rw [if_pos hm0']; simp only [Int.toNat_natCast]; rw [hq.out]
              · simp only [manyTo, hxe.out, hI.out.2.1]; rw [if_pos hm0']
            clear hbad
            go_wp2
            go_round
            case rel => exact ⟨k + 1, r + q, t + 1, by omega, by go_num, by first | rfl | go_num, by first | rfl | go_num, by omega, by omega, by omega, by omega, HI.out.1, HI.out.2, HJ.out⟩
            case measure => simp [intOf]; omega
          · have hm0' : ¬ (0 : Int) < (m : Int) := by omega
            have HI : Hid (roomTo ls (k + 1) = r ∧ manyTo ls (k + 1) = t) := by
              refine ⟨?_, ?_⟩
              · simp only [roomTo, hxe.out, hI.out.1]; rw [if_neg hm0']; omega
              · simp only [manyTo, hxe.out, hI.out.2.1]; rw [if_neg hm0']; omega
            clear hbad hmany hroom
            go_wp2
            go_round
            case rel => exact ⟨k + 1, r, t, by omega, by go_num, rfl, rfl, by omega, by omega, by omega, by omega, HI.out.1, HI.out.2, HJ.out⟩
            case measure => simp [intOf]; omega
      · obtain rfl : k = ls.length := by omega
        have HR : Hid (R = decide (if t = 1 then y = 1 else r = 2048)) := by
          show R = _
          rw [← hR.out]
          unfold mayB
          rw [hI.out.1, hI.out.2.1, hye.out]
          rw [decide_eq_decide]
          exact ⟨fun h => h.2.2.2.2, fun h => ⟨h1, h2, HY0.out, hI.out.2.2, h⟩⟩
        by_cases ht : t = 1
        · have hte : (t == 1) = true := by simp [ht]
          have HR2 : Hid (R = (y == 1)) := by show R = _; have := HR.out; rw [this, Bool.eq_iff_iff]; simp [ht]
          clear ht
          go_wp2
          go_ret
          exact ⟨by rw [HR2.out]; rfl, rfl⟩
        · have hte : (t == 1) = false := by simp [ht]
          have HR2 : Hid (R = (r == 2048)) := by show R = _; have := HR.out; rw [this, Bool.eq_iff_iff]; simp [ht]
          clear ht
          go_wp2
          go_ret
          exact ⟨by rw [HR2.out]; rfl, rfl⟩

/-- May lengths be, that can be read? -/
theorem may_rd (v : Value) (ls : List Int) (w : World) (h : Rd .i64 w v ls) :
    Calls Try.prog 13 #[v] w fun e w' => e = .returned (.bool (mayB ls)) ∧ w' = w := by
  obtain ⟨a, cap, rfl, _, _, _, h⟩ := h
  by_cases h0 : ls.length = 0
  · have hf : mayB ls = false := by unfold mayB; exact decide_eq_false (fun h => by have := h.1; omega)
    rw [hf, h0]
    exact may_short a cap w
  · by_cases h1 : 256 < ls.length
    · have hf : mayB ls = false := by unfold mayB; exact decide_eq_false (fun h => by have := h.2.1; omega)
      rw [hf]
      exact may_long a _ cap w h1
    · rcases h with rfl | ⟨b, o, rfl, hc⟩
      · simp at h0
      · exact may_any b o cap ls w (by omega) (by omega) hc
end Go.Proofs.Ytpdhdlopbmhgfaa
