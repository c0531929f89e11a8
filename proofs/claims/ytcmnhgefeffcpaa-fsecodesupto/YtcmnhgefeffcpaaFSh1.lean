/-
  The small steps of shares: what numbers are together, the first greatest, whether counts may be shared.
-/
import Derived.Test.YtcmnhgefeffcpaaFMay
namespace Go.Proofs.Ytcmnhgefeffcpaa
open Go.RowKit Pl
set_option linter.unusedVariables false

theorem cumI_bd {xs : List Int} {M : Int} (hM : 0 ≤ M) (h : ∀ i, i < xs.length → 0 ≤ xs.getD i 0 ∧ xs.getD i 0 ≤ M) : ∀ k, k ≤ xs.length → 0 ≤ cumI xs k ∧ cumI xs k ≤ M * k
  | 0, _ => by simp [cumI]
  | k + 1, hk => by
    have h1 := cumI_bd hM h k (by omega)
    have h2 := h k (by omega)
    simp only [cumI]
    have e : M * ((k + 1 : Nat) : Int) = M * k + M := by push_cast; rw [Int.mul_add, Int.mul_one]
    rw [e]
    omega

theorem sumOf_none (a : Option Addr) (cap : Nat) (w : World) : Calls Try.prog 72 #[.slice a 0 cap] w fun e w' => e = .returned (.int .i64 0) ∧ w' = w := by
  go_enter Try.func72, Try.ntmps72
  go_wp2
  go_loop [3, 8] (fun t i => t = .int .i64 0 ∧ i = .int .i64 0) (fun _ _ => 0)
  case atStart => exact ⟨rfl, rfl⟩
  case round =>
    obtain ⟨rfl, rfl⟩ := hrel
    go_wp2
    go_ret
    exact ⟨rfl, rfl⟩

set_option maxHeartbeats 1000000 in
theorem sumOf_any (b o cap : Nat) (xs : List Int) (w : World) (h1 : xs.length ≤ 64) (hb : ∀ i, i < xs.length → 0 ≤ xs.getD i 0 ∧ xs.getD i 0 ≤ 4294967295)
    (hc : ∀ i, i < xs.length → w.cell? ⟨b, o + i, none⟩ = some (.int .i64 (xs.getD i 0))) :
    Calls Try.prog 72 #[.slice (some ⟨b, o, none⟩) xs.length cap] w fun e w' => e = .returned (.int .i64 (cumI xs xs.length)) ∧ w' = w := by
  have HC : Hid (∀ i, i < xs.length → w.cell? ⟨b, o + i, none⟩ = some (.int .i64 (xs.getD i 0))) := hc
  have HB : Hid (∀ i, i < xs.length → 0 ≤ xs.getD i 0 ∧ xs.getD i 0 ≤ 4294967295) := hb
  clear hc hb
  obtain ⟨R, hR⟩ : ∃ R, Hid (cumI xs xs.length = R) := ⟨_, rfl⟩
  rw [hR.out]
  go_enter Try.func72, Try.ntmps72
  go_wp2
  go_loop [3, 8] (fun t i => ∃ (k : Nat) (r : Int), k ≤ xs.length ∧ i = .int .i64 k ∧ t = .int .i64 r ∧ 0 ≤ r ∧ r ≤ 274877906880 ∧ Hid (cumI xs k = r)) (fun _ i => xs.length - (intOf i).toNat)
  case atStart => exact ⟨0, 0, Nat.zero_le _, rfl, rfl, by omega, by omega, rfl⟩
  case round =>
    obtain ⟨k, r, hk, rfl, rfl, hr0, hr1, hI⟩ := hrel
    by_cases hlt : k < xs.length
    · obtain ⟨x, hxe⟩ : ∃ x, Hid (xs.getD k 0 = x) := ⟨_, rfl⟩
      have cx : w.cell? ⟨b, o + k, none⟩ = some (.int .i64 x) := by rw [HC.out k hlt, hxe.out]
      have hx := HB.out k hlt
      rw [hxe.out] at hx
      have HI : Hid (cumI xs (k + 1) = r + x) := by show _ = _; simp only [cumI]; rw [hI.out, hxe.out]
      have hrx : 0 ≤ r + x ∧ r + x ≤ 274877906880 := by
        have := cumI_bd (M := 4294967295) (by omega) HB.out (k + 1) (by omega)
        rw [HI.out] at this
        omega
      go_wp2
      go_round
      case rel => exact ⟨k + 1, r + x, by omega, by go_num, by first | rfl | go_num, hrx.1, hrx.2, HI⟩
      case measure => simp [intOf]; omega
    · obtain rfl : k = xs.length := by omega
      have HE : Hid (r = R) := by show r = R; rw [← hI.out, hR.out]
      go_wp2
      go_ret
      exact ⟨by rw [HE.out]; rfl, rfl⟩

theorem sumOf_rd (v : Value) (xs : List Int) (w : World) (h1 : xs.length ≤ 64) (hb : ∀ i, i < xs.length → 0 ≤ xs.getD i 0 ∧ xs.getD i 0 ≤ 4294967295) (h : Rd .i64 w v xs) :
    Calls Try.prog 72 #[v] w fun e w' => e = .returned (.int .i64 (cumI xs xs.length)) ∧ w' = w := by
  obtain ⟨a, cap, rfl, _, _, _, h⟩ := h
  rcases h with rfl | ⟨b, o, rfl, hc⟩
  · exact sumOf_none a cap w
  · exact sumOf_any b o cap xs w h1 hb hc

/-- The first greatest of the first k. -/
def fgF (xs : List Int) : Nat → Nat
  | 0 => 0
  | k + 1 => if xs.getD (fgF xs k) 0 < xs.getD k 0 then k else fgF xs k

theorem fg_lt (xs : List Int) : ∀ k, 0 < k → fgF xs k < k
  | 0, h => by omega
  | k + 1, _ => by
    simp only [fgF]
    split
    · omega
    · by_cases e : 0 < k
      · have := fg_lt xs k e; omega
      · obtain rfl : k = 0 := by omega
        simp [fgF]

theorem fg_le (xs : List Int) : ∀ k i, i < k → xs.getD i 0 ≤ xs.getD (fgF xs k) 0
  | 0, i, h => by omega
  | k + 1, i, h => by
    simp only [fgF]
    by_cases e : i = k
    · subst e
      split
      · omega
      · omega
    · have := fg_le xs k i (by omega)
      split
      · omega
      · omega

set_option maxHeartbeats 1000000 in
theorem greatest_any (b o cap : Nat) (xs : List Int) (w : World) (h0 : 0 < xs.length) (h1 : xs.length ≤ 64)
    (hc : ∀ i, i < xs.length → w.cell? ⟨b, o + i, none⟩ = some (.int .i64 (xs.getD i 0))) :
    Calls Try.prog 73 #[.slice (some ⟨b, o, none⟩) xs.length cap] w fun e w' => e = .returned (.int .i64 (fgF xs xs.length)) ∧ w' = w := by
  have HC : Hid (∀ i, i < xs.length → w.cell? ⟨b, o + i, none⟩ = some (.int .i64 (xs.getD i 0))) := hc
  clear hc
  obtain ⟨R, hR⟩ : ∃ R, Hid (fgF xs xs.length = R) := ⟨_, rfl⟩
  rw [hR.out]
  go_enter Try.func73, Try.ntmps73
  go_wp2
  go_loop [3, 8] (fun t i => ∃ k f : Nat, k ≤ xs.length ∧ i = .int .i64 k ∧ t = .int .i64 f ∧ f < xs.length ∧ Hid (fgF xs k = f)) (fun _ i => xs.length - (intOf i).toNat)
  case atStart => exact ⟨0, 0, Nat.zero_le _, rfl, rfl, h0, rfl⟩
  case round =>
    obtain ⟨k, f, hk, rfl, rfl, hf, hI⟩ := hrel
    by_cases hlt : k < xs.length
    · obtain ⟨x, hxe⟩ : ∃ x, Hid (xs.getD k 0 = x) := ⟨_, rfl⟩
      obtain ⟨y, hye⟩ : ∃ y, Hid (xs.getD f 0 = y) := ⟨_, rfl⟩
      have cx : w.cell? ⟨b, o + k, none⟩ = some (.int .i64 x) := by rw [HC.out k hlt, hxe.out]
      have cy : w.cell? ⟨b, o + f, none⟩ = some (.int .i64 y) := by rw [HC.out f hf, hye.out]
      by_cases hxy : y < x
      · have HI : Hid (fgF xs (k + 1) = k) := by show _ = _; simp only [fgF]; rw [hI.out, hxe.out, hye.out, if_pos hxy]
        go_wp2
        go_round
        case rel => exact ⟨k + 1, k, by omega, by go_num, rfl, hlt, HI⟩
        case measure => simp [intOf]; omega
      · have HI : Hid (fgF xs (k + 1) = f) := by show _ = _; simp only [fgF]; rw [hI.out, hxe.out, hye.out, if_neg hxy]
        go_wp2
        go_round
        case rel => exact ⟨k + 1, f, by omega, by go_num, rfl, hf, HI⟩
        case measure => simp [intOf]; omega
    · obtain rfl : k = xs.length := by omega
      have HE : Hid (f = R) := by show f = R; rw [← hI.out, hR.out]
      go_wp2
      go_ret
      exact ⟨by rw [HE.out]; rfl, rfl⟩

/-- How many of the first k stand. -/
def std (xs : List Int) : Nat → Nat
  | 0 => 0
  | k + 1 => std xs k + if 0 < xs.getD k 0 then 1 else 0

theorem std_le (xs : List Int) (k : Nat) : std xs k ≤ k := by
  induction k with
  | zero => simp [std]
  | succ k ih => simp only [std]; split <;> omega

/-- Counts may be shared. -/
def mayCF (xs : List Int) (log : Int) : Bool :=
  decide (5 ≤ log ∧ log ≤ 9 ∧ xs.length ≤ 64 ∧ (∀ i, i < xs.length → 0 ≤ xs.getD i 0 ∧ xs.getD i 0 ≤ 4294967295) ∧ 0 < std xs xs.length ∧ 2 * std xs xs.length ≤ 2 ^ log.toNat)

theorem mayShare_bad (a : Option Addr) (n cap : Nat) (log : Int) (w : World) (h : decide (5 ≤ log ∧ log ≤ 9) = false) :
    Calls Try.prog 62 #[.slice a n cap, .int .i64 log] w fun e w' => e = .returned (.bool false) ∧ w' = w := by
  have H : Hid (decide (5 ≤ log ∧ log ≤ 9) = false) := h
  clear h
  go_enter Try.func62, Try.ntmps62
  go_wp2_with fail
  refine (mayLog_any log w).mono ?_
  rintro e w1 ⟨rfl, rfl⟩
  rw [H.out]
  go_wp2
  go_ret
  exact ⟨rfl, rfl⟩

theorem mayShare_long (a : Option Addr) (n cap : Nat) (log : Int) (w : World) (h : decide (5 ≤ log ∧ log ≤ 9) = true) (hn : 64 < n) :
    Calls Try.prog 62 #[.slice a n cap, .int .i64 log] w fun e w' => e = .returned (.bool false) ∧ w' = w := by
  have H : Hid (decide (5 ≤ log ∧ log ≤ 9) = true) := h
  have hn' : (64 : Int) < (n : Int) := by omega
  clear h
  go_enter Try.func62, Try.ntmps62
  go_wp2_with fail
  refine (mayLog_any log w).mono ?_
  rintro e w1 ⟨rfl, rfl⟩
  rw [H.out]
  go_wp2
  go_ret
  exact ⟨rfl, rfl⟩

theorem mayShare_none (a : Option Addr) (cap : Nat) (log : Int) (w : World) (h : decide (5 ≤ log ∧ log ≤ 9) = true) :
    Calls Try.prog 62 #[.slice a 0 cap, .int .i64 log] w fun e w' => e = .returned (.bool false) ∧ w' = w := by
  have H : Hid (decide (5 ≤ log ∧ log ≤ 9) = true) := h
  clear h
  go_enter Try.func62, Try.ntmps62
  go_wp2_with fail
  refine (mayLog_any log w).mono ?_
  rintro e w1 ⟨rfl, rfl⟩
  rw [H.out]
  go_wp2
  go_loop [5, 18] (fun t i => t = .int .i64 0 ∧ i = .int .i64 0) (fun _ _ => 0)
  case atStart => exact ⟨rfl, rfl⟩
  case round =>
    obtain ⟨rfl, rfl⟩ := hrel
    go_wp2
    go_ret
    exact ⟨rfl, rfl⟩

set_option maxRecDepth 100000 in
set_option maxHeartbeats 1000000 in
theorem mayShare_any (b o cap : Nat) (s : List Int) (lg : Nat) (w : World) (h5 : 5 ≤ lg) (h9 : lg ≤ 9) (h2 : s.length ≤ 64)
    (hc : ∀ i, i < s.length → w.cell? ⟨b, o + i, none⟩ = some (.int .i64 (s.getD i 0))) :
    Calls Try.prog 62 #[.slice (some ⟨b, o, none⟩) s.length cap, .int .i64 lg] w fun e w' => e = .returned (.bool (mayCF s lg)) ∧ w' = w := by
  have HC : Hid (∀ i, i < s.length → w.cell? ⟨b, o + i, none⟩ = some (.int .i64 (s.getD i 0))) := hc
  obtain ⟨R, hR⟩ : ∃ R, Hid (mayCF s lg = R) := ⟨_, rfl⟩
  have H : Hid (decide (5 ≤ (lg : Int) ∧ (lg : Int) ≤ 9) = true) := by show _ = _; rw [decide_eq_true_eq]; omega
  obtain ⟨z, hz, hz1, hz2, hw, hpz⟩ := pow_z h5 h9
  rw [hR.out]
  clear hc hpz
  go_enter Try.func62, Try.ntmps62
  go_wp2_with fail
  refine (mayLog_any lg w).mono ?_
  rintro e w1 ⟨rfl, rfl⟩
  rw [H.out]
  go_wp2
  go_loop [5, 18] (fun t i => ∃ k r : Nat, k ≤ s.length ∧ i = .int .i64 k ∧ t = .int .i64 r ∧ r ≤ 64 ∧ Hid (std s k = r ∧ ∀ j, j < k → 0 ≤ s.getD j 0 ∧ s.getD j 0 ≤ 4294967295)) (fun _ i => s.length - (intOf i).toNat)
  case atStart => exact ⟨0, 0, Nat.zero_le _, rfl, rfl, by omega, rfl, fun j hj => by omega⟩
  case round =>
    obtain ⟨k, r, hk, rfl, rfl, hr1, hI⟩ := hrel
    by_cases hlt : k < s.length
    · obtain ⟨x, hxe⟩ : ∃ x, Hid (s.getD k 0 = x) := ⟨_, rfl⟩
      have cx : w1.cell? ⟨b, o + k, none⟩ = some (.int .i64 x) := by rw [HC.out k hlt, hxe.out]
      by_cases hbad : x < 0 ∨ 4294967295 < x
      · have HR : Hid (R = false) := by
          show R = false
          rw [← hR.out]
          unfold mayCF
          refine decide_eq_false (fun h => ?_)
          have h4 := h.2.2.2.1 k hlt
          rw [hxe.out] at h4
          omega
        rcases hbad with hbad | hbad
        · go_wp2
          go_ret
          exact ⟨by rw [HR.out]; rfl, rfl⟩
        · go_wp2
          go_ret
          exact ⟨by rw [HR.out]; rfl, rfl⟩
      · have hg1 : decide (x < 0) = false := by rw [decide_eq_false_iff_not]; omega
        have hg2 : decide ((4294967295 : Int) < x) = false := by rw [decide_eq_false_iff_not]; omega
        have hx0 : 0 ≤ x := by omega
        have HJ : Hid (∀ j, j < k + 1 → 0 ≤ s.getD j 0 ∧ s.getD j 0 ≤ 4294967295) := fun j hj => by
          by_cases e : j < k
          · exact hI.out.2 j e
          · have : j = k := by omega
            subst this
            rw [hxe.out]; omega
        clear hbad
        by_cases hp : 0 < x
        · have HI : Hid (std s (k + 1) = r + 1 ∧ ∀ j, j < k + 1 → 0 ≤ s.getD j 0 ∧ s.getD j 0 ≤ 4294967295) := ⟨by simp only [std]; rw [hI.out.1, hxe.out, if_pos hp], HJ.out⟩
          have hr2 : r + 1 ≤ 64 := by have := std_le s (k + 1); rw [HI.out.1] at this; omega
          go_wp2
          go_round
          case rel => exact ⟨k + 1, r + 1, by omega, by go_num, by go_num, hr2, HI⟩
          case measure => simp [intOf]; omega
        · have HI : Hid (std s (k + 1) = r ∧ ∀ j, j < k + 1 → 0 ≤ s.getD j 0 ∧ s.getD j 0 ≤ 4294967295) := ⟨by simp only [std]; rw [hI.out.1, hxe.out, if_neg hp]; rfl, HJ.out⟩
          go_wp2
          go_round
          case rel => exact ⟨k + 1, r, by omega, by go_num, rfl, hr1, HI⟩
          case measure => simp [intOf]; omega
    · obtain rfl : k = s.length := by omega
      have HR : Hid (R = decide (0 < r ∧ 2 * r ≤ z)) := by
        show R = _
        rw [← hR.out]
        unfold mayCF
        rw [hI.out.1, decide_eq_decide, Int.toNat_natCast, hz.out]
        exact ⟨fun h => h.2.2.2.2, fun h => ⟨by omega, by omega, h2, hI.out.2, h⟩⟩
      by_cases hr : 0 < r
      · have hre : decide ((0 : Int) < (r : Int)) = true := by rw [decide_eq_true_eq]; omega
        by_cases hr2 : 2 * r ≤ z
        · have HR2 : Hid (R = true) := by show R = _; have := HR.out; rw [this, decide_eq_true_eq]; exact ⟨hr, hr2⟩
          have hle : (r : Int) ≤ (z : Int) / 2 := by omega
          go_wp2
          go_ret
          exact ⟨by rw [HR2.out]; rfl, rfl⟩
        · have HR2 : Hid (R = false) := by show R = _; have := HR.out; rw [this, decide_eq_false_iff_not]; omega
          have hle : (z : Int) / 2 < (r : Int) := by omega
          have hle2 : decide ((r : Int) ≤ (z : Int) / 2) = false := by rw [decide_eq_false_iff_not]; omega
          go_wp2
          go_ret
          exact ⟨by rw [HR2.out]; rfl, rfl⟩
      · have HR2 : Hid (R = false) := by show R = _; have := HR.out; rw [this, decide_eq_false_iff_not]; omega
        have hre : decide ((0 : Int) < (r : Int)) = false := by rw [decide_eq_false_iff_not]; omega
        obtain rfl : r = 0 := by omega
        go_wp2
        go_ret
        exact ⟨by rw [HR2.out]; rfl, rfl⟩

theorem mayShare_rd (v : Value) (s : List Int) (log : Int) (w : World) (h : Rd .i64 w v s) :
    Calls Try.prog 62 #[v, .int .i64 log] w fun e w' => e = .returned (.bool (mayCF s log)) ∧ w' = w := by
  obtain ⟨a, cap, rfl, _, _, _, h⟩ := h
  cases hd : decide (5 ≤ log ∧ log ≤ 9) with
  | false =>
    have hf : mayCF s log = false := by
      rw [decide_eq_false_iff_not] at hd
      unfold mayCF
      exact decide_eq_false (fun h => hd ⟨h.1, h.2.1⟩)
    rw [hf]
    exact mayShare_bad a _ cap log w hd
  | true =>
    by_cases h1 : 64 < s.length
    · have hf : mayCF s log = false := by unfold mayCF; exact decide_eq_false (fun h => by have := h.2.2.1; omega)
      rw [hf]
      exact mayShare_long a _ cap log w hd h1
    · rcases h with rfl | ⟨b, o, rfl, hc⟩
      · have hf : mayCF [] log = false := by unfold mayCF; exact decide_eq_false (fun h => by have := h.2.2.2.2.1; simp [std] at this)
        rw [hf]
        exact mayShare_none a cap log w hd
      · rw [decide_eq_true_eq] at hd
        obtain ⟨lg, rfl⟩ := Int.eq_ofNat_of_zero_le (show 0 ≤ log by omega)
        exact mayShare_any b o cap s lg w (by omega) (by omega) (by omega) hc
end Go.Proofs.Ytcmnhgefeffcpaa
