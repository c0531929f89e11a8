/-
  When a share may be: the program's word.
-/
import Derived.Test.YtcmnhgefeffcpaaFPl
import Derived.Test.YtcmnhgefeffcpaaE64
import Derived.Test.YtcmnhgefeffcpaaRdN
namespace Go.Proofs.Ytcmnhgefeffcpaa
open Go.RowKit Pl
set_option linter.unusedVariables false

def nn (s : List Int) (k : Nat) : Nat := (s.getD k 0).toNat
def cumI (s : List Int) : Nat → Int
  | 0 => 0
  | k + 1 => cumI s k + s.getD k 0

/-- A share may be. -/
def mayS (s : List Int) (log : Int) : Bool :=
  decide (5 ≤ log ∧ log ≤ 9 ∧ s.length ≤ 64 ∧ (∀ i, i < s.length → 0 ≤ s.getD i 0) ∧ cumI s s.length = 2 ^ log.toNat ∧ s.getD (s.length - 1) 0 ≠ 0)

theorem cumI_cu {s : List Int} {k : Nat} (h : ∀ i, i < k → 0 ≤ s.getD i 0) : cumI s k = (cu (nn s) k : Int) := by
  induction k with
  | zero => rfl
  | succ k ih =>
    have h0 := h k (by omega)
    simp only [cumI, cu, ih (fun i hi => h i (by omega)), nn]
    omega

theorem cumI_le {s : List Int} {k i : Nat} (h : ∀ i, i < k → 0 ≤ s.getD i 0) (hi : i < k) : s.getD i 0 ≤ cumI s k := by
  rw [cumI_cu h]
  have := cu_mono (nn s) (show i + 1 ≤ k from hi)
  simp only [cu, nn] at this
  have h0 := h i hi
  omega

/-- What is known of a share that may be. -/
structure Sok (s : List Int) (lg : Nat) : Prop where
  lo : 5 ≤ lg
  hi : lg ≤ 9
  len : s.length ≤ 64
  each : ∀ i, i < s.length → 0 ≤ s.getD i 0
  fok : Fok (nn s) s.length (2 ^ lg)
  last : s.getD (s.length - 1) 0 ≠ 0

theorem Sok.of {s : List Int} {log : Int} (h : mayS s log = true) : ∃ lg : Nat, log = (lg : Int) ∧ Sok s lg := by
  unfold mayS at h
  rw [decide_eq_true_eq] at h
  obtain ⟨h1, h2, h3, h4, h5, h6⟩ := h
  obtain ⟨lg, rfl⟩ := Int.eq_ofNat_of_zero_le (show 0 ≤ log by omega)
  refine ⟨lg, rfl, by omega, by omega, h3, h4, ⟨zok_of (by omega) (by omega), ?_⟩, h6⟩
  rw [cumI_cu h4] at h5
  simp only [Int.toNat_natCast] at h5
  have e : ((2 : Int) ^ lg) = ((2 ^ lg : Nat) : Int) := by push_cast; rfl
  rw [e] at h5
  exact_mod_cast h5

theorem Sok.le {s : List Int} {lg : Nat} (h : Sok s lg) (k : Nat) : s.getD k 0 = (nn s k : Int) ∧ nn s k ≤ 2 ^ lg := by
  by_cases hk : k < s.length
  · have h0 := h.each k hk
    have h1 := cu_mono (nn s) (show k + 1 ≤ s.length from hk)
    have h2 := h.fok.sum
    simp only [cu] at h1
    refine ⟨by unfold nn; omega, by omega⟩
  · have e : s.getD k 0 = 0 := by simp [List.getD_eq_getElem?_getD, List.getElem?_eq_none (by omega : s.length ≤ k)]
    unfold nn
    rw [e]
    simp

theorem Sok.z {s : List Int} {lg : Nat} (h : Sok s lg) : 32 ≤ 2 ^ lg ∧ 2 ^ lg ≤ 512 := h.fok.zok.pos

theorem Sok.pos {s : List Int} {lg : Nat} (h : Sok s lg) : 0 < s.length := by
  have := h.last
  cases s with
  | nil => simp at this
  | cons x r => simp

theorem mayLog_any (log : Int) (w : World) :
    Calls Try.prog 52 #[.int .i64 log] w fun e w' => e = .returned (.bool (decide (5 ≤ log ∧ log ≤ 9))) ∧ w' = w := by
  by_cases h1 : 5 ≤ log
  · by_cases h2 : log ≤ 9
    · have e : decide (5 ≤ log ∧ log ≤ 9) = true := by simp [h1, h2]
      rw [e]; clear e
      go_enter Try.func52, Try.ntmps52
      go_wp2
      go_ret
      exact ⟨rfl, rfl⟩
    · have e : decide (5 ≤ log ∧ log ≤ 9) = false := by simp [h2]
      rw [e]; clear e
      have h3 : decide (log ≤ 9) = false := by simp [h2]
      go_enter Try.func52, Try.ntmps52
      go_wp2
      go_ret
      exact ⟨rfl, rfl⟩
  · have e : decide (5 ≤ log ∧ log ≤ 9) = false := by simp [h1]
    rw [e]; clear e
    have h3 : decide (5 ≤ log) = false := by simp [h1]
    go_enter Try.func52, Try.ntmps52
    go_wp2
    go_ret
    exact ⟨rfl, rfl⟩

theorem maybe_bad (a : Option Addr) (n cap : Nat) (log : Int) (w : World) (h : decide (5 ≤ log ∧ log ≤ 9) = false) :
    Calls Try.prog 20 #[.slice a n cap, .int .i64 log] w fun e w' => e = .returned (.bool false) ∧ w' = w := by
  have H : Hid (decide (5 ≤ log ∧ log ≤ 9) = false) := h
  clear h
  go_enter Try.func20, Try.ntmps20
  go_wp2_with fail
  refine (mayLog_any log w).mono ?_
  rintro e w1 ⟨rfl, rfl⟩
  rw [H.out]
  go_wp2
  go_ret
  exact ⟨rfl, rfl⟩

theorem maybe_longF (a : Option Addr) (n cap : Nat) (log : Int) (w : World) (h : decide (5 ≤ log ∧ log ≤ 9) = true) (hn : 64 < n) :
    Calls Try.prog 20 #[.slice a n cap, .int .i64 log] w fun e w' => e = .returned (.bool false) ∧ w' = w := by
  have H : Hid (decide (5 ≤ log ∧ log ≤ 9) = true) := h
  have hn' : (64 : Int) < (n : Int) := by omega
  clear h
  go_enter Try.func20, Try.ntmps20
  go_wp2_with fail
  refine (mayLog_any log w).mono ?_
  rintro e w1 ⟨rfl, rfl⟩
  rw [H.out]
  go_wp2
  go_ret
  exact ⟨rfl, rfl⟩

theorem pow_z {lg : Nat} (h5 : 5 ≤ lg) (h9 : lg ≤ 9) : ∃ z : Nat, Hid (2 ^ lg = z) ∧ 32 ≤ z ∧ z ≤ 512 ∧ wrap64 (2 ^ lg) = (z : Int) ∧ (2 : Int) ^ lg = (z : Int) := by
  have := (zok_of h5 h9).pos
  have e : ((2 : Int) ^ lg) = ((2 ^ lg : Nat) : Int) := by push_cast; rfl
  refine ⟨2 ^ lg, rfl, this.1, this.2, ?_, e⟩
  rw [e]
  exact IntWalk.wrap64_in _ ⟨by omega, by omega⟩

theorem maybe_shortF (a : Option Addr) (cap : Nat) (log : Int) (w : World) (h : decide (5 ≤ log ∧ log ≤ 9) = true) :
    Calls Try.prog 20 #[.slice a 0 cap, .int .i64 log] w fun e w' => e = .returned (.bool false) ∧ w' = w := by
  have H : Hid (decide (5 ≤ log ∧ log ≤ 9) = true) := h
  rw [decide_eq_true_eq] at h
  obtain ⟨lg, rfl⟩ := Int.eq_ofNat_of_zero_le (show 0 ≤ log by omega)
  obtain ⟨z, hz, hz1, hz2, hw, hpz⟩ := pow_z (lg := lg) (by omega) (by omega)
  have hze : ((0 : Int) == (z : Int)) = false := by rw [beq_eq_false_iff_ne]; omega
  have hlg : lg ≤ 9 := by omega
  clear h hpz
  go_enter Try.func20, Try.ntmps20
  go_wp2_with fail
  refine (mayLog_any lg w).mono ?_
  rintro e w1 ⟨rfl, rfl⟩
  rw [H.out]
  go_wp2
  go_loop [6, 21] (fun s i => s = .int .i64 0 ∧ i = .int .i64 0) (fun _ _ => 0)
  case atStart => exact ⟨rfl, rfl⟩
  case round =>
    obtain ⟨rfl, rfl⟩ := hrel
    go_wp2
    go_ret
    exact ⟨rfl, rfl⟩

set_option maxRecDepth 100000 in
set_option maxHeartbeats 1000000 in
theorem maybe_anyF (b o cap : Nat) (s : List Int) (lg : Nat) (w : World) (h5 : 5 ≤ lg) (h9 : lg ≤ 9) (h1 : 1 ≤ s.length) (h2 : s.length ≤ 64)
    (hc : ∀ i, i < s.length → w.cell? ⟨b, o + i, none⟩ = some (.int .i64 (s.getD i 0))) :
    Calls Try.prog 20 #[.slice (some ⟨b, o, none⟩) s.length cap, .int .i64 lg] w fun e w' => e = .returned (.bool (mayS s lg)) ∧ w' = w := by
  have HC : Hid (∀ i, i < s.length → w.cell? ⟨b, o + i, none⟩ = some (.int .i64 (s.getD i 0))) := hc
  obtain ⟨y, hye⟩ : ∃ y, Hid (s.getD (s.length - 1) 0 = y) := ⟨_, rfl⟩
  have cy : w.cell? ⟨b, o + (s.length - 1), none⟩ = some (.int .i64 y) := by rw [hc _ (by omega), hye.out]
  obtain ⟨R, hR⟩ : ∃ R, Hid (mayS s lg = R) := ⟨_, rfl⟩
  have H : Hid (decide (5 ≤ (lg : Int) ∧ (lg : Int) ≤ 9) = true) := by show _ = _; rw [decide_eq_true_eq]; omega
  obtain ⟨z, hz, hz1, hz2, hw, hpz⟩ := pow_z h5 h9
  have HPZ : Hid ((2 : Int) ^ lg = (z : Int)) := hpz
  rw [hR.out]
  clear hc hpz
  go_enter Try.func20, Try.ntmps20
  go_wp2_with fail
  refine (mayLog_any lg w).mono ?_
  rintro e w1 ⟨rfl, rfl⟩
  rw [H.out]
  go_wp2
  go_loop [6, 21] (fun t i => ∃ (k : Nat) (r : Int), k ≤ s.length ∧ i = .int .i64 k ∧ t = .int .i64 r ∧ 0 ≤ r ∧ r ≤ 32768 ∧ Hid (cumI s k = r ∧ r ≤ 512 * k ∧ ∀ j, j < k → 0 ≤ s.getD j 0)) (fun _ i => s.length - (intOf i).toNat)
  case atStart => exact ⟨0, 0, Nat.zero_le _, rfl, rfl, by omega, by omega, rfl, by omega, fun j hj => by omega⟩
  case round =>
    obtain ⟨k, r, hk, rfl, rfl, hr0, hr1, hI⟩ := hrel
    by_cases hlt : k < s.length
    · obtain ⟨x, hxe⟩ : ∃ x, Hid (s.getD k 0 = x) := ⟨_, rfl⟩
      have cx : w1.cell? ⟨b, o + k, none⟩ = some (.int .i64 x) := by rw [HC.out k hlt, hxe.out]
      by_cases hbad : x < 0 ∨ (z : Int) < x
      · have HR : Hid (R = false) := by
          show R = false
          rw [← hR.out]
          unfold mayS
          refine decide_eq_false (fun h => ?_)
          have h4 := h.2.2.2.1
          have h6 := cumI_le h4 hlt
          have h7 := h4 k hlt
          rw [h.2.2.2.2.1, Int.toNat_natCast, HPZ.out] at h6
          rw [hxe.out] at h6 h7
          omega
        rcases hbad with hbad | hbad
        · go_wp2
          go_ret
          exact ⟨by rw [HR.out]; rfl, rfl⟩
        · go_wp2
          go_ret
          exact ⟨by rw [HR.out]; rfl, rfl⟩
      · have hx0 : 0 ≤ x := by omega
        have hx1 : x ≤ (z : Int) := by omega
        have HI : Hid (cumI s (k + 1) = r + x ∧ r + x ≤ 512 * ((k + 1 : Nat) : Int) ∧ ∀ j, j < k + 1 → 0 ≤ s.getD j 0) := by
          refine ⟨by simp only [cumI]; rw [hI.out.1, hxe.out], by have := hI.out.2.1; omega, fun j hj => ?_⟩
          by_cases e : j < k
          · exact hI.out.2.2 j e
          · have : j = k := by omega
            subst this
            rw [hxe.out]; exact hx0
        have hg1 : decide (x < 0) = false := by rw [decide_eq_false_iff_not]; omega
        have hg2 : decide ((z : Int) < x) = false := by rw [decide_eq_false_iff_not]; omega
        have hrx : r + x ≤ 32768 := by have := HI.out.2.1; omega
        clear hbad
        go_wp2
        go_round
        case rel => exact ⟨k + 1, r + x, by omega, by go_num, by first | rfl | go_num, by omega, hrx, HI⟩
        case measure => simp [intOf]; omega
    · obtain rfl : k = s.length := by omega
      have HR : Hid (R = decide (r = (z : Int) ∧ y ≠ 0)) := by
        show R = _
        rw [← hR.out]
        unfold mayS
        rw [hI.out.1, hye.out, decide_eq_decide, Int.toNat_natCast, HPZ.out]
        exact ⟨fun h => h.2.2.2.2, fun h => ⟨by omega, by omega, h2, hI.out.2.2, h⟩⟩
      by_cases hr : r = (z : Int)
      · have hre : (r == (z : Int)) = true := by simp [hr]
        have HR2 : Hid (R = (y != 0)) := by show R = _; have := HR.out; rw [this, Bool.eq_iff_iff]; simp [hr]
        clear hr
        go_wp2
        go_ret
        exact ⟨by rw [HR2.out]; rfl, rfl⟩
      · have hre : (r == (z : Int)) = false := by simp [hr]
        have HR2 : Hid (R = false) := by show R = _; have := HR.out; rw [this]; simp [hr]
        clear hr
        go_wp2
        go_ret
        exact ⟨by rw [HR2.out]; rfl, rfl⟩

/-- May a share be, that can be read? -/
theorem maybe_rdF (v : Value) (s : List Int) (log : Int) (w : World) (h : Rd .i64 w v s) :
    Calls Try.prog 20 #[v, .int .i64 log] w fun e w' => e = .returned (.bool (mayS s log)) ∧ w' = w := by
  obtain ⟨a, cap, rfl, _, _, _, h⟩ := h
  cases hd : decide (5 ≤ log ∧ log ≤ 9) with
  | false =>
    have hf : mayS s log = false := by
      rw [decide_eq_false_iff_not] at hd
      unfold mayS
      exact decide_eq_false (fun h => hd ⟨h.1, h.2.1⟩)
    rw [hf]
    exact maybe_bad a _ cap log w hd
  | true =>
    by_cases h1 : 64 < s.length
    · have hf : mayS s log = false := by unfold mayS; exact decide_eq_false (fun h => by have := h.2.2.1; omega)
      rw [hf]
      exact maybe_longF a _ cap log w hd h1
    · by_cases h0 : s.length = 0
      · have hl : s = [] := List.eq_nil_of_length_eq_zero h0
        subst hl
        have hf : mayS [] log = false := by unfold mayS; exact decide_eq_false (fun h => h.2.2.2.2.2 rfl)
        rw [hf]
        exact maybe_shortF a cap log w hd
      · rcases h with rfl | ⟨b, o, rfl, hc⟩
        · simp at h0
        · rw [decide_eq_true_eq] at hd
          obtain ⟨lg, rfl⟩ := Int.eq_ofNat_of_zero_le (show 0 ≤ log by omega)
          exact maybe_anyF b o cap s lg w (by omega) (by omega) (by omega) (by omega) hc
end Go.Proofs.Ytcmnhgefeffcpaa
