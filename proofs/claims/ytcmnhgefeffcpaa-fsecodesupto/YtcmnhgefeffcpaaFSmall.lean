/-
  The small steps of writing: how many bits go, where a symbol's place lies, whether all have a share.
-/
import Derived.Test.YtcmnhgefeffcpaaFSpots
import Derived.Test.YtcmnhgefeffcpaaFCod
namespace Go.Proofs.Ytcmnhgefeffcpaa
open Go.RowKit Pl
set_option linter.unusedVariables false

set_option maxHeartbeats 1000000 in
theorem bitsOver_any (σ sh : Nat) (w : World) (h1 : 1 ≤ sh) (h2 : sh ≤ 512) (h3 : σ < 1024) :
    Calls Try.prog 25 #[.int .i64 σ, .int .i64 sh] w fun e w' => e = .returned (.int .i64 (nb σ sh)) ∧ w' = w := by
  obtain ⟨R, hR⟩ : ∃ R, Hid (nb σ sh = R) := ⟨_, rfl⟩
  rw [hR.out]
  have hS := nb_spec h1 h3
  rw [hR.out] at hS
  have HS : Hid (σ / 2 ^ R < 2 * sh ∧ ∀ m, m < R → 2 * sh ≤ σ / 2 ^ m) := ⟨hS.1, hS.2.1⟩
  have hR10 : R ≤ 10 := hS.2.2
  clear hS
  go_enter Try.func25, Try.ntmps25
  go_wp2
  go_loop [5] (fun x => ∃ n : Nat, n ≤ R ∧ x = .int .i64 n) (fun x => 11 - (intOf x).toNat)
  case atStart => exact ⟨0, Nat.zero_le _, rfl⟩
  case round =>
    obtain ⟨n, hn, rfl⟩ := hrel
    obtain ⟨y, hy⟩ : ∃ y, Hid (σ / 2 ^ n = y) := ⟨_, rfl⟩
    have hyI : (σ : Int) / 2 ^ n = (y : Int) := by rw [← hy.out]; push_cast; rfl
    have hy1 : y ≤ 1023 := by rw [← hy.out]; have := Nat.div_le_self σ (2 ^ n); omega
    by_cases hlt : n < R
    · have hge := HS.out.2 n hlt
      rw [hy.out] at hge
      have hge' : (2 : Int) * (sh : Int) ≤ (y : Int) := by omega
      clear hge
      go_wp2
      go_round
      case rel => exact ⟨n + 1, by omega, by go_num⟩
      case measure => simp [intOf]; omega
    · obtain rfl : n = R := by omega
      have hge := HS.out.1
      rw [hy.out] at hge
      have hge' : (y : Int) < (2 : Int) * (sh : Int) := by omega
      clear hge
      go_wp2
      go_ret
      exact ⟨rfl, rfl⟩

set_option maxRecDepth 100000 in
theorem find_anyF (g : Nat) (f : Nat → Nat) (L z k a : Nat) (w : World) (h : Iv w g 46 576 (sp f L z z)) (hk : k < L) (hL : L ≤ 64) (ha : cu f k + a < 512) :
    Calls Try.prog 27 #[.pointer (some ⟨g, 0, none⟩), .int .i64 k, .int .i64 a] w fun e w' => e = .returned (.int .i64 (pl f L z z (cu f k + a))) ∧ ∃ n, w' = w.drewN n := by
  have c0 : w.cell? ⟨g, k, none⟩ = some (.int .i64 (cu f k : Int)) := by
    rw [h.at_ k (by omega)]; unfold sp fs; rw [if_pos (by omega), if_pos hk]
  obtain ⟨I, hI⟩ : ∃ I, Hid (cu f k + a = I) := ⟨_, rfl⟩
  have c1 : w.cell? ⟨g, 64 + I, none⟩ = some (.int .i64 (pl f L z z I : Int)) := by
    rw [h.at_ (64 + I) (by rw [← hI.out]; omega)]; unfold sp; rw [if_neg (by omega), show 64 + I - 64 = I by omega]
  have hI1 : I < 512 := by rw [← hI.out]; exact ha
  have hII : (cu f k : Int) + (a : Int) = (I : Int) := by rw [← hI.out]; push_cast; rfl
  have hcu : cu f k ≤ 512 := by omega
  rw [hI.out]
  obtain ⟨C, hC⟩ : ∃ C, Hid (cu f k = C) := ⟨_, rfl⟩
  rw [hC.out] at c0 hII hcu
  obtain ⟨R, hR⟩ : ∃ R, Hid (pl f L z z I = R) := ⟨_, rfl⟩
  rw [hR.out] at c1 ⊢
  have hi0 : (0 : Int) ≤ (k : Int) := by omega
  have hi1 : (k : Int) < 64 := by omega
  have hi2 : (k : Int) ≤ 63 := by omega
  have hj0 : (0 : Int) ≤ (I : Int) := by omega
  have hj1 : (I : Int) < 512 := by omega
  have hj2 : (I : Int) ≤ 511 := by omega
  have ha0 : a ≤ 512 := by omega
  clear h ha
  go_enter Try.func27, Try.ntmps27
  go_wp2_with fail
  go_quiet (fail)
  go_wp2
  go_ret
  exact ⟨rfl, _, rfl⟩

/-- All symbols have a share. -/
def allS (s ds : List Int) : Bool := decide (∀ i, i < ds.length → 0 ≤ ds.getD i 0 ∧ (ds.getD i 0).toNat < s.length ∧ s.getD (ds.getD i 0).toNat 0 ≠ 0)

theorem allShared_none (v : Value) (a : Option Addr) (cap : Nat) (w : World) :
    Calls Try.prog 21 #[v, .slice a 0 cap] w fun e w' => e = .returned (.bool true) ∧ w' = w := by
  go_enter Try.func21, Try.ntmps21
  go_wp2
  go_loop [9] (fun i => i = .int .i64 0) (fun _ => 0)
  case atStart => rfl
  case round =>
    subst hrel
    go_wp2
    go_ret
    exact ⟨rfl, rfl⟩

set_option maxRecDepth 100000 in
set_option maxHeartbeats 1000000 in
theorem allShared_any (b o cap b2 o2 cap2 : Nat) (s ds : List Int) (w : World) (h1 : 1 ≤ s.length) (h2 : s.length ≤ 64) (h3 : ds.length ≤ 65536)
    (hc : ∀ i, i < s.length → w.cell? ⟨b, o + i, none⟩ = some (.int .i64 (s.getD i 0))) (hd : ∀ i, i < ds.length → w.cell? ⟨b2, o2 + i, none⟩ = some (.int .i64 (ds.getD i 0))) :
    Calls Try.prog 21 #[.slice (some ⟨b, o, none⟩) s.length cap, .slice (some ⟨b2, o2, none⟩) ds.length cap2] w fun e w' => e = .returned (.bool (allS s ds)) ∧ w' = w := by
  have HC : Hid (∀ i, i < s.length → w.cell? ⟨b, o + i, none⟩ = some (.int .i64 (s.getD i 0))) := hc
  have HD : Hid (∀ i, i < ds.length → w.cell? ⟨b2, o2 + i, none⟩ = some (.int .i64 (ds.getD i 0))) := hd
  obtain ⟨R, hR⟩ : ∃ R, Hid (allS s ds = R) := ⟨_, rfl⟩
  rw [hR.out]
  clear hc hd
  go_enter Try.func21, Try.ntmps21
  go_wp2
  go_loop [9] (fun i => ∃ k : Nat, k ≤ ds.length ∧ i = .int .i64 k ∧ Hid (∀ i, i < k → 0 ≤ ds.getD i 0 ∧ (ds.getD i 0).toNat < s.length ∧ s.getD (ds.getD i 0).toNat 0 ≠ 0)) (fun i => ds.length - (intOf i).toNat)
  case atStart => exact ⟨0, Nat.zero_le _, rfl, fun i hi => by omega⟩
  case round =>
    obtain ⟨k, hk, rfl, HA⟩ := hrel
    by_cases hlt : k < ds.length
    · obtain ⟨x, hxe⟩ : ∃ x, Hid (ds.getD k 0 = x) := ⟨_, rfl⟩
      have cx : w.cell? ⟨b2, o2 + k, none⟩ = some (.int .i64 x) := by rw [HD.out k hlt, hxe.out]
      have bad : (x < 0 ∨ (s.length : Int) ≤ x ∨ s.getD x.toNat 0 = 0) → R = false := fun h => by
        rw [← hR.out]
        unfold allS
        refine decide_eq_false (fun h' => ?_)
        have := h' k hlt
        rw [hxe.out] at this
        rcases h with h | h | h
        · omega
        · omega
        · exact this.2.2 h
      have BAD : Hid ((x < 0 ∨ (s.length : Int) ≤ x ∨ s.getD x.toNat 0 = 0) → R = false) := bad
      clear bad
      by_cases hb1 : x < 0
      · have HR : Hid (R = false) := BAD.out (.inl hb1)
        go_wp2
        go_ret
        exact ⟨by rw [HR.out]; rfl, rfl⟩
      · by_cases hb2 : (s.length : Int) ≤ x
        · have HR : Hid (R = false) := BAD.out (.inr (.inl hb2))
          have hg1 : decide (x < 0) = false := by rw [decide_eq_false_iff_not]; exact hb1
          go_wp2
          go_ret
          exact ⟨by rw [HR.out]; rfl, rfl⟩
        · obtain ⟨m, hm⟩ := Int.eq_ofNat_of_zero_le (show 0 ≤ x by omega)
          subst hm
          obtain ⟨y, hy⟩ : ∃ y, Hid (s.getD m 0 = y) := ⟨_, rfl⟩
          have hml : m < s.length := by omega
          have cy : w.cell? ⟨b, o + m, none⟩ = some (.int .i64 y) := by rw [HC.out m hml, hy.out]
          have hg1 : decide ((m : Int) < 0) = false := by rw [decide_eq_false_iff_not]; exact hb1
          have hg2 : decide ((s.length : Int) ≤ (m : Int)) = false := by rw [decide_eq_false_iff_not]; exact hb2
          by_cases hy0 : y = 0
          · have HR : Hid (R = false) := BAD.out (.inr (.inr (by rw [Int.toNat_natCast, hy.out]; exact hy0)))
            have hye : (y == 0) = true := by simp [hy0]
            clear hb1 hb2 hy0
            go_wp2
            go_ret
            exact ⟨by rw [HR.out]; rfl, rfl⟩
          · have hye : (y == 0) = false := by simp [hy0]
            have HA2 : Hid (∀ i, i < k + 1 → 0 ≤ ds.getD i 0 ∧ (ds.getD i 0).toNat < s.length ∧ s.getD (ds.getD i 0).toNat 0 ≠ 0) := fun i hi => by
              by_cases e : i < k
              · exact HA.out i e
              · obtain rfl : i = k := by omega
                rw [hxe.out, Int.toNat_natCast, hy.out]
                exact ⟨by omega, hml, hy0⟩
            clear hb1 hb2 hy0 HA
            go_wp2
            go_round
            case rel => exact ⟨k + 1, by omega, by go_num, HA2⟩
            case measure => simp [intOf]; omega
    · obtain rfl : k = ds.length := by omega
      have HR : Hid (R = true) := by show R = true; rw [← hR.out]; unfold allS; exact decide_eq_true HA.out
      go_wp2
      go_ret
      exact ⟨by rw [HR.out]; rfl, rfl⟩
end Go.Proofs.Ytcmnhgefeffcpaa
