/-
  The document's take from the end.
-/
import Derived.Test.YtcmnhgefeffcpaaRefV
namespace Go.Proofs.Ytcmnhgefeffcpaa
open Go.RowKit Pl
set_option linter.unusedVariables false

set_option maxHeartbeats 1000000 in
theorem refBack_bad (a : Option Addr) (len cap : Nat) (n : Int) (w : World) (h63 : len ≤ 9223372036854775807) (h : tkE len n ≠ 0) :
    Calls Try.prog 38 #[.slice a len cap, .int .i64 n] w fun e w' => e = .returned (.tuple #[.int .i64 0, .slice a len cap, .int .i64 (tkE len n)]) ∧ w' = w := by
  by_cases h1 : n < 0
  · have e : tkE len n = 1 := by unfold tkE; rw [if_pos (by omega)]
    rw [e]; clear e h
    go_enter Try.func38, Try.ntmps38
    go_wp2
    go_ret3
    exact ⟨rfl, rfl⟩
  · by_cases h2 : 32 < n
    · have e : tkE len n = 1 := by unfold tkE; rw [if_pos (by omega)]
      rw [e]; clear e h
      go_enter Try.func38, Try.ntmps38
      go_wp2
      go_ret3
      exact ⟨rfl, rfl⟩
    · by_cases h3 : (len : Int) < n
      · have e : tkE len n = 3 := by unfold tkE; rw [if_neg (by omega), if_pos h3]
        rw [e]; clear e h
        go_enter Try.func38, Try.ntmps38
        go_wp2
        go_ret3
        exact ⟨rfl, rfl⟩
      · exact absurd (by unfold tkE; rw [if_neg (by omega), if_neg h3]) h

set_option maxHeartbeats 1000000 in
theorem refBack_zero (a : Option Addr) (cap : Nat) (w : World) (ha : a = none → cap = 0) (hcap : cap ≤ maxLen) :
    Calls Try.prog 38 #[.slice a 0 cap, .int .i64 0] w fun e w' => e = .returned (.tuple #[.int .i64 0, .slice a 0 cap, .int .i64 0]) ∧ ∃ q, w' = w.drewN q := by
  unfold maxLen at hcap
  cases a with
  | none =>
    obtain rfl := ha rfl
    clear ha
    go_enter Try.func38, Try.ntmps38
    go_wp2
    go_quiet ((go_at_call 61; exact Calls.quiet_of_same (value_zero _ 0 _)))
    go_wp2
    go_ret3
    exact ⟨rfl, _, rfl⟩
  | some x =>
    clear ha
    go_enter Try.func38, Try.ntmps38
    go_wp2
    go_quiet ((go_at_call 61; exact Calls.quiet_of_same (value_zero _ 0 _)))
    go_wp2
    go_ret3
    exact ⟨by simp, _, rfl⟩

set_option maxHeartbeats 1000000 in
theorem refBack_ok (b o cap m : Nat) (xs : List Int) (w : World) (hx : Bits xs) (hl : xs.length ≤ cap) (hcap : cap ≤ maxLen) (hs : xs.length ≤ 4611686018427387904) (hm : m ≤ xs.length) (h32 : m ≤ 32)
    (hc : ∀ i, i < xs.length → w.cell? ⟨b, o + i, none⟩ = some (.int .i64 (xs.getD i 0))) :
    Calls Try.prog 38 #[.slice (some ⟨b, o, none⟩) xs.length cap, .int .i64 m] w fun e w' =>
      e = .returned (.tuple #[.int .i64 (val xs (xs.length - m) m), .slice (some ⟨b, o, none⟩) (xs.length - m) cap, .int .i64 0]) ∧ ∃ q, w' = w.drewN q := by
  have HC : Hid (∀ i, i < xs.length → w.cell? ⟨b, o + i, none⟩ = some (.int .i64 (xs.getD i 0))) := hc
  have HX : Hid (Bits xs) := hx
  unfold maxLen at hcap
  have EM : Hid (((xs.length - m : Nat) : Int) = (xs.length : Int) - m) := by show _ = _; omega
  clear hc hx
  go_enter Try.func38, Try.ntmps38
  go_wp2
  go_quiet ((go_at_call 61; rw [← EM.out]; exact Calls.quiet_of_same (value_any b o _ (xs.length - m) m xs _ HX.out hs (by omega) h32 (by exact HC.out))))
  go_wp2
  go_ret3
  exact ⟨by simp, _, rfl⟩

/-- The document's take from the end, of bits that can be read. -/
theorem refBack_rd (v : Value) (n : Int) (xs : List Int) (w : World) (h : Rd .i64 w v xs) (hx : Bits xs) (hs : xs.length ≤ 4611686018427387904) :
    Calls Try.prog 38 #[v, .int .i64 n] w fun e w' => ∃ v', e = .returned (.tuple #[.int .i64 (tkV xs xs.length (xs.length - tkN xs.length n) n), v', .int .i64 (tkE xs.length n)]) ∧
      Rd .i64 w' v' (xs.take (xs.length - tkN xs.length n)) ∧ (∀ k, v'.ownBlock = some k → v.ownBlock = some k) ∧ ∃ q, w' = w.drewN q := by
  have h0 := h
  obtain ⟨a, cap, rfl, hl, hm, ha, h⟩ := h
  by_cases hE : tkE xs.length n = 0
  · obtain ⟨m, rfl, hm32, hml, eV, eN⟩ := tk_good xs (xs.length - tkN xs.length n) hE
    rw [eV, eN, hE]
    rcases h with rfl | ⟨b, o, rfl, hc⟩
    · obtain rfl : m = 0 := by simpa using hml
      refine (refBack_zero a cap w ha hm).mono ?_
      rintro e w' ⟨rfl, q, rfl⟩
      exact ⟨_, rfl, h0, fun _ e => e, q, rfl⟩
    · refine (refBack_ok b o cap m xs w hx hl hm hs hml hm32 hc).mono ?_
      rintro e w' ⟨rfl, q, rfl⟩
      exact ⟨_, rfl, rd_take (xs.length - m) (by omega) hl hm hc, fun _ e => e, q, rfl⟩
  · obtain ⟨e1, e2⟩ := tk_bad xs (xs.length - tkN xs.length n) hE
    rw [e1, e2]
    refine (refBack_bad a xs.length cap n w (by omega) hE).mono ?_
    rintro e w' ⟨rfl, rfl⟩
    refine ⟨_, rfl, ?_, fun _ e => e, 0, rfl⟩
    rw [Nat.sub_zero, List.take_length]
    exact h0

theorem val_take (bs : List Int) (L p n : Nat) (h : p + n ≤ L) : val (bs.take L) p n = val bs p n := by
  unfold val
  refine bv_congr _ _ n fun i hi => ?_
  rw [List.getD_eq_getElem?_getD, List.getElem?_take, if_pos (by omega), List.getD_eq_getElem?_getD]

/-- The document's take from the end of what is left is the backward reader's own. -/
theorem tb_same (bs : List Int) (p : Nat) (n : Int) (hp : p ≤ bs.length) : (bs.take p).length = p ∧ tkV (bs.take p) p (p - tkN p n) n = tkV bs p (p - tkN p n) n := by
  refine ⟨by rw [List.length_take]; omega, ?_⟩
  by_cases hE : tkE p n = 0
  · obtain ⟨m, rfl, hm32, hml, eV, eN⟩ := tk_good (bs.take p) (p - tkN p n) hE
    obtain ⟨m', e', _, _, eV', _⟩ := tk_good bs (p - tkN p (m : Int)) hE
    obtain rfl : m = m' := by omega
    rw [eV, eV', eN, val_take _ _ _ _ (by omega)]
  · rw [(tk_bad _ _ hE).1, (tk_bad _ _ hE).1]

end Go.Proofs.Ytcmnhgefeffcpaa
