/-
  What the law on bits that are taken backward comes to: true, and nothing that was there is touched.
-/
import Derived.Test.YtbjpeomokgchnaaBack2
namespace Go.Proofs.Ytbjpeomokgchnaa
open Go.RowKit Pl
set_option linter.unusedVariables false

set_option maxHeartbeats 1000000 in
theorem refBack_bad (a : Option Addr) (len cap : Nat) (n : Int) (w : World) (h63 : len ≤ 9223372036854775807) (h : tkE len n ≠ 0) :
    Calls Try.prog 25 #[.slice a len cap, .int .i64 n] w fun e w' => e = .returned (.tuple #[.int .i64 0, .slice a len cap, .int .i64 (tkE len n)]) ∧ w' = w := by
  by_cases h1 : n < 0
  · have e : tkE len n = 1 := by unfold tkE; rw [if_pos (by omega)]
    rw [e]; clear e h
    go_enter Try.func25, Try.ntmps25
    go_wp2
    go_ret3
    exact ⟨rfl, rfl⟩
  · by_cases h2 : 32 < n
    · have e : tkE len n = 1 := by unfold tkE; rw [if_pos (by omega)]
      rw [e]; clear e h
      go_enter Try.func25, Try.ntmps25
      go_wp2
      go_ret3
      exact ⟨rfl, rfl⟩
    · by_cases h3 : (len : Int) < n
      · have e : tkE len n = 3 := by unfold tkE; rw [if_neg (by omega), if_pos h3]
        rw [e]; clear e h
        go_enter Try.func25, Try.ntmps25
        go_wp2
        go_ret3
        exact ⟨rfl, rfl⟩
      · exact absurd (by unfold tkE; rw [if_neg (by omega), if_neg h3]) h

set_option maxHeartbeats 1000000 in
theorem refBack_zero (a : Option Addr) (cap : Nat) (w : World) (ha : a = none → cap = 0) (hcap : cap ≤ maxLen) :
    Calls Try.prog 25 #[.slice a 0 cap, .int .i64 0] w fun e w' => e = .returned (.tuple #[.int .i64 0, .slice a 0 cap, .int .i64 0]) ∧ ∃ q, w' = w.drewN q := by
  unfold maxLen at hcap
  cases a with
  | none =>
    obtain rfl := ha rfl
    clear ha
    go_enter Try.func25, Try.ntmps25
    go_wp2
    go_quiet ((go_at_call 34; exact Calls.quiet_of_same (value_zero _ 0 _)))
    go_wp2
    go_ret3
    exact ⟨rfl, _, rfl⟩
  | some x =>
    clear ha
    go_enter Try.func25, Try.ntmps25
    go_wp2
    go_quiet ((go_at_call 34; exact Calls.quiet_of_same (value_zero _ 0 _)))
    go_wp2
    go_ret3
    exact ⟨by simp, _, rfl⟩

set_option maxHeartbeats 1000000 in
theorem refBack_ok (b o cap m : Nat) (xs : List Int) (w : World) (hx : Bits xs) (hl : xs.length ≤ cap) (hcap : cap ≤ maxLen) (hs : xs.length ≤ 4611686018427387904) (hm : m ≤ xs.length) (h32 : m ≤ 32)
    (hc : ∀ i, i < xs.length → w.cell? ⟨b, o + i, none⟩ = some (.int .i64 (xs.getD i 0))) :
    Calls Try.prog 25 #[.slice (some ⟨b, o, none⟩) xs.length cap, .int .i64 m] w fun e w' =>
      e = .returned (.tuple #[.int .i64 (val xs (xs.length - m) m), .slice (some ⟨b, o, none⟩) (xs.length - m) cap, .int .i64 0]) ∧ ∃ q, w' = w.drewN q := by
  have HC : Hid (∀ i, i < xs.length → w.cell? ⟨b, o + i, none⟩ = some (.int .i64 (xs.getD i 0))) := hc
  have HX : Hid (Bits xs) := hx
  unfold maxLen at hcap
  have EM : Hid (((xs.length - m : Nat) : Int) = (xs.length : Int) - m) := by show _ = _; omega
  clear hc hx
  go_enter Try.func25, Try.ntmps25
  go_wp2
  go_quiet ((go_at_call 34; rw [← EM.out]; exact Calls.quiet_of_same (value_any b o _ (xs.length - m) m xs _ HX.out hs (by omega) h32 (by exact HC.out))))
  go_wp2
  go_ret3
  exact ⟨by simp, _, rfl⟩

/-- The document's take from the end, of bits that can be read. -/
theorem refBack_rd (v : Value) (n : Int) (xs : List Int) (w : World) (h : Rd .i64 w v xs) (hx : Bits xs) (hs : xs.length ≤ 4611686018427387904) :
    Calls Try.prog 25 #[v, .int .i64 n] w fun e w' => ∃ v', e = .returned (.tuple #[.int .i64 (tkV xs xs.length (xs.length - tkN xs.length n) n), v', .int .i64 (tkE xs.length n)]) ∧
      Rd .i64 w' v' (xs.take (xs.length - tkN xs.length n)) ∧ (∀ k, v'.ownBlock = some k → v.ownBlock = some k) ∧ ∃ q, w' = w.drewN q := by
  have h0 := h
  obtain ⟨a, cap, rfl, hl, hm, ha, h⟩ := h
  by_cases hE : tkE xs.length n = 0
  · obtain ⟨m, rfl, hm32, hml, eV, eN⟩ := tk_good xs (xs.length - tkN xs.length n) hE
    rw [eV, eN, hE]
    rcases h with rfl | ⟨b, o, rfl, hc⟩
    · obtain rfl : m = 0 := by simpa using hml
      refine (refBack_zero a cap w ha hm).mono ?_
      rintro e w' ⟨rfl, q, rfl⟩
      exact ⟨_, rfl, h0, fun _ e => e, q, rfl⟩
    · refine (refBack_ok b o cap m xs w hx hl hm hs hml hm32 hc).mono ?_
      rintro e w' ⟨rfl, q, rfl⟩
      exact ⟨_, rfl, rd_take (xs.length - m) (by omega) hl hm hc, fun _ e => e, q, rfl⟩
  · obtain ⟨e1, e2⟩ := tk_bad xs (xs.length - tkN xs.length n) hE
    rw [e1, e2]
    refine (refBack_bad a xs.length cap n w (by omega) hE).mono ?_
    rintro e w' ⟨rfl, rfl⟩
    refine ⟨_, rfl, ?_, fun _ e => e, 0, rfl⟩
    rw [Nat.sub_zero, List.take_length]
    exact h0

theorem val_take (bs : List Int) (L p n : Nat) (h : p + n ≤ L) : val (bs.take L) p n = val bs p n := by
  unfold val
  refine bv_congr _ _ n fun i hi => ?_
  rw [List.getD_eq_getElem?_getD, List.getElem?_take, if_pos (by omega), List.getD_eq_getElem?_getD]

/-- The document's take from the end of what is left is the backward reader's own. -/
theorem tb_same (bs : List Int) (p : Nat) (n : Int) (hp : p ≤ bs.length) : (bs.take p).length = p ∧ tkV (bs.take p) p (p - tkN p n) n = tkV bs p (p - tkN p n) n := by
  refine ⟨by rw [List.length_take]; omega, ?_⟩
  by_cases hE : tkE p n = 0
  · obtain ⟨m, rfl, hm32, hml, eV, eN⟩ := tk_good (bs.take p) (p - tkN p n) hE
    obtain ⟨m', e', _, _, eV', _⟩ := tk_good bs (p - tkN p (m : Int)) hE
    obtain rfl : m = m' := by omega
    rw [eV, eV', eN, val_take _ _ _ _ (by omega)]
  · rw [(tk_bad _ _ hE).1, (tk_bad _ _ hE).1]

set_option maxRecDepth 100000 in
set_option maxHeartbeats 4000000 in
theorem bitsBack_walk (v u : Value) (ys ts : List Int) (w : World) (hx : Rd .u8 w v ys) (hy : By ys) (ht : Rd .i64 w u ts) (h1 : ys.length ≤ 1048576) (h2 : ts.length ≤ 1048576) :
    Calls Try.prog 5 #[v, u] w fun e w' => e = .returned (.bool true) ∧ Below w.heap.size w w' := by
  have HX : Hid (Rd .u8 w v ys) := hx
  have HY : Hid (By ys) := hy
  have HT : Hid (Rd .i64 w u ts) := ht
  obtain ⟨ta, tc, rfl, _, _, _, htc⟩ := ht
  have HTC : Hid (ts = [] ∨ ∃ b o, ta = some ⟨b, o, none⟩ ∧ ∀ i, i < ts.length → w.cell? ⟨b, o + i, none⟩ = some (.int .i64 (ts.getD i 0))) := htc
  clear hx hy htc
  go_enter Try.func5, Try.ntmps5
  go_wp2_with fail
  refine (newBack_rd v ys w HX.out HY.out (by omega)).mono ?_
  rintro e w1 (⟨hM, b, rv, rfl, hr1, b1, hb1, hf1⟩ | ⟨hM, rfl, rfl⟩)
  · have HM : Hid (HasMark ys) := hM
    have R1 : Hid (Bk w1 b rv ys (markAt ys)) := hr1
    have B1 : Hid (Below w.heap.size w w1) := b1
    have HB : Hid (w.heap.size ≤ b) := hb1
    clear hr1 b1 hb1 hf1 hM
    go_wp2_with fail
    refine (marked_rd v ys w1 (HX.out.below B1.out) HY.out h1).mono ?_
    rintro e w2 (⟨_, r2, rfl, ho2, b2, f2⟩ | ⟨hM, _, _⟩)
    · have R2 : Hid (Bk w2 b rv ys (markAt ys)) := R1.out.below b2
      have O2 : Hid (Rd .i64 w2 r2 ((unpack ys).take (markAt ys))) := ho2
      have B2 : Hid (Below w.heap.size w w2) := B1.out.trans (b2.mono B1.out.size)
      have N2 : Hid (∀ j, r2.ownBlock = some j → j ≠ b) := fun j hj => by have := f2 j hj; have := R1.out.lt; omega
      clear ho2 b2 f2 R1 B1
      obtain ⟨M, hMe⟩ : ∃ M, Hid (markAt ys = M) := ⟨_, rfl⟩
      rw [hMe.out] at R2 O2
      go_wp2_with fail
      go_loopw [7, 9] (fun r i wr => ∃ k p : Nat, k ≤ ts.length ∧ i = .int .i64 k ∧ Hid (Bk wr b rv ys p) ∧ Hid (Rd .i64 wr r ((unpack ys).take p)) ∧ Hid (∀ j, r.ownBlock = some j → j ≠ b) ∧ Hid (Below w.heap.size w wr)) (fun _ i _ => ts.length - (intOf i).toNat)
      case atStart => exact ⟨0, M, Nat.zero_le _, rfl, R2, O2, N2, B2⟩
      case round =>
        obtain ⟨k, p, hk, rfl, R3, O3, N3, B3⟩ := hrel
        clear R2 O2 N2 B2
        by_cases hlt : k < ts.length
        · obtain ⟨tb, to', rfl, hc⟩ : ∃ b o, ta = some ⟨b, o, none⟩ ∧ ∀ i, i < ts.length → w.cell? ⟨b, o + i, none⟩ = some (.int .i64 (ts.getD i 0)) := by
            rcases HTC.out with rfl | h
            · simp at hlt
            · exact h
          obtain ⟨n, hne⟩ : ∃ n, Hid (ts.getD k 0 = n) := ⟨_, rfl⟩
          have cn0 : w.cell? ⟨tb, to' + k, none⟩ = some (.int .i64 n) := by rw [hc k hlt, hne.out]
          have htb : tb < w.heap.size := World.block_lt_of_cell? w ⟨tb, to' + k, none⟩ cn0
          have cn : wr.cell? ⟨tb, to' + k, none⟩ = some (.int .i64 n) := by rw [B3.out.cell (p := ⟨tb, to' + k, none⟩) htb]; exact cn0
          have CN0 : Hid (w.cell? ⟨tb, to' + k, none⟩ = some (.int .i64 n)) := cn0
          have HTB : Hid (tb < w.heap.size) := htb
          have hp := R3.out.le
          obtain ⟨eL, eV⟩ := tb_same (unpack ys) p n (by rw [unpack_length]; exact hp)
          have EL : Hid (((unpack ys).take p).length = p) := eL
          have EV : Hid (tkV ((unpack ys).take p) p (p - tkN p n) n = tkV (unpack ys) p (p - tkN p n) n) := eV
          clear hc cn0 htb eL eV
          go_wp2_with fail
          refine (refBack_rd u7 n _ wr O3.out ((bits_unpack ys).take p) (by rw [EL.out]; omega)).mono ?_
          rintro e w4 ⟨r4, rfl, hr4, hn4, q4, hw4⟩
          rw [EL.out] at hr4 ⊢
          rw [EV.out]
          obtain ⟨X, hX⟩ : ∃ X, Hid (tkV (unpack ys) p (p - tkN p n) n = X) := ⟨_, rfl⟩
          obtain ⟨E, hE⟩ : ∃ E, Hid (tkE p n = E) := ⟨_, rfl⟩
          rw [hX.out, hE.out]
          obtain ⟨p', hp'⟩ : ∃ p', Hid (p - tkN p n = p') := ⟨_, rfl⟩
          rw [hp'.out, List.take_take, Nat.min_eq_left (by rw [← hp'.out]; omega)] at hr4
          have T4 : Hid (Below wr.heap.size wr w4) := by rw [hw4]; exact Below.of_drewN _ _ _
          have R4 : Hid (Bk w4 b rv ys p) := R3.out.below T4.out
          have B4 : Hid (Below w.heap.size w w4) := B3.out.trans (T4.out.mono B3.out.size)
          have O4 : Hid (Rd .i64 w4 r4 ((unpack ys).take p')) := hr4
          have N4 : Hid (∀ j, r4.ownBlock = some j → j ≠ b) := fun j hj => N3.out j (hn4 j hj)
          have cn4 : w4.cell? ⟨tb, to' + k, none⟩ = some (.int .i64 n) := by rw [B4.out.cell (p := ⟨tb, to' + k, none⟩) HTB.out]; exact CN0.out
          clear hr4 hn4 hw4 T4 cn O3 N3 B3 R3 EL EV
          go_wp2_with fail
          refine (backTake_any b rv ys p n w4 R4.out).mono ?_
          rintro e w5 ⟨rfl, hr5, ht5⟩
          rw [hX.out, hE.out]
          rw [hp'.out] at hr5
          have R5 : Hid (Bk w5 b rv ys p') := hr5
          have B5 : Hid (Below w.heap.size w w5) := B4.out.trans (ht5.below B4.out.size (fun j e => by rw [e]; exact HB.out))
          have O5 : Hid (Rd .i64 w5 r4 ((unpack ys).take p')) := O4.out.tch ht5 (fun j hj => N4.out j hj)
          have hp5 := hr5.le
          clear hr5 ht5 R4 B4 O4 cn4
          obtain ⟨a4, c4, hv4⟩ : ∃ a cap, r4 = .slice a p' cap := by
            obtain ⟨a, cap, e, _⟩ := O5.out
            rw [List.length_take, unpack_length, Nat.min_eq_left hp5] at e
            exact ⟨a, cap, e⟩
          subst hv4
          clear hp hp5
          go_wp2_with fail
          refine (backLeft_any b rv ys p' w5 R5.out).mono ?_
          rintro e w6 ⟨rfl, rfl⟩
          go_wp2_with fail
          go_roundw
          case rel => exact ⟨k + 1, p', by omega, by go_num, R5, O5, N4, B5⟩
          case measure => simp [intOf]; omega
        · go_wp2_with fail
          refine (lives_any _).mono ?_
          rintro e w7 ⟨rfl, b7⟩
          have B7 : Hid (Below w.heap.size w w7) := B3.out.trans (b7.mono B3.out.size)
          clear b7
          go_wp2_with fail
          go_ret
          exact ⟨rfl, B7.out⟩
    · exact absurd HM.out hM
  · have HM : Hid (¬ HasMark ys) := hM
    clear hM
    go_wp2_with fail
    refine (marked_rd v ys _ HX.out HY.out h1).mono ?_
    rintro e w2 (⟨hM, _⟩ | ⟨_, rfl, rfl⟩)
    · exact absurd hM HM.out
    · go_wp2_with fail
      go_loop [9] (fun i => i = .int .i64 0) (fun _ => 0)
      case atStart => rfl
      case round =>
        subst hrel
        by_cases hlt : (0 : Int) < (ts.length : Int)
        · go_wp2_with fail
          refine (lives_any _).mono ?_
          rintro e w7 ⟨rfl, b7⟩
          go_wp2_with fail
          go_ret
          exact ⟨rfl, b7⟩
        · go_wp2_with fail
          refine (lives_any _).mono ?_
          rintro e w7 ⟨rfl, b7⟩
          go_wp2_with fail
          go_ret
          exact ⟨rfl, b7⟩
end Go.Proofs.Ytbjpeomokgchnaa
