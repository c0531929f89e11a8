/-
  AllocPlays: both maps, call by call.
-/
import Derived.Test.YtamgogkkcbeaaaaADoes
import Derived.Test.YtamgogkkcbeaaaaADeed
namespace Go.Proofs.Ytamgogkkcbeaaaa
open Go.RowKit Ah
set_option linter.unusedVariables false
set_option maxRecDepth 100000

set_option maxHeartbeats 4000000 in
theorem allocPlays_walk (lo hi : Int) (a : Option Addr) (n cap : Nat) (xs : List (Int × Int)) (w : World) (hr : RdA w (.slice a n cap) xs) :
    Calls Try.prog 3 #[.int .i64 lo, .int .i64 hi, .slice a n cap] w fun e w' => e = .returned (.bool true) ∧ Below w.heap.size w w' := by
  by_cases hbad : lo < 0 ∨ 65536 < hi ∨ hi < lo
  · have HN := fun w => new_bad lo hi hbad w
    have HR := fun w => rnew_bad lo hi hbad w
    clear hbad hr
    go_enter Try.func3, Try.ntmps3
    go_wp2_with fail
    refine (HN w).mono ?_
    rintro e w1 ⟨rfl, rfl⟩
    go_wp2_with fail
    refine (HR w1).mono ?_
    rintro e w2 ⟨rfl, rfl⟩
    clear HN HR
    go_wp2_with fail
    refine (lives_any w2).mono ?_
    rintro e w3 ⟨rfl, hb⟩
    have HB : Hid (Below w2.heap.size w2 w3) := hb
    clear hb
    go_wp2_with fail
    go_ret
    exact ⟨rfl, HB.out⟩
  · obtain ⟨l, rfl⟩ : ∃ l : Nat, lo = l := ⟨lo.toNat, by omega⟩
    obtain ⟨h, rfl⟩ : ∃ h : Nat, hi = h := ⟨hi.toNat, by omega⟩
    have hlh : l ≤ h := by omega
    have h65 : h ≤ 65536 := by omega
    obtain ⟨_, _, he, hlc, hcm, _⟩ := id hr
    have hnl : n = xs.length := by cases he; rfl
    have HNL : Hid (n = xs.length) := hnl
    have hn63 : n ≤ 9223372036854775807 := by cases he; unfold maxLen at hcm; omega
    have hcap : n ≤ cap := by cases he; exact hlc
    have hcap63 : cap ≤ 9223372036854775807 := by cases he; unfold maxLen at hcm; omega
    have HR : Hid (RdA w (.slice a n cap) xs) := hr
    clear hbad hr he hlc hcm hnl
    go_enter Try.func3, Try.ntmps3
    go_wp2_with fail
    refine (new_any l h hlh h65 w).mono ?_
    rintro e w1 ⟨M, rfl, hp1, hb1⟩
    have HP1 : Hid (Pm w1 M (new l h) (fun k => w.heap.size ≤ k ∧ k < w1.heap.size)) := hp1
    have HB1 : Hid (Below w.heap.size w w1) := hb1
    clear hp1 hb1
    go_wp2_with fail
    refine (rnew_any l h hlh h65 w1).mono ?_
    rintro e w2 ⟨R, rfl, hr2, hb2⟩
    have B2 : Hid (Bz w w w2 (fun _ => False) M R (new l h) (new l h)) := Bz.start HP1.out HB1.out hr2 hb2
    clear hr2 hb2 HP1 HB1
    go_wp2_with fail
    go_loopw [11] (fun i wr => ∃ (k : Nat) (s : St), k ≤ n ∧ i = .int .i64 k ∧ Hid (Bz w w wr (fun _ => False) M R s s)) (fun i _ => n - (intOf i).toNat)
    case atStart => exact ⟨0, new l h, Nat.zero_le _, rfl, B2⟩
    case round =>
      obtain ⟨k, s, hk, rfl, B⟩ := hrel
      clear B2
      by_cases hlt : k < n
      · obtain ⟨x, hx⟩ : ∃ x, xs[k]? = some x := ⟨xs[k]'(by have := HNL.out; omega), List.getElem?_eq_getElem _⟩
        obtain ⟨b, o, rfl, c0, c1, wk, wn⟩ := HR.out.at_ B.out.below0 hx
        obtain ⟨kd, nn⟩ := x
        have HWK : Hid ((Lit.int .i64 kd).wf = true) := wk
        have HWN : Hid ((Lit.int .i64 nn).wf = true) := wn
        have HX : Hid (xs[k]? = some (kd, nn)) := hx
        simp only at c0 c1
        clear wk wn hx
        go_wp2_with fail
        refine (does_any w wr M R s kd nn HWK.out HWN.out B.out).mono ?_
        rintro e w3 ⟨rfl, hb3⟩
        obtain ⟨s', hs'⟩ : ∃ s', Hid (stp (pk kd 7) nn s = s') := ⟨_, rfl⟩
        rw [hs'.out] at hb3
        have B3 : Hid (Bz w w w3 (fun _ => False) M R s' s') := hb3
        obtain ⟨_, _, e0, d0, d1, _, _⟩ := HR.out.at_ hb3.below0 HX.out
        cases e0
        simp only at d0 d1
        obtain ⟨f, hf⟩ : ∃ f, Hid (fre s' = f) := ⟨_, rfl⟩
        obtain ⟨c, hc⟩ : ∃ c : Nat, Hid (s'.L.count 2 = c) := ⟨_, rfl⟩
        obtain ⟨t, ht⟩ : ∃ t, Hid (decide (0 < stv s' nn) = t) := ⟨_, rfl⟩
        obtain ⟨X, Y, hp, hrr, _⟩ := id hb3
        have Q1 : Hid (∀ q, Calls Try.prog 12 #[mp M] (w3.drewN q) fun e w' => e = .returned (.int .i64 f) ∧ ∃ r, w' = (w3.drewN q).drewN r) := fun q => by rw [← hf.out]; exact free_any M s' X _ (hp.drew q)
        have Q2 : Hid (∀ q, Calls Try.prog 13 #[rp R] (w3.drewN q) fun e w' => e = .returned (.int .i64 f) ∧ ∃ r, w' = (w3.drewN q).drewN r) := fun q => by rw [← hf.out]; exact rfree_any R s' Y _ (hrr.drew q)
        have Q3 : Hid (∀ q, Calls Try.prog 14 #[mp M] (w3.drewN q) fun e w' => e = .returned (.int .i64 c) ∧ w' = w3.drewN q) := fun q => by rw [← hc.out]; exact dropped_any M s' X _ (hp.drew q)
        have Q4 : Hid (∀ q, Calls Try.prog 15 #[rp R, .int .i64 2] (w3.drewN q) fun e w' => e = .returned (.int .i64 c) ∧ w' = w3.drewN q) := fun q => by rw [← hc.out]; exact rcount_any R s' Y 2 _ (hrr.drew q)
        have Q5 : Hid (∀ q, Calls Try.prog 16 #[mp M, .int .i64 nn] (w3.drewN q) fun e w' => e = .returned (.bool t) ∧ w' = w3.drewN q) := fun q => by rw [← ht.out]; exact taken_any M s' X nn _ (hp.drew q)
        have Q6 : Hid (∀ q, Calls Try.prog 17 #[rp R, .int .i64 nn] (w3.drewN q) fun e w' => e = .returned (.bool t) ∧ ∃ r, w' = (w3.drewN q).drewN r) := fun q => by rw [← ht.out]; exact rtaken_any R s' Y nn HWN.out _ (hrr.drew q)
        have g1 : (f != f) = false := by simp
        have g2 : ((c : Int) != (c : Int)) = false := by simp
        clear hb3 hp hrr B c0 c1 hf hc ht
        cases t with
        | false =>
          go_wp2_with fail
          go_quiet (first | (go_at_call 12; exact Calls.quiet_of (Q1.out _)) | (go_at_call 13; exact Calls.quiet_of (Q2.out _)) | (go_at_call 14; exact Calls.quiet_of_same (Q3.out _)) | (go_at_call 15; exact Calls.quiet_of_same (Q4.out _)) | (go_at_call 16; exact Calls.quiet_of_same (Q5.out _)) | (go_at_call 17; exact Calls.quiet_of (Q6.out _)))
          have B4 : Hid (Bz w w (w3.drewN nq) (fun _ => False) M R s' s') := B3.out.drew nq
          go_wp2_with fail
          go_roundw
          case rel => exact ⟨k + 1, s', by omega, by first | rfl | go_num, B4⟩
          case measure => simp [intOf]; omega
        | true =>
          go_wp2_with fail
          go_quiet (first | (go_at_call 12; exact Calls.quiet_of (Q1.out _)) | (go_at_call 13; exact Calls.quiet_of (Q2.out _)) | (go_at_call 14; exact Calls.quiet_of_same (Q3.out _)) | (go_at_call 15; exact Calls.quiet_of_same (Q4.out _)) | (go_at_call 16; exact Calls.quiet_of_same (Q5.out _)) | (go_at_call 17; exact Calls.quiet_of (Q6.out _)))
          have B4 : Hid (Bz w w (w3.drewN nq) (fun _ => False) M R s' s') := B3.out.drew nq
          go_wp2_with fail
          go_roundw
          case rel => exact ⟨k + 1, s', by omega, by first | rfl | go_num, B4⟩
          case measure => simp [intOf]; omega
      · have hd : decide (k < n) = false := by simp; omega
        go_wp2_with fail
        refine (runsB B.out).mono ?_
        rintro e w3 ⟨v3, rfl, ho3, hb3, hf3⟩
        have B3 : Hid (Bz w w w3 (fun _ => False) M R s s) := (B.out.enter hb3 (fun _ => False) (fun _ e => e.elim)).leave
        have O3 : Hid (OwnsT w3 v3 (rr s.lo s.L s.L.length)) := ho3
        clear ho3 hb3 hf3 B
        go_wp2_with fail
        refine (rrunsB B3.out).mono ?_
        rintro e w4 ⟨v4, rfl, ho4, hb4, hf4⟩
        have B4 : Hid (Bz w w w4 (fun _ => False) M R s s) := (B3.out.enter hb4 (fun _ => False) (fun _ e => e.elim)).leave
        have R3 : Hid (RdT w4 v3 (rr s.lo s.L s.L.length)) := (O3.out.below hb4).rd
        have R4 : Hid (RdT w4 v4 (rr s.lo s.L s.L.length)) := ho4.rd
        clear ho4 hb4 hf4 B3 O3
        go_wp2_with fail
        refine (runsSame_any v3 v4 _ w4 R3.out R4.out).mono ?_
        rintro e w5 ⟨rfl, q, rfl⟩
        have HB5 : Hid (Below w.heap.size w (w4.drewN q)) := (B4.out.drew q).below0
        clear B4 R3 R4
        go_wp2_with fail
        refine (lives_any _).mono ?_
        rintro e w6 ⟨rfl, hb6⟩
        have HB6 : Hid (Below w.heap.size w w6) := HB5.out.trans ⟨hb6.os, hb6.tape, hb6.output, hb6.size, fun k hk => hb6.block k (by have := HB5.out.size; omega)⟩
        clear hb6
        go_wp2_with fail
        go_ret
        exact ⟨rfl, HB6.out⟩
end Go.Proofs.Ytamgogkkcbeaaaa
