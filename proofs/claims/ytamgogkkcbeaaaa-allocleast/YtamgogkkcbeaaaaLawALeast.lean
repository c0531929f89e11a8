/-
  AllocLeast: the least free number is taken.
-/
import Derived.Test.YtamgogkkcbeaaaaALaw
namespace Go.Proofs.Ytamgogkkcbeaaaa
open Go.RowKit Ah
set_option linter.unusedVariables false
set_option maxRecDepth 100000

namespace Ah
theorem bump_first (l : List (Int × Int)) : (G2 (bump l) 0).1 = (G2 l 0).1 := by
  unfold bump G2
  match l with
  | [] => rfl
  | [p] => rfl
  | p :: q :: r => simp
theorem rr_head (lo : Nat) (L : List Int) {i : Nat} (h0 : G L i = 0) (hb : ∀ j, j < i → G L j ≠ 0) : ∀ k, i < k → 0 < (rr lo L k).length ∧ (G2 (rr lo L k) 0).1 = ((lo + i : Nat) : Int) := by
  have hz : ∀ k, k ≤ i → rr lo L k = [] := by
    intro k
    induction k with
    | zero => intro _; rfl
    | succ k ih => intro hk; simp only [rr]; rw [if_neg (hb k (by omega))]; exact ih (by omega)
  intro k
  induction k with
  | zero => intro h; omega
  | succ k ih =>
    intro hk
    by_cases e : k = i
    · subst e
      have h1 : rr lo L (k + 1) = [(((lo + k : Nat) : Int), 1)] := by
        simp only [rr]
        rw [if_pos h0, if_neg (fun h => hb (k - 1) (by omega) h.2), hz k (Nat.le_refl _)]
        rfl
      rw [h1]
      exact ⟨by simp, rfl⟩
    · obtain ⟨i1, i2⟩ := ih (by omega)
      simp only [rr]
      split
      · split
        · exact ⟨by rw [bump_len]; exact i1, by rw [bump_first]; exact i2⟩
        · refine ⟨by simp, ?_⟩
          rw [← i2]
          unfold G2
          rw [List.getD_eq_getElem?_getD, List.getD_eq_getElem?_getD, List.getElem?_append_left i1]
      · exact ⟨i1, i2⟩
theorem rr_none (lo : Nat) (L : List Int) (h : L.count 0 = 0) : rr lo L L.length = [] := by
  have hb : ∀ j, j < L.length → G L j ≠ 0 := fun j hj e => by
    have : (0 : Int) ∈ L := by rw [← e]; exact G_mem hj
    have := List.count_pos_iff.2 this
    omega
  have : ∀ k, k ≤ L.length → rr lo L k = [] := by
    intro k
    induction k with
    | zero => intro _; rfl
    | succ k ih => intro hk; simp only [rr]; rw [if_neg (hb k (by omega))]; exact ih (by omega)
  exact this _ (Nat.le_refl _)
theorem rr_first {lo : Nat} {L : List Int} (h : L.count 0 ≠ 0) : 0 < (rr lo L L.length).length ∧ (G2 (rr lo L L.length) 0).1 = ((lo + L.idxOf 0 : Nat) : Int) := by
  obtain ⟨h1, h2, h3⟩ := first0 h
  exact rr_head lo L h2 h3 _ h1
end Ah

set_option maxHeartbeats 4000000 in
theorem allocLeast_walk (a : Option Addr) (n cap : Nat) (xs : List (Int × Int)) (w : World) (hr : RdA w (.slice a n cap) xs) :
    Calls Try.prog 6 #[.slice a n cap] w fun e w' => e = .returned (.bool true) ∧ Below w.heap.size w w' := by
  obtain ⟨_, _, he, hlc, hcm, _⟩ := id hr
  have hnl : n = xs.length := by cases he; rfl
  have HNL : Hid (n = xs.length) := hnl
  have hn63 : n ≤ 9223372036854775807 := by cases he; unfold maxLen at hcm; omega
  have hcap : n ≤ cap := by cases he; exact hlc
  have hcap63 : cap ≤ 9223372036854775807 := by cases he; unfold maxLen at hcm; omega
  have HR : Hid (RdA w (.slice a n cap) xs) := hr
  clear hr he hlc hcm hnl
  go_enter Try.func6, Try.ntmps6
  go_wp2_with fail
  refine (new_at 10 40 10 40 rfl rfl (by decide) (by decide) w).mono ?_
  rintro e w1 ⟨M, rfl, hp1, hb1⟩
  have HP1 : Hid (Pm w1 M (new 10 40) (fun k => w.heap.size ≤ k ∧ k < w1.heap.size)) := hp1
  have HB1 : Hid (Below w.heap.size w w1) := hb1
  clear hp1 hb1
  go_wp2_with fail
  refine (rnew_at 10 40 10 40 rfl rfl (by decide) (by decide) w1).mono ?_
  rintro e w2 ⟨R, rfl, hr2, hb2⟩
  have B2 : Hid (Bz w w w2 (fun _ => False) M R (new 10 40) (new 10 40)) := Bz.start HP1.out HB1.out hr2 hb2
  clear hr2 hb2 HP1 HB1
  go_wp2_with fail
  go_loopw [7] (fun i wr => ∃ (k : Nat) (s : St), k ≤ n ∧ i = .int .i64 k ∧ Hid (Bz w w wr (fun _ => False) M R s s)) (fun i _ => n - (intOf i).toNat)
  case atStart => exact ⟨0, new 10 40, Nat.zero_le _, rfl, B2⟩
  case round =>
    obtain ⟨k, s, hk, rfl, B⟩ := hrel
    clear B2
    by_cases hlt : k < n
    · obtain ⟨x, hx⟩ : ∃ x, xs[k]? = some x := ⟨xs[k]'(by have := HNL.out; omega), List.getElem?_eq_getElem _⟩
      obtain ⟨b, o, rfl, c0, c1, wk, wn⟩ := HR.out.at_ B.out.below0 hx
      obtain ⟨kd, nn⟩ := x
      have HWK : Hid ((Lit.int .i64 kd).wf = true) := wk
      have HWN : Hid ((Lit.int .i64 nn).wf = true) := wn
      have HX : Hid (xs[k]? = some (kd, nn)) := hx
      simp only at c0 c1
      clear wk wn hx
      go_wp2_with fail
      refine (does_any w wr M R s kd nn HWK.out HWN.out B.out).mono ?_
      rintro e w3 ⟨rfl, hb3⟩
      obtain ⟨s', hs'⟩ : ∃ s', Hid (stp (pk kd 7) nn s = s') := ⟨_, rfl⟩
      rw [hs'.out] at hb3
      have B3 : Hid (Bz w w w3 (fun _ => False) M R s' s') := hb3
      clear hb3 B c0 c1
      go_wp2_with fail
      refine (runsB B3.out).mono ?_
      rintro e w4 ⟨v4, rfl, ho4, hb4, hf4⟩
      have B4 : Hid (Bz w w4 w4 (fun k => v4.ownBlock = some k) M R s' s') := B3.out.enter hb4 _ (fun k hk => ⟨hf4 k hk, (World.ownsRow.lt ho4 k hk).2⟩)
      have O4 : Hid (OwnsT w4 v4 (rr s'.lo s'.L s'.L.length)) := ho4
      clear ho4 hb4 hf4 B3
      by_cases hc0 : s'.L.count 0 = 0
      · have HTK : Hid (take s' = (0, false, s')) := by show _ = _; unfold take; rw [if_pos hc0]
        have HO5 : Hid (OwnsT w4 v4 []) := by rw [← rr_none s'.lo s'.L hc0]; exact O4.out
        obtain ⟨va, vcap, hve, _⟩ := HO5.out.rd
        simp only [List.length_nil] at hve
        subst hve
        clear hc0
        go_wp2_with fail
        refine (takeB B4.out).mono ?_
        rintro e w5 ⟨rfl, hb5⟩
        rw [HTK.out] at hb5 ⊢
        have B5 : Hid (Bz w w4 w5 (fun k => (Value.slice va 0 vcap).ownBlock = some k) M R s' s') := hb5
        simp only
        clear hb5 B4
        go_wp2_with fail
        refine (rtakeB B5.out.leave).mono ?_
        rintro e w6 ⟨rfl, hb6⟩
        rw [HTK.out] at hb6 ⊢
        have B6 : Hid (Bz w w w6 (fun _ => False) M R s' s') := hb6
        simp only
        clear hb6 B5
        go_wp2_with fail
        go_roundw
        case rel => exact ⟨k + 1, s', by omega, by first | rfl | go_num, B6⟩
        case measure => simp [intOf]; omega
      · obtain ⟨i, hi⟩ : ∃ i, Hid (s'.L.idxOf 0 = i) := ⟨_, rfl⟩
        obtain ⟨f1, f2⟩ := rr_first (lo := s'.lo) hc0
        obtain ⟨g1, g2, g3⟩ := first0 hc0
        rw [hi.out] at f2 g1
        obtain ⟨p, hp⟩ : ∃ p : Nat, Hid (s'.lo + i = p) := ⟨_, rfl⟩
        rw [hp.out] at f2
        have hp9 : p ≤ 65536 := by have := hp.out; have := B4.out.ok.top; omega
        have HTK : Hid (take s' = ((p : Int), true, ⟨s'.lo, s'.L.set i 1, s'.as - 1⟩)) := by show _ = _; unfold take; rw [if_neg hc0, hi.out, hp.out]
        have HPW : Hid ((Lit.int .i64 (p : Int)).wf = true) := by show _ = _; simp [Lit.wf, IntKind.min, IntKind.max, IntKind.signed, IntKind.bits]; omega
        obtain ⟨g, capr, rfl, _, hcr, hmr, hcc, _⟩ := O4.out.shape f1
        have x0 := (hcc 0 f1).1
        have x1 : ((rr s'.lo s'.L s'.L.length).getD 0 (0, 0)).1 = (p : Int) := f2
        rw [x1] at x0
        simp only [Nat.zero_mul] at x0
        obtain ⟨ln, hln⟩ : ∃ ln, Hid ((rr s'.lo s'.L s'.L.length).length = ln) := ⟨_, rfl⟩
        rw [hln.out] at f1 hcr B4 ⊢
        have HGB : Hid (g < w4.heap.size) := World.block_lt_of_cell? w4 ⟨g, 0, none⟩ x0
        have HX0 : Hid (w4.cell? ⟨g, 0, none⟩ = some (.int .i64 (p : Int))) := x0
        obtain ⟨s5, hs5⟩ : ∃ s5, Hid ((⟨s'.lo, s'.L.set i 1, s'.as - 1⟩ : St) = s5) := ⟨_, rfl⟩
        rw [hs5.out] at HTK
        unfold maxLen at hmr
        clear hc0 f2 g1 g2 g3 hcc x0 x1 O4
        go_wp2_with fail
        refine (takeB B4.out).mono ?_
        rintro e w5 ⟨rfl, hb5⟩
        rw [HTK.out] at hb5 ⊢
        have B5 : Hid (Bz w w4 w5 (fun k => (Value.slice (some ⟨g, 0, none⟩) ln capr).ownBlock = some k) M R s5 s') := hb5
        have x5 : w5.cell? ⟨g, 0, none⟩ = some (.int .i64 (p : Int)) := by
          rw [World.cell?_of_block (w := w4) (hb5.keep (k := g) rfl)]; exact HX0.out
        have hcmp : ((p : Int) != (p : Int)) = false := by simp
        simp only
        clear hb5 B4
        go_wp2_with fail
        refine (rtakeB B5.out.leave).mono ?_
        rintro e w6 ⟨rfl, hb6⟩
        rw [HTK.out] at hb6 ⊢
        have B6 : Hid (Bz w w w6 (fun _ => False) M R s5 s5) := hb6
        obtain ⟨_, _, e0, d0, d1, _, _⟩ := HR.out.at_ hb6.below0 HX.out
        cases e0
        simp only at d0 d1 ⊢
        clear hb6 B5 x5
        go_wp2_with fail
        refine (pick_any nn 3 HWN.out (by decide) w6).mono ?_
        rintro e w6 ⟨rfl, rfl⟩
        obtain ⟨z, hz⟩ : ∃ z, Hid (pk nn 3 = z) := ⟨_, rfl⟩
        rw [hz.out]
        by_cases hz0 : 0 < z
        · have hzd : decide (0 < z) = true := by simp [hz0]
          go_wp2_with fail
          refine (backB (p : Int) B6.out).mono ?_
          rintro e w7 ⟨rfl, hb7⟩
          have B7 : Hid (Bz w w w7 (fun _ => False) M R (back (p : Int) s5).2 s5) := hb7
          obtain ⟨y1, hy1⟩ : ∃ y, Hid ((back (p : Int) s5).1 = y) := ⟨_, rfl⟩
          rw [hy1.out]
          clear hb7 B6
          go_wp2_with fail
          refine (rbackB (p : Int) HPW.out B7.out).mono ?_
          rintro e w8 ⟨rfl, hb8⟩
          have B8 : Hid (Bz w w w8 (fun _ => False) M R (back (p : Int) s5).2 (back (p : Int) s5).2) := hb8
          rw [hy1.out]
          clear hb8 B7
          go_wp2_with fail
          go_roundw
          case rel => exact ⟨k + 1, _, by omega, by first | rfl | go_num, B8⟩
          case measure => simp [intOf]; omega
        · have hzd : decide (0 < z) = false := by simp [hz0]
          go_wp2_with fail
          go_roundw
          case rel => exact ⟨k + 1, s5, by omega, by first | rfl | go_num, B6⟩
          case measure => simp [intOf]; omega
    · have hd : decide (k < n) = false := by simp; omega
      go_wp2_with fail
      refine (lives_any _).mono ?_
      rintro e wl ⟨rfl, hbl⟩
      have HBL : Hid (Below w.heap.size w wl) := B.out.below0.trans ⟨hbl.os, hbl.tape, hbl.output, hbl.size, fun k hk => hbl.block k (by have := (B.out.below0).size; omega)⟩
      clear hbl
      go_wp2_with fail
      go_ret
      exact ⟨rfl, HBL.out⟩
end Go.Proofs.Ytamgogkkcbeaaaa
