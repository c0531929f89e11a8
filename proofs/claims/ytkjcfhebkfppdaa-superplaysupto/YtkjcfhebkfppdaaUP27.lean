import Derived.Test.YtkjcfhebkfppdaaUP24
import Derived.Test.YtkjcfhebkfppdaaUP26
import Derived.Test.YtkjcfhebkfppdaaUP15
import Derived.Test.YtkjcfhebkfppdaaUP23
import Derived.Test.YtkjcfhebkfppdaaUP20
import Derived.Deep.RegionHeld3
/-
  The document's Load and Save of superblocks.
-/
namespace Go.Proofs.Ytkjcfhebkfppdaa
open Go.RowKit Pl
set_option linter.unusedVariables false
set_option linter.unusedSimpArgs false
set_option maxRecDepth 100000

theorem Rf.box {R : Nat → Prop} {w : World} {r : Nat} {s : DS} (h : Rf R w r s) : ∃ lb cp, (∀ W, Below w.heap.size w W → W.cell? ⟨r, 0, none⟩ = some (.slice (some ⟨lb, 0, none⟩) s.L.length cp)) ∧ cp ≤ maxLen ∧ 1 ≤ s.L.length ∧ s.L.length ≤ 4096 := by
  obtain ⟨lb, cp, A, B, x, W, h⟩ := h
  have hc := h.c0
  have h2 : cp ≤ maxLen := by
    rcases h.row.2 with ⟨e, _⟩ | ⟨g, c, cur, e, _, _, _, hm, _⟩
    · cases e
    · simp only [Value.slice.injEq] at e
      rw [e.2.2]
      exact hm
  exact ⟨lb, cp, fun W hW => by rw [hW.cell (p := ⟨r, 0, none⟩) h.lt]; exact hc, h2, h.n1, h.n2⟩
theorem Rf.has_by {R : Nat → Prop} {w : World} {r : Nat} {s : DS} (h : Rf R w r s) (at_ : Int) : By (dhs s at_) := by
  obtain ⟨lb, cp, A, B, x, W, h⟩ := h
  unfold dhs
  by_cases c : at_ < 0 ∨ (s.L.length : Int) ≤ at_
  · rw [if_pos c]; exact by_of_memB (by simp)
  · rw [if_neg c]
    have hi : at_.toNat < s.L.length := by omega
    unfold DS.has
    by_cases e : s.V at_.toNat = []
    · rw [e]
      exact (h.okL.get hi).2
    · exact ((h.okV at_.toNat).last e _).2
theorem nbK_stop {s : DS} (h1 : 1 ≤ s.L.length) {k : Nat} (hk : k ≤ 2) (h : ¬ (k < 2 ∧ k < s.L.length)) : nbK s k = loadU s := by
  by_cases h2 : k = 2
  · rw [h2]; exact nbK_two s
  · have e : k = 1 := by omega
    subst e
    have hn : dhs s ((1 : Nat) : Int) = [] := by unfold dhs; rw [if_pos (by omega)]
    rw [← nbK_two]
    show nbK s 1 = nb _ (nbK s 1) (dhs s ((1 : Nat) : Int))
    rw [hn, nb_none (getU_len (by simp))]

set_option maxHeartbeats 1000000 in
theorem refLoad_anyU {R : Nat → Prop} {r : Nat} {s : DS} (w : World) (h : Rf R w r s) :
    Calls Try.prog 31 #[dp r] w fun e w' => LoadR (loadU s) w e w' := by
  have HD : Hid (Rf R w r s) := h
  obtain ⟨lb, cp, hbx, hcp, hn1, hn2⟩ := h.box
  have HBX := hideP hbx
  obtain ⟨n, hn⟩ : ∃ n, Hid (s.L.length = n) := ⟨_, rfl⟩
  rw [hn.out] at HBX hn1 hn2
  have hcp2 : Hid (cp ≤ maxLen) := hcp
  obtain ⟨W1, hW1⟩ : ∃ W1, w.alloc (.cells #[.int .i64 0, .int .i64 0, .int .i64 0, .slice none 0 0] 24) = W1 := ⟨_, rfl⟩
  obtain ⟨W2, hW2⟩ : ∃ W2, W1.alloc (.cells #[.int .i64 0, .int .i64 0, .int .i64 0, .slice none 0 0] 24) = W2 := ⟨_, rfl⟩
  have s1 : W1.heap.size = w.heap.size + 1 := by rw [← hW1]; simp
  have b1 : Below w.heap.size w W1 := by rw [← hW1]; exact (Below.refl _ _).alloc (Nat.le_refl _) _
  have b2 : Below W1.heap.size W1 W2 := by rw [← hW2]; exact (Below.refl _ _).alloc (Nat.le_refl _) _
  have B2 : Hid (Below w.heap.size w W2) := b1.trans (b2.mono (by omega))
  have U1 : Uv W1 w.heap.size sp0 (.slice none 0 0) := by rw [← hW1]; exact uv_new w sp0 _
  have Q2 : Hid (Uv W2 w.heap.size sp0 (.slice none 0 0)) := U1.below b2
  have U2 : Hid (Uv W2 (w.heap.size + 1) sp0 (.slice none 0 0)) := by rw [← hW2, ← s1]; exact uv_new W1 sp0 _
  have HW2 := hideP hW2
  clear h b1 b2 U1 hbx hcp hW2
  go_enter Try.func31, Try.ntmps31
  go_wp2_with fail
  rw [HW2.out]
  obtain ⟨g, hg⟩ : ∃ g, Hid (w.heap.size = g) := ⟨_, rfl⟩
  rw [hg.out] at Q2 U2 B2 ⊢
  clear hW1 s1 HW2
  go_loopw [5, 6] (fun fv i wr => ∃ (k : Nat) (a : Option Addr) (c : Nat) (T : Sp) (o : Option Sp), k ≤ 2 ∧ i = .int .i64 k ∧ fv = .bool o.isSome ∧ Hid (k ≤ n) ∧ Hid (nbK s k = o) ∧ Hid (o.getD sp0 = T) ∧ Hid (Uv wr (g + 1) T (.slice a T.vs.length c)) ∧ Hid (RdV wr (.slice a T.vs.length c) T.vs) ∧ Hid (∀ j, (Value.slice a T.vs.length c).ownBlock = some j → g + 1 < j) ∧ Hid (Uv wr g sp0 (.slice none 0 0)) ∧ Hid (Below g w wr)) (fun _ i _ => 2 - (intOf i).toNat)
  case atStart => exact ⟨0, none, 0, sp0, none, by decide, rfl, rfl, Nat.zero_le _, rfl, rfl, U2, rdV_nil _, (show Hid _ from fun j hj => by cases hj), Q2, B2⟩
  case round =>
    clear U2 Q2 B2
    obtain ⟨k, a, c, T, o, hk, rfl, rfl, HKN, HO, HT, U, R, N, Q, B⟩ := hrel
    have bx := HBX.out wr (by rw [hg.out]; exact B.out)
    by_cases hlt : k < 2 ∧ k < n
    · obtain ⟨hk2, hkn⟩ := hlt
      have hki : (k : Int) < 2 := by omega
      have hkj : (k : Int) < (n : Int) := by omega
      have HKN2 : Hid (k + 1 ≤ n) := hkn
      have hg1 : g + 1 < wr.heap.size := U.out.lt
      have HRR := hideP (refRead_all (k : Int) wr (HD.out.below (by rw [hg.out]; exact B.out)))
      go_wp2_with fail
      refine HRR.out.mono ?_
      rintro e w3 ⟨v3, rfl, o3, b3, _⟩
      obtain ⟨av, cv, hav, _⟩ := id o3.rd
      have HX : Hid (Rd .u8 w3 v3 (dhs s (k : Int))) := o3.rd
      have HXB : Hid (By (dhs s (k : Int))) := HD.out.has_by _
      rw [hav] at HX ⊢
      generalize (dhs s (k : Int)).length = lv at *
      clear o3 hav HRR bx
      go_wp2_with fail
      refine (refGetU_any _ _ w3 HX.out HXB.out).mono ?_
      intro e w4 h
      obtain ⟨a4, c4, rfl, r4, b4', n4'⟩ := getU_open h
      have b4 : Below wr.heap.size wr w4 := b3.trans (b4'.mono b3.size)
      have n4 : ∀ j, (Value.slice a4 ((getU (dhs s (k : Int))).getD sp0).vs.length c4).ownBlock = some j → wr.heap.size ≤ j := fun j hj => Nat.le_trans b3.size (n4' j hj)
      clear h b3 b4' n4'
      obtain ⟨G, hG⟩ : ∃ G, Hid (getU (dhs s (k : Int)) = G) := ⟨_, rfl⟩
      rw [hG.out] at r4 n4 ⊢
      obtain ⟨X, hX⟩ : ∃ X, Hid (G.getD sp0 = X) := ⟨_, rfl⟩
      rw [hX.out] at r4 n4 ⊢
      obtain ⟨q, hq⟩ : ∃ q, w4.heap.size = q := ⟨_, rfl⟩
      obtain ⟨W5, hW5⟩ : ∃ W5, w4.alloc (.cells #[.int .i64 X.gen, .int .i64 X.sc, .int .i64 X.nx, .slice a4 X.vs.length c4] 24) = W5 := ⟨_, rfl⟩
      have b5 : Below w4.heap.size w4 W5 := by rw [← hW5]; exact (Below.refl _ _).alloc (Nat.le_refl _) _
      have b45 : Below wr.heap.size wr W5 := b4.trans (b5.mono b4.size)
      have V5 : Hid (Uv W5 q X (.slice a4 X.vs.length c4)) := by rw [← hW5, ← hq]; exact uv_new w4 X _
      have Y5 : Hid (RdV W5 (.slice a4 X.vs.length c4) X.vs) := r4.below b5
      have U5 : Hid (Uv W5 (g + 1) T (.slice a T.vs.length c)) := U.out.below b45
      have R5 : Hid (RdV W5 (.slice a T.vs.length c) T.vs) := R.out.below b45
      have Q5 : Hid (Uv W5 g sp0 (.slice none 0 0)) := Q.out.below b45
      have B5 : Hid (Below g w W5) := B.out.trans (b45.mono (by omega))
      have NX : Hid (∀ j, (Value.slice a4 X.vs.length c4).ownBlock = some j → g + 1 < j) := fun j hj => by have := n4 j hj; omega
      have bx5 := HBX.out W5 (by rw [hg.out]; exact B5.out)
      have v0 := V5.out.c0
      have v1 := V5.out.c1
      have v2 := V5.out.c2
      have v3 := V5.out.c3
      have t0 := U5.out.c0
      obtain ⟨m, hm⟩ : ∃ m, Hid (T.vs.length = m) := ⟨_, rfl⟩
      obtain ⟨tg, htg⟩ : ∃ m, Hid (T.gen = m) := ⟨_, rfl⟩
      obtain ⟨xm, hxm⟩ : ∃ m, Hid (X.vs.length = m) := ⟨_, rfl⟩
      obtain ⟨xg, hxg⟩ : ∃ m, Hid (X.gen = m) := ⟨_, rfl⟩
      obtain ⟨xc, hxc⟩ : ∃ m, Hid (X.sc = m) := ⟨_, rfl⟩
      obtain ⟨xn, hxn⟩ : ∃ m, Hid (X.nx = m) := ⟨_, rfl⟩
      unfold supv
      rw [hxm.out] at hW5 V5 Y5 NX v3 ⊢
      rw [hxg.out, hxc.out, hxn.out] at hW5 ⊢
      rw [hxg.out] at v0
      rw [hxc.out] at v1
      rw [hxn.out] at v2
      rw [hm.out] at U5 R5 N
      rw [htg.out] at t0
      clear r4 b4 n4 b5 b45 U R Q B HX hg1
      cases hGo : G with
      | none =>
        rw [hGo] at hG
        have HG : Hid (getU (dhs s (k : Int)) = none) := hG
        clear hGo hG hX
        simp only [Option.isSome_none]
        have HN : Hid (nbK s (k + 1) = o) := by
          show nb _ (nbK s k) _ = o
          rw [nb_none HG.out]
          exact HO.out
        go_wp2_with fail
        go_quiet (fail)
        have U7 : Hid (Uv (W5.drewN nq) (g + 1) T (.slice a m c)) := U5
        have R7 : Hid (RdV (W5.drewN nq) (.slice a m c) T.vs) := R5.out.below (Below.of_drewN _ _ _)
        have Q7 : Hid (Uv (W5.drewN nq) g sp0 (.slice none 0 0)) := Q5
        have B7 : Hid (Below g w (W5.drewN nq)) := B5.out.trans (Below.of_drewN _ _ _)
        rw [← hm.out] at U7 R7 N
        go_wp2_with fail
        exact ⟨⟨k + 1, a, c, T, o, by omega, by go_num, rfl, HKN2, HN, HT, U7, R7, N, Q7, B7⟩, by simp [intOf]; omega⟩
      | some t =>
        rw [hGo] at hG hX
        have HG : Hid (getU (dhs s (k : Int)) = some t) := hG
        obtain rfl : t = X := hX.out
        clear hGo hG hX
        simp only [Option.isSome_some]
        by_cases e1 : xc = (n : Int)
        · subst e1
          cases o with
          | none =>
            simp only [Option.isSome_none]
            have hz : tg < xg := by
              have h1 : T = sp0 := HT.out.symm
              rw [← htg.out, h1, ← hxg.out]
              exact (mayU_iff.1 (getU_some.1 HG.out).1).1.1
            have HN : Hid (nbK s (k + 1) = some t) := by
              show nb _ (nbK s k) _ = some t
              exact nb_take HG.out ⟨by rw [hxc.out, hn.out], by rw [HO.out, HT.out, htg.out, hxg.out]; exact hz⟩
            have t1 := U5.out.c1
            have t2 := U5.out.c2
            have t3 := U5.out.c3
            generalize T.sc = tsc at t1
            generalize T.nx = tnx at t2
            go_wp2_with fail
            go_quiet (fail)
            obtain ⟨W6, hW6⟩ : ∃ W6, Hid (W5.drewN nq = W6) := ⟨_, rfl⟩
            have U6 : Hid (Uv W6 (g + 1) T (.slice a m c)) := by rw [← hW6.out]; exact U5
            have V6 : Hid (Uv W6 q t (.slice a4 xm c4)) := by rw [← hW6.out]; exact V5
            have Y6 : Hid (RdV W6 (.slice a4 xm c4) t.vs) := by rw [← hW6.out]; exact Y5.out.below (Below.of_drewN _ _ _)
            have Q6 : Hid (Uv W6 g sp0 (.slice none 0 0)) := by rw [← hW6.out]; exact Q5
            have B6 : Hid (Below g w W6) := by rw [← hW6.out]; exact B5.out.trans (Below.of_drewN _ _ _)
            rw [hW6.out]
            clear v0 v1 v2 v3 t0 t1 t2 t3 U5 V5 Y5 Q5 B5 hW6 hW5 hq
            have v0 := V6.out.c0
            have v1 := V6.out.c1
            have v2 := V6.out.c2
            have v3 := V6.out.c3
            have t0 := U6.out.c0
            have t1 := U6.out.c1
            have t2 := U6.out.c2
            have t3 := U6.out.c3
            have f0 := U6.out.fz 0
            have f1 := U6.out.fz 1
            have f2 := U6.out.fz 2
            have f3 := U6.out.fz 3
            have HP := hideP (U6.out.put t (.slice a4 xm c4))
            have HTS := hideP (U6.out.tset t (.slice a4 xm c4))
            have Y8 := hideP (Y6.out.tch HTS.out (fun j hj e => by have := NX.out j hj; have e3 : j = g + 1 := e; omega))
            have Q8 := hideP (Q6.out.tch HTS.out (by omega))
            have B8 := hideP (B6.out.trans (HTS.out.below (by have := Q6.out.lt; omega) (fun j e => by rw [e]; omega)))
            rw [hxg.out, hxc.out, hxn.out] at HP HTS Y8 Q8 B8
            rw [hxg.out] at v0
            rw [hxc.out] at v1
            rw [hxn.out] at v2
            clear U6 V6 Y6 Q6 B6
            generalize T.gen = tg2 at t0
            generalize T.sc = tsc at t1
            generalize T.nx = tnx at t2
            go_wp2_with fail
            exact ⟨⟨k + 1, a4, c4, t, some t, by omega, by go_num, rfl, HKN2, HN, rfl, by rw [hxm.out]; exact HP, by rw [hxm.out]; exact Y8, by rw [hxm.out]; exact NX, Q8, B8⟩, by simp [intOf]; omega⟩
          | some ob =>
            simp only [Option.isSome_some]
            by_cases e2 : xg > tg
            · have e2b : tg < xg := e2
              have HN : Hid (nbK s (k + 1) = some t) := by
                show nb _ (nbK s k) _ = some t
                exact nb_take HG.out ⟨by rw [hxc.out, hn.out], by rw [HO.out, HT.out, htg.out, hxg.out]; exact e2b⟩
              have t1 := U5.out.c1
              have t2 := U5.out.c2
              have t3 := U5.out.c3
              generalize T.sc = tsc at t1
              generalize T.nx = tnx at t2
              go_wp2_with fail
              go_quiet (fail)
              obtain ⟨W6, hW6⟩ : ∃ W6, Hid (W5.drewN nq = W6) := ⟨_, rfl⟩
              have U6 : Hid (Uv W6 (g + 1) T (.slice a m c)) := by rw [← hW6.out]; exact U5
              have V6 : Hid (Uv W6 q t (.slice a4 xm c4)) := by rw [← hW6.out]; exact V5
              have Y6 : Hid (RdV W6 (.slice a4 xm c4) t.vs) := by rw [← hW6.out]; exact Y5.out.below (Below.of_drewN _ _ _)
              have Q6 : Hid (Uv W6 g sp0 (.slice none 0 0)) := by rw [← hW6.out]; exact Q5
              have B6 : Hid (Below g w W6) := by rw [← hW6.out]; exact B5.out.trans (Below.of_drewN _ _ _)
              rw [hW6.out]
              clear v0 v1 v2 v3 t0 t1 t2 t3 U5 V5 Y5 Q5 B5 hW6 hW5 hq
              have v0 := V6.out.c0
              have v1 := V6.out.c1
              have v2 := V6.out.c2
              have v3 := V6.out.c3
              have t0 := U6.out.c0
              have t1 := U6.out.c1
              have t2 := U6.out.c2
              have t3 := U6.out.c3
              have f0 := U6.out.fz 0
              have f1 := U6.out.fz 1
              have f2 := U6.out.fz 2
              have f3 := U6.out.fz 3
              have HP := hideP (U6.out.put t (.slice a4 xm c4))
              have HTS := hideP (U6.out.tset t (.slice a4 xm c4))
              have Y8 := hideP (Y6.out.tch HTS.out (fun j hj e => by have := NX.out j hj; have e3 : j = g + 1 := e; omega))
              have Q8 := hideP (Q6.out.tch HTS.out (by omega))
              have B8 := hideP (B6.out.trans (HTS.out.below (by have := Q6.out.lt; omega) (fun j e => by rw [e]; omega)))
              rw [hxg.out, hxc.out, hxn.out] at HP HTS Y8 Q8 B8
              rw [hxg.out] at v0
              rw [hxc.out] at v1
              rw [hxn.out] at v2
              clear U6 V6 Y6 Q6 B6
              generalize T.gen = tg2 at t0
              generalize T.sc = tsc at t1
              generalize T.nx = tnx at t2
              go_wp2_with fail
              exact ⟨⟨k + 1, a4, c4, t, some t, by omega, by go_num, rfl, HKN2, HN, rfl, by rw [hxm.out]; exact HP, by rw [hxm.out]; exact Y8, by rw [hxm.out]; exact NX, Q8, B8⟩, by simp [intOf]; omega⟩
            · have e2d : decide (xg > tg) = false := decide_eq_false e2
              have e2f : decide (tg < xg) = false := decide_eq_false e2
              have hcn : ¬ (t.sc = (s.L.length : Int) ∧ ((nbK s k).getD sp0).gen < t.gen) := fun h => e2 (by have := h.2; rw [HO.out, HT.out, htg.out, hxg.out] at this; exact this)
              have HCN := hideP hcn
              clear hcn
              have HN : Hid (nbK s (k + 1) = some ob) := by
                show nb _ (nbK s k) _ = some ob
                rw [nb_skip HG.out HCN.out]
                exact HO.out
              go_wp2_with fail
              go_quiet (fail)
              have U7 : Hid (Uv (W5.drewN nq) (g + 1) T (.slice a m c)) := U5
              have R7 : Hid (RdV (W5.drewN nq) (.slice a m c) T.vs) := R5.out.below (Below.of_drewN _ _ _)
              have Q7 : Hid (Uv (W5.drewN nq) g sp0 (.slice none 0 0)) := Q5
              have B7 : Hid (Below g w (W5.drewN nq)) := B5.out.trans (Below.of_drewN _ _ _)
              rw [← hm.out] at U7 R7 N
              go_wp2_with fail
              exact ⟨⟨k + 1, a, c, T, some ob, by omega, by go_num, rfl, HKN2, HN, HT, U7, R7, N, Q7, B7⟩, by simp [intOf]; omega⟩
        · have e1b : (xc == (n : Int)) = false := by rw [beq_eq_false_iff_ne]; exact e1
          have hcn : ¬ (t.sc = (s.L.length : Int) ∧ ((nbK s k).getD sp0).gen < t.gen) := fun h => e1 (by rw [← hxc.out, ← hn.out]; exact h.1)
          have HCN := hideP hcn
          clear hcn
          have HN : Hid (nbK s (k + 1) = o) := by
            show nb _ (nbK s k) _ = o
            rw [nb_skip HG.out HCN.out]
            exact HO.out
          go_wp2_with fail
          go_quiet (fail)
          have U7 : Hid (Uv (W5.drewN nq) (g + 1) T (.slice a m c)) := U5
          have R7 : Hid (RdV (W5.drewN nq) (.slice a m c) T.vs) := R5.out.below (Below.of_drewN _ _ _)
          have Q7 : Hid (Uv (W5.drewN nq) g sp0 (.slice none 0 0)) := Q5
          have B7 : Hid (Below g w (W5.drewN nq)) := B5.out.trans (Below.of_drewN _ _ _)
          rw [← hm.out] at U7 R7 N
          go_wp2_with fail
          exact ⟨⟨k + 1, a, c, T, o, by omega, by go_num, rfl, HKN2, HN, HT, U7, R7, N, Q7, B7⟩, by simp [intOf]; omega⟩
    · by_cases hk2 : k < 2
      · have HLU : Hid (loadU s = o) := by
          show _ = _
          rw [← HO.out]
          exact (nbK_stop (by rw [hn.out]; exact hn1) hk (by rw [hn.out]; exact hlt)).symm
        have t0 := U.out.c0
        have t1 := U.out.c1
        have t2 := U.out.c2
        have t3 := U.out.c3
        have q0 : wr.cell? ⟨g, 0, none⟩ = some (.int .i64 0) := Q.out.c0
        have q1 : wr.cell? ⟨g, 1, none⟩ = some (.int .i64 0) := Q.out.c1
        have q2 : wr.cell? ⟨g, 2, none⟩ = some (.int .i64 0) := Q.out.c2
        have q3 := Q.out.c3
        have f0 := Q.out.fz 0
        have f1 := Q.out.fz 1
        have f2 := Q.out.fz 2
        have f3 := Q.out.fz 3
        have hki : (k : Int) < 2 := by omega
        have hkd : decide ((k : Int) < (n : Int)) = false := by rw [decide_eq_false_iff_not]; omega
        have hke : decide (k < n) = false := by rw [decide_eq_false_iff_not]; omega
        clear hlt hk2
        cases o with
        | none =>
          obtain rfl : sp0 = T := HT.out
          simp only [Option.isSome_none]
          have HLD := hideP (Q.out.put sp0 (.slice none 0 0)).load
          have HBE := hideP (B.out.trans ((Q.out.tset sp0 (.slice none 0 0)).below (by have := Q.out.lt; omega) (fun j e => by omega)))
          clear t0 t1 t2 t3
          go_wp2_with fail
          refine bodyPost_ret (v := .tuple #[supv sp0 (.slice none 0 0), .int .i64 7]) (results_cellV (p := 2) (ty := 24) rfl _ _ _ g _ _ rfl HLD.out rfl) rfl ?_
          rw [HLU.out]
          exact ⟨none, 0, rfl, rdV_nil _, by rw [hg.out]; exact HBE.out, fun j hj => by cases hj⟩
        | some x =>
          obtain rfl : x = T := HT.out
          simp only [Option.isSome_some]
          have HLD := hideP (Q.out.put x (.slice a x.vs.length c)).load
          have HTS := hideP (Q.out.tset x (.slice a x.vs.length c))
          have HBE := hideP (B.out.trans (HTS.out.below (by have := Q.out.lt; omega) (fun j e => by omega)))
          have HRE := hideP (R.out.tch HTS.out (fun j hj e => by have e2 : j = g := e; have := N.out j hj; omega))
          obtain ⟨l, hl⟩ : ∃ l, Hid (x.vs.length = l) := ⟨_, rfl⟩
          obtain ⟨xg, hxg⟩ : ∃ m, Hid (x.gen = m) := ⟨_, rfl⟩
          obtain ⟨xc, hxc⟩ : ∃ m, Hid (x.sc = m) := ⟨_, rfl⟩
          obtain ⟨xn, hxn⟩ : ∃ m, Hid (x.nx = m) := ⟨_, rfl⟩
          rw [hxg.out, hxc.out, hxn.out] at HLD HTS HBE HRE
          rw [hl.out] at HLD HTS HBE HRE t3 N
          rw [hxg.out] at t0
          rw [hxc.out] at t1
          rw [hxn.out] at t2
          clear U R Q B
          go_wp2_with fail
          refine bodyPost_ret (v := .tuple #[supv x (.slice a l c), .int .i64 0]) (results_cellV (p := 2) (ty := 24) rfl _ _ _ g _ _ rfl HLD.out rfl) rfl ?_
          rw [HLU.out]
          refine ⟨a, c, by rw [← hl.out]; rfl, by show RdV _ (.slice a x.vs.length c) x.vs; rw [hl.out]; exact HRE.out, by rw [hg.out]; exact HBE.out, fun j hj => by rw [← hl.out] at N; have := N.out j hj; rw [hg.out]; omega⟩
      · have HLU : Hid (loadU s = o) := by
          show _ = _
          rw [← HO.out]
          exact (nbK_stop (by rw [hn.out]; exact hn1) hk (by rw [hn.out]; exact hlt)).symm
        have t0 := U.out.c0
        have t1 := U.out.c1
        have t2 := U.out.c2
        have t3 := U.out.c3
        have q0 : wr.cell? ⟨g, 0, none⟩ = some (.int .i64 0) := Q.out.c0
        have q1 : wr.cell? ⟨g, 1, none⟩ = some (.int .i64 0) := Q.out.c1
        have q2 : wr.cell? ⟨g, 2, none⟩ = some (.int .i64 0) := Q.out.c2
        have q3 := Q.out.c3
        have f0 := Q.out.fz 0
        have f1 := Q.out.fz 1
        have f2 := Q.out.fz 2
        have f3 := Q.out.fz 3
        have hkd : decide ((k : Int) < 2) = false := by rw [decide_eq_false_iff_not]; omega
        clear hlt hk2
        cases o with
        | none =>
          obtain rfl : sp0 = T := HT.out
          simp only [Option.isSome_none]
          have HLD := hideP (Q.out.put sp0 (.slice none 0 0)).load
          have HBE := hideP (B.out.trans ((Q.out.tset sp0 (.slice none 0 0)).below (by have := Q.out.lt; omega) (fun j e => by omega)))
          clear t0 t1 t2 t3
          go_wp2_with fail
          refine bodyPost_ret (v := .tuple #[supv sp0 (.slice none 0 0), .int .i64 7]) (results_cellV (p := 2) (ty := 24) rfl _ _ _ g _ _ rfl HLD.out rfl) rfl ?_
          rw [HLU.out]
          exact ⟨none, 0, rfl, rdV_nil _, by rw [hg.out]; exact HBE.out, fun j hj => by cases hj⟩
        | some x =>
          obtain rfl : x = T := HT.out
          simp only [Option.isSome_some]
          have HLD := hideP (Q.out.put x (.slice a x.vs.length c)).load
          have HTS := hideP (Q.out.tset x (.slice a x.vs.length c))
          have HBE := hideP (B.out.trans (HTS.out.below (by have := Q.out.lt; omega) (fun j e => by omega)))
          have HRE := hideP (R.out.tch HTS.out (fun j hj e => by have e2 : j = g := e; have := N.out j hj; omega))
          obtain ⟨l, hl⟩ : ∃ l, Hid (x.vs.length = l) := ⟨_, rfl⟩
          obtain ⟨xg, hxg⟩ : ∃ m, Hid (x.gen = m) := ⟨_, rfl⟩
          obtain ⟨xc, hxc⟩ : ∃ m, Hid (x.sc = m) := ⟨_, rfl⟩
          obtain ⟨xn, hxn⟩ : ∃ m, Hid (x.nx = m) := ⟨_, rfl⟩
          rw [hxg.out, hxc.out, hxn.out] at HLD HTS HBE HRE
          rw [hl.out] at HLD HTS HBE HRE t3 N
          rw [hxg.out] at t0
          rw [hxc.out] at t1
          rw [hxn.out] at t2
          clear U R Q B
          go_wp2_with fail
          refine bodyPost_ret (v := .tuple #[supv x (.slice a l c), .int .i64 0]) (results_cellV (p := 2) (ty := 24) rfl _ _ _ g _ _ rfl HLD.out rfl) rfl ?_
          rw [HLU.out]
          refine ⟨a, c, by rw [← hl.out]; rfl, by show RdV _ (.slice a x.vs.length c) x.vs; rw [hl.out]; exact HRE.out, by rw [hg.out]; exact HBE.out, fun j hj => by rw [← hl.out] at N; have := N.out j hj; rw [hg.out]; omega⟩
end Go.Proofs.Ytkjcfhebkfppdaa
/-
  The document's Save of superblocks.
-/
namespace Go.Proofs.Ytkjcfhebkfppdaa
open Go.RowKit Pl
set_option linter.unusedVariables false
set_option linter.unusedSimpArgs false
set_option maxRecDepth 100000

theorem Rf.to_below {R : Nat → Prop} {w w' : World} {r : Nat} {s : DS} (h : Rf R w r s) (hb : Below w.heap.size w w') : RfTo R w w' r s :=
  ⟨R, h.below hb, Tch.of_below hb, fun _ e => .inl e⟩

set_option maxHeartbeats 1000000 in
theorem refSave_anyU {R : Nat → Prop} {r : Nat} {s : DS} (t : Sp) (v : Value) (w : World) (h : Rf R w r s) (hr : RdV w v t.vs) (hm : ∀ i, (s.V i).length < 274877906943) :
    Calls Try.prog 21 #[dp r, supv t v] w fun e w' => e = .returned (.int .i64 (sco s t)) ∧ RfTo R w w' r (svv s t) := by
  obtain ⟨a, cap, rfl, _⟩ := id hr
  have HD : Hid (Rf R w r s) := h
  have HR : Hid (RdV w (.slice a t.vs.length cap) t.vs) := hr
  have HV : Hid (∀ i, (s.V i).length < 274877906943) := hm
  obtain ⟨lb, cp, hbx, hcp, hn1, hn2⟩ := h.box
  have HBX := hideP hbx
  obtain ⟨W1, hW1⟩ : ∃ W1, w.alloc (.cells #[.int .i64 t.gen, .int .i64 t.sc, .int .i64 t.nx, .slice a t.vs.length cap] 24) = W1 := ⟨_, rfl⟩
  have B1 : Hid (Below w.heap.size w W1) := by rw [← hW1]; exact (Below.refl _ _).alloc (Nat.le_refl _) _
  have U1 : Hid (Uv W1 w.heap.size t (.slice a t.vs.length cap)) := by rw [← hW1]; exact uv_new w t _
  obtain ⟨n, hn⟩ : ∃ n, Hid (s.L.length = n) := ⟨_, rfl⟩
  rw [hn.out] at HBX hn1 hn2
  have HPU : Hid (∀ W, Below w.heap.size w W → Calls Try.prog 9 #[supv t (.slice a t.vs.length cap)] W fun e w' => PutV t W e w') := fun W h => refPutU_any t _ W (HR.out.below h)
  unfold supv at HPU
  unfold supv
  obtain ⟨l, hl⟩ : ∃ l, Hid (t.vs.length = l) := ⟨_, rfl⟩
  obtain ⟨ge, hge⟩ : ∃ l, Hid (t.gen = l) := ⟨_, rfl⟩
  obtain ⟨sc, hsc⟩ : ∃ l, Hid (t.sc = l) := ⟨_, rfl⟩
  obtain ⟨nx, hnx⟩ : ∃ l, Hid (t.nx = l) := ⟨_, rfl⟩
  rw [hl.out, hge.out, hsc.out, hnx.out] at hW1 HPU ⊢
  rw [hl.out] at U1
  obtain ⟨cd, hcd⟩ : ∃ c, Hid (sco s t = c) := ⟨_, rfl⟩
  obtain ⟨fs, hfs⟩ : ∃ c, Hid (svv s t = c) := ⟨_, rfl⟩
  rw [hcd.out, hfs.out]
  have q0 := U1.out.c0
  have q1 := U1.out.c1
  have q2 := U1.out.c2
  have q3 := U1.out.c3
  rw [hge.out] at q0
  rw [hsc.out] at q1
  rw [hnx.out] at q2
  clear h hr hm hbx
  go_enter Try.func21, Try.ntmps21
  go_wp2_with fail
  refine (HPU.out W1 B1.out).mono ?_
  rintro e w3 ⟨v3, c3, rfl, b3, n3, h3⟩
  have U3 : Hid (Uv w3 w.heap.size t (.slice a l cap)) := U1.out.below b3
  have B3 : Hid (Below w.heap.size w w3) := B1.out.trans (b3.mono B1.out.size)
  have bx := HBX.out w3 B3.out
  clear q0 q1 q2 q3 hW1
  have q0 := U3.out.c0
  have q1 := U3.out.c1
  rw [hge.out] at q0
  rw [hsc.out] at q1
  rcases h3 with ⟨hmt, rfl, wb3⟩ | ⟨hmt, rfl, rfl⟩
  rotate_left
  · have HC1 : Hid (cd = 1 ∧ fs = s) := by
      rw [← hcd.out, ← hfs.out]
      show sco s t = 1 ∧ svv s t = s
      unfold sco svv
      rw [if_neg (fun h => by rw [hmt] at h; cases h.1), if_neg (fun h => by rw [hmt] at h; cases h.1)]
      exact ⟨rfl, rfl⟩
    clear hmt b3 n3
    go_wp2_with fail
    go_quiet (fail)
    go_wp2_with fail
    go_ret
    exact ⟨by rw [HC1.out.1]; rfl, by rw [HC1.out.2]; exact HD.out.to_below (B3.out.trans (Below.of_drewN _ _ _))⟩
  by_cases e1 : sc = (n : Int)
  rotate_left
  · have HC1 : Hid (cd = 1 ∧ fs = s) := by
      rw [← hcd.out, ← hfs.out]
      show sco s t = 1 ∧ svv s t = s
      unfold sco svv
      rw [if_neg (fun h => e1 (by rw [← hsc.out, ← hn.out]; exact h.2)), if_neg (fun h => e1 (by rw [← hsc.out, ← hn.out]; exact h.2))]
      exact ⟨rfl, rfl⟩
    have e1b : (sc != (n : Int)) = true := by simp [e1]
    clear e1 hmt b3 n3 wb3
    go_wp2_with fail
    go_quiet (fail)
    go_wp2_with fail
    go_ret
    exact ⟨by rw [HC1.out.1]; rfl, by rw [HC1.out.2]; exact HD.out.to_below (B3.out.trans (Below.of_drewN _ _ _))⟩
  · have e1b : (sc != (n : Int)) = false := by simp [e1]
    have HE1 : Hid (sc = (n : Int)) := e1
    subst e1
    obtain ⟨hh, _⟩ := mayU_iff.1 hmt
    have hge1 : 1 ≤ ge := by rw [← hge.out]; exact hh.1
    have hge2 : ge ≤ 4294967295 := by rw [← hge.out]; exact hh.2.1
    have hn128 : 128 ≤ n := by have := hh.2.2.2.2.1; rw [hsc.out] at this; omega
    have HUL : Hid ((usec t).length = 256) := usec_len hh.2.2.2.2.2.2
    have hcond : mayU t = true ∧ t.sc = (s.L.length : Int) := ⟨hmt, by rw [hsc.out, hn.out]⟩
    have HC1 : Hid (cd = 0 ∧ fs = (wrr s (ge % 2) (usec t)).fl) := by
      rw [← hcd.out, ← hfs.out, ← hge.out]
      show sco s t = 0 ∧ svv s t = _
      unfold sco svv
      rw [if_pos hcond, if_pos hcond]
      exact ⟨rfl, rfl⟩
    have X3 : Hid (Rd .u8 w3 v3 (usec t)) := wb3.rd
    have HSD := HD.out.rlt
    have N3 : Hid (∀ k, v3.ownBlock = some k → ¬ R k) := fun k hk hS => by have h1 := n3 k hk; have h2 := HSD k hS; have h3 := B1.out.size; omega
    obtain ⟨av, cv, hav, _⟩ := id X3.out
    rw [HUL.out] at hav
    rw [hav] at X3 N3 ⊢
    clear hmt hh hcond HSD wb3 b3 n3 hav
    go_wp2_with fail
    go_quiet (fail)
    obtain ⟨W4, hW4⟩ : ∃ W4, Hid (w3.drewN nq = W4) := ⟨_, rfl⟩
    have B4 : Hid (Below w.heap.size w W4) := by rw [← hW4.out]; exact B3.out.trans (Below.of_drewN _ _ _)
    have X4 : Hid (Rd .u8 W4 (.slice av 256 cv) (usec t)) := by rw [← hW4.out]; exact X3.out.below (Below.of_drewN _ _ _)
    have p0 : W4.cell? ⟨w.heap.size, 0, none⟩ = some (.int .i64 ge) := by rw [← hW4.out]; exact q0
    rw [hW4.out]
    have hwr := refWrite_all (ge % 2) (.slice av 256 cv) (usec t) W4 (HD.out.below B4.out) X4.out (usec_by t) N3.out HV.out
    have hco : wco s (ge % 2) (usec t).length = 0 := by unfold wco; rw [if_neg (by rw [hn.out]; omega), if_pos HUL.out]
    rw [hco] at hwr
    have HW := hideP hwr
    obtain ⟨z, hrr⟩ : ∃ z, ge % 2 = z := ⟨_, rfl⟩
    have htm : ge.tmod 2 = z := by rw [Int.tmod_eq_emod_of_nonneg (by omega), hrr]
    rw [hrr] at HW HC1
    clear hwr hco hrr q0 q1 bx hW4 U3 X3
    go_wp2_with fail
    refine HW.out.mono ?_
    rintro e w5 ⟨rfl, R5, d5, t5, n5⟩
    have HFL := hideP (refFlush_any w5 d5)
    have T5 := hideP t5
    have N5 := hideP n5
    have D5 := hideP d5
    clear d5 t5 n5 p0 HW
    go_wp2_with fail
    refine HFL.out.mono ?_
    rintro e w6 ⟨rfl, d6⟩
    have D6 := hideP d6
    clear d6 HFL
    go_wp2_with fail
    go_ret
    refine ⟨by rw [HC1.out.1]; rfl, ?_⟩
    rw [HC1.out.2]
    have h1 : RfTo R W4 w6 r (wrr s z (usec t)).fl := RfTo.trans D5.out T5.out N5.out D6.out
    exact RfTo.trans (HD.out.below B4.out) (Tch.of_below B4.out) (fun _ e => .inl e) h1
end Go.Proofs.Ytkjcfhebkfppdaa
/-
  Superblocks are saved and loaded as the document says.
-/
namespace Go.Proofs.Ytkjcfhebkfppdaa
open Go.RowKit Go.Maps
set_option linter.unusedVariables false
set_option linter.unusedSimpArgs false
set_option maxRecDepth 100000

/-- What a deed leaves. -/
def ustp (s : DS) (x : Ud) : DS := match pk x.kind 5 with | 0 => svv s x.su | 1 => (if mayU x.su = true then wrr s x.at_ (usec x.su) else s) | 2 => s.fl | 3 => s.pw x.ps | 4 => rtt s x.at_ | _ => s

theorem wrr_V {s : DS} (at_ : Int) (b : List Int) {k : Nat} (h : ∀ i, (s.V i).length ≤ k) : ∀ i, ((wrr s at_ b).V i).length ≤ k + 1 := by
  intro i
  have hi := h i
  unfold wrr
  split
  · omega
  · split
    · have := wr_V_le s at_.toNat b i; omega
    · omega
theorem ustp_V {s : DS} (x : Ud) (hV : ∀ i, s.L.length ≤ i → s.V i = []) {k : Nat} (h : ∀ i, (s.V i).length ≤ k) : ∀ i, ((ustp s x).V i).length ≤ k + 1 := by
  intro i
  have hi := h i
  unfold ustp
  split
  · unfold svv
    split
    · have := fl_V_le (wrr s (x.su.gen % 2) (usec x.su)) i
      have := wrr_V (x.su.gen % 2) (usec x.su) h i
      omega
    · omega
  · split
    · exact wrr_V _ _ h i
    · omega
  · have := fl_V_le s i; omega
  · rw [pw_V s x.ps hV i]; simp
  · unfold rtt
    split
    · omega
    · unfold DS.rot vput
      dsimp only
      split
      · rename_i e; rw [List.length_map, ← e]; omega
      · omega
  · omega

/-- Both are new. -/
theorem bt_new {w w1 w2 : World} {d r : Nat} {S R : Nat → Prop} {n : Nat} (hd : Dk S w1 d (DS.new n)) (hb1 : Below w.heap.size w w1) (hs : ∀ k, S k → w.heap.size ≤ k) (hr : Rf R w2 r (DS.new n)) (hb2 : Below w1.heap.size w1 w2) (hr2 : ∀ k, R k → w1.heap.size ≤ k) : Bt S R w w2 d r (DS.new n) (DS.new n) :=
  ⟨hd.below hb2, hr, fun k hk e => by have := hd.slt k hk; have := hr2 k e; omega, hb1.trans (hb2.mono hb1.size), hs, fun k hk => Nat.le_trans hb1.size (hr2 k hk)⟩

/-- The deed as cells. -/
def udc (x : Ud) : Array Value := #[.int .i64 x.kind, .int .i64 x.su.gen, .int .i64 x.su.sc, .int .i64 x.su.nx, x.sv, .int .i64 x.at_, x.pv]

/-- Both disks, and the deed's own block. -/
structure Us (S R : Nat → Prop) (w0 w : World) (d r q : Nat) (x : Ud) (s t : DS) : Prop where
  bt : Bt S R w0 w d r s t
  nS : ¬ S q
  nR : ¬ R q
  box : w.heap[q]? = some (.cells (udc x) 45 (0, 0))
  q0 : w0.heap.size ≤ q

section
variable {S R : Nat → Prop} {w0 w w' : World} {d r q : Nat} {x : Ud} {s t : DS}
theorem Us.lt (h : Us S R w0 w d r q x s t) : q < w.heap.size := (Array.getElem?_eq_some_iff.1 h.box).1
theorem Us.tch (h : Us S R w0 w d r q x s t) {T : Nat → Prop} (ht : Tch T w w') (hS : ∀ k, T k → ¬ S k ∧ ¬ R k ∧ w0.heap.size ≤ k) (hq : ¬ T q) : Us S R w0 w' d r q x s t :=
  ⟨h.bt.tch ht hS, h.nS, h.nR, by rw [ht.block q h.lt hq]; exact h.box, h.q0⟩
theorem Us.below (h : Us S R w0 w d r q x s t) (hb : Below w.heap.size w w') : Us S R w0 w' d r q x s t := h.tch (T := fun _ => False) (Tch.of_below hb) (fun _ e => e.elim) (fun e => e)
theorem Us.drew (h : Us S R w0 w d r q x s t) : Us S R w0 w.drew d r q x s t := h.tch (T := fun _ => False) (Tch.drew (Tch.refl _ w)) (fun _ e => e.elim) (fun e => e)
theorem Us.dkTo (h : Us S R w0 w d r q x s t) {s' : DS} (hd : DkTo S w w' d s') : ∃ S', Us S' R w0 w' d r q x s' t ∧ Tch S w w' ∧ ∀ k, S' k → S k ∨ w.heap.size ≤ k := by
  obtain ⟨S', h1, h2, h3⟩ := h.bt.dkTo hd
  refine ⟨S', ⟨h1, fun e => ?_, h.nR, by rw [h2.block q h.lt h.nS]; exact h.box, h.q0⟩, h2, h3⟩
  rcases h3 q e with e2 | e2
  · exact h.nS e2
  · have := h.lt; omega
theorem Us.rfTo (h : Us S R w0 w d r q x s t) {t' : DS} (hd : RfTo R w w' r t') : ∃ R', Us S R' w0 w' d r q x s t' ∧ Tch R w w' ∧ ∀ k, R' k → R k ∨ w.heap.size ≤ k := by
  obtain ⟨R', h1, h2, h3⟩ := h.bt.rfTo hd
  refine ⟨R', ⟨h1, h.nS, fun e => ?_, by rw [h2.block q h.lt h.nR]; exact h.box, h.q0⟩, h2, h3⟩
  rcases h3 q e with e2 | e2
  · exact h.nR e2
  · have := h.lt; omega
theorem Us.free (h : Us S R w0 w d r q x s t) {k : Nat} (hk : w.heap.size ≤ k) : ¬ S k ∧ ¬ R k ∧ w0.heap.size ≤ k ∧ k ≠ q :=
  ⟨fun e => by have := h.bt.dk.slt k e; omega, fun e => by have := h.bt.rf.rlt k e; omega, Nat.le_trans h.bt.be.size hk, fun e => by have := h.lt; omega⟩
theorem Us.cells (h : Us S R w0 w d r q x s t) : w.cell? ⟨q, 0, none⟩ = some (.int .i64 x.kind) ∧ w.cell? ⟨q, 1, none⟩ = some (.int .i64 x.su.gen) ∧ w.cell? ⟨q, 2, none⟩ = some (.int .i64 x.su.sc) ∧ w.cell? ⟨q, 3, none⟩ = some (.int .i64 x.su.nx) ∧ w.cell? ⟨q, 4, none⟩ = some x.sv ∧ w.cell? ⟨q, 5, none⟩ = some (.int .i64 x.at_) ∧ w.cell? ⟨q, 6, none⟩ = some x.pv := by
  have hb := h.box
  exact ⟨cell_of_row w q 0 _ _ (0, 0) hb, cell_of_row w q 1 _ _ (0, 0) hb, cell_of_row w q 2 _ _ (0, 0) hb, cell_of_row w q 3 _ _ (0, 0) hb, cell_of_row w q 4 _ _ (0, 0) hb, cell_of_row w q 5 _ _ (0, 0) hb, cell_of_row w q 6 _ _ (0, 0) hb⟩
end

set_option maxHeartbeats 4000000 in
theorem superPlays_walk (lv : Value) (xs : List Ud) (w : World) (hr : RdU w lv xs) (hl : xs.length ≤ 1048576) :
    Calls Try.prog 5 #[lv] w fun e w' => e = .returned (.bool true) ∧ Below w.heap.size w w' := by
  have HR : Hid (RdU w lv xs) := hr
  obtain ⟨la, lcap, rfl, hl1, hl2, hl3⟩ := hr
  obtain ⟨t, ht⟩ : ∃ t, xs.length = t := ⟨_, rfl⟩
  have HT : Hid (xs.length = t) := ht
  have htl : t ≤ 1048576 := by omega
  rw [ht] at HR ⊢
  clear hl1 hl2 hl3 ht hl
  have HLV := hideP (fun w => lives_anyU w)
  have HNEW := hideP (new_ok 128 w (by omega) (by omega))
  have HRN := hideP (fun w => refNew_ok 128 w (by omega) (by omega))
  go_enter Try.func5, Try.ntmps5
  go_wp2_with fail
  refine HNEW.out.mono ?_
  clear HNEW
  rintro e w1 ⟨d, S1, rfl, hd1, hb1, hs1⟩
  have D1 : Hid (Dk S1 w1 d (DS.new 128) ∧ Below w.heap.size w w1 ∧ ∀ k, S1 k → w.heap.size ≤ k) := ⟨hd1, hb1, hs1⟩
  clear hd1 hb1 hs1
  go_wp2_with fail
  refine (HRN.out _).mono ?_
  clear HRN
  rintro e w2 ⟨r, R1, rfl, hr2, hb2, hs2⟩
  have I0 : Hid (Bt S1 R1 w w2 d r (DS.new 128) (DS.new 128)) := bt_new D1.out.1 D1.out.2.1 D1.out.2.2 hr2 hb2 hs2
  clear hr2 hb2 hs2 D1
  go_wp2_with fail
  go_loopw [7] (fun iv wr => ∃ (k : Nat) (S R : Nat → Prop) (s : DS), k ≤ t ∧ iv = .int .i64 k ∧ Hid (Bt S R w wr d r s s) ∧ Hid (∀ i, (s.V i).length ≤ k)) (fun iv _ => t - (intOf iv).toNat)
  case atStart => exact ⟨0, S1, R1, _, Nat.zero_le _, rfl, I0, fun i => Nat.le_refl _⟩
  case round =>
    clear I0
    obtain ⟨k, S, R, s, hk, rfl, I, HV⟩ := hrel
    by_cases hkt : k < t
    · have hki : (k : Int) < (t : Int) := by omega
      have hk0 : (0 : Int) ≤ (k : Int) := by omega
      obtain ⟨xb, xo, rfl, DC, DW⟩ := HR.out.at_ I.out.be (k := k) (by rw [HT.out]; exact hkt)
      obtain ⟨x, hx⟩ : ∃ x, xs[k]'(by rw [HT.out]; exact hkt) = x := ⟨_, rfl⟩
      rw [hx] at DC DW
      have HDW := hideP DW
      obtain ⟨c0, c1, c2, c3, c4, c5, c6, hok, hrv, hrd⟩ := DC
      clear hx DW
      obtain ⟨kind, su, sv, at_, pv, ps⟩ := x
      dsimp only at *
      obtain ⟨sa, sc, rfl, _⟩ := id hrv
      obtain ⟨pa, pc, rfl, _⟩ := id hrd
      have HPK : Hid (∀ W, Calls Try.prog 19 #[.int .i64 kind, .int .i64 ((5 : Nat) : Int)] W fun e w' => e = .returned (.int .i64 (pk kind 5 : Int)) ∧ w' = W) := fun W => pick_any kind 5 (by decide) (by decide) hok.k W
      have HAW : Hid ((Lit.int .i64 at_).wf = true) := hok.a
      have HV1 : Hid (∀ i, (s.V i).length < 274877906943) := fun i => by have := HV.out i; omega
      have HV2 : Hid (∀ i, (s.V i).length < 274877906944) := fun i => by have := HV.out i; omega
      have HVS : Hid (∀ i, ((ustp s ⟨kind, su, .slice sa su.vs.length sc, at_, .slice pa ps.length pc, ps⟩).V i).length ≤ k + 1) := ustp_V _ (Dk.out_V I.out.dk) HV.out
      have HST : Hid (ustp s ⟨kind, su, .slice sa su.vs.length sc, at_, .slice pa ps.length pc, ps⟩ = match pk kind 5 with | 0 => svv s su | 1 => (if mayU su = true then wrr s at_ (usec su) else s) | 2 => s.fl | 3 => s.pw ps | 4 => rtt s at_ | _ => s) := rfl
      have hlt := pk_lt kind (n := 5) (by decide)
      obtain ⟨kk, hkk⟩ : ∃ kk, pk kind 5 = kk := ⟨_, rfl⟩
      rw [hkk] at HPK HST hlt
      generalize ustp s ⟨kind, su, .slice sa su.vs.length sc, at_, .slice pa ps.length pc, ps⟩ = s' at HST HVS
      have HRS : Hid (∀ W, Below w.heap.size w W → RdV W (.slice sa su.vs.length sc) su.vs) := fun W h => HDW.out.rv.below h
      have HRP : Hid (∀ W, Below w.heap.size w W → Rd .i64 W (.slice pa ps.length pc) ps) := fun W h => HDW.out.rd.below h
      have HPN : Hid (∀ (T : Nat → Prop), (∀ k, T k → w.heap.size ≤ k) → ∀ k, (Value.slice pa ps.length pc).ownBlock = some k → ps ≠ [] → ¬ T k) := fun T hT k hk h0 e => by
        have := HDW.out.rd.blk h0 k hk
        have := hT k e
        omega
      obtain ⟨l, hl⟩ : ∃ m, Hid (su.vs.length = m) := ⟨_, rfl⟩
      obtain ⟨pl, hpl⟩ : ∃ m, Hid (ps.length = m) := ⟨_, rfl⟩
      rw [hl.out] at HRS c4
      rw [hpl.out] at HRP HPN c6
      obtain ⟨q, hq⟩ : ∃ q, wr.heap.size = q := ⟨_, rfl⟩
      obtain ⟨W0, hW0⟩ : ∃ W0, wr.alloc (.cells #[.int .i64 kind, .int .i64 su.gen, .int .i64 su.sc, .int .i64 su.nx, .slice sa l sc, .int .i64 at_, .slice pa pl pc] 45) = W0 := ⟨_, rfl⟩
      have D0 : Hid (Us S R w W0 d r q ⟨kind, su, .slice sa l sc, at_, .slice pa pl pc, ps⟩ s s) := by
        have hb : Below wr.heap.size wr W0 := by rw [← hW0]; exact (Below.refl _ _).alloc (Nat.le_refl _) _
        refine ⟨I.out.below hb, fun e => ?_, fun e => ?_, by rw [← hW0, ← hq]; exact heap_alloc_new wr _, by rw [← hq]; exact I.out.be.size⟩
        · have := I.out.dk.slt q e; omega
        · have := I.out.rf.rlt q e; omega
      have HW0 := hideP hW0
      have HQ := hideP hq
      clear hW0 hq hok hrv hrd I HV hkk HDW
      have HCA : kk = 0 ∨ kk = 1 ∨ kk = 2 ∨ kk = 3 ∨ kk = 4 := by omega
      clear hlt
      rcases HCA with rfl | rfl | rfl | rfl | rfl
      · replace HST : Hid (s' = svv s su) := HST
        obtain ⟨q0, q1, q2, q3, q4, q5, q6⟩ := D0.out.cells
        dsimp only at q0 q1 q2 q3 q4 q5 q6
        go_wp2_with fail
        rw [HW0.out, HQ.out]
        clear HW0 HQ
        refine (HPK.out _).mono ?_
        rintro e W0 ⟨rfl, rfl⟩
        clear HPK
        have HSV : Hid (∀ W, Below w.heap.size w W → Dk S W d s → Calls Try.prog 20 #[dp d, .agg #[.int .i64 su.gen, .int .i64 su.sc, .int .i64 su.nx, .slice sa l sc]] W fun e w' => e = .returned (.int .i64 (sco s su)) ∧ DkTo S W w' d (svv s su)) := fun W hb hd => save_anyU su (.slice sa l sc) W hd (HRS.out W hb) HV1.out
        have HSW : Hid (∀ W, Below w.heap.size w W → Rf R W r s → Calls Try.prog 21 #[dp r, .agg #[.int .i64 su.gen, .int .i64 su.sc, .int .i64 su.nx, .slice sa l sc]] W fun e w' => e = .returned (.int .i64 (sco s su)) ∧ RfTo R W w' r (svv s su)) := fun W hb hd => refSave_anyU su (.slice sa l sc) W hd (HRS.out W hb) HV1.out
        obtain ⟨cd0, hcd0⟩ : ∃ cd0, sco s su = cd0 := ⟨_, rfl⟩
        rw [hcd0] at HSV HSW
        clear hcd0
        go_wp2_with fail
        go_region_held3 (fun w' => w'.cell? ⟨q, 1, none⟩ = some (.int .i64 su.gen) ∧ w'.cell? ⟨q, 2, none⟩ = some (.int .i64 su.sc) ∧ w'.cell? ⟨q, 3, none⟩ = some (.int .i64 su.nx) ∧ w'.cell? ⟨q, 4, none⟩ = some (.slice sa l sc)) (go_keep)
          (first
            | (go_at_call 20; refine (HSV.out _ D0.out.drew.bt.be D0.out.drew.bt.dk).mono ?_; rintro e W3 ⟨rfl, hd3⟩; obtain ⟨S7, hD3, _, _⟩ := D0.out.drew.dkTo hd3; have D3 : Hid (Us S7 R w W3 d r q ⟨kind, su, .slice sa l sc, at_, .slice pa pl pc, ps⟩ s' s) := (by rw [HST.out]; exact hD3); clear hd3 hD3; obtain ⟨p0, p1, p2, p3, p4, p5, p6⟩ := D3.out.cells; dsimp only at p0 p1 p2 p3 p4 p5 p6)
            | (go_at_call 21; refine (HSW.out W3 D3.out.bt.be D3.out.bt.rf).mono ?_; rintro e W7 ⟨rfl, hd4⟩; obtain ⟨R7, hD4, _, _⟩ := D3.out.rfTo hd4; have D7 : Hid (Us S7 R7 w W7 d r q ⟨kind, su, .slice sa l sc, at_, .slice pa pl pc, ps⟩ s' s') := (by rw [HST.out] at hD4 ⊢; exact hD4); clear hd4 hD4; obtain ⟨r0, r1, r2, r3, r4, r5, r6⟩ := D7.out.cells; dsimp only at r0 r1 r2 r3 r4 r5 r6))
        clear D0 D3 HSV HSW
        have HLD := hideP (load_anyU W7 D7.out.bt.dk)
        go_wp2_with fail
        refine HLD.out.mono ?_
        clear HLD q0 q1 q2 q3 q4 q5 q6
        rintro e W8 ⟨a8, k8, rfl, r8, b8, n8⟩
        have D8 : Hid (Us S7 R7 w W8 d r q ⟨kind, su, .slice sa l sc, at_, .slice pa pl pc, ps⟩ s' s') := D7.out.below b8
        obtain ⟨o, ho⟩ : ∃ o, Hid (loadU s' = o) := ⟨_, rfl⟩
        rw [ho.out] at r8 ⊢
        obtain ⟨X, hX⟩ : ∃ X, Hid (o.getD sp0 = X) := ⟨_, rfl⟩
        rw [hX.out] at r8 ⊢
        obtain ⟨cd, hcd⟩ : ∃ cd : Int, Hid ((if o.isSome = true then (0 : Int) else 7) = cd) := ⟨_, rfl⟩
        rw [hcd.out]
        obtain ⟨W9, hW9⟩ : ∃ W9, W8.alloc (.cells #[.int .i64 X.gen, .int .i64 X.sc, .int .i64 X.nx, .slice a8 X.vs.length k8] 24) = W9 := ⟨_, rfl⟩
        obtain ⟨g9, hg9⟩ : ∃ g, W8.heap.size = g := ⟨_, rfl⟩
        have b9 : Below W8.heap.size W8 W9 := by rw [← hW9]; exact (Below.refl _ _).alloc (Nat.le_refl _) _
        have D9 : Hid (Us S7 R7 w W9 d r q ⟨kind, su, .slice sa l sc, at_, .slice pa pl pc, ps⟩ s' s') := D8.out.below b9
        have V9 : Hid (Uv W9 g9 X (.slice a8 X.vs.length k8)) := by rw [← hW9, ← hg9]; exact uv_new W8 X _
        have Y9 : Hid (RdV W9 (.slice a8 X.vs.length k8) X.vs) := r8.below b9
        have HRL := hideP (refLoad_anyU W9 D9.out.bt.rf)
        rw [ho.out] at HRL
        obtain ⟨xm, hxm⟩ : ∃ m, Hid (X.vs.length = m) := ⟨_, rfl⟩
        obtain ⟨xg, hxg⟩ : ∃ m, Hid (X.gen = m) := ⟨_, rfl⟩
        obtain ⟨xc, hxc⟩ : ∃ m, Hid (X.sc = m) := ⟨_, rfl⟩
        obtain ⟨xn, hxn⟩ : ∃ m, Hid (X.nx = m) := ⟨_, rfl⟩
        unfold supv
        rw [hxm.out] at hW9 V9 Y9 ⊢
        rw [hxg.out, hxc.out, hxn.out] at hW9 ⊢
        have HW9 := hideP hW9
        clear b8 n8 r8 b9 D8 D7 hW9
        go_wp2_with fail
        rw [HW9.out]
        refine HRL.out.mono ?_
        clear HRL HW9
        rintro e W10 ⟨a10, k10, rfl, r10, b10, n10⟩
        rw [hX.out] at r10 ⊢
        rw [hcd.out]
        have D10 : Hid (Us S7 R7 w W10 d r q ⟨kind, su, .slice sa l sc, at_, .slice pa pl pc, ps⟩ s' s') := D9.out.below b10
        have V10 : Hid (Uv W10 g9 X (.slice a8 xm k8)) := V9.out.below b10
        have Y10 : Hid (RdV W10 (.slice a8 xm k8) X.vs) := Y9.out.below b10
        clear V9 Y9 D9 hg9 b10
        obtain ⟨W11, hW11⟩ : ∃ W11, W10.alloc (.cells #[.int .i64 xg, .int .i64 xc, .int .i64 xn, .slice a10 xm k10] 24) = W11 := ⟨_, rfl⟩
        obtain ⟨g11, hg11⟩ : ∃ g, W10.heap.size = g := ⟨_, rfl⟩
        have b11 : Below W10.heap.size W10 W11 := by rw [← hW11]; exact (Below.refl _ _).alloc (Nat.le_refl _) _
        have D11 : Hid (Us S7 R7 w W11 d r q ⟨kind, su, .slice sa l sc, at_, .slice pa pl pc, ps⟩ s' s') := D10.out.below b11
        have V11 : Hid (Uv W11 g9 X (.slice a8 xm k8)) := V10.out.below b11
        have Y11 : Hid (RdV W11 (.slice a8 xm k8) X.vs) := Y10.out.below b11
        have V12 : Hid (Uv W11 g11 X (.slice a10 xm k10)) := by rw [← hW11, ← hg11, ← hxg.out, ← hxc.out, ← hxn.out]; exact uv_new W10 X _
        rw [hxm.out] at r10 ⊢
        have Y12 : Hid (RdV W11 (.slice a10 xm k10) X.vs) := r10.below b11
        have hsm := refSameU_any X X _ _ W11 Y11.out Y12.out
        rw [decide_eq_true (show X = X from rfl)] at hsm
        have HSM := hideP hsm
        clear hsm
        unfold supv at HSM
        unfold supv
        rw [hxg.out, hxc.out, hxn.out] at HSM ⊢
        have v0 := V11.out.c0
        have v1 := V11.out.c1
        have v2 := V11.out.c2
        have v3 := V11.out.c3
        have u0 := V12.out.c0
        have u1 := V12.out.c1
        have u2 := V12.out.c2
        have u3 := V12.out.c3
        rw [hxg.out] at v0 u0
        rw [hxc.out] at v1 u1
        rw [hxn.out] at v2 u2
        clear n10 r10 b11 D10 V10 Y10
        go_wp2_with fail
        refine HSM.out.mono ?_
        rintro e W13 ⟨rfl, b13⟩
        have I13 : Hid (Bt S7 R7 w W13 d r s' s') := D11.out.bt.below b13
        clear HSM b13 D11 V11 Y11 V12 Y12 v0 v1 v2 v3 u0 u1 u2 u3 hW11 hg11
        go_wp2_with fail
        exact ⟨⟨k + 1, S7, R7, s', by omega, by go_num, I13, HVS⟩, by simp [intOf]; omega⟩
      · replace HST : Hid (s' = if mayU su = true then wrr s at_ (usec su) else s) := HST
        obtain ⟨q0, q1, q2, q3, q4, q5, q6⟩ := D0.out.cells
        dsimp only at q0 q1 q2 q3 q4 q5 q6
        go_wp2_with fail
        rw [HW0.out, HQ.out]
        clear HW0 HQ
        refine (HPK.out _).mono ?_
        rintro e W0 ⟨rfl, rfl⟩
        clear HPK
        have HPU : Hid (∀ W, Below w.heap.size w W → Calls Try.prog 9 #[.agg #[.int .i64 su.gen, .int .i64 su.sc, .int .i64 su.nx, .slice sa l sc]] W fun e w' => PutV su W e w') := fun W hb => refPutU_any su (.slice sa l sc) W (HRS.out W hb)
        go_wp2_with fail
        refine (HPU.out _ D0.out.bt.be).mono ?_
        clear HPU q0 q1 q2 q3 q4 q5 q6
        rintro e W1 ⟨v1, c1, rfl, b1, n1, h1⟩
        have D1 : Hid (Us S R w W1 d r q ⟨kind, su, .slice sa l sc, at_, .slice pa pl pc, ps⟩ s s) := D0.out.below b1
        have F1 : Hid (∀ k, v1.ownBlock = some k → ¬ S k ∧ ¬ R k ∧ w.heap.size ≤ k ∧ k ≠ q) := fun k hk => D0.out.free (n1 k hk)
        clear n1 b1 D0
        obtain ⟨q0, q1, q2, q3, q4, q5, q6⟩ := D1.out.cells
        dsimp only at q0 q1 q2 q3 q4 q5 q6
        rcases h1 with ⟨hmt, rfl, wb⟩ | ⟨hmt, rfl, rfl⟩
        · have HUL : Hid ((usec su).length = 256) := usec_len (mayU_iff.1 hmt).1.2.2.2.2.2.2
          replace HST : Hid (s' = wrr s at_ (usec su)) := by rw [HST.out, if_pos hmt]; rfl
          have LT : Hid (∀ k, v1.ownBlock = some k → k < W1.heap.size) := wb.lt
          have O1 : Hid (Owns .u8 5 W1 v1 (usec su)) := wb
          have HWR := hideP (write_all at_ v1 (usec su) W1 D1.out.bt.dk wb.rd (usec_by su) (fun k hk => (F1.out k hk).1) HV1.out)
          obtain ⟨oa, oc, hov, hol, hom, _⟩ := wb.rd
          rw [HUL.out] at hov HWR
          subst hov
          generalize wco s at_ 256 = cw at HWR
          clear wb hol hom hmt
          go_wp2_with fail
          refine HWR.out.mono ?_
          clear HWR q0 q1 q2 q3 q4 q5 q6
          rintro e W3 ⟨rfl, hd3⟩
          obtain ⟨S7, hD3, ht3, hs3⟩ := D1.out.dkTo hd3
          have D3 : Hid (Us S7 R w W3 d r q ⟨kind, su, .slice sa l sc, at_, .slice pa pl pc, ps⟩ s' s) := by rw [HST.out]; exact hD3
          have O3 : Hid (Owns .u8 5 W3 (.slice oa 256 oc) (usec su)) := O1.out.tch ht3 (fun k hk => (F1.out k hk).1)
          have HWS := hideP (refWrite_all at_ (.slice oa 256 oc) (usec su) W3 D3.out.bt.rf O3.out.rd (usec_by su) (fun k hk => (F1.out k hk).2.1) HV1.out)
          generalize wco s at_ (usec su).length = cw2 at HWS
          clear hd3 hD3 ht3 hs3 D1 O1 O3 LT
          obtain ⟨q0, q1, q2, q3, q4, q5, q6⟩ := D3.out.cells
          dsimp only at q0 q1 q2 q3 q4 q5 q6
          go_wp2_with fail
          refine HWS.out.mono ?_
          clear HWS q0 q1 q2 q3 q4 q5 q6
          rintro e W7 ⟨rfl, hd4⟩
          obtain ⟨R7, hD4, _, _⟩ := D3.out.rfTo hd4
          have D7 : Hid (Us S7 R7 w W7 d r q ⟨kind, su, .slice sa l sc, at_, .slice pa pl pc, ps⟩ s' s') := by rw [HST.out] at hD4 ⊢; exact hD4
          clear hd4 hD4 D3 F1
          obtain ⟨q0, q1, q2, q3, q4, q5, q6⟩ := D7.out.cells
          dsimp only at q0 q1 q2 q3 q4 q5 q6
          have HLD := hideP (load_anyU W7 D7.out.bt.dk)
          go_wp2_with fail
          refine HLD.out.mono ?_
          clear HLD q0 q1 q2 q3 q4 q5 q6
          rintro e W8 ⟨a8, k8, rfl, r8, b8, n8⟩
          have D8 : Hid (Us S7 R7 w W8 d r q ⟨kind, su, .slice sa l sc, at_, .slice pa pl pc, ps⟩ s' s') := D7.out.below b8
          obtain ⟨o, ho⟩ : ∃ o, Hid (loadU s' = o) := ⟨_, rfl⟩
          rw [ho.out] at r8 ⊢
          obtain ⟨X, hX⟩ : ∃ X, Hid (o.getD sp0 = X) := ⟨_, rfl⟩
          rw [hX.out] at r8 ⊢
          obtain ⟨cd, hcd⟩ : ∃ cd : Int, Hid ((if o.isSome = true then (0 : Int) else 7) = cd) := ⟨_, rfl⟩
          rw [hcd.out]
          obtain ⟨W9, hW9⟩ : ∃ W9, W8.alloc (.cells #[.int .i64 X.gen, .int .i64 X.sc, .int .i64 X.nx, .slice a8 X.vs.length k8] 24) = W9 := ⟨_, rfl⟩
          obtain ⟨g9, hg9⟩ : ∃ g, W8.heap.size = g := ⟨_, rfl⟩
          have b9 : Below W8.heap.size W8 W9 := by rw [← hW9]; exact (Below.refl _ _).alloc (Nat.le_refl _) _
          have D9 : Hid (Us S7 R7 w W9 d r q ⟨kind, su, .slice sa l sc, at_, .slice pa pl pc, ps⟩ s' s') := D8.out.below b9
          have V9 : Hid (Uv W9 g9 X (.slice a8 X.vs.length k8)) := by rw [← hW9, ← hg9]; exact uv_new W8 X _
          have Y9 : Hid (RdV W9 (.slice a8 X.vs.length k8) X.vs) := r8.below b9
          have HRL := hideP (refLoad_anyU W9 D9.out.bt.rf)
          rw [ho.out] at HRL
          obtain ⟨xm, hxm⟩ : ∃ m, Hid (X.vs.length = m) := ⟨_, rfl⟩
          obtain ⟨xg, hxg⟩ : ∃ m, Hid (X.gen = m) := ⟨_, rfl⟩
          obtain ⟨xc, hxc⟩ : ∃ m, Hid (X.sc = m) := ⟨_, rfl⟩
          obtain ⟨xn, hxn⟩ : ∃ m, Hid (X.nx = m) := ⟨_, rfl⟩
          unfold supv
          rw [hxm.out] at hW9 V9 Y9 ⊢
          rw [hxg.out, hxc.out, hxn.out] at hW9 ⊢
          have HW9 := hideP hW9
          clear b8 n8 r8 b9 D8 D7 hW9
          go_wp2_with fail
          rw [HW9.out]
          refine HRL.out.mono ?_
          clear HRL HW9
          rintro e W10 ⟨a10, k10, rfl, r10, b10, n10⟩
          rw [hX.out] at r10 ⊢
          rw [hcd.out]
          have D10 : Hid (Us S7 R7 w W10 d r q ⟨kind, su, .slice sa l sc, at_, .slice pa pl pc, ps⟩ s' s') := D9.out.below b10
          have V10 : Hid (Uv W10 g9 X (.slice a8 xm k8)) := V9.out.below b10
          have Y10 : Hid (RdV W10 (.slice a8 xm k8) X.vs) := Y9.out.below b10
          clear V9 Y9 D9 hg9 b10
          obtain ⟨W11, hW11⟩ : ∃ W11, W10.alloc (.cells #[.int .i64 xg, .int .i64 xc, .int .i64 xn, .slice a10 xm k10] 24) = W11 := ⟨_, rfl⟩
          obtain ⟨g11, hg11⟩ : ∃ g, W10.heap.size = g := ⟨_, rfl⟩
          have b11 : Below W10.heap.size W10 W11 := by rw [← hW11]; exact (Below.refl _ _).alloc (Nat.le_refl _) _
          have D11 : Hid (Us S7 R7 w W11 d r q ⟨kind, su, .slice sa l sc, at_, .slice pa pl pc, ps⟩ s' s') := D10.out.below b11
          have V11 : Hid (Uv W11 g9 X (.slice a8 xm k8)) := V10.out.below b11
          have Y11 : Hid (RdV W11 (.slice a8 xm k8) X.vs) := Y10.out.below b11
          have V12 : Hid (Uv W11 g11 X (.slice a10 xm k10)) := by rw [← hW11, ← hg11, ← hxg.out, ← hxc.out, ← hxn.out]; exact uv_new W10 X _
          rw [hxm.out] at r10 ⊢
          have Y12 : Hid (RdV W11 (.slice a10 xm k10) X.vs) := r10.below b11
          have hsm := refSameU_any X X _ _ W11 Y11.out Y12.out
          rw [decide_eq_true (show X = X from rfl)] at hsm
          have HSM := hideP hsm
          clear hsm
          unfold supv at HSM
          unfold supv
          rw [hxg.out, hxc.out, hxn.out] at HSM ⊢
          have v0 := V11.out.c0
          have v1 := V11.out.c1
          have v2 := V11.out.c2
          have v3 := V11.out.c3
          have u0 := V12.out.c0
          have u1 := V12.out.c1
          have u2 := V12.out.c2
          have u3 := V12.out.c3
          rw [hxg.out] at v0 u0
          rw [hxc.out] at v1 u1
          rw [hxn.out] at v2 u2
          clear n10 r10 b11 D10 V10 Y10
          go_wp2_with fail
          refine HSM.out.mono ?_
          rintro e W13 ⟨rfl, b13⟩
          have I13 : Hid (Bt S7 R7 w W13 d r s' s') := D11.out.bt.below b13
          clear HSM b13 D11 V11 Y11 V12 Y12 v0 v1 v2 v3 u0 u1 u2 u3 hW11 hg11
          go_wp2_with fail
          exact ⟨⟨k + 1, S7, R7, s', by omega, by go_num, I13, HVS⟩, by simp [intOf]; omega⟩
        · replace HST : Hid (s' = s) := by rw [HST.out, if_neg (by rw [hmt]; decide)]; rfl
          obtain ⟨W7, hW7⟩ : ∃ W7, W1 = W7 := ⟨_, rfl⟩
          subst hW7
          have D7 : Hid (Us S R w W1 d r q ⟨kind, su, .slice sa l sc, at_, .slice pa pl pc, ps⟩ s' s') := by rw [HST.out]; exact D1.out
          clear D1 F1 hmt
          have HLD := hideP (load_anyU W1 D7.out.bt.dk)
          go_wp2_with fail
          refine HLD.out.mono ?_
          clear HLD q0 q1 q2 q3 q4 q5 q6
          rintro e W8 ⟨a8, k8, rfl, r8, b8, n8⟩
          have D8 : Hid (Us S R w W8 d r q ⟨kind, su, .slice sa l sc, at_, .slice pa pl pc, ps⟩ s' s') := D7.out.below b8
          obtain ⟨o, ho⟩ : ∃ o, Hid (loadU s' = o) := ⟨_, rfl⟩
          rw [ho.out] at r8 ⊢
          obtain ⟨X, hX⟩ : ∃ X, Hid (o.getD sp0 = X) := ⟨_, rfl⟩
          rw [hX.out] at r8 ⊢
          obtain ⟨cd, hcd⟩ : ∃ cd : Int, Hid ((if o.isSome = true then (0 : Int) else 7) = cd) := ⟨_, rfl⟩
          rw [hcd.out]
          obtain ⟨W9, hW9⟩ : ∃ W9, W8.alloc (.cells #[.int .i64 X.gen, .int .i64 X.sc, .int .i64 X.nx, .slice a8 X.vs.length k8] 24) = W9 := ⟨_, rfl⟩
          obtain ⟨g9, hg9⟩ : ∃ g, W8.heap.size = g := ⟨_, rfl⟩
          have b9 : Below W8.heap.size W8 W9 := by rw [← hW9]; exact (Below.refl _ _).alloc (Nat.le_refl _) _
          have D9 : Hid (Us S R w W9 d r q ⟨kind, su, .slice sa l sc, at_, .slice pa pl pc, ps⟩ s' s') := D8.out.below b9
          have V9 : Hid (Uv W9 g9 X (.slice a8 X.vs.length k8)) := by rw [← hW9, ← hg9]; exact uv_new W8 X _
          have Y9 : Hid (RdV W9 (.slice a8 X.vs.length k8) X.vs) := r8.below b9
          have HRL := hideP (refLoad_anyU W9 D9.out.bt.rf)
          rw [ho.out] at HRL
          obtain ⟨xm, hxm⟩ : ∃ m, Hid (X.vs.length = m) := ⟨_, rfl⟩
          obtain ⟨xg, hxg⟩ : ∃ m, Hid (X.gen = m) := ⟨_, rfl⟩
          obtain ⟨xc, hxc⟩ : ∃ m, Hid (X.sc = m) := ⟨_, rfl⟩
          obtain ⟨xn, hxn⟩ : ∃ m, Hid (X.nx = m) := ⟨_, rfl⟩
          unfold supv
          rw [hxm.out] at hW9 V9 Y9 ⊢
          rw [hxg.out, hxc.out, hxn.out] at hW9 ⊢
          have HW9 := hideP hW9
          clear b8 n8 r8 b9 D8 D7 hW9
          go_wp2_with fail
          rw [HW9.out]
          refine HRL.out.mono ?_
          clear HRL HW9
          rintro e W10 ⟨a10, k10, rfl, r10, b10, n10⟩
          rw [hX.out] at r10 ⊢
          rw [hcd.out]
          have D10 : Hid (Us S R w W10 d r q ⟨kind, su, .slice sa l sc, at_, .slice pa pl pc, ps⟩ s' s') := D9.out.below b10
          have V10 : Hid (Uv W10 g9 X (.slice a8 xm k8)) := V9.out.below b10
          have Y10 : Hid (RdV W10 (.slice a8 xm k8) X.vs) := Y9.out.below b10
          clear V9 Y9 D9 hg9 b10
          obtain ⟨W11, hW11⟩ : ∃ W11, W10.alloc (.cells #[.int .i64 xg, .int .i64 xc, .int .i64 xn, .slice a10 xm k10] 24) = W11 := ⟨_, rfl⟩
          obtain ⟨g11, hg11⟩ : ∃ g, W10.heap.size = g := ⟨_, rfl⟩
          have b11 : Below W10.heap.size W10 W11 := by rw [← hW11]; exact (Below.refl _ _).alloc (Nat.le_refl _) _
          have D11 : Hid (Us S R w W11 d r q ⟨kind, su, .slice sa l sc, at_, .slice pa pl pc, ps⟩ s' s') := D10.out.below b11
          have V11 : Hid (Uv W11 g9 X (.slice a8 xm k8)) := V10.out.below b11
          have Y11 : Hid (RdV W11 (.slice a8 xm k8) X.vs) := Y10.out.below b11
          have V12 : Hid (Uv W11 g11 X (.slice a10 xm k10)) := by rw [← hW11, ← hg11, ← hxg.out, ← hxc.out, ← hxn.out]; exact uv_new W10 X _
          rw [hxm.out] at r10 ⊢
          have Y12 : Hid (RdV W11 (.slice a10 xm k10) X.vs) := r10.below b11
          have hsm := refSameU_any X X _ _ W11 Y11.out Y12.out
          rw [decide_eq_true (show X = X from rfl)] at hsm
          have HSM := hideP hsm
          clear hsm
          unfold supv at HSM
          unfold supv
          rw [hxg.out, hxc.out, hxn.out] at HSM ⊢
          have v0 := V11.out.c0
          have v1 := V11.out.c1
          have v2 := V11.out.c2
          have v3 := V11.out.c3
          have u0 := V12.out.c0
          have u1 := V12.out.c1
          have u2 := V12.out.c2
          have u3 := V12.out.c3
          rw [hxg.out] at v0 u0
          rw [hxc.out] at v1 u1
          rw [hxn.out] at v2 u2
          clear n10 r10 b11 D10 V10 Y10
          go_wp2_with fail
          refine HSM.out.mono ?_
          rintro e W13 ⟨rfl, b13⟩
          have I13 : Hid (Bt S R w W13 d r s' s') := D11.out.bt.below b13
          clear HSM b13 D11 V11 Y11 V12 Y12 v0 v1 v2 v3 u0 u1 u2 u3 hW11 hg11
          go_wp2_with fail
          exact ⟨⟨k + 1, S, R, s', by omega, by go_num, I13, HVS⟩, by simp [intOf]; omega⟩
      · replace HST : Hid (s' = s.fl) := HST
        obtain ⟨q0, q1, q2, q3, q4, q5, q6⟩ := D0.out.cells
        dsimp only at q0 q1 q2 q3 q4 q5 q6
        go_wp2_with fail
        rw [HW0.out, HQ.out]
        clear HW0 HQ
        refine (HPK.out _).mono ?_
        rintro e W0 ⟨rfl, rfl⟩
        clear HPK
        go_wp2_with fail
        refine (flush_any _ D0.out.bt.dk).mono ?_
        clear q0 q1 q2 q3 q4 q5 q6
        rintro e W3 ⟨rfl, hd3⟩
        obtain ⟨S7, hD3, _, _⟩ := D0.out.dkTo hd3
        have D3 : Hid (Us S7 R w W3 d r q ⟨kind, su, .slice sa l sc, at_, .slice pa pl pc, ps⟩ s' s) := by rw [HST.out]; exact hD3
        clear hd3 hD3 D0
        obtain ⟨q0, q1, q2, q3, q4, q5, q6⟩ := D3.out.cells
        dsimp only at q0 q1 q2 q3 q4 q5 q6
        go_wp2_with fail
        refine (refFlush_any _ D3.out.bt.rf).mono ?_
        clear q0 q1 q2 q3 q4 q5 q6
        rintro e W7 ⟨rfl, hd4⟩
        obtain ⟨R7, hD4, _, _⟩ := D3.out.rfTo hd4
        have D7 : Hid (Us S7 R7 w W7 d r q ⟨kind, su, .slice sa l sc, at_, .slice pa pl pc, ps⟩ s' s') := by rw [HST.out] at hD4 ⊢; exact hD4
        clear hd4 hD4 D3
        obtain ⟨q0, q1, q2, q3, q4, q5, q6⟩ := D7.out.cells
        dsimp only at q0 q1 q2 q3 q4 q5 q6
        have HLD := hideP (load_anyU W7 D7.out.bt.dk)
        go_wp2_with fail
        refine HLD.out.mono ?_
        clear HLD q0 q1 q2 q3 q4 q5 q6
        rintro e W8 ⟨a8, k8, rfl, r8, b8, n8⟩
        have D8 : Hid (Us S7 R7 w W8 d r q ⟨kind, su, .slice sa l sc, at_, .slice pa pl pc, ps⟩ s' s') := D7.out.below b8
        obtain ⟨o, ho⟩ : ∃ o, Hid (loadU s' = o) := ⟨_, rfl⟩
        rw [ho.out] at r8 ⊢
        obtain ⟨X, hX⟩ : ∃ X, Hid (o.getD sp0 = X) := ⟨_, rfl⟩
        rw [hX.out] at r8 ⊢
        obtain ⟨cd, hcd⟩ : ∃ cd : Int, Hid ((if o.isSome = true then (0 : Int) else 7) = cd) := ⟨_, rfl⟩
        rw [hcd.out]
        obtain ⟨W9, hW9⟩ : ∃ W9, W8.alloc (.cells #[.int .i64 X.gen, .int .i64 X.sc, .int .i64 X.nx, .slice a8 X.vs.length k8] 24) = W9 := ⟨_, rfl⟩
        obtain ⟨g9, hg9⟩ : ∃ g, W8.heap.size = g := ⟨_, rfl⟩
        have b9 : Below W8.heap.size W8 W9 := by rw [← hW9]; exact (Below.refl _ _).alloc (Nat.le_refl _) _
        have D9 : Hid (Us S7 R7 w W9 d r q ⟨kind, su, .slice sa l sc, at_, .slice pa pl pc, ps⟩ s' s') := D8.out.below b9
        have V9 : Hid (Uv W9 g9 X (.slice a8 X.vs.length k8)) := by rw [← hW9, ← hg9]; exact uv_new W8 X _
        have Y9 : Hid (RdV W9 (.slice a8 X.vs.length k8) X.vs) := r8.below b9
        have HRL := hideP (refLoad_anyU W9 D9.out.bt.rf)
        rw [ho.out] at HRL
        obtain ⟨xm, hxm⟩ : ∃ m, Hid (X.vs.length = m) := ⟨_, rfl⟩
        obtain ⟨xg, hxg⟩ : ∃ m, Hid (X.gen = m) := ⟨_, rfl⟩
        obtain ⟨xc, hxc⟩ : ∃ m, Hid (X.sc = m) := ⟨_, rfl⟩
        obtain ⟨xn, hxn⟩ : ∃ m, Hid (X.nx = m) := ⟨_, rfl⟩
        unfold supv
        rw [hxm.out] at hW9 V9 Y9 ⊢
        rw [hxg.out, hxc.out, hxn.out] at hW9 ⊢
        have HW9 := hideP hW9
        clear b8 n8 r8 b9 D8 D7 hW9
        go_wp2_with fail
        rw [HW9.out]
        refine HRL.out.mono ?_
        clear HRL HW9
        rintro e W10 ⟨a10, k10, rfl, r10, b10, n10⟩
        rw [hX.out] at r10 ⊢
        rw [hcd.out]
        have D10 : Hid (Us S7 R7 w W10 d r q ⟨kind, su, .slice sa l sc, at_, .slice pa pl pc, ps⟩ s' s') := D9.out.below b10
        have V10 : Hid (Uv W10 g9 X (.slice a8 xm k8)) := V9.out.below b10
        have Y10 : Hid (RdV W10 (.slice a8 xm k8) X.vs) := Y9.out.below b10
        clear V9 Y9 D9 hg9 b10
        obtain ⟨W11, hW11⟩ : ∃ W11, W10.alloc (.cells #[.int .i64 xg, .int .i64 xc, .int .i64 xn, .slice a10 xm k10] 24) = W11 := ⟨_, rfl⟩
        obtain ⟨g11, hg11⟩ : ∃ g, W10.heap.size = g := ⟨_, rfl⟩
        have b11 : Below W10.heap.size W10 W11 := by rw [← hW11]; exact (Below.refl _ _).alloc (Nat.le_refl _) _
        have D11 : Hid (Us S7 R7 w W11 d r q ⟨kind, su, .slice sa l sc, at_, .slice pa pl pc, ps⟩ s' s') := D10.out.below b11
        have V11 : Hid (Uv W11 g9 X (.slice a8 xm k8)) := V10.out.below b11
        have Y11 : Hid (RdV W11 (.slice a8 xm k8) X.vs) := Y10.out.below b11
        have V12 : Hid (Uv W11 g11 X (.slice a10 xm k10)) := by rw [← hW11, ← hg11, ← hxg.out, ← hxc.out, ← hxn.out]; exact uv_new W10 X _
        rw [hxm.out] at r10 ⊢
        have Y12 : Hid (RdV W11 (.slice a10 xm k10) X.vs) := r10.below b11
        have hsm := refSameU_any X X _ _ W11 Y11.out Y12.out
        rw [decide_eq_true (show X = X from rfl)] at hsm
        have HSM := hideP hsm
        clear hsm
        unfold supv at HSM
        unfold supv
        rw [hxg.out, hxc.out, hxn.out] at HSM ⊢
        have v0 := V11.out.c0
        have v1 := V11.out.c1
        have v2 := V11.out.c2
        have v3 := V11.out.c3
        have u0 := V12.out.c0
        have u1 := V12.out.c1
        have u2 := V12.out.c2
        have u3 := V12.out.c3
        rw [hxg.out] at v0 u0
        rw [hxc.out] at v1 u1
        rw [hxn.out] at v2 u2
        clear n10 r10 b11 D10 V10 Y10
        go_wp2_with fail
        refine HSM.out.mono ?_
        rintro e W13 ⟨rfl, b13⟩
        have I13 : Hid (Bt S7 R7 w W13 d r s' s') := D11.out.bt.below b13
        clear HSM b13 D11 V11 Y11 V12 Y12 v0 v1 v2 v3 u0 u1 u2 u3 hW11 hg11
        go_wp2_with fail
        exact ⟨⟨k + 1, S7, R7, s', by omega, by go_num, I13, HVS⟩, by simp [intOf]; omega⟩
      · replace HST : Hid (s' = s.pw ps) := HST
        obtain ⟨q0, q1, q2, q3, q4, q5, q6⟩ := D0.out.cells
        dsimp only at q0 q1 q2 q3 q4 q5 q6
        go_wp2_with fail
        rw [HW0.out, HQ.out]
        clear HW0 HQ
        refine (HPK.out _).mono ?_
        rintro e W0 ⟨rfl, rfl⟩
        clear HPK
        go_wp2_with fail
        refine (power_any _ ps _ D0.out.bt.dk (HRP.out _ D0.out.bt.be) (HPN.out _ D0.out.bt.s0) HV2.out).mono ?_
        clear q0 q1 q2 q3 q4 q5 q6
        rintro e W3 ⟨rfl, hd3⟩
        obtain ⟨S7, hD3, _, _⟩ := D0.out.dkTo hd3
        have D3 : Hid (Us S7 R w W3 d r q ⟨kind, su, .slice sa l sc, at_, .slice pa pl pc, ps⟩ s' s) := by rw [HST.out]; exact hD3
        clear hd3 hD3 D0
        obtain ⟨q0, q1, q2, q3, q4, q5, q6⟩ := D3.out.cells
        dsimp only at q0 q1 q2 q3 q4 q5 q6
        go_wp2_with fail
        refine (refPower_any _ ps _ D3.out.bt.rf (HRP.out _ D3.out.bt.be) (HPN.out _ D3.out.bt.r0) HV2.out).mono ?_
        clear q0 q1 q2 q3 q4 q5 q6
        rintro e W7 ⟨rfl, hd4⟩
        obtain ⟨R7, hD4, _, _⟩ := D3.out.rfTo hd4
        have D7 : Hid (Us S7 R7 w W7 d r q ⟨kind, su, .slice sa l sc, at_, .slice pa pl pc, ps⟩ s' s') := by rw [HST.out] at hD4 ⊢; exact hD4
        clear hd4 hD4 D3
        obtain ⟨q0, q1, q2, q3, q4, q5, q6⟩ := D7.out.cells
        dsimp only at q0 q1 q2 q3 q4 q5 q6
        have HLD := hideP (load_anyU W7 D7.out.bt.dk)
        go_wp2_with fail
        refine HLD.out.mono ?_
        clear HLD q0 q1 q2 q3 q4 q5 q6
        rintro e W8 ⟨a8, k8, rfl, r8, b8, n8⟩
        have D8 : Hid (Us S7 R7 w W8 d r q ⟨kind, su, .slice sa l sc, at_, .slice pa pl pc, ps⟩ s' s') := D7.out.below b8
        obtain ⟨o, ho⟩ : ∃ o, Hid (loadU s' = o) := ⟨_, rfl⟩
        rw [ho.out] at r8 ⊢
        obtain ⟨X, hX⟩ : ∃ X, Hid (o.getD sp0 = X) := ⟨_, rfl⟩
        rw [hX.out] at r8 ⊢
        obtain ⟨cd, hcd⟩ : ∃ cd : Int, Hid ((if o.isSome = true then (0 : Int) else 7) = cd) := ⟨_, rfl⟩
        rw [hcd.out]
        obtain ⟨W9, hW9⟩ : ∃ W9, W8.alloc (.cells #[.int .i64 X.gen, .int .i64 X.sc, .int .i64 X.nx, .slice a8 X.vs.length k8] 24) = W9 := ⟨_, rfl⟩
        obtain ⟨g9, hg9⟩ : ∃ g, W8.heap.size = g := ⟨_, rfl⟩
        have b9 : Below W8.heap.size W8 W9 := by rw [← hW9]; exact (Below.refl _ _).alloc (Nat.le_refl _) _
        have D9 : Hid (Us S7 R7 w W9 d r q ⟨kind, su, .slice sa l sc, at_, .slice pa pl pc, ps⟩ s' s') := D8.out.below b9
        have V9 : Hid (Uv W9 g9 X (.slice a8 X.vs.length k8)) := by rw [← hW9, ← hg9]; exact uv_new W8 X _
        have Y9 : Hid (RdV W9 (.slice a8 X.vs.length k8) X.vs) := r8.below b9
        have HRL := hideP (refLoad_anyU W9 D9.out.bt.rf)
        rw [ho.out] at HRL
        obtain ⟨xm, hxm⟩ : ∃ m, Hid (X.vs.length = m) := ⟨_, rfl⟩
        obtain ⟨xg, hxg⟩ : ∃ m, Hid (X.gen = m) := ⟨_, rfl⟩
        obtain ⟨xc, hxc⟩ : ∃ m, Hid (X.sc = m) := ⟨_, rfl⟩
        obtain ⟨xn, hxn⟩ : ∃ m, Hid (X.nx = m) := ⟨_, rfl⟩
        unfold supv
        rw [hxm.out] at hW9 V9 Y9 ⊢
        rw [hxg.out, hxc.out, hxn.out] at hW9 ⊢
        have HW9 := hideP hW9
        clear b8 n8 r8 b9 D8 D7 hW9
        go_wp2_with fail
        rw [HW9.out]
        refine HRL.out.mono ?_
        clear HRL HW9
        rintro e W10 ⟨a10, k10, rfl, r10, b10, n10⟩
        rw [hX.out] at r10 ⊢
        rw [hcd.out]
        have D10 : Hid (Us S7 R7 w W10 d r q ⟨kind, su, .slice sa l sc, at_, .slice pa pl pc, ps⟩ s' s') := D9.out.below b10
        have V10 : Hid (Uv W10 g9 X (.slice a8 xm k8)) := V9.out.below b10
        have Y10 : Hid (RdV W10 (.slice a8 xm k8) X.vs) := Y9.out.below b10
        clear V9 Y9 D9 hg9 b10
        obtain ⟨W11, hW11⟩ : ∃ W11, W10.alloc (.cells #[.int .i64 xg, .int .i64 xc, .int .i64 xn, .slice a10 xm k10] 24) = W11 := ⟨_, rfl⟩
        obtain ⟨g11, hg11⟩ : ∃ g, W10.heap.size = g := ⟨_, rfl⟩
        have b11 : Below W10.heap.size W10 W11 := by rw [← hW11]; exact (Below.refl _ _).alloc (Nat.le_refl _) _
        have D11 : Hid (Us S7 R7 w W11 d r q ⟨kind, su, .slice sa l sc, at_, .slice pa pl pc, ps⟩ s' s') := D10.out.below b11
        have V11 : Hid (Uv W11 g9 X (.slice a8 xm k8)) := V10.out.below b11
        have Y11 : Hid (RdV W11 (.slice a8 xm k8) X.vs) := Y10.out.below b11
        have V12 : Hid (Uv W11 g11 X (.slice a10 xm k10)) := by rw [← hW11, ← hg11, ← hxg.out, ← hxc.out, ← hxn.out]; exact uv_new W10 X _
        rw [hxm.out] at r10 ⊢
        have Y12 : Hid (RdV W11 (.slice a10 xm k10) X.vs) := r10.below b11
        have hsm := refSameU_any X X _ _ W11 Y11.out Y12.out
        rw [decide_eq_true (show X = X from rfl)] at hsm
        have HSM := hideP hsm
        clear hsm
        unfold supv at HSM
        unfold supv
        rw [hxg.out, hxc.out, hxn.out] at HSM ⊢
        have v0 := V11.out.c0
        have v1 := V11.out.c1
        have v2 := V11.out.c2
        have v3 := V11.out.c3
        have u0 := V12.out.c0
        have u1 := V12.out.c1
        have u2 := V12.out.c2
        have u3 := V12.out.c3
        rw [hxg.out] at v0 u0
        rw [hxc.out] at v1 u1
        rw [hxn.out] at v2 u2
        clear n10 r10 b11 D10 V10 Y10
        go_wp2_with fail
        refine HSM.out.mono ?_
        rintro e W13 ⟨rfl, b13⟩
        have I13 : Hid (Bt S7 R7 w W13 d r s' s') := D11.out.bt.below b13
        clear HSM b13 D11 V11 Y11 V12 Y12 v0 v1 v2 v3 u0 u1 u2 u3 hW11 hg11
        go_wp2_with fail
        exact ⟨⟨k + 1, S7, R7, s', by omega, by go_num, I13, HVS⟩, by simp [intOf]; omega⟩
      · replace HST : Hid (s' = rtt s at_) := HST
        obtain ⟨q0, q1, q2, q3, q4, q5, q6⟩ := D0.out.cells
        dsimp only at q0 q1 q2 q3 q4 q5 q6
        go_wp2_with fail
        rw [HW0.out, HQ.out]
        clear HW0 HQ
        refine (HPK.out _).mono ?_
        rintro e W0 ⟨rfl, rfl⟩
        clear HPK
        go_wp2_with fail
        refine (rot_all at_ _ D0.out.bt.dk HAW.out).mono ?_
        clear q0 q1 q2 q3 q4 q5 q6
        rintro e W3 ⟨rfl, hd3⟩
        obtain ⟨S7, hD3, _, _⟩ := D0.out.dkTo hd3
        have D3 : Hid (Us S7 R w W3 d r q ⟨kind, su, .slice sa l sc, at_, .slice pa pl pc, ps⟩ s' s) := by rw [HST.out]; exact hD3
        clear hd3 hD3 D0
        obtain ⟨q0, q1, q2, q3, q4, q5, q6⟩ := D3.out.cells
        dsimp only at q0 q1 q2 q3 q4 q5 q6
        go_wp2_with fail
        refine (refRot_all at_ _ D3.out.bt.rf HV2.out).mono ?_
        clear q0 q1 q2 q3 q4 q5 q6
        rintro e W7 ⟨rfl, hd4⟩
        obtain ⟨R7, hD4, _, _⟩ := D3.out.rfTo hd4
        have D7 : Hid (Us S7 R7 w W7 d r q ⟨kind, su, .slice sa l sc, at_, .slice pa pl pc, ps⟩ s' s') := by rw [HST.out] at hD4 ⊢; exact hD4
        clear hd4 hD4 D3
        obtain ⟨q0, q1, q2, q3, q4, q5, q6⟩ := D7.out.cells
        dsimp only at q0 q1 q2 q3 q4 q5 q6
        have HLD := hideP (load_anyU W7 D7.out.bt.dk)
        go_wp2_with fail
        refine HLD.out.mono ?_
        clear HLD q0 q1 q2 q3 q4 q5 q6
        rintro e W8 ⟨a8, k8, rfl, r8, b8, n8⟩
        have D8 : Hid (Us S7 R7 w W8 d r q ⟨kind, su, .slice sa l sc, at_, .slice pa pl pc, ps⟩ s' s') := D7.out.below b8
        obtain ⟨o, ho⟩ : ∃ o, Hid (loadU s' = o) := ⟨_, rfl⟩
        rw [ho.out] at r8 ⊢
        obtain ⟨X, hX⟩ : ∃ X, Hid (o.getD sp0 = X) := ⟨_, rfl⟩
        rw [hX.out] at r8 ⊢
        obtain ⟨cd, hcd⟩ : ∃ cd : Int, Hid ((if o.isSome = true then (0 : Int) else 7) = cd) := ⟨_, rfl⟩
        rw [hcd.out]
        obtain ⟨W9, hW9⟩ : ∃ W9, W8.alloc (.cells #[.int .i64 X.gen, .int .i64 X.sc, .int .i64 X.nx, .slice a8 X.vs.length k8] 24) = W9 := ⟨_, rfl⟩
        obtain ⟨g9, hg9⟩ : ∃ g, W8.heap.size = g := ⟨_, rfl⟩
        have b9 : Below W8.heap.size W8 W9 := by rw [← hW9]; exact (Below.refl _ _).alloc (Nat.le_refl _) _
        have D9 : Hid (Us S7 R7 w W9 d r q ⟨kind, su, .slice sa l sc, at_, .slice pa pl pc, ps⟩ s' s') := D8.out.below b9
        have V9 : Hid (Uv W9 g9 X (.slice a8 X.vs.length k8)) := by rw [← hW9, ← hg9]; exact uv_new W8 X _
        have Y9 : Hid (RdV W9 (.slice a8 X.vs.length k8) X.vs) := r8.below b9
        have HRL := hideP (refLoad_anyU W9 D9.out.bt.rf)
        rw [ho.out] at HRL
        obtain ⟨xm, hxm⟩ : ∃ m, Hid (X.vs.length = m) := ⟨_, rfl⟩
        obtain ⟨xg, hxg⟩ : ∃ m, Hid (X.gen = m) := ⟨_, rfl⟩
        obtain ⟨xc, hxc⟩ : ∃ m, Hid (X.sc = m) := ⟨_, rfl⟩
        obtain ⟨xn, hxn⟩ : ∃ m, Hid (X.nx = m) := ⟨_, rfl⟩
        unfold supv
        rw [hxm.out] at hW9 V9 Y9 ⊢
        rw [hxg.out, hxc.out, hxn.out] at hW9 ⊢
        have HW9 := hideP hW9
        clear b8 n8 r8 b9 D8 D7 hW9
        go_wp2_with fail
        rw [HW9.out]
        refine HRL.out.mono ?_
        clear HRL HW9
        rintro e W10 ⟨a10, k10, rfl, r10, b10, n10⟩
        rw [hX.out] at r10 ⊢
        rw [hcd.out]
        have D10 : Hid (Us S7 R7 w W10 d r q ⟨kind, su, .slice sa l sc, at_, .slice pa pl pc, ps⟩ s' s') := D9.out.below b10
        have V10 : Hid (Uv W10 g9 X (.slice a8 xm k8)) := V9.out.below b10
        have Y10 : Hid (RdV W10 (.slice a8 xm k8) X.vs) := Y9.out.below b10
        clear V9 Y9 D9 hg9 b10
        obtain ⟨W11, hW11⟩ : ∃ W11, W10.alloc (.cells #[.int .i64 xg, .int .i64 xc, .int .i64 xn, .slice a10 xm k10] 24) = W11 := ⟨_, rfl⟩
        obtain ⟨g11, hg11⟩ : ∃ g, W10.heap.size = g := ⟨_, rfl⟩
        have b11 : Below W10.heap.size W10 W11 := by rw [← hW11]; exact (Below.refl _ _).alloc (Nat.le_refl _) _
        have D11 : Hid (Us S7 R7 w W11 d r q ⟨kind, su, .slice sa l sc, at_, .slice pa pl pc, ps⟩ s' s') := D10.out.below b11
        have V11 : Hid (Uv W11 g9 X (.slice a8 xm k8)) := V10.out.below b11
        have Y11 : Hid (RdV W11 (.slice a8 xm k8) X.vs) := Y10.out.below b11
        have V12 : Hid (Uv W11 g11 X (.slice a10 xm k10)) := by rw [← hW11, ← hg11, ← hxg.out, ← hxc.out, ← hxn.out]; exact uv_new W10 X _
        rw [hxm.out] at r10 ⊢
        have Y12 : Hid (RdV W11 (.slice a10 xm k10) X.vs) := r10.below b11
        have hsm := refSameU_any X X _ _ W11 Y11.out Y12.out
        rw [decide_eq_true (show X = X from rfl)] at hsm
        have HSM := hideP hsm
        clear hsm
        unfold supv at HSM
        unfold supv
        rw [hxg.out, hxc.out, hxn.out] at HSM ⊢
        have v0 := V11.out.c0
        have v1 := V11.out.c1
        have v2 := V11.out.c2
        have v3 := V11.out.c3
        have u0 := V12.out.c0
        have u1 := V12.out.c1
        have u2 := V12.out.c2
        have u3 := V12.out.c3
        rw [hxg.out] at v0 u0
        rw [hxc.out] at v1 u1
        rw [hxn.out] at v2 u2
        clear n10 r10 b11 D10 V10 Y10
        go_wp2_with fail
        refine HSM.out.mono ?_
        rintro e W13 ⟨rfl, b13⟩
        have I13 : Hid (Bt S7 R7 w W13 d r s' s') := D11.out.bt.below b13
        clear HSM b13 D11 V11 Y11 V12 Y12 v0 v1 v2 v3 u0 u1 u2 u3 hW11 hg11
        go_wp2_with fail
        exact ⟨⟨k + 1, S7, R7, s', by omega, by go_num, I13, HVS⟩, by simp [intOf]; omega⟩
    · have hki : ¬ (k : Int) < (t : Int) := by omega
      have B0 : Hid (Below w.heap.size w wr) := I.out.be
      have HLN := hideP (load_nilU wr)
      have HO : Hid (∀ W, Calls Try.prog 32 #[] W fun e w' => SupR spOne W e w') := one_any
      clear hkt HV I
      unfold supv at HLN
      go_wp2_with fail
      refine HLN.out.mono ?_
      clear HLN
      rintro e w3 ⟨rfl, hb3⟩
      have B3 : Hid (Below w.heap.size w w3) := B0.out.trans (hb3.mono B0.out.size)
      clear hb3
      go_wp2_with fail
      refine (HO.out _).mono ?_
      rintro e w4 ⟨a4, k4, rfl, r4, b4, _⟩
      have B4 : Hid (Below w.heap.size w w4) := B3.out.trans ((((Below.refl _ _).alloc (Nat.le_refl _) _).trans (b4.mono (by simp))).mono B3.out.size)
      have HSN := hideP (save_nilU spOne _ w4 r4)
      unfold supv at HSN ⊢
      clear b4 r4
      go_wp2_with fail
      refine HSN.out.mono ?_
      rintro e w5 ⟨rfl, b5⟩
      have B5 : Hid (Below w.heap.size w w5) := B4.out.trans (b5.mono B4.out.size)
      clear b5 HSN
      go_wp2_with fail
      refine (HLV.out _).mono ?_
      rintro e w8 ⟨rfl, hb8⟩
      have B8 : Hid (Below w.heap.size w w8) := B5.out.trans (hb8.mono B5.out.size)
      clear hb8
      go_wp2_with fail
      go_ret
      exact ⟨by first | rfl | simp, B8.out⟩
end Go.Proofs.Ytkjcfhebkfppdaa
