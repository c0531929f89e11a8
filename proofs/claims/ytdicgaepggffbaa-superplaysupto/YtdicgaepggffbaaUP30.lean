import Derived.Test.YtdicgaepggffbaaUP27
import Derived.Test.YtdicgaepggffbaaUP29
/-
  The document's Load and Save of superblocks.
-/
namespace Go.Proofs.Ytdicgaepggffbaa
open Go.RowKit Pl
set_option linter.unusedVariables false
set_option linter.unusedSimpArgs false
set_option maxRecDepth 100000

theorem Rf.box {R : Nat → Prop} {w : World} {r : Nat} {s : DS} (h : Rf R w r s) : ∃ lb cp, (∀ W, Below w.heap.size w W → W.cell? ⟨r, 0, none⟩ = some (.slice (some ⟨lb, 0, none⟩) s.L.length cp)) ∧ cp ≤ maxLen ∧ 1 ≤ s.L.length ∧ s.L.length ≤ 4096 := by
  obtain ⟨lb, cp, A, B, x, W, h⟩ := h
  have hc := h.c0
  have h2 : cp ≤ maxLen := by
    rcases h.row.2 with ⟨e, _⟩ | ⟨g, c, cur, e, _, _, _, hm, _⟩
    · cases e
    · simp only [Value.slice.injEq] at e
      rw [e.2.2]
      exact hm
  exact ⟨lb, cp, fun W hW => by rw [hW.cell (p := ⟨r, 0, none⟩) h.lt]; exact hc, h2, h.n1, h.n2⟩
theorem Rf.has_by {R : Nat → Prop} {w : World} {r : Nat} {s : DS} (h : Rf R w r s) (at_ : Int) : By (dhs s at_) := by
  obtain ⟨lb, cp, A, B, x, W, h⟩ := h
  unfold dhs
  by_cases c : at_ < 0 ∨ (s.L.length : Int) ≤ at_
  · rw [if_pos c]; exact by_of_memB (by simp)
  · rw [if_neg c]
    have hi : at_.toNat < s.L.length := by omega
    unfold DS.has
    by_cases e : s.V at_.toNat = []
    · rw [e]
      exact (h.okL.get hi).2
    · exact ((h.okV at_.toNat).last e _).2
theorem nbK_stop {s : DS} (h1 : 1 ≤ s.L.length) {k : Nat} (hk : k ≤ 2) (h : ¬ (k < 2 ∧ k < s.L.length)) : nbK s k = loadU s := by
  by_cases h2 : k = 2
  · rw [h2]; exact nbK_two s
  · have e : k = 1 := by omega
    subst e
    have hn : dhs s ((1 : Nat) : Int) = [] := by unfold dhs; rw [if_pos (by omega)]
    rw [← nbK_two]
    show nbK s 1 = nb _ (nbK s 1) (dhs s ((1 : Nat) : Int))
    rw [hn, nb_none (getU_len (by simp))]

set_option maxHeartbeats 1000000 in
theorem refLoad_anyU {R : Nat → Prop} {r : Nat} {s : DS} (w : World) (h : Rf R w r s) :
    Calls Try.prog 31 #[dp r] w fun e w' => LoadR (loadU s) w e w' := by
  have HD : Hid (Rf R w r s) := h
  obtain ⟨lb, cp, hbx, hcp, hn1, hn2⟩ := h.box
  have HBX := hideP hbx
  obtain ⟨n, hn⟩ : ∃ n, Hid (s.L.length = n) := ⟨_, rfl⟩
  rw [hn.out] at HBX hn1 hn2
  have hcp2 : Hid (cp ≤ maxLen) := hcp
  obtain ⟨W1, hW1⟩ : ∃ W1, w.alloc (.cells #[.int .i64 0, .int .i64 0, .int .i64 0, .slice none 0 0] 24) = W1 := ⟨_, rfl⟩
  obtain ⟨W2, hW2⟩ : ∃ W2, W1.alloc (.cells #[.int .i64 0, .int .i64 0, .int .i64 0, .slice none 0 0] 24) = W2 := ⟨_, rfl⟩
  have s1 : W1.heap.size = w.heap.size + 1 := by rw [← hW1]; simp
  have b1 : Below w.heap.size w W1 := by rw [← hW1]; exact (Below.refl _ _).alloc (Nat.le_refl _) _
  have b2 : Below W1.heap.size W1 W2 := by rw [← hW2]; exact (Below.refl _ _).alloc (Nat.le_refl _) _
  have B2 : Hid (Below w.heap.size w W2) := b1.trans (b2.mono (by omega))
  have U1 : Uv W1 w.heap.size sp0 (.slice none 0 0) := by rw [← hW1]; exact uv_new w sp0 _
  have Q2 : Hid (Uv W2 w.heap.size sp0 (.slice none 0 0)) := U1.below b2
  have U2 : Hid (Uv W2 (w.heap.size + 1) sp0 (.slice none 0 0)) := by rw [← hW2, ← s1]; exact uv_new W1 sp0 _
  have HW2 := hideP hW2
  clear h b1 b2 U1 hbx hcp hW2
  go_enter Try.func31, Try.ntmps31
  go_wp2_with fail
  rw [HW2.out]
  obtain ⟨g, hg⟩ : ∃ g, Hid (w.heap.size = g) := ⟨_, rfl⟩
  rw [hg.out] at Q2 U2 B2 ⊢
  clear hW1 s1 HW2
  go_loopw [5, 6] (fun fv i wr => ∃ (k : Nat) (a : Option Addr) (c : Nat) (T : Sp) (o : Option Sp), k ≤ 2 ∧ i = .int .i64 k ∧ fv = .bool o.isSome ∧ Hid (k ≤ n) ∧ Hid (nbK s k = o) ∧ Hid (o.getD sp0 = T) ∧ Hid (Uv wr (g + 1) T (.slice a T.vs.length c)) ∧ Hid (RdV wr (.slice a T.vs.length c) T.vs) ∧ Hid (∀ j, (Value.slice a T.vs.length c).ownBlock = some j → g + 1 < j) ∧ Hid (Uv wr g sp0 (.slice none 0 0)) ∧ Hid (Below g w wr)) (fun _ i _ => 2 - (intOf i).toNat)
  case atStart => exact ⟨0, none, 0, sp0, none, by decide, rfl, rfl, Nat.zero_le _, rfl, rfl, U2, rdV_nil _, (show Hid _ from fun j hj => by cases hj), Q2, B2⟩
  case round =>
    clear U2 Q2 B2
    obtain ⟨k, a, c, T, o, hk, rfl, rfl, HKN, HO, HT, U, R, N, Q, B⟩ := hrel
    have bx := HBX.out wr (by rw [hg.out]; exact B.out)
    by_cases hlt : k < 2 ∧ k < n
    · obtain ⟨hk2, hkn⟩ := hlt
      have hki : (k : Int) < 2 := by omega
      have hkj : (k : Int) < (n : Int) := by omega
      have HKN2 : Hid (k + 1 ≤ n) := hkn
      have hg1 : g + 1 < wr.heap.size := U.out.lt
      have HRR := hideP (refRead_all (k : Int) wr (HD.out.below (by rw [hg.out]; exact B.out)))
      go_wp2_with fail
      refine HRR.out.mono ?_
      rintro e w3 ⟨v3, rfl, o3, b3, _⟩
      obtain ⟨av, cv, hav, _⟩ := id o3.rd
      have HX : Hid (Rd .u8 w3 v3 (dhs s (k : Int))) := o3.rd
      have HXB : Hid (By (dhs s (k : Int))) := HD.out.has_by _
      rw [hav] at HX ⊢
      generalize (dhs s (k : Int)).length = lv at *
      clear o3 hav HRR bx
      go_wp2_with fail
      refine (refGetU_any _ _ w3 HX.out HXB.out).mono ?_
      intro e w4 h
      obtain ⟨a4, c4, rfl, r4, b4', n4'⟩ := getU_open h
      have b4 : Below wr.heap.size wr w4 := b3.trans (b4'.mono b3.size)
      have n4 : ∀ j, (Value.slice a4 ((getU (dhs s (k : Int))).getD sp0).vs.length c4).ownBlock = some j → wr.heap.size ≤ j := fun j hj => Nat.le_trans b3.size (n4' j hj)
      clear h b3 b4' n4'
      obtain ⟨G, hG⟩ : ∃ G, Hid (getU (dhs s (k : Int)) = G) := ⟨_, rfl⟩
      rw [hG.out] at r4 n4 ⊢
      obtain ⟨X, hX⟩ : ∃ X, Hid (G.getD sp0 = X) := ⟨_, rfl⟩
      rw [hX.out] at r4 n4 ⊢
      obtain ⟨q, hq⟩ : ∃ q, w4.heap.size = q := ⟨_, rfl⟩
      obtain ⟨W5, hW5⟩ : ∃ W5, w4.alloc (.cells #[.int .i64 X.gen, .int .i64 X.sc, .int .i64 X.nx, .slice a4 X.vs.length c4] 24) = W5 := ⟨_, rfl⟩
      have b5 : Below w4.heap.size w4 W5 := by rw [← hW5]; exact (Below.refl _ _).alloc (Nat.le_refl _) _
      have b45 : Below wr.heap.size wr W5 := b4.trans (b5.mono b4.size)
      have V5 : Hid (Uv W5 q X (.slice a4 X.vs.length c4)) := by rw [← hW5, ← hq]; exact uv_new w4 X _
      have Y5 : Hid (RdV W5 (.slice a4 X.vs.length c4) X.vs) := r4.below b5
      have U5 : Hid (Uv W5 (g + 1) T (.slice a T.vs.length c)) := U.out.below b45
      have R5 : Hid (RdV W5 (.slice a T.vs.length c) T.vs) := R.out.below b45
      have Q5 : Hid (Uv W5 g sp0 (.slice none 0 0)) := Q.out.below b45
      have B5 : Hid (Below g w W5) := B.out.trans (b45.mono (by omega))
      have NX : Hid (∀ j, (Value.slice a4 X.vs.length c4).ownBlock = some j → g + 1 < j) := fun j hj => by have := n4 j hj; omega
      have bx5 := HBX.out W5 (by rw [hg.out]; exact B5.out)
      have v0 := V5.out.c0
      have v1 := V5.out.c1
      have v2 := V5.out.c2
      have v3 := V5.out.c3
      have t0 := U5.out.c0
      obtain ⟨m, hm⟩ : ∃ m, Hid (T.vs.length = m) := ⟨_, rfl⟩
      obtain ⟨tg, htg⟩ : ∃ m, Hid (T.gen = m) := ⟨_, rfl⟩
      obtain ⟨xm, hxm⟩ : ∃ m, Hid (X.vs.length = m) := ⟨_, rfl⟩
      obtain ⟨xg, hxg⟩ : ∃ m, Hid (X.gen = m) := ⟨_, rfl⟩
      obtain ⟨xc, hxc⟩ : ∃ m, Hid (X.sc = m) := ⟨_, rfl⟩
      obtain ⟨xn, hxn⟩ : ∃ m, Hid (X.nx = m) := ⟨_, rfl⟩
      unfold supv
      rw [hxm.out] at hW5 V5 Y5 NX v3 ⊢
      rw [hxg.out, hxc.out, hxn.out] at hW5 ⊢
      rw [hxg.out] at v0
      rw [hxc.out] at v1
      rw [hxn.out] at v2
      rw [hm.out] at U5 R5 N
      rw [htg.out] at t0
      clear r4 b4 n4 b5 b45 U R Q B HX hg1
      cases hGo : G with
      | none =>
        rw [hGo] at hG
        have HG : Hid (getU (dhs s (k : Int)) = none) := hG
        clear hGo hG hX
        simp only [Option.isSome_none]
        have HN : Hid (nbK s (k + 1) = o) := by
          show nb _ (nbK s k) _ = o
          rw [nb_none HG.out]
          exact HO.out
        go_wp2_with fail
        go_quiet (fail)
        have U7 : Hid (Uv (W5.drewN nq) (g + 1) T (.slice a m c)) := U5
        have R7 : Hid (RdV (W5.drewN nq) (.slice a m c) T.vs) := R5.out.below (Below.of_drewN _ _ _)
        have Q7 : Hid (Uv (W5.drewN nq) g sp0 (.slice none 0 0)) := Q5
        have B7 : Hid (Below g w (W5.drewN nq)) := B5.out.trans (Below.of_drewN _ _ _)
        rw [← hm.out] at U7 R7 N
        go_wp2_with fail
        exact ⟨⟨k + 1, a, c, T, o, by omega, by go_num, rfl, HKN2, HN, HT, U7, R7, N, Q7, B7⟩, by simp [intOf]; omega⟩
      | some t =>
        rw [hGo] at hG hX
        have HG : Hid (getU (dhs s (k : Int)) = some t) := hG
        obtain rfl : t = X := hX.out
        clear hGo hG hX
        simp only [Option.isSome_some]
        by_cases e1 : xc = (n : Int)
        · subst e1
          cases o with
          | none =>
            simp only [Option.isSome_none]
            have hz : tg < xg := by
              have h1 : T = sp0 := HT.out.symm
              rw [← htg.out, h1, ← hxg.out]
              exact (mayU_iff.1 (getU_some.1 HG.out).1).1.1
            have HN : Hid (nbK s (k + 1) = some t) := by
              show nb _ (nbK s k) _ = some t
              exact nb_take HG.out ⟨by rw [hxc.out, hn.out], by rw [HO.out, HT.out, htg.out, hxg.out]; exact hz⟩
            have t1 := U5.out.c1
            have t2 := U5.out.c2
            have t3 := U5.out.c3
            generalize T.sc = tsc at t1
            generalize T.nx = tnx at t2
            go_wp2_with fail
            go_quiet (fail)
            obtain ⟨W6, hW6⟩ : ∃ W6, Hid (W5.drewN nq = W6) := ⟨_, rfl⟩
            have U6 : Hid (Uv W6 (g + 1) T (.slice a m c)) := by rw [← hW6.out]; exact U5
            have V6 : Hid (Uv W6 q t (.slice a4 xm c4)) := by rw [← hW6.out]; exact V5
            have Y6 : Hid (RdV W6 (.slice a4 xm c4) t.vs) := by rw [← hW6.out]; exact Y5.out.below (Below.of_drewN _ _ _)
            have Q6 : Hid (Uv W6 g sp0 (.slice none 0 0)) := by rw [← hW6.out]; exact Q5
            have B6 : Hid (Below g w W6) := by rw [← hW6.out]; exact B5.out.trans (Below.of_drewN _ _ _)
            rw [hW6.out]
            clear v0 v1 v2 v3 t0 t1 t2 t3 U5 V5 Y5 Q5 B5 hW6 hW5 hq
            have v0 := V6.out.c0
            have v1 := V6.out.c1
            have v2 := V6.out.c2
            have v3 := V6.out.c3
            have t0 := U6.out.c0
            have t1 := U6.out.c1
            have t2 := U6.out.c2
            have t3 := U6.out.c3
            have f0 := U6.out.fz 0
            have f1 := U6.out.fz 1
            have f2 := U6.out.fz 2
            have f3 := U6.out.fz 3
            have HP := hideP (U6.out.put t (.slice a4 xm c4))
            have HTS := hideP (U6.out.tset t (.slice a4 xm c4))
            have Y8 := hideP (Y6.out.tch HTS.out (fun j hj e => by have := NX.out j hj; have e3 : j = g + 1 := e; omega))
            have Q8 := hideP (Q6.out.tch HTS.out (by omega))
            have B8 := hideP (B6.out.trans (HTS.out.below (by have := Q6.out.lt; omega) (fun j e => by rw [e]; omega)))
            rw [hxg.out, hxc.out, hxn.out] at HP HTS Y8 Q8 B8
            rw [hxg.out] at v0
            rw [hxc.out] at v1
            rw [hxn.out] at v2
            clear U6 V6 Y6 Q6 B6
            generalize T.gen = tg2 at t0
            generalize T.sc = tsc at t1
            generalize T.nx = tnx at t2
            go_wp2_with fail
            exact ⟨⟨k + 1, a4, c4, t, some t, by omega, by go_num, rfl, HKN2, HN, rfl, by rw [hxm.out]; exact HP, by rw [hxm.out]; exact Y8, by rw [hxm.out]; exact NX, Q8, B8⟩, by simp [intOf]; omega⟩
          | some ob =>
            simp only [Option.isSome_some]
            by_cases e2 : xg > tg
            · have e2b : tg < xg := e2
              have HN : Hid (nbK s (k + 1) = some t) := by
                show nb _ (nbK s k) _ = some t
                exact nb_take HG.out ⟨by rw [hxc.out, hn.out], by rw [HO.out, HT.out, htg.out, hxg.out]; exact e2b⟩
              have t1 := U5.out.c1
              have t2 := U5.out.c2
              have t3 := U5.out.c3
              generalize T.sc = tsc at t1
              generalize T.nx = tnx at t2
              go_wp2_with fail
              go_quiet (fail)
              obtain ⟨W6, hW6⟩ : ∃ W6, Hid (W5.drewN nq = W6) := ⟨_, rfl⟩
              have U6 : Hid (Uv W6 (g + 1) T (.slice a m c)) := by rw [← hW6.out]; exact U5
              have V6 : Hid (Uv W6 q t (.slice a4 xm c4)) := by rw [← hW6.out]; exact V5
              have Y6 : Hid (RdV W6 (.slice a4 xm c4) t.vs) := by rw [← hW6.out]; exact Y5.out.below (Below.of_drewN _ _ _)
              have Q6 : Hid (Uv W6 g sp0 (.slice none 0 0)) := by rw [← hW6.out]; exact Q5
              have B6 : Hid (Below g w W6) := by rw [← hW6.out]; exact B5.out.trans (Below.of_drewN _ _ _)
              rw [hW6.out]
              clear v0 v1 v2 v3 t0 t1 t2 t3 U5 V5 Y5 Q5 B5 hW6 hW5 hq
              have v0 := V6.out.c0
              have v1 := V6.out.c1
              have v2 := V6.out.c2
              have v3 := V6.out.c3
              have t0 := U6.out.c0
              have t1 := U6.out.c1
              have t2 := U6.out.c2
              have t3 := U6.out.c3
              have f0 := U6.out.fz 0
              have f1 := U6.out.fz 1
              have f2 := U6.out.fz 2
              have f3 := U6.out.fz 3
              have HP := hideP (U6.out.put t (.slice a4 xm c4))
              have HTS := hideP (U6.out.tset t (.slice a4 xm c4))
              have Y8 := hideP (Y6.out.tch HTS.out (fun j hj e => by have := NX.out j hj; have e3 : j = g + 1 := e; omega))
              have Q8 := hideP (Q6.out.tch HTS.out (by omega))
              have B8 := hideP (B6.out.trans (HTS.out.below (by have := Q6.out.lt; omega) (fun j e => by rw [e]; omega)))
              rw [hxg.out, hxc.out, hxn.out] at HP HTS Y8 Q8 B8
              rw [hxg.out] at v0
              rw [hxc.out] at v1
              rw [hxn.out] at v2
              clear U6 V6 Y6 Q6 B6
              generalize T.gen = tg2 at t0
              generalize T.sc = tsc at t1
              generalize T.nx = tnx at t2
              go_wp2_with fail
              exact ⟨⟨k + 1, a4, c4, t, some t, by omega, by go_num, rfl, HKN2, HN, rfl, by rw [hxm.out]; exact HP, by rw [hxm.out]; exact Y8, by rw [hxm.out]; exact NX, Q8, B8⟩, by simp [intOf]; omega⟩
            · have e2d : decide (xg > tg) = false := decide_eq_false e2
              have e2f : decide (tg < xg) = false := decide_eq_false e2
              have hcn : ¬ (t.sc = (s.L.length : Int) ∧ ((nbK s k).getD sp0).gen < t.gen) := fun h => e2 (by have := h.2; rw [HO.out, HT.out, htg.out, hxg.out] at this; exact this)
              have HCN := hideP hcn
              clear hcn
              have HN : Hid (nbK s (k + 1) = some ob) := by
                show nb _ (nbK s k) _ = some ob
                rw [nb_skip HG.out HCN.out]
                exact HO.out
              go_wp2_with fail
              go_quiet (fail)
              have U7 : Hid (Uv (W5.drewN nq) (g + 1) T (.slice a m c)) := U5
              have R7 : Hid (RdV (W5.drewN nq) (.slice a m c) T.vs) := R5.out.below (Below.of_drewN _ _ _)
              have Q7 : Hid (Uv (W5.drewN nq) g sp0 (.slice none 0 0)) := Q5
              have B7 : Hid (Below g w (W5.drewN nq)) := B5.out.trans (Below.of_drewN _ _ _)
              rw [← hm.out] at U7 R7 N
              go_wp2_with fail
              exact ⟨⟨k + 1, a, c, T, some ob, by omega, by go_num, rfl, HKN2, HN, HT, U7, R7, N, Q7, B7⟩, by simp [intOf]; omega⟩
        · have e1b : (xc == (n : Int)) = false := by rw [beq_eq_false_iff_ne]; exact e1
          have hcn : ¬ (t.sc = (s.L.length : Int) ∧ ((nbK s k).getD sp0).gen < t.gen) := fun h => e1 (by rw [← hxc.out, ← hn.out]; exact h.1)
          have HCN := hideP hcn
          clear hcn
          have HN : Hid (nbK s (k + 1) = o) := by
            show nb _ (nbK s k) _ = o
            rw [nb_skip HG.out HCN.out]
            exact HO.out
          go_wp2_with fail
          go_quiet (fail)
          have U7 : Hid (Uv (W5.drewN nq) (g + 1) T (.slice a m c)) := U5
          have R7 : Hid (RdV (W5.drewN nq) (.slice a m c) T.vs) := R5.out.below (Below.of_drewN _ _ _)
          have Q7 : Hid (Uv (W5.drewN nq) g sp0 (.slice none 0 0)) := Q5
          have B7 : Hid (Below g w (W5.drewN nq)) := B5.out.trans (Below.of_drewN _ _ _)
          rw [← hm.out] at U7 R7 N
          go_wp2_with fail
          exact ⟨⟨k + 1, a, c, T, o, by omega, by go_num, rfl, HKN2, HN, HT, U7, R7, N, Q7, B7⟩, by simp [intOf]; omega⟩
    · by_cases hk2 : k < 2
      · have HLU : Hid (loadU s = o) := by
          show _ = _
          rw [← HO.out]
          exact (nbK_stop (by rw [hn.out]; exact hn1) hk (by rw [hn.out]; exact hlt)).symm
        have t0 := U.out.c0
        have t1 := U.out.c1
        have t2 := U.out.c2
        have t3 := U.out.c3
        have q0 : wr.cell? ⟨g, 0, none⟩ = some (.int .i64 0) := Q.out.c0
        have q1 : wr.cell? ⟨g, 1, none⟩ = some (.int .i64 0) := Q.out.c1
        have q2 : wr.cell? ⟨g, 2, none⟩ = some (.int .i64 0) := Q.out.c2
        have q3 := Q.out.c3
        have f0 := Q.out.fz 0
        have f1 := Q.out.fz 1
        have f2 := Q.out.fz 2
        have f3 := Q.out.fz 3
        have hki : (k : Int) < 2 := by omega
        have hkd : decide ((k : Int) < (n : Int)) = false := by rw [decide_eq_false_iff_not]; omega
        have hke : decide (k < n) = false := by rw [decide_eq_false_iff_not]; omega
        clear hlt hk2
        cases o with
        | none =>
          obtain rfl : sp0 = T := HT.out
          simp only [Option.isSome_none]
          have HLD := hideP (Q.out.put sp0 (.slice none 0 0)).load
          have HBE := hideP (B.out.trans ((Q.out.tset sp0 (.slice none 0 0)).below (by have := Q.out.lt; omega) (fun j e => by omega)))
          clear t0 t1 t2 t3
          go_wp2_with fail
          refine bodyPost_ret (v := .tuple #[supv sp0 (.slice none 0 0), .int .i64 7]) (results_cellV (p := 2) (ty := 24) rfl _ _ _ g _ _ rfl HLD.out rfl) rfl ?_
          rw [HLU.out]
          exact ⟨none, 0, rfl, rdV_nil _, by rw [hg.out]; exact HBE.out, fun j hj => by cases hj⟩
        | some x =>
          obtain rfl : x = T := HT.out
          simp only [Option.isSome_some]
          have HLD := hideP (Q.out.put x (.slice a x.vs.length c)).load
          have HTS := hideP (Q.out.tset x (.slice a x.vs.length c))
          have HBE := hideP (B.out.trans (HTS.out.below (by have := Q.out.lt; omega) (fun j e => by omega)))
          have HRE := hideP (R.out.tch HTS.out (fun j hj e => by have e2 : j = g := e; have := N.out j hj; omega))
          obtain ⟨l, hl⟩ : ∃ l, Hid (x.vs.length = l) := ⟨_, rfl⟩
          obtain ⟨xg, hxg⟩ : ∃ m, Hid (x.gen = m) := ⟨_, rfl⟩
          obtain ⟨xc, hxc⟩ : ∃ m, Hid (x.sc = m) := ⟨_, rfl⟩
          obtain ⟨xn, hxn⟩ : ∃ m, Hid (x.nx = m) := ⟨_, rfl⟩
          rw [hxg.out, hxc.out, hxn.out] at HLD HTS HBE HRE
          rw [hl.out] at HLD HTS HBE HRE t3 N
          rw [hxg.out] at t0
          rw [hxc.out] at t1
          rw [hxn.out] at t2
          clear U R Q B
          go_wp2_with fail
          refine bodyPost_ret (v := .tuple #[supv x (.slice a l c), .int .i64 0]) (results_cellV (p := 2) (ty := 24) rfl _ _ _ g _ _ rfl HLD.out rfl) rfl ?_
          rw [HLU.out]
          refine ⟨a, c, by rw [← hl.out]; rfl, by show RdV _ (.slice a x.vs.length c) x.vs; rw [hl.out]; exact HRE.out, by rw [hg.out]; exact HBE.out, fun j hj => by rw [← hl.out] at N; have := N.out j hj; rw [hg.out]; omega⟩
      · have HLU : Hid (loadU s = o) := by
          show _ = _
          rw [← HO.out]
          exact (nbK_stop (by rw [hn.out]; exact hn1) hk (by rw [hn.out]; exact hlt)).symm
        have t0 := U.out.c0
        have t1 := U.out.c1
        have t2 := U.out.c2
        have t3 := U.out.c3
        have q0 : wr.cell? ⟨g, 0, none⟩ = some (.int .i64 0) := Q.out.c0
        have q1 : wr.cell? ⟨g, 1, none⟩ = some (.int .i64 0) := Q.out.c1
        have q2 : wr.cell? ⟨g, 2, none⟩ = some (.int .i64 0) := Q.out.c2
        have q3 := Q.out.c3
        have f0 := Q.out.fz 0
        have f1 := Q.out.fz 1
        have f2 := Q.out.fz 2
        have f3 := Q.out.fz 3
        have hkd : decide ((k : Int) < 2) = false := by rw [decide_eq_false_iff_not]; omega
        clear hlt hk2
        cases o with
        | none =>
          obtain rfl : sp0 = T := HT.out
          simp only [Option.isSome_none]
          have HLD := hideP (Q.out.put sp0 (.slice none 0 0)).load
          have HBE := hideP (B.out.trans ((Q.out.tset sp0 (.slice none 0 0)).below (by have := Q.out.lt; omega) (fun j e => by omega)))
          clear t0 t1 t2 t3
          go_wp2_with fail
          refine bodyPost_ret (v := .tuple #[supv sp0 (.slice none 0 0), .int .i64 7]) (results_cellV (p := 2) (ty := 24) rfl _ _ _ g _ _ rfl HLD.out rfl) rfl ?_
          rw [HLU.out]
          exact ⟨none, 0, rfl, rdV_nil _, by rw [hg.out]; exact HBE.out, fun j hj => by cases hj⟩
        | some x =>
          obtain rfl : x = T := HT.out
          simp only [Option.isSome_some]
          have HLD := hideP (Q.out.put x (.slice a x.vs.length c)).load
          have HTS := hideP (Q.out.tset x (.slice a x.vs.length c))
          have HBE := hideP (B.out.trans (HTS.out.below (by have := Q.out.lt; omega) (fun j e => by omega)))
          have HRE := hideP (R.out.tch HTS.out (fun j hj e => by have e2 : j = g := e; have := N.out j hj; omega))
          obtain ⟨l, hl⟩ : ∃ l, Hid (x.vs.length = l) := ⟨_, rfl⟩
          obtain ⟨xg, hxg⟩ : ∃ m, Hid (x.gen = m) := ⟨_, rfl⟩
          obtain ⟨xc, hxc⟩ : ∃ m, Hid (x.sc = m) := ⟨_, rfl⟩
          obtain ⟨xn, hxn⟩ : ∃ m, Hid (x.nx = m) := ⟨_, rfl⟩
          rw [hxg.out, hxc.out, hxn.out] at HLD HTS HBE HRE
          rw [hl.out] at HLD HTS HBE HRE t3 N
          rw [hxg.out] at t0
          rw [hxc.out] at t1
          rw [hxn.out] at t2
          clear U R Q B
          go_wp2_with fail
          refine bodyPost_ret (v := .tuple #[supv x (.slice a l c), .int .i64 0]) (results_cellV (p := 2) (ty := 24) rfl _ _ _ g _ _ rfl HLD.out rfl) rfl ?_
          rw [HLU.out]
          refine ⟨a, c, by rw [← hl.out]; rfl, by show RdV _ (.slice a x.vs.length c) x.vs; rw [hl.out]; exact HRE.out, by rw [hg.out]; exact HBE.out, fun j hj => by rw [← hl.out] at N; have := N.out j hj; rw [hg.out]; omega⟩
end Go.Proofs.Ytdicgaepggffbaa
/-
  The document's Save of superblocks.
-/
namespace Go.Proofs.Ytdicgaepggffbaa
open Go.RowKit Pl
set_option linter.unusedVariables false
set_option linter.unusedSimpArgs false
set_option maxRecDepth 100000

theorem Rf.to_below {R : Nat → Prop} {w w' : World} {r : Nat} {s : DS} (h : Rf R w r s) (hb : Below w.heap.size w w') : RfTo R w w' r s :=
  ⟨R, h.below hb, Tch.of_below hb, fun _ e => .inl e⟩

set_option maxHeartbeats 1000000 in
theorem refSave_anyU {R : Nat → Prop} {r : Nat} {s : DS} (t : Sp) (v : Value) (w : World) (h : Rf R w r s) (hr : RdV w v t.vs) (hm : ∀ i, (s.V i).length < 274877906943) :
    Calls Try.prog 21 #[dp r, supv t v] w fun e w' => e = .returned (.int .i64 (sco s t)) ∧ RfTo R w w' r (svv s t) := by
  obtain ⟨a, cap, rfl, _⟩ := id hr
  have HD : Hid (Rf R w r s) := h
  have HR : Hid (RdV w (.slice a t.vs.length cap) t.vs) := hr
  have HV : Hid (∀ i, (s.V i).length < 274877906943) := hm
  obtain ⟨lb, cp, hbx, hcp, hn1, hn2⟩ := h.box
  have HBX := hideP hbx
  obtain ⟨W1, hW1⟩ : ∃ W1, w.alloc (.cells #[.int .i64 t.gen, .int .i64 t.sc, .int .i64 t.nx, .slice a t.vs.length cap] 24) = W1 := ⟨_, rfl⟩
  have B1 : Hid (Below w.heap.size w W1) := by rw [← hW1]; exact (Below.refl _ _).alloc (Nat.le_refl _) _
  have U1 : Hid (Uv W1 w.heap.size t (.slice a t.vs.length cap)) := by rw [← hW1]; exact uv_new w t _
  obtain ⟨n, hn⟩ : ∃ n, Hid (s.L.length = n) := ⟨_, rfl⟩
  rw [hn.out] at HBX hn1 hn2
  have HPU : Hid (∀ W, Below w.heap.size w W → Calls Try.prog 9 #[supv t (.slice a t.vs.length cap)] W fun e w' => PutV t W e w') := fun W h => refPutU_any t _ W (HR.out.below h)
  unfold supv at HPU
  unfold supv
  obtain ⟨l, hl⟩ : ∃ l, Hid (t.vs.length = l) := ⟨_, rfl⟩
  obtain ⟨ge, hge⟩ : ∃ l, Hid (t.gen = l) := ⟨_, rfl⟩
  obtain ⟨sc, hsc⟩ : ∃ l, Hid (t.sc = l) := ⟨_, rfl⟩
  obtain ⟨nx, hnx⟩ : ∃ l, Hid (t.nx = l) := ⟨_, rfl⟩
  rw [hl.out, hge.out, hsc.out, hnx.out] at hW1 HPU ⊢
  rw [hl.out] at U1
  obtain ⟨cd, hcd⟩ : ∃ c, Hid (sco s t = c) := ⟨_, rfl⟩
  obtain ⟨fs, hfs⟩ : ∃ c, Hid (svv s t = c) := ⟨_, rfl⟩
  rw [hcd.out, hfs.out]
  have q0 := U1.out.c0
  have q1 := U1.out.c1
  have q2 := U1.out.c2
  have q3 := U1.out.c3
  rw [hge.out] at q0
  rw [hsc.out] at q1
  rw [hnx.out] at q2
  clear h hr hm hbx
  go_enter Try.func21, Try.ntmps21
  go_wp2_with fail
  refine (HPU.out W1 B1.out).mono ?_
  rintro e w3 ⟨v3, c3, rfl, b3, n3, h3⟩
  have U3 : Hid (Uv w3 w.heap.size t (.slice a l cap)) := U1.out.below b3
  have B3 : Hid (Below w.heap.size w w3) := B1.out.trans (b3.mono B1.out.size)
  have bx := HBX.out w3 B3.out
  clear q0 q1 q2 q3 hW1
  have q0 := U3.out.c0
  have q1 := U3.out.c1
  rw [hge.out] at q0
  rw [hsc.out] at q1
  rcases h3 with ⟨hmt, rfl, wb3⟩ | ⟨hmt, rfl, rfl⟩
  rotate_left
  · have HC1 : Hid (cd = 1 ∧ fs = s) := by
      rw [← hcd.out, ← hfs.out]
      show sco s t = 1 ∧ svv s t = s
      unfold sco svv
      rw [if_neg (fun h => by rw [hmt] at h; cases h.1), if_neg (fun h => by rw [hmt] at h; cases h.1)]
      exact ⟨rfl, rfl⟩
    clear hmt b3 n3
    go_wp2_with fail
    go_quiet (fail)
    go_wp2_with fail
    go_ret
    exact ⟨by rw [HC1.out.1]; rfl, by rw [HC1.out.2]; exact HD.out.to_below (B3.out.trans (Below.of_drewN _ _ _))⟩
  by_cases e1 : sc = (n : Int)
  rotate_left
  · have HC1 : Hid (cd = 1 ∧ fs = s) := by
      rw [← hcd.out, ← hfs.out]
      show sco s t = 1 ∧ svv s t = s
      unfold sco svv
      rw [if_neg (fun h => e1 (by rw [← hsc.out, ← hn.out]; exact h.2)), if_neg (fun h => e1 (by rw [← hsc.out, ← hn.out]; exact h.2))]
      exact ⟨rfl, rfl⟩
    have e1b : (sc != (n : Int)) = true := by simp [e1]
    clear e1 hmt b3 n3 wb3
    go_wp2_with fail
    go_quiet (fail)
    go_wp2_with fail
    go_ret
    exact ⟨by rw [HC1.out.1]; rfl, by rw [HC1.out.2]; exact HD.out.to_below (B3.out.trans (Below.of_drewN _ _ _))⟩
  · have e1b : (sc != (n : Int)) = false := by simp [e1]
    have HE1 : Hid (sc = (n : Int)) := e1
    subst e1
    obtain ⟨hh, _⟩ := mayU_iff.1 hmt
    have hge1 : 1 ≤ ge := by rw [← hge.out]; exact hh.1
    have hge2 : ge ≤ 4294967295 := by rw [← hge.out]; exact hh.2.1
    have hn128 : 128 ≤ n := by have := hh.2.2.2.2.1; rw [hsc.out] at this; omega
    have HUL : Hid ((usec t).length = 256) := usec_len hh.2.2.2.2.2.2
    have hcond : mayU t = true ∧ t.sc = (s.L.length : Int) := ⟨hmt, by rw [hsc.out, hn.out]⟩
    have HC1 : Hid (cd = 0 ∧ fs = (wrr s (ge % 2) (usec t)).fl) := by
      rw [← hcd.out, ← hfs.out, ← hge.out]
      show sco s t = 0 ∧ svv s t = _
      unfold sco svv
      rw [if_pos hcond, if_pos hcond]
      exact ⟨rfl, rfl⟩
    have X3 : Hid (Rd .u8 w3 v3 (usec t)) := wb3.rd
    have HSD := HD.out.rlt
    have N3 : Hid (∀ k, v3.ownBlock = some k → ¬ R k) := fun k hk hS => by have h1 := n3 k hk; have h2 := HSD k hS; have h3 := B1.out.size; omega
    obtain ⟨av, cv, hav, _⟩ := id X3.out
    rw [HUL.out] at hav
    rw [hav] at X3 N3 ⊢
    clear hmt hh hcond HSD wb3 b3 n3 hav
    go_wp2_with fail
    go_quiet (fail)
    obtain ⟨W4, hW4⟩ : ∃ W4, Hid (w3.drewN nq = W4) := ⟨_, rfl⟩
    have B4 : Hid (Below w.heap.size w W4) := by rw [← hW4.out]; exact B3.out.trans (Below.of_drewN _ _ _)
    have X4 : Hid (Rd .u8 W4 (.slice av 256 cv) (usec t)) := by rw [← hW4.out]; exact X3.out.below (Below.of_drewN _ _ _)
    have p0 : W4.cell? ⟨w.heap.size, 0, none⟩ = some (.int .i64 ge) := by rw [← hW4.out]; exact q0
    rw [hW4.out]
    have hwr := refWrite_all (ge % 2) (.slice av 256 cv) (usec t) W4 (HD.out.below B4.out) X4.out (usec_by t) N3.out HV.out
    have hco : wco s (ge % 2) (usec t).length = 0 := by unfold wco; rw [if_neg (by rw [hn.out]; omega), if_pos HUL.out]
    rw [hco] at hwr
    have HW := hideP hwr
    obtain ⟨z, hrr⟩ : ∃ z, ge % 2 = z := ⟨_, rfl⟩
    have htm : ge.tmod 2 = z := by rw [Int.tmod_eq_emod_of_nonneg (by omega), hrr]
    rw [hrr] at HW HC1
    clear hwr hco hrr q0 q1 bx hW4 U3 X3
    go_wp2_with fail
    refine HW.out.mono ?_
    rintro e w5 ⟨rfl, R5, d5, t5, n5⟩
    have HFL := hideP (refFlush_any w5 d5)
    have T5 := hideP t5
    have N5 := hideP n5
    have D5 := hideP d5
    clear d5 t5 n5 p0 HW
    go_wp2_with fail
    refine HFL.out.mono ?_
    rintro e w6 ⟨rfl, d6⟩
    have D6 := hideP d6
    clear d6 HFL
    go_wp2_with fail
    go_ret
    refine ⟨by rw [HC1.out.1]; rfl, ?_⟩
    rw [HC1.out.2]
    have h1 : RfTo R W4 w6 r (wrr s z (usec t)).fl := RfTo.trans D5.out T5.out N5.out D6.out
    exact RfTo.trans (HD.out.below B4.out) (Tch.of_below B4.out) (fun _ e => .inl e) h1
end Go.Proofs.Ytdicgaepggffbaa
