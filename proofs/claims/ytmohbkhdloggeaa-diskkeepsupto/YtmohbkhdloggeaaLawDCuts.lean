/-
  What is cut off is not done.
-/
import Derived.Test.YtmohbkhdloggeaaDLives
import Derived.Test.YtmohbkhdloggeaaDArg
import Derived.Test.YtmohbkhdloggeaaSame
namespace Go.Proofs.Ytmohbkhdloggeaa
open Go.RowKit Go.Maps
set_option linter.unusedVariables false
set_option linter.unusedSimpArgs false
set_option maxRecDepth 100000

/-- What the law holds for sectors. -/
def Lst (P : Nat → Prop) (S : Nat → Prop) (w : World) (q : Nat) (s : DS) : Prop :=
  ∀ i, i < 12 → P i → ∃ v, w.cell? ⟨q, i, none⟩ = some v ∧ ((v = .slice none 0 0 ∧ s.V i = []) ∨ ∃ y, Owns .u8 5 w v y ∧ y.length = 256 ∧ s.V i ≠ [] ∧ s.has i = y ∧ ∀ k, v.ownBlock = some k → ¬ S k ∧ k ≠ q)

theorem Lst.tch {P S S' : Nat → Prop} {w w' : World} {q : Nat} {s : DS} (h : Lst P S w q s) (ht : Tch S w w') (hq : ¬ S q) (hql : q < w.heap.size) (hS : ∀ k, S' k → S k ∨ w.heap.size ≤ k) : Lst P S' w' q s := fun i hi hp => by
  obtain ⟨v, h1, h2⟩ := h i hi hp
  refine ⟨v, by rw [ht.cell (p := ⟨q, i, none⟩) hql hq]; exact h1, ?_⟩
  rcases h2 with h2 | ⟨y, ho, hy, hv, hh, hk⟩
  · exact .inl h2
  · refine .inr ⟨y, ho.tch ht (fun k e => (hk k e).1), hy, hv, hh, fun k e => ⟨fun e2 => ?_, (hk k e).2⟩⟩
    rcases hS k e2 with e3 | e3
    · exact (hk k e).1 e3
    · have := ho.lt k e; omega
theorem Lst.below {P S : Nat → Prop} {w w' : World} {q : Nat} {s : DS} (h : Lst P S w q s) (hb : Below w.heap.size w w') (hq : ¬ S q) (hql : q < w.heap.size) : Lst P S w' q s := h.tch (Tch.of_below hb) hq hql (fun _ e => .inl e)
theorem Lst.congr {P S : Nat → Prop} {w : World} {q : Nat} {s s' : DS} (h : Lst P S w q s) (hV : ∀ i, P i → s'.V i = s.V i) (hL : s'.L = s.L) : Lst P S w q s' := fun i hi hp => by
  obtain ⟨v, h1, h2⟩ := h i hi hp
  refine ⟨v, h1, ?_⟩
  rw [hV i hp, show s'.has i = s.has i by unfold DS.has; rw [hV i hp, hL]]
  exact h2
theorem Lst.weak {P P' S : Nat → Prop} {w : World} {q : Nat} {s : DS} (h : Lst P S w q s) (hp : ∀ i, P' i → P i) : Lst P' S w q s := fun i hi hpi => h i hi (hp i hpi)
/-- One more is held. -/
theorem Lst.put {S : Nat → Prop} {w : World} {q a : Nat} {s : DS} {v : Value} {y : List Int} (h : Lst (fun i => i ≠ a) S w q s) (hc : ∃ u, w.cell? ⟨q, a, none⟩ = some u) (ho : Owns .u8 5 w v y) (hy : y.length = 256) (hV : s.V a ≠ []) (hh : s.has a = y) (hk : ∀ k, v.ownBlock = some k → ¬ S k ∧ k ≠ q) :
    Lst (fun _ => True) S (w.setCell ⟨q, a, none⟩ v) q s := fun i hi _ => by
  have ht := tch_set w q a v
  obtain ⟨u, hu⟩ := hc
  by_cases e : i = a
  · subst e
    exact ⟨v, World.cell?_setCell_same' _ _ _ (by rw [hu]; rfl), .inr ⟨y, ho.tch ht (fun k e => (hk k e).2), hy, hV, hh, hk⟩⟩
  · obtain ⟨x, h1, h2⟩ := h i hi e
    refine ⟨x, by rw [World.cell?_setCell_other _ _ _ _ (fun e2 => by simp only [Addr.mk.injEq] at e2; exact e e2.2.1.symm)]; exact h1, ?_⟩
    rcases h2 with h2 | ⟨y', ho', hy', hv', hh', hk'⟩
    · exact .inl h2
    · exact .inr ⟨y', ho'.tch ht (fun k e => (hk' k e).2), hy', hv', hh', hk'⟩

theorem wr_cut {s : DS} {i : Nat} {x : List Int} (hc : s.c = true) (hl : s.l ≠ 0) : (s.wr i x).c = true ∧ (s.wr i x).l = s.l - 1 ∧ (s.wr i x).L = s.L ∧ (s.wr i x).V = vput s.V i (s.V i ++ [x]) := by
  have h : s.can = true := by simp [DS.can, hl]
  unfold DS.wr
  rw [h]
  simp [DS.tick, hc]
theorem wr_none {s : DS} {i : Nat} {x : List Int} (hc : s.c = true) (hl : s.l = 0) : s.wr i x = s := by
  have h : s.can = false := by simp [DS.can, hc, hl]
  unfold DS.wr
  rw [h]
  rfl
theorem has_app {s : DS} {i : Nat} {x : List Int} {V : List (List Int)} (h : s.V i = V ++ [x]) : s.has i = x := by
  unfold DS.has
  rw [h]
  simp

/-- What the law writes at its end. -/
def lv9 : Dd := ⟨0, 0, 9, 0, false, .slice none 0 0, []⟩
theorem lv9_ok : DdOk lv9 := ⟨by decide, by decide, by decide, by decide⟩
theorem lv9_len : (dby lv9).length = 256 := by rw [dby_len]; rfl

/-- Twelve slices that are nil. -/
def nil12 : List Value := List.replicate 12 (.slice none 0 0)
theorem nil12_get {i : Nat} (h : i < 12) : nil12[i]? = some (.slice none 0 0) := by unfold nil12; rw [List.getElem?_replicate, if_pos h]
theorem info_58 : (Try.prog.info? 58).map (fun i => (i.zero, i.size)) = some (some (.agg nil12.toArray), 12) := by kernel_rfl

/-- A disk under a cut of n, and what is held of it. -/
structure CutI (w w' : World) (d q N nn : Nat) (S : Nat → Prop) (s : DS) : Prop where
  dc : Dc S w w' d s
  ls : Lst (fun _ => True) S w' q s
  c : s.c = true
  l : s.l = nn
  L : s.L = List.replicate 12 zz
  V : ∀ i, (s.V i).length + nn ≤ N
  nq : ¬ S q
  ql : q < w'.heap.size
  q0 : w.heap.size ≤ q
  fz : ∀ i, w'.frozen? ⟨q, i, none⟩ = false

theorem CutI.below {w w1 w2 : World} {d q N nn : Nat} {S : Nat → Prop} {s : DS} (h : CutI w w1 d q N nn S s) (hb : Below w1.heap.size w1 w2) : CutI w w2 d q N nn S s :=
  ⟨h.dc.below hb, h.ls.below hb h.nq h.ql, h.c, h.l, h.L, h.V, h.nq, Nat.lt_of_lt_of_le h.ql hb.size, h.q0, fun i => by rw [(Tch.of_below (S := fun _ => False) hb).frozen (p := ⟨q, i, none⟩) h.ql (fun e => e)]; exact h.fz i⟩

set_option maxHeartbeats 4000000 in
theorem diskCuts_walk (lv : Value) (xs : List Dd) (n : Int) (w : World) (hr : RdD w lv xs) (hn : (Lit.int .i64 n).wf = true) :
    Calls Try.prog 7 #[lv, .int .i64 n] w fun e w' => e = .returned (.bool true) ∧ Below w.heap.size w w' := by
  have HR : Hid (RdD w lv xs) := hr
  obtain ⟨la, lcap, rfl, hl1, hl2, hl3⟩ := hr
  have HNEW := hideP (new_ok 12 w (by decide) (by decide))
  have HPK := hideP (fun w => pick_any n 20 (by decide) (by decide) hn w)
  have hp20 := pk_lt n (n := 20) (by decide)
  obtain ⟨N, hN⟩ : ∃ N, pk n 20 = N := ⟨_, rfl⟩
  rw [hN] at HPK hp20
  have HN20 : Hid (N < 20) := hp20
  obtain ⟨t, ht⟩ : ∃ t, xs.length = t := ⟨_, rfl⟩
  have HT : Hid (xs.length = t) := ht
  have ht63 : (t : Int) ≤ 9223372036854775807 := by rw [← ht]; unfold maxLen at hl2; omega
  rw [ht] at HR ⊢
  clear hN hl1 hl2 hl3 hn ht
  obtain ⟨hv58, hi58⟩ := zero_of_info info_58
  clear hi58
  go_enter Try.func7, Try.ntmps7
  go_wp2_with fail
  refine HNEW.out.mono ?_
  clear HNEW
  rintro e w1 ⟨d, S1, rfl, hd1, hb1, hs1⟩
  have D1 : Hid (Dc S1 w w1 d (DS.new 12)) := ⟨hd1, hb1, hs1⟩
  clear hd1 hb1 hs1
  go_wp2_with fail
  refine (HPK.out _).mono ?_
  rintro e w1 ⟨rfl, rfl⟩
  clear HPK
  have HCT := hideP (cut_ok N w1 D1.out.1 (by omega))
  go_wp2_with fail
  refine HCT.out.mono ?_
  clear HCT
  rintro e w2 ⟨rfl, hd2⟩
  obtain ⟨S2, hd2, hx1, hx2⟩ := D1.out.to hd2
  have D2 : Hid (Dc S2 w w2 d ((DS.new 12).ct N)) := hd2
  clear hd2 D1 hx1 hx2
  obtain ⟨W0, hW0⟩ : ∃ W0, w2.alloc (.cells nil12.toArray 58) = W0 := ⟨_, rfl⟩
  obtain ⟨q, hq⟩ : ∃ q, w2.heap.size = q := ⟨_, rfl⟩
  have I0 : Hid (CutI w W0 d q N N S2 ((DS.new 12).ct N)) := by
    have hb : Below w2.heap.size w2 W0 := by rw [← hW0]; exact (Below.refl _ _).alloc (Nat.le_refl _) _
    have hqq : W0.heap[q]? = some (.cells nil12.toArray 58 (0, 0)) := by rw [← hW0, ← hq]; exact heap_alloc_new w2 _
    refine ⟨D2.out.below hb, fun i hi _ => ⟨.slice none 0 0, ?_, .inl ⟨rfl, rfl⟩⟩, rfl, rfl, rfl, fun i => by show 0 + N ≤ N; omega, fun e => ?_, (Array.getElem?_eq_some_iff.1 hqq).1, ?_, fun i => frozen_of_row W0 q i _ _ hqq⟩
    · rw [cell_of_row W0 q i _ _ (0, 0) hqq]
      simp only [List.getElem?_toArray]
      exact nil12_get hi
    · have := D2.out.1.slt q e; omega
    · rw [← hq]; exact D2.out.2.1.size
  have HQ : Hid (w2.heap.size = q) := hq
  clear D2
  go_wp2_with fail
  clear hq hW0 HQ hv58
  go_loopw [1, 8] (fun nv iv wr => ∃ (k nn : Nat) (S : Nat → Prop) (s : DS), k ≤ t ∧ nn ≤ N ∧ nv = .int .i64 nn ∧ iv = .int .i64 k ∧ Hid (CutI w wr d q N nn S s)) (fun _ iv _ => t - (intOf iv).toNat)
  case atStart => exact ⟨0, N, S2, _, Nat.zero_le _, Nat.le_refl _, rfl, rfl, I0⟩
  case round =>
    clear I0
    obtain ⟨k, nn, S, s, hk, hnn, rfl, rfl, I1⟩ := hrel
    by_cases hkt : k < t
    · have hki : (k : Int) < (t : Int) := by omega
      have hk0 : (0 : Int) ≤ (k : Int) := by omega
      obtain ⟨xb, xo, rfl, DC⟩ := HR.out.at_ I1.out.dc.2.1 (k := k) (by rw [HT.out]; exact hkt)
      obtain ⟨x, hx⟩ : ∃ x, xs[k]'(by rw [HT.out]; exact hkt) = x := ⟨_, rfl⟩
      rw [hx] at DC
      have cc1 := DC.c1
      have HPA := hideP (pick_any x.at_ 12 (by decide) (by decide) DC.ok.a wr)
      have HBY := hideP (deed_bytes x DC.ok wr)
      have hp12 := pk_lt x.at_ (n := 12) (by decide)
      have HDB : Hid (By (dby x)) := dby_by DC.ok
      obtain ⟨a, ha⟩ : ∃ a, pk x.at_ 12 = a := ⟨_, rfl⟩
      rw [ha] at HPA hp12
      have HA : Hid (a < 12) := hp12
      obtain ⟨kind, at_, fill, last, short, pv, ps⟩ := x
      unfold ddv at HBY
      dsimp only at *
      obtain ⟨cc0, cc1', cc2, cc3, cc4, cc5, hok, hrd⟩ := DC
      dsimp only at *
      clear hx ha hok hrd cc1'
      go_wp2_with fail
      refine HPA.out.mono ?_
      clear HPA
      rintro e wr ⟨rfl, rfl⟩
      go_wp2_with fail
      refine HBY.out.mono ?_
      clear HBY
      rintro e w3 ⟨bv, rfl, ho3, hb3, hf3⟩
      have I3 : Hid (CutI w w3 d q N nn S s) := I1.out.below hb3
      have OB : Hid (Owns .u8 5 w3 bv (dby ⟨kind, at_, fill, last, short, pv, ps⟩)) := ho3
      have FB : Hid (∀ k, bv.ownBlock = some k → wr.heap.size ≤ k ∧ k < w3.heap.size) := fun k hk => ⟨hf3 k hk, ho3.lt k hk⟩
      have NSB : Hid (∀ k, bv.ownBlock = some k → ¬ S k ∧ k ≠ q) := fun k hk => ⟨fun e => by have := I1.out.dc.1.slt k e; have := hf3 k hk; omega, fun e => by have := I1.out.ql; have := hf3 k hk; omega⟩
      generalize dby ⟨kind, at_, fill, last, short, pv, ps⟩ = y at OB HDB
      obtain ⟨va, vc, hbv, hv1, hv2, _⟩ := OB.out.rd
      subst hbv
      obtain ⟨Ln, hLn⟩ : ∃ Ln, y.length = Ln := ⟨_, rfl⟩
      have HLn : Hid (y.length = Ln) := hLn
      rw [hLn] at OB FB NSB hv1 ⊢
      have HLM : Hid (Ln ≤ maxLen) := Nat.le_trans hv1 hv2
      have hL12 : s.L.length = 12 := by rw [I1.out.L]; simp
      clear hLn ho3 hb3 hf3 hv1 hv2 cc0 cc1 cc2 cc3 cc4 cc5
      by_cases hy : Ln = 256
      · subst hy
        have HW := hideP (write_ok a (.slice va 256 vc) y w3 I3.out.dc.1 (by rw [hL12]; exact HA.out) OB.out.rd HLn.out HDB.out (fun k hk => (NSB.out k hk).1) (by have := I1.out.V a; have := HN20.out; omega))
        have HY : Hid (y.length = 256) := HLn.out
        clear hL12
        go_wp2_with fail
        refine HW.out.mono ?_
        clear HW
        rintro e w4 ⟨rfl, hd4⟩
        obtain ⟨S4, hd4, ht4, hs4⟩ := I3.out.dc.to hd4
        have T4 : Hid (Tch S w3 w4) := ht4
        have SS4 : Hid (∀ k, S4 k → S k ∨ w3.heap.size ≤ k) := hs4
        have D4 : Hid (Dc S4 w w4 d (s.wr a y)) := hd4
        have NQ4 : Hid (¬ S4 q ∧ q < w4.heap.size ∧ ∀ i, w4.frozen? ⟨q, i, none⟩ = false) := by
          refine ⟨fun e => ?_, Nat.lt_of_lt_of_le I3.out.ql ht4.size, fun i => by rw [ht4.frozen (p := ⟨q, i, none⟩) I3.out.ql I3.out.nq]; exact I3.out.fz i⟩
          rcases hs4 q e with e | e
          · exact I3.out.nq e
          · have := I3.out.ql; omega
        have OB4 : Hid (Owns .u8 5 w4 (.slice va 256 vc) y) := OB.out.tch ht4 (fun k e => (NSB.out k e).1)
        have NSB4 : Hid (∀ k, (Value.slice va 256 vc).ownBlock = some k → ¬ S4 k ∧ k ≠ q) := fun k hk => ⟨fun e => by
          rcases hs4 k e with e | e
          · exact (NSB.out k hk).1 e
          · have := (FB.out k hk).2; omega, (NSB.out k hk).2⟩
        have L4 : Hid (Lst (fun _ => True) S4 w4 q s) := I3.out.ls.tch ht4 I3.out.nq I3.out.ql hs4
        clear hd4 ht4 hs4 OB NSB
        by_cases hn0 : nn = 0
        · have hnI : ¬ (nn : Int) > 0 := by omega
          have I4 : Hid (CutI w w4 d q N nn S4 s) := by
            have e := wr_none (i := a) (x := y) I3.out.c (I3.out.l.trans hn0)
            have hd := D4.out
            rw [e] at hd
            exact ⟨hd, L4.out, I3.out.c, I3.out.l, I3.out.L, I3.out.V, NQ4.out.1, NQ4.out.2.1, I3.out.q0, NQ4.out.2.2⟩
          clear hn0
          go_wp2_with fail
          go_roundw
          case rel => exact ⟨k + 1, nn, S4, s, by omega, hnn, rfl, by go_num, I4⟩
          case measure => simp [intOf]; omega
        · have hnI : (nn : Int) > 0 := by omega
          obtain ⟨m, hm⟩ : ∃ m, nn = m + 1 := ⟨nn - 1, by omega⟩
          have hnm : (nn : Int) - 1 = (m : Int) := by omega
          obtain ⟨u, hu⟩ : ∃ u, w4.cell? ⟨q, a, none⟩ = some u := by obtain ⟨v, h1, _⟩ := L4.out a HA.out trivial; exact ⟨v, h1⟩
          have fq := NQ4.out.2.2 a
          have ha0 : (0 : Int) ≤ (a : Int) := by omega
          have ha1 : (a : Int) < 12 := by have := HA.out; omega
          have ha2 : (a : Int) ≤ 11 := by omega
          obtain ⟨e1, e2, e3, e4⟩ := wr_cut (i := a) (x := y) I3.out.c (by rw [I3.out.l]; exact hn0)
          have hVa : (s.wr a y).V a = s.V a ++ [y] := by rw [e4]; simp [vput]
          have I4 : Hid (CutI w (w4.setCell ⟨q, a, none⟩ (.slice va 256 vc)) d q N m S4 (s.wr a y)) := by
            have ht := tch_set w4 q a (.slice va 256 vc)
            have hL5 : Lst (fun i => i ≠ a) S4 w4 q (s.wr a y) := (L4.out.weak (P' := fun i => i ≠ a) (fun _ _ => trivial)).congr (fun i hi => by rw [e4]; simp [vput, hi]) e3
            refine ⟨⟨D4.out.1.tch ht (fun k hk e => NQ4.out.1 (by rw [← e]; exact hk)), D4.out.2.1.trans (ht.below D4.out.2.1.size (fun k e => by rw [e]; exact I3.out.q0)), D4.out.2.2⟩, hL5.put ⟨u, hu⟩ OB4.out HY.out (by rw [hVa]; simp) (has_app hVa) NSB4.out, e1, by rw [e2, I3.out.l, hm]; rfl, by rw [e3]; exact I3.out.L, fun i => ?_, NQ4.out.1, Nat.lt_of_lt_of_le NQ4.out.2.1 ht.size, I3.out.q0, fun i => by rw [World.frozen?_setCell]; exact NQ4.out.2.2 i⟩
            rw [e4]
            unfold vput
            have := I3.out.V i
            split
            · rename_i e; subst e; simp; omega
            · omega
          have HM : Hid (m ≤ N) := by show _ ≤ _; omega
          clear hVa e1 e2 e3 e4 hm hn0
          go_wp2_with fail
          go_roundw
          case rel => exact ⟨k + 1, m, S4, s.wr a y, by omega, HM.out, by go_num, by go_num, I4⟩
          case measure => simp [intOf]; omega
      · have HW := hideP (write_len a va Ln vc w3 I3.out.dc.1 (by rw [hL12]; exact HA.out) hy HLM.out)
        clear hL12 hy
        go_wp2_with fail
        refine HW.out.mono ?_
        clear HW
        rintro e w3 ⟨rfl, rfl⟩
        go_wp2_with fail
        go_roundw
        case rel => exact ⟨k + 1, nn, S, s, by omega, hnn, rfl, by go_num, I3⟩
        case measure => simp [intOf]; omega
    · have hki : ¬ (k : Int) < (t : Int) := by omega
      clear hkt hk
      obtain ⟨j0, hj, hy0, hy1, hy2⟩ := elem8.info
      go_wp2_with fail
      go_loopw [11] (fun iv wr' => ∃ (k : Nat), k ≤ 12 ∧ iv = .int .i64 k ∧ Hid (CutI w wr' d q N nn S s)) (fun iv _ => 12 - (intOf iv).toNat)
      case atStart => exact ⟨0, Nat.zero_le _, rfl, I1⟩
      case round =>
        clear I1
        obtain ⟨k, hk, rfl, I1⟩ := hrel
        by_cases hkt : k < 12
        · have hki : (k : Int) < 12 := by omega
          have hk0 : (0 : Int) ≤ (k : Int) := by omega
          have hk11 : (k : Int) ≤ 11 := by omega
          have hL12 : s.L.length = 12 := by rw [I1.out.L]; simp
          have HRD := hideP (read_ok k wr I1.out.dc.1 (by rw [hL12]; exact hkt))
          clear hL12
          go_wp2_with fail
          refine HRD.out.mono ?_
          clear HRD
          rintro e w3 ⟨xv, rfl, hw3, hb3, _⟩
          have I3 : Hid (CutI w w3 d q N nn S s) := I1.out.below hb3
          have R3 : Hid (Rd .u8 w3 xv (s.has k)) := hw3.rd
          obtain ⟨v, hc, hv⟩ := I3.out.ls k hkt trivial
          clear hw3 hb3 I1
          rcases hv with ⟨rfl, hV⟩ | ⟨y, ho, hy, hV, hh, _⟩
          · have HH : Hid (s.has k = zz) := by
              show _ = _
              rw [has_of_nil hV, I3.out.L, List.getD_eq_getElem?_getD, List.getElem?_replicate, if_pos hkt]
              rfl
            clear hV
            go_wp2_with (at_make; refine wpList_make_full _ rfl (.const (.int .i64 256)) (.const (.int .i64 256)) 41 rfl 0 5 j0 _ 1 Try.underlying41 hj hy0 hy1 .i64 .i64 _ _ 256 rfl rfl rfl rfl (by rw [hy2]; omega) (by unfold maxLen; omega) (Nat.zero_le _) ?_)
            intro w4 how4 hgw4
            have Bw4 : Hid (Below w3.heap.size w3 w4) := (Below.refl _ _).grown hgw4 (Nat.le_refl _) (fun k e => by cases e)
            have Zw4 : Hid (Owns .u8 5 w4 (.slice (some ⟨w3.heap.size, 0, none⟩) 256 256) zz) := by
              show w4.ownsRow _ _ _ _ _ _
              rw [toList_madeCells_one] at how4
              rw [zz_len]
              unfold zz
              rw [List.map_replicate]
              exact how4
            clear how4 hgw4
            have R4 : Hid (Rd .u8 w4 xv zz) := by have := R3.out.below Bw4.out; rw [HH.out] at this; exact this
            have HS := same_rd xv (.slice (some ⟨w3.heap.size, 0, none⟩) 256 256) zz zz w4 R4.out Zw4.out.rd
            rw [decide_eq_true rfl] at HS
            have HS := hideP HS
            have I4 : Hid (CutI w w4 d q N nn S s) := I3.out.below Bw4.out
            clear I3
            go_wp2_with fail
            refine HS.out.mono ?_
            clear HS
            rintro e w5 ⟨rfl, hb5⟩
            have I5 : Hid (CutI w w5 d q N nn S s) := I4.out.below hb5
            clear hb5
            go_wp2_with fail
            go_roundw
            case rel => exact ⟨k + 1, by omega, by go_num, I5⟩
            case measure => simp [intOf]; omega
          · have RY := ho.rd
            obtain ⟨va, vc, rfl, _⟩ := id RY
            rw [hh] at R3
            have HS := same_rd xv _ y y w3 R3.out RY
            rw [decide_eq_true rfl, hy] at HS
            have HS := hideP HS
            rw [hy] at hc
            clear ho hy hV hh RY
            go_wp2_with fail
            refine HS.out.mono ?_
            clear HS
            rintro e w5 ⟨rfl, hb5⟩
            have I5 : Hid (CutI w w5 d q N nn S s) := I3.out.below hb5
            clear hb5
            go_wp2_with fail
            go_roundw
            case rel => exact ⟨k + 1, by omega, by go_num, I5⟩
            case measure => simp [intOf]; omega
        · have hki : ¬ (k : Int) < 12 := by omega
          clear hkt hk
          have HPW := hideP (power_any (.slice none 0 0) [] wr I1.out.dc.1 ⟨none, 0, rfl, Nat.le_refl _, by unfold maxLen; omega, fun _ => rfl, .inl rfl⟩ (fun k hk _ => by cases hk) (fun i => by have := I1.out.V i; have := HN20.out; omega))
          go_wp2_with fail
          refine HPW.out.mono ?_
          clear HPW
          rintro e w3 ⟨rfl, hd3⟩
          obtain ⟨S3, hd3, _, _⟩ := I1.out.dc.to hd3
          have D3 : Hid (Dc S3 w w3 d (s.pw [])) := hd3
          have HP : Hid ((s.pw []).L = List.replicate 12 zz ∧ (∀ i, (s.pw []).V i = []) ∧ (s.pw []).c = false) := ⟨by rw [pw_L_nil]; exact I1.out.L, pw_V s [] I1.out.dc.1.out_V, rfl⟩
          clear hd3 I1
          generalize s.pw [] = s3 at D3 HP
          have hL12 : s3.L.length = 12 := by rw [HP.out.1]; simp
          have HRD := hideP (read_ok 3 w3 D3.out.1 (by rw [hL12]; decide))
          go_wp2_with fail
          refine HRD.out.mono ?_
          clear HRD
          rintro e w4 ⟨xv, rfl, hw4, hb4, _⟩
          have R4 : Hid (Rd .u8 w4 xv zz) := by
            have := hw4.rd
            rw [has_of_nil (HP.out.2.1 3), HP.out.1] at this
            exact this
          have D4 : Hid (Dc S3 w w4 d s3) := D3.out.below hb4
          clear hw4 hb4 D3
          go_wp2_with (at_make; refine wpList_make_full _ rfl (.const (.int .i64 256)) (.const (.int .i64 256)) 41 rfl 0 5 j0 _ 1 Try.underlying41 hj hy0 hy1 .i64 .i64 _ _ 256 rfl rfl rfl rfl (by rw [hy2]; omega) (by unfold maxLen; omega) (Nat.zero_le _) ?_)
          intro w5 how5 hgw5
          have Bw5 : Hid (Below w4.heap.size w4 w5) := (Below.refl _ _).grown hgw5 (Nat.le_refl _) (fun k e => by cases e)
          have Zw5 : Hid (Owns .u8 5 w5 (.slice (some ⟨w4.heap.size, 0, none⟩) 256 256) zz) := by
            show w5.ownsRow _ _ _ _ _ _
            rw [toList_madeCells_one] at how5
            rw [zz_len]
            unfold zz
            rw [List.map_replicate]
            exact how5
          clear how5 hgw5
          have R5 : Hid (Rd .u8 w5 xv zz) := R4.out.below Bw5.out
          have D5 : Hid (Dc S3 w w5 d s3) := D4.out.below Bw5.out
          have HS := same_rd xv (.slice (some ⟨w4.heap.size, 0, none⟩) 256 256) zz zz w5 R5.out Zw5.out.rd
          rw [decide_eq_true rfl] at HS
          have HS := hideP HS
          clear D4 R4 hj hy0 hy1 hy2
          go_wp2_with fail
          refine HS.out.mono ?_
          clear HS
          rintro e w6 ⟨rfl, hb6⟩
          have D6 : Hid (Dc S3 w w6 d s3) := D5.out.below hb6
          clear hb6 D5
          go_wp2_with fail
          refine (deed_bytes lv9 lv9_ok w6).mono ?_
          rintro e w7 ⟨yv, rfl, ho7, hb7, hf7⟩
          have D7 : Hid (Dc S3 w w7 d s3) := D6.out.below hb7
          have O7 : Hid (Owns .u8 5 w7 yv (dby lv9)) := ho7
          have NS : Hid (∀ k, yv.ownBlock = some k → ¬ S3 k) := fun k hk hS => by have := hf7 k hk; have := D6.out.1.slt k hS; omega
          have HW := hideP (write_ok 3 yv (dby lv9) w7 D7.out.1 (by rw [hL12]; decide) ho7.rd lv9_len (dby_by lv9_ok) NS.out (by rw [HP.out.2.1]; decide))
          clear ho7 hb7 hf7 D6 hL12
          go_wp2_with fail
          refine HW.out.mono ?_
          clear HW
          rintro e w8 ⟨rfl, hd8⟩
          obtain ⟨S8, hd8, ht8, _⟩ := D7.out.to hd8
          have D8 : Hid (Dc S8 w w8 d (s3.wr 3 (dby lv9))) := hd8
          have O8 : Hid (Owns .u8 5 w8 yv (dby lv9)) := O7.out.tch ht8 NS.out
          have HH8 : Hid ((s3.wr 3 (dby lv9)).has 3 = dby lv9) := by
            refine has_app (V := s3.V 3) ?_
            have : s3.can = true := by simp [DS.can, HP.out.2.2]
            unfold DS.wr
            rw [this]
            simp [vput]
          have HRD := hideP (read_ok 3 w8 hd8.1 (by rw [wr_L, HP.out.1]; simp))
          clear hd8 ht8 O7 D7
          go_wp2_with fail
          refine HRD.out.mono ?_
          clear HRD
          rintro e w9 ⟨zv, rfl, hw9, hb9, _⟩
          have R9 := hw9.rd
          rw [HH8.out] at R9
          have HS := same_rd zv yv (dby lv9) (dby lv9) w9 R9 (O8.out.below hb9).rd
          rw [decide_eq_true rfl] at HS
          have HS := hideP HS
          have B9 : Hid (Below w.heap.size w w9) := (D8.out.below hb9).2.1
          clear hw9 hb9 R9 D8 O8
          go_wp2_with fail
          refine HS.out.mono ?_
          clear HS
          rintro e w10 ⟨rfl, hb10⟩
          have B10 : Hid (Below w.heap.size w w10) := B9.out.trans (hb10.mono B9.out.size)
          clear hb10 B9
          go_wp2_with fail
          refine (lives_any w10).mono ?_
          rintro e w11 ⟨rfl, hb11⟩
          have B11 : Hid (Below w.heap.size w w11) := B10.out.trans (hb11.mono B10.out.size)
          clear hb11
          go_wp2_with fail
          go_ret
          exact ⟨rfl, B11.out⟩
end Go.Proofs.Ytmohbkhdloggeaa
