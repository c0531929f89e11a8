import Derived.Test.YtaacidgihhcpkaaYX29
import Derived.Test.YtaacidgihhcpkaaYX05
import Derived.Deep.LoopGhost
/-
  The document's Open of layer 11.
-/
namespace Go.Proofs.Ytaacidgihhcpkaa
open Go.RowKit Go.Maps Pl
set_option linter.unusedVariables false
set_option linter.unusedSimpArgs false
set_option maxRecDepth 100000

set_option maxHeartbeats 2000000 in
theorem refOpenJ_any {R : Nat → Prop} {r : Nat} {s : DS} (g : Nat) (w : World) (h : Rf R w r s) (h50 : 50 ≤ s.L.length) (hg1 : 1 ≤ g) (hg2 : g ≤ 4294967295) :
    Calls Try.prog 25 #[dp r, .int .i64 (g : Int)] w fun e w' => ∃ v, e = .returned (.tuple #[v, .int .i64 0]) ∧ RdL w' v (jopen s.has g) ∧ Below w.heap.size w w' := by
  have HRC : Hid (∀ (at_ n : Nat) (W : World), Below w.heap.size w W → at_ < 48 → n < 4294967296 → Calls Try.prog 46 #[.pointer (some ⟨r, 0, none⟩), .int .i64 (at_ : Int), .int .i64 (g : Int), .int .i64 (n : Int)] W fun e w' => RecR s.has g n (2 + at_) W e w') := fun at_ n W hW h1 h2 => refRecord_any at_ g n W (h.below hW) h50 h1 (by omega) h2
  obtain ⟨lb, cp, A, B, x, WW, h⟩ := h
  have c0 := h.c0
  obtain ⟨nl, hnl⟩ : ∃ n, Hid (s.L.length = n) := ⟨_, rfl⟩
  rw [hnl.out] at c0 h50
  have hn5 : ¬ (nl : Int) < 50 := by omega
  have hn50 : decide (nl < 50) = false := by rw [decide_eq_false_iff_not]; omega
  obtain ⟨f, hf⟩ : ∃ f, Hid (s.has = f) := ⟨_, rfl⟩
  rw [hf.out] at HRC ⊢
  obtain ⟨RR, hRR⟩ : ∃ R, Hid (jopen f g = R) := ⟨_, rfl⟩
  rw [hRR.out]
  have HB0 : Hid (Below w.heap.size w w) := Below.refl _ _
  have HST : Hid (([] : List (List Int)) ++ jrun f g 48 ((([] : List (List Int))).length + 1) (2 + 0) = RR) := hRR
  have hga : ¬ (g : Int) < 1 := by omega
  have hgb : ¬ (4294967295 : Int) < (g : Int) := by omega
  have hgc : decide (g < 1) = false := by rw [decide_eq_false_iff_not]; omega
  have hgd : decide (4294967295 < g) = false := by rw [decide_eq_false_iff_not]; omega
  clear h hf
  unfold dp
  go_enter Try.func25, Try.ntmps25
  go_wp2_with fail
  clear c0
  go_loopg [6, 7] 48 (fun kk rv av wr => ∃ (a : Nat) (rows : List (List Int)), av = .int .i64 (a : Int) ∧ a ≤ 48 ∧ 48 - a ≤ kk ∧ Hid (OwL (fun _ => True) wr rv rows) ∧ Hid (rows.length ≤ a) ∧ Hid (rows ++ jrun f g kk (rows.length + 1) (2 + a) = RR) ∧ Hid (Below w.heap.size w wr) ∧ Hid (∀ j, rv.ownBlock = some j → w.heap.size ≤ j))
  case atStart => exact ⟨0, [], rfl, by decide, by decide, owL_nil _ _, by show _ ≤ _; decide, HST, HB0, fun j hj => by cases hj⟩
  case round =>
    obtain ⟨a, rows, rfl, ha5, hak, OL, HRL, HRN, BW, NW⟩ := hrel
    obtain ⟨ra, rc, rfl, hrc, hrm⟩ := OL.out.len
    have hrc9 : rc ≤ 9223372036854775807 := by unfold maxLen at hrm; omega
    obtain ⟨n, hn⟩ : ∃ n, Hid (rows.length = n) := ⟨_, rfl⟩
    rw [hn.out] at OL NW HRL HRN hrc ⊢
    have hn50 : n ≤ 48 := by have := HRL.out; omega
    clear hrm
    by_cases hlt : a < 48
    · have hlt1 : (a : Int) < 48 := by omega
      obtain ⟨n1, hnn⟩ : ∃ n1, n + 1 = n1 := ⟨_, rfl⟩
      have hn1 : (n : Int) + 1 = (n1 : Int) := by omega
      have HNN : Hid (n + 1 = n1) := hnn
      have HC := hideP (HRC.out a n1 wr BW.out hlt (by omega))
      rw [hnn] at HRN
      clear hnn
      go_wp2_with fail
      refine HC.out.mono ?_
      clear HC
      rintro e w3 (⟨JG, v3, rfl, o3, b3, n3⟩ | ⟨JB, rfl, b3⟩)
      · have hm1 : 1 ≤ jmn f (2 + a) := JG.1
        have hm2 : 2 + a + jmn f (2 + a) ≤ 50 := JG.2.1
        have HJG := hideP JG
        obtain ⟨m, hm⟩ : ∃ m, Hid (jmn f (2 + a) = m) := ⟨_, rfl⟩
        rw [hm.out] at o3 hm1 hm2 ⊢
        obtain ⟨ea, ec, hee, _, he2, _⟩ := id o3.rd
        subst hee
        have OW3 := hideP o3.rd
        have OL3 := hideP (OL.out.below b3)
        have B3 : Hid (Below w.heap.size w w3) := BW.out.trans (b3.mono BW.out.size)
        have HUE : Hid (∀ k, (Value.slice ea (jdat f (2 + a) m).length ec).ownBlock = some k → jdat f (2 + a) m ≠ [] → True ∧ k < w3.heap.size ∧ (Value.slice ra n rc).ownBlock ≠ some k) := fun k hk _ => ⟨trivial, o3.lt k hk, fun e => by have := OL.out.lt k e; have := n3 k hk; omega⟩
        have hmz : ((m : Int) == 0) = false := by simp; omega
        have HRL2 : Hid (rows.length + 1 ≤ 2000000000000) := by show _ ≤ _; rw [hn.out]; omega
        obtain ⟨aM, haM⟩ : ∃ x, a + m = x := ⟨_, rfl⟩
        have hmA1 : (a : Int) + (m : Int) = (aM : Int) := by omega
        have haM5 : aM ≤ 48 := by omega
        have HAM : Hid (a + m = aM) := haM
        obtain ⟨el, hel⟩ : ∃ el, Hid ((jdat f (2 + a) m).length = el) := ⟨_, rfl⟩
        rw [hel.out] at OW3 HUE ⊢
        clear haM JG b3 n3 o3 he2 OL
        go_wp2_with (at_builtin; refine wpList_pushL w3 rfl (.tmp 38) (.tmp 40) rfl (.slice ra n rc) rows rfl OL3.out (.slice ea el ec) (jdat f (2 + a) m) OW3.out HUE.out rfl HRL2.out ?_)
        intro rv2 w5 OL5 GR5
        have OL5 := hideP OL5
        have B5 : Hid (Below w.heap.size w w5) := B3.out.trans (GR5.tch.below B3.out.size (fun k e => NW.out k e))
        have N5 : Hid (∀ j, rv2.ownBlock = some j → w.heap.size ≤ j) := fun j hj => by
          rcases GR5.fresh j hj with e | e
          · exact NW.out j e
          · exact Nat.le_trans B3.out.size e
        obtain ⟨gj, hgj⟩ : ∃ gj, gk = gj + 1 := ⟨gk - 1, by omega⟩
        have HRN5 : Hid ((rows ++ [jdat f (2 + a) m]) ++ jrun f g gj ((rows ++ [jdat f (2 + a) m]).length + 1) (2 + aM) = RR) := by
          show _ = _
          rw [← HRN.out, hgj, jrun_go (by omega) (by exact HJG.out), hm.out, ← HNN.out, ← HAM.out, ← hn.out]
          simp [Nat.add_assoc]
        obtain ⟨va5, vc5, hv5, _, _⟩ := OL5.out.len
        subst hv5
        clear GR5 OL3 OW3 HUE
        go_wp2_with fail
        go_roundg gj
        case measure => omega
        case rel => exact ⟨aM, rows ++ [jdat f (2 + a) m], by go_num, by omega, by have := HAM.out; omega, OL5, by show _ ≤ _; rw [List.length_append, hn.out]; have := HRL.out; have := HAM.out; simp; omega, HRN5, B5, N5⟩
      · have HE : Hid (rows = RR) := by
          show _ = _
          have := HRN.out
          rw [jrun_end f g _ _ _ (fun hh => JB hh.2), List.append_nil] at this
          exact this
        have HRD := hideP (OL.out.below b3).rd
        rw [HE.out] at HRD
        have B3 : Hid (Below w.heap.size w w3) := BW.out.trans (b3.mono BW.out.size)
        clear JB b3
        go_wp2_with fail
        go_ret2
        exact ⟨_, rfl, HRD.out, B3.out⟩
    · have hnl2 : ¬ (a : Int) < 48 := by omega
      have HE : Hid (rows = RR) := by
        show _ = _
        have := HRN.out
        rw [jrun_end f g _ _ _ (by omega), List.append_nil] at this
        exact this
      have HRD := hideP OL.out.rd
      rw [HE.out] at HRD
      go_wp2_with fail
      go_ret2
      exact ⟨_, rfl, HRD.out, BW.out⟩
end Go.Proofs.Ytaacidgihhcpkaa
