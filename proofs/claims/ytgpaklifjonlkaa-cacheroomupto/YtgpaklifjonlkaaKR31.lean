import Derived.Test.YtgpaklifjonlkaaKR29
import Derived.Test.YtgpaklifjonlkaaKR26
import Derived.Test.YtgpaklifjonlkaaKR04
import Derived.Test.YtgpaklifjonlkaaKR30
/-
  Of clean blocks no more are kept than there is room for.
-/
namespace Go.Proofs.Ytgpaklifjonlkaa
open Go.RowKit Go.Maps
set_option linter.unusedVariables false
set_option linter.unusedSimpArgs false
set_option maxRecDepth 100000

set_option maxHeartbeats 2000000 in
theorem cacheRoom_walk (room : Int) (a : Option Addr) (len cap : Nat) (xs : List Kq) (w : World) (hwr : (Lit.int .i64 room).wf = true) (hr : RdK w (.slice a len cap) xs) (hl : xs.length ≤ 1048576) :
    Calls Try.prog 6 #[.int .i64 room, .slice a len cap] w fun e w' => e = .returned (.bool true) ∧ Below w.heap.size w w' := by
  have HR : Hid (RdK w (.slice a len cap) xs) := hr
  have hlen : len = xs.length := by obtain ⟨_, _, e, _⟩ := hr; simp only [Value.slice.injEq] at e; exact e.2.1
  have HNL : Hid (xs.length = len) := hlen.symm
  have hl2 : len ≤ 1048576 := by omega
  have hc9 : cap ≤ 9223372036854775807 := by obtain ⟨_, _, e, _, h, _⟩ := hr; cases e; unfold maxLen at h; exact h
  have hlc : len ≤ cap := by obtain ⟨_, _, e, h, _⟩ := hr; cases e; omega
  have HLV : Hid (∀ W, Calls Try.prog 18 #[] W fun e w' => e = .returned (.bool true) ∧ Below W.heap.size W w') := fun W => lives_anyK W
  have HN := hideP (new_ok 60 w (by decide) (by decide))
  have HPR : Hid (∀ W, Calls Try.prog 19 #[.int .i64 room, .int .i64 6] W fun e w' => e = .returned (.int .i64 (pk room 6 : Int)) ∧ w' = W) := fun W => pickK_any room 6 (by decide) (by decide) hwr W
  obtain ⟨p, hp⟩ : ∃ p, Hid (pk room 6 = p) := ⟨_, rfl⟩
  have hp6 : p < 6 := by rw [← hp.out]; exact pk_lt room (by decide)
  rw [hp.out] at HPR
  obtain ⟨R, hR⟩ : ∃ R : Nat, 1 + (p : Int) = (R : Int) := ⟨p + 1, by omega⟩
  have hR1 : R ≤ 6 := by omega
  have hR2 : 1 ≤ R := by omega
  clear hwr hr hl hlen
  go_enter Try.func6, Try.ntmps6
  go_wp2_with fail
  refine HN.out.mono ?_
  rintro e w1 ⟨d, S, rfl, hd, hb1, hs⟩
  have H1 : Hid (Dk S w1 d (DS.new 60) ∧ Below w.heap.size w w1 ∧ ∀ k, S k → w.heap.size ≤ k) := ⟨hd, hb1, hs⟩
  clear hd hb1 hs HN
  go_wp2_with fail
  refine (HPR.out _).mono ?_
  rintro e w1 ⟨rfl, rfl⟩
  have HC := hideP (newK_ok d 60 R w1 hR2 (by omega) (by decide))
  clear HPR
  go_wp2_with fail
  refine HC.out.mono ?_
  rintro e w2 ⟨c, X, rfl, hc, hb2, hx⟩
  have P2 : Hid (Pz w w w2 (fun _ => False) c d (CS.new R) (DS.new 60)) := Pz.start H1.out.1 H1.out.2.1 H1.out.2.2 hc hb2 hx
  clear hc hb2 hx HC H1
  go_wp2_with fail
  go_loopw [9] (fun iv wr => ∃ (k : Nat) (s : CS) (D : DS), k ≤ len ∧ iv = .int .i64 k ∧ Hid (Rmy R s) ∧ Hid (Few D k) ∧ Hid (Pz w w wr (fun _ => False) c d s D)) (fun iv _ => len - (intOf iv).toNat)
  case atStart => exact ⟨0, _, _, Nat.zero_le _, rfl, Rmy.new R, few_new 0, P2⟩
  case round =>
    obtain ⟨k, s, D, hk, rfl, HRM, HFW, P⟩ := hrel
    clear P2
    by_cases hlt : k < len
    · have hki : (k : Int) < (len : Int) := by omega
      obtain ⟨x, hx⟩ : ∃ x, xs[k]? = some x := ⟨_, List.getElem?_eq_getElem (by rw [HNL.out]; exact hlt)⟩
      obtain ⟨lb, lo, rfl, XC, XO⟩ := HR.out.at_ P.out.below0 hx
      obtain ⟨kind, xn, bk, bv, body, pv, ps⟩ := x
      have c0 := XC.c0
      have c1 := XC.c1
      have c2 := XC.c2
      have c3 := XC.c3
      have c4 := XC.c4
      dsimp only at c0 c1 c2 c3 c4
      have HRD : Hid (Rd .u8 w bv body) := XO.rd
      have HBD : Hid (By body) := XO.by_
      have HWK : Hid ((Lit.int .i64 kind).wf = true) := XO.wk
      obtain ⟨da, dl, dc, rfl⟩ : ∃ a m cap, bv = .slice a m cap := by obtain ⟨a, c, e, _⟩ := XO.rd; exact ⟨_, _, _, e⟩
      obtain ⟨pa, pl, pc, rfl⟩ : ∃ a m cap, pv = .slice a m cap := by obtain ⟨a, c, e, _⟩ := XO.rp; exact ⟨_, _, _, e⟩
      clear XC XO hx
      obtain ⟨W1, hW1⟩ : ∃ W1, wr.alloc (.cells #[.int .i64 kind, .int .i64 xn, .int .i64 bk, .slice da dl dc, .slice pa pl pc] 43) = W1 := ⟨_, rfl⟩
      have b01 : Below wr.heap.size wr W1 := by rw [← hW1]; exact (Below.refl _ _).alloc (Nat.le_refl _) _
      have P1 : Hid (Pz w w W1 (fun _ => False) c d s D) := P.out.below b01
      have BX : Hid (Box W1 wr.heap.size #[.int .i64 kind, .int .i64 xn, .int .i64 bk, .slice da dl dc, .slice pa pl pc] 43) := by rw [← hW1]; exact box_new wr _ _
      have R1 : Hid (Rd .u8 W1 (.slice da dl dc) body) := HRD.out.below P1.out.below0
      have HPK := hideP (pickK_any kind 3 (by decide) (by decide) HWK.out W1)
      obtain ⟨pp, hpp⟩ : ∃ p, Hid (pk kind 3 = p) := ⟨_, rfl⟩
      have hp3 : pp < 3 := by rw [← hpp.out]; exact pk_lt kind (by decide)
      rw [hpp.out] at HPK
      have q0 := BX.out.cell 0
      have q1 := BX.out.cell 1
      have q2 := BX.out.cell 2
      have q3 := BX.out.cell 3
      have q4 := BX.out.cell 4
      simp only [List.getElem?_toArray, List.getElem?_cons_zero, List.getElem?_cons_succ] at q0 q1 q2 q3 q4
      have HOP : Hid (∀ j, (Value.slice da dl dc).ownBlock = some j → body ≠ [] → j < w.heap.size ∨ False) := fun j hj h0 => .inl (HRD.out.blk_lt h0 hj)
      clear b01 hpp
      go_wp2_with fail
      refine HPK.out.mono ?_
      rintro e W1' ⟨rfl, rfl⟩
      clear HPK hW1 c0 c1 c2 c3 c4
      have hcase : pp = 0 ∨ pp = 1 ∨ pp = 2 := by omega
      rcases hcase with rfl | rfl | rfl
      · have HG := hideP (getP P1.out xn)
        go_wp2_with fail
        refine HG.out.mono ?_
        rintro e w3 ⟨u, rfl, _, p3, _⟩
        have P3 : Hid (Pz w w w3 (fun _ => False) c d (s.getS D xn) D) := p3
        have HRM3 : Hid (Rmy R (s.getS D xn)) := HRM.out.get D xn
        have HFW3 : Hid (Few D (k + 1)) := HFW.out.more
        clear p3 HG
        clear q0 q1 q2 q3 q4 BX R1 HRD HOP P1 P
        have HCL := hideP (cleanP P3.out)
        obtain ⟨m, hm⟩ : ∃ m, (s.getS D xn).c.length = m := ⟨_, rfl⟩
        have hmR : m ≤ R := by rw [← hm]; exact HRM3.out.2
        go_wp2_with fail
        refine HCL.out.mono ?_
        rintro e w4 ⟨v, rfl, ho4, hb4, _, p4⟩
        have P4 := hideP p4
        obtain ⟨va, vc, rfl⟩ : ∃ a cap, v = .slice a m cap := by
          obtain ⟨a, cap, e, _⟩ := ho4.rd
          rw [List.length_map, hm] at e
          exact ⟨_, _, e⟩
        have hmm : ¬ (m : Int) > (R : Int) := by omega
        have hmd : decide (R < m) = false := by rw [decide_eq_false_iff_not]; omega
        clear ho4 hb4 p4 HCL P3 hm
        go_wp2_with fail
        go_roundw
        case rel => exact ⟨k + 1, _, _, by omega, by first | rfl | go_num, HRM3, HFW3, P4⟩
        case measure => simp [intOf]; omega
      · have HG := hideP (putP P1.out xn bk (.slice da dl dc) body R1.out HBD.out HOP.out)
        unfold blk at HG
        go_wp2_with fail
        refine HG.out.mono ?_
        rintro e w3 ⟨rfl, p3⟩
        have P3 : Hid (Pz w w w3 (fun _ => False) c d (s.putS 60 xn bk body) D) := p3
        have HRM3 : Hid (Rmy R (s.putS 60 xn bk body)) := HRM.out.put 60 xn bk body
        have HFW3 : Hid (Few D (k + 1)) := HFW.out.more
        clear p3 HG
        clear q0 q1 q2 q3 q4 BX R1 HRD HOP P1 P
        have HCL := hideP (cleanP P3.out)
        obtain ⟨m, hm⟩ : ∃ m, (s.putS 60 xn bk body).c.length = m := ⟨_, rfl⟩
        have hmR : m ≤ R := by rw [← hm]; exact HRM3.out.2
        go_wp2_with fail
        refine HCL.out.mono ?_
        rintro e w4 ⟨v, rfl, ho4, hb4, _, p4⟩
        have P4 := hideP p4
        obtain ⟨va, vc, rfl⟩ : ∃ a cap, v = .slice a m cap := by
          obtain ⟨a, cap, e, _⟩ := ho4.rd
          rw [List.length_map, hm] at e
          exact ⟨_, _, e⟩
        have hmm : ¬ (m : Int) > (R : Int) := by omega
        have hmd : decide (R < m) = false := by rw [decide_eq_false_iff_not]; omega
        clear ho4 hb4 p4 HCL P3 hm
        go_wp2_with fail
        go_roundw
        case rel => exact ⟨k + 1, _, _, by omega, by first | rfl | go_num, HRM3, HFW3, P4⟩
        case measure => simp [intOf]; omega
      · have HG := hideP (flushP P1.out (fun i => by have := HFW.out i; omega))
        go_wp2_with fail
        refine HG.out.mono ?_
        rintro e w3 ⟨rfl, p3⟩
        have P3 : Hid (Pz w w w3 (fun _ => False) c d s.flush (s.flushD D)) := p3
        have HRM3 : Hid (Rmy R s.flush) := HRM.out.flush
        have HFW3 : Hid (Few (s.flushD D) (k + 1)) := HFW.out.flush P1.out.ok
        clear p3 HG
        clear q0 q1 q2 q3 q4 BX R1 HRD HOP P1 P
        have HCL := hideP (cleanP P3.out)
        obtain ⟨m, hm⟩ : ∃ m, s.flush.c.length = m := ⟨_, rfl⟩
        have hmR : m ≤ R := by rw [← hm]; exact HRM3.out.2
        go_wp2_with fail
        refine HCL.out.mono ?_
        rintro e w4 ⟨v, rfl, ho4, hb4, _, p4⟩
        have P4 := hideP p4
        obtain ⟨va, vc, rfl⟩ : ∃ a cap, v = .slice a m cap := by
          obtain ⟨a, cap, e, _⟩ := ho4.rd
          rw [List.length_map, hm] at e
          exact ⟨_, _, e⟩
        have hmm : ¬ (m : Int) > (R : Int) := by omega
        have hmd : decide (R < m) = false := by rw [decide_eq_false_iff_not]; omega
        clear ho4 hb4 p4 HCL P3 hm
        go_wp2_with fail
        go_roundw
        case rel => exact ⟨k + 1, _, _, by omega, by first | rfl | go_num, HRM3, HFW3, P4⟩
        case measure => simp [intOf]; omega
    · have hki : ¬ (k : Int) < (len : Int) := by omega
      have hkd : decide (k < len) = false := by simp; omega
      go_wp2_with fail
      refine (HLV.out _).mono ?_
      rintro e wA ⟨rfl, hbA⟩
      have BA : Hid (Below w.heap.size w wA) := P.out.below0.trans (hbA.mono P.out.below0.size)
      clear hbA
      go_wp2_with fail
      go_ret
      exact ⟨rfl, BA.out⟩
end Go.Proofs.Ytgpaklifjonlkaa
