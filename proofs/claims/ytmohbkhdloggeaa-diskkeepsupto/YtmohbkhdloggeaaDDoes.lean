/-
  A deed, of both.
-/
import Derived.Test.YtmohbkhdloggeaaDAll
namespace Go.Proofs.Ytmohbkhdloggeaa
open Go.RowKit Go.Maps
set_option linter.unusedVariables false
set_option linter.unusedSimpArgs false
set_option maxRecDepth 100000

/-- Both disks, and the deed's own block. -/
structure Ds (S R : Nat → Prop) (w0 w : World) (d r q : Nat) (C : Array Value) (s t : DS) : Prop where
  bt : Bt S R w0 w d r s t
  nS : ¬ S q
  nR : ¬ R q
  box : w.heap[q]? = some (.cells C 34 (0, 0))
  q0 : w0.heap.size ≤ q

section
variable {S R : Nat → Prop} {w0 w w' : World} {d r q : Nat} {C : Array Value} {s t : DS}
theorem Ds.lt (h : Ds S R w0 w d r q C s t) : q < w.heap.size := (Array.getElem?_eq_some_iff.1 h.box).1
theorem Ds.tch (h : Ds S R w0 w d r q C s t) {T : Nat → Prop} (ht : Tch T w w') (hS : ∀ k, T k → ¬ S k ∧ ¬ R k ∧ w0.heap.size ≤ k) (hq : ¬ T q) : Ds S R w0 w' d r q C s t :=
  ⟨h.bt.tch ht hS, h.nS, h.nR, by rw [ht.block q h.lt hq]; exact h.box, h.q0⟩
theorem Ds.below (h : Ds S R w0 w d r q C s t) (hb : Below w.heap.size w w') : Ds S R w0 w' d r q C s t := h.tch (T := fun _ => False) (Tch.of_below hb) (fun _ e => e.elim) (fun e => e)
theorem Ds.drew (h : Ds S R w0 w d r q C s t) : Ds S R w0 w.drew d r q C s t := h.tch (T := fun _ => False) (Tch.drew (Tch.refl _ w)) (fun _ e => e.elim) (fun e => e)
theorem Ds.dkTo (h : Ds S R w0 w d r q C s t) {s' : DS} (hd : DkTo S w w' d s') : ∃ S', Ds S' R w0 w' d r q C s' t ∧ Tch S w w' ∧ ∀ k, S' k → S k ∨ w.heap.size ≤ k := by
  obtain ⟨S', h1, h2, h3⟩ := h.bt.dkTo hd
  refine ⟨S', ⟨h1, fun e => ?_, h.nR, by rw [h2.block q h.lt h.nS]; exact h.box, h.q0⟩, h2, h3⟩
  rcases h3 q e with e2 | e2
  · exact h.nS e2
  · have := h.lt; omega
theorem Ds.rfTo (h : Ds S R w0 w d r q C s t) {t' : DS} (hd : RfTo R w w' r t') : ∃ R', Ds S R' w0 w' d r q C s t' ∧ Tch R w w' ∧ ∀ k, R' k → R k ∨ w.heap.size ≤ k := by
  obtain ⟨R', h1, h2, h3⟩ := h.bt.rfTo hd
  refine ⟨R', ⟨h1, h.nS, fun e => ?_, by rw [h2.block q h.lt h.nR]; exact h.box, h.q0⟩, h2, h3⟩
  rcases h3 q e with e2 | e2
  · exact h.nR e2
  · have := h.lt; omega
end

/-- A fresh row is none of them. -/
theorem Ds.free {S R : Nat → Prop} {w0 w : World} {d r q : Nat} {C : Array Value} {s t : DS} (h : Ds S R w0 w d r q C s t) {k : Nat} (hk : w.heap.size ≤ k) : ¬ S k ∧ ¬ R k ∧ w0.heap.size ≤ k ∧ k ≠ q :=
  ⟨fun e => by have := h.bt.dk.slt k e; omega, fun e => by have := h.bt.rf.rlt k e; omega, Nat.le_trans h.bt.be.size hk, fun e => by have := h.lt; omega⟩

set_option maxHeartbeats 8000000 in
theorem does_any {S R : Nat → Prop} {w0 : World} {d r : Nat} {s : DS} (x : Dd) (hx : DdOk x) (w : World) (h : Bt S R w0 w d r s s) (hr : Rd .i64 w0 x.pv x.ps) (hV : ∀ i, (s.V i).length < 274877906943) :
    Calls Try.prog 12 #[dp d, dp r, ddv x] w fun e w' => e = .returned (.bool true) ∧ ∃ S' R', Bt S' R' w0 w' d r (stp s x) (stp s x) := by
  have HPK := fun w => pick_any x.kind 6 (by decide) (by decide) hx.k w
  have HBY := hideP (fun w => deed_bytes x hx w)
  have HDB : Hid (By (dby x)) := dby_by hx
  have HAW : Hid ((Lit.int .i64 x.at_).wf = true) := hx.a
  have HV : Hid (∀ i, (s.V i).length < 274877906943) := hV
  have HV2 : Hid (∀ i, (s.V i).length < 274877906944) := fun i => by have := hV i; omega
  have HST : Hid (stp s x = match pk x.kind 6 with | 0 => wrr s x.at_ (dby x) | 1 => s.fl | 2 => s.pw x.ps | 3 => rtt s x.at_ | 5 => ctt s x.at_ | _ => s) := rfl
  have hlt := pk_lt x.kind (n := 6) (by decide)
  obtain ⟨kk, hkk⟩ : ∃ kk, pk x.kind 6 = kk := ⟨_, rfl⟩
  rw [hkk] at HPK HST hlt
  generalize stp s x = s' at HST ⊢
  have HRP : Hid (Rd .i64 w0 x.pv x.ps) := hr
  have HPN : Hid (∀ (T : Nat → Prop), (∀ k, T k → w0.heap.size ≤ k) → ∀ k, x.pv.ownBlock = some k → x.ps ≠ [] → ¬ T k) := fun T hT k hk h0 e => by
    have := hr.blk h0 k hk
    have := hT k e
    omega
  have HDL : Hid ((dby x).length ≤ 300) := by rw [dby_len]; exact dlen_le x
  obtain ⟨q, hq⟩ : ∃ q, w.heap.size = q := ⟨_, rfl⟩
  obtain ⟨C, hC⟩ : ∃ C : Array Value, #[.int .i64 x.kind, .int .i64 x.at_, .int .u8 x.fill, .int .u8 x.last, .bool x.short, x.pv] = C := ⟨_, rfl⟩
  obtain ⟨W0, hW0⟩ : ∃ W0, w.alloc (.cells C 34) = W0 := ⟨_, rfl⟩
  have D0 : Hid (Ds S R w0 W0 d r q C s s) := by
    have hb : Below w.heap.size w W0 := by rw [← hW0]; exact (Below.refl _ _).alloc (Nat.le_refl _) _
    refine ⟨h.below hb, fun e => ?_, fun e => ?_, by rw [← hW0, ← hq]; exact heap_alloc_new w _, by rw [← hq]; exact h.be.size⟩
    · have := h.dk.slt q e; omega
    · have := h.rf.rlt q e; omega
  obtain ⟨kind, at_, fill, last, short, pv, ps⟩ := x
  unfold ddv at HBY ⊢
  dsimp only at *
  generalize dby ⟨kind, at_, fill, last, short, pv, ps⟩ = ys at *
  have HQ6 : Hid (∀ {S R : Nat → Prop} {w : World} {s t : DS}, Ds S R w0 w d r q C s t → w.cell? ⟨q, 0, none⟩ = some (.int .i64 kind) ∧ w.cell? ⟨q, 1, none⟩ = some (.int .i64 at_) ∧ w.cell? ⟨q, 2, none⟩ = some (.int .u8 fill) ∧ w.cell? ⟨q, 3, none⟩ = some (.int .u8 last) ∧ w.cell? ⟨q, 4, none⟩ = some (.bool short) ∧ w.cell? ⟨q, 5, none⟩ = some pv) := by
    intro S R w s t h
    have hb := h.box
    rw [← hC] at hb
    exact ⟨cell_of_row w q 0 _ _ (0, 0) hb, cell_of_row w q 1 _ _ (0, 0) hb, cell_of_row w q 2 _ _ (0, 0) hb, cell_of_row w q 3 _ _ (0, 0) hb, cell_of_row w q 4 _ _ (0, 0) hb, cell_of_row w q 5 _ _ (0, 0) hb⟩
  have HW0 : Hid (w.alloc (.cells #[.int .i64 kind, .int .i64 at_, .int .u8 fill, .int .u8 last, .bool short, pv] 34) = W0) := by rw [hC]; exact hW0
  have HQ : Hid (w.heap.size = q) := hq
  clear hx hkk h hr hV hq hW0 hC
  have HCA : kk = 0 ∨ kk = 1 ∨ kk = 2 ∨ kk = 3 ∨ kk = 4 ∨ kk = 5 := by omega
  clear hlt
  rcases HCA with rfl | rfl | rfl | rfl | rfl | rfl
  · replace HST : Hid (s' = wrr s at_ ys) := HST
    obtain ⟨q0, q1, q2, q3, q4, q5⟩ := HQ6.out D0.out
    go_enter Try.func12, Try.ntmps12
    go_wp2_with fail
    rw [HW0.out, HQ.out]
    clear HW0 HQ
    refine (HPK _).mono ?_
    rintro e W0 ⟨rfl, rfl⟩
    clear HPK
    go_wp2_with fail
    refine (HBY.out _).mono ?_
    rintro e W1 ⟨ov, rfl, ho1, hb1, hf1⟩
    have D1 : Hid (Ds S R w0 W1 d r q C s s) := D0.out.below hb1
    have F1 : Hid (∀ k, ov.ownBlock = some k → (¬ S k ∧ ¬ R k ∧ w0.heap.size ≤ k ∧ k ≠ q) ∧ k < W1.heap.size) := fun k hk => ⟨D0.out.free (hf1 k hk), ho1.lt k hk⟩
    have O1 : Hid (Owns .u8 5 W1 ov ys) := ho1
    have HWR := hideP (write_all at_ ov ys W1 D1.out.bt.dk ho1.rd HDB.out (fun k hk => (F1.out k hk).1.1) HV.out)
    obtain ⟨oa, oc, hov, hol, hom, _⟩ := ho1.rd
    obtain ⟨m, hm⟩ : ∃ m, ys.length = m := ⟨_, rfl⟩
    have HM : Hid (ys.length = m) := hm
    have hm63 : (m : Int) ≤ 300 := by rw [← hm]; have := HDL.out; omega
    rw [hm] at hov HWR
    subst hov
    clear q0 q1 q2 q3 q4 q5
    obtain ⟨q0, q1, q2, q3, q4, q5⟩ := HQ6.out D1.out
    clear ho1 hb1 hf1 hol hom hm D0
    go_wp2_with fail
    refine HWR.out.mono ?_
    clear HWR q0 q1 q2 q3 q4 q5
    rintro e W2 ⟨rfl, hd2⟩
    obtain ⟨S2, hD2, ht2, hs2⟩ := D1.out.dkTo hd2
    have F2 : Hid (∀ k, (Value.slice oa m oc).ownBlock = some k → ¬ S2 k ∧ ¬ R k ∧ w0.heap.size ≤ k ∧ k ≠ q) := fun k hk => by
      obtain ⟨⟨h1, h2, h3, h4⟩, h5⟩ := F1.out k hk
      refine ⟨fun e => ?_, h2, h3, h4⟩
      rcases hs2 k e with e | e
      · exact h1 e
      · omega
    have I2 : Hid (Ds S2 R w0 W2 d r q C (wrr s at_ ys) s ∧ ∃ zs : List Int, zs.length = m ∧ Owns .u8 5 W2 (.slice oa m oc) zs) := ⟨hD2, ys, HM.out, O1.out.tch ht2 (fun k hk => (F1.out k hk).1.1)⟩
    clear hd2 hD2 ht2 hs2 D1 O1 F1
    obtain ⟨cd, hcd⟩ : ∃ cd, wco s at_ m = cd := ⟨_, rfl⟩
    have HCD : Hid (wco s at_ ys.length = cd) := by rw [HM.out]; exact hcd
    rw [hcd]
    clear hcd
    go_wp2_with fail
    go_loopw [9] (fun iv wr => ∃ k : Nat, k ≤ m ∧ iv = .int .i64 k ∧ Hid (Ds S2 R w0 wr d r q C (wrr s at_ ys) s ∧ ∃ zs : List Int, zs.length = m ∧ Owns .u8 5 wr (.slice oa m oc) zs)) (fun iv _ => m - (intOf iv).toNat)
    case atStart => exact ⟨0, Nat.zero_le _, rfl, I2⟩
    case round =>
      clear I2
      obtain ⟨k, hk, rfl, I⟩ := hrel
      by_cases hkm : k < m
      · have hki : (k : Int) < (m : Int) := by omega
        have hk0 : (0 : Int) ≤ (k : Int) := by omega
        obtain ⟨hD, zs, hz, hw⟩ := I.out
        obtain ⟨g, cp, hov, _, _, _, hcc, hfz⟩ := hw.shape (by rw [hz]; omega)
        simp only [Value.slice.injEq] at hov
        obtain ⟨rfl, _, _⟩ := hov
        have hcz := hcc k (by rw [hz]; exact hkm)
        have hfk := hfz k
        have I3 : Hid (Ds S2 R w0 (wr.setCell ⟨g, k, none⟩ (.int .u8 99)) d r q C (wrr s at_ ys) s ∧ ∃ zs : List Int, zs.length = m ∧ Owns .u8 5 (wr.setCell ⟨g, k, none⟩ (.int .u8 99)) (.slice (some ⟨g, 0, none⟩) m oc) zs) := by
          have hf := F2.out g rfl
          exact ⟨hD.tch (tch_set wr g k _) (fun j e => by rw [e]; exact ⟨hf.1, hf.2.1, hf.2.2.1⟩) (fun e => hf.2.2.2 e.symm), zs.set k 99, by rw [List.length_set]; exact hz, hw.set k 99⟩
        clear hD hw hz I hcc hfz
        go_wp2_with fail
        go_roundw
        case rel => exact ⟨k + 1, by omega, by go_num, I3⟩
        case measure => simp [intOf]; omega
      · have hki : ¬ (k : Int) < (m : Int) := by omega
        obtain ⟨hD, _⟩ := I.out
        have D5 : Hid (Ds S2 R w0 wr d r q C (wrr s at_ ys) s) := hD
        obtain ⟨q0, q1, q2, q3, q4, q5⟩ := HQ6.out hD
        clear hD I hkm
        go_wp2_with fail
        go_region_held3 (fun w' => w'.cell? ⟨q, 0, none⟩ = some (.int .i64 kind) ∧ w'.cell? ⟨q, 1, none⟩ = some (.int .i64 at_) ∧ w'.cell? ⟨q, 2, none⟩ = some (.int .u8 fill) ∧ w'.cell? ⟨q, 3, none⟩ = some (.int .u8 last) ∧ w'.cell? ⟨q, 4, none⟩ = some (.bool short) ∧ w'.cell? ⟨q, 5, none⟩ = some pv) (go_keep)
          (first
            | (go_at_call 19; refine (HBY.out _).mono ?_; rintro e W6 ⟨ov6, rfl, ho6, hb6, hf6⟩; have D6 : Hid (Ds S2 R w0 W6 d r q C (wrr s at_ ys) s) := D5.out.drew.below hb6; have F6 : Hid (∀ k, ov6.ownBlock = some k → ¬ R k) := fun k hk => (D5.out.drew.free (hf6 k hk)).2.1; have O6 : Hid (Rd .u8 W6 ov6 ys) := ho6.rd; clear ho6 hb6 hf6; obtain ⟨p0, p1, p2, p3, p4, p5⟩ := HQ6.out D6.out)
            | (go_at_call 29; refine (refWrite_all at_ ov6 ys W6 D6.out.bt.rf O6.out HDB.out F6.out HV.out).mono ?_; rintro e W7 ⟨rfl, hd7⟩; obtain ⟨R7, hD7, _, _⟩ := D6.out.rfTo hd7; rw [HCD.out]; have D7 : Hid (Ds S2 R7 w0 W7 d r q C (wrr s at_ ys) (wrr s at_ ys)) := hD7; clear hd7 hD7; obtain ⟨r0, r1, r2, r3, r4, r5⟩ := HQ6.out D7.out))
        go_wp2_with fail
        go_ret
        refine ⟨by first | rfl | simp, S2, R7, ?_⟩
        rw [HST.out]
        exact D7.out.bt
  · replace HST : Hid (s' = s.fl) := HST
    obtain ⟨q0, q1, q2, q3, q4, q5⟩ := HQ6.out D0.out
    go_enter Try.func12, Try.ntmps12
    go_wp2_with fail
    rw [HW0.out, HQ.out]
    clear HW0 HQ
    refine (HPK _).mono ?_
    rintro e W0 ⟨rfl, rfl⟩
    clear HPK
    have HA := hideP (flush_any W0 D0.out.bt.dk)
    go_wp2_with fail
    refine HA.out.mono ?_
    clear HA q0 q1 q2 q3 q4 q5
    rintro e W3 ⟨rfl, hd3⟩
    obtain ⟨S7, hD3, _, _⟩ := D0.out.dkTo hd3
    have D3 : Hid (Ds S7 R w0 W3 d r q C s' s) := by rw [HST.out]; exact hD3
    clear hd3 hD3 D0
    have HB := hideP (refFlush_any W3 D3.out.bt.rf)
    obtain ⟨q0, q1, q2, q3, q4, q5⟩ := HQ6.out D3.out
    go_wp2_with fail
    refine HB.out.mono ?_
    clear HB q0 q1 q2 q3 q4 q5
    rintro e WX ⟨rfl, hd4⟩
    obtain ⟨R7, hD4, _, _⟩ := D3.out.rfTo hd4
    have DX : Hid (Ds S7 R7 w0 WX d r q C s' s') := by rw [HST.out] at hD4 ⊢; exact hD4
    clear hd4 hD4 D3
    obtain ⟨q0, q1, q2, q3, q4, q5⟩ := HQ6.out DX.out
    have HRD := hideP (read_all at_ WX DX.out.bt.dk)
    go_wp2_with fail
    refine HRD.out.mono ?_
    clear HRD q0 q1 q2 q3 q4 q5
    rintro e W7 ⟨av, rfl, ha7, hb7, hf7⟩
    have D7 : Hid (Ds S7 R7 w0 W7 d r q C s' s') := DX.out.below hb7
    have F7 : Hid (∀ k, av.ownBlock = some k → ¬ S7 k ∧ ¬ R7 k ∧ w0.heap.size ≤ k ∧ k ≠ q) := fun k hk => DX.out.free (hf7 k hk)
    have A7 : Hid (Wz W7 av (dhs s' at_)) := ha7
    have HRR := hideP (refRead_all at_ W7 D7.out.bt.rf)
    obtain ⟨q0, q1, q2, q3, q4, q5⟩ := HQ6.out D7.out
    obtain ⟨aa, ac, hav, hal, ham, _⟩ := ha7.rd
    obtain ⟨m, hm⟩ : ∃ m, (dhs s' at_).length = m := ⟨_, rfl⟩
    have HM : Hid ((dhs s' at_).length = m) := hm
    have hm63 : (m : Int) ≤ 9223372036854775807 := by unfold maxLen at ham; omega
    rw [hm] at hav
    subst hav
    clear ha7 hb7 hf7 DX hal ham hm
    go_wp2_with fail
    refine HRR.out.mono ?_
    clear HRR q0 q1 q2 q3 q4 q5
    rintro e W8 ⟨bv, rfl, ho8, hb8, hf8⟩
    have D8 : Hid (Ds S7 R7 w0 W8 d r q C s' s') := D7.out.below hb8
    have A8 : Hid (Wz W8 (.slice aa m ac) (dhs s' at_)) := A7.out.tch (Tch.of_below (S := fun _ => False) hb8) (fun _ _ e => e)
    have HSM := hideP (same_all _ _ _ W8 A8.out.rd ho8.rd)
    clear ho8 hb8 hf8 D7 A7
    go_wp2_with fail
    refine HSM.out.mono ?_
    clear HSM
    rintro e W9 ⟨rfl, hb9⟩
    have I9 : Hid (Ds S7 R7 w0 W9 d r q C s' s' ∧ ∃ zs : List Int, zs.length = m ∧ Wz W9 (.slice aa m ac) zs) := ⟨D8.out.below hb9, _, HM.out, A8.out.tch (Tch.of_below (S := fun _ => False) hb9) (fun _ _ e => e)⟩
    clear hb9 D8 A8
    generalize dco s' at_ = cd at *
    go_wp2_with fail
    go_loopw [15] (fun iv wr => ∃ k : Nat, k ≤ m ∧ iv = .int .i64 k ∧ Hid (Ds S7 R7 w0 wr d r q C s' s' ∧ ∃ zs : List Int, zs.length = m ∧ Wz wr (.slice aa m ac) zs)) (fun iv _ => m - (intOf iv).toNat)
    case atStart => exact ⟨0, Nat.zero_le _, rfl, I9⟩
    case round =>
      obtain ⟨k, hk, rfl, I⟩ := hrel
      by_cases hkm : k < m
      · have hki : (k : Int) < (m : Int) := by omega
        have hk0 : (0 : Int) ≤ (k : Int) := by omega
        obtain ⟨hD, zs, hz, hw⟩ := I.out
        rcases hw with ⟨e, e2⟩ | hw
        · rw [e2] at hz; simp at hz; omega
        have hc : ∃ g z, aa = some ⟨g, 0, none⟩ ∧ wr.cell? ⟨g, k, none⟩ = some (.int .u8 z) := by
          obtain ⟨g, cp, ty, C', e, _⟩ := id hw
          simp only [Value.slice.injEq] at e
          obtain ⟨a', cp', e', _, _, _, hcc⟩ := hw.rd
          simp only [Value.slice.injEq] at e'
          rcases hcc with e0 | ⟨b, o, hb, hcc⟩
          · rw [e0] at hz; simp at hz; omega
          · have h1 := e.1
            have h2 := e'.1
            rw [h1, hb] at h2
            simp only [Option.some.injEq, Addr.mk.injEq] at h2
            obtain ⟨hg1, hg2, _⟩ := h2
            have := hcc k (by rw [hz]; exact hkm)
            rw [← hg1, ← hg2, Nat.zero_add] at this
            exact ⟨g, _, h1, this⟩
        obtain ⟨g, z, rfl, hcz⟩ := hc
        have hfz := hw.fz k
        have I2 : Hid (Ds S7 R7 w0 (wr.setCell ⟨g, k, none⟩ (.int .u8 77)) d r q C s' s' ∧ ∃ zs : List Int, zs.length = m ∧ Wz (wr.setCell ⟨g, k, none⟩ (.int .u8 77)) (.slice (some ⟨g, 0, none⟩) m ac) zs) := by
          have hf := F7.out g rfl
          exact ⟨hD.tch (tch_set wr g k _) (fun j e => by rw [e]; exact ⟨hf.1, hf.2.1, hf.2.2.1⟩) (fun e => hf.2.2.2 e.symm), zs.set k 77, by rw [List.length_set]; exact hz, .inr (hw.set k 77)⟩
        clear hD hw hz I
        go_wp2_with fail
        go_roundw
        case rel => exact ⟨k + 1, by omega, by go_num, I2⟩
        case measure => simp [intOf]; omega
      · have hki : ¬ (k : Int) < (m : Int) := by omega
        go_wp2_with fail
        go_ret
        exact ⟨by first | rfl | simp, S7, R7, I.out.1.bt⟩
  · replace HST : Hid (s' = s.pw ps) := HST
    obtain ⟨q0, q1, q2, q3, q4, q5⟩ := HQ6.out D0.out
    go_enter Try.func12, Try.ntmps12
    go_wp2_with fail
    rw [HW0.out, HQ.out]
    clear HW0 HQ
    refine (HPK _).mono ?_
    rintro e W0 ⟨rfl, rfl⟩
    clear HPK
    have HA := hideP (power_any pv ps W0 D0.out.bt.dk (HRP.out.below D0.out.bt.be) (HPN.out S D0.out.bt.s0) HV2.out)
    go_wp2_with fail
    refine HA.out.mono ?_
    clear HA q0 q1 q2 q3 q4 q5
    rintro e W3 ⟨rfl, hd3⟩
    obtain ⟨S7, hD3, _, _⟩ := D0.out.dkTo hd3
    have D3 : Hid (Ds S7 R w0 W3 d r q C s' s) := by rw [HST.out]; exact hD3
    clear hd3 hD3 D0
    have HB := hideP (refPower_any pv ps W3 D3.out.bt.rf (HRP.out.below D3.out.bt.be) (HPN.out R D3.out.bt.r0) HV2.out)
    obtain ⟨q0, q1, q2, q3, q4, q5⟩ := HQ6.out D3.out
    go_wp2_with fail
    refine HB.out.mono ?_
    clear HB q0 q1 q2 q3 q4 q5
    rintro e WX ⟨rfl, hd4⟩
    obtain ⟨R7, hD4, _, _⟩ := D3.out.rfTo hd4
    have DX : Hid (Ds S7 R7 w0 WX d r q C s' s') := by rw [HST.out] at hD4 ⊢; exact hD4
    clear hd4 hD4 D3
    obtain ⟨q0, q1, q2, q3, q4, q5⟩ := HQ6.out DX.out
    have HRD := hideP (read_all at_ WX DX.out.bt.dk)
    go_wp2_with fail
    refine HRD.out.mono ?_
    clear HRD q0 q1 q2 q3 q4 q5
    rintro e W7 ⟨av, rfl, ha7, hb7, hf7⟩
    have D7 : Hid (Ds S7 R7 w0 W7 d r q C s' s') := DX.out.below hb7
    have F7 : Hid (∀ k, av.ownBlock = some k → ¬ S7 k ∧ ¬ R7 k ∧ w0.heap.size ≤ k ∧ k ≠ q) := fun k hk => DX.out.free (hf7 k hk)
    have A7 : Hid (Wz W7 av (dhs s' at_)) := ha7
    have HRR := hideP (refRead_all at_ W7 D7.out.bt.rf)
    obtain ⟨q0, q1, q2, q3, q4, q5⟩ := HQ6.out D7.out
    obtain ⟨aa, ac, hav, hal, ham, _⟩ := ha7.rd
    obtain ⟨m, hm⟩ : ∃ m, (dhs s' at_).length = m := ⟨_, rfl⟩
    have HM : Hid ((dhs s' at_).length = m) := hm
    have hm63 : (m : Int) ≤ 9223372036854775807 := by unfold maxLen at ham; omega
    rw [hm] at hav
    subst hav
    clear ha7 hb7 hf7 DX hal ham hm
    go_wp2_with fail
    refine HRR.out.mono ?_
    clear HRR q0 q1 q2 q3 q4 q5
    rintro e W8 ⟨bv, rfl, ho8, hb8, hf8⟩
    have D8 : Hid (Ds S7 R7 w0 W8 d r q C s' s') := D7.out.below hb8
    have A8 : Hid (Wz W8 (.slice aa m ac) (dhs s' at_)) := A7.out.tch (Tch.of_below (S := fun _ => False) hb8) (fun _ _ e => e)
    have HSM := hideP (same_all _ _ _ W8 A8.out.rd ho8.rd)
    clear ho8 hb8 hf8 D7 A7
    go_wp2_with fail
    refine HSM.out.mono ?_
    clear HSM
    rintro e W9 ⟨rfl, hb9⟩
    have I9 : Hid (Ds S7 R7 w0 W9 d r q C s' s' ∧ ∃ zs : List Int, zs.length = m ∧ Wz W9 (.slice aa m ac) zs) := ⟨D8.out.below hb9, _, HM.out, A8.out.tch (Tch.of_below (S := fun _ => False) hb9) (fun _ _ e => e)⟩
    clear hb9 D8 A8
    generalize dco s' at_ = cd at *
    go_wp2_with fail
    go_loopw [15] (fun iv wr => ∃ k : Nat, k ≤ m ∧ iv = .int .i64 k ∧ Hid (Ds S7 R7 w0 wr d r q C s' s' ∧ ∃ zs : List Int, zs.length = m ∧ Wz wr (.slice aa m ac) zs)) (fun iv _ => m - (intOf iv).toNat)
    case atStart => exact ⟨0, Nat.zero_le _, rfl, I9⟩
    case round =>
      obtain ⟨k, hk, rfl, I⟩ := hrel
      by_cases hkm : k < m
      · have hki : (k : Int) < (m : Int) := by omega
        have hk0 : (0 : Int) ≤ (k : Int) := by omega
        obtain ⟨hD, zs, hz, hw⟩ := I.out
        rcases hw with ⟨e, e2⟩ | hw
        · rw [e2] at hz; simp at hz; omega
        have hc : ∃ g z, aa = some ⟨g, 0, none⟩ ∧ wr.cell? ⟨g, k, none⟩ = some (.int .u8 z) := by
          obtain ⟨g, cp, ty, C', e, _⟩ := id hw
          simp only [Value.slice.injEq] at e
          obtain ⟨a', cp', e', _, _, _, hcc⟩ := hw.rd
          simp only [Value.slice.injEq] at e'
          rcases hcc with e0 | ⟨b, o, hb, hcc⟩
          · rw [e0] at hz; simp at hz; omega
          · have h1 := e.1
            have h2 := e'.1
            rw [h1, hb] at h2
            simp only [Option.some.injEq, Addr.mk.injEq] at h2
            obtain ⟨hg1, hg2, _⟩ := h2
            have := hcc k (by rw [hz]; exact hkm)
            rw [← hg1, ← hg2, Nat.zero_add] at this
            exact ⟨g, _, h1, this⟩
        obtain ⟨g, z, rfl, hcz⟩ := hc
        have hfz := hw.fz k
        have I2 : Hid (Ds S7 R7 w0 (wr.setCell ⟨g, k, none⟩ (.int .u8 77)) d r q C s' s' ∧ ∃ zs : List Int, zs.length = m ∧ Wz (wr.setCell ⟨g, k, none⟩ (.int .u8 77)) (.slice (some ⟨g, 0, none⟩) m ac) zs) := by
          have hf := F7.out g rfl
          exact ⟨hD.tch (tch_set wr g k _) (fun j e => by rw [e]; exact ⟨hf.1, hf.2.1, hf.2.2.1⟩) (fun e => hf.2.2.2 e.symm), zs.set k 77, by rw [List.length_set]; exact hz, .inr (hw.set k 77)⟩
        clear hD hw hz I
        go_wp2_with fail
        go_roundw
        case rel => exact ⟨k + 1, by omega, by go_num, I2⟩
        case measure => simp [intOf]; omega
      · have hki : ¬ (k : Int) < (m : Int) := by omega
        go_wp2_with fail
        go_ret
        exact ⟨by first | rfl | simp, S7, R7, I.out.1.bt⟩
  · replace HST : Hid (s' = rtt s at_) := HST
    obtain ⟨q0, q1, q2, q3, q4, q5⟩ := HQ6.out D0.out
    go_enter Try.func12, Try.ntmps12
    go_wp2_with fail
    rw [HW0.out, HQ.out]
    clear HW0 HQ
    refine (HPK _).mono ?_
    rintro e W0 ⟨rfl, rfl⟩
    clear HPK
    obtain ⟨cd, hcd⟩ : ∃ cd, rco s at_ = cd := ⟨_, rfl⟩
    have HCD : Hid (rco s at_ = cd) := hcd
    clear hcd
    go_wp2_with fail
    go_region_held3 (fun w' => w'.cell? ⟨q, 1, none⟩ = some (.int .i64 at_)) (go_keep)
      (first
        | (go_at_call 26; refine (rot_all at_ _ D0.out.drew.bt.dk HAW.out).mono ?_; rintro e W3 ⟨rfl, hd3⟩; rw [HCD.out]; obtain ⟨S7, hD3, _, _⟩ := D0.out.drew.dkTo hd3; have D3 : Hid (Ds S7 R w0 W3 d r q C s' s) := (by rw [HST.out]; exact hD3); clear hd3 hD3; obtain ⟨p0, p1, p2, p3, p4, p5⟩ := HQ6.out D3.out)
        | (go_at_call 32; refine (refRot_all at_ W3 D3.out.bt.rf HV2.out).mono ?_; rintro e W4 ⟨rfl, hd4⟩; rw [HCD.out]; obtain ⟨R7, hD4, _, _⟩ := D3.out.rfTo hd4; have D4 : Hid (Ds S7 R7 w0 W4 d r q C s' s') := (by rw [HST.out] at hD4 ⊢; exact hD4); clear hd4 hD4; obtain ⟨r0, r1, r2, r3, r4, r5⟩ := HQ6.out D4.out))
    go_wp2_with fail
    go_ret
    exact ⟨by first | rfl | simp, S7, R7, D4.out.bt⟩
  · replace HST : Hid (s' = s) := HST
    obtain ⟨q0, q1, q2, q3, q4, q5⟩ := HQ6.out D0.out
    go_enter Try.func12, Try.ntmps12
    go_wp2_with fail
    rw [HW0.out, HQ.out]
    clear HW0 HQ
    refine (HPK _).mono ?_
    rintro e W0 ⟨rfl, rfl⟩
    clear HPK
    have DX : Hid (Ds S R w0 W0 d r q C s' s') := by rw [HST.out]; exact D0.out
    clear D0
    obtain ⟨WX, hWX⟩ : ∃ WX, W0 = WX := ⟨_, rfl⟩
    subst hWX
    have HRD := hideP (read_all at_ W0 DX.out.bt.dk)
    go_wp2_with fail
    refine HRD.out.mono ?_
    clear HRD q0 q1 q2 q3 q4 q5
    rintro e W7 ⟨av, rfl, ha7, hb7, hf7⟩
    have D7 : Hid (Ds S R w0 W7 d r q C s' s') := DX.out.below hb7
    have F7 : Hid (∀ k, av.ownBlock = some k → ¬ S k ∧ ¬ R k ∧ w0.heap.size ≤ k ∧ k ≠ q) := fun k hk => DX.out.free (hf7 k hk)
    have A7 : Hid (Wz W7 av (dhs s' at_)) := ha7
    have HRR := hideP (refRead_all at_ W7 D7.out.bt.rf)
    obtain ⟨q0, q1, q2, q3, q4, q5⟩ := HQ6.out D7.out
    obtain ⟨aa, ac, hav, hal, ham, _⟩ := ha7.rd
    obtain ⟨m, hm⟩ : ∃ m, (dhs s' at_).length = m := ⟨_, rfl⟩
    have HM : Hid ((dhs s' at_).length = m) := hm
    have hm63 : (m : Int) ≤ 9223372036854775807 := by unfold maxLen at ham; omega
    rw [hm] at hav
    subst hav
    clear ha7 hb7 hf7 DX hal ham hm
    go_wp2_with fail
    refine HRR.out.mono ?_
    clear HRR q0 q1 q2 q3 q4 q5
    rintro e W8 ⟨bv, rfl, ho8, hb8, hf8⟩
    have D8 : Hid (Ds S R w0 W8 d r q C s' s') := D7.out.below hb8
    have A8 : Hid (Wz W8 (.slice aa m ac) (dhs s' at_)) := A7.out.tch (Tch.of_below (S := fun _ => False) hb8) (fun _ _ e => e)
    have HSM := hideP (same_all _ _ _ W8 A8.out.rd ho8.rd)
    clear ho8 hb8 hf8 D7 A7
    go_wp2_with fail
    refine HSM.out.mono ?_
    clear HSM
    rintro e W9 ⟨rfl, hb9⟩
    have I9 : Hid (Ds S R w0 W9 d r q C s' s' ∧ ∃ zs : List Int, zs.length = m ∧ Wz W9 (.slice aa m ac) zs) := ⟨D8.out.below hb9, _, HM.out, A8.out.tch (Tch.of_below (S := fun _ => False) hb9) (fun _ _ e => e)⟩
    clear hb9 D8 A8
    generalize dco s' at_ = cd at *
    go_wp2_with fail
    go_loopw [15] (fun iv wr => ∃ k : Nat, k ≤ m ∧ iv = .int .i64 k ∧ Hid (Ds S R w0 wr d r q C s' s' ∧ ∃ zs : List Int, zs.length = m ∧ Wz wr (.slice aa m ac) zs)) (fun iv _ => m - (intOf iv).toNat)
    case atStart => exact ⟨0, Nat.zero_le _, rfl, I9⟩
    case round =>
      obtain ⟨k, hk, rfl, I⟩ := hrel
      by_cases hkm : k < m
      · have hki : (k : Int) < (m : Int) := by omega
        have hk0 : (0 : Int) ≤ (k : Int) := by omega
        obtain ⟨hD, zs, hz, hw⟩ := I.out
        rcases hw with ⟨e, e2⟩ | hw
        · rw [e2] at hz; simp at hz; omega
        have hc : ∃ g z, aa = some ⟨g, 0, none⟩ ∧ wr.cell? ⟨g, k, none⟩ = some (.int .u8 z) := by
          obtain ⟨g, cp, ty, C', e, _⟩ := id hw
          simp only [Value.slice.injEq] at e
          obtain ⟨a', cp', e', _, _, _, hcc⟩ := hw.rd
          simp only [Value.slice.injEq] at e'
          rcases hcc with e0 | ⟨b, o, hb, hcc⟩
          · rw [e0] at hz; simp at hz; omega
          · have h1 := e.1
            have h2 := e'.1
            rw [h1, hb] at h2
            simp only [Option.some.injEq, Addr.mk.injEq] at h2
            obtain ⟨hg1, hg2, _⟩ := h2
            have := hcc k (by rw [hz]; exact hkm)
            rw [← hg1, ← hg2, Nat.zero_add] at this
            exact ⟨g, _, h1, this⟩
        obtain ⟨g, z, rfl, hcz⟩ := hc
        have hfz := hw.fz k
        have I2 : Hid (Ds S R w0 (wr.setCell ⟨g, k, none⟩ (.int .u8 77)) d r q C s' s' ∧ ∃ zs : List Int, zs.length = m ∧ Wz (wr.setCell ⟨g, k, none⟩ (.int .u8 77)) (.slice (some ⟨g, 0, none⟩) m ac) zs) := by
          have hf := F7.out g rfl
          exact ⟨hD.tch (tch_set wr g k _) (fun j e => by rw [e]; exact ⟨hf.1, hf.2.1, hf.2.2.1⟩) (fun e => hf.2.2.2 e.symm), zs.set k 77, by rw [List.length_set]; exact hz, .inr (hw.set k 77)⟩
        clear hD hw hz I
        go_wp2_with fail
        go_roundw
        case rel => exact ⟨k + 1, by omega, by go_num, I2⟩
        case measure => simp [intOf]; omega
      · have hki : ¬ (k : Int) < (m : Int) := by omega
        go_wp2_with fail
        go_ret
        exact ⟨by first | rfl | simp, S, R, I.out.1.bt⟩
  · replace HST : Hid (s' = ctt s at_) := HST
    obtain ⟨q0, q1, q2, q3, q4, q5⟩ := HQ6.out D0.out
    go_enter Try.func12, Try.ntmps12
    go_wp2_with fail
    rw [HW0.out, HQ.out]
    clear HW0 HQ
    refine (HPK _).mono ?_
    rintro e W0 ⟨rfl, rfl⟩
    clear HPK
    obtain ⟨cd, hcd⟩ : ∃ cd, cco at_ = cd := ⟨_, rfl⟩
    have HCD : Hid (cco at_ = cd) := hcd
    clear hcd
    go_wp2_with fail
    go_region_held3 (fun w' => w'.cell? ⟨q, 1, none⟩ = some (.int .i64 at_)) (go_keep)
      (first
        | (go_at_call 27; refine (cut_all at_ _ D0.out.drew.bt.dk).mono ?_; rintro e W3 ⟨rfl, hd3⟩; rw [HCD.out]; obtain ⟨S7, hD3, _, _⟩ := D0.out.drew.dkTo hd3; have D3 : Hid (Ds S7 R w0 W3 d r q C s' s) := (by rw [HST.out]; exact hD3); clear hd3 hD3; obtain ⟨p0, p1, p2, p3, p4, p5⟩ := HQ6.out D3.out)
        | (go_at_call 33; refine (cuts_all at_ W3 D3.out.bt.rf).mono ?_; rintro e W4 ⟨rfl, hd4⟩; rw [HCD.out]; obtain ⟨R7, hD4, _, _⟩ := D3.out.rfTo hd4; have D4 : Hid (Ds S7 R7 w0 W4 d r q C s' s') := (by rw [HST.out] at hD4 ⊢; exact hD4); clear hd4 hD4; obtain ⟨r0, r1, r2, r3, r4, r5⟩ := HQ6.out D4.out))
    go_wp2_with fail
    go_ret
    exact ⟨by first | rfl | simp, S7, R7, D4.out.bt⟩
end Go.Proofs.Ytmohbkhdloggeaa
