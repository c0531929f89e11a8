/-
  A deed, of the document's disk alone.
-/
import Derived.Test.YtmohbkhdloggeaaDDoes
namespace Go.Proofs.Ytmohbkhdloggeaa
open Go.RowKit Go.Maps
set_option linter.unusedVariables false
set_option linter.unusedSimpArgs false
set_option maxRecDepth 100000

set_option maxHeartbeats 8000000 in
theorem alone_any {S R : Nat → Prop} {w0 : World} {d r : Nat} {s0 s : DS} (x : Dd) (hx : DdOk x) (w : World) (h : Bt S R w0 w d r s0 s) (hr : Rd .i64 w0 x.pv x.ps) (hV : ∀ i, (s.V i).length < 274877906943) :
    Calls Try.prog 25 #[dp r, ddv x] w fun e w' => e = .returned (.tuple #[]) ∧ ∃ R', Bt S R' w0 w' d r s0 (stp s x) := by
  have HPK := fun w => pick_any x.kind 6 (by decide) (by decide) hx.k w
  have HBY := hideP (fun w => deed_bytes x hx w)
  have HDB : Hid (By (dby x)) := dby_by hx
  have HAW : Hid ((Lit.int .i64 x.at_).wf = true) := hx.a
  have HV : Hid (∀ i, (s.V i).length < 274877906943) := hV
  have HV2 : Hid (∀ i, (s.V i).length < 274877906944) := fun i => by have := hV i; omega
  have HST : Hid (stp s x = match pk x.kind 6 with | 0 => wrr s x.at_ (dby x) | 1 => s.fl | 2 => s.pw x.ps | 3 => rtt s x.at_ | 5 => ctt s x.at_ | _ => s) := rfl
  have hlt := pk_lt x.kind (n := 6) (by decide)
  obtain ⟨kk, hkk⟩ : ∃ kk, pk x.kind 6 = kk := ⟨_, rfl⟩
  rw [hkk] at HPK HST hlt
  generalize stp s x = s' at HST ⊢
  have HRP : Hid (Rd .i64 w0 x.pv x.ps) := hr
  have HPN : Hid (∀ (T : Nat → Prop), (∀ k, T k → w0.heap.size ≤ k) → ∀ k, x.pv.ownBlock = some k → x.ps ≠ [] → ¬ T k) := fun T hT k hk h0 e => by
    have := hr.blk h0 k hk
    have := hT k e
    omega
  have HDL : Hid ((dby x).length ≤ 300) := by rw [dby_len]; exact dlen_le x
  obtain ⟨q, hq⟩ : ∃ q, w.heap.size = q := ⟨_, rfl⟩
  obtain ⟨C, hC⟩ : ∃ C : Array Value, #[.int .i64 x.kind, .int .i64 x.at_, .int .u8 x.fill, .int .u8 x.last, .bool x.short, x.pv] = C := ⟨_, rfl⟩
  obtain ⟨W0, hW0⟩ : ∃ W0, w.alloc (.cells C 34) = W0 := ⟨_, rfl⟩
  have D0 : Hid (Ds S R w0 W0 d r q C s0 s) := by
    have hb : Below w.heap.size w W0 := by rw [← hW0]; exact (Below.refl _ _).alloc (Nat.le_refl _) _
    refine ⟨h.below hb, fun e => ?_, fun e => ?_, by rw [← hW0, ← hq]; exact heap_alloc_new w _, by rw [← hq]; exact h.be.size⟩
    · have := h.dk.slt q e; omega
    · have := h.rf.rlt q e; omega
  obtain ⟨kind, at_, fill, last, short, pv, ps⟩ := x
  unfold ddv at HBY ⊢
  dsimp only at *
  generalize dby ⟨kind, at_, fill, last, short, pv, ps⟩ = ys at *
  have HQ6 : Hid (∀ {S R : Nat → Prop} {w : World} {s t : DS}, Ds S R w0 w d r q C s t → w.cell? ⟨q, 0, none⟩ = some (.int .i64 kind) ∧ w.cell? ⟨q, 1, none⟩ = some (.int .i64 at_) ∧ w.cell? ⟨q, 2, none⟩ = some (.int .u8 fill) ∧ w.cell? ⟨q, 3, none⟩ = some (.int .u8 last) ∧ w.cell? ⟨q, 4, none⟩ = some (.bool short) ∧ w.cell? ⟨q, 5, none⟩ = some pv) := by
    intro S R w s t h
    have hb := h.box
    rw [← hC] at hb
    exact ⟨cell_of_row w q 0 _ _ (0, 0) hb, cell_of_row w q 1 _ _ (0, 0) hb, cell_of_row w q 2 _ _ (0, 0) hb, cell_of_row w q 3 _ _ (0, 0) hb, cell_of_row w q 4 _ _ (0, 0) hb, cell_of_row w q 5 _ _ (0, 0) hb⟩
  have HW0 : Hid (w.alloc (.cells #[.int .i64 kind, .int .i64 at_, .int .u8 fill, .int .u8 last, .bool short, pv] 34) = W0) := by rw [hC]; exact hW0
  have HQ : Hid (w.heap.size = q) := hq
  clear hx hkk h hr hV hq hW0 hC
  have HCA : kk = 0 ∨ kk = 1 ∨ kk = 2 ∨ kk = 3 ∨ kk = 4 ∨ kk = 5 := by omega
  clear hlt
  rcases HCA with rfl | rfl | rfl | rfl | rfl | rfl
  · replace HST : Hid (s' = wrr s at_ ys) := HST
    obtain ⟨q0, q1, q2, q3, q4, q5⟩ := HQ6.out D0.out
    go_enter Try.func25, Try.ntmps25
    go_wp2_with fail
    rw [HW0.out, HQ.out]
    clear HW0 HQ
    refine (HPK _).mono ?_
    rintro e W0 ⟨rfl, rfl⟩
    clear HPK
    go_wp2_with fail
    go_region_held3 (fun w' => w'.cell? ⟨q, 0, none⟩ = some (.int .i64 kind) ∧ w'.cell? ⟨q, 1, none⟩ = some (.int .i64 at_) ∧ w'.cell? ⟨q, 2, none⟩ = some (.int .u8 fill) ∧ w'.cell? ⟨q, 3, none⟩ = some (.int .u8 last) ∧ w'.cell? ⟨q, 4, none⟩ = some (.bool short) ∧ w'.cell? ⟨q, 5, none⟩ = some pv) (go_keep)
      (first
        | (go_at_call 19; refine (HBY.out _).mono ?_; rintro e W6 ⟨ov6, rfl, ho6, hb6, hf6⟩; have D6 : Hid (Ds S R w0 W6 d r q C s0 s) := D0.out.drew.below hb6; have F6 : Hid (∀ k, ov6.ownBlock = some k → ¬ R k) := fun k hk => (D0.out.drew.free (hf6 k hk)).2.1; have O6 : Hid (Rd .u8 W6 ov6 ys) := ho6.rd; clear ho6 hb6 hf6; obtain ⟨p0, p1, p2, p3, p4, p5⟩ := HQ6.out D6.out)
        | (go_at_call 29; refine (refWrite_all at_ ov6 ys W6 D6.out.bt.rf O6.out HDB.out F6.out HV.out).mono ?_; rintro e W7 ⟨rfl, hd7⟩; obtain ⟨R7, hD7, _, _⟩ := D6.out.rfTo hd7; have D7 : Hid (Ds S R7 w0 W7 d r q C s0 (wrr s at_ ys)) := hD7; clear hd7 hD7; obtain ⟨r0, r1, r2, r3, r4, r5⟩ := HQ6.out D7.out))
    go_wp2_with fail
    go_end0
    refine ⟨rfl, R7, ?_⟩
    rw [HST.out]
    exact D7.out.bt
  · replace HST : Hid (s' = s.fl) := HST
    obtain ⟨q0, q1, q2, q3, q4, q5⟩ := HQ6.out D0.out
    go_enter Try.func25, Try.ntmps25
    go_wp2_with fail
    rw [HW0.out, HQ.out]
    clear HW0 HQ
    refine (HPK _).mono ?_
    rintro e W0 ⟨rfl, rfl⟩
    clear HPK
    have HA := hideP (refFlush_any W0 D0.out.bt.rf)
    go_wp2_with fail
    refine HA.out.mono ?_
    clear HA q0 q1 q2 q3 q4 q5
    rintro e W3 ⟨rfl, hd3⟩
    obtain ⟨R7, hD3, _, _⟩ := D0.out.rfTo hd3
    have D7 : Hid (Ds S R7 w0 W3 d r q C s0 (s.fl)) := hD3
    clear hd3 hD3 D0
    go_wp2_with fail
    go_end0
    refine ⟨rfl, R7, ?_⟩
    rw [HST.out]
    exact D7.out.bt
  · replace HST : Hid (s' = s.pw ps) := HST
    obtain ⟨q0, q1, q2, q3, q4, q5⟩ := HQ6.out D0.out
    go_enter Try.func25, Try.ntmps25
    go_wp2_with fail
    rw [HW0.out, HQ.out]
    clear HW0 HQ
    refine (HPK _).mono ?_
    rintro e W0 ⟨rfl, rfl⟩
    clear HPK
    have HA := hideP (refPower_any pv ps W0 D0.out.bt.rf (HRP.out.below D0.out.bt.be) (HPN.out R D0.out.bt.r0) HV2.out)
    go_wp2_with fail
    refine HA.out.mono ?_
    clear HA q0 q1 q2 q3 q4 q5
    rintro e W3 ⟨rfl, hd3⟩
    obtain ⟨R7, hD3, _, _⟩ := D0.out.rfTo hd3
    have D7 : Hid (Ds S R7 w0 W3 d r q C s0 (s.pw ps)) := hD3
    clear hd3 hD3 D0
    go_wp2_with fail
    go_end0
    refine ⟨rfl, R7, ?_⟩
    rw [HST.out]
    exact D7.out.bt
  · replace HST : Hid (s' = rtt s at_) := HST
    obtain ⟨q0, q1, q2, q3, q4, q5⟩ := HQ6.out D0.out
    go_enter Try.func25, Try.ntmps25
    go_wp2_with fail
    rw [HW0.out, HQ.out]
    clear HW0 HQ
    refine (HPK _).mono ?_
    rintro e W0 ⟨rfl, rfl⟩
    clear HPK
    have HA := hideP (refRot_all at_ W0 D0.out.bt.rf HV2.out)
    go_wp2_with fail
    refine HA.out.mono ?_
    clear HA q0 q1 q2 q3 q4 q5
    rintro e W3 ⟨rfl, hd3⟩
    obtain ⟨R7, hD3, _, _⟩ := D0.out.rfTo hd3
    have D7 : Hid (Ds S R7 w0 W3 d r q C s0 (rtt s at_)) := hD3
    clear hd3 hD3 D0
    go_wp2_with fail
    go_end0
    refine ⟨rfl, R7, ?_⟩
    rw [HST.out]
    exact D7.out.bt
  · replace HST : Hid (s' = s) := HST
    obtain ⟨q0, q1, q2, q3, q4, q5⟩ := HQ6.out D0.out
    go_enter Try.func25, Try.ntmps25
    go_wp2_with fail
    rw [HW0.out, HQ.out]
    clear HW0 HQ
    refine (HPK _).mono ?_
    rintro e W0 ⟨rfl, rfl⟩
    clear HPK
    go_wp2_with fail
    go_end0
    refine ⟨rfl, R, ?_⟩
    rw [HST.out]
    exact D0.out.bt
  · replace HST : Hid (s' = ctt s at_) := HST
    obtain ⟨q0, q1, q2, q3, q4, q5⟩ := HQ6.out D0.out
    go_enter Try.func25, Try.ntmps25
    go_wp2_with fail
    rw [HW0.out, HQ.out]
    clear HW0 HQ
    refine (HPK _).mono ?_
    rintro e W0 ⟨rfl, rfl⟩
    clear HPK
    have HA := hideP (cuts_all at_ W0 D0.out.bt.rf)
    go_wp2_with fail
    refine HA.out.mono ?_
    clear HA q0 q1 q2 q3 q4 q5
    rintro e W3 ⟨rfl, hd3⟩
    obtain ⟨R7, hD3, _, _⟩ := D0.out.rfTo hd3
    have D7 : Hid (Ds S R7 w0 W3 d r q C s0 (ctt s at_)) := hD3
    clear hd3 hD3 D0
    go_wp2_with fail
    go_end0
    refine ⟨rfl, R7, ?_⟩
    rw [HST.out]
    exact D7.out.bt
end Go.Proofs.Ytmohbkhdloggeaa
