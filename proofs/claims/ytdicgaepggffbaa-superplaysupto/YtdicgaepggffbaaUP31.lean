import Derived.Test.YtdicgaepggffbaaUP30
import Derived.Test.YtdicgaepggffbaaUP18
import Derived.Test.YtdicgaepggffbaaUP26
import Derived.Test.YtdicgaepggffbaaUP23
import Derived.Deep.RegionHeld3
/-
  Superblocks are saved and loaded as the document says.
-/
namespace Go.Proofs.Ytdicgaepggffbaa
open Go.RowKit Go.Maps
set_option linter.unusedVariables false
set_option linter.unusedSimpArgs false
set_option maxRecDepth 100000

/-- What a deed leaves. -/
def ustp (s : DS) (x : Ud) : DS := match pk x.kind 5 with | 0 => svv s x.su | 1 => (if mayU x.su = true then wrr s x.at_ (usec x.su) else s) | 2 => s.fl | 3 => s.pw x.ps | 4 => rtt s x.at_ | _ => s

theorem wrr_V {s : DS} (at_ : Int) (b : List Int) {k : Nat} (h : ∀ i, (s.V i).length ≤ k) : ∀ i, ((wrr s at_ b).V i).length ≤ k + 1 := by
  intro i
  have hi := h i
  unfold wrr
  split
  · omega
  · split
    · have := wr_V_le s at_.toNat b i; omega
    · omega
theorem ustp_V {s : DS} (x : Ud) (hV : ∀ i, s.L.length ≤ i → s.V i = []) {k : Nat} (h : ∀ i, (s.V i).length ≤ k) : ∀ i, ((ustp s x).V i).length ≤ k + 1 := by
  intro i
  have hi := h i
  unfold ustp
  split
  · unfold svv
    split
    · have := fl_V_le (wrr s (x.su.gen % 2) (usec x.su)) i
      have := wrr_V (x.su.gen % 2) (usec x.su) h i
      omega
    · omega
  · split
    · exact wrr_V _ _ h i
    · omega
  · have := fl_V_le s i; omega
  · rw [pw_V s x.ps hV i]; simp
  · unfold rtt
    split
    · omega
    · unfold DS.rot vput
      dsimp only
      split
      · rename_i e; rw [List.length_map, ← e]; omega
      · omega
  · omega

/-- Both are new. -/
theorem bt_new {w w1 w2 : World} {d r : Nat} {S R : Nat → Prop} {n : Nat} (hd : Dk S w1 d (DS.new n)) (hb1 : Below w.heap.size w w1) (hs : ∀ k, S k → w.heap.size ≤ k) (hr : Rf R w2 r (DS.new n)) (hb2 : Below w1.heap.size w1 w2) (hr2 : ∀ k, R k → w1.heap.size ≤ k) : Bt S R w w2 d r (DS.new n) (DS.new n) :=
  ⟨hd.below hb2, hr, fun k hk e => by have := hd.slt k hk; have := hr2 k e; omega, hb1.trans (hb2.mono hb1.size), hs, fun k hk => Nat.le_trans hb1.size (hr2 k hk)⟩

/-- The deed as cells. -/
def udc (x : Ud) : Array Value := #[.int .i64 x.kind, .int .i64 x.su.gen, .int .i64 x.su.sc, .int .i64 x.su.nx, x.sv, .int .i64 x.at_, x.pv]

/-- Both disks, and the deed's own block. -/
structure Us (S R : Nat → Prop) (w0 w : World) (d r q : Nat) (x : Ud) (s t : DS) : Prop where
  bt : Bt S R w0 w d r s t
  nS : ¬ S q
  nR : ¬ R q
  box : w.heap[q]? = some (.cells (udc x) 45 (0, 0))
  q0 : w0.heap.size ≤ q

section
variable {S R : Nat → Prop} {w0 w w' : World} {d r q : Nat} {x : Ud} {s t : DS}
theorem Us.lt (h : Us S R w0 w d r q x s t) : q < w.heap.size := (Array.getElem?_eq_some_iff.1 h.box).1
theorem Us.tch (h : Us S R w0 w d r q x s t) {T : Nat → Prop} (ht : Tch T w w') (hS : ∀ k, T k → ¬ S k ∧ ¬ R k ∧ w0.heap.size ≤ k) (hq : ¬ T q) : Us S R w0 w' d r q x s t :=
  ⟨h.bt.tch ht hS, h.nS, h.nR, by rw [ht.block q h.lt hq]; exact h.box, h.q0⟩
theorem Us.below (h : Us S R w0 w d r q x s t) (hb : Below w.heap.size w w') : Us S R w0 w' d r q x s t := h.tch (T := fun _ => False) (Tch.of_below hb) (fun _ e => e.elim) (fun e => e)
theorem Us.drew (h : Us S R w0 w d r q x s t) : Us S R w0 w.drew d r q x s t := h.tch (T := fun _ => False) (Tch.drew (Tch.refl _ w)) (fun _ e => e.elim) (fun e => e)
theorem Us.dkTo (h : Us S R w0 w d r q x s t) {s' : DS} (hd : DkTo S w w' d s') : ∃ S', Us S' R w0 w' d r q x s' t ∧ Tch S w w' ∧ ∀ k, S' k → S k ∨ w.heap.size ≤ k := by
  obtain ⟨S', h1, h2, h3⟩ := h.bt.dkTo hd
  refine ⟨S', ⟨h1, fun e => ?_, h.nR, by rw [h2.block q h.lt h.nS]; exact h.box, h.q0⟩, h2, h3⟩
  rcases h3 q e with e2 | e2
  · exact h.nS e2
  · have := h.lt; omega
theorem Us.rfTo (h : Us S R w0 w d r q x s t) {t' : DS} (hd : RfTo R w w' r t') : ∃ R', Us S R' w0 w' d r q x s t' ∧ Tch R w w' ∧ ∀ k, R' k → R k ∨ w.heap.size ≤ k := by
  obtain ⟨R', h1, h2, h3⟩ := h.bt.rfTo hd
  refine ⟨R', ⟨h1, h.nS, fun e => ?_, by rw [h2.block q h.lt h.nR]; exact h.box, h.q0⟩, h2, h3⟩
  rcases h3 q e with e2 | e2
  · exact h.nR e2
  · have := h.lt; omega
theorem Us.free (h : Us S R w0 w d r q x s t) {k : Nat} (hk : w.heap.size ≤ k) : ¬ S k ∧ ¬ R k ∧ w0.heap.size ≤ k ∧ k ≠ q :=
  ⟨fun e => by have := h.bt.dk.slt k e; omega, fun e => by have := h.bt.rf.rlt k e; omega, Nat.le_trans h.bt.be.size hk, fun e => by have := h.lt; omega⟩
theorem Us.cells (h : Us S R w0 w d r q x s t) : w.cell? ⟨q, 0, none⟩ = some (.int .i64 x.kind) ∧ w.cell? ⟨q, 1, none⟩ = some (.int .i64 x.su.gen) ∧ w.cell? ⟨q, 2, none⟩ = some (.int .i64 x.su.sc) ∧ w.cell? ⟨q, 3, none⟩ = some (.int .i64 x.su.nx) ∧ w.cell? ⟨q, 4, none⟩ = some x.sv ∧ w.cell? ⟨q, 5, none⟩ = some (.int .i64 x.at_) ∧ w.cell? ⟨q, 6, none⟩ = some x.pv := by
  have hb := h.box
  exact ⟨cell_of_row w q 0 _ _ (0, 0) hb, cell_of_row w q 1 _ _ (0, 0) hb, cell_of_row w q 2 _ _ (0, 0) hb, cell_of_row w q 3 _ _ (0, 0) hb, cell_of_row w q 4 _ _ (0, 0) hb, cell_of_row w q 5 _ _ (0, 0) hb, cell_of_row w q 6 _ _ (0, 0) hb⟩
end

set_option maxHeartbeats 4000000 in
theorem superPlays_walk (lv : Value) (xs : List Ud) (w : World) (hr : RdU w lv xs) (hl : xs.length ≤ 1048576) :
    Calls Try.prog 5 #[lv] w fun e w' => e = .returned (.bool true) ∧ Below w.heap.size w w' := by
  have HR : Hid (RdU w lv xs) := hr
  obtain ⟨la, lcap, rfl, hl1, hl2, hl3⟩ := hr
  obtain ⟨t, ht⟩ : ∃ t, xs.length = t := ⟨_, rfl⟩
  have HT : Hid (xs.length = t) := ht
  have htl : t ≤ 1048576 := by omega
  rw [ht] at HR ⊢
  clear hl1 hl2 hl3 ht hl
  have HLV := hideP (fun w => lives_anyU w)
  have HNEW := hideP (new_ok 128 w (by omega) (by omega))
  have HRN := hideP (fun w => refNew_ok 128 w (by omega) (by omega))
  go_enter Try.func5, Try.ntmps5
  go_wp2_with fail
  refine HNEW.out.mono ?_
  clear HNEW
  rintro e w1 ⟨d, S1, rfl, hd1, hb1, hs1⟩
  have D1 : Hid (Dk S1 w1 d (DS.new 128) ∧ Below w.heap.size w w1 ∧ ∀ k, S1 k → w.heap.size ≤ k) := ⟨hd1, hb1, hs1⟩
  clear hd1 hb1 hs1
  go_wp2_with fail
  refine (HRN.out _).mono ?_
  clear HRN
  rintro e w2 ⟨r, R1, rfl, hr2, hb2, hs2⟩
  have I0 : Hid (Bt S1 R1 w w2 d r (DS.new 128) (DS.new 128)) := bt_new D1.out.1 D1.out.2.1 D1.out.2.2 hr2 hb2 hs2
  clear hr2 hb2 hs2 D1
  go_wp2_with fail
  go_loopw [7] (fun iv wr => ∃ (k : Nat) (S R : Nat → Prop) (s : DS), k ≤ t ∧ iv = .int .i64 k ∧ Hid (Bt S R w wr d r s s) ∧ Hid (∀ i, (s.V i).length ≤ k)) (fun iv _ => t - (intOf iv).toNat)
  case atStart => exact ⟨0, S1, R1, _, Nat.zero_le _, rfl, I0, fun i => Nat.le_refl _⟩
  case round =>
    clear I0
    obtain ⟨k, S, R, s, hk, rfl, I, HV⟩ := hrel
    by_cases hkt : k < t
    · have hki : (k : Int) < (t : Int) := by omega
      have hk0 : (0 : Int) ≤ (k : Int) := by omega
      obtain ⟨xb, xo, rfl, DC, DW⟩ := HR.out.at_ I.out.be (k := k) (by rw [HT.out]; exact hkt)
      obtain ⟨x, hx⟩ : ∃ x, xs[k]'(by rw [HT.out]; exact hkt) = x := ⟨_, rfl⟩
      rw [hx] at DC DW
      have HDW := hideP DW
      obtain ⟨c0, c1, c2, c3, c4, c5, c6, hok, hrv, hrd⟩ := DC
      clear hx DW
      obtain ⟨kind, su, sv, at_, pv, ps⟩ := x
      dsimp only at *
      obtain ⟨sa, sc, rfl, _⟩ := id hrv
      obtain ⟨pa, pc, rfl, _⟩ := id hrd
      have HPK : Hid (∀ W, Calls Try.prog 19 #[.int .i64 kind, .int .i64 ((5 : Nat) : Int)] W fun e w' => e = .returned (.int .i64 (pk kind 5 : Int)) ∧ w' = W) := fun W => pick_any kind 5 (by decide) (by decide) hok.k W
      have HAW : Hid ((Lit.int .i64 at_).wf = true) := hok.a
      have HV1 : Hid (∀ i, (s.V i).length < 274877906943) := fun i => by have := HV.out i; omega
      have HV2 : Hid (∀ i, (s.V i).length < 274877906944) := fun i => by have := HV.out i; omega
      have HVS : Hid (∀ i, ((ustp s ⟨kind, su, .slice sa su.vs.length sc, at_, .slice pa ps.length pc, ps⟩).V i).length ≤ k + 1) := ustp_V _ (Dk.out_V I.out.dk) HV.out
      have HST : Hid (ustp s ⟨kind, su, .slice sa su.vs.length sc, at_, .slice pa ps.length pc, ps⟩ = match pk kind 5 with | 0 => svv s su | 1 => (if mayU su = true then wrr s at_ (usec su) else s) | 2 => s.fl | 3 => s.pw ps | 4 => rtt s at_ | _ => s) := rfl
      have hlt := pk_lt kind (n := 5) (by decide)
      obtain ⟨kk, hkk⟩ : ∃ kk, pk kind 5 = kk := ⟨_, rfl⟩
      rw [hkk] at HPK HST hlt
      generalize ustp s ⟨kind, su, .slice sa su.vs.length sc, at_, .slice pa ps.length pc, ps⟩ = s' at HST HVS
      have HRS : Hid (∀ W, Below w.heap.size w W → RdV W (.slice sa su.vs.length sc) su.vs) := fun W h => HDW.out.rv.below h
      have HRP : Hid (∀ W, Below w.heap.size w W → Rd .i64 W (.slice pa ps.length pc) ps) := fun W h => HDW.out.rd.below h
      have HPN : Hid (∀ (T : Nat → Prop), (∀ k, T k → w.heap.size ≤ k) → ∀ k, (Value.slice pa ps.length pc).ownBlock = some k → ps ≠ [] → ¬ T k) := fun T hT k hk h0 e => by
        have := HDW.out.rd.blk h0 k hk
        have := hT k e
        omega
      obtain ⟨l, hl⟩ : ∃ m, Hid (su.vs.length = m) := ⟨_, rfl⟩
      obtain ⟨pl, hpl⟩ : ∃ m, Hid (ps.length = m) := ⟨_, rfl⟩
      rw [hl.out] at HRS c4
      rw [hpl.out] at HRP HPN c6
      obtain ⟨q, hq⟩ : ∃ q, wr.heap.size = q := ⟨_, rfl⟩
      obtain ⟨W0, hW0⟩ : ∃ W0, wr.alloc (.cells #[.int .i64 kind, .int .i64 su.gen, .int .i64 su.sc, .int .i64 su.nx, .slice sa l sc, .int .i64 at_, .slice pa pl pc] 45) = W0 := ⟨_, rfl⟩
      have D0 : Hid (Us S R w W0 d r q ⟨kind, su, .slice sa l sc, at_, .slice pa pl pc, ps⟩ s s) := by
        have hb : Below wr.heap.size wr W0 := by rw [← hW0]; exact (Below.refl _ _).alloc (Nat.le_refl _) _
        refine ⟨I.out.below hb, fun e => ?_, fun e => ?_, by rw [← hW0, ← hq]; exact heap_alloc_new wr _, by rw [← hq]; exact I.out.be.size⟩
        · have := I.out.dk.slt q e; omega
        · have := I.out.rf.rlt q e; omega
      have HW0 := hideP hW0
      have HQ := hideP hq
      clear hW0 hq hok hrv hrd I HV hkk HDW
      have HCA : kk = 0 ∨ kk = 1 ∨ kk = 2 ∨ kk = 3 ∨ kk = 4 := by omega
      clear hlt
      rcases HCA with rfl | rfl | rfl | rfl | rfl
      · replace HST : Hid (s' = svv s su) := HST
        obtain ⟨q0, q1, q2, q3, q4, q5, q6⟩ := D0.out.cells
        dsimp only at q0 q1 q2 q3 q4 q5 q6
        go_wp2_with fail
        rw [HW0.out, HQ.out]
        clear HW0 HQ
        refine (HPK.out _).mono ?_
        rintro e W0 ⟨rfl, rfl⟩
        clear HPK
        have HSV : Hid (∀ W, Below w.heap.size w W → Dk S W d s → Calls Try.prog 20 #[dp d, .agg #[.int .i64 su.gen, .int .i64 su.sc, .int .i64 su.nx, .slice sa l sc]] W fun e w' => e = .returned (.int .i64 (sco s su)) ∧ DkTo S W w' d (svv s su)) := fun W hb hd => save_anyU su (.slice sa l sc) W hd (HRS.out W hb) HV1.out
        have HSW : Hid (∀ W, Below w.heap.size w W → Rf R W r s → Calls Try.prog 21 #[dp r, .agg #[.int .i64 su.gen, .int .i64 su.sc, .int .i64 su.nx, .slice sa l sc]] W fun e w' => e = .returned (.int .i64 (sco s su)) ∧ RfTo R W w' r (svv s su)) := fun W hb hd => refSave_anyU su (.slice sa l sc) W hd (HRS.out W hb) HV1.out
        obtain ⟨cd0, hcd0⟩ : ∃ cd0, sco s su = cd0 := ⟨_, rfl⟩
        rw [hcd0] at HSV HSW
        clear hcd0
        go_wp2_with fail
        go_region_held3 (fun w' => w'.cell? ⟨q, 1, none⟩ = some (.int .i64 su.gen) ∧ w'.cell? ⟨q, 2, none⟩ = some (.int .i64 su.sc) ∧ w'.cell? ⟨q, 3, none⟩ = some (.int .i64 su.nx) ∧ w'.cell? ⟨q, 4, none⟩ = some (.slice sa l sc)) (go_keep)
          (first
            | (go_at_call 20; refine (HSV.out _ D0.out.drew.bt.be D0.out.drew.bt.dk).mono ?_; rintro e W3 ⟨rfl, hd3⟩; obtain ⟨S7, hD3, _, _⟩ := D0.out.drew.dkTo hd3; have D3 : Hid (Us S7 R w W3 d r q ⟨kind, su, .slice sa l sc, at_, .slice pa pl pc, ps⟩ s' s) := (by rw [HST.out]; exact hD3); clear hd3 hD3; obtain ⟨p0, p1, p2, p3, p4, p5, p6⟩ := D3.out.cells; dsimp only at p0 p1 p2 p3 p4 p5 p6)
            | (go_at_call 21; refine (HSW.out W3 D3.out.bt.be D3.out.bt.rf).mono ?_; rintro e W7 ⟨rfl, hd4⟩; obtain ⟨R7, hD4, _, _⟩ := D3.out.rfTo hd4; have D7 : Hid (Us S7 R7 w W7 d r q ⟨kind, su, .slice sa l sc, at_, .slice pa pl pc, ps⟩ s' s') := (by rw [HST.out] at hD4 ⊢; exact hD4); clear hd4 hD4; obtain ⟨r0, r1, r2, r3, r4, r5, r6⟩ := D7.out.cells; dsimp only at r0 r1 r2 r3 r4 r5 r6))
        clear D0 D3 HSV HSW
        have HLD := hideP (load_anyU W7 D7.out.bt.dk)
        go_wp2_with fail
        refine HLD.out.mono ?_
        clear HLD q0 q1 q2 q3 q4 q5 q6
        rintro e W8 ⟨a8, k8, rfl, r8, b8, n8⟩
        have D8 : Hid (Us S7 R7 w W8 d r q ⟨kind, su, .slice sa l sc, at_, .slice pa pl pc, ps⟩ s' s') := D7.out.below b8
        obtain ⟨o, ho⟩ : ∃ o, Hid (loadU s' = o) := ⟨_, rfl⟩
        rw [ho.out] at r8 ⊢
        obtain ⟨X, hX⟩ : ∃ X, Hid (o.getD sp0 = X) := ⟨_, rfl⟩
        rw [hX.out] at r8 ⊢
        obtain ⟨cd, hcd⟩ : ∃ cd : Int, Hid ((if o.isSome = true then (0 : Int) else 7) = cd) := ⟨_, rfl⟩
        rw [hcd.out]
        obtain ⟨W9, hW9⟩ : ∃ W9, W8.alloc (.cells #[.int .i64 X.gen, .int .i64 X.sc, .int .i64 X.nx, .slice a8 X.vs.length k8] 24) = W9 := ⟨_, rfl⟩
        obtain ⟨g9, hg9⟩ : ∃ g, W8.heap.size = g := ⟨_, rfl⟩
        have b9 : Below W8.heap.size W8 W9 := by rw [← hW9]; exact (Below.refl _ _).alloc (Nat.le_refl _) _
        have D9 : Hid (Us S7 R7 w W9 d r q ⟨kind, su, .slice sa l sc, at_, .slice pa pl pc, ps⟩ s' s') := D8.out.below b9
        have V9 : Hid (Uv W9 g9 X (.slice a8 X.vs.length k8)) := by rw [← hW9, ← hg9]; exact uv_new W8 X _
        have Y9 : Hid (RdV W9 (.slice a8 X.vs.length k8) X.vs) := r8.below b9
        have HRL := hideP (refLoad_anyU W9 D9.out.bt.rf)
        rw [ho.out] at HRL
        obtain ⟨xm, hxm⟩ : ∃ m, Hid (X.vs.length = m) := ⟨_, rfl⟩
        obtain ⟨xg, hxg⟩ : ∃ m, Hid (X.gen = m) := ⟨_, rfl⟩
        obtain ⟨xc, hxc⟩ : ∃ m, Hid (X.sc = m) := ⟨_, rfl⟩
        obtain ⟨xn, hxn⟩ : ∃ m, Hid (X.nx = m) := ⟨_, rfl⟩
        unfold supv
        rw [hxm.out] at hW9 V9 Y9 ⊢
        rw [hxg.out, hxc.out, hxn.out] at hW9 ⊢
        have HW9 := hideP hW9
        clear b8 n8 r8 b9 D8 D7 hW9
        go_wp2_with fail
        rw [HW9.out]
        refine HRL.out.mono ?_
        clear HRL HW9
        rintro e W10 ⟨a10, k10, rfl, r10, b10, n10⟩
        rw [hX.out] at r10 ⊢
        rw [hcd.out]
        have D10 : Hid (Us S7 R7 w W10 d r q ⟨kind, su, .slice sa l sc, at_, .slice pa pl pc, ps⟩ s' s') := D9.out.below b10
        have V10 : Hid (Uv W10 g9 X (.slice a8 xm k8)) := V9.out.below b10
        have Y10 : Hid (RdV W10 (.slice a8 xm k8) X.vs) := Y9.out.below b10
        clear V9 Y9 D9 hg9 b10
        obtain ⟨W11, hW11⟩ : ∃ W11, W10.alloc (.cells #[.int .i64 xg, .int .i64 xc, .int .i64 xn, .slice a10 xm k10] 24) = W11 := ⟨_, rfl⟩
        obtain ⟨g11, hg11⟩ : ∃ g, W10.heap.size = g := ⟨_, rfl⟩
        have b11 : Below W10.heap.size W10 W11 := by rw [← hW11]; exact (Below.refl _ _).alloc (Nat.le_refl _) _
        have D11 : Hid (Us S7 R7 w W11 d r q ⟨kind, su, .slice sa l sc, at_, .slice pa pl pc, ps⟩ s' s') := D10.out.below b11
        have V11 : Hid (Uv W11 g9 X (.slice a8 xm k8)) := V10.out.below b11
        have Y11 : Hid (RdV W11 (.slice a8 xm k8) X.vs) := Y10.out.below b11
        have V12 : Hid (Uv W11 g11 X (.slice a10 xm k10)) := by rw [← hW11, ← hg11, ← hxg.out, ← hxc.out, ← hxn.out]; exact uv_new W10 X _
        rw [hxm.out] at r10 ⊢
        have Y12 : Hid (RdV W11 (.slice a10 xm k10) X.vs) := r10.below b11
        have hsm := refSameU_any X X _ _ W11 Y11.out Y12.out
        rw [decide_eq_true (show X = X from rfl)] at hsm
        have HSM := hideP hsm
        clear hsm
        unfold supv at HSM
        unfold supv
        rw [hxg.out, hxc.out, hxn.out] at HSM ⊢
        have v0 := V11.out.c0
        have v1 := V11.out.c1
        have v2 := V11.out.c2
        have v3 := V11.out.c3
        have u0 := V12.out.c0
        have u1 := V12.out.c1
        have u2 := V12.out.c2
        have u3 := V12.out.c3
        rw [hxg.out] at v0 u0
        rw [hxc.out] at v1 u1
        rw [hxn.out] at v2 u2
        clear n10 r10 b11 D10 V10 Y10
        go_wp2_with fail
        refine HSM.out.mono ?_
        rintro e W13 ⟨rfl, b13⟩
        have I13 : Hid (Bt S7 R7 w W13 d r s' s') := D11.out.bt.below b13
        clear HSM b13 D11 V11 Y11 V12 Y12 v0 v1 v2 v3 u0 u1 u2 u3 hW11 hg11
        go_wp2_with fail
        exact ⟨⟨k + 1, S7, R7, s', by omega, by go_num, I13, HVS⟩, by simp [intOf]; omega⟩
      · replace HST : Hid (s' = if mayU su = true then wrr s at_ (usec su) else s) := HST
        obtain ⟨q0, q1, q2, q3, q4, q5, q6⟩ := D0.out.cells
        dsimp only at q0 q1 q2 q3 q4 q5 q6
        go_wp2_with fail
        rw [HW0.out, HQ.out]
        clear HW0 HQ
        refine (HPK.out _).mono ?_
        rintro e W0 ⟨rfl, rfl⟩
        clear HPK
        have HPU : Hid (∀ W, Below w.heap.size w W → Calls Try.prog 9 #[.agg #[.int .i64 su.gen, .int .i64 su.sc, .int .i64 su.nx, .slice sa l sc]] W fun e w' => PutV su W e w') := fun W hb => refPutU_any su (.slice sa l sc) W (HRS.out W hb)
        go_wp2_with fail
        refine (HPU.out _ D0.out.bt.be).mono ?_
        clear HPU q0 q1 q2 q3 q4 q5 q6
        rintro e W1 ⟨v1, c1, rfl, b1, n1, h1⟩
        have D1 : Hid (Us S R w W1 d r q ⟨kind, su, .slice sa l sc, at_, .slice pa pl pc, ps⟩ s s) := D0.out.below b1
        have F1 : Hid (∀ k, v1.ownBlock = some k → ¬ S k ∧ ¬ R k ∧ w.heap.size ≤ k ∧ k ≠ q) := fun k hk => D0.out.free (n1 k hk)
        clear n1 b1 D0
        obtain ⟨q0, q1, q2, q3, q4, q5, q6⟩ := D1.out.cells
        dsimp only at q0 q1 q2 q3 q4 q5 q6
        rcases h1 with ⟨hmt, rfl, wb⟩ | ⟨hmt, rfl, rfl⟩
        · have HUL : Hid ((usec su).length = 256) := usec_len (mayU_iff.1 hmt).1.2.2.2.2.2.2
          replace HST : Hid (s' = wrr s at_ (usec su)) := by rw [HST.out, if_pos hmt]; rfl
          have LT : Hid (∀ k, v1.ownBlock = some k → k < W1.heap.size) := wb.lt
          have O1 : Hid (Owns .u8 5 W1 v1 (usec su)) := wb
          have HWR := hideP (write_all at_ v1 (usec su) W1 D1.out.bt.dk wb.rd (usec_by su) (fun k hk => (F1.out k hk).1) HV1.out)
          obtain ⟨oa, oc, hov, hol, hom, _⟩ := wb.rd
          rw [HUL.out] at hov HWR
          subst hov
          generalize wco s at_ 256 = cw at HWR
          clear wb hol hom hmt
          go_wp2_with fail
          refine HWR.out.mono ?_
          clear HWR q0 q1 q2 q3 q4 q5 q6
          rintro e W3 ⟨rfl, hd3⟩
          obtain ⟨S7, hD3, ht3, hs3⟩ := D1.out.dkTo hd3
          have D3 : Hid (Us S7 R w W3 d r q ⟨kind, su, .slice sa l sc, at_, .slice pa pl pc, ps⟩ s' s) := by rw [HST.out]; exact hD3
          have O3 : Hid (Owns .u8 5 W3 (.slice oa 256 oc) (usec su)) := O1.out.tch ht3 (fun k hk => (F1.out k hk).1)
          have HWS := hideP (refWrite_all at_ (.slice oa 256 oc) (usec su) W3 D3.out.bt.rf O3.out.rd (usec_by su) (fun k hk => (F1.out k hk).2.1) HV1.out)
          generalize wco s at_ (usec su).length = cw2 at HWS
          clear hd3 hD3 ht3 hs3 D1 O1 O3 LT
          obtain ⟨q0, q1, q2, q3, q4, q5, q6⟩ := D3.out.cells
          dsimp only at q0 q1 q2 q3 q4 q5 q6
          go_wp2_with fail
          refine HWS.out.mono ?_
          clear HWS q0 q1 q2 q3 q4 q5 q6
          rintro e W7 ⟨rfl, hd4⟩
          obtain ⟨R7, hD4, _, _⟩ := D3.out.rfTo hd4
          have D7 : Hid (Us S7 R7 w W7 d r q ⟨kind, su, .slice sa l sc, at_, .slice pa pl pc, ps⟩ s' s') := by rw [HST.out] at hD4 ⊢; exact hD4
          clear hd4 hD4 D3 F1
          obtain ⟨q0, q1, q2, q3, q4, q5, q6⟩ := D7.out.cells
          dsimp only at q0 q1 q2 q3 q4 q5 q6
          have HLD := hideP (load_anyU W7 D7.out.bt.dk)
          go_wp2_with fail
          refine HLD.out.mono ?_
          clear HLD q0 q1 q2 q3 q4 q5 q6
          rintro e W8 ⟨a8, k8, rfl, r8, b8, n8⟩
          have D8 : Hid (Us S7 R7 w W8 d r q ⟨kind, su, .slice sa l sc, at_, .slice pa pl pc, ps⟩ s' s') := D7.out.below b8
          obtain ⟨o, ho⟩ : ∃ o, Hid (loadU s' = o) := ⟨_, rfl⟩
          rw [ho.out] at r8 ⊢
          obtain ⟨X, hX⟩ : ∃ X, Hid (o.getD sp0 = X) := ⟨_, rfl⟩
          rw [hX.out] at r8 ⊢
          obtain ⟨cd, hcd⟩ : ∃ cd : Int, Hid ((if o.isSome = true then (0 : Int) else 7) = cd) := ⟨_, rfl⟩
          rw [hcd.out]
          obtain ⟨W9, hW9⟩ : ∃ W9, W8.alloc (.cells #[.int .i64 X.gen, .int .i64 X.sc, .int .i64 X.nx, .slice a8 X.vs.length k8] 24) = W9 := ⟨_, rfl⟩
          obtain ⟨g9, hg9⟩ : ∃ g, W8.heap.size = g := ⟨_, rfl⟩
          have b9 : Below W8.heap.size W8 W9 := by rw [← hW9]; exact (Below.refl _ _).alloc (Nat.le_refl _) _
          have D9 : Hid (Us S7 R7 w W9 d r q ⟨kind, su, .slice sa l sc, at_, .slice pa pl pc, ps⟩ s' s') := D8.out.below b9
          have V9 : Hid (Uv W9 g9 X (.slice a8 X.vs.length k8)) := by rw [← hW9, ← hg9]; exact uv_new W8 X _
          have Y9 : Hid (RdV W9 (.slice a8 X.vs.length k8) X.vs) := r8.below b9
          have HRL := hideP (refLoad_anyU W9 D9.out.bt.rf)
          rw [ho.out] at HRL
          obtain ⟨xm, hxm⟩ : ∃ m, Hid (X.vs.length = m) := ⟨_, rfl⟩
          obtain ⟨xg, hxg⟩ : ∃ m, Hid (X.gen = m) := ⟨_, rfl⟩
          obtain ⟨xc, hxc⟩ : ∃ m, Hid (X.sc = m) := ⟨_, rfl⟩
          obtain ⟨xn, hxn⟩ : ∃ m, Hid (X.nx = m) := ⟨_, rfl⟩
          unfold supv
          rw [hxm.out] at hW9 V9 Y9 ⊢
          rw [hxg.out, hxc.out, hxn.out] at hW9 ⊢
          have HW9 := hideP hW9
          clear b8 n8 r8 b9 D8 D7 hW9
          go_wp2_with fail
          rw [HW9.out]
          refine HRL.out.mono ?_
          clear HRL HW9
          rintro e W10 ⟨a10, k10, rfl, r10, b10, n10⟩
          rw [hX.out] at r10 ⊢
          rw [hcd.out]
          have D10 : Hid (Us S7 R7 w W10 d r q ⟨kind, su, .slice sa l sc, at_, .slice pa pl pc, ps⟩ s' s') := D9.out.below b10
          have V10 : Hid (Uv W10 g9 X (.slice a8 xm k8)) := V9.out.below b10
          have Y10 : Hid (RdV W10 (.slice a8 xm k8) X.vs) := Y9.out.below b10
          clear V9 Y9 D9 hg9 b10
          obtain ⟨W11, hW11⟩ : ∃ W11, W10.alloc (.cells #[.int .i64 xg, .int .i64 xc, .int .i64 xn, .slice a10 xm k10] 24) = W11 := ⟨_, rfl⟩
          obtain ⟨g11, hg11⟩ : ∃ g, W10.heap.size = g := ⟨_, rfl⟩
          have b11 : Below W10.heap.size W10 W11 := by rw [← hW11]; exact (Below.refl _ _).alloc (Nat.le_refl _) _
          have D11 : Hid (Us S7 R7 w W11 d r q ⟨kind, su, .slice sa l sc, at_, .slice pa pl pc, ps⟩ s' s') := D10.out.below b11
          have V11 : Hid (Uv W11 g9 X (.slice a8 xm k8)) := V10.out.below b11
          have Y11 : Hid (RdV W11 (.slice a8 xm k8) X.vs) := Y10.out.below b11
          have V12 : Hid (Uv W11 g11 X (.slice a10 xm k10)) := by rw [← hW11, ← hg11, ← hxg.out, ← hxc.out, ← hxn.out]; exact uv_new W10 X _
          rw [hxm.out] at r10 ⊢
          have Y12 : Hid (RdV W11 (.slice a10 xm k10) X.vs) := r10.below b11
          have hsm := refSameU_any X X _ _ W11 Y11.out Y12.out
          rw [decide_eq_true (show X = X from rfl)] at hsm
          have HSM := hideP hsm
          clear hsm
          unfold supv at HSM
          unfold supv
          rw [hxg.out, hxc.out, hxn.out] at HSM ⊢
          have v0 := V11.out.c0
          have v1 := V11.out.c1
          have v2 := V11.out.c2
          have v3 := V11.out.c3
          have u0 := V12.out.c0
          have u1 := V12.out.c1
          have u2 := V12.out.c2
          have u3 := V12.out.c3
          rw [hxg.out] at v0 u0
          rw [hxc.out] at v1 u1
          rw [hxn.out] at v2 u2
          clear n10 r10 b11 D10 V10 Y10
          go_wp2_with fail
          refine HSM.out.mono ?_
          rintro e W13 ⟨rfl, b13⟩
          have I13 : Hid (Bt S7 R7 w W13 d r s' s') := D11.out.bt.below b13
          clear HSM b13 D11 V11 Y11 V12 Y12 v0 v1 v2 v3 u0 u1 u2 u3 hW11 hg11
          go_wp2_with fail
          exact ⟨⟨k + 1, S7, R7, s', by omega, by go_num, I13, HVS⟩, by simp [intOf]; omega⟩
        · replace HST : Hid (s' = s) := by rw [HST.out, if_neg (by rw [hmt]; decide)]; rfl
          obtain ⟨W7, hW7⟩ : ∃ W7, W1 = W7 := ⟨_, rfl⟩
          subst hW7
          have D7 : Hid (Us S R w W1 d r q ⟨kind, su, .slice sa l sc, at_, .slice pa pl pc, ps⟩ s' s') := by rw [HST.out]; exact D1.out
          clear D1 F1 hmt
          have HLD := hideP (load_anyU W1 D7.out.bt.dk)
          go_wp2_with fail
          refine HLD.out.mono ?_
          clear HLD q0 q1 q2 q3 q4 q5 q6
          rintro e W8 ⟨a8, k8, rfl, r8, b8, n8⟩
          have D8 : Hid (Us S R w W8 d r q ⟨kind, su, .slice sa l sc, at_, .slice pa pl pc, ps⟩ s' s') := D7.out.below b8
          obtain ⟨o, ho⟩ : ∃ o, Hid (loadU s' = o) := ⟨_, rfl⟩
          rw [ho.out] at r8 ⊢
          obtain ⟨X, hX⟩ : ∃ X, Hid (o.getD sp0 = X) := ⟨_, rfl⟩
          rw [hX.out] at r8 ⊢
          obtain ⟨cd, hcd⟩ : ∃ cd : Int, Hid ((if o.isSome = true then (0 : Int) else 7) = cd) := ⟨_, rfl⟩
          rw [hcd.out]
          obtain ⟨W9, hW9⟩ : ∃ W9, W8.alloc (.cells #[.int .i64 X.gen, .int .i64 X.sc, .int .i64 X.nx, .slice a8 X.vs.length k8] 24) = W9 := ⟨_, rfl⟩
          obtain ⟨g9, hg9⟩ : ∃ g, W8.heap.size = g := ⟨_, rfl⟩
          have b9 : Below W8.heap.size W8 W9 := by rw [← hW9]; exact (Below.refl _ _).alloc (Nat.le_refl _) _
          have D9 : Hid (Us S R w W9 d r q ⟨kind, su, .slice sa l sc, at_, .slice pa pl pc, ps⟩ s' s') := D8.out.below b9
          have V9 : Hid (Uv W9 g9 X (.slice a8 X.vs.length k8)) := by rw [← hW9, ← hg9]; exact uv_new W8 X _
          have Y9 : Hid (RdV W9 (.slice a8 X.vs.length k8) X.vs) := r8.below b9
          have HRL := hideP (refLoad_anyU W9 D9.out.bt.rf)
          rw [ho.out] at HRL
          obtain ⟨xm, hxm⟩ : ∃ m, Hid (X.vs.length = m) := ⟨_, rfl⟩
          obtain ⟨xg, hxg⟩ : ∃ m, Hid (X.gen = m) := ⟨_, rfl⟩
          obtain ⟨xc, hxc⟩ : ∃ m, Hid (X.sc = m) := ⟨_, rfl⟩
          obtain ⟨xn, hxn⟩ : ∃ m, Hid (X.nx = m) := ⟨_, rfl⟩
          unfold supv
          rw [hxm.out] at hW9 V9 Y9 ⊢
          rw [hxg.out, hxc.out, hxn.out] at hW9 ⊢
          have HW9 := hideP hW9
          clear b8 n8 r8 b9 D8 D7 hW9
          go_wp2_with fail
          rw [HW9.out]
          refine HRL.out.mono ?_
          clear HRL HW9
          rintro e W10 ⟨a10, k10, rfl, r10, b10, n10⟩
          rw [hX.out] at r10 ⊢
          rw [hcd.out]
          have D10 : Hid (Us S R w W10 d r q ⟨kind, su, .slice sa l sc, at_, .slice pa pl pc, ps⟩ s' s') := D9.out.below b10
          have V10 : Hid (Uv W10 g9 X (.slice a8 xm k8)) := V9.out.below b10
          have Y10 : Hid (RdV W10 (.slice a8 xm k8) X.vs) := Y9.out.below b10
          clear V9 Y9 D9 hg9 b10
          obtain ⟨W11, hW11⟩ : ∃ W11, W10.alloc (.cells #[.int .i64 xg, .int .i64 xc, .int .i64 xn, .slice a10 xm k10] 24) = W11 := ⟨_, rfl⟩
          obtain ⟨g11, hg11⟩ : ∃ g, W10.heap.size = g := ⟨_, rfl⟩
          have b11 : Below W10.heap.size W10 W11 := by rw [← hW11]; exact (Below.refl _ _).alloc (Nat.le_refl _) _
          have D11 : Hid (Us S R w W11 d r q ⟨kind, su, .slice sa l sc, at_, .slice pa pl pc, ps⟩ s' s') := D10.out.below b11
          have V11 : Hid (Uv W11 g9 X (.slice a8 xm k8)) := V10.out.below b11
          have Y11 : Hid (RdV W11 (.slice a8 xm k8) X.vs) := Y10.out.below b11
          have V12 : Hid (Uv W11 g11 X (.slice a10 xm k10)) := by rw [← hW11, ← hg11, ← hxg.out, ← hxc.out, ← hxn.out]; exact uv_new W10 X _
          rw [hxm.out] at r10 ⊢
          have Y12 : Hid (RdV W11 (.slice a10 xm k10) X.vs) := r10.below b11
          have hsm := refSameU_any X X _ _ W11 Y11.out Y12.out
          rw [decide_eq_true (show X = X from rfl)] at hsm
          have HSM := hideP hsm
          clear hsm
          unfold supv at HSM
          unfold supv
          rw [hxg.out, hxc.out, hxn.out] at HSM ⊢
          have v0 := V11.out.c0
          have v1 := V11.out.c1
          have v2 := V11.out.c2
          have v3 := V11.out.c3
          have u0 := V12.out.c0
          have u1 := V12.out.c1
          have u2 := V12.out.c2
          have u3 := V12.out.c3
          rw [hxg.out] at v0 u0
          rw [hxc.out] at v1 u1
          rw [hxn.out] at v2 u2
          clear n10 r10 b11 D10 V10 Y10
          go_wp2_with fail
          refine HSM.out.mono ?_
          rintro e W13 ⟨rfl, b13⟩
          have I13 : Hid (Bt S R w W13 d r s' s') := D11.out.bt.below b13
          clear HSM b13 D11 V11 Y11 V12 Y12 v0 v1 v2 v3 u0 u1 u2 u3 hW11 hg11
          go_wp2_with fail
          exact ⟨⟨k + 1, S, R, s', by omega, by go_num, I13, HVS⟩, by simp [intOf]; omega⟩
      · replace HST : Hid (s' = s.fl) := HST
        obtain ⟨q0, q1, q2, q3, q4, q5, q6⟩ := D0.out.cells
        dsimp only at q0 q1 q2 q3 q4 q5 q6
        go_wp2_with fail
        rw [HW0.out, HQ.out]
        clear HW0 HQ
        refine (HPK.out _).mono ?_
        rintro e W0 ⟨rfl, rfl⟩
        clear HPK
        go_wp2_with fail
        refine (flush_any _ D0.out.bt.dk).mono ?_
        clear q0 q1 q2 q3 q4 q5 q6
        rintro e W3 ⟨rfl, hd3⟩
        obtain ⟨S7, hD3, _, _⟩ := D0.out.dkTo hd3
        have D3 : Hid (Us S7 R w W3 d r q ⟨kind, su, .slice sa l sc, at_, .slice pa pl pc, ps⟩ s' s) := by rw [HST.out]; exact hD3
        clear hd3 hD3 D0
        obtain ⟨q0, q1, q2, q3, q4, q5, q6⟩ := D3.out.cells
        dsimp only at q0 q1 q2 q3 q4 q5 q6
        go_wp2_with fail
        refine (refFlush_any _ D3.out.bt.rf).mono ?_
        clear q0 q1 q2 q3 q4 q5 q6
        rintro e W7 ⟨rfl, hd4⟩
        obtain ⟨R7, hD4, _, _⟩ := D3.out.rfTo hd4
        have D7 : Hid (Us S7 R7 w W7 d r q ⟨kind, su, .slice sa l sc, at_, .slice pa pl pc, ps⟩ s' s') := by rw [HST.out] at hD4 ⊢; exact hD4
        clear hd4 hD4 D3
        obtain ⟨q0, q1, q2, q3, q4, q5, q6⟩ := D7.out.cells
        dsimp only at q0 q1 q2 q3 q4 q5 q6
        have HLD := hideP (load_anyU W7 D7.out.bt.dk)
        go_wp2_with fail
        refine HLD.out.mono ?_
        clear HLD q0 q1 q2 q3 q4 q5 q6
        rintro e W8 ⟨a8, k8, rfl, r8, b8, n8⟩
        have D8 : Hid (Us S7 R7 w W8 d r q ⟨kind, su, .slice sa l sc, at_, .slice pa pl pc, ps⟩ s' s') := D7.out.below b8
        obtain ⟨o, ho⟩ : ∃ o, Hid (loadU s' = o) := ⟨_, rfl⟩
        rw [ho.out] at r8 ⊢
        obtain ⟨X, hX⟩ : ∃ X, Hid (o.getD sp0 = X) := ⟨_, rfl⟩
        rw [hX.out] at r8 ⊢
        obtain ⟨cd, hcd⟩ : ∃ cd : Int, Hid ((if o.isSome = true then (0 : Int) else 7) = cd) := ⟨_, rfl⟩
        rw [hcd.out]
        obtain ⟨W9, hW9⟩ : ∃ W9, W8.alloc (.cells #[.int .i64 X.gen, .int .i64 X.sc, .int .i64 X.nx, .slice a8 X.vs.length k8] 24) = W9 := ⟨_, rfl⟩
        obtain ⟨g9, hg9⟩ : ∃ g, W8.heap.size = g := ⟨_, rfl⟩
        have b9 : Below W8.heap.size W8 W9 := by rw [← hW9]; exact (Below.refl _ _).alloc (Nat.le_refl _) _
        have D9 : Hid (Us S7 R7 w W9 d r q ⟨kind, su, .slice sa l sc, at_, .slice pa pl pc, ps⟩ s' s') := D8.out.below b9
        have V9 : Hid (Uv W9 g9 X (.slice a8 X.vs.length k8)) := by rw [← hW9, ← hg9]; exact uv_new W8 X _
        have Y9 : Hid (RdV W9 (.slice a8 X.vs.length k8) X.vs) := r8.below b9
        have HRL := hideP (refLoad_anyU W9 D9.out.bt.rf)
        rw [ho.out] at HRL
        obtain ⟨xm, hxm⟩ : ∃ m, Hid (X.vs.length = m) := ⟨_, rfl⟩
        obtain ⟨xg, hxg⟩ : ∃ m, Hid (X.gen = m) := ⟨_, rfl⟩
        obtain ⟨xc, hxc⟩ : ∃ m, Hid (X.sc = m) := ⟨_, rfl⟩
        obtain ⟨xn, hxn⟩ : ∃ m, Hid (X.nx = m) := ⟨_, rfl⟩
        unfold supv
        rw [hxm.out] at hW9 V9 Y9 ⊢
        rw [hxg.out, hxc.out, hxn.out] at hW9 ⊢
        have HW9 := hideP hW9
        clear b8 n8 r8 b9 D8 D7 hW9
        go_wp2_with fail
        rw [HW9.out]
        refine HRL.out.mono ?_
        clear HRL HW9
        rintro e W10 ⟨a10, k10, rfl, r10, b10, n10⟩
        rw [hX.out] at r10 ⊢
        rw [hcd.out]
        have D10 : Hid (Us S7 R7 w W10 d r q ⟨kind, su, .slice sa l sc, at_, .slice pa pl pc, ps⟩ s' s') := D9.out.below b10
        have V10 : Hid (Uv W10 g9 X (.slice a8 xm k8)) := V9.out.below b10
        have Y10 : Hid (RdV W10 (.slice a8 xm k8) X.vs) := Y9.out.below b10
        clear V9 Y9 D9 hg9 b10
        obtain ⟨W11, hW11⟩ : ∃ W11, W10.alloc (.cells #[.int .i64 xg, .int .i64 xc, .int .i64 xn, .slice a10 xm k10] 24) = W11 := ⟨_, rfl⟩
        obtain ⟨g11, hg11⟩ : ∃ g, W10.heap.size = g := ⟨_, rfl⟩
        have b11 : Below W10.heap.size W10 W11 := by rw [← hW11]; exact (Below.refl _ _).alloc (Nat.le_refl _) _
        have D11 : Hid (Us S7 R7 w W11 d r q ⟨kind, su, .slice sa l sc, at_, .slice pa pl pc, ps⟩ s' s') := D10.out.below b11
        have V11 : Hid (Uv W11 g9 X (.slice a8 xm k8)) := V10.out.below b11
        have Y11 : Hid (RdV W11 (.slice a8 xm k8) X.vs) := Y10.out.below b11
        have V12 : Hid (Uv W11 g11 X (.slice a10 xm k10)) := by rw [← hW11, ← hg11, ← hxg.out, ← hxc.out, ← hxn.out]; exact uv_new W10 X _
        rw [hxm.out] at r10 ⊢
        have Y12 : Hid (RdV W11 (.slice a10 xm k10) X.vs) := r10.below b11
        have hsm := refSameU_any X X _ _ W11 Y11.out Y12.out
        rw [decide_eq_true (show X = X from rfl)] at hsm
        have HSM := hideP hsm
        clear hsm
        unfold supv at HSM
        unfold supv
        rw [hxg.out, hxc.out, hxn.out] at HSM ⊢
        have v0 := V11.out.c0
        have v1 := V11.out.c1
        have v2 := V11.out.c2
        have v3 := V11.out.c3
        have u0 := V12.out.c0
        have u1 := V12.out.c1
        have u2 := V12.out.c2
        have u3 := V12.out.c3
        rw [hxg.out] at v0 u0
        rw [hxc.out] at v1 u1
        rw [hxn.out] at v2 u2
        clear n10 r10 b11 D10 V10 Y10
        go_wp2_with fail
        refine HSM.out.mono ?_
        rintro e W13 ⟨rfl, b13⟩
        have I13 : Hid (Bt S7 R7 w W13 d r s' s') := D11.out.bt.below b13
        clear HSM b13 D11 V11 Y11 V12 Y12 v0 v1 v2 v3 u0 u1 u2 u3 hW11 hg11
        go_wp2_with fail
        exact ⟨⟨k + 1, S7, R7, s', by omega, by go_num, I13, HVS⟩, by simp [intOf]; omega⟩
      · replace HST : Hid (s' = s.pw ps) := HST
        obtain ⟨q0, q1, q2, q3, q4, q5, q6⟩ := D0.out.cells
        dsimp only at q0 q1 q2 q3 q4 q5 q6
        go_wp2_with fail
        rw [HW0.out, HQ.out]
        clear HW0 HQ
        refine (HPK.out _).mono ?_
        rintro e W0 ⟨rfl, rfl⟩
        clear HPK
        go_wp2_with fail
        refine (power_any _ ps _ D0.out.bt.dk (HRP.out _ D0.out.bt.be) (HPN.out _ D0.out.bt.s0) HV2.out).mono ?_
        clear q0 q1 q2 q3 q4 q5 q6
        rintro e W3 ⟨rfl, hd3⟩
        obtain ⟨S7, hD3, _, _⟩ := D0.out.dkTo hd3
        have D3 : Hid (Us S7 R w W3 d r q ⟨kind, su, .slice sa l sc, at_, .slice pa pl pc, ps⟩ s' s) := by rw [HST.out]; exact hD3
        clear hd3 hD3 D0
        obtain ⟨q0, q1, q2, q3, q4, q5, q6⟩ := D3.out.cells
        dsimp only at q0 q1 q2 q3 q4 q5 q6
        go_wp2_with fail
        refine (refPower_any _ ps _ D3.out.bt.rf (HRP.out _ D3.out.bt.be) (HPN.out _ D3.out.bt.r0) HV2.out).mono ?_
        clear q0 q1 q2 q3 q4 q5 q6
        rintro e W7 ⟨rfl, hd4⟩
        obtain ⟨R7, hD4, _, _⟩ := D3.out.rfTo hd4
        have D7 : Hid (Us S7 R7 w W7 d r q ⟨kind, su, .slice sa l sc, at_, .slice pa pl pc, ps⟩ s' s') := by rw [HST.out] at hD4 ⊢; exact hD4
        clear hd4 hD4 D3
        obtain ⟨q0, q1, q2, q3, q4, q5, q6⟩ := D7.out.cells
        dsimp only at q0 q1 q2 q3 q4 q5 q6
        have HLD := hideP (load_anyU W7 D7.out.bt.dk)
        go_wp2_with fail
        refine HLD.out.mono ?_
        clear HLD q0 q1 q2 q3 q4 q5 q6
        rintro e W8 ⟨a8, k8, rfl, r8, b8, n8⟩
        have D8 : Hid (Us S7 R7 w W8 d r q ⟨kind, su, .slice sa l sc, at_, .slice pa pl pc, ps⟩ s' s') := D7.out.below b8
        obtain ⟨o, ho⟩ : ∃ o, Hid (loadU s' = o) := ⟨_, rfl⟩
        rw [ho.out] at r8 ⊢
        obtain ⟨X, hX⟩ : ∃ X, Hid (o.getD sp0 = X) := ⟨_, rfl⟩
        rw [hX.out] at r8 ⊢
        obtain ⟨cd, hcd⟩ : ∃ cd : Int, Hid ((if o.isSome = true then (0 : Int) else 7) = cd) := ⟨_, rfl⟩
        rw [hcd.out]
        obtain ⟨W9, hW9⟩ : ∃ W9, W8.alloc (.cells #[.int .i64 X.gen, .int .i64 X.sc, .int .i64 X.nx, .slice a8 X.vs.length k8] 24) = W9 := ⟨_, rfl⟩
        obtain ⟨g9, hg9⟩ : ∃ g, W8.heap.size = g := ⟨_, rfl⟩
        have b9 : Below W8.heap.size W8 W9 := by rw [← hW9]; exact (Below.refl _ _).alloc (Nat.le_refl _) _
        have D9 : Hid (Us S7 R7 w W9 d r q ⟨kind, su, .slice sa l sc, at_, .slice pa pl pc, ps⟩ s' s') := D8.out.below b9
        have V9 : Hid (Uv W9 g9 X (.slice a8 X.vs.length k8)) := by rw [← hW9, ← hg9]; exact uv_new W8 X _
        have Y9 : Hid (RdV W9 (.slice a8 X.vs.length k8) X.vs) := r8.below b9
        have HRL := hideP (refLoad_anyU W9 D9.out.bt.rf)
        rw [ho.out] at HRL
        obtain ⟨xm, hxm⟩ : ∃ m, Hid (X.vs.length = m) := ⟨_, rfl⟩
        obtain ⟨xg, hxg⟩ : ∃ m, Hid (X.gen = m) := ⟨_, rfl⟩
        obtain ⟨xc, hxc⟩ : ∃ m, Hid (X.sc = m) := ⟨_, rfl⟩
        obtain ⟨xn, hxn⟩ : ∃ m, Hid (X.nx = m) := ⟨_, rfl⟩
        unfold supv
        rw [hxm.out] at hW9 V9 Y9 ⊢
        rw [hxg.out, hxc.out, hxn.out] at hW9 ⊢
        have HW9 := hideP hW9
        clear b8 n8 r8 b9 D8 D7 hW9
        go_wp2_with fail
        rw [HW9.out]
        refine HRL.out.mono ?_
        clear HRL HW9
        rintro e W10 ⟨a10, k10, rfl, r10, b10, n10⟩
        rw [hX.out] at r10 ⊢
        rw [hcd.out]
        have D10 : Hid (Us S7 R7 w W10 d r q ⟨kind, su, .slice sa l sc, at_, .slice pa pl pc, ps⟩ s' s') := D9.out.below b10
        have V10 : Hid (Uv W10 g9 X (.slice a8 xm k8)) := V9.out.below b10
        have Y10 : Hid (RdV W10 (.slice a8 xm k8) X.vs) := Y9.out.below b10
        clear V9 Y9 D9 hg9 b10
        obtain ⟨W11, hW11⟩ : ∃ W11, W10.alloc (.cells #[.int .i64 xg, .int .i64 xc, .int .i64 xn, .slice a10 xm k10] 24) = W11 := ⟨_, rfl⟩
        obtain ⟨g11, hg11⟩ : ∃ g, W10.heap.size = g := ⟨_, rfl⟩
        have b11 : Below W10.heap.size W10 W11 := by rw [← hW11]; exact (Below.refl _ _).alloc (Nat.le_refl _) _
        have D11 : Hid (Us S7 R7 w W11 d r q ⟨kind, su, .slice sa l sc, at_, .slice pa pl pc, ps⟩ s' s') := D10.out.below b11
        have V11 : Hid (Uv W11 g9 X (.slice a8 xm k8)) := V10.out.below b11
        have Y11 : Hid (RdV W11 (.slice a8 xm k8) X.vs) := Y10.out.below b11
        have V12 : Hid (Uv W11 g11 X (.slice a10 xm k10)) := by rw [← hW11, ← hg11, ← hxg.out, ← hxc.out, ← hxn.out]; exact uv_new W10 X _
        rw [hxm.out] at r10 ⊢
        have Y12 : Hid (RdV W11 (.slice a10 xm k10) X.vs) := r10.below b11
        have hsm := refSameU_any X X _ _ W11 Y11.out Y12.out
        rw [decide_eq_true (show X = X from rfl)] at hsm
        have HSM := hideP hsm
        clear hsm
        unfold supv at HSM
        unfold supv
        rw [hxg.out, hxc.out, hxn.out] at HSM ⊢
        have v0 := V11.out.c0
        have v1 := V11.out.c1
        have v2 := V11.out.c2
        have v3 := V11.out.c3
        have u0 := V12.out.c0
        have u1 := V12.out.c1
        have u2 := V12.out.c2
        have u3 := V12.out.c3
        rw [hxg.out] at v0 u0
        rw [hxc.out] at v1 u1
        rw [hxn.out] at v2 u2
        clear n10 r10 b11 D10 V10 Y10
        go_wp2_with fail
        refine HSM.out.mono ?_
        rintro e W13 ⟨rfl, b13⟩
        have I13 : Hid (Bt S7 R7 w W13 d r s' s') := D11.out.bt.below b13
        clear HSM b13 D11 V11 Y11 V12 Y12 v0 v1 v2 v3 u0 u1 u2 u3 hW11 hg11
        go_wp2_with fail
        exact ⟨⟨k + 1, S7, R7, s', by omega, by go_num, I13, HVS⟩, by simp [intOf]; omega⟩
      · replace HST : Hid (s' = rtt s at_) := HST
        obtain ⟨q0, q1, q2, q3, q4, q5, q6⟩ := D0.out.cells
        dsimp only at q0 q1 q2 q3 q4 q5 q6
        go_wp2_with fail
        rw [HW0.out, HQ.out]
        clear HW0 HQ
        refine (HPK.out _).mono ?_
        rintro e W0 ⟨rfl, rfl⟩
        clear HPK
        go_wp2_with fail
        refine (rot_all at_ _ D0.out.bt.dk HAW.out).mono ?_
        clear q0 q1 q2 q3 q4 q5 q6
        rintro e W3 ⟨rfl, hd3⟩
        obtain ⟨S7, hD3, _, _⟩ := D0.out.dkTo hd3
        have D3 : Hid (Us S7 R w W3 d r q ⟨kind, su, .slice sa l sc, at_, .slice pa pl pc, ps⟩ s' s) := by rw [HST.out]; exact hD3
        clear hd3 hD3 D0
        obtain ⟨q0, q1, q2, q3, q4, q5, q6⟩ := D3.out.cells
        dsimp only at q0 q1 q2 q3 q4 q5 q6
        go_wp2_with fail
        refine (refRot_all at_ _ D3.out.bt.rf HV2.out).mono ?_
        clear q0 q1 q2 q3 q4 q5 q6
        rintro e W7 ⟨rfl, hd4⟩
        obtain ⟨R7, hD4, _, _⟩ := D3.out.rfTo hd4
        have D7 : Hid (Us S7 R7 w W7 d r q ⟨kind, su, .slice sa l sc, at_, .slice pa pl pc, ps⟩ s' s') := by rw [HST.out] at hD4 ⊢; exact hD4
        clear hd4 hD4 D3
        obtain ⟨q0, q1, q2, q3, q4, q5, q6⟩ := D7.out.cells
        dsimp only at q0 q1 q2 q3 q4 q5 q6
        have HLD := hideP (load_anyU W7 D7.out.bt.dk)
        go_wp2_with fail
        refine HLD.out.mono ?_
        clear HLD q0 q1 q2 q3 q4 q5 q6
        rintro e W8 ⟨a8, k8, rfl, r8, b8, n8⟩
        have D8 : Hid (Us S7 R7 w W8 d r q ⟨kind, su, .slice sa l sc, at_, .slice pa pl pc, ps⟩ s' s') := D7.out.below b8
        obtain ⟨o, ho⟩ : ∃ o, Hid (loadU s' = o) := ⟨_, rfl⟩
        rw [ho.out] at r8 ⊢
        obtain ⟨X, hX⟩ : ∃ X, Hid (o.getD sp0 = X) := ⟨_, rfl⟩
        rw [hX.out] at r8 ⊢
        obtain ⟨cd, hcd⟩ : ∃ cd : Int, Hid ((if o.isSome = true then (0 : Int) else 7) = cd) := ⟨_, rfl⟩
        rw [hcd.out]
        obtain ⟨W9, hW9⟩ : ∃ W9, W8.alloc (.cells #[.int .i64 X.gen, .int .i64 X.sc, .int .i64 X.nx, .slice a8 X.vs.length k8] 24) = W9 := ⟨_, rfl⟩
        obtain ⟨g9, hg9⟩ : ∃ g, W8.heap.size = g := ⟨_, rfl⟩
        have b9 : Below W8.heap.size W8 W9 := by rw [← hW9]; exact (Below.refl _ _).alloc (Nat.le_refl _) _
        have D9 : Hid (Us S7 R7 w W9 d r q ⟨kind, su, .slice sa l sc, at_, .slice pa pl pc, ps⟩ s' s') := D8.out.below b9
        have V9 : Hid (Uv W9 g9 X (.slice a8 X.vs.length k8)) := by rw [← hW9, ← hg9]; exact uv_new W8 X _
        have Y9 : Hid (RdV W9 (.slice a8 X.vs.length k8) X.vs) := r8.below b9
        have HRL := hideP (refLoad_anyU W9 D9.out.bt.rf)
        rw [ho.out] at HRL
        obtain ⟨xm, hxm⟩ : ∃ m, Hid (X.vs.length = m) := ⟨_, rfl⟩
        obtain ⟨xg, hxg⟩ : ∃ m, Hid (X.gen = m) := ⟨_, rfl⟩
        obtain ⟨xc, hxc⟩ : ∃ m, Hid (X.sc = m) := ⟨_, rfl⟩
        obtain ⟨xn, hxn⟩ : ∃ m, Hid (X.nx = m) := ⟨_, rfl⟩
        unfold supv
        rw [hxm.out] at hW9 V9 Y9 ⊢
        rw [hxg.out, hxc.out, hxn.out] at hW9 ⊢
        have HW9 := hideP hW9
        clear b8 n8 r8 b9 D8 D7 hW9
        go_wp2_with fail
        rw [HW9.out]
        refine HRL.out.mono ?_
        clear HRL HW9
        rintro e W10 ⟨a10, k10, rfl, r10, b10, n10⟩
        rw [hX.out] at r10 ⊢
        rw [hcd.out]
        have D10 : Hid (Us S7 R7 w W10 d r q ⟨kind, su, .slice sa l sc, at_, .slice pa pl pc, ps⟩ s' s') := D9.out.below b10
        have V10 : Hid (Uv W10 g9 X (.slice a8 xm k8)) := V9.out.below b10
        have Y10 : Hid (RdV W10 (.slice a8 xm k8) X.vs) := Y9.out.below b10
        clear V9 Y9 D9 hg9 b10
        obtain ⟨W11, hW11⟩ : ∃ W11, W10.alloc (.cells #[.int .i64 xg, .int .i64 xc, .int .i64 xn, .slice a10 xm k10] 24) = W11 := ⟨_, rfl⟩
        obtain ⟨g11, hg11⟩ : ∃ g, W10.heap.size = g := ⟨_, rfl⟩
        have b11 : Below W10.heap.size W10 W11 := by rw [← hW11]; exact (Below.refl _ _).alloc (Nat.le_refl _) _
        have D11 : Hid (Us S7 R7 w W11 d r q ⟨kind, su, .slice sa l sc, at_, .slice pa pl pc, ps⟩ s' s') := D10.out.below b11
        have V11 : Hid (Uv W11 g9 X (.slice a8 xm k8)) := V10.out.below b11
        have Y11 : Hid (RdV W11 (.slice a8 xm k8) X.vs) := Y10.out.below b11
        have V12 : Hid (Uv W11 g11 X (.slice a10 xm k10)) := by rw [← hW11, ← hg11, ← hxg.out, ← hxc.out, ← hxn.out]; exact uv_new W10 X _
        rw [hxm.out] at r10 ⊢
        have Y12 : Hid (RdV W11 (.slice a10 xm k10) X.vs) := r10.below b11
        have hsm := refSameU_any X X _ _ W11 Y11.out Y12.out
        rw [decide_eq_true (show X = X from rfl)] at hsm
        have HSM := hideP hsm
        clear hsm
        unfold supv at HSM
        unfold supv
        rw [hxg.out, hxc.out, hxn.out] at HSM ⊢
        have v0 := V11.out.c0
        have v1 := V11.out.c1
        have v2 := V11.out.c2
        have v3 := V11.out.c3
        have u0 := V12.out.c0
        have u1 := V12.out.c1
        have u2 := V12.out.c2
        have u3 := V12.out.c3
        rw [hxg.out] at v0 u0
        rw [hxc.out] at v1 u1
        rw [hxn.out] at v2 u2
        clear n10 r10 b11 D10 V10 Y10
        go_wp2_with fail
        refine HSM.out.mono ?_
        rintro e W13 ⟨rfl, b13⟩
        have I13 : Hid (Bt S7 R7 w W13 d r s' s') := D11.out.bt.below b13
        clear HSM b13 D11 V11 Y11 V12 Y12 v0 v1 v2 v3 u0 u1 u2 u3 hW11 hg11
        go_wp2_with fail
        exact ⟨⟨k + 1, S7, R7, s', by omega, by go_num, I13, HVS⟩, by simp [intOf]; omega⟩
    · have hki : ¬ (k : Int) < (t : Int) := by omega
      have B0 : Hid (Below w.heap.size w wr) := I.out.be
      have HLN := hideP (load_nilU wr)
      have HO : Hid (∀ W, Calls Try.prog 32 #[] W fun e w' => SupR spOne W e w') := one_any
      clear hkt HV I
      unfold supv at HLN
      go_wp2_with fail
      refine HLN.out.mono ?_
      clear HLN
      rintro e w3 ⟨rfl, hb3⟩
      have B3 : Hid (Below w.heap.size w w3) := B0.out.trans (hb3.mono B0.out.size)
      clear hb3
      go_wp2_with fail
      refine (HO.out _).mono ?_
      rintro e w4 ⟨a4, k4, rfl, r4, b4, _⟩
      have B4 : Hid (Below w.heap.size w w4) := B3.out.trans ((((Below.refl _ _).alloc (Nat.le_refl _) _).trans (b4.mono (by simp))).mono B3.out.size)
      have HSN := hideP (save_nilU spOne _ w4 r4)
      unfold supv at HSN ⊢
      clear b4 r4
      go_wp2_with fail
      refine HSN.out.mono ?_
      rintro e w5 ⟨rfl, b5⟩
      have B5 : Hid (Below w.heap.size w w5) := B4.out.trans (b5.mono B4.out.size)
      clear b5 HSN
      go_wp2_with fail
      refine (HLV.out _).mono ?_
      rintro e w8 ⟨rfl, hb8⟩
      have B8 : Hid (Below w.heap.size w w8) := B5.out.trans (hb8.mono B5.out.size)
      clear hb8
      go_wp2_with fail
      go_ret
      exact ⟨by first | rfl | simp, B8.out⟩
end Go.Proofs.Ytdicgaepggffbaa
