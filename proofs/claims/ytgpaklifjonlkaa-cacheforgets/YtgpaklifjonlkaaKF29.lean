import Derived.Test.YtgpaklifjonlkaaKF26
import Derived.Test.YtgpaklifjonlkaaKF28
import Derived.Lib.SlBytesConst
import Derived.Laws.BytesArg
import Derived.Test.YtgpaklifjonlkaaKF06
import Derived.Test.YtgpaklifjonlkaaKF09
/-
  The laws' example holds.
-/
namespace Go.Proofs.Ytgpaklifjonlkaa
open Go.RowKit Go.Maps
set_option linter.unusedVariables false
set_option linter.unusedSimpArgs false
set_option maxRecDepth 100000

/-- A literal's row, marked behind its last cell. -/
theorem rd_litK (w : World) (xs : List Int) (fz : Nat × Nat) (hm : xs.length ≤ maxLen) : Rd .u8 (w.alloc (.cells (xs.map (Value.int .u8)).toArray 5 fz)) (.slice (some ⟨w.heap.size, 0, none⟩) xs.length xs.length) xs := by
  refine ⟨_, xs.length, rfl, Nat.le_refl _, hm, fun e => (by cases e), .inr ⟨w.heap.size, 0, rfl, fun i hi => ?_⟩⟩
  have h : (w.alloc (.cells (xs.map (Value.int .u8)).toArray 5 fz)).heap[w.heap.size]? = some (.cells (xs.map (Value.int .u8)).toArray 5 fz) := heap_alloc_new w _
  rw [Nat.zero_add, cell_of_row _ _ i _ _ fz h]
  simp [List.getD_eq_getElem?_getD, hi]
def exA : List Int := [97]
theorem byA : By exA := by_of_memB (by decide)
theorem mayA : mayK 52 3 exA.length = true := by decide
def exS : CS := (CS.new 2).putS 60 52 3 exA
theorem exS_d : exS.d = [52] := rfl
theorem exS_B : exS.B 52 = (3, exA) := rfl
theorem exPutE : (CS.new 2).putE 60 52 3 exA = 0 := rfl
theorem newLen : (DS.new 60).L.length = 60 := by unfold DS.new; exact List.length_replicate
theorem exThere : kthere (DS.new 60).L.length 52 = true := by rw [newLen]; rfl
theorem exGetE : exS.getE (DS.new 60) 52 = 0 := by unfold CS.getE; rw [exThere, if_pos rfl, if_pos (.inl (by rw [exS_d]; simp))]
theorem exGetB : exS.getB (DS.new 60) 52 = (3, exA) := by unfold CS.getB; rw [exThere, if_pos rfl, if_pos (.inl (by rw [exS_d]; simp))]; rfl
theorem exGetS : exS.getS (DS.new 60) 52 = exS := by unfold CS.getS; rw [if_neg (fun e => e.2 (by rw [exS_d]; simp))]
theorem exFl : exS.flushD (DS.new 60) = (DS.new 60).wr 52 (sec 52 3 exA) := rfl
theorem exHas : (exS.flushD (DS.new 60)).has 52 = sec 52 3 exA := by
  rw [exFl]
  have e : (DS.new 60).wr 52 (sec 52 3 exA) = { (DS.new 60).tick with V := vput (DS.new 60).V 52 ((DS.new 60).V 52 ++ [sec 52 3 exA]) } := by
    unfold DS.wr
    exact if_pos rfl
  rw [e]
  show (vput (DS.new 60).V 52 ((DS.new 60).V 52 ++ [sec 52 3 exA]) 52).getLastD _ = _
  unfold vput
  rw [if_pos rfl]
  rfl
theorem shapeA {w : World} {u : Value} (h : Rd .u8 w u exA) : ∃ b o cap, u = .slice (some ⟨b, o, none⟩) 1 cap ∧ (∀ i, i < 1 → w.cell? ⟨b, o + i, none⟩ = some (.int .u8 (exA.getD i 0))) := by
  obtain ⟨a, cap, rfl, h1, h2, h3, h4⟩ := h
  rcases h4 with e | ⟨b, o, rfl, hc⟩
  · cases e
  · exact ⟨b, o, cap, rfl, hc⟩

set_option maxHeartbeats 1000000 in
theorem lives_anyK (w : World) : Calls Try.prog 18 #[] w fun e w' => e = .returned (.bool true) ∧ Below w.heap.size w w' := by
  have kc := fun (w : World) (C : Array Value) (n c : Nat) => Lib.run_convert_bytes_const (P := Try.prog) w 38 5 C n c Try.underlying38 Try.underlying5
  have HN := hideP (new_ok 60 w (by decide) (by decide))
  go_enter Try.func18, Try.ntmps18
  go_wp2_with fail
  refine HN.out.mono ?_
  rintro e w1 ⟨d, S, rfl, hd, hb1, hs⟩
  have HC := hideP (newK_ok d 60 2 w1 (by decide) (by decide) (by decide))
  have H1 : Hid (Dk S w1 d (DS.new 60) ∧ Below w.heap.size w w1 ∧ ∀ k, S k → w.heap.size ≤ k) := ⟨hd, hb1, hs⟩
  clear hd hb1 hs HN
  go_wp2_with fail
  refine HC.out.mono ?_
  rintro e w2 ⟨c, X, rfl, hc, hb2, hx⟩
  have P2 : Hid (Pz w w w2 (fun _ => False) c d (CS.new 2) (DS.new 60)) := Pz.start H1.out.1 H1.out.2.1 H1.out.2.2 hc hb2 hx
  clear hc hb2 hx HC H1
  go_wp2_with fail
  obtain ⟨W3, hW3⟩ : ∃ W3, (w2.alloc (.cells #[.int .u8 97] 5 (1, 2))).alloc (.cells #[.int .i64 3, .slice (some ⟨w2.heap.size, 0, none⟩) 1 1] 40) = W3 := ⟨_, rfl⟩
  have b23 : Below w2.heap.size w2 W3 := by rw [← hW3]; exact ((Below.refl _ _).alloc (Nat.le_refl _) _).alloc (by simp) _
  have R3 : Rd .u8 W3 (.slice (some ⟨w2.heap.size, 0, none⟩) 1 1) exA := by
    rw [← hW3]
    exact (rd_litK w2 exA (1, 2) (by unfold maxLen; decide)).below ((Below.refl _ _).alloc (Nat.le_refl _) _)
  have P3 := P2.out.enter b23 (fun k => k = w2.heap.size) (fun k hk => by rw [hk]; exact ⟨Nat.le_refl _, by rw [← hW3]; simp; omega⟩)
  rw [hW3]
  have HPU := hideP (putP P3 52 3 (.slice (some ⟨w2.heap.size, 0, none⟩) 1 1) exA R3 byA (fun j hj h0 => by cases hj; exact .inr (.inr rfl)))
  rw [exPutE] at HPU
  unfold blk at HPU
  clear hW3 b23 R3 P3 kc
  refine HPU.out.mono ?_
  rintro e w4 ⟨rfl, h4⟩
  have P4 : Hid (Pz w w w4 (fun _ => False) c d exS (DS.new 60)) := h4.leave
  have HG := hideP (getP P4.out 52)
  rw [exGetE, exGetB, exGetS] at HG
  clear h4 HPU P2
  go_wp2_with fail
  refine HG.out.mono ?_
  rintro e w5 ⟨u, rfl, hn5, _, h5⟩
  obtain ⟨ub, uo, uc, rfl, hu⟩ := shapeA hn5.rd
  obtain ⟨W6, hW6⟩ : ∃ W6, w5.alloc (.cells #[.int .i64 3, .slice (some ⟨ub, uo, none⟩) 1 uc] 40) = W6 := ⟨_, rfl⟩
  have b56 : Below w5.heap.size w5 W6 := by rw [← hW6]; exact (Below.refl _ _).alloc (Nat.le_refl _) _
  have P6 : Hid (Pz w W6 W6 (fun k => (False ∨ (some ub = some k ∧ exA ≠ [])) ∨ k = w5.heap.size) c d exS (DS.new 60)) := h5.enter b56 (fun k => k = w5.heap.size) (fun k hk => by rw [hk]; exact ⟨Nat.le_refl _, by rw [← hW6]; simp⟩)
  have Q6 : Hid (Bkv W6 w5.heap.size 3 (.slice (some ⟨ub, uo, none⟩) 1 uc)) := by rw [← hW6]; exact bkv_new w5 _ _
  have U6 : Hid (Rd .u8 W6 (.slice (some ⟨ub, uo, none⟩) 1 uc) exA) := hn5.rd.below b56
  have HF := hideP (flushP P6.out (fun i => by show 0 + 4096 < _; omega))
  clear hn5 h5 hu b56 HG P4
  unfold blk
  go_wp2_with fail
  refine HF.out.mono ?_
  rintro e w7 ⟨rfl, h7⟩
  have k1 := h7.keep (k := w5.heap.size) (.inr rfl)
  have k2 := h7.keep (k := ub) (.inl (.inr ⟨rfl, by decide⟩))
  have P7 : Hid (Pz w w w7 (fun _ => False) c d exS.flush (exS.flushD (DS.new 60))) := h7.leave
  have Q7 : Hid (Bkv w7 w5.heap.size 3 (.slice (some ⟨ub, uo, none⟩) 1 uc)) := by unfold Bkv; rw [k1]; exact Q6.out
  have U7 : Hid (Rd .u8 w7 (.slice (some ⟨ub, uo, none⟩) 1 uc) exA) := by
    obtain ⟨b, o, cap, e, hc⟩ := shapeA U6.out
    cases e
    exact ⟨_, uc, rfl, by obtain ⟨_, _, e, h, _⟩ := U6.out; cases e; exact h, by obtain ⟨_, _, e, _, h, _⟩ := U6.out; cases e; exact h, (fun e => by cases e), .inr ⟨ub, uo, rfl, fun i hi => by rw [World.cell?_of_block (w := W6) (a := ⟨ub, uo + i, none⟩) k2]; exact hc i hi⟩⟩
  have HR := hideP (readP P7.out 52 (by decide))
  rw [exHas] at HR
  have HB : Hid (By (sec 52 3 exA)) := by have := (P7.out.has_ok (i := 52) (by decide)).2; rw [exHas] at this; exact this
  clear h7 k1 k2 HF P6 Q6 U6 hW6
  go_wp2_with fail
  refine HR.out.mono ?_
  rintro e w8 ⟨sv, rfl, hs8, hb8, p8⟩
  have Q8 : Hid (Bkv w8 w5.heap.size 3 (.slice (some ⟨ub, uo, none⟩) 1 uc)) := Q7.out.below hb8
  have U8 : Hid (Rd .u8 w8 (.slice (some ⟨ub, uo, none⟩) 1 uc) exA) := U7.out.below hb8
  have P8 := hideP p8
  have HG := hideP (refGet_any 52 sv (sec 52 3 exA) w8 hs8 HB.out)
  obtain ⟨va, vm, vc, rfl⟩ : ∃ a m cap, sv = .slice a m cap := by obtain ⟨a, c, e, _⟩ := hs8; exact ⟨_, _, _, e⟩
  clear hs8 hb8 p8 HR Q7 U7 P7
  go_wp2_with fail
  refine HG.out.mono ?_
  rintro e w9 ⟨zv, rfl, rz, b9, _⟩
  have eg := getE_put mayA
  rw [eg.1, eg.2]
  rw [eg.2] at rz
  obtain ⟨zb, zo, zc, rfl, hz⟩ := shapeA rz
  obtain ⟨WA, hWA⟩ : ∃ WA, w9.alloc (.cells #[.int .i64 3, .slice (some ⟨zb, zo, none⟩) 1 zc] 40) = WA := ⟨_, rfl⟩
  have b9A : Below w9.heap.size w9 WA := by rw [← hWA]; exact (Below.refl _ _).alloc (Nat.le_refl _) _
  have b8A : Below w8.heap.size w8 WA := b9.trans (b9A.mono b9.size)
  have QA : Hid (Bkv WA w9.heap.size 3 (.slice (some ⟨zb, zo, none⟩) 1 zc)) := by rw [← hWA]; exact bkv_new w9 _ _
  have QU : Hid (Bkv WA w5.heap.size 3 (.slice (some ⟨ub, uo, none⟩) 1 uc)) := Q8.out.below b8A
  obtain ⟨_, _, _, eu, hcu⟩ := shapeA (U8.out.below b8A)
  cases eu
  obtain ⟨_, _, _, ez, hcz⟩ := shapeA (rz.below b9A)
  cases ez
  have kd1 := run_convert_bytes_arg (P := Try.prog) WA 38 5 Try.underlying38 Try.underlying5 ub uo 1 uc exA rfl hcu 9 Try.underlying9
  have kd2 := run_convert_bytes_arg (P := Try.prog) WA 38 5 Try.underlying38 Try.underlying5 zb zo 1 zc exA rfl hcz 9 Try.underlying9
  have hst : strOfNums exA = ⟨#[97]⟩ := by decide
  rw [hst] at kd1 kd2
  have B9 : Hid (Below w.heap.size w WA) := P8.out.below0.trans (b8A.mono P8.out.below0.size)
  have u1 := QU.out.c1
  have z1 := QA.out.c1
  clear hst eg rz b9 hz b9A b8A hcu hcz HG Q8 U8 P8
  unfold blk
  go_wp2_with fail
  go_ret
  exact ⟨rfl, B9.out⟩
end Go.Proofs.Ytgpaklifjonlkaa
/-
  What is forgotten is as on the disk again.
-/
namespace Go.Proofs.Ytgpaklifjonlkaa
open Go.RowKit Go.Maps
set_option linter.unusedVariables false
set_option linter.unusedSimpArgs false
set_option maxRecDepth 100000

theorem refPutB_any (n k : Int) (v : Value) (ys : List Int) (w : World) (hr : Rd .u8 w v ys) (hb : By ys) :
    Calls Try.prog 25 #[.int .i64 n, blk k v] w fun e w' => ∃ a m cap, e = .returned (.tuple #[.slice a m cap, .int .i64 (if mayK n k ys.length = true then 0 else 1)]) ∧ Below w.heap.size w w' ∧ (mayK n k ys.length = true → Rd .u8 w' (.slice a m cap) (sec n k ys)) := by
  cases h : mayK n k ys.length with
  | true =>
    refine (refPutB_ok n k v ys w hr hb h).mono ?_
    rintro e w' ⟨u, rfl, h1, h2⟩
    obtain ⟨a, m, cap, rfl⟩ : ∃ a m cap, u = .slice a m cap := by obtain ⟨a, c, e, _⟩ := h1; exact ⟨_, _, _, e⟩
    exact ⟨_, _, _, rfl, h2, fun _ => h1⟩
  | false =>
    obtain ⟨a, cap, rfl, h1, h2, _⟩ := id hr
    refine (refPutB_bad n k a ys.length cap w (by unfold maxLen at h2; omega) h).mono ?_
    rintro e w' ⟨rfl, h2⟩
    exact ⟨_, _, _, rfl, h2, fun e => by cases e⟩

theorem get_forgot {s : CS} {D : DS} (hl : D.L.length = 60) : (s.forget 52).getE D 52 = getE 52 (D.has 52) ∧ (s.forget 52).getB D 52 = getB 52 (D.has 52) := by
  have h1 : kthere D.L.length 52 = true := by rw [hl]; rfl
  have h2 : ¬ ((52 : Int).toNat ∈ (s.forget 52).d ∨ (52 : Int).toNat ∈ (s.forget 52).c) := by
    show ¬ (52 ∈ kwo s.d 52 ∨ 52 ∈ kwo s.c 52)
    rw [kwo_mem, kwo_mem]
    simp
  unfold CS.getE CS.getB
  rw [h1, if_pos rfl, if_neg h2, if_pos rfl, if_neg h2]
  exact ⟨rfl, rfl⟩
theorem new_has : (DS.new 60).has 52 = zz := by
  show (List.replicate 60 zz).getD 52 [] = zz
  rw [List.getD_eq_getElem?_getD, List.getElem?_replicate, if_pos (by decide)]
  rfl
theorem wr_has_new (x : List Int) : ((DS.new 60).wr 52 x).has 52 = x := by
  have e : (DS.new 60).wr 52 x = { (DS.new 60).tick with V := vput (DS.new 60).V 52 ((DS.new 60).V 52 ++ [x]) } := by
    unfold DS.wr
    exact if_pos rfl
  rw [e]
  show (vput (DS.new 60).V 52 ((DS.new 60).V 52 ++ [x]) 52).getLastD _ = _
  unfold vput
  rw [if_pos rfl]
  rfl
theorem put_ok52 {s : CS} {k : Int} {ys : List Int} (h : mayK 52 k ys.length = true) : s.putE 60 52 k ys = 0 ∧ s.putS 60 52 k ys = s.lay 52 (k, ys) := by
  have e : s.putE 60 52 k ys = 0 := by unfold CS.putE; rw [if_pos (show kthere 60 52 = true from rfl), if_pos h]
  exact ⟨e, by unfold CS.putS; rw [if_pos e]; rfl⟩
theorem put_bad52 {s : CS} {k : Int} {ys : List Int} (h : mayK 52 k ys.length = false) : s.putE 60 52 k ys = 1 ∧ s.putS 60 52 k ys = s := by
  have e : s.putE 60 52 k ys = 1 := by unfold CS.putE; rw [if_pos (show kthere 60 52 = true from rfl), if_neg (by rw [h]; simp)]
  exact ⟨e, by unfold CS.putS; rw [if_neg (by rw [e]; simp)]⟩
theorem put_code52 (s : CS) (k : Int) (ys : List Int) : s.putE 60 52 k ys = if mayK 52 k ys.length = true then 0 else 1 := by
  cases h : mayK 52 k ys.length with
  | true => exact (put_ok52 h).1
  | false => exact (put_bad52 h).1
theorem flush_none : (CS.new 3).flush = CS.new 3 ∧ (CS.new 3).flushD (DS.new 60) = DS.new 60 := ⟨rfl, rfl⟩
theorem flush_one (x : Int × List Int) : ((CS.new 3).lay 52 x).flushD (DS.new 60) = (DS.new 60).wr 52 (sec 52 x.1 x.2) := by
  show (DS.new 60).wr 52 (sec 52 (bput (CS.new 3).B 52 x 52).1 (bput (CS.new 3).B 52 x 52).2) = _
  rw [bput_same]

set_option maxHeartbeats 1000000 in
theorem forgets_ff (ka kb : Int) (va vb : Value) (ya yb : List Int) (w : World) (ha : Rd .u8 w va ya) (hya : By ya) (hb : Rd .u8 w vb yb) (hyb : By yb) (hm : mayK 52 ka ya.length = true) :
    Calls Try.prog 7 #[blk ka va, blk kb vb, .bool false] w fun e w' => e = .returned (.bool true) ∧ Below w.heap.size w w' := by
  obtain ⟨W0, hW0⟩ : ∃ W0, w.alloc (.cells #[.int .i64 ka, va] 40) = W0 := ⟨_, rfl⟩
  obtain ⟨W1, hW1⟩ : ∃ W1, W0.alloc (.cells #[.int .i64 kb, vb] 40) = W1 := ⟨_, rfl⟩
  have s0 : W0.heap.size = w.heap.size + 1 := by rw [← hW0]; simp
  have b01 : Below W0.heap.size W0 W1 := by rw [← hW1]; exact (Below.refl _ _).alloc (Nat.le_refl _) _
  have B1 : Hid (Below w.heap.size w W1) := by rw [← hW1, ← hW0]; exact ((Below.refl _ _).alloc (Nat.le_refl _) _).alloc (by simp) _
  have QA : Hid (Bkv W1 w.heap.size ka va) := Bkv.below (w := W0) (by rw [← hW0]; exact bkv_new w _ _) b01
  have QB : Hid (Bkv W1 W0.heap.size kb vb) := by rw [← hW1]; exact bkv_new W0 _ _
  have RA : Hid (Rd .u8 W1 va ya) := ha.below B1.out
  have RB : Hid (Rd .u8 W1 vb yb) := hb.below B1.out
  have HBY : Hid (By ya ∧ By yb ∧ mayK 52 ka ya.length = true) := ⟨hya, hyb, hm⟩
  have HLV : Hid (∀ W, Calls Try.prog 18 #[] W fun e w' => e = .returned (.bool true) ∧ Below W.heap.size W w') := fun W => lives_anyK W
  obtain ⟨aa, am, ac, rfl⟩ : ∃ a m cap, va = .slice a m cap := by obtain ⟨a, c, e, _⟩ := ha; exact ⟨_, _, _, e⟩
  obtain ⟨ba, bm, bc, rfl⟩ : ∃ a m cap, vb = .slice a m cap := by obtain ⟨a, c, e, _⟩ := hb; exact ⟨_, _, _, e⟩
  have HN := hideP (new_ok 60 W1 (by decide) (by decide))
  clear ha hb hya hyb hm b01 s0
  unfold blk
  go_enter Try.func7, Try.ntmps7
  go_wp2_with fail
  refine HN.out.mono ?_
  rintro e w1 ⟨d, S, rfl, hd, hb1, hs⟩
  have HC := hideP (newK_ok d 60 3 w1 (by decide) (by decide) (by decide))
  have H1 : Hid (Dk S w1 d (DS.new 60) ∧ Below W1.heap.size W1 w1 ∧ ∀ k, S k → W1.heap.size ≤ k) := ⟨hd, hb1, hs⟩
  clear hd hb1 hs HN hW0 hW1
  go_wp2_with fail
  refine HC.out.mono ?_
  rintro e w2 ⟨c, X, rfl, hc, hb2, hx⟩
  have P2 : Hid (Pz W1 W1 w2 (fun _ => False) c d (CS.new 3) (DS.new 60)) := Pz.start H1.out.1 H1.out.2.1 H1.out.2.2 hc hb2 hx
  have QA2 : Hid (Bkv w2 w.heap.size ka (.slice aa am ac)) := QA.out.below P2.out.below0
  have RA2 : Hid (Rd .u8 w2 (.slice aa am ac) ya) := RA.out.below P2.out.below0
  have HP := hideP (putP P2.out 52 ka (.slice aa am ac) ya RA2.out HBY.out.1 (fun j hj h0 => .inl (RA.out.blk_lt h0 hj)))
  rw [(put_ok52 HBY.out.2.2).1, (put_ok52 HBY.out.2.2).2] at HP
  have q0 := QA2.out.c0
  have q1 := QA2.out.c1
  unfold blk at HP
  clear hc hb2 hx HC H1
  go_wp2_with fail
  refine HP.out.mono ?_
  rintro e w3 ⟨rfl, p3⟩
  have P3 := hideP p3
  clear p3 HP q0 q1 QA2 RA2 P2
  obtain ⟨s4, hs4⟩ : ∃ s4, (CS.new 3).lay 52 (ka, ya) = s4 := ⟨_, rfl⟩
  rw [hs4] at P3
  obtain ⟨w4, hw4⟩ : ∃ w4, w3 = w4 := ⟨_, rfl⟩
  rw [hw4] at P3 ⊢
  have P4 := P3
  clear P3 hs4
  have QB4 : Hid (Bkv w4 W0.heap.size kb (.slice ba bm bc)) := QB.out.below P4.out.below0
  have RB4 : Hid (Rd .u8 w4 (.slice ba bm bc) yb) := RB.out.below P4.out.below0
  have HP := hideP (putP P4.out 52 kb (.slice ba bm bc) yb RB4.out HBY.out.2.1 (fun j hj h0 => .inl (RB.out.blk_lt h0 hj)))
  rw [put_code52] at HP
  obtain ⟨yc, hyc⟩ : ∃ yc : Int, Hid ((if mayK 52 kb yb.length = true then (0 : Int) else 1) = yc) := ⟨_, rfl⟩
  rw [hyc.out] at HP
  have q0 := QB4.out.c0
  have q1 := QB4.out.c1
  unfold blk at HP
  go_wp2_with fail
  refine HP.out.mono ?_
  rintro e w5 ⟨rfl, p5⟩
  obtain ⟨s5, hs5⟩ : ∃ s5, s4.putS 60 52 kb yb = s5 := ⟨_, rfl⟩
  rw [hs5] at p5
  have P5 := hideP p5
  have HFO := hideP (forgetP p5 52 rfl)
  clear p5 HP q0 q1 QB4 RB4 P4 hs5
  go_wp2_with fail
  refine HFO.out.mono ?_
  rintro e w6 ⟨rfl, p6⟩
  have P6 := hideP p6
  have HG := hideP (getP p6 52)
  rw [(get_forgot p6.len).1, (get_forgot p6.len).2] at HG
  rw [new_has, zz_bad, show getB 52 zz = (0, []) by unfold getB; rw [if_neg (by rw [zz_bad]; decide)]] at HG
  clear p6 HFO P5
  go_wp2_with fail
  refine HG.out.mono ?_
  rintro e w7 ⟨u, rfl, hn7, p7, _⟩
  have P7 := hideP p7
  obtain ⟨ua, um, uc, rfl⟩ : ∃ a m cap, u = .slice a m cap := by obtain ⟨a, c, e, _⟩ := hn7.rd; exact ⟨_, _, _, e⟩
  obtain ⟨z, hz⟩ : ∃ z : Int, (0 : Int) = z := ⟨_, rfl⟩
  obtain ⟨W8, hW8⟩ : ∃ W8, w7.alloc (.cells #[.int .i64 0, .slice ua um uc] 40) = W8 := ⟨_, rfl⟩
  have b78 : Below w7.heap.size w7 W8 := by rw [← hW8]; exact (Below.refl _ _).alloc (Nat.le_refl _) _
  have B8 : Hid (Below W1.heap.size W1 W8) := P7.out.below0.trans (b78.mono P7.out.below0.size)
  have QB8 : Hid (Bkv W8 W0.heap.size kb (.slice ba bm bc)) := QB.out.below B8.out
  have HRP := hideP (refPutB_any 52 kb (.slice ba bm bc) yb W8 (RB.out.below B8.out) HBY.out.2.1)
  have y0 := QB8.out.c0
  have y1 := QB8.out.c1
  have HW8 : Hid (w7.alloc (.cells #[.int .i64 0, .slice ua um uc] 40) = W8) := hW8
  rw [hyc.out] at HRP
  unfold blk at HRP ⊢
  clear hn7 p7 HG b78 P6 P7 hyc hz
  go_wp2_with fail
  refine HRP.out.mono ?_
  rintro e w9 ⟨sa, sm, sc, rfl, hb9, _⟩
  have B9 : Hid (Below w.heap.size w w9) := B1.out.trans ((B8.out.trans (hb9.mono B8.out.size)).mono B1.out.size)
  clear HRP hb9 y0 y1 hW8 HW8
  go_wp2_with fail
  refine (HLV.out _).mono ?_
  rintro e wA ⟨rfl, hbA⟩
  have BA : Hid (Below w.heap.size w wA) := B9.out.trans (hbA.mono B9.out.size)
  clear hbA
  go_wp2_with fail
  go_ret
  exact ⟨rfl, BA.out⟩

set_option maxHeartbeats 1000000 in
theorem forgets_fb (ka kb : Int) (va vb : Value) (ya yb : List Int) (w : World) (ha : Rd .u8 w va ya) (hya : By ya) (hb : Rd .u8 w vb yb) (hyb : By yb) (hm : mayK 52 ka ya.length = false) :
    Calls Try.prog 7 #[blk ka va, blk kb vb, .bool false] w fun e w' => e = .returned (.bool true) ∧ Below w.heap.size w w' := by
  obtain ⟨W0, hW0⟩ : ∃ W0, w.alloc (.cells #[.int .i64 ka, va] 40) = W0 := ⟨_, rfl⟩
  obtain ⟨W1, hW1⟩ : ∃ W1, W0.alloc (.cells #[.int .i64 kb, vb] 40) = W1 := ⟨_, rfl⟩
  have s0 : W0.heap.size = w.heap.size + 1 := by rw [← hW0]; simp
  have b01 : Below W0.heap.size W0 W1 := by rw [← hW1]; exact (Below.refl _ _).alloc (Nat.le_refl _) _
  have B1 : Hid (Below w.heap.size w W1) := by rw [← hW1, ← hW0]; exact ((Below.refl _ _).alloc (Nat.le_refl _) _).alloc (by simp) _
  have QA : Hid (Bkv W1 w.heap.size ka va) := Bkv.below (w := W0) (by rw [← hW0]; exact bkv_new w _ _) b01
  have QB : Hid (Bkv W1 W0.heap.size kb vb) := by rw [← hW1]; exact bkv_new W0 _ _
  have RA : Hid (Rd .u8 W1 va ya) := ha.below B1.out
  have RB : Hid (Rd .u8 W1 vb yb) := hb.below B1.out
  have HBY : Hid (By ya ∧ By yb ∧ mayK 52 ka ya.length = false) := ⟨hya, hyb, hm⟩
  have HLV : Hid (∀ W, Calls Try.prog 18 #[] W fun e w' => e = .returned (.bool true) ∧ Below W.heap.size W w') := fun W => lives_anyK W
  obtain ⟨aa, am, ac, rfl⟩ : ∃ a m cap, va = .slice a m cap := by obtain ⟨a, c, e, _⟩ := ha; exact ⟨_, _, _, e⟩
  obtain ⟨ba, bm, bc, rfl⟩ : ∃ a m cap, vb = .slice a m cap := by obtain ⟨a, c, e, _⟩ := hb; exact ⟨_, _, _, e⟩
  have HN := hideP (new_ok 60 W1 (by decide) (by decide))
  clear ha hb hya hyb hm b01 s0
  unfold blk
  go_enter Try.func7, Try.ntmps7
  go_wp2_with fail
  refine HN.out.mono ?_
  rintro e w1 ⟨d, S, rfl, hd, hb1, hs⟩
  have HC := hideP (newK_ok d 60 3 w1 (by decide) (by decide) (by decide))
  have H1 : Hid (Dk S w1 d (DS.new 60) ∧ Below W1.heap.size W1 w1 ∧ ∀ k, S k → W1.heap.size ≤ k) := ⟨hd, hb1, hs⟩
  clear hd hb1 hs HN hW0 hW1
  go_wp2_with fail
  refine HC.out.mono ?_
  rintro e w2 ⟨c, X, rfl, hc, hb2, hx⟩
  have P2 : Hid (Pz W1 W1 w2 (fun _ => False) c d (CS.new 3) (DS.new 60)) := Pz.start H1.out.1 H1.out.2.1 H1.out.2.2 hc hb2 hx
  have QA2 : Hid (Bkv w2 w.heap.size ka (.slice aa am ac)) := QA.out.below P2.out.below0
  have RA2 : Hid (Rd .u8 w2 (.slice aa am ac) ya) := RA.out.below P2.out.below0
  have HP := hideP (putP P2.out 52 ka (.slice aa am ac) ya RA2.out HBY.out.1 (fun j hj h0 => .inl (RA.out.blk_lt h0 hj)))
  rw [(put_bad52 HBY.out.2.2).1, (put_bad52 HBY.out.2.2).2] at HP
  have q0 := QA2.out.c0
  have q1 := QA2.out.c1
  unfold blk at HP
  clear hc hb2 hx HC H1
  go_wp2_with fail
  refine HP.out.mono ?_
  rintro e w3 ⟨rfl, p3⟩
  have P3 := hideP p3
  clear p3 HP q0 q1 QA2 RA2 P2
  obtain ⟨s4, hs4⟩ : ∃ s4, CS.new 3 = s4 := ⟨_, rfl⟩
  rw [hs4] at P3
  obtain ⟨w4, hw4⟩ : ∃ w4, w3 = w4 := ⟨_, rfl⟩
  rw [hw4] at P3 ⊢
  have P4 := P3
  clear P3 hs4
  have QB4 : Hid (Bkv w4 W0.heap.size kb (.slice ba bm bc)) := QB.out.below P4.out.below0
  have RB4 : Hid (Rd .u8 w4 (.slice ba bm bc) yb) := RB.out.below P4.out.below0
  have HP := hideP (putP P4.out 52 kb (.slice ba bm bc) yb RB4.out HBY.out.2.1 (fun j hj h0 => .inl (RB.out.blk_lt h0 hj)))
  rw [put_code52] at HP
  obtain ⟨yc, hyc⟩ : ∃ yc : Int, Hid ((if mayK 52 kb yb.length = true then (0 : Int) else 1) = yc) := ⟨_, rfl⟩
  rw [hyc.out] at HP
  have q0 := QB4.out.c0
  have q1 := QB4.out.c1
  unfold blk at HP
  go_wp2_with fail
  refine HP.out.mono ?_
  rintro e w5 ⟨rfl, p5⟩
  obtain ⟨s5, hs5⟩ : ∃ s5, s4.putS 60 52 kb yb = s5 := ⟨_, rfl⟩
  rw [hs5] at p5
  have P5 := hideP p5
  have HFO := hideP (forgetP p5 52 rfl)
  clear p5 HP q0 q1 QB4 RB4 P4 hs5
  go_wp2_with fail
  refine HFO.out.mono ?_
  rintro e w6 ⟨rfl, p6⟩
  have P6 := hideP p6
  have HG := hideP (getP p6 52)
  rw [(get_forgot p6.len).1, (get_forgot p6.len).2] at HG
  rw [new_has, zz_bad, show getB 52 zz = (0, []) by unfold getB; rw [if_neg (by rw [zz_bad]; decide)]] at HG
  clear p6 HFO P5
  go_wp2_with fail
  refine HG.out.mono ?_
  rintro e w7 ⟨u, rfl, hn7, p7, _⟩
  have P7 := hideP p7
  obtain ⟨ua, um, uc, rfl⟩ : ∃ a m cap, u = .slice a m cap := by obtain ⟨a, c, e, _⟩ := hn7.rd; exact ⟨_, _, _, e⟩
  obtain ⟨z, hz⟩ : ∃ z : Int, (0 : Int) = z := ⟨_, rfl⟩
  obtain ⟨W8, hW8⟩ : ∃ W8, w7.alloc (.cells #[.int .i64 0, .slice ua um uc] 40) = W8 := ⟨_, rfl⟩
  have b78 : Below w7.heap.size w7 W8 := by rw [← hW8]; exact (Below.refl _ _).alloc (Nat.le_refl _) _
  have B8 : Hid (Below W1.heap.size W1 W8) := P7.out.below0.trans (b78.mono P7.out.below0.size)
  have QB8 : Hid (Bkv W8 W0.heap.size kb (.slice ba bm bc)) := QB.out.below B8.out
  have HRP := hideP (refPutB_any 52 kb (.slice ba bm bc) yb W8 (RB.out.below B8.out) HBY.out.2.1)
  have y0 := QB8.out.c0
  have y1 := QB8.out.c1
  have HW8 : Hid (w7.alloc (.cells #[.int .i64 0, .slice ua um uc] 40) = W8) := hW8
  rw [hyc.out] at HRP
  unfold blk at HRP ⊢
  clear hn7 p7 HG b78 P6 P7 hyc hz
  go_wp2_with fail
  refine HRP.out.mono ?_
  rintro e w9 ⟨sa, sm, sc, rfl, hb9, _⟩
  have B9 : Hid (Below w.heap.size w w9) := B1.out.trans ((B8.out.trans (hb9.mono B8.out.size)).mono B1.out.size)
  clear HRP hb9 y0 y1 hW8 HW8
  go_wp2_with fail
  refine (HLV.out _).mono ?_
  rintro e wA ⟨rfl, hbA⟩
  have BA : Hid (Below w.heap.size w wA) := B9.out.trans (hbA.mono B9.out.size)
  clear hbA
  go_wp2_with fail
  go_ret
  exact ⟨rfl, BA.out⟩

set_option maxHeartbeats 1000000 in
theorem forgets_tb (ka kb : Int) (va vb : Value) (ya yb : List Int) (w : World) (ha : Rd .u8 w va ya) (hya : By ya) (hb : Rd .u8 w vb yb) (hyb : By yb) (hm : mayK 52 ka ya.length = false) :
    Calls Try.prog 7 #[blk ka va, blk kb vb, .bool true] w fun e w' => e = .returned (.bool true) ∧ Below w.heap.size w w' := by
  obtain ⟨W0, hW0⟩ : ∃ W0, w.alloc (.cells #[.int .i64 ka, va] 40) = W0 := ⟨_, rfl⟩
  obtain ⟨W1, hW1⟩ : ∃ W1, W0.alloc (.cells #[.int .i64 kb, vb] 40) = W1 := ⟨_, rfl⟩
  have s0 : W0.heap.size = w.heap.size + 1 := by rw [← hW0]; simp
  have b01 : Below W0.heap.size W0 W1 := by rw [← hW1]; exact (Below.refl _ _).alloc (Nat.le_refl _) _
  have B1 : Hid (Below w.heap.size w W1) := by rw [← hW1, ← hW0]; exact ((Below.refl _ _).alloc (Nat.le_refl _) _).alloc (by simp) _
  have QA : Hid (Bkv W1 w.heap.size ka va) := Bkv.below (w := W0) (by rw [← hW0]; exact bkv_new w _ _) b01
  have QB : Hid (Bkv W1 W0.heap.size kb vb) := by rw [← hW1]; exact bkv_new W0 _ _
  have RA : Hid (Rd .u8 W1 va ya) := ha.below B1.out
  have RB : Hid (Rd .u8 W1 vb yb) := hb.below B1.out
  have HBY : Hid (By ya ∧ By yb ∧ mayK 52 ka ya.length = false) := ⟨hya, hyb, hm⟩
  have HLV : Hid (∀ W, Calls Try.prog 18 #[] W fun e w' => e = .returned (.bool true) ∧ Below W.heap.size W w') := fun W => lives_anyK W
  obtain ⟨aa, am, ac, rfl⟩ : ∃ a m cap, va = .slice a m cap := by obtain ⟨a, c, e, _⟩ := ha; exact ⟨_, _, _, e⟩
  obtain ⟨ba, bm, bc, rfl⟩ : ∃ a m cap, vb = .slice a m cap := by obtain ⟨a, c, e, _⟩ := hb; exact ⟨_, _, _, e⟩
  have HN := hideP (new_ok 60 W1 (by decide) (by decide))
  clear ha hb hya hyb hm b01 s0
  unfold blk
  go_enter Try.func7, Try.ntmps7
  go_wp2_with fail
  refine HN.out.mono ?_
  rintro e w1 ⟨d, S, rfl, hd, hb1, hs⟩
  have HC := hideP (newK_ok d 60 3 w1 (by decide) (by decide) (by decide))
  have H1 : Hid (Dk S w1 d (DS.new 60) ∧ Below W1.heap.size W1 w1 ∧ ∀ k, S k → W1.heap.size ≤ k) := ⟨hd, hb1, hs⟩
  clear hd hb1 hs HN hW0 hW1
  go_wp2_with fail
  refine HC.out.mono ?_
  rintro e w2 ⟨c, X, rfl, hc, hb2, hx⟩
  have P2 : Hid (Pz W1 W1 w2 (fun _ => False) c d (CS.new 3) (DS.new 60)) := Pz.start H1.out.1 H1.out.2.1 H1.out.2.2 hc hb2 hx
  have QA2 : Hid (Bkv w2 w.heap.size ka (.slice aa am ac)) := QA.out.below P2.out.below0
  have RA2 : Hid (Rd .u8 w2 (.slice aa am ac) ya) := RA.out.below P2.out.below0
  have HP := hideP (putP P2.out 52 ka (.slice aa am ac) ya RA2.out HBY.out.1 (fun j hj h0 => .inl (RA.out.blk_lt h0 hj)))
  rw [(put_bad52 HBY.out.2.2).1, (put_bad52 HBY.out.2.2).2] at HP
  have q0 := QA2.out.c0
  have q1 := QA2.out.c1
  unfold blk at HP
  clear hc hb2 hx HC H1
  go_wp2_with fail
  refine HP.out.mono ?_
  rintro e w3 ⟨rfl, p3⟩
  have P3 := hideP p3
  clear p3 HP q0 q1 QA2 RA2 P2
  have HF := hideP (flushP P3.out (fun i => by show 0 + 4096 < _; omega))
  rw [flush_none.2] at HF
  go_wp2_with fail
  refine HF.out.mono ?_
  rintro e w4 ⟨rfl, p4⟩
  obtain ⟨s4, hs4⟩ : ∃ s4, (CS.new 3).flush = s4 := ⟨_, rfl⟩
  rw [hs4] at p4
  have P4 := hideP p4
  clear p4 HF P3 hs4
  have QB4 : Hid (Bkv w4 W0.heap.size kb (.slice ba bm bc)) := QB.out.below P4.out.below0
  have RB4 : Hid (Rd .u8 w4 (.slice ba bm bc) yb) := RB.out.below P4.out.below0
  have HP := hideP (putP P4.out 52 kb (.slice ba bm bc) yb RB4.out HBY.out.2.1 (fun j hj h0 => .inl (RB.out.blk_lt h0 hj)))
  rw [put_code52] at HP
  obtain ⟨yc, hyc⟩ : ∃ yc : Int, Hid ((if mayK 52 kb yb.length = true then (0 : Int) else 1) = yc) := ⟨_, rfl⟩
  rw [hyc.out] at HP
  have q0 := QB4.out.c0
  have q1 := QB4.out.c1
  unfold blk at HP
  go_wp2_with fail
  refine HP.out.mono ?_
  rintro e w5 ⟨rfl, p5⟩
  obtain ⟨s5, hs5⟩ : ∃ s5, s4.putS 60 52 kb yb = s5 := ⟨_, rfl⟩
  rw [hs5] at p5
  have P5 := hideP p5
  have HFO := hideP (forgetP p5 52 rfl)
  clear p5 HP q0 q1 QB4 RB4 P4 hs5
  go_wp2_with fail
  refine HFO.out.mono ?_
  rintro e w6 ⟨rfl, p6⟩
  have P6 := hideP p6
  have HG := hideP (getP p6 52)
  rw [(get_forgot p6.len).1, (get_forgot p6.len).2] at HG
  rw [new_has, zz_bad, show getB 52 zz = (0, []) by unfold getB; rw [if_neg (by rw [zz_bad]; decide)]] at HG
  clear p6 HFO P5
  go_wp2_with fail
  refine HG.out.mono ?_
  rintro e w7 ⟨u, rfl, hn7, p7, _⟩
  have P7 := hideP p7
  obtain ⟨ua, um, uc, rfl⟩ : ∃ a m cap, u = .slice a m cap := by obtain ⟨a, c, e, _⟩ := hn7.rd; exact ⟨_, _, _, e⟩
  obtain ⟨z, hz⟩ : ∃ z : Int, (0 : Int) = z := ⟨_, rfl⟩
  obtain ⟨W8, hW8⟩ : ∃ W8, w7.alloc (.cells #[.int .i64 0, .slice ua um uc] 40) = W8 := ⟨_, rfl⟩
  have b78 : Below w7.heap.size w7 W8 := by rw [← hW8]; exact (Below.refl _ _).alloc (Nat.le_refl _) _
  have B8 : Hid (Below W1.heap.size W1 W8) := P7.out.below0.trans (b78.mono P7.out.below0.size)
  have QB8 : Hid (Bkv W8 W0.heap.size kb (.slice ba bm bc)) := QB.out.below B8.out
  have HRP := hideP (refPutB_any 52 kb (.slice ba bm bc) yb W8 (RB.out.below B8.out) HBY.out.2.1)
  have y0 := QB8.out.c0
  have y1 := QB8.out.c1
  have HW8 : Hid (w7.alloc (.cells #[.int .i64 0, .slice ua um uc] 40) = W8) := hW8
  rw [hyc.out] at HRP
  unfold blk at HRP ⊢
  clear hn7 p7 HG b78 P6 P7 hyc hz
  go_wp2_with fail
  refine HRP.out.mono ?_
  rintro e w9 ⟨sa, sm, sc, rfl, hb9, _⟩
  have B9 : Hid (Below w.heap.size w w9) := B1.out.trans ((B8.out.trans (hb9.mono B8.out.size)).mono B1.out.size)
  clear HRP hb9 y0 y1 hW8 HW8
  go_wp2_with fail
  refine (HLV.out _).mono ?_
  rintro e wA ⟨rfl, hbA⟩
  have BA : Hid (Below w.heap.size w wA) := B9.out.trans (hbA.mono B9.out.size)
  clear hbA
  go_wp2_with fail
  go_ret
  exact ⟨rfl, BA.out⟩

set_option maxHeartbeats 1000000 in
theorem forgets_tf (ka kb : Int) (va vb : Value) (ya yb : List Int) (w : World) (ha : Rd .u8 w va ya) (hya : By ya) (hb : Rd .u8 w vb yb) (hyb : By yb) (hm : mayK 52 ka ya.length = true) :
    Calls Try.prog 7 #[blk ka va, blk kb vb, .bool true] w fun e w' => e = .returned (.bool true) ∧ Below w.heap.size w w' := by
  obtain ⟨W0, hW0⟩ : ∃ W0, w.alloc (.cells #[.int .i64 ka, va] 40) = W0 := ⟨_, rfl⟩
  obtain ⟨W1, hW1⟩ : ∃ W1, W0.alloc (.cells #[.int .i64 kb, vb] 40) = W1 := ⟨_, rfl⟩
  have s0 : W0.heap.size = w.heap.size + 1 := by rw [← hW0]; simp
  have b01 : Below W0.heap.size W0 W1 := by rw [← hW1]; exact (Below.refl _ _).alloc (Nat.le_refl _) _
  have B1 : Hid (Below w.heap.size w W1) := by rw [← hW1, ← hW0]; exact ((Below.refl _ _).alloc (Nat.le_refl _) _).alloc (by simp) _
  have QA : Hid (Bkv W1 w.heap.size ka va) := Bkv.below (w := W0) (by rw [← hW0]; exact bkv_new w _ _) b01
  have QB : Hid (Bkv W1 W0.heap.size kb vb) := by rw [← hW1]; exact bkv_new W0 _ _
  have RA : Hid (Rd .u8 W1 va ya) := ha.below B1.out
  have RB : Hid (Rd .u8 W1 vb yb) := hb.below B1.out
  have HBY : Hid (By ya ∧ By yb ∧ mayK 52 ka ya.length = true) := ⟨hya, hyb, hm⟩
  have HLV : Hid (∀ W, Calls Try.prog 18 #[] W fun e w' => e = .returned (.bool true) ∧ Below W.heap.size W w') := fun W => lives_anyK W
  obtain ⟨aa, am, ac, rfl⟩ : ∃ a m cap, va = .slice a m cap := by obtain ⟨a, c, e, _⟩ := ha; exact ⟨_, _, _, e⟩
  obtain ⟨ba, bm, bc, rfl⟩ : ∃ a m cap, vb = .slice a m cap := by obtain ⟨a, c, e, _⟩ := hb; exact ⟨_, _, _, e⟩
  have HN := hideP (new_ok 60 W1 (by decide) (by decide))
  clear ha hb hya hyb hm b01 s0
  unfold blk
  go_enter Try.func7, Try.ntmps7
  go_wp2_with fail
  refine HN.out.mono ?_
  rintro e w1 ⟨d, S, rfl, hd, hb1, hs⟩
  have HC := hideP (newK_ok d 60 3 w1 (by decide) (by decide) (by decide))
  have H1 : Hid (Dk S w1 d (DS.new 60) ∧ Below W1.heap.size W1 w1 ∧ ∀ k, S k → W1.heap.size ≤ k) := ⟨hd, hb1, hs⟩
  clear hd hb1 hs HN hW0 hW1
  go_wp2_with fail
  refine HC.out.mono ?_
  rintro e w2 ⟨c, X, rfl, hc, hb2, hx⟩
  have P2 : Hid (Pz W1 W1 w2 (fun _ => False) c d (CS.new 3) (DS.new 60)) := Pz.start H1.out.1 H1.out.2.1 H1.out.2.2 hc hb2 hx
  have QA2 : Hid (Bkv w2 w.heap.size ka (.slice aa am ac)) := QA.out.below P2.out.below0
  have RA2 : Hid (Rd .u8 w2 (.slice aa am ac) ya) := RA.out.below P2.out.below0
  have HP := hideP (putP P2.out 52 ka (.slice aa am ac) ya RA2.out HBY.out.1 (fun j hj h0 => .inl (RA.out.blk_lt h0 hj)))
  rw [(put_ok52 HBY.out.2.2).1, (put_ok52 HBY.out.2.2).2] at HP
  have q0 := QA2.out.c0
  have q1 := QA2.out.c1
  unfold blk at HP
  clear hc hb2 hx HC H1
  go_wp2_with fail
  refine HP.out.mono ?_
  rintro e w3 ⟨rfl, p3⟩
  have P3 := hideP p3
  clear p3 HP q0 q1 QA2 RA2 P2
  have HF := hideP (flushP P3.out (fun i => by show 0 + 4096 < _; omega))
  rw [flush_one] at HF
  go_wp2_with fail
  refine HF.out.mono ?_
  rintro e w4 ⟨rfl, p4⟩
  obtain ⟨s4, hs4⟩ : ∃ s4, ((CS.new 3).lay 52 (ka, ya)).flush = s4 := ⟨_, rfl⟩
  rw [hs4] at p4
  have P4 := hideP p4
  clear p4 HF P3 hs4
  have QB4 : Hid (Bkv w4 W0.heap.size kb (.slice ba bm bc)) := QB.out.below P4.out.below0
  have RB4 : Hid (Rd .u8 w4 (.slice ba bm bc) yb) := RB.out.below P4.out.below0
  have HP := hideP (putP P4.out 52 kb (.slice ba bm bc) yb RB4.out HBY.out.2.1 (fun j hj h0 => .inl (RB.out.blk_lt h0 hj)))
  rw [put_code52] at HP
  obtain ⟨yc, hyc⟩ : ∃ yc : Int, Hid ((if mayK 52 kb yb.length = true then (0 : Int) else 1) = yc) := ⟨_, rfl⟩
  rw [hyc.out] at HP
  have q0 := QB4.out.c0
  have q1 := QB4.out.c1
  unfold blk at HP
  go_wp2_with fail
  refine HP.out.mono ?_
  rintro e w5 ⟨rfl, p5⟩
  obtain ⟨s5, hs5⟩ : ∃ s5, s4.putS 60 52 kb yb = s5 := ⟨_, rfl⟩
  rw [hs5] at p5
  have P5 := hideP p5
  have HFO := hideP (forgetP p5 52 rfl)
  clear p5 HP q0 q1 QB4 RB4 P4 hs5
  go_wp2_with fail
  refine HFO.out.mono ?_
  rintro e w6 ⟨rfl, p6⟩
  have P6 := hideP p6
  have HG := hideP (getP p6 52)
  rw [(get_forgot p6.len).1, (get_forgot p6.len).2] at HG
  rw [wr_has_new, (getE_put HBY.out.2.2).1, (getE_put HBY.out.2.2).2] at HG
  clear p6 HFO P5
  go_wp2_with fail
  refine HG.out.mono ?_
  rintro e w7 ⟨u, rfl, hn7, p7, _⟩
  have P7 := hideP p7
  have hr7 : Rd .u8 w7 u ya := hn7.rd
  obtain ⟨ua, um, uc, rfl⟩ : ∃ a m cap, u = .slice a m cap := by obtain ⟨a, c, e, _⟩ := hr7; exact ⟨_, _, _, e⟩
  obtain ⟨W8, hW8⟩ : ∃ W8, w7.alloc (.cells #[.int .i64 ka, .slice ua um uc] 40) = W8 := ⟨_, rfl⟩
  have b78 : Below w7.heap.size w7 W8 := by rw [← hW8]; exact (Below.refl _ _).alloc (Nat.le_refl _) _
  have Q8 : Hid (Bkv W8 w7.heap.size ka (.slice ua um uc)) := by rw [← hW8]; exact bkv_new w7 _ _
  have B8 : Hid (Below W1.heap.size W1 W8) := P7.out.below0.trans (b78.mono P7.out.below0.size)
  have QA8 : Hid (Bkv W8 w.heap.size ka (.slice aa am ac)) := QA.out.below B8.out
  have HSM := hideP (same2_any ka ka (.slice ua um uc) (.slice aa am ac) ya ya W8 (hr7.below b78) (RA.out.below B8.out))
  have z0 := Q8.out.c0
  have z1 := Q8.out.c1
  have y0 := QA8.out.c0
  have y1 := QA8.out.c1
  rw [decide_eq_true (rfl : ka = ka), decide_eq_true (rfl : ya = ya)] at HSM
  unfold blk at HSM ⊢
  clear hn7 p7 HG hr7 b78 P6 P7
  go_wp2_with fail
  refine HSM.out.mono ?_
  rintro e w9 ⟨rfl, hb9⟩
  have B9 : Hid (Below w.heap.size w w9) := B1.out.trans ((B8.out.trans (hb9.mono B8.out.size)).mono B1.out.size)
  clear HSM hb9 z0 z1 y0 y1 hW8
  go_wp2_with fail
  refine (HLV.out _).mono ?_
  rintro e wA ⟨rfl, hbA⟩
  have BA : Hid (Below w.heap.size w wA) := B9.out.trans (hbA.mono B9.out.size)
  clear hbA
  go_wp2_with fail
  go_ret
  exact ⟨rfl, BA.out⟩

theorem cacheForgets_walk (ka kb : Int) (va vb : Value) (ya yb : List Int) (fl : Bool) (w : World) (ha : Rd .u8 w va ya) (hya : By ya) (hb : Rd .u8 w vb yb) (hyb : By yb) :
    Calls Try.prog 7 #[blk ka va, blk kb vb, .bool fl] w fun e w' => e = .returned (.bool true) ∧ Below w.heap.size w w' := by
  cases hm : mayK 52 ka ya.length with
  | true =>
    cases fl with
    | true => exact forgets_tf ka kb va vb ya yb w ha hya hb hyb hm
    | false => exact forgets_ff ka kb va vb ya yb w ha hya hb hyb hm
  | false =>
    cases fl with
    | true => exact forgets_tb ka kb va vb ya yb w ha hya hb hyb hm
    | false => exact forgets_fb ka kb va vb ya yb w ha hya hb hyb hm
end Go.Proofs.Ytgpaklifjonlkaa
