import Derived.Test.YtgpaklifjonlkaaKP26
import Derived.Test.YtgpaklifjonlkaaKP28
import Derived.Lib.SlBytesConst
import Derived.Laws.BytesArg
/-
  The laws' example holds.
-/
namespace Go.Proofs.Ytgpaklifjonlkaa
open Go.RowKit Go.Maps
set_option linter.unusedVariables false
set_option linter.unusedSimpArgs false
set_option maxRecDepth 100000

/-- A literal's row, marked behind its last cell. -/
theorem rd_litK (w : World) (xs : List Int) (fz : Nat × Nat) (hm : xs.length ≤ maxLen) : Rd .u8 (w.alloc (.cells (xs.map (Value.int .u8)).toArray 5 fz)) (.slice (some ⟨w.heap.size, 0, none⟩) xs.length xs.length) xs := by
  refine ⟨_, xs.length, rfl, Nat.le_refl _, hm, fun e => (by cases e), .inr ⟨w.heap.size, 0, rfl, fun i hi => ?_⟩⟩
  have h : (w.alloc (.cells (xs.map (Value.int .u8)).toArray 5 fz)).heap[w.heap.size]? = some (.cells (xs.map (Value.int .u8)).toArray 5 fz) := heap_alloc_new w _
  rw [Nat.zero_add, cell_of_row _ _ i _ _ fz h]
  simp [List.getD_eq_getElem?_getD, hi]
def exA : List Int := [97]
theorem byA : By exA := by_of_memB (by decide)
theorem mayA : mayK 52 3 exA.length = true := by decide
def exS : CS := (CS.new 2).putS 60 52 3 exA
theorem exS_d : exS.d = [52] := rfl
theorem exS_B : exS.B 52 = (3, exA) := rfl
theorem exPutE : (CS.new 2).putE 60 52 3 exA = 0 := rfl
theorem newLen : (DS.new 60).L.length = 60 := by unfold DS.new; exact List.length_replicate
theorem exThere : kthere (DS.new 60).L.length 52 = true := by rw [newLen]; rfl
theorem exGetE : exS.getE (DS.new 60) 52 = 0 := by unfold CS.getE; rw [exThere, if_pos rfl, if_pos (.inl (by rw [exS_d]; simp))]
theorem exGetB : exS.getB (DS.new 60) 52 = (3, exA) := by unfold CS.getB; rw [exThere, if_pos rfl, if_pos (.inl (by rw [exS_d]; simp))]; rfl
theorem exGetS : exS.getS (DS.new 60) 52 = exS := by unfold CS.getS; rw [if_neg (fun e => e.2 (by rw [exS_d]; simp))]
theorem exFl : exS.flushD (DS.new 60) = (DS.new 60).wr 52 (sec 52 3 exA) := rfl
theorem exHas : (exS.flushD (DS.new 60)).has 52 = sec 52 3 exA := by
  rw [exFl]
  have e : (DS.new 60).wr 52 (sec 52 3 exA) = { (DS.new 60).tick with V := vput (DS.new 60).V 52 ((DS.new 60).V 52 ++ [sec 52 3 exA]) } := by
    unfold DS.wr
    exact if_pos rfl
  rw [e]
  show (vput (DS.new 60).V 52 ((DS.new 60).V 52 ++ [sec 52 3 exA]) 52).getLastD _ = _
  unfold vput
  rw [if_pos rfl]
  rfl
theorem shapeA {w : World} {u : Value} (h : Rd .u8 w u exA) : ∃ b o cap, u = .slice (some ⟨b, o, none⟩) 1 cap ∧ (∀ i, i < 1 → w.cell? ⟨b, o + i, none⟩ = some (.int .u8 (exA.getD i 0))) := by
  obtain ⟨a, cap, rfl, h1, h2, h3, h4⟩ := h
  rcases h4 with e | ⟨b, o, rfl, hc⟩
  · cases e
  · exact ⟨b, o, cap, rfl, hc⟩

set_option maxHeartbeats 1000000 in
theorem lives_anyK (w : World) : Calls Try.prog 18 #[] w fun e w' => e = .returned (.bool true) ∧ Below w.heap.size w w' := by
  have kc := fun (w : World) (C : Array Value) (n c : Nat) => Lib.run_convert_bytes_const (P := Try.prog) w 38 5 C n c Try.underlying38 Try.underlying5
  have HN := hideP (new_ok 60 w (by decide) (by decide))
  go_enter Try.func18, Try.ntmps18
  go_wp2_with fail
  refine HN.out.mono ?_
  rintro e w1 ⟨d, S, rfl, hd, hb1, hs⟩
  have HC := hideP (newK_ok d 60 2 w1 (by decide) (by decide) (by decide))
  have H1 : Hid (Dk S w1 d (DS.new 60) ∧ Below w.heap.size w w1 ∧ ∀ k, S k → w.heap.size ≤ k) := ⟨hd, hb1, hs⟩
  clear hd hb1 hs HN
  go_wp2_with fail
  refine HC.out.mono ?_
  rintro e w2 ⟨c, X, rfl, hc, hb2, hx⟩
  have P2 : Hid (Pz w w w2 (fun _ => False) c d (CS.new 2) (DS.new 60)) := Pz.start H1.out.1 H1.out.2.1 H1.out.2.2 hc hb2 hx
  clear hc hb2 hx HC H1
  go_wp2_with fail
  obtain ⟨W3, hW3⟩ : ∃ W3, (w2.alloc (.cells #[.int .u8 97] 5 (1, 2))).alloc (.cells #[.int .i64 3, .slice (some ⟨w2.heap.size, 0, none⟩) 1 1] 40) = W3 := ⟨_, rfl⟩
  have b23 : Below w2.heap.size w2 W3 := by rw [← hW3]; exact ((Below.refl _ _).alloc (Nat.le_refl _) _).alloc (by simp) _
  have R3 : Rd .u8 W3 (.slice (some ⟨w2.heap.size, 0, none⟩) 1 1) exA := by
    rw [← hW3]
    exact (rd_litK w2 exA (1, 2) (by unfold maxLen; decide)).below ((Below.refl _ _).alloc (Nat.le_refl _) _)
  have P3 := P2.out.enter b23 (fun k => k = w2.heap.size) (fun k hk => by rw [hk]; exact ⟨Nat.le_refl _, by rw [← hW3]; simp; omega⟩)
  rw [hW3]
  have HPU := hideP (putP P3 52 3 (.slice (some ⟨w2.heap.size, 0, none⟩) 1 1) exA R3 byA (fun j hj h0 => by cases hj; exact .inr (.inr rfl)))
  rw [exPutE] at HPU
  unfold blk at HPU
  clear hW3 b23 R3 P3 kc
  refine HPU.out.mono ?_
  rintro e w4 ⟨rfl, h4⟩
  have P4 : Hid (Pz w w w4 (fun _ => False) c d exS (DS.new 60)) := h4.leave
  have HG := hideP (getP P4.out 52)
  rw [exGetE, exGetB, exGetS] at HG
  clear h4 HPU P2
  go_wp2_with fail
  refine HG.out.mono ?_
  rintro e w5 ⟨u, rfl, hn5, _, h5⟩
  obtain ⟨ub, uo, uc, rfl, hu⟩ := shapeA hn5.rd
  obtain ⟨W6, hW6⟩ : ∃ W6, w5.alloc (.cells #[.int .i64 3, .slice (some ⟨ub, uo, none⟩) 1 uc] 40) = W6 := ⟨_, rfl⟩
  have b56 : Below w5.heap.size w5 W6 := by rw [← hW6]; exact (Below.refl _ _).alloc (Nat.le_refl _) _
  have P6 : Hid (Pz w W6 W6 (fun k => (False ∨ (some ub = some k ∧ exA ≠ [])) ∨ k = w5.heap.size) c d exS (DS.new 60)) := h5.enter b56 (fun k => k = w5.heap.size) (fun k hk => by rw [hk]; exact ⟨Nat.le_refl _, by rw [← hW6]; simp⟩)
  have Q6 : Hid (Bkv W6 w5.heap.size 3 (.slice (some ⟨ub, uo, none⟩) 1 uc)) := by rw [← hW6]; exact bkv_new w5 _ _
  have U6 : Hid (Rd .u8 W6 (.slice (some ⟨ub, uo, none⟩) 1 uc) exA) := hn5.rd.below b56
  have HF := hideP (flushP P6.out (fun i => by show 0 + 4096 < _; omega))
  clear hn5 h5 hu b56 HG P4
  unfold blk
  go_wp2_with fail
  refine HF.out.mono ?_
  rintro e w7 ⟨rfl, h7⟩
  have k1 := h7.keep (k := w5.heap.size) (.inr rfl)
  have k2 := h7.keep (k := ub) (.inl (.inr ⟨rfl, by decide⟩))
  have P7 : Hid (Pz w w w7 (fun _ => False) c d exS.flush (exS.flushD (DS.new 60))) := h7.leave
  have Q7 : Hid (Bkv w7 w5.heap.size 3 (.slice (some ⟨ub, uo, none⟩) 1 uc)) := by unfold Bkv; rw [k1]; exact Q6.out
  have U7 : Hid (Rd .u8 w7 (.slice (some ⟨ub, uo, none⟩) 1 uc) exA) := by
    obtain ⟨b, o, cap, e, hc⟩ := shapeA U6.out
    cases e
    exact ⟨_, uc, rfl, by obtain ⟨_, _, e, h, _⟩ := U6.out; cases e; exact h, by obtain ⟨_, _, e, _, h, _⟩ := U6.out; cases e; exact h, (fun e => by cases e), .inr ⟨ub, uo, rfl, fun i hi => by rw [World.cell?_of_block (w := W6) (a := ⟨ub, uo + i, none⟩) k2]; exact hc i hi⟩⟩
  have HR := hideP (readP P7.out 52 (by decide))
  rw [exHas] at HR
  have HB : Hid (By (sec 52 3 exA)) := by have := (P7.out.has_ok (i := 52) (by decide)).2; rw [exHas] at this; exact this
  clear h7 k1 k2 HF P6 Q6 U6 hW6
  go_wp2_with fail
  refine HR.out.mono ?_
  rintro e w8 ⟨sv, rfl, hs8, hb8, p8⟩
  have Q8 : Hid (Bkv w8 w5.heap.size 3 (.slice (some ⟨ub, uo, none⟩) 1 uc)) := Q7.out.below hb8
  have U8 : Hid (Rd .u8 w8 (.slice (some ⟨ub, uo, none⟩) 1 uc) exA) := U7.out.below hb8
  have P8 := hideP p8
  have HG := hideP (refGet_any 52 sv (sec 52 3 exA) w8 hs8 HB.out)
  obtain ⟨va, vm, vc, rfl⟩ : ∃ a m cap, sv = .slice a m cap := by obtain ⟨a, c, e, _⟩ := hs8; exact ⟨_, _, _, e⟩
  clear hs8 hb8 p8 HR Q7 U7 P7
  go_wp2_with fail
  refine HG.out.mono ?_
  rintro e w9 ⟨zv, rfl, rz, b9, _⟩
  have eg := getE_put mayA
  rw [eg.1, eg.2]
  rw [eg.2] at rz
  obtain ⟨zb, zo, zc, rfl, hz⟩ := shapeA rz
  obtain ⟨WA, hWA⟩ : ∃ WA, w9.alloc (.cells #[.int .i64 3, .slice (some ⟨zb, zo, none⟩) 1 zc] 40) = WA := ⟨_, rfl⟩
  have b9A : Below w9.heap.size w9 WA := by rw [← hWA]; exact (Below.refl _ _).alloc (Nat.le_refl _) _
  have b8A : Below w8.heap.size w8 WA := b9.trans (b9A.mono b9.size)
  have QA : Hid (Bkv WA w9.heap.size 3 (.slice (some ⟨zb, zo, none⟩) 1 zc)) := by rw [← hWA]; exact bkv_new w9 _ _
  have QU : Hid (Bkv WA w5.heap.size 3 (.slice (some ⟨ub, uo, none⟩) 1 uc)) := Q8.out.below b8A
  obtain ⟨_, _, _, eu, hcu⟩ := shapeA (U8.out.below b8A)
  cases eu
  obtain ⟨_, _, _, ez, hcz⟩ := shapeA (rz.below b9A)
  cases ez
  have kd1 := run_convert_bytes_arg (P := Try.prog) WA 38 5 Try.underlying38 Try.underlying5 ub uo 1 uc exA rfl hcu 9 Try.underlying9
  have kd2 := run_convert_bytes_arg (P := Try.prog) WA 38 5 Try.underlying38 Try.underlying5 zb zo 1 zc exA rfl hcz 9 Try.underlying9
  have hst : strOfNums exA = ⟨#[97]⟩ := by decide
  rw [hst] at kd1 kd2
  have B9 : Hid (Below w.heap.size w WA) := P8.out.below0.trans (b8A.mono P8.out.below0.size)
  have u1 := QU.out.c1
  have z1 := QA.out.c1
  clear hst eg rz b9 hz b9A b8A hcu hcz HG Q8 U8 P8
  unfold blk
  go_wp2_with fail
  go_ret
  exact ⟨rfl, B9.out⟩
end Go.Proofs.Ytgpaklifjonlkaa
