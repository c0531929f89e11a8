/-
  The document's example of layer 10 holds.
-/
import Derived.Test.YtdicgaepggffbaaUGet
import Derived.Test.YtdicgaepggffbaaURSame
namespace Go.Proofs.Ytdicgaepggffbaa
open Go.RowKit Pl
set_option linter.unusedVariables false
set_option linter.unusedSimpArgs false
set_option maxRecDepth 100000

def vnOne : Vn := ⟨1, 0, 1, false⟩
def spOne : Sp := ⟨1, 128, 2, [vnOne]⟩
theorem mayOne : mayU spOne = true := by decide

/-- A superblock is told, in new memory. -/
def SupR (s : Sp) (w : World) (e : Ending) (w' : World) : Prop := ∃ a c, e = .returned (supv s (.slice a s.vs.length c)) ∧ RdV w' (.slice a s.vs.length c) s.vs ∧ Below w.heap.size w w' ∧ ∀ j, (Value.slice a s.vs.length c).ownBlock = some j → w.heap.size ≤ j

theorem rdV_one (w : World) (x : Vn) : RdV (w.alloc (.cells #[.int .i64 x.id, .int .i64 x.root, .int .i64 x.nx, .bool x.fx] 66)) (.slice (some ⟨w.heap.size, 0, none⟩) 1 1) [x] :=
  ⟨_, 1, rfl, Nat.le_refl _, by unfold maxLen; omega, .inr ⟨w.heap.size, 0, rfl, fun i y hi => by
    match i, hi with
    | 0, hi =>
      simp at hi
      subst hi
      exact (vv_new w x).cells⟩⟩

set_option maxHeartbeats 400000 in
theorem one_any (w : World) : Calls Try.prog 32 #[] w fun e w' => SupR spOne w e w' := by
  obtain ⟨W1, hW1⟩ : ∃ W1, w.alloc (.cells #[.int .i64 0, .int .i64 0, .int .i64 0, .slice none 0 0] 24) = W1 := ⟨_, rfl⟩
  have s1 : W1.heap.size = w.heap.size + 1 := by rw [← hW1]; simp
  have b1 : Below w.heap.size w W1 := by rw [← hW1]; exact (Below.refl _ _).alloc (Nat.le_refl _) _
  have U1 : Uv W1 w.heap.size sp0 (.slice none 0 0) := by rw [← hW1]; exact uv_new w sp0 _
  obtain ⟨W2, hW2⟩ : ∃ W2, W1.alloc (.cells #[.int .i64 1, .int .i64 0, .int .i64 1, .bool false] 66) = W2 := ⟨_, rfl⟩
  have b2 : Below W1.heap.size W1 W2 := by rw [← hW2]; exact (Below.refl _ _).alloc (Nat.le_refl _) _
  have U2 : Hid (Uv W2 w.heap.size sp0 (.slice none 0 0)) := U1.below b2
  have B2 : Hid (Below w.heap.size w W2) := b1.trans (b2.mono (by omega))
  have R2 : Hid (RdV W2 (.slice (some ⟨w.heap.size + 1, 0, none⟩) 1 1) [vnOne]) := by rw [← hW2, ← s1]; exact rdV_one W1 vnOne
  have q0 : W2.cell? ⟨w.heap.size, 0, none⟩ = some (.int .i64 0) := U2.out.c0
  have q1 : W2.cell? ⟨w.heap.size, 1, none⟩ = some (.int .i64 0) := U2.out.c1
  have q2 : W2.cell? ⟨w.heap.size, 2, none⟩ = some (.int .i64 0) := U2.out.c2
  have q3 := U2.out.c3
  have f0 := U2.out.fz 0
  have f1 := U2.out.fz 1
  have f2 := U2.out.fz 2
  have f3 := U2.out.fz 3
  have HLD := hideP (U2.out.put spOne (.slice (some ⟨w.heap.size + 1, 0, none⟩) 1 1)).load
  have HTS := hideP (U2.out.tset spOne (.slice (some ⟨w.heap.size + 1, 0, none⟩) 1 1))
  have HBE := hideP (B2.out.trans (HTS.out.below B2.out.size (fun k e => by rw [e]; exact Nat.le_refl _)))
  have HRE := hideP (R2.out.tch HTS.out (fun j hj e => by cases hj; have e2 : w.heap.size + 1 = w.heap.size := e; omega))
  clear b1 b2 U1
  go_enter Try.func32, Try.ntmps32
  go_wp2_with fail
  refine bodyPost_ret (v := supv spOne (.slice (some ⟨w.heap.size + 1, 0, none⟩) 1 1)) (results_atU (p := 0) (ty := 24) rfl _ _ _ w.heap.size _ rfl HLD.out) rfl ?_
  exact ⟨_, _, rfl, HRE.out, HBE.out, fun j hj => by cases hj; exact Nat.le_succ _⟩

/-- What was told, opened. -/
theorem getU_open {xs : List Int} {w w' : World} {e : Ending} (h : GetU xs w e w') : ∃ a c, e = .returned (.tuple #[supv ((getU xs).getD sp0) (.slice a ((getU xs).getD sp0).vs.length c), .bool (getU xs).isSome]) ∧ RdV w' (.slice a ((getU xs).getD sp0).vs.length c) ((getU xs).getD sp0).vs ∧ Below w.heap.size w w' ∧ ∀ j, (Value.slice a ((getU xs).getD sp0).vs.length c).ownBlock = some j → w.heap.size ≤ j := by
  obtain ⟨v, rfl, hr, hb, hn⟩ := h
  obtain ⟨a, c, hv, _⟩ := id hr
  refine ⟨a, c, by rw [hv], by rw [← hv]; exact hr, hb, by rw [← hv]; exact hn⟩

set_option maxHeartbeats 1000000 in
theorem lives_anyU (w : World) : Calls Try.prog 13 #[] w fun e w' => e = .returned (.bool true) ∧ Below w.heap.size w w' := by
  have HO : Hid (∀ W, Calls Try.prog 32 #[] W fun e w' => SupR spOne W e w') := one_any
  go_enter Try.func13, Try.ntmps13
  go_wp2_with fail
  refine (HO.out w).mono ?_
  rintro e w1 ⟨a1, c1, rfl, r1, b1, _⟩
  have B1 : Hid (Below w.heap.size w w1) := b1
  have HP := hideP (putU_any spOne _ w1 r1)
  clear r1 b1
  unfold supv at HP
  unfold supv
  rw [show spOne.gen = 1 from rfl, show spOne.sc = 128 from rfl, show spOne.nx = 2 from rfl, show spOne.vs.length = 1 from rfl] at HP
  rw [show spOne.gen = 1 from rfl, show spOne.sc = 128 from rfl, show spOne.nx = 2 from rfl, show spOne.vs.length = 1 from rfl]
  go_wp2_with fail
  refine HP.out.mono ?_
  rintro e w2 ⟨v, c, rfl, b2, n2, h⟩
  rcases h with ⟨_, rfl, wb, g, rfl⟩ | ⟨hf, _⟩
  rotate_left
  · rw [mayOne] at hf; cases hf
  obtain ⟨T, hT⟩ : ∃ T, Hid (usec spOne = T) := ⟨_, rfl⟩
  have B2 : Hid (Below w.heap.size w w2) := B1.out.trans (b2.mono B1.out.size)
  have e1 := getU_put mayOne
  rw [hT.out] at wb e1
  have t0 : T.getD 0 0 = 75 := by rw [← hT.out]; rfl
  have t4 : T.getD 4 0 = 1 := by rw [← hT.out]; rfl
  have t8 : T.getD 8 0 = 128 := by rw [← hT.out]; rfl
  have t14 : T.getD 14 0 = 1 := by rw [← hT.out]; rfl
  have HTT : Hid (T.getD 0 0 = 75 ∧ T.getD 4 0 = 1 ∧ T.getD 8 0 = 128 ∧ T.getD 14 0 = 1) := ⟨t0, t4, t8, t14⟩
  have HTL : Hid (T.length = 256) := by rw [← hT.out]; exact usec_len (by decide)
  have HTB : Hid (By T) := by rw [← hT.out]; exact usec_by _
  have R2 : Hid (Rd .u8 w2 (.slice (some ⟨g, 0, none⟩) 256 256) T) := wb.rd
  have E1 : Hid (getU T = some spOne) := e1
  clear b2 n2 wb e1 t0 t4 t8 t14 hT HP B1
  go_wp2_with fail
  refine (getU_any _ T w2 R2.out HTB.out).mono ?_
  intro e w3 h
  obtain ⟨a3, c3, rfl, r3, b3, _⟩ := getU_open h
  rw [E1.out] at r3 ⊢
  clear h
  simp only [Option.getD_some, Option.isSome_some] at r3 ⊢
  have B3 : Hid (Below w.heap.size w w3) := B2.out.trans (b3.mono B2.out.size)
  have R3 : Hid (Rd .u8 w3 (.slice (some ⟨g, 0, none⟩) 256 256) T) := R2.out.below b3
  obtain ⟨q, hqs⟩ : ∃ q, w3.heap.size = q := ⟨_, rfl⟩
  obtain ⟨W4, hW4⟩ : ∃ W4, w3.alloc (.cells #[.int .i64 1, .int .i64 128, .int .i64 2, .slice a3 1 c3] 24) = W4 := ⟨_, rfl⟩
  have b4 : Below w3.heap.size w3 W4 := by rw [← hW4]; exact (Below.refl _ _).alloc (Nat.le_refl _) _
  have U4 : Hid (Uv W4 q spOne (.slice a3 1 c3)) := by rw [← hW4, ← hqs]; exact uv_new w3 spOne _
  have R4 : Hid (Rd .u8 W4 (.slice (some ⟨g, 0, none⟩) 256 256) T) := R3.out.below b4
  have B4 : Hid (Below w.heap.size w W4) := B3.out.trans (b4.mono B3.out.size)
  have V4 : Hid (RdV W4 (.slice a3 1 c3) spOne.vs) := r3.below b4
  clear r3 b3 b4 B3 R3 R2 B2
  unfold supv
  rw [show spOne.gen = 1 from rfl, show spOne.sc = 128 from rfl, show spOne.nx = 2 from rfl, show spOne.vs.length = 1 from rfl]
  go_wp2_with fail
  clear hW4 hqs
  have hS : W4.drew.cell? ⟨q, 0, none⟩ = some (.int .i64 1) ∧ W4.drew.cell? ⟨q, 1, none⟩ = some (.int .i64 128) ∧ W4.drew.cell? ⟨q, 2, none⟩ = some (.int .i64 2) ∧ W4.drew.cell? ⟨q, 3, none⟩ = some (.slice a3 1 c3) := ⟨U4.out.c0, U4.out.c1, U4.out.c2, U4.out.c3⟩
  refine wp_region_held (S := fun w' => w'.cell? ⟨q, 0, none⟩ = some (.int .i64 1) ∧ w'.cell? ⟨q, 1, none⟩ = some (.int .i64 128) ∧ w'.cell? ⟨q, 2, none⟩ = some (.int .i64 2) ∧ w'.cell? ⟨q, 3, none⟩ = some (.slice a3 1 c3)) (by kernel_rfl) ?_
  refine takeT 0 (some 16) (.load 24 (.tmp 3)) (.agg #[.int .i64 1, .int .i64 128, .int .i64 2, .slice a3 1 c3]) rfl (by kernel_rfl) (by kernel_rfl) (by kernel_rfl) (fun _ _ _ h => h) ?hy hS ?_
  case hy =>
    rintro o ho w' ⟨hS1, hS2, hS3, hS4⟩
    go_simp
  simp only [Act.put, List.setIfInBounds_toArray, List.set_cons_zero, List.set_cons_succ]
  refine readyT 1 (some 17) (.call { callee := .value (.func 32), args := #[], argTypes := #[] }) rfl (by kernel_rfl) ?_
  rintro o K hd ho hgd hK
  refine step_call (enters_of Try.func32 (by kernel_rfl) rfl) ho (vs := #[]) (by kernel_rfl) (HO.out _) ?_
  rintro e w5 ⟨a5, c5, rfl, r5, b5, _⟩
  refine ⟨_, rfl, ?_⟩
  rw [hd]
  have b45 : Below W4.heap.size W4 w5 := ((Below.refl _ _).drew).trans b5
  have U5 : Hid (Uv w5 q spOne (.slice a3 1 c3)) := U4.out.below b45
  have R5 : Hid (Rd .u8 w5 (.slice (some ⟨g, 0, none⟩) 256 256) T) := R4.out.below b45
  have B5 : Hid (Below w.heap.size w w5) := B4.out.trans (b45.mono B4.out.size)
  have HSM := hideP (refSameU_any spOne spOne _ _ w5 (V4.out.below b45) r5)
  rw [decide_eq_true (rfl : spOne = spOne)] at HSM
  unfold supv at HSM
  unfold supv
  rw [show spOne.gen = 1 from rfl, show spOne.sc = 128 from rfl, show spOne.nx = 2 from rfl, show spOne.vs.length = 1 from rfl] at HSM
  rw [show spOne.gen = 1 from rfl, show spOne.sc = 128 from rfl, show spOne.nx = 2 from rfl, show spOne.vs.length = 1 from rfl]
  have hS5 : w5.cell? ⟨q, 0, none⟩ = some (.int .i64 1) ∧ w5.cell? ⟨q, 1, none⟩ = some (.int .i64 128) ∧ w5.cell? ⟨q, 2, none⟩ = some (.int .i64 2) ∧ w5.cell? ⟨q, 3, none⟩ = some (.slice a3 1 c3) := ⟨U5.out.c0, U5.out.c1, U5.out.c2, U5.out.c3⟩
  refine hK _ _ hS5 ?_
  clear b5 b45 r5 ho hd hgd hK hS U4 R4 B4 V4
  simp only [Act.put, List.setIfInBounds_toArray, List.set_cons_zero, List.set_cons_succ]
  refine readyT 2 (some 18) (.call { callee := .value (.func 15), args := #[.tmp 16, .tmp 17], argTypes := #[24, 24] }) rfl (by kernel_rfl) ?_
  rintro o K hd ho hgd hK
  refine step_call (enters_of Try.func15 (by kernel_rfl) rfl) ho (vs := #[.agg #[.int .i64 1, .int .i64 128, .int .i64 2, .slice a3 1 c3], .agg #[.int .i64 1, .int .i64 128, .int .i64 2, .slice a5 1 c5]]) (by kernel_rfl) HSM.out ?_
  rintro e w6 ⟨rfl, b6⟩
  refine ⟨_, rfl, ?_⟩
  rw [hd]
  have U6 : Hid (Uv w6 q spOne (.slice a3 1 c3)) := U5.out.below b6
  have R6 : Hid (Rd .u8 w6 (.slice (some ⟨g, 0, none⟩) 256 256) T) := R5.out.below b6
  have B6 : Hid (Below w.heap.size w w6) := B5.out.trans (b6.mono B5.out.size)
  have hS6 : w6.cell? ⟨q, 0, none⟩ = some (.int .i64 1) ∧ w6.cell? ⟨q, 1, none⟩ = some (.int .i64 128) ∧ w6.cell? ⟨q, 2, none⟩ = some (.int .i64 2) ∧ w6.cell? ⟨q, 3, none⟩ = some (.slice a3 1 c3) := ⟨U6.out.c0, U6.out.c1, U6.out.c2, U6.out.c3⟩
  refine hK _ _ hS6 ?_
  clear b6 ho hd hgd hK hS5 U5 R5 B5 HSM
  simp only [Act.put, List.setIfInBounds_toArray, List.set_cons_zero, List.set_cons_succ]
  refine takeT 3 (some 5) (.assign (.tmp 18)) (.bool true) rfl (by kernel_rfl) (by kernel_rfl) (by kernel_rfl) (fun _ _ _ h => h) ?hy hS6 ?_
  case hy =>
    rintro o ho w' ⟨hS1, hS2, hS3, hS4⟩
    go_simp
  simp only [Act.put, List.setIfInBounds_toArray, List.set_cons_zero, List.set_cons_succ]
  refine wpAnyH_done (by kernel_rfl) ?_ _
  clear hS6
  have hcl : ∀ i, i < 256 → w6.cell? ⟨g, i, none⟩ = some (.int .u8 (T.getD i 0)) := fun i hi => by
    obtain ⟨a, cp, hv, _, _, _, hc⟩ := R6.out
    rw [HTL.out] at hv
    cases hv
    rcases hc with h | ⟨b, o, hbo, hc⟩
    · rw [h] at HTL; have := HTL.out; simp at this
    · cases hbo
      have := hc i (by rw [HTL.out]; exact hi)
      rw [Nat.zero_add] at this
      exact this
  have z0 := hcl 0 (by decide)
  have z4 := hcl 4 (by decide)
  have z8 := hcl 8 (by decide)
  have z14 := hcl 14 (by decide)
  rw [HTT.out.1] at z0
  rw [HTT.out.2.1] at z4
  rw [HTT.out.2.2.1] at z8
  rw [HTT.out.2.2.2] at z14
  clear hcl U6 R6 HO
  go_wp2_with fail
  go_ret
  exact ⟨rfl, B6.out⟩
end Go.Proofs.Ytdicgaepggffbaa
