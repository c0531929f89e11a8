/-
  The program's Get of 256 bytes with a right sum.
-/
import Derived.Test.YtphaeajheapjdaaBGet3
namespace Go.Proofs.Ytphaeajheapjdaa
open Go.RowKit Pl
set_option linter.unusedVariables false
set_option linter.unusedSimpArgs false
set_option maxRecDepth 100000

set_option maxHeartbeats 1000000 in
theorem get_ok (n : Int) (v : Value) (xs : List Int) (w : World) (hr : Rd .u8 w v xs) (hb : By xs) (hl : xs.length = 256) (he : xs = smd xs) (hm : mayB n (xs.getD 0 0) (bdy xs).length = true) (heq : xs = sec n (xs.getD 0 0) (bdy xs)) :
    Calls Try.prog 13 #[.int .i64 n, v] w fun e w' => GetR n xs w e w' := by
  obtain ⟨a, cap, rfl, h1, h2, _⟩ := id hr
  have HE : Hid (getE n xs = 0) := by show _ = _; unfold getE; rw [if_neg (by rw [hl]; simp), if_neg (by rw [← he]; simp), if_pos ⟨hm, heq⟩]
  have HGB : Hid (getB n xs = (xs.getD 0 0, bdy xs)) := by show _ = _; unfold getB; rw [if_pos HE.out]
  have hq : ∀ W, (Op.equalIn 10000 41 (.agg (bcs xs).toArray) (.agg (bcs (smd xs)).toArray)).run Try.prog W = .ok true W := fun W => by rw [eq_frm W xs _ hl (smd_len hl), decide_eq_true he]
  have hq2 : ∀ W, (Op.equalIn 10000 41 (.agg (bcs xs).toArray) (.agg (bcs (sec n (xs.getD 0 0) (bdy xs))).toArray)).run Try.prog W = .ok true W := fun W => by rw [eq_frm W xs _ hl (sec_len _ _ (by have := (mayB_iff.1 hm).2.2.2.2; omega)), decide_eq_true heq]
  have HM : Hid (mayB n (xs.getD 0 0) (bdy xs).length = true) := hm
  clear he hm heq
  obtain ⟨hv, hi⟩ := zero_of_info info_frm
  have HSL := slice_frm
  have HR : Hid (Rd .u8 w (.slice a 256 cap) xs) := by rw [← hl]; exact hr
  have HY : Hid (By xs) := hb
  have HL : Hid (xs.length = 256) := hl
  rw [hl] at h1 ⊢
  obtain ⟨W1, hW1⟩ : ∃ W1, w.alloc (.cells #[.int .i64 0, .slice none 0 0] 24) = W1 := ⟨_, rfl⟩
  obtain ⟨W2, hW2⟩ : ∃ W2, W1.alloc (.cells (bcs zz).toArray 41) = W2 := ⟨_, rfl⟩
  have s1 : W1.heap.size = w.heap.size + 1 := by rw [← hW1]; simp
  have s2 : W2.heap.size = w.heap.size + 1 + 1 := by rw [← hW2]; simp [s1]
  have b1 : Below w.heap.size w W1 := by rw [← hW1]; exact (Below.refl _ _).alloc (Nat.le_refl _) _
  have b2 : Below W1.heap.size W1 W2 := by rw [← hW2]; exact (Below.refl _ _).alloc (Nat.le_refl _) _
  have Q1 : Bv W1 w.heap.size 0 (.slice none 0 0) := by rw [← hW1]; exact bv_new w _ _
  have Q2 : Hid (Bv W2 w.heap.size 0 (.slice none 0 0)) := Q1.below b2
  have F2 : Hid (Fv W2 (w.heap.size + 1) zz) := by rw [← hW2, ← s1]; exact fv_new W1 zz_len zz_by
  have M2 : Hid (W2.heap[w.heap.size + 1]? = some (.cells (bcs zz).toArray 41 (0, 0))) := F2.out.1
  have B2 : Hid (Below w.heap.size w W2) := b1.trans (b2.mono (by omega))
  have R2 : Hid (Rd .u8 W2 (.slice a 256 cap) xs) := HR.out.below B2.out
  have HS2 : Hid (W2.heap.size = w.heap.size + 1 + 1) := s2
  have HFT : Hid (0 + min xs.length 256 ≤ zz.length) := by show _ ≤ _; rw [zz_len]; omega
  obtain ⟨Z, hZ⟩ : ∃ Z, Hid ((bcs zz).toArray = Z) := ⟨_, rfl⟩
  rw [hZ.out] at hv hW2
  obtain ⟨X, hX⟩ : ∃ X, Hid ((bcs xs).toArray = X) := ⟨_, rfl⟩
  have HSM : Hid (∀ W, Calls Try.prog 19 #[.agg (bcs xs).toArray] W fun e w' => e = .returned (.agg (bcs (smd xs)).toArray) ∧ Below W.heap.size W w') := fun W => summed_any xs W hl hb
  have hu := Try.underlying41
  have hsz : (Try.prog.info? 41).map (·.size) = some (bcs xs).length := by rw [bcs_len, hl]; exact hi
  have BX : Hid (∀ W, Below (w.heap.size + 1) W W) := fun W => Below.refl _ _
  clear Q1 b1 b2 hr hb hl h2 hi s2
  go_enter Try.func13, Try.ntmps13
  go_wp2_with (with_reducible (show wpList _ _ _ (Oper.mk _ (Op.call _) _ _ _ _ :: _) _ _); refine wpList_copyB _ rfl (.tmp 12) (.tmp 13) rfl (w.heap.size + 1) 0 256 256 ?h3 zz _ M2.out _ xs ?h5 R2.out HFT.out (w.heap.size + 1) W2 (BX.out W2) (Nat.le_refl _) ?_; (case h3 => kernel_rfl); (case h5 => kernel_rfl))
  intro w3 M3 N3
  rw [splice_zz HL.out] at M3
  obtain ⟨g, hg⟩ : ∃ g, Hid (w.heap.size = g) := ⟨_, rfl⟩
  rw [hg.out] at Q2 M3 N3 B2 HS2 ⊢
  have F3 : Hid (Fv w3 (g + 1) xs) := ⟨M3.out, HL.out, HY.out⟩
  have Q3 : Hid (Bv w3 g 0 (.slice none 0 0)) := by show _ = _; rw [N3.out.block g (by omega)]; exact Q2.out
  have B3 : Hid (Below g w w3) := B2.out.trans (N3.out.mono (by omega))
  have r3 : w3.drew.rangeAt (g + 1) 0 (bcs xs) := F3.out.range
  clear M3 N3 Q2 F2 M2 B2 R2 HS2 hW1 hW2 s1 HFT
  go_wp2_with fail
  refine wp_region_held (S := fun w' => w'.rangeAt (g + 1) 0 (bcs xs)) (by kernel_rfl) ?_
  refine takeArr 0 (some 15) 41 (.tmp 6) (g + 1) 0 (bcs xs) _ rfl (by kernel_rfl) (by kernel_rfl) (by kernel_rfl) (fun _ _ _ h => h) rfl (fun w' h => h) hu rfl hsz r3 ?_
  simp only [Act.put, List.setIfInBounds_toArray, List.set_cons_zero, List.set_cons_succ]
  refine takeArr 1 (some 16) 41 (.tmp 6) (g + 1) 0 (bcs xs) _ rfl (by kernel_rfl) (by kernel_rfl) (by kernel_rfl) (fun _ _ _ h => h) rfl (fun w' h => h) hu rfl hsz r3 ?_
  simp only [Act.put, List.setIfInBounds_toArray, List.set_cons_zero, List.set_cons_succ]
  refine readyT 2 (some 17) (.call { callee := .value (.func 19), args := #[.tmp 16], argTypes := #[41] }) rfl (by kernel_rfl) ?_
  rintro o K hd ho hgd hK
  refine step_call (enters_of Try.func19 (by kernel_rfl) rfl) ho (vs := #[.agg (bcs xs).toArray]) (by kernel_rfl) (HSM.out _) ?_
  rintro e w4 ⟨rfl, hb4⟩
  refine ⟨_, rfl, ?_⟩
  rw [hd]
  have hb5 : Below w3.heap.size w3 w4 := ((Below.refl _ _).drew).trans hb4
  have F4 : Hid (Fv w4 (g + 1) xs) := F3.out.below hb5
  have Q4 : Hid (Bv w4 g 0 (.slice none 0 0)) := Q3.out.below hb5
  have B4 : Hid (Below g w w4) := B3.out.trans (hb5.mono (Nat.le_of_lt Q3.out.lt))
  have r4 : w4.rangeAt (g + 1) 0 (bcs xs) := F4.out.range
  refine hK _ _ r4 ?_
  clear hb4 hb5 ho hd hgd hK r3 F3 Q3 B3
  simp only [Act.put, List.setIfInBounds_toArray, List.set_cons_zero, List.set_cons_succ]
  refine takeT 3 (some 18) (.binOp .neq 41 (.tmp 15) (.tmp 17) 41) (Value.bool false) rfl (by kernel_rfl) (by kernel_rfl) (by kernel_rfl) (fun _ _ _ h => h) ?hy r4 ?_
  case hy =>
    rintro o ho w' hS1
    go_simp
  simp only [Act.put, List.setIfInBounds_toArray, List.set_cons_zero, List.set_cons_succ]
  refine wpAnyH_done (by kernel_rfl) ?_ _
  clear r4 hq HSM
  have r4 : Hid (w4.rangeAt (g + 1) 0 (bcs xs)) := F4.out.range
  have HSZ : Hid ((Try.prog.info? 41).map (·.size) = some (bcs xs).length) := hsz
  have HU : Hid (Try.prog.underlying 41 = some (.array 256 5)) := hu
  go_wp2_with (with_reducible (show wpList _ _ _ (Oper.mk _ (Op.load _ _) _ _ _ _ :: _) _ _); refine wpList_load_mid rfl 41 (.tmp 6) rfl (g + 1) 0 rfl (bcs xs) _ r4.out HU.out rfl HSZ.out ?_)
  obtain ⟨K0, hK⟩ : ∃ K0, Hid (xs.getD 0 0 = K0) := ⟨_, rfl⟩
  obtain ⟨Y, hYY⟩ : ∃ Y, Hid (bdy xs = Y) := ⟨_, rfl⟩
  have HYB : Hid (By Y) := by rw [← hYY.out]; exact bdy_by HY.out
  have HM2 : Hid (mayB n (xs.getD 0 0) (bdy xs).length = true) := HM
  rw [hK.out, hYY.out] at HM HM2 hq2
  have HSO : Hid (∀ W v, Rd .u8 W v Y → Calls Try.prog 18 #[.int .i64 n, .agg #[.int .i64 K0, v]] W fun e w' => e = .returned (.agg (bcs (sec n K0 Y)).toArray) ∧ Below W.heap.size W w') := fun W v hR => sectorOf_any n K0 v Y W hR HYB.out HM2.out
  refine (block_any xs w4 HL.out HY.out).mono ?_
  rintro e w5 ⟨bv, rfl, wb5, b5, n5⟩
  obtain ⟨bb, bc, t5, C5, rfl, hb1, hb2, _⟩ := id wb5
  rw [hK.out, hYY.out]
  rw [hYY.out] at wb5 hb1
  have F5 : Hid (Fv w5 (g + 1) xs) := F4.out.below b5
  have Q5 : Hid (Bv w5 g 0 (.slice none 0 0)) := Q4.out.below b5
  have B5 : Hid (Below g w w5) := B4.out.trans (b5.mono (Nat.le_of_lt Q4.out.lt))
  have W5 : Hid (Wb w5 (.slice (some ⟨bb, 0, none⟩) Y.length bc) Y) := wb5
  have N5 : Hid (g < bb) := Nat.lt_of_lt_of_le Q4.out.lt (n5 bb rfl)
  obtain ⟨m, hm⟩ : ∃ m, Hid (Y.length = m) := ⟨_, rfl⟩
  rw [hm.out] at W5 hb1 HM ⊢
  have hm9 : Hid (m ≤ 9223372036854775807) := by show _ ≤ _; unfold maxLen at hb2; omega
  obtain ⟨q, hqs⟩ : ∃ q, w5.heap.size = q := ⟨_, rfl⟩
  have HQS : Hid (w5.heap.size = q) := hqs
  obtain ⟨W6, hW6⟩ : ∃ W6, w5.alloc (.cells #[.int .i64 K0, .slice (some ⟨bb, 0, none⟩) m bc] 24) = W6 := ⟨_, rfl⟩
  have b6 : Below w5.heap.size w5 W6 := by rw [← hW6]; exact (Below.refl _ _).alloc (Nat.le_refl _) _
  have V6 : Hid (Bv W6 q K0 (.slice (some ⟨bb, 0, none⟩) m bc)) := by rw [← hW6, ← hqs]; exact bv_new w5 _ _
  have F6 : Hid (Fv W6 (g + 1) xs) := F5.out.below b6
  have Q6 : Hid (Bv W6 g 0 (.slice none 0 0)) := Q5.out.below b6
  have B6 : Hid (Below g w W6) := B5.out.trans (b6.mono (Nat.le_of_lt Q5.out.lt))
  have X6 : Hid (Wb W6 (.slice (some ⟨bb, 0, none⟩) m bc) Y) := W5.out.below b6
  have HMB : Hid (∀ W, Calls Try.prog 17 #[.int .i64 n, .agg #[.int .i64 K0, .slice (some ⟨bb, 0, none⟩) m bc]] W fun e w' => e = .returned (.bool true) ∧ Below W.heap.size W w') := fun W => by
    have h := mayBe_any n K0 (some ⟨bb, 0, none⟩) m bc W hm9.out
    rw [HM.out] at h
    exact h
  have r6 : W6.drew.rangeAt (g + 1) 0 (bcs xs) := F6.out.range
  have v60 : W6.drew.cell? ⟨q, 0, none⟩ = some (.int .i64 K0) := V6.out.c0
  have v61 : W6.drew.cell? ⟨q, 1, none⟩ = some (.slice (some ⟨bb, 0, none⟩) m bc) := V6.out.c1
  unfold blk
  clear b5 n5 wb5 hb2 r4 F4 Q4 B4 F5 Q5 B5 W5 b6
  go_wp2_with fail
  clear hW6
  have hS : W6.drew.rangeAt (g + 1) 0 (bcs xs) ∧ W6.drew.cell? ⟨q, 0, none⟩ = some (.int .i64 K0) ∧ W6.drew.cell? ⟨q, 1, none⟩ = some (.slice (some ⟨bb, 0, none⟩) m bc) := ⟨r6, v60, v61⟩
  refine wp_region_held (S := fun w' => w'.rangeAt (g + 1) 0 (bcs xs) ∧ w'.cell? ⟨q, 0, none⟩ = some (.int .i64 K0) ∧ w'.cell? ⟨q, 1, none⟩ = some (.slice (some ⟨bb, 0, none⟩) m bc)) (by kernel_rfl) ?_
  refine takeT 0 (some 22) (.move (.tmp 0)) (.int .i64 n) rfl (by kernel_rfl) (by kernel_rfl) (by kernel_rfl) (fun _ _ _ h => h) ?hy hS ?_
  case hy =>
    rintro o ho w' ⟨hS1, hS2, hS3⟩
    go_simp
  simp only [Act.put, List.setIfInBounds_toArray, List.set_cons_zero, List.set_cons_succ]
  refine takeT 1 (some 23) (.load 24 (.tmp 7)) (.agg #[.int .i64 K0, .slice (some ⟨bb, 0, none⟩) m bc]) rfl (by kernel_rfl) (by kernel_rfl) (by kernel_rfl) (fun _ _ _ h => h) ?hy hS ?_
  case hy =>
    rintro o ho w' ⟨hS1, hS2, hS3⟩
    go_simp
  simp only [Act.put, List.setIfInBounds_toArray, List.set_cons_zero, List.set_cons_succ]
  refine readyT 2 (some 24) (.call { callee := .value (.func 17), args := #[.tmp 22, .tmp 23], argTypes := #[3, 24] }) rfl (by kernel_rfl) ?_
  rintro o K hd ho hgd hK
  refine step_call (enters_of Try.func17 (by kernel_rfl) rfl) ho (vs := #[.int .i64 n, .agg #[.int .i64 K0, .slice (some ⟨bb, 0, none⟩) m bc]]) (by kernel_rfl) (HMB.out _) ?_
  rintro e w7 ⟨rfl, hb7⟩
  refine ⟨_, rfl, ?_⟩
  rw [hd]
  have b7 : Below W6.heap.size W6 w7 := ((Below.refl _ _).drew).trans hb7
  have F7 : Hid (Fv w7 (g + 1) xs) := F6.out.below b7
  have V7 : Hid (Bv w7 q K0 (.slice (some ⟨bb, 0, none⟩) m bc)) := V6.out.below b7
  have Q7 : Hid (Bv w7 g 0 (.slice none 0 0)) := Q6.out.below b7
  have B7 : Hid (Below g w w7) := B6.out.trans (b7.mono (Nat.le_of_lt Q6.out.lt))
  have X7 : Hid (Wb w7 (.slice (some ⟨bb, 0, none⟩) m bc) Y) := X6.out.below b7
  have hS7 : w7.rangeAt (g + 1) 0 (bcs xs) ∧ w7.cell? ⟨q, 0, none⟩ = some (.int .i64 K0) ∧ w7.cell? ⟨q, 1, none⟩ = some (.slice (some ⟨bb, 0, none⟩) m bc) := ⟨F7.out.range, V7.out.c0, V7.out.c1⟩
  refine hK _ _ hS7 ?_
  clear hb7 b7 ho hd hgd hK hS r6 v60 v61 F6 V6 Q6 B6 X6
  simp only [Act.put, List.setIfInBounds_toArray, List.set_cons_zero, List.set_cons_succ]
  refine takeT 3 (some 25) (.unOp .not 4 (.tmp 24)) (.bool false) rfl (by kernel_rfl) (by kernel_rfl) (by kernel_rfl) (fun _ _ _ h => h) ?hy hS7 ?_
  case hy =>
    rintro o ho w' ⟨hS1, hS2, hS3⟩
    go_simp
  simp only [Act.put, List.setIfInBounds_toArray, List.set_cons_zero, List.set_cons_succ]
  refine takeT 4 (some 26) (.move (.tmp 25)) (.bool false) rfl (by kernel_rfl) (by kernel_rfl) (by kernel_rfl) (fun _ _ _ h => h) ?hy hS7 ?_
  case hy =>
    rintro o ho w' ⟨hS1, hS2, hS3⟩
    go_simp
  simp only [Act.put, List.setIfInBounds_toArray, List.set_cons_zero, List.set_cons_succ]
  refine takeArrG 5 (some 27) 41 (.tmp 6) 4 false (g + 1) 0 (bcs xs) _ rfl (by kernel_rfl) (by kernel_rfl) (by kernel_rfl) (fun _ _ _ h => h) rfl rfl (fun w' h => h.1) hu rfl hsz hS7 ?_
  simp only [Act.put, List.setIfInBounds_toArray, List.set_cons_zero, List.set_cons_succ]
  refine takeG 6 (some 28) (.move (.tmp 0)) 4 false (.int .i64 n) rfl (by kernel_rfl) (by kernel_rfl) (by kernel_rfl) (fun _ _ _ h => h) rfl ?hy hS7 ?_
  case hy =>
    rintro o ho w' ⟨hS1, hS2, hS3⟩
    go_simp
  simp only [Act.put, List.setIfInBounds_toArray, List.set_cons_zero, List.set_cons_succ]
  refine takeG 7 (some 29) (.load 24 (.tmp 7)) 4 false (.agg #[.int .i64 K0, .slice (some ⟨bb, 0, none⟩) m bc]) rfl (by kernel_rfl) (by kernel_rfl) (by kernel_rfl) (fun _ _ _ h => h) rfl ?hy hS7 ?_
  case hy =>
    rintro o ho w' ⟨hS1, hS2, hS3⟩
    go_simp
  simp only [Act.put, List.setIfInBounds_toArray, List.set_cons_zero, List.set_cons_succ]
  refine readyG 8 (some 30) (.call { callee := .value (.func 18), args := #[.tmp 28, .tmp 29], argTypes := #[3, 24] }) 4 false rfl (by kernel_rfl) rfl ?_
  rintro o K hd ho hK
  refine step_call (enters_of Try.func18 (by kernel_rfl) rfl) ho (vs := #[.int .i64 n, .agg #[.int .i64 K0, .slice (some ⟨bb, 0, none⟩) m bc]]) (by kernel_rfl) (HSO.out _ _ X7.out.rd) ?_
  rintro e w8 ⟨rfl, b8⟩
  refine ⟨_, rfl, ?_⟩
  rw [hd]
  have F8 : Hid (Fv w8 (g + 1) xs) := F7.out.below b8
  have V8 : Hid (Bv w8 q K0 (.slice (some ⟨bb, 0, none⟩) m bc)) := V7.out.below b8
  have Q8 : Hid (Bv w8 g 0 (.slice none 0 0)) := Q7.out.below b8
  have B8 : Hid (Below g w w8) := B7.out.trans (b8.mono (Nat.le_of_lt Q7.out.lt))
  have X8 : Hid (Wb w8 (.slice (some ⟨bb, 0, none⟩) m bc) Y) := X7.out.below b8
  have hS8 : w8.rangeAt (g + 1) 0 (bcs xs) ∧ w8.cell? ⟨q, 0, none⟩ = some (.int .i64 K0) ∧ w8.cell? ⟨q, 1, none⟩ = some (.slice (some ⟨bb, 0, none⟩) m bc) := ⟨F8.out.range, V8.out.c0, V8.out.c1⟩
  refine hK _ _ hS8 ?_
  clear b8 ho hd hK hS7 F7 V7 Q7 B7 X7
  simp only [Act.put, List.setIfInBounds_toArray, List.set_cons_zero, List.set_cons_succ]
  refine takeG 9 (some 31) (.binOp .neq 41 (.tmp 27) (.tmp 30) 41) 4 false (.bool false) rfl (by kernel_rfl) (by kernel_rfl) (by kernel_rfl) (fun _ _ _ h => h) rfl ?hy hS8 ?_
  case hy =>
    rintro o ho w' ⟨hS1, hS2, hS3⟩
    go_simp
  simp only [Act.put, List.setIfInBounds_toArray, List.set_cons_zero, List.set_cons_succ]
  refine takeT 10 (some 32) (.pick (.tmp 26) (.const (.bool true)) (.tmp 31)) (.bool false) rfl (by kernel_rfl) (by kernel_rfl) (by kernel_rfl) (fun _ _ _ h => h) ?hy hS8 ?_
  case hy =>
    rintro o ho w' ⟨hS1, hS2, hS3⟩
    go_simp
  simp only [Act.put, List.setIfInBounds_toArray, List.set_cons_zero, List.set_cons_succ]
  refine wpAnyH_done (by kernel_rfl) ?_ _
  clear hS8 hq2
  have q0 := Q8.out.c0
  have q1 := Q8.out.c1
  have f0 := Q8.out.fz 0
  have f1 := Q8.out.fz 1
  have u0 := V8.out.c0
  have u1 := V8.out.c1
  have HLD := hideP (Q8.out.put K0 (.slice (some ⟨bb, 0, none⟩) m bc)).load
  have HBE : Hid (Below g w ((w8.setCell ⟨g, 0, none⟩ (.int .i64 K0)).setCell ⟨g, 1, none⟩ (.slice (some ⟨bb, 0, none⟩) m bc))) := (B8.out.setCell (Nat.le_refl _) _).setCell (Nat.le_refl _) _
  have HRE : Hid (Rd .u8 ((w8.setCell ⟨g, 0, none⟩ (.int .i64 K0)).setCell ⟨g, 1, none⟩ (.slice (some ⟨bb, 0, none⟩) m bc)) (.slice (some ⟨bb, 0, none⟩) m bc) Y) :=
    X8.out.rd.tch (S := fun k => k = g) (Tch.setCell (Tch.setCell (Tch.refl (fun k => k = g) w8) (p := ⟨g, 0, none⟩) (fun _ => rfl) _) (p := ⟨g, 1, none⟩) (fun _ => rfl) _) (fun j hj e => by cases hj; have e2 : bb = g := e; have := N5.out; omega)
  clear X8
  go_wp2_with fail
  refine bodyPost_ret (v := .tuple #[blk K0 (.slice (some ⟨bb, 0, none⟩) m bc), .int .i64 0]) (results_cellT (p := 4) (ty := 24) rfl _ _ _ g _ _ rfl HLD.out rfl) rfl ?_
  exact ⟨_, by rw [HGB.out, HE.out, hK.out], by rw [HGB.out, hYY.out]; exact HRE.out, by rw [hg.out]; exact HBE.out, fun j hj => by cases hj; rw [hg.out]; exact Nat.le_of_lt N5.out⟩
end Go.Proofs.Ytphaeajheapjdaa
