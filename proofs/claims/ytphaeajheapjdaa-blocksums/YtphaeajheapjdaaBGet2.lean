/-
  The program's Get of 256 bytes.
-/
import Derived.Test.YtphaeajheapjdaaBGet
import Derived.Test.YtphaeajheapjdaaBReg
namespace Go.Proofs.Ytphaeajheapjdaa
open Go.RowKit Pl
set_option linter.unusedVariables false
set_option linter.unusedSimpArgs false
set_option maxRecDepth 100000

theorem splice_zz {xs : List Int} (h : xs.length = 256) : splice zz 0 (xs.take 256) = xs := by
  unfold splice
  rw [List.take_zero, List.nil_append, List.take_of_length_le (by omega), List.drop_of_length_le (by rw [zz_len]; omega), List.append_nil]

set_option maxHeartbeats 1000000 in
theorem get_sum (n : Int) (v : Value) (xs : List Int) (w : World) (hr : Rd .u8 w v xs) (hb : By xs) (hl : xs.length = 256) (hne : xs ≠ smd xs) :
    Calls Try.prog 13 #[.int .i64 n, v] w fun e w' => GetR n xs w e w' := by
  obtain ⟨a, cap, rfl, h1, h2, _⟩ := id hr
  have HE : Hid (getE n xs = 6) := by show _ = _; unfold getE; rw [if_neg (by rw [hl]; simp), if_pos hne]
  have hq : ∀ W, (Op.equalIn 10000 41 (.agg (bcs xs).toArray) (.agg (bcs (smd xs)).toArray)).run Try.prog W = .ok false W := fun W => by rw [eq_frm W xs _ hl (smd_len hl), decide_eq_false hne]
  obtain ⟨hv, hi⟩ := zero_of_info info_frm
  have HSL := slice_frm
  have HR : Hid (Rd .u8 w (.slice a 256 cap) xs) := by rw [← hl]; exact hr
  have HY : Hid (By xs) := hb
  have HL : Hid (xs.length = 256) := hl
  rw [hl] at h1 ⊢
  obtain ⟨W1, hW1⟩ : ∃ W1, w.alloc (.cells #[.int .i64 0, .slice none 0 0] 24) = W1 := ⟨_, rfl⟩
  obtain ⟨W2, hW2⟩ : ∃ W2, W1.alloc (.cells (bcs zz).toArray 41) = W2 := ⟨_, rfl⟩
  have s1 : W1.heap.size = w.heap.size + 1 := by rw [← hW1]; simp
  have s2 : W2.heap.size = w.heap.size + 1 + 1 := by rw [← hW2]; simp [s1]
  have b1 : Below w.heap.size w W1 := by rw [← hW1]; exact (Below.refl _ _).alloc (Nat.le_refl _) _
  have b2 : Below W1.heap.size W1 W2 := by rw [← hW2]; exact (Below.refl _ _).alloc (Nat.le_refl _) _
  have Q1 : Bv W1 w.heap.size 0 (.slice none 0 0) := by rw [← hW1]; exact bv_new w _ _
  have Q2 : Hid (Bv W2 w.heap.size 0 (.slice none 0 0)) := Q1.below b2
  have F2 : Hid (Fv W2 (w.heap.size + 1) zz) := by rw [← hW2, ← s1]; exact fv_new W1 zz_len zz_by
  have M2 : Hid (W2.heap[w.heap.size + 1]? = some (.cells (bcs zz).toArray 41 (0, 0))) := F2.out.1
  have B2 : Hid (Below w.heap.size w W2) := b1.trans (b2.mono (by omega))
  have R2 : Hid (Rd .u8 W2 (.slice a 256 cap) xs) := HR.out.below B2.out
  have HS2 : Hid (W2.heap.size = w.heap.size + 1 + 1) := s2
  have HFT : Hid (0 + min xs.length 256 ≤ zz.length) := by show _ ≤ _; rw [zz_len]; omega
  obtain ⟨Z, hZ⟩ : ∃ Z, Hid ((bcs zz).toArray = Z) := ⟨_, rfl⟩
  rw [hZ.out] at hv hW2
  obtain ⟨X, hX⟩ : ∃ X, Hid ((bcs xs).toArray = X) := ⟨_, rfl⟩
  have HSM : Hid (∀ W, Calls Try.prog 19 #[.agg (bcs xs).toArray] W fun e w' => e = .returned (.agg (bcs (smd xs)).toArray) ∧ Below W.heap.size W w') := fun W => summed_any xs W hl hb
  have hu := Try.underlying41
  have hsz : (Try.prog.info? 41).map (·.size) = some (bcs xs).length := by rw [bcs_len, hl]; exact hi
  have BX : Hid (∀ W, Below (w.heap.size + 1) W W) := fun W => Below.refl _ _
  clear Q1 b1 b2 hr hb hl h2 hi s2
  go_enter Try.func13, Try.ntmps13
  go_wp2_with (with_reducible (show wpList _ _ _ (Oper.mk _ (Op.call _) _ _ _ _ :: _) _ _); refine wpList_copyB _ rfl (.tmp 12) (.tmp 13) rfl (w.heap.size + 1) 0 256 256 ?h3 zz _ M2.out _ xs ?h5 R2.out HFT.out (w.heap.size + 1) W2 (BX.out W2) (Nat.le_refl _) ?_; (case h3 => kernel_rfl); (case h5 => kernel_rfl))
  intro w3 M3 N3
  rw [splice_zz HL.out] at M3
  obtain ⟨g, hg⟩ : ∃ g, Hid (w.heap.size = g) := ⟨_, rfl⟩
  rw [hg.out] at Q2 M3 N3 B2 HS2 ⊢
  have F3 : Hid (Fv w3 (g + 1) xs) := ⟨M3.out, HL.out, HY.out⟩
  have Q3 : Hid (Bv w3 g 0 (.slice none 0 0)) := by show _ = _; rw [N3.out.block g (by omega)]; exact Q2.out
  have B3 : Hid (Below g w w3) := B2.out.trans (N3.out.mono (by omega))
  have r3 : w3.drew.rangeAt (g + 1) 0 (bcs xs) := F3.out.range
  clear M3 N3 Q2 F2 M2 B2 R2 HS2 hW1 hW2 s1 HFT
  go_wp2_with fail
  refine wp_region_held (S := fun w' => w'.rangeAt (g + 1) 0 (bcs xs)) (by kernel_rfl) ?_
  refine takeArr 0 (some 15) 41 (.tmp 6) (g + 1) 0 (bcs xs) _ rfl (by kernel_rfl) (by kernel_rfl) (by kernel_rfl) (fun _ _ _ h => h) rfl (fun w' h => h) hu rfl hsz r3 ?_
  simp only [Act.put, List.setIfInBounds_toArray, List.set_cons_zero, List.set_cons_succ]
  refine takeArr 1 (some 16) 41 (.tmp 6) (g + 1) 0 (bcs xs) _ rfl (by kernel_rfl) (by kernel_rfl) (by kernel_rfl) (fun _ _ _ h => h) rfl (fun w' h => h) hu rfl hsz r3 ?_
  simp only [Act.put, List.setIfInBounds_toArray, List.set_cons_zero, List.set_cons_succ]
  refine readyT 2 (some 17) (.call { callee := .value (.func 19), args := #[.tmp 16], argTypes := #[41] }) rfl (by kernel_rfl) ?_
  rintro o K hd ho hgd hK
  refine step_call (enters_of Try.func19 (by kernel_rfl) rfl) ho (vs := #[.agg (bcs xs).toArray]) (by kernel_rfl) (HSM.out _) ?_
  rintro e w4 ⟨rfl, hb4⟩
  refine ⟨_, rfl, ?_⟩
  rw [hd]
  have hb5 : Below w3.heap.size w3 w4 := ((Below.refl _ _).drew).trans hb4
  have F4 : Hid (Fv w4 (g + 1) xs) := F3.out.below hb5
  have Q4 : Hid (Bv w4 g 0 (.slice none 0 0)) := Q3.out.below hb5
  have B4 : Hid (Below g w w4) := B3.out.trans (hb5.mono (Nat.le_of_lt Q3.out.lt))
  have r4 : w4.rangeAt (g + 1) 0 (bcs xs) := F4.out.range
  refine hK _ _ r4 ?_
  clear hb4 hb5 ho hd hgd hK r3 F3 Q3 B3
  simp only [Act.put, List.setIfInBounds_toArray, List.set_cons_zero, List.set_cons_succ]
  refine takeT 3 (some 18) (.binOp .neq 41 (.tmp 15) (.tmp 17) 41) (Value.bool true) rfl (by kernel_rfl) (by kernel_rfl) (by kernel_rfl) (fun _ _ _ h => h) ?hy r4 ?_
  case hy =>
    rintro o ho w' hS1
    go_simp
  simp only [Act.put, List.setIfInBounds_toArray, List.set_cons_zero, List.set_cons_succ]
  refine wpAnyH_done (by kernel_rfl) ?_ _
  have q0 := Q4.out.c0
  have q1 := Q4.out.c1
  have f0 := Q4.out.fz 0
  have f1 := Q4.out.fz 1
  have HLD := hideP (Q4.out.put 0 (.slice none 0 0)).load
  have HBE : Hid (Below g w ((w4.setCell ⟨g, 0, none⟩ (.int .i64 0)).setCell ⟨g, 1, none⟩ (.slice none 0 0))) := (B4.out.setCell (Nat.le_refl _) _).setCell (Nat.le_refl _) _
  go_wp2_with fail
  refine bodyPost_ret (v := .tuple #[blk 0 (.slice none 0 0), .int .i64 6]) (results_cellT (p := 4) (ty := 24) rfl _ _ _ g _ _ rfl HLD.out rfl) rfl ?_
  exact getR_bad HE.out (by decide) (by rw [hg.out]; exact HBE.out)
end Go.Proofs.Ytphaeajheapjdaa
