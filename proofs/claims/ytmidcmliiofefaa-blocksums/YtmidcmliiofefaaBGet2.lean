/-
  The program's Get of 256 bytes.
-/
import Derived.Test.YtmidcmliiofefaaBGet
import Derived.Test.YtmidcmliiofefaaBReg
namespace Go.Proofs.Ytmidcmliiofefaa
open Go.RowKit Pl
set_option linter.unusedVariables false
set_option linter.unusedSimpArgs false
set_option maxRecDepth 100000

theorem splice_zz {xs : List Int} (h : xs.length = 256) : splice zz 0 (xs.take 256) = xs := by
  unfold splice
  rw [List.take_zero, List.nil_append, List.take_of_length_le (by omega), List.drop_of_length_le (by rw [zz_len]; omega), List.append_nil]

set_option maxHeartbeats 1000000 in
theorem get_sum (n : Int) (v : Value) (xs : List Int) (w : World) (hr : Rd .u8 w v xs) (hb : By xs) (hl : xs.length = 256) (hne : xs ≠ smd xs) :
    Calls Try.prog 13 #[.int .i64 n, v] w fun e w' => GetR n xs w e w' := by
  obtain ⟨a, cap, rfl, h1, h2, _⟩ := id hr
  have HE : Hid (getE n xs = 6) := by show _ = _; unfold getE; rw [if_neg (by rw [hl]; simp), if_pos hne]
  have hq : ∀ W, (Op.equalIn 10000 41 (.agg (bcs xs).toArray) (.agg (bcs (smd xs)).toArray)).run Try.prog W = .ok false W := fun W => by rw [eq_frm W xs _ hl (smd_len hl), decide_eq_false hne]
  obtain ⟨hv, hi⟩ := zero_of_info info_frm
  have HR : Hid (Rd .u8 w (.slice a 256 cap) xs) := by rw [← hl]; exact hr
  have HY : Hid (By xs) := hb
  have HL : Hid (xs.length = 256) := hl
  rw [hl] at h1 ⊢
  obtain ⟨W1, hW1⟩ : ∃ W1, w.alloc (.cells #[.int .i64 0, .slice none 0 0] 24) = W1 := ⟨_, rfl⟩
  have b1 : Below w.heap.size w W1 := by rw [← hW1]; exact (Below.refl _ _).alloc (Nat.le_refl _) _
  have Q1 : Hid (Bkv W1 w.heap.size 0 (.slice none 0 0)) := by rw [← hW1]; exact bkv_new w _ _
  have B1 : Hid (Below w.heap.size w W1) := b1
  have R1 : Hid (Rd .u8 W1 (.slice a 256 cap) xs) := HR.out.below b1
  obtain ⟨Z, hZ⟩ : ∃ Z, Hid ((bcs zz).toArray = Z) := ⟨_, rfl⟩
  have HZ : Hid (Z.size = 256) := by show _ = _; rw [← hZ.out, List.size_toArray, bcs_len, zz_len]
  have HI : Hid ((Try.prog.info? 41).map (·.size) = some 256) := hi
  rw [hZ.out] at hv
  have HSZX : Hid ((bcs xs).toArray.size = 256) := bcs_size hl
  have HONX : Hid ((bcs xs).toArray.all (·.oneCell') = true) := bcs_all _
  have HSM : Hid (∀ W, Calls Try.prog 20 #[.agg (bcs xs).toArray] W fun e w' => e = .returned (.agg (bcs (smd xs)).toArray) ∧ Below W.heap.size W w') := fun W => summed_any xs W hl hb
  have HUU : Hid (Try.prog.underlying 41 = some (.array 256 5)) := Try.underlying41
  have HSZI : Hid ((Try.prog.info? 41).map (·.size) = some (bcs xs).length) := by show _ = _; rw [bcs_len, hl]; exact hi
  clear b1 hr hb hl h2 hi
  go_enter Try.func13, Try.ntmps13
  go_wp2_with fail
  refine (ofU_any _ xs W1 R1.out HY.out HL.out).mono ?_
  rintro e w2 ⟨rfl, hb2⟩
  obtain ⟨w3, hW3⟩ : ∃ w3, w2.alloc (.cells (bcs xs).toArray 41) = w3 := ⟨_, rfl⟩
  obtain ⟨f, hf⟩ : ∃ f, Hid (w2.heap.size = f) := ⟨_, rfl⟩
  have hb3 : Below w2.heap.size w2 w3 := by rw [← hW3]; exact (Below.refl _ _).alloc (Nat.le_refl _) _
  have F3 : Hid (Fv w3 f xs) := by rw [← hW3, ← hf.out]; exact fv_new w2 HL.out HY.out
  obtain ⟨g, hg⟩ : ∃ g, Hid (w.heap.size = g) := ⟨_, rfl⟩
  rw [hg.out] at Q1 B1
  have Q3 : Hid (Bkv w3 g 0 (.slice none 0 0)) := (Q1.out.below hb2).below hb3
  have B2 : Below g w w2 := B1.out.trans (hb2.mono (Nat.le_of_lt Q1.out.lt))
  have B3 : Hid (Below g w w3) := B2.trans (hb3.mono (by have := (Q1.out.below hb2).lt; omega))
  have HW3 : Hid (w2.alloc (.cells (bcs xs).toArray 41) = w3) := hW3
  have r3 : w3.drew.rangeAt f 0 (bcs xs) := F3.out.range
  clear hW3 hb2 hb3 B2 hW1 Q1 B1 R1
  go_wp2_with (with_reducible (show wpList _ _ _ (Oper.mk _ (Op.store _ _ _) _ _ _ _ :: _) _ _); refine wpList_store_newD _ rfl 41 (.tmp 6) (.tmp 13) rfl Z (bcs xs).toArray rfl rfl (by rw [HI.out, HSZX.out]) (by rw [HZ.out, HSZX.out]) HONX.out ?_; rw [HW3.out])
  have hu := HUU.out
  have hsz := HSZI.out
  rw [hf.out, hg.out]
  clear hv HW3
  refine wp_region_held (S := fun w' => w'.rangeAt f 0 (bcs xs)) (by kernel_rfl) ?_
  refine takeArr 0 (some 14) 41 (.tmp 6) f 0 (bcs xs) _ rfl (by kernel_rfl) (by kernel_rfl) (by kernel_rfl) (fun _ _ _ h => h) rfl (fun w' h => h) hu rfl hsz r3 ?_
  simp only [Act.put, List.setIfInBounds_toArray, List.set_cons_zero, List.set_cons_succ]
  refine takeArr 1 (some 15) 41 (.tmp 6) f 0 (bcs xs) _ rfl (by kernel_rfl) (by kernel_rfl) (by kernel_rfl) (fun _ _ _ h => h) rfl (fun w' h => h) hu rfl hsz r3 ?_
  simp only [Act.put, List.setIfInBounds_toArray, List.set_cons_zero, List.set_cons_succ]
  refine readyT 2 (some 16) (.call { callee := .value (.func 20), args := #[.tmp 15], argTypes := #[41] }) rfl (by kernel_rfl) ?_
  rintro o K hd ho hgd hK
  refine step_call (enters_of Try.func20 (by kernel_rfl) rfl) ho (vs := #[.agg (bcs xs).toArray]) (by kernel_rfl) (HSM.out _) ?_
  rintro e w4 ⟨rfl, hb4⟩
  refine ⟨_, rfl, ?_⟩
  rw [hd]
  have hb5 : Below w3.heap.size w3 w4 := ((Below.refl _ _).drew).trans hb4
  have F4 : Hid (Fv w4 f xs) := F3.out.below hb5
  have Q4 : Hid (Bkv w4 g 0 (.slice none 0 0)) := Q3.out.below hb5
  have B4 : Hid (Below g w w4) := B3.out.trans (hb5.mono (Nat.le_of_lt Q3.out.lt))
  have r4 : w4.rangeAt f 0 (bcs xs) := F4.out.range
  refine hK _ _ r4 ?_
  clear hb4 hb5 ho hd hgd hK r3 F3 Q3 B3
  simp only [Act.put, List.setIfInBounds_toArray, List.set_cons_zero, List.set_cons_succ]
  refine takeT 3 (some 17) (.binOp .neq 41 (.tmp 14) (.tmp 16) 41) (Value.bool true) rfl (by kernel_rfl) (by kernel_rfl) (by kernel_rfl) (fun _ _ _ h => h) ?hy r4 ?_
  case hy =>
    rintro o ho w' hS1
    go_simp
  simp only [Act.put, List.setIfInBounds_toArray, List.set_cons_zero, List.set_cons_succ]
  refine wpAnyH_done (by kernel_rfl) ?_ _
  have q0 := Q4.out.c0
  have q1 := Q4.out.c1
  have f0 := Q4.out.fz 0
  have f1 := Q4.out.fz 1
  have HLD := hideP (Q4.out.put 0 (.slice none 0 0)).load
  have HBE : Hid (Below g w ((w4.setCell ⟨g, 0, none⟩ (.int .i64 0)).setCell ⟨g, 1, none⟩ (.slice none 0 0))) := (B4.out.setCell (Nat.le_refl _) _).setCell (Nat.le_refl _) _
  go_wp2_with fail
  refine bodyPost_ret (v := .tuple #[blk 0 (.slice none 0 0), .int .i64 6]) (results_cellT (p := 4) (ty := 24) rfl _ _ _ g _ _ rfl HLD.out rfl) rfl ?_
  exact getR_bad HE.out (by decide) (by rw [hg.out]; exact HBE.out)
end Go.Proofs.Ytmidcmliiofefaa
