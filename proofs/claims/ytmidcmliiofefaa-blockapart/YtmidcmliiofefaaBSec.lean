/-
  The program's sector of a block that may be.
-/
import Derived.Test.YtmidcmliiofefaaBBlk
import Derived.Test.YtmidcmliiofefaaBSmd
import Derived.Deep.RegionLaw
namespace Go.Proofs.Ytmidcmliiofefaa
open Go.RowKit Pl
set_option linter.unusedVariables false
set_option linter.unusedSimpArgs false
set_option maxRecDepth 100000

theorem pre_eq (n k : Int) (ys : List Int) (h : ys.length ≤ 240) :
    splice ((((zz.set 0 k).set 1 (ys.length : Int)).set 2 (n % 256)).set 3 (n / 256)) 8 (ys.take 244) = pre n k ys ++ [0, 0, 0, 0] := by
  obtain ⟨H, hH⟩ : ∃ H, [k, (ys.length : Int), n % 256, n / 256, 0, 0, 0, 0] = H := ⟨_, rfl⟩
  have hl : H.length = 8 := by rw [← hH]; rfl
  have e : (((zz.set 0 k).set 1 (ys.length : Int)).set 2 (n % 256)).set 3 (n / 256) = H ++ List.replicate 248 0 := by rw [← hH]; rfl
  rw [e, List.take_of_length_le (by omega)]
  unfold splice pre
  rw [hH, List.take_append_of_le_length (by omega), List.take_of_length_le (by omega), List.drop_append, List.drop_of_length_le (l := H) (by omega), List.nil_append, hl, List.drop_replicate]
  rw [show (248 : Nat) - (8 + ys.length - 8) = (244 - ys.length) + 4 by omega, ← List.replicate_append_replicate]
  simp only [List.append_assoc]
  rfl

theorem leN_1 (N : Nat) (h : N < 256) : leN 1 (N : Int) = [(N : Int)] := by
  unfold leN
  simp [List.range_succ]
  omega
theorem leN_2 (N : Nat) (h : N < 65536) : leN 2 (N : Int) = [(N : Int) % 256, (N : Int) / 256] := by
  unfold leN
  simp [List.range_succ]
  omega
theorem head_eq (n k l : Nat) (hn : n < 65536) (hk : k < 256) (hl : l < 256) : splice (splice (splice zz 0 (leN 1 (k : Int))) 1 (leN 1 (l : Int))) 2 (leN 2 (n : Int)) = (((zz.set 0 (k : Int)).set 1 (l : Int)).set 2 ((n : Int) % 256)).set 3 ((n : Int) / 256) := by
  rw [leN_1 k hk, leN_1 l hl, leN_2 n hn, splice_next (by rfl) (by rw [spliceU_len (by rw [zz_len]; simp), zz_len]; simp), splice_next (by rfl) (by rw [zz_len]; simp)]
  rfl

set_option maxHeartbeats 400000 in
theorem sectorOf_any (n k : Int) (v : Value) (ys : List Int) (w : World) (hr : Rd .u8 w v ys) (hb : By ys) (hm : mayK n k ys.length = true) :
    Calls Try.prog 18 #[.int .i64 n, blk k v] w fun e w' => e = .returned (.agg (bcs (sec n k ys)).toArray) ∧ Below w.heap.size w w' := by
  obtain ⟨a, cap, rfl, h1, h2, _⟩ := id hr
  obtain ⟨m1, m2, m3, m4, m5⟩ := mayK_iff.1 hm
  obtain ⟨hv, hi⟩ := zero_of_info info_frm
  have HSL := slice_frm_lh
  have HR : Hid (Rd .u8 w (.slice a ys.length cap) ys) := hr
  have HY : Hid (By ys) := hb
  have HI : Hid ((Try.prog.info? 41).map (·.size) = some 256) := hi
  obtain ⟨W1, hW1⟩ : ∃ W1, w.alloc (.cells #[.int .i64 k, .slice a ys.length cap] 24) = W1 := ⟨_, rfl⟩
  obtain ⟨W2, hW2⟩ : ∃ W2, W1.alloc (.cells (bcs zz).toArray 41) = W2 := ⟨_, rfl⟩
  obtain ⟨W3, hW3⟩ : ∃ W3, W2.alloc (.cells (bcs zz).toArray 41) = W3 := ⟨_, rfl⟩
  have s1 : W1.heap.size = w.heap.size + 1 := by rw [← hW1]; simp
  have s2 : W2.heap.size = w.heap.size + 1 + 1 := by rw [← hW2]; simp [s1]
  have s3 : Hid (W3.heap.size = w.heap.size + 3) := by show _ = _; rw [← hW3]; simp [s2]
  have b1 : Below w.heap.size w W1 := by rw [← hW1]; exact (Below.refl _ _).alloc (Nat.le_refl _) _
  have b2 : Below W1.heap.size W1 W2 := by rw [← hW2]; exact (Below.refl _ _).alloc (Nat.le_refl _) _
  have b3 : Below W2.heap.size W2 W3 := by rw [← hW3]; exact (Below.refl _ _).alloc (Nat.le_refl _) _
  have Q1 : Bkv W1 w.heap.size k (.slice a ys.length cap) := by rw [← hW1]; exact bkv_new w _ _
  have Q3 : Hid (Bkv W3 w.heap.size k (.slice a ys.length cap)) := (Q1.below b2).below b3
  have F2 : Fv W2 (w.heap.size + 1) zz := by rw [← hW2, ← s1]; exact fv_new W1 zz_len zz_by
  have FR : Hid (Fv W3 (w.heap.size + 1) zz) := F2.below b3
  have FS : Hid (Fv W3 (w.heap.size + 1 + 1) zz) := by rw [← hW3, ← s2]; exact fv_new W2 zz_len zz_by
  have BB : Hid (Below w.heap.size w W3) := b1.trans ((b2.trans (b3.mono (by omega))).mono (by omega))
  have q0 := Q3.out.c0
  have q1 := Q3.out.c1
  have hc : cap ≤ 9223372036854775807 := by unfold maxLen at h2; omega
  obtain ⟨Z, hZ⟩ : ∃ Z, Hid ((bcs zz).toArray = Z) := ⟨_, rfl⟩
  rw [hZ.out] at hv hW2 hW3
  obtain ⟨l, hl⟩ : ∃ l, Hid (ys.length = l) := ⟨_, rfl⟩
  rw [hl.out] at HR h1 m5 hm hW1 q1 Q3 ⊢
  obtain ⟨nn, rfl⟩ : ∃ nn : Nat, n = nn := ⟨n.toNat, by omega⟩
  obtain ⟨kk, rfl⟩ : ∃ kk : Nat, k = kk := ⟨k.toNat, by omega⟩
  have hkk : kk < 256 := by omega
  have hnn : nn < 65536 := by omega
  have HM : Hid (((0 : Int) ≤ (nn : Int) ∧ (nn : Int) ≤ 65535) ∧ ((1 : Int) ≤ (kk : Int) ∧ (kk : Int) ≤ 4)) := ⟨⟨m1, m2⟩, m3, m4⟩
  clear Q1 F2 b1 b2 b3 hi h2 hr hb m1 m2 m3 m4 hm
  unfold blk
  go_enter Try.func18, Try.ntmps18
  go_wp2_with fail
  obtain ⟨g, hg⟩ : ∃ g, Hid (w.heap.size = g) := ⟨_, rfl⟩
  rw [hg.out] at Q3 FR FS BB s3 ⊢
  clear hW1 hW2 hW3 q0 q1 hv
  refine (setU_any (g + 1 + 1) 0 1 kk zz W3 FS.out (by omega) (by decide) (by decide)).mono ?_
  rintro e w4 ⟨rfl, f4, t4⟩
  have F4 : Hid (Fu w4 (g + 1 + 1) (splice zz 0 (leN 1 (kk : Int)))) := f4
  have Q4 : Hid (Bkv w4 g (kk : Int) (.slice a l cap)) := Q3.out.tch t4 (by omega)
  have R4 : Hid (Fv w4 (g + 1) zz) := FR.out.tch t4 (by omega)
  have B4 : Hid (Below g w w4) := BB.out.trans (t4.below (by rw [s3.out]; omega) (fun k e => by rw [e]; omega))
  have z4 : Hid (g + 3 ≤ w4.heap.size) := by show _ ≤ _; have := t4.size; rw [s3.out] at this; exact this
  have p1 := Q4.out.c1
  clear f4 t4 Q3 FR FS BB
  go_wp2_with fail
  refine (setU_any (g + 1 + 1) 1 1 l _ w4 F4.out (by omega) (by decide) (by decide)).mono ?_
  rintro e w5 ⟨rfl, f5, t5⟩
  have F5 : Hid (Fu w5 (g + 1 + 1) (splice (splice zz 0 (leN 1 (kk : Int))) 1 (leN 1 (l : Int)))) := f5
  have Q5 : Hid (Bkv w5 g (kk : Int) (.slice a l cap)) := Q4.out.tch t5 (by omega)
  have R5 : Hid (Fv w5 (g + 1) zz) := R4.out.tch t5 (by omega)
  have B5 : Hid (Below g w w5) := B4.out.trans (t5.below (by have := z4.out; omega) (fun k e => by rw [e]; omega))
  have z5 : Hid (g + 3 ≤ w5.heap.size) := by show _ ≤ _; have := t5.size; have := z4.out; omega
  clear f5 t5 Q4 R4 B4 F4 p1 z4
  go_wp2_with fail
  refine (setU_any (g + 1 + 1) 2 2 nn _ w5 F5.out (by omega) (by decide) (by decide)).mono ?_
  rintro e W4 ⟨rfl, f6, t6⟩
  rw [head_eq nn kk l hnn hkk (by omega)] at f6
  have F4 : Hid (Fv W4 (g + 1 + 1) ((((zz.set 0 (kk : Int)).set 1 (l : Int)).set 2 ((nn : Int) % 256)).set 3 ((nn : Int) / 256))) := f6
  have Q4 : Hid (Bkv W4 g (kk : Int) (.slice a l cap)) := Q5.out.tch t6 (by omega)
  have R4 : Hid (Fv W4 (g + 1) zz) := R5.out.tch t6 (by omega)
  have B4 : Hid (Below g w W4) := B5.out.trans (t6.below (by have := z5.out; omega) (fun k e => by rw [e]; omega))
  have HR4 : Hid (Rd .u8 W4 (.slice a l cap) ys) := HR.out.below (hg.out ▸ B4.out : Below w.heap.size w W4)
  have c1 := Q4.out.c1
  clear f6 t6 Q5 R5 B5 F5 z5
  generalize hL4 : (((zz.set 0 (kk : Int)).set 1 (l : Int)).set 2 ((nn : Int) % 256)).set 3 ((nn : Int) / 256) = L4 at F4
  have HL4 : Hid ((((zz.set 0 (kk : Int)).set 1 (l : Int)).set 2 ((nn : Int) % 256)).set 3 ((nn : Int) / 256) = L4) := hL4
  clear hL4 s1 s2 s3
  go_wp2_with fail
  refine wp_region_still_tail 3 (by kernel_rfl) (by kernel_rfl) ?_
  simp only [List.take_succ_cons, List.take_zero, List.drop_succ_cons, List.drop_zero]
  repeat still_step
  refine wpStill_nil ?_
  change wpList _ _ _ _ _ W4.drew
  have FT : 8 + min ys.length 244 ≤ L4.length := by rw [F4.out.2.1, hl.out]; omega
  refine wpList_copyB _ rfl (.tmp 15) (.tmp 17) rfl (g + 1 + 1) 8 244 248 (by kernel_rfl) L4 41 F4.out.1 _ ys (by kernel_rfl) (HR4.out.below ((Below.refl _ _).drew)) FT (g + 1 + 1) W4 ((Below.refl _ _).drew) (Nat.le_refl _) ?_
  intro w5 M5 N5
  rw [← HL4.out, ← hl.out, pre_eq (nn : Int) (kk : Int) ys (by rw [hl.out]; omega)] at M5
  have hpl : (pre (nn : Int) (kk : Int) ys).length = 252 := pre_len (nn : Int) (kk : Int) (by rw [hl.out]; omega)
  have F5 : Hid (Fv w5 (g + 1 + 1) (pre (nn : Int) (kk : Int) ys ++ [0, 0, 0, 0])) := ⟨M5.out, by rw [List.length_append, hpl]; rfl, (pre_by HM.out.1 HM.out.2 HY.out (by rw [hl.out]; omega)).appendB (by_of_memB (by simp))⟩
  have R5 : Hid (Fv w5 (g + 1) zz) := by
    refine ⟨?_, R4.out.2⟩
    rw [N5.out.block (g + 1) (by omega)]
    exact R4.out.1
  have B5 : Hid (Below g w w5) := B4.out.trans (N5.out.mono (by omega))
  have HS : Hid (smd (pre (nn : Int) (kk : Int) ys ++ [0, 0, 0, 0]) = sec (nn : Int) (kk : Int) ys) := smd_pre (nn : Int) (kk : Int) (by rw [hl.out]; omega)
  have HSL : Hid ((sec (nn : Int) (kk : Int) ys).length = 256) := sec_len (nn : Int) (kk : Int) (by rw [hl.out]; omega)
  have HSB : Hid (By (sec (nn : Int) (kk : Int) ys)) := sec_by HM.out.1 HM.out.2 HY.out (by rw [hl.out]; omega)
  have HRG : Hid (w5.rangeAt (g + 1 + 1) 0 (bcs (pre (nn : Int) (kk : Int) ys ++ [0, 0, 0, 0]))) := F5.out.range
  have HPL : Hid ((bcs (pre (nn : Int) (kk : Int) ys ++ [0, 0, 0, 0])).length = 256) := by show _ = _; rw [bcs_len]; exact F5.out.2.1
  generalize pre (nn : Int) (kk : Int) ys ++ [0, 0, 0, 0] = P at *
  generalize goInt (List.take 244 ys).length = gi
  clear M5 N5 B4 R4 HR4 F4 Q4 c1 FT HL4 hpl
  go_wp2_with (with_reducible (show wpList _ _ _ (Oper.mk _ (Op.load _ _) _ _ _ _ :: _) _ _); refine wpList_load_mid rfl 41 (.tmp 5) rfl (g + 1 + 1) 0 rfl (bcs P) _ HRG.out Try.underlying41 rfl (by rw [HPL.out]; exact HI.out) ?_)
  refine (summed_any P w5 F5.out.2.1 F5.out.2.2).mono ?_
  rintro e w6 ⟨rfl, hb6⟩
  rw [HS.out]
  have R6 : Hid (Fv w6 (g + 1) zz) := R5.out.below hb6
  have B6 : Hid (Below g w w6) := B5.out.trans (hb6.mono (by have := F5.out.lt; omega))
  have HT : Hid (w6.there (g + 1) 0 256) := R6.out.there
  have HSZ : Hid ((bcs (sec (nn : Int) (kk : Int) ys)).toArray.size = 256) := bcs_size HSL.out
  have HON : Hid ((bcs (sec (nn : Int) (kk : Int) ys)).toArray.all (·.oneCell') = true) := bcs_all _
  have HP : Hid (Fv (w6.setCells (g + 1) 0 (bcs (sec (nn : Int) (kk : Int) ys))) (g + 1) (sec (nn : Int) (kk : Int) ys)) := R6.out.put HSL.out HSB.out
  have HBB : Hid (Below g w (w6.setCells (g + 1) 0 (bcs (sec (nn : Int) (kk : Int) ys)))) := B6.out.trans ((setCells_tchD (g + 1) _ 0 w6).below (by have := R6.out.lt; omega) (fun k e => by omega))
  clear hb6 F5 R5 B5 HRG HPL HS
  go_wp2_with (with_reducible (show wpList _ _ _ (Oper.mk _ (Op.store _ _ _) _ _ _ _ :: _) _ _); refine wpList_store_mid rfl 41 (.tmp 4) (.tmp 20) rfl (g + 1) 0 (bcs (sec (nn : Int) (kk : Int) ys)).toArray rfl rfl (by rw [HSZ.out]; exact HT.out) (by rw [HSZ.out]; exact HI.out) HON.out ?_)
  refine bodyPost_ret (v := .agg (bcs (sec (nn : Int) (kk : Int) ys)).toArray) ?_ rfl ⟨rfl, ?_⟩
  · exact results_atB (p := 4) (ty := 41) rfl _ _ _ (g + 1) _ rfl (by simpa using HP.out.load)
  · rw [hg.out]; simpa using HBB.out
end Go.Proofs.Ytmidcmliiofefaa
