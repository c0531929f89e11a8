/-
  The program's sector of a piece.
-/
import Derived.Test.YtaacidgihhcpkaaJMem
import Derived.Test.YtaacidgihhcpkaaFrOf
import Derived.Deep.RegionLaw
namespace Go.Proofs.Ytaacidgihhcpkaa
open Go.RowKit Pl
set_option linter.unusedVariables false
set_option linter.unusedSimpArgs false
set_option maxRecDepth 100000

theorem slice_frm_lhU (g : Nat) (w : World) : (Instr.sliceAt 79 (.pointer (some ⟨g, 0, none⟩)) (some (.int .i64 12)) (some (.int .i64 252)) none).run Try.prog w = .ok (.slice (some ⟨g, 12, none⟩) 240 244) w := by
  have := run_sliceAt_array_lh w 79 ⟨g, 0, none⟩ arr_undU .i64 .i64 12 252 (by omega) (by omega) (by rw [arr_lenU]; omega)
  rw [arr_lenU, arr_elU] at this
  rw [this]
  simp [slicedAt, go_sem]
theorem jpre_end {p : Pc} (h : p.ys.length ≤ 240) : splice zz 0 (jhd p ++ p.ys) = jpre p ++ [0, 0, 0, 0] := by
  unfold splice jpre
  rw [List.take_zero, List.nil_append, zz_drop, List.length_append, jhd_len]
  rw [show 256 - (0 + (12 + p.ys.length)) = (240 - p.ys.length) + 4 by omega, ← List.replicate_append_replicate]
  simp only [List.append_assoc]
  rfl
theorem jhd_eq (p : Pc) : ((((leN 1 74 ++ leN 1 (p.pl : Int)) ++ leN 1 (p.mn : Int)) ++ leN 1 (p.ys.length : Int)) ++ leN 4 (p.gen : Int)) ++ leN 4 (p.num : Int) = jhd p := by simp [jhd]

set_option maxHeartbeats 1000000 in
theorem sectorOfJ_any (p : Pc) (v : Value) (w : World) (hr : Rd .u8 w v p.ys) (hb : By p.ys) (hp : OkR p) :
    Calls Try.prog 36 #[pcv p v] w fun e w' => e = .returned (.agg (bcs (jsec p)).toArray) ∧ Below w.heap.size w w' := by
  obtain ⟨a, cap, rfl, hc1, hc2, _⟩ := id hr
  obtain ⟨hv, hi⟩ := zero_of_info info_frmU
  have HSL := slice_frm_lhU
  have HR : Hid (Rd .u8 w (.slice a p.ys.length cap) p.ys) := hr
  have HY : Hid (By p.ys) := hb
  have HP : Hid (OkR p) := hp
  have HI : Hid ((Try.prog.info? 79).map (·.size) = some 256) := hi
  have HH := hideP (jhd_eq p)
  have HE := hideP (jpre_end hp.len)
  have HSM := hideP (smd_jpre hp.len [0, 0, 0, 0])
  have HJL : Hid ((jsec p).length = 256) := jsec_len hp.len
  have HJB : Hid (By (jsec p)) := jsec_by hb
  have HPL : Hid ((jpre p ++ [0, 0, 0, 0]).length = 256) := by show _ = _; rw [List.length_append, jpre_len hp.len]; rfl
  have HPB : Hid (By (jpre p ++ [0, 0, 0, 0])) := (jpre_by hb).appendB (by_of_memB (by simp))
  have q1 := hp.pl
  have q2 := hp.mn
  have q3 := hp.gen
  have q4 := hp.num
  have q5 := hp.len
  obtain ⟨P, M, G, N, ys⟩ := p
  dsimp only at HR HY HH HE q1 q2 q3 q4 q5 hc1
  unfold pcv
  dsimp only
  obtain ⟨jp, hjp⟩ : ∃ jp, Hid (jpre ⟨P, M, G, N, ys⟩ = jp) := ⟨_, rfl⟩
  obtain ⟨jh, hjh⟩ : ∃ jp, Hid (jhd ⟨P, M, G, N, ys⟩ = jp) := ⟨_, rfl⟩
  have HHL : Hid (jh.length = 12) := by show _ = _; rw [← hjh.out, jhd_len]
  obtain ⟨js, hjs⟩ : ∃ jp, Hid (jsec ⟨P, M, G, N, ys⟩ = jp) := ⟨_, rfl⟩
  rw [hjs.out] at HJL HJB HSM ⊢
  rw [hjp.out] at HE HSM HPL HPB
  rw [hjh.out] at HE HH
  clear hp HP hb hr
  obtain ⟨W1, hW1⟩ : ∃ W1, w.alloc (.cells #[.int .i64 (P : Int), .int .i64 (M : Int), .int .i64 (G : Int), .int .i64 (N : Int), .slice a ys.length cap] 82) = W1 := ⟨_, rfl⟩
  obtain ⟨W2, hW2⟩ : ∃ W2, W1.alloc (.cells (bcs zz).toArray 79) = W2 := ⟨_, rfl⟩
  obtain ⟨W3, hW3⟩ : ∃ W3, W2.alloc (.cells (bcs zz).toArray 79) = W3 := ⟨_, rfl⟩
  have s1 : W1.heap.size = w.heap.size + 1 := by rw [← hW1]; simp
  have s2 : W2.heap.size = w.heap.size + 1 + 1 := by rw [← hW2]; simp [s1]
  have b1 : Below w.heap.size w W1 := by rw [← hW1]; exact (Below.refl _ _).alloc (Nat.le_refl _) _
  have b2 : Below W1.heap.size W1 W2 := by rw [← hW2]; exact (Below.refl _ _).alloc (Nat.le_refl _) _
  have b3 : Below W2.heap.size W2 W3 := by rw [← hW3]; exact (Below.refl _ _).alloc (Nat.le_refl _) _
  have Q1 : Bo W1 w.heap.size 82 [.int .i64 (P : Int), .int .i64 (M : Int), .int .i64 (G : Int), .int .i64 (N : Int), .slice a ys.length cap] := by rw [← hW1]; exact bo_new w _ _
  have Q3 : Hid (Bo W3 w.heap.size 82 [.int .i64 (P : Int), .int .i64 (M : Int), .int .i64 (G : Int), .int .i64 (N : Int), .slice a ys.length cap]) := (Q1.below b2).below b3
  have F2 : Fu W2 (w.heap.size + 1) zz := by rw [← hW2, ← s1]; exact fv_newU W1 zz_len zz_by
  have R3 : Hid (Fu W3 (w.heap.size + 1) zz) := F2.below b3
  have F3 : Hid (Fu W3 (w.heap.size + 1 + 1) zz) := by rw [← hW3, ← s2]; exact fv_newU W2 zz_len zz_by
  have B3 : Hid (Below w.heap.size w W3) := b1.trans ((b2.trans (b3.mono (by omega))).mono (by omega))
  obtain ⟨Z, hZ⟩ : ∃ Z, Hid ((bcs zz).toArray = Z) := ⟨_, rfl⟩
  rw [hZ.out] at hv hW2 hW3
  obtain ⟨l, hl⟩ : ∃ l, Hid (ys.length = l) := ⟨_, rfl⟩
  rw [hl.out] at HR hc1 q5 hW1 Q3 HH ⊢
  have hc : cap ≤ 9223372036854775807 := by unfold maxLen at hc2; omega
  clear Q1 F2 b1 b2 b3 hi hc2
  go_enter Try.func36, Try.ntmps36
  go_wp2_with fail
  obtain ⟨g, hg⟩ : ∃ g, Hid (w.heap.size = g) := ⟨_, rfl⟩
  rw [hg.out] at Q3 R3 F3 B3 ⊢
  clear hW1 hW2 hW3 s1 s2
  refine (setU_any (g + 1 + 1) 0 1 74 _ W3 F3.out (by omega) (by decide) (by decide)).mono ?_
  rintro e w4 ⟨rfl, f4, t4⟩
  rw [show ((74 : Nat) : Int) = 74 from rfl] at f4
  have F4 : Hid (Fu w4 (g + 1 + 1) (splice zz 0 (leN 1 74))) := f4
  have Q4 : Hid (Bo w4 g 82 [.int .i64 (P : Int), .int .i64 (M : Int), .int .i64 (G : Int), .int .i64 (N : Int), .slice a l cap]) := Q3.out.tch t4 (by omega)
  have R4 : Hid (Fu w4 (g + 1) zz) := R3.out.tch t4 (by omega)
  have B4 : Hid (Below g w w4) := B3.out.trans (t4.below (by have := F3.out.lt; omega) (fun k e => by rw [e]; omega))
  have c4 := Q4.out.cell (i := 0) rfl
  clear f4 t4 F3 Q3 R3 B3
  go_wp2_with fail
  refine (setU_any (g + 1 + 1) 1 1 P _ w4 F4.out (by omega) (by decide) (by decide)).mono ?_
  rintro e w5 ⟨rfl, f5, t5⟩
  rw [splice_next (by simp only [List.length_append, leN_len]) (by rw [leN_len, zz_len]; decide)] at f5
  have F5 : Hid (Fu w5 (g + 1 + 1) (splice zz 0 ((leN 1 74) ++ leN 1 (P : Int)))) := f5
  have Q5 : Hid (Bo w5 g 82 [.int .i64 (P : Int), .int .i64 (M : Int), .int .i64 (G : Int), .int .i64 (N : Int), .slice a l cap]) := Q4.out.tch t5 (by omega)
  have R5 : Hid (Fu w5 (g + 1) zz) := R4.out.tch t5 (by omega)
  have B5 : Hid (Below g w w5) := B4.out.trans (t5.below (by have := F4.out.lt; omega) (fun k e => by rw [e]; omega))
  have c5 := Q5.out.cell (i := 1) rfl
  clear f5 t5 F4 Q4 R4 B4 c4
  go_wp2_with fail
  refine (setU_any (g + 1 + 1) 2 1 M _ w5 F5.out (by omega) (by decide) (by decide)).mono ?_
  rintro e w6 ⟨rfl, f6, t6⟩
  rw [splice_next (by simp only [List.length_append, leN_len]) (by rw [leN_len, zz_len]; decide)] at f6
  have F6 : Hid (Fu w6 (g + 1 + 1) (splice zz 0 (((leN 1 74) ++ leN 1 (P : Int)) ++ leN 1 (M : Int)))) := f6
  have Q6 : Hid (Bo w6 g 82 [.int .i64 (P : Int), .int .i64 (M : Int), .int .i64 (G : Int), .int .i64 (N : Int), .slice a l cap]) := Q5.out.tch t6 (by omega)
  have R6 : Hid (Fu w6 (g + 1) zz) := R5.out.tch t6 (by omega)
  have B6 : Hid (Below g w w6) := B5.out.trans (t6.below (by have := F5.out.lt; omega) (fun k e => by rw [e]; omega))
  have c6 := Q6.out.cell (i := 4) rfl
  clear f6 t6 F5 Q5 R5 B5 c5
  go_wp2_with fail
  refine (setU_any (g + 1 + 1) 3 1 l _ w6 F6.out (by omega) (by decide) (by decide)).mono ?_
  rintro e w7 ⟨rfl, f7, t7⟩
  rw [splice_next (by simp only [List.length_append, leN_len]) (by rw [leN_len, zz_len]; decide)] at f7
  have F7 : Hid (Fu w7 (g + 1 + 1) (splice zz 0 ((((leN 1 74) ++ leN 1 (P : Int)) ++ leN 1 (M : Int)) ++ leN 1 (l : Int)))) := f7
  have Q7 : Hid (Bo w7 g 82 [.int .i64 (P : Int), .int .i64 (M : Int), .int .i64 (G : Int), .int .i64 (N : Int), .slice a l cap]) := Q6.out.tch t7 (by omega)
  have R7 : Hid (Fu w7 (g + 1) zz) := R6.out.tch t7 (by omega)
  have B7 : Hid (Below g w w7) := B6.out.trans (t7.below (by have := F6.out.lt; omega) (fun k e => by rw [e]; omega))
  have c7 := Q7.out.cell (i := 2) rfl
  clear f7 t7 F6 Q6 R6 B6 c6
  go_wp2_with fail
  refine (setU_any (g + 1 + 1) 4 4 G _ w7 F7.out (by omega) (by decide) (by decide)).mono ?_
  rintro e w8 ⟨rfl, f8, t8⟩
  rw [splice_next (by simp only [List.length_append, leN_len]) (by rw [leN_len, zz_len]; decide)] at f8
  have F8 : Hid (Fu w8 (g + 1 + 1) (splice zz 0 (((((leN 1 74) ++ leN 1 (P : Int)) ++ leN 1 (M : Int)) ++ leN 1 (l : Int)) ++ leN 4 (G : Int)))) := f8
  have Q8 : Hid (Bo w8 g 82 [.int .i64 (P : Int), .int .i64 (M : Int), .int .i64 (G : Int), .int .i64 (N : Int), .slice a l cap]) := Q7.out.tch t8 (by omega)
  have R8 : Hid (Fu w8 (g + 1) zz) := R7.out.tch t8 (by omega)
  have B8 : Hid (Below g w w8) := B7.out.trans (t8.below (by have := F7.out.lt; omega) (fun k e => by rw [e]; omega))
  have c8 := Q8.out.cell (i := 3) rfl
  clear f8 t8 F7 Q7 R7 B7 c7
  go_wp2_with fail
  refine (setU_any (g + 1 + 1) 8 4 N _ w8 F8.out (by omega) (by decide) (by decide)).mono ?_
  rintro e w9 ⟨rfl, f9, t9⟩
  rw [splice_next (by simp only [List.length_append, leN_len]) (by rw [leN_len, zz_len]; decide)] at f9
  rw [HH.out] at f9
  have F9 : Hid (Fu w9 (g + 1 + 1) (splice zz 0 (jh))) := f9
  have Q9 : Hid (Bo w9 g 82 [.int .i64 (P : Int), .int .i64 (M : Int), .int .i64 (G : Int), .int .i64 (N : Int), .slice a l cap]) := Q8.out.tch t9 (by omega)
  have R9 : Hid (Fu w9 (g + 1) zz) := R8.out.tch t9 (by omega)
  have B9 : Hid (Below g w w9) := B8.out.trans (t9.below (by have := F8.out.lt; omega) (fun k e => by rw [e]; omega))
  have c9 := Q9.out.cell (i := 4) rfl
  clear f9 t9 F8 Q8 R8 B8 c8
  go_wp2_with fail
  have HR9 : Hid (Rd .u8 w9 (.slice a l cap) ys) := HR.out.below (hg.out ▸ B9.out : Below w.heap.size w w9)
  have FT : 12 + min ys.length 240 ≤ (splice zz 0 jh).length := by rw [F9.out.2.1, hl.out]; omega
  refine wp_region_still_tail 3 (by kernel_rfl) (by kernel_rfl) ?_
  simp only [List.take_succ_cons, List.take_zero, List.drop_succ_cons, List.drop_zero]
  repeat still_step
  refine wpStill_nil ?_
  change wpList _ _ _ _ _ w9.drew
  refine wpList_copyU _ rfl (.tmp 25) (.tmp 27) rfl (g + 1 + 1) 12 240 244 (by kernel_rfl) (splice zz 0 jh) 79 F9.out.1 _ ys (by kernel_rfl) (HR9.out.below ((Below.refl _ _).drew)) FT (g + 1 + 1) w9 ((Below.refl _ _).drew) (Nat.le_refl _) ?_
  intro w5 M5 N5
  rw [List.take_of_length_le (l := ys) (by rw [hl.out]; omega), splice_next (by rw [HHL.out]) (by rw [hl.out, zz_len]; omega), HE.out] at M5
  have F5 : Hid (Fu w5 (g + 1 + 1) (jp ++ [0, 0, 0, 0])) := ⟨M5.out, HPL.out, HPB.out⟩
  have R5 : Hid (Fu w5 (g + 1) zz) := ⟨by rw [N5.out.block (g + 1) (by omega)]; exact R9.out.1, R9.out.2⟩
  have B5 : Hid (Below g w w5) := B9.out.trans (N5.out.mono (by omega))
  have HRG : Hid (w5.rangeAt (g + 1 + 1) 0 (bcs (jp ++ [0, 0, 0, 0]))) := F5.out.range
  have HBL : Hid ((bcs (jp ++ [0, 0, 0, 0])).length = 256) := by show _ = _; rw [bcs_len]; exact HPL.out
  generalize jp ++ [0, 0, 0, 0] = PP at *
  generalize goInt (List.take 240 ys).length = gi
  clear M5 N5 FT HR9 F9 Q9 R9 B9 c9 HE
  go_wp2_with (with_reducible (show wpList _ _ _ (Oper.mk _ (Op.load _ _) _ _ _ _ :: _) _ _); refine wpList_load_mid rfl 79 (.tmp 3) rfl (g + 1 + 1) 0 rfl (bcs PP) _ HRG.out Try.underlying79 rfl (by rw [HBL.out]; exact HI.out) ?_)
  refine (summedU_any PP w5 F5.out.2.1 F5.out.2.2).mono ?_
  rintro e w6 ⟨rfl, hb6⟩
  rw [HSM.out]
  have R6 : Hid (Fu w6 (g + 1) zz) := R5.out.below hb6
  have B6 : Hid (Below g w w6) := B5.out.trans (hb6.mono (by have := F5.out.lt; omega))
  have HT : Hid (w6.there (g + 1) 0 256) := R6.out.there
  have HSZ : Hid ((bcs js).toArray.size = 256) := bcs_sizeU HJL.out
  have HON : Hid ((bcs js).toArray.all (·.oneCell') = true) := bcs_all _
  have HPT : Hid (Fu (w6.setCells (g + 1) 0 (bcs js)) (g + 1) js) := R6.out.put HJL.out HJB.out
  have HBB : Hid (Below g w (w6.setCells (g + 1) 0 (bcs js))) := B6.out.trans ((setCells_tchD (g + 1) _ 0 w6).below (by have := R6.out.lt; omega) (fun k e => by omega))
  clear hb6 F5 R5 B5 HRG HBL HSM
  go_wp2_with (with_reducible (show wpList _ _ _ (Oper.mk _ (Op.store _ _ _) _ _ _ _ :: _) _ _); refine wpList_store_mid rfl 79 (.tmp 2) (.tmp 30) rfl (g + 1) 0 (bcs js).toArray rfl rfl (by rw [HSZ.out]; exact HT.out) (by rw [HSZ.out]; exact HI.out) HON.out ?_)
  refine bodyPost_ret (v := .agg (bcs js).toArray) ?_ rfl ⟨rfl, ?_⟩
  · exact results_atU (p := 2) (ty := 79) rfl _ _ _ (g + 1) _ rfl (by simpa using HPT.out.load)
  · rw [hg.out]; simpa using HBB.out
end Go.Proofs.Ytaacidgihhcpkaa
