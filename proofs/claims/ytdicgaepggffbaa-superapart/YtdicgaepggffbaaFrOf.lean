/-
  A sector as a value, of bytes; and with its sum.
-/
import Derived.Test.YtdicgaepggffbaaUSet
import Derived.Test.YtdicgaepggffbaaSCrc
namespace Go.Proofs.Ytdicgaepggffbaa
open Go.RowKit Pl
set_option linter.unusedVariables false
set_option linter.unusedSimpArgs false
set_option maxRecDepth 100000

theorem inf_u8U : (Try.prog.info? 5).map (·.size) = some 1 := by kernel_rfl
theorem bcsU_splice (L cs : List Int) (off : Nat) : splice (bcs L) off (bcs cs) = bcs (splice L off cs) := by
  unfold splice bcs
  simp only [List.map_append, List.map_take, List.map_drop, List.length_map]
/-- 'copy(d, s)' into a block of bytes. -/
theorem wpList_copyU (w : World) {ops : Array Oper} {rest : List Oper} {o : Oper} {a : Act} {Q : Exit → Act → World → Prop} (hgd : o.guard = none) (d s : Operand)
    (ho : o.op = .call { callee := .builtin .copy, args := #[d, s], argTypes := #[25, 25] }) (g off dLen dCap : Nat) (hd : a.eval d = .slice (some ⟨g, off, none⟩) dLen dCap)
    (cur : List Int) (t : TypeId) (hg : w.heap[g]? = some (.cells (bcs cur).toArray t (0, 0))) (v : Value) (xs : List Int) (hs : a.eval s = v) (hr : Rd .u8 w v xs) (hfit : off + min xs.length dLen ≤ cur.length)
    (B : Nat) (w0 : World) (hB : Below B w0 w) (hBg : B ≤ g)
    (h : ∀ w', Hid (w'.heap[g]? = some (.cells (bcs (splice cur off (xs.take dLen))).toArray t (0, 0))) → Hid (Below B w0 w') → wpList Try.prog ops Q rest (a.put o.dst (goInt (xs.take dLen).length)) w') : wpList Try.prog ops Q (o :: rest) a w := by
  obtain ⟨sp, cap, rfl, h1, h2, h3, h4⟩ := hr
  refine wpList_copy_splice hgd d s 25 25 ho 5 Try.underlying25 inf_u8U (some ⟨g, off, none⟩) sp dLen dCap xs.length cap hd hs g off (bcs cur) t hg (bcs (xs.take dLen)) ?_ ?_ ?_ (bcs_one _) B w0 hB hBg ?_
  · rw [bcs_len, List.length_take]; exact Nat.min_comm _ _
  · intro hp
    refine ⟨rfl, ?_⟩
    rw [bcs_len, List.length_take] at hp
    rcases h4 with rfl | ⟨b, o, rfl, hc⟩
    · simp at hp
    · refine ⟨_, rfl, fun j u hu => ?_⟩
      have hjl : j < (bcs (xs.take dLen)).length := (List.getElem?_eq_some_iff.1 hu).1
      rw [bcs_len, List.length_take] at hjl
      rw [Addr.add_lit, hc j (by omega)]
      rw [bcs, List.getElem?_map, List.getElem?_take, if_pos (by omega), List.getElem?_eq_getElem (by omega)] at hu
      simp only [Option.map_some, Option.some.injEq] at hu
      rw [← hu, List.getD_eq_getElem?_getD, List.getElem?_eq_getElem (by omega)]
      rfl
  · rw [bcs_len, bcs_len, List.length_take]; omega
  · intro w' hh hb'
    have hh' := hh.out
    rw [bcsU_splice] at hh'
    rw [bcs_len]
    exact h w' hh' hb'
theorem splice_next {xs A B : List Int} {a b : Nat} (hb : b = a + A.length) (h : b + B.length ≤ xs.length) : splice (splice xs a A) b B = splice xs a (A ++ B) := by
  subst hb
  unfold splice
  have hl : (xs.take a).length = a := by rw [List.length_take]; omega
  have e1 : (xs.take a ++ (A ++ xs.drop (a + A.length))).take (a + A.length) = xs.take a ++ A := by
    rw [← List.append_assoc, List.take_append_of_le_length (by rw [List.length_append, hl]; exact Nat.le_refl _), List.take_of_length_le (by rw [List.length_append, hl]; exact Nat.le_refl _)]
  have e2 : (xs.take a ++ (A ++ xs.drop (a + A.length))).drop (a + A.length + B.length) = xs.drop (a + (A ++ B).length) := by
    rw [← List.append_assoc, List.drop_append, List.drop_of_length_le (by rw [List.length_append, hl]; omega), List.nil_append, List.length_append, hl, List.drop_drop, List.length_append]
    congr 1
    omega
  rw [e1, e2]
  simp only [List.append_assoc]
theorem splice_same {xs A : List Int} {a b : Nat} (hb : b = a + A.length) (h : b < xs.length) (hy : xs.getD b 0 = 0) : splice xs a (A ++ [0]) = splice xs a A := by
  subst hb
  unfold splice
  rw [List.getD_eq_getElem?_getD, List.getElem?_eq_getElem h] at hy
  rw [List.drop_eq_getElem_cons h, List.length_append, List.append_assoc]
  simp only [Option.getD_some] at hy
  rw [hy]
  rfl
theorem splice_get {xs A : List Int} {a b : Nat} (h : a + A.length ≤ xs.length) (hb : a + A.length ≤ b) : (splice xs a A).getD b 0 = xs.getD b 0 := by
  unfold splice
  rw [List.getD_eq_getElem?_getD, ← List.append_assoc, List.getElem?_append_right (by rw [List.length_append, List.length_take]; omega), List.length_append, List.length_take, List.getElem?_drop, ← List.getD_eq_getElem?_getD]
  congr 1
  omega
theorem zz_drop (m : Nat) : zz.drop m = List.replicate (256 - m) 0 := by unfold zz; rw [List.drop_replicate]
theorem spliceU_zz {xs : List Int} (h : xs.length = 256) : splice zz 0 (xs.take 256) = xs := by
  unfold splice
  rw [List.take_zero, List.nil_append, List.take_of_length_le (by omega), List.drop_of_length_le (by rw [zz_len]; omega), List.append_nil]
theorem le4_leN (c : Nat) : leN 4 (c : Int) = le4 c := by
  unfold leN le4
  simp [List.range_succ]
theorem crc_ltU (xs : List Int) : crc xs < 4294967296 := by unfold crc; omega
theorem smd_splice {xs : List Int} (h : xs.length = 256) : splice xs 252 (leN 4 (crc (xs.take 252) : Int)) = smd xs := by
  unfold splice smd
  rw [leN_len, le4_leN, List.drop_of_length_le (by omega), List.append_nil]

set_option maxHeartbeats 400000 in
theorem ofU_any (v : Value) (xs : List Int) (w : World) (hr : Rd .u8 w v xs) (hb : By xs) (hl : xs.length = 256) :
    Calls Try.prog 40 #[v] w fun e w' => e = .returned (.agg (bcs xs).toArray) ∧ Below w.heap.size w w' := by
  obtain ⟨a, cap, rfl, h1, h2, _⟩ := id hr
  obtain ⟨hv, hi⟩ := zero_of_info info_frmU
  have HSL := slice_frmU
  have HI : Hid ((Try.prog.info? 62).map (·.size) = some 256) := hi
  have HR : Hid (Rd .u8 w (.slice a 256 cap) xs) := by rw [← hl]; exact hr
  have HY : Hid (By xs) := hb
  have HL : Hid (xs.length = 256) := hl
  rw [hl] at h1 ⊢
  obtain ⟨W1, hW1⟩ : ∃ W1, w.alloc (.cells (bcs zz).toArray 62) = W1 := ⟨_, rfl⟩
  obtain ⟨W2, hW2⟩ : ∃ W2, W1.alloc (.cells (bcs zz).toArray 62) = W2 := ⟨_, rfl⟩
  have s1 : W1.heap.size = w.heap.size + 1 := by rw [← hW1]; simp
  have s2 : W2.heap.size = w.heap.size + 1 + 1 := by rw [← hW2]; simp [s1]
  have b1 : Below w.heap.size w W1 := by rw [← hW1]; exact (Below.refl _ _).alloc (Nat.le_refl _) _
  have b2 : Below W1.heap.size W1 W2 := by rw [← hW2]; exact (Below.refl _ _).alloc (Nat.le_refl _) _
  have F1 : Fu W1 w.heap.size zz := by rw [← hW1]; exact fv_newU w zz_len zz_by
  have FR : Hid (Fu W2 w.heap.size zz) := F1.below b2
  have F2 : Hid (Fu W2 (w.heap.size + 1) zz) := by rw [← hW2, ← s1]; exact fv_newU W1 zz_len zz_by
  have M2 : Hid (W2.heap[w.heap.size + 1]? = some (.cells (bcs zz).toArray 62 (0, 0))) := F2.out.1
  have B2 : Hid (Below w.heap.size w W2) := b1.trans (b2.mono (by omega))
  have R2 : Hid (Rd .u8 W2 (.slice a 256 cap) xs) := HR.out.below B2.out
  have HFT : Hid (0 + min xs.length 256 ≤ zz.length) := by show _ ≤ _; rw [zz_len]; omega
  have BX : Hid (∀ W, Below (w.heap.size + 1) W W) := fun W => Below.refl _ _
  obtain ⟨Z, hZ⟩ : ∃ Z, Hid ((bcs zz).toArray = Z) := ⟨_, rfl⟩
  rw [hZ.out] at hv hW1 hW2
  clear F1 b1 b2 hr hb hl h2 hi s2
  go_enter Try.func40, Try.ntmps40
  go_wp2_with (with_reducible (show wpList _ _ _ (Oper.mk _ (Op.call _) _ _ _ _ :: _) _ _); refine wpList_copyU _ rfl (.tmp 4) (.tmp 5) rfl (w.heap.size + 1) 0 256 256 ?h3 zz _ M2.out _ xs ?h5 R2.out HFT.out (w.heap.size + 1) W2 (BX.out W2) (Nat.le_refl _) ?_; (case h3 => kernel_rfl); (case h5 => kernel_rfl))
  intro w3 M3 N3
  rw [spliceU_zz HL.out] at M3
  obtain ⟨g, hg⟩ : ∃ g, Hid (w.heap.size = g) := ⟨_, rfl⟩
  rw [hg.out] at FR M3 N3 B2 ⊢
  have F3 : Hid (Fu w3 (g + 1) xs) := ⟨M3.out, HL.out, HY.out⟩
  have R3 : Hid (Fu w3 g zz) := ⟨by rw [N3.out.block g (by omega)]; exact FR.out.1, FR.out.2⟩
  have B3 : Hid (Below g w w3) := B2.out.trans (N3.out.mono (by omega))
  have HRG : Hid (w3.rangeAt (g + 1) 0 (bcs xs)) := F3.out.range
  have HPL : Hid ((bcs xs).length = 256) := by show _ = _; rw [bcs_len]; exact HL.out
  have HT : Hid (w3.there g 0 256) := R3.out.there
  have HSZ : Hid ((bcs xs).toArray.size = 256) := bcs_sizeU HL.out
  have HON : Hid ((bcs xs).toArray.all (·.oneCell') = true) := bcs_all _
  have HP : Hid (Fu (w3.setCells g 0 (bcs xs)) g xs) := R3.out.put HL.out HY.out
  have HBB : Hid (Below g w (w3.setCells g 0 (bcs xs))) := B3.out.trans ((setCells_tchD g _ 0 w3).below (by have := R3.out.lt; omega) (fun k e => by omega))
  generalize goInt (List.take 256 xs).length = gi
  clear M3 N3 FR F2 M2 B2 R2 hW1 hW2 s1 HFT F3 R3 B3 BX
  go_wp2_with (first | (with_reducible (show wpList _ _ _ (Oper.mk _ (Op.load _ _) _ _ _ _ :: _) _ _); refine wpList_load_mid rfl 62 (.tmp 3) rfl (g + 1) 0 rfl (bcs xs) _ HRG.out Try.underlying62 rfl (by rw [HPL.out]; exact HI.out) ?_) | (with_reducible (show wpList _ _ _ (Oper.mk _ (Op.store _ _ _) _ _ _ _ :: _) _ _); refine wpList_store_mid rfl 62 (.tmp 2) (.tmp 7) rfl g 0 (bcs xs).toArray rfl rfl (by rw [HSZ.out]; exact HT.out) (by rw [HSZ.out]; exact HI.out) HON.out ?_))
  refine bodyPost_ret (v := .agg (bcs xs).toArray) ?_ rfl ⟨rfl, ?_⟩
  · exact results_atU (p := 2) (ty := 62) rfl _ _ _ g _ rfl (by simpa using HP.out.load)
  · rw [hg.out]; simpa using HBB.out

set_option maxHeartbeats 400000 in
theorem summedU_any (xs : List Int) (w : World) (hl : xs.length = 256) (hb : By xs) :
    Calls Try.prog 56 #[.agg (bcs xs).toArray] w fun e w' => e = .returned (.agg (bcs (smd xs)).toArray) ∧ Below w.heap.size w w' := by
  obtain ⟨hv, hi⟩ := zero_of_info info_frmU
  have HSH := slice_frm_hU
  have HI : Hid ((Try.prog.info? 62).map (·.size) = some 256) := hi
  have HL : Hid (xs.length = 256) := hl
  have HB : Hid (By xs) := hb
  obtain ⟨W1, hW1⟩ : ∃ W1, w.alloc (.cells (bcs xs).toArray 62) = W1 := ⟨_, rfl⟩
  obtain ⟨W2, hW2⟩ : ∃ W2, W1.alloc (.cells (bcs zz).toArray 62) = W2 := ⟨_, rfl⟩
  have F1 : Fu W1 w.heap.size xs := by rw [← hW1]; exact fv_newU w hl hb
  have s1 : W1.heap.size = w.heap.size + 1 := by rw [← hW1]; simp
  have s2 : W2.heap.size = w.heap.size + 2 := by rw [← hW2]; simp [s1]
  have FA : Hid (Fu W2 w.heap.size xs) := by rw [← hW2]; exact F1.below ((Below.refl _ _).alloc (Nat.le_refl _) _)
  have FB : Hid (Fu W2 (w.heap.size + 1) zz) := by rw [← hW2, ← s1]; exact fv_newU W1 zz_len zz_by
  have B2 : Hid (Below w.heap.size w W2) := by
    rw [← hW2, ← hW1]
    exact ((Below.refl _ _).alloc (Nat.le_refl _) _).alloc (by simp) _
  obtain ⟨Z, hZ⟩ : ∃ Z, Hid ((bcs zz).toArray = Z) := ⟨_, rfl⟩
  obtain ⟨X, hX⟩ : ∃ X, Hid ((bcs xs).toArray = X) := ⟨_, rfl⟩
  rw [hZ.out] at hv hW2
  rw [hX.out] at hW1 ⊢
  have HR : Hid (Rd .u8 W2 (.slice (some ⟨w.heap.size, 0, none⟩) 252 256) (xs.take 252)) := FA.out.rdTo 252 (by decide)
  have HC : Hid (crc (xs.take 252) < 4294967296) := crc_ltU _
  obtain ⟨g, hg⟩ : ∃ g, Hid (w.heap.size = g) := ⟨_, rfl⟩
  have HW3 : Hid ((w.alloc (.cells X 62)).alloc (.cells Z 62) = W2) := by show _ = _; rw [hW1]; exact hW2
  clear hi hl hb F1 s1 s2 hW1 hW2
  go_enter Try.func56, Try.ntmps56
  go_wp2_with fail
  rw [HW3.out]
  rw [hg.out] at HR FA FB B2 ⊢
  refine (crc_any _ _ _ HR.out (HB.out.take 252)).mono ?_
  rintro e w3 ⟨rfl, rfl⟩
  have HE := hideP (smd_splice HL.out)
  obtain ⟨s, hs⟩ : ∃ s, crc (xs.take 252) = s := ⟨_, rfl⟩
  rw [hs] at HC HE ⊢
  clear hs
  go_wp2_with fail
  refine (setU_any g 252 4 s xs _ FA.out (by have := HC.out; omega) (by decide) (by decide)).mono ?_
  rintro e w4 ⟨rfl, f4, t4⟩
  rw [HE.out] at f4
  have F4 : Hid (Fu w4 g (smd xs)) := f4
  have R4 : Hid (Fu w4 (g + 1) zz) := FB.out.tch t4 (by omega)
  have B4 : Hid (Below g w w4) := B2.out.trans (t4.below (Nat.le_of_lt FA.out.lt) (fun k e => by rw [e]; exact Nat.le_refl _))
  have HSL : Hid ((smd xs).length = 256) := smd_len HL.out
  have HSB : Hid (By (smd xs)) := smd_by HB.out
  have HRG : Hid (w4.rangeAt g 0 (bcs (smd xs))) := F4.out.range
  generalize hys : smd xs = ys at *
  have HYS : Hid (smd xs = ys) := hys
  clear hys
  have HPL : Hid ((bcs ys).length = 256) := by show _ = _; rw [bcs_len]; exact HSL.out
  have HT : Hid (w4.there (g + 1) 0 256) := R4.out.there
  have HSZ : Hid ((bcs ys).toArray.size = 256) := bcs_sizeU HSL.out
  have HON : Hid ((bcs ys).toArray.all (·.oneCell') = true) := bcs_all _
  have HP : Hid (Fu (w4.setCells (g + 1) 0 (bcs ys)) (g + 1) ys) := R4.out.put HSL.out HSB.out
  have HBB : Hid (Below g w (w4.setCells (g + 1) 0 (bcs ys))) := B4.out.trans ((setCells_tchD (g + 1) _ 0 w4).below (by have := R4.out.lt; omega) (fun k e => by omega))
  clear f4 t4 HR FA FB B2 HW3 R4 B4 HE
  go_wp2_with (first | (with_reducible (show wpList _ _ _ (Oper.mk _ (Op.load _ _) _ _ _ _ :: _) _ _); refine wpList_load_mid rfl 62 (.tmp 1) rfl g 0 rfl (bcs ys) _ HRG.out Try.underlying62 rfl (by rw [HPL.out]; exact HI.out) ?_) | (with_reducible (show wpList _ _ _ (Oper.mk _ (Op.store _ _ _) _ _ _ _ :: _) _ _); refine wpList_store_mid rfl 62 (.tmp 2) (.tmp 6) rfl (g + 1) 0 (bcs ys).toArray rfl rfl (by rw [HSZ.out]; exact HT.out) (by rw [HSZ.out]; exact HI.out) HON.out ?_))
  refine bodyPost_ret (v := .agg (bcs ys).toArray) ?_ rfl ⟨by rw [HYS.out], ?_⟩
  · exact results_atU (p := 2) (ty := 62) rfl _ _ _ (g + 1) _ rfl (by simpa using HP.out.load)
  · rw [hg.out]; simpa using HBB.out
end Go.Proofs.Ytdicgaepggffbaa
