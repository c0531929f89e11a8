/-
  The program's Get of superblocks.
-/
import Derived.Test.YtdicgaepggffbaaUGet0
import Derived.Test.YtdicgaepggffbaaUPut
import Derived.Laws.CopyOwn
namespace Go.Proofs.Ytdicgaepggffbaa
open Go.RowKit Pl
set_option linter.unusedVariables false
set_option linter.unusedSimpArgs false
set_option maxRecDepth 100000

set_option maxHeartbeats 1000000 in
theorem getU_may (L m : Nat) (v : Value) (xs : List Int) (w : World) (hr : Rd .u8 w v xs) (hb : By xs) (hl : xs.length = 256) (hL : xs.getD 14 0 = (L : Int)) (hmm : m = min L 9) (hm : mayU (rdS (fun x => x != 0) xs m) = false) :
    Calls Try.prog 14 #[v] w fun e w' => GetU xs w e w' := by
  obtain ⟨a, cap, rfl, h1, h2, _⟩ := id hr
  have HE : Hid (getU xs = none) := by
    show _ = _
    rw [getU_rd (f := fun x => x != 0) rfl rfl (n := m) hb (by omega)]
    rw [if_neg (by rw [hm]; simp)]
  have HM : Hid (mayU (rdS (fun x => x != 0) xs m) = false) := hm
  obtain ⟨hv, hi⟩ := zero_of_info info_frmU
  have HSL := slice_frmU
  have HR : Hid (Rd .u8 w (.slice a 256 cap) xs) := by rw [← hl]; exact hr
  have HY : Hid (By xs) := hb
  have HL : Hid (xs.length = 256) := hl
  rw [hl] at h1 ⊢
  have HFM : Hid (∀ W, Calls Try.prog 41 #[.agg (bcs xs).toArray] W fun e w' => FrmR 0 xs m W e w') := fun W => frm_any L m xs W hl hb hL hmm
  obtain ⟨W1, hW1⟩ : ∃ W1, w.alloc (.cells #[.int .i64 0, .int .i64 0, .int .i64 0, .slice none 0 0] 24) = W1 := ⟨_, rfl⟩
  have b1 : Below w.heap.size w W1 := by rw [← hW1]; exact (Below.refl _ _).alloc (Nat.le_refl _) _
  have Q1 : Hid (Uv W1 w.heap.size sp0 (.slice none 0 0)) := by rw [← hW1]; exact uv_new w sp0 _
  have B1 : Hid (Below w.heap.size w W1) := b1
  have R1 : Hid (Rd .u8 W1 (.slice a 256 cap) xs) := HR.out.below b1
  obtain ⟨Z, hZ⟩ : ∃ Z, Hid ((bcs zz).toArray = Z) := ⟨_, rfl⟩
  have HZ : Hid (Z.size = 256) := by show _ = _; rw [← hZ.out, List.size_toArray, bcs_len, zz_len]
  have HI : Hid ((Try.prog.info? 62).map (·.size) = some 256) := hi
  rw [hZ.out] at hv
  have HSZX : Hid ((bcs xs).toArray.size = 256) := bcs_sizeU hl
  have HONX : Hid ((bcs xs).toArray.all (·.oneCell') = true) := bcs_all _
  have HUU : Hid (Try.prog.underlying 62 = some (.array 256 5)) := Try.underlying62
  have HSZI : Hid ((Try.prog.info? 62).map (·.size) = some (bcs xs).length) := by show _ = _; rw [bcs_len, hl]; exact hi
  clear b1 hr hb hl h2 hi hL hmm hm
  go_enter Try.func14, Try.ntmps14
  go_wp2_with fail
  refine (ofU_any _ xs W1 R1.out HY.out HL.out).mono ?_
  rintro e w2 ⟨rfl, hb2⟩
  obtain ⟨w3, hW3⟩ : ∃ w3, w2.alloc (.cells (bcs xs).toArray 62) = w3 := ⟨_, rfl⟩
  obtain ⟨f, hf⟩ : ∃ f, Hid (w2.heap.size = f) := ⟨_, rfl⟩
  have hb3 : Below w2.heap.size w2 w3 := by rw [← hW3]; exact (Below.refl _ _).alloc (Nat.le_refl _) _
  have F3 : Hid (Fu w3 f xs) := by rw [← hW3, ← hf.out]; exact fv_newU w2 HL.out HY.out
  obtain ⟨g, hg⟩ : ∃ g, Hid (w.heap.size = g) := ⟨_, rfl⟩
  rw [hg.out] at Q1 B1
  have Q3 : Hid (Uv w3 g sp0 (.slice none 0 0)) := (Q1.out.below hb2).below hb3
  have B2 : Below g w w2 := B1.out.trans (hb2.mono (Nat.le_of_lt Q1.out.lt))
  have B3 : Hid (Below g w w3) := B2.trans (hb3.mono (by have := (Q1.out.below hb2).lt; omega))
  have HW3 : Hid (w2.alloc (.cells (bcs xs).toArray 62) = w3) := hW3
  have r3 : Hid (w3.rangeAt f 0 (bcs xs)) := F3.out.range
  have HC := hideP (HFM.out w3)
  clear hW3 hb2 hb3 B2 hW1 Q1 B1 R1 HFM
  go_wp2_with (first | (with_reducible (show wpList _ _ _ (Oper.mk _ (Op.store _ _ _) _ _ _ _ :: _) _ _); refine wpList_store_newD _ rfl 62 (.tmp 4) (.tmp 11) rfl Z (bcs xs).toArray rfl rfl (by rw [HI.out, HSZX.out]) (by rw [HZ.out, HSZX.out]) HONX.out ?_; rw [HW3.out, hf.out]) | (with_reducible (show wpList _ _ _ (Oper.mk _ (Op.load _ _) _ _ _ _ :: _) _ _); refine wpList_load_mid rfl 62 (.tmp 4) rfl f 0 rfl (bcs xs) _ r3.out HUU.out rfl HSZI.out ?_))
  rw [hg.out]
  have hu := HUU.out
  have hsz := HSZI.out
  clear hv HW3
  refine HC.out.mono ?_
  rintro e w4 ⟨vv, rfl, ho4, b4, n4⟩
  obtain ⟨T, hT⟩ : ∃ T, rdS (fun x => x != 0) xs m = T := ⟨_, rfl⟩
  have hT4 : rdVs (fun x => x != 0) xs m = T.vs := by rw [← hT]; rfl
  rw [hT4] at ho4
  obtain ⟨va, vc, hvv, hv1, hv2, _⟩ := id ho4.rd
  subst hvv
  rw [hT] at HM ⊢
  have F4 : Hid (Fu w4 f xs) := F3.out.below b4
  have Q4 : Hid (Uv w4 g sp0 (.slice none 0 0)) := Q3.out.below b4
  have B4 : Hid (Below g w w4) := B3.out.trans (b4.mono (Nat.le_of_lt Q3.out.lt))
  have N4 : Hid (∀ j, (Value.slice va T.vs.length vc).ownBlock = some j → g < j) := fun j hj => Nat.lt_of_lt_of_le Q3.out.lt (n4 j hj)
  have O4 : Hid (RdV w4 (.slice va T.vs.length vc) T.vs) := ho4.rd
  have HMY : Hid (∀ W, RdV W (.slice va T.vs.length vc) T.vs → Calls Try.prog 12 #[supv T (.slice va T.vs.length vc)] W fun e w' => e = .returned (.bool false) ∧ Below W.heap.size W w') := fun W h => by
    have h := mayU_any T _ W h
    rw [HM.out] at h
    exact h
  obtain ⟨l, hl⟩ : ∃ l, Hid (T.vs.length = l) := ⟨_, rfl⟩
  obtain ⟨ge, hge⟩ : ∃ l, Hid (T.gen = l) := ⟨_, rfl⟩
  obtain ⟨sc, hsc⟩ : ∃ l, Hid (T.sc = l) := ⟨_, rfl⟩
  obtain ⟨nx, hnx⟩ : ∃ l, Hid (T.nx = l) := ⟨_, rfl⟩
  obtain ⟨q, hqs⟩ : ∃ q, w4.heap.size = q := ⟨_, rfl⟩
  have HQS : Hid (w4.heap.size = q) := hqs
  obtain ⟨W6, hW6⟩ : ∃ W6, w4.alloc (.cells #[.int .i64 T.gen, .int .i64 T.sc, .int .i64 T.nx, .slice va T.vs.length vc] 24) = W6 := ⟨_, rfl⟩
  have b6 : Below w4.heap.size w4 W6 := by rw [← hW6]; exact (Below.refl _ _).alloc (Nat.le_refl _) _
  have V6 : Hid (Uv W6 q T (.slice va T.vs.length vc)) := by rw [← hW6, ← hqs]; exact uv_new w4 T _
  have F6 : Hid (Fu W6 f xs) := F4.out.below b6
  have Q6 : Hid (Uv W6 g sp0 (.slice none 0 0)) := Q4.out.below b6
  have B6 : Hid (Below g w W6) := B4.out.trans (b6.mono (Nat.le_of_lt Q4.out.lt))
  have O6 : Hid (RdV W6 (.slice va T.vs.length vc) T.vs) := O4.out.below b6
  unfold supv at HMY ⊢
  rw [hl.out] at N4 HMY hW6 V6 O6 O4 ⊢
  rw [hge.out, hsc.out, hnx.out] at HMY hW6 ⊢
  have r6 : W6.drew.rangeAt f 0 (bcs xs) := F6.out.range
  have v60 : W6.drew.cell? ⟨q, 0, none⟩ = some (.int .i64 ge) := by rw [← hge.out]; exact V6.out.c0
  have v61 : W6.drew.cell? ⟨q, 1, none⟩ = some (.int .i64 sc) := by rw [← hsc.out]; exact V6.out.c1
  have v62 : W6.drew.cell? ⟨q, 2, none⟩ = some (.int .i64 nx) := by rw [← hnx.out]; exact V6.out.c2
  have v63 : W6.drew.cell? ⟨q, 3, none⟩ = some (.slice va l vc) := V6.out.c3
  clear b4 n4 ho4 F4 Q4 B4 O4 b6 F3 Q3 B3 HC hv1 hv2 hT4 hT
  go_wp2_with fail
  clear hW6
  have hS : W6.drew.rangeAt f 0 (bcs xs) ∧ W6.drew.cell? ⟨q, 0, none⟩ = some (.int .i64 ge) ∧ W6.drew.cell? ⟨q, 1, none⟩ = some (.int .i64 sc) ∧ W6.drew.cell? ⟨q, 2, none⟩ = some (.int .i64 nx) ∧ W6.drew.cell? ⟨q, 3, none⟩ = some (.slice va l vc) := ⟨r6, v60, v61, v62, v63⟩
  refine wp_region_held (S := fun w' => w'.rangeAt f 0 (bcs xs) ∧ w'.cell? ⟨q, 0, none⟩ = some (.int .i64 ge) ∧ w'.cell? ⟨q, 1, none⟩ = some (.int .i64 sc) ∧ w'.cell? ⟨q, 2, none⟩ = some (.int .i64 nx) ∧ w'.cell? ⟨q, 3, none⟩ = some (.slice va l vc)) (by kernel_rfl) ?_
  refine takeT 0 (some 14) (.load 24 (.tmp 5)) (.agg #[.int .i64 ge, .int .i64 sc, .int .i64 nx, .slice va l vc]) rfl (by kernel_rfl) (by kernel_rfl) (by kernel_rfl) (fun _ _ _ h => h) ?hy hS ?_
  case hy =>
    rintro o ho w' ⟨hS1, hS2, hS3, hS4, hS5⟩
    go_simp
  simp only [Act.put, List.setIfInBounds_toArray, List.set_cons_zero, List.set_cons_succ]
  refine readyT 1 (some 15) (.call { callee := .value (.func 12), args := #[.tmp 14], argTypes := #[24] }) rfl (by kernel_rfl) ?_
  rintro o K hd ho hgd hK
  refine step_call (enters_of Try.func12 (by kernel_rfl) rfl) ho (vs := #[.agg #[.int .i64 ge, .int .i64 sc, .int .i64 nx, .slice va l vc]]) (by kernel_rfl) (HMY.out _ (O6.out.below (Below.refl _ _).drew)) ?_
  rintro e w7 ⟨rfl, hb7⟩
  refine ⟨_, rfl, ?_⟩
  rw [hd]
  have b7 : Below W6.heap.size W6 w7 := ((Below.refl _ _).drew).trans hb7
  have F7 : Hid (Fu w7 f xs) := F6.out.below b7
  have V7 : Hid (Uv w7 q T (.slice va l vc)) := V6.out.below b7
  have Q7 : Hid (Uv w7 g sp0 (.slice none 0 0)) := Q6.out.below b7
  have B7 : Hid (Below g w w7) := B6.out.trans (b7.mono (Nat.le_of_lt Q6.out.lt))
  have O7 : Hid (RdV w7 (.slice va l vc) T.vs) := O6.out.below b7
  have hS7 : w7.rangeAt f 0 (bcs xs) ∧ w7.cell? ⟨q, 0, none⟩ = some (.int .i64 ge) ∧ w7.cell? ⟨q, 1, none⟩ = some (.int .i64 sc) ∧ w7.cell? ⟨q, 2, none⟩ = some (.int .i64 nx) ∧ w7.cell? ⟨q, 3, none⟩ = some (.slice va l vc) := ⟨F7.out.range, by rw [← hge.out]; exact V7.out.c0, by rw [← hsc.out]; exact V7.out.c1, by rw [← hnx.out]; exact V7.out.c2, V7.out.c3⟩
  refine hK _ _ hS7 ?_
  clear hb7 b7 ho hd hgd hK hS r6 v60 v61 v62 v63 F6 V6 Q6 B6 O6
  simp only [Act.put, List.setIfInBounds_toArray, List.set_cons_zero, List.set_cons_succ]
  refine takeT 2 (some 16) (.unOp .not 4 (.tmp 15)) (.bool true) rfl (by kernel_rfl) (by kernel_rfl) (by kernel_rfl) (fun _ _ _ h => h) ?hy hS7 ?_
  case hy =>
    rintro o ho w' ⟨hS1, hS2, hS3, hS4, hS5⟩
    go_simp
  simp only [Act.put, List.setIfInBounds_toArray, List.set_cons_zero, List.set_cons_succ]
  refine takeT 3 (some 17) (.move (.tmp 16)) (.bool true) rfl (by kernel_rfl) (by kernel_rfl) (by kernel_rfl) (fun _ _ _ h => h) ?hy hS7 ?_
  case hy =>
    rintro o ho w' ⟨hS1, hS2, hS3, hS4, hS5⟩
    go_simp
  simp only [Act.put, List.setIfInBounds_toArray, List.set_cons_zero, List.set_cons_succ]
  refine skipG 4 (some 18) (.load 62 (.tmp 4)) 3 false true rfl (by kernel_rfl) (by kernel_rfl) (by kernel_rfl) (fun _ _ _ h => h) rfl (by decide) hS7 ?_
  simp only [Act.put, List.setIfInBounds_toArray, List.set_cons_zero, List.set_cons_succ]
  refine skipG 5 (some 19) (.load 24 (.tmp 5)) 3 false true rfl (by kernel_rfl) (by kernel_rfl) (by kernel_rfl) (fun _ _ _ h => h) rfl (by decide) hS7 ?_
  simp only [Act.put, List.setIfInBounds_toArray, List.set_cons_zero, List.set_cons_succ]
  refine skipG 6 (some 20) (.call { callee := .value (.func 35), args := #[.tmp 19], argTypes := #[24] }) 3 false true rfl (by kernel_rfl) (by kernel_rfl) (by kernel_rfl) (fun _ _ _ h => h) rfl (by decide) hS7 ?_
  simp only [Act.put, List.setIfInBounds_toArray, List.set_cons_zero, List.set_cons_succ]
  refine skipG 7 (some 21) (.binOp .neq 62 (.tmp 18) (.tmp 20) 62) 3 false true rfl (by kernel_rfl) (by kernel_rfl) (by kernel_rfl) (fun _ _ _ h => h) rfl (by decide) hS7 ?_
  simp only [Act.put, List.setIfInBounds_toArray, List.set_cons_zero, List.set_cons_succ]
  refine takeT 8 (some 22) (.pick (.tmp 17) (.const (.bool true)) (.tmp 21)) (.bool true) rfl (by kernel_rfl) (by kernel_rfl) (by kernel_rfl) (fun _ _ _ h => h) ?hy hS7 ?_
  case hy =>
    rintro o ho w' ⟨hS1, hS2, hS3, hS4, hS5⟩
    go_simp
  simp only [Act.put, List.setIfInBounds_toArray, List.set_cons_zero, List.set_cons_succ]
  refine wpAnyH_done (by kernel_rfl) ?_ _
  clear hS7
  have q0 : w7.cell? ⟨g, 0, none⟩ = some (.int .i64 0) := Q7.out.c0
  have q1 : w7.cell? ⟨g, 1, none⟩ = some (.int .i64 0) := Q7.out.c1
  have q2 : w7.cell? ⟨g, 2, none⟩ = some (.int .i64 0) := Q7.out.c2
  have q3 := Q7.out.c3
  have f0 := Q7.out.fz 0
  have f1 := Q7.out.fz 1
  have f2 := Q7.out.fz 2
  have f3 := Q7.out.fz 3
  have HLD := hideP (Q7.out.put sp0 (.slice none 0 0)).load
  have HBE : Hid (Below g w ((((w7.setCell ⟨g, 0, none⟩ (.int .i64 sp0.gen)).setCell ⟨g, 1, none⟩ (.int .i64 sp0.sc)).setCell ⟨g, 2, none⟩ (.int .i64 sp0.nx)).setCell ⟨g, 3, none⟩ (.slice none 0 0))) := B7.out.trans ((Q7.out.tset sp0 _).below (by have := Q7.out.lt; omega) (fun k e => by omega))
  go_wp2_with fail
  refine bodyPost_ret (v := .tuple #[supv sp0 (.slice none 0 0), .bool false]) (results_cellV (p := 2) (ty := 24) rfl _ _ _ g _ _ rfl HLD.out rfl) rfl ?_
  exact getU_bad HE.out (by rw [hg.out]; exact HBE.out)

set_option maxHeartbeats 1000000 in
theorem getU_img (L m : Nat) (v : Value) (xs : List Int) (w : World) (hr : Rd .u8 w v xs) (hb : By xs) (hl : xs.length = 256) (hL : xs.getD 14 0 = (L : Int)) (hmm : m = min L 9) (hm : mayU (rdS (fun x => x != 0) xs m) = true) (hq : xs ≠ usec (rdS (fun x => x != 0) xs m)) :
    Calls Try.prog 14 #[v] w fun e w' => GetU xs w e w' := by
  obtain ⟨a, cap, rfl, h1, h2, _⟩ := id hr
  have HE : Hid (getU xs = none) := by
    show _ = _
    rw [getU_rd (f := fun x => x != 0) rfl rfl (n := m) hb (by omega)]
    rw [if_neg (fun h => hq h.2)]
  have HM : Hid (mayU (rdS (fun x => x != 0) xs m) = true) := hm
  have HNQ : Hid (xs ≠ usec (rdS (fun x => x != 0) xs m)) := hq
  obtain ⟨hv, hi⟩ := zero_of_info info_frmU
  have HSL := slice_frmU
  have HR : Hid (Rd .u8 w (.slice a 256 cap) xs) := by rw [← hl]; exact hr
  have HY : Hid (By xs) := hb
  have HL : Hid (xs.length = 256) := hl
  rw [hl] at h1 ⊢
  have HFM : Hid (∀ W, Calls Try.prog 41 #[.agg (bcs xs).toArray] W fun e w' => FrmR 0 xs m W e w') := fun W => frm_any L m xs W hl hb hL hmm
  obtain ⟨W1, hW1⟩ : ∃ W1, w.alloc (.cells #[.int .i64 0, .int .i64 0, .int .i64 0, .slice none 0 0] 24) = W1 := ⟨_, rfl⟩
  have b1 : Below w.heap.size w W1 := by rw [← hW1]; exact (Below.refl _ _).alloc (Nat.le_refl _) _
  have Q1 : Hid (Uv W1 w.heap.size sp0 (.slice none 0 0)) := by rw [← hW1]; exact uv_new w sp0 _
  have B1 : Hid (Below w.heap.size w W1) := b1
  have R1 : Hid (Rd .u8 W1 (.slice a 256 cap) xs) := HR.out.below b1
  obtain ⟨Z, hZ⟩ : ∃ Z, Hid ((bcs zz).toArray = Z) := ⟨_, rfl⟩
  have HZ : Hid (Z.size = 256) := by show _ = _; rw [← hZ.out, List.size_toArray, bcs_len, zz_len]
  have HI : Hid ((Try.prog.info? 62).map (·.size) = some 256) := hi
  rw [hZ.out] at hv
  have HSZX : Hid ((bcs xs).toArray.size = 256) := bcs_sizeU hl
  have HONX : Hid ((bcs xs).toArray.all (·.oneCell') = true) := bcs_all _
  have HUU : Hid (Try.prog.underlying 62 = some (.array 256 5)) := Try.underlying62
  have HSZI : Hid ((Try.prog.info? 62).map (·.size) = some (bcs xs).length) := by show _ = _; rw [bcs_len, hl]; exact hi
  clear b1 hr hb hl h2 hi hL hmm hm hq
  go_enter Try.func14, Try.ntmps14
  go_wp2_with fail
  refine (ofU_any _ xs W1 R1.out HY.out HL.out).mono ?_
  rintro e w2 ⟨rfl, hb2⟩
  obtain ⟨w3, hW3⟩ : ∃ w3, w2.alloc (.cells (bcs xs).toArray 62) = w3 := ⟨_, rfl⟩
  obtain ⟨f, hf⟩ : ∃ f, Hid (w2.heap.size = f) := ⟨_, rfl⟩
  have hb3 : Below w2.heap.size w2 w3 := by rw [← hW3]; exact (Below.refl _ _).alloc (Nat.le_refl _) _
  have F3 : Hid (Fu w3 f xs) := by rw [← hW3, ← hf.out]; exact fv_newU w2 HL.out HY.out
  obtain ⟨g, hg⟩ : ∃ g, Hid (w.heap.size = g) := ⟨_, rfl⟩
  rw [hg.out] at Q1 B1
  have Q3 : Hid (Uv w3 g sp0 (.slice none 0 0)) := (Q1.out.below hb2).below hb3
  have B2 : Below g w w2 := B1.out.trans (hb2.mono (Nat.le_of_lt Q1.out.lt))
  have B3 : Hid (Below g w w3) := B2.trans (hb3.mono (by have := (Q1.out.below hb2).lt; omega))
  have HW3 : Hid (w2.alloc (.cells (bcs xs).toArray 62) = w3) := hW3
  have r3 : Hid (w3.rangeAt f 0 (bcs xs)) := F3.out.range
  have HC := hideP (HFM.out w3)
  clear hW3 hb2 hb3 B2 hW1 Q1 B1 R1 HFM
  go_wp2_with (first | (with_reducible (show wpList _ _ _ (Oper.mk _ (Op.store _ _ _) _ _ _ _ :: _) _ _); refine wpList_store_newD _ rfl 62 (.tmp 4) (.tmp 11) rfl Z (bcs xs).toArray rfl rfl (by rw [HI.out, HSZX.out]) (by rw [HZ.out, HSZX.out]) HONX.out ?_; rw [HW3.out, hf.out]) | (with_reducible (show wpList _ _ _ (Oper.mk _ (Op.load _ _) _ _ _ _ :: _) _ _); refine wpList_load_mid rfl 62 (.tmp 4) rfl f 0 rfl (bcs xs) _ r3.out HUU.out rfl HSZI.out ?_))
  rw [hg.out]
  have hu := HUU.out
  have hsz := HSZI.out
  clear hv HW3
  refine HC.out.mono ?_
  rintro e w4 ⟨vv, rfl, ho4, b4, n4⟩
  obtain ⟨T, hT⟩ : ∃ T, rdS (fun x => x != 0) xs m = T := ⟨_, rfl⟩
  have hT4 : rdVs (fun x => x != 0) xs m = T.vs := by rw [← hT]; rfl
  rw [hT4] at ho4
  obtain ⟨va, vc, hvv, hv1, hv2, _⟩ := id ho4.rd
  subst hvv
  rw [hT] at HM HNQ ⊢
  have F4 : Hid (Fu w4 f xs) := F3.out.below b4
  have Q4 : Hid (Uv w4 g sp0 (.slice none 0 0)) := Q3.out.below b4
  have B4 : Hid (Below g w w4) := B3.out.trans (b4.mono (Nat.le_of_lt Q3.out.lt))
  have N4 : Hid (∀ j, (Value.slice va T.vs.length vc).ownBlock = some j → g < j) := fun j hj => Nat.lt_of_lt_of_le Q3.out.lt (n4 j hj)
  have O4 : Hid (RdV w4 (.slice va T.vs.length vc) T.vs) := ho4.rd
  have HMY : Hid (∀ W, RdV W (.slice va T.vs.length vc) T.vs → Calls Try.prog 12 #[supv T (.slice va T.vs.length vc)] W fun e w' => e = .returned (.bool true) ∧ Below W.heap.size W w') := fun W h => by
    have h := mayU_any T _ W h
    rw [HM.out] at h
    exact h
  have HSO : Hid (∀ W, RdV W (.slice va T.vs.length vc) T.vs → Calls Try.prog 35 #[supv T (.slice va T.vs.length vc)] W fun e w' => e = .returned (.agg (bcs (usec T)).toArray) ∧ Below W.heap.size W w') := fun W h => sectorOfU_any T _ W h HM.out
  have hq2 : ∀ W, (Op.equalIn 10000 62 (.agg (bcs xs).toArray) (.agg (bcs (usec T)).toArray)).run Try.prog W = .ok false W := fun W => by rw [eq_frmU W xs _ HL.out (usec_len (mayU_iff.1 HM.out).1.2.2.2.2.2.2)]; exact congrArg (fun b => Result.ok b W) (decide_eq_false HNQ.out)
  obtain ⟨l, hl⟩ : ∃ l, Hid (T.vs.length = l) := ⟨_, rfl⟩
  obtain ⟨ge, hge⟩ : ∃ l, Hid (T.gen = l) := ⟨_, rfl⟩
  obtain ⟨sc, hsc⟩ : ∃ l, Hid (T.sc = l) := ⟨_, rfl⟩
  obtain ⟨nx, hnx⟩ : ∃ l, Hid (T.nx = l) := ⟨_, rfl⟩
  obtain ⟨q, hqs⟩ : ∃ q, w4.heap.size = q := ⟨_, rfl⟩
  have HQS : Hid (w4.heap.size = q) := hqs
  obtain ⟨W6, hW6⟩ : ∃ W6, w4.alloc (.cells #[.int .i64 T.gen, .int .i64 T.sc, .int .i64 T.nx, .slice va T.vs.length vc] 24) = W6 := ⟨_, rfl⟩
  have b6 : Below w4.heap.size w4 W6 := by rw [← hW6]; exact (Below.refl _ _).alloc (Nat.le_refl _) _
  have V6 : Hid (Uv W6 q T (.slice va T.vs.length vc)) := by rw [← hW6, ← hqs]; exact uv_new w4 T _
  have F6 : Hid (Fu W6 f xs) := F4.out.below b6
  have Q6 : Hid (Uv W6 g sp0 (.slice none 0 0)) := Q4.out.below b6
  have B6 : Hid (Below g w W6) := B4.out.trans (b6.mono (Nat.le_of_lt Q4.out.lt))
  have O6 : Hid (RdV W6 (.slice va T.vs.length vc) T.vs) := O4.out.below b6
  unfold supv at HMY HSO ⊢
  rw [hl.out] at N4 HMY HSO hW6 V6 O6 O4 ⊢
  rw [hge.out, hsc.out, hnx.out] at HMY HSO hW6 ⊢
  have r6 : W6.drew.rangeAt f 0 (bcs xs) := F6.out.range
  have v60 : W6.drew.cell? ⟨q, 0, none⟩ = some (.int .i64 ge) := by rw [← hge.out]; exact V6.out.c0
  have v61 : W6.drew.cell? ⟨q, 1, none⟩ = some (.int .i64 sc) := by rw [← hsc.out]; exact V6.out.c1
  have v62 : W6.drew.cell? ⟨q, 2, none⟩ = some (.int .i64 nx) := by rw [← hnx.out]; exact V6.out.c2
  have v63 : W6.drew.cell? ⟨q, 3, none⟩ = some (.slice va l vc) := V6.out.c3
  clear b4 n4 ho4 F4 Q4 B4 O4 b6 F3 Q3 B3 HC hv1 hv2 hT4 hT
  go_wp2_with fail
  clear hW6
  have hS : W6.drew.rangeAt f 0 (bcs xs) ∧ W6.drew.cell? ⟨q, 0, none⟩ = some (.int .i64 ge) ∧ W6.drew.cell? ⟨q, 1, none⟩ = some (.int .i64 sc) ∧ W6.drew.cell? ⟨q, 2, none⟩ = some (.int .i64 nx) ∧ W6.drew.cell? ⟨q, 3, none⟩ = some (.slice va l vc) := ⟨r6, v60, v61, v62, v63⟩
  refine wp_region_held (S := fun w' => w'.rangeAt f 0 (bcs xs) ∧ w'.cell? ⟨q, 0, none⟩ = some (.int .i64 ge) ∧ w'.cell? ⟨q, 1, none⟩ = some (.int .i64 sc) ∧ w'.cell? ⟨q, 2, none⟩ = some (.int .i64 nx) ∧ w'.cell? ⟨q, 3, none⟩ = some (.slice va l vc)) (by kernel_rfl) ?_
  refine takeT 0 (some 14) (.load 24 (.tmp 5)) (.agg #[.int .i64 ge, .int .i64 sc, .int .i64 nx, .slice va l vc]) rfl (by kernel_rfl) (by kernel_rfl) (by kernel_rfl) (fun _ _ _ h => h) ?hy hS ?_
  case hy =>
    rintro o ho w' ⟨hS1, hS2, hS3, hS4, hS5⟩
    go_simp
  simp only [Act.put, List.setIfInBounds_toArray, List.set_cons_zero, List.set_cons_succ]
  refine readyT 1 (some 15) (.call { callee := .value (.func 12), args := #[.tmp 14], argTypes := #[24] }) rfl (by kernel_rfl) ?_
  rintro o K hd ho hgd hK
  refine step_call (enters_of Try.func12 (by kernel_rfl) rfl) ho (vs := #[.agg #[.int .i64 ge, .int .i64 sc, .int .i64 nx, .slice va l vc]]) (by kernel_rfl) (HMY.out _ (O6.out.below (Below.refl _ _).drew)) ?_
  rintro e w7 ⟨rfl, hb7⟩
  refine ⟨_, rfl, ?_⟩
  rw [hd]
  have b7 : Below W6.heap.size W6 w7 := ((Below.refl _ _).drew).trans hb7
  have F7 : Hid (Fu w7 f xs) := F6.out.below b7
  have V7 : Hid (Uv w7 q T (.slice va l vc)) := V6.out.below b7
  have Q7 : Hid (Uv w7 g sp0 (.slice none 0 0)) := Q6.out.below b7
  have B7 : Hid (Below g w w7) := B6.out.trans (b7.mono (Nat.le_of_lt Q6.out.lt))
  have O7 : Hid (RdV w7 (.slice va l vc) T.vs) := O6.out.below b7
  have hS7 : w7.rangeAt f 0 (bcs xs) ∧ w7.cell? ⟨q, 0, none⟩ = some (.int .i64 ge) ∧ w7.cell? ⟨q, 1, none⟩ = some (.int .i64 sc) ∧ w7.cell? ⟨q, 2, none⟩ = some (.int .i64 nx) ∧ w7.cell? ⟨q, 3, none⟩ = some (.slice va l vc) := ⟨F7.out.range, by rw [← hge.out]; exact V7.out.c0, by rw [← hsc.out]; exact V7.out.c1, by rw [← hnx.out]; exact V7.out.c2, V7.out.c3⟩
  refine hK _ _ hS7 ?_
  clear hb7 b7 ho hd hgd hK hS r6 v60 v61 v62 v63 F6 V6 Q6 B6 O6
  simp only [Act.put, List.setIfInBounds_toArray, List.set_cons_zero, List.set_cons_succ]
  refine takeT 2 (some 16) (.unOp .not 4 (.tmp 15)) (.bool false) rfl (by kernel_rfl) (by kernel_rfl) (by kernel_rfl) (fun _ _ _ h => h) ?hy hS7 ?_
  case hy =>
    rintro o ho w' ⟨hS1, hS2, hS3, hS4, hS5⟩
    go_simp
  simp only [Act.put, List.setIfInBounds_toArray, List.set_cons_zero, List.set_cons_succ]
  refine takeT 3 (some 17) (.move (.tmp 16)) (.bool false) rfl (by kernel_rfl) (by kernel_rfl) (by kernel_rfl) (fun _ _ _ h => h) ?hy hS7 ?_
  case hy =>
    rintro o ho w' ⟨hS1, hS2, hS3, hS4, hS5⟩
    go_simp
  simp only [Act.put, List.setIfInBounds_toArray, List.set_cons_zero, List.set_cons_succ]
  refine takeArrG 4 (some 18) 62 (.tmp 4) 3 false f 0 (bcs xs) _ rfl (by kernel_rfl) (by kernel_rfl) (by kernel_rfl) (fun _ _ _ h => h) rfl rfl (fun w' h => h.1) hu rfl hsz hS7 ?_
  simp only [Act.put, List.setIfInBounds_toArray, List.set_cons_zero, List.set_cons_succ]
  refine takeG 5 (some 19) (.load 24 (.tmp 5)) 3 false (.agg #[.int .i64 ge, .int .i64 sc, .int .i64 nx, .slice va l vc]) rfl (by kernel_rfl) (by kernel_rfl) (by kernel_rfl) (fun _ _ _ h => h) rfl ?hy hS7 ?_
  case hy =>
    rintro o ho w' ⟨hS1, hS2, hS3, hS4, hS5⟩
    go_simp
  simp only [Act.put, List.setIfInBounds_toArray, List.set_cons_zero, List.set_cons_succ]
  refine readyG 6 (some 20) (.call { callee := .value (.func 35), args := #[.tmp 19], argTypes := #[24] }) 3 false rfl (by kernel_rfl) rfl ?_
  rintro o K hd ho hK
  refine step_call (enters_of Try.func35 (by kernel_rfl) rfl) ho (vs := #[.agg #[.int .i64 ge, .int .i64 sc, .int .i64 nx, .slice va l vc]]) (by kernel_rfl) (HSO.out _ O7.out) ?_
  rintro e w8 ⟨rfl, b8⟩
  refine ⟨_, rfl, ?_⟩
  rw [hd]
  have F8 : Hid (Fu w8 f xs) := F7.out.below b8
  have V8 : Hid (Uv w8 q T (.slice va l vc)) := V7.out.below b8
  have Q8 : Hid (Uv w8 g sp0 (.slice none 0 0)) := Q7.out.below b8
  have B8 : Hid (Below g w w8) := B7.out.trans (b8.mono (Nat.le_of_lt Q7.out.lt))
  have O8 : Hid (RdV w8 (.slice va l vc) T.vs) := O7.out.below b8
  have hS8 : w8.rangeAt f 0 (bcs xs) ∧ w8.cell? ⟨q, 0, none⟩ = some (.int .i64 ge) ∧ w8.cell? ⟨q, 1, none⟩ = some (.int .i64 sc) ∧ w8.cell? ⟨q, 2, none⟩ = some (.int .i64 nx) ∧ w8.cell? ⟨q, 3, none⟩ = some (.slice va l vc) := ⟨F8.out.range, by rw [← hge.out]; exact V8.out.c0, by rw [← hsc.out]; exact V8.out.c1, by rw [← hnx.out]; exact V8.out.c2, V8.out.c3⟩
  refine hK _ _ hS8 ?_
  clear b8 ho hd hK hS7 F7 V7 Q7 B7 O7
  simp only [Act.put, List.setIfInBounds_toArray, List.set_cons_zero, List.set_cons_succ]
  refine takeG 7 (some 21) (.binOp .neq 62 (.tmp 18) (.tmp 20) 62) 3 false (.bool true) rfl (by kernel_rfl) (by kernel_rfl) (by kernel_rfl) (fun _ _ _ h => h) rfl ?hy hS8 ?_
  case hy =>
    rintro o ho w' ⟨hS1, hS2, hS3, hS4, hS5⟩
    go_simp
  simp only [Act.put, List.setIfInBounds_toArray, List.set_cons_zero, List.set_cons_succ]
  refine takeT 8 (some 22) (.pick (.tmp 17) (.const (.bool true)) (.tmp 21)) (.bool true) rfl (by kernel_rfl) (by kernel_rfl) (by kernel_rfl) (fun _ _ _ h => h) ?hy hS8 ?_
  case hy =>
    rintro o ho w' ⟨hS1, hS2, hS3, hS4, hS5⟩
    go_simp
  simp only [Act.put, List.setIfInBounds_toArray, List.set_cons_zero, List.set_cons_succ]
  refine wpAnyH_done (by kernel_rfl) ?_ _
  clear hS8 hq2
  have q0 : w8.cell? ⟨g, 0, none⟩ = some (.int .i64 0) := Q8.out.c0
  have q1 : w8.cell? ⟨g, 1, none⟩ = some (.int .i64 0) := Q8.out.c1
  have q2 : w8.cell? ⟨g, 2, none⟩ = some (.int .i64 0) := Q8.out.c2
  have q3 := Q8.out.c3
  have f0 := Q8.out.fz 0
  have f1 := Q8.out.fz 1
  have f2 := Q8.out.fz 2
  have f3 := Q8.out.fz 3
  have HLD := hideP (Q8.out.put sp0 (.slice none 0 0)).load
  have HBE : Hid (Below g w ((((w8.setCell ⟨g, 0, none⟩ (.int .i64 sp0.gen)).setCell ⟨g, 1, none⟩ (.int .i64 sp0.sc)).setCell ⟨g, 2, none⟩ (.int .i64 sp0.nx)).setCell ⟨g, 3, none⟩ (.slice none 0 0))) := B8.out.trans ((Q8.out.tset sp0 _).below (by have := Q8.out.lt; omega) (fun k e => by omega))
  go_wp2_with fail
  refine bodyPost_ret (v := .tuple #[supv sp0 (.slice none 0 0), .bool false]) (results_cellV (p := 2) (ty := 24) rfl _ _ _ g _ _ rfl HLD.out rfl) rfl ?_
  exact getU_bad HE.out (by rw [hg.out]; exact HBE.out)

set_option maxHeartbeats 1000000 in
theorem getU_ok (L m : Nat) (v : Value) (xs : List Int) (w : World) (hr : Rd .u8 w v xs) (hb : By xs) (hl : xs.length = 256) (hL : xs.getD 14 0 = (L : Int)) (hmm : m = min L 9) (hm : mayU (rdS (fun x => x != 0) xs m) = true) (hq : xs = usec (rdS (fun x => x != 0) xs m)) :
    Calls Try.prog 14 #[v] w fun e w' => GetU xs w e w' := by
  obtain ⟨a, cap, rfl, h1, h2, _⟩ := id hr
  have HE : Hid (getU xs = some (rdS (fun x => x != 0) xs m)) := by
    show _ = _
    rw [getU_rd (f := fun x => x != 0) rfl rfl (n := m) hb (by omega)]
    rw [if_pos ⟨hm, hq⟩]
  have HM : Hid (mayU (rdS (fun x => x != 0) xs m) = true) := hm
  have HNQ : Hid (xs = usec (rdS (fun x => x != 0) xs m)) := hq
  obtain ⟨hv, hi⟩ := zero_of_info info_frmU
  have HSL := slice_frmU
  have HR : Hid (Rd .u8 w (.slice a 256 cap) xs) := by rw [← hl]; exact hr
  have HY : Hid (By xs) := hb
  have HL : Hid (xs.length = 256) := hl
  rw [hl] at h1 ⊢
  have HFM : Hid (∀ W, Calls Try.prog 41 #[.agg (bcs xs).toArray] W fun e w' => FrmR 0 xs m W e w') := fun W => frm_any L m xs W hl hb hL hmm
  obtain ⟨W1, hW1⟩ : ∃ W1, w.alloc (.cells #[.int .i64 0, .int .i64 0, .int .i64 0, .slice none 0 0] 24) = W1 := ⟨_, rfl⟩
  have b1 : Below w.heap.size w W1 := by rw [← hW1]; exact (Below.refl _ _).alloc (Nat.le_refl _) _
  have Q1 : Hid (Uv W1 w.heap.size sp0 (.slice none 0 0)) := by rw [← hW1]; exact uv_new w sp0 _
  have B1 : Hid (Below w.heap.size w W1) := b1
  have R1 : Hid (Rd .u8 W1 (.slice a 256 cap) xs) := HR.out.below b1
  obtain ⟨Z, hZ⟩ : ∃ Z, Hid ((bcs zz).toArray = Z) := ⟨_, rfl⟩
  have HZ : Hid (Z.size = 256) := by show _ = _; rw [← hZ.out, List.size_toArray, bcs_len, zz_len]
  have HI : Hid ((Try.prog.info? 62).map (·.size) = some 256) := hi
  rw [hZ.out] at hv
  have HSZX : Hid ((bcs xs).toArray.size = 256) := bcs_sizeU hl
  have HONX : Hid ((bcs xs).toArray.all (·.oneCell') = true) := bcs_all _
  have HUU : Hid (Try.prog.underlying 62 = some (.array 256 5)) := Try.underlying62
  have HSZI : Hid ((Try.prog.info? 62).map (·.size) = some (bcs xs).length) := by show _ = _; rw [bcs_len, hl]; exact hi
  clear b1 hr hb hl h2 hi hL hmm hm hq
  go_enter Try.func14, Try.ntmps14
  go_wp2_with fail
  refine (ofU_any _ xs W1 R1.out HY.out HL.out).mono ?_
  rintro e w2 ⟨rfl, hb2⟩
  obtain ⟨w3, hW3⟩ : ∃ w3, w2.alloc (.cells (bcs xs).toArray 62) = w3 := ⟨_, rfl⟩
  obtain ⟨f, hf⟩ : ∃ f, Hid (w2.heap.size = f) := ⟨_, rfl⟩
  have hb3 : Below w2.heap.size w2 w3 := by rw [← hW3]; exact (Below.refl _ _).alloc (Nat.le_refl _) _
  have F3 : Hid (Fu w3 f xs) := by rw [← hW3, ← hf.out]; exact fv_newU w2 HL.out HY.out
  obtain ⟨g, hg⟩ : ∃ g, Hid (w.heap.size = g) := ⟨_, rfl⟩
  rw [hg.out] at Q1 B1
  have Q3 : Hid (Uv w3 g sp0 (.slice none 0 0)) := (Q1.out.below hb2).below hb3
  have B2 : Below g w w2 := B1.out.trans (hb2.mono (Nat.le_of_lt Q1.out.lt))
  have B3 : Hid (Below g w w3) := B2.trans (hb3.mono (by have := (Q1.out.below hb2).lt; omega))
  have HW3 : Hid (w2.alloc (.cells (bcs xs).toArray 62) = w3) := hW3
  have r3 : Hid (w3.rangeAt f 0 (bcs xs)) := F3.out.range
  have HC := hideP (HFM.out w3)
  clear hW3 hb2 hb3 B2 hW1 Q1 B1 R1 HFM
  go_wp2_with (first | (with_reducible (show wpList _ _ _ (Oper.mk _ (Op.store _ _ _) _ _ _ _ :: _) _ _); refine wpList_store_newD _ rfl 62 (.tmp 4) (.tmp 11) rfl Z (bcs xs).toArray rfl rfl (by rw [HI.out, HSZX.out]) (by rw [HZ.out, HSZX.out]) HONX.out ?_; rw [HW3.out, hf.out]) | (with_reducible (show wpList _ _ _ (Oper.mk _ (Op.load _ _) _ _ _ _ :: _) _ _); refine wpList_load_mid rfl 62 (.tmp 4) rfl f 0 rfl (bcs xs) _ r3.out HUU.out rfl HSZI.out ?_))
  rw [hg.out]
  have hu := HUU.out
  have hsz := HSZI.out
  clear hv HW3
  refine HC.out.mono ?_
  rintro e w4 ⟨vv, rfl, ho4, b4, n4⟩
  obtain ⟨T, hT⟩ : ∃ T, rdS (fun x => x != 0) xs m = T := ⟨_, rfl⟩
  have hT4 : rdVs (fun x => x != 0) xs m = T.vs := by rw [← hT]; rfl
  rw [hT4] at ho4
  obtain ⟨va, vc, hvv, hv1, hv2, _⟩ := id ho4.rd
  subst hvv
  rw [hT] at HM HE HNQ ⊢
  have F4 : Hid (Fu w4 f xs) := F3.out.below b4
  have Q4 : Hid (Uv w4 g sp0 (.slice none 0 0)) := Q3.out.below b4
  have B4 : Hid (Below g w w4) := B3.out.trans (b4.mono (Nat.le_of_lt Q3.out.lt))
  have N4 : Hid (∀ j, (Value.slice va T.vs.length vc).ownBlock = some j → g < j) := fun j hj => Nat.lt_of_lt_of_le Q3.out.lt (n4 j hj)
  have O4 : Hid (RdV w4 (.slice va T.vs.length vc) T.vs) := ho4.rd
  have HMY : Hid (∀ W, RdV W (.slice va T.vs.length vc) T.vs → Calls Try.prog 12 #[supv T (.slice va T.vs.length vc)] W fun e w' => e = .returned (.bool true) ∧ Below W.heap.size W w') := fun W h => by
    have h := mayU_any T _ W h
    rw [HM.out] at h
    exact h
  have HSO : Hid (∀ W, RdV W (.slice va T.vs.length vc) T.vs → Calls Try.prog 35 #[supv T (.slice va T.vs.length vc)] W fun e w' => e = .returned (.agg (bcs (usec T)).toArray) ∧ Below W.heap.size W w') := fun W h => sectorOfU_any T _ W h HM.out
  have hq2 : ∀ W, (Op.equalIn 10000 62 (.agg (bcs xs).toArray) (.agg (bcs (usec T)).toArray)).run Try.prog W = .ok true W := fun W => by rw [eq_frmU W xs _ HL.out (usec_len (mayU_iff.1 HM.out).1.2.2.2.2.2.2)]; exact congrArg (fun b => Result.ok b W) (decide_eq_true HNQ.out)
  obtain ⟨l, hl⟩ : ∃ l, Hid (T.vs.length = l) := ⟨_, rfl⟩
  obtain ⟨ge, hge⟩ : ∃ l, Hid (T.gen = l) := ⟨_, rfl⟩
  obtain ⟨sc, hsc⟩ : ∃ l, Hid (T.sc = l) := ⟨_, rfl⟩
  obtain ⟨nx, hnx⟩ : ∃ l, Hid (T.nx = l) := ⟨_, rfl⟩
  obtain ⟨q, hqs⟩ : ∃ q, w4.heap.size = q := ⟨_, rfl⟩
  have HQS : Hid (w4.heap.size = q) := hqs
  obtain ⟨W6, hW6⟩ : ∃ W6, w4.alloc (.cells #[.int .i64 T.gen, .int .i64 T.sc, .int .i64 T.nx, .slice va T.vs.length vc] 24) = W6 := ⟨_, rfl⟩
  have b6 : Below w4.heap.size w4 W6 := by rw [← hW6]; exact (Below.refl _ _).alloc (Nat.le_refl _) _
  have V6 : Hid (Uv W6 q T (.slice va T.vs.length vc)) := by rw [← hW6, ← hqs]; exact uv_new w4 T _
  have F6 : Hid (Fu W6 f xs) := F4.out.below b6
  have Q6 : Hid (Uv W6 g sp0 (.slice none 0 0)) := Q4.out.below b6
  have B6 : Hid (Below g w W6) := B4.out.trans (b6.mono (Nat.le_of_lt Q4.out.lt))
  have O6 : Hid (RdV W6 (.slice va T.vs.length vc) T.vs) := O4.out.below b6
  unfold supv at HMY HSO ⊢
  rw [hl.out] at N4 HMY HSO hW6 V6 O6 O4 ⊢
  rw [hge.out, hsc.out, hnx.out] at HMY HSO hW6 ⊢
  have r6 : W6.drew.rangeAt f 0 (bcs xs) := F6.out.range
  have v60 : W6.drew.cell? ⟨q, 0, none⟩ = some (.int .i64 ge) := by rw [← hge.out]; exact V6.out.c0
  have v61 : W6.drew.cell? ⟨q, 1, none⟩ = some (.int .i64 sc) := by rw [← hsc.out]; exact V6.out.c1
  have v62 : W6.drew.cell? ⟨q, 2, none⟩ = some (.int .i64 nx) := by rw [← hnx.out]; exact V6.out.c2
  have v63 : W6.drew.cell? ⟨q, 3, none⟩ = some (.slice va l vc) := V6.out.c3
  clear b4 n4 ho4 F4 Q4 B4 O4 b6 F3 Q3 B3 HC hv1 hv2 hT4 hT
  go_wp2_with fail
  clear hW6
  have hS : W6.drew.rangeAt f 0 (bcs xs) ∧ W6.drew.cell? ⟨q, 0, none⟩ = some (.int .i64 ge) ∧ W6.drew.cell? ⟨q, 1, none⟩ = some (.int .i64 sc) ∧ W6.drew.cell? ⟨q, 2, none⟩ = some (.int .i64 nx) ∧ W6.drew.cell? ⟨q, 3, none⟩ = some (.slice va l vc) := ⟨r6, v60, v61, v62, v63⟩
  refine wp_region_held (S := fun w' => w'.rangeAt f 0 (bcs xs) ∧ w'.cell? ⟨q, 0, none⟩ = some (.int .i64 ge) ∧ w'.cell? ⟨q, 1, none⟩ = some (.int .i64 sc) ∧ w'.cell? ⟨q, 2, none⟩ = some (.int .i64 nx) ∧ w'.cell? ⟨q, 3, none⟩ = some (.slice va l vc)) (by kernel_rfl) ?_
  refine takeT 0 (some 14) (.load 24 (.tmp 5)) (.agg #[.int .i64 ge, .int .i64 sc, .int .i64 nx, .slice va l vc]) rfl (by kernel_rfl) (by kernel_rfl) (by kernel_rfl) (fun _ _ _ h => h) ?hy hS ?_
  case hy =>
    rintro o ho w' ⟨hS1, hS2, hS3, hS4, hS5⟩
    go_simp
  simp only [Act.put, List.setIfInBounds_toArray, List.set_cons_zero, List.set_cons_succ]
  refine readyT 1 (some 15) (.call { callee := .value (.func 12), args := #[.tmp 14], argTypes := #[24] }) rfl (by kernel_rfl) ?_
  rintro o K hd ho hgd hK
  refine step_call (enters_of Try.func12 (by kernel_rfl) rfl) ho (vs := #[.agg #[.int .i64 ge, .int .i64 sc, .int .i64 nx, .slice va l vc]]) (by kernel_rfl) (HMY.out _ (O6.out.below (Below.refl _ _).drew)) ?_
  rintro e w7 ⟨rfl, hb7⟩
  refine ⟨_, rfl, ?_⟩
  rw [hd]
  have b7 : Below W6.heap.size W6 w7 := ((Below.refl _ _).drew).trans hb7
  have F7 : Hid (Fu w7 f xs) := F6.out.below b7
  have V7 : Hid (Uv w7 q T (.slice va l vc)) := V6.out.below b7
  have Q7 : Hid (Uv w7 g sp0 (.slice none 0 0)) := Q6.out.below b7
  have B7 : Hid (Below g w w7) := B6.out.trans (b7.mono (Nat.le_of_lt Q6.out.lt))
  have O7 : Hid (RdV w7 (.slice va l vc) T.vs) := O6.out.below b7
  have hS7 : w7.rangeAt f 0 (bcs xs) ∧ w7.cell? ⟨q, 0, none⟩ = some (.int .i64 ge) ∧ w7.cell? ⟨q, 1, none⟩ = some (.int .i64 sc) ∧ w7.cell? ⟨q, 2, none⟩ = some (.int .i64 nx) ∧ w7.cell? ⟨q, 3, none⟩ = some (.slice va l vc) := ⟨F7.out.range, by rw [← hge.out]; exact V7.out.c0, by rw [← hsc.out]; exact V7.out.c1, by rw [← hnx.out]; exact V7.out.c2, V7.out.c3⟩
  refine hK _ _ hS7 ?_
  clear hb7 b7 ho hd hgd hK hS r6 v60 v61 v62 v63 F6 V6 Q6 B6 O6
  simp only [Act.put, List.setIfInBounds_toArray, List.set_cons_zero, List.set_cons_succ]
  refine takeT 2 (some 16) (.unOp .not 4 (.tmp 15)) (.bool false) rfl (by kernel_rfl) (by kernel_rfl) (by kernel_rfl) (fun _ _ _ h => h) ?hy hS7 ?_
  case hy =>
    rintro o ho w' ⟨hS1, hS2, hS3, hS4, hS5⟩
    go_simp
  simp only [Act.put, List.setIfInBounds_toArray, List.set_cons_zero, List.set_cons_succ]
  refine takeT 3 (some 17) (.move (.tmp 16)) (.bool false) rfl (by kernel_rfl) (by kernel_rfl) (by kernel_rfl) (fun _ _ _ h => h) ?hy hS7 ?_
  case hy =>
    rintro o ho w' ⟨hS1, hS2, hS3, hS4, hS5⟩
    go_simp
  simp only [Act.put, List.setIfInBounds_toArray, List.set_cons_zero, List.set_cons_succ]
  refine takeArrG 4 (some 18) 62 (.tmp 4) 3 false f 0 (bcs xs) _ rfl (by kernel_rfl) (by kernel_rfl) (by kernel_rfl) (fun _ _ _ h => h) rfl rfl (fun w' h => h.1) hu rfl hsz hS7 ?_
  simp only [Act.put, List.setIfInBounds_toArray, List.set_cons_zero, List.set_cons_succ]
  refine takeG 5 (some 19) (.load 24 (.tmp 5)) 3 false (.agg #[.int .i64 ge, .int .i64 sc, .int .i64 nx, .slice va l vc]) rfl (by kernel_rfl) (by kernel_rfl) (by kernel_rfl) (fun _ _ _ h => h) rfl ?hy hS7 ?_
  case hy =>
    rintro o ho w' ⟨hS1, hS2, hS3, hS4, hS5⟩
    go_simp
  simp only [Act.put, List.setIfInBounds_toArray, List.set_cons_zero, List.set_cons_succ]
  refine readyG 6 (some 20) (.call { callee := .value (.func 35), args := #[.tmp 19], argTypes := #[24] }) 3 false rfl (by kernel_rfl) rfl ?_
  rintro o K hd ho hK
  refine step_call (enters_of Try.func35 (by kernel_rfl) rfl) ho (vs := #[.agg #[.int .i64 ge, .int .i64 sc, .int .i64 nx, .slice va l vc]]) (by kernel_rfl) (HSO.out _ O7.out) ?_
  rintro e w8 ⟨rfl, b8⟩
  refine ⟨_, rfl, ?_⟩
  rw [hd]
  have F8 : Hid (Fu w8 f xs) := F7.out.below b8
  have V8 : Hid (Uv w8 q T (.slice va l vc)) := V7.out.below b8
  have Q8 : Hid (Uv w8 g sp0 (.slice none 0 0)) := Q7.out.below b8
  have B8 : Hid (Below g w w8) := B7.out.trans (b8.mono (Nat.le_of_lt Q7.out.lt))
  have O8 : Hid (RdV w8 (.slice va l vc) T.vs) := O7.out.below b8
  have hS8 : w8.rangeAt f 0 (bcs xs) ∧ w8.cell? ⟨q, 0, none⟩ = some (.int .i64 ge) ∧ w8.cell? ⟨q, 1, none⟩ = some (.int .i64 sc) ∧ w8.cell? ⟨q, 2, none⟩ = some (.int .i64 nx) ∧ w8.cell? ⟨q, 3, none⟩ = some (.slice va l vc) := ⟨F8.out.range, by rw [← hge.out]; exact V8.out.c0, by rw [← hsc.out]; exact V8.out.c1, by rw [← hnx.out]; exact V8.out.c2, V8.out.c3⟩
  refine hK _ _ hS8 ?_
  clear b8 ho hd hK hS7 F7 V7 Q7 B7 O7
  simp only [Act.put, List.setIfInBounds_toArray, List.set_cons_zero, List.set_cons_succ]
  refine takeG 7 (some 21) (.binOp .neq 62 (.tmp 18) (.tmp 20) 62) 3 false (.bool false) rfl (by kernel_rfl) (by kernel_rfl) (by kernel_rfl) (fun _ _ _ h => h) rfl ?hy hS8 ?_
  case hy =>
    rintro o ho w' ⟨hS1, hS2, hS3, hS4, hS5⟩
    go_simp
  simp only [Act.put, List.setIfInBounds_toArray, List.set_cons_zero, List.set_cons_succ]
  refine takeT 8 (some 22) (.pick (.tmp 17) (.const (.bool true)) (.tmp 21)) (.bool false) rfl (by kernel_rfl) (by kernel_rfl) (by kernel_rfl) (fun _ _ _ h => h) ?hy hS8 ?_
  case hy =>
    rintro o ho w' ⟨hS1, hS2, hS3, hS4, hS5⟩
    go_simp
  simp only [Act.put, List.setIfInBounds_toArray, List.set_cons_zero, List.set_cons_succ]
  refine wpAnyH_done (by kernel_rfl) ?_ _
  clear hS8 hq2
  have q0 : w8.cell? ⟨g, 0, none⟩ = some (.int .i64 0) := Q8.out.c0
  have q1 : w8.cell? ⟨g, 1, none⟩ = some (.int .i64 0) := Q8.out.c1
  have q2 : w8.cell? ⟨g, 2, none⟩ = some (.int .i64 0) := Q8.out.c2
  have q3 := Q8.out.c3
  have f0 := Q8.out.fz 0
  have f1 := Q8.out.fz 1
  have f2 := Q8.out.fz 2
  have f3 := Q8.out.fz 3
  have u0 := V8.out.c0
  have u1 := V8.out.c1
  have u2 := V8.out.c2
  have u3 := V8.out.c3
  rw [hge.out] at u0
  rw [hsc.out] at u1
  rw [hnx.out] at u2
  have HLD := hideP (Q8.out.put T (.slice va l vc)).load
  have HTS := hideP (Q8.out.tset T (.slice va l vc))
  rw [hge.out, hsc.out, hnx.out] at HLD HTS
  have HBE := hideP (B8.out.trans (HTS.out.below (by have := Q8.out.lt; omega) (fun k e => by omega)))
  have HRE := hideP (O8.out.tch HTS.out (fun j hj e => by have e2 : j = g := e; have := N4.out j hj; omega))
  clear O8
  go_wp2_with fail
  refine bodyPost_ret (v := .tuple #[supv T (.slice va l vc), .bool true]) (results_cellV (p := 2) (ty := 24) rfl _ _ _ g _ _ rfl HLD.out rfl) rfl ?_
  exact ⟨_, by rw [HE.out]; rfl, by rw [HE.out]; exact HRE.out, by rw [hg.out]; exact HBE.out, fun j hj => by rw [hg.out]; exact Nat.le_of_lt (N4.out j hj)⟩

theorem getU_any (v : Value) (xs : List Int) (w : World) (hr : Rd .u8 w v xs) (hb : By xs) : Calls Try.prog 14 #[v] w fun e w' => GetU xs w e w' := by
  by_cases hl : xs.length = 256
  · have h14 := hb 14
    have hL : xs.getD 14 0 = (((xs.getD 14 0).toNat : Nat) : Int) := by omega
    generalize (xs.getD 14 0).toNat = L at hL
    cases hm : mayU (rdS (fun x => x != 0) xs (min L 9)) with
    | false => exact getU_may L _ v xs w hr hb hl hL rfl hm
    | true =>
      by_cases hq : xs = usec (rdS (fun x => x != 0) xs (min L 9))
      · exact getU_ok L _ v xs w hr hb hl hL rfl hm hq
      · exact getU_img L _ v xs w hr hb hl hL rfl hm hq
  · exact getU_len_any v xs w hr hl
end Go.Proofs.Ytdicgaepggffbaa
