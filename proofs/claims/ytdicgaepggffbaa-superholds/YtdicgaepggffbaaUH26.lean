import Derived.Test.YtdicgaepggffbaaUH24
import Derived.Test.YtdicgaepggffbaaUH23
import Derived.Test.YtdicgaepggffbaaUH25
import Derived.ChangeKeysEq
import Derived.Deep.RegionHeld3
import Derived.Laws.CopyOwn
/-
  What is told of a sector: the program's Get of superblocks, where there are not 256 bytes.
-/
namespace Go.Proofs.Ytdicgaepggffbaa
open Go.RowKit Pl
set_option linter.unusedVariables false
set_option linter.unusedSimpArgs false
set_option maxRecDepth 100000

theorem cells8U : Try.prog.cellsOf 5 = 1 := by kernel_rfl
theorem eqItems_genU (w : World) (d : Nat) (xs ys : List Int) (hx : xs.length = 256) (hy : ys.length = 256) : ∀ is : List Nat, (∀ i ∈ is, i < 256) →
    (Op.eqItems (d + 1) 5 1 (bcs xs).toArray (bcs ys).toArray is).run Try.prog w = .ok (is.all fun i => decide (xs.getD i 0 = ys.getD i 0)) w
  | [], _ => by simp [Op.eqItems]
  | i :: is, h => by
    have hi := h i (by simp)
    have hp : ∀ zs : List Int, zs.length = 256 → (part 5 (bcs zs).toArray (i * 1)).run Try.prog w = .ok (.int .u8 (zs.getD i 0)) w := fun zs hz => run_part_plain w (by kernel_rfl) (by
      rw [Nat.mul_one, List.getElem?_toArray, bcs, List.getElem?_map, List.getElem?_eq_getElem (by omega), List.getD_eq_getElem?_getD, List.getElem?_eq_getElem (by omega)]
      rfl)
    have he : (Op.equalIn (d + 1) 5 (.int .u8 (xs.getD i 0)) (.int .u8 (ys.getD i 0))).run Try.prog w = .ok (decide (xs.getD i 0 = ys.getD i 0)) w := by
      have := run_equalIn_int (P := Try.prog) w d 5 .u8 .u8 (xs.getD i 0) (ys.getD i 0) Try.underlying5
      rw [this]
      congr 1
    simp only [Op.eqItems, Sem.run_bind, hp xs hx, hp ys hy, he, Result.andThen_ok]
    have ih := eqItems_genU w d xs ys hx hy is (fun j hj => h j (by simp [hj]))
    by_cases c : xs.getD i 0 = ys.getD i 0
    · simp only [c, decide_true, if_true, List.all_cons, Bool.true_and]
      simpa using ih
    · rw [List.getD_eq_getElem?_getD, List.getD_eq_getElem?_getD] at c
      simp [c]
theorem eq_frmU (w : World) (xs ys : List Int) (hx : xs.length = 256) (hy : ys.length = 256) : (Op.equalIn 10000 62 (.agg (bcs xs).toArray) (.agg (bcs ys).toArray)).run Try.prog w = .ok (decide (xs = ys)) w := by
  obtain ⟨i, hi, _⟩ := elem8.info
  rw [run_equalIn_array w 9999 _ _ Try.underlying62 hi, cells8U]
  have := eqItems_genU w 9998 xs ys hx hy (List.range 256) (fun i hi => by simpa using hi)
  rw [this]
  congr 1
  by_cases c : xs = ys
  · subst c; simp
  · rw [decide_eq_false c, List.all_eq_false]
    apply Classical.byContradiction
    intro hno
    apply c
    apply List.ext_getElem (by omega)
    intro j h1 h2
    apply Classical.byContradiction
    intro hne
    refine hno ⟨j, by simp; omega, ?_⟩
    simp only [List.getD_eq_getElem?_getD, List.getElem?_eq_getElem h1, List.getElem?_eq_getElem h2, Option.getD_some]
    simpa using hne

/-- What is told of a sector. -/
def GetU (xs : List Int) (w : World) (e : Ending) (w' : World) : Prop :=
  ∃ v, e = .returned (.tuple #[supv ((getU xs).getD sp0) v, .bool (getU xs).isSome]) ∧ RdV w' v ((getU xs).getD sp0).vs ∧ Below w.heap.size w w' ∧ ∀ j, v.ownBlock = some j → w.heap.size ≤ j
theorem getU_bad {xs : List Int} {w w' : World} (h : getU xs = none) (hb : Below w.heap.size w w') : GetU xs w (.returned (.tuple #[supv sp0 (.slice none 0 0), .bool false])) w' := by
  refine ⟨.slice none 0 0, by rw [h]; rfl, ?_, hb, fun j e => by cases e⟩
  rw [h]
  exact rdV_nil w'
theorem results_cellV {fn : Func} {p u : Tmp} {ty : TypeId} (h : fn.results = #[.cell p ty, .tmp u]) (tmps : Array Value) (P : Program) (w : World) (b : Nat) (v x : Value) (ha : tmps.getD p undef = .pointer (some ⟨b, 0, none⟩))
    (hl : (loadVar ty ⟨b, 0, none⟩).run P w = .ok v w) (hx : tmps.getD u undef = x) : (results fn tmps).run P w = .ok (.tuple #[v, x]) w := by
  rw [results_cell_tmp h, ha]
  simp [asAddr, Result.andThen, hl, hx]
/-- A superblock is laid into a variable. -/
theorem Uv.tset {w : World} {g : Nat} {s : Sp} {v : Value} (h : Uv w g s v) (t : Sp) (u : Value) : Tch (fun j => j = g) w ((((w.setCell ⟨g, 0, none⟩ (.int .i64 t.gen)).setCell ⟨g, 1, none⟩ (.int .i64 t.sc)).setCell ⟨g, 2, none⟩ (.int .i64 t.nx)).setCell ⟨g, 3, none⟩ u) :=
  Tch.setCell (Tch.setCell (Tch.setCell (Tch.setCell (Tch.refl (fun j => j = g) w) (p := ⟨g, 0, none⟩) (fun _ => rfl) _) (p := ⟨g, 1, none⟩) (fun _ => rfl) _) (p := ⟨g, 2, none⟩) (fun _ => rfl) _) (p := ⟨g, 3, none⟩) (fun _ => rfl) _

set_option maxHeartbeats 400000 in
/-- Not 256 bytes. -/
theorem getU_len_any (v : Value) (xs : List Int) (w : World) (hr : Rd .u8 w v xs) (hl : xs.length ≠ 256) :
    Calls Try.prog 14 #[v] w fun e w' => GetU xs w e w' := by
  obtain ⟨a, cap, rfl, h1, h2, _⟩ := id hr
  have HE : Hid (getU xs = none) := getU_len hl
  have hl9 : xs.length ≤ 9223372036854775807 := by unfold maxLen at h2; omega
  obtain ⟨W1, hW1⟩ : ∃ W1, w.alloc (.cells #[.int .i64 0, .int .i64 0, .int .i64 0, .slice none 0 0] 24) = W1 := ⟨_, rfl⟩
  have b1 : Hid (Below w.heap.size w W1) := by rw [← hW1]; exact (Below.refl _ _).alloc (Nat.le_refl _) _
  have Q1 : Hid (Uv W1 w.heap.size sp0 (.slice none 0 0)) := by rw [← hW1]; exact uv_new w sp0 _
  have q0 : W1.cell? ⟨w.heap.size, 0, none⟩ = some (.int .i64 0) := Q1.out.c0
  have q1 : W1.cell? ⟨w.heap.size, 1, none⟩ = some (.int .i64 0) := Q1.out.c1
  have q2 : W1.cell? ⟨w.heap.size, 2, none⟩ = some (.int .i64 0) := Q1.out.c2
  have q3 := Q1.out.c3
  have f0 := Q1.out.fz 0
  have f1 := Q1.out.fz 1
  have f2 := Q1.out.fz 2
  have f3 := Q1.out.fz 3
  have HLD := hideP (Q1.out.put sp0 (.slice none 0 0)).load
  have HB : Hid (Below w.heap.size w ((((W1.setCell ⟨w.heap.size, 0, none⟩ (.int .i64 sp0.gen)).setCell ⟨w.heap.size, 1, none⟩ (.int .i64 sp0.sc)).setCell ⟨w.heap.size, 2, none⟩ (.int .i64 sp0.nx)).setCell ⟨w.heap.size, 3, none⟩ (.slice none 0 0))) := b1.out.trans ((Q1.out.tset sp0 _).below (by have := Q1.out.lt; omega) (fun k e => by omega))
  have hne : ((xs.length : Int) == 256) = false := by rw [beq_eq_false_iff_ne]; omega
  generalize xs.length = l at *
  clear hl hr h2
  go_enter Try.func14, Try.ntmps14
  go_wp2_with fail
  refine bodyPost_ret (v := .tuple #[supv sp0 (.slice none 0 0), .bool false]) (results_cellV (p := 2) (ty := 24) rfl _ _ _ w.heap.size _ _ rfl HLD.out rfl) rfl ?_
  exact getU_bad HE.out HB.out
end Go.Proofs.Ytdicgaepggffbaa
/-
  The program's Get of superblocks.
-/
namespace Go.Proofs.Ytdicgaepggffbaa
open Go.RowKit Pl
set_option linter.unusedVariables false
set_option linter.unusedSimpArgs false
set_option maxRecDepth 100000

set_option maxHeartbeats 1000000 in
theorem getU_may (L m : Nat) (v : Value) (xs : List Int) (w : World) (hr : Rd .u8 w v xs) (hb : By xs) (hl : xs.length = 256) (hL : xs.getD 14 0 = (L : Int)) (hmm : m = min L 9) (hm : mayU (rdS (fun x => x != 0) xs m) = false) :
    Calls Try.prog 14 #[v] w fun e w' => GetU xs w e w' := by
  obtain ⟨a, cap, rfl, h1, h2, _⟩ := id hr
  have HE : Hid (getU xs = none) := by
    show _ = _
    rw [getU_rd (f := fun x => x != 0) rfl rfl (n := m) hb (by omega)]
    rw [if_neg (by rw [hm]; simp)]
  have HM : Hid (mayU (rdS (fun x => x != 0) xs m) = false) := hm
  obtain ⟨hv, hi⟩ := zero_of_info info_frmU
  have HSL := slice_frmU
  have HR : Hid (Rd .u8 w (.slice a 256 cap) xs) := by rw [← hl]; exact hr
  have HY : Hid (By xs) := hb
  have HL : Hid (xs.length = 256) := hl
  rw [hl] at h1 ⊢
  have HFM : Hid (∀ W, Calls Try.prog 41 #[.agg (bcs xs).toArray] W fun e w' => FrmR 0 xs m W e w') := fun W => frm_any L m xs W hl hb hL hmm
  obtain ⟨W1, hW1⟩ : ∃ W1, w.alloc (.cells #[.int .i64 0, .int .i64 0, .int .i64 0, .slice none 0 0] 24) = W1 := ⟨_, rfl⟩
  have b1 : Below w.heap.size w W1 := by rw [← hW1]; exact (Below.refl _ _).alloc (Nat.le_refl _) _
  have Q1 : Hid (Uv W1 w.heap.size sp0 (.slice none 0 0)) := by rw [← hW1]; exact uv_new w sp0 _
  have B1 : Hid (Below w.heap.size w W1) := b1
  have R1 : Hid (Rd .u8 W1 (.slice a 256 cap) xs) := HR.out.below b1
  obtain ⟨Z, hZ⟩ : ∃ Z, Hid ((bcs zz).toArray = Z) := ⟨_, rfl⟩
  have HZ : Hid (Z.size = 256) := by show _ = _; rw [← hZ.out, List.size_toArray, bcs_len, zz_len]
  have HI : Hid ((Try.prog.info? 62).map (·.size) = some 256) := hi
  rw [hZ.out] at hv
  have HSZX : Hid ((bcs xs).toArray.size = 256) := bcs_sizeU hl
  have HONX : Hid ((bcs xs).toArray.all (·.oneCell') = true) := bcs_all _
  have HUU : Hid (Try.prog.underlying 62 = some (.array 256 5)) := Try.underlying62
  have HSZI : Hid ((Try.prog.info? 62).map (·.size) = some (bcs xs).length) := by show _ = _; rw [bcs_len, hl]; exact hi
  clear b1 hr hb hl h2 hi hL hmm hm
  go_enter Try.func14, Try.ntmps14
  go_wp2_with fail
  refine (ofU_any _ xs W1 R1.out HY.out HL.out).mono ?_
  rintro e w2 ⟨rfl, hb2⟩
  obtain ⟨w3, hW3⟩ : ∃ w3, w2.alloc (.cells (bcs xs).toArray 62) = w3 := ⟨_, rfl⟩
  obtain ⟨f, hf⟩ : ∃ f, Hid (w2.heap.size = f) := ⟨_, rfl⟩
  have hb3 : Below w2.heap.size w2 w3 := by rw [← hW3]; exact (Below.refl _ _).alloc (Nat.le_refl _) _
  have F3 : Hid (Fu w3 f xs) := by rw [← hW3, ← hf.out]; exact fv_newU w2 HL.out HY.out
  obtain ⟨g, hg⟩ : ∃ g, Hid (w.heap.size = g) := ⟨_, rfl⟩
  rw [hg.out] at Q1 B1
  have Q3 : Hid (Uv w3 g sp0 (.slice none 0 0)) := (Q1.out.below hb2).below hb3
  have B2 : Below g w w2 := B1.out.trans (hb2.mono (Nat.le_of_lt Q1.out.lt))
  have B3 : Hid (Below g w w3) := B2.trans (hb3.mono (by have := (Q1.out.below hb2).lt; omega))
  have HW3 : Hid (w2.alloc (.cells (bcs xs).toArray 62) = w3) := hW3
  have r3 : Hid (w3.rangeAt f 0 (bcs xs)) := F3.out.range
  have HC := hideP (HFM.out w3)
  clear hW3 hb2 hb3 B2 hW1 Q1 B1 R1 HFM
  go_wp2_with (first | (with_reducible (show wpList _ _ _ (Oper.mk _ (Op.store _ _ _) _ _ _ _ :: _) _ _); refine wpList_store_newD _ rfl 62 (.tmp 4) (.tmp 11) rfl Z (bcs xs).toArray rfl rfl (by rw [HI.out, HSZX.out]) (by rw [HZ.out, HSZX.out]) HONX.out ?_; rw [HW3.out, hf.out]) | (with_reducible (show wpList _ _ _ (Oper.mk _ (Op.load _ _) _ _ _ _ :: _) _ _); refine wpList_load_mid rfl 62 (.tmp 4) rfl f 0 rfl (bcs xs) _ r3.out HUU.out rfl HSZI.out ?_))
  rw [hg.out]
  have hu := HUU.out
  have hsz := HSZI.out
  clear hv HW3
  refine HC.out.mono ?_
  rintro e w4 ⟨vv, rfl, ho4, b4, n4⟩
  obtain ⟨T, hT⟩ : ∃ T, rdS (fun x => x != 0) xs m = T := ⟨_, rfl⟩
  have hT4 : rdVs (fun x => x != 0) xs m = T.vs := by rw [← hT]; rfl
  rw [hT4] at ho4
  obtain ⟨va, vc, hvv, hv1, hv2, _⟩ := id ho4.rd
  subst hvv
  rw [hT] at HM ⊢
  have F4 : Hid (Fu w4 f xs) := F3.out.below b4
  have Q4 : Hid (Uv w4 g sp0 (.slice none 0 0)) := Q3.out.below b4
  have B4 : Hid (Below g w w4) := B3.out.trans (b4.mono (Nat.le_of_lt Q3.out.lt))
  have N4 : Hid (∀ j, (Value.slice va T.vs.length vc).ownBlock = some j → g < j) := fun j hj => Nat.lt_of_lt_of_le Q3.out.lt (n4 j hj)
  have O4 : Hid (RdV w4 (.slice va T.vs.length vc) T.vs) := ho4.rd
  have HMY : Hid (∀ W, RdV W (.slice va T.vs.length vc) T.vs → Calls Try.prog 12 #[supv T (.slice va T.vs.length vc)] W fun e w' => e = .returned (.bool false) ∧ Below W.heap.size W w') := fun W h => by
    have h := mayU_any T _ W h
    rw [HM.out] at h
    exact h
  obtain ⟨l, hl⟩ : ∃ l, Hid (T.vs.length = l) := ⟨_, rfl⟩
  obtain ⟨ge, hge⟩ : ∃ l, Hid (T.gen = l) := ⟨_, rfl⟩
  obtain ⟨sc, hsc⟩ : ∃ l, Hid (T.sc = l) := ⟨_, rfl⟩
  obtain ⟨nx, hnx⟩ : ∃ l, Hid (T.nx = l) := ⟨_, rfl⟩
  obtain ⟨q, hqs⟩ : ∃ q, w4.heap.size = q := ⟨_, rfl⟩
  have HQS : Hid (w4.heap.size = q) := hqs
  obtain ⟨W6, hW6⟩ : ∃ W6, w4.alloc (.cells #[.int .i64 T.gen, .int .i64 T.sc, .int .i64 T.nx, .slice va T.vs.length vc] 24) = W6 := ⟨_, rfl⟩
  have b6 : Below w4.heap.size w4 W6 := by rw [← hW6]; exact (Below.refl _ _).alloc (Nat.le_refl _) _
  have V6 : Hid (Uv W6 q T (.slice va T.vs.length vc)) := by rw [← hW6, ← hqs]; exact uv_new w4 T _
  have F6 : Hid (Fu W6 f xs) := F4.out.below b6
  have Q6 : Hid (Uv W6 g sp0 (.slice none 0 0)) := Q4.out.below b6
  have B6 : Hid (Below g w W6) := B4.out.trans (b6.mono (Nat.le_of_lt Q4.out.lt))
  have O6 : Hid (RdV W6 (.slice va T.vs.length vc) T.vs) := O4.out.below b6
  unfold supv at HMY ⊢
  rw [hl.out] at N4 HMY hW6 V6 O6 O4 ⊢
  rw [hge.out, hsc.out, hnx.out] at HMY hW6 ⊢
  have r6 : W6.drew.rangeAt f 0 (bcs xs) := F6.out.range
  have v60 : W6.drew.cell? ⟨q, 0, none⟩ = some (.int .i64 ge) := by rw [← hge.out]; exact V6.out.c0
  have v61 : W6.drew.cell? ⟨q, 1, none⟩ = some (.int .i64 sc) := by rw [← hsc.out]; exact V6.out.c1
  have v62 : W6.drew.cell? ⟨q, 2, none⟩ = some (.int .i64 nx) := by rw [← hnx.out]; exact V6.out.c2
  have v63 : W6.drew.cell? ⟨q, 3, none⟩ = some (.slice va l vc) := V6.out.c3
  clear b4 n4 ho4 F4 Q4 B4 O4 b6 F3 Q3 B3 HC hv1 hv2 hT4 hT
  go_wp2_with fail
  clear hW6
  have hS : W6.drew.rangeAt f 0 (bcs xs) ∧ W6.drew.cell? ⟨q, 0, none⟩ = some (.int .i64 ge) ∧ W6.drew.cell? ⟨q, 1, none⟩ = some (.int .i64 sc) ∧ W6.drew.cell? ⟨q, 2, none⟩ = some (.int .i64 nx) ∧ W6.drew.cell? ⟨q, 3, none⟩ = some (.slice va l vc) := ⟨r6, v60, v61, v62, v63⟩
  refine wp_region_held (S := fun w' => w'.rangeAt f 0 (bcs xs) ∧ w'.cell? ⟨q, 0, none⟩ = some (.int .i64 ge) ∧ w'.cell? ⟨q, 1, none⟩ = some (.int .i64 sc) ∧ w'.cell? ⟨q, 2, none⟩ = some (.int .i64 nx) ∧ w'.cell? ⟨q, 3, none⟩ = some (.slice va l vc)) (by kernel_rfl) ?_
  refine takeT 0 (some 14) (.load 24 (.tmp 5)) (.agg #[.int .i64 ge, .int .i64 sc, .int .i64 nx, .slice va l vc]) rfl (by kernel_rfl) (by kernel_rfl) (by kernel_rfl) (fun _ _ _ h => h) ?hy hS ?_
  case hy =>
    rintro o ho w' ⟨hS1, hS2, hS3, hS4, hS5⟩
    go_simp
  simp only [Act.put, List.setIfInBounds_toArray, List.set_cons_zero, List.set_cons_succ]
  refine readyT 1 (some 15) (.call { callee := .value (.func 12), args := #[.tmp 14], argTypes := #[24] }) rfl (by kernel_rfl) ?_
  rintro o K hd ho hgd hK
  refine step_call (enters_of Try.func12 (by kernel_rfl) rfl) ho (vs := #[.agg #[.int .i64 ge, .int .i64 sc, .int .i64 nx, .slice va l vc]]) (by kernel_rfl) (HMY.out _ (O6.out.below (Below.refl _ _).drew)) ?_
  rintro e w7 ⟨rfl, hb7⟩
  refine ⟨_, rfl, ?_⟩
  rw [hd]
  have b7 : Below W6.heap.size W6 w7 := ((Below.refl _ _).drew).trans hb7
  have F7 : Hid (Fu w7 f xs) := F6.out.below b7
  have V7 : Hid (Uv w7 q T (.slice va l vc)) := V6.out.below b7
  have Q7 : Hid (Uv w7 g sp0 (.slice none 0 0)) := Q6.out.below b7
  have B7 : Hid (Below g w w7) := B6.out.trans (b7.mono (Nat.le_of_lt Q6.out.lt))
  have O7 : Hid (RdV w7 (.slice va l vc) T.vs) := O6.out.below b7
  have hS7 : w7.rangeAt f 0 (bcs xs) ∧ w7.cell? ⟨q, 0, none⟩ = some (.int .i64 ge) ∧ w7.cell? ⟨q, 1, none⟩ = some (.int .i64 sc) ∧ w7.cell? ⟨q, 2, none⟩ = some (.int .i64 nx) ∧ w7.cell? ⟨q, 3, none⟩ = some (.slice va l vc) := ⟨F7.out.range, by rw [← hge.out]; exact V7.out.c0, by rw [← hsc.out]; exact V7.out.c1, by rw [← hnx.out]; exact V7.out.c2, V7.out.c3⟩
  refine hK _ _ hS7 ?_
  clear hb7 b7 ho hd hgd hK hS r6 v60 v61 v62 v63 F6 V6 Q6 B6 O6
  simp only [Act.put, List.setIfInBounds_toArray, List.set_cons_zero, List.set_cons_succ]
  refine takeT 2 (some 16) (.unOp .not 4 (.tmp 15)) (.bool true) rfl (by kernel_rfl) (by kernel_rfl) (by kernel_rfl) (fun _ _ _ h => h) ?hy hS7 ?_
  case hy =>
    rintro o ho w' ⟨hS1, hS2, hS3, hS4, hS5⟩
    go_simp
  simp only [Act.put, List.setIfInBounds_toArray, List.set_cons_zero, List.set_cons_succ]
  refine takeT 3 (some 17) (.move (.tmp 16)) (.bool true) rfl (by kernel_rfl) (by kernel_rfl) (by kernel_rfl) (fun _ _ _ h => h) ?hy hS7 ?_
  case hy =>
    rintro o ho w' ⟨hS1, hS2, hS3, hS4, hS5⟩
    go_simp
  simp only [Act.put, List.setIfInBounds_toArray, List.set_cons_zero, List.set_cons_succ]
  refine skipG 4 (some 18) (.load 62 (.tmp 4)) 3 false true rfl (by kernel_rfl) (by kernel_rfl) (by kernel_rfl) (fun _ _ _ h => h) rfl (by decide) hS7 ?_
  simp only [Act.put, List.setIfInBounds_toArray, List.set_cons_zero, List.set_cons_succ]
  refine skipG 5 (some 19) (.load 24 (.tmp 5)) 3 false true rfl (by kernel_rfl) (by kernel_rfl) (by kernel_rfl) (fun _ _ _ h => h) rfl (by decide) hS7 ?_
  simp only [Act.put, List.setIfInBounds_toArray, List.set_cons_zero, List.set_cons_succ]
  refine skipG 6 (some 20) (.call { callee := .value (.func 35), args := #[.tmp 19], argTypes := #[24] }) 3 false true rfl (by kernel_rfl) (by kernel_rfl) (by kernel_rfl) (fun _ _ _ h => h) rfl (by decide) hS7 ?_
  simp only [Act.put, List.setIfInBounds_toArray, List.set_cons_zero, List.set_cons_succ]
  refine skipG 7 (some 21) (.binOp .neq 62 (.tmp 18) (.tmp 20) 62) 3 false true rfl (by kernel_rfl) (by kernel_rfl) (by kernel_rfl) (fun _ _ _ h => h) rfl (by decide) hS7 ?_
  simp only [Act.put, List.setIfInBounds_toArray, List.set_cons_zero, List.set_cons_succ]
  refine takeT 8 (some 22) (.pick (.tmp 17) (.const (.bool true)) (.tmp 21)) (.bool true) rfl (by kernel_rfl) (by kernel_rfl) (by kernel_rfl) (fun _ _ _ h => h) ?hy hS7 ?_
  case hy =>
    rintro o ho w' ⟨hS1, hS2, hS3, hS4, hS5⟩
    go_simp
  simp only [Act.put, List.setIfInBounds_toArray, List.set_cons_zero, List.set_cons_succ]
  refine wpAnyH_done (by kernel_rfl) ?_ _
  clear hS7
  have q0 : w7.cell? ⟨g, 0, none⟩ = some (.int .i64 0) := Q7.out.c0
  have q1 : w7.cell? ⟨g, 1, none⟩ = some (.int .i64 0) := Q7.out.c1
  have q2 : w7.cell? ⟨g, 2, none⟩ = some (.int .i64 0) := Q7.out.c2
  have q3 := Q7.out.c3
  have f0 := Q7.out.fz 0
  have f1 := Q7.out.fz 1
  have f2 := Q7.out.fz 2
  have f3 := Q7.out.fz 3
  have HLD := hideP (Q7.out.put sp0 (.slice none 0 0)).load
  have HBE : Hid (Below g w ((((w7.setCell ⟨g, 0, none⟩ (.int .i64 sp0.gen)).setCell ⟨g, 1, none⟩ (.int .i64 sp0.sc)).setCell ⟨g, 2, none⟩ (.int .i64 sp0.nx)).setCell ⟨g, 3, none⟩ (.slice none 0 0))) := B7.out.trans ((Q7.out.tset sp0 _).below (by have := Q7.out.lt; omega) (fun k e => by omega))
  go_wp2_with fail
  refine bodyPost_ret (v := .tuple #[supv sp0 (.slice none 0 0), .bool false]) (results_cellV (p := 2) (ty := 24) rfl _ _ _ g _ _ rfl HLD.out rfl) rfl ?_
  exact getU_bad HE.out (by rw [hg.out]; exact HBE.out)

set_option maxHeartbeats 1000000 in
theorem getU_img (L m : Nat) (v : Value) (xs : List Int) (w : World) (hr : Rd .u8 w v xs) (hb : By xs) (hl : xs.length = 256) (hL : xs.getD 14 0 = (L : Int)) (hmm : m = min L 9) (hm : mayU (rdS (fun x => x != 0) xs m) = true) (hq : xs ≠ usec (rdS (fun x => x != 0) xs m)) :
    Calls Try.prog 14 #[v] w fun e w' => GetU xs w e w' := by
  obtain ⟨a, cap, rfl, h1, h2, _⟩ := id hr
  have HE : Hid (getU xs = none) := by
    show _ = _
    rw [getU_rd (f := fun x => x != 0) rfl rfl (n := m) hb (by omega)]
    rw [if_neg (fun h => hq h.2)]
  have HM : Hid (mayU (rdS (fun x => x != 0) xs m) = true) := hm
  have HNQ : Hid (xs ≠ usec (rdS (fun x => x != 0) xs m)) := hq
  obtain ⟨hv, hi⟩ := zero_of_info info_frmU
  have HSL := slice_frmU
  have HR : Hid (Rd .u8 w (.slice a 256 cap) xs) := by rw [← hl]; exact hr
  have HY : Hid (By xs) := hb
  have HL : Hid (xs.length = 256) := hl
  rw [hl] at h1 ⊢
  have HFM : Hid (∀ W, Calls Try.prog 41 #[.agg (bcs xs).toArray] W fun e w' => FrmR 0 xs m W e w') := fun W => frm_any L m xs W hl hb hL hmm
  obtain ⟨W1, hW1⟩ : ∃ W1, w.alloc (.cells #[.int .i64 0, .int .i64 0, .int .i64 0, .slice none 0 0] 24) = W1 := ⟨_, rfl⟩
  have b1 : Below w.heap.size w W1 := by rw [← hW1]; exact (Below.refl _ _).alloc (Nat.le_refl _) _
  have Q1 : Hid (Uv W1 w.heap.size sp0 (.slice none 0 0)) := by rw [← hW1]; exact uv_new w sp0 _
  have B1 : Hid (Below w.heap.size w W1) := b1
  have R1 : Hid (Rd .u8 W1 (.slice a 256 cap) xs) := HR.out.below b1
  obtain ⟨Z, hZ⟩ : ∃ Z, Hid ((bcs zz).toArray = Z) := ⟨_, rfl⟩
  have HZ : Hid (Z.size = 256) := by show _ = _; rw [← hZ.out, List.size_toArray, bcs_len, zz_len]
  have HI : Hid ((Try.prog.info? 62).map (·.size) = some 256) := hi
  rw [hZ.out] at hv
  have HSZX : Hid ((bcs xs).toArray.size = 256) := bcs_sizeU hl
  have HONX : Hid ((bcs xs).toArray.all (·.oneCell') = true) := bcs_all _
  have HUU : Hid (Try.prog.underlying 62 = some (.array 256 5)) := Try.underlying62
  have HSZI : Hid ((Try.prog.info? 62).map (·.size) = some (bcs xs).length) := by show _ = _; rw [bcs_len, hl]; exact hi
  clear b1 hr hb hl h2 hi hL hmm hm hq
  go_enter Try.func14, Try.ntmps14
  go_wp2_with fail
  refine (ofU_any _ xs W1 R1.out HY.out HL.out).mono ?_
  rintro e w2 ⟨rfl, hb2⟩
  obtain ⟨w3, hW3⟩ : ∃ w3, w2.alloc (.cells (bcs xs).toArray 62) = w3 := ⟨_, rfl⟩
  obtain ⟨f, hf⟩ : ∃ f, Hid (w2.heap.size = f) := ⟨_, rfl⟩
  have hb3 : Below w2.heap.size w2 w3 := by rw [← hW3]; exact (Below.refl _ _).alloc (Nat.le_refl _) _
  have F3 : Hid (Fu w3 f xs) := by rw [← hW3, ← hf.out]; exact fv_newU w2 HL.out HY.out
  obtain ⟨g, hg⟩ : ∃ g, Hid (w.heap.size = g) := ⟨_, rfl⟩
  rw [hg.out] at Q1 B1
  have Q3 : Hid (Uv w3 g sp0 (.slice none 0 0)) := (Q1.out.below hb2).below hb3
  have B2 : Below g w w2 := B1.out.trans (hb2.mono (Nat.le_of_lt Q1.out.lt))
  have B3 : Hid (Below g w w3) := B2.trans (hb3.mono (by have := (Q1.out.below hb2).lt; omega))
  have HW3 : Hid (w2.alloc (.cells (bcs xs).toArray 62) = w3) := hW3
  have r3 : Hid (w3.rangeAt f 0 (bcs xs)) := F3.out.range
  have HC := hideP (HFM.out w3)
  clear hW3 hb2 hb3 B2 hW1 Q1 B1 R1 HFM
  go_wp2_with (first | (with_reducible (show wpList _ _ _ (Oper.mk _ (Op.store _ _ _) _ _ _ _ :: _) _ _); refine wpList_store_newD _ rfl 62 (.tmp 4) (.tmp 11) rfl Z (bcs xs).toArray rfl rfl (by rw [HI.out, HSZX.out]) (by rw [HZ.out, HSZX.out]) HONX.out ?_; rw [HW3.out, hf.out]) | (with_reducible (show wpList _ _ _ (Oper.mk _ (Op.load _ _) _ _ _ _ :: _) _ _); refine wpList_load_mid rfl 62 (.tmp 4) rfl f 0 rfl (bcs xs) _ r3.out HUU.out rfl HSZI.out ?_))
  rw [hg.out]
  have hu := HUU.out
  have hsz := HSZI.out
  clear hv HW3
  refine HC.out.mono ?_
  rintro e w4 ⟨vv, rfl, ho4, b4, n4⟩
  obtain ⟨T, hT⟩ : ∃ T, rdS (fun x => x != 0) xs m = T := ⟨_, rfl⟩
  have hT4 : rdVs (fun x => x != 0) xs m = T.vs := by rw [← hT]; rfl
  rw [hT4] at ho4
  obtain ⟨va, vc, hvv, hv1, hv2, _⟩ := id ho4.rd
  subst hvv
  rw [hT] at HM HNQ ⊢
  have F4 : Hid (Fu w4 f xs) := F3.out.below b4
  have Q4 : Hid (Uv w4 g sp0 (.slice none 0 0)) := Q3.out.below b4
  have B4 : Hid (Below g w w4) := B3.out.trans (b4.mono (Nat.le_of_lt Q3.out.lt))
  have N4 : Hid (∀ j, (Value.slice va T.vs.length vc).ownBlock = some j → g < j) := fun j hj => Nat.lt_of_lt_of_le Q3.out.lt (n4 j hj)
  have O4 : Hid (RdV w4 (.slice va T.vs.length vc) T.vs) := ho4.rd
  have HMY : Hid (∀ W, RdV W (.slice va T.vs.length vc) T.vs → Calls Try.prog 12 #[supv T (.slice va T.vs.length vc)] W fun e w' => e = .returned (.bool true) ∧ Below W.heap.size W w') := fun W h => by
    have h := mayU_any T _ W h
    rw [HM.out] at h
    exact h
  have HSO : Hid (∀ W, RdV W (.slice va T.vs.length vc) T.vs → Calls Try.prog 35 #[supv T (.slice va T.vs.length vc)] W fun e w' => e = .returned (.agg (bcs (usec T)).toArray) ∧ Below W.heap.size W w') := fun W h => sectorOfU_any T _ W h HM.out
  have hq2 : ∀ W, (Op.equalIn 10000 62 (.agg (bcs xs).toArray) (.agg (bcs (usec T)).toArray)).run Try.prog W = .ok false W := fun W => by rw [eq_frmU W xs _ HL.out (usec_len (mayU_iff.1 HM.out).1.2.2.2.2.2.2)]; exact congrArg (fun b => Result.ok b W) (decide_eq_false HNQ.out)
  obtain ⟨l, hl⟩ : ∃ l, Hid (T.vs.length = l) := ⟨_, rfl⟩
  obtain ⟨ge, hge⟩ : ∃ l, Hid (T.gen = l) := ⟨_, rfl⟩
  obtain ⟨sc, hsc⟩ : ∃ l, Hid (T.sc = l) := ⟨_, rfl⟩
  obtain ⟨nx, hnx⟩ : ∃ l, Hid (T.nx = l) := ⟨_, rfl⟩
  obtain ⟨q, hqs⟩ : ∃ q, w4.heap.size = q := ⟨_, rfl⟩
  have HQS : Hid (w4.heap.size = q) := hqs
  obtain ⟨W6, hW6⟩ : ∃ W6, w4.alloc (.cells #[.int .i64 T.gen, .int .i64 T.sc, .int .i64 T.nx, .slice va T.vs.length vc] 24) = W6 := ⟨_, rfl⟩
  have b6 : Below w4.heap.size w4 W6 := by rw [← hW6]; exact (Below.refl _ _).alloc (Nat.le_refl _) _
  have V6 : Hid (Uv W6 q T (.slice va T.vs.length vc)) := by rw [← hW6, ← hqs]; exact uv_new w4 T _
  have F6 : Hid (Fu W6 f xs) := F4.out.below b6
  have Q6 : Hid (Uv W6 g sp0 (.slice none 0 0)) := Q4.out.below b6
  have B6 : Hid (Below g w W6) := B4.out.trans (b6.mono (Nat.le_of_lt Q4.out.lt))
  have O6 : Hid (RdV W6 (.slice va T.vs.length vc) T.vs) := O4.out.below b6
  unfold supv at HMY HSO ⊢
  rw [hl.out] at N4 HMY HSO hW6 V6 O6 O4 ⊢
  rw [hge.out, hsc.out, hnx.out] at HMY HSO hW6 ⊢
  have r6 : W6.drew.rangeAt f 0 (bcs xs) := F6.out.range
  have v60 : W6.drew.cell? ⟨q, 0, none⟩ = some (.int .i64 ge) := by rw [← hge.out]; exact V6.out.c0
  have v61 : W6.drew.cell? ⟨q, 1, none⟩ = some (.int .i64 sc) := by rw [← hsc.out]; exact V6.out.c1
  have v62 : W6.drew.cell? ⟨q, 2, none⟩ = some (.int .i64 nx) := by rw [← hnx.out]; exact V6.out.c2
  have v63 : W6.drew.cell? ⟨q, 3, none⟩ = some (.slice va l vc) := V6.out.c3
  clear b4 n4 ho4 F4 Q4 B4 O4 b6 F3 Q3 B3 HC hv1 hv2 hT4 hT
  go_wp2_with fail
  clear hW6
  have hS : W6.drew.rangeAt f 0 (bcs xs) ∧ W6.drew.cell? ⟨q, 0, none⟩ = some (.int .i64 ge) ∧ W6.drew.cell? ⟨q, 1, none⟩ = some (.int .i64 sc) ∧ W6.drew.cell? ⟨q, 2, none⟩ = some (.int .i64 nx) ∧ W6.drew.cell? ⟨q, 3, none⟩ = some (.slice va l vc) := ⟨r6, v60, v61, v62, v63⟩
  refine wp_region_held (S := fun w' => w'.rangeAt f 0 (bcs xs) ∧ w'.cell? ⟨q, 0, none⟩ = some (.int .i64 ge) ∧ w'.cell? ⟨q, 1, none⟩ = some (.int .i64 sc) ∧ w'.cell? ⟨q, 2, none⟩ = some (.int .i64 nx) ∧ w'.cell? ⟨q, 3, none⟩ = some (.slice va l vc)) (by kernel_rfl) ?_
  refine takeT 0 (some 14) (.load 24 (.tmp 5)) (.agg #[.int .i64 ge, .int .i64 sc, .int .i64 nx, .slice va l vc]) rfl (by kernel_rfl) (by kernel_rfl) (by kernel_rfl) (fun _ _ _ h => h) ?hy hS ?_
  case hy =>
    rintro o ho w' ⟨hS1, hS2, hS3, hS4, hS5⟩
    go_simp
  simp only [Act.put, List.setIfInBounds_toArray, List.set_cons_zero, List.set_cons_succ]
  refine readyT 1 (some 15) (.call { callee := .value (.func 12), args := #[.tmp 14], argTypes := #[24] }) rfl (by kernel_rfl) ?_
  rintro o K hd ho hgd hK
  refine step_call (enters_of Try.func12 (by kernel_rfl) rfl) ho (vs := #[.agg #[.int .i64 ge, .int .i64 sc, .int .i64 nx, .slice va l vc]]) (by kernel_rfl) (HMY.out _ (O6.out.below (Below.refl _ _).drew)) ?_
  rintro e w7 ⟨rfl, hb7⟩
  refine ⟨_, rfl, ?_⟩
  rw [hd]
  have b7 : Below W6.heap.size W6 w7 := ((Below.refl _ _).drew).trans hb7
  have F7 : Hid (Fu w7 f xs) := F6.out.below b7
  have V7 : Hid (Uv w7 q T (.slice va l vc)) := V6.out.below b7
  have Q7 : Hid (Uv w7 g sp0 (.slice none 0 0)) := Q6.out.below b7
  have B7 : Hid (Below g w w7) := B6.out.trans (b7.mono (Nat.le_of_lt Q6.out.lt))
  have O7 : Hid (RdV w7 (.slice va l vc) T.vs) := O6.out.below b7
  have hS7 : w7.rangeAt f 0 (bcs xs) ∧ w7.cell? ⟨q, 0, none⟩ = some (.int .i64 ge) ∧ w7.cell? ⟨q, 1, none⟩ = some (.int .i64 sc) ∧ w7.cell? ⟨q, 2, none⟩ = some (.int .i64 nx) ∧ w7.cell? ⟨q, 3, none⟩ = some (.slice va l vc) := ⟨F7.out.range, by rw [← hge.out]; exact V7.out.c0, by rw [← hsc.out]; exact V7.out.c1, by rw [← hnx.out]; exact V7.out.c2, V7.out.c3⟩
  refine hK _ _ hS7 ?_
  clear hb7 b7 ho hd hgd hK hS r6 v60 v61 v62 v63 F6 V6 Q6 B6 O6
  simp only [Act.put, List.setIfInBounds_toArray, List.set_cons_zero, List.set_cons_succ]
  refine takeT 2 (some 16) (.unOp .not 4 (.tmp 15)) (.bool false) rfl (by kernel_rfl) (by kernel_rfl) (by kernel_rfl) (fun _ _ _ h => h) ?hy hS7 ?_
  case hy =>
    rintro o ho w' ⟨hS1, hS2, hS3, hS4, hS5⟩
    go_simp
  simp only [Act.put, List.setIfInBounds_toArray, List.set_cons_zero, List.set_cons_succ]
  refine takeT 3 (some 17) (.move (.tmp 16)) (.bool false) rfl (by kernel_rfl) (by kernel_rfl) (by kernel_rfl) (fun _ _ _ h => h) ?hy hS7 ?_
  case hy =>
    rintro o ho w' ⟨hS1, hS2, hS3, hS4, hS5⟩
    go_simp
  simp only [Act.put, List.setIfInBounds_toArray, List.set_cons_zero, List.set_cons_succ]
  refine takeArrG 4 (some 18) 62 (.tmp 4) 3 false f 0 (bcs xs) _ rfl (by kernel_rfl) (by kernel_rfl) (by kernel_rfl) (fun _ _ _ h => h) rfl rfl (fun w' h => h.1) hu rfl hsz hS7 ?_
  simp only [Act.put, List.setIfInBounds_toArray, List.set_cons_zero, List.set_cons_succ]
  refine takeG 5 (some 19) (.load 24 (.tmp 5)) 3 false (.agg #[.int .i64 ge, .int .i64 sc, .int .i64 nx, .slice va l vc]) rfl (by kernel_rfl) (by kernel_rfl) (by kernel_rfl) (fun _ _ _ h => h) rfl ?hy hS7 ?_
  case hy =>
    rintro o ho w' ⟨hS1, hS2, hS3, hS4, hS5⟩
    go_simp
  simp only [Act.put, List.setIfInBounds_toArray, List.set_cons_zero, List.set_cons_succ]
  refine readyG 6 (some 20) (.call { callee := .value (.func 35), args := #[.tmp 19], argTypes := #[24] }) 3 false rfl (by kernel_rfl) rfl ?_
  rintro o K hd ho hK
  refine step_call (enters_of Try.func35 (by kernel_rfl) rfl) ho (vs := #[.agg #[.int .i64 ge, .int .i64 sc, .int .i64 nx, .slice va l vc]]) (by kernel_rfl) (HSO.out _ O7.out) ?_
  rintro e w8 ⟨rfl, b8⟩
  refine ⟨_, rfl, ?_⟩
  rw [hd]
  have F8 : Hid (Fu w8 f xs) := F7.out.below b8
  have V8 : Hid (Uv w8 q T (.slice va l vc)) := V7.out.below b8
  have Q8 : Hid (Uv w8 g sp0 (.slice none 0 0)) := Q7.out.below b8
  have B8 : Hid (Below g w w8) := B7.out.trans (b8.mono (Nat.le_of_lt Q7.out.lt))
  have O8 : Hid (RdV w8 (.slice va l vc) T.vs) := O7.out.below b8
  have hS8 : w8.rangeAt f 0 (bcs xs) ∧ w8.cell? ⟨q, 0, none⟩ = some (.int .i64 ge) ∧ w8.cell? ⟨q, 1, none⟩ = some (.int .i64 sc) ∧ w8.cell? ⟨q, 2, none⟩ = some (.int .i64 nx) ∧ w8.cell? ⟨q, 3, none⟩ = some (.slice va l vc) := ⟨F8.out.range, by rw [← hge.out]; exact V8.out.c0, by rw [← hsc.out]; exact V8.out.c1, by rw [← hnx.out]; exact V8.out.c2, V8.out.c3⟩
  refine hK _ _ hS8 ?_
  clear b8 ho hd hK hS7 F7 V7 Q7 B7 O7
  simp only [Act.put, List.setIfInBounds_toArray, List.set_cons_zero, List.set_cons_succ]
  refine takeG 7 (some 21) (.binOp .neq 62 (.tmp 18) (.tmp 20) 62) 3 false (.bool true) rfl (by kernel_rfl) (by kernel_rfl) (by kernel_rfl) (fun _ _ _ h => h) rfl ?hy hS8 ?_
  case hy =>
    rintro o ho w' ⟨hS1, hS2, hS3, hS4, hS5⟩
    go_simp
  simp only [Act.put, List.setIfInBounds_toArray, List.set_cons_zero, List.set_cons_succ]
  refine takeT 8 (some 22) (.pick (.tmp 17) (.const (.bool true)) (.tmp 21)) (.bool true) rfl (by kernel_rfl) (by kernel_rfl) (by kernel_rfl) (fun _ _ _ h => h) ?hy hS8 ?_
  case hy =>
    rintro o ho w' ⟨hS1, hS2, hS3, hS4, hS5⟩
    go_simp
  simp only [Act.put, List.setIfInBounds_toArray, List.set_cons_zero, List.set_cons_succ]
  refine wpAnyH_done (by kernel_rfl) ?_ _
  clear hS8 hq2
  have q0 : w8.cell? ⟨g, 0, none⟩ = some (.int .i64 0) := Q8.out.c0
  have q1 : w8.cell? ⟨g, 1, none⟩ = some (.int .i64 0) := Q8.out.c1
  have q2 : w8.cell? ⟨g, 2, none⟩ = some (.int .i64 0) := Q8.out.c2
  have q3 := Q8.out.c3
  have f0 := Q8.out.fz 0
  have f1 := Q8.out.fz 1
  have f2 := Q8.out.fz 2
  have f3 := Q8.out.fz 3
  have HLD := hideP (Q8.out.put sp0 (.slice none 0 0)).load
  have HBE : Hid (Below g w ((((w8.setCell ⟨g, 0, none⟩ (.int .i64 sp0.gen)).setCell ⟨g, 1, none⟩ (.int .i64 sp0.sc)).setCell ⟨g, 2, none⟩ (.int .i64 sp0.nx)).setCell ⟨g, 3, none⟩ (.slice none 0 0))) := B8.out.trans ((Q8.out.tset sp0 _).below (by have := Q8.out.lt; omega) (fun k e => by omega))
  go_wp2_with fail
  refine bodyPost_ret (v := .tuple #[supv sp0 (.slice none 0 0), .bool false]) (results_cellV (p := 2) (ty := 24) rfl _ _ _ g _ _ rfl HLD.out rfl) rfl ?_
  exact getU_bad HE.out (by rw [hg.out]; exact HBE.out)

set_option maxHeartbeats 1000000 in
theorem getU_ok (L m : Nat) (v : Value) (xs : List Int) (w : World) (hr : Rd .u8 w v xs) (hb : By xs) (hl : xs.length = 256) (hL : xs.getD 14 0 = (L : Int)) (hmm : m = min L 9) (hm : mayU (rdS (fun x => x != 0) xs m) = true) (hq : xs = usec (rdS (fun x => x != 0) xs m)) :
    Calls Try.prog 14 #[v] w fun e w' => GetU xs w e w' := by
  obtain ⟨a, cap, rfl, h1, h2, _⟩ := id hr
  have HE : Hid (getU xs = some (rdS (fun x => x != 0) xs m)) := by
    show _ = _
    rw [getU_rd (f := fun x => x != 0) rfl rfl (n := m) hb (by omega)]
    rw [if_pos ⟨hm, hq⟩]
  have HM : Hid (mayU (rdS (fun x => x != 0) xs m) = true) := hm
  have HNQ : Hid (xs = usec (rdS (fun x => x != 0) xs m)) := hq
  obtain ⟨hv, hi⟩ := zero_of_info info_frmU
  have HSL := slice_frmU
  have HR : Hid (Rd .u8 w (.slice a 256 cap) xs) := by rw [← hl]; exact hr
  have HY : Hid (By xs) := hb
  have HL : Hid (xs.length = 256) := hl
  rw [hl] at h1 ⊢
  have HFM : Hid (∀ W, Calls Try.prog 41 #[.agg (bcs xs).toArray] W fun e w' => FrmR 0 xs m W e w') := fun W => frm_any L m xs W hl hb hL hmm
  obtain ⟨W1, hW1⟩ : ∃ W1, w.alloc (.cells #[.int .i64 0, .int .i64 0, .int .i64 0, .slice none 0 0] 24) = W1 := ⟨_, rfl⟩
  have b1 : Below w.heap.size w W1 := by rw [← hW1]; exact (Below.refl _ _).alloc (Nat.le_refl _) _
  have Q1 : Hid (Uv W1 w.heap.size sp0 (.slice none 0 0)) := by rw [← hW1]; exact uv_new w sp0 _
  have B1 : Hid (Below w.heap.size w W1) := b1
  have R1 : Hid (Rd .u8 W1 (.slice a 256 cap) xs) := HR.out.below b1
  obtain ⟨Z, hZ⟩ : ∃ Z, Hid ((bcs zz).toArray = Z) := ⟨_, rfl⟩
  have HZ : Hid (Z.size = 256) := by show _ = _; rw [← hZ.out, List.size_toArray, bcs_len, zz_len]
  have HI : Hid ((Try.prog.info? 62).map (·.size) = some 256) := hi
  rw [hZ.out] at hv
  have HSZX : Hid ((bcs xs).toArray.size = 256) := bcs_sizeU hl
  have HONX : Hid ((bcs xs).toArray.all (·.oneCell') = true) := bcs_all _
  have HUU : Hid (Try.prog.underlying 62 = some (.array 256 5)) := Try.underlying62
  have HSZI : Hid ((Try.prog.info? 62).map (·.size) = some (bcs xs).length) := by show _ = _; rw [bcs_len, hl]; exact hi
  clear b1 hr hb hl h2 hi hL hmm hm hq
  go_enter Try.func14, Try.ntmps14
  go_wp2_with fail
  refine (ofU_any _ xs W1 R1.out HY.out HL.out).mono ?_
  rintro e w2 ⟨rfl, hb2⟩
  obtain ⟨w3, hW3⟩ : ∃ w3, w2.alloc (.cells (bcs xs).toArray 62) = w3 := ⟨_, rfl⟩
  obtain ⟨f, hf⟩ : ∃ f, Hid (w2.heap.size = f) := ⟨_, rfl⟩
  have hb3 : Below w2.heap.size w2 w3 := by rw [← hW3]; exact (Below.refl _ _).alloc (Nat.le_refl _) _
  have F3 : Hid (Fu w3 f xs) := by rw [← hW3, ← hf.out]; exact fv_newU w2 HL.out HY.out
  obtain ⟨g, hg⟩ : ∃ g, Hid (w.heap.size = g) := ⟨_, rfl⟩
  rw [hg.out] at Q1 B1
  have Q3 : Hid (Uv w3 g sp0 (.slice none 0 0)) := (Q1.out.below hb2).below hb3
  have B2 : Below g w w2 := B1.out.trans (hb2.mono (Nat.le_of_lt Q1.out.lt))
  have B3 : Hid (Below g w w3) := B2.trans (hb3.mono (by have := (Q1.out.below hb2).lt; omega))
  have HW3 : Hid (w2.alloc (.cells (bcs xs).toArray 62) = w3) := hW3
  have r3 : Hid (w3.rangeAt f 0 (bcs xs)) := F3.out.range
  have HC := hideP (HFM.out w3)
  clear hW3 hb2 hb3 B2 hW1 Q1 B1 R1 HFM
  go_wp2_with (first | (with_reducible (show wpList _ _ _ (Oper.mk _ (Op.store _ _ _) _ _ _ _ :: _) _ _); refine wpList_store_newD _ rfl 62 (.tmp 4) (.tmp 11) rfl Z (bcs xs).toArray rfl rfl (by rw [HI.out, HSZX.out]) (by rw [HZ.out, HSZX.out]) HONX.out ?_; rw [HW3.out, hf.out]) | (with_reducible (show wpList _ _ _ (Oper.mk _ (Op.load _ _) _ _ _ _ :: _) _ _); refine wpList_load_mid rfl 62 (.tmp 4) rfl f 0 rfl (bcs xs) _ r3.out HUU.out rfl HSZI.out ?_))
  rw [hg.out]
  have hu := HUU.out
  have hsz := HSZI.out
  clear hv HW3
  refine HC.out.mono ?_
  rintro e w4 ⟨vv, rfl, ho4, b4, n4⟩
  obtain ⟨T, hT⟩ : ∃ T, rdS (fun x => x != 0) xs m = T := ⟨_, rfl⟩
  have hT4 : rdVs (fun x => x != 0) xs m = T.vs := by rw [← hT]; rfl
  rw [hT4] at ho4
  obtain ⟨va, vc, hvv, hv1, hv2, _⟩ := id ho4.rd
  subst hvv
  rw [hT] at HM HE HNQ ⊢
  have F4 : Hid (Fu w4 f xs) := F3.out.below b4
  have Q4 : Hid (Uv w4 g sp0 (.slice none 0 0)) := Q3.out.below b4
  have B4 : Hid (Below g w w4) := B3.out.trans (b4.mono (Nat.le_of_lt Q3.out.lt))
  have N4 : Hid (∀ j, (Value.slice va T.vs.length vc).ownBlock = some j → g < j) := fun j hj => Nat.lt_of_lt_of_le Q3.out.lt (n4 j hj)
  have O4 : Hid (RdV w4 (.slice va T.vs.length vc) T.vs) := ho4.rd
  have HMY : Hid (∀ W, RdV W (.slice va T.vs.length vc) T.vs → Calls Try.prog 12 #[supv T (.slice va T.vs.length vc)] W fun e w' => e = .returned (.bool true) ∧ Below W.heap.size W w') := fun W h => by
    have h := mayU_any T _ W h
    rw [HM.out] at h
    exact h
  have HSO : Hid (∀ W, RdV W (.slice va T.vs.length vc) T.vs → Calls Try.prog 35 #[supv T (.slice va T.vs.length vc)] W fun e w' => e = .returned (.agg (bcs (usec T)).toArray) ∧ Below W.heap.size W w') := fun W h => sectorOfU_any T _ W h HM.out
  have hq2 : ∀ W, (Op.equalIn 10000 62 (.agg (bcs xs).toArray) (.agg (bcs (usec T)).toArray)).run Try.prog W = .ok true W := fun W => by rw [eq_frmU W xs _ HL.out (usec_len (mayU_iff.1 HM.out).1.2.2.2.2.2.2)]; exact congrArg (fun b => Result.ok b W) (decide_eq_true HNQ.out)
  obtain ⟨l, hl⟩ : ∃ l, Hid (T.vs.length = l) := ⟨_, rfl⟩
  obtain ⟨ge, hge⟩ : ∃ l, Hid (T.gen = l) := ⟨_, rfl⟩
  obtain ⟨sc, hsc⟩ : ∃ l, Hid (T.sc = l) := ⟨_, rfl⟩
  obtain ⟨nx, hnx⟩ : ∃ l, Hid (T.nx = l) := ⟨_, rfl⟩
  obtain ⟨q, hqs⟩ : ∃ q, w4.heap.size = q := ⟨_, rfl⟩
  have HQS : Hid (w4.heap.size = q) := hqs
  obtain ⟨W6, hW6⟩ : ∃ W6, w4.alloc (.cells #[.int .i64 T.gen, .int .i64 T.sc, .int .i64 T.nx, .slice va T.vs.length vc] 24) = W6 := ⟨_, rfl⟩
  have b6 : Below w4.heap.size w4 W6 := by rw [← hW6]; exact (Below.refl _ _).alloc (Nat.le_refl _) _
  have V6 : Hid (Uv W6 q T (.slice va T.vs.length vc)) := by rw [← hW6, ← hqs]; exact uv_new w4 T _
  have F6 : Hid (Fu W6 f xs) := F4.out.below b6
  have Q6 : Hid (Uv W6 g sp0 (.slice none 0 0)) := Q4.out.below b6
  have B6 : Hid (Below g w W6) := B4.out.trans (b6.mono (Nat.le_of_lt Q4.out.lt))
  have O6 : Hid (RdV W6 (.slice va T.vs.length vc) T.vs) := O4.out.below b6
  unfold supv at HMY HSO ⊢
  rw [hl.out] at N4 HMY HSO hW6 V6 O6 O4 ⊢
  rw [hge.out, hsc.out, hnx.out] at HMY HSO hW6 ⊢
  have r6 : W6.drew.rangeAt f 0 (bcs xs) := F6.out.range
  have v60 : W6.drew.cell? ⟨q, 0, none⟩ = some (.int .i64 ge) := by rw [← hge.out]; exact V6.out.c0
  have v61 : W6.drew.cell? ⟨q, 1, none⟩ = some (.int .i64 sc) := by rw [← hsc.out]; exact V6.out.c1
  have v62 : W6.drew.cell? ⟨q, 2, none⟩ = some (.int .i64 nx) := by rw [← hnx.out]; exact V6.out.c2
  have v63 : W6.drew.cell? ⟨q, 3, none⟩ = some (.slice va l vc) := V6.out.c3
  clear b4 n4 ho4 F4 Q4 B4 O4 b6 F3 Q3 B3 HC hv1 hv2 hT4 hT
  go_wp2_with fail
  clear hW6
  have hS : W6.drew.rangeAt f 0 (bcs xs) ∧ W6.drew.cell? ⟨q, 0, none⟩ = some (.int .i64 ge) ∧ W6.drew.cell? ⟨q, 1, none⟩ = some (.int .i64 sc) ∧ W6.drew.cell? ⟨q, 2, none⟩ = some (.int .i64 nx) ∧ W6.drew.cell? ⟨q, 3, none⟩ = some (.slice va l vc) := ⟨r6, v60, v61, v62, v63⟩
  refine wp_region_held (S := fun w' => w'.rangeAt f 0 (bcs xs) ∧ w'.cell? ⟨q, 0, none⟩ = some (.int .i64 ge) ∧ w'.cell? ⟨q, 1, none⟩ = some (.int .i64 sc) ∧ w'.cell? ⟨q, 2, none⟩ = some (.int .i64 nx) ∧ w'.cell? ⟨q, 3, none⟩ = some (.slice va l vc)) (by kernel_rfl) ?_
  refine takeT 0 (some 14) (.load 24 (.tmp 5)) (.agg #[.int .i64 ge, .int .i64 sc, .int .i64 nx, .slice va l vc]) rfl (by kernel_rfl) (by kernel_rfl) (by kernel_rfl) (fun _ _ _ h => h) ?hy hS ?_
  case hy =>
    rintro o ho w' ⟨hS1, hS2, hS3, hS4, hS5⟩
    go_simp
  simp only [Act.put, List.setIfInBounds_toArray, List.set_cons_zero, List.set_cons_succ]
  refine readyT 1 (some 15) (.call { callee := .value (.func 12), args := #[.tmp 14], argTypes := #[24] }) rfl (by kernel_rfl) ?_
  rintro o K hd ho hgd hK
  refine step_call (enters_of Try.func12 (by kernel_rfl) rfl) ho (vs := #[.agg #[.int .i64 ge, .int .i64 sc, .int .i64 nx, .slice va l vc]]) (by kernel_rfl) (HMY.out _ (O6.out.below (Below.refl _ _).drew)) ?_
  rintro e w7 ⟨rfl, hb7⟩
  refine ⟨_, rfl, ?_⟩
  rw [hd]
  have b7 : Below W6.heap.size W6 w7 := ((Below.refl _ _).drew).trans hb7
  have F7 : Hid (Fu w7 f xs) := F6.out.below b7
  have V7 : Hid (Uv w7 q T (.slice va l vc)) := V6.out.below b7
  have Q7 : Hid (Uv w7 g sp0 (.slice none 0 0)) := Q6.out.below b7
  have B7 : Hid (Below g w w7) := B6.out.trans (b7.mono (Nat.le_of_lt Q6.out.lt))
  have O7 : Hid (RdV w7 (.slice va l vc) T.vs) := O6.out.below b7
  have hS7 : w7.rangeAt f 0 (bcs xs) ∧ w7.cell? ⟨q, 0, none⟩ = some (.int .i64 ge) ∧ w7.cell? ⟨q, 1, none⟩ = some (.int .i64 sc) ∧ w7.cell? ⟨q, 2, none⟩ = some (.int .i64 nx) ∧ w7.cell? ⟨q, 3, none⟩ = some (.slice va l vc) := ⟨F7.out.range, by rw [← hge.out]; exact V7.out.c0, by rw [← hsc.out]; exact V7.out.c1, by rw [← hnx.out]; exact V7.out.c2, V7.out.c3⟩
  refine hK _ _ hS7 ?_
  clear hb7 b7 ho hd hgd hK hS r6 v60 v61 v62 v63 F6 V6 Q6 B6 O6
  simp only [Act.put, List.setIfInBounds_toArray, List.set_cons_zero, List.set_cons_succ]
  refine takeT 2 (some 16) (.unOp .not 4 (.tmp 15)) (.bool false) rfl (by kernel_rfl) (by kernel_rfl) (by kernel_rfl) (fun _ _ _ h => h) ?hy hS7 ?_
  case hy =>
    rintro o ho w' ⟨hS1, hS2, hS3, hS4, hS5⟩
    go_simp
  simp only [Act.put, List.setIfInBounds_toArray, List.set_cons_zero, List.set_cons_succ]
  refine takeT 3 (some 17) (.move (.tmp 16)) (.bool false) rfl (by kernel_rfl) (by kernel_rfl) (by kernel_rfl) (fun _ _ _ h => h) ?hy hS7 ?_
  case hy =>
    rintro o ho w' ⟨hS1, hS2, hS3, hS4, hS5⟩
    go_simp
  simp only [Act.put, List.setIfInBounds_toArray, List.set_cons_zero, List.set_cons_succ]
  refine takeArrG 4 (some 18) 62 (.tmp 4) 3 false f 0 (bcs xs) _ rfl (by kernel_rfl) (by kernel_rfl) (by kernel_rfl) (fun _ _ _ h => h) rfl rfl (fun w' h => h.1) hu rfl hsz hS7 ?_
  simp only [Act.put, List.setIfInBounds_toArray, List.set_cons_zero, List.set_cons_succ]
  refine takeG 5 (some 19) (.load 24 (.tmp 5)) 3 false (.agg #[.int .i64 ge, .int .i64 sc, .int .i64 nx, .slice va l vc]) rfl (by kernel_rfl) (by kernel_rfl) (by kernel_rfl) (fun _ _ _ h => h) rfl ?hy hS7 ?_
  case hy =>
    rintro o ho w' ⟨hS1, hS2, hS3, hS4, hS5⟩
    go_simp
  simp only [Act.put, List.setIfInBounds_toArray, List.set_cons_zero, List.set_cons_succ]
  refine readyG 6 (some 20) (.call { callee := .value (.func 35), args := #[.tmp 19], argTypes := #[24] }) 3 false rfl (by kernel_rfl) rfl ?_
  rintro o K hd ho hK
  refine step_call (enters_of Try.func35 (by kernel_rfl) rfl) ho (vs := #[.agg #[.int .i64 ge, .int .i64 sc, .int .i64 nx, .slice va l vc]]) (by kernel_rfl) (HSO.out _ O7.out) ?_
  rintro e w8 ⟨rfl, b8⟩
  refine ⟨_, rfl, ?_⟩
  rw [hd]
  have F8 : Hid (Fu w8 f xs) := F7.out.below b8
  have V8 : Hid (Uv w8 q T (.slice va l vc)) := V7.out.below b8
  have Q8 : Hid (Uv w8 g sp0 (.slice none 0 0)) := Q7.out.below b8
  have B8 : Hid (Below g w w8) := B7.out.trans (b8.mono (Nat.le_of_lt Q7.out.lt))
  have O8 : Hid (RdV w8 (.slice va l vc) T.vs) := O7.out.below b8
  have hS8 : w8.rangeAt f 0 (bcs xs) ∧ w8.cell? ⟨q, 0, none⟩ = some (.int .i64 ge) ∧ w8.cell? ⟨q, 1, none⟩ = some (.int .i64 sc) ∧ w8.cell? ⟨q, 2, none⟩ = some (.int .i64 nx) ∧ w8.cell? ⟨q, 3, none⟩ = some (.slice va l vc) := ⟨F8.out.range, by rw [← hge.out]; exact V8.out.c0, by rw [← hsc.out]; exact V8.out.c1, by rw [← hnx.out]; exact V8.out.c2, V8.out.c3⟩
  refine hK _ _ hS8 ?_
  clear b8 ho hd hK hS7 F7 V7 Q7 B7 O7
  simp only [Act.put, List.setIfInBounds_toArray, List.set_cons_zero, List.set_cons_succ]
  refine takeG 7 (some 21) (.binOp .neq 62 (.tmp 18) (.tmp 20) 62) 3 false (.bool false) rfl (by kernel_rfl) (by kernel_rfl) (by kernel_rfl) (fun _ _ _ h => h) rfl ?hy hS8 ?_
  case hy =>
    rintro o ho w' ⟨hS1, hS2, hS3, hS4, hS5⟩
    go_simp
  simp only [Act.put, List.setIfInBounds_toArray, List.set_cons_zero, List.set_cons_succ]
  refine takeT 8 (some 22) (.pick (.tmp 17) (.const (.bool true)) (.tmp 21)) (.bool false) rfl (by kernel_rfl) (by kernel_rfl) (by kernel_rfl) (fun _ _ _ h => h) ?hy hS8 ?_
  case hy =>
    rintro o ho w' ⟨hS1, hS2, hS3, hS4, hS5⟩
    go_simp
  simp only [Act.put, List.setIfInBounds_toArray, List.set_cons_zero, List.set_cons_succ]
  refine wpAnyH_done (by kernel_rfl) ?_ _
  clear hS8 hq2
  have q0 : w8.cell? ⟨g, 0, none⟩ = some (.int .i64 0) := Q8.out.c0
  have q1 : w8.cell? ⟨g, 1, none⟩ = some (.int .i64 0) := Q8.out.c1
  have q2 : w8.cell? ⟨g, 2, none⟩ = some (.int .i64 0) := Q8.out.c2
  have q3 := Q8.out.c3
  have f0 := Q8.out.fz 0
  have f1 := Q8.out.fz 1
  have f2 := Q8.out.fz 2
  have f3 := Q8.out.fz 3
  have u0 := V8.out.c0
  have u1 := V8.out.c1
  have u2 := V8.out.c2
  have u3 := V8.out.c3
  rw [hge.out] at u0
  rw [hsc.out] at u1
  rw [hnx.out] at u2
  have HLD := hideP (Q8.out.put T (.slice va l vc)).load
  have HTS := hideP (Q8.out.tset T (.slice va l vc))
  rw [hge.out, hsc.out, hnx.out] at HLD HTS
  have HBE := hideP (B8.out.trans (HTS.out.below (by have := Q8.out.lt; omega) (fun k e => by omega)))
  have HRE := hideP (O8.out.tch HTS.out (fun j hj e => by have e2 : j = g := e; have := N4.out j hj; omega))
  clear O8
  go_wp2_with fail
  refine bodyPost_ret (v := .tuple #[supv T (.slice va l vc), .bool true]) (results_cellV (p := 2) (ty := 24) rfl _ _ _ g _ _ rfl HLD.out rfl) rfl ?_
  exact ⟨_, by rw [HE.out]; rfl, by rw [HE.out]; exact HRE.out, by rw [hg.out]; exact HBE.out, fun j hj => by rw [hg.out]; exact Nat.le_of_lt (N4.out j hj)⟩

theorem getU_any (v : Value) (xs : List Int) (w : World) (hr : Rd .u8 w v xs) (hb : By xs) : Calls Try.prog 14 #[v] w fun e w' => GetU xs w e w' := by
  by_cases hl : xs.length = 256
  · have h14 := hb 14
    have hL : xs.getD 14 0 = (((xs.getD 14 0).toNat : Nat) : Int) := by omega
    generalize (xs.getD 14 0).toNat = L at hL
    cases hm : mayU (rdS (fun x => x != 0) xs (min L 9)) with
    | false => exact getU_may L _ v xs w hr hb hl hL rfl hm
    | true =>
      by_cases hq : xs = usec (rdS (fun x => x != 0) xs (min L 9))
      · exact getU_ok L _ v xs w hr hb hl hL rfl hm hq
      · exact getU_img L _ v xs w hr hb hl hL rfl hm hq
  · exact getU_len_any v xs w hr hl
end Go.Proofs.Ytdicgaepggffbaa
/-
  The document's example of layer 10 holds.
-/
namespace Go.Proofs.Ytdicgaepggffbaa
open Go.RowKit Pl
set_option linter.unusedVariables false
set_option linter.unusedSimpArgs false
set_option maxRecDepth 100000

def vnOne : Vn := ⟨1, 0, 1, false⟩
def spOne : Sp := ⟨1, 128, 2, [vnOne]⟩
theorem mayOne : mayU spOne = true := by decide

/-- A superblock is told, in new memory. -/
def SupR (s : Sp) (w : World) (e : Ending) (w' : World) : Prop := ∃ a c, e = .returned (supv s (.slice a s.vs.length c)) ∧ RdV w' (.slice a s.vs.length c) s.vs ∧ Below w.heap.size w w' ∧ ∀ j, (Value.slice a s.vs.length c).ownBlock = some j → w.heap.size ≤ j

theorem rdV_one (w : World) (x : Vn) : RdV (w.alloc (.cells #[.int .i64 x.id, .int .i64 x.root, .int .i64 x.nx, .bool x.fx] 66)) (.slice (some ⟨w.heap.size, 0, none⟩) 1 1) [x] :=
  ⟨_, 1, rfl, Nat.le_refl _, by unfold maxLen; omega, .inr ⟨w.heap.size, 0, rfl, fun i y hi => by
    match i, hi with
    | 0, hi =>
      simp at hi
      subst hi
      exact (vv_new w x).cells⟩⟩

set_option maxHeartbeats 400000 in
theorem one_any (w : World) : Calls Try.prog 32 #[] w fun e w' => SupR spOne w e w' := by
  obtain ⟨W1, hW1⟩ : ∃ W1, w.alloc (.cells #[.int .i64 0, .int .i64 0, .int .i64 0, .slice none 0 0] 24) = W1 := ⟨_, rfl⟩
  have s1 : W1.heap.size = w.heap.size + 1 := by rw [← hW1]; simp
  have b1 : Below w.heap.size w W1 := by rw [← hW1]; exact (Below.refl _ _).alloc (Nat.le_refl _) _
  have U1 : Uv W1 w.heap.size sp0 (.slice none 0 0) := by rw [← hW1]; exact uv_new w sp0 _
  obtain ⟨W2, hW2⟩ : ∃ W2, W1.alloc (.cells #[.int .i64 1, .int .i64 0, .int .i64 1, .bool false] 66) = W2 := ⟨_, rfl⟩
  have b2 : Below W1.heap.size W1 W2 := by rw [← hW2]; exact (Below.refl _ _).alloc (Nat.le_refl _) _
  have U2 : Hid (Uv W2 w.heap.size sp0 (.slice none 0 0)) := U1.below b2
  have B2 : Hid (Below w.heap.size w W2) := b1.trans (b2.mono (by omega))
  have R2 : Hid (RdV W2 (.slice (some ⟨w.heap.size + 1, 0, none⟩) 1 1) [vnOne]) := by rw [← hW2, ← s1]; exact rdV_one W1 vnOne
  have q0 : W2.cell? ⟨w.heap.size, 0, none⟩ = some (.int .i64 0) := U2.out.c0
  have q1 : W2.cell? ⟨w.heap.size, 1, none⟩ = some (.int .i64 0) := U2.out.c1
  have q2 : W2.cell? ⟨w.heap.size, 2, none⟩ = some (.int .i64 0) := U2.out.c2
  have q3 := U2.out.c3
  have f0 := U2.out.fz 0
  have f1 := U2.out.fz 1
  have f2 := U2.out.fz 2
  have f3 := U2.out.fz 3
  have HLD := hideP (U2.out.put spOne (.slice (some ⟨w.heap.size + 1, 0, none⟩) 1 1)).load
  have HTS := hideP (U2.out.tset spOne (.slice (some ⟨w.heap.size + 1, 0, none⟩) 1 1))
  have HBE := hideP (B2.out.trans (HTS.out.below B2.out.size (fun k e => by rw [e]; exact Nat.le_refl _)))
  have HRE := hideP (R2.out.tch HTS.out (fun j hj e => by cases hj; have e2 : w.heap.size + 1 = w.heap.size := e; omega))
  clear b1 b2 U1
  go_enter Try.func32, Try.ntmps32
  go_wp2_with fail
  refine bodyPost_ret (v := supv spOne (.slice (some ⟨w.heap.size + 1, 0, none⟩) 1 1)) (results_atU (p := 0) (ty := 24) rfl _ _ _ w.heap.size _ rfl HLD.out) rfl ?_
  exact ⟨_, _, rfl, HRE.out, HBE.out, fun j hj => by cases hj; exact Nat.le_succ _⟩

/-- What was told, opened. -/
theorem getU_open {xs : List Int} {w w' : World} {e : Ending} (h : GetU xs w e w') : ∃ a c, e = .returned (.tuple #[supv ((getU xs).getD sp0) (.slice a ((getU xs).getD sp0).vs.length c), .bool (getU xs).isSome]) ∧ RdV w' (.slice a ((getU xs).getD sp0).vs.length c) ((getU xs).getD sp0).vs ∧ Below w.heap.size w w' ∧ ∀ j, (Value.slice a ((getU xs).getD sp0).vs.length c).ownBlock = some j → w.heap.size ≤ j := by
  obtain ⟨v, rfl, hr, hb, hn⟩ := h
  obtain ⟨a, c, hv, _⟩ := id hr
  refine ⟨a, c, by rw [hv], by rw [← hv]; exact hr, hb, by rw [← hv]; exact hn⟩

set_option maxHeartbeats 1000000 in
theorem lives_anyU (w : World) : Calls Try.prog 13 #[] w fun e w' => e = .returned (.bool true) ∧ Below w.heap.size w w' := by
  have HO : Hid (∀ W, Calls Try.prog 32 #[] W fun e w' => SupR spOne W e w') := one_any
  go_enter Try.func13, Try.ntmps13
  go_wp2_with fail
  refine (HO.out w).mono ?_
  rintro e w1 ⟨a1, c1, rfl, r1, b1, _⟩
  have B1 : Hid (Below w.heap.size w w1) := b1
  have HP := hideP (putU_any spOne _ w1 r1)
  clear r1 b1
  unfold supv at HP
  unfold supv
  rw [show spOne.gen = 1 from rfl, show spOne.sc = 128 from rfl, show spOne.nx = 2 from rfl, show spOne.vs.length = 1 from rfl] at HP
  rw [show spOne.gen = 1 from rfl, show spOne.sc = 128 from rfl, show spOne.nx = 2 from rfl, show spOne.vs.length = 1 from rfl]
  go_wp2_with fail
  refine HP.out.mono ?_
  rintro e w2 ⟨v, c, rfl, b2, n2, h⟩
  rcases h with ⟨_, rfl, wb, g, rfl⟩ | ⟨hf, _⟩
  rotate_left
  · rw [mayOne] at hf; cases hf
  obtain ⟨T, hT⟩ : ∃ T, Hid (usec spOne = T) := ⟨_, rfl⟩
  have B2 : Hid (Below w.heap.size w w2) := B1.out.trans (b2.mono B1.out.size)
  have e1 := getU_put mayOne
  rw [hT.out] at wb e1
  have t0 : T.getD 0 0 = 75 := by rw [← hT.out]; rfl
  have t4 : T.getD 4 0 = 1 := by rw [← hT.out]; rfl
  have t8 : T.getD 8 0 = 128 := by rw [← hT.out]; rfl
  have t14 : T.getD 14 0 = 1 := by rw [← hT.out]; rfl
  have HTT : Hid (T.getD 0 0 = 75 ∧ T.getD 4 0 = 1 ∧ T.getD 8 0 = 128 ∧ T.getD 14 0 = 1) := ⟨t0, t4, t8, t14⟩
  have HTL : Hid (T.length = 256) := by rw [← hT.out]; exact usec_len (by decide)
  have HTB : Hid (By T) := by rw [← hT.out]; exact usec_by _
  have R2 : Hid (Rd .u8 w2 (.slice (some ⟨g, 0, none⟩) 256 256) T) := wb.rd
  have E1 : Hid (getU T = some spOne) := e1
  clear b2 n2 wb e1 t0 t4 t8 t14 hT HP B1
  go_wp2_with fail
  refine (getU_any _ T w2 R2.out HTB.out).mono ?_
  intro e w3 h
  obtain ⟨a3, c3, rfl, r3, b3, _⟩ := getU_open h
  rw [E1.out] at r3 ⊢
  clear h
  simp only [Option.getD_some, Option.isSome_some] at r3 ⊢
  have B3 : Hid (Below w.heap.size w w3) := B2.out.trans (b3.mono B2.out.size)
  have R3 : Hid (Rd .u8 w3 (.slice (some ⟨g, 0, none⟩) 256 256) T) := R2.out.below b3
  obtain ⟨q, hqs⟩ : ∃ q, w3.heap.size = q := ⟨_, rfl⟩
  obtain ⟨W4, hW4⟩ : ∃ W4, w3.alloc (.cells #[.int .i64 1, .int .i64 128, .int .i64 2, .slice a3 1 c3] 24) = W4 := ⟨_, rfl⟩
  have b4 : Below w3.heap.size w3 W4 := by rw [← hW4]; exact (Below.refl _ _).alloc (Nat.le_refl _) _
  have U4 : Hid (Uv W4 q spOne (.slice a3 1 c3)) := by rw [← hW4, ← hqs]; exact uv_new w3 spOne _
  have R4 : Hid (Rd .u8 W4 (.slice (some ⟨g, 0, none⟩) 256 256) T) := R3.out.below b4
  have B4 : Hid (Below w.heap.size w W4) := B3.out.trans (b4.mono B3.out.size)
  have V4 : Hid (RdV W4 (.slice a3 1 c3) spOne.vs) := r3.below b4
  clear r3 b3 b4 B3 R3 R2 B2
  unfold supv
  rw [show spOne.gen = 1 from rfl, show spOne.sc = 128 from rfl, show spOne.nx = 2 from rfl, show spOne.vs.length = 1 from rfl]
  go_wp2_with fail
  clear hW4 hqs
  have hS : W4.drew.cell? ⟨q, 0, none⟩ = some (.int .i64 1) ∧ W4.drew.cell? ⟨q, 1, none⟩ = some (.int .i64 128) ∧ W4.drew.cell? ⟨q, 2, none⟩ = some (.int .i64 2) ∧ W4.drew.cell? ⟨q, 3, none⟩ = some (.slice a3 1 c3) := ⟨U4.out.c0, U4.out.c1, U4.out.c2, U4.out.c3⟩
  refine wp_region_held (S := fun w' => w'.cell? ⟨q, 0, none⟩ = some (.int .i64 1) ∧ w'.cell? ⟨q, 1, none⟩ = some (.int .i64 128) ∧ w'.cell? ⟨q, 2, none⟩ = some (.int .i64 2) ∧ w'.cell? ⟨q, 3, none⟩ = some (.slice a3 1 c3)) (by kernel_rfl) ?_
  refine takeT 0 (some 16) (.load 24 (.tmp 3)) (.agg #[.int .i64 1, .int .i64 128, .int .i64 2, .slice a3 1 c3]) rfl (by kernel_rfl) (by kernel_rfl) (by kernel_rfl) (fun _ _ _ h => h) ?hy hS ?_
  case hy =>
    rintro o ho w' ⟨hS1, hS2, hS3, hS4⟩
    go_simp
  simp only [Act.put, List.setIfInBounds_toArray, List.set_cons_zero, List.set_cons_succ]
  refine readyT 1 (some 17) (.call { callee := .value (.func 32), args := #[], argTypes := #[] }) rfl (by kernel_rfl) ?_
  rintro o K hd ho hgd hK
  refine step_call (enters_of Try.func32 (by kernel_rfl) rfl) ho (vs := #[]) (by kernel_rfl) (HO.out _) ?_
  rintro e w5 ⟨a5, c5, rfl, r5, b5, _⟩
  refine ⟨_, rfl, ?_⟩
  rw [hd]
  have b45 : Below W4.heap.size W4 w5 := ((Below.refl _ _).drew).trans b5
  have U5 : Hid (Uv w5 q spOne (.slice a3 1 c3)) := U4.out.below b45
  have R5 : Hid (Rd .u8 w5 (.slice (some ⟨g, 0, none⟩) 256 256) T) := R4.out.below b45
  have B5 : Hid (Below w.heap.size w w5) := B4.out.trans (b45.mono B4.out.size)
  have HSM := hideP (refSameU_any spOne spOne _ _ w5 (V4.out.below b45) r5)
  rw [decide_eq_true (rfl : spOne = spOne)] at HSM
  unfold supv at HSM
  unfold supv
  rw [show spOne.gen = 1 from rfl, show spOne.sc = 128 from rfl, show spOne.nx = 2 from rfl, show spOne.vs.length = 1 from rfl] at HSM
  rw [show spOne.gen = 1 from rfl, show spOne.sc = 128 from rfl, show spOne.nx = 2 from rfl, show spOne.vs.length = 1 from rfl]
  have hS5 : w5.cell? ⟨q, 0, none⟩ = some (.int .i64 1) ∧ w5.cell? ⟨q, 1, none⟩ = some (.int .i64 128) ∧ w5.cell? ⟨q, 2, none⟩ = some (.int .i64 2) ∧ w5.cell? ⟨q, 3, none⟩ = some (.slice a3 1 c3) := ⟨U5.out.c0, U5.out.c1, U5.out.c2, U5.out.c3⟩
  refine hK _ _ hS5 ?_
  clear b5 b45 r5 ho hd hgd hK hS U4 R4 B4 V4
  simp only [Act.put, List.setIfInBounds_toArray, List.set_cons_zero, List.set_cons_succ]
  refine readyT 2 (some 18) (.call { callee := .value (.func 15), args := #[.tmp 16, .tmp 17], argTypes := #[24, 24] }) rfl (by kernel_rfl) ?_
  rintro o K hd ho hgd hK
  refine step_call (enters_of Try.func15 (by kernel_rfl) rfl) ho (vs := #[.agg #[.int .i64 1, .int .i64 128, .int .i64 2, .slice a3 1 c3], .agg #[.int .i64 1, .int .i64 128, .int .i64 2, .slice a5 1 c5]]) (by kernel_rfl) HSM.out ?_
  rintro e w6 ⟨rfl, b6⟩
  refine ⟨_, rfl, ?_⟩
  rw [hd]
  have U6 : Hid (Uv w6 q spOne (.slice a3 1 c3)) := U5.out.below b6
  have R6 : Hid (Rd .u8 w6 (.slice (some ⟨g, 0, none⟩) 256 256) T) := R5.out.below b6
  have B6 : Hid (Below w.heap.size w w6) := B5.out.trans (b6.mono B5.out.size)
  have hS6 : w6.cell? ⟨q, 0, none⟩ = some (.int .i64 1) ∧ w6.cell? ⟨q, 1, none⟩ = some (.int .i64 128) ∧ w6.cell? ⟨q, 2, none⟩ = some (.int .i64 2) ∧ w6.cell? ⟨q, 3, none⟩ = some (.slice a3 1 c3) := ⟨U6.out.c0, U6.out.c1, U6.out.c2, U6.out.c3⟩
  refine hK _ _ hS6 ?_
  clear b6 ho hd hgd hK hS5 U5 R5 B5 HSM
  simp only [Act.put, List.setIfInBounds_toArray, List.set_cons_zero, List.set_cons_succ]
  refine takeT 3 (some 5) (.assign (.tmp 18)) (.bool true) rfl (by kernel_rfl) (by kernel_rfl) (by kernel_rfl) (fun _ _ _ h => h) ?hy hS6 ?_
  case hy =>
    rintro o ho w' ⟨hS1, hS2, hS3, hS4⟩
    go_simp
  simp only [Act.put, List.setIfInBounds_toArray, List.set_cons_zero, List.set_cons_succ]
  refine wpAnyH_done (by kernel_rfl) ?_ _
  clear hS6
  have hcl : ∀ i, i < 256 → w6.cell? ⟨g, i, none⟩ = some (.int .u8 (T.getD i 0)) := fun i hi => by
    obtain ⟨a, cp, hv, _, _, _, hc⟩ := R6.out
    rw [HTL.out] at hv
    cases hv
    rcases hc with h | ⟨b, o, hbo, hc⟩
    · rw [h] at HTL; have := HTL.out; simp at this
    · cases hbo
      have := hc i (by rw [HTL.out]; exact hi)
      rw [Nat.zero_add] at this
      exact this
  have z0 := hcl 0 (by decide)
  have z4 := hcl 4 (by decide)
  have z8 := hcl 8 (by decide)
  have z14 := hcl 14 (by decide)
  rw [HTT.out.1] at z0
  rw [HTT.out.2.1] at z4
  rw [HTT.out.2.2.1] at z8
  rw [HTT.out.2.2.2] at z14
  clear hcl U6 R6 HO
  go_wp2_with fail
  go_ret
  exact ⟨rfl, B6.out⟩
end Go.Proofs.Ytdicgaepggffbaa
