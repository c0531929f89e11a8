import Derived.Test.YtaacidgihhcpkaaYX13
import Derived.Test.YtaacidgihhcpkaaYX06
import Derived.Test.YtaacidgihhcpkaaYX14
import Derived.Test.YtaacidgihhcpkaaYX15
import Derived.ChangeKeysEq
/-
  The program's pieceAt: what stands in a sector, and whether it is a piece.
-/
namespace Go.Proofs.Ytaacidgihhcpkaa
open Go.RowKit Go.Maps Pl
set_option linter.unusedVariables false
set_option linter.unusedSimpArgs false
set_option maxRecDepth 100000

def okP (xs : List Int) : Bool := mayP (rdP xs) && decide (xs = jsec (rdP xs))
theorem isP_iff {xs : List Int} {i m g n : Nat} : IsP xs i m g n ↔ okP xs = true ∧ (rdP xs).pl = i ∧ (rdP xs).mn = m ∧ (rdP xs).gen = g ∧ (rdP xs).num = n := by
  unfold IsP okP
  rw [Bool.and_eq_true, decide_eq_true_iff, and_assoc]

theorem cells8J : Try.prog.cellsOf 5 = 1 := by kernel_rfl
theorem eqItemsJ (w : World) (d : Nat) (xs ys : List Int) (hx : xs.length = 256) (hy : ys.length = 256) : ∀ is : List Nat, (∀ i ∈ is, i < 256) →
    (Op.eqItems (d + 1) 5 1 (bcs xs).toArray (bcs ys).toArray is).run Try.prog w = .ok (is.all fun i => decide (xs.getD i 0 = ys.getD i 0)) w
  | [], _ => by simp [Op.eqItems]
  | i :: is, h => by
    have hi := h i (by simp)
    have hp : ∀ zs : List Int, zs.length = 256 → (part 5 (bcs zs).toArray (i * 1)).run Try.prog w = .ok (.int .u8 (zs.getD i 0)) w := fun zs hz => run_part_plain w (by kernel_rfl) (by
      rw [Nat.mul_one, List.getElem?_toArray, bcs, List.getElem?_map, List.getElem?_eq_getElem (by omega), List.getD_eq_getElem?_getD, List.getElem?_eq_getElem (by omega)]
      rfl)
    have he : (Op.equalIn (d + 1) 5 (.int .u8 (xs.getD i 0)) (.int .u8 (ys.getD i 0))).run Try.prog w = .ok (decide (xs.getD i 0 = ys.getD i 0)) w := by
      have := run_equalIn_int (P := Try.prog) w d 5 .u8 .u8 (xs.getD i 0) (ys.getD i 0) Try.underlying5
      rw [this]
      congr 1
    simp only [Op.eqItems, Sem.run_bind, hp xs hx, hp ys hy, he, Result.andThen_ok]
    have ih := eqItemsJ w d xs ys hx hy is (fun j hj => h j (by simp [hj]))
    by_cases c : xs.getD i 0 = ys.getD i 0
    · simp only [c, decide_true, if_true, List.all_cons, Bool.true_and]
      simpa using ih
    · rw [List.getD_eq_getElem?_getD, List.getD_eq_getElem?_getD] at c
      simp [c]
theorem eq_frmJ (w : World) (xs ys : List Int) (hx : xs.length = 256) (hy : ys.length = 256) : (Op.equalIn 10000 79 (.agg (bcs xs).toArray) (.agg (bcs ys).toArray)).run Try.prog w = .ok (decide (xs = ys)) w := by
  obtain ⟨i, hi, _⟩ := elem8.info
  rw [run_equalIn_array w 9999 _ _ Try.underlying79 hi, cells8J]
  have := eqItemsJ w 9998 xs ys hx hy (List.range 256) (fun i hi => by simpa using hi)
  rw [this]
  congr 1
  by_cases c : xs = ys
  · subst c; simp
  · rw [decide_eq_false c, List.all_eq_false]
    apply Classical.byContradiction
    intro hno
    apply c
    apply List.ext_getElem (by omega)
    intro j h1 h2
    apply Classical.byContradiction
    intro hne
    refine hno ⟨j, by simp; omega, ?_⟩
    simp only [List.getD_eq_getElem?_getD, List.getElem?_eq_getElem h1, List.getElem?_eq_getElem h2, Option.getD_some]
    simpa using hne

theorem Dk.has_ok {S : Nat → Prop} {w : World} {d : Nat} {s : DS} (h : Dk S w d s) {i : Nat} (hi : i < s.L.length) : (s.has i).length = 256 ∧ By (s.has i) := by
  obtain ⟨lb, vb, lc, g, h⟩ := h
  unfold DS.has
  cases hg : g i with
  | none => rw [h.no i hg]; exact h.lies.1.get hi
  | some v =>
    obtain ⟨_, h2, h3, _⟩ := h.yes i v hg
    exact h3.1.last h2 _

theorem results_cellP {fn : Func} {p u : Tmp} {ty : TypeId} (h : fn.results = #[.cell p ty, .tmp u]) (tmps : Array Value) (P : Program) (w : World) (b : Nat) (v x : Value) (ha : tmps.getD p undef = .pointer (some ⟨b, 0, none⟩))
    (hl : (loadVar ty ⟨b, 0, none⟩).run P w = .ok v w) (hx : tmps.getD u undef = x) : (results fn tmps).run P w = .ok (.tuple #[v, x]) w := by
  rw [results_cell_tmp h, ha]
  simp [asAddr, Result.andThen, hl, hx]

/-- What is told of a sector. -/
def AtR (X : List Int) (w : World) (e : Ending) (w' : World) : Prop :=
  ∃ v, e = .returned (.tuple #[pcv (rdP X) v, .bool (okP X)]) ∧ Rd .u8 w' v (rdP X).ys ∧ Below w.heap.size w w' ∧ ∀ k, v.ownBlock = some k → w.heap.size ≤ k

set_option maxHeartbeats 1000000 in
theorem pieceAt_may {S : Nat → Prop} {d : Nat} {s : DS} (i : Nat) (w : World) (h : Dk S w d s) (hi : i < s.L.length) (hm : mayP (rdP (s.has i)) = false) :
    Calls Try.prog 45 #[dp d, .int .i64 (i : Int)] w fun e w' => AtR (s.has i) w e w' := by
  obtain ⟨hv, hif⟩ := zero_of_info info_frmU
  obtain ⟨hvp, hip⟩ := zero_of_info inf_pcz
  have HI : Hid ((Try.prog.info? 79).map (·.size) = some 256) := hif
  have HX := hideP (h.has_ok hi)
  have HRA : Hid (∀ W, Below w.heap.size w W → Calls Try.prog 54 #[dp d, .int .i64 (i : Int)] W fun e w' => ∃ v, e = .returned (.tuple #[v, .int .i64 0]) ∧ Rd .u8 w' v (s.has i) ∧ Below W.heap.size W w') := fun W hW => (read_ok i W (h.below hW) hi).mono (by
    rintro e w' ⟨v, rfl, h1, h2, _⟩
    exact ⟨v, rfl, h1.rd, h2⟩)
  obtain ⟨X, hXe⟩ : ∃ X, Hid (s.has i = X) := ⟨_, rfl⟩
  have HXE : Hid (Fu (w.alloc (.cells #[] 0)) 0 [] → True) := fun _ => trivial
  rw [hXe.out] at HX HRA hm ⊢
  have HOK : Hid (okP X = false) := by show _ = _; unfold okP; rw [hm]; rfl
  have HM : Hid (mayP (rdP X) = false) := hm
  clear hm
  obtain ⟨W1, hW1⟩ : ∃ W1, w.alloc (.cells #[.int .i64 0, .int .i64 0, .int .i64 0, .int .i64 0, .slice none 0 0] 82) = W1 := ⟨_, rfl⟩
  have b1 : Hid (Below w.heap.size w W1) := by rw [← hW1]; exact (Below.refl _ _).alloc (Nat.le_refl _) _
  have Q1 : Hid (Bo W1 w.heap.size 82 [.int .i64 0, .int .i64 0, .int .i64 0, .int .i64 0, .slice none 0 0]) := by rw [← hW1]; exact bo_new w _ _
  have HC1 := hideP (HRA.out W1 b1.out)
  obtain ⟨Z, hZ⟩ : ∃ Z, Hid ((bcs zz).toArray = Z) := ⟨_, rfl⟩
  have HZ : Hid (Z.size = 256) := by show _ = _; rw [← hZ.out, List.size_toArray, bcs_len, zz_len]
  rw [hZ.out] at hv
  obtain ⟨g, hg⟩ : ∃ g, Hid (w.heap.size = g) := ⟨_, rfl⟩
  clear hif hip h hi HRA HXE hXe
  go_enter Try.func45, Try.ntmps45
  go_wp2_with fail
  rw [hg.out] at b1 Q1 ⊢
  refine HC1.out.mono ?_
  rintro e w2 ⟨sv, rfl, r2, b2⟩
  obtain ⟨sa, sc, rfl, r2b, r2c, _⟩ := id r2
  have hxl : X.length = 256 := HX.out.1
  rw [hxl] at r2 r2b ⊢
  clear hxl
  have R2 : Hid (Rd .u8 w2 (.slice sa 256 sc) X) := r2
  have Q2 := hideP (Q1.out.below b2)
  have B2 : Hid (Below g w w2) := b1.out.trans (b2.mono (Nat.le_of_lt Q1.out.lt))
  clear r2 b2 b1 Q1 HC1 hW1 r2b r2c
  go_wp2_with fail
  refine (ofU_any _ X w2 R2.out HX.out.2 HX.out.1).mono ?_
  rintro e w3 ⟨rfl, b3⟩
  have Q3 := hideP (Q2.out.below b3)
  have B3 : Hid (Below g w w3) := B2.out.trans (b3.mono (Nat.le_of_lt Q2.out.lt))
  obtain ⟨W4, hW4⟩ : ∃ W4, w3.alloc (.cells (bcs X).toArray 79) = W4 := ⟨_, rfl⟩
  obtain ⟨f, hf⟩ : ∃ f, Hid (w3.heap.size = f) := ⟨_, rfl⟩
  have b4 : Below w3.heap.size w3 W4 := by rw [← hW4]; exact (Below.refl _ _).alloc (Nat.le_refl _) _
  have F4 : Hid (Fu W4 f X) := by rw [← hW4, ← hf.out]; exact fv_newU w3 HX.out.1 HX.out.2
  have Q4 := hideP (Q3.out.below b4)
  have B4 : Hid (Below g w W4) := B3.out.trans (b4.mono (Nat.le_of_lt Q3.out.lt))
  have HW4 : Hid (w3.alloc (.cells (bcs X).toArray 79) = W4) := hW4
  have HSZ : Hid ((bcs X).toArray.size = 256) := bcs_sizeU HX.out.1
  have HBL : Hid ((bcs X).length = 256) := by show _ = _; rw [bcs_len]; exact HX.out.1
  have HON : Hid ((bcs X).toArray.all (·.oneCell') = true) := bcs_all _
  have HRG := hideP F4.out.range
  have HGF : Hid (g < f) := by show _ < _; rw [← hf.out]; exact Q3.out.lt
  clear b3 b4 hW4 R2 Q2 B2 Q3 B3
  go_wp2_with (first | (with_reducible (show wpList _ _ _ (Oper.mk _ (Op.store _ _ _) _ _ _ _ :: _) _ _); refine wpList_store_newD _ rfl 79 (.tmp 8) (.tmp 17) rfl Z (bcs X).toArray rfl rfl (by rw [HI.out, HSZ.out]) (by rw [HZ.out, HSZ.out]) HON.out ?_; rw [HW4.out, hf.out]) | (with_reducible (show wpList _ _ _ (Oper.mk _ (Op.load _ _) _ _ _ _ :: _) _ _); refine wpList_load_mid rfl 79 (.tmp 8) rfl f 0 rfl (bcs X) _ HRG.out Try.underlying79 rfl (by rw [HBL.out]; exact HI.out) ?_))
  refine (pieceOf_any X W4 HX.out.1 HX.out.2).mono ?_
  rintro e w5 ⟨v, rfl, o5, b5, n5⟩
  obtain ⟨va, vc, rfl, v1, v2, _⟩ := id o5.rd
  have HV5 : Hid ((rdP X).ys.length ≤ vc ∧ vc ≤ maxLen) := ⟨v1, v2⟩
  have R5 := hideP o5.rd
  have N5 : Hid (∀ k, (Value.slice va (rdP X).ys.length vc).ownBlock = some k → f < k) := fun k hk => by have := n5 k hk; have := F4.out.lt; omega
  have F5 := hideP (F4.out.below b5)
  have Q5 := hideP (Q4.out.below b5)
  have B5 : Hid (Below g w w5) := B4.out.trans (b5.mono (Nat.le_of_lt Q4.out.lt))
  have HPK : Hid (OkR (rdP X)) := rdP_ok HX.out.2 HX.out.1
  have HPB : Hid (By (rdP X).ys) := rdP_by HX.out.2
  have HMY : Hid (∀ W, Calls Try.prog 57 #[pcv (rdP X) (.slice va (rdP X).ys.length vc)] W fun e w' => e = .returned (.bool (mayP (rdP X))) ∧ Below W.heap.size W w') := fun W => mayJ_any (rdP X) va vc W HV5.out.1 HV5.out.2 HPK.out.mn
  have HSO : Hid (∀ W, Rd .u8 W (.slice va (rdP X).ys.length vc) (rdP X).ys → Calls Try.prog 36 #[pcv (rdP X) (.slice va (rdP X).ys.length vc)] W fun e w' => e = .returned (.agg (bcs (jsec (rdP X))).toArray) ∧ Below W.heap.size W w') := fun W h => sectorOfJ_any (rdP X) _ W h HPB.out HPK.out
  have HJL : Hid ((jsec (rdP X)).length = 256) := jsec_len HPK.out.len
  clear o5 b5 n5 v1 v2 F4 Q4 B4 HRG HW4 HON HPB HPK
  generalize hp : rdP X = p at *
  have HP : Hid (rdP X = p) := hp
  clear hp
  generalize hjs : jsec p = js at *
  have HJS : Hid (jsec p = js) := hjs
  clear hjs
  obtain ⟨l, hl⟩ : ∃ l, Hid (p.ys.length = l) := ⟨_, rfl⟩
  obtain ⟨P, hP⟩ : ∃ x : Int, Hid ((p.pl : Int) = x) := ⟨_, rfl⟩
  obtain ⟨M, hM⟩ : ∃ x : Int, Hid ((p.mn : Int) = x) := ⟨_, rfl⟩
  obtain ⟨G, hG⟩ : ∃ x : Int, Hid ((p.gen : Int) = x) := ⟨_, rfl⟩
  obtain ⟨N, hN⟩ : ∃ x : Int, Hid ((p.num : Int) = x) := ⟨_, rfl⟩
  have HPV : Hid (pcv p (.slice va l vc) = .agg #[.int .i64 P, .int .i64 M, .int .i64 G, .int .i64 N, .slice va l vc]) := by show _ = _; unfold pcv; rw [hP.out, hM.out, hG.out, hN.out]
  rw [hl.out] at N5 HMY HSO R5 HV5 ⊢
  rw [HPV.out] at HMY HSO ⊢
  obtain ⟨q, hq⟩ : ∃ q, Hid (w5.heap.size = q) := ⟨_, rfl⟩
  obtain ⟨W6, hW6⟩ : ∃ W6, w5.alloc (.cells #[.int .i64 P, .int .i64 M, .int .i64 G, .int .i64 N, .slice va l vc] 82) = W6 := ⟨_, rfl⟩
  have b6 : Below w5.heap.size w5 W6 := by rw [← hW6]; exact (Below.refl _ _).alloc (Nat.le_refl _) _
  have V6 : Hid (Bo W6 q 82 [.int .i64 P, .int .i64 M, .int .i64 G, .int .i64 N, .slice va l vc]) := by rw [← hW6, ← hq.out]; exact bo_new w5 _ _
  have F6 := hideP (F5.out.below b6)
  have Q6 := hideP (Q5.out.below b6)
  have B6 : Hid (Below g w W6) := B5.out.trans (b6.mono (Nat.le_of_lt Q5.out.lt))
  have R6 := hideP (R5.out.below b6)
  have HQG : Hid (g < q) := by show _ < _; rw [← hq.out]; exact Q5.out.lt
  have HW6 : Hid (w5.alloc (.cells #[.int .i64 P, .int .i64 M, .int .i64 G, .int .i64 N, .slice va l vc] 82) = W6) := hW6
  have HIP : Hid ((Try.prog.info? 82).map (·.size) = some 5) := inf_pc
  have hu := Try.underlying79
  have hup := Try.underlying82
  have hsz : (Try.prog.info? 79).map (·.size) = some (bcs X).length := by rw [HBL.out]; exact HI.out
  have hszp : (Try.prog.info? 82).map (·.size) = some [Value.int .i64 P, .int .i64 M, .int .i64 G, .int .i64 N, .slice va l vc].length := HIP.out
  clear b6 hW6 F5 Q5 B5 R5
  go_wp2_with fail
  rw [HW6.out, hq.out]
  have hS : W6.drew.rangeAt f 0 (bcs X) ∧ W6.drew.rangeAt q 0 [Value.int .i64 P, .int .i64 M, .int .i64 G, .int .i64 N, .slice va l vc] := ⟨F6.out.range, V6.out.range⟩
  refine wp_region_held (S := fun w' => w'.rangeAt f 0 (bcs X) ∧ w'.rangeAt q 0 [Value.int .i64 P, .int .i64 M, .int .i64 G, .int .i64 N, .slice va l vc]) (by kernel_rfl) ?_
  refine takeArr 0 (some 20) 82 (.tmp 9) q 0 [Value.int .i64 P, .int .i64 M, .int .i64 G, .int .i64 N, .slice va l vc] _ rfl (by kernel_rfl) (by kernel_rfl) (by kernel_rfl) (fun _ _ _ h => h) rfl (fun w' h => h.2) hup rfl hszp hS ?_
  simp only [Act.put, List.setIfInBounds_toArray, List.set_cons_zero, List.set_cons_succ]
  refine takeT 1 (some 21) (.move (.tmp 7)) (.int .i64 0) rfl (by kernel_rfl) (by kernel_rfl) (by kernel_rfl) (fun _ _ _ h => h) ?hy hS ?_
  case hy =>
    rintro o ho w' ⟨hS1, hS2⟩
    go_simp
  simp only [Act.put, List.setIfInBounds_toArray, List.set_cons_zero, List.set_cons_succ]
  refine takeT 2 (some 22) (.binOp .eql 24 (.tmp 21) (.const (.int .i64 0)) 24) (.bool true) rfl (by kernel_rfl) (by kernel_rfl) (by kernel_rfl) (fun _ _ _ h => h) ?hy hS ?_
  case hy =>
    rintro o ho w' ⟨hS1, hS2⟩
    go_simp
  simp only [Act.put, List.setIfInBounds_toArray, List.set_cons_zero, List.set_cons_succ]
  refine takeT 3 (some 23) (.move (.tmp 22)) (.bool true) rfl (by kernel_rfl) (by kernel_rfl) (by kernel_rfl) (fun _ _ _ h => h) ?hy hS ?_
  case hy =>
    rintro o ho w' ⟨hS1, hS2⟩
    go_simp
  simp only [Act.put, List.setIfInBounds_toArray, List.set_cons_zero, List.set_cons_succ]
  refine takeArrG 4 (some 24) 82 (.tmp 9) 3 true q 0 [Value.int .i64 P, .int .i64 M, .int .i64 G, .int .i64 N, .slice va l vc] _ rfl (by kernel_rfl) (by kernel_rfl) (by kernel_rfl) (fun _ _ _ h => h) rfl rfl (fun w' h => h.2) hup rfl hszp hS ?_
  simp only [Act.put, List.setIfInBounds_toArray, List.set_cons_zero, List.set_cons_succ]
  refine readyG 5 (some 25) (.call { callee := .value (.func 57), args := #[.tmp 24], argTypes := #[82] }) 3 true rfl (by kernel_rfl) rfl ?_
  rintro o K hd ho hK
  refine step_call (enters_of Try.func57 (by kernel_rfl) rfl) ho (vs := #[.agg #[.int .i64 P, .int .i64 M, .int .i64 G, .int .i64 N, .slice va l vc]]) (by kernel_rfl) (HMY.out _) ?_
  rintro e w7 ⟨rfl, hb7⟩
  refine ⟨_, rfl, ?_⟩
  rw [hd, HM.out]
  have b7 : Below W6.heap.size W6 w7 := ((Below.refl _ _).drew).trans hb7
  have F7 := hideP (F6.out.below b7)
  have V7 := hideP (V6.out.below b7)
  have Q7 := hideP (Q6.out.below b7)
  have B7 : Hid (Below g w w7) := B6.out.trans (b7.mono (Nat.le_of_lt Q6.out.lt))
  have R7 := hideP (R6.out.below b7)
  have hS7 : w7.rangeAt f 0 (bcs X) ∧ w7.rangeAt q 0 [Value.int .i64 P, .int .i64 M, .int .i64 G, .int .i64 N, .slice va l vc] := ⟨F7.out.range, V7.out.range⟩
  refine hK _ _ hS7 ?_
  clear hb7 b7 ho hd hK hS F6 V6 Q6 B6 R6 HMY
  simp only [Act.put, List.setIfInBounds_toArray, List.set_cons_zero, List.set_cons_succ]
  refine takeT 6 (some 26) (.pick (.tmp 23) (.tmp 25) (.const (.bool false))) (.bool false) rfl (by kernel_rfl) (by kernel_rfl) (by kernel_rfl) (fun _ _ _ h => h) ?hy hS7 ?_
  case hy =>
    rintro o ho w' ⟨hS1, hS2⟩
    go_simp
  simp only [Act.put, List.setIfInBounds_toArray, List.set_cons_zero, List.set_cons_succ]
  refine takeT 7 (some 27) (.move (.tmp 26)) (.bool false) rfl (by kernel_rfl) (by kernel_rfl) (by kernel_rfl) (fun _ _ _ h => h) ?hy hS7 ?_
  case hy =>
    rintro o ho w' ⟨hS1, hS2⟩
    go_simp
  simp only [Act.put, List.setIfInBounds_toArray, List.set_cons_zero, List.set_cons_succ]
  refine skipG 8 (some 28) (.load 79 (.tmp 8)) 7 true false rfl (by kernel_rfl) (by kernel_rfl) (by kernel_rfl) (fun _ _ _ h => h) rfl (by decide) hS7 ?_
  simp only [Act.put, List.setIfInBounds_toArray, List.set_cons_zero, List.set_cons_succ]
  refine skipG 9 (some 29) (.load 82 (.tmp 9)) 7 true false rfl (by kernel_rfl) (by kernel_rfl) (by kernel_rfl) (fun _ _ _ h => h) rfl (by decide) hS7 ?_
  simp only [Act.put, List.setIfInBounds_toArray, List.set_cons_zero, List.set_cons_succ]
  refine skipG 10 (some 30) (.call { callee := .value (.func 36), args := #[.tmp 29], argTypes := #[82] }) 7 true false rfl (by kernel_rfl) (by kernel_rfl) (by kernel_rfl) (fun _ _ _ h => h) rfl (by decide) hS7 ?_
  simp only [Act.put, List.setIfInBounds_toArray, List.set_cons_zero, List.set_cons_succ]
  refine skipG 11 (some 31) (.binOp .eql 79 (.tmp 28) (.tmp 30) 79) 7 true false rfl (by kernel_rfl) (by kernel_rfl) (by kernel_rfl) (fun _ _ _ h => h) rfl (by decide) hS7 ?_
  simp only [Act.put, List.setIfInBounds_toArray, List.set_cons_zero, List.set_cons_succ]
  refine takeT 12 (some 32) (.pick (.tmp 27) (.tmp 31) (.const (.bool false))) (.bool false) rfl (by kernel_rfl) (by kernel_rfl) (by kernel_rfl) (fun _ _ _ h => h) ?hy hS7 ?_
  case hy =>
    rintro o ho w' ⟨hS1, hS2⟩
    go_simp
  simp only [Act.put, List.setIfInBounds_toArray, List.set_cons_zero, List.set_cons_succ]
  have HTH : Hid (w7.there g 0 5) := fun j hj => by
    rw [Nat.zero_add]
    refine ⟨?_, Q7.out.fz j⟩
    obtain ⟨u, hu⟩ : ∃ u, ([.int .i64 0, .int .i64 0, .int .i64 0, .int .i64 0, .slice none 0 0] : List Value)[j]? = some u := ⟨_, List.getElem?_eq_getElem (by simpa using hj)⟩
    rw [Q7.out.cell hu]
    rfl
  have HT9 : Hid (Tch (fun k => k = g) w7 (w7.setCells g 0 [Value.int .i64 P, .int .i64 M, .int .i64 G, .int .i64 N, .slice va l vc])) := setCells_tchD g _ 0 w7
  have HP9 : Hid (Bo (w7.setCells g 0 [Value.int .i64 P, .int .i64 M, .int .i64 G, .int .i64 N, .slice va l vc]) g 82 [.int .i64 P, .int .i64 M, .int .i64 G, .int .i64 N, .slice va l vc]) := by
    have := heap_setCells_same [Value.int .i64 P, .int .i64 M, .int .i64 G, .int .i64 N, .slice va l vc] 0 w7 _ Q7.out (by simp)
    show _ = _
    rw [this]
    rfl
  have hS9 : (w7.setCells g 0 [Value.int .i64 P, .int .i64 M, .int .i64 G, .int .i64 N, .slice va l vc]).rangeAt f 0 (bcs X) ∧ (w7.setCells g 0 [Value.int .i64 P, .int .i64 M, .int .i64 G, .int .i64 N, .slice va l vc]).rangeAt q 0 [Value.int .i64 P, .int .i64 M, .int .i64 G, .int .i64 N, .slice va l vc] := ⟨(F7.out.tch HT9.out (by have := HGF.out; omega)).range, (V7.out.tch HT9.out (by have := HQG.out; omega)).range⟩
  refine readyT 13 none (.store 82 (.tmp 4) (.tmp 20)) rfl (by kernel_rfl) ?_
  rintro o K hd ho hgd hK
  refine wp_store_mid 82 (.tmp 4) (.tmp 20) ho g 0 #[.int .i64 P, .int .i64 M, .int .i64 G, .int .i64 N, .slice va l vc] rfl rfl HTH.out HIP.out (all_oneCell_toArray (cs := [.int .i64 P, .int .i64 M, .int .i64 G, .int .i64 N, .slice va l vc]) (by simp [Value.oneCell'])) ?_
  rw [hd]
  refine hK _ _ hS9 ?_
  clear hK ho hd hgd
  simp only [Act.put, List.setIfInBounds_toArray, List.set_cons_zero, List.set_cons_succ]
  refine takeT 14 (some 5) (.assign (.tmp 32)) (.bool false) rfl (by kernel_rfl) (by kernel_rfl) (by kernel_rfl) (fun _ _ _ h => h) ?hy hS9 ?_
  case hy =>
    rintro o ho w' ⟨hS1, hS2⟩
    go_simp
  simp only [Act.put, List.setIfInBounds_toArray, List.set_cons_zero, List.set_cons_succ]
  refine wpAnyH_done (by kernel_rfl) ?_ _
  have HLD : Hid ((loadVar 82 ⟨g, 0, none⟩).run Try.prog (w7.setCells g 0 [Value.int .i64 P, .int .i64 M, .int .i64 G, .int .i64 N, .slice va l vc]) = .ok (pcv p (.slice va l vc)) (w7.setCells g 0 [Value.int .i64 P, .int .i64 M, .int .i64 G, .int .i64 N, .slice va l vc])) := by
    refine pc_load (p := p) (v := .slice va l vc) ?_
    unfold pcs5
    rw [hP.out, hM.out, hG.out, hN.out]
    exact HP9.out
  clear hS9
  go_wp2_with fail
  refine bodyPost_ret (v := .tuple #[pcv p (.slice va l vc), .bool false]) (results_cellP (p := 4) (u := 5) (ty := 82) rfl _ _ _ g _ _ rfl HLD.out rfl) rfl ?_
  refine ⟨.slice va l vc, by rw [HOK.out, HP.out], ?_, ?_, fun k hk => by rw [hg.out]; have := N5.out k hk; have := HGF.out; omega⟩
  · rw [HP.out]
    exact R7.out.tch HT9.out (fun k hk e => by have e2 : k = g := e; have := N5.out k hk; have := HGF.out; omega)
  · rw [hg.out]
    exact B7.out.trans (HT9.out.below (Nat.le_of_lt Q7.out.lt) (fun k e => by rw [e]; exact Nat.le_refl _))

set_option maxHeartbeats 1000000 in
theorem pieceAt_ne {S : Nat → Prop} {d : Nat} {s : DS} (i : Nat) (w : World) (h : Dk S w d s) (hi : i < s.L.length) (hm : mayP (rdP (s.has i)) = true) (he : ¬ s.has i = jsec (rdP (s.has i))) :
    Calls Try.prog 45 #[dp d, .int .i64 (i : Int)] w fun e w' => AtR (s.has i) w e w' := by
  obtain ⟨hv, hif⟩ := zero_of_info info_frmU
  obtain ⟨hvp, hip⟩ := zero_of_info inf_pcz
  have HI : Hid ((Try.prog.info? 79).map (·.size) = some 256) := hif
  have HX := hideP (h.has_ok hi)
  have HRA : Hid (∀ W, Below w.heap.size w W → Calls Try.prog 54 #[dp d, .int .i64 (i : Int)] W fun e w' => ∃ v, e = .returned (.tuple #[v, .int .i64 0]) ∧ Rd .u8 w' v (s.has i) ∧ Below W.heap.size W w') := fun W hW => (read_ok i W (h.below hW) hi).mono (by
    rintro e w' ⟨v, rfl, h1, h2, _⟩
    exact ⟨v, rfl, h1.rd, h2⟩)
  obtain ⟨X, hXe⟩ : ∃ X, Hid (s.has i = X) := ⟨_, rfl⟩
  have HXE : Hid (Fu (w.alloc (.cells #[] 0)) 0 [] → True) := fun _ => trivial
  rw [hXe.out] at HX HRA hm he ⊢
  have HOK : Hid (okP X = false) := by show _ = _; unfold okP; rw [hm, decide_eq_false he]; rfl
  have HM : Hid (mayP (rdP X) = true) := hm
  have HEQ : Hid (¬ X = jsec (rdP X)) := he
  clear hm he
  obtain ⟨W1, hW1⟩ : ∃ W1, w.alloc (.cells #[.int .i64 0, .int .i64 0, .int .i64 0, .int .i64 0, .slice none 0 0] 82) = W1 := ⟨_, rfl⟩
  have b1 : Hid (Below w.heap.size w W1) := by rw [← hW1]; exact (Below.refl _ _).alloc (Nat.le_refl _) _
  have Q1 : Hid (Bo W1 w.heap.size 82 [.int .i64 0, .int .i64 0, .int .i64 0, .int .i64 0, .slice none 0 0]) := by rw [← hW1]; exact bo_new w _ _
  have HC1 := hideP (HRA.out W1 b1.out)
  obtain ⟨Z, hZ⟩ : ∃ Z, Hid ((bcs zz).toArray = Z) := ⟨_, rfl⟩
  have HZ : Hid (Z.size = 256) := by show _ = _; rw [← hZ.out, List.size_toArray, bcs_len, zz_len]
  rw [hZ.out] at hv
  obtain ⟨g, hg⟩ : ∃ g, Hid (w.heap.size = g) := ⟨_, rfl⟩
  clear hif hip h hi HRA HXE hXe
  go_enter Try.func45, Try.ntmps45
  go_wp2_with fail
  rw [hg.out] at b1 Q1 ⊢
  refine HC1.out.mono ?_
  rintro e w2 ⟨sv, rfl, r2, b2⟩
  obtain ⟨sa, sc, rfl, r2b, r2c, _⟩ := id r2
  have hxl : X.length = 256 := HX.out.1
  rw [hxl] at r2 r2b ⊢
  clear hxl
  have R2 : Hid (Rd .u8 w2 (.slice sa 256 sc) X) := r2
  have Q2 := hideP (Q1.out.below b2)
  have B2 : Hid (Below g w w2) := b1.out.trans (b2.mono (Nat.le_of_lt Q1.out.lt))
  clear r2 b2 b1 Q1 HC1 hW1 r2b r2c
  go_wp2_with fail
  refine (ofU_any _ X w2 R2.out HX.out.2 HX.out.1).mono ?_
  rintro e w3 ⟨rfl, b3⟩
  have Q3 := hideP (Q2.out.below b3)
  have B3 : Hid (Below g w w3) := B2.out.trans (b3.mono (Nat.le_of_lt Q2.out.lt))
  obtain ⟨W4, hW4⟩ : ∃ W4, w3.alloc (.cells (bcs X).toArray 79) = W4 := ⟨_, rfl⟩
  obtain ⟨f, hf⟩ : ∃ f, Hid (w3.heap.size = f) := ⟨_, rfl⟩
  have b4 : Below w3.heap.size w3 W4 := by rw [← hW4]; exact (Below.refl _ _).alloc (Nat.le_refl _) _
  have F4 : Hid (Fu W4 f X) := by rw [← hW4, ← hf.out]; exact fv_newU w3 HX.out.1 HX.out.2
  have Q4 := hideP (Q3.out.below b4)
  have B4 : Hid (Below g w W4) := B3.out.trans (b4.mono (Nat.le_of_lt Q3.out.lt))
  have HW4 : Hid (w3.alloc (.cells (bcs X).toArray 79) = W4) := hW4
  have HSZ : Hid ((bcs X).toArray.size = 256) := bcs_sizeU HX.out.1
  have HBL : Hid ((bcs X).length = 256) := by show _ = _; rw [bcs_len]; exact HX.out.1
  have HON : Hid ((bcs X).toArray.all (·.oneCell') = true) := bcs_all _
  have HRG := hideP F4.out.range
  have HGF : Hid (g < f) := by show _ < _; rw [← hf.out]; exact Q3.out.lt
  clear b3 b4 hW4 R2 Q2 B2 Q3 B3
  go_wp2_with (first | (with_reducible (show wpList _ _ _ (Oper.mk _ (Op.store _ _ _) _ _ _ _ :: _) _ _); refine wpList_store_newD _ rfl 79 (.tmp 8) (.tmp 17) rfl Z (bcs X).toArray rfl rfl (by rw [HI.out, HSZ.out]) (by rw [HZ.out, HSZ.out]) HON.out ?_; rw [HW4.out, hf.out]) | (with_reducible (show wpList _ _ _ (Oper.mk _ (Op.load _ _) _ _ _ _ :: _) _ _); refine wpList_load_mid rfl 79 (.tmp 8) rfl f 0 rfl (bcs X) _ HRG.out Try.underlying79 rfl (by rw [HBL.out]; exact HI.out) ?_))
  refine (pieceOf_any X W4 HX.out.1 HX.out.2).mono ?_
  rintro e w5 ⟨v, rfl, o5, b5, n5⟩
  obtain ⟨va, vc, rfl, v1, v2, _⟩ := id o5.rd
  have HV5 : Hid ((rdP X).ys.length ≤ vc ∧ vc ≤ maxLen) := ⟨v1, v2⟩
  have R5 := hideP o5.rd
  have N5 : Hid (∀ k, (Value.slice va (rdP X).ys.length vc).ownBlock = some k → f < k) := fun k hk => by have := n5 k hk; have := F4.out.lt; omega
  have F5 := hideP (F4.out.below b5)
  have Q5 := hideP (Q4.out.below b5)
  have B5 : Hid (Below g w w5) := B4.out.trans (b5.mono (Nat.le_of_lt Q4.out.lt))
  have HPK : Hid (OkR (rdP X)) := rdP_ok HX.out.2 HX.out.1
  have HPB : Hid (By (rdP X).ys) := rdP_by HX.out.2
  have HMY : Hid (∀ W, Calls Try.prog 57 #[pcv (rdP X) (.slice va (rdP X).ys.length vc)] W fun e w' => e = .returned (.bool (mayP (rdP X))) ∧ Below W.heap.size W w') := fun W => mayJ_any (rdP X) va vc W HV5.out.1 HV5.out.2 HPK.out.mn
  have HSO : Hid (∀ W, Rd .u8 W (.slice va (rdP X).ys.length vc) (rdP X).ys → Calls Try.prog 36 #[pcv (rdP X) (.slice va (rdP X).ys.length vc)] W fun e w' => e = .returned (.agg (bcs (jsec (rdP X))).toArray) ∧ Below W.heap.size W w') := fun W h => sectorOfJ_any (rdP X) _ W h HPB.out HPK.out
  have HJL : Hid ((jsec (rdP X)).length = 256) := jsec_len HPK.out.len
  clear o5 b5 n5 v1 v2 F4 Q4 B4 HRG HW4 HON HPB HPK
  generalize hp : rdP X = p at *
  have HP : Hid (rdP X = p) := hp
  clear hp
  generalize hjs : jsec p = js at *
  have HJS : Hid (jsec p = js) := hjs
  clear hjs
  obtain ⟨l, hl⟩ : ∃ l, Hid (p.ys.length = l) := ⟨_, rfl⟩
  obtain ⟨P, hP⟩ : ∃ x : Int, Hid ((p.pl : Int) = x) := ⟨_, rfl⟩
  obtain ⟨M, hM⟩ : ∃ x : Int, Hid ((p.mn : Int) = x) := ⟨_, rfl⟩
  obtain ⟨G, hG⟩ : ∃ x : Int, Hid ((p.gen : Int) = x) := ⟨_, rfl⟩
  obtain ⟨N, hN⟩ : ∃ x : Int, Hid ((p.num : Int) = x) := ⟨_, rfl⟩
  have HPV : Hid (pcv p (.slice va l vc) = .agg #[.int .i64 P, .int .i64 M, .int .i64 G, .int .i64 N, .slice va l vc]) := by show _ = _; unfold pcv; rw [hP.out, hM.out, hG.out, hN.out]
  rw [hl.out] at N5 HMY HSO R5 HV5 ⊢
  rw [HPV.out] at HMY HSO ⊢
  obtain ⟨q, hq⟩ : ∃ q, Hid (w5.heap.size = q) := ⟨_, rfl⟩
  obtain ⟨W6, hW6⟩ : ∃ W6, w5.alloc (.cells #[.int .i64 P, .int .i64 M, .int .i64 G, .int .i64 N, .slice va l vc] 82) = W6 := ⟨_, rfl⟩
  have b6 : Below w5.heap.size w5 W6 := by rw [← hW6]; exact (Below.refl _ _).alloc (Nat.le_refl _) _
  have V6 : Hid (Bo W6 q 82 [.int .i64 P, .int .i64 M, .int .i64 G, .int .i64 N, .slice va l vc]) := by rw [← hW6, ← hq.out]; exact bo_new w5 _ _
  have F6 := hideP (F5.out.below b6)
  have Q6 := hideP (Q5.out.below b6)
  have B6 : Hid (Below g w W6) := B5.out.trans (b6.mono (Nat.le_of_lt Q5.out.lt))
  have R6 := hideP (R5.out.below b6)
  have HQG : Hid (g < q) := by show _ < _; rw [← hq.out]; exact Q5.out.lt
  have HW6 : Hid (w5.alloc (.cells #[.int .i64 P, .int .i64 M, .int .i64 G, .int .i64 N, .slice va l vc] 82) = W6) := hW6
  have HIP : Hid ((Try.prog.info? 82).map (·.size) = some 5) := inf_pc
  have hu := Try.underlying79
  have hup := Try.underlying82
  have hsz : (Try.prog.info? 79).map (·.size) = some (bcs X).length := by rw [HBL.out]; exact HI.out
  have hszp : (Try.prog.info? 82).map (·.size) = some [Value.int .i64 P, .int .i64 M, .int .i64 G, .int .i64 N, .slice va l vc].length := HIP.out
  clear b6 hW6 F5 Q5 B5 R5
  go_wp2_with fail
  rw [HW6.out, hq.out]
  have hS : W6.drew.rangeAt f 0 (bcs X) ∧ W6.drew.rangeAt q 0 [Value.int .i64 P, .int .i64 M, .int .i64 G, .int .i64 N, .slice va l vc] := ⟨F6.out.range, V6.out.range⟩
  refine wp_region_held (S := fun w' => w'.rangeAt f 0 (bcs X) ∧ w'.rangeAt q 0 [Value.int .i64 P, .int .i64 M, .int .i64 G, .int .i64 N, .slice va l vc]) (by kernel_rfl) ?_
  refine takeArr 0 (some 20) 82 (.tmp 9) q 0 [Value.int .i64 P, .int .i64 M, .int .i64 G, .int .i64 N, .slice va l vc] _ rfl (by kernel_rfl) (by kernel_rfl) (by kernel_rfl) (fun _ _ _ h => h) rfl (fun w' h => h.2) hup rfl hszp hS ?_
  simp only [Act.put, List.setIfInBounds_toArray, List.set_cons_zero, List.set_cons_succ]
  refine takeT 1 (some 21) (.move (.tmp 7)) (.int .i64 0) rfl (by kernel_rfl) (by kernel_rfl) (by kernel_rfl) (fun _ _ _ h => h) ?hy hS ?_
  case hy =>
    rintro o ho w' ⟨hS1, hS2⟩
    go_simp
  simp only [Act.put, List.setIfInBounds_toArray, List.set_cons_zero, List.set_cons_succ]
  refine takeT 2 (some 22) (.binOp .eql 24 (.tmp 21) (.const (.int .i64 0)) 24) (.bool true) rfl (by kernel_rfl) (by kernel_rfl) (by kernel_rfl) (fun _ _ _ h => h) ?hy hS ?_
  case hy =>
    rintro o ho w' ⟨hS1, hS2⟩
    go_simp
  simp only [Act.put, List.setIfInBounds_toArray, List.set_cons_zero, List.set_cons_succ]
  refine takeT 3 (some 23) (.move (.tmp 22)) (.bool true) rfl (by kernel_rfl) (by kernel_rfl) (by kernel_rfl) (fun _ _ _ h => h) ?hy hS ?_
  case hy =>
    rintro o ho w' ⟨hS1, hS2⟩
    go_simp
  simp only [Act.put, List.setIfInBounds_toArray, List.set_cons_zero, List.set_cons_succ]
  refine takeArrG 4 (some 24) 82 (.tmp 9) 3 true q 0 [Value.int .i64 P, .int .i64 M, .int .i64 G, .int .i64 N, .slice va l vc] _ rfl (by kernel_rfl) (by kernel_rfl) (by kernel_rfl) (fun _ _ _ h => h) rfl rfl (fun w' h => h.2) hup rfl hszp hS ?_
  simp only [Act.put, List.setIfInBounds_toArray, List.set_cons_zero, List.set_cons_succ]
  refine readyG 5 (some 25) (.call { callee := .value (.func 57), args := #[.tmp 24], argTypes := #[82] }) 3 true rfl (by kernel_rfl) rfl ?_
  rintro o K hd ho hK
  refine step_call (enters_of Try.func57 (by kernel_rfl) rfl) ho (vs := #[.agg #[.int .i64 P, .int .i64 M, .int .i64 G, .int .i64 N, .slice va l vc]]) (by kernel_rfl) (HMY.out _) ?_
  rintro e w7 ⟨rfl, hb7⟩
  refine ⟨_, rfl, ?_⟩
  rw [hd, HM.out]
  have b7 : Below W6.heap.size W6 w7 := ((Below.refl _ _).drew).trans hb7
  have F7 := hideP (F6.out.below b7)
  have V7 := hideP (V6.out.below b7)
  have Q7 := hideP (Q6.out.below b7)
  have B7 : Hid (Below g w w7) := B6.out.trans (b7.mono (Nat.le_of_lt Q6.out.lt))
  have R7 := hideP (R6.out.below b7)
  have hS7 : w7.rangeAt f 0 (bcs X) ∧ w7.rangeAt q 0 [Value.int .i64 P, .int .i64 M, .int .i64 G, .int .i64 N, .slice va l vc] := ⟨F7.out.range, V7.out.range⟩
  refine hK _ _ hS7 ?_
  clear hb7 b7 ho hd hK hS F6 V6 Q6 B6 R6 HMY
  simp only [Act.put, List.setIfInBounds_toArray, List.set_cons_zero, List.set_cons_succ]
  refine takeT 6 (some 26) (.pick (.tmp 23) (.tmp 25) (.const (.bool false))) (.bool true) rfl (by kernel_rfl) (by kernel_rfl) (by kernel_rfl) (fun _ _ _ h => h) ?hy hS7 ?_
  case hy =>
    rintro o ho w' ⟨hS1, hS2⟩
    go_simp
  simp only [Act.put, List.setIfInBounds_toArray, List.set_cons_zero, List.set_cons_succ]
  refine takeT 7 (some 27) (.move (.tmp 26)) (.bool true) rfl (by kernel_rfl) (by kernel_rfl) (by kernel_rfl) (fun _ _ _ h => h) ?hy hS7 ?_
  case hy =>
    rintro o ho w' ⟨hS1, hS2⟩
    go_simp
  simp only [Act.put, List.setIfInBounds_toArray, List.set_cons_zero, List.set_cons_succ]
  refine takeArrG 8 (some 28) 79 (.tmp 8) 7 true f 0 (bcs X) _ rfl (by kernel_rfl) (by kernel_rfl) (by kernel_rfl) (fun _ _ _ h => h) rfl rfl (fun w' h => h.1) hu rfl hsz hS7 ?_
  simp only [Act.put, List.setIfInBounds_toArray, List.set_cons_zero, List.set_cons_succ]
  refine takeArrG 9 (some 29) 82 (.tmp 9) 7 true q 0 [Value.int .i64 P, .int .i64 M, .int .i64 G, .int .i64 N, .slice va l vc] _ rfl (by kernel_rfl) (by kernel_rfl) (by kernel_rfl) (fun _ _ _ h => h) rfl rfl (fun w' h => h.2) hup rfl hszp hS7 ?_
  simp only [Act.put, List.setIfInBounds_toArray, List.set_cons_zero, List.set_cons_succ]
  refine readyG 10 (some 30) (.call { callee := .value (.func 36), args := #[.tmp 29], argTypes := #[82] }) 7 true rfl (by kernel_rfl) rfl ?_
  rintro o K hd ho hK
  refine step_call (enters_of Try.func36 (by kernel_rfl) rfl) ho (vs := #[.agg #[.int .i64 P, .int .i64 M, .int .i64 G, .int .i64 N, .slice va l vc]]) (by kernel_rfl) (HSO.out _ R7.out) ?_
  rintro e w8 ⟨rfl, b8⟩
  refine ⟨_, rfl, ?_⟩
  rw [hd]
  have F8 := hideP (F7.out.below b8)
  have V8 := hideP (V7.out.below b8)
  have Q8 := hideP (Q7.out.below b8)
  have B8 : Hid (Below g w w8) := B7.out.trans (b8.mono (Nat.le_of_lt Q7.out.lt))
  have R8 := hideP (R7.out.below b8)
  have hS8 : w8.rangeAt f 0 (bcs X) ∧ w8.rangeAt q 0 [Value.int .i64 P, .int .i64 M, .int .i64 G, .int .i64 N, .slice va l vc] := ⟨F8.out.range, V8.out.range⟩
  refine hK _ _ hS8 ?_
  clear b8 ho hd hK hS7 F7 V7 Q7 B7 R7 HSO
  simp only [Act.put, List.setIfInBounds_toArray, List.set_cons_zero, List.set_cons_succ]
  have hq2 : ∀ W, (Op.equalIn 10000 79 (.agg (bcs X).toArray) (.agg (bcs js).toArray)).run Try.prog W = .ok false W := fun W => by rw [eq_frmJ W X _ HX.out.1 HJL.out]; exact congrArg (fun b => Result.ok b W) (decide_eq_false HEQ.out)
  refine takeG 11 (some 31) (.binOp .eql 79 (.tmp 28) (.tmp 30) 79) 7 true (.bool false) rfl (by kernel_rfl) (by kernel_rfl) (by kernel_rfl) (fun _ _ _ h => h) rfl ?hy hS8 ?_
  case hy =>
    rintro o ho w' ⟨hS1, hS2⟩
    go_simp
  clear hq2
  simp only [Act.put, List.setIfInBounds_toArray, List.set_cons_zero, List.set_cons_succ]
  refine takeT 12 (some 32) (.pick (.tmp 27) (.tmp 31) (.const (.bool false))) (.bool false) rfl (by kernel_rfl) (by kernel_rfl) (by kernel_rfl) (fun _ _ _ h => h) ?hy hS8 ?_
  case hy =>
    rintro o ho w' ⟨hS1, hS2⟩
    go_simp
  simp only [Act.put, List.setIfInBounds_toArray, List.set_cons_zero, List.set_cons_succ]
  have HTH : Hid (w8.there g 0 5) := fun j hj => by
    rw [Nat.zero_add]
    refine ⟨?_, Q8.out.fz j⟩
    obtain ⟨u, hu⟩ : ∃ u, ([.int .i64 0, .int .i64 0, .int .i64 0, .int .i64 0, .slice none 0 0] : List Value)[j]? = some u := ⟨_, List.getElem?_eq_getElem (by simpa using hj)⟩
    rw [Q8.out.cell hu]
    rfl
  have HT9 : Hid (Tch (fun k => k = g) w8 (w8.setCells g 0 [Value.int .i64 P, .int .i64 M, .int .i64 G, .int .i64 N, .slice va l vc])) := setCells_tchD g _ 0 w8
  have HP9 : Hid (Bo (w8.setCells g 0 [Value.int .i64 P, .int .i64 M, .int .i64 G, .int .i64 N, .slice va l vc]) g 82 [.int .i64 P, .int .i64 M, .int .i64 G, .int .i64 N, .slice va l vc]) := by
    have := heap_setCells_same [Value.int .i64 P, .int .i64 M, .int .i64 G, .int .i64 N, .slice va l vc] 0 w8 _ Q8.out (by simp)
    show _ = _
    rw [this]
    rfl
  have hS9 : (w8.setCells g 0 [Value.int .i64 P, .int .i64 M, .int .i64 G, .int .i64 N, .slice va l vc]).rangeAt f 0 (bcs X) ∧ (w8.setCells g 0 [Value.int .i64 P, .int .i64 M, .int .i64 G, .int .i64 N, .slice va l vc]).rangeAt q 0 [Value.int .i64 P, .int .i64 M, .int .i64 G, .int .i64 N, .slice va l vc] := ⟨(F8.out.tch HT9.out (by have := HGF.out; omega)).range, (V8.out.tch HT9.out (by have := HQG.out; omega)).range⟩
  refine readyT 13 none (.store 82 (.tmp 4) (.tmp 20)) rfl (by kernel_rfl) ?_
  rintro o K hd ho hgd hK
  refine wp_store_mid 82 (.tmp 4) (.tmp 20) ho g 0 #[.int .i64 P, .int .i64 M, .int .i64 G, .int .i64 N, .slice va l vc] rfl rfl HTH.out HIP.out (all_oneCell_toArray (cs := [.int .i64 P, .int .i64 M, .int .i64 G, .int .i64 N, .slice va l vc]) (by simp [Value.oneCell'])) ?_
  rw [hd]
  refine hK _ _ hS9 ?_
  clear hK ho hd hgd
  simp only [Act.put, List.setIfInBounds_toArray, List.set_cons_zero, List.set_cons_succ]
  refine takeT 14 (some 5) (.assign (.tmp 32)) (.bool false) rfl (by kernel_rfl) (by kernel_rfl) (by kernel_rfl) (fun _ _ _ h => h) ?hy hS9 ?_
  case hy =>
    rintro o ho w' ⟨hS1, hS2⟩
    go_simp
  simp only [Act.put, List.setIfInBounds_toArray, List.set_cons_zero, List.set_cons_succ]
  refine wpAnyH_done (by kernel_rfl) ?_ _
  have HLD : Hid ((loadVar 82 ⟨g, 0, none⟩).run Try.prog (w8.setCells g 0 [Value.int .i64 P, .int .i64 M, .int .i64 G, .int .i64 N, .slice va l vc]) = .ok (pcv p (.slice va l vc)) (w8.setCells g 0 [Value.int .i64 P, .int .i64 M, .int .i64 G, .int .i64 N, .slice va l vc])) := by
    refine pc_load (p := p) (v := .slice va l vc) ?_
    unfold pcs5
    rw [hP.out, hM.out, hG.out, hN.out]
    exact HP9.out
  clear hS9
  go_wp2_with fail
  refine bodyPost_ret (v := .tuple #[pcv p (.slice va l vc), .bool false]) (results_cellP (p := 4) (u := 5) (ty := 82) rfl _ _ _ g _ _ rfl HLD.out rfl) rfl ?_
  refine ⟨.slice va l vc, by rw [HOK.out, HP.out], ?_, ?_, fun k hk => by rw [hg.out]; have := N5.out k hk; have := HGF.out; omega⟩
  · rw [HP.out]
    exact R8.out.tch HT9.out (fun k hk e => by have e2 : k = g := e; have := N5.out k hk; have := HGF.out; omega)
  · rw [hg.out]
    exact B8.out.trans (HT9.out.below (Nat.le_of_lt Q8.out.lt) (fun k e => by rw [e]; exact Nat.le_refl _))

set_option maxHeartbeats 1000000 in
theorem pieceAt_ok {S : Nat → Prop} {d : Nat} {s : DS} (i : Nat) (w : World) (h : Dk S w d s) (hi : i < s.L.length) (hm : mayP (rdP (s.has i)) = true) (he : s.has i = jsec (rdP (s.has i))) :
    Calls Try.prog 45 #[dp d, .int .i64 (i : Int)] w fun e w' => AtR (s.has i) w e w' := by
  obtain ⟨hv, hif⟩ := zero_of_info info_frmU
  obtain ⟨hvp, hip⟩ := zero_of_info inf_pcz
  have HI : Hid ((Try.prog.info? 79).map (·.size) = some 256) := hif
  have HX := hideP (h.has_ok hi)
  have HRA : Hid (∀ W, Below w.heap.size w W → Calls Try.prog 54 #[dp d, .int .i64 (i : Int)] W fun e w' => ∃ v, e = .returned (.tuple #[v, .int .i64 0]) ∧ Rd .u8 w' v (s.has i) ∧ Below W.heap.size W w') := fun W hW => (read_ok i W (h.below hW) hi).mono (by
    rintro e w' ⟨v, rfl, h1, h2, _⟩
    exact ⟨v, rfl, h1.rd, h2⟩)
  obtain ⟨X, hXe⟩ : ∃ X, Hid (s.has i = X) := ⟨_, rfl⟩
  have HXE : Hid (Fu (w.alloc (.cells #[] 0)) 0 [] → True) := fun _ => trivial
  rw [hXe.out] at HX HRA hm he ⊢
  have HOK : Hid (okP X = true) := by show _ = _; unfold okP; rw [hm, decide_eq_true he]; rfl
  have HM : Hid (mayP (rdP X) = true) := hm
  have HEQ : Hid (X = jsec (rdP X)) := he
  clear hm he
  obtain ⟨W1, hW1⟩ : ∃ W1, w.alloc (.cells #[.int .i64 0, .int .i64 0, .int .i64 0, .int .i64 0, .slice none 0 0] 82) = W1 := ⟨_, rfl⟩
  have b1 : Hid (Below w.heap.size w W1) := by rw [← hW1]; exact (Below.refl _ _).alloc (Nat.le_refl _) _
  have Q1 : Hid (Bo W1 w.heap.size 82 [.int .i64 0, .int .i64 0, .int .i64 0, .int .i64 0, .slice none 0 0]) := by rw [← hW1]; exact bo_new w _ _
  have HC1 := hideP (HRA.out W1 b1.out)
  obtain ⟨Z, hZ⟩ : ∃ Z, Hid ((bcs zz).toArray = Z) := ⟨_, rfl⟩
  have HZ : Hid (Z.size = 256) := by show _ = _; rw [← hZ.out, List.size_toArray, bcs_len, zz_len]
  rw [hZ.out] at hv
  obtain ⟨g, hg⟩ : ∃ g, Hid (w.heap.size = g) := ⟨_, rfl⟩
  clear hif hip h hi HRA HXE hXe
  go_enter Try.func45, Try.ntmps45
  go_wp2_with fail
  rw [hg.out] at b1 Q1 ⊢
  refine HC1.out.mono ?_
  rintro e w2 ⟨sv, rfl, r2, b2⟩
  obtain ⟨sa, sc, rfl, r2b, r2c, _⟩ := id r2
  have hxl : X.length = 256 := HX.out.1
  rw [hxl] at r2 r2b ⊢
  clear hxl
  have R2 : Hid (Rd .u8 w2 (.slice sa 256 sc) X) := r2
  have Q2 := hideP (Q1.out.below b2)
  have B2 : Hid (Below g w w2) := b1.out.trans (b2.mono (Nat.le_of_lt Q1.out.lt))
  clear r2 b2 b1 Q1 HC1 hW1 r2b r2c
  go_wp2_with fail
  refine (ofU_any _ X w2 R2.out HX.out.2 HX.out.1).mono ?_
  rintro e w3 ⟨rfl, b3⟩
  have Q3 := hideP (Q2.out.below b3)
  have B3 : Hid (Below g w w3) := B2.out.trans (b3.mono (Nat.le_of_lt Q2.out.lt))
  obtain ⟨W4, hW4⟩ : ∃ W4, w3.alloc (.cells (bcs X).toArray 79) = W4 := ⟨_, rfl⟩
  obtain ⟨f, hf⟩ : ∃ f, Hid (w3.heap.size = f) := ⟨_, rfl⟩
  have b4 : Below w3.heap.size w3 W4 := by rw [← hW4]; exact (Below.refl _ _).alloc (Nat.le_refl _) _
  have F4 : Hid (Fu W4 f X) := by rw [← hW4, ← hf.out]; exact fv_newU w3 HX.out.1 HX.out.2
  have Q4 := hideP (Q3.out.below b4)
  have B4 : Hid (Below g w W4) := B3.out.trans (b4.mono (Nat.le_of_lt Q3.out.lt))
  have HW4 : Hid (w3.alloc (.cells (bcs X).toArray 79) = W4) := hW4
  have HSZ : Hid ((bcs X).toArray.size = 256) := bcs_sizeU HX.out.1
  have HBL : Hid ((bcs X).length = 256) := by show _ = _; rw [bcs_len]; exact HX.out.1
  have HON : Hid ((bcs X).toArray.all (·.oneCell') = true) := bcs_all _
  have HRG := hideP F4.out.range
  have HGF : Hid (g < f) := by show _ < _; rw [← hf.out]; exact Q3.out.lt
  clear b3 b4 hW4 R2 Q2 B2 Q3 B3
  go_wp2_with (first | (with_reducible (show wpList _ _ _ (Oper.mk _ (Op.store _ _ _) _ _ _ _ :: _) _ _); refine wpList_store_newD _ rfl 79 (.tmp 8) (.tmp 17) rfl Z (bcs X).toArray rfl rfl (by rw [HI.out, HSZ.out]) (by rw [HZ.out, HSZ.out]) HON.out ?_; rw [HW4.out, hf.out]) | (with_reducible (show wpList _ _ _ (Oper.mk _ (Op.load _ _) _ _ _ _ :: _) _ _); refine wpList_load_mid rfl 79 (.tmp 8) rfl f 0 rfl (bcs X) _ HRG.out Try.underlying79 rfl (by rw [HBL.out]; exact HI.out) ?_))
  refine (pieceOf_any X W4 HX.out.1 HX.out.2).mono ?_
  rintro e w5 ⟨v, rfl, o5, b5, n5⟩
  obtain ⟨va, vc, rfl, v1, v2, _⟩ := id o5.rd
  have HV5 : Hid ((rdP X).ys.length ≤ vc ∧ vc ≤ maxLen) := ⟨v1, v2⟩
  have R5 := hideP o5.rd
  have N5 : Hid (∀ k, (Value.slice va (rdP X).ys.length vc).ownBlock = some k → f < k) := fun k hk => by have := n5 k hk; have := F4.out.lt; omega
  have F5 := hideP (F4.out.below b5)
  have Q5 := hideP (Q4.out.below b5)
  have B5 : Hid (Below g w w5) := B4.out.trans (b5.mono (Nat.le_of_lt Q4.out.lt))
  have HPK : Hid (OkR (rdP X)) := rdP_ok HX.out.2 HX.out.1
  have HPB : Hid (By (rdP X).ys) := rdP_by HX.out.2
  have HMY : Hid (∀ W, Calls Try.prog 57 #[pcv (rdP X) (.slice va (rdP X).ys.length vc)] W fun e w' => e = .returned (.bool (mayP (rdP X))) ∧ Below W.heap.size W w') := fun W => mayJ_any (rdP X) va vc W HV5.out.1 HV5.out.2 HPK.out.mn
  have HSO : Hid (∀ W, Rd .u8 W (.slice va (rdP X).ys.length vc) (rdP X).ys → Calls Try.prog 36 #[pcv (rdP X) (.slice va (rdP X).ys.length vc)] W fun e w' => e = .returned (.agg (bcs (jsec (rdP X))).toArray) ∧ Below W.heap.size W w') := fun W h => sectorOfJ_any (rdP X) _ W h HPB.out HPK.out
  have HJL : Hid ((jsec (rdP X)).length = 256) := jsec_len HPK.out.len
  clear o5 b5 n5 v1 v2 F4 Q4 B4 HRG HW4 HON HPB HPK
  generalize hp : rdP X = p at *
  have HP : Hid (rdP X = p) := hp
  clear hp
  generalize hjs : jsec p = js at *
  have HJS : Hid (jsec p = js) := hjs
  clear hjs
  obtain ⟨l, hl⟩ : ∃ l, Hid (p.ys.length = l) := ⟨_, rfl⟩
  obtain ⟨P, hP⟩ : ∃ x : Int, Hid ((p.pl : Int) = x) := ⟨_, rfl⟩
  obtain ⟨M, hM⟩ : ∃ x : Int, Hid ((p.mn : Int) = x) := ⟨_, rfl⟩
  obtain ⟨G, hG⟩ : ∃ x : Int, Hid ((p.gen : Int) = x) := ⟨_, rfl⟩
  obtain ⟨N, hN⟩ : ∃ x : Int, Hid ((p.num : Int) = x) := ⟨_, rfl⟩
  have HPV : Hid (pcv p (.slice va l vc) = .agg #[.int .i64 P, .int .i64 M, .int .i64 G, .int .i64 N, .slice va l vc]) := by show _ = _; unfold pcv; rw [hP.out, hM.out, hG.out, hN.out]
  rw [hl.out] at N5 HMY HSO R5 HV5 ⊢
  rw [HPV.out] at HMY HSO ⊢
  obtain ⟨q, hq⟩ : ∃ q, Hid (w5.heap.size = q) := ⟨_, rfl⟩
  obtain ⟨W6, hW6⟩ : ∃ W6, w5.alloc (.cells #[.int .i64 P, .int .i64 M, .int .i64 G, .int .i64 N, .slice va l vc] 82) = W6 := ⟨_, rfl⟩
  have b6 : Below w5.heap.size w5 W6 := by rw [← hW6]; exact (Below.refl _ _).alloc (Nat.le_refl _) _
  have V6 : Hid (Bo W6 q 82 [.int .i64 P, .int .i64 M, .int .i64 G, .int .i64 N, .slice va l vc]) := by rw [← hW6, ← hq.out]; exact bo_new w5 _ _
  have F6 := hideP (F5.out.below b6)
  have Q6 := hideP (Q5.out.below b6)
  have B6 : Hid (Below g w W6) := B5.out.trans (b6.mono (Nat.le_of_lt Q5.out.lt))
  have R6 := hideP (R5.out.below b6)
  have HQG : Hid (g < q) := by show _ < _; rw [← hq.out]; exact Q5.out.lt
  have HW6 : Hid (w5.alloc (.cells #[.int .i64 P, .int .i64 M, .int .i64 G, .int .i64 N, .slice va l vc] 82) = W6) := hW6
  have HIP : Hid ((Try.prog.info? 82).map (·.size) = some 5) := inf_pc
  have hu := Try.underlying79
  have hup := Try.underlying82
  have hsz : (Try.prog.info? 79).map (·.size) = some (bcs X).length := by rw [HBL.out]; exact HI.out
  have hszp : (Try.prog.info? 82).map (·.size) = some [Value.int .i64 P, .int .i64 M, .int .i64 G, .int .i64 N, .slice va l vc].length := HIP.out
  clear b6 hW6 F5 Q5 B5 R5
  go_wp2_with fail
  rw [HW6.out, hq.out]
  have hS : W6.drew.rangeAt f 0 (bcs X) ∧ W6.drew.rangeAt q 0 [Value.int .i64 P, .int .i64 M, .int .i64 G, .int .i64 N, .slice va l vc] := ⟨F6.out.range, V6.out.range⟩
  refine wp_region_held (S := fun w' => w'.rangeAt f 0 (bcs X) ∧ w'.rangeAt q 0 [Value.int .i64 P, .int .i64 M, .int .i64 G, .int .i64 N, .slice va l vc]) (by kernel_rfl) ?_
  refine takeArr 0 (some 20) 82 (.tmp 9) q 0 [Value.int .i64 P, .int .i64 M, .int .i64 G, .int .i64 N, .slice va l vc] _ rfl (by kernel_rfl) (by kernel_rfl) (by kernel_rfl) (fun _ _ _ h => h) rfl (fun w' h => h.2) hup rfl hszp hS ?_
  simp only [Act.put, List.setIfInBounds_toArray, List.set_cons_zero, List.set_cons_succ]
  refine takeT 1 (some 21) (.move (.tmp 7)) (.int .i64 0) rfl (by kernel_rfl) (by kernel_rfl) (by kernel_rfl) (fun _ _ _ h => h) ?hy hS ?_
  case hy =>
    rintro o ho w' ⟨hS1, hS2⟩
    go_simp
  simp only [Act.put, List.setIfInBounds_toArray, List.set_cons_zero, List.set_cons_succ]
  refine takeT 2 (some 22) (.binOp .eql 24 (.tmp 21) (.const (.int .i64 0)) 24) (.bool true) rfl (by kernel_rfl) (by kernel_rfl) (by kernel_rfl) (fun _ _ _ h => h) ?hy hS ?_
  case hy =>
    rintro o ho w' ⟨hS1, hS2⟩
    go_simp
  simp only [Act.put, List.setIfInBounds_toArray, List.set_cons_zero, List.set_cons_succ]
  refine takeT 3 (some 23) (.move (.tmp 22)) (.bool true) rfl (by kernel_rfl) (by kernel_rfl) (by kernel_rfl) (fun _ _ _ h => h) ?hy hS ?_
  case hy =>
    rintro o ho w' ⟨hS1, hS2⟩
    go_simp
  simp only [Act.put, List.setIfInBounds_toArray, List.set_cons_zero, List.set_cons_succ]
  refine takeArrG 4 (some 24) 82 (.tmp 9) 3 true q 0 [Value.int .i64 P, .int .i64 M, .int .i64 G, .int .i64 N, .slice va l vc] _ rfl (by kernel_rfl) (by kernel_rfl) (by kernel_rfl) (fun _ _ _ h => h) rfl rfl (fun w' h => h.2) hup rfl hszp hS ?_
  simp only [Act.put, List.setIfInBounds_toArray, List.set_cons_zero, List.set_cons_succ]
  refine readyG 5 (some 25) (.call { callee := .value (.func 57), args := #[.tmp 24], argTypes := #[82] }) 3 true rfl (by kernel_rfl) rfl ?_
  rintro o K hd ho hK
  refine step_call (enters_of Try.func57 (by kernel_rfl) rfl) ho (vs := #[.agg #[.int .i64 P, .int .i64 M, .int .i64 G, .int .i64 N, .slice va l vc]]) (by kernel_rfl) (HMY.out _) ?_
  rintro e w7 ⟨rfl, hb7⟩
  refine ⟨_, rfl, ?_⟩
  rw [hd, HM.out]
  have b7 : Below W6.heap.size W6 w7 := ((Below.refl _ _).drew).trans hb7
  have F7 := hideP (F6.out.below b7)
  have V7 := hideP (V6.out.below b7)
  have Q7 := hideP (Q6.out.below b7)
  have B7 : Hid (Below g w w7) := B6.out.trans (b7.mono (Nat.le_of_lt Q6.out.lt))
  have R7 := hideP (R6.out.below b7)
  have hS7 : w7.rangeAt f 0 (bcs X) ∧ w7.rangeAt q 0 [Value.int .i64 P, .int .i64 M, .int .i64 G, .int .i64 N, .slice va l vc] := ⟨F7.out.range, V7.out.range⟩
  refine hK _ _ hS7 ?_
  clear hb7 b7 ho hd hK hS F6 V6 Q6 B6 R6 HMY
  simp only [Act.put, List.setIfInBounds_toArray, List.set_cons_zero, List.set_cons_succ]
  refine takeT 6 (some 26) (.pick (.tmp 23) (.tmp 25) (.const (.bool false))) (.bool true) rfl (by kernel_rfl) (by kernel_rfl) (by kernel_rfl) (fun _ _ _ h => h) ?hy hS7 ?_
  case hy =>
    rintro o ho w' ⟨hS1, hS2⟩
    go_simp
  simp only [Act.put, List.setIfInBounds_toArray, List.set_cons_zero, List.set_cons_succ]
  refine takeT 7 (some 27) (.move (.tmp 26)) (.bool true) rfl (by kernel_rfl) (by kernel_rfl) (by kernel_rfl) (fun _ _ _ h => h) ?hy hS7 ?_
  case hy =>
    rintro o ho w' ⟨hS1, hS2⟩
    go_simp
  simp only [Act.put, List.setIfInBounds_toArray, List.set_cons_zero, List.set_cons_succ]
  refine takeArrG 8 (some 28) 79 (.tmp 8) 7 true f 0 (bcs X) _ rfl (by kernel_rfl) (by kernel_rfl) (by kernel_rfl) (fun _ _ _ h => h) rfl rfl (fun w' h => h.1) hu rfl hsz hS7 ?_
  simp only [Act.put, List.setIfInBounds_toArray, List.set_cons_zero, List.set_cons_succ]
  refine takeArrG 9 (some 29) 82 (.tmp 9) 7 true q 0 [Value.int .i64 P, .int .i64 M, .int .i64 G, .int .i64 N, .slice va l vc] _ rfl (by kernel_rfl) (by kernel_rfl) (by kernel_rfl) (fun _ _ _ h => h) rfl rfl (fun w' h => h.2) hup rfl hszp hS7 ?_
  simp only [Act.put, List.setIfInBounds_toArray, List.set_cons_zero, List.set_cons_succ]
  refine readyG 10 (some 30) (.call { callee := .value (.func 36), args := #[.tmp 29], argTypes := #[82] }) 7 true rfl (by kernel_rfl) rfl ?_
  rintro o K hd ho hK
  refine step_call (enters_of Try.func36 (by kernel_rfl) rfl) ho (vs := #[.agg #[.int .i64 P, .int .i64 M, .int .i64 G, .int .i64 N, .slice va l vc]]) (by kernel_rfl) (HSO.out _ R7.out) ?_
  rintro e w8 ⟨rfl, b8⟩
  refine ⟨_, rfl, ?_⟩
  rw [hd]
  have F8 := hideP (F7.out.below b8)
  have V8 := hideP (V7.out.below b8)
  have Q8 := hideP (Q7.out.below b8)
  have B8 : Hid (Below g w w8) := B7.out.trans (b8.mono (Nat.le_of_lt Q7.out.lt))
  have R8 := hideP (R7.out.below b8)
  have hS8 : w8.rangeAt f 0 (bcs X) ∧ w8.rangeAt q 0 [Value.int .i64 P, .int .i64 M, .int .i64 G, .int .i64 N, .slice va l vc] := ⟨F8.out.range, V8.out.range⟩
  refine hK _ _ hS8 ?_
  clear b8 ho hd hK hS7 F7 V7 Q7 B7 R7 HSO
  simp only [Act.put, List.setIfInBounds_toArray, List.set_cons_zero, List.set_cons_succ]
  have hq2 : ∀ W, (Op.equalIn 10000 79 (.agg (bcs X).toArray) (.agg (bcs js).toArray)).run Try.prog W = .ok true W := fun W => by rw [eq_frmJ W X _ HX.out.1 HJL.out]; exact congrArg (fun b => Result.ok b W) (decide_eq_true HEQ.out)
  refine takeG 11 (some 31) (.binOp .eql 79 (.tmp 28) (.tmp 30) 79) 7 true (.bool true) rfl (by kernel_rfl) (by kernel_rfl) (by kernel_rfl) (fun _ _ _ h => h) rfl ?hy hS8 ?_
  case hy =>
    rintro o ho w' ⟨hS1, hS2⟩
    go_simp
  clear hq2
  simp only [Act.put, List.setIfInBounds_toArray, List.set_cons_zero, List.set_cons_succ]
  refine takeT 12 (some 32) (.pick (.tmp 27) (.tmp 31) (.const (.bool false))) (.bool true) rfl (by kernel_rfl) (by kernel_rfl) (by kernel_rfl) (fun _ _ _ h => h) ?hy hS8 ?_
  case hy =>
    rintro o ho w' ⟨hS1, hS2⟩
    go_simp
  simp only [Act.put, List.setIfInBounds_toArray, List.set_cons_zero, List.set_cons_succ]
  have HTH : Hid (w8.there g 0 5) := fun j hj => by
    rw [Nat.zero_add]
    refine ⟨?_, Q8.out.fz j⟩
    obtain ⟨u, hu⟩ : ∃ u, ([.int .i64 0, .int .i64 0, .int .i64 0, .int .i64 0, .slice none 0 0] : List Value)[j]? = some u := ⟨_, List.getElem?_eq_getElem (by simpa using hj)⟩
    rw [Q8.out.cell hu]
    rfl
  have HT9 : Hid (Tch (fun k => k = g) w8 (w8.setCells g 0 [Value.int .i64 P, .int .i64 M, .int .i64 G, .int .i64 N, .slice va l vc])) := setCells_tchD g _ 0 w8
  have HP9 : Hid (Bo (w8.setCells g 0 [Value.int .i64 P, .int .i64 M, .int .i64 G, .int .i64 N, .slice va l vc]) g 82 [.int .i64 P, .int .i64 M, .int .i64 G, .int .i64 N, .slice va l vc]) := by
    have := heap_setCells_same [Value.int .i64 P, .int .i64 M, .int .i64 G, .int .i64 N, .slice va l vc] 0 w8 _ Q8.out (by simp)
    show _ = _
    rw [this]
    rfl
  have hS9 : (w8.setCells g 0 [Value.int .i64 P, .int .i64 M, .int .i64 G, .int .i64 N, .slice va l vc]).rangeAt f 0 (bcs X) ∧ (w8.setCells g 0 [Value.int .i64 P, .int .i64 M, .int .i64 G, .int .i64 N, .slice va l vc]).rangeAt q 0 [Value.int .i64 P, .int .i64 M, .int .i64 G, .int .i64 N, .slice va l vc] := ⟨(F8.out.tch HT9.out (by have := HGF.out; omega)).range, (V8.out.tch HT9.out (by have := HQG.out; omega)).range⟩
  refine readyT 13 none (.store 82 (.tmp 4) (.tmp 20)) rfl (by kernel_rfl) ?_
  rintro o K hd ho hgd hK
  refine wp_store_mid 82 (.tmp 4) (.tmp 20) ho g 0 #[.int .i64 P, .int .i64 M, .int .i64 G, .int .i64 N, .slice va l vc] rfl rfl HTH.out HIP.out (all_oneCell_toArray (cs := [.int .i64 P, .int .i64 M, .int .i64 G, .int .i64 N, .slice va l vc]) (by simp [Value.oneCell'])) ?_
  rw [hd]
  refine hK _ _ hS9 ?_
  clear hK ho hd hgd
  simp only [Act.put, List.setIfInBounds_toArray, List.set_cons_zero, List.set_cons_succ]
  refine takeT 14 (some 5) (.assign (.tmp 32)) (.bool true) rfl (by kernel_rfl) (by kernel_rfl) (by kernel_rfl) (fun _ _ _ h => h) ?hy hS9 ?_
  case hy =>
    rintro o ho w' ⟨hS1, hS2⟩
    go_simp
  simp only [Act.put, List.setIfInBounds_toArray, List.set_cons_zero, List.set_cons_succ]
  refine wpAnyH_done (by kernel_rfl) ?_ _
  have HLD : Hid ((loadVar 82 ⟨g, 0, none⟩).run Try.prog (w8.setCells g 0 [Value.int .i64 P, .int .i64 M, .int .i64 G, .int .i64 N, .slice va l vc]) = .ok (pcv p (.slice va l vc)) (w8.setCells g 0 [Value.int .i64 P, .int .i64 M, .int .i64 G, .int .i64 N, .slice va l vc])) := by
    refine pc_load (p := p) (v := .slice va l vc) ?_
    unfold pcs5
    rw [hP.out, hM.out, hG.out, hN.out]
    exact HP9.out
  clear hS9
  go_wp2_with fail
  refine bodyPost_ret (v := .tuple #[pcv p (.slice va l vc), .bool true]) (results_cellP (p := 4) (u := 5) (ty := 82) rfl _ _ _ g _ _ rfl HLD.out rfl) rfl ?_
  refine ⟨.slice va l vc, by rw [HOK.out, HP.out], ?_, ?_, fun k hk => by rw [hg.out]; have := N5.out k hk; have := HGF.out; omega⟩
  · rw [HP.out]
    exact R8.out.tch HT9.out (fun k hk e => by have e2 : k = g := e; have := N5.out k hk; have := HGF.out; omega)
  · rw [hg.out]
    exact B8.out.trans (HT9.out.below (Nat.le_of_lt Q8.out.lt) (fun k e => by rw [e]; exact Nat.le_refl _))

theorem pieceAt_any {S : Nat → Prop} {d : Nat} {s : DS} (i : Nat) (w : World) (h : Dk S w d s) (hi : i < s.L.length) :
    Calls Try.prog 45 #[dp d, .int .i64 (i : Int)] w fun e w' => AtR (s.has i) w e w' := by
  cases hm : mayP (rdP (s.has i)) with
  | false => exact pieceAt_may i w h hi hm
  | true =>
    by_cases he : s.has i = jsec (rdP (s.has i))
    · exact pieceAt_ok i w h hi hm he
    · exact pieceAt_ne i w h hi hm he
end Go.Proofs.Ytaacidgihhcpkaa
