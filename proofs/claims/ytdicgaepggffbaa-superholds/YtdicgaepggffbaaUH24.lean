import Derived.Test.YtdicgaepggffbaaUH23
import Derived.Test.YtdicgaepggffbaaUH03
import Derived.Lib.LazyBuf
/-
  The program's sector of a superblock that may be.
-/
namespace Go.Proofs.Ytdicgaepggffbaa
open Go.RowKit Pl
set_option linter.unusedVariables false
set_option linter.unusedSimpArgs false
set_option maxRecDepth 100000

def kist4 : List Int := [75, 73, 83, 84]
theorem sz_u8U (w : World) : (sizeOf 5).run Try.prog w = .ok 1 w := by
  obtain ⟨i, hi, _, h1, _⟩ := elem8.info
  simp [sizeOf, typeInfo, hi, h1]
/-- 'copy(f[:], "KIST")'. -/
theorem wpList_copyK (w : World) {ops : Array Oper} {rest : List Oper} {o : Oper} {a : Act} {Q : Exit → Act → World → Prop} (hgd : o.guard = none) (d s : Operand)
    (ho : o.op = .call { callee := .builtin .copy, args := #[d, s], argTypes := #[25, 9] }) (g : Nat) (hd : a.eval d = .slice (some ⟨g, 0, none⟩) 256 256) (hs : a.eval s = .string ⟨#[75, 73, 83, 84]⟩)
    (xs : List Int) (hF : Fu w g xs)
    (h : ∀ w', Hid (Fu w' g (splice xs 0 kist4)) → Hid (Tch (fun j => j = g) w w') → wpList Try.prog ops Q rest (a.put o.dst (goInt 4)) w') : wpList Try.prog ops Q (o :: rest) a w := by
  have hr := run_copy_string (P := Try.prog) w 25 9 o.type 5 g 0 256 256 ⟨#[75, 73, 83, 84]⟩ Try.underlying25 sz_u8U (by decide) (fun j hj => by rw [Nat.zero_add, hF.cell (Nat.lt_of_lt_of_le hj (by decide))]; rfl) (fun j _ => by rw [Nat.zero_add]; exact hF.fz j)
  have e : (ByteArray.mk #[75, 73, 83, 84]).data.toList.map (fun x => Value.int .u8 (x.toNat : Int)) = bcs kist4 := rfl
  rw [e] at hr
  refine wpList_plain hgd fun K hK => ?_
  unfold Oper.wp
  have h4 : (ByteArray.mk #[75, 73, 83, 84]).size = 4 := rfl
  rw [h4] at hr
  simp [execOp, ho, resolve, invoke, builtin, hd, hs, hr, Result.andThen]
  refine hK _ _ (h _ ⟨?_, ?_, ?_⟩ (setCells_tchD g _ 0 w))
  · have := heap_setCells_same (bcs kist4) 0 w _ hF.1 (by rw [bcs_len, List.size_toArray, bcs_len, hF.2.1]; decide)
    rw [this]
    unfold splice
    rw [bcs_app, bcs_app]
    simp only [List.toList_toArray, List.take_zero, bcs_len]
    simp [bcs, List.map_drop]
  · rw [spliceU_len (by rw [hF.2.1]; decide), hF.2.1]
  · unfold splice
    exact By.appendB (by rw [List.take_zero]; exact by_of_memB (by simp)) (By.appendB (by_of_memB (by decide)) (hF.2.2.dropB _))

theorem hdb_eq (s : Sp) : (((kist4 ++ leN 4 s.gen) ++ leN 2 s.sc) ++ leN 4 s.nx) ++ leN 1 (s.vs.length : Int) = hdb s := by simp [hdb, kist4]
theorem upre_end {s : Sp} (h : s.vs.length ≤ 8) : splice zz 0 (hdb s ++ vsb s.vs) = upre s ++ [0, 0, 0, 0] := by
  unfold splice upre
  rw [List.take_zero, List.nil_append, zz_drop, List.length_append, hdb_len, vsb_len]
  rw [show 256 - (0 + (15 + 11 * s.vs.length)) = (237 - 11 * s.vs.length) + 4 by omega, ← List.replicate_append_replicate]
  simp only [List.append_assoc]
  rfl
theorem usec_end {s : Sp} (h : s.vs.length ≤ 8) : splice (upre s ++ [0, 0, 0, 0]) 252 (leN 4 (crc (upre s) : Int)) = usec s := by
  unfold splice usec
  rw [leN_len, le4_leN, List.take_append_of_le_length (by rw [upre_len h]; exact Nat.le_refl _), List.take_of_length_le (by rw [upre_len h]; exact Nat.le_refl _), List.drop_of_length_le (by rw [List.length_append, upre_len h]; decide), List.append_nil]
theorem vs_take {vs : List Vn} {k : Nat} {x : Vn} (h : vs[k]? = some x) : vsb (vs.take (k + 1)) = vsb (vs.take k) ++ vby x := by
  obtain ⟨hl, e⟩ := List.getElem?_eq_some_iff.1 h
  rw [List.take_succ_eq_append_getElem hl, e, vsb_snoc]

theorem smd_upre {s : Sp} (h : s.vs.length ≤ 8) : smd (upre s ++ [0, 0, 0, 0]) = usec s := by
  have hl : (upre s ++ [0, 0, 0, 0]).length = 256 := by rw [List.length_append, upre_len h]; rfl
  have e : (upre s ++ [0, 0, 0, 0]).take 252 = upre s := by rw [List.take_append_of_le_length (by rw [upre_len h]; exact Nat.le_refl _), List.take_of_length_le (by rw [upre_len h]; exact Nat.le_refl _)]
  rw [← smd_splice hl, e]
  exact usec_end h

set_option maxHeartbeats 1000000 in
theorem sectorOfU_any (s : Sp) (v : Value) (w : World) (hr : RdV w v s.vs) (hm : mayU s = true) :
    Calls Try.prog 35 #[supv s v] w fun e w' => e = .returned (.agg (bcs (usec s)).toArray) ∧ Below w.heap.size w w' := by
  obtain ⟨a, cap, rfl, hc1, hc2, _⟩ := id hr
  obtain ⟨⟨h1, h2, h3, h4, h5, h6, h7⟩, hvs⟩ := mayU_iff.1 hm
  obtain ⟨hv, hi⟩ := zero_of_info info_frmU
  have HSL := slice_frmU
  have HR : Hid (RdV w (.slice a s.vs.length cap) s.vs) := hr
  have HI : Hid ((Try.prog.info? 62).map (·.size) = some 256) := hi
  have HVS : Hid (∀ k x, s.vs[k]? = some x → VnOk x) := fun k x hx => by
    have := vsOk_mem (Int.le_refl 0) hvs x (List.mem_of_getElem? hx)
    exact ⟨by omega, by omega, by omega, by omega, by omega, by omega⟩
  have H7 : Hid (s.vs.length ≤ 8) := h7
  obtain ⟨G, hG⟩ : ∃ n : Nat, s.gen = (n : Int) := ⟨s.gen.toNat, by omega⟩
  obtain ⟨C, hC⟩ : ∃ n : Nat, s.sc = (n : Int) := ⟨s.sc.toNat, by omega⟩
  obtain ⟨N, hN⟩ : ∃ n : Nat, s.nx = (n : Int) := ⟨s.nx.toNat, by omega⟩
  have HGb : Hid (G < 9223372036854775807 ∧ C < 9223372036854775807 ∧ N < 9223372036854775807) := by refine ⟨?_, ?_, ?_⟩ <;> omega
  have HH := hideP (hdb_eq s)
  rw [hG, hC, hN] at HH
  obtain ⟨W1, hW1⟩ : ∃ W1, w.alloc (.cells #[.int .i64 s.gen, .int .i64 s.sc, .int .i64 s.nx, .slice a s.vs.length cap] 24) = W1 := ⟨_, rfl⟩
  obtain ⟨W2, hW2⟩ : ∃ W2, W1.alloc (.cells (bcs zz).toArray 62) = W2 := ⟨_, rfl⟩
  obtain ⟨W3, hW3⟩ : ∃ W3, W2.alloc (.cells (bcs zz).toArray 62) = W3 := ⟨_, rfl⟩
  have s1 : W1.heap.size = w.heap.size + 1 := by rw [← hW1]; simp
  have s2 : W2.heap.size = w.heap.size + 1 + 1 := by rw [← hW2]; simp [s1]
  have s3 : Hid (W3.heap.size = w.heap.size + 3) := by show _ = _; rw [← hW3]; simp [s2]
  have b1 : Below w.heap.size w W1 := by rw [← hW1]; exact (Below.refl _ _).alloc (Nat.le_refl _) _
  have b2 : Below W1.heap.size W1 W2 := by rw [← hW2]; exact (Below.refl _ _).alloc (Nat.le_refl _) _
  have b3 : Below W2.heap.size W2 W3 := by rw [← hW3]; exact (Below.refl _ _).alloc (Nat.le_refl _) _
  have Q1 : Uv W1 w.heap.size s (.slice a s.vs.length cap) := by rw [← hW1]; exact uv_new w s _
  have Q3 : Hid (Uv W3 w.heap.size s (.slice a s.vs.length cap)) := (Q1.below b2).below b3
  have F2 : Fu W2 (w.heap.size + 1) zz := by rw [← hW2, ← s1]; exact fv_newU W1 zz_len zz_by
  have FR : Hid (Fu W3 (w.heap.size + 1) zz) := F2.below b3
  have FS : Hid (Fu W3 (w.heap.size + 1 + 1) zz) := by rw [← hW3, ← s2]; exact fv_newU W2 zz_len zz_by
  have BB : Hid (Below w.heap.size w W3) := b1.trans ((b2.trans (b3.mono (by omega))).mono (by omega))
  have hc : cap ≤ 9223372036854775807 := by unfold maxLen at hc2; omega
  obtain ⟨Z, hZ⟩ : ∃ Z, Hid ((bcs zz).toArray = Z) := ⟨_, rfl⟩
  rw [hZ.out] at hv hW2 hW3
  obtain ⟨l, hl⟩ : ∃ l, Hid (s.vs.length = l) := ⟨_, rfl⟩
  rw [hl.out] at HR h7 hc1 hW1 Q3 HH ⊢
  have HGe : Hid (s.gen = (G : Int) ∧ s.sc = (C : Int) ∧ s.nx = (N : Int)) := ⟨hG, hC, hN⟩
  rw [hG, hC, hN] at hW1
  unfold supv
  rw [hG, hC, hN]
  clear Q1 F2 b1 b2 b3 hi hr hm hvs hG hC hN h1 h2 h3 h4 h5 h6
  go_enter Try.func35, Try.ntmps35
  go_wp2_with (with_reducible (show wpList _ _ _ (Oper.mk _ (Op.call _) _ _ _ _ :: _) _ _); refine wpList_copyK _ rfl (.tmp 6) (.const (.string ⟨#[75, 73, 83, 84]⟩)) rfl (w.heap.size + 1 + 1) ?h3 ?h5 zz FS.out ?_; (case h3 => kernel_rfl); (case h5 => kernel_rfl))
  intro w4 F4 t4
  obtain ⟨g, hg⟩ : ∃ g, Hid (w.heap.size = g) := ⟨_, rfl⟩
  rw [hg.out] at Q3 FR FS BB s3 F4 t4 ⊢
  have Q4 : Hid (Uv w4 g s (.slice a l cap)) := Q3.out.tch t4.out (by omega)
  have R4 : Hid (Fu w4 (g + 1) zz) := FR.out.tch t4.out (by omega)
  have B4 : Hid (Below g w w4) := BB.out.trans (t4.out.below (by rw [s3.out]; omega) (fun k e => by rw [e]; omega))
  have c0 := Q4.out.c0
  rw [HGe.out.1] at c0
  clear Q3 FR FS BB t4 hW1 hW2 hW3 s1 s2 s3
  go_wp2_with fail
  refine (setU_any (g + 1 + 1) 4 4 G _ w4 F4.out HGb.out.1 (by decide) (by decide)).mono ?_
  rintro e w5 ⟨rfl, f5, t5⟩
  rw [splice_next (by rfl) (by rw [leN_len, zz_len]; decide)] at f5
  have F5 : Hid (Fu w5 (g + 1 + 1) (splice zz 0 (kist4 ++ leN 4 (G : Int)))) := f5
  have Q5 : Hid (Uv w5 g s (.slice a l cap)) := Q4.out.tch t5 (by omega)
  have R5 : Hid (Fu w5 (g + 1) zz) := R4.out.tch t5 (by omega)
  have B5 : Hid (Below g w w5) := B4.out.trans (t5.below (by have := F4.out.lt; omega) (fun k e => by rw [e]; omega))
  have c1 := Q5.out.c1
  rw [HGe.out.2.1] at c1
  clear f5 t5 c0 F4 Q4 R4 B4
  go_wp2_with fail
  refine (setU_any (g + 1 + 1) 8 2 C _ w5 F5.out HGb.out.2.1 (by decide) (by decide)).mono ?_
  rintro e w6 ⟨rfl, f6, t6⟩
  rw [splice_next (by rw [List.length_append, leN_len]; rfl) (by rw [leN_len, zz_len]; decide)] at f6
  have F6 : Hid (Fu w6 (g + 1 + 1) (splice zz 0 ((kist4 ++ leN 4 (G : Int)) ++ leN 2 (C : Int)))) := f6
  have Q6 : Hid (Uv w6 g s (.slice a l cap)) := Q5.out.tch t6 (by omega)
  have R6 : Hid (Fu w6 (g + 1) zz) := R5.out.tch t6 (by omega)
  have B6 : Hid (Below g w w6) := B5.out.trans (t6.below (by have := F5.out.lt; omega) (fun k e => by rw [e]; omega))
  have c2 := Q6.out.c2
  rw [HGe.out.2.2] at c2
  clear f6 t6 c1 F5 Q5 R5 B5
  go_wp2_with fail
  refine (setU_any (g + 1 + 1) 10 4 N _ w6 F6.out HGb.out.2.2 (by decide) (by decide)).mono ?_
  rintro e w7 ⟨rfl, f7, t7⟩
  rw [splice_next (by rw [List.length_append, List.length_append, leN_len, leN_len]; rfl) (by rw [leN_len, zz_len]; decide)] at f7
  have F7 : Hid (Fu w7 (g + 1 + 1) (splice zz 0 (((kist4 ++ leN 4 (G : Int)) ++ leN 2 (C : Int)) ++ leN 4 (N : Int)))) := f7
  have Q7 : Hid (Uv w7 g s (.slice a l cap)) := Q6.out.tch t7 (by omega)
  have R7 : Hid (Fu w7 (g + 1) zz) := R6.out.tch t7 (by omega)
  have B7 : Hid (Below g w w7) := B6.out.trans (t7.below (by have := F6.out.lt; omega) (fun k e => by rw [e]; omega))
  have c3 := Q7.out.c3
  clear f7 t7 c2 F6 Q6 R6 B6
  go_wp2_with fail
  refine (setU_any (g + 1 + 1) 14 1 l _ w7 F7.out (by omega) (by decide) (by decide)).mono ?_
  rintro e w8 ⟨rfl, f8, t8⟩
  rw [splice_next (by rw [List.length_append, List.length_append, List.length_append, leN_len, leN_len, leN_len]; rfl) (by rw [leN_len, zz_len]; decide), HH.out] at f8
  have F8 : Hid (Fu w8 (g + 1 + 1) (splice zz 0 (hdb s))) := f8
  have Q8 : Hid (Uv w8 g s (.slice a l cap)) := Q7.out.tch t8 (by omega)
  have R8 : Hid (Fu w8 (g + 1) zz) := R7.out.tch t8 (by omega)
  have B8 : Hid (Below g w w8) := B7.out.trans (t8.below (by have := F7.out.lt; omega) (fun k e => by rw [e]; omega))
  clear c3
  have c3 := Q8.out.c3
  clear f8 t8 F7 Q7 R7 B7 HH
  go_wp2_with fail
  go_loopw [24] (fun i wr => ∃ k : Nat, k ≤ l ∧ i = .int .i64 k ∧ Hid (Fu wr (g + 1 + 1) (splice zz 0 (hdb s ++ vsb (s.vs.take k)))) ∧ Hid (Fu wr (g + 1) zz) ∧ Hid (Below g w wr)) (fun i _ => l - (intOf i).toNat)
  case atStart => exact ⟨0, Nat.zero_le _, rfl, by rw [List.take_zero, show vsb [] = [] from rfl, List.append_nil]; exact F8, R8, B8⟩
  case round =>
    clear F8 R8 B8 Q8 c3
    obtain ⟨k, hk, rfl, F, R, B⟩ := hrel
    by_cases hlt : k < l
    · obtain ⟨x, hx⟩ : ∃ x, s.vs[k]? = some x := ⟨_, List.getElem?_eq_getElem (by rw [hl.out]; exact hlt)⟩
      obtain ⟨b, o, rfl, VC⟩ := HR.out.at_ (hg.out ▸ B.out : Below w.heap.size w wr) hx
      have v0 := VC.c0
      have v1 := VC.c1
      have v2 := VC.c2
      have v3 := VC.c3
      have HXO := hideP (HVS.out k x hx)
      have hkl : (k : Int) < (l : Int) := by omega
      have hp : 11 * k + 15 ≤ 92 := by omega
      obtain ⟨m, hm⟩ : ∃ m, 11 * k = m := ⟨_, rfl⟩
      have hm1 : 11 * (k : Int) = (m : Int) := by omega
      obtain ⟨p, hpp⟩ : ∃ p, 15 + m = p := ⟨_, rfl⟩
      have hp1 : 15 + (m : Int) = (p : Int) := by omega
      have hp2 : p ≤ 92 := by omega
      have HPK : Hid (p = 15 + 11 * k) := by show _ = _; omega
      have HTL : Hid ((hdb s ++ vsb (s.vs.take k)).length = p) := by
        show _ = _
        rw [List.length_append, hdb_len, vsb_len, List.length_take, hl.out, Nat.min_eq_left (by omega)]
        exact HPK.out.symm
      obtain ⟨W3, hW3⟩ : ∃ W3, wr.alloc (.cells #[.int .i64 x.id, .int .i64 x.root, .int .i64 x.nx, .bool x.fx] 66) = W3 := ⟨_, rfl⟩
      have bw : Below wr.heap.size wr W3 := by rw [← hW3]; exact (Below.refl _ _).alloc (Nat.le_refl _) _
      have B3 : Hid (Below g w W3) := B.out.trans (bw.mono (by have := R.out.lt; omega))
      have F3 : Hid (Fu W3 (g + 1 + 1) (splice zz 0 (hdb s ++ vsb (s.vs.take k)))) := F.out.below bw
      have R3 : Hid (Fu W3 (g + 1) zz) := R.out.below bw
      obtain ⟨q, hq⟩ : ∃ q, wr.heap.size = q := ⟨_, rfl⟩
      have V3 : VCell W3 q 0 x := by rw [← hW3, ← hq]; exact (vv_new wr x).cells
      have y0 := V3.c0
      have y1 := V3.c1
      have y2 := V3.c2
      have y3 := V3.c3
      have hz0 : (splice zz 0 (hdb s ++ vsb (s.vs.take k))).getD (p + 10) 0 = 0 := by
        rw [splice_get (by rw [HTL.out, zz_len]; omega) (by rw [HTL.out]; omega), List.getD_eq_getElem?_getD, zz_get (by omega)]
        rfl
      have HSV := hideP (setVersion_any (g + 1 + 1) p x _ W3 F3.out HXO.out (by omega) hz0)
      have HNX : Hid (splice (splice zz 0 (hdb s ++ vsb (s.vs.take k))) p (vby x) = splice zz 0 (hdb s ++ vsb (s.vs.take (k + 1)))) := by
        show _ = _
        rw [splice_next (by rw [HTL.out]; omega) (by rw [vby_len, zz_len]; omega), List.append_assoc, ← vs_take hx]
      unfold verv at HSV
      obtain ⟨xi, hxi⟩ : ∃ n, Hid (x.id = n) := ⟨_, rfl⟩
      obtain ⟨xr, hxr⟩ : ∃ n, Hid (x.root = n) := ⟨_, rfl⟩
      obtain ⟨xn, hxn⟩ : ∃ n, Hid (x.nx = n) := ⟨_, rfl⟩
      obtain ⟨xf, hxf⟩ : ∃ n, Hid (x.fx = n) := ⟨_, rfl⟩
      rw [hxi.out, hxr.out, hxn.out, hxf.out] at HSV hW3
      rw [hxi.out] at v0 y0
      rw [hxr.out] at v1 y1
      rw [hxn.out] at v2 y2
      rw [hxf.out] at v3 y3
      clear VC V3 hm hpp bw hz0 F R B hp
      go_wp2_with fail
      refine HSV.out.mono ?_
      rintro e w5 ⟨rfl, f5, t5⟩
      rw [HNX.out] at f5
      have F5 : Hid (Fu w5 (g + 1 + 1) (splice zz 0 (hdb s ++ vsb (s.vs.take (k + 1))))) := f5
      have R5 : Hid (Fu w5 (g + 1) zz) := R3.out.tch t5 (by omega)
      have B5 : Hid (Below g w w5) := B3.out.trans (t5.below (by have := F3.out.lt; omega) (fun k e => by rw [e]; omega))
      clear f5 t5 F3 R3 B3 HSV HNX hW3 hq y0 y1 y2 y3 v0 v1 v2 v3
      go_wp2_with fail
      go_roundw
      case rel => exact ⟨k + 1, by omega, by go_num, F5, R5, B5⟩
      case measure => simp [intOf]; omega
    · have hkl : ¬ (k : Int) < (l : Int) := by omega
      have e0 : s.vs.take k = s.vs := List.take_of_length_le (by rw [hl.out]; omega)
      rw [e0, upre_end H7.out] at F
      have HS : Hid (smd (upre s ++ [0, 0, 0, 0]) = usec s) := smd_upre H7.out
      have HUL : Hid ((usec s).length = 256) := usec_len H7.out
      have HRG : Hid (wr.rangeAt (g + 1 + 1) 0 (bcs (upre s ++ [0, 0, 0, 0]))) := F.out.range
      have HPL : Hid ((bcs (upre s ++ [0, 0, 0, 0])).length = 256) := by show _ = _; rw [bcs_len]; exact F.out.2.1
      generalize upre s ++ [0, 0, 0, 0] = P at *
      clear e0
      go_wp2_with (with_reducible (show wpList _ _ _ (Oper.mk _ (Op.load _ _) _ _ _ _ :: _) _ _); refine wpList_load_mid rfl 62 (.tmp 3) rfl (g + 1 + 1) 0 rfl (bcs P) _ HRG.out Try.underlying62 rfl (by rw [HPL.out]; exact HI.out) ?_)
      refine (summedU_any P wr F.out.2.1 F.out.2.2).mono ?_
      rintro e w4 ⟨rfl, hb4⟩
      rw [HS.out]
      have R4 : Hid (Fu w4 (g + 1) zz) := R.out.below hb4
      have B4 : Hid (Below g w w4) := B.out.trans (hb4.mono (by have := R.out.lt; omega))
      have HT : Hid (w4.there (g + 1) 0 256) := R4.out.there
      have HSZ : Hid ((bcs (usec s)).toArray.size = 256) := bcs_sizeU HUL.out
      have HON : Hid ((bcs (usec s)).toArray.all (·.oneCell') = true) := bcs_all _
      have HP : Hid (Fu (w4.setCells (g + 1) 0 (bcs (usec s))) (g + 1) (usec s)) := R4.out.put HUL.out (usec_by s)
      have HBB : Hid (Below g w (w4.setCells (g + 1) 0 (bcs (usec s)))) := B4.out.trans ((setCells_tchD (g + 1) _ 0 w4).below (by have := R4.out.lt; omega) (fun k e => by omega))
      clear hb4 F R B HRG HPL HS
      obtain ⟨U, hU⟩ : ∃ U, Hid (usec s = U) := ⟨_, rfl⟩
      rw [hU.out] at HSZ HON HP HBB ⊢
      go_wp2_with (with_reducible (show wpList _ _ _ (Oper.mk _ (Op.store _ _ _) _ _ _ _ :: _) _ _); refine wpList_store_mid rfl 62 (.tmp 2) (.tmp 36) rfl (g + 1) 0 (bcs U).toArray rfl rfl (by rw [HSZ.out]; exact HT.out) (by rw [HSZ.out]; exact HI.out) HON.out ?_)
      refine bodyPost_ret (v := .agg (bcs U).toArray) ?_ rfl ⟨by rw [hU.out], ?_⟩
      · exact results_atU (p := 2) (ty := 62) rfl _ _ _ (g + 1) _ rfl (by simpa using HP.out.load)
      · rw [hg.out]; simpa using HBB.out
end Go.Proofs.Ytdicgaepggffbaa
/-
  The program's Put of superblocks.
-/
namespace Go.Proofs.Ytdicgaepggffbaa
open Go.RowKit Pl
set_option linter.unusedVariables false
set_option linter.unusedSimpArgs false
set_option maxRecDepth 100000

/-- What is told of a superblock that is to be put. -/
def PutU (s : Sp) (w : World) (e : Ending) (w' : World) : Prop :=
  ∃ v c, e = .returned (.tuple #[v, .int .i64 c]) ∧ Below w.heap.size w w' ∧ (∀ j, v.ownBlock = some j → w.heap.size ≤ j) ∧
    ((mayU s = true ∧ c = 0 ∧ Wb w' v (usec s) ∧ ∃ g, v = .slice (some ⟨g, 0, none⟩) 256 256) ∨ (mayU s = false ∧ c = 1 ∧ v = .slice none 0 0))

set_option maxHeartbeats 400000 in
theorem putU_any (s : Sp) (v : Value) (w : World) (hr : RdV w v s.vs) :
    Calls Try.prog 8 #[supv s v] w fun e w' => PutU s w e w' := by
  obtain ⟨a, cap, rfl, h1, h2, _⟩ := id hr
  obtain ⟨hv, hi⟩ := zero_of_info info_frmU
  have HSL := slice_frmU
  have HR : Hid (RdV w (.slice a s.vs.length cap) s.vs) := hr
  have HI : Hid ((Try.prog.info? 62).map (·.size) = some 256) := hi
  obtain ⟨W1, hW1⟩ : ∃ W1, w.alloc (.cells #[.int .i64 s.gen, .int .i64 s.sc, .int .i64 s.nx, .slice a s.vs.length cap] 24) = W1 := ⟨_, rfl⟩
  have b1 : Hid (Below w.heap.size w W1) := by rw [← hW1]; exact (Below.refl _ _).alloc (Nat.le_refl _) _
  have Q1 : Hid (Uv W1 w.heap.size s (.slice a s.vs.length cap)) := by rw [← hW1]; exact uv_new w s _
  have q0 := Q1.out.c0
  have q1 := Q1.out.c1
  have q2 := Q1.out.c2
  have q3 := Q1.out.c3
  obtain ⟨Z, hZ⟩ : ∃ Z, Hid ((bcs zz).toArray = Z) := ⟨_, rfl⟩
  have HZ : Hid (Z.size = 256) := by show _ = _; rw [← hZ.out, List.size_toArray, bcs_len, zz_len]
  rw [hZ.out] at hv
  have HM1 := hideP (mayU_any s _ W1 (HR.out.below b1.out))
  have HSO : Hid (∀ W, RdV W (.slice a s.vs.length cap) s.vs → mayU s = true → Calls Try.prog 35 #[supv s (.slice a s.vs.length cap)] W fun e w' => e = .returned (.agg (bcs (usec s)).toArray) ∧ Below W.heap.size W w') := fun W h1 h2 => sectorOfU_any s _ W h1 h2
  unfold supv at HM1 HSO
  unfold supv
  obtain ⟨l, hl⟩ : ∃ l, Hid (s.vs.length = l) := ⟨_, rfl⟩
  rw [hl.out] at HR hW1 q3 Q1 HM1 HSO ⊢
  obtain ⟨ge, hge⟩ : ∃ l, Hid (s.gen = l) := ⟨_, rfl⟩
  obtain ⟨sc, hsc⟩ : ∃ l, Hid (s.sc = l) := ⟨_, rfl⟩
  obtain ⟨nx, hnx⟩ : ∃ l, Hid (s.nx = l) := ⟨_, rfl⟩
  rw [hge.out, hsc.out, hnx.out] at HM1 HSO hW1
  rw [hge.out] at q0
  rw [hsc.out] at q1
  rw [hnx.out] at q2
  rw [hge.out, hsc.out, hnx.out]
  cases hm : mayU s with
  | false =>
    have HPo : Hid (∀ w', Below w.heap.size w w' → PutU s w (.returned (.tuple #[.slice none 0 0, .int .i64 1])) w') := fun w' h => ⟨_, _, rfl, h, (fun j e => by cases e), .inr ⟨hm, rfl, rfl⟩⟩
    rw [hm] at HM1
    clear hm hr h1 h2 hi HSO
    go_enter Try.func8, Try.ntmps8
    go_wp2_with fail
    refine HM1.out.mono ?_
    rintro e w2 ⟨rfl, hb2⟩
    have B2 : Hid (Below w.heap.size w w2) := b1.out.trans (hb2.mono b1.out.size)
    clear hb2 hW1
    go_wp2_with fail
    go_ret2
    exact HPo.out _ B2.out
  | true =>
    have HMT : Hid (mayU s = true) := hm
    rw [hm] at HM1
    clear hm hr h1 h2 hi
    go_enter Try.func8, Try.ntmps8
    go_wp2_with fail
    refine HM1.out.mono ?_
    rintro e w2 ⟨rfl, hb2⟩
    have B2 : Hid (Below w.heap.size w w2) := b1.out.trans (hb2.mono b1.out.size)
    have Q2 : Hid (Uv w2 w.heap.size s (.slice a l cap)) := Q1.out.below hb2
    have HC := hideP (HSO.out w2 (HR.out.below B2.out) HMT.out)
    have p0 := Q2.out.c0
    have p1 := Q2.out.c1
    have p2 := Q2.out.c2
    have p3 := Q2.out.c3
    rw [hge.out] at p0
    rw [hsc.out] at p1
    rw [hnx.out] at p2
    clear hb2 hW1 q0 q1 q2 q3 Q1 b1 HSO
    go_wp2_with fail
    refine HC.out.mono ?_
    rintro e w3 ⟨rfl, hb3⟩
    have B3 : Hid (Below w.heap.size w w3) := B2.out.trans (hb3.mono B2.out.size)
    have HSE : Hid ((usec s).length = 256) := usec_len (mayU_iff.1 HMT.out).1.2.2.2.2.2.2
    have HSZ : Hid ((bcs (usec s)).toArray.size = 256) := bcs_sizeU HSE.out
    have HON : Hid ((bcs (usec s)).toArray.all (·.oneCell') = true) := bcs_all _
    obtain ⟨W4, hW4⟩ : ∃ W4, w3.alloc (.cells (bcs (usec s)).toArray 62) = W4 := ⟨_, rfl⟩
    have F4 : Hid (Fu W4 w3.heap.size (usec s)) := by rw [← hW4]; exact fv_newU w3 HSE.out (usec_by s)
    have B4 : Hid (Below w.heap.size w W4) := by rw [← hW4]; exact B3.out.alloc B3.out.size _
    have HS3 : Hid (w.heap.size ≤ w3.heap.size) := B3.out.size
    have HW4 : Hid (w3.alloc (.cells (bcs (usec s)).toArray 62) = W4) := hW4
    clear hW4 hb3 p0 p1 p2 p3 Q2
    go_wp2_with (with_reducible (show wpList _ _ _ (Oper.mk _ (Op.store _ _ _) _ _ _ _ :: _) _ _); refine wpList_store_newD _ rfl 62 (.tmp 4) (.tmp 9) rfl Z (bcs (usec s)).toArray rfl rfl (by rw [HI.out, HSZ.out]) (by rw [HZ.out, HSZ.out]) HON.out ?_; rw [HW4.out])
    go_ret2
    refine ⟨_, _, rfl, B4.out, (fun j e => by cases e; exact HS3.out), .inl ⟨HMT.out, rfl, F4.out.wb, _, rfl⟩⟩
end Go.Proofs.Ytdicgaepggffbaa
