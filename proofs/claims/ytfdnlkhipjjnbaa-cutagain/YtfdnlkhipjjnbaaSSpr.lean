/-
  The program's words of a piece.
-/
import Derived.Test.YtfdnlkhipjjnbaaSWd
import Derived.Test.YtfdnlkhipjjnbaaSArr
import Derived.Test.YtfdnlkhipjjnbaaMCut
import Derived.StillTailTactics
namespace Go.Proofs.Ytfdnlkhipjjnbaa
open Go.RowKit Pl
set_option linter.unusedVariables false

theorem word_or (a b c d : Nat) (ha : a < 256) (hb : b < 256) (hc : c < 256) (hd : d < 256) :
    Go.bits .or .u32 ((a : Int) * 16777216) ((b : Int) * 65536) = ((a * 16777216 + b * 65536 : Nat) : Int) ∧
    Go.bits .or .u32 ((a * 16777216 + b * 65536 : Nat) : Int) ((c : Int) * 256) = ((a * 16777216 + b * 65536 + c * 256 : Nat) : Int) ∧
    Go.bits .or .u32 ((a * 16777216 + b * 65536 + c * 256 : Nat) : Int) (d : Int) = ((a * 16777216 + b * 65536 + c * 256 + d : Nat) : Int) := by
  refine ⟨?_, ?_, ?_⟩
  · rw [show (a : Int) * 16777216 = ((a * 16777216 : Nat) : Int) by omega, show (b : Int) * 65536 = ((b * 65536 : Nat) : Int) by omega, u32_or_nat _ _ (by omega) (by omega), nat_join 24 _ _ (by omega) (by omega)]
  · rw [show (c : Int) * 256 = ((c * 256 : Nat) : Int) by omega, u32_or_nat _ _ (by omega) (by omega), nat_join 16 _ _ (by omega) (by omega)]
  · rw [u32_or_nat _ _ (by omega) (by omega), nat_join 8 _ _ (by omega) (by omega)]

/-- The words laid so far. -/
def sofar (f : Nat → Nat) (k i : Nat) : Nat := if i < k then f i else 0
theorem sofar_step (f : Nat → Nat) (k i : Nat) : updN (sofar f k) k (f k) i = sofar f (k + 1) i := by
  unfold updN sofar
  by_cases e : i = k
  · subst e; rw [if_pos rfl, if_pos (by omega)]
  · rw [if_neg e]
    by_cases c : i < k
    · rw [if_pos c, if_pos (by omega)]
    · rw [if_neg c, if_neg (by omega)]

set_option maxRecDepth 100000 in
set_option maxHeartbeats 4000000 in
theorem spread_anyS (v : Value) (xs : List Int) (w : World) (hr : Rd .u8 w v xs) (hb : By xs) (hl : 64 ≤ xs.length) :
    Calls Try.prog 30 #[v] w fun e w' => e = .returned (.agg (ucs .u32 64 (wF (wd (bN xs)))).toArray) ∧ Below w.heap.size w w' := by
  obtain ⟨a, cap, hv, _⟩ := id hr
  have HR : Hid (Rd .u8 w v xs) := hr
  have HB : Hid (By xs) := hb
  obtain ⟨ab, ao, rfl, hcc⟩ : ∃ b o, a = some ⟨b, o, none⟩ ∧ ∀ i, i < xs.length → w.cell? ⟨b, o + i, none⟩ = some (.int .u8 (xs.getD i 0)) := by
    obtain ⟨a', cap', e', _, _, _, h⟩ := hr
    rw [hv] at e'
    cases e'
    rcases h with rfl | h
    · simp at hl
    · exact h
  have HC : Hid (∀ i, i < xs.length → w.cell? ⟨ab, ao + i, none⟩ = some (.int .u8 (xs.getD i 0))) := hcc
  clear hr hb hcc
  subst hv
  obtain ⟨hv64, hi64⟩ := zero_of_info info_64
  have HI64 : Hid ((Try.prog.info? 37).map (·.size) = some 64) := hi64
  obtain ⟨f, hf⟩ : ∃ f, Hid (wF (wd (bN xs)) = f) := ⟨_, rfl⟩
  have HFL : Hid (∀ i, f i < 4294967296) := fun i => by rw [← hf.out]; exact wF_lt (wd_lt (bN_lt HB.out)) i
  rw [hf.out]
  obtain ⟨Z, hZ⟩ : ∃ Z, Hid ((ucs .u32 64 (fun _ => 0)).toArray = Z) := ⟨_, rfl⟩
  rw [hZ.out] at hv64
  obtain ⟨F, hF⟩ : ∃ F, Hid (ucs .u32 64 f = F) := ⟨_, rfl⟩
  rw [hF.out]
  clear hi64
  go_enter Try.func30, Try.ntmps30
  go_wp2_with fail
  obtain ⟨g, hg⟩ : ∃ g, w.heap.size + 1 = g := ⟨_, rfl⟩
  have C0 : Hid (Uv .u32 ((w.alloc (.cells Z 37)).alloc (.cells Z 37)) g 37 64 (sofar f 0)) := by
    have h0 := uv_new .u32 (w.alloc (.cells Z 37)) 37 64 (fun _ => 0)
    rw [hZ.out] at h0
    rw [← hg]
    have h1 := h0.congr (d := sofar f 0) (fun i _ => by simp [sofar])
    rw [World.size_alloc] at h1
    exact h1
  have B0 : Hid (Below w.heap.size w ((w.alloc (.cells Z 37)).alloc (.cells Z 37))) := ((Below.refl _ _).alloc (Nat.le_refl _) _).alloc (by simp) _
  have R0 : Hid (Uv .u32 ((w.alloc (.cells Z 37)).alloc (.cells Z 37)) w.heap.size 37 64 (fun _ => 0)) := by
    have h0 := uv_new .u32 w 37 64 (fun _ => 0)
    rw [hZ.out] at h0
    exact h0.tch (S := fun _ => False) ((Tch.refl _ _).alloc _) (fun e => e)
  obtain ⟨W0, hW0⟩ : ∃ W0, Hid ((w.alloc (.cells Z 37)).alloc (.cells Z 37) = W0) := ⟨_, rfl⟩
  rw [hW0.out] at C0 B0 R0 ⊢
  clear hv64 hZ
  rw [hg]
  go_loopw [9] (fun i wr => ∃ k : Nat, k ≤ 16 ∧ i = .int .i64 k ∧ Hid (Uv .u32 wr g 37 64 (sofar f k)) ∧ Hid (Tch (fun k => k = g) W0 wr)) (fun i _ => 16 - (intOf i).toNat)
  case atStart => exact ⟨0, Nat.zero_le _, rfl, C0, Tch.refl _ _⟩
  case round =>
    obtain ⟨k, hk, rfl, CV, T⟩ := hrel
    by_cases hlt : k < 16
    · have cw := CV.out.at_ k (by omega)
      have fw := CV.out.fz k
      go_wp2_with (refine wpList_mid _ w rfl (.tmp 12) (.tmp 14) (.tmp 17) rfl _ xs rfl HR.out (4 * k) 4 (by first | rfl | (simp [Act.eval])) (by first | rfl | (simp [Act.eval])) (by omega) ?_)
      rintro v' ⟨a2, cap2, rfl, _, _, _, h2⟩
      have el : (List.take 4 (List.drop (4 * k) xs)).length = 4 := by simp; omega
      rw [el] at h2 ⊢
      obtain ⟨sb, so, rfl, h3⟩ : ∃ b o, a2 = some ⟨b, o, none⟩ ∧ ∀ i, i < 4 → w.cell? ⟨b, o + i, none⟩ = some (.int .u8 ((List.take 4 (List.drop (4 * k) xs)).getD i 0)) := by
        rcases h2 with h | h
        · rw [h] at el; simp at el
        · exact h
      have HCX : Hid (∀ j, j < 4 → ∃ b : Nat, b < 256 ∧ bN xs (4 * k + j) = b ∧ wr.cell? ⟨sb, so + j, none⟩ = some (.int .u8 (b : Int))) := fun j hj => by
        have h0 := h3 j hj
        have hl0 := World.block_lt_of_cell? w ⟨sb, so + j, none⟩ h0
        have h1 := B0.out.cell (p := ⟨sb, so + j, none⟩) hl0
        have e : (List.take 4 (List.drop (4 * k) xs)).getD j 0 = xs.getD (4 * k + j) 0 := by
          rw [List.getD_eq_getElem?_getD, List.getD_eq_getElem?_getD, List.getElem?_take, if_pos hj, List.getElem?_drop]
        refine ⟨bN xs (4 * k + j), bN_lt HB.out _, rfl, ?_⟩
        rw [T.out.cell (p := ⟨sb, so + j, none⟩) (by have := B0.out.size; simp only at hl0 ⊢; omega) (fun e => by simp only at hl0 e; omega), h1, h0, e, bN_eq HB.out]
      obtain ⟨b0, hb0, e0, c0⟩ := HCX.out 0 (by decide)
      obtain ⟨b1, hb1, e1, c1⟩ := HCX.out 1 (by decide)
      obtain ⟨b2, hb2, e2, c2⟩ := HCX.out 2 (by decide)
      obtain ⟨b3, hb3, e3, c3⟩ := HCX.out 3 (by decide)
      rw [Nat.add_zero] at c0 e0
      obtain ⟨o1, o2, o3⟩ := word_or b0 b1 b2 b3 hb0 hb1 hb2 hb3
      have HW : Hid (f k = b0 * 16777216 + b1 * 65536 + b2 * 256 + b3) := by show _ = _; rw [← hf.out, wF_lo _ _ hlt]; unfold wd; rw [e0, e1, e2, e3]
      obtain ⟨X1, hX1⟩ : ∃ X, b0 * 16777216 + b1 * 65536 = X := ⟨_, rfl⟩
      rw [hX1] at o1 o2 o3 HW
      obtain ⟨X2, hX2⟩ : ∃ X, X1 + b2 * 256 = X := ⟨_, rfl⟩
      rw [hX2] at o2 o3 HW
      obtain ⟨X3, hX3⟩ : ∃ X, X2 + b3 = X := ⟨_, rfl⟩
      rw [hX3] at o3 HW
      have CV2 : Hid (Uv .u32 (wr.setCell ⟨g, k, none⟩ (.int .u32 (X3 : Int))) g 37 64 (sofar f (k + 1))) := by
        rw [← HW.out]
        exact (CV.out.set k (by omega) (f k)).congr (fun i _ => sofar_step f k i)
      have T2 : Hid (Tch (fun k => k = g) W0 (wr.setCell ⟨g, k, none⟩ (.int .u32 (X3 : Int)))) := Tch.setCell T.out (p := ⟨g, k, none⟩) (fun _ => rfl) _
      have hi0 : (0 : Int) ≤ (k : Int) := by omega
      have hi1 : (k : Int) < 64 := by omega
      have hi2 : (k : Int) ≤ 63 := by omega
      clear HCX e0 e1 e2 e3 hX1 hX2 hX3 h2 h3 el HW CV T
      go_wp2_with fail
      go_still_tail 24, (by kernel_rfl)
      go_wp2_with fail
      go_roundw
      case rel => exact ⟨k + 1, by omega, by go_num, CV2, T2.out.drew⟩
      case measure => simp [intOf]; omega
    · have hk0 : k = 16 := by omega
      rw [hk0] at CV
      have hkn : ¬ (k : Int) < 16 := by omega
      clear hlt
      go_wp2_with fail
      clear hk hkn hk0
      go_loopw [6] (fun i wr => ∃ k : Nat, 16 ≤ k ∧ k ≤ 64 ∧ i = .int .i64 k ∧ Hid (Uv .u32 wr g 37 64 (sofar f k)) ∧ Hid (Tch (fun k => k = g) W0 wr)) (fun i _ => 64 - (intOf i).toNat)
      case atStart => exact ⟨16, Nat.le_refl _, by decide, rfl, CV, T⟩
      case round =>
        clear CV T
        obtain ⟨k, hk16, hk, rfl, CV, T⟩ := hrel
        by_cases hlt : k < 64
        · obtain ⟨p, hp⟩ : ∃ p, k = p + 16 := ⟨k - 16, by omega⟩
          have HCX : Hid (∀ j, j < k → wr.cell? ⟨g, j, none⟩ = some (.int .u32 (f j : Int))) := fun j hj => by
            have := CV.out.at_ j (by omega)
            rw [show sofar f k j = f j by unfold sofar; rw [if_pos hj]] at this
            exact this
          have HW : Hid (f k = (f p + g0 (f (p + 1)) + f (p + 9) + g1 (f (p + 14))) % 4294967296) := by show _ = _; rw [hp, ← hf.out, wF_hi]
          obtain ⟨q1, hq1⟩ : ∃ q, p + 1 = q := ⟨_, rfl⟩
          obtain ⟨q9, hq9⟩ : ∃ q, p + 9 = q := ⟨_, rfl⟩
          obtain ⟨q14, hq14⟩ : ∃ q, p + 14 = q := ⟨_, rfl⟩
          rw [hq1, hq9, hq14] at HW
          have cp := HCX.out p (by omega)
          have c1 := HCX.out q1 (by omega)
          have c9 := HCX.out q9 (by omega)
          have c14 := HCX.out q14 (by omega)
          have lpS := HFL.out p
          have l9 := HFL.out q9
          have hx := HFL.out q1
          have hy := HFL.out q14
          obtain ⟨V, hV⟩ : ∃ V, f k = V := ⟨_, rfl⟩
          obtain ⟨P0, hP0⟩ : ∃ V, f p = V := ⟨_, rfl⟩
          obtain ⟨P9, hP9⟩ : ∃ V, f q9 = V := ⟨_, rfl⟩
          obtain ⟨x, hxe⟩ : ∃ V, f q1 = V := ⟨_, rfl⟩
          obtain ⟨y, hye⟩ : ∃ V, f q14 = V := ⟨_, rfl⟩
          rw [hP0] at cp lpS HW
          rw [hP9] at c9 l9 HW
          rw [hxe] at c1 hx HW
          rw [hye] at c14 hy HW
          have CV2 : Hid (Uv .u32 (wr.setCell ⟨g, k, none⟩ (.int .u32 (V : Int))) g 37 64 (sofar f (k + 1))) := by
            rw [← hV]
            exact (CV.out.set k (by omega) (f k)).congr (fun i _ => sofar_step f k i)
          have T2 : Hid (Tch (fun k => k = g) W0 (wr.setCell ⟨g, k, none⟩ (.int .u32 (V : Int)))) := Tch.setCell T.out (p := ⟨g, k, none⟩) (fun _ => rfl) _
          rw [hV] at HW
          have cw := CV.out.at_ k (by omega)
          have fw := CV.out.fz k
          have t7 : ∀ W, Calls Try.prog 35 #[.int .u32 x, .int .i64 7] W fun e w' => e = .returned (.int .u32 (rot 7 x : Int)) ∧ w' = W := fun W => turn_any x 7 W (by decide) (by decide) hx
          have t18 : ∀ W, Calls Try.prog 35 #[.int .u32 x, .int .i64 18] W fun e w' => e = .returned (.int .u32 (rot 18 x : Int)) ∧ w' = W := fun W => turn_any x 18 W (by decide) (by decide) hx
          have t17 : ∀ W, Calls Try.prog 35 #[.int .u32 y, .int .i64 17] W fun e w' => e = .returned (.int .u32 (rot 17 y : Int)) ∧ w' = W := fun W => turn_any y 17 W (by decide) (by decide) hy
          have t19 : ∀ W, Calls Try.prog 35 #[.int .u32 y, .int .i64 19] W fun e w' => e = .returned (.int .u32 (rot 19 y : Int)) ∧ w' = W := fun W => turn_any y 19 W (by decide) (by decide) hy
          have r7 := rot_lt 7 x (by decide) (by decide) hx
          have r18 := rot_lt 18 x (by decide) (by decide) hx
          have r17 := rot_lt 17 y (by decide) (by decide) hy
          have r19 := rot_lt 19 y (by decide) (by decide) hy
          have x1 := u32_xor_nat _ _ r7 r18
          have x2 : Go.bits .xor .u32 ((rot 7 x ^^^ rot 18 x : Nat) : Int) ((x : Int) / 8) = (g0 x : Int) := by
            rw [show (x : Int) / 8 = ((x / 8 : Nat) : Int) by omega]
            exact u32_xor_nat _ _ (xor_lt r7 r18) (by omega)
          have x3 := u32_xor_nat _ _ r17 r19
          have x4 : Go.bits .xor .u32 ((rot 17 y ^^^ rot 19 y : Nat) : Int) ((y : Int) / 1024) = (g1 y : Int) := by
            rw [show (y : Int) / 1024 = ((y / 1024 : Nat) : Int) by omega]
            exact u32_xor_nat _ _ (xor_lt r17 r19) (by omega)
          have lg0 := g0_lt hx
          have lg1 := g1_lt hy
          generalize g0 x = G0 at *
          generalize g1 y = G1 at *
          generalize rot 7 x = R7 at *
          generalize rot 18 x = R18 at *
          generalize rot 17 y = R17 at *
          generalize rot 19 y = R19 at *
          generalize R7 ^^^ R18 = X7 at *
          generalize R17 ^^^ R19 = X17 at *
          obtain ⟨Y1, hY1⟩ : ∃ Y, (P0 + G0) % 4294967296 = Y := ⟨_, rfl⟩
          obtain ⟨Y2, hY2⟩ : ∃ Y, (Y1 + P9) % 4294967296 = Y := ⟨_, rfl⟩
          have y1 : ((P0 : Int) + (G0 : Int)) % 4294967296 = (Y1 : Int) := by omega
          have y2 : ((Y1 : Int) + (P9 : Int)) % 4294967296 = (Y2 : Int) := by omega
          have y3 : ((Y2 : Int) + (G1 : Int)) % 4294967296 = (V : Int) := by have := HW.out; omega
          have i16 : (k : Int) - 16 = (p : Int) := by omega
          have i15 : (k : Int) - 15 = (q1 : Int) := by omega
          have i7 : (k : Int) - 7 = (q9 : Int) := by omega
          have i2 : (k : Int) - 2 = (q14 : Int) := by omega
          have hp1 : (p : Int) < 64 := by omega
          have hp2 : (q1 : Int) < 64 := by omega
          have hp3 : (q9 : Int) < 64 := by omega
          have hp4 : (q14 : Int) < 64 := by omega
          have hk1 : (k : Int) < 64 := by omega
          have wp1 : IntKind.i64.wrap (p : Int) = (p : Int) := by rw [IntKind.wrap_i64]; omega
          have wp9 : IntKind.i64.wrap (q9 : Int) = (q9 : Int) := by rw [IntKind.wrap_i64]; omega
          have wy1 : IntKind.u32.wrap ((P0 : Int) + (G0 : Int)) = (Y1 : Int) := by rw [IntKind.wrap_u32']; exact y1
          have wy2 : IntKind.u32.wrap ((Y1 : Int) + (P9 : Int)) = (Y2 : Int) := by rw [IntKind.wrap_u32']; exact y2
          have wy3 : IntKind.u32.wrap ((Y2 : Int) + (G1 : Int)) = (V : Int) := by rw [IntKind.wrap_u32']; exact y3
          clear HCX HW CV T hY1 hY2 hP0 hP9 hxe hye hV lg0 lg1 hp hq1 hq9 hq14
          go_wp2_with fail
          go_quiet (fail)
          go_wp2_with fail
          obtain ⟨W1, hW1⟩ : ∃ W1, Hid (wr.drewN nq = W1) := ⟨_, rfl⟩
          have dp : W1.cell? ⟨g, p, none⟩ = some (.int .u32 (P0 : Int)) := by rw [← hW1.out]; exact cp
          have d9 : W1.cell? ⟨g, q9, none⟩ = some (.int .u32 (P9 : Int)) := by rw [← hW1.out]; exact c9
          have dw : W1.cell? ⟨g, k, none⟩ = some (.int .u32 (sofar f k k : Int)) := by rw [← hW1.out]; exact cw
          have df : W1.frozen? ⟨g, k, none⟩ = false := by rw [← hW1.out]; exact fw
          have CV3 : Hid (Uv .u32 (W1.setCell ⟨g, k, none⟩ (.int .u32 (V : Int))) g 37 64 (sofar f (k + 1))) := by rw [← hW1.out]; exact CV2
          have T3 : Hid (Tch (fun k => k = g) W0 (W1.setCell ⟨g, k, none⟩ (.int .u32 (V : Int)))) := by rw [← hW1.out]; exact ⟨T2.out.os, T2.out.tape, T2.out.output, T2.out.size, T2.out.block⟩
          rw [hW1.out]
          clear cp c1 c9 c14 cw fw CV2 T2 hW1
          refine wp_region_still_tail 29 (by kernel_rfl) (by kernel_rfl) ?_
          simp only [List.take_succ_cons, List.take_zero, List.drop_succ_cons, List.drop_zero]
          repeat (first | still_step | still_call (t7 _) | still_call (t18 _) | still_call (t17 _) | still_call (t19 _))
          refine wpStill_nil ?_
          go_wp2_with fail
          go_roundw
          case rel => exact ⟨k + 1, by omega, by omega, by go_num, CV3, T3.out.drew⟩
          case measure => simp [intOf]; omega
        · obtain rfl : k = 64 := by omega
          have RR : Hid (wr.there w.heap.size 0 64) := (R0.out.tch T.out (fun e => by omega)).there
          have HRG : Hid (wr.rangeAt g 0 F) := by
            rw [← hF.out]
            exact (CV.out.congr (d := f) (fun i hi => by unfold sofar; rw [if_pos hi])).range
          have HPL : Hid (F.length = 64) := by show _ = _; rw [← hF.out, ucs_length]
          have HSZ : Hid (F.toArray.size = 64) := by show _ = _; rw [List.size_toArray]; exact HPL.out
          have HON : Hid (F.toArray.all (·.oneCell') = true) := by show _ = _; rw [← hF.out]; exact ucs_one _ _ _
          go_wp2_with (first | (refine wpList_load_mid rfl 37 (.tmp 3) rfl g 0 rfl F _ HRG.out Try.underlying37 rfl (by rw [HPL.out]; exact HI64.out) ?_) | (refine wpList_store_mid rfl 37 (.tmp 2) (.tmp 85) rfl w.heap.size 0 F.toArray rfl rfl (by rw [HSZ.out]; exact RR.out) (by rw [HSZ.out]; exact HI64.out) HON.out ?_))
          have hld := run_loadVar_mid (P := Try.prog) (wr.setCells w.heap.size 0 F.toArray.toList) w.heap.size 0 37 F _ (by
            have := World.rangeAt_setCells_same wr w.heap.size 0 F.toArray.toList (by rw [Array.length_toList, HSZ.out]; exact RR.out)
            simpa using this) Try.underlying37 rfl (by rw [HPL.out]; exact HI64.out)
          refine bodyPost_ret (v := .agg F.toArray) ?_ rfl ⟨rfl, ?_⟩
          · exact results_atS (p := 2) (ty := 37) rfl _ _ _ w.heap.size _ rfl hld
          · have h1 := B0.out.trans (T.out.below B0.out.size (fun k e => by rw [e, ← hg]; omega))
            exact h1.trans ((setCells_tchS w.heap.size _ 0 wr).below h1.size (fun k e => by rw [e]; exact Nat.le_refl _))
end Go.Proofs.Ytfdnlkhipjjnbaa
