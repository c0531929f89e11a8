/-
  The gears of the bytes that stand somewhere.
-/
import Derived.Test.YtfdnlkhipjjnbaaCGear
namespace Go.Proofs.Ytfdnlkhipjjnbaa
open Go.RowKit Pl
set_option linter.unusedVariables false

/-- Cells of truths. -/
def bcs (n : Nat) (c : Nat → Bool) : List Value := (List.range n).map fun i => .bool (c i)
theorem bcs_length (n : Nat) (c : Nat → Bool) : (bcs n c).length = n := by simp [bcs]
theorem bcs_size (n : Nat) (c : Nat → Bool) : (bcs n c).toArray.size = n := by simp [bcs]
theorem bcs_one (n : Nat) (c : Nat → Bool) : (bcs n c).toArray.all (·.oneCell') = true := by
  refine all_oneCell_toArray (fun v hv => ?_)
  simp only [bcs, List.mem_map] at hv
  obtain ⟨i, _, rfl⟩ := hv
  rfl
theorem bcs_get (n : Nat) (c : Nat → Bool) (i : Nat) (h : i < n) : (bcs n c)[i]? = some (.bool (c i)) := by simp [bcs, h]
theorem bcs_congr {n : Nat} {c d : Nat → Bool} (h : ∀ i, i < n → c i = d i) : bcs n c = bcs n d := by
  unfold bcs
  refine List.map_congr_left fun i hi => ?_
  rw [h i (by simpa using hi)]
theorem bcs_set (n : Nat) (c d : Nat → Bool) (i : Nat) (v : Bool) (h : i < n) (hd : ∀ j, d j = if j = i then v else c j) : (bcs n c).set i (.bool v) = bcs n d := by
  apply List.ext_getElem?
  intro j
  rw [List.getElem?_set]
  by_cases e : i = j
  · subst e
    rw [if_pos rfl, if_pos (by rw [bcs_length]; exact h), bcs_get _ _ _ h, hd]
    simp
  · rw [if_neg e]
    by_cases hj : j < n
    · rw [bcs_get _ _ _ hj, bcs_get _ _ _ hj, hd, if_neg (fun h => e h.symm)]
    · rw [List.getElem?_eq_none (by rw [bcs_length]; omega), List.getElem?_eq_none (by rw [bcs_length]; omega)]
/-- A variable of n truths at block g. -/
def Bv (w : World) (g : Nat) (t : TypeId) (n : Nat) (c : Nat → Bool) : Prop := w.heap[g]? = some (.cells (bcs n c).toArray t (0, 0))
section
variable {w : World} {g : Nat} {t : TypeId} {n : Nat} {c : Nat → Bool}
theorem Bv.at_ (h : Bv w g t n c) (i : Nat) (hi : i < n) : w.cell? ⟨g, i, none⟩ = some (.bool (c i)) := by
  rw [cell_of_row w g i _ _ (0, 0) h]
  simp [bcs, hi]
theorem Bv.fz (h : Bv w g t n c) (i : Nat) : w.frozen? ⟨g, i, none⟩ = false := frozen_of_row w g i _ _ h
theorem Bv.lt (h : Bv w g t n c) : g < w.heap.size := (Array.getElem?_eq_some_iff.1 h).1
theorem Bv.tch {S : Nat → Prop} {w' : World} (h : Bv w g t n c) (ht : Tch S w w') (hg : ¬ S g) : Bv w' g t n c := by
  unfold Bv; rw [ht.block g h.lt hg]; exact h
theorem Bv.set {d : Nat → Bool} (h : Bv w g t n c) (i : Nat) (hi : i < n) (v : Bool) (hd : ∀ j, d j = if j = i then v else c j) : Bv (w.setCell ⟨g, i, none⟩ (.bool v)) g t n d := by
  unfold Bv
  have h1 := heap_setCell_same w g i _ _ (.bool v) h
  rw [h1, ← bcs_set n c d i v hi hd]
  simp
theorem Bv.range (h : Bv w g t n c) : w.rangeAt g 0 (bcs n c) := fun j v hv => by
  rw [Nat.zero_add, cell_of_row w g j _ _ (0, 0) h]
  simpa using hv
theorem bv_new (w : World) (t : TypeId) (n : Nat) (c : Nat → Bool) : Bv (w.alloc (.cells (bcs n c).toArray t)) w.heap.size t n c := heap_alloc_new w _
end

theorem info_256 : (Try.prog.info? 46).map (fun i => (i.zero, i.size)) = some (some (.agg (ucs .u32 256 (fun _ => 0)).toArray), 256) := by kernel_rfl
theorem info_256b : (Try.prog.info? 57).map (fun i => (i.zero, i.size)) = some (some (.agg (bcs 256 (fun _ => false)).toArray), 256) := by kernel_rfl

/-- A byte stands among the first k. -/
def stn (xs : List Int) (k i : Nat) : Bool := (List.range k).any fun j => bN xs j == i
theorem stn_step (xs : List Int) (k i : Nat) : stn xs (k + 1) i = if i = bN xs k then true else stn xs k i := by
  unfold stn
  rw [List.range_succ, List.any_append]
  simp only [List.any_cons, List.any_nil, Bool.or_false]
  by_cases e : i = bN xs k
  · rw [if_pos e, e]; simp
  · rw [if_neg e]
    have : (bN xs k == i) = false := by simp; exact fun h => e h.symm
    rw [this, Bool.or_false]
theorem stn_has (xs : List Int) (k j : Nat) (h : j < k) : stn xs k (bN xs j) = true := by
  unfold stn
  rw [List.any_eq_true]
  exact ⟨j, by simpa using h, by simp⟩
/-- The gears of the bytes that stand there. -/
def gs (xs : List Int) (i : Nat) : Nat := if stn xs xs.length i then gr i else 0
theorem gs_lt (xs : List Int) (i : Nat) : gs xs i < 4294967296 := by
  unfold gs; split
  · exact gr_lt i
  · decide
theorem gs_at (xs : List Int) (j : Nat) (h : j < xs.length) : gs xs (bN xs j) = gr (bN xs j) := by unfold gs; rw [stn_has xs _ j h]; rfl

theorem run_index256 (w : World) (C : Array Value) (n : Nat) (v : Value) (hn : n < 256) (hv : C[n]? = some v) : (Instr.index 57 (.agg C) (.int .i64 (n : Int))).run Try.prog w = .ok v w := by
  have hu : Try.prog.underlying 57 = some (.array 256 4) := Try.underlying57
  have hs : (Try.prog.info? 4).map (·.size) = some 1 := by kernel_rfl
  obtain ⟨i, hi, hsz⟩ := Option.map_eq_some_iff.1 hs
  have hsi : (sizeOf 4).run Try.prog w = .ok 1 w := by simp [sizeOf, typeInfo, hi, hsz]
  have hag : (isAgg 4).run Try.prog w = .ok false w := by
    unfold isAgg
    rw [Sem.run_bind, run_underlying Try.underlying4 w]
    rfl
  have hc : (0 : Int) ≤ (n : Int) ∧ (n : Int) < ((256 : Nat) : Int) := ⟨by omega, by omega⟩
  simp only [Instr.index, asIntOf, Sem.run_bind, Sem.run_pure, Result.andThen_ok, run_underlying hu w, if_pos hc, hsi, part, hag, Int.toNat_natCast, Nat.mul_one, hv]
  rfl
theorem wpList_index256 (w : World) {ops : Array Oper} {rest : List Oper} {o : Oper} {a : Act} {Q : Exit → Act → World → Prop} (hgd : o.guard = none) (x i : Operand)
    (ho : o.op = .index 57 x i) (C : Array Value) (n : Nat) (v : Value) (hx : a.eval x = .agg C) (hi : a.eval i = .int .i64 (n : Int)) (hn : n < 256) (hv : C[n]? = some v)
    (h : wpList Try.prog ops Q rest (a.put o.dst v) w) : wpList Try.prog ops Q (o :: rest) a w := by
  refine wpList_plain hgd fun K hK => ?_
  have hrun := run_index256 w C n v hn hv
  unfold Oper.wp execOp
  simp only [ho, hx, hi, Sem.run_bind, hrun, Result.andThen_ok, Sem.run_pure]
  exact hK _ _ h

theorem sofar_skip (f : Nat → Nat) (k i : Nat) (h : f k = 0) : sofar f k i = sofar f (k + 1) i := by
  unfold sofar
  by_cases e : i = k
  · subst e; rw [if_neg (by omega), if_pos (by omega), h]
  · by_cases c : i < k
    · rw [if_pos c, if_pos (by omega)]
    · rw [if_neg c, if_neg (by omega)]

set_option maxRecDepth 100000 in
set_option maxHeartbeats 4000000 in
theorem gearsOf_any (v : Value) (xs : List Int) (w : World) (hr : Rd .u8 w v xs) (hb : By xs) :
    Calls Try.prog 26 #[v] w fun e w' => e = .returned (.agg (ucs .u32 256 (gs xs)).toArray) ∧ Below w.heap.size w w' := by
  obtain ⟨a, cap, hv, hlc, hcm, _, hcc⟩ := id hr
  subst hv
  have HR : Hid (Rd .u8 w (.slice a xs.length cap) xs) := hr
  have HC : Hid (xs = [] ∨ ∃ b o, a = some ⟨b, o, none⟩ ∧ ∀ i, i < xs.length → w.cell? ⟨b, o + i, none⟩ = some (.int .u8 (xs.getD i 0))) := hcc
  have HB : Hid (By xs) := hb
  have hm : xs.length ≤ 9223372036854775807 := by unfold maxLen at hcm; omega
  clear hr hb hcc hcm
  obtain ⟨hvG, hiG⟩ := zero_of_info info_256
  have HIG : Hid ((Try.prog.info? 46).map (·.size) = some 256) := hiG
  obtain ⟨hvB, hiB⟩ := zero_of_info info_256b
  have HIB : Hid ((Try.prog.info? 57).map (·.size) = some 256) := hiB
  clear hiG hiB
  obtain ⟨f, hf⟩ : ∃ f, Hid (gs xs = f) := ⟨_, rfl⟩
  have HFG : Hid (∀ i, f i = if stn xs xs.length i then gr i else 0) := fun i => by rw [← hf.out]; rfl
  rw [hf.out]
  obtain ⟨Z, hZ⟩ : ∃ Z, Hid ((ucs .u32 256 (fun _ => 0)).toArray = Z) := ⟨_, rfl⟩
  rw [hZ.out] at hvG
  obtain ⟨ZB, hZB⟩ : ∃ Z, Hid ((bcs 256 (fun _ => false)).toArray = Z) := ⟨_, rfl⟩
  rw [hZB.out] at hvB
  obtain ⟨F, hF⟩ : ∃ F, Hid (ucs .u32 256 f = F) := ⟨_, rfl⟩
  rw [hF.out]
  go_enter Try.func26, Try.ntmps26
  go_wp2_with fail
  obtain ⟨g, hg⟩ : ∃ g, w.heap.size + 1 = g := ⟨_, rfl⟩
  obtain ⟨W0, hW0⟩ : ∃ W0, Hid ((w.alloc (.cells Z 46)).alloc (.cells ZB 57) = W0) := ⟨_, rfl⟩
  have C0 : Hid (Bv W0 g 57 256 (stn xs 0)) := by
    have h0 := bv_new (w.alloc (.cells Z 46)) 57 256 (fun _ => false)
    rw [hZB.out, hW0.out, World.size_alloc, hg] at h0
    exact h0
  have B0 : Hid (Below w.heap.size w W0) := by rw [← hW0.out]; exact ((Below.refl _ _).alloc (Nat.le_refl _) _).alloc (by simp) _
  have R0 : Hid (Uv .u32 W0 w.heap.size 46 256 (fun _ => 0)) := by
    have h0 := uv_new .u32 w 46 256 (fun _ => 0)
    rw [hZ.out] at h0
    rw [← hW0.out]
    exact h0.tch (S := fun _ => False) ((Tch.refl _ _).alloc _) (fun e => e)
  rw [hW0.out]
  clear hW0
  rw [hg]
  go_loopw [11] (fun i wr => ∃ k : Nat, k ≤ xs.length ∧ i = .int .i64 k ∧ Hid (Bv wr g 57 256 (stn xs k)) ∧ Hid (Tch (fun b => b = g) W0 wr)) (fun i _ => xs.length - (intOf i).toNat)
  case atStart => exact ⟨0, Nat.zero_le _, rfl, C0, Tch.refl _ _⟩
  case round =>
    clear C0
    obtain ⟨k, hk, rfl, CV, T⟩ := hrel
    by_cases hlt : k < xs.length
    · obtain ⟨ab, ao, ha, hc⟩ : ∃ b o, a = some ⟨b, o, none⟩ ∧ ∀ i, i < xs.length → w.cell? ⟨b, o + i, none⟩ = some (.int .u8 (xs.getD i 0)) := by
        rcases HC.out with rfl | h
        · simp at hlt
        · exact h
      subst ha
      have cx : wr.cell? ⟨ab, ao + k, none⟩ = some (.int .u8 (bN xs k : Int)) := by
        have h0 := hc k hlt
        have hl0 := World.block_lt_of_cell? w ⟨ab, ao + k, none⟩ h0
        rw [T.out.cell (p := ⟨ab, ao + k, none⟩) (by have := B0.out.size; simp only at hl0 ⊢; omega) (fun e => by simp only at hl0 e; omega), B0.out.cell (p := ⟨ab, ao + k, none⟩) hl0, h0, bN_eq HB.out]
      have hb1 := bN_lt HB.out k
      have C2 : Hid (Bv (wr.setCell ⟨g, bN xs k, none⟩ (.bool true)) g 57 256 (stn xs (k + 1))) := CV.out.set (bN xs k) hb1 true (fun j => stn_step xs k j)
      have T2 : Hid (Tch (fun b => b = g) W0 (wr.setCell ⟨g, bN xs k, none⟩ (.bool true))) := Tch.setCell T.out (p := ⟨g, bN xs k, none⟩) (fun _ => rfl) _
      have cv := CV.out.at_ (bN xs k) hb1
      have fv := CV.out.fz (bN xs k)
      generalize stn xs k (bN xs k) = zz at cv
      generalize bN xs k = b at *
      have hb2 : (b : Int) < 256 := by omega
      clear hc CV T
      go_wp2_with fail
      go_roundw
      case rel => exact ⟨k + 1, by omega, by go_num, C2, T2⟩
      case measure => simp [intOf]; omega
    · have hk0 : k = xs.length := by omega
      rw [hk0] at CV
      have hkn : ¬ (k : Int) < (xs.length : Int) := by omega
      obtain ⟨FB, hFB⟩ : ∃ F, Hid (bcs 256 (stn xs xs.length) = F) := ⟨_, rfl⟩
      have HPB : Hid (FB.length = 256) := by show _ = _; rw [← hFB.out, bcs_length]
      have HFB : Hid (∀ i, i < 256 → FB.toArray[i]? = some (.bool (stn xs xs.length i))) := fun i hi => by rw [← hFB.out, List.getElem?_toArray]; exact bcs_get _ _ _ hi
      obtain ⟨W1, hW1⟩ : ∃ W1, Hid (wr.alloc (.cells Z 46) = W1) := ⟨_, rfl⟩
      have b1 : Below wr.heap.size wr W1 := by rw [← hW1.out]; exact (Below.refl _ _).alloc (Nat.le_refl _) _
      have HRB : Hid (W1.rangeAt g 0 FB) := by rw [← hFB.out]; exact (CV.out.tch (S := fun _ => False) (Tch.of_below b1) (fun e => e)).range
      obtain ⟨og, hog⟩ : ∃ og, wr.heap.size = og := ⟨_, rfl⟩
      have D0 : Hid (Uv .u32 W1 og 46 256 (sofar f 0)) := by
        have h0 := uv_new .u32 wr 46 256 (fun _ => 0)
        rw [hZ.out, hW1.out, hog] at h0
        exact h0.congr (d := sofar f 0) (fun i _ => by simp [sofar])
      have B2 : Hid (Below w.heap.size w wr) := B0.out.trans (T.out.below B0.out.size (fun k e => by rw [e, ← hg]; omega))
      have B1 : Hid (Below w.heap.size w W1) := B2.out.trans (b1.mono B2.out.size)
      have r0 : Uv .u32 wr w.heap.size 46 256 (fun _ => 0) := R0.out.tch T.out (fun e => by omega)
      have R1 : Hid (Uv .u32 W1 w.heap.size 46 256 (fun _ => 0)) := r0.below b1
      have HWO : Hid (w.heap.size ≠ og ∧ w.heap.size ≤ og) := by have := r0.lt; exact ⟨by omega, by omega⟩
      have HWS : Hid (W1.heap.size = og + 1) := by show _ = _; rw [← hW1.out, World.size_alloc, hog]
      have HRB2 : Hid ((wr.alloc (.cells Z 46)).rangeAt g 0 FB) := by rw [hW1.out]; exact HRB
      clear hlt b1 CV T R0 B0 hk hk0 r0 HRB
      go_wp2_with (first | (refine wpList_load_mid rfl 57 (.tmp 3) rfl g 0 rfl FB _ HRB2.out Try.underlying57 rfl (by rw [HPB.out]; exact HIB.out) ?_))
      rw [hW1.out]
      clear hvG hvB hW1 hog HRB2
      go_loopw [19] (fun i wr => ∃ k : Nat, k ≤ 256 ∧ i = .int .i64 k ∧ Hid (Uv .u32 wr og 46 256 (sofar f k)) ∧ Hid (Tch (fun b => b = og) W1 wr)) (fun i _ => 256 - (intOf i).toNat)
      case atStart => exact ⟨0, Nat.zero_le _, rfl, D0, Tch.refl _ _⟩
      case round =>
        clear D0 hkn
        obtain ⟨k, hk, rfl, CV, T⟩ := hrel
        by_cases hlt : k < 256
        · have hi1 : (k : Int) < 256 := by omega
          have HX := HFB.out k hlt
          by_cases hst : stn xs xs.length k = true
          · have hfk : f k = gr k := by rw [HFG.out k, hst]; rfl
            rw [hst] at HX
            have HXX : Hid (FB.toArray[k]? = some (.bool true)) := HX
            have HGR : Hid (∀ W, Calls Try.prog 28 #[.int .u8 (k : Int)] W fun e w' => e = .returned (.int .u32 (f k : Int)) ∧ Below W.heap.size W w') := fun W => by rw [hfk]; exact gear_any k W hlt
            have hw1 : IntKind.u8.wrap (k : Int) = (k : Int) := by rw [IntKind.wrap_u8']; omega
            have hw2 : (k : Int) % 256 = (k : Int) := by omega
            have HSS : Hid (∀ i, updN (sofar f k) k (f k) i = sofar f (k + 1) i) := fun i => sofar_step f k i
            clear HX hst hfk
            go_wp2_with (refine wpList_index256 _ rfl (.tmp 18) (.tmp 19) rfl _ k (.bool true) rfl rfl hlt HXX.out ?_)
            refine (HGR.out _).mono ?_
            rintro e w2 ⟨rfl, hb2⟩
            have C2 := CV.out.below hb2
            have C3 : Hid (Uv .u32 (w2.setCell ⟨og, k, none⟩ (.int .u32 (f k : Int))) og 46 256 (sofar f (k + 1))) := (C2.set k hlt (f k)).congr (fun i _ => HSS.out i)
            have T3 : Hid (Tch (fun b => b = og) W1 (w2.setCell ⟨og, k, none⟩ (.int .u32 (f k : Int)))) := Tch.setCell (T.out.trans (Tch.of_below (S := fun b => b = og) hb2) (fun _ _ e => e)) (p := ⟨og, k, none⟩) (fun _ => rfl) _
            have cv := C2.at_ k hlt
            have fv := C2.fz k
            generalize sofar f k k = zz at cv
            generalize f k = V at *
            clear C2 hb2 CV T HGR HXX HSS
            go_wp2_with fail
            go_roundw
            case rel => exact ⟨k + 1, by omega, by go_num, C3, T3⟩
            case measure => simp [intOf]; omega
          · have hst2 : stn xs xs.length k = false := by simpa using hst
            have hfk : f k = 0 := by rw [HFG.out k, hst2]; rfl
            rw [hst2] at HX
            have HXX : Hid (FB.toArray[k]? = some (.bool false)) := HX
            have C3 : Hid (Uv .u32 wr og 46 256 (sofar f (k + 1))) := CV.out.congr (fun i _ => sofar_skip f k i hfk)
            clear HX hst hst2 hfk CV
            go_wp2_with (refine wpList_index256 _ rfl (.tmp 18) (.tmp 19) rfl _ k (.bool false) rfl rfl hlt HXX.out ?_)
            go_roundw
            case rel => exact ⟨k + 1, by omega, by go_num, C3, T⟩
            case measure => simp [intOf]; omega
        · have hk0 : k = 256 := by omega
          rw [hk0] at CV
          have hkn : ¬ (k : Int) < 256 := by omega
          have RR : Hid (wr.there w.heap.size 0 256) := (R1.out.tch T.out (fun e => HWO.out.1 e)).there
          have HRG : Hid (wr.rangeAt og 0 F) := by
            rw [← hF.out]
            exact (CV.out.congr (d := f) (fun i hi => by unfold sofar; rw [if_pos hi])).range
          have HPL : Hid (F.length = 256) := by show _ = _; rw [← hF.out, ucs_length]
          have HSZ2 : Hid (F.toArray.size = 256) := by show _ = _; rw [List.size_toArray]; exact HPL.out
          have HON : Hid (F.toArray.all (·.oneCell') = true) := by show _ = _; rw [← hF.out]; exact ucs_one _ _ _
          clear hlt hk0
          go_wp2_with (first | (refine wpList_load_mid rfl 46 (.tmp 6) rfl og 0 rfl F _ HRG.out Try.underlying46 rfl (by rw [HPL.out]; exact HIG.out) ?_) | (refine wpList_store_mid rfl 46 (.tmp 2) (.tmp 30) rfl w.heap.size 0 F.toArray rfl rfl (by rw [HSZ2.out]; exact RR.out) (by rw [HSZ2.out]; exact HIG.out) HON.out ?_))
          have hld := run_loadVar_mid (P := Try.prog) (wr.setCells w.heap.size 0 F.toArray.toList) w.heap.size 0 46 F _ (by
            have := World.rangeAt_setCells_same wr w.heap.size 0 F.toArray.toList (by rw [Array.length_toList, HSZ2.out]; exact RR.out)
            simpa using this) Try.underlying46 rfl (by rw [HPL.out]; exact HIG.out)
          refine bodyPost_ret (v := .agg F.toArray) ?_ rfl ⟨rfl, ?_⟩
          · exact results_atS (p := 2) (ty := 46) rfl _ _ _ w.heap.size _ rfl hld
          · have h1 := B1.out.trans (T.out.below B1.out.size (fun k e => by rw [e]; exact HWO.out.2))
            exact h1.trans ((setCells_tchS w.heap.size _ 0 wr).below h1.size (fun k e => by rw [e]; exact Nat.le_refl _))
end Go.Proofs.Ytfdnlkhipjjnbaa
