import Derived.Test.YtgpaklifjonlkaaKP09
import Derived.Test.YtgpaklifjonlkaaKP15
import Derived.Test.YtgpaklifjonlkaaKP27
import Derived.Test.YtgpaklifjonlkaaKP03
/-
  The document's Get.
-/
namespace Go.Proofs.Ytgpaklifjonlkaa
open Go.RowKit Pl
set_option linter.unusedVariables false
set_option linter.unusedSimpArgs false
set_option maxRecDepth 100000

/-- 'append(v, u...)', as one step. -/
theorem step_many {o : Oper} {a : Act} {w : World} {K : Act → World → Prop} {Q : Exit → Act → World → Prop} {s x : Operand} {v u : Value} {xs ys : List Int}
    (ho : o.op = .call { callee := .builtin .append, args := #[s, x], argTypes := #[38, 38] })
    (hs : a.eval s = v) (hown : Owns .u8 5 w v xs) (hx : a.eval x = u) (hu : Rd .u8 w u ys)
    (h63 : xs.length + ys.length ≤ 9223372036854775807) (hbytes : (xs.length + ys.length) * 1 ≤ 140737488355328)
    (h : ∀ v' w', Owns .u8 5 w' v' (xs ++ ys) → Grew w w' v v' → K (a.put o.dst v') w') : Oper.wp Try.prog o a w K Q := by
  obtain ⟨ht, i, hi, hz, h1, hb⟩ := elem8
  obtain ⟨v', w', hr, h2, h3, h4⟩ := run_app (P := Try.prog) w 38 o.type 5 i (.int .u8 0) 1 ht hi hz h1 hb rfl v (xs.map (Value.int .u8)) (by unfold Owns at hown; simpa using hown) u (ys.map (Value.int .u8)) (src_of_rd hu) (by unfold maxLen; simpa using h63) (by simpa using hbytes)
  unfold Oper.wp
  simp [execOp, ho, resolve, invoke, builtin, hs, hx, hr, Result.andThen]
  exact h v' w' (by unfold Owns; simpa using h2) ⟨(Tch.refl _ w).grown h3 (fun _ _ e => e), h4⟩

/-- A slice into one cell, as one step. -/
theorem step_store1B {o : Oper} {a : Act} {w : World} {K : Act → World → Prop} {Q : Exit → Act → World → Prop} {x y : Operand} {p : Addr} {b : Option Addr} {l c : Nat} {u : Value}
    (ho : o.op = .store 38 x y) (hx : a.eval x = .pointer (some p)) (hy : a.eval y = .slice b l c) (hc : w.cell? p = some u) (hf : w.frozen? p = false) (h : K (a.put o.dst undef) (w.setCell p (.slice b l c))) : Oper.wp Try.prog o a w K Q := by
  have hrun : (Instr.storeAt 38 (.pointer (some p)) (.slice b l c)).run Try.prog w = .ok () (w.setCell p (.slice b l c)) := by
    go_simp
  unfold Oper.wp execOp
  simp only [ho, hx, hy, Sem.run_bind, Sem.run_pure, Result.andThen_ok, hrun]
  exact h

theorem smd_iff {xs : List Int} (h : xs.length = 256) : xs = smd xs ↔ ∀ t, t < 4 → xs.getD (252 + t) 0 = ((crc (xs.take 252) / 2 ^ (8 * t) % 256 : Nat) : Int) := by
  have hg : ∀ t, t < 4 → (smd xs).getD (252 + t) 0 = ((crc (xs.take 252) / 2 ^ (8 * t) % 256 : Nat) : Int) := fun t ht => by
    unfold smd
    rw [List.getD_eq_getElem?_getD, List.getElem?_append_right (by rw [List.length_take]; omega), List.length_take, h, show 252 + t - min 252 256 = t by omega, ← List.getD_eq_getElem?_getD]
    exact le4_get _ t ht
  constructor
  · intro e t ht
    rw [← hg t ht, ← e]
  · intro e
    apply List.ext_getElem?
    intro i
    by_cases c : i < 252
    · unfold smd
      rw [List.getElem?_append_left (by rw [List.length_take]; omega), List.getElem?_take, if_pos c]
    · by_cases d : i < 256
      · obtain ⟨t, rfl⟩ : ∃ t, i = 252 + t := ⟨i - 252, by omega⟩
        have e1 := e t (by omega)
        rw [← hg t (by omega), List.getD_eq_getElem?_getD, List.getElem?_eq_getElem (by omega), List.getD_eq_getElem?_getD, List.getElem?_eq_getElem (by rw [smd_len h]; omega)] at e1
        rw [List.getElem?_eq_getElem (by omega), List.getElem?_eq_getElem (by rw [smd_len h]; omega)]
        exact congrArg some e1
      · rw [List.getElem?_eq_none (by omega), List.getElem?_eq_none (by rw [smd_len h]; omega)]

set_option maxHeartbeats 400000 in
/-- Not 256 bytes. -/
theorem refGet_len (n : Int) (v : Value) (xs : List Int) (w : World) (hr : Rd .u8 w v xs) (hl : xs.length ≠ 256) :
    Calls Try.prog 43 #[.int .i64 n, v] w fun e w' => GetR n xs w e w' := by
  obtain ⟨a, cap, rfl, h1, h2, _⟩ := id hr
  have HE : Hid (getE n xs = 1) := by show _ = _; unfold getE; rw [if_pos hl]
  have hl9 : xs.length ≤ 9223372036854775807 := by unfold maxLen at h2; omega
  obtain ⟨W1, hW1⟩ : ∃ W1, w.alloc (.cells #[.int .i64 0, .slice none 0 0] 40) = W1 := ⟨_, rfl⟩
  have b1 : Hid (Below w.heap.size w W1) := by rw [← hW1]; exact (Below.refl _ _).alloc (Nat.le_refl _) _
  have Q1 : Hid (Bkv W1 w.heap.size 0 (.slice none 0 0)) := by rw [← hW1]; exact bkv_new w _ _
  have q0 := Q1.out.c0
  have q1 := Q1.out.c1
  have f0 := Q1.out.fz 0
  have f1 := Q1.out.fz 1
  have HLD := hideP (Q1.out.put 0 (.slice none 0 0)).load
  have HB : Hid (Below w.heap.size w ((W1.setCell ⟨w.heap.size, 0, none⟩ (.int .i64 0)).setCell ⟨w.heap.size, 1, none⟩ (.slice none 0 0))) := (b1.out.setCell (Nat.le_refl _) _).setCell (Nat.le_refl _) _
  have HN : Hid (xs.length ≠ 256) := hl
  have hne : ((xs.length : Int) == 256) = false := by rw [beq_eq_false_iff_ne]; omega
  generalize xs.length = l at *
  clear hl hr h2
  go_enter Try.func43, Try.ntmps43
  go_wp2_with fail
  refine bodyPost_ret (v := .tuple #[blk 0 (.slice none 0 0), .int .i64 1]) (results_cellT (p := 4) (ty := 40) rfl _ _ _ w.heap.size _ _ rfl HLD.out rfl) rfl ?_
  exact getR_bad HE.out (by decide) HB.out

set_option maxHeartbeats 1000000 in
theorem refGet_256 (n : Int) (v : Value) (xs : List Int) (w : World) (hr : Rd .u8 w v xs) (hb : By xs) (hl : xs.length = 256) :
    Calls Try.prog 43 #[.int .i64 n, v] w fun e w' => GetR n xs w e w' := by
  obtain ⟨a, cap, rfl, h1, h2, _, hc0⟩ := id hr
  obtain ⟨ab, ao, rfl, hc⟩ : ∃ b o, a = some ⟨b, o, none⟩ ∧ ∀ i, i < xs.length → w.cell? ⟨b, o + i, none⟩ = some (.int .u8 (xs.getD i 0)) := by
    rcases hc0 with rfl | h
    · simp at hl
    · exact h
  have HC : Hid (∀ i, i < 256 → w.cell? ⟨ab, ao + i, none⟩ = some (.int .u8 (xs.getD i 0))) := fun i hi => hc i (by omega)
  have HY : Hid (By xs) := hb
  have HL : Hid (xs.length = 256) := hl
  have hcap : cap ≤ 9223372036854775807 := by unfold maxLen at h2; omega
  have HR : Hid (Rd .u8 w (.slice (some ⟨ab, ao, none⟩) 256 cap) xs) := by rw [← hl]; exact hr
  have HRT : Hid (∀ W, Below w.heap.size w W → Rd .u8 W (.slice (some ⟨ab, ao, none⟩) 252 cap) (xs.take 252)) := fun W hW => rd_take 252 (by omega) h1 h2 (fun i hi => by
    rw [hW.cell (p := ⟨ab, ao + i, none⟩) (World.block_lt_of_cell? w ⟨ab, ao + i, none⟩ (hc i hi))]
    exact hc i hi)
  have HCB : Hid (∀ W, Below w.heap.size w W → ∀ i, i < 256 → W.cell? ⟨ab, ao + i, none⟩ = some (.int .u8 (xs.getD i 0))) := fun W hW i hi => by
    rw [hW.cell (p := ⟨ab, ao + i, none⟩) (World.block_lt_of_cell? w ⟨ab, ao + i, none⟩ (hc i (by omega)))]
    exact hc i (by omega)
  rw [hl] at h1 ⊢
  obtain ⟨W1, hW1⟩ : ∃ W1, w.alloc (.cells #[.int .i64 0, .slice none 0 0] 40) = W1 := ⟨_, rfl⟩
  have b1 : Hid (Below w.heap.size w W1) := by rw [← hW1]; exact (Below.refl _ _).alloc (Nat.le_refl _) _
  have Q1 : Hid (Bkv W1 w.heap.size 0 (.slice none 0 0)) := by rw [← hW1]; exact bkv_new w _ _
  have R1 : Hid (Rd .u8 W1 (.slice (some ⟨ab, ao, none⟩) 252 cap) (xs.take 252)) := HRT.out W1 b1.out
  obtain ⟨g, hg⟩ : ∃ g, Hid (w.heap.size = g) := ⟨_, rfl⟩
  clear hr hb hl h2 hc hc0
  go_enter Try.func43, Try.ntmps43
  go_wp2_with fail
  rw [hg.out] at Q1 ⊢
  refine (refCrc_any _ (xs.take 252) W1 R1.out (HY.out.take 252)).mono ?_
  rintro e w2 ⟨rfl, hb2⟩
  obtain ⟨s, hs⟩ : ∃ s, crc (xs.take 252) = s := ⟨_, rfl⟩
  have HSE : Hid (crc (xs.take 252) = s) := hs
  have hs4 : s < 4294967296 := by rw [← hs]; exact crc_ltR (xs.take 252)
  rw [hs]
  have B2 : Hid (Below w.heap.size w w2) := b1.out.trans (hb2.mono b1.out.size)
  have Q2 : Hid (Bkv w2 g 0 (.slice none 0 0)) := Q1.out.below hb2
  clear hs hb2 b1 Q1 R1 hW1
  go_wp2_with fail
  go_loopw [7] (fun i wr => ∃ t : Nat, t ≤ 4 ∧ i = .int .i64 t ∧ Hid (∀ u, u < t → xs.getD (252 + u) 0 = ((s / 2 ^ (8 * u) % 256 : Nat) : Int)) ∧ Hid (Bkv wr g 0 (.slice none 0 0)) ∧ Hid (Below w.heap.size w wr)) (fun i _ => 4 - (intOf i).toNat)
  case atStart => exact ⟨0, Nat.zero_le _, rfl, (fun u hu => by omega), Q2, B2⟩
  case round =>
    clear Q2 B2
    obtain ⟨t, ht, rfl, HU, Q2, B2⟩ := hrel
    by_cases hlt : t < 4
    · obtain ⟨M, hM⟩ : ∃ M, 8 * t = M := ⟨_, rfl⟩
      have hM1 : 8 * (t : Int) = (M : Int) := by omega
      have hM2 : (M : Int) ≤ 24 := by omega
      obtain ⟨Y, hY⟩ : ∃ Y, s / 2 ^ M = Y := ⟨_, rfl⟩
      have hYN : Y ≤ s := by rw [← hY]; exact Nat.div_le_self _ _
      have y1 : (s : Int) / 2 ^ M = (Y : Int) := by rw [← hY, Int.natCast_ediv, Int.natCast_pow]; rfl
      obtain ⟨b, hb⟩ : ∃ b, Y % 256 = b := ⟨_, rfl⟩
      have hb256 : b < 256 := by rw [← hb]; exact Nat.mod_lt _ (by decide)
      have y2 : IntKind.u8.wrap (Y : Int) = (b : Int) := by rw [IntKind.wrap_u8']; omega
      have y3 : (Y : Int) % 256 = (b : Int) := by omega
      have y4 : IntKind.i64.wrap (Y : Int) = (Y : Int) := by rw [IntKind.wrap_i64]; omega
      have HBS : Hid (s / 2 ^ (8 * t) % 256 = b) := by show _ = _; rw [hM, hY, hb]
      obtain ⟨p, hp⟩ : ∃ p, 252 + t = p := ⟨_, rfl⟩
      have hp1 : (252 : Int) + (t : Int) = (p : Int) := by omega
      have hp2 : (p : Int) < 256 := by omega
      have cp := HCB.out wr B2.out p (by omega)
      obtain ⟨X, hX⟩ : ∃ X, Hid (xs.getD p 0 = X) := ⟨_, rfl⟩
      have HPE : Hid (252 + t = p) := hp
      rw [hX.out] at cp
      clear hY hb hM hp
      by_cases he : X = (b : Int)
      · have hd : (X != (b : Int)) = false := by rw [bne_eq_false_iff_eq]; exact he
        have HU2 : Hid (∀ u, u < t + 1 → xs.getD (252 + u) 0 = ((s / 2 ^ (8 * u) % 256 : Nat) : Int)) := fun u hu => by
          by_cases c : u < t
          · exact HU.out u c
          · obtain rfl : u = t := by omega
            rw [HPE.out, hX.out, HBS.out]; exact he
        have HXE : Hid (X = (b : Int)) := he
        clear he
        go_wp2_with fail
        go_quiet (fail)
        have Q3 : Hid (Bkv (wr.drewN nq) g 0 (.slice none 0 0)) := Q2
        have B3 : Hid (Below w.heap.size w (wr.drewN nq)) := B2.out.trans (Below.of_drewN _ _ _)
        go_wp2_with fail
        go_roundw
        case rel => exact ⟨t + 1, by omega, by go_num, HU2, Q3, B3⟩
        case measure => simp [intOf]; omega
      · have hd : (X != (b : Int)) = true := by rw [bne_iff_ne]; exact he
        have HE : Hid (getE n xs = 6) := by
          show _ = _
          unfold getE
          rw [if_neg (by rw [HL.out]; simp), if_pos]
          intro hsm
          have := (smd_iff HL.out).1 hsm t hlt
          rw [HPE.out, hX.out, HSE.out, HBS.out] at this
          exact he this
        clear he
        go_wp2_with fail
        go_quiet (fail)
        obtain ⟨W3, hW3⟩ : ∃ W3, Hid (wr.drewN nq = W3) := ⟨_, rfl⟩
        have Q3 : Hid (Bkv W3 g 0 (.slice none 0 0)) := by rw [← hW3.out]; exact Q2
        have B3 : Hid (Below w.heap.size w W3) := by rw [← hW3.out]; exact B2.out.trans (Below.of_drewN _ _ _)
        rw [hW3.out]
        clear Q2 B2 cp hW3
        have q0 := Q3.out.c0
        have q1 := Q3.out.c1
        have f0 := Q3.out.fz 0
        have f1 := Q3.out.fz 1
        have HLD := hideP (Q3.out.put 0 (.slice none 0 0)).load
        have HBE : Hid (Below w.heap.size w ((W3.setCell ⟨g, 0, none⟩ (.int .i64 0)).setCell ⟨g, 1, none⟩ (.slice none 0 0))) := (B3.out.setCell (by rw [hg.out]; exact Nat.le_refl _) _).setCell (by rw [hg.out]; exact Nat.le_refl _) _
        go_wp2_with fail
        refine bodyPost_ret (v := .tuple #[blk 0 (.slice none 0 0), .int .i64 6]) (results_cellT (p := 4) (ty := 40) rfl _ _ _ g _ _ rfl HLD.out rfl) rfl ?_
        exact getR_bad HE.out (by decide) HBE.out
    · have ht4 : t = 4 := by omega
      have HSM : Hid (xs = smd xs) := by
        refine (smd_iff HL.out).2 (fun u hu => ?_)
        rw [HSE.out]
        exact HU.out u (by omega)
      have hnn : ¬ (t : Int) < 4 := by omega
      obtain ⟨L, hLe⟩ : ∃ L, Hid (bN xs 1 = L) := ⟨_, rfl⟩
      have hL256 : L < 256 := by rw [← hLe.out]; exact bN_lt HY.out 1
      have c1 := HCB.out wr B2.out 1 (by decide)
      rw [bN_eq HY.out, hLe.out] at c1
      clear HU hlt ht4 HSE
      by_cases hc : (240 : Int) < (L : Int)
      · have HE : Hid (getE n xs = 7) := by
          show _ = _
          unfold getE
          rw [if_neg (by rw [HL.out]; simp), if_neg (fun h => h HSM.out), if_neg]
          rintro ⟨hm, _⟩
          have := (mayK_iff.1 hm).2.2.2.2
          rw [bdy_len HL.out, hLe.out] at this
          omega
        have q0 := Q2.out.c0
        have q1 := Q2.out.c1
        have f0 := Q2.out.fz 0
        have f1 := Q2.out.fz 1
        have HLD := hideP (Q2.out.put 0 (.slice none 0 0)).load
        have HBE : Hid (Below w.heap.size w ((wr.setCell ⟨g, 0, none⟩ (.int .i64 0)).setCell ⟨g, 1, none⟩ (.slice none 0 0))) := (B2.out.setCell (by rw [hg.out]; exact Nat.le_refl _) _).setCell (by rw [hg.out]; exact Nat.le_refl _) _
        go_wp2_with fail
        refine bodyPost_ret (v := .tuple #[blk 0 (.slice none 0 0), .int .i64 7]) (results_cellT (p := 4) (ty := 40) rfl _ _ _ g _ _ rfl HLD.out rfl) rfl ?_
        exact getR_bad HE.out (by decide) HBE.out
      · have c0 := HCB.out wr B2.out 0 (by decide)
        obtain ⟨K0, hK⟩ : ∃ K0, Hid (xs.getD 0 0 = K0) := ⟨_, rfl⟩
        have hk0 := HY.out 0
        rw [hK.out] at c0 hk0
        rw [Nat.add_zero] at c0
        have HL240 : Hid (L ≤ 240) := by show _ ≤ _; omega
        obtain ⟨Y, hYY⟩ : ∃ Y, Hid (bdy xs = Y) := ⟨_, rfl⟩
        have HYE : Hid ((xs.drop 8).take L = Y) := by show _ = _; rw [← hYY.out]; unfold bdy; rw [hLe.out, Nat.min_eq_left (by have := HL240.out; omega)]
        have HYL : Hid (Y.length = L) := by show _ = _; rw [← HYE.out, List.length_take, List.length_drop, HL.out]; have := HL240.out; omega
        have HYB : Hid (By Y) := by rw [← hYY.out]; exact bdy_by HY.out
        obtain ⟨W3, hW3⟩ : ∃ W3, wr.alloc (.cells #[.int .i64 K0, .slice none 0 0] 40) = W3 := ⟨_, rfl⟩
        obtain ⟨q, hqs⟩ : ∃ q, wr.heap.size = q := ⟨_, rfl⟩
        have b3 : Below wr.heap.size wr W3 := by rw [← hW3]; exact (Below.refl _ _).alloc (Nat.le_refl _) _
        have V3 : Hid (Bkv W3 q K0 (.slice none 0 0)) := by rw [← hW3, ← hqs]; exact bkv_new wr _ _
        have Q3 : Hid (Bkv W3 g 0 (.slice none 0 0)) := Q2.out.below b3
        have B3 : Hid (Below w.heap.size w W3) := B2.out.trans (b3.mono B2.out.size)
        have HGQ : Hid (g < q) := by rw [← hqs]; exact Q2.out.lt
        have HW3 : Hid (wr.alloc (.cells #[.int .i64 K0, .slice none 0 0] 40) = W3) := hW3
        clear b3 hW3
        have hS : W3.drew.cell? ⟨q, 1, none⟩ = some (.slice none 0 0) := V3.out.c1
        obtain ⟨E, hE⟩ : ∃ E, 8 + L = E := ⟨_, rfl⟩
        have hE1 : (8 : Int) + (L : Int) = (E : Int) := by omega
        have hEw : IntKind.i64.wrap (E : Int) = (E : Int) := by rw [IntKind.wrap_i64]; have := HL240.out; omega
        have HCP : Hid (8 < cap) := by show _ < _; omega
        have HEC : Hid (E ≤ cap) := by show _ ≤ _; have := HL240.out; omega
        have hsl : ∀ W, (Instr.sliceAt 38 (.slice (some ⟨ab, ao, none⟩) 256 cap) (some (.int .i64 8)) (some (.int .i64 (E : Int))) none).run Try.prog W = .ok (.slice (some ⟨ab, ao + 8, none⟩) L (cap - 8)) W := fun W => by
          have h8 := HCP.out
          have h9 := HEC.out
          rw [run_sliceAt_slice _ _ _ _ _ _ under8, run_slice_lh _ _ _ _ _ under8 _ _ _ _ (by omega) (by omega) (by omega), size8]
          have e : ¬ cap = 8 := by omega
          have e2 : E - 8 = L := by omega
          simp [Result.andThen, sliced, e, Addr.add, e2]
        have HRY : Hid (∀ W, Below w.heap.size w W → Rd .u8 W (.slice (some ⟨ab, ao + 8, none⟩) L (cap - 8)) Y) := fun W hW => by
          refine ⟨_, cap - 8, by rw [HYL.out], by rw [HYL.out]; have := HEC.out; omega, by unfold maxLen; omega, (fun e => by cases e), .inr ⟨ab, ao + 8, rfl, fun i hi => ?_⟩⟩
          rw [HYL.out] at hi
          have h9 := HL240.out
          rw [Nat.add_assoc, HCB.out W hW (8 + i) (by omega), ← HYE.out, List.getD_eq_getElem?_getD, List.getD_eq_getElem?_getD, List.getElem?_take, if_pos hi, List.getElem?_drop]
        clear hE
        go_wp2_with fail
        clear c0 c1
        rw [HW3.out]
        refine beginW (S := fun w' => w'.cell? ⟨q, 1, none⟩ = some (.slice none 0 0)) (t := 8) (by kernel_rfl) ?_
        refine takeW 0 (some 48) (.fieldAddr 40 (.tmp 9) 1) (.pointer (some ⟨q, 1, none⟩)) rfl rfl (by kernel_rfl) (by kernel_rfl) (by kernel_rfl) (by kernel_rfl) (fun _ _ _ h => h) ?hy hS ?_
        case hy =>
          rintro o ho w' hS1
          go_simp
        simp only [Act.put, List.setIfInBounds_toArray, List.set_cons_zero, List.set_cons_succ]
        refine takeW 1 (some 49) (.load 38 (.tmp 48)) (.slice none 0 0) rfl rfl (by kernel_rfl) (by kernel_rfl) (by kernel_rfl) (by kernel_rfl) (fun _ _ _ h => h) ?hy hS ?_
        case hy =>
          rintro o ho w' hS1
          go_simp
        simp only [Act.put, List.setIfInBounds_toArray, List.set_cons_zero, List.set_cons_succ]
        refine takeW 2 (some 50) (.move (.tmp 1)) (.slice (some ⟨ab, ao, none⟩) 256 cap) rfl rfl (by kernel_rfl) (by kernel_rfl) (by kernel_rfl) (by kernel_rfl) (fun _ _ _ h => h) ?hy hS ?_
        case hy =>
          rintro o ho w' hS1
          go_simp
        simp only [Act.put, List.setIfInBounds_toArray, List.set_cons_zero, List.set_cons_succ]
        refine takeW 3 (some 51) (.move (.tmp 8)) (.int .i64 (L : Int)) rfl rfl (by kernel_rfl) (by kernel_rfl) (by kernel_rfl) (by kernel_rfl) (fun _ _ _ h => h) ?hy hS ?_
        case hy =>
          rintro o ho w' hS1
          go_simp
        simp only [Act.put, List.setIfInBounds_toArray, List.set_cons_zero, List.set_cons_succ]
        refine takeW 4 (some 52) (.binOp .add 3 (.const (.int .i64 8)) (.tmp 51) 3) (.int .i64 (E : Int)) rfl rfl (by kernel_rfl) (by kernel_rfl) (by kernel_rfl) (by kernel_rfl) (fun _ _ _ h => h) ?hy hS ?_
        case hy =>
          rintro o ho w' hS1
          go_simp
        simp only [Act.put, List.setIfInBounds_toArray, List.set_cons_zero, List.set_cons_succ]
        refine takeW 5 (some 53) (.slice 38 (.tmp 50) (some (.const (.int .i64 8))) (some (.tmp 52)) none) (.slice (some ⟨ab, ao + 8, none⟩) L (cap - 8)) rfl rfl (by kernel_rfl) (by kernel_rfl) (by kernel_rfl) (by kernel_rfl) (fun _ _ _ h => h) ?hy hS ?_
        case hy =>
          rintro o ho w' hS1
          go_simp
        simp only [Act.put, List.setIfInBounds_toArray, List.set_cons_zero, List.set_cons_succ]
        refine readyW 6 (some 54) (.call { callee := .builtin .append, args := #[.tmp 49, .tmp 53], argTypes := #[38, 38] }) rfl (by kernel_rfl) ?_
        rintro o K hd ho hgd hK2
        have BD : Below w.heap.size w W3.drew := B3.out.drew
        refine step_many (v := .slice none 0 0) (xs := []) (u := .slice (some ⟨ab, ao + 8, none⟩) L (cap - 8)) (ys := Y) ho (by kernel_rfl) (owns_nil _ _ _) (by kernel_rfl) (HRY.out _ BD) (by rw [HYL.out]; have := HL240.out; simp; omega) (by rw [HYL.out]; have := HL240.out; simp; omega) ?_
        intro v4 w4 o4 g4
        rw [hd]
        rw [List.nil_append] at o4
        have b34 : Below W3.heap.size W3 w4 := (Below.refl _ _).drew.trans g4.below.1
        have O4 : Hid (Owns .u8 5 w4 v4 Y) := o4
        have V4 : Hid (Bkv w4 q K0 (.slice none 0 0)) := V3.out.below b34
        have Q4 : Hid (Bkv w4 g 0 (.slice none 0 0)) := Q3.out.below b34
        have B4 : Hid (Below w.heap.size w w4) := B3.out.trans (b34.mono B3.out.size)
        have N4 : Hid (∀ k, v4.ownBlock = some k → q < k) := fun k hk => by
          have h1 := g4.below.2 k hk
          have h2 := V3.out.lt
          have h3 : W3.drew.heap.size = W3.heap.size := rfl
          omega
        refine hK2 _ _ (fun _ => V4.out.c1) ?_
        clear hd ho hgd hK2 BD o4 g4 b34 hS V3 Q3 B3
        have f1 := V4.out.fz 1
        have u1 := V4.out.c1
        simp only [Act.put, List.setIfInBounds_toArray, List.set_cons_zero, List.set_cons_succ]
        refine takeW 7 (some 55) (.fieldAddr 40 (.tmp 9) 1) (.pointer (some ⟨q, 1, none⟩)) rfl rfl (by kernel_rfl) (by kernel_rfl) (by kernel_rfl) (by kernel_rfl) (fun _ _ _ h => h) ?hy u1 ?_
        case hy =>
          rintro o ho w' hS1
          go_simp
        simp only [Act.put, List.setIfInBounds_toArray, List.set_cons_zero, List.set_cons_succ]
        refine readyW 8 none (.store 38 (.tmp 55) (.tmp 54)) rfl (by kernel_rfl) ?_
        rintro o K hd ho hgd hK2
        obtain ⟨a4, c4, hv4, hc41, hc42, _⟩ := O4.out.rd
        rw [HYL.out] at hv4 hc41
        subst hv4
        refine step_store1B ho (p := ⟨q, 1, none⟩) (b := a4) (l := L) (c := c4) (by kernel_rfl) (by kernel_rfl) u1 f1 ?_
        rw [hd]
        have V5 : Hid (Bkv (w4.setCell ⟨q, 1, none⟩ (.slice a4 L c4)) q K0 (.slice a4 L c4)) := heap_setCell_same w4 q 1 _ _ (.slice a4 L c4) V4.out
        have T5 : Tch (fun k => k = q) w4 (w4.setCell ⟨q, 1, none⟩ (.slice a4 L c4)) := Tch.setCell (Tch.refl (fun k => k = q) w4) (p := ⟨q, 1, none⟩) (fun _ => rfl) _
        generalize w4.setCell ⟨q, 1, none⟩ (.slice a4 L c4) = w5 at V5 T5 ⊢
        have O5 : Hid (Owns .u8 5 w5 (.slice a4 L c4) Y) := O4.out.tch T5 (fun j hj e => by have h1 := N4.out j hj; have h2 : j = q := e; omega)
        have Q5 : Hid (Bkv w5 g 0 (.slice none 0 0)) := Q4.out.tch T5 (fun e => by have h2 : g = q := e; have := HGQ.out; omega)
        have B5 : Hid (Below w.heap.size w w5) := B4.out.trans (T5.below B4.out.size (fun k e => by have h2 : k = q := e; have := HGQ.out; rw [hg.out]; omega))
        have N5 : Hid (∀ k, (Value.slice a4 L c4).ownBlock = some k → w.heap.size ≤ k) := fun k hk => by have := N4.out k hk; have := HGQ.out; rw [hg.out]; omega
        have N6 : Hid (∀ k, (Value.slice a4 L c4).ownBlock = some k → g < k) := fun k hk => by have := N4.out k hk; have := HGQ.out; omega
        have hc43 : c4 ≤ 9223372036854775807 := by unfold maxLen at hc42; omega
        refine hK2 _ _ (fun h => absurd rfl h) ?_
        clear hd ho hgd hK2 u1 f1 V4 O4 Q4 B4 N4 T5 hc42
        simp only [Act.put, List.setIfInBounds_toArray, List.set_cons_zero, List.set_cons_succ]
        refine doneW (by kernel_rfl) ?_ _
        have v50 := V5.out.c0
        have v51 := V5.out.c1
        cases hm : mayK n K0 L with
        | false =>
          have HE : Hid (getE n xs = 7) := by
            show _ = _
            unfold getE
            rw [if_neg (by rw [HL.out]; simp), if_neg (fun h => h HSM.out), if_neg]
            rintro ⟨hm2, _⟩
            rw [hK.out, hYY.out, HYL.out, hm] at hm2
            cases hm2
          have HP := hideP (refPutB_bad n K0 a4 L c4 w5 (by omega) hm)
          unfold blk at HP
          clear hm
          go_wp2_with fail
          refine HP.out.mono ?_
          rintro e w6 ⟨rfl, b6⟩
          have Q6 : Hid (Bkv w6 g 0 (.slice none 0 0)) := Q5.out.below b6
          have B6 : Hid (Below w.heap.size w w6) := B5.out.trans (b6.mono B5.out.size)
          have HSA := hideP (same_rd (.slice none 0 0) (.slice (some ⟨ab, ao, none⟩) 256 cap) [] xs w6 (owns_nil .u8 5 w6).rd (HR.out.below B6.out))
          clear b6 v50 v51 V5 Q5 B5 O5
          go_wp2_with fail
          refine HSA.out.mono ?_
          rintro e w7 ⟨rfl, b7⟩
          have Q7 : Hid (Bkv w7 g 0 (.slice none 0 0)) := Q6.out.below b7
          have B7 : Hid (Below w.heap.size w w7) := B6.out.trans (b7.mono B6.out.size)
          generalize decide ([] = xs) = sm
          clear b7 Q6 B6
          have q0 := Q7.out.c0
          have q1 := Q7.out.c1
          have f0 := Q7.out.fz 0
          have f1 := Q7.out.fz 1
          have HLD := hideP (Q7.out.put 0 (.slice none 0 0)).load
          have HBE : Hid (Below w.heap.size w ((w7.setCell ⟨g, 0, none⟩ (.int .i64 0)).setCell ⟨g, 1, none⟩ (.slice none 0 0))) := (B7.out.setCell (by rw [hg.out]; exact Nat.le_refl _) _).setCell (by rw [hg.out]; exact Nat.le_refl _) _
          go_wp2_with fail
          refine bodyPost_ret (v := .tuple #[blk 0 (.slice none 0 0), .int .i64 7]) (results_cellT (p := 4) (ty := 40) rfl _ _ _ g _ _ rfl HLD.out rfl) rfl ?_
          exact getR_bad HE.out (by decide) HBE.out
        | true =>
          have HMT : Hid (mayK n K0 Y.length = true) := by rw [HYL.out]; exact hm
          have HP := hideP (refPutB_ok n K0 (.slice a4 L c4) Y w5 O5.out.rd HYB.out HMT.out)
          unfold blk at HP
          clear hm
          go_wp2_with fail
          refine HP.out.mono ?_
          rintro e w6 ⟨pv, rfl, rp, b6⟩
          obtain ⟨pa, pc, hpv, _⟩ := id rp
          subst hpv
          have Q6 : Hid (Bkv w6 g 0 (.slice none 0 0)) := Q5.out.below b6
          have V6 : Hid (Bkv w6 q K0 (.slice a4 L c4)) := V5.out.below b6
          have O6 : Hid (Owns .u8 5 w6 (.slice a4 L c4) Y) := O5.out.below b6
          have B6 : Hid (Below w.heap.size w w6) := B5.out.trans (b6.mono B5.out.size)
          have HSA := hideP (same_rd _ (.slice (some ⟨ab, ao, none⟩) 256 cap) (sec n K0 Y) xs w6 rp (HR.out.below B6.out))
          have hsl6 : (sec n K0 Y).length = 256 := sec_len n K0 (by rw [HYL.out]; have := HL240.out; omega)
          rw [hsl6] at HSA ⊢
          clear b6 rp v50 v51 V5 Q5 B5 O5 hsl6
          go_wp2_with fail
          refine HSA.out.mono ?_
          rintro e w7 ⟨rfl, b7⟩
          have Q7 : Hid (Bkv w7 g 0 (.slice none 0 0)) := Q6.out.below b7
          have V7 : Hid (Bkv w7 q K0 (.slice a4 L c4)) := V6.out.below b7
          have O7 : Hid (Owns .u8 5 w7 (.slice a4 L c4) Y) := O6.out.below b7
          have B7 : Hid (Below w.heap.size w w7) := B6.out.trans (b7.mono B6.out.size)
          clear b7 Q6 B6 V6 O6
          by_cases hq : sec n K0 Y = xs
          · rw [decide_eq_true hq]
            have HE : Hid (getE n xs = 0) := by
              show _ = _
              unfold getE
              rw [if_neg (by rw [HL.out]; simp), if_neg (fun h => h HSM.out), if_pos]
              rw [hK.out, hYY.out]
              exact ⟨HMT.out, hq.symm⟩
            have HGB : Hid (getB n xs = (xs.getD 0 0, bdy xs)) := by show _ = _; unfold getB; rw [if_pos HE.out]
            clear hq
            have q0 := Q7.out.c0
            have q1 := Q7.out.c1
            have f0 := Q7.out.fz 0
            have f1 := Q7.out.fz 1
            have u0 := V7.out.c0
            have u1 := V7.out.c1
            have HLD := hideP (Q7.out.put K0 (.slice a4 L c4)).load
            have HBE : Hid (Below w.heap.size w ((w7.setCell ⟨g, 0, none⟩ (.int .i64 K0)).setCell ⟨g, 1, none⟩ (.slice a4 L c4))) := (B7.out.setCell (by rw [hg.out]; exact Nat.le_refl _) _).setCell (by rw [hg.out]; exact Nat.le_refl _) _
            have HRE : Hid (Rd .u8 ((w7.setCell ⟨g, 0, none⟩ (.int .i64 K0)).setCell ⟨g, 1, none⟩ (.slice a4 L c4)) (.slice a4 L c4) Y) :=
              O7.out.rd.tch (S := fun k => k = g) (Tch.setCell (Tch.setCell (Tch.refl (fun k => k = g) w7) (p := ⟨g, 0, none⟩) (fun _ => rfl) _) (p := ⟨g, 1, none⟩) (fun _ => rfl) _) (fun j hj e => by have e2 : j = g := e; have := N6.out j hj; omega)
            clear O7
            go_wp2_with fail
            refine bodyPost_ret (v := .tuple #[blk K0 (.slice a4 L c4), .int .i64 0]) (results_cellT (p := 4) (ty := 40) rfl _ _ _ g _ _ rfl HLD.out rfl) rfl ?_
            exact ⟨_, by rw [HGB.out, HE.out, hK.out], by rw [HGB.out, hYY.out]; exact HRE.out, HBE.out, N5.out⟩
          · rw [decide_eq_false hq]
            have HE : Hid (getE n xs = 7) := by
              show _ = _
              unfold getE
              rw [if_neg (by rw [HL.out]; simp), if_neg (fun h => h HSM.out), if_neg]
              rw [hK.out, hYY.out]
              rintro ⟨_, h⟩
              exact hq h.symm
            clear hq
            have q0 := Q7.out.c0
            have q1 := Q7.out.c1
            have f0 := Q7.out.fz 0
            have f1 := Q7.out.fz 1
            have HLD := hideP (Q7.out.put 0 (.slice none 0 0)).load
            have HBE : Hid (Below w.heap.size w ((w7.setCell ⟨g, 0, none⟩ (.int .i64 0)).setCell ⟨g, 1, none⟩ (.slice none 0 0))) := (B7.out.setCell (by rw [hg.out]; exact Nat.le_refl _) _).setCell (by rw [hg.out]; exact Nat.le_refl _) _
            go_wp2_with fail
            refine bodyPost_ret (v := .tuple #[blk 0 (.slice none 0 0), .int .i64 7]) (results_cellT (p := 4) (ty := 40) rfl _ _ _ g _ _ rfl HLD.out rfl) rfl ?_
            exact getR_bad HE.out (by decide) HBE.out

theorem refGet_any (n : Int) (v : Value) (xs : List Int) (w : World) (hr : Rd .u8 w v xs) (hb : By xs) : Calls Try.prog 43 #[.int .i64 n, v] w fun e w' => GetR n xs w e w' := by
  by_cases hl : xs.length = 256
  · exact refGet_256 n v xs w hr hb hl
  · exact refGet_len n v xs w hr hl
end Go.Proofs.Ytgpaklifjonlkaa
