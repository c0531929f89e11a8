/-
  The program's source: bytes that are taken from the front.
-/
import Derived.Test.YtbpaeecclikeiaaNVar
import Derived.Test.YtbpaeecclikeiaaMCut
namespace Go.Proofs.Ytbpaeecclikeiaa
open Go.RowKit Pl
set_option linter.unusedVariables false
set_option linter.unusedSimpArgs false
set_option maxRecDepth 100000

/-- The slice v reads as the bytes xs wherever nothing below n0 has turned. -/
def RdS (n0 : Nat) (w : World) (v : Value) (xs : List Int) : Prop := ∀ w', Below n0 w w' → Rd .u8 w' v xs
theorem RdS.rd {n0 : Nat} {w : World} {v : Value} {xs : List Int} (h : RdS n0 w v xs) : Rd .u8 w v xs := h w (Below.refl _ _)
theorem RdS.below {n0 : Nat} {w w' : World} {v : Value} {xs : List Int} (h : RdS n0 w v xs) (hb : Below n0 w w') : RdS n0 w' v xs := fun w2 h2 => h w2 (hb.trans h2)
theorem rdS_of {w : World} {v : Value} {xs : List Int} (h : Rd .u8 w v xs) : RdS w.heap.size w v xs := fun w' hb => h.below hb
theorem rd_none (w : World) : Rd .u8 w (.slice none 0 0) [] := ⟨none, 0, rfl, Nat.le_refl _, by unfold maxLen; omega, fun _ => rfl, .inl rfl⟩

/-- A source: what is left, and whether some were missing. -/
structure Sz (n0 : Nat) (w : World) (g : Nat) (lv : Value) (t : List Int × Bool) : Prop where
  blk : w.heap[g]? = some (.cells #[lv, .bool t.2] 79 (0, 0))
  rs : RdS n0 w lv t.1
  bys : By t.1
  new : n0 ≤ g
def SzX (n0 : Nat) (w : World) (g : Nat) (t : List Int × Bool) : Prop := ∃ lv, Sz n0 w g lv t
section
variable {n0 : Nat} {w w' : World} {g : Nat} {lv : Value} {t : List Int × Bool}
theorem Sz.c0 (h : Sz n0 w g lv t) : w.cell? ⟨g, 0, none⟩ = some lv := by rw [cell_of_row w g 0 _ _ (0, 0) h.blk]; rfl
theorem Sz.c1 (h : Sz n0 w g lv t) : w.cell? ⟨g, 1, none⟩ = some (.bool t.2) := by rw [cell_of_row w g 1 _ _ (0, 0) h.blk]; rfl
theorem Sz.fz (h : Sz n0 w g lv t) (j : Nat) : w.frozen? ⟨g, j, none⟩ = false := frozen_of_row w g j _ _ h.blk
theorem Sz.lt (h : Sz n0 w g lv t) : g < w.heap.size := (Array.getElem?_eq_some_iff.1 h.blk).1
theorem Sz.tch {S : Nat → Prop} (h : Sz n0 w g lv t) (ht : Tch S w w') (hg : ¬ S g) (ho : ∀ k, S k → n0 ≤ k) (hn : n0 ≤ w.heap.size) : Sz n0 w' g lv t :=
  ⟨by rw [ht.block g h.lt hg]; exact h.blk, h.rs.below (ht.below hn ho), h.bys, h.new⟩
theorem SzX.tch {S : Nat → Prop} (h : SzX n0 w g t) (ht : Tch S w w') (hg : ¬ S g) (ho : ∀ k, S k → n0 ≤ k) (hn : n0 ≤ w.heap.size) : SzX n0 w' g t := by obtain ⟨lv, h⟩ := h; exact ⟨lv, h.tch ht hg ho hn⟩
theorem SzX.lt (h : SzX n0 w g t) : g < w.heap.size := by obtain ⟨lv, h⟩ := h; exact h.lt
theorem SzX.new (h : SzX n0 w g t) : n0 ≤ g := by obtain ⟨lv, h⟩ := h; exact h.new
theorem SzX.below (h : SzX n0 w g t) (hb : Below w.heap.size w w') : SzX n0 w' g t := h.tch (S := fun _ => False) (Tch.of_below hb) (fun e => e) (fun _ e => e.elim) (Nat.le_trans h.new (Nat.le_of_lt h.lt))
end

/-- So many are taken. -/
def takeZ (t : List Int × Bool) (m : Nat) : List Int × (List Int × Bool) := if t.2 = true ∨ t.1.length < m then ([], (t.1, true)) else (t.1.take m, (t.1.drop m, false))

section
variable {ops : Array Oper} {rest : List Oper} {o : Oper} {a : Act} {Q : Exit → Act → World → Prop}
theorem wpList_uptoS (w : World) (hgd : o.guard = none) (x l : Operand) (ho : o.op = .slice 32 x none (some l) none) (v : Value) (xs : List Int) (hv : a.eval x = v) (hr : Rd .u8 w v xs) (m : Nat) (hl : a.eval l = .int .i64 (m : Int)) (hm : m ≤ xs.length)
    (h : ∀ v', (∀ w0, Rd .u8 w0 v xs → Rd .u8 w0 v' (xs.take m)) → wpList Try.prog ops Q rest (a.put o.dst v') w) : wpList Try.prog ops Q (o :: rest) a w := by
  obtain ⟨b, cap, hb, hcap, _⟩ := id hr
  refine wpList_plain hgd fun K hK => ?_
  have hrun : (Instr.sliceAt 32 (.slice b xs.length cap) none (some (.int .i64 (m : Int))) none).run Try.prog w = .ok (sliced b 0 m cap 1) w := by
    rw [run_sliceAt_slice _ _ _ _ _ _ under8, run_slice_h _ _ _ _ _ under8 _ _ (by omega) (by omega), size8]
    simp [Result.andThen]
  unfold Oper.wp execOp
  simp only [ho, hv, hl, hb, Option.map_some, Option.map_none, Sem.run_bind, hrun, Result.andThen_ok]
  refine hK _ _ (h _ fun w0 h0 => ?_)
  rw [hb] at h0
  have h2 := rd_sliced h0 0 m (Nat.zero_le _) hm
  rw [List.drop_zero, Nat.sub_zero] at h2
  exact h2
theorem wpList_fromS (w : World) (hgd : o.guard = none) (x l : Operand) (ho : o.op = .slice 32 x (some l) none none) (v : Value) (xs : List Int) (hv : a.eval x = v) (hr : Rd .u8 w v xs) (m : Nat) (hl : a.eval l = .int .i64 (m : Int)) (hm : m ≤ xs.length)
    (h : ∀ v', (∀ w0, Rd .u8 w0 v xs → Rd .u8 w0 v' (xs.drop m)) → wpList Try.prog ops Q rest (a.put o.dst v') w) : wpList Try.prog ops Q (o :: rest) a w := by
  obtain ⟨b, cap, hb, _⟩ := id hr
  refine wpList_plain hgd fun K hK => ?_
  have hrun : (Instr.sliceAt 32 (.slice b xs.length cap) (some (.int .i64 (m : Int))) none none).run Try.prog w = .ok (sliced b m xs.length cap 1) w := by
    rw [run_sliceAt_slice _ _ _ _ _ _ under8, run_slice_l _ _ _ _ _ under8 _ _ (by omega) (by omega), size8]
    simp [Result.andThen]
  unfold Oper.wp execOp
  simp only [ho, hv, hl, hb, Option.map_some, Option.map_none, Sem.run_bind, hrun, Result.andThen_ok]
  refine hK _ _ (h _ fun w0 h0 => ?_)
  rw [hb] at h0
  have h2 := rd_sliced h0 m xs.length hm (Nat.le_refl _)
  rw [show (xs.drop m).take (xs.length - m) = xs.drop m by rw [List.take_of_length_le]; rw [List.length_drop]; omega] at h2
  exact h2
end

theorem By.dropN {xs : List Int} (h : By xs) (m : Nat) : By (xs.drop m) := by
  intro i
  rw [List.getD_eq_getElem?_getD, List.getElem?_drop, ← List.getD_eq_getElem?_getD]
  exact h _

set_option maxHeartbeats 400000 in
theorem srcTake_any (n0 g : Nat) (t : List Int × Bool) (m : Nat) (w : World) (h : SzX n0 w g t) (hm : m ≤ 9007199254740992) :
    Calls Try.prog 53 #[.pointer (some ⟨g, 0, none⟩), .int .i64 (m : Int)] w fun e w' => ∃ rv, e = .returned rv ∧ RdS n0 w' rv (takeZ t m).1 ∧ SzX n0 w' g (takeZ t m).2 ∧ Tch (fun k => k = g) w w' := by
  obtain ⟨lv, h⟩ := h
  have H := hideN h
  obtain ⟨a, cap, hv, hcl, hcm, _, _⟩ := h.rs.rd
  have c0 := h.c0
  have c1 := h.c1
  have f0 := h.fz 0
  have f1 := h.fz 1
  obtain ⟨xs, sh⟩ := t
  obtain ⟨L, hL⟩ : ∃ L, Hid (xs.length = L) := ⟨_, rfl⟩
  simp only at hv hcl c0 c1
  rw [hL.out] at hv hcl
  subst hv
  have hL9 : L ≤ 9223372036854775807 := by unfold maxLen at hcm; omega
  have HT : Hid (takeZ (xs, sh) m = if sh = true ∨ xs.length < m then ([], (xs, true)) else (xs.take m, (xs.drop m, false))) := rfl
  rw [hL.out] at HT
  have HNG : Hid (∀ w', Tch (fun k => k = g) w w' → Below n0 w w') := fun w' ht => ht.below (Nat.le_trans H.out.new (Nat.le_of_lt H.out.lt)) (fun k e => by rw [e]; exact H.out.new)
  have HBAD : Hid (takeZ (xs, sh) m = ([], (xs, true)) → ∃ rv, Ending.returned (Value.slice none 0 0) = .returned rv ∧ RdS n0 (w.setCell ⟨g, 1, none⟩ (.bool true)) rv (takeZ (xs, sh) m).1 ∧ SzX n0 (w.setCell ⟨g, 1, none⟩ (.bool true)) g (takeZ (xs, sh) m).2 ∧ Tch (fun k => k = g) w (w.setCell ⟨g, 1, none⟩ (.bool true))) := fun e => by
    have ht := tch_at w g 1 (.bool true)
    rw [e]
    exact ⟨_, rfl, fun w' _ => rd_none w', ⟨_, heap_setCell_same w g 1 _ _ (.bool true) H.out.blk, H.out.rs.below (HNG.out _ ht), H.out.bys, H.out.new⟩, ht⟩
  clear h hcm
  cases sh with
  | true =>
    have HB := hideN (HBAD.out (by rw [HT.out, if_pos (.inl rfl)]))
    clear HBAD HT
    go_enter Try.func53, Try.ntmps53
    go_wp2_with fail
    go_ret
    exact HB.out
  | false =>
    by_cases hlt : L < m
    · have hlt' : (L : Int) < (m : Int) := by omega
      have HB := hideN (HBAD.out (by rw [HT.out, if_pos (.inr hlt)]))
      clear HBAD HT
      go_enter Try.func53, Try.ntmps53
      go_wp2_with fail
      go_ret
      exact HB.out
    · have hlt' : (m : Int) ≤ (L : Int) := by omega
      have hdl : decide ((L : Int) < (m : Int)) = false := by rw [decide_eq_false_iff_not]; omega
      have HTO : Hid (takeZ (xs, false) m = (xs.take m, (xs.drop m, false))) := by show _ = _; rw [HT.out, if_neg (by simp; omega)]
      have HML : Hid (m ≤ xs.length) := by show _ ≤ _; rw [hL.out]; omega
      have HRR : Hid (Rd .u8 w (.slice a L cap) xs) := H.out.rs.rd
      clear HBAD HT
      go_enter Try.func53, Try.ntmps53
      go_wp2_with (with_reducible (show wpList _ _ _ (Oper.mk _ (Op.slice _ _ none _ _) _ _ _ _ :: _) _ _); refine wpList_uptoS _ rfl (.tmp 25) (.tmp 26) rfl (.slice a L cap) xs ?h1 HRR.out m ?h2 HML.out ?_; (case h1 => kernel_rfl); (case h2 => kernel_rfl))
      intro v1 h1
      have H1 := hideN h1
      clear h1
      go_wp2_with (with_reducible (show wpList _ _ _ (Oper.mk _ (Op.slice _ _ (some _) _ _) _ _ _ _ :: _) _ _); refine wpList_fromS _ rfl (.tmp 32) (.tmp 33) rfl (.slice a L cap) xs ?h1 HRR.out m ?h2 HML.out ?_; (case h1 => kernel_rfl); (case h2 => kernel_rfl))
      intro v2 h2
      obtain ⟨a2, cap2, e2, _⟩ := h2 w HRR.out
      obtain ⟨L2, hL2⟩ : ∃ L, Hid ((xs.drop m).length = L) := ⟨_, rfl⟩
      have H2 := hideN h2
      rw [hL2.out] at e2
      subst e2
      have HF : Hid (∃ rv, Ending.returned v1 = .returned rv ∧ RdS n0 (w.setCell ⟨g, 0, none⟩ (.slice a2 L2 cap2)) rv (takeZ (xs, false) m).1 ∧ SzX n0 (w.setCell ⟨g, 0, none⟩ (.slice a2 L2 cap2)) g (takeZ (xs, false) m).2 ∧ Tch (fun k => k = g) w (w.setCell ⟨g, 0, none⟩ (.slice a2 L2 cap2))) := by
        have ht := tch_at w g 0 (.slice a2 L2 cap2)
        show ∃ _, _
        rw [HTO.out]
        have hb := HNG.out _ ht
        exact ⟨_, rfl, fun w' hb' => H1.out w' (H.out.rs w' (hb.trans hb')), ⟨_, heap_setCell_same w g 0 _ _ (.slice a2 L2 cap2) H.out.blk, fun w' hb' => H2.out w' (H.out.rs w' (hb.trans hb')), H.out.bys.dropN m, H.out.new⟩, ht⟩
      clear h2
      go_wp2_with fail
      go_ret
      exact HF.out

/-- One byte as a number. -/
def numZ (t : List Int × Bool) : Int × (List Int × Bool) := ((takeZ t 1).1.getD 0 0, (takeZ t 1).2)
theorem takeZ_len (t : List Int × Bool) (m : Nat) : (takeZ t m).1.length = 0 ∨ (takeZ t m).1.length = m := by
  unfold takeZ
  split
  · exact .inl rfl
  · rename_i h; right; simp only [List.length_take]; omega
theorem takeZ_by {t : List Int × Bool} (h : By t.1) (m : Nat) : By (takeZ t m).1 := by
  unfold takeZ
  split
  · intro i; simp
  · exact h.take m

set_option maxHeartbeats 400000 in
theorem srcNum_any (n0 g : Nat) (t : List Int × Bool) (w : World) (h : SzX n0 w g t) :
    Calls Try.prog 47 #[.pointer (some ⟨g, 0, none⟩)] w fun e w' => e = .returned (.int .i64 (numZ t).1) ∧ (0 ≤ (numZ t).1 ∧ (numZ t).1 ≤ 255) ∧ SzX n0 w' g (numZ t).2 ∧ Tch (fun k => k = g) w w' := by
  have H := hideN h
  have HBY : Hid (By t.1) := by obtain ⟨lv, h⟩ := h; exact h.bys
  have HTB := hideN (takeZ_by HBY.out 1 0)
  obtain ⟨r, hr⟩ : ∃ r, Hid ((numZ t).1 = r) := ⟨_, rfl⟩
  have HRB : Hid (0 ≤ r ∧ r ≤ 255) := by rw [← hr.out]; exact HTB.out
  rw [hr.out]
  clear h
  go_enter Try.func47, Try.ntmps47
  go_wp2_with fail
  refine (srcTake_any n0 g t 1 w H.out (by omega)).mono ?_
  rintro e w1 ⟨rv, rfl, hrs, hx, ht⟩
  obtain ⟨a, cap, e1, h1, h2, h3, h4⟩ := hrs.rd
  have HX : Hid (SzX n0 w1 g (numZ t).2) := hx
  have HT := hideN ht
  rcases takeZ_len t 1 with h0 | h0
  · rw [h0] at e1
    subst e1
    have : (takeZ t 1).1 = [] := List.eq_nil_of_length_eq_zero h0
    obtain rfl : r = 0 := by rw [← hr.out]; unfold numZ; rw [this]; rfl
    clear hrs hx ht h1 h2 h3 h4 this
    go_wp2_with fail
    go_ret
    exact ⟨rfl, HRB.out, HX.out, HT.out⟩
  · rw [h0] at e1 h1
    subst e1
    rcases h4 with h4 | ⟨b, o, rfl, hc⟩
    · rw [h4] at h0; cases h0
    have cc : w1.cell? ⟨b, o, none⟩ = some (.int .u8 r) := by have := hc 0 (by omega); rw [← hr.out]; exact this
    have hr0 := HRB.out.1
    have hr1 := HRB.out.2
    clear hrs hx ht h2 h3 hc
    go_wp2_with fail
    go_ret
    exact ⟨rfl, HRB.out, HX.out, HT.out⟩

theorem run_str (w : World) (v : Value) (xs : List Int) (h : Rd .u8 w v xs) : (convert 32 9 v).run Try.prog w = .ok (.string (strOfNums xs)) w := by
  obtain ⟨a, cap, rfl, hl, hm, h0, h4⟩ := h
  cases a with
  | none =>
    have := h0 rfl
    have hx : xs = [] := List.eq_nil_of_length_eq_zero (by omega)
    subst hx
    exact run_convert_bytes_nil w 32 5 Try.underlying32 Try.underlying5 _ _ _ Try.underlying9
  | some x =>
    rcases h4 with rfl | ⟨b, o, e, hc⟩
    · rw [run_convert_bytes_string w 32 9 5 _ _ _ Try.underlying32 Try.underlying5 Try.underlying9]
      exact run_bytesToString w x 0 cap [] (run_loadCells_list (P := Try.prog) w x [] (fun j u hu => by cases hu))
    · cases e
      exact run_convert_bytes_arg w 32 5 Try.underlying32 Try.underlying5 b o _ cap xs rfl hc _ Try.underlying9

/-- A text, with its length ahead. -/
def txtZ (t : List Int × Bool) : ByteArray × (List Int × Bool) := (strOfNums (takeZ (numZ t).2 (numZ t).1.toNat).1, (takeZ (numZ t).2 (numZ t).1.toNat).2)

set_option maxHeartbeats 400000 in
theorem srcText_any (n0 g : Nat) (t : List Int × Bool) (w : World) (h : SzX n0 w g t) :
    Calls Try.prog 48 #[.pointer (some ⟨g, 0, none⟩)] w fun e w' => e = .returned (.string (txtZ t).1) ∧ SzX n0 w' g (txtZ t).2 ∧ Tch (fun k => k = g) w w' := by
  have H := hideN h
  clear h
  obtain ⟨s, hs⟩ : ∃ s, Hid ((txtZ t).1 = s) := ⟨_, rfl⟩
  rw [hs.out]
  go_enter Try.func48, Try.ntmps48
  go_wp2_with fail
  refine (srcNum_any n0 g t w H.out).mono ?_
  rintro e w1 ⟨rfl, hb, hx, ht⟩
  obtain ⟨m, hm⟩ : ∃ m : Nat, (numZ t).1 = (m : Int) := ⟨(numZ t).1.toNat, by omega⟩
  have HTX : Hid (txtZ t = (strOfNums (takeZ (numZ t).2 m).1, (takeZ (numZ t).2 m).2)) := by show _ = _; unfold txtZ; rw [hm]; rfl
  have HM : Hid (m ≤ 255) := by show _ ≤ _; omega
  have X1 := hideN hx
  have T1 := hideN ht
  rw [hm]
  clear hb hx ht hm
  go_wp2_with fail
  refine (srcTake_any n0 g (numZ t).2 m w1 X1.out (by have := HM.out; omega)).mono ?_
  rintro e w2 ⟨rv, rfl, hrs, hx, ht⟩
  have hrun := run_str w2 rv _ hrs.rd
  have es : strOfNums (takeZ (numZ t).2 m).1 = s := by rw [← hs.out, HTX.out]
  rw [es] at hrun
  obtain ⟨a, cap, e1, _⟩ := hrs.rd
  obtain ⟨LL, hLL⟩ : ∃ L, Hid ((takeZ (numZ t).2 m).1.length = L) := ⟨_, rfl⟩
  rw [hLL.out] at e1
  subst e1
  have HX : Hid (SzX n0 w2 g (txtZ t).2) := by rw [HTX.out]; exact hx
  have HT : Hid (Tch (fun k => k = g) w w2) := T1.out.trans ht (fun _ _ e => e)
  clear hrs hx ht es
  go_wp2_with fail
  go_ret
  exact ⟨rfl, HX.out, HT.out⟩
end Go.Proofs.Ytbpaeecclikeiaa
