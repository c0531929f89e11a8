/-
  The document's Join.
-/
import Derived.Test.YtcjdhbiiigdmmaaDoorNxRef
import Derived.Test.YtcjdhbiiigdmmaaDoorNxPath
namespace Go.Proofs.YtcjdhbiiigdmmaaDoor
open Go.RowKit Nx
set_option linter.unusedVariables false
set_option maxRecDepth 100000

theorem jo_no {ss : List ByteArray} (h : mayP (ss.map bl) = false) : jo (ss.map bl) = none := by unfold jo; rw [if_neg (by rw [h]; simp)]
theorem jo_yes {ss : List ByteArray} (h : ss.length ≤ 6) (hn : namesB ss = true) : jo (ss.map bl) = some (pth (ss.map bl)) := by
  unfold jo; rw [if_pos (by rw [mayP_names, decide_eq_true h, hn]; rfl)]
theorem sl_app (a b : List (List UInt8)) : sl (a ++ b) = sl a ++ sl b := by
  induction a with
  | nil => rfl
  | cons x r ih => simp [sl, ih]
theorem bl_app (a b : ByteArray) : bl (a ++ b) = bl a ++ bl b := by simp [bl]

set_option maxHeartbeats 1000000 in
theorem refJoin_any (v : Value) (ss : List ByteArray) (w : World) (h : RdV w v (strs ss)) : Calls Tryd.prog 12 #[v] w fun e w' => JoR w w' e (ss.map bl) := by
  obtain ⟨a, ca, rfl, l1, l2, _⟩ := h.len
  have HV := hideN h
  rw [strs_len] at HV l1 ⊢
  clear h
  by_cases h6 : (6 : Int) < (ss.length : Int)
  · have HJ := hideN (jo_no (ss := ss) (by rw [mayP_names, decide_eq_false (by omega)]; rfl))
    go_enter Tryd.func12, Tryd.ntmps12
    go_wp2_with fail
    go_ret2
    exact ⟨_, _, rfl, Below.refl _ _, .inr ⟨HJ.out, rfl, rfl⟩⟩
  · have HJN : Hid (namesB ss = false → jo (ss.map bl) = none) := fun e => jo_no (by rw [mayP_names, e, Bool.and_false])
    have HJY : Hid (namesB ss = true → jo (ss.map bl) = some (pth (ss.map bl))) := fun e => jo_yes (by omega) e
    obtain ⟨L, hL⟩ : ∃ L, Hid (ss.length = L) := ⟨_, rfl⟩
    rw [hL.out] at HV l1 h6 ⊢
    go_enter Tryd.func12, Tryd.ntmps12
    go_wp2_with fail
    go_loopw [4, 5] (fun o i wr => ∃ (k : Nat) (p : ByteArray), k ≤ L ∧ i = .int .i64 k ∧ o = .string p ∧ p.size ≤ 17 * k ∧ Hid (bl p = sl ((ss.take k).map bl)) ∧ Hid (namesB (ss.take k) = true) ∧ Hid (Below w.heap.size w wr)) (fun _ i _ => L - (intOf i).toNat)
    case atStart => exact ⟨0, ⟨#[]⟩, Nat.zero_le _, rfl, rfl, Nat.zero_le _, rfl, rfl, Below.refl _ _⟩
    case round =>
      obtain ⟨k, p, hk, rfl, rfl, hpz, HP, HN, BR⟩ := hrel
      by_cases hlt : k < L
      · obtain ⟨b1, o1, rfl, cx⟩ := (HV.out.below BR.out).str (i := k) (by rw [hL.out]; exact hlt)
        obtain ⟨x, hxe⟩ : ∃ x, Hid (ss.getD k eS = x) := ⟨_, rfl⟩
        have hk2 : k < ss.length := by rw [hL.out]; exact hlt
        have HT : Hid (ss.take (k + 1) = ss.take k ++ [x]) := by
          have e : ss.take (k + 1) = ss.take k ++ [x] := by
            rw [List.take_add_one, List.getElem?_eq_getElem hk2, ← hxe.out]
            simp [List.getD_eq_getElem?_getD, hk2]
          exact e
        have HX : Hid (x ∈ ss) := by
          have e : x ∈ ss := by rw [← hxe.out, List.getD_eq_getElem?_getD, List.getElem?_eq_getElem hk2]; exact List.getElem_mem hk2
          exact e
        rw [hxe.out] at cx
        have c := refName_any x wr
        cases hn : nameL (bl x) with
        | true =>
          rw [hn] at c
          have hxz : x.size ≤ 16 := by rw [← bl_len]; exact nameL_len hn
          have HN2 : Hid (namesB (ss.take (k + 1)) = true) := by
            have e : namesB (ss.take (k + 1)) = true := by
              have := HN.out
              unfold namesB at this ⊢
              rw [HT.out, List.all_append, this]
              simp [hn]
            exact e
          have HP2 : Hid (bl (p ++ ⟨#[47]⟩ ++ x) = sl ((ss.take (k + 1)).map bl)) := by
            have e : bl (p ++ ⟨#[47]⟩ ++ x) = sl ((ss.take (k + 1)).map bl) := by
              rw [HT.out, List.map_append, sl_app, ← HP.out, bl_app, bl_app]
              simp [sl, bl]
            exact e
          have hL6 : L ≤ 6 := by omega
          have HQ : Hid (∀ w1, Below wr.heap.size wr w1 → w1.cell? ⟨b1, o1 + k, none⟩ = some (.string x)) := fun w1 hb => by
            obtain ⟨_, _, e1, cx1⟩ := ((HV.out.below BR.out).below hb).str (i := k) hk2
            cases e1
            rw [← hxe.out]; exact cx1
          clear hn h6
          go_wp2_with (go_at_call 14; refine c.mono ?_; rintro e w1 ⟨rfl, hb⟩; have cx1 := HQ.out w1 hb)
          have hps : (p ++ ⟨#[47]⟩ ++ x).size ≤ 17 * (k + 1) := by
            rw [ByteArray.size_append, ByteArray.size_append]
            have : (ByteArray.mk #[47]).size = 1 := rfl
            omega
          exact ⟨⟨k + 1, _, by omega, by go_num, rfl, hps, HP2, HN2, BR.out.trans (hb.mono BR.out.size)⟩, by simp [intOf]; omega⟩
        | false =>
          rw [hn] at c
          have hF : Hid (jo (ss.map bl) = none) := HJN.out (by
            unfold namesB
            rw [List.all_eq_false]
            exact ⟨x, HX.out, by simp [hn]⟩)
          clear hn hk2 h6
          go_wp2_with (go_at_call 14; refine c.mono ?_; rintro e w1 ⟨rfl, hb⟩)
          go_ret2
          exact ⟨_, _, rfl, BR.out.trans (hb.mono BR.out.size), .inr ⟨hF.out, rfl, rfl⟩⟩
      · have HF : Hid (jo (ss.map bl) = some (pth (ss.map bl)) ∧ bl p = sl (ss.map bl)) := by
          have h1 := HN.out
          have h2 := HP.out
          rw [List.take_of_length_le (by rw [hL.out]; omega)] at h1 h2
          exact ⟨HJY.out h1, h2⟩
        cases ss with
        | nil =>
          have e : p = ⟨#[]⟩ := bl_inj HF.out.2
          subst e
          clear HP HN
          go_wp2_with fail
          go_ret2
          exact ⟨_, _, rfl, BR.out, .inl ⟨HF.out.1, rfl⟩⟩
        | cons x r =>
          have e3 : (p.toList == []) = false := by rw [toList_bl, HF.out.2]; exact beq_eq_false_iff_ne.2 (by simp [sl])
          have HG : Hid (jo ((x :: r).map bl) = some (bl p)) := by
            have e : jo ((x :: r).map bl) = some (bl p) := by rw [HF.out.1, HF.out.2, pth, if_neg (by simp)]
            exact e
          clear HP HN
          go_wp2_with fail
          go_ret2
          exact ⟨_, _, rfl, BR.out, .inl ⟨HG.out, rfl⟩⟩
end Go.Proofs.YtcjdhbiiigdmmaaDoor
