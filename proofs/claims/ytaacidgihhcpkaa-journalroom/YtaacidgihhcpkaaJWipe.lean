/-
  The program's Wipe.
-/
import Derived.Test.YtaacidgihhcpkaaJSml
import Derived.Test.YtaacidgihhcpkaaJApl
import Derived.Test.YtaacidgihhcpkaaDAlP
import Derived.Test.YtaacidgihhcpkaaDFlush
import Derived.Test.YtaacidgihhcpkaaJPc
namespace Go.Proofs.Ytaacidgihhcpkaa
open Go.RowKit Go.Maps Pl
set_option linter.unusedVariables false
set_option linter.unusedSimpArgs false
set_option maxRecDepth 100000

/-- So many sectors are written with noughts. -/
def wps (s : DS) : Nat → DS
  | 0 => s
  | k + 1 => (wps s k).wr (2 + k) zz
theorem wps_L (s : DS) : ∀ k, (wps s k).L = s.L
  | 0 => rfl
  | k + 1 => by rw [wps, wr_L, wps_L s k]
theorem wps_c (s : DS) : ∀ k, (wps s k).c = s.c
  | 0 => rfl
  | k + 1 => by rw [wps, wr_c, wps_c s k]
theorem wps_V (s : DS) : ∀ k j, ((wps s k).V j).length ≤ (s.V j).length + k
  | 0, j => by simp [wps]
  | k + 1, j => by
    have h1 := wr_Vle (wps s k) (2 + k) zz j
    have h2 := wps_V s k j
    rw [wps]
    omega
theorem wps_has (s : DS) (hc : s.c = false) : ∀ k j, (wps s k).has j = if 2 ≤ j ∧ j < 2 + k then zz else s.has j
  | 0, j => by rw [if_neg (by omega)]; rfl
  | k + 1, j => by
    rw [wps, wr_has (by rw [wps_c]; exact hc), wps_has s hc k j]
    by_cases h1 : j = 2 + k
    · rw [if_pos h1, if_pos (by omega)]
    · rw [if_neg h1]
      by_cases h2 : 2 ≤ j ∧ j < 2 + k
      · rw [if_pos h2, if_pos (by omega)]
      · rw [if_neg h2, if_neg (by omega)]

set_option maxHeartbeats 400000 in
theorem wipe_any {S : Nat → Prop} {d : Nat} {s : DS} (w : World) (h : Dk S w d s) (h50 : 50 ≤ s.L.length) (hV : ∀ i, (s.V i).length < 274877906000) :
    Calls Try.prog 30 #[dp d] w fun e w' => e = .returned (.int .i64 0) ∧ DkTo S w w' d (wps s 48).fl := by
  obtain ⟨j0, hj, hy0, hy1, hy2⟩ := info_parts info_u8J
  have HR := hideP (hasRoom_any w h h50)
  have HD : Hid (Dk S w d s) := h
  have H50 : Hid (50 ≤ s.L.length) := h50
  have HVN := hideP hV
  clear h h50 hV
  unfold dp at HR ⊢
  go_enter Try.func30, Try.ntmps30
  go_wp2_with fail
  refine HR.out.mono ?_
  rintro e w ⟨rfl, rfl⟩
  clear HR
  go_wp2_with fail
  go_loopw [3] (fun i wr => ∃ k : Nat, k ≤ 48 ∧ i = .int .i64 ((2 + k : Nat) : Int) ∧ Hid (DkTo S w wr d (wps s k))) (fun i _ => 50 - (intOf i).toNat)
  case atStart => exact ⟨0, Nat.zero_le _, rfl, HD.out.to⟩
  case round =>
    obtain ⟨k, hk, rfl, DT⟩ := hrel
    obtain ⟨p, hp⟩ : ∃ p, Hid (2 + k = p) := ⟨_, rfl⟩
    rw [hp.out]
    have hp2 : 2 ≤ p ∧ p ≤ 50 := by have := hp.out; omega
    by_cases hlt : p < 50
    · have hlt1 : (p : Int) < 50 := by omega
      obtain ⟨S1, D1, T1, N1⟩ := DT.out
      have HD1 := hideP D1
      have HT1 := hideP T1
      have HN1 := hideP N1
      have HVL : Hid (((wps s k).V p).length < 274877906943) := by
        show _ < _
        have h1 := wps_V s k p
        have h2 := HVN.out p
        omega
      clear D1 T1 N1 DT
      go_wp2_with (at_make; refine wpList_make_full _ rfl (.const (.int .i64 256)) (.const (.int .i64 256)) 36 rfl 0 5 j0 _ 1 Try.underlying36 hj hy0 hy1 .i64 .i64 _ _ 256 rfl rfl rfl rfl (by rw [hy2]; decide) (by unfold maxLen; decide) (Nat.zero_le _) ?_)
      intro w4 ho4 hg4
      have b4 : Below wr.heap.size wr w4 := (Below.refl _ _).grown hg4 (Nat.le_refl _) (fun k e => by cases e)
      obtain ⟨f, hf⟩ : ∃ h, Hid (wr.heap.size = h) := ⟨_, rfl⟩
      have M4 : Hid (w4.heap[f]? = some (.cells (bcs zz).toArray 5 (0, 0))) := by
        refine made_blkJ ?_
        have h3 := ho4
        rw [toList_madeCells_one, hf.out] at h3
        exact h3
      have W4 : Hid (Wb w4 (.slice (some ⟨f, 0, none⟩) 256 256) zz) := ⟨f, 256, _, _, by rw [zz_len], by rw [zz_len]; exact Nat.le_refl _, by unfold maxLen; omega, M4.out, by rw [List.toList_toArray, List.take_of_length_le (by rw [bcs_len]; exact Nat.le_refl _)]⟩
      have D4 := hideP (HD1.out.below b4)
      have T4 : Hid (Tch S w w4) := HT1.out.trans (Tch.of_below (S := fun _ => False) b4) (fun _ _ e => e.elim)
      have HSF : Hid (∀ i, S1 i → i ≠ f) := fun i hi => by have := HD1.out.slt i hi; rw [← hf.out]; omega
      have HWR := hideP (write_ok p (.slice (some ⟨f, 0, none⟩) 256 256) zz w4 D4.out (by rw [wps_L]; have := H50.out; omega) W4.out.rd zz_len zz_by (fun i hi e => by cases hi; exact HSF.out _ e rfl) HVL.out)
      have HDT : Hid (∀ w6, DkTo S1 w4 w6 d ((wps s k).wr p zz) → DkTo S w w6 d (wps s (k + 1))) := fun w6 h6 => by
        rw [wps, hp.out]
        exact DkTo.trans D4.out T4.out HN1.out h6
      rw [hf.out]
      clear ho4 hg4 b4 HD1 HT1 HVL M4
      unfold dp at HWR
      go_wp2_with fail
      refine HWR.out.mono ?_
      rintro e w6 ⟨rfl, hd6⟩
      have DT6 := hideP (HDT.out w6 hd6)
      clear hd6 HWR HDT D4 T4 W4
      have hp3 : (p : Int) + 1 = ((2 + (k + 1) : Nat) : Int) := by have := hp.out; omega
      have HP3 : Hid ((p : Int) + 1 = ((2 + (k + 1) : Nat) : Int)) := hp3
      clear hp3
      go_wp2_with fail
      go_roundw
      case rel => exact ⟨k + 1, by have := hp.out; omega, by have h := HP3.out; simp only [Value.int.injEq, true_and]; first | exact h | (rw [← h]; go_num), DT6⟩
      case measure => simp [intOf]; omega
    · have hnl : ¬ (p : Int) < 50 := by omega
      have hk48 : k = 48 := by have := hp.out; omega
      rw [hk48] at DT
      clear hk48
      obtain ⟨S1, D1, T1, N1⟩ := DT.out
      have HFL := hideP (flush_any wr D1)
      have HD1 := hideP D1
      have HT1 := hideP T1
      have HN1 := hideP N1
      clear D1 T1 N1 DT
      unfold dp at HFL
      go_wp2_with fail
      refine HFL.out.mono ?_
      rintro e w6 ⟨rfl, hd6⟩
      have DT6 := hideP (DkTo.trans HD1.out HT1.out HN1.out hd6)
      clear hd6
      go_wp2_with fail
      go_ret
      exact ⟨rfl, DT6.out⟩
end Go.Proofs.Ytaacidgihhcpkaa
