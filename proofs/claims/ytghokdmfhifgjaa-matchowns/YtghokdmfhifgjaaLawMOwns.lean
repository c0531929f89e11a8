/-
  MatchOwns: what is handed in stays, and what is told is new: for every bytes and steps the law answers true.
-/
import Derived.Test.YtghokdmfhifgjaaLawMLit
namespace Go.Proofs.Ytghokdmfhifgjaa
open Go.RowKit Pl
set_option linter.unusedVariables false

set_option maxRecDepth 100000 in
set_option maxHeartbeats 2000000 in
theorem matchOwns_walk (v1 v2 : Value) (ds : List Int) (ps : List Sq) (w : World) (h1 : Rd .u8 w v1 ds) (hy : By ds) (hl : ds.length ≤ 140737488351232) (h2 : RdS w v2 ps) (hp : ps.length ≤ 140737488355328) :
    Calls Try.prog 8 #[v1, v2] w fun e w' => e = .returned (.bool true) ∧ Below w.heap.size w w' := by
  have H1 : Hid (Rd .u8 w v1 ds) := h1
  have H2 : Hid (RdS w v2 ps) := h2
  have HY : Hid (By ds) := hy
  clear h1 h2 hy
  go_enter Try.func8, Try.ntmps8
  go_wp2_with (at_builtin; refine wpList_many _ rfl (.tmp 13) (.tmp 14) 22 rfl 5 .u8 1 elem8 (.slice none 0 0) [] rfl (owns_nil _ _ _) v1 ds rfl H1.out (by simp; omega) (by simp; omega) ?_)
  intro ov w2 ho2 hg2
  obtain ⟨b2, n2⟩ := hg2.below
  have O2 : Hid (Owns .u8 5 w2 ov ds) := ho2
  have B2 : Hid (Below w.heap.size w w2) := b2
  have HRU : Hid (Calls Try.prog 13 #[ov, v2, .int .i64 65536] w2 fun e w' => BPost (runR ds ps 65536) w2 e w') := run_any _ _ ds ps 65536 w2 O2.out.rd hl (H2.out.below b2) hp
  have HN2 : Hid (∀ j, ov.ownBlock = some j → w.heap.size ≤ j ∧ j < w2.heap.size) := fun j hj => ⟨n2 j hj, O2.out.lt j hj⟩
  clear ho2 hg2 b2 n2
  go_wp2_with fail
  refine HRU.out.mono ?_
  clear HRU
  intro e w3 hD
  obtain ⟨av, rfl, hb3, hf3, ho3⟩ := hD
  obtain ⟨as_, has⟩ : ∃ as_, Hid ((runR ds ps 65536).2 = as_) := ⟨_, rfl⟩
  rw [has.out] at ho3
  have O3 : Hid (Owns .u8 5 w3 ov ds) := O2.out.below hb3
  have A3 : Hid (Owns .u8 5 w3 av as_) := ho3
  have B3 : Hid (Below w.heap.size w w3) := B2.out.trans (hb3.mono B2.out.size)
  have HNA : Hid (∀ j, av.ownBlock = some j → w.heap.size ≤ j ∧ ov.ownBlock ≠ some j) := fun j hj => ⟨Nat.le_trans B2.out.size (hf3 j hj), fun e => by have := hf3 j hj; have := (HN2.out j e).2; omega⟩
  have HLI : Hid (Calls Try.prog 16 #[ov, v2] w3 fun e w' => BPost (litR ds ps) w3 e w') := literals_any _ _ ds ps w3 O3.out.rd hl (H2.out.below B3.out) hp
  have HAL : Hid (∀ j, av.ownBlock = some j → j < w3.heap.size) := A3.out.lt
  clear hb3 hf3 ho3 O2 B2
  go_wp2_with fail
  refine HLI.out.mono ?_
  clear HLI
  intro e w4 hD
  obtain ⟨bv, rfl, hb4, hf4, ho4⟩ := hD
  obtain ⟨bs_, hbs⟩ : ∃ bs_, Hid ((litR ds ps).2 = bs_) := ⟨_, rfl⟩
  rw [hbs.out] at ho4
  have O4 : Hid (Owns .u8 5 w4 ov ds) := O3.out.below hb4
  have A4 : Hid (Owns .u8 5 w4 av as_) := A3.out.below hb4
  have L4 : Hid (Owns .u8 5 w4 bv bs_) := ho4
  have B4 : Hid (Below w.heap.size w w4) := B3.out.trans (hb4.mono B3.out.size)
  have HNB : Hid (∀ j, bv.ownBlock = some j → w.heap.size ≤ j ∧ ov.ownBlock ≠ some j ∧ av.ownBlock ≠ some j) := fun j hj => ⟨Nat.le_trans B3.out.size (hf4 j hj), fun e => by have := hf4 j hj; have := O3.out.lt j e; omega, fun e => by have := hf4 j hj; have := HAL.out j e; omega⟩
  clear hb4 hf4 ho4 O3 A3 B3 HAL
  obtain ⟨aa, ac, rfl⟩ : ∃ a c, av = .slice a as_.length c := by obtain ⟨a, c, e, _⟩ := A4.out.rd; exact ⟨a, c, e⟩
  obtain ⟨ba, bc, rfl⟩ : ∃ a c, bv = .slice a bs_.length c := by obtain ⟨a, c, e, _⟩ := L4.out.rd; exact ⟨a, c, e⟩
  obtain ⟨na, hna⟩ : ∃ na, Hid (as_.length = na) := ⟨_, rfl⟩
  obtain ⟨nb, hnb⟩ : ∃ nb, Hid (bs_.length = nb) := ⟨_, rfl⟩
  rw [hna.out] at A4 HNA HNB ⊢
  rw [hnb.out] at L4 HNB ⊢
  have hna2 : na ≤ 9223372036854775807 := by obtain ⟨a, c, e, h1, h2, _⟩ := A4.out.rd; unfold maxLen at h2; rw [hna.out] at h1; omega
  have hnb2 : nb ≤ 9223372036854775807 := by obtain ⟨a, c, e, h1, h2, _⟩ := L4.out.rd; unfold maxLen at h2; rw [hnb.out] at h1; omega
  go_wp2_with fail
  go_loopw [10] (fun i wr => ∃ (k : Nat) (ys : List Int), k ≤ na ∧ i = .int .i64 k ∧ Hid (ys.length = na) ∧ Hid (Owns .u8 5 wr (.slice aa na ac) ys) ∧ Hid (Owns .u8 5 wr ov ds) ∧ Hid (Owns .u8 5 wr (.slice ba nb bc) bs_) ∧ Hid (Below w.heap.size w wr)) (fun i _ => na - (intOf i).toNat)
  case atStart => exact ⟨0, as_, Nat.zero_le _, rfl, hna, A4, O4, L4, B4⟩
  case round =>
    clear A4 O4 L4 B4
    obtain ⟨k, ys, hk, rfl, HYL, A5, O5, L5, B5⟩ := hrel
    by_cases hlt : k < na
    · obtain ⟨g, cp, hv, _, _, _, hcell, hfz⟩ := A5.out.shape (by rw [HYL.out]; omega)
      rw [HYL.out] at hv
      cases hv
      have cq := hcell k (by rw [HYL.out]; omega)
      have fq := hfz k
      obtain ⟨x0, hx0⟩ : ∃ x0, ys.getD k 0 = x0 := ⟨_, rfl⟩
      rw [hx0] at cq
      have t5 : Tch (fun j => j = g) wr (wr.setCell ⟨g, k, none⟩ (.int .u8 7)) := Tch.setCell (Tch.refl (fun j => j = g) wr) (p := ⟨g, k, none⟩) (fun _ => rfl) _
      obtain ⟨hg1, hg2⟩ := HNA.out g rfl
      have A6 : Hid (Owns .u8 5 (wr.setCell ⟨g, k, none⟩ (.int .u8 7)) (.slice (some ⟨g, 0, none⟩) na ac) (ys.set k 7)) := A5.out.set k 7
      have O6 : Hid (Owns .u8 5 (wr.setCell ⟨g, k, none⟩ (.int .u8 7)) ov ds) := O5.out.tch t5 (fun j hj e => hg2 (by rw [← e]; exact hj))
      have L6 : Hid (Owns .u8 5 (wr.setCell ⟨g, k, none⟩ (.int .u8 7)) (.slice ba nb bc) bs_) := L5.out.tch t5 (fun j hj e => (HNB.out j hj).2.2 (by rw [e]; rfl))
      have B6 : Hid (Below w.heap.size w (wr.setCell ⟨g, k, none⟩ (.int .u8 7))) := B5.out.trans (t5.below B5.out.size (fun j e => by rw [e]; exact hg1))
      have hi1 : (k : Int) < (na : Int) := by omega
      clear hcell hfz hx0 t5 hg1 hg2 A5 O5 L5 B5
      go_wp2_with fail
      go_roundw
      case rel => exact ⟨k + 1, _, by omega, by go_num, by show _ = _; rw [List.length_set]; exact HYL.out, A6, O6, L6, B6⟩
      case measure => simp [intOf]; omega
    · go_wp2_with fail
      go_loopw [11] (fun i wr => ∃ (k : Nat) (ys : List Int), k ≤ nb ∧ i = .int .i64 k ∧ Hid (ys.length = nb) ∧ Hid (Owns .u8 5 wr (.slice ba nb bc) ys) ∧ Hid (Owns .u8 5 wr ov ds) ∧ Hid (Below w.heap.size w wr)) (fun i _ => nb - (intOf i).toNat)
      case atStart => exact ⟨0, bs_, Nat.zero_le _, rfl, hnb, L5, O5, B5⟩
      case round =>
        clear A5 O5 L5 B5 HYL
        obtain ⟨k, ys, hk, rfl, HYL, L5, O5, B5⟩ := hrel
        by_cases hlt : k < nb
        · obtain ⟨g, cp, hv, _, _, _, hcell, hfz⟩ := L5.out.shape (by rw [HYL.out]; omega)
          rw [HYL.out] at hv
          cases hv
          have cq := hcell k (by rw [HYL.out]; omega)
          have fq := hfz k
          obtain ⟨x0, hx0⟩ : ∃ x0, ys.getD k 0 = x0 := ⟨_, rfl⟩
          rw [hx0] at cq
          have t5 : Tch (fun j => j = g) wr (wr.setCell ⟨g, k, none⟩ (.int .u8 9)) := Tch.setCell (Tch.refl (fun j => j = g) wr) (p := ⟨g, k, none⟩) (fun _ => rfl) _
          obtain ⟨hg1, hg2, _⟩ := HNB.out g rfl
          have L6 : Hid (Owns .u8 5 (wr.setCell ⟨g, k, none⟩ (.int .u8 9)) (.slice (some ⟨g, 0, none⟩) nb bc) (ys.set k 9)) := L5.out.set k 9
          have O6 : Hid (Owns .u8 5 (wr.setCell ⟨g, k, none⟩ (.int .u8 9)) ov ds) := O5.out.tch t5 (fun j hj e => hg2 (by rw [← e]; exact hj))
          have B6 : Hid (Below w.heap.size w (wr.setCell ⟨g, k, none⟩ (.int .u8 9))) := B5.out.trans (t5.below B5.out.size (fun j e => by rw [e]; exact hg1))
          have hi1 : (k : Int) < (nb : Int) := by omega
          clear hcell hfz hx0 t5 hg1 hg2 L5 O5 B5
          go_wp2_with fail
          go_roundw
          case rel => exact ⟨k + 1, _, by omega, by go_num, by show _ = _; rw [List.length_set]; exact HYL.out, L6, O6, B6⟩
          case measure => simp [intOf]; omega
        · have HFI : Hid (Calls Try.prog 9 #[ov, .int .i64 99] wr fun e w' => FPost (findR ds 99) wr e w') := find_any _ ds 99 wr O5.out.rd HY.out
          go_wp2_with fail
          refine HFI.out.mono ?_
          clear HFI
          intro e w6 hD
          obtain ⟨d6, rfl, hb6, _, _⟩ := hD
          have O6 : Hid (Owns .u8 5 w6 ov ds) := O5.out.below hb6
          have B6 : Hid (Below w.heap.size w w6) := B5.out.trans (hb6.mono B5.out.size)
          clear hb6 O5 B5
          go_wp2_with fail
          refine (same_rd _ _ ds ds w6 O6.out.rd (H1.out.below B6.out)).mono ?_
          rintro e w7 ⟨rfl, hb7⟩
          have hdec : decide (ds = ds) = true := by simp
          rw [hdec]
          have B7 : Hid (Below w.heap.size w w7) := B6.out.trans (hb7.mono B6.out.size)
          clear hdec hb7 B6 O6
          go_wp2_with fail
          refine (lives_any _).mono ?_
          rintro e w9 ⟨rfl, hb9⟩
          go_wp2_with fail
          go_ret
          exact ⟨rfl, B7.out.trans (hb9.mono B7.out.size)⟩
end Go.Proofs.Ytghokdmfhifgjaa
