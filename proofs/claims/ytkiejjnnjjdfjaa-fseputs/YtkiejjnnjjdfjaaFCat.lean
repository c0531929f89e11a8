/-
  slices.Concat of two rows of ints.
-/
import Derived.Test.YtkiejjnnjjdfjaaFApz2
namespace Go.Proofs.Ytkiejjnnjjdfjaa
open Go.RowKit Pl
set_option linter.unusedVariables false

set_option maxRecDepth 100000 in
set_option maxHeartbeats 1000000 in
theorem concat_any (B : Nat) (va vb : Value) (xs ys : List Int) (w : World) (ha : Rd .i64 w va xs) (hb : Rd .i64 w vb ys) (h1 : 1 ≤ xs.length) (h2 : xs.length ≤ 1000) (h3 : ys.length ≤ 1000)
    (c0 : w.cell? ⟨B, 0, none⟩ = some va) (c1 : w.cell? ⟨B, 1, none⟩ = some vb) :
    Calls Try.prog 28 #[.slice (some ⟨B, 0, none⟩) 2 2] w fun e w' => ∃ v', e = .returned v' ∧ Owns .i64 3 w' v' (xs ++ ys) ∧ Grew w w' (.slice none 0 0) v' := by
  have HA : Hid (Rd .i64 w va xs) := ha
  have HB : Hid (Rd .i64 w vb ys) := hb
  obtain ⟨aa, ac, rfl, _, _, _, _⟩ := ha
  obtain ⟨ba, bc, rfl, _, _, _, _⟩ := hb
  have C0 : Hid (w.cell? ⟨B, 0, none⟩ = some (.slice aa xs.length ac)) := c0
  have C1 : Hid (w.cell? ⟨B, 1, none⟩ = some (.slice ba ys.length bc)) := c1
  obtain ⟨X, hX⟩ : ∃ X, Hid (xs.length = X) := ⟨_, rfl⟩
  obtain ⟨Y, hY⟩ : ∃ Y, Hid (ys.length = Y) := ⟨_, rfl⟩
  rw [hX.out] at h1 h2 HA C0 c0
  rw [hY.out] at h3 HB C1 c1
  go_enter Try.func28, Try.ntmps28
  go_wp2_with fail
  go_loop [3, 11] (fun s i => ∃ k q : Nat, k ≤ 2 ∧ i = .int .i64 k ∧ s = .int .i64 q ∧ ((k = 0 ∧ q = 0) ∨ (k = 1 ∧ q = X) ∨ (k = 2 ∧ q = X + Y))) (fun _ i => 2 - (intOf i).toNat)
  case atStart => exact ⟨0, 0, by omega, rfl, rfl, .inl ⟨rfl, rfl⟩⟩
  case round =>
    obtain ⟨k, q, hk, rfl, rfl, hkq⟩ := hrel
    rcases hkq with ⟨rfl, rfl⟩ | ⟨rfl, rfl⟩ | ⟨rfl, rfl⟩
    · go_wp2_with fail
      go_round
      case rel => exact ⟨1, X, by omega, by first | rfl | go_num, by first | rfl | go_num, .inr (.inl ⟨rfl, rfl⟩)⟩
      case measure => simp [intOf]
    · go_wp2_with fail
      go_round
      case rel => exact ⟨2, q + Y, by omega, by first | rfl | go_num, by first | rfl | go_num, .inr (.inr ⟨rfl, rfl⟩)⟩
      case measure => simp [intOf]
    · have HGR : Hid (Calls Try.prog 54 #[.slice none 0 0, .int .i64 ((X + Y : Nat) : Int)] w fun e w' => ∃ v', e = .returned v' ∧ Owns .i64 3 w' v' [] ∧ Grew w w' (.slice none 0 0) v') := grow_any (X + Y) w (by omega) (by omega)
      clear c0 c1
      go_wp2_with fail
      refine HGR.out.mono ?_
      clear HGR
      rintro e w2 ⟨v2, rfl, ho2, hg2⟩
      have O2 : Hid (Owns .i64 3 w2 v2 []) := ho2
      have G2 : Hid (Grew w w2 (.slice none 0 0) v2) := hg2
      clear ho2 hg2
      go_wp2_with fail
      go_loopw [6, 27] (fun r i wr => ∃ (k : Nat) (l : List Int), k ≤ 2 ∧ i = .int .i64 k ∧ ((k = 0 ∧ Hid (l = [])) ∨ (k = 1 ∧ Hid (l = xs)) ∨ (k = 2 ∧ Hid (l = xs ++ ys))) ∧ Hid (Owns .i64 3 wr r l) ∧ Hid (Grew w wr (.slice none 0 0) r)) (fun _ i _ => 2 - (intOf i).toNat)
      case atStart => exact ⟨0, [], by omega, rfl, .inl ⟨rfl, rfl⟩, O2, G2⟩
      case round =>
        clear O2 G2
        obtain ⟨k, l, hk, rfl, hkq, HO, HG⟩ := hrel
        have HBL : Hid (Below w.heap.size w wr) := HG.out.below.1
        rcases hkq with ⟨rfl, HL⟩ | ⟨rfl, HL⟩ | ⟨rfl, HL⟩
        · have d0 : wr.cell? ⟨B, 0, none⟩ = some (.slice aa X ac) := by rw [HBL.out.cell (p := ⟨B, 0, none⟩) (World.block_lt_of_cell? w ⟨B, 0, none⟩ C0.out), C0.out]
          have HA2 : Hid (Rd .i64 wr (.slice aa X ac) xs) := HA.out.below HBL.out
          go_wp2_with (at_builtin; refine wpList_many _ rfl (.tmp 31) (.tmp 32) 22 rfl 3 .i64 8 elem64 _ l rfl HO.out _ xs rfl HA2.out ?a1 ?a2 ?_)
          case a1 => rw [HL.out]; simp; rw [hX.out]; omega
          case a2 => rw [HL.out]; simp; rw [hX.out]; omega
          intro v3 w3 ho3 hg3
          have HO3 : Hid (Owns .i64 3 w3 v3 xs) := by have := ho3; rw [HL.out, List.nil_append] at this; exact this
          have HG3 : Hid (Grew w w3 (.slice none 0 0) v3) := HG.out.trans hg3
          clear ho3 hg3 HO HG d0 HA2
          go_wp2_with fail
          go_roundw
          case rel => exact ⟨1, xs, by omega, by first | rfl | go_num, .inr (.inl ⟨rfl, rfl⟩), HO3, HG3⟩
          case measure => simp [intOf]
        · have d0 : wr.cell? ⟨B, 1, none⟩ = some (.slice ba Y bc) := by rw [HBL.out.cell (p := ⟨B, 1, none⟩) (World.block_lt_of_cell? w ⟨B, 1, none⟩ C1.out), C1.out]
          have HA2 : Hid (Rd .i64 wr (.slice ba Y bc) ys) := HB.out.below HBL.out
          go_wp2_with (at_builtin; refine wpList_many _ rfl (.tmp 31) (.tmp 32) 22 rfl 3 .i64 8 elem64 _ l rfl HO.out _ ys rfl HA2.out ?a1 ?a2 ?_)
          case a1 => rw [HL.out, hX.out, hY.out]; omega
          case a2 => rw [HL.out, hX.out, hY.out]; omega
          intro v3 w3 ho3 hg3
          have HO3 : Hid (Owns .i64 3 w3 v3 (xs ++ ys)) := by have := ho3; rw [HL.out] at this; exact this
          have HG3 : Hid (Grew w w3 (.slice none 0 0) v3) := HG.out.trans hg3
          clear ho3 hg3 HO HG d0 HA2
          go_wp2_with fail
          go_roundw
          case rel => exact ⟨2, xs ++ ys, by omega, by first | rfl | go_num, .inr (.inr ⟨rfl, rfl⟩), HO3, HG3⟩
          case measure => simp [intOf]
        · go_wp2_with fail
          go_ret
          exact ⟨_, rfl, by have := HO.out; rw [HL.out] at this; exact this, HG.out⟩
end Go.Proofs.Ytkiejjnnjjdfjaa
