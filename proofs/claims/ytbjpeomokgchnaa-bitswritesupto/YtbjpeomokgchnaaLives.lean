/-
  What the writer tells, and that the document's examples hold.
-/
import Derived.Test.YtbjpeomokgchnaaPut
import Derived.Test.YtbjpeomokgchnaaNum
import Derived.BigQuiet
import Derived.Deep.QuietTactic
namespace Go.Proofs.Ytbjpeomokgchnaa
open Go.RowKit Pl
set_option linter.unusedVariables false

/-- A copy: a row of its own. -/
theorem fresh_any (v : Value) (xs : List Int) (w : World) (h : Rd .u8 w v xs) (hb : xs.length ≤ 140737488355328) :
    Calls Try.prog 33 #[v] w fun e w' => ∃ v', e = .returned v' ∧ w'.ownsRow 0 5 1 v' xs.length (xs.map (Value.int .u8)) ∧ Below w.heap.size w w' ∧ ∀ k, v'.ownBlock = some k → w.heap.size ≤ k := by
  obtain ⟨i0, hi, hz0, hz1, hz2⟩ := info_parts info8
  have H := src_of_rd h
  have HS : Hid (Src w v (xs.map (Value.int .u8))) := H
  clear H h
  go_enter Try.func33, Try.ntmps33
  go_wp2_with (at_builtin; refine wpList_app _ rfl (.const (Value.slice none 0 0)) (.tmp 3) 33 rfl 5 i0 (.int .u8 0) 1 Try.underlying33 hi hz0 hz1 hz2 rfl (.slice none 0 0) [] rfl (World.ownsRow_nil _ _ _ _) _ (xs.map (Value.int .u8)) rfl HS.out ?b1 ?b2 ?_)
  case b1 => simp; unfold maxLen; omega
  case b2 => simp; omega
  intro v' w1 hown hgrow hfresh
  go_wp2
  go_ret
  refine ⟨v', rfl, by simpa using hown, (Below.refl _ _).grown hgrow (Nat.le_refl _) (fun k e => by cases e), fun k hk => ?_⟩
  rcases hfresh k hk with e | e
  · cases e
  · exact e

theorem newWriter_any (w : World) :
    Calls Try.prog 9 #[] w fun e w' => e = .returned (.pointer (some ⟨w.heap.size, 0, none⟩)) ∧ Wr w' w.heap.size (.slice none 0 0) [] ∧ Below w.heap.size w w' := by
  go_enter Try.func9, Try.ntmps9
  go_wp2
  go_ret
  refine ⟨rfl, ⟨?_, World.ownsRow_nil _ _ _ _, Bits.nil⟩, (Below.refl _ _).alloc (Nat.le_refl _) _⟩
  exact heap_alloc_new w _

theorem len_any (b : Nat) (rv : Value) (bs : List Int) (w : World) (h : Wr w b rv bs) :
    Calls Try.prog 12 #[.pointer (some ⟨b, 0, none⟩)] w fun e w' => e = .returned (.int .i64 bs.length) ∧ w' = w := by
  have c1 := h.c1
  clear h
  go_enter Try.func12, Try.ntmps12
  go_wp2
  go_ret
  exact ⟨rfl, rfl⟩

theorem bytes_any (b : Nat) (rv : Value) (bs : List Int) (w : World) (h : Wr w b rv bs) (hb : bs.length ≤ 1125899906842000) :
    Calls Try.prog 13 #[.pointer (some ⟨b, 0, none⟩)] w fun e w' => ∃ v', e = .returned v' ∧ w'.ownsRow 0 5 1 v' (pack bs).length ((pack bs).map (Value.int .u8)) ∧
      Below w.heap.size w w' ∧ ∀ k, v'.ownBlock = some k → w.heap.size ≤ k := by
  have c0 := h.c0
  have H : Hid (Wr w b rv bs) := h
  clear h
  go_enter Try.func13, Try.ntmps13
  go_wp2_with fail
  refine (fresh_any rv (pack bs) w (rd_of_owns H.out.own) (by rw [pack_length]; omega)).mono ?_
  rintro e w1 ⟨v', rfl, h1, h2, h3⟩
  go_wp2
  go_ret
  exact ⟨v', rfl, h1, h2, h3⟩

theorem rd_three (w : World) (a b c : Int) : Rd .u8 (w.alloc (.cells #[.int .u8 a, .int .u8 b, .int .u8 c] 5)) (.slice (some ⟨w.heap.size, 0, none⟩) 3 3) [a, b, c] :=
  rd_of_owns (e := 5) (World.ownsRow_lit w #[.int .u8 a, .int .u8 b, .int .u8 c] 3 (Nat.zero_le _) (by unfold maxLen; omega) rfl)

theorem own_two {w : World} {v : Value} {a b : Int} (h : w.ownsRow 0 5 1 v 2 [.int .u8 a, .int .u8 b]) :
    ∃ g cap, v = .slice (some ⟨g, 0, none⟩) 2 cap ∧ g < w.heap.size ∧ w.cell? ⟨g, 0, none⟩ = some (.int .u8 a) ∧ w.cell? ⟨g, 1, none⟩ = some (.int .u8 b) := by
  rcases h.2 with ⟨_, e⟩ | ⟨g, cap, cur, rfl, _⟩
  · omega
  · have h0 := h.cellAt 0 (by omega)
    have h1 := h.cellAt 1 (by omega)
    exact ⟨g, cap, rfl, (h.lt g rfl).2, h0, h1⟩

set_option maxHeartbeats 1000000 in
theorem lives_any (w : World) : Calls Try.prog 17 #[] w fun e w' => e = .returned (.bool true) ∧ Below w.heap.size w w' := by
  go_enter Try.func17, Try.ntmps17
  go_wp2_with fail
  refine (newWriter_any w).mono ?_
  rintro e w1 ⟨rfl, h1, b1⟩
  obtain ⟨B, HB⟩ : ∃ B, Hid (w.heap.size = B) := ⟨_, rfl⟩
  rw [HB.out] at h1 b1 ⊢
  have H1 : Hid (Wr w1 B (.slice none 0 0) []) := h1
  have B1 : Hid (Below B w w1) := b1
  clear h1 b1
  go_wp2_with fail
  refine (put_ok B _ 3 5 [] w1 H1.out (by simp) (by decide) (by decide) (by decide)).mono ?_
  rintro e w2 ⟨rfl, rv2, h2⟩
  have H2 : Hid (WrTo w1 B (.slice none 0 0) w2 rv2 ([] ++ bitsOf 5 3)) := h2
  clear h2
  go_wp2_with fail
  refine (put_ok B rv2 6 33 _ w2 H2.out.wr (by decide) (by decide) (by decide) (by decide)).mono ?_
  rintro e w3 ⟨rfl, rv3, h3⟩
  have H3 : Hid (WrTo w1 B (.slice none 0 0) w3 rv3 ([] ++ bitsOf 5 3 ++ bitsOf 33 6)) := H2.out.trans h3
  clear h3 H2
  go_wp2_with fail
  refine (bytes_any B rv3 _ w3 H3.out.wr (by decide)).mono ?_
  rintro e w4 ⟨v4, rfl, h4, b4, _⟩
  have e4 : pack ([] ++ bitsOf 5 3 ++ bitsOf 33 6) = [13, 1] := by decide +kernel
  rw [e4] at h4
  obtain ⟨g, cap, rfl, hg, c0, c1⟩ := own_two h4
  have H4 : Hid (Wr w4 B rv3 ([] ++ bitsOf 5 3 ++ bitsOf 33 6)) := H3.out.wr.tch (S := fun _ => False) (Tch.of_below b4) (fun e => e) (fun _ _ e => e)
  have hs4 : B < w4.heap.size := H4.out.lt
  have B4 : Hid (Below B w w4) := by
    have t3 := H3.out.tch.below (B := B) (Nat.le_of_lt H1.out.lt) (fun k hk => by rcases hk with e | e; (· omega); (· cases e))
    exact (B1.out.trans t3).trans (b4.mono (Nat.le_of_lt H3.out.wr.lt))
  clear h4 b4 e4 H3 H1 B1
  go_wp2_with fail
  refine (num_rd _ _ _ (rd_three w4 172 2 9) (by intro i; match i with | 0 => decide | 1 => decide | 2 => decide | n + 3 => simp)).mono ?_
  rintro e w5 ⟨rfl, rfl⟩
  have e5 : numRes [172, 2, 9] = some (300, 2) := by decide +kernel
  rw [e5]
  simp only [resN, resK, resE]
  clear e5
  go_wp2_with fail
  refine (len_any B rv3 _ _ (H4.out.tch (S := fun _ => False) ((Tch.refl _ w4).alloc _) (fun e => e) (fun _ _ e => e))).mono ?_
  rintro e w5 ⟨rfl, rfl⟩
  have e6 : ([] ++ bitsOf 5 3 ++ bitsOf 33 6).length = 9 := by decide +kernel
  rw [e6]
  clear e6
  go_wp2_with fail
  go_ret
  exact ⟨rfl, by rw [HB.out]; exact B4.out.alloc (Nat.le_of_lt hs4) _⟩
end Go.Proofs.Ytbjpeomokgchnaa
