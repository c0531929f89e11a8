/-
  A copy of bytes, and a new writer.
-/
import Derived.Test.YtcmnhgefeffcpaaPut
import Derived.Test.YtcmnhgefeffcpaaRow
import Derived.BigQuiet
import Derived.Deep.QuietTactic
namespace Go.Proofs.Ytcmnhgefeffcpaa
open Go.RowKit Pl
set_option linter.unusedVariables false

/-- A copy: a row of its own. -/
theorem fresh_any (v : Value) (xs : List Int) (w : World) (h : Rd .u8 w v xs) (hb : xs.length ≤ 140737488355328) :
    Calls Try.prog 56 #[v] w fun e w' => ∃ v', e = .returned v' ∧ w'.ownsRow 0 5 1 v' xs.length (xs.map (Value.int .u8)) ∧ Below w.heap.size w w' ∧ ∀ k, v'.ownBlock = some k → w.heap.size ≤ k := by
  obtain ⟨i0, hi, hz0, hz1, hz2⟩ := info_parts info8
  have H := src_of_rd h
  have HS : Hid (Src w v (xs.map (Value.int .u8))) := H
  clear H h
  go_enter Try.func56, Try.ntmps56
  go_wp2_with (at_builtin; refine wpList_app _ rfl (.const (Value.slice none 0 0)) (.tmp 3) 31 rfl 5 i0 (.int .u8 0) 1 Try.underlying31 hi hz0 hz1 hz2 rfl (.slice none 0 0) [] rfl (World.ownsRow_nil _ _ _ _) _ (xs.map (Value.int .u8)) rfl HS.out ?b1 ?b2 ?_)
  case b1 => simp; unfold maxLen; omega
  case b2 => simp; omega
  intro v' w1 hown hgrow hfresh
  go_wp2
  go_ret
  refine ⟨v', rfl, by simpa using hown, (Below.refl _ _).grown hgrow (Nat.le_refl _) (fun k e => by cases e), fun k hk => ?_⟩
  rcases hfresh k hk with e | e
  · cases e
  · exact e

theorem newWriter_any (w : World) :
    Calls Try.prog 23 #[] w fun e w' => e = .returned (.pointer (some ⟨w.heap.size, 0, none⟩)) ∧ Wr w' w.heap.size (.slice none 0 0) [] ∧ Below w.heap.size w w' := by
  go_enter Try.func23, Try.ntmps23
  go_wp2
  go_ret
  refine ⟨rfl, ⟨?_, World.ownsRow_nil _ _ _ _, Bits.nil⟩, (Below.refl _ _).alloc (Nat.le_refl _) _⟩
  exact heap_alloc_new w _

theorem fresh_owns (v : Value) (xs : List Int) (w : World) (h : Rd .u8 w v xs) (hb : xs.length ≤ 140737488355328) :
    Calls Try.prog 56 #[v] w fun e w' => ∃ v', e = .returned v' ∧ Owns .u8 5 w' v' xs ∧ Grew w w' (.slice none 0 0) v' := by
  refine (fresh_any v xs w h hb).mono ?_
  rintro e w' ⟨v', rfl, h1, h2, h3⟩
  exact ⟨v', rfl, h1, Tch.of_below h2, fun k hk => .inr (h3 k hk)⟩



end Go.Proofs.Ytcmnhgefeffcpaa
