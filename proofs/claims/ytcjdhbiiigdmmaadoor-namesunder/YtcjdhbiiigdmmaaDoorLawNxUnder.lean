/-
  Which path leads to which.
-/
import Derived.Test.YtcjdhbiiigdmmaaDoorNxLives
import Derived.Test.YtcjdhbiiigdmmaaDoorNxRUn
namespace Go.Proofs.YtcjdhbiiigdmmaaDoor
open Go.RowKit Nx
set_option linter.unusedVariables false
set_option maxRecDepth 100000

set_option maxHeartbeats 1000000 in
theorem under_core (a b : ByteArray) (w : World) (x y z : Bool) (n : Int) (h0 : x = true → y = true → (a.toList == b.toList) = true) (hn : (n == 0) = z)
    (c1 : ∀ W, Calls Tryd.prog 15 #[.string a, .string b] W fun e w' => e = .returned (.bool x) ∧ Below W.heap.size W w')
    (c2 : ∀ W, Calls Tryd.prog 15 #[.string b, .string a] W fun e w' => e = .returned (.bool y) ∧ Below W.heap.size W w')
    (c3 : ∀ W, Calls Tryd.prog 7 #[.string a] W fun e w' => ∃ v, e = .returned (.tuple #[v, .int .i64 n]) ∧ Below W.heap.size W w')
    (c4 : ∀ W, Calls Tryd.prog 16 #[.string a, .string b] W fun e w' => e = .returned (.bool x) ∧ Below W.heap.size W w')
    (c5 : ∀ W, Calls Tryd.prog 16 #[.string b, .string a] W fun e w' => e = .returned (.bool y) ∧ Below W.heap.size W w')
    (c6 : ∀ W, Calls Tryd.prog 15 #[.string a, .string a] W fun e w' => e = .returned (.bool z) ∧ Below W.heap.size W w') :
    Calls Tryd.prog 6 #[.string a, .string b] w fun e w' => e = .returned (.bool true) ∧ Below w.heap.size w w' := by
  have c7 := fun W => lives_anyX W
  cases x <;> cases y
  case true.true =>
    have hd := h0 rfl rfl
    clear h0
    cases z <;>
    (
      go_enter Tryd.func6, Tryd.ntmps6
      go_wp2_with (go_at_call 15; with_reducible refine (c1 _).mono ?_; rintro e w1 ⟨rfl, hb1⟩)
      clear c1
      go_wp2_with (go_at_call 15; with_reducible refine (c2 _).mono ?_; rintro e w2 ⟨rfl, hb2⟩; (have HB2 := hideN (hb1.trans (hb2.mono hb1.size))); clear hb1 hb2)
      clear c2
      go_wp2_with (go_at_call 7; refine (c3 _).mono ?_; rintro e w3 ⟨v, rfl, hb3⟩; (have HB3 := hideN (HB2.out.trans (hb3.mono HB2.out.size))); clear hb3 HB2)
      clear c3
      go_wp2_with (go_at_call 16; with_reducible refine (c4 _).mono ?_; rintro e w4 ⟨rfl, hb4⟩; (have HB4 := hideN (HB3.out.trans (hb4.mono HB3.out.size))); clear hb4 HB3)
      clear c4
      go_wp2_with (go_at_call 16; with_reducible refine (c5 _).mono ?_; rintro e w5 ⟨rfl, hb5⟩; (have HB5 := hideN (HB4.out.trans (hb5.mono HB4.out.size))); clear hb5 HB4)
      clear c5
      go_wp2_with (first | (go_at_call 15; with_reducible refine (c6 _).mono ?_; rintro e w6 ⟨rfl, hb6⟩; (have HB6 := hideN (HB5.out.trans (hb6.mono HB5.out.size))); clear hb6 HB5) | (go_at_call 10; refine (c7 _).mono ?_; rintro e w7 ⟨rfl, hb7⟩; (have HB7 := hideN (HB6.out.trans (hb7.mono HB6.out.size)))))
      go_ret
      exact ⟨by simp, HB7.out⟩)
  all_goals
    clear h0
    cases z <;>
    (
      go_enter Tryd.func6, Tryd.ntmps6
      go_wp2_with (go_at_call 15; with_reducible refine (c1 _).mono ?_; rintro e w1 ⟨rfl, hb1⟩)
      clear c1
      go_wp2_with (go_at_call 15; with_reducible refine (c2 _).mono ?_; rintro e w2 ⟨rfl, hb2⟩; (have HB2 := hideN (hb1.trans (hb2.mono hb1.size))); clear hb1 hb2)
      clear c2
      go_wp2_with (go_at_call 7; refine (c3 _).mono ?_; rintro e w3 ⟨v, rfl, hb3⟩; (have HB3 := hideN (HB2.out.trans (hb3.mono HB2.out.size))); clear hb3 HB2)
      clear c3
      go_wp2_with (go_at_call 16; with_reducible refine (c4 _).mono ?_; rintro e w4 ⟨rfl, hb4⟩; (have HB4 := hideN (HB3.out.trans (hb4.mono HB3.out.size))); clear hb4 HB3)
      clear c4
      go_wp2_with (go_at_call 16; with_reducible refine (c5 _).mono ?_; rintro e w5 ⟨rfl, hb5⟩; (have HB5 := hideN (HB4.out.trans (hb5.mono HB4.out.size))); clear hb5 HB4)
      clear c5
      go_wp2_with (first | (go_at_call 15; with_reducible refine (c6 _).mono ?_; rintro e w6 ⟨rfl, hb6⟩; (have HB6 := hideN (HB5.out.trans (hb6.mono HB5.out.size))); clear hb6 HB5) | (go_at_call 10; refine (c7 _).mono ?_; rintro e w7 ⟨rfl, hb7⟩; (have HB7 := hideN (HB6.out.trans (hb7.mono HB6.out.size)))))
      go_ret
      exact ⟨by simp, HB7.out⟩)

theorem namesUnder_walk (a b : ByteArray) (w : World) (ha : a.size ≤ 140737488351232) (hb : b.size ≤ 140737488351232) : Calls Tryd.prog 6 #[.string a, .string b] w fun e w' => e = .returned (.bool true) ∧ Below w.heap.size w w' := by
  have HB : und (bl a) (bl b) = true → und (bl b) (bl a) = true → (a.toList == b.toList) = true := fun h1 h2 => by rw [bl_inj (und_both h1 h2)]; simp
  cases hq : sp (bl a) with
  | none =>
    refine under_core a b w _ _ _ 20 HB ?_ (fun W => under_any a b W ha hb) (fun W => under_any b a W hb ha) (fun W => (split_any a W ha).mono fun e w' h => ?_) (fun W => refUnder_any a b W ha hb) (fun W => refUnder_any b a W hb ha) (fun W => under_any a a W ha ha)
    · rw [und_self, hq]; rfl
    · obtain ⟨v, k, rfl, _, h1⟩ := h.no hq
      exact ⟨_, rfl, h1⟩
  | some q =>
    refine under_core a b w _ _ _ 0 HB ?_ (fun W => under_any a b W ha hb) (fun W => under_any b a W hb ha) (fun W => (split_any a W ha).mono fun e w' h => ?_) (fun W => refUnder_any a b W ha hb) (fun W => refUnder_any b a W hb ha) (fun W => under_any a a W ha ha)
    · rw [und_self, hq]; rfl
    · obtain ⟨v, m, k, xs, rfl, _, h1, _⟩ := h.yes hq
      exact ⟨_, rfl, h1⟩
end Go.Proofs.YtcjdhbiiigdmmaaDoor
