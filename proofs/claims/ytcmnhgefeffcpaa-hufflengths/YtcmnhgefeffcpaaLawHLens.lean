/-
  HuffLengths: bytes that stand so often get just the lengths of the document, and the counts stay: for every counts the law answers true.
-/
import Derived.Test.YtcmnhgefeffcpaaHRLen
import Derived.Test.YtcmnhgefeffcpaaHNums
import Derived.Test.YtcmnhgefeffcpaaHLives
namespace Go.Proofs.Ytcmnhgefeffcpaa
open Go.RowKit Pl Hf
set_option linter.unusedVariables false

/-- Two answers of one list of counts are alike. -/
theorem LPost.same {cs : List Int} {w1 w1' w2 w2' : World} {e1 e2 : Ending} (h1 : LPost cs w1 e1 w1') (h2 : LPost cs w2 e2 w2') :
    ∃ u v E xs, e1 = .returned (.tuple #[u, .int .i64 E]) ∧ e2 = .returned (.tuple #[v, .int .i64 E]) ∧ Below w1.heap.size w1 w1' ∧ Below w2.heap.size w2 w2' ∧ Rd .i64 w1' u xs ∧ Rd .i64 w2' v xs := by
  obtain ⟨u, E, rfl, b1, _, h1⟩ := h1
  obtain ⟨v, F, rfl, b2, _, h2⟩ := h2
  rcases h1 with ⟨rfl, rfl, n1⟩ | ⟨rfl, k1, ds, o1, s1⟩
  · rcases h2 with ⟨rfl, rfl, _⟩ | ⟨_, k2, _⟩
    · exact ⟨_, _, 1, [], rfl, rfl, b1, b2, (owns_nil _ _ _ : Owns .i64 3 w1' (.slice none 0 0) []).rd, (owns_nil _ _ _ : Owns .i64 3 w2' (.slice none 0 0) []).rd⟩
    · exact absurd k2 n1
  · rcases h2 with ⟨_, _, n2⟩ | ⟨rfl, _, es, o2, s2⟩
    · exact absurd k1 n2
    · have e := s1.det s2
      subst e
      exact ⟨u, v, 0, _, rfl, rfl, b1, b2, o1.rd, o2.rd⟩

set_option maxRecDepth 100000 in
set_option maxHeartbeats 2000000 in
theorem huffLengths_walk (v : Value) (cs : List Int) (w : World) (h1 : Rd .i64 w v cs) (hs : cs.length * 8 ≤ 140737488351232) :
    Calls Try.prog 3 #[v] w fun e w' => e = .returned (.bool true) ∧ Below w.heap.size w w' := by
  have H1 : Hid (Rd .i64 w v cs) := h1
  clear h1
  go_enter Try.func3, Try.ntmps3
  go_wp2_with (at_builtin; refine wpList_many _ rfl (.tmp 10) (.tmp 11) 22 rfl 3 .i64 8 elem64 (.slice none 0 0) [] rfl (owns_nil _ _ _) v cs rfl H1.out ?a1 ?a2 ?_; (case a1 => simp; omega); (case a2 => simp; omega))
  intro v2 w2 ho2 hg2
  obtain ⟨b2, n2⟩ := hg2.below
  have O2 : Hid (Rd .i64 w2 v2 cs) := Owns.rd ho2
  have B2 : Hid (Below w.heap.size w w2) := b2
  clear ho2 hg2 b2 n2
  go_wp2_with fail
  refine (lengths_any v2 cs w2 O2.out).mono ?_
  intro e w3 hl3
  have HL3 : Hid (LPost cs w2 e w3) := hl3
  obtain ⟨u3, E3, he3, hb3, _⟩ := id hl3
  subst he3
  have B3 : Hid (Below w.heap.size w w3) := B2.out.trans (hb3.mono B2.out.size)
  have O3 : Hid (Rd .i64 w3 v2 cs) := O2.out.below hb3
  clear hl3 hb3 O2
  go_wp2_with fail
  refine (refLengths_any v cs w3 (H1.out.below B3.out)).mono ?_
  intro e w4 hl4
  obtain ⟨u, v', E, xs, e3, e4, hb3, hb4, r3, r4⟩ := HL3.out.same hl4
  have e3' : u3 = u ∧ E3 = E := by
    simp only [Ending.returned.injEq, Value.tuple.injEq, Array.mk.injEq, List.cons.injEq, Value.int.injEq, true_and, and_true] at e3
    exact e3
  obtain ⟨rfl, rfl⟩ := e3'
  subst e4
  have R3 : Hid (Rd .i64 w4 u3 xs) := r3.below hb4
  have R4 : Hid (Rd .i64 w4 v' xs) := r4
  have B4 : Hid (Below w.heap.size w w4) := B3.out.trans (hb4.mono B3.out.size)
  have O4 : Hid (Rd .i64 w4 v2 cs) := O3.out.below hb4
  clear hl4 HL3 hb3 hb4 r3 r4 e3 O3
  go_wp2_with fail
  refine (numbers_rd _ _ xs xs w4 R3.out R4.out).mono ?_
  rintro e w5 ⟨rfl, hb5⟩
  have hdec : decide (xs = xs) = true := by simp
  rw [hdec]
  have B5 : Hid (Below w.heap.size w w5) := B4.out.trans (hb5.mono B4.out.size)
  have O5 : Hid (Rd .i64 w5 v2 cs) := O4.out.below hb5
  clear hb5 hdec R3 R4 O4
  go_wp2_with fail
  refine (numbers_rd _ _ cs cs w5 O5.out (H1.out.below B5.out)).mono ?_
  rintro e w6 ⟨rfl, hb6⟩
  have hdec : decide (cs = cs) = true := by simp
  rw [hdec]
  have B6 : Hid (Below w.heap.size w w6) := B5.out.trans (hb6.mono B5.out.size)
  have hxx : (E3 == E3) = true := by simp
  clear hb6 hdec O5
  go_wp2_with fail
  refine (lives_any _).mono ?_
  rintro e w9 ⟨rfl, hb9⟩
  go_wp2_with fail
  go_ret
  exact ⟨rfl, B6.out.trans (hb9.mono B6.out.size)⟩
end Go.Proofs.Ytcmnhgefeffcpaa
