/-
  What the laws over a map of the numbers 10 to 39 share: what deeds keep, what counts there are.
-/
import Derived.Test.YtamgogkkcbeaaaaADoes
import Derived.Test.YtamgogkkcbeaaaaADeed
namespace Go.Proofs.Ytamgogkkcbeaaaa
open Go.RowKit Ah
set_option linter.unusedVariables false
set_option maxRecDepth 100000

namespace Ah
/-- The numbers are the same. -/
def Eqn (s s' : St) : Prop := s'.lo = s.lo ∧ s'.L.length = s.L.length
theorem put_eqn (s : St) (i : Nat) (y : Int) : Eqn s (put s i y) := ⟨rfl, by simp [put]⟩
theorem mrk_eqn (n : Int) (s : St) : Eqn s (mrk n s).2 := by unfold mrk; split; (· exact ⟨rfl, rfl⟩); (· exact put_eqn _ _ _)
theorem back_eqn (n : Int) (s : St) : Eqn s (back n s).2 := by unfold back; split; (· exact ⟨rfl, rfl⟩); (· exact put_eqn _ _ _)
theorem drop_eqn (n : Int) (s : St) : Eqn s (drop n s).2 := by unfold drop; split; (· exact ⟨rfl, rfl⟩); (· exact put_eqn _ _ _)
theorem stl_eqn (s : St) : Eqn s (stl s) := ⟨rfl, by simp [stl]⟩
theorem take_eqn (s : St) : Eqn s (take s).2.2 := by unfold take; split; (· exact ⟨rfl, rfl⟩); (· exact ⟨rfl, by simp⟩)
theorem rsv_eqn (n : Int) (s : St) : Eqn s (rsv n s).2 := by unfold rsv; split; (· exact ⟨rfl, rfl⟩); (· exact ⟨rfl, rfl⟩)
theorem stp_eqn (k n : Int) (s : St) : Eqn s (stp k n s) := by
  unfold stp
  repeat' split
  · exact take_eqn s
  · exact mrk_eqn n s
  · exact back_eqn n s
  · exact drop_eqn n s
  · exact stl_eqn s
  · exact rsv_eqn n s
  · exact ⟨rfl, rfl⟩
theorem Eqn.trans {a b c : St} (h : Eqn a b) (k : Eqn b c) : Eqn a c := ⟨k.1.trans h.1, k.2.trans h.2⟩

/-- Thirty numbers from 10 on. -/
def Thirty (s : St) : Prop := s.lo = 10 ∧ s.L.length = 30
theorem thirty_new : Thirty (new 10 40) := ⟨rfl, rfl⟩
theorem Thirty.eqn {s s' : St} (h : Thirty s) (k : Eqn s s') : Thirty s' := ⟨k.1.trans h.1, k.2.trans h.2⟩

theorem fre_rls (s : St) : fre (rls s) = s.L.count 0 := by simp [fre, rls]

theorem cnt_all (L : List Int) (h : ∀ i, i < L.length → G L i = 0 ∨ G L i = 1 ∨ G L i = 2) : L.count 0 + L.count 1 + L.count 2 = L.length := by
  induction L with
  | nil => rfl
  | cons a r ih =>
    have h0 : a = 0 ∨ a = 1 ∨ a = 2 := h 0 (by simp)
    have := ih (fun i hi => h (i + 1) (by simpa using hi))
    simp only [List.count_cons, List.length_cons, beq_iff_eq]
    rcases h0 with rfl | rfl | rfl <;> simp <;> omega
end Ah
end Go.Proofs.Ytamgogkkcbeaaaa
