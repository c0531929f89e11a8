/-
  What Split gives, plainly.
-/
import Derived.Test.YtbpaeecclikeiaaNRSplit
namespace Go.Proofs.Ytbpaeecclikeiaa
open Go.RowKit Pl
set_option linter.unusedVariables false

theorem join_parts (n : Nd) (m : Nat) : joinN (takeN n m) (dropN n m) = n := by
  unfold joinN takeN dropN
  simp only [List.take_append_drop]
theorem join_none (n : Nd) : joinN n noneN = n := by
  unfold joinN noneN
  simp only [List.append_nil]
theorem SplR.join {n A B : Nd} (h : SplR n A B) : joinN A B = n := by
  rcases h with ⟨_, rfl, rfl⟩ | ⟨_, m, _, rfl, rfl⟩
  · rw [join_none, join_none]
  · exact join_parts n m
theorem SplR.lens {n A B : Nd} (h : SplR n A B) : A.ks.length + B.ks.length = n.ks.length ∧ A.vs.length + B.vs.length = n.vs.length ∧ A.kd.length + B.kd.length = n.kd.length := by
  have e := h.join
  refine ⟨?_, ?_, ?_⟩
  · rw [← congrArg Nd.ks e]; simp [joinN]
  · rw [← congrArg Nd.vs e]; simp [joinN]
  · rw [← congrArg Nd.kd e]; simp [joinN]
theorem SplR.leafA {n A B : Nd} (h : SplR n A B) : A.lf = n.lf := by
  rcases h with ⟨_, rfl, rfl⟩ | ⟨_, m, _, rfl, rfl⟩ <;> rfl
theorem SplR.leafB {n A B : Nd} (h : SplR n A B) (h2 : 2 ≤ n.ks.length) : B.lf = n.lf := by
  rcases h with ⟨_, rfl, rfl⟩ | ⟨_, m, _, rfl, rfl⟩
  · omega
  · rfl
theorem SplR.many {n A B : Nd} {m : Nat} (h : SplR n A B) (hm : (n.ks.length < 2 ∧ m = n.ks.length) ∨ (2 ≤ n.ks.length ∧ MidR n m)) : A.ks.length = m := by
  rcases h with ⟨h1, rfl, rfl⟩ | ⟨h1, m', hm', rfl, rfl⟩
  · rcases hm with ⟨_, rfl⟩ | ⟨c, _⟩
    · rw [join_none]
    · omega
  · rcases hm with ⟨c, _⟩ | ⟨_, c⟩
    · omega
    · rw [c.same hm']
      exact len_take n (by have := hm'.lt; omega)
theorem sm_drop {n : Nd} (hs : Sm n) (k : Nat) : Sm (dropN n k) := by
  refine ⟨fun i => ?_, fun i => ?_, ?_, ?_, ?_⟩
  · show ((n.ks.drop k).getD i eS).size ≤ _
    rw [List.getD_eq_getElem?_getD, List.getElem?_drop, ← List.getD_eq_getElem?_getD]
    exact hs.ks (k + i)
  · show ((n.vs.drop k).getD i eS).size ≤ _
    rw [List.getD_eq_getElem?_getD, List.getElem?_drop, ← List.getD_eq_getElem?_getD]
    exact hs.vs (k + i)
  · have := hs.kl; simp only [dropN, List.length_drop]; omega
  · have := hs.vl; simp only [dropN, List.length_drop]; omega
  · have := hs.dl; simp only [dropN, List.length_drop]; omega
theorem SplR.sm {n A B : Nd} (h : SplR n A B) (hs : Sm n) : Sm A ∧ Sm B := by
  rcases h with ⟨h1, rfl, rfl⟩ | ⟨h1, m', hm', rfl, rfl⟩
  · rw [join_none]
    exact ⟨hs, ⟨fun i => by simp [kA, noneN, eS, ByteArray.size], fun i => by simp [vA, noneN, eS, ByteArray.size], Nat.zero_le _, Nat.zero_le _, Nat.zero_le _⟩⟩
  · exact ⟨sm_take hs _, sm_drop hs _⟩
end Go.Proofs.Ytbpaeecclikeiaa
