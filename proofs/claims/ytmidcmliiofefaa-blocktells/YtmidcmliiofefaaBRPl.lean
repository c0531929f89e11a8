/-
  A block's sector byte by byte, plainly; rows that are made at once.
-/
import Derived.Test.YtmidcmliiofefaaBPl
import Derived.Test.YtmidcmliiofefaaBBlk
namespace Go.Proofs.Ytmidcmliiofefaa
open Go.RowKit Pl
set_option linter.unusedVariables false

theorem take_snocB (T : List Int) (m : Nat) (h : m < T.length) : T.take (m + 1) = T.take m ++ [T.getD m 0] := by
  rw [List.take_succ_eq_append_getElem h, List.getD_eq_getElem?_getD, List.getElem?_eq_getElem h]
  rfl
theorem sec_8 (n k : Int) (ys : List Int) : (sec n k ys).take 8 = [k, (ys.length : Int), n % 256, n / 256, 0, 0, 0, 0] := by
  simp [sec, pre]
theorem sec_8l (n k : Int) (ys : List Int) : (sec n k ys).take 8 ++ ys = (sec n k ys).take (8 + ys.length) := by
  rw [sec_8]
  obtain ⟨H, hH⟩ : ∃ H, [k, (ys.length : Int), n % 256, n / 256, 0, 0, 0, 0] = H := ⟨_, rfl⟩
  have hl : H.length = 8 := by rw [← hH]; rfl
  unfold sec pre
  rw [hH, List.append_assoc, List.take_append, List.take_of_length_le (by omega), hl, Nat.add_sub_cancel_left, List.append_assoc, List.take_left]
theorem sec_z (n k : Int) {ys : List Int} (h : ys.length ≤ 244) {m : Nat} (h1 : 8 + ys.length ≤ m) (h2 : m < 252) : (sec n k ys).getD m 0 = 0 := by
  obtain ⟨H, hH⟩ : ∃ H, [k, (ys.length : Int), n % 256, n / 256, 0, 0, 0, 0] = H := ⟨_, rfl⟩
  have hl : H.length = 8 := by rw [← hH]; rfl
  unfold sec pre
  rw [hH, List.getD_eq_getElem?_getD, List.append_assoc, List.getElem?_append_right (by omega), List.append_assoc, List.getElem?_append_right (by omega), List.getElem?_append_left (by rw [List.length_replicate]; omega), List.getElem?_replicate, if_pos (by omega)]
  rfl
theorem sec_s (n k : Int) {ys : List Int} (h : ys.length ≤ 244) {t : Nat} (ht : t < 4) : (sec n k ys).getD (252 + t) 0 = ((crc (pre n k ys) / 2 ^ (8 * t) % 256 : Nat) : Int) := by
  have hl := pre_len n k h
  unfold sec
  rw [List.getD_eq_getElem?_getD, List.getElem?_append_right (by omega), hl, Nat.add_sub_cancel_left, ← List.getD_eq_getElem?_getD]
  match t, ht with
  | 0, _ => simp [le4]
  | 1, _ => rfl
  | 2, _ => rfl
  | 3, _ => rfl

theorem owns_built (k : IntKind) (e : TypeId) (w : World) (xs : List Int) (hm : xs.length ≤ maxLen) : Owns k e (w.alloc (.cells (xs.map (Value.int k)).toArray e)) (.slice (some ⟨w.heap.size, 0, none⟩) xs.length xs.length) xs := by
  refine ⟨by simp, .inr ⟨w.heap.size, xs.length, _, rfl, Nat.zero_le _, heap_alloc_new w _, Nat.le_refl _, hm, by simp, ?_⟩⟩
  rw [List.toList_toArray, List.take_of_length_le (by simp)]
end Go.Proofs.Ytmidcmliiofefaa
