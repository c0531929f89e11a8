/-
  The program's putText.
-/
import Derived.Test.YtbpaeecclikeiaaNRow
namespace Go.Proofs.Ytbpaeecclikeiaa
open Go.RowKit Pl
set_option linter.unusedVariables false
set_option linter.unusedSimpArgs false
set_option maxRecDepth 100000

set_option maxHeartbeats 400000 in
theorem putText_any (B : Nat) (v : Value) (xs : List Int) (s : ByteArray) (w : World) (h : OwB B w v xs) (hl : xs.length ≤ 90000) (hs : s.size ≤ 24) (hB : B ≤ w.heap.size) :
    Calls Try.prog 46 #[v, .string s] w fun e w' => (∃ v', e = .returned v' ∧ OwB B w' v' (xs ++ ((s.size : Int) :: bts s))) ∧ Below B w w' := by
  have H := hideN h
  have hs' : (s.size : Int) ≤ 24 := by omega
  have hs2 : (0 : Int) ≤ (s.size : Int) := by omega
  obtain ⟨a, cap, rfl⟩ := h.long
  have HL : Hid (xs.length + [(s.size : Int)].length ≤ 100000) := by show _ ≤ _; simp; omega
  have HL2 : Hid ((xs ++ [(s.size : Int)]).length + s.size ≤ 100000) := by show _ ≤ _; simp; omega
  have HB := hideN hB
  obtain ⟨L, hLL⟩ : ∃ L, Hid (xs.length = L) := ⟨_, rfl⟩
  rw [hLL.out] at H ⊢
  clear h hl hB
  go_enter Try.func46, Try.ntmps46
  go_wp2_with (at_builtin; refine wpList_moreB _ rfl (.tmp 5) (.tmp 9) rfl B _ xs rfl (H.out.below (below_alloc _ _)) w.heap.size [(s.size : Int)] rfl (cells_new w [(s.size : Int)]) HL.out (by have := HB.out; simp; omega) ?_)
  intro v2 w2 o2 g2
  have O2 := hideN o2
  have B2 : Hid (Below B w w2) := ((below_alloc w _).mono HB.out).trans (g2.below (H.out.below (below_alloc _ _)) (by have := HB.out; simp; omega))
  have HB2 : Hid (B ≤ w2.heap.size) := by have := HB.out; have h2 := B2.out.size; show _ ≤ _; omega
  clear o2 g2
  go_wp2_with (at_builtin; refine wpList_strB _ rfl (.tmp 11) (.tmp 12) rfl B _ _ rfl O2.out s rfl HL2.out HB2.out ?_)
  intro v3 w3 o3 g3
  have O3 : Hid (OwB B w3 v3 (xs ++ ((s.size : Int) :: bts s))) := by first | exact o3 | (have := o3; rw [List.append_assoc] at this; exact this)
  have B3 : Hid (Below B w w3) := B2.out.trans (g3.below O2.out HB2.out)
  clear o3 g3
  go_wp2_with fail
  go_ret
  exact ⟨⟨_, rfl, O3.out⟩, B3.out⟩
end Go.Proofs.Ytbpaeecclikeiaa
