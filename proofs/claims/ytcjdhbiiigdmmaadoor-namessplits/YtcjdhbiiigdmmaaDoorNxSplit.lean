/-
  strings.SplitN at a slash; which names may stand one behind the other; a path's names.
-/
import Derived.Test.YtcjdhbiiigdmmaaDoorNxName
import Derived.Deep.OwnRows
import Derived.Deep.LoopGhost
namespace Go.Proofs.YtcjdhbiiigdmmaaDoor
open Go.RowKit Nx
set_option linter.unusedVariables false
set_option maxRecDepth 100000

theorem ix_cases (l : List UInt8) : (Lib.indexByte l 47 = -1 ∧ 47 ∉ l) ∨
    ∃ i : Nat, Lib.indexByte l 47 = i ∧ i < l.length ∧ 47 ∈ l ∧ l.takeWhile (· != 47) = l.take i ∧ (l.dropWhile (· != 47)).drop 1 = l.drop (i + 1) := by
  induction l with
  | nil => left; exact ⟨rfl, by simp⟩
  | cons b r ih =>
    by_cases hb : b = 47
    · right
      subst hb
      exact ⟨0, by simp [Lib.indexByte], by simp, by simp, by simp, by simp⟩
    · have hb2 : (b == 47) = false := beq_eq_false_iff_ne.2 hb
      have hb3 : (b != 47) = true := by simp [hb]
      rcases ih with ⟨h1, h2⟩ | ⟨i, h1, h2, h3, h4, h5⟩
      · left
        refine ⟨by simp [Lib.indexByte, hb2, h1], fun hm => ?_⟩
        rcases List.mem_cons.1 hm with e | e
        · exact hb e.symm
        · exact h2 e
      · right
        refine ⟨i + 1, ?_, by simp; omega, List.mem_cons_of_mem _ h3, ?_, ?_⟩
        · have hn : (Lib.indexByte r 47 == -1) = false := by rw [h1]; exact beq_eq_false_iff_ne.2 (by omega)
          unfold Lib.indexByte
          rw [hb2, hn, h1]
          simp
        · rw [List.takeWhile_cons, if_pos hb3, h4]; rfl
        · rw [List.dropWhile_cons, if_pos hb3, h5]; rfl
theorem sn_miss {k : Nat} {l : List UInt8} (h : 47 ∉ l) : sn k l = [l] := by
  cases k with
  | zero => rfl
  | succ k => unfold sn; rw [if_neg h]
theorem sn_hit {k : Nat} {l : List UInt8} {i : Nat} (h : 47 ∈ l) (h1 : l.takeWhile (· != 47) = l.take i) (h2 : (l.dropWhile (· != 47)).drop 1 = l.drop (i + 1)) : sn (k + 1) l = l.take i :: sn k (l.drop (i + 1)) := by
  rw [sn, if_pos h, h1, h2]

theorem index_any (s : ByteArray) (w : World) : Calls Tryd.prog 35 #[.string s, .string ⟨#[47]⟩] w fun e w' => e = .returned (.int .i64 (Lib.indexByte (bl s) 47)) ∧ w' = w :=
  Any.strings_Index_one Tryd.index s 47 w
theorem cutPrefix_any (s : ByteArray) (w : World) : Calls Tryd.prog 17 #[.string s, .string ⟨#[47]⟩] w fun e w' =>
    e = .returned (.tuple #[.string ⟨(Lib.trimPrefix s.data.toList [47]).toArray⟩, .bool (Lib.hasPrefix s.data.toList [47])]) ∧ w' = w :=
  Any.strings_CutPrefix Tryd.cutP s ⟨#[47]⟩ w
theorem bl_extract (s : ByteArray) (a b : Nat) : bl (s.extract a b) = ((bl s).drop a).take (b - a) := Lib.extract_data s a b
theorem infoS : (Tryd.prog.info? 9).map (fun i => (i.zero, i.size, i.bytes)) = some (some (.string ByteArray.empty), 1, 16) := by kernel_rfl

set_option maxHeartbeats 4000000 in
theorem genSplit_any (s : ByteArray) (N : Nat) (w : World) (hs : s.size ≤ 140737488351232) (hN : N = min 7 (s.size + 1)) :
    Calls Tryd.prog 25 #[.string s, .string ⟨#[47]⟩, .int .i64 0, .int .i64 7] w fun e w' =>
      ∃ ss : List ByteArray, e = .returned (.slice (some ⟨w.heap.size, 0, none⟩) ss.length N) ∧ w' = w.alloc (.cells (Lib.cellsOf ss N) 9) ∧ ss.map bl = sn (N - 1) (bl s) := by
  have eN : min (7 : Int) ((s.size : Int) + 1) = (N : Int) := by omega
  have hN1 : (1 : Int) ≤ (N : Int) := by omega
  have hN7 : (N : Int) ≤ 7 := by omega
  have hNs : (N : Int) ≤ (s.size : Int) + 1 := by omega
  have hmk := run_make_row' (P := Tryd.prog) 22 9 (.string ByteArray.empty) 16 Tryd.underlying22 infoS rfl .i64 .i64 N (by omega) (by omega)
  clear hN
  go_enter Tryd.func25, Tryd.ntmps25
  go_wp2_with fail
  clear hmk
  clear eN
  go_loopg [0, 10] (N - 1) (fun g s0 s10 wr => ∃ (done : List ByteArray) (rest : ByteArray), s0 = .string rest ∧ s10 = .int .i64 done.length ∧ done.length ≤ N - 1 ∧ g = N - 1 - done.length ∧ rest.size ≤ s.size ∧
      wr = w.alloc (.cells (Lib.cellsOf done N) 9) ∧ Hid (done.map bl ++ sn (N - 1 - done.length) (bl rest) = sn (N - 1) (bl s)))
  case atStart => exact ⟨[], s, rfl, rfl, Nat.zero_le _, rfl, Nat.le_refl _, by rw [Lib.cellsOf_nil], rfl⟩
  case round =>
    obtain ⟨done, rest, rfl, rfl, hd, rfl, hrs, rfl, HS⟩ := hrel
    have hnext : (Lib.cellsOf done N)[done.length]? = some (.string ByteArray.empty) := Lib.cellsOf_next (by omega)
    have HF : Hid (sn (N - 1 - done.length) (bl rest) = [bl rest] → (done ++ [rest]).map bl = sn (N - 1) (bl s)) := fun h => by
      rw [← HS.out, h, List.map_append]; rfl
    have HC : Hid ((Lib.cellsOf done N).setIfInBounds done.length (.string rest) = Lib.cellsOf (done ++ [rest]) N) := Lib.cellsOf_set (by omega) rest
    have hbr := bl_len rest
    by_cases hlt : done.length < N - 1
    · have hltz : ((done.length : Nat) : Int) < (N : Int) - 1 := by omega
      rcases ix_cases (bl rest) with ⟨hix, hno⟩ | ⟨i, hix, hil, h3, h4, h5⟩
      · have HE := hideN (HF.out (sn_miss hno))
        clear HF hno HS hbr
        go_wp2_with (first | (go_at_call 35; refine (index_any rest _).mono ?_; rintro e w' ⟨rfl, hw⟩; rw [hw, hix]))
        go_ret
        rw [HC.out]
        exact ⟨done ++ [rest], by simp, rfl, HE.out⟩
      · have c0 : ¬ ((i : Int) < 0) := by omega
        have c1 : (0 : Int) ≤ ↑i := by omega
        have c2 : (↑i : Int) ≤ ↑rest.size := by omega
        have c3 : (0 : Int) ≤ ↑i + 1 := by omega
        have c4 : (↑i + 1 : Int) ≤ ↑rest.size := by omega
        have HE : Hid ((done ++ [rest.extract 0 i]).map bl ++ sn (N - 1 - (done.length + 1)) (bl (rest.extract (i + 1) rest.size)) = sn (N - 1) (bl s)) := by
          have e : (done ++ [rest.extract 0 i]).map bl ++ sn (N - 1 - (done.length + 1)) (bl (rest.extract (i + 1) rest.size)) = sn (N - 1) (bl s) := by
            rw [← HS.out, show N - 1 - done.length = (N - 1 - (done.length + 1)) + 1 by omega, sn_hit h3 h4 h5, bl_extract, List.take_of_length_le (by rw [List.length_drop]; omega)]
            simp [bl_extract]
          exact e
        have HC2 : Hid ((Lib.cellsOf done N).setIfInBounds done.length (.string (rest.extract 0 i)) = Lib.cellsOf (done ++ [rest.extract 0 i]) N) := Lib.cellsOf_set (by omega) _
        clear HF HS HC h3 h4 h5 hbr hil
        go_wp2_with (first | (go_at_call 35; refine (index_any rest _).mono ?_; rintro e w' ⟨rfl, hw⟩; rw [hw, hix]))
        go_roundg (N - 1 - (done.length + 1))
        case measure => omega
        case rel =>
          refine ⟨done ++ [rest.extract 0 i], rest.extract (i + 1) rest.size, rfl, by simp, by simp; omega, by simp, by rw [ByteArray.size_extract]; omega, by rw [HC2.out], ?_⟩
          have e2 : (done ++ [rest.extract 0 i]).length = done.length + 1 := by simp
          rw [e2]
          exact HE
    · have hltz : ¬ (((done.length : Nat) : Int) < (N : Int) - 1) := by omega
      have HE := hideN (HF.out (by rw [show N - 1 - done.length = 0 by omega]; rfl))
      clear HF HS hbr
      go_wp2_with fail
      go_ret
      rw [HC.out]
      exact ⟨done ++ [rest], by simp, rfl, HE.out⟩
end Go.Proofs.YtcjdhbiiigdmmaaDoor
