/-
  Rows that are the same are the same.
-/
import Derived.Test.YtaacidgihhcpkaaSame
namespace Go.Proofs.Ytaacidgihhcpkaa
open Go.RowKit
set_option linter.unusedVariables false
set_option linter.unusedSimpArgs false
set_option maxRecDepth 100000

/-- Rows that are the same are the same. -/
theorem same_all (u v : Value) (xs : List Int) (w : World) (hu : Rd .u8 w u xs) (hv : Rd .u8 w v xs) : Calls Try.prog 31 #[u, v] w fun e w' => e = .returned (.bool true) ∧ Below w.heap.size w w' := by
  obtain ⟨a, ca, rfl, ha1, ha2, _, ha⟩ := hu
  obtain ⟨b, cb, rfl, hb1, hb2, _, hb⟩ := hv
  have h63 : xs.length ≤ 9223372036854775807 := by unfold maxLen at ha2; omega
  by_cases h0 : xs = []
  · subst h0
    simp only [List.length_nil]
    clear ha hb ha1 hb1 ha2 hb2 h63
    go_enter Try.func31, Try.ntmps31
    go_wp2
    go_loopw [5] (fun i wr => i = .int .i64 0 ∧ Below w.heap.size w wr) (fun _ _ => 0)
    case atStart => exact ⟨rfl, Below.refl _ _⟩
    case round =>
      obtain ⟨rfl, hB⟩ := hrel
      go_wp2
      go_ret
      exact ⟨rfl, hB⟩
  · rcases ha with e | ⟨ab, ao, rfl, ha⟩
    · exact absurd e h0
    rcases hb with e | ⟨bb, bo, rfl, hb⟩
    · exact absurd e h0
    have := same_any ab bb ao bo ca cb xs xs w rfl h63 ha hb
    simpa using this

end Go.Proofs.Ytaacidgihhcpkaa
