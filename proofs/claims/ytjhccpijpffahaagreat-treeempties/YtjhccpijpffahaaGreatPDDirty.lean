import Derived.Test.YtjhccpijpffahaaGreatPDMap
import Derived.Test.YtjhccpijpffahaaGreatPDLay
set_option maxRecDepth 100000
set_option linter.unusedVariables false
set_option linter.unusedSimpArgs false
set_option maxHeartbeats 8000000
namespace Go.Proofs.YtjhccpijpffahaaGreat
open Go.RowKit Go.Maps Go.Sort Go.Shelf
theorem zkj9 (n : Nat) (g : Nat -> Option Value) : intKeys (Dm n g) = ((List.range n).filter fun i => (g i).isSome).map Int.ofNat:=by
 show (ents n g).map (fun p => _) = _
 unfold ents
 generalize List.range n = l
 induction l with
 | nil => rfl
 | cons i r ih =>
  cases e : g i with
  | none => simp [List.filterMap_cons,e] at ih ⊢; exact ih
  | some v => simp [List.filterMap_cons,e] at ih ⊢; exact ⟨rfl,ih⟩
end Go.Proofs.YtjhccpijpffahaaGreat
