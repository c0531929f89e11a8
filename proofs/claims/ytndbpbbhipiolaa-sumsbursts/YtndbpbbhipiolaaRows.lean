/-
  No cell of these rows narrows 'for every input' (looked for: loops, veiled, ifaces, maps, wideKeys, modest, calm, conditions, laid).
  DERIVED. THE GIVEN ROWS OF THIS SEAT. 4 by the template 'for every input the law returns true; each argument reads behind the call as it read before'; 0 by the template 'total and deterministic' (their statements: YtndbpbbhipiolaaTotals.lean).
  GIVEN WITH THE SEED: the statements are not yours to turn. If you find one false, say at which input.
  Laid BY PROGRAM, IN A SANDBOX (cutbox-rows.mjs): the forced cells as the released guide's own fill.sh prints them over the translation 867cd6fc9018557d… (all of the seat's roots in one cut). By AI agents, Wed Nov 11 2026. No macro, syntax, notation, axiom, sorry.
-/
import Derived.Test.YtndbpbbhipiolaaChecked
import GoSem.Claim
import GoSem.ClaimJoined
import GoSem.ClaimMapViews
import Derived.JoinedTies
import Derived.KernelRfl
namespace Go.Proofs.Ytndbpbbhipiolaa
/- THE CELL 'sum', in the pinned program and in every row, IS THE sha256 OF THE DUMP (.gsa) THAT YtndbpbbhipiolaaProg.lean LOADS. Nothing in Lean hashes anything: it is a label: what it is worth is what the hold of that sum in a sandbox is worth. -/
noncomputable def Try.pinned : Pinned := { name := "ytndbpbbhipiolaa", sum := "867cd6fc9018557daee27ef8739e186f5fd95f4fc65b2809e01d77898e7ac7b4", checked := Try.checked }
namespace Rows
def none {H : Type} : Left H := { results := [], args := [] }

/-- 'kistlaw05.SumsCrc': WHATEVER THE INPUT: true; the input reads as it did. -/
def sumsCrcSpec : ChangeSpec := { name := "sumsCrc", fn := fun _ => fun
  | [d] => { results := [.lit (.bool true)], args := [d] }
  | _ => none }
def sumsCrcRow : OpenClaim := { program := "ytndbpbbhipiolaa", sum := "867cd6fc9018557daee27ef8739e186f5fd95f4fc65b2809e01d77898e7ac7b4", func := "kist/kistlaw05.SumsCrc", spec := "sumsCrc", apart := false }
def SumsCrcSaid : Prop := sumsCrcRow.holds Try.pinned (OpenSpec.ofChange sumsCrcSpec)

/-- ITS FALSE NEIGHBOUR: 'it returns false'. Refute it at one input. -/
def sumsCrcWrong : ChangeSpec := { name := "sumsCrc", fn := fun _ => fun
  | [d] => { results := [.lit (.bool false)], args := [d] }
  | _ => none }
def SumsCrcWrongFalsely : Prop := sumsCrcRow.holds Try.pinned (OpenSpec.ofChange sumsCrcWrong)

/-- 'kistlaw05.SumsSha': WHATEVER THE INPUT: true; the input reads as it did. -/
def sumsShaSpec : ChangeSpec := { name := "sumsSha", fn := fun _ => fun
  | [d] => { results := [.lit (.bool true)], args := [d] }
  | _ => none }
def sumsShaRow : OpenClaim := { program := "ytndbpbbhipiolaa", sum := "867cd6fc9018557daee27ef8739e186f5fd95f4fc65b2809e01d77898e7ac7b4", func := "kist/kistlaw05.SumsSha", spec := "sumsSha", apart := false }
def SumsShaSaid : Prop := sumsShaRow.holds Try.pinned (OpenSpec.ofChange sumsShaSpec)

/-- ITS FALSE NEIGHBOUR: 'it returns false'. Refute it at one input. -/
def sumsShaWrong : ChangeSpec := { name := "sumsSha", fn := fun _ => fun
  | [d] => { results := [.lit (.bool false)], args := [d] }
  | _ => none }
def SumsShaWrongFalsely : Prop := sumsShaRow.holds Try.pinned (OpenSpec.ofChange sumsShaWrong)

/-- 'kistlaw05.SumsBursts': WHATEVER THE INPUT: true; the input reads as it did. -/
def sumsBurstsSpec : ChangeSpec := { name := "sumsBursts", fn := fun _ => fun
  | [d1, d2, d3] => { results := [.lit (.bool true)], args := [d1, d2, d3] }
  | _ => none }
def sumsBurstsRow : OpenClaim := { program := "ytndbpbbhipiolaa", sum := "867cd6fc9018557daee27ef8739e186f5fd95f4fc65b2809e01d77898e7ac7b4", func := "kist/kistlaw05.SumsBursts", spec := "sumsBursts", apart := false }
def SumsBurstsSaid : Prop := sumsBurstsRow.holds Try.pinned (OpenSpec.ofChange sumsBurstsSpec)

/-- ITS FALSE NEIGHBOUR: 'it returns false'. Refute it at one input. -/
def sumsBurstsWrong : ChangeSpec := { name := "sumsBursts", fn := fun _ => fun
  | [d1, d2, d3] => { results := [.lit (.bool false)], args := [d1, d2, d3] }
  | _ => none }
def SumsBurstsWrongFalsely : Prop := sumsBurstsRow.holds Try.pinned (OpenSpec.ofChange sumsBurstsWrong)

/-- 'kistlaw05.SumsStay': WHATEVER THE INPUT: true; the input reads as it did. -/
def sumsStaySpec : ChangeSpec := { name := "sumsStay", fn := fun _ => fun
  | [d] => { results := [.lit (.bool true)], args := [d] }
  | _ => none }
def sumsStayRow : OpenClaim := { program := "ytndbpbbhipiolaa", sum := "867cd6fc9018557daee27ef8739e186f5fd95f4fc65b2809e01d77898e7ac7b4", func := "kist/kistlaw05.SumsStay", spec := "sumsStay", apart := false }
def SumsStaySaid : Prop := sumsStayRow.holds Try.pinned (OpenSpec.ofChange sumsStaySpec)

/-- ITS FALSE NEIGHBOUR: 'it returns false'. Refute it at one input. -/
def sumsStayWrong : ChangeSpec := { name := "sumsStay", fn := fun _ => fun
  | [d] => { results := [.lit (.bool false)], args := [d] }
  | _ => none }
def SumsStayWrongFalsely : Prop := sumsStayRow.holds Try.pinned (OpenSpec.ofChange sumsStayWrong)

/- THE SECOND FORM. 'bulk': how many values and letters a reading holds, each counted each time it is reached (what is shared counts as often as it is met; a slice's spare places count too). A statement '..UptoSaid' is the law's where the arguments, and the package variables that the reading takes, are together of bulk at most 1048576: NARROWER than '..Said'. Prove '..Said' where nothing that the law and all that it calls make is longer than what came in: it says more and counts as full. Else prove '..UptoSaid'. A law counts once. -/
mutual
def uptoBulk {H : Type} : DataW H → Nat
  | .lit (.string bytes) => bytes.length + 1
  | .lit _ => 1
  | .nil => 1
  | .ptr d => uptoBulk d + 1
  | .slice elems spare => uptoBulkAll elems + uptoBulkAll spare + 1
  | .agg parts => uptoBulkAll parts + 1
  | .iface _ d => uptoBulk d + 1
  | .map entries => uptoBulkEntries entries + 1
  | .held _ => 1
def uptoBulkAll {H : Type} : List (DataW H) → Nat
  | [] => 0
  | d :: r => uptoBulk d + uptoBulkAll r
def uptoBulkEntries {H : Type} : List (Lit × DataW H) → Nat
  | [] => 0
  | x :: r => uptoBulkEntry x + uptoBulkEntries r
def uptoBulkEntry {H : Type} : Lit × DataW H → Nat
  | (.string bytes, d) => bytes.length + uptoBulk d + 1
  | (_, d) => uptoBulk d + 1
 end
def uptoSmall : (H : Type) → List (DataW H) → Bool := fun _ ds => decide (uptoBulkAll ds ≤ 1048576)
def OpenSpec.upto (s : _root_.Go.ChangeSpec) : _root_.Go.OpenSpec := { _root_.Go.OpenSpec.ofChange s with cond := some uptoSmall }

/-- 'kistlaw05.SumsCrc', WHERE WHAT IT READS IS OF BULK AT MOST 1048576: true; the input reads as it did. -/
def sumsCrcUptoRow : OpenClaim := { program := "ytndbpbbhipiolaa", sum := "867cd6fc9018557daee27ef8739e186f5fd95f4fc65b2809e01d77898e7ac7b4", func := "kist/kistlaw05.SumsCrc", spec := "sumsCrc", apart := false, narrowed := true }
def SumsCrcUptoSaid : Prop := sumsCrcUptoRow.holds Try.pinned (OpenSpec.upto sumsCrcSpec)

/-- 'kistlaw05.SumsSha', WHERE WHAT IT READS IS OF BULK AT MOST 1048576: true; the input reads as it did. -/
def sumsShaUptoRow : OpenClaim := { program := "ytndbpbbhipiolaa", sum := "867cd6fc9018557daee27ef8739e186f5fd95f4fc65b2809e01d77898e7ac7b4", func := "kist/kistlaw05.SumsSha", spec := "sumsSha", apart := false, narrowed := true }
def SumsShaUptoSaid : Prop := sumsShaUptoRow.holds Try.pinned (OpenSpec.upto sumsShaSpec)

/-- 'kistlaw05.SumsBursts', WHERE WHAT IT READS IS OF BULK AT MOST 1048576: true; the input reads as it did. -/
def sumsBurstsUptoRow : OpenClaim := { program := "ytndbpbbhipiolaa", sum := "867cd6fc9018557daee27ef8739e186f5fd95f4fc65b2809e01d77898e7ac7b4", func := "kist/kistlaw05.SumsBursts", spec := "sumsBursts", apart := false, narrowed := true }
def SumsBurstsUptoSaid : Prop := sumsBurstsUptoRow.holds Try.pinned (OpenSpec.upto sumsBurstsSpec)

/-- 'kistlaw05.SumsStay', WHERE WHAT IT READS IS OF BULK AT MOST 1048576: true; the input reads as it did. -/
def sumsStayUptoRow : OpenClaim := { program := "ytndbpbbhipiolaa", sum := "867cd6fc9018557daee27ef8739e186f5fd95f4fc65b2809e01d77898e7ac7b4", func := "kist/kistlaw05.SumsStay", spec := "sumsStay", apart := false, narrowed := true }
def SumsStayUptoSaid : Prop := sumsStayUptoRow.holds Try.pinned (OpenSpec.upto sumsStaySpec)

end Rows
end Go.Proofs.Ytndbpbbhipiolaa
