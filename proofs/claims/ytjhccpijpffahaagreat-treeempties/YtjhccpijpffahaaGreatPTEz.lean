import Derived.Test.YtjhccpijpffahaaGreatPLawTEmp
import Derived.Test.YtjhccpijpffahaaGreatPTArgE
set_option maxRecDepth 100000
set_option linter.unusedVariables false
set_option linter.unusedSimpArgs false
set_option maxHeartbeats 8000000
namespace Go.Proofs.YtjhccpijpffahaaGreat
theorem zuc9 : True:=trivial
end Go.Proofs.YtjhccpijpffahaaGreat
