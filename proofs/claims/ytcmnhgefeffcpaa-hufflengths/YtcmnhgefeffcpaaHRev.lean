/-
  Sixteen bits the other way round.
-/
import Derived.Test.YtcmnhgefeffcpaaProg
import Derived.Lib.Strings
import Derived.Lib.Slices
import Derived.Lib.Small
import Derived.Lib.Walk
import Derived.Lib.BitFns
import Derived.Lib.Tables
import Derived.BigRegion
import Derived.BigQuiet
import Derived.Deep.QuietTactic
namespace Go.Proofs.Ytcmnhgefeffcpaa

/-- Sixteen bits, the other way round. -/
def rev16 (x : Int) : Int := bits BinOp.or IntKind.u16 (IntKind.u16.wrap (Lib.rev8 (x / 256))) (IntKind.u16.wrap (IntKind.u16.wrap (Lib.rev8 (x % 256)) * 256))

set_option maxRecDepth 100000 in
set_option maxHeartbeats 1000000 in
theorem rev_lib (x : Int) (w : World) (h0 : 0 ≤ x) (h1 : x ≤ 65535) (hand : bits BinOp.and IntKind.u16 x 255 = x % 256) :
    Calls Try.prog 66 #[.int .u16 x] w fun e w' => e = .returned (.int .u16 (rev16 x)) ∧ w' = w.drew := by
  have hd : 0 ≤ x / 256 ∧ x / 256 ≤ 255 := by omega
  go_enter Try.func66, Try.ntmps66
  go_wp2
  go_region
  go_wp2
  go_ret
  exact ⟨rfl, rfl⟩
end Go.Proofs.Ytcmnhgefeffcpaa
