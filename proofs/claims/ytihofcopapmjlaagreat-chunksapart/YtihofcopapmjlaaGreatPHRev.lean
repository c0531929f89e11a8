import Derived.Test.YtihofcopapmjlaaGreatProg
import Derived.Lib.Strings
import Derived.Lib.Slices
import Derived.Lib.Small
import Derived.Lib.Walk
import Derived.Lib.BitFns
import Derived.BigQuiet
set_option maxRecDepth 100000
set_option linter.all false
set_option maxHeartbeats 8000000
namespace Go.Proofs.YtihofcopapmjlaaGreat
open Go.Proofs.Tryz
def IU(x:Int):Int:=bits BinOp.or IntKind.u16 (IntKind.u16.wrap (Lib.rev8 (x / 256))) (IntKind.u16.wrap (IntKind.u16.wrap (Lib.rev8 (x % 256))*256))
def AFB(x w)(f:0<=x)(q:x<=65535)(r:bits BinOp.and IntKind.u16 x 255=x % 256):
 Calls prog 248 #[.int .u16 x] w λ e w'=>e=.returned (.int .u16 (IU x))/\w'=w.drew:=by
 have A:0<=x / 256/\x / 256<=255:=by omega
 go_enter func248,ntmps248
 go_wp2
 go_region
 go_wp2;go_ret;exact⟨rfl,rfl⟩
