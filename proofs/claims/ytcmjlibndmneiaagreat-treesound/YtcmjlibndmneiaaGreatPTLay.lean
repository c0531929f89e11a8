import Derived.Test.YtcmjlibndmneiaaGreatProg
import Derived.Shelf.Spec.SlicesInsertGrow
import Derived.Shelf.Spec.SearchS
import Derived.Shelf.SlicesG.Cells
set_option maxRecDepth 100000
set_option linter.all false
set_option maxHeartbeats 8000000
namespace Go.Proofs.YtcmjlibndmneiaaGreat
open Go.RowKit Go.Sort Go.Shelf
def Tryz.insS_ren:Go.Shelf.Ren:=⟨λ|22=>52|29=>83|30=>84|36=>112|17=>141|n=>n,λ|24=>91|9=>9|3=>3|4=>4|0=>0|n=>n,λ|n=>n⟩
def Tryz.insS:Go.Proofs.Lays2.n22 Tryz.prog Tryz.insS_ren:={
 mixed:=by kernel_rfl
 f17:=Tryz.func141.trans (congrArg some (by kernel_rfl))
 f22:=Tryz.func52.trans (congrArg some (by kernel_rfl))
 f29:=Tryz.func83.trans (congrArg some (by kernel_rfl))
 f30:=Tryz.func84.trans (congrArg some (by kernel_rfl))
 f36:=Tryz.func112.trans (congrArg some (by kernel_rfl))
 t0:=Tryz.underlying0
 a0:=Tryz.isAgg0
 z0:=Tryz.sizeOf0
 v0:=Tryz.zeroValue0
 t3:=Tryz.underlying3
 a3:=Tryz.isAgg3
 z3:=Tryz.sizeOf3
 v3:=Tryz.zeroValue3
 t4:=Tryz.underlying4
 a4:=Tryz.isAgg4
 z4:=Tryz.sizeOf4
 v4:=Tryz.zeroValue4
 t9:=Tryz.underlying9
 a9:=Tryz.isAgg9
 z9:=Tryz.sizeOf9
 v9:=Tryz.zeroValue9
 t24:=Tryz.underlying91
 a24:=Tryz.isAgg91
 z24:=Tryz.sizeOf91
 v24:=Tryz.zeroValue91
 i9:=by kernel_rfl }
def Tryz.delS_ren:Go.Shelf.Ren:=⟨λ|46=>55|n=>n,λ|25=>91|26=>9|3=>3|4=>4|0=>0|n=>n,λ|n=>n⟩
def Tryz.delS:Go.Proofs.SlLaysN.n46 Tryz.prog Tryz.delS_ren:={
 mixed:=by kernel_rfl
 f46:=⟨Tryz.f55.name,by decide,Tryz.func55.trans (congrArg some (by kernel_rfl))⟩
 t0:=Tryz.underlying0
 a0:=Tryz.isAgg0
 z0:=Tryz.sizeOf0
 v0:=Tryz.zeroValue0
 t3:=Tryz.underlying3
 a3:=Tryz.isAgg3
 z3:=Tryz.sizeOf3
 v3:=Tryz.zeroValue3
 t4:=Tryz.underlying4
 a4:=Tryz.isAgg4
 z4:=Tryz.sizeOf4
 v4:=Tryz.zeroValue4
 t25:=Tryz.underlying91
 a25:=Tryz.isAgg91
 z25:=Tryz.sizeOf91
 v25:=Tryz.zeroValue91
 t26:=Tryz.underlying9
 a26:=Tryz.isAgg9
 z26:=Tryz.sizeOf9
 v26:=Tryz.zeroValue9
 i26:=by kernel_rfl }
