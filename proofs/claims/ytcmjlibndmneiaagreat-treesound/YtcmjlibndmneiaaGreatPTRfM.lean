import Derived.Test.YtcmjlibndmneiaaGreatPTEnt
import Derived.Test.YtcmjlibndmneiaaGreatPTRow
import Derived.Test.YtcmjlibndmneiaaGreatPTSe
set_option maxRecDepth 100000
set_option linter.all false
set_option maxHeartbeats 8000000
namespace Go.Proofs.YtcmjlibndmneiaaGreat
open Go.RowKit Pl
def mayE(key val:ByteArray):Bool:=!eqs key eS&&(decide (key.size<=24)&&decide (val.size<=24))
def zof9{key val:ByteArray}:mayE key val=true↔key≠eS/\key.size<=24/\val.size<=24:=by
 unfold mayE;rw[Bool.and_eq_true,Bool.and_eq_true,zm0,zm0,Bool.not_eq_true'];constructor
 .rintro⟨h,u⟩;exact⟨λ e=>(by rw[eqsP.2 e]at h;cases h),u⟩
 .rintro⟨h,u⟩;exact⟨eqs_ne h,u⟩
def zve9(key val:ByteArray)(a0:key.size<=4611686018427387904)(a1:val.size<=4611686018427387904)(w:World):
 Calls Tryz.prog 31 #[.string key,.string val] w λ e w'=>e=.returned (.bool (mayE key val))/\w'=w:=by
 obtain⟨E,T⟩:=exN key.toList.isEmpty;have K:eqs key eS=E:=by rw[<-T];unfold eqs eS;simp
 obtain⟨m,H⟩:=exH (mayE key val);have u:Hid (m=(!E&&(decide (key.size<=24)&&decide (val.size<=24)))):=by show _=_;rw[<-H.o];unfold mayE;rw[K]
 rw[H.o];clear H K
 go_enter Tryz.func31,Tryz.ntmps31
 cases E with
 | true=>
  obtain rfl:m=false:=by rw[u.o];rfl
  clear u;go_wp2_with fail;go_ret;exact⟨rfl,rfl⟩
 | false=>
  by_cases O:key.size<=24
  .have Y:decide ((key.size:Int)<=24)=true:=by rw[zm0];omega
   have A:=zm1 O;by_cases Q:val.size<=24
   .have l2:decide ((val.size:Int)<=24)=true:=by rw[zm0];omega
    have I:=zm1 Q;(obtain rfl:m=true:=by rw[u.o,A,I];rfl);clear u;go_wp2_with fail;go_ret;exact⟨rfl,rfl⟩
   .have l2:decide ((val.size:Int)<=24)=false:=by rw[zn4];omega
    have I:=zl1 Q;(obtain rfl:m=false:=by rw[u.o,A,I];rfl);clear u;go_wp2_with fail;go_ret;exact⟨rfl,rfl⟩
  .have Y:decide ((key.size:Int)<=24)=false:=by rw[zn4];omega
   have A:=zl1 O;(obtain rfl:m=false:=by rw[u.o,A];rfl);clear u;go_wp2_with fail;go_ret;exact⟨rfl,rfl⟩
