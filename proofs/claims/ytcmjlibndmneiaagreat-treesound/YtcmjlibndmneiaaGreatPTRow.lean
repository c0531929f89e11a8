import Derived.Test.YtcmjlibndmneiaaGreatPNRPut
import Derived.Lib.AppendZerosOnto
set_option maxRecDepth 100000
set_option linter.all false
set_option maxHeartbeats 8000000
namespace Go.Proofs.YtcmjlibndmneiaaGreat
open Go.RowKit Pl
def Rw(e:TypeId)(w:World)(g:Nat)(cur:List Value):Prop:=w.heap[g]?=some (.cells cur.toArray e (0,0))
section
variable {B:Nat} {e:TypeId} {w w':World} {v:Value} {cs:List Value} {g cap n:Nat} {cur:List Value}
def OwV.rows(h:OwV B e w v cs):(v=.slice none 0 0/\cs=[])\/∃g cap cur,v=.slice (some ⟨g,0,none⟩) cs.length cap/\B<=g/\Rw e w g cur/\cs.length<=cap/\cap<=maxLen/\cur.length=cap/\cur.take cs.length=cs:=by
 rcases h.2 with⟨E,u⟩|⟨g,cap,cur,rfl,I,K,u,H,O,A⟩
 .exact .inl ⟨E,zh0 u⟩
 .refine .inr ⟨g,cap,cur.toList,rfl,I,by unfold Rw;rw[Array.toArray_toList];exact K,u,H,by rw[Array.length_toList];omega,by rw[Nat.mul_one]at A;exact A⟩
def Rw.owV(H:Rw e w g cur)(A:B<=g)(E:cur.length=cap)(K:cap<=maxLen)(O:n<=cap)(u:cur.take n=cs):OwV B e w (.slice (some ⟨g,0,none⟩) n cap) cs:=by
 have I:cs.length=n:=by rw[<-u,zg0];omega
 subst I;exact⟨by simp,.inr ⟨g,cap,cur.toArray,rfl,A,H,O,K,by simp;exact E,by rw[Nat.mul_one];exact u⟩⟩
def Rw.cell(u:Rw e w g cur)(j:Nat):w.cell? ⟨g,j,none⟩=cur[j]?:=by rw[cell_of_row w g j _ _ (0,0) u,List.getElem?_toArray]
def Rw.there(u:Rw e w g cur){j:Nat}(hj:j<cur.length):(w.cell? ⟨g,j,none⟩).isSome=true:=by rw[u.cell,zc0 hj];rfl
def Rw.fz(u:Rw e w g cur)(j:Nat):w.frozen? ⟨g,j,none⟩=false:=frozen_of_row w g j _ _ u
def Rw.shape(u:Rw e w g cur):w.shape? g=some (e,cur.length):=by unfold World.shape?;rw[u];simp
def Rw.lt(u:Rw e w g cur):g<w.heap.size:=(zd0.1 u).1
def Rw.set(u:Rw e w g cur){o:Nat}{vs:List Value}(A:o+vs.length<=cur.length):Rw e (w.setCells g o vs) g (cur.take o++(vs++cur.drop (o+vs.length))):=by have:=zj9 vs o w cur.toArray u (by simpa using A);unfold Rw;rw[this,zw0]
def Rw.drew(u:Rw e w g cur):Rw e w.drew g cur:=u
def Rw.tch{S:Nat->Prop}(u:Rw e w g cur)(E:Tch S w w')(A:¬S g):Rw e w' g cur:=by unfold Rw;rw[E.block g u.lt A];exact u
def Rw.new(w:World)(e:TypeId)(cur:List Value):Rw e (w.alloc (.cells cur.toArray e)) w.heap.size cur:=heap_alloc_new w _
end
structure Trn(B:Nat)(e:TypeId)(w w':World)(v v':Value)(cs:List Value):Prop where
 ow:OwV B e w' v' cs
 tc:Tch (λ k=>v.ownBlock=some k) w w'
 fs:Fsh w v v'
def zac9(S:Nat->Prop)(w:World):Tch S w w.drew:=⟨rfl,rfl,rfl,zn6 _,λ _ _ _=>rfl⟩
def zdb9(S:Nat->Prop)(w:World)(o:Obj):Tch S w (w.alloc o):=Tch.of_below (za9 w o)
def zy9{z:Value}(u:z.cells=#[z])(k:Nat):(Builtin.zeroCells z.cells k).toList=List.replicate k z:=by
 rw[u];simp[Builtin.zeroCells];apply List.ext_getElem
 .simp
 .intro i A E;simp[Nat.mod_one]
def zu9{x:Int}{t:Nat}(h:x=(t:Int))(u:t<=4611686018427387904):wrap64 x=(t:Int):=by unfold wrap64;omega
def wk_nat{x:Int}{t:Nat}(h:x=(t:Int))(u:t<=4611686018427387904):IntKind.i64.wrap x=(t:Int):=by rw[IntKind.wrap_i64];omega
def zej9{x:Int}(h:-4611686018427387904<=x)(u:x<=4611686018427387904):IntKind.i64.wrap x=x:=by rw[IntKind.wrap_i64];omega
def zab9{α:Type}{a b:List α}{n:Nat}(h:a.length=n):(a++b).take n=a:=by rw[List.take_append_of_le_length (by omega),zn5 (by omega)]
def zsm9{α:Type}{a b:List α}{n:Nat}(h:a.length=n):(a++b).drop n=b:=by rw[List.drop_append_of_le_length (by omega),List.drop_of_length_le (by omega),List.nil_append]
