import Derived.RangeFuncNested
import Derived.RangeFuncBound
import Derived.Shelf.RegionOpen
import Derived.OwnWalkIn
import Derived.LoopNIn
import Derived.LoopIn
import Derived.Test.YtihofcopapmjlaaGreatPMem
import Derived.Test.YtihofcopapmjlaaGreatProg
set_option maxRecDepth 100000
set_option linter.all false
set_option maxHeartbeats 8000000
namespace Go.Proofs.YtihofcopapmjlaaGreat
open Go.Proofs.Tryz
open Go.RowKit Go.Shelf
attribute [local go_sem] Oper.semAt_some
def Ci{α:Type}(g:Nat->α)(k:Nat):List α:=(List.range k).map g
def QZ{α}(g:Nat->α)(k):Ci g (k+1)=Ci g k++[g k]:=by simp[Ci,List.range_succ]
def WX{α}(g:Nat->α)(k):(Ci g k).length=k:=by simp[Ci]
def KB(n₀ Bs:Nat)(W W':World):Prop:=Below n₀ W W'/\∀v,W.cell? ⟨Bs,0,none⟩=some v->W'.cell? ⟨Bs,0,none⟩=some v
def KB.t{f Bs A B C}(h:KB f Bs A B)(k:KB f Bs B C):KB f Bs A C:=⟨h.1.trans k.1,λ v hv=>k.2 v (h.2 v hv)⟩
def KB.b{q Bs}{w:World}(B:q<=w.heap.size)(W l o f)(A:w.heap.size<=l)(h:W.heap[l]?=some o)(hc:o.isCells=false)(E:o.isWalk=false):KB q Bs W (W.putObj l f):=by refine⟨belowK_b B W l o f A h hc E,λ v hv=>?_⟩;exact cell_kept hv (grownBy_putObj' W l f) (λ r e=>by grind)
def Xe{α}(K:α->Array Value)(g F n)(h8:F.fn 253)(a3:F.round=none)(hn:1<=n)(l Bs A b B cap)(f:List Int)(a8:f.length*8<=140737488351232)(hb:b<A)(hg:∀j,j<f.length->K (g j)=#[.int .i64 ((f.length-1-j:Nat):Int),.int .i64 (f[f.length-1-j]?.getD 0)])(J I:List α->World->Prop)(hY:∀pre x W,J pre W->pre.length<f.length->YieldAt F (n-1) prog l (K x) W λ e W'=>
  (e=.returned (.bool true)/\J (pre++[x]) W'/\KB A Bs W W')\/(e=.returned (.bool false)/\I (pre++[x]) W'))(W)(a0:W.cell? ⟨Bs,0,none⟩=some (.slice (some ⟨b,B,none⟩) f.length cap))(hc:∀j,j<f.length->W.cell? ⟨b,B+j,none⟩=some (.int .i64 (f[j]?.getD 0)))(Z:J [] W):
 CallsIn F n prog 253 #[.func (.yield l) #[] #[],.pointer (some ⟨Bs,0,none⟩)] W λ e W'=>(∃v,e=.returned v)/\
  ((∃ys,ys=Ci g f.length/\J ys W')\/(∃pre,(∃k,k<=f.length/\pre=Ci g k)/\I pre W')):=by
 refine callsIn_of_wp func253 rfl h8 ?_ a3;simp only[ntmps253,List.size_toArray,zh0,List.length_nil,Nat.reduceAdd,Nat.reduceSub,Array.replicate_succ,Array.replicate_zero,List.push_toArray,List.append_toArray,List.nil_append,List.cons_append]
 gi_wp2
 gi_loopw [3] (λ i wr=>∃k:Nat,k<=f.length/\i=.int .i64 ((f.length:Int)-1-k)/\J (Ci g k) wr/\KB A Bs W wr)
  (λ i _=>((intOf i)+1).toNat)
 case atStart=>exact⟨0,AI _,by simp,Z,Below.refl _ _,λ _ h=>h⟩
 case round=>
  obtain⟨k,hk,rfl,L,r⟩:=hrel;have a7:=r.2 _ a0;by_cases O:k<f.length
  .obtain⟨m,q⟩:∃m:Nat,f.length-1-k=m:=⟨_,rfl⟩
   (have T:(f.length:Int)-1-k=(m:Int):=by omega);(have a2:m<f.length:=by omega);have a1:=(r.1.cell (p:=⟨b,B+m,none⟩) hb).trans (hc m a2);obtain⟨fn,a9,a5,a6,U,hR⟩:=hY _ (g k) wr L (by rw[WX];exact O);rw[hg k O,q]at U;obtain⟨y,a4⟩:=exH (f[m]?.getD 0);rw[a4.o]at a1 U;have E:=z6 (QZ g k);rw[T];have HM:=z6 q;clear q;(have X:Hid ((f.length:Int)-1-((k+1:Nat):Int)=(m:Int)-1):=by show _=_;omega);clear T
   gi_wp2
   refine hR.mono ?_;rintro e W3 (⟨rfl,hJ3,hk3⟩|⟨rfl,hJx3⟩)
   .gi_wp2
    go_roundw
    (case rel=>exact⟨k+1,by omega,by rw[X.o],by rw[E.o];exact hJ3,r.t hk3⟩);case measure=>simp[intOf]
   .gi_wp2
    refine bodyPost_ret (results_none rfl _ _ _) rfl ?_;exact⟨⟨_,rfl⟩,.inr ⟨_,⟨k+1,by omega,E.o.symm⟩,hJx3⟩⟩
  .obtain rfl:k=f.length:=by omega
   (have Y:(f.length:Int)-1-(f.length:Int)=-1:=by omega);rw[Y]
   gi_wp2
   go_end0
   exact⟨⟨_,rfl⟩,.inl ⟨_,rfl,L⟩⟩
def Xf{α:Type}(F n)(q:F.fn 253)(A:F.round=none)(l Bs cap a)(J:List α->World->Prop)(W)(B:W.cell? ⟨Bs,0,none⟩=some (.slice a 0 cap))(f:J [] W):
 CallsIn F n prog 253 #[.func (.yield l) #[] #[],.pointer (some ⟨Bs,0,none⟩)] W λ e W'=>(∃v,e=.returned v)/\J [] W':=by
 refine callsIn_of_wp func253 rfl q ?_ A;simp only[ntmps253,List.size_toArray,zh0,List.length_nil,Nat.reduceAdd,Nat.reduceSub,Array.replicate_succ,Array.replicate_zero,List.push_toArray,List.append_toArray,List.nil_append,List.cons_append]
 gi_wp2
 gi_loopw [3] (λ i wr=>i=.int .i64 (-1)/\J [] wr) (λ _ _=>0)
 case atStart=>exact⟨rfl,f⟩
 case round=>
  obtain⟨rfl,r⟩:=hrel
  gi_wp2
  go_end0
  exact⟨⟨_,rfl⟩,r⟩
def Xh{α}(A:α->Array Value)(g F n)(I:F.fn 253)(T:F.round=none)(hn:1<=n)(Bs r a cap f)(a2:f.length*8<=140737488351232)(w)(X:Bs<w.heap.size)(a1:r<=w.heap.size)(hc:w.cell? ⟨Bs,0,none⟩=some (.slice a f.length cap))(Y:f=[]\/∃b q,a=some ⟨b,q,none⟩/\b<r/\∀j,j<f.length->w.cell? ⟨b,q+j,none⟩=some (.int .i64 (f.getD j 0)))(hg:∀j,j<f.length->A (g j)=#[.int .i64 ((f.length-1-j:Nat):Int),.int .i64 (f[f.length-1-j]?.getD 0)]):
 SeqStopsK F n prog 253 #[.pointer (some ⟨Bs,0,none⟩)] A (KB r Bs) (λ ys=>ys=Ci g f.length)
  (λ pre=>∃k,k<=f.length/\pre=Ci g k) f.length w:=λ l J U W K _ _ Z E=>by
 have O:=(K.cell (p:=⟨Bs,0,none⟩) X).trans hc;rcases Y with rfl|⟨b,q,rfl,L,a0⟩
 .exact(Xf F n I T l Bs cap a J W O E).mono λ e W' ⟨he,B⟩=>⟨he,.inl ⟨_,rfl,B⟩⟩
 .refine Xe A g F n I T hn l Bs r b q cap f a2 L hg J U Z W O (λ j B=>?_) E;rw[(K.mono a1).cell (p:=⟨b,q+j,none⟩) L,a0 j B,AP]
def Xg(F n)(q:F.fn 230)(r:F.round=none)(a f cap w):
 CallsIn F n prog 230 #[.slice a f cap] w λ e w'=>e=.returned (.func (.func 253) #[] #[.pointer (some ⟨w.heap.size,0,none⟩)])/\w'=w.alloc (.cells #[.slice a f cap] 23):=by
 refine callsIn_of_wp func230 rfl q ?_ r;simp only[ntmps230,List.size_toArray,zh0,List.length_nil,Nat.reduceAdd,Nat.reduceSub,Array.replicate_succ,Array.replicate_zero,List.push_toArray,List.append_toArray,List.nil_append,List.cons_append]
 gi_wp2
 go_ret;exact⟨rfl,rfl⟩
