import Derived.Test.YtihofcopapmjlaaGreatPSRot
import Derived.Test.YtihofcopapmjlaaGreatPBSum
set_option maxRecDepth 100000
set_option linter.all false
set_option maxHeartbeats 8000000
namespace Go.Proofs.YtihofcopapmjlaaGreat
open Go.Proofs.Tryz
open Go.RowKit Pl
section
variable {P:Program}
def Wm(w){q A o a Q}(I:o.guard=none)(ty r)(J:o.op=.build ty r)(f)(E:P.built ty (r.map fun(i,x)=>(i,a.eval x)).toList=some f)(h:wpList P q Q A (a.put o.dst (.agg f)) w):wpList P q Q (o::A) a w:=by
 refine wpList_plain I λ K B=>?_;have L:=run_build (P:=P) w ty _ f E;unfold Oper.wp execOp;simp only[J,Sem.run_bind,L,Result.andThen_ok,Sem.run_pure];exact B _ _ h
end
def AAF(w):Calls prog 55 #[] w λ e w'=>e=.returned (.agg (Ag .u32 8 ER.at_).toArray)/\Below w.heap.size w w':=by
 obtain⟨L,A⟩:=zero_of_info TG;have q:=z6 A;obtain⟨Z,r⟩:=exH ((Ag .u32 8 (λ _=>0)).toArray);rw[r.o]at L;have I:Hid (Z.size=8):=by show _=_;rw[<-r.o];exact Gu _ _ _
 obtain⟨F,hF⟩:=exH (Ag .u32 8 ER.at_);have E:Hid (F.length=8):=by show _=_;rw[<-hF.o];exact GO _ _ _
 have f:Hid (F.toArray.size=8):=by show _=_;rw[<-hF.o];exact Gu _ _ _
 have B:Hid (F.toArray.all (·.oneCell')=true):=by show _=_;rw[<-hF.o];exact IZ _ _ _
 rw[hF.o];clear A
 go_enter func55,ntmps55
 go_wp2_with(first
  | (with_reducible (show wpList _ _ _ (Oper.mk _ (Op.build _ _) _ _ _ _::_) _ _);refine Wm _ rfl 136 _ rfl F.toArray ?_ ?_;(· rw[<-hF.o];kernel_rfl))
  | (with_reducible (show wpList _ _ _ (Oper.mk _ (Op.store _ _ _) _ _ _ _::_) _ _);refine LJ w rfl 136 (.tmp 0) (.tmp 1) rfl Z F.toArray rfl rfl (by rw[f.o];exact q.o) (by rw[f.o,I.o]) B.o ?_))
 have K:=Fn .u32 w 136 8 ER.at_;rw[hF.o]at K;have J:=run_loadVar_mid (P:=prog) (w.alloc (.cells F.toArray 136)) w.heap.size 0 136 F _ (by
  have:=(Fn .u32 w 136 8 ER.at_).range;rw[hF.o]at this;exact this) underlying136 rfl (by rw[E.o];exact q.o)
 refine bodyPost_ret (v:=.agg F.toArray) ?_ rfl ⟨rfl,?_⟩;exact Kl (p:=0) (ty:=136) rfl _ _ _ w.heap.size _ rfl J;exact(Below.refl _ _).alloc (AE _) _
def AC4(w):Calls prog 56 #[] w λ e w'=>e=.returned (.agg (Ag .u32 64 kF).toArray)/\Below w.heap.size w w':=by
 obtain⟨L,A⟩:=zero_of_info MP;have q:=z6 A;obtain⟨Z,r⟩:=exH ((Ag .u32 64 (λ _=>0)).toArray);rw[r.o]at L;have I:Hid (Z.size=64):=by show _=_;rw[<-r.o];exact Gu _ _ _
 obtain⟨F,hF⟩:=exH (Ag .u32 64 kF);have E:Hid (F.length=64):=by show _=_;rw[<-hF.o];exact GO _ _ _
 have f:Hid (F.toArray.size=64):=by show _=_;rw[<-hF.o];exact Gu _ _ _
 have B:Hid (F.toArray.all (·.oneCell')=true):=by show _=_;rw[<-hF.o];exact IZ _ _ _
 rw[hF.o];clear A
 go_enter func56,ntmps56
 go_wp2_with(first
  | (with_reducible (show wpList _ _ _ (Oper.mk _ (Op.build _ _) _ _ _ _::_) _ _);refine Wm _ rfl 138 _ rfl F.toArray ?_ ?_;(· rw[<-hF.o];kernel_rfl))
  | (with_reducible (show wpList _ _ _ (Oper.mk _ (Op.store _ _ _) _ _ _ _::_) _ _);refine LJ w rfl 138 (.tmp 0) (.tmp 1) rfl Z F.toArray rfl rfl (by rw[f.o];exact q.o) (by rw[f.o,I.o]) B.o ?_))
 have K:=Fn .u32 w 138 64 kF;rw[hF.o]at K;have J:=run_loadVar_mid (P:=prog) (w.alloc (.cells F.toArray 138)) w.heap.size 0 138 F _ (by
  have:=(Fn .u32 w 138 64 kF).range;rw[hF.o]at this;exact this) underlying138 rfl (by rw[E.o];exact q.o)
 refine bodyPost_ret (v:=.agg F.toArray) ?_ rfl ⟨rfl,?_⟩;exact Kl (p:=0) (ty:=138) rfl _ _ _ w.heap.size _ rfl J;exact(Below.refl _ _).alloc (AE _) _
