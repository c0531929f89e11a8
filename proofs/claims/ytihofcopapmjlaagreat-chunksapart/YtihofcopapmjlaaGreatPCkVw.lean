import Derived.Test.YtihofcopapmjlaaGreatPPkBody
import Derived.Test.YtihofcopapmjlaaGreatPDMap
import Derived.Test.YtihofcopapmjlaaGreatPANew
import Derived.Shelf.Abstract
set_option maxRecDepth 100000
set_option linter.all false
set_option maxHeartbeats 8000000
namespace Go.Proofs.YtihofcopapmjlaaGreat
section
open Go.RowKit
def FD(s:CS)(D:DS):Prop:=∀n:Nat,n∈s.c->Go.Proofs.YtihofcopapmjlaaGreat.getE (n:Int) (D.has n)=0/\s.B n=Go.Proofs.YtihofcopapmjlaaGreat.getB (n:Int) (D.has n)
def Gv(e:Int)(b:Int×List Int):Int×Int×List Int:=if e=0 then(0,b)else(e,0,[])
def FV(s:CS)(D:DS)(x:Int):Int×Int×List Int:=Gv (s.getE D x) (s.getB D x)
def LF(D:DS)(x:Int):Int×Int×List Int:=if Bi D.L.length x=true then Gv (Go.Proofs.YtihofcopapmjlaaGreat.getE x (D.has x.toNat)) (Go.Proofs.YtihofcopapmjlaaGreat.getB x (D.has x.toNat))else(2,0,[])
def AH3{e}(h:e≠0)(b):Gv e b=(e,0,[]):=if_neg h
def AH4(b):Gv 0 b=(0,b):=if_pos rfl
section
variable {s:CS} {D:DS}
def Jo{N x}(h:Bi N x=true):((x.toNat:Nat):Int)=x:=by have:=Ff.1 h;omega
def Wd(f:FD s D){x}(h:x.toNat∉s.d\/Bi D.L.length x=false):FV s D x=LF D x:=by
 unfold FV LF CS.getE CS.getB;cases hk:Bi D.L.length x with
 | false=>simp only[if_false,Bool.false_eq_true];exact AH3 (by decide) _
 | true=>
  have q:=h.resolve_right (by grind);simp only[if_true];by_cases hc:x.toNat∈s.c
  .rw[if_pos (.inr hc),if_pos (.inr hc)];have:=f _ hc;rw[Jo hk]at this
   grind
  grind
def NI{x}(f:Bi D.L.length x=true)(h:x.toNat∈s.d):FV s D x=Gv 0 (s.B x.toNat):=by
 unfold FV CS.getE CS.getB
 grind
def AAa(f:FD s D)(x)(h:x.toNat∉s.d)(r:0<=x):(s.keep x.toNat (s.getB D x)).d=s.d:=by show Az s.d _=_;exact MT (λ m q e=>h (by grind))
def Of{x}(h:s.getE D x=0):Bi D.L.length x=true:=by
 unfold CS.getE at h
 grind
def AH5(r:FD s D){x}(f:s.getE D x=0)(A:x.toNat∉s.d):Go.Proofs.YtihofcopapmjlaaGreat.getE x (D.has x.toNat)=0/\s.getB D x=Go.Proofs.YtihofcopapmjlaaGreat.getB x (D.has x.toNat):=by
 have q:=Of f;unfold CS.getE at f;unfold CS.getB;rw[if_pos q]at f;rw[if_pos q];by_cases hc:x.toNat∈s.c
 .have:=r _ hc;rw[Jo q]at this
  grind
 grind
def FD.get(f:FD s D)(x):FD (s.getS D x) D:=by
 unfold CS.getS;split
 .rename_i h;have q:=Of h.1;have hv:=AH5 f h.1 h.2;intro n r;show _/\Bq s.B x.toNat (s.getB D x) n=_;rcases ABh r with e|⟨e,A⟩
  .subst e;rw[Ld,Jo q];exact hv
  .rw[JL _ _ A];exact f n e
 .exact f
def AH6(E:FD s D)(x y):FV (s.getS D x) D y=FV s D y:=by
 by_cases f:y.toNat∉s.d\/Bi D.L.length y=false
 .rw[Wd E f,Wd (E.get x)];rcases f with f|f;left;unfold CS.getS;split;exact λ e=>f (BW.1 e).1;exact f
  grind
 .have A:y.toNat∈s.d:=Classical.byContradiction λ e=>f (.inl e);have I:Bi D.L.length y=true:=by grind
  rw[NI I A];by_cases q:s.getE D x=0/\x.toNat∉s.d;have r:s.getS D x=s.keep x.toNat (s.getB D x):=if_pos q;have J:y.toNat≠x.toNat:=λ e=>q.2 (by grind);have K:=Jo (Of q.1);rw[r,NI I (by rw[AAa E x q.2 (by omega)];exact A)];show Gv 0 (Bq s.B x.toNat _ y.toNat)=_;rw[JL _ _ J];have r:s.getS D x=s:=if_neg q;rw[r,NI I A]
def FD.put(f:FD s D){N}(x k ys):FD (s.putS N x k ys) D:=by unfold CS.putS;split;rename_i h;intro n A;have E:=A;obtain⟨q,r⟩:=BW.1 E;show _/\Bq s.B x.toNat (k,ys) n=_;rw[JL _ _ (λ e=>r (by rw[e]))];exact f n q;exact f
def AH7(J:FD s D)(x k ys)(r:s.putE D.L.length x k ys=0)(y):FV (s.putS D.L.length x k ys) D y=Fa (FV s D) x (Gv 0 (k,ys)) y:=by
 have A:Bi D.L.length x=true:=by
  unfold CS.putE at r
  grind
 have q:s.putS D.L.length x k ys=s.lay x.toNat (k,ys):=if_pos r;have K:=Jo A;by_cases e:y=x;subst e;rw[ZD,q,NI A (Iw.2 (.inl rfl))];show Gv 0 (Bq s.B _ _ _)=_;rw[Ld]
 .rw[ZC _ _ e,q];unfold FV CS.getE CS.getB;cases hk:Bi D.L.length y with
  | false=>rfl
  | true=>
   have O:=Jo hk;(have I:y.toNat≠x.toNat:=by omega);have E:(y.toNat∈(s.lay x.toNat (k,ys)).d\/y.toNat∈(s.lay x.toNat (k,ys)).c)↔(y.toNat∈s.d\/y.toNat∈s.c):=by
    show(_∈JZ _ _\/_∈Az _ _)↔_;rw[Iw,BW]
    grind
   simp only[if_true,E];by_cases f:y.toNat∈s.d\/y.toNat∈s.c;rw[if_pos f,if_pos f,if_pos f];show Gv 0 (Bq s.B _ _ _)=_;rw[JL _ _ I]
   grind
end
end
section
open Go.RowKit
def Iz(ops:Array Oper)(i:Nat)(t:Option Tmp)(x:Op)(gd:Option (Nat×Bool)):Prop:=(ops[i]?).map (λ o=>(o.dst,o.op,o.guard))=some (t,x,gd)
section
variable {P:Program} {md:Region.Mode} {ops:Array Oper} {Q:Exit->Act->World->Prop} {S:World->Prop} {fuel:Nat} {listed:Array Bool} {a:Act} {w:World}
def Iz.get{i t x f}(h:Iz ops i t x f):∃o,ops[i]?=some o/\o.dst=t/\o.op=x/\o.guard=f:=by
 unfold Iz at h;cases e:ops[i]? with
 | none=>rw[e]at h;cases h
 | some o=>rw[e]at h;simp only[Option.map_some,Option.some.injEq,Prod.mk.injEq]at h;exact⟨o,rfl,h.1,h.2.1,h.2.2⟩
def Qg{o j b ys}(f:o.guard=some (j,b))(h:ys j=some b):Region.wanted o ys=true:=by simp[Region.wanted,f,h]
def AIC{o j b c ys}(f:o.guard=some (j,b))(h:ys j=some c)(hc:c≠b):Region.wanted o ys=false:=by simp[Region.wanted,f,h,hc]
def M7(i t x j b v)(B:Iz ops i t x (some (j,b)))(I:Region.noSelect ops=true)(r:Region.free md ops listed i=true)(hr:(Region.ready md ops listed).contains i=true)(f:∀c a w,Q (.panic c) (a.put t v) w->Q (.panic c) a w)(J:yielded ops a.tmps j=some b)(L:∀o,o.op=x->∀w',S w'->(execOp a.eval o).run P w'=.ok (Next.value v) w')(q:S w)(h:wpAnyH P md ops Q S fuel (listed.setIfInBounds i true) (a.put t v) w):wpAnyH P md ops Q S (fuel+1) listed a w:=by
 obtain⟨o,E,rfl,rfl,A⟩:=B.get;exact wpAnyH_take E I r hr f (.inl ⟨Qg A J,λ w' K=>L o rfl w' K⟩) q h
def Kq(i t x j b c)(B:Iz ops i t x (some (j,b)))(I:Region.noSelect ops=true)(r:Region.free md ops listed i=true)(hr:(Region.ready md ops listed).contains i=true)(f:∀c a w,Q (.panic c) (a.put t undef) w->Q (.panic c) a w)(J:yielded ops a.tmps j=some c)(hc:c≠b)(q:S w)(h:wpAnyH P md ops Q S fuel (listed.setIfInBounds i true) (a.put t undef) w):wpAnyH P md ops Q S (fuel+1) listed a w:=by
 obtain⟨o,E,rfl,rfl,A⟩:=B.get;exact wpAnyH_take E I r hr f (.inr ⟨AIC A J hc,rfl⟩) q h
def AHE(i t ty y j q b f cs d)(K:Iz ops i t (.load ty y) (some (j,q)))(T:Region.noSelect ops=true)(I:Region.free md ops listed i=true)(hr:(Region.ready md ops listed).contains i=true)(A:∀c a w,Q (.panic c) (a.put t (.agg cs.toArray)) w->Q (.panic c) a w)(W:yielded ops a.tmps j=some q)(X:a.eval y=.pointer (some ⟨b,f,none⟩))(hc:∀w',S w'->w'.rangeAt b f cs)(U:P.underlying ty=some d)(E:d.isRow=true)(L:(P.info? ty).map (·.size)=some cs.length)(B:S w)(h:wpAnyH P md ops Q S fuel (listed.setIfInBounds i true) (a.put t (.agg cs.toArray)) w):wpAnyH P md ops Q S (fuel+1) listed a w:=by
 obtain⟨o,O,rfl,r,J⟩:=K.get;exact wpAnyH_take O T I hr A (yieldsIf_load_mid (Qg J W) ty y r b f X cs d hc U E L) B h
def AEp(i t x j b)(J:Iz ops i t x (some (j,b)))(hr:Region.ready md ops listed=[i])(O:yielded ops a.tmps j=some b)(h:∀o K,o.dst=t->o.op=x->(∀f w',S w'->wpAnyH P md ops Q S fuel (listed.setIfInBounds i true) f w'->K f w')->Oper.wp P o a w K Q):wpAnyH P md ops Q S (fuel+1) listed a w:=by
 obtain⟨o,L,q,r,I⟩:=J.get;refine wpAnyH_ready hr (by simp) (AllReadyH.cons L (λ K A=>?_) AllReadyH.nil);rw[if_pos (Qg I O)];exact h o K q r (λ f w' B E=>A.out f w' B (λ _=>E))
def Dp{o K f xs I}(A:Enters P f)(B:o.op=.call { callee:=.value (.func f),args:=xs,argTypes:=I }){vs}(hv:xs.map a.eval=vs){R}(hc:Calls P f vs w R)(h:∀e q,R e q->∃v,e=.returned v/\K (a.put o.dst v) q):Oper.wp P o a w K Q:=by
 have E:(execOp a.eval o).run P w=.ok (.enter f vs) w:=by have r:=A vs w;simp[execOp,B,resolve,invoke,hv,Act.eval,Deferred.ofValue,r]
 unfold Oper.wp;rw[E];refine hc.mono ?_
 grind
end
