import Derived.Test.YtihofcopapmjlaaGreatPANew
import Derived.StillTail
set_option maxRecDepth 100000
set_option linter.all false
set_option maxHeartbeats 8000000
namespace Go.Proofs.YtihofcopapmjlaaGreat
open Go.RowKit
def Du(P:Program)(md:Region.Mode)(ops:Array Oper)(Q:Exit->Act->World->Prop)(S:World->Prop)(t:Nat):Nat->Array Bool->Act->World->Prop
 | 0,listed,a,w=>Region.ready md ops listed=[]/\Q .normal a w
 | fuel+1,listed,a,w=>(Region.ready md ops listed=[]->Q .normal a w)/\
  ∀i∈Region.ready md ops listed,wpOp P ops Q i (λ a' w'=>(i≠t->S w')/\Du P md ops Q S t fuel (listed.setIfInBounds i true) a' w') a w
section
variable {P:Program} {md:Region.Mode} {ops:Array Oper} {Q:Exit->Act->World->Prop} {S:World->Prop} {t:Nat} {fuel:Nat} {listed:Array Bool} {a:Act} {w:World}
def Qf:∀(fuel:Nat)(listed:Array Bool)(a:Act)(w:World),Du P md ops Q S t fuel listed a w->wpAny P md ops Q fuel listed a w
 | 0,_,_,_,h=>h
 | fuel+1,_,_,_,h=>⟨h.1,λ i r=>wpOp_mono (λ f w' q=>Qf fuel _ f w' q.2) (h.2 i r)⟩
def AIB{i:Nat}{oi:Oper}{v:Value}(J:ops[i]?=some oi)(W:∀(j:Nat)(o:Oper) cs b,ops[j]?=some o->o.op≠.select cs b)(a9:i≠t)(a7:Region.waitsFor md ops t i=true)
 (Z:∀c a w,Q (.panic c) (a.put oi.dst v) w->Q (.panic c) a w):
 ∀(fuel:Nat)(listed:Array Bool)(a:Act)(w:World),
  (∀j q,ops[j]?=some q->j≠i->listed.getD j true=false->(∀e∈q.after,Region.binds md e=true->e.on≠i)->oi.apart ops q=true)->
  i∈Region.ready md ops listed->YieldsIf P ops S oi v a->S w->
  Du P md ops Q S t fuel (listed.setIfInBounds i true) (a.put oi.dst v) w->Du P md ops Q S t (fuel+1) listed a w:=by
 intro fuel;induction fuel with
 | zero=>intro listed a w _ hr I r H;refine⟨λ h=>(by grind),λ j E=>?_⟩;by_cases f:j=i;subst f;exact I.wpOp J r ⟨λ _=>r,H⟩;have:=ready_mono E f;rw[H.1]at this;cases this
 | succ fuel ih=>
  intro listed a w U hr I r H;refine⟨λ h=>(by grind),λ j E=>?_⟩;by_cases f:j=i;subst f;exact I.wpOp J r ⟨λ _=>r,H⟩
  .have L:=H.2 j (ready_mono E f);obtain⟨a3,q,K,a0⟩:=mem_ready.1 E;have a6:∀e∈q.after,Region.binds md e=true->e.on≠i:=λ e T O a8=>by
    have L:=a0 e T O;have h0:=(mem_ready.1 hr).1
    grind
   have a2:j≠t:=λ e=>by
    subst e;obtain⟨o2,ab,e,T,O,ho⟩:=Region.waitsFor_spec a7
    grind
   have Y:=wpOp_putIf K (U j q K f a3 a6) (λ cs b=>W i oi cs b J) (λ cs b=>W j q cs b K) Z I L;have a1:∀k A,ops[k]?=some A->k≠i->(listed.setIfInBounds j true).getD k true=false->(∀e∈A.after,Region.binds md e=true->e.on≠i)->oi.apart ops A=true:=λ k A hk a4 ac a5=>by
    refine U k A hk a4 ?_ a5;by_cases aa:j=k
    .grind
    simp_all
   refine wpOp_mono (λ X w' B=>⟨B.2.1,ih (listed.setIfInBounds j true) X w' a1 (ready_mono hr (Ne.symm f)) B.1 (B.2.1 a2) ?_⟩) Y;rw[Array.setIfInBounds_comm _ _ f];exact B.2.2
def WC(i d x v)(E:D2 ops i d x)(O:(i==t)=false)(K:Region.waitsFor md ops t i=true)(I:Region.noSelect ops=true)(A:Region.free md ops listed i=true)(hr:(Region.ready md ops listed).contains i=true)(q:∀c a w,Q (.panic c) (a.put d v) w->Q (.panic c) a w)(L:∀o,o.op=x->∀w',S w'->(execOp a.eval o).run P w'=.ok (Next.value v) w')(r:S w)(h:Du P md ops Q S t fuel (listed.setIfInBounds i true) (a.put d v) w):Du P md ops Q S t (fuel+1) listed a w:=by
 obtain⟨o,f,rfl,rfl,B⟩:=E.get;exact AIB f (Region.noSelect_spec I) (by grind) K q fuel listed a w (Region.free_spec f A) (by grind) (.inl ⟨by simp[Region.wanted,B],λ w' J=>L o rfl w' J⟩) r h
def Be(i d x v)(r:∀o,o.op=x->∀w',S w'->(execOp a.eval o).run P w'=.ok (Next.value v) w')(f:S w)(h:Du P md ops Q S t fuel (listed.setIfInBounds i true) (a.put d v) w)(q:D2 ops i d x:=by rfl)(hit:(i==t)=false:=by rfl)(hwt:Region.waitsFor md ops t i=true:=by kernel_rfl)(hs:Region.noSelect ops=true:=by kernel_rfl)(hf:Region.free md ops listed i=true:=by kernel_rfl)(hr:(Region.ready md ops listed).contains i=true:=by kernel_rfl)(hQ:∀c a w,Q (.panic c) (a.put d v) w->Q (.panic c) a w:=by exact λ _ _ _ h=>h):Du P md ops Q S t (fuel+1) listed a w:=WC i d x v q hit hwt hs hf hr hQ r f h
def AO(i d x v)(r:S w)(h:Du P md ops Q S t fuel (listed.setIfInBounds i true) (a.put d v) w)(A:D2 ops i d x:=by rfl)(hit:(i==t)=false:=by rfl)(hwt:Region.waitsFor md ops t i=true:=by kernel_rfl)(hs:Region.noSelect ops=true:=by kernel_rfl)(hf:Region.free md ops listed i=true:=by kernel_rfl)(hr:(Region.ready md ops listed).contains i=true:=by kernel_rfl)(hQ:∀c a w,Q (.panic c) (a.put d v) w->Q (.panic c) a w:=by exact λ _ _ _ h=>h)(hy:∀o,o.op=x->∀q,S q->(execOp a.eval o).run P q=.ok (Next.value v) q:=by intro o B q f;(first|obtain⟨_,_,_,_,_,_⟩:=f|obtain⟨⟨_,_,_,_⟩,_,_⟩:=f|obtain⟨_,_,_,_⟩:=f|obtain⟨_,_,_⟩:=f|obtain⟨_,_⟩:=f);go_simp):Du P md ops Q S t (fuel+1) listed a w:=WC i d x v A hit hwt hs hf hr hQ hy r h
def J1(P:Program)(md:Region.Mode)(ops:Array Oper)(Q:Exit->Act->World->Prop)(S:World->Prop)(t:Nat)(fuel:Nat)(listed:Array Bool)(a:Act)(w:World)(i:Nat)(d:Option Tmp)(x:Op):Prop:=
 ∀(o:Oper)(K:Act->World->Prop),o.dst=d->o.op=x->o.guard=none->(∀a' w',(i≠t->S w')->Du P md ops Q S t fuel (listed.setIfInBounds i true) a' w'->K a' w')->Oper.wp P o a w K Q
def QN{i d x}(J:D2 ops i d x)(h:J1 P md ops Q S t fuel listed a w i d x):
 wpOp P ops Q i (λ f w'=>(i≠t->S w')/\Du P md ops Q S t fuel (listed.setIfInBounds i true) f w') a w:=by
 obtain⟨o,L,r,A,q⟩:=J.get;refine wpOp_step L (λ K B=>?_);rw[if_pos (by simp[Region.wanted,q])];exact h o K r A q (λ f w' E I=>B f w' ⟨E,I⟩)
def AEr(i d x)(f:D2 ops i d x)(hr:Region.ready md ops listed=[i])(h:J1 P md ops Q S t fuel listed a w i d x):Du P md ops Q S t (fuel+1) listed a w:=by
 refine⟨λ r=>(by grind),λ j q=>?_⟩;rw[hr]at q;obtain rfl:j=i:=by grind
 exact QN f h
def Ae(i d x)(h:J1 P md ops Q S t fuel listed a w i d x)(f:D2 ops i d x:=by rfl)(hr:Region.ready md ops listed=[i]:=by kernel_rfl):Du P md ops Q S t (fuel+1) listed a w:=AEr i d x f hr h
def ES{o K v}(f:(execOp a.eval o).run P w=.ok (Next.value v) w)(h:K (a.put o.dst v) w):Oper.wp P o a w K Q:=by unfold Oper.wp;simp only[f,Oper.upon];exact h
def Cx(hr:Region.ready md ops listed=[])(h:Q .normal a w):∀fuel,Du P md ops Q S t fuel listed a w
 | 0=>⟨hr,h⟩
 | _+1=>⟨λ _=>h,by rw[hr];simp⟩
def Dz{id}(f:P.follows .mixedOrders=true)(h:Du P .any ops Q S t ops.size (Array.replicate ops.size false) a w.drew):(Code.region id ops true).wp P Q a w:=
 wp_region_any f (Qf _ _ _ _ h)
end
