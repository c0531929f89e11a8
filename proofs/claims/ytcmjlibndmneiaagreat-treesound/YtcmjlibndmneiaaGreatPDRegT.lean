import Derived.Test.YtcmjlibndmneiaaGreatPDReg
import Derived.StillTail
set_option maxRecDepth 100000
set_option linter.all false
set_option maxHeartbeats 8000000
namespace Go.Proofs.YtcmjlibndmneiaaGreat
open Go.RowKit
def walkT(P:Program)(md:Region.Mode)(ops:Array Oper)(Q:Exit->Act->World->Prop)(S:World->Prop)(t:Nat):Nat->Array Bool->Act->World->Prop
 | 0,listed,a,w=>Region.ready md ops listed=[]/\Q .normal a w
 | fuel+1,listed,a,w=>(Region.ready md ops listed=[]->Q .normal a w)/\
  ∀i∈Region.ready md ops listed,wpOp P ops Q i (λ a' w'=>(i≠t->S w')/\walkT P md ops Q S t fuel (listed.setIfInBounds i true) a' w') a w
section
variable {P:Program} {md:Region.Mode} {ops:Array Oper} {Q:Exit->Act->World->Prop} {S:World->Prop} {t:Nat} {fuel:Nat} {listed:Array Bool} {a:Act} {w:World}
def zkp9:∀(fuel:Nat)(listed:Array Bool)(a:Act)(w:World),walkT P md ops Q S t fuel listed a w->wpAny P md ops Q fuel listed a w
 | 0,_,_,_,h=>h
 | fuel+1,_,_,_,h=>⟨h.1,λ i hi=>wpOp_mono (λ a' w' u=>zkp9 fuel _ a' w' u.2) (h.2 i hi)⟩
def zlw9{i:Nat}{E:Oper}{v:Value}(hi:ops[i]?=some E)(a6:∀(j:Nat)(o:Oper) K b,ops[j]?=some o->o.op≠.select K b)(af:i≠t)(ae:Region.waitsFor md ops t i=true)
 (hQ:∀c a w,Q (.panic c) (a.put E.dst v) w->Q (.panic c) a w):
 ∀(fuel:Nat)(listed:Array Bool)(a:Act)(w:World),
  (∀j I,ops[j]?=some I->j≠i->listed.getD j true=false->(∀e∈I.after,Region.binds md e=true->e.on≠i)->E.apart ops I=true)->
  i∈Region.ready md ops listed->YieldsIf P ops S E v a->S w->
  walkT P md ops Q S t fuel (listed.setIfInBounds i true) (a.put E.dst v) w->walkT P md ops Q S t (fuel+1) listed a w:=by
 intro fuel;induction fuel with
 | zero=>
  intro listed a w _ hr hy O H;refine⟨λ h=>(by rw[h]at hr;cases hr),λ j hj=>?_⟩;by_cases u:j=i
  .subst u;exact hy.wpOp hi O ⟨λ _=>O,H⟩
  .have:=ready_mono hj u;rw[H.1]at this;cases this
 | succ fuel ih=>
  intro listed a w a1 hr hy O H;refine⟨λ h=>(by rw[h]at hr;cases hr),λ j hj=>?_⟩;by_cases u:j=i
  .subst u;exact hy.wpOp hi O ⟨λ _=>O,H⟩
  .have A:=H.2 j (ready_mono hj u);obtain⟨a3,I,a0,a8⟩:=mem_ready.1 hj;have a4:∀e∈I.after,Region.binds md e=true->e.on≠i:=λ e he hb a9=>by
    have A:=a8 e he hb;have h0:=(mem_ready.1 hr).1;rw[a9]at A;rcases Nat.lt_or_ge i listed.size with h'|h'
    .simp[h']at h0 A;rw[h0]at A;cases A
    .simp[Array.getElem?_eq_none h']at A
   (have ab:j≠t:=λ e=>by subst e;obtain⟨o2,a5,e,he,hb,ho⟩:=Region.waitsFor_spec ae;rw[a0]at a5;cases a5;exact a4 e he hb ho);have h2:=wpOp_putIf a0 (a1 j I a0 u a3 a4) (λ K b=>a6 i E K b hi) (λ K b=>a6 j I K b a0) hQ hy A;have aa:∀k T,ops[k]?=some T->k≠i->(listed.setIfInBounds j true).getD k true=false->(∀e∈T.after,Region.binds md e=true->e.on≠i)->E.apart ops T=true:=λ k T hk ac a7 ad=>by
    refine a1 k T hk ac ?_ ad;by_cases a2:j=k
    .subst a2;exact a3
    .rw[getD_set_ne true a2]at a7;exact a7
   refine wpOp_mono (λ a' w' Y=>⟨Y.2.1,ih (listed.setIfInBounds j true) a' w' aa (ready_mono hr (Ne.symm u)) Y.1 (Y.2.1 ab) ?_⟩) h2;rw[Array.setIfInBounds_comm _ _ u];exact Y.2.2
def takeW(i:Nat)(d:Option Tmp)(x:Op)(v:Value)(hi:opIs ops i d x)(K:(i==t)=false)(Y:Region.waitsFor md ops t i=true)(O:Region.noSelect ops=true)(H:Region.free md ops listed i=true)(hr:(Region.ready md ops listed).contains i=true)
 (A:∀c a w,Q (.panic c) (a.put d v) w->Q (.panic c) a w) (hy:∀o:Oper,o.op=x->∀w',S w'->(execOp a.eval o).run P w'=.ok (Next.value v) w') (E:S w)
 (h:walkT P md ops Q S t fuel (listed.setIfInBounds i true) (a.put d v) w):walkT P md ops Q S t (fuel+1) listed a w:=by
 obtain⟨o,u,rfl,rfl,I⟩:=hi.get;exact zlw9 u (Region.noSelect_spec O) (by simpa using K) Y A fuel listed a w (Region.free_spec u H) (by simpa using hr) (.inl ⟨by simp[Region.wanted,I],λ w' T=>hy o rfl w' T⟩) E h
def tkW(i:Nat)(d:Option Tmp)(x:Op)(v:Value)(A:∀o:Oper,o.op=x->∀w',S w'->(execOp a.eval o).run P w'=.ok (Next.value v) w')(u:S w)(h:walkT P md ops Q S t fuel (listed.setIfInBounds i true) (a.put d v) w)(hi:opIs ops i d x:=by rfl)(hit:(i==t)=false:=by rfl)(hwt:Region.waitsFor md ops t i=true:=by kernel_rfl)(hs:Region.noSelect ops=true:=by kernel_rfl)(hf:Region.free md ops listed i=true:=by kernel_rfl)(hr:(Region.ready md ops listed).contains i=true:=by kernel_rfl)(hQ:∀c a w,Q (.panic c) (a.put d v) w->Q (.panic c) a w:=by exact λ _ _ _ h=>h):walkT P md ops Q S t (fuel+1) listed a w:=takeW i d x v hi hit hwt hs hf hr hQ A u h
def StepW(P:Program)(md:Region.Mode)(ops:Array Oper)(Q:Exit->Act->World->Prop)(S:World->Prop)(t:Nat)(fuel:Nat)(listed:Array Bool)(a:Act)(w:World)(i:Nat)(d:Option Tmp)(x:Op):Prop:=
 ∀(o:Oper)(K:Act->World->Prop),o.dst=d->o.op=x->o.guard=none->(∀a' w',(i≠t->S w')->walkT P md ops Q S t fuel (listed.setIfInBounds i true) a' w'->K a' w')->Oper.wp P o a w K Q
def zcu9{i:Nat}{d:Option Tmp}{x:Op}(hi:opIs ops i d x)(h:StepW P md ops Q S t fuel listed a w i d x):
 wpOp P ops Q i (λ a' w'=>(i≠t->S w')/\walkT P md ops Q S t fuel (listed.setIfInBounds i true) a' w') a w:=by
 obtain⟨o,T,A,E,u⟩:=hi.get;refine wpOp_step T (λ K H=>?_);rw[if_pos (by simp[Region.wanted,u])];exact h o K A E u (λ a' w' I O=>H a' w' ⟨I,O⟩)
def readyW(i:Nat)(d:Option Tmp)(x:Op)(hi:opIs ops i d x)(hr:Region.ready md ops listed=[i])(h:StepW P md ops Q S t fuel listed a w i d x):walkT P md ops Q S t (fuel+1) listed a w:=by
 refine⟨λ u=>(by rw[hr]at u;cases u),λ j A=>?_⟩;rw[hr]at A;obtain rfl:j=i:=by simpa using A
 exact zcu9 hi h
def rdW(i:Nat)(d:Option Tmp)(x:Op)(h:StepW P md ops Q S t fuel listed a w i d x)(hi:opIs ops i d x:=by rfl)(hr:Region.ready md ops listed=[i]:=by kernel_rfl):walkT P md ops Q S t (fuel+1) listed a w:=readyW i d x hi hr h
def stepY{o:Oper}{K:Act->World->Prop}{v:Value}(u:(execOp a.eval o).run P w=.ok (Next.value v) w)(h:K (a.put o.dst v) w):Oper.wp P o a w K Q:=by unfold Oper.wp;simp only[u,Oper.upon];exact h
def doneW(hr:Region.ready md ops listed=[])(h:Q .normal a w):∀fuel,walkT P md ops Q S t fuel listed a w
 | 0=>⟨hr,h⟩
 | _+1=>⟨λ _=>h,by rw[hr];simp⟩
def beginW{id:Nat}(u:P.follows .mixedOrders=true)(h:walkT P .any ops Q S t ops.size (Array.replicate ops.size false) a w.drew):(Code.region id ops true).wp P Q a w:=
 wp_region_any u (zkp9 _ _ _ _ h)
end
