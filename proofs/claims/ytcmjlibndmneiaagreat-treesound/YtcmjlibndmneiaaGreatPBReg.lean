import Derived.Test.YtcmjlibndmneiaaGreatPDReg
import Derived.Shelf.Abstract
set_option maxRecDepth 100000
set_option linter.all false
set_option maxHeartbeats 8000000
namespace Go.Proofs.YtcmjlibndmneiaaGreat
open Go.RowKit
def opIsG(ops:Array Oper)(i:Nat)(t:Option Tmp)(x:Op)(gd:Option (Nat×Bool)):Prop:=(ops[i]?).map (λ o=>(o.dst,o.op,o.guard))=some (t,x,gd)
section
variable {P:Program} {md:Region.Mode} {ops:Array Oper} {Q:Exit->Act->World->Prop} {S:World->Prop} {fuel:Nat} {listed:Array Bool} {a:Act} {w:World}
def opIsG.get{i:Nat}{t:Option Tmp}{x:Op}{u:Option (Nat×Bool)}(h:opIsG ops i t x u):∃o,ops[i]?=some o/\o.dst=t/\o.op=x/\o.guard=u:=by
 unfold opIsG at h;cases e:ops[i]? with
 | none=>rw[e]at h;cases h
 | some o=>rw[e]at h;simp only[Option.map_some,Option.some.injEq,Prod.mk.injEq]at h;exact⟨o,rfl,h.1,h.2.1,h.2.2⟩
def zeh9{o:Oper}{j:Nat}{b:Bool}{ys:Nat->Option Bool}(u:o.guard=some (j,b))(h:ys j=some b):Region.wanted o ys=true:=by simp[Region.wanted,u,h]
def zsd9{o:Oper}{j:Nat}{b c:Bool}{ys:Nat->Option Bool}(A:o.guard=some (j,b))(h:ys j=some c)(u:c≠b):Region.wanted o ys=false:=by simp[Region.wanted,A,h,u]
def takeG(i:Nat)(t:Option Tmp)(x:Op)(j:Nat)(b:Bool)(v:Value)(hi:opIsG ops i t x (some (j,b)))(K:Region.noSelect ops=true)(E:Region.free md ops listed i=true)(hr:(Region.ready md ops listed).contains i=true)
 (u:∀c a w,Q (.panic c) (a.put t v) w->Q (.panic c) a w) (O:yielded ops a.tmps j=some b) (Y:∀o:Oper,o.op=x->∀w',S w'->(execOp a.eval o).run P w'=.ok (Next.value v) w') (A:S w)
 (h:wpAnyH P md ops Q S fuel (listed.setIfInBounds i true) (a.put t v) w):wpAnyH P md ops Q S (fuel+1) listed a w:=by
 obtain⟨o,I,rfl,rfl,H⟩:=hi.get;exact wpAnyH_take I K E hr u (.inl ⟨zeh9 H O,λ w' T=>Y o rfl w' T⟩) A h
def skipG(i:Nat)(t:Option Tmp)(x:Op)(j:Nat)(b c:Bool)(hi:opIsG ops i t x (some (j,b)))(O:Region.noSelect ops=true)(H:Region.free md ops listed i=true)(hr:(Region.ready md ops listed).contains i=true)
 (u:∀c a w,Q (.panic c) (a.put t undef) w->Q (.panic c) a w) (T:yielded ops a.tmps j=some c) (E:c≠b) (A:S w)
 (h:wpAnyH P md ops Q S fuel (listed.setIfInBounds i true) (a.put t undef) w):wpAnyH P md ops Q S (fuel+1) listed a w:=by
 obtain⟨o,K,rfl,rfl,I⟩:=hi.get;exact wpAnyH_take K O H hr u (.inr ⟨zsd9 I T E,rfl⟩) A h
def zwb9(i:Nat)(t:Option Tmp)(ty:TypeId)(y:Operand)(j:Nat)(E:Bool)(b A:Nat)(u:List Value)(d:TypeDesc)(hi:opIsG ops i t (.load ty y) (some (j,E)))(hs:Region.noSelect ops=true)(Y:Region.free md ops listed i=true)(hr:(Region.ready md ops listed).contains i=true)
 (I:∀c a w,Q (.panic c) (a.put t (.agg u.toArray)) w->Q (.panic c) a w) (hw:yielded ops a.tmps j=some E) (hx:a.eval y=.pointer (some ⟨b,A,none⟩)) (O:∀w',S w'->w'.rangeAt b A u) (hu:P.underlying ty=some d) (T:d.isRow=true) (hn:(P.info? ty).map (·.size)=some u.length) (K:S w)
 (h:wpAnyH P md ops Q S fuel (listed.setIfInBounds i true) (a.put t (.agg u.toArray)) w):wpAnyH P md ops Q S (fuel+1) listed a w:=by
 obtain⟨o,ho,rfl,H,hg⟩:=hi.get;exact wpAnyH_take ho hs Y hr I (yieldsIf_load_mid (zeh9 hg hw) ty y H b A hx u d O hu T hn) K h
def readyG(i:Nat)(t:Option Tmp)(x:Op)(j:Nat)(b:Bool)(hi:opIsG ops i t x (some (j,b)))(hr:Region.ready md ops listed=[i])(Y:yielded ops a.tmps j=some b)
 (h:∀(o:Oper)(K:Act->World->Prop),o.dst=t->o.op=x->(∀a' w',S w'->wpAnyH P md ops Q S fuel (listed.setIfInBounds i true) a' w'->K a' w')->Oper.wp P o a w K Q):wpAnyH P md ops Q S (fuel+1) listed a w:=by
 obtain⟨o,T,u,A,O⟩:=hi.get;refine wpAnyH_ready hr (by simp) (AllReadyH.cons T (λ K E=>?_) AllReadyH.nil);rw[if_pos (zeh9 O Y)];exact h o K u A (λ a' w' H I=>E.out a' w' H (λ _=>I))
def zg9{o:Oper}{K:Act->World->Prop}{f:FuncId}{xs:Array Operand}{Y:Array TypeId}(H:Enters P f)
 (O:o.op=.call { callee:=.value (.func f),args:=xs,argTypes:=Y }) {vs:Array Value} (hv:xs.map a.eval=vs) {R:Ending->World->Prop} (hc:Calls P f vs w R)
 (h:∀e u,R e u->∃v,e=.returned v/\K (a.put o.dst v) u):Oper.wp P o a w K Q:=by
 have T:(execOp a.eval o).run P w=.ok (.enter f vs) w:=by have A:=H vs w;simp[execOp,O,resolve,invoke,hv,Act.eval,Deferred.ofValue,A]
 unfold Oper.wp;rw[T];refine hc.mono ?_;intro e u E;obtain⟨v,rfl,I⟩:=h e u E;exact I
end
