import Derived.Test.YtcmjlibndmneiaaGreatPNVar
import Derived.Test.YtcmjlibndmneiaaGreatPDRegT
import Derived.Great.BuildSlice
set_option maxRecDepth 100000
set_option linter.all false
set_option maxHeartbeats 8000000
namespace Go.Proofs.YtcmjlibndmneiaaGreat
open Go.RowKit Pl
def OwV(B:Nat)(e:TypeId)(w:World)(v:Value)(cs:List Value):Prop:=w.ownsRow B e 1 v cs.length cs
section
variable {B:Nat} {e:TypeId} {w w':World} {v:Value} {cs:List Value}
def zx9(B:Nat)(e:TypeId)(w:World):OwV B e w (.slice none 0 0) []:=World.ownsRow_nil _ _ _ _
def OwV.owns(h:OwV B e w v cs):OwnsV e w v cs:=by
 refine⟨h.1,?_⟩
 rcases h.2 with A|⟨g,cap,u,rfl,H,E⟩
 .exact .inl A
 .exact .inr ⟨g,cap,u,rfl,zn7 _,E⟩
def OwV.rd(h:OwV B e w v cs):RdV w v cs:=h.owns.rd
def OwV.ge(h:OwV B e w v cs):∀j,v.ownBlock=some j->B<=j:=λ j u=>(World.ownsRow.lt h j u).1
def OwV.tch{S:Nat->Prop}(h:OwV B e w v cs)(K:Tch S w w')(I:∀j,v.ownBlock=some j->¬S j):OwV B e w' v cs:=by
 refine⟨h.1,?_⟩
 rcases h.2 with E|⟨g,cap,A,rfl,H,u,O⟩
 .exact .inl E
 .refine .inr ⟨g,cap,A,rfl,H,?_,O⟩
  rw[K.block g (zd0.1 u).1 (I g rfl)]
  exact u
def OwV.below(h:OwV B e w v cs)(u:Below w.heap.size w w'):OwV B e w' v cs:=h.tch (S:=λ _=>False) (Tch.of_below u) (λ _ _ e=>e)
def OwV.long(h:OwV B e w v cs):∃a cap,v=.slice a cs.length cap:=h.rd.long
def OwV.ne(h:OwV B e w v cs){b:Nat}{C:Array Value}{T:TypeId}(A:w.heap[b]?=some (.cells C T (0,0)))(u:e≠T):v.ownBlock≠some b:=h.owns.ne A u
def Gb.belowV(h:Gb B w w' v)(A:OwV B e w v cs)(u:B<=w.heap.size):Below B w w':=h.tch.below u (λ k e=>A.ge k e)
def OwV.apart{A:TypeId}{v2:Value}{H:List Value}{E:Nat}(h:OwV B e w v cs)(I:OwV E A w v2 H)(K:e≠A){j:Nat}(hj:v.ownBlock=some j):v2.ownBlock≠some j:=λ u=>by
 rcases I.2 with⟨rfl,_⟩|⟨g,cap,Q,rfl,_,O,_⟩
 .cases u
 .simp only[Value.ownBlock,Option.some.injEq]at u
  subst u
  exact h.ne O K hj
end
structure Ow3(B:Nat)(w:World)(n:Nd)(v1 v2 v3:Value):Prop where
 k:OwV B 9 w v1 (strs n.ks)
 v:OwV B 9 w v2 (strs n.vs)
 d:OwV B 3 w v3 (nums n.kd)
 ap:∀j,v1.ownBlock=some j->v2.ownBlock≠some j
section
variable {B:Nat} {w w':World} {n:Nd} {v1 v2 v3:Value}
def Ow3.nn(h:Ow3 B w n v1 v2 v3):Nn w n v1 v2 v3:=⟨h.k.rd,h.v.rd,h.d.rd⟩
def Ow3.fr(h:Ow3 B w n v1 v2 v3):Fr3 B v1 v2 v3:=λ j u=>by
 rcases u with e|e|e
 .exact h.k.ge j e
 .exact h.v.ge j e
 .exact h.d.ge j e
def Ow3.tch{S:Nat->Prop}(h:Ow3 B w n v1 v2 v3)(A:Tch S w w')(u:∀j,(v1.ownBlock=some j\/v2.ownBlock=some j\/v3.ownBlock=some j)->¬S j):Ow3 B w' n v1 v2 v3:=
 ⟨h.k.tch A (λ j e=>u j (.inl e)),h.v.tch A (λ j e=>u j (.inr (.inl e))),h.d.tch A (λ j e=>u j (.inr (.inr e))),h.ap⟩
def Ow3.below(h:Ow3 B w n v1 v2 v3)(u:Below w.heap.size w w'):Ow3 B w' n v1 v2 v3:=⟨h.k.below u,h.v.below u,h.d.below u,h.ap⟩
def OwV.less{e:TypeId}{v:Value}{cs:List Value}(h:OwV B e w v cs){C:Nat}(E:C<=B):OwV C e w v cs:=by
 refine⟨h.1,?_⟩
 rcases h.2 with A|⟨g,cap,u,rfl,H,I⟩
 .exact .inl A
 .exact .inr ⟨g,cap,u,rfl,zn2 E H,I⟩
def Ow3.less(h:Ow3 B w n v1 v2 v3){C:Nat}(u:C<=B):Ow3 C w n v1 v2 v3:=⟨h.k.less u,h.v.less u,h.d.less u,h.ap⟩
end
section
variable {P:Program}
def OwV.of{B:Nat}{e:TypeId}{w:World}{v:Value}{cs:List Value}(h:w.ownsRow 0 e 1 v cs.length cs)(E:∀j,v.ownBlock=some j->B<=j):OwV B e w v cs:=by
 refine⟨h.1,?_⟩
 rcases h.2 with A|⟨g,cap,u,rfl,I,H⟩
 .exact .inl A
 .exact .inr ⟨g,cap,u,rfl,E g rfl,H⟩
def Fsh(w:World)(v v':Value):Prop:=∀k,v'.ownBlock=some k->v.ownBlock=some k\/w.heap.size<=k
def zjq9(B:Nat)(w:World)(t e ty:TypeId)(z:Value)(bytes:Nat)(E:ElemV P t e z bytes)(v:Value)(xs:List Value)(K:OwV B e w v xs)(g:Nat)(y:Value)(a3:y.oneCell'=true)(Y:w.cell? ⟨g,0,none⟩=some y)
 (Q:xs.length+1<=9223372036854775807) (hl:(xs.length+1)*bytes<=140737488355328) (hB:B<=w.heap.size):
 ∃H w',(Builtin.append_ #[t,t] ty #[v,.slice (some ⟨g,0,none⟩) 1 1]).run P w=.ok H w'/\OwV B e w' H (xs++[y])/\Gb B w w' v/\Fsh w v H:=by
 obtain⟨ht,⟨i,hi,hz,O,T⟩,a1⟩:=E
 have a2:Src w (.slice (some ⟨g,0,none⟩) 1 1) [y]:=by
  refine⟨_,1,rfl,λ u A=>by simp at A;subst A;exact a3,(λ e=>by cases e),λ ad ha j u A=>?_⟩
  obtain rfl:=zb1 ha
  match j,A with
  | 0,A=>simp at A;subst A;simpa[Addr.add]using Y
 obtain⟨H,w',hr,ho,a0,I⟩:=zsm9 (P:=P) w t ty e i z bytes ht hi hz O T a1 v xs K.owns _ [y] a2 (by unfold maxLen;exact Q) hl
 refine⟨H,w',hr,OwV.of ho (λ j hj=>?_),⟨(Tch.refl _ w).grown a0 (λ _ _ e=>e)⟩,I⟩
 rcases I j hj with e|e
 .exact K.ge j e
 .omega
def znw9(w:World)(t e:TypeId)(z:Value)(bytes:Nat)(E:ElemV P t e z bytes)(v:Value)(hv:v.cells=#[v]):
 (Instr.buildSlice t 1 #[(0,v)]).run P w=.ok (.slice (some ⟨w.heap.size,0,none⟩) 1 1) (w.alloc (.cells #[v] e)):=by
 obtain⟨K,⟨i,I,O,A,Q⟩,T⟩:=E
 refine run_buildSlice w _ e 1 _ _ i _ K I O (by rw[A];decide) (by rw[A];decide) ?_
 rw[A]
 exact Go.Great.fill_flat [v] _ (λ u H=>by simp at H;subst H;exact hv) (by simp)
variable {o:Oper} {a:Act} {w:World} {K:Act->World->Prop} {Q:Exit->Act->World->Prop}
def zgf9(t e:TypeId)(z:Value)(bytes:Nat)(E:ElemV P t e z bytes)(x:Operand)(u:o.op=Op.buildSlice t 1 #[(0,x)])(v:Value)(H:a.eval x=v)(hv:v.cells=#[v])
 (h:K (a.put o.dst (.slice (some ⟨w.heap.size,0,none⟩) 1 1)) (w.alloc (.cells #[v] e))):Oper.wp P o a w K Q:=by
 have A:=znw9 w t e z bytes E v hv
 unfold Oper.wp
 simp[execOp,u,H,A,Result.andThen]
 exact h
def zik9(t e:TypeId)(z:Value)(bytes:Nat)(E:ElemV P t e z bytes)(s x:Operand)(O:o.op=.call { callee:=.builtin .append,args:=#[s,x],argTypes:=#[t,t] })
 (B:Nat) (v:Value) (xs:List Value) (hs:a.eval s=v) (hown:OwV B e w v xs) (g:Nat) (y:Value) (hx:a.eval x=.slice (some ⟨g,0,none⟩) 1 1) (hy1:y.oneCell'=true) (hg:w.cell? ⟨g,0,none⟩=some y)
 (h63:xs.length+1<=9223372036854775807) (hl:(xs.length+1)*bytes<=140737488355328) (hB:B<=w.heap.size)
 (h:∀u w',OwV B e w' u (xs++[y])->Gb B w w' v->Fsh w v u->K (a.put o.dst u) w'):Oper.wp P o a w K Q:=by
 obtain⟨u,w',hr,A,H,I⟩:=zjq9 B w t e o.type z bytes E v xs hown g y hy1 hg h63 hl hB
 unfold Oper.wp
 simp[execOp,O,resolve,invoke,builtin,hs,hx,hr,Result.andThen]
 exact h u w' A H I
def zz9(t e:TypeId)(z:Value)(bytes:Nat)(E:ElemV P t e z bytes)(w:World){A:Array Oper}{H:List Oper}(a0:o.guard=none)(s x:Operand)(ho:o.op=.call { callee:=.builtin .append,args:=#[s,x],argTypes:=#[t,t] })
 (B:Nat) (v:Value) (xs:List Value) (hs:a.eval s=v) (hown:OwV B e w v xs) (g:Nat) (y:Value) (hx:a.eval x=.slice (some ⟨g,0,none⟩) 1 1) (hy1:y.oneCell'=true) (hg:w.cell? ⟨g,0,none⟩=some y)
 (h63:xs.length+1<=9223372036854775807) (hl:(xs.length+1)*bytes<=140737488355328) (hB:B<=w.heap.size)
 (h:∀u w',OwV B e w' u (xs++[y])->Gb B w w' v->Fsh w v u->wpList P A Q H (a.put o.dst u) w'):wpList P A Q (o::H) a w:=by
 obtain⟨u,w',hr,I,O,T⟩:=zjq9 B w t e o.type z bytes E v xs hown g y hy1 hg h63 hl hB
 refine wpList_plain a0 λ K Y=>?_
 unfold Oper.wp
 simp[execOp,ho,resolve,invoke,builtin,hs,hx,hr,Result.andThen]
 exact Y _ _ (h u w' I O T)
end
section
variable {o:Oper} {a:Act} {w:World} {K:Act->World->Prop} {Q:Exit->Act->World->Prop}
def zjx9{x y:Operand}{p:Addr}{b:Option Addr}{l c:Nat}{u:Value}(A:o.op=.store 91 x y)(H:a.eval x=.pointer (some p))(I:a.eval y=.slice b l c)(O:w.cell? p=some u)(T:w.frozen? p=false)
 (h:K (a.put o.dst undef) (w.setCell p (.slice b l c))):Oper.wp Tryz.prog o a w K Q:=by
 have E:(Instr.storeAt 91 (.pointer (some p)) (.slice b l c)).run Tryz.prog w=.ok () (w.setCell p (.slice b l c)):=by
  go_simp
 unfold Oper.wp execOp
 simp only[A,H,I,Sem.run_bind,Sem.run_pure,Result.andThen_ok,E]
 exact h
def zrh9{x y:Operand}{p:Addr}{b:Option Addr}{l c:Nat}{u:Value}(A:o.op=.store 56 x y)(H:a.eval x=.pointer (some p))(I:a.eval y=.slice b l c)(O:w.cell? p=some u)(T:w.frozen? p=false)
 (h:K (a.put o.dst undef) (w.setCell p (.slice b l c))):Oper.wp Tryz.prog o a w K Q:=by
 have E:(Instr.storeAt 56 (.pointer (some p)) (.slice b l c)).run Tryz.prog w=.ok () (w.setCell p (.slice b l c)):=by
  go_simp
 unfold Oper.wp execOp
 simp only[A,H,I,Sem.run_bind,Sem.run_pure,Result.andThen_ok,E]
 exact h
end
def znk9(w:World)(v:Value)(e:TypeId):(w.alloc (.cells #[v] e)).cell? ⟨w.heap.size,0,none⟩=some v:=by
 rw[cell_of_row _ w.heap.size 0 _ _ (0,0) (heap_alloc_new w _)]
 rfl
structure Pz where
 n:Nd
 t:List Int×Bool
def pzStep(p:Pz):Pz:=
 if p.n.lf=true then⟨{ p.n with ks:=p.n.ks++[(txtZ p.t).1],vs:=p.n.vs++[(txtZ (txtZ p.t).2).1] },(txtZ (txtZ p.t).2).2⟩
 else⟨{ p.n with ks:=p.n.ks++[(txtZ p.t).1],kd:=p.n.kd++[(numZ (txtZ p.t).2).1+(numZ (numZ (txtZ p.t).2).2).1*256] },(numZ (numZ (txtZ p.t).2).2).2⟩
def pzN(lf:Bool)(t:List Int×Bool):Nat->Pz
 | 0=>⟨⟨lf,[],[],[]⟩,t⟩
 | k+1=>pzStep (pzN lf t k)
def pzN_lf(u:Bool)(t:List Int×Bool)(k:Nat):(pzN u t k).n.lf=u:=by
 induction k with
 | zero=>rfl
 | succ k A=>simp only[pzN,pzStep];split<;>exact A
def zsk9(u:Bool)(t:List Int×Bool)(k:Nat):(pzN u t k).n.ks.length=k/\(pzN u t k).n.vs.length<=k/\(pzN u t k).n.kd.length<=k:=by
 induction k with
 | zero=>exact⟨rfl,zn6 _,zn6 _⟩
 | succ k A=>
  simp only[pzN,pzStep]
  split
  .simp only[zf0,zk0,List.length_nil];omega
  .simp only[zf0,zk0,List.length_nil];omega
def OwV.lt{B:Nat}{e:TypeId}{w:World}{v:Value}{cs:List Value}(h:OwV B e w v cs):∀j,v.ownBlock=some j->j<w.heap.size:=h.owns.lt
structure Rs(B n0:Nat)(w:World)(g nb:Nat)(v1 v2 v3:Value)(p:Pz):Prop where
 src:SzX n0 w g p.t
 nv:Nb w 93 nb p.n.lf v1 v2 v3
 k:OwV B 9 w v1 (strs p.n.ks)
 v:OwV B 9 w v2 (strs p.n.vs)
 d:OwV B 3 w v3 (nums p.n.kd)
 ap:∀j,v1.ownBlock=some j->v2.ownBlock≠some j
 gn:g≠nb
 gB:g<B
 nB:nb<B
 n0:n0<=nb
 wB:B<=w.heap.size
def zpa9{B O:Nat}{w T a0 H:World}{g E:Nat}{v1 v2 v3 A:Value}{p:Pz}{t':List Int×Bool}{y:ByteArray}(h:Rs B O w g E v1 v2 v3 p)(K:Tch (λ k=>k=g) w T)(u:SzX O T g t')(I:Below T.heap.size T a0)
 (g6:Gb B a0 H v1) (o6:OwV B 9 H A (strs p.n.ks++[.string y])) (hf:Fsh a0 v1 A):
 (H.cell? ⟨E,1,none⟩=some v1/\H.frozen? ⟨E,1,none⟩=false)/\Rs B O (H.setCell ⟨E,1,none⟩ A) g E A v2 v3 ⟨{ p.n with ks:=p.n.ks++[y] },t'⟩/\Below O w (H.setCell ⟨E,1,none⟩ A):=by
 have g:=g6
 have n1:=h.nv.tch K (λ e=>h.gn e.symm)
 have n2:=n1.below I
 have a7:=zn2 h.wB K.size
 have a1:=zn2 a7 I.size
 have oi:=(h.k.tch K (λ x u e=>by have:=h.k.ge x u;have:=h.gB;omega)).below I
 have n6:=n2.tch g.tch (λ e=>by have:=oi.ge _ e;have:=h.nB;omega)
 have Q:=tch_at H E 1 A
 have a3:=(h.v.tch K (λ x u e=>by have:=h.v.ge x u;have:=h.gB;omega)).below I
 have a4:=a3.tch g.tch (λ x u e=>h.ap x e u)
 have P1:=a4.tch Q (λ x u e=>by have:=h.v.ge x u;have:=h.nB;omega)
 have a5:=(h.d.tch K (λ x u e=>by have:=h.d.ge x u;have:=h.gB;omega)).below I
 have a6:=a5.tch g.tch (λ x u e=>(h.d.apart h.k (by decide) u) e)
 have P2:=a6.tch Q (λ x u e=>by have:=h.d.ge x u;have:=h.nB;omega)
 have O7:=o6.tch Q (λ x u e=>by have:=o6.ge x u;have:=h.nB;omega)
 have x2:=u.below I
 have Y:=g.belowV oi a1
 have x6:=x2.tch g.tch (λ e=>by have:=oi.ge _ e;have:=h.gB;omega) (λ k e=>by have:=oi.ge _ e;have:=h.nB;have:=h.n0;omega) (by have:=h.n0;have:=h.nB;omega)
 have x7:=x6.tch Q (λ e=>h.gn e) (λ k e=>by rw[e];exact h.n0) (by have:=h.n0;have:=h.nB;have:=Y.size;omega)
 have z1:Below O w T:=K.below (by have:=h.n0;have:=h.nB;have:=h.wB;omega) (λ k e=>by rw[e];exact h.src.new)
 have z2:=(z1.trans (I.mono (by have:=h.n0;have:=h.nB;omega))).trans (Y.mono (by have:=h.n0;have:=h.nB;omega))
 have z7:Below O w (H.setCell ⟨E,1,none⟩ A):=z2.trans (Q.below (by have:=h.n0;have:=h.nB;have:=Y.size;omega) (λ k e=>by rw[e];exact h.n0))
 have a8:=zn2 a1 (zn2 Y.size Q.size)
 have a2:OwV B 9 (H.setCell ⟨E,1,none⟩ A) A (strs (p.n.ks++[y])):=by unfold strs;rw[zj1];exact O7
 refine⟨⟨n6.c1,n6.fz 1⟩,⟨x7,n6.s1 A,a2,P1,P2,λ x u=>by
  rcases hf x u with e|e
  .exact h.ap x e
  .exact λ e2=>by have h3:=h.v.lt x e2;have h4:=K.size;have h5:=I.size;omega,h.gn,h.gB,h.nB,h.n0,a8⟩,z7⟩
def zpc9{B O:Nat}{w T a0 H:World}{g E:Nat}{v1 v2 v3 A:Value}{p:Pz}{t':List Int×Bool}{y:ByteArray}(h:Rs B O w g E v1 v2 v3 p)(K:Tch (λ k=>k=g) w T)(u:SzX O T g t')(I:Below T.heap.size T a0)
 (g6:Gb B a0 H v2) (o6:OwV B 9 H A (strs p.n.vs++[.string y])) (hf:Fsh a0 v2 A):
 (H.cell? ⟨E,2,none⟩=some v2/\H.frozen? ⟨E,2,none⟩=false)/\Rs B O (H.setCell ⟨E,2,none⟩ A) g E v1 A v3 ⟨{ p.n with vs:=p.n.vs++[y] },t'⟩/\Below O w (H.setCell ⟨E,2,none⟩ A):=by
 have g:=g6
 have n1:=h.nv.tch K (λ e=>h.gn e.symm)
 have n2:=n1.below I
 have a7:=zn2 h.wB K.size
 have a1:=zn2 a7 I.size
 have oi:=(h.v.tch K (λ x u e=>by have:=h.v.ge x u;have:=h.gB;omega)).below I
 have n6:=n2.tch g.tch (λ e=>by have:=oi.ge _ e;have:=h.nB;omega)
 have Q:=tch_at H E 2 A
 have a3:=(h.k.tch K (λ x u e=>by have:=h.k.ge x u;have:=h.gB;omega)).below I
 have a4:=a3.tch g.tch (λ x u e=>h.ap x u e)
 have P0:=a4.tch Q (λ x u e=>by have:=h.k.ge x u;have:=h.nB;omega)
 have a5:=(h.d.tch K (λ x u e=>by have:=h.d.ge x u;have:=h.gB;omega)).below I
 have a6:=a5.tch g.tch (λ x u e=>(h.d.apart h.v (by decide) u) e)
 have P2:=a6.tch Q (λ x u e=>by have:=h.d.ge x u;have:=h.nB;omega)
 have O7:=o6.tch Q (λ x u e=>by have:=o6.ge x u;have:=h.nB;omega)
 have x2:=u.below I
 have Y:=g.belowV oi a1
 have x6:=x2.tch g.tch (λ e=>by have:=oi.ge _ e;have:=h.gB;omega) (λ k e=>by have:=oi.ge _ e;have:=h.nB;have:=h.n0;omega) (by have:=h.n0;have:=h.nB;omega)
 have x7:=x6.tch Q (λ e=>h.gn e) (λ k e=>by rw[e];exact h.n0) (by have:=h.n0;have:=h.nB;have:=Y.size;omega)
 have z1:Below O w T:=K.below (by have:=h.n0;have:=h.nB;have:=h.wB;omega) (λ k e=>by rw[e];exact h.src.new)
 have z2:=(z1.trans (I.mono (by have:=h.n0;have:=h.nB;omega))).trans (Y.mono (by have:=h.n0;have:=h.nB;omega))
 have z7:Below O w (H.setCell ⟨E,2,none⟩ A):=z2.trans (Q.below (by have:=h.n0;have:=h.nB;have:=Y.size;omega) (λ k e=>by rw[e];exact h.n0))
 have a8:=zn2 a1 (zn2 Y.size Q.size)
 have a2:OwV B 9 (H.setCell ⟨E,2,none⟩ A) A (strs (p.n.vs++[y])):=by unfold strs;rw[zj1];exact O7
 refine⟨⟨n6.c2,n6.fz 2⟩,⟨x7,n6.s2 A,P0,a2,P2,λ x u e2=>by
  rcases hf x e2 with e|e
  .exact h.ap x u e
  .have h3:=h.k.lt x u;have h4:=K.size;have h5:=I.size;omega,h.gn,h.gB,h.nB,h.n0,a8⟩,z7⟩
def zpb9{B O:Nat}{w T a0 H:World}{g E:Nat}{v1 v2 v3 A:Value}{p:Pz}{t':List Int×Bool}{y:Int}(h:Rs B O w g E v1 v2 v3 p)(K:Tch (λ k=>k=g) w T)(u:SzX O T g t')(I:Below T.heap.size T a0)
 (g6:Gb B a0 H v3) (o6:OwV B 3 H A (nums p.n.kd++[.int .i64 y])) (hf:Fsh a0 v3 A):
 (H.cell? ⟨E,3,none⟩=some v3/\H.frozen? ⟨E,3,none⟩=false)/\Rs B O (H.setCell ⟨E,3,none⟩ A) g E v1 v2 A ⟨{ p.n with kd:=p.n.kd++[y] },t'⟩/\Below O w (H.setCell ⟨E,3,none⟩ A):=by
 have g:=g6
 have n1:=h.nv.tch K (λ e=>h.gn e.symm)
 have n2:=n1.below I
 have a7:=zn2 h.wB K.size
 have a1:=zn2 a7 I.size
 have oi:=(h.d.tch K (λ x u e=>by have:=h.d.ge x u;have:=h.gB;omega)).below I
 have n6:=n2.tch g.tch (λ e=>by have:=oi.ge _ e;have:=h.nB;omega)
 have Q:=tch_at H E 3 A
 have a3:=(h.k.tch K (λ x u e=>by have:=h.k.ge x u;have:=h.gB;omega)).below I
 have a4:=a3.tch g.tch (λ x u e=>(h.k.apart h.d (by decide) u) e)
 have P0:=a4.tch Q (λ x u e=>by have:=h.k.ge x u;have:=h.nB;omega)
 have a5:=(h.v.tch K (λ x u e=>by have:=h.v.ge x u;have:=h.gB;omega)).below I
 have a6:=a5.tch g.tch (λ x u e=>(h.v.apart h.d (by decide) u) e)
 have P1:=a6.tch Q (λ x u e=>by have:=h.v.ge x u;have:=h.nB;omega)
 have O7:=o6.tch Q (λ x u e=>by have:=o6.ge x u;have:=h.nB;omega)
 have x2:=u.below I
 have Y:=g.belowV oi a1
 have x6:=x2.tch g.tch (λ e=>by have:=oi.ge _ e;have:=h.gB;omega) (λ k e=>by have:=oi.ge _ e;have:=h.nB;have:=h.n0;omega) (by have:=h.n0;have:=h.nB;omega)
 have x7:=x6.tch Q (λ e=>h.gn e) (λ k e=>by rw[e];exact h.n0) (by have:=h.n0;have:=h.nB;have:=Y.size;omega)
 have z1:Below O w T:=K.below (by have:=h.n0;have:=h.nB;have:=h.wB;omega) (λ k e=>by rw[e];exact h.src.new)
 have z2:=(z1.trans (I.mono (by have:=h.n0;have:=h.nB;omega))).trans (Y.mono (by have:=h.n0;have:=h.nB;omega))
 have z7:Below O w (H.setCell ⟨E,3,none⟩ A):=z2.trans (Q.below (by have:=h.n0;have:=h.nB;have:=Y.size;omega) (λ k e=>by rw[e];exact h.n0))
 have a8:=zn2 a1 (zn2 Y.size Q.size)
 have a2:OwV B 3 (H.setCell ⟨E,3,none⟩ A) A (nums (p.n.kd++[y])):=by unfold nums;rw[zj1];exact O7
 refine⟨⟨n6.c3,n6.fz 3⟩,⟨x7,n6.s3 A,P0,P1,a2,h.ap,h.gn,h.gB,h.nB,h.n0,a8⟩,z7⟩
