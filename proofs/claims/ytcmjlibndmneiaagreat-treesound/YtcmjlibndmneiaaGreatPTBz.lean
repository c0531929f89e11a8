import Derived.Test.YtcmjlibndmneiaaGreatPTJnd
import Derived.Test.YtcmjlibndmneiaaGreatPTDel1
set_option maxRecDepth 100000
set_option linter.all false
set_option maxHeartbeats 8000000
namespace Go.Proofs.YtcmjlibndmneiaaGreat
open Go.RowKit Go.Maps Pl
def Tz.vok{U:Nat->Prop}{w:World}{t c d M N:Nat}{a:AS}(H:Tz U w t c d M N a)(x:Int)(u:(a.V x).1=0):Vk (a.V x).2:=by
 obtain⟨I,X,S,Y,s,D,h⟩:=H;have K:=h.cz.len;have E:By (s.getB D x).2:=by
  unfold CS.getB;cases hk:kthere D.L.length x with
  | false=>exact λ i=>by simp
  | true=>
   have O:=zm9.1 hk;simp only[if_true];split
   .rename_i hm;exact(h.cz.ch.ok.may _ hm).2
   .exact zsp9 x (h.cz.dk.has_ok (by omega)).2
 rw[h.ok.v]at u |-
 unfold vwC at u |-
 by_cases A:s.getE D x=0
 .rw[A]at u |-
  cases hg:getN (s.getB D x).1 (s.getB D x).2 with
  | none=>rw[vwB_no hg]at u;exact absurd u (by decide)
  | some n=>
   rw[vwB_ok hg];unfold getN at hg;split at hg
   .split at hg
    .rename_i hm;cases hg;exact⟨(Bool.and_eq_true_iff.1 hm).2,rdN_sm _ E⟩
    .cases hg
   .cases hg
 .rw[zko9 A]at u;exact absurd u A
def Gz.vok{H:Nat->Prop}{w:World}{t cc d M N:Nat}{a:AS}{b:CB}{c:CH}(G:Gz H w t cc d M N a b c)(x:Int)(u:(a.V x).1=0):Vk (a.V x).2:=by obtain⟨U,E,A,h⟩:=G;exact h.tz.vok x u
def Gz.look{H:Nat->Prop}{w:World}{t cc d M N:Nat}{a:AS}{b:CB}{c:CH}(G:Gz H w t cc d M N a b c){x:Int}{lv:Nat}(u:(look a x lv).1=0):Vk (look a x lv).2:=by
 unfold Go.Proofs.YtcmjlibndmneiaaGreat.look at u |-
 split
 .rename_i hl;rw[if_pos hl]at u;exact absurd u (by decide)
 .rename_i hl;rw[if_neg hl]at u;exact G.vok x u
def Gz.setLv{H:Nat->Prop}{w:World}{t cc d M N:Nat}{a:AS}{b:CB}{c:CH}(G:Gz H w t cc d M N a b c)(lv:Nat):Gz H (w.setCell ⟨b.cb,4,none⟩ (.int .i64 (lv:Int))) t cc d M N a b { c with lv:=lv }/\Tch H w (w.setCell ⟨b.cb,4,none⟩ (.int .i64 (lv:Int))):=by have E:=G.hcb;obtain⟨U,K,I,h⟩:=G;have u:=tch_at w b.cb 4 (.int .i64 (lv:Int));refine⟨⟨U,K,I,⟨h.tz.tch u (λ k A e=>h.un b.cb (.inl rfl) (e▸A)),⟨heap_setCell_same w b.cb 4 _ _ _ h.cg.box,h.cg.tk.tch u (λ j e q=>h.cg.net (q▸e)),h.cg.gn.tch u (λ j e q=>h.cg.neg (q▸e)),h.cg.ap,h.cg.wf⟩,h.un,h.hx,λ k A=>zn1 (h.hl k A) u.size⟩⟩,u.mono (λ k _ e=>e▸E)⟩
structure Bz(H:Nat->Prop)(w:World)(t cc d M N:Nat)(b:CB)(a:AS)(c:CH)(W:World)(H':Nat->Prop)(bx:Nat)(n:Nd)(u1 u2 u3:Value):Prop where
 gz:Gz H' W t cc d M N a b c
 tc:Tch H w W
 hh:∀k,H' k->H k\/w.heap.size<=k
 nb:Nb W 93 bx n.lf u1 u2 u3
 bg:w.heap.size<=bx
 bn:¬H' bx
 ow:Ow3 w.heap.size W n u1 u2 u3
 ap:Ap3 H' u1 u2 u3
section
variable {H H' H2:Nat->Prop} {w W W':World} {t cc d M N bx:Nat} {b:CB} {a a':AS} {c c':CH} {n:Nd} {u1 u2 u3:Value}
def Ow3.lt{B:Nat}(h:Ow3 B W n u1 u2 u3):Ub3 W u1 u2 u3:=λ j u=>by
 rcases u with e|e|e
 .exact h.k.owns.lt j e
 .exact h.v.owns.lt j e
 .exact h.d.owns.lt j e
def Bz.ne(h:Bz H w t cc d M N b a c W H' bx n u1 u2 u3):∀j,(u1.ownBlock=some j\/u2.ownBlock=some j\/u3.ownBlock=some j)->j≠bx:=λ j u e=>by
 subst e;rcases u with q|q|q
 .exact h.ow.k.ne h.nb (by decide) q
 .exact h.ow.v.ne h.nb (by decide) q
 .exact h.ow.d.ne h.nb (by decide) q
def Bz.move(h:Bz H w t cc d M N b a c W H' bx n u1 u2 u3)(g:Gz H2 W' t cc d M N a' b c')(u:Tch H' W W')(A:∀k,H2 k->H' k\/W.heap.size<=k):Bz H w t cc d M N b a' c' W' H2 bx n u1 u2 u3 where
 gz:=g
 tc:=h.tc.trans u (λ y K e=>(h.hh y e).elim id (λ e=>by omega))
 hh:=λ k I=>(A k I).elim (h.hh k) (λ e=>.inr (zn2 h.tc.size e))
 nb:=h.nb.tch u h.bn
 bg:=h.bg
 bn:=λ e=>(A bx e).elim h.bn (λ e=>by have:=h.nb.lt;omega)
 ow:=h.ow.tch u h.ap
 ap:=λ j E e=>(A j e).elim (h.ap j E) (λ e=>by have:=h.ow.lt j E;omega)
def Bz.moveTo(h:Bz H w t cc d M N b a c W H' bx n u1 u2 u3)(g:GzTo H' W W' t cc d M N a' b c'):∃H2,Bz H w t cc d M N b a' c' W' H2 bx n u1 u2 u3:=by obtain⟨H2,g,u,A⟩:=g;exact⟨H2,h.move g u A⟩
def Bz.below(h:Bz H w t cc d M N b a c W H' bx n u1 u2 u3)(u:Below W.heap.size W W'):Bz H w t cc d M N b a c W' H' bx n u1 u2 u3:=h.move (h.gz.below u) (Tch.of_below u) (λ _ e=>.inl e)
def Bz.drew(h:Bz H w t cc d M N b a c W H' bx n u1 u2 u3):Bz H w t cc d M N b a c W.drew H' bx n u1 u2 u3:=h.below (Below.refl _ _).drew
def Bz.key{g o l cap:Nat}(h:Bz H w t cc d M N b a c W H' bx n (.slice (some ⟨g,o,none⟩) l cap) u2 u3){i:Nat}(hi:i<n.ks.length)(k:ByteArray):Bz H w t cc d M N b a c (W.setCell ⟨g,o+i,none⟩ (.string k)) H' bx (setK n i k) (.slice (some ⟨g,o,none⟩) l cap) u2 u3:=by
 have A:=tch_at W g (o+i) (.string k);have u:(Value.slice (some ⟨g,o,none⟩) l cap).ownBlock=some g:=rfl;have I:¬H' g:=h.ap g (.inl u);have O:w.heap.size<=g:=h.ow.k.ge g u;have K:=h.ne g (.inl u);refine⟨h.gz.tch A (λ y E e=>I (e▸E)),h.tc.trans A (λ y E e=>by omega),h.hh,h.nb.tch A (λ e=>K e.symm),h.bg,h.bn,⟨?_,h.ow.v.tch A (λ j e q=>h.ow.ap j (q▸u) e),h.ow.d.tch A (λ j e q=>h.ow.k.apart h.ow.d (by decide) (q▸u) e),h.ow.ap⟩,h.ap⟩;have:=h.ow.k.put1 (i:=i) (by rw[zh9];exact hi) (.string k);rw[<-ziq9]at this;exact this
def Stay(R:Nat->Prop)(w0 w:World)(H:Nat->Prop):Prop:=∀k,R k->k<w.heap.size/\¬H k/\w.heap[k]?=w0.heap[k]?
def Stay.on{R:Nat->Prop}{I:World}(h:Stay R I w H)(E:Tch H w W)(Q:∀k,H' k->H k\/w.heap.size<=k):Stay R I W H':=λ k O=>by obtain⟨u,A,K⟩:=h k O;exact⟨zn1 u E.size,λ e=>(Q k e).elim A (λ e=>by omega),by rw[E.block k u A];exact K⟩
end
def zhq9{P:Program}{a:Act}{w:World}{Q:Exit->Act->World->Prop}{o:Oper}{K:Act->World->Prop}{f:FuncId}{x:Operand}{xs:Array Operand}{T:Array TypeId}{caps:Array Value}(E:Enters P f)
 (I:o.op=.call { callee:=.value x,args:=xs,argTypes:=T }) (hx:a.eval x=.func (.func f) #[] caps) {vs:Array Value} (hv:xs.map a.eval=vs) {R:Ending->World->Prop} (hc:Calls P f (vs++caps) w R)
 (h:∀e w',R e w'->∃v,e=.returned v/\K (a.put o.dst v) w'):Oper.wp P o a w K Q:=by
 have O:(execOp a.eval o).run P w=.ok (.enter f (vs++caps)) w:=by have u:=E (vs++caps) w;simp[execOp,I,resolve,invoke,hx,hv,Deferred.ofValue,u]
 unfold Oper.wp;rw[O];refine hc.mono ?_;intro e w' A;obtain⟨v,rfl,H⟩:=h e w' A;exact H
def bl_tri:∀x y:List UInt8,Op.bytesLess x y=true\/x=y\/Op.bytesLess y x=true
 | [],[]=>.inr (.inl rfl)
 | [],_::_=>.inl rfl
 | _::_,[]=>.inr (.inr rfl)
 | a::x,b::y=>by
  unfold Op.bytesLess;by_cases h:a<b
  .left;simp[h]
  .by_cases u:b<a
   .right;right;simp[u]
   .have:a=b:=UInt8.le_antisymm (UInt8.not_lt.1 u) (UInt8.not_lt.1 h);subst this;rcases bl_tri x y with e|e|e
    .left;simp[e]
    .right;left;rw[e]
    .right;right;simp[e]
def zjf9:∀x y:List UInt8,Op.bytesLess x y=true->Op.bytesLess y x=false
 | [],[],h=>by simp[Op.bytesLess]at h
 | [],_::_,_=>rfl
 | _::_,[],h=>by simp[Op.bytesLess]at h
 | a::x,b::y,h=>by
  unfold Op.bytesLess at h |-
  simp only[Bool.or_eq_true,zo1,Bool.and_eq_true,beq_iff_eq]at h;rcases h with h|⟨rfl,h⟩
  .have A:¬b<a:=UInt8.not_lt.2 (UInt8.le_of_lt h);(have u:¬b=a:=λ e=>by subst e;exact absurd h (UInt8.lt_irrefl _));simp[A,u]
  .have u:=zjf9 x y h;simp[u,UInt8.lt_irrefl]
def bl_irr(x:List UInt8):Op.bytesLess x x=false:=by
 cases h:Op.bytesLess x x with
 | false=>rfl
 | true=>exact absurd (zjf9 x x h) (by rw[h];decide)
def zvq9{P:Program}(w:World)(E:Array TypeId)(t:TypeId)(x y:ByteArray):(Builtin.min_ E t #[.string x,.string y]).run P w=.ok (.string (Go.Proofs.YtcmjlibndmneiaaGreat.minS x y)) w:=by
 have:(if (Op.bytesLess x.toList y.toList||x.toList==y.toList)=true then x else y)=Go.Proofs.YtcmjlibndmneiaaGreat.minS x y:=by
  unfold Go.Proofs.YtcmjlibndmneiaaGreat.minS lts;rcases bl_tri x.toList y.toList with h|h|h
  .rw[h,zjf9 _ _ h];simp
  .rw[h,bl_irr];simp
  .have u:=zjf9 _ _ h;have A:(x.toList==y.toList)=false:=by rw[zl0];intro e;rw[e,bl_irr]at h;cases h
   rw[h,u,A];simp
 rw[<-this];simp[Builtin.min_,Builtin.min2,Op.stringOp,asBool]
structure Clo(R:Nat->Prop)(w0:World)(b:CB)(D:CD):Prop where
 key:b.key=D.key
 jn:b.jn=D.jn
 ks:D.key.size<=1000
 fn:∃g caps,b.fv=.func (.func g) #[] caps/\Enters Tryz.prog g/\∀(n:Nd)(u1 u2 u3:Value)(W:World)(B:Nat),(∀k,R k->W.heap[k]?=w0.heap[k]?)->(∀k,R k->k<B)->B<=W.heap.size->Ow3 B W n u1 u2 u3->Sm n->n.ks.length<=1000->n.vs.length=n.ks.length->Calls Tryz.prog g (#[nod n.lf u1 u2 u3]++caps) W λ e w'=>AtL B W (D.lf n) u1 u2 u3 e w'
 sz:∀n,SzT n->n.ks.length<=240->n.vs.length=n.ks.length->SzT (D.lf n)
structure BlOk(c:CH)(f:Nat)(r:BR):Prop where
 sz:∀p,p∈r.ps->SzT p
 tk:r.c.tk.length<=c.tk.length+2*f
 gn:r.c.gn.length<=c.gn.length+2*f
 two:r.ps.length<=2
 lv:r.c.lv<=100
def zqf9{R:Nat->Prop}{I:World}{b:CB}{D:CD}(A:Clo R I b D){a:AS}{c:CH}{n:Nd}(u:Vk n)(H:n.lf=true)(x:Int){lv f:Nat}(K:lv<=17):BlOk c (f+1) ⟨0,piecesF (D.lf n),a,{ leaveF a c x with lv:=lv }⟩:=by have E:=zbb9 a c x;exact⟨zgg9 (A.sz n u.sz u.len.1 (u.leaf H).1),by simp only[E.2.1];omega,by simp only;omega,zdx9 _,by simp only;omega⟩
def zdj9{a:AS}{c c':CH}{e:Int}{f:Nat}(H:c'.tk.length<=c.tk.length+2*f)(u:c'.gn.length<=c.gn.length+2*f)(A:c'.lv<=100):BlOk c f ⟨e,[],a,c'⟩:=⟨λ p E=>(by cases E),H,u,by simp,A⟩
def zse9{o:Oper}{a:Act}{w:World}{K:Act->World->Prop}{Q:Exit->Act->World->Prop}{x y:Operand}{p:Addr}{s:ByteArray}{u:Value}(A:o.op=.store 9 x y)(H:a.eval x=.pointer (some p))(I:a.eval y=.string s)(O:w.cell? p=some u)(T:w.frozen? p=false)
 (h:K (a.put o.dst undef) (w.setCell p (.string s))):Oper.wp Tryz.prog o a w K Q:=by
 have E:(Instr.storeAt 9 (.pointer (some p)) (.string s)).run Tryz.prog w=.ok () (w.setCell p (.string s)):=by go_simp
 unfold Oper.wp execOp;simp only[A,H,I,Sem.run_bind,Sem.run_pure,Result.andThen_ok,E];exact h
def plc_in{n:Nd}(h:n.lf=false)(key:ByteArray)(k:Nat)(A:1<=k):plc n key k<k:=by
 induction k with
 | zero=>omega
 | succ k u=>
  unfold plc;rw[if_neg (by rw[h];decide)];split
  .omega
  .cases k with
   | zero=>exact Nat.one_pos
   | succ k=>have:=u (by omega);omega
noncomputable def tailF(a:AS)(c:CH)(n:Nd)(i j:Nat)(ps:List Nd):BR:=
 if (replaceF a c n i j ps).e≠0 then⟨(replaceF a c n i j ps).e,[],(replaceF a c n i j ps).a,(replaceF a c n i j ps).c⟩else⟨0,piecesF (replaceF a c n i j ps).n,(replaceF a c n i j ps).a,(replaceF a c n i j ps).c⟩
def lowK(n:Nd)(key:ByteArray):Nd:=setK n (plc n key n.ks.length) (Go.Proofs.YtcmjlibndmneiaaGreat.minS (kA n (plc n key n.ks.length)) key)
def jnP(d:CD)(ps:List Nd):Prop:=d.jn=true/\ps.length=1/\W (szN (ps.getD 0 noneN) (ps.getD 0 noneN).ks.length)<120
def zzd9{d:CD}{n:Nd}{lv:Nat}{r:BR}(h:r.e≠0):upF d n lv r=⟨r.e,[],r.a,r.c⟩:=if_pos h
def upF_no{d:CD}{n:Nd}{lv:Nat}{r:BR}(h:r.e=0)(hj:¬jnP d r.ps):upF d n lv r=tailF r.a r.c (lowK n d.key) (plc n d.key n.ks.length) (plc n d.key n.ks.length+1) r.ps:=by unfold upF tailF lowK setK;rw[if_neg (by simpa using h)];unfold jnP at hj;simp only[if_neg hj];simp
def upF_jn{d:CD}{n:Nd}{lv:Nat}{r:BR}(h:r.e=0)(hj:jnP d r.ps){J:JR}(u:joinedF r.a r.c (lowK n d.key) (plc n d.key n.ks.length) lv (r.ps.getD 0 noneN)=J):
 upF d n lv r=if J.e≠0 then⟨J.e,[],r.a,J.c⟩else tailF r.a J.c (lowK n d.key) J.i J.j [J.n]:=by
 subst u;unfold upF tailF lowK setK;rw[if_neg (by simpa using h)];unfold jnP at hj;simp only[if_pos hj]
def zqg9{c c':CH}{f:Nat}{a:AS}{n:Nd}{i j:Nat}{ps:List Nd}(Q:c'.tk.length<=c.tk.length+2*f)(O:c'.gn.length<=c.gn.length+2*(f+1))(A:c'.lv<=100)(E:ps.length<=2)(K:Sm n)(H:n.ks.length<=240/\n.vs.length<=240/\n.kd.length<=240)(I:∀p∈ps,Sm p):BlOk c (f+1) (tailF a c' n i j ps):=by
 have u:=zbx9 a c' n i j ps;unfold tailF;split
 .exact zdj9 (by omega) (by rw[u.2.1];omega) (by rw[u.2.2];exact A)
 .exact⟨zgg9 (zal9 a c' i j K H I E),by simp only;omega,by simp only;rw[u.2.1];omega,zdx9 _,by simp only;rw[u.2.2];exact A⟩
def zyb9{n:Nd}(h:Vk n){key:ByteArray}(u:key.size<=1000):Sm (lowK n key)/\(lowK n key).ks.length<=240/\(lowK n key).vs.length<=240/\(lowK n key).kd.length<=240:=by have:=h.len;refine⟨zyr9 h.sm (zrk9 (h.sm.ks _) (by omega)),by unfold lowK;rw[zim9];exact this.1,this.2.1,this.2.2⟩
def Bz.apart{H H' S:Nat->Prop}{w W W':World}{t cc d M N bx:Nat}{b:CB}{a:AS}{c:CH}{n:Nd}{u1 u2 u3:Value}(h:Bz H w t cc d M N b a c W H' bx n u1 u2 u3)(A:Tch S W W')(u:∀k,S k->¬H' k/\k≠bx/\¬(u1.ownBlock=some k\/u2.ownBlock=some k\/u3.ownBlock=some k)/\w.heap.size<=k):Bz H w t cc d M N b a c W' H' bx n u1 u2 u3 where
 gz:=h.gz.tch A (λ k I e=>(u k e).1 I)
 tc:=h.tc.trans A (λ y K e=>by have:=(u y e).2.2.2;omega)
 hh:=h.hh
 nb:=h.nb.tch A (λ e=>(u bx e).2.1 rfl)
 bg:=h.bg
 bn:=h.bn
 ow:=h.ow.tch A (λ j E e=>(u j e).2.2.1 E)
 ap:=h.ap
def RdV.off{w w':World}{T:TypeId}{pb:Nat}{lf:Bool}{E H I:Option Addr}{Y c1 l2 K l3 O:Nat}{v:Value}{u:List Value}(h:RdV w v u)(hN:Nb w T pb lf (.slice E Y c1) (.slice H l2 K) (.slice I l3 O))(hc:∀c∈u,(∃s,c=.string s)\/∃i,c=.int .i64 i)(ht:Tch (λ y=>y=pb) w w'):RdV w' v u:=by
 cases u with
 | nil=>obtain⟨q1,q2,q3,q4,q5,q6,q7⟩:=h;exact⟨q1,q2,q3,q4,q5,q6,.inl rfl⟩
 | cons c u=>
  refine h.tch ht (λ b Q e=>?_);subst e;obtain⟨a,cap,rfl,_,_,_,h⟩:=h;rcases h with h|⟨b',o,rfl,a0⟩
  .cases h
  .simp only[Value.ownBlock,Option.some.injEq]at Q;subst Q;have A:=a0 0 c rfl;rw[cell_of_row w b' (o+0) _ _ (0,0) hN]at A;have h2:c∈[Value.bool lf,.slice E Y c1,.slice H l2 K,.slice I l3 O]:=by rw[List.getElem?_toArray]at A;exact zk1 A
   rcases hc c zp0 with⟨s,rfl⟩|⟨i,rfl⟩<;>simp at h2
def Nn.off{w w':World}{T:TypeId}{H:Nat}{lf:Bool}{I K O:Option Addr}{l1 c1 l2 Q l3 Y:Nat}{n:Nd}{u1 u2 u3:Value}(h:Nn w n u1 u2 u3)(A:Nb w T H lf (.slice I l1 c1) (.slice K l2 Q) (.slice O l3 Y))(E:Tch (λ y=>y=H) w w'):Nn w' n u1 u2 u3:=
 ⟨h.k.off A (λ c u=>.inl (by obtain⟨s,_,rfl⟩:=List.mem_map.1 u;exact⟨_,rfl⟩)) E,h.v.off A (λ c u=>.inl (by obtain⟨s,_,rfl⟩:=List.mem_map.1 u;exact⟨_,rfl⟩)) E,h.d.off A (λ c u=>.inr (by obtain⟨s,_,rfl⟩:=List.mem_map.1 u;exact⟨_,rfl⟩)) E⟩
structure WOk{σ:Type}(D:WD σ)(t wb sb:Nat)(cnt:σ->Nat)(I:(Nat->Prop)->σ->World->Prop):Prop where
 tch:∀(E:Nat->Prop)(s:σ)(w w':World)(S:Nat->Prop),I E s w->Tch S w w'->(∀k,E k->¬S k)->I E s w'
 lt:∀(E:Nat->Prop)(s:σ)(w:World),I E s w->∀k,E k->k<w.heap.size
 kd:∀(s:σ)(x:Int)(n:Nd),Vk n->∀k∈(D.st s x n).2,0<=k/\k<=65535
 ln:∀(s:σ)(x:Int)(n:Nd),Vk n->(D.st s x n).2.length<=240
 ct:∀(s:σ)(x:Int)(n:Nd),Vk n->cnt (D.st s x n).1<=cnt s+240
 fn:∃(g:FuncId)(caps:Array Value),Enters Tryz.prog g/\
  (∀(E:Nat->Prop)(s:σ)(w:World),I E s w->w.heap[wb]?=some (.cells #[tp t,.func (.func g) #[] caps,.bool (D.en s),.map (some sb)] 90 (0,0))/\E wb)/\
  ∀(E:Nat->Prop)(s:σ)(x:Int)(n:Nd)(u1 u2 u3:Value)(w:World),I E s w->Nn w n u1 u2 u3->Vk n->(∀j,(u1.ownBlock=some j\/u2.ownBlock=some j\/u3.ownBlock=some j)->¬E j)->0<=x/\x<=65535->cnt s<=15728640->
   Calls Tryz.prog g (#[.int .i64 x,nod n.lf u1 u2 u3]++caps) w λ e w'=>∃(E':Nat->Prop)(v:Value),e=.returned v/\I E' (D.st s x n).1 w'/\Tch E w w'/\(∀k,E' k->E k\/w.heap.size<=k)/\RdV w' v (nums (D.st s x n).2)/\(∀j,v.ownBlock=some j->u3.ownBlock=some j)
structure Wkz{σ:Type}(U E:Nat->Prop)(w:World)(t cc d M N sb:Nat)(a:AS)(cnt:σ->Nat)(I:(Nat->Prop)->σ->World->Prop)(s:σ)(z:List Int):Prop where
 tz:Tz U w t cc d M N a
 ie:I E s w
 mp:Mp w sb 65536 (gF (λ y=>decide (y∈z)))
 ue:∀k,U k->¬E k
 us:¬U sb
 es:¬E sb
 nd:z.Nodup
 zr:∀y∈z,0<=y/\y<=65535
 ct:cnt s<=240*z.length
def WkzTo{σ:Type}(U E:Nat->Prop)(w w':World)(t cc d M N sb:Nat)(a:AS)(cnt:σ->Nat)(I:(Nat->Prop)->σ->World->Prop)(s:σ)(z:List Int):Prop:=
 ∃U' E',Wkz U' E' w' t cc d M N sb a cnt I s z/\Tch (λ k=>U k\/E k\/k=sb) w w'/\(∀k,U' k->U k\/w.heap.size<=k)/\(∀k,E' k->E k\/w.heap.size<=k)
def zev9:∀(n:Nat)(z:List Int),z.Nodup->(∀y∈z,0<=y/\y<(n:Int))->z.length<=n:=by
 intro n z O A;have E:(z.map Int.toNat).Nodup:=by refine List.Pairwise.map _ (λ a b u=>?_) (List.Pairwise.and_mem.1 O);obtain⟨ha,I,u⟩:=u;have:=A a ha;have:=A b I;intro e;exact u (by omega)
 have H:(z.map Int.toNat).length<=(List.range n).length:=by refine E.length_le_of_subset (λ k K=>?_);obtain⟨y,Q,rfl⟩:=List.mem_map.1 K;have:=A y Q;exact List.mem_range.2 (by omega)
 simpa using H
section
variable {σ:Type} {D:WD σ} {U E U' E':Nat->Prop} {w w' w'':World} {t cc d M N wb sb:Nat} {a:AS} {cnt:σ->Nat} {I:(Nat->Prop)->σ->World->Prop} {s s':σ} {z z':List Int}
def Wkz.zlen(h:Wkz U E w t cc d M N sb a cnt I s z):z.length<=65536:=zev9 65536 z h.nd (λ y u=>by have:=h.zr y u;omega)
def Wkz.cb(h:Wkz U E w t cc d M N sb a cnt I s z):cnt s<=15728640:=by have:=h.zlen;have:=h.ct;omega
def Wkz.slt(h:Wkz U E w t cc d M N sb a cnt I s z):sb<w.heap.size:=h.mp.lt
def Wkz.tch(K:WOk D t wb sb cnt I)(h:Wkz U E w t cc d M N sb a cnt I s z){S:Nat->Prop}(H:Tch S w w')(A:∀k,(U k\/E k\/k=sb)->¬S k):Wkz U E w' t cc d M N sb a cnt I s z:=
 ⟨h.tz.tch H (λ k u=>A k (.inl u)),K.tch _ _ _ _ _ h.ie H (λ k u=>A k (.inr (.inl u))),h.mp.tch H (A sb (.inr (.inr rfl))),h.ue,h.us,h.es,h.nd,h.zr,h.ct⟩
def Wkz.below(u:WOk D t wb sb cnt I)(h:Wkz U E w t cc d M N sb a cnt I s z)(A:Below w.heap.size w w'):Wkz U E w' t cc d M N sb a cnt I s z:=h.tch u (S:=λ _=>False) (Tch.of_below A) (λ _ _ e=>e)
def Wkz.tree(K:WOk D t wb sb cnt I)(h:Wkz U E w t cc d M N sb a cnt I s z)(O:Tz U' w' t cc d M N a)(A:Tch U w w')(H:∀k,U' k->U k\/w.heap.size<=k):Wkz U' E w' t cc d M N sb a cnt I s z:=
 ⟨O,K.tch _ _ _ _ _ h.ie A (λ k u e=>h.ue k e u),h.mp.tch A h.us,λ k u e=>(H k u).elim (λ q=>h.ue k q e) (λ q=>by have:=K.lt _ _ _ h.ie k e;omega),λ e=>(H sb e).elim h.us (λ q=>by have:=h.slt;omega),h.es,h.nd,h.zr,h.ct⟩
def Wkz.fun(Q:WOk D t wb sb cnt I)(h:Wkz U E w t cc d M N sb a cnt I s z)(K:I E' s' w')(A:Tch E w w')(H:∀k,E' k->E k\/w.heap.size<=k)(O:cnt s'<=240*z.length):Wkz U E' w' t cc d M N sb a cnt I s' z:=
 ⟨h.tz.tch A (λ k u e=>h.ue k u e),K,h.mp.tch A h.es,λ k u e=>(H k e).elim (h.ue k u) (λ q=>by have:=h.tz.ul k u;omega),h.us,λ e=>(H sb e).elim h.es (λ q=>by have:=h.slt;omega),h.nd,h.zr,O⟩
def Wkz.seen(O:WOk D t wb sb cnt I)(h:Wkz U E w t cc d M N sb a cnt I s z){x:Int}(Q:x∉z)(hr:0<=x/\x<=65535)(H:Mp w' sb 65536 (gF (updI (λ y=>decide (y∈z)) x true)))(K:Tch (λ k=>k=sb) w w'):Wkz U E w' t cc d M N sb a cnt I s (x::z):=by
 have e:updI (λ y=>decide (y∈z)) x true=λ y=>decide (y∈x::z):=by
  funext y;unfold updI;by_cases q:y=x
  .rw[if_pos q];simp[q]
  .rw[if_neg q];simp[q]
 rw[e]at H;refine⟨h.tz.tch K (λ k u q=>h.us (q▸u)),O.tch _ _ _ _ _ h.ie K (λ k u q=>h.es (q▸u)),H,h.ue,h.us,h.es,List.nodup_cons.2 ⟨Q,h.nd⟩,λ y A=>?_,?_⟩
 .rcases List.mem_cons.1 A with rfl|A
  .exact hr
  .exact h.zr y A
 .have:=h.ct;simp only[zk0];omega
end
section
variable {σ:Type} {D:WD σ} {t cc d M N wb sb:Nat} {a:AS} {cnt:σ->Nat} {I:(Nat->Prop)->σ->World->Prop}
def WkzTo.bel(A:WOk D t wb sb cnt I){U E:Nat->Prop}{w w':World}{s:σ}{z:List Int}(h:Wkz U E w t cc d M N sb a cnt I s z)(u:Below w.heap.size w w'):WkzTo U E w w' t cc d M N sb a cnt I s z:=⟨U,E,h.below A u,Tch.of_below u,λ _ e=>.inl e,λ _ e=>.inl e⟩
def DnC(D:WD σ)(t cc d M N wb sb:Nat)(a:AS)(cnt:σ->Nat)(I:(Nat->Prop)->σ->World->Prop)(f lv:Nat):Prop:=
 ∀(U E:Nat->Prop)(w:World)(s:σ)(z:List Int)(x:Int),0<=x/\x<=65535->Wkz U E w t cc d M N sb a cnt I s z->
  Calls Tryz.prog 77 #[Value.pointer (some ⟨wb,0,none⟩),.int .i64 x,.int .i64 (lv:Int)] w λ e w'=>e=.returned (.int .i64 (downF D a f lv s z x).e)/\WkzTo U E w w' t cc d M N sb a cnt I (downF D a f lv s z x).s (downF D a f lv s z x).z
def zgv9(hO:WOk D t wb sb cnt I)(f lv:Nat)(de:1<=lv/\lv<=17)(c7:lv<=16->DnC D t cc d M N wb sb a cnt I f (lv+1)):DnC D t cc d M N wb sb a cnt I (f+1) lv:=by
 intro U E w s z x hx h;obtain⟨g,a4,bz,b3,bx⟩:=hO.fn;obtain⟨⟨er,n⟩,ai⟩:∃r,Hid (look a x lv=r):=⟨_,rfl⟩
 have cv:Hid (er=0->Vk n):=λ h0=>by
  have Y:=ai.o;unfold look at Y;split at Y
  .have h3:=congrArg Prod.fst Y;omega
  .have h3:=h.tz.vok x;rw[Y]at h3;exact h3 h0
 have cn:Hid (er=0->lv<=16):=λ h=>by
  have Y:=ai.o;unfold look at Y;by_cases q:16<lv
  .rw[if_pos q]at Y;have h3:=congrArg Prod.fst Y;omega
  .omega
 obtain⟨u,br⟩:=exH (downF D a (f+1) lv s z x);rw[br.o];have ap:Hid (u=if x∈z then⟨7,s,z⟩else if er≠0 then⟨er,s,x::z⟩else goF D.en (downF D a f (lv+1)) (D.st s x n).2 (D.st s x n).1 (x::z)):=by show u=_;rw[<-br.o,downF,ai.o]
 obtain⟨az,bn⟩:=b3 E s w h.ie;have k0:w.cell? ⟨wb,0,none⟩=some (tp t):=by rw[cell_of_row w wb 0 _ _ (0,0) az];rfl
 have k3:w.cell? ⟨wb,3,none⟩=some (.map (some sb)):=by rw[cell_of_row w wb 3 _ _ (0,0) az];rfl
 have c9:(Lit.int .i64 x).wf=true:=zay9 (by omega) (by omega);have LK:=h.mp.lookT (λ y hy=>by have:=h.zr y (of_decide_eq_true hy);omega) c9;obtain⟨q,hq⟩:=exH (decide (x∈z));rw[hq.o]at LK;have HH:=za0 h;have HO:=za0 hO;have ch:=za0 bz;have ab:=za0 b3;have cg:=za0 bx;have cs:=za0 c7;have HX:=za0 hx;have d7:=za0 bn;clear h hO bz b3 bx c7 hx az c9 bn;obtain⟨W1,bu⟩:=exN (w.alloc (.cells #[] 121));have b1:Hid (Below w.heap.size w W1):=by rw[<-bu];exact za9 _ _
 go_enter Tryz.func77,Tryz.ntmps77
 cases q
 .have ao:=za0 (of_decide_eq_false hq.o);have h1:=HH.o.below HO.o b1.o;have HM:=za0 h1.mp;have d4:W1.cell? ⟨wb,3,none⟩=some (.map (some sb)):=by rw[b1.o.cell (ze0 w ⟨wb,3,none⟩ k3)];exact k3
  have ba:=za0 h1;clear h1 k0;go_wp2_with(at_mapUpdate;refine zfj9 rfl (.tmp 27) (.tmp 28) (.tmp 29) rfl sb 65536 (λ y=>decide (y∈z)) x rfl rfl rfl HM.o HX.o.1 (by have:=HX.o.2;omega) (zn6 _) ?_;intro w2 m2 t2;refine Hid.o ?_)
  refine za0 ?_;have Y:=ba.o.seen HO.o ao.o HX.o m2 t2;have aq:Hid (Tch (λ k=>U k\/E k\/k=sb) w w2):=(Tch.of_below (S:=λ k=>U k\/E k\/k=sb) b1.o).trans t2 (λ y hy e=>.inr (.inr e));have RD:=zkc9 x lv w2 Y.tz;rw[ai.o]at RD;have be:=za0 RD;have bb:=za0 Y;have bl:=(ab.o E s w2 Y.ie).1;have d3:w2.cell? ⟨wb,0,none⟩=some (tp t):=by rw[cell_of_row w2 wb 0 _ _ (0,0) bl];rfl
  have d8:=za0 t2.size;clear RD Y bl m2 t2 k3 d4 LK HM;go_wp2_with fail;refine be.o.mono ?_;rintro e O ⟨v1,v2,v3,he,a5,U3,z3,t3,h3,ay⟩;have cz:=he;have a5:=a5;subst cz;clear he be;have H3:=bb.o.tree HO.o z3 t3 h3;have T3:Tch (λ k=>U k\/E k\/k=sb) w O:=aq.o.trans t3 (λ y hy e=>.inl e);obtain⟨a1,c1,a2,c2,a3,c3,rfl,rfl,rfl,_,_,_,_⟩:=a5.nn.o;obtain⟨L1,bo⟩:=exH n.ks.length;obtain⟨L2,bp⟩:=exH n.vs.length;obtain⟨L3,bq⟩:=exH n.kd.length;obtain⟨lf,c5⟩:=exH n.lf;rw[bo.o,bp.o,bq.o]at a5 ay;rw[bo.o,bp.o,bq.o,c5.o];unfold nod;obtain⟨W4,bw⟩:=exN (O.alloc (.cells #[.bool false,.slice none 0 0,.slice none 0 0,.slice none 0 0] 93))
  have NB:Nb W4 93 O.heap.size false (.slice none 0 0) (.slice none 0 0) (.slice none 0 0):=by rw[<-bw];exact nb_new _ _ _ _ _ _
  have b4:Below O.heap.size O W4:=by rw[<-bw];exact za9 _ _
  obtain⟨A,ad⟩:=exN ((((W4.setCell ⟨O.heap.size,0,none⟩ (.bool lf)).setCell ⟨O.heap.size,1,none⟩ (.slice a1 L1 c1)).setCell ⟨O.heap.size,2,none⟩ (.slice a2 L2 c2)).setCell ⟨O.heap.size,3,none⟩ (.slice a3 L3 c3));have NC:Nb A 93 O.heap.size lf (.slice a1 L1 c1) (.slice a2 L2 c2) (.slice a3 L3 c3):=by rw[<-ad];exact NB.all _ _ _ _
  have t5:Tch (λ y=>y=O.heap.size) W4 A:=by rw[<-ad];exact zl9 _ _ _ _ _ _
  have al:Tch (λ _=>False) O A:=(Tch.of_below b4).trans t5 (λ y hy e=>by omega);have H5:=H3.tch HO.o al (λ _ _ e=>e);have T5:Tch (λ k=>U k\/E k\/k=sb) w A:=T3.trans al (λ _ _ e=>e.elim);have bt:∀k,U3 k->U k\/w.heap.size<=k:=λ k hk=>(h3 k hk).imp id (λ q=>by have:=aq.o.size;omega);have c6:=a5.tch al (λ _ _ e=>e);have an:=za0 H5;have bg:=za0 T5;have bh:=za0 bt;have cq:=za0 c6;have cd:=za0 ay;have co:=za0 NC;have bf:Hid (w.heap.size<=w2.heap.size/\w2.heap.size<=O.heap.size/\O.heap.size<A.heap.size):=⟨aq.o.size,t3.size,NC.lt⟩
  have p0:=NB.c0;have p1:=NB.c1;have p2:=NB.c2;have p3:=NB.c3;have f0:=NB.fz 0;have f1:=NB.fz 1;have f2:=NB.fz 2;have f3:=NB.fz 3;clear NB b4 t5 al H3 T3 H5 T5 bt c6 a5 ay NC z3 t3 h3 ba bb d3;by_cases h0:er=0
  .subst h0;have HV:=za0 (cv.o rfl);have cm:=za0 (cn.o rfl);obtain⟨Q,ah⟩:=exH ((D.st s x n).2);obtain⟨s1,b6⟩:=exH ((D.st s x n).1);obtain⟨kl,ag⟩:=exH Q.length;have a0:Hid (u=goF D.en (downF D a f (lv+1)) Q s1 (x::z)):=by show u=_;rw[ap.o,if_neg ao.o,if_neg (by simp),ah.o,b6.o]
   (have cl:Hid (∀y∈Q,0<=y/\y<=65535):=by have:=HO.o.kd s x n HV.o;rw[ah.o]at this;exact this);(have dc:kl<=240:=by have:=HO.o.ln s x n HV.o;rw[ah.o,ag.o]at this;exact this);have a6:=an.o.below HO.o (Below.refl _ _).drew;have a7:=cq.o.tch (Tch.of_below (S:=λ _=>False) (Below.refl A.heap.size A).drew) (λ _ _ e=>e);have bj:=co.o.below (Below.refl _ _).drew;have bm:=(ab.o E s A.drew a6.ie).1;(have ca:A.drew.cell? ⟨wb,1,none⟩=some (.func (.func g) #[] a4):=by rw[cell_of_row A.drew wb 1 _ _ (0,0) bm];rfl);have hS:A.drew.cell? ⟨wb,1,none⟩=some (.func (.func g) #[] a4)/\Nb A.drew 93 O.heap.size lf (.slice a1 L1 c1) (.slice a2 L2 c2) (.slice a3 L3 c3):=⟨ca,bj⟩
   (have b0:=HO.o.lt _ _ _ HH.o.ie;have nE:∀j,((Value.slice a1 L1 c1).ownBlock=some j\/(Value.slice a2 L2 c2).ownBlock=some j\/(Value.slice a3 L3 c3).ownBlock=some j)->¬E j:=λ j hj e=>by have:=a7.fr j hj;have:=b0 j e;have:=bf.o;omega);have CL:=cg.o E s x n (.slice a1 L1 c1) (.slice a2 L2 c2) (.slice a3 L3 c3) A.drew a6.ie a7.nn HV.o nE HX.o HH.o.cb;rw[c5.o,b6.o,ah.o]at CL;have ce:=za0 CL;have cf:Hid (cnt s1<=240*(x::z).length):=by have h1:=HO.o.ct s x n HV.o;have Y:=HH.o.ct;rw[b6.o]at h1;show _<=_;simp only[zk0];omega
   have cu:Hid (∀(T:World)(E6:Nat->Prop)(v6:Value),I E6 s1 T->Tch E A.drew T->(∀k,E6 k->E k\/A.drew.heap.size<=k)->RdV T v6 (nums Q)->(∀j,v6.ownBlock=some j->(Value.slice a3 L3 c3).ownBlock=some j)->
    (T.cell? ⟨wb,1,none⟩=some (.func (.func g) #[] a4)/\Nb T 93 O.heap.size lf (.slice a1 L1 c1) (.slice a2 L2 c2) (.slice a3 L3 c3))/\
    (Wkz U3 E6 T t cc d M N sb a cnt I s1 (x::z)/\Tch (λ y=>U y\/E y\/y=sb) w T/\(∀y,U3 y->U y\/w.heap.size<=y)/\(∀y,E6 y->E y\/w.heap.size<=y)/\RdV T v6 (nums Q)/\(∀j,v6.ownBlock=some j->¬(U3 j\/E6 j\/j=sb)/\j<T.heap.size)/\u=goF D.en (downF D a f (lv+1)) (Q.drop 0) s1 (x::z))):=by
    intro T E6 v6 i6 t6 h6 r6 o6;have a6:=an.o.below HO.o (Below.refl _ _).drew;have H6:=a6.fun HO.o i6 t6 h6 cf.o;have cw:=(ab.o E6 s1 T i6).1;have dh:=bf.o;have e5:A.drew.heap.size=A.heap.size:=rfl;have di:=t6.size;refine⟨⟨by rw[cell_of_row T wb 1 _ _ (0,0) cw];rfl,hS.2.tch t6 (λ e=>by have:=b0 _ e;omega)⟩,H6,(bg.o.trans (Tch.of_below (S:=λ y=>U y\/E y\/y=sb) (Below.refl A.heap.size A).drew) (λ _ _ e=>e)).trans t6 (λ y hy e=>.inr (.inl e)),bh.o,λ y hy=>(h6 y hy).imp id (λ q=>by omega),r6,λ j hj=>?_,by rw[List.drop_zero];exact a0.o⟩;have ae:=o6 j hj;have q1:=a7.fr j (.inr (.inr ae));have q2:=a7.lt j (.inr (.inr ae));have q3:=cd.o j (.inr (.inr ae));have q4:=nE j (.inr (.inr ae))
    have q5:=HH.o.slt;refine⟨λ q=>?_,by omega⟩;rcases q with q|q|q
    .exact q3 q
    .exact(h6 j q).elim q4 (λ q=>by omega)
    .omega
   (clear a6 a7 bj bm ca b0 nE CL;go_wp2_with fail;try rw[ad]);refine wp_region_held (S:=λ w'=>w'.cell? ⟨wb,1,none⟩=some (.func (.func g) #[] a4)/\Nb w' 93 O.heap.size lf (.slice a1 L1 c1) (.slice a2 L2 c2) (.slice a3 L3 c3)) (by kernel_rfl) ?_;refine tkT 0 (some 43) (.move (.tmp 0)) (Value.pointer (some ⟨wb,0,none⟩)) (by rintro o ho w' ⟨z1,z2⟩;go_simp) hS ?_;simp only[zw];refine tkT 1 (some 44) (.nilCheck (.tmp 43)) (Value.pointer (some ⟨wb,0,none⟩)) (by rintro o ho w' ⟨z1,z2⟩;go_simp) hS ?_;simp only[zw];refine tkT 2 (some 45) (.fieldAddr 90 (.tmp 44) 1) (Value.pointer (some ⟨wb,1,none⟩)) (by rintro o ho w' ⟨z1,z2⟩;go_simp) hS ?_;simp only[zw]
   refine tkT 3 (some 46) (.load 87 (.tmp 45)) (Value.func (.func g) #[] a4) (by rintro o ho w' ⟨z1,z2⟩;go_simp) hS ?_;simp only[zw];refine tkT 4 (some 47) (.move (.tmp 1)) (Value.int .i64 x) (by rintro o ho w' ⟨z1,z2⟩;go_simp) hS ?_;simp only[zw];refine tkT 5 (some 48) (.load 93 (.tmp 9)) (nod lf (.slice a1 L1 c1) (.slice a2 L2 c2) (.slice a3 L3 c3)) ?hy hS ?_;case hy=>rintro o ho w' ⟨z1,z2⟩;have q0:=z2.c0;have q1:=z2.c1;have q2:=z2.c2;have q3:=z2.c3;unfold nod;go_simp
   simp only[zw];refine tkT 8 (some 51) (.move (.const (.int .i64 0))) (Value.int .i64 0) (by rintro o ho w' ⟨z1,z2⟩;go_simp) hS ?_;simp only[zw];refine rdT 6 (some 49) (.call { callee:=.value (.tmp 46),args:=#[.tmp 47,.tmp 48],argTypes:=#[3,93] }) ?_;rintro o K hd ho hg hK;refine zhq9 ch.o ho (caps:=a4) (by rfl) (vs:=#[.int .i64 x,nod lf (.slice a1 L1 c1) (.slice a2 L2 c2) (.slice a3 L3 c3)]) (by kernel_rfl) ce.o ?_;rintro e T ⟨E6,v6,rfl,i6,t6,h6,r6,o6⟩;refine⟨_,rfl,?_⟩;rw[hd];obtain⟨bs,av⟩:=cu.o T E6 v6 i6 t6 h6 r6 o6;clear hS;have hS:=bs;obtain⟨va,vc,rfl⟩:=r6.long;rw[zf9,ag.o]at av |-
   refine hK _ _ hS ?_;have bi:=za0 av;clear ho hd hg hK i6 t6 h6 r6 o6 av;simp only[zw];refine tkT 7 (some 50) (.call { callee:=.builtin .len,args:=#[.tmp 49],argTypes:=#[56] }) (Value.int .i64 (kl:Int)) (by rintro o ho w' ⟨z1,z2⟩;go_simp) hS ?_;simp only[zw];refine wpAnyH_done (by kernel_rfl) ?_ _;clear hS bs;go_wp2_with fail
   go_loopw [51] (λ kv wr=>∃(k:Nat)(U' E':Nat->Prop)(s':σ)(z':List Int),k<=kl/\kv=.int .i64 k/\Hid (Wkz U' E' wr t cc d M N sb a cnt I s' z'/\Tch (λ y=>U y\/E y\/y=sb) w wr/\(∀y,U' y->U y\/w.heap.size<=y)/\(∀y,E' y->E y\/w.heap.size<=y)/\RdV wr (.slice va kl vc) (nums Q)/\(∀j,(Value.slice va kl vc).ownBlock=some j->¬(U' j\/E' j\/j=sb)/\j<wr.heap.size)/\u=goF D.en (downF D a f (lv+1)) (Q.drop k) s' z')) (λ kv _=>kl-(intOf kv).toNat)
   (case atStart=>exact⟨0,_,_,_,_,zn7 _,rfl,bi⟩);case round=>
    clear bi;obtain⟨k,U7,E7,s7,z7,db,rfl,HI⟩:=hrel;obtain⟨wz,dg⟩:=exH wr;have H:=HI.o;have a8:=(ab.o E7 s7 wr H.1.ie).1;obtain⟨en,b5⟩:∃q,Hid (D.en s7=q):=⟨_,rfl⟩
    rw[b5.o]at a8;(have w2:wr.cell? ⟨wb,2,none⟩=some (.bool en):=by rw[cell_of_row wr wb 2 _ _ (0,0) a8];rfl);by_cases c4:k<kl
    .have d2:decide ((k:Int)<(kl:Int))=true:=by rw[zm0];omega
     (have a9:k<Q.length:=by rw[ag.o];exact c4);obtain⟨vb,vo,rfl,ck⟩:=H.2.2.2.2.1.at (i:=k) (c:=.int .i64 (Q[k])) (by rw[nums,zd1,zc0 a9];rfl);obtain⟨aa,af⟩:∃q,q=Q[k]:=⟨_,rfl⟩
     rw[<-af]at ck;have cj:Hid (0<=aa/\aa<=65535):=by have:=cl.o (Q[k]) (za1 a9);rw[<-af]at this;exact this
     (have b9:Hid (Q.drop k=aa::Q.drop (k+1)):=by show _=_;rw[af];exact List.drop_eq_getElem_cons a9);clear af;(have i0:(0:Int)<=(k:Int):=by omega);(have i1:(k:Int)<(kl:Int):=by omega);cases en
     .have ax:=cs.o cm.o U7 E7 wr s7 z7 aa cj.o H.1;obtain⟨r,hr⟩:=exH (downF D a f (lv+1) s7 z7 aa);rw[hr.o]at ax;have a0:Hid (u=if r.e≠0 then r else goF D.en (downF D a f (lv+1)) (Q.drop (k+1)) r.s r.z):=by show u=_;rw[H.2.2.2.2.2.2,b9.o,goF,b5.o,if_neg (by decide),hr.o]
      have cr:=za0 ax;have bc:Hid (IntKind.i64.wrap ((lv:Int)+1)=((lv+1:Nat):Int)/\wrap64 ((lv:Int)+1)=((lv+1:Nat):Int)):=⟨wk_nat (by omega) (by omega),zu9 (by omega) (by omega)⟩
      clear ax H a8 a9;have d5:=bc.o.1;have d6:=bc.o.2;go_wp2_with fail;clear d5 d6;refine cr.o.mono ?_;rintro e W9 ⟨rfl,U9,E9,z9,t9,u9,e9⟩;obtain⟨re,aj⟩:=exH r.e;rw[aj.o];have H:=HI.o;have d1:=H.2.1.size;have T9:Tch (λ y=>U y\/E y\/y=sb) w W9:=H.2.1.trans t9 (λ y hy q=>by
       rcases q with q|q|q
       .exact(H.2.2.1 y q).elim .inl (λ q=>by omega)
       .exact(H.2.2.2.1 y q).elim (λ q=>.inr (.inl q)) (λ q=>by omega)
       .exact .inr (.inr q))
      have bk:∀y,U9 y->U y\/w.heap.size<=y:=λ y hy=>(u9 y hy).elim (H.2.2.1 y) (λ q=>.inr (by omega));have b7:∀y,E9 y->E y\/w.heap.size<=y:=λ y hy=>(e9 y hy).elim (H.2.2.2.1 y) (λ q=>.inr (by omega));have b2:=H.2.2.2.2.2.1;have R9:=H.2.2.2.2.1.tch t9 (λ j hj=>(b2 j hj).1);have d0:=t9.size;have A9:∀j,(Value.slice (some ⟨vb,vo,none⟩) kl vc).ownBlock=some j->¬(U9 j\/E9 j\/j=sb)/\j<W9.heap.size:=λ j hj=>by
       obtain⟨q1,q2⟩:=b2 j hj;refine⟨λ q=>?_,by omega⟩;rcases q with q|q|q
       .exact(u9 j q).elim (λ q=>q1 (.inl q)) (λ q=>by omega)
       .exact(e9 j q).elim (λ q=>q1 (.inr (.inl q))) (λ q=>by omega)
       .exact q1 (.inr (.inr q))
      have aw:=za0 z9;have ar:=za0 T9;have au:=za0 bk;have am:=za0 b7;have bd:=za0 R9;have b8:=za0 A9;clear H d1 T9 bk b7 b2 R9 d0 A9 z9 t9 u9 e9 ck w2;by_cases ak:re=0
      .subst ak;have ac:Hid (u=goF D.en (downF D a f (lv+1)) (Q.drop (k+1)) r.s r.z):=by show u=_;rw[a0.o,if_neg (by rw[aj.o];simp)]
       go_wp2_with fail
       first
        | exact⟨⟨k+1,U9,E9,r.s,r.z,by omega,by first|rfl|go_num,⟨aw.o,ar.o,au.o,am.o,bd.o,b8.o,ac.o⟩⟩,by simp[intOf];omega⟩
        | (go_roundw
           (case rel=>exact⟨k+1,U9,E9,r.s,r.z,by omega,by first|rfl|go_num,⟨aw.o,ar.o,au.o,am.o,bd.o,b8.o,ac.o⟩⟩);case measure=>simp[intOf];omega)
      .have cy:(re==0)=false:=by rw[zl0];exact ak
       (have da:(re != 0)=true:=by rw[bne,cy];rfl);have ac:Hid (u=r):=by show u=_;rw[a0.o,if_pos (by rw[aj.o];exact ak)]
       clear ak;go_wp2_with fail;go_ret;rw[ac.o,aj.o];exact⟨rfl,U9,E9,aw.o,ar.o,au.o,am.o⟩
     .have a0:Hid (u=⟨0,s7,z7⟩):=by show u=_;rw[H.2.2.2.2.2.2,b9.o,goF,b5.o,if_pos rfl]
      clear H a8 a9;go_wp2_with fail;go_ret;rw[a0.o];exact⟨rfl,U7,E7,HI.o.1,HI.o.2.1,HI.o.2.2.1,HI.o.2.2.2.1⟩
    .have d2:decide ((k:Int)<(kl:Int))=false:=by rw[zn4];omega
     (have df:=zl1 c4;have a0:Hid (u=⟨0,s7,z7⟩):=by show u=_;rw[H.2.2.2.2.2.2,List.drop_of_length_le (by rw[ag.o];omega),goF]);clear H a8;go_wp2_with fail;go_ret;rw[a0.o];exact⟨rfl,U7,E7,HI.o.1,HI.o.2.1,HI.o.2.2.1,HI.o.2.2.2.1⟩
  .have cx:(er==0)=false:=by rw[zl0];exact h0
   (have d9:(er != 0)=true:=by rw[bne,cx];rfl);have a0:Hid (u=⟨er,s,x::z⟩):=by show u=_;rw[ap.o,if_neg ao.o,if_pos h0]
   (clear h0;go_wp2_with fail;try rw[ad]);go_ret;rw[a0.o];exact⟨rfl,U3,E,an.o,bg.o,bh.o,λ _ e=>.inl e⟩
 .have ci:Hid (x∈z):=za0 (of_decide_eq_true (p:=x∈z) hq.o);have a0:Hid (u=⟨7,s,z⟩):=by show u=_;rw[ap.o,if_pos ci.o]
  clear k0;go_wp2_with fail;go_ret;rw[a0.o];exact⟨rfl,WkzTo.bel HO.o HH.o (by(try rw[bu]);exact b1.o)⟩
end
section
variable {σ:Type} {D:WD σ} {t cc d M N wb sb:Nat} {a:AS} {cnt:σ->Nat}
def zmu9(D:WD σ)(a:AS)(s:σ)(z:List Int)(x:Int):downF D a 1 17 s z x=downF D a 0 17 s z x:=by rw[downF,downF];rfl
def zjj9{I:(Nat->Prop)->σ->World->Prop}(u:WOk D t wb sb cnt I):∀(f lv:Nat),f+lv=17->1<=lv->DnC D t cc d M N wb sb a cnt I f lv
 | 0,lv,h,h1=>by
  obtain rfl:lv=17:=by omega
  intro U E w s z x H h;have A:=zgv9 (cc:=cc) (d:=d) (M:=M) (N:=N) (a:=a) u 0 17 ⟨by omega,by omega⟩ (λ e=>by omega) U E w s z x H h;rw[zmu9]at A;exact A
 | f+1,lv,h,h1=>zgv9 u f lv ⟨h1,by omega⟩ (λ _=>zjj9 u f (lv+1) (by omega) (by omega))
def FrT(U E:Nat->Prop)(w w':World)(t cc d M N:Nat)(a:AS)(J:Option Nat->(Nat->Prop)->σ->World->Prop)(s:σ):Prop:=
 ∃U' E' m,Tz U' w' t cc d M N a/\J m E' s w'/\Tch (λ k=>U k\/E k) w w'/\(∀k,U' k->U k\/w.heap.size<=k)/\(∀k,E' k->E k\/w.heap.size<=k)/\(∀k,U' k->¬E' k)
def zfp9(J:Option Nat->(Nat->Prop)->σ->World->Prop)(hO:∀sb,WOk D t wb sb cnt (J (some sb)))(a4:∀E s w sb,J none E s w->J (some sb) E s (w.setCell ⟨wb,3,none⟩ (.map (some sb))))
 (a5:∀(E:Nat->Prop)(s:σ)(w w':World)(S:Nat->Prop),J none E s w->Tch S w w'->(∀k,E k->¬S k)->J none E s w')
 (a3:∀E s w,J none E s w->(∃v1 v2 v0,w.heap[wb]?=some (.cells #[v0,v1,v2,.map none] 90 (0,0)))/\E wb/\∀k,E k->k<w.heap.size)
 (x:Int) (hx:0<=x/\x<=65535) (U E:Nat->Prop) (w:World) (s:σ) (O:Tz U w t cc d M N a) (K:J none E s w) (Q:∀k,U k->¬E k) (hc:cnt s=0):
 Calls Tryz.prog 44 #[.pointer (some ⟨wb,0,none⟩),.int .i64 x] w λ e w'=>e=.returned (.int .i64 (fromF D a s x).e)/\FrT U E w w' t cc d M N a J (fromF D a s x).s/\cnt (fromF D a s x).s<=15728640:=by
 obtain⟨⟨v1,v2,v0,bx⟩,A,I⟩:=a3 E s w K;by_cases Y:x=0
 .subst Y;have HF:Hid (FrT U E w w t cc d M N a J (fromF D a s 0).s):=⟨U,E,none,O,K,Tch.refl _ _,λ _ e=>.inl e,λ _ e=>.inl e,Q⟩
  have HE:Hid ((fromF D a s 0).e=0):=rfl;have a0:Hid (cnt (fromF D a s 0).s<=15728640):=by show cnt s<=_;rw[hc];exact zn7 _
  rw[HE.o];clear hO a4 a5 a3 O K Q hc bx A I hx
  go_enter Tryz.func44,Tryz.ntmps44
  go_wp2_with fail;go_ret;exact⟨rfl,HF.o,a0.o⟩
 .have HR:Hid (fromF D a s x=downF D a 16 1 s [] x):=if_neg Y;obtain⟨u,a8⟩:=exN (w.alloc (.map #[] 0));have H:Below w.heap.size w u:=by rw[<-a8];exact za9 _ _
  have M1:Mp u w.heap.size 65536 (λ _=>none):=by rw[<-a8];exact mp_of (World.ownsMap_made w _ _ _) (by rw[zcl9 (λ _ _=>rfl)])
  have a7:Mp u w.heap.size 65536 (gF (λ y=>decide (y∈([]:List Int)))):=M1.congr (λ i _=>by simp[gF]);have J1:=a5 E s w u (λ _=>False) K (Tch.of_below H) (λ _ _ e=>e);have a1:u.heap[wb]?=some (.cells #[v0,v1,v2,.map none] 90 (0,0)):=by rw[H.block wb (I wb A)];exact bx
  obtain⟨W2,a2⟩:=exN (u.setCell ⟨wb,3,none⟩ (.map (some w.heap.size)));have J2:=a4 E s u w.heap.size J1;rw[a2]at J2;have t2:Tch (λ y=>y=wb) u W2:=by rw[<-a2];exact tch_at _ _ _ _
  have aa:=I wb A;have Z2:Wkz U E W2 t cc d M N w.heap.size a cnt (J (some w.heap.size)) s []:=⟨(O.below H).tch t2 (λ k T e=>Q k T (e▸A)),J2,a7.tch t2 (by omega),Q,λ e=>by have:=O.ul _ e;omega,λ e=>by have:=I _ e;omega,List.nodup_nil,λ y hy=>(by cases hy),by rw[hc];exact zn7 _⟩
  have T2:Tch (λ k=>U k\/E k) w W2:=(Tch.of_below (S:=λ k=>U k\/E k) H).trans t2 (λ y hy e=>.inr (e▸A));have DN:=zjj9 (cc:=cc) (d:=d) (M:=M) (N:=N) (a:=a) (hO w.heap.size) 16 1 rfl (zn6 _) U E W2 s [] x hx Z2;rw[<-HR.o,show((1:Nat):Int)=1 from rfl]at DN;obtain⟨r,hr⟩:=exH (fromF D a s x);rw[hr.o]at DN |-
  have a9:=za0 DN;have a6:=za0 T2;have ab:(x==0)=false:=by rw[zl0];exact Y
  have ac:decide (x=0)=false:=by rw[zn4];exact Y
  have c3:u.cell? ⟨wb,3,none⟩=some (.map none):=by rw[cell_of_row u wb 3 _ _ (0,0) a1];rfl
  have f3:u.frozen? ⟨wb,3,none⟩=false:=frozen_of_row u wb 3 _ _ a1;have ad:=@run_makeMap Tryz.prog;clear hO a4 a5 a3 O K Q hc bx A I hx Y H M1 a7 J1 a1 J2 t2 aa Z2 T2 DN
  go_enter Tryz.func44,Tryz.ntmps44
  go_wp2_with fail;try rw[a2]
  refine a9.o.mono ?_;rintro e W3 ⟨rfl,U3,E3,z3,t3,u3,e3⟩;have HF:Hid (FrT U E w W3 t cc d M N a J r.s):=by
   have hs:=a6.o.size;have ae:=t3.size;refine⟨U3,E3,_,z3.tz,z3.ie,a6.o.trans t3 (λ y hy e=>?_),λ k T=>(u3 k T).imp id (λ e=>by omega),λ k T=>(e3 k T).imp id (λ e=>by omega),z3.ue⟩;rcases e with e|e|e
   .exact .inl e
   .exact .inr e
   .omega
  have a0:=za0 z3.cb;clear z3 t3 u3 e3;go_wp2_with fail;go_ret;exact⟨rfl,HF.o,a0.o⟩
def FrT.o{U E:Nat->Prop}{w A w':World}{J:Option Nat->(Nat->Prop)->σ->World->Prop}{s:σ}(H:Below w.heap.size w A)(I:∀y,E y->w.heap.size<=y)(h:FrT U E A w' t cc d M N a J s):TzTo U w w' t cc d M N a:=by obtain⟨U',E',m,z,j,O,u,e,dd⟩:=h;have:=H.size;exact⟨U',z,(Tch.of_below (S:=U) H).trans O (λ y Q q=>q.elim id (λ q=>by have:=I y q;omega)),λ k K=>(u k K).imp id (λ q=>by omega)⟩
end
def partIV(b:Option Addr)(L cap i j:Nat)(u:i<=j)(A:j<=L)(E:L<=cap)(w:World):(Instr.sliceAt 56 (.slice b L cap) (some (.int .i64 (i:Int))) (some (.int .i64 (j:Int))) none).run Tryz.prog w=.ok (sliced b i j cap 1) w:=by rw[run_sliceAt_slice _ _ _ _ _ _ zfi9,run_slice_lh _ _ _ _ _ zfi9 _ _ _ _ (by omega) (by omega) (by omega),sizeIV];simp[Result.andThen]
def zhp9{b:Option Addr}{l m cap L:Nat}{j:Nat}(h:(sliced b l m cap 1).ownBlock=some j):(Value.slice b L cap).ownBlock=some j:=by
 unfold sliced at h;cases b with
 | none=>split at h<;>simp[Value.ownBlock]at h
 | some u=>
  have A:∀q,(u.add q).block=u.block:=λ q=>by unfold Addr.add;split<;>rfl
  split at h<;>simpa[Value.ownBlock,A]using h
def zkg9{b:Option Addr}(l m cap:Nat):∃u c',sliced b l m cap 1=.slice u (m-l) c':=⟨_,_,rfl⟩
def C1(w:World)(T:TypeId)(b:Nat)(v:Value):Prop:=w.heap[b]?=some (.cells #[v] T (0,0))
section
variable {w w':World} {T:TypeId} {b:Nat} {v:Value}
def C1.c(h:C1 w T b v):w.cell? ⟨b,0,none⟩=some v:=by rw[cell_of_row w b 0 _ _ (0,0) h];rfl
def C1.fz(h:C1 w T b v):w.frozen? ⟨b,0,none⟩=false:=frozen_of_row w b 0 _ _ h
def C1.lt(h:C1 w T b v):b<w.heap.size:=(zd0.1 h).1
def C1.tch{S:Nat->Prop}(h:C1 w T b v)(A:Tch S w w')(u:¬S b):C1 w' T b v:=by unfold C1;rw[A.block b h.lt u];exact h
def C1.below(h:C1 w T b v)(u:Below w.heap.size w w'):C1 w' T b v:=h.tch (S:=λ _=>False) (Tch.of_below u) (λ e=>e)
def C1.new(w:World)(T:TypeId)(v:Value):C1 (w.alloc (.cells #[v] T)) T w.heap.size v:=heap_alloc_new w _
def C1.set(h:C1 w T b v)(x:Value):C1 (w.setCell ⟨b,0,none⟩ x) T b x:=heap_setCell_same w b 0 _ _ x h
end
def zul9(n:Nd)(u1 u2 u3:Value)(x:Int)(key:ByteArray)(kb vb A:Nat)(s:ByteArray×Bool)(w:World)(h:Nn w n u1 u2 u3)(hv:Vk n)(hk:C1 w 9 kb (.string key))(aj:C1 w 9 vb (.string s.1))(af:C1 w 4 A (.bool s.2))(au:vb≠A):
 Calls Tryz.prog 41 #[.int .i64 x,nod n.lf u1 u2 u3,.pointer (some ⟨kb,0,none⟩),.pointer (some ⟨vb,0,none⟩),.pointer (some ⟨A,0,none⟩)] w λ e w'=>
  ∃v,e=.returned v/\C1 w' 9 vb (.string ((getW key).st s x n).1.1)/\C1 w' 4 A (.bool ((getW key).st s x n).1.2)/\Tch (λ k=>k=vb\/k=A) w w'/\RdV w' v (nums ((getW key).st s x n).2)/\(∀j,v.ownBlock=some j->u3.ownBlock=some j):=by
 obtain⟨a1,c1,a2,c2,a3,c3,rfl,rfl,rfl,⟨l1,l2,l3,l4,l5,l6⟩,_,_,_⟩:=h.o;obtain⟨u,E⟩:=exH n.ks.length;obtain⟨L2,a4⟩:=exH n.vs.length;obtain⟨L3,K⟩:=exH n.kd.length;obtain⟨lf,T⟩:=exH n.lf;rw[E.o,a4.o,K.o]at h;rw[E.o]at l1;rw[a4.o]at l3;rw[K.o]at l5;rw[E.o,a4.o,K.o,T.o];have HV:=za0 hv;have av:=plc_le n key n.ks.length;have hl:=hv.len;rw[E.o]at av hl;rw[a4.o,K.o]at hl;obtain⟨W1,aq⟩:=exN (w.alloc (.cells #[.bool lf,.slice a1 u c1,.slice a2 L2 c2,.slice a3 L3 c3] 93));have b1:Below w.heap.size w W1:=by rw[<-aq];exact za9 _ _
 have Y:Nb W1 93 w.heap.size lf (.slice a1 u c1) (.slice a2 L2 c2) (.slice a3 L3 c3):=by rw[<-aq];exact nb_new _ _ _ _ _ _
 have h1:=h.below b1;have k1:=(hk.below b1).c;have b8:=Y.c0;have b9:=Y.c1;have ba:=Y.c2;have bb:=Y.c3;have am:=za0 h1;have a6:=za0 b1;have an:=za0 Y;have ad:=za0 aj;have aa:=za0 af;obtain⟨p,hp⟩:=exH (plc n key u);rw[hp.o]at av;unfold nod;cases lf
 .have HI:=za0 (hv.inner T.o);have a8:=plc_in T.o key n.ks.length hv.pos;rw[E.o,hp.o]at a8;have b2:u=L3:=by rw[<-E.o,<-K.o];exact HI.o.2.1.symm
  subst b2;have H:=zgh9 n _ _ _ key W1 h1 hv.sm;rw[T.o,E.o,hp.o]at H;unfold nod at H;have a0:=za0 H;have ac:Hid (((getW key).st s x n)=(s,[dA n p])):=by show _=_;simp only[getW,T.o,E.o,hp.o,Bool.false_eq_true,if_false]
  rw[ac.o];clear h hv hk aj af H b1 Y h1
  go_enter Tryz.func41,Tryz.ntmps41
  go_wp2_with fail;refine a0.o.mono ?_;rintro e W2 ⟨rfl,I⟩;have V2:=an.o.below I;have h2:=am.o.below I;have O:Below w.heap.size w W2:=a6.o.trans (I.mono a6.o.size);have ek:=h2.kid (i:=p) (by rw[K.o];exact a8);have m3:=V2.c3;have SL:=λ W=>partIV a3 u c3 p (p+1) (by omega) (by omega) l5 W;rw[show((p+1:Nat):Int)=(p:Int)+1 from rfl]at SL;obtain⟨b6,b7,b5⟩:=zkg9 (b:=a3) p (p+1) c3;have ag:∀j,(sliced a3 p (p+1) c3 1).ownBlock=some j->(Value.slice a3 u c3).ownBlock=some j:=λ j hj=>zhp9 hj;have ah:RdV W2 (sliced a3 p (p+1) c3 1) (nums [dA n p]):=by
   (have h4:=h2.d;(have e3:u=(nums n.kd).length:=by rw[zf9,K.o]);rw[e3]at h4;have:=zbc9 h4 p (p+1) (by omega) (by rw[zf9,K.o];omega);rw[show p+1-p=1 from by omega]at this;have e4:((nums n.kd).drop p).take 1=nums [dA n p]:=by (have b3:p<(nums n.kd).length:=by rw[zf9,K.o];exact a8);rw[List.drop_eq_getElem_cons b3];(have b4:p<n.kd.length:=by rw[K.o];exact a8);simp[nums,dA,zn3,b4]);rw[e4]at this;exact this
  rw[b5,show p+1-p=1 from by omega]at SL ag ah;have ay:=za0 ag;have az:=za0 ah;have Q:=za0 O;have w1:=wk_nat (x:=(p:Int)+1) (t:=p+1) (by omega) (by omega);have w2:=zu9 (x:=(p:Int)+1) (t:=p+1) (by omega) (by omega);rw[show((p+1:Nat):Int)=(p:Int)+1 from rfl]at w1 w2;clear ag ah O ek V2 h2 I a0;go_wp2_with fail;go_ret;exact⟨_,rfl,ad.o.below Q.o,aa.o.below Q.o,Tch.of_below Q.o,az.o,ay.o⟩
 .have ax:=za0 (hv.leaf T.o);have H:=zcs9 n _ _ _ key W1 h1 hv.sm;rw[T.o,E.o,hp.o]at H;obtain⟨th,a9⟩:=exH (decide (p<u/\eqs (kA n p) key=true));rw[a9.o]at H;unfold nod at H;have a0:=za0 H;have ac:Hid (((getW key).st s x n)=(if th=true then(vA n p,true)else s,[])):=by
   show _=_;simp only[getW,T.o,E.o,hp.o,if_true];by_cases q:p<u/\eqs (kA n p) key=true
   .have:th=true:=by rw[<-a9.o];exact zm1 q
    rw[if_pos q,if_pos this]
   .have:th=false:=by rw[<-a9.o];exact zl1 q
    rw[if_neg q,this,if_neg (by decide)]
  rw[ac.o];clear h hv hk aj af H b1 Y h1
  go_enter Tryz.func41,Tryz.ntmps41
  go_wp2_with fail;refine a0.o.mono ?_;rintro e W2 ⟨rfl,I⟩;have V2:=an.o.below I;have h2:=am.o.below I;have O:Below w.heap.size w W2:=a6.o.trans (I.mono a6.o.size);have Q:=za0 O;cases th
  .clear V2 h2 O I a0;go_wp2_with fail;go_ret;exact⟨_,rfl,ad.o.below Q.o,aa.o.below Q.o,Tch.of_below Q.o,zaq9 _,λ j hj=>by cases hj⟩
  .have ai:=of_decide_eq_true a9.o;(have b0:u=L2:=by rw[<-E.o,<-a4.o];exact ax.o.1.symm);subst b0;obtain⟨b,o,rfl,cv⟩:=h2.val (i:=p) (by rw[a4.o];exact ai.1);obtain⟨vl,aw⟩:=exH (vA n p);rw[aw.o]at cv;have m2:=V2.c2;have a7:=ad.o.below O;have ak:=aa.o.below O;(have i0:(0:Int)<=(p:Int):=by omega);(have i1:(p:Int)<(u:Int):=by have:=ai.1;omega);obtain⟨W3,ar⟩:=exN (W2.setCell ⟨vb,0,none⟩ (.string vl));obtain⟨W4,ae⟩:=exN (W3.setCell ⟨A,0,none⟩ (.bool true));(have t3:Tch (λ y=>y=vb) W2 W3:=by rw[<-ar];exact tch_at _ _ _ _);(have t4:Tch (λ y=>y=A) W3 W4:=by rw[<-ae];exact tch_at _ _ _ _);(have ao:C1 W3 9 vb (.string vl):=by rw[<-ar];exact a7.set _);have a5:=ak.tch t3 (λ e=>au e.symm)
   have ap:=ao.tch t4 au;(have al:C1 W4 4 A (.bool true):=by rw[<-ae];exact a5.set _);have g1:=a7.c;have g2:=a7.fz;have g3:=a5.c;have g4:=a5.fz;have ab:Hid (C1 W4 9 vb (.string vl)/\C1 W4 4 A (.bool true)/\Tch (λ k=>k=vb\/k=A) w W4):=⟨ap,al,((Tch.of_below (S:=λ k=>k=vb\/k=A) O).trans t3 (λ y hy e=>.inl e)).trans t4 (λ y hy e=>.inr e)⟩
   (clear V2 h2 O I a0 ai a7 ak t3 t4 ao a5 ap al Q;go_wp2_with fail;try rw[ae]);go_ret;exact⟨_,rfl,(by have:=ab.o.1;rw[<-aw.o]at this;exact this),ab.o.2.1,ab.o.2.2,zaq9 _,λ j hj=>by cases hj⟩
