import Derived.Test.YtihofcopapmjlaaGreatPPlain
import Derived.WalkKit
set_option maxRecDepth 100000
set_option linter.all false
set_option maxHeartbeats 8000000
namespace Go.RowKit
def Hid.o{p}(h:Hid p):p:=h
end Go.RowKit
namespace Go.Proofs.YtihofcopapmjlaaGreat
abbrev z9:=@List.getElem?_eq_getElem
abbrev za0:=@Array.getElem?_eq_some_iff
abbrev zb0:=@World.block_lt_of_cell?
abbrev zc0:=@List.length_append
abbrev zd0:=@List.length_take
abbrev ze0:=@List.eq_nil_of_length_eq_zero
abbrev zf0:=@List.mem_append
abbrev zg0:=@List.length_drop
abbrev zh0:=@List.length_cons
abbrev zi0:=@beq_eq_false_iff_ne
abbrev zj0:=@List.getElem?_append_right
abbrev zk0:=@List.getElem?_append_left
abbrev zl0:=@List.mem_cons_self
abbrev zm0:=@List.length_replicate
abbrev zn0:=@List.getElem?_eq_none
abbrev zo0:=@List.length_set
abbrev zp0:=@List.getElem?_drop
abbrev zq0:=@List.getElem?_take
abbrev zr0:=@List.append_assoc
abbrev zs0:=@List.take_append_drop
abbrev zt0:=@List.getElem_mem
abbrev zu0:=@List.length_map
abbrev zv0:=@Option.some.inj
abbrev zw0:=@List.getElem?_map
abbrev zx0:=@List.drop_drop
abbrev zy0:=@List.getElem?_set
abbrev zz0:=@List.take_take
abbrev za1:=@List.map_append
abbrev zb1:=@List.getElem?_cons_succ
abbrev zc1:=@List.getElem?_cons_zero
abbrev zd1:=@List.mem_of_getElem?
abbrev ze1:=@decide_eq_false
abbrev zf1:=@decide_eq_true
abbrev zg1:=@decide_eq_true_eq
universe u
def qa{α:Type}{l:List α}{i a}:l.toArray.setIfInBounds i a=(l.set i a).toArray:=List.setIfInBounds_toArray ..
def qb{α:Type}{l}{a b:α}:(a::l).set 0 b=b::l:=List.set_cons_zero ..
def qc{α:Type}{l n}{a b:α}:(a::l).set (n+1) b=a::l.set n b:=List.set_cons_succ ..
def zq:(∀a d v,Act.put a (some d) v={a with tmps:=a.tmps.setIfInBounds d v})/\(∀a v,Act.put a none v=a)/\(∀{α:Type}{l:List α}{i:Nat}{a:α},l.toArray.setIfInBounds i a=(l.set i a).toArray)/\(∀{α:Type}{l:List α}{a b:α},(a::l).set 0 b=b::l)/\(∀{α:Type}{l:List α}{n:Nat}{a b:α},(a::l).set (n+1) b=a::l.set n b):=⟨fun _ _ _=>rfl,fun _ _=>rfl,qa,qb,qc⟩
def exN{α:Sort u}(x:α):∃y,x=y:=⟨_,rfl⟩
def exH{α:Sort u}(x:α):∃y,Go.RowKit.Hid (x=y):=⟨_,rfl⟩
def Ao{a b c:Nat}(h:a<b)(k:b<=c):a<c:=Nat.lt_of_lt_of_le h k
def Aw{a b c:Nat}(h:a<=b)(k:b<=c):a<=c:=Nat.le_trans h k
def AP{α:Type}{l:List α}{i a}:l.getD i a=(l[i]?).getD a:=List.getD_eq_getElem?_getD ..
def AT{p}[Decidable p]:decide p=false↔¬p:=decide_eq_false_iff_not
def Cj{α:Type}{i}{l:List α}(h:l.length<=i):l.take i=l:=List.take_of_length_le h
def AE(a:Nat):a<=a:=Nat.le_refl a
def AI(a):0<=a:=Nat.zero_le a
open Go.RowKit
def z6{p}(h:p):Hid p:=h
def Bp(n)(f:0<=n)(q:n<2 ^ 62):IntKind.i64.wrap n=n:=by rw[IntKind.wrap_i64];omega
def Rd(k:IntKind)(w:World)(v:Value)(xs:List Int):Prop:=
 ∃a cap,v=.slice a xs.length cap/\xs.length<=cap/\cap<=maxLen/\(a=none->cap=0)/\
  (xs=[]\/∃b o,a=some ⟨b,o,none⟩/\∀i,i<xs.length->w.cell? ⟨b,o+i,none⟩=some (.int k (xs.getD i 0)))
def By(xs:List Int):Prop:=∀i,0<=xs.getD i 0/\xs.getD i 0<=255
structure AD(S:Nat->Prop)(w w':World):Prop where
 os:w'.os=w.os
 tape:w'.tape=w.tape
 output:w'.output=w.output
 size:w.heap.size<=w'.heap.size
 block:∀k,k<w.heap.size->¬S k->w'.heap[k]?=w.heap[k]?
def AD.refl(S w):AD S w w:=⟨rfl,rfl,rfl,AE _,λ _ _ _=>rfl⟩
def AD.trans{S S' a b c}(h:AD S a b)(k:AD S' b c)(r:∀i,i<a.heap.size->S' i->S i):AD S a c:=
 ⟨k.os.trans h.os,k.tape.trans h.tape,k.output.trans h.output,Aw h.size k.size,
  λ i f q=>(k.block i (Ao f h.size) (λ e=>q (r i f e))).trans (h.block i f q)⟩
def AD.mono{S S' a b}(h:AD S a b)(r:∀i,i<a.heap.size->S i->S' i):AD S' a b:=
 ⟨h.os,h.tape,h.output,h.size,λ i f q=>h.block i f (λ e=>q (r i f e))⟩
def AD.of_below{S w w'}(h:Below w.heap.size w w'):AD S w w':=
 ⟨h.os,h.tape,h.output,h.size,λ k f _=>h.block k f⟩
def AD.below{S B w w'}(h:AD S w w')(f:B<=w.heap.size)(r:∀k,S k->B<=k):Below B w w':=
 ⟨h.os,h.tape,h.output,h.size,λ k q=>h.block k (by omega) (λ e=>by grind)⟩
def AD.drew{S a w}(h:AD S a w):AD S a w.drew:=⟨h.os,h.tape,h.output,h.size,h.block⟩
def AD.alloc{S a w}(h:AD S a w)(o):AD S a (w.alloc o):=
 h.trans (S':=S) ⟨rfl,rfl,rfl,by simp,λ k f _=>Below.heap_alloc _ _ _ f⟩ (λ _ _ e=>e)
def AD.setCell{S a w}(h:AD S a w){p}(r:p.block<a.heap.size->S p.block)(u):AD S a (w.setCell p u):=
 ⟨h.os,h.tape,h.output,by have:=h.size;simp_all,λ k q f=>by
  rw[Below.heap_setCell _ _ _ _ (λ e=>f (by grind))];exact h.block k q f⟩
def AD.grown{S a w w' A}(h:AD S a w)(f:w.grownBy w' A)(hr:∀k,k<a.heap.size->A=some k->S k):AD S a w':=
 ⟨f.os.trans h.os,f.tape.trans h.tape,f.output.trans h.output,Aw h.size f.size,λ k q r=>
  (f.block k (Ao q h.size) (λ e=>r (hr k q e.symm))).trans (h.block k q r)⟩
def AD.cell{S w w'}(h:AD S w w'){p}(q:p.block<w.heap.size)(f:¬S p.block):w'.cell? p=w.cell? p:=World.cell?_of_block (w:=w) (h.block p.block q f)
def AD.frozen{S w w'}(h:AD S w w'){p}(q:p.block<w.heap.size)(f:¬S p.block):w'.frozen? p=w.frozen? p:=World.frozen?_of_block (w:=w) (h.block p.block q f)
def AD.owns{S w w'}(h:AD S w w'){f e size v n xs}(r:w.ownsRow f e size v n xs)(E:∀k,v.ownBlock=some k->¬S k):w'.ownsRow f e size v n xs:=by
 refine⟨r.1,?_⟩;rcases r.2 with J|⟨g,cap,A,rfl,B,q,I⟩
 .grind
 .refine .inr ⟨g,cap,A,rfl,B,?_,I⟩;rw[h.block g (za0.1 q).1 (E g rfl)];exact q
def Rd.tch{S k w w' v xs}(h:Rd k w v xs)(I:AD S w w')(E:∀b,v.ownBlock=some b->¬S b):Rd k w' v xs:=by
 obtain⟨a,cap,rfl,A,B,q,h⟩:=h;refine⟨a,cap,rfl,A,B,q,?_⟩;rcases h with h|⟨b,o,rfl,hc⟩
 .grind
 .refine .inr ⟨b,o,rfl,λ i r=>?_⟩;have f:=hc i r;rw[I.cell (p:=⟨b,o+i,none⟩) (zb0 w ⟨b,o+i,none⟩ f) (E b rfl)];exact f
def Rd.below{k w w' v xs}(h:Rd k w v xs)(f:Below w.heap.size w w'):Rd k w' v xs:=
 h.tch (S:=λ _=>False) (AD.of_below f) (λ _ _ e=>e)
def Pg{k w e v xs}(h:w.ownsRow 0 e 1 v xs.length (xs.map (Value.int k))):Rd k w v xs:=by
 rcases h.2 with⟨rfl,f⟩|⟨g,cap,B,rfl,_,I,r,q,E,K⟩
 .have A:xs=[]:=ze0 f;subst A;exact⟨none,0,rfl,AE _,by omega,λ _=>rfl,.inl rfl⟩
 .refine⟨some ⟨g,0,none⟩,cap,rfl,r,q,(λ e=>by cases e),.inr ⟨g,0,rfl,λ i J=>?_⟩⟩;rw[Nat.zero_add,h.cellAt i (by omega)]
  grind
def Ij(w:World)(u:Value)(news:List Value):Prop:=
 ∃ao c,u=.slice ao news.length c/\(∀x∈news,x.oneCell'=true)/\(ao=none->news=[]/\c=0)/\∀ad,ao=some ad->∀j x,news[j]?=some x->w.cell? (ad.add j)=some x
def Mw{k w v xs}(h:Rd k w v xs):Ij w v (xs.map (Value.int k)):=by
 obtain⟨a,cap,rfl,B,E,A,h⟩:=h;refine⟨a,cap,by simp,ints_oneCell k xs,λ ha=>?_,λ r ha j x q=>?_⟩
 .grind
 .rcases h with rfl|⟨b,o,rfl,hc⟩
  .simp at q
  .obtain rfl:=zv0 ha;(have f:j<xs.length:=by grind);rw[Addr.add_lit,hc j f]
   grind
def Vb(w:World)(x e)(r:x.oneCell'=true):Ij (w.alloc (.cells #[x] e)) (.slice (some ⟨w.heap.size,0,none⟩) 1 1) [x]:=by
 refine⟨some ⟨w.heap.size,0,none⟩,1,rfl,λ y f=>?_,(λ e=>by cases e),λ q ha j y f=>?_⟩
 .grind
 .obtain rfl:=zv0 ha
  match j,f with
  | 0,f=>simp at f;subst f;simp[Addr.add]
section
variable {P:Program} (w:World)
def Ps(t ty e i z bytes)(I:P.underlying t=some (.slice e))(A:P.info? e=some i)(U:i.zero=some z)(Z:i.size=1)(T:i.bytes=bytes)(a0:z.cells.size=1)(v xs)(L:w.ownsRow 0 e 1 v xs.length xs)(u f)(hu:Ij w u f)(W:xs.length+f.length<=maxLen)(X:(xs.length+f.length)*bytes<=140737488355328):
 ∃J w',(Builtin.append_ #[t,t] ty #[v,u]).run P w=.ok J w'/\w'.ownsRow 0 e 1 J (xs++f).length (xs++f)/\w.grownBy w' v.ownBlock/\
  ∀k,J.ownBlock=some k->v.ownBlock=some k\/w.heap.size<=k:=by
 obtain⟨ao,c,rfl,O,a3,a7⟩:=hu;cases ao with
 | none=>obtain⟨rfl,rfl⟩:=a3 rfl;have a6:=run_append_owned_none (P:=P) w 0 t ty e i 1 I A v xs.length xs L;exact⟨v,w,a6,by grind,World.grownBy.refl _ _,λ k B=>.inl B⟩
 | some r=>
  have K:=a7 r rfl;have Y:f.length=f.length*1:=by omega
  obtain⟨J,w',hr,ho,hg,_⟩:=run_append_own (P:=P) w 0 t ty e i z 1 bytes I A U Z T a0 (by decide) v xs.length xs L r f.length c f Y K O W X (AI _);refine⟨J,w',hr,by grind,hg,λ k B=>?_⟩;rcases L.2 with⟨rfl,h0⟩|⟨g,cap,a1,rfl,_,a2,aa,a8,a9,ab⟩
  .have hx:xs=[]:=ze0 h0;subst hx;obtain⟨v2,w2,E,a4,_,_⟩:=run_append_own (P:=P) w w.heap.size t ty e i z 1 bytes I A U Z T a0 (by decide) (.slice none 0 0) 0 [] (World.ownsRow_nil _ _ _ _) r f.length c f Y K O (by omega) (by omega) (AE _);have q:=hr.symm.trans E;simp only[Result.ok.injEq]at q;obtain⟨rfl,rfl⟩:=q;exact .inr (a4.lt k B).1
  .by_cases a5:xs.length+f.length<=cap;have E:=run_append_room (P:=P) w t ty e i I A g xs.length cap a1 a2 r f.length c f (by grind) K O a5 (by grind);have q:=hr.symm.trans E;simp only[Result.ok.injEq]at q;obtain⟨rfl,rfl⟩:=q;exact .inl B
   .have E:=run_append_grow (P:=P) w t ty e i z I A U ⟨g,0,none⟩ xs.length cap xs (by grind) (L.cells (g:=g) rfl) r f.length c f (by grind) K (by omega) (by unfold maxLen at W;omega)
     (by rw[T];exact growslice_fits (by omega) X)
    have q:=hr.symm.trans E;simp only[Result.ok.injEq]at q;obtain⟨rfl,rfl⟩:=q;simp only[Value.ownBlock,Option.some.injEq]at B;omega
def LH{r A o a Q}(L:o.guard=none)(s x t)(O:o.op=.call { callee:=.builtin .append,args:=#[s,x],argTypes:=#[t,t] })(e i z bytes)(ht:P.underlying t=some (.slice e))(hi:P.info? e=some i)(hz:i.zero=some z)(hsize:i.size=1)(hby:i.bytes=bytes)(hzs:z.cells.size=1)(v xs)(hs:a.eval s=v)(hown:w.ownsRow 0 e 1 v xs.length xs)(u news)(hx:a.eval x=u)(hu:Ij w u news)(h63:xs.length+news.length<=maxLen)(hbytes:(xs.length+news.length)*bytes<=140737488355328)(h:∀f q,q.ownsRow 0 e 1 f (xs++news).length (xs++news)->w.grownBy q v.ownBlock->(∀k,f.ownBlock=some k->v.ownBlock=some k\/w.heap.size<=k)->wpList P r Q A (a.put o.dst f) q):wpList P r Q (o::A) a w:=by
 obtain⟨f,q,hr,B,E,I⟩:=Ps (P:=P) w t o.type e i z bytes ht hi hz hsize hby hzs v xs hown u news hu h63 hbytes;refine wpList_plain L λ K J=>?_;unfold Oper.wp;simp[execOp,O,resolve,invoke,builtin,hs,hx,hr,Result.andThen];exact J _ _ (h f q B E I)
end
def Uo{k w b o cap}{xs:List Int}(m)(r:m<=xs.length)(q:xs.length<=cap)(hc:cap<=maxLen)(h:∀i,i<xs.length->w.cell? ⟨b,o+i,none⟩=some (.int k (xs.getD i 0))):Rd k w (.slice (some ⟨b,o,none⟩) m cap) (xs.take m):=by
 have e:(xs.take m).length=m:=by grind
 refine⟨_,cap,by rw[e],by omega,hc,(λ e=>by cases e),.inr ⟨b,o,rfl,λ i f=>?_⟩⟩
 grind
def By.take{xs}(h:By xs)(m):By (xs.take m):=by intro i;rw[AP,zq0];split;rw[<-AP];exact h i;simp
def YK{xs}(h:∀n∈xs,(Lit.int .u8 n).wf=true):By xs:=by
 intro i;rw[AP];cases e:xs[i]? with
 | none=>simp
 | some n=>have:=h n (zd1 e);simpa[Lit.wf,IntKind.min,IntKind.max,IntKind.signed,IntKind.bits]using this
def Ba(ys:List Int)(i:Nat):Int:=ys.getD i 0+256*ys.getD (i+1) 0
def Dc(p:Int):Int:=(p+2) / 238
structure CkH where
 many:Int
 pk:Int
 more:List Int
 fst:List Int
def Fy(kd:Int)(ys:List Int):Prop:=kd=3/\5<=ys.length/\ys.getD 4 0<=2/\ys.getD 4 0=Dc (Ba ys 2)/\(ys.length:Int)=5+2*ys.getD 4 0+min (Ba ys 2) (235-2*ys.getD 4 0)
instance (kd:Int) (ys:List Int):Decidable (Fy kd ys):=by unfold Fy;infer_instance
def Ep(ys:List Int)(m:Nat):List Int:=(List.range m).map λ i=>Ba ys (5+2*i)
def Cw(ys:List Int):CkH:=⟨Ba ys 0,Ba ys 2,Ep ys (ys.getD 4 0).toNat,ys.drop (5+2*(ys.getD 4 0).toNat)⟩
abbrev Vw:=Int->Int×Int×List Int
def DR(V:Vw)(pk:Int):List Int->List Int->List Int->Int×List Int×List Int
 | [],pb,ns=>(0,pb,ns)
 | n::r,pb,ns=>
  if (V n).1≠0 then((V n).1,[],[])
  else if (V n).2.1≠4\/((V n).2.2.length:Int)≠min (pk-pb.length) 240\/n∈ns then(7,[],[])
  else DR V pk r (pb++(V n).2.2) (ns++[n])
def An(V:Vw)(b len:Int):Int×List Int×List Int:=
 if len<1\/512<len then(1,[],[])
 else if (V b).1≠0 then((V b).1,[],[])
 else if ¬Fy (V b).2.1 (V b).2.2\/(Cw (V b).2.2).many≠len then(7,[],[])
 else DR V (Cw (V b).2.2).pk (Cw (V b).2.2).more (Cw (V b).2.2).fst [b]
def Yy{V pk l q ns A f}(h:DR V pk l q ns=(0,A,f)):f=ns++l:=by
 induction l generalizing q ns with
 | nil=>simp[DR]at h;simp[h.2]
 | cons n r B=>
  unfold DR at h
  grind
def Yx{V V' pk l f ns}(hv:∀x∈l,V' x=V x):DR V' pk l f ns=DR V pk l f ns:=by
 induction l generalizing f ns with
 | nil=>rfl
 | cons n r q=>
  unfold DR
  grind
def ZA{V b f q ns}(h:An V b f=(0,q,ns)):(1<=f/\f<=512)/\(V b).1=0/\Fy (V b).2.1 (V b).2.2/\(Cw (V b).2.2).many=f/\ns=b::(Cw (V b).2.2).more:=by
 unfold An at h;split at h;simp at h
 .split at h
  .grind
  .split at h;simp at h;rename_i h1 h2 h3;refine⟨by omega,by omega,Classical.byContradiction λ e=>h3 (.inl e),Classical.byContradiction λ e=>h3 (.inr e),?_⟩;rw[Yy h];rfl
def Y7{V V' b f q ns}(h:An V b f=(0,q,ns))(hv:∀x∈ns,V' x=V x):An V' b f=(0,q,ns):=by obtain⟨_,_,_,_,e⟩:=ZA h;have r:V' b=V b:=hv b (by grind);rw[<-h];unfold An;rw[r,Yx (V:=V) (λ x A=>hv x (by grind))]
def Yu{f ys}(h:Fy f ys)(r:By ys):(Cw ys).more.length<=2:=by obtain⟨_,_,q,_⟩:=h;simp only[Cw,Ep,zu0,List.length_range];omega
def Tn{α:Type}{l:List α}(h:l.length=2):∃x y,l=[x,y]:=by
 match l,h with
 | [x,y],_=>simp
def BD(n:Int):List Int:=[n % 256,n / 256 % 256]
def CW(many:Int)(pk more:List Int):List Int:=BD many++BD pk.length++[(more.length:Int)]++more.flatMap BD++pk.take (235-2*more.length)
def EK(pk:List Int)(m i:Nat):List Int:=((pk.drop (235-2*m)).drop (240*i)).take 240
def Ox(n):By (BD n):=λ i=>by
 match i with
 | 0=>simp[BD];omega
 | 1=>simp[BD];omega
 | i+2=>simp[BD]
def KV{n:Int}(h:0<=n/\n<=65535):n % 256+256*(n / 256 % 256)=n:=by omega
def Ob(l:List Int):(l.flatMap BD).length=2*l.length:=by
 induction l with
 | nil=>rfl
 | cons a r f=>simp only[List.flatMap_cons,zc0,f,zh0];simp[BD];omega
def Rg(many pk more):(CW many pk more).length=5+2*more.length+min pk.length (235-2*more.length):=by unfold CW;simp only[zc0,Ob,zd0];simp[BD];omega
def G8{p:Nat}(h:p<=711):(Dc p=0/\p<=235)\/(Dc p=1/\236<=p/\p<=473)\/(Dc p=2/\474<=p/\p<=711):=by unfold Dc;omega
def Yt{many pk more}(J:0<=many/\many<=65535)(K:pk.length<=711)(O:(more.length:Int)=Dc pk.length)(f:∀x∈more,0<=x/\x<=65535):
 Fy 3 (CW many pk more)/\Cw (CW many pk more)=⟨many,pk.length,more,pk.take (235-2*more.length)⟩:=by
 have r:=KV J;have A:=KV (n:=(pk.length:Int)) ⟨by omega,by omega⟩;have T:=Rg many pk more;have hc:=G8 K;have B:Ba (CW many pk more) 2=pk.length:=by simpa[Ba,CW,BD]using A
 have g0:Ba (CW many pk more) 0=many:=by simpa[Ba,CW,BD]using r
 have E:(CW many pk more).getD 4 0=(more.length:Int):=by simp[CW,BD]
 refine⟨⟨rfl,by omega,by omega,by grind,by omega⟩,?_⟩;unfold Cw;rw[g0,B,E];have I:more.length=0\/more.length=1\/more.length=2:=by omega
 rcases I with h|h|h;obtain rfl:=ze0 h;simp[Ep,CW,BD];obtain⟨x,rfl⟩:=List.length_eq_one_iff.1 h;have q:=KV (f x (by simp));simp[Ep,CW,BD,Ba,List.range_succ];exact q;obtain⟨x,y,rfl⟩:=Tn h;have q:=KV (f x (by simp));have L:=KV (f y (by simp));simp[Ep,CW,BD,Ba,List.range_succ];omega
def ZE{V b many pk more}(T:1<=many/\many<=512)(A:pk.length<=711)(q:(more.length:Int)=Dc pk.length)(L:∀x∈more,0<=x/\x<=65535)(r:(b::more).Nodup)(K:V b=(0,3,CW many pk more))(hv:∀i,(O:i<more.length)->V more[i]=(0,4,EK pk more.length i)):An V b many=(0,pk,b::more):=by
 obtain⟨E,I⟩:=Yt (many:=many) ⟨by omega,by omega⟩ A q L;have hc:=G8 A;unfold An;rw[K,if_neg (by omega),if_neg (by simp)];simp only[I];rw[if_neg (λ e=>e.elim (λ e=>e E) (λ e=>e rfl))];have J:more.length=0\/more.length=1\/more.length=2:=by omega
 rcases J with h|h|h;obtain rfl:=ze0 h;simp at q;simp[DR];exact Cj (by omega)
 .obtain⟨x,rfl⟩:=List.length_eq_one_iff.1 h;have f:=hv 0 (by simp);simp at f q r;have X:(EK pk 1 0).length=pk.length-233:=by simp[EK];omega
  simp only[DR,f,List.length_singleton];rw[if_neg (by simp),if_neg]
  .have e:(EK pk 1 0)=pk.drop 233:=by simp only[EK,Nat.mul_zero,List.drop_zero];exact Cj (by simp;omega)
   simp_all
  grind
 .obtain⟨x,y,rfl⟩:=Tn h;have f:=hv 0 (by simp);have B:=hv 1 (by simp);simp at f B q r;have U:(EK pk 2 0).length=240:=by simp[EK];omega
  have W:(EK pk 2 1).length=pk.length-471:=by simp[EK];omega
  simp only[DR,f,B,zh0,List.length_nil];rw[if_neg (by simp),if_neg,if_neg (by simp),if_neg];congr 1;congr 1;simp only[EK,Nat.mul_zero,zx0,Nat.reduceAdd,Nat.reduceMul,Nat.reduceSub,Nat.mul_one];rw[Cj (l:=pk.drop 471) (by simp;omega),zr0,<-zx0 (i:=240) (j:=231)];rw[zs0,zs0]
  .grind
  grind
def JN{xs ys}(h:By xs)(k:By ys):By (xs++ys):=λ i=>by rw[AP,List.getElem?_append];split;rw[<-AP];exact h i;rw[<-AP];exact k _
def No{xs}(h:By xs)(a b):By ((xs.drop a).take b):=λ i=>by rw[AP,zq0];split;rw[zp0,<-AP];exact h _;simp
def YI(l:List Int):By (l.flatMap BD):=by
 induction l with
 | nil=>intro i;simp
 | cons a r f=>rw[List.flatMap_cons];exact JN (Ox a) f
def Yr{many pk more}(h:By pk)(f:more.length<=255):By (CW many pk more):=by
 refine JN (JN (JN (JN (Ox _) (Ox _)) ?_) (YI _)) ?_
 .intro i
  grind
 .exact No h 0 _
def Yz{pk}(h:By pk)(m i):By (EK pk m i):=by unfold EK;rw[zx0];exact No h _ _
def Y0(pk m i):(EK pk m i).length<=240:=by simp[EK];omega
def Ys{many pk more}(h:more.length<=2):(CW many pk more).length<=240:=by rw[Rg];omega
