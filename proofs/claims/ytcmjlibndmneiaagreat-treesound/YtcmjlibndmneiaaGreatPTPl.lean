import Derived.Test.YtcmjlibndmneiaaGreatPNSplit
import Derived.Test.YtcmjlibndmneiaaGreatPNRead
set_option maxRecDepth 100000
set_option linter.all false
set_option maxHeartbeats 8000000
namespace Go.Proofs.YtcmjlibndmneiaaGreat
open Go.RowKit Pl
structure AS where
 V:Int->Int×Nd
 Q:Int->Int×Nd
 A:Ah.St
 F:Int->Bool
structure CH where
 lv:Nat
 tk:List Int
 gn:List Int
noncomputable def vwB(e:Int)(b:Int×List Int):Int×Nd:=if e=0 then(match getN b.1 b.2 with|some n=>(0,n)|none=>(7,noneN))else(e,noneN)
def look(a:AS)(x:Int)(lv:Nat):Int×Nd:=if 16<lv then(7,noneN)else a.V x
def updI{α:Type}(f:Int->α)(x:Int)(y:α)(m:Int):α:=if m=x then y else f m
def zck9{α:Type}(f:Int->α)(x:Int)(y:α):updI f x y x=y:=if_pos rfl
def zcj9{α:Type}(f:Int->α){x m:Int}(y:α)(h:m≠x):updI f x y m=f m:=if_neg h
def AS.wr(a:AS)(n:Nd):AS:={ V:=updI a.V (Ah.take a.A).1 (0,n),Q:=a.Q,A:=(Ah.take a.A).2.2,F:=updI a.F (Ah.take a.A).1 true }
def AS.go(a:AS)(x:Int):AS:={ V:=updI a.V x (a.Q x),Q:=a.Q,A:=(Ah.back x a.A).2,F:=updI a.F x false }
def AS.gos(a:AS)(l:List Int):AS:=l.foldl AS.go a
theorem zhb9(a:AS):a.gos []=a:=rfl
theorem zid9(a:AS)(x:Int)(l:List Int):a.gos (x::l)=(a.go x).gos l:=rfl
structure WR where
 x:Int
 e:Int
 a:AS
 c:CH
noncomputable def writeF(a:AS)(c:CH)(n:Nd):WR:=
 if mayN n=true then(if (Ah.take a.A).2.1=true then⟨(Ah.take a.A).1,0,a.wr n,{ c with tk:=c.tk++[(Ah.take a.A).1] }⟩else⟨0,10,a,c⟩)else⟨0,7,a,c⟩
def leaveF(a:AS)(c:CH)(x:Int):CH:=if a.F x=true then{ c with gn:=c.gn++[x] }else c
open Classical in
noncomputable def midF(n:Nd):Nat:=if h:∃m,MidR n m then h.choose else 0
def zta9{n:Nd}{m:Nat}(h:MidR n m):midF n=m:=by
 have:∃m,MidR n m:=⟨m,h⟩
 unfold midF;rw[dif_pos this];exact this.choose_spec.same h
noncomputable def piecesF(n:Nd):List Nd:=
 if n.ks.length=0 then[]else if W (szN n n.ks.length)<=240 then[n]else if n.ks.length<2 then[joinN n noneN,noneN]else[takeN n (midF n),dropN n (midF n)]
structure KR where
 e:Int
 xs:List Int
 a:AS
 c:CH
noncomputable def kidsF(a:AS)(c:CH):List Nd->KR
 | []=>⟨0,[],a,c⟩
 | p::r=>if (writeF a c p).e≠0 then⟨(writeF a c p).e,[],(writeF a c p).a,(writeF a c p).c⟩else
  ⟨(kidsF (writeF a c p).a (writeF a c p).c r).e,(writeF a c p).x::(kidsF (writeF a c p).a (writeF a c p).c r).xs,(kidsF (writeF a c p).a (writeF a c p).c r).a,(kidsF (writeF a c p).a (writeF a c p).c r).c⟩
def keysF(k:ByteArray):List Nd->List ByteArray
 | []=>[]
 | p::r=>k::r.map (λ q=>kA q 0)
def zai9(n:Nd)(i j:Nat)(ks:List ByteArray)(xs:List Int):Nd:={ n with ks:=n.ks.take i++(ks++n.ks.drop j),kd:=n.kd.take i++(xs++n.kd.drop j) }
structure NR where
 e:Int
 n:Nd
 a:AS
 c:CH
noncomputable def replaceF(a:AS)(c:CH)(n:Nd)(i j:Nat)(ps:List Nd):NR:=
 if (kidsF a c ps).e≠0 then⟨(kidsF a c ps).e,noneN,(kidsF a c ps).a,(kidsF a c ps).c⟩else⟨0,zai9 n i j (keysF (kA n i) ps) (kidsF a c ps).xs,(kidsF a c ps).a,(kidsF a c ps).c⟩
structure JR where
 e:Int
 n:Nd
 i:Nat
 j:Nat
 c:CH
noncomputable def besF(a:AS)(c:CH)(n:Nd)(at_ lv:Nat)(p:Nd)(b:Int):Option JR:=
 if b<0\/(n.kd.length:Int)<=b then none else
 if (look a (dA n b.toNat) (lv+1)).1≠0 then some ⟨(look a (dA n b.toNat) (lv+1)).1,noneN,0,0,c⟩else
 if b<(at_:Int)then
  (if mayN (joinN (look a (dA n b.toNat) (lv+1)).2 p)=true then some ⟨0,joinN (look a (dA n b.toNat) (lv+1)).2 p,b.toNat,b.toNat+2,leaveF a c (dA n b.toNat)⟩else none)
 else(if mayN (joinN p (look a (dA n b.toNat) (lv+1)).2)=true then some ⟨0,joinN p (look a (dA n b.toNat) (lv+1)).2,at_,at_+2,leaveF a c (dA n b.toNat)⟩else none)
noncomputable def joinedF(a:AS)(c:CH)(n:Nd)(at_ lv:Nat)(p:Nd):JR:=
 match besF a c n at_ lv p ((at_:Int)-1)with
 | some r=>r
 | none=>match besF a c n at_ lv p ((at_:Int)+1)with
  | some r=>r
  | none=>⟨0,p,at_,at_+1,c⟩
def minS(x y:ByteArray):ByteArray:=if lts y x=true then y else x
structure CD where
 key:ByteArray
 lf:Nd->Nd
 jn:Bool
structure BR where
 e:Int
 ps:List Nd
 a:AS
 c:CH
noncomputable def upF(d:CD)(n:Nd)(lv:Nat)(r:BR):BR:=
 if r.e≠0 then⟨r.e,[],r.a,r.c⟩else
 let at_:=plc n d.key n.ks.length;let n1:Nd:={ n with ks:=n.ks.set at_ (minS (kA n at_) d.key) }
 let q:JR×List Nd:=if d.jn=true/\r.ps.length=1/\W (szN (r.ps.getD 0 noneN) (r.ps.getD 0 noneN).ks.length)<120 then(joinedF r.a r.c n1 at_ lv (r.ps.getD 0 noneN),[(joinedF r.a r.c n1 at_ lv (r.ps.getD 0 noneN)).n])else(⟨0,noneN,at_,at_+1,r.c⟩,r.ps)
 if q.1.e≠0 then⟨q.1.e,[],r.a,q.1.c⟩else
 if (replaceF r.a q.1.c n1 q.1.i q.1.j q.2).e≠0 then⟨(replaceF r.a q.1.c n1 q.1.i q.1.j q.2).e,[],(replaceF r.a q.1.c n1 q.1.i q.1.j q.2).a,(replaceF r.a q.1.c n1 q.1.i q.1.j q.2).c⟩else
 ⟨0,piecesF (replaceF r.a q.1.c n1 q.1.i q.1.j q.2).n,(replaceF r.a q.1.c n1 q.1.i q.1.j q.2).a,(replaceF r.a q.1.c n1 q.1.i q.1.j q.2).c⟩
noncomputable def belowF(d:CD):Nat->AS->CH->Int->Nat->BR
 | 0,a,c,x,lv=>⟨7,[],a,c⟩
 | f+1,a,c,x,lv=>
  if (look a x lv).1≠0 then⟨(look a x lv).1,[],a,c⟩else
  if (look a x lv).2.lf=true then⟨0,piecesF (d.lf (look a x lv).2),a,{ leaveF a c x with lv:=lv }⟩else
  upF d (look a x lv).2 lv (belowF d f a (leaveF a c x) (dA (look a x lv).2 (plc (look a x lv).2 d.key (look a x lv).2.ks.length)) (lv+1))
def leaf0:Nd:={ lf:=true,ks:=[],vs:=[],kd:=[] }
noncomputable def partsF(d:CD)(a:AS)(c:CH)(x:Int):BR:=if x=0 then⟨0,piecesF (d.lf leaf0),a,c⟩else belowF d 16 a c x 1
def top0:Nd:={ lf:=false,ks:=[eS],vs:=[],kd:=[0] }
noncomputable def raiseF(a:AS)(c:CH)(ps:List Nd):WR:=
 if c.lv=16 then⟨0,7,a,c⟩else
 if (replaceF a c top0 0 1 ps).e≠0 then⟨0,(replaceF a c top0 0 1 ps).e,(replaceF a c top0 0 1 ps).a,(replaceF a c top0 0 1 ps).c⟩else
 writeF (replaceF a c top0 0 1 ps).a (replaceF a c top0 0 1 ps).c (replaceF a c top0 0 1 ps).n
noncomputable def rootedF(d:CD)(a:AS)(c:CH)(x:Int):WR:=
 let r:=partsF d a c x
 if r.e≠0 then⟨0,r.e,r.a,r.c⟩else
 if r.ps.length=0 then⟨0,0,r.a,r.c⟩else
 if r.ps.length=1 then(if (r.ps.getD 0 noneN).kd.length=1 then⟨dA (r.ps.getD 0 noneN) 0,0,r.a,r.c⟩else writeF r.a r.c (r.ps.getD 0 noneN))else raiseF r.a r.c r.ps
def ch0:CH:=⟨0,[],[]⟩
structure MR where
 x:Int
 e:Int
 a:AS
noncomputable def madeF(d:CD)(a:AS)(x:Int):MR:=
 let r:=rootedF d a ch0 x
 if r.e≠0 then⟨0,r.e,r.a.gos r.c.tk⟩else⟨r.x,0,r.a.gos r.c.gn⟩
def insL(key val:ByteArray)(n:Nd):Nd:=
 let at_:=plc n key n.ks.length
 if at_<n.ks.length/\eqs (kA n at_) key=true then{ n with vs:=n.vs.set at_ val }else{ n with ks:=n.ks.take at_++(key::n.ks.drop at_),vs:=(n.vs.take at_++(eS::n.vs.drop at_)).set at_ val }
def delL(key:ByteArray)(n:Nd):Nd:=
 let at_:=plc n key n.ks.length
 if at_<n.ks.length/\eqs (kA n at_) key=true then{ n with ks:=n.ks.take at_++n.ks.drop (at_+1),vs:=n.vs.take at_++n.vs.drop (at_+1) }else n
noncomputable def putF(a:AS)(x:Int)(key val:ByteArray):MR:=
 if eqs key eS=true\/24<key.size\/24<val.size then⟨0,1,a⟩else madeF ⟨key,insL key val,false⟩ a x
structure WD(σ:Type) where
 st:σ->Int->Nd->σ×List Int
 en:σ->Bool
structure DR(σ:Type) where
 e:Int
 s:σ
 z:List Int
def goF{σ:Type}(en:σ->Bool)(rec:σ->List Int->Int->DR σ):List Int->σ->List Int->DR σ
 | [],s,z=>⟨0,s,z⟩
 | k::r,s,z=>if en s=true then⟨0,s,z⟩else if (rec s z k).e≠0 then rec s z k else goF en rec r (rec s z k).s (rec s z k).z
def downF{σ:Type}(D:WD σ)(a:AS):Nat->Nat->σ->List Int->Int->DR σ
 | 0,lv,s,z,x=>if x∈z then⟨7,s,z⟩else⟨7,s,x::z⟩
 | f+1,lv,s,z,x=>if x∈z then⟨7,s,z⟩else if (look a x lv).1≠0 then⟨(look a x lv).1,s,x::z⟩else
  goF D.en (downF D a f (lv+1)) (D.st s x (look a x lv).2).2 (D.st s x (look a x lv).2).1 (x::z)
def fromF{σ:Type}(D:WD σ)(a:AS)(s:σ)(x:Int):DR σ:=if x=0 then⟨0,s,[]⟩else downF D a 16 1 s [] x
def getW(key:ByteArray):WD (ByteArray×Bool) where
 st:=λ s x n=>if n.lf=true then(if plc n key n.ks.length<n.ks.length/\eqs (kA n (plc n key n.ks.length)) key=true then(vA n (plc n key n.ks.length),true)else s,[])else(s,[dA n (plc n key n.ks.length)])
 en:=λ _=>false
def getF(a:AS)(x:Int)(key:ByteArray):DR (ByteArray×Bool):=fromF (getW key) a (eS,false) x
def zn9:WD (List Int) where
 st:=λ s x n=>(s++[x],n.kd)
 en:=λ _=>false
def zaf9:WD Nat where
 st:=λ s x n=>(s+1,n.kd.take 1)
 en:=λ _=>false
structure ER where
 x:Int
 ok:Bool
 e:Int
 a:AS
noncomputable def delF(a:AS)(x:Int)(key:ByteArray):ER:=
 if (getF a x key).e≠0 then⟨0,false,(getF a x key).e,a⟩else if (getF a x key).s.2=true then
  ⟨(madeF ⟨key,delL key,true⟩ a x).x,decide ((madeF ⟨key,delL key,true⟩ a x).e=0),(madeF ⟨key,delL key,true⟩ a x).e,(madeF ⟨key,delL key,true⟩ a x).a⟩else⟨x,false,0,a⟩
def belowN{n:Nat}{w:World}(h:n<=w.heap.size)(q:Nat):Below n w (w.drewN q):=(⟨rfl,rfl,rfl,zn6 _,λ _ _ _=>rfl⟩:Tch (λ _=>False) w (w.drewN q)).below h (λ _ e=>e.elim)
def zcs9(n:Nd)(u1 u2 u3:Value)(key:ByteArray)(w:World)(h:Nn w n u1 u2 u3)(hs:Sm n):
 Calls Tryz.prog 43 #[nod n.lf u1 u2 u3,.string key] w λ e w'=>e=.returned (.tuple #[.int .i64 (plc n key n.ks.length:Int),.bool (decide (plc n key n.ks.length<n.ks.length/\eqs (kA n (plc n key n.ks.length)) key=true))])/\Below w.heap.size w w':=by
 obtain⟨O,c1,Q,Y,T,c3,rfl,rfl,rfl,⟨l1,l2,l3,l4,l5,l6⟩,_,_,_⟩:=h.o;have a7:=λ W hb=>zgh9 n _ _ _ key W (h.below hb) hs;have a9:=plc_le n key n.ks.length;have aa:=hs.kl;obtain⟨u,a2⟩:=exH n.ks.length;obtain⟨I,a3⟩:=exH n.vs.length;obtain⟨K,a4⟩:=exH n.kd.length;have H:=za0 h;rw[a2.o]at H l1 a9 aa |-
 rw[a3.o]at H l3 |-
 rw[a4.o]at H l5 |-
 obtain⟨lf,a8⟩:=exH n.lf;obtain⟨p,hp⟩:=exH (plc n key u);rw[hp.o]at a9 |-
 obtain⟨fl,a0⟩:=exH (decide (p<u/\eqs (kA n p) key=true));rw[a0.o];rw[a8.o];have HP:Hid (∀W,Below w.heap.size w W->Calls Tryz.prog 42 #[.agg #[.bool lf,.slice O u c1,.slice Q I Y,.slice T K c3],.string key] W λ e w'=>e=.returned (.int .i64 (p:Int))/\Below W.heap.size W w'):=λ W hb=>by have:=a7 W hb;rw[a2.o,a3.o,a4.o,a8.o,hp.o]at this;exact this
 unfold nod;obtain⟨W1,a5⟩:=exN (w.alloc (.cells #[.bool lf,.slice O u c1,.slice Q I Y,.slice T K c3] 93));have B1:Hid (Below w.heap.size w W1):=by rw[<-a5];exact za9 _ _
 have E:Hid (Nb W1 93 w.heap.size lf (.slice O u c1) (.slice Q I Y) (.slice T K c3)):=by rw[<-a5];exact nb_new _ _ _ _ _ _
 have p0:=E.o.c0;have p1:=E.o.c1;have p2:=E.o.c2;have p3:=E.o.c3;clear h hs a7 a3 a4 l2 l3 l4 l5 l6
 go_enter Tryz.func43,Tryz.ntmps43
 go_wp2_with fail;refine(HP.o W1 B1.o).mono ?_;rintro e w2 ⟨rfl,b2⟩;have V2:=E.o.below b2;have q1:=V2.c1;have A:Hid (Below w.heap.size w w2):=B1.o.trans (b2.mono B1.o.size);have H2:Nn w2 n (.slice O u c1) (.slice Q I Y) (.slice T K c3):=H.o.below A.o;clear b2 p0 p1 p2 p3 a5 HP V2;by_cases a1:p<u
 .obtain⟨b,o,rfl,ck⟩:=H2.key (i:=p) (by rw[a2.o];exact a1);obtain⟨ky,a6⟩:=exH (kA n p);rw[a6.o]at ck;have i0:(0:Int)<=(p:Int):=by omega
  have i1:(p:Int)<(u:Int):=by omega
  clear H2;cases hc:(ky.toList==key.toList)with
  | true=>(obtain rfl:fl=true:=by rw[<-a0.o,zm0,a6.o];exact⟨a1,hc⟩);go_wp2_with fail;go_quiet (fail);go_wp2_with fail;go_ret2;exact⟨rfl,A.o.trans (belowN A.o.size _)⟩
  | false=>(obtain rfl:fl=false:=by rw[<-a0.o,zn4,a6.o];rintro⟨_,e⟩;unfold eqs at e;rw[hc]at e;cases e);go_wp2_with fail;go_quiet (fail);go_wp2_with fail;go_ret2;exact⟨rfl,A.o.trans (belowN A.o.size _)⟩
 .obtain rfl:fl=false:=by rw[<-a0.o,zn4];rintro⟨e,_⟩;exact a1 e
  have i1:decide ((p:Int)<(u:Int))=false:=by rw[zn4];omega
  have i2:decide (p<u)=false:=by rw[zn4];omega
  clear a1 H2;go_wp2_with fail;go_quiet (fail);go_wp2_with fail;go_ret2;exact⟨rfl,A.o.trans (belowN A.o.size _)⟩
def Ps(Z:Nat->Prop)(w:World)(v:Value):List Nd->Prop
 | []=>v=.slice none 0 0
 | [n]=>∃b u1 u2 u3,v=.slice (some ⟨b,0,none⟩) 1 1/\w.heap[b]?=some (.cells #[.bool n.lf,u1,u2,u3] 93 (0,0))/\Nn w n u1 u2 u3/\Z b/\(∀j,(u1.ownBlock=some j\/u2.ownBlock=some j\/u3.ownBlock=some j)->Z j)
 | [n,m]=>∃b u1 u2 u3 x1 x2 x3,v=.slice (some ⟨b,0,none⟩) 2 2/\w.heap[b]?=some (.cells #[.bool n.lf,u1,u2,u3,.bool m.lf,x1,x2,x3] 93 (0,0))/\Nn w n u1 u2 u3/\Nn w m x1 x2 x3/\Z b/\(∀j,(u1.ownBlock=some j\/u2.ownBlock=some j\/u3.ownBlock=some j)->Z j)/\(∀j,(x1.ownBlock=some j\/x2.ownBlock=some j\/x3.ownBlock=some j)->Z j)
 | _=>False
def Ps.len{Z:Nat->Prop}{w:World}{v:Value}{ps:List Nd}(h:Ps Z w v ps):ps.length<=2/\∃a,v=.slice a ps.length ps.length:=by
 match ps,h with
 | [],h=>exact⟨by simp,none,h⟩
 | [n],⟨b,_,_,_,h,_⟩=>exact⟨by simp,_,h⟩
 | [n,m],⟨b,_,_,_,_,_,_,h,_⟩=>exact⟨by simp,_,h⟩
def Ps.tch{Z S:Nat->Prop}{w w':World}{v:Value}{ps:List Nd}(h:Ps Z w v ps)(A:Tch S w w')(u:∀j,Z j->¬S j):Ps Z w' v ps:=by
 match ps,h with
 | [],h=>exact h
 | [n],⟨b,u1,u2,u3,h1,h2,h3,h4,h5⟩=>exact⟨b,u1,u2,u3,h1,by rw[A.block b (zd0.1 h2).1 (u b h4)];exact h2,h3.tch A (λ j e=>u j (h5 j (.inl e))) (λ j e=>u j (h5 j (.inr (.inl e)))) (λ j e=>u j (h5 j (.inr (.inr e)))),h4,h5⟩
 | [n,m],⟨b,u1,u2,u3,x1,x2,x3,h1,h2,h3,h3',h4,h5,h6⟩=>exact⟨b,u1,u2,u3,x1,x2,x3,h1,by rw[A.block b (zd0.1 h2).1 (u b h4)];exact h2,h3.tch A (λ j e=>u j (h5 j (.inl e))) (λ j e=>u j (h5 j (.inr (.inl e)))) (λ j e=>u j (h5 j (.inr (.inr e)))),h3'.tch A (λ j e=>u j (h6 j (.inl e))) (λ j e=>u j (h6 j (.inr (.inl e)))) (λ j e=>u j (h6 j (.inr (.inr e)))),h4,h5,h6⟩
def Ps.below{Z:Nat->Prop}{w w':World}{v:Value}{ps:List Nd}(h:Ps Z w v ps)(u:Below w.heap.size w w'):Ps Z w' v ps:=h.tch (S:=λ _=>False) (Tch.of_below u) (λ _ _ e=>e)
def zij9{n A B:Nd}(E:n.ks.length≠0)(H:¬W (szN n n.ks.length)<=240)(I:SplR n A B):piecesF n=[A,B]:=by
 unfold piecesF;rw[if_neg E,if_neg H];rcases I with⟨u,rfl,rfl⟩|⟨u,m,K,rfl,rfl⟩
 .rw[if_pos u]
 .rw[if_neg (by omega),zta9 K]
def infN4:∃i,Tryz.prog.info? 93=some i/\i.zero=some (nod false (.slice none 0 0) (.slice none 0 0) (.slice none 0 0))/\i.size=4/\i.bytes=80:=info_parts (z:=nod false (.slice none 0 0) (.slice none 0 0) (.slice none 0 0)) (size:=4) (bytes:=80) (by kernel_rfl)
def zwl9(w:World)(lf:Bool)(u A E:Option Addr)(O Q T c1 H I:Nat):(Instr.buildSlice 176 1 #[(0,.agg #[.bool lf,.slice u O c1,.slice A Q H,.slice E T I])]).run Tryz.prog w=.ok (.slice (some ⟨w.heap.size,0,none⟩) 1 1) (w.alloc (.cells #[.bool lf,.slice u O c1,.slice A Q H,.slice E T I] 93)):=by
 obtain⟨i,hi,Y,K,hb⟩:=infN4;refine run_buildSlice w _ 93 1 _ _ i _ Tryz.underlying176 hi Y (by rw[K];decide) (by rw[K];decide) ?_;rw[K];have:=Go.Great.fill_whole (s:=4) (by decide) [.agg #[.bool lf,.slice u O c1,.slice A Q H,.slice E T I]] ((Array.range (1*4)).map ((Value.agg #[.bool false,.slice none 0 0,.slice none 0 0,.slice none 0 0]).cells[· % (Value.agg #[.bool false,.slice none 0 0,.slice none 0 0,.slice none 0 0]).cells.size]!)) (λ v hv=>by
  simp at hv;subst hv;rfl) (by simp)
 refine this.trans ?_;simp[Value.cells]
def zwm9(w:World)(lf lg:Bool)(u A E K O Q:Option Addr)(l1 l2 l3 c1 H I m1 m2 m3 T Y e3:Nat):(Instr.buildSlice 176 2 #[(0,.agg #[.bool lf,.slice u l1 c1,.slice A l2 H,.slice E l3 I]),(1,.agg #[.bool lg,.slice K m1 T,.slice O m2 Y,.slice Q m3 e3])]).run Tryz.prog w=.ok (.slice (some ⟨w.heap.size,0,none⟩) 2 2) (w.alloc (.cells #[.bool lf,.slice u l1 c1,.slice A l2 H,.slice E l3 I,.bool lg,.slice K m1 T,.slice O m2 Y,.slice Q m3 e3] 93)):=by
 obtain⟨i,hi,hz,h1,hb⟩:=infN4;refine run_buildSlice w _ 93 2 _ _ i _ Tryz.underlying176 hi hz (by rw[h1];decide) (by rw[h1];decide) ?_;rw[h1];have:=Go.Great.fill_whole (s:=4) (by decide) [.agg #[.bool lf,.slice u l1 c1,.slice A l2 H,.slice E l3 I],.agg #[.bool lg,.slice K m1 T,.slice O m2 Y,.slice Q m3 e3]] ((Array.range (2*4)).map ((Value.agg #[.bool false,.slice none 0 0,.slice none 0 0,.slice none 0 0]).cells[· % (Value.agg #[.bool false,.slice none 0 0,.slice none 0 0,.slice none 0 0]).cells.size]!)) (λ v hv=>by
  simp at hv;rcases hv with rfl|rfl<;>rfl) (by simp)
 refine this.trans ?_;simp[Value.cells]
def zdw9(n:Nd)(u1 u2 u3:Value)(Z:Nat->Prop)(w:World)(h:Nn w n u1 u2 u3)(hs:Sm n)(hz:∀j,(u1.ownBlock=some j\/u2.ownBlock=some j\/u3.ownBlock=some j)->Z j)(hu:Ub3 w u1 u2 u3):
 Calls Tryz.prog 142 #[nod n.lf u1 u2 u3] w λ e w'=>∃v,e=.returned v/\Ps (λ j=>(Z j\/w.heap.size<=j)/\j<w'.heap.size) w' v (piecesF n)/\Below w.heap.size w w':=by
 obtain⟨a1,c1,a2,c2,a3,c3,rfl,rfl,rfl,⟨l1,l2,l3,l4,l5,l6⟩,_,_,_⟩:=h.o;have al:=λ W hb=>zcg9 n _ _ _ W (h.below hb) hs;have ak:=λ W hb=>zpk9 n _ _ _ W (h.below hb) hs;obtain⟨E,a0⟩:=exH n.ks.length;obtain⟨T,ae⟩:=exH n.vs.length;obtain⟨Y,af⟩:=exH n.kd.length;have H:=za0 h;have HZ:=za0 hz;have HU:=za0 hu;rw[a0.o]at H HZ HU l1 |-
 rw[ae.o]at H HZ HU l3 |-
 rw[af.o]at H HZ HU l5 |-
 obtain⟨lf,aa⟩:=exH n.lf;obtain⟨z,ai⟩:=exH (W (szN n E));rw[aa.o];have a8:Hid (∀W,Below w.heap.size w W->Calls Tryz.prog 157 #[.agg #[.bool lf,.slice a1 E c1,.slice a2 T c2,.slice a3 Y c3]] W λ e w'=>e=.returned (.int .i64 z)/\Below W.heap.size W w'):=λ W hb=>by have:=al W hb;rw[a0.o,ae.o,af.o,aa.o,ai.o]at this;exact this
 have aj:Hid (∀W,Below w.heap.size w W->Calls Tryz.prog 158 #[.agg #[.bool lf,.slice a1 E c1,.slice a2 T c2,.slice a3 Y c3]] W λ e w'=>(∃k1 k2 k3 o1 o2 o3 A B,e=.returned (.tuple #[nod A.lf k1 k2 k3,nod B.lf o1 o2 o3])/\Nn w' A k1 k2 k3/\Nn w' B o1 o2 o3/\SplR n A B/\Fr3 W.heap.size k1 k2 k3/\Fr3 W.heap.size o1 o2 o3/\Ub3 w' k1 k2 k3/\Ub3 w' o1 o2 o3)/\Below W.heap.size W w'):=λ W hb=>by have:=ak W hb;rw[a0.o,ae.o,af.o,aa.o]at this;exact this
 unfold nod;obtain⟨W1,a9⟩:=exN (w.alloc (.cells #[.bool lf,.slice a1 E c1,.slice a2 T c2,.slice a3 Y c3] 93));have B1:Hid (Below w.heap.size w W1):=by rw[<-a9];exact za9 _ _
 have V1:Hid (Nb W1 93 w.heap.size lf (.slice a1 E c1) (.slice a2 T c2) (.slice a3 Y c3)):=by rw[<-a9];exact nb_new _ _ _ _ _ _
 have p0:=V1.o.c0;have p1:=V1.o.c1;have p2:=V1.o.c2;have p3:=V1.o.c3;clear h hs hz hu al ak l2 l3 l4 l5 l6;by_cases h0:E=0
 .have ab:Hid (piecesF n=[]):=by show _=_;unfold piecesF;rw[if_pos (by rw[a0.o];exact h0)]
  rw[ab.o];have e0:((E:Int)==0)=true:=by rw[beq_iff_eq];omega
  clear h0
  go_enter Tryz.func142,Tryz.ntmps142
  go_wp2_with fail;go_ret;exact⟨_,rfl,rfl,B1.o⟩
 .have e0:((E:Int)==0)=false:=by rw[zl0];omega
  by_cases ao:z<=240
  .have ab:Hid (piecesF n=[n]):=by show _=_;unfold piecesF;rw[if_neg (by rw[a0.o];exact h0),if_pos (by rw[a0.o,ai.o];exact ao)]
   rw[ab.o];have b9:=zwl9
   go_enter Tryz.func142,Tryz.ntmps142
   go_wp2_with fail;refine(a8.o W1 B1.o).mono ?_;rintro e w2 ⟨rfl,b2⟩;have K:=V1.o.below b2;have O:=za0 (B1.o.trans (b2.mono B1.o.size));have q0:=K.c0;have q1:=K.c1;have q2:=K.c2;have q3:=K.c3;have b6:Hid (Ps (λ j=>(Z j\/w.heap.size<=j)/\j<(w2.alloc (.cells #[.bool lf,.slice a1 E c1,.slice a2 T c2,.slice a3 Y c3] 93)).heap.size) (w2.alloc (.cells #[.bool lf,.slice a1 E c1,.slice a2 T c2,.slice a3 Y c3] 93)) (.slice (some ⟨w2.heap.size,0,none⟩) 1 1) [n]/\Below w.heap.size w (w2.alloc (.cells #[.bool lf,.slice a1 E c1,.slice a2 T c2,.slice a3 Y c3] 93))):=by
    have b3:=za9 w2 (.cells #[.bool lf,.slice a1 E c1,.slice a2 T c2,.slice a3 Y c3] 93);refine⟨⟨_,_,_,_,rfl,by rw[aa.o];exact heap_alloc_new w2 _,(H.o.below O.o).below b3,⟨.inr O.o.size,by simp⟩,λ j hj=>⟨.inl (HZ.o j hj),zn1 (HU.o j hj) (zn2 O.o.size b3.size)⟩⟩,O.o.trans (b3.mono O.o.size)⟩
   clear b2 p0 p1 p2 p3 a9 a8 K h0;go_wp2_with fail;go_ret;exact⟨_,rfl,b6.o⟩
  .have ba:decide (z<=240)=false:=by rw[zn4];exact ao
   (have az:Hid (n.ks.length≠0):=by show _≠_;rw[a0.o];exact h0);(have b0:Hid (240<W (szN n n.ks.length)):=by show _<_;rw[a0.o,ai.o];omega);obtain⟨pp,ax⟩:=exH (piecesF n);rw[ax.o];have b9:=zwm9
   go_enter Tryz.func142,Tryz.ntmps142
   go_wp2_with fail;refine(a8.o W1 B1.o).mono ?_;rintro e w2 ⟨rfl,b2⟩;have K:=V1.o.below b2;have O:=za0 (B1.o.trans (b2.mono B1.o.size));have q0:=K.c0;have q1:=K.c1;have q2:=K.c2;have q3:=K.c3;clear b2 p0 p1 p2 p3 a9 a8 K h0;go_wp2_with fail;refine(aj.o w2 O.o).mono ?_;rintro e u ⟨⟨k1,k2,k3,o1,o2,o3,A,B,rfl,hA,hB,hR,fA,fB,uA,uB⟩,b3⟩;(have b1:Hid (pp=[A,B]):=by show _=_;rw[<-ax.o];exact zij9 az.o (Int.not_le.2 b0.o) hR);have B3:=za0 (O.o.trans (b3.mono O.o.size));have ah:=O.o.size;obtain⟨x1,y1,x2,y2,x3,y3,rfl,rfl,rfl,_⟩:=hA.o;obtain⟨s1,t1,s2,t2,s3,t3,rfl,rfl,rfl,_⟩:=hB.o;obtain⟨A1,hA1⟩:=exH A.ks.length;obtain⟨A2,hA2⟩:=exH A.vs.length;obtain⟨A3,hA3⟩:=exH A.kd.length
   obtain⟨E1,ap⟩:=exH B.ks.length;obtain⟨E2,aq⟩:=exH B.vs.length;obtain⟨E3,ar⟩:=exH B.kd.length;obtain⟨a4,av⟩:∃l,Hid (A.lf=l):=⟨_,rfl⟩
   obtain⟨a5,aw⟩:∃l,Hid (B.lf=l):=⟨_,rfl⟩
   rw[hA1.o,hA2.o,hA3.o]at hA fA uA;rw[ap.o,aq.o,ar.o]at hB fB uB;rw[hA1.o,hA2.o,hA3.o,ap.o,aq.o,ar.o,av.o,aw.o];have HA:=za0 hA;have HB:=za0 hB;have FA:=za0 fA;have FB:=za0 fB;have UA:=za0 uA;have UB:=za0 uB;unfold nod;obtain⟨YA,ag⟩:=exN (u.alloc (.cells #[.bool false,.slice none 0 0,.slice none 0 0,.slice none 0 0] 93));obtain⟨YB,au⟩:=exN (YA.alloc (.cells #[.bool false,.slice none 0 0,.slice none 0 0,.slice none 0 0] 93));(have sA:YA.heap.size=u.heap.size+1:=by rw[<-ag];simp);(have bA:Below u.heap.size u YA:=by rw[<-ag];exact za9 _ _);have bB:Below YA.heap.size YA YB:=by rw[<-au];exact za9 _ _
   (have am:Nb YA 93 u.heap.size false (.slice none 0 0) (.slice none 0 0) (.slice none 0 0):=by rw[<-ag];exact nb_new _ _ _ _ _ _);have Q:=am.below bB;(have an:Nb YB 93 (u.heap.size+1) false (.slice none 0 0) (.slice none 0 0) (.slice none 0 0):=by rw[<-au,<-sA];exact nb_new _ _ _ _ _ _);have tA:=zl9 YB u.heap.size (.bool a4) (.slice x1 A1 y1) (.slice x2 A2 y2) (.slice x3 A3 y3);have ac:=Q.all a4 (.slice x1 A1 y1) (.slice x2 A2 y2) (.slice x3 A3 y3);have I:=an.tch tA (by omega);obtain⟨WA,b7⟩:=exN (((((YB.setCell ⟨u.heap.size,0,none⟩ (.bool a4)).setCell ⟨u.heap.size,1,none⟩ (.slice x1 A1 y1)).setCell ⟨u.heap.size,2,none⟩ (.slice x2 A2 y2)).setCell ⟨u.heap.size,3,none⟩ (.slice x3 A3 y3)))
   rw[b7]at tA ac I;have tB:=zl9 WA (u.heap.size+1) (.bool a5) (.slice s1 E1 t1) (.slice s2 E2 t2) (.slice s3 E3 t3);have a7:=I.all a5 (.slice s1 E1 t1) (.slice s2 E2 t2) (.slice s3 E3 t3);have a6:=ac.tch tB (by omega);obtain⟨WB,b8⟩:=exN (((((WA.setCell ⟨u.heap.size+1,0,none⟩ (.bool a5)).setCell ⟨u.heap.size+1,1,none⟩ (.slice s1 E1 t1)).setCell ⟨u.heap.size+1,2,none⟩ (.slice s2 E2 t2)).setCell ⟨u.heap.size+1,3,none⟩ (.slice s3 E3 t3)));rw[b8]at tB a7 a6;have b4:Below u.heap.size u WB:=by have h1:=bA.trans (bB.mono bA.size);have h2:=h1.trans (tA.below h1.size (λ j e=>by omega));exact h2.trans (tB.below h2.size (λ j e=>by omega))
   have ay:Hid (Ps (λ j=>(Z j\/w.heap.size<=j)/\j<(WB.alloc (.cells #[.bool a4,.slice x1 A1 y1,.slice x2 A2 y2,.slice x3 A3 y3,.bool a5,.slice s1 E1 t1,.slice s2 E2 t2,.slice s3 E3 t3] 93)).heap.size) (WB.alloc (.cells #[.bool a4,.slice x1 A1 y1,.slice x2 A2 y2,.slice x3 A3 y3,.bool a5,.slice s1 E1 t1,.slice s2 E2 t2,.slice s3 E3 t3] 93)) (.slice (some ⟨WB.heap.size,0,none⟩) 2 2) pp/\Below w.heap.size w (WB.alloc (.cells #[.bool a4,.slice x1 A1 y1,.slice x2 A2 y2,.slice x3 A3 y3,.bool a5,.slice s1 E1 t1,.slice s2 E2 t2,.slice s3 E3 t3] 93))):=by
    have b5:=za9 WB (.cells #[.bool a4,.slice x1 A1 y1,.slice x2 A2 y2,.slice x3 A3 y3,.bool a5,.slice s1 E1 t1,.slice s2 E2 t2,.slice s3 E3 t3] 93);have ad:=B3.o.trans (b4.mono B3.o.size);refine⟨?_,ad.trans (b5.mono ad.size)⟩;rw[b1.o];exact⟨_,_,_,_,_,_,_,rfl,by rw[av.o,aw.o];exact heap_alloc_new WB _,(HA.o.below b4).below b5,(HB.o.below b4).below b5,⟨.inr ad.size,by simp⟩,λ j hj=>⟨.inr (zn2 ah (FA.o j hj)),zn1 (UA.o j hj) (zn2 b4.size b5.size)⟩,λ j hj=>⟨.inr (zn2 ah (FB.o j hj)),zn1 (UB.o j hj) (zn2 b4.size b5.size)⟩⟩
   have p0:=Q.c0;have p1:=Q.c1;have p2:=Q.c2;have p3:=Q.c3;have f0:=Q.fz 0;have f1:=Q.fz 1;have f2:=Q.fz 2;have f3:=Q.fz 3;have y0:=I.c0;have bb:=I.c1;have bc:=I.c2;have bd:=I.c3;have g0:=I.fz 0;have g1:=I.fz 1;have g2:=I.fz 2;have g3:=I.fz 3;have r0:=a6.c0;have r1:=a6.c1;have r2:=a6.c2;have r3:=a6.c3;have v0:=a7.c0;have v1:=a7.c1;have v2:=a7.c2;have v3:=a7.c3;clear hA hB hR fA fB uA uB b3 ah bA bB am Q an tA ac I tB a7 a6 b4 q0 q1 q2 q3 aj;go_wp2_with fail;go_ret;exact⟨_,rfl,ay.o⟩
end Go.Proofs.YtcmjlibndmneiaaGreat
namespace Go.Proofs.YtcmjlibndmneiaaGreat
open Go.RowKit
abbrev Kl(a b:ByteArray):Prop:=lts a b=true
abbrev Ke(a b:ByteArray):Prop:=lts b a=false
def zje9:∀x y z:List UInt8,Op.bytesLess x y=true->Op.bytesLess y z=true->Op.bytesLess x z=true
 | [],_,[],A,u=>by
  rename_i y;cases y with
  | nil=>simp[Op.bytesLess]at A
  | cons=>simp[Op.bytesLess]at u
 | [],_,_::_,_,_=>rfl
 | _::_,[],_,A,_=>by simp[Op.bytesLess]at A
 | _::_,_::_,[],_,u=>by simp[Op.bytesLess]at u
 | a::x,b::y,c::z,A,u=>by
  unfold Op.bytesLess at A u |-
  simp only[Bool.or_eq_true,zo1,Bool.and_eq_true,beq_iff_eq]at A u |-
  rcases A with A|⟨rfl,A⟩
  .rcases u with u|⟨rfl,u⟩
   .exact .inl (UInt8.lt_trans A u)
   .exact .inl A
  .rcases u with u|⟨rfl,u⟩
   .exact .inl u
   .exact .inr ⟨rfl,zje9 x y z A u⟩
def zmm9:∀x:List UInt8,Op.bytesLess x x=false
 | []=>rfl
 | a::x=>by unfold Op.bytesLess;simp[zmm9 x]
def zsk9:∀x y:List UInt8,Op.bytesLess x y=true\/x=y\/Op.bytesLess y x=true
 | [],[]=>.inr (.inl rfl)
 | [],_::_=>.inl rfl
 | _::_,[]=>.inr (.inr rfl)
 | a::x,b::y=>by
  unfold Op.bytesLess;simp only[Bool.or_eq_true,zo1,Bool.and_eq_true,beq_iff_eq];by_cases h:a<b
  .exact .inl (.inl h)
  .by_cases u:b<a
   .exact .inr (.inr (.inl u))
   .have e:a=b:=UInt8.le_antisymm (UInt8.not_lt.1 u) (UInt8.not_lt.1 h);subst e;rcases zsk9 x y with h|h|h
    .exact .inl (.inr ⟨rfl,h⟩)
    .exact .inr (.inl (by rw[h]))
    .exact .inr (.inr (.inr ⟨rfl,h⟩))
section
variable {a b c:ByteArray}
def Kl.irr(h:Kl a a):False:=by have:=zmm9 a.toList;unfold Kl lts at h;rw[this]at h;cases h
def Kl.trans(h:Kl a b)(u:Kl b c):Kl a c:=zje9 _ _ _ h u
def Kl.le(h:Kl a b):Ke a b:=by
 show lts b a=false;cases e:lts b a with
 | false=>rfl
 | true=>exact(Kl.irr (h.trans e)).elim
def k_tri(a b:ByteArray):Kl a b\/a=b\/Kl b a:=by
 rcases zsk9 a.toList b.toList with h|h|h
 .exact .inl h
 .refine .inr (.inl ?_);rw[Go.Lib.toList_data,Go.Lib.toList_data]at h;cases a;cases b;simp only[ByteArray.mk.injEq]at *
  exact Array.ext' h
 .exact .inr (.inr h)
def Ke.or(h:Ke a b):Kl a b\/a=b:=by
 rcases k_tri a b with e|e|e
 .exact .inl e
 .exact .inr e
 .have A:lts b a=false:=h;have u:lts b a=true:=e;rw[A]at u;cases u
def Ke.refl(a:ByteArray):Ke a a:=zmm9 _
def Kl.trans_le(h:Kl a b)(u:Ke b c):Kl a c:=by
 rcases u.or with e|e
 .exact h.trans e
 .rw[<-e];exact h
def Ke.trans_lt(h:Ke a b)(u:Kl b c):Kl a c:=by
 rcases h.or with e|e
 .exact e.trans u
 .rw[e];exact u
def Ke.trans(h:Ke a b)(u:Ke b c):Ke a c:=by
 rcases h.or with e|e
 .exact(e.trans_le u).le
 .rw[e];exact u
def Ke.not(h:Ke a b)(E:Kl b a):False:=by have A:lts b a=false:=h;have u:lts b a=true:=E;rw[A]at u;cases u
def Ke.none(a:ByteArray):Ke eS a:=by
 show Op.bytesLess a.toList _=false;have:eS.toList=[]:=by rw[Go.Lib.toList_data];rfl
 rw[this];cases a.toList<;>rfl
def eqsP:eqs a b=true↔a=b:=by
 unfold eqs;rw[beq_iff_eq,Go.Lib.toList_data,Go.Lib.toList_data];constructor
 .intro h;cases a;cases b;simp only[ByteArray.mk.injEq]at *;exact Array.ext' h
 .intro h;rw[h]
def zvh9(a b:ByteArray):Ke (minS a b) a:=by
 unfold minS;split
 .rename_i h;exact Kl.le h
 .exact Ke.refl _
def zvi9(a b:ByteArray):Ke (minS a b) b:=by
 unfold minS;split
 .exact Ke.refl _
 .rename_i h;show lts b a=false;simpa using h
def ztb9(h:Ke a b):minS a b=a:=by unfold minS;rw[if_neg (by rw[h];decide)]
end
def Lh(k:ByteArray)(hi:Option ByteArray):Prop:=∀b,hi=some b->Kl k b
def Hle(hi hj:Option ByteArray):Prop:=∀b,hj=some b->∃c,hi=some c/\Ke c b
def Hle.refl(hi:Option ByteArray):Hle hi hi:=λ b h=>⟨b,h,Ke.refl b⟩
def Hle.none(hi:Option ByteArray):Hle hi none:=λ b h=>by cases h
def Lh.mono{k:ByteArray}{hi hj:Option ByteArray}(h:Lh k hi)(u:Hle hi hj):Lh k hj:=λ b A=>by obtain⟨c,E,e⟩:=u b A;exact(h c E).trans_le e
def Lh.le{k j:ByteArray}{hi:Option ByteArray}(h:Lh k hi)(u:Ke j k):Lh j hi:=λ b A=>u.trans_lt (h b A)
def Rg(lo:ByteArray)(hi:Option ByteArray)(ks:List ByteArray):Prop:=∀k∈ks,Ke lo k/\Lh k hi
def Rg.mono{lo H:ByteArray}{hi u:Option ByteArray}{E:List ByteArray}(h:Rg lo hi E)(I:Ke H lo)(K:Hle hi u):Rg H u E:=λ k A=>⟨I.trans (h k A).1,(h k A).2.mono K⟩
def nxt(ks:List ByteArray)(hi:Option ByteArray):Option ByteArray:=match ks with
 | []=>hi
 | k::_=>some k
def kSum(l:List ByteArray):Nat:=(l.map ByteArray.size).sum
theorem zif9:kSum []=0:=rfl
def zaj9(a:ByteArray)(l:List ByteArray):kSum (a::l)=a.size+kSum l:=by simp[kSum]
def zao9(l m:List ByteArray):kSum (l++m)=kSum l+kSum m:=by simp[kSum]
def take_succ'{α:Type}(d:α)(l:List α)(k:Nat)(h:k<l.length):l.take (k+1)=l.take k++[l.getD k d]:=by rw[List.take_add_one,zn3,zc0 h];rfl
def zpt9{n:Nd}(h:n.lf=true)(hv:n.vs.length=n.ks.length):∀k,k<=n.ks.length->szN n k=1+(kSum (n.ks.take k)+kSum (n.vs.take k)+2*k)
 | 0,_=>by simp[szN,kSum]
 | k+1,hk=>by have:=zpt9 h hv k (by omega);rw[take_succ' eS _ _ (by omega),take_succ' eS n.vs _ (by omega),zao9,zao9];simp only[szN,szA,h,if_true,zaj9,zif9,kA,vA];omega
def zki9{n:Nd}(h:n.lf=false)(hv:n.kd.length=n.ks.length):∀k,k<=n.ks.length->szN n k=1+(kSum (n.ks.take k)+3*k)
 | 0,_=>by simp[szN,kSum]
 | k+1,hk=>by
  have:=zki9 h hv k (by omega);have u:k<n.kd.length:=by omega
  rw[take_succ' eS _ _ (by omega),zao9];simp only[szN,szA,h,Bool.false_eq_true,if_false,zaj9,zif9,kA,if_pos u];omega
def sz(n:Nd):Nat:=szN n n.ks.length
def zbv9{n:Nd}(h:n.lf=true)(hv:n.vs.length=n.ks.length):sz n=1+(kSum n.ks+kSum n.vs+2*n.ks.length):=by unfold sz;rw[zpt9 h hv _ (zn6 _),List.take_length,zn5 (by omega)]
def zbh9{n:Nd}(h:n.lf=false)(hv:n.kd.length=n.ks.length):sz n=1+(kSum n.ks+3*n.ks.length):=by unfold sz;rw[zki9 h hv _ (zn6 _),List.take_length]
def zjo9{l:List ByteArray}{m:Nat}(h:∀k∈l,k.size<=m):kSum l<=m*l.length:=by
 induction l with
 | nil=>simp[kSum]
 | cons a l A=>have E:=h a zp0;have H:=A (λ k u=>h k (zq0 _ u));rw[zaj9,zk0,Nat.mul_succ];omega
structure Bm(n:Nd):Prop where
 ks:∀k∈n.ks,k.size<=24
 up:n.ks.Pairwise Kl
 ne:n.lf=true->∀k∈n.ks,k≠eS
 lf:n.lf=true->n.vs.length=n.ks.length/\n.kd=[]/\∀v∈n.vs,v.size<=24
 inn:n.lf=false->n.kd.length=n.ks.length/\n.vs=[]/\∀x∈n.kd,0<=x/\x<=65535
def zan9{α:Type}{l:List α}{d:α}{i:Nat}(h:i<l.length):l.getD i d∈l:=by rw[zn3,zc0 h];exact za1 h
def Bm.szle{n:Nd}(h:Bm n):sz n<=1+50*n.ks.length:=by
 cases e:n.lf with
 | true=>obtain⟨u,_,A⟩:=h.lf e;have:=zjo9 h.ks;have:=zjo9 A;rw[zbv9 e u];rw[u]at *;omega
 | false=>have:=zjo9 h.ks;rw[zbh9 e (h.inn e).1];omega
def Bm.may{n:Nd}(h:Bm n)(I:1<=n.ks.length)(H:sz n<=240):mayN n=true:=by
 rw[zq9];refine⟨I,by rw[zbm9 (by unfold sz at H;omega)];unfold sz at H;omega,λ i hi=>⟨h.ks _ (zan9 hi),λ O=>?_,λ K=>?_⟩,?_⟩
 .have:=List.pairwise_iff_getElem.1 h.up (i-1) i (by omega) hi (by omega);unfold kA;rw[zn3,zn3,zc0 hi,zc0 (by omega)];exact this
 .cases e:eqs (kA n i) eS with
  | false=>rfl
  | true=>exact absurd (eqsP.1 e) (h.ne K _ (zan9 hi))
 .cases e:n.lf with
  | true=>obtain⟨u,A,E⟩:=h.lf e;rw[if_pos rfl];exact⟨λ i hi=>E _ (zan9 hi),u,by rw[A];rfl⟩
  | false=>obtain⟨u,A,E⟩:=h.inn e;rw[if_neg (by decide)];exact⟨λ i hi=>E _ (zan9 hi),u,by rw[A];rfl⟩
def may_sz{n:Nd}(h:Bm n)(H:n.ks.length<=1000)(E:mayN n=true):1<=n.ks.length/\sz n<=240:=by
 obtain⟨u,A,_⟩:=zq9.1 E;have:=h.szle;unfold sz at *
 rw[zbm9 (by omega)]at A;exact⟨u,by omega⟩
def Bm.many{n:Nd}(h:Bm n)(u:sz n<=292):n.ks.length<=292:=by have:=szN_ge n n.ks.length;unfold sz at u;omega
def Bm.take{n:Nd}(h:Bm n)(m:Nat):Bm (takeN n m) where
 ks:=λ k E=>h.ks k (zy0 E)
 up:=h.up.sublist (List.take_sublist _ _)
 ne:=λ e k E=>h.ne e k (zy0 E)
 lf:=λ e=>by obtain⟨H,u,A⟩:=h.lf e;refine⟨by simp only[takeN,zg0];omega,by show n.kd.take m=[];rw[u];simp,λ v hv=>A v (zy0 hv)⟩
 inn:=λ e=>by obtain⟨H,u,A⟩:=h.inn e;refine⟨by simp only[takeN,zg0];omega,by show n.vs.take m=[];rw[u];simp,λ v hv=>A v (zy0 hv)⟩
def Bm.drop{n:Nd}(h:Bm n)(m:Nat):Bm (dropN n m) where
 ks:=λ k E=>h.ks k (zz0 E)
 up:=h.up.sublist (List.drop_sublist _ _)
 ne:=λ e k E=>h.ne e k (zz0 E)
 lf:=λ e=>by obtain⟨H,u,A⟩:=h.lf e;refine⟨by simp only[dropN,zj0];omega,by show n.kd.drop m=[];rw[u];simp,λ v hv=>A v (zz0 hv)⟩
 inn:=λ e=>by obtain⟨H,u,A⟩:=h.inn e;refine⟨by simp only[dropN,zj0];omega,by show n.vs.drop m=[];rw[u];simp,λ v hv=>A v (zz0 hv)⟩
def Bm.small{n:Nd}(h:Bm n){i:Nat}(hi:i<n.ks.length):szA n i<=50:=by
 have u:=h.ks _ (zan9 (d:=eS) hi);unfold szA;cases e:n.lf with
 | true=>have A:=(h.lf e).2.2 _ (zan9 (d:=eS) (i:=i) (by rw[(h.lf e).1];exact hi));simp only[if_true];show 1+(n.ks.getD i eS).size+(1+(n.vs.getD i eS).size)<=50;omega
 | false=>simp only[Bool.false_eq_true,if_false];show 1+(n.ks.getD i eS).size+_<=50;split<;>omega
def mid_ex(n:Nd)(h:2<=n.ks.length):∃m,MidR n m:=by
 have K:∀d,∀m,1<=m->m+d+1=n.ks.length->(∀k,1<=k->k<m->W (szN n k)<hlfN n)->∃m,MidR n m:=by
  intro d;induction d with
  | zero=>intro m u E A;exact⟨m,u,by omega,A,.inl (by omega)⟩
  | succ d H=>
   intro m u E A;by_cases c:hlfN n<=W (szN n m)
   .exact⟨m,u,by omega,A,.inr c⟩
   .refine H (m+1) (by omega) (by omega) (λ k I O=>?_);by_cases e:k=m
    .subst e;omega
    .exact A k I (by omega)
 exact K (n.ks.length-2) 1 (by omega) (by omega) (λ k u E=>by omega)
def zgf9{n:Nd}(h:Bm n)(h1:1<=n.ks.length)(A:sz n<=292):
 (piecesF n=[n]/\sz n<=240)\/(240<sz n/\∃m,piecesF n=[takeN n m,dropN n m]/\2<=m/\m+2<=n.ks.length/\sz (takeN n m)<=240/\sz (dropN n m)<=240):=by
 have E:W (szN n n.ks.length)=(sz n:Int):=zbm9 (by unfold sz at A;omega);by_cases c:sz n<=240
 .left;refine⟨?_,c⟩;unfold piecesF;rw[if_neg (by omega),E,if_pos (by omega)]
 right;have hs:=h.szle;have O:∀k,k<=n.ks.length->szN n k<=1+50*k:=by
  intro k;induction k with
  | zero=>intro _;simp[szN]
  | succ k I=>intro H;have:=I (by omega);have:=h.small (i:=k) (by omega);simp only[szN];omega
 obtain⟨m,u⟩:=mid_ex n (by omega);have Q:=zni9 u (λ i hi=>h.small hi) (by unfold sz at c;omega) A;have hl:=u.lt;have a2:=u.one;have lt:(takeN n m).ks.length=m:=znz9 n (by omega);have ld:(dropN n m).ks.length=n.ks.length-m:=by simp only[dropN,zj0]
 have hd:=zis9 n m (n.ks.length-m);rw[Nat.add_sub_of_le (by omega)]at hd;have K:∀k,k<=n.ks.length->W (szN n k)=(szN n k:Int):=λ k H=>zbm9 (by have:=zpq9 n H;unfold sz at A;omega);have T:hlfN n=((sz n / 2:Nat):Int):=by
  unfold hlfN;rw[E];rcases tdiv2 (sz n:Int)with⟨_,e⟩|⟨c,_⟩
  .rw[e];omega
  .omega
 have a4:szN (dropN n m) (n.ks.length-m)<=1+50*(n.ks.length-m):=by
  have a0:∀k,k<=n.ks.length-m->szN (dropN n m) k<=1+50*k:=by
   intro k;induction k with
   | zero=>intro _;simp[szN]
   | succ k I=>intro H;have:=I (by omega);have:=(h.drop m).small (i:=k) (by omega);simp only[szN];omega
  exact a0 _ (zn6 _)
 have a3:=O m (by omega);have a6:szN n m=szN n (m-1)+szA n (m-1):=by
  obtain⟨q,rfl⟩:∃q,m=q+1:=⟨m-1,by omega⟩
  rfl
 have a5:=h.small (i:=m-1) (by omega);have a1:2<=m:=by
  rcases u.yes with e|e
  .unfold sz at c;have:=O n.ks.length (zn6 _);omega
  .rw[T,K _ (by omega)]at e;omega
 have Y:=u.no (m-1) (by omega) (by omega);rw[T,K _ (by omega)]at Y;refine⟨by omega,m,?_,a1,?_,by unfold sz;rw[lt];exact Q.1,by unfold sz;rw[ld];exact Q.2⟩
 .unfold piecesF;rw[if_neg (by omega),E,if_neg (by omega),if_neg (by omega),zta9 u]
 .unfold sz at c Y;omega
abbrev E2:=ByteArray×ByteArray
def Fo(P:Int->ByteArray->Option ByteArray->List E2->List Int->Prop):List ByteArray->List Int->Option ByteArray->List E2->List Int->Prop
 | [],[],_,L,B=>L=[]/\B=[]
 | k::ks,x::xs,hi,L,B=>∃L1 L2 B1 B2,P x k (nxt ks hi) L1 B1/\Fo P ks xs hi L2 B2/\L=L1++L2/\B=B1++B2
 | _,_,_,_,_=>False
def Nod(V:Int->Int×Nd)(c:Nat):Nat->Nd->ByteArray->Option ByteArray->List E2->List Int->Prop
 | 0,n,lo,hi,L,B=>n.lf=true/\Rg lo hi n.ks/\L=n.ks.zip n.vs/\B=[]
 | h+1,n,lo,hi,L,B=>n.lf=false/\Rg lo hi n.ks/\Fo (λ x k hi L B=>∃m B1,V x=(0,m)/\Bm m/\c<=m.ks.length/\sz m<=240/\Nod V c h m k hi L B1/\B=x::B1) n.ks n.kd hi L B
def Sub(V:Int->Int×Nd)(c h:Nat)(x:Int)(k:ByteArray)(hi:Option ByteArray)(L:List E2)(B:List Int):Prop:=
 ∃m B1,V x=(0,m)/\Bm m/\c<=m.ks.length/\sz m<=240/\Nod V c h m k hi L B1/\B=x::B1
section
variable {P P':Int->ByteArray->Option ByteArray->List E2->List Int->Prop} {V V':Int->Int×Nd} {c h:Nat}
def zoj9(K u:List ByteArray)(hi:Option ByteArray):nxt (K++u) hi=nxt K (nxt u hi):=by cases K<;>rfl
def nxt_le{hi hj:Option ByteArray}(h:Hle hi hj)(u:List ByteArray):Hle (nxt u hi) (nxt u hj):=by
 cases u with
 | nil=>exact h
 | cons=>exact Hle.refl _
def Fo.len:∀{ks xs hi L B},Fo P ks xs hi L B->xs.length=ks.length
 | [],[],_,_,_,_=>rfl
 | _::_,_::_,_,_,_,⟨_,_,_,_,_,h,_,_⟩=>by have:=Fo.len h;simp[this]
 | [],_::_,_,_,_,h=>h.elim
 | _::_,[],_,_,_,h=>h.elim
def Fo.app{K:List ByteArray}{D2:List Int}{hi:Option ByteArray}:∀{K1 D1 L B},K1.length=D1.length->(Fo P (K1++K) (D1++D2) hi L B↔∃A H u E,Fo P K1 D1 (nxt K hi) A u/\Fo P K D2 hi H E/\L=A++H/\B=u++E)
 | [],[],L,B,_=>⟨λ h=>⟨[],L,[],B,⟨rfl,rfl⟩,h,rfl,rfl⟩,by rintro⟨A,H,u,E,⟨rfl,rfl⟩,h,rfl,rfl⟩;exact h⟩
 | k::K1,x::D1,L,B,e=>by
  have e':K1.length=D1.length:=by simpa using e
  constructor
  .rintro⟨A,H,u,E,Y,h2,rfl,rfl⟩;obtain⟨O,T,I,Q,h3,h4,rfl,rfl⟩:=(Fo.app e').1 h2;exact⟨A++O,T,u++I,Q,⟨A,O,u,I,by have a0:P x k (nxt (K1++K) hi) A u:=Y;rw[zoj9]at a0;exact a0,h3,rfl,rfl⟩,h4,by simp,by simp⟩
  .rintro⟨A,H,u,E,⟨O,T,I,Q,Y,h2,rfl,rfl⟩,h4,rfl,rfl⟩;exact⟨O,T++H,I,Q++E,by show P x k (nxt (K1++K) hi) O I;rw[zoj9];exact Y,(Fo.app e').2 ⟨T,H,Q,E,h2,h4,rfl,rfl⟩,by simp,by simp⟩
 | [],_::_,_,_,e=>by simp at e
 | _::_,[],_,_,e=>by simp at e
def Fo.mono{hi hj:Option ByteArray}(A:Hle hi hj)(u:∀x k hi hj L B,Hle hi hj->P x k hi L B->P x k hj L B):∀{ks xs L B},Fo P ks xs hi L B->Fo P ks xs hj L B
 | [],[],_,_,h=>h
 | _::ks,_::_,_,_,⟨L1,L2,B1,B2,h1,h2,e1,e2⟩=>⟨L1,L2,B1,B2,u _ _ _ _ _ _ (nxt_le A ks) h1,Fo.mono A u h2,e1,e2⟩
 | [],_::_,_,_,h=>h.elim
 | _::_,[],_,_,h=>h.elim
def Fo.congr:∀{ks xs hi L B},Fo P ks xs hi L B->(∀x k hi L u,P x k hi L u->(∀y∈u,y∈B)->P' x k hi L u)->Fo P' ks xs hi L B
 | [],[],_,_,_,h,_=>h
 | _::ks,_::_,_,_,_,⟨L1,L2,u,B2,h1,h2,e1,e2⟩,hP=>⟨L1,L2,u,B2,hP _ _ _ _ _ h1 (λ y A=>by rw[e2];exact zf1 _ A),Fo.congr h2 (λ x k hi L E p q=>hP x k hi L E p (λ y A=>by rw[e2];exact zg1 _ (q y A))),e1,e2⟩
 | [],_::_,_,_,_,h,_=>h.elim
 | _::_,[],_,_,_,h,_=>h.elim
def Nod.mono:∀{h n lo lo' hi hi' L B},Nod V c h n lo hi L B->Ke lo' lo->Hle hi hi'->Nod V c h n lo' hi' L B
 | 0,_,_,_,_,_,_,_,⟨h1,h2,h3,h4⟩,a,b=>⟨h1,h2.mono a b,h3,h4⟩
 | h+1,_,_,_,_,_,_,_,⟨h1,h2,h3⟩,a,b=>⟨h1,h2.mono a b,h3.mono b (by
  rintro x k hi hj L B Q ⟨m,u,A,E,H,I,K,O⟩;exact⟨m,u,A,E,H,I,Nod.mono K (Ke.refl _) Q,O⟩)⟩
def Sub.mono{x:Int}{k:ByteArray}{hi hj:Option ByteArray}{L:List E2}{B:List Int}(Q:Hle hi hj):Sub V c h x k hi L B->Sub V c h x k hj L B:=by rintro⟨m,u,A,E,H,I,K,O⟩;exact⟨m,u,A,E,H,I,Nod.mono K (Ke.refl _) Q,O⟩
def Nod.congr:∀{h n lo hi L B},Nod V c h n lo hi L B->(∀y∈B,V' y=V y)->Nod V' c h n lo hi L B
 | 0,_,_,_,_,_,h,_=>h
 | h+1,_,_,_,_,_,⟨h1,h2,h3⟩,e=>⟨h1,h2,h3.congr (by
  rintro x k hi L T ⟨m,A,E,H,I,K,O,u⟩ q;exact⟨m,A,by rw[e x (q x (by rw[u];exact zp0))];exact E,H,I,K,Nod.congr O (λ y Q=>e y (q y (by rw[u];exact zq0 _ Q))),u⟩)⟩
def Sub.congr{x:Int}{k:ByteArray}{hi:Option ByteArray}{L:List E2}{B:List Int}:Sub V c h x k hi L B->(∀y∈B,V' y=V y)->Sub V' c h x k hi L B:=by rintro⟨m,u,A,E,H,I,K,rfl⟩ e;exact⟨m,u,by rw[e x zp0];exact A,E,H,I,Nod.congr K (λ y O=>e y (zq0 _ O)),rfl⟩
abbrev Up(L:List E2):Prop:=L.Pairwise λ a b=>Kl a.1 b.1
def Fo.facts(Y:∀x k hi L B,P x k hi L B->(∀e∈L,Ke k e.1/\Lh e.1 hi)/\Up L):∀{u xs hi L B},u.Pairwise Kl->(∀k∈u,Lh k hi)->Fo P u xs hi L B->(∀e∈L,(∃k O,u=k::O/\Ke k e.1)/\Lh e.1 hi)/\Up L
 | [],[],_,_,_,_,_,⟨rfl,rfl⟩=>⟨λ e A=>(by cases A),List.Pairwise.nil⟩
 | k::u,x::xs,hi,_,_,h1,h2,⟨L1,L2,B1,B2,p,q,rfl,rfl⟩=>by
  obtain⟨Q,p2⟩:=Y _ _ _ _ _ p;obtain⟨h3,h4⟩:=List.pairwise_cons.1 h1;obtain⟨q1,q2⟩:=Fo.facts Y h4 (λ E hk=>h2 E (zq0 _ hk)) q;have hn:Hle (nxt u hi) hi:=by
   cases u with
   | nil=>exact Hle.refl _
   | cons E u=>intro b K;exact⟨E,rfl,(h2 E (by simp) b K).le⟩
  refine⟨λ e A=>?_,List.pairwise_append.2 ⟨p2,q2,λ a ha b K=>?_⟩⟩
  .rcases zi0.1 A with A|A
   .exact⟨⟨k,u,rfl,(Q e A).1⟩,(Q e A).2.mono hn⟩
   .obtain⟨⟨E,O,H,I⟩,T⟩:=q1 e A;exact⟨⟨k,u,rfl,((h3 E (by rw[H];simp)).trans_le I).le⟩,T⟩
  .obtain⟨⟨E,O,H,I⟩,T⟩:=q1 b K;exact((Q a ha).2 E (by rw[H];rfl)).trans_le I
 | [],_::_,_,_,_,_,_,h=>h.elim
 | _::_,[],_,_,_,_,_,h=>h.elim
def zip_up{u vs:List ByteArray}:u.Pairwise Kl->Up (u.zip vs):=by
 intro h;induction u generalizing vs with
 | nil=>simp
 | cons k u I=>
  obtain⟨A,E⟩:=List.pairwise_cons.1 h;cases vs with
  | nil=>simp
  | cons v vs=>rw[List.zip_cons_cons];exact List.pairwise_cons.2 ⟨λ e H=>A _ (List.of_mem_zip H).1,I E⟩
def Nod.facts:∀{h n lo hi L B},Nod V c h n lo hi L B->Bm n->(∀e∈L,Ke lo e.1/\Lh e.1 hi)/\Up L
 | 0,_,_,_,_,_,⟨h1,h2,rfl,h4⟩,hb=>⟨λ e u=>h2 _ (List.of_mem_zip u).1,zip_up hb.up⟩
 | h+1,n,lo,hi,_,_,⟨h1,h2,h3⟩,hb=>by obtain⟨Q,T⟩:=h3.facts (by rintro x k hi L B ⟨m,Y,a1,A,a3,a4,E,a6⟩;exact Nod.facts E A) hb.up (λ k O=>(h2 k O).2);refine⟨λ e u=>?_,T⟩;obtain⟨⟨k,ks,H,I⟩,K⟩:=Q e u;exact⟨(h2 k (by rw[H];simp)).1.trans I,K⟩
def Sub.facts{x:Int}{k:ByteArray}{hi:Option ByteArray}{L:List E2}{B:List Int}:Sub V c h x k hi L B->(∀e∈L,Ke k e.1/\Lh e.1 hi)/\Up L:=by rintro⟨m,E,H,u,I,K,A,O⟩;exact A.facts u
def zxr9{n:Nd}{k:ByteArray}{u:List ByteArray}(h:n.ks=k::u):kA n 0=k:=by unfold kA;rw[h];rfl
def Nod.split{n:Nd}{lo:ByteArray}{hi:Option ByteArray}{L:List E2}{B:List Int}{m:Nat}(H:Nod V c h n lo hi L B)(Q:Bm n)(h1:1<=m)(h2:m<n.ks.length):
 ∃Y K T E,Nod V c h (takeN n m) lo (some (kA (dropN n m) 0)) Y T/\Nod V c h (dropN n m) (kA (dropN n m) 0) hi K E/\L=Y++K/\B=T++E:=by
 obtain⟨k,I,hk⟩:∃k I,n.ks.drop m=k::I:=by
  cases e:n.ks.drop m with
  | nil=>have:=congrArg List.length e;simp at this;omega
  | cons k I=>exact⟨k,I,rfl⟩
 have e0:kA (dropN n m) 0=k:=zxr9 hk;have a0:n.ks=n.ks.take m++k::I:=by rw[<-hk,zx0]
 have a1:=Q.up;rw[a0]at a1;obtain⟨_,u2,u3⟩:=List.pairwise_append.1 a1;have r1:Rg lo hi n.ks->Rg lo (some k) (n.ks.take m):=λ r q A=>⟨(r q (zy0 A)).1,λ b Q=>by cases Q;exact u3 q A k (by simp)⟩
 have r2:Rg lo hi n.ks->Rg k hi (n.ks.drop m):=λ r q A=>⟨by
  rw[hk]at A;rcases List.mem_cons.1 A with e|e
  .rw[e];exact Ke.refl _
  .exact((List.pairwise_cons.1 u2).1 q e).le,(r q (zz0 A)).2⟩
 rw[e0];cases h with
 | zero=>obtain⟨u,O,rfl,rfl⟩:=H;obtain⟨v1,v2,v3⟩:=Q.lf u;refine⟨(n.ks.take m).zip (n.vs.take m),(n.ks.drop m).zip (n.vs.drop m),[],[],⟨u,r1 O,rfl,rfl⟩,⟨u,r2 O,rfl,rfl⟩,?_,rfl⟩;rw[<-List.zip_append (by simp[v1]),zx0,zx0]
 | succ h=>obtain⟨u,O,a3⟩:=H;obtain⟨v1,v2,v3⟩:=Q.inn u;rw[show n.kd=n.kd.take m++n.kd.drop m by rw[zx0],a0]at a3;obtain⟨Y,K,T,E,f1,f2,e1,e2⟩:=(Fo.app (by simp[v1])).1 a3;exact⟨Y,K,T,E,⟨u,r1 O,f1⟩,⟨u,r2 O,by show Fo _ (n.ks.drop m) (n.kd.drop m) hi K E;rw[hk];exact f2⟩,e1,e2⟩
def Nod.join{o p:Nd}{lo k:ByteArray}{hi:Option ByteArray}{L1 L2:List E2}{Y B2:List Int}(I:Nod V c h o lo (some k) L1 Y)(K:Nod V c h p k hi L2 B2)(A:Bm o)(E:Bm p)(hp:1<=p.ks.length)(a4:Ke lo k):
 Nod V c h (joinN o p) lo hi (L1++L2) (Y++B2)/\Bm (joinN o p)/\sz (joinN o p)+1=sz o+sz p:=by
 obtain⟨q,T,hq⟩:∃q T,p.ks=q::T:=by
  cases e:p.ks with
  | nil=>rw[e]at hp;simp at hp
  | cons q T=>exact⟨q,T,rfl⟩
 have H:o.lf=p.lf:=by
  cases h with
  | zero=>rw[I.1,K.1]
  | succ h=>rw[I.1,K.1]
 have r1:Rg lo (some k) o.ks:=by
  cases h with
  | zero=>exact I.2.1
  | succ h=>exact I.2.1
 have Q:Rg k hi p.ks:=by
  cases h with
  | zero=>exact K.2.1
  | succ h=>exact K.2.1
 have a1:Ke k q:=(Q q (by rw[hq];simp)).1;have r3:Rg lo hi (o.ks++p.ks):=λ x u=>by
  rcases zi0.1 u with e|e
  .refine⟨(r1 x e).1,(Q q (by rw[hq];simp)).2.le (((r1 x e).2 k rfl).trans_le a1).le⟩
  .exact⟨a4.trans (Q x e).1,(Q x e).2⟩
 have a0:Bm (joinN o p):={
  ks:=λ x u=>(zi0.1 u).elim (A.ks x) (E.ks x)
  up:=List.pairwise_append.2 ⟨A.up,E.up,λ x u y hy=>((r1 x u).2 k rfl).trans_le (Q y hy).1⟩
  ne:=λ e x u=>(zi0.1 u).elim (A.ne e x) (E.ne (H▸e) x)
  lf:=λ e=>by obtain⟨v1,v2,v3⟩:=A.lf e;obtain⟨u1,u2,u3⟩:=E.lf (H▸e);exact⟨by simp[joinN,v1,u1],by simp[joinN,v2,u2],λ x u=>(zi0.1 u).elim (v3 x) (u3 x)⟩
  inn:=λ e=>by
   obtain⟨v1,v2,v3⟩:=A.inn e;obtain⟨u1,u2,u3⟩:=E.inn (H▸e);exact⟨by simp[joinN,v1,u1],by simp[joinN,v2,u2],λ x u=>(zi0.1 u).elim (v3 x) (u3 x)⟩ }
 refine⟨?_,a0,?_⟩
 .cases h with
  | zero=>obtain⟨O,a2,rfl,rfl⟩:=I;obtain⟨c1,c2,rfl,rfl⟩:=K;exact⟨O,r3,(List.zip_append (by rw[(A.lf O).1])).symm,rfl⟩
  | succ h=>obtain⟨O,a2,a3⟩:=I;obtain⟨c1,c2,c3⟩:=K;refine⟨O,r3,(Fo.app (by rw[(A.inn O).1])).2 ⟨L1,L2,Y,B2,?_,c3,rfl,rfl⟩⟩;rw[hq];exact Fo.mono (P:=Sub V c h) (hi:=some k) (hj:=some q) (λ b hb=>by cases hb;exact⟨k,rfl,a1⟩) (λ x k hi hj L B hh s=>Sub.mono hh s) a3
 .cases e:o.lf with
  | true=>rw[zbv9 (n:=joinN o p) e (a0.lf e).1,zbv9 e (A.lf e).1,zbv9 (H▸e) (E.lf (H▸e)).1];simp only[joinN,zao9,zf0];omega
  | false=>rw[zbh9 (n:=joinN o p) e (a0.inn e).1,zbh9 e (A.inn e).1,zbh9 (H▸e) (E.inn (H▸e)).1];simp only[joinN,zao9,zf0];omega
def Nod.nil{n:Nd}{lo:ByteArray}{hi:Option ByteArray}{L:List E2}{B:List Int}(H:Nod V c h n lo hi L B)(u:n.ks=[]):L=[]/\B=[]:=by
 cases h with
 | zero=>obtain⟨_,_,rfl,rfl⟩:=H;rw[u];exact⟨rfl,rfl⟩
 | succ h=>
  obtain⟨_,_,a⟩:=H;rw[u]at a;cases e:n.kd with
  | nil=>rw[e]at a;exact a
  | cons=>rw[e]at a;exact a.elim
inductive Pts(V:Int->Int×Nd)(c h:Nat):List Nd->ByteArray->Option ByteArray->List E2->List Int->Prop
 | zero (lo:ByteArray) (hi:Option ByteArray):Pts V c h [] lo hi [] []
 | one {p:Nd} {lo:ByteArray} {hi:Option ByteArray} {L:List E2} {B:List Int}:Bm p->1<=p.ks.length->sz p<=240->Nod V c h p lo hi L B->Pts V c h [p] lo hi L B
 | two {p q:Nd} {lo:ByteArray} {hi:Option ByteArray} {L1 L2:List E2} {B1 B2:List Int}:Bm p->2<=p.ks.length->sz p<=240->Bm q->2<=q.ks.length->sz q<=240->Nod V c h p lo (some (kA q 0)) L1 B1->Nod V c h q (kA q 0) hi L2 B2->Pts V c h [p,q] lo hi (L1++L2) (B1++B2)
def zdy9{n:Nd}{lo:ByteArray}{hi:Option ByteArray}{L:List E2}{B:List Int}(H:Nod V c h n lo hi L B)(u:Bm n)(K:sz n<=292):
 Pts V c h (piecesF n) lo hi L B/\(n.ks=[]/\piecesF n=[]\/piecesF n=[n]/\1<=n.ks.length/\sz n<=240\/(piecesF n).length=2/\240<sz n):=by
 by_cases A:n.ks=[]
 .obtain⟨rfl,rfl⟩:=H.nil A;have:piecesF n=[]:=by unfold piecesF;rw[if_pos (by rw[A];rfl)]
  rw[this];exact⟨.zero _ _,.inl ⟨A,rfl⟩⟩
 have I:1<=n.ks.length:=by
  cases e:n.ks with
  | nil=>exact absurd e A
  | cons=>simp
 rcases zgf9 u I K with⟨e,E⟩|⟨E,m,e,m1,m2,T,Y⟩
 .rw[e];exact⟨.one u I E H,.inr (.inl ⟨rfl,I,E⟩)⟩
 .obtain⟨L1,L2,B1,B2,O,Q,rfl,rfl⟩:=H.split u (m:=m) (by omega) (by omega);rw[e];exact⟨.two (u.take m) (by rw[znz9 n (by omega)];omega) T (u.drop m) (by simp only[dropN,zj0];omega) Y O Q,.inr (.inr ⟨rfl,E⟩)⟩
end
structure Ev(a a':AS)(T:List Int):Prop where
 v:∀y,y∉T->a'.V y=a.V y
 f:∀y,y∉T->a'.F y=a.F y
 ft:∀y∈T,a'.F y=true
 q:a'.Q=a.Q
 nd:T.Nodup
 fr:∀y∈T,Ah.stv a.A y=0
 tk:∀y∈T,Ah.stv a'.A y=1
 st:∀y,y∉T->Ah.stv a'.A y=Ah.stv a.A y
 ct:a'.A.L.count 0+T.length=a.A.L.count 0
 lo:a'.A.lo=a.A.lo
 ln:a'.A.L.length=a.A.L.length
 sa:a.A.as=0->a'.A.as=0
def Ev.refl(a:AS):Ev a a []:=⟨λ _ _=>rfl,λ _ _=>rfl,λ _ h=>(by cases h),rfl,List.nodup_nil,λ _ h=>(by cases h),λ _ h=>(by cases h),λ _ _=>rfl,by simp,rfl,rfl,id⟩
def Ev.trans{a b c:AS}{T S:List Int}(h:Ev a b T)(g:Ev b c S):Ev a c (T++S):=by
 have A:∀y∈S,y∉T:=λ y u E=>by have:=g.fr y u;have:=h.tk y E;omega
 refine⟨λ y u=>?_,λ y u=>?_,λ y u=>?_,g.q.trans h.q,zj1.2 ⟨h.nd,g.nd,λ x H y u e=>A y u (e▸H)⟩,λ y u=>?_,λ y u=>?_,λ y u=>?_,?_,g.lo.trans h.lo,g.ln.trans h.ln,λ e=>g.sa (h.sa e)⟩
 .rw[zi0,not_or]at u;rw[g.v y u.2,h.v y u.1]
 .rw[zi0,not_or]at u;rw[g.f y u.2,h.f y u.1]
 .by_cases e:y∈S
  .exact g.ft y e
  .rw[g.f y e];exact h.ft y ((zi0.1 u).resolve_right e)
 .by_cases e:y∈T
  .exact h.fr y e
  .rw[<-h.st y e];exact g.fr y ((zi0.1 u).resolve_left e)
 .by_cases e:y∈S
  .exact g.tk y e
  .rw[g.st y e];exact h.tk y ((zi0.1 u).resolve_right e)
 .rw[zi0,not_or]at u;rw[g.st y u.2,h.st y u.1]
 .have:=h.ct;have:=g.ct;rw[zf0];omega
def Ao(a:AS):Prop:=a.A.lo+a.A.L.length<=65536
def Ev.ao{a b:AS}{T:List Int}(h:Ev a b T)(o:Ao a):Ao b:=by unfold Ao;rw[h.lo,h.ln];exact o
def zby9{s:Ah.St}{x:Int}(h:Ah.stv s x≠-1):(s.lo:Int)<=x/\x<s.lo+s.L.length:=by
 unfold Ah.stv at h;split at h
 .assumption
 .exact absurd rfl h
def Ev.rng{a b:AS}{T:List Int}(h:Ev a b T)(o:Ao a){y:Int}(u:y∈T):0<=y/\y<=65535:=by have:=zby9 (s:=a.A) (x:=y) (by rw[h.fr y u];decide);unfold Ao at o;omega
def zen9(a:AS)(u:CH){n:Nd}(Y:mayN n=true):
 ((writeF a u n).e=10/\a.A.L.count 0=0/\(writeF a u n).a=a/\(writeF a u n).c=u)\/
 ((writeF a u n).e=0/\Ev a (writeF a u n).a [(writeF a u n).x]/\(writeF a u n).c={ u with tk:=u.tk++[(writeF a u n).x] }/\(writeF a u n).a.V (writeF a u n).x=(0,n)):=by
 unfold writeF;rw[if_pos Y];by_cases H:a.A.L.count 0=0
 .left;have I:Ah.take a.A=(0,false,a.A):=by unfold Ah.take;rw[if_pos H]
  rw[I];exact⟨rfl,H,rfl,rfl⟩
 .right;have I:Ah.take a.A=(((a.A.lo+a.A.L.idxOf 0:Nat):Int),true,⟨a.A.lo,a.A.L.set (a.A.L.idxOf 0) 1,a.A.as-1⟩):=by unfold Ah.take;rw[if_neg H]
  obtain⟨K,O,f3⟩:=Ah.first0 H;have hx:Ah.stv a.A ((a.A.lo+a.A.L.idxOf 0:Nat):Int)=0:=by unfold Ah.stv;rw[if_pos ⟨by omega,by omega⟩,show(((a.A.lo+a.A.L.idxOf 0:Nat):Int)-a.A.lo).toNat=a.A.L.idxOf 0 by omega];exact O
  have T:∀m,Ah.stv ⟨a.A.lo,a.A.L.set (a.A.L.idxOf 0) 1,a.A.as-1⟩ m=if m=((a.A.lo+a.A.L.idxOf 0:Nat):Int)then 1 else Ah.stv a.A m:=λ m=>Ah.stv_put (s:=⟨a.A.lo,a.A.L,a.A.as-1⟩) K 1 m;have Q:=Ah.cnt_set a.A.L (a.A.L.idxOf 0) K 0 1;rw[if_pos O]at Q;simp only[AS.wr,I,if_true];refine⟨by trivial,⟨λ y E=>zcj9 _ _ (λ e=>E (by simp[e])),λ y E=>zcj9 _ _ (λ e=>E (by simp[e])),λ y E=>by rw[List.mem_singleton.1 E];exact zck9 _ _ _,rfl,by simp,λ y E=>by rw[List.mem_singleton.1 E];exact hx,λ y E=>by rw[T,if_pos (List.mem_singleton.1 E)],λ y E=>by rw[T,if_neg (λ e=>E (by simp[e]))],?_,rfl,by simp,λ e=>by simp[e]⟩,by trivial,zck9 _ _ _⟩;simp at Q |-
  omega
section
variable {c h:Nat} {lo:ByteArray} {hi:Option ByteArray} {L:List E2} {B:List Int}
def zxs9{a:AS}(u:CH){ps:List Nd}(hp:Pts a.V c h ps lo hi L B)(hc:∀p∈ps,c<=p.ks.length)(a8:∀y∈B,Ah.stv a.A y=1)(k:ByteArray)(hk:k=lo):
 ∃T,Ev a (kidsF a u ps).a T/\(kidsF a u ps).c={ u with tk:=u.tk++T }/\T.length<=ps.length/\
  ((kidsF a u ps).e=10/\(kidsF a u ps).a.A.L.count 0=0/\T.length+1<=ps.length\/
   (kidsF a u ps).e=0/\(kidsF a u ps).xs=T/\T.length=ps.length/\(T.map (kidsF a u ps).a.V=ps.map λ p=>((0:Int),p))/\∃B',(∀y,B'.count y=B.count y+T.count y)/\Fo (Sub (kidsF a u ps).a.V c h) (keysF k ps) T hi L B'):=by
 subst hk;have nt:∀{b:AS} {T:List Int},Ev a b T->∀y∈B,y∉T:=λ g y I e=>by have:=g.fr y e;have:=a8 y I;omega
 cases hp with
 | zero=>exact⟨[],Ev.refl a,by simp[kidsF],by simp,.inr ⟨rfl,rfl,rfl,rfl,[],by simp,rfl,rfl⟩⟩
 | one K l1 s1 n1=>
  rename_i p;have hm:=K.may l1 s1;rcases zen9 a u hm with⟨e,c0,Q,E⟩|⟨e,H,E,ex⟩
  .refine⟨[],by simp only[kidsF,e,ne_eq];rw[if_pos (by decide)];simp only[Q];exact Ev.refl a,?_,by simp,.inl ⟨?_,?_,by simp⟩⟩;all_goals simp[kidsF,e,Q,E,c0]
  .have O:kidsF a u [p]=⟨0,[(writeF a u p).x],(writeF a u p).a,(writeF a u p).c⟩:=by simp[kidsF,e]
   rw[O];refine⟨[(writeF a u p).x],H,E,by simp,.inr ⟨rfl,rfl,rfl,by simp[ex],(writeF a u p).x::B,λ y=>by simp only[List.count_cons,List.count_nil];omega,?_⟩⟩;exact⟨L,[],(writeF a u p).x::B,[],⟨p,B,ex,K,hc p (by simp),s1,n1.congr (λ y I=>H.v y (nt H y I)),rfl⟩,⟨rfl,rfl⟩,by simp,by simp⟩
 | two K l1 s1 b2 l2 s2 n1 n2=>
  rename_i p q L1 L2 B1 B2;have a6:=K.may (by omega) s1;have a7:=b2.may (by omega) s2;rcases zen9 a u a6 with⟨e,c0,Q,E⟩|⟨e,H,E,ex⟩
  .refine⟨[],by simp only[kidsF,e,ne_eq];rw[if_pos (by decide)];simp only[Q];exact Ev.refl a,?_,by simp,.inl ⟨?_,?_,by simp⟩⟩;all_goals simp[kidsF,e,Q,E,c0]
  .generalize hw:writeF a u p=w1 at *
   rcases zen9 w1.a w1.c a7 with⟨e2,c2,a4,a1⟩|⟨e2,a0,a1,a2⟩
   .have O:kidsF a u [p,q]=⟨10,[w1.x],w1.a,w1.c⟩:=by simp[kidsF,hw,e,e2,a4,a1]
    rw[O];exact⟨[w1.x],H,E,by simp,.inl ⟨rfl,c2,by simp⟩⟩
   .generalize hw2:writeF w1.a w1.c q=w2 at *
    (have O:kidsF a u [p,q]=⟨0,[w1.x,w2.x],w2.a,w2.c⟩:=by simp[kidsF,hw,e,hw2,e2]);have Y:=H.trans a0;rw[O];have a3:w1.x∉[w2.x]:=λ h=>by have h1:=a0.fr w2.x (by simp);have h2:=H.tk w1.x (by simp);rw[List.mem_singleton.1 h]at h2;omega
    (have a5:w2.a.V w1.x=(0,p):=by rw[a0.v _ a3];exact ex);refine⟨[w1.x]++[w2.x],Y,by rw[a1,E];simp,by simp,.inr ⟨rfl,rfl,rfl,by simp[a5,a2],(w1.x::B1)++(w2.x::B2),λ y=>by simp only[List.count_append,List.count_cons,List.count_nil];omega,?_⟩⟩;refine⟨L1,L2,w1.x::B1,w2.x::B2,⟨p,B1,?_,K,hc p (by simp),s1,n1.congr (λ y I=>Y.v y (nt Y y (zf1 _ I))),rfl⟩,⟨L2,[],w2.x::B2,[],⟨q,B2,a2,b2,hc q (by simp),s2,n2.congr (λ y I=>Y.v y (nt Y y (zg1 _ I))),rfl⟩,⟨rfl,rfl⟩,by simp,by simp⟩,rfl,rfl⟩;show w2.a.V w1.x=_;rw[a0.v _ a3];exact ex
end
def zgi9{n:Nd}(u:n.lf=false)(key:ByteArray):∀K,(∀j,plc n key K<j->j<K->Kl key (kA n j))/\(plc n key K=0\/Ke (kA n (plc n key K)) key)/\(1<=K->plc n key K<K)
 | 0=>⟨λ j _ h=>by omega,.inl rfl,by omega⟩
 | K+1=>by
  obtain⟨A,E,H⟩:=zgi9 u key K;unfold plc;simp only[u,Bool.false_eq_true,if_false];split
  .rename_i e;refine⟨λ j a b=>by omega,.inr ?_,λ _=>by omega⟩;rw[Bool.or_eq_true]at e;rcases e with e|e
   .exact Kl.le e
   .rw[eqsP.1 e];exact Ke.refl _
  .rename_i e;rw[Bool.or_eq_true,not_or]at e;refine⟨λ j a b=>?_,E,λ _=>?_⟩
   .by_cases c:j=K
    .subst c;rcases k_tri (kA n j) key with t|t|t
     .exact absurd t e.1
     .exact absurd (eqsP.2 t) e.2
     .exact t
    .exact A j a (by omega)
   .by_cases c:1<=K
    .have:=H c;omega
    .have:K=0:=by omega
     subst this;simp[plc]
def zom9{n:Nd}(u:n.lf=true)(key:ByteArray):∀K,(∀j,plc n key K<=j->j<K->Ke key (kA n j))/\(plc n key K=0\/Kl (kA n (plc n key K-1)) key)
 | 0=>⟨λ j _ h=>by omega,.inl rfl⟩
 | K+1=>by
  obtain⟨A,E⟩:=zom9 u key K;unfold plc;simp only[u,if_true];split
  .rename_i e;exact⟨λ j a b=>by omega,.inr e⟩
  .rename_i e;refine⟨λ j a b=>?_,E⟩;by_cases c:j=K
   .subst c;show lts _ _=false;simpa using e
   .exact A j a (by omega)
def cut_at{α:Type}(d:α)(l:List α){i:Nat}(h:i<l.length):∃u A,l=u++l.getD i d::A/\u.length=i:=
 ⟨l.take i,l.drop (i+1),by rw[zn3,zc0 h];simp[List.getElem_cons_drop],by simp;omega⟩
def znc9{α:Type}(d:α)(u A:List α)(x:α):(u++x::A).getD u.length d=x:=by simp[zn3]
structure LfOk(d:CD)(op:List E2->List E2):Prop where
 loc:∀L1 L L2:List E2,(∀e∈L1,Kl e.1 d.key)->(∀e∈L2,Kl d.key e.1)->op (L1++(L++L2))=L1++(op L++L2)
 key:d.key.size<=24
 lf:∀n lo hi,n.lf=true->Bm n->sz n<=240->Rg lo hi n.ks->Ke lo d.key->Lh d.key hi->
  (d.lf n).lf=true/\Bm (d.lf n)/\sz (d.lf n)<=sz n+50/\Rg lo hi (d.lf n).ks/\(d.lf n).ks.zip (d.lf n).vs=op (n.ks.zip n.vs)/\(d.jn=false->n.ks.length<=(d.lf n).ks.length/\1<=(d.lf n).ks.length)/\(d.jn=true->sz (d.lf n)<=sz n)
def Pts.ks{V:Int->Int×Nd}{c h:Nat}{ps:List Nd}{lo:ByteArray}{hi:Option ByteArray}{L:List E2}{B:List Int}(u:Pts V c h ps lo hi L B):ps.length<=2/\∀p∈ps,Bm p/\1<=p.ks.length/\sz p<=240:=by
 cases u with
 | zero=>exact⟨by simp,λ p u=>by cases u⟩
 | one A H E K=>exact⟨by simp,λ p u=>by rw[List.mem_singleton.1 u];exact⟨A,H,E⟩⟩
 | two A H E I Q O K T=>
  refine⟨by simp,λ p u=>?_⟩;rcases List.mem_cons.1 u with e|e
  .rw[e];exact⟨A,by omega,E⟩
  .rw[List.mem_singleton.1 e];exact⟨I,by omega,O⟩
def Nod.rg{V:Int->Int×Nd}{c h:Nat}{n:Nd}{lo:ByteArray}{hi:Option ByteArray}{L:List E2}{B:List Int}(H:Nod V c h n lo hi L B):Rg lo hi n.ks:=by
 cases h with
 | zero=>exact H.2.1
 | succ h=>exact H.2.1
def Pts.keys{V:Int->Int×Nd}{c h:Nat}{ps:List Nd}{lo:ByteArray}{hi:Option ByteArray}{L:List E2}{B:List Int}(hp:Pts V c h ps lo hi L B)(K:Lh lo hi)(I:lo.size<=24):
 (keysF lo ps).length=ps.length/\(keysF lo ps).Pairwise Kl/\(∀k∈keysF lo ps,Ke lo k/\Lh k hi/\k.size<=24)/\kSum (keysF lo ps)<=lo.size+24*(ps.length-1)/\nxt (keysF lo ps) hi=(if ps=[]then hi else some lo):=by
 cases hp with
 | zero=>exact⟨rfl,List.Pairwise.nil,λ k u=>(by cases u),by simp[keysF,kSum],rfl⟩
 | one T l1 s1 E=>refine⟨rfl,by simp[keysF],λ k u=>?_,by simp[keysF,kSum],rfl⟩;rw[List.mem_singleton.1 u];exact⟨Ke.refl _,K,I⟩
 | two T l1 s1 H l2 s2 E n2=>
  rename_i p q L1 L2 B1 B2;have A:kA q 0∈q.ks:=zan9 (by omega);have Q:kA p 0∈p.ks:=zan9 (by omega);have O:=(E.rg _ Q).1.trans_lt ((E.rg _ Q).2 _ rfl);refine⟨rfl,?_,λ k u=>?_,?_,rfl⟩
  .show[lo,kA q 0].Pairwise Kl;refine List.pairwise_cons.2 ⟨λ k u=>?_,by simp⟩;rw[List.mem_singleton.1 u];exact O
  .have Y:=u;rcases List.mem_cons.1 Y with e|e
   .rw[e];exact⟨Ke.refl _,K,I⟩
   .rw[List.mem_singleton.1 e];exact⟨O.le,(n2.rg _ A).2,H.ks _ A⟩
  .show kSum [lo,kA q 0]<=_;have:=H.ks _ A;simp only[zaj9,zif9,zk0,List.length_nil];omega
def Fo.blkl{P:Int->ByteArray->Option ByteArray->List E2->List Int->Prop}{m:Nat}(u:∀x k hi L B,P x k hi L B->m<=B.length):∀{ks xs hi L B},Fo P ks xs hi L B->m*ks.length<=B.length
 | [],[],_,_,_,_=>by simp
 | _::ks,_::_,_,_,_,⟨L1,L2,B1,B2,p,q,rfl,rfl⟩=>by have:=u _ _ _ _ _ p;have:=Fo.blkl u q;rw[zk0,Nat.mul_succ,zf0];omega
 | [],_::_,_,_,_,h=>h.elim
 | _::_,[],_,_,_,h=>h.elim
def Sub.blkl{V:Int->Int×Nd}{c h:Nat}(Q:1<=c)(H:∀{n lo hi L B},Nod V c h n lo hi L B->h*n.ks.length<=B.length):∀x k hi L B,Sub V c h x k hi L B->h+1<=B.length:=by rintro x k hi L B ⟨m,A,E,I,K,O,u,rfl⟩;have:=H u;have:h*1<=h*m.ks.length:=Nat.mul_le_mul_left _ (by omega);rw[zk0];omega
def Nod.blkl{V:Int->Int×Nd}{c:Nat}(u:1<=c):∀{h n lo hi L B},Nod V c h n lo hi L B->h*n.ks.length<=B.length
 | 0,_,_,_,_,_,_=>by simp
 | h+1,_,_,_,_,_,⟨h1,h2,h3⟩=>Fo.blkl (Sub.blkl u (fun{n lo hi L B} q=>Nod.blkl u q)) h3
def nw(V:Int->Int×Nd):Nat->Nd->Nat
 | 0,_=>1
 | j+1,n=>(n.kd.map λ x=>nw V j (V x).2).sum
def xsum(V:Int->Int×Nd)(j:Nat)(xs:List Int):Nat:=(xs.map λ x=>nw V j (V x).2).sum
def wsum(V:Int->Int×Nd)(j:Nat)(ps:List Nd):Nat:=(ps.map (nw V j)).sum
theorem zcf9(V:Int->Int×Nd)(j:Nat)(n:Nd):nw V (j+1) n=xsum V j n.kd:=rfl
def zcw9(V:Int->Int×Nd)(j:Nat)(xs ys:List Int):xsum V j (xs++ys)=xsum V j xs+xsum V j ys:=by simp[xsum]
def zt9(V:Int->Int×Nd)(j:Nat)(x:Int)(ys:List Int):xsum V j (x::ys)=nw V j (V x).2+xsum V j ys:=by simp[xsum]
def zdh9(V:Int->Int×Nd):∀ps,wsum V 0 ps=ps.length
 | []=>rfl
 | p::ps=>by have:=zdh9 V ps;simp only[wsum,List.map_cons,List.sum_cons,nw,zk0]at this |-;omega
def zgq9(V:Int->Int×Nd):∀xs,xsum V 0 xs=xs.length
 | []=>rfl
 | p::ps=>by have:=zgq9 V ps;rw[zt9];simp only[nw,zk0];omega
section
variable {V V':Int->Int×Nd} {c:Nat}
def Fo.xcongr{h j:Nat}(A:∀{n lo hi L B},Nod V c h n lo hi L B->(∀y∈B,V' y=V y)->nw V' j n=nw V j n):∀{ks xs hi L B},Fo (Sub V c h) ks xs hi L B->(∀y∈B,V' y=V y)->xsum V' j xs=xsum V j xs
 | [],[],_,_,_,_,_=>rfl
 | _::ks,x::xs,_,_,_,⟨L1,L2,B1,B2,p,q,rfl,rfl⟩,hv=>by obtain⟨m,Q,E,T,Y,a4,H,rfl⟩:=p;have I:=Fo.xcongr A q (λ y u=>hv y (by simp[u]));have K:=A H (λ y u=>hv y (by simp[u]));have O:=hv x (by simp);rw[zt9,zt9,I,O,E];show nw V' j m+_=nw V j m+_;rw[K]
 | [],_::_,_,_,_,h,_=>h.elim
 | _::_,[],_,_,_,h,_=>h.elim
def Nod.wcongr:∀{h j n lo hi L B},j<=h->Nod V c h n lo hi L B->(∀y∈B,V' y=V y)->nw V' j n=nw V j n
 | _,0,_,_,_,_,_,_,_,_=>rfl
 | 0,_+1,_,_,_,_,_,e,_,_=>by omega
 | h+1,j+1,_,_,_,_,_,e,⟨_,_,h3⟩,hv=>Fo.xcongr (λ q w=>Nod.wcongr (by omega) q w) h3 hv
def Fo.xmono{h j:Nat}(u:∀{n lo hi L B},Nod V c h n lo hi L B->Bm n->c<=n.ks.length->nw V j n<=nw V (j+1) n):∀{ks xs hi L B},Fo (Sub V c h) ks xs hi L B->xsum V j xs<=xsum V (j+1) xs
 | [],[],_,_,_,_=>zn6 _
 | _::ks,x::xs,_,_,_,⟨L1,L2,B1,B2,p,q,rfl,rfl⟩=>by obtain⟨m,K,A,E,H,O,I,rfl⟩:=p;have Q:=Fo.xmono u q;have T:=u I E H;rw[zt9,zt9,A];show nw V j m+_<=nw V (j+1) m+_;omega
 | [],_::_,_,_,_,h=>h.elim
 | _::_,[],_,_,_,h=>h.elim
def Nod.wmono(u:1<=c):∀{h j n lo hi L B},j<h->Nod V c h n lo hi L B->Bm n->1<=n.ks.length->nw V j n<=nw V (j+1) n
 | 0,_,_,_,_,_,_,e,_,_,_=>by omega
 | h+1,0,n,_,_,_,_,_,⟨h1,_,h3⟩,hb,hl=>by rw[zcf9,zgq9,(hb.inn h1).1];exact hl
 | h+1,j+1,_,_,_,_,_,e,⟨_,_,h3⟩,_,_=>Fo.xmono (λ q b l=>Nod.wmono u (by omega) q b (by omega)) h3
def Fo.xblk{h j:Nat}(u:∀{n lo hi L B},Nod V c h n lo hi L B->c<=n.ks.length->(h-j+1)*nw V j n+j<=B.length+1):∀{ks xs hi L B},Fo (Sub V c h) ks xs hi L B->(h-j+1)*xsum V j xs+j*xs.length<=B.length
 | [],[],_,_,_,⟨rfl,rfl⟩=>by simp[xsum]
 | _::ks,x::xs,_,_,_,⟨L1,L2,B1,B2,p,q,rfl,rfl⟩=>by obtain⟨m,I,A,K,E,O,H,rfl⟩:=p;have Q:=Fo.xblk u q;have T:=u H E;rw[zt9,A,zk0,zf0,zk0,Nat.mul_add,Nat.mul_succ];show(h-j+1)*nw V j m+_+_<=_;omega
 | [],_::_,_,_,_,h=>h.elim
 | _::_,[],_,_,_,h=>h.elim
def Nod.wblk(u:1<=c):∀{h j n lo hi L B},j<=h->Nod V c h n lo hi L B->1<=n.ks.length->(h-j+1)*nw V j n+j<=B.length+1
 | h,0,n,_,_,_,B,_,H,hl=>by have:=H.blkl u;have A:h*1<=h*n.ks.length:=Nat.mul_le_mul_left _ hl;simp only[nw];omega
 | 0,_+1,_,_,_,_,_,e,_,_=>by omega
 | h+1,j+1,n,_,_,_,B,e,⟨_,_,h3⟩,hl=>by have E:=Fo.xblk (h:=h) (j:=j) (λ q l=>Nod.wblk u (by omega) q (by omega)) h3;have I:=h3.len;have K:j*1<=j*n.kd.length:=Nat.mul_le_mul_left _ (by omega);rw[zcf9,show h+1-(j+1)=h-j by omega];omega
def Pts.wcongr{h j:Nat}{ps:List Nd}{lo:ByteArray}{hi:Option ByteArray}{L:List E2}{B:List Int}(H:Pts V c h ps lo hi L B)(hj:j<=h)(hv:∀y∈B,V' y=V y):wsum V' j ps=wsum V j ps:=by
 cases H with
 | zero=>rfl
 | one E I O A=>simp only[wsum,List.map_cons,List.map_nil];rw[A.wcongr hj hv]
 | two E I O Q T Y A K=>simp only[wsum,List.map_cons,List.map_nil];rw[A.wcongr hj (λ y u=>hv y (by simp[u])),K.wcongr hj (λ y u=>hv y (by simp[u]))]
def xs_map{j:Nat}{xs:List Int}{ps:List Nd}(h:xs.map V=ps.map λ p=>((0:Int),p)):xsum V j xs=wsum V j ps:=by
 have e:(xs.map λ x=>nw V j (V x).2)=(xs.map V).map λ q=>nw V j q.2:=by rw[List.map_map];rfl
 unfold xsum wsum;rw[e,h,List.map_map];rfl
end
section
variable {c h:Nat} {lo kx:ByteArray} {hi:Option ByteArray} {LA Lm LC:List E2} {BA Bp BC:List Int} {KA KW KC:List ByteArray} {DA DW DC:List Int}
def window{a:AS}(u:CH){n1:Nd}{ps:List Nd}(Y:n1.lf=false)(hb:Bm n1)(H:n1.ks=KA++(kx::KW++KC))(a4:n1.kd=DA++(DW++DC))(l1:KA.length=DA.length)(l2:DW.length=KW.length+1)
 (fA:Fo (Sub a.V c h) KA DA (some kx) LA BA) (fC:Fo (Sub a.V c h) KC DC hi LC BC) (hp:Pts a.V c h ps kx (nxt KC hi) Lm Bp) (hc:∀p∈ps,c<=p.ks.length) (hr:Rg lo hi n1.ks) (ho:Ao a)
 (aa:∀y∈BA++(Bp++BC),Ah.stv a.A y=1) {i j:Nat} (a3:i=KA.length) (hj:j=KA.length+KW.length+1):
 ∃T,Ev a (replaceF a u n1 i j ps).a T/\(replaceF a u n1 i j ps).c={ u with tk:=u.tk++T }/\T.length<=ps.length/\
  ((replaceF a u n1 i j ps).e=10/\(replaceF a u n1 i j ps).a.A.L.count 0=0/\T.length+1<=ps.length\/
   (replaceF a u n1 i j ps).e=0/\Bm (replaceF a u n1 i j ps).n/\sz (replaceF a u n1 i j ps).n<=sz n1+27/\(ps.length<=1->sz (replaceF a u n1 i j ps).n<=sz n1)/\(replaceF a u n1 i j ps).n.ks.length+KW.length+1=n1.ks.length+ps.length/\T.length=ps.length/\
   (∀k,k<=h->nw (replaceF a u n1 i j ps).a.V (k+1) (replaceF a u n1 i j ps).n=xsum a.V k DA+wsum a.V k ps+xsum a.V k DC)/\
   ∃O,(∀y,O.count y=BA.count y+Bp.count y+BC.count y+T.count y)/\Nod (replaceF a u n1 i j ps).a.V c (h+1) (replaceF a u n1 i j ps).n lo hi (LA++(Lm++LC)) O):=by
 have a5:kA n1 i=kx:=by unfold kA;rw[H,a3];exact znc9 _ _ _ _
 obtain⟨T,ev,ec,tl,hT⟩:=zxs9 u hp hc (λ y E=>aa y (by simp[E])) (kA n1 i) a5;have mx:kx∈n1.ks:=by rw[H];simp
 have up:=hb.up;rw[H]at up;obtain⟨uA,uX,ac⟩:=List.pairwise_append.1 up;have ag:=uX;obtain⟨uW,uC,af⟩:=List.pairwise_append.1 ag;have ab:Lh kx (nxt KC hi):=by
  cases KC with
  | nil=>exact(hr kx mx).2
  | cons k K=>intro b a0;cases a0;exact af kx (by simp) k (by simp)
 obtain⟨k1,k2,k3,k4,k5⟩:=hp.keys ab (hb.ks _ mx);have nt:∀y∈BA++(Bp++BC),y∉T:=λ y E e=>by have:=ev.fr y e;have:=aa y E;omega
 rcases hT with⟨e,c0,a2⟩|⟨e,xs,a2,ae,O,hB,fo⟩
 .have e0:replaceF a u n1 i j ps=⟨10,noneN,(kidsF a u ps).a,(kidsF a u ps).c⟩:=by simp[replaceF,e]
  rw[e0];exact⟨T,ev,ec,tl,.inl ⟨rfl,c0,a2⟩⟩
 .have Q:(zai9 n1 i j (keysF kx ps) T).ks=KA++(keysF kx ps++KC):=by show n1.ks.take i++(keysF kx ps++n1.ks.drop j)=_;rw[H,a3,hj,List.take_left];congr 2;rw[show KA.length+KW.length+1=KA.length+(KW.length+1) by omega,<-ze1,List.drop_left];show(KW++KC).drop KW.length=KC;exact List.drop_left
  have a1:(zai9 n1 i j (keysF kx ps) T).kd=DA++(T++DC):=by show n1.kd.take i++(T++n1.kd.drop j)=_;rw[a4,a3,hj,l1,List.take_left];congr 2;rw[show DA.length+KW.length+1=DA.length+DW.length by omega,<-ze1,List.drop_left,List.drop_left]
  have e0:replaceF a u n1 i j ps=⟨0,zai9 n1 i j (keysF kx ps) T,(kidsF a u ps).a,(kidsF a u ps).c⟩:=by simp[replaceF,e,xs,a5]
  rw[a5]at fo;rw[e0];obtain⟨q1,q2,q3⟩:=hb.inn Y;have lC:=fC.len;have hN:Hle (nxt KC hi) hi:=by
   cases KC with
   | nil=>exact Hle.refl _
   | cons k K=>intro b a0;exact⟨k,rfl,((hr k (by rw[H];simp)).2 b a0).le⟩
  have a7:Bm (zai9 n1 i j (keysF kx ps) T):={
   ks:=λ k I=>by
    rw[Q]at I;rcases zi0.1 I with e|e
    .exact hb.ks k (by rw[H];simp[e])
    .rcases zi0.1 e with e|e
     .exact(k3 k e).2.2
     .exact hb.ks k (by rw[H];simp[e])
   up:=by
    rw[Q];refine List.pairwise_append.2 ⟨uA,List.pairwise_append.2 ⟨k2,uC,λ x hx y E=>?_⟩,λ x hx y E=>?_⟩
    .have:=(k3 x hx).2.1;cases KC with
     | nil=>cases E
     | cons k K=>
      have h1:=this k rfl;rcases List.mem_cons.1 E with e|e
      .rw[e];exact h1
      .exact h1.trans ((List.pairwise_cons.1 uC).1 y e)
    .rcases zi0.1 E with e|e
     .exact(ac x hx kx (by simp)).trans_le (k3 y e).1
     .exact ac x hx y (by simp[e])
   ne:=λ e=>by have:n1.lf=true:=e;rw[Y]at this;cases this
   lf:=λ e=>by have:n1.lf=true:=e;rw[Y]at this;cases this
   inn:=λ _=>by
    refine⟨by rw[Q,a1];simp only[zf0];omega,q2,λ x hx=>?_⟩;rw[a1]at hx;rcases zi0.1 hx with e|e
    .exact q3 x (by rw[a4];simp[e])
    .rcases zi0.1 e with e|e
     .exact ev.rng ho e
     .exact q3 x (by rw[a4];simp[e]) }
  have a9:sz (zai9 n1 i j (keysF kx ps) T)=1+(kSum KA+(kSum (keysF kx ps)+kSum KC)+3*(KA.length+(ps.length+KC.length))):=by rw[zbh9 (by exact Y) (a7.inn Y).1,Q];simp only[zao9,zf0,k1]
  have a8:sz n1=1+(kSum KA+(kx.size+kSum KW+kSum KC)+3*(KA.length+(KW.length+1+KC.length))):=by rw[zbh9 Y q1,H];simp only[zao9,zaj9,zf0,zk0,List.cons_append];omega
  have ah:=hp.ks.1;refine⟨T,ev,ec,tl,.inr ⟨rfl,a7,by rw[a9,a8];omega,λ h1=>by rw[a9,a8];omega,?_,a2,?_,BA++(O++BC),λ y=>by rw[List.count_append,List.count_append,hB];omega,Y,?_,?_⟩⟩
  .rw[Q,H];simp only[zf0,zk0,List.cons_append,k1];omega
  .intro k I;show nw (kidsF a u ps).a.V (k+1) (zai9 n1 i j (keysF kx ps) T)=_;have vA:∀y∈BA++(Bp++BC),(kidsF a u ps).a.V y=a.V y:=λ y E=>ev.v y (nt y E);rw[zcf9,a1,zcw9,zcw9,xs_map ae,hp.wcongr I (λ y E=>vA y (by simp[E])),Fo.xcongr (λ q w=>Nod.wcongr I q w) fA (λ y E=>vA y (by simp[E])),Fo.xcongr (λ q w=>Nod.wcongr I q w) fC (λ y E=>vA y (by simp[E]))];omega
  .show Rg lo hi (zai9 n1 i j (keysF kx ps) T).ks;rw[Q];intro k I;rcases zi0.1 I with e|e
   .exact hr k (by rw[H];simp[e])
   .rcases zi0.1 e with e|e
    .exact⟨(hr kx mx).1.trans (k3 k e).1,(k3 k e).2.1.mono hN⟩
    .exact hr k (by rw[H];simp[e])
  .show Fo (Sub (kidsF a u ps).a.V c h) (zai9 n1 i j (keysF kx ps) T).ks (zai9 n1 i j (keysF kx ps) T).kd hi (LA++(Lm++LC)) (BA++(O++BC));rw[Q,a1];have vA:∀y∈BA++(Bp++BC),(kidsF a u ps).a.V y=a.V y:=λ y E=>ev.v y (nt y E);have a6:=fA.congr (P':=Sub (kidsF a u ps).a.V c h) (λ x k hi L B1 p q=>p.congr (λ y E=>vA y (by simp[q y E])));have ad:=fC.congr (P':=Sub (kidsF a u ps).a.V c h) (λ x k hi L B1 p q=>p.congr (λ y E=>vA y (by simp[q y E])));refine(Fo.app l1).2 ⟨LA,Lm++LC,BA,O++BC,?_,(Fo.app (by rw[k1,a2])).2 ⟨Lm,LC,O,BC,fo,ad,rfl,rfl⟩,rfl,rfl⟩;rw[zoj9,k5];split
   .refine Fo.mono (P:=Sub (kidsF a u ps).a.V c h) (hi:=some kx) ?_ (λ x k hi hj L B hh s=>Sub.mono hh s) a6;intro b a0;exact⟨kx,rfl,(ab b a0).le⟩
   .exact a6
end
def zcr9{V:Int->Int×Nd}{n:Nd}(h:Bm n)(u:n.lf=false)(I:sz n<=292)(j:Nat):wsum V (j+1) (piecesF n)=nw V (j+1) n:=by
 have K:=(h.inn u).1;by_cases H:n.ks.length=0
 .have:piecesF n=[]:=by unfold piecesF;rw[if_pos H]
  rw[this,zcf9,zh0 (by omega:n.kd.length=0)];rfl
 .rcases zgf9 h (by omega) I with⟨e,_⟩|⟨_,m,e,_,m2,_,_⟩
  .rw[e];simp[wsum]
  .rw[e];(have A:(takeN n m).kd=n.kd.take m:=by unfold takeN;simp[u]);(have E:(dropN n m).kd=n.kd.drop m:=by unfold dropN;simp[u]);simp only[wsum,List.map_cons,List.map_nil,List.sum_cons,List.sum_nil,zcf9,A,E];rw[Nat.add_zero,<-zcw9,zx0]
def Wk(j:Bool)(h:Nat)(V V':Int->Int×Nd)(n:Nd)(ps:List Nd):Prop:=
 ∀i,i<h->wsum V' i ps<=nw V i n\/j=false/\wsum V' i ps=nw V i n+1/\nw V i n+8<=wsum V' (i+1) ps
def wk_up{j:Bool}{h:Nat}{V V':Int->Int×Nd}{n m:Nd}(u:Bm m)(E:sz m<=292)(A:m.lf=false)(H:j=true->(piecesF m).length<=1)
 (K:∀i,i<h->nw V' (i+1) m<=nw V (i+1) n\/j=false/\nw V' (i+1) m=nw V (i+1) n+1/\nw V (i+1) n+8<=nw V' (i+2) m):Wk j (h+1) V V' n (piecesF m):=by
 intro i hi;cases i with
 | zero=>
  rw[zdh9];show(piecesF m).length<=1\/j=false/\(piecesF m).length=1+1/\1+8<=wsum V' 1 (piecesF m);rw[zcr9 u A E 0,zcf9,zgq9,(u.inn A).1];by_cases I:m.ks.length=0
  .have:piecesF m=[]:=by unfold piecesF;rw[if_pos I]
   rw[this];exact .inl (by simp)
  .rcases zgf9 u (by omega) E with⟨e,_⟩|⟨q,k,e,_,_,_,_⟩
   .rw[e];exact .inl (by simp)
   .right;cases hj:j with
    | true=>have:=H hj;rw[e]at this;simp at this
    | false=>rw[e];rw[zbh9 A (u.inn A).1]at q;have:=zjo9 u.ks;exact⟨rfl,rfl,by omega⟩
 | succ i=>rw[zcr9 u A E i,zcr9 u A E (i+1)];exact K i (by omega)
