import Derived.Test.YtcmjlibndmneiaaGreatPTChg
import Derived.Test.YtcmjlibndmneiaaGreatPTRepQ
set_option maxRecDepth 100000
set_option linter.all false
set_option maxHeartbeats 8000000
namespace Go.Proofs.YtcmjlibndmneiaaGreat
open Go.RowKit Go.Maps Pl
noncomputable def kidsUp(a:AS)(c:CH)(ps:List Nd):Nat->KR
 | 0=>⟨0,[],a,c⟩
 | k+1=>if (kidsUp a c ps k).e≠0 then kidsUp a c ps k else
  if (writeF (kidsUp a c ps k).a (kidsUp a c ps k).c (ps.getD k noneN)).e≠0 then⟨(writeF (kidsUp a c ps k).a (kidsUp a c ps k).c (ps.getD k noneN)).e,[],(writeF (kidsUp a c ps k).a (kidsUp a c ps k).c (ps.getD k noneN)).a,(writeF (kidsUp a c ps k).a (kidsUp a c ps k).c (ps.getD k noneN)).c⟩else
  ⟨0,(kidsUp a c ps k).xs++[(writeF (kidsUp a c ps k).a (kidsUp a c ps k).c (ps.getD k noneN)).x],(writeF (kidsUp a c ps k).a (kidsUp a c ps k).c (ps.getD k noneN)).a,(writeF (kidsUp a c ps k).a (kidsUp a c ps k).c (ps.getD k noneN)).c⟩
def znv9{a:AS}{c:CH}{ps:List Nd}{k:Nat}(h:(kidsUp a c ps k).e≠0)(j:Nat)(hj:k<=j):kidsUp a c ps j=kidsUp a c ps k:=by
 induction j with
 | zero => have : k = 0 := by omega
           subst this;rfl
 | succ j u=>
  by_cases e:k=j+1
  .rw[e]
  .have:=u (by omega);rw[kidsUp,this,if_pos h]
def zds9{a:AS}{c:CH}{ps:List Nd}(h:ps.length<=2):(kidsUp a c ps ps.length).e=(kidsF a c ps).e/\(kidsUp a c ps ps.length).a=(kidsF a c ps).a/\(kidsUp a c ps ps.length).c=(kidsF a c ps).c/\((kidsF a c ps).e=0->(kidsUp a c ps ps.length).xs=(kidsF a c ps).xs):=by
 match ps,h with
 | [],_=>exact⟨rfl,rfl,rfl,λ _=>rfl⟩
 | [p],_=>
  simp only[zk0,List.length_nil,kidsUp,kidsF,List.getD_cons_zero,ne_eq,not_true_eq_false,if_false];by_cases e:(writeF a c p).e=0
  .simp[e]
  .simp[e]
 | [p,q],_=>
  simp only[zk0,List.length_nil,kidsUp,kidsF,List.getD_cons_zero,List.getD_cons_succ,ne_eq,not_true_eq_false,if_false];by_cases e:(writeF a c p).e=0
  .simp only[e,not_true_eq_false,if_false];by_cases u:(writeF (writeF a c p).a (writeF a c p).c q).e=0
   .simp[u]
   .simp[u]
  .simp[e]
def keysUp(key:ByteArray)(ps:List Nd)(k:Nat):List ByteArray:=(keysF key ps).take k
def zlf9(key:ByteArray)(ps:List Nd){k:Nat}(u:k<ps.length):keysUp key ps (k+1)=keysUp key ps k++[if k=0 then key else kA (ps.getD k noneN) 0]:=by
 unfold keysUp;cases ps with
 | nil=>simp at u
 | cons p r=>
  rw[List.take_add_one];congr 1;cases k with
  | zero=>rfl
  | succ k=>(have A:k<r.length:=by simpa using u);simp[keysF,A]
def zfx9(key:ByteArray)(ps:List Nd):(keysF key ps).length=ps.length:=by cases ps<;>simp[keysF]
def znu9(key:ByteArray)(ps:List Nd):keysUp key ps ps.length=keysF key ps:=zn5 (by rw[zfx9];exact zn6 _)
def Ps.at{Z:Nat->Prop}{w:World}{v:Value}{ps:List Nd}(h:Ps Z w v ps){k:Nat}(A:k<ps.length):
 ∃b u1 u2 u3,v=.slice (some ⟨b,0,none⟩) ps.length ps.length/\(w.cell? ⟨b,k*4,none⟩=some (.bool (ps.getD k noneN).lf)/\w.cell? ⟨b,k*4+1,none⟩=some u1/\w.cell? ⟨b,k*4+2,none⟩=some u2/\w.cell? ⟨b,k*4+3,none⟩=some u3)/\Nn w (ps.getD k noneN) u1 u2 u3/\(∀j,(u1.ownBlock=some j\/u2.ownBlock=some j\/u3.ownBlock=some j)->Z j)/\Z b:=by
 match ps,h,k,A with
 | [n],⟨b,u1,u2,u3,h1,h2,h3,h4,h5⟩,0,_=>have u:=λ i=>cell_of_row w b i _ _ (0,0) h2;exact⟨b,u1,u2,u3,h1,⟨by rw[u];rfl,by rw[u];rfl,by rw[u];rfl,by rw[u];rfl⟩,h3,h5,h4⟩
 | [n,m],⟨b,u1,u2,u3,x1,x2,x3,h1,h2,h3,h3',h4,h5,h6⟩,0,_=>have u:=λ i=>cell_of_row w b i _ _ (0,0) h2;exact⟨b,u1,u2,u3,h1,⟨by rw[u];rfl,by rw[u];rfl,by rw[u];rfl,by rw[u];rfl⟩,h3,h5,h4⟩
 | [n,m],⟨b,u1,u2,u3,x1,x2,x3,h1,h2,h3,h3',h4,h5,h6⟩,1,_=>have u:=λ i=>cell_of_row w b i _ _ (0,0) h2;exact⟨b,x1,x2,x3,h1,⟨by rw[u];rfl,by rw[u];rfl,by rw[u];rfl,by rw[u];rfl⟩,h3',h6,h4⟩
def zdg9(a:AS)(c:CH)(n:Nd):(writeF a c n).c.tk.length<=c.tk.length+1/\(writeF a c n).c.gn=c.gn/\(writeF a c n).c.lv=c.lv:=by
 unfold writeF;split
 .split
  .simp
  .exact⟨by simp,rfl,rfl⟩
 .exact⟨by simp,rfl,rfl⟩
def zrf9(a:AS)(c:CH)(ps:List Nd)(k:Nat):(kidsUp a c ps k).c.tk.length<=c.tk.length+k/\(kidsUp a c ps k).c.gn=c.gn/\(kidsUp a c ps k).c.lv=c.lv:=by
 induction k with
 | zero=>exact⟨by simp[kidsUp],rfl,rfl⟩
 | succ k u=>
  have A:=zdg9 (kidsUp a c ps k).a (kidsUp a c ps k).c (ps.getD k noneN);simp only[kidsUp];split
  .exact⟨by omega,u.2⟩
  .split
   .exact⟨by simp only;omega,A.2.1.trans u.2.1,A.2.2.trans u.2.2⟩
   .exact⟨by simp only;omega,A.2.1.trans u.2.1,A.2.2.trans u.2.2⟩
def zpz9{a:AS}{c:CH}{n:Nd}(h:(writeF a c n).e=0):mayN n=true:=by
 unfold writeF at h;by_cases u:mayN n=true
 .exact u
 .rw[if_neg u]at h;simp at h
def Ap3(H:Nat->Prop)(v1 v2 v3:Value):Prop:=∀j,(v1.ownBlock=some j\/v2.ownBlock=some j\/v3.ownBlock=some j)->¬H j
def RplT(H:Nat->Prop)(w:World)(t cc d M N:Nat)(b:CB)(u1 u2 u3:Value)(r:NR)(e:Ending)(w':World):Prop:=
 ∃H' x1 x2 x3,e=.returned (.tuple #[nod r.n.lf x1 x2 x3,.int .i64 r.e])/\Gz H' w' t cc d M N r.a b r.c/\Tch (λ k=>H k\/u1.ownBlock=some k\/u3.ownBlock=some k) w w'/\(∀k,H' k->H k\/w.heap.size<=k)/\Nn w' r.n x1 x2 x3/\
  (∀j,(x1.ownBlock=some j\/x2.ownBlock=some j\/x3.ownBlock=some j)->(u1.ownBlock=some j\/u2.ownBlock=some j\/u3.ownBlock=some j\/w.heap.size<=j)/\¬H' j/\j<w'.heap.size)
structure RpI(H:Nat->Prop)(w1:World)(t cc d M N:Nat)(a:AS)(b:CB)(c:CH)(ps:List Nd)(key:ByteArray)(k:Nat)(vk vd:Value)(wr:World)(H':Nat->Prop):Prop where
 gz:Gz H' wr t cc d M N (kidsUp a c ps k).a b (kidsUp a c ps k).c
 tc:Tch H w1 wr
 hh:∀j,H' j->H j\/w1.heap.size<=j
 ok:(kidsUp a c ps k).e=0
 ks:OwV w1.heap.size 9 wr vk (strs (keysUp key ps k))
 kd:OwV w1.heap.size 3 wr vd (nums (kidsUp a c ps k).xs)
 ak:∀j,vk.ownBlock=some j->¬H' j
 ad:∀j,vd.ownBlock=some j->¬H' j
def zjq9(a:AS)(c:CH)(ps:List Nd)(k:Nat):(kidsUp a c ps k).xs.length<=k:=by
 induction k with
 | zero=>simp[kidsUp]
 | succ k u=>
  simp only[kidsUp];split
  .omega
  .split
   .simp
   .simp;omega
section
variable {H:Nat->Prop} {t cc d M N:Nat} {a:AS} {b:CB} {c:CH}
def zar9(n:Nd)(u1 u2 u3 v:Value)(i j:Nat)(ps:List Nd)(Z:Nat->Prop)(w:World)(G:Gz H w t cc d M N a b c)(hk:OwV 0 9 w u1 (strs n.ks))(hv:RdV w u2 (strs n.vs))(hd:OwV 0 3 w u3 (nums n.kd))(ha:Ap3 H u1 u2 u3)(aa:∀k,u2.ownBlock=some k->u1.ownBlock≠some k/\u3.ownBlock≠some k)(bh:∀k,u2.ownBlock=some k->k<w.heap.size)
 (hP:Ps Z w v ps) (hZ:∀k,Z k->¬H k) (a0:i<j) (hj:j<=n.ks.length) (c6:j<=n.kd.length) (hn:n.ks.length<=1000/\n.kd.length<=1000) (hs:∀p,p∈ps->Sm p) (hl:c.tk.length<=1000):
 Calls Tryz.prog 146 #[chp b,nod n.lf u1 u2 u3,.int .i64 (i:Int),.int .i64 (j:Int),v] w λ e w'=>RplT H w t cc d M N b u1 u2 u3 (replaceF a c n i j ps) e w':=by
 obtain⟨a1,c1,rfl⟩:=hk.long;obtain⟨a2,c2,rfl⟩:=hv.long;obtain⟨a3,c3,rfl⟩:=hd.long;rw[zh9]at hk ha aa |-
 rw[zh9]at hv ha aa bh |-
 rw[zf9]at hd ha aa |-
 obtain⟨L1,bu⟩:=exH n.ks.length;obtain⟨L2,d5⟩:=exH n.vs.length;obtain⟨L3,d6⟩:=exH n.kd.length;obtain⟨lf,dh⟩:=exH n.lf;rw[bu.o]at hk ha aa hj hn |-
 rw[d5.o]at hv ha aa bh |-
 rw[d6.o]at hd ha aa c6 hn |-
 rw[dh.o];obtain⟨dk,va,rfl⟩:=hP.len;have bk:=λ k hk=>hP.at (k:=k) hk;obtain⟨L,hL⟩:=exH ps.length;rw[hL.o]at dk bk |-
 obtain⟨cb,d9⟩:=exH b.cb;obtain⟨A,bz⟩:=exN (w.alloc (.cells #[.bool lf,.slice a1 L1 c1,.slice a2 L2 c2,.slice a3 L3 c3] 93));obtain⟨Y,c4⟩:=exN (A.alloc (.cells #[.bool false,.slice none 0 0,.slice none 0 0,.slice none 0 0] 93));have s1:A.heap.size=w.heap.size+1:=by rw[<-bz];simp
 have s2:Y.heap.size=w.heap.size+2:=by rw[<-c4];simp[s1]
 have b1:Below w.heap.size w A:=by rw[<-bz];exact za9 _ _
 have b2:Below A.heap.size A Y:=by rw[<-c4];exact za9 _ _
 have cz:=b1.trans (b2.mono b1.size);have V2:Nb Y 93 w.heap.size lf (.slice a1 L1 c1) (.slice a2 L2 c2) (.slice a3 L3 c3):=by
  have:Nb A 93 w.heap.size lf (.slice a1 L1 c1) (.slice a2 L2 c2) (.slice a3 L3 c3):=by rw[<-bz];exact nb_new _ _ _ _ _ _
  exact this.below b2
 have X2:Nb Y 93 A.heap.size false (.slice none 0 0) (.slice none 0 0) (.slice none 0 0):=by rw[<-c4];exact nb_new _ _ _ _ _ _
 have cu:=za0 V2;have cx:=za0 X2;have HB:=za0 cz;have bm:=za0 s2;have cr:=za0 s1;have HG:=za0 G;have HK:=za0 hk;have cw:=za0 hv;have HD:=za0 hd;have HA:=za0 ha;have ci:=za0 aa;have cs:Hid (∀y,(Value.slice a2 L2 c2).ownBlock=some y->¬Y.heap.size<=y):=λ y u=>by have:=bh y u;omega
 have ea:=za0 bk;have HZ:=za0 hZ;have ef:=za0 hs;have ei:=za0 hl;have cl:=za0 G.hl;obtain⟨O,de⟩:=exH (kA n i);obtain⟨RR,bx⟩:=exH (replaceF a c n i j ps);rw[bx.o];have d7:Nn w n (.slice a1 L1 c1) (.slice a2 L2 c2) (.slice a3 L3 c3):=⟨hk.rd,hv,hd.rd⟩
 obtain⟨kb,ko,rfl,bf⟩:=d7.key (i:=i) (by rw[bu.o];omega);rw[de.o]at bf;have dz:=za0 bf;have e5:=za0 (ze0 w ⟨kb,ko+i,none⟩ bf);unfold chp nod;rw[d9.o];have i0:(0:Int)<=(i:Int):=by omega
 have i1:(i:Int)<(L1:Int):=by omega
 have ab:Hid (i<j/\j<=L1/\j<=L3/\L1<=1000/\L3<=1000/\L<=2):=⟨a0,hj,c6,hn.1,hn.2,dk⟩
 clear G hk hv hd ha aa bh hP bk hZ hs hl b1 b2 cz V2 X2 s1 s2 d7 bf a0 hj c6 hn
 go_enter Tryz.func146,Tryz.ntmps146
 go_wp2_with fail
 go_loopw [12,13,21] (λ vk vd kv wr=>∃(k:Nat)(ka:Option Addr)(kl kc:Nat)(da:Option Addr)(dl dc:Nat)(H':Nat->Prop),k<=L/\kv=.int .i64 k/\vk=.slice ka kl kc/\vd=.slice da dl dc/\Hid (RpI H Y t cc d M N a b c ps O k (.slice ka kl kc) (.slice da dl dc) wr H')) (λ _ _ kv _=>L-(intOf kv).toNat)
 case atStart=>exact⟨0,none,0,0,none,0,0,H,zn7 _,rfl,rfl,rfl,⟨HG.o.below HB.o,Tch.refl _ _,λ _ e=>.inl e,rfl,zr9 _ _ _,zr9 _ _ _,λ _ e=>(by cases e),λ _ e=>(by cases e)⟩⟩
 case round=>
  obtain⟨k,ka,kl,kc,da,dl,dc,H',ev,rfl,rfl,rfl,hI⟩:=hrel;by_cases ao:k<L
  .have fi:(k:Int)<(L:Int):=by omega
   (have b3:(0:Int)<=(k:Int):=by omega);have I:=hI.o;obtain⟨b0,p1,p2,p3,dn,a6,aq,af,ds⟩:=ea.o k ao;simp only[Value.slice.injEq,and_true]at dn;obtain rfl:=dn;have ag:=bm.o;have b5:=I.tc.size;have bq:∀x,x<w.heap.size->¬H x->wr.heap[x]?=w.heap[x]?:=λ x h1 h2=>by rw[I.tc.block x (by omega) h2];exact(Tch.of_below (S:=λ _=>False) HB.o).block x h1 (λ e=>e)
   have TW:=(Tch.of_below HB.o).trans I.tc (λ _ _ e=>e);have d8:=ze0 w ⟨b0,k*4,none⟩ a6.1;(have CS:∀o,wr.cell? ⟨b0,o,none⟩=w.cell? ⟨b0,o,none⟩:=λ o=>by unfold World.cell?;rw[bq b0 d8 (HZ.o b0 ds)]);obtain⟨q1,e1,q2,e2,q3,e3,rfl,rfl,rfl,_⟩:=aq.o;obtain⟨p,hp⟩:=exH (ps.getD k noneN);rw[hp.o]at a6 aq af;obtain⟨P1,bw⟩:=exH p.ks.length;obtain⟨P2,es⟩:=exH p.vs.length;obtain⟨P3,et⟩:=exH p.kd.length;obtain⟨pf,dj⟩:=exH p.lf;rw[bw.o,es.o,et.o]at a6 aq af;rw[dj.o]at a6;(have d0:wr.cell? ⟨b0,k*4,none⟩=some (.bool pf):=by rw[CS];exact a6.1);(have d1:wr.cell? ⟨b0,k*4+1,none⟩=some (.slice q1 P1 e1):=by rw[CS];exact a6.2.1);have d2:wr.cell? ⟨b0,k*4+2,none⟩=some (.slice q2 P2 e2):=by rw[CS];exact a6.2.2.1
   (have d3:wr.cell? ⟨b0,k*4+3,none⟩=some (.slice q3 P3 e3):=by rw[CS];exact a6.2.2.2);have ee:Hid (Sm p):=ef.o p (by rw[<-hp.o,zn3,zc0 (by rw[hL.o];exact ao)];exact za1 _);obtain⟨W4,c5⟩:=exN (wr.alloc (.cells #[.bool pf,.slice q1 P1 e1,.slice q2 P2 e2,.slice q3 P3 e3] 93));(have b4:Below wr.heap.size wr W4:=by rw[<-c5];exact za9 _ _);(have N4:Nb W4 93 wr.heap.size pf (.slice q1 P1 e1) (.slice q2 P2 e2) (.slice q3 P3 e3):=by rw[<-c5];exact nb_new _ _ _ _ _ _);have dw:=aq.tch TW (λ x hx=>HZ.o x (af x (.inl hx))) (λ x hx=>HZ.o x (af x (.inr (.inl hx)))) (λ x hx=>HZ.o x (af x (.inr (.inr hx))));have ex:=(zrf9 a c ps k).1
   have HW:=za0 (zem9 p _ _ _ W4 (I.gz.below b4) (dw.below b4) ee.o (by have:=ei.o;have:=ab.o;omega));rw[dj.o]at HW;obtain⟨Q,hQ⟩:=exH (writeF (kidsUp a c ps k).a (kidsUp a c ps k).c p);rw[hQ.o]at HW;obtain⟨x,hx⟩:=exH Q.x;obtain⟨ec,az⟩:=exH Q.e;rw[hx.o,az.o]at HW;unfold chp nod at HW;rw[d9.o]at HW;have E:=za0 I;have e7:=za0 N4;have au:=za0 b4;have e9:=za0 aq;have bl:=za0 af;have fe:=za0 bq;have aw:=za0 TW;have eg:=za0 b5;have n0:=N4.c0;have n1:=N4.c1;have n2:=N4.c2;have n3:=N4.c3;clear I hI a6 aq af ds b5 bq TW d8 CS dw ex N4 b4 ag;go_wp2_with fail;refine HW.o.mono ?_;rintro e K ⟨rfl,H5,G5,T5,a8⟩;have f8:=za0 G5;have a5:=za0 T5;have fa:=za0 a8;have ag:=bm.o;have b7:=cr.o;have b5:=eg.o
   (have h4:W4.heap.size=wr.heap.size+1:=by rw[<-c5];simp);have be:∀y,y<W4.heap.size->¬H' y->K.heap[y]?=W4.heap[y]?:=λ y h1 h2=>T5.block y h1 h2;have bp:∀y,y<wr.heap.size->¬H' y->K.heap[y]?=wr.heap[y]?:=λ y h1 h2=>by rw[be y (by omega) h2];exact(Tch.of_below (S:=λ _=>False) au.o).block y h1 (λ e=>e)
   have ah:∀y,y<Y.heap.size->¬H y->¬H' y:=λ y h1 h2 e=>(E.o.hh y e).elim h2 (λ e=>by omega);have cn:Hid (∀y,y<Y.heap.size->¬H y->K.heap[y]?=Y.heap[y]?):=λ y h1 h2=>by rw[bp y (by omega) (ah y h1 h2)];exact E.o.tc.block y h1 h2
   (have a4:∀y,w.heap.size<=y->¬H y:=λ y h1 e=>by have:=cl.o y e;omega);(have X5:Nb K 93 A.heap.size false (.slice none 0 0) (.slice none 0 0) (.slice none 0 0):=by unfold Nb;rw[cn.o A.heap.size (by omega) (a4 A.heap.size (by omega))];exact cx.o);(have Y5:Nb K 93 w.heap.size lf (.slice (some ⟨kb,ko,none⟩) L1 c1) (.slice a2 L2 c2) (.slice a3 L3 c3):=by unfold Nb;rw[cn.o w.heap.size (by omega) (a4 w.heap.size (by omega))];exact cu.o);have N5:Nb K 93 wr.heap.size pf (.slice q1 P1 e1) (.slice q2 P2 e2) (.slice q3 P3 e3):=by unfold Nb;rw[be _ (by omega) (λ e=>by have:=E.o.gz.hl _ e;omega)];exact e7.o
   (have ay:Tch H w K:=by have x1:=aw.o.trans (Tch.of_below (S:=H) au.o) (λ _ _ e=>e);exact x1.trans T5 (λ y u e=>(E.o.hh y e).elim id (λ e=>by omega)));have bj:∀y,H5 y->H y\/w.heap.size<=y:=λ y e=>by
    rcases a8 y e with e|e
    .exact(E.o.hh y e).imp id (λ e=>by omega)
    .exact .inr (by omega)
   by_cases an:ec=0
   .subst an;have di:=zpz9 (a:=(kidsUp a c ps k).a) (c:=(kidsUp a c ps k).c) (by rw[hQ.o];exact az.o);(have er:1<=P1:=by rw[<-bw.o];exact(zq9.1 di).1);have dv:=e9.o.tch ay (λ y u=>HZ.o y (bl.o y (.inl u))) (λ y u=>HZ.o y (bl.o y (.inr (.inl u)))) (λ y u=>HZ.o y (bl.o y (.inr (.inr u))));obtain⟨fm,fn,rfl,ep⟩:=dv.key (i:=0) (by rw[bw.o];omega);obtain⟨kp,dg⟩:=exH (kA p 0);rw[dg.o,Nat.add_zero]at ep;have fg:K.cell? ⟨kb,ko+i,none⟩=some (.string O):=by rw[ay.cell (p:=⟨kb,ko+i,none⟩) e5.o (HA.o kb (.inl rfl))];exact dz.o
    (have ff:(0:Int)<(P1:Int):=by omega);have cf:∀y,(Value.slice ka kl kc).ownBlock=some y->¬H5 y:=λ y u e=>by have:=E.o.ks.owns.lt y u;exact(a8 y e).elim (E.o.ak y u) (λ e=>by omega)
    (have ce:∀y,(Value.slice da dl dc).ownBlock=some y->¬H5 y:=λ y u e=>by have:=E.o.kd.owns.lt y u;exact(a8 y e).elim (E.o.ad y u) (λ e=>by omega));(have b9:=(E.o.ks.below au.o).tch T5 (λ y u=>E.o.ak y u);have ar:=(E.o.kd.below au.o).tch T5 (λ y u=>E.o.ad y u);(have du:(strs (keysUp O ps k)).length<=10:=by rw[zh9];unfold keysUp;rw[zg0];have:=ab.o;omega);(have dt:(nums (kidsUp a c ps k).xs).length<=10:=by rw[zf9];have:=zjq9 a c ps k;have:=ab.o;omega);have cg:Tch H Y K:=by have x1:=E.o.tc.trans (Tch.of_below (S:=H) au.o) (λ _ _ e=>e);exact x1.trans T5 (λ y u e=>(E.o.hh y e).elim id (λ e=>by omega)));have ca:=cg.size;have ai:∀y,H5 y->H y\/Y.heap.size<=y:=λ y e=>by
     rcases a8 y e with e|e
     .exact E.o.hh y e
     .exact .inr (by omega)
    have bg:kidsUp a c ps (k+1)=⟨0,(kidsUp a c ps k).xs++[x],Q.a,Q.c⟩:=by (have hq:(writeF (kidsUp a c ps k).a (kidsUp a c ps k).c (ps.getD k noneN))=Q:=by rw[hp.o];exact hQ.o);simp only[kidsUp];rw[hq,if_neg (by rw[E.o.ok];simp),if_neg (by rw[az.o];simp),hx.o]
    (have bt:keysUp O ps (k+1)=keysUp O ps k++[if k=0 then O else kp]:=by rw[zlf9 O ps (by rw[hL.o];exact ao),hp.o,dg.o]);obtain⟨ky,c7⟩:=exH ((if k=0 then O else kp));rw[c7.o]at bt
    have ch:Hid (∀(T w9:World)(v7 v9:Value),OwV Y.heap.size 9 T v7 (strs (keysUp O ps k)++[.string ky])->Tch (λ y=>(Value.slice ka kl kc).ownBlock=some y) (K.alloc (.cells #[.string ky] 9)) T->Fsh (K.alloc (.cells #[.string ky] 9)) (.slice ka kl kc) v7->OwV Y.heap.size 3 w9 v9 (nums (kidsUp a c ps k).xs++[.int .i64 x])->Tch (λ y=>(Value.slice da dl dc).ownBlock=some y) (T.alloc (.cells #[.int .i64 x] 3)) w9->Fsh (T.alloc (.cells #[.int .i64 x] 3)) (.slice da dl dc) v9->RpI H Y t cc d M N a b c ps O (k+1) v7 v9 w9 H5):=λ T w9 v7 v9 o7 t7 f7 o9 t9 f9=>by
     (have z6:(K.alloc (.cells #[.string ky] 9)).heap.size=K.heap.size+1:=by simp);have z7:=t7.size;(have z8:(T.alloc (.cells #[.int .i64 x] 3)).heap.size=T.heap.size+1:=by simp);have b6:=za9 K (.cells #[.string ky] 9);have b8:=za9 T (.cells #[.int .i64 x] 3);have TA:Tch (λ y=>(Value.slice ka kl kc).ownBlock=some y\/(Value.slice da dl dc).ownBlock=some y) K w9:=(((Tch.of_below b6).trans (t7.mono (λ _ _ e=>.inl e)) (λ _ _ e=>e)).trans (Tch.of_below b8) (λ _ _ e=>e)).trans (t9.mono (λ _ _ e=>.inr e)) (λ _ _ e=>e);have e1:strs (keysUp O ps k)++[.string ky]=strs (keysUp O ps (k+1)):=by rw[bt];simp[strs]
     (have e2:nums (kidsUp a c ps k).xs++[.int .i64 x]=nums (kidsUp a c ps (k+1)).xs:=by rw[bg];simp[nums]);rw[e1]at o7;rw[e2]at o9;have ey:=(ar.below b6).tch t7 (λ y u e=>(ar.apart b9 (by decide) u) e);refine⟨by rw[bg];exact G5.tch TA (λ y u e=>e.elim (λ e=>cf y e u) (λ e=>ce y e u)),cg.trans TA (λ y u e=>?_),ai,by rw[bg],(o7.below b8).tch t9 (λ y u e=>?_),o9,λ y u e=>?_,λ y u e=>?_⟩
     .rcases e with e|e
      .have:=b9.ge y e;omega
      .have:=ar.ge y e;omega
     .exact(o7.below b8).apart (ey.below b8) (by decide) u e
     .rcases f7 y u with q|q
      .exact cf y q e
      .have:=G5.hl y e;omega
     .rcases f9 y u with q|q
      .exact ce y q e
      .have:=G5.hl y e;omega
    have fc:=za0 b9;have fb:=za0 ar;have bd:=za0 du;have bc:=za0 dt;have fd:=za0 ca;have m1:=N5.c1;have y1:=Y5.c1;have e6:=za0 ao;obtain⟨W6,ac⟩:=exN (K.alloc (.cells #[.string ky] 9));(have b6:Below K.heap.size K W6:=by rw[<-ac];exact za9 _ _);(have k6:Hid (W6.cell? ⟨K.heap.size,0,none⟩=some (.string ky)):=by show _=_;rw[<-ac,cell_of_row _ K.heap.size 0 _ _ (0,0) (heap_alloc_new K _)];rfl);have bo:=za0 (b9.below b6);have cy:=za0 (ar.below b6);have S6:=za0 (zn2 ca b6.size);rw[ac]at ch;clear G5 T5 a8 be bp ah a4 X5 ay bj n0 n1 n2 n3 d0 d1 d2 d3 h4 ag b7 b5 HW cf ce b9 ar du dt cg ca ai bg bt b6 dv N5 Y5 di er;by_cases b3:k=0;focus
     (have ew:((k:Int)==0)=true:=by rw[beq_iff_eq];omega);(obtain rfl:O=ky:=by rw[<-c7.o,if_pos b3]);clear b3;go_wp2_with(at_builtin;refine zp9 91 9 (.string ⟨#[]⟩) 16 elemS _ rfl (.tmp 47) (.tmp 49) rfl Y.heap.size _ (strs (keysUp O ps k)) rfl bo.o K.heap.size (.string O) rfl rfl k6.o (by have:=bd.o;omega) (by have:=bd.o;omega) S6.o ?_;intro v7 T o7 g7 f7;refine Hid.o ?_)
    rotate_right;focus
     (have ew:((k:Int)==0)=false:=by rw[zl0];omega);(obtain rfl:kp=ky:=by rw[<-c7.o,if_neg b3]);clear b3;go_wp2_with(at_builtin;refine zp9 91 9 (.string ⟨#[]⟩) 16 elemS _ rfl (.tmp 47) (.tmp 49) rfl Y.heap.size _ (strs (keysUp O ps k)) rfl bo.o K.heap.size (.string kp) rfl rfl k6.o (by have:=bd.o;omega) (by have:=bd.o;omega) S6.o ?_;intro v7 T o7 g7 f7;refine Hid.o ?_)
    all_goals
     refine za0 ?_;(obtain⟨x7,y7,z7,rfl⟩:∃a l c,v7=.slice a l c:=by obtain⟨a,c,e⟩:=o7.long;exact⟨_,_,_,e⟩);obtain⟨W8,ae⟩:=exN (T.alloc (.cells #[.int .i64 x] 3));(have b8:Below T.heap.size T W8:=by rw[<-ae];exact za9 _ _);(have k8:Hid (W8.cell? ⟨T.heap.size,0,none⟩=some (.int .i64 x)):=by show _=_;rw[<-ae,cell_of_row _ T.heap.size 0 _ _ (0,0) (heap_alloc_new T _)];rfl);have eo:=za0 ((cy.o.tch g7.tch (λ y u e=>(cy.o.apart bo.o (by decide) u) e)).below b8);have S8:=za0 (zn2 S6.o (zn2 g7.tch.size b8.size));have e8:=za0 o7;have eh:=za0 g7.tch;have e4:=za0 f7;clear o7 g7 f7 b8 ac
     go_wp2_with(at_builtin;refine zp9 56 3 (.int .i64 0) 8 elemIN _ rfl (.tmp 51) (.tmp 53) rfl Y.heap.size _ (nums (kidsUp a c ps k).xs) rfl eo.o T.heap.size (.int .i64 x) rfl rfl k8.o (by have:=bc.o;omega) (by have:=bc.o;omega) S8.o ?_;intro v9 w9 o9 g9 f9;refine Hid.o ?_)
     refine za0 ?_;(obtain⟨x9,y9,z9,rfl⟩:∃a l c,v9=.slice a l c:=by obtain⟨a,c,e⟩:=o9.long;exact⟨_,_,_,e⟩);rw[<-ae]at g9 f9;have eb:=za0 (ch.o T w9 _ _ e8.o eh.o e4.o o9 g9.tch f9);clear o9 g9 f9 ae;go_wp2_with fail;exact⟨⟨k+1,_,_,_,_,_,_,H5,e6.o,by rfl,rfl,rfl,eb⟩,by simp[intOf];omega⟩
   .have eq:(ec==0)=false:=by rw[zl0];exact an
    (have fh:(ec != 0)=true:=by rw[bne,eq];rfl);have ax:(kidsUp a c ps (k+1)).e=ec/\(kidsUp a c ps (k+1)).a=Q.a/\(kidsUp a c ps (k+1)).c=Q.c:=by (have hq:(writeF (kidsUp a c ps k).a (kidsUp a c ps k).c (ps.getD k noneN))=Q:=by rw[hp.o];exact hQ.o);simp only[kidsUp];rw[hq,if_neg (by rw[E.o.ok];simp),if_pos (by rw[az.o];exact an)];exact⟨az.o,rfl,rfl⟩
    have bb:(kidsF a c ps).e=ec/\(kidsF a c ps).a=Q.a/\(kidsF a c ps).c=Q.c:=by have:=zds9 (a:=a) (c:=c) (ps:=ps) (by rw[hL.o];exact ab.o.2.2.2.2.2);have hb:=znv9 (a:=a) (c:=c) (ps:=ps) (k:=k+1) (by rw[ax.1];exact an) ps.length (by rw[hL.o];omega);rw[hb,ax.1,ax.2.1,ax.2.2]at this;exact⟨this.1.symm,this.2.1.symm,this.2.2.1.symm⟩
    (have ed:Hid (RR=⟨ec,noneN,Q.a,Q.c⟩):=by show _=_;rw[<-bx.o];unfold replaceF;rw[bb.1,if_pos an,bb.2.1,bb.2.2]);have tt:=zl9 K A.heap.size (.bool false) (.slice none 0 0) (.slice none 0 0) (.slice none 0 0);have XA:=X5.all false (.slice none 0 0) (.slice none 0 0) (.slice none 0 0);obtain⟨WA,a9⟩:=exN ((((K.setCell ⟨A.heap.size,0,none⟩ (.bool false)).setCell ⟨A.heap.size,1,none⟩ (.slice none 0 0)).setCell ⟨A.heap.size,2,none⟩ (.slice none 0 0)).setCell ⟨A.heap.size,3,none⟩ (.slice none 0 0));rw[a9]at tt XA;have n5:∀y,H5 y->y≠A.heap.size:=λ y e q=>by
     rcases a8 y e with e|e
     .exact ah A.heap.size (by omega) (a4 A.heap.size (by omega)) (by rw[<-q];exact e)
     .omega
    have bi:Hid (RplT H w t cc d M N b (.slice (some ⟨kb,ko,none⟩) L1 c1) (.slice a2 L2 c2) (.slice a3 L3 c3) RR (.returned (.tuple #[nod false (.slice none 0 0) (.slice none 0 0) (.slice none 0 0),.int .i64 ec])) WA):=by show RplT _ _ _ _ _ _ _ _ _ _ _ _ _ _;rw[ed.o];refine⟨H5,_,_,_,rfl,G5.tch tt n5,(ay.mono (λ _ _ e=>.inl e)).trans tt (λ y u e=>by omega),bj,⟨zaq9 _,zaq9 _,zaq9 _⟩,λ y u=>?_⟩;rcases u with e|e|e<;>cases e
    have ek:=za0 XA.load;have bn:=za0 a9;have s0:=X5.c0;have s1:=X5.c1;have s2:=X5.c2;have s3:=X5.c3;have f0:=X5.fz 0;have f1:=X5.fz 1;have f2:=X5.fz 2;have f3:=X5.fz 3;clear G5 T5 a8 be bp ah a4 X5 Y5 N5 ay bj ax bb tt XA n5 an n0 n1 n2 n3 d0 d1 d2 d3 h4 ag b7 b5 a9 HW;go_wp2_with fail;rw[bn.o];refine bodyPost_ret (v:=.tuple #[nod false (.slice none 0 0) (.slice none 0 0) (.slice none 0 0),.int .i64 ec]) (ze9 (p:=10) (ty:=93) rfl _ _ _ A.heap.size _ _ rfl ek.o rfl) rfl ?_;exact bi.o
  .have fk:decide ((k:Int)<(L:Int))=false:=by rw[zn4];omega
   (have fl:decide (k<L)=false:=by rw[zn4];exact ao);(obtain rfl:L=k:=by omega);have I:=hI.o;have ag:=bm.o;have b7:=cr.o;(have dm:ps.length<=2:=by rw[hL.o];exact ab.o.2.2.2.2.2);have am:=zds9 (a:=a) (c:=c) (ps:=ps) dm;rw[hL.o]at am;(have bs:(kidsF a c ps).e=0:=by rw[<-am.1];exact I.ok);have dr:=am.2.2.2 bs;(have df:keysUp O ps L=keysF O ps:=by rw[<-hL.o];exact znu9 O ps);have TW:=(Tch.of_below HB.o).trans I.tc (λ _ _ e=>e);have ah:∀y,y<Y.heap.size->¬H y->¬H' y:=λ y h1 h2 e=>(I.hh y e).elim h2 (λ e=>by omega);(have a4:∀y,w.heap.size<=y->¬H y:=λ y h1 e=>by have:=cl.o y e;omega);have Y0:=cu.o.tch I.tc (a4 _ (zn6 _));have X0:=cx.o.tch I.tc (a4 _ (by omega))
   have K0:=HK.o.tch TW (λ y u=>HA.o y (.inl u));have D0:=HD.o.tch TW (λ y u=>HA.o y (.inr (.inr u)));have V0:=cw.o.tch TW (λ y u=>HA.o y (.inr (.inl u)));(have dy:OwV 0 9 wr (.slice ka kl kc) (strs (keysF O ps)):=by rw[<-df];exact I.ks.less (zn7 _));(have dx:OwV 0 3 wr (.slice da dl dc) (nums (kidsF a c ps).xs):=by rw[<-dr];exact I.kd.less (zn7 _));have cd:∀y,(Value.slice (some ⟨kb,ko,none⟩) L1 c1).ownBlock=some y->y<w.heap.size:=λ y u=>HK.o.owns.lt y u;have d4:∀y,(Value.slice a3 L3 c3).ownBlock=some y->y<w.heap.size:=λ y u=>HD.o.owns.lt y u;(have c9:(strs n.ks).length=L1:=by rw[zh9];exact bu.o);(have ap:(nums n.kd).length=L3:=by rw[zf9];exact d6.o);have a0:=ab.o
   have co:=za0 (zov9 (B:=0) (w:=wr) .s (.slice (some ⟨kb,ko,none⟩) L1 c1) (strs n.ks) i j (.slice ka kl kc) (strs (keysF O ps)) K0 dy (λ y u e=>by have:=I.ks.ge y u;have:=cd y e;omega) (zax9 _) (zax9 _) a0.1 (by rw[c9];exact a0.2.1) (by rw[zh9,zfx9];omega) (by rw[c9];omega) (zn7 _));have z1:=Y0.c1;have E:=za0 I;have em:=za0 Y0;have ej:=za0 X0;have ba:=za0 D0;have ct:=za0 V0;have cv:=za0 dx;have aw:=za0 TW;have aj:=za0 cd;have a7:=za0 d4;have bc:=za0 ap;have al:=za0 ah;have cm:=za0 a4;have ck:=za0 bs;have cj:Hid ((kidsF a c ps).a=(kidsUp a c ps L).a/\(kidsF a c ps).c=(kidsUp a c ps L).c):=⟨am.2.1.symm,am.2.2.1.symm⟩
   have ai:=za0 (show Y.heap.size=w.heap.size+2/\A.heap.size=w.heap.size+1 from⟨ag,b7⟩);clear I hI ag b7 dm am bs dr df TW ah a4 Y0 X0 K0 D0 V0 dy dx cd d4 c9 ap a0 ao ev;go_wp2_with fail;refine co.o.mono ?_;rintro e K ⟨v5,rfl,T5⟩;have a5:=za0 T5;have Y5:=em.o.tch T5.tc (λ e=>by have:=aj.o _ e;omega);(obtain⟨x5,y5,z5,rfl⟩:∃a l c,v5=.slice a l c:=by obtain⟨a,c,e⟩:=T5.ow.long;exact⟨_,_,_,e⟩);obtain⟨W6,ac⟩:=exN (K.setCell ⟨w.heap.size,1,none⟩ (.slice x5 y5 z5));(have t6:Tch (λ y=>y=w.heap.size) K W6:=by rw[<-ac];exact tch_at _ _ _ _);have Y6:Nb W6 93 w.heap.size lf (.slice x5 y5 z5) (.slice a2 L2 c2) (.slice a3 L3 c3):=by rw[<-ac];exact Y5.s1 _
   have D6:=(ba.o.tch T5.tc (λ y u e=>(ba.o.apart (HK.o.tch aw.o (λ y u=>HA.o y (.inl u))) (by decide) u) e)).tch t6 (λ y u e=>by have:=a7.o y u;omega);have E6:OwV 0 3 W6 (.slice da dl dc) (nums (kidsF a c ps).xs):=by
    have db:=E.o.kd.ge;have hz:=ai.o;refine(cv.o.tch T5.tc (λ y u e=>?_)).tch t6 (λ y u e=>?_)
    .have:=db y u;have:=aj.o y e;omega
    .have:=db y u;omega
   have ap:=bc.o;have a0:=ab.o;have dq:(nums (kidsF a c ps).xs).length<=1000000:=by have h1:=zjq9 a c ps L;have h2:=E.o.kd.1;have h3:=cv.o.1;rw[zf9];have:=zds9 (a:=a) (c:=c) (ps:=ps) (by rw[hL.o];exact a0.2.2.2.2.2);rw[hL.o]at this;rw[<-this.2.2.2 ck.o];omega
   have cq:=za0 (zov9 (B:=0) (w:=W6) .i (.slice a3 L3 c3) (nums n.kd) i j (.slice da dl dc) (nums (kidsF a c ps).xs) D6 E6 (λ y u e=>by have:=E.o.kd.ge y u;have:=a7.o y e;have:=ai.o;omega) (zcq9 _) (zcq9 _) a0.1 (by rw[ap];exact a0.2.2.1) dq (by rw[ap];omega) (zn7 _));have p1:=Y5.c1;have p2:=Y5.fz 1;have r3:=Y6.c3;have en:=za0 Y6;have av:=za0 t6;clear T5 Y5 t6 Y6 D6 E6 ap a0 dq co z1;go_wp2_with fail;refine cq.o.mono ?_;rintro e T ⟨v7,rfl,T7⟩;(obtain⟨x7,y7,z7,rfl⟩:∃a l c,v7=.slice a l c:=by obtain⟨a,c,e⟩:=T7.ow.long;exact⟨_,_,_,e⟩);have Y7:=en.o.tch T7.tc (λ e=>by have:=a7.o _ e;omega);obtain⟨W8,ae⟩:=exN (T.setCell ⟨w.heap.size,3,none⟩ (.slice x7 y7 z7))
   (have t8:Tch (λ y=>y=w.heap.size) T W8:=by rw[<-ae];exact tch_at _ _ _ _);(have Y8:Nb W8 93 w.heap.size lf (.slice x5 y5 z5) (.slice a2 L2 c2) (.slice x7 y7 z7):=by rw[<-ae];exact Y7.s3 _);have hz:=ai.o;have X8:=(((ej.o.tch a5.o.tc (λ e=>by have:=aj.o _ e;omega)).tch av.o (by omega)).tch T7.tc (λ e=>by have:=a7.o _ e;omega)).tch t8 (by omega);obtain⟨WA,a9⟩:=exN ((((W8.setCell ⟨A.heap.size,0,none⟩ (.bool lf)).setCell ⟨A.heap.size,1,none⟩ (.slice x5 y5 z5)).setCell ⟨A.heap.size,2,none⟩ (.slice a2 L2 c2)).setCell ⟨A.heap.size,3,none⟩ (.slice x7 y7 z7));have tA:Tch (λ y=>y=A.heap.size) W8 WA:=by rw[<-a9];exact zl9 _ _ _ _ _ _
   (have XA:Nb WA 93 A.heap.size lf (.slice x5 y5 z5) (.slice a2 L2 c2) (.slice x7 y7 z7):=by rw[<-a9];exact X8.all _ _ _ _);have ez:=a5.o.tc.size;have f4:=av.o.size;have f5:=T7.tc.size;have f6:=E.o.tc.size;have bi:Hid (RplT H w t cc d M N b (.slice (some ⟨kb,ko,none⟩) L1 c1) (.slice a2 L2 c2) (.slice a3 L3 c3) RR (.returned (.tuple #[nod lf (.slice x5 y5 z5) (.slice a2 L2 c2) (.slice x7 y7 z7),.int .i64 0])) WA):=by
    (have eu:RR=⟨0,zai9 n i j (keysF O ps) (kidsF a c ps).xs,(kidsF a c ps).a,(kidsF a c ps).c⟩:=by rw[<-bx.o];unfold replaceF;rw[ck.o,if_neg (by simp),de.o]);rw[eu,cj.o.1,cj.o.2];have br:Tch (λ y=>(y=w.heap.size\/y=A.heap.size)\/(Value.slice (some ⟨kb,ko,none⟩) L1 c1).ownBlock=some y\/(Value.slice a3 L3 c3).ownBlock=some y) wr WA:=((((a5.o.tc.mono (λ y _ e=>.inr (.inl e))).trans av.o (λ y _ e=>.inl (.inl e))).trans T7.tc (λ y _ e=>.inr (.inr e))).trans t8 (λ y _ e=>.inl (.inl e))).trans tA (λ y _ e=>.inl (.inr e));have nS:∀y,H' y->¬((y=w.heap.size\/y=A.heap.size)\/(Value.slice (some ⟨kb,ko,none⟩) L1 c1).ownBlock=some y\/(Value.slice a3 L3 c3).ownBlock=some y):=λ y u e=>by
     rcases e with(e|e)|e|e
     .exact al.o y (by omega) (cm.o y (by omega)) u
     .exact al.o y (by omega) (cm.o y (by omega)) u
     .exact al.o y (by have:=aj.o y e;omega) (HA.o y (.inl e)) u
     .exact al.o y (by have:=a7.o y e;omega) (HA.o y (.inr (.inr e))) u
    have R5:RdV WA (.slice x5 y5 z5) (strs (n.ks.take i++(keysF O ps++n.ks.drop j))):=by
     (have e0:(strs n.ks).take i++(strs (keysF O ps)++(strs n.ks).drop j)=strs (n.ks.take i++(keysF O ps++n.ks.drop j)):=by simp[strs,List.map_take,List.map_drop]);have o5:=a5.o.ow;rw[e0]at o5;have n5:∀y,(Value.slice x5 y5 z5).ownBlock=some y->y≠w.heap.size/\y≠A.heap.size:=λ y u=>by
      rcases a5.o.fs y u with q|q
      .have:=aj.o y q;omega
      .omega
     have o6:=o5.tch av.o (λ y u e=>(n5 y u).1 e);have dd:=(ba.o.tch a5.o.tc (λ y u e=>(ba.o.apart (HK.o.tch aw.o (λ y u=>HA.o y (.inl u))) (by decide) u) e)).tch av.o (λ y u e=>by have:=a7.o y u;omega);have o7:=o6.tch T7.tc (λ y u e=>o6.apart dd (by decide) u e);exact((o7.tch t8 (λ y u e=>(n5 y u).1 e)).tch tA (λ y u e=>(n5 y u).2 e)).rd
    have R7:RdV WA (.slice x7 y7 z7) (nums (n.kd.take i++((kidsF a c ps).xs++n.kd.drop j))):=by
     (have e0:(nums n.kd).take i++(nums (kidsF a c ps).xs++(nums n.kd).drop j)=nums (n.kd.take i++((kidsF a c ps).xs++n.kd.drop j)):=by simp[nums,List.map_take,List.map_drop]);have o7:=T7.ow;rw[e0]at o7;have n7:∀y,(Value.slice x7 y7 z7).ownBlock=some y->y≠w.heap.size/\y≠A.heap.size:=λ y u=>by
      rcases T7.fs y u with q|q
      .have:=a7.o y q;omega
      .omega
     exact((o7.tch t8 (λ y u e=>(n7 y u).1 e)).tch tA (λ y u e=>(n7 y u).2 e)).rd
    have V7:RdV WA (.slice a2 L2 c2) (strs n.vs):=by
     by_cases h0:strs n.vs=[]
     .have l0:L2=0:=by rw[<-d5.o,<-zh9,h0];rfl
      obtain⟨q1,q2,q3,q4,q5,q6,q7⟩:=ct.o;exact⟨q1,q2,q3,q4,q5,q6,.inl h0⟩
     .refine ct.o.tch br (λ y u e=>?_);have fj:=cw.o.blk_lt h0 y u;rcases e with(e|e)|e|e
      .omega
      .omega
      .exact(ci.o y u).1 e
      .exact(ci.o y u).2 e
    refine⟨H',_,_,_,by rw[show(zai9 n i j (keysF O ps) (kidsF a c ps).xs).lf=n.lf from rfl,dh.o],E.o.gz.tch br nS,(aw.o.mono (λ _ _ e=>.inl e)).trans br (λ y u e=>?_),λ y u=>(E.o.hh y u).imp id (λ e=>by omega),⟨R5,V7,R7⟩,λ y u=>?_⟩
    .rcases e with(e|e)|e|e
     .omega
     .omega
     .exact .inr (.inl e)
     .exact .inr (.inr e)
    .have s8:=t8.size;have sA:=tA.size;rcases u with e|e|e
     .have u5:=a5.o.ow.owns.lt y e;rcases a5.o.fs y e with q|q
      .exact⟨.inl q,al.o y (by have:=aj.o y q;omega) (HA.o y (.inl q)),by omega⟩
      .exact⟨.inr (.inr (.inr (by omega))),λ e=>by have:=E.o.gz.hl y e;omega,by omega⟩
     .have u2:=cs.o y e;have sr:=E.o.tc.size;refine⟨.inr (.inl e),λ q=>?_,by omega⟩;rcases E.o.hh y q with q|q
      .exact HA.o y (.inr (.inl e)) q
      .exact cs.o y e q
     .have u7:=T7.ow.owns.lt y e;rcases T7.fs y e with q|q
      .exact⟨.inr (.inr (.inl q)),al.o y (by have:=a7.o y q;omega) (HA.o y (.inr (.inr q))),by omega⟩
      .exact⟨.inr (.inr (.inr (by omega))),λ e=>by have:=E.o.gz.hl y e;omega,by omega⟩
   have el:=za0 XA.load;have bn:=za0 a9;have m3:=Y7.c3;have m4:=Y7.fz 3;have s0:=Y8.c0;have s1:=Y8.c1;have s2:=Y8.c2;have s3:=Y8.c3;have g0:=X8.c0;have g1:=X8.c1;have g2:=X8.c2;have g3:=X8.c3;have f0:=X8.fz 0;have f1:=X8.fz 1;have f2:=X8.fz 2;have f3:=X8.fz 3;clear T7 Y7 t8 Y8 X8 tA XA hz ez f4 f5 f6 cq r3 p1 p2 a9;go_wp2_with fail;rw[bn.o];refine bodyPost_ret (v:=.tuple #[nod lf (.slice x5 y5 z5) (.slice a2 L2 c2) (.slice x7 y7 z7),.int .i64 0]) (ze9 (p:=10) (ty:=93) rfl _ _ _ A.heap.size _ _ rfl el.o rfl) rfl ?_;exact bi.o
end
section
variable {H:Nat->Prop} {t cc d M N:Nat} {a:AS} {b:CB} {c:CH}
def zor9(ps:List Nd)(v:Value)(Z:Nat->Prop)(w:World)(G:Gz H w t cc d M N a b c)(hP:Ps Z w v ps)(hZ:∀k,Z k->¬H k)(hs:∀p,p∈ps->Sm p)(hl:c.tk.length<=1000)(b5:c.lv<=1000)
 (ao:(replaceF a c top0 0 1 ps).c.tk.length<=100000) (ar:Sm (replaceF a c top0 0 1 ps).n):
 Calls Tryz.prog 115 #[chp b,v] w λ e w'=>e=.returned (.tuple #[.int .i64 (raiseF a c ps).x,.int .i64 (raiseF a c ps).e])/\GzTo H w w' t cc d M N (raiseF a c ps).a b (raiseF a c ps).c:=by
 obtain⟨_,va,rfl⟩:=hP.len;obtain⟨pl,b6⟩:=exH ps.length;rw[b6.o]at hP |-
 have c4:=G.c4;have HG:=za0 G;have HP:=za0 hP;have HZ:=za0 hZ;have HS:=za0 hs;have HL:=za0 hl;have aw:=za0 ao;have ay:=za0 ar;obtain⟨cb,a2⟩:=exH b.cb;obtain⟨lv,a3⟩:∃q,Hid (c.lv=q):=⟨_,rfl⟩
 rw[a2.o,a3.o]at c4;rw[a3.o]at b5;obtain⟨I,a1⟩:=exH (raiseF a c ps);rw[a1.o];unfold chp;rw[a2.o];clear G hP hZ hs hl ao ar
 go_enter Tryz.func115,Tryz.ntmps115
 by_cases ai:lv=16
 .subst ai;have O:Hid (I=⟨0,7,a,c⟩):=by show I=_;rw[<-a1.o];unfold raiseF;rw[if_pos a3.o]
  go_wp2_with fail;go_ret2;rw[O.o];exact⟨rfl,HG.o.to⟩
 .have b9:decide ((lv:Int)=16)=false:=by rw[zn4];omega
  have ba:((lv:Int)==16)=false:=by rw[zl0];omega
  have ax:Hid (raiseF a c ps=if (replaceF a c top0 0 1 ps).e≠0 then⟨0,(replaceF a c top0 0 1 ps).e,(replaceF a c top0 0 1 ps).a,(replaceF a c top0 0 1 ps).c⟩else writeF (replaceF a c top0 0 1 ps).a (replaceF a c top0 0 1 ps).c (replaceF a c top0 0 1 ps).n):=by show raiseF a c ps=_;unfold raiseF;rw[if_neg (by rw[a3.o];exact ai)]
  obtain⟨K,ac⟩:=exN (w.alloc (.cells #[.string ⟨#[]⟩] 9));obtain⟨Q,ad⟩:=exN (K.alloc (.cells #[.int .i64 0] 3));have s1:K.heap.size=w.heap.size+1:=by rw[<-ac];simp
  have s2:Q.heap.size=w.heap.size+2:=by rw[<-ad];simp[s1]
  have b1:Below w.heap.size w K:=by rw[<-ac];exact za9 _ _
  have b2:Below K.heap.size K Q:=by rw[<-ad];exact za9 _ _
  have a0:=b1.trans (b2.mono b1.size);have g1:Rw 9 Q w.heap.size [.string eS]:=by (have:Rw 9 K w.heap.size [.string eS]:=by rw[<-ac];exact Rw.new _ _ _);exact this.tch (Tch.of_below (S:=λ _=>False) b2) (λ e=>e)
  have g2:Rw 3 Q K.heap.size [.int .i64 0]:=by rw[<-ad];exact Rw.new _ _ _
  have k1:=g1.owV (zn7 _) rfl (by decide) (zn6 _) rfl;have k3:=g2.owV (zn7 _) rfl (by decide) (zn6 _) rfl;have aq:=HG.o.hl;have Y:=zar9 top0 (.slice (some ⟨w.heap.size,0,none⟩) 1 1) (.slice none 0 0) (.slice (some ⟨K.heap.size,0,none⟩) 1 1) (.slice va pl pl) 0 1 ps Z Q (HG.o.below a0) k1 (zr9 0 9 _).rd k3 (λ j hj e=>by
   have:=aq j e;rcases hj with q|q|q
   .simp[Value.ownBlock]at q;omega
   .cases q
   .simp[Value.ownBlock]at q;omega) (λ k e=>by cases e) (λ k e=>by cases e) (HP.o.below a0) HZ.o (by decide) (by decide) (by decide) (by decide) HS.o HL.o
  unfold chp at Y;rw[a2.o,show((0:Nat):Int)=0 from rfl,show((1:Nat):Int)=1 from rfl,show top0.lf=false from rfl]at Y;unfold nod at Y;have af:=za0 Y;have au:=za0 a0;have az:Hid (K.heap.size=w.heap.size+1/\Q.heap.size=w.heap.size+2):=⟨s1,s2⟩
  clear Y b1 b2 a0 g1 g2 k1 k3 aq s1 s2;go_wp2_with fail;refine af.o.mono ?_;rintro e A ⟨H3,x1,x2,x3,rfl,g3,t3,h3,n3,f3⟩;obtain⟨u,b7⟩:=exH (replaceF a c top0 0 1 ps);have a8:=aw.o;have aa:=ay.o;have a9:=ax.o;rw[b7.o]at g3 n3 a8 aa a9 |-
  obtain⟨p1,q1,p2,q2,p3,q3,rfl,rfl,rfl,_,_,_,_⟩:=n3.o;obtain⟨L1,aj⟩:=exH u.n.ks.length;obtain⟨L2,ak⟩:=exH u.n.vs.length;obtain⟨L3,al⟩:=exH u.n.kd.length;obtain⟨lf,ap⟩:=exH u.n.lf;obtain⟨re,a5⟩:∃L,Hid (u.e=L):=⟨_,rfl⟩
  rw[aj.o,ak.o,al.o]at n3 f3;rw[aj.o,ak.o,al.o,ap.o,a5.o];have hz:=az.o;have TW:Tch H w A:=(Tch.of_below (S:=H) au.o).trans t3 (λ y hy e=>by
   rcases e with e|e|e
   .exact e
   .simp[Value.ownBlock]at e;omega
   .simp[Value.ownBlock]at e;omega)
  have a7:Hid (∀k,H3 k->H k\/w.heap.size<=k):=λ k hk=>(h3 k hk).imp id (λ e=>by omega);obtain⟨W4,am⟩:=exN (A.alloc (.cells #[.bool false,.slice none 0 0,.slice none 0 0,.slice none 0 0] 93));have E:Nb W4 93 A.heap.size false (.slice none 0 0) (.slice none 0 0) (.slice none 0 0):=by rw[<-am];exact nb_new _ _ _ _ _ _
  have b4:Below A.heap.size A W4:=by rw[<-am];exact za9 _ _
  obtain⟨W5,an⟩:=exN ((((W4.setCell ⟨A.heap.size,0,none⟩ (.bool lf)).setCell ⟨A.heap.size,1,none⟩ (.slice p1 L1 q1)).setCell ⟨A.heap.size,2,none⟩ (.slice p2 L2 q2)).setCell ⟨A.heap.size,3,none⟩ (.slice p3 L3 q3));have T:Nb W5 93 A.heap.size lf (.slice p1 L1 q1) (.slice p2 L2 q2) (.slice p3 L3 q3):=by rw[<-an];exact E.all _ _ _ _
  have t5:Tch (λ y=>y=A.heap.size) W4 W5:=by rw[<-an];exact zl9 _ _ _ _ _ _
  have a6:Tch (λ _=>False) A W5:=(Tch.of_below b4).trans t5 (λ y hy e=>by omega);have g5:=g3.tch a6 (λ _ _ e=>e);have n5:=n3.tch a6 (λ _ _ e=>e) (λ _ _ e=>e) (λ _ _ e=>e);have ah:=TW.trans a6 (λ _ _ e=>e.elim);have WP:=zem9 u.n _ _ _ W5 g5 n5 aa a8;unfold chp nod at WP;rw[a2.o,ap.o]at WP;have b0:=za0 WP;have av:=za0 g5;have ab:=za0 ah;have ae:=za0 a9;have bb:=E.c0;have bc:=E.c1;have bd:=E.c2;have be:=E.c3;have bj:=E.fz 0;have bk:=E.fz 1;have bl:=E.fz 2;have bm:=E.fz 3;have bf:=T.c0;have bg:=T.c1;have bh:=T.c2;have bi:=T.c3;clear WP g3 t3 h3 n3 f3 g5 n5 TW ah a6 t5 b4 E T hz a8 aa a9 af;unfold nod;by_cases a4:re=0
  .subst a4;go_wp2_with fail;refine b0.o.mono ?_;rintro e W6 ⟨rfl,H6,g6,t6,h6⟩;have O:Hid (I=writeF u.a u.c u.n):=by show I=_;rw[<-a1.o,ae.o,if_neg (by rw[a5.o];simp)]
   (have HF:Hid (GzTo H w W6 t cc d M N I.a b I.c):=by show GzTo _ _ _ _ _ _ _ _ _ _ _;rw[O.o];exact⟨H6,g6,ab.o.trans t6 (λ y hy e=>(a7.o y e).elim id (λ e=>by omega)),λ k hk=>(h6 k hk).elim (a7.o k) (λ e=>.inr (by have:=ab.o.size;omega))⟩);(have ag:Hid ((writeF u.a u.c u.n).x=I.x/\(writeF u.a u.c u.n).e=I.e):=by show _/\_;rw[O.o];exact⟨rfl,rfl⟩);rw[ag.o.1,ag.o.2];clear g6 t6 h6;go_wp2_with fail;go_ret2;exact⟨rfl,HF.o⟩
  .have b3:(re==0)=false:=by rw[zl0];exact a4
   (have b8:(re != 0)=true:=by rw[bne,b3];rfl);have O:Hid (I=⟨0,re,u.a,u.c⟩):=by show I=_;rw[<-a1.o,ae.o,if_pos (by rw[a5.o];exact a4),a5.o]
   clear a4;go_wp2_with fail;go_ret2;rw[O.o];exact⟨rfl,H3,av.o,ab.o,a7.o⟩
end
def BelT(H:Nat->Prop)(w:World)(t cc d M N:Nat)(b:CB)(r:BR)(e:Ending)(w':World):Prop:=
 ∃H' Z v,e=.returned (.tuple #[v,.int .i64 r.e])/\Gz H' w' t cc d M N r.a b r.c/\Tch H w w'/\(∀k,H' k->H k\/w.heap.size<=k)/\Ps Z w' v r.ps/\(∀k,Z k->w.heap.size<=k/\k<w'.heap.size/\¬H' k)
section
variable {H:Nat->Prop} {t cc d M N:Nat} {a:AS} {b:CB} {c:CH}
def Gz.after{u:Nat->Prop}{w I K:World}{a:AS}{c:CH}(E:Tch H w I)(A:∀k,u k->H k\/w.heap.size<=k)(g:GzTo u I K t cc d M N a b c):GzTo H w K t cc d M N a b c:=by obtain⟨O,Q,t6,T⟩:=g;exact⟨O,Q,E.trans t6 (λ y hy e=>(A y e).elim id (λ e=>by omega)),λ k Y=>(T k Y).elim (A k) (λ e=>.inr (by have:=E.size;omega))⟩
def zow9(D:CD)(x:Int)(w:World)(Qk:Prop)
 (hp:Calls Tryz.prog 113 #[chp b,.int .i64 x] w λ e w'=>BelT H w t cc d M N b (partsF D a c x) e w'/\Qk)
 (hQ:Qk->(∀p,p∈(partsF D a c x).ps->Sm p)/\(partsF D a c x).c.tk.length<=1000/\(partsF D a c x).c.lv<=1000/\
 (replaceF (partsF D a c x).a (partsF D a c x).c top0 0 1 (partsF D a c x).ps).c.tk.length<=100000/\Sm (replaceF (partsF D a c x).a (partsF D a c x).c top0 0 1 (partsF D a c x).ps).n):
 Calls Tryz.prog 85 #[chp b,.int .i64 x] w λ e w'=>e=.returned (.tuple #[.int .i64 (rootedF D a c x).x,.int .i64 (rootedF D a c x).e])/\GzTo H w w' t cc d M N (rootedF D a c x).a b (rootedF D a c x).c/\Qk:=by
 obtain⟨r,hr⟩:=exH (partsF D a c x);rw[hr.o]at hp hQ;obtain⟨u,af⟩:=exH (rootedF D a c x);rw[af.o];have a5:Hid (u=if r.e≠0 then⟨0,r.e,r.a,r.c⟩else if r.ps.length=0 then⟨0,0,r.a,r.c⟩else if r.ps.length=1 then(if (r.ps.getD 0 noneN).kd.length=1 then⟨dA (r.ps.getD 0 noneN) 0,0,r.a,r.c⟩else writeF r.a r.c (r.ps.getD 0 noneN))else raiseF r.a r.c r.ps):=by show u=_;rw[<-af.o];unfold rootedF;rw[hr.o]
 have HP:=za0 hp;have HQ:=za0 hQ;obtain⟨cb,aa⟩:=exH b.cb;unfold chp at HP |-
 rw[aa.o]at HP |-
 clear hp hQ
 go_enter Tryz.func85,Tryz.ntmps85
 go_wp2_with fail;refine HP.o.mono ?_;rintro e O ⟨⟨H1,Z,v,rfl,g1,t1,h1,p1,z1⟩,K⟩;obtain⟨hs,hl,ak,ai,al⟩:=HQ.o K;have HS:=za0 hs;have HL:=za0 hl;have an:=za0 ak;have am:=za0 ai;have ao:=za0 al;have HK:=za0 K;clear hs hl ak ai al K;obtain⟨ar,va,rfl⟩:=p1.len;obtain⟨pl,I⟩:=exH r.ps.length;obtain⟨re,Q⟩:∃L,Hid (r.e=L):=⟨_,rfl⟩
 rw[I.o]at p1 ar |-
 rw[Q.o];have a0:=za0 g1;have a6:=za0 t1;have a4:=za0 h1;have ab:=za0 p1;have ap:=za0 z1;clear g1 t1 h1 p1 z1;by_cases a8:re=0
 .subst a8;by_cases h0:pl=0
  .subst h0;have A:Hid (u=⟨0,0,r.a,r.c⟩):=by show u=_;rw[a5.o,if_neg (by rw[Q.o];simp),if_pos I.o]
   go_wp2_with fail;go_ret2;rw[A.o];exact⟨rfl,⟨H1,a0.o,a6.o,a4.o⟩,HK.o⟩
  .by_cases h1:pl=1
   .subst h1;obtain⟨n,hn⟩:∃n,r.ps=[n]:=by
     have:=I.o
     match hh:r.ps,this with
     | [n],_=>exact⟨n,rfl⟩
    have ac:=ab.o;rw[hn]at ac;obtain⟨q,u1,u2,u3,hv,K,T,zq,zu⟩:=ac;cases hv;obtain⟨a1,c1,a2,c2,a3,c3,rfl,rfl,rfl,_,_,_,_⟩:=T.o;obtain⟨L1,ad⟩:=exH n.ks.length;obtain⟨L2,ae⟩:=exH n.vs.length;obtain⟨L3,a7⟩:=exH n.kd.length;obtain⟨lf,aj⟩:=exH n.lf;rw[ad.o,ae.o,a7.o]at T;rw[ad.o,ae.o,a7.o,aj.o]at K;have Y:=λ i=>cell_of_row O q i _ _ (0,0) K;(have k0:O.cell? ⟨q,0,none⟩=some (.bool lf):=by rw[Y];rfl);(have k1:O.cell? ⟨q,1,none⟩=some (.slice a1 L1 c1):=by rw[Y];rfl);(have k2:O.cell? ⟨q,2,none⟩=some (.slice a2 L2 c2):=by rw[Y];rfl);(have k3:O.cell? ⟨q,3,none⟩=some (.slice a3 L3 c3):=by rw[Y];rfl);have au:=za0 T;(have ag:Hid (r.ps.getD 0 noneN=n):=by show _=_;rw[hn];rfl);by_cases h3:L3=1
    .subst h3;obtain⟨kb,ko,rfl,ck⟩:=T.kid (i:=0) (by rw[a7.o];decide);rw[Nat.add_zero]at ck;obtain⟨kd,ah⟩:=exH (dA n 0);rw[ah.o]at ck;have A:Hid (u=⟨kd,0,r.a,r.c⟩):=by show u=_;rw[a5.o,if_neg (by rw[Q.o];simp),if_neg (by rw[I.o];simp),if_pos I.o,ag.o,if_pos a7.o,ah.o]
     clear Y K T zq zu h0;go_wp2_with fail;go_ret2;rw[A.o];exact⟨rfl,⟨H1,a0.o,a6.o,a4.o⟩,HK.o⟩
    .have d3:decide ((L3:Int)=1)=false:=by rw[zn4];omega
     (have e3:((L3:Int)==1)=false:=by rw[zl0];omega);have A:Hid (u=writeF r.a r.c n):=by show u=_;rw[a5.o,if_neg (by rw[Q.o];simp),if_neg (by rw[I.o];simp),if_pos I.o,ag.o,if_neg (by rw[a7.o];exact h3)]
     have E:=zem9 n _ _ _ O a0.o T (HS.o n (by rw[hn];simp)) (by have:=HL.o;omega);unfold chp nod at E;rw[aa.o,aj.o,<-A.o]at E;have a9:=za0 E;clear Y K T zq zu h0 E;go_wp2_with fail;refine a9.o.mono ?_;rintro e W6 ⟨rfl,g6⟩;have HF:=za0 (Gz.after a6.o a4.o g6);clear g6;go_wp2_with fail;go_ret2;exact⟨rfl,HF.o,HK.o⟩
   .have h2:pl=2:=by omega
    (subst h2;have A:Hid (u=raiseF r.a r.c r.ps):=by show u=_;rw[a5.o,if_neg (by rw[Q.o];simp),if_neg (by rw[I.o];simp),if_neg (by rw[I.o];simp)]);have E:=zor9 r.ps _ Z O a0.o ab.o (λ k hk=>(ap.o k hk).2.2) HS.o HL.o an.o am.o ao.o;unfold chp at E;rw[aa.o,<-A.o]at E;have a9:=za0 E;clear E h0 h1;go_wp2_with fail;refine a9.o.mono ?_;rintro e W6 ⟨rfl,g6⟩;have HF:=za0 (Gz.after a6.o a4.o g6);clear g6;go_wp2_with fail;go_ret2;exact⟨rfl,HF.o,HK.o⟩
 .have aq:(re==0)=false:=by rw[zl0];exact a8
  have av:(re != 0)=true:=by rw[bne,aq];rfl
  have A:Hid (u=⟨0,re,r.a,r.c⟩):=by show u=_;rw[a5.o,if_pos (by rw[Q.o];exact a8),Q.o]
  clear a8;go_wp2_with fail;go_ret2;rw[A.o];exact⟨rfl,⟨H1,a0.o,a6.o,a4.o⟩,HK.o⟩
end
section
variable {H:Nat->Prop} {t cc d M N:Nat} {a:AS} {b:CB}
def zvc9(D:CD)(x:Int)(w:World)(Qk:Prop)
 (hp:Calls Tryz.prog 85 #[chp b,.int .i64 x] w λ e w'=>e=.returned (.tuple #[.int .i64 (rootedF D a ch0 x).x,.int .i64 (rootedF D a ch0 x).e])/\GzTo H w w' t cc d M N (rootedF D a ch0 x).a b (rootedF D a ch0 x).c/\Qk)
 (hl:Qk->(rootedF D a ch0 x).c.tk.length<=100000/\(rootedF D a ch0 x).c.gn.length<=100000):
 Calls Tryz.prog 53 #[chp b,.int .i64 x] w λ e w'=>e=.returned (.tuple #[.int .i64 (madeF D a x).x,.int .i64 (madeF D a x).e])/\TzTo H w w' t cc d M N (madeF D a x).a:=by
 obtain⟨r,hr⟩:=exH (rootedF D a ch0 x);rw[hr.o]at hp hl;obtain⟨O,a9⟩:=exH (madeF D a x);rw[a9.o];have a5:Hid (O=if r.e≠0 then⟨0,r.e,r.a.gos r.c.tk⟩else⟨r.x,0,r.a.gos r.c.gn⟩):=by show O=_;rw[<-a9.o];unfold madeF;rw[hr.o]
 obtain⟨re,a2⟩:∃L,Hid (r.e=L):=⟨_,rfl⟩
 obtain⟨rx,aa⟩:=exH r.x;rw[a2.o,aa.o]at hp;have HP:=za0 hp;have HL:=za0 hl;obtain⟨u,a0⟩:=exH b.cb;unfold chp at HP |-
 rw[a0.o]at HP |-
 clear hp hl
 go_enter Tryz.func53,Tryz.ntmps53
 go_wp2_with fail;refine HP.o.mono ?_;rintro e E ⟨rfl,⟨H1,⟨U,vt,vg,A⟩,t1,h1⟩,hq⟩;obtain⟨Y,tc,aj⟩:=A.cg.tk.long;obtain⟨Q,T,ai⟩:=A.cg.gn.long;subst aj ai;obtain⟨K,ag⟩:=exH ((nums r.c.tk).length);obtain⟨I,af⟩:=exH ((nums r.c.gn).length);rw[ag.o,af.o]at A;have n2:=A.tz.n2;have k0:E.drew.cell? ⟨u,0,none⟩=some (tp t):=by rw[<-a0.o];exact(A.cg.cell 0).trans rfl
 have k5:E.drew.cell? ⟨u,5,none⟩=some (.slice Y K tc):=by rw[<-a0.o];exact(A.cg.cell 5).trans rfl
 have k6:E.drew.cell? ⟨u,6,none⟩=some (.slice Q I T):=by rw[<-a0.o];exact(A.cg.cell 6).trans rfl
 have TD:Tch (λ _=>False) E E.drew:=zac9 _ _;have T1:Tch H w E.drew:=t1.trans TD (λ _ _ e=>e.elim);have ab:¬U u:=by rw[<-a0.o];exact A.un _ (.inl rfl)
 have zd:Tz U E.drew t cc d M N r.a:=A.tz.tch TD (λ _ _ e=>e);have hU:∀k,U k->H k\/w.heap.size<=k:=λ k hk=>h1 k (A.hx k (.inl hk));have a6:Hid (∀W X,TzTo U E.drew W t cc d M N X->(W.cell? ⟨u,0,none⟩=some (tp t)/\W.cell? ⟨u,5,none⟩=some (.slice Y K tc)/\W.cell? ⟨u,6,none⟩=some (.slice Q I T))/\TzTo H w W t cc d M N X):=λ W X hW=>by
  have e2:=TzTo.after T1 hU hW;obtain⟨U',z,tt,_⟩:=hW;have q:∀i v,E.drew.cell? ⟨u,i,none⟩=some v->W.cell? ⟨u,i,none⟩=some v:=λ i v h=>by rw[tt.cell (p:=⟨u,i,none⟩) (ze0 E.drew ⟨u,i,none⟩ h) ab];exact h
  exact⟨⟨q _ _ k0,q _ _ k5,q _ _ k6⟩,e2⟩
 have hS:E.drew.cell? ⟨u,0,none⟩=some (tp t)/\E.drew.cell? ⟨u,5,none⟩=some (.slice Y K tc)/\E.drew.cell? ⟨u,6,none⟩=some (.slice Q I T):=⟨k0,k5,k6⟩
 have ah:=HL.o hq;have a8:=zgb9 r.c.tk (λ y hy=>by have:=A.cg.wf y (.inl hy);exact zay9 (by omega) (by omega)) (.slice Y K tc) E.drew zd (A.cg.tk.rd.tch TD (λ _ _ e=>e)) (λ j hj=>A.un j (.inr (.inl hj))) (by omega);have a7:=zgb9 r.c.gn (λ y hy=>by have:=A.cg.wf y (.inr hy);exact zay9 (by omega) (by omega)) (.slice Q I T) E.drew zd (A.cg.gn.rd.tch TD (λ _ _ e=>e)) (λ j hj=>A.un j (.inr (.inr hj))) (by omega);have ad:=za0 a8;have ac:=za0 a7;clear a8 a7 ah hU zd ab T1 TD k0 k5 k6 n2 A t1 h1;by_cases a1:re=0
 .subst a1;have HR:Hid (O=⟨rx,0,r.a.gos r.c.gn⟩):=by show O=_;rw[a5.o,if_neg (by rw[a2.o];simp),aa.o]
  go_wp2_with fail
  go_region_held3 (λ w'=>w'.cell? ⟨u,0,none⟩=some (tp t)/\w'.cell? ⟨u,5,none⟩=some (.slice Y K tc)/\w'.cell? ⟨u,6,none⟩=some (.slice Q I T)) (first|go_keep|exact a4)
   (first
    | (go_at_call 58;refine ac.o.mono ?_;rintro e W9 ⟨rfl,h9⟩;obtain⟨a4,g9⟩:=a6.o W9 _ h9;have a3:=za0 g9;clear h9 g9))
  go_wp2_with fail;go_ret2;rw[HR.o];exact⟨rfl,a3.o⟩
 .have ae:(re==0)=false:=by rw[zl0];exact a1
  have ak:(re != 0)=true:=by rw[bne,ae];rfl
  have HR:Hid (O=⟨0,re,r.a.gos r.c.tk⟩):=by show O=_;rw[a5.o,if_pos (by rw[a2.o];exact a1),a2.o]
  clear a1;go_wp2_with fail
  go_region_held3 (λ w'=>w'.cell? ⟨u,0,none⟩=some (tp t)/\w'.cell? ⟨u,5,none⟩=some (.slice Y K tc)/\w'.cell? ⟨u,6,none⟩=some (.slice Q I T)) (first|go_keep|exact a4)
   (first
    | (go_at_call 58;refine ad.o.mono ?_;rintro e W9 ⟨rfl,h9⟩;obtain⟨a4,g9⟩:=a6.o W9 _ h9;have a3:=za0 g9;clear h9 g9))
  go_wp2_with fail;go_ret2;rw[HR.o];exact⟨rfl,a3.o⟩
end
