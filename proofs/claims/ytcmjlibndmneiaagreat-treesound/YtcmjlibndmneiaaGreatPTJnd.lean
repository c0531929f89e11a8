import Derived.Test.YtcmjlibndmneiaaGreatPTRpl
import Derived.Deep.CutBlock
import Derived.Deep.DeepCutAuto
set_option maxRecDepth 100000
set_option linter.all false
set_option maxHeartbeats 8000000
namespace Go.Proofs.YtcmjlibndmneiaaGreat
open Go.RowKit Go.Maps Pl
def JndT(H:Nat->Prop)(w:World)(t cc d M N:Nat)(a:AS)(b:CB)(p1 p2 p3:Value)(r:JR)(e:Ending)(w':World):Prop:=
 ∃H' x1 x2 x3,e=.returned (.tuple #[nod r.n.lf x1 x2 x3,.int .i64 (r.i:Int),.int .i64 (r.j:Int),.int .i64 r.e])/\Gz H' w' t cc d M N a b r.c/\Tch H w w'/\(∀k,H' k->H k\/w.heap.size<=k)/\Nn w' r.n x1 x2 x3/\
  (∀j,(x1.ownBlock=some j\/x2.ownBlock=some j\/x3.ownBlock=some j)->(p1.ownBlock=some j\/p2.ownBlock=some j\/p3.ownBlock=some j\/w.heap.size<=j)/\¬H' j)
structure JnI(H:Nat->Prop)(w1:World)(t cc d M N:Nat)(a:AS)(b:CB)(c:CH)(wr:World)(H':Nat->Prop):Prop where
 gz:Gz H' wr t cc d M N a b c
 tc:Tch H w1 wr
 hh:∀j,H' j->H j\/w1.heap.size<=j
section
variable {H:Nat->Prop} {t cc d M N:Nat} {a:AS} {b:CB} {c:CH}
def RdG(H:Nat->Prop)(w:World)(t cc d M N:Nat)(a:AS)(b:CB)(c:CH)(r:Int×Nd)(e:Ending)(w':World):Prop:=
 ∃H' v1 v2 v3,e=.returned (.tuple #[nod r.2.lf v1 v2 v3,.int .i64 r.1])/\Ow3 w.heap.size w' r.2 v1 v2 v3/\Gz H' w' t cc d M N a b c/\Tch H w w'/\(∀k,H' k->H k\/w.heap.size<=k)/\Ap3 H' v1 v2 v3
def zkb9(x:Int)(lv:Nat)(w:World)(G:Gz H w t cc d M N a b c):
 Calls Tryz.prog 106 #[tp t,.int .i64 x,.int .i64 (lv:Int)] w λ e w'=>RdG H w t cc d M N a b c (look a x lv) e w':=by
 obtain⟨U,Q,O,h⟩:=G;refine(zkc9 x lv w h.tz).mono ?_;rintro e w' ⟨v1,v2,v3,rfl,Y,A,I,E,K,h4⟩;obtain⟨U2,g1,g2,g3⟩:=h.tzTo ⟨A,I,E,K⟩;have a0:∀k,(k=b.cb\/Q.ownBlock=some k\/O.ownBlock=some k)->k<w.heap.size:=λ k u=>h.hl k (h.hx k (.inr u));have G':GzAt (λ k=>H k\/A k) w' t cc d M N a b c A Q O:=⟨I,h.cg.tch E (λ k u=>h.un k u),λ k u e=>(K k e).elim (h.un k u) (λ e=>by have:=a0 k u;omega),λ k u=>u.elim .inr (λ e=>.inl (h.hx k (.inr e))),λ k u=>u.elim (λ e=>zn1 (h.hl k e) E.size) (I.ul k)⟩
 refine⟨_,v1,v2,v3,rfl,Y,⟨A,Q,O,G'⟩,E.mono (λ k _ e=>h.hx k (.inl e)),λ k u=>u.elim .inl (λ e=>(K k e).imp (λ q=>h.hx k (.inl q)) id),λ j T e=>?_⟩;rcases e with e|e
 .have:=h.hl j e;have:=Y.fr j T;omega
 .exact h4 j T e
def zau9{E:Func}{p u v x:Tmp}{ty:TypeId}(h:E.results=#[.cell p ty,.tmp u,.tmp v,.tmp x])(A:Array Value)(P:Program)(w:World)(b:Nat)(r O Q T:Value)(ha:A.getD p undef=.pointer (some ⟨b,0,none⟩))
 (Y:(loadVar ty ⟨b,0,none⟩).run P w=.ok r w) (H:A.getD u undef=O) (I:A.getD v undef=Q) (K:A.getD x undef=T):(results E A).run P w=.ok (.tuple #[r,O,Q,T]) w:=by
 rw[Array.getD_eq_getD_getElem?]at ha H I K;simp only[results,h];simp[Sem.run_bind,Result.andThen,asAddr];rw[ha,H,I,K];simp[Y]
def zvf9{m:Nd}(h:mayN m=true)(K:Sm m):m.ks.length<=1000/\m.vs.length<=1000/\m.kd.length<=1000:=by
 have A:=zq9.1 h;have hr:=zco9 A (by have:=K.kl;omega);have I:=enc_le hr (zn6 _);rw[zmv9 hr (zn6 _)]at I;have O:=szN_ge m m.ks.length;obtain⟨_,_,_,u⟩:=A;split at u
 .obtain⟨_,E,H⟩:=u;omega
 .obtain⟨_,E,H⟩:=u;omega
def znb9{α:Type}(xs ys:List α)(i:Nat)(z:α):(xs++ys).getD i z=if i<xs.length then xs.getD i z else ys.getD (i-xs.length) z:=by
 simp only[zn3];split
 .rw[zo0 (by assumption)]
 .rw[zn0 (by omega)]
def zgm9{n m:Nd}(A:Sm n)(u:Sm m)(E:n.ks.length+m.ks.length<=4000)(H:n.vs.length+m.vs.length<=4000)(I:n.kd.length+m.kd.length<=4000):Sm (joinN n m):=by
 refine⟨λ i=>?_,λ i=>?_,?_,?_,?_⟩
 .show((n.ks++m.ks).getD i eS).size<=_;rw[znb9];split
  .exact A.ks i
  .exact u.ks _
 .show((n.vs++m.vs).getD i eS).size<=_;rw[znb9];split
  .exact A.vs i
  .exact u.vs _
 .show(n.ks++m.ks).length<=_;rw[zf0];omega
 .show(n.vs++m.vs).length<=_;rw[zf0];omega
 .show(n.kd++m.kd).length<=_;rw[zf0];omega
theorem idx2a(x y:Int)(w:World):(Instr.index 245 (.agg #[.int .i64 x,.int .i64 y]) (.int .i64 0)).run Tryz.prog w=.ok (.int .i64 x) w:=by kernel_rfl
theorem idx2b(x y:Int)(w:World):(Instr.index 245 (.agg #[.int .i64 x,.int .i64 y]) (.int .i64 1)).run Tryz.prog w=.ok (.int .i64 y) w:=by kernel_rfl
def zlc9(n p:Nd)(u1 u2 u3 p1 p2 p3:Value)(at_ lv:Nat)(w:World)(G:Gz H w t cc d M N a b c)(hn:Nn w n u1 u2 u3)(hp:Nn w p p1 p2 p3)(ha:Ap3 H u1 u2 u3)(di:Ap3 H p1 p2 p3)(dn:∀j,(p1.ownBlock=some j\/p2.ownBlock=some j\/p3.ownBlock=some j)->j<w.heap.size)(fb:Sm p)(bi:p.ks.length<=1000/\p.vs.length<=1000/\p.kd.length<=1000)(i8:at_<=1000)(ig:lv<=1000)(g7:n.kd.length<=1000)(dk:∀i,i<n.kd.length->0<=dA n i/\dA n i<=65535)(hl:c.gn.length<=1000)(hV:∀x,(a.V x).1=0->mayN (a.V x).2=true/\Sm (a.V x).2):
 Calls Tryz.prog 160 #[chp b,nod n.lf u1 u2 u3,.int .i64 (at_:Int),.int .i64 (lv:Int),nod p.lf p1 p2 p3] w λ e w'=>JndT H w t cc d M N a b p1 p2 p3 (joinedF a c n at_ lv p) e w':=by
 obtain⟨a1,c1,a2,c2,a3,c3,rfl,rfl,rfl,_,_,_,_⟩:=hn.o;obtain⟨d1,f1,d2,f2,d3,f3,rfl,rfl,rfl,_,_,_,_⟩:=hp.o;obtain⟨L1,fw⟩:=exH n.ks.length;obtain⟨L2,fx⟩:=exH n.vs.length;obtain⟨L3,b5⟩:=exH n.kd.length;obtain⟨lf,g4⟩:=exH n.lf;obtain⟨P1,fy⟩:=exH p.ks.length;obtain⟨P2,g0⟩:=exH p.vs.length;obtain⟨P3,g1⟩:=exH p.kd.length;obtain⟨pf,c5⟩:=exH p.lf;rw[fw.o,fx.o,b5.o]at hn ha |-
 rw[fy.o,g0.o,g1.o]at hp di dn |-
 rw[b5.o]at g7 dk;rw[g4.o,c5.o];obtain⟨W1,df⟩:=exN (w.alloc (.cells #[.bool lf,.slice a1 L1 c1,.slice a2 L2 c2,.slice a3 L3 c3] 93));obtain⟨O,dg⟩:=exN (W1.alloc (.cells #[.bool pf,.slice d1 P1 f1,.slice d2 P2 f2,.slice d3 P3 f3] 93));obtain⟨W3,dh⟩:=exN (O.alloc (.cells #[.bool false,.slice none 0 0,.slice none 0 0,.slice none 0 0] 93));have s1:W1.heap.size=w.heap.size+1:=by rw[<-df];simp
 have s2:O.heap.size=w.heap.size+2:=by rw[<-dg];simp[s1]
 have s3:W3.heap.size=w.heap.size+3:=by rw[<-dh];simp[s2]
 have b1:Below w.heap.size w W1:=by rw[<-df];exact za9 _ _
 have b2:Below W1.heap.size W1 O:=by rw[<-dg];exact za9 _ _
 have b3:Below O.heap.size O W3:=by rw[<-dh];exact za9 _ _
 have dc:=b1.trans (b2.mono b1.size);have et:=dc.trans (b3.mono dc.size);have V3:Nb W3 93 w.heap.size lf (.slice a1 L1 c1) (.slice a2 L2 c2) (.slice a3 L3 c3):=by
  have:Nb W1 93 w.heap.size lf (.slice a1 L1 c1) (.slice a2 L2 c2) (.slice a3 L3 c3):=by rw[<-df];exact nb_new _ _ _ _ _ _
  exact(this.below b2).below b3
 have es:Nb W3 93 W1.heap.size pf (.slice d1 P1 f1) (.slice d2 P2 f2) (.slice d3 P3 f3):=by
  have:Nb O 93 W1.heap.size pf (.slice d1 P1 f1) (.slice d2 P2 f2) (.slice d3 P3 f3):=by rw[<-dg];exact nb_new _ _ _ _ _ _
  exact this.below b3
 have X3:Nb W3 93 O.heap.size false (.slice none 0 0) (.slice none 0 0) (.slice none 0 0):=by rw[<-dh];exact nb_new _ _ _ _ _ _
 have an:Hid (W1.heap.size=w.heap.size+1/\O.heap.size=w.heap.size+2/\W3.heap.size=w.heap.size+3):=⟨s1,s2,s3⟩
 have cz:=za0 V3;have cu:=za0 es;have bn:=za0 X3;have HB:=za0 et;have HG:=za0 G;have HN:=za0 hn;have HP:=za0 hp;have HA:=za0 ha;have ax:=za0 di;have cf:=za0 dn;have em:=za0 fb;have el:=za0 bi;have fi:=za0 dk;have ee:=za0 hl;have ay:=za0 G.hl;have fn:=za0 hV;obtain⟨cb,bx⟩:=exH b.cb;obtain⟨RR,de⟩:=exH (joinedF a c n at_ lv p);rw[de.o];unfold chp nod;rw[bx.o];have w1:=zej9 (x:=(at_:Int)-1) (by omega) (by omega);have w2:=zej9 (x:=(at_:Int)+1) (by omega) (by omega);clear G hn hp ha di dn fb bi dk hl hV b1 b2 b3 dc et V3 es X3 s1 s2 s3
 go_enter Tryz.func160,Tryz.ntmps160
 go_wp2_with fail
 go_loopw [25] (λ kv wr=>∃(k:Nat)(H':Nat->Prop),k<=2/\kv=.int .i64 k/\Hid (JnI H W3 t cc d M N a b c wr H'/\(1<=k->besF a c n at_ lv p ((at_:Int)-1)=none)/\(2<=k->besF a c n at_ lv p ((at_:Int)+1)=none))) (λ kv _=>2-(intOf kv).toNat)
 case atStart=>exact⟨0,H,by omega,rfl,⟨⟨HG.o.below HB.o,Tch.refl _ _,λ _ e=>.inl e⟩,λ e=>by omega,λ e=>by omega⟩⟩
 case round=>
  obtain⟨k,H',hk,rfl,hI⟩:=hrel;by_cases ie:k<2
  .have I:=hI.o;obtain⟨bv,av⟩:∃bv:Int,bv=(if k=0 then(at_:Int)-1 else(at_:Int)+1):=⟨_,rfl⟩
   have ia:(Instr.index 245 (.agg #[.int .i64 ((at_:Int)-1),.int .i64 ((at_:Int)+1)]) (.int .i64 (k:Int))).run Tryz.prog wr=.ok (.int .i64 bv) wr:=by
    (have:k=0\/k=1:=by omega);rcases this with rfl|rfl
    .rw[av,if_pos rfl];exact idx2a _ _ _
    .rw[av,if_neg (by decide)];exact idx2b _ _ _
   (have ic:(k:Int)<2:=by omega);(have ib:(0:Int)<=(k:Int):=by omega);(have g3:-1<=bv/\bv<=1001:=by rw[av];split<;>omega);have da:besF a c n at_ lv p bv=none->((1<=k+1->besF a c n at_ lv p ((at_:Int)-1)=none)/\(2<=k+1->besF a c n at_ lv p ((at_:Int)+1)=none)):=λ e=>by
    (have:k=0\/k=1:=by omega);rcases this with rfl|rfl
    .rw[av,if_pos rfl]at e;exact⟨λ _=>e,λ q=>by omega⟩
    .rw[av,if_neg (by decide)]at e;exact⟨λ _=>I.2.1 (by omega),λ _=>e⟩
   have hz:=an.o;have dt:=I.1.tc.size;(have bj:∀y,w.heap.size<=y->¬H y:=λ y h1 e=>by have:=ay.o y e;omega);have V0:=cz.o.tch I.1.tc (bj _ (zn6 _));have P0:=cu.o.tch I.1.tc (bj _ (by omega));have X0:=bn.o.tch I.1.tc (bj _ (by omega));have TW:=(Tch.of_below HB.o).trans I.1.tc (λ _ _ e=>e);have q3:=V0.c3;have ef:=za0 I;have ce:=za0 da;have fh:=za0 av;by_cases c4:bv<0\/(L3:Int)<=bv
   .have bd:Hid (besF a c n at_ lv p bv=none):=by show _=_;unfold besF;rw[if_pos (by rw[b5.o];exact c4)]
    clear I hI av V0 P0 X0 TW bj hz dt da;by_cases cl:bv<0
    .have e1:decide (bv<0)=true:=by rw[zm0];exact cl
     clear c4;go_wp2_with fail;exact⟨⟨k+1,H',by omega,by rfl,⟨ef.o.1,ce.o bd.o⟩⟩,by simp[intOf];omega⟩
    .have e1:decide (bv<0)=false:=by rw[zn4];exact cl
     have e2:=c4.resolve_left cl;have e3:=e2;(have e4:decide (bv>=(L3:Int))=true:=by rw[zm0];exact e2);(have e5:decide ((L3:Int)<=bv)=true:=by rw[zm0];exact e2);clear c4 cl;go_wp2_with fail;exact⟨⟨k+1,H',by omega,by rfl,⟨ef.o.1,ce.o bd.o⟩⟩,by simp[intOf];omega⟩
   .obtain⟨A,rfl⟩:∃A:Nat,bv=A:=⟨bv.toNat,by omega⟩
    (have ch:A<L3:=by omega);have fa:=HN.o.tch TW (λ y u=>HA.o y (.inl u)) (λ y u=>HA.o y (.inr (.inl u))) (λ y u=>HA.o y (.inr (.inr u)));obtain⟨kb,ko,rfl,ck⟩:=fa.kid (i:=A) (by rw[b5.o];exact ch);obtain⟨a0,cj⟩:=exH (dA n A);rw[cj.o]at ck;(have ei:Hid (0<=a0/\a0<=65535):=by rw[<-cj.o];exact fi.o A ch);(have e1:decide ((A:Int)<0)=false:=by rw[zn4];omega);(have e2:decide ((A:Int)>=(L3:Int))=false:=by rw[zn4];omega);(have e3:decide ((L3:Int)<=(A:Int))=false:=by rw[zn4];omega);(have e4:decide (L3<=A)=false:=by rw[zn4];omega);(have i0:(0:Int)<=(A:Int):=by omega);(have i1:(A:Int)<(L3:Int):=by omega);have wl:=wk_nat (x:=(lv:Int)+1) (t:=lv+1) (by omega) (by omega)
    have it:=zu9 (x:=(lv:Int)+1) (t:=lv+1) (by omega) (by omega);(have c0:wr.cell? ⟨cb,0,none⟩=some (tp t):=by rw[<-bx.o];exact I.1.gz.c0);have hS:wr.drew.cell? ⟨cb,0,none⟩=some (tp t)/\wr.drew.cell? ⟨w.heap.size,3,none⟩=some (.slice (some ⟨kb,ko,none⟩) L3 c3)/\wr.drew.cell? ⟨kb,ko+A,none⟩=some (.int .i64 a0):=⟨c0,q3,ck⟩
    have cv:Hid (∀W,Below wr.heap.size wr W->Calls Tryz.prog 106 #[tp t,.int .i64 a0,.int .i64 ((lv+1:Nat):Int)] W λ e w'=>RdG H' W t cc d M N a b c (look a a0 (lv+1)) e w'):=λ W hb=>zkb9 a0 (lv+1) W (I.1.gz.below hb);obtain⟨rd,dr⟩:=exH (look a a0 (lv+1));rw[dr.o]at cv;obtain⟨re,E⟩:=rd;obtain⟨R1,ez⟩:=exH E.ks.length;obtain⟨R2,f0⟩:=exH E.vs.length;obtain⟨R3,f4⟩:=exH E.kd.length;obtain⟨rl,c6⟩:=exH E.lf;have cd:Hid (Below wr.heap.size wr wr.drew):=(Below.refl _ _).drew;have ed:Hid (Below wr.heap.size wr (wr.drew.alloc (.cells #[.bool false,.slice none 0 0,.slice none 0 0,.slice none 0 0] 93))):=cd.o.trans (show Below wr.drew.heap.size wr.drew _ from za9 _ _);have g2:kb<w.heap.size:=by
     have:=HN.o.kid (i:=A) (by rw[b5.o];exact ch);obtain⟨ga,gb,e',cg⟩:=this;cases e';exact ze0 w ⟨kb,ko+A,none⟩ cg
    have en:Hid (∀W W5 Q,Below wr.heap.size wr W->Gz Q W5 t cc d M N a b c->Tch H' W W5->(∀y,Q y->H' y\/W.heap.size<=y)->
     (W5.cell? ⟨cb,0,none⟩=some (tp t)/\W5.cell? ⟨w.heap.size,3,none⟩=some (.slice (some ⟨kb,ko,none⟩) L3 c3)/\W5.cell? ⟨kb,ko+A,none⟩=some (.int .i64 a0))/\(JnI H W3 t cc d M N a b c W5 Q/\∀y,Q y->H' y\/wr.heap.size<=y)):=λ W W5 Q hb hg ht hh=>by
     have x1:Tch H' wr W5:=(Tch.of_below (S:=H') hb).trans ht (λ _ _ e=>e);have i9:=hb.size;have nk:¬H' kb:=λ e=>(I.1.hh kb e).elim (HA.o kb (.inr (.inr rfl))) (λ e=>by omega);have nw:¬H' w.heap.size:=λ e=>(I.1.hh _ e).elim (bj _ (zn6 _)) (λ e=>by omega);refine⟨⟨by rw[<-bx.o];exact hg.c0,?_,?_⟩,⟨hg,I.1.tc.trans x1 (λ y u e=>(I.1.hh y e).elim id (λ e=>by omega)),λ y u=>?_⟩,λ y u=>(hh y u).imp id (λ e=>by omega)⟩
     .exact(V0.tch x1 nw).c3
     .rw[x1.cell (p:=⟨kb,ko+A,none⟩) (ze0 wr ⟨kb,ko+A,none⟩ ck) nk];exact ck
     .rcases hh y u with e|e
      .exact I.1.hh y e
      .exact .inr (by omega)
    (have ej:Hid (∀W5,Tch H' (wr.drew.alloc (.cells #[.bool false,.slice none 0 0,.slice none 0 0,.slice none 0 0] 93)) W5->Nb W5 93 wr.heap.size false (.slice none 0 0) (.slice none 0 0) (.slice none 0 0)):=λ W5 ht=>by have n0:Nb (wr.drew.alloc (.cells #[.bool false,.slice none 0 0,.slice none 0 0,.slice none 0 0] 93)) 93 wr.heap.size false (.slice none 0 0) (.slice none 0 0) (.slice none 0 0):=nb_new wr.drew _ _ _ _ _;exact n0.tch ht (λ e=>by have:=I.1.gz.hl _ e;omega));have fk:=za0 I.1.gz.hl;have fl:Hid (W3.heap.size<=wr.heap.size):=dt;have cx:Hid (∀r,besF a c n at_ lv p (A:Int)=some r->RR=r):=λ r e=>by
     rw[<-de.o];unfold joinedF;(have dj:k=0\/k=1:=by omega);have ci:=fh.o;rcases dj with rfl|rfl
     .rw[if_pos rfl]at ci;rw[ci]at e;rw[e]
     .rw[if_neg (by decide)]at ci;rw[ci]at e;rw[I.2.1 (by omega),e]
    have cq:Hid ((re≠0->besF a c n at_ lv p (A:Int)=some ⟨re,noneN,0,0,c⟩)/\(re=0->(A:Int)<(at_:Int)->besF a c n at_ lv p (A:Int)=if mayN (joinN E p)=true then some ⟨0,joinN E p,A,A+2,leaveF a c a0⟩else none)/\(re=0->¬(A:Int)<(at_:Int)->besF a c n at_ lv p (A:Int)=if mayN (joinN p E)=true then some ⟨0,joinN p E,at_,at_+2,leaveF a c a0⟩else none)):=by
     (have e0:besF a c n at_ lv p (A:Int)=if re≠0 then some ⟨re,noneN,0,0,c⟩else if (A:Int)<(at_:Int)then(if mayN (joinN E p)=true then some ⟨0,joinN E p,A,A+2,leaveF a c a0⟩else none)else(if mayN (joinN p E)=true then some ⟨0,joinN p E,at_,at_+2,leaveF a c a0⟩else none):=by unfold besF;rw[if_neg (by rw[b5.o];omega),Int.toNat_natCast,cj.o,dr.o]);exact⟨λ h=>by rw[e0,if_pos h],λ h h'=>by rw[e0,if_neg (by rw[h];simp),if_pos h'],λ h h'=>by rw[e0,if_neg (by rw[h];simp),if_neg h']⟩
    have fm:Hid (re=0->mayN E=true/\Sm E):=λ e=>by
     have h:=dr.o;unfold look at h;split at h
     .have:=congrArg Prod.fst h;simp at this;omega
     .have:=fn.o a0 (by rw[h];exact e);rw[h]at this;exact this
    (have eh:Hid (∀W,Tch H w W->W.cell? ⟨kb,ko+A,none⟩=some (.int .i64 a0)):=λ W hW=>by have h':Nn W n (.slice a1 L1 c1) (.slice a2 L2 c2) (.slice (some ⟨kb,ko,none⟩) L3 c3):=HN.o.tch hW (λ y u=>HA.o y (.inl u)) (λ y u=>HA.o y (.inr (.inl u))) (λ y u=>HA.o y (.inr (.inr u)));obtain⟨ga,gb,e',cg⟩:=h'.kid (i:=A) (by rw[b5.o];exact ch);cases e';rw[cj.o]at cg;exact cg);clear I hI av da c4 g3 TW bj fa g2 hz dt
    go_upto_region 5 with fail
    go_cut [16,17,25]from 26 to 80 (λ pv ev kv wc=>∃(q:Nat)(x1:Option Addr)(y1:Nat)(x2:Option Addr)(y2:Nat)(x3:Option Addr)(y3:Nat) (Q:Nat->Prop),pv=.pointer (some ⟨q,0,none⟩)/\ev=.int .i64 re/\kv=.int .i64 (k:Int)/\Hid (Nb wc 93 q rl (.slice x1 R1 y1) (.slice x2 R2 y2) (.slice x3 R3 y3)/\Nn wc E (.slice x1 R1 y1) (.slice x2 R2 y2) (.slice x3 R3 y3)/\Fr3 wr.heap.size (.slice x1 R1 y1) (.slice x2 R2 y2) (.slice x3 R3 y3)/\JnI H W3 t cc d M N a b c wc Q/\(∀y,Q y->H' y\/wr.heap.size<=y)/\Ap3 Q (.slice x1 R1 y1) (.slice x2 R2 y2) (.slice x3 R3 y3)/\¬Q q))
    case first=>
     go_wp2_with fail;(have gc:Tryz.prog.follows .mixedOrders=true:=by kernel_rfl);refine beginW (S:=λ w'=>w'.cell? ⟨cb,0,none⟩=some (tp t)/\w'.cell? ⟨w.heap.size,3,none⟩=some (.slice (some ⟨kb,ko,none⟩) L3 c3)/\w'.cell? ⟨kb,ko+A,none⟩=some (.int .i64 a0)) (t:=17) gc ?_;refine tkW 0 (some 38) (.move (.tmp 0)) (Value.pointer (some ⟨cb,0,none⟩)) (by rintro o T w' ⟨z1,z2,z3⟩;go_simp) hS ?_;simp only[zw];refine tkW 1 (some 39) (.nilCheck (.tmp 38)) (Value.pointer (some ⟨cb,0,none⟩)) (by rintro o T w' ⟨z1,z2,z3⟩;go_simp) hS ?_;simp only[zw];refine tkW 2 (some 40) (.fieldAddr 114 (.tmp 39) 0) (Value.pointer (some ⟨cb,0,none⟩)) (by rintro o T w' ⟨z1,z2,z3⟩;go_simp) hS ?_;simp only[zw]
     refine tkW 3 (some 41) (.load 34 (.tmp 40)) (tp t) (by rintro o T w' ⟨z1,z2,z3⟩;go_simp) hS ?_;simp only[zw];refine tkW 4 (some 42) (.fieldAddr 93 (.tmp 6) 3) (Value.pointer (some ⟨w.heap.size,3,none⟩)) (by rintro o T w' ⟨z1,z2,z3⟩;go_simp) hS ?_;simp only[zw];refine tkW 5 (some 43) (.load 56 (.tmp 42)) (Value.slice (some ⟨kb,ko,none⟩) L3 c3) (by rintro o T w' ⟨z1,z2,z3⟩;go_simp) hS ?_;simp only[zw];refine tkW 6 (some 44) (.move (.tmp 15)) (Value.int .i64 (A:Int)) (by rintro o T w' ⟨z1,z2,z3⟩;go_simp) hS ?_;simp only[zw];refine tkW 7 (some 45) (.indexAddr 56 (.tmp 43) (.tmp 44)) (Value.pointer (some ⟨kb,ko+A,none⟩)) (by rintro o T w' ⟨z1,z2,z3⟩;go_simp) hS ?_;simp only[zw]
     refine tkW 8 (some 46) (.load 3 (.tmp 45)) (Value.int .i64 a0) (by rintro o T w' ⟨z1,z2,z3⟩;go_simp) hS ?_;simp only[zw];refine tkW 9 (some 47) (.move (.tmp 3)) (Value.int .i64 (lv:Int)) (by rintro o T w' ⟨z1,z2,z3⟩;go_simp) hS ?_;simp only[zw];refine tkW 10 (some 48) (.binOp .add 3 (.tmp 47) (.const (.int .i64 1)) 3) (Value.int .i64 ((lv+1:Nat):Int)) (by rintro o T w' ⟨z1,z2,z3⟩;go_simp) hS ?_;simp only[zw];refine zda9 11 15 (some 49) (.call { callee:=.value (.func 106),args:=#[.tmp 41,.tmp 46,.tmp 48],argTypes:=#[34,3,3] }) (some 16) (.alloc 93) rfl rfl (by kernel_rfl) ?_ ?_
     .rintro o K hd T hg hK;refine zg9 (enters_of Tryz.func106 (by kernel_rfl) rfl) T (vs:=#[tp t,.int .i64 a0,.int .i64 ((lv+1:Nat):Int)]) (by kernel_rfl) (cv.o _ cd.o) ?_;rintro e W5 ⟨Q,v1,v2,v3,he,ag,bz,bb,bh,b8⟩;obtain⟨x1,y1,x2,y2,x3,y3,rfl,rfl,rfl,_,_,_,_⟩:=ag.nn.o;simp only[ez.o,f0.o,f4.o,c6.o]at he ag b8;refine⟨_,he,?_⟩;rw[hd];obtain⟨ac,ah⟩:=en.o _ W5 Q cd.o bz bb bh;refine hK _ _ (λ _=>ac) ?_;clear T hd hg hK he;simp only[zw];refine tkW 12 (some 37) (.move (.tmp 49)) (Value.tuple #[nod rl (.slice x1 R1 y1) (.slice x2 R2 y2) (.slice x3 R3 y3),.int .i64 re]) (by rintro o T w' _;go_simp) ac ?_;simp only[zw]
      refine tkW 13 (some 50) (.extract (.tmp 37) 0) (nod rl (.slice x1 R1 y1) (.slice x2 R2 y2) (.slice x3 R3 y3)) (by rintro o T w' _;go_simp) ac ?_;simp only[zw];refine tkW 14 (some 51) (.extract (.tmp 37) 1) (Value.int .i64 re) (by rintro o T w' _;go_simp) ac ?_;simp only[zw];obtain⟨q,hq⟩:=exN W5.heap.size;refine rdW 15 (some 16) (.alloc 93) ?_;rintro o K hd T hg hK;refine zbt9 T ?_;rw[hd,hq];obtain⟨Y,hY⟩:=exN (W5.alloc (.cells #[.bool false,.slice none 0 0,.slice none 0 0,.slice none 0 0] 93));rw[hY];(have bY:Below W5.heap.size W5 Y:=by rw[<-hY];exact za9 _ _);have b0:Nb Y 93 q false (.slice none 0 0) (.slice none 0 0) (.slice none 0 0):=by rw[<-hY,<-hq];exact nb_new _ _ _ _ _ _
      (have az:Hid (cb<q/\w.heap.size<q/\kb<q):=by rw[<-hq];exact⟨ze0 W5 ⟨cb,0,none⟩ ac.1,ze0 W5 ⟨w.heap.size,3,none⟩ ac.2.1,ze0 W5 ⟨kb,ko+A,none⟩ ac.2.2⟩);have bg:Y.cell? ⟨cb,0,none⟩=some (tp t)/\Y.cell? ⟨w.heap.size,3,none⟩=some (.slice (some ⟨kb,ko,none⟩) L3 c3)/\Y.cell? ⟨kb,ko+A,none⟩=some (.int .i64 a0):=by (have q:∀p v,W5.cell? p=some v->Y.cell? p=some v:=λ p v hp=>by rw[bY.cell (ze0 W5 p hp)];exact hp);exact⟨q _ _ ac.1,q _ _ ac.2.1,q _ _ ac.2.2⟩
      refine hK _ _ (λ _=>bg) ?_;clear T hd hg hK;simp only[zw];obtain⟨W7,ap⟩:=exN ((((Y.setCell ⟨q,0,none⟩ (.bool rl)).setCell ⟨q,1,none⟩ (.slice x1 R1 y1)).setCell ⟨q,2,none⟩ (.slice x2 R2 y2)).setCell ⟨q,3,none⟩ (.slice x3 R3 y3));(have t7:Tch (λ y=>y=q) Y W7:=by rw[<-ap];exact zl9 _ _ _ _ _ _);(have N7:Nb W7 93 q rl (.slice x1 R1 y1) (.slice x2 R2 y2) (.slice x3 R3 y3):=by rw[<-ap];exact b0.all _ _ _ _);have bs:W7.cell? ⟨cb,0,none⟩=some (tp t)/\W7.cell? ⟨w.heap.size,3,none⟩=some (.slice (some ⟨kb,ko,none⟩) L3 c3)/\W7.cell? ⟨kb,ko+A,none⟩=some (.int .i64 a0):=by
       (have e:∀p v,Y.cell? p=some v->p.block≠q->W7.cell? p=some v:=λ p v hp hn=>by rw[t7.cell (ze0 Y p hp) hn];exact hp);exact⟨e _ _ bg.1 (by show cb≠q;have:=az.o;omega),e _ _ bg.2.1 (by show w.heap.size≠q;have:=az.o;omega),e _ _ bg.2.2 (by show kb≠q;have:=az.o;omega)⟩
      refine rdW 16 none (.store 93 (.tmp 16) (.tmp 50)) ?_;rintro o K hd T hg hK;refine zav9 T rfl rfl b0 ?_;rw[hd,ap];refine hK _ _ (λ _=>bs) ?_;clear T hd hg hK;simp only[zw];refine rdW 17 (some 17) (.assign (.tmp 51)) ?_;rintro o K hd T hg hK;refine stepY (v:=.int .i64 re) (by unfold execOp;simp only[T];go_simp) ?_;rw[hd];refine hK _ _ (λ e=>absurd rfl e) ?_;refine doneW (by kernel_rfl) ?_ _;clear T hd hg hK;simp only[zw]
      have ab:Hid (Nb W7 93 q rl (.slice x1 R1 y1) (.slice x2 R2 y2) (.slice x3 R3 y3)/\Nn W7 E (.slice x1 R1 y1) (.slice x2 R2 y2) (.slice x3 R3 y3)/\Fr3 wr.heap.size (.slice x1 R1 y1) (.slice x2 R2 y2) (.slice x3 R3 y3)/\JnI H W3 t cc d M N a b c W7 Q/\(∀y,Q y->H' y\/wr.heap.size<=y)/\Ap3 Q (.slice x1 R1 y1) (.slice x2 R2 y2) (.slice x3 R3 y3)/\¬Q q):=by
       have fr:=ag.fr;refine⟨N7,(ag.nn.below bY).tch t7 (λ y u e=>?_) (λ y u e=>?_) (λ y u e=>?_),?_,⟨(ah.1.gz.below bY).tch t7 (λ y u e=>?_),(ah.1.tc.trans (Tch.of_below (S:=H) bY) (λ _ _ e=>e)).trans t7 (λ y u e=>?_),ah.1.hh⟩,ah.2,b8,λ e=>?_⟩
       .have:=ag.k.owns.lt y u;omega
       .have:=ag.v.owns.lt y u;omega
       .have:=ag.d.owns.lt y u;omega
       .exact ag.fr
       .have:=ah.1.gz.hl y u;omega
       .have:=ah.1.tc.size;omega
       .have:=ah.1.gz.hl q e;omega
      clear ap t7 N7 bs b0 ah bz bb bh ag b8 ac;revert ab;generalize W7=W8;intro ab;go_wp2_with fail
      go_meet
      exact⟨q,_,_,_,_,_,_,Q,rfl,rfl,rfl,ab⟩
     .rintro o K hd T hg hK;refine zbt9 T ?_;obtain⟨q,hq⟩:=exN wr.drew.heap.size;rw[hd,hq];obtain⟨Y0,bw⟩:=exN (wr.drew.alloc (.cells #[.bool false,.slice none 0 0,.slice none 0 0,.slice none 0 0] 93));have bg:Y0.cell? ⟨cb,0,none⟩=some (tp t)/\Y0.cell? ⟨w.heap.size,3,none⟩=some (.slice (some ⟨kb,ko,none⟩) L3 c3)/\Y0.cell? ⟨kb,ko+A,none⟩=some (.int .i64 a0):=by (have bY:Below wr.drew.heap.size wr.drew Y0:=by rw[<-bw];exact za9 _ _);(have q:∀p v,wr.drew.cell? p=some v->Y0.cell? p=some v:=λ p v hp=>by rw[bY.cell (ze0 wr.drew p hp)];exact hp);exact⟨q _ _ hS.1,q _ _ hS.2.1,q _ _ hS.2.2⟩
      (have co:Hid (Below wr.heap.size wr Y0):=by rw[<-bw];exact ed.o);rw[bw];refine hK _ _ (λ _=>bg) ?_;clear T hd hg hK;simp only[zw];refine rdW 11 (some 49) (.call { callee:=.value (.func 106),args:=#[.tmp 41,.tmp 46,.tmp 48],argTypes:=#[34,3,3] }) ?_;rintro o K hd T hg hK;refine zg9 (enters_of Tryz.func106 (by kernel_rfl) rfl) T (vs:=#[tp t,.int .i64 a0,.int .i64 ((lv+1:Nat):Int)]) (by kernel_rfl) (cv.o _ co.o) ?_;rintro e W5 ⟨Q,v1,v2,v3,he,ag,bz,bb,bh,b8⟩;obtain⟨x1,y1,x2,y2,x3,y3,rfl,rfl,rfl,_,_,_,_⟩:=ag.nn.o;simp only[ez.o,f0.o,f4.o,c6.o]at he ag b8;refine⟨_,he,?_⟩;rw[hd];obtain⟨ac,ah⟩:=en.o _ W5 Q co.o bz bb bh;refine hK _ _ (λ _=>ac) ?_;clear T hd hg hK he;simp only[zw]
      rw[<-bw]at bb;(have b0:Nb W5 93 q false (.slice none 0 0) (.slice none 0 0) (.slice none 0 0):=by rw[<-hq];exact ej.o W5 bb);have az:Hid (cb<q/\w.heap.size<q/\kb<q):=by rw[<-hq];exact⟨ze0 wr.drew ⟨cb,0,none⟩ hS.1,ze0 wr.drew ⟨w.heap.size,3,none⟩ hS.2.1,ze0 wr.drew ⟨kb,ko+A,none⟩ hS.2.2⟩
      have ih:wr.heap.size=q:=hq;(have i7:Y0.heap.size=q+1:=by rw[<-bw,<-hq];simp);refine tkW 12 (some 37) (.move (.tmp 49)) (Value.tuple #[nod rl (.slice x1 R1 y1) (.slice x2 R2 y2) (.slice x3 R3 y3),.int .i64 re]) (by rintro o T w' _;go_simp) ac ?_;simp only[zw];refine tkW 13 (some 50) (.extract (.tmp 37) 0) (nod rl (.slice x1 R1 y1) (.slice x2 R2 y2) (.slice x3 R3 y3)) (by rintro o T w' _;go_simp) ac ?_;simp only[zw];refine tkW 14 (some 51) (.extract (.tmp 37) 1) (Value.int .i64 re) (by rintro o T w' _;go_simp) ac ?_;simp only[zw]
      obtain⟨W7,ap⟩:=exN ((((W5.setCell ⟨q,0,none⟩ (.bool rl)).setCell ⟨q,1,none⟩ (.slice x1 R1 y1)).setCell ⟨q,2,none⟩ (.slice x2 R2 y2)).setCell ⟨q,3,none⟩ (.slice x3 R3 y3));(have t7:Tch (λ y=>y=q) W5 W7:=by rw[<-ap];exact zl9 _ _ _ _ _ _);(have N7:Nb W7 93 q rl (.slice x1 R1 y1) (.slice x2 R2 y2) (.slice x3 R3 y3):=by rw[<-ap];exact b0.all _ _ _ _);have bs:W7.cell? ⟨cb,0,none⟩=some (tp t)/\W7.cell? ⟨w.heap.size,3,none⟩=some (.slice (some ⟨kb,ko,none⟩) L3 c3)/\W7.cell? ⟨kb,ko+A,none⟩=some (.int .i64 a0):=by
       (have e:∀p v,W5.cell? p=some v->p.block≠q->W7.cell? p=some v:=λ p v hp hn=>by rw[t7.cell (ze0 W5 p hp) hn];exact hp);exact⟨e _ _ ac.1 (by show cb≠q;have:=az.o;omega),e _ _ ac.2.1 (by show w.heap.size≠q;have:=az.o;omega),e _ _ ac.2.2 (by show kb≠q;have:=az.o;omega)⟩
      refine rdW 16 none (.store 93 (.tmp 16) (.tmp 50)) ?_;rintro o K hd T hg hK;refine zav9 T rfl rfl b0 ?_;rw[hd,ap];refine hK _ _ (λ _=>bs) ?_;clear T hd hg hK;simp only[zw];refine rdW 17 (some 17) (.assign (.tmp 51)) ?_;rintro o K hd T hg hK;refine stepY (v:=.int .i64 re) (by unfold execOp;simp only[T];go_simp) ?_;rw[hd];refine hK _ _ (λ e=>absurd rfl e) ?_;refine doneW (by kernel_rfl) ?_ _;clear T hd hg hK;simp only[zw]
      have ab:Hid (Nb W7 93 q rl (.slice x1 R1 y1) (.slice x2 R2 y2) (.slice x3 R3 y3)/\Nn W7 E (.slice x1 R1 y1) (.slice x2 R2 y2) (.slice x3 R3 y3)/\Fr3 wr.heap.size (.slice x1 R1 y1) (.slice x2 R2 y2) (.slice x3 R3 y3)/\JnI H W3 t cc d M N a b c W7 Q/\(∀y,Q y->H' y\/wr.heap.size<=y)/\Ap3 Q (.slice x1 R1 y1) (.slice x2 R2 y2) (.slice x3 R3 y3)/\¬Q q):=by
       have fr:=ag.fr;have i5:=co.o.size;(have r1:∀j,((Value.slice x1 R1 y1).ownBlock=some j\/(Value.slice x2 R2 y2).ownBlock=some j\/(Value.slice x3 R3 y3).ownBlock=some j)->j≠q:=λ j hj e=>by have:=fr j hj;omega);have nq:¬Q q:=λ e=>(bh q e).elim (λ e=>by have:=fk.o q e;omega) (λ e=>by omega);refine⟨N7,ag.nn.tch t7 (λ y u e=>r1 y (.inl u) e) (λ y u e=>r1 y (.inr (.inl u)) e) (λ y u e=>r1 y (.inr (.inr u)) e),λ j hj=>zn2 (by omega) (fr j hj),⟨ah.1.gz.tch t7 (λ y u e=>nq (by rw[<-e];exact u)),ah.1.tc.trans t7 (λ y u e=>?_),ah.1.hh⟩,ah.2,b8,nq⟩;have:=fl.o;omega
      clear ap t7 N7 bs b0 ah bz bb bh ag b8 ac;revert ab;generalize W7=W8;intro ab;go_wp2_with fail
      go_meet
      exact⟨q,_,_,_,_,_,_,Q,rfl,rfl,rfl,ab⟩
    case rest=>
     obtain⟨q,x1,y1,x2,y2,x3,y3,Q,rfl,rfl,rfl,ab⟩:=hcut;revert ab;generalize wc=W8;intro ab;clear hS ej ed cd;have J8:=ab.o.2.2.2.1;have ae:=an.o;(have aa:∀y,w.heap.size<=y->¬H y:=λ y h1 e=>by have:=ay.o y e;omega);have aq:∀y,w.heap.size<=y->y<W3.heap.size->¬Q y:=λ y h1 h2 e=>(J8.hh y e).elim (aa y h1) (λ e=>by omega);have X8:Nb W8 93 O.heap.size false (.slice none 0 0) (.slice none 0 0) (.slice none 0 0):=bn.o.tch J8.tc (aa _ (by omega));have au:Tch H w W8:=(Tch.of_below (S:=H) HB.o).trans J8.tc (λ _ _ e=>e);have aw:=J8.tc.size;by_cases cm:re=0
     .subst cm;have be:=ab.o.1;have d9:=ab.o.2.1;have P8:Nb W8 93 W1.heap.size pf (.slice d1 P1 f1) (.slice d2 P2 f2) (.slice d3 P3 f3):=cu.o.tch J8.tc (aa _ (by omega));have bf:Nn W8 p (.slice d1 P1 f1) (.slice d2 P2 f2) (.slice d3 P3 f3):=HP.o.tch au (λ y u=>ax.o y (.inl u)) (λ y u=>ax.o y (.inr (.inl u))) (λ y u=>ax.o y (.inr (.inr u)));obtain⟨f9,cn⟩:=fm.o rfl;obtain⟨fc,fd,fe⟩:=zvf9 f9 cn;have bi:=el.o;have J1:=zfw9 p E _ _ _ _ _ _ W8 bf d9 (by omega) (by omega) (by omega);rw[c5.o,c6.o]at J1;have cr:=za0 J1;have ft:=za0 (zgm9 em.o cn (by omega) (by omega) (by omega));have fu:=za0 (zgm9 cn em.o (by omega) (by omega) (by omega))
      have fj:Hid (E.ks.length<=1000/\E.vs.length<=1000/\E.kd.length<=1000):=⟨fc,fd,fe⟩
      have ca:Hid (Nb W8 93 W1.heap.size pf (.slice d1 P1 f1) (.slice d2 P2 f2) (.slice d3 P3 f3)/\Nn W8 p (.slice d1 P1 f1) (.slice d2 P2 f2) (.slice d3 P3 f3)/\Nb W8 93 q rl (.slice x1 R1 y1) (.slice x2 R2 y2) (.slice x3 R3 y3)/\Nn W8 E (.slice x1 R1 y1) (.slice x2 R2 y2) (.slice x3 R3 y3)):=⟨P8,bf,be,d9⟩
      have dx:=P8.c0;have dy:=P8.c1;have dz:=P8.c2;have e6:=P8.c3;have eu:=be.c0;have ew:=be.c1;have ex:=be.c2;have ey:=be.c3;clear J1 f9 cn fc fd fe bi bf d9 P8 be X8 au J8 aa aq aw ae;unfold nod at cr;go_wp2_with fail;refine cr.o.mono ?_;rintro e W9 ⟨⟨i2,i3,i4,rfl,nz,aj,ak,al⟩,b9⟩;clear cr dx eu dy ew dz ex e6 ey;by_cases dm:(A:Int)<(at_:Int)
      .obtain⟨ea,e7,eb,e8,ec,e9,rfl,rfl,rfl,_,_,_,_⟩:=nz.o;obtain⟨U1,f5⟩:=exH ((joinN p E).ks.length);obtain⟨U2,f6⟩:=exH ((joinN p E).vs.length);obtain⟨U3,f7⟩:=exH ((joinN p E).kd.length);simp only[f5.o,f6.o,f7.o]at nz aj ak al;simp only[f5.o,f6.o,f7.o];obtain⟨WB,bt⟩:=exN (W9.alloc (.cells #[.bool false,.slice none 0 0,.slice none 0 0,.slice none 0 0] 93));(have NB:Nb WB 93 W9.heap.size false (.slice none 0 0) (.slice none 0 0) (.slice none 0 0):=by rw[<-bt];exact nb_new _ _ _ _ _ _);have bB:Below W9.heap.size W9 WB:=by rw[<-bt];exact za9 _ _
       obtain⟨WC,bu⟩:=exN ((((WB.setCell ⟨W9.heap.size,0,none⟩ (.bool pf)).setCell ⟨W9.heap.size,1,none⟩ (.slice ea U1 e7)).setCell ⟨W9.heap.size,2,none⟩ (.slice eb U2 e8)).setCell ⟨W9.heap.size,3,none⟩ (.slice ec U3 e9));(have NC:Nb WC 93 W9.heap.size pf (.slice ea U1 e7) (.slice eb U2 e8) (.slice ec U3 e9):=by rw[<-bu];exact NB.all _ _ _ _);(have tC:Tch (λ y=>y=W9.heap.size) WB WC:=by rw[<-bu];exact zl9 _ _ _ _ _ _);have s9:=b9.size;have bk:Tch (λ _=>False) W8 WC:=((Tch.of_below b9).trans (Tch.of_below bB) (λ _ _ e=>e)).trans tC (λ y u e=>by omega);have P9:=ca.o.1.tch bk (λ e=>e);have B9:=ca.o.2.2.1.tch bk (λ e=>e);have eq:=ca.o.2.1.tch bk (λ _ _ e=>e) (λ _ _ e=>e) (λ _ _ e=>e)
       have ep:=ca.o.2.2.2.tch bk (λ _ _ e=>e) (λ _ _ e=>e) (λ _ _ e=>e);have bi:=el.o;have g5:=fj.o;have J2:=zfw9 E p _ _ _ _ _ _ WC ep eq (by omega) (by omega) (by omega);rw[c5.o,c6.o]at J2;have eg:=za0 J2;have eo:=za0 bk;have ek:=za0 NC;have fq:=za0 s9;have gd:=NB.c0;have ge:=NB.c1;have gf:=NB.c2;have gg:=NB.c3;have gi:=NB.fz 0;have gj:=NB.fz 1;have gl:=NB.fz 2;have gm:=NB.fz 3;have dx:=P9.c0;have dy:=P9.c1;have dz:=P9.c2;have e6:=P9.c3;have eu:=B9.c0;have ew:=B9.c1;have ex:=B9.c2;have ey:=B9.c3;(have dl:decide ((A:Int)<(at_:Int))=true:=by rw[zm0];exact dm);clear NB bB NC tC bk P9 B9 eq ep bi g5 J2 s9 nz aj ak al b9;unfold nod at eg;go_wp2_with fail;refine eg.o.mono ?_
       rintro e WD ⟨⟨i2,i3,i4,rfl,nz,aj,ak,al⟩,bD⟩;obtain⟨a4,a7,a5,a8,a6,a9,rfl,rfl,rfl,_,_,_,_⟩:=nz.o;obtain⟨Q1,bp⟩:=exH ((joinN E p).ks.length);obtain⟨Q2,bq⟩:=exH ((joinN E p).vs.length);obtain⟨Q3,br⟩:=exH ((joinN E p).kd.length);simp only[bp.o,bq.o,br.o]at nz aj ak al;simp only[bp.o,bq.o,br.o];have ND:Nb WD 93 W9.heap.size pf (.slice ea U1 e7) (.slice eb U2 e8) (.slice ec U3 e9):=ek.o.below bD;obtain⟨WE,f8⟩:=exN ((((WD.setCell ⟨W9.heap.size,0,none⟩ (.bool rl)).setCell ⟨W9.heap.size,1,none⟩ (.slice a4 Q1 a7)).setCell ⟨W9.heap.size,2,none⟩ (.slice a5 Q2 a8)).setCell ⟨W9.heap.size,3,none⟩ (.slice a6 Q3 a9))
       (have NQ:Nb WE 93 W9.heap.size rl (.slice a4 Q1 a7) (.slice a5 Q2 a8) (.slice a6 Q3 a9):=by rw[<-f8];exact ND.all _ _ _ _);(have tE:Tch (λ y=>y=W9.heap.size) WD WE:=by rw[<-f8];exact zl9 _ _ _ _ _ _);have s9:=fq.o;have sC:=eo.o.size;have sq:=ek.o.lt;have ar:Tch (λ _=>False) W8 WE:=(eo.o.trans (Tch.of_below bD) (λ _ _ e=>e)).trans tE (λ y u e=>by omega);have sE:=tE.size;have bc:Nn WE (joinN E p) (.slice a4 Q1 a7) (.slice a5 Q2 a8) (.slice a6 Q3 a9):=nz.tch tE (λ y u e=>by have:=(aj y u).1;omega) (λ y u e=>by have:=(ak y u).1;omega) (λ y u e=>by have:=(al y u).1;omega)
       have bo:∀j,((Value.slice a4 Q1 a7).ownBlock=some j\/(Value.slice a5 Q2 a8).ownBlock=some j\/(Value.slice a6 Q3 a9).ownBlock=some j)->W8.heap.size<=j/\j<WE.heap.size:=λ j hj=>by
        rcases hj with e|e|e
        .have:=aj j e;omega
        .have:=ak j e;omega
        .have:=al j e;omega
       have db:=fu;(have c7:Hid ((joinN E p).lf=rl):=by show E.lf=rl;exact c6.o);have bl:Hid (besF a c n at_ lv p (A:Int)=if mayN (joinN E p)=true then some ⟨0,joinN E p,A,A+2,leaveF a c a0⟩else none):=cq.o.2.1 (by trivial) dm;have J8:=ab.o.2.2.2.1;have ae:=an.o;(have aa:∀y,w.heap.size<=y->¬H y:=λ y h1 e=>by have:=ay.o y e;omega);have aq:∀y,w.heap.size<=y->y<W3.heap.size->¬Q y:=λ y h1 h2 e=>(J8.hh y e).elim (aa y h1) (λ e=>by omega);have aw:=J8.tc.size;have ii:=ND.c0;have ij:=ND.c1;have ik:=ND.c2;have il:=ND.c3;have im:=ND.fz 0;have ip:=ND.fz 1;have iq:=ND.fz 2;have ir:=ND.fz 3;clear ND tE sC sq sE nz aj ak al bD
       have JX:JnI H W3 t cc d M N a b c WE Q:=⟨J8.gz.tch ar (λ _ _ e=>e),J8.tc.trans ar (λ _ _ e=>e.elim),J8.hh⟩
       have ai:=za0 JX;have MX:=zet9 (joinN E p) _ _ _ WE bc db.o;rw[c7.o]at MX;obtain⟨mb,ba⟩:=exH (mayN (joinN E p));rw[ba.o]at MX;have bm:=za0 MX;have ct:=za0 NQ;have d7:=za0 bc;have d5:=za0 bo;have d6:=za0 aq;have d8:Hid (W8.heap.size<=W9.heap.size/\W3.heap.size<=W8.heap.size/\W8.heap.size<=WE.heap.size):=⟨s9,aw,ar.size⟩
       have gt:=NQ.c0;have gu:=NQ.c1;have gw:=NQ.c2;have gx:=NQ.c3;clear JX MX ar bc bo aq NQ J8 aa ae aw s9;unfold nod at bm;go_wp2_with fail;refine bm.o.mono ?_;rintro e WM ⟨rfl,bM⟩;have ad:=za0 bM;clear bM;cases mb
       .have bd:Hid (besF a c n at_ lv p (A:Int)=none):=by show _=_;rw[bl.o,ba.o];rfl
        go_wp2_with fail;exact⟨⟨k+1,Q,by omega,by rfl,⟨⟨ai.o.gz.below ad.o,ai.o.tc.trans (Tch.of_below ad.o) (λ _ _ e=>e),ai.o.hh⟩,ce.o bd.o⟩⟩,by simp[intOf];omega⟩
       .have cw:Hid (RR=⟨0,joinN E p,A,A+2,leaveF a c a0⟩):=cx.o _ (by rw[bl.o,ba.o];rfl);have ae:=an.o;(have aa:∀y,w.heap.size<=y->¬H y:=λ y h1 e=>by have:=ay.o y e;omega);have TM:Tch H W3 WM:=ai.o.tc.trans (Tch.of_below (S:=H) ad.o) (λ _ _ e=>e);have b4:Tch H w WM:=(Tch.of_below (S:=H) HB.o).trans TM (λ _ _ e=>e);have VM:Nb WM 93 w.heap.size lf (.slice a1 L1 c1) (.slice a2 L2 c2) (.slice (some ⟨kb,ko,none⟩) L3 c3):=cz.o.tch TM (aa _ (zn6 _));have gy:=VM.c3;have h0:=eh.o WM b4;have gM:=ai.o.gz.below ad.o;have LX:=zdt9 a0 (by have:=ei.o;exact zay9 (by omega) (by omega)) WM gM (by have:=ee.o;omega);unfold chp at LX;rw[bx.o]at LX;have cs:=za0 LX
        have XM:Hid (Nb WM 93 O.heap.size false (.slice none 0 0) (.slice none 0 0) (.slice none 0 0)):=bn.o.tch TM (aa _ (by omega));have QM:Hid (Nb WM 93 W9.heap.size rl (.slice a4 Q1 a7) (.slice a5 Q2 a8) (.slice a6 Q3 a9)):=ct.o.below ad.o;have cy:=za0 b4;have fo:=za0 gM;clear TM b4 VM gM LX ae aa;go_wp2_with fail;refine cs.o.mono ?_;rintro e WL ⟨rfl,H6,g6,t6,h6⟩;have ae:=an.o;have dq:=d8.o;(have c9:¬Q W9.heap.size:=λ e=>by have:=ab.o.2.2.2.1.gz.hl _ e;omega);have ds:=ad.o.size;have am:¬Q O.heap.size:=d6.o _ (by omega) (by omega);have XL:=XM.o.tch t6 am;have QL:=QM.o.tch t6 c9
        obtain⟨WF,b7⟩:=exN ((((WL.setCell ⟨O.heap.size,0,none⟩ (.bool rl)).setCell ⟨O.heap.size,1,none⟩ (.slice a4 Q1 a7)).setCell ⟨O.heap.size,2,none⟩ (.slice a5 Q2 a8)).setCell ⟨O.heap.size,3,none⟩ (.slice a6 Q3 a9));(have XF:Nb WF 93 O.heap.size rl (.slice a4 Q1 a7) (.slice a5 Q2 a8) (.slice a6 Q3 a9):=by rw[<-b7];exact XL.all _ _ _ _);(have tF:Tch (λ y=>y=O.heap.size) WL WF:=by rw[<-b7];exact zl9 _ _ _ _ _ _);have d4:=za0 XF.load;have HF:Hid (JndT H w t cc d M N a b (.slice d1 P1 f1) (.slice d2 P2 f2) (.slice d3 P3 f3) RR (.returned (.tuple #[nod rl (.slice a4 Q1 a7) (.slice a5 Q2 a8) (.slice a6 Q3 a9),.int .i64 (A:Int),.int .i64 ((A+2:Nat):Int),.int .i64 0])) WF):=by
         show JndT _ _ _ _ _ _ _ _ _ _ _ _ _ _ _;rw[cw.o];have ao:∀y,Q y->y<W8.heap.size:=λ y e=>ab.o.2.2.2.1.gz.hl y e;have af:∀j,((Value.slice a4 Q1 a7).ownBlock=some j\/(Value.slice a5 Q2 a8).ownBlock=some j\/(Value.slice a6 Q3 a9).ownBlock=some j)->W8.heap.size<=j/\j<WE.heap.size:=d5.o;have g9:=ad.o.size;have g8:=t6.size;have dw:Nn WM (joinN E p) (.slice a4 Q1 a7) (.slice a5 Q2 a8) (.slice a6 Q3 a9):=d7.o.below ad.o
         have dv:Nn WL (joinN E p) (.slice a4 Q1 a7) (.slice a5 Q2 a8) (.slice a6 Q3 a9):=dw.tch t6 (λ y u e=>by have:=ao y e;have:=(af y (.inl u)).1;omega) (λ y u e=>by have:=ao y e;have:=(af y (.inr (.inl u))).1;omega) (λ y u e=>by have:=ao y e;have:=(af y (.inr (.inr u))).1;omega);have du:∀y,H6 y->y≠O.heap.size:=λ y e q=>by subst q;exact(h6 _ e).elim am (λ e=>by omega)
         refine⟨H6,_,_,_,by rw[show(JR.n ⟨0,joinN E p,A,A+2,leaveF a c a0⟩)=joinN E p from rfl,c7.o],g6.tch tF (λ y u e=>du y u e),(cy.o.trans t6 (λ y u e=>(ab.o.2.2.2.1.hh y e).elim id (λ e=>by omega))).trans tF (λ y u e=>by omega),λ y u=>(h6 y u).elim (λ e=>(ab.o.2.2.2.1.hh y e).imp id (λ e=>by omega)) (λ e=>.inr (by omega)),dv.tch tF (λ y u e=>by have:=(af y (.inl u)).1;omega) (λ y u e=>by have:=(af y (.inr (.inl u))).1;omega) (λ y u e=>by have:=(af y (.inr (.inr u))).1;omega),λ j hj=>?_⟩;have:=af j hj;refine⟨.inr (.inr (.inr (by omega))),λ e=>(h6 j e).elim (λ e=>by have:=ao j e;omega) (λ e=>by omega)⟩
        (have gp:=QL.c0;have gq:=QL.c1;have gr:=QL.c2;have gs:=QL.c3;have h3:=XL.c0;have h4:=XL.c1;have h5:=XL.c2;have h7:=XL.c3;have h8:=XL.fz 0;have h9:=XL.fz 1;have hc:=XL.fz 2;have hf:=XL.fz 3;have ff:=wk_nat (x:=(A:Int)+2) (t:=A+2) (by omega) (by omega);have fg:=zu9 (x:=(A:Int)+2) (t:=A+2) (by omega) (by omega);clear XL QL XF tF g6 t6 h6 ae dq c9 am ds;go_wp2_with fail;try rw[b7]);refine bodyPost_ret (v:=.tuple #[nod rl (.slice a4 Q1 a7) (.slice a5 Q2 a8) (.slice a6 Q3 a9),.int .i64 (A:Int),.int .i64 ((A+2:Nat):Int),.int .i64 0]) (zau9 (p:=10) (ty:=93) rfl _ _ _ O.heap.size _ _ _ _ rfl d4.o rfl rfl rfl) rfl ?_;exact HF.o
      ·
       obtain⟨a4,a7,a5,a8,a6,a9,rfl,rfl,rfl,_,_,_,_⟩:=nz.o;obtain⟨Q1,bp⟩:=exH ((joinN p E).ks.length);obtain⟨Q2,bq⟩:=exH ((joinN p E).vs.length);obtain⟨Q3,br⟩:=exH ((joinN p E).kd.length);simp only[bp.o,bq.o,br.o]at nz aj ak al;simp only[bp.o,bq.o,br.o];obtain⟨WB,bt⟩:=exN (W9.alloc (.cells #[.bool false,.slice none 0 0,.slice none 0 0,.slice none 0 0] 93));(have NB:Nb WB 93 W9.heap.size false (.slice none 0 0) (.slice none 0 0) (.slice none 0 0):=by rw[<-bt];exact nb_new _ _ _ _ _ _);have bB:Below W9.heap.size W9 WB:=by rw[<-bt];exact za9 _ _
       obtain⟨WC,bu⟩:=exN ((((WB.setCell ⟨W9.heap.size,0,none⟩ (.bool pf)).setCell ⟨W9.heap.size,1,none⟩ (.slice a4 Q1 a7)).setCell ⟨W9.heap.size,2,none⟩ (.slice a5 Q2 a8)).setCell ⟨W9.heap.size,3,none⟩ (.slice a6 Q3 a9));(have NC:Nb WC 93 W9.heap.size pf (.slice a4 Q1 a7) (.slice a5 Q2 a8) (.slice a6 Q3 a9):=by rw[<-bu];exact NB.all _ _ _ _);(have tC:Tch (λ y=>y=W9.heap.size) WB WC:=by rw[<-bu];exact zl9 _ _ _ _ _ _);have s9:=b9.size;have sC:=tC.size;have sB:=bB.size;have ar:Tch (λ _=>False) W8 WC:=((Tch.of_below b9).trans (Tch.of_below bB) (λ _ _ e=>e)).trans tC (λ y u e=>by omega);have NQ:=NC
       have bc:Nn WC (joinN p E) (.slice a4 Q1 a7) (.slice a5 Q2 a8) (.slice a6 Q3 a9):=(nz.below bB).tch tC (λ y u e=>by have:=(aj y u).2;omega) (λ y u e=>by have:=(ak y u).2;omega) (λ y u e=>by have:=(al y u).2;omega);have bo:∀j,((Value.slice a4 Q1 a7).ownBlock=some j\/(Value.slice a5 Q2 a8).ownBlock=some j\/(Value.slice a6 Q3 a9).ownBlock=some j)->W8.heap.size<=j/\j<WC.heap.size:=λ j hj=>by
        rcases hj with e|e|e
        .have:=aj j e;omega
        .have:=ak j e;omega
        .have:=al j e;omega
       have db:=ft;(have c7:Hid ((joinN p E).lf=pf):=by show p.lf=pf;exact c5.o);have bl:Hid (besF a c n at_ lv p (A:Int)=if mayN (joinN p E)=true then some ⟨0,joinN p E,at_,at_+2,leaveF a c a0⟩else none):=cq.o.2.2 (by trivial) (by omega);(have dl:decide ((A:Int)<(at_:Int))=false:=by rw[zn4];exact dm);have J8:=ab.o.2.2.2.1;have ae:=an.o;(have aa:∀y,w.heap.size<=y->¬H y:=λ y h1 e=>by have:=ay.o y e;omega);have aq:∀y,w.heap.size<=y->y<W3.heap.size->¬Q y:=λ y h1 h2 e=>(J8.hh y e).elim (aa y h1) (λ e=>by omega);have aw:=J8.tc.size;have gd:=NB.c0;have ge:=NB.c1;have gf:=NB.c2;have gg:=NB.c3;have gi:=NB.fz 0;have gj:=NB.fz 1;have gl:=NB.fz 2;have gm:=NB.fz 3
       clear NB bB tC sC sB nz aj ak al b9 NC;have JX:JnI H W3 t cc d M N a b c WC Q:=⟨J8.gz.tch ar (λ _ _ e=>e),J8.tc.trans ar (λ _ _ e=>e.elim),J8.hh⟩
       have ai:=za0 JX;have MX:=zet9 (joinN p E) _ _ _ WC bc db.o;rw[c7.o]at MX;obtain⟨mb,ba⟩:=exH (mayN (joinN p E));rw[ba.o]at MX;have bm:=za0 MX;have ct:=za0 NQ;have d7:=za0 bc;have d5:=za0 bo;have d6:=za0 aq;have d8:Hid (W8.heap.size<=W9.heap.size/\W3.heap.size<=W8.heap.size/\W8.heap.size<=WC.heap.size):=⟨s9,aw,ar.size⟩
       have gt:=NQ.c0;have gu:=NQ.c1;have gw:=NQ.c2;have gx:=NQ.c3;clear JX MX ar bc bo aq NQ J8 aa ae aw s9;unfold nod at bm;go_wp2_with fail;refine bm.o.mono ?_;rintro e WM ⟨rfl,bM⟩;have ad:=za0 bM;clear bM;cases mb
       .have bd:Hid (besF a c n at_ lv p (A:Int)=none):=by show _=_;rw[bl.o,ba.o];rfl
        go_wp2_with fail;exact⟨⟨k+1,Q,by omega,by rfl,⟨⟨ai.o.gz.below ad.o,ai.o.tc.trans (Tch.of_below ad.o) (λ _ _ e=>e),ai.o.hh⟩,ce.o bd.o⟩⟩,by simp[intOf];omega⟩
       .have cw:Hid (RR=⟨0,joinN p E,at_,at_+2,leaveF a c a0⟩):=cx.o _ (by rw[bl.o,ba.o];rfl);have ae:=an.o;(have aa:∀y,w.heap.size<=y->¬H y:=λ y h1 e=>by have:=ay.o y e;omega);have TM:Tch H W3 WM:=ai.o.tc.trans (Tch.of_below (S:=H) ad.o) (λ _ _ e=>e);have b4:Tch H w WM:=(Tch.of_below (S:=H) HB.o).trans TM (λ _ _ e=>e);have VM:Nb WM 93 w.heap.size lf (.slice a1 L1 c1) (.slice a2 L2 c2) (.slice (some ⟨kb,ko,none⟩) L3 c3):=cz.o.tch TM (aa _ (zn6 _));have gy:=VM.c3;have h0:=eh.o WM b4;have gM:=ai.o.gz.below ad.o;have LX:=zdt9 a0 (by have:=ei.o;exact zay9 (by omega) (by omega)) WM gM (by have:=ee.o;omega);unfold chp at LX;rw[bx.o]at LX;have cs:=za0 LX
        have XM:Hid (Nb WM 93 O.heap.size false (.slice none 0 0) (.slice none 0 0) (.slice none 0 0)):=bn.o.tch TM (aa _ (by omega));have QM:Hid (Nb WM 93 W9.heap.size pf (.slice a4 Q1 a7) (.slice a5 Q2 a8) (.slice a6 Q3 a9)):=ct.o.below ad.o;have cy:=za0 b4;have fo:=za0 gM;clear TM b4 VM gM LX ae aa;go_wp2_with fail;refine cs.o.mono ?_;rintro e WL ⟨rfl,H6,g6,t6,h6⟩;have ae:=an.o;have dq:=d8.o;(have c9:¬Q W9.heap.size:=λ e=>by have:=ab.o.2.2.2.1.gz.hl _ e;omega);have ds:=ad.o.size;have am:¬Q O.heap.size:=d6.o _ (by omega) (by omega);have XL:=XM.o.tch t6 am;have QL:=QM.o.tch t6 c9
        obtain⟨WF,b7⟩:=exN ((((WL.setCell ⟨O.heap.size,0,none⟩ (.bool pf)).setCell ⟨O.heap.size,1,none⟩ (.slice a4 Q1 a7)).setCell ⟨O.heap.size,2,none⟩ (.slice a5 Q2 a8)).setCell ⟨O.heap.size,3,none⟩ (.slice a6 Q3 a9));(have XF:Nb WF 93 O.heap.size pf (.slice a4 Q1 a7) (.slice a5 Q2 a8) (.slice a6 Q3 a9):=by rw[<-b7];exact XL.all _ _ _ _);(have tF:Tch (λ y=>y=O.heap.size) WL WF:=by rw[<-b7];exact zl9 _ _ _ _ _ _);have d4:=za0 XF.load;have HF:Hid (JndT H w t cc d M N a b (.slice d1 P1 f1) (.slice d2 P2 f2) (.slice d3 P3 f3) RR (.returned (.tuple #[nod pf (.slice a4 Q1 a7) (.slice a5 Q2 a8) (.slice a6 Q3 a9),.int .i64 (at_:Int),.int .i64 ((at_+2:Nat):Int),.int .i64 0])) WF):=by
         show JndT _ _ _ _ _ _ _ _ _ _ _ _ _ _ _;rw[cw.o];have ao:∀y,Q y->y<W8.heap.size:=λ y e=>ab.o.2.2.2.1.gz.hl y e;have af:∀j,((Value.slice a4 Q1 a7).ownBlock=some j\/(Value.slice a5 Q2 a8).ownBlock=some j\/(Value.slice a6 Q3 a9).ownBlock=some j)->W8.heap.size<=j/\j<WC.heap.size:=d5.o;have g9:=ad.o.size;have g8:=t6.size;have dw:Nn WM (joinN p E) (.slice a4 Q1 a7) (.slice a5 Q2 a8) (.slice a6 Q3 a9):=d7.o.below ad.o
         have dv:Nn WL (joinN p E) (.slice a4 Q1 a7) (.slice a5 Q2 a8) (.slice a6 Q3 a9):=dw.tch t6 (λ y u e=>by have:=ao y e;have:=(af y (.inl u)).1;omega) (λ y u e=>by have:=ao y e;have:=(af y (.inr (.inl u))).1;omega) (λ y u e=>by have:=ao y e;have:=(af y (.inr (.inr u))).1;omega);have du:∀y,H6 y->y≠O.heap.size:=λ y e q=>by subst q;exact(h6 _ e).elim am (λ e=>by omega)
         refine⟨H6,_,_,_,by rw[show(JR.n ⟨0,joinN p E,at_,at_+2,leaveF a c a0⟩)=joinN p E from rfl,c7.o],g6.tch tF (λ y u e=>du y u e),(cy.o.trans t6 (λ y u e=>(ab.o.2.2.2.1.hh y e).elim id (λ e=>by omega))).trans tF (λ y u e=>by omega),λ y u=>(h6 y u).elim (λ e=>(ab.o.2.2.2.1.hh y e).imp id (λ e=>by omega)) (λ e=>.inr (by omega)),dv.tch tF (λ y u e=>by have:=(af y (.inl u)).1;omega) (λ y u e=>by have:=(af y (.inr (.inl u))).1;omega) (λ y u e=>by have:=(af y (.inr (.inr u))).1;omega),λ j hj=>?_⟩;have:=af j hj;refine⟨.inr (.inr (.inr (by omega))),λ e=>(h6 j e).elim (λ e=>by have:=ao j e;omega) (λ e=>by omega)⟩
        (have gp:=QL.c0;have gq:=QL.c1;have gr:=QL.c2;have gs:=QL.c3;have h3:=XL.c0;have h4:=XL.c1;have h5:=XL.c2;have h7:=XL.c3;have h8:=XL.fz 0;have h9:=XL.fz 1;have hc:=XL.fz 2;have hf:=XL.fz 3;have ff:=wk_nat (x:=(at_:Int)+2) (t:=at_+2) (by omega) (by omega);have fg:=zu9 (x:=(at_:Int)+2) (t:=at_+2) (by omega) (by omega);clear XL QL XF tF g6 t6 h6 ae dq c9 am ds;go_wp2_with fail;try rw[b7]);refine bodyPost_ret (v:=.tuple #[nod pf (.slice a4 Q1 a7) (.slice a5 Q2 a8) (.slice a6 Q3 a9),.int .i64 (at_:Int),.int .i64 ((at_+2:Nat):Int),.int .i64 0]) (zau9 (p:=10) (ty:=93) rfl _ _ _ O.heap.size _ _ _ _ rfl d4.o rfl rfl rfl) rfl ?_;exact HF.o
     .have fv:(re==0)=false:=by rw[zl0];exact cm
      (have i6:(re != 0)=true:=by rw[bne,fv];rfl);obtain⟨WA,b6⟩:=exN ((((W8.setCell ⟨O.heap.size,0,none⟩ (.bool false)).setCell ⟨O.heap.size,1,none⟩ (.slice none 0 0)).setCell ⟨O.heap.size,2,none⟩ (.slice none 0 0)).setCell ⟨O.heap.size,3,none⟩ (.slice none 0 0));(have XA:Nb WA 93 O.heap.size false (.slice none 0 0) (.slice none 0 0) (.slice none 0 0):=by rw[<-b6];exact X8.all _ _ _ _);(have tA:Tch (λ y=>y=O.heap.size) W8 WA:=by rw[<-b6];exact zl9 _ _ _ _ _ _);have d0:=za0 XA.load
      (have HF:Hid (JndT H w t cc d M N a b (.slice d1 P1 f1) (.slice d2 P2 f2) (.slice d3 P3 f3) RR (.returned (.tuple #[nod false (.slice none 0 0) (.slice none 0 0) (.slice none 0 0),.int .i64 0,.int .i64 0,.int .i64 re])) WA):=by show JndT _ _ _ _ _ _ _ _ _ _ _ _ _ _ _;rw[cx.o _ (cq.o.1 cm)];refine⟨Q,_,_,_,rfl,J8.gz.tch tA (λ y u e=>aq y (by omega) (by omega) u),au.trans tA (λ y u e=>by omega),λ y u=>(J8.hh y u).imp id (λ e=>by omega),(zok9 0 WA).nn,λ j hj=>?_⟩;rcases hj with e|e|e<;>cases e);have hm:=X8.c0;have ho:=X8.c1;have hr:=X8.c2;have hs:=X8.c3;have hu:=X8.fz 0;have hw:=X8.fz 1;have hx:=X8.fz 2;have hy:=X8.fz 3;clear X8 XA tA au J8 aa aq aw ae cm;go_wp2_with fail;try rw[b6]
      refine bodyPost_ret (v:=.tuple #[nod false (.slice none 0 0) (.slice none 0 0) (.slice none 0 0),.int .i64 0,.int .i64 0,.int .i64 re]) (zau9 (p:=10) (ty:=93) rfl _ _ _ O.heap.size _ _ _ _ rfl d0.o rfl rfl rfl) rfl ?_;exact HF.o
  .have dj:k=2:=by omega
   subst dj;have I:=hI.o;have ae:=an.o;(have aa:∀y,w.heap.size<=y->¬H y:=λ y h1 e=>by have:=ay.o y e;omega);have X8:Nb wr 93 O.heap.size false (.slice none 0 0) (.slice none 0 0) (.slice none 0 0):=bn.o.tch I.1.tc (aa _ (by omega));have P8:Nb wr 93 W1.heap.size pf (.slice d1 P1 f1) (.slice d2 P2 f2) (.slice d3 P3 f3):=cu.o.tch I.1.tc (aa _ (by omega));have au:Tch H w wr:=(Tch.of_below (S:=H) HB.o).trans I.1.tc (λ _ _ e=>e);have bf:Nn wr p (.slice d1 P1 f1) (.slice d2 P2 f2) (.slice d3 P3 f3):=HP.o.tch au (λ y u=>ax.o y (.inl u)) (λ y u=>ax.o y (.inr (.inl u))) (λ y u=>ax.o y (.inr (.inr u)));have am:∀y,H' y->y≠O.heap.size:=λ y e q=>by
    subst q;exact(I.1.hh _ e).elim (aa _ (by omega)) (λ e=>by omega)
   obtain⟨WA,b6⟩:=exN ((((wr.setCell ⟨O.heap.size,0,none⟩ (.bool pf)).setCell ⟨O.heap.size,1,none⟩ (.slice d1 P1 f1)).setCell ⟨O.heap.size,2,none⟩ (.slice d2 P2 f2)).setCell ⟨O.heap.size,3,none⟩ (.slice d3 P3 f3));(have XA:Nb WA 93 O.heap.size pf (.slice d1 P1 f1) (.slice d2 P2 f2) (.slice d3 P3 f3):=by rw[<-b6];exact X8.all _ _ _ _);(have tA:Tch (λ y=>y=O.heap.size) wr WA:=by rw[<-b6];exact zl9 _ _ _ _ _ _);have d0:=za0 XA.load;have HF:Hid (JndT H w t cc d M N a b (.slice d1 P1 f1) (.slice d2 P2 f2) (.slice d3 P3 f3) RR (.returned (.tuple #[nod pf (.slice d1 P1 f1) (.slice d2 P2 f2) (.slice d3 P3 f3),.int .i64 (at_:Int),.int .i64 ((at_+1:Nat):Int),.int .i64 0])) WA):=by
    (show JndT _ _ _ _ _ _ _ _ _ _ _ _ _ _ _;have er:RR=⟨0,p,at_,at_+1,c⟩:=by rw[<-de.o];unfold joinedF;rw[I.2.1 (by omega),I.2.2 (by omega)]);rw[er];refine⟨H',_,_,_,by rw[show(JR.n ⟨0,p,at_,at_+1,c⟩)=p from rfl,c5.o],I.1.gz.tch tA (λ y u e=>am y u e),au.trans tA (λ y u e=>by omega),λ y u=>(I.1.hh y u).imp id (λ e=>by omega),bf.tch tA (λ y u e=>by have:=cf.o y (.inl u);omega) (λ y u e=>by have:=cf.o y (.inr (.inl u));omega) (λ y u e=>by have:=cf.o y (.inr (.inr u));omega),λ j hj=>⟨?_,λ e=>?_⟩⟩
    .rcases hj with e|e|e
     .exact .inl e
     .exact .inr (.inl e)
     .exact .inr (.inr (.inl e))
    .exact(I.1.hh j e).elim (λ e=>ax.o j hj e) (λ e=>by have:=cf.o j hj;omega)
   (have dx:=P8.c0;have dy:=P8.c1;have dz:=P8.c2;have e6:=P8.c3;have hm:=X8.c0;have ho:=X8.c1;have hr:=X8.c2;have hs:=X8.c3;have hu:=X8.fz 0;have hw:=X8.fz 1;have hx:=X8.fz 2;have hy:=X8.fz 3;have ff:=wk_nat (x:=(at_:Int)+1) (t:=at_+1) (by omega) (by omega);have fg:=zu9 (x:=(at_:Int)+1) (t:=at_+1) (by omega) (by omega);clear w2 X8 P8 XA tA au bf aa am I hI ae;go_wp2_with fail;try rw[b6]);refine bodyPost_ret (v:=.tuple #[nod pf (.slice d1 P1 f1) (.slice d2 P2 f2) (.slice d3 P3 f3),.int .i64 (at_:Int),.int .i64 ((at_+1:Nat):Int),.int .i64 0]) (zau9 (p:=10) (ty:=93) rfl _ _ _ O.heap.size _ _ _ _ rfl d0.o rfl rfl rfl) rfl ?_;exact HF.o
end
end Go.Proofs.YtcmjlibndmneiaaGreat
namespace Go.Proofs.YtcmjlibndmneiaaGreat
open Go.RowKit Pl
structure SzT(n:Nd):Prop where
 sm:Sm n
 k:n.ks.length<=500
 v:n.vs.length<=500
 d:n.kd.length<=500
structure Vk(n:Nd):Prop where
 may:mayN n=true
 sm:Sm n
def Vk.len{m:Nd}(h:Vk m):m.ks.length<=240/\m.vs.length<=240/\m.kd.length<=240:=by
 have A:=zq9.1 h.may;have hr:=zco9 A (by have:=h.sm.kl;omega);have I:=enc_le hr (zn6 _);rw[zmv9 hr (zn6 _)]at I;have K:=szN_ge m m.ks.length;obtain⟨_,_,_,u⟩:=A;split at u
 .obtain⟨_,E,H⟩:=u;omega
 .obtain⟨_,E,H⟩:=u;omega
def Vk.sz{m:Nd}(h:Vk m):SzT m:=by have:=h.len;exact⟨h.sm,by omega,by omega,by omega⟩
def Vk.pos{m:Nd}(h:Vk m):1<=m.ks.length:=(zq9.1 h.may).1
def Vk.leaf{m:Nd}(h:Vk m)(A:m.lf=true):m.vs.length=m.ks.length/\m.kd.length=0:=by obtain⟨_,_,_,u⟩:=zq9.1 h.may;rw[if_pos A]at u;exact u.2
def Vk.inner{m:Nd}(h:Vk m)(A:m.lf=false):(∀i,i<m.kd.length->0<=dA m i/\dA m i<=65535)/\m.kd.length=m.ks.length/\m.vs.length=0:=by obtain⟨_,_,_,u⟩:=zq9.1 h.may;rw[if_neg (by rw[A];decide)]at u;exact u
def zeu9{l:List ByteArray}{B:Nat}(h:∀i,(l.getD i eS).size<=B):∀s∈l,s.size<=B:=λ s A=>by obtain⟨i,u,rfl⟩:=List.getElem_of_mem A;have:=h i;rw[zn3,zc0 u]at this;exact this
def Sm.km{n:Nd}(h:Sm n):∀s∈n.ks,s.size<=140737488351232:=zeu9 h.ks
def Sm.vm{n:Nd}(h:Sm n):∀s∈n.vs,s.size<=140737488351232:=zeu9 h.vs
def sz_of{n:Nd}(u:∀s∈n.ks,s.size<=140737488351232)(A:∀s∈n.vs,s.size<=140737488351232)(k:n.ks.length<=500)(v:n.vs.length<=500)(d:n.kd.length<=500):SzT n:=
 ⟨⟨λ i=>zbg9 u i,λ i=>zbg9 A i,by omega,by omega,by omega⟩,k,v,d⟩
def zpu9:SzT noneN:=sz_of (by simp[noneN]) (by simp[noneN]) (by simp[noneN]) (by simp[noneN]) (by simp[noneN])
def zgg9{n:Nd}(h:SzT n):∀p∈piecesF n,SzT p:=by
 intro p u;unfold piecesF at u;split at u
 .cases u
 .split at u
  .rw[List.mem_singleton.1 u];exact h
  .split at u
   .rcases List.mem_cons.1 u with rfl|u
    .have e:joinN n noneN=n:=by cases n;simp[joinN,noneN]
     rw[e];exact h
    .rw[List.mem_singleton.1 u];exact zpu9
   .rcases List.mem_cons.1 u with rfl|u
    .exact sz_of (λ s A=>h.sm.km s (zy0 A)) (λ s A=>h.sm.vm s (zy0 A)) (by have:=h.k;simp only[takeN,zg0];omega) (by have:=h.v;simp only[takeN,zg0];omega) (by have:=h.d;simp only[takeN,zg0];omega)
    .rw[List.mem_singleton.1 u];exact sz_of (λ s A=>h.sm.km s (zz0 A)) (λ s A=>h.sm.vm s (zz0 A)) (by have:=h.k;simp only[dropN,zj0];omega) (by have:=h.v;simp only[dropN,zj0];omega) (by have:=h.d;simp only[dropN,zj0];omega)
def zdx9(n:Nd):(piecesF n).length<=2:=by
 unfold piecesF;split
 .simp
 .split
  .simp
  .split<;>simp
def setK(n:Nd)(i:Nat)(k:ByteArray):Nd:={ n with ks:=n.ks.set i k }
def zrk9{x y:ByteArray}{B:Nat}(u:x.size<=B)(A:y.size<=B):(minS x y).size<=B:=by unfold minS;split<;>assumption
def zim9(n:Nd)(i:Nat)(k:ByteArray):(setK n i k).ks.length=n.ks.length:=by simp[setK]
def zyr9{n:Nd}(h:Sm n){i:Nat}{k:ByteArray}(u:k.size<=140737488351232):Sm (setK n i k):=by
 refine⟨λ j=>zbg9 (λ s A=>?_) j,h.vs,by rw[zim9];exact h.kl,h.vl,h.dl⟩;rcases List.mem_or_eq_of_mem_set A with e|e
 .exact h.km s e
 .rw[e];exact u
def zre9(a:AS)(c:CH)(ps:List Nd):(kidsF a c ps).xs.length<=ps.length:=by
 induction ps generalizing a c with
 | nil=>simp[kidsF]
 | cons p r u=>
  unfold kidsF;split
  .simp
  .have:=u (writeF a c p).a (writeF a c p).c;simp only[zk0];omega
def zrd9(a:AS)(c:CH)(ps:List Nd):(kidsF a c ps).c.tk.length<=c.tk.length+ps.length/\(kidsF a c ps).c.gn=c.gn/\(kidsF a c ps).c.lv=c.lv:=by
 induction ps generalizing a c with
 | nil=>simp[kidsF]
 | cons p r A=>
  have u:=zdg9 a c p;unfold kidsF;split
  .exact⟨by simp only[zk0];omega,u.2.1,u.2.2⟩
  .have:=A (writeF a c p).a (writeF a c p).c;exact⟨by simp only[zk0];omega,this.2.1.trans u.2.1,this.2.2.trans u.2.2⟩
def zal9(a:AS)(c:CH){n:Nd}(i j:Nat){ps:List Nd}(u:Sm n)(O:n.ks.length<=240/\n.vs.length<=240/\n.kd.length<=240)(E:∀p∈ps,Sm p)(I:ps.length<=2):SzT (replaceF a c n i j ps).n:=by
 unfold replaceF;split
 .exact zpu9
 .have Q:=zre9 a c ps;have K:=zfx9 (kA n i) ps;refine sz_of (λ s A=>?_) (λ s A=>u.vm s A) ?_ (by simp only[zai9];omega) ?_
  .simp only[zai9,zi0]at A;rcases A with e|e|e
   .exact u.km s (zy0 e)
   .cases ps with
    | nil=>cases e
    | cons p r=>
     rcases List.mem_cons.1 e with rfl|e
     .exact u.ks i
     .obtain⟨q,H,rfl⟩:=List.mem_map.1 e;exact(E q (zq0 _ H)).ks 0
   .exact u.km s (zz0 e)
  .simp only[zai9,zf0,zg0,zj0];omega
  .simp only[zai9,zf0,zg0,zj0];omega
def zbx9(a:AS)(c:CH)(n:Nd)(i j:Nat)(ps:List Nd):(replaceF a c n i j ps).c.tk.length<=c.tk.length+ps.length/\(replaceF a c n i j ps).c.gn=c.gn/\(replaceF a c n i j ps).c.lv=c.lv:=by unfold replaceF;split<;>exact zrd9 a c ps
def zbb9(a:AS)(c:CH)(x:Int):(leaveF a c x).gn.length<=c.gn.length+1/\(leaveF a c x).tk=c.tk/\(leaveF a c x).lv=c.lv:=by
 unfold leaveF;split
 .exact⟨by simp,rfl,rfl⟩
 .exact⟨by omega,rfl,rfl⟩
structure JOk(c:CH)(n:Nd)(r:JR):Prop where
 gn:r.c.gn.length<=c.gn.length+1
 tk:r.c.tk=c.tk
 lv:r.c.lv=c.lv
 sz:SzT r.n
 ij:r.e=0->r.i<r.j/\r.j<=n.kd.length/\r.i<=1000/\r.j<=1002
def zsj9{a:AS}(H:∀x,(a.V x).1=0->Vk (a.V x).2)(c:CH){n p:Nd}{at_ lv:Nat}(u:SzT p)(I:at_<n.kd.length)(Q:n.kd.length<=1000){b:Int}(K:b=(at_:Int)-1\/b=(at_:Int)+1){r:JR}(h:besF a c n at_ lv p b=some r):JOk c n r:=by
 unfold besF at h;split at h
 .cases h
 .rename_i hbr;have O:0<=b/\b<(n.kd.length:Int):=by omega
  split at h
  .cases h;exact⟨by simp,rfl,rfl,zpu9,λ e=>absurd e (by assumption)⟩
  .rename_i h0;have hv:Vk (look a (dA n b.toNat) (lv+1)).2:=by
    unfold look at h0 |-
    split
    .rename_i hl;rw[if_pos hl]at h0;exact absurd (by decide) h0
    .rename_i hl;rw[if_neg hl]at h0;exact H _ (by simpa using h0)
   have T:=hv.len;have A:=zbb9 a c (dA n b.toNat);split at h
   .split at h
    .rename_i hm;cases h;have E:=zgm9 hv.sm u.sm (by have:=u.k;omega) (by have:=u.v;omega) (by have:=u.d;omega);exact⟨A.1,A.2.1,A.2.2,(Vk.mk hm E).sz,λ _=>⟨by simp only;omega,by simp only;omega,by simp only;omega,by simp only;omega⟩⟩
    .cases h
   .split at h
    .rename_i hm;cases h;have E:=zgm9 u.sm hv.sm (by have:=u.k;omega) (by have:=u.v;omega) (by have:=u.d;omega);exact⟨A.1,A.2.1,A.2.2,(Vk.mk hm E).sz,λ _=>⟨by simp only;omega,by simp only;omega,by simp only;omega,by simp only;omega⟩⟩
    .cases h
def znq9{a:AS}(A:∀x,(a.V x).1=0->Vk (a.V x).2)(c:CH){n p:Nd}{at_ lv:Nat}(u:SzT p)(E:at_<n.kd.length)(H:n.kd.length<=1000):JOk c n (joinedF a c n at_ lv p):=by
 unfold joinedF;split
 .rename_i r h;exact zsj9 A c u E H (.inl rfl) h
 .split
  .rename_i r h;exact zsj9 A c u E H (.inr rfl) h
  .exact⟨by simp,rfl,rfl,u,λ _=>⟨by simp,by simp only;omega,by simp only;omega,by simp only;omega⟩⟩
