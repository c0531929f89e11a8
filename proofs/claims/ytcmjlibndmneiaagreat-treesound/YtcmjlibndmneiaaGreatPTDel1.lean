import Derived.Test.YtcmjlibndmneiaaGreatPTIns
import Derived.Test.YtcmjlibndmneiaaGreatPTPl
set_option maxRecDepth 100000
set_option linter.all false
set_option maxHeartbeats 8000000
namespace Go.Proofs.YtcmjlibndmneiaaGreat
open Go.RowKit Go.Maps Pl
def AtL(B:Nat)(w:World)(n':Nd)(u1 u2 u3:Value)(e:Ending)(w':World):Prop:=
 ∃v1 v2 v3,e=.returned (nod n'.lf v1 v2 v3)/\Ow3 B w' n' v1 v2 v3/\Tch (λ k=>u1.ownBlock=some k\/u2.ownBlock=some k) w w'/\
  (∀j,(v1.ownBlock=some j\/v2.ownBlock=some j\/v3.ownBlock=some j)->(u1.ownBlock=some j\/u2.ownBlock=some j\/u3.ownBlock=some j)\/w.heap.size<=j)
section
variable {B:Nat} {w:World}
def zty9(n:Nd)(u1 u2 u3:Value)(key:ByteArray)(kb:Nat)(w:World)(hB:B<=w.heap.size)(h:Ow3 B w n u1 u2 u3)(hs:Sm n)(bm:n.ks.length<=1000)(hv:n.vs.length=n.ks.length)(au:w.cell? ⟨kb,0,none⟩=some (.string key)):
 Calls Tryz.prog 54 #[nod n.lf u1 u2 u3,.pointer (some ⟨kb,0,none⟩)] w λ e w'=>AtL B w (delL key n) u1 u2 u3 e w':=by
 obtain⟨a1,c1,a2,c2,K,O,rfl,rfl,rfl,_,_,_,_⟩:=h.nn.o;obtain⟨H,a3⟩:=exH n.ks.length;obtain⟨L2,am⟩:=exH n.vs.length;obtain⟨I,bl⟩:=exH n.kd.length;obtain⟨Y,ac⟩:=exH n.lf;rw[a3.o,am.o,bl.o]at h |-
 rw[a3.o,am.o]at hv;rw[a3.o]at bm;rw[ac.o];obtain⟨E,an⟩:=exN (w.alloc (.cells #[.bool Y,.slice a1 H c1,.slice a2 L2 c2,.slice K I O] 93));obtain⟨W2,ao⟩:=exN (E.alloc (.cells #[.bool false,.slice none 0 0,.slice none 0 0,.slice none 0 0] 93));have s1:E.heap.size=w.heap.size+1:=by rw[<-an];simp
 have s2:W2.heap.size=w.heap.size+2:=by rw[<-ao];simp[s1]
 have b1:Below w.heap.size w E:=by rw[<-an];exact za9 _ _
 have b2:Below E.heap.size E W2:=by rw[<-ao];exact za9 _ _
 have ab:=b1.trans (b2.mono b1.size);have V2:Nb W2 93 w.heap.size Y (.slice a1 H c1) (.slice a2 L2 c2) (.slice K I O):=by
  have:Nb E 93 w.heap.size Y (.slice a1 H c1) (.slice a2 L2 c2) (.slice K I O):=by rw[<-an];exact nb_new _ _ _ _ _ _
  exact this.below b2
 have X2:Nb W2 93 E.heap.size false (.slice none 0 0) (.slice none 0 0) (.slice none 0 0):=by rw[<-ao];exact nb_new _ _ _ _ _ _
 have k2:W2.cell? ⟨kb,0,none⟩=some (.string key):=by rw[ab.cell (ze0 w ⟨kb,0,none⟩ au)];exact au
 have PL:=zcs9 n _ _ _ key W2 (h.nn.below ab) hs;rw[ac.o,a3.o]at PL;have bn:=plc_le n key H;obtain⟨at_,ar⟩:=exH (plc n key H);rw[ar.o]at PL bn;obtain⟨th,aw⟩:=exH (decide (at_<H/\eqs (kA n at_) key=true));rw[aw.o]at PL;have az:=za0 PL;have HH:=za0 h;have b9:=za0 ab;have ah:Hid (E.heap.size=w.heap.size+1/\W2.heap.size=w.heap.size+2):=⟨s1,s2⟩
 have bf:=za0 V2;have bj:=za0 X2;have c3:=za0 hB;have bi:=za0 hv;have ax:=V2.c0;have a7:=V2.c1;have a8:=V2.c2;have ay:=V2.c3;clear h hs PL V2 X2 b1 b2 ab s1 s2 hB au hv;unfold nod at az |-
 go_enter Tryz.func54,Tryz.ntmps54
 go_wp2_with fail;refine az.o.mono ?_;rintro e W3 ⟨rfl,b3⟩;have hz:=ah.o;have T3:Tch (λ _=>False) w W3:=(Tch.of_below b9.o).trans (Tch.of_below b3) (λ _ _ e=>e);have V3:=bf.o.below b3;have Q:=bj.o.below b3;have O3:=HH.o.tch T3 (λ _ _ e=>e);clear ax a7 a8 ay b3;have a9:Hid (∀(n':Nd)(W:World)(y1 y2:Value),n'.lf=Y->n'=delL key n->Ow3 B W n' y1 y2 (.slice K I O)->Nb W 93 E.heap.size false (.slice none 0 0) (.slice none 0 0) (.slice none 0 0)->Tch (λ k=>(Value.slice a1 H c1).ownBlock=some k\/(Value.slice a2 L2 c2).ownBlock=some k) w W->
  (∀j,(y1.ownBlock=some j\/y2.ownBlock=some j)->((Value.slice a1 H c1).ownBlock=some j\/(Value.slice a2 L2 c2).ownBlock=some j)\/E.heap.size<j)->
  ∃WA,(((W.setCell ⟨E.heap.size,0,none⟩ (.bool Y)).setCell ⟨E.heap.size,1,none⟩ y1).setCell ⟨E.heap.size,2,none⟩ y2).setCell ⟨E.heap.size,3,none⟩ (.slice K I O)=WA/\(loadVar 93 ⟨E.heap.size,0,none⟩).run Tryz.prog WA=.ok (nod Y y1 y2 (.slice K I O)) WA/\AtL B w (delL key n) (.slice a1 H c1) (.slice a2 L2 c2) (.slice K I O) (.returned (nod Y y1 y2 (.slice K I O))) WA):=λ n' W y1 y2 hl e ho hx ht hf=>by
  have tA:=zl9 W E.heap.size (.bool Y) y1 y2 (.slice K I O);have hu:=HH.o.k.lt;have T:=HH.o.v.lt;have a4:=HH.o.d.lt;have OA:=ho.tch tA (λ j u q=>by
   subst q;rcases u with q|q|q
   .rcases hf _ (.inl q)with(q|q)|q
    .have:=hu _ q;omega
    .have:=T _ q;omega
    .omega
   .rcases hf _ (.inr q)with(q|q)|q
    .have:=hu _ q;omega
    .have:=T _ q;omega
    .omega
   .have:=a4 _ q;omega)
  refine⟨_,rfl,(hx.all _ _ _ _).load,y1,y2,_,by rw[<-e,hl],e▸OA,?_,λ j u=>?_⟩
  .exact ht.trans tA (λ y hy q=>by omega)
  .rcases u with q|q|q
   .exact(hf j (.inl q)).imp (λ q=>q.imp id .inl) (λ q=>by omega)
   .exact(hf j (.inr q)).imp (λ q=>q.imp id .inl) (λ q=>by omega)
   .exact .inl (.inr (.inr q))
 have a0:=za0 O3;have ai:=za0 T3;have bg:=za0 V3;have ak:=za0 Q;cases th
 .have HD:Hid (delL key n=n):=by show delL key n=n;unfold delL;simp only[a3.o,ar.o];rw[if_neg];have:=aw.o;rw[zn4]at this;exact this
  obtain⟨WA,aq,a6,a5⟩:=a9.o n W3 _ _ ac.o HD.o.symm O3 Q (T3.mono (λ _ _ e=>e.elim)) (λ j u=>.inl u);have ag:=za0 a6;have af:=za0 a5;have ax:=V3.c0;have a7:=V3.c1;have a8:=V3.c2;have ay:=V3.c3;have bp:=Q.c0;have bq:=Q.c1;have br:=Q.c2;have bs:=Q.c3;have bt:=Q.fz 0;have bu:=Q.fz 1;have bw:=Q.fz 2;have bx:=Q.fz 3;clear a6 a5 V3 Q O3 T3 hz a9;go_wp2_with fail;try rw[aq]
  refine bodyPost_ret (v:=nod Y (.slice a1 H c1) (.slice a2 L2 c2) (.slice K I O)) (zbd9 (p:=3) (ty:=93) rfl _ _ _ E.heap.size _ rfl ag.o) rfl ?_;exact af.o
 .have ad:=aw.o;rw[zm0]at ad;have b6:=ad.1;have HD:Hid (delL key n={ n with ks:=n.ks.take at_++n.ks.drop (at_+1),vs:=n.vs.take at_++n.vs.drop (at_+1) }):=by show delL key n=_;unfold delL;simp only[a3.o,ar.o];rw[if_pos ad]
  have D1:=zmr9 (w:=W3) (.slice a1 H c1) n.ks at_ O3.k (by rw[a3.o];exact b6);have ba:=za0 D1;have be:=za0 b6;have a7:=V3.c1;have a8:=V3.c2;have c6:=zej9 (x:=(at_:Int)+1) (by omega) (by omega);have c7:wrap64 ((at_:Int)+1)=(at_:Int)+1:=by unfold wrap64;omega
  clear D1 V3 Q O3 T3 hz ad;go_wp2_with fail;refine ba.o.mono ?_;rintro e W4 ⟨y1,rfl,A⟩;obtain⟨x5,z5,rfl⟩:=A.ow.long;obtain⟨q5,b7⟩:=exH ((strs (n.ks.take at_++n.ks.drop (at_+1))).length);rw[b7.o]at A;rw[b7.o];have hz:=ah.o;have hu:=HH.o.k.lt;have T:=HH.o.v.lt;have a4:=HH.o.d.lt;have V4:=bg.o.tch A.tc (λ e=>by have:=hu _ e;omega);have X4:=ak.o.tch A.tc (λ e=>by have:=hu _ e;omega);obtain⟨W5,b4⟩:=exN (W4.setCell ⟨w.heap.size,1,none⟩ (.slice x5 q5 z5));have V5:Nb W5 93 w.heap.size Y (.slice x5 q5 z5) (.slice a2 L2 c2) (.slice K I O):=by rw[<-b4];exact V4.s1 _
  have t5:Tch (λ k=>k=w.heap.size) W4 W5:=by rw[<-b4];exact Tch.setCell (S:=λ k=>k=w.heap.size) (Tch.refl _ _) (p:=⟨w.heap.size,1,none⟩) (λ _=>rfl) _
  have X5:=X4.tch t5 (by show¬E.heap.size=w.heap.size;omega);have bo:=A.tc.size;have s3:=ai.o.size;have av:=ak.o.lt;have al:Tch (λ k=>k=w.heap.size\/(Value.slice a1 H c1).ownBlock=some k) W3 W5:=(A.tc.mono (λ k _ e=>.inr e)).trans t5 (λ k _ e=>.inl e);have O5:=a0.o.v.tch al (λ j u e=>e.elim (λ e=>by have:=T j u;omega) (λ e=>a0.o.ap j e u));have K5:=A.ow.tch t5 (λ j u e=>(A.fs j u).elim (λ q=>by have:=hu j q;omega) (λ q=>by omega));have F5:∀j,(Value.slice x5 q5 z5).ownBlock=some j->(Value.slice a1 H c1).ownBlock=some j\/E.heap.size<j:=λ j u=>(A.fs j u).imp id (λ e=>by omega);have D2:=zmr9 (w:=W5) (.slice a2 L2 c2) n.vs at_ O5 (by rw[am.o,bi.o];exact be.o);have bb:=za0 D2;have bc:=za0 K5
  have ae:=za0 F5;have aj:=za0 al;have bh:=za0 V5;have bk:=za0 X5;have bz:=za0 O5.lt;have bd:=za0 K5.lt;have e2:=V5.c2;have v4:=V4.c1;have c4:=V4.fz 1;clear D2 K5 F5 al V5 X5 O5 V4 X4 A t5 hz hu T a4 bo s3 av a7 a8;go_wp2_with fail;refine bb.o.mono ?_;rintro e W6 ⟨y2,rfl,A⟩;obtain⟨x6,z6,rfl⟩:=A.ow.long;obtain⟨q6,b8⟩:=exH ((strs (n.vs.take at_++n.vs.drop (at_+1))).length);rw[b8.o]at A;rw[b8.o];have hz:=ah.o;have hu:=HH.o.k.lt;have T:=HH.o.v.lt;have a4:=HH.o.d.lt;have s3:=ai.o.size;have s5:=aj.o.size;have av:=ak.o.lt;have V6:=bh.o.tch A.tc (λ e=>by have:=T _ e;omega);have X6:=bk.o.tch A.tc (λ e=>by have:=T _ e;omega);obtain⟨W7,b5⟩:=exN (W6.setCell ⟨w.heap.size,2,none⟩ (.slice x6 q6 z6))
  have V7:Nb W7 93 w.heap.size Y (.slice x5 q5 z5) (.slice x6 q6 z6) (.slice K I O):=by rw[<-b5];exact V6.s2 _
  have t7:Tch (λ k=>k=w.heap.size) W6 W7:=by rw[<-b5];exact Tch.setCell (S:=λ k=>k=w.heap.size) (Tch.refl _ _) (p:=⟨w.heap.size,2,none⟩) (λ _=>rfl) _
  have X7:=X6.tch t7 (by show¬E.heap.size=w.heap.size;omega);have aa:Tch (λ k=>k=w.heap.size\/(Value.slice a2 L2 c2).ownBlock=some k) W5 W7:=(A.tc.mono (λ k _ e=>.inr e)).trans t7 (λ k _ e=>.inl e);have T7:Tch (λ k=>(Value.slice a1 H c1).ownBlock=some k\/(Value.slice a2 L2 c2).ownBlock=some k) w W7:=((ai.o.mono (λ _ _ e=>e.elim)).trans aj.o (λ y hy e=>e.elim (λ e=>by omega) .inl)).trans aa (λ y hy e=>e.elim (λ e=>by omega) .inr);have D7:OwV B 3 W7 (.slice K I O) (nums n.kd):=by refine(a0.o.d.tch aj.o (λ j u e=>e.elim (λ e=>by have:=a4 j u;omega) (λ e=>a0.o.k.apart a0.o.d (by decide) e u))).tch aa (λ j u e=>e.elim (λ e=>by have:=a4 j u;omega) (λ e=>a0.o.v.apart a0.o.d (by decide) e u))
  have b0:∀j,(Value.slice x5 q5 z5).ownBlock=some j->(Value.slice x6 q6 z6).ownBlock≠some j:=λ j h1 h2=>by
   have l5:=bd.o j h1;rcases A.fs j h2 with q|q
   .rcases ae.o j h1 with r|r
    .exact a0.o.ap j r q
    .have:=T j q;omega
   .omega
  have K7:=bc.o.tch aa (λ j u e=>by
   rcases ae.o j u with r|r
   .exact e.elim (λ e=>by have:=hu j r;omega) (λ e=>a0.o.ap j r e)
   .exact e.elim (λ e=>by omega) (λ e=>by have:=T j e;omega))
  have U7:=A.ow.tch t7 (λ j u e=>(A.fs j u).elim (λ q=>by have:=T j q;omega) (λ q=>by omega));obtain⟨WA,aq,a6,a5⟩:=a9.o { n with ks:=n.ks.take at_++n.ks.drop (at_+1),vs:=n.vs.take at_++n.vs.drop (at_+1) } W7 (.slice x5 q5 z5) (.slice x6 q6 z6) ac.o HD.o.symm ⟨K7,U7,D7,b0⟩ X7 T7 (λ j u=>by
   rcases u with e|e
   .exact(ae.o j e).imp .inl id
   .exact(A.fs j e).imp .inr (λ q=>by omega))
  have ag:=za0 a6;have af:=za0 a5;have ax:=V7.c0;have a7:=V7.c1;have a8:=V7.c2;have ay:=V7.c3;have v6:=V6.c2;have c5:=V6.fz 2;have bp:=X7.c0;have bq:=X7.c1;have br:=X7.c2;have bs:=X7.c3;have bt:=X7.fz 0;have bu:=X7.fz 1;have bw:=X7.fz 2;have bx:=X7.fz 3;clear a6 a5 V7 X7 V6 X6 A t7 aa T7 D7 b0 K7 U7 hz hu T a4 s3 s5 av a9;go_wp2_with fail;try rw[aq]
  refine bodyPost_ret (v:=nod Y (.slice x5 q5 z5) (.slice x6 q6 z6) (.slice K I O)) (zbd9 (p:=3) (ty:=93) rfl _ _ _ E.heap.size _ rfl ag.o) rfl ?_;exact af.o
end
section
variable {B:Nat} {w:World}
def OwV.put1{e:TypeId}{g o l cap:Nat}{u:List Value}(h:OwV B e w (.slice (some ⟨g,o,none⟩) l cap) u){i:Nat}(hi:i<u.length)(x:Value):OwV B e (w.setCell ⟨g,o+i,none⟩ x) (.slice (some ⟨g,o,none⟩) l cap) (u.set i x):=by
 rcases h.rows with⟨A,_⟩|⟨g',Y,E,A,Q,hr,H,I,K,O⟩
 .cases A
 .cases A;have T:Rw e (w.setCell ⟨g,0+i,none⟩ x) g (E.set i x):=by rw[Nat.zero_add];have:=heap_setCell_same w g i _ _ x hr;unfold Rw;rw[this];simp
  refine T.owV Q (by rw[zt0];exact K) I H ?_;rw[List.take_set,O]
def OwV.fz1{e:TypeId}{g o l cap:Nat}{A:List Value}(h:OwV B e w (.slice (some ⟨g,o,none⟩) l cap) A)(i:Nat):w.frozen? ⟨g,i,none⟩=false:=by
 rcases h.rows with⟨u,_⟩|⟨I,E,H,u,Y,hr,K,O,Q,T⟩
 .cases u
 .cases u;exact hr.fz i
def ziq9(u:List ByteArray)(i:Nat)(x:ByteArray):strs (u.set i x)=(strs u).set i (.string x):=by unfold strs;rw[List.map_set]
def zip9(u:List ByteArray)(i:Nat)(x:ByteArray):strs (u.take i++x::u.drop i)=(strs u).take i++.string x::(strs u).drop i:=by unfold strs;simp[List.map_take,List.map_drop]
def zuv9(n:Nd)(u1 u2 u3:Value)(key val:ByteArray)(kb vb:Nat)(w:World)(hB:B<=w.heap.size)(h:Ow3 B w n u1 u2 u3)(hs:Sm n)(cd:n.ks.length<=1000)(hv:n.vs.length=n.ks.length)(ba:w.cell? ⟨kb,0,none⟩=some (.string key))(bs:w.cell? ⟨vb,0,none⟩=some (.string val))(br:vb<B):
 Calls Tryz.prog 51 #[nod n.lf u1 u2 u3,.pointer (some ⟨kb,0,none⟩),.pointer (some ⟨vb,0,none⟩)] w λ e w'=>AtL B w (insL key val n) u1 u2 u3 e w':=by
 obtain⟨T,c1,a2,O,a3,c3,rfl,rfl,rfl,_,_,_,_⟩:=h.nn.o;obtain⟨I,a7⟩:=exH n.ks.length;obtain⟨A,a9⟩:=exH n.vs.length;obtain⟨L3,ca⟩:=exH n.kd.length;obtain⟨lf,ak⟩:=exH n.lf;rw[a7.o,a9.o,ca.o]at h |-
 rw[a7.o,a9.o]at hv;rw[a7.o]at cd;rw[ak.o];obtain⟨E,b5⟩:=exN (w.alloc (.cells #[.bool lf,.slice T I c1,.slice a2 A O,.slice a3 L3 c3] 93));obtain⟨W2,b6⟩:=exN (E.alloc (.cells #[.bool false,.slice none 0 0,.slice none 0 0,.slice none 0 0] 93));have s1:E.heap.size=w.heap.size+1:=by rw[<-b5];simp
 have s2:W2.heap.size=w.heap.size+2:=by rw[<-b6];simp[s1]
 have b1:Below w.heap.size w E:=by rw[<-b5];exact za9 _ _
 have b2:Below E.heap.size E W2:=by rw[<-b6];exact za9 _ _
 have ah:=b1.trans (b2.mono b1.size);have V2:Nb W2 93 w.heap.size lf (.slice T I c1) (.slice a2 A O) (.slice a3 L3 c3):=by
  have:Nb E 93 w.heap.size lf (.slice T I c1) (.slice a2 A O) (.slice a3 L3 c3):=by rw[<-b5];exact nb_new _ _ _ _ _ _
  exact this.below b2
 have X2:Nb W2 93 E.heap.size false (.slice none 0 0) (.slice none 0 0) (.slice none 0 0):=by rw[<-b6];exact nb_new _ _ _ _ _ _
 have k2:W2.cell? ⟨kb,0,none⟩=some (.string key):=by rw[ah.cell (ze0 w ⟨kb,0,none⟩ ba)];exact ba
 have PL:=zcs9 n _ _ _ key W2 (h.nn.below ah) hs;rw[ak.o,a7.o]at PL;have a4:=plc_le n key I;obtain⟨at_,b9⟩:=exH (plc n key I);rw[b9.o]at PL a4;obtain⟨th,bd⟩:=exH (decide (at_<I/\eqs (kA n at_) key=true));rw[bd.o]at PL;have bi:=za0 PL;have Y:=za0 h;have bt:=za0 ah;have aq:Hid (E.heap.size=w.heap.size+1/\W2.heap.size=w.heap.size+2):=⟨s1,s2⟩
 have bz:=za0 V2;have c6:=za0 X2;have bg:=za0 hB;have a6:=za0 hv;have bk:=za0 bs;have c5:=za0 br;have ck:=V2.c0;have be:=V2.c1;have bf:=V2.c2;have cl:=V2.c3;clear h hs PL V2 X2 b1 b2 ah s1 s2 hB ba hv bs br;unfold nod at bi |-
 go_enter Tryz.func51,Tryz.ntmps51
 go_wp2_with fail;refine bi.o.mono ?_;rintro e W3 ⟨rfl,b3⟩;have hz:=aq.o;have T3:Tch (λ _=>False) w W3:=(Tch.of_below bt.o).trans (Tch.of_below b3) (λ _ _ e=>e);have V3:=bz.o.below b3;have X3:=c6.o.below b3;have O3:=Y.o.tch T3 (λ _ _ e=>e);have c9:=b3;clear ck be bf cl b3;have af:Hid (∀(n':Nd)(W:World)(y1 y2:Value),n'.lf=lf->n'=insL key val n->Ow3 B W n' y1 y2 (.slice a3 L3 c3)->Nb W 93 E.heap.size false (.slice none 0 0) (.slice none 0 0) (.slice none 0 0)->Tch (λ k=>(Value.slice T I c1).ownBlock=some k\/(Value.slice a2 A O).ownBlock=some k) w W->
  (∀j,(y1.ownBlock=some j\/y2.ownBlock=some j)->((Value.slice T I c1).ownBlock=some j\/(Value.slice a2 A O).ownBlock=some j)\/E.heap.size<j)->
  ∃WA,(((W.setCell ⟨E.heap.size,0,none⟩ (.bool lf)).setCell ⟨E.heap.size,1,none⟩ y1).setCell ⟨E.heap.size,2,none⟩ y2).setCell ⟨E.heap.size,3,none⟩ (.slice a3 L3 c3)=WA/\(loadVar 93 ⟨E.heap.size,0,none⟩).run Tryz.prog WA=.ok (nod lf y1 y2 (.slice a3 L3 c3)) WA/\AtL B w (insL key val n) (.slice T I c1) (.slice a2 A O) (.slice a3 L3 c3) (.returned (nod lf y1 y2 (.slice a3 L3 c3))) WA):=λ n' W y1 y2 hl e ho hx ht hf=>by
  have tA:=zl9 W E.heap.size (.bool lf) y1 y2 (.slice a3 L3 c3);have hu:=Y.o.k.lt;have Q:=Y.o.v.lt;have a5:=Y.o.d.lt;have OA:=ho.tch tA (λ j u q=>by
   subst q;rcases u with q|q|q
   .rcases hf _ (.inl q)with(q|q)|q
    .have:=hu _ q;omega
    .have:=Q _ q;omega
    .omega
   .rcases hf _ (.inr q)with(q|q)|q
    .have:=hu _ q;omega
    .have:=Q _ q;omega
    .omega
   .have:=a5 _ q;omega)
  refine⟨_,rfl,(hx.all _ _ _ _).load,y1,y2,_,by rw[<-e,hl],e▸OA,?_,λ j u=>?_⟩
  .exact ht.trans tA (λ y hy q=>by omega)
  .rcases u with q|q|q
   .exact(hf j (.inl q)).imp (λ q=>q.imp id .inl) (λ q=>by omega)
   .exact(hf j (.inr q)).imp (λ q=>q.imp id .inl) (λ q=>by omega)
   .exact .inl (.inr (.inr q))
 have d2:=za0 O3;have d3:=za0 T3;have d4:=za0 V3;have d5:=za0 X3;have bl:Hid (∀W,Tch (λ k=>(Value.slice T I c1).ownBlock=some k\/(Value.slice a2 A O).ownBlock=some k) w W->W.cell? ⟨vb,0,none⟩=some (.string val)):=λ W hW=>by
  rw[hW.cell (p:=⟨vb,0,none⟩) (ze0 w ⟨vb,0,none⟩ bk.o) (λ e=>by
   have:=c5.o;rcases e with e|e
   .have:B<=vb:=Y.o.k.ge vb e;omega
   .have:B<=vb:=Y.o.v.ge vb e;omega)]
  exact bk.o
 cases th
 .have a8:=bd.o;rw[zn4]at a8;have HD:Hid (insL key val n={ n with ks:=n.ks.take at_++(key::n.ks.drop at_),vs:=(n.vs.take at_++(eS::n.vs.drop at_)).set at_ val }):=by show insL key val n=_;unfold insL;simp only[a7.o,b9.o];rw[if_neg a8]
  obtain⟨W4,bm⟩:=exN (W3.alloc (.cells #[.string key] 9));have b4:Below W3.heap.size W3 W4:=by rw[<-bm];exact za9 _ _
  have g4:Rw 9 W4 W3.heap.size [.string key]:=by rw[<-bm];exact Rw.new _ _ _
  have s3:=T3.size;have s4:=b4.size;have D1:=znp9 (B:=B) (w:=W4) (.slice T I c1) (strs n.ks) at_ (.string key) W3.heap.size (O3.k.below b4) (zax9 _) rfl (by rw[zh9,a7.o];exact a4) (by rw[zh9,a7.o];omega) g4 (λ e=>by have:=Y.o.k.lt _ e;omega) (by have:=bg.o;omega);rw[<-zip9]at D1;have bu:=za0 D1;have bj:=za0 a4;have V4:=V3.below b4;have X4:=X3.below b4;have O4:=O3.below b4;have T4:Tch (λ _=>False) w W4:=T3.trans (Tch.of_below b4) (λ _ _ e=>e);have a0:=za0 O4;have ar:=za0 T4;have c2:=za0 V4;have av:=za0 X4;have be:=V3.c1;have bf:=V3.c2;have cg:W3.cell? ⟨kb,0,none⟩=some (.string key):=by rw[c9.cell (ze0 W2 ⟨kb,0,none⟩ k2)];exact k2
  clear D1 V3 X3 O3 T3 hz a8 V4 X4 O4 T4 b4 g4 s3 s4 a4;go_wp2_with fail;refine bu.o.mono ?_;rintro e W5 ⟨y1,rfl,H⟩;obtain⟨x5,z5,rfl⟩:=H.ow.long;obtain⟨q5,bq⟩:=exH ((strs (n.ks.take at_++key::n.ks.drop at_)).length);rw[bq.o]at H;rw[bq.o];have hz:=aq.o;have hu:=Y.o.k.lt;have Q:=Y.o.v.lt;have a5:=Y.o.d.lt;have V5:=c2.o.tch H.tc (λ e=>by have:=hu _ e;omega);have X5:=av.o.tch H.tc (λ e=>by have:=hu _ e;omega);obtain⟨W6,bn⟩:=exN (W5.setCell ⟨w.heap.size,1,none⟩ (.slice x5 q5 z5));have V6:Nb W6 93 w.heap.size lf (.slice x5 q5 z5) (.slice a2 A O) (.slice a3 L3 c3):=by rw[<-bn];exact V5.s1 _
  have t6:Tch (λ k=>k=w.heap.size) W5 W6:=by rw[<-bn];exact Tch.setCell (S:=λ k=>k=w.heap.size) (Tch.refl _ _) (p:=⟨w.heap.size,1,none⟩) (λ _=>rfl) _
  have X6:=X5.tch t6 (by show¬E.heap.size=w.heap.size;omega);obtain⟨W7,bo⟩:=exN (W6.alloc (.cells #[.string ⟨#[]⟩] 9));have b7:Below W6.heap.size W6 W7:=by rw[<-bo];exact za9 _ _
  have g7:Rw 9 W7 W6.heap.size [.string eS]:=by rw[<-bo];exact Rw.new _ _ _
  have V7:=V6.below b7;have X7:=X6.below b7;have ch:=H.tc.size;have ci:=t6.size;have cj:=b7.size;have bc:=av.o.lt;have ax:Tch (λ k=>k=w.heap.size\/(Value.slice T I c1).ownBlock=some k) W4 W7:=((H.tc.mono (λ k _ e=>.inr e)).trans t6 (λ k _ e=>.inl e)).trans (Tch.of_below b7) (λ _ _ e=>e);have O7:=a0.o.v.tch ax (λ j u e=>e.elim (λ e=>by have:=Q j u;omega) (λ e=>a0.o.ap j e u));have K7:=(H.ow.tch t6 (λ j u e=>(H.fs j u).elim (λ q=>by have:=hu j q;omega) (λ q=>by omega))).below b7;have F7:∀j,(Value.slice x5 q5 z5).ownBlock=some j->(Value.slice T I c1).ownBlock=some j\/E.heap.size<j:=λ j u=>(H.fs j u).imp id (λ e=>by omega);have a4:=bj.o
  have D2:=znp9 (B:=B) (w:=W7) (.slice a2 A O) (strs n.vs) at_ (.string eS) W6.heap.size O7 (zax9 _) rfl (by rw[zh9,a9.o,a6.o];exact a4) (by rw[zh9,a9.o,a6.o];omega) g7 (λ e=>by have:=Q _ e;omega) (by have:=bg.o;have:=ar.o.size;omega);rw[<-zip9]at D2;have bh:=za0 D2;have bw:=za0 K7;have am:=za0 F7;have au:=za0 ax;have c4:=za0 V7;have c7:=za0 X7;have bx:=za0 K7.lt;have e2:=V6.c2;have v5:=V5.c1;have d8:=V5.fz 1;unfold eS at bh;clear D2 K7 F7 ax V7 X7 O7 V6 X6 V5 X5 H t6 b7 g7 hz hu Q a5 ch ci cj bc be bf cg a4;go_wp2_with fail;refine bh.o.mono ?_;rintro e W8 ⟨y2,rfl,H⟩;have H:Trn B 9 W7 W8 (.slice a2 A O) y2 (strs (n.vs.take at_++eS::n.vs.drop at_)):=H;have hz:=aq.o;have hu:=Y.o.k.lt
  have Q:=Y.o.v.lt;have a5:=Y.o.d.lt;have a4:=bj.o;have s4:=ar.o.size;have s7:=au.o.size;have bc:=av.o.lt;have bb:(n.vs.take at_++eS::n.vs.drop at_).length=A+1:=by have:=a6.o;rw[zf0,zk0,zg0,zj0,a9.o];omega
  obtain⟨x6,z6,rfl⟩:=H.ow.long;obtain⟨q6,al⟩:=exN ((strs (n.vs.take at_++eS::n.vs.drop at_)).length);rw[al]at H;rw[al];have cf:q6=A+1:=by rw[<-al,zh9,bb]
  obtain⟨g,o,rfl,az⟩:=H.ow.rd.at (i:=at_) (c:=.string eS) (by
   have:=a6.o;rw[zip9,zn0 (by rw[zg0];omega),zg0,zh9,a9.o];rw[show at_-min at_ A=0 by omega];rfl)
  have V8:=c4.o.tch H.tc (λ e=>by have:=Q _ e;omega);have X8:=c7.o.tch H.tc (λ e=>by have:=Q _ e;omega);obtain⟨W9,bp⟩:=exN (W8.setCell ⟨w.heap.size,2,none⟩ (.slice (some ⟨g,o,none⟩) q6 z6));have V9:Nb W9 93 w.heap.size lf (.slice x5 q5 z5) (.slice (some ⟨g,o,none⟩) q6 z6) (.slice a3 L3 c3):=by rw[<-bp];exact V8.s2 _
  have t9:Tch (λ k=>k=w.heap.size) W8 W9:=by rw[<-bp];exact Tch.setCell (S:=λ k=>k=w.heap.size) (Tch.refl _ _) (p:=⟨w.heap.size,2,none⟩) (λ _=>rfl) _
  have X9:=X8.tch t9 (by show¬E.heap.size=w.heap.size;omega);have ag:Tch (λ k=>k=w.heap.size\/(Value.slice a2 A O).ownBlock=some k) W7 W9:=(H.tc.mono (λ k _ e=>.inr e)).trans t9 (λ k _ e=>.inl e);have T9:Tch (λ k=>(Value.slice T I c1).ownBlock=some k\/(Value.slice a2 A O).ownBlock=some k) w W9:=((ar.o.mono (λ _ _ e=>e.elim)).trans au.o (λ y hy e=>e.elim (λ e=>by omega) .inl)).trans ag (λ y hy e=>e.elim (λ e=>by omega) .inr);have D9:OwV B 3 W9 (.slice a3 L3 c3) (nums n.kd):=by refine(a0.o.d.tch au.o (λ j u e=>e.elim (λ e=>by have:=a5 j u;omega) (λ e=>a0.o.k.apart a0.o.d (by decide) e u))).tch ag (λ j u e=>e.elim (λ e=>by have:=a5 j u;omega) (λ e=>a0.o.v.apart a0.o.d (by decide) e u))
  have ay:∀j,(Value.slice x5 q5 z5).ownBlock=some j->(Value.slice (some ⟨g,o,none⟩) q6 z6).ownBlock≠some j:=λ j h1 h2=>by
   have l5:=bx.o j h1;rcases H.fs j h2 with q|q
   .rcases am.o j h1 with r|r
    .exact a0.o.ap j r q
    .have:=Q j q;omega
   .omega
  have K9:=bw.o.tch ag (λ j u e=>by
   rcases am.o j u with r|r
   .exact e.elim (λ e=>by have:=hu j r;omega) (λ e=>a0.o.ap j r e)
   .exact e.elim (λ e=>by omega) (λ e=>by have:=Q j e;omega))
  have U9:=H.ow.tch t9 (λ j u e=>(H.fs j u).elim (λ q=>by have:=Q j q;omega) (λ q=>by omega));have ai:∀j,(Value.slice (some ⟨g,o,none⟩) q6 z6).ownBlock=some j->(Value.slice a2 A O).ownBlock=some j\/E.heap.size<j:=λ j u=>(H.fs j u).imp id (λ e=>by omega);have d7:W9.cell? ⟨g,o+at_,none⟩=some (.string eS):=by rw[t9.cell (p:=⟨g,o+at_,none⟩) (ze0 W8 ⟨g,o+at_,none⟩ az) (λ e=>(ai g rfl).elim (λ q=>by have:=Q g q;have e:g=w.heap.size:=e;omega) (λ q=>by have e:g=w.heap.size:=e;omega))];exact az
  have v8:=V8.c2;have d9:=V8.fz 2;obtain⟨WB,aa⟩:=exN (W9.setCell ⟨g,o+at_,none⟩ (.string val));have tB:Tch (λ k=>k=g) W9 WB:=by rw[<-aa];exact Tch.setCell (S:=λ k=>k=g) (Tch.refl _ _) (p:=⟨g,o+at_,none⟩) (λ _=>rfl) _
  have UB:OwV B 9 WB (.slice (some ⟨g,o,none⟩) q6 z6) (strs ((n.vs.take at_++(eS::n.vs.drop at_)).set at_ val)):=by rw[ziq9,<-aa];exact U9.put1 (by rw[zh9,bb];have:=a6.o;omega) _
  have a1:=ai g rfl;have ad:g≠w.heap.size:=λ e=>a1.elim (λ q=>by have:=Q g q;omega) (λ q=>by omega);have ac:g≠E.heap.size:=λ e=>a1.elim (λ q=>by have:=Q g q;omega) (λ q=>by omega);have VB:=V9.tch tB (by exact λ e=>ad e.symm);have K:=X9.tch tB (by exact λ e=>ac e.symm);have KB:=K9.tch tB (λ j u e=>by subst e;exact ay j u rfl);have DB:=D9.tch tB (λ j u e=>by subst e;exact U9.apart D9 (by decide) rfl u);have TB:Tch (λ k=>(Value.slice T I c1).ownBlock=some k\/(Value.slice a2 A O).ownBlock=some k) w WB:=T9.trans tB (λ y hy e=>by subst e;exact a1.elim .inr (λ q=>by omega))
  obtain⟨WA,b8,ae,ab⟩:=af.o { n with ks:=n.ks.take at_++(key::n.ks.drop at_),vs:=(n.vs.take at_++(eS::n.vs.drop at_)).set at_ val } WB (.slice x5 q5 z5) (.slice (some ⟨g,o,none⟩) q6 z6) ak.o HD.o.symm ⟨KB,UB,DB,ay⟩ K TB (λ j u=>by
   rcases u with e|e
   .exact(am.o j e).imp .inl id
   .exact(ai j e).imp .inr id)
  have ao:=za0 ae;have an:=za0 ab;have cm:=bl.o W9 T9;have co:=VB.c0;have cq:=VB.c1;have cr:=VB.c2;have cs:=VB.c3;have cn:=V9.c2;have d1:=U9.fz1 (o+at_);have ct:=K.c0;have cu:=K.c1;have cv:=K.c2;have cw:=K.c3;have cx:=K.fz 0;have cy:=K.fz 1;have cz:=K.fz 2;have d0:=K.fz 3;have iL:at_<q6:=by have:=a6.o;omega
  have i0:(0:Int)<=(at_:Int):=by omega
  have i1:(at_:Int)<(q6:Int):=by omega
  clear ae ab tB UB a1 ad ac VB K KB DB TB af hu Q a5 hz H V8 X8 V9 X9 t9 ag T9 D9 ay K9 U9 ai bb al cf a4 s4 s7 bc az;go_wp2_with fail;try rw[b8]
  refine bodyPost_ret (v:=nod lf (.slice x5 q5 z5) (.slice (some ⟨g,o,none⟩) q6 z6) (.slice a3 L3 c3)) (zbd9 (p:=4) (ty:=93) rfl _ _ _ E.heap.size _ rfl ao.o) rfl ?_;exact an.o
 .have a8:=bd.o;rw[zm0]at a8;have ce:=a8.1;have HD:Hid (insL key val n={ n with vs:=n.vs.set at_ val }):=by show insL key val n=_;unfold insL;simp only[a7.o,b9.o];rw[if_pos a8]
  have hu:=Y.o.k.lt;have Q:=Y.o.v.lt;have a5:=Y.o.d.lt;have aj:at_<n.vs.length:=by rw[a9.o,a6.o];exact ce
  obtain⟨g,o,rfl,d6⟩:=O3.v.rd.at (i:=at_) (c:=.string (n.vs.getD at_ eS)) (by rw[strs,zd1,zc0 aj,zn3,zc0 aj];rfl);have aw:Tch (λ k=>(Value.slice T I c1).ownBlock=some k\/(Value.slice (some ⟨g,o,none⟩) A O).ownBlock=some k) w W3:=T3.mono (λ _ _ e=>e.elim);have F3:∀j,(Value.slice T I c1).ownBlock=some j->(Value.slice T I c1).ownBlock=some j\/E.heap.size<j:=λ j u=>.inl u;have b0:∀j,(Value.slice (some ⟨g,o,none⟩) A O).ownBlock=some j->(Value.slice (some ⟨g,o,none⟩) A O).ownBlock=some j\/E.heap.size<j:=λ j u=>.inl u;obtain⟨WB,aa⟩:=exN (W3.setCell ⟨g,o+at_,none⟩ (.string val))
  have tB:Tch (λ k=>k=g) W3 WB:=by rw[<-aa];exact Tch.setCell (S:=λ k=>k=g) (Tch.refl _ _) (p:=⟨g,o+at_,none⟩) (λ _=>rfl) _
  have UB:OwV B 9 WB (.slice (some ⟨g,o,none⟩) A O) (strs (n.vs.set at_ val)):=by rw[ziq9,<-aa];exact O3.v.put1 (by rw[zh9];exact aj) _
  have a1:=b0 g rfl;have ad:g≠w.heap.size:=λ e=>a1.elim (λ q=>by have:=Q g q;omega) (λ q=>by omega);have ac:g≠E.heap.size:=λ e=>a1.elim (λ q=>by have:=Q g q;omega) (λ q=>by omega);have VB:=V3.tch tB (by exact λ e=>ad e.symm);have K:=X3.tch tB (by exact λ e=>ac e.symm);have KB:=O3.k.tch tB (λ j u e=>by subst e;exact O3.ap j u rfl);have DB:=O3.d.tch tB (λ j u e=>by subst e;exact O3.v.apart O3.d (by decide) rfl u);have TB:Tch (λ k=>(Value.slice T I c1).ownBlock=some k\/(Value.slice (some ⟨g,o,none⟩) A O).ownBlock=some k) w WB:=aw.trans tB (λ y hy e=>by subst e;exact a1.elim .inr (λ q=>by omega))
  obtain⟨WA,b8,ae,ab⟩:=af.o { n with vs:=n.vs.set at_ val } WB (.slice T I c1) (.slice (some ⟨g,o,none⟩) A O) ak.o HD.o.symm ⟨KB,UB,DB,O3.ap⟩ K TB (λ j u=>by
   rcases u with e|e
   .exact(F3 j e).imp .inl id
   .exact(b0 j e).imp .inr id)
  have ao:=za0 ae;have an:=za0 ab;have cm:=bl.o W3 aw;have co:=VB.c0;have cq:=VB.c1;have cr:=VB.c2;have cs:=VB.c3;have cn:=V3.c2;have d1:=O3.v.fz1 (o+at_);have ct:=K.c0;have cu:=K.c1;have cv:=K.c2;have cw:=K.c3;have cx:=K.fz 0;have cy:=K.fz 1;have cz:=K.fz 2;have d0:=K.fz 3;have iL:at_<A:=by have:=a6.o;omega
  have i0:(0:Int)<=(at_:Int):=by omega
  have i1:(at_:Int)<(A:Int):=by omega
  clear ae ab tB UB a1 ad ac VB K KB DB TB af hu Q a5 hz V3 X3 O3 T3 aw F3 b0 aj a8;go_wp2_with fail;try rw[b8]
  refine bodyPost_ret (v:=nod lf (.slice T I c1) (.slice (some ⟨g,o,none⟩) A O) (.slice a3 L3 c3)) (zbd9 (p:=4) (ty:=93) rfl _ _ _ E.heap.size _ rfl ao.o) rfl ?_;exact an.o
end
