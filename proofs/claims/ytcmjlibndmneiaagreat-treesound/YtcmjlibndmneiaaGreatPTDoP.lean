import Derived.Test.YtcmjlibndmneiaaGreatPTBlk
import Derived.Test.YtcmjlibndmneiaaGreatPTChg
import Derived.Test.YtcmjlibndmneiaaGreatPTLev
import Derived.Test.YtcmjlibndmneiaaGreatPTEn2
import Derived.Test.YtcmjlibndmneiaaGreatPNRGetG
set_option maxRecDepth 100000
set_option linter.all false
set_option maxHeartbeats 8000000
namespace Go.Proofs.YtcmjlibndmneiaaGreat
open Go.RowKit Go.Maps Pl
section
variable {U0 Z:Nat->Prop} {w0 w w':World} {b t c d M N:Nat} {a a':AS} {root:Int} {lv:Value}
def LgZ.lwCalls{f:FuncId}{args:Array Value}{P:Ending->Prop}(h:LgZ U0 w0 b t c d M N a root lv Z w)
 (Q:∀U,Lw U w b t c d M N a root lv->(∀k,Z k->¬U k/\k≠b/\k<w.heap.size)->Calls Tryz.prog f args w λ e w'=>P e/\LwTo U w w' b t c d M N a' root lv):
 Calls Tryz.prog f args w λ e w'=>P e/\LgZ U0 w0 b t c d M N a' root lv Z w'/\StZ Z w w':=by
 obtain⟨U,T,H,I,A⟩:=h;refine(Q U T A).mono ?_;rintro e w' ⟨Y,O,l',E,K⟩;refine⟨Y,⟨O,l',H.trans E (λ i hi q=>(I i q).elim id (λ e=>by omega)),λ k u=>(K k u).elim (I k) (λ e=>.inr (zn2 H.size e)),λ k u=>?_⟩,U,E,λ k u=>(A k u).1⟩;obtain⟨z1,z2,z3⟩:=A k u;exact⟨λ e=>(K k e).elim z1 (λ e=>by omega),z2,zn1 z3 E.size⟩
def LgZ.sets(Q:U0 b)(h:LgZ U0 w0 b t c d M N a root lv Z w)(r:Int)(u:Value):
 LgZ U0 w0 b t c d M N a r u Z ((w.setCell ⟨b,4,none⟩ (.int .i64 r)).setCell ⟨b,5,none⟩ u)/\StZ Z w ((w.setCell ⟨b,4,none⟩ (.int .i64 r)).setCell ⟨b,5,none⟩ u):=by
 obtain⟨U,E,T,Y,H⟩:=h;have t1:Tch (λ k=>k=b) w (w.setCell ⟨b,4,none⟩ (.int .i64 r)):=zo9 w b 4 _;have t2:Tch (λ k=>k=b) (w.setCell ⟨b,4,none⟩ (.int .i64 r)) ((w.setCell ⟨b,4,none⟩ (.int .i64 r)).setCell ⟨b,5,none⟩ u):=zo9 _ b 5 u;have I:=t1.trans t2 (λ _ _ e=>e);have K:=heap_setCell_same w b 4 _ _ (.int .i64 r) E.bx;have O:=heap_setCell_same _ b 5 _ _ u K;refine⟨⟨U,⟨O,E.tz.tch I (λ k A e=>E.nb (e▸A)),E.nb⟩,T.trans I (λ i hi e=>by rw[e];exact Q),Y,λ k A=>⟨(H k A).1,(H k A).2.1,zn1 (H k A).2.2 I.size⟩⟩,_,I,λ k A=>(H k A).2.1⟩
def LgZ.begun(h:LgZ U0 w0 b t c d M N a root lv Z w):
 Calls Tryz.prog 22 #[tp t] w λ e w'=>e=.returned (.tuple #[])/\LgZ U0 w0 b t c d M N { a with F:=λ _=>false } root lv Z w'/\StZ Z w w':=
 h.calls (λ U u=>(zqe9 w u).mono (λ e w' q=>⟨q.1,U,q.2.1,q.2.2,λ _ e=>.inl e⟩))
def RdE.st{v:Value}{ps:List En}(h:RdE w v ps)(E:StZ Z w w')(I:∀j,v.ownBlock=some j->Z j):RdE w' v ps:=by obtain⟨R,H,u⟩:=E;exact h.tch H (λ j A=>u j (I j A))
end
def Kp(a:AS)(x:Int)(L:List E2):Prop:=∃lev B,KpB a x L lev B
structure DoS(U0:Nat->Prop)(w0:World)(b t c d M N bx:Nat)(X:Array Value)(a:AS)(root:Int)(lv:Value)(L:List E2)(Z:Nat->Prop)(W:World):Prop where
 lg:LgZ U0 w0 b t c d M N a root lv Z W
 bo:W.heap[bx]?=some (.cells X 28 (0,0))
 rd:RdE W lv L
 zl:∀j,lv.ownBlock=some j->Z j
 zb:Z bx
def DoTo(U:Nat->Prop)(w:World)(b t c d M N:Nat)(lv:Value)(w':World):Prop:=
 ∃U' a' x' lv' L',Lw U' w' b t c d M N a' x' lv'/\Tch (λ k=>U k\/k=b) w w'/\(∀k,U' k->U k\/w.heap.size<=k)/\RdE w' lv' L'/\(∀j,lv'.ownBlock=some j->¬U' j/\j≠b/\j<w'.heap.size)/\(∀j,lv'.ownBlock=some j->lv.ownBlock=some j\/w.heap.size<=j)/\Kp a' x' L'
section
variable {U U0 Z:Nat->Prop} {w0 w W W':World} {b t c d M N bx:Nat} {X:Array Value} {a a':AS} {root:Int} {lv:Value} {L L2:List E2}
def DoS.st(h:DoS U0 w0 b t c d M N bx X a root lv L Z W)(E:LgZ U0 w0 b t c d M N a' root lv Z W')(s:StZ Z W W'):DoS U0 w0 b t c d M N bx X a' root lv L Z W':=by refine⟨E,?_,h.rd.st s h.zl,h.zl,h.zb⟩;obtain⟨R,A,u⟩:=s;rw[A.block bx (zd0.1 h.bo).1 (u bx h.zb)];exact h.bo
def DoS.calls{f:FuncId}{args:Array Value}{P:Ending->Prop}(h:DoS U0 w0 b t c d M N bx X a root lv L Z W)(u:∀U,Tz U W t c d M N a->Calls Tryz.prog f args W λ e w'=>P e/\TzTo U W w' t c d M N a'):
 Calls Tryz.prog f args W λ e w'=>P e/\DoS U0 w0 b t c d M N bx X a' root lv L Z w':=
 (h.lg.calls u).mono (λ e w' q=>⟨q.1,h.st q.2.1 q.2.2⟩)
def DoS.begun(h:DoS U0 w0 b t c d M N bx X a root lv L Z W):
 Calls Tryz.prog 22 #[tp t] W λ e w'=>e=.returned (.tuple #[])/\DoS U0 w0 b t c d M N bx X { a with F:=λ _=>false } root lv L Z w':=
 h.lg.begun.mono (λ e w' q=>⟨q.1,h.st q.2.1 q.2.2⟩)
def DoS.free(h:DoS U0 w0 b t c d M N bx X a root lv L Z W):
 Calls Tryz.prog 21 #[mp M] W λ e w'=>e=.returned (.int .i64 (Ah.fre a.A))/\DoS U0 w0 b t c d M N bx X a root lv L Z w':=by
 obtain⟨U,u,_⟩:=id h.lg;refine(tzFree W u.tz).mono ?_;rintro e w' ⟨rfl,q,rfl⟩;exact⟨rfl,h.st (h.lg.below (belowN (zn6 _) q)) ⟨λ _=>False,Tch.of_below (belowN (zn6 _) q),λ _ _ e=>e⟩⟩
def DoS.drew(h:DoS U0 w0 b t c d M N bx X a root lv L Z W):DoS U0 w0 b t c d M N bx X a root lv L Z W.drew:=h.st h.lg.drew (StZ.drew _ _)
def DoS.cl(h:DoS U0 w0 b t c d M N bx X a root lv L Z W)(i:Nat):W.cell? ⟨b,i,none⟩=#[dp d,cp c,mp M,tp t,.int .i64 root,lv][i]?:=by obtain⟨U,u,_⟩:=h.lg;exact u.cl i
def DoS.fz(h:DoS U0 w0 b t c d M N bx X a root lv L Z W)(i:Nat):W.frozen? ⟨b,i,none⟩=false:=by obtain⟨U,u,_⟩:=h.lg;exact u.fz i
def DoS.ce(h:DoS U0 w0 b t c d M N bx X a root lv L Z W)(i:Nat):W.cell? ⟨bx,i,none⟩=X[i]?:=cell_of_row W bx i _ _ (0,0) h.bo
def DoS.more(h:DoS U0 w0 b t c d M N bx X a root lv L Z W)(u:Below W.heap.size W W'){v:Value}(E:∀j,v.ownBlock=some j->W.heap.size<=j/\j<W'.heap.size):DoS U0 w0 b t c d M N bx X a root lv L (λ k=>Z k\/v.ownBlock=some k) W':=by
 have I:∀k,Z k->k<W.heap.size:=λ k A=>by obtain⟨_,_,_,_,q⟩:=h.lg;exact(q k A).2.2
 have O:LgZ U0 w0 b t c d M N a root lv (λ k=>Z k\/v.ownBlock=some k) W':=h.lg.grow (R:=λ _=>False) (Tch.of_below u) (λ _ e=>e.elim) (λ k A=>by
  rcases A with e|e
  .exact⟨.inl e,zn1 (I k e) u.size⟩
  .exact⟨.inr (E k e).1,(E k e).2⟩)
 have H:=Tch.of_below (S:=λ _=>False) u;refine⟨O,?_,h.rd.tch H (λ _ _ e=>e),λ j K=>.inl (h.zl j K),.inl h.zb⟩;rw[H.block bx (I bx h.zb) (λ e=>e)];exact h.bo
def DoS.sets(h:DoS U0 w0 b t c d M N bx X a root lv L Z W)(K:U0 b)(r:Int)(u:Value)(T:RdE W u L2)(E:∀j,u.ownBlock=some j->Z j):
 ((W.setCell ⟨b,4,none⟩ (.int .i64 r)).frozen? ⟨b,5,none⟩=false/\(W.setCell ⟨b,4,none⟩ (.int .i64 r)).cell? ⟨b,5,none⟩=some lv)/\DoS U0 w0 b t c d M N bx X a r u L2 Z ((W.setCell ⟨b,4,none⟩ (.int .i64 r)).setCell ⟨b,5,none⟩ u):=by
 obtain⟨H,A⟩:=h.lg.sets K r u;refine⟨?_,H,?_,T.st A E,E,h.zb⟩
 .obtain⟨U,O,_⟩:=h.lg;have q:=heap_setCell_same W b 4 _ _ (.int .i64 r) O.bx;exact⟨frozen_of_row _ b 5 _ _ q,by rw[cell_of_row _ b 5 _ _ (0,0) q];rfl⟩
 .obtain⟨R,Q,I⟩:=A;rw[Q.block bx (zd0.1 h.bo).1 (I bx h.zb)];exact h.bo
def DoS.row(h:DoS U0 w0 b t c d M N bx X a root lv L Z W)(E:Below W.heap.size W W'){v:Value}(A:OwE W.heap.size W' v L2):DoS U0 w0 b t c d M N bx X a root lv L (λ k=>Z k\/v.ownBlock=some k) W':=
 h.more E (λ j u=>⟨A.ge j u,(World.ownsRow.lt A j u).2⟩)
def DoS.start{kd:Int}{key val:ByteArray}(h:Lw U w b t c d M N a root lv)(hr:RdE w lv L)(O:∀j,lv.ownBlock=some j->¬U j/\j≠b/\j<w.heap.size){u:World}(I:w.alloc (.cells X 28)=u):
 DoS (λ k=>U k\/k=b) u b t c d M N w.heap.size X a root lv L (λ k=>lv.ownBlock=some k\/k=w.heap.size) u:=by
 subst I;have E:=za9 w (.cells X 28);have hs:(w.alloc (.cells X 28)).heap.size=w.heap.size+1:=by simp
 have H:∀k,U k->k<w.heap.size:=by obtain⟨_,_,_,_,_,_,q⟩:=h.tz;exact q.ul
 have Y:=h.lt;refine⟨⟨U,h.below E,Tch.refl _ _,λ k A=>.inl (.inl A),λ k A=>?_⟩,heap_alloc_new w _,hr.tch (Tch.of_below (S:=λ _=>False) E) (λ _ _ e=>e),λ j K=>.inl K,.inr rfl⟩;rcases A with e|e
 .obtain⟨Q,T,q3⟩:=O k e;exact⟨Q,T,by omega⟩
 .subst e;exact⟨λ q=>by have:=H _ q;omega,by omega,by omega⟩
def LgZ.done{Z:Nat->Prop}{o:Obj}{A:Int}{u:Value}(hn:∀k,U k->k<w.heap.size)(a0:b<w.heap.size)(h:LgZ (λ k=>U k\/k=b) (w.alloc o) b t c d M N a' A u Z W')(hr:RdE W' u L2)(hz:∀j,u.ownBlock=some j->Z j)(T:∀j,u.ownBlock=some j->lv.ownBlock=some j\/w.heap.size<=j)(k:Kp a' A L2):DoTo U w b t c d M N lv W':=by
 obtain⟨I,E,K,O,Q⟩:=h;have hs:(w.alloc o).heap.size=w.heap.size+1:=by simp
 refine⟨I,a',A,u,L2,E,(Tch.of_below (S:=λ k=>U k\/k=b) (za9 w o)).trans K (λ _ _ e=>e),λ k H=>?_,hr,λ j Y=>Q j (hz j Y),T,k⟩;rcases O k H with(e|e)|e
 .exact .inl e
 .exact absurd (e▸H) E.nb
 .exact .inr (by omega)
end
def Lw.ulT{U:Nat->Prop}{w:World}{b t c d M N:Nat}{a:AS}{root:Int}{lv:Value}(h:Lw U w b t c d M N a root lv):∀k,U k->k<w.heap.size:=by obtain⟨_,_,_,_,_,_,q⟩:=h.tz;exact q.ul
def zub9{U:Nat->Prop}{b t cc d M N:Nat}{a:AS}{root:Int}{lv:Value}{L:List E2}(kd:Int)(key val:ByteArray)(w:World)(h:Lw U w b t cc d M N a root lv)(hr:RdE w lv L)(hz:∀j,lv.ownBlock=some j->¬U j/\j≠b/\j<w.heap.size)
 (K:Kp a root L) (hk:(Lit.int .i64 kd).wf=true) (cs:key.size<=4611686018427387904/\val.size<=4611686018427387904):
 Calls Tryz.prog 11 #[.pointer (some ⟨b,0,none⟩),.agg #[.int .i64 kd,.string key,.string val],.slice none 0 0] w λ e w'=>e=.returned (.bool true)/\DoTo U w b t cc d M N lv w':=by
 obtain⟨W0,b7⟩:=exN (w.alloc (.cells #[.int .i64 kd,.string key,.string val] 28));have S0:=DoS.start (kd:=kd) (key:=key) (val:=val) h hr hz b7;have PK:=λ W=>zrl9 kd 3 (by decide) (by decide) hk W;rw[show((3:Nat):Int)=3 from rfl]at PK;obtain⟨I,O,rfl,l1,l2,l3⟩:=hr.len;obtain⟨H,da⟩:=exH L.length;rw[da.o]at S0 l1 |-
 have HU:Hid ((∀k,U k->k<w.heap.size)/\b<w.heap.size):=⟨h.ulT,h.lt⟩
 have HK:=za0 K;have b0:=za0 cs;have HS:=za0 S0;have e0:=S0.ce 0;have ay:Hid (∀(W':World)(a':AS)(x':Int)(aw:Value)(L':List E2)(Z':Nat->Prop),LgZ (λ k=>U k\/k=b) W0 b t cc d M N a' x' aw Z' W'->RdE W' aw L'->(∀j,aw.ownBlock=some j->Z' j)->(∀j,aw.ownBlock=some j->(Value.slice I H O).ownBlock=some j\/w.heap.size<=j)->Kp a' x' L'->DoTo U w b t cc d M N (.slice I H O) W'):=λ W' a' x' aw L' Z' g1 g2 g3 g4 g5=>by rw[<-b7]at g1;exact g1.done HU.o.1 HU.o.2 g2 g3 g4 g5
 clear h hr hz K cs l3 S0 hk;by_cases p2:pkT kd 3=2
 .rw[p2]at PK;have b3:=za0 PK;clear p2 PK;have hS:=HS.o;have c1:=hS.cl 1;obtain⟨U1,hl,ht,hu,av⟩:=id hS.lg;obtain⟨fb,X,S,Y,s,D,z⟩:=hl.tz;have cn:∀k,(X k\/S k)->k≠b:=λ k hk e=>hl.nb (e▸z.ux k (hk.elim .inl (λ e=>.inr (.inl e))));have F1:=zwx9 z.cz z.ok.dz;have cr:=hl.bx;have cq:=hl.lt;have HZ:=za0 z;have HL:=za0 (And.intro hl (And.intro ht (And.intro hu av)));have HX:=za0 cn;have bb:=za0 F1;have HB:=za0 (And.intro cr cq);clear z hl ht hu av cn F1 cr cq hS;unfold cp at c1 bb
  go_enter Tryz.func11,Tryz.ntmps11
  go_wp2_with fail;refine(b3.o W0).mono ?_;rintro e w' ⟨rfl,e9⟩;obtain rfl:W0=w':=e9.symm;go_wp2_with fail;refine bb.o.mono ?_;rintro e W1 ⟨rfl,X1,S1,z1,t1,x1,s1⟩;have cy:Hid (W1.heap[b]?=some (.cells #[dp d,cp cc,mp M,tp t,.int .i64 root,.slice I H O] 37 (0,0))/\b<W1.heap.size):=
   ⟨by rw[t1.block b HB.o.2 (λ e=>HX.o b e rfl)];exact HB.o.1,zn1 HB.o.2 t1.size⟩
  have F2:=zwy9 z1 HZ.o.ok.dz.2;have d4:Hid (CzTo X S W0 W1 cc d N s.flush (s.flushD D)):=⟨X1,S1,z1,t1,x1,s1⟩
  have b5:=za0 (And.intro t1 (And.intro x1 s1));have bc:=za0 F2;have c0:W1.cell? ⟨b,0,none⟩=some (dp d):=by rw[cell_of_row W1 b 0 _ _ (0,0) cy.o.1];rfl
  clear F2 z1 t1 x1 s1 c1 bb e0;unfold dp at c0 bc;go_wp2_with fail;refine bc.o.mono ?_;rintro e W2 ⟨rfl,X2,S2,z2,t2,x2,s2⟩;have br:=za0 (CzTo.after b5.o.1 b5.o.2.1 b5.o.2.2 ⟨X2,S2,z2,t2,x2,s2⟩);obtain⟨X3,S3,z3,t3,x3,s3⟩:=br.o;have d3:Hid (W2.heap[b]?=some (.cells #[dp d,cp cc,mp M,tp t,.int .i64 root,.slice I H O] 37 (0,0))):=by (have e:W2.heap[b]?=some (.cells #[dp d,cp cc,mp M,tp t,.int .i64 root,.slice I H O] 37 (0,0)):=by rw[t3.block b HB.o.2 (λ e=>HX.o b e rfl)];exact HB.o.1);exact e
  have F3:=zyl9 z3 HZ.o.ok.dz.2;have bg:=za0 (And.intro t3 (And.intro x3 s3));have bd:=za0 F3;have cg:W2.cell? ⟨b,0,none⟩=some (dp d):=by rw[cell_of_row W2 b 0 _ _ (0,0) d3.o];rfl
  clear F3 z2 t2 x2 s2 z3 t3 x3 s3 c0 bc br d4 b5;unfold dp at cg bd;go_wp2_with fail;refine bd.o.mono ?_;rintro e W3 ⟨rfl,hc⟩;have d5:=za0 (CzTo.after bg.o.1 bg.o.2.1 bg.o.2.2 hc);clear hc cg bd;go_wp2_with fail;go_ret;refine⟨by first|rfl|simp,?_⟩;have df:=HZ.o.flushed d5.o;obtain⟨hl,ht,hu,av⟩:=HL.o;have hS:=HS.o;obtain⟨U2,z2,t2,u2⟩:=df;have lg:LgZ (λ k=>U k\/k=b) W0 b t cc d M N { a with Q:=a.V } root (.slice I H O) (λ k=>(Value.slice I H O).ownBlock=some k\/k=w.heap.size) W3:=by
   obtain⟨U',l',t',u'⟩:LwTo U1 W0 W3 b t cc d M N { a with Q:=a.V } root (.slice I H O):=hl.to ⟨U2,z2,t2,u2⟩;refine⟨U',l',ht.trans t' (λ i hi q=>(hu i q).elim id (λ e=>by omega)),λ k hk=>(u' k hk).elim (hu k) (λ e=>.inr (zn2 ht.size e)),λ k hk=>?_⟩;obtain⟨q1,q2,q3⟩:=av k hk;exact⟨λ e=>(u' k e).elim q1 (λ e=>by omega),q2,zn1 q3 t'.size⟩
  have rd:=hS.rd.tch t2 (λ j u=>(av j (.inl u)).1);obtain⟨a5,B,kk⟩:=HK.o;exact ay.o W3 _ _ _ _ _ lg rd (λ j u=>.inl u) (λ j u=>.inl u) ⟨a5,B,kk.mv (λ _ _=>rfl) (λ _ _=>rfl) rfl rfl id⟩
 .obtain⟨p,hp⟩:=exN (pkT kd 3);rw[hp]at PK p2;have dr:p<3:=by rw[<-hp];exact pkT_lt _ (by decide)
  have d2:((p:Int)==2)=false:=by rw[zl0];omega
  have b3:=za0 PK;obtain⟨a5,B,kk⟩:=HK.o;have bo:=kk.levs;have hx:=kk.xr;have cu:=kk.len;have ab:Ah.fre a.A=(a.A.L.count 0:Nat):=by unfold Ah.fre;rw[kk.am.sa];simp
  have cv:=kk.tr.up;obtain⟨fr,bm⟩:∃n:Nat,a.A.L.count 0=n:=⟨_,rfl⟩
  rw[bm]at ab;have dn:fr<=300:=by rw[<-bm];exact zn2 List.count_le_length kk.ln
  have bu:=za0 kk;have d7:=za0 cv;have bz:=za0 cu;have HX:=za0 hx;have LV:=HS.o.drew.calls (λ U z=>zob9 root hx _ z);rw[bo.1]at LV;have dq:=bo.2;have be:=za0 LV;have az:=za0 ab;have hS:W0.drew.cell? ⟨b,3,none⟩=some (tp t)/\W0.drew.cell? ⟨b,4,none⟩=some (.int .i64 root):=⟨HS.o.drew.cl 3,HS.o.drew.cl 4⟩
  clear PK p2 kk bo hx cu ab cv LV HK;unfold tp at hS be
  go_enter Tryz.func11,Tryz.ntmps11
  go_wp2_with fail;refine(b3.o W0).mono ?_;rintro e w' ⟨rfl,e9⟩;obtain rfl:W0=w':=e9.symm;go_wp2_with fail;have a4:Hid (∀W6,DoS (λ k=>U k\/k=b) W0 b t cc d M N w.heap.size #[.int .i64 kd,.string key,.string val] a root (.slice I H O) L (λ k=>(Value.slice I H O).ownBlock=some k\/k=w.heap.size) W6->W6.cell? ⟨b,3,none⟩=some (.pointer (some ⟨t,0,none⟩))/\W6.cell? ⟨b,4,none⟩=some (.int .i64 root)):=λ W6 h6=>⟨h6.cl 3,h6.cl 4⟩
  go_region_held3 (λ w'=>w'.cell? ⟨b,3,none⟩=some (.pointer (some ⟨t,0,none⟩))/\w'.cell? ⟨b,4,none⟩=some (.int .i64 root)) (first|go_keep|exact cm)
   (first
    | (go_at_call 20;refine be.o.mono ?_;rintro e W6 ⟨rfl,h6⟩;have cm:=a4.o W6 h6;have H6:=za0 h6;clear h6))
  have FC:=H6.o.free;rw[az.o]at FC;have a8:=za0 FC;have c2:=H6.o.cl 2;clear hS cm a4 be FC az e0;unfold mp at c2 a8;go_wp2_with fail;refine a8.o.mono ?_;rintro e W7 ⟨rfl,h7⟩;have BC:=h7.begun;have c3:=h7.cl 3;obtain⟨a1,bj⟩:∃q:AS,({ a with F:=λ _=>false }:AS)=q:=⟨_,rfl⟩
  rw[bj]at BC;have a7:Hid (KpB a1 root L a5 B/\(∀y,a1.F y=false)/\a1.A.L.count 0=fr):=by subst bj;exact⟨bu.o.mv (λ _ _=>rfl) (λ _ _=>rfl) rfl rfl id,λ _=>rfl,bm⟩
  have ad:=za0 BC;clear BC h7 c2 a8 H6 bj;unfold tp at c3 ad;go_wp2_with fail;refine ad.o.mono ?_;rintro e W8 ⟨rfl,h8⟩;have c5:=h8.cl 5;have x0:=h8.ce 0;have H8:=za0 h8;clear h8 c3 ad bu HS;go_wp2_with fail;refine(b3.o W8).mono ?_;rintro e w' ⟨rfl,e9⟩;obtain rfl:W8=w':=e9.symm;clear c5 x0
  go_upto_if 72 with fail
  go_cut [11,12,13] (λ nv ev wv wx=>∃(nx f:Int)(va:Option Addr)(vn vc:Nat)(a2:AS)(L2:List E2)(Z2:Nat->Prop),nv=.int .i64 nx/\ev=.int .i64 f/\wv=.slice va vn vc/\Hid (DoS (λ k=>U k\/k=b) W0 b t cc d M N w.heap.size #[.int .i64 kd,.string key,.string val] a2 root (.slice I H O) L Z2 wx/\RdE wx (.slice va vn vc) L2/\(∀j,(Value.slice va vn vc).ownBlock=some j->Z2 j/\((Value.slice I H O).ownBlock=some j\/w.heap.size<=j))/\
   (f=10/\fr<2*a5+1/\KpB a2 root L a5 B/\a2.A.L.count 0=fr/\(∀y,a2.F y=false)\/f=0/\KpB a2 root L a5 B/\∃ac B',KpB a2 nx L2 ac B')))
  case first=>
   by_cases p0:p=0
   .have d0:((p:Int)==0)=true:=by rw[p0];rfl
    have x1:=H8.o.ce 1;have x2:=H8.o.ce 2;obtain⟨m,hm⟩:=exH (mayE key val);have MY:=zve9 key val b0.o.1 b0.o.2 W8;rw[hm.o]at MY;have c6:=za0 MY;clear MY p0;go_wp2_with fail;refine c6.o.mono ?_;rintro e w' ⟨rfl,e9⟩;obtain rfl:W8=w':=e9.symm;obtain⟨pr,ag⟩:=exN (putF a1 root key val);have PT:=H8.o.drew.calls (λ U z=>zop9 root (zay9 HX.o.1 HX.o.2) key val b0.o.1 b0.o.2 _ z);simp only[ag]at PT;obtain⟨px,pe,pa⟩:=pr;have ae:=za0 PT;have b4:=za0 ag
    have hS:W8.drew.cell? ⟨b,3,none⟩=some (.pointer (some ⟨t,0,none⟩))/\W8.drew.cell? ⟨b,4,none⟩=some (.int .i64 root)/\W8.drew.cell? ⟨w.heap.size,1,none⟩=some (.string key)/\W8.drew.cell? ⟨w.heap.size,2,none⟩=some (.string val):=⟨H8.o.drew.cl 3,H8.o.drew.cl 4,H8.o.drew.ce 1,H8.o.drew.ce 2⟩
    have a4:Hid (∀E,DoS (λ k=>U k\/k=b) W0 b t cc d M N w.heap.size #[.int .i64 kd,.string key,.string val] pa root (.slice I H O) L (λ k=>(Value.slice I H O).ownBlock=some k\/k=w.heap.size) E->E.cell? ⟨b,3,none⟩=some (.pointer (some ⟨t,0,none⟩))/\E.cell? ⟨b,4,none⟩=some (.int .i64 root)/\E.cell? ⟨w.heap.size,1,none⟩=some (.string key)/\E.cell? ⟨w.heap.size,2,none⟩=some (.string val)):=λ E h9=>⟨h9.cl 3,h9.cl 4,h9.ce 1,h9.ce 2⟩
    clear PT ag x1 x2 c6;unfold tp at hS ae;go_wp2_with fail
    go_region_held3 (λ w'=>w'.cell? ⟨b,3,none⟩=some (.pointer (some ⟨t,0,none⟩))/\w'.cell? ⟨b,4,none⟩=some (.int .i64 root)/\w'.cell? ⟨w.heap.size,1,none⟩=some (.string key)/\w'.cell? ⟨w.heap.size,2,none⟩=some (.string val)) (first|go_keep|exact au)
     (first
      | (go_at_call 23;refine ae.o.mono ?_;rintro e E ⟨rfl,h9⟩;have au:=a4.o E h9;have H9:=za0 h9;clear h9))
    clear hS au a4 ae;cases m with
    | false=>have e1:=zuw9 (a:=a1) (x:=root) hm.o;rw[b4.o]at e1;simp only[MR.mk.injEq]at e1;obtain⟨rfl,rfl,rfl⟩:=e1;have FC:=H9.o.free;(have ab:Ah.fre pa.A=(fr:Int):=by unfold Ah.fre;rw[a7.o.1.am.sa,a7.o.2.2];simp);rw[ab]at FC;have a8:=za0 FC;have c2:=H9.o.cl 2;clear FC ab b4;unfold mp at c2 a8;go_wp2_with fail;refine a8.o.mono ?_;rintro e a0 ⟨rfl,ai⟩;have a6:=za0 ai;clear ai c2 a8;go_wp2_with fail;go_ret;exact⟨by first|rfl|simp,ay.o _ _ _ _ _ _ a6.o.lg a6.o.rd a6.o.zl (λ j u=>.inl u) ⟨_,_,a7.o.1⟩⟩
    | true=>
     have KP:=kp_put a7.o.1 a7.o.2.1 hm.o;rw[b4.o,a7.o.2.2]at KP;have ah:=za0 KP;have RP:=zlm9 (.slice I H O) L key val E.drew H9.o.drew.rd d7.o (by have:=bz.o.2;omega);have ap:=za0 RP;have hS:E.drew.cell? ⟨b,5,none⟩=some (.slice I H O)/\E.drew.cell? ⟨w.heap.size,1,none⟩=some (.string key)/\E.drew.cell? ⟨w.heap.size,2,none⟩=some (.string val):=⟨H9.o.drew.cl 5,H9.o.drew.ce 1,H9.o.drew.ce 2⟩
     (have a4:Hid (∀a0,Below E.drew.heap.size E.drew a0->a0.cell? ⟨b,5,none⟩=some (.slice I H O)/\a0.cell? ⟨w.heap.size,1,none⟩=some (.string key)/\a0.cell? ⟨w.heap.size,2,none⟩=some (.string val)):=λ a0 ai=>by have q:=H9.o.drew.row ai (owE_nil E.drew.heap.size a0);exact⟨q.cl 5,q.ce 1,q.ce 2⟩);clear KP RP b4;go_wp2_with fail
     go_region_held3 (λ w'=>w'.cell? ⟨b,5,none⟩=some (.slice I H O)/\w'.cell? ⟨w.heap.size,1,none⟩=some (.string key)/\w'.cell? ⟨w.heap.size,2,none⟩=some (.string val)) (first|go_keep|exact ar)
      (first
       | (go_at_call 32;refine ap.o.mono ?_;rintro e a0 ⟨dg,rfl,a9,af⟩;have ar:=a4.o a0 af;have a6:=za0 (H9.o.drew.row af a9);have aa:=za0 (And.intro a9.rd (λ j u=>a9.ge j u));have an:=za0 a9.long;obtain⟨aj,ak,rfl⟩:=an.o;clear a9 af an))
     obtain⟨al,bp⟩:=exN ((insE key val L).length);rw[bp]at a6 aa |-
     clear hS ar a4 ap;go_wp2_with fail
     go_meet
     refine⟨px,pe,aj,al,ak,pa,insE key val L,_,rfl,rfl,rfl,a6.o,aa.o.1,λ j u=>⟨.inr u,.inr ?_⟩,ah.o⟩;have:=aa.o.2 j u;have q:=H9.o.lg.size;(have q2:W0.heap.size=w.heap.size+1:=by rw[<-b7];simp);have q3:E.drew.heap.size=E.heap.size:=rfl;omega
   .have d0:((p:Int)==0)=false:=by rw[zl0];omega
    obtain⟨pr,ag⟩:=exN (delF a1 root key);have PT:=H8.o.drew.calls (λ U z=>ztz9 root HX.o key _ z);simp only[ag]at PT;obtain⟨px,pk,pe,pa⟩:=pr;obtain⟨is,bn⟩:=exN ((fndE key L).2);have ae:=za0 PT;have KP:=kp_del (key:=key) a7.o.1 a7.o.2.1;rw[ag,bn,a7.o.2.2]at KP;have ah:Hid ((is=false/\px=root/\pk=false/\pe=0/\KpB pa root L a5 B/\∃ac B',KpB pa px (delE key L) ac B')\/(is=true/\pe=10/\fr<2*a5+1/\KpB pa root L a5 B/\pa.A.L.count 0=fr/\(∀y,pa.F y=false))\/(is=true/\pk=true/\pe=0/\KpB pa root L a5 B/\∃ac B',KpB pa px (delE key L) ac B')):=by
     rcases KP with⟨T,k2,k3⟩|⟨T,k2,k3⟩|⟨T,k2,k3,k4,k5⟩
     .simp only[ER.mk.injEq]at k2;obtain⟨rfl,rfl,rfl,rfl⟩:=k2;exact .inl ⟨T,rfl,rfl,rfl,a7.o.1,a5,B,by rw[k3];exact a7.o.1⟩
     .exact .inr (.inl ⟨T,k2,k3⟩)
     .exact .inr (.inr ⟨T,k3,k2,k4,k5⟩)
    have hS:W8.drew.cell? ⟨b,3,none⟩=some (.pointer (some ⟨t,0,none⟩))/\W8.drew.cell? ⟨b,4,none⟩=some (.int .i64 root)/\W8.drew.cell? ⟨w.heap.size,1,none⟩=some (.string key):=⟨H8.o.drew.cl 3,H8.o.drew.cl 4,H8.o.drew.ce 1⟩
    have a4:Hid (∀E,DoS (λ k=>U k\/k=b) W0 b t cc d M N w.heap.size #[.int .i64 kd,.string key,.string val] pa root (.slice I H O) L (λ k=>(Value.slice I H O).ownBlock=some k\/k=w.heap.size) E->E.cell? ⟨b,3,none⟩=some (.pointer (some ⟨t,0,none⟩))/\E.cell? ⟨b,4,none⟩=some (.int .i64 root)/\E.cell? ⟨w.heap.size,1,none⟩=some (.string key)):=λ E h9=>⟨h9.cl 3,h9.cl 4,h9.ce 1⟩
    have bt:=za0 bn;clear PT ag bn KP p0;unfold tp at hS ae;go_wp2_with fail
    go_region_held3 (λ w'=>w'.cell? ⟨b,3,none⟩=some (.pointer (some ⟨t,0,none⟩))/\w'.cell? ⟨b,4,none⟩=some (.int .i64 root)/\w'.cell? ⟨w.heap.size,1,none⟩=some (.string key)) (first|go_keep|exact au)
     (first
      | (go_at_call 24;refine ae.o.mono ?_;rintro e E ⟨rfl,h9⟩;have au:=a4.o E h9;have H9:=za0 h9;clear h9))
    have RP:=zlk9 (.slice I H O) L key E.drew H9.o.drew.rd (by have:=bz.o.2;omega);rw[bt.o]at RP;have ap:=za0 RP;clear hS au a4 ae RP;have hS:E.drew.cell? ⟨b,5,none⟩=some (.slice I H O)/\E.drew.cell? ⟨w.heap.size,1,none⟩=some (.string key):=⟨H9.o.drew.cl 5,H9.o.drew.ce 1⟩
    (have a4:Hid (∀a0,Below E.drew.heap.size E.drew a0->a0.cell? ⟨b,5,none⟩=some (.slice I H O)/\a0.cell? ⟨w.heap.size,1,none⟩=some (.string key)):=λ a0 ai=>by have q:=H9.o.drew.row ai (owE_nil E.drew.heap.size a0);exact⟨q.cl 5,q.ce 1⟩);go_wp2_with fail
    go_region_held3 (λ w'=>w'.cell? ⟨b,5,none⟩=some (.slice I H O)/\w'.cell? ⟨w.heap.size,1,none⟩=some (.string key)) (first|go_keep|exact ar)
     (first
      | (go_at_call 39;refine ap.o.mono ?_;rintro e a0 ⟨dg,rfl,a9,af⟩;have ar:=a4.o a0 af;have a6:=za0 (H9.o.drew.row af a9);have aa:=za0 (And.intro a9.rd (λ j u=>a9.ge j u));have an:=za0 a9.long;obtain⟨aj,ak,rfl⟩:=an.o;clear a9 af an))
    obtain⟨al,bp⟩:=exN ((delE key L).length);rw[bp]at a6 aa |-
    (have c4:=a6.o.cl 4;have bf:Hid (∀j,(Value.slice aj al ak).ownBlock=some j->w.heap.size<=j):=λ j u=>by have:=aa.o.2 j u;have q:=H9.o.lg.size;(have q2:W0.heap.size=w.heap.size+1:=by rw[<-b7];simp);have q3:E.drew.heap.size=E.heap.size:=rfl;omega);clear hS ar a4 ap bt;rcases ah.o with⟨rfl,rfl,rfl,rfl,T,k2⟩|⟨rfl,rfl,T⟩|⟨rfl,rfl,rfl,T,k2⟩
    .have HG:=za0 (And.intro T k2);clear T k2 ah;go_wp2_with fail
     go_meet
     exact⟨px,0,aj,al,ak,pa,delE key L,_,rfl,rfl,rfl,a6.o,aa.o.1,λ j u=>⟨.inr u,.inr (bf.o j u)⟩,.inr ⟨rfl,HG.o.1,HG.o.2⟩⟩
    .have HG:=za0 T;clear T ah;go_wp2_with fail
     go_meet
     exact⟨px,10,aj,al,ak,pa,delE key L,_,rfl,rfl,rfl,a6.o,aa.o.1,λ j u=>⟨.inr u,.inr (bf.o j u)⟩,.inl ⟨rfl,HG.o⟩⟩
    .have HG:=za0 (And.intro T k2);clear T k2 ah;go_wp2_with fail
     go_meet
     exact⟨px,0,aj,al,ak,pa,delE key L,_,rfl,rfl,rfl,a6.o,aa.o.1,λ j u=>⟨.inr u,.inr (bf.o j u)⟩,.inr ⟨rfl,HG.o.1,HG.o.2⟩⟩
  case rest=>
   obtain⟨nx,f,va,vn,vc,a2,L2,Z2,rfl,rfl,rfl,HC⟩:=hcut;obtain⟨h2,r2,z2,de⟩:=HC.o;have H2:=za0 h2;have ca:=za0 r2;have cf:=za0 z2;have c3:=h2.cl 3;clear HC h2 r2 z2 H8 a7;rcases de with⟨rfl,g1,g2,g3,g4⟩|⟨rfl,g1,ac,B',g2⟩
   .have d1:decide ((fr:Int)<2*(a5:Int)+1)=true:=by rw[zm0];omega
    have ct:freshL N a2.F=[]:=by refine List.eq_nil_iff_forall_not_mem.2 (λ y hy=>?_);have:=(zgy9.1 hy).2.2;rw[g4 y]at this;cases this
    have UC:=H2.o.calls (a':=a2) (λ U z=>by have:=zwf9 _ z;rw[ct,zhb9]at this;exact this);(have ab:Ah.fre a2.A=(fr:Int):=by unfold Ah.fre;rw[g2.am.sa,g3];simp);have bh:=za0 UC;have HG:=za0 g2;have az:=za0 ab;clear UC ct ab g1 g2 g3 g4;unfold tp at c3 bh;go_wp2_with fail;refine bh.o.mono ?_;rintro e dj ⟨rfl,bi⟩;have FC:=bi.free;rw[az.o]at FC;have a8:=za0 FC;have c2:=bi.cl 2;clear FC bh c3 bi;unfold mp at c2 a8;go_wp2_with fail;refine a8.o.mono ?_;rintro e dk ⟨rfl,ck⟩;have b9:=za0 ck;clear ck c2 a8;go_wp2_with fail;go_ret;exact⟨by first|rfl|simp,ay.o _ _ _ _ _ _ b9.o.lg b9.o.rd b9.o.zl (λ j u=>.inl u) ⟨_,_,HG.o⟩⟩
   .have HG:=za0 (And.intro g1 g2);have c4:=H2.o.cl 4;have f4:=H2.o.fz 4;have st:=H2.o.sets (.inr rfl) nx (.slice va vn vc) ca.o (λ j u=>(cf.o j u).1);obtain⟨WA,db⟩:=exN (wc.setCell ⟨b,4,none⟩ (.int .i64 nx));rw[db]at st;obtain⟨WB,dc⟩:=exN (WA.setCell ⟨b,5,none⟩ (.slice va vn vc));rw[dc]at st;have f5:=st.1.1;have c5:=st.1.2;have HB:=za0 st.2;clear st g1 g2 H2 ca c3;go_wp2_with(at_builtin;refine zs9 WB rfl (.tmp 200) (.tmp 201) 56 rfl 3 _ 8 elemIN (.slice none 0 0) [] rfl (zge9 _ _) (.slice none 0 0) [] rfl (zaq9 _) (λ _ q=>by cases q) (by simp) (by simp) ?_;intro dh d8 cw ch;refine Hid.o ?_)
    have co:=ch.below;have c7:=za0 cw;have ba:=za0 co;clear cw ch co c4 f4 f5 c5;refine za0 ?_;go_wp2_with(at_builtin;refine zcv9 d8 rfl (.tmp 203) (.tmp 205) 56 rfl 3 .i64 8 elemI dh [] rfl c7.o nx rfl (by simp) (by simp) ?_;intro di dl bq ci;refine Hid.o ?_)
    have bl:=ci.onto ba.o.1 ba.o.2;have aq:=HB.o.more bl.1 (λ j u=>⟨bl.2 j u,bq.lt j u⟩);have cx:=zjz9 bq.rd;have BC:=aq.lg.begun;have c3:=aq.cl 3;obtain⟨a3,bk⟩:∃q:AS,({ a2 with F:=λ _=>false }:AS)=q:=⟨_,rfl⟩
    (rw[bk]at BC;have bs:Hid (KpB a3 root L a5 B/\∃ac B',KpB a3 nx L2 ac B'):=by subst bk;exact⟨HG.o.1.mv (λ _ _=>rfl) (λ _ _=>rfl) rfl rfl id,ac,B',HG.o.2.mv (λ _ _=>rfl) (λ _ _=>rfl) rfl rfl id⟩);have ad:=za0 BC;have c9:=za0 cx;have cd:=za0 (And.intro aq.rd aq.zl);clear BC aq cx bq ci bl c7 ba HB bk HG;refine za0 ?_;unfold tp at c3 ad;go_wp2_with fail;refine ad.o.mono ?_;rintro e d9 ⟨rfl,cj,ax⟩;obtain⟨T,ds,B1,k2⟩:=bs.o;have hl:=kp_let T k2;have b1:=T.blk;have b2:=k2.blk;have LC:=cj.lwCalls (λ U2 hw hz=>zoa9 root HX.o di [nx] d9 hw (c9.o.st ax (λ j u=>.inr u)) (λ j u=>hz j (.inr u)) (by simp) (λ k hk=>by rw[List.mem_singleton.1 hk];exact⟨k2.xr,b2.1,zn2 b2.2.2.1 (by decide)⟩) b1.1
     ⟨zn2 b1.2.2.1 (by decide),λ y hy=>by
      have:=zby9 (s:=a3.A) (x:=y) (by rw[T.tk y ((b1.2.1 y).1 hy)];decide);have q:=T.am.ao;unfold Ao at q;omega⟩ hl.1)
    have bw:=za0 LC;have d6:=za0 (And.intro (hl.2) (And.intro ax cd.o));clear LC hl b1 b2 T k2 cj ax c3 ad c9 cd bs;go_wp2_with fail;refine bw.o.mono ?_;rintro e dm ⟨rfl,b6,b8⟩;have HF:=za0 (And.intro b6 b8);clear b6 b8 bw;go_wp2_with fail;go_ret;obtain⟨b6,b8⟩:=HF.o;obtain⟨kf,ax,rd,zl⟩:=d6.o;exact⟨by first|rfl|simp,ay.o _ _ _ _ _ _ b6 ((rd.st ax zl).st b8 zl) zl (λ j u=>(cf.o j u).2) ⟨_,_,kf⟩⟩
def TmS(w:World)(b t c d M N:Nat)(a:AS)(root:Int)(lv:Value)(L:List E2)(W:World):Prop:=
 ∃U,Lw U W b t c d M N a root lv/\Below w.heap.size w W/\(∀k,U k->w.heap.size<=k)/\w.heap.size<=b/\RdE W lv L/\(∀j,lv.ownBlock=some j->¬U j/\j≠b/\j<W.heap.size/\w.heap.size<=j)/\Kp a root L
section
variable {w W W':World} {b t c d M N:Nat} {a:AS} {root:Int} {lv:Value} {L:List E2}
def TmS.bl(h:TmS w b t c d M N a root lv L W):Below w.heap.size w W:=by obtain⟨_,_,q,_⟩:=h;exact q
def TmS.kp(h:TmS w b t c d M N a root lv L W):Kp a root L:=by obtain⟨_,_,_,_,_,_,_,q⟩:=h;exact q
def TmS.cl(h:TmS w b t c d M N a root lv L W)(i:Nat):W.cell? ⟨b,i,none⟩=#[dp d,cp c,mp M,tp t,.int .i64 root,lv][i]?:=by obtain⟨_,q,_⟩:=h;exact q.cl i
def TmS.below(h:TmS w b t c d M N a root lv L W)(A:Below W.heap.size W W'):TmS w b t c d M N a root lv L W':=by obtain⟨U,I,H,K,O,Q,u,T⟩:=h;have Y:=Tch.of_below (S:=λ _=>False) A;exact⟨U,I.below A,H.trans (A.mono H.size),K,O,Q.tch Y (λ _ _ e=>e),λ j E=>⟨(u j E).1,(u j E).2.1,zn1 (u j E).2.2.1 A.size,(u j E).2.2.2⟩,T⟩
def TmS.drew(h:TmS w b t c d M N a root lv L W):TmS w b t c d M N a root lv L W.drew:=h.below (Below.refl _ _).drew
def TmS.lw{f:FuncId}{args:Array Value}{P:Ending->World->Prop}(h:TmS w b t c d M N a root lv L W)(hc:∀U,Lw U W b t c d M N a root lv->(∀j,lv.ownBlock=some j->¬U j/\j≠b/\j<W.heap.size)->Calls Tryz.prog f args W λ e w'=>P e w'/\LwTo U W w' b t c d M N a root lv):
 Calls Tryz.prog f args W λ e w'=>P e w'/\TmS w b t c d M N a root lv L w':=by
 obtain⟨U,Y,K,O,h4,h5,A,h7⟩:=h;refine(hc U Y (λ j u=>⟨(A j u).1,(A j u).2.1,(A j u).2.2.1⟩)).mono ?_;rintro e w' ⟨hp,Q,T,E,I⟩;have a0:=K.size;refine⟨hp,Q,T,K.trans (E.below a0 (λ k H=>O k H)),λ k H=>(I k H).elim (O k) (λ e=>by omega),h4,h5.tch E (λ j u=>(A j u).1),λ j u=>?_,h7⟩;obtain⟨q1,q2,q3,q4⟩:=A j u;exact⟨λ e=>(I j e).elim q1 (λ e=>by omega),q2,zn1 q3 E.size,q4⟩
def TmS.calls{f:FuncId}{args:Array Value}{P:Ending->Prop}(h:TmS w b t c d M N a root lv L W)(A:∀U,Tz U W t c d M N a->Calls Tryz.prog f args W λ e w'=>P e/\TzTo U W w' t c d M N a):
 Calls Tryz.prog f args W λ e w'=>P e/\TmS w b t c d M N a root lv L w':=
 h.lw (P:=λ e _=>P e) (λ U u _=>(A U u.tz).mono (λ e w' q=>⟨q.1,u.to q.2⟩))
def TmS.does(h:TmS w b t c d M N a root lv L W)(kd:Int)(key val:ByteArray)(A:(Lit.int .i64 kd).wf=true)(a0:key.size<=4611686018427387904/\val.size<=4611686018427387904):
 Calls Tryz.prog 11 #[.pointer (some ⟨b,0,none⟩),.agg #[.int .i64 kd,.string key,.string val],.slice none 0 0] W λ e w'=>e=.returned (.bool true)/\∃a' K I H,TmS w b t c d M N a' K I H w':=by
 obtain⟨U,h1,O,Q,T,h5,E,h7⟩:=h;refine(zub9 kd key val W h1 h5 (λ j u=>⟨(E j u).1,(E j u).2.1,(E j u).2.2.1⟩) h7 A a0).mono ?_;rintro e w' ⟨rfl,Y,a',K,I,H,g1,g2,g3,g4,g5,g6,g7⟩;have a1:=O.size;refine⟨rfl,a',K,I,H,Y,g1,O.trans (g2.below a1 (λ k A=>A.elim (Q k) (λ e=>by rw[e];exact T))),λ k A=>(g3 k A).elim (Q k) (λ e=>by omega),T,g4,λ j u=>?_,g7⟩;obtain⟨q1,q2,q3⟩:=g5 j u;exact⟨q1,q2,q3,(g6 j u).elim (λ e=>(E j e).2.2.2) (λ e=>by omega)⟩
end
def kpB0(n:Nat)(A:1<=n)(E:n<=300):Kp (as0 n) 0 []:=
 ⟨0,[],⟨rfl,rfl,rfl⟩,λ y=>by simp,λ y u=>(by cases u),⟨by simp[lvw],by simp[lvw]⟩,⟨by unfold Ao as0 Ah.new;simp;omega,by unfold as0 Ah.new;simp,rfl⟩,by unfold as0 Ah.new;simp;omega⟩
end Go.Proofs.YtcmjlibndmneiaaGreat
namespace Go.Proofs.YtcmjlibndmneiaaGreat
open Go.RowKit Go.Maps Pl
def zum9{kd:Int}{xs:List Int}{n:Nd}(h:getN kd xs=some n)(u:By xs):xs.length<=240:=by
 cases xs with
 | nil=>rw[zsr9]at h;cases h
 | cons c r=>
  have E:(pzN (decide (kd=1)) (r,false) c.toNat).t.2=false:=by
   cases e:(pzN (decide (kd=1)) (r,false) c.toNat).t.2 with
   | false=>rfl
   | true=>rw[zfs9 (k:=c.toNat) (zn6 _) e]at h;cases h
  have H:=zng9 (c:=c) (r:=r) rfl u E;have I:=zcz9 (decide (kd=1)) (r,false) c.toNat;have A:=u 0;simp only[List.getD_cons_zero]at A;unfold getN at h;split at h
  .rw[H]at h;split at h
   .rename_i hc;rw[Bool.and_eq_true,zo1]at hc;rw[<-hc.2];exact enc_le (zco9 (zq9.1 hc.1) (by omega)) (zn6 _)
   .cases h
  .cases h
def zzf9{e:Int}{b:Int×List Int}{m:Nd}(h:((0:Int),m)=vwB e b):e=0/\getN b.1 b.2=some m:=by
 by_cases u:e=0
 .subst u;cases hg:getN b.1 b.2 with
  | none=>rw[vwB_no hg]at h;cases h
  | some n=>rw[vwB_ok hg]at h;cases h;exact⟨rfl,rfl⟩
 .rw[zko9 u]at h;cases h;exact absurd rfl u
def Fo.at{P:Int->ByteArray->Option ByteArray->List E2->List Int->Prop}:∀{u xs hi L B} (i:Nat),Fo P u xs hi L B->i<xs.length->∃E A,P (xs.getD i 0) (u.getD i eS) (if i+1<u.length then some (u.getD (i+1) eS)else hi) E A
 | [],[],_,_,_,_,_,h=>by simp at h
 | k::u,x::xs,hi,_,_,0,⟨E,L2,A,B2,p,q,_,_⟩,_=>by
  refine⟨E,A,?_⟩;cases u with
  | nil=>exact p
  | cons K u=>exact p
 | k::u,x::xs,hi,_,_,i+1,⟨E,L2,A,B2,p,q,_,_⟩,h=>by obtain⟨I,H,r⟩:=Fo.at i q (by simpa using h);refine⟨I,H,?_⟩;simpa using r
 | [],_::_,_,_,_,_,h,_=>h.elim
 | _::_,[],_,_,_,_,h,_=>h.elim
section
variable {U0 Z:Nat->Prop} {w0 w w':World} {b t c d M N:Nat} {a:AS} {root:Int} {lv:Value}
def LgZ.lw{f:FuncId}{args:Array Value}{P:Ending->Prop}(h:LgZ U0 w0 b t c d M N a root lv Z w)(Q:∀U,Lw U w b t c d M N a root lv->Calls Tryz.prog f args w λ e w'=>P e/\LwTo U w w' b t c d M N a root lv):
 Calls Tryz.prog f args w λ e w'=>P e/\LgZ U0 w0 b t c d M N a root lv Z w'/\StZ Z w w':=by
 obtain⟨U,T,E,H,I⟩:=h;refine(Q U T).mono ?_;rintro e w' ⟨Y,O,l',A,K⟩;refine⟨Y,⟨O,l',E.trans A (λ i hi q=>(H i q).elim id (λ e=>by omega)),λ k u=>(K k u).elim (H k) (λ e=>.inr (zn2 E.size e)),λ k u=>?_⟩,U,A,λ k u=>(I k u).1⟩;obtain⟨z1,z2,z3⟩:=I k u;exact⟨λ e=>(K k e).elim z1 (λ e=>by omega),z2,zn1 z3 A.size⟩
structure SnS(U0:Nat->Prop)(w0:World)(b t c d M N:Nat)(a:AS)(root:Int)(lv:Value)(nb:Nat)(m:Nd)(v1 v2 v3:Value)(W:World):Prop where
 lg:LgZ U0 w0 b t c d M N a root lv (λ k=>k=nb\/v1.ownBlock=some k\/v2.ownBlock=some k\/v3.ownBlock=some k) W
 nv:Nb W 102 nb m.lf v1 v2 v3
 nn:Nn W m v1 v2 v3
variable {nb:Nat} {m:Nd} {v1 v2 v3:Value}
def SnS.st(h:SnS U0 w0 b t c d M N a root lv nb m v1 v2 v3 w)(H:LgZ U0 w0 b t c d M N a root lv (λ k=>k=nb\/v1.ownBlock=some k\/v2.ownBlock=some k\/v3.ownBlock=some k) w')(I:StZ (λ k=>k=nb\/v1.ownBlock=some k\/v2.ownBlock=some k\/v3.ownBlock=some k) w w'):SnS U0 w0 b t c d M N a root lv nb m v1 v2 v3 w':=by obtain⟨R,E,A⟩:=I;exact⟨H,h.nv.tch E (A nb (.inl rfl)),h.nn.tch E (λ j u=>A j (.inr (.inl u))) (λ j u=>A j (.inr (.inr (.inl u)))) (λ j u=>A j (.inr (.inr (.inr u))))⟩
def SnS.drew(h:SnS U0 w0 b t c d M N a root lv nb m v1 v2 v3 w):SnS U0 w0 b t c d M N a root lv nb m v1 v2 v3 w.drew:=h.st h.lg.drew (StZ.drew _ _)
end
def EndOk(endk:ByteArray)(hi:Option ByteArray):Prop:=(endk=eS/\hi=none)\/(hi=some endk/\endk≠eS)
def SndOk(b t c d M N:Nat)(a:AS)(root:Int)(lv:Value)(h:Nat):Prop:=
 ∀(U:Nat->Prop)(W:World)(x:Int)(lo:ByteArray)(hi:Option ByteArray)(L:List E2)(B:List Int) (lvl:Nat) (least endk:ByteArray),Lw U W b t c d M N a root lv->Sub a.V 1 h x lo hi L B->Ke least lo->EndOk endk hi->lvl+h<=16->
  Calls Tryz.prog 19 #[.pointer (some ⟨b,0,none⟩),.int .i64 x,.string least,.string endk,.int .i64 (lvl:Int)] W λ e w'=>e=.returned (.int .i64 ((lvl+h:Nat):Int))/\LwTo U W w' b t c d M N a root lv
def zpf9{b t c d M N:Nat}{a:AS}{root:Int}{lv:Value}(h:Nat)(ih:∀Y,h=Y+1->SndOk b t c d M N a root lv Y):SndOk b t c d M N a root lv h:=by
 intro U W x lo hi L B O cn H hL hs bp aa bq;obtain⟨m,B1,a1,a2,a3,a4,a5,rfl⟩:=hs;have av:=a5.rg;have br:kA m 0∈m.ks:=zan9 (by omega);have bs:kA m (m.ks.length-1)∈m.ks:=zan9 (by omega);obtain⟨kz,bo⟩:=exH (kA m 0);obtain⟨kl,aq⟩:=exH (kA m (m.ks.length-1));have f1:Op.bytesLess kz.toList cn.toList=false:=by rw[<-bo.o];exact bp.trans (av _ br).1
 have f2:H=eS\/H≠eS/\Op.bytesLess kl.toList H.toList=true:=by
  rcases aa with⟨e,_⟩|⟨e,e2⟩
  .exact .inl e
  .exact .inr ⟨e2,by rw[<-aq.o];exact(av _ bs).2 _ e⟩
 have HV:=za0 a1;have HB:=za0 a2;have ba:=za0 a5;have bx:=za0 aa;have b0:=za0 bq;have az:Hid (m.ks.length<=240):=by show _<=_;have q:=szN_ge m m.ks.length;unfold sz at a4;omega
 have b7:=za0 ih;have HL:=za0 hL;have HG:=za0 (tzGet x W hL.tz);have c1:=hL.cl 1;have a6:(h=0/\m.lf=true)\/(∃Y,h=Y+1/\m.lf=false):=by
  cases h with
  | zero=>exact .inl ⟨rfl,a5.1⟩
  | succ h=>exact .inr ⟨h,rfl,a5.1⟩
 have bn:m.lf=false->m.kd.length=m.ks.length:=λ e=>(a2.inn e).1;have cf:¬((O:Int) > 16):=by omega
 have b9:=za0 bn;have aj:=za0 a6;clear av br bs bp aa a1 a2 a4 a5 ih hL bn a6;unfold cp at c1 HG
 go_enter Tryz.func19,Tryz.ntmps19
 go_wp2_with fail;refine HG.o.mono ?_;rintro e w3 ⟨u,kd,ys,ec,rfl,hV,ao,au,bu⟩;rw[HV.o]at hV;obtain⟨rfl,hg⟩:=zzf9 hV;obtain⟨ua,um,uc,rfl⟩:∃a m cap,u=.slice a m cap:=by obtain⟨a,c,e,_⟩:=au.rd;exact⟨_,_,_,e⟩
 have c6:=za0 (HL.o.to bu);obtain⟨W4,bl⟩:=exN (w3.alloc (.cells #[.int .i64 kd,.slice ua um uc] 63));have b4:Below w3.heap.size w3 W4:=by rw[<-bl];exact za9 _ _
 have K4:Kb W4 w3.heap.size kd (.slice ua um uc):=by rw[<-bl];exact kb_new _ _ _
 have RG:=zll9 kd _ ys m hg W4 (au.rd.below b4) ao (by have q:ys.length<=240:=zum9 hg ao;omega);unfold blN at RG;have bb:=za0 RG;have k0:=K4.c0;have k1:=K4.c1;have ah:=za0 b4;clear hV ao au bu HG c1 RG b4 hg K4;unfold blk;go_wp2_with fail;refine bb.o.mono ?_;rintro e I ⟨⟨v1,v2,v3,rfl,nn,ac⟩,b5⟩;obtain⟨b1,a7,b2,ad,b3,a8,rfl,rfl,rfl,⟨l1,l2,l3,l4,l5,l6⟩,_,_,_⟩:=nn.o;obtain⟨A,K⟩:=exH m.ks.length;obtain⟨K2,am⟩:=exH m.vs.length;obtain⟨E,a9⟩:=exH m.kd.length;rw[K.o,am.o,a9.o]at nn ac;rw[K.o]at l1 a3;rw[am.o]at l3;rw[a9.o]at l5;rw[K.o,am.o,a9.o];rw[K.o]at aq;obtain⟨lf,a6⟩:=exH m.lf;rw[a6.o];obtain⟨W6,an⟩:=exN (I.alloc (.cells #[.bool lf,.slice b1 A a7,.slice b2 K2 ad,.slice b3 E a8] 102))
 have b6:Below I.heap.size I W6:=by rw[<-an];exact za9 _ _
 have z6:W6.heap.size=I.heap.size+1:=by rw[<-an];simp
 have SN:Hid (SnS U W b t c d M N a root lv I.heap.size m (.slice b1 A a7) (.slice b2 K2 ad) (.slice b3 E a8) W6):=by
  obtain⟨U',g1,g2,g3⟩:=c6.o;have bf:Below w3.heap.size w3 W6:=ah.o.trans ((b5.trans (b6.mono b5.size)).mono ah.o.size);have n6:=nn.below b6;refine⟨⟨U',g1.below bf,g2.trans (Tch.of_below (S:=U) bf) (λ _ _ e=>e),g3,λ k hk=>?_⟩,by rw[a6.o,<-an];exact nb_new _ _ _ _ _ _,n6⟩;have s1:=g1.lt;have s2:=ah.o.size;have s3:=b5.size;have q:W4.heap.size<=k/\k<W6.heap.size:=by
   rcases hk with e|e|e|e
   .omega
   .have:=ac k (.inl e);have:=b6.size;omega
   .have:=ac k (.inr (.inl e));have:=b6.size;omega
   .have:=ac k (.inr (.inr e));have:=b6.size;omega
  exact⟨λ e=>by have:=g1.tz.ul k e;omega,by omega,q.2⟩
 have S6:=SN.o;have p0:=S6.nv.c0;have p1:=S6.nv.c1;have p2:=S6.nv.c2;have p3:=S6.nv.c3;rw[a6.o]at p0;obtain⟨kb,ko,cg,ak⟩:=S6.nn.key (i:=0) (by rw[K.o];omega);obtain⟨aw,ax,ch,bj⟩:=S6.nn.key (i:=A-1) (by rw[K.o];omega);subst cg;cases ch;rw[bo.o]at ak;have bh:=ak;rw[Nat.add_zero]at bh;rw[aq.o]at bj;have i1:(0:Int)<(A:Int):=by omega
 have i2:(A:Int)-1<(A:Int):=by omega
 have i3:(0:Int)<=(A:Int)-1:=by omega
 have i4:((A:Int)-1).toNat=A-1:=by omega
 have i5:IntKind.i64.wrap ((A:Int)-1)=(A:Int)-1:=by rw[IntKind.wrap_i64];omega
 have g1:decide ((O:Int) > 16)=false:=by rw[zn4];omega
 have g2:decide ((16:Int)<(O:Int))=false:=by rw[zn4];omega
 have g3:decide (16<O)=false:=by rw[zn4];omega
 have ae:=za0 S6.lg.lwTo;have af:Hid ((H.toList=[]/\H.toList.isEmpty=true/\(H.toList == [])=true)\/(¬H.toList=[]/\H.toList.isEmpty=false/\(H.toList == [])=false/\Op.bytesLess kl.toList H.toList=true)):=by
  have hS:eS.toList=[]:=by rw[Go.Lib.toList_data];rfl
  rcases f2 with rfl|⟨cj,f2⟩
  .rw[hS];exact .inl ⟨rfl,rfl,rfl⟩
  .have h1:¬H.toList=[]:=λ e=>cj (eqsP.1 (beq_iff_eq.2 (e.trans hS.symm)));refine .inr ⟨h1,?_,?_,f2⟩
   .cases q:H.toList with
    | nil=>exact absurd q h1
    | cons=>rfl
   .rw[zl0];exact h1
 clear S6 k0 k1 nn ac b5 b6 z6 bb bq f2;unfold nod
 go_upto_region 3 with fail
 go_cut [66] (λ cv wx=>cv=.bool false/\wx=W6)
 case first=>
  rcases af.o with⟨e1,e2,e3⟩|⟨e1,e2,e3,e4⟩
  .clear af;go_wp2_with fail
   go_meet
   exact⟨rfl,rfl⟩
  .clear af;go_wp2_with fail
   go_meet
   exact⟨rfl,rfl⟩
 case rest=>
  obtain⟨rfl,rfl⟩:=hcut;clear af f1 i1 i2 i3 i4 i5 g1 g2 g3 cf ak bh bj;rcases aj.o with⟨h0,hl⟩|⟨Y,h0,hl⟩
  .subst h0;(obtain rfl:true=lf:=by rw[<-a6.o,hl]);clear aj hl;go_wp2_with fail;go_ret;exact⟨rfl,ae.o⟩
  .subst h0;(obtain rfl:false=lf:=by rw[<-a6.o,hl]);(have cr:E=A:=by rw[<-a9.o,<-K.o];exact b9.o hl);have c4:Hid (SndOk b t c d M N a root lv Y):=b7.o Y rfl;have bz:Hid (Fo (Sub a.V 1 Y) m.ks m.kd hi L B1):=ba.o.2.2;obtain⟨q,hq⟩:=exN (O+1+Y);(have c9:Hid (O+(Y+1)=q):=by show _=_;omega);have HQ:=za0 hq;have cm:=b0.o;(have bm:A<=240:=by rw[<-K.o];exact az.o);have y0:=wk_nat (x:=(O:Int)+1) (t:=O+1) (by omega) (by omega);have y1:=zu9 (x:=(O:Int)+1) (t:=O+1) (by clear y0;omega) (by clear y0;omega);have c5:=za0 bm;have HY:=za0 (And.intro y0 y1);(have c7:Hid (q<=16):=by show _<=_;omega);clear aj hl b7 ba ae b9 hq cm bm b0 az y0 y1;go_wp2_with fail;clear p0 p1 p2 p3
   go_loopw [15,16] (λ sv iv wr=>∃(i:Nat)(s:Int),i<=E/\iv=.int .i64 (i:Int)/\sv=.int .i64 s/\Hid (i=0\/s=(q:Int))/\Hid (SnS U W b t c d M N a root lv I.heap.size m (.slice (some ⟨kb,ko,none⟩) A a7) (.slice b2 K2 ad) (.slice b3 E a8) wr)) (λ _ iv _=>E-(intOf iv).toNat)
   (case atStart=>exact⟨0,0,zn7 _,rfl,rfl,.inl rfl,SN⟩);case round=>
    clear SN;obtain⟨i,s,cs,rfl,rfl,ag,HS⟩:=hrel;have T:=HS.o;have p0:=T.nv.c0;have p1:=T.nv.c1;have p3:=T.nv.c3;by_cases h1:i<E
    .have d1:decide ((i:Int)<(E:Int))=true:=by rw[zm0];omega
     have ce:decide (i<E)=true:=zm1 h1;obtain⟨aw,ax,e1,ck⟩:=T.nn.key (i:=i) (by rw[K.o];omega);obtain⟨db,a0,e2,cd⟩:=T.nn.kid (i:=i) (by rw[a9.o];exact h1);cases e1;subst e2;obtain⟨L1,B2,ay⟩:=bz.o.at i (by rw[a9.o];exact h1);obtain⟨kx,ar⟩:=exH (kA m i);obtain⟨dx,ap⟩:=exH (dA m i);rw[show m.kd.getD i 0=dx from ap.o,show m.ks.getD i eS=kx from ar.o,K.o]at ay;obtain⟨tk,bt⟩:=exH ((if i+1<A then kA m (i+1)else H));have aa:EndOk tk (if i+1<A then some (m.ks.getD (i+1) eS)else hi):=by
      rw[<-bt.o];by_cases Q:i+1<A
      .rw[if_pos Q,if_pos Q];refine .inr ⟨rfl,λ e=>?_⟩;have h3:=kA_lt HB.o (i:=i) (j:=i+1) (by omega) (by rw[K.o];exact Q);rw[e]at h3;have h4:lts (kA m i) eS=false:=Ke.none _;rw[show lts (kA m i) eS=true from h3]at h4;cases h4
      .rw[if_neg Q,if_neg Q];exact bx.o
     have ci:=c5.o;have v1:=wk_nat (x:=(i:Int)+1) (t:=i+1) (by omega) (by omega);have v2:=zu9 (x:=(i:Int)+1) (t:=i+1) (by clear v1;omega) (by clear v1;omega);have ab:=za0 (And.intro v1 v2);clear v1 v2;(have i0:(0:Int)<=(i:Int):=by omega);(have i1:(i:Int)<(A:Int):=by omega);(have i2:(i:Int)<(E:Int):=by omega);have ca:=za0 ay;have bw:=za0 aa;have ai:Hid (i<E):=h1;rw[ar.o]at ck;rw[ap.o]at cd;have SC:=T.drew.lg.lw (f:=19) (args:=#[.pointer (some ⟨b,0,none⟩),.int .i64 dx,.string kx,.string tk,.int .i64 ((O+1:Nat):Int)]) (P:=λ e=>e=.returned (.int .i64 (q:Int))) (λ U' hl=>by
      have:=c4.o U' _ dx kx _ L1 B2 (O+1) kx tk hl ca.o (Ke.refl _) bw.o (by have:=HQ.o;have:=c7.o;omega);rw[HQ.o]at this;exact this)
     have bc:=za0 SC;have hS:wr.drew.cell? ⟨I.heap.size,1,none⟩=some (.slice (some ⟨kb,ko,none⟩) A a7)/\wr.drew.cell? ⟨I.heap.size,3,none⟩=some (.slice (some ⟨db,a0,none⟩) E a8)/\wr.drew.cell? ⟨kb,ko+i,none⟩=some (.string kx)/\wr.drew.cell? ⟨db,a0+i,none⟩=some (.int .i64 dx):=⟨p1,p3,ck,cd⟩
     have bd:Hid (∀W9,SnS U W b t c d M N a root lv I.heap.size m (.slice (some ⟨kb,ko,none⟩) A a7) (.slice b2 K2 ad) (.slice (some ⟨db,a0,none⟩) E a8) W9->W9.cell? ⟨I.heap.size,1,none⟩=some (.slice (some ⟨kb,ko,none⟩) A a7)/\W9.cell? ⟨I.heap.size,3,none⟩=some (.slice (some ⟨db,a0,none⟩) E a8)/\W9.cell? ⟨kb,ko+i,none⟩=some (.string kx)/\W9.cell? ⟨db,a0+i,none⟩=some (.int .i64 dx)):=λ W9 h9=>by obtain⟨aw,ax,e1,bi⟩:=h9.nn.key (i:=i) (by rw[K.o];have:=ai.o;omega);obtain⟨co,cq,e2,bg⟩:=h9.nn.kid (i:=i) (by rw[a9.o];exact ai.o);cases e1;cases e2;rw[ar.o]at bi;rw[ap.o]at bg;exact⟨h9.nv.c1,h9.nv.c3,bi,bg⟩
     have be:Hid ((∃k2,decide ((i:Int)+1<(A:Int))=true/\decide (i+1<A)=true/\(i:Int)+1<(A:Int)/\k2=tk/\wr.cell? ⟨kb,ko+(i+1),none⟩=some (.string k2))\/(decide ((i:Int)+1<(A:Int))=false/\decide (i+1<A)=false/\tk=H)):=by
      have e3:=bt.o;by_cases Q:i+1<A
      .obtain⟨aw,ax,e1,al⟩:=T.nn.key (i:=i+1) (by rw[K.o];exact Q);cases e1;rw[if_pos Q]at e3;rw[e3]at al;exact .inl ⟨tk,by rw[zm0];omega,zm1 Q,by omega,rfl,al⟩
      .rw[if_neg Q]at e3;exact .inr ⟨by rw[zn4];omega,zl1 Q,e3.symm⟩
     (have j2:(0:Int)<=(i:Int)+1:=by omega);(have j3:((i:Int)+1).toNat=i+1:=by omega);(have j4:decide ((q:Int)<0)=false:=by rw[zn4];omega);(have j5:((q:Int) != (q:Int))=false:=by simp);have HH:=za0 T;clear ay aa SC T ck cd ci HS;rcases be.o with⟨k2,g1,g2,g3,rfl,al⟩|⟨g1,g2,rfl⟩
     all_goals
      clear be;have y0:=HY.o.1;have y1:=HY.o.2;have v1:=ab.o.1;have v2:=ab.o.2;go_wp2_with fail
      go_region_held3 (λ w'=>w'.cell? ⟨I.heap.size,1,none⟩=some (.slice (some ⟨kb,ko,none⟩) A a7)/\w'.cell? ⟨I.heap.size,3,none⟩=some (.slice (some ⟨db,a0,none⟩) E a8)/\w'.cell? ⟨kb,ko+i,none⟩=some (.string kx)/\w'.cell? ⟨db,a0+i,none⟩=some (.int .i64 dx)) (first|go_keep|exact bk)
       (first
        | (go_at_call 19;refine bc.o.mono ?_;rintro e W9 ⟨rfl,l9,s9⟩;have h9:=HH.o.drew.st l9 s9;have bk:=bd.o W9 h9;have H9:=za0 h9;clear l9 s9 h9))
      clear hS bk bd bc HH p0 p1 p3 y0 y1;have b8:Hid (SnS U W b t c d M N a root lv I.heap.size m (.slice (some ⟨kb,ko,none⟩) A a7) (.slice b2 K2 ad) (.slice (some ⟨db,a0,none⟩) E a8) W9):=H9.o;clear H9 v1 v2;have j6:(decide ((i:Int) > 0)=false/\decide ((0:Int)<(i:Int))=false/\decide (0<i)=false/\¬((0:Int)<(i:Int)))\/(decide ((i:Int) > 0)=true/\decide ((0:Int)<(i:Int))=true/\decide (0<i)=true/\s=(q:Int)/\(0:Int)<(i:Int)):=by
       by_cases z:i=0
       .subst z;exact .inl ⟨by simp,by simp,by simp,by simp⟩
       .have z2:(0:Int)<(i:Int):=by omega
        exact .inr ⟨zm1 z2,zm1 z2,zm1 (by omega),ag.o.resolve_left z,z2⟩
      have v1:=ab.o.1;have v2:=ab.o.2;clear ag;rcases j6 with⟨j6,j7,j8,j9⟩|⟨j6,j7,j8,rfl,j9⟩
      all_goals
       go_wp2_with fail;clear v1 v2 ab;have h1:=ai.o
       first
        | exact⟨⟨i+1,_,by omega,by rfl,by rfl,.inr rfl,b8⟩,by simp[intOf];omega⟩
        | (go_roundw
           (case rel=>exact⟨i+1,_,by omega,by rfl,by rfl,.inr rfl,b8⟩);case measure=>simp[intOf];omega)
    .have d1:decide ((i:Int)<(E:Int))=false:=by rw[zn4];omega
     have ce:decide (i<E)=false:=zl1 h1;have ae:=za0 T.lg.lwTo;have hs:s=(q:Int):=ag.o.resolve_left (by omega);subst hs;clear T HS ag;go_wp2_with fail;go_ret;rw[c9.o];exact⟨rfl,ae.o⟩
def zkh9{b t c d M N:Nat}{a:AS}{root:Int}{lv:Value}:∀h,SndOk b t c d M N a root lv h
 | 0=>zpf9 0 (λ u e=>by omega)
 | h+1=>zpf9 (h+1) (λ u e=>by cases e;exact zkh9 h)
