import Derived.Test.YtcmjlibndmneiaaGreatPTBz
import Derived.Laws.EntriesVeiled
import Derived.Test.YtcmjlibndmneiaaGreatPTBel
import Derived.Test.YtcmjlibndmneiaaGreatPTBeg
set_option maxRecDepth 100000
set_option linter.all false
set_option maxHeartbeats 8000000
namespace Go.Proofs.YtcmjlibndmneiaaGreat
open Go.RowKit Go.Maps Pl
def zva9(n:Nd)(u1 u2 u3:Value)(x:Int)(lb s:Nat)(hs:s<=15728640)(w:World)(h:Nn w n u1 u2 u3)(hv:Vk n)(hb:C1 w 3 lb (.int .i64 (s:Int)))(a7:∀j,u3.ownBlock=some j->j≠lb):
 Calls Tryz.prog 49 #[.int .i64 x,nod n.lf u1 u2 u3,.pointer (some ⟨lb,0,none⟩)] w λ e w'=>
  ∃v,e=.returned v/\C1 w' 3 lb (.int .i64 ((s+1:Nat):Int))/\Tch (λ k=>k=lb) w w'/\RdV w' v (nums (n.kd.take 1))/\(∀j,v.ownBlock=some j->u3.ownBlock=some j):=by
 obtain⟨a1,c1,a2,c2,A,E,rfl,rfl,rfl,⟨l1,l2,l3,l4,l5,l6⟩,_,_,_⟩:=h.o;obtain⟨L1,a4⟩:=exH n.ks.length;obtain⟨L2,a5⟩:=exH n.vs.length;obtain⟨u,H⟩:=exH n.kd.length;obtain⟨lf,ag⟩:=exH n.lf;rw[a4.o,a5.o,H.o]at h;rw[H.o]at l5;rw[a4.o,a5.o,H.o,ag.o];have hl:=hv.len;rw[H.o]at hl;obtain⟨K,a6⟩:=exN (w.alloc (.cells #[.bool lf,.slice a1 L1 c1,.slice a2 L2 c2,.slice A u E] 93));have O:Below w.heap.size w K:=by rw[<-a6];exact za9 _ _
 have V1:Nb K 93 w.heap.size lf (.slice a1 L1 c1) (.slice a2 L2 c2) (.slice A u E):=by rw[<-a6];exact nb_new _ _ _ _ _ _
 have T:=hb.below O;have g1:=T.c;have g2:=T.fz;obtain⟨I,Q⟩:=exN (K.setCell ⟨lb,0,none⟩ (.int .i64 ((s+1:Nat):Int)));have t2:Tch (λ y=>y=lb) K I:=by rw[<-Q];exact tch_at _ _ _ _
 have a8:C1 I 3 lb (.int .i64 ((s+1:Nat):Int)):=by rw[<-Q];exact T.set _
 have a9:w.heap.size≠lb:=λ e=>by have:=hb.lt;omega
 have V2:=V1.tch t2 a9;have m3:=V2.c3;have h2:RdV I (.slice A u E) (nums n.kd):=((h.below O).d).tch t2 (λ b af e=>a7 b (by rw[H.o];exact af) e);obtain⟨q,Y⟩:∃q,q=(if u<1 then u else 1):=⟨_,rfl⟩
 have aa:q<=u:=by rw[Y];split<;>omega
 have ah:∀(W:World) ts ty,(Builtin.min_ ts ty #[.int .i64 1,.int .i64 (u:Int)]).run Tryz.prog W=.ok (.int .i64 (q:Int)) W:=λ W ts ty=>by
  rw[run_min_int2,Y];by_cases e:u<1
  .rw[if_pos (by omega),if_pos e]
  .rw[if_neg (by omega),if_neg e];rfl
 have SL:=λ W=>uptoIV A u E q aa l5 W;obtain⟨ac,ad,ab⟩:=zkg9 (b:=A) 0 q E;have a0:∀j,(sliced A 0 q E 1).ownBlock=some j->(Value.slice A u E).ownBlock=some j:=λ j hj=>zhp9 hj;have a3:RdV I (sliced A 0 q E 1) (nums (n.kd.take 1)):=by
  have h4:=h2;have e3:u=(nums n.kd).length:=by rw[zf9,H.o]
  rw[e3]at h4;have:=zbc9 h4 0 q (zn7 _) (by rw[zf9,H.o];exact aa);rw[List.drop_zero,Nat.sub_zero]at this;have e4:(nums n.kd).take q=nums (n.kd.take 1):=by
   rw[nums,<-List.map_take];congr 1;rw[Y];split
   .rename_i hh;have:n.kd=[]:=zh0 (by rw[H.o];omega);rw[this];simp
   .rfl
  rw[e4]at this;exact this
 rw[ab,Nat.sub_zero]at SL a0 a3;have ae:Hid (C1 I 3 lb (.int .i64 ((s+1:Nat):Int))/\Tch (λ k=>k=lb) w I/\RdV I (.slice ac q ad) (nums (n.kd.take 1))/\∀j,(Value.slice ac q ad).ownBlock=some j->(Value.slice A u E).ownBlock=some j):=⟨a8,(Tch.of_below (S:=λ k=>k=lb) O).trans t2 (λ _ _ e=>e),a3,a0⟩
 have w1:=wk_nat (x:=(s:Int)+1) (t:=s+1) (by omega) (by omega);have w2:=zu9 (x:=(s:Int)+1) (t:=s+1) (by omega) (by omega);rw[show((s+1:Nat):Int)=(s:Int)+1 from rfl]at w1 w2 Q;unfold nod;clear h hv hb a7 O V1 T t2 a8 a9 V2 h2 a0 a3 Y ab
 go_enter Tryz.func49,Tryz.ntmps49
 go_wp2_with fail;try rw[Q]
 go_ret;exact⟨_,rfl,ae.o⟩
structure ILv(t wb lb:Nat)(m:Option Nat)(E:Nat->Prop)(s:Nat)(w:World):Prop where
 bx:w.heap[wb]?=some (.cells #[tp t,.func (.func 49) #[] #[.pointer (some ⟨lb,0,none⟩)],.bool false,.map m] 90 (0,0))
 k:C1 w 3 lb (.int .i64 (s:Int))
 e:∀y,E y↔(y=wb\/y=lb)
section
variable {t wb lb:Nat} {m:Option Nat} {E:Nat->Prop} {s:Nat} {w w':World}
def ILv.tch(h:ILv t wb lb m E s w){S:Nat->Prop}(A:Tch S w w')(u:∀k,E k->¬S k):ILv t wb lb m E s w':=
 ⟨by rw[A.block wb (zd0.1 h.bx).1 (u wb ((h.e _).2 (.inl rfl)))];exact h.bx,h.k.tch A (u lb ((h.e _).2 (.inr rfl))),h.e⟩
def ILv.lt(h:ILv t wb lb m E s w):∀k,E k->k<w.heap.size:=λ k u=>by
 rcases(h.e k).1 u with e|e
 .rw[e];exact(zd0.1 h.bx).1
 .rw[e];exact h.k.lt
def kd_rng{n:Nd}(hv:Vk n):∀k∈n.kd,0<=k/\k<=65535:=λ k u=>by
 cases hl:n.lf with
 | true=>have:=(hv.leaf hl).2;rw[zh0 this]at u;cases u
 | false=>obtain⟨i,A,rfl⟩:=List.getElem_of_mem u;have:=(hv.inner hl).1 i A;unfold dA at this;rw[zn3,zc0 A]at this;exact this
def levOk(I:Nat)(K:lb≠wb):WOk zaf9 t wb I (λ s=>s) (ILv t wb lb (some I)) where
 tch:=λ E s w w' S h T A=>h.tch T A
 lt:=λ E s w h=>h.lt
 kd:=λ s x n hv k u=>kd_rng hv k (zy0 u)
 ln:=λ s x n hv=>by show(n.kd.take 1).length<=240;rw[zg0];omega
 ct:=λ s x n hv=>by show s+1<=s+240;omega
 fn:=⟨_,_,enters_of Tryz.func49 (by kernel_rfl) rfl,λ E s w h=>⟨h.bx,(h.e _).2 (.inl rfl)⟩,λ E s x n u1 u2 u3 w h A hv ha hx O=>by
  refine(zva9 n u1 u2 u3 x lb s O w A hv h.k (λ j Q e=>ha j (.inr (.inr Q)) ((h.e j).2 (.inr e)))).mono ?_;rintro e w' ⟨v,rfl,Y,H,q4,q5⟩;refine⟨E,v,rfl,⟨?_,Y,h.e⟩,H.mono (λ k _ e=>(h.e k).2 (.inr e)),λ k u=>.inl u,q4,q5⟩;rw[H.block wb (zd0.1 h.bx).1 (λ e=>K e.symm)];exact h.bx⟩
end
noncomputable def levF(a:AS)(x:Int):Int×Int:=if (fromF zaf9 a 0 x).e≠0 then(0,(fromF zaf9 a 0 x).e)else(((fromF zaf9 a 0 x).s:Int),0)
def zob9{U:Nat->Prop}{t cc d M N:Nat}{a:AS}(x:Int)(hx:0<=x/\x<=65535)(w:World)(h:Tz U w t cc d M N a):
 Calls Tryz.prog 20 #[tp t,.int .i64 x] w λ e w'=>e=.returned (.tuple #[.int .i64 (levF a x).1,.int .i64 (levF a x).2])/\TzTo U w w' t cc d M N a:=by
 have af:∀(fn:Fn)(first cap:Array Value)(w:World),(Instr.makeFunc fn first cap).run Tryz.prog w=.ok (.func fn first cap) w:=λ _ _ _ _=>rfl;obtain⟨u,K⟩:=exN (w.alloc (.cells #[.int .i64 0] 3));obtain⟨I,Q⟩:=exN (u.alloc (.cells #[.pointer (some ⟨t,0,none⟩),.func (.func 49) #[] #[.pointer (some ⟨w.heap.size,0,none⟩)],.bool false,.map none] 90));have s1:u.heap.size=w.heap.size+1:=by rw[<-K];simp
 have Y:Below w.heap.size w u:=by rw[<-K];exact za9 _ _
 have b2:Below u.heap.size u I:=by rw[<-Q];exact za9 _ _
 have k1:C1 u 3 w.heap.size (.int .i64 0):=by rw[<-K];exact C1.new _ _ _
 have a4:I.heap[u.heap.size]?=some (.cells #[tp t,.func (.func 49) #[] #[.pointer (some ⟨w.heap.size,0,none⟩)],.bool false,.map none] 90 (0,0)):=by rw[<-Q];exact heap_alloc_new u _
 have a0:Below w.heap.size w I:=Y.trans (b2.mono Y.size);obtain⟨E,hE⟩:∃E:Nat->Prop,∀y,E y↔(y=u.heap.size\/y=w.heap.size):=⟨_,λ y=>Iff.rfl⟩
 have J2:ILv t u.heap.size w.heap.size none E 0 I:=⟨a4,k1.below b2,hE⟩
 have a1:∀y,E y->w.heap.size<=y:=λ y hy=>by rcases(hE y).1 hy with e|e<;>omega
 have O:=zfp9 (D:=zaf9) (cnt:=λ s=>s) (wb:=u.heap.size) (cc:=cc) (d:=d) (M:=M) (N:=N) (a:=a) (ILv t u.heap.size w.heap.size)
  (λ sb=>levOk sb (by omega))
  (λ E s w' sb A=>⟨heap_setCell_same w' _ 3 _ _ _ A.bx,A.k.tch (tch_at _ _ _ _) (by omega),A.e⟩)
  (λ E s w' ag S A ht hn=>A.tch ht hn) (λ E s w' A=>⟨⟨_,_,_,A.bx⟩,(A.e _).2 (.inl rfl),A.lt⟩) x hx U E I 0 (h.below a0) J2 (λ k hk e=>by have:=h.ul k hk;have:=a1 k e;omega) rfl
 obtain⟨r,hr⟩:=exH (fromF zaf9 a 0 x);rw[hr.o]at O;obtain⟨H,a5⟩:=exH r.e;rw[a5.o]at O;have a3:Hid (levF a x=if H≠0 then(0,H)else((r.s:Int),0)):=by show _=_;unfold levF;rw[hr.o,a5.o]
 have a2:=za0 O;have a7:=za0 a0;have a8:=za0 a1;have ab:=za0 K;have ac:=za0 Q;have aa:=za0 s1;clear O a0 a1 J2 a4 b2 Y k1 s1 h hx hE K Q
 go_enter Tryz.func20,Tryz.ntmps20
 go_wp2_with fail;rw[ab.o];rw[<-aa.o,ac.o];refine a2.o.mono ?_;rintro e W3 ⟨rfl,F3,_⟩;have HF:=za0 (F3.o a7.o a8.o);obtain⟨U5,E5,m5,z5,j5,t5,u5,e5,d5⟩:=F3;have v5:=j5.k.c;obtain⟨rs,a6⟩:=exH ((r.s:Int));rw[a6.o]at v5;clear z5 j5 t5 u5 e5 d5 a2;by_cases T:H=0
 .subst T;go_wp2_with fail;go_ret2;rw[a3.o,if_neg (by simp),a6.o];exact⟨rfl,HF.o⟩
 .have ad:(H==0)=false:=by rw[zl0];exact T
  have ae:(H != 0)=true:=by rw[bne,ad];rfl
  have a9:Hid (levF a x=(0,H)):=by show _=_;rw[a3.o,if_pos T]
  clear T;go_wp2_with fail;go_ret2;rw[a9.o];exact⟨rfl,HF.o⟩
structure IGt(key:ByteArray)(t wb kb vb fb:Nat)(m:Option Nat)(E:Nat->Prop)(s:ByteArray×Bool)(w:World):Prop where
 bx:w.heap[wb]?=some (.cells #[tp t,.func (.func 41) #[] #[.pointer (some ⟨kb,0,none⟩),.pointer (some ⟨vb,0,none⟩),.pointer (some ⟨fb,0,none⟩)],.bool false,.map m] 90 (0,0))
 k:C1 w 9 kb (.string key)
 v:C1 w 9 vb (.string s.1)
 f:C1 w 4 fb (.bool s.2)
 e:∀y,E y↔(y=wb\/y=kb\/y=vb\/y=fb)
section
variable {key:ByteArray} {t wb kb vb fb:Nat} {m:Option Nat} {E:Nat->Prop} {s:ByteArray×Bool} {w w':World}
def IGt.tch(h:IGt key t wb kb vb fb m E s w){S:Nat->Prop}(A:Tch S w w')(u:∀k,E k->¬S k):IGt key t wb kb vb fb m E s w':=
 ⟨by rw[A.block wb (zd0.1 h.bx).1 (u wb ((h.e _).2 (.inl rfl)))];exact h.bx,h.k.tch A (u kb ((h.e _).2 (.inr (.inl rfl)))),h.v.tch A (u vb ((h.e _).2 (.inr (.inr (.inl rfl))))),h.f.tch A (u fb ((h.e _).2 (.inr (.inr (.inr rfl))))),h.e⟩
def IGt.lt(h:IGt key t wb kb vb fb m E s w):∀k,E k->k<w.heap.size:=λ k u=>by
 rcases(h.e k).1 u with e|e|e|e
 .rw[e];exact(zd0.1 h.bx).1
 .rw[e];exact h.k.lt
 .rw[e];exact h.v.lt
 .rw[e];exact h.f.lt
def zsq9(key:ByteArray)(s:ByteArray×Bool)(x:Int)(n:Nd)(hv:Vk n):(∀k∈((getW key).st s x n).2,0<=k/\k<=65535)/\((getW key).st s x n).2.length<=240:=by
 cases hl:n.lf with
 | true=>simp[getW,hl]
 | false=>have u:=hv.inner hl;have H:=plc_in hl key n.ks.length hv.pos;have A:=u.1 (plc n key n.ks.length) (by omega);simp only[getW,hl,Bool.false_eq_true,if_false];exact⟨λ k E=>by rw[List.mem_singleton.1 E];exact A,by simp⟩
def getOk(H:Nat)(h1:kb≠wb)(I:vb≠wb)(K:fb≠wb)(O:kb≠vb)(Q:kb≠fb)(T:vb≠fb):WOk (getW key) t wb H (λ _=>0) (IGt key t wb kb vb fb (some H)) where
 tch:=λ E s w w' S h ht u=>h.tch ht u
 lt:=λ E s w h=>h.lt
 kd:=λ s x n hv=>(zsq9 key s x n hv).1
 ln:=λ s x n hv=>(zsq9 key s x n hv).2
 ct:=λ s x n hv=>zn7 _
 fn:=⟨_,_,enters_of Tryz.func41 (by kernel_rfl) rfl,λ E s w h=>⟨h.bx,(h.e _).2 (.inl rfl)⟩,λ E s x n u1 u2 u3 w h u hv ha hx hc=>by
  refine(zul9 n u1 u2 u3 x key kb vb fb s w u hv h.k h.v h.f T).mono ?_;rintro e w' ⟨v,rfl,q1,q2,A,q4,q5⟩;have t3:Tch E w w':=A.mono (λ k _ e=>(h.e k).2 (e.elim (λ e=>.inr (.inr (.inl e))) (λ e=>.inr (.inr (.inr e)))));refine⟨E,v,rfl,⟨?_,h.k.tch A (λ e=>e.elim O Q),q1,q2,h.e⟩,t3,λ k Y=>.inl Y,q4,q5⟩;rw[A.block wb (zd0.1 h.bx).1 (λ e=>e.elim (λ e=>I e.symm) (λ e=>K e.symm))];exact h.bx⟩
end
def zic9{U:Nat->Prop}{t cc d M N:Nat}{a:AS}(x:Int)(hx:0<=x/\x<=65535)(key:ByteArray)(w:World)(h:Tz U w t cc d M N a):
 Calls Tryz.prog 12 #[tp t,.int .i64 x,.string key] w λ e w'=>e=.returned (.tuple #[.string (getF a x key).s.1,.bool (getF a x key).s.2,.int .i64 (getF a x key).e])/\TzTo U w w' t cc d M N a:=by
 have ah:∀(fn:Fn)(first cap:Array Value)(w:World),(Instr.makeFunc fn first cap).run Tryz.prog w=.ok (.func fn first cap) w:=λ _ _ _ _=>rfl;obtain⟨u,a5⟩:=exN (w.alloc (.cells #[.string key] 9));have k1:C1 u 9 w.heap.size (.string key):=by rw[<-a5];exact C1.new _ _ _
 have H:Below w.heap.size w u:=by rw[<-a5];exact za9 _ _
 have s1:u.heap.size=w.heap.size+1:=by rw[<-a5];simp
 obtain⟨K,a0⟩:=exN (u.alloc (.cells #[.string ⟨#[]⟩] 9));obtain⟨I,a1⟩:=exN (K.alloc (.cells #[.bool false] 4));obtain⟨Q,a2⟩:=exN (I.alloc (.cells #[.pointer (some ⟨t,0,none⟩),.func (.func 41) #[] #[.pointer (some ⟨w.heap.size,0,none⟩),.pointer (some ⟨u.heap.size,0,none⟩),.pointer (some ⟨u.heap.size+1,0,none⟩)],.bool false,.map none] 90));have s2:K.heap.size=u.heap.size+1:=by rw[<-a0];simp
 have s3:I.heap.size=u.heap.size+1+1:=by rw[<-a1];simp[s2]
 have O:Below u.heap.size u K:=by rw[<-a0];exact za9 _ _
 have T:Below K.heap.size K I:=by rw[<-a1];exact za9 _ _
 have Y:Below I.heap.size I Q:=by rw[<-a2];exact za9 _ _
 have v2:C1 K 9 u.heap.size (.string ⟨#[]⟩):=by rw[<-a0];exact C1.new _ _ _
 have f3:C1 I 4 (u.heap.size+1) (.bool false):=by rw[<-a1,<-s2];exact C1.new _ _ _
 have a6:Q.heap[u.heap.size+1+1]?=some (.cells #[tp t,.func (.func 41) #[] #[.pointer (some ⟨w.heap.size,0,none⟩),.pointer (some ⟨u.heap.size,0,none⟩),.pointer (some ⟨u.heap.size+1,0,none⟩)],.bool false,.map none] 90 (0,0)):=by rw[<-a2,<-s3];exact heap_alloc_new I _
 have a3:Below w.heap.size w Q:=((H.trans (O.mono H.size)).trans (T.mono (H.trans (O.mono H.size)).size)).trans (Y.mono ((H.trans (O.mono H.size)).trans (T.mono (H.trans (O.mono H.size)).size)).size);obtain⟨E,hE⟩:∃E:Nat->Prop,∀y,E y↔(y=u.heap.size+1+1\/y=w.heap.size\/y=u.heap.size\/y=u.heap.size+1):=⟨_,λ y=>Iff.rfl⟩
 have J4:IGt key t (u.heap.size+1+1) w.heap.size u.heap.size (u.heap.size+1) none E (eS,false) Q:=⟨a6,((k1.below O).below T).below Y,(v2.below T).below Y,f3.below Y,hE⟩
 have a4:∀y,E y->w.heap.size<=y:=λ y hy=>by rcases(hE y).1 hy with e|e|e|e<;>omega
 have FR:=zfp9 (D:=getW key) (cnt:=λ _=>0) (wb:=u.heap.size+1+1) (cc:=cc) (d:=d) (M:=M) (N:=N) (a:=a) (IGt key t (u.heap.size+1+1) w.heap.size u.heap.size (u.heap.size+1))
  (λ sb=>getOk sb (by omega) (by omega) (by omega) (by omega) (by omega) (by omega))
  (λ E s w' sb A=>⟨heap_setCell_same w' _ 3 _ _ _ A.bx,A.k.tch (tch_at _ _ _ _) (by omega),A.v.tch (tch_at _ _ _ _) (by omega),A.f.tch (tch_at _ _ _ _) (by omega),A.e⟩)
  (λ E s w' ai S A ht hn=>A.tch ht hn) (λ E s w' A=>⟨⟨_,_,_,A.bx⟩,(A.e _).2 (.inl rfl),A.lt⟩) x hx U E Q (eS,false) (h.below a3) J4 (λ k hk e=>by have:=h.ul k hk;have:=a4 k e;omega) rfl
 obtain⟨r,hr⟩:=exH (getF a x key);have a7:fromF (getW key) a (eS,false) x=r:=hr.o;rw[a7]at FR;rw[hr.o];have ad:=za0 FR;have ab:=za0 a3;have ac:=za0 a4;have ae:=za0 a0;have af:=za0 a1;have ag:=za0 a2;clear FR a3 a4 J4 a6 f3 v2 Y T O H k1 a0 a1 a2 s1 s2 s3 h hx a7 hE
 go_enter Tryz.func12,Tryz.ntmps12
 go_wp2_with fail;rw[ae.o,af.o,ag.o];refine ad.o.mono ?_;rintro e W5 ⟨rfl,F5,_⟩;have HF:=za0 (F5.o ab.o ac.o);obtain⟨U5,E5,m5,z5,j5,t5,u5,e5,d5⟩:=F5;have v5:=j5.v.c;have f5:=j5.f.c;obtain⟨rv,aa⟩:=exH r.s.1;obtain⟨rf,a9⟩:=exH r.s.2;obtain⟨re,a8⟩:=exH r.e;rw[aa.o]at v5;rw[a9.o]at f5;rw[a8.o];clear z5 j5 t5 u5 e5 d5;go_wp2_with fail;go_quiet (fail);go_wp2_with fail;go_ret3;rw[aa.o,a9.o,a8.o];exact⟨rfl,HF.o.below (belowN (zn6 _) _)⟩
end Go.Proofs.YtcmjlibndmneiaaGreat
namespace Go.Proofs.YtcmjlibndmneiaaGreat
open Go.RowKit Go.Maps Pl
def zxp9{key val:ByteArray}(H:key.size<=1000)(hv:val.size<=1000){n:Nd}(h:SzT n)(I:n.ks.length<=240)(E:n.vs.length=n.ks.length):SzT (insL key val n):=by
 have A:=h.d;unfold insL;simp only;split
 .refine sz_of h.sm.km (λ s u=>?_) h.k (by simp only[zt0];exact h.v) h.d;rcases List.mem_or_eq_of_mem_set u with e|e
  .exact h.sm.vm s e
  .rw[e];omega
 .refine sz_of (λ s u=>?_) (λ s u=>?_) ?_ ?_ h.d
  .rcases zi0.1 u with e|e
   .exact h.sm.km s (zy0 e)
   .rcases List.mem_cons.1 e with rfl|e
    .omega
    .exact h.sm.km s (zz0 e)
  .rcases List.mem_or_eq_of_mem_set u with e|e
   .rcases zi0.1 e with e|e
    .exact h.sm.vm s (zy0 e)
    .rcases List.mem_cons.1 e with rfl|e
     .exact zn7 _
     .exact h.sm.vm s (zz0 e)
   .rw[e];omega
  .simp only[zf0,zg0,zk0,zj0];omega
  .simp only[zt0,zf0,zg0,zk0,zj0];omega
def zws9{key:ByteArray}{n:Nd}(h:SzT n):SzT (delL key n):=by
 have A:=h.d;have E:=h.k;have hv:=h.v;unfold delL;simp only;split
 .refine sz_of (λ s u=>?_) (λ s u=>?_) ?_ ?_ h.d
  .rcases zi0.1 u with e|e
   .exact h.sm.km s (zy0 e)
   .exact h.sm.km s (zz0 e)
  .rcases zi0.1 u with e|e
   .exact h.sm.vm s (zy0 e)
   .exact h.sm.vm s (zz0 e)
  .simp only[zf0,zg0,zj0];omega
  .simp only[zf0,zg0,zj0];omega
 .exact h
def gz_new{U:Nat->Prop}{w w':World}{t cc d M N cb:Nat}{a:AS}(h:Tz U w t cc d M N a)(A:Below w.heap.size w w')(K:w.heap.size<=cb)(b:CB)(H:b.cb=cb)(E:w'.heap[cb]?=some (.cells #[tp t,.string b.key,b.fv,.bool b.jn,.int .i64 0,.slice none 0 0,.slice none 0 0] 114 (0,0))):Gz (λ k=>U k\/k=cb) w' t cc d M N a b ch0:=by
 subst H;refine⟨U,_,_,h.below A,⟨E,zr9 _ _ _,zr9 _ _ _,λ j e=>(by cases e),λ x I=>by rcases I with e|e<;>cases e⟩,λ k u e=>?_,λ k u=>?_,λ k u=>?_⟩
 .rcases u with rfl|q|q
  .have:=h.ul _ e;omega
  .cases q
  .cases q
 .rcases u with q|q|q|q
  .exact .inl q
  .exact .inr q
  .cases q
  .cases q
 .rcases u with q|q
  .exact zn1 (h.ul k q) A.size
  .rw[q];exact(zd0.1 E).1
section
variable {U:Nat->Prop} {t cc d M N:Nat} {a:AS}
def cloPut{E:World}{cb kb vb:Nat}{key val:ByteArray}(I:key.size<=1000)(hv:val.size<=1000)(K:E.cell? ⟨kb,0,none⟩=some (.string key))(O:E.cell? ⟨vb,0,none⟩=some (.string val)):
 Clo (λ k=>k=kb\/k=vb) E ⟨cb,.func (.func 51) #[] #[.pointer (some ⟨kb,0,none⟩),.pointer (some ⟨vb,0,none⟩)],key,false⟩ ⟨key,insL key val,false⟩ where
 key:=rfl
 jn:=rfl
 ks:=I
 fn:=⟨_,_,rfl,enters_of Tryz.func51 (by kernel_rfl) rfl,λ n u1 u2 u3 W B H Q T Y hs A u=>by
  have k1:W.cell? ⟨kb,0,none⟩=some (.string key):=by rw[<-K];unfold World.cell?;rw[H kb (.inl rfl)]
  have k2:W.cell? ⟨vb,0,none⟩=some (.string val):=by rw[<-O];unfold World.cell?;rw[H vb (.inr rfl)]
  exact zuv9 n u1 u2 u3 key val kb vb W T Y hs A u k1 k2 (Q vb (.inr rfl))⟩
 sz:=λ n h A u=>zxp9 I hv h A u
def zop9(x:Int)(hx:(Lit.int .i64 x).wf=true)(key val:ByteArray)(ak:key.size<=4611686018427387904)(ao:val.size<=4611686018427387904)(w:World)(h:Tz U w t cc d M N a):
 Calls Tryz.prog 23 #[tp t,.int .i64 x,.string key,.string val] w λ e w'=>e=.returned (.tuple #[.int .i64 (putF a x key val).x,.int .i64 (putF a x key val).e])/\TzTo U w w' t cc d M N (putF a x key val).a:=by
 obtain⟨A,a5⟩:=exN (w.alloc (.cells #[.string key] 9));obtain⟨u,a6⟩:=exN (A.alloc (.cells #[.string val] 9));have s1:A.heap.size=w.heap.size+1:=by rw[<-a5];simp
 have s2:u.heap.size=w.heap.size+2:=by rw[<-a6];simp[s1]
 have b1:Below w.heap.size w A:=by rw[<-a5];exact za9 _ _
 have b2:Below A.heap.size A u:=by rw[<-a6];exact za9 _ _
 have E:=b1.trans (b2.mono b1.size);have g1:Rw 9 u w.heap.size [.string key]:=by
  have:Rw 9 A w.heap.size [.string key]:=by rw[<-a5];exact Rw.new _ _ _
  exact this.tch (Tch.of_below (S:=λ _=>False) b2) (λ e=>e)
 have g2:Rw 9 u A.heap.size [.string val]:=by rw[<-a6];exact Rw.new _ _ _
 have k1:u.cell? ⟨w.heap.size,0,none⟩=some (.string key):=by rw[g1.cell];rfl
 have k2:u.cell? ⟨A.heap.size,0,none⟩=some (.string val):=by rw[g2.cell];rfl
 have HT:=za0 h;have ah:=za0 E;have ai:Hid (A.heap.size=w.heap.size+1/\u.heap.size=w.heap.size+2):=⟨s1,s2⟩
 obtain⟨PR,T⟩:=exH (putF a x key val);rw[T.o];have al:∀(fn:Fn)(first cap:Array Value)(w:World),(Instr.makeFunc fn first cap).run Tryz.prog w=.ok (.func fn first cap) w:=λ _ _ _ _=>rfl;obtain⟨H,ae⟩:=exN key.toList.isEmpty;have a1:eqs key eS=H:=by rw[<-ae];unfold eqs eS;simp
 have a2:Hid ((H=true\/24<key.size\/24<val.size)->PR=⟨0,1,a⟩):=λ hq=>by rw[<-T.o];unfold putF;rw[a1,if_pos hq]
 have a3:=za0 (h.to_below E);by_cases I:H=true\/24<key.size\/24<val.size
 .have K:=za0 (a2.o I);clear h b1 b2 E s1 s2 g1 g2 a2 T a1 hx
  go_enter Tryz.func23,Tryz.ntmps23
  by_cases q1:H=true
  .subst q1;clear I;go_wp2_with fail;go_ret2;rw[K.o];exact⟨rfl,a3.o⟩
  .have q2:H=false:=by cases H with|false=>rfl|true=>exact absurd rfl q1
   subst q2;by_cases q3:24<key.size
   .have l1:decide ((24:Int)<(key.size:Int))=true:=by rw[zm0];omega
    have ab:=zm1 q3;clear I q1;go_wp2_with fail;go_ret2;rw[K.o];exact⟨rfl,a3.o⟩
   .have q4:24<val.size:=by rcases I with e|e|e<;>first|exact absurd e (by decide)|exact absurd e q3|exact e
    (have l1:decide ((24:Int)<(key.size:Int))=false:=by rw[zn4];omega);have ab:=zl1 q3;(have l2:decide ((24:Int)<(val.size:Int))=true:=by rw[zm0];omega);have ag:=zm1 q4;clear I q1;go_wp2_with fail;go_ret2;rw[K.o];exact⟨rfl,a3.o⟩
 .have af:H=false:=by cases H with|false=>rfl|true=>exact absurd (.inl rfl) I
  subst af;have aj:key.size<=24:=by omega
  have an:val.size<=24:=by omega
  have K:Hid (PR=madeF ⟨key,insL key val,false⟩ a x):=by show _=_;rw[<-T.o];unfold putF;rw[a1,if_neg I]
  have l1:decide ((24:Int)<(key.size:Int))=false:=by rw[zn4];omega
  have l2:decide ((24:Int)<(val.size:Int))=false:=by rw[zn4];omega
  have ab:decide (24<key.size)=false:=by rw[zn4];omega
  have ag:decide (24<val.size)=false:=by rw[zn4];omega
  obtain⟨O,a0⟩:=exN (u.alloc (.cells #[tp t,.string key,.func (.func 51) #[] #[.pointer (some ⟨w.heap.size,0,none⟩),.pointer (some ⟨A.heap.size,0,none⟩)],.bool false,.int .i64 0,.slice none 0 0,.slice none 0 0] 114));have Q:Below u.heap.size u O:=by rw[<-a0];exact za9 _ _
  have a4:=E.trans (Q.mono E.size);have a8:O.heap[u.heap.size]?=some (.cells #[tp t,.string key,.func (.func 51) #[] #[.pointer (some ⟨w.heap.size,0,none⟩),.pointer (some ⟨A.heap.size,0,none⟩)],.bool false,.int .i64 0,.slice none 0 0,.slice none 0 0] 114 (0,0)):=by rw[<-a0];exact heap_alloc_new u _
  have G3:=gz_new h a4 (cb:=u.heap.size) E.size ⟨u.heap.size,.func (.func 51) #[] #[.pointer (some ⟨w.heap.size,0,none⟩),.pointer (some ⟨A.heap.size,0,none⟩)],key,false⟩ rfl a8;have a9:O.cell? ⟨w.heap.size,0,none⟩=some (.string key):=by rw[Q.cell (ze0 u ⟨w.heap.size,0,none⟩ k1)];exact k1
  have aa:O.cell? ⟨A.heap.size,0,none⟩=some (.string val):=by rw[Q.cell (ze0 u ⟨A.heap.size,0,none⟩ k2)];exact k2
  have s3:=Q.size;have Y:=zjt9 ⟨key,insL key val,false⟩ (cloPut (cb:=u.heap.size) (kb:=w.heap.size) (vb:=A.heap.size) (by omega) (by omega) a9 aa) x hx O G3 (λ k hk=>⟨by omega,λ e=>by
   rcases e with e|e
   .have:=h.ul k e;omega
   .omega,rfl⟩)
  rw[<-K.o]at Y;unfold chp at Y;have ad:=za0 Y;have a7:=za0 a4;have ac:=za0 (zn2 E.size (zn6 u.heap.size));unfold tp at a0;clear h b1 b2 E s1 s2 g1 g2 I a2 T a1 hx Y Q a4 a8 G3 a9 aa s3
  go_enter Tryz.func23,Tryz.ntmps23
  go_wp2_with fail;try rw[a0]
  refine ad.o.mono ?_;rintro e W4 ⟨rfl,z4⟩;have HF:Hid (TzTo U w W4 t cc d M N PR.a):=by
   obtain⟨U',zz,tt,hu⟩:=z4;have hs:=a7.o.size;have am:=ac.o;refine⟨U',zz,(Tch.of_below (S:=U) a7.o).trans tt (λ y hy e=>e.elim id (λ e=>by omega)),λ k hk=>?_⟩;rcases hu k hk with(e|e)|e
   .exact .inl e
   .exact .inr (by omega)
   .exact .inr (by omega)
  clear z4;go_wp2_with fail;go_ret2;exact⟨rfl,HF.o⟩
end
def eqs_eq{x y:ByteArray}(h:eqs x y=true):x=y:=by
 unfold eqs at h;rw[Go.Lib.toList_data,Go.Lib.toList_data,beq_iff_eq]at h;cases x;cases y;simp only[ByteArray.mk.injEq]at *
 exact Array.ext' h
def zww9{x y:ByteArray}:eqs x y=true↔x=y:=⟨eqs_eq,λ h=>by subst h;unfold eqs;simp⟩
section
variable {σ:Type} {D:WD σ}
def zss9{E:σ->Bool}{rec:σ->List Int->Int->DR σ}(u:σ->Prop)(A:∀s z k,u s->u (rec s z k).s):∀(H:List Int)(s:σ)(z:List Int),u s->u (goF E rec H s z).s
 | [],s,z,h=>h
 | k::r,s,z,h=>by
  unfold goF;split
  .exact h
  .split
   .exact A s z k h
   .exact zss9 u A r _ _ (A s z k h)
def zji9{a:AS}(A:∀x,(a.V x).1=0->Vk (a.V x).2)(u:σ->Prop)(E:∀s x n,Vk n->u s->u (D.st s x n).1):∀(f lv:Nat)(s:σ)(z:List Int)(x:Int),u s->u (downF D a f lv s z x).s
 | 0,lv,s,z,x,h=>by unfold downF;split<;>exact h
 | f+1,lv,s,z,x,h=>by
  unfold downF;split
  .exact h
  .split
   .exact h
   .rename_i h0;refine zss9 u (λ s z k H=>zji9 A u E f (lv+1) s z k H) _ _ _ (E s x _ ?_ h);unfold look at h0 |-
    split
    .rename_i hl;rw[if_pos hl]at h0;exact absurd (by decide) h0
    .rename_i hl;rw[if_neg hl]at h0;exact A x (by simpa using h0)
def zqu9{a:AS}(A:∀x,(a.V x).1=0->Vk (a.V x).2)(u:σ->Prop)(E:∀s x n,Vk n->u s->u (D.st s x n).1)(s:σ)(x:Int)(h:u s):u (fromF D a s x).s:=by
 unfold fromF;split
 .exact h
 .exact zji9 A u E 16 1 s [] x h
end
def zqv9{a:AS}(H:∀x,(a.V x).1=0->Vk (a.V x).2)(x:Int)(key:ByteArray)(h:(getF a x key).s.2=true):key.size<=24:=by
 refine zqu9 H (λ s=>s.2=true->key.size<=24) (λ s y n I A=>?_) (eS,false) x (λ e=>by cases e) h;intro u;unfold getW at u;simp only at u;split at u
 .rename_i hl;split at u
  .rename_i hk;have E:=(zq9.1 I.may).2.2.1 _ hk.1;rw[<-eqs_eq hk.2];exact E.1
  .exact A u
 .exact A u
def cloDel{E:World}{cb kb:Nat}{key:ByteArray}(O:key.size<=1000)(H:E.cell? ⟨kb,0,none⟩=some (.string key)):
 Clo (λ k=>k=kb) E ⟨cb,.func (.func 54) #[] #[.pointer (some ⟨kb,0,none⟩)],key,true⟩ ⟨key,delL key,true⟩ where
 key:=rfl
 jn:=rfl
 ks:=O
 fn:=⟨_,_,rfl,enters_of Tryz.func54 (by kernel_rfl) rfl,λ n u1 u2 u3 W B I hB K Q T A u=>by
  have Y:W.cell? ⟨kb,0,none⟩=some (.string key):=by rw[<-H];unfold World.cell?;rw[I kb rfl]
  exact zty9 n u1 u2 u3 key kb W K Q T A u Y⟩
 sz:=λ n h A u=>zws9 h
def ztz9{U:Nat->Prop}{t cc d M N:Nat}{a:AS}(x:Int)(hx:0<=x/\x<=65535)(key:ByteArray)(w:World)(h:Tz U w t cc d M N a):
 Calls Tryz.prog 24 #[tp t,.int .i64 x,.string key] w λ e w'=>e=.returned (.tuple #[.int .i64 (delF a x key).x,.bool (delF a x key).ok,.int .i64 (delF a x key).e])/\TzTo U w w' t cc d M N (delF a x key).a:=by
 have b0:∀(fn:Fn)(first cap:Array Value)(w:World),(Instr.makeFunc fn first cap).run Tryz.prog w=.ok (.func fn first cap) w:=λ _ _ _ _=>rfl;obtain⟨E,ai⟩:=exH (delF a x key);rw[ai.o];obtain⟨g,hg⟩:=exH (getF a x key);have a5:Hid (E=if g.e≠0 then⟨0,false,g.e,a⟩else if g.s.2=true then⟨(madeF ⟨key,delL key,true⟩ a x).x,decide ((madeF ⟨key,delL key,true⟩ a x).e=0),(madeF ⟨key,delL key,true⟩ a x).e,(madeF ⟨key,delL key,true⟩ a x).a⟩else⟨x,false,0,a⟩):=by show E=_;rw[<-ai.o];unfold delF;rw[hg.o]
 have al:Hid (g.s.2=true->key.size<=24):=λ h2=>zqv9 (λ y hy=>h.vok y hy) x key (by rw[hg.o];exact h2);obtain⟨W1,aj⟩:=exN (w.alloc (.cells #[.string key] 9));have b1:Below w.heap.size w W1:=by rw[<-aj];exact za9 _ _
 have k1:C1 W1 9 w.heap.size (.string key):=by rw[<-aj];exact C1.new _ _ _
 have c1:=k1.c;have Y:=zic9 x hx key W1 (h.below b1);rw[hg.o]at Y;obtain⟨gv,ar⟩:=exH g.s.1;obtain⟨gf,a2⟩:=exH g.s.2;obtain⟨ge,Q⟩:=exH g.e;rw[ar.o,a2.o,Q.o]at Y;have aa:=za0 Y;have a3:=za0 b1;have ab:=za0 k1;have ae:=za0 h.ul;have HX:=za0 (zay9 (x:=x) (by omega) (by omega));clear h hx b1 k1 Y
 go_enter Tryz.func24,Tryz.ntmps24
 go_wp2_with fail;refine aa.o.mono ?_;rintro e u ⟨rfl,z2⟩;have ao:=za0 z2;have ag:Hid (TzTo U w u t cc d M N a):=TzTo.after (Tch.of_below a3.o) (λ _ e=>.inl e) z2;have a6:C1 u 9 w.heap.size (.string key):=by obtain⟨U2,_,T,_⟩:=z2;exact ab.o.tch T (λ e=>by have:=ae.o _ e;omega)
 have c2:=a6.c;have ac:=za0 a6;clear z2 a6 c1 aa;by_cases a1:ge=0
 .subst a1;cases gf
  .have H:Hid (E=⟨x,false,0,a⟩):=by show E=_;rw[a5.o,if_neg (by rw[Q.o];simp),a2.o,if_neg (by decide)]
   go_wp2_with fail;go_ret3;rw[H.o];exact⟨rfl,ag.o⟩
  .have au:=al.o a2.o;have H:Hid (E=⟨(madeF ⟨key,delL key,true⟩ a x).x,decide ((madeF ⟨key,delL key,true⟩ a x).e=0),(madeF ⟨key,delL key,true⟩ a x).e,(madeF ⟨key,delL key,true⟩ a x).a⟩):=by show E=_;rw[a5.o,if_neg (by rw[Q.o];simp),a2.o,if_pos rfl]
   obtain⟨U2,y2,T,u2⟩:=ao.o;obtain⟨W3,a0⟩:=exN (u.alloc (.cells #[.pointer (some ⟨t,0,none⟩),.string key,.func (.func 54) #[] #[.pointer (some ⟨w.heap.size,0,none⟩)],.bool true,.int .i64 0,.slice none 0 0,.slice none 0 0] 114));(have O:Below u.heap.size u W3:=by rw[<-a0];exact za9 _ _);(have ah:W3.heap[u.heap.size]?=some (.cells #[tp t,.string key,.func (.func 54) #[] #[.pointer (some ⟨w.heap.size,0,none⟩)],.bool true,.int .i64 0,.slice none 0 0,.slice none 0 0] 114 (0,0)):=by rw[<-a0];exact heap_alloc_new u _);have G3:=gz_new y2 O (cb:=u.heap.size) (zn6 _) ⟨u.heap.size,.func (.func 54) #[] #[.pointer (some ⟨w.heap.size,0,none⟩)],key,true⟩ rfl ah;have k3:=ac.o.below O;have av:=ac.o.lt
   have aw:=ab.o.lt;have I:=zjt9 ⟨key,delL key,true⟩ (cloDel (cb:=u.heap.size) (kb:=w.heap.size) (by omega) k3.c) x HX.o W3 G3 (λ k hk=>⟨by rw[hk];exact k3.lt,λ e=>by
    rcases e with e|e
    .rcases u2 k e with q|q
     .have:=ae.o k q;omega
     .omega
    .omega,rfl⟩)
   obtain⟨mr,ax⟩:=exH (madeF ⟨key,delL key,true⟩ a x);have a4:=H.o;rw[ax.o]at I a4;have ad:=za0 a4;unfold chp at I;obtain⟨mx,a9⟩:=exH mr.x;obtain⟨me,a7⟩:=exH mr.e;rw[a9.o,a7.o]at I;have am:=za0 I;have ak:Hid (∀K A,TzTo (λ k=>U2 k\/k=u.heap.size) W3 K t cc d M N A->TzTo U w K t cc d M N A):=λ K A hz=>by
    obtain⟨U4,z4,t4,u4⟩:=hz;have h1:=a3.o.size;have h2:=T.size;have h3:=O.size;refine TzTo.after (w:=W1) (U:=U) (Tch.of_below a3.o) (λ _ e=>.inl e) ⟨U4,z4,(T.trans (Tch.of_below (S:=U) O) (λ _ _ e=>e)).trans t4 (λ y hy e=>?_),λ k hk=>?_⟩
    .rcases e with e|e
     .exact(u2 y e).elim id (λ q=>by omega)
     .omega
    .rcases u4 k hk with(e|e)|e
     .exact u2 k e
     .exact .inr (by omega)
     .exact .inr (by omega)
   have an:=za0 a0;clear au y2 T u2 O ah G3 k3 av aw I a0 a4;go_wp2_with fail;rw[an.o];refine am.o.mono ?_;rintro e K ⟨rfl,z4⟩;have af:=za0 (ak.o K _ z4);clear z4;by_cases a8:me=0
   .subst a8;go_wp2_with fail;go_ret3;rw[ad.o,a9.o,a7.o];exact⟨rfl,af.o⟩
   .have az:(me==0)=false:=by rw[zl0];exact a8
    have aq:decide (me=0)=false:=zl1 a8;have HD:Hid (decide (me=0)=false):=aq;go_wp2_with fail;go_ret3;rw[ad.o];simp only[a9.o,a7.o];rw[HD.o];exact⟨rfl,af.o⟩
 .have ap:(ge==0)=false:=by rw[zl0];exact a1
  have ay:(ge != 0)=true:=by rw[bne,ap];rfl
  have H:Hid (E=⟨0,false,ge,a⟩):=by show E=_;rw[a5.o,if_pos (by rw[Q.o];exact a1),Q.o]
  clear a1;go_wp2_with fail;go_ret3;rw[H.o];exact⟨rfl,ag.o⟩
def lfA:Nd:=⟨true,[⟨#[97]⟩],[⟨#[49]⟩],[]⟩
theorem lfA_sz:szN lfA lfA.ks.length=5:=by rfl
def ltT_ab:lts ⟨#[97]⟩ ⟨#[98]⟩=true:=by unfold lts;rw[ByteArray.toList_eq,ByteArray.toList_eq];decide
def neT_a:eqs ⟨#[97]⟩ eS=false:=by unfold eqs eS;rw[ByteArray.toList_eq,ByteArray.toList_eq];decide
def zxz9:mayN lfA=true:=by
 rw[zq9];unfold MayP;refine⟨by decide,by rw[lfA_sz,zbm9 (by decide)];decide,λ i u=>?_,?_⟩
 .have A:i<1:=u
  match i,A with
  | 0,_=>exact⟨by decide,λ h=>absurd h (by decide),λ _=>neT_a⟩
 .rw[if_pos (show lfA.lf=true from rfl)];refine⟨λ i u=>?_,rfl,rfl⟩;have A:i<1:=u
  match i,A with
  | 0,_=>decide
def lv_ins:insL ⟨#[97]⟩ ⟨#[49]⟩ leaf0=lfA:=by unfold insL;simp only;rw[if_neg (λ e=>absurd e.1 (by decide))];rfl
def lv_pc:piecesF lfA=[lfA]:=by unfold piecesF;rw[if_neg (by decide),lfA_sz,if_pos (by rw[zbm9 (by decide)];decide)]
def zod9:Ah.take (as0 30).A=(50,true,⟨50,(List.replicate 30 0).set 0 1,0⟩):=by unfold Ah.take as0 Ah.new;simp only;rw[if_neg (by decide)];rfl
def zvb9:writeF (as0 30) ch0 lfA=⟨50,0,(as0 30).wr lfA,{ ch0 with tk:=[50] }⟩:=by unfold writeF;rw[if_pos zxz9,if_pos (by rw[zod9]),zod9];rfl
def lv_put:putF (as0 30) 0 ⟨#[97]⟩ ⟨#[49]⟩=⟨50,0,(as0 30).wr lfA⟩:=by
 unfold putF;rw[neT_a,if_neg (by decide)];have u:partsF ⟨⟨#[97]⟩,insL ⟨#[97]⟩ ⟨#[49]⟩,false⟩ (as0 30) ch0 0=⟨0,[lfA],as0 30,ch0⟩:=by unfold partsF;rw[if_pos rfl];show(⟨0,piecesF (insL ⟨#[97]⟩ ⟨#[49]⟩ leaf0),as0 30,ch0⟩:BR)=_;rw[lv_ins,lv_pc]
 have hr:rootedF ⟨⟨#[97]⟩,insL ⟨#[97]⟩ ⟨#[49]⟩,false⟩ (as0 30) ch0 0=⟨50,0,(as0 30).wr lfA,{ ch0 with tk:=[50] }⟩:=by unfold rootedF;rw[u];show(if (0:Int)≠0 then _ else _)=_;rw[if_neg (by simp)];show(if [lfA].length=0 then _ else _)=_;rw[if_neg (by decide)];show(if [lfA].length=1 then _ else _)=_;rw[if_pos (show[lfA].length=1 from rfl)];show(if lfA.kd.length=1 then _ else _)=_;rw[if_neg (by decide)];exact zvb9
 unfold madeF;rw[hr];rfl
def lv_V:((as0 30).wr lfA).V 50=(0,lfA):=by unfold AS.wr;rw[zod9];show updI (as0 30).V 50 (0,lfA) 50=_;exact zck9 _ _ _
def zsy9(key:ByteArray):getF ((as0 30).wr lfA) 50 key=⟨0,((getW key).st (eS,false) 50 lfA).1,[50]⟩:=by
 unfold getF fromF;rw[if_neg (by decide),downF,if_neg (by simp)];have u:look ((as0 30).wr lfA) 50 1=(0,lfA):=by unfold look;rw[if_neg (by decide)];exact lv_V
 rw[u];rfl
def lv_a:getF ((as0 30).wr lfA) 50 ⟨#[97]⟩=⟨0,(⟨#[49]⟩,true),[50]⟩:=by
 rw[zsy9];have u:lts (kA lfA 0) ⟨#[97]⟩=false:=by unfold lts;exact bl_irr _
 have A:plc lfA ⟨#[97]⟩ lfA.ks.length=0:=by show plc lfA ⟨#[97]⟩ (0+1)=0;unfold plc;rw[if_pos (show lfA.lf=true from rfl),if_neg (by rw[u];decide)];rfl
 unfold getW;simp only[A];rw[if_pos (show lfA.lf=true from rfl),if_pos ⟨by decide,zww9.2 rfl⟩];rfl
def lv_b:getF ((as0 30).wr lfA) 50 ⟨#[98]⟩=⟨0,(eS,false),[50]⟩:=by
 rw[zsy9];have u:plc lfA ⟨#[98]⟩ lfA.ks.length=1:=by show plc lfA ⟨#[98]⟩ (0+1)=1;unfold plc;rw[if_pos (show lfA.lf=true from rfl),if_pos (show lts (kA lfA 0) ⟨#[98]⟩=true from ltT_ab)]
 unfold getW;simp only[u];rw[if_pos (show lfA.lf=true from rfl),if_neg (λ e=>absurd e.1 (by decide))]
def zoc9(w:World):Calls Tryz.prog 15 #[] w λ e w'=>e=.returned (.bool true)/\Below w.heap.size w w':=by
 have I:=zml9 30 (by decide) (by decide) w;rw[show((30:Nat):Int)=30 from rfl]at I;have a1:=za0 I;clear I
 go_enter Tryz.func15,Tryz.ntmps15
 go_wp2_with fail;refine a1.o.mono ?_;rintro e W1 ⟨U,b,t,c,d,M,rfl,A,u1,b1,a7⟩;have k3:W1.cell? ⟨b,3,none⟩=some (tp t):=by rw[A.cl];rfl
 have Y:=zop9 0 (by decide) ⟨#[97]⟩ ⟨#[49]⟩ (by decide) (by decide) W1 A.tz;rw[lv_put]at Y;have a4:=za0 Y;have ab:=za0 A;have a5:=za0 u1;have T:Hid (w.heap.size<=b/\Below w.heap.size w W1):=⟨b1,a7⟩
 clear Y A u1 b1 a7 a1;go_wp2_with fail;refine a4.o.mono ?_;rintro e W2 ⟨rfl,z2⟩;obtain⟨U2,E,t2,h2⟩:=ab.o.to z2;have B2:Below w.heap.size w W2:=T.o.2.trans (t2.below T.o.2.size (λ k u=>a5.o k u));have a8:∀k,U2 k->w.heap.size<=k:=λ k u=>(h2 k u).elim (a5.o k) (λ e=>by have:=T.o.2.size;omega);have K:=zic9 50 ⟨by decide,by decide⟩ ⟨#[97]⟩ W2 E.tz;rw[lv_a]at K;have a2:=za0 K;have af:W2.cell? ⟨b,3,none⟩=some (tp t):=by rw[E.cl];rfl
 have ac:=za0 E;have Q:=za0 B2;have a6:=za0 a8;clear z2 E t2 h2 B2 a8 K k3 a4;go_wp2_with fail;refine a2.o.mono ?_;rintro e W3 ⟨rfl,z3⟩;obtain⟨U3,H,t3,h3⟩:=ac.o.to z3;have B3:Below w.heap.size w W3:=Q.o.trans (t3.below Q.o.size (λ k u=>a6.o k u));have a9:∀k,U3 k->w.heap.size<=k:=λ k u=>(h3 k u).elim (a6.o k) (λ e=>by have:=Q.o.size;omega);have O:=zic9 50 ⟨by decide,by decide⟩ ⟨#[98]⟩ W3 H.tz;rw[lv_b]at O;have a3:=za0 O;have k3:W3.cell? ⟨b,3,none⟩=some (tp t):=by rw[H.cl];rfl
 have ad:=za0 H;have a0:=za0 B3;have ae:=za0 a9;clear z3 H t3 h3 B3 a9 O af a2;go_wp2_with fail;refine a3.o.mono ?_;rintro e W4 ⟨rfl,z4⟩;have aa:Hid (Below w.heap.size w W4):=by obtain⟨U4,l4,t4,h4⟩:=ad.o.to z4;exact a0.o.trans (t4.below a0.o.size (λ k u=>ae.o k u))
 clear z4 k3 a3;go_wp2_with fail;go_ret;exact⟨by first|rfl|simp,aa.o⟩
