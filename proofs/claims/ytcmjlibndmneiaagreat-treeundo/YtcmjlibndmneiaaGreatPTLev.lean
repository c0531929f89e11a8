import Derived.Test.YtcmjlibndmneiaaGreatPTBz
import Derived.Laws.EntriesVeiled
set_option maxRecDepth 100000
set_option linter.all false
set_option maxHeartbeats 8000000
namespace Go.Proofs.YtcmjlibndmneiaaGreat
open Go.RowKit Go.Maps Pl
def zug9(n:Nd)(u1 u2 u3:Value)(x:Int)(lb s:Nat)(hs:s<=15728640)(w:World)(h:Nn w n u1 u2 u3)(hv:Vk n)(hb:C1 w 3 lb (.int .i64 (s:Int)))(a7:∀j,u3.ownBlock=some j->j≠lb):
 Calls Tryz.prog 49 #[.int .i64 x,nod n.lf u1 u2 u3,.pointer (some ⟨lb,0,none⟩)] w λ e w'=>
  ∃v,e=.returned v/\C1 w' 3 lb (.int .i64 ((s+1:Nat):Int))/\Tch (λ k=>k=lb) w w'/\RdV w' v (nums (n.kd.take 1))/\(∀j,v.ownBlock=some j->u3.ownBlock=some j):=by
 obtain⟨a1,c1,a2,c2,A,E,rfl,rfl,rfl,⟨l1,l2,l3,l4,l5,l6⟩,_,_,_⟩:=h.o
 obtain⟨L1,a4⟩:=exH n.ks.length
 obtain⟨L2,a5⟩:=exH n.vs.length
 obtain⟨u,H⟩:=exH n.kd.length
 obtain⟨lf,ag⟩:=exH n.lf
 rw[a4.o,a5.o,H.o]at h
 rw[H.o]at l5
 rw[a4.o,a5.o,H.o,ag.o]
 have hl:=hv.len
 rw[H.o]at hl
 obtain⟨K,a6⟩:=exN (w.alloc (.cells #[.bool lf,.slice a1 L1 c1,.slice a2 L2 c2,.slice A u E] 93))
 have O:Below w.heap.size w K:=by rw[<-a6];exact za9 _ _
 have V1:Nb K 93 w.heap.size lf (.slice a1 L1 c1) (.slice a2 L2 c2) (.slice A u E):=by rw[<-a6];exact nb_new _ _ _ _ _ _
 have T:=hb.below O
 have g1:=T.c
 have g2:=T.fz
 obtain⟨I,Q⟩:=exN (K.setCell ⟨lb,0,none⟩ (.int .i64 ((s+1:Nat):Int)))
 have t2:Tch (λ y=>y=lb) K I:=by rw[<-Q];exact tch_at _ _ _ _
 have a8:C1 I 3 lb (.int .i64 ((s+1:Nat):Int)):=by rw[<-Q];exact T.set _
 have a9:w.heap.size≠lb:=λ e=>by have:=hb.lt;omega
 have V2:=V1.tch t2 a9
 have m3:=V2.c3
 have h2:RdV I (.slice A u E) (nums n.kd):=((h.below O).d).tch t2 (λ b af e=>a7 b (by rw[H.o];exact af) e)
 obtain⟨q,Y⟩:∃q,q=(if u<1 then u else 1):=⟨_,rfl⟩
 have aa:q<=u:=by rw[Y];split<;>omega
 have ah:∀(W:World) ts ty,(Builtin.min_ ts ty #[.int .i64 1,.int .i64 (u:Int)]).run Tryz.prog W=.ok (.int .i64 (q:Int)) W:=λ W ts ty=>by
  rw[run_min_int2,Y]
  by_cases e:u<1
  .rw[if_pos (by omega),if_pos e]
  .rw[if_neg (by omega),if_neg e];rfl
 have SL:=λ W=>uptoIV A u E q aa l5 W
 obtain⟨ac,ad,ab⟩:=zgc9 (b:=A) 0 q E
 have a0:∀j,(sliced A 0 q E 1).ownBlock=some j->(Value.slice A u E).ownBlock=some j:=λ j hj=>zdx9 hj
 have a3:RdV I (sliced A 0 q E 1) (nums (n.kd.take 1)):=by
  have h4:=h2
  have e3:u=(nums n.kd).length:=by rw[ze9,H.o]
  rw[e3]at h4
  have:=zan9 h4 0 q (zn7 _) (by rw[ze9,H.o];exact aa)
  rw[List.drop_zero,Nat.sub_zero]at this
  have e4:(nums n.kd).take q=nums (n.kd.take 1):=by
   rw[nums,<-List.map_take]
   congr 1
   rw[Y]
   split
   .rename_i hh
    have:n.kd=[]:=zh0 (by rw[H.o];omega)
    rw[this];simp
   .rfl
  rw[e4]at this
  exact this
 rw[ab,Nat.sub_zero]at SL a0 a3
 have ae:Hid (C1 I 3 lb (.int .i64 ((s+1:Nat):Int))/\Tch (λ k=>k=lb) w I/\RdV I (.slice ac q ad) (nums (n.kd.take 1))/\∀j,(Value.slice ac q ad).ownBlock=some j->(Value.slice A u E).ownBlock=some j):=⟨a8,(Tch.of_below (S:=λ k=>k=lb) O).trans t2 (λ _ _ e=>e),a3,a0⟩
 have w1:=wk_nat (x:=(s:Int)+1) (t:=s+1) (by omega) (by omega)
 have w2:=zp9 (x:=(s:Int)+1) (t:=s+1) (by omega) (by omega)
 rw[show((s+1:Nat):Int)=(s:Int)+1 from rfl]at w1 w2 Q
 unfold nod
 clear h hv hb a7 O V1 T t2 a8 a9 V2 h2 a0 a3 Y ab
 go_enter Tryz.func49,Tryz.ntmps49
 go_wp2_with fail
 try rw[Q]
 go_ret
 exact⟨_,rfl,ae.o⟩
structure ILv(t wb lb:Nat)(m:Option Nat)(E:Nat->Prop)(s:Nat)(w:World):Prop where
 bx:w.heap[wb]?=some (.cells #[tp t,.func (.func 49) #[] #[.pointer (some ⟨lb,0,none⟩)],.bool false,.map m] 90 (0,0))
 k:C1 w 3 lb (.int .i64 (s:Int))
 e:∀y,E y↔(y=wb\/y=lb)
section
variable {t wb lb:Nat} {m:Option Nat} {E:Nat->Prop} {s:Nat} {w w':World}
def ILv.tch(h:ILv t wb lb m E s w){S:Nat->Prop}(A:Tch S w w')(u:∀k,E k->¬S k):ILv t wb lb m E s w':=
 ⟨by rw[A.block wb (zd0.1 h.bx).1 (u wb ((h.e _).2 (.inl rfl)))];exact h.bx,h.k.tch A (u lb ((h.e _).2 (.inr rfl))),h.e⟩
def ILv.lt(h:ILv t wb lb m E s w):∀k,E k->k<w.heap.size:=λ k u=>by
 rcases(h.e k).1 u with e|e
 .rw[e];exact(zd0.1 h.bx).1
 .rw[e];exact h.k.lt
def kd_rng{n:Nd}(hv:Vk n):∀k∈n.kd,0<=k/\k<=65535:=λ k u=>by
 cases hl:n.lf with
 | true=>
  have:=(hv.leaf hl).2
  rw[zh0 this]at u
  cases u
 | false=>
  obtain⟨i,A,rfl⟩:=List.getElem_of_mem u
  have:=(hv.inner hl).1 i A
  unfold dA at this
  rw[zn3,zc0 A]at this
  exact this
def levOk(I:Nat)(K:lb≠wb):WOk zae9 t wb I (λ s=>s) (ILv t wb lb (some I)) where
 tch:=λ E s w w' S h T A=>h.tch T A
 lt:=λ E s w h=>h.lt
 kd:=λ s x n hv k u=>kd_rng hv k (zx0 u)
 ln:=λ s x n hv=>by show(n.kd.take 1).length<=240;rw[zg0];omega
 ct:=λ s x n hv=>by show s+1<=s+240;omega
 fn:=⟨_,_,enters_of Tryz.func49 (by kernel_rfl) rfl,λ E s w h=>⟨h.bx,(h.e _).2 (.inl rfl)⟩,λ E s x n u1 u2 u3 w h A hv ha hx O=>by
  refine(zug9 n u1 u2 u3 x lb s O w A hv h.k (λ j Q e=>ha j (.inr (.inr Q)) ((h.e j).2 (.inr e)))).mono ?_
  rintro e w' ⟨v,rfl,Y,H,q4,q5⟩
  refine⟨E,v,rfl,⟨?_,Y,h.e⟩,H.mono (λ k _ e=>(h.e k).2 (.inr e)),λ k u=>.inl u,q4,q5⟩
  rw[H.block wb (zd0.1 h.bx).1 (λ e=>K e.symm)];exact h.bx⟩
end
noncomputable def levF(a:AS)(x:Int):Int×Int:=if (fromF zae9 a 0 x).e≠0 then(0,(fromF zae9 a 0 x).e)else(((fromF zae9 a 0 x).s:Int),0)
def zuh9{U:Nat->Prop}{t cc d M N:Nat}{a:AS}(x:Int)(hx:0<=x/\x<=65535)(w:World)(h:Tz U w t cc d M N a):
 Calls Tryz.prog 20 #[tp t,.int .i64 x] w λ e w'=>e=.returned (.tuple #[.int .i64 (levF a x).1,.int .i64 (levF a x).2])/\TzTo U w w' t cc d M N a:=by
 have af:∀(fn:Fn)(first cap:Array Value)(w:World),(Instr.makeFunc fn first cap).run Tryz.prog w=.ok (.func fn first cap) w:=λ _ _ _ _=>rfl
 obtain⟨u,K⟩:=exN (w.alloc (.cells #[.int .i64 0] 3))
 obtain⟨I,Q⟩:=exN (u.alloc (.cells #[.pointer (some ⟨t,0,none⟩),.func (.func 49) #[] #[.pointer (some ⟨w.heap.size,0,none⟩)],.bool false,.map none] 90))
 have s1:u.heap.size=w.heap.size+1:=by rw[<-K];simp
 have Y:Below w.heap.size w u:=by rw[<-K];exact za9 _ _
 have b2:Below u.heap.size u I:=by rw[<-Q];exact za9 _ _
 have k1:C1 u 3 w.heap.size (.int .i64 0):=by rw[<-K];exact C1.new _ _ _
 have a4:I.heap[u.heap.size]?=some (.cells #[tp t,.func (.func 49) #[] #[.pointer (some ⟨w.heap.size,0,none⟩)],.bool false,.map none] 90 (0,0)):=by rw[<-Q];exact heap_alloc_new u _
 have a0:Below w.heap.size w I:=Y.trans (b2.mono Y.size)
 obtain⟨E,hE⟩:∃E:Nat->Prop,∀y,E y↔(y=u.heap.size\/y=w.heap.size):=⟨_,λ y=>Iff.rfl⟩
 have J2:ILv t u.heap.size w.heap.size none E 0 I:=⟨a4,k1.below b2,hE⟩
 have a1:∀y,E y->w.heap.size<=y:=λ y hy=>by rcases(hE y).1 hy with e|e<;>omega
 have O:=zct9 (D:=zae9) (cnt:=λ s=>s) (wb:=u.heap.size) (cc:=cc) (d:=d) (M:=M) (N:=N) (a:=a) (ILv t u.heap.size w.heap.size)
  (λ sb=>levOk sb (by omega))
  (λ E s w' sb A=>⟨heap_setCell_same w' _ 3 _ _ _ A.bx,A.k.tch (tch_at _ _ _ _) (by omega),A.e⟩)
  (λ E s w' ag S A ht hn=>A.tch ht hn) (λ E s w' A=>⟨⟨_,_,_,A.bx⟩,(A.e _).2 (.inl rfl),A.lt⟩) x hx U E I 0 (h.below a0) J2 (λ k hk e=>by have:=h.ul k hk;have:=a1 k e;omega) rfl
 obtain⟨r,hr⟩:=exH (fromF zae9 a 0 x)
 rw[hr.o]at O
 obtain⟨H,a5⟩:=exH r.e
 rw[a5.o]at O
 have a3:Hid (levF a x=if H≠0 then(0,H)else((r.s:Int),0)):=by
  show _=_
  unfold levF
  rw[hr.o,a5.o]
 have a2:=za0 O
 have a7:=za0 a0
 have a8:=za0 a1
 have ab:=za0 K
 have ac:=za0 Q
 have aa:=za0 s1
 clear O a0 a1 J2 a4 b2 Y k1 s1 h hx hE K Q
 go_enter Tryz.func20,Tryz.ntmps20
 go_wp2_with fail
 rw[ab.o]
 rw[<-aa.o,ac.o]
 refine a2.o.mono ?_
 rintro e W3 ⟨rfl,F3,_⟩
 have HF:=za0 (F3.o a7.o a8.o)
 obtain⟨U5,E5,m5,z5,j5,t5,u5,e5,d5⟩:=F3
 have v5:=j5.k.c
 obtain⟨rs,a6⟩:=exH ((r.s:Int))
 rw[a6.o]at v5
 clear z5 j5 t5 u5 e5 d5 a2
 by_cases T:H=0
 .subst T
  go_wp2_with fail
  go_ret2
  rw[a3.o,if_neg (by simp),a6.o]
  exact⟨rfl,HF.o⟩
 .have ad:(H==0)=false:=by rw[zl0];exact T
  have ae:(H != 0)=true:=by rw[bne,ad];rfl
  have a9:Hid (levF a x=(0,H)):=by show _=_;rw[a3.o,if_pos T]
  clear T
  go_wp2_with fail
  go_ret2
  rw[a9.o]
  exact⟨rfl,HF.o⟩
structure IGt(key:ByteArray)(t wb kb vb fb:Nat)(m:Option Nat)(E:Nat->Prop)(s:ByteArray×Bool)(w:World):Prop where
 bx:w.heap[wb]?=some (.cells #[tp t,.func (.func 41) #[] #[.pointer (some ⟨kb,0,none⟩),.pointer (some ⟨vb,0,none⟩),.pointer (some ⟨fb,0,none⟩)],.bool false,.map m] 90 (0,0))
 k:C1 w 9 kb (.string key)
 v:C1 w 9 vb (.string s.1)
 f:C1 w 4 fb (.bool s.2)
 e:∀y,E y↔(y=wb\/y=kb\/y=vb\/y=fb)
section
variable {key:ByteArray} {t wb kb vb fb:Nat} {m:Option Nat} {E:Nat->Prop} {s:ByteArray×Bool} {w w':World}
def IGt.tch(h:IGt key t wb kb vb fb m E s w){S:Nat->Prop}(A:Tch S w w')(u:∀k,E k->¬S k):IGt key t wb kb vb fb m E s w':=
 ⟨by rw[A.block wb (zd0.1 h.bx).1 (u wb ((h.e _).2 (.inl rfl)))];exact h.bx,h.k.tch A (u kb ((h.e _).2 (.inr (.inl rfl)))),h.v.tch A (u vb ((h.e _).2 (.inr (.inr (.inl rfl))))),h.f.tch A (u fb ((h.e _).2 (.inr (.inr (.inr rfl))))),h.e⟩
def IGt.lt(h:IGt key t wb kb vb fb m E s w):∀k,E k->k<w.heap.size:=λ k u=>by
 rcases(h.e k).1 u with e|e|e|e
 .rw[e];exact(zd0.1 h.bx).1
 .rw[e];exact h.k.lt
 .rw[e];exact h.v.lt
 .rw[e];exact h.f.lt
def zru9(key:ByteArray)(s:ByteArray×Bool)(x:Int)(n:Nd)(hv:Vk n):(∀k∈((getW key).st s x n).2,0<=k/\k<=65535)/\((getW key).st s x n).2.length<=240:=by
 cases hl:n.lf with
 | true=>simp[getW,hl]
 | false=>
  have u:=hv.inner hl
  have H:=plc_in hl key n.ks.length hv.pos
  have A:=u.1 (plc n key n.ks.length) (by omega)
  simp only[getW,hl,Bool.false_eq_true,if_false]
  exact⟨λ k E=>by rw[List.mem_singleton.1 E];exact A,by simp⟩
def getOk(H:Nat)(h1:kb≠wb)(I:vb≠wb)(K:fb≠wb)(O:kb≠vb)(Q:kb≠fb)(T:vb≠fb):WOk (getW key) t wb H (λ _=>0) (IGt key t wb kb vb fb (some H)) where
 tch:=λ E s w w' S h ht u=>h.tch ht u
 lt:=λ E s w h=>h.lt
 kd:=λ s x n hv=>(zru9 key s x n hv).1
 ln:=λ s x n hv=>(zru9 key s x n hv).2
 ct:=λ s x n hv=>zn7 _
 fn:=⟨_,_,enters_of Tryz.func41 (by kernel_rfl) rfl,λ E s w h=>⟨h.bx,(h.e _).2 (.inl rfl)⟩,λ E s x n u1 u2 u3 w h u hv ha hx hc=>by
  refine(ztu9 n u1 u2 u3 x key kb vb fb s w u hv h.k h.v h.f T).mono ?_
  rintro e w' ⟨v,rfl,q1,q2,A,q4,q5⟩
  have t3:Tch E w w':=A.mono (λ k _ e=>(h.e k).2 (e.elim (λ e=>.inr (.inr (.inl e))) (λ e=>.inr (.inr (.inr e)))))
  refine⟨E,v,rfl,⟨?_,h.k.tch A (λ e=>e.elim O Q),q1,q2,h.e⟩,t3,λ k Y=>.inl Y,q4,q5⟩
  rw[A.block wb (zd0.1 h.bx).1 (λ e=>e.elim (λ e=>I e.symm) (λ e=>K e.symm))];exact h.bx⟩
end
def zhm9{U:Nat->Prop}{t cc d M N:Nat}{a:AS}(x:Int)(hx:0<=x/\x<=65535)(key:ByteArray)(w:World)(h:Tz U w t cc d M N a):
 Calls Tryz.prog 12 #[tp t,.int .i64 x,.string key] w λ e w'=>e=.returned (.tuple #[.string (getF a x key).s.1,.bool (getF a x key).s.2,.int .i64 (getF a x key).e])/\TzTo U w w' t cc d M N a:=by
 have ah:∀(fn:Fn)(first cap:Array Value)(w:World),(Instr.makeFunc fn first cap).run Tryz.prog w=.ok (.func fn first cap) w:=λ _ _ _ _=>rfl
 obtain⟨u,a5⟩:=exN (w.alloc (.cells #[.string key] 9))
 have k1:C1 u 9 w.heap.size (.string key):=by rw[<-a5];exact C1.new _ _ _
 have H:Below w.heap.size w u:=by rw[<-a5];exact za9 _ _
 have s1:u.heap.size=w.heap.size+1:=by rw[<-a5];simp
 obtain⟨K,a0⟩:=exN (u.alloc (.cells #[.string ⟨#[]⟩] 9))
 obtain⟨I,a1⟩:=exN (K.alloc (.cells #[.bool false] 4))
 obtain⟨Q,a2⟩:=exN (I.alloc (.cells #[.pointer (some ⟨t,0,none⟩),.func (.func 41) #[] #[.pointer (some ⟨w.heap.size,0,none⟩),.pointer (some ⟨u.heap.size,0,none⟩),.pointer (some ⟨u.heap.size+1,0,none⟩)],.bool false,.map none] 90))
 have s2:K.heap.size=u.heap.size+1:=by rw[<-a0];simp
 have s3:I.heap.size=u.heap.size+1+1:=by rw[<-a1];simp[s2]
 have O:Below u.heap.size u K:=by rw[<-a0];exact za9 _ _
 have T:Below K.heap.size K I:=by rw[<-a1];exact za9 _ _
 have Y:Below I.heap.size I Q:=by rw[<-a2];exact za9 _ _
 have v2:C1 K 9 u.heap.size (.string ⟨#[]⟩):=by rw[<-a0];exact C1.new _ _ _
 have f3:C1 I 4 (u.heap.size+1) (.bool false):=by rw[<-a1,<-s2];exact C1.new _ _ _
 have a6:Q.heap[u.heap.size+1+1]?=some (.cells #[tp t,.func (.func 41) #[] #[.pointer (some ⟨w.heap.size,0,none⟩),.pointer (some ⟨u.heap.size,0,none⟩),.pointer (some ⟨u.heap.size+1,0,none⟩)],.bool false,.map none] 90 (0,0)):=by rw[<-a2,<-s3];exact heap_alloc_new I _
 have a3:Below w.heap.size w Q:=((H.trans (O.mono H.size)).trans (T.mono (H.trans (O.mono H.size)).size)).trans (Y.mono ((H.trans (O.mono H.size)).trans (T.mono (H.trans (O.mono H.size)).size)).size)
 obtain⟨E,hE⟩:∃E:Nat->Prop,∀y,E y↔(y=u.heap.size+1+1\/y=w.heap.size\/y=u.heap.size\/y=u.heap.size+1):=⟨_,λ y=>Iff.rfl⟩
 have J4:IGt key t (u.heap.size+1+1) w.heap.size u.heap.size (u.heap.size+1) none E (eS,false) Q:=⟨a6,((k1.below O).below T).below Y,(v2.below T).below Y,f3.below Y,hE⟩
 have a4:∀y,E y->w.heap.size<=y:=λ y hy=>by rcases(hE y).1 hy with e|e|e|e<;>omega
 have FR:=zct9 (D:=getW key) (cnt:=λ _=>0) (wb:=u.heap.size+1+1) (cc:=cc) (d:=d) (M:=M) (N:=N) (a:=a) (IGt key t (u.heap.size+1+1) w.heap.size u.heap.size (u.heap.size+1))
  (λ sb=>getOk sb (by omega) (by omega) (by omega) (by omega) (by omega) (by omega))
  (λ E s w' sb A=>⟨heap_setCell_same w' _ 3 _ _ _ A.bx,A.k.tch (tch_at _ _ _ _) (by omega),A.v.tch (tch_at _ _ _ _) (by omega),A.f.tch (tch_at _ _ _ _) (by omega),A.e⟩)
  (λ E s w' ai S A ht hn=>A.tch ht hn) (λ E s w' A=>⟨⟨_,_,_,A.bx⟩,(A.e _).2 (.inl rfl),A.lt⟩) x hx U E Q (eS,false) (h.below a3) J4 (λ k hk e=>by have:=h.ul k hk;have:=a4 k e;omega) rfl
 obtain⟨r,hr⟩:=exH (getF a x key)
 have a7:fromF (getW key) a (eS,false) x=r:=hr.o
 rw[a7]at FR
 rw[hr.o]
 have ad:=za0 FR
 have ab:=za0 a3
 have ac:=za0 a4
 have ae:=za0 a0
 have af:=za0 a1
 have ag:=za0 a2
 clear FR a3 a4 J4 a6 f3 v2 Y T O H k1 a0 a1 a2 s1 s2 s3 h hx a7 hE
 go_enter Tryz.func12,Tryz.ntmps12
 go_wp2_with fail
 rw[ae.o,af.o,ag.o]
 refine ad.o.mono ?_
 rintro e W5 ⟨rfl,F5,_⟩
 have HF:=za0 (F5.o ab.o ac.o)
 obtain⟨U5,E5,m5,z5,j5,t5,u5,e5,d5⟩:=F5
 have v5:=j5.v.c
 have f5:=j5.f.c
 obtain⟨rv,aa⟩:=exH r.s.1
 obtain⟨rf,a9⟩:=exH r.s.2
 obtain⟨re,a8⟩:=exH r.e
 rw[aa.o]at v5
 rw[a9.o]at f5
 rw[a8.o]
 clear z5 j5 t5 u5 e5 d5
 go_wp2_with fail
 go_quiet (fail)
 go_wp2_with fail
 go_ret3
 rw[aa.o,a9.o,a8.o]
 exact⟨rfl,HF.o.below (belowN (zn6 _) _)⟩
