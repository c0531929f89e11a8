import Derived.Test.YtcmjlibndmneiaaGreatPTBel
import Derived.Test.YtcmjlibndmneiaaGreatPTLev
import Derived.Test.YtcmjlibndmneiaaGreatPTEnt
import Derived.Test.YtcmjlibndmneiaaGreatPTBeg
set_option maxRecDepth 100000
set_option linter.all false
set_option maxHeartbeats 8000000
namespace Go.Proofs.YtcmjlibndmneiaaGreat
open Go.RowKit Go.Maps Pl
def zxb9{key val:ByteArray}(H:key.size<=1000)(hv:val.size<=1000){n:Nd}(h:SzT n)(I:n.ks.length<=240)(E:n.vs.length=n.ks.length):SzT (insL key val n):=by
 have A:=h.d
 unfold insL
 simp only
 split
 .refine sz_of h.sm.km (λ s u=>?_) h.k (by simp only[zs0];exact h.v) h.d
  rcases List.mem_or_eq_of_mem_set u with e|e
  .exact h.sm.vm s e
  .rw[e];omega
 .refine sz_of (λ s u=>?_) (λ s u=>?_) ?_ ?_ h.d
  .rcases zi0.1 u with e|e
   .exact h.sm.km s (zx0 e)
   .rcases List.mem_cons.1 e with rfl|e
    .omega
    .exact h.sm.km s (zy0 e)
  .rcases List.mem_or_eq_of_mem_set u with e|e
   .rcases zi0.1 e with e|e
    .exact h.sm.vm s (zx0 e)
    .rcases List.mem_cons.1 e with rfl|e
     .exact zn7 _
     .exact h.sm.vm s (zy0 e)
   .rw[e];omega
  .simp only[zf0,zg0,zk0,zj0];omega
  .simp only[zs0,zf0,zg0,zk0,zj0];omega
def zvx9{key:ByteArray}{n:Nd}(h:SzT n):SzT (delL key n):=by
 have A:=h.d
 have E:=h.k
 have hv:=h.v
 unfold delL
 simp only
 split
 .refine sz_of (λ s u=>?_) (λ s u=>?_) ?_ ?_ h.d
  .rcases zi0.1 u with e|e
   .exact h.sm.km s (zx0 e)
   .exact h.sm.km s (zy0 e)
  .rcases zi0.1 u with e|e
   .exact h.sm.vm s (zx0 e)
   .exact h.sm.vm s (zy0 e)
  .simp only[zf0,zg0,zj0];omega
  .simp only[zf0,zg0,zj0];omega
 .exact h
def gz_new{U:Nat->Prop}{w w':World}{t cc d M N cb:Nat}{a:AS}(h:Tz U w t cc d M N a)(A:Below w.heap.size w w')(K:w.heap.size<=cb)(b:CB)(H:b.cb=cb)(E:w'.heap[cb]?=some (.cells #[tp t,.string b.key,b.fv,.bool b.jn,.int .i64 0,.slice none 0 0,.slice none 0 0] 114 (0,0))):Gz (λ k=>U k\/k=cb) w' t cc d M N a b ch0:=by
 subst H
 refine⟨U,_,_,h.below A,⟨E,zx9 _ _ _,zx9 _ _ _,λ j e=>(by cases e),λ x I=>by rcases I with e|e<;>cases e⟩,λ k u e=>?_,λ k u=>?_,λ k u=>?_⟩
 .rcases u with rfl|q|q
  .have:=h.ul _ e;omega
  .cases q
  .cases q
 .rcases u with q|q|q|q
  .exact .inl q
  .exact .inr q
  .cases q
  .cases q
 .rcases u with q|q
  .exact zn1 (h.ul k q) A.size
  .rw[q];exact(zd0.1 E).1
section
variable {U:Nat->Prop} {t cc d M N:Nat} {a:AS}
def cloPut{E:World}{cb kb vb:Nat}{key val:ByteArray}(I:key.size<=1000)(hv:val.size<=1000)(K:E.cell? ⟨kb,0,none⟩=some (.string key))(O:E.cell? ⟨vb,0,none⟩=some (.string val)):
 Clo (λ k=>k=kb\/k=vb) E ⟨cb,.func (.func 51) #[] #[.pointer (some ⟨kb,0,none⟩),.pointer (some ⟨vb,0,none⟩)],key,false⟩ ⟨key,insL key val,false⟩ where
 key:=rfl
 jn:=rfl
 ks:=I
 fn:=⟨_,_,rfl,enters_of Tryz.func51 (by kernel_rfl) rfl,λ n u1 u2 u3 W B H Q T Y hs A u=>by
  have k1:W.cell? ⟨kb,0,none⟩=some (.string key):=by rw[<-K];unfold World.cell?;rw[H kb (.inl rfl)]
  have k2:W.cell? ⟨vb,0,none⟩=some (.string val):=by rw[<-O];unfold World.cell?;rw[H vb (.inr rfl)]
  exact zub9 n u1 u2 u3 key val kb vb W T Y hs A u k1 k2 (Q vb (.inr rfl))⟩
 sz:=λ n h A u=>zxb9 I hv h A u
def zhs9(x:Int)(hx:(Lit.int .i64 x).wf=true)(key val:ByteArray)(ak:key.size<=4611686018427387904)(ao:val.size<=4611686018427387904)(w:World)(h:Tz U w t cc d M N a):
 Calls Tryz.prog 23 #[tp t,.int .i64 x,.string key,.string val] w λ e w'=>e=.returned (.tuple #[.int .i64 (putF a x key val).x,.int .i64 (putF a x key val).e])/\TzTo U w w' t cc d M N (putF a x key val).a:=by
 obtain⟨A,a5⟩:=exN (w.alloc (.cells #[.string key] 9))
 obtain⟨u,a6⟩:=exN (A.alloc (.cells #[.string val] 9))
 have s1:A.heap.size=w.heap.size+1:=by rw[<-a5];simp
 have s2:u.heap.size=w.heap.size+2:=by rw[<-a6];simp[s1]
 have b1:Below w.heap.size w A:=by rw[<-a5];exact za9 _ _
 have b2:Below A.heap.size A u:=by rw[<-a6];exact za9 _ _
 have E:=b1.trans (b2.mono b1.size)
 have g1:Rw 9 u w.heap.size [.string key]:=by
  have:Rw 9 A w.heap.size [.string key]:=by rw[<-a5];exact Rw.new _ _ _
  exact this.tch (Tch.of_below (S:=λ _=>False) b2) (λ e=>e)
 have g2:Rw 9 u A.heap.size [.string val]:=by rw[<-a6];exact Rw.new _ _ _
 have k1:u.cell? ⟨w.heap.size,0,none⟩=some (.string key):=by rw[g1.cell];rfl
 have k2:u.cell? ⟨A.heap.size,0,none⟩=some (.string val):=by rw[g2.cell];rfl
 have HT:=za0 h
 have ah:=za0 E
 have ai:Hid (A.heap.size=w.heap.size+1/\u.heap.size=w.heap.size+2):=⟨s1,s2⟩
 obtain⟨PR,T⟩:=exH (putF a x key val)
 rw[T.o]
 have al:∀(fn:Fn)(first cap:Array Value)(w:World),(Instr.makeFunc fn first cap).run Tryz.prog w=.ok (.func fn first cap) w:=λ _ _ _ _=>rfl
 obtain⟨H,ae⟩:=exN key.toList.isEmpty
 have a1:eqs key eS=H:=by rw[<-ae];unfold eqs eS;simp
 have a2:Hid ((H=true\/24<key.size\/24<val.size)->PR=⟨0,1,a⟩):=λ hq=>by
  rw[<-T.o];unfold putF;rw[a1,if_pos hq]
 have a3:=za0 (h.to_below E)
 by_cases I:H=true\/24<key.size\/24<val.size
 .have K:=za0 (a2.o I)
  clear h b1 b2 E s1 s2 g1 g2 a2 T a1 hx
  go_enter Tryz.func23,Tryz.ntmps23
  by_cases q1:H=true
  .subst q1
   clear I
   go_wp2_with fail
   go_ret2
   rw[K.o]
   exact⟨rfl,a3.o⟩
  .have q2:H=false:=by cases H with|false=>rfl|true=>exact absurd rfl q1
   subst q2
   by_cases q3:24<key.size
   .have l1:decide ((24:Int)<(key.size:Int))=true:=by rw[zm0];omega
    have ab:=zo1 q3
    clear I q1
    go_wp2_with fail
    go_ret2
    rw[K.o]
    exact⟨rfl,a3.o⟩
   .have q4:24<val.size:=by rcases I with e|e|e<;>first|exact absurd e (by decide)|exact absurd e q3|exact e
    have l1:decide ((24:Int)<(key.size:Int))=false:=by rw[zn4];omega
    have ab:=zm1 q3
    have l2:decide ((24:Int)<(val.size:Int))=true:=by rw[zm0];omega
    have ag:=zo1 q4
    clear I q1
    go_wp2_with fail
    go_ret2
    rw[K.o]
    exact⟨rfl,a3.o⟩
 .have af:H=false:=by cases H with|false=>rfl|true=>exact absurd (.inl rfl) I
  subst af
  have aj:key.size<=24:=by omega
  have an:val.size<=24:=by omega
  have K:Hid (PR=madeF ⟨key,insL key val,false⟩ a x):=by show _=_;rw[<-T.o];unfold putF;rw[a1,if_neg I]
  have l1:decide ((24:Int)<(key.size:Int))=false:=by rw[zn4];omega
  have l2:decide ((24:Int)<(val.size:Int))=false:=by rw[zn4];omega
  have ab:decide (24<key.size)=false:=by rw[zn4];omega
  have ag:decide (24<val.size)=false:=by rw[zn4];omega
  obtain⟨O,a0⟩:=exN (u.alloc (.cells #[tp t,.string key,.func (.func 51) #[] #[.pointer (some ⟨w.heap.size,0,none⟩),.pointer (some ⟨A.heap.size,0,none⟩)],.bool false,.int .i64 0,.slice none 0 0,.slice none 0 0] 114))
  have Q:Below u.heap.size u O:=by rw[<-a0];exact za9 _ _
  have a4:=E.trans (Q.mono E.size)
  have a8:O.heap[u.heap.size]?=some (.cells #[tp t,.string key,.func (.func 51) #[] #[.pointer (some ⟨w.heap.size,0,none⟩),.pointer (some ⟨A.heap.size,0,none⟩)],.bool false,.int .i64 0,.slice none 0 0,.slice none 0 0] 114 (0,0)):=by rw[<-a0];exact heap_alloc_new u _
  have G3:=gz_new h a4 (cb:=u.heap.size) E.size ⟨u.heap.size,.func (.func 51) #[] #[.pointer (some ⟨w.heap.size,0,none⟩),.pointer (some ⟨A.heap.size,0,none⟩)],key,false⟩ rfl a8
  have a9:O.cell? ⟨w.heap.size,0,none⟩=some (.string key):=by rw[Q.cell (ze0 u ⟨w.heap.size,0,none⟩ k1)];exact k1
  have aa:O.cell? ⟨A.heap.size,0,none⟩=some (.string val):=by rw[Q.cell (ze0 u ⟨A.heap.size,0,none⟩ k2)];exact k2
  have s3:=Q.size
  have Y:=zjf9 ⟨key,insL key val,false⟩ (cloPut (cb:=u.heap.size) (kb:=w.heap.size) (vb:=A.heap.size) (by omega) (by omega) a9 aa) x hx O G3 (λ k hk=>⟨by omega,λ e=>by
   rcases e with e|e
   .have:=h.ul k e;omega
   .omega,rfl⟩)
  rw[<-K.o]at Y
  unfold chp at Y
  have ad:=za0 Y
  have a7:=za0 a4
  have ac:=za0 (zn2 E.size (zn6 u.heap.size))
  unfold tp at a0
  clear h b1 b2 E s1 s2 g1 g2 I a2 T a1 hx Y Q a4 a8 G3 a9 aa s3
  go_enter Tryz.func23,Tryz.ntmps23
  go_wp2_with fail
  try rw[a0]
  refine ad.o.mono ?_
  rintro e W4 ⟨rfl,z4⟩
  have HF:Hid (TzTo U w W4 t cc d M N PR.a):=by
   obtain⟨U',zz,tt,hu⟩:=z4
   have hs:=a7.o.size
   have am:=ac.o
   refine⟨U',zz,(Tch.of_below (S:=U) a7.o).trans tt (λ y hy e=>e.elim id (λ e=>by omega)),λ k hk=>?_⟩
   rcases hu k hk with(e|e)|e
   .exact .inl e
   .exact .inr (by omega)
   .exact .inr (by omega)
  clear z4
  go_wp2_with fail
  go_ret2
  exact⟨rfl,HF.o⟩
end
def eqs_eq{x y:ByteArray}(h:eqs x y=true):x=y:=by
 unfold eqs at h
 rw[Go.Lib.toList_data,Go.Lib.toList_data,beq_iff_eq]at h
 cases x;cases y
 simp only[ByteArray.mk.injEq]at *
 exact Array.ext' h
def zwe9{x y:ByteArray}:eqs x y=true↔x=y:=⟨eqs_eq,λ h=>by subst h;unfold eqs;simp⟩
section
variable {σ:Type} {D:WD σ}
def zrv9{E:σ->Bool}{rec:σ->List Int->Int->DR σ}(u:σ->Prop)(A:∀s z k,u s->u (rec s z k).s):∀(H:List Int)(s:σ)(z:List Int),u s->u (goF E rec H s z).s
 | [],s,z,h=>h
 | k::r,s,z,h=>by
  unfold goF
  split
  .exact h
  .split
   .exact A s z k h
   .exact zrv9 u A r _ _ (A s z k h)
def zis9{a:AS}(A:∀x,(a.V x).1=0->Vk (a.V x).2)(u:σ->Prop)(E:∀s x n,Vk n->u s->u (D.st s x n).1):∀(f lv:Nat)(s:σ)(z:List Int)(x:Int),u s->u (downF D a f lv s z x).s
 | 0,lv,s,z,x,h=>by unfold downF;split<;>exact h
 | f+1,lv,s,z,x,h=>by
  unfold downF
  split
  .exact h
  .split
   .exact h
   .rename_i h0
    refine zrv9 u (λ s z k H=>zis9 A u E f (lv+1) s z k H) _ _ _ (E s x _ ?_ h)
    unfold look at h0 |-
    split
    .rename_i hl
     rw[if_pos hl]at h0
     exact absurd (by decide) h0
    .rename_i hl
     rw[if_neg hl]at h0
     exact A x (by simpa using h0)
def zpr9{a:AS}(A:∀x,(a.V x).1=0->Vk (a.V x).2)(u:σ->Prop)(E:∀s x n,Vk n->u s->u (D.st s x n).1)(s:σ)(x:Int)(h:u s):u (fromF D a s x).s:=by
 unfold fromF
 split
 .exact h
 .exact zis9 A u E 16 1 s [] x h
end
def zps9{a:AS}(H:∀x,(a.V x).1=0->Vk (a.V x).2)(x:Int)(key:ByteArray)(h:(getF a x key).s.2=true):key.size<=24:=by
 refine zpr9 H (λ s=>s.2=true->key.size<=24) (λ s y n I A=>?_) (eS,false) x (λ e=>by cases e) h
 intro u
 unfold getW at u
 simp only at u
 split at u
 .rename_i hl
  split at u
  .rename_i hk
   have E:=(zu9.1 I.may).2.2.1 _ hk.1
   rw[<-eqs_eq hk.2]
   exact E.1
  .exact A u
 .exact A u
def cloDel{E:World}{cb kb:Nat}{key:ByteArray}(O:key.size<=1000)(H:E.cell? ⟨kb,0,none⟩=some (.string key)):
 Clo (λ k=>k=kb) E ⟨cb,.func (.func 54) #[] #[.pointer (some ⟨kb,0,none⟩)],key,true⟩ ⟨key,delL key,true⟩ where
 key:=rfl
 jn:=rfl
 ks:=O
 fn:=⟨_,_,rfl,enters_of Tryz.func54 (by kernel_rfl) rfl,λ n u1 u2 u3 W B I hB K Q T A u=>by
  have Y:W.cell? ⟨kb,0,none⟩=some (.string key):=by rw[<-H];unfold World.cell?;rw[I kb rfl]
  exact zti9 n u1 u2 u3 key kb W K Q T A u Y⟩
 sz:=λ n h A u=>zvx9 h
def zlu9{U:Nat->Prop}{t cc d M N:Nat}{a:AS}(x:Int)(hx:0<=x/\x<=65535)(key:ByteArray)(w:World)(h:Tz U w t cc d M N a):
 Calls Tryz.prog 24 #[tp t,.int .i64 x,.string key] w λ e w'=>e=.returned (.tuple #[.int .i64 (delF a x key).x,.bool (delF a x key).ok,.int .i64 (delF a x key).e])/\TzTo U w w' t cc d M N (delF a x key).a:=by
 have b0:∀(fn:Fn)(first cap:Array Value)(w:World),(Instr.makeFunc fn first cap).run Tryz.prog w=.ok (.func fn first cap) w:=λ _ _ _ _=>rfl
 obtain⟨E,ai⟩:=exH (delF a x key)
 rw[ai.o]
 obtain⟨g,hg⟩:=exH (getF a x key)
 have a5:Hid (E=if g.e≠0 then⟨0,false,g.e,a⟩else if g.s.2=true then⟨(madeF ⟨key,delL key,true⟩ a x).x,decide ((madeF ⟨key,delL key,true⟩ a x).e=0),(madeF ⟨key,delL key,true⟩ a x).e,(madeF ⟨key,delL key,true⟩ a x).a⟩else⟨x,false,0,a⟩):=by
  show E=_
  rw[<-ai.o]
  unfold delF
  rw[hg.o]
 have al:Hid (g.s.2=true->key.size<=24):=λ h2=>zps9 (λ y hy=>h.vok y hy) x key (by rw[hg.o];exact h2)
 obtain⟨W1,aj⟩:=exN (w.alloc (.cells #[.string key] 9))
 have b1:Below w.heap.size w W1:=by rw[<-aj];exact za9 _ _
 have k1:C1 W1 9 w.heap.size (.string key):=by rw[<-aj];exact C1.new _ _ _
 have c1:=k1.c
 have Y:=zhm9 x hx key W1 (h.below b1)
 rw[hg.o]at Y
 obtain⟨gv,ar⟩:=exH g.s.1
 obtain⟨gf,a2⟩:=exH g.s.2
 obtain⟨ge,Q⟩:=exH g.e
 rw[ar.o,a2.o,Q.o]at Y
 have aa:=za0 Y
 have a3:=za0 b1
 have ab:=za0 k1
 have ae:=za0 h.ul
 have HX:=za0 (zap9 (x:=x) (by omega) (by omega))
 clear h hx b1 k1 Y
 go_enter Tryz.func24,Tryz.ntmps24
 go_wp2_with fail
 refine aa.o.mono ?_
 rintro e u ⟨rfl,z2⟩
 have ao:=za0 z2
 have ag:Hid (TzTo U w u t cc d M N a):=TzTo.after (Tch.of_below a3.o) (λ _ e=>.inl e) z2
 have a6:C1 u 9 w.heap.size (.string key):=by
  obtain⟨U2,_,T,_⟩:=z2
  exact ab.o.tch T (λ e=>by have:=ae.o _ e;omega)
 have c2:=a6.c
 have ac:=za0 a6
 clear z2 a6 c1 aa
 by_cases a1:ge=0
 .subst a1
  cases gf
  .have H:Hid (E=⟨x,false,0,a⟩):=by
    show E=_
    rw[a5.o,if_neg (by rw[Q.o];simp),a2.o,if_neg (by decide)]
   go_wp2_with fail
   go_ret3
   rw[H.o]
   exact⟨rfl,ag.o⟩
  .have au:=al.o a2.o
   have H:Hid (E=⟨(madeF ⟨key,delL key,true⟩ a x).x,decide ((madeF ⟨key,delL key,true⟩ a x).e=0),(madeF ⟨key,delL key,true⟩ a x).e,(madeF ⟨key,delL key,true⟩ a x).a⟩):=by
    show E=_
    rw[a5.o,if_neg (by rw[Q.o];simp),a2.o,if_pos rfl]
   obtain⟨U2,y2,T,u2⟩:=ao.o
   obtain⟨W3,a0⟩:=exN (u.alloc (.cells #[.pointer (some ⟨t,0,none⟩),.string key,.func (.func 54) #[] #[.pointer (some ⟨w.heap.size,0,none⟩)],.bool true,.int .i64 0,.slice none 0 0,.slice none 0 0] 114))
   have O:Below u.heap.size u W3:=by rw[<-a0];exact za9 _ _
   have ah:W3.heap[u.heap.size]?=some (.cells #[tp t,.string key,.func (.func 54) #[] #[.pointer (some ⟨w.heap.size,0,none⟩)],.bool true,.int .i64 0,.slice none 0 0,.slice none 0 0] 114 (0,0)):=by rw[<-a0];exact heap_alloc_new u _
   have G3:=gz_new y2 O (cb:=u.heap.size) (zn6 _) ⟨u.heap.size,.func (.func 54) #[] #[.pointer (some ⟨w.heap.size,0,none⟩)],key,true⟩ rfl ah
   have k3:=ac.o.below O
   have av:=ac.o.lt
   have aw:=ab.o.lt
   have I:=zjf9 ⟨key,delL key,true⟩ (cloDel (cb:=u.heap.size) (kb:=w.heap.size) (by omega) k3.c) x HX.o W3 G3 (λ k hk=>⟨by rw[hk];exact k3.lt,λ e=>by
    rcases e with e|e
    .rcases u2 k e with q|q
     .have:=ae.o k q;omega
     .omega
    .omega,rfl⟩)
   obtain⟨mr,ax⟩:=exH (madeF ⟨key,delL key,true⟩ a x)
   have a4:=H.o
   rw[ax.o]at I a4
   have ad:=za0 a4
   unfold chp at I
   obtain⟨mx,a9⟩:=exH mr.x
   obtain⟨me,a7⟩:=exH mr.e
   rw[a9.o,a7.o]at I
   have am:=za0 I
   have ak:Hid (∀K A,TzTo (λ k=>U2 k\/k=u.heap.size) W3 K t cc d M N A->TzTo U w K t cc d M N A):=λ K A hz=>by
    obtain⟨U4,z4,t4,u4⟩:=hz
    have h1:=a3.o.size
    have h2:=T.size
    have h3:=O.size
    refine TzTo.after (w:=W1) (U:=U) (Tch.of_below a3.o) (λ _ e=>.inl e) ⟨U4,z4,(T.trans (Tch.of_below (S:=U) O) (λ _ _ e=>e)).trans t4 (λ y hy e=>?_),λ k hk=>?_⟩
    .rcases e with e|e
     .exact(u2 y e).elim id (λ q=>by omega)
     .omega
    .rcases u4 k hk with(e|e)|e
     .exact u2 k e
     .exact .inr (by omega)
     .exact .inr (by omega)
   have an:=za0 a0
   clear au y2 T u2 O ah G3 k3 av aw I a0 a4
   go_wp2_with fail
   rw[an.o]
   refine am.o.mono ?_
   rintro e K ⟨rfl,z4⟩
   have af:=za0 (ak.o K _ z4)
   clear z4
   by_cases a8:me=0
   .subst a8
    go_wp2_with fail
    go_ret3
    rw[ad.o,a9.o,a7.o]
    exact⟨rfl,af.o⟩
   .have az:(me==0)=false:=by rw[zl0];exact a8
    have aq:decide (me=0)=false:=zm1 a8
    have HD:Hid (decide (me=0)=false):=aq
    go_wp2_with fail
    go_ret3
    rw[ad.o]
    simp only[a9.o,a7.o]
    rw[HD.o]
    exact⟨rfl,af.o⟩
 .have ap:(ge==0)=false:=by rw[zl0];exact a1
  have ay:(ge != 0)=true:=by rw[bne,ap];rfl
  have H:Hid (E=⟨0,false,ge,a⟩):=by
   show E=_
   rw[a5.o,if_pos (by rw[Q.o];exact a1),Q.o]
  clear a1
  go_wp2_with fail
  go_ret3
  rw[H.o]
  exact⟨rfl,ag.o⟩
def zde9{l l':Nat->Bool}:∀(f lo hi:Nat),(∀t,t<hi->l t=l' t)->Lib.bsGo l f lo hi=Lib.bsGo l' f lo hi
 | 0,_,_,_=>rfl
 | f+1,lo,hi,h=>by
  unfold Lib.bsGo
  by_cases u:lo<hi
  .rw[if_pos u,if_pos u,h ((lo+hi) / 2) (by omega)]
   split
   .exact zde9 f _ _ h
   .exact zde9 f _ _ (λ t A=>h t (by omega))
  .rw[if_neg u,if_neg u]
def zlo9:∀x y z:List UInt8,Op.bytesLess x y=true->Op.bytesLess y z=true->Op.bytesLess x z=true
 | [],_,[],A,u=>by
  rename_i y
  cases y with
  | nil=>simp[Op.bytesLess]at A
  | cons=>simp[Op.bytesLess]at u
 | [],_,_::_,_,_=>rfl
 | _::_,[],_,A,_=>by simp[Op.bytesLess]at A
 | _::_,_::_,[],_,u=>by simp[Op.bytesLess]at u
 | a::x,b::y,c::z,A,u=>by
  unfold Op.bytesLess at A u |-
  simp only[Bool.or_eq_true,zp1,Bool.and_eq_true,beq_iff_eq]at A u |-
  rcases A with A|⟨rfl,A⟩
  .rcases u with u|⟨rfl,u⟩
   .exact .inl (UInt8.lt_trans A u)
   .exact .inl A
  .rcases u with u|⟨rfl,u⟩
   .exact .inl u
   .exact .inr ⟨rfl,zlo9 x y z A u⟩
def zje9{x y z:ByteArray}(u:lts x y=true)(A:lts y z=true):lts x z=true:=zlo9 _ _ _ u A
def Vk.rise{n:Nd}(h:Vk n){i j:Nat}(E:i<j)(hj:j<n.ks.length):lts (kA n i) (kA n j)=true:=by
 induction j with
 | zero=>omega
 | succ j A=>
  have u:=((zu9.1 h.may).2.2.1 (j+1) hj).2.1 (by omega)
  rw[show j+1-1=j from rfl]at u
  by_cases e:i=j
  .rw[e];exact u
  .exact zje9 (A (by omega) (by omega)) u
def bsF_no(n:Nd)(tx:ByteArray)(L:Nat):∀t,plc { n with lf:=true } tx L<=t->t<L->lts (kA n t) tx=false:=by
 induction L with
 | zero=>intro t _ h;omega
 | succ L A=>
  intro t u E
  unfold plc at u
  simp only[if_true]at u
  split at u
  .omega
  .rename_i hf
   by_cases e:t=L
   .rw[e]
    have:lts (kA n L) tx≠true:=hf
    simpa using this
   .exact A t u (by omega)
def zvo9(n:Nd)(tx:ByteArray)(L:Nat):0<plc { n with lf:=true } tx L->lts (kA n (plc { n with lf:=true } tx L-1)) tx=true:=by
 induction L with
 | zero=>intro h;exact absurd h (Nat.lt_irrefl 0)
 | succ L u=>
  intro h
  unfold plc at h |-
  simp only[if_true]at h |-
  split
  .rename_i hf;exact hf
  .rename_i hf
   rw[if_neg hf]at h
   exact u h
def bs_is{n:Nd}(h:Vk n)(tx:ByteArray):Lib.bsGo (λ t=>Op.bytesLess (kA n t).toList tx.toList) n.ks.length 0 n.ks.length=bsF n tx:=by
 have H:bsF n tx<=n.ks.length:=plc_le _ _ _
 rw[zde9 (l':=λ t=>decide (t<bsF n tx)) n.ks.length 0 n.ks.length (λ t u=>?_)]
 .exact Lib.bsGo_spec _ (bsF n tx) (λ t u=>zo1 u) (λ t u=>zm1 (by omega)) _ _ _ (by omega) (zn7 _) H
 .show lts (kA n t) tx=_
  by_cases e:t<bsF n tx
  .rw[zo1 e]
   have A:=zvo9 n tx n.ks.length (by unfold bsF at e;omega)
   by_cases E:t=bsF n tx-1
   .rw[E];exact A
   .exact zje9 (h.rise (i:=t) (j:=bsF n tx-1) (by omega) (by omega)) A
  .rw[zm1 e]
   exact bsF_no n tx n.ks.length t (by unfold bsF at e;omega) u
def zta9(n:Nd)(u1 u2 u3:Value)(from_ tx:ByteArray)(w:World)(h:Nn w n u1 u2 u3)(hv:Vk n):
 Calls Tryz.prog 46 #[nod n.lf u1 u2 u3,.string from_,.string tx] w λ e w'=>e=.returned (.tuple #[.int .i64 (fstF n from_ tx:Int),.int .i64 (endF n tx:Int)])/\Below w.heap.size w w':=by
 obtain⟨a1,c1,a2,c2,a3,c3,rfl,rfl,rfl,⟨l1,l2,l3,l4,l5,l6⟩,_,_,_⟩:=h.o
 have hL:=hv.len
 have ai:=hv.pos
 have ak:=za0 (bs_is hv tx)
 obtain⟨u,A⟩:=exH n.ks.length
 obtain⟨L2,ac⟩:=exH n.vs.length
 obtain⟨L3,ad⟩:=exH n.kd.length
 obtain⟨lf,ag⟩:=exH n.lf
 rw[A.o,ac.o,ad.o]at h
 rw[A.o]at ai hL l1
 rw[A.o,ac.o,ad.o,ag.o]
 obtain⟨p,hp⟩:=exH (plc n from_ u)
 have ah:=plc_le n from_ u
 rw[hp.o]at ah
 obtain⟨q,hq⟩:=exH (bsF n tx)
 have aq:q<=u:=by rw[<-hq.o,<-A.o];exact plc_le _ _ _
 obtain⟨W1,ae⟩:=exN (w.alloc (.cells #[.bool lf,.slice a1 u c1,.slice a2 L2 c2,.slice a3 L3 c3] 93))
 have b1:Below w.heap.size w W1.drew:=by rw[<-ae];exact(za9 _ _).drew
 have V1:Nb W1.drew 93 w.heap.size lf (.slice a1 u c1) (.slice a2 L2 c2) (.slice a3 L3 c3):=by rw[<-ae];exact nb_new _ _ _ _ _ _
 have h1:=h.below b1
 have PL:=zcx9 n _ _ _ from_ W1.drew h1 hv.sm
 rw[ag.o,A.o,hp.o]at PL
 have am:=za0 PL
 have al:=za0 h1
 have a8:=za0 b1
 have O:=V1
 obtain⟨em,an⟩:=exN tx.toList.isEmpty
 have af:eqs tx eS=em:=by rw[<-an];unfold eqs eS;simp
 have aa:=za0 af
 unfold nod
 clear h hv PL b1 V1 h1 af
 go_enter Tryz.func46,Tryz.ntmps46
 go_wp2_with fail
 have ap:Tryz.prog.follows .mixedOrders=true:=by kernel_rfl
 refine beginW (S:=λ w'=>Nb w' 93 w.heap.size lf (.slice a1 u c1) (.slice a2 L2 c2) (.slice a3 L3 c3)) (t:=7) ap ?_
 refine tkW 0 (some 10) (.load 93 (.tmp 3)) (nod lf (.slice a1 u c1) (.slice a2 L2 c2) (.slice a3 L3 c3)) ?hy O ?_
 case hy=>
  rintro o E w' H
  have q0:=H.c0;have q1:=H.c1;have q2:=H.c2;have q3:=H.c3
  unfold nod
  go_simp
 simp only[zw]
 refine tkW 1 (some 11) (.move (.tmp 1)) (Value.string from_) (by rintro o E w' H;go_simp) O ?_
 simp only[zw]
 refine tkW 3 (some 13) (.fieldAddr 93 (.tmp 3) 1) (Value.pointer (some ⟨w.heap.size,1,none⟩)) (by rintro o E w' H;go_simp) O ?_
 simp only[zw]
 refine tkW 4 (some 14) (.load 91 (.tmp 13)) (Value.slice a1 u c1) ?hy O ?_
 case hy=>
  rintro o E w' H
  have q1:=H.c1
  go_simp
 simp only[zw]
 refine tkW 5 (some 15) (.call { callee:=.builtin .len,args:=#[.tmp 14],argTypes:=#[91] }) (Value.int .i64 (u:Int)) (by rintro o E w' H;go_simp) O ?_
 simp only[zw]
 refine rdW 2 (some 12) (.call { callee:=.value (.func 42),args:=#[.tmp 10,.tmp 11],argTypes:=#[93,9] }) ?_
 rintro o K Q E hg I
 refine zg9 (enters_of Tryz.func42 (by kernel_rfl) rfl) E (vs:=#[nod lf (.slice a1 u c1) (.slice a2 L2 c2) (.slice a3 L3 c3),.string from_]) (by kernel_rfl) am.o ?_
 rintro e W2 ⟨rfl,b2⟩
 refine⟨_,rfl,?_⟩
 rw[Q]
 have a0:=O.below b2
 have ab:=za0 (al.o.below b2)
 have a4:Hid (Below w.heap.size w W2):=a8.o.trans (b2.mono a8.o.size)
 refine I _ _ (λ _=>a0) ?_
 clear E Q hg I b2
 simp only[zw]
 refine rdW 6 (some 8) (.assign (.tmp 12)) ?_
 rintro o K Q E hg I
 refine stepY (v:=Value.int .i64 (p:Int)) ?hy ?_
 case hy=>go_simp
 rw[Q]
 refine I _ _ (λ _=>a0) ?_
 clear E Q hg I
 simp only[zw]
 refine rdW 7 (some 9) (.assign (.tmp 15)) ?_
 rintro o K Q E hg I
 refine stepY (v:=Value.int .i64 (u:Int)) ?hy ?_
 case hy=>go_simp
 rw[Q]
 refine I _ _ (λ e=>absurd rfl e) ?_
 clear E Q hg I
 simp only[zw]
 refine doneW (by kernel_rfl) ?_ _
 have m1:=a0.c1
 cases em
 .have HF:Hid (endF n tx=q/\fstF n from_ tx=min p q):=by
   have e:endF n tx=q:=by unfold endF;rw[aa.o,if_neg (by decide),hq.o]
   exact⟨e,by unfold fstF;rw[A.o,hp.o,e]⟩
  obtain⟨kb,ko,rfl,_⟩:=ab.o.key (i:=0) (by rw[A.o];exact ai)
  have BS:=Any2.slices_BinarySearch_string Tryz.bsS kb ko u c1 (λ j=>kA n j) tx W2 (by omega) (λ j hj=>by
   obtain⟨_,_,e,c⟩:=ab.o.key (i:=j) (by rw[A.o];exact hj)
   cases e
   exact c)
  have a5:=ak.o
  rw[A.o,hq.o]at a5
  rw[a5]at BS
  obtain⟨fd,ao⟩:=exH (decide (q<u/\kA n q=tx))
  rw[ao.o]at BS
  have aj:=za0 BS
  clear BS O a0 a5
  go_wp2_with fail
  refine aj.o.mono ?_
  rintro e W3 ⟨rfl,d3,rfl⟩
  have a9:Hid (Below w.heap.size w (W2.drewN d3)):=a4.o.trans (belowN a4.o.size d3)
  by_cases a7:p<=q
  .have e1:min p q=p:=Nat.min_eq_left a7
   have hm:∀(W:World) T Y,(Builtin.min_ T Y #[.int .i64 (p:Int),.int .i64 (q:Int)]).run Tryz.prog W=.ok (.int .i64 (p:Int)) W:=λ W T Y=>by rw[run_min_int2,if_neg (by omega)]
   have a6:Hid (fstF n from_ tx=p):=by show _=_;rw[HF.o.2,e1]
   clear e1 a7
   go_wp2_with fail
   go_ret2
   rw[HF.o.1,a6.o]
   exact⟨rfl,a9.o⟩
  .have e1:min p q=q:=Nat.min_eq_right (by omega)
   have hm:∀(W:World) T Y,(Builtin.min_ T Y #[.int .i64 (p:Int),.int .i64 (q:Int)]).run Tryz.prog W=.ok (.int .i64 (q:Int)) W:=λ W T Y=>by rw[run_min_int2,if_pos (by omega)]
   have a6:Hid (fstF n from_ tx=q):=by show _=_;rw[HF.o.2,e1]
   clear e1 a7
   go_wp2_with fail
   go_ret2
   rw[HF.o.1,a6.o]
   exact⟨rfl,a9.o⟩
 .have HF:Hid (endF n tx=u/\fstF n from_ tx=p):=by
   have e:endF n tx=u:=by unfold endF;rw[aa.o,if_pos rfl,A.o]
   exact⟨e,by unfold fstF;rw[A.o,hp.o,e];exact Nat.min_eq_left ah⟩
  have hm:∀(W:World) T Y,(Builtin.min_ T Y #[.int .i64 (p:Int),.int .i64 (u:Int)]).run Tryz.prog W=.ok (.int .i64 (p:Int)) W:=λ W T Y=>by rw[run_min_int2,if_neg (by omega)]
  clear O a0
  go_wp2_with fail
  go_ret2
  rw[HF.o.1,HF.o.2]
  exact⟨rfl,a4.o⟩
def C1.ne{w:World}{T A:TypeId}{b E:Nat}{v I:Value}(h:C1 w T b v)(u:C1 w A E I)(H:T≠A):b≠E:=λ e=>by
 subst e
 unfold C1 at h u
 rw[h]at u
 simp at u
 exact H u.2
def C1.nbox{w:World}{T A:TypeId}{b E:Nat}{v:Value}{C:Array Value}(h:C1 w T b v)(u:w.heap[E]?=some (.cells C A (0,0)))(H:T≠A):b≠E:=λ e=>by
 subst e
 unfold C1 at h
 rw[h]at u
 simp at u
 exact H u.2
def zqt9(n:Nd)(u1 u2 u3:Value)(x:Int)(from_ tx:ByteArray)(most:Nat)(hm:most<=9223372036854775807)(fb tb nb mb wb t:Nat)(fv:Value)(m:Option Nat)(s:List En×Bool)(hs:s.1.length<=15728640)(w:World)(h:Nn w n u1 u2 u3)(hv:Vk n)(v0:Value)(hf:C1 w 9 fb (.string from_))(ht:C1 w 9 tb (.string tx))(hb:C1 w 35 nb v0)(H:OwE 0 w v0 s.1)(ay:C1 w 3 mb (.int .i64 (most:Int)))(ao:w.heap[wb]?=some (.cells #[tp t,fv,.bool s.2,.map m] 90 (0,0)))(b5:∀j,(u1.ownBlock=some j\/u2.ownBlock=some j\/u3.ownBlock=some j)->¬(j=nb\/v0.ownBlock=some j)/\j≠wb):
 Calls Tryz.prog 45 #[.int .i64 x,nod n.lf u1 u2 u3,.pointer (some ⟨fb,0,none⟩),.pointer (some ⟨tb,0,none⟩),.pointer (some ⟨nb,0,none⟩),.pointer (some ⟨mb,0,none⟩),.pointer (some ⟨wb,0,none⟩)] w λ e w'=>
  ∃r,e=.returned r/\∃v',C1 w' 35 nb v'/\OwE 0 w' v' ((scanW from_ tx most).st s x n).1.1/\w'.heap[wb]?=some (.cells #[tp t,fv,.bool ((scanW from_ tx most).st s x n).1.2,.map m] 90 (0,0))/\Tch (λ y=>y=nb\/y=wb\/v0.ownBlock=some y) w w'/\(∀y,v'.ownBlock=some y->v0.ownBlock=some y\/w.heap.size<=y)/\RdV w' r (nums ((scanW from_ tx most).st s x n).2)/\(∀j,r.ownBlock=some j->u3.ownBlock=some j):=by
 obtain⟨a1,c1,a2,c2,a3,c3,rfl,rfl,rfl,⟨l1,l2,l3,l4,l5,l6⟩,_,_,_⟩:=h.o
 have hL:=hv.len
 have BW:=λ W hb=>zta9 n _ _ _ from_ tx W (h.below hb) hv
 obtain⟨L1,a7⟩:=exH n.ks.length
 obtain⟨L2,ag⟩:=exH n.vs.length
 obtain⟨L3,ad⟩:=exH n.kd.length
 obtain⟨lf,ak⟩:=exH n.lf
 rw[a7.o,ag.o,ad.o]at h b5 hL
 rw[ad.o]at l5
 rw[a7.o,ag.o,ad.o,ak.o]
 obtain⟨va,vc,cd⟩:=H.long
 obtain⟨a0,di⟩:=exH s.1.length
 rw[di.o]at cd
 subst cd
 obtain⟨I,aw⟩:=exH (fstF n from_ tx)
 obtain⟨Y,av⟩:=exH (endF n tx)
 have ai:I<=Y/\Y<=L1:=by
  rw[<-aw.o,<-av.o,<-a7.o]
  refine⟨Nat.min_le_right _ _,?_⟩
  unfold endF
  split
  .exact zn6 _
  .exact plc_le _ _ _
 obtain⟨W1,b4⟩:=exN (w.alloc (.cells #[.bool lf,.slice a1 L1 c1,.slice a2 L2 c2,.slice a3 L3 c3] 93))
 have b1:Below w.heap.size w W1:=by rw[<-b4];exact za9 _ _
 have V1:Nb W1 93 w.heap.size lf (.slice a1 L1 c1) (.slice a2 L2 c2) (.slice a3 L3 c3):=by rw[<-b4];exact nb_new _ _ _ _ _ _
 have BT:=BW W1 b1
 rw[ak.o,a7.o,ag.o,ad.o,aw.o,av.o]at BT
 unfold nod at BT |-
 have bf:=za0 BT
 have f1:=(hf.below b1).c
 have t1:=(ht.below b1).c
 have dr:=V1.c0
 have ds:=V1.c1
 have dt:=V1.c2
 have du:=V1.c3
 have HV:=za0 hv
 have HH:=za0 h
 have bd:=za0 b1
 have cy:=za0 V1
 have cf:=za0 hb
 have cs:=za0 H
 have cn:=za0 ay
 have bg:=za0 ao
 have bc:=za0 b5
 have bm:Hid (s.1.length<=15728640/\L1<=240):=⟨hs,hL.1⟩
 have af:=za0 ai
 have cg:=za0 l5
 have dh:=hb.lt
 have dl:=(zd0.1 ao).1
 have c9:=H.lt
 have aq:Hid (¬(w.heap.size=nb\/(Value.slice va a0 vc).ownBlock=some w.heap.size)):=λ e=>e.elim (λ e=>by omega) (λ e=>by have:=c9 _ e;omega)
 have az:Hid (¬w.heap.size=wb):=λ e=>by omega
 have co:Hid (¬(mb=nb\/(Value.slice va a0 vc).ownBlock=some mb)):=λ e=>e.elim (ay.ne hb (by decide)) (H.ne ay (by decide))
 have cz:Hid (¬(wb=nb\/(Value.slice va a0 vc).ownBlock=some wb)):=λ e=>e.elim (λ e=>hb.nbox ao (by decide) e.symm) (H.ne ao (by decide))
 clear h hv hs hf ht hb H ay ao b5 hL l5 l1 l2 l3 l4 l6 BW b1 V1 BT dh dl c9 ai
 go_enter Tryz.func45,Tryz.ntmps45
 go_wp2_with fail
 refine bf.o.mono ?_
 rintro e W2 ⟨rfl,b2⟩
 have ac:=bd.o.trans (b2.mono bd.o.size)
 have ar:=za0 (HH.o.below ac)
 have am:=za0 (cy.o.below b2)
 have bh:=za0 (cf.o.below ac)
 have bo:=za0 (cs.o.below ac)
 have bn:=za0 (cn.o.below ac)
 have b6:W2.heap[wb]?=some (.cells #[tp t,fv,.bool s.2,.map m] 90 (0,0)):=by rw[ac.block wb (zd0.1 bg.o).1];exact bg.o
 have ae:Hid (∀j,((Value.slice a1 L1 c1).ownBlock=some j\/(Value.slice a2 L2 c2).ownBlock=some j\/(Value.slice a3 L3 c3).ownBlock=some j)->¬(j=nb\/(Value.slice va a0 vc).ownBlock=some j)):=λ j hj=>(bc.o j hj).1
 have be:=za0 ac
 have b0:Hid (∀(wr:World)(vk:Value)(lk:List En),C1 wr 35 nb vk->OwE 0 wr vk lk->Tch (λ y=>y=nb\/(Value.slice va a0 vc).ownBlock=some y) W2 wr->(∀y,vk.ownBlock=some y->(Value.slice va a0 vc).ownBlock=some y\/W2.heap.size<=y)->∀E:Bool,
  wr.cell? ⟨wb,2,none⟩=some (.bool s.2)/\wr.frozen? ⟨wb,2,none⟩=false/\C1 (wr.setCell ⟨wb,2,none⟩ (.bool E)) 35 nb vk/\OwE 0 (wr.setCell ⟨wb,2,none⟩ (.bool E)) vk lk/\(wr.setCell ⟨wb,2,none⟩ (.bool E)).heap[wb]?=some (.cells #[tp t,fv,.bool E,.map m] 90 (0,0))/\Tch (λ y=>y=nb\/y=wb\/(Value.slice va a0 vc).ownBlock=some y) w (wr.setCell ⟨wb,2,none⟩ (.bool E))/\(∀y,vk.ownBlock=some y->(Value.slice va a0 vc).ownBlock=some y\/w.heap.size<=y)/\RdV (wr.setCell ⟨wb,2,none⟩ (.bool E)) (.slice a3 L3 c3) (nums n.kd)):=by
  intro wr vk lk h1 h2 h3 h4 E
  have an:wr.heap[wb]?=some (.cells #[tp t,fv,.bool s.2,.map m] 90 (0,0)):=by rw[h3.block wb (zd0.1 b6).1 cz.o];exact b6
  have tA:=tch_at wr wb 2 (.bool E)
  have dz:=be.o.size
  refine⟨by rw[cell_of_row wr wb 2 _ _ (0,0) an];rfl,frozen_of_row wr wb 2 _ _ an,h1.tch tA (h1.nbox an (by decide)),h2.tch tA (λ y hy e=>h2.ne an (by decide) (e▸hy)),heap_setCell_same wr wb 2 _ _ _ an,((Tch.of_below (S:=λ y=>y=nb\/y=wb\/(Value.slice va a0 vc).ownBlock=some y) be.o).trans h3 (λ y hy e=>e.elim .inl (λ e=>.inr (.inr e)))).trans tA (λ y hy e=>.inr (.inl e)),λ y hy=>(h4 y hy).imp id (λ q=>by omega),?_⟩
  exact(ar.o.d.tch h3 (λ y hy=>ae.o y (.inr (.inr hy)))).tch tA (λ y hy e=>(bc.o y (.inr (.inr hy))).2 e)
 have m0:=am.o.c0
 clear b2 ac b6 bf dr ds dt du f1 t1 b4
 cases lf
 .have au:Hid ((scanW from_ tx most).st s x n=((s.1,decide (s.1.length=most)),(n.kd.take Y).drop I)):=by
   show _=_
   unfold scanW
   simp only[ak.o,aw.o,av.o,Bool.false_eq_true,if_false]
  obtain⟨wr,dm⟩:∃q,q=W2:=⟨_,rfl⟩
  obtain⟨O,dc⟩:∃q,q=va:=⟨_,rfl⟩
  obtain⟨u,dg⟩:∃q,q=a0:=⟨_,rfl⟩
  obtain⟨Q,de⟩:∃q,q=vc:=⟨_,rfl⟩
  subst dm dc dg de
  have A:C1 wr 35 nb (.slice O u Q)/\OwE 0 wr (.slice O u Q) s.1/\Tch (λ y=>y=nb\/(Value.slice O u Q).ownBlock=some y) wr wr/\(∀y,(Value.slice O u Q).ownBlock=some y->(Value.slice O u Q).ownBlock=some y\/wr.heap.size<=y):=⟨bh.o,bo.o,Tch.refl _ _,λ y hy=>.inl hy⟩
  have g1:=A.1.c
  have dn:=bn.o.c
  have d6:L1=L3:=by rw[<-a7.o,<-ad.o];exact(HV.o.inner ak.o).2.1.symm
  subst d6
  obtain⟨E,aa⟩:=exH (decide ((s.1).length=most))
  have ab:(s.1).length=u:=by obtain⟨_,_,e⟩:=A.2.1.long;cases e;rfl
  have q1:decide ((u:Int)=(most:Int))=E:=by
   rw[<-aa.o,ab]
   by_cases q:u=most
   .rw[zo1 q,zo1 (by omega)]
   .rw[zm1 q,zm1 (by omega)]
  have q2:((u:Int)==(most:Int))=E:=by
   rw[<-q1]
   by_cases q:(u:Int)=(most:Int)
   .rw[zo1 q,beq_iff_eq];exact q
   .rw[zm1 q,zl0];exact q
  have hE:=b0.o wr (.slice O u Q) _ A.1 A.2.1 A.2.2.1 A.2.2.2 E
  obtain⟨X,hX⟩:=exN (wr.setCell ⟨wb,2,none⟩ (.bool E))
  rw[hX]at hE
  have e2:=hE.1
  have e3:=hE.2.1
  have a5:=za0 hE.2.2
  have V9:=am.o.tch A.2.2.1 aq.o
  have t9:Tch (λ y=>y=wb) wr X:=by rw[<-hX];exact tch_at _ _ _ _
  have a6:=V9.tch t9 az.o
  have n0:=a6.c0
  have n3:=a6.c3
  clear hE A V9 a6 t9 ab
  have SL:=λ W=>partIV a3 L1 c3 I Y af.o.1 af.o.2 cg.o W
  obtain⟨e5,e6,ca⟩:=zgc9 (b:=a3) I Y c3
  have b9:∀j,(sliced a3 I Y c3 1).ownBlock=some j->(Value.slice a3 L1 c3).ownBlock=some j:=λ j hj=>zdx9 hj
  have bb:RdV X (sliced a3 I Y c3 1) (nums ((n.kd.take Y).drop I)):=by
   have h4:=a5.o.2.2.2.2.2
   have d4:L1=(nums n.kd).length:=by rw[ze9,ad.o]
   rw[d4]at h4
   have:=zan9 h4 I Y af.o.1 (by rw[ze9,ad.o];exact af.o.2)
   have e4:((nums n.kd).drop I).take (Y-I)=nums ((n.kd.take Y).drop I):=by
    rw[nums,nums,List.map_drop,List.map_take,List.drop_take]
   rw[e4]at this
   exact this
  obtain⟨df,d7⟩:=exH (Y-I)
  rw[ca,d7.o]at SL b9 bb
  have cq:=za0 b9
  have ct:=za0 bb
  clear b9 bb ca
  go_wp2_with fail
  try rw[hX]
  go_ret
  rw[au.o,aa.o]
  exact⟨_,rfl,_,a5.o.1,a5.o.2.1,a5.o.2.2.1,a5.o.2.2.2.1,a5.o.2.2.2.2.1,ct.o,cq.o⟩
 .have ba:=HV.o.pos
  rw[a7.o]at ba
  have d5:L1=L2:=by rw[<-a7.o,<-ag.o];exact(HV.o.leaf ak.o).1.symm
  subst d5
  obtain⟨kb,ko,rfl,c4⟩:=ar.o.key (i:=0) (by rw[a7.o];exact ba)
  obtain⟨vb,vo,rfl,c5⟩:=ar.o.val (i:=0) (by rw[ag.o];exact ba)
  have cw:=za0 (ze0 W2 ⟨kb,ko+0,none⟩ c4)
  have cx:=za0 (ze0 W2 ⟨vb,vo+0,none⟩ c5)
  clear c4 c5
  obtain⟨a4,hent⟩:=exH (entF n I Y)
  have ap:Hid (a4.length=Y-I):=by show _=_;rw[<-hent.o];unfold entF;simp
  have ch:Hid (∀k,k<Y-I->a4.take (k+1)=a4.take k++[(kA n (I+k),vA n (I+k))]):=λ k hk=>by
   have h1:a4[k]?=some (kA n (I+k),vA n (I+k)):=by
    rw[<-hent.o]
    unfold entF
    rw[zc1,List.getElem?_range' (by omega)]
    simp
   rw[List.take_add_one,h1]
   rfl
  have au:Hid ((scanW from_ tx most).st s x n=((s.1++a4.take (most-s.1.length),decide ((s.1++a4.take (most-s.1.length)).length=most)),[])):=by
   show _=_
   unfold scanW
   simp only[ak.o,if_true,aw.o,av.o,hent.o]
  have bp:Hid (C1 W2 35 nb (.slice va a0 vc)/\OwE 0 W2 (.slice va a0 vc) (s.1++a4.take 0)/\Tch (λ y=>y=nb\/(Value.slice va a0 vc).ownBlock=some y) W2 W2/\(∀y,(Value.slice va a0 vc).ownBlock=some y->(Value.slice va a0 vc).ownBlock=some y\/W2.heap.size<=y)):=⟨bh.o,by rw[List.take_zero,List.append_nil];exact bo.o,Tch.refl _ _,λ y hy=>.inl hy⟩
  go_wp2_with fail
  go_loopw [12] (λ iv wr=>∃(k:Nat)(O:Option Addr)(u Q:Nat),k<=Y-I/\iv=.int .i64 ((I+k:Nat):Int)/\(0<k->s.1.length+k<=most)/\Hid (C1 wr 35 nb (.slice O u Q)/\OwE 0 wr (.slice O u Q) (s.1++a4.take k)/\Tch (λ y=>y=nb\/(Value.slice va a0 vc).ownBlock=some y) W2 wr/\(∀y,(Value.slice O u Q).ownBlock=some y->(Value.slice va a0 vc).ownBlock=some y\/W2.heap.size<=y))) (λ iv _=>Y-(intOf iv).toNat)
  case atStart=>exact⟨0,va,a0,vc,zn7 _,rfl,λ e=>absurd e (Nat.lt_irrefl 0),bp⟩
  case round=>
   clear bp
   obtain⟨k,O,u,Q,hk,rfl,aj,HI⟩:=hrel
   have A:=HI.o
   have g1:=A.1.c
   have ai:=af.o
   have b8:=bm.o
   have ax:u=s.1.length+k:=by
    obtain⟨_,_,e⟩:=A.2.1.long
    have h1:(s.1++a4.take k).length=s.1.length+k:=by rw[zf0,zg0,ap.o];omega
    cases e
    rw[h1]
   have dn:=(bn.o.tch A.2.2.1 co.o).c
   obtain⟨i,hi⟩:=exN (I+k)
   rw[hi]
   have ci:=za0 hi
   have cj:=za0 ax
   have dw:=za0 aj
   have dv:=za0 hk
   by_cases h1:i<Y
   .have d1:decide ((i:Int)<(Y:Int))=true:=by rw[zm0];omega
    have d0:=zo1 h1
    by_cases h2:u<most
    .have d2:decide ((u:Int)<(most:Int))=true:=by rw[zm0];omega
     have d3:=zo1 h2
     obtain⟨lk,b7⟩:=exH (s.1++a4.take k)
     have Nr:=ar.o.tch A.2.2.1 (λ y hy=>ae.o y (.inl hy)) (λ y hy=>ae.o y (.inr (.inl hy))) (λ y hy=>ae.o y (.inr (.inr hy)))
     obtain⟨_,_,e1,ck⟩:=Nr.key (i:=i) (by rw[a7.o];omega)
     obtain⟨_,_,e2,cv⟩:=Nr.val (i:=i) (by rw[ag.o];omega)
     cases e1
     cases e2
     obtain⟨ky,c7⟩:=exH (kA n i)
     obtain⟨vl,ce⟩:=exH (vA n i)
     rw[c7.o]at ck
     rw[ce.o]at cv
     have Vr:=am.o.tch A.2.2.1 aq.o
     have cl:Hid (lk.length<=1000000000):=by
      show _<=_
      rw[<-b7.o,zf0,zg0,ap.o]
      omega
     have cm:Hid (lk++[(ky,vl)]=s.1++a4.take (k+1)):=by
      show _=_
      rw[ch.o k (by omega),hi,c7.o,ce.o,<-zv0,b7.o]
     have Ck:=A.1
     have Ok:=A.2.1
     rw[b7.o]at Ok
     have bk:=za0 Ck
     have cr:=za0 Ok
     have br:=za0 A.2.2.1
     have bl:=za0 A.2.2.2
     have bs:=za0 Vr
     have bi:=za0 ck
     have bj:=za0 cv
     have da:=za0 (Ok.ne Ck (by decide))
     have d8:=za0 (Ok.ne Vr (by decide))
     have d9:Hid ((Value.slice O u Q).ownBlock≠some kb):=λ e=>by
      have h3:=cw.o
      rcases A.2.2.2 kb e with q|q
      .exact ae.o kb (.inl rfl) (.inr q)
      .omega
     have db:Hid ((Value.slice O u Q).ownBlock≠some vb):=λ e=>by
      have h3:=cx.o
      rcases A.2.2.2 vb e with q|q
      .exact ae.o vb (.inr (.inl rfl)) (.inr q)
      .omega
     have hS:(wr.drew.cell? ⟨nb,0,none⟩=some (.slice O u Q)/\Nb wr.drew 93 w.heap.size true (.slice (some ⟨kb,ko,none⟩) L1 c1) (.slice (some ⟨vb,vo,none⟩) L1 c2) (.slice a3 L3 c3))/\(wr.drew.cell? ⟨kb,ko+i,none⟩=some (.string ky)/\wr.drew.cell? ⟨vb,vo+i,none⟩=some (.string vl)):=⟨⟨g1,Vr.below (Below.refl _ _).drew⟩,ck,cv⟩
     have bq:Hid (∀T,wr.drew.alloc (.cells #[.string ky,.string vl] 72)=T->((T.cell? ⟨nb,0,none⟩=some (.slice O u Q)/\Nb T 93 w.heap.size true (.slice (some ⟨kb,ko,none⟩) L1 c1) (.slice (some ⟨vb,vo,none⟩) L1 c2) (.slice a3 L3 c3))/\(T.cell? ⟨kb,ko+i,none⟩=some (.string ky)/\T.cell? ⟨vb,vo+i,none⟩=some (.string vl)))/\T.cell? ⟨wr.drew.heap.size,0,none⟩=some (.string ky)/\T.cell? ⟨wr.drew.heap.size,1,none⟩=some (.string vl)/\OwE 0 T (.slice O u Q) lk/\Below wr.heap.size wr T):=λ T a8=>by
      have E:Below wr.heap.size wr T:=by rw[<-a8];exact(Below.refl _ _).drew.alloc (zn6 _) _
      have hb:=heap_alloc_new wr.drew (.cells #[.string ky,.string vl] 72)
      rw[a8]at hb
      exact⟨⟨⟨(bk.o.below E).c,bs.o.below E⟩,by rw[E.cell (ze0 wr ⟨kb,ko+i,none⟩ bi.o)];exact bi.o,by rw[E.cell (ze0 wr ⟨vb,vo+i,none⟩ bj.o)];exact bj.o⟩,by rw[cell_of_row T _ 0 _ _ (0,0) hb];rfl,by rw[cell_of_row T _ 1 _ _ (0,0) hb];rfl,cr.o.below E,E⟩
     have cu:Hid (∀(T X2:World) xa xl xc,wr.drew.alloc (.cells #[.string ky,.string vl] 72)=T->OwE 0 X2 (.slice xa xl xc) (lk++[(ky,vl)])->Tch (λ y=>(Value.slice O u Q).ownBlock=some y) T X2->Fsh T (.slice O u Q) (.slice xa xl xc)->((X2.cell? ⟨nb,0,none⟩=some (.slice O u Q)/\Nb X2 93 w.heap.size true (.slice (some ⟨kb,ko,none⟩) L1 c1) (.slice (some ⟨vb,vo,none⟩) L1 c2) (.slice a3 L3 c3))/\(X2.cell? ⟨kb,ko+i,none⟩=some (.string ky)/\X2.cell? ⟨vb,vo+i,none⟩=some (.string vl)))/\X2.cell? ⟨nb,0,none⟩=some (.slice O u Q)/\X2.frozen? ⟨nb,0,none⟩=false/\∀X3,X2.setCell ⟨nb,0,none⟩ (.slice xa xl xc)=X3->C1 X3 35 nb (.slice xa xl xc)/\OwE 0 X3 (.slice xa xl xc) (s.1++a4.take (k+1))/\Tch (λ y=>y=nb\/(Value.slice va a0 vc).ownBlock=some y) W2 X3/\(∀y,(Value.slice xa xl xc).ownBlock=some y->(Value.slice va a0 vc).ownBlock=some y\/W2.heap.size<=y)):=by
      intro T X2 xa xl xc a8 o2 t2 f2
      obtain⟨a9,_,_,_,E⟩:=bq.o T a8
      have C2:=(bk.o.below E).tch t2 da.o
      have e0:=br.o.size
      have hb:=E.size
      refine⟨⟨⟨C2.c,(bs.o.below E).tch t2 d8.o⟩,by rw[t2.cell (p:=⟨kb,ko+i,none⟩) (ze0 T ⟨kb,ko+i,none⟩ a9.2.1) d9.o];exact a9.2.1,by rw[t2.cell (p:=⟨vb,vo+i,none⟩) (ze0 T ⟨vb,vo+i,none⟩ a9.2.2) db.o];exact a9.2.2⟩,C2.c,C2.fz,λ X3 ah=>?_⟩
      have t3:Tch (λ y=>y=nb) X2 X3:=by rw[<-ah];exact tch_at _ _ _ _
      have xN:=o2.ne C2 (by decide)
      have fr:∀y,(Value.slice xa xl xc).ownBlock=some y->(Value.slice va a0 vc).ownBlock=some y\/W2.heap.size<=y:=λ y hy=>(f2 y hy).elim (bl.o y) (λ q=>.inr (by omega))
      refine⟨by rw[<-ah];exact C2.set _,by rw[<-cm.o];exact o2.tch t3 (λ y hy e=>xN (e▸hy)),((br.o.trans (Tch.of_below (S:=λ y=>y=nb\/(Value.slice va a0 vc).ownBlock=some y) E) (λ _ _ e=>e)).trans t2 (λ y hy e=>?_)).trans t3 (λ y hy e=>.inl e),fr⟩
      rcases bl.o y e with q|q
      .exact .inr q
      .omega
     have i0:(0:Int)<=(i:Int):=by omega
     have i1:(i:Int)<(L1:Int):=by omega
     clear A Nr Vr Ck Ok ck cv ax aj hk hi ai b8
     go_wp2_with fail
     have dq:Tryz.prog.follows .mixedOrders=true:=by kernel_rfl
     refine beginW (S:=λ w'=>(w'.cell? ⟨nb,0,none⟩=some (.slice O u Q)/\Nb w' 93 w.heap.size true (.slice (some ⟨kb,ko,none⟩) L1 c1) (.slice (some ⟨vb,vo,none⟩) L1 c2) (.slice a3 L3 c3))/\(w'.cell? ⟨kb,ko+i,none⟩=some (.string ky)/\w'.cell? ⟨vb,vo+i,none⟩=some (.string vl))) (t:=14) dq ?_
     refine tkW 0 (some 34) (.load 35 (.tmp 4)) (Value.slice O u Q) (by rintro o H w' ⟨⟨z1,z2⟩,⟨z3,z4⟩⟩;go_simp) hS ?_
     simp only[zw]
     refine tkW 1 (some 35) (.fieldAddr 93 (.tmp 8) 1) (Value.pointer (some ⟨w.heap.size,1,none⟩)) (by rintro o H w' ⟨⟨z1,z2⟩,⟨z3,z4⟩⟩;go_simp) hS ?_
     simp only[zw]
     refine tkW 2 (some 36) (.load 91 (.tmp 35)) (Value.slice (some ⟨kb,ko,none⟩) L1 c1) ?hy hS ?_
     case hy=>
      rintro o H w' ⟨⟨z1,z2⟩,⟨z3,z4⟩⟩
      have q1:=z2.c1
      go_simp
     simp only[zw]
     refine tkW 3 (some 37) (.move (.tmp 12)) (Value.int .i64 (i:Int)) (by rintro o H w' ⟨⟨z1,z2⟩,⟨z3,z4⟩⟩;go_simp) hS ?_
     simp only[zw]
     refine tkW 4 (some 38) (.indexAddr 91 (.tmp 36) (.tmp 37)) (Value.pointer (some ⟨kb,ko+i,none⟩)) (by rintro o H w' ⟨⟨z1,z2⟩,⟨z3,z4⟩⟩;go_simp) hS ?_
     simp only[zw]
     refine tkW 5 (some 39) (.load 9 (.tmp 38)) (Value.string ky) (by rintro o H w' ⟨⟨z1,z2⟩,⟨z3,z4⟩⟩;go_simp) hS ?_
     simp only[zw]
     refine tkW 6 (some 40) (.fieldAddr 93 (.tmp 8) 2) (Value.pointer (some ⟨w.heap.size,2,none⟩)) (by rintro o H w' ⟨⟨z1,z2⟩,⟨z3,z4⟩⟩;go_simp) hS ?_
     simp only[zw]
     refine tkW 7 (some 41) (.load 91 (.tmp 40)) (Value.slice (some ⟨vb,vo,none⟩) L1 c2) ?hy hS ?_
     case hy=>
      rintro o H w' ⟨⟨z1,z2⟩,⟨z3,z4⟩⟩
      have q1:=z2.c2
      go_simp
     simp only[zw]
     refine tkW 8 (some 42) (.move (.tmp 12)) (Value.int .i64 (i:Int)) (by rintro o H w' ⟨⟨z1,z2⟩,⟨z3,z4⟩⟩;go_simp) hS ?_
     simp only[zw]
     refine tkW 9 (some 43) (.indexAddr 91 (.tmp 41) (.tmp 42)) (Value.pointer (some ⟨vb,vo+i,none⟩)) (by rintro o H w' ⟨⟨z1,z2⟩,⟨z3,z4⟩⟩;go_simp) hS ?_
     simp only[zw]
     refine tkW 10 (some 44) (.load 9 (.tmp 43)) (Value.string vl) (by rintro o H w' ⟨⟨z1,z2⟩,⟨z3,z4⟩⟩;go_simp) hS ?_
     simp only[zw]
     refine tkW 11 (some 45) (.build 72 #[(0,.tmp 39),(1,.tmp 44)]) (Value.agg #[.string ky,.string vl]) (by rintro o H w' ⟨⟨z1,z2⟩,⟨z3,z4⟩⟩;go_simp) hS ?_
     simp only[zw]
     refine rdW 12 (some 46) (.buildSlice 35 1 #[(0,.tmp 45)]) ?_
     rintro o K hd H hg hK
     refine zow9 (.tmp 45) H ky vl rfl ?_
     rw[hd]
     obtain⟨T,a8⟩:=exN (wr.drew.alloc (.cells #[.string ky,.string vl] 72))
     obtain⟨a9,bx,bz,O1,s1⟩:=bq.o T a8
     rw[a8]
     refine hK _ _ (λ _=>a9) ?_
     clear H hd hg hK hS
     have hS:=a9
     simp only[zw]
     refine rdW 13 (some 47) (.call { callee:=.builtin .append,args:=#[.tmp 34,.tmp 46],argTypes:=#[35,35] }) ?_
     rintro o K hd H hg hK
     refine zox9 (.tmp 34) (.tmp 46) H 0 (.slice O u Q) lk rfl O1 wr.drew.heap.size (ky,vl) rfl bx bz cl.o (zn7 _) ?_
     intro v' X2 o2 t2 f2
     rw[hd]
     obtain⟨xa,xl,xc,rfl⟩:∃a l c,v'=.slice a l c:=by obtain⟨a,c,e⟩:=o2.long;exact⟨_,_,_,e⟩
     obtain⟨c6,g2,h2,bt⟩:=cu.o T X2 xa xl xc a8 o2 t2 f2
     refine hK _ _ (λ _=>c6) ?_
     clear H hd hg hK hS a9 bx bz O1 s1 o2 t2 f2 a8
     simp only[zw]
     refine rdW 14 none (.store 35 (.tmp 4) (.tmp 47)) ?_
     rintro o K hd H hg hK
     refine zrg9 H rfl rfl g2 h2 ?_
     rw[hd]
     obtain⟨X3,ah⟩:=exN (X2.setCell ⟨nb,0,none⟩ (.slice xa xl xc))
     have bu:=za0 (bt X3 ah)
     rw[ah]
     refine hK _ _ (λ e=>absurd rfl e) ?_
     refine doneW (by kernel_rfl) ?_ _
     clear H hd hg hK c6 g2 h2 bt ah
     simp only[Act.put]
     have bw:Hid (k+1<=Y-I/\i+1=I+(k+1)/\(0<k+1->s.1.length+(k+1)<=most)/\Y-(i+1)<Y-i/\i<=240):=by
      have q1:=ci.o
      have q2:=cj.o
      have q3:=af.o
      have q4:=bm.o
      exact⟨by omega,by omega,λ _=>by omega,by omega,by omega⟩
     have dx:=bw.o.2.2.2.2
     have dj:=wk_nat (x:=(i:Int)+1) (t:=i+1) (by omega) (by omega)
     have dk:=zp9 (x:=(i:Int)+1) (t:=i+1) (by omega) (by omega)
     clear h1 h2
     go_wp2_with fail
     clear dj dk
     have al:=bw.o
     first
      | exact⟨⟨k+1,xa,xl,xc,al.1,by rw[<-al.2.1];rfl,al.2.2.1,bu⟩,by simp[intOf];omega⟩
      | (go_roundw
         case rel=>exact⟨k+1,xa,xl,xc,al.1,by rw[<-al.2.1];rfl,al.2.2.1,bu⟩
         case measure=>simp[intOf];omega)
    .have d2:decide ((u:Int)<(most:Int))=false:=by rw[zn4];omega
     have d3:=zm1 h2
     have b3:Hid (a4.take k=a4.take (most-s.1.length)):=by
      show _=_
      have:k=most-s.1.length:=by
       by_cases q:0<k
       .have:=aj q;omega
       .omega
      rw[this]
     rw[b3.o]at A
     obtain⟨E,aa⟩:=exH (decide ((s.1++a4.take (most-s.1.length)).length=most))
     have ab:(s.1++a4.take (most-s.1.length)).length=u:=by obtain⟨_,_,e⟩:=A.2.1.long;cases e;rfl
     have q1:decide ((u:Int)=(most:Int))=E:=by
      rw[<-aa.o,ab]
      by_cases q:u=most
      .rw[zo1 q,zo1 (by omega)]
      .rw[zm1 q,zm1 (by omega)]
     have q2:((u:Int)==(most:Int))=E:=by
      rw[<-q1]
      by_cases q:(u:Int)=(most:Int)
      .rw[zo1 q,beq_iff_eq];exact q
      .rw[zm1 q,zl0];exact q
     have hE:=b0.o wr (.slice O u Q) _ A.1 A.2.1 A.2.2.1 A.2.2.2 E
     obtain⟨X,hX⟩:=exN (wr.setCell ⟨wb,2,none⟩ (.bool E))
     rw[hX]at hE
     have e2:=hE.1
     have e3:=hE.2.1
     have a5:=za0 hE.2.2
     have V9:=am.o.tch A.2.2.1 aq.o
     have t9:Tch (λ y=>y=wb) wr X:=by rw[<-hX];exact tch_at _ _ _ _
     have a6:=V9.tch t9 az.o
     have n0:=a6.c0
     clear hE A V9 a6 t9 ab
     clear ax aj hk hi ai b8
     go_wp2_with fail
     try rw[hX]
     go_ret
     rw[au.o,aa.o]
     exact⟨_,rfl,_,a5.o.1,a5.o.2.1,a5.o.2.2.1,a5.o.2.2.2.1,a5.o.2.2.2.2.1,zaf9 _,λ j hj=>by cases hj⟩
   .have d1:decide ((i:Int)<(Y:Int))=false:=by rw[zn4];omega
    have d0:=zm1 h1
    have b3:Hid (a4.take k=a4.take (most-s.1.length)):=by
     show _=_
     have dy:k=Y-I:=by omega
     by_cases q:0<k
     .have:=aj q
      rw[zn5 (by rw[ap.o];omega),zn5 (by rw[ap.o];omega)]
     .have h0:=zh0 (by rw[ap.o];omega)
      rw[h0];simp
    rw[b3.o]at A
    obtain⟨E,aa⟩:=exH (decide ((s.1++a4.take (most-s.1.length)).length=most))
    have ab:(s.1++a4.take (most-s.1.length)).length=u:=by obtain⟨_,_,e⟩:=A.2.1.long;cases e;rfl
    have q1:decide ((u:Int)=(most:Int))=E:=by
     rw[<-aa.o,ab]
     by_cases q:u=most
     .rw[zo1 q,zo1 (by omega)]
     .rw[zm1 q,zm1 (by omega)]
    have q2:((u:Int)==(most:Int))=E:=by
     rw[<-q1]
     by_cases q:(u:Int)=(most:Int)
     .rw[zo1 q,beq_iff_eq];exact q
     .rw[zm1 q,zl0];exact q
    have hE:=b0.o wr (.slice O u Q) _ A.1 A.2.1 A.2.2.1 A.2.2.2 E
    obtain⟨X,hX⟩:=exN (wr.setCell ⟨wb,2,none⟩ (.bool E))
    rw[hX]at hE
    have e2:=hE.1
    have e3:=hE.2.1
    have a5:=za0 hE.2.2
    have V9:=am.o.tch A.2.2.1 aq.o
    have t9:Tch (λ y=>y=wb) wr X:=by rw[<-hX];exact tch_at _ _ _ _
    have a6:=V9.tch t9 az.o
    have n0:=a6.c0
    clear hE A V9 a6 t9 ab
    clear ax aj hk hi ai b8
    go_wp2_with fail
    try rw[hX]
    go_ret
    rw[au.o,aa.o]
    exact⟨_,rfl,_,a5.o.1,a5.o.2.1,a5.o.2.2.1,a5.o.2.2.2.1,a5.o.2.2.2.2.1,zaf9 _,λ j hj=>by cases hj⟩
structure ISc(from_ tx:ByteArray)(most:Nat)(t wb fb tb nb mb:Nat)(m:Option Nat)(E:Nat->Prop)(s:List En×Bool)(w:World):Prop where
 bx:w.heap[wb]?=some (.cells #[tp t,.func (.func 45) #[] #[.pointer (some ⟨fb,0,none⟩),.pointer (some ⟨tb,0,none⟩),.pointer (some ⟨nb,0,none⟩),.pointer (some ⟨mb,0,none⟩),.pointer (some ⟨wb,0,none⟩)],.bool s.2,.map m] 90 (0,0))
 f:C1 w 9 fb (.string from_)
 t:C1 w 9 tb (.string tx)
 o:C1 w 3 mb (.int .i64 (most:Int))
 k:∃v,C1 w 35 nb v/\OwE 0 w v s.1/\∀y,v.ownBlock=some y->E y
 e1:E wb/\E fb/\E tb/\E mb
 e2:E nb
 lt:∀k,E k->k<w.heap.size
section
variable {from_ tx:ByteArray} {most:Nat} {t wb fb tb nb mb:Nat} {m:Option Nat} {E:Nat->Prop} {s:List En×Bool} {w w':World}
def ISc.tch(h:ISc from_ tx most t wb fb tb nb mb m E s w){S:Nat->Prop}(u:Tch S w w')(A:∀k,E k->¬S k):ISc from_ tx most t wb fb tb nb mb m E s w':=by
 obtain⟨v,I,K,H⟩:=h.k
 exact⟨by rw[u.block wb (zd0.1 h.bx).1 (A wb h.e1.1)];exact h.bx,h.f.tch u (A _ h.e1.2.1),h.t.tch u (A _ h.e1.2.2.1),h.o.tch u (A _ h.e1.2.2.2),⟨v,I.tch u (A nb h.e2),K.tch u (λ j O=>A j (H j O)),H⟩,h.e1,h.e2,λ k Q=>zn1 (h.lt k Q) u.size⟩
def zwb9(n:Nd)(i j:Nat):(entF n i j).length=j-i:=by unfold entF;simp
def end_le(n:Nd)(tx:ByteArray):endF n tx<=n.ks.length:=by
 unfold endF
 split
 .exact zn6 _
 .exact plc_le _ _ _
def zhv9(from_ tx:ByteArray)(most:Nat)(s:List En×Bool)(x:Int)(n:Nd)(hv:Vk n):(∀k∈((scanW from_ tx most).st s x n).2,0<=k/\k<=65535)/\((scanW from_ tx most).st s x n).2.length<=240/\((scanW from_ tx most).st s x n).1.1.length<=s.1.length+240:=by
 have E:=hv.len
 have H:=end_le n tx
 have A:=zwb9 n (fstF n from_ tx) (endF n tx)
 unfold scanW
 cases hl:n.lf with
 | true=>
  simp only[hl,if_true]
  exact⟨λ k u=>(by cases u),by simp,by rw[zf0,zg0,A];omega⟩
 | false=>
  simp only[hl,Bool.false_eq_true,if_false]
  refine⟨λ k u=>kd_rng hv k (zx0 (zy0 u)),?_,by omega⟩
  rw[zj0,zg0]
  omega
def scanOk(O:Nat)(hm:most<=9223372036854775807):WOk (scanW from_ tx most) t wb O (λ s=>s.1.length) (ISc from_ tx most t wb fb tb nb mb (some O)) where
 tch:=λ E s w w' S h ht H=>h.tch ht H
 lt:=λ E s w h=>h.lt
 kd:=λ s x n hv=>(zhv9 from_ tx most s x n hv).1
 ln:=λ s x n hv=>(zhv9 from_ tx most s x n hv).2.1
 ct:=λ s x n hv=>(zhv9 from_ tx most s x n hv).2.2
 fn:=⟨_,_,enters_of Tryz.func45 (by kernel_rfl) rfl,λ E s w h=>⟨h.bx,h.e1.1⟩,λ E s x n u1 u2 u3 w h H hv ha hx hc=>by
  obtain⟨v,Y,k2,I⟩:=h.k
  refine(zqt9 n u1 u2 u3 x from_ tx most hm fb tb nb mb wb t _ (some O) s hc w H hv v h.f h.t Y k2 h.o h.bx (λ j Q=>⟨λ e=>ha j Q (e.elim (λ e=>e▸h.e2) (I j)),λ e=>ha j Q (e▸h.e1.1)⟩)).mono ?_
  rintro e w' ⟨r,rfl,v',q1,q2,q3,q4,q5,q6,q7⟩
  have t4:Tch E w w':=q4.mono (λ k _ e=>by
   rcases e with e|e|e
   .exact e▸h.e2
   .exact e▸h.e1.1
   .exact I k e)
  have K:∀{b:Nat} {T:TypeId} {y:Value},C1 w T b y->T≠35->T≠90->72≠T->C1 w' T b y:=fun{b T y} u n1 n2 n3=>u.tch q4 (λ e=>by
   rcases e with e|e|e
   .exact u.ne Y n1 e
   .exact u.nbox h.bx n2 e
   .exact k2.ne u n3 e)
  exact⟨λ y=>E y\/v'.ownBlock=some y,r,rfl,⟨q3,K h.f (by decide) (by decide) (by decide),K h.t (by decide) (by decide) (by decide),K h.o (by decide) (by decide) (by decide),⟨v',q1,q2,λ y hy=>.inr hy⟩,⟨.inl h.e1.1,.inl h.e1.2.1,.inl h.e1.2.2.1,.inl h.e1.2.2.2⟩,.inl h.e2,λ k A=>A.elim (λ e=>zn1 (h.lt k e) t4.size) (q2.lt k)⟩,t4,λ k A=>A.elim .inl (λ e=>(q5 k e).imp (I k) id),q6,q7⟩⟩
end
noncomputable def scanF(a:AS)(x:Int)(from_ tx:ByteArray)(most:Nat):List En×Int:=if (fromF (scanW from_ tx most) a ([],false) x).e≠0 then([],(fromF (scanW from_ tx most) a ([],false) x).e)else((fromF (scanW from_ tx most) a ([],false) x).s.1,0)
def ScT(U:Nat->Prop)(w:World)(t cc d M N:Nat)(a:AS)(r:List En×Int)(e:Ending)(w':World):Prop:=
 ∃v U',e=.returned (.tuple #[v,.int .i64 r.2])/\OwE w.heap.size w' v r.1/\Tz U' w' t cc d M N a/\Tch U w w'/\(∀k,U' k->U k\/w.heap.size<=k)/\(∀j,v.ownBlock=some j->¬U' j)
def zqu9{U:Nat->Prop}{t cc d M N:Nat}{a:AS}(x:Int)(hx:0<=x/\x<=65535)(from_ tx:ByteArray)(most:Nat)(hm:most<=9223372036854775807)(w:World)(h:Tz U w t cc d M N a):
 Calls Tryz.prog 14 #[tp t,.int .i64 x,.string from_,.string tx,.int .i64 (most:Int)] w λ e w'=>ScT U w t cc d M N a (scanF a x from_ tx most) e w':=by
 have au:∀(fn:Fn)(first cap:Array Value)(w:World),(Instr.makeFunc fn first cap).run Tryz.prog w=.ok (.func fn first cap) w:=λ _ _ _ _=>rfl
 obtain⟨H,ad⟩:=exN (w.alloc (.cells #[.string from_] 9))
 obtain⟨I,ae⟩:=exN (H.alloc (.cells #[.string tx] 9))
 obtain⟨u,af⟩:=exN (I.alloc (.cells #[.int .i64 (most:Int)] 3))
 have c3:C1 u 3 I.heap.size (.int .i64 (most:Int)):=by rw[<-af];exact C1.new _ _ _
 have g3:=c3.c
 have d1:decide ((most:Int)<0)=false:=by rw[zn4];omega
 have s1:H.heap.size=w.heap.size+1:=by rw[<-ad];simp
 have s2:I.heap.size=w.heap.size+2:=by rw[<-ae];simp[s1]
 have s3:u.heap.size=w.heap.size+3:=by rw[<-af];simp[s2]
 have b1:Below w.heap.size w H:=by rw[<-ad];exact za9 _ _
 have b2:Below H.heap.size H I:=by rw[<-ae];exact za9 _ _
 have b3:Below I.heap.size I u:=by rw[<-af];exact za9 _ _
 have f1:C1 H 9 w.heap.size (.string from_):=by rw[<-ad];exact C1.new _ _ _
 have t2:C1 I 9 H.heap.size (.string tx):=by rw[<-ae];exact C1.new _ _ _
 obtain⟨O,a0⟩:=exN (u.alloc (.cells #[.slice none 0 0] 35))
 obtain⟨W5,a2⟩:=exN (O.alloc (.cells #[.pointer (some ⟨t,0,none⟩),.func (.func 45) #[] #[.pointer (some ⟨w.heap.size,0,none⟩),.pointer (some ⟨H.heap.size,0,none⟩),.pointer (some ⟨u.heap.size,0,none⟩),.pointer (some ⟨I.heap.size,0,none⟩),.pointer (some ⟨u.heap.size+1,0,none⟩)],.bool false,.map none] 90))
 have s4:O.heap.size=u.heap.size+1:=by rw[<-a0];simp
 have b4:Below u.heap.size u O:=by rw[<-a0];exact za9 _ _
 have b5:Below O.heap.size O W5:=by rw[<-a2];exact za9 _ _
 have n4:C1 O 35 u.heap.size (.slice none 0 0):=by rw[<-a0];exact C1.new _ _ _
 have aa:W5.heap[u.heap.size+1]?=some (.cells #[tp t,.func (.func 45) #[] #[.pointer (some ⟨w.heap.size,0,none⟩),.pointer (some ⟨H.heap.size,0,none⟩),.pointer (some ⟨u.heap.size,0,none⟩),.pointer (some ⟨I.heap.size,0,none⟩),.pointer (some ⟨u.heap.size+1,0,none⟩)],.bool false,.map none] 90 (0,0)):=by rw[<-a2,<-s4];exact heap_alloc_new O _
 have a6:=b1.trans (b2.mono b1.size)
 have a7:=a6.trans (b3.mono a6.size)
 have a8:=a7.trans (b4.mono a7.size)
 have a9:=a8.trans (b5.mono a8.size)
 obtain⟨E,K⟩:∃E:Nat->Prop,∀y,E y↔(w.heap.size<=y/\y<W5.heap.size):=⟨_,λ y=>Iff.rfl⟩
 have h5:=(zd0.1 aa).1
 have J5:ISc from_ tx most t (u.heap.size+1) w.heap.size H.heap.size u.heap.size I.heap.size none E ([],false) W5:=⟨aa,(((f1.below b2).below b3).below b4).below b5,((t2.below b3).below b4).below b5,(c3.below b4).below b5,⟨_,n4.below b5,owE_nil _ _,λ y e=>by cases e⟩,⟨(K _).2 (by omega),(K _).2 (by omega),(K _).2 (by omega),(K _).2 (by omega)⟩,(K _).2 (by omega),λ k T=>((K k).1 T).2⟩
 have ab:∀y,E y->w.heap.size<=y:=λ y hy=>((K y).1 hy).1
 have FR:=zct9 (D:=scanW from_ tx most) (cnt:=λ s=>s.1.length) (wb:=u.heap.size+1) (cc:=cc) (d:=d) (M:=M) (N:=N) (a:=a) (ISc from_ tx most t (u.heap.size+1) w.heap.size H.heap.size u.heap.size I.heap.size)
  (λ sb=>scanOk sb hm)
  (λ E s w' sb A=>by
   obtain⟨v,q1,Y,q3⟩:=A.k
   exact⟨heap_setCell_same w' _ 3 _ _ _ A.bx,A.f.tch (tch_at _ _ _ _) (by omega),A.t.tch (tch_at _ _ _ _) (by omega),A.o.tch (tch_at _ _ _ _) (by omega),⟨v,q1.tch (tch_at _ _ _ _) (by omega),Y.tch (tch_at _ _ _ _) (λ j Q e=>Y.ne A.bx (by decide) (e▸Q)),q3⟩,A.e1,A.e2,λ k T=>zn1 (A.lt k T) (tch_at _ _ _ _).size⟩)
  (λ E s w' av S A ht hn=>A.tch ht hn) (λ E s w' A=>⟨⟨_,_,_,A.bx⟩,A.e1.1,A.lt⟩) x hx U E W5 ([],false) (h.below a9) J5 (λ k T e=>by have:=h.ul k T;have:=ab k e;omega) rfl
 obtain⟨r,hr⟩:=exH (fromF (scanW from_ tx most) a ([],false) x)
 rw[hr.o]at FR
 obtain⟨re,aj⟩:=exH r.e
 rw[aj.o]at FR
 have ai:Hid (scanF a x from_ tx most=if re≠0 then([],re)else(r.s.1,0)):=by
  show _=_
  unfold scanF
  rw[hr.o,aj.o]
 have a5:=za0 FR
 have ag:=za0 a9
 have ah:=za0 ab
 have aq:=za0 h.ul
 have am:=za0 a0
 have an:=za0 a2
 clear FR a9 ab J5 aa a8 a7 a6 n4 b5 b4 t2 f1 b3 b2 b1 s1 s2 s3 s4 h5 c3 h hx K a0 a2 hm
 go_enter Tryz.func14,Tryz.ntmps14
 go_wp2_with fail
 rw[am.o,an.o]
 refine a5.o.mono ?_
 rintro e W6 ⟨rfl,F6,cn⟩
 obtain⟨U6,E6,m6,z6,j6,t6,u6,e6,d6⟩:=F6
 obtain⟨v,q1,Y,q3⟩:=j6.k
 have ak:=ag.o.size
 have ac:∀y,E6 y->w.heap.size<=y:=λ y hy=>(e6 y hy).elim (ah.o y) (λ e=>by omega)
 have T6:Tch U w W6:=(Tch.of_below (S:=U) ag.o).trans t6 (λ y hy e=>e.elim id (λ e=>by have:=ah.o y e;omega))
 have a1:∀k,U6 k->U k\/w.heap.size<=k:=λ k T=>(u6 k T).imp id (λ e=>by omega)
 by_cases a3:re=0
 .subst a3
  have a4:Hid (ScT U w t cc d M N a (scanF a x from_ tx most) (.returned (.tuple #[v,.int .i64 0])) W6):=by
   show ScT _ _ _ _ _ _ _ _ _ _ _
   rw[ai.o,if_neg (by simp)]
   exact⟨v,U6,rfl,OwE.of Y (λ j Q=>ac j (q3 j Q)),z6,T6,a1,λ j Q e=>d6 j e (q3 j Q)⟩
  obtain⟨va,vc,al⟩:=Y.long
  obtain⟨vl,ap⟩:=exH r.s.1.length
  rw[ap.o]at al
  subst al
  have g1:=q1.c
  clear q1 Y q3 z6 T6 a1 d6 ac t6 u6 e6 j6 cn a5 ak g3
  go_wp2_with fail
  go_ret2
  exact a4.o
 .have ao:(re==0)=false:=by rw[zl0];exact a3
  have ar:(re != 0)=true:=by rw[bne,ao];rfl
  have a4:Hid (ScT U w t cc d M N a (scanF a x from_ tx most) (.returned (.tuple #[.slice none 0 0,.int .i64 re])) W6):=by
   show ScT _ _ _ _ _ _ _ _ _ _ _
   rw[ai.o,if_pos a3]
   exact⟨_,U6,rfl,owE_nil _ _,z6,T6,a1,λ j Q=>by cases Q⟩
  clear a3 q1 Y q3 z6 T6 a1 d6 ac t6 u6 e6 j6 cn a5 ak g3
  go_wp2_with fail
  go_ret2
  exact a4.o
def lfA:Nd:=⟨true,[⟨#[97]⟩],[⟨#[49]⟩],[]⟩
theorem lfA_sz:szN lfA lfA.ks.length=5:=by rfl
def ltT_ab:lts ⟨#[97]⟩ ⟨#[98]⟩=true:=by unfold lts;rw[ByteArray.toList_eq,ByteArray.toList_eq];decide
def neT_a:eqs ⟨#[97]⟩ eS=false:=by unfold eqs eS;rw[ByteArray.toList_eq,ByteArray.toList_eq];decide
def zxj9:mayN lfA=true:=by
 rw[zu9]
 unfold MayP
 refine⟨by decide,by rw[lfA_sz,zbf9 (by decide)];decide,λ i u=>?_,?_⟩
 .have A:i<1:=u
  match i,A with
  | 0,_=>exact⟨by decide,λ h=>absurd h (by decide),λ _=>neT_a⟩
 .rw[if_pos (show lfA.lf=true from rfl)]
  refine⟨λ i u=>?_,rfl,rfl⟩
  have A:i<1:=u
  match i,A with
  | 0,_=>decide
def lv_ins:insL ⟨#[97]⟩ ⟨#[49]⟩ leaf0=lfA:=by
 unfold insL
 simp only
 rw[if_neg (λ e=>absurd e.1 (by decide))]
 rfl
def lv_pc:piecesF lfA=[lfA]:=by
 unfold piecesF
 rw[if_neg (by decide),lfA_sz,if_pos (by rw[zbf9 (by decide)];decide)]
def zne9:Ah.take (as0 30).A=(50,true,⟨50,(List.replicate 30 0).set 0 1,0⟩):=by
 unfold Ah.take as0 Ah.new
 simp only
 rw[if_neg (by decide)]
 rfl
def zui9:writeF (as0 30) ch0 lfA=⟨50,0,(as0 30).wr lfA,{ ch0 with tk:=[50] }⟩:=by
 unfold writeF
 rw[if_pos zxj9,if_pos (by rw[zne9]),zne9]
 rfl
def lv_put:putF (as0 30) 0 ⟨#[97]⟩ ⟨#[49]⟩=⟨50,0,(as0 30).wr lfA⟩:=by
 unfold putF
 rw[neT_a,if_neg (by decide)]
 have u:partsF ⟨⟨#[97]⟩,insL ⟨#[97]⟩ ⟨#[49]⟩,false⟩ (as0 30) ch0 0=⟨0,[lfA],as0 30,ch0⟩:=by
  unfold partsF
  rw[if_pos rfl]
  show(⟨0,piecesF (insL ⟨#[97]⟩ ⟨#[49]⟩ leaf0),as0 30,ch0⟩:BR)=_
  rw[lv_ins,lv_pc]
 have hr:rootedF ⟨⟨#[97]⟩,insL ⟨#[97]⟩ ⟨#[49]⟩,false⟩ (as0 30) ch0 0=⟨50,0,(as0 30).wr lfA,{ ch0 with tk:=[50] }⟩:=by
  unfold rootedF
  rw[u]
  show(if (0:Int)≠0 then _ else _)=_
  rw[if_neg (by simp)]
  show(if [lfA].length=0 then _ else _)=_
  rw[if_neg (by decide)]
  show(if [lfA].length=1 then _ else _)=_
  rw[if_pos (show[lfA].length=1 from rfl)]
  show(if lfA.kd.length=1 then _ else _)=_
  rw[if_neg (by decide)]
  exact zui9
 unfold madeF
 rw[hr]
 rfl
def lv_V:((as0 30).wr lfA).V 50=(0,lfA):=by
 unfold AS.wr
 rw[zne9]
 show updI (as0 30).V 50 (0,lfA) 50=_
 exact zcb9 _ _ _
def zsd9(key:ByteArray):getF ((as0 30).wr lfA) 50 key=⟨0,((getW key).st (eS,false) 50 lfA).1,[50]⟩:=by
 unfold getF fromF
 rw[if_neg (by decide),downF,if_neg (by simp)]
 have u:look ((as0 30).wr lfA) 50 1=(0,lfA):=by unfold look;rw[if_neg (by decide)];exact lv_V
 rw[u]
 rfl
def lv_a:getF ((as0 30).wr lfA) 50 ⟨#[97]⟩=⟨0,(⟨#[49]⟩,true),[50]⟩:=by
 rw[zsd9]
 have u:lts (kA lfA 0) ⟨#[97]⟩=false:=by unfold lts;exact bl_irr _
 have A:plc lfA ⟨#[97]⟩ lfA.ks.length=0:=by
  show plc lfA ⟨#[97]⟩ (0+1)=0
  unfold plc
  rw[if_pos (show lfA.lf=true from rfl),if_neg (by rw[u];decide)]
  rfl
 unfold getW
 simp only[A]
 rw[if_pos (show lfA.lf=true from rfl),if_pos ⟨by decide,zwe9.2 rfl⟩]
 rfl
def lv_b:getF ((as0 30).wr lfA) 50 ⟨#[98]⟩=⟨0,(eS,false),[50]⟩:=by
 rw[zsd9]
 have u:plc lfA ⟨#[98]⟩ lfA.ks.length=1:=by
  show plc lfA ⟨#[98]⟩ (0+1)=1
  unfold plc
  rw[if_pos (show lfA.lf=true from rfl),if_pos (show lts (kA lfA 0) ⟨#[98]⟩=true from ltT_ab)]
 unfold getW
 simp only[u]
 rw[if_pos (show lfA.lf=true from rfl),if_neg (λ e=>absurd e.1 (by decide))]
def znd9(w:World):Calls Tryz.prog 15 #[] w λ e w'=>e=.returned (.bool true)/\Below w.heap.size w w':=by
 have I:=zlm9 30 (by decide) (by decide) w
 rw[show((30:Nat):Int)=30 from rfl]at I
 have a1:=za0 I
 clear I
 go_enter Tryz.func15,Tryz.ntmps15
 go_wp2_with fail
 refine a1.o.mono ?_
 rintro e W1 ⟨U,b,t,c,d,M,rfl,A,u1,b1,a7⟩
 have k3:W1.cell? ⟨b,3,none⟩=some (tp t):=by rw[A.cl];rfl
 have Y:=zhs9 0 (by decide) ⟨#[97]⟩ ⟨#[49]⟩ (by decide) (by decide) W1 A.tz
 rw[lv_put]at Y
 have a4:=za0 Y
 have ab:=za0 A
 have a5:=za0 u1
 have T:Hid (w.heap.size<=b/\Below w.heap.size w W1):=⟨b1,a7⟩
 clear Y A u1 b1 a7 a1
 go_wp2_with fail
 refine a4.o.mono ?_
 rintro e W2 ⟨rfl,z2⟩
 obtain⟨U2,E,t2,h2⟩:=ab.o.to z2
 have B2:Below w.heap.size w W2:=T.o.2.trans (t2.below T.o.2.size (λ k u=>a5.o k u))
 have a8:∀k,U2 k->w.heap.size<=k:=λ k u=>(h2 k u).elim (a5.o k) (λ e=>by have:=T.o.2.size;omega)
 have K:=zhm9 50 ⟨by decide,by decide⟩ ⟨#[97]⟩ W2 E.tz
 rw[lv_a]at K
 have a2:=za0 K
 have af:W2.cell? ⟨b,3,none⟩=some (tp t):=by rw[E.cl];rfl
 have ac:=za0 E
 have Q:=za0 B2
 have a6:=za0 a8
 clear z2 E t2 h2 B2 a8 K k3 a4
 go_wp2_with fail
 refine a2.o.mono ?_
 rintro e W3 ⟨rfl,z3⟩
 obtain⟨U3,H,t3,h3⟩:=ac.o.to z3
 have B3:Below w.heap.size w W3:=Q.o.trans (t3.below Q.o.size (λ k u=>a6.o k u))
 have a9:∀k,U3 k->w.heap.size<=k:=λ k u=>(h3 k u).elim (a6.o k) (λ e=>by have:=Q.o.size;omega)
 have O:=zhm9 50 ⟨by decide,by decide⟩ ⟨#[98]⟩ W3 H.tz
 rw[lv_b]at O
 have a3:=za0 O
 have k3:W3.cell? ⟨b,3,none⟩=some (tp t):=by rw[H.cl];rfl
 have ad:=za0 H
 have a0:=za0 B3
 have ae:=za0 a9
 clear z3 H t3 h3 B3 a9 O af a2
 go_wp2_with fail
 refine a3.o.mono ?_
 rintro e W4 ⟨rfl,z4⟩
 have aa:Hid (Below w.heap.size w W4):=by
  obtain⟨U4,l4,t4,h4⟩:=ad.o.to z4
  exact a0.o.trans (t4.below a0.o.size (λ k u=>ae.o k u))
 clear z4 k3 a3
 go_wp2_with fail
 go_ret
 exact⟨by first|rfl|simp,aa.o⟩
