import Derived.Test.YtcmjlibndmneiaaGreatPTLev
import Derived.Sort.OwnSortedInts
import Derived.Test.YtcmjlibndmneiaaGreatPTBeg
import Derived.Test.YtcmjlibndmneiaaGreatPTRfM
set_option maxRecDepth 100000
set_option linter.all false
set_option maxHeartbeats 8000000
namespace Go.Proofs.YtcmjlibndmneiaaGreat
open Go.RowKit Go.Maps Pl
def srt(l:List Int):List Int:=l.mergeSort λ x y=>decide (x<=y)
def zpl9(l:List Int):(srt l).length=l.length:=List.length_mergeSort _
def zpm9(l:List Int):(srt l).Perm l:=List.mergeSort_perm _ _
def zrw9{B:Nat}(v:Value)(l:List Int)(w:World)(h:OwV B 3 w v (nums l))(hl:l.length<=1000000000):
 Calls Tryz.prog 66 #[v] w λ e w'=>e=.returned (.tuple #[])/\OwV B 3 w' v (nums (srt l))/\Tch (λ k=>v.ownBlock=some k) w w':=by
 rcases h with⟨T,Y⟩
 rcases Y with⟨hv,E⟩|⟨g,cap,a1,hv,hg,A,H,O,Q,u⟩
 .have a0:l=[]:=by (have:(nums l).length=0:=by rw[<-T]at *;first|exact E|simpa using E);rw[zf9]at this;exact zh0 this
  subst a0 hv;refine(AnyM.slices_Sort_int_none Tryz.sortA none 0 w).mono ?_;rintro e w' ⟨rfl,rfl⟩;have K:nums (srt [])=[]:=by simp[srt,nums]
  rw[K];exact⟨rfl,zr9 _ _ _,Tch.refl _ _⟩
 .rw[zf9]at hv H u;subst hv;refine(AnyM.slices_Sort_int Tryz.sortA g 0 cap l w (holds_of_blockI A (by rw[Nat.mul_one]at u;exact u)) (zd0.1 A).1 (by omega)).mono ?_;rintro e w' ⟨rfl,n,I,rfl⟩;refine⟨rfl,?_,(Tch.of_grown (grownBy_sortedI _)).mono (λ k _ e=>by rw[<-e];rfl)⟩;have:=ownsRow_sortedI (n:=n) (os:=I) (base:=B) (zpl9 l) hg A H O Q;show World.ownsRow _ _ _ _ _ _ _;rw[zf9,zpl9];exact this
structure IBk(t wb nb:Nat)(m:Option Nat)(E:Nat->Prop)(s:List Int)(w:World):Prop where
 bx:w.heap[wb]?=some (.cells #[tp t,.func (.func 65) #[] #[.pointer (some ⟨nb,0,none⟩)],.bool false,.map m] 90 (0,0))
 k:∃v,C1 w 56 nb v/\OwV 0 3 w v (nums s)/\∀y,v.ownBlock=some y->E y
 e1:E wb
 e2:E nb
 lt:∀k,E k->k<w.heap.size
section
variable {t wb nb:Nat} {m:Option Nat} {E:Nat->Prop} {s:List Int} {w w':World}
def IBk.tch(h:IBk t wb nb m E s w){S:Nat->Prop}(u:Tch S w w')(A:∀k,E k->¬S k):IBk t wb nb m E s w':=by obtain⟨v,I,K,H⟩:=h.k;exact⟨by rw[u.block wb (zd0.1 h.bx).1 (A wb h.e1)];exact h.bx,⟨v,I.tch u (A nb h.e2),K.tch u (λ j O=>A j (H j O)),H⟩,h.e1,h.e2,λ k Q=>zn1 (h.lt k Q) u.size⟩
end
def zts9(n:Nd)(u1 u2 u3:Value)(x:Int)(nb:Nat)(s:List Int)(hs:s.length<=15728640)(w:World)(h:Nn w n u1 u2 u3)(v:Value)(O:C1 w 56 nb v)(u:OwV 0 3 w v (nums s))(a5:∀j,u3.ownBlock=some j->j≠nb/\v.ownBlock≠some j):
 Calls Tryz.prog 65 #[.int .i64 x,nod n.lf u1 u2 u3,.pointer (some ⟨nb,0,none⟩)] w λ e w'=>
  e=.returned u3/\(∃E,C1 w' 56 nb E/\OwV 0 3 w' E (nums (s++[x]))/\∀y,E.ownBlock=some y->v.ownBlock=some y\/w.heap.size<=y)/\Tch (λ k=>k=nb\/v.ownBlock=some k) w w'/\RdV w' u3 (nums n.kd):=by
 obtain⟨a1,c1,a2,c2,a3,c3,rfl,rfl,rfl,_,_,_,_⟩:=h.o;obtain⟨L1,aa⟩:=exH n.ks.length;obtain⟨L2,ab⟩:=exH n.vs.length;obtain⟨L3,a0⟩:=exH n.kd.length;obtain⟨lf,al⟩:=exH n.lf;rw[aa.o,ab.o,a0.o]at h;rw[a0.o]at a5;rw[aa.o,ab.o,a0.o,al.o];obtain⟨va,vc,ae⟩:=u.long;obtain⟨vl,ao⟩:=exH ((nums s).length);rw[ao.o]at ae;subst ae;obtain⟨A,ac⟩:=exN (w.alloc (.cells #[.bool lf,.slice a1 L1 c1,.slice a2 L2 c2,.slice a3 L3 c3] 93));have b1:Below w.heap.size w A:=by rw[<-ac];exact za9 _ _
 have V1:Nb A 93 w.heap.size lf (.slice a1 L1 c1) (.slice a2 L2 c2) (.slice a3 L3 c3):=by rw[<-ac];exact nb_new _ _ _ _ _ _
 obtain⟨W2,ad⟩:=exN (A.alloc (.cells #[.int .i64 x] 3));have b2:Below A.heap.size A W2:=by rw[<-ad];exact za9 _ _
 have K:=b1.trans (b2.mono b1.size);have k2:Hid (W2.cell? ⟨A.heap.size,0,none⟩=some (.int .i64 x)):=by show _=_;rw[<-ad,cell_of_row _ A.heap.size 0 _ _ (0,0) (heap_alloc_new A _)];rfl
 have g1:=(O.below b1).c;have ai:=za0 (u.below K);have af:=za0 (O.below K);have ak:=za0 (V1.below b2);have ah:=za0 (h.below K);have HB:=za0 O;have a8:=za0 K;have a7:=za0 a5;have HL:=za0 hs;have a9:=za0 (u.ne O (by decide));have aj:=za0 u.owns.lt;unfold nod;clear h O u a5 b1 V1 b2 K hs
 go_enter Tryz.func65,Tryz.ntmps65
 go_wp2_with(at_builtin;refine zp9 56 3 (.int .i64 0) 8 elemIN _ rfl (.tmp 6) (.tmp 8) rfl 0 _ (nums s) rfl ai.o A.heap.size (.int .i64 x) rfl rfl k2.o (by rw[zf9];have:=HL.o;omega) (by rw[zf9];have:=HL.o;omega) (zn7 _) ?_;intro E w3 u hg hf;refine Hid.o ?_)
 refine za0 ?_;have I:=hg.tch;have Y:=af.o.tch I a9.o;have V3:=ak.o.tch I (λ e=>by have:=aj.o _ e;omega);obtain⟨xa,xl,xc,rfl⟩:∃a l c,E=.slice a l c:=by obtain⟨a,c,e⟩:=u.long;exact⟨_,_,_,e⟩
 obtain⟨H,a4⟩:=exN (w3.setCell ⟨nb,0,none⟩ (.slice xa xl xc));have T:Tch (λ y=>y=nb) w3 H:=by rw[<-a4];exact tch_at _ _ _ _
 have C4:C1 H 56 nb (.slice xa xl xc):=by rw[<-a4];exact Y.set _
 have am:=HB.o.lt;have V4:=V3.tch T (by omega);have a6:∀y,(Value.slice xa xl xc).ownBlock=some y->(Value.slice va vl vc).ownBlock=some y\/W2.heap.size<=y:=λ y Q=>hf y Q;have an:=a8.o.size;have O4:OwV 0 3 H (.slice xa xl xc) (nums (s++[x])):=by
  have e:nums s++[.int .i64 x]=nums (s++[x]):=by simp[nums]
  rw[e]at u;refine u.tch T (λ y Q e=>?_);rcases a6 y Q with q|q
  .exact a9.o (e▸q)
  .omega
 have D4:=(ah.o.d.tch I (λ j hj=>(a7.o j hj).2)).tch T (λ j hj e=>(a7.o j hj).1 e);have ag:Hid ((∃E,C1 H 56 nb E/\OwV 0 3 H E (nums (s++[x]))/\∀y,E.ownBlock=some y->(Value.slice va vl vc).ownBlock=some y\/w.heap.size<=y)/\Tch (λ k=>k=nb\/(Value.slice va vl vc).ownBlock=some k) w H/\RdV H (.slice a3 L3 c3) (nums n.kd)):=
  ⟨⟨_,C4,O4,λ y Q=>(a6 y Q).imp id (λ q=>by omega)⟩,((Tch.of_below (S:=λ k=>k=nb\/(Value.slice va vl vc).ownBlock=some k) a8.o).trans I (λ _ _ e=>.inr e)).trans T (λ _ _ e=>.inl e),D4⟩
 have g3:=Y.c;have g4:=Y.fz;have m3:=V4.c3;clear u hg hf I Y V3 T C4 am V4 a6 an O4 D4 g1;go_wp2_with fail;try rw[a4]
 go_ret;exact⟨rfl,ag.o⟩
def blkOk{t wb nb:Nat}(T:Nat)(h1:nb≠wb):WOk zn9 t wb T (λ s=>s.length) (IBk t wb nb (some T)) where
 tch:=λ E s w w' S h ht H=>h.tch ht H
 lt:=λ E s w h=>h.lt
 kd:=λ s x n hv k u=>kd_rng hv k u
 ln:=λ s x n hv=>hv.len.2.2
 ct:=λ s x n hv=>by show(s++[x]).length<=s.length+240;simp
 fn:=⟨_,_,enters_of Tryz.func65 (by kernel_rfl) rfl,λ E s w h=>⟨h.bx,h.e1⟩,λ E s x n u1 u2 u3 w h H hv ha hx hc=>by
  obtain⟨v,k1,K,I⟩:=h.k;refine(zts9 n u1 u2 u3 x nb s hc w H v k1 K (λ j A=>⟨λ e=>ha j (.inr (.inr A)) (e▸h.e2),λ e=>ha j (.inr (.inr A)) (I j e)⟩)).mono ?_;rintro e w' ⟨rfl,⟨v',q1,O,q3⟩,Q,q5⟩;have a0:=(zd0.1 h.bx).1;have Y:=Q.mono (λ k _ e=>e.elim (λ e=>e▸h.e2) (I k));refine⟨λ y=>E y\/v'.ownBlock=some y,u3,rfl,⟨?_,⟨v',q1,O,λ y hy=>.inr hy⟩,.inl h.e1,.inl h.e2,λ k u=>u.elim (λ e=>zn1 (h.lt k e) Y.size) (O.owns.lt k)⟩,Y,λ k u=>u.elim .inl (λ e=>(q3 k e).imp (I k) id),q5,λ j A=>A⟩;rw[Q.block wb a0 (λ e=>e.elim (λ e=>h1 e.symm) (λ e=>K.ne h.bx (by decide) e))];exact h.bx⟩
noncomputable def blkF(a:AS)(x:Int):List Int×Int:=if (fromF zn9 a [] x).e≠0 then([],(fromF zn9 a [] x).e)else(srt (fromF zn9 a [] x).s,0)
def ztt9{U:Nat->Prop}{t cc d M N:Nat}{a:AS}(x:Int)(hx:0<=x/\x<=65535)(w:World)(h:Tz U w t cc d M N a):
 Calls Tryz.prog 29 #[tp t,.int .i64 x] w λ e w'=>∃v u,e=.returned (.tuple #[v,.int .i64 (blkF a x).2])/\OwV w.heap.size 3 w' v (nums (blkF a x).1)/\Tz u w' t cc d M N a/\Tch U w w'/\(∀k,u k->U k\/w.heap.size<=k)/\(∀j,v.ownBlock=some j->¬u j):=by
 have av:∀(fn:Fn)(first cap:Array Value)(w:World),(Instr.makeFunc fn first cap).run Tryz.prog w=.ok (.func fn first cap) w:=λ _ _ _ _=>rfl;obtain⟨A,a0⟩:=exN (w.alloc (.cells #[.slice none 0 0] 56));obtain⟨W2,a2⟩:=exN (A.alloc (.cells #[.pointer (some ⟨t,0,none⟩),.func (.func 65) #[] #[.pointer (some ⟨w.heap.size,0,none⟩)],.bool false,.map none] 90));have s1:A.heap.size=w.heap.size+1:=by rw[<-a0];simp
 have b1:Below w.heap.size w A:=by rw[<-a0];exact za9 _ _
 have b2:Below A.heap.size A W2:=by rw[<-a2];exact za9 _ _
 have k1:C1 A 56 w.heap.size (.slice none 0 0):=by rw[<-a0];exact C1.new _ _ _
 have a8:W2.heap[A.heap.size]?=some (.cells #[tp t,.func (.func 65) #[] #[.pointer (some ⟨w.heap.size,0,none⟩)],.bool false,.map none] 90 (0,0)):=by rw[<-a2];exact heap_alloc_new A _
 have a7:=b1.trans (b2.mono b1.size);obtain⟨E,Y⟩:∃E:Nat->Prop,∀y,E y↔(y=A.heap.size\/y=w.heap.size):=⟨_,λ y=>Iff.rfl⟩
 have J2:IBk t A.heap.size w.heap.size none E [] W2:=⟨a8,⟨_,k1.below b2,zr9 _ _ _,λ y e=>by cases e⟩,(Y _).2 (.inl rfl),(Y _).2 (.inr rfl),λ k I=>by
  have h1:=(zd0.1 a8).1;rcases(Y k).1 I with e|e
  .omega
  .omega⟩
 have a9:∀y,E y->w.heap.size<=y:=λ y hy=>by rcases(Y y).1 hy with e|e<;>omega
 have FR:=zfp9 (D:=zn9) (cnt:=λ s=>s.length) (wb:=A.heap.size) (cc:=cc) (d:=d) (M:=M) (N:=N) (a:=a) (IBk t A.heap.size w.heap.size)
  (λ sb=>blkOk sb (by omega))
  (λ E s w' sb H=>by
   obtain⟨v,Q,K,q3⟩:=H.k;exact⟨heap_setCell_same w' _ 3 _ _ _ H.bx,⟨v,Q.tch (tch_at _ _ _ _) (by omega),K.tch (tch_at _ _ _ _) (λ j O e=>K.ne H.bx (by decide) (e▸O)),q3⟩,H.e1,H.e2,λ k I=>zn1 (H.lt k I) (tch_at _ _ _ _).size⟩)
  (λ E s w' ax S H ht hn=>H.tch ht hn) (λ E s w' H=>⟨⟨_,_,_,H.bx⟩,H.e1,H.lt⟩) x hx U E W2 [] (h.below a7) J2 (λ k I e=>by have:=h.ul k I;have:=a9 k e;omega) rfl
 obtain⟨r,hr⟩:=exH (fromF zn9 a [] x);rw[hr.o]at FR;obtain⟨T,ag⟩:=exH r.e;rw[ag.o]at FR;have ae:Hid (blkF a x=if T≠0 then([],T)else(srt r.s,0)):=by show _=_;unfold blkF;rw[hr.o,ag.o]
 have a5:=za0 FR;have ab:=za0 a7;have ac:=za0 a9;have ar:=za0 h.ul;have an:=za0 a0;have ao:=za0 a2;have aj:=za0 s1;clear FR a7 a9 J2 a8 b2 b1 k1 s1 h hx Y a0 a2
 go_enter Tryz.func29,Tryz.ntmps29
 go_wp2_with fail;rw[an.o];rw[<-aj.o,ao.o];refine a5.o.mono ?_;rintro e W3 ⟨rfl,F3,cn⟩;obtain⟨U5,E5,m5,z5,j5,t5,u5,e5,d5⟩:=F3;obtain⟨v,Q,K,q3⟩:=j5.k;have aw:=ab.o.size;have aa:∀y,E5 y->w.heap.size<=y:=λ y hy=>(e5 y hy).elim (ac.o y) (λ e=>by omega);have T3:=(Tch.of_below (S:=U) ab.o).trans t5 (λ y hy e=>e.elim id (λ e=>by have:=ac.o y e;omega));have U3:∀k,U5 k->U k\/w.heap.size<=k:=λ k I=>(u5 k I).imp id (λ e=>by omega);by_cases a3:T=0
 .subst a3;have a6:Hid (blkF a x=(srt r.s,0)):=by show _=_;rw[ae.o,if_neg (by simp)]
  have af:=K.ne Q (by decide);have ST:=zrw9 v r.s W3 K (by omega);obtain⟨va,vc,ah⟩:=K.long;obtain⟨vl,aq⟩:=exH ((nums r.s).length);rw[aq.o]at ah;subst ah;have ak:=za0 ST;have g1:=Q.c;have HC:=za0 Q;have ai:=za0 af;have HZ:=za0 z5;have al:=za0 T3;have am:=za0 U3;have HD:=za0 d5;have a1:=za0 q3;have ad:=za0 aa;clear ST Q K af z5 T3 U3 d5 q3 aa t5 u5 e5 j5 cn a5;go_wp2_with fail;refine ak.o.mono ?_;rintro e W4 ⟨rfl,o4,t4⟩;have C4:=HC.o.tch t4 ai.o;have g2:=C4.c;have Z4:=HZ.o.tch t4 (λ k I e=>HD.o k I (a1.o k e));have T4:=al.o.trans t4 (λ y hy e=>by have:=ad.o y (a1.o y e);omega);have O4:=OwV.of o4 (λ j O=>ad.o j (a1.o j O))
  have a4:Hid (∃v u,(.returned (.tuple #[.slice va vl vc,.int .i64 0]):Ending)=.returned (.tuple #[v,.int .i64 (blkF a x).2])/\OwV w.heap.size 3 W4 v (nums (blkF a x).1)/\Tz u W4 t cc d M N a/\Tch U w W4/\(∀k,u k->U k\/w.heap.size<=k)/\(∀j,v.ownBlock=some j->¬u j)):=by show∃v u,_;rw[a6.o];exact⟨_,U5,rfl,O4,Z4,T4,am.o,λ j O e=>HD.o j e (a1.o j O)⟩
  clear o4 t4 C4 Z4 T4 O4 g1;go_wp2_with fail;go_ret2;exact a4.o
 .have ap:(T==0)=false:=by rw[zl0];exact a3
  have au:(T != 0)=true:=by rw[bne,ap];rfl
  have a6:Hid (blkF a x=([],T)):=by show _=_;rw[ae.o,if_pos a3]
  have a4:Hid (∃v u,(.returned (.tuple #[.slice none 0 0,.int .i64 T]):Ending)=.returned (.tuple #[v,.int .i64 (blkF a x).2])/\OwV w.heap.size 3 W3 v (nums (blkF a x).1)/\Tz u W3 t cc d M N a/\Tch U w W3/\(∀k,u k->U k\/w.heap.size<=k)/\(∀j,v.ownBlock=some j->¬u j)):=by show∃v u,_;rw[a6.o];exact⟨_,U5,rfl,zr9 _ _ _,z5,T3,U3,λ j O=>by cases O⟩
  clear a3 Q K q3 z5 T3 U3 d5 aa t5 u5 e5 j5 cn a5;go_wp2_with fail;go_ret2;exact a4.o
end Go.Proofs.YtcmjlibndmneiaaGreat
namespace Go.Proofs.YtcmjlibndmneiaaGreat
open Go.RowKit Pl
def zew9(xs:List Int){k:Nat}(h:k<xs.length):(nums xs)[k]?=some (.int .i64 (xs.getD k 0)):=by unfold nums;rw[zd1,zc0 h,zn3,zc0 h];rfl
def zpw9(v:Value)(xs:List Int)(x:Int)(w:World)(h:RdV w v (nums xs))(a2:xs.length<=1000000):
 Calls Tryz.prog 74 #[v,.int .i64 x] w λ e w'=>e=.returned (.bool (decide (x∈xs)))/\w'=w:=by
 obtain⟨a,cap,rfl,l1,l2,l3⟩:=h.len;have H:=za0 h;have I:(nums xs).length=xs.length:=by unfold nums;simp
 rw[I]at H l1 |-
 obtain⟨L,E⟩:=exH xs.length;rw[E.o]at H l1 a2 |-
 obtain⟨r,hr⟩:=exH (decide (x∈xs));rw[hr.o];have a3:(L:Int)<=9223372036854775807:=by omega
 clear h l3 I
 go_enter Tryz.func74,Tryz.ntmps74
 go_wp2_with fail
 go_loopw [5] (λ T wr=>∃k:Nat,k<=L/\T=.int .i64 (k:Int)/\wr=w/\Hid (∀i,i<k->xs.getD i 0≠x)) (λ T _=>L-(intOf T).toNat)
 case atStart=>exact⟨0,zn7 _,rfl,rfl,λ i O=>by omega⟩
 case round=>
  obtain⟨k,hk,rfl,I,A⟩:=hrel;subst I;by_cases u:k<L
  .have d1:decide ((k:Int)<(L:Int))=true:=by rw[zm0];omega
   have a1:decide (k<L)=true:=zm1 u;obtain⟨y,Q⟩:=exH (xs.getD k 0);obtain⟨b,o,rfl,c1⟩:=H.o.at (zew9 xs (by rw[E.o];exact u));rw[Q.o]at c1;(have i0:(0:Int)<=(k:Int):=by omega);(have i1:(k:Int)<(L:Int):=by omega);have HK:Hid (k<L):=u;by_cases q:y=x
   .subst q;have K:Hid (r=true):=by show _=_;rw[<-hr.o,zm0];(have:y=xs[k]'(by rw[E.o];exact u):=by rw[<-Q.o,zn3,zc0 (by rw[E.o];exact u)];rfl);rw[this];exact za1 _
    clear A;go_wp2_with fail;go_ret;rw[K.o];exact⟨rfl,rfl⟩
   .have q1:(y==x)=false:=by rw[zl0];exact q
    have q2:decide (y=x)=false:=zl1 q;have a0:Hid (∀i,i<k+1->xs.getD i 0≠x):=(λ i O=>by
     by_cases e:i=k
     .rw[e,Q.o];exact q
     .exact A.o i (by omega))
    have Y:=wk_nat (x:=(k:Int)+1) (t:=k+1) (by omega) (by omega);have v2:=zu9 (x:=(k:Int)+1) (t:=k+1) (by clear Y;omega) (by clear Y;omega);clear A q;go_wp2_with fail;clear Y v2;have a4:=HK.o
    first
     | exact⟨⟨k+1,by omega,by rfl,by first|rfl|trivial,a0⟩,by simp[intOf];omega⟩
     | (go_roundw
        (case rel=>exact⟨k+1,by omega,by rfl,by first|rfl|trivial,a0⟩);case measure=>simp[intOf];omega)
  .have d1:decide ((k:Int)<(L:Int))=false:=by rw[zn4];omega
   (have a1:decide (k<L)=false:=zl1 u;have K:Hid (r=false):=by show _=_;rw[<-hr.o,zn4];intro hm;obtain⟨i,O,e⟩:=List.getElem_of_mem hm;refine A.o i (by have:=E.o;omega) ?_;rw[zn3,zc0 O];exact e);clear A;go_wp2_with fail;go_ret;rw[K.o];exact⟨rfl,rfl⟩
end Go.Proofs.YtcmjlibndmneiaaGreat
namespace Go.Proofs.YtcmjlibndmneiaaGreat
open Go.RowKit Go.Maps Pl
def LwTo(U:Nat->Prop)(w w':World)(b t c d M N:Nat)(a:AS)(root:Int)(lv:Value):Prop:=
 ∃U',Lw U' w' b t c d M N a root lv/\Tch U w w'/\∀k,U' k->U k\/w.heap.size<=k
def LgZ(U0:Nat->Prop)(w0:World)(b t c d M N:Nat)(a:AS)(root:Int)(lv:Value)(Z:Nat->Prop)(w:World):Prop:=
 ∃U,Lw U w b t c d M N a root lv/\Tch U0 w0 w/\(∀k,U k->U0 k\/w0.heap.size<=k)/\∀k,Z k->¬U k/\k≠b/\k<w.heap.size
def StZ(Z:Nat->Prop)(w w':World):Prop:=∃R,Tch R w w'/\∀k,Z k->¬R k
section
variable {U0 Z Z' R:Nat->Prop} {w0 w w':World} {b t c d M N:Nat} {a a':AS} {root:Int} {lv:Value}
def RdV.st{v:Value}{u:List Value}(h:RdV w v u)(H:StZ Z w w')(K:∀j,v.ownBlock=some j->Z j):RdV w' v u:=by obtain⟨R,I,A⟩:=H;exact h.tch I (λ j E=>A j (K j E))
def OwV.st{B:Nat}{e:TypeId}{v:Value}{u:List Value}(h:OwV B e w v u)(H:StZ Z w w')(K:∀j,v.ownBlock=some j->Z j):OwV B e w' v u:=by obtain⟨R,I,A⟩:=H;exact h.tch I (λ j E=>A j (K j E))
def StZ.drew(Z:Nat->Prop)(w:World):StZ Z w w.drew:=⟨λ _=>False,Tch.of_below (Below.refl _ _).drew,λ _ _ e=>e⟩
def LgZ.lwTo(h:LgZ U0 w0 b t c d M N a root lv Z w):LwTo U0 w0 w b t c d M N a root lv:=by obtain⟨U,u,A,E,_⟩:=h;exact⟨U,u,A,E⟩
def LgZ.below(h:LgZ U0 w0 b t c d M N a root lv Z w)(A:Below w.heap.size w w'):LgZ U0 w0 b t c d M N a root lv Z w':=by obtain⟨U,H,I,K,u⟩:=h;exact⟨U,H.below A,I.trans (Tch.of_below (S:=U0) A) (λ _ _ e=>e),K,λ k E=>⟨(u k E).1,(u k E).2.1,zn1 (u k E).2.2 A.size⟩⟩
def LgZ.drew(h:LgZ U0 w0 b t c d M N a root lv Z w):LgZ U0 w0 b t c d M N a root lv Z w.drew:=h.below (Below.refl _ _).drew
def LgZ.cell(h:LgZ U0 w0 b t c d M N a root lv Z w):w.cell? ⟨b,3,none⟩=some (tp t)/\w.cell? ⟨b,2,none⟩=some (mp M)/\w.cell? ⟨b,1,none⟩=some (cp c):=by obtain⟨U,h,_⟩:=h;exact⟨h.cl 3,h.cl 2,h.cl 1⟩
def LgZ.size(h:LgZ U0 w0 b t c d M N a root lv Z w):w0.heap.size<=w.heap.size:=by obtain⟨U,_,h,_⟩:=h;exact h.size
def LgZ.grow(h:LgZ U0 w0 b t c d M N a root lv Z w)(I:Tch R w w')(H:∀k,R k->Z k/\w0.heap.size<=k)(T:∀k,Z' k->(Z k\/w.heap.size<=k)/\k<w'.heap.size):LgZ U0 w0 b t c d M N a root lv Z' w':=by
 obtain⟨U,E,O,Q,A⟩:=h;refine⟨U,E.tch I (λ k u r=>(A k (H k r).1).1 u) (λ r=>(A b (H b r).1).2.1 rfl),O.trans I (λ i hi r=>absurd (H i r).2 (by omega)),Q,λ k Y=>?_⟩;obtain⟨q,K⟩:=T k Y;rcases q with q|q
 .exact⟨(A k q).1,(A k q).2.1,K⟩
 .exact⟨λ e=>by have:=E.tz.ul k e;omega,λ e=>by have:=E.lt;omega,K⟩
def LgZ.calls{f:FuncId}{args:Array Value}{P:Ending->Prop}(h:LgZ U0 w0 b t c d M N a root lv Z w)(T:∀U,Tz U w t c d M N a->Calls Tryz.prog f args w λ e w'=>P e/\TzTo U w w' t c d M N a'):
 Calls Tryz.prog f args w λ e w'=>P e/\LgZ U0 w0 b t c d M N a' root lv Z w'/\StZ Z w w':=by
 obtain⟨U,E,H,I,K⟩:=h;refine(T U E.tz).mono ?_;rintro e w' ⟨Y,a0⟩;obtain⟨Q,l',A,O⟩:=E.to a0;refine⟨Y,⟨Q,l',H.trans A (λ i hi q=>(I i q).elim id (λ e=>by omega)),λ k u=>(O k u).elim (I k) (λ e=>.inr (zn2 H.size e)),λ k u=>?_⟩,U,A,λ k u=>(K k u).1⟩;obtain⟨z1,z2,z3⟩:=K k u;exact⟨λ e=>(O k e).elim z1 (λ e=>by omega),z2,zn1 z3 A.size⟩
def blkZ(x:Int)(hx:0<=x/\x<=65535)(h:LgZ U0 w0 b t c d M N a root lv Z w):
 Calls Tryz.prog 29 #[tp t,.int .i64 x] w λ e w'=>∃v,e=.returned (.tuple #[v,.int .i64 (blkF a x).2])/\OwV w.heap.size 3 w' v (nums (blkF a x).1)/\LgZ U0 w0 b t c d M N a root lv (λ k=>Z k\/v.ownBlock=some k) w'/\StZ Z w w':=by
 obtain⟨U,u,K,O,Q⟩:=h;refine(ztt9 x hx w u.tz).mono ?_;rintro e w' ⟨v,I,rfl,T,Y,E,H,n1⟩;obtain⟨U',l',t',u'⟩:LwTo U w w' b t c d M N a root lv:=by exact⟨I,⟨by rw[E.block b u.lt u.nb];exact u.bx,Y,λ e=>(H b e).elim u.nb (λ e=>by have:=u.lt;omega)⟩,E,H⟩
 refine⟨v,rfl,T,⟨I,⟨by rw[E.block b u.lt u.nb];exact u.bx,Y,λ e=>(H b e).elim u.nb (λ e=>by have:=u.lt;omega)⟩,K.trans E (λ i hi q=>(O i q).elim id (λ e=>by omega)),λ k A=>(H k A).elim (O k) (λ e=>.inr (zn2 K.size e)),λ k A=>?_⟩,U,E,λ k A=>(Q k A).1⟩;rcases A with A|A
 .obtain⟨q1,q2,q3⟩:=Q k A;exact⟨λ e=>(H k e).elim q1 (λ e=>by omega),q2,zn1 q3 E.size⟩
 .have:=World.ownsRow.lt T k A;exact⟨n1 k A,λ e=>by have:=u.lt;omega,this.2⟩
end
def lgS(a:AS)(x:Int):AS:={ a with A:=(Ah.back x a.A).2,V:=updI a.V x (a.Q x) }
def lgF(K:List Int):List Int->AS->AS×Bool
 | [],a=>(a,true)
 | x::r,a=>if x∈K then lgF K r a else if (Ah.back x a.A).1=true then lgF K r (lgS a x)else(a,false)
def zerB9(l:List Int){k:Nat}(h:k<l.length):l.drop k=l.getD k 0::l.drop (k+1):=by rw[zn3,zc0 h];simp
def lgF_in{K l:List Int}{k:Nat}{a:AS}(h:k<l.length)(u:l.getD k 0∈K):lgF K (l.drop k) a=lgF K (l.drop (k+1)) a:=by rw[zerB9 l h,lgF,if_pos u]
def zya9{K l:List Int}{k:Nat}{a:AS}(h:k<l.length)(E:l.getD k 0∉K)(u:(lgF K (l.drop k) a).2=true):(Ah.back (l.getD k 0) a.A).1=true/\lgF K (l.drop k) a=lgF K (l.drop (k+1)) (lgS a (l.getD k 0)):=by
 rw[zerB9 l h,lgF,if_neg E]at u |-
 by_cases e:(Ah.back (l.getD k 0) a.A).1=true
 .rw[if_pos e];exact⟨e,rfl⟩
 .rw[if_neg e]at u;cases u
noncomputable def kpF(a:AS)(ks:List Int):List Int:=ks.flatMap λ k=>(blkF a k).1
def znx9(a:AS)(u:List Int){k:Nat}(h:k<u.length):kpF a (u.take (k+1))=kpF a (u.take k)++(blkF a (u.getD k 0)).1:=by unfold kpF;rw[List.take_add_one,zc0 h,List.flatMap_append,zn3,zc0 h];simp
def znw9(a:AS)(u:List Int)(h:∀k∈u,(blkF a k).1.length<=1000):∀k,k<=u.length->(kpF a (u.take k)).length<=1000*k
 | 0,_=>by simp[kpF]
 | k+1,hk=>by rw[znx9 a u (by omega),zf0];have A:=znw9 a u h k (by omega);have E:=h (u.getD k 0) (by rw[zn3,zc0 (by omega)];exact za1 _);omega
def zoa9{U:Nat->Prop}{b t cc d M N:Nat}{a:AS}{root:Int}{lv:Value}(x:Int)(hx:0<=x/\x<=65535)(kv:Value)(u:List Int)(w:World)(h:Lw U w b t cc d M N a root lv)
 (hk:RdV w kv (nums u)) (b7:∀j,kv.ownBlock=some j->¬U j/\j≠b/\j<w.heap.size) (bs:u.length<=1000) (b6:∀k∈u,(0<=k/\k<=65535)/\(blkF a k).2=0/\(blkF a k).1.length<=1000)
 (h0:(blkF a x).2=0) (ah:(blkF a x).1.length<=1000/\∀y∈(blkF a x).1,0<=y/\y<=65535) (aj:(lgF (kpF a u) (blkF a x).1 a).2=true):
 Calls Tryz.prog 40 #[.pointer (some ⟨b,0,none⟩),.int .i64 x,kv] w λ e w'=>e=.returned (.bool true)/\LwTo U w w' b t cc d M N (lgF (kpF a u) (blkF a x).1 a).1 root lv:=by
 have ax:LgZ U w b t cc d M N a root lv (λ k=>kv.ownBlock=some k) w:=⟨U,h,Tch.refl _ _,λ _ e=>.inl e,λ k e=>b7 k e⟩
 obtain⟨l,hl⟩:=exH ((blkF a x).1);have B1:=blkZ x hx ax;rw[h0,hl.o]at B1;rw[hl.o]at ah aj |-
 obtain⟨ab,aw⟩:=exH (lgF (kpF a u) l a);rw[aw.o]at aj |-
 have a9:=za0 B1;have c3:=ax.cell.1;obtain⟨ka,kc,rfl,bd,cd,bt⟩:=hk.len;have aq:=za0 hk;rw[zf9]at aq a9 bd |-
 obtain⟨Y,a3⟩:=exH u.length;rw[a3.o]at aq a9 bd bs |-
 obtain⟨L,hL⟩:=exH l.length;have c5:L<=1000:=by rw[<-hL.o];exact ah.1
 have bh:=za0 ah.2;have ar:=za0 b6;have bi:=za0 aj;have c2:(Y:Int)<=9223372036854775807:=by omega
 have c4:(L:Int)<=9223372036854775807:=by omega
 clear B1 ax h hk b7 b6 ah aj bt;unfold tp at a9 c3
 go_enter Tryz.func40,Tryz.ntmps40
 go_wp2_with fail;refine a9.o.mono ?_;rintro e w1 ⟨v1,rfl,o1,z1,s1⟩;obtain⟨a0,E,rfl⟩:=o1.long;rw[zf9,hL.o]at o1 z1 |-
 have c7:L<=E:=by obtain⟨_,_,e,q,_⟩:=o1.rd.len;cases e;rw[zf9,hL.o]at q;exact q
 have b3:Hid (OwV w.heap.size 3 w1 (.slice none 0 0) (nums (kpF a (u.take 0)))/\LgZ U w b t cc d M N a root lv (λ j=>(Value.slice a0 L E).ownBlock=some j\/(Value.slice ka Y kc).ownBlock=some j\/(Value.slice none 0 0).ownBlock=some j) w1/\RdV w1 (.slice a0 L E) (nums l)/\RdV w1 (.slice ka Y kc) (nums u)/\(∀j,(Value.slice none 0 0).ownBlock=some j->(Value.slice a0 L E).ownBlock≠some j/\(Value.slice ka Y kc).ownBlock≠some j)):=by
  refine⟨?_,z1.grow (R:=λ _=>False) (Tch.refl _ _) (λ _ e=>e.elim) (λ k hk=>?_),o1.rd,aq.o.st s1 (λ _ e=>e),λ j hj=>by cases hj⟩
  .rw[show kpF a (u.take 0)=[]from by simp[kpF]];exact zr9 _ _ _
  .obtain⟨_,_,_,_,zz⟩:=z1;rcases hk with e|e|e
   .exact⟨.inl (.inr e),(zz k (.inr e)).2.2⟩
   .exact⟨.inl (.inl e),(zz k (.inl e)).2.2⟩
   .cases e
 clear o1 z1 s1 a9;go_wp2_with fail
 go_loopw [9,10] (λ ov iv wr=>∃(k:Nat)(I:Option Addr)(Q O:Nat),k<=Y/\ov=.slice I Q O/\iv=.int .i64 (k:Int)/\Hid (OwV w.heap.size 3 wr (.slice I Q O) (nums (kpF a (u.take k)))/\LgZ U w b t cc d M N a root lv (λ j=>(Value.slice a0 L E).ownBlock=some j\/(Value.slice ka Y kc).ownBlock=some j\/(Value.slice I Q O).ownBlock=some j) wr/\RdV wr (.slice a0 L E) (nums l)/\RdV wr (.slice ka Y kc) (nums u)/\(∀j,(Value.slice I Q O).ownBlock=some j->(Value.slice a0 L E).ownBlock≠some j/\(Value.slice ka Y kc).ownBlock≠some j))) (λ _ iv _=>Y-(intOf iv).toNat)
 case atStart=>exact⟨0,none,0,0,zn7 _,rfl,rfl,b3⟩
 case round=>
  clear b3;obtain⟨k,I,Q,O,hk,rfl,rfl,HI⟩:=hrel;by_cases h1:k<Y
  .have d1:decide ((k:Int)<(Y:Int))=true:=by rw[zm0];omega
   (have bm:=zm1 h1;obtain⟨y,hy⟩:=exH (u.getD k 0);have bc:y∈u:=by rw[<-hy.o,zn3,zc0 (by rw[a3.o];exact h1)];exact za1 _);obtain⟨ac,ba,az⟩:=ar.o y bc;obtain⟨kb,ko,rfl,ck⟩:=HI.o.2.2.2.1.at (zew9 u (by rw[a3.o];exact h1));rw[hy.o]at ck;(have i0:(0:Int)<=(k:Int):=by omega);(have i1:(k:Int)<(Y:Int):=by omega);have v1:=wk_nat (x:=(k:Int)+1) (t:=k+1) (by omega) (by omega);have v2:=zu9 (x:=(k:Int)+1) (t:=k+1) (by clear v1;omega) (by clear v1;omega);have HK:=za0 h1;have B2:=blkZ y ac HI.o.2.1.drew;rw[ba]at B2;obtain⟨yl,bb⟩:∃q,Hid ((blkF a y).1=q):=⟨_,rfl⟩
   rw[bb.o]at B2 az;have am:=za0 B2;have bl:=za0 az;have hS:wr.drew.cell? ⟨b,3,none⟩=some (tp t)/\wr.drew.cell? ⟨kb,ko+k,none⟩=some (.int .i64 y):=⟨HI.o.2.1.drew.cell.1,ck⟩
   (have a2:Hid (∀H (v6:Value) (Z6:Nat->Prop),LgZ U w b t cc d M N a root lv Z6 H->StZ (λ j=>(Value.slice a0 L E).ownBlock=some j\/(Value.slice (some ⟨kb,ko,none⟩) Y kc).ownBlock=some j\/(Value.slice I Q O).ownBlock=some j) wr.drew H->H.cell? ⟨b,3,none⟩=some (tp t)/\H.cell? ⟨kb,ko+k,none⟩=some (.int .i64 y)):=λ H v6 Z6 q1 q2=>by have r6:=(HI.o.2.2.2.1.st (StZ.drew _ wr) (Z:=λ _=>True) (λ _ _=>trivial)).st q2 (λ j e=>.inr (.inl e));obtain⟨ca,ce,e,c6⟩:=r6.at (zew9 u (by rw[a3.o];exact HK.o));cases e;rw[hy.o]at c6;exact⟨q1.cell.1,c6⟩);clear B2 ck bc ac ba az;unfold tp at am a2 hS;go_wp2_with fail
   go_region_held3 (λ w'=>w'.cell? ⟨b,3,none⟩=some (.pointer (some ⟨t,0,none⟩))/\w'.cell? ⟨kb,ko+k,none⟩=some (.int .i64 y)) (first|go_keep|exact a8)
    (first
     | (go_at_call 29;refine am.o.mono ?_;rintro e H ⟨v6,rfl,o6,z6,s6⟩;have a8:=a2.o H v6 _ z6 s6;have b1:=za0 o6.long;obtain⟨bx,bz,rfl⟩:=b1.o;have H6:=za0 (And.intro o6 (And.intro z6 s6));clear o6 z6 s6 b1))
   obtain⟨c0,b8⟩:=exN ((nums yl).length);rw[b8]at H6 |-
   have a5:Hid (OwV w.heap.size 3 H (.slice I Q O) (nums (kpF a (u.take k)))/\RdV H (.slice a0 L E) (nums l)/\RdV H (.slice (some ⟨kb,ko,none⟩) Y kc) (nums u)):=by have q0:StZ (λ j=>(Value.slice a0 L E).ownBlock=some j\/(Value.slice (some ⟨kb,ko,none⟩) Y kc).ownBlock=some j\/(Value.slice I Q O).ownBlock=some j) wr wr.drew:=StZ.drew _ _;exact⟨(HI.o.1.st q0 (λ j e=>.inr (.inr e))).st H6.o.2.2 (λ j e=>.inr (.inr e)),(HI.o.2.2.1.st q0 (λ j e=>.inl e)).st H6.o.2.2 (λ j e=>.inl e),(HI.o.2.2.2.1.st q0 (λ j e=>.inr (.inl e))).st H6.o.2.2 (λ j e=>.inr (.inl e))⟩
   (have ae:Hid ((nums (kpF a (u.take k))).length+(nums yl).length<=1001000):=by show _<=_;rw[zf9,zf9];have q1:=znw9 a u (λ k hk=>(ar.o k hk).2.2) k (by have:=a3.o;omega);have q2:=bl.o;omega);(have al:Hid ((nums (kpF a (u.take k))).length+(nums yl).length<=9223372036854775807/\((nums (kpF a (u.take k))).length+(nums yl).length)*8<=140737488355328):=by have:=ae.o;exact⟨by omega,by omega⟩);have b4:Hid (kpF a (u.take (k+1))=kpF a (u.take k)++yl):=by show _=_;rw[znx9 a u (by rw[a3.o];exact HK.o),hy.o,bb.o]
   clear hS a8 am a2;go_wp2_with(at_builtin;refine zs9 _ rfl (.tmp 46) (.tmp 47) 56 rfl 3 _ 8 elemIN (.slice I Q O) (nums (kpF a (u.take k))) rfl a5.o.1.owns (.slice bx c0 bz) (nums yl) rfl H6.o.1.rd (zcq9 _) al.o.1 al.o.2 ?_)
   rintro v7 W7 o7 g7;have ap:Hid (OwV w.heap.size 3 W7 v7 (nums (kpF a (u.take (k+1))))/\LgZ U w b t cc d M N a root lv (λ j=>(Value.slice a0 L E).ownBlock=some j\/(Value.slice (some ⟨kb,ko,none⟩) Y kc).ownBlock=some j\/v7.ownBlock=some j) W7/\RdV W7 (.slice a0 L E) (nums l)/\RdV W7 (.slice (some ⟨kb,ko,none⟩) Y kc) (nums u)/\(∀j,v7.ownBlock=some j->(Value.slice a0 L E).ownBlock≠some j/\(Value.slice (some ⟨kb,ko,none⟩) Y kc).ownBlock≠some j)):=by
    (obtain⟨o6,z6,s6⟩:=H6.o;have c9:=z6.size;have av:=HI.o.2.2.2.2;have zl:∀j,((Value.slice a0 L E).ownBlock=some j\/(Value.slice (some ⟨kb,ko,none⟩) Y kc).ownBlock=some j\/(Value.slice I Q O).ownBlock=some j)->j<H.heap.size:=λ j hj=>by obtain⟨_,_,_,_,q⟩:=z6;exact(q j (.inl hj)).2.2);have bp:∀j,v7.ownBlock=some j->w.heap.size<=j:=λ j hj=>by
     rcases g7.2 j hj with e|e
     .exact a5.o.1.ge j e
     .omega
    (have be:OwV w.heap.size 3 W7 v7 (nums (kpF a (u.take (k+1)))):=by rw[b4.o,show nums (kpF a (u.take k)++yl)=nums (kpF a (u.take k))++nums yl from by unfold nums;simp];exact OwV.of o7 bp);refine⟨be,z6.grow g7.1 (λ j hj=>⟨.inl (.inr (.inr hj)),a5.o.1.ge j hj⟩) (λ j hj=>?_),a5.o.2.1.tch g7.1 (λ j e q=>(av j q).1 e),a5.o.2.2.tch g7.1 (λ j e q=>(av j q).2 e),λ j hj=>?_⟩
    .rcases hj with e|e|e
     .exact⟨.inl (.inl (.inl e)),zn1 (zl j (.inl e)) g7.1.size⟩
     .exact⟨.inl (.inl (.inr (.inl e))),zn1 (zl j (.inr (.inl e))) g7.1.size⟩
     .refine⟨?_,(World.ownsRow.lt be j e).2⟩;rcases g7.2 j e with q|q
      .exact .inl (.inl (.inr (.inr q)))
      .exact .inr q
    .rcases g7.2 j hj with q|q
     .exact av j q
     .exact⟨λ e=>by have:=zl j (.inl e);omega,λ e=>by have:=zl j (.inr (.inl e));omega⟩
   have b2:=za0 (OwnsV.rd o7).long;obtain⟨cf,cg,rfl⟩:=b2.o;obtain⟨ch,b9⟩:=exN ((nums (kpF a (u.take k))++nums yl).length);rw[b9]at ap |-
   clear o7 g7 b2 b9 H6 a5 ae al b4 b8;go_wp2_with fail;clear v1 v2;have bq:=HK.o
   first
    | exact⟨⟨k+1,_,_,_,by omega,by rfl,by rfl,ap⟩,by simp[intOf];omega⟩
    | (go_roundw
       (case rel=>exact⟨k+1,_,_,_,by omega,by rfl,by rfl,ap⟩);case measure=>simp[intOf];omega)
  .have d1:decide ((k:Int)<(Y:Int))=false:=by rw[zn4];omega
   (have bm:=zl1 h1;obtain⟨K,hK⟩:=exH (kpF a u);(have au:Hid (kpF a (u.take k)=K):=by show _=_;rw[zn5 (by have:=a3.o;omega),hK.o]);have ae:Hid (K.length<=1000000):=by show _<=_;rw[<-au.o];have q1:=znw9 a u (λ k hk=>(ar.o k hk).2.2) k (by have:=a3.o;omega);omega);rw[hK.o]at aw;have b0:Hid (∃ak,LgZ U w b t cc d M N ak root lv (λ j=>(Value.slice a0 L E).ownBlock=some j\/(Value.slice I Q O).ownBlock=some j) wr/\RdV wr (.slice a0 L E) (nums l)/\RdV wr (.slice I Q O) (nums K)/\lgF K (l.drop 0) ak=ab):=by
    obtain⟨q1,q2,q3,q4,q5⟩:=HI.o;refine⟨a,q2.grow (R:=λ _=>False) (Tch.refl _ _) (λ _ e=>e.elim) (λ j hj=>?_),q3,?_,aw.o⟩
    .obtain⟨_,_,_,_,q⟩:=q2;rcases hj with e|e
     .exact⟨.inl (.inl e),(q j (.inl e)).2.2⟩
     .exact⟨.inl (.inr (.inr e)),(q j (.inr (.inr e))).2.2⟩
    .rw[<-au.o];exact q1.rd
   clear HI au;go_wp2_with fail
   go_loopw [13] (λ iv wx=>∃k:Nat,k<=L/\iv=.int .i64 (k:Int)/\Hid (∃ak,LgZ U w b t cc d M N ak root lv (λ j=>(Value.slice a0 L E).ownBlock=some j\/(Value.slice I Q O).ownBlock=some j) wx/\RdV wx (.slice a0 L E) (nums l)/\RdV wx (.slice I Q O) (nums K)/\lgF K (l.drop k) ak=ab)) (λ iv _=>L-(intOf iv).toNat)
   (case atStart=>exact⟨0,zn7 _,rfl,b0⟩);case round=>
    clear b0;obtain⟨T,bq,rfl,HJ⟩:=hrel;by_cases g1:T<L
    .have e1:decide ((T:Int)<(L:Int))=true:=by rw[zm0];omega
     (have bn:=zm1 g1;obtain⟨ak,z0,r1,r2,a1⟩:=HJ.o;obtain⟨y,hy⟩:=exH (l.getD T 0);(have ai:T<l.length:=by rw[hL.o];exact g1);have ac:0<=y/\y<=65535:=by refine bh.o y ?_;rw[<-hy.o,zn3,zc0 ai];exact za1 _);obtain⟨lb,lo,rfl,ck⟩:=r1.at (zew9 l ai);rw[hy.o]at ck;(have i0:(0:Int)<=(T:Int):=by omega);(have i1:(T:Int)<(L:Int):=by omega);have v1:=wk_nat (x:=(T:Int)+1) (t:=T+1) (by omega) (by omega);have v2:=zu9 (x:=(T:Int)+1) (t:=T+1) (by clear v1;omega) (by clear v1;omega);have ad:=za0 g1;have WI:=zpw9 (.slice I Q O) K y _ r2 ae.o;by_cases hm:y∈K
     .have a4:=a1;rw[lgF_in ai (by rw[hy.o];exact hm)]at a4;rw[zm1 hm]at WI;have ag:=za0 WI;have aa:Hid (∃ak,LgZ U w b t cc d M N ak root lv (λ j=>(Value.slice (some ⟨lb,lo,none⟩) L E).ownBlock=some j\/(Value.slice I Q O).ownBlock=some j) _/\RdV _ (.slice (some ⟨lb,lo,none⟩) L E) (nums l)/\RdV _ (.slice I Q O) (nums K)/\lgF K (l.drop (T+1)) ak=ab):=⟨ak,z0,r1,r2,a4⟩
      clear HJ z0 r1 r2 a1 a4 WI hm;go_wp2_with fail;refine ag.o.mono ?_;rintro e W5 ⟨rfl,rfl⟩;go_wp2_with fail;clear v1 v2;have br:=ad.o
      first
       | exact⟨⟨T+1,by omega,by rfl,aa⟩,by simp[intOf];omega⟩
       | (go_roundw
          (case rel=>exact⟨T+1,by omega,by rfl,aa⟩);case measure=>simp[intOf];omega)
     .obtain⟨ay,a4⟩:=zya9 ai (by rw[hy.o];exact hm) (by rw[a1];exact bi.o);rw[a1]at a4;rw[hy.o]at a4 ay;rw[zl1 hm]at WI;have ag:=za0 WI;have BK:=z0.drew.calls (P:=λ e=>e=.returned (.bool (Ah.back y ak.A).1)) (λ U q=>tzBack y _ q);rw[ay]at BK;have an:=za0 BK;have bj:=za0 r1;have bk:=za0 r2;have hS:wr.drew.cell? ⟨b,2,none⟩=some (mp M)/\wr.drew.cell? ⟨lb,lo+T,none⟩=some (.int .i64 y):=⟨z0.drew.cell.2.1,ck⟩
      have a2:Hid (∀H a6,LgZ U w b t cc d M N a6 root lv (λ j=>(Value.slice (some ⟨lb,lo,none⟩) L E).ownBlock=some j\/(Value.slice I Q O).ownBlock=some j) H->StZ (λ j=>(Value.slice (some ⟨lb,lo,none⟩) L E).ownBlock=some j\/(Value.slice I Q O).ownBlock=some j) wr.drew H->(H.cell? ⟨b,2,none⟩=some (mp M)/\H.cell? ⟨lb,lo+T,none⟩=some (.int .i64 y))/\RdV H (.slice (some ⟨lb,lo,none⟩) L E) (nums l)/\RdV H (.slice I Q O) (nums K)):=λ H a6 q1 q2=>by
       have q0:StZ (λ j=>(Value.slice (some ⟨lb,lo,none⟩) L E).ownBlock=some j\/(Value.slice I Q O).ownBlock=some j) wr wr.drew:=StZ.drew _ _;have r6:=(bj.o.st q0 (λ j e=>.inl e)).st q2 (λ j e=>.inl e);obtain⟨bu,bw,e,c6⟩:=r6.at (zew9 l (by rw[hL.o];exact ad.o));cases e;rw[hy.o]at c6;exact⟨⟨q1.cell.2.1,c6⟩,r6,(bk.o.st q0 (λ j e=>.inr e)).st q2 (λ j e=>.inr e)⟩
      have bg:=za0 a4;have b5:=za0 ac;clear HJ z0 r1 r2 a1 a4 WI hm BK ay ac;unfold mp at an hS a2;go_wp2_with fail;refine ag.o.mono ?_;rintro e W5 ⟨rfl,rfl⟩;go_wp2_with fail
      go_region_held3 (λ w'=>w'.cell? ⟨b,2,none⟩=some (.pointer (some ⟨M,0,none⟩))/\w'.cell? ⟨lb,lo+T,none⟩=some (.int .i64 y)) (first|go_keep|exact a8)
       (first
        | (go_at_call 75;refine an.o.mono ?_;rintro e H ⟨rfl,z6,s6⟩;have a8:=(a2.o H _ z6 s6).1;have H6:=za0 (And.intro z6 (a2.o H _ z6 s6).2);clear z6 s6))
      have FG:=H6.o.1.drew.calls (P:=λ e=>e=.returned (.tuple #[])) (λ U q=>zpv9 y (zay9 (by have:=b5.o;omega) (by have:=b5.o;omega)) _ q);have ao:=za0 FG;have hT:H.drew.cell? ⟨b,1,none⟩=some (cp cc)/\H.drew.cell? ⟨lb,lo+T,none⟩=some (.int .i64 y):=⟨H6.o.1.drew.cell.2.2,a8.2⟩
      have af:Hid (∀W7 a7,LgZ U w b t cc d M N a7 root lv (λ j=>(Value.slice (some ⟨lb,lo,none⟩) L E).ownBlock=some j\/(Value.slice I Q O).ownBlock=some j) W7->StZ (λ j=>(Value.slice (some ⟨lb,lo,none⟩) L E).ownBlock=some j\/(Value.slice I Q O).ownBlock=some j) H.drew W7->(W7.cell? ⟨b,1,none⟩=some (cp cc)/\W7.cell? ⟨lb,lo+T,none⟩=some (.int .i64 y))/\RdV W7 (.slice (some ⟨lb,lo,none⟩) L E) (nums l)/\RdV W7 (.slice I Q O) (nums K)):=λ W7 a7 q1 q2=>by
       have q0:StZ (λ j=>(Value.slice (some ⟨lb,lo,none⟩) L E).ownBlock=some j\/(Value.slice I Q O).ownBlock=some j) H H.drew:=StZ.drew _ _;have r6:=(H6.o.2.1.st q0 (λ j e=>.inl e)).st q2 (λ j e=>.inl e);obtain⟨bu,bw,e,c6⟩:=r6.at (zew9 l (by rw[hL.o];exact ad.o));cases e;rw[hy.o]at c6;exact⟨⟨q1.cell.2.2,c6⟩,r6,(H6.o.2.2.st q0 (λ j e=>.inr e)).st q2 (λ j e=>.inr e)⟩
      clear FG hS a8 an a2 ag;unfold cp at ao hT af;go_wp2_with fail
      go_region_held3 (λ w'=>w'.cell? ⟨b,1,none⟩=some (.pointer (some ⟨cc,0,none⟩))/\w'.cell? ⟨lb,lo+T,none⟩=some (.int .i64 y)) (first|go_keep|exact bo|exact hT)
       (first
        | (go_at_call 76;refine ao.o.mono ?_;rintro e W7 ⟨rfl,z7,s7⟩;have bo:=(af.o W7 _ z7 s7).1;have H7:=za0 (And.intro z7 (af.o W7 _ z7 s7).2);clear z7 s7))
      have aa:Hid (∃ak,LgZ U w b t cc d M N ak root lv (λ j=>(Value.slice (some ⟨lb,lo,none⟩) L E).ownBlock=some j\/(Value.slice I Q O).ownBlock=some j) W7/\RdV W7 (.slice (some ⟨lb,lo,none⟩) L E) (nums l)/\RdV W7 (.slice I Q O) (nums K)/\lgF K (l.drop (T+1)) ak=ab):=⟨lgS ak y,H7.o.1,H7.o.2.1,H7.o.2.2,bg.o.symm⟩
      clear H6 H7 hT ao af;go_wp2_with fail;clear v1 v2;have br:=ad.o
      first
       | exact⟨⟨T+1,by omega,by rfl,aa⟩,by simp[intOf];omega⟩
       | (go_roundw
          (case rel=>exact⟨T+1,by omega,by rfl,aa⟩);case measure=>simp[intOf];omega)
    .have e1:decide ((T:Int)<(L:Int))=false:=by rw[zn4];omega
     have bn:=zl1 g1;obtain⟨ak,z0,r1,r2,a1⟩:=HJ.o;rw[List.drop_of_length_le (by rw[hL.o];omega)]at a1;have bf:=za0 z0.lwTo;(have HE:Hid (ab.1=ak):=by show _=_;rw[<-a1];rfl);clear HJ z0 r1 r2 a1;go_wp2_with fail;go_ret;rw[HE.o];exact⟨rfl,bf.o⟩
end Go.Proofs.YtcmjlibndmneiaaGreat
namespace Go.Proofs.YtcmjlibndmneiaaGreat
open Go.RowKit
def zgn9{a:AS}{B:List Int}(E:∀y,B.count y<=1)(h:∀y∈B,Ah.stv a.A y=1):B.length<=a.A.L.length:=by
 have u:(B.map λ y:Int=>y-(a.A.lo:Int)).Nodup:=by refine List.Pairwise.map _ (λ p q H=>?_) (List.nodup_iff_count.2 E);intro e;exact H (by omega)
 have:=zev9 a.A.L.length (B.map λ y:Int=>y-(a.A.lo:Int)) u (λ y I=>by
  obtain⟨z,K,rfl⟩:=List.mem_map.1 I;have:=zby9 (s:=a.A) (x:=z) (by rw[h z K];decide);omega)
 simpa using this
def Fo.ent{P:Int->ByteArray->Option ByteArray->List E2->List Int->Prop}{m:Nat}(u:∀x k hi L B,P x k hi L B->L.length<=m*B.length):∀{ks xs hi L B},Fo P ks xs hi L B->L.length<=m*B.length
 | [],[],_,_,_,⟨rfl,rfl⟩=>by simp
 | _::ks,_::_,_,_,_,⟨L1,L2,B1,B2,p,q,rfl,rfl⟩=>by have:=u _ _ _ _ _ p;have:=Fo.ent u q;rw[zf0,zf0,Nat.mul_add];omega
 | [],_::_,_,_,_,h=>h.elim
 | _::_,[],_,_,_,h=>h.elim
def Nod.ent{V:Int->Int×Nd}{c:Nat}:∀{h n lo hi L B},Nod V c h n lo hi L B->sz n<=240->L.length<=240*(B.length+1)
 | 0,n,_,_,_,_,⟨h1,h2,rfl,rfl⟩,hs=>by have:=szN_ge n n.ks.length;unfold sz at hs;rw[List.length_zip];simp only[List.length_nil];omega
 | h+1,n,_,_,L,B,⟨h1,h2,h3⟩,_=>by
  have:=h3.ent (m:=240) (by
   rintro x k hi L B ⟨m,E,H,I,K,u,A,rfl⟩;have:=Nod.ent A u;rw[zk0];exact this)
  omega
structure KpB(a:AS)(x:Int)(L:List E2)(lev:Nat)(B:List Int):Prop where
 tr:Tr a.V 1 lev x L B
 nd:∀y,B.count y<=1
 tk:∀y∈B,Ah.stv a.A y=1
 lw:lvw a.V lev x 13<=15/\lvw a.V lev x 14<=8
 am:Amp a
 ln:a.A.L.length<=300
section
variable {a a':AS} {x x':Int} {L L':List E2} {lev lev':Nat} {B B':List Int}
def Tr.mem{V:Int->Int×Nd}{c:Nat}(h:Tr V c lev x L B)(u:lev≠0):x∈B:=by
 cases lev with
 | zero=>exact absurd rfl u
 | succ k=>obtain⟨_,_,n,A,_,_,_,_,_,rfl⟩:=h;simp
def KpB.mv(h:KpB a x L lev B)(hv:∀y∈B,a'.V y=a.V y)(K:∀y∈B,Ah.stv a'.A y=Ah.stv a.A y)(u:a'.A.lo=a.A.lo)(E:a'.A.L.length=a.A.L.length)(I:a.A.as=0->a'.A.as=0):KpB a' x L lev B:=
 ⟨h.tr.congr hv,h.nd,λ y H=>by rw[K y H];exact h.tk y H,by rw[h.tr.lvw hv,h.tr.lvw hv];exact h.lw,
  ⟨by have:=h.am.ao;unfold Ao at *;rw[u,E];exact this,by rw[u];exact h.am.lo,I h.am.sa⟩,by rw[E];exact h.ln⟩
def KpB.len(h:KpB a x L lev B):B.length<=300/\L.length<=100000:=by
 have A:=zgn9 h.nd h.tk;have K:=h.ln;refine⟨by omega,?_⟩;have u:=h.tr;cases lev with
 | zero=>rw[u.2.1];simp
 | succ k=>obtain⟨_,_,n,I,_,_,_,H,E,rfl⟩:=u;have:=E.ent H;rw[zk0]at A;omega
def KpB.xr(h:KpB a x L lev B):0<=x/\x<=65535:=by
 by_cases e:lev=0
 .have:=h.tr;subst e;rw[this.1];omega
 .have:=zby9 (s:=a.A) (x:=x) (by rw[h.tk x (h.tr.mem e)];decide);have ha:=h.am.ao;unfold Ao at ha;omega
def KpB.blk(h:KpB a x L lev B):(blkF a x).2=0/\(∀y,y∈(blkF a x).1↔y∈B)/\(blkF a x).1.length<=300/\(blkF a x).1.Nodup:=by
 obtain⟨u,A⟩:=zwj9 (zn6 _) h.tr h.nd;have e:blkF a x=(srt B,0):=by unfold blkF;rw[if_neg (by rw[u];decide),A]
 rw[e];refine⟨rfl,λ y=>(zpm9 B).mem_iff,by rw[zpl9];exact h.len.1,(zpm9 B).nodup_iff.2 (List.nodup_iff_count.2 h.nd)⟩
def KpB.levs(h:KpB a x L lev B):levF a x=((lev:Int),0)/\lev<=16:=by
 obtain⟨u,A⟩:=zxy9 (zn6 _) h.tr h.nd;refine⟨by unfold levF;rw[if_neg (by rw[u];decide),A],?_⟩;have:=h.tr;cases lev with
 | zero=>omega
 | succ k=>have:=this.1;omega
def zny9{d:CD}{op:List E2->List E2}(hd:LfOk d op)(h:KpB a x L lev B)(a8:d.jn=true->∃e∈L,e.1=d.key):
 ((madeF d a x).e=10/\a.A.L.count 0<2*lev+1/\KpB (madeF d a x).a x L lev B/\(madeF d a x).a.A.L.count 0=a.A.L.count 0/\((∀y,a.F y=false)->∀y,(madeF d a x).a.F y=false))\/
 ((madeF d a x).e=0/\((∀y,a.F y=false)->KpB (madeF d a x).a x L lev B)/\∃lev' B',KpB (madeF d a x).a (madeF d a x).x (op L) lev' B'):=by
 have hm:=zrq9 hd (zn6 1) (by decide) (λ _=>rfl) h.tr h.nd h.tk h.am.ao h.am.lo a8;obtain⟨r,hr⟩:=exN (rootedF d a ch0 x);rw[hr]at hm;obtain⟨T,X,E,a6,hR⟩:=hm;have Q:∀y∈B,y∉T:=λ y u H=>by have:=E.fr y H;have:=h.tk y u;omega
 have O:=h.mv (λ y u=>E.v y (Q y u)) (λ y u=>E.st y (Q y u)) E.lo E.ln E.sa;have new:∀{B':List Int},(∀y,B'.count y+X.count y=B.count y+T.count y)->(∀y,B'.count y<=1)/\(∀y∈B',Ah.stv r.a.A y=1):=fun{B'} K=>by
  refine⟨λ y=>?_,λ y u=>?_⟩
  .have h2:=K y;have h3:=h.nd y;have h4:=List.nodup_iff_count.1 E.nd y;by_cases H:y∈T
   .have h5:B.count y=0:=List.count_eq_zero.2 (λ hb=>Q y hb H);omega
   .have:T.count y=0:=List.count_eq_zero.2 H;omega
  .by_cases H:y∈T
   .exact E.tk y H
   .rw[E.st y H];refine h.tk y (List.count_pos_iff.1 ?_);have h2:=K y;have h3:=List.count_pos_iff.2 u;have:T.count y=0:=List.count_eq_zero.2 H;omega
 rcases hR with⟨e,c0,tl⟩|⟨e,ad,af,B',p,q,K,hP,hW⟩|⟨e,⟨a5,a7⟩,tl,⟨B',lev',K,hT,hW⟩,hj⟩
 .left;have e0:madeF d a x=⟨0,10,r.a.gos T⟩:=by unfold madeF;simp only[hr];rw[if_pos (by rw[e];decide),e,a6]
  obtain⟨g1,g2,g3,g4,g5⟩:=gos_A T r.a E.nd E.tk;have:=E.ct;rw[e0];refine⟨rfl,by omega,O.mv (λ y u=>by show(r.a.gos T).V y=_;rw[(gos_V T r.a y).1,if_neg (Q y u)]) (λ y u=>by show Ah.stv (r.a.gos T).A y=_;rw[g1,if_neg (Q y u)]) g3 g4 (λ e=>g5.trans e),by show(r.a.gos T).A.L.count 0=_;omega,λ hF y=>?_⟩;show(r.a.gos T).F y=false;rw[gos_FP];split
  .rfl
  .rename_i H;rw[E.f y H];exact hF y
 .exfalso;obtain⟨n1,n2⟩:=new K;have hl:=zgn9 n1 n2;have a9:=O.ln;cases lev with
  | zero=>omega
  | succ k=>
   obtain⟨_,_,n,B1,Y,_⟩:=h.tr;obtain⟨a0,a1⟩:=h.lw;have w:=hW n Y;(have a3:lvw a.V (k+1) x 13=nw a.V 2 n:=by unfold lvw;rw[if_pos (by omega),Y,show k+1-1-13=2 by omega]);(have a4:lvw a.V (k+1) x 14=nw a.V 1 n:=by unfold lvw;rw[if_pos (by omega),Y,show k+1-1-14=1 by omega]);rw[a3]at a0;rw[a4]at a1;have w0:=w 0 (by omega);have w1:=w 1 (by omega);have w2:=w 2 (by omega);rw[zdh9,show nw a.V 0 n=1 from rfl]at w0;simp only[Nat.reduceAdd]at w0 w1 w2;have hb:13*wsum r.a.V 3 [p,q]+4<=B'.length:=by
    generalize op L=OL at hP;cases hP with
    | two b1 l1 s1 b2 l2 s2 m1 m2=>have q1:=m1.wblk (zn6 1) (j:=3) (by omega) (by omega);have I:=m2.wblk (zn6 1) (j:=3) (by omega) (by omega);simp only[wsum,List.map_cons,List.map_nil,List.sum_cons,List.sum_nil,zf0];omega
   simp only[zk0,List.length_nil]at w0;omega
 .right;have e0:madeF d a x=⟨r.x,0,r.a.gos (X.filter a.F)⟩:=by unfold madeF;simp only[hr];rw[if_neg (by rw[e];decide),a5]
  obtain⟨n1,n2⟩:=new K;have hl:=zgn9 n1 n2;have a9:=O.ln;have xc:∀y,X.count y<=1/\(y∈B'->y∉X):=λ y=>by
   have q1:=K y;have I:=h.nd y;have q3:T.count y<=1:=List.nodup_iff_count.1 E.nd y;have q4:B.count y=0\/T.count y=0:=by
    by_cases c:y∈B
    .exact .inr (List.count_eq_zero.2 (Q y c))
    .exact .inl (List.count_eq_zero.2 c)
   refine⟨by omega,λ u hx=>?_⟩;have:=List.count_pos_iff.2 u;have:=List.count_pos_iff.2 hx;omega
  have fx:∀y∈X.filter a.F,y∈X:=λ y u=>(List.mem_filter.1 u).1;obtain⟨g1,g2,g3,g4,g5⟩:=gos_A (X.filter a.F) r.a (List.Pairwise.filter _ (List.nodup_iff_count.2 (λ y=>(xc y).1))) (λ y u=>O.tk y (a7 y (fx y u)));rw[e0];have ag:=hW 12 (by omega);have ab:=hW 13 (by omega);have ac:=hW 14 (by omega);obtain⟨a0,a1⟩:=h.lw;have hb:lvw r.a.V lev' r.x 13<=2\/13*lvw r.a.V lev' r.x 12+2<=B'.length:=by
   cases lev' with
   | zero=>left;simp[lvw]
   | succ k=>
    obtain⟨ae,_,m,B1,Y,b1,c1,_,d1,eB⟩:=hT;by_cases q:14<=k
    .right;have q1:=d1.wblk (zn6 1) (j:=k-12) (by omega) c1;(have a2:lvw r.a.V (k+1) r.x 12=nw r.a.V (k-12) m:=by unfold lvw;rw[if_pos (by omega),Y,show k+1-1-12=k-12 by omega]);rw[a2,eB,zk0];rw[show k-(k-12)+1=13 by omega]at q1;omega
    .left;unfold lvw;by_cases I:13<k+1
     .rw[if_pos I,show k+1-1-13=0 by omega];simp[nw]
     .rw[if_neg I];omega
  have aa:lvw r.a.V lev' r.x 13<=15:=by
   rcases ab with q|q|⟨_,q,I⟩
   .omega
   .omega
   .have I:lvw a.V lev x 13+8<=lvw r.a.V lev' r.x 12:=I;omega
  have kn:KpB r.a r.x (op L) lev' B':=by
   refine⟨hT,n1,n2,⟨aa,?_⟩,O.am,O.ln⟩;rcases ac with q|q|⟨_,q,I⟩
   .show lvw r.a.V lev' r.x 14<=8;omega
   .show lvw r.a.V lev' r.x 14<=8;omega
   .have I:lvw a.V lev x 14+8<=lvw r.a.V lev' r.x 13:=I;show lvw r.a.V lev' r.x 14<=8;omega
  refine⟨rfl,λ hF=>?_,lev',B',kn.mv (λ y u=>?_) (λ y u=>?_) g3 g4 (λ e=>g5.trans e)⟩
  .show KpB (r.a.gos (X.filter a.F)) x L lev B;rw[List.filter_eq_nil_iff.2 (λ y _=>by rw[hF y];decide)];exact O
  .show(r.a.gos (X.filter a.F)).V y=_;rw[(gos_V _ r.a y).1,if_neg (λ e=>(xc y).2 u (fx y e))]
  .show Ah.stv (r.a.gos (X.filter a.F)).A y=_;rw[g1,if_neg (λ e=>(xc y).2 u (fx y e))]
def lg_ok(K:List Int):∀(l:List Int)(a:AS),l.Nodup->(∀y∈l,Ah.stv a.A y=1)->(lgF K l a).2=true/\(∀y∈K,(lgF K l a).1.V y=a.V y/\Ah.stv (lgF K l a).1.A y=Ah.stv a.A y)/\(lgF K l a).1.A.lo=a.A.lo/\(lgF K l a).1.A.L.length=a.A.L.length/\(lgF K l a).1.A.as=a.A.as
 | [],a,_,_=>⟨rfl,λ y _=>⟨rfl,rfl⟩,rfl,rfl,rfl⟩
 | x::l,a,hn,hs=>by
  obtain⟨n1,O⟩:=List.nodup_cons.1 hn;by_cases E:x∈K
  .rw[lgF,if_pos E];exact lg_ok K l a O (λ y u=>hs y (zq0 _ u))
  .have I:=hs x zp0;obtain⟨T,g2,Y,g4,g5⟩:=go_A I;have hr:=zby9 (s:=a.A) (x:=x) (by rw[I];decide);(have hb:(Ah.back x a.A).1=true:=by unfold Ah.back;rw[if_neg (by omega)]);have H:∀y,Ah.stv (lgS a x).A y=if y=x then 0 else Ah.stv a.A y:=T;obtain⟨t1,t2,t3,t4,t5⟩:=lg_ok K l (lgS a x) O (λ y u=>by
    rw[H,if_neg (fun(e:y=x)=>n1 (e▸u))];exact hs y (zq0 _ u))
   rw[lgF,if_neg E,if_pos hb];refine⟨t1,λ y u=>?_,t3.trans Y,t4.trans g4,t5.trans g5⟩;have Q:y≠x:=λ e=>E (e▸u);obtain⟨u1,u2⟩:=t2 y u;exact⟨u1.trans (zcj9 _ _ Q),by rw[u2,H,if_neg Q]⟩
def kp_let(h:KpB a x L lev B)(A:KpB a x' L' lev' B'):(lgF (kpF a [x']) (blkF a x).1 a).2=true/\KpB (lgF (kpF a [x']) (blkF a x).1 a).1 x' L' lev' B':=by
 obtain⟨b1,I,b3,K⟩:=h.blk;obtain⟨c1,O,c3,c4⟩:=A.blk;have E:∀y∈B',y∈kpF a [x']:=λ y u=>by unfold kpF;simp[O y,u]
 obtain⟨Q,H,T,Y,t5⟩:=lg_ok (kpF a [x']) (blkF a x).1 a K (λ y u=>h.tk y ((I y).1 u));exact⟨Q,A.mv (λ y u=>(H y (E y u)).1) (λ y u=>(H y (E y u)).2) T Y (λ e=>t5.trans e)⟩
end
def Fo.all{P:Int->ByteArray->Option ByteArray->List E2->List Int->Prop}{q:E2->Prop}(A:∀x k hi L B,P x k hi L B->∀e∈L,q e):∀{ks xs hi L B},Fo P ks xs hi L B->∀e∈L,q e
 | [],[],_,_,_,⟨rfl,rfl⟩=>λ e u=>by cases u
 | _::ks,_::_,_,_,_,⟨L1,L2,B1,B2,p,r,rfl,rfl⟩=>λ e u=>(zi0.1 u).elim (A _ _ _ _ _ p e) (Fo.all A r e)
 | [],_::_,_,_,_,h=>h.elim
 | _::_,[],_,_,_,h=>h.elim
def Nod.k24{V:Int->Int×Nd}{c:Nat}:∀{h n lo hi L B},Nod V c h n lo hi L B->Bm n->∀e∈L,e.1.size<=24
 | 0,n,_,_,_,_,⟨h1,h2,rfl,rfl⟩,hb=>λ e E=>hb.ks _ (List.of_mem_zip E).1
 | h+1,n,_,_,L,B,⟨h1,h2,h3⟩,_=>h3.all (by
  rintro x k hi L B ⟨m,H,I,u,K,O,A,rfl⟩;exact Nod.k24 A u)
section
variable {a:AS} {x:Int} {L:List E2} {lev:Nat} {B:List Int} {key val:ByteArray}
def KpB.get(h:KpB a x L lev B)(key:ByteArray):(getF a x key).e=0/\(getF a x key).s=fndE key L:=get_tr (zn6 _) h.tr h.nd key
def zuw9(A:mayE key val=false):putF a x key val=⟨0,1,a⟩:=by
 unfold putF;rw[if_pos];by_cases c:eqs key eS=true
 .exact .inl c
 .by_cases c1:24<key.size
  .exact .inr (.inl c1)
  .by_cases u:24<val.size
   .exact .inr (.inr u)
   .exfalso;have:mayE key val=true:=zof9.2 ⟨λ e=>c (eqsP.2 e),by omega,by omega⟩;rw[A]at this;cases this
def zxv9(h:KpB a x L lev B)(I:mayE key val=true):
 ((putF a x key val).e=10/\a.A.L.count 0<2*lev+1/\KpB (putF a x key val).a x L lev B/\(putF a x key val).a.A.L.count 0=a.A.L.count 0/\((∀y,a.F y=false)->∀y,(putF a x key val).a.F y=false))\/
 ((putF a x key val).e=0/\((∀y,a.F y=false)->KpB (putF a x key val).a x L lev B)/\∃lev' B',KpB (putF a x key val).a (putF a x key val).x (insE key val L) lev' B'):=by
 obtain⟨u,H,hv⟩:=zof9.1 I;have E:putF a x key val=madeF ⟨key,insL key val,false⟩ a x:=by
  unfold putF;rw[if_neg];rintro(q|q|q)
  .exact u (eqsP.1 q)
  .omega
  .omega
 rw[E];exact zny9 (put_lf u H hv) h (λ e=>by cases e)
def kp_put(h:KpB a x L lev B)(hF:∀y,a.F y=false)(u:mayE key val=true):
 ((putF a x key val).e=10/\a.A.L.count 0<2*lev+1/\KpB (putF a x key val).a x L lev B/\(putF a x key val).a.A.L.count 0=a.A.L.count 0/\∀y,(putF a x key val).a.F y=false)\/
 ((putF a x key val).e=0/\KpB (putF a x key val).a x L lev B/\∃lev' B',KpB (putF a x key val).a (putF a x key val).x (insE key val L) lev' B'):=
 (zxv9 h u).imp (λ q=>⟨q.1,q.2.1,q.2.2.1,q.2.2.2.1,q.2.2.2.2 hF⟩) (λ q=>⟨q.1,q.2.1 hF,q.2.2⟩)
def zxt9(h:KpB a x L lev B):
 ((fndE key L).2=false/\delF a x key=⟨x,false,0,a⟩/\delE key L=L)\/
 ((fndE key L).2=true/\(delF a x key).e=10/\a.A.L.count 0<2*lev+1/\KpB (delF a x key).a x L lev B/\(delF a x key).a.A.L.count 0=a.A.L.count 0/\((∀y,a.F y=false)->∀y,(delF a x key).a.F y=false))\/
 ((fndE key L).2=true/\(delF a x key).e=0/\(delF a x key).ok=true/\((∀y,a.F y=false)->KpB (delF a x key).a x L lev B)/\∃lev' B',KpB (delF a x key).a (delF a x key).x (delE key L) lev' B'):=by
 obtain⟨K,O⟩:=h.get key;cases hf:(fndE key L).2 with
 | false=>left;refine⟨rfl,?_,zgw9 (λ e u=>by rw[eqs_ne (zxc9 hf e u)];rfl)⟩;unfold delF;rw[if_neg (by rw[K];decide),if_neg (by rw[O,hf];decide)]
 | true=>
  right;have Q:∃e∈L,e.1=key:=by
   unfold fndE at hf;split at hf
   .rename_i e u;exact⟨e,List.mem_of_find?_eq_some u,eqsP.1 (by simpa using List.find?_some u)⟩
   .cases hf
  have hk:key.size<=24:=by
   obtain⟨e,u,e2⟩:=Q;have T:=h.tr;cases lev with
   | zero=>rw[T.2.1]at u;cases u
   | succ k=>obtain⟨_,_,n,B1,_,Y,_,_,n1,_⟩:=T;rw[<-e2];exact n1.k24 Y e u
  have e0:delF a x key=⟨(madeF ⟨key,delL key,true⟩ a x).x,decide ((madeF ⟨key,delL key,true⟩ a x).e=0),(madeF ⟨key,delL key,true⟩ a x).e,(madeF ⟨key,delL key,true⟩ a x).a⟩:=by unfold delF;rw[if_neg (by rw[K];decide),if_pos (by rw[O];exact hf)]
  rw[e0];rcases zny9 (del_lf hk) h (λ _=>Q)with⟨E,H,I,q4,q5⟩|⟨E,H,I⟩
  .exact .inl ⟨rfl,E,H,I,q4,q5⟩
  .exact .inr ⟨rfl,E,by show decide _=true;rw[E];rfl,H,I⟩
def kp_del(h:KpB a x L lev B)(hF:∀y,a.F y=false):
 ((fndE key L).2=false/\delF a x key=⟨x,false,0,a⟩/\delE key L=L)\/
 ((fndE key L).2=true/\(delF a x key).e=10/\a.A.L.count 0<2*lev+1/\KpB (delF a x key).a x L lev B/\(delF a x key).a.A.L.count 0=a.A.L.count 0/\∀y,(delF a x key).a.F y=false)\/
 ((fndE key L).2=true/\(delF a x key).e=0/\(delF a x key).ok=true/\KpB (delF a x key).a x L lev B/\∃lev' B',KpB (delF a x key).a (delF a x key).x (delE key L) lev' B'):=
 (zxt9 h).imp id (λ q=>q.imp (λ q=>⟨q.1,q.2.1,q.2.2.1,q.2.2.2.1,q.2.2.2.2.1,q.2.2.2.2.2 hF⟩) (λ q=>⟨q.1,q.2.1,q.2.2.1,q.2.2.2.1 hF,q.2.2.2.2⟩))
end
