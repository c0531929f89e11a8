import Derived.Test.YtcmjlibndmneiaaGreatPNVar
import Derived.Deep.RegionHeld3
set_option maxRecDepth 100000
set_option linter.all false
set_option maxHeartbeats 8000000
namespace Go.Proofs.YtcmjlibndmneiaaGreat
open Go.RowKit Pl
def zmd9(n:Nd)(u1 u2 u3:Value)(w:World)(h:Nn w n u1 u2 u3)(hs:Sm n)(hr:Rl n):
 Calls Tryz.prog 161 #[nod n.lf u1 u2 u3] w λ e w'=>(∃v,e=.returned v/\OwB w.heap.size w' v (encN n n.ks.length))/\Below w.heap.size w w':=by
 obtain⟨a1,c1,a2,c2,a3,c3,rfl,rfl,rfl,⟨l1,l2,l3,l4,l5,l6⟩,_,_,_⟩:=h.o;have H:=za0 h;have HS:=za0 hs;obtain⟨I,a5⟩:=exH n.ks.length;obtain⟨L2,an⟩:=exH n.vs.length;obtain⟨O,ao⟩:=exH n.kd.length;rw[a5.o]at H l1 |-
 rw[an.o]at H l3 |-
 rw[ao.o]at H l5 |-
 obtain⟨lf,Y⟩:=exH n.lf;rw[Y.o];unfold nod;obtain⟨A,ad⟩:=exN (w.alloc (.cells #[.bool lf,.slice a1 I c1,.slice a2 L2 c2,.slice a3 O c3] 93));have B1:Hid (Below w.heap.size w A):=by rw[<-ad];exact za9 _ _
 have Q:Hid (Nb A 93 w.heap.size lf (.slice a1 I c1) (.slice a2 L2 c2) (.slice a3 O c3)):=by rw[<-ad];exact nb_new _ _ _ _ _ _
 have H1:=za0 (H.o.below B1.o);have HR:=za0 hr;have bi:I<=239:=by have:=hr.len.2;rw[a5.o]at this;exact this
 obtain⟨z,hz⟩:∃z:Nat,Hid (szN n n.ks.length=z):=⟨_,rfl⟩
 have bj:z<=240:=by have:=hr.sz;rw[hz.o]at this;exact this
 have al:Hid (∀W,Below A.heap.size A W->Calls Tryz.prog 157 #[.agg #[.bool lf,.slice a1 I c1,.slice a2 L2 c2,.slice a3 O c3]] W λ e w'=>e=.returned (.int .i64 (z:Int))/\Below W.heap.size W w'):=λ W hb=>by have:=zcg9 n _ _ _ W (H1.o.below hb) HS.o;rw[Y.o,zbm9 (by rw[hz.o];omega),hz.o]at this;exact this
 have p0:=Q.o.c0;have p1:=Q.o.c1;have p2:=Q.o.c2;have p3:=Q.o.c3;obtain⟨i0,hi,ay,az,b0⟩:=zhc9;obtain⟨T,hT⟩:=exH (encN n I);rw[hT.o];clear h hs H hr
 go_enter Tryz.func161,Tryz.ntmps161
 go_wp2_with fail;refine(al.o A (Below.refl _ _)).mono ?_;rintro e w2 ⟨rfl,b2⟩;have B2:=za0 b2;have am:=b2.size;clear b2 p0 p1 p2 p3 ad al;go_wp2_with(at_make;refine wpList_make_own _ rfl (.const (.int .i64 0)) (.tmp 6) 61 rfl A.heap.size 5 i0 _ 1 Tryz.underlying61 hi ay az .i64 .i64 _ z rfl rfl rfl (by rw[b0];omega) (by unfold maxLen;omega) am ?_)
 intro w3 aw av;have b3:Below w2.heap.size w2 w3:=(Below.refl _ _).grown av (zn6 _) (λ k e=>by cases e);have O3:Hid (OwB A.heap.size w3 (.slice (some ⟨w2.heap.size,0,none⟩) 0 z) []):=aw;have B3:Hid (Below A.heap.size A w3):=B2.o.trans (b3.mono B2.o.size);have p1:=(Q.o.below B3.o).c1;have a7:Hid (A.heap.size<=w3.heap.size):=B3.o.size;have aj:Hid (encN n 0=[(I:Int)]):=by show _=_;unfold encN;rw[a5.o]
 clear aw av b3 B2 hi ay az b0 am;go_wp2_with(at_builtin;refine zel9 _ rfl (.tmp 8) (.tmp 13) rfl A.heap.size _ [] rfl (O3.o.below (za9 _ _)) w3.heap.size [(I:Int)] rfl (zbf9 w3 [(I:Int)]) (by simp) (by have:=a7.o;simp;omega) ?_)
 intro v4 w4 o4 g4;have b4:Below A.heap.size w3 w4:=((za9 w3 _).mono a7.o).trans (g4.below (O3.o.below (za9 _ _)) (by have:=a7.o;simp;omega));have B4:Hid (Below A.heap.size A w4):=B3.o.trans b4;have O4:Hid (OwB A.heap.size w4 v4 (encN n 0)):=by rw[aj.o];exact o4
 clear o4 g4 b4 O3 B3 p1 a7;have p1:=(Q.o.below B4.o).c1;go_wp2_with fail
 go_loopw [3,18] (λ v i wr=>∃(k:Nat)(v0:Value),k<=I/\i=.int .i64 k/\v0=v/\Hid (OwB A.heap.size wr v0 (encN n k))/\Hid (Below A.heap.size A wr)) (λ _ i _=>I-(intOf i).toNat)
 case atStart=>exact⟨0,v4,zn7 _,rfl,rfl,O4,B4⟩
 case round=>
  clear O4 B4 p1 aj;obtain⟨k,v0,hk,rfl,rfl,OR,BR⟩:=hrel;by_cases be:k<I
  .have V2:Hid (Nb wr 93 w.heap.size lf (.slice a1 I c1) (.slice a2 L2 c2) (.slice a3 O c3)):=Q.o.below BR.o;(have a4:Hid (k<n.ks.length):=by rw[a5.o];exact be);obtain⟨b,o,rfl,ck⟩:=(H1.o.below BR.o).key (i:=k) a4.o;have a8:Hid (encN n (k+1)=encN n k++itm n k/\(encN n k).length<=240):=⟨rfl,enc_le HR.o (by rw[a5.o];omega)⟩
   have aa:=HR.o.ks k a4.o;have a0:Hid (itm n k=((kA n k).size:Int)::(bts (kA n k)++(if n.lf=true then((vA n k).size:Int)::bts (vA n k)else[dA n k % 256,dA n k / 256]))):=rfl;obtain⟨a6,ba⟩:=exH (kA n k);rw[ba.o]at ck aa a0;have p0:=V2.o.c0;have p1:=V2.o.c1;have ah:=za0 (zey9 A.heap.size v0 (encN n k) a6 wr OR.o (by have:=a8.o.2;omega) aa BR.o.size);have b1:=za0 aa;clear aa;go_wp2_with fail;refine ah.o.mono ?_;rintro e E ⟨⟨v5,rfl,o5⟩,b5⟩;have K:Hid (Below A.heap.size A E):=BR.o.trans b5;have O5:=za0 o5;have V5:Hid (Nb E 93 w.heap.size lf (.slice (some ⟨b,o,none⟩) I c1) (.slice a2 L2 c2) (.slice a3 O c3)):=Q.o.below K.o
   (have ac:Hid ((encN n k++((a6.size:Int)::bts a6)).length<=1000):=by show _<=_;have:=a8.o.2;have:=b1.o;rw[zf0,zk0,zbn9];omega);clear b5 o5 p0 p1 ck ah OR;have p0:=V5.o.c0;cases lf with
   | true=>
    (obtain⟨b',o',rfl,cv⟩:=(H1.o.below K.o).val (i:=k) (by rw[(HR.o.vs Y.o).1];exact a4.o);(have bc:L2=I:=by rw[<-a5.o,<-an.o];exact(HR.o.vs Y.o).1);(have bg:k<L2:=by omega);have ae:=(HR.o.vs Y.o).2.2 k a4.o;obtain⟨val,bf⟩:=exH (vA n k);rw[if_pos Y.o]at a0;rw[bf.o]at cv ae a0;have ai:=za0 (zey9 A.heap.size v5 _ val E O5.o (by have:=ac.o;omega) ae K.o.size);have p2:=V5.o.c2;clear ae bc;go_wp2_with fail;refine ai.o.mono ?_;rintro e w6 ⟨⟨v6,rfl,o6⟩,b6⟩;have B6:Hid (Below A.heap.size A w6):=K.o.trans b6;have O6:Hid (OwB A.heap.size w6 v6 (encN n (k+1))):=by rw[a8.o.1,a0.o];have:=o6;rw[zw0,List.cons_append]at this;exact this);clear o6 b6 ai cv p0 p2 O5 K;go_wp2_with fail
    go_roundw
    (case rel=>exact⟨k+1,v6,by omega,by go_num,rfl,O6,B6⟩);case measure=>simp[intOf];omega
   | false=>
    have a9:=HR.o.kd Y.o;obtain⟨b',o',rfl,cv⟩:=(H1.o.below K.o).kid (i:=k) (by rw[a9.1];exact a4.o);(have bd:O=I:=by rw[<-a5.o,<-ao.o];exact a9.1);(have bh:k<O:=by omega);have au:=a9.2.2 k a4.o;obtain⟨d,hd⟩:=exH (dA n k);rw[if_neg (by rw[Y.o];decide)]at a0;rw[hd.o]at cv au a0;obtain⟨b8,b9⟩:=au;have p3:=V5.o.c3;clear bd a9;obtain⟨X5,aq⟩:=exH (encN n k++((a6.size:Int)::bts a6));rw[aq.o]at O5 ac;(have b7:Hid (X5.length + [d % 256,d / 256].length<=100000):=by show _<=_;have:=ac.o;simp;omega);have af:Hid (A.heap.size<=E.heap.size):=K.o.size;have HU:Hid (IntKind.u8.wrap d=d % 256/\IntKind.u8.wrap (d / 256)=d / 256):=⟨u8_low d,zzc9 b8 b9⟩
    have bA:Below E.heap.size E (E.alloc (.cells #[.int .u8 (IntKind.u8.wrap d),.int .u8 (IntKind.u8.wrap (d / 256))] 5)).drew:=(za9 E _).drew;have HO:Hid (OwB A.heap.size (E.alloc (.cells #[.int .u8 (IntKind.u8.wrap d),.int .u8 (IntKind.u8.wrap (d / 256))] 5)).drew v5 X5):=O5.o.below bA;have ab:Hid (A.heap.size<=(E.alloc (.cells #[.int .u8 (IntKind.u8.wrap d),.int .u8 (IntKind.u8.wrap (d / 256))] 5)).drew.heap.size):=zn2 af.o bA.size;have HG:Hid (∀j u,(List.map (Value.int .u8) [d % 256,d / 256])[j]?=some u->(E.alloc (.cells #[.int .u8 (IntKind.u8.wrap d),.int .u8 (IntKind.u8.wrap (d / 256))] 5)).drew.cell? ⟨E.heap.size,j,none⟩=some u):=λ j u hu=>by
     rw[HU.o.1,HU.o.2];exact zbf9 E [d % 256,d / 256] j u hu
    (have ag:Hid (∀w',Gb A.heap.size (E.alloc (.cells #[.int .u8 (IntKind.u8.wrap d),.int .u8 (IntKind.u8.wrap (d / 256))] 5)).drew w' v5->Below A.heap.size E w'):=λ w' g=>(bA.mono af.o).trans (g.below HO.o ab.o);have ar:b'<A.heap.size:=by obtain⟨b2,o2,e,c⟩:=H1.o.kid (i:=k) (by rw[(HR.o.kd Y.o).1];exact a4.o);cases e;exact ze0 A ⟨b',o'+k,none⟩ c);have ax:w.heap.size<A.heap.size:=Q.o.lt;have ak:Hid (∀w',Below A.heap.size E w'->w'.cell? ⟨w.heap.size,3,none⟩=some (.slice (some ⟨b',o',none⟩) O c3)/\w'.cell? ⟨b',o'+k,none⟩=some (.int .i64 d)):=λ w' hb=>⟨by rw[hb.cell (p:=⟨w.heap.size,3,none⟩) ax];exact p3,by rw[hb.cell (p:=⟨b',o'+k,none⟩) ar];exact cv⟩
    clear bA ar ax;go_wp2_with fail
    go_region_held3 (λ w'=>w'.cell? ⟨w.heap.size,3,none⟩=some (.slice (some ⟨b',o',none⟩) O c3)/\w'.cell? ⟨b',o'+k,none⟩=some (.int .i64 d)) (first|go_keep|exact ap)
     (first
      | (refine zpn9 rfl (.tmp 37) (.tmp 51) rfl A.heap.size v5 X5 ?h1 HO.o E.heap.size [d % 256,d / 256] ?h3 HG.o b7.o ab.o ?_;(case h1=>kernel_rfl);(case h3=>kernel_rfl);intro v6 w6 o6 g6;have b6:=ag.o w6 g6;have ap:=ak.o w6 b6))
    (have B6:Hid (Below A.heap.size A w6):=K.o.trans b6;have O6:Hid (OwB A.heap.size w6 v6 (encN n (k+1))):=by rw[a8.o.1,a0.o];have:=o6;rw[<-aq.o,zw0,List.cons_append]at this;exact this);clear o6 b6 g6 ap cv p0 p3 O5 K HO ab HG ag ak HU;go_wp2_with fail
    go_roundw
    (case rel=>exact⟨k+1,v6,by omega,by go_num,rfl,O6,B6⟩);case measure=>simp[intOf];omega
  .have bb:k=I:=by omega
   rw[bb,hT.o]at OR;have hB:w.heap.size<=A.heap.size:=B1.o.size;have OF:Hid (OwB w.heap.size wr v0 T):=OR.o.mono hB;clear hB;go_wp2_with fail;go_ret;exact⟨⟨_,rfl,OF.o⟩,B1.o.trans (BR.o.mono B1.o.size)⟩
def put_ok(n:Nd)(u1 u2 u3:Value)(w:World)(h:Nn w n u1 u2 u3)(hs:Sm n)(hm:mayN n=true):
 Calls Tryz.prog 144 #[nod n.lf u1 u2 u3] w λ e w'=>(∃v,e=.returned (.tuple #[blN (kdN n.lf) v,.int .i64 0])/\Rd .u8 w' v (encN n n.ks.length)/\∀j,v.ownBlock=some j->w.heap.size<=j)/\Below w.heap.size w w':=by
 obtain⟨a1,c1,a2,c2,a3,c3,rfl,rfl,rfl,⟨l1,l2,l3,l4,l5,l6⟩,_,_,_⟩:=h.o;have H:=za0 h;have HS:=za0 hs;obtain⟨L1,a7⟩:=exH n.ks.length;obtain⟨L2,ae⟩:=exH n.vs.length;obtain⟨L3,af⟩:=exH n.kd.length;rw[a7.o]at H l1 |-
 rw[ae.o]at H l3 |-
 rw[af.o]at H l5 |-
 obtain⟨lf,aa⟩:=exH n.lf;rw[aa.o];unfold nod;obtain⟨u,a8⟩:=exN (w.alloc (.cells #[.bool lf,.slice a1 L1 c1,.slice a2 L2 c2,.slice a3 L3 c3] 93));have B1:Hid (Below w.heap.size w u):=by rw[<-a8];exact za9 _ _
 have V1:Hid (Nb u 93 w.heap.size lf (.slice a1 L1 c1) (.slice a2 L2 c2) (.slice a3 L3 c3)):=by rw[<-a8];exact nb_new _ _ _ _ _ _
 have H1:=za0 (H.o.below B1.o);obtain⟨W2,a9⟩:=exN (u.alloc (.cells #[.int .i64 0,.slice none 0 0] 63));have b2:Below u.heap.size u W2:=by rw[<-a9];exact za9 _ _
 have V2:=za0 (V1.o.below b2);have K2:Hid (Kb W2 u.heap.size 0 (.slice none 0 0)):=by rw[<-a9];exact kb_new _ _ _
 have B2:=za0 (B1.o.trans (b2.mono B1.o.size));have H2:=za0 (H1.o.below b2);have ad:=za0 V1.o.lt;have ac:Hid (∀W,Below W2.heap.size W2 W->Calls Tryz.prog 155 #[.agg #[.bool lf,.slice a1 L1 c1,.slice a2 L2 c2,.slice a3 L3 c3]] W λ e w'=>e=.returned (.bool true)/\Below W.heap.size W w'):=λ W hb=>by have:=zet9 n _ _ _ W (H2.o.below hb) HS.o;rw[aa.o,hm]at this;exact this
 have HR:Rl n:=zco9 (zq9.1 hm) (by have:=HS.o.kl;omega);have a5:Hid (∀W,Below W2.heap.size W2 W->Calls Tryz.prog 161 #[.agg #[.bool lf,.slice a1 L1 c1,.slice a2 L2 c2,.slice a3 L3 c3]] W λ e w'=>(∃v,e=.returned v/\OwB W.heap.size w' v (encN n n.ks.length))/\Below W.heap.size W w'):=λ W hb=>by have:=zmd9 n _ _ _ W (H2.o.below hb) HS.o HR;rw[aa.o]at this;exact this
 obtain⟨T,hT⟩:=exH (encN n n.ks.length);rw[hT.o]at a5;rw[<-a7.o,hT.o];have p0:=V2.o.c0;have p1:=V2.o.c1;have p2:=V2.o.c2;have p3:=V2.o.c3;clear h hs H hm b2 HR;rw[a7.o]
 go_enter Tryz.func144,Tryz.ntmps144
 go_wp2_with fail;refine(ac.o W2 (Below.refl _ _)).mono ?_;rintro e w3 ⟨rfl,b3⟩;have V3:=za0 (V2.o.below b3);have Q:=za0 b3;clear b3 p0 p1 p2 p3 a8 a9 ac;have p0:=V3.o.c0;have p1:=V3.o.c1;have p2:=V3.o.c2;have p3:=V3.o.c3;cases lf with
 | true=>
  go_wp2_with fail;refine(a5.o w3 Q.o).mono ?_;rintro e w4 ⟨⟨v,rfl,E⟩,b4⟩;have Y:=Q.o.trans (b4.mono Q.o.size);have A:=K2.o.below Y;obtain⟨I,K,e4⟩:=E.long;obtain⟨O,ab⟩:=exH T.length;rw[ab.o]at e4;subst e4;obtain⟨W5,a4⟩:=exH ((w4.setCell ⟨u.heap.size,0,none⟩ (.int .i64 1)).setCell ⟨u.heap.size,1,none⟩ (.slice I O K));have K5:Hid (Kb W5 u.heap.size 1 (.slice I O K)):=by rw[<-a4.o];exact A.put _ _
  have t5:Tch (λ j=>j=u.heap.size) w4 W5:=by rw[<-a4.o];exact zhw9 _ _ _ _
  have R5:=za0 ((E.tch t5 (λ j hj e=>E.ne A (by decide) (by rw[hj,e]))).rd);have a6:Hid (∀j,(Value.slice I O K).ownBlock=some j->w.heap.size<=j):=λ j hj=>zn2 (zn2 B2.o.size Q.o.size) (E.ge j hj);have a0:=B2.o.trans (Y.mono B2.o.size);have B5:=za0 (a0.trans (t5.below a0.size (λ j e=>by have:=ad.o;omega)));have s0:=A.c0;have s1:=A.c1;have g0:=A.fz 0;have g1:=A.fz 1;clear E b4 Y A t5 a0 p0 p1 p2 p3 a5;go_wp2_with fail;rw[a4.o];refine bodyPost_ret (v:=.tuple #[blN 1 (.slice I O K),.int .i64 0]) (ze9 (p:=2) (ty:=63) rfl _ _ _ u.heap.size _ _ rfl K5.o.load rfl) rfl ?_;exact⟨⟨_,rfl,R5.o,a6.o⟩,B5.o⟩
 | false=>
  go_wp2_with fail;refine(a5.o w3 Q.o).mono ?_;rintro e w4 ⟨⟨v,rfl,E⟩,b4⟩;have Y:=Q.o.trans (b4.mono Q.o.size);have A:=K2.o.below Y;obtain⟨I,K,e4⟩:=E.long;obtain⟨O,ab⟩:=exH T.length;rw[ab.o]at e4;subst e4;obtain⟨W5,a4⟩:=exH ((w4.setCell ⟨u.heap.size,0,none⟩ (.int .i64 2)).setCell ⟨u.heap.size,1,none⟩ (.slice I O K));have K5:Hid (Kb W5 u.heap.size 2 (.slice I O K)):=by rw[<-a4.o];exact A.put _ _
  have t5:Tch (λ j=>j=u.heap.size) w4 W5:=by rw[<-a4.o];exact zhw9 _ _ _ _
  have R5:=za0 ((E.tch t5 (λ j hj e=>E.ne A (by decide) (by rw[hj,e]))).rd);have a6:Hid (∀j,(Value.slice I O K).ownBlock=some j->w.heap.size<=j):=λ j hj=>zn2 (zn2 B2.o.size Q.o.size) (E.ge j hj);have a0:=B2.o.trans (Y.mono B2.o.size);have B5:=za0 (a0.trans (t5.below a0.size (λ j e=>by have:=ad.o;omega)));have s0:=A.c0;have s1:=A.c1;have g0:=A.fz 0;have g1:=A.fz 1;clear E b4 Y A t5 a0 p0 p1 p2 p3 a5;go_wp2_with fail;rw[a4.o];refine bodyPost_ret (v:=.tuple #[blN 2 (.slice I O K),.int .i64 0]) (ze9 (p:=2) (ty:=63) rfl _ _ _ u.heap.size _ _ rfl K5.o.load rfl) rfl ?_;exact⟨⟨_,rfl,R5.o,a6.o⟩,B5.o⟩
def zyk9(n:Nd)(u1 u2 u3:Value)(w:World)(h:Nn w n u1 u2 u3)(hs:Sm n)(hm:mayN n=false):
 Calls Tryz.prog 144 #[nod n.lf u1 u2 u3] w λ e w'=>e=.returned (.tuple #[blN 0 (.slice none 0 0),.int .i64 1])/\Below w.heap.size w w':=by
 obtain⟨a1,c1,a2,c2,a3,c3,rfl,rfl,rfl,⟨l1,l2,l3,l4,l5,l6⟩,_,_,_⟩:=h.o;have H:=za0 h;have HS:=za0 hs;obtain⟨Y,a9⟩:=exH n.ks.length;obtain⟨L2,aa⟩:=exH n.vs.length;obtain⟨L3,ab⟩:=exH n.kd.length;rw[a9.o]at H l1 |-
 rw[aa.o]at H l3 |-
 rw[ab.o]at H l5 |-
 obtain⟨lf,a7⟩:=exH n.lf;rw[a7.o];unfold nod;obtain⟨u,a0⟩:=exN (w.alloc (.cells #[.bool lf,.slice a1 Y c1,.slice a2 L2 c2,.slice a3 L3 c3] 93));have O:Hid (Below w.heap.size w u):=by rw[<-a0];exact za9 _ _
 have V1:Hid (Nb u 93 w.heap.size lf (.slice a1 Y c1) (.slice a2 L2 c2) (.slice a3 L3 c3)):=by rw[<-a0];exact nb_new _ _ _ _ _ _
 have H1:=za0 (H.o.below O.o);obtain⟨E,a4⟩:=exN (u.alloc (.cells #[.int .i64 0,.slice none 0 0] 63));have K:Below u.heap.size u E:=by rw[<-a4];exact za9 _ _
 have I:=za0 (V1.o.below K);have K2:Hid (Kb E u.heap.size 0 (.slice none 0 0)):=by rw[<-a4];exact kb_new _ _ _
 have B2:=za0 (O.o.trans (K.mono O.o.size));have H2:=za0 (H1.o.below K);have a8:=za0 V1.o.lt;have a6:Hid (∀W,Below E.heap.size E W->Calls Tryz.prog 155 #[.agg #[.bool lf,.slice a1 Y c1,.slice a2 L2 c2,.slice a3 L3 c3]] W λ e w'=>e=.returned (.bool false)/\Below W.heap.size W w'):=λ W hb=>by have:=zet9 n _ _ _ W (H2.o.below hb) HS.o;rw[a7.o,hm]at this;exact this
 have p0:=I.o.c0;have p1:=I.o.c1;have p2:=I.o.c2;have p3:=I.o.c3;clear h hs H hm K
 go_enter Tryz.func144,Tryz.ntmps144
 go_wp2_with fail;refine(a6.o E (Below.refl _ _)).mono ?_;rintro e w4 ⟨rfl,Q⟩;have A:=K2.o.below Q;obtain⟨W5,a5⟩:=exH ((w4.setCell ⟨u.heap.size,0,none⟩ (.int .i64 0)).setCell ⟨u.heap.size,1,none⟩ (.slice none 0 0));have K5:Hid (Kb W5 u.heap.size 0 (.slice none 0 0)):=by rw[<-a5.o];exact A.put _ _
 have t5:Tch (λ j=>j=u.heap.size) w4 W5:=by rw[<-a5.o];exact zhw9 _ _ _ _
 have T:=B2.o.trans (Q.mono B2.o.size);have B5:=za0 (T.trans (t5.below T.size (λ j e=>by have:=a8.o;omega)));have s0:=A.c0;have s1:=A.c1;have g0:=A.fz 0;have g1:=A.fz 1;clear Q A t5 T p0 p1 p2 p3 a6 a0 a4;go_wp2_with fail;rw[a5.o];refine bodyPost_ret (v:=.tuple #[blN 0 (.slice none 0 0),.int .i64 1]) (ze9 (p:=2) (ty:=63) rfl _ _ _ u.heap.size _ _ rfl K5.o.load rfl) rfl ?_;exact⟨rfl,B5.o⟩
