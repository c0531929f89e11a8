import Derived.Test.YtcmjlibndmneiaaGreatPTArgD
import Derived.Test.YtcmjlibndmneiaaGreatPTDoP
set_option maxRecDepth 100000
set_option linter.all false
set_option maxHeartbeats 8000000
namespace Go.Proofs.YtcmjlibndmneiaaGreat
open Go.RowKit Go.Maps Pl
def treeSound_walk(dv:Value)(Q:List Dt)(w:World)(hd:RdDt w dv Q)(az:Q.length<=4611686018427387904)(al:∀e∈Q,e.ok):
 Calls Tryz.prog 4 #[dv] w λ e w'=>e=.returned (.bool true)/\Below w.heap.size w w':=by
 obtain⟨da,dc,ax,l1,l2,l3⟩:∃a c,dv=.slice a Q.length c/\Q.length<=c/\c<=maxLen/\(a=none->c=0):=by obtain⟨a,c,e,q1,q2,q3,_⟩:=id hd;exact⟨a,c,e,q1,q2,q3⟩
 unfold maxLen at l2;subst ax;obtain⟨L,hL⟩:=exH Q.length;have ad:=za0 hd;rw[hL.o]at az l1 ad |-
 have au:=za0 al;have BG:=zml9 200 (by decide) (by decide) w;rw[show((200:Nat):Int)=200 from rfl]at BG;have a7:=za0 BG;have b1:(L:Int)<=9223372036854775807:=by omega
 clear BG hd al l3
 go_enter Tryz.func4,Tryz.ntmps4
 go_wp2_with fail;refine a7.o.mono ?_;rintro e W1 ⟨U1,b,t,c,d,M,rfl,ap,u1,ag,ah⟩;have af:Hid (∃a x E A,TmS w b t c d M 250 a x E A W1):=⟨as0 200,0,.slice none 0 0,[],U1,ap,ah,u1,ag,(owE_nil 0 W1).rd,λ j hj=>(by cases hj),kpB0 200 (by decide) (by decide)⟩
 clear ap u1 ag ah a7;go_wp2_with fail
 go_loopw [4] (λ iv wr=>∃i:Nat,i<=L/\iv=.int .i64 (i:Int)/\Hid (∃a x E A,TmS w b t c d M 250 a x E A wr)) (λ iv _=>L-(intOf iv).toNat)
 case atStart=>exact⟨0,zn7 _,rfl,af⟩
 case round=>
  clear af;obtain⟨i,b2,rfl,HI⟩:=hrel;by_cases K:i<L
  .have d1:decide ((i:Int)<(L:Int))=true:=by rw[zm0];omega
   have av:decide (i<L)=true:=zm1 K;obtain⟨a,x,E,A,hO⟩:=HI.o;obtain⟨lb,lo,rfl,ck,cv,cw⟩:=(ad.o.below hO.bl).at (i:=i) (by rw[hL.o];exact K);obtain⟨dd,a6⟩:=exH (Q.getD i dZ);rw[a6.o]at ck cv cw;have aw:dd.ok:=by rw[<-a6.o];exact au.o _ (zan9 (by rw[hL.o];exact K))
   obtain⟨kd,kx,ky⟩:=dd;obtain⟨q1,q2,q3⟩:=aw;have DC:=hO.does kd kx ky q1 ⟨zn2 q2 (by decide),zn2 q3 (by decide)⟩;(have i0:(0:Int)<=(i:Int):=by omega);(have i1:(i:Int)<(L:Int):=by omega);have H:=wk_nat (x:=(i:Int)+1) (t:=i+1) (by omega) (by omega);have v2:=zu9 (x:=(i:Int)+1) (t:=i+1) (by clear H;omega) (by clear H;omega);have aa:Hid (i<L):=K;have T:=za0 (And.intro H v2);have a9:=za0 DC;clear DC HI hO a6 q1 q2 q3 H v2;go_wp2_with fail;refine a9.o.mono ?_;rintro e W2 ⟨rfl,a2,u,b0,L3,h2⟩;have a4:=za0 h2;have c4:=h2.cl 4;obtain⟨ao,B,O⟩:=h2.kp;clear h2 a9 ck cv cw;have ab:=za0 O;by_cases a1:u=0
   .have e1:(u==0)=true:=by rw[a1];rfl
    have a0:Hid (∃a x E A,TmS w b t c d M 250 a x E A W2):=⟨_,_,_,_,a4.o⟩
    clear O ab a1;have H:=T.o.1;have v2:=T.o.2;go_wp2_with fail;clear H v2 T;have K:=aa.o
    first
     | exact⟨⟨i+1,by omega,by rfl,a0⟩,by simp[intOf];omega⟩
     | (go_roundw
        (case rel=>exact⟨i+1,by omega,by rfl,a0⟩);case measure=>simp[intOf];omega)
   .have e1:(u==0)=false:=by rw[zl0];exact a1
    obtain⟨k,hk⟩:∃k,ao=k+1:=by
     cases ao with
     | zero=>exact absurd O.tr.1 a1
     | succ k=>exact⟨k,rfl⟩
    subst hk;have an:=O.tr;have ak:=O.levs;have hx:=O.xr;have am:Sub a2.V 1 k u eS none L3 B:=by obtain⟨_,_,n,B1,r1,r2,r3,r4,r5,rfl⟩:=an;exact⟨n,B1,r1,r2,r3,r4,r5,rfl⟩
    (have ay:k<=15:=by omega);obtain⟨q,hq⟩:=exN (1+k);have SC:=a4.o.lw (P:=λ e _=>e=.returned (.int .i64 (q:Int))) (f:=19) (args:=#[.pointer (some ⟨b,0,none⟩),.int .i64 u,.string eS,.string eS,.int .i64 ((1:Nat):Int)]) (λ U hl _=>by
     have:=zkh9 k U _ u eS none L3 B 1 eS eS hl am (Ke.refl _) (.inl ⟨rfl,rfl⟩) (by omega);rw[hq]at this;exact this)
    rw[show((1:Nat):Int)=1 from rfl]at SC;have a5:=za0 SC;have HX:=za0 hx;(have aj:levF a2 u=((q:Int),0):=by rw[ak.1,<-hq,Nat.add_comm]);have ar:=za0 aj;(have b3:1<=q:=by omega);clear SC an ak hx am O ab a1 ay hq aj;unfold eS at a5;go_wp2_with fail;refine a5.o.mono ?_;rintro e W3 ⟨rfl,h3⟩;have LV:=h3.drew.calls (λ U z=>zob9 u HX.o _ z);rw[ar.o]at LV;have a3:=za0 LV;have hS:W3.drew.cell? ⟨b,3,none⟩=some (.pointer (some ⟨t,0,none⟩))/\W3.drew.cell? ⟨b,4,none⟩=some (.int .i64 u):=⟨h3.drew.cl 3,h3.drew.cl 4⟩
    have ae:Hid (∀I,TmS w b t c d M 250 a2 u b0 L3 I->I.cell? ⟨b,3,none⟩=some (.pointer (some ⟨t,0,none⟩))/\I.cell? ⟨b,4,none⟩=some (.int .i64 u)):=λ I Y=>⟨Y.cl 3,Y.cl 4⟩
    clear LV h3 a5 c4;unfold tp at a3;go_wp2_with fail
    go_region_held3 (λ w'=>w'.cell? ⟨b,3,none⟩=some (.pointer (some ⟨t,0,none⟩))/\w'.cell? ⟨b,4,none⟩=some (.int .i64 u)) (first|go_keep|exact ai)
     (first
      | (go_at_call 20;refine a3.o.mono ?_;rintro e I ⟨rfl,Y⟩;have ai:=ae.o I Y;have H9:=za0 Y;clear Y))
    have a0:Hid (∃a x E A,TmS w b t c d M 250 a x E A I):=⟨_,_,_,_,H9.o⟩
    (have f1:decide ((q:Int)<1)=false:=by rw[zn4];omega);(have f2:((q:Int) != (q:Int))=false:=by simp);clear hS ai ae a3 H9 a4;have H:=T.o.1;have v2:=T.o.2;go_wp2_with fail;clear H v2 T;have K:=aa.o
    first
     | exact⟨⟨i+1,by omega,by rfl,a0⟩,by simp[intOf];omega⟩
     | (go_roundw
        (case rel=>exact⟨i+1,by omega,by rfl,a0⟩);case measure=>simp[intOf];omega)
  .have d1:decide ((i:Int)<(L:Int))=false:=by rw[zn4];omega
   have av:decide (i<L)=false:=zl1 K;obtain⟨a,x,E,A,hO⟩:=HI.o;have a8:=za0 hO.bl;have ac:=za0 (zoc9 wr);clear HI hO;go_wp2_with fail;refine ac.o.mono ?_;rintro e W7 ⟨rfl,b7⟩;have aq:Hid (Below w.heap.size w W7):=a8.o.trans (b7.mono a8.o.size);clear b7 ac;go_wp2_with fail;go_ret;exact⟨by first|rfl|simp,aq.o⟩
end Go.Proofs.YtcmjlibndmneiaaGreat
namespace Go.Proofs.YtcmjlibndmneiaaGreat
def zzg9:True:=trivial
