import Derived.Test.YtcmjlibndmneiaaGreatPKOwn
import Derived.Test.YtcmjlibndmneiaaGreatPKDirty
set_option maxRecDepth 100000
set_option linter.all false
set_option maxHeartbeats 8000000
namespace Go.Proofs.YtcmjlibndmneiaaGreat
open Go.RowKit Go.Maps
def zxa9(s:CS)(l:List Nat)(n:Nat):flS s (l++[n])=(flS s l).keep n ((flS s l).B n):=by
 induction l generalizing s with
 | nil=>rfl
 | cons a r u=>exact u _
def zwz9(D:DS)(B:Nat->Int×List Int)(l:List Nat)(n:Nat):flD D B (l++[n])=(flD D B l).wr n (sec (n:Int) (B n).1 (B n).2):=by
 induction l generalizing D with
 | nil=>rfl
 | cons a r u=>exact u _
def flS_B(s:CS)(l:List Nat):(flS s l).B=s.B:=by
 induction l generalizing s with
 | nil=>rfl
 | cons a r u=>refine(u _).trans ?_;show bput s.B a (s.B a)=s.B;exact zqj9 _ _
def flS_d(s:CS)(l:List Nat){m:Nat}:m∈(flS s l).d↔m∈s.d/\m∉l:=by
 induction l generalizing s with
 | nil=>simp[flS]
 | cons a r H=>
  rw[flS,H];show m∈kwo s.d a/\_↔_;rw[zi9];simp only[List.mem_cons,not_or];constructor
  .rintro⟨⟨u,A⟩,E⟩;exact⟨u,λ e=>A (by omega),E⟩
  .rintro⟨u,A,E⟩;exact⟨⟨u,λ e=>A (by omega)⟩,E⟩
def wr_LK(D:DS)(n:Nat)(x:List Int):(D.wr n x).L=D.L:=by unfold DS.wr;split<;>rfl
def wr_V(D:DS)(n:Nat)(x:List Int)(i:Nat):((D.wr n x).V i).length<=(D.V i).length+1:=by
 unfold DS.wr;split
 .show(vput D.V n (D.V n++[x]) i).length<=_;unfold vput;split
  .rename_i h;rw[h];simp
  .omega
 .omega
def flD_L(D:DS)(B:Nat->Int×List Int)(l:List Nat):(flD D B l).L=D.L:=by
 induction l generalizing D with
 | nil=>rfl
 | cons a r u=>exact(u _).trans (wr_LK _ _ _)
def flD_V(D:DS)(B:Nat->Int×List Int)(l:List Nat)(i:Nat):((flD D B l).V i).length<=(D.V i).length+l.length:=by
 induction l generalizing D with
 | nil=>simp[flD]
 | cons a r u=>have A:=u (D.wr a (sec (a:Int) (B a).1 (B a).2));have E:=wr_V D a (sec (a:Int) (B a).1 (B a).2) i;simp only[flD,zk0];omega
structure Cz(X S:Nat->Prop)(w:World)(c d N:Nat)(s:CS)(D:DS):Prop where
 ch:Ch X w c d N s
 dk:Dk S w d D
 len:D.L.length=N
 ap:∀k,X k->¬S k
def CzTo(X S:Nat->Prop)(w w':World)(c d N:Nat)(s:CS)(D:DS):Prop:=
 ∃X' S',Cz X' S' w' c d N s D/\Tch (λ k=>X k\/S k) w w'/\(∀k,X' k->X k\/w.heap.size<=k)/\(∀k,S' k->S k\/w.heap.size<=k)
section
variable {X S:Nat->Prop} {w w':World} {c d N:Nat} {s s':CS} {D D':DS}
def Cz.tch(h:Cz X S w c d N s D){R:Nat->Prop}(u:Tch R w w')(E:∀k,X k->¬R k)(A:∀k,S k->¬R k):Cz X S w' c d N s D:=⟨h.ch.tch u E,h.dk.tch u A,h.len,h.ap⟩
def Cz.below(h:Cz X S w c d N s D)(u:Below w.heap.size w w'):Cz X S w' c d N s D:=h.tch (R:=λ _=>False) (Tch.of_below u) (λ _ _ e=>e) (λ _ _ e=>e)
def Cz.to(h:Cz X S w c d N s D):CzTo X S w w c d N s D:=⟨X,S,h,Tch.refl _ _,λ _ e=>.inl e,λ _ e=>.inl e⟩
def Cz.chTo(h:Cz X S w c d N s D)(O:ChTo X w w' c d N s'):CzTo X S w w' c d N s' D:=by
 obtain⟨I,K,A,E⟩:=O;refine⟨I,S,⟨K,h.dk.tch A (λ k u e=>h.ap k e u),h.len,λ k u H=>?_⟩,A.mono (λ k _ e=>.inl e),E,λ k e=>.inl e⟩;rcases E k u with e|e
 .exact h.ap k e H
 .have:=h.dk.slt k H;omega
def Cz.dkTo(h:Cz X S w c d N s D)(K:DkTo S w w' d D')(O:D'.L.length=N):CzTo X S w w' c d N s D':=by
 obtain⟨H,I,A,E⟩:=K;refine⟨X,H,⟨h.ch.tch A (λ k u e=>h.ap k u e),I,O,λ k u Q=>?_⟩,A.mono (λ k _ e=>.inr e),λ k e=>.inl e,E⟩;rcases E k Q with e|e
 .exact h.ap k u e
 .have:=h.ch.lt k u;omega
def CzTo.after{H E:Nat->Prop}{A:World}(I:Tch (λ k=>H k\/E k) A w)(O:∀k,X k->H k\/A.heap.size<=k)(K:∀k,S k->E k\/A.heap.size<=k)(h:CzTo X S w w' c d N s D):CzTo H E A w' c d N s D:=by
 obtain⟨T,Q,Y,h2,h3,h4⟩:=h;refine⟨T,Q,Y,I.trans h2 (λ k u e=>?_),λ k u=>?_,λ k u=>?_⟩
 .rcases e with e|e
  .rcases O k e with e|e
   .exact .inl e
   .omega
  .rcases K k e with e|e
   .exact .inr e
   .omega
 .rcases h3 k u with e|e
  .exact O k e
  .exact .inr (zn2 I.size e)
 .rcases h4 k u with e|e
  .exact K k e
  .exact .inr (zn2 I.size e)
end
def zmx9{X S:Nat->Prop}{c d N:Nat}{s:CS}{D:DS}(w:World)(hZ:Cz X S w c d N s D)(hV:∀i,(D.V i).length+4096<274877906943):
 Calls Tryz.prog 36 #[cp c] w λ e w'=>e=.returned (.int .i64 0)/\CzTo X S w w' c d N s.flush (s.flushD D):=by
 have HZ:=za0 hZ;have HV:=za0 hV;have al:=zb0 (zms9 w hZ.ch);have am:=za0 hZ.ch.ok;have b4:=za0 hZ.ch.n2;clear hZ hV
 go_enter Tryz.func36,Tryz.ntmps36
 go_wp2_with fail;refine al.o.mono ?_;rintro e O ⟨dv,rfl,ai,af,az⟩;have B1:=za0 af;have Z1:=za0 (HZ.o.below af);have F1:Hid (∀k,dv.ownBlock=some k->w.heap.size<=k/\k<O.heap.size):=λ k A=>⟨az k A,ai.lt k A⟩
 obtain⟨da,dc,ay,ax,b5,b6,ag⟩:=ai.rd;rw[zb1]at ay ax ag;subst ay;have ak:=za0 ag;obtain⟨t,ht⟩:=exN s.d.length;have HT:=za0 ht;have bd:t<=4096:=by rw[<-ht];exact zn2 am.o.dle b4.o
 rw[ht]at ak F1 |-
 clear ai af az ax b5 b6 ag ht al;go_wp2_with fail
 go_loopw [10] (λ kv wr=>∃(k:Nat),k<=t/\kv=.int .i64 k/\Hid (CzTo X S O wr c d N (flS s (s.d.take k)) (flD D s.B (s.d.take k)))) (λ kv _=>t-(intOf kv).toNat)
 case atStart=>exact⟨0,zn7 _,rfl,by rw[List.take_zero];exact Z1.o.to⟩
 case round=>
  obtain⟨j,hj,rfl,ZK⟩:=hrel;by_cases b0:j<t
  .have ba:(j:Int)<(t:Int):=by omega
   (have b9:(0:Int)<=(j:Int):=by omega);obtain⟨Xj,Sj,a1,ad,ar,ao⟩:=ZK.o;obtain⟨Y,dO,rfl,au⟩:∃b o,da=some ⟨b,o,none⟩/\∀i,i<t->O.cell? ⟨b,o+i,none⟩=some (.int .i64 ((s.d.map Int.ofNat).getD i 0)):=by
    rcases ak.o with e|e
    .have:=congrArg List.length e;rw[zb1,HT.o]at this;simp at this;omega
    .exact e
   have hF:=F1.o Y rfl;have ck:wr.cell? ⟨Y,dO+j,none⟩=some (.int .i64 ((s.d.getD j 0:Nat):Int)):=by
    have h0:=au j b0;rw[ad.cell (p:=⟨Y,dO+j,none⟩) (ze0 O ⟨Y,dO+j,none⟩ h0) (λ e=>by
     rcases e with e|e
     .have:=HZ.o.ch.lt Y e;have:=hF.1;omega
     .have:=HZ.o.dk.slt Y e;have:=hF.1;omega),h0]
    rw[zdo9]
   obtain⟨n,hn⟩:=exN (s.d.getD j 0);rw[hn]at ck;(have a7:j<s.d.length:=by rw[HT.o];exact b0);(have ah:s.d[j]=n:=by rw[<-hn,zn3,zc0 a7];rfl);(have b1:n∈s.d:=by rw[<-ah];exact za1 a7);(have a9:s.d.take (j+1)=s.d.take j++[n]:=by rw[List.take_add_one,zc0 a7,ah];rfl);have b3:n∉s.d.take j:=λ e=>by have b2:=zdz9 am.o.dr;rw[<-zx0 (j+1) s.d,a9]at b2;have h1:=(zj1.1 (zj1.1 b2).1).2.2 n e n (by simp);exact h1 rfl
   (obtain⟨sj,a2⟩:=exN (flS s (s.d.take j));obtain⟨T,a6⟩:=exN (flD D s.B (s.d.take j));(have an:sj.B=s.B:=by rw[<-a2];exact flS_B _ _);(have a0:n∈sj.d:=by rw[<-a2];exact(flS_d _ _).2 ⟨b1,b3⟩);rw[a2,a6]at a1;have aq:∀i,(T.V i).length<274877906943:=λ i=>by rw[<-a6];have h1:=flD_V D s.B (s.d.take j) i;have h2:=HV.o i;(have h3:(s.d.take j).length<=t:=by rw[zg0];omega);omega);have ac:Hid (flS s (s.d.take (j+1))=sj.keep n (sj.B n)/\flD D s.B (s.d.take (j+1))=T.wr n (sec (n:Int) (sj.B n).1 (sj.B n).2)):=by
    refine⟨?_,?_⟩
    .rw[a9,zxa9,a2]
    .rw[a9,zwz9,a6,an]
   have E:=za0 a1;have a5:Hid (Tch (λ k=>X k\/S k) O wr/\(∀k,Xj k->X k\/O.heap.size<=k)/\(∀k,Sj k->S k\/O.heap.size<=k)):=⟨ad,ar,ao⟩
   obtain⟨mb,av,V,h⟩:=a1.ch;have H:=za0 h;have a8:=h.ok.dl n a0;have b8:=h.n2;have LK:=h.map.lookH (i:=n) (.inl a8.2) (by omega);obtain⟨k,A⟩:=exN ((sj.B n).1);obtain⟨I,a3⟩:=exN ((sj.B n).2);obtain⟨v,hv⟩:=exN (V n);(have eg:kg sj V n=some (hent k v true):=by unfold kg;rw[if_pos a0,A,hv]);unfold gh at LK;rw[eg]at LK;simp only[Option.getD_some]at LK;unfold hent at LK;(have R1:Rd .u8 wr v I:=by have:=h.bod n (.inl a0);rw[a3,hv]at this;exact this);have K:Hid ((50<=n/\n<N)/\mayK (n:Int) k I.length=true/\By I/\sj.B n=(k,I)/\n<T.L.length/\∀i,(T.V i).length<274877906943):=by have hm:=h.ok.may n (.inl a0);rw[A,a3]at hm;exact⟨a8,hm.1,hm.2,by rw[<-A,<-a3],by rw[a1.len];exact a8.2,aq⟩
   have aa:Hid (∀i,v.ownBlock=some i->I≠[]->Xj i/\i≠c/\i≠mb/\av.ownBlock≠some i):=λ i u h0=>h.bap n (.inl a0) i (by rw[hv];exact u) (by rw[a3];exact h0);(obtain⟨a,m,cap,rfl⟩:∃a m cap,v=.slice a m cap:=by obtain⟨a,c,e,_⟩:=R1;exact⟨_,_,_,e⟩);obtain⟨W2,ae⟩:=exN (wr.alloc (.cells #[.int .i64 k,.slice a m cap] 63));(have Q:Hid (Below wr.heap.size wr W2):=by rw[<-ae];exact(Below.refl _ _).alloc (zn6 _) _);(have Q2:Hid (Bkv W2 wr.heap.size k (.slice a m cap)):=by rw[<-ae];exact zz9 wr _ _);have H2:=za0 (h.tch (R:=λ _=>False) (Tch.of_below Q.o) (λ _ _ e=>e));have R2:=za0 (R1.below Q.o)
   have HW:=zb0 (zqa9 n k (.slice a m cap) I W2 H2.o.c0 (E.o.dk.below Q.o) K.o.2.2.2.2.1 K.o.2.1 R2.o K.o.2.2.1 (λ e=>E.o.ap c H.o.xc e) K.o.2.2.2.2.2);have b7:=λ W=>zkz9 k (.slice a m cap) true W;have c2:=h.c2;have q0:=Q2.o.c0;have q1:=Q2.o.c1;(have bc:(n:Int)<4096:=by omega);unfold blk at HW;clear h a8 b8 A a3 hv eg R1 a1 ad ar ao au hF hn a7 ah b1 a9 b3 a2 a6 an a0 aq;go_wp2_with fail;refine HW.o.mono ?_;rintro e w3 ⟨rfl,h3⟩;have Z3:=za0 (Cz.dkTo (E.o.below Q.o) h3 (by rw[wr_LK];exact E.o.len));obtain⟨S3,aw,t3,aj⟩:=h3;have H3:=za0 (H2.o.tch t3 (λ i u e=>E.o.ap i u e));have Q3:=za0 (Q2.o.tch t3 (λ e=>by have:=E.o.dk.slt _ e;omega))
   have R3:=za0 (R2.o.tch0 t3 (λ i u h0 e=>E.o.ap i (aa.o i u h0).1 e));have ab:=zb0 (zig9 n k (.slice a m cap) I w3 H3.o K.o.1 K.o.2.1 K.o.2.2.1 R3.o aa.o);have a4:Hid (Cz Xj S3 w3 c d N sj (T.wr n (sec (n:Int) k I))/\Tch Sj W2 w3/\∀i,S3 i->Sj i\/W2.heap.size<=i):=by
    refine⟨⟨⟨_,_,_,H3.o⟩,aw,by rw[wr_LK];exact E.o.len,λ i u hs=>?_⟩,t3,aj⟩;rcases aj i hs with e|e
    .exact E.o.ap i u e
    .have:=H2.o.xlt i u;omega
   have z0:=Q3.o.c0;have z1:=Q3.o.c1;unfold blk at ab;clear aw t3 aj HW LK b7 c2 q0 q1 ae Z3 Q2 R2 H3 R3;go_wp2_with fail;refine ab.o.mono ?_;rintro e w4 ⟨rfl,h4,_⟩;have Z4:Hid (CzTo X S O w4 c d N (flS s (s.d.take (j+1))) (flD D s.B (s.d.take (j+1)))):=by
    rw[ac.o.1,ac.o.2,K.o.2.2.2.1];have z:=Cz.chTo a4.o.1 h4;have z2:CzTo Xj Sj wr w4 c d N (sj.keep n (k,I)) (T.wr n (sec (n:Int) k I)):=by
     refine CzTo.after (X:=Xj) (S:=S3) ?_ (λ i u=>.inl u) (λ i u=>?_) z
     .exact(Tch.of_below Q.o).trans (a4.o.2.1.mono (λ i _ e=>.inr e)) (λ _ _ e=>e)
     .rcases a4.o.2.2 i u with e|e
      .exact .inl e
      .exact .inr (zn2 Q.o.size e)
    exact CzTo.after a5.o.1 a5.o.2.1 a5.o.2.2 z2
   clear h4 ab z0 z1 Q3 a4 H H2 aa K ac a5 E;go_wp2_with fail
   go_roundw
   (case rel=>exact⟨j+1,by omega,by go_num,Z4⟩);case measure=>simp[intOf];omega
  .have bb:¬(j:Int)<(t:Int):=by omega
   (have HF:Hid (CzTo X S w wr c d N s.flush (s.flushD D)):=by have h1:=ZK.o;rw[zn5 (by rw[HT.o];omega)]at h1;exact CzTo.after (X:=X) (S:=S) (Tch.of_below B1.o) (λ k A=>.inl A) (λ k A=>.inl A) h1);clear ZK;go_wp2_with fail;go_ret;exact⟨rfl,HF.o⟩
end Go.Proofs.YtcmjlibndmneiaaGreat
namespace Go.Proofs.YtcmjlibndmneiaaGreat
open Go.RowKit
def wr_has(D:DS)(u:D.c=false)(a:Nat)(x:List Int)(n:Nat):(D.wr a x).c=false/\(D.wr a x).has n=if n=a then x else D.has n:=by
 have e:D.wr a x={ D.tick with V:=vput D.V a (D.V a++[x]) }:=by unfold DS.wr;exact if_pos (by unfold DS.can;rw[u];rfl)
 rw[e];refine⟨u,?_⟩;show(vput D.V a (D.V a++[x]) n).getLastD (D.L.getD n [])=_;unfold vput;by_cases h:n=a
 .rw[if_pos h,if_pos h,List.getLastD_eq_getLast?,List.getLast?_append];rfl
 .rw[if_neg h,if_neg h];rfl
def zdn9(B:Nat->Int×List Int)(n:Nat):∀(l:List Nat)(D:DS),D.c=false->(flD D B l).c=false/\(flD D B l).has n=if n∈l then sec (n:Int) (B n).1 (B n).2 else D.has n
 | [],D,hc=>⟨hc,by simp[flD]⟩
 | a::r,D,hc=>by
  have A:=wr_has D hc a (sec (a:Int) (B a).1 (B a).2) n;have E:=zdn9 B n r (D.wr a (sec (a:Int) (B a).1 (B a).2)) A.1;refine⟨E.1,?_⟩;rw[flD,E.2,A.2];by_cases e:n∈r
  .simp[e]
  .by_cases u:n=a
   .subst u;simp[e]
   .simp[e,u]
def flS_c(s:CS)(l:List Nat){m:Nat}(h:m∈(flS s l).c):m∈l\/m∈s.c:=by
 induction l generalizing s with
 | nil=>exact .inr h
 | cons a r A=>
  rcases A _ h with e|e
  .exact .inl (zq0 _ e)
  .rcases znt9 e with u|u
   .exact .inl (by rw[u];exact zp0)
   .exact .inr u.1
