import Derived.Test.YtihofcopapmjlaaGreatPPkStepsP
import Derived.Test.YtihofcopapmjlaaGreatPPkLit
import Derived.Test.YtihofcopapmjlaaGreatPFEnc
import Derived.Test.YtihofcopapmjlaaGreatPFDec
import Derived.Laws.EntriesVeiled
set_option maxRecDepth 100000
set_option linter.all false
set_option maxHeartbeats 8000000
namespace Go.Proofs.YtihofcopapmjlaaGreat
open Go.Proofs.Tryz
open Go.RowKit Pl
def Al(i:Nat)(ps:List Sq):List Int:=ps.map λ x=>(CU (DY i x):Int)
def Cc(cs:List Int):List Int:=(List.range 17).map (Cb cs cs.length)
def CG(cs:List Int):List Int:=
 (EQ (C4 (Cc cs) 6).2 6).2++AQ (DB (C4 (Cc cs) 6).2 6 cs).2.length++(DB (C4 (Cc cs) 6).2 6 cs).2
def SA(cs):(Cc cs).length=17:=by simp[Cc]
def N9(cs c)(hc:c<17):(Cc cs).getD c 0=Cb cs cs.length c:=by simp[Cc,AP,hc]
def AGU(c i k)(q:i<k)(h:0<c.getD i 0):0<A7 c k:=by
 have f:0<A7 c (i+1):=by simp only[A7];grind
 exact Ao f (Vi c (show i+1<=k from q))
structure Hs(cs:List Int):Prop where
 le:cs.length<=65536
 some:1<=cs.length
 each:∀i,0<=cs.getD i 0/\cs.getD i 0<=16
def Hs.may{cs}(h:Hs cs):DK (Cc cs) 6=true:=by
 have I:=Vh (Cc cs) 17;obtain⟨c,hc⟩:=Int.eq_ofNat_of_zero_le (h.each 0).1;have E:=(h.each 0).2;have q:=Ln cs 0 (by have:=h.some;omega) c hc;have r:=AGU (Cc cs) c 17 (by omega) (by rw[N9 cs c (by omega)];exact q);unfold DK;rw[zg1,SA];refine⟨by omega,by omega,by omega,λ i f=>?_,r,?_⟩;rw[N9 cs i f];have A:=KA cs cs.length i;have B:=h.le;omega
 grind
theorem ABM:(prog.info? 280).map (λ i=>(i.zero,i.size))=some (some (.agg (Au 17 (λ _=>0)).toArray),17):=by kernel_rfl
def AF4(g w):(Instr.sliceAt 280 (.pointer (some ⟨g,0,none⟩)) none none none).run prog w=.ok (.slice (some ⟨g,0,none⟩) 17 17) w:=by
 have q:prog.arrayLen 280=17:=by kernel_rfl
 have f:prog.elem 280=3:=by kernel_rfl
 have r:prog.underlying 280=some (.array (prog.arrayLen 280) (prog.elem 280)):=by rw[q,f];exact underlying280
 rw[run_sliceAt_array_all w 280 _ r,q,f];simp[slicedAt,go_sem]
structure Ht(w W:World)(C Y n:Nat)(cs:List Int)(k:Nat):Prop where
 iv:Iv W C 280 17 (Cb cs k)
 sy:AF .i64 3 W (.slice (some ⟨Y,0,none⟩) n n) (cs.take k++List.replicate (n-k) 0)
 bel:Below w.heap.size w W
 cn:w.heap.size<=C
 yn:w.heap.size<=Y
 ne:C≠Y
section
variable {w W W':World} {C Y n:Nat} {cs:List Int} {k:Nat}
def Ht.blw(h:Ht w W C Y n cs k)(f:Below W.heap.size W W'):Ht w W' C Y n cs k:=⟨h.iv.below f,h.sy.below f,h.bel.trans (f.mono h.bel.size),h.cn,h.yn,h.ne⟩
def Ht.next(h:Ht w W C Y n cs k)(I:k<n)(J:cs.length=n)(c:Nat)(hc:cs.getD k 0=(c:Int))(B:c<=16):
 Ht w ((W.setCell ⟨Y,k,none⟩ (.int .i64 (c:Int))).setCell ⟨C,c,none⟩ (.int .i64 (Cb cs k c+1))) C Y n cs (k+1):=by
 have f:AD (λ j=>j=Y) W (W.setCell ⟨Y,k,none⟩ (.int .i64 (c:Int))):=(AD.refl (λ j=>j=Y) W).setCell (p:=⟨Y,k,none⟩) (λ _=>rfl) _;have t2:AD (λ j=>j=C) (W.setCell ⟨Y,k,none⟩ (.int .i64 (c:Int))) ((W.setCell ⟨Y,k,none⟩ (.int .i64 (c:Int))).setCell ⟨C,c,none⟩ (.int .i64 (Cb cs k c+1))):=(AD.refl (λ j=>j=C) _).setCell (p:=⟨C,c,none⟩) (λ _=>rfl) _;have A:=h.iv.tch f (λ e=>h.ne e);have s1:=h.sy.set k (c:Int);have b1:=h.bel.trans (f.below h.bel.size (λ j e=>by rw[e];exact h.yn));refine⟨(A.set c (by omega) (Cb cs k c+1)).congr (λ i E=>?_),?_,b1.trans (t2.below b1.size (λ j e=>by rw[e];exact h.cn)),h.cn,h.yn,h.ne⟩
 .unfold Bb;simp only[Cb]
  grind
 .have e:(cs.take k++List.replicate (n-k) 0).set k (c:Int)=cs.take (k+1)++List.replicate (n-(k+1)) 0:=by (have r:(cs.take k).length=k:=by grind);rw[List.set_append_right _ _ (by omega),r,Nat.sub_self,show n-k=(n-(k+1))+1 by omega,List.replicate_succ,List.set_cons_zero];rw[show cs.take (k+1)=cs.take k++[cs.getD k 0] by rw[List.take_succ_eq_append_getElem (by omega),AP,z9 (by omega)];rfl,hc,zr0];rfl
  rw[e]at s1;exact s1.tch t2 (λ j q e=>by simp only[Value.ownBlock,Option.some.injEq]at q;exact h.ne (by omega))
end
def AIq(n):(madeCells (Value.int .i64 0).cells (n*1)).toList=(List.replicate n (0:Int)).map (Value.int .i64):=by apply List.ext_getElem?;intro i;by_cases f:i<n;simp[madeCells,Value.cells,List.getElem?_range,f,Nat.mod_one];rw[zn0 (by rw[Array.length_toList,size_madeCells];omega),zn0 (by simp;omega)]
def Hs.str{cs}(h:Hs cs):(C4 (Cc cs) 6).1=0/\A0 (C4 (Cc cs) 6).2 6=true/\(C4 (Cc cs) 6).2.length<=17/\(EQ (C4 (Cc cs) 6).2 6).1=0/\(DB (C4 (Cc cs) 6).2 6 cs).1=0/\C9 (C4 (Cc cs) 6).2 cs=true/\
 (EQ (C4 (Cc cs) 6).2 6).2.length<=200/\(DB (C4 (Cc cs) 6).2 6 cs).2.length<=100000:=by
 obtain⟨s,B,I,r,K⟩:=AFz h.may;rw[B];simp only;rw[SA]at r;have A:C9 s cs=true:=by
  unfold C9;rw[zg1];intro i E;obtain⟨c,hc⟩:=Int.eq_ofNat_of_zero_le (h.each i).1;have O:=(h.each i).2;have J:=Ln cs i E c hc;have L:=(K c).2 (by rw[N9 cs c (by omega)];exact J)
  grind
 have T:=h.le;have f:EQ s 6=(0,[6]++pk ((s.length:Int)::s) (s.length+1)):=by unfold EQ;grind
 have q:DB s 6 cs=(0,AJ (Cl (nn s) s.length (2 ^ (6:Int).toNat) (6:Int).toNat cs++[1])):=by unfold DB;grind
 refine⟨trivial,I,r,by rw[f],by rw[q],A,?_,?_⟩
 .rw[f];have:=Ue ((s.length:Int)::s) (s.length+1)
  grind
 .rw[q];simp only[Cn,zc0,zh0,List.length_nil];unfold Cl;have:=OO (nn s) s.length (2 ^ (6:Int).toNat) cs;rw[zc0,Bc];omega
def AGj{cs}(h:Hs cs):(CG cs).length<=100300:=by obtain⟨_,_,_,_,_,_,f,q⟩:=h.str;have:=F0 ((DB (C4 (Cc cs) 6).2 6 cs).2.length:Int);unfold CG;rw[zc0,zc0];omega
def JQ{i}(f:i<3){ps}(h:∀x∈ps,Cu x)(q:1<=ps.length)(r:ps.length<=16384):Hs (Al i ps):=by
 refine⟨by simp[Al];omega,by simp[Al];omega,λ k=>?_⟩;rw[AP];simp only[Al,zw0];cases e:ps[k]? with
 | none=>simp
 | some x=>
  have:=Lh (h x (zd1 e) i f)
  grind
def Lm(i ps k)(f:k<ps.length):(Al i ps).getD k 0=(CU (DY i (ps.getD k AR)):Int):=by simp[Al,AP,f]
def ADy(k)(q:k<3):∀f w,(callFunc (GI k) f).run prog w=.ok (.enter (GI k) f) w:=by
 match k,q with
 | 0,_=>exact enters_of func194 (by kernel_rfl) rfl
 | 1,_=>exact enters_of func195 (by kernel_rfl) rfl
 | 2,_=>exact enters_of func196 (by kernel_rfl) rfl
def AEb(i)(hi:i<3)(f)(b4:GI i=f)(g r E xs sv ps w)(h:Sk w g r E xs)(hr:RdS w sv ps)(ag:∀x∈ps,Cu x)(h1:1<=ps.length)(h2:ps.length<=16384)(hl:xs.length<=1000000):
 Calls prog 162 #[.pointer (some ⟨g,0,none⟩),sv,.func (.func f) #[] #[]] w λ e w'=>e=.returned (.tuple #[])/\∃c0,Aq w g r w' c0 E (xs++CG (Al i ps)):=by
 have an:=z6 b4;clear b4;have H:=z6 h;have HR:=z6 hr;have bf:=z6 ag;obtain⟨a,cap,rfl,bq,c6,ax⟩:=hr;obtain⟨ab,ao,rfl,O⟩:∃b o,a=some ⟨b,o,none⟩/\∀i,i<ps.length->w.cell? ⟨b,o+i*3,none⟩=some (.int .i64 (ps.getD i AR).1)/\w.cell? ⟨b,o+i*3+1,none⟩=some (.int .i64 (ps.getD i AR).2.1)/\w.cell? ⟨b,o+i*3+2,none⟩=some (.int .i64 (ps.getD i AR).2.2):=by rcases ax with h|h;rw[h]at h1;simp at h1;exact h
 have a6:=z6 O;have am:=z6 (JQ hi ag h1 h2);have A:Hid ((Al i ps).length=ps.length):=by show _=_;simp[Al]
 have a5:Hid (∀k,k<ps.length->(Al i ps).getD k 0=(CU (DY i (ps.getD k AR)):Int)):=λ k hk=>Lm i ps k hk;obtain⟨cs,az⟩:=exH (Al i ps);rw[az.o]at am A a5 |-
 clear ax O h ag az;obtain⟨b7,bn⟩:=zero_of_info ABM;obtain⟨ZN,a8⟩:=exH ((Au 17 (λ _=>0)).toArray);rw[a8.o]at b7;have cc:=fun(g:Nat) (w:World)=>AF4 g w;obtain⟨j0,q,b8,b9,ba⟩:=DU.info;obtain⟨n,hn⟩:=exN ps.length;have HN:=z6 hn;rw[hn]at h1 h2 bq A a5 a6 |-
 clear hn
 go_enter func162,ntmps162
 go_wp2_with(at_make;refine wpList_make_full _ rfl (.tmp 13) (.tmp 13) 23 rfl 0 3 j0 _ 1 underlying23 q b8 b9 .i64 .i64 _ _ n rfl rfl (by first|rfl|omega) (by first|rfl|omega) (by rw[ba];omega) (by unfold maxLen;omega) (AI _) ?_)
 intro w1 ad b6;obtain⟨C,K⟩:=exH w.heap.size;obtain⟨Y,hY⟩:=exH (w.heap.size+1);rw[hY.o]at ad |-
 have P1:Hid (Ht w w1 C Y n cs 0):=by
  have b1:=(Below.refl _ _).grown b6 (AE _) (λ k e=>by cases e);have b0:Below w.heap.size w (w.alloc (.cells ZN 280)):=(Below.refl _ _).alloc (AE _) _;have bo:Iv (w.alloc (.cells ZN 280)) C 280 17 (Cb cs 0):=by unfold Iv;rw[<-K.o,<-a8.o];exact heap_alloc_new w _
  have ce:=hY.o.symm;have e0:(madeCells #[Value.int .i64 0] n).toList=(List.replicate n (0:Int)).map (Value.int .i64):=by have:=AIq n;rw[Nat.mul_one]at this;exact this
  refine⟨bo.below b1,?_,b0.trans (b1.mono b0.size),by have:=K.o;omega,by omega,by have:=K.o;omega⟩;unfold AF;rw[List.take_zero,List.nil_append,Nat.sub_zero,zm0,<-e0];exact ad
 rw[K.o];clear ad b6 K hY a8 b7 bn q b8 b9 ba;go_wp2_with fail
 go_loopw [17] (λ i wr=>∃k:Nat,k<=n/\i=.int .i64 k/\Hid (Ht w wr C Y n cs k)) (λ i _=>n-(intOf i).toNat)
 case atStart=>exact⟨0,AI _,rfl,P1⟩
 case round=>
  clear P1;obtain⟨k,hk,rfl,P⟩:=hrel;by_cases ac:k<n
  .obtain⟨x,hx⟩:=exH (ps.getD k AR);have al:Cu x:=by rw[<-hx.o,AP,z9 (by have:=HN.o;omega)];exact bf.o _ (zt0 _)
   have O:=a6.o k ac;rw[hx.o]at O;obtain⟨q0,q1,q2⟩:=O;have a4:∀T v,w.cell? ⟨ab,T,none⟩=some v->wr.cell? ⟨ab,T,none⟩=some v:=λ T v Am=>by rw[P.o.bel.cell (p:=⟨ab,T,none⟩) (zb0 w ⟨ab,T,none⟩ Am)];exact Am
   (have k0:=a4 _ _ q0;have k1:=a4 _ _ q1;have k2:=a4 _ _ q2;have L:=a5.o k ac;rw[hx.o]at L;obtain⟨v,Am⟩:=exH (DY i x);have ak:=al i hi;rw[Am.o]at L ak;have aw:=Lh ak;obtain⟨c,hc⟩:=exH (CU v);rw[hc.o]at L aw;(have bj:∀ar w,(callFunc f ar).run prog w=.ok (.enter f ar) w:=by rw[<-an.o];exact ADy i hi);have aq:Hid (∀W:World,Calls prog f #[.agg #[.int .i64 x.1,.int .i64 x.2.1,.int .i64 x.2.2]] W λ e w'=>e=.returned (.int .i64 v)/\Below W.heap.size W w'):=λ W=>by have:=UX i hi x al W;rw[Am.o,an.o]at this;exact this);have be:Hid (∀W:World,Calls prog 197 #[.int .i64 v] W λ e w'=>e=.returned (.int .i64 (c:Int))/\w'=W):=λ W=>by have:=Rk v W ak;rw[hc.o]at this;exact this
   have bd:=z6 L;obtain⟨x1,x2,x3⟩:=x;simp only at k0 k1 k2;have bh:Hid (∀W:World,Calls prog f #[.agg #[.int .i64 x1,.int .i64 x2,.int .i64 x3]] W λ e w'=>e=.returned (.int .i64 v)/\Below W.heap.size W w'):=aq;clear q0 q1 q2 a4 L al aq;(have c7:(0:Int)<=(k:Int):=by omega);(have c9:(k:Int)<(n:Int):=by omega);go_wp2_with fail;obtain⟨W2,a7⟩:=exH (wr.alloc (.cells #[.int .i64 x1,.int .i64 x2,.int .i64 x3] 244));try rw[a7.o]
   (have b2:Below wr.heap.size wr W2:=by rw[<-a7.o];exact(Below.refl _ _).alloc (AE _) _);have P2:=z6 (P.o.blw b2);clear b2 P k0 k1 k2 bj;refine(bh.o _).mono ?_;rintro e w3 ⟨rfl,au⟩;have B:=z6 (P2.o.blw au);clear au P2 a7;go_wp2_with fail;refine(be.o w3).mono ?_;rintro e w4 ⟨rfl,rfl⟩;obtain⟨g5,c2,I,_,_,_,ay,b5⟩:=B.o.sy.shape (by rw[zc0,zm0];omega);simp only[Value.slice.injEq,Option.some.injEq,Addr.mk.injEq,and_true]at I;obtain⟨rfl,bp⟩:=I;clear bp;(have bx:(cs.take k++List.replicate (n-k) 0).length=n:=by rw[zc0,zd0,zm0];have:=A.o;omega);have y0:∃yv,w4.cell? ⟨Y,k,none⟩=some (.int .i64 yv):=⟨_,ay k (by omega)⟩
   obtain⟨yv,y0⟩:=y0;have yf:=b5 k;have n0:=B.o.iv.at_ c (by omega);have nf:=B.o.iv.fz c;have bk:=KA cs k c;have P4:=B.o.next ac A.o c bd.o aw;obtain⟨z,hz⟩:=exH (Cb cs k c);rw[hz.o]at n0 bk P4;have bg:=z6 P4;have br:=B.o.ne;have ca:Y≠C:=λ e=>br e.symm;(have c4:(0:Int)<=(c:Int):=by omega);(have c5:(c:Int)<17:=by omega);clear B P4 ay b5 bx;go_wp2_with fail
   go_roundw
   (case rel=>exact⟨k+1,by omega,by go_num,bg⟩);case measure=>simp[intOf];omega
  .obtain rfl:k=n:=by omega
   (have ap:Hid (Rd .i64 wr (.slice (some ⟨C,0,none⟩) 17 17) (Cc cs)):=by have:=P.o.iv.rdList (by omega);rw[<-A.o]at this;exact this);(have O1:Hid (AF .i64 3 wr (.slice (some ⟨Y,0,none⟩) k k) cs):=by have:=P.o.sy;rw[Nat.sub_self,List.replicate_zero,List.append_nil,Cj (by rw[A.o];exact AE _)]at this;exact this);have X:=z6 (H.o.below P.o.bel);have B1:=z6 P.o.bel;have NY:Hid (Y≠g/\∀j,r.ownBlock=some j->j≠Y):=⟨by have:=P.o.yn;have:=H.o.lt;omega,λ j q=>by have:=P.o.yn;have:=H.o.own.lt j q;omega⟩
   obtain⟨e1,e2,e3,e4,I,e6,e7,e8⟩:=am.o.str;obtain⟨sR,aj⟩:=exH (C4 (Cc cs) 6);(have U:Hid (CG cs=(EQ sR.2 6).2++AQ (DB sR.2 6 cs).2.length++(DB sR.2 6 cs).2):=by show _=_;unfold CG;rw[aj.o]);rw[aj.o]at e1 e2 e3 e4 I e7 e8;obtain⟨E1,s⟩:=sR;simp only at e1 e2 e3 e4 I e7 e8 U;subst e1;clear P H a6 HR e6;go_wp2_with fail;refine(AFy _ (Cc cs) 6 wr ap.o).mono ?_;rintro e w2 ⟨d2,rfl,a0,a9,a2⟩;rw[aj.o]at a2 |-
   simp only at a2 |-
   have O2:=z6 a2;have Y2:=z6 (O1.o.below a0);have S2:=z6 (X.o.below a0);have B2:=z6 (B1.o.trans (a0.mono B1.o.size));have ND:Hid (∀j,d2.ownBlock=some j->j≠g/\r.ownBlock≠some j):=λ j q=>⟨by have:=a9 j q;have:=X.o.lt;omega,λ e=>by have:=a9 j q;have:=X.o.own.lt j e;omega⟩
   clear a0 a9 a2 O1 X B1 ap;go_wp2_with fail;refine(JY g r E 0 xs w2 S2.o).mono ?_;rintro e w3 ⟨rfl,ai,a3⟩;rw[Ec]at ai;have S3:=z6 (Aq.pre B2.o (Aq.kept ai a3));have O3:=z6 (O2.o.tch a3 (λ j q e=>(ND.o j q).1 e));have Y3:=z6 (Y2.o.tch a3 (λ j q e=>by simp only[Value.ownBlock,Option.some.injEq]at q;exact NY.o.1 (by omega)));clear ai a3 S2 O2 Y2 B2;go_wp2_with fail;refine(AEY d2 s 6 w3 O3.o.rd).mono ?_;rintro e w4 ⟨p4,rfl,a1,b3,ae⟩;rw[e4];obtain⟨pb,bu⟩:=exH ((EQ s 6).2);rw[bu.o]at ae U e7;have S4:=z6 (S3.o.post a1);have O4:=z6 (O3.o.below a1);have Y4:=z6 (Y3.o.below a1);have Q4:=z6 ae;(have bw:p4.ownBlock≠some g:=λ e=>by have:=b3 g e;have:=S3.o.sk.lt;omega);clear a1 b3 ae S3 O3 Y3
   go_wp2_with fail;refine(Fj g r E 0 xs p4 pb w4 S4.o.sk Q4.o.rd bw (by omega)).mono ?_;rintro e w5 ⟨rfl,bb,J⟩;rw[Ec]at J;have Z:=z6 (S4.o.trans J);have O5:=z6 (O4.o.tch J.tch (λ j q e=>by rcases e with e|e;(· exact(ND.o j q).1 e);(· exact(ND.o j q).2 e)));have Y5:=z6 (Y4.o.tch J.tch (λ j q e=>by simp only[Value.ownBlock,Option.some.injEq]at q;rcases e with e|e;(· exact NY.o.1 (by omega));(· exact NY.o.2 j e q.symm)));clear J S4 O4 Y4 Q4;go_wp2_with fail;refine(Zu d2 _ s cs 6 w5 O5.o.rd Y5.o.rd).mono ?_;rintro e w6 ⟨v6,rfl,av,aa,af⟩;rw[I];obtain⟨eb,bm⟩:=exH ((DB s 6 cs).2);rw[bm.o]at af U e8;have S6:=z6 (Z.o.post av);have V6:=z6 af
   (have bz:v6.ownBlock≠some g:=λ e=>by have:=aa g e;have:=Z.o.sk.lt;omega);(have bi:Hid (∀j,v6.ownBlock=some j->bb.ownBlock≠some j):=λ j q e=>by have:=aa j q;have:=Z.o.sk.own.lt j e;omega);clear av aa af Z O5 Y5;go_wp2_with fail;refine(QA g bb E 0 (xs++pb) v6 eb w6 S6.o.sk V6.o.rd bz bi.o V6.o.lt (by rw[zc0];omega) (by omega)).mono ?_;rintro e w7 ⟨rfl,bc,h7⟩;rw[Ec]at h7;have S7:Hid (Aq w g r w7 bc E (xs++CG cs)):=by have:=S6.o.trans h7;rw[U.o];simpa[zr0,Hid]using this
   clear h7 S6 V6;go_wp2_with fail
   go_end0
   exact⟨rfl,bc,S7.o⟩
def Ey(v:Int):List Int:=Aa v (BM (CU v:Int))
def CO(x:Sq):Nat->List Int
 | 0=>[]
 | k+1=>CO x k++Ey (DY k x)
def Av(ps:List Sq):Nat->List Int
 | 0=>[]
 | k+1=>Av ps k++CO (ps.getD k AR) 3
def XY(v n)(h:0<=v/\v<=65535)(f:n<=16):Go.bits BinOp.and IntKind.i64 v (2 ^ n-1)=v % 2 ^ n:=by
 obtain⟨a,rfl⟩:=Int.eq_ofNat_of_zero_le h.1;have A:2 ^ n<=2 ^ 16:=Nat.pow_le_pow_right (by decide) f;have q:2 ^ 16=65536:=by decide
 have r:2 ^ 62=4611686018427387904:=by decide
 have B:0<2 ^ n:=Nat.pow_pos (by decide);have e:((2:Int) ^ n-1)=((2 ^ n-1:Nat):Int):=by grind
 rw[e,(bits_nat .i64 62 (by decide) Bp a (2 ^ n-1) (by omega) (by omega)).1,Nat.and_two_pow_sub_one_eq_mod];simp
def AFa(w C)(n:Nat)(v)(E:n<3)(Am:C[n]?=some v):(Instr.index 247 (.agg C) (.int .i64 (n:Int))).run prog w=.ok v w:=by
 have A:prog.underlying 247=some (.array 3 246):=underlying247;have q:(prog.info? 246).map (·.size)=some 1:=by kernel_rfl
 obtain⟨i,B,I⟩:=Option.map_eq_some_iff.1 q;have r:(sizeOf 246).run prog w=.ok 1 w:=by simp
 have f:(isAgg 246).run prog w=.ok false w:=by unfold isAgg;rw[Sem.run_bind,run_underlying underlying246 w];rfl
 have hc:(0:Int)<=(n:Int)/\(n:Int)<((3:Nat):Int):=⟨by omega,by omega⟩
 simp only[Instr.index,asIntOf,Sem.run_bind,Sem.run_pure,Result.andThen_ok,run_underlying A w,if_pos hc,r,part,f,Int.toNat_natCast,Nat.mul_one,Am];rfl
def Wo(w){f q o a Q}(A:o.guard=none)(x i)(I:o.op=.index 247 x i)(C)(n:Nat)(v)(L:a.eval x=.agg C)(B:a.eval i=.int .i64 (n:Int))(E:n<3)(Am:C[n]?=some v)(h:wpList prog f Q q (a.put o.dst v) w):wpList prog f Q (o::q) a w:=by
 refine wpList_plain A λ K r=>?_;have J:=AFa w C n v E Am;unfold Oper.wp execOp;simp only[I,L,B,Sem.run_bind,J,Result.andThen_ok,Sem.run_pure];exact r _ _ h
def UV(k)(f:k<3):Ee[k]?=some (.func (.func (GI k)) #[] #[]):=by
 match k,f with
 | 0,_=>rfl
 | 1,_=>rfl
 | 2,_=>rfl
def ADx(k)(q:k<3):∀f w,(callFunc (GI k) f).run prog w=.ok (.enter (GI k) f) w:=by
 match k,q with
 | 0,_=>exact enters_of func194 (by kernel_rfl) rfl
 | 1,_=>exact enters_of func195 (by kernel_rfl) rfl
 | 2,_=>exact enters_of func196 (by kernel_rfl) rfl
structure Rz(w W:World)(b P:Nat)(rv:Value)(bs:List Int):Prop where
 wr:Wr W b rv bs
 pb:W.heap[P]?=some (.cells Ee 247 (0,0))
 bel:Below w.heap.size w W
 bn:w.heap.size<=b
 pn:w.heap.size<=P
 rn:∀k,rv.ownBlock=some k->w.heap.size<=k
section
variable {w W W':World} {b P:Nat} {rv rv':Value} {bs xs:List Int}
def Rz.ltP(h:Rz w W b P rv bs):P<W.heap.size:=(za0.1 h.pb).1
def Rz.blw(h:Rz w W b P rv bs)(f:Below W.heap.size W W'):Rz w W' b P rv bs:=
 ⟨h.wr.tch (S:=λ _=>False) (AD.of_below f) (λ e=>e) (λ _ _ e=>e),by rw[f.block P h.ltP];exact h.pb,h.bel.trans (f.mono h.bel.size),h.bn,h.pn,h.rn⟩
def Rz.neP(h:Rz w W b P rv bs):P≠b/\rv.ownBlock≠some P:=by refine⟨λ e=>?_,λ e=>?_⟩;have f:=h.pb;rw[e,h.wr.blk]at f;simp at f;obtain⟨c,f⟩:=Lb h.wr.own e;rw[h.pb]at f;simp at f
def Rz.put(h:Rz w W b P rv bs)(f:EE W b rv W' rv' xs):Rz w W' b P rv' xs:=by have r:=h.neP;refine⟨f.wr,?_,h.bel.trans (f.tch.below h.bel.size (λ k q=>?_)),h.bn,h.pn,λ k q=>?_⟩;rw[f.tch.block P h.ltP (λ e=>by grind)];exact h.pb;rcases q with e|e;rw[e];exact h.bn;exact h.rn k e;rcases f.fresh k q with e|e;exact h.rn k e;have:=h.bel.size;omega
end
def AFR{v}(h:0<=v/\v<=65535):(Ey v).length<=15:=by unfold Ey;rw[Bc];have:=Lh h;unfold BM;omega
def Pr{x:Sq}(h:Cu x):∀k,k<=3->(CO x k).length<=15*k
 | 0,_=>by simp[CO]
 | k+1,hk=>by have f:=Pr h k (by omega);have q:=AFR (h k (by omega));simp only[CO,zc0];omega
def Jf{ps:List Sq}(h:∀x∈ps,Cu x):∀k,k<=ps.length->(Av ps k).length<=45*k
 | 0,_=>by simp[Av]
 | k+1,hk=>by
  have f:=Jf h k (by omega);have q:(CO (ps.getD k AR) 3).length<=15*3:=Pr (by
   grind) 3 (by omega)
  simp only[Av,zc0];omega
structure Ry(w W:World)(b P B:Nat)(rv:Value)(bs:List Int)(x1 x2 x3:Int):Prop where
 rz:Rz w W b P rv bs
 b7:W.heap[B]?=some (.cells #[.int .i64 x1,.int .i64 x2,.int .i64 x3] 244 (0,0))
section
variable {w W W':World} {b P B:Nat} {rv rv':Value} {bs xs:List Int} {x1 x2 x3:Int}
def Ry.lt7(h:Ry w W b P B rv bs x1 x2 x3):B<W.heap.size:=(za0.1 h.b7).1
def Ry.blw(h:Ry w W b P B rv bs x1 x2 x3)(f:Below W.heap.size W W'):Ry w W' b P B rv bs x1 x2 x3:=⟨h.rz.blw f,by rw[f.block B h.lt7];exact h.b7⟩
def Ry.put(h:Ry w W b P B rv bs x1 x2 x3)(q:EE W b rv W' rv' xs):Ry w W' b P B rv' xs x1 x2 x3:=by refine⟨h.rz.put q,?_⟩;rw[q.tch.block B h.lt7 (λ e=>?_)];exact h.b7;rcases e with e|e;have f:=h.b7;rw[e,h.rz.wr.blk]at f;simp at f;obtain⟨c,f⟩:=Lb h.rz.wr.own e;rw[h.b7]at f;simp at f
end
def AEx(sv ps w)(hr:RdS w sv ps)(ap:∀x∈ps,Cu x)(h2:ps.length<=16384):
 Calls prog 164 #[sv] w λ e w'=>∃v',e=.returned (.tuple #[v',.int .i64 0])/\AF .u8 5 w' v' (AJ (Av ps ps.length))/\Below w.heap.size w w'/\∀k,v'.ownBlock=some k->w.heap.size<=k:=by
 have a6:=z6 ap;obtain⟨a,cap,rfl,b6,be,ak⟩:=hr;have ad:=z6 ak;clear ak ap;obtain⟨n,hn⟩:=exN ps.length;have Z:=z6 hn;rw[hn]at h2 b6 ad |-
 clear hn
 go_enter func164,ntmps164
 go_wp2_with fail;refine(MZ w).mono ?_;rintro e w1 ⟨rfl,L,ag⟩;obtain⟨b,r⟩:=exN w.heap.size;have av:=z6 r;rw[r]at L |-
 have W1:=z6 L;have B1:=z6 ag;clear L ag r;go_wp2_with fail;refine(UY w1).mono ?_;rintro e A ⟨rfl,a9⟩;have I:=z6 (W1.o.tch (S:=λ _=>False) (AD.of_below a9) (λ e=>e) (λ _ _ e=>e));have U:Hid (Below w.heap.size w A):=B1.o.trans (a9.mono B1.o.size);clear a9 W1 B1;go_wp2_with(refine JA A rfl 247 (.tmp 5) (.tmp 14) rfl #[.nilFunc,.nilFunc,.nilFunc] Ee rfl rfl (by kernel_rfl) rfl UW ?_)
 obtain⟨W3,a2⟩:=exH (A.alloc (.cells Ee 247));rw[a2.o];obtain⟨P,hP⟩:=exH A.heap.size;rw[hP.o];have R3:Hid (Rz w W3 b P (.slice none 0 0) (Av ps 0)):=by
  have r:Below A.heap.size A W3:=by rw[<-a2.o];exact(Below.refl _ _).alloc (AE _) _
  refine⟨I.o.tch (S:=λ _=>False) (AD.of_below r) (λ e=>e) (λ _ _ e=>e),?_,U.o.trans (r.mono U.o.size),by have:=av.o;omega,by have:=hP.o;have:=U.o.size;omega,(λ k e=>by cases e)⟩;rw[<-a2.o,<-hP.o];exact heap_alloc_new A _
 clear a2 hP I U
 go_loopw [17] (λ i wr=>∃(k:Nat)(rv:Value),k<=n/\i=.int .i64 k/\Hid (Rz w wr b P rv (Av ps k))) (λ i _=>n-(intOf i).toNat)
 case atStart=>exact⟨0,_,AI _,rfl,R3⟩
 case round=>
  clear R3;obtain⟨k,rv,hk,rfl,R⟩:=hrel;by_cases b8:k<n
  .obtain⟨ab,ao,ha,al⟩:∃b o,a=some ⟨b,o,none⟩/\∀i,i<n->w.cell? ⟨b,o+i*3,none⟩=some (.int .i64 (ps.getD i AR).1)/\w.cell? ⟨b,o+i*3+1,none⟩=some (.int .i64 (ps.getD i AR).2.1)/\w.cell? ⟨b,o+i*3+2,none⟩=some (.int .i64 (ps.getD i AR).2.2):=by rcases ad.o with h|h;have:=Z.o;rw[h]at this;simp at this;omega;exact h
   (subst ha;obtain⟨x,hx⟩:=exH (ps.getD k AR);have a7:Hid (Cu x):=by rw[<-hx.o,AP,z9 (by have:=Z.o;omega)];exact a6.o _ (zt0 _));obtain⟨q0,q1,q2⟩:=al k b8;rw[hx.o]at q0 q1 q2;have a5:∀O v,w.cell? ⟨ab,O,none⟩=some v->wr.cell? ⟨ab,O,none⟩=some v:=λ O v Am=>by rw[R.o.bel.cell (p:=⟨ab,O,none⟩) (zb0 w ⟨ab,O,none⟩ Am)];exact Am
   have k0:=a5 _ _ q0;have k1:=a5 _ _ q1;have k2:=a5 _ _ q2;obtain⟨x1,x2,x3⟩:=x;simp only at k0 k1 k2;have aq:=R.o.pb;have a4:wr.heap[P]?=some (.cells #[.func (.func 194) #[] #[],.func (.func 195) #[] #[],.func (.func 196) #[] #[]] 247 (0,0)):=aq;(have p0:wr.cell? ⟨P,0,none⟩=some (.func (.func 194) #[] #[]):=by rw[cell_of_row wr P 0 _ _ (0,0) a4];rfl);(have p1:wr.cell? ⟨P,1,none⟩=some (.func (.func 195) #[] #[]):=by rw[cell_of_row wr P 1 _ _ (0,0) a4];rfl);(have p2:wr.cell? ⟨P,2,none⟩=some (.func (.func 196) #[] #[]):=by rw[cell_of_row wr P 2 _ _ (0,0) a4];rfl);have b3:=R.o.ltP;(have bg:(0:Int)<=(k:Int):=by omega);(have bh:(k:Int)<(n:Int):=by omega);clear q0 q1 q2 a5 al aq a4
   go_wp2_with fail;obtain⟨I,a1⟩:=exH (wr.alloc (.cells #[.int .i64 x1,.int .i64 x2,.int .i64 x3] 244));rw[a1.o];obtain⟨B,hB⟩:=exH wr.heap.size;rw[hB.o];have Y2:Hid (Ry w I b P B rv (Av ps k++CO (x1,x2,x3) 0) x1 x2 x3):=by (have r:Below wr.heap.size wr I:=by rw[<-a1.o];exact(Below.refl _ _).alloc (AE _) _);refine⟨by simpa[CO]using R.o.blw r,?_⟩;rw[<-a1.o,<-hB.o];exact heap_alloc_new wr _
   (have az:Hid ((Av ps k).length<=800000):=by show _<=_;have:=Jf a6.o k (by rw[Z.o];omega);omega);clear a1 hB R k0 k1 k2 p0 p1 p2 b3
   go_loopw [22] (λ i bd=>∃(j:Nat)(E:Value),j<=3/\i=.int .i64 j/\Hid (Ry w bd b P B E (Av ps k++CO (x1,x2,x3) j) x1 x2 x3)) (λ i _=>3-(intOf i).toNat)
   (case atStart=>exact⟨0,_,by omega,rfl,Y2⟩);case round=>
    rename_i wrA;clear Y2;obtain⟨j,E,hj,rfl,Y⟩:=hrel;by_cases J:j<3
    .obtain⟨v,Am⟩:=exH (DY j (x1,x2,x3));have K:=a7.o j J;rw[Am.o]at K;have b5:=Lh K;obtain⟨c,hc⟩:=exH (CU v);rw[hc.o]at b5;obtain⟨q,hq⟩:=exH (BM (c:Int));(have ba:q<=15:=by rw[<-hq.o];unfold BM;omega);obtain⟨f,hf⟩:=exH (GI j);(have b2:∀af w,(callFunc f af).run prog w=.ok (.enter f af) w:=by rw[<-hf.o];exact ADx j J);have ae:Hid (∀W:World,Calls prog f #[.agg #[.int .i64 x1,.int .i64 x2,.int .i64 x3]] W λ e w'=>e=.returned (.int .i64 v)/\Below W.heap.size W w'):=λ W=>by have:=UX j J (x1,x2,x3) a7.o W;rw[Am.o,hf.o]at this;exact this
     (have aw:Hid (∀W:World,Calls prog 197 #[.int .i64 v] W λ e w'=>e=.returned (.int .i64 (c:Int))/\w'=W):=λ W=>by have:=Rk v W K;rw[hc.o]at this;exact this);have ay:Hid (∀W:World,Calls prog 202 #[.int .i64 (c:Int)] W λ e w'=>e=.returned (.int .i64 (q:Int))/\w'=W):=λ W=>by have:=Ut (c:Int) W (by omega) (by omega);rw[hq.o]at this;exact this
     (have au:Hid ((#[.func (.func 194) #[] #[],.func (.func 195) #[] #[],.func (.func 196) #[] #[]]:Array Value)[j]?=some (.func (.func f) #[] #[])):=by rw[<-hf.o];exact UV j J);have a3:=Y.o.b7;(have s0:wr.cell? ⟨B,0,none⟩=some (.int .i64 x1):=by rw[cell_of_row wr B 0 _ _ (0,0) a3];rfl);(have s1:wr.cell? ⟨B,1,none⟩=some (.int .i64 x2):=by rw[cell_of_row wr B 1 _ _ (0,0) a3];rfl);(have s2:wr.cell? ⟨B,2,none⟩=some (.int .i64 x3):=by rw[cell_of_row wr B 2 _ _ (0,0) a3];rfl);(have bf:(j:Int)<3:=by omega);clear a3;go_wp2_with(refine Wo _ rfl (.tmp 21) (.tmp 22) rfl _ j _ rfl rfl J au.o ?_)
     (refine(ae.o wr).mono ?_;rintro e w5 ⟨rfl,ai⟩;have Y5:Hid (Ry w w5 b P B E (Av ps k++CO (x1,x2,x3) j) x1 x2 x3):=Y.o.blw ai;clear ai Y s0 s1 s2 ae b2;go_wp2_with fail;refine(aw.o w5).mono ?_;rintro e w6 ⟨rfl,rfl⟩;go_wp2_with fail;refine(ay.o w6).mono ?_;rintro e w7 ⟨rfl,rfl⟩;have ar:(2:Int) ^ q<=32768:=by have h1:(2:Int) ^ q<=2 ^ 15:=Gt ba;(have e:(2:Int) ^ 15=32768:=by decide);omega);have aa:(0:Int)<2 ^ q:=Int.pow_pos (by decide);have a8:=XY v q K (by omega);have X:Hid (0<=v % 2 ^ q/\v % 2 ^ q<2 ^ q):=⟨Int.emod_nonneg _ (by omega),Int.emod_lt_of_pos _ aa⟩
     have ac:Hid (Aa (v % 2 ^ q) q=Aa v q):=by
      show _=_;obtain⟨a0,b4⟩:=Int.eq_ofNat_of_zero_le K.1;rw[b4];have:=Ni a0 q
      push_cast at this
      exact this
     (have b0:Hid (Av ps k++CO (x1,x2,x3) (j+1)=Av ps k++CO (x1,x2,x3) j++Aa v q):=by show _=_;simp only[CO,Ey];rw[Am.o,hc.o,hq.o,zr0]);have ax:Hid ((Av ps k++CO (x1,x2,x3) j).length<=900000):=by show _<=_;have h3:=Pr a7.o j (by omega);have h4:=az.o;rw[zc0];omega
     (obtain⟨M,hM⟩:=exH (v % 2 ^ q);obtain⟨T,hT⟩:=exH ((2:Int) ^ q);rw[hM.o]at a8 X ac;rw[hT.o]at a8 X ar aa;have L:IntKind.i64.wrap T=T:=Bp _ (by omega) (by omega);have bb:IntKind.i64.wrap (T-1)=T-1:=Bp _ (by omega) (by omega);(have bc:wrap64 (2 ^ q)=T:=by rw[hT.o];exact IntWalk.wrap64_in _ ⟨by omega,by omega⟩);(have b9:min q 64=q:=by omega);go_wp2_with fail;refine(IQ b E q M _ w7 Y5.o.rz.wr (by have:=ax.o;omega) (by omega) X.o.1 (by rw[hT.o];exact X.o.2)).mono ?_;rintro e w8 ⟨rfl,DM,h8⟩;have Y8:Hid (Ry w w8 b P B DM (Av ps k++CO (x1,x2,x3) (j+1)) x1 x2 x3):=by have:=Y5.o.put h8;rw[ac.o]at this;rw[b0.o];exact this);clear h8 Y5 a8 L bb bc ar aa b9;go_wp2_with fail
     go_roundw
     (case rel=>exact⟨j+1,DM,by omega,by go_num,Y8⟩);case measure=>simp[intOf];omega
    .obtain rfl:j=3:=by omega
     (have R6:Hid (Rz w wr b P E (Av ps (k+1))):=by have:=Y.o.rz;simp only[Av];rw[hx.o];exact this);clear Y;go_wp2_with fail
     go_roundw
     (case rel=>exact⟨k+1,E,by omega,by go_num,R6⟩);case measure=>simp[intOf];omega
  .obtain rfl:k=n:=by omega
   (have HL:Hid ((Av ps k).length<=1000000):=by show _<=_;have:=Jf a6.o k (by rw[Z.o];exact AE _);omega);go_wp2_with fail;refine(Nr b rv _ wr R.o.wr (by have:=HL.o;omega)).mono ?_;rintro e w6 ⟨v6,rfl,an,aj,am⟩;have O6:Hid (AF .u8 5 w6 v6 (AJ (Av ps k))):=an;have B6:Hid (Below w.heap.size w w6):=R.o.bel.trans (aj.mono R.o.bel.size);have N6:Hid (∀j,v6.ownBlock=some j->w.heap.size<=j):=λ j hj=>Aw R.o.bel.size (am j hj);clear an aj am R;go_wp2_with fail;go_ret2;exact⟨v6,rfl,O6.o,B6.o,N6.o⟩
def strs(ps:List Sq):Nat->List Int
 | 0=>[]
 | k+1=>strs ps k++CG (Al k ps)
def GL(ps:List Sq):List Int:=
 if ps.length=0 then AQ ps.length else AQ ps.length++strs ps 3++AQ (AJ (Av ps ps.length)).length++AJ (Av ps ps.length)
def Vm{ps:List Sq}(h:∀x∈ps,Cu x)(f:1<=ps.length)(q:ps.length<=16384):∀k,k<=3->(strs ps k).length<=100300*k
 | 0,_=>by simp[strs]
 | k+1,hk=>by have r:=Vm h f q k (by omega);have:=AGj (JQ (i:=k) (by omega) h f q);simp only[strs,zc0];omega
def AEa(i)(B:i<3)(g f E xs q ps w)(h:Sk w g f E xs)(hr:RdS w q ps)(J:∀x∈ps,Cu x)(r:1<=ps.length)(A:ps.length<=16384)(I:xs.length<=1000000):
 Calls prog 162 #[.pointer (some ⟨g,0,none⟩),q,.func (.func (GI i)) #[] #[]] w λ e w'=>e=.returned (.tuple #[])/\∃K,Aq w g f w' K E (xs++CG (Al i ps)):=AEb i B (GI i) rfl g f E xs q ps w h hr J r A I
def RdS.tch{S w w' v ps}(h:RdS w v ps)(I:AD S w w')(E:∀b,v.ownBlock=some b->¬S b):RdS w' v ps:=by
 obtain⟨a,cap,rfl,r,A,q⟩:=h;refine⟨a,cap,rfl,r,A,?_⟩;rcases q with q|⟨b,o,rfl,hc⟩
 .grind
 .refine .inr ⟨b,o,rfl,λ i B=>?_⟩;obtain⟨K,L,O⟩:=hc i B;have J:∀f v,w.cell? ⟨b,f,none⟩=some v->w'.cell? ⟨b,f,none⟩=some v:=λ f v Am=>by rw[I.cell (p:=⟨b,f,none⟩) (zb0 w ⟨b,f,none⟩ Am) (E b rfl)];exact Am
  grind
def AEZ(g f E xs r ps w)(h:Sk w g f E xs)(hr:RdS w r ps)(a6:∀x∈ps,Cu x)(U:ps.length<=16384)(hl:xs.length<=100000)(O:r.ownBlock≠some g)(a8:∀k,r.ownBlock=some k->f.ownBlock≠some k)(a7:∀k,r.ownBlock=some k->k<w.heap.size):
 Calls prog 129 #[.pointer (some ⟨g,0,none⟩),r] w λ e w'=>e=.returned (.tuple #[])/\∃aj,Aq w g f w' aj E (xs++GL ps):=by
 have H:=z6 h;have HR:=z6 hr;have J:=z6 a6;have ad:=z6 O;have ae:Hid (∀k,r.ownBlock=some k->f.ownBlock≠some k/\k<w.heap.size):=λ k L=>⟨a8 k L,a7 k L⟩
 obtain⟨va,vc,ai,_⟩:=hr;have hd:=F0 (ps.length:Int);clear h a6 O a8 a7;subst ai;have HT:Hid (∀(W:World)(q:Value)(E1:Int)(z:List Int),Aq w g f W q E1 z->RdS W (.slice va ps.length vc) ps):=λ W q E1 z hW=>HR.o.tch hW.tch (λ b hb e=>by rcases e with e|e;(· exact ad.o (by rw[hb,e]));(· exact(ae.o b hb).1 e));unfold GL;by_cases B:ps.length=0
 .rw[if_pos B];have ag:((ps.length:Int)==0)=true:=by simp[B]
  clear B
  go_enter func129,ntmps129
  go_wp2_with fail;refine(Kp g f E xs ps.length w H.o (by omega) (by omega)).mono ?_;rintro e w1 ⟨rfl,a0,I⟩;have K:=z6 I;clear I;go_wp2_with fail
  (try simp only[Exit.inBlock,Exit.then])
  refine bodyPost_ret (results_none rfl _ _ _) rfl ?_;exact⟨rfl,a0,K.o⟩
 .rw[if_neg B];have ag:((ps.length:Int)==0)=false:=by rw[zi0];omega
  have a2:1<=ps.length:=by omega
  clear B
  go_enter func129,ntmps129
  go_wp2_with fail;refine(Kp g f E xs ps.length w H.o (by omega) (by omega)).mono ?_;rintro e w1 ⟨rfl,a0,I⟩;have K:=z6 I;clear I;go_wp2_with fail;refine(UY w1).mono ?_;rintro e w2 ⟨rfl,a3⟩;have S2:Hid (Aq w g f w2 a0 E (xs++AQ (ps.length:Int)++strs ps 0)):=by have:=K.o.post a3;simpa[strs,Hid]using this
  clear a3 K;go_wp2_with fail
  go_loopw [14] (λ i wr=>∃(k:Nat)(q:Value),k<=3/\i=.int .i64 k/\Hid (Aq w g f wr q E (xs++AQ (ps.length:Int)++strs ps k))) (λ i _=>3-(intOf i).toNat)
  case atStart=>exact⟨0,_,by omega,rfl,S2⟩
  case round=>
   (clear S2;obtain⟨k,q,L,rfl,S⟩:=hrel;have a1:Hid ((xs++AQ (ps.length:Int)++strs ps k).length<=500000):=by show _<=_;have:=Vm J.o a2 U k L;rw[zc0,zc0];omega);by_cases Z:k<3
   .have ak:(k:Int)<3:=by omega
    have ab:Hid (Ee[k]?=some (.func (.func (GI k)) #[] #[])):=UV k Z;go_wp2_with(refine Wo _ rfl (.tmp 13) (.tmp 14) rfl _ k _ rfl rfl Z ab.o ?_)
    (refine(AEa k Z g q E _ _ ps wr S.o.sk (HT.o _ _ _ _ S.o) J.o a2 U (by have:=a1.o;omega)).mono ?_;rintro e w3 ⟨rfl,a9,h3⟩;have A:Hid (Aq w g f w3 a9 E (xs++AQ (ps.length:Int)++strs ps (k+1))):=by have:=S.o.trans h3;simp only[strs];rw[<-zr0];exact this);clear h3 S;go_wp2_with fail
    go_roundw
    (case rel=>exact⟨k+1,a9,by omega,by go_num,A⟩);case measure=>simp[intOf];omega
   .obtain rfl:k=3:=by omega
    go_wp2_with fail;refine(AEx _ ps wr (HT.o _ _ _ _ S.o) J.o U).mono ?_;rintro e w3 ⟨v3,rfl,a5,a4,Y⟩;have A:=z6 (S.o.post a4);have T:=z6 a5;(have O:v3.ownBlock≠some g:=λ e=>by have:=Y g e;have:=S.o.sk.lt;omega);(have af:Hid (∀j,v3.ownBlock=some j->q.ownBlock≠some j):=λ j hj e=>by have:=Y j hj;have:=S.o.sk.own.lt j e;omega);have ac:Hid ((AJ (Av ps ps.length)).length<=1000000):=by show _<=_;rw[Cn];have:=Jf J.o ps.length (AE _);omega
    (clear a5 a4 Y S;go_wp2_with fail;refine(QA g q E 0 _ v3 _ w3 A.o.sk T.o.rd O af.o T.o.lt (by have:=a1.o;omega) (by have:=ac.o;omega)).mono ?_;rintro e w4 ⟨rfl,aa,X⟩;rw[Ec]at X;have S4:Hid (Aq w g f w4 aa E (xs++(AQ (ps.length:Int)++strs ps 3++AQ (AJ (Av ps ps.length)).length++AJ (Av ps ps.length)))):=by have:=A.o.trans X;simpa only[zr0,Hid]using this);clear X A T;go_wp2_with fail
    go_end0
    exact⟨rfl,aa,S4.o⟩
