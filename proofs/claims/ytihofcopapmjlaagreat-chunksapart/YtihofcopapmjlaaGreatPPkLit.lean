import Derived.Test.YtihofcopapmjlaaGreatPHKey
import Derived.Test.YtihofcopapmjlaaGreatPHPop
import Derived.Test.YtihofcopapmjlaaGreatPPkSnk
import Derived.Test.YtihofcopapmjlaaGreatPBSum
set_option maxRecDepth 100000
set_option linter.all false
set_option maxHeartbeats 8000000
namespace Go.Proofs.YtihofcopapmjlaaGreat
open Go.Proofs.Tryz
section
open Go.RowKit Pl Hf
def Zc{ls ys I q n w w' e}(L:BE ls=true)(hr:Rn ls (AM ys) I q)(Z:(I.length:Int)=n)(a0:n<=65536)(hq:q<=8*ys.length)(W:8*ys.length-q<8)(hz:val (AM ys) q ((8*ys.length-q) % 8)=0)(h:NN ls ys n w e w'):∃A,e=.returned (.tuple #[A,.int .i64 0])/\Below w.heap.size w w'/\(∀k,A.ownBlock=some k->w.heap.size<=k)/\AF .u8 5 w' A I:=by
 have r:=Bg.of L;have B:=Fx ys;obtain⟨A,E,rfl,X,Y,h⟩:=h;rcases h with⟨_,_,h⟩|⟨rfl,_,_,_,a1,q',f,J,_,_,_,ho⟩
 .exfalso;rcases h with⟨_,h⟩|⟨_,_,h⟩|⟨_,_,_,_,h⟩
  .grind
  .omega
  .rcases h with⟨o,p,f,J,K⟩|⟨o,p,f,J,K⟩
   .obtain⟨q1,t,c,g1,O,T,U⟩:=AFJ r hr o.length (by omega);obtain⟨_,rfl⟩:=Ml r B f g1 (by grind)
    grind
   .obtain⟨_,rfl⟩:=Ml r B f hr (by omega);omega
 .obtain⟨rfl,rfl⟩:=Ml r B f hr (by omega)
  grind
def Gp(cs:List Int)(f:Nat->Int):Nat->Int
 | 0=>0
 | k+1=>Gp cs f k+if 0<cs.getD k 0 then f k else 0
def QT(cs f k):Gp cs f k=((st cs k).map f).sum:=by
 induction k with
 | zero=>simp[Gp,st]
 | succ k q=>
  simp only[Gp,q];rw[Hk]
  grind
def AGp(cs f):Gp cs f cs.length=((List.range (st cs cs.length).length).map λ j=>f ((st cs cs.length).getD j 0)).sum:=by
 rw[QT];congr 1;apply List.ext_getElem?
 grind
def YY(l:List Nat)(f:Nat->Nat):((l.map f).sum:Int)=(l.map λ i=>(f i:Int)).sum:=by
 induction l with
 | nil=>rfl
 | cons a r q=>grind
def shS_bd'{cs r}(I:Dv cs)(h:Fq (wt cs cs.length) r):∀i,0<=r.getD i 0/\r.getD i 0<=11:=by
 have J:=Ji cs cs.length;have K:=I.most;have L:=GQ cs cs.length;intro i;rcases h with⟨_,rfl⟩|⟨A,B⟩
 .grind
 .obtain⟨q,_,_,E,rfl⟩:=B.facts ⟨A,by omega,λ i f=>LM cs _ i f⟩;by_cases f:i<q.length;have:=E i f;refine⟨?_,this⟩;rw[Io q i f];omega
  .have:(EN q).getD i 0=0:=by simp[AP,zn0 (show(EN q).length<=i by rw[OH];omega)]
   omega
def lens_bd'{cs f}(r:Dv cs)(h:Fq (wt cs cs.length) f)(i):0<=(Cy cs f).getD i 0/\(Cy cs f).getD i 0<=11:=by
 by_cases q:i<=CL cs;rw[Ix cs f _ i q];split;exact shS_bd' r h _;decide
 .have:(Cy cs f).getD i 0=0:=by simp[AP,zn0 (show(Cy cs f).length<=i by rw[IG];omega)]
  omega
def last_of'{cs k}(q:k<cs.length)(r:0<cs.getD k 0):k<=CL cs:=by obtain⟨f,A⟩:=Mx cs q r;have:=My cs f;omega
def Tr.pos{c d Bs}(h:Tr c d Bs){b}(B:b∈Bs):1<=d b:=by
 refine Classical.byContradiction (λ K=>?_);have A:d b=0:=by omega
 obtain⟨x,L,E⟩:=SP d Bs (λ e=>by grind);have f:=h.full (d x) E;have q:=Kh B;rw[I8 q,Eh,A,Nat.sub_zero]at f;have J:1<=(Bs.erase b).length:=by
  have:=q.length_eq;have:=h.two
  grind
 obtain⟨y,r,I⟩:∃y r,Bs.erase b=y::r:=by
  cases he:Bs.erase b with
  | nil=>grind
  | cons y r=>simp
 rw[I,Eh]at f
 grind
def AFr{cs f}(E:Dv cs)(h:Fq (wt cs cs.length) f):∀j,j<(st cs cs.length).length->0<f.getD j 0:=by
 have O:=Ji cs cs.length;have T:=E.most;have U:=GQ cs cs.length;intro j L;rcases h with⟨K,rfl⟩|⟨r,A⟩
 .grind
 .obtain⟨q,g1,I,J,rfl⟩:=A.facts ⟨r,by omega,λ i B=>LM cs _ i B⟩;rw[Io q j (by omega)];have:=Tr.pos g1.tr (MY.2 (show j<q.length by omega));omega
def Vd{cs}(r:Dv cs):st cs (CL cs+1)=st cs cs.length/\CL cs<cs.length:=by
 have E:=r.some;obtain⟨A,f,q⟩:=Gk cs (k:=cs.length) (i:=(st cs cs.length).length-1) (by omega);refine⟨?_,f⟩;have B:CL cs<cs.length:=f;have I:=QK cs (b:=CL cs+1) (k:=cs.length) (by omega);have e:rk cs (CL cs+1)=(st cs cs.length).length:=by
  show(st cs (CL cs+1)).length=_;rw[Hk,if_pos q]
  grind
 grind
def Ov{cs f}(q:Dv cs)(h:Fq (wt cs cs.length) f)(i)(A:i<=CL cs):0<(Cy cs f).getD i 0↔0<cs.getD i 0:=by have B:=(Vd q).2;rw[Ix cs f _ i A];constructor;omega;intro r;have:=(Mx cs (k:=cs.length) (by omega) r).1;rw[if_pos ⟨r,this⟩];exact AFr q h _ this
def ACd{cs f}(q:Dv cs)(h:Fq (wt cs cs.length) f)(k)(E:k<=CL cs+1):DC (Cy cs f) k=((st cs k).length:Int)/\Cd (Cy cs f) k=Gp cs (λ i=>2 ^ (11-((Cy cs f).getD i 0).toNat)) k:=by
 induction k with
 | zero=>simp[DC,Cd,Gp,st]
 | succ k B=>
  obtain⟨r,A⟩:=B (by omega);have I:=Ov q h k (by omega);simp only[DC,Cd,Gp,r,A];rw[Hk]
  grind
def ACl{cs q}(f:Dv cs)(h:Fq (wt cs cs.length) q):MW (Cy cs q)=true:=by
 have K:=Vd f;have a2:=f.most;have a3:=f.some;have Y:=IG cs q (st cs cs.length).length;have L:=GQ cs cs.length;have a1:=Ji cs cs.length;obtain⟨m1,m2⟩:=ACd f h (CL cs+1) (AE _);rw[K.1]at m1;have A:=(Gk cs (k:=cs.length) (i:=(st cs cs.length).length-1) (by omega)).2.2;have a0:=(Ov f h (CL cs) (AE _)).2 A;unfold MW;rw[zg1,Y,m1,m2];refine⟨by omega,by omega,by grind,λ i _=>lens_bd' f h i,?_⟩;rcases h with⟨O,rfl⟩|⟨T,U⟩
 .rw[L]at O;rw[if_pos (by omega),Nat.add_sub_cancel];have g1:=(Gk cs (k:=cs.length) (i:=(st cs cs.length).length-1) (by omega)).1;rw[Ix cs [1] _ _ (AE _),if_pos ⟨A,by grind⟩]
  grind
 .rw[if_neg (by omega)];have Z:Gp cs (λ i=>2 ^ (11-((Cy cs q).getD i 0).toNat)) (CL cs+1)=Gp cs (λ i=>2 ^ (11-((Cy cs q).getD i 0).toNat)) cs.length:=by rw[QT,QT,K.1]
  rw[Z,AGp];obtain⟨r,v1,v2,v3,rfl⟩:=U.facts ⟨T,by omega,λ i X=>LM cs _ i X⟩;have E:=v1.tr.full 11 (λ b W=>by
   have B:=MY.1 W;have:=v3 b B;rw[Io r b B]at this;omega)
  rw[I8 (IW _ _)]at E;unfold Cr at E;have I:((((List.range r.length).map λ b=>2 ^ (11-Fz (Dr (cw r) r.length) b)).sum:Nat):Int)=2048:=by omega
  rw[YY,v2,L]at I;rw[<-I];congr 1;refine List.map_congr_left (λ j hj=>?_);have J:j<(st cs cs.length).length:=by grind
  obtain⟨r1,r2,r3⟩:=Gk cs J;rw[Ix cs _ _ _ (My cs J),if_pos ⟨r3,by omega⟩,r1,Io r j (by omega)]
  grind
end
section
open Go.RowKit Pl Hf
def Cb(ls:List Int):Nat->Nat->Int
 | 0,_=>0
 | k+1,c=>Cb ls k c+if ls.getD k 0=(c:Int)then 1 else 0
def DG(ls:List Int):List Int:=(List.range 256).map (Cb ls ls.length)
def KA(ls k c):0<=Cb ls k c/\Cb ls k c<=k:=by
 induction k with
 | zero=>simp[Cb]
 | succ k f=>simp only[Cb];omega
def ZR(ls){j k}(h:j<=k)(c):Cb ls j c<=Cb ls k c:=by
 induction k with
 | zero=>grind
 | succ k f=>
  by_cases e:j=k+1
  .grind
  .have:=f (by omega);simp only[Cb];omega
def Ln(ls i)(r:i<ls.length)(c:Nat)(h:ls.getD i 0=(c:Int)):0<Cb ls ls.length c:=by have f:=ZR ls (show i+1<=ls.length by omega) c;have q:=(KA ls i c).1;simp only[Cb]at f;omega
def Lo(ls):(DG ls).length=256:=by simp[DG]
def OC(ls c)(hc:c<256):(DG ls).getD c 0=Cb ls ls.length c:=by simp[DG,AP,hc]
def ZU{ls}(q:By ls)(A:1<=ls.length)(B:ls.length<=65536):Dv (DG ls):=by refine⟨by rw[Lo];omega,λ i f=>?_,?_⟩;rw[Lo]at f;rw[OC ls i f];have:=KA ls ls.length i;omega;obtain⟨c,hc⟩:=Int.eq_ofNat_of_zero_le (q 0).1;have E:=(q 0).2;have r:=Ln ls 0 (by omega) c hc;have I:=Mx (DG ls) (b:=c) (k:=(DG ls).length) (by rw[Lo];omega) (by rw[OC ls c (by omega)];exact r);omega
def NM(ls cb:List Int):Prop:=
 ∃ds,Fq (wt (DG ls) (DG ls).length) ds/\BE (Cy (DG ls) ds)=true/\(∀i,i<ls.length->0<(Cy (DG ls) ds).getD (ls.getD i 0).toNat 0)/\
  cb=AJ (Br (Cy (DG ls) ds))++AQ (AJ (enc (Cy (DG ls) ds) ls)).length++AJ (enc (Cy (DG ls) ds) ls)
theorem ABN:(prog.info? 276).map (λ i=>(i.zero,i.size))=some (some (.agg (Au 256 (λ _=>0)).toArray),256):=by kernel_rfl
def AF5(g w):(Instr.sliceAt 276 (.pointer (some ⟨g,0,none⟩)) none none none).run prog w=.ok (.slice (some ⟨g,0,none⟩) 256 256) w:=by
 have q:prog.arrayLen 276=256:=by kernel_rfl
 have f:prog.elem 276=3:=by kernel_rfl
 have r:prog.underlying 276=some (.array (prog.arrayLen 276) (prog.elem 276)):=by rw[q,f];exact underlying276
 rw[run_sliceAt_array_all w 276 _ r,q,f];simp[slicedAt,go_sem]
def Iv.rdList{w g t n c}(h:Iv w g t n c)(r:n<=4096):Rd .i64 w (.slice (some ⟨g,0,none⟩) n n) ((List.range n).map c):=by
 refine⟨_,n,by simp,by simp,by unfold maxLen;omega,(λ e=>by cases e),.inr ⟨g,0,rfl,λ i q=>?_⟩⟩;have f:i<n:=by grind
 rw[Nat.zero_add,h.at_ i f]
 grind
structure Cs(w W:World)(g C:Nat)(ls:List Int)(k:Nat):Prop where
 sk:Sk W g (.slice none 0 0) 0 []
 iv:Iv W C 276 256 (Cb ls k)
 bel:Below w.heap.size w W
 gn:w.heap.size<=g
 cn:w.heap.size<=C
 ne:g≠C
def ZG(v ls w)(hr:Rd .u8 w v ls)(hy:By ls)(h1:1<=ls.length)(h2:ls.length<=65536)(an:∀k,v.ownBlock=some k->k<w.heap.size):
 Calls prog 160 #[v] w λ e w'=>∃g ov cb,e=.returned (.pointer (some ⟨g,0,none⟩))/\Sk w' g ov 0 cb/\NM ls cb/\cb.length<=200000/\Below w.heap.size w w'/\w.heap.size<=g/\∀k,ov.ownBlock=some k->w.heap.size<=k:=by
 have HR:=z6 hr;have A:=z6 hy;have bc:=z6 an;obtain⟨a,cap,rfl,bh,bd,ba,ag⟩:=hr;have HC:Hid (∃b o,a=some ⟨b,o,none⟩/\∀i,i<ls.length->w.cell? ⟨b,o+i,none⟩=some (.int .u8 (ls.getD i 0))):=by rcases ag with h|h;rw[h]at h1;simp at h1;exact h
 obtain⟨ab,ao,rfl,ai⟩:=HC.o;have aw:=z6 ai;clear ag ba HC hy an ai;obtain⟨ar,b8⟩:=zero_of_info ABN;obtain⟨ZN,a5⟩:=exH ((Au 256 (λ _=>0)).toArray);rw[a5.o]at ar;have bi:=fun(g:Nat) (w:World)=>AF5 g w
 go_enter func160,ntmps160
 go_wp2_with fail;obtain⟨W0,K⟩:=exH ((w.alloc (.cells #[.slice none 0 0,.int .i64 0] 176)).alloc (.cells ZN 276));rw[K.o];obtain⟨C,hC⟩:=exH (w.heap.size+1);rw[hC.o];obtain⟨g,hg⟩:=exN w.heap.size;have HG:=z6 hg;rw[hg];have C0:Hid (Cs w W0 g C ls 0):=by
  have I:Below w.heap.size w W0:=by rw[<-K.o];exact((Below.refl _ _).alloc (AE _) _).alloc (by simp only[World.size_alloc];omega) _
  refine⟨⟨?_,CB _ _ _⟩,?_,I,by omega,by have:=hC.o;omega,by have:=hC.o;omega⟩;rw[<-K.o,Below.heap_alloc _ _ _ (by simp only[World.size_alloc];omega),<-hg];exact heap_alloc_new w _;unfold Iv;rw[<-K.o,<-hC.o];have:=heap_alloc_new (w.alloc (.cells #[.slice none 0 0,.int .i64 0] 176)) (.cells ZN 276);rw[World.size_alloc]at this;rw[this,<-a5.o];rfl
 clear K hg ar b8 a5
 go_loopw [11] (λ i wr=>∃k:Nat,k<=ls.length/\i=.int .i64 k/\Hid (Cs w wr g C ls k)) (λ i _=>ls.length-(intOf i).toNat)
 case atStart=>exact⟨0,AI _,rfl,C0⟩
 case round=>
  clear C0;obtain⟨k,f,rfl,S⟩:=hrel;by_cases b9:k<ls.length
  .obtain⟨c,hc⟩:=Int.eq_ofNat_of_zero_le (A.o k).1;have ax:=z6 hc;have b2:=(A.o k).2;rw[hc]at b2;have hx:wr.cell? ⟨ab,ao+k,none⟩=some (.int .u8 (c:Int)):=by have h0:=aw.o k b9;rw[S.o.bel.cell (p:=⟨ab,ao+k,none⟩) (zb0 w ⟨ab,ao+k,none⟩ h0),h0,hc]
   have b6:=S.o.iv.at_ c (by omega);have be:=S.o.iv.fz c;have b0:=KA ls k c;obtain⟨y,au⟩:=exH (Cb ls k c);rw[au.o]at b6 b0;have Z:Hid (Cs w (wr.setCell ⟨C,c,none⟩ (.int .i64 (y+1))) g C ls (k+1)):=by have ht:AD (λ k=>k=C) wr (wr.setCell ⟨C,c,none⟩ (.int .i64 (y+1))):=(AD.refl (λ k=>k=C) wr).setCell (p:=⟨C,c,none⟩) (λ _=>rfl) _;refine⟨S.o.sk.tch ht (λ e=>S.o.ne e) (λ k f=>by cases f),(S.o.iv.set c (by omega) (y+1)).congr (λ i hi=>?_),S.o.bel.trans (ht.below S.o.bel.size (λ k e=>by rw[e];exact S.o.cn)),S.o.gn,S.o.cn,S.o.ne⟩;unfold Bb;simp only[Cb];rw[ax.o];by_cases e:i=c;subst e;rw[if_pos rfl,if_pos rfl,au.o];rw[if_neg e,if_neg (by omega)];omega
   (have bf:(0:Int)<=(c:Int):=by omega);(have bg:(c:Int)<256:=by omega);clear hc S;go_wp2_with fail
   go_roundw
   (case rel=>exact⟨k+1,by omega,by go_num,Z⟩);case measure=>simp[intOf];omega
  .obtain rfl:k=ls.length:=by omega
   have af:=z6 (S.o.iv.rdList (by omega));have S1:=z6 S.o.sk;have L:=z6 S.o.bel;have X:=z6 S.o.gn;clear S;go_wp2_with fail;refine(ACL _ (DG ls) wr af.o).mono ?_;rintro e w2 ⟨lv,E,rfl,a6,ak,b5⟩;rcases b5 with⟨_,_,J⟩|⟨rfl,a9,ds,aa,a2⟩
   .exact absurd (ZU A.o h1 h2) J
   have r:=z6 (ACf (ACl a9 a2));have a4:Hid (∀i,i<ls.length->0<(Cy (DG ls) ds).getD (ls.getD i 0).toNat 0):=λ i hi=>by obtain⟨c,hc⟩:=Int.eq_ofNat_of_zero_le (A.o i).1;have I:=(A.o i).2;have hp:=Ln ls i hi c hc;rw[hc,Int.toNat_natCast];(have aj:0<(DG ls).getD c 0:=by rw[OC ls c (by omega)];exact hp);exact(Ov a9 a2 c (last_of' (by rw[Lo];omega) aj)).2 aj
   have az:=z6 a2;obtain⟨q,a1⟩:=exH (Cy (DG ls) ds);rw[a1.o]at aa r a4;have O2:=z6 aa;have Z:=z6 (S1.o.below a6);have B2:=z6 (L.o.trans (a6.mono L.o.size));(have NL:Hid (∀k,lv.ownBlock=some k->k≠g/\w.heap.size<=k):=λ k f=>by have:=ak k f;have:=S1.o.lt;have:=L.o.size;omega);clear a6 ak a9 aa a2 S1 L af;go_wp2_with fail;refine(JY g _ 0 0 [] w2 Z.o).mono ?_;rintro e w3 ⟨rfl,aq,ac⟩;have S3:=z6 aq;have Y:=z6 (O2.o.tch ac (λ k f e=>(NL.o k f).1 e));have B3:=z6 (B2.o.trans (ac.below B2.o.size (λ k e=>by rw[e];exact X.o)));clear aq ac Z O2 B2;go_wp2_with fail;refine(AEc lv q w3 Y.o.rd Y.o.lt).mono ?_;rintro e w4 ⟨tv,E4,rfl,a0,al,b3⟩;rcases b3 with⟨_,_,J⟩|⟨rfl,_,ap⟩
   .rw[r.o]at J;cases J
   have S4:=z6 (S3.o.below a0);have O4:=z6 (Y.o.below a0);have T4:=z6 ap;have O:=z6 (B3.o.trans (a0.mono B3.o.size));(have bb:tv.ownBlock≠some g:=λ e=>by have:=al g e;have:=S3.o.lt;omega);have a3:Hid ((AJ (Br q)).length<=600):=by show _<=_;rw[Cn];have h1:=Ui q;(have h2:q.length<=256:=by have h3:=r.o;unfold BE at h3;rw[zg1]at h3;exact h3.1);omega
   clear a0 al ap S3 Y B3;go_wp2_with fail;refine(Fj g _ 0 0 [] tv _ w4 S4.o T4.o.rd bb (by have:=a3.o;simp;omega)).mono ?_;rintro e w5 ⟨rfl,ad,B⟩;rw[List.nil_append,show Gf 0 0=0 from rfl]at B;have S5:=z6 B.sk;have O5:=z6 (O4.o.tch B.tch (λ k f e=>by rcases e with e|e;(· exact(NL.o k f).1 e);(· cases e)));have T:=z6 (O.o.trans (B.tch.below O.o.size (λ k e=>by rcases e with e|e;(· rw[e];exact X.o);(· cases e))));have N5:Hid (∀k,ad.ownBlock=some k->w.heap.size<=k):=λ k f=>by rcases B.fresh k f with e|e;cases e;have:=O.o.size;omega
   have R5:=z6 (HR.o.below T.o);clear B S4 O4 T4 O;go_wp2_with fail;refine(Zt lv _ q ls w5 O5.o.rd R5.o A.o (by omega)).mono ?_;rintro e w6 ⟨ev,W,rfl,a7,a8,b4⟩;rcases b4 with⟨_,_,J⟩|⟨rfl,_,_,am⟩
   .exfalso;rcases J with I|⟨i,hi,I⟩
    .rw[r.o]at I;cases I
    .have:=a4.o i hi;omega
   have S6:=z6 (S5.o.below a7);have W:=z6 am;have U:=z6 (T.o.trans (a7.mono T.o.size));(have b7:ev.ownBlock≠some g:=λ e=>by have:=a8 g e;have:=S5.o.lt;omega);(have ay:Hid (∀k,ev.ownBlock=some k->ad.ownBlock≠some k):=λ k f e=>by have:=a8 k f;have:=S5.o.own.lt k e;omega);have ae:Hid ((AJ (enc q ls)).length<=100000):=by show _<=_;rw[Cn];have:=KG (Bg.of r.o) ls;omega
   (clear a7 a8 am S5 O5 T R5;go_wp2_with fail;refine(QA g ad 0 0 _ ev _ w6 S6.o W.o.rd b7 ay.o W.o.lt (by have:=a3.o;omega) (by have:=ae.o;omega)).mono ?_;rintro e w7 ⟨rfl,av,h7⟩;have S7:=z6 h7.sk;have B7:=z6 (U.o.trans (h7.tch.below U.o.size (λ k e=>by rcases e with e|e;(· rw[e];exact X.o);(· exact N5.o k e))));have N7:Hid (∀k,av.ownBlock=some k->w.heap.size<=k):=λ k f=>by rcases h7.fresh k f with e|e;exact N5.o k e;have:=U.o.size;omega);clear h7 S6 W U;go_wp2_with fail;go_ret;refine⟨g,av,_,rfl,S7.o,⟨ds,az.o,by rw[a1.o];exact r.o,by rw[a1.o];exact a4.o,by rw[a1.o]⟩,?_,B7.o,X.o,N7.o⟩;have hd:=F0 ((AJ (enc q ls)).length:Int);have h3:=a3.o;have h4:=ae.o;rw[zc0,zc0];omega
def JE(ls bs:List Int):Prop:=∃cb,NM ls cb/\bs=AQ ls.length++(if cb.length<ls.length then[1]++cb else[0]++ls)
def Ec(E):Gf E 0=E:=by unfold Gf;omega
def PQ(w:World)(a):AF .u8 5 (w.alloc (.cells #[.int .u8 a] 5)) (.slice (some ⟨w.heap.size,0,none⟩) 1 1) [a]:=
 World.ownsRow_lit w #[.int .u8 a] 1 (AI _) (by unfold maxLen;omega) rfl
def Aq.post{w q B g f A E xs}(h:Aq w g f q A E xs)(r:Below q.heap.size q B):Aq w g f B A E xs:=
 ⟨h.sk.below r,h.tch.trans (AD.of_below (S:=λ k=>k=g\/f.ownBlock=some k) r) (λ i I e=>e),h.fresh⟩
def AEW(g W E xs v ls w)(h:Sk w g W E xs)(hr:Rd .u8 w v ls)(hy:By ls)(h1:1<=ls.length)(h2:ls.length<=65536)(hl:xs.length<=1000)(ag:v.ownBlock≠some g)(ai:∀k,v.ownBlock=some k->W.ownBlock≠some k)(af:∀k,v.ownBlock=some k->k<w.heap.size):
 Calls prog 128 #[.pointer (some ⟨g,0,none⟩),v] w λ e w'=>e=.returned (.tuple #[])/\∃am bs,JE ls bs/\bs.length<=70000/\Aq w g W w' am E (xs++bs):=by
 have H:=z6 h;have HR:=z6 hr;have HY:=z6 hy;have a3:=z6 ag;have ad:Hid (∀k,v.ownBlock=some k->W.ownBlock≠some k/\k<w.heap.size):=λ k f=>⟨ai k f,af k f⟩
 obtain⟨va,vc,al,_⟩:=hr;have hd:=F0 (ls.length:Int);clear h hy ag ai af;subst al
 go_enter func128,ntmps128
 go_wp2_with fail;refine(Kp g W E xs ls.length w H.o (by omega) (by omega)).mono ?_;rintro e w1 ⟨rfl,X,a0⟩;have Z:=z6 a0;have R1:=z6 (HR.o.tch a0.tch (λ b U e=>by rcases e with e|e;(· exact a3.o (by rw[U,e]));(· exact(ad.o b U).1 e)));have V1:Hid (∀k,(Value.slice va ls.length vc).ownBlock=some k->k<w1.heap.size/\X.ownBlock≠some k):=λ k f=>by have h3:=ad.o k f;refine⟨by have:=a0.tch.size;omega,λ e=>?_⟩;rcases a0.fresh k e with e|e;exact h3.1 e;omega
 clear a0 H HR;go_wp2_with fail;refine(ZG _ ls w1 R1.o HY.o h1 h2 (λ k f=>(V1.o k f).1)).mono ?_;rintro e w2 ⟨g2,an,cb,rfl,a9,ae,ao,a6,aj,a8⟩;have S2:=z6 (Z.o.post a6);have R2:=z6 (R1.o.below a6);have K2:=z6 a9;have ac:=z6 ae;have B:Hid (g2≠g/\(∀k,an.ownBlock=some k->k≠g/\X.ownBlock≠some k)/\X.ownBlock≠some g2):=by have ap:=Z.o.sk.lt;refine⟨by omega,λ k f=>⟨by have:=a8 k f;omega,λ e=>?_⟩,λ e=>?_⟩;have:=a8 k f;have:=Z.o.sk.own.lt k e;omega;have:=Z.o.sk.own.lt g2 e;omega
 have c1:=a9.c1;clear a9 ae a6 aj a8 Z R1;go_wp2_with fail;refine(JY g X E 0 _ w2 S2.o.sk).mono ?_;rintro e q ⟨rfl,aa,a4⟩;rw[Ec]at aa;have I:=z6 (S2.o.trans (Aq.kept aa a4));have R3:=z6 (R2.o.tch a4 (λ b U e=>a3.o (by rw[U,e])));have Y:=z6 (K2.o.tch a4 (λ e=>B.o.1 e) (λ k f e=>(B.o.2.1 k f).1 e));have d0:=Y.o.c0;obtain⟨a2,p2,ak,_⟩:=Y.o.own.rd;clear aa a4 S2 R2 K2 c1;obtain⟨zs,a5⟩:=exH (xs++AQ (ls.length:Int));have ar:zs.length<=2000:=by rw[<-a5.o,zc0];omega
 rw[a5.o]at I;subst ak;by_cases a7:cb.length<ls.length
 .have HL:Hid (JE ls (AQ (ls.length:Int)++([1]++cb))):=⟨cb,ac.o,by rw[if_pos a7]⟩
  go_wp2_with fail;obtain⟨L,A⟩:=exH (q.alloc (.cells #[.int .u8 1] 5));have O:Below q.heap.size q L:=by rw[<-A.o];exact(Below.refl _ _).alloc (AE _) _
  have o4:AF .u8 5 L (.slice (some ⟨q.heap.size,0,none⟩) 1 1) [1]:=by rw[<-A.o];exact PQ q 1
  rw[A.o];have J:=z6 (I.o.post O);have K4:=z6 (Y.o.below O);refine(Fj g X E 0 zs _ [1] L J.o.sk o4.rd (λ e=>by simp only[Value.ownBlock,Option.some.injEq]at e;have:=I.o.sk.lt;omega) (by simp;omega)).mono ?_;rintro e w5 ⟨rfl,ab,r⟩;rw[Ec]at r;have K:=z6 (J.o.trans r);have K5:=z6 (K4.o.tch r.tch (λ e=>by rcases e with e|e;(· exact B.o.1 e);(· exact B.o.2.2 e)) (λ k f e=>by rcases e with e|e;(· exact(B.o.2.1 k f).1 e);(· exact(B.o.2.1 k f).2 e)));have e0:=K5.o.c0;clear r O o4 A J K4 I Y R3 d0;go_wp2_with fail;refine(Fj g ab E 0 (zs++[1]) _ cb w5 K.o.sk K5.o.own.rd (λ e=>(B.o.2.1 g e).1 rfl) (by simp;omega)).mono ?_;rintro e w6 ⟨rfl,a1,T⟩;rw[Ec]at T
  have S6:Hid (Aq w g W w6 a1 E (xs++(AQ (ls.length:Int)++([1]++cb)))):=by have:=K.o.trans T;rw[<-a5.o]at this;simpa[zr0,Hid]using this
  clear T K K5 e0;go_wp2_with fail
  (try simp only[Exit.inBlock,Exit.then])
  refine bodyPost_ret (results_none rfl _ _ _) rfl ?_;exact⟨rfl,a1,_,HL.o,by simp;omega,S6.o⟩
 .have HL:Hid (JE ls (AQ (ls.length:Int)++([0]++ls))):=⟨cb,ac.o,by rw[if_neg a7]⟩
  have aq:decide (cb.length<ls.length)=false:=by rw[AT];exact a7
  go_wp2_with fail;obtain⟨L,A⟩:=exH (q.alloc (.cells #[.int .u8 0] 5));have O:Below q.heap.size q L:=by rw[<-A.o];exact(Below.refl _ _).alloc (AE _) _
  have o4:AF .u8 5 L (.slice (some ⟨q.heap.size,0,none⟩) 1 1) [0]:=by rw[<-A.o];exact PQ q 0
  rw[A.o];have J:=z6 (I.o.post O);have R4:=z6 (R3.o.below O);refine(Fj g X E 0 zs _ [0] L J.o.sk o4.rd (λ e=>by simp only[Value.ownBlock,Option.some.injEq]at e;have:=I.o.sk.lt;omega) (by simp;omega)).mono ?_;rintro e w5 ⟨rfl,ab,r⟩;rw[Ec]at r;have K:=z6 (J.o.trans r);have R5:=z6 (R4.o.tch r.tch (λ b U e=>by rcases e with e|e;(· exact a3.o (by rw[U,e]));(· exact(V1.o b U).2 e)));clear r O o4 A J R4 I Y R3 d0;go_wp2_with fail;refine(Fj g ab E 0 (zs++[0]) _ ls w5 K.o.sk R5.o a3.o (by simp;omega)).mono ?_;rintro e w6 ⟨rfl,a1,T⟩;rw[Ec]at T;have S6:Hid (Aq w g W w6 a1 E (xs++(AQ (ls.length:Int)++([0]++ls)))):=by have:=K.o.trans T;rw[<-a5.o]at this;simpa[zr0,Hid]using this
  clear T K R5;go_wp2_with fail
  go_end0
  exact⟨rfl,a1,_,HL.o,by simp;omega,S6.o⟩
