import Derived.Test.YtihofcopapmjlaaGreatPFGetP
set_option maxRecDepth 100000
set_option linter.all false
set_option maxHeartbeats 8000000
namespace Go.Proofs.YtihofcopapmjlaaGreat
open Go.Proofs.Tryz
section
open Go.RowKit Pl
def EV(r:Int×List Int)(w:World)(e:Ending)(w':World):Prop:=
 ∃d,e=.returned (.tuple #[d,.int .i64 r.1])/\Below w.heap.size w w'/\(∀k,d.ownBlock=some k->w.heap.size<=k)/\AF .u8 5 w' d r.2
def EV.bad{E w w'}(f:Below w.heap.size w w'):EV (E,[]) w (.returned (.tuple #[.slice none 0 0,.int .i64 E])) w':=
 ⟨_,rfl,f,(λ k e=>by cases e),CB _ _ _⟩
def AFT(v1 v2 ls ps most w)(h1:Rd .u8 w v1 ls)(hl:ls.length<=140737488351232)(h2:RdS w v2 ps)(hp:ps.length<=140737488355328):
 Calls prog 138 #[v1,v2,.int .i64 most] w λ e w'=>EV (Dl ls ps most) w e w':=by
 obtain⟨R,K⟩:=exH (Dl ls ps most);rw[K.o];by_cases ar:most<0
 .have r:Hid (R=(1,[])):=by show R=_;rw[<-K.o];unfold Dl;rw[if_pos (.inl ar)]
  clear h1 h2
  go_enter func138,ntmps138
  go_wp2_with fail;go_ret2;rw[r.o];exact EV.bad (Below.refl _ _)
 have g1:decide (most<0)=false:=by rw[AT];exact ar
 by_cases au:65536<most
 .have r:Hid (R=(1,[])):=by show R=_;rw[<-K.o];unfold Dl;rw[if_pos (.inr au)]
  clear h1 h2
  go_enter func138,ntmps138
  go_wp2_with fail;go_ret2;rw[r.o];exact EV.bad (Below.refl _ _)
 have g2:decide (65536<most)=false:=by rw[AT];exact au
 have HM:Hid (¬(most<0\/65536<most)):=by intro h;omega
 have bq:0<=most:=by omega
 have cf:most<=65536:=by omega
 have H1:=z6 h1;obtain⟨la,lc,rfl,_,_,_,_⟩:=h1;obtain⟨pa,pc,rfl,_,_,q2⟩:=h2;have C2:=z6 q2;clear q2 ar au
 go_enter func138,ntmps138
 go_wp2_with fail
 go_loopw [8,9,21] (λ ov lv i wr=>∃(k at_:Nat)(E:List Int),k<=ps.length/\i=.int .i64 k/\at_<=ls.length/\(E.length:Int)<=most/\Hid (rs ls ps most k=(0,at_,E))/\Hid (Rd .u8 w lv (ls.drop at_))/\Hid (AF .u8 5 wr ov E)/\Hid (Below w.heap.size w wr)/\Hid (∀j,ov.ownBlock=some j->w.heap.size<=j)) (λ _ _ i _=>ps.length-(intOf i).toNat)
 case atStart=>exact⟨0,0,[],AI _,rfl,AI _,by simpa using bq,rfl,by show Rd _ _ _ _;rw[List.drop_zero];exact H1.o,CB _ _ _,Below.refl _ _,λ j e=>by cases e⟩
 case round=>
  obtain⟨k,at_,E,hk,rfl,c5,br,T,ac,HO,I,HN⟩:=hrel;obtain⟨La,Lc,bm⟩:∃a c,u9=.slice a (ls.length-at_) c:=by obtain⟨a,c,e,_⟩:=ac.o;rw[zg0]at e;exact⟨a,c,e⟩
  subst bm;obtain⟨Oa,Oc,bn⟩:∃a c,u8=.slice a E.length c:=by obtain⟨a,c,e,_⟩:=HO.o.rd;exact⟨a,c,e⟩
  subst bn;obtain⟨B,J⟩:=exH (ls.length-at_);obtain⟨f,A⟩:=exH E.length;have ce:B<=140737488351232:=by rw[<-J.o];omega
  rw[A.o]at br;have ab:Hid ((ls.drop at_).length=B):=by show _=_;rw[zg0,J.o]
  rw[J.o]at ac |-
  rw[A.o]at HO HN |-
  by_cases a7:k<ps.length
  .obtain⟨b,o,ha,hc⟩:∃b o,pa=some ⟨b,o,none⟩/\∀i,i<ps.length->w.cell? ⟨b,o+i*3,none⟩=some (.int .i64 (ps.getD i AR).1)/\w.cell? ⟨b,o+i*3+1,none⟩=some (.int .i64 (ps.getD i AR).2.1)/\w.cell? ⟨b,o+i*3+2,none⟩=some (.int .i64 (ps.getD i AR).2.2):=by rcases C2.o with h|h;rw[h]at a7;simp at a7;exact h
   subst ha;obtain⟨⟨x,y,z⟩,hX⟩:∃X,Hid (ps.getD k AR=X):=⟨_,rfl⟩
   obtain⟨c0,c1,c2⟩:=hc k a7;rw[hX.o]at c0 c1 c2;have ad:=zb0 w _ c0;rw[<-I.o.cell (p:=⟨b,o+k*3,none⟩) ad]at c0;rw[<-I.o.cell (p:=⟨b,o+k*3+1,none⟩) ad]at c1;rw[<-I.o.cell (p:=⟨b,o+k*3+2,none⟩) ad]at c2;have c6:=Ao ad I.o.size;obtain⟨U,ay⟩:=exH (wr.alloc (.cells #[.int .i64 x,.int .i64 y,.int .i64 z] 244));(have bS:Below wr.heap.size wr U:=by rw[<-ay.o];exact(Below.refl _ _).alloc (AE _) _);(have am:U.heap[wr.heap.size]?=some (.cells #[.int .i64 x,.int .i64 y,.int .i64 z] 244 (0,0)):=by rw[<-ay.o];exact heap_alloc_new wr _);obtain⟨S,hS⟩:=exH wr.heap.size;rw[hS.o]at am;have ak:=z6 (I.o.trans (bS.mono I.o.size));have b2:=z6 (HO.o.below bS)
   (have bx:Hid (w.heap.size<=S):=by show _<=_;rw[<-hS.o];exact I.o.size);have aj:=z6 am;have b0:Hid (Calls prog 174 #[.agg #[.int .i64 x,.int .i64 y,.int .i64 z],.int .i64 (B:Int),.int .i64 (f:Int)] U λ e w'=>e=.returned (.bool (Fh (x,y,z) B f))/\Below U.heap.size U w'):=ACg x y z B f U (by omega) (by omega);clear hc ad bS am;go_wp2_with fail;rw[ay.o,hS.o];refine b0.o.mono ?_;clear b0;rintro e L ⟨rfl,b3⟩;have W:=z6 (ak.o.trans (b3.mono ak.o.size));have O3:=z6 (b2.o.below b3);have b5:S<U.heap.size:=(za0.1 aj.o).1;have O:Hid (L.heap[S]?=some (.cells #[.int .i64 x,.int .i64 y,.int .i64 z] 244 (0,0))):=by show _=_;rw[b3.block S b5];exact aj.o
   (have d0:L.cell? ⟨S,0,none⟩=some (.int .i64 x):=by rw[cell_of_row L S 0 _ _ (0,0) O.o];rfl);(have d1:L.cell? ⟨S,1,none⟩=some (.int .i64 y):=by rw[cell_of_row L S 1 _ _ (0,0) O.o];rfl);(have d2:L.cell? ⟨S,2,none⟩=some (.int .i64 z):=by rw[cell_of_row L S 2 _ _ (0,0) O.o];rfl);clear b3 b5 aj b2 ak c0 c1 c2 I HO;cases hok:Fh (x,y,z) B f with
   | false=>(have r:Hid (R=(5,[])):=by show R=_;rw[<-K.o];refine Mo HM.o a7 (by decide) ?_;simp only[rs];rw[T.o,hX.o,if_neg (by simp),J.o,A.o,if_pos hok]);clear hok;go_wp2_with fail;go_ret2;rw[r.o];exact EV.bad W.o
   | true=>
    have aw:=hok;unfold Fh at aw;rw[zg1]at aw;obtain⟨a1,a2,a3,a4,a5⟩:=aw;simp only at a1 a2 a3 a4 a5;obtain⟨X,rfl⟩:=Int.eq_ofNat_of_zero_le a1;obtain⟨Y,rfl⟩:=Int.eq_ofNat_of_zero_le a3;have bf:Hid ((Y=0->z=0)/\(0<Y->1<=z/\z<=(f:Int)+(X:Int))):=⟨λ h=>a4 (by omega),λ h=>a5 (by omega)⟩
    have ag:=z6 hok;(have b7:X<=B:=by omega);clear hok a4 a5;by_cases b9:most-(f:Int)<(X:Int)
    .have r:Hid (R=(11,[])):=by show R=_;rw[<-K.o];refine Mo HM.o a7 (by decide) ?_;simp only[rs];rw[T.o,hX.o,if_neg (by simp),J.o,A.o,if_neg (by rw[ag.o];simp),if_pos (by show most<(f:Int)+(X:Int)\/most-(f:Int)-(X:Int)<(Y:Int);omega)]
     go_wp2_with fail;go_ret2;rw[r.o];exact EV.bad W.o
    (have g3:decide (most-(f:Int)<(X:Int))=false:=by rw[AT];exact b9);by_cases ba:most-(f:Int)-(X:Int)<(Y:Int)
    .have r:Hid (R=(11,[])):=by show R=_;rw[<-K.o];refine Mo HM.o a7 (by decide) ?_;simp only[rs];rw[T.o,hX.o,if_neg (by simp),J.o,A.o,if_neg (by rw[ag.o];simp),if_pos (by show most<(f:Int)+(X:Int)\/most-(f:Int)-(X:Int)<(Y:Int);omega)]
     go_wp2_with fail;go_ret2;rw[r.o];exact EV.bad W.o
    (have g4:decide (most-(f:Int)-(X:Int)<(Y:Int))=false:=by rw[AT];exact ba);(have c9:(f:Int)+(X:Int)+(Y:Int)<=most:=by omega);obtain⟨a9,av⟩:=exH (E++(ls.drop at_).take X);have az:Hid (a9.length=f+X):=by show _=_;rw[<-av.o,zc0,zd0,ab.o,A.o];omega
    (have bh:Hid (rs ls ps most (k+1)=(0,at_+X,DT z.toNat Y a9)):=by show _=_;simp only[rs];rw[T.o,hX.o,if_neg (by simp),J.o,A.o,if_neg (by rw[ag.o];simp),if_neg (by show¬(most<(f:Int)+(X:Int)\/most-(f:Int)-(X:Int)<(Y:Int));omega)];simp only[Int.toNat_natCast];rw[av.o]);clear b9 ba T ag;go_wp2_with(refine Wp _ w rfl (.tmp 52) (.tmp 54) rfl (.slice La B Lc) (ls.drop at_) rfl ac.o X rfl (by rw[ab.o];exact b7) ?_)
    intro v5 bd;have b4:=z6 (bd.below W.o);(have al:Hid (((ls.drop at_).take X).length<=65536):=by show _<=_;rw[zd0];omega);clear bd;go_wp2_with(at_builtin;refine Hr _ rfl (.tmp 51) (.tmp 55) 40 rfl 5 .u8 1 Dd (.slice Oa f Oc) E rfl O3.o v5 ((ls.drop at_).take X) rfl b4.o (by have:=al.o;have:=A.o;omega) (by have:=al.o;have:=A.o;omega) ?_)
    intro v6 w6 a8 a6;rw[av.o]at a8;obtain⟨b6,n6⟩:=a6.onto W.o HN.o;have O6:=z6 a8;have B6:=z6 b6;have N6:=z6 n6;have af:Hid (w6.heap[S]?=some (.cells #[.int .i64 (X:Int),.int .i64 (Y:Int),.int .i64 z] 244 (0,0))):=by
     show _=_;rw[a6.tch.block S (za0.1 O.o).1 (λ e=>by
      obtain⟨bk,ae⟩:=JK (w:=L) O3.o e;rw[O.o]at ae;simp at ae)]
     exact O.o
    (have e0:w6.cell? ⟨S,0,none⟩=some (.int .i64 (X:Int)):=by rw[cell_of_row w6 S 0 _ _ (0,0) af.o];rfl);(have e1:w6.cell? ⟨S,1,none⟩=some (.int .i64 (Y:Int)):=by rw[cell_of_row w6 S 1 _ _ (0,0) af.o];rfl);clear a8 a6 b6 n6 O3 W O d0 d1 d2 b4 al HN;go_wp2_with(refine Qi _ w rfl (.tmp 57) (.tmp 59) rfl (.slice La B Lc) (ls.drop at_) rfl ac.o X rfl (by rw[ab.o];exact b7) ?_)
    intro v7 ax;have bi:Hid (Rd .u8 w v7 (ls.drop (at_+X))):=by show Rd _ _ _ _;first|exact ax|(rw[<-zx0];exact ax)
    clear ax;go_wp2_with fail
    go_loopw [8,63] (λ ov i wr=>∃j:Nat,j<=Y/\i=.int .i64 j/\Hid (AF .u8 5 wr ov (DT z.toNat j a9))/\Hid (Below w.heap.size w wr)/\Hid (∀j,ov.ownBlock=some j->w.heap.size<=j)/\Hid (wr.heap[S]?=some (.cells #[.int .i64 (X:Int),.int .i64 (Y:Int),.int .i64 z] 244 (0,0)))) (λ _ i _=>Y-(intOf i).toNat)
    (case atStart=>exact⟨0,AI _,rfl,O6,B6,N6,af⟩);case round=>
     clear O6 B6 N6 af e0 e1;obtain⟨j,hj,rfl,O7,B7,N7,aa⟩:=hrel;by_cases ca:j<Y
     .obtain⟨z1,z2⟩:=bf.o.2 (by omega);obtain⟨Z,rfl⟩:=Int.eq_ofNat_of_zero_le (show 0<=z by omega);(have bz:1<=Z:=by omega);(have c4:Z<=f+X:=by omega);obtain⟨cu,ap⟩:=exH (DT Z j a9);(have ai:Hid (AF .u8 5 wr u8 cu):=by have:=O7.o;rw[Int.toNat_natCast,ap.o]at this;exact this);(have an:cu.length=f+X+j:=by rw[<-ap.o,Nx,az.o]);have a0:=z6 an;obtain⟨g,cp,hv,_,_,bp,bb,_⟩:=ai.o.shape (by omega);subst hv;obtain⟨q,hq⟩:=exH (f+X+j-Z);(have bu:(((f+X+j:Nat):Int))-(Z:Int)=(q:Int):=by rw[<-hq.o];omega);(have bw:q<f+X+j:=by rw[<-hq.o];omega);obtain⟨x8,be⟩:=exH (cu.getD q 0);have cq:wr.cell? ⟨g,q,none⟩=some (.int .u8 x8):=by rw[bb q (by omega),be.o]
      (have e2:wr.cell? ⟨S,2,none⟩=some (.int .i64 (Z:Int)):=by rw[cell_of_row wr S 2 _ _ (0,0) aa.o];rfl);rw[an];obtain⟨cl,ao⟩:=exH (f+X+j);rw[ao.o]at bu bw |-
      (have cg:(q:Int)<(cl:Int):=by omega);(have c7:cl<=65536:=by rw[<-ao.o];omega);clear bb an O7 bp;go_wp2_with(at_builtin;refine ET _ rfl (.tmp 65) (.tmp 74) 40 rfl 5 .u8 1 Dd (.slice (some ⟨g,0,none⟩) cl cp) cu rfl (by have:=ai.o;rw[a0.o,ao.o]at this;exact this) x8 rfl (by rw[a0.o];omega) (by rw[a0.o];omega) ?_)
      (intro v8 w8 bc aq;obtain⟨b8,n8⟩:=aq.onto B7.o N7.o;have O8:Hid (AF .u8 5 w8 v8 (DT ((Z:Int)).toNat (j+1) a9)):=by show AF _ _ _ _ _;rw[Int.toNat_natCast,Ny,ap.o,a0.o,hq.o,be.o];exact bc);have bg:Hid (w8.heap[S]?=some (.cells #[.int .i64 (X:Int),.int .i64 (Y:Int),.int .i64 (Z:Int)] 244 (0,0))):=by
       show _=_;rw[aq.tch.block S (za0.1 aa.o).1 (λ e=>by
        obtain⟨bk,ae⟩:=JK (w:=wr) ai.o e;rw[aa.o]at ae;simp at ae)]
       exact aa.o
      have B8:=z6 b8;have N8:=z6 n8;clear bc aq b8 n8 ai B7 N7 aa cq e2;go_wp2_with fail
      go_roundw
      (case rel=>exact⟨j+1,by omega,by go_num,O8,B8,N8,bg⟩);case measure=>simp[intOf];omega
     .obtain rfl:j=Y:=by omega
      (have a0:Hid (((DT z.toNat j a9).length:Int)<=most):=by show _<=_;rw[Nx,az.o];push_cast;omega);go_wp2_with fail
      go_roundw
      (case rel=>exact⟨k+1,at_+X,_,by omega,by go_num,by have:=J.o;omega,a0.o,bh,bi,O7,B7,N7⟩);case measure=>simp[intOf];omega
  .obtain rfl:k=ps.length:=by omega
   by_cases bo:most-(f:Int)<(B:Int)
   .have r:Hid (R=(11,[])):=by show R=_;rw[<-K.o];unfold Dl;rw[if_neg HM.o,T.o,if_neg (by simp)];rw[if_pos (by show most-(E.length:Int)<(ls.length:Int)-(at_:Int);have:=J.o;have:=A.o;omega)]
    go_wp2_with fail;go_ret2;rw[r.o];exact EV.bad I.o
   .have r:Hid (R=(0,E++ls.drop at_)):=by show R=_;rw[<-K.o];unfold Dl;rw[if_neg HM.o,T.o,if_neg (by simp)];rw[if_neg (by show¬(most-(E.length:Int)<(ls.length:Int)-(at_:Int));have:=J.o;have:=A.o;omega)]
    have bj:=z6 (ac.o.below I.o);(have cc:(B:Int)<=most-(f:Int):=by omega);clear bo;go_wp2_with(at_builtin;refine Hr _ rfl (.tmp 85) (.tmp 86) 40 rfl 5 .u8 1 Dd (.slice Oa f Oc) E rfl HO.o (.slice La B Lc) (ls.drop at_) rfl bj.o (by have:=ab.o;have:=A.o;omega) (by have:=ab.o;have:=A.o;omega) ?_)
    intro v6 w6 a8 a6;obtain⟨b6,n6⟩:=a6.onto I.o HN.o;have O6:=z6 a8;have B6:=z6 b6;have N6:=z6 n6;clear a8 a6 b6 n6;go_wp2_with fail;go_ret2;rw[r.o];exact⟨_,rfl,B6.o,N6.o,O6.o⟩
def c1(x:Nat):Nat:=if x % 2=1 then x / 2 ^^^ 2197175160 else x / 2
def c8:Nat->Nat->Nat
 | 0,x=>x
 | k+1,x=>c1 (c8 k x)
def cR(xs:List Int):Nat->Nat
 | 0=>4294967295
 | k+1=>c8 8 (cR xs k ^^^ (xs.getD k 0).toNat)
def BU(xs:List Int):Nat:=4294967295-cR xs xs.length
def YU{x}(h:x<4294967296):c1 x<4294967296:=by unfold c1;split;exact Nat.xor_lt_two_pow (n:=32) (by omega) (by decide);omega
def ADF(x)(h:x<4294967296):4294967295 ^^^ x=4294967295-x:=by
 have f:(~~~ (BitVec.ofNat 32 x)).toNat=4294967295-x:=by grind
 have q:(BitVec.allOnes 32 ^^^ BitVec.ofNat 32 x).toNat=4294967295 ^^^ x:=by grind
 rw[<-f,<-q,BitVec.not_def]
def PI(x:Nat)(h:x<4294967296):Go.bits .xor .u32 IntKind.u32.max (x:Int)=((4294967295-x:Nat):Int):=by
 have e:IntKind.u32.max=((4294967295:Nat):Int):=by decide
 rw[e,u32_xor_nat _ _ (by decide) h,ADF x h]
def YV(x:Nat)(h:x<4294967296):Go.bits .xor .u32 ((x:Int) / 2) (2197175160*Go.bits .and .u32 (x:Int) 1 % 4294967296)=(c1 x:Int):=by
 have q:Go.bits .and .u32 (x:Int) 1=((x % 2:Nat):Int):=by
  have:=u32_and_nat x 1 h (by decide)
  grind
 rw[q];have r:(x:Int) / 2=((x / 2:Nat):Int):=by omega
 rw[r];unfold c1;by_cases c:x % 2=1;rw[if_pos c,c];have:=u32_xor_nat (x / 2) 2197175160 (by omega) (by decide);exact this
 .have f:x % 2=0:=by omega
  rw[if_neg c,f];have:=u32_xor_nat (x / 2) 0 (by omega) (by decide)
  grind
def Nz(v xs w)(hr:Rd .u8 w v xs)(f:By xs):
 Calls prog 111 #[v] w λ e w'=>e=.returned (.int .i64 (BU xs:Int))/\w'=w:=by
 obtain⟨a,cap,rfl,a5,L,_,K⟩:=hr;have W:=z6 K;have U:=z6 f;have hm:xs.length<=9223372036854775807:=by unfold maxLen at L;omega
 clear K f L;obtain⟨R,I⟩:=exH (BU xs);rw[I.o]
 go_enter func111,ntmps111
 go_wp2_with fail
 go_loopw [3,9] (λ x i wr=>∃(k X:Nat),k<=xs.length/\i=.int .i64 k/\x=.int .u32 X/\X<4294967296/\Hid (cR xs k=X)/\wr=w) (λ _ i _=>xs.length-(intOf i).toNat)
 case atStart=>exact⟨0,4294967295,AI _,rfl,rfl,by decide,rfl,rfl⟩
 case round=>
  obtain⟨k,X,hk,rfl,rfl,A,r,rfl⟩:=hrel;by_cases O:k<xs.length
  .obtain⟨ab,ao,ha,hc⟩:∃b o,a=some ⟨b,o,none⟩/\∀i,i<xs.length->wr.cell? ⟨b,o+i,none⟩=some (.int .u8 (xs.getD i 0)):=by rcases W.o with rfl|h;simp at O;exact h
   (subst ha;obtain⟨b,f⟩:∃b:Nat,Hid (xs.getD k 0=(b:Int)/\b<256):=by have:=U.o k;exact⟨(xs.getD k 0).toNat,by omega,by omega⟩);have a3:=f.o.2;(have cx:wr.cell? ⟨ab,ao+k,none⟩=some (.int .u8 (b:Int)):=by rw[hc k O,f.o.1]);have hx1:Go.bits .xor .u32 (X:Int) (b:Int)=((X ^^^ b:Nat):Int):=u32_xor_nat X b A (by omega);have T:X ^^^ b<4294967296:=Nat.xor_lt_two_pow (n:=32) A (by omega);(have q:Hid (cR xs (k+1)=c8 8 (X ^^^ b)):=by show _=_;simp only[cR];rw[r.o,f.o.1];rfl);obtain⟨Y,J⟩:=exN (X ^^^ b);rw[J]at hx1 T q;clear hc r J;go_wp2_with fail
   go_loopw [3,17] (λ x i a2=>∃(j X:Nat),j<=8/\i=.int .i64 j/\x=.int .u32 X/\X<4294967296/\Hid (c8 j Y=X)/\a2=wr) (λ _ i _=>8-(intOf i).toNat)
   (case atStart=>exact⟨0,Y,AI _,rfl,rfl,T,rfl,rfl⟩);case round=>
    obtain⟨j,Z,hj,rfl,rfl,B,E,rfl⟩:=hrel;by_cases a4:j<8
    .have hs:=YV Z B;have a1:=YU B;(have a0:Hid (c8 (j+1) Y=c1 Z):=by show _=_;simp only[c8];rw[E.o]);go_wp2_with fail
     go_roundw
     (case rel=>exact⟨j+1,c1 Z,by omega,by go_num,by first|rfl|(rw[hs]),a1,a0,trivial⟩);case measure=>simp[intOf];omega
    .obtain rfl:j=8:=by omega
     rw[E.o]at q;go_wp2_with fail
     go_roundw
     (case rel=>exact⟨k+1,Z,by omega,by go_num,rfl,B,q,trivial⟩);case measure=>simp[intOf];omega
  .obtain rfl:k=xs.length:=by omega
   (have he:R=4294967295-X:=by rw[<-I.o];unfold BU;rw[r.o]);have hn:=PI X A;(have a6:wrap64 ((4294967295-X:Nat):Int)=(R:Int):=by rw[he,wrap64];omega);go_wp2_with fail;go_ret;exact⟨rfl,rfl⟩
def bN(xs:List Int)(j:Nat):Nat:=(xs.getD j 0).toNat
def J3{xs}(h:By xs)(j):bN xs j<256:=by have:=h j;unfold bN;omega
def Nd{xs}(h:By xs)(j):xs.getD j 0=(bN xs j:Int):=by have:=h j;unfold bN;omega
def IF(s:Nat):List Int:=[((s % 256:Nat):Int),((s / 256 % 256:Nat):Int),((s / 65536 % 256:Nat):Int),((s / 16777216 % 256:Nat):Int)]
def Do(xs:List Int):List Int:=xs.take 252++IF (BU (xs.take 252))
def pre(n k:Int)(ys:List Int):List Int:=[k,(ys.length:Int),n % 256,n / 256,0,0,0,0]++(ys++List.replicate (244-ys.length) 0)
def Co(n k:Int)(ys:List Int):List Int:=pre n k ys++IF (BU (pre n k ys))
def BI(n k:Int)(l:Nat):Bool:=decide (0<=n/\n<=65535/\1<=k/\k<=4/\l<=240)
def DA(xs:List Int):List Int:=(xs.drop 8).take (min (bN xs 1) 244)
def getE(n:Int)(xs:List Int):Int:=
 if xs.length≠256 then 1 else if xs≠Do xs then 6 else if BI n (xs.getD 0 0) (DA xs).length=true/\xs=Co n (xs.getD 0 0) (DA xs)then 0 else 7
def getB(n:Int)(xs:List Int):Int×List Int:=if getE n xs=0 then(xs.getD 0 0,DA xs)else(0,[])
theorem Te(s):(IF s).length=4:=rfl
def Im{xs}(h:∀x∈xs,0<=x/\x<=255):By xs:=λ i=>by
 rw[AP];cases e:xs[i]? with
 | none=>simp
 | some n=>exact h n (zd1 e)
def PC{xs}(h:By xs):∀x∈xs,0<=x/\x<=255:=λ x f=>by
 obtain⟨i,q,rfl⟩:=List.getElem_of_mem f;have:=h i
 grind
def By.appendB{xs ys}(h:By xs)(k:By ys):By (xs++ys):=Im λ x f=>by rcases zf0.1 f with e|e;exact PC h x e;exact PC k x e
def By.dropB{xs}(h:By xs)(m):By (xs.drop m):=Im λ x f=>PC h x (List.mem_of_mem_drop f)
def Td(s):By (IF s):=Im λ x f=>by simp only[IF,List.mem_cons,List.not_mem_nil,or_false]at f;omega
def VU{xs}(h:xs.length=256):(Do xs).length=256:=by simp only[Do,zc0,zd0,Te];omega
def AGC{xs}(h:By xs):By (Do xs):=(h.take 252).appendB (Td _)
def Mg(n k){ys}(h:ys.length<=244):(pre n k ys).length=252:=by simp only[pre,zc0,zh0,List.length_nil,zm0];omega
def Pv(n k){ys}(h:ys.length<=244):(Co n k ys).length=256:=by simp only[Co,zc0,Mg n k h,Te]
def AGD(n k){ys f}(h:ys.length<=244):Do (pre n k ys++f)=Co n k ys:=by unfold Do;rw[List.take_append_of_le_length (by rw[Mg n k h];omega),Cj (by rw[Mg n k h];omega)];rfl
def Uh{n k ys}(B:0<=n/\n<=65535)(r:1<=k/\k<=4)(q:By ys)(A:ys.length<=244):By (pre n k ys):=by
 refine By.appendB (Im λ x f=>?_) (q.appendB (Im λ x f=>?_));simp only[List.mem_cons,List.not_mem_nil,or_false]at f;omega
 grind
def VJ{n k ys}(r:0<=n/\n<=65535)(f:1<=k/\k<=4)(A:By ys)(q:ys.length<=244):By (Co n k ys):=(Uh r f A q).appendB (Td _)
def RI{xs}(h:By xs):By (DA xs):=(h.dropB 8).take _
def FO{n k l}:BI n k l=true↔0<=n/\n<=65535/\1<=k/\k<=4/\l<=240:=by unfold BI;simp
end
section
open Go.RowKit
def RdQ(w:World)(v:Value)(ps:List (Int×Int)):Prop:=
 ∃a cap,v=.slice a ps.length cap/\ps.length<=cap/\cap<=maxLen/\
  (ps=[]\/∃b o,a=some ⟨b,o,none⟩/\∀i,i<ps.length->w.cell? ⟨b,o+i*2,none⟩=some (.int .i64 (ps.getD i (0,0)).1)/\w.cell? ⟨b,o+i*2+1,none⟩=some (.int .i64 (ps.getD i (0,0)).2))
def Fi(ps:List (Int×Int)):List Value:=ps.flatMap λ p=>[Value.int .i64 p.1,Value.int .i64 p.2]
def AEf(ps f):Fi (ps++f)=Fi ps++Fi f:=by simp[Fi]
def Um(ps i)(h:i<ps.length):(Fi ps)[i*2]?=some (.int .i64 (ps.getD i (0,0)).1)/\(Fi ps)[i*2+1]?=some (.int .i64 (ps.getD i (0,0)).2):=by
 induction ps generalizing i with
 | nil=>simp at h
 | cons p ps f=>
  have e:Fi (p::ps)=[Value.int .i64 p.1,Value.int .i64 p.2]++Fi ps:=by simp[Fi]
  rw[e];cases i with
  | zero=>simp
  | succ i=>grind
def Bv(w:World)(v:Value)(ps:List (Int×Int)):Prop:=w.ownsRow 0 28 2 v ps.length (Fi ps)
def UR(w):Bv w (.slice none 0 0) []:=World.ownsRow_nil _ _ _ _
def Bv.rd{w v ps}(h:Bv w v ps):RdQ w v ps:=by
 have f:=h;rcases f.2 with⟨rfl,q⟩|⟨g,cap,I,rfl,_,J,B,r,_⟩
 .have E:=ze0 q;subst E;exact⟨none,0,rfl,AE _,by omega,.inl rfl⟩
 .refine⟨some ⟨g,0,none⟩,cap,rfl,B,r,.inr ⟨g,0,rfl,λ i A=>?_⟩⟩;have:=Um ps i A;rw[Nat.zero_add,f.cellAt (i*2) (by omega),f.cellAt (i*2+1) (by omega)];exact this
def Bv.tch{S w w' v ps}(h:Bv w v ps)(q:AD S w w')(f:∀j,v.ownBlock=some j->¬S j):Bv w' v ps:=q.owns h f
def Bv.below{w w' v ps}(h:Bv w v ps)(f:Below w.heap.size w w'):Bv w' v ps:=
 h.tch (S:=λ _=>False) (AD.of_below f) (λ _ _ e=>e)
def Nl{w:World}{e size v n xs}(h:w.ownsRow 0 e size v n xs){k}(q:v.ownBlock=some k):∃f,w.heap[k]?=some (.cells f e (0,0)):=by
 rcases h.2 with⟨rfl,_⟩|⟨g,cap,f,rfl,_,r,_⟩
 .cases q
 .simp only[Value.ownBlock,Option.some.injEq]at q
  grind
theorem ABL:(prog.info? 28).map (λ i=>(i.zero,i.size,i.bytes))=some (some (.agg #[.int .i64 0,.int .i64 0]),2,16):=by kernel_rfl
def Bv.shape{w v ps}(h:Bv w v ps)(I:0<ps.length):
 ∃g cap,v=.slice (some ⟨g,0,none⟩) ps.length cap/\g<w.heap.size/\ps.length<=cap/\cap<=maxLen/\(∀i,i<ps.length->w.cell? ⟨g,i*2,none⟩=some (.int .i64 (ps.getD i (0,0)).1)/\w.cell? ⟨g,i*2+1,none⟩=some (.int .i64 (ps.getD i (0,0)).2))/\∀i,w.frozen? ⟨g,i,none⟩=false:=by
 have f:=h;rcases f.2 with⟨_,e⟩|⟨g,cap,E,rfl,_,r,B,q,_⟩
 .omega
 .refine⟨g,cap,rfl,(za0.1 r).1,B,q,λ i A=>?_,λ i=>f.frozenAt i⟩;have:=Um ps i A;rw[f.cellAt (i*2) (by omega),f.cellAt (i*2+1) (by omega)];exact this
end
section
open Go.RowKit Pl
structure Vn where
 id:Int
 root:Int
 nx:Int
 fx:Bool
deriving DecidableEq
structure Sp where
 gen:Int
 sc:Int
 nx:Int
 vs:List Vn
deriving DecidableEq
def CM(k:Nat)(n:Int):List Int:=(List.range k).map λ i=>n / 256 ^ i % 256
def vN:List Int->Int
 | []=>0
 | b::r=>b+256*vN r
def Sj(s:Sp):List Int:=[75,73,83,84]++(CM 4 s.gen++(CM 2 s.sc++(CM 4 s.nx++CM 1 (s.vs.length:Int))))
def sl(xs:List Int)(a k:Nat):List Int:=(xs.drop a).take k
def Th(k n):(CM k n).length=k:=by simp[CM]
def AB5(k n):CM (k+1) n=CM k n++[n / 256 ^ k % 256]:=by simp[CM,List.range_succ]
def Wa(b:Int):∀xs:List Int,vN (xs++[b])=vN xs+256 ^ xs.length*b
 | []=>by simp[vN]
 | x::xs=>by show x+256*vN (xs++[b])=x+256*vN xs+256 ^ (xs.length+1)*b;rw[Wa b xs,Int.mul_add,Int.pow_succ,Int.mul_comm (256 ^ xs.length) 256,Int.mul_assoc,Int.add_assoc]
end
section
open Go.RowKit Ah
def SJ:Gw prog 23 3 .i64 8:=⟨underlying23,info_parts (z:=.int .i64 0) (size:=1) (bytes:=8) (by kernel_rfl)⟩
abbrev ED(w:World)(v:Value)(xs:List Int):Prop:=AF .i64 3 w v xs
structure Fb where
 b:Nat
 t:TypeId
 pre:List Value
 post:List Value
structure Fr(w:World)(F:Fb)(v u:Value)(L:Nat)(ns:List Int):Prop where
 blk:w.heap[F.b]?=some (.cells (F.pre++v::u::F.post).toArray F.t (0,0))
 ht:F.t≠3
 own:ED w v ns
 pls:∃ps,ps.length=L/\ED w u ps/\Da ns ps
 ap:∀k,v.ownBlock=some k->u.ownBlock≠some k
def Nj{w:World}{e size v n xs}(h:w.ownsRow 0 e size v n xs){k}(q:v.ownBlock=some k):∃f,w.heap[k]?=some (.cells f e (0,0)):=by
 rcases h.2 with⟨rfl,_⟩|⟨g,cap,f,rfl,_,r,_⟩
 .cases q
 .simp only[Value.ownBlock,Option.some.injEq]at q
  grind
def IN{k e w v xs}(h:AF k e w v xs){b cs t}(r:w.heap[b]?=some (.cells cs t (0,0)))(A:t≠e){j}(f:v.ownBlock=some j):j≠b:=by
 intro e;subst e;obtain⟨c1,q⟩:=Nj (w:=w) h f
 grind
section
variable {w:World} {F:Fb} {v u:Value} {L:Nat} {ns:List Int}
def Fr.c0(H:Fr w F v u L ns):w.cell? ⟨F.b,F.pre.length,none⟩=some v:=by rw[cell_of_row w F.b F.pre.length _ _ (0,0) H.blk];simp
def Fr.c1(H:Fr w F v u L ns):w.cell? ⟨F.b,F.pre.length+1,none⟩=some u:=by rw[cell_of_row w F.b (F.pre.length+1) _ _ (0,0) H.blk];simp
def Fr.fz(H:Fr w F v u L ns)(i):w.frozen? ⟨F.b,i,none⟩=false:=frozen_of_row w F.b i _ _ H.blk
def Fr.lt(H:Fr w F v u L ns):F.b<w.heap.size:=(za0.1 H.blk).1
def Fr.ne(H:Fr w F v u L ns){k}(f:v.ownBlock=some k):k≠F.b:=IN H.own H.blk H.ht f
def Fr.neu(H:Fr w F v u L ns){k}(f:u.ownBlock=some k):k≠F.b:=by obtain⟨r,_,q,_⟩:=H.pls;exact IN q H.blk H.ht f
def Fr.tch{S w'}(H:Fr w F v u L ns)(f:AD S w w')(q:¬S F.b)(hv:∀k,v.ownBlock=some k->¬S k)(E:∀k,u.ownBlock=some k->¬S k):Fr w' F v u L ns:=by obtain⟨I,r,A,B⟩:=H.pls;exact⟨by rw[f.block F.b H.lt q];exact H.blk,H.ht,H.own.tch f hv,⟨I,r,A.tch f E,B⟩,H.ap⟩
def Fr.still(H:Fr w F v u L ns){w'}(f:AD (λ _=>False) w w'):Fr w' F v u L ns:=H.tch f (λ e=>e) (λ _ _ e=>e) (λ _ _ e=>e)
def Fr.len(H:Fr w F v u L ns):∃a cap,v=.slice a ns.length cap:=by
 obtain⟨a,cap,e,_⟩:=H.own.rd
 grind
def Fs(F:Fb)(v u:Value)(k:Nat):Prop:=k=F.b\/v.ownBlock=some k\/u.ownBlock=some k
end
abbrev fp(F:Fb):Value:=.pointer (some ⟨F.b,F.pre.length,none⟩)
def KI(b o a)(n cap:Nat)(w)(f:w.cell? ⟨b,o,none⟩=some (.slice a n cap)):
 Calls prog 37 #[.pointer (some ⟨b,o,none⟩)] w λ e w'=>e=.returned (.int .i64 n)/\w'=w:=by
 go_enter func37,ntmps37
 go_wp2_with fail;go_ret;simp
def Gc(F v u L ns i j)(x y:Int)(b w)(H:Fr w F v u L ns)(A:i<ns.length)(B:j<ns.length)(hx:x=i)(hy:y=j)(r:decide (GA ns i<GA ns j)=b):
 Calls prog 284 #[fp F,.int .i64 x,.int .i64 y] w λ e w'=>e=.returned (.bool b)/\Fr w' F v u L ns/\AD (λ _=>False) w w':=by
 subst hx;subst hy;have I:=z6 H;obtain⟨g,cap,rfl,_,T,W,hc,_⟩:=H.own.shape (by omega);have J:=hc i A;have K:=hc j B;have ch:=H.c0;obtain⟨X,f⟩:=exH (ns.getD i 0);obtain⟨Y,q⟩:=exH (ns.getD j 0);obtain⟨m,U⟩:=exH ns.length;have E:Hid (decide (X<Y)=b):=by show _=_;rw[<-r];exact decide_eq_decide.2 (by unfold GA;rw[f.o,q.o])
 rw[f.o]at J;rw[q.o]at K;rw[U.o]at A B T ch;clear r;obtain⟨fb,ft,O,a0⟩:=F;simp only[fp]at ch |-
 obtain⟨o,Z⟩:=exH O.length;rw[Z.o]at ch |-
 clear hc H;unfold maxLen at W
 go_enter func284,ntmps284
 go_wp2_with fail;go_quiet (fail);go_wp2_with fail;go_ret;exact⟨by have:=E.o;subst this;rfl,I.o.still ⟨rfl,rfl,rfl,AE _,λ _ _ _=>rfl⟩,⟨rfl,rfl,rfl,AE _,λ _ _ _=>rfl⟩⟩
def Fr.swapped{w w' F g m cap q m2 f L ns ps}{i j X Y:Nat}(H:Fr w F (.slice (some ⟨g,0,none⟩) m cap) (.slice (some ⟨q,0,none⟩) m2 f) L ns)(a0:ED w (.slice (some ⟨q,0,none⟩) m2 f) ps)(a2:ps.length=L)(a1:Da ns ps)(hi:i<ns.length)(hj:j<ns.length)(hX:GA ns i=X)(hY:GA ns j=Y)(A:w'.heap=((((w.setCell ⟨g,i,none⟩ (.int .i64 Y)).setCell ⟨g,j,none⟩ (.int .i64 X)).setCell ⟨q,Y,none⟩ (.int .i64 i)).setCell ⟨q,X,none⟩ (.int .i64 j)).heap)(K:w'.os=w.os)(O:w'.tape=w.tape)(U:w'.output=w.output):
 Fr w' F (.slice (some ⟨g,0,none⟩) m cap) (.slice (some ⟨q,0,none⟩) m2 f) L (Ct ns i j)/\AD (λ k=>(Value.slice (some ⟨g,0,none⟩) m cap).ownBlock=some k\/(Value.slice (some ⟨q,0,none⟩) m2 f).ownBlock=some k) w w':=by
 have gb:g≠F.b:=H.ne rfl;have qb:q≠F.b:=H.neu rfl;have J:g≠q:=λ e=>H.ap g rfl (by rw[e];rfl);have E:AD (λ k=>k=g) w ((w.setCell ⟨g,i,none⟩ (.int .i64 Y)).setCell ⟨g,j,none⟩ (.int .i64 X)):=AD.setCell (AD.setCell (AD.refl (λ k=>k=g) w) (p:=⟨g,i,none⟩) (λ _=>rfl) _) (p:=⟨g,j,none⟩) (λ _=>rfl) _;have O1:ED ((w.setCell ⟨g,i,none⟩ (.int .i64 Y)).setCell ⟨g,j,none⟩ (.int .i64 X)) (.slice (some ⟨g,0,none⟩) m cap) (Ct ns i j):=by unfold Ct;rw[hX,hY];exact(H.own.set i Y).set j X
 have P1:=a0.tch E (λ k r e=>J (by cases r;grind));generalize hW:(w.setCell ⟨g,i,none⟩ (.int .i64 Y)).setCell ⟨g,j,none⟩ (.int .i64 X)=W at *
 have I:AD (λ k=>k=q) W ((W.setCell ⟨q,Y,none⟩ (.int .i64 i)).setCell ⟨q,X,none⟩ (.int .i64 j)):=AD.setCell (AD.setCell (AD.refl (λ k=>k=q) W) (p:=⟨q,Y,none⟩) (λ _=>rfl) _) (p:=⟨q,X,none⟩) (λ _=>rfl) _;have P2:ED ((W.setCell ⟨q,Y,none⟩ (.int .i64 i)).setCell ⟨q,X,none⟩ (.int .i64 j)) (.slice (some ⟨q,0,none⟩) m2 f) ((ps.set Y i).set X j):=(P1.set Y i).set X j;have O2:=O1.tch I (λ k r e=>J (by cases r;exact e));have T:AD (λ k=>(Value.slice (some ⟨g,0,none⟩) m cap).ownBlock=some k\/(Value.slice (some ⟨q,0,none⟩) m2 f).ownBlock=some k) w ((W.setCell ⟨q,Y,none⟩ (.int .i64 i)).setCell ⟨q,X,none⟩ (.int .i64 j)):=
  (E.mono (λ k _ e=>.inl (by rw[e];rfl))).trans I (λ k _ e=>.inr (by rw[e];rfl))
 have B:AD (λ k=>(Value.slice (some ⟨g,0,none⟩) m cap).ownBlock=some k\/(Value.slice (some ⟨q,0,none⟩) m2 f).ownBlock=some k) w w':=
  ⟨K,O,U,by rw[A];exact T.size,λ k r hn=>by rw[A];exact T.block k r hn⟩
 have Z:AD (λ _=>False) ((W.setCell ⟨q,Y,none⟩ (.int .i64 i)).setCell ⟨q,X,none⟩ (.int .i64 j)) w':=⟨by rw[K];exact T.os.symm,by rw[O];exact T.tape.symm,by rw[U];exact T.output.symm,by grind,λ k _ _=>by rw[A]⟩
 refine⟨⟨?_,H.ht,O2.tch Z (λ _ _ e=>e),⟨_,by grind,P2.tch Z (λ _ _ e=>e),?_⟩,H.ap⟩,B⟩;rw[B.block F.b H.lt (λ e=>by rcases e with e|e<;>simp only[Value.ownBlock,Option.some.injEq]at e<;>omega)];exact H.blk
 .have:=a1.swap hi hj
  grind
def KJ(F v u L ns i j)(x y:Int)(w)(H:Fr w F v u L ns)(A:i<ns.length)(B:j<ns.length)(hx:x=i)(hy:y=j):
 Calls prog 287 #[fp F,.int .i64 x,.int .i64 y] w λ e w'=>e=.returned (.tuple #[])/\Fr w' F v u L (Ct ns i j)/\AD (λ k=>v.ownBlock=some k\/u.ownBlock=some k) w w':=by
 subst hx;subst hy;have HH:=z6 H;obtain⟨r,a8,a3,J⟩:=H.pls;obtain⟨i0,i1,i2⟩:=J i A;obtain⟨j0,j1,j2⟩:=J j B;have a4:=z6 a3;have K:Hid (Da ns r):=J;obtain⟨g,cap,rfl,hg,aa,ae,hc,T⟩:=H.own.shape (by omega);obtain⟨q,aj,rfl,hq,ab,af,a2,U⟩:=a3.shape (by omega);have c0:=hc i A;have d0:=hc j B;have ch:=H.c0;have O:=H.c1;have gb:=H.ne rfl;have qb:=H.neu rfl;have gq:g≠q:=λ e=>H.ap g rfl (by rw[e];rfl);obtain⟨X,W⟩:∃X:Nat,Hid ((ns.getD i 0).toNat=X):=⟨_,rfl⟩
 obtain⟨Y,hY⟩:∃Y:Nat,Hid ((ns.getD j 0).toNat=Y):=⟨_,rfl⟩
 have Z:ns.getD i 0=(X:Int):=by have:=W.o;have:(0:Int)<=ns.getD i 0:=i0;omega
 have a1:ns.getD j 0=(Y:Int):=by have:=hY.o;have:(0:Int)<=ns.getD j 0:=j0;omega
 have a0:X<r.length:=by rw[<-W.o];exact i1
 have a5:Y<r.length:=by rw[<-hY.o];exact j1
 have cX:=a2 X a0;have cY:=a2 Y a5;obtain⟨x0,ag⟩:=exH (r.getD X 0);obtain⟨y0,ai⟩:=exH (r.getD Y 0);rw[ag.o]at cX;rw[ai.o]at cY;have fi:=T i;have fj:=T j;have fX:=U X;have fY:=U Y;rw[Z]at c0;rw[a1]at d0;have E:Hid (GA ns i=X):=Z;have I:Hid (GA ns j=Y):=a1;obtain⟨m,hm⟩:=exH ns.length;obtain⟨m2,ad⟩:=exH r.length;have ac:=A;have a7:=B;rw[hm.o]at ac a7 aa ch;rw[ad.o]at a0 a5 ab O;have f:Hid (i<ns.length/\j<ns.length):=⟨A,B⟩
 have HL:=z6 a8;obtain⟨fb,ft,a9,ak⟩:=F;simp only[fp]at ch O gb qb |-
 obtain⟨o,ho⟩:=exH a9.length;rw[ho.o]at ch O |-
 unfold maxLen at ae af;clear hc a2 T U H J a3 Z a1 i0 i1 i2 j0 j1 j2 W hY A B a8;by_cases a6:i=j
 .subst a6;have e:Y=X:=by have:=E.o.symm.trans I.o;omega
  subst e;clear a7 d0 fj fX a0 cX
  go_enter func287,ntmps287
  go_wp2_with fail;go_quiet (fail);go_wp2_with fail
  go_region
  go_wp2_with fail
  go_region
  go_wp2_with fail
  go_end0
  exact⟨rfl,HH.o.swapped a4.o HL.o K.o f.o.1 f.o.2 E.o I.o rfl rfl rfl rfl⟩
 .have al:X≠Y:=λ e=>a6 (K.o.inj f.o.1 f.o.2 (by rw[E.o,I.o,e]))
  go_enter func287,ntmps287
  go_wp2_with fail;go_quiet (fail);go_wp2_with fail
  go_region
  go_wp2_with fail
  go_region
  go_wp2_with fail
  go_end0
  exact⟨rfl,HH.o.swapped a4.o HL.o K.o f.o.1 f.o.2 E.o I.o rfl rfl rfl rfl⟩
abbrev hv(F:Fb):Value:=.iface 149 (fp F)
theorem UE(a w):(method 486 149 (.pointer (some a)) "Len").run prog w=.ok (37,.pointer (some a)) w:=by kernel_rfl
theorem Gg(a w):(method 486 149 (.pointer (some a)) "Less").run prog w=.ok (284,.pointer (some a)) w:=by kernel_rfl
theorem KY(a w):(method 486 149 (.pointer (some a)) "Swap").run prog w=.ok (287,.pointer (some a)) w:=by kernel_rfl
theorem ACy(a w):(method 486 149 (.pointer (some a)) "Pop").run prog w=.ok (285,.pointer (some a)) w:=by kernel_rfl
theorem AC0(a w):(method 486 149 (.pointer (some a)) "Push").run prog w=.ok (286,.pointer (some a)) w:=by kernel_rfl
def Qr(e:Ending)(qs:List Int)(n i0:Nat):Prop:=(e=.returned (.bool true)/\Bu qs n)\/(e=.returned (.bool false)/\Ux qs n i0)
def Lw{ps q n f k b}(h:GU ps q n f k)(hc:∀c,Ak k c->c<n->GA q k<=GA q c)(r:b=decide (f<k)):Qr (.returned (.bool b)) q n f:=by obtain⟨A,B⟩:=h.stop hc;subst r;by_cases e:f<k;left;grind;right;grind
def Ah.lt_of_dec{a b:Int}(h:decide (a<b)=true):a<b:=of_decide_eq_true h
def Ah.le_of_dec{a b:Int}(h:decide (a<b)=false):b<=a:=by grind
def Zo(F v u L ps i0 n w)(H:Fr w F v u L ps)(hn:n<=ps.length)(hl:ps.length<=100000)(hi:i0<=n)(hh:Hx ps n i0):
 Calls prog 205 #[hv F,.int .i64 i0,.int .i64 n] w λ e w'=>∃f,Qr e f n i0/\Fr w' F v u L f/\f.Perm ps/\(∀k,n<=k->GA f k=GA ps k)/\AD (λ k=>v.ownBlock=some k\/u.ownBlock=some k) w w':=by
 have HH:=z6 H;have HD:=z6 (GU.start hh hn);clear H hh
 go_enter func205,ntmps205
 go_wp2_with fail
 go_loopw [7] (λ i wr=>∃(k:Nat)(f:List Int),k<=n/\i0<=k/\i=.int .i64 k/\Hid (Fr wr F v u L f)/\Hid (GU ps f n i0 k)/\Hid (AD (λ k=>v.ownBlock=some k\/u.ownBlock=some k) w wr)) (λ i _=>n-(intOf i).toNat)
 case atStart=>exact⟨i0,ps,hi,AE _,rfl,HH,HD,AD.refl _ _⟩
 case round=>
  obtain⟨k,f,hk,a7,rfl,U,E,X⟩:=hrel;clear HH HD;have a6:=E.o.perm.length_eq;have A:=z6 a6;clear a6;by_cases h1:2*k+1<n
  .by_cases h2:2*k+2<n
   .cases hb1:decide (GA f (2*k+2)<GA f (2*k+1))with
    | false=>
     have a2:=z6 hb1;clear hb1;(have HM:Hid (∀c,Ak k c->c<n->GA f (2*k+1)<=GA f c):=λ c hc Z=>by rcases hc with rfl|rfl;(· exact Int.le_refl _);(· exact Ah.le_of_dec a2.o));have B:=Gg ⟨F.b,F.pre.length,none⟩ wr;go_wp2_with fail;refine(Gc F v u L f (2*k+2) (2*k+1) _ _ false wr U.o (by rw[A.o];omega) (by rw[A.o];omega) (by omega) (by omega) a2.o).mono ?_;rintro e T ⟨rfl,q,r⟩;have W:=z6 q;have Y:Hid (AD (λ k=>v.ownBlock=some k\/u.ownBlock=some k) w T):=X.o.trans (S':=λ _=>False) r (λ _ _ e=>e.elim);clear q r B U X;cases hb2:decide (GA f (2*k+1)<GA f k)with
     | false=>have I:=z6 hb2;clear hb2;have B:=Gg ⟨F.b,F.pre.length,none⟩ T;go_wp2_with fail;refine(Gc F v u L f (2*k+1) (k) _ _ false T W.o (by rw[A.o];omega) (by rw[A.o];omega) (by omega) (by omega) I.o).mono ?_;rintro e J ⟨rfl,q,r⟩;have K:=z6 q;have O:Hid (AD (λ k=>v.ownBlock=some k\/u.ownBlock=some k) w J):=Y.o.trans (S':=λ _=>False) r (λ _ _ e=>e.elim);clear q r B W Y;have HF:Hid (∀c,Ak k c->c<n->GA f k<=GA f c):=λ c hc Z=>Int.le_trans (Ah.le_of_dec I.o) (HM.o c hc Z);go_wp2_with fail;go_ret;exact⟨f,Lw E.o HF.o (by simp),K.o,E.o.perm,E.o.rest,O.o⟩
     | true=>
      have I:=z6 hb2;clear hb2;have B:=Gg ⟨F.b,F.pre.length,none⟩ T;go_wp2_with fail;refine(Gc F v u L f (2*k+1) (k) _ _ true T W.o (by rw[A.o];omega) (by rw[A.o];omega) (by omega) (by omega) I.o).mono ?_;rintro e J ⟨rfl,q,r⟩;have K:=z6 q;have O:Hid (AD (λ k=>v.ownBlock=some k\/u.ownBlock=some k) w J):=Y.o.trans (S':=λ _=>False) r (λ _ _ e=>e.elim);clear q r B W Y;have B:=KY ⟨F.b,F.pre.length,none⟩ J;go_wp2_with fail;refine(KJ F v u L f k (2*k+1) _ _ J K.o (by rw[A.o];omega) (by rw[A.o];omega) (by omega) (by omega)).mono ?_;rintro e w3 ⟨rfl,a0,a1⟩;have a4:=z6 a0;have a5:Hid (AD (λ k=>v.ownBlock=some k\/u.ownBlock=some k) w w3):=O.o.trans a1 (λ _ _ e=>e)
      have a3:=z6 (E.o.sink (by unfold Ak;omega) (by omega) HM.o (Ah.lt_of_dec I.o));clear a0 a1 B K O E;go_wp2_with fail
      go_roundw
      (case rel=>exact⟨2*k+1,Ct f k (2*k+1),by omega,by omega,by go_num,a4,a3,a5⟩);case measure=>simp[intOf];omega
    | true=>
     have a2:=z6 hb1;clear hb1;(have HM:Hid (∀c,Ak k c->c<n->GA f (2*k+2)<=GA f c):=λ c hc Z=>by rcases hc with rfl|rfl;(· exact Int.le_of_lt (Ah.lt_of_dec a2.o));(· exact Int.le_refl _));have B:=Gg ⟨F.b,F.pre.length,none⟩ wr;go_wp2_with fail;refine(Gc F v u L f (2*k+2) (2*k+1) _ _ true wr U.o (by rw[A.o];omega) (by rw[A.o];omega) (by omega) (by omega) a2.o).mono ?_;rintro e T ⟨rfl,q,r⟩;have W:=z6 q;have Y:Hid (AD (λ k=>v.ownBlock=some k\/u.ownBlock=some k) w T):=X.o.trans (S':=λ _=>False) r (λ _ _ e=>e.elim);clear q r B U X;cases hb2:decide (GA f (2*k+2)<GA f k)with
     | false=>have I:=z6 hb2;clear hb2;have B:=Gg ⟨F.b,F.pre.length,none⟩ T;go_wp2_with fail;refine(Gc F v u L f (2*k+2) (k) _ _ false T W.o (by rw[A.o];omega) (by rw[A.o];omega) (by omega) (by omega) I.o).mono ?_;rintro e J ⟨rfl,q,r⟩;have K:=z6 q;have O:Hid (AD (λ k=>v.ownBlock=some k\/u.ownBlock=some k) w J):=Y.o.trans (S':=λ _=>False) r (λ _ _ e=>e.elim);clear q r B W Y;have HF:Hid (∀c,Ak k c->c<n->GA f k<=GA f c):=λ c hc Z=>Int.le_trans (Ah.le_of_dec I.o) (HM.o c hc Z);go_wp2_with fail;go_ret;exact⟨f,Lw E.o HF.o (by simp),K.o,E.o.perm,E.o.rest,O.o⟩
     | true=>
      have I:=z6 hb2;clear hb2;have B:=Gg ⟨F.b,F.pre.length,none⟩ T;go_wp2_with fail;refine(Gc F v u L f (2*k+2) (k) _ _ true T W.o (by rw[A.o];omega) (by rw[A.o];omega) (by omega) (by omega) I.o).mono ?_;rintro e J ⟨rfl,q,r⟩;have K:=z6 q;have O:Hid (AD (λ k=>v.ownBlock=some k\/u.ownBlock=some k) w J):=Y.o.trans (S':=λ _=>False) r (λ _ _ e=>e.elim);clear q r B W Y;have B:=KY ⟨F.b,F.pre.length,none⟩ J;go_wp2_with fail;refine(KJ F v u L f k (2*k+2) _ _ J K.o (by rw[A.o];omega) (by rw[A.o];omega) (by omega) (by omega)).mono ?_;rintro e w3 ⟨rfl,a0,a1⟩;have a4:=z6 a0;have a5:Hid (AD (λ k=>v.ownBlock=some k\/u.ownBlock=some k) w w3):=O.o.trans a1 (λ _ _ e=>e)
      have a3:=z6 (E.o.sink (by unfold Ak;omega) (by omega) HM.o (Ah.lt_of_dec I.o));clear a0 a1 B K O E;go_wp2_with fail
      go_roundw
      (case rel=>exact⟨2*k+2,Ct f k (2*k+2),by omega,by omega,by go_num,a4,a3,a5⟩);case measure=>simp[intOf];omega
   .have HM:Hid (∀c,Ak k c->c<n->GA f (2*k+1)<=GA f c):=λ c hc Z=>by rcases hc with rfl|rfl;(· exact Int.le_refl _);(· omega)
    cases hb2:decide (GA f (2*k+1)<GA f k)with
    | false=>have I:=z6 hb2;clear hb2;have B:=Gg ⟨F.b,F.pre.length,none⟩ wr;go_wp2_with fail;refine(Gc F v u L f (2*k+1) (k) _ _ false wr U.o (by rw[A.o];omega) (by rw[A.o];omega) (by omega) (by omega) I.o).mono ?_;rintro e J ⟨rfl,q,r⟩;have K:=z6 q;have O:Hid (AD (λ k=>v.ownBlock=some k\/u.ownBlock=some k) w J):=X.o.trans (S':=λ _=>False) r (λ _ _ e=>e.elim);clear q r B U X;have HF:Hid (∀c,Ak k c->c<n->GA f k<=GA f c):=λ c hc Z=>Int.le_trans (Ah.le_of_dec I.o) (HM.o c hc Z);go_wp2_with fail;go_ret;exact⟨f,Lw E.o HF.o (by simp),K.o,E.o.perm,E.o.rest,O.o⟩
    | true=>
     have I:=z6 hb2;clear hb2;have B:=Gg ⟨F.b,F.pre.length,none⟩ wr;go_wp2_with fail;refine(Gc F v u L f (2*k+1) (k) _ _ true wr U.o (by rw[A.o];omega) (by rw[A.o];omega) (by omega) (by omega) I.o).mono ?_;rintro e J ⟨rfl,q,r⟩;have K:=z6 q;have O:Hid (AD (λ k=>v.ownBlock=some k\/u.ownBlock=some k) w J):=X.o.trans (S':=λ _=>False) r (λ _ _ e=>e.elim);clear q r B U X;have B:=KY ⟨F.b,F.pre.length,none⟩ J;go_wp2_with fail;refine(KJ F v u L f k (2*k+1) _ _ J K.o (by rw[A.o];omega) (by rw[A.o];omega) (by omega) (by omega)).mono ?_;rintro e w3 ⟨rfl,a0,a1⟩;have a4:=z6 a0;have a5:Hid (AD (λ k=>v.ownBlock=some k\/u.ownBlock=some k) w w3):=O.o.trans a1 (λ _ _ e=>e)
     have a3:=z6 (E.o.sink (by unfold Ak;omega) (by omega) HM.o (Ah.lt_of_dec I.o));clear a0 a1 B K O E;go_wp2_with fail
     go_roundw
     (case rel=>exact⟨2*k+1,Ct f k (2*k+1),by omega,by omega,by go_num,a4,a3,a5⟩);case measure=>simp[intOf];omega
  .have HF:Hid (∀c,Ak k c->c<n->GA f k<=GA f c):=λ c hc Z=>by unfold Ak at hc;omega
   go_wp2_with fail;go_ret;exact⟨f,Lw E.o HF.o (by simp),U.o,E.o.perm,E.o.rest,X.o⟩
def AHv(F v u L ps n X w)(H:Fr w F v u L ps)(hl:ps.length<=100000)(W:FX ps ps n X):
 Calls prog 152 #[hv F,.int .i64 X] w λ e w'=>e=.returned (.tuple #[])/\∃f,Fr w' F v u L f/\f.Perm ps/\(∀k,n<=k->GA f k=GA ps k)/\Bu f n/\AD (λ k=>v.ownBlock=some k\/u.ownBlock=some k) w w':=by
 have HH:=z6 H;have HD:=z6 W;have a5:X<=n:=by rcases W.jn with e|e<;>omega
 have a8:=W.nl;clear H W
 go_enter func152,ntmps152
 go_wp2_with fail
 go_loopw [1] (λ i wr=>∃(k:Nat)(f:List Int),k<=n/\i=.int .i64 k/\Hid (Fr wr F v u L f)/\Hid (FX ps f n k)/\Hid (AD (λ k=>v.ownBlock=some k\/u.ownBlock=some k) w wr)) (λ i _=>(intOf i).toNat)
 case atStart=>exact⟨X,ps,a5,rfl,HH,HD,AD.refl _ _⟩
 case round=>
  obtain⟨k,f,hk,rfl,B,q,E⟩:=hrel;clear HH HD;have r:=z6 q.o.perm.length_eq;by_cases h0:k=0
  .subst h0;have Y:=z6 q.o.top;go_wp2_with fail
   go_end0
   exact⟨rfl,f,B.o,q.o.perm,q.o.rest,Y.o,E.o⟩
  .have a6:k<n:=by rcases q.o.jn with e|e<;>omega
   obtain⟨p,Z,a9⟩:∃p:Nat,Ak p k/\((k:Int)-1).tdiv 2=p:=⟨(k-1) / 2,by unfold Ak;omega,by rw[show((k:Int)-1)=((k-1:Nat):Int) by omega];exact(Int.ofNat_tdiv _ _).symm⟩
   have HC:=z6 Z;(have aa:p<k:=by unfold Ak at Z;omega);(have a7:((p:Int)==(k:Int))=false:=by simp;omega);clear Z;cases hb:decide (GA f k<GA f p)with
   | false=>
    have A:=z6 hb;clear hb;have I:=Gg ⟨F.b,F.pre.length,none⟩ wr;go_wp2_with fail;refine(Gc F v u L f k p _ _ false wr B.o (by rw[r.o];omega) (by rw[r.o];omega) (by omega) (by omega) A.o).mono ?_;rintro e O ⟨rfl,J,K⟩;have T:=z6 J;have U:Hid (AD (λ k=>v.ownBlock=some k\/u.ownBlock=some k) w O):=E.o.trans (S':=λ _=>False) K (λ _ _ e=>e.elim);clear J K I B E;have Y:=z6 (q.o.stop HC.o (of_decide_eq_false A.o));go_wp2_with fail
    go_end0
    exact⟨rfl,f,T.o,q.o.perm,q.o.rest,Y.o,U.o⟩
   | true=>
    have A:=z6 hb;clear hb;have I:=Gg ⟨F.b,F.pre.length,none⟩ wr;go_wp2_with fail;refine(Gc F v u L f k p _ _ true wr B.o (by rw[r.o];omega) (by rw[r.o];omega) (by omega) (by omega) A.o).mono ?_;rintro e O ⟨rfl,J,K⟩;have T:=z6 J;have U:Hid (AD (λ k=>v.ownBlock=some k\/u.ownBlock=some k) w O):=E.o.trans (S':=λ _=>False) K (λ _ _ e=>e.elim);clear J K I B E;have I:=KY ⟨F.b,F.pre.length,none⟩ O;go_wp2_with fail;refine(KJ F v u L f p k _ _ O T.o (by rw[r.o];omega) (by rw[r.o];omega) (by omega) (by omega)).mono ?_;rintro e w3 ⟨rfl,a0,a1⟩;have a3:=z6 a0;have a4:Hid (AD (λ k=>v.ownBlock=some k\/u.ownBlock=some k) w w3):=U.o.trans a1 (λ _ _ e=>e);have a2:=z6 (q.o.rise HC.o (of_decide_eq_true A.o))
    clear a0 a1 I T U q;go_wp2_with fail
    go_roundw
    (case rel=>exact⟨p,Ct f p k,by omega,by first|rfl|go_num,a3,a2,a4⟩);case measure=>simp[intOf];omega
def AFp(pre post:List Value)(v u x):((pre++v::u::post).toArray).setIfInBounds pre.length x=(pre++x::u::post).toArray:=by simp
def Fr.put{w F v f u L}{ns B ps:List Int}(q:w.heap[F.b]?=some (.cells (F.pre++v::u::F.post).toArray F.t (0,0)))(A:F.t≠3)(E:ED w f B)(K:ps.length=L)(I:ED w u ps)(O:Da B ps)(J:∀k,f.ownBlock=some k->u.ownBlock≠some k):Fr (w.setCell ⟨F.b,F.pre.length,none⟩ f) F f u L B:=by
 have T:AD (λ k=>k=F.b) w (w.setCell ⟨F.b,F.pre.length,none⟩ f):=AD.setCell (AD.refl (λ k=>k=F.b) w) (p:=⟨F.b,F.pre.length,none⟩) (λ _=>rfl) _;refine⟨?_,A,E.tch T (λ k r e=>IN E q A r e),⟨ps,K,I.tch T (λ k r e=>IN I q A r e),O⟩,J⟩;rw[heap_setCell_same w F.b F.pre.length _ _ _ q,AFp]
def Z3(F v u L ns n w)(H:Fr w F v u L ns)(U:n<L)(hm:(n:Int)∉ns)(hl:ns.length<=100000):
 Calls prog 286 #[fp F,.iface 3 (.int .i64 n)] w λ e w'=>e=.returned (.tuple #[])/\
  ∃B,Fr w' F B u L (ns++[(n:Int)])/\(∀k,B.ownBlock=some k->v.ownBlock=some k\/w.heap.size<=k)/\AD (Fs F v u) w w':=by
 have E:=z6 H;obtain⟨ps,ao,a7,ae⟩:=H.pls;subst ao;have ai:=z6 a7;have aj:=z6 (ae.push U hm);obtain⟨q,K,rfl,hq,al,am,ab,aa⟩:=a7.shape (by omega);obtain⟨a,cap,rfl⟩:=H.len;have cX:=ab n U;obtain⟨x0,aq⟩:=exH (ps.getD n 0);rw[aq.o]at cX;have fX:=aa n;have ch:=H.c0;have X:=H.c1;have Y:=H.fz F.pre.length;have qb:=H.neu rfl;have O:=H.lt;obtain⟨m,r⟩:∃m,Hid (ns.length=m):=⟨_,rfl⟩
 obtain⟨m2,T⟩:=exH ps.length;have ta:∀(w:World)(x:Int),(Instr.typeAssert (.iface 3 (.int .i64 x)) 20 3 false).run prog w=.ok (.int .i64 x) w:=λ _ _=>by kernel_rfl
 have an:=U;rw[r.o]at ch hl;rw[T.o]at X al an;have HN:=z6 U;obtain⟨f,ft,Z,a4⟩:=F;simp only[fp]at ch X Y qb O |-
 obtain⟨o,ho⟩:=exH Z.length;rw[ho.o]at ch X Y |-
 unfold maxLen at am;clear ab aa H ae a7 U hm
 go_enter func286,ntmps286
 go_wp2_with fail
 go_region
 obtain⟨I,a2⟩:=exH ((w.setCell ⟨q,n,none⟩ (.int .i64 m)).drew);rw[a2.o];have A:Hid (AD (λ k=>k=q) w I):=by rw[<-a2.o];exact AD.drew (AD.setCell (AD.refl (λ k=>k=q) w) (p:=⟨q,n,none⟩) (λ _=>rfl) _)
 have P1:Hid (ED I (.slice (some ⟨q,0,none⟩) m2 K) (ps.set n m)):=by rw[<-a2.o];have:=ai.o.set n m;rw[T.o]at this;exact this
 have O1:Hid (ED I (.slice a m cap) ns):=by have:=E.o.own.tch A.o (λ k J e=>E.o.ap k J (by rw[e];rfl));rw[r.o]at this;exact this
 have B1:Hid (I.heap[f]?=some (.cells (Z++(.slice a m cap)::(.slice (some ⟨q,0,none⟩) m2 K)::a4).toArray ft (0,0))):=by rw[A.o.block f O (λ e=>qb e.symm)];have:=E.o.blk;rw[r.o,T.o]at this;exact this
 have a8:I.cell? ⟨f,o,none⟩=some (.slice a m cap):=by rw[A.o.cell (p:=⟨f,o,none⟩) O (λ e=>qb e.symm)];exact ch
 have a9:I.frozen? ⟨f,o,none⟩=false:=by rw[A.o.frozen (p:=⟨f,o,none⟩) O (λ e=>qb e.symm)];exact Y
 have a6:=Ao O A.o.size;have HG:Hid (∀B w',ED w' B (ns++[(n:Int)])->AY I w' (.slice a m cap) B->w'.cell? ⟨f,o,none⟩=some (.slice a m cap)/\w'.frozen? ⟨f,o,none⟩=false):=by
  intro B w' _ hg;have a0:¬(Value.slice a m cap).ownBlock=some f:=λ e=>by have:=E.o.ne (k:=f) (by rw[r.o];exact e);exact this rfl
  exact⟨by rw[hg.tch.cell (p:=⟨f,o,none⟩) a6 a0];exact a8,by rw[hg.tch.frozen (p:=⟨f,o,none⟩) a6 a0];exact a9⟩
 clear ch X Y cX fX;go_wp2_with(at_builtin;refine ET _ rfl (.tmp 22) (.tmp 24) 23 rfl 3 .i64 8 SJ _ ns rfl O1.o (n:Int) rfl (by rw[r.o];omega) (by rw[r.o];omega) ?_)
 intro B w' a1 a5;obtain⟨c',f'⟩:=HG.o B w' a1 a5;have OV:=z6 a1;have W:=z6 a5;obtain⟨a',a3,ag,_⟩:=a1.rd;have ad:(ns++[(n:Int)]).length=m+1:=by simp[r.o]
 rw[ad]at ag;subst ag;clear a1 a5 a8 a9 ad;go_wp2_with fail
 go_end0
 have a0:¬(Value.slice a m cap).ownBlock=some f:=λ e=>by have:=E.o.ne (k:=f) (by rw[r.o];exact e);exact this rfl
 have af:¬(Value.slice a m cap).ownBlock=some q:=λ e=>by have:=E.o.ap q (by rw[r.o];exact e);exact this rfl
 have B2:w'.heap[f]?=some (.cells (Z++(.slice a m cap)::(.slice (some ⟨q,0,none⟩) m2 K)::a4).toArray ft (0,0)):=by rw[W.o.tch.block f a6 a0];exact B1.o
 have P2:ED w' (.slice (some ⟨q,0,none⟩) m2 K) (ps.set n ns.length):=by rw[r.o];exact P1.o.tch W.o.tch (λ k J e=>af (by cases J;exact e))
 have ar:=Ao hq A.o.size;have ac:∀k,(Value.slice a' (m+1) a3).ownBlock=some k->(Value.slice a m cap).ownBlock=some k\/w.heap.size<=k:=λ k J=>by rcases W.o.fresh k J with e|e;exact .inl e;exact .inr (Aw A.o.size e)
 have ak:∀k,(Value.slice a' (m+1) a3).ownBlock=some k->(Value.slice (some ⟨q,0,none⟩) m2 K).ownBlock≠some k:=λ k J e=>by cases e;rcases ac _ J with e|e;exact af e;exact absurd (show w.heap.size<=q from e) (by omega)
 refine⟨rfl,.slice a' (m+1) a3,?_,?_,?_⟩;rw[<-ho.o,T.o];exact Fr.put (F:=⟨f,ft,Z,a4⟩) (ns:=ns) (v:=.slice a m cap) B2 E.o.ht OV.o (by simp[T.o]) P2 aj.o ak;rw[r.o];exact ac;refine AD.setCell ((A.o.mono (λ k _ e=>?_)).trans W.o.tch (λ k _ e=>?_)) (p:=⟨f,o,none⟩) (λ _=>.inl rfl) _;exact .inr (.inr (by rw[e];rfl));exact .inr (.inl (by rw[r.o];exact e))
def AF.shrink{k e w g m cap xs}(h:AF k e w (.slice (some ⟨g,0,none⟩) m cap) xs)(n)(O:n<=xs.length):AF k e w (.slice (some ⟨g,0,none⟩) n cap) (xs.take n):=by
 have q:=h;have I:(xs.take n).length=n:=by grind
 unfold AF;rw[I];refine⟨by simp;omega,?_⟩;rcases q.2 with⟨e,_⟩|⟨L,K,f,e,r,E,T,A,B,J⟩
 .cases e
 .simp only[Value.slice.injEq,Option.some.injEq,Addr.mk.injEq,and_true]at e;obtain⟨rfl,rfl,rfl⟩:=e;refine .inr ⟨g,cap,f,rfl,r,E,by omega,A,B,?_⟩;rw[List.map_take,<-J,zz0]
  grind
def Z2(F v u L ns n w)(H:Fr w F v u L ns)(r:ns.length=n+1):
 Calls prog 285 #[fp F] w λ e w'=>e=.returned (.iface 3 (.int .i64 (GA ns n)))/\
  ∃J,Fr w' F J u L (ns.take n)/\J.ownBlock=v.ownBlock/\AD (λ k=>k=F.b) w w':=by
 have f:=z6 H;obtain⟨g,cap,rfl,hg,a0,a1,hc,W⟩:=H.own.shape (by omega);have O:=hc n (by omega);have ch:=H.c0;have A:=H.fz F.pre.length;have Y:=H.ne rfl;obtain⟨X,Z⟩:=exH (ns.getD n 0);simp only[GA];rw[Z.o]at O |-
 have K:=z6 r;rw[r]at ch a0;obtain⟨q,U,B,T⟩:=F;simp only[fp]at ch A Y |-
 obtain⟨o,E⟩:=exH B.length;rw[E.o]at ch A |-
 unfold maxLen at a1;clear hc W H r
 go_enter func285,ntmps285
 go_wp2_with fail;go_ret;obtain⟨I,a2,a3,a4⟩:=f.o.pls;refine⟨rfl,.slice (some ⟨g,0,none⟩) n cap,?_,rfl,AD.setCell (AD.refl (λ k=>k=q) w) (p:=⟨q,o,none⟩) (λ _=>rfl) _⟩;rw[<-E.o];exact Fr.put (F:=⟨q,U,B,T⟩) (ns:=ns) (ps:=I) f.o.blk f.o.ht (f.o.own.shrink n (by rw[K.o];omega)) a2 a3 (a4.take n) (λ k hk=>f.o.ap k hk)
def Fs.of{F v u k}(h:v.ownBlock=some k\/u.ownBlock=some k):Fs F v u k:=.inr h
def AAn(F v u L ns n w)(H:Fr w F v u L ns)(q:ns.length=n+1)(hl:ns.length<=100000)(hh:Bu ns ns.length):
 Calls prog 165 #[hv F] w λ e w'=>e=.returned (.iface 3 (.int .i64 (GA ns 0)))/\
  ∃r f,Fr w' F r u L f/\Bu f f.length/\ns.Perm (GA ns 0::f)/\r.ownBlock=v.ownBlock/\AD (Fs F v u) w w':=by
 have HH:=z6 H;have aa:=z6 hh;obtain⟨X,B⟩:=exH (GA ns 0);rw[B.o];obtain⟨a,cap,hv⟩:=H.len;have m0:=UE ⟨F.b,F.pre.length,none⟩ w;have m1:=KY ⟨F.b,F.pre.length,none⟩ w;have ch:=H.c0;rw[q]at hv;subst hv;have K:=z6 ch;clear H hh ch
 go_enter func165,ntmps165
 go_wp2_with fail;refine(KI _ _ a (n+1) cap w K.o).mono ?_;rintro e w1 ⟨rfl,rfl⟩;go_wp2_with fail;refine(KJ F _ u L ns 0 n _ _ w1 HH.o (by omega) (by omega) (by omega) (by omega)).mono ?_;rintro e w2 ⟨rfl,a1,a7⟩;have O:=z6 a1;have W:=z6 a7;have HF:=z6 (Hx.swap aa.o q (AI _));have a6:(Ct ns 0 n).length=n+1:=by rw[Ky,q]
 have A:=z6 a6;clear a1 a7 m0 m1 a6 K;go_wp2_with fail;refine(Zo F _ u L (Ct ns 0 n) 0 n w2 O.o (by rw[A.o];omega) (by rw[A.o];omega) (AI _) HF.o).mono ?_;rintro e J ⟨f,E,a2,I,a5,a8⟩;have a3:=AHV q (AI _) I a5;have a4:f.length=n+1:=by rw[I.length_eq,A.o]
 have a0:Bu f n:=by
  rcases E with⟨_,h⟩|⟨_,h⟩
  .exact h
  .exact λ x c Z h3=>h.1 x c (by unfold Ak at Z;omega) Z h3
 obtain⟨Y,rfl⟩:∃Y,e=.returned (.bool Y):=by rcases E with⟨e,_⟩|⟨e,_⟩<;>exact⟨_,e⟩
 have ab:=z6 a2;have T:=z6 a3;have ac:Hid (AD (λ k=>(Value.slice a (n+1) cap).ownBlock=some k\/u.ownBlock=some k) w1 J):=W.o.trans a8 (λ _ _ e=>e);have a9:=z6 a0;have U:=z6 a4;have m2:=ACy ⟨F.b,F.pre.length,none⟩ J;clear a2 I a5 a0 a8 a3 a4 O W E;go_wp2_with fail;refine(Z2 F _ u L f n J ab.o U.o).mono ?_;rintro e w4 ⟨rfl,r,ad,af,ae⟩;have hQ:=T.o.1.trans B.o;rw[hQ];clear hQ;go_wp2_with fail;go_ret;refine⟨rfl,r,f.take n,ad,?_,by have:=T.o.2;rw[B.o]at this;exact this,af,(ac.o.mono (λ _ _ e=>Fs.of e)).trans ae (λ _ _ e=>.inl e)⟩;have e:(f.take n).length=n:=by rw[zd0,U.o];omega
 rw[e];exact a9.o.take
def AAp(F v u L ns n w)(H:Fr w F v u L ns)(hn:n<L)(I:(n:Int)∉ns)(hl:ns.length<100000)(B:Bu ns ns.length):
 Calls prog 121 #[hv F,.iface 3 (.int .i64 n)] w λ e w'=>e=.returned (.tuple #[])/\
  ∃O f,Fr w' F O u L f/\Bu f f.length/\f.Perm (ns++[(n:Int)])/\(∀k,O.ownBlock=some k->v.ownBlock=some k\/w.heap.size<=k)/\AD (Fs F v u) w w':=by
 have W:=z6 H;have Y:=z6 B;have X:=z6 I;have m0:=AC0 ⟨F.b,F.pre.length,none⟩ w;clear H B I
 go_enter func121,ntmps121
 go_wp2_with fail;refine(Z3 F v u L ns n w W.o hn X.o (by omega)).mono ?_;rintro e T ⟨rfl,v1,q,A,K⟩;have Z:=z6 q;have r:=z6 A;have a0:=z6 K;obtain⟨a,cap,hv⟩:=q.len;have E:(ns++[(n:Int)]).length=ns.length+1:=by simp
 rw[E]at hv;subst hv;have m1:=UE ⟨F.b,F.pre.length,none⟩ T;have U:=z6 q.c0;clear q A K m0 E;go_wp2_with fail;refine(KI _ _ a (ns.length+1) cap T U.o).mono ?_;rintro e w2 ⟨rfl,rfl⟩;go_wp2_with fail;refine(AHv F _ u L (ns++[(n:Int)]) (ns.length+1) ns.length _ Z.o (by simp;omega) (FX.push Y.o)).mono ?_;rintro e w3 ⟨rfl,f,a1,J,_,a3,a2⟩;go_wp2_with fail
 go_end0
 have e:f.length=ns.length+1:=by rw[J.length_eq];simp
 refine⟨rfl,_,f,a1,by grind,J,r.o,a0.o.trans a2 (λ i hi e=>?_)⟩;rcases e with e|e;rcases r.o i e with e|e;exact .inr (.inl e);omega;exact .inr (.inr e)
def XM(F v u L ns n w)(H:Fr w F v u L ns)(K:n<L)(r:(n:Int)∉ns)(J:ns.length<100000)(q:Bu ns ns.length):
 Calls prog 88 #[fp F,.int .i64 n] w λ e w'=>e=.returned (.tuple #[])/\
  ∃A f,Fr w' F A u L f/\Bu f f.length/\f.Perm (ns++[(n:Int)])/\(∀k,A.ownBlock=some k->v.ownBlock=some k\/w.heap.size<=k)/\AD (Fs F v u) w w':=by
 have B:=z6 H;have I:=z6 q;have E:=z6 r;clear H q r
 go_enter func88,ntmps88
 go_wp2_with fail;refine(AAp F v u L ns n w B.o K E.o J I.o).mono ?_;rintro e Z ⟨rfl,Y,f,U,T,W,O,X⟩;go_wp2_with fail
 go_end0
 grind
def AHI(F v u L ns n w)(H:Fr w F v u L ns)(J:ns.length=n+1)(Z:ns.length<=100000)(E:Bu ns ns.length):
 Calls prog 130 #[fp F] w λ e w'=>e=.returned (.int .i64 (GA ns 0))/\
  ∃q f,Fr w' F q u L f/\Bu f f.length/\ns.Perm (GA ns 0::f)/\q.ownBlock=v.ownBlock/\AD (Fs F v u) w w':=by
 have U:=z6 H;have Y:=z6 E;have W:=z6 J;have ta:∀(w:World)(x:Int),(Instr.typeAssert (.iface 3 (.int .i64 x)) 20 3 false).run prog w=.ok (.int .i64 x) w:=λ _ _=>by kernel_rfl
 clear H E J;obtain⟨X,A⟩:=exH (GA ns 0);rw[A.o]
 go_enter func130,ntmps130
 go_wp2_with fail;refine(AAn F v u L ns n w U.o W.o Z Y.o).mono ?_;rintro e T ⟨rfl,v1,f,K,I,r,B,O⟩;rw[A.o]at r |-
 have R:Hid (∃q f,Fr T F q u L f/\Bu f f.length/\ns.Perm (X::f)/\q.ownBlock=v.ownBlock/\AD (Fs F v u) w T):=⟨v1,f,K,I,r,B,O⟩
 clear K I r B O;go_wp2_with fail;go_ret;exact⟨rfl,R.o⟩
abbrev Gy(w:World)(v:Value)(xs:List Int):Prop:=AF .u8 109 w v xs
structure Pf(w:World)(M:Nat)(s:StA)(vs v u:Value)(post:List Value)(ns:List Int):Prop where
 fr:Fr w ⟨M,100,[vs],post⟩ v u (s.lo+s.L.length) ns
 st:Gy w vs (D9 s.lo s.L)
 heap:Bu ns ns.length
 ks:Ks 0 s ns
 top:s.lo+s.L.length<=65536
structure Em(w:World)(M:Nat)(s:StA)(vs v u vb:Value)(ns bk:List Int):Prop where
 pf:Pf w M s vs v u [vb,.int .i64 s.as] ns
 bo:ED w vb bk
 kb:Ks 2 s bk
 a1:∀k,vb.ownBlock=some k->v.ownBlock≠some k
 a2:∀k,vb.ownBlock=some k->u.ownBlock≠some k
 ok:SokA s
def Px(M:Nat)(vs v u vb:Value)(k:Nat):Prop:=k=M\/vs.ownBlock=some k\/v.ownBlock=some k\/u.ownBlock=some k\/vb.ownBlock=some k
def Pm(w:World)(M:Nat)(s:StA)(X:Nat->Prop):Prop:=
 ∃vs v u vb ns bk,Em w M s vs v u vb ns bk/\(∀k,Px M vs v u vb k->X k)/\∀k,X k->k<w.heap.size
def ext(w w':World)(X:Nat->Prop)(k:Nat):Prop:=X k\/(w.heap.size<=k/\k<w'.heap.size)
def I1{B E f q w v u xs ys}(h:AF B f w v xs)(r:AF E q w u ys)(K:f≠q){k}(A:v.ownBlock=some k):u.ownBlock≠some k:=by
 intro e;obtain⟨c1,J⟩:=Nj (w:=w) h A;obtain⟨I,r⟩:=Nj (w:=w) r e
 grind
section
variable {w:World} {M:Nat} {s:StA} {vs v u vb:Value} {post:List Value} {ns bk:List Int} {X:Nat->Prop}
def Pf.c0(H:Pf w M s vs v u post ns):w.cell? ⟨M,0,none⟩=some vs:=by rw[cell_of_row w M 0 _ _ (0,0) H.fr.blk];rfl
def Pf.c1(H:Pf w M s vs v u post ns):w.cell? ⟨M,1,none⟩=some v:=H.fr.c0
def Em.c4(H:Em w M s vs v u vb ns bk):w.cell? ⟨M,4,none⟩=some (.int .i64 s.as):=by rw[cell_of_row w M 4 _ _ (0,0) H.pf.fr.blk];rfl
def Pf.neS(H:Pf w M s vs v u post ns){k}(f:vs.ownBlock=some k):k≠M:=IN H.st H.fr.blk (show(100:TypeId)≠109 by decide) f
def Pf.sv(H:Pf w M s vs v u post ns){k}(f:vs.ownBlock=some k):v.ownBlock≠some k:=I1 H.st H.fr.own (by decide) f
def Pf.su(H:Pf w M s vs v u post ns){k}(f:vs.ownBlock=some k):u.ownBlock≠some k:=by obtain⟨r,_,q,_⟩:=H.fr.pls;exact I1 H.st q (by decide) f
def Em.sb(H:Em w M s vs v u vb ns bk){k}(f:vs.ownBlock=some k):vb.ownBlock≠some k:=I1 H.pf.st H.bo (by decide) f
def Em.neB(H:Em w M s vs v u vb ns bk){k}(f:vb.ownBlock=some k):k≠M:=IN H.bo H.pf.fr.blk (show(100:TypeId)≠3 by decide) f
def Pf.tch{S w'}(H:Pf w M s vs v u post ns)(f:AD S w w')(q:¬S M)(r:∀k,vs.ownBlock=some k->¬S k)(hv:∀k,v.ownBlock=some k->¬S k)(A:∀k,u.ownBlock=some k->¬S k):Pf w' M s vs v u post ns:=
 ⟨H.fr.tch f q hv A,H.st.tch f r,H.heap,H.ks,H.top⟩
def Em.tch{S w'}(H:Em w M s vs v u vb ns bk)(q:AD S w w')(f:∀k,Px M vs v u vb k->¬S k):Em w' M s vs v u vb ns bk:=
 ⟨H.pf.tch q (f M (.inl rfl)) (λ k h=>f k (.inr (.inl h))) (λ k h=>f k (.inr (.inr (.inl h)))) (λ k h=>f k (.inr (.inr (.inr (.inl h))))),H.bo.tch q (λ k h=>f k (.inr (.inr (.inr (.inr h))))),H.kb,H.a1,H.a2,H.ok⟩
def Pm.tch{S w'}(H:Pm w M s X)(q:AD S w w')(B:∀k,X k->¬S k):Pm w' M s X:=by obtain⟨vs,v,u,vb,ns,bk,h,r,A⟩:=H;exact⟨vs,v,u,vb,ns,bk,h.tch q (λ k f=>B k (r k f)),r,λ k f=>Ao (A k f) q.size⟩
def Pm.ok(H:Pm w M s X):SokA s:=by obtain⟨_,_,_,_,_,_,h,_⟩:=H;exact h.ok
def Pm.lt(H:Pm w M s X):∀k,X k->k<w.heap.size:=by obtain⟨_,_,_,_,_,_,_,_,h⟩:=H;exact h
def Pm.made{w' s' A B J E}(q:∀k,Px M vs v u vb k->X k)(L:∀k,X k->k<w.heap.size)(H:Em w' M s' vs A u B J E)(hv:∀k,A.ownBlock=some k->v.ownBlock=some k\/w.heap.size<=k)(K:∀k,B.ownBlock=some k->vb.ownBlock=some k\/w.heap.size<=k)(I:AD (Px M vs v u vb) w w'):Pm w' M s' (ext w w' X)/\AD X w w':=by
 refine⟨⟨vs,A,u,B,J,E,H,λ k r=>?_,λ k r=>?_⟩,I.mono (λ k _ e=>q k e)⟩;rcases r with e|e|e|e|e;exact .inl (q k (.inl e));exact .inl (q k (.inr (.inl e)));rcases hv k e with f|f;exact .inl (q k (.inr (.inr (.inl f))));exact .inr ⟨f,H.pf.fr.own.lt k e⟩;exact .inl (q k (.inr (.inr (.inr (.inl e)))));rcases K k e with f|f;exact .inl (q k (.inr (.inr (.inr (.inr f)))));exact .inr ⟨f,H.bo.lt k e⟩
 .rcases r with e|⟨_,e⟩
  .exact Ao (L k e) I.size
  .exact e
end
def AGT(M s vs v u post ns n w)(H:Pf w M s vs v u post ns):
 Calls prog 43 #[.pointer (some ⟨M,0,none⟩),.int .i64 n] w λ e w'=>e=.returned (.int .u8 (stvA s n+1))/\w'=w:=by
 have f:=H.c0;have r:=H.st;have J:=H.top;obtain⟨a,cap,A,E,U,_⟩:=r.rd;have q:=Vp s.lo s.L;by_cases O:n<0
 .have e:stvA s n=-1:=QS (.inl (by omega));rw[e];rw[A]at f;clear A r E q H e J
  go_enter func43,ntmps43
  go_wp2_with fail;go_ret;simp
 .obtain⟨t,rfl⟩:∃t:Nat,n=t:=⟨n.toNat,by omega⟩
  by_cases B:t<s.lo+s.L.length
  .obtain⟨g,Z,rfl,hg,T,X,hc,_⟩:=r.shape (by omega);have K:=hc t (by omega);have e:(D9 s.lo s.L).getD t 0=stvA s t+1:=AGl s t B;rw[e]at K;rw[q]at f T;obtain⟨m,I⟩:=exH (s.lo+s.L.length);obtain⟨z,Y⟩:=exH (stvA s t+1);rw[I.o]at f T B;rw[Y.o]at K |-
   (have W:decide (m<=t)=false:=by simp;omega);unfold maxLen at X;clear A r E q H e U hc J O
   go_enter func43,ntmps43
   go_wp2_with fail;go_ret;simp
  .have e:stvA s t=-1:=QS (.inr (by omega));rw[e];rw[A,q]at f;obtain⟨m,I⟩:=exH (s.lo+s.L.length);rw[I.o]at f B;(have W:decide (m<=t)=true:=by simp;omega);clear A r E q H e U J O
   go_enter func43,ntmps43
   go_wp2_with fail;go_ret;simp
abbrev mp(M:Nat):Value:=.pointer (some ⟨M,0,none⟩)
def AAJ(M s vs v u vb ns bk w)(H:Em w M s vs v u vb ns bk):
 Calls prog 10 #[mp M] w λ e w'=>e=.returned (.int .i64 (fre s))/\∃q,w'=w.drewN q:=by
 have c1:=H.pf.c1;have B:=H.c4;obtain⟨a,cap,rfl⟩:=H.pf.fr.len;have A:=H.pf.ks.len;have E:=List.count_le_length (a:=(0:Int)) (l:=s.L);have I:=H.pf.top;have r:=H.ok.aside;have f:Hid ((ns.length:Int)-s.as=fre s):=by show _=_;unfold fre;omega
 obtain⟨m,K⟩:=exH ns.length;obtain⟨b,J⟩:=exH s.as;rw[K.o]at A c1 f;rw[J.o]at B r f;have O:b<=m:=by omega
 have T:m<=65536:=by omega
 rw[<-f.o];clear A E I r H f
 go_enter func10,ntmps10
 go_wp2_with fail;go_quiet ((go_at_call 37;exact Calls.quiet_of_same (KI M 1 a m cap _ c1)));go_wp2_with fail;go_ret;exact⟨rfl,_,rfl⟩
def AAI(M s X w)(H:Pm w M s X):
 Calls prog 10 #[mp M] w λ e w'=>e=.returned (.int .i64 (fre s))/\∃q,w'=w.drewN q:=by
 obtain⟨vs,v,u,vb,ns,bk,h,_⟩:=H;exact AAJ M s vs v u vb ns bk w h
def Pf.post{w M s vs v u post ns}(H:Pf w M s vs v u post ns)(j x):Pf (w.setCell ⟨M,3+j,none⟩ x) M s vs v u (post.set j x) ns:=by
 have T:AD (λ k=>k=M) w (w.setCell ⟨M,3+j,none⟩ x):=AD.setCell (AD.refl (λ k=>k=M) w) (p:=⟨M,3+j,none⟩) (λ _=>rfl) _;obtain⟨B,q,r,A⟩:=H.fr.pls;refine⟨⟨?_,H.fr.ht,H.fr.own.tch T (λ k f e=>H.fr.ne f e),⟨B,q,r.tch T (λ k f e=>H.fr.neu f e),A⟩,H.fr.ap⟩,H.st.tch T (λ k f e=>H.neS f e),H.heap,H.ks,H.top⟩;rw[heap_setCell_same w M (3+j) _ _ _ H.fr.blk]
 grind
def WH{w w' M vs v u vb}(f:AD (λ k=>k=M\/vs.ownBlock=some k\/v.ownBlock=some k\/u.ownBlock=some k) w w'):AD (Px M vs v u vb) w w':=f.mono (λ k _ e=>by
 rcases e with e|e|e|e;exact .inl e;exact .inr (.inl e);exact .inr (.inr (.inl e))
 .exact .inr (.inr (.inr (.inl e))))
def AGR{w M post g m cap v u Lp f ns L}(F:Fr w ⟨M,100,[.slice (some ⟨g,0,none⟩) m cap],post⟩ v u Lp ns)(O:Gy w (.slice (some ⟨g,0,none⟩) m cap) (D9 f L))(i y x)(B:x=y+1):
 Fr (w.setCell ⟨g,f+i,none⟩ (.int .u8 x)) ⟨M,100,[.slice (some ⟨g,0,none⟩) m cap],post⟩ v u Lp ns/\Gy (w.setCell ⟨g,f+i,none⟩ (.int .u8 x)) (.slice (some ⟨g,0,none⟩) m cap) (D9 f (L.set i y))/\AD (λ k=>k=g) w (w.setCell ⟨g,f+i,none⟩ (.int .u8 x)):=by
 subst B;have T:AD (λ k=>k=g) w (w.setCell ⟨g,f+i,none⟩ (.int .u8 (y+1))):=AD.setCell (AD.refl (λ k=>k=g) w) (p:=⟨g,f+i,none⟩) (λ _=>rfl) _;have q:=IN O F.blk (show(100:TypeId)≠109 by decide) rfl;obtain⟨E,_,A,_⟩:=F.pls;refine⟨F.tch T (λ e=>q e.symm) (λ k r e=>I1 O F.own (by decide) (k:=g) rfl (by grind)) (λ k r e=>I1 O A (by decide) (k:=g) rfl (by grind)),?_,T⟩;rw[<-AGm];exact O.set (f+i) (y+1)
def ADG{w M s vs v u post ns}(H:Pf w M s vs v u post ns):ns.length<=65536:=by have f:=H.ks.len;have q:=List.count_le_length (a:=(0:Int)) (l:=s.L);have:=H.top;omega
def ACE{s ns}(k:Ks 0 s ns)(h:Bu ns ns.length)(f:s.L.count 0≠0):GA ns 0=((s.lo+s.L.idxOf 0:Nat):Int):=by
 obtain⟨r,E,K⟩:=first0 f;have B:0<ns.length:=by rw[k.len];omega
 obtain⟨i,O,e,J⟩:=k.idx (Int.le_refl _) (XE B);have A:=(k.mem _).2 (by rw[stv_in r];exact E);obtain⟨j,q,I⟩:=ACu A;have:=h.least j q
 grind
def AHS(M s X w)(H:Pm w M s X):
 Calls prog 99 #[mp M] w λ e w'=>e=.returned (.tuple #[.int .i64 (take s).1,.bool (take s).2.1])/\Pm w' M (take s).2.2 (ext w w' X)/\AD X w w':=by
 obtain⟨vs,v,u,vb,ns,bk,h,hx,hl⟩:=H;have f:=z6 h;have Z:=z6 hx;have HL:=z6 hl;obtain⟨av,a3,aq⟩:=h.pf.fr.len;have W:Hid (w.cell? ⟨M,1,none⟩=some (.slice av ns.length a3)):=by rw[<-aq];exact h.pf.c1
 have ap:=h.pf.ks.len;clear aq;by_cases I:s.L.count 0=0
 .have J:take s=(0,false,s):=by unfold take;rw[if_pos I]
  rw[J];have HN:Hid (ns.length=0):=by show _=_;omega
  clear I J h hx hl ap;simp only;rw[HN.o]at W
  go_enter func99,ntmps99
  go_wp2_with fail;refine(KI M 1 av 0 a3 w W.o).mono ?_;rintro e w1 ⟨rfl,rfl⟩;go_wp2_with fail;go_ret2;exact⟨rfl,Pm.made Z.o HL.o f.o (λ _ e=>.inl e) (λ _ e=>.inl e) (AD.refl _ _)⟩
 .have ok:=take_okA h.ok;have a6:=ACE h.pf.ks h.pf.heap I;obtain⟨hi,a4,_⟩:=first0 I;obtain⟨i,ao⟩:=exH (s.L.idxOf 0);have J:take s=(((s.lo+i:Nat):Int),true,⟨s.lo,s.L.set i 1,s.as-1⟩):=by unfold take;rw[if_neg I,ao.o]
  rw[J]at ok |-
  rw[ao.o]at a6 hi a4;have af:=z6 ok;have Y:Hid (i<s.L.length/\GA s.L i=0):=⟨hi,a4⟩
  have a5:=Vp s.lo s.L;obtain⟨g,cap,rfl,hg,ax,b0,hc,fz⟩:=h.pf.st.shape (by rw[a5];omega);obtain⟨t,K⟩:=exH (s.lo+i);obtain⟨m,hm⟩:=exH ((D9 s.lo s.L).length);have b2:t<m:=by rw[<-K.o,<-hm.o,a5];omega
  have ar:Hid (GA ns 0=t):=by rw[<-K.o];exact a6
  obtain⟨O,a7⟩:∃O,ns.length=O+1:=⟨ns.length-1,by omega⟩
  have ae:=z6 a7;have au:=ADG h.pf;rw[a7]at W au;rw[K.o];rw[hm.o]at ax f Z;have gM:=h.pf.neS rfl;obtain⟨r,a0⟩:=exH s.as;have b7:r<=65536:=by have h2:=List.count_le_length (a:=(0:Int)) (l:=s.L);have:=h.pf.top;have:=h.ok.aside;have:=a0.o;omega
  unfold maxLen at b0;clear ok hi J I h hx hl hc fz a5 a6 a4 ap a7;simp only
  go_enter func99,ntmps99
  go_wp2_with fail;refine(KI M 1 av (O+1) a3 w W.o).mono ?_;rintro e w1 ⟨rfl,rfl⟩;have b9:(((O+1:Nat):Int)==0)=false:=by simp;omega
  go_wp2_with fail;refine(AHI ⟨M,100,[.slice (some ⟨g,0,none⟩) m cap],[vb,.int .i64 s.as]⟩ v u (s.lo+s.L.length) ns O w1 f.o.pf.fr ae.o (by rw[ae.o];omega) f.o.pf.heap).mono ?_;rintro e B ⟨rfl,U,qs,E,an,a8,aa,a9⟩;rw[ar.o]at a8 |-
  have O3:Gy B (.slice (some ⟨g,0,none⟩) m cap) (D9 s.lo s.L):=f.o.pf.st.tch a9 (λ k q e=>by
   rcases e with e|e|e;exact f.o.pf.neS q e;exact f.o.pf.sv q e
   .exact f.o.pf.su q e)
  obtain⟨g',b5,he,az,ay,_,am,ak⟩:=O3.shape (by rw[hm.o];omega);simp only[Value.slice.injEq,Option.some.injEq,Addr.mk.injEq,and_true]at he;obtain⟨rfl,_,rfl⟩:=he;have ct:=am t (by rw[hm.o];exact b2);have ft:=ak t;obtain⟨y0,b3⟩:=exH ((D9 s.lo s.L).getD t 0);rw[b3.o]at ct;have c0:B.cell? ⟨M,0,none⟩=some (.slice (some ⟨g,0,none⟩) m cap):=by rw[cell_of_row B M 0 _ _ (0,0) E.blk];rfl
  have c4:B.cell? ⟨M,4,none⟩=some (.int .i64 r):=by rw[cell_of_row B M 4 _ _ (0,0) E.blk,<-a0.o];rfl
  have f4:=E.fz 4;have HS:Hid (Fr (B.setCell ⟨g,t,none⟩ (.int .u8 2)) ⟨M,100,[.slice (some ⟨g,0,none⟩) m cap],[vb,.int .i64 s.as]⟩ U u (s.lo+s.L.length) qs/\Gy (B.setCell ⟨g,t,none⟩ (.int .u8 2)) (.slice (some ⟨g,0,none⟩) m cap) (D9 s.lo (s.L.set i 1))/\AD (λ k=>k=g) B (B.setCell ⟨g,t,none⟩ (.int .u8 2))):=by have:=AGR E O3 i 1 2 rfl;rw[K.o]at this;exact this
  have hq:=a8;rw[<-K.o]at hq;obtain⟨A,aj⟩:=exH (B.setCell ⟨g,t,none⟩ (.int .u8 2));have hW:=aj.o;rw[aj.o]at HS;obtain⟨F4,O4,T4⟩:=HS.o;have P4:Pf A M ⟨s.lo,s.L.set i 1,s.as-1⟩ (.slice (some ⟨g,0,none⟩) m cap) U u [vb,.int .i64 s.as] qs:=by refine⟨?_,O4,an,(f.o.pf.ks.sub Y.o.1 Y.o.2 (y:=1) (by omega) hq).aside _,by simp only[zo0];exact f.o.pf.top⟩;simp only[zo0];exact F4
  have T:AD (λ k=>k=M\/(Value.slice (some ⟨g,0,none⟩) m cap).ownBlock=some k\/v.ownBlock=some k\/u.ownBlock=some k) w1 A:=by refine((a9.mono (λ k _ e=>?_)).trans T4 (λ k _ e=>.inr (.inl (by rw[e];rfl))));rcases e with e|e|e;exact .inl e;exact .inr (.inr (.inl e));exact .inr (.inr (.inr e))
  have ag:=z6 P4;have HT:=z6 T;have ai:=z6 aa;have ad:Hid (Ks 2 ⟨s.lo,s.L.set i 1,s.as-1⟩ bk):=(f.o.kb.other Y.o.1 (by rw[Y.o.2];omega) (y:=1) (by omega)).aside _;have b4:A.cell? ⟨M,4,none⟩=some (.int .i64 r):=by rw[T4.cell (p:=⟨M,4,none⟩) E.lt (λ e=>gM e.symm)];exact c4
  have b6:A.frozen? ⟨M,4,none⟩=false:=by rw[T4.frozen (p:=⟨M,4,none⟩) E.lt (λ e=>gM e.symm)];exact f4
  have al:ED A vb bk:=f.o.bo.tch T (λ k q e=>by
   rcases e with e|e|e|e;exact f.o.neB q e;exact f.o.sb e q;exact f.o.a1 k q e
   .exact f.o.a2 k q e)
  have ac:=z6 al;have ab:Hid (∀k,vb.ownBlock=some k->U.ownBlock≠some k):=λ k q e=>f.o.a1 k q (by rw[<-aa];exact e);clear E an a8 aa a9 O3 az ay am ak HS F4 O4 T4 P4 T al hq c4 f4;by_cases aw:r=0
  .subst aw;go_wp2_with fail;go_ret2;have P:Em A M ⟨s.lo,s.L.set i 1,s.as-1⟩ (.slice (some ⟨g,0,none⟩) m cap) U u vb qs bk:=by
    refine⟨?_,ac.o,ad.o,ab.o,f.o.a2,af.o⟩;have:=ag.o;rw[a0.o]at this |-
    exact this
   exact⟨rfl,Pm.made Z.o HL.o P (λ k q=>.inl (by rw[<-ai.o];exact q)) (λ _ e=>.inl e) (WH HT.o)⟩
  .have b8:(0:Int)<(r:Int):=by omega
   (have ba:(r:Int)-1=((r-1:Nat):Int):=by omega);go_wp2_with fail;go_ret2;(have e9:(.int .i64 ((r-1:Nat):Int):Value)=.int .i64 ((s.as-1:Nat):Int):=by rw[a0.o]);have T9:AD (λ k=>k=M) A (A.setCell ⟨M,4,none⟩ (.int .i64 ((r-1:Nat):Int))):=AD.setCell (AD.refl (λ k=>k=M) A) (p:=⟨M,4,none⟩) (λ _=>rfl) _;have P:Em (A.setCell ⟨M,4,none⟩ (.int .i64 ((r-1:Nat):Int))) M ⟨s.lo,s.L.set i 1,s.as-1⟩ (.slice (some ⟨g,0,none⟩) m cap) U u vb qs bk:=by
    refine⟨?_,ac.o.tch T9 (λ k q e=>f.o.neB q e),ad.o,ab.o,f.o.a2,af.o⟩;have:=ag.o.post 1 (.int .i64 ((r-1:Nat):Int));rw[e9]at this |-
    exact this
   refine⟨rfl,Pm.made Z.o HL.o P (λ k q=>.inl (by rw[<-ai.o];exact q)) (λ _ e=>.inl e) ?_⟩;exact(WH HT.o).trans T9 (λ k _ e=>.inl e)
end
section
open Go.RowKit Pl
def Uk(v xs n w)(h:Rd .u8 w v xs)(hb:xs.length<=140737488355000)(h0:0<=n)(h1:n<=4294967295):
 Calls prog 123 #[v,.int .i64 n] w λ e w'=>∃B,e=.returned (.tuple #[B,.int .i64 0])/\AF .u8 5 w' B (xs++AQ n)/\AY w w' (.slice none 0 0) B:=by
 have H:=z6 h;clear h
 go_enter func123,ntmps123
 go_wp2_with fail;refine(MB v xs w H.o (by omega)).mono ?_;rintro e w1 ⟨v1,rfl,ho,hg⟩;go_wp2_with fail
 go_loopw [1,6] (λ m r wr=>∃(f:Nat)(q:Int)(done:List Int),m=.int .i64 q/\0<=q/\q<=4294967295/\done.length+f=4/\Hid (q<128 ^ (f+1))/\Hid (done++BV f q=AQ n)/\
  AF .u8 5 wr r (xs++done)/\AY w wr (.slice none 0 0) r) (λ m _ _=>(intOf m).toNat)
 case atStart=>exact⟨4,n,[],rfl,h0,h1,rfl,by show n<128 ^ (4+1);have:(128:Int) ^ (4+1)=34359738368:=(by decide);omega,rfl,by simpa using ho,hg⟩
 case round=>
  obtain⟨f,q,done,rfl,a1,a2,a0,K,J,hO,Z⟩:=hrel;have X:=z6 hO;have W:=z6 Z;clear hO Z ho hg;by_cases Y:128<=q
  .obtain⟨A,rfl⟩:∃A,f=A+1:=by
    cases f with
    | zero=>have:=K.o;simp at this;omega
    | succ A=>exact⟨A,rfl⟩
   (have hp:(128:Int) ^ (A+1+1)=128 ^ (A+1)*128:=Int.pow_succ _ _;(have HQ:Hid (q / 128<128 ^ (A+1)):=by show q / 128<_;have:=K.o;omega);have L:Hid ((done++[q % 128+128])++BV A (q / 128)=AQ n):=by have:=J.o;simp only[BV]at this;rw[if_pos Y]at this;simpa[Hid]using this);clear hp K J;go_wp2_with(at_builtin;refine ET _ rfl (.tmp 18) (.tmp 23) 40 rfl 5 .u8 1 Dd _ (xs++done) rfl X.o (q % 128+128) rfl ?b1 ?b2 ?_)
   (case b1=>simp;omega);(case b2=>simp;omega);intro B U I E;have O:=W.o.trans E;(have T:AF .u8 5 U B (xs++(done++[q % 128+128])):=by simpa using I);clear E I;go_wp2_with fail
   go_roundw
   (case rel=>exact⟨A,q / 128,done++[q % 128+128],rfl,by omega,by omega,by simp;omega,HQ,L,T,O⟩);case measure=>simp[intOf];omega
  .have L:Hid (done++[q]=AQ n):=by
    have:=J.o;cases f with
    | zero=>exact this
    | succ A=>simp only[BV]at this;rw[if_neg Y]at this;exact this
   clear J K;go_wp2_with(at_builtin;refine ET _ rfl (.tmp 27) (.tmp 30) 40 rfl 5 .u8 1 Dd _ (xs++done) rfl X.o q rfl ?c1 ?c2 ?_)
   case c1=>first|omega|(simp;omega)
   case c2=>first|omega|(simp;omega)
   intro B U I E;have O:=W.o.trans E;(have T:AF .u8 5 U B (xs++AQ n):=by rw[<-L.o];simpa using I);clear E I;go_wp2_with fail;go_ret2;exact⟨B,rfl,T,O⟩
end
section
open Go.RowKit Ah
def AHY(M s X n w)(H:Pm w M s X):
 Calls prog 17 #[mp M,.int .i64 n] w λ e w'=>e=.returned (.bool (decide (0<stvA s n)))/\w'=w:=by
 obtain⟨vs,v,u,vb,ns,bk,h,_⟩:=H;have r:=z6 h.pf;have hr:=AGn h.ok n;obtain⟨z,f⟩:=exH (stvA s n+1);have q:Hid (decide (0<stvA s n)=decide (1<z)):=by show _=_;rw[decide_eq_decide];have:=f.o;omega
 rw[q.o];have A:0<=z/\z<=3:=by have:=f.o;omega
 clear h hr q;have B:z=0\/z=1\/z=2\/z=3:=by omega
 clear A
 go_enter func17,ntmps17
 go_wp2_with fail;refine(AGT M s vs v u _ ns n w r.o).mono ?_;rintro e E ⟨rfl,rfl⟩;rw[f.o];clear f r;rcases B with rfl|rfl|rfl|rfl;all_goals
  go_wp2_with fail;go_ret;exact⟨rfl,rfl⟩
end
section
open Go.RowKit Pl
def AFW(w ty v xs n)(a5:AF .i64 3 w v xs)(hn:xs.length+n<=4096):
 ∃v' w',(Builtin.append_ #[23,3] ty #[v,.int .i64 (n:Int)]).run prog w=.ok v' w'/\AF .i64 3 w' v' (xs++List.replicate n 0)/\AY w w' v v':=by
 obtain⟨I,i,B,hz,E,A⟩:=DU;have f:=WW;have hw:IntKind.i64.wrap (n:Int)=(n:Int):=Bp _ (by omega) (by omega);have X:¬((n:Int)<0):=by omega
 have Y:¬(281474976710656<(n:Int)*8):=by omega
 have ho:=a5;have O:=λ w'=>LU (n:Int) w';by_cases K:n=0
 .subst K;refine⟨v,w,?_,by simpa using a5,AY.refl _ _⟩;have a3:=λ w'=>LU 0 w';have a7:IntKind.i64.wrap 0=0:=by rw[Bp _ (by omega) (by omega)]
  rcases ho.2 with⟨rfl,a8⟩|⟨g,cap,r,rfl,hb,U,a4,L,ab,a6⟩
  .simp[Builtin.append_,run_underlying I,run_underlying f,sizeOf,typeInfo,B,E,A,a7,a3]
  .simp[Builtin.append_,run_underlying I,run_underlying f,sizeOf,typeInfo,B,E,A,a7,a3,a4,storeCells]
 .have Z:¬((n:Int)<=0):=by omega
  have a2:∀(cap:Nat),cap<xs.length+n->
   AF .i64 3 (w.drew.alloc (.cells ((xs.map (Value.int .i64)).toArray++(Builtin.zeroCells (Value.int .i64 0).cells n++Builtin.zeroCells (Value.int .i64 0).cells (grownCap w (xs.length+n) cap 3-(xs.length+n)))) 3))
    (.slice (some ⟨w.heap.size,0,none⟩) (xs.length+n) (grownCap w (xs.length+n) cap 3)) (xs++List.replicate n 0)/\
   AY w (w.drew.alloc (.cells ((xs.map (Value.int .i64)).toArray++(Builtin.zeroCells (Value.int .i64 0).cells n++Builtin.zeroCells (Value.int .i64 0).cells (grownCap w (xs.length+n) cap 3-(xs.length+n)))) 3)) v (.slice (some ⟨w.heap.size,0,none⟩) (xs.length+n) (grownCap w (xs.length+n) cap 3)):=by
   intro cap hc;have ad:=grownCap_ge w (xs.length+n) cap 3;have L:=grownCap_le_maxLen w (xs.length+n) cap 3 (by unfold maxLen;omega);(have W:(xs++List.replicate n 0).length=xs.length+n:=by simp);refine⟨?_,⟨rfl,rfl,rfl,by simp,λ k q _=>Below.heap_alloc w.drew _ k q⟩,λ k q=>?_⟩;unfold AF;rw[W];refine⟨by simp,.inr ⟨w.heap.size,_,_,rfl,AI _,heap_alloc_new w.drew _,ad,L,?_,?_⟩⟩;simp only[Array.size_append,List.size_toArray,size_zeroCells,zu0,Value.cells];simp;omega;rw[Js,Js];simp only[Array.toList_append,za1,List.map_replicate];rw[<-zr0];(have:(xs.map (Value.int .i64)++List.replicate n (Value.int .i64 0)).length=(xs.length+n)*1:=by simp);rw[<-this];exact List.take_left
   .simp only[Value.ownBlock,Option.some.injEq]at q;exact .inr (by omega)
  have aa:¬(9223372036854775807<((xs.length:Int)+(n:Int))):=by omega
  rcases ho.2 with⟨rfl,a8⟩|⟨g,cap,r,rfl,hb,U,a4,L,ab,a6⟩
  .have af:xs=[]:=ze0 a8;subst af;obtain⟨g1,J⟩:=a2 0 (by simp;omega);simp only[List.length_nil,Nat.zero_add]at g1 J;(have T:¬(281474976710656<Builtin.nextslicecap n 0*8):=by have:=growslice_fits (old:=0) (need:=n) (bytes:=8) (by omega) (by omega);omega);(have a9:¬(9223372036854775807<(n:Int)):=by omega);refine⟨_,_,?_,g1,J⟩;simp[Builtin.append_,run_underlying I,run_underlying f,sizeOf,typeInfo,zeroValue,B,hz,E,A,hw,O,K,X,Y,Z,a9,T,Question.forced,Builtin.firstCells,loadCells,loadCellsFrom,newRow,grownCap]
  .by_cases a0:xs.length+n<=cap
   .have a1:=run_storeCells_at prog g xs.length 3 (List.replicate n (Value.int .i64 0)) 0 r w U (by simp;omega) (λ u f=>by rw[List.eq_of_mem_replicate f];rfl);simp only[Nat.add_zero]at a1;(have W:(xs++List.replicate n 0).length=xs.length+n:=by simp);refine⟨.slice (some ⟨g,0,none⟩) (xs.length+n) cap,w.setRow g (r.toList.take xs.length++List.replicate n (Value.int .i64 0)++r.toList.drop (xs.length+(List.replicate n (Value.int .i64 0)).length)).toArray,?_,?_,?_⟩;simp[Builtin.append_,run_underlying I,run_underlying f,sizeOf,typeInfo,zeroValue,B,hz,E,A,hw,O,K,X,Y,Z,a0,Js,Addr.add_lit];simp at a1;rw[a1];rfl
    .unfold AF;rw[W];refine⟨by simp,.inr ⟨g,cap,_,rfl,hb,setRow_heap w g r _ 3 _ U,a0,L,?_,?_⟩⟩;simp only[List.size_toArray,zc0,zd0,zg0,Array.length_toList,zm0];omega
     .have ae:r.toList.take xs.length=xs.map (Value.int .i64):=by simpa using a6
      rw[ae,za1,List.map_replicate];(have:(xs.map (Value.int .i64)++List.replicate n (Value.int .i64 0)).length=(xs.length+n)*1:=by simp);rw[<-this];exact List.take_left
    .exact⟨⟨rfl,rfl,rfl,by simp[World.setRow],λ k _ q=>setRow_other w g k _ (λ e=>q (by simp[Value.ownBlock,e]))⟩,λ k q=>.inl q⟩
   .obtain⟨g1,J⟩:=a2 cap (by omega);(have T:¬(281474976710656<Builtin.nextslicecap (xs.length+n) cap*8):=by have:=growslice_fits (old:=cap) (need:=xs.length+n) (bytes:=8) (by omega) (by omega);omega);have ac:=run_firstCells_some (P:=prog) w.drew 1 xs.length ⟨g,0,none⟩ xs.length cap (xs.map (Value.int .i64)) (by simp) (λ j u f=>by
     have:=ho.cells (g:=g) rfl j u f;simpa using this)
    refine⟨_,_,?_,g1,J⟩;simp[Builtin.append_,run_underlying I,run_underlying f,sizeOf,typeInfo,zeroValue,B,hz,E,A,hw,O,K,X,Y,Z,a0,aa,T,Question.forced,ac,newRow,grownCap]
def AII(w){r A o a Q}(J:o.guard=none)(s x)(L:o.op=.call { callee:=.builtin .append,args:=#[s,x],argTypes:=#[23,3] })(v xs)(hs:a.eval s=v)(hown:AF .i64 3 w v xs)(n)(hx:a.eval x=.int .i64 (n:Int))(hn:xs.length+n<=4096)(h:∀f q,AF .i64 3 q f (xs++List.replicate n 0)->AY w q v f->wpList prog r Q A (a.put o.dst f) q):wpList prog r Q (o::A) a w:=by
 obtain⟨f,q,hr,B,E⟩:=AFW w o.type v xs n hown hn;refine wpList_plain J λ K I=>?_;unfold Oper.wp;simp[execOp,L,resolve,invoke,builtin,hs,hx,hr,Result.andThen];exact I _ _ (h f q B E)
def AF.head{k e w g n cap xs}(h:AF k e w (.slice (some ⟨g,0,none⟩) n cap) xs):AF k e w (.slice (some ⟨g,0,none⟩) 0 cap) []:=by
 rcases h.2 with⟨f,_⟩|⟨J,I,q,f,r,B,K,A,E,L⟩
 .cases f
 .cases f;exact⟨rfl,.inr ⟨g,cap,q,rfl,r,B,AI _,A,E,by simp⟩⟩
def AAk(n:Nat)(w)(J:1<=n)(K:n<=4096):
 Calls prog 251 #[.slice none 0 0,.int .i64 n] w λ e w'=>∃r,e=.returned r/\AF .i64 3 w' r []/\AY w w' (.slice none 0 0) r:=by
 go_enter func251,ntmps251
 go_wp2_with(at_builtin;refine AII _ rfl (.tmp 20) (.tmp 21) rfl _ [] rfl (CB _ _ _) n rfl (by simp;omega) ?_)
 intro O I q f;obtain⟨g,cap,hv,_,_,A,_,_⟩:=q.shape (by simp;omega);subst hv;have E:=z6 q.head;have B:Hid (AY w I (.slice none 0 0) (.slice (some ⟨g,0,none⟩) 0 cap)):=⟨f.1,λ k e=>f.2 k e⟩
 have L:cap<=9223372036854775807:=by unfold maxLen at A;omega
 clear q f A;go_wp2_with fail;go_ret;exact⟨_,rfl,E.o,B.o⟩
def ZI(B va vb xs ys w)(ha:Rd .i64 w va xs)(hb:Rd .i64 w vb ys)(h1:1<=xs.length)(h2:xs.length<=1000)(h3:ys.length<=1000)(c0:w.cell? ⟨B,0,none⟩=some va)(c1:w.cell? ⟨B,1,none⟩=some vb):
 Calls prog 227 #[.slice (some ⟨B,0,none⟩) 2 2] w λ e w'=>∃A,e=.returned A/\AF .i64 3 w' A (xs++ys)/\AY w w' (.slice none 0 0) A:=by
 have HA:=z6 ha;have HB:=z6 hb;obtain⟨aa,ac,rfl,_,_,_,_⟩:=ha;obtain⟨ba,bc,rfl,_,_,_,_⟩:=hb;have U:=z6 c0;have W:=z6 c1;obtain⟨X,K⟩:=exH xs.length;obtain⟨Y,hY⟩:=exH ys.length;rw[K.o]at h1 h2 HA U c0;rw[hY.o]at h3 HB W c1
 go_enter func227,ntmps227
 go_wp2_with fail
 go_loop [3,11] (λ s i=>∃k q:Nat,k<=2/\i=.int .i64 k/\s=.int .i64 q/\((k=0/\q=0)\/(k=1/\q=X)\/(k=2/\q=X+Y))) (λ _ i=>2-(intOf i).toNat)
 case atStart=>exact⟨0,0,by omega,rfl,rfl,.inl ⟨rfl,rfl⟩⟩
 case round=>
  obtain⟨k,q,hk,rfl,rfl,a3⟩:=hrel;rcases a3 with⟨rfl,rfl⟩|⟨rfl,rfl⟩|⟨rfl,rfl⟩
  .go_wp2_with fail
   go_round
   (case rel=>exact⟨1,X,by omega,by first|rfl|go_num,by first|rfl|go_num,.inr (.inl ⟨rfl,rfl⟩)⟩);case measure=>simp[intOf]
  .go_wp2_with fail
   go_round
   (case rel=>exact⟨2,q+Y,by omega,by first|rfl|go_num,by first|rfl|go_num,.inr (.inr ⟨rfl,rfl⟩)⟩);case measure=>simp[intOf]
  .have a4:Hid (Calls prog 251 #[.slice none 0 0,.int .i64 ((X+Y:Nat):Int)] w λ e w'=>∃A,e=.returned A/\AF .i64 3 w' A []/\AY w w' (.slice none 0 0) A):=AAk (X+Y) w (by omega) (by omega);clear c0 c1;go_wp2_with fail;refine a4.o.mono ?_;clear a4;rintro e w2 ⟨v2,rfl,a6,a5⟩;have O2:=z6 a6;have G2:=z6 a5;clear a6 a5;go_wp2_with fail
   go_loopw [6,27] (λ r i wr=>∃(k:Nat)(l:List Int),k<=2/\i=.int .i64 k/\((k=0/\Hid (l=[]))\/(k=1/\Hid (l=xs))\/(k=2/\Hid (l=xs++ys)))/\Hid (AF .i64 3 wr r l)/\Hid (AY w wr (.slice none 0 0) r)) (λ _ i _=>2-(intOf i).toNat)
   (case atStart=>exact⟨0,[],by omega,rfl,.inl ⟨rfl,rfl⟩,O2,G2⟩);case round=>
    clear O2 G2;obtain⟨k,l,hk,rfl,a3,J,E⟩:=hrel;have T:=z6 E.o.below.1;rcases a3 with⟨rfl,f⟩|⟨rfl,f⟩|⟨rfl,f⟩
    .have d0:wr.cell? ⟨B,0,none⟩=some (.slice aa X ac):=by rw[T.o.cell (p:=⟨B,0,none⟩) (zb0 w ⟨B,0,none⟩ U.o),U.o]
     have I:=z6 (HA.o.below T.o);go_wp2_with(at_builtin;refine Hr _ rfl (.tmp 31) (.tmp 32) 23 rfl 3 .i64 8 DU _ l rfl J.o _ xs rfl I.o ?a1 ?a2 ?_)
     (case a1=>rw[f.o];simp;rw[K.o];omega);(case a2=>rw[f.o];simp;rw[K.o];omega);intro v3 w3 O L;(have a0:Hid (AF .i64 3 w3 v3 xs):=by have:=O;rw[f.o,List.nil_append]at this;exact this);have Z:=z6 (E.o.trans L);clear O L J E d0 I;go_wp2_with fail
     go_roundw
     (case rel=>exact⟨1,xs,by omega,by first|rfl|go_num,.inr (.inl ⟨rfl,rfl⟩),a0,Z⟩);case measure=>simp[intOf]
    .have d0:wr.cell? ⟨B,1,none⟩=some (.slice ba Y bc):=by rw[T.o.cell (p:=⟨B,1,none⟩) (zb0 w ⟨B,1,none⟩ W.o),W.o]
     have I:=z6 (HB.o.below T.o);go_wp2_with(at_builtin;refine Hr _ rfl (.tmp 31) (.tmp 32) 23 rfl 3 .i64 8 DU _ l rfl J.o _ ys rfl I.o ?a1 ?a2 ?_)
     (case a1=>rw[f.o,K.o,hY.o];omega);(case a2=>rw[f.o,K.o,hY.o];omega);intro v3 w3 O L;(have a0:Hid (AF .i64 3 w3 v3 (xs++ys)):=by have:=O;rw[f.o]at this;exact this);have Z:=z6 (E.o.trans L);clear O L J E d0 I;go_wp2_with fail
     go_roundw
     (case rel=>exact⟨2,xs++ys,by omega,by first|rfl|go_num,.inr (.inr ⟨rfl,rfl⟩),a0,Z⟩);case measure=>simp[intOf]
    .go_wp2_with fail;go_ret;exact⟨_,rfl,by have:=J.o;rw[f.o]at this;exact this,E.o⟩
def dn:Nat->List Int->List Int
 | 0,xs=>xs
 | n+1,xs=>dn n (xs.set (Bh xs xs.length) (xs.getD (Bh xs xs.length) 0-1))
def up:Nat->List Int->List Int
 | 0,xs=>xs
 | n+1,xs=>up n (xs.set (Bh xs xs.length) (xs.getD (Bh xs xs.length) 0+1))
def FL(xs:List Int)(z:Int):List Int:=up (z-Ac xs xs.length).toNat (dn (Ac xs xs.length-z).toNat xs)
def OZ{w g f cap xs}(h:AF .i64 3 w (.slice (some ⟨g,0,none⟩) f cap) xs)(q:0<xs.length):
 f=xs.length/\(∀i,i<xs.length->w.cell? ⟨g,0+i,none⟩=some (.int .i64 (xs.getD i 0)))/\∀i,w.frozen? ⟨g,i,none⟩=false:=by
 obtain⟨A,r,e,_,_,_,hc,B⟩:=h.shape q
 grind
def Z7(g cap xs)(z:Nat)(w)(a8:AF .i64 3 w (.slice (some ⟨g,0,none⟩) xs.length cap) xs)(O:0<xs.length)(h1:xs.length<=64)(hz:z<=512)(Z:∀i,i<xs.length->0<=xs.getD i 0/\xs.getD i 0<=4294967295):
 Calls prog 225 #[.slice (some ⟨g,0,none⟩) xs.length cap,.int .i64 z] w λ e w'=>(∃v,e=.returned v)/\AF .i64 3 w' (.slice (some ⟨g,0,none⟩) xs.length cap) (FL xs z)/\AD (λ k=>k=g) w w':=by
 have HO:=z6 a8;have HB:=z6 Z;have ag:=KD (M:=4294967295) (by omega) Z xs.length (AE _);obtain⟨A,hA⟩:=exH (Ac xs xs.length);rw[hA.o]at ag;have hA2:0<=A/\A<=274877906880:=by omega
 obtain⟨E,a4⟩:=exH xs.length;obtain⟨F,hF⟩:=exH (FL xs z);have HF:Hid (up ((z:Int)-A).toNat (dn (A-z).toNat xs)=F):=by show _=_;rw[<-hF.o];unfold FL;rw[hA.o]
 rw[hF.o];have hs:=Vs g 0 cap xs w h1 Z (OZ a8 O).2.1;rw[hA.o,a4.o]at hs;rw[a4.o]at O h1 HO |-
 clear a8 Z ag
 go_enter func225,ntmps225
 go_wp2_with fail;refine hs.mono ?_;clear hs;rintro e w1 ⟨rfl,rfl⟩;go_wp2_with fail
 go_loopw [4] (λ t wr=>∃(r:Int)(q:List Int),t=.int .i64 r/\0<=r/\r<=274877906880/\Hid (q.length=E)/\Hid (r<=A/\(r=A\/z<=r))/\Hid (dn (r-z).toNat q=dn (A-z).toNat xs)/\Hid (∀i,i<E->-274877906880<=q.getD i 0-r+A/\q.getD i 0<=4294967295)/\Hid (AF .i64 3 wr (.slice (some ⟨g,0,none⟩) E cap) q)/\Hid (AD (λ k=>k=g) w1 wr)) (λ t _=>((intOf t)-z).toNat)
 case atStart=>exact⟨A,xs,rfl,hA2.1,hA2.2,a4,⟨Int.le_refl _,.inl rfl⟩,rfl,λ i L=>by have:=HB.o i (by rw[a4.o];exact L);omega,HO,AD.refl _ _⟩
 case round=>
  obtain⟨r,q,rfl,a9,af,B,a3,HD,J,I,T⟩:=hrel;obtain⟨f,U⟩:=exH (Bh q E);have a0:f<E:=by rw[<-U.o];exact Ip _ _ O
  obtain⟨aa,K,a1⟩:=OZ I.o (by rw[B.o];exact O);clear aa;rw[B.o]at K;obtain⟨y,W⟩:=exH (q.getD f 0);have cy:wr.cell? ⟨g,f,none⟩=some (.int .i64 y):=by have:=K f a0;rw[Nat.zero_add]at this;rw[this,W.o]
  have fy:=a1 f;have Y:=Se g 0 cap q wr (by rw[B.o];exact O) (by rw[B.o];exact h1) (by rw[B.o];exact K);rw[B.o,U.o]at Y;have X:=z6 Y;clear Y;have a2:=J.o f a0;rw[W.o]at a2;clear K a1;by_cases ad:(z:Int)<r
  .go_wp2_with fail;refine X.o.mono ?_;clear X;rintro e w2 ⟨rfl,rfl⟩;have a7:=z6 (I.o.set f (y-1));have T3:Hid (AD (λ k=>k=g) w1 (w2.setCell ⟨g,f,none⟩ (.int .i64 (y-1)))):=AD.setCell T.o (p:=⟨g,f,none⟩) (λ _=>rfl) _;have ai:Hid (dn (r-1-z).toNat (q.set f (y-1))=dn (A-z).toNat xs):=by show _=_;rw[<-HD.o];(have e:(r-z).toNat=(r-1-z).toNat+1:=by omega);rw[e];simp only[dn];rw[B.o,U.o,W.o]
   (have a6:Hid ((q.set f (y-1)).length=E):=by show _=_;rw[zo0];exact B.o);have a5:Hid (∀i,i<E->-274877906880<=(q.set f (y-1)).getD i 0-(r-1)+A/\(q.set f (y-1)).getD i 0<=4294967295):=λ i L=>by have Z:=J.o i L;rw[AP,zy0];by_cases e:f=i;subst e;rw[if_pos rfl,if_pos (by rw[B.o];exact L)];simp only[Option.getD_some];omega;rw[if_neg e,<-AP];omega
   (have ak:(0:Int)<=(f:Int):=by omega);(have al:(f:Int)<(E:Int):=by omega);clear I T HD B J;go_wp2_with fail
   go_roundw
   (case rel=>exact⟨r-1,_,by first|rfl|go_num,by omega,by omega,a6,⟨by have:=a3.o.1;omega,.inr (by omega)⟩,ai,a5,a7,T3⟩);case measure=>simp[intOf];omega
  .have ae:r<=(z:Int):=by omega
   have ac:Hid (up ((z:Int)-r).toNat q=F):=by show _=_;(have e0:(r-(z:Int)).toNat=0:=by omega);have h2:=HD.o;rw[e0]at h2;simp only[dn]at h2;rw[h2,<-HF.o];(have e1:((z:Int)-r).toNat=((z:Int)-A).toNat:=by have:=a3.o;omega);rw[e1]
   (have ab:Hid (∀i,i<E->-549755813760<=q.getD i 0/\q.getD i 0<=4294967295+r):=λ i L=>by have:=J.o i L;have:=a3.o.1;omega);clear X cy fy a2 HD J a3 HF ad U W a0;go_wp2_with fail
   go_loopw [4] (λ t wr=>∃(r:Int)(q:List Int),t=.int .i64 r/\0<=r/\r<=(z:Int)/\Hid (q.length=E)/\Hid (up ((z:Int)-r).toNat q=F)/\Hid (∀i,i<E->-549755813760<=q.getD i 0/\q.getD i 0<=4294967295+r)/\Hid (AF .i64 3 wr (.slice (some ⟨g,0,none⟩) E cap) q)/\Hid (AD (λ k=>k=g) w1 wr)) (λ t _=>((z:Int)-intOf t).toNat)
   (case atStart=>exact⟨r,q,rfl,a9,ae,B,ac,ab,I,T⟩);case round=>
    clear ac ab I T B ae a9 af;obtain⟨r,q,rfl,a9,af,B,HU,J,I,T⟩:=hrel;obtain⟨f,U⟩:=exH (Bh q E);(have a0:f<E:=by rw[<-U.o];exact Ip _ _ O);obtain⟨aa,K,a1⟩:=OZ I.o (by rw[B.o];exact O);clear aa;rw[B.o]at K;obtain⟨y,W⟩:=exH (q.getD f 0);(have cy:wr.cell? ⟨g,f,none⟩=some (.int .i64 y):=by have:=K f a0;rw[Nat.zero_add]at this;rw[this,W.o]);have fy:=a1 f;have Y:=Se g 0 cap q wr (by rw[B.o];exact O) (by rw[B.o];exact h1) (by rw[B.o];exact K);rw[B.o,U.o]at Y;have X:=z6 Y;clear Y;have a2:=J.o f a0;rw[W.o]at a2;clear K a1;by_cases ad:r<(z:Int)
    .go_wp2_with fail;refine X.o.mono ?_;clear X;rintro e w2 ⟨rfl,rfl⟩;have a7:=z6 (I.o.set f (y+1));have T3:Hid (AD (λ k=>k=g) w1 (w2.setCell ⟨g,f,none⟩ (.int .i64 (y+1)))):=AD.setCell T.o (p:=⟨g,f,none⟩) (λ _=>rfl) _;have aj:Hid (up ((z:Int)-(r+1)).toNat (q.set f (y+1))=F):=by show _=_;rw[<-HU.o];(have e:((z:Int)-r).toNat=((z:Int)-(r+1)).toNat+1:=by omega);rw[e];simp only[up];rw[B.o,U.o,W.o]
     (have a6:Hid ((q.set f (y+1)).length=E):=by show _=_;rw[zo0];exact B.o);have a5:Hid (∀i,i<E->-549755813760<=(q.set f (y+1)).getD i 0/\(q.set f (y+1)).getD i 0<=4294967295+(r+1)):=λ i L=>by have Z:=J.o i L;rw[AP,zy0];by_cases e:f=i;subst e;rw[if_pos rfl,if_pos (by rw[B.o];exact L)];simp only[Option.getD_some];omega;rw[if_neg e,<-AP];omega
     (have ak:(0:Int)<=(f:Int):=by omega);(have al:(f:Int)<(E:Int):=by omega);clear I T HU B J;go_wp2_with fail
     go_roundw
     (case rel=>exact⟨r+1,_,by first|rfl|go_num,by omega,by omega,a6,aj,a5,a7,T3⟩);case measure=>simp[intOf];omega
    .obtain rfl:r=(z:Int):=by omega
     (have HE:Hid (q=F):=by show _=_;rw[<-HU.o];simp[up]);clear X cy fy a2;go_wp2_with fail
     go_end0
     exact⟨⟨_,rfl⟩,by rw[<-HE.o];exact I.o,T.o⟩
def FQ(w b o v):AD (λ k=>k=b) w (w.setCell ⟨b,o,none⟩ v):=AD.setCell (AD.refl (λ k=>k=b) w) (p:=⟨b,o,none⟩) (λ _=>rfl) v
def De(dv:Value)(win lk:Int)(h:Nat->Int)(av:Value):List Value:=[dv,.int .i64 win,.int .i64 lk]++(List.range 4096).map (λ i=>.int .i64 (h i))++[av]
def OX(dv win lk h f):(De dv win lk h f).length=4100:=by simp[De]
theorem OR(dv win lk h f):(De dv win lk h f)[0]?=some dv:=rfl
theorem OS(dv win lk h f):(De dv win lk h f)[1]?=some (.int .i64 win):=rfl
theorem OT(dv win lk h f):(De dv win lk h f)[2]?=some (.int .i64 lk):=rfl
def L7(dv win lk h f s)(q:s<4096):(De dv win lk h f)[3+s]?=some (.int .i64 (h s)):=by unfold De;rw[zk0 (by simp;omega),zj0 (by simp)];simp[q]
def OU(dv win lk h f):(De dv win lk h f)[4099]?=some f:=by unfold De;rw[zj0 (by simp)];simp
theorem Z4(dv win lk h f x):(De dv win lk h f).set 2 (.int .i64 x)=De dv win x h f:=rfl
def Ho(h:Nat->Int)(s:Nat)(x:Int)(j:Nat):Int:=if j=s then x else h j
def Z5(dv win lk h f s)(A:s<4096)(x):(De dv win lk h f).set (3+s) (.int .i64 x)=De dv win lk (Ho h s x) f:=by
 apply List.ext_getElem?;intro j;rw[zy0];by_cases e:3+s=j;subst e;rw[if_pos rfl,if_pos (by rw[OX];omega),L7 _ _ _ _ _ _ A];simp[Ho]
 .rw[if_neg e];by_cases q:j<3
  .match j,q with
   | 0,_=>rw[OR,OR]
   | 1,_=>rw[OS,OS]
   | 2,_=>rw[OT,OT]
  .by_cases B:j<4099
   .obtain⟨t,rfl⟩:∃t,j=3+t:=⟨j-3,by omega⟩
    rw[L7 _ _ _ _ _ _ (by omega),L7 _ _ _ _ _ _ (by omega)];simp only[Ho]
    grind
   .by_cases r:j=4099;subst r;rw[OU,OU];rw[zn0 (by rw[OX];omega),zn0 (by rw[OX];omega)]
structure Fd(w:World)(F G n:Nat)(dv:Value)(win lk:Int)(h:Nat->Int)(ad:List Int):Prop where
 blk:w.heap[F]?=some (.cells (De dv win lk h (.slice (some ⟨G,0,none⟩) n n)).toArray 274 (0,0))
 own:AF .i64 3 w (.slice (some ⟨G,0,none⟩) n n) ad
 ne:F≠G
section
variable {w:World} {F G n:Nat} {dv:Value} {win lk:Int} {h:Nat->Int} {ad:List Int}
def Fd.fz(H:Fd w F G n dv win lk h ad)(i):w.frozen? ⟨F,i,none⟩=false:=frozen_of_row w F i _ _ H.blk
def Fd.at_(H:Fd w F G n dv win lk h ad)(i){v}(hv:(De dv win lk h (.slice (some ⟨G,0,none⟩) n n))[i]?=some v):w.cell? ⟨F,i,none⟩=some v:=by
 rw[cell_of_row w F i _ _ (0,0) H.blk]
 grind
def Fd.c0(H:Fd w F G n dv win lk h ad):w.cell? ⟨F,0,none⟩=some dv:=H.at_ 0 (OR _ _ _ _ _)
def Fd.c1(H:Fd w F G n dv win lk h ad):w.cell? ⟨F,1,none⟩=some (.int .i64 win):=H.at_ 1 (OS _ _ _ _ _)
def Fd.c2(H:Fd w F G n dv win lk h ad):w.cell? ⟨F,2,none⟩=some (.int .i64 lk):=H.at_ 2 (OT _ _ _ _ _)
def Fd.ch(H:Fd w F G n dv win lk h ad)(s)(f:s<4096):w.cell? ⟨F,3+s,none⟩=some (.int .i64 (h s)):=H.at_ _ (L7 _ _ _ _ _ _ f)
def Fd.c4(H:Fd w F G n dv win lk h ad):w.cell? ⟨F,4099,none⟩=some (.slice (some ⟨G,0,none⟩) n n):=H.at_ 4099 (OU _ _ _ _ _)
def Fd.lt(H:Fd w F G n dv win lk h ad):F<w.heap.size:=(za0.1 H.blk).1
def Fd.ltG(H:Fd w F G n dv win lk h ad):G<w.heap.size:=H.own.lt G rfl
def Fd.tch{S w'}(H:Fd w F G n dv win lk h ad)(f:AD S w w')(hF:¬S F)(q:¬S G):Fd w' F G n dv win lk h ad:=
 ⟨by rw[f.block F H.lt hF];exact H.blk,H.own.tch f (λ j e=>by simp only[Value.ownBlock,Option.some.injEq]at e;grind),H.ne⟩
def Fd.below{w'}(H:Fd w F G n dv win lk h ad)(f:Below w.heap.size w w'):Fd w' F G n dv win lk h ad:=H.tch (S:=λ _=>False) (AD.of_below f) (λ e=>e) (λ e=>e)
def Fd.setL(H:Fd w F G n dv win lk h ad)(x):Fd (w.setCell ⟨F,2,none⟩ (.int .i64 x)) F G n dv win x h ad:=by refine⟨?_,H.own.tch (S:=λ k=>k=F) (FQ w F 2 _) (λ j e=>?_),H.ne⟩;rw[heap_setCell_same w F 2 _ _ (.int .i64 x) H.blk,<-Z4 dv win lk h _ x];simp;simp only[Value.ownBlock,Option.some.injEq]at e;have:=H.ne;omega
def Fd.setH(H:Fd w F G n dv win lk h ad)(s)(f:s<4096)(x):Fd (w.setCell ⟨F,3+s,none⟩ (.int .i64 x)) F G n dv win lk (Ho h s x) ad:=by refine⟨?_,H.own.tch (S:=λ k=>k=F) (FQ w F (3+s) _) (λ j e=>?_),H.ne⟩;rw[heap_setCell_same w F (3+s) _ _ (.int .i64 x) H.blk,<-Z5 dv win lk h _ s f x];simp;simp only[Value.ownBlock,Option.some.injEq]at e;have:=H.ne;omega
def Fd.setA(H:Fd w F G n dv win lk h ad)(i x):Fd (w.setCell ⟨G,i,none⟩ (.int .i64 x)) F G n dv win lk h (ad.set i x):=by refine⟨?_,H.own.set i x,H.ne⟩;have f:AD (λ k=>k=G) w (w.setCell ⟨G,i,none⟩ (.int .i64 x)):=FQ w G i _;rw[f.block F H.lt (λ e=>H.ne e)];exact H.blk
end
set_option maxRecDepth 1000000 in
theorem YD(a:Option Addr)(n c:Nat)(win:Int)(g m:Nat):prog.built 274 [(0,.slice a n c),(1,.int .i64 win),(4,.slice (some ⟨g,0,none⟩) m m)]=some (De (.slice a n c) win 0 (λ _=>0) (.slice (some ⟨g,0,none⟩) m m)).toArray:=by kernel_rfl
def AIL(w){q r o a Q}(E:o.guard=none)(x y z)(I:o.op=.build 274 #[(0,x),(1,y),(4,z)])(f n c win g m)(J:a.eval x=.slice f n c)(L:a.eval y=.int .i64 win)(O:a.eval z=.slice (some ⟨g,0,none⟩) m m)(h:wpList prog q Q r (a.put o.dst (.agg (De (.slice f n c) win 0 (λ _=>0) (.slice (some ⟨g,0,none⟩) m m)).toArray)) w):wpList prog q Q (o::r) a w:=by
 refine wpList_plain E λ K A=>?_;have B:=run_build (P:=prog) w 274 #[(0,.slice f n c),(1,.int .i64 win),(4,.slice (some ⟨g,0,none⟩) m m)] _ (YD f n c win g m);unfold Oper.wp execOp;simp only[I,Sem.run_bind,List.map_toArray,List.map_cons,List.map_nil,J,L,O,B,Result.andThen_ok];exact A _ _ h
def UL(q n c win w)(X:n<=65536):
 Calls prog 158 #[.slice q n c,.int .i64 win] w λ e w'=>∃F G,e=.returned (.pointer (some ⟨F,0,none⟩))/\Fd w' F G n (.slice q n c) win 0 (λ _=>0) (List.replicate n 0)/\Below w.heap.size w w'/\w.heap.size<=F/\w.heap.size<=G:=by
 obtain⟨U,K,L,O,T⟩:=DU.info
 go_enter func158,ntmps158
 go_wp2_with(at_make;refine wpList_make_full _ rfl (.tmp 8) (.tmp 8) 23 rfl 0 3 U _ 1 underlying23 K L O .i64 .i64 _ _ n rfl rfl rfl rfl (by rw[T];omega) (by unfold maxLen;omega) (AI _) ?_)
 intro f B J;obtain⟨g,A⟩:=exH w.heap.size;have E:Hid (AF .i64 3 f (.slice (some ⟨g,0,none⟩) n n) (List.replicate n 0)):=by show f.ownsRow _ _ _ _ _ _;rw[toList_madeCells_one,A.o]at B;simpa using B
 have r:Hid (Below w.heap.size w f):=(Below.refl _ _).grown J (AE _) (λ k e=>by cases e);rw[A.o];clear B J K L O T;refine AIL _ rfl (.tmp 5) (.tmp 6) (.tmp 9) rfl q n c win g n rfl rfl rfl ?_;obtain⟨W,I⟩:=exH (De (.slice q n c) win 0 (λ _=>0) (.slice (some ⟨g,0,none⟩) n n));rw[I.o];go_wp2_with fail;go_ret;refine⟨f.heap.size,g,rfl,⟨?_,(E.o.below ((Below.refl _ _).alloc (AE _) _)),?_⟩,r.o.trans (((Below.refl _ _).alloc (AE _) _).mono r.o.size),r.o.size,by rw[A.o];exact AE _⟩;rw[I.o];exact heap_alloc_new f _;have:=E.o.lt g rfl;omega
def Jg(x0 x1 x2 x3:Int):Int:=
 bits BinOp.or IntKind.u32 (bits BinOp.or IntKind.u32 (bits BinOp.or IntKind.u32 x0 (x1*256)) (x2*65536)) (x3*16777216)*2654435761 % 4294967296 / 1048576
def VO(f q r A):0<=Jg f q r A/\Jg f q r A<4096:=by unfold Jg;omega
def CD(ds:List Int)(p:Nat):Nat:=(Jg (ds.getD p 0) (ds.getD (p+1) 0) (ds.getD (p+2) 0) (ds.getD (p+3) 0)).toNat
def QD(f p):CD f p<4096:=by have:=VO (f.getD p 0) (f.getD (p+1) 0) (f.getD (p+2) 0) (f.getD (p+3) 0);unfold CD;omega
def AGB(F G n b o c at_ win lk h ad f q r A w)(H:Fd w F G n (.slice (some ⟨b,o,none⟩) n c) win lk h ad)(W:n<=65536)(hc:n<=c)(U:c<=9223372036854775807)(ha:at_+4<=n)(K:w.cell? ⟨b,o+at_,none⟩=some (.int .u8 f))(c1:w.cell? ⟨b,o+at_+1,none⟩=some (.int .u8 q))(L:w.cell? ⟨b,o+at_+2,none⟩=some (.int .u8 r))(c3:w.cell? ⟨b,o+at_+3,none⟩=some (.int .u8 A))(E:0<=f/\f<=255)(b1:0<=q/\q<=255)(I:0<=r/\r<=255)(J:0<=A/\A<=255):
 Calls prog 189 #[.pointer (some ⟨F,0,none⟩),.int .i64 at_] w λ e w'=>e=.returned (.int .i64 (Jg f q r A))/\∃m,w'=w.drewN m:=by
 have O:=H.c0;have B:Hid (Fd w F G n (.slice (some ⟨b,o,none⟩) n c) win lk h ad):=H;clear H;have T:at_<c:=by omega
 go_enter func189,ntmps189
 go_wp2_with fail;go_quiet (fail);go_wp2_with fail;go_ret;exact⟨rfl,_,rfl⟩
def Dt(w:World)(b o n:Nat)(ds:List Int):Prop:=n=ds.length/\By ds/\∀i,i<n->w.cell? ⟨b,o+i,none⟩=some (.int .u8 (ds.getD i 0))
def Dt.below{w w' b o n f}(h:Dt w b o n f)(r:Below w.heap.size w w'):Dt w' b o n f:=
 ⟨h.1,h.2.1,λ i A=>by have q:=h.2.2 i A;rw[r.cell (p:=⟨b,o+i,none⟩) (zb0 w ⟨b,o+i,none⟩ q),q]⟩
def Dt.tch{S w w' b o n f}(h:Dt w b o n f)(r:AD S w w')(B:¬S b):Dt w' b o n f:=
 ⟨h.1,h.2.1,λ i A=>by have q:=h.2.2 i A;rw[r.cell (p:=⟨b,o+i,none⟩) (zb0 w ⟨b,o+i,none⟩ q) B,q]⟩
def VT(F G n b o c at_ win lk h ad f w)(H:Fd w F G n (.slice (some ⟨b,o,none⟩) n c) win lk h ad)(D:Dt w b o n f)(r:n<=65536)(hc:n<=c)(q:c<=9223372036854775807)(ha:at_+4<=n):
 Calls prog 189 #[.pointer (some ⟨F,0,none⟩),.int .i64 at_] w λ e w'=>e=.returned (.int .i64 (CD f at_))/\∃m,w'=w.drewN m:=by
 have e:((CD f at_:Nat):Int)=Jg (f.getD at_ 0) (f.getD (at_+1) 0) (f.getD (at_+2) 0) (f.getD (at_+3) 0):=by have:=VO (f.getD at_ 0) (f.getD (at_+1) 0) (f.getD (at_+2) 0) (f.getD (at_+3) 0);unfold CD;omega
 rw[e];exact AGB F G n b o c at_ win lk h ad _ _ _ _ w H r hc q ha (D.2.2 _ (by omega)) (D.2.2 (at_+1) (by omega)) (D.2.2 (at_+2) (by omega)) (D.2.2 (at_+3) (by omega)) (D.2.1 _) (D.2.1 _) (D.2.1 _) (D.2.1 _)
def rn(ds:List Int)(p q:Nat):Nat->Nat
 | 0=>0
 | m+1=>if rn ds p q m=m/\ds.getD (p+m) 0=ds.getD (q+m) 0 then m+1 else rn ds p q m
def I4(f:List Int)(p q:Nat):∀m,rn f p q m<=m
 | 0=>AE _
 | m+1=>by
  have:=I4 f p q m;simp only[rn]
  grind
def Gl(f:List Int)(p q:Nat):∀m j,j<rn f p q m->f.getD (p+j) 0=f.getD (q+j) 0
 | 0,j,h=>by simp[rn]at h
 | m+1,j,h=>by
  simp only[rn]at h;split at h
  .rename_i h1;by_cases e:j=m
   .grind
   .exact Gl f p q m j (by omega)
  .exact Gl f p q m j h
def Pi(f:List Int)(p q:Nat):∀m,rn f p q m<m->f.getD (p+rn f p q m) 0≠f.getD (q+rn f p q m) 0
 | 0,h=>by omega
 | m+1,h=>by
  simp only[rn]at h |-
  split at h;omega
  .rename_i h1;rw[if_neg h1];by_cases e:rn f p q m=m
   .grind
   .exact Pi f p q m (by omega)
def Pj(f p q m n)(E:n<=m)(r:∀j,j<n->f.getD (p+j) 0=f.getD (q+j) 0)(A:n<m->f.getD (p+n) 0≠f.getD (q+n) 0):rn f p q m=n:=by have B:=I4 f p q m;rcases Nat.lt_trichotomy (rn f p q m) n with e|e|e;exact absurd (r _ e) (Pi f p q m (by omega));exact e;exact absurd (Gl f p q m n e) (A (by omega))
def AFH(f p q m):rn f p q m=rn f q p m:=
 Pj f p q m _ (I4 _ _ _ _) (λ j r=>(Gl f q p m j r).symm) (λ h e=>Pi f q p m h e.symm)
def ml(ds:List Int)(i:Nat):Nat:=min 259 (ds.length-i)
def BZ(ds:List Int)(i:Nat):Nat->Nat×Nat
 | 0=>(0,0)
 | d+1=>if 4<=rn ds i (i-(d+1)) (ml ds i)/\(BZ ds i d).1<rn ds i (i-(d+1)) (ml ds i)then(rn ds i (i-(d+1)) (ml ds i),d+1)else BZ ds i d
def RP(f:List Int)(i:Nat):∀d,(BZ f i d).1<=ml f i
 | 0=>AI _
 | d+1=>by simp only[BZ];split;exact I4 _ _ _ _;exact RP f i d
def Lf(f i){d e}(h:d<=e)(r:∀t,d<t->t<=e->rn f i (i-t) (ml f i)<4\/rn f i (i-t) (ml f i)<=(BZ f i d).1):BZ f i e=BZ f i d:=by
 induction e with
 | zero=>grind
 | succ e A=>
  by_cases c:d=e+1;rw[c]
  .have q:=A (by omega) (λ t q B=>r t q (by omega));simp only[BZ]
   grind
def best(ds:List Int)(win i:Nat):Nat×Nat:=BZ ds i (min win i)
def pv(ds:List Int)(s:Nat):Nat->Nat
 | 0=>0
 | k+1=>if CD ds k=s then k+1 else pv ds s k
def Ki(f:List Int)(s:Nat):∀k,pv f s k<=k
 | 0=>AE _
 | k+1=>by have:=Ki f s k;simp only[pv];split<;>omega
def Pa(f:List Int)(s:Nat):∀k,0<pv f s k->CD f (pv f s k-1)=s
 | 0,h=>by simp[pv]at h
 | k+1,h=>by
  simp only[pv]at h |-
  split at h;simp_all;rename_i h1;rw[if_neg h1];exact Pa f s k h
def PX(f:List Int)(s:Nat):∀k q,pv f s k<=q->q<k->CD f q≠s
 | 0,q,_,h=>by omega
 | k+1,q,h,h2=>by
  simp only[pv]at h;split at h;omega
  .rename_i h1;by_cases e:q=k
   .grind
   .exact PX f s k q h (by omega)
def Uz(f i q m)(h:CD f q≠CD f i):rn f i q m<4:=by
 rcases Nat.lt_or_ge (rn f i q m) 4 with e|e;exact e
 .exfalso;apply h;have r:=Gl f i q m 0 (by omega);have A:=Gl f i q m 1 (by omega);have B:=Gl f i q m 2 (by omega);have E:=Gl f i q m 3 (by omega);rw[Nat.add_zero,Nat.add_zero]at r;unfold CD
  grind
def Xq(f win i k)(A:k<i)(E:i-k<=win):BZ f i (min win (i-pv f (CD f i) k))=BZ f i (i-k):=by have B:=Ki f (CD f i) k;refine Lf f i (by omega) (λ t q r=>.inl (Uz f i (i-t) _ ?_));exact PX f (CD f i) k (i-t) (by omega) (by omega)
def Xu(f win i):BZ f i (min win (i-pv f (CD f i) i))=(0,0):=by have A:=Ki f (CD f i) i;have:=Lf f i (d:=0) (e:=min win (i-pv f (CD f i) i)) (AI _) (λ t q r=>.inl (Uz f i (i-t) _ (PX f (CD f i) i (i-t) (by omega) (by omega))));rw[this];rfl
def AAL(F G n b o c p q m win lk h ad f w)(H:Fd w F G n (.slice (some ⟨b,o,none⟩) n c) win lk h ad)(D:Dt w b o n f)(hn:n<=65536)(hp:p+m<=n)(hq:q+m<=n):
 Calls prog 190 #[.pointer (some ⟨F,0,none⟩),.int .i64 p,.int .i64 q,.int .i64 m] w λ e w'=>e=.returned (.int .i64 (rn f p q m))/\Below w.heap.size w w':=by
 have W:Hid (Fd w F G n (.slice (some ⟨b,o,none⟩) n c) win lk h ad):=H;have T:Hid (Dt w b o n f):=D;clear H D;obtain⟨R,J⟩:=exH (rn f p q m);rw[J.o]
 go_enter func190,ntmps190
 go_wp2_with fail
 go_loopw [9] (λ i wr=>∃k:Nat,k<=m/\i=.int .i64 k/\Hid (∀j,j<k->f.getD (p+j) 0=f.getD (q+j) 0)/\Hid (Below w.heap.size w wr)) (λ i _=>m-(intOf i).toNat)
 case atStart=>exact⟨0,AI _,rfl,λ j Y=>by omega,Below.refl _ _⟩
 case round=>
  obtain⟨k,O,rfl,B,A⟩:=hrel;by_cases a0:k<m
  .have g1:decide ((k:Int)<(m:Int))=true:=by rw[zg1];omega
   have d0:=(W.o.below A.o).c0;have I:=T.o.below A.o;obtain⟨x,K⟩:=exH (f.getD (p+k) 0);obtain⟨y,L⟩:=exH (f.getD (q+k) 0);(have Z:wr.cell? ⟨b,o+(p+k),none⟩=some (.int .u8 x):=by rw[I.2.2 (p+k) (by omega),K.o]);(have cy:wr.cell? ⟨b,o+(q+k),none⟩=some (.int .u8 y):=by rw[I.2.2 (q+k) (by omega),L.o]);clear I;by_cases r:x=y
   .have X:(x==y)=true:=by simp[r]
    (have U:Hid (∀j,j<k+1->f.getD (p+j) 0=f.getD (q+j) 0):=λ j Y=>by by_cases e:j=k;rw[e,K.o,L.o];exact r;exact B.o j (by omega));clear r;go_wp2_with fail;go_quiet (fail);go_wp2_with fail
    go_roundw
    (case rel=>exact⟨k+1,by omega,by go_num,U,A.o.trans (Below.of_drewN _ _ _)⟩);case measure=>simp[intOf];omega
   .have X:(x==y)=false:=by simp[r]
    (have E:Hid (R=k):=by show R=k;rw[<-J.o];exact Pj f p q m k O B.o (λ _=>by rw[K.o,L.o];exact r));clear r;go_wp2_with fail;go_quiet (fail);go_wp2_with fail;go_ret;exact⟨by rw[E.o];rfl,A.o.trans (Below.of_drewN _ _ _)⟩
  .obtain rfl:k=m:=by omega
   (have g1:decide ((k:Int)<(k:Int))=false:=by simp);have E:Hid (R=k):=by show R=k;rw[<-J.o];exact Pj f p q k k O B.o (λ h=>by omega)
   go_wp2_with fail;go_quiet (fail);go_wp2_with fail;go_ret;exact⟨by rw[E.o];rfl,A.o.trans (Below.of_drewN _ _ _)⟩
def Lk(ds:List Int)(k:Nat)(h:Nat->Int)(ad:List Int):Prop:=(∀s,s<4096->h s=(pv ds s k:Int))/\∀p,p<k->ad.getD p 0=(pv ds (CD ds p) p:Int)
def Lk.step{f k h ad}(H:Lk f k h ad)(r:k<ad.length):Lk f (k+1) (Ho h (CD f k) ((k:Int)+1)) (ad.set k (h (CD f k))):=by refine⟨λ s A=>?_,λ p B=>?_⟩;simp only[Ho,pv];by_cases e:s=CD f k;simp_all;rw[if_neg e,if_neg (λ q=>e q.symm)];exact H.1 s A;rw[AP,zy0];by_cases e:k=p;subst e;rw[if_pos rfl,if_pos r];exact H.1 _ (QD _ _);rw[if_neg e,<-AP];exact H.2 p (by omega)
def ACP(F G n b o c at_ K:Nat)(win h ad r w)(H:Fd w F G n (.slice (some ⟨b,o,none⟩) n c) win K h ad)(D:Dt w b o n r)(L:Lk r K h ad)(hb:b≠F/\b≠G)(a1:ad.length=n)(hn:n<=65536)(hc:n<=c)(a6:c<=9223372036854775807)(ha:at_+4<=n)(h0:K<=at_):
 Calls prog 188 #[.pointer (some ⟨F,0,none⟩),.int .i64 at_] w λ e w'=>(∃v,e=.returned v)/\(∃h ad,Fd w' F G n (.slice (some ⟨b,o,none⟩) n c) win at_ h ad/\Lk r at_ h ad/\ad.length=n)/\AD (λ j=>j=F\/j=G) w w':=by
 have q:=z6 H;have HD:=z6 D;have E:=z6 L;have f:=z6 a1;have a4:=z6 hb;clear H D L hb a1
 go_enter func188,ntmps188
 go_wp2_with fail
 go_loopw [4] (λ s wr=>∃(k:Nat)(h:Nat->Int)(ad:List Int),k<=at_/\Hid (Fd wr F G n (.slice (some ⟨b,o,none⟩) n c) win k h ad)/\Hid (Lk r k h ad)/\Hid (ad.length=n)/\Hid (AD (λ j=>j=F\/j=G) w wr)) (λ _ wr=>at_-(intOf ((wr.cell? ⟨F,2,none⟩).getD undef)).toNat)
 case atStart=>exact⟨K,h,ad,h0,q,E,f,AD.refl _ _⟩
 case round=>
  clear q E f;obtain⟨k,h,ad,hk,q,E,f,J⟩:=hrel;have c2:=q.o.c2;have a5:=z6 c2;by_cases aa:k<at_
  .obtain⟨s,W⟩:=exH (CD r k);(have X:s<4096:=by rw[<-W.o];exact QD _ _);have a0:Hid (Calls prog 189 #[.pointer (some ⟨F,0,none⟩),.int .i64 k] wr λ e w'=>e=.returned (.int .i64 s)/\∃m,w'=wr.drewN m):=by have:=VT F G n b o c k win k h ad r wr q.o (HD.o.tch J.o (λ e=>by have:=a4.o;rcases e with e|e<;>simp[e]at this)) hn hc a6 (by omega);rw[W.o]at this;exact this
   go_wp2_with fail;refine a0.o.mono ?_;clear a0;rintro e O ⟨rfl,q2,a2⟩;(have U:Below wr.heap.size wr O:=by rw[a2];exact Below.of_drewN _ _ _);clear a2;have A:=z6 (q.o.below U);have T2:Hid (AD (λ j=>j=F\/j=G) w O):=J.o.trans (AD.of_below (S:=λ j=>j=F\/j=G) U) (λ _ _ e=>e);have e2:=A.o.c2;have e4:=A.o.c4;obtain⟨x,hx⟩:=exH (h s);have eh:=A.o.ch s X;rw[hx.o]at eh;obtain⟨_,_,e3,_,_,_,q3,f3⟩:=A.o.own.shape (by rw[f.o];omega);rw[f.o]at e3;cases e3;have ek:=q3 k (by rw[f.o];omega);obtain⟨y0,a3⟩:=exN (ad.getD k 0);rw[a3]at ek;have fk:=f3 k;(have a9:(k:Int)<(n:Int):=by omega);(have ab:(s:Int)<4096:=by omega);clear U q3 f3 a3 c2 q J;go_wp2_with fail
   go_region
   have B:=z6 ((A.o.setA k x).below ((Below.refl _ _).drew));have T:Hid (AD (λ j=>j=F\/j=G) w (O.setCell ⟨G,k,none⟩ (.int .i64 x)).drew):=(AD.setCell T2.o (p:=⟨G,k,none⟩) (λ _=>.inr rfl) _).drew;obtain⟨Y,a7⟩:=exH ((O.setCell ⟨G,k,none⟩ (.int .i64 x)).drew);rw[a7.o]at B T |-
   have r2:=B.o.c2;have rh:=B.o.ch s X;have rf:=B.o.fz (3+s);clear e2 e4 eh ek fk A T2;go_wp2_with fail
   go_region
   have I:Hid (Fd (Y.setCell ⟨F,3+s,none⟩ (.int .i64 ((k:Int)+1))).drew F G n (.slice (some ⟨b,o,none⟩) n c) win k (Ho h s ((k:Int)+1)) (ad.set k x)):=(B.o.setH s X _).below ((Below.refl _ _).drew);have T4:Hid (AD (λ j=>j=F\/j=G) w (Y.setCell ⟨F,3+s,none⟩ (.int .i64 ((k:Int)+1))).drew):=(AD.setCell T.o (p:=⟨F,3+s,none⟩) (λ _=>.inl rfl) _).drew;obtain⟨w4,a8⟩:=exH ((Y.setCell ⟨F,3+s,none⟩ (.int .i64 ((k:Int)+1))).drew);rw[a8.o]at I T4 |-
   (have s2:=I.o.c2;have sf:=I.o.fz 2;clear r2 rh rf B T;go_wp2_with fail;have Z:Hid (Fd (w4.setCell ⟨F,2,none⟩ (.int .i64 ((k:Int)+1))) F G n (.slice (some ⟨b,o,none⟩) n c) win ((k:Int)+1) (Ho h s ((k:Int)+1)) (ad.set k x)):=I.o.setL _;have T5:Hid (AD (λ j=>j=F\/j=G) w (w4.setCell ⟨F,2,none⟩ (.int .i64 ((k:Int)+1)))):=AD.setCell T4.o (p:=⟨F,2,none⟩) (λ _=>.inl rfl) _;have L5:Hid (Lk r (k+1) (Ho h s ((k:Int)+1)) (ad.set k x)):=by have:=E.o.step (by rw[f.o];omega);rw[W.o,hx.o]at this;exact this);have t2:=Z.o.c2
   go_roundw
   (case rel=>exact⟨k+1,_,_,by omega,by push_cast;exact Z,L5,by show _=_;rw[zo0];exact f.o,T5⟩);case measure=>rw[t2,a5.o];simp only[Option.getD_some,intOf];omega
  .obtain rfl:k=at_:=by omega
   go_wp2_with fail
   go_end0
   exact⟨⟨_,rfl⟩,⟨h,ad,q.o,E.o,f.o⟩,J.o⟩
def ACQ{f ps k at_ A}(r:k<ps.length)(h:Bj f ps k=some (at_,A))(B:(ps.getD k AR).1<0\/(ps.getD k AR).2.1<0\/(ps.getD k AR).2.2<0\/(f.length:Int)-(at_:Int)<(ps.getD k AR).1\/(f.length:Int)-(at_:Int)-(ps.getD k AR).1<(ps.getD k AR).2.1):GH f ps=(5,[]):=by
 have q:Bj f ps (k+1)=none:=by
  simp only[Bj]
  grind
 unfold GH;rw[ACa q r]
def ACZ{f ps k at_ q}(h:Bj f ps k=some (at_,q))(r:¬((ps.getD k AR).1<0\/(ps.getD k AR).2.1<0\/(ps.getD k AR).2.2<0\/(f.length:Int)-(at_:Int)<(ps.getD k AR).1\/(f.length:Int)-(at_:Int)-(ps.getD k AR).1<(ps.getD k AR).2.1)):
 Bj f ps (k+1)=some (at_+(ps.getD k AR).1.toNat+(ps.getD k AR).2.1.toNat,q++(f.drop at_).take (ps.getD k AR).1.toNat):=by
 simp only[Bj]
 grind
def ACU(v1 v2 f ps w)(J:Rd .u8 w v1 f)(hl:f.length<=140737488351232)(U:RdS w v2 ps)(hp:ps.length<=140737488355328):
 Calls prog 127 #[v1,v2] w λ e w'=>EV (GH f ps) w e w':=by
 obtain⟨R,hR⟩:=exH (GH f ps);rw[hR.o];have H1:=z6 J;obtain⟨la,lc,rfl,_,_,_,_⟩:=J;obtain⟨pa,pc,rfl,_,_,q2⟩:=U;have C2:=z6 q2;clear q2
 go_enter func127,ntmps127
 go_wp2_with fail
 go_loopw [6,7,13] (λ ov lv i wr=>∃(k at_:Nat)(q:List Int),k<=ps.length/\i=.int .i64 k/\at_<=f.length/\q.length<=at_/\Hid (Bj f ps k=some (at_,q))/\Hid (Rd .u8 w lv (f.drop at_))/\Hid (AF .u8 5 wr ov q)/\Hid (Below w.heap.size w wr)/\Hid (∀j,ov.ownBlock=some j->w.heap.size<=j)) (λ _ _ i _=>ps.length-(intOf i).toNat)
 case atStart=>exact⟨0,0,[],AI _,rfl,AI _,AI _,rfl,by show Rd _ _ _ _;rw[List.drop_zero];exact H1.o,CB _ _ _,Below.refl _ _,λ j e=>by cases e⟩
 case round=>
  obtain⟨k,at_,q,hk,rfl,au,ax,a4,O,HO,A,HN⟩:=hrel;obtain⟨La,Lc,am⟩:∃a c,u7=.slice a (f.length-at_) c:=by obtain⟨a,c,e,_⟩:=O.o;rw[zg0]at e;exact⟨a,c,e⟩
  subst am;obtain⟨B,ae⟩:=exH (f.length-at_);have af:(B:Int)=(f.length:Int)-(at_:Int):=by rw[<-ae.o];omega
  have ap:=z6 af;have aw:B+at_=f.length:=by omega
  clear af;rw[ae.o]at O |-
  obtain⟨Oa,Oc,an⟩:∃a c,u6=.slice a q.length c:=by obtain⟨a,c,e,_⟩:=HO.o.rd;exact⟨a,c,e⟩
  subst an;have a3:Hid ((f.drop at_).length=f.length-at_):=zg0;by_cases a6:k<ps.length
  .obtain⟨b,o,ha,hc⟩:∃b o,pa=some ⟨b,o,none⟩/\∀i,i<ps.length->w.cell? ⟨b,o+i*3,none⟩=some (.int .i64 (ps.getD i AR).1)/\w.cell? ⟨b,o+i*3+1,none⟩=some (.int .i64 (ps.getD i AR).2.1)/\w.cell? ⟨b,o+i*3+2,none⟩=some (.int .i64 (ps.getD i AR).2.2):=by rcases C2.o with h|h;rw[h]at a6;simp at a6;exact h
   subst ha;obtain⟨⟨x,y,z⟩,hX⟩:∃X,Hid (ps.getD k AR=X):=⟨_,rfl⟩
   obtain⟨c0,c1,c2⟩:=hc k a6;rw[hX.o]at c0 c1 c2;have W:=zb0 w _ c0;rw[<-A.o.cell (p:=⟨b,o+k*3,none⟩) W]at c0;rw[<-A.o.cell (p:=⟨b,o+k*3+1,none⟩) W]at c1;rw[<-A.o.cell (p:=⟨b,o+k*3+2,none⟩) W]at c2;have av:=Ao W A.o.size;have E:Hid (x<0\/y<0\/z<0\/(f.length:Int)-(at_:Int)<x\/(f.length:Int)-(at_:Int)-x<y->R=(5,[])):=λ h=>by rw[<-hR.o];exact ACQ a6 a4.o (by rw[hX.o];exact h)
   obtain⟨wS,a7⟩:=exH (wr.alloc (.cells #[.int .i64 x,.int .i64 y,.int .i64 z] 244));(have bS:Below wr.heap.size wr wS:=by rw[<-a7.o];exact(Below.refl _ _).alloc (AE _) _);have a2:=z6 (A.o.trans (bS.mono A.o.size));have a8:=z6 (HO.o.below bS);(have I:Hid (Below w.heap.size w (wr.alloc (.cells #[.int .i64 x,.int .i64 y,.int .i64 z] 244))):=by show Below _ _ _;rw[a7.o];exact a2.o);(have a9:wS.heap[wr.heap.size]?=some (.cells #[.int .i64 x,.int .i64 y,.int .i64 z] 244 (0,0)):=by rw[<-a7.o];exact heap_alloc_new wr _);obtain⟨S,hS⟩:=exH wr.heap.size;rw[hS.o]at a9;have a1:=z6 a9;clear hc W bS a9;by_cases J:x<0
   .have r:=z6 (E.o (.inl J));go_wp2_with fail;go_ret2;rw[r.o];exact EV.bad I.o
   (have g1:decide (x<0)=false:=by rw[AT];exact J);by_cases U:y<0
   .have r:=z6 (E.o (.inr (.inl U)));go_wp2_with fail;go_ret2;rw[r.o];exact EV.bad I.o
   (have g2:decide (y<0)=false:=by rw[AT];exact U);by_cases h3:z<0
   .have r:=z6 (E.o (.inr (.inr (.inl h3))));go_wp2_with fail;go_ret2;rw[r.o];exact EV.bad I.o
   (have g3:decide (z<0)=false:=by rw[AT];exact h3);by_cases h4:(B:Int)<x
   .have r:=z6 (E.o (.inr (.inr (.inr (.inl (by omega))))));go_wp2_with fail;go_ret2;rw[r.o];exact EV.bad I.o
   (have g4:decide ((B:Int)<x)=false:=by rw[AT];exact h4);by_cases h5:(B:Int)-x<y
   .have r:=z6 (E.o (.inr (.inr (.inr (.inr (by omega))))));go_wp2_with fail;go_ret2;rw[r.o];exact EV.bad I.o
   (have g5:decide ((B:Int)-x<y)=false:=by rw[AT];exact h5);obtain⟨X,rfl⟩:=Int.eq_ofNat_of_zero_le (show 0<=x by omega);obtain⟨Y,rfl⟩:=Int.eq_ofNat_of_zero_le (show 0<=y by omega);(have ao:at_+X+Y<=f.length:=by omega);have ai:Hid (Bj f ps (k+1)=some (at_+X+Y,q++(f.drop at_).take X)):=by show _=_;have:=ACZ a4.o (by rw[hX.o];show¬((X:Int)<0\/(Y:Int)<0\/z<0\/(f.length:Int)-(at_:Int)<(X:Int)\/(f.length:Int)-(at_:Int)-(X:Int)<(Y:Int));omega);rw[hX.o]at this;exact this
   clear J U h3 h4 h5 E a4 I;go_wp2_with(refine Wp _ w rfl (.tmp 46) (.tmp 48) rfl (.slice La B Lc) (f.drop at_) rfl O.o X rfl (by rw[a3.o];omega) ?_)
   intro v5 ag;rw[a7.o,hS.o];have ac:=z6 (ag.below a2.o);(have a5:Hid (((f.drop at_).take X).length<=X):=by show _<=_;rw[zd0];omega);clear ag c0 c1 c2;go_wp2_with(at_builtin;refine Hr _ rfl (.tmp 45) (.tmp 49) 40 rfl 5 .u8 1 Dd (.slice Oa q.length Oc) q rfl a8.o v5 ((f.drop at_).take X) rfl ac.o (by have:=a5.o;omega) (by have:=a5.o;omega) ?_)
   intro v6 L a0 K;obtain⟨T,n6⟩:=K.onto a2.o HN.o;have O6:=z6 a0;have B6:=z6 T;have N6:=z6 n6;have ab:Hid (L.heap[S]?=some (.cells #[.int .i64 (X:Int),.int .i64 (Y:Int),.int .i64 z] 244 (0,0))):=by
    show _=_;rw[K.tch.block S (za0.1 a1.o).1 (λ e=>by
     obtain⟨aq,ad⟩:=JK (w:=wS) a8.o e;rw[a1.o]at ad;simp at ad)]
    exact a1.o
   (have e0:L.cell? ⟨S,0,none⟩=some (.int .i64 (X:Int)):=by rw[cell_of_row L S 0 _ _ (0,0) ab.o];rfl);(have e1:L.cell? ⟨S,1,none⟩=some (.int .i64 (Y:Int)):=by rw[cell_of_row L S 1 _ _ (0,0) ab.o];rfl);(have aj:Hid ((q++(f.drop at_).take X).length<=at_+X+Y):=by show _<=_;rw[zc0];have:=a5.o;omega);clear a0 K T n6 a1 a8 a2 ac a5 HN HO A;obtain⟨Z,hZ⟩:=exH (X+Y);(have ar:(X:Int)+(Y:Int)=(Z:Int):=by rw[<-hZ.o];omega);go_wp2_with(refine Qi _ w rfl (.tmp 51) (.tmp 56) rfl (.slice La B Lc) (f.drop at_) rfl O.o Z rfl (by rw[a3.o,<-hZ.o];omega) ?_)
   intro v7 aa;have ak:Hid (Rd .u8 w v7 (f.drop (at_+X+Y))):=by
    show Rd _ _ _ _;(have e:at_+X+Y=at_+Z:=by rw[<-hZ.o];omega);rw[e]
    first|exact aa|(rw[<-zx0];exact aa)
   clear aa;go_wp2_with fail
   go_roundw
   (case rel=>exact⟨k+1,at_+X+Y,_,by omega,by go_num,ao,aj.o,ai,ak,O6,B6,N6⟩);case measure=>simp[intOf];omega
  .obtain rfl:k=ps.length:=by omega
   (have r:Hid (R=(0,q++f.drop at_)):=by show R=_;rw[<-hR.o];unfold GH;rw[a4.o]);have al:=z6 (O.o.below A.o);go_wp2_with(at_builtin;refine Hr _ rfl (.tmp 59) (.tmp 60) 40 rfl 5 .u8 1 Dd (.slice Oa q.length Oc) q rfl HO.o (.slice La B Lc) (f.drop at_) rfl al.o (by have:=a3.o;omega) (by have:=a3.o;omega) ?_)
   intro v6 L a0 K;obtain⟨T,n6⟩:=K.onto A.o HN.o;have O6:=z6 a0;have B6:=z6 T;have N6:=z6 n6;clear a0 K T n6;go_wp2_with fail;go_ret2;rw[r.o];exact⟨_,rfl,B6.o,N6.o,O6.o⟩
