import Derived.Test.YtihofcopapmjlaaGreatPPkLit
import Derived.Test.YtihofcopapmjlaaGreatPFDec
set_option maxRecDepth 100000
set_option linter.all false
set_option maxHeartbeats 8000000
namespace Go.Proofs.YtihofcopapmjlaaGreat
open Go.Proofs.Tryz
open Go.RowKit Pl Go.Maps Go.WideMaps Hf
def Coded(ls ys:List Int)(n:Int)(out:List Int):Prop:=
 ∃q,Rn ls (AM ys) out q/\(out.length:Int)=n/\q<=8*ys.length/\8*ys.length-q<8/\val (AM ys) q ((8*ys.length-q) % 8)=0
noncomputable def hdecR(ls ys:List Int)(n:Int):Int×List Int:=
 if BE ls=false then(4,[])else if n<0\/65536<n then(1,[])else
  @dite _ (∃out,Coded ls ys n out) (Classical.propDecidable _) (λ h=>(0,Classical.choose h)) (λ _=>(3,[]))
def Sn{ls ys f n}(A:BE ls=true)(I:0<=n)(J:n<=65536)(h:Coded ls ys n f):hdecR ls ys n=(0,f):=by unfold hdecR;rw[if_neg (by grind),if_neg (by omega),dif_pos ⟨f,h⟩];have hc:=Classical.choose_spec (p:=λ o=>Coded ls ys n o) ⟨f,h⟩;obtain⟨q,r,B,_⟩:=hc;obtain⟨K,b1,E,_⟩:=h;rw[(Ml (Bg.of A) (Fx ys) r b1 (by omega)).1]
def AAx{ls ys n}(A:BE ls=true)(q:0<=n)(r:n<=65536)(h:¬∃f,Coded ls ys n f):hdecR ls ys n=(3,[]):=by
 unfold hdecR
 grind
def AAw{ls ys n}(h:(hdecR ls ys n).1=0):((hdecR ls ys n).2.length:Int)=n/\0<=n/\n<=65536:=by
 unfold hdecR at h |-
 split
 .grind
 .rename_i e;rw[if_neg e]at h;split
  .grind
  .rename_i e2;rw[if_neg e2]at h;by_cases f:∃r,Coded ls ys n r
   .rw[dif_pos f];obtain⟨q,_,A,_⟩:=Classical.choose_spec f
    grind
   grind
def AAv{ls ys n}(h:(hdecR ls ys n).1≠0):(hdecR ls ys n).2=[]:=by
 unfold hdecR at h |-
 split;rfl
 .rename_i e;rw[if_neg e]at h;split;rfl
  .rename_i e2;rw[if_neg e2]at h;by_cases q:∃f,Coded ls ys n f
   .grind
   grind
def Zd{ls ys n w w' e}(h:NN ls ys n w e w'):
 ∃r,e=.returned (.tuple #[r,.int .i64 (hdecR ls ys n).1])/\Below w.heap.size w w'/\(∀k,r.ownBlock=some k->w.heap.size<=k)/\AF .u8 5 w' r (hdecR ls ys n).2:=by
 by_cases X:BE ls=true
 .by_cases I:0<=n/\n<=65536
  .by_cases f:∃J,Coded ls ys n J;obtain⟨J,f⟩:=f;rw[Sn X I.1 I.2 f];obtain⟨q,K,L,O,T,U⟩:=f;exact Zc X K L I.2 O T U h
   .rw[AAx X I.1 I.2 f];obtain⟨r,E,rfl,A,B,h⟩:=h;rcases h with⟨_,rfl,h⟩|⟨_,_,_,_,J,q,K,L,O,T,U,_⟩
    .rcases h with⟨_,h⟩|⟨_,_,h⟩|⟨rfl,_⟩
     .grind
     .omega
     .exact⟨_,rfl,A,B,CB _ _ _⟩
    .exact absurd ⟨J,q,K,L,O,T,U⟩ f
  .have W:hdecR ls ys n=(1,[]):=by unfold hdecR;grind
   rw[W];obtain⟨r,E,rfl,A,B,h⟩:=h;rcases h with⟨_,rfl,h⟩|⟨_,_,_,_,_⟩
   .rcases h with⟨_,h⟩|⟨rfl,_,h⟩|⟨_,_,_,_,_⟩
    .grind
    .exact⟨_,rfl,A,B,CB _ _ _⟩
    .omega
   .omega
 .have Y:BE ls=false:=by grind
  have W:hdecR ls ys n=(4,[]):=by unfold hdecR;grind
  rw[W];obtain⟨r,E,rfl,A,B,h⟩:=h;rcases h with⟨_,rfl,h⟩|⟨_,h,_⟩
  .rcases h with⟨rfl,h⟩|⟨_,h,_⟩|⟨_,h,_⟩
   .exact⟨_,rfl,A,B,CB _ _ _⟩
   .grind
   grind
  grind
structure Lt(g:Nat)(w:World)(v:Value)(xs:List Int):Prop where
 rd:Rd .u8 w v xs
 bys:By xs
 ne:v.ownBlock≠some g
def Lt.tch{g w w' v xs}(h:Lt g w v xs)(q:AD (λ k=>k=g) w w'):Lt g w' v xs:=
 ⟨h.rd.tch q (λ b f e=>h.ne (by rw[f,e])),h.bys,h.ne⟩
def YS(σ n):(Ay σ n).1.length<=(σ.getD []).length/\((Ay σ n).2.getD []).length<=(σ.getD []).length:=by
 cases σ with
 | none=>simp[Ay]
 | some l=>
  unfold Ay
  grind
def ADQ(σ):((AV σ).2.getD []).length<=(σ.getD []).length:=by
 cases σ with
 | none=>simp[AV]
 | some l=>
  unfold AV
  grind
def P5(σ):(C6 σ).1.length<=(σ.getD []).length:=by unfold C6;have f:=(YS (AV σ).2 (AV σ).1.toNat).1;have q:=ADQ σ;omega
noncomputable def tcS(σ:Option (List Int))(many:Int):List Int×Option (List Int):=
 let t:=DX (σ.getD []);let z:=C6 (Ay (Aj σ (t.1==0)) t.2.2).2;let d:=hdecR t.2.1 z.1 many
 (d.2,Aj z.2 (d.1==0))
def YM{ls bs f q}(hr:Rn ls bs f q):By f:=by
 induction hr with
 | nil=>exact By.nil
 | snoc o q t c h r A=>intro i;rw[Ir];have:=A i;by_cases e:i=o.length;subst e;rw[if_pos rfl,show o.getD o.length 0=0 by simp];have:=r.1;omega;omega
def YH{ls ys f n}(h:Coded ls ys n f):By f:=by obtain⟨q,hr,_⟩:=h;exact YM hr
def Sl(ls ys n):By (hdecR ls ys n).2:=by unfold hdecR;split;exact By.nil;split;exact By.nil;by_cases f:∃q,Coded ls ys n q;rw[dif_pos f];exact YH (Classical.choose_spec f);rw[dif_neg f];exact By.nil
def AHH(q g σ many w)(h:AZ q w g σ):
 Calls prog 168 #[.pointer (some ⟨g,0,none⟩),.int .i64 many] w λ e w'=>∃rv,e=.returned rv/\Lt g w' rv (tcS σ many).1/\AZ q w' g (tcS σ many).2/\AD (λ k=>k=g) w w':=by
 obtain⟨lv,h⟩:=h;have H:=z6 h;have c0:=h.c0;have am:=h.lt;have an:=h.new;clear h;unfold tcS;simp only;obtain⟨t,Z⟩:=exH (DX (σ.getD []));have ae:=AHA (σ.getD []);have aj:=H.o.small;have a4:=AHD lv (σ.getD []) w H.o.rd H.o.bys aj;rw[Z.o]at ae a4 |-
 obtain⟨E,l,z⟩:=t;simp only at ae |-
 have ao:Hid (E≠0->z=0):=λ hE=>by have:=(AG9 (ys:=σ.getD []) (by rw[Z.o];exact hE)).2;rw[Z.o]at this;exact this
 have a7:=z6 a4;clear a4;obtain⟨σ3,af⟩:=exH ((Ay (Aj σ (E==0)) z).2);rw[af.o];obtain⟨zs,a5⟩:=exH (C6 σ3);rw[a5.o];obtain⟨r,σ4⟩:=zs;simp only;obtain⟨ds,X⟩:=exH (hdecR l r many);have a6:Hid (By ds.2):=by rw[<-X.o];exact Sl l r many
 rw[X.o];obtain⟨E5,ak⟩:=ds;simp only at a6 |-
 go_enter func168,ntmps168
 go_wp2_with fail;refine a7.o.mono ?_;clear a7;rintro e w1 ⟨d,rfl,U,a9,ab⟩;simp only;have S1:Hid (AZ q w1 g σ):=⟨lv,H.o.below U⟩
 have O1:=z6 ab;have J:Hid (∀k,d.ownBlock=some k->k≠g):=λ k f=>by have:=a9 k f;omega
 have T1:Hid (AD (λ k=>k=g) w w1):=AD.of_below U;clear U a9 ab c0 H;go_wp2_with fail;refine(DQ q g σ (E==0) w1 S1.o).mono ?_;rintro e w2 ⟨rfl,ac,a0⟩;have S2:=z6 ac;have O2:=z6 (O1.o.tch a0 (λ k f e=>J.o k f e));have T2:Hid (AD (λ k=>k=g) w w2):=T1.o.trans a0 (λ _ _ e=>e);clear ac a0 S1 O1 T1;go_wp2_with fail;refine(Hj q g _ z w2 S2.o (by omega)).mono ?_;rintro e w3 ⟨aq,rfl,_,Y,a1⟩;rw[af.o]at Y;have L:=z6 Y;have O3:=z6 (O2.o.tch a1 (λ k f e=>J.o k f e));have T3:Hid (AD (λ k=>k=g) w w3):=T2.o.trans a1 (λ _ _ e=>e);clear Y a1 S2 O2 T2;go_wp2_with fail;refine(QG q g σ3 w3 L.o).mono ?_;rintro e w4 ⟨al,rfl,A,I,a2⟩;rw[a5.o]at I A;simp only at I A;have O:=z6 I;have K:=z6 A
 have O4:=z6 (O3.o.tch a2 (λ k f e=>J.o k f e));have T4:Hid (AD (λ k=>k=g) w w4):=T3.o.trans a2 (λ _ _ e=>e);have ai:Hid (r.length<=140737488355328):=by show _<=_;have T:=L.o;obtain⟨ap,T⟩:=T;have h2:=P5 σ3;rw[a5.o]at h2;have:=T.small;simp only at h2;omega
 clear I A a2 L O3 T3;go_wp2_with fail;refine(ZZ d al l r many w4 O4.o.rd K.o.rd K.o.bys ai.o).mono ?_;intro e w5 a8;obtain⟨ag,rfl,W,aa,B⟩:=Zd a8;clear a8;rw[X.o]at B |-
 simp only at B |-
 have S5:=z6 (O.o.below W);have L5:Hid (Lt g w5 ag ak):=⟨B.rd,a6.o,λ e=>by have:=aa g e;have:=O.o.lt;omega⟩
 have T5:Hid (AD (λ k=>k=g) w w5):=T4.o.trans (AD.of_below (S:=λ k=>k=g) W) (λ _ _ e=>e);clear W aa B O K O4 T4;go_wp2_with fail;refine(DQ q g σ4 (E5==0) w5 S5.o).mono ?_;rintro e w6 ⟨rfl,ad,a3⟩;have S6:=z6 ad;have L6:=z6 (L5.o.tch a3);have T6:Hid (AD (λ k=>k=g) w w6):=T5.o.trans a3 (λ _ _ e=>e);clear ad a3 S5 L5 T5;go_wp2_with fail;go_ret;exact⟨ag,rfl,L6.o,S6.o,T6.o⟩
noncomputable def litS(σ:Option (List Int))(n:Int):List Int×Option (List Int):=
 let m:=AV σ
 if m.1<=n/\m.2.isSome=true then
  let o:=BQ m.2
  if o.1=0 then Ay o.2 m.1.toNat else if o.1=1 then tcS o.2 m.1 else([],none)
 else([],none)
def Tk.lt{f g w v xs}(h:Tk f w v xs)(q:f<=g):Lt g w v xs:=⟨h.rd,h.bys,λ e=>by have:=h.old g e;omega⟩
def Lt.nil(g w):Lt g w (.slice none 0 0) []:=⟨Mi _ _,By.nil,λ e=>by cases e⟩
def AHK(f g σ n w)(h:AZ f w g σ):
 Calls prog 136 #[.pointer (some ⟨g,0,none⟩),.int .i64 n] w λ e w'=>∃rv,e=.returned rv/\Lt g w' rv (litS σ n).1/\AZ f w' g (litS σ n).2/\AD (λ k=>k=g) w w':=by
 have H:=z6 h;have a1:=Jc h.bys;have a7:=h.new;clear h;unfold litS;simp only;obtain⟨ms,a6⟩:=exH (AV σ);have HN:=Mv f g σ w H.o;rw[a6.o]at a1 HN |-
 obtain⟨m0,σ1⟩:=ms;simp only at a1 HN |-
 obtain⟨m,rfl⟩:=Int.eq_ofNat_of_zero_le a1.1;have aa:m<=4294967295:=by omega
 have X:=z6 HN;clear HN a1;by_cases a0:(m:Int)<=n
 .have a5:decide ((m:Int)<=n)=true:=by rw[zg1];exact a0
  cases σ1 with
  | none=>
   rw[if_neg (by simp)]
   go_enter func136,ntmps136
   go_wp2_with fail;refine X.o.mono ?_;clear X;rintro e w1 ⟨rfl,B,I⟩;have r:=z6 B;have A:=z6 I;clear B I;go_wp2_with fail;refine(DQ f g none true w1 r.o).mono ?_;rintro e w2 ⟨rfl,E,J⟩;have Y:=z6 E;have T2:Hid (AD (λ k=>k=g) w w2):=A.o.trans J (λ _ _ e=>e);clear E J r A;simp only[Aj,Option.isSome_none,if_true];go_wp2_with fail;go_ret;exact⟨_,rfl,Lt.nil _ _,Y.o,T2.o⟩
  | some l1=>
   (rw[if_pos ⟨a0,rfl⟩];obtain⟨os,a2⟩:=exH (BQ (some l1));rw[a2.o];obtain⟨x,O⟩:=os;simp only[Int.toNat_natCast];have HO:Hid (∀W,AZ f W g (some l1)->Calls prog 107 #[.pointer (some ⟨g,0,none⟩)] W λ e w'=>e=.returned (.int .u8 x)/\AZ f w' g O/\AD (λ k=>k=g) W w'):=λ W hW=>by have:=QE f g (some l1) W hW;rw[a2.o]at this;exact this);obtain⟨R,T⟩:=exH ((if x=0 then Ay O m else if x=1 then tcS O (m:Int)else([],none)));rw[T.o]
   go_enter func136,ntmps136
   go_wp2_with fail;refine X.o.mono ?_;clear X;rintro e w1 ⟨rfl,B,I⟩;have r:=z6 B;have A:=z6 I;clear B I;go_wp2_with fail;refine(DQ f g (some l1) true w1 r.o).mono ?_;rintro e w2 ⟨rfl,E,J⟩;have Y:=z6 E;have T2:Hid (AD (λ k=>k=g) w w2):=A.o.trans J (λ _ _ e=>e);clear E J r A;simp only[Aj,Option.isSome_some,if_true];go_wp2_with fail;refine(HO.o w2 Y.o).mono ?_;clear HO;rintro e w3 ⟨rfl,a3,a4⟩;have Z:=z6 a3;have T3:Hid (AD (λ k=>k=g) w w3):=T2.o.trans a4 (λ _ _ e=>e);clear a3 a4 Y T2;by_cases L:x=0
   .have a8:(x==0)=true:=by simp[L]
    (have HR:Hid (Ay O m=R):=by have:=T.o;rw[if_pos L]at this;exact this);clear L T;go_wp2_with fail;refine(Hj f g O m w3 Z.o (by omega)).mono ?_;rintro e w4 ⟨rv,rfl,U,q,K⟩;rw[HR.o]at U q;have S4:=z6 q;have K4:=z6 (U.lt a7);have T4:Hid (AD (λ k=>k=g) w w4):=T3.o.trans K (λ _ _ e=>e);clear q U K Z T3;go_wp2_with fail;go_ret;exact⟨rv,rfl,K4.o,S4.o,T4.o⟩
   .have a8:(x==0)=false:=by simp[L]
    by_cases hx1:x=1
    .have a9:(x==1)=true:=by simp[hx1]
     (have HR:Hid (tcS O (m:Int)=R):=by have:=T.o;rw[if_neg L,if_pos hx1]at this;exact this);clear L hx1 T;go_wp2_with fail;refine(AHH f g O (m:Int) w3 Z.o).mono ?_;rintro e w4 ⟨rv,rfl,U,q,K⟩;rw[HR.o]at U q;have S4:=z6 q;have K4:=z6 U;have T4:Hid (AD (λ k=>k=g) w w4):=T3.o.trans K (λ _ _ e=>e);clear q U K Z T3;go_wp2_with fail;go_ret;exact⟨rv,rfl,K4.o,S4.o,T4.o⟩
    .have a9:(x==1)=false:=by simp[hx1]
     (have HR:Hid (R=([],none)):=by have:=T.o;rw[if_neg L,if_neg hx1]at this;exact this.symm);clear L hx1 T;go_wp2_with fail;refine(DQ f g O false w3 Z.o).mono ?_;rintro e w4 ⟨rfl,q,K⟩;have S4:=z6 q;have T4:Hid (AD (λ k=>k=g) w w4):=T3.o.trans K (λ _ _ e=>e);clear q K Z T3;go_wp2_with fail;go_ret;rw[HR.o];exact⟨_,rfl,Lt.nil _ _,S4.o,T4.o⟩
 .have a5:decide ((m:Int)<=n)=false:=by rw[AT];exact a0
  rw[if_neg (λ e=>a0 e.1)]
  go_enter func136,ntmps136
  go_wp2_with fail;refine X.o.mono ?_;clear X;rintro e w1 ⟨rfl,B,I⟩;have r:=z6 B;have A:=z6 I;clear B I;go_wp2_with fail;refine(DQ f g σ1 false w1 r.o).mono ?_;rintro e w2 ⟨rfl,E,J⟩;have Y:=z6 E;have T2:Hid (AD (λ k=>k=g) w w2):=A.o.trans J (λ _ _ e=>e);clear E J r A;simp only[Aj];go_wp2_with fail;go_ret;exact⟨_,rfl,Lt.nil _ _,Y.o,T2.o⟩
def Dq(σ:Option (List Int))(many:Int):List Int×Option (List Int):=
 let t:=DH (σ.getD []);let z:=C6 (Ay (Aj σ (t.1==0&&decide ((t.2.1.length:Int)<=17))) t.2.2.2.toNat).2;let d:=EL t.2.1 t.2.2.1 z.1 many
 (d.2,Aj z.2 (d.1==0))
def AAZ{ys}(A:By ys):0<=(DH ys).2.2.2/\(DH ys).2.2.2<=(ys.length:Int)/\0<=(DH ys).2.2.1/\(DH ys).2.2.1<=9:=by
 unfold DH;split;simp
 .cases e:BJ (ys.drop 1)with
  | none=>simp
  | some r=>
   obtain⟨n,k⟩:=r;simp only;split;simp
   .rename_i hb;cases e2:CI (ys.drop (1+k)) n.toNat with
    | none=>simp
    | some t=>
     obtain⟨l,p⟩:=t;simp only;split
     .have f:=(LB e2).2;have q:=(Kb (n:=n) (k:=k) e).2.1
      grind
     .simp
def AHN(r g σ many w)(h:AZ r w g σ):
 Calls prog 169 #[.pointer (some ⟨g,0,none⟩),.int .i64 many] w λ e w'=>∃rv,e=.returned rv/\AF .i64 3 w' rv (Dq σ many).1/\(∀k,rv.ownBlock=some k->w.heap.size<=k)/\AZ r w' g (Dq σ many).2/\AD (λ k=>k=g) w w':=by
 obtain⟨lv,h⟩:=h;have H:=z6 h;have c0:=h.c0;have ap:=h.lt;have aq:=h.new;clear h;unfold Dq;simp only;obtain⟨t,ht⟩:=exH (DH (σ.getD []));have a4:=AAZ H.o.bys;have ar:=H.o.small;have a9:=AAd lv (σ.getD []) w H.o.rd H.o.bys;rw[ht.o]at a4 a9 |-
 obtain⟨E,l,lg,z0⟩:=t;simp only at a4 |-
 obtain⟨z,rfl⟩:=Int.eq_ofNat_of_zero_le a4.1;have ad:=z6 a9;clear a9;rw[Int.toNat_natCast];obtain⟨q,A⟩:∃q:Bool,Hid ((E==0&&decide ((l.length:Int)<=17))=q):=⟨_,rfl⟩
 rw[A.o];obtain⟨σ3,aj⟩:=exH ((Ay (Aj σ q) z).2);rw[aj.o];obtain⟨zs,aa⟩:=exH (C6 σ3);rw[aa.o];obtain⟨ys,σ4⟩:=zs;simp only;obtain⟨ds,ae⟩:=exH (EL l lg ys many);rw[ae.o];obtain⟨E5,av⟩:=ds;simp only
 go_enter func169,ntmps169
 go_wp2_with fail;refine ad.o.mono ?_;clear ad;rintro e B ⟨d,rfl,Z,af,a2⟩;simp only;have S1:Hid (AZ r B g σ):=⟨lv,H.o.below Z⟩
 have O1:=z6 a2;have O:Hid (∀k,d.ownBlock=some k->k≠g):=λ k f=>by have:=af k f;omega
 have T1:Hid (AD (λ k=>k=g) w B):=AD.of_below Z;obtain⟨da,dc,an,_⟩:=a2.rd;subst an;clear Z af a2 c0 H;have ac:Hid (Calls prog 134 #[.pointer (some ⟨g,0,none⟩),.bool q] B λ e w'=>e=.returned (.bool (Aj σ q).isSome)/\AZ r w' g (Aj σ q)/\AD (λ k=>k=g) B w'):=DQ r g σ q B S1.o;have am:(E=0/\q=decide ((l.length:Int)<=17))\/((E==0)=false/\q=false):=by by_cases I:E=0;left;exact⟨I,by rw[<-A.o,I];rfl⟩;right;(have:(E==0)=false:=by simp[I]);exact⟨this,by rw[<-A.o,this];rfl⟩
 have ak:=z6 A;clear A ak;rcases am with⟨rfl,rfl⟩|⟨I,rfl⟩
 all_goals
  go_wp2_with fail;refine ac.o.mono ?_;clear ac;rintro e w2 ⟨rfl,ag,a5⟩;have S2:=z6 ag;have O2:=z6 (O1.o.tch a5 (λ k f e=>O.o k f e));have T2:Hid (AD (λ k=>k=g) w w2):=T1.o.trans a5 (λ _ _ e=>e);clear ag a5 S1 O1 T1;go_wp2_with fail;refine(Hj r g _ z w2 S2.o (by omega)).mono ?_;rintro e w3 ⟨aw,rfl,_,a3,a6⟩;rw[aj.o]at a3;have U:=z6 a3;have O3:=z6 (O2.o.tch a6 (λ k f e=>O.o k f e));have T3:Hid (AD (λ k=>k=g) w w3):=T2.o.trans a6 (λ _ _ e=>e);clear a3 a6 S2 O2 T2;go_wp2_with fail;refine(QG r g σ3 w3 U.o).mono ?_;rintro e w4 ⟨ao,rfl,J,L,a7⟩;rw[aa.o]at L J;simp only at L J;have W:=z6 L;have T:=z6 J;have O4:=z6 (O3.o.tch a7 (λ k f e=>O.o k f e))
  have X:Hid (AD (λ k=>k=g) w w4):=T3.o.trans a7 (λ _ _ e=>e);have al:Hid (ys.length<=140737488355328):=by show _<=_;have Y:=U.o;obtain⟨au,Y⟩:=Y;have h2:=P5 σ3;rw[aa.o]at h2;have:=Y.small;simp only at h2;omega
  clear L J a7 U O3 T3;go_wp2_with fail;refine(Zb _ ao l ys lg many w4 O4.o.rd T.o.rd T.o.bys al.o).mono ?_;rintro e w5 ⟨ab,rfl,a0,a1,K⟩;rw[ae.o]at K |-
  simp only at K |-
  have S5:=z6 (W.o.below a0);have L5:=z6 K;have N5:Hid (∀k,ab.ownBlock=some k->w.heap.size<=k):=λ k f=>by have:=a1 k f;have:=X.o.size;omega
  have M5:Hid (∀k,ab.ownBlock=some k->k≠g):=λ k f=>by have:=a1 k f;have:=W.o.lt;omega
  have T5:Hid (AD (λ k=>k=g) w w5):=X.o.trans (AD.of_below (S:=λ k=>k=g) a0) (λ _ _ e=>e);clear a0 a1 K W T O4 X;go_wp2_with fail;refine(DQ r g σ4 (E5==0) w5 S5.o).mono ?_;rintro e w6 ⟨rfl,ai,a8⟩;have S6:=z6 ai;have L6:=z6 (L5.o.tch a8 (λ k f e=>M5.o k f e));have T6:Hid (AD (λ k=>k=g) w w6):=T5.o.trans a8 (λ _ _ e=>e);clear ai a8 S5 L5 T5;go_wp2_with fail;go_ret;exact⟨ab,rfl,L6.o,N5.o,S6.o,T6.o⟩
def BM(c:Int):Nat:=(c-1).toNat
def Ut(c w)(q:0<=c)(r:c<=64):
 Calls prog 202 #[.int .i64 c] w λ e w'=>e=.returned (.int .i64 (BM c:Int))/\w'=w:=by
 have f:Hid (max (c-1) 0=(BM c:Int)):=by show _=_;unfold BM;omega
 go_enter func202,ntmps202
 go_wp2;go_ret;exact⟨by rw[<-f.o];rfl,rfl⟩
def Iq(ys:List Int)(p:Nat):Bool:=decide (8*ys.length-p<8/\val (AM ys) p (8*ys.length-p)=0)
def ADi(f r ys p w)(hr:Rr w f r ys p):
 Calls prog 173 #[.pointer (some ⟨f,0,none⟩)] w λ e w'=>e=.returned (.bool (Iq ys p))/\AD (λ k=>k=f) w w':=by
 have I:=z6 hr;obtain⟨L,K⟩:∃L:Nat,8*ys.length-p=L:=⟨_,rfl⟩
 have a1:=hr.small;have a0:=hr.le;have a4:L<=1125899906842624:=by omega
 have T:=z6 K;obtain⟨z,hz⟩:=exH (val (AM ys) p L);unfold Iq;rw[K,hz.o];by_cases h8:L<8
 .have Z:Hid (∀W,Rr W f r ys p->Calls prog 212 #[.pointer (some ⟨f,0,none⟩),.int .i64 (L:Int)] W λ e w'=>e=.returned (.tuple #[.int .i64 z,.int .i64 0])/\Rr w' f r ys (p+L)/\AD (λ k=>k=f) W w'):=λ W h=>by have:=Jk f r ys p L W h (by omega) (by omega);rw[hz.o]at this;exact this
  have E:Hid (decide (L<8/\z=0)=(z==0)):=by show _=_;by_cases e:z=0;simp[e,h8];simp[e]
  rw[E.o];clear hr K a1 a0 E
  go_enter func173,ntmps173
  go_wp2_with fail;refine(Hb f r ys p w I.o).mono ?_;rintro e A ⟨rfl,q,B⟩;rw[T.o];have O:Hid (Rr A f r ys p):=by rw[B];exact I.o.tch (AD.of_drewN (λ _=>False) w q) (λ e=>e) (λ _ _ e=>e)
  have J:Hid (AD (λ k=>k=f) w A):=by rw[B];exact AD.of_drewN _ w q
  have a3:¬(8:Int)<=(L:Int):=by omega
  clear B I;go_wp2_with fail;refine(Hb f r ys p A O.o).mono ?_;rintro e X ⟨rfl,q,U⟩;rw[T.o];have Y:Hid (Rr X f r ys p):=by rw[U];exact O.o.tch (AD.of_drewN (λ _=>False) A q) (λ e=>e) (λ _ _ e=>e)
  have T2:Hid (AD (λ k=>k=f) w X):=by rw[U];exact J.o.trans (AD.of_drewN (λ k=>k=f) A q) (λ _ _ e=>e)
  clear U O J;go_wp2_with fail;refine(Z.o X Y.o).mono ?_;clear Z;rintro e w3 ⟨rfl,_,a2⟩;have T3:Hid (AD (λ k=>k=f) w w3):=T2.o.trans a2 (λ _ _ e=>e);clear a2 Y T2;go_wp2_with fail;go_ret;exact⟨rfl,T3.o⟩
 .have E:Hid (decide (L<8/\z=0)=false):=by show _=_;simp[h8]
  rw[E.o];have a3:(8:Int)<=(L:Int):=by omega
  clear hr K a1 a0 E
  go_enter func173,ntmps173
  go_wp2_with fail;refine(Hb f r ys p w I.o).mono ?_;rintro e A ⟨rfl,q,B⟩;rw[T.o];have J:Hid (AD (λ k=>k=f) w A):=by rw[B];exact AD.of_drewN _ w q
  clear B I;go_wp2_with fail;go_ret;exact⟨rfl,J.o⟩
