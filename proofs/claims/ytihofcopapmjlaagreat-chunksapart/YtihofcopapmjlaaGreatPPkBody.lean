import Derived.Test.YtihofcopapmjlaaGreatPPkStepsP
import Derived.Test.YtihofcopapmjlaaGreatPPkRep
import Derived.Test.YtihofcopapmjlaaGreatPFCat
import Derived.Test.YtihofcopapmjlaaGreatPPkSnk
set_option maxRecDepth 100000
set_option linter.all false
set_option maxHeartbeats 8000000
namespace Go.Proofs.YtihofcopapmjlaaGreat
open Go.Proofs.Tryz
section
open Go.RowKit Pl Go.Maps Go.WideMaps Hf
noncomputable def bodyS(σ:Option (List Int))(mode:Int)(n:Nat):List Int×Option (List Int):=
 if mode=0 then Ay σ n
 else if mode=1 then(List.replicate n (BQ (Aj σ (decide (0<(n:Int))))).1,(BQ (Aj σ (decide (0<(n:Int))))).2)
 else
  let L:=litS (Aj σ (decide (0<(n:Int)))) n;let T:=Hl L.2 n;let R:=Dl L.1 T.1 n
  (R.2,Aj T.2 (R.1==0&&(R.2.length:Int)==(n:Int)))
def ACS{σ}(n:Nat)(h:By (σ.getD [])):(litS σ n).1.length<=n:=by
 have f:=Jc h;unfold litS;simp only;split
 .rename_i hc;split;have:=Np (BQ (AV σ).2).2 (AV σ).1.toNat;omega
  .split
   .unfold tcS;simp only;by_cases e:(hdecR (DX ((BQ (AV σ).2).2.getD [])).2.1 (C6 (Ay (Aj (BQ (AV σ).2).2 ((DX ((BQ (AV σ).2).2.getD [])).1==0)) (DX ((BQ (AV σ).2).2.getD [])).2.2).2).1 (AV σ).1).1=0;have:=(AAw e).1;omega
    .have:(hdecR (DX ((BQ (AV σ).2).2.getD [])).2.1 (C6 (Ay (Aj (BQ (AV σ).2).2 ((DX ((BQ (AV σ).2).2.getD [])).1==0)) (DX ((BQ (AV σ).2).2.getD [])).2.2).2).1 (AV σ).1).2=[]:=AAv e
     grind
   .simp
 .simp
def AGh{σ}(n:Nat)(h:By (σ.getD [])):(Hl σ n).1.length<=n:=by have f:=Jc h;unfold Hl;split;rename_i hc;split;simp;split;simp only[Pw];omega;simp;simp
def AHF(f g σ I)(n:Nat)(w)(h:AZ f w g σ)(hn:n<=65536)(b2:f<=w.heap.size)(hm:0<=I/\I<=2):
 Calls prog 109 #[.pointer (some ⟨g,0,none⟩),.int .u8 I,.int .i64 (n:Int)] w λ e w'=>∃rv,e=.returned rv/\Nw w.heap.size w' rv (bodyS σ I n).1/\AZ f w' g (bodyS σ I n).2/\AD (λ k=>k=g) w w':=by
 have H:=z6 h;have b0:=h.lt;clear h;unfold bodyS;by_cases h0:I=0
 .subst h0;rw[if_pos rfl]
  go_enter func109,ntmps109
  go_wp2_with fail;refine(Hj f g σ n w H.o (by omega)).mono ?_;rintro e w1 ⟨ax,rfl,am,K,L⟩;have q:=z6 K;have K1:=z6 am;have r:=z6 L;clear K am L;go_wp2_with fail;refine(Ri ax _ w1 K1.o.rd (by have:=Np σ n;omega)).mono ?_;rintro e O ⟨a4,rfl,a0,a6⟩;have J:=z6 (q.o.below a6);have N2:Hid (Nw w.heap.size O a4 (Ay σ n).1):=⟨a0.rd,a0.fz,λ k B=>by have:=a0.new k B;have:=r.o.size;omega,a0.sp⟩
  have A:Hid (AD (λ k=>k=g) w O):=r.o.trans (AD.of_below (S:=λ k=>k=g) a6) (λ _ _ e=>e);clear a0 a6 q K1 r;go_wp2_with fail;go_ret;exact⟨a4,rfl,N2.o,J.o,A.o⟩
 .have ay:(I==0)=false:=by simp[h0]
  rw[if_neg h0];obtain⟨W,aq⟩:=exH (Aj σ (decide (0<(n:Int))));rw[aq.o];have Z:Hid (Calls prog 134 #[.pointer (some ⟨g,0,none⟩),.bool (decide (0<(n:Int)))] w λ e w'=>e=.returned (.bool W.isSome)/\AZ f w' g W/\AD (λ k=>k=g) w w'):=by have:=DQ f g σ (decide (0<(n:Int))) w H.o;rw[aq.o]at this;exact this
  have al:decide (0<(n:Int))=decide (0<n):=by rw[decide_eq_decide];omega
  rw[al]at Z;clear al;by_cases h1:I=1
  .subst h1;rw[if_pos rfl]
   go_enter func109,ntmps109
   go_wp2_with fail;refine Z.o.mono ?_;clear Z;rintro e w1 ⟨rfl,K,L⟩;have q:=z6 K;have r:=z6 L;clear K L;go_wp2_with fail;refine(QE f g W w1 q.o).mono ?_;rintro e O ⟨rfl,X,a2⟩;have J:=z6 X;have A:Hid (AD (λ k=>k=g) w O):=r.o.trans a2 (λ _ _ e=>e);clear X a2 q r;go_wp2_with fail;refine(AEw O.heap.size (BQ W).1 n _ (by simp) hn).mono ?_;rintro e w3 ⟨a5,rfl,U,ak⟩;have a7:=((Below.refl _ _).alloc (AE _) _).trans (ak.mono (by simp));have S3:=z6 (J.o.below a7);have N3:Hid (Nw w.heap.size w3 a5 (List.replicate n (BQ W).1)):=⟨U.rd,U.fz,λ k B=>by have h1:=U.new k B;have h2:=A.o.size;simp only[World.size_alloc]at h1;omega,U.sp⟩
   have T3:Hid (AD (λ k=>k=g) w w3):=A.o.trans (AD.of_below (S:=λ k=>k=g) a7) (λ _ _ e=>e);clear U ak a7 J A;go_wp2_with fail;go_ret;exact⟨a5,rfl,N3.o,S3.o,T3.o⟩
  .have az:(I==1)=false:=by simp[h1]
   rw[if_neg h1];simp only;obtain⟨Ls,ag⟩:=exH (litS W (n:Int));rw[ag.o];obtain⟨ar,σ2⟩:=Ls;simp only;obtain⟨Ts,aj⟩:=exH (Hl σ2 (n:Int));rw[aj.o];obtain⟨ps,σ3⟩:=Ts;simp only;obtain⟨Rs,ai⟩:=exH (Dl ar ps (n:Int));rw[ai.o];obtain⟨E,Y⟩:=Rs;simp only;obtain⟨T,a3⟩:∃T:Bool,Hid ((E==0&&(Y.length:Int)==(n:Int))=T):=⟨_,rfl⟩
   rw[a3.o]
   go_enter func109,ntmps109
   go_wp2_with fail;refine Z.o.mono ?_;clear Z;rintro e w1 ⟨rfl,K,L⟩;have q:=z6 K;have r:=z6 L;clear K L;go_wp2_with fail;refine(AHK f g W (n:Int) w1 q.o).mono ?_;rintro e O ⟨a4,rfl,aa,X,a2⟩;have an:=ACS n q.o.bys;rw[ag.o]at aa X an;have J:=z6 X;have L2:=z6 aa;have A:Hid (AD (λ k=>k=g) w O):=r.o.trans a2 (λ _ _ e=>e);simp only at an;clear X aa a2 q r;go_wp2_with fail;refine(AHM f g σ2 n O J.o hn (by have:=A.o.size;omega)).mono ?_;rintro e w3 ⟨a5,rfl,ab,U,ac,ad⟩;have ao:=AGh n J.o.bys;rw[aj.o]at ab ac ao;have S3:=z6 ac;have R3:=z6 ab;have L3:=z6 (L2.o.tch ad);have T3:Hid (AD (λ k=>k=g) w w3):=A.o.trans ad (λ _ _ e=>e);simp only at ao;clear ac ab U ad J L2 A;go_wp2_with fail
   refine(AFT a4 a5 ar ps (n:Int) w3 L3.o.rd (by omega) R3.o (by omega)).mono ?_;rintro e w4 ⟨d,rfl,a8,a9,a1⟩;rw[ai.o]at a1 |-
   simp only at a1 |-
   have S4:=z6 (S3.o.below a8);have N4:Hid (Nw w.heap.size w4 d Y):=Nw.of_owns a1 (λ k B=>by have:=a9 k B;have:=T3.o.size;omega);(have M4:Hid (∀k,d.ownBlock=some k->k≠g):=λ k B=>by have:=a9 k B;have:=S3.o.lt;omega);have T4:Hid (AD (λ k=>k=g) w w4):=T3.o.trans (AD.of_below (S:=λ k=>k=g) a8) (λ _ _ e=>e);obtain⟨da,dc,aw,_⟩:=a1.rd;have af:Hid (Calls prog 134 #[.pointer (some ⟨g,0,none⟩),.bool T] w4 λ e w'=>e=.returned (.bool (Aj σ3 T).isSome)/\AZ f w' g (Aj σ3 T)/\AD (λ k=>k=g) w4 w'):=DQ f g σ3 T w4 S4.o;clear a8 a9 a1 S3 L3 T3 R3;subst aw;have av:(E=0/\T=((Y.length:Int)==(n:Int)))\/((E==0)=false/\T=false):=by
    by_cases hE:E=0;left;exact⟨hE,by rw[<-a3.o,hE];rfl⟩;right;(have:(E==0)=false:=by simp[hE]);exact⟨this,by rw[<-a3.o,this];rfl⟩
   have au:=z6 a3;clear a3 au;rcases av with⟨rfl,rfl⟩|⟨hE,rfl⟩
   all_goals
    go_wp2_with fail;refine af.o.mono ?_;clear af;rintro e w5 ⟨rfl,ap,ae⟩;have S5:Hid (AZ f w5 g (Aj σ3 _)):=ap;have N5:Hid (Nw w.heap.size w5 (.slice da Y.length dc) Y):=N4.o.tch ae (λ k B e=>M4.o k B e);have T5:Hid (AD (λ k=>k=g) w w5):=T4.o.trans ae (λ _ _ e=>e);clear ap ae S4 N4 T4;go_wp2_with fail;go_ret;exact⟨.slice da Y.length dc,rfl,N5.o,S5.o,T5.o⟩
noncomputable def unpT(σ:Option (List Int))(x m most:Int):Int×List Int:=
 if σ.isNone=true\/2<x then(5,[])
 else if most<m then(11,[])
 else if (E8 (bodyS σ x m.toNat).2).2.isNone=true\/0<((E8 (bodyS σ x m.toNat).2).2.getD []).length then(5,[])
 else if (E8 (bodyS σ x m.toNat).2).1=(BU (bodyS σ x m.toNat).1:Int)then(0,(bodyS σ x m.toNat).1)
 else(6,[])
noncomputable def unpS(ys:List Int)(most:Int):Int×List Int:=
 if most<0\/65536<most then(1,[])else unpT (AV (BQ (some ys)).2).2 (BQ (some ys)).1 (AV (BQ (some ys)).2).1 most
def Fw(R:Int×List Int)(w:World)(e:Ending)(w':World):Prop:=
 ∃rv,e=.returned (.tuple #[rv,.int .i64 R.1])/\Nw w.heap.size w' rv R.2/\Below w.heap.size w w'
def Fw.bad{E w w'}(f:Below w.heap.size w w'):Fw (E,[]) w (.returned (.tuple #[.slice none 0 0,.int .i64 E])) w':=⟨_,rfl,Nw.nil _ _,f⟩
def UP{σ}(h:By (σ.getD [])):0<=(BQ σ).1/\(BQ σ).1<=255:=by
 cases σ with
 | none=>exact⟨by simp[BQ],by simp[BQ]⟩
 | some l=>unfold BQ;simp only;split;exact h 0;simp
def YL(n){x}(h:0<=x/\x<=255):By (List.replicate n x):=by
 intro i
 grind
def By.append{xs ys}(h:By xs)(k:By ys):By (xs++ys):=by intro i;rw[Ge];split;exact h i;exact k _
def Rt(d:Nat):∀(n:Nat)(o:List Int),By o->By (DT d n o)
 | 0,o,h=>h
 | n+1,o,h=>Rt d n _ (h.append (λ i=>by
  cases i with
  | zero=>exact h _
  | succ i=>simp))
def U9{ls:List Int}{ps:List Sq}{most:Int}(h:By ls):∀k,By (rs ls ps most k).2.2
 | 0=>By.nil
 | k+1=>by have f:=U9 (ps:=ps) (most:=most) h k;simp only[rs];split;exact f;split;exact By.nil;split;exact By.nil;exact Rt _ _ _ (f.append ((h.drop _).take _))
def AFS{ls ps most}(h:By ls):By (Dl ls ps most).2:=by unfold Dl;split;exact By.nil;split;exact By.nil;split;exact By.nil;exact(U9 h _).append (h.drop _)
def RY{σ}(n)(h:By (σ.getD [])):By (Ay σ n).1:=by
 cases σ with
 | none=>exact By.nil
 | some l=>unfold Ay;simp only;split;exact By.take h n;exact By.nil
def ADg{σ}(h:By (σ.getD [])):By ((BQ σ).2.getD []):=by
 cases σ with
 | none=>exact By.nil
 | some l=>
  unfold BQ;simp only;split;exact By.drop h 1
  grind
def ADP{σ}(h:By (σ.getD [])):By ((AV σ).2.getD []):=by
 cases σ with
 | none=>exact By.nil
 | some l=>
  unfold AV;simp only;cases e:BJ l with
  | none=>exact By.nil
  | some r=>exact By.drop h r.2
def RC{σ}(b)(h:By (σ.getD [])):By ((Aj σ b).getD []):=by
 cases b with
 | true=>exact h
 | false=>exact By.nil
def ACR{σ}(n)(h:By (σ.getD [])):By (litS σ n).1:=by unfold litS;simp only;split;split;exact RY _ (ADg (ADP h));split;exact Sl _ _ _;exact By.nil;exact By.nil
def YA{σ}(f n)(h:By (σ.getD [])):By (bodyS σ f n).1:=by unfold bodyS;split;exact RY n h;split;exact YL n (UP (RC _ h));exact AFS (ACR _ (RC _ h))
def AHr(v ys most w)(hr:Rd .u8 w v ys)(hy:By ys)(hl:ys.length<=140737488355328)(aj:∀k,v.ownBlock=some k->k<w.heap.size):
 Calls prog 71 #[v,.int .i64 most] w λ e w'=>Fw (unpS ys most) w e w':=by
 have HR:=z6 hr;have HY:=z6 hy;have au:=z6 aj;obtain⟨va,vc,b0,_⟩:=hr;clear hy aj;unfold unpS;by_cases Z:most<0
 .rw[if_pos (.inl Z)];have ad:decide (most<0)=true:=by rw[zg1];exact Z
  go_enter func71,ntmps71
  go_wp2_with fail;go_ret2;exact Fw.bad (Below.refl _ _)
 by_cases h2:65536<most
 .rw[if_pos (.inr h2)];have ad:decide (most<0)=false:=by rw[AT];exact Z
  go_enter func71,ntmps71
  go_wp2_with fail;go_ret2;exact Fw.bad (Below.refl _ _)
 rw[if_neg (by omega)];have ad:decide (most<0)=false:=by rw[AT];exact Z
 have b4:decide (65536<most)=false:=by rw[AT];exact h2
 obtain⟨As,ae⟩:=exH (BQ (some ys));have ag:=UP (σ:=some ys) HY.o;rw[ae.o]at ag |-
 obtain⟨x,σ1⟩:=As;simp only at ag |-
 obtain⟨Ms,af⟩:=exH (AV σ1);rw[af.o];obtain⟨m0,σ2⟩:=Ms;simp only;obtain⟨R,E⟩:=exH (unpT σ2 x m0 most);rw[E.o]
 go_enter func71,ntmps71
 subst b0;go_wp2_with fail;obtain⟨W0,a0⟩:=exH (w.alloc (.cells #[.slice va ys.length vc,.bool false] 191));rw[a0.o];obtain⟨g,hg⟩:=exN w.heap.size;rw[hg];have K:=z6 hg;have O:Hid (Below w.heap.size w W0):=by rw[<-a0.o];exact(Below.refl _ _).alloc (AE _) _
 have S0:Hid (AZ g W0 g (some ys)):=by refine⟨.slice va ys.length vc,?_,HR.o.below O.o,HY.o,λ k B=>by have:=au.o k B;omega,AE _,hl⟩;rw[<-a0.o,<-hg];exact heap_alloc_new w _
 clear a0 hg HR;have H1:=QE g g (some ys) W0 S0.o;rw[ae.o]at H1;refine H1.mono ?_;clear H1;rintro e w1 ⟨rfl,ak,an⟩;have S1:=z6 ak;have B1:=z6 (O.o.trans (an.below O.o.size (λ k e=>by have:=K.o;omega)));clear ak an S0 O;have H2:=Mv g g σ1 w1 S1.o;have a7:=Jc S1.o.bys;rw[af.o]at H2 a7;have aa:=z6 H2;simp only at a7;clear H2;go_wp2_with fail;refine aa.o.mono ?_;clear aa;rintro e w2 ⟨rfl,⟨b3,a8⟩,ao⟩;have L:=z6 a8;have A:=z6 (B1.o.trans (ao.below B1.o.size (λ k e=>by have:=K.o;omega)));have c1:=a8.c1;clear a8 ao S1 B1;have f:=E.o;unfold unpT at f;cases hσ:σ2 with
 | none=>
  rw[hσ]at c1 f;simp only[Option.isNone_none]at c1;have q:Hid (R=(5,[])):=by show _=_;rw[<-f,if_pos (.inl rfl)]
  clear f E hσ L;go_wp2_with fail;go_ret2;rw[q.o];exact Fw.bad A.o
 | some l2=>
  rw[hσ]at c1 f;simp only[Option.isNone_some]at c1;by_cases a4:2<x
  .have q:Hid (R=(5,[])):=by show _=_;rw[<-f,if_pos (.inr a4)]
   (have b2:decide (2<x)=true:=by rw[zg1];exact a4);clear f E hσ L;go_wp2_with fail;go_ret2;rw[q.o];exact Fw.bad A.o
  .have b2:decide (2<x)=false:=by rw[AT];exact a4
   rw[if_neg (by simp[a4])]at f;by_cases a2:most<m0
   .have q:Hid (R=(11,[])):=by show _=_;rw[<-f,if_pos a2]
    (have az:decide (most<m0)=true:=by rw[zg1];exact a2);clear f E hσ L;go_wp2_with fail;go_ret2;rw[q.o];exact Fw.bad A.o
   .have az:decide (most<m0)=false:=by rw[AT];exact a2
    rw[if_neg a2]at f;obtain⟨m,rfl⟩:=Int.eq_ofNat_of_zero_le a7.1;rw[Int.toNat_natCast]at f;(have X:Hid (AZ g w2 g (some l2)):=by rw[<-hσ];exact⟨b3,L.o⟩);obtain⟨bs,ax⟩:=exH (bodyS (some l2) x m);have a1:=YA x m X.o.bys;have U:=AHF g g (some l2) x m w2 X.o (by omega) (by have:=A.o.size;have:=K.o;omega) (by omega);rw[ax.o]at f a1 U;obtain⟨J,σ3⟩:=bs;simp only at f a1 U;obtain⟨ss,am⟩:=exH (E8 σ3);rw[am.o]at f;obtain⟨sm,σ4⟩:=ss;simp only at f;have r:=z6 f;have ac:=z6 U;have aq:=z6 a1;have ar:=z6 X.o.lt;clear f E hσ L X a1 U;go_wp2_with fail;refine ac.o.mono ?_;clear ac;rintro e w3 ⟨a5,rfl,I,al,ap⟩;have S3:=z6 al
    have N3:Hid (Nw w.heap.size w3 a5 J):=⟨I.rd,I.fz,λ k B=>by have:=I.new k B;have:=A.o.size;omega,I.sp⟩
    (have M3:Hid (∀k,a5.ownBlock=some k->k≠g):=λ k B=>by have:=I.new k B;have:=ar.o;omega);have B3:=z6 (A.o.trans (ap.below A.o.size (λ k e=>by have:=K.o;omega)));clear I al ap A c1;have H4:=AGF g g σ3 w3 S3.o;rw[am.o]at H4;have ab:=z6 H4;clear H4;go_wp2_with fail;refine ab.o.mono ?_;clear ab;rintro e w4 ⟨rfl,⟨b5,a3⟩,a9⟩;have N4:=z6 (N3.o.tch a9 (λ k B e=>M3.o k B e));have T:=z6 (B3.o.trans (a9.below B3.o.size (λ k e=>by have:=K.o;omega)));have d0:=a3.c0;have Y:=a3.c1;obtain⟨la,lc,ai,_⟩:=a3.rd;obtain⟨L4,aw⟩:=exH ((σ4.getD []).length);rw[aw.o]at ai r;clear a3 a9 S3 N3 B3;subst ai;cases hσ4:σ4 with
    | none=>rw[hσ4]at Y r;simp only[Option.isNone_none]at Y;(have q:Hid (R=(5,[])):=by show _=_;rw[<-r.o,if_pos (.inl rfl)]);clear r hσ4;go_wp2_with fail;go_ret2;rw[q.o];exact Fw.bad T.o
    | some l4=>
     rw[hσ4]at Y r;simp only[Option.isNone_some]at Y;by_cases hL:0<L4
     .have q:Hid (R=(5,[])):=by show _=_;rw[<-r.o,if_pos (.inr hL)]
      clear r hσ4;go_wp2_with fail;go_ret2;rw[q.o];exact Fw.bad T.o
     .have av:L4=0:=by omega
      subst av;have a6:=r.o;rw[if_neg (by simp)]at a6;clear r hσ4;have W:=z6 a6;clear a6;go_wp2_with fail;refine(Nz a5 J w4 N4.o.rd aq.o).mono ?_;rintro e w5 ⟨rfl,rfl⟩;by_cases hc:sm=(BU J:Int)
      .have q:Hid (R=(0,J)):=by show _=_;rw[<-W.o,if_pos hc]
       (have ay:(sm != (BU J:Int))=false:=by simp[hc]);clear W hc;go_wp2_with fail;go_ret2;rw[q.o];exact⟨a5,rfl,N4.o,T.o⟩
      .have q:Hid (R=(6,[])):=by show _=_;rw[<-W.o,if_neg hc]
       (have ay:(sm != (BU J:Int))=true:=by simp[hc]);clear W hc;go_wp2_with fail;go_ret2;rw[q.o];exact Fw.bad T.o
end
section
open Go.RowKit
open Ah in
def AX(s:Ah.StA):Nat->List Int×Ah.StA
 | 0=>([],s)
 | m+1=>((AX s m).1++[(Ah.take (AX s m).2).1],(Ah.take (AX s m).2).2.2)
structure XB(s:Ah.StA)(m:Nat):Prop where
 len:(AX s m).1.length=m
 nd:(AX s m).1.Nodup
 fr:∀x∈(AX s m).1,Ah.stvA s x=0/\(s.lo:Int)<=x/\x<s.lo+s.L.length
 st:∀x,Ah.stvA (AX s m).2 x=if x∈(AX s m).1 then 1 else Ah.stvA s x
 cnt:(AX s m).2.L.count 0+m=s.L.count 0
 lo:(AX s m).2.lo=s.lo
 ln:(AX s m).2.L.length=s.L.length
 as0:(AX s m).2.as=s.as-m
 ok:Ah.SokA (AX s m).2
def WE{s}(h:s.L.count 0≠0):(Ah.take s).2.1=true/\(Ah.take s).1=((s.lo+s.L.idxOf 0:Nat):Int)/\(∀x,Ah.stvA (Ah.take s).2.2 x=if x=(Ah.take s).1 then 1 else Ah.stvA s x)/\(Ah.take s).2.2.L.count 0+1=s.L.count 0/\(Ah.take s).2.2.lo=s.lo/\(Ah.take s).2.2.L.length=s.L.length/\(Ah.take s).2.2.as=s.as-1/\Ah.stvA s (Ah.take s).1=0:=by
 obtain⟨f,q,_⟩:=Ah.first0 h;have e:Ah.take s=(((s.lo+s.L.idxOf 0:Nat):Int),true,⟨s.lo,s.L.set (s.L.idxOf 0) 1,s.as-1⟩):=by unfold Ah.take;grind
 rw[e];refine⟨rfl,rfl,λ x=>Ah.stv_put (s:=s) f 1 x,?_,rfl,by simp,rfl,?_⟩
 .grind
 .exact(Ah.stv_in f).trans q
def J9{s}(B:Ah.SokA s)(m)(X:m<=s.L.count 0):XB s m:=by
 induction m with
 | zero=>exact⟨rfl,List.nodup_nil,λ x f=>by simp[AX]at f,λ x=>by simp[AX],rfl,rfl,rfl,rfl,B⟩
 | succ m E=>
  have h:=E (by omega);have hc:=h.cnt;obtain⟨Z,t2,I,t4,J,K,O,q⟩:=WE (s:=(AX s m).2) (by omega);have Y:=q;rw[h.st]at q;have A:(Ah.take (AX s m).2).1∉(AX s m).1:=λ e=>by grind
  rw[if_neg A]at q;refine⟨by simp[AX,h.len],?_,λ x f=>?_,λ x=>?_,by show(Ah.take _).2.2.L.count 0+_=_;omega,J.trans h.lo,K.trans h.ln,by show(Ah.take _).2.2.as=_;rw[O,h.as0];omega,Ah.take_okA h.ok⟩
  .show((AX s m).1++[_]).Nodup;rw[List.nodup_append];refine⟨h.nd,by simp,λ a ha b U e=>?_⟩
   grind
  .have f:x∈(AX s m).1++[(Ah.take (AX s m).2).1]:=f;rcases zf0.1 f with e|e;exact h.fr x e;simp at e;subst e;refine⟨q,?_⟩;obtain⟨i,W,e,_⟩:=Ah.stv_idx (s:=s) (n:=(Ah.take (AX s m).2).1) (by omega);omega
  .have T:(AX s (m+1)).1=(AX s m).1++[(Ah.take (AX s m).2).1]:=rfl;have r:(AX s (m+1)).2=(Ah.take (AX s m).2).2.2:=rfl;rw[r,I,h.st]
   grind
def ZB{s}(f:Ah.SokA s){m}(q:m<s.L.count 0):(Ah.take (AX s m).2).2.1=true:=by have h:=J9 f m (by omega);have:=h.cnt;exact(WE (s:=(AX s m).2) (by omega)).1
noncomputable def ckLd(V:Vw)(b len:Int):Int×List Int×List Int:=
 if (An V b len).1≠0 then((An V b len).1,[],[])
 else if (unpS (An V b len).2.1 len).1≠0\/((unpS (An V b len).2.1 len).2.length:Int)≠len then(7,[],[])
 else(0,(unpS (An V b len).2.1 len).2,(An V b len).2.2)
def Yw{V b f pk bl}(h:An V b f.length=(0,pk,bl))(q:unpS pk f.length=(0,f)):ckLd V b f.length=(0,f,bl):=by
 unfold ckLd
 grind
def Rh{V b f q bl}(h:ckLd V b f=(0,q,bl)):∃pk,An V b f=(0,pk,bl)/\(unpS pk f).1=0/\(unpS pk f).2=q/\(q.length:Int)=f:=by
 unfold ckLd at h
 grind
def Yv{V V' b q f bl}(h:ckLd V b q=(0,f,bl))(hv:∀x∈bl,V' x=V x):ckLd V' b q=(0,f,bl):=by
 obtain⟨pk,r,A,B,E⟩:=Rh h;have:=Y7 r hv;unfold ckLd
 grind
structure Ce where
 b:Int
 ds:List Int
 bl:List Int
structure Ab where
 A:Ah.StA
 V:Vw
 Q:Vw
 F:Int->Bool
 K:List Ce
 n:Nat
def Fa(V:Vw)(x:Int)(y:Int×Int×List Int):Vw:=λ z=>if z=x then y else V z
def ZD(V x y):Fa V x y x=y:=if_pos rfl
def ZC(V){x m}(y)(h:m≠x):Fa V x y m=V m:=if_neg h
def Bx(V:Vw):List Int->List (Int×List Int)->Vw
 | n::r,b::s=>Bx (Fa V n (0,b)) r s
 | _,_=>V
def EJ(many:Int)(pk more:List Int):List (Int×List Int):=(3,CW many pk more)::(List.range more.length).map λ i=>(4,EK pk more.length i)
def Tc{V ns bs x}(h:x∉ns):Bx V ns bs x=V x:=by
 induction ns generalizing V bs with
 | nil=>simp[Bx]
 | cons n r f=>
  cases bs with
  | nil=>simp[Bx]
  | cons b s=>
   simp only[Bx];rw[f (λ e=>h (by simp[e]))];unfold Fa
   grind
def Tb{V ns bs}(f:ns.Nodup){i:Nat}(q)(A:i<bs.length):Bx V ns bs ns[i]=(0,bs[i]):=by
 induction ns generalizing V bs i with
 | nil=>simp at q
 | cons n r B=>
  cases bs with
  | nil=>simp at A
  | cons b s=>
   rw[List.nodup_cons]at f;simp only[Bx];cases i with
   | zero=>simp only[List.getElem_cons_zero];rw[Tc f.1];simp[Fa]
   | succ i=>grind
def A8(pk:List Int):Nat:=1+(Dc pk.length).toNat
def Ab.sv(s:Ab)(ds pk:List Int):Ab where
 A:=(AX s.A (A8 pk)).2
 V:=Bx s.V (AX s.A (A8 pk)).1 (EJ ds.length pk (AX s.A (A8 pk)).1.tail)
 Q:=s.Q
 F:=λ x=>s.F x||decide (x∈(AX s.A (A8 pk)).1)
 K:=s.K++[⟨(AX s.A (A8 pk)).1.headD 0,ds,(AX s.A (A8 pk)).1⟩]
 n:=s.n
structure FW(s:Ab):Prop where
 so:Ah.SokA s.A
 ld:∀e∈s.K,ckLd s.V e.b e.ds.length=(0,e.ds,e.bl)
 bl:∀e∈s.K,e.bl.head?=some e.b/\e.bl.length<=3/\e.bl.Nodup
 by_:∀e∈s.K,By e.ds/\1<=e.ds.length/\e.ds.length<=512
 tk:∀e∈s.K,∀x∈e.bl,Ah.stvA s.A x=1
 dj:s.K.Pairwise λ e f=>∀x∈e.bl,x∉f.bl
 ne:s.K.Pairwise λ e f=>e.ds≠f.ds
def FW.sv{s}(h:FW s){r pk}(hd:By r)(h1:1<=r.length/\r.length<=512)(W:pk.length<=711)(hu:unpS pk r.length=(0,r))(q:3<=s.A.L.count 0)(hn:∀e∈s.K,e.ds≠r):FW (s.sv r pk):=by
 have hw:A8 pk<=3/\(A8 pk:Int)=1+Dc pk.length:=by have:=G8 W;unfold A8;omega
 have T:=J9 h.so (A8 pk) (by omega);obtain⟨b,B,e⟩:∃b B,(AX s.A (A8 pk)).1=b::B:=by
  cases e:(AX s.A (A8 pk)).1 with
  | nil=>have:=T.len;rw[e]at this;simp[A8]at this;omega
  | cons b B=>simp
 have a0:(B.length:Int)=Dc pk.length:=by have:=T.len;grind
 have U:∀f∈s.K,∀x∈f.bl,x∉b::B:=λ f q x E hm=>by have:=h.tk f q x E;have:=(T.fr x (by grind)).1;omega
 have J:(b::B).Nodup:=by rw[<-e];exact T.nd
 have hr:∀x∈b::B,0<=x/\x<=65535:=λ x E=>by have:=(T.fr x (by grind)).2;have:=h.so.top;omega
 have hb:(EJ r.length pk B).length=B.length+1:=by simp[EJ]
 have O:(s.sv r pk).V=Bx s.V (b::B) (EJ r.length pk B):=by show Bx _ _ _=_;rw[e];rfl
 have I:(s.sv r pk).K=s.K++[⟨b,r,b::B⟩]:=by show s.K++_=_;rw[e];rfl
 have X:∀x,Ah.stvA (s.sv r pk).A x=if x∈b::B then 1 else Ah.stvA s.A x:=λ x=>by rw[<-e];exact T.st x
 have Y:An (s.sv r pk).V b r.length=(0,pk,b::B):=by rw[O];refine ZE (by omega) W a0 (λ x E=>hr x (by simp[E])) J ?_ (λ i hi=>?_);exact Tb (V:=s.V) J (i:=0) (by simp) (by omega);have:=Tb (V:=s.V) (bs:=EJ r.length pk B) J (i:=i+1) (by grind) (by omega);simpa[EJ]using this
 refine⟨T.ok,?_,?_,?_,?_,?_,?_⟩;intro f q;rw[I]at q;rcases zf0.1 q with q|q;refine Yv (h.ld f q) (λ x E=>?_);rw[O];exact Tc (U f q x E);simp at q;subst q;exact Yw Y hu
 .intro f q;rw[I]at q;rcases zf0.1 q with q|q;exact h.bl f q
  grind
 .intro f q;rw[I]at q;rcases zf0.1 q with q|q;exact h.by_ f q
  grind
 .intro f q x E;rw[I]at q;rw[X];rcases zf0.1 q with q|q;rw[if_neg (U f q x E)];exact h.tk f q x E
  grind
 .rw[I,List.pairwise_append];exact⟨h.dj,by simp,λ f q g Z x E=>by grind⟩
 .rw[I,List.pairwise_append];exact⟨h.ne,by simp,λ f q g Z=>by grind⟩
def FW.uniq{s}(h:FW s){e f}(A:e∈s.K)(B:f∈s.K)(J:e.ds=f.ds\/e.b=f.b):e=f:=by
 have key:∀{K:List Ce},K.Pairwise (λ e f=>(∀x∈e.bl,x∉f.bl)/\e.ds≠f.ds)->(∀e∈K,e.bl.head?=some e.b)->e∈K->f∈K->e=f:=fun{K}=>by
  induction K with
  | nil=>simp
  | cons a r O=>
   intro I E A B;obtain⟨T,U⟩:=List.pairwise_cons.1 I;have L:∀g∈a::r,g.b∈g.bl:=λ g q=>List.mem_of_mem_head? (E g q)
   grind
 exact key (h.dj.and h.ne) (λ g q=>(h.bl g q).1) A B
end
section
open Go.RowKit Pl
def Nn{xs}(h:∀x∈xs,0<=x/\x<=255):By xs:=by
 intro i;rw[AP];cases e:xs[i]? with
 | none=>simp
 | some n=>exact h n (zd1 e)
def H7(n)(f:0<=n)(q:n<=4294967295):By (AQ n):=Nn (Zh 4 n f (by omega))
def In{x}(h:0<=x/\x<=255):By [x]:=Nn (λ y f=>by grind)
def YP(c):By (BO c):=Nn (λ y f=>by
 unfold BO at f
 grind)
