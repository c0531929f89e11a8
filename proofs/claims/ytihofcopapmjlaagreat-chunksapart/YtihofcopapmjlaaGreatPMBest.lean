import Derived.Test.YtihofcopapmjlaaGreatPFCat
import Derived.Deep.MidRow
set_option maxRecDepth 100000
set_option linter.all false
set_option maxHeartbeats 8000000
namespace Go.Proofs.YtihofcopapmjlaaGreat
open Go.Proofs.Tryz
open Go.RowKit Pl
def AE3{f}{p:Tmp}{ty}(h:f.results=#[.cell p ty])(q P w):
 (results f q).run P w=((asAddr (q.getD p undef)).run P w).andThen λ a r=>(loadVar ty a).run P r:=by
 simp only[results,h];simp
def Kk{f}{p:Tmp}{ty}(h:f.results=#[.cell p ty])(q P w b v)(ha:q.getD p undef=.pointer (some ⟨b,0,none⟩))(r:(loadVar ty ⟨b,0,none⟩).run P w=.ok v w):(results f q).run P w=.ok v w:=by
 rw[AE3 h,ha];simp[asAddr,Result.andThen,r]
def BP(w:World)(B:Nat)(x y:Int):Prop:=w.heap[B]?=some (.cells #[.int .i64 x,.int .i64 y] 241 (0,0))
theorem ABP:(prog.info? 241).map (·.size)=some 2:=by kernel_rfl
def BP.load{w B x y}(h:BP w B x y):(loadVar 241 ⟨B,0,none⟩).run prog w=.ok (.agg #[.int .i64 x,.int .i64 y]) w:=
 run_loadVar_mid (P:=prog) w B 0 241 [.int .i64 x,.int .i64 y] _ (λ j v hv=>by
  rw[Nat.zero_add,cell_of_row w B j _ _ (0,0) h];simpa using hv) underlying241 rfl ABP
def BP.c0{w B x y}(h:BP w B x y):w.cell? ⟨B,0,none⟩=some (.int .i64 x):=by rw[cell_of_row w B 0 _ _ (0,0) h];rfl
def BP.c1{w B x y}(h:BP w B x y):w.cell? ⟨B,1,none⟩=some (.int .i64 y):=by rw[cell_of_row w B 1 _ _ (0,0) h];rfl
def BP.fz{w B x y}(h:BP w B x y)(i):w.frozen? ⟨B,i,none⟩=false:=frozen_of_row w B i _ _ h
def BP.lt{w B x y}(h:BP w B x y):B<w.heap.size:=(za0.1 h).1
def BP.tch{S w w' B x y}(h:BP w B x y)(q:AD S w w')(f:¬S B):BP w' B x y:=by unfold BP;rw[q.block B h.lt f];exact h
def BP.below{w w' B x y}(h:BP w B x y)(f:Below w.heap.size w w'):BP w' B x y:=h.tch (S:=λ _=>False) (AD.of_below f) (λ e=>e)
def I9(w:World)(x y):BP (w.alloc (.cells #[.int .i64 x,.int .i64 y] 241)) w.heap.size x y:=heap_alloc_new w _
def BP.set{w B x y}(h:BP w B x y)(u v):BP ((w.setCell ⟨B,0,none⟩ (.int .i64 u)).setCell ⟨B,1,none⟩ (.int .i64 v)) B u v:=by unfold BP;have f:=heap_setCell_same w B 0 _ _ (.int .i64 u) h;rw[heap_setCell_same _ B 1 _ _ (.int .i64 v) f];rfl
def CJ(w:World)(F G n b o c:Nat)(win:Int)(ds:List Int)(at_:Nat):Prop:=
 ∃(k:Nat)(h:Nat->Int)(ad:List Int),k<=at_/\Fd w F G n (.slice (some ⟨b,o,none⟩) n c) win k h ad/\Lk ds k h ad/\ad.length=n
def Xt(f q i)(h:ml f i<4):best f q i=(0,0):=by unfold best;have:=Lf f i (d:=0) (e:=min q i) (AI _) (λ t _ _=>.inl (by have:=I4 f i (i-t) (ml f i);omega));rw[this];rfl
def Xo(F G n b o c at_ A W f w)(H:CJ w F G n b o c A f at_)(D:Dt w b o n f)(Y:n<=65536)(ha:at_<=n)(L:n-at_<4):
 Calls prog 159 #[.pointer (some ⟨F,0,none⟩),.int .i64 at_] w λ e w'=>e=.returned (.agg #[.int .i64 ((best f W at_).1:Int),.int .i64 ((best f W at_).2:Int)])/\CJ w' F G n b o c A f at_/\AD (λ j=>j=F\/j=G) w w':=by
 have e:=Xt f W at_ (by unfold ml;have:=D.1;omega);rw[e];obtain⟨k,h,J,K,hF,r,q⟩:=H;have E:=z6 hF;have I:=z6 r;have B:=z6 q;have O:=hF.c0;have T:=hF.lt;have U:(n:Int)-(at_:Int)<4:=by omega
 have X:0<=(n:Int)-(at_:Int):=by omega
 clear hF r q D e L
 go_enter func159,ntmps159
 go_wp2_with fail
 go_step3
 go_wp2_with fail;rw[Exit.noGoto_ret];refine bodyPost_ret (v:=.agg #[.int .i64 0,.int .i64 0]) ?_ rfl ⟨rfl,?_,?_⟩;refine Kk (p:=4) (ty:=241) rfl _ _ _ w.heap.size _ rfl ?_;exact((I9 w 0 0).below ((Below.refl _ _).alloc (AE _) _)).load;exact⟨k,h,J,K,E.o.below (((Below.refl _ _).alloc (AE _) _).alloc (by simp) _),I.o,B.o⟩;exact((AD.refl _ w).alloc _).alloc _
def Xs{f W i P bl q}(B:P<i)(E:i-P<=W)(r:BZ f i (min W (i-(P+1)))=(bl,q)):
 BZ f i (min W (i-pv f (CD f i) P))=if 4<=rn f i P (ml f i)/\bl<rn f i P (ml f i)then(rn f i P (ml f i),i-P)else(bl,q):=by
 rw[Xq f W i P B E];have e:i-P=(i-(P+1))+1:=by omega
 have A:min W (i-(P+1))=i-(P+1):=by omega
 rw[A]at r;rw[e];simp only[BZ,r]
 grind
def Xp{f W i L bl q}(r:BZ f i (min W (i-L))=(bl,q))(A:bl=ml f i):best f W i=(bl,q):=by unfold best;rw[<-r];refine Lf f i (by omega) (λ t _ _=>.inr ?_);rw[r];show _<=bl;rw[A];exact I4 _ _ _ _
def Xn{q W i P bl f}(A:BZ q i (min W (i-(P+1)))=(bl,f))(r:P<i)(B:W<i-P):best q W i=(bl,f):=by
 unfold best
 grind
def AFI{f i P m bl}(h:f.getD (P+bl) 0≠f.getD (i+bl) 0):rn f i P m<=bl:=by rcases Nat.lt_or_ge bl (rn f i P m)with e|e;exact absurd (Gl f i P m bl e).symm h;exact e
def RO(f:List Int)(i:Nat):∀d,(BZ f i d).2<=d
 | 0=>AE _
 | d+1=>by simp only[BZ];split;omega;have:=RO f i d;omega
def Xr(F G n b o c at_ ap)(W:Nat)(A w)(H:CJ w F G n b o c ap A at_)(D:Dt w b o n A)(b0:b≠F/\b≠G)(hn:n<=65536)(hc:n<=c)(b2:c<=9223372036854775807)(ha:at_+4<=n)(bi:ap=W)(ca:1<=W)(an:W<=65536):
 Calls prog 159 #[.pointer (some ⟨F,0,none⟩),.int .i64 at_] w λ e w'=>e=.returned (.agg #[.int .i64 ((best A W at_).1:Int),.int .i64 ((best A W at_).2:Int)])/\CJ w' F G n b o c ap A at_/\AD (λ j=>j=F\/j=G) w w':=by
 subst bi;obtain⟨k,h,ad,hk,hF,hL,hA⟩:=H;have HF:=z6 hF;have HL:=z6 hL;have I:=z6 hA;have HD:=z6 D;have ac:=z6 b0;have c0:=hF.c0;have az:=hF.lt;have au:=z6 hF.ltG;obtain⟨M,hM⟩:=exH (ml A at_);have bd:M<=259/\M<=n-at_/\4<=M/\(M=259\/M=n-at_):=by rw[<-hM.o];unfold ml;have:=D.1;omega
 obtain⟨R,hR⟩:=exH (best A W at_);rw[hR.o];obtain⟨s,hs⟩:=exH (CD A at_);have b7:s<4096:=by rw[<-hs.o];exact QD _ _
 obtain⟨f,J⟩:=exH w.heap.size;have ay:Hid (∀W2:World,W2=((w.alloc (.cells #[.int .i64 0,.int .i64 0] 241)).alloc (.cells #[.int .i64 0,.int .i64 0] 241))->BP W2 f 0 0/\BP W2 (f+1) 0 0/\Below w.heap.size w W2):=by intro W2 e;subst e;refine⟨?_,?_,((Below.refl _ _).alloc (AE _) _).alloc (by simp) _⟩;rw[<-J.o];exact(I9 w 0 0).below ((Below.refl _ _).alloc (AE _) _);have:=I9 (w.alloc (.cells #[.int .i64 0,.int .i64 0] 241)) 0 0;rw[World.size_alloc,J.o]at this;exact this
 clear hF hL hA D b0;have al:((259:Int)<=(n:Int)-(at_:Int)/\M=259)\/((n:Int)-(at_:Int)<259/\M=n-at_):=by omega
 have aw:=z6 al
 go_enter func159,ntmps159
 go_wp2_with fail
 go_step3
 obtain⟨m0,bx⟩:∃m0,Hid (m0=(M:Int)/\(m0=259\/m0=(n:Int)-(at_:Int))):=by
  rcases al with⟨_,e⟩|⟨_,e⟩
  .exact⟨259,by rw[e];rfl,.inl rfl⟩
  .exact⟨(n:Int)-(at_:Int),by rw[e];omega,.inr rfl⟩
 rcases al with⟨bf,b6⟩|⟨bf,b6⟩
 all_goals
  have bz:=bd.2.2.1;clear b6;go_wp2_with fail
  first|rw[show(259:Int)=(M:Int) by have:=aw.o;omega]|rw[show(n:Int)-(at_:Int)=(M:Int) by have:=aw.o;omega]
  obtain⟨w2,an⟩:=exH ((w.alloc (.cells #[.int .i64 0,.int .i64 0] 241)).alloc (.cells #[.int .i64 0,.int .i64 0] 241));rw[an.o,J.o];obtain⟨t4,O,a7⟩:=ay.o w2 an.o.symm;have av:Hid (Calls prog 188 #[.pointer (some ⟨F,0,none⟩),.int .i64 at_] w2 λ e w'=>(∃v,e=.returned v)/\(∃h ad,Fd w' F G n (.slice (some ⟨b,o,none⟩) n c) W at_ h ad/\Lk A at_ h ad/\ad.length=n)/\AD (λ j=>j=F\/j=G) w2 w'):=
   ACP F G n b o c at_ k W h ad A w2 (HF.o.below a7) (HD.o.below a7) HL.o ac.o I.o hn hc b2 ha hk
  have T2:Hid (AD (λ j=>j=F\/j=G) w w2):=AD.of_below a7;have bm:F<f:=by rw[<-J.o];exact az
  have bn:G<f:=by rw[<-J.o];exact au.o
  have U4:=z6 t4;have U6:=z6 O;clear t4 O a7 ay HF HL I c0 az au;refine av.o.mono ?_;clear av;rintro e w3 ⟨⟨v3,rfl⟩,⟨X,U,af,ag,hA3⟩,ab⟩;have F3:=z6 af;have HL:=z6 ag;have I:=z6 hA3;have T3:Hid (AD (λ j=>j=F\/j=G) w w3):=T2.o.trans ab (λ _ _ e=>e);have X4:=z6 (U4.o.tch ab (λ e=>by omega));have X6:=z6 (U6.o.tch ab (λ e=>by omega));have D3:=z6 (HD.o.tch T3.o (λ e=>by have:=ac.o;rcases e with e|e<;>simp[e]at this));have eh:=af.ch s b7;obtain⟨L0,a8⟩:=exH (pv A s at_);have bc:L0<=at_:=by rw[<-a8.o];exact Ki _ _ _
  rw[ag.1 s b7,a8.o]at eh;have a2:Hid (∀q,Calls prog 189 #[.pointer (some ⟨F,0,none⟩),.int .i64 at_] (w3.drewN q) λ e w'=>e=.returned (.int .i64 (s:Int))/\∃m,w'=(w3.drewN q).drewN m):=λ q=>by have:=VT F G n b o c at_ W at_ X U A (w3.drewN q) (F3.o.below (Below.of_drewN _ _ _)) (D3.o.below (Below.of_drewN _ _ _)) hn hc b2 ha;rw[hs.o]at this;exact this
  have c9:(s:Int)<4096:=by omega
  clear af ag hA3 ab T2 U4 U6;go_wp2_with fail
  go_step3
  go_wp2_with fail;go_quiet (first|(go_at_call 189;exact Calls.quiet_of (a2.o _)));go_wp2_with fail;clear a2 eh
  go_loopw [7] (λ l wr=>∃(L bl B:Nat),l=.int .i64 L/\L<=at_/\bl<=M/\B<=at_/\Hid (0<L->CD A (L-1)=s)/\Hid (BZ A at_ (min W (at_-L))=(bl,B))/\Hid (Fd wr F G n (.slice (some ⟨b,o,none⟩) n c) W at_ X U)/\Hid (BP wr f 0 0)/\Hid (BP wr (f+1) bl B)/\Hid (AD (λ j=>j=F\/j=G) w wr)) (λ l _=>(intOf l).toNat)
  case atStart=>refine⟨L0,0,0,rfl,bc,AI _,AI _,?_,?_,?_,?_,?_,?_⟩;show 0<L0->_;rw[<-a8.o];exact Pa A s at_;show _=_;rw[<-a8.o,<-hs.o];exact Xu A W at_;exact F3.o.below (Below.of_drewN _ _ _);exact X4.o.below (Below.of_drewN _ _ _);exact X6.o.below (Below.of_drewN _ _ _);exact T3.o.trans (AD.of_below (S:=λ j=>j=F\/j=G) (Below.of_drewN _ _ _)) (λ _ _ e=>e)
  case round=>
   clear F3 T3 X4 X6 D3;obtain⟨L,bl,B,rfl,bq,ak,aj,a2,a5,K,T,Y6,TT⟩:=hrel;have y0:=Y6.o.c0;have y1:=Y6.o.c1;have z0:=T.o.c0;have z1:=T.o.c1;have bj:=T.o.fz 0;have bk:=T.o.fz 1;by_cases hL:L=0
   .subst hL;have HR:Hid (R=(bl,B)):=by show R=_;rw[<-hR.o,<-a5.o];unfold best;rw[Nat.sub_zero]
    have T9:Hid (AD (λ j=>j=F\/j=G) w ((wr.setCell ⟨f,0,none⟩ (.int .i64 bl)).setCell ⟨f,1,none⟩ (.int .i64 B))):=AD.setCell (AD.setCell TT.o (p:=⟨f,0,none⟩) (λ e=>by have:=J.o;simp only at e;omega) _) (p:=⟨f,1,none⟩) (λ e=>by have:=J.o;simp only at e;omega) _;have F9:Hid (Fd ((wr.setCell ⟨f,0,none⟩ (.int .i64 bl)).setCell ⟨f,1,none⟩ (.int .i64 B)) F G n (.slice (some ⟨b,o,none⟩) n c) W at_ X U):=K.o.tch (S:=λ k=>k=f) ((FQ wr f 0 _).trans (FQ _ f 1 _) (λ _ _ e=>e)) (λ e=>by omega) (λ e=>by omega);have Y9:=z6 (T.o.set bl B);go_wp2_with fail;try rw[Exit.noGoto_ret]
    refine bodyPost_ret (v:=.agg #[.int .i64 (bl:Int),.int .i64 (B:Int)]) ?_ rfl ⟨by rw[HR.o],⟨at_,X,U,AE _,F9.o,HL.o,I.o⟩,T9.o⟩;exact Kk (p:=4) (ty:=241) rfl _ _ _ f _ rfl Y9.o.load
   .obtain⟨P,rfl⟩:∃P,L=P+1:=⟨L-1,by omega⟩
    (have ai:P<at_:=by omega);(have bp:(0:Int)<((P+1:Nat):Int):=by omega);have f0:=K.o.c0;have f1:=K.o.c1;have f4:=K.o.c4;clear hL;by_cases aa:bl=M
    .have g1:((bl:Int)==(M:Int))=true:=by rw[beq_iff_eq];omega
     (have HR:Hid (R=(bl,B)):=by show R=_;rw[<-hR.o];exact Xp a5.o (by rw[hM.o];exact aa));clear aa;have T9:Hid (AD (λ j=>j=F\/j=G) w ((wr.setCell ⟨f,0,none⟩ (.int .i64 bl)).setCell ⟨f,1,none⟩ (.int .i64 B))):=AD.setCell (AD.setCell TT.o (p:=⟨f,0,none⟩) (λ e=>by have:=J.o;simp only at e;omega) _) (p:=⟨f,1,none⟩) (λ e=>by have:=J.o;simp only at e;omega) _;have F9:Hid (Fd ((wr.setCell ⟨f,0,none⟩ (.int .i64 bl)).setCell ⟨f,1,none⟩ (.int .i64 B)) F G n (.slice (some ⟨b,o,none⟩) n c) W at_ X U):=K.o.tch (S:=λ k=>k=f) ((FQ wr f 0 _).trans (FQ _ f 1 _) (λ _ _ e=>e)) (λ e=>by omega) (λ e=>by omega);have Y9:=z6 (T.o.set bl B);go_wp2_with fail;try rw[Exit.noGoto_ret]
     refine bodyPost_ret (v:=.agg #[.int .i64 (bl:Int),.int .i64 (B:Int)]) ?_ rfl ⟨by rw[HR.o],⟨at_,X,U,AE _,F9.o,HL.o,I.o⟩,T9.o⟩;exact Kk (p:=4) (ty:=241) rfl _ _ _ f _ rfl Y9.o.load
    .have g1:((bl:Int)==(M:Int))=false:=by rw[zi0];omega
     by_cases b3:W<at_-P
     .have g2:decide ((W:Int)<(at_:Int)-(P:Int))=true:=by rw[zg1];omega
      (have bw:(W:Int)<(at_:Int)-(P:Int):=by omega);(have HR:Hid (R=(bl,B)):=by show R=_;rw[<-hR.o];exact Xn a5.o ai b3);clear aa;have T9:Hid (AD (λ j=>j=F\/j=G) w ((wr.setCell ⟨f,0,none⟩ (.int .i64 bl)).setCell ⟨f,1,none⟩ (.int .i64 B))):=AD.setCell (AD.setCell TT.o (p:=⟨f,0,none⟩) (λ e=>by have:=J.o;simp only at e;omega) _) (p:=⟨f,1,none⟩) (λ e=>by have:=J.o;simp only at e;omega) _;have F9:Hid (Fd ((wr.setCell ⟨f,0,none⟩ (.int .i64 bl)).setCell ⟨f,1,none⟩ (.int .i64 B)) F G n (.slice (some ⟨b,o,none⟩) n c) W at_ X U):=K.o.tch (S:=λ k=>k=f) ((FQ wr f 0 _).trans (FQ _ f 1 _) (λ _ _ e=>e)) (λ e=>by omega) (λ e=>by omega);have Y9:=z6 (T.o.set bl B);go_wp2_with fail;try rw[Exit.noGoto_ret]
      refine bodyPost_ret (v:=.agg #[.int .i64 (bl:Int),.int .i64 (B:Int)]) ?_ rfl ⟨by rw[HR.o],⟨at_,X,U,AE _,F9.o,HL.o,I.o⟩,T9.o⟩;exact Kk (p:=4) (ty:=241) rfl _ _ _ f _ rfl Y9.o.load
     .have g2:decide ((W:Int)<(at_:Int)-(P:Int))=false:=by rw[AT];omega
      (have c6:(at_:Int)-(P:Int)<=(W:Int):=by omega);(have br:bl<M:=by omega);obtain⟨E,a9⟩:=exH (pv A s P);(have bo:E<=P:=by rw[<-a9.o];exact Ki _ _ _);(have a6:Hid (0<E->CD A (E-1)=s):=by show 0<E->_;rw[<-a9.o];exact Pa A s P);have aq:Hid (U.getD P 0=(E:Int)):=by show _=_;rw[HL.o.2 P ai,<-a9.o];have:=a2.o (by omega);rw[Nat.add_sub_cancel]at this;rw[this]
      (have Y:Hid (BZ A at_ (min W (at_-E))=if 4<=rn A at_ P M/\bl<rn A at_ P M then(rn A at_ P M,at_-P)else(bl,B)):=by show _=_;have:=Xs ai (by omega) a5.o;rw[hs.o,a9.o,hM.o]at this;exact this);have hD:=HD.o.tch TT.o (λ e=>by have:=ac.o;rcases e with e|e<;>simp[e]at this);obtain⟨x,hx⟩:=exH (A.getD (P+bl) 0);obtain⟨y,hy⟩:=exH (A.getD (at_+bl) 0);(have cx:wr.cell? ⟨b,o+(P+bl),none⟩=some (.int .u8 x):=by rw[hD.2.2 (P+bl) (by omega),hx.o]);(have cy:wr.cell? ⟨b,o+(at_+bl),none⟩=some (.int .u8 y):=by rw[hD.2.2 (at_+bl) (by omega),hy.o]);have ar:=z6 hD;(have cc:(P:Int)+(bl:Int)<(n:Int):=by omega);(have ce:(at_:Int)+(bl:Int)<(n:Int):=by omega);clear aa b3 hD a2;by_cases a4:x=y
      .have g3:(x != y)=false:=by simp[a4]
       clear a4;go_wp2_with fail;go_quiet (fail);obtain⟨w4,b8⟩:=exH (wr.drewN nq);rw[b8.o];(have b4:Below wr.heap.size wr w4:=by rw[<-b8.o];exact Below.of_drewN _ _ _);obtain⟨r,hr⟩:=exH (rn A at_ P M);(have bg:r<=M:=by rw[<-hr.o];exact I4 _ _ _ _);rw[hr.o]at Y;have ax:Hid (Calls prog 190 #[.pointer (some ⟨F,0,none⟩),.int .i64 (P:Int),.int .i64 (at_:Int),.int .i64 (M:Int)] w4 λ e w'=>e=.returned (.int .i64 (r:Int))/\Below w4.heap.size w4 w'):=by have:=AAL F G n b o c P at_ M W at_ X U A w4 (K.o.below b4) (ar.o.below b4) hn (by omega) (by omega);rw[AFH,hr.o]at this;exact this
       have F4:=z6 (K.o.below b4);have V4:=z6 (T.o.below b4);have V6:=z6 (Y6.o.below b4);have TW:Hid (AD (λ j=>j=F\/j=G) w w4):=TT.o.trans (AD.of_below (S:=λ j=>j=F\/j=G) b4) (λ _ _ e=>e);clear b4 K T Y6 TT y0 y1 z0 z1 bj bk f0 f1 f4 cx cy ar;go_wp2_with fail;refine ax.o.mono ?_;clear ax;rintro e w5 ⟨rfl,b5⟩;have F5:=z6 (F4.o.below b5);have ae:=z6 (V4.o.below b5);have a0:=z6 (V6.o.below b5);have Z:Hid (AD (λ j=>j=F\/j=G) w w5):=TW.o.trans (AD.of_below (S:=λ j=>j=F\/j=G) b5) (λ _ _ e=>e);have y0:=a0.o.c0;have y1:=a0.o.c1;have cf:=a0.o.fz 0;have cg:=a0.o.fz 1;have f4:=F5.o.c4;obtain⟨_,_,e3,_,_,_,q3,_⟩:=F5.o.own.shape (by rw[I.o];omega);rw[I.o]at e3;cases e3;have ck:=q3 P (by rw[I.o];omega)
       rw[aq.o]at ck;(have be:(P:Int)<(n:Int):=by omega);(have c2:¬F=f+1:=by omega);(have c5:¬G=f+1:=by omega);clear b5 F4 V4 V6 TW q3;by_cases a3:4<=r/\bl<r
       .have g4:decide ((4:Int)<=(r:Int))=true:=by rw[zg1];omega
        (have g5:decide ((bl:Int)<(r:Int))=true:=by rw[zg1];omega);(have bu:(at_:Int)-(P:Int)=((at_-P:Nat):Int):=by omega);obtain⟨w6,ao⟩:=exH ((w5.setCell ⟨f+1,0,none⟩ (.int .i64 (r:Int))).setCell ⟨f+1,1,none⟩ (.int .i64 ((at_-P:Nat):Int)));(have bb:Hid (BP w6 (f+1) r (at_-P:Nat)):=by show BP _ _ _ _;rw[<-ao.o];exact a0.o.set r (at_-P:Nat));(have O:AD (λ k=>k=f+1) w5 w6:=by rw[<-ao.o];exact(FQ w5 (f+1) 0 _).trans (FQ _ (f+1) 1 _) (λ _ _ e=>e));have F6:=z6 (F5.o.tch O (λ e=>by omega) (λ e=>by omega));have ba:=z6 (ae.o.tch O (λ e=>by omega));have b9:Hid (AD (λ j=>j=F\/j=G) w w6):=by
         have h1:AD (λ j=>j=F\/j=G) w w6:=⟨O.os.trans Z.o.os,O.tape.trans Z.o.tape,O.output.trans Z.o.output,Aw Z.o.size O.size,λ j hj hn=>by
          rw[O.block j (Ao hj Z.o.size) (by have:=J.o;omega)];exact Z.o.block j hj hn⟩
         exact h1
        (have a1:Hid (BZ A at_ (min W (at_-E))=(r,at_-P)):=by show _=_;rw[Y.o,if_pos a3]);(have am:(4:Int)<=(r:Int):=by omega);(have bh:(bl:Int)<(r:Int):=by omega);clear O a3 Y g4 g5;go_wp2_with fail;rw[ao.o]
        go_roundw
        (case rel=>exact⟨E,r,at_-P,rfl,by omega,bg,by omega,a6,a1,F6,ba,bb,b9⟩);case measure=>simp[intOf];omega
       .have a1:Hid (BZ A at_ (min W (at_-E))=(bl,B)):=by show _=_;rw[Y.o,if_neg a3]
        by_cases am:4<=r
        .have c7:(4:Int)<=(r:Int):=by omega
         (have bh:(r:Int)<=(bl:Int):=by omega);(have g5:decide ((bl:Int)<(r:Int))=false:=by rw[AT];omega);clear a3 Y am;go_wp2_with fail
         go_roundw
         (case rel=>exact⟨E,bl,B,rfl,by omega,ak,aj,a6,a1,F5,ae,a0,Z⟩);case measure=>simp[intOf];omega
        .have g4:decide ((4:Int)<=(r:Int))=false:=by rw[AT];omega
         clear a3 Y am;go_wp2_with fail
         go_roundw
         (case rel=>exact⟨E,bl,B,rfl,by omega,ak,aj,a6,a1,F5,ae,a0,Z⟩);case measure=>simp[intOf];omega
      .have g3:(x != y)=true:=by simp[a4]
       (have a1:Hid (BZ A at_ (min W (at_-E))=(bl,B)):=by show _=_;have h1:rn A at_ P M<=bl:=AFI (by rw[hx.o,hy.o];exact a4);rw[Y.o,if_neg (by omega)]);obtain⟨_,_,e3,_,_,_,q3,_⟩:=K.o.own.shape (by rw[I.o];omega);rw[I.o]at e3;cases e3;have ck:=q3 P (by rw[I.o];omega);rw[aq.o]at ck;(have be:(P:Int)<(n:Int):=by omega);clear q3 a4 Y;go_wp2_with fail;go_quiet (fail);go_wp2_with fail
       go_roundw
       (case rel=>exact⟨E,bl,B,rfl,by omega,ak,aj,a6,a1,K.o.below (Below.of_drewN _ _ _),T.o.below (Below.of_drewN _ _ _),Y6.o.below (Below.of_drewN _ _ _),TT.o.trans (AD.of_below (S:=λ j=>j=F\/j=G) (Below.of_drewN _ _ _)) (λ _ _ e=>e)⟩);case measure=>simp[intOf];omega
def Ad(ds:List Int)(W:Nat):Nat->Nat×Nat×List Sq
 | 0=>(0,0,[])
 | k+1=>
  if (Ad ds W k).1<ds.length then
   if (best ds W (Ad ds W k).1).1=0\/(best ds W (Ad ds W k).1).1<(best ds W ((Ad ds W k).1+1)).1 then((Ad ds W k).1+1,(Ad ds W k).2.1+1,(Ad ds W k).2.2)
   else((Ad ds W k).1+(best ds W (Ad ds W k).1).1,0,(Ad ds W k).2.2++[(((Ad ds W k).2.1:Int),((best ds W (Ad ds W k).1).1:Int),((best ds W (Ad ds W k).1).2:Int))])
  else Ad ds W k
def LZ(f W i):(best f W i).1<=f.length-i/\(best f W i).2<=i/\(best f W i).1<=259:=by unfold best;have q:=RP f i (min W i);have r:=RO f i (min W i);unfold ml at q;omega
def AAM(f W k)(h:f.length<=(Ad f W k).1):∀m,k<=m->Ad f W m=Ad f W k:=by
 intro m r;induction m with
 | zero=>grind
 | succ m q=>
  by_cases e:k=m+1;rw[e]
  .have:=q (by omega);simp only[Ad]
   grind
def steps(ds:List Int)(W:Nat):List Sq:=(Ad ds W ds.length).2.2
def AGc(f W k)(h:f.length<=(Ad f W k).1)(q:k<=f.length):steps f W=(Ad f W k).2.2:=by unfold steps;rw[AAM f W k h _ q]
def SU(f:List Int)(W:Nat):∀k,(Ad f W k).2.2.length<=k
 | 0=>AE _
 | k+1=>by
  have:=SU f W k;simp only[Ad]
  grind
def MA(ds:List Int)(win:Int):Int×List Sq:=if 65536<ds.length\/win<1\/65536<win then(1,[])else(0,steps ds win.toNat)
def GX(r:Int×List Sq)(w:World)(e:Ending)(w':World):Prop:=
 ∃d,e=.returned (.tuple #[d,.int .i64 r.1])/\Below w.heap.size w w'/\(∀k,d.ownBlock=some k->w.heap.size<=k)/\BK w' d r.2
def GX.bad{E w w'}(f:Below w.heap.size w w'):GX (E,[]) w (.returned (.tuple #[.slice none 0 0,.int .i64 E])) w':=
 ⟨_,rfl,f,(λ k e=>by cases e),UT _⟩
def Nh(F G n b o c at_ q)(W:Nat)(f w)(H:CJ w F G n b o c q f at_)(D:Dt w b o n f)(A:b≠F/\b≠G)(r:n<=65536)(hc:n<=c)(B:c<=9223372036854775807)(ha:at_<=n)(E:q=W)(I:1<=W)(J:W<=65536):
 Calls prog 159 #[.pointer (some ⟨F,0,none⟩),.int .i64 at_] w λ e w'=>e=.returned (.agg #[.int .i64 ((best f W at_).1:Int),.int .i64 ((best f W at_).2:Int)])/\CJ w' F G n b o c q f at_/\AD (λ j=>j=F\/j=G) w w':=by
 by_cases h:at_+4<=n;exact Xr F G n b o c at_ q W f w H D A r hc B h E I J;exact Xo F G n b o c at_ q W f w H D r ha (by omega)
def AAC(a n c f w)(h:65536<n\/f<1\/65536<f):
 Calls prog 126 #[.slice a n c,.int .i64 f] w λ e w'=>GX (1,[]) w e w':=by
 by_cases r:65536<n
 .have A:(65536:Int)<(n:Int):=by omega
  clear h
  go_enter func126,ntmps126
  go_wp2_with fail;go_ret2;exact GX.bad (Below.refl _ _)
 .have g1:decide ((65536:Int)<(n:Int))=false:=by rw[AT];omega
  by_cases B:f<1
  .clear h
   go_enter func126,ntmps126
   go_wp2_with fail;go_ret2;exact GX.bad (Below.refl _ _)
  .have q:decide (f<1)=false:=by rw[AT];omega
   (have E:65536<f:=by omega);clear h
   go_enter func126,ntmps126
   go_wp2_with fail;go_ret2;exact GX.bad (Below.refl _ _)
structure Jv(w wr:World)(F G B n b o c:Nat)(W:Nat)(ds:List Int)(k at_ lits:Nat)(v:Value):Prop where
 fnd:CJ wr F G n b o c W ds at_
 two:BP wr B (best ds W at_).1 (best ds W at_).2
 own:BK wr v (Ad ds W k).2.2
 bel:Below w.heap.size w wr
 nF:w.heap.size<=F
 nG:w.heap.size<=G
 nB:w.heap.size<=B
 nv:∀j,v.ownBlock=some j->w.heap.size<=j
def CJ.blk{w F G n b o c q f at_}(H:CJ w F G n b o c q f at_):∃cs,w.heap[F]?=some (.cells cs 274 (0,0)):=by obtain⟨k,h,r,_,hF,_,_⟩:=H;exact⟨_,hF.blk⟩
def CJ.blkG{w F G n b o c q f at_}(H:CJ w F G n b o c q f at_):∃cs,w.heap[G]?=some (.cells cs 3 (0,0)):=by obtain⟨k,h,r,_,hF,_,_⟩:=H;exact JK (w:=w) hF.own rfl
def CJ.tch{S w w' F G n b o c q f at_}(H:CJ w F G n b o c q f at_)(K:AD S w w')(hF:¬S F)(I:¬S G):CJ w' F G n b o c q f at_:=by obtain⟨k,h,r,J,A,B,E⟩:=H;exact⟨k,h,r,J,A.tch K hF I,B,E⟩
def CJ.below{w w' F G n b o c q f at_}(H:CJ w F G n b o c q f at_)(r:Below w.heap.size w w'):CJ w' F G n b o c q f at_:=
 H.tch (S:=λ _=>False) (AD.of_below r) (λ e=>e) (λ e=>e)
def CJ.up{w F G n b o c q f i j}(H:CJ w F G n b o c q f i)(I:i<=j):CJ w F G n b o c q f j:=by obtain⟨k,h,r,J,A,B,E⟩:=H;exact⟨k,h,r,by omega,A,B,E⟩
def JI{w:World}{i j:Nat}{c d s t}(f:w.heap[i]?=some (.cells c s (0,0)))(q:w.heap[j]?=some (.cells d t (0,0)))(h:s≠t):i≠j:=by grind
def IM{w v ps}(h:BK w v ps){b cs t}(f:w.heap[b]?=some (.cells cs t (0,0)))(q:t≠244):v.ownBlock≠some b:=λ e=>h.ne_blk f q e rfl
def RQ(f:List Int)(i:Nat):∀d,(BZ f i d).1=0\/(1<=(BZ f i d).2/\(BZ f i d).2<=d/\4<=(BZ f i d).1/\(BZ f i d).1=rn f i (i-(BZ f i d).2) (ml f i))
 | 0=>.inl rfl
 | d+1=>by
  simp only[BZ];split
  .grind
  .rcases RQ f i d with h|⟨q,r,A,B⟩
   .omega
   omega
def JH{f W i}(h:0<(best f W i).1):1<=(best f W i).2/\(best f W i).2<=i/\(best f W i).2<=W/\4<=(best f W i).1/\i+(best f W i).1<=f.length/\∀j,j<(best f W i).1->f.getD (i+j) 0=f.getD (i-(best f W i).2+j) 0:=by
 have E:=LZ f W i;unfold best at h E |-
 rcases RQ f i (min W i)with q|⟨q,I,A,B⟩
 .omega
 .refine⟨q,by omega,by omega,A,by omega,λ j r=>?_⟩;rw[B]at r;exact Gl f i _ _ j r
inductive SC(ds:List Int)(W:Nat):List Sq->Nat->Prop
 | nil:SC ds W [] 0
 | snoc (ps:List Sq) (p l:Nat):SC ds W ps p->0<(best ds W (p+l)).1->SC ds W (ps++[((l:Int),((best ds W (p+l)).1:Int),((best ds W (p+l)).2:Int))]) (p+l+(best ds W (p+l)).1)
def Oe(f:List Int)(W:Nat):∀k,(Ad f W k).2.1<=(Ad f W k).1/\(Ad f W k).1<=f.length/\SC f W (Ad f W k).2.2 ((Ad f W k).1-(Ad f W k).2.1)
 | 0=>⟨AE _,AI _,SC.nil⟩
 | k+1=>by
  obtain⟨r,A,q⟩:=Oe f W k;simp only[Ad];split
  .rename_i hlt;split
   .grind
   .rename_i hn;have B:=LZ f W (Ad f W k).1;refine⟨by simp,by omega,?_⟩;simp only;(have e:(Ad f W k).1-(Ad f W k).2.1+(Ad f W k).2.1=(Ad f W k).1:=by omega);have:=SC.snoc (Ad f W k).2.2 _ (Ad f W k).2.1 q (by grind)
    grind
  grind
def VG{f W ps p}(h:SC f W ps p):p<=f.length:=by
 cases h with
 | nil=>omega
 | snoc ps p l h q=>exact(JH q).2.2.2.2.1
def Sa{ps f:List Sq}{k}(h:k<ps.length):(ps++f).getD k AR=ps.getD k AR:=by grind
def getD_mid'(ps x):(ps++[x]).getD ps.length AR=x:=by simp
def Oz(f:List Int)(ps q:List Sq):∀k,k<=ps.length->Bj f (ps++q) k=Bj f ps k
 | 0,_=>rfl
 | k+1,h=>by simp only[Bj];rw[Oz f ps q k (by omega),Sa (by omega)]
def Pq(ls:List Int)(ps f:List Sq)(most:Int):∀k,k<=ps.length->rs ls (ps++f) most k=rs ls ps most k
 | 0,_=>rfl
 | k+1,h=>by simp only[rs];rw[Pq ls ps f most k (by omega),Sa (by omega)]
def Pt{f W ps p}(h:SC f W ps p):∃L,Bj f ps ps.length=some (p,L):=by
 induction h with
 | nil=>exact⟨[],rfl⟩
 | snoc ps p l h r A=>
  obtain⟨L,q⟩:=A;obtain⟨s1,B,E,I,J,_⟩:=JH r;refine⟨L++(f.drop p).take l,?_⟩;rw[zc0,zh0,List.length_nil,Nat.zero_add];simp only[Bj];rw[Oz f ps _ _ (AE _),q,getD_mid']
  grind
def Tu{f W ps p l L}(q:Bj f ps ps.length=some (p,L))(r:0<(best f W (p+l)).1):
 Bj f (ps++[((l:Int),((best f W (p+l)).1:Int),((best f W (p+l)).2:Int))]) (ps.length+1)=some (p+l+(best f W (p+l)).1,L++(f.drop p).take l):=by
 obtain⟨s1,A,B,E,I,_⟩:=JH r;simp only[Bj];rw[Oz f ps _ _ (AE _),q,getD_mid']
 grind
def AHT(f:List Int)(n i)(h:i<n):(f.take n).getD i 0=f.getD i 0:=by grind
def AHX(f:List Int)(n)(h:n<f.length):f.take (n+1)=f.take n++[f.getD n 0]:=by simp_all
def Ru{f:List Int}{q d m:Nat}(A:1<=d)(B:d<=q)(I:q+m<=f.length)(r:∀j,j<m->f.getD (q+j) 0=f.getD (q-d+j) 0):∀n,n<=m->DT d n (f.take q)=f.take (q+n)
 | 0,_=>rfl
 | n+1,hn=>by
  have E:(f.take (q+n)).length=q+n:=by grind
  rw[Ny,Ru A B I r n (by omega),E,AHT _ _ _ (by omega),<-Nat.add_assoc,AHX f (q+n) (by omega),r n (by omega)]
  grind
def Pu{f ls:List Int}{W:Nat}{ps:List Sq}{p:Nat}(h:SC f W ps p):∀{L more:List Int} {most:Int},Bj f ps ps.length=some (p,L)->ls=L++more->(p:Int)<=most->rs ls ps most ps.length=(0,L.length,f.take p):=by
 induction h with
 | nil=>intro L more most q K O;simp[Bj]at q;subst q;rfl
 | snoc ps p l h A X=>
  intro L more most q K O;obtain⟨L0,r⟩:=Pt h;have B:=Tu (l:=l) r A;rw[zc0,zh0,List.length_nil,Nat.zero_add]at q |-
  rw[B]at q;simp only[Option.some.injEq,Prod.mk.injEq,true_and]at q;obtain⟨s1,Y,s3,s4,Z,s6⟩:=JH A;have a2:=VG h;have T:((f.drop p).take l).length=l:=by grind
  have E:=X r (more:=(f.drop p).take l++more) (by grind) (most:=most) (by omega);simp only[rs];rw[Pq ls ps _ most _ (AE _),E,getD_mid'];have a0:ls.length=L0.length+l+more.length:=by grind
  have U:(f.take p).length=p:=by grind
  have J:(ls.drop L0.length).take l=(f.drop p).take l:=by grind
  rw[if_neg (by simp)];simp only;rw[U];have a1:Fh ((l:Int),((best f W (p+l)).1:Int),((best f W (p+l)).2:Int)) (ls.length-L0.length) p=true:=by unfold Fh;rw[zg1];simp only;omega
  rw[if_neg (by grind),if_neg (by omega)];simp only[Int.toNat_natCast];rw[J];have I:f.take p++(f.drop p).take l=f.take (p+l):=by grind
  rw[I,Ru s1 Y Z s6 _ (AE _),<-q,zc0,T]
def Po(f W)(hn:f.length<=65536):∃L,GH f (steps f W)=(0,L)/\Dl L (steps f W) (f.length:Int)=(0,f)/\(0<f.length->Dl L (steps f W) ((f.length:Int)-1)=(11,[]))/\L.length<=f.length:=by
 obtain⟨_,h2,A⟩:=Oe f W f.length;obtain⟨p,U⟩:=exN ((Ad f W f.length).1-(Ad f W f.length).2.1);rw[U]at A;obtain⟨ps,X⟩:=exN ((Ad f W f.length).2.2);unfold steps;rw[X]at A |-
 obtain⟨L,r⟩:=Pt A;have a4:=VG A;have O:=Tt r;simp only at O;have Z:(f.take p).length=p:=by grind
 have T:(L++f.drop p).drop L.length=f.drop p:=List.drop_left;refine⟨L++f.drop p,by unfold GH;rw[r],?_,λ h0=>?_,by grind⟩;have e:=Pu A r rfl (ls:=L++f.drop p) (more:=f.drop p) (most:=(f.length:Int)) (by omega);unfold Dl;rw[if_neg (by omega),e];simp only;rw[if_neg (by simp),Z,if_neg (by grind),T,zs0]
 .by_cases a1:p<f.length
  .have e:=Pu A r rfl (ls:=L++f.drop p) (more:=f.drop p) (most:=(f.length:Int)-1) (by omega);unfold Dl
   grind
  .have a3:p=f.length:=by omega
   cases A with
   | nil=>omega
   | snoc I q l h E=>
    obtain⟨L0,B⟩:=Pt h;have J:=Tu (l:=l) B E;rw[zc0,zh0,List.length_nil,Nat.zero_add]at r;rw[J]at r;simp only[Option.some.injEq,Prod.mk.injEq,true_and]at r;obtain⟨s1,s2,s3,s4,s5,s6⟩:=JH E;(have Y:((f.drop q).take l).length=l:=by grind);have K:=Pu h B (ls:=L++f.drop (q+l+(best f W (q+l)).1)) (more:=(f.drop q).take l++f.drop (q+l+(best f W (q+l)).1)) (by grind) (most:=(f.length:Int)-1) (by omega);refine Mo (k:=I.length) (by omega) (by simp) (by decide) ?_;simp only[rs];rw[Pq _ I _ _ _ (AE _),K,getD_mid'];rw[if_neg (by simp)];simp only;(have a0:(f.take q).length=q:=by grind);rw[a0]
    have a2:Fh ((l:Int),((best f W (q+l)).1:Int),((best f W (q+l)).2:Int)) ((L++f.drop (q+l+(best f W (q+l)).1)).length-L0.length) q=true:=by unfold Fh;rw[zg1,<-r];simp only[zc0,Y];omega
    grind
def ST{w r}{F G B n b o c W k at_ lits:Nat}{q v}{x y O T:Nat}(I:CJ r F G n b o c W q at_)(J:BP r B x y)(K:BK r v (Ad q W k).2.2)(E:Below w.heap.size w r)(hF:w.heap.size<=F)(Y:w.heap.size<=G)(hB:w.heap.size<=B)(hv:∀j,v.ownBlock=some j->w.heap.size<=j)(hx:(best q W at_).1=O)(hy:(best q W at_).2=T){f}(A:AD (λ j=>j=B) r f)(hT:BP f (f.heap.size-1) O T):Jv w f F G (f.heap.size-1) n b o c W q k at_ lits v:=by
 obtain⟨Z,U⟩:=I.blk;obtain⟨cG,X⟩:=I.blkG;refine⟨I.tch A (JI U J (by decide)) (JI X J (by decide)),by grind,K.tch A (λ j L e=>by rw[e]at L;exact IM K J (by decide) L),E.trans (A.below E.size (λ k e=>by omega)),hF,Y,?_,hv⟩;have h1:=E.size;have h2:=A.size
 grind
def WG(w b u v):AD (λ k=>k=b) w ((w.setCell ⟨b,0,none⟩ u).setCell ⟨b,1,none⟩ v):=(FQ w b 0 u).trans (FQ _ b 1 v) (λ _ _ e=>e)
def AAE(n b o c)(W:Nat)(f w)(D:Dt w b o n f)(h0:0<n)(hn:n<=65536)(hc:n<=c)(ad:c<=9223372036854775807)(ae:1<=W)(af:W<=65536):
 Calls prog 126 #[.slice (some ⟨b,o,none⟩) n c,.int .i64 W] w λ e w'=>GX (0,steps f W) w e w':=by
 have HD:=z6 D;have bb:=zb0 w ⟨b,o+0,none⟩ (D.2.2 0 h0);have g1:decide ((65536:Int)<(n:Int))=false:=by rw[AT];omega
 have g2:decide ((W:Int)<1)=false:=by rw[AT];omega
 have g3:decide ((65536:Int)<(W:Int))=false:=by rw[AT];omega
 clear D
 go_enter func126,ntmps126
 go_wp2_with fail;refine(UL _ n c W w hn).mono ?_;rintro e w2 ⟨F,G,rfl,hF,ac,aa,ab⟩;have F2:Hid (CJ w2 F G n b o c W f 0):=⟨0,_,_,AE _,hF,⟨λ s _=>rfl,λ p hp=>by omega⟩,by simp⟩
 have B2:=z6 ac;have a9:Hid (b≠F/\b≠G):=⟨by omega,by omega⟩
 have aj:Hid (Calls prog 159 #[.pointer (some ⟨F,0,none⟩),.int .i64 ((0:Nat):Int)] w2 λ e w'=>e=.returned (.agg #[.int .i64 ((best f W 0).1:Int),.int .i64 ((best f W 0).2:Int)])/\CJ w' F G n b o c W f 0/\AD (λ j=>j=F\/j=G) w2 w'):=
  Nh F G n b o c 0 W W f w2 F2.o (HD.o.below ac) a9.o hn hc ad (AI _) rfl ae af
 clear hF ac;go_wp2_with fail;refine aj.o.mono ?_;clear aj;rintro e w3 ⟨rfl,ao,ax⟩;have F3:=z6 ao;have B3:=z6 (B2.o.trans (ax.below B2.o.size (λ k e=>by rcases e with e|e<;>omega)));obtain⟨x,hx⟩:∃x:Nat,Hid ((best f W 0).1=x):=⟨_,rfl⟩
 obtain⟨y,hy⟩:∃y:Nat,Hid ((best f W 0).2=y):=⟨_,rfl⟩
 rw[hx.o,hy.o];clear ao ax F2 B2;go_wp2_with fail;have ar:Jv w (w3.alloc (.cells #[.int .i64 (x:Int),.int .i64 (y:Int)] 241)) F G w3.heap.size n b o c W f 0 0 0 (.slice none 0 0):=by have ba:Below w3.heap.size w3 (w3.alloc (.cells #[.int .i64 (x:Int),.int .i64 (y:Int)] 241)):=(Below.refl _ _).alloc (AE _) _;refine⟨F3.o.below ba,?_,UT _,B3.o.trans (ba.mono B3.o.size),aa,ab,B3.o.size,λ j e=>by cases e⟩;rw[hx.o,hy.o];exact I9 w3 x y
 have HI:=z6 ar;have au:=HD.o.1;have a0:=z6 au;clear ar F3 B3 au
 go_loopw [7,8,9,10] (λ v l a p wr=>∃(k at_ I B:Nat),k<=at_/\at_<=n/\I<=at_/\l=.int .i64 I/\a=.int .i64 at_/\p=.pointer (some ⟨B,0,none⟩)/\Hid ((Ad f W k).1=at_/\(Ad f W k).2.1=I)/\Hid (Jv w wr F G B n b o c W f k at_ I v)) (λ _ _ a _ _=>n-(intOf a).toNat)
 case atStart=>exact⟨0,0,0,w3.heap.size,AE _,AI _,AE _,rfl,rfl,rfl,⟨rfl,rfl⟩,HI⟩
 case round=>
  clear HI;obtain⟨k,at_,I,B,b4,b9,bc,rfl,rfl,rfl,a1,r⟩:=hrel;by_cases av:at_<n
  .obtain⟨x,hx⟩:∃x:Nat,Hid ((best f W at_).1=x):=⟨_,rfl⟩
   obtain⟨y,hy⟩:∃y:Nat,Hid ((best f W at_).2=y):=⟨_,rfl⟩
   obtain⟨A,a4⟩:∃x:Nat,Hid ((best f W (at_+1)).1=x):=⟨_,rfl⟩
   obtain⟨J,ai⟩:∃y:Nat,Hid ((best f W (at_+1)).2=y):=⟨_,rfl⟩
   have b6:=LZ f W at_;rw[hx.o,hy.o,<-a0.o]at b6;have b7:=LZ f W (at_+1);rw[a4.o,ai.o,<-a0.o]at b7;have ak:Hid (Calls prog 159 #[.pointer (some ⟨F,0,none⟩),.int .i64 ((at_:Int)+1)] wr λ e w'=>e=.returned (.agg #[.int .i64 (A:Int),.int .i64 (J:Int)])/\CJ w' F G n b o c W f (at_+1)/\AD (λ j=>j=F\/j=G) wr w'):=by
    have:=Nh F G n b o c (at_+1) W W f wr (r.o.fnd.up (by omega)) (HD.o.below r.o.bel) a9.o hn hc ad (by omega) rfl ae af;rw[a4.o,ai.o]at this
    push_cast at this
    exact this
   go_wp2_with fail;refine ak.o.mono ?_;clear ak;rintro e E ⟨rfl,ap,a7⟩;have F4:=z6 ap;have B4:=z6 (r.o.bel.trans (a7.below r.o.bel.size (λ k e=>by rcases e with e|e<;>omega)));obtain⟨cF,K⟩:=r.o.fnd.blk;obtain⟨cG,L⟩:=r.o.fnd.blkG;have U:Hid (BP E B x y):=by
    have:=r.o.two;rw[hx.o,hy.o]at this;exact this.tch a7 (λ e=>by
     rcases e with e|e;exact JI r.o.two K (by decide) e
     .exact JI r.o.two L (by decide) e)
   have O4:Hid (BK E u7 (Ad f W k).2.2):=r.o.own.tch a7 (λ j O e=>by
    rcases e with e|e;rw[e]at O;exact IM r.o.own K (by decide) O
    .rw[e]at O;exact IM r.o.own L (by decide) O)
   have b8:=U.o.lt;have am:=z6 r.o.nB;have an:=z6 r.o.nv;have b3:=z6 (SU f W k);have c0:=U.o.c0;have c1:=U.o.c1;have z0:=U.o.fz 0;have z1:=U.o.fz 1;clear ap a7 K L r;by_cases a3:x=0\/x<A
   .have Z:Hid (Ad f W (k+1)=(at_+1,I+1,(Ad f W k).2.2)):=by show _=_;simp only[Ad];rw[a1.o.1,a1.o.2,hx.o,a4.o,if_pos (by rw[<-a0.o];exact av),if_pos a3]
    have a6:Hid (Jv w ((((E.setCell ⟨B,0,none⟩ (.int .i64 (A:Int))).setCell ⟨B,1,none⟩ (.int .i64 (J:Int))).alloc (.cells #[.int .i64 (A:Int),.int .i64 (J:Int)] 241)).alloc (.cells #[.int .i64 (A:Int),.int .i64 (J:Int)] 241)) F G (E.heap.size+1) n b o c W f (k+1) (at_+1) (I+1) u7):=by
     (have hO:BK E u7 (Ad f W (k+1)).2.2:=by rw[Z.o];exact O4.o);have h2:=I9 (((E.setCell ⟨B,0,none⟩ (.int .i64 (A:Int))).setCell ⟨B,1,none⟩ (.int .i64 (J:Int))).alloc (.cells #[.int .i64 (A:Int),.int .i64 (J:Int)] 241)) A J;(have h3:(((E.setCell ⟨B,0,none⟩ (.int .i64 (A:Int))).setCell ⟨B,1,none⟩ (.int .i64 (J:Int))).alloc (.cells #[.int .i64 (A:Int),.int .i64 (J:Int)] 241)).heap.size=E.heap.size+1:=by simp);rw[h3]at h2
     have:=ST (lits:=I+1) F4.o U.o hO B4.o aa ab am.o an.o a4.o ai.o (((WG E B (.int .i64 (A:Int)) (.int .i64 (J:Int))).alloc (.cells #[.int .i64 (A:Int),.int .i64 (J:Int)] 241)).alloc (.cells #[.int .i64 (A:Int),.int .i64 (J:Int)] 241)) (by simp only[World.size_alloc,h3,Nat.add_sub_cancel];exact h2);simp only[World.size_alloc,h3,Nat.add_sub_cancel]at this;exact this
    have a5:Hid ((Ad f W (k+1)).1=at_+1/\(Ad f W (k+1)).2.1=I+1):=⟨by rw[Z.o],by rw[Z.o]⟩
    by_cases ay:x=0
    .have g4:((x:Int)==0)=true:=by rw[beq_iff_eq];omega
     clear a3 ay;go_wp2_with fail;exact⟨⟨k+1,at_+1,I+1,E.heap.size+1,by omega,by omega,by omega,by push_cast;rfl,by push_cast;rfl,rfl,a5,a6⟩,by simp[intOf];omega⟩
    .have g4:((x:Int)==0)=false:=by rw[zi0];omega
     (have g5:(x:Int)<(A:Int):=by omega);clear a3 ay;go_wp2_with fail;exact⟨⟨k+1,at_+1,I+1,E.heap.size+1,by omega,by omega,by omega,by push_cast;rfl,by push_cast;rfl,rfl,a5,a6⟩,by simp[intOf];omega⟩
   .have hx1:0<x:=by omega
    (have g4:((x:Int)==0)=false:=by rw[zi0];omega);(have g5:decide (x<A)=false:=by rw[AT];omega);(have g6:A<=x:=by omega);have Z:Hid (Ad f W (k+1)=(at_+x,0,(Ad f W k).2.2++[((I:Int),(x:Int),(y:Int))])):=by show _=_;simp only[Ad];rw[a1.o.1,a1.o.2,hx.o,hy.o,a4.o,if_pos (by rw[<-a0.o];exact av),if_neg a3]
    clear a3;obtain⟨wA,ag⟩:=exH (E.alloc (.cells #[.int .i64 (A:Int),.int .i64 (J:Int)] 241));(have bA:Below E.heap.size E wA:=by rw[<-ag.o];exact(Below.refl _ _).alloc (AE _) _);have FA:=z6 (F4.o.below bA);have TA:=z6 (U.o.below bA);have OA:=z6 (O4.o.below bA);have BA:=z6 (B4.o.trans (bA.mono B4.o.size));clear bA;rw[<-ag.o]at FA TA OA BA;go_wp2_with(at_builtin;refine AIQ (E.alloc (.cells #[.int .i64 (A:Int),.int .i64 (J:Int)] 241)) rfl (.tmp 51) (.tmp 58) rfl u7 (Ad f W k).2.2 rfl OA.o ((I:Int),(x:Int),(y:Int)) (by show Value.slice (some ⟨E.heap.size+1,0,none⟩) 1 1=_;rw[World.size_alloc]) (by have:=b3.o;omega) ?_)
    intro v5 w5 aw a2;rw[ag.o]at FA TA OA BA a2;obtain⟨cF,K⟩:=FA.o.blk;obtain⟨cG,L⟩:=FA.o.blkG;have F5:Hid (CJ w5 F G n b o c W f (at_+x)):=(FA.o.tch a2.tch (IM OA.o K (by decide)) (IM OA.o L (by decide))).up (by omega);have T5:=z6 (TA.o.tch a2.tch (IM OA.o TA.o (by decide)));obtain⟨b5,n5⟩:Below w.heap.size w w5/\∀j,v5.ownBlock=some j->w.heap.size<=j:=a2.onto BA.o an.o;have B5:=z6 b5;have N5:=z6 n5;(have O5:Hid (BK w5 v5 (Ad f W (k+1)).2.2):=by show BK _ _ _;rw[Z.o];exact aw);obtain⟨X,az⟩:∃q:Nat,Hid ((best f W (at_+x)).1=q):=⟨_,rfl⟩
    obtain⟨Y,b0⟩:∃q:Nat,Hid ((best f W (at_+x)).2=q):=⟨_,rfl⟩
    have al:Hid (Calls prog 159 #[.pointer (some ⟨F,0,none⟩),.int .i64 ((at_:Int)+(x:Int))] w5 λ e w'=>e=.returned (.agg #[.int .i64 (X:Int),.int .i64 (Y:Int)])/\CJ w' F G n b o c W f (at_+x)/\AD (λ j=>j=F\/j=G) w5 w'):=by
     have:=Nh F G n b o c (at_+x) W W f w5 F5.o (HD.o.below B5.o) a9.o hn hc ad (by omega) rfl ae af;rw[az.o,b0.o]at this
     push_cast at this
     exact this
    have c0:=T5.o.c0;have c1:=T5.o.c1;clear FA TA OA BA K L a2 aw b5 n5 F4 U O4 B4 z0 z1;go_wp2_with fail;refine al.o.mono ?_;clear al;rintro e T ⟨rfl,aq,a8⟩;obtain⟨cF,K⟩:=F5.o.blk;obtain⟨cG,L⟩:=F5.o.blkG;have F6:=z6 aq;have T6:Hid (BP T B x y):=T5.o.tch a8 (λ e=>by
     rcases e with e|e;exact JI T5.o K (by decide) e
     .exact JI T5.o L (by decide) e)
    have O6:Hid (BK T v5 (Ad f W (k+1)).2.2):=O5.o.tch a8 (λ j O e=>by
     rcases e with e|e;rw[e]at O;exact IM O5.o K (by decide) O
     .rw[e]at O;exact IM O5.o L (by decide) O)
    have B6:=z6 (B5.o.trans (a8.below B5.o.size (λ k e=>by rcases e with e|e<;>omega)));have a6:Hid (Jv w (((T.setCell ⟨B,0,none⟩ (.int .i64 (X:Int))).setCell ⟨B,1,none⟩ (.int .i64 (Y:Int))).alloc (.cells #[.int .i64 (X:Int),.int .i64 (Y:Int)] 241)) F G T.heap.size n b o c W f (k+1) (at_+x) 0 v5):=by
     have h2:=I9 ((T.setCell ⟨B,0,none⟩ (.int .i64 (X:Int))).setCell ⟨B,1,none⟩ (.int .i64 (Y:Int))) X Y;(have h3:((T.setCell ⟨B,0,none⟩ (.int .i64 (X:Int))).setCell ⟨B,1,none⟩ (.int .i64 (Y:Int))).heap.size=T.heap.size:=by simp);rw[h3]at h2;have:=ST (lits:=0) F6.o T6.o O6.o B6.o aa ab am.o N5.o az.o b0.o ((WG T B (.int .i64 (X:Int)) (.int .i64 (Y:Int))).alloc (.cells #[.int .i64 (X:Int),.int .i64 (Y:Int)] 241)) (by simp only[World.size_alloc,h3,Nat.add_sub_cancel];exact h2);simp only[World.size_alloc,h3,Nat.add_sub_cancel]at this;exact this
    have a5:Hid ((Ad f W (k+1)).1=at_+x/\(Ad f W (k+1)).2.1=0):=⟨by rw[Z.o],by rw[Z.o]⟩
    have d0:=T6.o.c0;have d1:=T6.o.c1;have z0:=T6.o.fz 0;have z1:=T6.o.fz 1;clear aq a8 K L F5 T5 O5 B5 c0 c1;go_wp2_with fail;exact⟨⟨k+1,at_+x,0,T.heap.size,by omega,by omega,by omega,rfl,by push_cast;rfl,rfl,a5,a6⟩,by simp[intOf];omega⟩
  .obtain rfl:at_=n:=by omega
   have b2:=z6 (AGc f W k (by rw[a1.o.1,a0.o];exact AE _) (by rw[<-a0.o];exact b4));go_wp2_with fail;go_ret2;exact⟨_,rfl,r.o.bel,r.o.nv,by show BK _ _ _;rw[b2.o];exact r.o.own⟩
def AAD(a c)(W:Nat)(w)(X:1<=W)(Y:W<=65536):
 Calls prog 126 #[.slice a 0 c,.int .i64 W] w λ e w'=>GX (0,[]) w e w':=by
 have K:decide ((W:Int)<1)=false:=by grind
 have L:decide ((65536:Int)<(W:Int))=false:=by grind
 go_enter func126,ntmps126
 go_wp2_with fail;refine(UL _ 0 c W w (by omega)).mono ?_;rintro e f ⟨F,G,rfl,hF,r,O,U⟩;have q:=z6 r;have B:Hid (Calls prog 159 #[.pointer (some ⟨F,0,none⟩),.int .i64 0] f λ e w'=>e=.returned (.agg #[.int .i64 0,.int .i64 0])/\Below f.heap.size f w'):=by
  have J:=hF.c0;have T:=hF.lt;clear hF r
  go_enter func159,ntmps159
  go_wp2_with fail
  go_step3
  go_wp2_with fail;rw[Exit.noGoto_ret];refine bodyPost_ret (v:=.agg #[.int .i64 0,.int .i64 0]) ?_ rfl ⟨rfl,((Below.refl _ _).alloc (AE _) _).alloc (by simp) _⟩;refine Kk (p:=4) (ty:=241) rfl _ _ _ f.heap.size _ rfl ?_;exact((I9 f 0 0).below ((Below.refl _ _).alloc (AE _) _)).load
 clear hF r;go_wp2_with fail;refine B.o.mono ?_;clear B;rintro e Z ⟨rfl,E⟩;have A:=z6 (q.o.trans (E.mono q.o.size));clear E q;go_wp2_with fail
 go_loopw [7,9] (λ v a wr=>v=.slice none 0 0/\a=.int .i64 0/\Hid (Below w.heap.size w wr)) (λ _ _ _=>0)
 case atStart=>exact⟨rfl,rfl,A.o.trans (((Below.refl _ _).alloc (AE _) _).mono A.o.size)⟩
 case round=>obtain⟨rfl,rfl,I⟩:=hrel;go_wp2_with fail;go_ret2;exact GX.bad I.o
def AAB(v f q w)(h:Rd .u8 w v f)(I:By f):
 Calls prog 126 #[v,.int .i64 q] w λ e w'=>GX (MA f q) w e w':=by
 obtain⟨a,c,rfl,B,E,_,h⟩:=h;unfold maxLen at E;unfold MA;by_cases r:65536<f.length\/q<1\/65536<q;rw[if_pos r];exact AAC a _ c q w r
 .rw[if_neg r];obtain⟨W,rfl⟩:=Int.eq_ofNat_of_zero_le (show 0<=q by omega);rw[Int.toNat_natCast];by_cases A:f.length=0;obtain rfl:f=[]:=ze0 A;exact AAD a c W w (by omega) (by omega)
  .rcases h with rfl|⟨b,o,rfl,hc⟩
   .exact absurd rfl A
   .exact AAE f.length b o c W f w ⟨rfl,I,hc⟩ (by omega) (by omega) B (by omega) (by omega) (by omega)
