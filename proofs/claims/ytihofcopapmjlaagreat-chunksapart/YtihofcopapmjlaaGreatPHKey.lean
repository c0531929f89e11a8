import Derived.Test.YtihofcopapmjlaaGreatPHEnc
import Derived.DeepKeys4
import Derived.Test.YtihofcopapmjlaaGreatPLen8
set_option maxRecDepth 100000
set_option linter.all false
set_option maxHeartbeats 8000000
namespace Go.Proofs.YtihofcopapmjlaaGreat
open Go.Proofs.Tryz
section
open Go.RowKit Pl Go.Maps Go.WideMaps
theorem ABw:laidOutB prog=true:=by kernel_rfl
def U0:(312:TypeId)<prog.types.size:=of_decide_eq_true (by kernel_rfl)
def AIF:(match prog.underlying 312 with|some (.array _ _)|some (.struct _)=>true|_=>false)=true:=by rw[underlying312]
def AB0:KeyLaw prog 312:=deep_law_laid ABw (m:=2) (by omega) U0 (by kernel_rfl) AIF
def KR:Keyed prog 312:=Keyed.of_law AB0
theorem Rb:prog.cellsOf 312=2:=by kernel_rfl
theorem Yi:prog.cellsOf 3=1:=by kernel_rfl
theorem ABl:prog.keyType 312=true:=by kernel_rfl
def TX(a b)(ha:(Lit.int .i64 a).wf=true)(f:(Lit.int .i64 b).wf=true):∃l,keyOf prog 312 (.agg #[.int .i64 a,.int .i64 b])=some l:=by
 unfold keyOf;rw[underlying312];simp only[ABl];have q:(Value.agg #[.int .i64 a,.int .i64 b]).formed prog 312=true:=by simp[Value.formed,underlying312,Rb]
 rw[q];have r:∀d,prog.keyLits (d+2) 312 [.int .i64 a,.int .i64 b]=some [.int .i64 a,.int .i64 b]:=λ d=>by simp[Program.keyLits,underlying312,underlying3,Rb,Yi,ha,f]
 have B:312<prog.types.size:=U0;have A:prog.types.size+1=(prog.types.size-1)+2:=by omega
 rw[A,show(Value.agg #[.int .i64 a,.int .i64 b]).cells.toList=[.int .i64 a,.int .i64 b]from rfl,r];simp
def Rm{ls c d}(hc:0<ls.getD c 0)(r:0<ls.getD d 0)(e:cd ls c=cd ls d):c=d:=by
 unfold cd at e;rw[if_pos hc,if_pos r]at e;simp only[Prod.mk.injEq]at e;obtain⟨f,q⟩:=e;obtain⟨s,A⟩:=Int.eq_ofNat_of_zero_le (Int.le_of_lt hc);have B:1<=s:=by omega
 rw[<-f,A,Int.toNat_natCast]at q;rcases Nat.lt_trichotomy c d with h|h|h;have:=Ro ls (s:=s-1) h (by omega);omega;exact h;have:=Ro ls (s:=s-1) h (by omega);omega
def KM(ls:List Int)(w:World)(b k:Nat):Prop:=
 ∃(D:DataW Unit)(n:Nat),w.ownsMap prog 312 (plainElem prog 5) b n D/\n<=k/\IsMap D/\
  ∀s v kl,keyOf prog 312 (.agg #[.int .i64 s,.int .i64 v])=some kl->
   (Maps.has D kl=true↔∃c,c<k/\0<ls.getD c 0/\cd ls c=(s,v))/\∀c,c<k->0<ls.getD c 0->cd ls c=(s,v)->D.atKey kl (.lit (.int .u8 0))=.lit (.int .u8 (c:Int))
def KM.start(ls)(w:World):KM ls (w.alloc (.map #[] 0)) w.heap.size 0:=
 ⟨.map [],0,World.ownsMap_made w _ _ _,AE _,⟨[],rfl⟩,λ s v f _=>⟨⟨λ h=>by simp[Maps.has]at h,λ⟨c,h,_⟩=>by omega⟩,λ c h=>by omega⟩⟩
def KM.miss{ls w b k}(h:KM ls w b k)(E:¬0<ls.getD k 0):KM ls w b (k+1):=by
 obtain⟨D,n,f,r,q,A⟩:=h;refine⟨D,n,f,by omega,q,λ s v I B=>?_⟩
 grind
def KM.hit{ls k}{D:DataW Unit}{s v f}(A:IsMap D)(E:keyOf prog 312 (.agg #[.int .i64 s,.int .i64 v])=some f)(J:0<ls.getD k 0)(hc:cd ls k=(s,v))(K:∀s v f,keyOf prog 312 (.agg #[.int .i64 s,.int .i64 v])=some f->(Maps.has D f=true↔∃c,c<k/\0<ls.getD c 0/\cd ls c=(s,v))/\∀c,c<k->0<ls.getD c 0->cd ls c=(s,v)->D.atKey f (.lit (.int .u8 0))=.lit (.int .u8 (c:Int))):
 ∀s' r q,keyOf prog 312 (.agg #[.int .i64 s',.int .i64 r])=some q->(Maps.has (D.put f (.lit (.int .u8 (k:Int)))) q=true↔∃c,c<k+1/\0<ls.getD c 0/\cd ls c=(s',r))/\
  ∀c,c<k+1->0<ls.getD c 0->cd ls c=(s',r)->(D.put f (.lit (.int .u8 (k:Int)))).atKey q (.lit (.int .u8 0))=.lit (.int .u8 (c:Int)):=by
 intro s' r q B;have I:WideAt.IsKeyLit f:=KR.key E;by_cases e:q=f;subst e;have hv:=KR.inj B E;simp at hv;obtain⟨rfl,rfl⟩:=hv;refine⟨⟨λ _=>⟨k,by omega,J,hc⟩,λ _=>has_put_same A I _⟩,λ c _ O L=>?_⟩;have:c=k:=Rm O J (L.trans hc.symm);subst this;exact atKey_put_same A I _ _
 .have U:(s',r)≠(s,v):=λ x=>e (by
   grind)
  obtain⟨g1,T⟩:=K s' r q B;rw[has_put_other e,atKey_put_other e]
  grind
def KM.tch{S ls w w' b k}(h:KM ls w b k)(I:AD S w w')(B:¬S b):KM ls w' b k:=by obtain⟨D,n,f,A⟩:=h;refine⟨D,n,?_,A⟩;have E:=f.lt;obtain⟨r,q,J,K⟩:=f;exact⟨r,q,by rw[I.block b E B];exact J,K⟩
theorem XQ(w):(isAgg 312).run prog w=.ok true w:=by kernel_rfl
theorem AF1(w):(sizeOf 312).run prog w=.ok 2 w:=by kernel_rfl
def Ya(ps k)(f:k<ps.length):(Ck ps).extract (k*2) (k*2+2)=#[.int .i64 (ps.getD k (0,0)).1,.int .i64 (ps.getD k (0,0)).2]:=by
 have h:=Me ps k f;have q:=Kg ps;apply Array.ext_getElem?;intro i;rw[Array.getElem?_extract];simp only[Ck,List.size_toArray,q,List.getElem?_toArray]
 grind
def ABD(f ps)(k:Nat)(w)(q:Ck ps=f)(I:ps.length=256)(E:k<256):
 (Instr.index 313 (.agg f) (.int .i64 (k:Int))).run prog w=.ok (.agg #[.int .i64 (ps.getD k (0,0)).1,.int .i64 (ps.getD k (0,0)).2]) w:=by
 subst q;have r:(0:Int)<=(k:Int)/\(k:Int)<((256:Nat):Int):=by omega
 have A:=Ya ps k (by omega);have B:∀w,(underlying 313).run prog w=.ok (.array 256 312) w:=λ w=>by kernel_rfl
 unfold Instr.index;simp only[Sem.run_bind,asIntOf,Sem.run_pure,Result.andThen_ok,B];rw[if_pos r];simp only[Sem.run_bind,Sem.run_pure,Result.andThen_ok,AF1,part,XQ,Int.toNat_natCast,A,if_true]
def ABq(Y ls w)(hr:Rd .i64 w Y ls)(U:Bg ls):
 Calls prog 237 #[Y] w λ e w'=>∃b,e=.returned (.map (some b))/\KM ls w' b 256/\Below w.heap.size w w'/\w.heap.size<=b:=by
 have HR:=z6 hr;have HK:=z6 U;clear hr U;have an:∀w:World,(Instr.makeMap 332 none).run prog w=.ok (.map (some w.heap.size)) (w.alloc (.map #[] 0)):=λ w=>by kernel_rfl
 go_enter func237,ntmps237
 go_wp2_with fail;have O:Below w.heap.size w (w.alloc (.map #[] 0)):=(Below.refl _ _).alloc (AE _) _;refine(Rp Y ls _ (HR.o.below O) HK.o).mono ?_;rintro e w2 ⟨rfl,T⟩;obtain⟨CC,a3⟩:=exH (Ck (CK ls));rw[a3.o];have I:=z6 ((KM.start ls w).tch (S:=λ _=>False) (AD.of_below T) (λ e=>e));have Z:=z6 (O.trans (T.mono (by simp)));obtain⟨B,K⟩:=exH w.heap.size;rw[K.o]at I |-
 clear O T;go_wp2_with fail
 go_loopw [9] (λ i wr=>∃k:Nat,k<=256/\i=.int .i64 k/\Hid (KM ls wr B k)/\Hid (Below w.heap.size w wr)) (λ i _=>256-(intOf i).toNat)
 case atStart=>exact⟨0,AI _,rfl,I,Z⟩
 case round=>
  obtain⟨k,U,rfl,r,q⟩:=hrel;clear I Z;by_cases a5:k<256
  .have e0:(CK ls).getD k (0,0)=cd ls k:=by unfold CK;exact GB _ _ k a5
   obtain⟨x,y,X⟩:∃x y,cd ls k=(x,y):=⟨_,_,rfl⟩
   (have al:∀w,(Instr.index 313 (.agg CC) (.int .i64 (k:Int))).run prog w=.ok (.agg #[.int .i64 x,.int .i64 y]) w:=λ w=>by rw[ABD CC (CK ls) k w a3.o (J7 ls) a5,e0,X]);have A:=z6 X;clear e0 X;(have ai:(0:Int)<=(k:Int):=by omega);(have aj:(k:Int)<256:=by omega);(have ak:(k:Int)<=255:=by omega);(have am:(k:Int) % 256=(k:Int):=by omega);have ao:=wraps_u8 _ (by omega) (by omega);by_cases f:0<ls.getD k 0
   .have hx:0<x:=by have:=A.o;unfold cd at this;rw[if_pos f]at this;simp only[Prod.mk.injEq]at this;omega
    obtain⟨D,n,a7,hn,L,h4⟩:=r.o;obtain⟨s,v,af,a8,hv,a2,_,_,_,_⟩:=HK.o.code f;have ae:=Bg.pow a8;(have ag:x=(s:Int)/\y=(v:Int):=by have:=A.o.symm.trans a2;simpa using this);(have aa:(Lit.int .i64 x).wf=true:=by simp[Lit.wf,IntKind.min,IntKind.max,IntKind.signed,IntKind.bits];omega);(have ab:(Lit.int .i64 y).wf=true:=by simp[Lit.wf,IntKind.min,IntKind.max,IntKind.signed,IntKind.bits];omega);(have a9:(Lit.int .u8 (k:Int)).wf=true:=by simp[Lit.wf,IntKind.min,IntKind.max,IntKind.signed,IntKind.bits];omega);obtain⟨kl,W⟩:=TX x y aa ab;have ac:=z6 W;have ad:Hid (plainElem (H:=Unit) prog 5 (.int .u8 (k:Int))=some (.lit (.int .u8 (k:Int)),[])):=plainElem_int underlying5 a9;have a0:=z6 a7
    have a1:=KM.hit L W f A.o h4;have HH:Hid (∀w':World,w'.ownsMap prog 312 (plainElem prog 5) B (n+1) (D.put kl (.lit (.int .u8 (k:Int))))->KM ls w' B (k+1)):=λ w' ho=>⟨_,n+1,ho,by omega,by obtain⟨es,rfl⟩:=L;exact⟨_,rfl⟩,a1⟩
    clear af a8 hv a2 ae ag aa ab a9 W a7 L h4 a1 r;go_wp2_with(at_mapUpdate;refine wpList_mapUpdate_own _ rfl _ _ _ 332 rfl 312 5 KR underlying332 _ B n D rfl (a0.o.alloc _) (by unfold maxLen;omega) _ _ kl rfl rfl ac.o _ _ ad.o ?_;intro w4 a6 a4)
    (have J:=z6 (HH.o w4 a6);have E:Hid (Below w.heap.size w w4):=by have h1:Below w.heap.size w (wr.alloc (.cells #[.int .i64 x,.int .i64 y] 312)):=q.o.alloc q.o.size _;exact h1.grown a4 h1.size (λ j e=>by simp only[Option.some.injEq]at e;have:=K.o;omega));clear a6 a4 a0 HH;go_wp2_with fail
    go_roundw
    (case rel=>exact⟨k+1,by omega,by go_num,J,E⟩);case measure=>simp[intOf];omega
   .have hx:x=0:=by have:=A.o;unfold cd at this;rw[if_neg f]at this;simp only[Prod.mk.injEq]at this;omega
    subst hx;have J:Hid (KM ls (wr.alloc (.cells #[.int .i64 0,.int .i64 y] 312)) B (k+1)):=(r.o.miss f).tch (S:=λ _=>False) (AD.alloc (AD.refl _ _) _) (λ e=>e);have E:Hid (Below w.heap.size w (wr.alloc (.cells #[.int .i64 0,.int .i64 y] 312))):=q.o.alloc q.o.size _;clear r f;go_wp2_with fail
    go_roundw
    (case rel=>exact⟨k+1,by omega,by go_num,J,E⟩);case measure=>simp[intOf];omega
  .obtain rfl:k=256:=by omega
   go_wp2_with fail;go_ret;exact⟨B,rfl,r.o,q.o,by rw[K.o];exact AE _⟩
def vl(bs:List Int)(p:Nat):Nat->Int
 | 0=>0
 | t+1=>2*vl bs p t+bs.getD (p+t) 0
def AH8{bs}(h:Ai bs)(p t):0<=vl bs p t/\vl bs p t<2 ^ t:=by
 induction t with
 | zero=>simp[vl]
 | succ t q=>simp only[vl];have f:=h (p+t);omega
def FE(ls bs:List Int)(p t c:Nat):Prop:=c<256/\0<ls.getD c 0/\cd ls c=((t:Int),vl bs p t)
def ADm(V b)(f:0<=V)(r:V<=65536)(q:b=0\/b=1):Go.bits BinOp.or IntKind.i64 (2*V) b=2*V+b:=by
 obtain⟨n,rfl⟩:=Int.eq_ofNat_of_zero_le f;obtain⟨d,rfl,A⟩:∃d:Nat,b=(d:Int)/\d<=1:=by rcases q with rfl|rfl;exact⟨0,rfl,by omega⟩;exact⟨1,rfl,by omega⟩
 have e:(2*(n:Int))=((n*2 ^ 1:Nat):Int):=by omega
 rw[e,(bits_nat .i64 62 (by decide) Bp _ _ (by omega) (by omega)).2,Nat.or_comm,Ke d n 1 (by omega)];omega
def WK(bs left p):(left=0->A9 left 1=3/\CP bs left p 1=0/\Bt left 1=0)/\(0<left->A9 left 1=0/\CP bs left p 1=bs.getD p 0/\Bt left 1=1):=by
 unfold A9 CP Bt;refine⟨λ h=>?_,λ h=>?_⟩
 .grind
 .rw[if_neg (by omega),if_neg (by omega),if_neg (by omega),if_neg (by omega),if_neg (by omega),if_neg (by omega)];refine⟨rfl,?_,rfl⟩;show val bs p 1=_;simp[val,bv]
def KM.ne_blk{ls w b k g cs t f}(h:KM ls w b k)(B:w.heap[g]?=some (.cells cs t f)):b≠g:=by
 intro e;subst e;obtain⟨D,n,⟨r,q,A,_⟩,_⟩:=h
 grind
structure TS(ls:List Int)(w W:World)(rb:Nat)(rv:Value)(ys:List Int)(B gc p t:Nat):Prop where
 rr:Rr W rb rv ys (p+t)
 km:KM ls W B 256
 cc:W.heap[gc]?=some (.cells #[.int .i64 (t:Int),.int .i64 (vl (AM ys) p t)] 312 (0,0))
 tch:AD (λ k=>k=rb) w W
 no:∀s,s<=t->¬∃c,FE ls (AM ys) p s c
 gcn:w.heap.size<=gc
def XI(ls:List Int)(w:World)(rb:Nat)(rv:Value)(ys:List Int)(B p:Nat)(e:Ending)(w':World):Prop:=
 KM ls w' B 256/\AD (λ k=>k=rb) w w'/\∃q,Rr w' rb rv ys q/\p<=q/\
  ((∃(c t:Nat),q=p+t/\e=.returned (.tuple #[.int .u8 (c:Int),.int .i64 0])/\FE ls (AM ys) p t c)\/
   (e=.returned (.tuple #[.int .u8 0,.int .i64 3])/\∀t,t<=11->p+t<=8*ys.length->¬∃c,FE ls (AM ys) p t c))
theorem Ww(w):(zeroValue 5).run prog w=.ok (.int .u8 0) w:=by kernel_rfl
def AA5{ls bs p c}:¬FE ls bs p 0 c:=by
 rintro⟨_,q,f⟩;unfold cd at f
 grind
def AHG(ls A B J ys p w)(hr:Rr w A J ys p)(X:KM ls w B 256):
 Calls prog 238 #[.pointer (some ⟨A,0,none⟩),.map (some B)] w λ e w'=>XI ls w A J ys B p e w':=by
 have HR:=z6 hr;have HK:=z6 X;have az:=hr.lt;have aw:=hr.le;have ab:=z6 (Fx ys);clear hr X
 go_enter func238,ntmps238
 go_wp2_with fail;obtain⟨f,a2⟩:=exN w.heap.size;have T0:Hid (TS ls w (w.alloc (.cells #[.int .i64 0,.int .i64 0] 312)) A J ys B f p 0):=by
  have hb:Below w.heap.size w (w.alloc (.cells #[.int .i64 0,.int .i64 0] 312)):=(Below.refl _ _).alloc (AE _) _;refine⟨HR.o.below hb,HK.o.tch (S:=λ _=>False) (AD.of_below hb) (λ e=>e),?_,AD.of_below hb,λ s hs=>?_,by omega⟩;rw[<-a2];exact heap_alloc_new w _
  .obtain rfl:s=0:=by omega
   rintro⟨c,hc⟩;exact AA5 hc
 rw[a2];have a4:=z6 a2;clear a2
 go_loopw [11] (λ i wr=>∃t:Nat,t<=11/\i=.int .i64 t/\Hid (TS ls w wr A J ys B f p t)) (λ i _=>11-(intOf i).toNat)
 case atStart=>exact⟨0,AI _,rfl,T0⟩
 case round=>
  obtain⟨t,ht,rfl,T⟩:=hrel;clear T0;by_cases aq:t<11
  .have av:(t:Int)<11:=by omega
   by_cases ax:p+t<8*ys.length
   .obtain⟨Z,I,hN⟩:=(WK (AM ys) (8*ys.length-(p+t)) (p+t)).2 (by omega);have U:Hid (A9 (8*ys.length-(p+t)) 1=0/\CP (AM ys) (8*ys.length-(p+t)) (p+t) 1=(AM ys).getD (p+t) 0/\Bt (8*ys.length-(p+t)) 1=1):=⟨Z,I,hN⟩
    clear Z I hN;go_wp2_with fail;refine(LA A J ys (p+t) 1 wr T.o.rr).mono ?_;rintro e q ⟨rfl,L,O⟩;rw[U.o.1,U.o.2.1];rw[U.o.2.2]at L;obtain⟨r,a6⟩:=exH ((AM ys).getD (p+t) 0);(have am:r=0\/r=1:=by rw[<-a6.o];exact ab.o _);rw[a6.o];obtain⟨V,I⟩:=exH (vl (AM ys) p t);have ae:=AH8 ab.o p t;rw[I.o]at ae;have ar:V<2048:=by have:(2:Int) ^ t<=2 ^ 11:=Gt (by omega);(have e:(2:Int) ^ 11=2048:=by decide);omega
    (have ag:f≠A:=by have:=a4.o;omega);have K:q.heap[f]?=some (.cells #[.int .i64 (t:Int),.int .i64 V] 312 (0,0)):=by rw[O.block f (za0.1 T.o.cc).1 ag,T.o.cc,I.o]
    (have c0:q.cell? ⟨f,0,none⟩=some (.int .i64 (t:Int)):=by rw[cell_of_row q f 0 _ _ (0,0) K];rfl);(have c1:q.cell? ⟨f,1,none⟩=some (.int .i64 V):=by rw[cell_of_row q f 1 _ _ (0,0) K];rfl);have f0:=frozen_of_row q f 0 _ _ K;have f1:=frozen_of_row q f 1 _ _ K;(have HN:Hid (vl (AM ys) p (t+1)=2*V+r):=by show _=_;simp only[vl];rw[I.o,a6.o]);have ap:=ADm V r ae.1 (by omega) am;(have ay:Go.bits BinOp.or IntKind.i64 (V*2) r=2*V+r:=by rw[Int.mul_comm V 2];exact ap);(have b0:wrap64 (V*2 ^ 1)=2*V:=by rw[IntWalk.wrap64_in _ ⟨by omega,by omega⟩];omega);(have b2:wrap64 (V*2)=2*V:=by rw[IntWalk.wrap64_in _ ⟨by omega,by omega⟩];omega);have au:0<=r/\r<=1:=by omega
    have K2:=T.o.km.tch O (λ e=>T.o.km.ne_blk T.o.rr.blk e);obtain⟨D,n,a9,hn,hD,h4⟩:=K2;(have ai:(Lit.int .i64 ((t:Int)+1)).wf=true:=by simp[Lit.wf,IntKind.min,IntKind.max,IntKind.signed,IntKind.bits];omega);(have aj:(Lit.int .i64 (2*V+r)).wf=true:=by simp[Lit.wf,IntKind.min,IntKind.max,IntKind.signed,IntKind.bits];omega);obtain⟨Y,a8⟩:=TX ((t:Int)+1) (2*V+r) ai aj;have ac:=z6 a8;obtain⟨g1,g2⟩:=h4 _ _ Y a8;have HG:Hid ((Maps.has D Y=true↔∃c,c<256/\0<ls.getD c 0/\cd ls c=((t:Int)+1,2*V+r))/\∀c,c<256->0<ls.getD c 0->cd ls c=((t:Int)+1,2*V+r)->D.atKey Y (.lit (.int .u8 0))=.lit (.int .u8 (c:Int))):=⟨g1,g2⟩
    have T2:AD (λ k=>k=f) q ((q.setCell ⟨f,0,none⟩ (.int .i64 ((t:Int)+1))).setCell ⟨f,1,none⟩ (.int .i64 (2*V+r))):=AD.setCell (AD.setCell (AD.refl (λ k=>k=f) q) (p:=⟨f,0,none⟩) (λ _=>rfl) _) (p:=⟨f,1,none⟩) (λ _=>rfl) _;have a0:Hid (((q.setCell ⟨f,0,none⟩ (.int .i64 ((t:Int)+1))).setCell ⟨f,1,none⟩ (.int .i64 (2*V+r))).ownsMap prog 312 (plainElem prog 5) B n D):=by have ao:=a9.lt;obtain⟨es,al,q1,q2⟩:=a9;refine⟨es,al,?_,q2⟩;rw[T2.block B ao (λ e=>by rw[e,K]at q1;cases q1)];exact q1
    have E:Hid (KM ls ((q.setCell ⟨f,0,none⟩ (.int .i64 ((t:Int)+1))).setCell ⟨f,1,none⟩ (.int .i64 (2*V+r))) B 256/\AD (λ k=>k=A) w ((q.setCell ⟨f,0,none⟩ (.int .i64 ((t:Int)+1))).setCell ⟨f,1,none⟩ (.int .i64 (2*V+r)))/\Rr ((q.setCell ⟨f,0,none⟩ (.int .i64 ((t:Int)+1))).setCell ⟨f,1,none⟩ (.int .i64 (2*V+r))) A J ys (p+(t+1))/\
     ((q.setCell ⟨f,0,none⟩ (.int .i64 ((t:Int)+1))).setCell ⟨f,1,none⟩ (.int .i64 (2*V+r))).heap[f]?=some (.cells #[.int .i64 ((t+1:Nat):Int),.int .i64 (vl (AM ys) p (t+1))] 312 (0,0))):=by
     refine⟨⟨D,n,a0.o,hn,hD,h4⟩,?_,?_,?_⟩;exact(T.o.tch.trans O (λ _ _ e=>e)).trans T2 (λ i hi e=>by have:=a4.o;omega)
     .rw[show p+(t+1)=p+t+1 by omega];exact L.tch T2 (λ e=>ag e.symm) (λ k X e=>by
       obtain⟨a1,af⟩:∃a1,q.heap[k]?=some (.cells a1 5 (0,0)):=by
        rcases L.own.2 with⟨rfl,_⟩|⟨g,cap,a1,rfl,_,hg,_⟩
        .cases X
        .simp only[Value.ownBlock,Option.some.injEq]at X;subst X;exact⟨a1,hg⟩
       rw[e,K]at af;simp at af)
     .have q1:=heap_setCell_same q f 0 _ _ (.int .i64 ((t:Int)+1)) K;have q2:=heap_setCell_same _ f 1 _ _ (.int .i64 (2*V+r)) q1;rw[q2,HN.o];simp
    have ad:=T.o.no;have a5:=z6 ad;clear a8 g1 g2 h4 a9 hD hn T2 L O ad T K ai aj;by_cases a3:∃c,FE ls (AM ys) p (t+1) c
    .obtain⟨c,hc⟩:=a3;(have a7:cd ls c=((t:Int)+1,2*V+r):=by rw[hc.2.2,HN.o];simp);have an:=HG.o.1.2 ⟨c,hc.1,hc.2.1,a7⟩;have ak:=z6 (HG.o.2 c hc.1 hc.2.1 a7);have HC:=z6 hc;clear hc a7;go_wp2_with(at_lookup;refine wpList_lookup_own_ok_int _ rfl _ _ 332 rfl 312 5 .u8 KR underlying332 underlying5 (Ww _) B n D rfl a0.o _ Y rfl ac.o ?_;intro c' W aa)
     (have ec:c'=(c:Int):=by rw[ak.o]at W;simp at W;exact W.symm);subst ec;clear W aa;go_wp2_with fail;go_ret2;exact⟨E.o.1,E.o.2.1,p+(t+1),E.o.2.2.1,by omega,.inl ⟨c,t+1,rfl,rfl,HC.o⟩⟩
    .have an:Maps.has D Y=false:=by rw[Bool.eq_false_iff];intro e;obtain⟨c,h1,h2,h3⟩:=HG.o.1.1 e;exact a3 ⟨c,h1,h2,by rw[h3,HN.o];simp⟩
     have TN:Hid (TS ls w ((q.setCell ⟨f,0,none⟩ (.int .i64 ((t:Int)+1))).setCell ⟨f,1,none⟩ (.int .i64 (2*V+r))) A J ys B f p (t+1)):=by
      refine⟨E.o.2.2.1,E.o.1,E.o.2.2.2,E.o.2.1,λ s hs=>?_,by have:=a4.o;omega⟩;by_cases e:s<=t;exact a5.o s e
      .have:s=t+1:=by omega
       subst this;exact a3
     clear a3 E;go_wp2_with(at_lookup;refine wpList_lookup_own_ok_int _ rfl _ _ 332 rfl 312 5 .u8 KR underlying332 underlying5 (Ww _) B n D rfl a0.o _ Y rfl ac.o ?_;intro c' W aa)
     clear W aa a0;go_wp2_with fail
     go_roundw
     (case rel=>exact⟨t+1,by omega,by go_num,TN⟩);case measure=>simp[intOf];omega
   .obtain⟨Z,I,hN⟩:=(WK (AM ys) (8*ys.length-(p+t)) (p+t)).1 (by omega);have U:Hid (A9 (8*ys.length-(p+t)) 1=3/\CP (AM ys) (8*ys.length-(p+t)) (p+t) 1=0/\Bt (8*ys.length-(p+t)) 1=0):=⟨Z,I,hN⟩
    clear Z I hN;go_wp2_with fail;refine(LA A J ys (p+t) 1 wr T.o.rr).mono ?_;rintro e q ⟨rfl,L,O⟩;rw[U.o.1,U.o.2.1];rw[U.o.2.2]at L;have E:Hid (KM ls q B 256/\AD (λ k=>k=A) w q/\Rr q A J ys (p+t+0)):=⟨T.o.km.tch O (λ e=>T.o.km.ne_blk T.o.rr.blk e),T.o.tch.trans O (λ _ _ e=>e),L⟩
    have a5:=z6 T.o.no;clear L O T;go_wp2_with fail;go_ret2;exact⟨E.o.1,E.o.2.1,p+t+0,E.o.2.2,by omega,.inr ⟨rfl,λ s h1 h2=>a5.o s (by omega)⟩⟩
  .obtain rfl:t=11:=by omega
   go_wp2_with fail;go_ret2;exact⟨T.o.km,T.o.tch,p+11,T.o.rr,by omega,.inr ⟨rfl,λ s h1 _=>T.o.no s h1⟩⟩
inductive Rn(ls bs:List Int):List Int->Nat->Prop
 | nil:Rn ls bs [] 0
 | snoc (out:List Int) (q t c:Nat) (h:Rn ls bs out q) (hh:FE ls bs q t c):Rn ls bs (out++[(c:Int)]) (q+t)
def AIo(f r ys p w)(hr:Rr w f r ys p):
 Calls prog 236 #[.pointer (some ⟨f,0,none⟩)] w λ e w'=>e=.returned (.bool (val (AM ys) p ((8*ys.length-p) % 8)==0))/\AD (λ k=>k=f) w w':=by
 have O:=z6 hr;obtain⟨L,A⟩:∃L:Nat,8*ys.length-p=L:=⟨_,rfl⟩
 have a0:=hr.small;have a1:L<=1125899906842624:=by omega
 have K:=z6 A;obtain⟨z,W⟩:=exH (val (AM ys) p (L % 8));rw[A,W.o];clear hr A a0;have E:A9 L ((L % 8:Nat):Int)=0/\CP (AM ys) L p ((L % 8:Nat):Int)=val (AM ys) p (L % 8)/\Bt L ((L % 8:Nat):Int)=L % 8:=by
  unfold A9 CP Bt
  grind
 have T:Hid (A9 L ((L % 8:Nat):Int)=0/\CP (AM ys) L p ((L % 8:Nat):Int)=z):=⟨E.1,by rw[E.2.1,W.o]⟩
 clear E;have a2:((L:Int)).tmod 8=((L % 8:Nat):Int):=by grind
 go_enter func236,ntmps236
 go_wp2_with fail;refine(Hb f r ys p w O.o).mono ?_;rintro e J ⟨rfl,q,I⟩;rw[K.o];have X:Hid (Rr J f r ys p):=by rw[I];exact O.o.tch (AD.of_drewN (λ _=>False) w q) (λ e=>e) (λ _ _ e=>e)
 have Y:Hid (AD (λ k=>k=f) w J):=by rw[I];exact AD.of_drewN _ w q
 clear I;have B:=LA f r ys p ((L % 8:Nat):Int) J X.o;rw[K.o,T.o.1,T.o.2]at B;go_wp2_with fail;refine B.mono ?_;clear B;rintro e w2 ⟨rfl,_,U⟩;have Z:Hid (AD (λ k=>k=f) w w2):=Y.o.trans U (λ _ _ e=>e);clear U;go_wp2_with fail;go_ret;exact⟨rfl,Z.o⟩
def NN(ls ys:List Int)(n:Int)(w:World)(e:Ending)(w':World):Prop:=
 ∃rv E,e=.returned (.tuple #[rv,.int .i64 E])/\Below w.heap.size w w'/\(∀k,rv.ownBlock=some k->w.heap.size<=k)/\
  ((E≠0/\rv=.slice none 0 0/\((E=4/\BE ls=false)\/(E=1/\BE ls=true/\(n<0\/65536<n))\/
   (E=3/\BE ls=true/\0<=n/\n<=65536/\((∃out q,Rn ls (AM ys) out q/\(out.length:Int)<n/\∀t,t<=11->q+t<=8*ys.length->¬∃c,FE ls (AM ys) q t c)\/
    ∃out q,Rn ls (AM ys) out q/\(out.length:Int)=n/\(8<=8*ys.length-q\/val (AM ys) q ((8*ys.length-q) % 8)≠0)))))\/
   (E=0/\BE ls=true/\0<=n/\n<=65536/\∃out q,Rn ls (AM ys) out q/\(out.length:Int)=n/\q<=8*ys.length/\8*ys.length-q<8/\val (AM ys) q ((8*ys.length-q) % 8)=0/\AF .u8 5 w' rv out))
structure Ds(ls:List Int)(w W:World)(B rb:Nat)(rv d:Value)(ys out:List Int)(q:Nat):Prop where
 rr:Rr W rb rv ys q
 km:KM ls W B 256
 own:AF .u8 5 W d out
 rn:Rn ls (AM ys) out q
 bel:Below w.heap.size w W
 rbn:w.heap.size<=rb
 dn:∀k,d.ownBlock=some k->w.heap.size<=k
 ne:∀k,rv.ownBlock=some k->d.ownBlock≠some k
def Ds.ner{ls w W B A I d ys f q}(h:Ds ls w W B A I d ys f q):∀k,d.ownBlock=some k->k≠A:=by intro k E e;obtain⟨c1,r⟩:=JJ (show W.ownsRow 0 5 1 d f.length (f.map (Value.int .u8))from h.own) E;rw[e,h.rr.blk]at r;simp at r
def Ds.moved{ls w W W' B A I d ys r q}(h:Ds ls w W B A I d ys r q)(f:AD (λ k=>k=A) W W'):
 AF .u8 5 W' d r/\Below w.heap.size w W':=⟨h.own.tch f (λ k E e=>h.ner k E e),h.bel.trans (f.below h.bel.size (λ k e=>by rw[e];exact h.rbn))⟩
def Ds.next{ls w W f I B r T d J ys K L q O}(h:Ds ls w W B r T d ys K q)(ht:AD (λ k=>k=r) W f)(Z:Rr f r T ys O)(Y:KM ls f B 256)(ho:AF .u8 5 I J L)(A:AY f I d J)(hr:Rn ls (AM ys) L O):Ds ls w I B r T J ys L O:=by
 obtain⟨o6,b6⟩:=h.moved ht;have X:=A.onto b6 h.dn;refine⟨Z.tch A.tch (λ e=>h.ner r e rfl) (λ k E e=>h.ne k E e),Y.tch A.tch (λ e=>?_),ho,hr,X.1,h.rbn,X.2,λ k E e=>?_⟩;obtain⟨c1,h1⟩:=JJ (show f.ownsRow 0 5 1 d K.length (K.map (Value.int .u8))from o6) e;exact Y.ne_blk h1 rfl;rcases A.fresh k e with U|U;exact h.ne k E U;have:=Z.own.lt k E;omega
def ZZ(Y dv ls ys n w)(hr:Rd .i64 w Y ls)(hd:Rd .u8 w dv ys)(hy:By ys)(hl:ys.length<=140737488355328):
 Calls prog 209 #[Y,dv,.int .i64 n] w λ e w'=>NN ls ys n w e w':=by
 have HR:=z6 hr;have HD:=z6 hd;have HY:=z6 hy;clear hr hd hy;cases hm:BE ls with
 | false=>
  have A:=z6 hm;clear hm
  go_enter func209,ntmps209
  go_wp2_with fail;refine(IJ Y ls w HR.o).mono ?_;rintro e E ⟨rfl,rfl⟩;rw[A.o];go_wp2_with fail;go_ret2;exact⟨_,4,rfl,Below.refl _ _,(λ k e=>by cases e),.inl ⟨by decide,rfl,.inl ⟨rfl,A.o⟩⟩⟩
 | true=>
  have A:=z6 hm;have HK:=z6 (Bg.of hm);clear hm;by_cases hn:n<0\/65536<n
  .have HN:=z6 hn;rcases hn with hn|hn;all_goals
    go_enter func209,ntmps209
    go_wp2_with fail;refine(IJ Y ls w HR.o).mono ?_;rintro e E ⟨rfl,rfl⟩;rw[A.o];go_wp2_with fail;go_ret2;exact⟨_,1,rfl,Below.refl _ _,(λ k e=>by cases e),.inl ⟨by decide,rfl,.inr (.inl ⟨rfl,A.o,HN.o⟩)⟩⟩
  .obtain⟨m,rfl⟩:=Int.eq_ofNat_of_zero_le (show 0<=n by omega);(have b2:m<=65536:=by omega);clear hn;obtain⟨i0,hi,I,ao,ap⟩:=Dd.info
   go_enter func209,ntmps209
   go_wp2_with fail;refine(IJ Y ls w HR.o).mono ?_;rintro e E ⟨rfl,rfl⟩;rw[A.o];go_wp2_with fail;refine(ABq Y ls E HR.o HK.o).mono ?_;rintro e w2 ⟨B,rfl,ag,ad,au⟩;have K2:=z6 ag;have B2:=z6 ad;clear ag ad au;go_wp2_with fail;refine(PG dv ys w2 (HD.o.below B2.o) HY.o hl).mono ?_;rintro e w3 ⟨O,T,rfl,am,a4,an,ay⟩;have K3:=z6 (K2.o.tch (S:=λ _=>False) (AD.of_below a4) (λ e=>e));have B3:=z6 (B2.o.trans (a4.mono B2.o.size));have R3:=z6 am;have N3:=z6 (Aw B2.o.size an);clear am a4 an ay K2 B2;go_wp2_with(at_make;refine wpList_make_own _ rfl (.const (.int .i64 0)) (.tmp 26) 40 rfl 0 5 i0 _ 1 underlying40 hi I ao .i64 .i64 _ m rfl rfl rfl (by rw[ap];omega) (by unfold maxLen;omega) (AI _) ?_)
   (intro w4 aj ae;have D4:Hid (Ds ls E w4 B O T (.slice (some ⟨w3.heap.size,0,none⟩) 0 m) ys [] 0):=by have b4:=(Below.refl _ _).grown ae (AE _) (λ k e=>by cases e);refine⟨R3.o.below b4,K3.o.tch (S:=λ _=>False) (AD.of_below b4) (λ e=>e),aj,Rn.nil,B3.o.trans (b4.mono B3.o.size),N3.o,λ k W=>?_,λ k W e=>?_⟩;simp only[Value.ownBlock,Option.some.injEq]at W;have:=B3.o.size;omega;simp only[Value.ownBlock,Option.some.injEq]at e;have:=R3.o.own.lt k W;omega);clear aj ae K3 B3 R3 N3 hi I ao ap;go_wp2_with fail
   go_loopw [10,29] (λ d i wr=>∃(k q:Nat)(r:List Int),k<=m/\i=.int .i64 k/\r.length=k/\Hid (Ds ls E wr B O T d ys r q)) (λ _ i _=>m-(intOf i).toNat)
   (case atStart=>exact⟨0,0,[],AI _,rfl,rfl,D4⟩);case round=>
    obtain⟨k,q,r,W,rfl,b3,f⟩:=hrel;clear D4;by_cases b0:k<m
    .go_wp2_with fail;refine(AHG ls O B T ys q wr f.o.rr f.o.km).mono ?_;rintro e Z ⟨a6,a1,q6,a8,al,aw⟩;obtain⟨a7,a5⟩:=f.o.moved a1;rcases aw with⟨c,t,rfl,rfl,hh⟩|⟨rfl,ai⟩
     .have ab:=z6 a7;have aa:Hid (∀(W7:World)(d':Value),AF .u8 5 W7 d' (r++[(c:Int)])->AY Z W7 u10 d'->Ds ls E W7 B O T d' ys (r++[(c:Int)]) (q+t)):=λ W7 d' h1 h2=>f.o.next a1 a8 a6 h1 h2 (Rn.snoc r q t c f.o.rn hh);clear a6 a1 a8 al a7 a5 hh f;go_wp2_with(at_builtin;refine ET _ rfl (.tmp 40) (.tmp 42) 40 rfl 5 .u8 1 Dd _ r rfl ab.o (c:Int) rfl (by omega) (by omega) ?_)
      intro d7 w7 ak af;have D7:=z6 (aa.o w7 d7 ak af);clear ak af ab aa;go_wp2_with fail
      go_roundw
      (case rel=>exact⟨k+1,q+t,r++[(c:Int)],by omega,by go_num,by simp;omega,D7⟩);case measure=>simp[intOf];omega
     .have HP:=z6 a5;have HF:Hid (∃r q,Rn ls (AM ys) r q/\(r.length:Int)<(m:Int)/\∀t,t<=11->q+t<=8*ys.length->¬∃c,FE ls (AM ys) q t c):=⟨r,q,f.o.rn,by omega,ai⟩
      clear a6 a1 a8 al ai a7 a5 f;go_wp2_with fail;go_ret2;exact⟨_,3,rfl,HP.o,(λ k e=>by cases e),.inl ⟨by decide,rfl,.inr (.inr ⟨rfl,A.o,by omega,by omega,.inl HF.o⟩)⟩⟩
    .obtain rfl:k=m:=by omega
     have ax:=f.o.rr.le;obtain⟨L,hL⟩:∃L:Nat,8*ys.length-q=L:=⟨_,rfl⟩
     have U:=z6 hL;clear hL;go_wp2_with fail;refine(Hb O T ys q wr f.o.rr).mono ?_;rintro e Z ⟨rfl,dq,a9⟩;rw[U.o];(have R6:Hid (Rr Z O T ys q):=by rw[a9];exact f.o.rr.tch (AD.of_drewN (λ _=>False) wr dq) (λ e=>e) (λ _ _ e=>e));(have J:Hid (AF .u8 5 Z u10 r/\Below E.heap.size E Z):=by rw[a9];exact f.o.moved (AD.of_drewN _ wr dq));have a2:=z6 f.o.rn;have aq:=z6 f.o.dn;have ar:=z6 f.o.ner;have ac:=z6 f.o.rbn;clear a9 f;by_cases az:8<=L
     .have av:(8:Int)<=(L:Int):=by omega
      go_wp2_with fail;go_ret2;exact⟨_,3,rfl,J.o.2,(λ k e=>by cases e),.inl ⟨by decide,rfl,.inr (.inr ⟨rfl,A.o,by omega,by omega,.inr ⟨r,q,a2.o,by omega,.inl (by have:=U.o;omega)⟩⟩)⟩⟩
     .have av:¬(8:Int)<=(L:Int):=by omega
      have K:=AIo O T ys q Z R6.o;rw[U.o]at K;obtain⟨z,hz⟩:=exH (val (AM ys) q (L % 8));rw[hz.o]at K;by_cases I:z=0
      .have a0:(z==0)=true:=by simp[I]
       rw[a0]at K;have a3:=z6 I;clear I a0;go_wp2_with fail;refine K.mono ?_;clear K;rintro e w7 ⟨rfl,X⟩;have O7:Hid (AF .u8 5 w7 u10 r/\Below E.heap.size E w7):=⟨J.o.1.tch X (λ k W e=>ar.o k W e),J.o.2.trans (X.below J.o.2.size (λ k e=>by rw[e];exact ac.o))⟩
       clear X J R6;go_wp2_with fail;go_ret2;refine⟨u10,0,rfl,O7.o.2,aq.o,.inr ⟨rfl,A.o,by omega,by omega,r,q,a2.o,by omega,ax,by have:=U.o;omega,?_,O7.o.1⟩⟩;rw[U.o,hz.o];exact a3.o
      .have a0:(z==0)=false:=by simp[I]
       rw[a0]at K;have a3:=z6 I;clear I a0;go_wp2_with fail;refine K.mono ?_;clear K;rintro e w7 ⟨rfl,X⟩;have B7:=z6 (J.o.2.trans (X.below J.o.2.size (λ k e=>by rw[e];exact ac.o)));clear X J R6;go_wp2_with fail;go_ret2;exact⟨_,3,rfl,B7.o,(λ k e=>by cases e),.inl ⟨by decide,rfl,.inr (.inr ⟨rfl,A.o,by omega,by omega,.inr ⟨r,q,a2.o,by omega,.inr (by rw[U.o,hz.o];exact a3.o)⟩⟩)⟩⟩
def Jk(b f ys p n w)(h:Rr w b f ys p)(I:n<=32)(E:p+n<=8*ys.length):
 Calls prog 212 #[.pointer (some ⟨b,0,none⟩),.int .i64 (n:Int)] w λ e w'=>
  e=.returned (.tuple #[.int .i64 (val (AM ys) p n),.int .i64 0])/\Rr w' b f ys (p+n)/\AD (λ k=>k=b) w w':=by
 have q:=LA b f ys p (n:Int) w h;have r:A9 (8*ys.length-p) (n:Int)=0:=by unfold A9;omega
 have A:CP (AM ys) (8*ys.length-p) p (n:Int)=val (AM ys) p n:=by unfold CP;grind
 have B:Bt (8*ys.length-p) (n:Int)=n:=by unfold Bt;grind
 rw[r,A,B]at q;exact q
def M8(b f ys p n w)(h:Rr w b f ys p)(J:n<=32)(E:8*ys.length<p+n):
 Calls prog 212 #[.pointer (some ⟨b,0,none⟩),.int .i64 (n:Int)] w λ e w'=>
  e=.returned (.tuple #[.int .i64 0,.int .i64 3])/\Rr w' b f ys p/\AD (λ k=>k=b) w w':=by
 have I:=h.le;have q:=LA b f ys p (n:Int) w h;have r:A9 (8*ys.length-p) (n:Int)=3:=by unfold A9;omega
 have A:CP (AM ys) (8*ys.length-p) p (n:Int)=0:=by unfold CP;omega
 have B:Bt (8*ys.length-p) (n:Int)=0:=by unfold Bt;grind
 rw[r,A,B]at q;exact q
def AHR(b f ys p w)(h:Rr w b f ys p)(E:p+4<=8*ys.length):
 Calls prog 254 #[.pointer (some ⟨b,0,none⟩)] w λ e w'=>
  e=.returned (.tuple #[.int .i64 (val (AM ys) p 4+1),.int .i64 0])/\Rr w' b f ys (p+4)/\AD (λ k=>k=b) w w':=by
 have H:=z6 h;have hv:=Qa ys p;obtain⟨x,r⟩:=exH (val (AM ys) p 4);rw[r.o]at hv |-
 clear h
 go_enter func254,ntmps254
 go_wp2_with fail;refine(Jk b f ys p 4 w H.o (by decide) E).mono ?_;rintro e I ⟨rfl,hr,q⟩;rw[r.o];have A:=z6 hr;have B:=z6 q;clear hr q;go_wp2_with fail;go_ret2;exact⟨rfl,A.o,B.o⟩
def AHQ(b f ys p w)(h:Rr w b f ys p)(B:8*ys.length<p+4):
 Calls prog 254 #[.pointer (some ⟨b,0,none⟩)] w λ e w'=>
  e=.returned (.tuple #[.int .i64 0,.int .i64 3])/\Rr w' b f ys p/\AD (λ k=>k=b) w w':=by
 have H:=z6 h;clear h
 go_enter func254,ntmps254
 go_wp2_with fail;refine(M8 b f ys p 4 w H.o (by decide) B).mono ?_;rintro e E ⟨rfl,hr,q⟩;have r:=z6 hr;have A:=z6 q;clear hr q;go_wp2_with fail;go_ret2;exact⟨rfl,r.o,A.o⟩
def AIp(f r ys p w)(hr:Rr w f r ys p):
 Calls prog 236 #[.pointer (some ⟨f,0,none⟩)] w λ e w'=>e=.returned (.bool (val (AM ys) p ((8*ys.length-p) % 8)==0))/\Rr w' f r ys (p+(8*ys.length-p) % 8)/\AD (λ k=>k=f) w w':=by
 have I:=z6 hr;obtain⟨L,A⟩:∃L:Nat,8*ys.length-p=L:=⟨_,rfl⟩
 have a1:=hr.small;have a0:=hr.le;have a2:L<=1125899906842624:=by omega
 have X:=z6 A;obtain⟨z,T⟩:=exH (val (AM ys) p (L % 8));rw[A,T.o];have J:Hid (∀W,Rr W f r ys p->Calls prog 212 #[.pointer (some ⟨f,0,none⟩),.int .i64 ((L % 8:Nat):Int)] W λ e w'=>e=.returned (.tuple #[.int .i64 z,.int .i64 0])/\Rr w' f r ys (p+L % 8)/\AD (λ k=>k=f) W w'):=λ W h=>by have:=Jk f r ys p (L % 8) W h (by omega) (by omega);rw[T.o]at this;exact this
 clear hr A a1 a0;have a3:((L:Int)).tmod 8=((L % 8:Nat):Int):=by grind
 go_enter func236,ntmps236
 go_wp2_with fail;refine(Hb f r ys p w I.o).mono ?_;rintro e E ⟨rfl,q,B⟩;rw[X.o];have U:Hid (Rr E f r ys p):=by rw[B];exact I.o.tch (AD.of_drewN (λ _=>False) w q) (λ e=>e) (λ _ _ e=>e)
 have Z:Hid (AD (λ k=>k=f) w E):=by rw[B];exact AD.of_drewN _ w q
 clear B;go_wp2_with fail;refine(J.o E U.o).mono ?_;clear J;rintro e w2 ⟨rfl,K,O⟩;have T2:Hid (AD (λ k=>k=f) w w2):=Z.o.trans O (λ _ _ e=>e);have Y:=z6 K;clear O K;go_wp2_with fail;go_ret;exact⟨rfl,Y.o,T2.o⟩
structure Hw(w W:World)(rb:Nat)(rv d:Value)(ys l:List Int)(p:Nat):Prop where
 rr:Rr W rb rv ys p
 own:AF .i64 3 W d l
 tch:AD (λ k=>k=rb) w W
 dn:∀k,d.ownBlock=some k->w.heap.size<=k
 rl:rb<w.heap.size
 vl:∀k,rv.ownBlock=some k->k<w.heap.size
def Hw.moved{w W W' f r d ys l p q}(h:Hw w W f r d ys l p)(hr:Rr W' f r ys q)(A:AD (λ k=>k=f) W W'):Hw w W' f r d ys l q:=
 ⟨hr,h.own.tch A (λ j B e=>by have:=h.dn j B;have:=h.rl;omega),h.tch.trans A (λ _ _ e=>e),h.dn,h.rl,h.vl⟩
def Hw.grew{w W W' B E d f ys l A p}(h:Hw w W B E d ys l p)(I:AF .i64 3 W' f A)(q:AY W W' d f):Hw w W' B E f ys A p:=by
 refine⟨h.rr.tch q.tch (λ e=>?_) (λ k r e=>?_),I,h.tch.trans q.tch (λ i J e=>?_),λ k r=>?_,h.rl,h.vl⟩;have:=h.dn _ e;have:=h.rl;omega;have:=h.dn _ e;have:=h.vl k r;omega;have:=h.dn _ e;omega
 .rcases q.fresh k r with e|e;exact h.dn k e;have:=h.tch.size;omega
def Hu(R:Int×List Int×Nat)(rb:Nat)(rv:Value)(ys:List Int)(w:World)(e:Ending)(w':World):Prop:=
 ∃d,e=.returned (.tuple #[d,.int .i64 R.1])/\AD (λ k=>k=rb) w w'/\(∀k,d.ownBlock=some k->w.heap.size<=k)/\(R.1=0->Rr w' rb rv ys R.2.2/\AF .i64 3 w' d R.2.1)/\(R.1≠0->d=.slice none 0 0)
def Hu.bad{R f A ys w w' E}(h:R.1=E)(q:E≠0)(r:AD (λ k=>k=f) w w'):Hu R f A ys w (.returned (.tuple #[.slice none 0 0,.int .i64 E])) w':=
 ⟨_,by rw[h],r,(λ k e=>by cases e),λ e=>absurd (h.symm.trans e) q,λ _=>rfl⟩
def AHJ(A J ys w)(hr:Rr w A J ys 0):
 Calls prog 235 #[.pointer (some ⟨A,0,none⟩)] w λ e w'=>Hu (E9 ys) A J ys w e w':=by
 have HR:=z6 hr;have aj:=hr.lt;have ak:∀k,J.ownBlock=some k->k<w.heap.size:=λ k hk=>hr.own.lt k hk;have aq:=z6 aj;have ar:=z6 ak;have b5:=hr.small;clear hr ak aj;obtain⟨R,hR⟩:=exH (E9 ys);rw[hR.o];by_cases h8:8*ys.length<8
 .have K:Hid (R.1=3):=by show _=_;rw[<-hR.o];unfold E9;rw[if_pos h8]
  go_enter func235,ntmps235
  go_wp2_with fail;refine(M8 A J ys 0 8 w HR.o (by decide) (by omega)).mono ?_;rintro e w1 ⟨rfl,a3,a0⟩;have T1:=z6 a0;clear a3 a0;go_wp2_with fail;go_ret2;exact Hu.bad K.o (by decide) T1.o
 .have aa:=AHz ys 0;obtain⟨r,a7⟩:∃r:Nat,Hid (val (AM ys) 0 8=(r:Int)):=by obtain⟨n,hn⟩:=Int.eq_ofNat_of_zero_le aa.1;exact⟨n,hn⟩
  rw[a7.o]at aa;have ax:r<=255:=by omega
  have ab:Hid (tl (AM ys) (8*ys.length) r (r+2) 8 [] false=R):=by show _=_;rw[<-hR.o];unfold E9;rw[if_neg h8,a7.o,Int.toNat_natCast]
  obtain⟨j0,hj,am,an,ao⟩:=DU.info;clear aa
  go_enter func235,ntmps235
  go_wp2_with fail;refine(Jk A J ys 0 8 w HR.o (by decide) (by omega)).mono ?_;rintro e w1 ⟨rfl,a3,a0⟩;rw[a7.o];have T1:=z6 a0;have R1:=z6 a3;clear a3 a0;go_wp2_with(at_make;refine wpList_make_own _ rfl (.const (.int .i64 0)) (.tmp 20) 23 rfl 0 3 j0 _ 1 underlying23 hj am an .i64 .i64 _ (r+1) rfl rfl rfl (by rw[ao];omega) (by unfold maxLen;omega) (AI _) ?_)
  intro w2 ai ad;have S2:Hid (Hw w w2 A J (.slice (some ⟨w1.heap.size,0,none⟩) 0 (r+1)) ys [] 8):=by have b2:=(Below.refl _ _).grown ad (AE _) (λ k e=>by cases e);refine⟨R1.o.below b2,ai,T1.o.trans (AD.of_below (S:=λ k=>k=A) b2) (λ _ _ e=>e),λ k hk=>?_,aq.o,ar.o⟩;simp only[Value.ownBlock,Option.some.injEq]at hk;have:=T1.o.size;omega
  clear ai ad R1 T1 hj am an ao;go_wp2_with fail
  go_loopw [6,7] (λ d c wr=>∃(l:List Int)(p f:Nat)(X:Bool),c=.bool X/\l.length<=r+1/\r+2<=l.length+f/\Hid (Hw w wr A J d ys l p)/\Hid (tl (AM ys) (8*ys.length) r f p l X=R)) (λ d _ _=>r+1-Gm d)
  case atStart=>exact⟨[],8,r+2,false,rfl,AI _,by simp,S2,ab⟩
  case round=>
   clear S2 ab;obtain⟨l,p,f,X,rfl,hl,hf,S,U⟩:=hrel;obtain⟨a2,av,hv,aw,b3,_,_⟩:=S.o.own.rd;subst hv;obtain⟨f',rfl⟩:∃f',f=f'+1:=⟨f-1,by omega⟩
   have q:=U.o;simp only[tl]at q;by_cases ag:r<l.length
   .rw[if_pos ag]at q;have K:=z6 q.symm;(have az:decide (l.length<=r)=false:=by rw[AT];omega);clear q U;go_wp2_with fail;go_ret2;rw[K.o];exact⟨_,rfl,S.o.tch,S.o.dn,λ _=>⟨S.o.rr,S.o.own⟩,λ e=>absurd rfl e⟩
   .rw[if_neg ag]at q;(have ay:l.length<=r:=by omega);have b4:=S.o.rr.le;by_cases h4:8*ys.length-p<4
    .rw[if_pos h4]at q;(have K:Hid (R.1=3):=by show _=_;rw[<-q]);clear q U;go_wp2_with fail;refine(M8 A J ys p 4 wr S.o.rr (by decide) (by omega)).mono ?_;rintro e T ⟨rfl,I,E⟩;have T3:Hid (AD (λ k=>k=A) w T):=S.o.tch.trans E (λ _ _ e=>e);clear I E;go_wp2_with fail;go_ret2;exact Hu.bad K.o (by decide) T3.o
    .rw[if_neg h4]at q;have au:=Qa ys p;obtain⟨x,hx⟩:=exH (val (AM ys) p 4);rw[hx.o]at q au;have a6:=Jk A J ys p 4 wr S.o.rr (by decide) (by omega);rw[hx.o]at a6;have L:=z6 a6;clear a6;by_cases al:0<x
     .rw[if_pos al]at q;have a5:=z6 q;clear q U;go_wp2_with fail;refine L.o.mono ?_;clear L;rintro e T ⟨rfl,I,E⟩;have B:=z6 (S.o.moved I E);clear I E S;go_wp2_with(at_builtin;refine ET _ rfl (.tmp 36) (.tmp 38) 23 rfl 3 .i64 8 DU _ l rfl B.o.own x rfl (by omega) (by omega) ?_)
      (intro d4 w4 a8 ae;have S4:=z6 (B.o.grew a8 ae);have HM:Hid (r+1-Gm d4<r+1-l.length):=by show _<_;obtain⟨_,_,e,_⟩:=a8.rd;rw[e];simp only[Gm,zc0,zh0,List.length_nil];omega);clear a8 ae B;go_wp2_with fail
      go_roundw
      (case rel=>exact⟨l++[x],p+4,f',false,rfl,by simp;omega,by simp;omega,S4,a5⟩);case measure=>exact HM.o
     .rw[if_neg al]at q;(have b6:decide (0<x)=false:=by rw[AT];omega);by_cases ac:8*ys.length-(p+4)<4
      .rw[if_pos ac]at q;(have K:Hid (R.1=3):=by show _=_;rw[<-q]);clear q U;go_wp2_with fail;refine L.o.mono ?_;clear L;rintro e T ⟨rfl,I,E⟩;have B:=z6 (S.o.moved I E);clear I E S;go_wp2_with fail;refine(AHQ A J ys (p+4) T B.o.rr (by omega)).mono ?_;rintro e w4 ⟨rfl,Z,O⟩;have T4:Hid (AD (λ k=>k=A) w w4):=B.o.tch.trans O (λ _ _ e=>e);clear Z O B;go_wp2_with fail;go_ret2;exact Hu.bad K.o (by decide) T4.o
      .rw[if_neg ac]at q;have a4:=Qa ys (p+4);obtain⟨z,hz⟩:∃z:Nat,Hid (val (AM ys) (p+4) 4=(z:Int)):=by obtain⟨n,hn⟩:=Int.eq_ofNat_of_zero_le a4.1;exact⟨n,hn⟩
       (rw[hz.o]at q a4;rw[Int.toNat_natCast]at q;have a1:Hid (∀W,Rr W A J ys (p+4)->Calls prog 254 #[.pointer (some ⟨A,0,none⟩)] W λ e w'=>e=.returned (.tuple #[.int .i64 ((z:Int)+1),.int .i64 0])/\Rr w' A J ys (p+4+4)/\AD (λ k=>k=A) W w'):=λ W h=>by have:=AHR A J ys (p+4) W h (by omega);rw[hz.o]at this;exact this);have b7:=a4.2;clear a4;by_cases Y:X=true\/r+1<l.length+(z+1)
       .rw[if_pos Y]at q;(have K:Hid (R.1=4):=by show _=_;rw[<-q]);have ap:=z6 Y;clear q U Y;go_wp2_with fail;refine L.o.mono ?_;clear L;rintro e T ⟨rfl,I,E⟩;have B:=z6 (S.o.moved I E);clear I E S;go_wp2_with fail;refine(a1.o T B.o.rr).mono ?_;clear a1;rintro e w4 ⟨rfl,Z,O⟩;have T4:Hid (AD (λ k=>k=A) w w4):=B.o.tch.trans O (λ _ _ e=>e);clear Z O B;cases X with
        | true=>go_wp2_with fail;go_ret2;exact Hu.bad K.o (by decide) T4.o
        | false=>(have hg:((r:Int)+1)<(l.length:Int)+((z:Int)+1):=by rcases ap.o with e|e;(· cases e);(· omega));go_wp2_with fail;go_ret2;exact Hu.bad K.o (by decide) T4.o
       .rw[if_neg Y]at q;have a5:=z6 q;(obtain rfl:X=false:=by cases X;(· rfl);(· exact absurd (.inl rfl) Y));(have hg:decide ((r:Int)+1<(l.length:Int)+((z:Int)+1))=false:=by rw[AT];omega);(have b0:l.length+(z+1)<=r+1:=by omega);clear q U Y;go_wp2_with fail;refine L.o.mono ?_;clear L;rintro e T ⟨rfl,I,E⟩;have B:=z6 (S.o.moved I E);clear I E S;go_wp2_with fail;refine(a1.o T B.o.rr).mono ?_;clear a1;rintro e w4 ⟨rfl,Z,O⟩;have S4:=z6 (B.o.moved Z O);clear Z O B;go_wp2_with(at_builtin;refine Wl _ rfl (.tmp 58) (.tmp 59) rfl _ l rfl S4.o.own (z+1) rfl (by omega) ?_)
        (intro d5 w5 a9 af;have S5:=z6 (S4.o.grew a9 af);have HM:Hid (r+1-Gm d5<r+1-l.length):=by show _<_;obtain⟨_,_,e,_⟩:=a9.rd;rw[e];simp only[Gm,zc0,zm0];omega);clear a9 af S4;go_wp2_with fail
        go_roundw
        (case rel=>exact⟨l++List.replicate (z+1) 0,p+8,f',decide (z+1<16),by congr 1;rw[decide_eq_decide];omega,by simp;omega,by simp;omega,S5,a5⟩);case measure=>exact HM.o
def JF(R:Int×List Int×Nat)(w:World)(e:Ending)(w':World):Prop:=
 ∃d,e=.returned (.tuple #[d,.int .i64 (R.2.2:Int),.int .i64 R.1])/\Below w.heap.size w w'/\(∀k,d.ownBlock=some k->w.heap.size<=k)/\AF .i64 3 w' d R.2.1
def JF.bad{R w w' E}(h:R=(E,[],0))(f:Below w.heap.size w w'):JF R w (.returned (.tuple #[.slice none 0 0,.int .i64 0,.int .i64 E])) w':=
 ⟨_,by rw[h];rfl,f,(λ k e=>by cases e),by rw[h];exact CB _ _ _⟩
def AHD(v ys w)(h:Rd .u8 w v ys)(hy:By ys)(hl:ys.length<=140737488355328):
 Calls prog 208 #[v] w λ e w'=>JF (DX ys) w e w':=by
 have ag:=z6 h;have HY:=z6 hy;obtain⟨va,au,aj,_,_,_,_⟩:=h;obtain⟨R,hR⟩:=exH (DX ys);rw[hR.o];have a3:=hR.o;unfold DX at a3;clear hy;subst aj
 go_enter func208,ntmps208
 go_wp2_with fail;refine(PG _ ys w ag.o HY.o hl).mono ?_;rintro e w1 ⟨rb,rv,rfl,ad,aa,ab,ai⟩;have U:=z6 ad;have X:=z6 aa;have Z:=z6 ab;clear ad aa ab ai;have a8:=a3;have Y:=z6 a8;clear a3 a8;go_wp2_with fail;refine(AHJ rb rv ys w1 U.o).mono ?_;rintro e w2 ⟨d,rfl,a2,a4,W,a0⟩;have r:=z6 (X.o.trans (a2.below X.o.size (λ k e=>by rw[e];exact Z.o)));have O:=z6 a4;obtain⟨t,ht⟩:=exH (E9 ys);rw[ht.o]at Y W a0 |-
 obtain⟨E,l,p⟩:=t;simp only at W a0 |-
 have A:=Y.o;simp only at A;by_cases hE:E=0
 .subst hE;obtain⟨a5,ac⟩:=W rfl;rw[if_neg (by simp)]at A;have R2:=z6 a5;have O2:=z6 ac;have a9:=z6 A;have ak:=z6 a2.size;have ap:=a5.le;have ao:=U.o.lt;have ar:=U.o.small;clear a2 a4 W a0 a5 ac Y A U X;obtain⟨z,hz⟩:=exH (val (AM ys) p ((8*ys.length-p) % 8));have I:=AIp rb rv ys p w2 R2.o;rw[hz.o]at I;have B:=a9.o;rw[hz.o]at B;clear a9;by_cases a7:z=0
  .subst a7;have T:=z6 I;clear I;go_wp2_with fail;refine T.o.mono ?_;clear T;rintro e w3 ⟨rfl,a1,J⟩;have R3:=z6 a1;have L:=z6 (r.o.trans (J.below r.o.size (λ k e=>by rw[e];exact Z.o)));have O3:=z6 (O2.o.tch J (λ k hk e=>by have:=O.o k hk;omega));(have af:Hid (∀k,d.ownBlock=some k->w.heap.size<=k):=λ k hk=>by have:=O.o k hk;have:=Z.o;omega);clear a1 J R2 r O2 O;go_wp2_with fail;refine(IJ d l w3 O3.o.rd).mono ?_;rintro e w4 ⟨rfl,rfl⟩;cases hm:BE l with
   | false=>(have f:Hid (R=(4,[],0)):=by show _=_;rw[<-B,if_pos (.inr hm)]);clear B hm;go_wp2_with fail;go_ret3;exact JF.bad f.o L.o
   | true=>
    (have f:Hid (R=(0,l,ys.length-(8*ys.length-p) / 8)):=by show _=_;rw[<-B,if_neg (by simp[hm])]);clear B hm;have hL:=Hb rb rv ys _ w4 R3.o;obtain⟨K,hK⟩:∃K:Nat,(8*ys.length-p) / 8=K:=⟨_,rfl⟩
    rw[show 8*ys.length-(p+(8*ys.length-p) % 8)=8*K by omega]at hL;have HL:=z6 hL;(have an:K<=ys.length:=by omega);(have hq:((8*K:Nat):Int).tdiv 8=(K:Int):=by rw[Int.tdiv_eq_ediv_of_nonneg (by omega)];omega);(have aq:(8*(K:Int)).tdiv 8=(K:Int):=by rw[Int.tdiv_eq_ediv_of_nonneg (by omega)];omega);rw[hK]at f;clear hL hK;go_wp2_with fail;refine HL.o.mono ?_;rintro e w5 ⟨rfl,q,a6⟩;(have B5:Hid (Below w.heap.size w w5):=by rw[a6];exact L.o.trans (Below.of_drewN _ _ _));(have O5:Hid (AF .i64 3 w5 d l):=by rw[a6];exact O3.o.below (Below.of_drewN _ _ _));clear a6 HL R3 L O3;go_wp2_with fail;go_ret3;rw[f.o];refine⟨d,?_,B5.o,af.o,O5.o⟩
    (have e:((ys.length-K:Nat):Int)=(ys.length:Int)-(K:Int):=by omega);simp only[e]
    go_num
  .have ae:(z==0)=false:=by simp[a7]
   rw[ae]at I;have T:=z6 I;(have f:Hid (R=(4,[],0)):=by show _=_;rw[<-B,if_pos (.inl a7)]);clear I B ae;go_wp2_with fail;refine T.o.mono ?_;clear T;rintro e w3 ⟨rfl,a1,J⟩;have L:=z6 (r.o.trans (J.below r.o.size (λ k e=>by rw[e];exact Z.o)));clear a1 J R2 r O2 O;go_wp2_with fail;go_ret3;exact JF.bad f.o L.o
 .rw[if_pos hE]at A;have f:=z6 A.symm;have al:(E != 0)=true:=by simp[hE]
  have am:(E==0)=false:=by simp[hE]
  clear a2 a4 W a0 Y A U X O;go_wp2_with fail;go_ret3;exact JF.bad f.o r.o
end
section
open Go.RowKit Pl
def Wg{bs}(h:Ai bs)(p t d):vl bs p (t+d) / 2 ^ d=vl bs p t:=by
 induction d with
 | zero=>simp
 | succ d f=>
  rw[show t+(d+1)=t+d+1 by omega];simp only[vl];have q:=h (p+(t+d));have e:(2:Int) ^ (d+1)=2*2 ^ d:=by omega
  rw[e,<-Int.ediv_ediv_of_nonneg (by decide),show(2*vl bs p (t+d)+bs.getD (p+(t+d)) 0) / 2=vl bs p (t+d) by omega,f]
def Oi{ls bs}(q:Bg ls){p t c}(h:FE ls bs p t c):1<=t/\t<=11/\vl bs p t=(nx ls (t-1) c:Int)/\ls.getD c 0=(t:Int)/\c<ls.length:=by
 obtain⟨s,v,r,A,B,f,E,I,J,K⟩:=q.code h.2.1;have:=h.2.2.symm.trans f
 grind
def AA6{ls bs}(B:Bg ls)(A:Ai bs){p t c f q}(h:FE ls bs p t c)(r:FE ls bs p f q):t=f/\c=q:=by
 obtain⟨L,O,T,U,E⟩:=Oi B h;obtain⟨b1,W,X,Y,I⟩:=Oi B r;rcases Nat.lt_trichotomy t f with e|e|e
 .exfalso;have J:=Rl ls (s:=t-1) (t:=f-1) (b:=c) (c:=q) (by omega) E (by omega);have K:=Wg A p t (f-t)
  grind
 .subst e;exact⟨rfl,Rm h.2.1 r.2.1 (h.2.2.trans r.2.2.symm)⟩
 .exfalso;have J:=Rl ls (s:=f-1) (t:=t-1) (b:=q) (c:=c) (by omega) I (by omega);have K:=Wg A p f (t-f)
  grind
def Ml{ls bs:List Int}(O:Bg ls)(K:Ai bs){E:List Int}{q:Nat}(h:Rn ls bs E q):∀{f:List Int} {r:Nat},Rn ls bs f r->E.length=f.length->E=f/\q=r:=by
 induction h with
 | nil=>
  intro f r A B;cases A with
  | nil=>simp
  | snoc o q t c h I=>simp at B
 | snoc o q t c h I T=>
  intro f r A B;cases A with
  | nil=>simp at B
  | snoc W X t2 U J L=>obtain⟨rfl,rfl⟩:=T J (by grind);obtain⟨rfl,rfl⟩:=AA6 O K I L;simp
def AFJ{ls bs}(A:Bg ls){f Q}(h:Rn ls bs f Q):∀k,k<f.length->∃q t c,Rn ls bs (f.take k) q/\FE ls bs q t c/\q+t<=Q/\t<=11:=by
 induction h with
 | nil=>simp
 | snoc o q t c h r E=>
  intro k B;simp at B;by_cases e:k=o.length;subst e;exact⟨q,t,c,by grind,r,AE _,(Oi A r).2.1⟩
  .obtain⟨O,T,c1,I,J,K,L⟩:=E k (by omega)
   grind
def Wf{bs cs:List Int}{p q:Nat}:∀t,(∀i,i<t->bs.getD (p+i) 0=cs.getD (q+i) 0)->vl bs p t=vl cs q t
 | 0,_=>rfl
 | t+1,h=>by simp only[vl];rw[Wf t (λ i f=>h i (by omega)),h t (by omega)]
def We(v s:Nat):∀t,t<=s->vl (Db v s) 0 t=((v / 2 ^ (s-t) % 2 ^ t:Nat):Int)
 | 0,_=>by simp[vl,Nat.mod_one]
 | t+1,h=>by
  simp only[vl];rw[We v s t (by omega)];have e:(Db v s).getD (0+t) 0=((v / 2 ^ (s-(t+1)) % 2:Nat):Int):=by
   have:(Db v s).getD t 0=(v:Int) / 2 ^ (s-1-t) % 2:=by simp[Db,AP,show t<s by omega]
   grind
  rw[e];have f:s-t=(s-(t+1))+1:=by omega
  have q:v / 2 ^ (s-t)=v / 2 ^ (s-(t+1)) / 2:=by rw[f,Nat.pow_succ,Nat.div_div_eq_div_mul]
  rw[q];obtain⟨x,r⟩:=exN (v / 2 ^ (s-(t+1)));rw[r];have A:x % 2 ^ (t+1)=2*(x / 2 % 2 ^ t)+x % 2:=by rw[Nat.pow_succ,Nat.mul_comm (2 ^ t) 2,Nat.mod_mul];omega
  omega
def Uy{ls:List Int}(I:Bg ls)(f:List Int)(A:By f)(hc:∀i,i<f.length->0<ls.getD (f.getD i 0).toNat 0)(bs:List Int)(L:∀i,i<(enc ls f).length->bs.getD i 0=(enc ls f).getD i 0):
 ∀k,k<=f.length->Rn ls bs (f.take k) (enc ls (f.take k)).length
 | 0,_=>by simpa[enc]using Rn.nil
 | k+1,h=>by
  have U:=Uy I f A hc bs L k (by omega);obtain⟨c,q⟩:=Int.eq_ofNat_of_zero_le (A k).1;have r:=hc k (by omega);rw[q,Int.toNat_natCast]at r;obtain⟨s,v,W,X,K,E,Y,Z,h7,h8⟩:=I.code r;have B:=SM ls f k (by omega);rw[q,Int.toNat_natCast]at B;have T:(cb ls c).length=s:=by rw[RZ,E];simp
  have a0:enc ls f=enc ls (f.take k)++cb ls c++enc ls (f.drop (k+1)):=by rw[<-B,<-OQ,zs0]
  have O:FE ls bs (enc ls (f.take k)).length s c:=by
   refine⟨by have:=(A k).2;omega,r,?_⟩;rw[E];simp only[Prod.mk.injEq,true_and];have J:vl bs (enc ls (f.take k)).length s=vl (Db v s) 0 s:=Wf s (λ i hi=>by
    grind)
   rw[J,We v s s (AE _)];simp[Nat.mod_eq_of_lt K]
  rw[take_snoc' f k (by omega),q,OQ];simp only[enc,List.append_nil,zc0,Int.toNat_natCast];rw[T];exact Rn.snoc _ _ s c U O
def LE(a b q k):val (a++b) (a.length+q) k=val b q k:=by
 unfold val
 grind
def AH2(a b q k)(h:q+k<=a.length):val (a++b) q k=val a q k:=by
 unfold val;refine JM _ _ _ (λ i f=>?_)
 grind
def NC(v n b)(hv:0<=v)(f:v<2 ^ n):val (Aa v n++b) 0 n=v:=by
 have:=Qb [] b v n hv f
 grind
def QX(B:List Int)(L I:Nat):∀(f:Nat)(r:List Int)(g p:Nat)(A:List Int)(c:Bool),r.length<=f->r.length<g->A.length+r.length=I+1->(∀i,0<=r.getD i 0/\r.getD i 0<=15)->(c=true->r=[]\/r.getD 0 0≠0)->p+(BG f r).length<=L->
 (∀q k,q+k<=(BG f r).length->val B (p+q) k=val (BG f r) q k)->tl B L I g p A c=(0,A++r,p+(BG f r).length)
 | f,[],g,p,A,c,hf,hg,hl,hb,hc,hL,hB=>by
  rw[Uj];cases g with
  | zero=>simp[tl]
  | succ g=>simp only[tl];grind
 | 0,x::r,g,p,A,c,hf,hg,hl,hb,hc,hL,hB=>by simp at hf
 | f+1,x::r,g,p,A,c,hf,hg,hl,hb,hc,hL,hB=>by
  obtain⟨g,rfl⟩:∃W,g=W+1:=⟨g-1,by omega⟩
  have hx:=hb 0;simp only[List.getD_cons_zero]at hx;simp only[zh0]at hf hg hl;by_cases X:x=0
  .subst X;obtain⟨z,K⟩:=exN (zc 16 ((0:Int)::r));have T:=NK 16 ((0:Int)::r);(have a3:1<=z:=by rw[<-K];simp[zc]);have a1:=Qo 16 ((0:Int)::r);have a0:=Qn 16 ((0:Int)::r);rw[K]at T a1 a0;(have J:BG (f+1) ((0:Int)::r)=Aa 0 4++(Aa ((z:Int)-1) 4++BG f (((0:Int)::r).drop z)):=by simp only[BG,if_true,K,zr0]);rw[J]at hL hB |-
   simp only[zc0,Bc]at hL hB |-
   (have O:val B p 4=0:=by have:=hB 0 4 (by omega);rw[Nat.add_zero]at this;rw[this,NC 0 4 _ (by omega) (by decide)]);(have v2:val B (p+4) 4=(z:Int)-1:=by rw[hB 4 4 (by omega)];have:=LE (Aa 0 4) (Aa ((z:Int)-1) 4++BG f (((0:Int)::r).drop z)) 0 4;rw[Bc,Nat.add_zero]at this;rw[this,NC _ 4 _ (by omega) (by omega)]);(simp only[zh0]at T;have Y:c=false:=by grind);simp only[tl];rw[if_neg (by omega),if_neg (by omega),O,if_neg (by omega),if_neg (by omega),v2,Y];(have U:((z:Int)-1).toNat+1=z:=by omega);rw[U,if_neg (by simp;omega)];have a2:List.replicate z (0:Int)++((0:Int)::r).drop z=(0:Int)::r:=by
    have h:((0:Int)::r).take z=List.replicate z 0:=by
     apply List.ext_getElem?
     grind
    rw[<-h,zs0]
   rw[QX B L I f (((0:Int)::r).drop z) g (p+8) (A++List.replicate z 0) (decide (z<16)) (by simp;omega) (by simp;omega) (by simp;omega) (λ i=>by
    simp_all) (λ hd=>?_) (by omega) (λ q k Z=>?_)]
   .grind
   .grind
   .have:=hB (8+q) k (by omega);rw[show p+8+q=p+(8+q) by omega,this];have E:=LE (Aa 0 4++Aa ((z:Int)-1) 4) (BG f (((0:Int)::r).drop z)) q k;rw[zc0,Bc,Bc,zr0]at E;exact E
  .have J:BG (f+1) (x::r)=Aa x 4++BG f r:=by simp only[BG];grind
   rw[J]at hL hB |-
   simp only[zc0,Bc]at hL hB |-
   (have O:val B p 4=x:=by have:=hB 0 4 (by omega);rw[Nat.add_zero]at this;rw[this,NC x 4 _ (by omega) (by omega)]);simp only[tl];rw[if_neg (by omega),if_neg (by omega),O,if_pos (by omega)];rw[QX B L I f r g (p+4) (A++[x]) false (by omega) (by omega) (by simp;omega) (λ i=>by have:=hb (i+1);grind) (λ h=>by cases h) (by omega) (λ q k Z=>?_)]
   .grind
   .have:=hB (4+q) k (by omega);rw[show p+4+q=p+(4+q) by omega,this];have E:=LE (Aa x 4) (BG f r) q k;rw[Bc]at E;exact E
end
section
open Go.RowKit Pl
def Mh:∀(f:Nat)(l:List Int),Ai (BG f l)
 | 0,_=>λ i=>by simp[BG]
 | f+1,[]=>λ i=>by simp[BG]
 | f+1,x::r=>by simp only[BG];split;exact Ai.append (Ai.append (Hz _ _) (Hz _ _)) (Mh f _);exact Ai.append (Hz _ _) (Mh f _)
def AHB{ls}(T:1<=ls.length)(U:ls.length<=256)(I:∀i,0<=ls.getD i 0/\ls.getD i 0<=15)(K:BE ls=true)(f):
 DX (AJ (Br ls)++f)=(0,ls,(AJ (Br ls)).length):=by
 have J:Ai (Br ls):=Ai.append (Hz _ _) (Mh _ _);obtain⟨P,B⟩:=exN ((AJ (Br ls)).length);have W:P=((Br ls).length+7) / 8:=by rw[<-B,Cn]
 have X:(Br ls).length=8+(BG ls.length ls).length:=by simp[Br,Bc]
 have r:∀q k,q+k<=8*P->val (AM (AJ (Br ls)++f)) q k=val (Br ls) q k:=λ q k h=>by rw[AHs,AH2 _ _ _ _ (by rw[AHt,B];exact h),LC J]
 have A:(AJ (Br ls)++f).length=P+f.length:=by grind
 have O:val (AM (AJ (Br ls)++f)) 0 8=(ls.length:Int)-1:=by rw[r 0 8 (by omega)];unfold Br;exact NC _ 8 _ (by omega) (by omega)
 have L:E9 (AJ (Br ls)++f)=(0,ls,(Br ls).length):=by
  unfold E9;rw[if_neg (by omega),O,A];have E:((ls.length:Int)-1).toNat=ls.length-1:=by omega
  rw[E];rw[QX _ _ _ ls.length ls (ls.length-1+2) 8 [] false (AE _) (by omega) (by simp;omega) I (λ h=>by cases h) (by omega) (λ q k Y=>?_)]
  .grind
  .rw[r (8+q) k (by omega)];unfold Br;have:=LE (Aa ((ls.length:Int)-1) 8) (BG ls.length ls) q k;rw[Bc]at this;exact this
 unfold DX;rw[L];simp only;rw[if_neg (by simp),if_neg,A]
 .grind
 .rw[A,K];simp only[Bool.true_eq_false,or_false,Decidable.not_not,ne_eq];rw[r _ _ (by omega)];exact NH _ _ _ (AE _)
