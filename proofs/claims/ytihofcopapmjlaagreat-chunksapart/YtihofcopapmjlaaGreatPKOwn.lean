import Derived.Test.YtihofcopapmjlaaGreatPKMem
import Derived.Test.YtihofcopapmjlaaGreatPClone
import Derived.Test.YtihofcopapmjlaaGreatPBGetW
set_option maxRecDepth 100000
set_option linter.all false
set_option maxHeartbeats 8000000
namespace Go.Proofs.YtihofcopapmjlaaGreat
open Go.Proofs.Tryz
open Go.RowKit Go.Maps
def IX{S c d D}(n w)(hc:w.cell? ⟨c,0,none⟩=some (dp d))(A:Dk S w d D):
 Calls prog 50 #[cp c,.int .i64 n] w λ e w'=>e=.returned (.bool (Bi D.L.length n))/\w'=w:=by
 have r:=AU (AF2 w A);obtain⟨N,E⟩:=exH D.L.length;rw[E.o]at r |-
 unfold Bi;clear A;by_cases f:50<=n
 .by_cases q:n<(N:Int)
  .have e:(decide (50<=n)&&decide (n<(N:Int)))=true:=by simp[f,q]
   rw[e];clear e
   go_enter func50,ntmps50
   go_wp2_with fail;refine r.o.mono ?_;rintro e w ⟨rfl,rfl⟩;go_wp2_with fail;go_ret;exact⟨rfl,rfl⟩
  .have e:(decide (50<=n)&&decide (n<(N:Int)))=false:=by simp[q]
   rw[e];(have B:decide (n<(N:Int))=false:=by rw[AT];exact q);clear e q
   go_enter func50,ntmps50
   go_wp2_with fail;refine r.o.mono ?_;rintro e w ⟨rfl,rfl⟩;go_wp2_with fail;go_ret;exact⟨rfl,rfl⟩
 .have e:(decide (50<=n)&&decide (n<(N:Int)))=false:=by simp[f]
  rw[e];have B:decide (50<=n)=false:=by rw[AT];exact f
  clear e f
  go_enter func50,ntmps50
  go_wp2_with fail;go_ret;exact⟨rfl,rfl⟩
def Mc(k v ys w)(hr:Rd .u8 w v ys)(hl:ys.length<=140737488355328):
 Calls prog 53 #[blk k v] w λ e w'=>∃u,e=.returned (blk k u)/\Nw w.heap.size w' u ys/\Below w.heap.size w w':=by
 obtain⟨L,T⟩:=exN (w.alloc (.cells #[.int .i64 k,v] 59));obtain⟨f,U⟩:=exN (L.alloc (.cells #[.int .i64 0,.slice none 0 0] 59));have s1:L.heap.size=w.heap.size+1:=by rw[<-T];simp
 have J:Hid (Below w.heap.size w f):=by rw[<-U,<-T];exact((Below.refl _ _).alloc (AE _) _).alloc (by simp) _
 have K:Hid (Af f w.heap.size k v):=by rw[<-U];refine Af.below (w:=L) ?_ ((Below.refl _ _).alloc (AE _) _);rw[<-T];exact D1 w _ _
 have Q2:Hid (Af f (w.heap.size+1) 0 (.slice none 0 0)):=by rw[<-U,<-s1];exact D1 L _ _
 have HC:Hid (∀W,Below f.heap.size f W->Calls prog 87 #[v] W λ e w'=>∃Y,e=.returned Y/\Nw W.heap.size w' Y ys/\Below W.heap.size W w'):=λ W hb=>Ri v ys W ((hr.below J.o).below hb) hl;have q0:=K.o.c0;have q1:=K.o.c1;obtain⟨a,m,cap,rfl⟩:∃a m cap,v=.slice a m cap:=by obtain⟨a,c,e,_⟩:=hr;exact⟨_,_,_,e⟩
 clear hr;unfold blk
 go_enter func53,ntmps53
 go_wp2_with fail;have a3:Hid (Below f.heap.size f f.drew):=(Below.refl _ _).drew;have aa:Hid (∀q,Below f.drew.heap.size f.drew q->(q.cell? ⟨w.heap.size,0,none⟩=some (.int .i64 k)/\q.cell? ⟨w.heap.size,1,none⟩=some (.slice a m cap))/\Af q (w.heap.size+1) 0 (.slice none 0 0)/\Below w.heap.size w q):=λ q hb=>by have a2:=a3.o.trans hb;have:=K.o.below a2;exact⟨⟨this.c0,this.c1⟩,Q2.o.below a2,J.o.trans (a2.mono J.o.size)⟩
 have a9:=Q2;clear T U K Q2;have hS:f.drew.cell? ⟨w.heap.size,0,none⟩=some (.int .i64 k)/\f.drew.cell? ⟨w.heap.size,1,none⟩=some (.slice a m cap):=⟨q0,q1⟩
 go_region_held3 (λ w'=>w'.cell? ⟨w.heap.size,0,none⟩=some (.int .i64 k)/\w'.cell? ⟨w.heap.size,1,none⟩=some (.slice a m cap)) (first|go_keep|exact a6)
  (first
   | (go_at_call 87;refine(HC.o _ a3.o).mono ?_;rintro e q ⟨Y,rfl,a1,a5⟩;obtain⟨a6,A,a7⟩:=aa.o q a5;have a0:=AU a1;have a4:=AU A;have Z:=AU a7;have r0:=A.c0;have r1:=A.c1;have f0:=A.fz 0;have f1:=A.fz 1;obtain⟨B,I,E,rfl⟩:∃a m cap,Y=.slice a m cap:=by{ obtain⟨a,c,e,_⟩:=a1.rd;exact⟨_,_,_,e⟩ };clear a1 A a7 a5))
 rename_i hHeld;clear hHeld;obtain⟨O,X⟩:=exH ((q.setCell ⟨w.heap.size+1,0,none⟩ (.int .i64 k)).setCell ⟨w.heap.size+1,1,none⟩ (.slice B I E));rw[X.o];have Q4:Hid (Af O (w.heap.size+1) k (.slice B I E)):=by rw[<-X.o];exact a4.o.put k _
 have T4:Hid (AD (λ j=>j=w.heap.size+1) q O):=by rw[<-X.o];exact(DO q _ 0 _).trans (DO _ _ 1 _) (λ _ _ e=>e)
 have ab:w.heap.size+2<=f.heap.size:=by have:=J.o.size;have r:=za0.1 a9.o;exact r.1
 have N4:Hid (Nw w.heap.size O (.slice B I E) ys):=by have r:Nw f.heap.size O (.slice B I E) ys:=a0.o.tch T4.o (λ j hj e=>by have h2:f.heap.size<=j:=a0.o.new j hj;omega);exact⟨r.rd,r.fz,λ j hj=>by have:=r.new j hj;omega,r.sp⟩
 have B4:=z6 (Z.o.trans (T4.o.below Z.o.size (λ j e=>by omega)));have x0:=Q4.o.c0;have x1:=Q4.o.c1;clear X a0 a4 Z r0 r1 f0 f1 a6 hS q0 q1 T4;have a8:=AU Q4.o.load;go_wp2_with fail;refine bodyPost_ret (v:=blk k (.slice B I E)) (Mk (p:=2) (ty:=59) rfl _ _ _ (w.heap.size+1) _ rfl a8.o) rfl ?_;exact⟨_,rfl,N4.o,B4.o⟩
def Dk.has_ok{S w d D}(h:Dk S w d D){i}(f:i<D.L.length):(D.has i).length=256/\By (D.has i):=by obtain⟨q,A,r,g,h⟩:=h;exact DS.has_ok h f
def Ur{S c d D}(n w)(hc:w.cell? ⟨c,0,none⟩=some (dp d))(hd:Dk S w d D)(hn:n<D.L.length):
 Calls prog 112 #[cp c,.int .i64 (n:Int)] w λ e w'=>Jy (n:Int) (D.has n) w e w':=by
 have a5:=zb0 w ⟨c,0,none⟩ hc;obtain⟨B,X⟩:=exN (w.alloc (.cells #[.int .i64 0,.slice none 0 0] 59));have r:Hid (Below w.heap.size w B):=by rw[<-X];exact(Below.refl _ _).alloc (AE _) _
 have Q1:Hid (Af B w.heap.size 0 (.slice none 0 0)):=by rw[<-X];exact D1 w _ _
 have c1:B.cell? ⟨c,0,none⟩=some (dp d):=by rw[AD.cell (AD.of_below (S:=λ _=>False) r.o) (p:=⟨c,0,none⟩) a5 (λ e=>e)];exact hc
 have A:=AU (AEm (n:Int) B (hd.below r.o));have e1:Lr D (n:Int)=0:=by unfold Lr;rw[if_neg (by omega)]
 have e2:Lu D (n:Int)=D.has n:=by unfold Lu;rw[if_neg (by omega)];rfl
 rw[e1,e2]at A;have HH:=z6 ((hd.has_ok hn).2);obtain⟨q,a8⟩:=exH (D.has n);rw[a8.o]at A HH |-
 clear hd hn e1 e2 hc a5
 go_enter func112,ntmps112
 go_wp2_with fail;refine A.o.mono ?_;rintro e w2 ⟨v,rfl,a2,Y,_⟩;have I:=z6 (r.o.trans (Y.mono r.o.size));have O:=z6 (Q1.o.below Y);have HG:=AU (AAf (n:Int) v q w2 a2.rd HH.o);obtain⟨a,m,cap,rfl⟩:∃a m cap,v=.slice a m cap:=by obtain⟨a,c,e,_⟩:=a2.rd;exact⟨_,_,_,e⟩
 clear a2 Y Q1 r X c1 A;go_wp2_with fail;refine HG.o.mono ?_;rintro e w3 ⟨u,rfl,E,Z,a6⟩;obtain⟨k,hk⟩:=exN ((getB (n:Int) q).1);obtain⟨ec,a0⟩:=exN (getE (n:Int) q);obtain⟨ys,a1⟩:=exN ((getB (n:Int) q).2);rw[hk,a0];rw[a1]at E;have K:Hid (getB (n:Int) q=(k,ys)/\getE (n:Int) q=ec):=⟨by rw[<-hk,<-a1],a0⟩
 have J:=z6 (I.o.trans (Z.mono I.o.size));have f:=z6 (O.o.below Z);have R3:=z6 E;have N3:=z6 a6;obtain⟨U,m',W,rfl⟩:∃a m cap,u=.slice a m cap:=by obtain⟨a,c,e,_⟩:=E;exact⟨_,_,_,e⟩
 have q0:=f.o.c0;have q1:=f.o.c1;have f0:=f.o.fz 0;have f1:=f.o.fz 1;obtain⟨W4,a4⟩:=exN ((w3.setCell ⟨w.heap.size,0,none⟩ (.int .i64 k)).setCell ⟨w.heap.size,1,none⟩ (.slice U m' W));have Q4:Hid (Af W4 w.heap.size k (.slice U m' W)):=by rw[<-a4];exact f.o.put k _
 have T:Hid (AD (λ j=>j=w.heap.size) w3 W4):=by rw[<-a4];exact(DO w3 _ 0 _).trans (DO _ _ 1 _) (λ _ _ e=>e)
 have B4:=z6 (J.o.trans (T.o.below J.o.size (λ j e=>by omega)));have a3:=z6 O.o.lt;have R4:=z6 (R3.o.tch T.o (λ j hj e=>by have:=N3.o j hj;have:=a3.o;omega));have a7:=AU Q4.o.load;clear E Z a6 hk a0 a1 HG O I f J R3 T;unfold blk;go_wp2_with fail;refine bodyPost_ret (v:=.tuple #[blk k (.slice U m' W),.int .i64 ec]) (GJ (p:=4) (ty:=59) rfl _ _ _ w.heap.size _ _ rfl a7.o rfl) rfl ?_;refine⟨_,by rw[K.o.1,K.o.2],by rw[K.o.1];exact R4.o,B4.o,λ j hj=>Aw (Nat.le_of_lt a3.o) (N3.o j hj)⟩
def CS.new(room:Nat):CS:=⟨room,λ _=>(0,[]),[],[]⟩
def ADB(d N q:Nat)(w)(B:1<=q)(E:q<=1024)(I:N<=4096):Calls prog 23 #[dp d,.int .i64 (q:Int)] w λ e w'=>
 ∃c X,e=.returned (.tuple #[cp c,.int .i64 0])/\Ch X w' c d N (CS.new q)/\Below w.heap.size w w'/\∀k,X k->w.heap.size<=k:=by
 have T:=@run_makeMap prog;have ha:decide ((q:Int)<1)=false:=by grind
 have K:decide ((q:Int) > 1024)=false:=by grind
 have L:decide ((1024:Int)<(q:Int))=false:=by omega
 have O:decide (1024<q)=false:=by grind
 go_enter func23,ntmps23
 go_wp2_with fail;go_ret2;have A:Mp (w.alloc (.map #[] 0)) w.heap.size N (λ _=>none):=Iy (World.ownsMap_made w _ _ _) (by rw[OK (λ _ _=>rfl)]);have J:(w.alloc (.map #[] 0)).heap.size=w.heap.size+1:=by simp
 refine⟨w.heap.size+1,λ k=>w.heap.size<=k/\k<w.heap.size+2,by simp,⟨w.heap.size,.slice none 0 0,λ _=>.slice none 0 0,?_⟩,?_,λ k r=>r.1⟩
 .exact{
   n2:=I
   box:=by rw[<-J];exact heap_alloc_new _ _
   map:=by refine Mp.congr (g:=λ _=>none) (A.tch (S:=λ _=>False) (AD.of_below ((Below.refl _ _).alloc (AE _) _)) (λ e=>e)) (λ i _=>?_);simp[kg,CS.new]
   ord:=CB _ _ _
   bod:=λ n f=>by simp[CS.new]at f
   bap:=λ n f=>by simp[CS.new]at f
   ok:=⟨B,E,List.Pairwise.nil,List.nodup_nil,λ n f=>by simp[CS.new]at f,λ n f=>by simp[CS.new]at f,λ n f=>by simp[CS.new]at f,λ n f=>by simp[CS.new]at f⟩
   xc:=⟨by omega,by omega⟩
   xm:=⟨by omega,by omega⟩
   xa:=λ k r=>by cases r
   xlt:=λ k r=>by simp_all }
 .exact((Below.refl _ _).alloc (AE _) _).alloc (by simp) _
def CS.kp(s:CS)(n:Nat)(x:Int×List Int):CS:={ s with B:=Bq s.B n x,d:=Az s.d n,c:=Az s.c n++[n] }
def EC.kp{N s}(h:EC N s){n x}(J:50<=n/\n<N)(f:BI (n:Int) x.1 x.2.length=true)(I:By x.2):EC N (s.kp n x):=by
 have r:∀m,m∈Az s.c n++[n]->m=n\/(m∈s.c/\m≠n):=λ m f=>by
  rcases zf0.1 f with e|e;exact .inr ⟨(BW.1 e).1,λ q=>(BW.1 e).2 (by omega)⟩
  grind
 exact{
  r1:=h.r1
  r2:=h.r2
  dr:=Ta _ h.dr
  cn:=Q9 h.cn
  ap:=λ m f hc=>by rcases r m hc with e|e;exact(BW.1 f).2 (by omega);exact h.ap m (BW.1 f).1 e.1
  dl:=λ m f=>h.dl m (BW.1 f).1
  cl:=λ m f=>by rcases r m f with e|e;omega;exact h.cl m e.1
  may:=λ m E=>by
   show BI (m:Int) (Bq s.B n x m).1 (Bq s.B n x m).2.length=true/\By (Bq s.B n x m).2;by_cases e:m=n;subst e;rw[Ld];grind
   .rw[JL _ _ e];refine h.may m (E.imp (λ q=>(BW.1 q).1) (λ q=>?_));rcases r m q with A|A;omega
    grind }
def ABt{s:CS}{n:Nat}{x}(h:¬s.rm<(Az s.c n).length+1):s.kp n x=s.keep n x:=by
 unfold CS.kp CS.keep JX
 grind
def ABs{N s}(f:EC N s){n:Nat}{x}(h:s.rm<(Az s.c n).length+1):∃m,(Az s.c n++[n]).head?=some m/\(s.kp n x).forget (m:Int)=s.keep n x:=by
 obtain⟨m,q,B,r⟩:=ABi f.cn h f.r1;refine⟨m,q,?_⟩;unfold CS.forget CS.kp CS.keep;simp only;rw[r,MT (l:=Az s.d n) (n:=(m:Int))];intro a ha e;have e:a=m:=by omega
 subst e;have A:=List.mem_of_mem_head? q;rcases zf0.1 A with e|e;exact f.ap a (BW.1 ha).1 (BW.1 e).1
 grind
def FC(V:Nat->Value)(n:Nat)(v:Value)(m:Nat):Value:=if m=n then v else V m
def ABn(s V n k ys v):Df (kg s V) n (some (Fe k v false))=kg (s.kp n (k,ys)) (FC V n v):=by
 funext i;unfold Df kg CS.kp FC Bq;simp only[BW,zf0,List.mem_singleton]
 grind
def AIS{q r o a w Q}(J:o.guard=none)(m x v)(U:o.op=.mapUpdate 103 m x v)(f N g i val)(O:a.eval m=.map (some f))(W:a.eval x=.int .i64 (i:Int))(hv:a.eval v=val)(I:Mp w f N g)(L:i<N)(T:N<=4096)(h:∀w',Mp w' f N (Df g i (some val))->AD (λ k=>k=f) w w'->wpList prog q Q r (a.put o.dst undef) w'):wpList prog q Q (o::r) a w:=by
 obtain⟨w',hr,A,B⟩:=I.putH L T val;refine wpList_plain J λ K E=>?_;unfold Oper.wp;simp[execOp,U,O,W,hv,hr,Result.andThen];exact E _ _ (h w' A B)
def Zr:Gw prog 23 3 .i64 8:=⟨underlying23,info_parts (z:=.int .i64 0) (size:=1) (bytes:=8) (by kernel_rfl)⟩
def TU{X c d N s A O V}(n k v ys w)(h:BH X w c d N s A O V)(hn:50<=n/\n<N)(hm:BI (n:Int) k ys.length=true)(hb:By ys)(hr:Rd .u8 w v ys)(hv:∀j,v.ownBlock=some j->ys≠[]->X j/\j≠c/\j≠A/\O.ownBlock≠some j):
 Calls prog 40 #[cp c,.int .i64 (n:Int),blk k v] w λ e w'=>e=.returned (.tuple #[])/\DP X w w' c d N (s.keep n (k,ys))/\Rd .u8 w' v ys:=by
 have H:=z6 h;have HY:Hid ((50<=n/\n<N)/\BI (n:Int) k ys.length=true/\By ys):=⟨hn,hm,hb⟩
 have HV:=z6 hv;have ax:=z6 hr;obtain⟨W1,a8⟩:=exN (w.alloc (.cells #[.int .i64 k,v] 59));have B1:Hid (Below w.heap.size w W1):=by rw[<-a8];exact(Below.refl _ _).alloc (AE _) _
 have Q1:Hid (Af W1 w.heap.size k v):=by rw[<-a8];exact D1 w _ _
 have H1:=z6 (h.tch (R:=λ _=>False) (AD.of_below B1.o) (λ _ _ e=>e));have HL:=AU (Ou (n:Int) W1 H1.o.box H1.o.ord H1.o.ok.cn (by have:=h.ok.cle;have:=h.n2;omega));have b7:(n:Int)<4096:=by have:=h.n2;omega
 obtain⟨a,m,cap,rfl⟩:∃a m cap,v=.slice a m cap:=by obtain⟨a,c,e,_⟩:=hr;exact⟨_,_,_,e⟩
 clear h hn hm hb hr hv;unfold blk
 go_enter func40,ntmps40
 go_wp2_with fail;refine HL.o.mono ?_;rintro e W ⟨rfl,a1,aa,ap,ar,ac⟩;have a7:=z6 aa;have ae:=z6 ap;have a0:=z6 ar;have T2:Hid (AD (λ k=>k=c\/O.ownBlock=some k) w W):=(AD.of_below B1.o).trans ac (λ _ _ e=>e);have M2:Hid (Mp W A N (kg s V)):=H.o.map.tch T2.o (λ e=>by
  rcases e with e|e;exact H.o.ne_mb e.symm
  .exact H.o.av_mb e)
 have Q2:Hid (Af W w.heap.size k (.slice a m cap)):=Q1.o.tch ac (λ e=>by
  rcases e with e|e;have:=H.o.lt;omega
  .have:=H.o.xlt _ (H.o.xa _ e);omega)
 have c2:W.cell? ⟨c,2,none⟩=some (.map (some A)):=by rw[cell_of_row W c 2 _ _ (0,0) aa];rfl
 have q0:=Q2.o.c0;have q1:=Q2.o.c1;have LD:=Q2.o.load;clear aa ap ar ac HL H1 Q1 a8;go_wp2_with fail;refine wp_region_still_tail 7 (by kernel_rfl) (by kernel_rfl) ?_;simp only[List.take_succ_cons,List.take_zero,List.drop_succ_cons,List.drop_zero]
 repeat still_step
 refine wpStill_nil ?_;change wpList _ _ _ _ _ W.drew;have MD:=z6 (M2.o.tch (S:=λ _=>False) ⟨rfl,rfl,rfl,AE _,λ _ _ _=>rfl⟩ (λ e=>e));refine AIS rfl (.tmp 12) (.tmp 13) (.tmp 15) rfl A N (kg s V) n (Fe k (.slice a m cap) false) (by kernel_rfl) (by kernel_rfl) (by kernel_rfl) MD.o HY.o.1.2 H.o.n2 ?_;intro w3 m3 t3;have T3:Hid (AD (λ k=>k=c\/O.ownBlock=some k\/k=A) w w3):=((T2.o.drew).mono (S':=λ k=>k=c\/O.ownBlock=some k\/k=A) (λ k _ e=>e.imp id .inl)).trans t3 (λ k _ e=>.inr (.inr e));have M3:=z6 m3;have a2:Hid (w3.heap[c]?=some (.cells #[dp d,.int .i64 (s.rm:Int),.map (some A),a1] 105 (0,0))):=by rw[t3.block c (za0.1 a7.o).1 H.o.ne_mb];exact a7.o
 have af:=z6 ((ae.o.tch (S:=λ _=>False) (w':=W.drew) ⟨rfl,rfl,rfl,AE _,λ _ _ _=>rfl⟩ (λ _ _ e=>e)).tch t3 (λ k q e=>H.o.av_mb (by rw[a0.o]at q;rw[<-e];exact q)));have ad:Hid (((Az s.c n).map Int.ofNat).length<=100000):=by show _<=_;rw[zu0];have h1:=ABv s.c n;have h2:=H.o.ok.cle;have h3:=H.o.n2;omega
 have c3:w3.cell? ⟨c,3,none⟩=some a1:=by rw[cell_of_row w3 c 3 _ _ (0,0) a2.o];rfl
 clear m3 t3 MD M2 T2 a7 ae Q2 c2 q0 q1 LD B1;go_wp2_with(at_builtin;refine ET _ rfl (.tmp 20) (.tmp 22) 23 rfl 3 .i64 8 Zr _ ((Az s.c n).map Int.ofNat) rfl af.o (n:Int) rfl (by have:=ad.o;omega) (by have:=ad.o;omega) ?_)
 intro T I o4 g4;have T4:Hid (AD (λ k=>k=c\/O.ownBlock=some k\/k=A) w I):=T3.o.trans g4.tch (λ k _ e=>.inr (.inl (by rw[<-a0.o];exact e)));have ao:a1.ownBlock≠some c:=λ e=>H.o.av_c (by rw[<-a0.o];exact e);have a3:Hid (I.heap[c]?=some (.cells #[dp d,.int .i64 (s.rm:Int),.map (some A),a1] 105 (0,0))):=by rw[g4.tch.block c (za0.1 a2.o).1 ao];exact a2.o
 have M4:=z6 (M3.o.tch g4.tch (λ e=>H.o.av_mb (by rw[<-a0.o];exact e)));have Z:Hid (∀k,T.ownBlock=some k->O.ownBlock=some k\/w.heap.size<=k):=λ k q=>by rcases g4.fresh k q with e|e;exact .inl (by rw[<-a0.o];exact e);exact .inr (Aw T3.o.size e)
 have d3:I.cell? ⟨c,3,none⟩=some a1:=by rw[cell_of_row I c 3 _ _ (0,0) a3.o];rfl
 have f3:=frozen_of_row I c 3 _ _ a3.o;have O4:Hid (FH I T (((Az s.c n)++[n]).map Int.ofNat)):=by rw[za1];exact o4
 obtain⟨f,a5⟩:=exN (I.setCell ⟨c,3,none⟩ T);have ag:Hid (BH (λ k=>X k\/(w.heap.size<=k/\k<f.heap.size)) f c d N (s.kp n (k,ys)) A T (FC V n (.slice a m cap))/\AD X w f/\Rd .u8 f (.slice a m cap) ys):=by
  have ts:AD (λ k=>k=c) I f:=by rw[<-a5];exact DO I c 3 T
  have vc:T.ownBlock≠some c:=λ e=>by rcases Z.o c e with e|e;exact H.o.av_c e;have:=H.o.lt;omega
  have TT:=T4.o.trans ts (λ k _ e=>.inl e);have RR:Rd .u8 f (.slice a m cap) ys:=ax.o.tch0 TT (λ i hi h0 e=>by
   obtain⟨_,p1,p2,p3⟩:=HV.o i hi h0;rcases e with e|e|e;exact p1 e;exact p3 e
   .exact p2 e)
  refine⟨H.o.turnAt (V':=FC V n (.slice a m cap)) (av':=T) (s':=s.kp n (k,ys)) TT ?_ ?_ ?_ Z.o (H.o.ok.kp HY.o.1 HY.o.2.1 HY.o.2.2) (λ j hj=>?_),H.o.own_tch TT,RR⟩;rw[<-a5,heap_setCell_same I c 3 _ _ _ a3.o];rfl;rw[<-ABn];exact M4.o.tch ts (λ e=>H.o.ne_mb e.symm);exact O4.o.tch ts (λ k q e=>vc (by rw[<-e];exact q))
  .by_cases e:j=n;subst e;(have e1:FC V j (.slice a m cap) j=.slice a m cap:=by simp[FC]);(have e2:((s.kp j (k,ys)).B j)=(k,ys):=by show Bq s.B j (k,ys) j=_;simp[Bq]);rw[e1,e2];refine .inr ⟨RR,λ i hi h0=>?_⟩;obtain⟨p0,p1,p2,p3⟩:=HV.o i hi h0;refine⟨.inl p0,p1,p2,λ e=>?_⟩;rcases Z.o i e with e|e;exact p3 e;have:=H.o.xlt i p0;omega;refine .inl ⟨?_,by simp[FC,e],by show Bq s.B n (k,ys) j=_;simp[Bq,e]⟩;rcases hj with hj|hj;exact .inl (BW.1 hj).1;rcases zf0.1 hj with e2|e2;exact .inr (BW.1 e2).1;exact absurd (by simpa using e2) e
 obtain⟨va,vl,b3,rfl⟩:∃a l c,T=.slice a l c:=by obtain⟨a,c,e,_⟩:=o4.rd;exact⟨_,_,_,e⟩
 obtain⟨Y,T5,R5⟩:=ag.o;obtain⟨X5,a9⟩:∃X5:Nat->Prop,(λ k=>X k\/(w.heap.size<=k/\k<f.heap.size))=X5:=⟨_,rfl⟩
 have al:∀k,X5 k->X k\/w.heap.size<=k:=λ k q=>by rw[<-a9]at q;exact q.imp id (λ e=>e.1)
 obtain⟨V5,ak⟩:=exN (FC V n (.slice a m cap));have au:Hid (∀k,(Value.slice va vl b3).ownBlock=some k->O.ownBlock=some k\/w.heap.size<=k):=Z;rw[a9,ak]at Y;have H5:=z6 Y;have ai:Hid (Rd .u8 f (.slice a m cap) ys):=R5;clear a9 ak R5;obtain⟨g5,aj,aq,_,ay,E,am,_⟩:=Y.ord.shape (by simp[CS.kp]);have ab:((s.kp n (k,ys)).c.map Int.ofNat).length=(Az s.c n).length+1:=by simp[CS.kp]
 obtain⟨L,hL⟩:=exH ((Az s.c n).length+1);rw[ab,hL.o]at ay;have x3:=Y.c3;rw[aq]at x3;have x1:f.cell? ⟨c,1,none⟩=some (.int .i64 (s.rm:Int)):=Y.c1;rw[ab,hL.o]at x3;have b6:aj<=9223372036854775807:=by unfold maxLen at E;omega
 have b5:0<L:=by rw[<-hL.o];omega
 have y0:=am 0 (by simp[CS.kp]);have a4:Hid (AD X w f/\∀k,X5 k->X k\/w.heap.size<=k):=⟨T5,al⟩
 have b8:(s.rm:Int)<=1024:=by have:=H.o.ok.r2;omega
 clear o4 g4 T4 a3 M4 Z O4 ag T3 M3 a2 af c3 T5 al Y am ab E ao aq;by_cases a6:s.rm<L
 .obtain⟨m5,E,an⟩:=ABs H.o.ok (n:=n) (x:=(k,ys)) (by rw[hL.o];exact a6);have ym:((s.kp n (k,ys)).c.map Int.ofNat).getD 0 0=(m5:Int):=by
   show(((Az s.c n)++[n]).map Int.ofNat).getD 0 0=_;cases e:Az s.c n++[n]with
   | nil=>rw[e]at E;cases E
   | cons a r=>rw[e]at E;simp at E;subst E;rfl
  rw[ym]at y0;have az:m5<4096:=by have h1:m5∈(s.kp n (k,ys)).c:=List.mem_of_mem_head? E;have h2:=(H5.o.ok.cl m5 h1).2;have h3:=H.o.n2;omega
  have av:Hid ((s.kp n (k,ys)).forget (m5:Int)=s.keep n (k,ys)):=an;have b2:(L:Int) > (s.rm:Int):=by omega
  have b0:Hid ((Lit.int .i64 (m5:Int)).wf=true):=by simp[Hid,Lit.wf,IntKind.min,IntKind.max,IntKind.signed,IntKind.bits];omega
  clear E an ym az;go_wp2_with fail;go_quiet (fail);obtain⟨J,K⟩:=exH (f.drewN nq);rw[K.o];have U:Hid (AD (λ _=>False) f J):=by rw[<-K.o];exact⟨rfl,rfl,rfl,AE _,λ _ _ _=>rfl⟩
  have H6:=AU (H5.o.tch U.o (λ _ _ e=>e));have z3:J.cell? ⟨c,3,none⟩=some (.slice (some ⟨g5,0,none⟩) L aj):=by rw[<-K.o];exact x3
  have z0:J.cell? ⟨g5,0,none⟩=some (.int .i64 (m5:Int)):=by rw[<-K.o];exact y0
  have HF:=AU (AAG (m5:Int) J H6.o b0.o);rw[av.o]at HF;have TT:Hid (AD X w J):=a4.o.1.trans U.o (λ _ _ e=>e.elim);clear x3 x1 y0 H5 K a5;go_wp2_with fail;refine HF.o.mono ?_;rintro e w7 ⟨rfl,b4,h7,t7⟩;have HR:Hid (DP X w w7 c d N (s.keep n (k,ys))/\Rd .u8 w7 (.slice a m cap) ys):=by refine⟨DP.after TT.o a4.o.2 ⟨_,⟨_,_,_,h7⟩,H6.o.own_tch t7,λ k q=>q.imp id (λ e=>e.1)⟩,?_⟩;refine(ai.o.tch U.o (λ _ _ e=>e)).tch0 t7 (λ i hi h0 e=>?_);obtain⟨p0,p1,p2,p3⟩:=HV.o i hi h0;rcases e with e|e|e;exact p1 e;rcases au.o i e with e|e;exact p3 e;have:=H.o.xlt i p0;omega;exact p2 e
  clear h7 t7 HF;go_wp2_with fail
  go_end0
  exact⟨rfl,HR.o⟩
 .have b2:decide (s.rm<L)=false:=by rw[AT];exact a6
  have aw:Hid (s.kp n (k,ys)=s.keep n (k,ys)):=ABt (by rw[hL.o];exact a6);clear a6;go_wp2_with fail;go_quiet (fail);obtain⟨J,K⟩:=exH (f.drewN nq);rw[K.o];have U:Hid (AD (λ _=>False) f J):=by rw[<-K.o];exact⟨rfl,rfl,rfl,AE _,λ _ _ _=>rfl⟩
  have H6:=AU (H5.o.tch U.o (λ _ _ e=>e));have HR:Hid (DP X w J c d N (s.keep n (k,ys))/\Rd .u8 J (.slice a m cap) ys):=by refine⟨?_,ai.o.tch U.o (λ _ _ e=>e)⟩;rw[<-aw.o];exact⟨X5,⟨_,_,_,H6.o⟩,a4.o.1.trans U.o (λ _ _ e=>e.elim),a4.o.2⟩
  clear x3 x1 y0 H5 K a5 H6;go_wp2_with fail
  go_end0
  exact⟨rfl,HR.o⟩
def ABo(s V n k ys v):Df (kg s V) n (some (Fe k v true))=kg (s.lay n (k,ys)) (FC V n v):=by
 funext i;unfold Df kg CS.lay FC Bq;simp only[BW,Iw]
 grind
def AEU{X S c d N s D}(n k v ys w)(hC:Ch X w c d N s)(hD:Dk S w d D)(hN:D.L.length=N)(hr:Rd .u8 w v ys)(hb:By ys)(hv:∀j,v.ownBlock=some j->ys≠[]->¬X j)(hn:50<=n/\n<N)(hm:BI (n:Int) k ys.length=true):
 Calls prog 22 #[cp c,.int .i64 (n:Int),blk k v] w λ e w'=>e=.returned (.int .i64 0)/\DP X w w' c d N (s.lay n (k,ys)):=by
 obtain⟨E,av,V,h⟩:=hC;have H:=z6 h;have T:Hid ((50<=n/\n<N)/\BI (n:Int) k ys.length=true/\By ys):=⟨hn,hm,hb⟩
 have HV:=z6 hv;have ae:=z6 hr;obtain⟨W1,a3⟩:=exN (w.alloc (.cells #[.int .i64 k,v] 59));have I:Hid (Below w.heap.size w W1):=by rw[<-a3];exact(Below.refl _ _).alloc (AE _) _
 have Q1:Hid (Af W1 w.heap.size k v):=by rw[<-a3];exact D1 w _ _
 have H1:=z6 (h.tch (R:=λ _=>False) (AD.of_below I.o) (λ _ _ e=>e));have HT:=AU (IX (n:Int) W1 H1.o.c0 (hD.below I.o));have et:Bi D.L.length (n:Int)=true:=Ff.2 (by omega);rw[et]at HT;have HP:=AU (Ul (n:Int) k v ys W1 (hr.below I.o) hb);obtain⟨a,m,cap,rfl⟩:∃a m cap,v=.slice a m cap:=by obtain⟨a,c,e,_⟩:=hr;exact⟨_,_,_,e⟩
 have q0:=Q1.o.c0;have q1:=Q1.o.c1;have ao:(n:Int)<4096:=by have:=h.n2;omega
 have ag:Hid (ys.length<=140737488355328):=by obtain⟨_,_,_,_,m5⟩:=FO.1 hm;show _<=_;omega
 clear h hn hm hb hr hv hD hN et;unfold blk at HP |-
 go_enter func22,ntmps22
 go_wp2_with fail;refine HT.o.mono ?_;rintro e w' ⟨rfl,rfl⟩;clear HT;go_wp2_with fail;refine HP.o.mono ?_;rintro e w2 ⟨u,ec,rfl,a4,ak,al⟩;rcases al with⟨_,rfl,an,g,rfl⟩|⟨K,_⟩
 .have B2:=z6 (I.o.trans (a4.mono I.o.size));have Q2:=z6 (Q1.o.below a4);have J:=z6 (H.o.tch (R:=λ _=>False) (AD.of_below B2.o) (λ _ _ e=>e));have HL:=AU (Ou (n:Int) w2 J.o.box J.o.ord J.o.ok.cn (by have:=J.o.ok.cle;have:=J.o.n2;omega));clear a4 ak an HP a3 q0 q1 Q1 H1 I;go_wp2_with fail;refine HL.o.mono ?_;rintro e f ⟨rfl,a1,a5,aa,ab,a6⟩;have a7:=z6 a5;have ad:=z6 aa;have a0:=z6 ab;have T3:Hid (AD (λ k=>k=c\/av.ownBlock=some k) w f):=(AD.of_below B2.o).trans a6 (λ _ _ e=>e);have M3:Hid (Mp f E N (kg s V)):=H.o.map.tch T3.o (λ e=>by
   rcases e with e|e;exact H.o.ne_mb e.symm
   .exact H.o.av_mb e)
  have Q3:Hid (Af f w.heap.size k (.slice a m cap)):=Q2.o.tch a6 (λ e=>by
   rcases e with e|e;have:=H.o.lt;omega
   .have:=H.o.xlt _ (H.o.xa _ e);omega)
  have R3:Hid (Rd .u8 f (.slice a m cap) ys):=ae.o.tch0 T3.o (λ j A K e=>by
   rcases e with e|e;exact HV.o j A K (by rw[e];exact H.o.xc)
   .exact HV.o j A K (H.o.xa j e))
  have c2:f.cell? ⟨c,2,none⟩=some (.map (some E)):=by rw[cell_of_row f c 2 _ _ (0,0) a5];rfl
  have q0:=Q3.o.c0;have q1:=Q3.o.c1;have a8:=AU (Mc k (.slice a m cap) ys f.drew (R3.o.tch (S:=λ _=>False) ⟨rfl,rfl,rfl,AE _,λ _ _ _=>rfl⟩ (λ _ _ e=>e)) ag.o);unfold blk at a8;have af:Hid (∀q u,Nw f.drew.heap.size q u ys->Below f.drew.heap.size f.drew q->(q.cell? ⟨c,2,none⟩=some (.map (some E))/\q.cell? ⟨w.heap.size,0,none⟩=some (.int .i64 k)/\q.cell? ⟨w.heap.size,1,none⟩=some (.slice a m cap))/\
   ∃r,(Instr.mapUpdate 103 (.map (some E)) (.int .i64 (n:Int)) (.agg #[.int .i64 k,u,.bool true])).run prog q=.ok () r/\(r.cell? ⟨c,2,none⟩=some (.map (some E))/\r.cell? ⟨w.heap.size,0,none⟩=some (.int .i64 k)/\r.cell? ⟨w.heap.size,1,none⟩=some (.slice a m cap))/\Hid (DP X w r c d N (s.lay n (k,ys)))):=λ q u hN hB=>by
   have Y:AD (λ _=>False) f q:=AD.trans (b:=f.drew) (S:=λ _=>False) (S':=λ _=>False) ⟨rfl,rfl,rfl,AE _,λ _ _ _=>rfl⟩ (AD.of_below hB) (λ _ _ e=>e);(have b4:q.heap[c]?=some (.cells #[dp d,.int .i64 (s.rm:Int),.map (some E),a1] 105 (0,0)):=by rw[Y.block c (za0.1 a7.o).1 (λ e=>e)];exact a7.o);have q4:=Q3.o.tch Y (λ e=>e);obtain⟨r,am,m5,Z⟩:=(M3.o.tch Y (λ e=>e)).putH T.o.1.2 H.o.n2 (.agg #[.int .i64 k,u,.bool true]);(have b5:r.heap[c]?=some (.cells #[dp d,.int .i64 (s.rm:Int),.map (some E),a1] 105 (0,0)):=by rw[Z.block c (za0.1 b4).1 H.o.ne_mb];exact b4);have q5:=q4.tch Z (λ e=>by have:=H.o.xlt _ H.o.xm;omega)
   refine⟨⟨by rw[cell_of_row q c 2 _ _ (0,0) b4];rfl,q4.c0,q4.c1⟩,r,am,⟨by rw[cell_of_row r c 2 _ _ (0,0) b5];rfl,q5.c0,q5.c1⟩,?_⟩;have W:∀j,u.ownBlock=some j->w.heap.size<=j:=λ j A=>Aw T3.o.size (hN.new j A);refine H.o.turn (V':=FC V n u) (av':=a1) (s':=s.lay n (k,ys)) (((T3.o.mono (S':=λ k=>k=c\/av.ownBlock=some k\/k=E) (λ k _ e=>e.imp id .inl)).trans Y (λ _ _ e=>e.elim)).trans Z (λ k _ e=>.inr (.inr e))) b5 (by rw[<-ABo];exact m5) ?_ (λ k hk=>.inl (by rw[<-a0.o];exact hk)) (H.o.ok.lay T.o.1 T.o.2.1 T.o.2.2) (λ j A=>?_);exact(ad.o.tch Y (λ _ _ e=>e)).tch Z (λ k hk e=>H.o.av_mb (by rw[a0.o]at hk;rw[<-e];exact hk))
   .by_cases e:j=n;subst e;(have e1:FC V j u j=u:=by simp[FC]);(have U:((s.lay j (k,ys)).B j)=(k,ys):=by show Bq s.B j (k,ys) j=_;simp[Bq]);rw[e1,U];refine .inr ⟨hN.rd.tch Z (λ i O e=>?_),λ i O K=>⟨.inr (W i O),?_,?_,λ e=>?_⟩⟩;have:=W i O;have:=H.o.xlt _ H.o.xm;omega;have:=W i O;have:=H.o.lt;omega;have:=W i O;have:=H.o.xlt _ H.o.xm;omega;have h1:=W i O;rw[a0.o]at e;have:=H.o.xlt i (H.o.xa i e);omega
    .refine .inl ⟨?_,by simp[FC,e],by show Bq s.B n (k,ys) j=_;simp[Bq,e]⟩;rcases A with A|A;rcases Iw.1 A with U|U;exact absurd U e;exact .inl U;exact .inr (BW.1 A).1
  have hS:f.drew.cell? ⟨c,2,none⟩=some (.map (some E))/\f.drew.cell? ⟨w.heap.size,0,none⟩=some (.int .i64 k)/\f.drew.cell? ⟨w.heap.size,1,none⟩=some (.slice a m cap):=⟨c2,q0,q1⟩
  clear a5 aa ab a6 HL J Q2 B2;go_wp2_with fail
  go_region_held3 (λ w'=>w'.cell? ⟨c,2,none⟩=some (.map (some E))/\w'.cell? ⟨w.heap.size,0,none⟩=some (.int .i64 k)/\w'.cell? ⟨w.heap.size,1,none⟩=some (.slice a m cap)) (first|go_keep|exact ai|exact aj)
   (first
    | (go_at_call 53;refine a8.o.mono ?_;rintro e q ⟨u,rfl,a2,a9⟩;obtain⟨ai,r,ap,aj,ac⟩:=af.o q u a2 a9;obtain⟨ua,um,uc,rfl⟩:∃a m cap,u=.slice a m cap:=by{ obtain⟨a,c,e,_⟩:=a2.rd;exact⟨_,_,_,e⟩ };clear a2 a9))
  go_wp2_with fail;go_ret;exact⟨rfl,ac.o⟩
 .rw[T.o.2.1]at K;cases K
def AEV{X S c d N s D}(n k v ys w)(J:Ch X w c d N s)(A:Dk S w d D)(B:D.L.length=N)(hr:Rd .u8 w v ys)(E:Bi N n=false):
 Calls prog 22 #[cp c,.int .i64 n,blk k v] w λ e w'=>e=.returned (.int .i64 2)/\DP X w w' c d N s:=by
 obtain⟨T,O,V,h⟩:=J;have H:=z6 h;obtain⟨r,K⟩:=exN (w.alloc (.cells #[.int .i64 k,v] 59));have f:Hid (Below w.heap.size w r):=by rw[<-K];exact(Below.refl _ _).alloc (AE _) _
 have I:=z6 (h.tch (R:=λ _=>False) (AD.of_below f.o) (λ _ _ e=>e));have q:=AU (IX n r I.o.c0 (A.below f.o));rw[B,E]at q;obtain⟨a,m,cap,rfl⟩:∃a m cap,v=.slice a m cap:=by obtain⟨a,c,e,_⟩:=hr;exact⟨_,_,_,e⟩
 clear h E hr A B;unfold blk
 go_enter func22,ntmps22
 go_wp2_with fail;refine q.o.mono ?_;rintro e w' ⟨rfl,rfl⟩;go_wp2_with fail;go_ret;exact⟨rfl,Ch.to_below ⟨_,_,_,H.o⟩ f.o⟩
def AET{X S c d N s D}(n k v ys w)(hC:Ch X w c d N s)(J:Dk S w d D)(K:D.L.length=N)(hr:Rd .u8 w v ys)(O:By ys)(W:Bi N n=true)(U:BI n k ys.length=false):
 Calls prog 22 #[cp c,.int .i64 n,blk k v] w λ e w'=>e=.returned (.int .i64 1)/\DP X w w' c d N s:=by
 obtain⟨mb,av,V,h⟩:=hC;have H:=z6 h;obtain⟨q,B⟩:=exN (w.alloc (.cells #[.int .i64 k,v] 59));have f:Hid (Below w.heap.size w q):=by rw[<-B];exact(Below.refl _ _).alloc (AE _) _
 have E:Hid (Af q w.heap.size k v):=by rw[<-B];exact D1 w _ _
 have Z:=z6 (h.tch (R:=λ _=>False) (AD.of_below f.o) (λ _ _ e=>e));have A:=AU (IX n q Z.o.c0 (J.below f.o));rw[K,W]at A;have r:=AU (Ul n k v ys q (hr.below f.o) O);have HM:=z6 U;have q0:=E.o.c0;have q1:=E.o.c1;obtain⟨a,m,cap,rfl⟩:∃a m cap,v=.slice a m cap:=by obtain⟨a,c,e,_⟩:=hr;exact⟨_,_,_,e⟩
 clear h W hr J K U O;unfold blk at r |-
 go_enter func22,ntmps22
 go_wp2_with fail;refine A.o.mono ?_;rintro e w' ⟨rfl,rfl⟩;clear A;go_wp2_with fail;refine r.o.mono ?_;rintro e w2 ⟨u,ec,rfl,T,a0,a1⟩;rcases a1 with⟨I,_⟩|⟨_,rfl,rfl⟩
 .rw[HM.o]at I;cases I
 .have Y:=z6 (f.o.trans (T.mono f.o.size));clear T a0 r q0 q1 B;go_wp2_with fail;go_ret;exact⟨rfl,Ch.to_below ⟨_,_,_,H.o⟩ Y.o⟩
def AES{X S c d N s D}(n k v ys w)(f:Ch X w c d N s)(q:Dk S w d D)(r:D.L.length=N)(hr:Rd .u8 w v ys)(A:By ys)(hv:∀j,v.ownBlock=some j->ys≠[]->¬X j):
 Calls prog 22 #[cp c,.int .i64 n,blk k v] w λ e w'=>e=.returned (.int .i64 (s.putE N n k ys))/\DP X w w' c d N (s.putS N n k ys):=by
 unfold CS.putS CS.putE;cases h1:Bi N n with
 | false=>simp only[Bool.false_eq_true,if_false];rw[if_neg (by decide)];exact AEV n k v ys w f q r hr h1
 | true=>
  cases h2:BI n k ys.length with
  | false=>simp only[Bool.false_eq_true,if_false,if_true];rw[if_neg (by decide)];exact AET n k v ys w f q r hr A h1 h2
  | true=>
   simp only[if_true];obtain⟨i,rfl⟩:∃i:Nat,n=(i:Int):=⟨n.toNat,by have:=(Ff.1 h1).1;omega⟩
   exact AEU i k v ys w f q r hr A hv (by have:=Ff.1 h1;omega) h2
def CR(w:World)(b:Nat)(k:Int)(v:Value)(y:Bool):Prop:=w.heap[b]?=some (.cells #[.int .i64 k,v,.bool y] 102 (0,0))
section
variable {w w':World} {b:Nat} {k:Int} {v:Value} {y:Bool}
def CR.c0(h:CR w b k v y):w.cell? ⟨b,0,none⟩=some (.int .i64 k):=by rw[cell_of_row w b 0 _ _ (0,0) h];rfl
def CR.c1(h:CR w b k v y):w.cell? ⟨b,1,none⟩=some v:=by rw[cell_of_row w b 1 _ _ (0,0) h];rfl
def CR.c2(h:CR w b k v y):w.cell? ⟨b,2,none⟩=some (.bool y):=by rw[cell_of_row w b 2 _ _ (0,0) h];rfl
def CR.fz(h:CR w b k v y)(i):w.frozen? ⟨b,i,none⟩=false:=frozen_of_row w b i _ _ h
def CR.lt(h:CR w b k v y):b<w.heap.size:=(za0.1 h).1
def CR.tch{S}(h:CR w b k v y)(q:AD S w w')(f:¬S b):CR w' b k v y:=by unfold CR;rw[q.block b h.lt f];exact h
def CR.below(h:CR w b k v y)(f:Below w.heap.size w w'):CR w' b k v y:=h.tch (S:=λ _=>False) (AD.of_below f) (λ e=>e)
def ML(w:World)(k v y):CR (w.alloc (.cells #[.int .i64 k,v,.bool y] 102)) w.heap.size k v y:=heap_alloc_new w _
end
def AAY{X S c d N s D}(n w)(hC:Ch X w c d N s)(I:Dk S w d D)(J:D.L.length=N)(O:Bi N n=false):
 Calls prog 72 #[cp c,.int .i64 n] w λ e w'=>e=.returned (.tuple #[blk 0 (.slice none 0 0),.int .i64 2])/\DP X w w' c d N s:=by
 obtain⟨mb,av,V,h⟩:=hC;have H:=z6 h;obtain⟨f,B⟩:=exN (w.alloc (.cells #[.int .i64 0,.slice none 0 0] 59));have r:Hid (Below w.heap.size w f):=by rw[<-B];exact(Below.refl _ _).alloc (AE _) _
 have q:Hid (Af f w.heap.size 0 (.slice none 0 0)):=by rw[<-B];exact D1 w _ _
 have U:=z6 (h.tch (R:=λ _=>False) (AD.of_below r.o) (λ _ _ e=>e));have A:=AU (IX n f U.o.c0 (I.below r.o));rw[J,O]at A;have q0:=q.o.c0;have q1:=q.o.c1;have f0:=q.o.fz 0;have f1:=q.o.fz 1;obtain⟨E,K⟩:=exN ((f.setCell ⟨w.heap.size,0,none⟩ (.int .i64 0)).setCell ⟨w.heap.size,1,none⟩ (.slice none 0 0));have Y:Hid (Af E w.heap.size 0 (.slice none 0 0)):=by rw[<-K];exact q.o.put 0 _
 have Z:Hid (AD (λ j=>j=w.heap.size) f E):=by rw[<-K];exact(DO f _ 0 _).trans (DO _ _ 1 _) (λ _ _ e=>e)
 have T:=z6 (r.o.trans (Z.o.below r.o.size (λ j e=>by omega)));have W:=AU Y.o.load;clear h O I J
 go_enter func72,ntmps72
 go_wp2_with fail;refine A.o.mono ?_;rintro e w' ⟨rfl,rfl⟩;clear A B;go_wp2_with fail;refine bodyPost_ret (v:=.tuple #[blk 0 (.slice none 0 0),.int .i64 2]) (GJ (p:=4) (ty:=59) rfl _ _ _ w.heap.size _ _ rfl W.o rfl) rfl ?_;exact⟨rfl,Ch.to_below ⟨_,_,_,H.o⟩ T.o⟩
theorem MO:(prog.info? 102).map (·.size)=some 3:=by kernel_rfl
def JC(X:Nat->Prop)(w w':World)(c d N:Nat)(s:CS)(u:Value):Prop:=∃X',Ch X' w' c d N s/\AD X w w'/\(∀k,X' k->X k\/w.heap.size<=k)/\∀j,u.ownBlock=some j->¬X' j
def Ch.toU{X w w' c d N s u}(h:Ch X w c d N s)(f:Below w.heap.size w w')(r:∀j,u.ownBlock=some j->w.heap.size<=j):JC X w w' c d N s u:=
 ⟨X,h.below f,AD.of_below f,λ _ e=>.inl e,λ j q e=>by have:=r j q;have:=h.lt j e;omega⟩
def DP.nilU{X w w' c d N s}(h:DP X w w' c d N s):JC X w w' c d N s (.slice none 0 0):=by obtain⟨f,q,r,A⟩:=h;exact⟨f,q,r,A,λ j B=>by cases B⟩
def NO(X:Nat->Prop)(w:World)(c d N:Nat)(s':CS)(k:Int)(ys:List Int)(e:Ending)(w':World):Prop:=
 ∃u,e=.returned (.tuple #[blk k u,.int .i64 0])/\Nw w.heap.size w' u ys/\JC X w w' c d N s' u
def AAW{X S c d N s D}(n w)(hC:Ch X w c d N s)(hD:Dk S w d D)(hN:D.L.length=N)(I:n∈s.d):
 Calls prog 72 #[cp c,.int .i64 (n:Int)] w λ e w'=>NO X w c d N s (s.B n).1 (s.B n).2 e w':=by
 obtain⟨mb,av,V,h⟩:=hC;have H:=z6 h;obtain⟨f,U⟩:=exN (w.alloc (.cells #[.int .i64 0,.slice none 0 0] 59));have B1:Hid (Below w.heap.size w f):=by rw[<-U];exact(Below.refl _ _).alloc (AE _) _
 have Q1:Hid (Af f w.heap.size 0 (.slice none 0 0)):=by rw[<-U];exact D1 w _ _
 have r:=z6 (h.tch (R:=λ _=>False) (AD.of_below B1.o) (λ _ _ e=>e));have HT:=AU (IX (n:Int) f r.o.c0 (hD.below B1.o));have a6:=h.ok.dl n I;have et:Bi D.L.length (n:Int)=true:=Ff.2 (by omega);rw[et]at HT;have a9:=h.n2;have A:=r.o.map.lookOk a6.2 (by omega);have J:=z6 (r.o.bod n (.inl I));obtain⟨k,hk⟩:=exN ((s.B n).1);obtain⟨ys,W⟩:=exN ((s.B n).2);obtain⟨v,hv⟩:=exN (V n);have eg:kg s V n=some (Fe k v true):=by unfold kg;rw[if_pos I,hk,hv]
 have a8:Hid (ys.length<=140737488355328):=by have:=(h.ok.may n (.inl I)).1;obtain⟨_,_,_,_,m5⟩:=FO.1 this;show _<=_;rw[<-W];omega
 rw[W,hv]at J;unfold gh at A;rw[eg]at A;simp only[Option.getD_some,Option.isSome_some]at A;unfold Fe at A;rw[hk,W];obtain⟨a,m,cap,rfl⟩:∃a m cap,v=.slice a m cap:=by obtain⟨a,c,e,_⟩:=J.o;exact⟨_,_,_,e⟩
 obtain⟨K,E⟩:=exN (f.alloc (.cells #[.int .i64 k,.slice a m cap,.bool true] 102));have O:Below f.heap.size f K:=by rw[<-E];exact(Below.refl _ _).alloc (AE _) _
 have s1:f.heap.size=w.heap.size+1:=by rw[<-U];simp
 have B2:=z6 (B1.o.trans (O.mono (by omega)));have Q2:=z6 (Q1.o.below O);have K2:Hid (CR K (w.heap.size+1) k (.slice a m cap) true):=by rw[<-E,<-s1];exact ML f _ _ _
 have R2:=z6 (J.o.below O);have a0:=AU (Mc k (.slice a m cap) ys K R2.o a8.o);have k0:=K2.o.c0;have k1:=K2.o.c1;have k2:=K2.o.c2;have c2:=r.o.c2;have a1:=z6 E;have a4:Hid (K.heap.size=w.heap.size+2):=by show _=_;rw[<-E];simp;omega
 clear h I hD hN et a6 a9 eg hk W hv O E J r;unfold blk at a0
 go_enter func72,ntmps72
 go_wp2_with fail;refine HT.o.mono ?_;rintro e w' ⟨rfl,rfl⟩;clear HT U;go_wp2_with(with_reducible (show wpList _ _ _ (Oper.mk _ (Op.store _ _ _) _ _ _ _::_) _ _);refine Ia _ rfl 102 (.tmp 6) (.tmp 22) rfl #[.int .i64 0,.slice none 0 0,.bool false] #[.int .i64 k,.slice a m cap,.bool true] rfl rfl MO rfl rfl ?_;rw[a1.o])
 rw[a1.o];refine a0.o.mono ?_;rintro e w3 ⟨u,rfl,a3,a2⟩;have B3:=z6 (B2.o.trans (a2.mono B2.o.size));have q:=z6 (Q2.o.below a2);have N3:=z6 a3;obtain⟨Y,um,Z,rfl⟩:∃a m cap,u=.slice a m cap:=by obtain⟨a,c,e,_⟩:=a3.rd;exact⟨_,_,_,e⟩
 have q0:=q.o.c0;have q1:=q.o.c1;have f0:=q.o.fz 0;have f1:=q.o.fz 1;obtain⟨W4,a5⟩:=exN ((w3.setCell ⟨w.heap.size,0,none⟩ (.int .i64 k)).setCell ⟨w.heap.size,1,none⟩ (.slice Y um Z));have Q4:Hid (Af W4 w.heap.size k (.slice Y um Z)):=by rw[<-a5];exact q.o.put k _
 have T4:Hid (AD (λ j=>j=w.heap.size) w3 W4):=by rw[<-a5];exact(DO w3 _ 0 _).trans (DO _ _ 1 _) (λ _ _ e=>e)
 have N4:Hid (Nw w.heap.size W4 (.slice Y um Z) ys):=by have T:=N3.o.tch T4.o (λ j hj e=>by have h2:=N3.o.new j hj;have:=a4.o;omega);exact⟨T.rd,T.fz,λ j hj=>by have:=T.new j hj;have:=a4.o;omega,T.sp⟩
 have a7:=AU Q4.o.load;have B4:=z6 (B3.o.trans (T4.o.below B3.o.size (λ j e=>by omega)));clear a3 a2 a0 N3 q T4 k0 k1 k2 a1 c2 A s1;go_wp2_with fail;refine bodyPost_ret (v:=.tuple #[blk k (.slice Y um Z),.int .i64 0]) (GJ (p:=4) (ty:=59) rfl _ _ _ w.heap.size _ _ rfl a7.o rfl) rfl ?_;exact⟨_,rfl,N4.o,Ch.toU ⟨_,_,_,H.o⟩ B4.o N4.o.new⟩
def AAV{X S c d N s D}(n w)(hC:Ch X w c d N s)(hD:Dk S w d D)(hN:D.L.length=N)(q:n∈s.c):
 Calls prog 72 #[cp c,.int .i64 (n:Int)] w λ e w'=>NO X w c d N (s.keep n (s.B n)) (s.B n).1 (s.B n).2 e w':=by
 obtain⟨mb,av,V,h⟩:=hC;have H:=z6 h;obtain⟨A,a1⟩:=exN (w.alloc (.cells #[.int .i64 0,.slice none 0 0] 59));have B1:Hid (Below w.heap.size w A):=by rw[<-a1];exact(Below.refl _ _).alloc (AE _) _
 have Q1:Hid (Af A w.heap.size 0 (.slice none 0 0)):=by rw[<-a1];exact D1 w _ _
 have J:=z6 (h.tch (R:=λ _=>False) (AD.of_below B1.o) (λ _ _ e=>e));have HT:=AU (IX (n:Int) A J.o.c0 (hD.below B1.o));have a7:=h.ok.cl n q;have et:Bi D.L.length (n:Int)=true:=Ff.2 (by omega);rw[et]at HT;have ak:=h.n2;have W:=J.o.map.lookOk a7.2 (by omega);have R1:=z6 (J.o.bod n (.inr q));obtain⟨k,O⟩:=exN ((s.B n).1);obtain⟨E,r⟩:=exN ((s.B n).2);obtain⟨v,hv⟩:=exN (V n);have eg:kg s V n=some (Fe k v false):=by unfold kg;rw[if_neg (λ e=>h.ok.ap n e q),if_pos q,O,hv]
 have ag:Hid (E.length<=140737488355328):=by have:=(h.ok.may n (.inr q)).1;obtain⟨_,_,_,_,m5⟩:=FO.1 this;show _<=_;rw[<-r];omega
 rw[r,hv]at R1;unfold gh at W;rw[eg]at W;simp only[Option.getD_some,Option.isSome_some]at W;unfold Fe at W;rw[O,r,show s.B n=(k,E) by rw[<-O,<-r]];obtain⟨a,m,cap,rfl⟩:∃a m cap,v=.slice a m cap:=by obtain⟨a,c,e,_⟩:=R1.o;exact⟨_,_,_,e⟩
 obtain⟨W2,a0⟩:=exN (A.alloc (.cells #[.int .i64 k,.slice a m cap,.bool false] 102));have Z:Below A.heap.size A W2:=by rw[<-a0];exact(Below.refl _ _).alloc (AE _) _
 have s1:A.heap.size=w.heap.size+1:=by rw[<-a1];simp
 have B2:=z6 (B1.o.trans (Z.mono (by omega)));have Q2:=z6 (Q1.o.below Z);have U:Hid (CR W2 (w.heap.size+1) k (.slice a m cap) false):=by rw[<-a0,<-s1];exact ML A _ _ _
 have R2:=z6 (R1.o.below Z);have H2:=z6 (J.o.tch (R:=λ _=>False) (AD.of_below Z) (λ _ _ e=>e));have al:Hid (s.B n=(k,E)):=by show _=_;rw[<-O,<-r]
 have a2:=AU (TU n k (.slice a m cap) E W2 H2.o a7 (by have:=(h.ok.may n (.inr q)).1;rw[O,r]at this;exact this) (by have:=(h.ok.may n (.inr q)).2;rw[r]at this;exact this) R2.o (λ j f h0=>by
  have:=h.bap n (.inr q) j (by rw[hv];exact f) (by rw[r];exact h0);exact this))
 have k0:=U.o.c0;have k1:=U.o.c1;have k2:=U.o.c2;have c2:=J.o.c2;have a4:=z6 a0;have aj:Hid (W2.heap.size=w.heap.size+2):=by show _=_;rw[<-a0];simp;omega
 clear h q hD hN et a7 ak eg O r hv Z a0 R1 J;unfold blk at a2
 go_enter func72,ntmps72
 go_wp2_with fail;refine HT.o.mono ?_;rintro e w' ⟨rfl,rfl⟩;clear HT a1;go_wp2_with(with_reducible (show wpList _ _ _ (Oper.mk _ (Op.store _ _ _) _ _ _ _::_) _ _);refine Ia _ rfl 102 (.tmp 6) (.tmp 22) rfl #[.int .i64 0,.slice none 0 0,.bool false] #[.int .i64 k,.slice a m cap,.bool false] rfl rfl MO rfl rfl ?_;rw[a4.o])
 rw[a4.o];refine a2.o.mono ?_;rintro e T ⟨rfl,h3,r3⟩;have QQ:Hid (Af T w.heap.size 0 (.slice none 0 0)):=by obtain⟨_,_,t,_⟩:=h3;exact Q2.o.tch t (λ e=>by have:=H.o.xlt _ e;omega)
 have K3:Hid (CR T (w.heap.size+1) k (.slice a m cap) false):=by obtain⟨_,_,t,_⟩:=h3;exact U.o.tch t (λ e=>by have:=H.o.xlt _ e;omega)
 have ae:Hid (∃I,Ch I T c d N (s.keep n (k,E))/\AD X w T/\(∀j,I j->X j\/w.heap.size<=j)/\¬I w.heap.size):=by
  obtain⟨I,hK,t,hx⟩:=h3;have hs:=aj.o;exact⟨I,hK,(AD.of_below B2.o).trans t (λ _ _ e=>e),λ j f=>(hx j f).imp id (λ e=>by omega),λ e=>by
   rcases hx _ e with e|e;have:=H.o.xlt _ e;omega
   .omega⟩
 have a3:=AU (Mc k (.slice a m cap) E T r3 ag.o);unfold blk at a3;have x0:=K3.o.c0;have x1:=K3.o.c1;clear h3 r3 a2 k0 k1 k2 a4 c2 W s1 Q2 U R2 H2;go_wp2_with fail;refine a3.o.mono ?_;rintro e w4 ⟨u,rfl,a6,a5⟩;have K:=z6 (QQ.o.below a5);have N4:=z6 a6;have ac:=z6 a5;obtain⟨ua,um,uc,rfl⟩:∃a m cap,u=.slice a m cap:=by obtain⟨a,c,e,_⟩:=a6.rd;exact⟨_,_,_,e⟩
 have z0:=K.o.c0;have z1:=K.o.c1;have g0:=K.o.fz 0;have g1:=K.o.fz 1;obtain⟨Y,aa⟩:=exN ((w4.setCell ⟨w.heap.size,0,none⟩ (.int .i64 k)).setCell ⟨w.heap.size,1,none⟩ (.slice ua um uc));have QF:Hid (Af Y w.heap.size k (.slice ua um uc)):=by rw[<-aa];exact K.o.put k _
 have TF:Hid (AD (λ j=>j=w.heap.size) w4 Y):=by rw[<-aa];exact(DO w4 _ 0 _).trans (DO _ _ 1 _) (λ _ _ e=>e)
 have a8:=z6 QQ.o.lt;have NF:Hid (Nw w.heap.size Y (.slice ua um uc) E):=by have h1:=N4.o.tch TF.o (λ j f e=>by have h2:=N4.o.new j f;have:=a8.o;omega);exact⟨h1.rd,h1.fz,λ j f=>by have:=h1.new j f;have:=a8.o;omega,h1.sp⟩
 have af:=AU QF.o.load;have ai:=z6 N4.o.new;have ad:Hid (JC X w Y c d N (s.keep n (k,E)) (.slice ua um uc)):=by obtain⟨I,a9,tK,ab⟩:=ae.o;have t1:AD (λ j=>j=w.heap.size) T Y:=(AD.of_below ac.o).trans TF.o (λ _ _ e=>e);refine⟨I,a9.tch t1 (λ j f e=>ab.2 (by rw[<-e];exact f)),tK.trans t1 (λ j f e=>by omega),ab.1,λ j f e=>by have:=a9.lt j e;have:=ai.o j f;omega⟩
 clear a6 a5 a3 N4 K TF;go_wp2_with fail;refine bodyPost_ret (v:=.tuple #[blk k (.slice ua um uc),.int .i64 0]) (GJ (p:=4) (ty:=59) rfl _ _ _ w.heap.size _ _ rfl af.o rfl) rfl ?_;exact⟨_,rfl,NF.o,ad.o⟩
def AAS{n xs}(f:By xs)(h:getE n xs=0):BI n (getB n xs).1 (getB n xs).2.length=true/\By (getB n xs).2:=by
 have e:getB n xs=(xs.getD 0 0,DA xs):=by unfold getB;grind
 rw[e];refine⟨?_,RI f⟩;unfold getE at h
 grind
def AAU{X S c d N s D}(n w)(hC:Ch X w c d N s)(O:Dk S w d D)(hN:D.L.length=N)(a8:50<=n/\n<N)(a7:n∉s.d)(a6:n∉s.c)(hE:getE (n:Int) (D.has n)≠0):
 Calls prog 72 #[cp c,.int .i64 (n:Int)] w λ e w'=>e=.returned (.tuple #[blk 0 (.slice none 0 0),.int .i64 (getE (n:Int) (D.has n))])/\DP X w w' c d N s:=by
 obtain⟨mb,av,V,h⟩:=hC;have H:=z6 h;obtain⟨f,T⟩:=exN (w.alloc (.cells #[.int .i64 0,.slice none 0 0] 59));have U:Hid (Below w.heap.size w f):=by rw[<-T];exact(Below.refl _ _).alloc (AE _) _
 have Q1:Hid (Af f w.heap.size 0 (.slice none 0 0)):=by rw[<-T];exact D1 w _ _
 have q:=z6 (h.tch (R:=λ _=>False) (AD.of_below U.o) (λ _ _ e=>e));have Z:=AU (IX (n:Int) f q.o.c0 (O.below U.o));have et:Bi D.L.length (n:Int)=true:=Ff.2 (by omega);rw[et]at Z;have ae:=h.n2;have r:=q.o.map.lookOk a8.2 (by omega);have eg:kg s V n=none:=by unfold kg;rw[if_neg a7,if_neg a6]
 unfold gh at r;rw[eg]at r;simp only[Option.getD_none,Option.isSome_none]at r;unfold KP Fe at r;obtain⟨I,B⟩:=exN (f.alloc (.cells #[.int .i64 0,.slice none 0 0,.bool false] 102));have K:Below f.heap.size f I:=by rw[<-B];exact(Below.refl _ _).alloc (AE _) _
 have s1:f.heap.size=w.heap.size+1:=by rw[<-T];simp
 have E:=z6 (U.o.trans (K.mono (by omega)));have Q2:=z6 (Q1.o.below K);have K2:Hid (CR I (w.heap.size+1) 0 (.slice none 0 0) false):=by rw[<-B,<-s1];exact ML f _ _ _
 have H2:=z6 (q.o.tch (R:=λ _=>False) (AD.of_below K) (λ _ _ e=>e));have Y:=AU (Ur n I H2.o.c0 (O.below E.o) (by omega));have c2:=q.o.c2;have a0:=z6 B;have ag:Hid (I.heap.size=w.heap.size+2):=by show _=_;rw[<-B];simp;omega
 obtain⟨xs,a4⟩:=exN (D.has n);have HX:Hid (By xs):=by rw[<-a4];exact(O.has_ok (by omega)).2
 rw[a4]at hE Y |-
 obtain⟨ec,a3⟩:=exN (getE (n:Int) xs);rw[a3]at hE |-
 have aa:=z6 a3;have ac:(ec==0)=false:=by rw[zi0];exact hE
 have ai:(ec != 0)=true:=by rw[bne,ac];rfl
 clear h O hN et a8 ae eg K B q a7 a6 a4 a3
 go_enter func72,ntmps72
 go_wp2_with fail;refine Z.o.mono ?_;rintro e w' ⟨rfl,rfl⟩;clear Z T;go_wp2_with(with_reducible (show wpList _ _ _ (Oper.mk _ (Op.store _ _ _) _ _ _ _::_) _ _);refine Ia _ rfl 102 (.tmp 6) (.tmp 22) rfl #[.int .i64 0,.slice none 0 0,.bool false] #[.int .i64 0,.slice none 0 0,.bool false] rfl rfl MO rfl rfl ?_;rw[a0.o])
 rw[a0.o];refine Y.o.mono ?_;rintro e w3 ⟨v,rfl,a9,a2,af⟩;rw[aa.o];have W:=z6 (E.o.trans (a2.mono E.o.size));have Q3:=z6 (Q2.o.below a2);obtain⟨k,hk⟩:=exN ((getB (n:Int) xs).1);rw[hk];obtain⟨a,m,cap,rfl⟩:∃a m cap,v=.slice a m cap:=by obtain⟨a,c,e,_⟩:=a9;exact⟨_,_,_,e⟩
 obtain⟨J,ad⟩:=exN (w3.alloc (.cells #[.int .i64 k,.slice a m cap] 59));have a1:Below w3.heap.size w3 J:=by rw[<-ad];exact(Below.refl _ _).alloc (AE _) _
 have B4:=z6 (W.o.trans (a1.mono W.o.size));have A:=z6 (Q3.o.below a1);have z0:=A.o.c0;have z1:=A.o.c1;have g0:=A.o.fz 0;have g1:=A.o.fz 1;obtain⟨WF,a5⟩:=exN ((J.setCell ⟨w.heap.size,0,none⟩ (.int .i64 0)).setCell ⟨w.heap.size,1,none⟩ (.slice none 0 0));have QF:Hid (Af WF w.heap.size 0 (.slice none 0 0)):=by rw[<-a5];exact A.o.put 0 _
 have TF:Hid (AD (λ j=>j=w.heap.size) J WF):=by rw[<-a5];exact(DO J _ 0 _).trans (DO _ _ 1 _) (λ _ _ e=>e)
 have BF:=z6 (B4.o.trans (TF.o.below B4.o.size (λ j e=>by omega)));have ab:=AU QF.o.load;clear a9 a2 af hk a1 Y Q2 Q3 W E K2 H2 r c2 a0 s1;unfold blk;go_wp2_with fail;refine bodyPost_ret (v:=.tuple #[blk 0 (.slice none 0 0),.int .i64 ec]) (GJ (p:=4) (ty:=59) rfl _ _ _ w.heap.size _ _ rfl ab.o rfl) rfl ?_;exact⟨rfl,Ch.to_below ⟨_,_,_,H.o⟩ BF.o⟩
def AAX{X S c d N s D}(n w)(hC:Ch X w c d N s)(hD:Dk S w d D)(hN:D.L.length=N)(ai:50<=n/\n<N)(aq:n∉s.d)(ap:n∉s.c)(hE:getE (n:Int) (D.has n)=0):
 Calls prog 72 #[cp c,.int .i64 (n:Int)] w λ e w'=>NO X w c d N (s.keep n (getB (n:Int) (D.has n))) (getB (n:Int) (D.has n)).1 (getB (n:Int) (D.has n)).2 e w':=by
 obtain⟨mb,av,V,h⟩:=hC;have H:=z6 h;obtain⟨r,a6⟩:=exN (w.alloc (.cells #[.int .i64 0,.slice none 0 0] 59));have B1:Hid (Below w.heap.size w r):=by rw[<-a6];exact(Below.refl _ _).alloc (AE _) _
 have Q1:Hid (Af r w.heap.size 0 (.slice none 0 0)):=by rw[<-a6];exact D1 w _ _
 have W:=z6 (h.tch (R:=λ _=>False) (AD.of_below B1.o) (λ _ _ e=>e));have HT:=AU (IX (n:Int) r W.o.c0 (hD.below B1.o));have et:Bi D.L.length (n:Int)=true:=Ff.2 (by omega);rw[et]at HT;have b5:=h.n2;have Y:=W.o.map.lookOk ai.2 (by omega);have eg:kg s V n=none:=by unfold kg;rw[if_neg aq,if_neg ap]
 unfold gh at Y;rw[eg]at Y;simp only[Option.getD_none,Option.isSome_none]at Y;unfold KP Fe at Y;obtain⟨W2,a1⟩:=exN (r.alloc (.cells #[.int .i64 0,.slice none 0 0,.bool false] 102));have a5:Below r.heap.size r W2:=by rw[<-a1];exact(Below.refl _ _).alloc (AE _) _
 have s1:r.heap.size=w.heap.size+1:=by rw[<-a6];simp
 have B2:=z6 (B1.o.trans (a5.mono (by omega)));have Q2:=z6 (Q1.o.below a5);have K2:Hid (CR W2 (w.heap.size+1) 0 (.slice none 0 0) false):=by rw[<-a1,<-s1];exact ML r _ _ _
 have H2:=z6 (W.o.tch (R:=λ _=>False) (AD.of_below a5) (λ _ _ e=>e));have aa:=AU (Ur n W2 H2.o.c0 (hD.below B2.o) (by omega));have c2:=W.o.c2;have ab:=z6 a1;have b3:Hid (W2.heap.size=w.heap.size+2):=by show _=_;rw[<-a1];simp;omega
 obtain⟨xs,aj⟩:=exN (D.has n);have HX:Hid (By xs):=by rw[<-aj];exact(hD.has_ok (by omega)).2
 rw[aj]at hE aa |-
 obtain⟨x,T⟩:=exN (getB (n:Int) xs);obtain⟨k,q⟩:=x;have a3:=AU (AAS (n:=(n:Int)) HX.o hE);rw[T]at a3 |-
 have ak:Hid (getE (n:Int) xs=0/\getB (n:Int) xs=(k,q)):=⟨hE,T⟩
 have b0:=z6 ai;have az:Hid (q.length<=140737488355328):=by obtain⟨_,_,_,_,m5⟩:=FO.1 a3.o.1;show _<=_;have:q.length<=240:=m5;omega
 clear h hD hN et ai b5 eg a5 a1 W aq ap aj hE T
 go_enter func72,ntmps72
 go_wp2_with fail;refine HT.o.mono ?_;rintro e w' ⟨rfl,rfl⟩;clear HT a6;go_wp2_with(with_reducible (show wpList _ _ _ (Oper.mk _ (Op.store _ _ _) _ _ _ _::_) _ _);refine Ia _ rfl 102 (.tmp 6) (.tmp 22) rfl #[.int .i64 0,.slice none 0 0,.bool false] #[.int .i64 0,.slice none 0 0,.bool false] rfl rfl MO rfl rfl ?_;rw[ab.o])
 rw[ab.o];refine aa.o.mono ?_;rintro e w3 ⟨v,rfl,a2,a7,ao⟩;rw[ak.o.1,ak.o.2]at *
 have a2:=a2;have B3:=z6 (B2.o.trans (a7.mono B2.o.size));have Q3:=z6 (Q2.o.below a7);have K3:=z6 (K2.o.below a7);have Z:Hid (∀j,v.ownBlock=some j->w.heap.size+2<=j):=λ j f=>by have:=ao j f;have:=b3.o;omega
 obtain⟨a,m,cap,rfl⟩:∃a m cap,v=.slice a m cap:=by obtain⟨a,c,e,_⟩:=a2;exact⟨_,_,_,e⟩
 obtain⟨K,ae⟩:=exN (w3.alloc (.cells #[.int .i64 k,.slice a m cap] 59));have a0:Below w3.heap.size w3 K:=by rw[<-ae];exact(Below.refl _ _).alloc (AE _) _
 have B4:=z6 (B3.o.trans (a0.mono B3.o.size));have A:=z6 (K3.o.below a0);have Q4:=z6 (Q3.o.below a0);have G4:Hid (Af K w3.heap.size k (.slice a m cap)):=by rw[<-ae];exact D1 w3 _ _
 have R4:=z6 (a2.below a0);have y0:=G4.o.c0;have y1:=G4.o.c1;have e0:=A.o.c0;have e1:=A.o.c1;have e2:=A.o.c2;have j0:=A.o.fz 0;have j1:=A.o.fz 1;have j2:=A.o.fz 2;obtain⟨W5,af⟩:=exN (((K.setCell ⟨w.heap.size+1,0,none⟩ (.int .i64 k)).setCell ⟨w.heap.size+1,1,none⟩ (.slice a m cap)).setCell ⟨w.heap.size+1,2,none⟩ (.bool false));have I:Hid (CR W5 (w.heap.size+1) k (.slice a m cap) false):=by rw[<-af];have E:=heap_setCell_same K (w.heap.size+1) 0 _ _ (.int .i64 k) A.o;have h2:=heap_setCell_same _ (w.heap.size+1) 1 _ _ (.slice a m cap) E;exact heap_setCell_same _ (w.heap.size+1) 2 _ _ (.bool false) h2
 have T5:Hid (AD (λ j=>j=w.heap.size+1) K W5):=by rw[<-af];exact((DO K _ 0 _).trans (DO _ _ 1 _) (λ _ _ e=>e)).trans (DO _ _ 2 _) (λ _ _ e=>e)
 have B5:=z6 (B4.o.trans (T5.o.below B4.o.size (λ j e=>by omega)));have Q5:=z6 (Q4.o.tch T5.o (λ e=>by omega));have R5:=z6 (R4.o.tch T5.o (λ j f e=>by have:=Z.o j f;omega));obtain⟨O,ag⟩:∃O:Nat->Prop,(λ j=>X j\/((Value.slice a m cap).ownBlock=some j/\q≠[]))=O:=⟨_,rfl⟩
 have H5:Hid (BH O W5 c d N s mb av V):=by
  rw[<-ag];refine(H.o.tch (R:=λ _=>False) (AD.of_below B5.o) (λ _ _ e=>e)).wide (λ j f=>.inl f) (λ j f=>?_);rcases f with e|⟨e,e0⟩
  .exact Ao (H.o.xlt j e) B5.o.size
  .exact R5.o.blk_lt e0 e
 have a4:Hid ((∀j,O j->X j\/w.heap.size+2<=j)/\∀j,(Value.slice a m cap).ownBlock=some j->q≠[]->O j/\j≠c/\j≠mb/\av.ownBlock≠some j):=by rw[<-ag];refine⟨λ j f=>f.imp id (λ e=>Z.o j e.1),λ j f h0=>⟨.inr ⟨f,h0⟩,?_,?_,λ e=>?_⟩⟩;have:=Z.o j f;have:=H.o.lt;omega;have:=Z.o j f;have:=H.o.xlt _ H.o.xm;omega;have:=Z.o j f;have:=H.o.xlt _ (H.o.xa j e);omega
 have a8:=AU (TU n k (.slice a m cap) q W5 H5.o b0.o a3.o.1 a3.o.2 R5.o a4.o.2);have i0:=I.o.c0;have i1:=I.o.c1;have i2:=I.o.c2;have b4:Hid (w.heap.size+2<=W5.heap.size):=by have:=I.o.lt;exact this
 clear a2 a7 ao a0 aa Q2 Q3 B3 B2 K2 K3 H2 Y c2 ab s1 R4 T5 B4 Q4 ag;unfold blk at a8 |-
 go_wp2_with fail;refine a8.o.mono ?_;rintro e U ⟨rfl,h6,r6⟩;have NX:Hid (∀j,j<w.heap.size+2->w.heap.size<=j->¬O j):=λ j E h2 e=>by rcases a4.o.1 j e with e|e;have:=H.o.xlt _ e;omega;omega
 have QQ:Hid (Af U w.heap.size 0 (.slice none 0 0)):=by obtain⟨_,_,t,_⟩:=h6;exact Q5.o.tch t (NX.o _ (by omega) (by omega))
 have K6:Hid (CR U (w.heap.size+1) k (.slice a m cap) false):=by obtain⟨_,_,t,_⟩:=h6;exact I.o.tch t (NX.o _ (by omega) (by omega))
 have ax:Hid (∃B,Ch B U c d N (s.keep n (k,q))/\AD X w U/\(∀j,B j->X j\/w.heap.size<=j)/\¬B w.heap.size):=by obtain⟨B,hK,t,T⟩:=h6;have hs:=b4.o;refine⟨B,hK,(AD.of_below B5.o).trans t (λ j f e=>?_),λ j f=>?_,λ e=>?_⟩;rcases a4.o.1 j e with e|e;exact e;omega;rcases T j f with e|e;exact(a4.o.1 j e).imp id (λ e=>by omega);exact .inr (by omega);rcases T _ e with e|e;exact NX.o _ (by omega) (by omega) e;omega
 have a9:=AU (Mc k (.slice a m cap) q U r6 az.o);unfold blk at a9;have x0:=K6.o.c0;have x1:=K6.o.c1;clear h6 r6 a8 y0 y1 e0 e1 e2 j0 j1 j2 i0 i1 i2 af ae Q5 I R5 H5;go_wp2_with fail;refine a9.o.mono ?_;rintro e w7 ⟨u,rfl,ad,ac⟩;have J:=z6 (QQ.o.below ac);have N7:=z6 ad;have au:=z6 ac;obtain⟨ua,um,uc,rfl⟩:∃a m cap,u=.slice a m cap:=by obtain⟨a,c,e,_⟩:=ad.rd;exact⟨_,_,_,e⟩
 have z0:=J.o.c0;have z1:=J.o.c1;have g0:=J.o.fz 0;have g1:=J.o.fz 1;obtain⟨WF,an⟩:=exN ((w7.setCell ⟨w.heap.size,0,none⟩ (.int .i64 k)).setCell ⟨w.heap.size,1,none⟩ (.slice ua um uc));have QF:Hid (Af WF w.heap.size k (.slice ua um uc)):=by rw[<-an];exact J.o.put k _
 have TF:Hid (AD (λ j=>j=w.heap.size) w7 WF):=by rw[<-an];exact(DO w7 _ 0 _).trans (DO _ _ 1 _) (λ _ _ e=>e)
 have al:=z6 QQ.o.lt;have NF:Hid (Nw w.heap.size WF (.slice ua um uc) q):=by have E:=N7.o.tch TF.o (λ j f e=>by have h2:=N7.o.new j f;have:=al.o;omega);exact⟨E.rd,E.fz,λ j f=>by have:=E.new j f;have:=al.o;omega,E.sp⟩
 have ay:=AU QF.o.load;have b2:=z6 N7.o.new;have aw:Hid (JC X w WF c d N (s.keep n (k,q)) (.slice ua um uc)):=by obtain⟨B,am,tK,ar⟩:=ax.o;have t1:AD (λ j=>j=w.heap.size) U WF:=(AD.of_below au.o).trans TF.o (λ _ _ e=>e);refine⟨B,am.tch t1 (λ j f e=>ar.2 (by rw[<-e];exact f)),tK.trans t1 (λ j f e=>by omega),ar.1,λ j f e=>by have:=am.lt j e;have:=b2.o j f;omega⟩
 clear ad ac a9 N7 J TF;go_wp2_with fail;refine bodyPost_ret (v:=.tuple #[blk k (.slice ua um uc),.int .i64 0]) (GJ (p:=4) (ty:=59) rfl _ _ _ w.heap.size _ _ rfl ay.o rfl) rfl ?_;exact⟨_,rfl,NF.o,aw.o⟩
def AAT{X S c d N s D}(n w)(A:Ch X w c d N s)(E:Dk S w d D)(I:D.L.length=N):
 Calls prog 72 #[cp c,.int .i64 n] w λ e w'=>∃u,e=.returned (.tuple #[blk (s.getB D n).1 u,.int .i64 (s.getE D n)])/\Nw w.heap.size w' u (s.getB D n).2/\JC X w w' c d N (s.getS D n) u:=by
 cases h1:Bi N n with
 | false=>
  have q:s.getE D n=2:=by unfold CS.getE;grind
  have r:s.getB D n=(0,[]):=by unfold CS.getB;grind
  have f:s.getS D n=s:=by unfold CS.getS;grind
  rw[q,r,f];refine(AAY n w A E I h1).mono ?_;rintro e w' ⟨rfl,h⟩;exact⟨_,rfl,Nw.nil _ _,h.nilU⟩
 | true=>
  obtain⟨i,rfl⟩:∃i:Nat,n=(i:Int):=⟨n.toNat,by have:=(Ff.1 h1).1;omega⟩
  have T:=Ff.1 h1;by_cases J:i∈s.d
  .have q:s.getE D (i:Int)=0:=by unfold CS.getE;grind
   (have r:s.getB D (i:Int)=s.B i:=by unfold CS.getB;grind);(have f:s.getS D (i:Int)=s:=by unfold CS.getS;grind);rw[q,r,f];exact AAW i w A E I J
  .by_cases hc:i∈s.c
   .have q:s.getE D (i:Int)=0:=by unfold CS.getE;grind
    (have r:s.getB D (i:Int)=s.B i:=by unfold CS.getB;grind);(have f:s.getS D (i:Int)=s.keep i (s.B i):=by unfold CS.getS;grind);rw[q,r,f];exact AAV i w A E I hc
   .have q:s.getE D (i:Int)=getE (i:Int) (D.has i):=by unfold CS.getE;grind
    (have r:s.getB D (i:Int)=getB (i:Int) (D.has i):=by unfold CS.getB;grind);by_cases K:getE (i:Int) (D.has i)=0
    .have f:s.getS D (i:Int)=s.keep i (getB (i:Int) (D.has i)):=by unfold CS.getS;grind
     rw[q,r,f,K];exact AAX i w A E I (by omega) J hc K
    .have f:s.getS D (i:Int)=s:=by unfold CS.getS;grind
     (have O:getB (i:Int) (D.has i)=(0,[]):=by unfold getB;grind);rw[q,r,f,O];refine(AAU i w A E I (by omega) J hc K).mono ?_;rintro e w' ⟨rfl,h⟩;exact⟨_,rfl,Nw.nil _ _,h.nilU⟩
