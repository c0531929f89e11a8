import Derived.Test.YtcmjlibndmneiaaGreatPKMem
import Derived.Test.YtcmjlibndmneiaaGreatPClone
import Derived.Test.YtcmjlibndmneiaaGreatPBGetW
set_option maxRecDepth 100000
set_option linter.all false
set_option maxHeartbeats 8000000
namespace Go.Proofs.YtcmjlibndmneiaaGreat
open Go.RowKit Go.Maps
def zag9{S:Nat->Prop}{c d:Nat}{D:DS}(n:Int)(w:World)(O:w.cell? ⟨c,0,none⟩=some (dp d))(H:Dk S w d D):
 Calls Tryz.prog 59 #[cp c,.int .i64 n] w λ e w'=>e=.returned (.bool (kthere D.L.length n))/\w'=w:=by
 have E:=zb0 (zvt9 w H);obtain⟨N,K⟩:=exH D.L.length;rw[K.o]at E |-
 unfold kthere;clear H;by_cases u:50<=n
 .by_cases A:n<(N:Int)
  .have e:(decide (50<=n)&&decide (n<(N:Int)))=true:=by simp[u,A]
   rw[e];clear e
   go_enter Tryz.func59,Tryz.ntmps59
   go_wp2_with fail;refine E.o.mono ?_;rintro e w ⟨rfl,rfl⟩;go_wp2_with fail;go_ret;exact⟨rfl,rfl⟩
  .have e:(decide (50<=n)&&decide (n<(N:Int)))=false:=by simp[A]
   rw[e];(have I:decide (n<(N:Int))=false:=by rw[zn4];exact A);clear e A
   go_enter Tryz.func59,Tryz.ntmps59
   go_wp2_with fail;refine E.o.mono ?_;rintro e w ⟨rfl,rfl⟩;go_wp2_with fail;go_ret;exact⟨rfl,rfl⟩
 .have e:(decide (50<=n)&&decide (n<(N:Int)))=false:=by simp[u]
  rw[e];have I:decide (50<=n)=false:=by rw[zn4];exact u
  clear e u
  go_enter Tryz.func59,Tryz.ntmps59
  go_wp2_with fail;go_ret;exact⟨rfl,rfl⟩
def zjw9(k:Int)(v:Value)(ys:List Int)(w:World)(hr:Rd .u8 w v ys)(hl:ys.length<=140737488355328):
 Calls Tryz.prog 62 #[blk k v] w λ e w'=>∃u,e=.returned (blk k u)/\Nw w.heap.size w' u ys/\Below w.heap.size w w':=by
 obtain⟨W1,a0⟩:=exN (w.alloc (.cells #[.int .i64 k,v] 63));obtain⟨A,a1⟩:=exN (W1.alloc (.cells #[.int .i64 0,.slice none 0 0] 63));have s1:W1.heap.size=w.heap.size+1:=by rw[<-a0];simp
 have T:Hid (Below w.heap.size w A):=by rw[<-a1,<-a0];exact((Below.refl _ _).alloc (zn6 _) _).alloc (by simp) _
 have Y:Hid (Bkv A w.heap.size k v):=by rw[<-a1];refine Bkv.below (w:=W1) ?_ ((Below.refl _ _).alloc (zn6 _) _);rw[<-a0];exact zz9 w _ _
 have Q2:Hid (Bkv A (w.heap.size+1) 0 (.slice none 0 0)):=by rw[<-a1,<-s1];exact zz9 W1 _ _
 have HC:Hid (∀W,Below A.heap.size A W->Calls Tryz.prog 94 #[v] W λ e w'=>∃rv,e=.returned rv/\Nw W.heap.size w' rv ys/\Below W.heap.size W w'):=λ W hb=>zql9 v ys W ((hr.below T.o).below hb) hl;have q0:=Y.o.c0;have q1:=Y.o.c1;obtain⟨a,m,cap,rfl⟩:∃a m cap,v=.slice a m cap:=by obtain⟨a,c,e,_⟩:=hr;exact⟨_,_,_,e⟩
 clear hr;unfold blk
 go_enter Tryz.func62,Tryz.ntmps62
 go_wp2_with fail;have a7:Hid (Below A.heap.size A A.drew):=(Below.refl _ _).drew;have ae:Hid (∀E,Below A.drew.heap.size A.drew E->(E.cell? ⟨w.heap.size,0,none⟩=some (.int .i64 k)/\E.cell? ⟨w.heap.size,1,none⟩=some (.slice a m cap))/\Bkv E (w.heap.size+1) 0 (.slice none 0 0)/\Below w.heap.size w E):=λ E hb=>by have a6:=a7.o.trans hb;have:=Y.o.below a6;exact⟨⟨this.c0,this.c1⟩,Q2.o.below a6,T.o.trans (a6.mono T.o.size)⟩
 have ad:=Q2;clear a0 a1 Y Q2;have hS:A.drew.cell? ⟨w.heap.size,0,none⟩=some (.int .i64 k)/\A.drew.cell? ⟨w.heap.size,1,none⟩=some (.slice a m cap):=⟨q0,q1⟩
 go_region_held3 (λ w'=>w'.cell? ⟨w.heap.size,0,none⟩=some (.int .i64 k)/\w'.cell? ⟨w.heap.size,1,none⟩=some (.slice a m cap)) (first|go_keep|exact aa)
  (first
   | (go_at_call 94;refine(HC.o _ a7.o).mono ?_;rintro e E ⟨rv,rfl,a5,a9⟩;obtain⟨aa,H,ab⟩:=ae.o E a9;have a4:=zb0 a5;have a8:=zb0 H;have a3:=zb0 ab;have r0:=H.c0;have r1:=H.c1;have f0:=H.fz 0;have f1:=H.fz 1;obtain⟨K,Q,O,rfl⟩:∃a m cap,rv=.slice a m cap:=by{ obtain⟨a,c,e,_⟩:=a5.rd;exact⟨_,_,_,e⟩ };clear a5 H ab a9))
 rename_i hHeld;clear hHeld;obtain⟨W4,a2⟩:=exH ((E.setCell ⟨w.heap.size+1,0,none⟩ (.int .i64 k)).setCell ⟨w.heap.size+1,1,none⟩ (.slice K Q O));rw[a2.o];have Q4:Hid (Bkv W4 (w.heap.size+1) k (.slice K Q O)):=by rw[<-a2.o];exact a8.o.put k _
 have T4:Hid (Tch (λ j=>j=w.heap.size+1) E W4):=by rw[<-a2.o];exact(zo9 E _ 0 _).trans (zo9 _ _ 1 _) (λ _ _ e=>e)
 have af:w.heap.size+2<=A.heap.size:=by have:=T.o.size;have I:=zd0.1 ad.o;exact I.1
 have N4:Hid (Nw w.heap.size W4 (.slice K Q O) ys):=by have I:Nw A.heap.size W4 (.slice K Q O) ys:=a4.o.tch T4.o (λ j hj e=>by have h2:A.heap.size<=j:=a4.o.new j hj;omega);exact⟨I.rd,I.fz,λ j hj=>by have:=I.new j hj;omega⟩
 have B4:=za0 (a3.o.trans (T4.o.below a3.o.size (λ j e=>by omega)));have x0:=Q4.o.c0;have x1:=Q4.o.c1;clear a2 a4 a8 a3 r0 r1 f0 f1 aa hS q0 q1 T4;have ac:=zb0 Q4.o.load;go_wp2_with fail;refine bodyPost_ret (v:=blk k (.slice K Q O)) (zbs9 (p:=2) (ty:=63) rfl _ _ _ (w.heap.size+1) _ rfl ac.o) rfl ?_;exact⟨_,rfl,N4.o,B4.o⟩
def Dk.has_ok{S:Nat->Prop}{w:World}{d:Nat}{D:DS}(h:Dk S w d D){i:Nat}(hi:i<D.L.length):(D.has i).length=256/\By (D.has i):=by obtain⟨u,E,A,g,h⟩:=h;exact DS.has_ok h hi
def zot9{S:Nat->Prop}{c d:Nat}{D:DS}(n:Nat)(w:World)(hc:w.cell? ⟨c,0,none⟩=some (dp d))(hd:Dk S w d D)(hn:n<D.L.length):
 Calls Tryz.prog 79 #[cp c,.int .i64 (n:Int)] w λ e w'=>GetR (n:Int) (D.has n) w e w':=by
 have a9:=ze0 w ⟨c,0,none⟩ hc;obtain⟨K,a1⟩:=exN (w.alloc (.cells #[.int .i64 0,.slice none 0 0] 63));have H:Hid (Below w.heap.size w K):=by rw[<-a1];exact(Below.refl _ _).alloc (zn6 _) _
 have Q1:Hid (Bkv K w.heap.size 0 (.slice none 0 0)):=by rw[<-a1];exact zz9 w _ _
 have c1:K.cell? ⟨c,0,none⟩=some (dp d):=by rw[Tch.cell (Tch.of_below (S:=λ _=>False) H.o) (p:=⟨c,0,none⟩) a9 (λ e=>e)];exact hc
 have I:=zb0 (zvn9 (n:Int) K (hd.below H.o));have e1:dco D (n:Int)=0:=by unfold dco;rw[if_neg (by omega)]
 have e2:dhs D (n:Int)=D.has n:=by unfold dhs;rw[if_neg (by omega)];rfl
 rw[e1,e2]at I;have HH:=za0 ((hd.has_ok hn).2);obtain⟨E,ac⟩:=exH (D.has n);rw[ac.o]at I HH |-
 clear hd hn e1 e2 hc a9
 go_enter Tryz.func79,Tryz.ntmps79
 go_wp2_with fail;refine I.o.mono ?_;rintro e w2 ⟨v,rfl,a6,a2,_⟩;have Q:=za0 (H.o.trans (a2.mono H.o.size));have Q2:=za0 (Q1.o.below a2);have HG:=zb0 (zxf9 (n:Int) v E w2 a6.rd HH.o);obtain⟨a,m,cap,rfl⟩:∃a m cap,v=.slice a m cap:=by obtain⟨a,c,e,_⟩:=a6.rd;exact⟨_,_,_,e⟩
 clear a6 a2 Q1 H a1 c1 I;go_wp2_with fail;refine HG.o.mono ?_;rintro e w3 ⟨u,rfl,O,a3,aa⟩;obtain⟨k,hk⟩:=exN ((getB (n:Int) E).1);obtain⟨ec,a4⟩:=exN (getE (n:Int) E);obtain⟨ys,a5⟩:=exN ((getB (n:Int) E).2);rw[hk,a4];rw[a5]at O;have Y:Hid (getB (n:Int) E=(k,ys)/\getE (n:Int) E=ec):=⟨by rw[<-hk,<-a5],a4⟩
 have T:=za0 (Q.o.trans (a3.mono Q.o.size));have A:=za0 (Q2.o.below a3);have R3:=za0 O;have N3:=za0 aa;obtain⟨a',m',a0,rfl⟩:∃a m cap,u=.slice a m cap:=by obtain⟨a,c,e,_⟩:=O;exact⟨_,_,_,e⟩
 have q0:=A.o.c0;have q1:=A.o.c1;have f0:=A.o.fz 0;have f1:=A.o.fz 1;obtain⟨W4,a8⟩:=exN ((w3.setCell ⟨w.heap.size,0,none⟩ (.int .i64 k)).setCell ⟨w.heap.size,1,none⟩ (.slice a' m' a0));have Q4:Hid (Bkv W4 w.heap.size k (.slice a' m' a0)):=by rw[<-a8];exact A.o.put k _
 have T4:Hid (Tch (λ j=>j=w.heap.size) w3 W4):=by rw[<-a8];exact(zo9 w3 _ 0 _).trans (zo9 _ _ 1 _) (λ _ _ e=>e)
 have B4:=za0 (T.o.trans (T4.o.below T.o.size (λ j e=>by omega)));have a7:=za0 Q2.o.lt;have R4:=za0 (R3.o.tch T4.o (λ j hj e=>by have:=N3.o j hj;have:=a7.o;omega));have ab:=zb0 Q4.o.load;clear O a3 aa hk a4 a5 HG Q2 Q A T R3 T4;unfold blk;go_wp2_with fail;refine bodyPost_ret (v:=.tuple #[blk k (.slice a' m' a0),.int .i64 ec]) (zk9 (p:=4) (ty:=63) rfl _ _ _ w.heap.size _ _ rfl ab.o rfl) rfl ?_;refine⟨_,by rw[Y.o.1,Y.o.2],by rw[Y.o.1];exact R4.o,B4.o,λ j hj=>zn2 (Nat.le_of_lt a7.o) (N3.o j hj)⟩
def zqa9{S:Nat->Prop}{c d:Nat}{D:DS}(n:Nat)(k:Int)(v:Value)(ys:List Int)(w:World)(hc:w.cell? ⟨c,0,none⟩=some (dp d))(hd:Dk S w d D)(hn:n<D.L.length)(hm:mayK (n:Int) k ys.length=true)(hr:Rd .u8 w v ys)(H:By ys)(a6:¬S c)(hV:∀i,(D.V i).length<274877906943):
 Calls Tryz.prog 69 #[cp c,.int .i64 (n:Int),blk k v] w λ e w'=>e=.returned (.int .i64 0)/\DkTo S w w' d (D.wr n (sec (n:Int) k ys)):=by
 have a2:=ze0 w ⟨c,0,none⟩ hc;obtain⟨T,a0⟩:=exN (w.alloc (.cells #[.int .i64 k,v] 63));have E:Hid (Below w.heap.size w T):=by rw[<-a0];exact(Below.refl _ _).alloc (zn6 _) _
 have Q:Hid (Bkv T w.heap.size k v):=by rw[<-a0];exact zz9 w _ _
 have K:=zb0 (zoq9 (n:Int) k v ys T (hr.below E.o) H);have HC:Hid (∀W,Below w.heap.size w W->W.cell? ⟨c,0,none⟩=some (dp d)):=λ W H=>by rw[Tch.cell (Tch.of_below (S:=λ _=>False) H) (p:=⟨c,0,none⟩) a2 (λ e=>e)];exact hc
 have HD:=za0 hd;obtain⟨m1,m2,m3,m4,m5⟩:=zw9.1 hm;have A:Hid (mayK (n:Int) k ys.length=true/\(sec (n:Int) k ys).length=256/\By (sec (n:Int) k ys)/\n<D.L.length/\∀i,(D.V i).length<274877906943):=⟨hm,zhn9 _ _ (by omega),sec_by ⟨m1,m2⟩ ⟨m3,m4⟩ H (by omega),hn,hV⟩
 have q0:=Q.o.c0;have q1:=Q.o.c1;obtain⟨a,m,cap,rfl⟩:∃a m cap,v=.slice a m cap:=by obtain⟨a,c,e,_⟩:=hr;exact⟨_,_,_,e⟩
 clear hr H hm hn hV hd hc a2 m1 m2 m3 m4 m5;unfold blk at K |-
 go_enter Tryz.func69,Tryz.ntmps69
 go_wp2_with fail;refine K.o.mono ?_;rintro e w2 ⟨u,ec,rfl,a1,a3,a5⟩;rcases a5 with⟨_,rfl,a4,g,rfl⟩|⟨h0,_⟩
 .have I:=za0 (E.o.trans (a1.mono E.o.size));have c2:=HC.o w2 I.o;have D2:=za0 (HD.o.below I.o);have O:=zb0 (zsf9 (n:Int) (.slice (some ⟨g,0,none⟩) 256 256) (sec (n:Int) k ys) w2 D2.o a4.rd A.o.2.2.1 (λ j hj e=>by
   have h1:=a3 j hj;have h2:=HD.o.slt j e;have Y:=E.o.size;omega) A.o.2.2.2.2)
  have e1:wco D (n:Int) (sec (n:Int) k ys).length=0:=by unfold wco;rw[if_neg (by have:=A.o.2.2.2.1;omega),if_pos A.o.2.1]
  have e2:wrr D (n:Int) (sec (n:Int) k ys)=D.wr n (sec (n:Int) k ys):=by unfold wrr;rw[if_neg (by have:=A.o.2.2.2.1;omega),if_pos A.o.2.1];rfl
  rw[e1,e2]at O;clear e1 e2 a1 a3 a4 K a0 q0 q1 E Q;go_wp2_with fail;refine O.o.mono ?_;rintro e w3 ⟨rfl,Y⟩;have HR:=za0 (DkTo.trans D2.o (Tch.of_below I.o) (λ k hk=>.inl hk) Y);clear Y O;go_wp2_with fail;go_ret;exact⟨rfl,HR.o⟩
 .rw[A.o.1]at h0;cases h0
def CS.new(room:Nat):CS:=⟨room,λ _=>(0,[]),[],[]⟩
def zyc9(d N A:Nat)(w:World)(I:1<=A)(K:A<=1024)(O:N<=4096):Calls Tryz.prog 34 #[dp d,.int .i64 (A:Int)] w λ e w'=>
 ∃c X,e=.returned (.tuple #[cp c,.int .i64 0])/\Ch X w' c d N (CS.new A)/\Below w.heap.size w w'/\∀k,X k->w.heap.size<=k:=by
 have a1:=@run_makeMap Tryz.prog;have ha:decide ((A:Int)<1)=false:=by rw[zn4];omega
 have T:decide ((A:Int) > 1024)=false:=by rw[zn4];omega
 have Y:decide ((1024:Int)<(A:Int))=false:=by rw[zn4];omega
 have a0:decide (1024<A)=false:=by rw[zn4];omega
 go_enter Tryz.func34,Tryz.ntmps34
 go_wp2_with fail;go_ret2;have H:Mp (w.alloc (.map #[] 0)) w.heap.size N (λ _=>none):=mp_of (World.ownsMap_made w _ _ _) (by rw[zcl9 (λ _ _=>rfl)]);have Q:(w.alloc (.map #[] 0)).heap.size=w.heap.size+1:=by simp
 refine⟨w.heap.size+1,λ k=>w.heap.size<=k/\k<w.heap.size+2,by first|rfl|simp,⟨w.heap.size,.slice none 0 0,λ _=>.slice none 0 0,?_⟩,?_,λ k E=>E.1⟩
 .exact{
   n2:=O
   box:=by rw[<-Q];exact heap_alloc_new _ _
   map:=by refine Mp.congr (g:=λ _=>none) (H.tch (S:=λ _=>False) (Tch.of_below ((Below.refl _ _).alloc (zn6 _) _)) (λ e=>e)) (λ i _=>?_);simp[kg,CS.new]
   ord:=zdv9 _ _ _
   bod:=λ n u=>by simp[CS.new]at u
   bap:=λ n u=>by simp[CS.new]at u
   ok:=⟨I,K,List.Pairwise.nil,List.nodup_nil,λ n u=>by simp[CS.new]at u,λ n u=>by simp[CS.new]at u,λ n u=>by simp[CS.new]at u,λ n u=>by simp[CS.new]at u⟩
   xc:=⟨by omega,by omega⟩
   xm:=⟨by omega,by omega⟩
   xa:=λ k E=>by cases E
   xlt:=λ k E=>by simp;exact E.2 }
 .exact((Below.refl _ _).alloc (zn6 _) _).alloc (by simp) _
def CS.kp(s:CS)(n:Nat)(x:Int×List Int):CS:={ s with B:=bput s.B n x,d:=kwo s.d n,c:=kwo s.c n++[n] }
def COk.kp{N:Nat}{s:CS}(h:COk N s){n:Nat}{x:Int×List Int}(Q:50<=n/\n<N)(u:mayK (n:Int) x.1 x.2.length=true)(I:By x.2):COk N (s.kp n x):=by
 have H:∀m,m∈kwo s.c n++[n]->m=n\/(m∈s.c/\m≠n):=λ m u=>by
  rcases zi0.1 u with e|e
  .exact .inr ⟨(zi9.1 e).1,λ A=>(zi9.1 e).2 (by omega)⟩
  .exact .inl (by simpa using e)
 exact{
  r1:=h.r1
  r2:=h.r2
  dr:=zhe9 _ h.dr
  cn:=zjc9 h.cn
  ap:=λ m u K=>by
   rcases H m K with e|e
   .exact(zi9.1 u).2 (by omega)
   .exact h.ap m (zi9.1 u).1 e.1
  dl:=λ m u=>h.dl m (zi9.1 u).1
  cl:=λ m u=>by
   rcases H m u with e|e
   .rw[e];exact Q
   .exact h.cl m e.1
  may:=λ m O=>by
   show mayK (m:Int) (bput s.B n x m).1 (bput s.B n x m).2.length=true/\By (bput s.B n x m).2;by_cases e:m=n
   .subst e;rw[zdc9];exact⟨u,I⟩
   .rw[zbq9 _ _ e];refine h.may m (O.imp (λ A=>(zi9.1 A).1) (λ A=>?_));rcases H m A with E|E
    .exact absurd E e
    .exact E.1 }
def zxu9{s:CS}{n:Nat}{x:Int×List Int}(h:¬s.rm<(kwo s.c n).length+1):s.kp n x=s.keep n x:=by unfold CS.kp CS.keep kask;rw[if_neg h]
def zrg9{N:Nat}{s:CS}(u:COk N s){n:Nat}{x:Int×List Int}(h:s.rm<(kwo s.c n).length+1):∃m,(kwo s.c n++[n]).head?=some m/\(s.kp n x).forget (m:Int)=s.keep n x:=by
 obtain⟨m,A,E,H⟩:=zrb9 u.cn h u.r1;refine⟨m,A,?_⟩;unfold CS.forget CS.kp CS.keep;simp only;rw[H,zjr9 (l:=kwo s.d n) (n:=(m:Int))];intro a ha e;have e:a=m:=by omega
 subst e;have I:=List.mem_of_mem_head? A;rcases zi0.1 I with e|e
 .exact u.ap a (zi9.1 ha).1 (zi9.1 e).1
 .exact E (by simpa using e)
def vputK(V:Nat->Value)(n:Nat)(v:Value)(m:Nat):Value:=if m=n then v else V m
def kg_kp(s:CS)(V:Nat->Value)(n:Nat)(k:Int)(ys:List Int)(v:Value):gput (kg s V) n (some (hent k v false))=kg (s.kp n (k,ys)) (vputK V n v):=by
 funext i;unfold gput kg CS.kp vputK bput;simp only[zi9,zi0,List.mem_singleton];by_cases e:i=n
 .subst e;simp
 .have:(i:Int)≠(n:Int):=by omega
  simp[e,this]
def zma9{A:Array Oper}{E:List Oper}{o:Oper}{a:Act}{w:World}{Q:Exit->Act->World->Prop}(Y:o.guard=none)(m x v:Operand)(ho:o.op=.mapUpdate 128 m x v)
 (u N:Nat) (g:Nat->Option Value) (i:Nat) (val:Value) (hm:a.eval m=.map (some u)) (hx:a.eval x=.int .i64 (i:Int)) (hv:a.eval v=val) (T:Mp w u N g) (hi:i<N) (hn:N<=4096) (h:∀w',Mp w' u N (gput g i (some val))->Tch (λ k=>k=u) w w'->wpList Tryz.prog A Q E (a.put o.dst undef) w'):wpList Tryz.prog A Q (o::E) a w:=by
 obtain⟨w',hr,H,I⟩:=T.putH hi hn val;refine wpList_plain Y λ K O=>?_;unfold Oper.wp;simp[execOp,ho,hm,hx,hv,hr,Result.andThen];exact O _ _ (h w' H I)
def elemI:Elem Tryz.prog 56 3 .i64 8:=⟨Tryz.underlying56,info_parts (z:=.int .i64 0) (size:=1) (bytes:=8) (by kernel_rfl)⟩
def zig9{X:Nat->Prop}{c d N:Nat}{s:CS}{A:Nat}{T:Value}{V:Nat->Value}(n:Nat)(k:Int)(v:Value)(ys:List Int)(w:World)(h:ChAt X w c d N s A T V)(hn:50<=n/\n<N)(hm:mayK (n:Int) k ys.length=true)(hb:By ys)(hr:Rd .u8 w v ys)
 (hv:∀j,v.ownBlock=some j->ys≠[]->X j/\j≠c/\j≠A/\T.ownBlock≠some j):
 Calls Tryz.prog 70 #[cp c,.int .i64 (n:Int),blk k v] w λ e w'=>e=.returned (.tuple #[])/\ChTo X w w' c d N (s.keep n (k,ys))/\Rd .u8 w' v ys:=by
 have H:=za0 h;have HY:Hid ((50<=n/\n<N)/\mayK (n:Int) k ys.length=true/\By ys):=⟨hn,hm,hb⟩
 have HV:=za0 hv;have ax:=za0 hr;obtain⟨W1,a8⟩:=exN (w.alloc (.cells #[.int .i64 k,v] 63));have B1:Hid (Below w.heap.size w W1):=by rw[<-a8];exact(Below.refl _ _).alloc (zn6 _) _
 have Q1:Hid (Bkv W1 w.heap.size k v):=by rw[<-a8];exact zz9 w _ _
 have H1:=za0 (h.tch (R:=λ _=>False) (Tch.of_below B1.o) (λ _ _ e=>e));have HL:=zb0 (zfz9 (n:Int) W1 H1.o.box H1.o.ord H1.o.ok.cn (by have:=h.ok.cle;have:=h.n2;omega));have b5:(n:Int)<4096:=by have:=h.n2;omega
 obtain⟨a,m,cap,rfl⟩:∃a m cap,v=.slice a m cap:=by obtain⟨a,c,e,_⟩:=hr;exact⟨_,_,_,e⟩
 clear h hn hm hb hr hv;unfold blk
 go_enter Tryz.func70,Tryz.ntmps70
 go_wp2_with fail;refine HL.o.mono ?_;rintro e w2 ⟨rfl,a0,aa,ao,aq,ac⟩;have a7:=za0 aa;have ae:=za0 ao;have a1:=za0 aq;have T2:Hid (Tch (λ k=>k=c\/T.ownBlock=some k) w w2):=(Tch.of_below B1.o).trans ac (λ _ _ e=>e);have M2:Hid (Mp w2 A N (kg s V)):=H.o.map.tch T2.o (λ e=>by
  rcases e with e|e
  .exact H.o.ne_mb e.symm
  .exact H.o.av_mb e)
 have Q2:Hid (Bkv w2 w.heap.size k (.slice a m cap)):=Q1.o.tch ac (λ e=>by
  rcases e with e|e
  .have:=H.o.lt;omega
  .have:=H.o.xlt _ (H.o.xa _ e);omega)
 have c2:w2.cell? ⟨c,2,none⟩=some (.map (some A)):=by rw[cell_of_row w2 c 2 _ _ (0,0) aa];rfl
 have q0:=Q2.o.c0;have q1:=Q2.o.c1;have LD:=Q2.o.load;clear aa ao aq ac HL H1 Q1 a8;go_wp2_with fail;refine wp_region_still_tail 7 (by kernel_rfl) (by kernel_rfl) ?_;simp only[List.take_succ_cons,List.take_zero,List.drop_succ_cons,List.drop_zero]
 repeat still_step
 refine wpStill_nil ?_;change wpList _ _ _ _ _ w2.drew;have MD:=za0 (M2.o.tch (S:=λ _=>False) ⟨rfl,rfl,rfl,zn6 _,λ _ _ _=>rfl⟩ (λ e=>e));refine zma9 rfl (.tmp 12) (.tmp 13) (.tmp 15) rfl A N (kg s V) n (hent k (.slice a m cap) false) (by kernel_rfl) (by kernel_rfl) (by kernel_rfl) MD.o HY.o.1.2 H.o.n2 ?_;intro w3 m3 t3;have T3:Hid (Tch (λ k=>k=c\/T.ownBlock=some k\/k=A) w w3):=((T2.o.drew).mono (S':=λ k=>k=c\/T.ownBlock=some k\/k=A) (λ k _ e=>e.imp id .inl)).trans t3 (λ k _ e=>.inr (.inr e));have M3:=za0 m3;have a2:Hid (w3.heap[c]?=some (.cells #[dp d,.int .i64 (s.rm:Int),.map (some A),a0] 130 (0,0))):=by rw[t3.block c (zd0.1 a7.o).1 H.o.ne_mb];exact a7.o
 have af:Hid (OwnsK w3 a0 ((kwo s.c n).map Int.ofNat)):=(ae.o.tch (S:=λ _=>False) (w':=w2.drew) ⟨rfl,rfl,rfl,zn6 _,λ _ _ _=>rfl⟩ (λ _ _ e=>e)).tch t3 (λ k I e=>H.o.av_mb (by rw[a1.o]at I;rw[<-e];exact I));have ad:Hid (((kwo s.c n).map Int.ofNat).length<=100000):=by show _<=_;rw[zb1];have h1:=zxw9 s.c n;have h2:=H.o.ok.cle;have h3:=H.o.n2;omega
 have c3:w3.cell? ⟨c,3,none⟩=some a0:=by rw[cell_of_row w3 c 3 _ _ (0,0) a2.o];rfl
 clear m3 t3 MD M2 T2 a7 ae Q2 c2 q0 q1 LD B1;go_wp2_with(at_builtin;refine zcv9 _ rfl (.tmp 20) (.tmp 22) 56 rfl 3 .i64 8 elemI _ ((kwo s.c n).map Int.ofNat) rfl af.o (n:Int) rfl (by have:=ad.o;omega) (by have:=ad.o;omega) ?_)
 intro Y E o4 g4;have T4:Hid (Tch (λ k=>k=c\/T.ownBlock=some k\/k=A) w E):=T3.o.trans g4.tch (λ k _ e=>.inr (.inl (by rw[<-a1.o];exact e)));have an:a0.ownBlock≠some c:=λ e=>H.o.av_c (by rw[<-a1.o];exact e);have a3:Hid (E.heap[c]?=some (.cells #[dp d,.int .i64 (s.rm:Int),.map (some A),a0] 130 (0,0))):=by rw[g4.tch.block c (zd0.1 a2.o).1 an];exact a2.o
 have M4:Hid (Mp E A N (gput (kg s V) n (some (hent k (.slice a m cap) false)))):=M3.o.tch g4.tch (λ e=>H.o.av_mb (by rw[<-a1.o];exact e));have F4:Hid (∀k,Y.ownBlock=some k->T.ownBlock=some k\/w.heap.size<=k):=λ k I=>by
  rcases g4.fresh k I with e|e
  .exact .inl (by rw[<-a1.o];exact e)
  .exact .inr (zn2 T3.o.size e)
 have d3:E.cell? ⟨c,3,none⟩=some a0:=by rw[cell_of_row E c 3 _ _ (0,0) a3.o];rfl
 have f3:E.frozen? ⟨c,3,none⟩=false:=frozen_of_row E c 3 _ _ a3.o;have O4:Hid (OwnsK E Y (((kwo s.c n)++[n]).map Int.ofNat)):=by rw[zi1];exact o4
 obtain⟨u,a5⟩:=exN (E.setCell ⟨c,3,none⟩ Y);have ag:Hid (ChAt (λ k=>X k\/(w.heap.size<=k/\k<u.heap.size)) u c d N (s.kp n (k,ys)) A Y (vputK V n (.slice a m cap))/\Tch X w u/\Rd .u8 u (.slice a m cap) ys):=by
  have ts:Tch (λ k=>k=c) E u:=by rw[<-a5];exact zo9 E c 3 Y
  have vc:Y.ownBlock≠some c:=λ e=>by
   rcases F4.o c e with e|e
   .exact H.o.av_c e
   .have:=H.o.lt;omega
  have TT:=T4.o.trans ts (λ k _ e=>.inl e);have RR:Rd .u8 u (.slice a m cap) ys:=ax.o.tch0 TT (λ i hi h0 e=>by
   obtain⟨_,p1,p2,p3⟩:=HV.o i hi h0;rcases e with e|e|e
   .exact p1 e
   .exact p3 e
   .exact p2 e)
  refine⟨H.o.turnAt (V':=vputK V n (.slice a m cap)) (av':=Y) (s':=s.kp n (k,ys)) TT ?_ ?_ ?_ F4.o (H.o.ok.kp HY.o.1 HY.o.2.1 HY.o.2.2) (λ j hj=>?_),H.o.own_tch TT,RR⟩
  .rw[<-a5,heap_setCell_same E c 3 _ _ _ a3.o];rfl
  .rw[<-kg_kp];exact M4.o.tch ts (λ e=>H.o.ne_mb e.symm)
  .exact O4.o.tch ts (λ k I e=>vc (by rw[<-e];exact I))
  .by_cases e:j=n
   .subst e;(have e1:vputK V j (.slice a m cap) j=.slice a m cap:=by simp[vputK]);(have e2:((s.kp j (k,ys)).B j)=(k,ys):=by show bput s.B j (k,ys) j=_;simp[bput]);rw[e1,e2];refine .inr ⟨RR,λ i hi h0=>?_⟩
    .obtain⟨p0,p1,p2,p3⟩:=HV.o i hi h0;refine⟨.inl p0,p1,p2,λ e=>?_⟩;rcases F4.o i e with e|e
     .exact p3 e
     .have:=H.o.xlt i p0;omega
   .refine .inl ⟨?_,by simp[vputK,e],by show bput s.B n (k,ys) j=_;simp[bput,e]⟩;rcases hj with hj|hj
    .exact .inl (zi9.1 hj).1
    .rcases zi0.1 hj with e2|e2
     .exact .inr (zi9.1 e2).1
     .exact absurd (by simpa using e2) e
 obtain⟨va,vl,ar,rfl⟩:∃a l c,Y=.slice a l c:=by obtain⟨a,c,e,_⟩:=o4.rd;exact⟨_,_,_,e⟩
 obtain⟨h5,T5,R5⟩:=ag.o;obtain⟨X5,a9⟩:∃X5:Nat->Prop,(λ k=>X k\/(w.heap.size<=k/\k<u.heap.size))=X5:=⟨_,rfl⟩
 have ak:∀k,X5 k->X k\/w.heap.size<=k:=λ k I=>by rw[<-a9]at I;exact I.imp id (λ e=>e.1)
 obtain⟨V5,aj⟩:=exN (vputK V n (.slice a m cap));have au:Hid (∀k,(Value.slice va vl ar).ownBlock=some k->T.ownBlock=some k\/w.heap.size<=k):=F4;rw[a9,aj]at h5;have H5:Hid (ChAt X5 u c d N (s.kp n (k,ys)) A (.slice va vl ar) V5):=h5;have ah:Hid (Rd .u8 u (.slice a m cap) ys):=R5;clear a9 aj R5;obtain⟨g5,ai,ap,_,ay,K,al,_⟩:=h5.ord.shape (by simp[CS.kp]);have ab:((s.kp n (k,ys)).c.map Int.ofNat).length=(kwo s.c n).length+1:=by simp[CS.kp]
 obtain⟨L,hL⟩:=exH ((kwo s.c n).length+1);rw[ab,hL.o]at ay;have x3:=h5.c3;rw[ap]at x3;have x1:u.cell? ⟨c,1,none⟩=some (.int .i64 (s.rm:Int)):=h5.c1;rw[ab,hL.o]at x3;have b4:ai<=9223372036854775807:=by unfold maxLen at K;omega
 have b3:0<L:=by rw[<-hL.o];omega
 have y0:=al 0 (by simp[CS.kp]);have a4:Hid (Tch X w u/\∀k,X5 k->X k\/w.heap.size<=k):=⟨T5,ak⟩
 have b6:(s.rm:Int)<=1024:=by have:=H.o.ok.r2;omega
 clear o4 g4 T4 a3 M4 F4 O4 ag T3 M3 a2 af c3 T5 ak h5 al ab K an ap;by_cases a6:s.rm<L
 .obtain⟨m5,K,am⟩:=zrg9 H.o.ok (n:=n) (x:=(k,ys)) (by rw[hL.o];exact a6);have ym:((s.kp n (k,ys)).c.map Int.ofNat).getD 0 0=(m5:Int):=by
   show(((kwo s.c n)++[n]).map Int.ofNat).getD 0 0=_;cases e:kwo s.c n++[n]with
   | nil=>rw[e]at K;cases K
   | cons a r=>rw[e]at K;simp at K;subst K;rfl
  rw[ym]at y0;have az:m5<4096:=by have h1:m5∈(s.kp n (k,ys)).c:=List.mem_of_mem_head? K;have h2:=(H5.o.ok.cl m5 h1).2;have h3:=H.o.n2;omega
  have av:Hid ((s.kp n (k,ys)).forget (m5:Int)=s.keep n (k,ys)):=am;have b1:(L:Int) > (s.rm:Int):=by omega
  have b0:Hid ((Lit.int .i64 (m5:Int)).wf=true):=by simp[Hid,Lit.wf,IntKind.min,IntKind.max,IntKind.signed,IntKind.bits];omega
  clear K am ym az;go_wp2_with fail;go_quiet (fail);obtain⟨O,Q⟩:=exH (u.drewN nq);rw[Q.o];have T6:Hid (Tch (λ _=>False) u O):=by rw[<-Q.o];exact⟨rfl,rfl,rfl,zn6 _,λ _ _ _=>rfl⟩
  have H6:=zb0 (H5.o.tch T6.o (λ _ _ e=>e));have z3:O.cell? ⟨c,3,none⟩=some (.slice (some ⟨g5,0,none⟩) L ai):=by rw[<-Q.o];exact x3
  have z0:O.cell? ⟨g5,0,none⟩=some (.int .i64 (m5:Int)):=by rw[<-Q.o];exact y0
  have HF:=zb0 (zjk9 (m5:Int) O H6.o b0.o);rw[av.o]at HF;have TT:Hid (Tch X w O):=a4.o.1.trans T6.o (λ _ _ e=>e.elim);clear x3 x1 y0 H5 Q a5;go_wp2_with fail;refine HF.o.mono ?_;rintro e w7 ⟨rfl,b2,h7,t7⟩;have HR:Hid (ChTo X w w7 c d N (s.keep n (k,ys))/\Rd .u8 w7 (.slice a m cap) ys):=by
   refine⟨ChTo.after TT.o a4.o.2 ⟨_,⟨_,_,_,h7⟩,H6.o.own_tch t7,λ k I=>I.imp id (λ e=>e.1)⟩,?_⟩;refine(ah.o.tch T6.o (λ _ _ e=>e)).tch0 t7 (λ i hi h0 e=>?_);obtain⟨p0,p1,p2,p3⟩:=HV.o i hi h0;rcases e with e|e|e
   .exact p1 e
   .rcases au.o i e with e|e
    .exact p3 e
    .have:=H.o.xlt i p0;omega
   .exact p2 e
  clear h7 t7 HF;go_wp2_with fail
  go_end0
  exact⟨rfl,HR.o⟩
 .have b1:decide (s.rm<L)=false:=by rw[zn4];exact a6
  have aw:Hid (s.kp n (k,ys)=s.keep n (k,ys)):=zxu9 (by rw[hL.o];exact a6);clear a6;go_wp2_with fail;go_quiet (fail);obtain⟨O,Q⟩:=exH (u.drewN nq);rw[Q.o];have T6:Hid (Tch (λ _=>False) u O):=by rw[<-Q.o];exact⟨rfl,rfl,rfl,zn6 _,λ _ _ _=>rfl⟩
  have H6:=zb0 (H5.o.tch T6.o (λ _ _ e=>e));have HR:Hid (ChTo X w O c d N (s.keep n (k,ys))/\Rd .u8 O (.slice a m cap) ys):=by refine⟨?_,ah.o.tch T6.o (λ _ _ e=>e)⟩;rw[<-aw.o];exact⟨X5,⟨_,_,_,H6.o⟩,a4.o.1.trans T6.o (λ _ _ e=>e.elim),a4.o.2⟩
  clear x3 x1 y0 H5 Q a5 H6;go_wp2_with fail
  go_end0
  exact⟨rfl,HR.o⟩
def kg_lay(s:CS)(V:Nat->Value)(n:Nat)(k:Int)(ys:List Int)(v:Value):gput (kg s V) n (some (hent k v true))=kg (s.lay n (k,ys)) (vputK V n v):=by
 funext i;unfold gput kg CS.lay vputK bput;simp only[zi9,zbw9];by_cases e:i=n
 .subst e;simp
 .have:(i:Int)≠(n:Int):=by omega
  simp[e,this]
def zyj9{X S:Nat->Prop}{c d N:Nat}{s:CS}{D:DS}(n:Nat)(k:Int)(v:Value)(ys:List Int)(w:World)(hC:Ch X w c d N s)(hD:Dk S w d D)(hN:D.L.length=N)(hr:Rd .u8 w v ys)(hb:By ys)(hv:∀j,v.ownBlock=some j->ys≠[]->¬X j)
 (hn:50<=n/\n<N) (hm:mayK (n:Int) k ys.length=true):
 Calls Tryz.prog 27 #[cp c,.int .i64 (n:Int),blk k v] w λ e w'=>e=.returned (.int .i64 0)/\ChTo X w w' c d N (s.lay n (k,ys)):=by
 obtain⟨O,av,V,h⟩:=hC;have H:=za0 h;have HY:Hid ((50<=n/\n<N)/\mayK (n:Int) k ys.length=true/\By ys):=⟨hn,hm,hb⟩
 have HV:=za0 hv;have ag:=za0 hr;obtain⟨W1,a5⟩:=exN (w.alloc (.cells #[.int .i64 k,v] 63));have Q:Hid (Below w.heap.size w W1):=by rw[<-a5];exact(Below.refl _ _).alloc (zn6 _) _
 have Q1:Hid (Bkv W1 w.heap.size k v):=by rw[<-a5];exact zz9 w _ _
 have H1:=za0 (h.tch (R:=λ _=>False) (Tch.of_below Q.o) (λ _ _ e=>e));have HT:=zb0 (zag9 (n:Int) W1 H1.o.c0 (hD.below Q.o));have et:kthere D.L.length (n:Int)=true:=zm9.2 (by omega);rw[et]at HT;have HP:=zb0 (zoq9 (n:Int) k v ys W1 (hr.below Q.o) hb);obtain⟨a,m,cap,rfl⟩:∃a m cap,v=.slice a m cap:=by obtain⟨a,c,e,_⟩:=hr;exact⟨_,_,_,e⟩
 have q0:=Q1.o.c0;have q1:=Q1.o.c1;have ap:(n:Int)<4096:=by have:=h.n2;omega
 have ai:Hid (ys.length<=140737488355328):=by obtain⟨_,_,_,_,m5⟩:=zw9.1 hm;show _<=_;omega
 clear h hn hm hb hr hv hD hN et;unfold blk at HP |-
 go_enter Tryz.func27,Tryz.ntmps27
 go_wp2_with fail;refine HT.o.mono ?_;rintro e w' ⟨rfl,rfl⟩;clear HT;go_wp2_with fail;refine HP.o.mono ?_;rintro e w2 ⟨u,ec,rfl,a6,al,am⟩;rcases am with⟨_,rfl,ao,g,rfl⟩|⟨Y,_⟩
 .have B2:=za0 (Q.o.trans (a6.mono Q.o.size));have Q2:=za0 (Q1.o.below a6);have T:=za0 (H.o.tch (R:=λ _=>False) (Tch.of_below B2.o) (λ _ _ e=>e));have HL:=zb0 (zfz9 (n:Int) w2 T.o.box T.o.ord T.o.ok.cn (by have:=T.o.ok.cle;have:=T.o.n2;omega));clear a6 al ao HP a5 q0 q1 Q1 H1 Q;go_wp2_with fail;refine HL.o.mono ?_;rintro e A ⟨rfl,a3,a7,ac,ad,a8⟩;have a9:=za0 a7;have af:=za0 ac;have a2:=za0 ad;have T3:Hid (Tch (λ k=>k=c\/av.ownBlock=some k) w A):=(Tch.of_below B2.o).trans a8 (λ _ _ e=>e);have M3:Hid (Mp A O N (kg s V)):=H.o.map.tch T3.o (λ e=>by
   rcases e with e|e
   .exact H.o.ne_mb e.symm
   .exact H.o.av_mb e)
  have Q3:Hid (Bkv A w.heap.size k (.slice a m cap)):=Q2.o.tch a8 (λ e=>by
   rcases e with e|e
   .have:=H.o.lt;omega
   .have:=H.o.xlt _ (H.o.xa _ e);omega)
  have R3:Hid (Rd .u8 A (.slice a m cap) ys):=ag.o.tch0 T3.o (λ j K Y e=>by
   rcases e with e|e
   .exact HV.o j K Y (by rw[e];exact H.o.xc)
   .exact HV.o j K Y (H.o.xa j e))
  have c2:A.cell? ⟨c,2,none⟩=some (.map (some O)):=by rw[cell_of_row A c 2 _ _ (0,0) a7];rfl
  have q0:=Q3.o.c0;have q1:=Q3.o.c1;have aa:=zb0 (zjw9 k (.slice a m cap) ys A.drew (R3.o.tch (S:=λ _=>False) ⟨rfl,rfl,rfl,zn6 _,λ _ _ _=>rfl⟩ (λ _ _ e=>e)) ai.o);unfold blk at aa;have ah:Hid (∀E u,Nw A.drew.heap.size E u ys->Below A.drew.heap.size A.drew E->(E.cell? ⟨c,2,none⟩=some (.map (some O))/\E.cell? ⟨w.heap.size,0,none⟩=some (.int .i64 k)/\E.cell? ⟨w.heap.size,1,none⟩=some (.slice a m cap))/\
   ∃I,(Instr.mapUpdate 128 (.map (some O)) (.int .i64 (n:Int)) (.agg #[.int .i64 k,u,.bool true])).run Tryz.prog E=.ok () I/\(I.cell? ⟨c,2,none⟩=some (.map (some O))/\I.cell? ⟨w.heap.size,0,none⟩=some (.int .i64 k)/\I.cell? ⟨w.heap.size,1,none⟩=some (.slice a m cap))/\Hid (ChTo X w I c d N (s.lay n (k,ys)))):=λ E u hN hB=>by
   have a1:Tch (λ _=>False) A E:=Tch.trans (b:=A.drew) (S:=λ _=>False) (S':=λ _=>False) ⟨rfl,rfl,rfl,zn6 _,λ _ _ _=>rfl⟩ (Tch.of_below hB) (λ _ _ e=>e);(have b4:E.heap[c]?=some (.cells #[dp d,.int .i64 (s.rm:Int),.map (some O),a3] 130 (0,0)):=by rw[a1.block c (zd0.1 a9.o).1 (λ e=>e)];exact a9.o);have q4:=Q3.o.tch a1 (λ e=>e);obtain⟨I,an,m5,t5⟩:=(M3.o.tch a1 (λ e=>e)).putH HY.o.1.2 H.o.n2 (.agg #[.int .i64 k,u,.bool true]);(have b5:I.heap[c]?=some (.cells #[dp d,.int .i64 (s.rm:Int),.map (some O),a3] 130 (0,0)):=by rw[t5.block c (zd0.1 b4).1 H.o.ne_mb];exact b4);have q5:=q4.tch t5 (λ e=>by have:=H.o.xlt _ H.o.xm;omega)
   refine⟨⟨by rw[cell_of_row E c 2 _ _ (0,0) b4];rfl,q4.c0,q4.c1⟩,I,an,⟨by rw[cell_of_row I c 2 _ _ (0,0) b5];rfl,q5.c0,q5.c1⟩,?_⟩;have a0:∀j,u.ownBlock=some j->w.heap.size<=j:=λ j K=>zn2 T3.o.size (hN.new j K);refine H.o.turn (V':=vputK V n u) (av':=a3) (s':=s.lay n (k,ys)) (((T3.o.mono (S':=λ k=>k=c\/av.ownBlock=some k\/k=O) (λ k _ e=>e.imp id .inl)).trans a1 (λ _ _ e=>e.elim)).trans t5 (λ k _ e=>.inr (.inr e))) b5 (by rw[<-kg_lay];exact m5) ?_ (λ k hk=>.inl (by rw[<-a2.o];exact hk)) (H.o.ok.lay HY.o.1 HY.o.2.1 HY.o.2.2) (λ j K=>?_)
   .exact(af.o.tch a1 (λ _ _ e=>e)).tch t5 (λ k hk e=>H.o.av_mb (by rw[a2.o]at hk;rw[<-e];exact hk))
   .by_cases e:j=n
    .subst e;(have e1:vputK V j u j=u:=by simp[vputK]);(have e2:((s.lay j (k,ys)).B j)=(k,ys):=by show bput s.B j (k,ys) j=_;simp[bput]);rw[e1,e2];refine .inr ⟨hN.rd.tch t5 (λ i hi e=>?_),λ i hi Y=>⟨.inr (a0 i hi),?_,?_,λ e=>?_⟩⟩
     .have:=a0 i hi;have:=H.o.xlt _ H.o.xm;omega
     .have:=a0 i hi;have:=H.o.lt;omega
     .have:=a0 i hi;have:=H.o.xlt _ H.o.xm;omega
     .have h1:=a0 i hi;rw[a2.o]at e;have:=H.o.xlt i (H.o.xa i e);omega
    .refine .inl ⟨?_,by simp[vputK,e],by show bput s.B n (k,ys) j=_;simp[bput,e]⟩;rcases K with K|K
     .rcases zbw9.1 K with e2|e2
      .exact absurd e2 e
      .exact .inl e2
     .exact .inr (zi9.1 K).1
  have hS:A.drew.cell? ⟨c,2,none⟩=some (.map (some O))/\A.drew.cell? ⟨w.heap.size,0,none⟩=some (.int .i64 k)/\A.drew.cell? ⟨w.heap.size,1,none⟩=some (.slice a m cap):=⟨c2,q0,q1⟩
  clear a7 ac ad a8 HL T Q2 B2;go_wp2_with fail
  go_region_held3 (λ w'=>w'.cell? ⟨c,2,none⟩=some (.map (some O))/\w'.cell? ⟨w.heap.size,0,none⟩=some (.int .i64 k)/\w'.cell? ⟨w.heap.size,1,none⟩=some (.slice a m cap)) (first|go_keep|exact aj|exact ak)
   (first
    | (go_at_call 62;refine aa.o.mono ?_;rintro e E ⟨u,rfl,a4,ab⟩;obtain⟨aj,I,aq,ak,ae⟩:=ah.o E u a4 ab;obtain⟨ua,um,uc,rfl⟩:∃a m cap,u=.slice a m cap:=by{ obtain⟨a,c,e,_⟩:=a4.rd;exact⟨_,_,_,e⟩ };clear a4 ab))
  go_wp2_with fail;go_ret;exact⟨rfl,ae.o⟩
 .rw[HY.o.2.1]at Y;cases Y
def zoo9{X S:Nat->Prop}{c d N:Nat}{s:CS}{D:DS}(n:Int)(k:Int)(v:Value)(ys:List Int)(w:World)(T:Ch X w c d N s)(I:Dk S w d D)(K:D.L.length=N)(hr:Rd .u8 w v ys)(O:kthere N n=false):
 Calls Tryz.prog 27 #[cp c,.int .i64 n,blk k v] w λ e w'=>e=.returned (.int .i64 2)/\ChTo X w w' c d N s:=by
 obtain⟨mb,av,V,h⟩:=T;have H:=za0 h;obtain⟨E,Y⟩:=exN (w.alloc (.cells #[.int .i64 k,v] 63));have u:Hid (Below w.heap.size w E):=by rw[<-Y];exact(Below.refl _ _).alloc (zn6 _) _
 have Q:=za0 (h.tch (R:=λ _=>False) (Tch.of_below u.o) (λ _ _ e=>e));have A:=zb0 (zag9 n E Q.o.c0 (I.below u.o));rw[K,O]at A;obtain⟨a,m,cap,rfl⟩:∃a m cap,v=.slice a m cap:=by obtain⟨a,c,e,_⟩:=hr;exact⟨_,_,_,e⟩
 clear h O hr I K;unfold blk
 go_enter Tryz.func27,Tryz.ntmps27
 go_wp2_with fail;refine A.o.mono ?_;rintro e w' ⟨rfl,rfl⟩;go_wp2_with fail;go_ret;exact⟨rfl,Ch.to_below ⟨_,_,_,H.o⟩ u.o⟩
def zvl9{X S:Nat->Prop}{c d N:Nat}{s:CS}{D:DS}(n:Int)(k:Int)(v:Value)(ys:List Int)(w:World)(hC:Ch X w c d N s)(Y:Dk S w d D)(hN:D.L.length=N)(hr:Rd .u8 w v ys)(hb:By ys)(hn:kthere N n=true)(hm:mayK n k ys.length=false):
 Calls Tryz.prog 27 #[cp c,.int .i64 n,blk k v] w λ e w'=>e=.returned (.int .i64 1)/\ChTo X w w' c d N s:=by
 obtain⟨mb,av,V,h⟩:=hC;have H:=za0 h;obtain⟨E,O⟩:=exN (w.alloc (.cells #[.int .i64 k,v] 63));have A:Hid (Below w.heap.size w E):=by rw[<-O];exact(Below.refl _ _).alloc (zn6 _) _
 have Q:Hid (Bkv E w.heap.size k v):=by rw[<-O];exact zz9 w _ _
 have H1:=za0 (h.tch (R:=λ _=>False) (Tch.of_below A.o) (λ _ _ e=>e));have K:=zb0 (zag9 n E H1.o.c0 (Y.below A.o));rw[hN,hn]at K;have I:=zb0 (zoq9 n k v ys E (hr.below A.o) hb);have HM:=za0 hm;have q0:=Q.o.c0;have q1:=Q.o.c1;obtain⟨a,m,cap,rfl⟩:∃a m cap,v=.slice a m cap:=by obtain⟨a,c,e,_⟩:=hr;exact⟨_,_,_,e⟩
 clear h hn hr Y hN hm hb;unfold blk at I |-
 go_enter Tryz.func27,Tryz.ntmps27
 go_wp2_with fail;refine K.o.mono ?_;rintro e w' ⟨rfl,rfl⟩;clear K;go_wp2_with fail;refine I.o.mono ?_;rintro e w2 ⟨u,ec,rfl,a0,a1,a2⟩;rcases a2 with⟨T,_⟩|⟨_,rfl,rfl⟩
 .rw[HM.o]at T;cases T
 .have B2:=za0 (A.o.trans (a0.mono A.o.size));clear a0 a1 I q0 q1 O;go_wp2_with fail;go_ret;exact⟨rfl,Ch.to_below ⟨_,_,_,H.o⟩ B2.o⟩
def zvk9{X S:Nat->Prop}{c d N:Nat}{s:CS}{D:DS}(n:Int)(k:Int)(v:Value)(ys:List Int)(w:World)(u:Ch X w c d N s)(A:Dk S w d D)(E:D.L.length=N)(hr:Rd .u8 w v ys)(H:By ys)(hv:∀j,v.ownBlock=some j->ys≠[]->¬X j):
 Calls Tryz.prog 27 #[cp c,.int .i64 n,blk k v] w λ e w'=>e=.returned (.int .i64 (s.putE N n k ys))/\ChTo X w w' c d N (s.putS N n k ys):=by
 unfold CS.putS CS.putE;cases h1:kthere N n with
 | false=>simp only[Bool.false_eq_true,if_false];rw[if_neg (by decide)];exact zoo9 n k v ys w u A E hr h1
 | true=>
  cases h2:mayK n k ys.length with
  | false=>simp only[Bool.false_eq_true,if_false,if_true];rw[if_neg (by decide)];exact zvl9 n k v ys w u A E hr H h1 h2
  | true=>
   simp only[if_true];obtain⟨i,rfl⟩:∃i:Nat,n=(i:Int):=⟨n.toNat,by have:=(zm9.1 h1).1;omega⟩
   exact zyj9 i k v ys w u A E hr H hv (by have:=zm9.1 h1;omega) h2
def Hkv(w:World)(b:Nat)(k:Int)(v:Value)(y:Bool):Prop:=w.heap[b]?=some (.cells #[.int .i64 k,v,.bool y] 127 (0,0))
section
variable {w w':World} {b:Nat} {k:Int} {v:Value} {y:Bool}
def Hkv.c0(h:Hkv w b k v y):w.cell? ⟨b,0,none⟩=some (.int .i64 k):=by rw[cell_of_row w b 0 _ _ (0,0) h];rfl
def Hkv.c1(h:Hkv w b k v y):w.cell? ⟨b,1,none⟩=some v:=by rw[cell_of_row w b 1 _ _ (0,0) h];rfl
def Hkv.c2(h:Hkv w b k v y):w.cell? ⟨b,2,none⟩=some (.bool y):=by rw[cell_of_row w b 2 _ _ (0,0) h];rfl
def Hkv.fz(h:Hkv w b k v y)(i:Nat):w.frozen? ⟨b,i,none⟩=false:=frozen_of_row w b i _ _ h
def Hkv.lt(h:Hkv w b k v y):b<w.heap.size:=(zd0.1 h).1
def Hkv.tch{S:Nat->Prop}(h:Hkv w b k v y)(A:Tch S w w')(u:¬S b):Hkv w' b k v y:=by unfold Hkv;rw[A.block b h.lt u];exact h
def Hkv.below(h:Hkv w b k v y)(u:Below w.heap.size w w'):Hkv w' b k v y:=h.tch (S:=λ _=>False) (Tch.of_below u) (λ e=>e)
def zjn9(w:World)(k:Int)(v:Value)(y:Bool):Hkv (w.alloc (.cells #[.int .i64 k,v,.bool y] 127)) w.heap.size k v y:=heap_alloc_new w _
end
def znf9{X S:Nat->Prop}{c d N:Nat}{s:CS}{D:DS}(n:Int)(w:World)(hC:Ch X w c d N s)(Q:Dk S w d D)(T:D.L.length=N)(hn:kthere N n=false):
 Calls Tryz.prog 47 #[cp c,.int .i64 n] w λ e w'=>e=.returned (.tuple #[blk 0 (.slice none 0 0),.int .i64 2])/\ChTo X w w' c d N s:=by
 obtain⟨mb,av,V,h⟩:=hC;have H:=za0 h;obtain⟨u,K⟩:=exN (w.alloc (.cells #[.int .i64 0,.slice none 0 0] 63));have E:Hid (Below w.heap.size w u):=by rw[<-K];exact(Below.refl _ _).alloc (zn6 _) _
 have A:Hid (Bkv u w.heap.size 0 (.slice none 0 0)):=by rw[<-K];exact zz9 w _ _
 have H1:=za0 (h.tch (R:=λ _=>False) (Tch.of_below E.o) (λ _ _ e=>e));have I:=zb0 (zag9 n u H1.o.c0 (Q.below E.o));rw[T,hn]at I;have q0:=A.o.c0;have q1:=A.o.c1;have f0:=A.o.fz 0;have f1:=A.o.fz 1;obtain⟨O,Y⟩:=exN ((u.setCell ⟨w.heap.size,0,none⟩ (.int .i64 0)).setCell ⟨w.heap.size,1,none⟩ (.slice none 0 0));have Q2:Hid (Bkv O w.heap.size 0 (.slice none 0 0)):=by rw[<-Y];exact A.o.put 0 _
 have T2:Hid (Tch (λ j=>j=w.heap.size) u O):=by rw[<-Y];exact(zo9 u _ 0 _).trans (zo9 _ _ 1 _) (λ _ _ e=>e)
 have B2:=za0 (E.o.trans (T2.o.below E.o.size (λ j e=>by omega)));have a0:=zb0 Q2.o.load;clear h hn Q T
 go_enter Tryz.func47,Tryz.ntmps47
 go_wp2_with fail;refine I.o.mono ?_;rintro e w' ⟨rfl,rfl⟩;clear I K;go_wp2_with fail;refine bodyPost_ret (v:=.tuple #[blk 0 (.slice none 0 0),.int .i64 2]) (zk9 (p:=4) (ty:=63) rfl _ _ _ w.heap.size _ _ rfl a0.o rfl) rfl ?_;exact⟨rfl,Ch.to_below ⟨_,_,_,H.o⟩ B2.o⟩
theorem zft9:(Tryz.prog.info? 127).map (·.size)=some 3:=by kernel_rfl
def ChToU(X:Nat->Prop)(w w':World)(c d N:Nat)(s:CS)(u:Value):Prop:=∃X',Ch X' w' c d N s/\Tch X w w'/\(∀k,X' k->X k\/w.heap.size<=k)/\∀j,u.ownBlock=some j->¬X' j
def Ch.toU{X:Nat->Prop}{w w':World}{c d N:Nat}{s:CS}{u:Value}(h:Ch X w c d N s)(A:Below w.heap.size w w')(H:∀j,u.ownBlock=some j->w.heap.size<=j):ChToU X w w' c d N s u:=
 ⟨X,h.below A,Tch.of_below A,λ _ e=>.inl e,λ j E e=>by have:=H j E;have:=h.lt j e;omega⟩
def ChTo.nilU{X:Nat->Prop}{w w':World}{c d N:Nat}{s:CS}(h:ChTo X w w' c d N s):ChToU X w w' c d N s (.slice none 0 0):=by obtain⟨u,A,E,H⟩:=h;exact⟨u,A,E,H,λ j I=>by cases I⟩
def GotK(X:Nat->Prop)(w:World)(c d N:Nat)(s':CS)(k:Int)(ys:List Int)(e:Ending)(w':World):Prop:=
 ∃u,e=.returned (.tuple #[blk k u,.int .i64 0])/\Nw w.heap.size w' u ys/\ChToU X w w' c d N s' u
def zne9{X S:Nat->Prop}{c d N:Nat}{s:CS}{D:DS}(n:Nat)(w:World)(hC:Ch X w c d N s)(hD:Dk S w d D)(hN:D.L.length=N)(Q:n∈s.d):
 Calls Tryz.prog 47 #[cp c,.int .i64 (n:Int)] w λ e w'=>GotK X w c d N s (s.B n).1 (s.B n).2 e w':=by
 obtain⟨mb,av,V,h⟩:=hC;have H:=za0 h;obtain⟨A,a1⟩:=exN (w.alloc (.cells #[.int .i64 0,.slice none 0 0] 63));have B1:Hid (Below w.heap.size w A):=by rw[<-a1];exact(Below.refl _ _).alloc (zn6 _) _
 have Q1:Hid (Bkv A w.heap.size 0 (.slice none 0 0)):=by rw[<-a1];exact zz9 w _ _
 have I:=za0 (h.tch (R:=λ _=>False) (Tch.of_below B1.o) (λ _ _ e=>e));have HT:=zb0 (zag9 (n:Int) A I.o.c0 (hD.below B1.o));have a9:=h.ok.dl n Q;have et:kthere D.L.length (n:Int)=true:=zm9.2 (by omega);rw[et]at HT;have ac:=h.n2;have K:=I.o.map.lookOk a9.2 (by omega);have T:=za0 (I.o.bod n (.inl Q));obtain⟨k,hk⟩:=exN ((s.B n).1);obtain⟨ys,a2⟩:=exN ((s.B n).2);obtain⟨v,hv⟩:=exN (V n);have eg:kg s V n=some (hent k v true):=by unfold kg;rw[if_pos Q,hk,hv]
 have ab:Hid (ys.length<=140737488355328):=by have:=(h.ok.may n (.inl Q)).1;obtain⟨_,_,_,_,m5⟩:=zw9.1 this;show _<=_;rw[<-a2];omega
 rw[a2,hv]at T;unfold gh at K;rw[eg]at K;simp only[Option.getD_some,Option.isSome_some]at K;unfold hent at K;rw[hk,a2];obtain⟨a,m,cap,rfl⟩:∃a m cap,v=.slice a m cap:=by obtain⟨a,c,e,_⟩:=T.o;exact⟨_,_,_,e⟩
 obtain⟨Y,O⟩:=exN (A.alloc (.cells #[.int .i64 k,.slice a m cap,.bool true] 127));have a0:Below A.heap.size A Y:=by rw[<-O];exact(Below.refl _ _).alloc (zn6 _) _
 have s1:A.heap.size=w.heap.size+1:=by rw[<-a1];simp
 have B2:=za0 (B1.o.trans (a0.mono (by omega)));have Q2:=za0 (Q1.o.below a0);have K2:Hid (Hkv Y (w.heap.size+1) k (.slice a m cap) true):=by rw[<-O,<-s1];exact zjn9 A _ _ _
 have R2:=za0 (T.o.below a0);have a3:=zb0 (zjw9 k (.slice a m cap) ys Y R2.o ab.o);have k0:=K2.o.c0;have k1:=K2.o.c1;have k2:=K2.o.c2;have c2:=I.o.c2;have a4:=za0 O;have a7:Hid (Y.heap.size=w.heap.size+2):=by show _=_;rw[<-O];simp;omega
 clear h Q hD hN et a9 ac eg hk a2 hv a0 O T I;unfold blk at a3
 go_enter Tryz.func47,Tryz.ntmps47
 go_wp2_with fail;refine HT.o.mono ?_;rintro e w' ⟨rfl,rfl⟩;clear HT a1;go_wp2_with(with_reducible (show wpList _ _ _ (Oper.mk _ (Op.store _ _ _) _ _ _ _::_) _ _);refine zd9 _ rfl 127 (.tmp 6) (.tmp 22) rfl #[.int .i64 0,.slice none 0 0,.bool false] #[.int .i64 k,.slice a m cap,.bool true] rfl rfl zft9 rfl rfl ?_;rw[a4.o])
 rw[a4.o];refine a3.o.mono ?_;rintro e w3 ⟨u,rfl,a6,a5⟩;have B3:=za0 (B2.o.trans (a5.mono B2.o.size));have E:=za0 (Q2.o.below a5);have N3:=za0 a6;obtain⟨ua,um,uc,rfl⟩:∃a m cap,u=.slice a m cap:=by obtain⟨a,c,e,_⟩:=a6.rd;exact⟨_,_,_,e⟩
 have q0:=E.o.c0;have q1:=E.o.c1;have f0:=E.o.fz 0;have f1:=E.o.fz 1;obtain⟨W4,a8⟩:=exN ((w3.setCell ⟨w.heap.size,0,none⟩ (.int .i64 k)).setCell ⟨w.heap.size,1,none⟩ (.slice ua um uc));have Q4:Hid (Bkv W4 w.heap.size k (.slice ua um uc)):=by rw[<-a8];exact E.o.put k _
 have T4:Hid (Tch (λ j=>j=w.heap.size) w3 W4):=by rw[<-a8];exact(zo9 w3 _ 0 _).trans (zo9 _ _ 1 _) (λ _ _ e=>e)
 have N4:Hid (Nw w.heap.size W4 (.slice ua um uc) ys):=by have h1:=N3.o.tch T4.o (λ j hj e=>by have h2:=N3.o.new j hj;have:=a7.o;omega);exact⟨h1.rd,h1.fz,λ j hj=>by have:=h1.new j hj;have:=a7.o;omega⟩
 have aa:=zb0 Q4.o.load;have B4:=za0 (B3.o.trans (T4.o.below B3.o.size (λ j e=>by omega)));clear a6 a5 a3 N3 E T4 k0 k1 k2 a4 c2 K s1;go_wp2_with fail;refine bodyPost_ret (v:=.tuple #[blk k (.slice ua um uc),.int .i64 0]) (zk9 (p:=4) (ty:=63) rfl _ _ _ w.heap.size _ _ rfl aa.o rfl) rfl ?_;exact⟨_,rfl,N4.o,Ch.toU ⟨_,_,_,H.o⟩ B4.o N4.o.new⟩
def znd9{X S:Nat->Prop}{c d N:Nat}{s:CS}{D:DS}(n:Nat)(w:World)(hC:Ch X w c d N s)(hD:Dk S w d D)(hN:D.L.length=N)(E:n∈s.c):
 Calls Tryz.prog 47 #[cp c,.int .i64 (n:Int)] w λ e w'=>GotK X w c d N (s.keep n (s.B n)) (s.B n).1 (s.B n).2 e w':=by
 obtain⟨mb,av,V,h⟩:=hC;have H:=za0 h;obtain⟨K,a2⟩:=exN (w.alloc (.cells #[.int .i64 0,.slice none 0 0] 63));have B1:Hid (Below w.heap.size w K):=by rw[<-a2];exact(Below.refl _ _).alloc (zn6 _) _
 have Q1:Hid (Bkv K w.heap.size 0 (.slice none 0 0)):=by rw[<-a2];exact zz9 w _ _
 have T:=za0 (h.tch (R:=λ _=>False) (Tch.of_below B1.o) (λ _ _ e=>e));have HT:=zb0 (zag9 (n:Int) K T.o.c0 (hD.below B1.o));have a8:=h.ok.cl n E;have et:kthere D.L.length (n:Int)=true:=zm9.2 (by omega);rw[et]at HT;have ak:=h.n2;have LK:=T.o.map.lookOk a8.2 (by omega);have R1:=za0 (T.o.bod n (.inr E));obtain⟨k,hk⟩:=exN ((s.B n).1);obtain⟨O,I⟩:=exN ((s.B n).2);obtain⟨v,hv⟩:=exN (V n);have eg:kg s V n=some (hent k v false):=by unfold kg;rw[if_neg (λ e=>h.ok.ap n e E),if_pos E,hk,hv]
 have ah:Hid (O.length<=140737488355328):=by have:=(h.ok.may n (.inr E)).1;obtain⟨_,_,_,_,m5⟩:=zw9.1 this;show _<=_;rw[<-I];omega
 rw[I,hv]at R1;unfold gh at LK;rw[eg]at LK;simp only[Option.getD_some,Option.isSome_some]at LK;unfold hent at LK;rw[hk,I,show s.B n=(k,O) by rw[<-hk,<-I]];obtain⟨a,m,cap,rfl⟩:∃a m cap,v=.slice a m cap:=by obtain⟨a,c,e,_⟩:=R1.o;exact⟨_,_,_,e⟩
 obtain⟨W2,a1⟩:=exN (K.alloc (.cells #[.int .i64 k,.slice a m cap,.bool false] 127));have a0:Below K.heap.size K W2:=by rw[<-a1];exact(Below.refl _ _).alloc (zn6 _) _
 have s1:K.heap.size=w.heap.size+1:=by rw[<-a2];simp
 have B2:=za0 (B1.o.trans (a0.mono (by omega)));have Q2:=za0 (Q1.o.below a0);have K2:Hid (Hkv W2 (w.heap.size+1) k (.slice a m cap) false):=by rw[<-a1,<-s1];exact zjn9 K _ _ _
 have R2:=za0 (R1.o.below a0);have H2:=za0 (T.o.tch (R:=λ _=>False) (Tch.of_below a0) (λ _ _ e=>e));have al:Hid (s.B n=(k,O)):=by show _=_;rw[<-hk,<-I]
 have a3:=zb0 (zig9 n k (.slice a m cap) O W2 H2.o a8 (by have:=(h.ok.may n (.inr E)).1;rw[hk,I]at this;exact this) (by have:=(h.ok.may n (.inr E)).2;rw[I]at this;exact this) R2.o (λ j A h0=>by
  have:=h.bap n (.inr E) j (by rw[hv];exact A) (by rw[I];exact h0);exact this))
 have k0:=K2.o.c0;have k1:=K2.o.c1;have k2:=K2.o.c2;have c2:=T.o.c2;have a5:=za0 a1;have aj:Hid (W2.heap.size=w.heap.size+2):=by show _=_;rw[<-a1];simp;omega
 clear h E hD hN et a8 ak eg hk I hv a0 a1 R1 T;unfold blk at a3
 go_enter Tryz.func47,Tryz.ntmps47
 go_wp2_with fail;refine HT.o.mono ?_;rintro e w' ⟨rfl,rfl⟩;clear HT a2;go_wp2_with(with_reducible (show wpList _ _ _ (Oper.mk _ (Op.store _ _ _) _ _ _ _::_) _ _);refine zd9 _ rfl 127 (.tmp 6) (.tmp 22) rfl #[.int .i64 0,.slice none 0 0,.bool false] #[.int .i64 k,.slice a m cap,.bool false] rfl rfl zft9 rfl rfl ?_;rw[a5.o])
 rw[a5.o];refine a3.o.mono ?_;rintro e w3 ⟨rfl,h3,r3⟩;have QQ:Hid (Bkv w3 w.heap.size 0 (.slice none 0 0)):=by obtain⟨_,_,t,_⟩:=h3;exact Q2.o.tch t (λ e=>by have:=H.o.xlt _ e;omega)
 have K3:Hid (Hkv w3 (w.heap.size+1) k (.slice a m cap) false):=by obtain⟨_,_,t,_⟩:=h3;exact K2.o.tch t (λ e=>by have:=H.o.xlt _ e;omega)
 have af:Hid (∃Q,Ch Q w3 c d N (s.keep n (k,O))/\Tch X w w3/\(∀j,Q j->X j\/w.heap.size<=j)/\¬Q w.heap.size):=by
  obtain⟨Q,hK,t,hx⟩:=h3;have hs:=aj.o;exact⟨Q,hK,(Tch.of_below B2.o).trans t (λ _ _ e=>e),λ j A=>(hx j A).imp id (λ e=>by omega),λ e=>by
   rcases hx _ e with e|e
   .have:=H.o.xlt _ e;omega
   .omega⟩
 have a4:=zb0 (zjw9 k (.slice a m cap) O w3 r3 ah.o);unfold blk at a4;have x0:=K3.o.c0;have x1:=K3.o.c1;clear h3 r3 a3 k0 k1 k2 a5 c2 LK s1 Q2 K2 R2 H2;go_wp2_with fail;refine a4.o.mono ?_;rintro e w4 ⟨u,rfl,a7,a6⟩;have Y:=za0 (QQ.o.below a6);have N4:=za0 a7;have ad:=za0 a6;obtain⟨ua,um,uc,rfl⟩:∃a m cap,u=.slice a m cap:=by obtain⟨a,c,e,_⟩:=a7.rd;exact⟨_,_,_,e⟩
 have z0:=Y.o.c0;have z1:=Y.o.c1;have g0:=Y.o.fz 0;have g1:=Y.o.fz 1;obtain⟨WF,ab⟩:=exN ((w4.setCell ⟨w.heap.size,0,none⟩ (.int .i64 k)).setCell ⟨w.heap.size,1,none⟩ (.slice ua um uc));have QF:Hid (Bkv WF w.heap.size k (.slice ua um uc)):=by rw[<-ab];exact Y.o.put k _
 have TF:Hid (Tch (λ j=>j=w.heap.size) w4 WF):=by rw[<-ab];exact(zo9 w4 _ 0 _).trans (zo9 _ _ 1 _) (λ _ _ e=>e)
 have a9:=za0 QQ.o.lt;have NF:Hid (Nw w.heap.size WF (.slice ua um uc) O):=by have h1:=N4.o.tch TF.o (λ j A e=>by have h2:=N4.o.new j A;have:=a9.o;omega);exact⟨h1.rd,h1.fz,λ j A=>by have:=h1.new j A;have:=a9.o;omega⟩
 have ag:=zb0 QF.o.load;have ai:=za0 N4.o.new;have ae:Hid (ChToU X w WF c d N (s.keep n (k,O)) (.slice ua um uc)):=by obtain⟨Q,aa,tK,ac⟩:=af.o;have t1:Tch (λ j=>j=w.heap.size) w3 WF:=(Tch.of_below ad.o).trans TF.o (λ _ _ e=>e);refine⟨Q,aa.tch t1 (λ j A e=>ac.2 (by rw[<-e];exact A)),tK.trans t1 (λ j A e=>by omega),ac.1,λ j A e=>by have:=aa.lt j e;have:=ai.o j A;omega⟩
 clear a7 a6 a4 N4 Y TF;go_wp2_with fail;refine bodyPost_ret (v:=.tuple #[blk k (.slice ua um uc),.int .i64 0]) (zk9 (p:=4) (ty:=63) rfl _ _ _ w.heap.size _ _ rfl ag.o rfl) rfl ?_;exact⟨_,rfl,NF.o,ae.o⟩
def zuh9{n:Int}{xs:List Int}(u:By xs)(h:getE n xs=0):mayK n (getB n xs).1 (getB n xs).2.length=true/\By (getB n xs).2:=by
 have e:getB n xs=(xs.getD 0 0,bdy xs):=by unfold getB;rw[if_pos h]
 rw[e];refine⟨?_,bdy_by u⟩;unfold getE at h;split at h
 .cases h
 .split at h
  .cases h
  .split at h
   .rename_i h1;exact h1.1
   .cases h
def zuj9{X S:Nat->Prop}{c d N:Nat}{s:CS}{D:DS}(n:Nat)(w:World)(hC:Ch X w c d N s)(hD:Dk S w d D)(hN:D.L.length=N)(aa:50<=n/\n<N)(a9:n∉s.d)(a8:n∉s.c)(hE:getE (n:Int) (D.has n)≠0):
 Calls Tryz.prog 47 #[cp c,.int .i64 (n:Int)] w λ e w'=>e=.returned (.tuple #[blk 0 (.slice none 0 0),.int .i64 (getE (n:Int) (D.has n))])/\ChTo X w w' c d N s:=by
 obtain⟨mb,av,V,h⟩:=hC;have H:=za0 h;obtain⟨u,a0⟩:=exN (w.alloc (.cells #[.int .i64 0,.slice none 0 0] 63));have B1:Hid (Below w.heap.size w u):=by rw[<-a0];exact(Below.refl _ _).alloc (zn6 _) _
 have Q1:Hid (Bkv u w.heap.size 0 (.slice none 0 0)):=by rw[<-a0];exact zz9 w _ _
 have A:=za0 (h.tch (R:=λ _=>False) (Tch.of_below B1.o) (λ _ _ e=>e));have HT:=zb0 (zag9 (n:Int) u A.o.c0 (hD.below B1.o));have et:kthere D.L.length (n:Int)=true:=zm9.2 (by omega);rw[et]at HT;have ag:=h.n2;have E:=A.o.map.lookOk aa.2 (by omega);have eg:kg s V n=none:=by unfold kg;rw[if_neg a9,if_neg a8]
 unfold gh at E;rw[eg]at E;simp only[Option.getD_none,Option.isSome_none]at E;unfold hent0 hent at E;obtain⟨Q,K⟩:=exN (u.alloc (.cells #[.int .i64 0,.slice none 0 0,.bool false] 127));have Y:Below u.heap.size u Q:=by rw[<-K];exact(Below.refl _ _).alloc (zn6 _) _
 have s1:u.heap.size=w.heap.size+1:=by rw[<-a0];simp
 have O:=za0 (B1.o.trans (Y.mono (by omega)));have Q2:=za0 (Q1.o.below Y);have K2:Hid (Hkv Q (w.heap.size+1) 0 (.slice none 0 0) false):=by rw[<-K,<-s1];exact zjn9 u _ _ _
 have H2:=za0 (A.o.tch (R:=λ _=>False) (Tch.of_below Y) (λ _ _ e=>e));have a1:=zb0 (zot9 n Q H2.o.c0 (hD.below O.o) (by omega));have c2:=A.o.c2;have a2:=za0 K;have ai:Hid (Q.heap.size=w.heap.size+2):=by show _=_;rw[<-K];simp;omega
 obtain⟨xs,a6⟩:=exN (D.has n);have HX:Hid (By xs):=by rw[<-a6];exact(hD.has_ok (by omega)).2
 rw[a6]at hE a1 |-
 obtain⟨ec,a5⟩:=exN (getE (n:Int) xs);rw[a5]at hE |-
 have ac:=za0 a5;have ae:(ec==0)=false:=by rw[zl0];exact hE
 have aj:(ec != 0)=true:=by rw[bne,ae];rfl
 clear h hD hN et aa ag eg Y K A a9 a8 a6 a5
 go_enter Tryz.func47,Tryz.ntmps47
 go_wp2_with fail;refine HT.o.mono ?_;rintro e w' ⟨rfl,rfl⟩;clear HT a0;go_wp2_with(with_reducible (show wpList _ _ _ (Oper.mk _ (Op.store _ _ _) _ _ _ _::_) _ _);refine zd9 _ rfl 127 (.tmp 6) (.tmp 22) rfl #[.int .i64 0,.slice none 0 0,.bool false] #[.int .i64 0,.slice none 0 0,.bool false] rfl rfl zft9 rfl rfl ?_;rw[a2.o])
 rw[a2.o];refine a1.o.mono ?_;rintro e w3 ⟨v,rfl,ab,a4,ah⟩;rw[ac.o];have B3:=za0 (O.o.trans (a4.mono O.o.size));have Q3:=za0 (Q2.o.below a4);obtain⟨k,hk⟩:=exN ((getB (n:Int) xs).1);rw[hk];obtain⟨a,m,cap,rfl⟩:∃a m cap,v=.slice a m cap:=by obtain⟨a,c,e,_⟩:=ab;exact⟨_,_,_,e⟩
 obtain⟨T,af⟩:=exN (w3.alloc (.cells #[.int .i64 k,.slice a m cap] 63));have a3:Below w3.heap.size w3 T:=by rw[<-af];exact(Below.refl _ _).alloc (zn6 _) _
 have B4:=za0 (B3.o.trans (a3.mono B3.o.size));have I:=za0 (Q3.o.below a3);have z0:=I.o.c0;have z1:=I.o.c1;have g0:=I.o.fz 0;have g1:=I.o.fz 1;obtain⟨WF,a7⟩:=exN ((T.setCell ⟨w.heap.size,0,none⟩ (.int .i64 0)).setCell ⟨w.heap.size,1,none⟩ (.slice none 0 0));have QF:Hid (Bkv WF w.heap.size 0 (.slice none 0 0)):=by rw[<-a7];exact I.o.put 0 _
 have TF:Hid (Tch (λ j=>j=w.heap.size) T WF):=by rw[<-a7];exact(zo9 T _ 0 _).trans (zo9 _ _ 1 _) (λ _ _ e=>e)
 have BF:=za0 (B4.o.trans (TF.o.below B4.o.size (λ j e=>by omega)));have ad:=zb0 QF.o.load;clear ab a4 ah hk a3 a1 Q2 Q3 B3 O K2 H2 E c2 a2 s1;unfold blk;go_wp2_with fail;refine bodyPost_ret (v:=.tuple #[blk 0 (.slice none 0 0),.int .i64 ec]) (zk9 (p:=4) (ty:=63) rfl _ _ _ w.heap.size _ _ rfl ad.o rfl) rfl ?_;exact⟨rfl,Ch.to_below ⟨_,_,_,H.o⟩ BF.o⟩
def zuk9{X S:Nat->Prop}{c d N:Nat}{s:CS}{D:DS}(n:Nat)(w:World)(hC:Ch X w c d N s)(hD:Dk S w d D)(hN:D.L.length=N)(ah:50<=n/\n<N)(ap:n∉s.d)(ao:n∉s.c)(hE:getE (n:Int) (D.has n)=0):
 Calls Tryz.prog 47 #[cp c,.int .i64 (n:Int)] w λ e w'=>GotK X w c d N (s.keep n (getB (n:Int) (D.has n))) (getB (n:Int) (D.has n)).1 (getB (n:Int) (D.has n)).2 e w':=by
 obtain⟨mb,av,V,h⟩:=hC;have H:=za0 h;obtain⟨I,a6⟩:=exN (w.alloc (.cells #[.int .i64 0,.slice none 0 0] 63));have B1:Hid (Below w.heap.size w I):=by rw[<-a6];exact(Below.refl _ _).alloc (zn6 _) _
 have Q1:Hid (Bkv I w.heap.size 0 (.slice none 0 0)):=by rw[<-a6];exact zz9 w _ _
 have H1:=za0 (h.tch (R:=λ _=>False) (Tch.of_below B1.o) (λ _ _ e=>e));have HT:=zb0 (zag9 (n:Int) I H1.o.c0 (hD.below B1.o));have et:kthere D.L.length (n:Int)=true:=zm9.2 (by omega);rw[et]at HT;have b3:=h.n2;have LK:=H1.o.map.lookOk ah.2 (by omega);have eg:kg s V n=none:=by unfold kg;rw[if_neg ap,if_neg ao]
 unfold gh at LK;rw[eg]at LK;simp only[Option.getD_none,Option.isSome_none]at LK;unfold hent0 hent at LK;obtain⟨W2,a1⟩:=exN (I.alloc (.cells #[.int .i64 0,.slice none 0 0,.bool false] 127));have a5:Below I.heap.size I W2:=by rw[<-a1];exact(Below.refl _ _).alloc (zn6 _) _
 have s1:I.heap.size=w.heap.size+1:=by rw[<-a6];simp
 have B2:=za0 (B1.o.trans (a5.mono (by omega)));have Q2:=za0 (Q1.o.below a5);have K2:Hid (Hkv W2 (w.heap.size+1) 0 (.slice none 0 0) false):=by rw[<-a1,<-s1];exact zjn9 I _ _ _
 have H2:=za0 (H1.o.tch (R:=λ _=>False) (Tch.of_below a5) (λ _ _ e=>e));have aa:=zb0 (zot9 n W2 H2.o.c0 (hD.below B2.o) (by omega));have c2:=H1.o.c2;have ab:=za0 a1;have b1:Hid (W2.heap.size=w.heap.size+2):=by show _=_;rw[<-a1];simp;omega
 obtain⟨xs,ai⟩:=exN (D.has n);have HX:Hid (By xs):=by rw[<-ai];exact(hD.has_ok (by omega)).2
 rw[ai]at hE aa |-
 obtain⟨x,hx⟩:=exN (getB (n:Int) xs);obtain⟨k,E⟩:=x;have a3:=zb0 (zuh9 (n:=(n:Int)) HX.o hE);rw[hx]at a3 |-
 have aj:Hid (getE (n:Int) xs=0/\getB (n:Int) xs=(k,E)):=⟨hE,hx⟩
 have az:=za0 ah;have ay:Hid (E.length<=140737488355328):=by obtain⟨_,_,_,_,m5⟩:=zw9.1 a3.o.1;show _<=_;have:E.length<=240:=m5;omega
 clear h hD hN et ah b3 eg a5 a1 H1 ap ao ai hE hx
 go_enter Tryz.func47,Tryz.ntmps47
 go_wp2_with fail;refine HT.o.mono ?_;rintro e w' ⟨rfl,rfl⟩;clear HT a6;go_wp2_with(with_reducible (show wpList _ _ _ (Oper.mk _ (Op.store _ _ _) _ _ _ _::_) _ _);refine zd9 _ rfl 127 (.tmp 6) (.tmp 22) rfl #[.int .i64 0,.slice none 0 0,.bool false] #[.int .i64 0,.slice none 0 0,.bool false] rfl rfl zft9 rfl rfl ?_;rw[ab.o])
 rw[ab.o];refine aa.o.mono ?_;rintro e w3 ⟨v,rfl,a2,a7,an⟩;rw[aj.o.1,aj.o.2]at *
 have a2:=a2;have B3:=za0 (B2.o.trans (a7.mono B2.o.size));have Q3:=za0 (Q2.o.below a7);have K3:=za0 (K2.o.below a7);have N3:Hid (∀j,v.ownBlock=some j->w.heap.size+2<=j):=λ j A=>by have:=an j A;have:=b1.o;omega
 obtain⟨a,m,cap,rfl⟩:∃a m cap,v=.slice a m cap:=by obtain⟨a,c,e,_⟩:=a2;exact⟨_,_,_,e⟩
 obtain⟨Y,ae⟩:=exN (w3.alloc (.cells #[.int .i64 k,.slice a m cap] 63));have a0:Below w3.heap.size w3 Y:=by rw[<-ae];exact(Below.refl _ _).alloc (zn6 _) _
 have B4:=za0 (B3.o.trans (a0.mono B3.o.size));have K:=za0 (K3.o.below a0);have Q4:=za0 (Q3.o.below a0);have G4:Hid (Bkv Y w3.heap.size k (.slice a m cap)):=by rw[<-ae];exact zz9 w3 _ _
 have R4:=za0 (a2.below a0);have y0:=G4.o.c0;have y1:=G4.o.c1;have e0:=K.o.c0;have e1:=K.o.c1;have e2:=K.o.c2;have j0:=K.o.fz 0;have j1:=K.o.fz 1;have j2:=K.o.fz 2;obtain⟨W5,af⟩:=exN (((Y.setCell ⟨w.heap.size+1,0,none⟩ (.int .i64 k)).setCell ⟨w.heap.size+1,1,none⟩ (.slice a m cap)).setCell ⟨w.heap.size+1,2,none⟩ (.bool false));have Q:Hid (Hkv W5 (w.heap.size+1) k (.slice a m cap) false):=by rw[<-af];have h1:=heap_setCell_same Y (w.heap.size+1) 0 _ _ (.int .i64 k) K.o;have h2:=heap_setCell_same _ (w.heap.size+1) 1 _ _ (.slice a m cap) h1;exact heap_setCell_same _ (w.heap.size+1) 2 _ _ (.bool false) h2
 have T5:Hid (Tch (λ j=>j=w.heap.size+1) Y W5):=by rw[<-af];exact((zo9 Y _ 0 _).trans (zo9 _ _ 1 _) (λ _ _ e=>e)).trans (zo9 _ _ 2 _) (λ _ _ e=>e)
 have B5:=za0 (B4.o.trans (T5.o.below B4.o.size (λ j e=>by omega)));have Q5:=za0 (Q4.o.tch T5.o (λ e=>by omega));have R5:=za0 (R4.o.tch T5.o (λ j A e=>by have:=N3.o j A;omega));obtain⟨X',ag⟩:∃X':Nat->Prop,(λ j=>X j\/((Value.slice a m cap).ownBlock=some j/\E≠[]))=X':=⟨_,rfl⟩
 have H5:Hid (ChAt X' W5 c d N s mb av V):=by
  rw[<-ag];refine(H.o.tch (R:=λ _=>False) (Tch.of_below B5.o) (λ _ _ e=>e)).wide (λ j A=>.inl A) (λ j A=>?_);rcases A with e|⟨e,e0⟩
  .exact zn1 (H.o.xlt j e) B5.o.size
  .exact R5.o.blk_lt e0 e
 have a4:Hid ((∀j,X' j->X j\/w.heap.size+2<=j)/\∀j,(Value.slice a m cap).ownBlock=some j->E≠[]->X' j/\j≠c/\j≠mb/\av.ownBlock≠some j):=by
  rw[<-ag];refine⟨λ j A=>A.imp id (λ e=>N3.o j e.1),λ j A h0=>⟨.inr ⟨A,h0⟩,?_,?_,λ e=>?_⟩⟩
  .have:=N3.o j A;have:=H.o.lt;omega
  .have:=N3.o j A;have:=H.o.xlt _ H.o.xm;omega
  .have:=N3.o j A;have:=H.o.xlt _ (H.o.xa j e);omega
 have a8:=zb0 (zig9 n k (.slice a m cap) E W5 H5.o az.o a3.o.1 a3.o.2 R5.o a4.o.2);have i0:=Q.o.c0;have i1:=Q.o.c1;have i2:=Q.o.c2;have b2:Hid (w.heap.size+2<=W5.heap.size):=by have:=Q.o.lt;exact this
 clear a2 a7 an a0 aa Q2 Q3 B3 B2 K2 K3 H2 LK c2 ab s1 R4 T5 B4 Q4 ag;unfold blk at a8 |-
 go_wp2_with fail;refine a8.o.mono ?_;rintro e w6 ⟨rfl,h6,r6⟩;have NX:Hid (∀j,j<w.heap.size+2->w.heap.size<=j->¬X' j):=λ j h1 h2 e=>by
  rcases a4.o.1 j e with e|e
  .have:=H.o.xlt _ e;omega
  .omega
 have QQ:Hid (Bkv w6 w.heap.size 0 (.slice none 0 0)):=by obtain⟨_,_,t,_⟩:=h6;exact Q5.o.tch t (NX.o _ (by omega) (by omega))
 have K6:Hid (Hkv w6 (w.heap.size+1) k (.slice a m cap) false):=by obtain⟨_,_,t,_⟩:=h6;exact Q.o.tch t (NX.o _ (by omega) (by omega))
 have aw:Hid (∃O,Ch O w6 c d N (s.keep n (k,E))/\Tch X w w6/\(∀j,O j->X j\/w.heap.size<=j)/\¬O w.heap.size):=by
  obtain⟨O,hK,t,hx⟩:=h6;have hs:=b2.o;refine⟨O,hK,(Tch.of_below B5.o).trans t (λ j A e=>?_),λ j A=>?_,λ e=>?_⟩
  .rcases a4.o.1 j e with e|e
   .exact e
   .omega
  .rcases hx j A with e|e
   .exact(a4.o.1 j e).imp id (λ e=>by omega)
   .exact .inr (by omega)
  .rcases hx _ e with e|e
   .exact NX.o _ (by omega) (by omega) e
   .omega
 have a9:=zb0 (zjw9 k (.slice a m cap) E w6 r6 ay.o);unfold blk at a9;have x0:=K6.o.c0;have x1:=K6.o.c1;clear h6 r6 a8 y0 y1 e0 e1 e2 j0 j1 j2 i0 i1 i2 af ae Q5 Q R5 H5;go_wp2_with fail;refine a9.o.mono ?_;rintro e w7 ⟨u,rfl,ad,ac⟩;have T:=za0 (QQ.o.below ac);have N7:=za0 ad;have ar:=za0 ac;obtain⟨ua,um,uc,rfl⟩:∃a m cap,u=.slice a m cap:=by obtain⟨a,c,e,_⟩:=ad.rd;exact⟨_,_,_,e⟩
 have z0:=T.o.c0;have z1:=T.o.c1;have g0:=T.o.fz 0;have g1:=T.o.fz 1;obtain⟨WF,am⟩:=exN ((w7.setCell ⟨w.heap.size,0,none⟩ (.int .i64 k)).setCell ⟨w.heap.size,1,none⟩ (.slice ua um uc));have QF:Hid (Bkv WF w.heap.size k (.slice ua um uc)):=by rw[<-am];exact T.o.put k _
 have TF:Hid (Tch (λ j=>j=w.heap.size) w7 WF):=by rw[<-am];exact(zo9 w7 _ 0 _).trans (zo9 _ _ 1 _) (λ _ _ e=>e)
 have ak:=za0 QQ.o.lt;have NF:Hid (Nw w.heap.size WF (.slice ua um uc) E):=by have h1:=N7.o.tch TF.o (λ j A e=>by have h2:=N7.o.new j A;have:=ak.o;omega);exact⟨h1.rd,h1.fz,λ j A=>by have:=h1.new j A;have:=ak.o;omega⟩
 have ax:=zb0 QF.o.load;have b0:=za0 N7.o.new;have au:Hid (ChToU X w WF c d N (s.keep n (k,E)) (.slice ua um uc)):=by obtain⟨O,al,tK,aq⟩:=aw.o;have t1:Tch (λ j=>j=w.heap.size) w6 WF:=(Tch.of_below ar.o).trans TF.o (λ _ _ e=>e);refine⟨O,al.tch t1 (λ j A e=>aq.2 (by rw[<-e];exact A)),tK.trans t1 (λ j A e=>by omega),aq.1,λ j A e=>by have:=al.lt j e;have:=b0.o j A;omega⟩
 clear ad ac a9 N7 T TF;go_wp2_with fail;refine bodyPost_ret (v:=.tuple #[blk k (.slice ua um uc),.int .i64 0]) (zk9 (p:=4) (ty:=63) rfl _ _ _ w.heap.size _ _ rfl ax.o rfl) rfl ?_;exact⟨_,rfl,NF.o,au.o⟩
def zui9{X S:Nat->Prop}{c d N:Nat}{s:CS}{D:DS}(n:Int)(w:World)(T:Ch X w c d N s)(Y:Dk S w d D)(A:D.L.length=N):
 Calls Tryz.prog 47 #[cp c,.int .i64 n] w λ e w'=>∃u,e=.returned (.tuple #[blk (s.getB D n).1 u,.int .i64 (s.getE D n)])/\Nw w.heap.size w' u (s.getB D n).2/\ChToU X w w' c d N (s.getS D n) u:=by
 cases h1:kthere N n with
 | false=>
  have E:s.getE D n=2:=by unfold CS.getE;rw[A,h1];rfl
  have H:s.getB D n=(0,[]):=by unfold CS.getB;rw[A,h1];rfl
  have K:s.getS D n=s:=by unfold CS.getS;rw[E];rfl
  rw[E,H,K];refine(znf9 n w T Y A h1).mono ?_;rintro e w' ⟨rfl,h⟩;exact⟨_,rfl,Nw.nil _ _,h.nilU⟩
 | true=>
  obtain⟨i,rfl⟩:∃i:Nat,n=(i:Int):=⟨n.toNat,by have:=(zm9.1 h1).1;omega⟩
  have hi:=zm9.1 h1;by_cases I:i∈s.d
  .have E:s.getE D (i:Int)=0:=by unfold CS.getE;rw[A,h1,if_pos rfl,if_pos (.inl I)]
   (have H:s.getB D (i:Int)=s.B i:=by unfold CS.getB;rw[A,h1,if_pos rfl,if_pos (.inl I)];rfl);(have K:s.getS D (i:Int)=s:=by unfold CS.getS;rw[if_neg (λ e=>e.2 I)]);rw[E,H,K];exact zne9 i w T Y A I
  .by_cases O:i∈s.c
   .have E:s.getE D (i:Int)=0:=by unfold CS.getE;rw[A,h1,if_pos rfl,if_pos (.inr O)]
    (have H:s.getB D (i:Int)=s.B i:=by unfold CS.getB;rw[A,h1,if_pos rfl,if_pos (.inr O)];rfl);(have K:s.getS D (i:Int)=s.keep i (s.B i):=by unfold CS.getS;rw[if_pos ⟨E,I⟩,H];rfl);rw[E,H,K];exact znd9 i w T Y A O
   .have E:s.getE D (i:Int)=getE (i:Int) (D.has i):=by unfold CS.getE;rw[A,h1,if_pos rfl,if_neg (λ e=>e.elim I O)];rfl
    (have H:s.getB D (i:Int)=getB (i:Int) (D.has i):=by unfold CS.getB;rw[A,h1,if_pos rfl,if_neg (λ e=>e.elim I O)];rfl);by_cases Q:getE (i:Int) (D.has i)=0
    .have K:s.getS D (i:Int)=s.keep i (getB (i:Int) (D.has i)):=by unfold CS.getS;rw[if_pos ⟨E.trans Q,I⟩,H];rfl
     rw[E,H,K,Q];exact zuk9 i w T Y A (by omega) I O Q
    .have K:s.getS D (i:Int)=s:=by unfold CS.getS;rw[if_neg (λ e=>Q (E.symm.trans e.1))]
     (have e4:getB (i:Int) (D.has i)=(0,[]):=by unfold getB;rw[if_neg Q]);rw[E,H,K,e4];refine(zuj9 i w T Y A (by omega) I O Q).mono ?_;rintro e w' ⟨rfl,h⟩;exact⟨_,rfl,Nw.nil _ _,h.nilU⟩
