import Derived.Test.YtihofcopapmjlaaGreatPPkTk
import Derived.StillTailTactics
set_option maxRecDepth 100000
set_option linter.all false
set_option maxHeartbeats 8000000
namespace Go.Proofs.YtihofcopapmjlaaGreat
open Go.Proofs.Tryz
open Go.RowKit Pl Go.Maps Go.WideMaps Hf
def Hm(ys:List Int)(c:Int)(p:Nat):Int:=if p+BM c<=8*ys.length then val (AM ys) p (BM c)else 0
def Jn(ys:List Int)(c:Int)(p:Nat):Int:=if p+BM c<=8*ys.length then 0 else 3
def IY(ys:List Int)(c:Int)(p:Nat):Nat:=if p+BM c<=8*ys.length then p+BM c else p
def Kd(ys:List Int)(c:Int)(p:Nat):Int:=if 0<c then Hm ys c p+2 ^ BM c else Hm ys c p
def Bm(ys:List Int)(cs:Nat->Int)(p:Nat):Nat->Nat×Bool
 | 0=>(p,true)
 | k+1=>(IY ys (cs k) (Bm ys cs p k).1,(Bm ys cs p k).2&&(Jn ys (cs k) (Bm ys cs p k).1==0))
def Bo(ys:List Int)(cs:Nat->Int)(p k:Nat):Int:=Kd ys (cs k) (Bm ys cs p k).1
def Nc(σ a b):Aj (Aj σ a) b=Aj σ (a&&b):=by cases a<;>cases b<;>rfl
def AHW(b rv ys p c w)(h:Rr w b rv ys p)(hc:c<=16):
 Calls prog 212 #[.pointer (some ⟨b,0,none⟩),.int .i64 (BM c:Int)] w λ e w'=>
  e=.returned (.tuple #[.int .i64 (Hm ys c p),.int .i64 (Jn ys c p)])/\Rr w' b rv ys (IY ys c p)/\AD (λ k=>k=b) w w':=by
 have q:BM c<=15:=by unfold BM;omega
 unfold Hm Jn IY;by_cases f:p+BM c<=8*ys.length;rw[if_pos f,if_pos f,if_pos f];exact Jk b rv ys p (BM c) w h (by omega) f;rw[if_neg f,if_neg f,if_neg f];exact M8 b rv ys p (BM c) w h (by omega) (by omega)
def WL(ys c p)(hc:c<=16):0<=Hm ys c p/\Hm ys c p<=32767:=by
 have f:BM c<=15:=by unfold BM;omega
 unfold Hm;split;have q:=Hq (Fx ys) p (BM c);have r:=Gt f;omega;omega
def AFY(w C)(n:Nat)(v)(E:n<3)(Am:C[n]?=some v):(Instr.index 254 (.agg C) (.int .i64 (n:Int))).run prog w=.ok v w:=by
 have A:=underlying254;have q:(prog.info? 23).map (·.size)=some 1:=by kernel_rfl
 obtain⟨i,B,I⟩:=Option.map_eq_some_iff.1 q;have r:(sizeOf 23).run prog w=.ok 1 w:=by simp
 have f:(isAgg 23).run prog w=.ok false w:=by unfold isAgg;rw[Sem.run_bind,run_underlying underlying23 w];rfl
 have hc:(0:Int)<=(n:Int)/\(n:Int)<((3:Nat):Int):=⟨by omega,by omega⟩
 simp only[Instr.index,asIntOf,Sem.run_bind,Sem.run_pure,Result.andThen_ok,run_underlying A w,if_pos hc,r,part,f,Int.toNat_natCast,Nat.mul_one,Am];rfl
def AIM(w){f q o a Q}(A:o.guard=none)(x i)(I:o.op=.index 254 x i)(C)(n:Nat)(v)(L:a.eval x=.agg C)(B:a.eval i=.int .i64 (n:Int))(E:n<3)(Am:C[n]?=some v)(h:wpList prog f Q q (a.put o.dst v) w):wpList prog f Q (o::q) a w:=by
 refine wpList_plain A λ K r=>?_;have J:=AFY w C n v E Am;unfold Oper.wp execOp;simp only[I,L,B,Sem.run_bind,J,Result.andThen_ok,Sem.run_pure];exact r _ _ h
structure Ss(n0:Nat)(w W:World)(g rb B8 B9:Nat)(rv:Value)(ys:List Int)(σ:Option (List Int))(q:Nat×Bool)(c:Nat->Int):Prop where
 so:AZ n0 W g (Aj σ q.2)
 rr:Rr W rb rv ys q.1
 iv:Iv W B9 301 3 c
 b8:W.heap[B8]?=some (.cells #[.int .i64 0,.int .i64 0,.int .i64 0] 244 (0,0))
 tch:AD (λ j=>j=g\/j=rb) w W
 n8:w.heap.size<=B8
 n9:w.heap.size<=B9
 ne:B8≠B9
 gl:g<w.heap.size
 rl:rb<w.heap.size
 gr:g≠rb
 nr:n0<=rb
 vg:rv.ownBlock≠some g
 vl:∀k,rv.ownBlock=some k->k<w.heap.size
 wn:n0<=w.heap.size
section
variable {n0:Nat} {w W W':World} {g rb B8 B9:Nat} {rv:Value} {ys:List Int} {σ:Option (List Int)} {q:Nat×Bool} {c:Nat->Int}
def Ss.took(h:Ss n0 w W g rb B8 B9 rv ys σ q c){r}(hr:Rr W' rb rv ys r)(f:AD (λ k=>k=rb) W W'):Ss n0 w W' g rb B8 B9 rv ys σ (r,q.2) c:=by have A:=(za0.1 h.b8).1;refine⟨h.so.tch f (λ e=>h.gr e) (λ k e=>by rw[e];exact h.nr),hr,h.iv.tch f (λ e=>by have:=h.rl;have:=h.n9;omega),?_,h.tch.trans f (λ _ _ e=>.inr e),h.n8,h.n9,h.ne,h.gl,h.rl,h.gr,h.nr,h.vg,h.vl,h.wn⟩;rw[f.block B8 A (λ e=>by have:=h.rl;have:=h.n8;omega)];exact h.b8
def Ss.asked(h:Ss n0 w W g rb B8 B9 rv ys σ q c){b}(r:AZ n0 W' g (Aj (Aj σ q.2) b))(f:AD (λ k=>k=g) W W'):Ss n0 w W' g rb B8 B9 rv ys σ (q.1,q.2&&b) c:=by have A:=(za0.1 h.b8).1;rw[Nc]at r;refine⟨r,h.rr.tch f (λ e=>h.gr e.symm) (λ k B e=>h.vg (by rw[B,e])),h.iv.tch f (λ e=>by have:=h.gl;have:=h.n9;omega),?_,h.tch.trans f (λ _ _ e=>.inl e),h.n8,h.n9,h.ne,h.gl,h.rl,h.gr,h.nr,h.vg,h.vl,h.wn⟩;rw[f.block B8 A (λ e=>by have:=h.gl;have:=h.n8;omega)];exact h.b8
def Ss.set(h:Ss n0 w W g rb B8 B9 rv ys σ q c)(i)(A:i<3)(v):Ss n0 w (W.setCell ⟨B9,i,none⟩ (.int .i64 v)) g rb B8 B9 rv ys σ q (Bb c i v):=by have f:AD (λ k=>k=B9) W (W.setCell ⟨B9,i,none⟩ (.int .i64 v)):=(AD.refl (λ k=>k=B9) W).setCell (p:=⟨B9,i,none⟩) (λ _=>rfl) _;have r:=(za0.1 h.b8).1;have I:=h.n9;have E:=h.gl;have J:=h.rl;have K:=h.wn;refine⟨h.so.tch f (λ e=>by omega) (λ k e=>by omega),h.rr.tch f (λ e=>by omega) (λ k B e=>by have:=h.vl k B;omega),h.iv.set i A v,?_,h.tch.trans f (λ _ _ e=>by omega),h.n8,h.n9,h.ne,h.gl,h.rl,h.gr,h.nr,h.vg,h.vl,h.wn⟩;rw[f.block B8 r (λ e=>h.ne e)];exact h.b8
def Ss.blw(h:Ss n0 w W g rb B8 B9 rv ys σ q c)(f:Below W.heap.size W W'):Ss n0 w W' g rb B8 B9 rv ys σ q c:=by have r:=(za0.1 h.b8).1;refine⟨h.so.below f,h.rr.below f,h.iv.below f,?_,h.tch.trans (AD.of_below (S:=λ _=>False) f) (λ _ _ e=>e.elim),h.n8,h.n9,h.ne,h.gl,h.rl,h.gr,h.nr,h.vg,h.vl,h.wn⟩;rw[f.block B8 r];exact h.b8
def Ss.congr(h:Ss n0 w W g rb B8 B9 rv ys σ q c){d}(e:∀i,i<3->c i=d i):Ss n0 w W g rb B8 B9 rv ys σ q d:=
 ⟨h.so,h.rr,h.iv.congr e,h.b8,h.tch,h.n8,h.n9,h.ne,h.gl,h.rl,h.gr,h.nr,h.vg,h.vl,h.wn⟩
end
def AHL(n0 g rb σ rv ys p at_ cs)(sb A r B:Nat->Nat)(w)(hs:AZ n0 w g σ)(hr:Rr w rb rv ys p)(al:g≠rb)(am:n0<=rb)(au:rv.ownBlock≠some g)(av:n0<=w.heap.size)(hc:∀i,i<3->w.cell? ⟨sb i,A i+at_,none⟩=some (.int .i64 (cs i)))(aj:∀i,i<3->at_<r i)(ak:∀i,i<3->0<=cs i/\cs i<=16)(ap:∀i,i<3->sb i≠g/\sb i≠rb):
 Calls prog 172 #[.pointer (some ⟨g,0,none⟩),.pointer (some ⟨rb,0,none⟩),.agg #[.slice (some ⟨sb 0,A 0,none⟩) (r 0) (B 0),.slice (some ⟨sb 1,A 1,none⟩) (r 1) (B 1),.slice (some ⟨sb 2,A 2,none⟩) (r 2) (B 2)],.int .i64 (at_:Int)] w λ e w'=>
  e=.returned (.agg #[.int .i64 (Bo ys cs p 0),.int .i64 (Bo ys cs p 1+4),.int .i64 (Bo ys cs p 2+1)])/\AZ n0 w' g (Aj σ (Bm ys cs p 3).2)/\Rr w' rb rv ys (Bm ys cs p 3).1/\AD (λ k=>k=g\/k=rb) w w':=by
 have HC:=z6 hc;have az:=z6 aj;have ac:=z6 ak;have b2:=z6 ap;have H0:Hid (AZ n0 w g σ/\Rr w rb rv ys p/\g≠rb/\n0<=rb/\rv.ownBlock≠some g/\n0<=w.heap.size):=⟨hs,hr,al,am,au,av⟩
 clear hs hr al am au av hc aj ak ap
 go_enter func172,ntmps172
 go_wp2_with fail;obtain⟨W0,a1⟩:=exH (((w.alloc (.cells #[.slice (some ⟨sb 0,A 0,none⟩) (r 0) (B 0),.slice (some ⟨sb 1,A 1,none⟩) (r 1) (B 1),.slice (some ⟨sb 2,A 2,none⟩) (r 2) (B 2)] 254)).alloc (.cells #[.int .i64 0,.int .i64 0,.int .i64 0] 244)).alloc (.cells #[.int .i64 0,.int .i64 0,.int .i64 0] 301));rw[a1.o];have a3:Hid (Ss n0 w W0 g rb (w.heap.size+1) (w.heap.size+1+1) rv ys σ (Bm ys cs p 0) (λ i=>if i<0 then Bo ys cs p i else 0)):=by
  obtain⟨I,U,h3,h4,h5,h6⟩:=H0.o;have hb:Below w.heap.size w W0:=by rw[<-a1.o];exact(((Below.refl _ _).alloc (AE _) _).alloc (by simp only[World.size_alloc];omega) _).alloc (by simp only[World.size_alloc];omega) _
  refine⟨by simpa[Bm,Aj]using I.below hb,by simpa[Bm]using U.below hb,?_,?_,AD.of_below hb,by omega,by omega,by omega,I.lt,U.lt,h3,h4,h5,λ k hk=>U.own.lt k hk,h6⟩;unfold Iv;rw[<-a1.o];have:=heap_alloc_new ((w.alloc (.cells #[.slice (some ⟨sb 0,A 0,none⟩) (r 0) (B 0),.slice (some ⟨sb 1,A 1,none⟩) (r 1) (B 1),.slice (some ⟨sb 2,A 2,none⟩) (r 2) (B 2)] 254)).alloc (.cells #[.int .i64 0,.int .i64 0,.int .i64 0] 244)) (.cells #[.int .i64 0,.int .i64 0,.int .i64 0] 301);simp only[World.size_alloc]at this;exact this
  .rw[<-a1.o,Below.heap_alloc _ _ _ (by simp)];have:=heap_alloc_new (w.alloc (.cells #[.slice (some ⟨sb 0,A 0,none⟩) (r 0) (B 0),.slice (some ⟨sb 1,A 1,none⟩) (r 1) (B 1),.slice (some ⟨sb 2,A 2,none⟩) (r 2) (B 2)] 254)) (.cells #[.int .i64 0,.int .i64 0,.int .i64 0] 244);simp only[World.size_alloc]at this;exact this
 clear a1;obtain⟨B8,b4⟩:=exH (w.heap.size+1);obtain⟨B9,b5⟩:=exH (w.heap.size+1+1);rw[b5.o,b4.o]at a3 |-
 go_loopw [16] (λ i wr=>∃k:Nat,k<=3/\i=.int .i64 k/\Hid (Ss n0 w wr g rb B8 B9 rv ys σ (Bm ys cs p k) (λ i=>if i<k then Bo ys cs p i else 0))) (λ i _=>3-(intOf i).toNat)
 case atStart=>exact⟨0,by omega,rfl,a3⟩
 case round=>
  clear a3;obtain⟨k,hk,rfl,S⟩:=hrel;by_cases E:k<3
  .obtain⟨c,a7⟩:=exH (cs k);have Y:=ac.o k E;have b6:=az.o k E;have Z:=HC.o k E;rw[a7.o]at Y Z;obtain⟨xb,a9⟩:=exH (sb k);obtain⟨xo,ab⟩:=exH (A k);obtain⟨xn,aa⟩:=exH (r k);obtain⟨xc,ay⟩:=exH (B k);have HV:Hid ((#[.slice (some ⟨sb 0,A 0,none⟩) (r 0) (B 0),.slice (some ⟨sb 1,A 1,none⟩) (r 1) (B 1),.slice (some ⟨sb 2,A 2,none⟩) (r 2) (B 2)]:Array Value)[k]?=some (.slice (some ⟨xb,xo,none⟩) xn xc)):=by
    show _=_;rw[<-a9.o,<-ab.o,<-aa.o,<-ay.o]
    match k,E with
    | 0,_=>rfl
    | 1,_=>rfl
    | 2,_=>rfl
   have a2:=b2.o k E;rw[a9.o]at Z a2;rw[ab.o]at Z;rw[aa.o]at b6;have HX:Hid (∀W,AD (λ j=>j=g\/j=rb) w W->W.cell? ⟨xb,xo+at_,none⟩=some (.int .i64 c)):=λ W hW=>by rw[hW.cell (p:=⟨xb,xo+at_,none⟩) (zb0 w ⟨xb,xo+at_,none⟩ Z) (λ e=>by rcases e with e|e;(· exact a2.1 e);(· exact a2.2 e))];exact Z
   have cx:=HX.o wr S.o.tch;(have bf:(at_:Int)<(xn:Int):=by omega);(have bg:(k:Int)<3:=by omega);clear Z a2 a9 ab aa ay;obtain⟨q,hq⟩:=exH (BM c);(have bc:q<=15:=by rw[<-hq.o];unfold BM;omega);obtain⟨K,a8⟩:=exH ((Bm ys cs p k).1);obtain⟨f,a5⟩:=exH (Hm ys c K);have b7:=WL ys c K Y.2;rw[a5.o]at b7;obtain⟨X,hX⟩:=exH (Jn ys c K);have ad:Hid (∀W:World,Calls prog 202 #[.int .i64 c] W λ e w'=>e=.returned (.int .i64 (q:Int))/\w'=W):=λ W=>by have:=Ut c W Y.1 (by omega);rw[hq.o]at this;exact this
   (have af:Hid (Calls prog 212 #[.pointer (some ⟨rb,0,none⟩),.int .i64 (q:Int)] wr λ e w'=>e=.returned (.tuple #[.int .i64 f,.int .i64 X])/\Rr w' rb rv ys (IY ys c K)/\AD (λ k=>k=rb) wr w'):=by have I:=AHW rb rv ys K c wr (by rw[<-a8.o];exact S.o.rr) Y.2;rw[hq.o,a5.o,hX.o]at I;exact I);(have b3:Hid (Bm ys cs p (k+1)=(IY ys c K,(Bm ys cs p k).2&&(X==0))):=by show _=_;simp only[Bm];rw[a7.o,a8.o,hX.o]);(have ae:Hid (Bo ys cs p k=if 0<c then f+2 ^ q else f):=by show _=_;unfold Bo Kd;rw[a7.o,a8.o,a5.o,hq.o]);go_wp2_with(refine AIM _ rfl (.tmp 15) (.tmp 16) rfl _ k _ rfl rfl E HV.o ?_)
   refine(ad.o _).mono ?_;rintro e w1 ⟨rfl,rfl⟩;go_wp2_with fail;refine af.o.mono ?_;clear af;rintro e w2 ⟨rfl,an,aq⟩;have S2:Hid (Ss n0 w w2 g rb B8 B9 rv ys σ (IY ys c K,(Bm ys cs p k).2) (λ i=>if i<k then Bo ys cs p i else 0)):=S.o.took an aq;clear an aq S cx;go_wp2_with fail;refine(DQ n0 g _ (X==0) w2 S2.o.so).mono ?_;rintro e L ⟨rfl,ao,ar⟩;(have S3:Hid (Ss n0 w L g rb B8 B9 rv ys σ (Bm ys cs p (k+1)) (λ i=>if i<k then Bo ys cs p i else 0)):=by rw[b3.o];exact S2.o.asked ao ar);clear ao ar S2;have d9:L.cell? ⟨B9,k,none⟩=some (.int .i64 0):=by have:=S3.o.iv.at_ k E;simp only[Nat.lt_irrefl,if_false]at this;exact this
   have f9:=S3.o.iv.fz k;have O:Hid (Ss n0 w (L.setCell ⟨B9,k,none⟩ (.int .i64 f)) g rb B8 B9 rv ys σ (Bm ys cs p (k+1)) (Bb (λ i=>if i<k then Bo ys cs p i else 0) k f)):=S3.o.set k E f;by_cases a6:0<c
   .have a0:Hid (∀i,i<3->Bb (Bb (λ i=>if i<k then Bo ys cs p i else 0) k f) k (f+2 ^ q) i=if i<k+1 then Bo ys cs p i else 0):=λ i hi=>by unfold Bb;by_cases e:i=k;subst e;rw[if_pos rfl,if_pos (by omega),ae.o,if_pos a6];rw[if_neg e,if_neg e];show(if i<k then Bo ys cs p i else 0)=_;by_cases e2:i<k;rw[if_pos e2,if_pos (by omega)];rw[if_neg e2,if_neg (by omega)]
    have T:Hid (Ss n0 w ((L.setCell ⟨B9,k,none⟩ (.int .i64 f)).setCell ⟨B9,k,none⟩ (.int .i64 (f+2 ^ q))) g rb B8 B9 rv ys σ (Bm ys cs p (k+1)) (λ i=>if i<k+1 then Bo ys cs p i else 0)):=(O.o.set k E (f+2 ^ q)).congr a0.o;have ba:(2:Int) ^ q<=32768:=by have I:=Gt bc;(have e:(2:Int) ^ 15=32768:=by decide);omega
    (have bb:(0:Int)<2 ^ q:=Int.pow_pos (by decide);obtain⟨PP,ag⟩:=exH ((2:Int) ^ q);rw[ag.o]at T ba bb;clear a0 S3;(have bh:min q 64=q:=by omega);have hA:IntKind.i64.wrap PP=PP:=Bp _ (by omega) (by omega);have hB:IntKind.i64.wrap (f+PP)=f+PP:=Bp _ (by omega) (by omega);have e9:(L.setCell ⟨B9,k,none⟩ (.int .i64 f)).cell? ⟨B9,k,none⟩=some (.int .i64 f):=by have:=O.o.iv.at_ k E;simp only[Bb,if_true]at this;exact this);have g9:=O.o.iv.fz k;have tR:=ad.o;go_wp2_with fail;obtain⟨W4,ai⟩:=exH (L.setCell ⟨B9,k,none⟩ (.int .i64 f));rw[ai.o]at e9 g9 T |-
    clear ai O d9 f9;(have be:(0:Int)<=(k:Int):=by omega);refine wp_region_still_tail 8 (by kernel_rfl) (by kernel_rfl) ?_;simp only[List.take_succ_cons,List.take_zero,List.drop_succ_cons,List.drop_zero]
    repeat(first|still_step|still_call (tR _))
    refine wpStill_nil ?_;(have hE:IntKind.i64.wrap (f+IntKind.i64.wrap (2 ^ q))=f+PP:=by rw[ag.o,hA,hB]);rw[hE];go_wp2_with fail
    go_roundw
    (case rel=>exact⟨k+1,by omega,by go_num,by first|exact T|exact T.o.blw ((Below.refl _ _).drew)⟩);case measure=>simp[intOf];omega
   .have a0:Hid (∀i,i<3->Bb (λ i=>if i<k then Bo ys cs p i else 0) k f i=if i<k+1 then Bo ys cs p i else 0):=λ i hi=>by unfold Bb;by_cases e:i=k;subst e;rw[if_pos rfl,if_pos (by omega),ae.o,if_neg a6];rw[if_neg e];show(if i<k then Bo ys cs p i else 0)=_;by_cases e2:i<k;rw[if_pos e2,if_pos (by omega)];rw[if_neg e2,if_neg (by omega)]
    have T:Hid (Ss n0 w (L.setCell ⟨B9,k,none⟩ (.int .i64 f)) g rb B8 B9 rv ys σ (Bm ys cs p (k+1)) (λ i=>if i<k+1 then Bo ys cs p i else 0)):=O.o.congr a0.o;have bd:=a6;clear a0 S3 O;go_wp2_with fail
    go_roundw
    (case rel=>exact⟨k+1,by omega,by go_num,T⟩);case measure=>simp[intOf];omega
  .obtain rfl:k=3:=by omega
   have vb:∀i,i<3->0<=Bo ys cs p i/\Bo ys cs p i<=65535:=λ i hi=>by have Y:=ac.o i hi;have I:=WL ys (cs i) (Bm ys cs p i).1 Y.2;have U:(2:Int) ^ BM (cs i)<=2 ^ 15:=Gt (by unfold BM;omega);have h3:(0:Int)<2 ^ BM (cs i):=Int.pow_pos (by decide);(have e:(2:Int) ^ 15=32768:=by decide);unfold Bo Kd;split<;>omega
   have v0:=vb 0 (by omega);have v1:=vb 1 (by omega);have v2:=vb 2 (by omega);have c0:=S.o.iv.at_ 0 (by omega);have c1:=S.o.iv.at_ 1 (by omega);have c2:=S.o.iv.at_ 2 (by omega);have J:=S.o.b8;(have d0:wr.cell? ⟨B8,0,none⟩=some (.int .i64 0):=by rw[cell_of_row wr B8 0 _ _ (0,0) J];rfl);(have d1:wr.cell? ⟨B8,1,none⟩=some (.int .i64 0):=by rw[cell_of_row wr B8 1 _ _ (0,0) J];rfl);(have d2:wr.cell? ⟨B8,2,none⟩=some (.int .i64 0):=by rw[cell_of_row wr B8 2 _ _ (0,0) J];rfl);have f0:=frozen_of_row wr B8 0 _ _ J;have f1:=frozen_of_row wr B8 1 _ _ J;have f2:=frozen_of_row wr B8 2 _ _ J;obtain⟨x0,aw⟩:=exH (Bo ys cs p 0);obtain⟨x1,hx1⟩:=exH (Bo ys cs p 1);obtain⟨x2,ax⟩:=exH (Bo ys cs p 2)
   rw[aw.o]at c0 v0;rw[hx1.o]at c1 v1;rw[ax.o]at c2 v2;clear vb E;have b0:=z6 J;clear J;go_wp2_with fail;obtain⟨WF,a4⟩:=exN (((wr.setCell ⟨B8,0,none⟩ (.int .i64 x0)).setCell ⟨B8,1,none⟩ (.int .i64 (x1+4))).setCell ⟨B8,2,none⟩ (.int .i64 (x2+1)));have b9:WF.heap[B8]?=some (.cells #[.int .i64 x0,.int .i64 (x1+4),.int .i64 (x2+1)] 244 (0,0)):=by rw[<-a4];have I:=heap_setCell_same wr B8 0 _ _ (.int .i64 x0) b0.o;have U:=heap_setCell_same _ B8 1 _ _ (.int .i64 (x1+4)) I;rw[heap_setCell_same _ B8 2 _ _ (.int .i64 (x2+1)) U];rfl
   (have ht:AD (λ k=>k=B8) wr WF:=by rw[<-a4];exact(((AD.refl (λ k=>k=B8) wr).setCell (p:=⟨B8,0,none⟩) (λ _=>rfl) _).setCell (p:=⟨B8,1,none⟩) (λ _=>rfl) _).setCell (p:=⟨B8,2,none⟩) (λ _=>rfl) _);rw[a4];have n8:=S.o.n8;have gl:=S.o.gl;have rl:=S.o.rl;have wn:=S.o.wn;refine bodyPost_ret (v:=.agg #[.int .i64 x0,.int .i64 (x1+4),.int .i64 (x2+1)]) ?_ rfl ⟨?_,S.o.so.tch ht (λ e=>by omega) (λ k e=>by omega),S.o.rr.tch ht (λ e=>by omega) (λ k hk e=>by have:=S.o.vl k hk;omega),S.o.tch.trans ht (λ i hi e=>by omega)⟩
   .refine Kj (p:=8) (ty:=244) rfl _ _ _ B8 _ rfl ?_;exact run_loadVar_mid (P:=prog) WF B8 0 244 [.int .i64 x0,.int .i64 (x1+4),.int .i64 (x2+1)] _ (λ j v Am=>by
     rw[Nat.zero_add,cell_of_row WF B8 j _ _ (0,0) b9];simpa using Am) underlying244 rfl (by kernel_rfl)
   .rw[aw.o,hx1.o,ax.o]
