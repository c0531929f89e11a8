import Derived.Test.YtihofcopapmjlaaGreatPHRev
import Derived.Test.YtihofcopapmjlaaGreatPFGetP
import Derived.Deep.RegionWith
set_option maxRecDepth 100000
set_option linter.all false
set_option maxHeartbeats 8000000
namespace Go.Proofs.YtihofcopapmjlaaGreat
open Go.Proofs.Tryz
open Go.RowKit Pl
def Db(v:Int)(s:Nat):List Int:=(List.range s).map λ i=>v / 2 ^ (s-1-i) % 2
def FU(s:Nat)(v:Int):Int:=IU v / 2 ^ (16-s)
def Jr(n)(f:0<=n)(q:n<2 ^ 16):IntKind.u16.wrap n=n:=by
 simp only[IntKind.wrap,IntKind.signed,IntKind.bits]
 grind
def Xa(x:Nat)(h:x<65536):Go.bits BinOp.and IntKind.u16 (x:Int) 255=(x:Int) % 256:=by
 have:=(bits_nat .u16 16 (by decide) Jr x 255 h (by decide)).1;have e:=Nat.and_two_pow_sub_one_eq_mod x 8
 grind
def DM(n:Nat):Nat:=n % 2*128+n / 2 % 2*64+n / 4 % 2*32+n / 8 % 2*16+n / 16 % 2*8+n / 32 % 2*4+n / 64 % 2*2+n / 128 % 2
def AE9:∀n:Fin 256,Lib.rev8 (n.val:Int)=(DM n.val:Int):=by decide +kernel
def Uw(n:Nat)(h:n<256):Lib.rev8 (n:Int)=(DM n:Int):=AE9 ⟨n,h⟩
def Mq(n):DM n<256:=by unfold DM;omega
def AE8(v:Nat)(h:v<65536):IU v=((DM (v / 256)+DM (v % 256)*256:Nat):Int):=by
 have f:(v:Int) / 256=((v / 256:Nat):Int):=by omega
 have q:(v:Int) % 256=((v % 256:Nat):Int):=by omega
 have A:=Mq (v / 256);have B:=Mq (v % 256);unfold IU;rw[f,q,Uw _ (by omega),Uw _ (by omega),Jr (DM (v / 256)) (by omega) (by omega),Jr (DM (v % 256)) (by omega) (by omega),Jr ((DM (v % 256):Int)*256) (by omega) (by omega)];have r:(DM (v % 256):Int)*256=((DM (v % 256)*2 ^ 8:Nat):Int):=by omega
 rw[r,(bits_nat .u16 16 (by decide) Jr _ _ (by omega) (by omega)).2,Ke _ _ 8 (by omega)]
def AE7:((List.range 2048).all λ v=>(List.range 16).all λ p=>(DM (v / 256)+DM (v % 256)*256) / 2 ^ p % 2==v / 2 ^ (15-p) % 2)=true:=by decide +kernel
def AE6(v)(h:v<2048)(p)(q:p<16):(DM (v / 256)+DM (v % 256)*256) / 2 ^ p % 2=v / 2 ^ (15-p) % 2:=by have f:=AE7;simp_all
def WV(s v:Nat)(I:s<=11)(hv:v<2 ^ s):0<=IU v/\IU v<65536/\0<=FU s v/\FU s v<2 ^ s/\Aa (FU s v) s=Db v s:=by
 have J:2 ^ s<=2 ^ 11:=Nat.pow_le_pow_right (by decide) I;have e:=AE8 v (by omega);have L:=Mq (v / 256);have O:=Mq (v % 256);obtain⟨R,E⟩:=exN (DM (v / 256)+DM (v % 256)*256);have q:=AE6 v (by omega);rw[E]at e q;have r:FU s v=((R / 2 ^ (16-s):Nat):Int):=by unfold FU;grind
 have K:R / 2 ^ (16-s)<2 ^ s:=by rw[Nat.div_lt_iff_lt_mul (Nat.pow_pos (by decide)),<-Nat.pow_add,show s+(16-s)=16 by omega];omega
 refine⟨by omega,by omega,by grind,by grind,?_⟩;rw[r];refine Hc (by rw[Bc];simp[Db]) (λ i f=>?_);rw[Bc]at f;rw[Ik,if_pos f];have A:(Db v s).getD i 0=(v:Int) / 2 ^ (s-1-i) % 2:=by simp[Db,AP,f]
 rw[A];have B:=q (16-s+i) (by omega);rw[Nat.pow_add,<-Nat.div_div_eq_div_mul,show 15-(16-s+i)=s-1-i by omega]at B
 grind
def AFA(v:Nat)(R x:Int)(w)(h:v<65536)(f:IU v=R)(q:x=v):Calls prog 248 #[.int .u16 x] w λ e w'=>e=.returned (.int .u16 R)/\∃m,w'=w.drewN m:=by rw[<-f,q];refine(AFB v w (by omega) (by omega) (Xa v h)).mono ?_;rintro e w' ⟨rfl,rfl⟩;exact⟨rfl,1,rfl⟩
def AHk(s v:Nat)(w)(J:s<=11)(hv:v<2 ^ s):
 Calls prog 222 #[.agg #[.int .i64 s,.int .i64 v]] w λ e w'=>e=.returned (.int .i64 (FU s v))/\Below w.heap.size w w':=by
 obtain⟨f,O,B,E,T⟩:=WV s v J hv;have U:v<65536:=by have:2 ^ s<=2 ^ 11:=Nat.pow_le_pow_right (by decide) J;omega
 have K:=z6 U;obtain⟨R,r⟩:=exH (IU v);have A:Hid (FU s v=R / 2 ^ (16-s)):=by show _=_;unfold FU;rw[r.o]
 rw[r.o]at f O;rw[A.o];have Y:=Jr v (by omega) (by omega);have X:IntKind.i64.wrap (16-(s:Int))=((16-s:Nat):Int):=by rw[Bp _ (by omega) (by omega)];omega
 obtain⟨q,I⟩:∃q:Nat,Hid (16-s=q):=⟨_,rfl⟩
 rw[I.o]at X A |-
 have Z:q<=16:=by have:=I.o;omega
 have L:=z6 Y;clear B E T hv
 go_enter func222,ntmps222
 go_wp2_with fail;go_quiet ((go_at_call 248;exact Calls.quiet_of (AFA v R _ _ K.o r.o (by first|rfl|exact L.o|omega))));go_wp2_with fail;go_ret;have B:0<=R / 2 ^ q:=Int.ediv_nonneg f (Int.le_of_lt (Int.pow_pos (by decide)));have E:R / 2 ^ q<=R:=Int.ediv_le_self _ f;have W:wrap64 (R / 2 ^ q)=R / 2 ^ q:=IntWalk.wrap64_in _ ⟨by omega,by omega⟩;refine⟨?_,((Below.refl _ _).alloc (AE _) _).trans (Below.of_drewN _ _ _)⟩;show Ending.returned (.int .i64 (wrap64 (R / 2 ^ q)))=_;rw[W]
def cnt(ls:List Int)(s:Nat):Nat->Nat
 | 0=>0
 | k+1=>cnt ls s k+if ls.getD k 0=(s:Int)then 1 else 0
def CA(ls:List Int):Nat->Nat
 | 0=>0
 | s+1=>2*CA ls s+cnt ls (s+1) ls.length
abbrev nx(ls:List Int)(s b:Nat):Nat:=2*CA ls s+cnt ls (s+1) b
def FP(ls:List Int)(s:Nat):Nat->Nat
 | 0=>0
 | k+1=>FP ls s k+if 0<ls.getD k 0/\ls.getD k 0<=(s:Int)then 2 ^ (11-(ls.getD k 0).toNat)else 0
def AFF(ls s k)(q:s+1<=11):FP ls (s+1) k=FP ls s k+cnt ls (s+1) k*2 ^ (11-(s+1)):=by
 induction k with
 | zero=>simp[FP,cnt]
 | succ k f=>
  simp only[FP,cnt,f]
  grind
def AFG(ls k):FP ls 0 k=0:=by
 induction k with
 | zero=>rfl
 | succ k f=>simp only[FP,f];simp
def ADa(ls s)(q:s<=11):CA ls s*2 ^ (11-s)=FP ls s ls.length:=by
 induction s with
 | zero=>simp[CA,AFG]
 | succ s r=>
  have f:=r (by omega);have e:11-s=(11-(s+1))+1:=by omega
  rw[AFF ls s _ q,<-f,e,CA,Nat.add_mul,Nat.pow_succ]
  grind
def AFE(ls k)(h:∀i,i<k->ls.getD i 0<=11):(FP ls 11 k:Int)=Cd ls k:=by
 induction k with
 | zero=>rfl
 | succ k q=>
  have f:=h k (by omega);simp only[FP,Cd]
  grind
def AFD(ls s t k)(h:s<=t):FP ls s k<=FP ls t k:=by
 induction k with
 | zero=>exact AE _
 | succ k f=>
  simp only[FP]
  grind
def Rj(ls s){a b}(h:a<=b):cnt ls s a<=cnt ls s b:=by
 induction b with
 | zero=>grind
 | succ b f=>
  by_cases e:a=b+1
  .grind
  .have:=f (by omega);simp only[cnt];omega
def Nu(ls)(s:Nat){a b}(h:a<b)(f:ls.getD a 0=(s:Int)):cnt ls s a+1<=cnt ls s b:=by
 have:=Rj ls s (a:=a+1) (b:=b) (by omega);simp only[cnt]at this
 grind
structure Bg(ls:List Int):Prop where
 most:ls.length<=256
 each:∀i,i<ls.length->0<=ls.getD i 0/\ls.getD i 0<=11
 room:Cd ls ls.length<=2048
def Bg.of{ls}(h:BE ls=true):Bg ls:=by
 unfold BE at h;rw[zg1]at h;refine⟨h.1,h.2.1,?_⟩
 grind
def Bg.nxE_le{ls}(h:Bg ls){s}(q:s<=11):CA ls s*2 ^ (11-s)<=2048/\CA ls s<=2 ^ s:=by
 have A:=ADa ls s q;have B:=AFD ls s 11 ls.length q;have E:=AFE ls ls.length (λ i r=>(h.each i r).2);have I:=h.room;have f:CA ls s*2 ^ (11-s)<=2048:=by omega
 refine⟨f,?_⟩;have e:(2048:Nat)=2 ^ s*2 ^ (11-s):=by rw[<-Nat.pow_add,show s+(11-s)=11 by omega]
 rw[e]at f;exact Nat.le_of_mul_le_mul_right f (Nat.pow_pos (by decide))
def Bg.pow{s}(f:s<=11):2 ^ s<=2048:=by have:2 ^ s<=2 ^ 11:=Nat.pow_le_pow_right (by decide) f;omega
def Bg.fits{ls}(h:Bg ls){s b}(A:s+1<=11)(q:b<ls.length)(r:ls.getD b 0=((s+1:Nat):Int)):nx ls s b<2 ^ (s+1):=by
 have f:=(h.nxE_le A).2;have B:=Nu ls (s+1) q r;simp only[CA]at f
 grind
def ADZ(ls){s t}(h:s<=t):2 ^ (t-s)*CA ls s<=CA ls t:=by
 induction t with
 | zero=>grind
 | succ t f=>
  by_cases e:s=t+1
  .grind
  .have q:=f (by omega);rw[show t+1-s=(t-s)+1 by omega,Nat.pow_succ,Nat.mul_comm (2 ^ _) 2,Nat.mul_assoc];simp only[CA];omega
def Rl(ls){s t b c}(J:s<t)(q:b<ls.length)(r:ls.getD b 0=((s+1:Nat):Int)):nx ls s b<nx ls t c / 2 ^ (t-s):=by
 rw[Nat.lt_iff_add_one_le,Nat.le_div_iff_mul_le (Nat.pow_pos (by decide))];have A:=Nu ls (s+1) q r;have f:nx ls s b+1<=CA ls (s+1):=by simp only[CA,nx];omega
 have B:=ADZ ls (show s+1<=t by omega);have E:(nx ls s b+1)*2 ^ (t-s)<=CA ls (s+1)*2 ^ (t-s):=Nat.mul_le_mul_right _ f;have e:2 ^ (t-s)=2*2 ^ (t-(s+1)):=by rw[show t-s=(t-(s+1))+1 by omega,Nat.pow_succ,Nat.mul_comm]
 have I:CA ls (s+1)*2 ^ (t-s)=2*(2 ^ (t-(s+1))*CA ls (s+1)):=by grind
 grind
def Ro(ls){s b c}(f:b<c)(q:ls.getD b 0=((s+1:Nat):Int)):nx ls s b<nx ls s c:=by
 have:=Nu ls (s+1) f q
 grind
def cd(ls:List Int)(b:Nat):Int×Int:=if 0<ls.getD b 0 then(ls.getD b 0,(nx ls ((ls.getD b 0).toNat-1) b:Int))else(0,0)
def Bw(ls:List Int)(s b:Nat):List (Int×Int):=(List.range 256).map λ c=>if 0<ls.getD c 0/\(ls.getD c 0<(s:Int)\/(ls.getD c 0=(s:Int)/\c<b))then cd ls c else(0,0)
def CK(ls:List Int):List (Int×Int):=(List.range 256).map (cd ls)
def GB(f:Nat->Int×Int)(n b)(h:b<n):((List.range n).map f).getD b (0,0)=f b:=by grind
def H8(ls s b):(Bw ls s b).length=256:=by simp[Bw]
def J7(ls):(CK ls).length=256:=by simp[CK]
def KU{xs ys:List (Int×Int)}(f:xs.length=ys.length)(h:∀i,i<xs.length->xs.getD i (0,0)=ys.getD i (0,0)):xs=ys:=by
 apply List.ext_getElem f
 grind
def AAR(n i):(List.replicate n ((0:Int),(0:Int))).getD i (0,0)=(0,0):=by grind
def Yf(ls):Bw ls 1 0=List.replicate 256 (0,0):=by refine KU (by rw[H8,zm0]) (λ i f=>?_);rw[H8]at f;unfold Bw;rw[GB _ _ i f,if_neg (by omega),AAR]
def Ye(ls s)(h:ls.length<=256):Bw ls s ls.length=Bw ls (s+1) 0:=by
 refine KU (by simp[Bw]) (λ i f=>?_);rw[H8]at f;unfold Bw;rw[GB _ _ i f,GB _ _ i f]
 grind
def Yc(ls s b)(A:b<256)(r:ls.getD b 0=((s+1:Nat):Int)):Bw ls (s+1) (b+1)=(Bw ls (s+1) b).set b (((s+1:Nat):Int),(nx ls s b:Int)):=by
 refine KU (by simp[Bw]) (λ i f=>?_);rw[H8]at f;have q:((Bw ls (s+1) b).set b (((s+1:Nat):Int),(nx ls s b:Int))).getD i (0,0)=if i=b then(((s+1:Nat):Int),(nx ls s b:Int))else(Bw ls (s+1) b).getD i (0,0):=by
  simp only[AP,zy0,H8]
  grind
 rw[q];unfold Bw;rw[GB _ _ i f,GB _ _ i f];by_cases e:i=b
 .subst e;rw[if_pos ⟨by omega,.inr ⟨r,by omega⟩⟩,if_pos rfl];unfold cd
  grind
 grind
def Yd(ls)(s b:Nat)(A:ls.getD b 0≠(s:Int)):Bw ls s (b+1)=Bw ls s b:=by
 refine KU (by simp[Bw]) (λ i q=>?_);rw[H8]at q;unfold Bw;rw[GB _ _ i q,GB _ _ i q];by_cases h:0<ls.getD i 0/\(ls.getD i 0<(s:Int)\/(ls.getD i 0=(s:Int)/\i<b));rw[if_pos h,if_pos ⟨h.1,by have:=h.2;omega⟩]
 .rw[if_neg h,if_neg];rintro⟨r,f⟩;apply h;refine⟨r,?_⟩;rcases f with f|⟨f,B⟩
  .exact .inl f
  .by_cases e:i=b;subst e;exact absurd f A;exact .inr ⟨f,by omega⟩
def Yb{ls}(h:Bg ls):Bw ls 12 0=CK ls:=by
 refine KU (by simp[Bw,CK]) (λ i f=>?_);rw[H8]at f;unfold Bw CK;rw[GB _ _ i f,GB _ _ i f];by_cases e:0<ls.getD i 0
 .have:ls.getD i 0<=11:=by
   by_cases q:i<ls.length;exact(h.each i q).2
   grind
  grind
 .rw[if_neg (λ x=>e x.1)];unfold cd
  grind
