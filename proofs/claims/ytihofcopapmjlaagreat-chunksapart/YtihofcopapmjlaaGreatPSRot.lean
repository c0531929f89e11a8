import Derived.Test.YtihofcopapmjlaaGreatPFCat
import Derived.Deep.RegionWith
set_option maxRecDepth 100000
set_option linter.all false
set_option maxHeartbeats 8000000
namespace Go.Proofs.YtihofcopapmjlaaGreat
open Go.Proofs.Tryz
open Go.RowKit Pl
def Ap(n x:Nat):Nat:=x / 2 ^ n+x % 2 ^ n*2 ^ (32-n)
def DL(n x)(r:0<n)(B:n<32)(E:x<4294967296):Ap n x<4294967296:=by
 unfold Ap;have A:x / 2 ^ n<2 ^ (32-n):=by rw[Nat.div_lt_iff_lt_mul (Nat.pow_pos (by decide)),<-Nat.pow_add,show 32-n+n=32 by omega];omega
 have f:x % 2 ^ n<2 ^ n:=Nat.mod_lt _ (Nat.pow_pos (by decide));have q:x % 2 ^ n*2 ^ (32-n)+2 ^ (32-n)<=2 ^ n*2 ^ (32-n):=by rw[<-Nat.succ_mul];exact Nat.mul_le_mul_right _ f
 rw[<-Nat.pow_add,show n+(32-n)=32 by omega]at q;omega
def AFN(n x)(q:0<n)(r:n<32)(A:x<4294967296):(x*2 ^ (32-n) % 4294967296) ||| (x / 2 ^ n)=Ap n x:=by
 have f:x / 2 ^ n<2 ^ (32-n):=by rw[Nat.div_lt_iff_lt_mul (Nat.pow_pos (by decide)),<-Nat.pow_add,show 32-n+n=32 by omega];omega
 have e:x*2 ^ (32-n) % 4294967296=x % 2 ^ n*2 ^ (32-n):=by rw[show(4294967296:Nat)=2 ^ n*2 ^ (32-n) by rw[<-Nat.pow_add,show n+(32-n)=32 by omega],Nat.mul_mod_mul_right]
 rw[e,nat_join (32-n) _ _ (by simp) f];unfold Ap;omega
def XV(n:Nat)(f:0<n)(q:n<32):Go.bits .and .u64 (IntKind.u64.wrap (-(n:Int))) 31=((32-n:Nat):Int):=by
 rw[IntKind.wrap_u64,show(-(n:Int)) % 18446744073709551616=((18446744073709551616-n:Nat):Int) by omega];have:=u64_and_nat (18446744073709551616-n) 31 (by omega) (by decide);rw[nat_mask5]at this
 grind
def AFC(x n:Nat)(w)(f:0<n)(r:n<32)(A:x<4294967296):
 Calls prog 153 #[.int .u32 x,.int .i64 (-(n:Int))] w λ e w'=>e=.returned (.int .u32 (Ap n x:Int))/\w'=w:=by
 have I:=XV n f r;obtain⟨m,q⟩:=exN (32-n);rw[q]at I;have B:Go.bits .or .u32 ((x:Int)*2 ^ m % 4294967296) ((x:Int) / 2 ^ n)=(Ap n x:Int):=by rw[<-AFN n x f r A,<-q,show(x:Int)*2 ^ (32-n) % 4294967296=((x*2 ^ (32-n) % 4294967296:Nat):Int) by rw[Int.natCast_emod,Int.natCast_mul,Int.natCast_pow];rfl,show(x:Int) / 2 ^ n=((x / 2 ^ n:Nat):Int) by rw[Int.natCast_ediv,Int.natCast_pow];rfl];exact u32_or_nat _ _ (Nat.mod_lt _ (by decide)) (Nat.lt_of_le_of_lt (Nat.div_le_self _ _) A)
 have J:(0:Int)<=(m:Int):=by omega
 have K:(m:Int)<=31:=by omega
 have L:(32:Int)-(m:Int)=(n:Int):=by omega
 have O:(32-(m:Int)) % 18446744073709551616=(n:Int):=by omega
 obtain⟨R,E⟩:=exN (Ap n x);rw[E]at B |-
 go_enter func153,ntmps153
 go_wp2;go_ret;exact⟨rfl,rfl⟩
def Gr(x n:Nat)(w)(f:0<n)(q:n<32)(r:x<4294967296):
 Calls prog 122 #[.int .u32 x,.int .i64 (n:Int)] w λ e w'=>e=.returned (.int .u32 (Ap n x:Int))/\w'=w:=by
 have A:((0-(n:Int))+9223372036854775808) % 18446744073709551616-9223372036854775808=-(n:Int):=by omega
 have B:(-(n:Int)+9223372036854775808) % 18446744073709551616-9223372036854775808=-(n:Int):=by omega
 go_enter func122,ntmps122
 go_wp2_with(go_at_call 153;refine(AFC x n _ f q r).mono ?_;rintro e E ⟨rfl,rfl⟩)
 go_ret;exact⟨rfl,rfl⟩
def EU{a b}(ha:a<4294967296)(f:b<4294967296):a ^^^ b<4294967296:=Nat.xor_lt_two_pow (n:=32) ha f
def FY(a){b}(f:b<4294967296):a &&& b<4294967296:=Nat.and_lt_two_pow (n:=32) a f
def wd(b:Nat->Nat)(i:Nat):Nat:=b (4*i)*16777216+b (4*i+1)*65536+b (4*i+2)*256+b (4*i+3)
def Wi{b}(h:∀j,b j<256)(i):wd b i<4294967296:=by have f:=h (4*i);have q:=h (4*i+1);have r:=h (4*i+2);have A:=h (4*i+3);unfold wd;omega
def g0(x:Nat):Nat:=Ap 7 x ^^^ Ap 18 x ^^^ x / 8
def g1(x:Nat):Nat:=Ap 17 x ^^^ Ap 19 x ^^^ x / 1024
def AAN{x}(h:x<4294967296):g0 x<4294967296:=EU (EU (DL 7 x (by decide) (by decide) h) (DL 18 x (by decide) (by decide) h)) (by omega)
def AAO{x}(h:x<4294967296):g1 x<4294967296:=EU (EU (DL 17 x (by decide) (by decide) h) (DL 19 x (by decide) (by decide) h)) (by omega)
def wF(d:Nat->Nat)(i:Nat):Nat:=
 if h:i<16 then d i
 else(wF d (i-16)+g0 (wF d (i-15))+wF d (i-7)+g1 (wF d (i-2))) % 4294967296
termination_by i
decreasing_by all_goals omega
def Qe(d i)(h:i<16):wF d i=d i:=by rw[wF,dif_pos h]
def Qd(d p):wF d (p+16)=(wF d p+g0 (wF d (p+1))+wF d (p+9)+g1 (wF d (p+14))) % 4294967296:=by rw[wF,dif_neg (by omega)];simp
def Wh{d}(h:∀i,d i<4294967296)(i):wF d i<4294967296:=by
 rw[wF]
 grind
def AIA{d f:Nat->Nat}{n}(A:∀i,i<16->i<n->f i=d i)(B:∀p,p+16<n->f (p+16)=(f p+g0 (f (p+1))+f (p+9)+g1 (f (p+14))) % 4294967296)(i)(r:i<n):wF d i=f i:=by
 induction i using Nat.strongRecOn with
 | ind i q=>
  by_cases c:i<16;rw[Qe d i c,A i c r]
  .obtain⟨p,rfl⟩:∃p,i=p+16:=⟨i-16,by omega⟩
   rw[Qd,B p r,q p (by omega) (by omega),q (p+1) (by omega) (by omega),q (p+9) (by omega) (by omega),q (p+14) (by omega) (by omega)]
def AH9{d e}(h:∀i,i<16->d i=e i)(i):wF d i=wF e i:=
 AIA (n:=i+1) (λ j f _=>by rw[Qe e j f,h j f]) (λ p _=>Qd e p) i (Nat.lt_succ_self i)
structure St where
 a:Nat
 b:Nat
 c:Nat
 d:Nat
 e:Nat
 f:Nat
 g:Nat
 h:Nat
deriving DecidableEq
def St.at_(s:St)(i:Nat):Nat:=if i=0 then s.a else if i=1 then s.b else if i=2 then s.c else if i=3 then s.d else if i=4 then s.e else if i=5 then s.f else if i=6 then s.g else s.h
structure St.ok(s:St):Prop where
 a:s.a<4294967296
 b:s.b<4294967296
 c:s.c<4294967296
 d:s.d<4294967296
 e:s.e<4294967296
 f:s.f<4294967296
 g:s.g<4294967296
 h:s.h<4294967296
def St.ok.at_{s:St}(h:s.ok)(i):s.at_ i<4294967296:=by
 obtain⟨f,q,r,A,B,E,I,J⟩:=h;unfold St.at_
 grind
def s1(e:Nat):Nat:=Ap 6 e ^^^ Ap 11 e ^^^ Ap 25 e
def s0(a:Nat):Nat:=Ap 2 a ^^^ Ap 13 a ^^^ Ap 22 a
def ch(e f g:Nat):Nat:=(e &&& f) ^^^ ((4294967295-e) &&& g)
def mj(a b c:Nat):Nat:=(a &&& b) ^^^ (a &&& c) ^^^ (b &&& c)
def tt(s:St)(k w:Nat):Nat:=(s.h+s1 s.e+ch s.e s.f s.g+k+w) % 4294967296
def uu(s:St):Nat:=(s0 s.a+mj s.a s.b s.c) % 4294967296
def Mm(s:St)(k w:Nat):St:=⟨(tt s k w+uu s) % 4294967296,s.a,s.b,s.c,(s.d+tt s k w) % 4294967296,s.e,s.f,s.g⟩
def Hi(k w:Nat->Nat)(s:St):Nat->St
 | 0=>s
 | i+1=>Mm (Hi k w s i) (k i) (w i)
def St.add(s r:St):St:=⟨(s.a+r.a) % 4294967296,(s.b+r.b) % 4294967296,(s.c+r.c) % 4294967296,(s.d+r.d) % 4294967296,(s.e+r.e) % 4294967296,(s.f+r.f) % 4294967296,(s.g+r.g) % 4294967296,(s.h+r.h) % 4294967296⟩
def Gi(k w:Nat->Nat)(s:St):St:=s.add (Hi k w s 64)
def AFf{x}(h:x<4294967296):s1 x<4294967296:=EU (EU (DL 6 x (by decide) (by decide) h) (DL 11 x (by decide) (by decide) h)) (DL 25 x (by decide) (by decide) h)
def AFe{x}(h:x<4294967296):s0 x<4294967296:=EU (EU (DL 2 x (by decide) (by decide) h) (DL 13 x (by decide) (by decide) h)) (DL 22 x (by decide) (by decide) h)
def Yj{e f g}(q:f<4294967296)(r:g<4294967296):ch e f g<4294967296:=EU (FY _ q) (FY _ r)
def AC5{a b c}(f:b<4294967296)(hc:c<4294967296):mj a b c<4294967296:=EU (EU (FY _ f) (FY _ hc)) (FY _ hc)
def AFK{s}(h:s.ok)(k w):(Mm s k w).ok:=⟨Nat.mod_lt _ (by decide),h.a,h.b,h.c,Nat.mod_lt _ (by decide),h.e,h.f,h.g⟩
def Pk{s:St}(h:s.ok)(k w:Nat->Nat):∀i,(Hi k w s i).ok
 | 0=>h
 | i+1=>AFK (Pk h k w i) _ _
def Qx(s r:St):(s.add r).ok:=⟨Nat.mod_lt _ (by decide),Nat.mod_lt _ (by decide),Nat.mod_lt _ (by decide),Nat.mod_lt _ (by decide),Nat.mod_lt _ (by decide),Nat.mod_lt _ (by decide),Nat.mod_lt _ (by decide),Nat.mod_lt _ (by decide)⟩
def XN(s r:St)(i)(f:i<8):(s.add r).at_ i=(s.at_ i+r.at_ i) % 4294967296:=by
 match i,f with
 | 0,_=>rfl|1,_=>rfl|2,_=>rfl|3,_=>rfl|4,_=>rfl|5,_=>rfl|6,_=>rfl|7,_=>rfl
def kW:List Nat:=[0x428a2f98,0x71374491,0xb5c0fbcf,0xe9b5dba5,0x3956c25b,0x59f111f1,0x923f82a4,0xab1c5ed5,
 0xd807aa98,0x12835b01,0x243185be,0x550c7dc3,0x72be5d74,0x80deb1fe,0x9bdc06a7,0xc19bf174,
 0xe49b69c1,0xefbe4786,0x0fc19dc6,0x240ca1cc,0x2de92c6f,0x4a7484aa,0x5cb0a9dc,0x76f988da,
 0x983e5152,0xa831c66d,0xb00327c8,0xbf597fc7,0xc6e00bf3,0xd5a79147,0x06ca6351,0x14292967,
 0x27b70a85,0x2e1b2138,0x4d2c6dfc,0x53380d13,0x650a7354,0x766a0abb,0x81c2c92e,0x92722c85,
 0xa2bfe8a1,0xa81a664b,0xc24b8b70,0xc76c51a3,0xd192e819,0xd6990624,0xf40e3585,0x106aa070,
 0x19a4c116,0x1e376c08,0x2748774c,0x34b0bcb5,0x391c0cb3,0x4ed8aa4a,0x5b9cca4f,0x682e6ff3,
 0x748f82ee,0x78a5636f,0x84c87814,0x8cc70208,0x90befffa,0xa4506ceb,0xbef9a3f7,0xc67178f2]
def kF(i:Nat):Nat:=kW.getD i 0
def ABg(i):kF i<4294967296:=by
 by_cases h:i<64
 .have:∀j:Fin 64,kF j.val<4294967296:=by decide +kernel
  exact this ⟨i,h⟩
 .unfold kF;rw[AP,zn0 (by show 64<=i;omega)];decide
def ER:St:=⟨0x6a09e667,0xbb67ae85,0x3c6ef372,0xa54ff53a,0x510e527f,0x9b05688c,0x1f83d9ab,0x5be0cd19⟩
def QI:ER.ok:=⟨by decide,by decide,by decide,by decide,by decide,by decide,by decide,by decide⟩
def dg(b:Nat->Nat):Nat->St
 | 0=>ER
 | p+1=>Gi kF (wF (wd λ j=>b (64*p+j))) (dg b p)
def Zg(b:Nat->Nat):∀p,(dg b p).ok
 | 0=>QI
 | p+1=>Qx _ _
def AC2{k w f w'}(s)(r:∀i,i<64->k i=f i)(A:∀i,i<64->w i=w' i):Gi k w s=Gi f w' s:=by
 have h:∀i,i<=64->Hi k w s i=Hi f w' s i:=by
  intro i;induction i with
  | zero=>intro _;rfl
  | succ i B=>intro q;simp only[Hi];grind
 unfold Gi;grind
def Ga(s:St)(i:Nat):Nat:=s.at_ (i / 4) / 2 ^ (24-8*(i % 4)) % 256
