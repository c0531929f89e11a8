import Derived.Test.YtihofcopapmjlaaGreatProg
import Derived.Lib.Strings
import Derived.Lib.Slices
import Derived.Lib.Small
import Derived.Lib.Walk
import Derived.Lib.BitFns
import Derived.Test.YtihofcopapmjlaaGreatPPlain
set_option maxRecDepth 100000
set_option linter.all false
set_option maxHeartbeats 8000000
namespace Go.Proofs.YtihofcopapmjlaaGreat
open Go.Proofs.Tryz
def ACI(x w)(f:0<=x)(q:x<=255):
 Calls prog 255 #[.int .u8 x] w λ e w'=>e=.returned (.int .i64 (Lib.bitLen x.toNat))/\w'=w:=by
 rw[<-Lib.len8_int x f q]
 go_enter func255,ntmps255
 go_wp2;go_ret;simp
end Go.Proofs.YtihofcopapmjlaaGreat
namespace Go.Proofs.YtihofcopapmjlaaGreat.Pl
open Go.Proofs.Tryz
def IL(σ sh:Nat):Nat->Nat->Nat
 | 0,n=>n
 | f+1,n=>if σ / 2 ^ n<2*sh then n else IL σ sh f (n+1)
def nb(σ sh:Nat):Nat:=IL σ sh 10 0
def PF(σ q:Nat):∀f n,(∀m,m<n->2*q<=σ / 2 ^ m)->(∀m,m<IL σ q f n->2*q<=σ / 2 ^ m)/\IL σ q f n<=n+f/\(σ / 2 ^ IL σ q f n<2*q\/IL σ q f n=n+f)
 | 0,n,h=>⟨h,by simp[IL],.inr rfl⟩
 | f+1,n,h=>by
  simp only[IL];by_cases e:σ / 2 ^ n<2*q
  .grind
  .rw[if_neg e];have:=PF σ q f (n+1) (λ m r=>by
    grind)
   grind
def PE{σ f}(q:1<=f)(r:σ<1024):σ / 2 ^ nb σ f<2*f/\(∀m,m<nb σ f->2*f<=σ / 2 ^ m)/\nb σ f<=10:=by
 have h:=PF σ f 10 0 (λ m A=>by omega);refine⟨?_,h.1,by have:=h.2.1;unfold nb;omega⟩;rcases h.2.2 with e|e;exact e
 grind
def UI{σ f z}(q:1<=f)(r:σ<1024)(B:z<=σ)(A:f<=z):f<=σ / 2 ^ nb σ f/\σ / 2 ^ nb σ f<2*f:=by
 have h:=PE q r;refine⟨?_,h.1⟩;cases e:nb σ f with
 | zero=>simp;omega
 | succ n=>have:=h.2.1 n (by omega);rw[Nat.pow_succ,<-Nat.div_div_eq_div_mul];omega
def bt(lg x:Nat):Nat:=lg+1-Lib.bitLen x
def Xx:∀x:Fin 1024,x.val≠0->1<=Lib.bitLen x.val/\2 ^ (Lib.bitLen x.val-1)<=x.val/\x.val<2 ^ Lib.bitLen x.val:=by decide +kernel
def bl{x}(q:1<=x)(f:x<1024):1<=Lib.bitLen x/\2 ^ (Lib.bitLen x-1)<=x/\x<2 ^ Lib.bitLen x:=Xx ⟨x,f⟩ (by simp;omega)
def RN{lg x}(f:1<=x)(A:lg<=9)(q:x<2*2 ^ lg):Lib.bitLen x<=lg+1:=by have r:2 ^ (lg+1)<=2 ^ 10:=Nat.pow_le_pow_right (by decide) (by omega);have h:=bl f (by omega);by_cases c:Lib.bitLen x<=lg+1;exact c;have:2 ^ (lg+1)<=2 ^ (Lib.bitLen x-1):=Nat.pow_le_pow_right (by decide) (by omega);omega
def J4{lg x}(f:1<=x)(r:lg<=9)(q:x<2*2 ^ lg):2 ^ lg<=x*2 ^ bt lg x/\(x+1)*2 ^ bt lg x<=2*2 ^ lg/\bt lg x<=lg:=by
 have A:2 ^ (lg+1)<=2 ^ 10:=Nat.pow_le_pow_right (by decide) (by omega);have h:=bl f (by omega);have B:=RN f r q;unfold bt;refine⟨?_,?_,by omega⟩
 .have e:2 ^ lg=2 ^ (Lib.bitLen x-1)*2 ^ (lg+1-Lib.bitLen x):=by rw[<-Nat.pow_add];grind
  rw[e];exact Nat.mul_le_mul_right _ h.2.1
 .have e:2*2 ^ lg=2 ^ Lib.bitLen x*2 ^ (lg+1-Lib.bitLen x):=by rw[<-Nat.pow_add,Nat.mul_comm,<-Nat.pow_succ];grind
  rw[e];exact Nat.mul_le_mul_right _ h.2.2
def YC{lg x}(f:1<=x)(A:lg<=9)(q:x<2*2 ^ lg){b}(r:b<bt lg x):x*2 ^ b<2 ^ lg:=by
 have h:=J4 f A q;have e:2 ^ b*2<=2 ^ bt lg x:=by rw[<-Nat.pow_succ];exact Nat.pow_le_pow_right (by decide) r
 have B:(x+1)*(2 ^ b*2)<=(x+1)*2 ^ bt lg x:=Nat.mul_le_mul_left _ e
 grind
def YB{lg x b}(f:1<=x)(r:lg<=9)(q:x<2*2 ^ lg)(E:2 ^ lg<=x*2 ^ b)(B:∀m,m<b->x*2 ^ m<2 ^ lg):bt lg x=b:=by
 by_cases c:bt lg x<b;have:=B _ c;have:=(J4 f r q).1;omega
 .by_cases A:b<bt lg x;have:=YC f r q A;omega;omega
def Gj(f:Nat->Nat)(L z σ k:Nat):Nat:=z+pl f L z z (cu f k+(σ / 2 ^ nb σ (f k)-f k))
def en(f:Nat->Nat)(L z:Nat):List Int->Nat×List Int
 | []=>(z,[])
 | s::r=>(Gj f L z (en f L z r).1 s.toNat,(en f L z r).2++Aa (en f L z r).1 (nb (en f L z r).1 (f s.toNat)))
def L1{z}(A:0<z)(f L q):z<=(en f L z q).1/\(en f L z q).1<2*z:=by
 cases q with
 | nil=>simp only[en];omega
 | cons s r=>simp only[en,Gj];have:=Uf f L z z (cu f s.toNat+((en f L z r).1 / 2 ^ nb (en f L z r).1 (f s.toNat)-f s.toNat)) A;omega
def Ai.append{a b}(ha:Ai a)(f:Ai b):Ai (a++b):=by intro i;rw[Ge];split;exact ha i;exact f _
def Zs(f L z q):Ai (en f L z q).2:=by
 induction q with
 | nil=>exact Ai.nil
 | cons s r A=>exact Ai.append A (Hz _ _)
def UH(σ f):nb σ f<=10:=by have h:=PF σ f 10 0 (λ m q=>by omega);have:=h.2.1;unfold nb;omega
def OO(f L z q):(en f L z q).2.length<=10*q.length:=by
 induction q with
 | nil=>simp[en]
 | cons s r A=>simp only[en,List.length_append,Bc,List.length_cons];have:=UH (en f L z r).1 (f s.toNat);omega
def Cl(f:Nat->Nat)(L z lg:Nat)(ds:List Int):List Int:=(en f L z ds).2++Aa ((((en f L z ds).1:Nat):Int)-z) lg
def dc(f:Nat->Nat)(L z lg:Nat)(B:List Int)(a p:Nat):Nat->Option (List Int×Nat×Nat)
 | 0=>some ([],a,p)
 | k+1=>match dc f L z lg B a p k with
  | none=>none
  | some (l,a',p')=>if p'<bt lg (A5 f L z a')then none else
   some (l++[(tb f L z a':Int)],A5 f L z a'*2 ^ bt lg (A5 f L z a')-z+(val B (p'-bt lg (A5 f L z a')) (bt lg (A5 f L z a'))).toNat,p'-bt lg (A5 f L z a'))
def Ql{f L z}(h:BS f L z){a}(ha:a<z):1<=A5 f L z a/\A5 f L z a<2*z:=by have r:=h.ah_lt ha;have q:=Fc f (show tb f L z a+1<=L from h.tb_lt a);have A:=h.sum;simp only[cu]at q;unfold A5;omega
def ZV{f L lg}(h:BS f L (2 ^ lg))(K:lg<=9){B}(J:Ai B){a p k}(ha:a<2 ^ lg){l r A}(q:dc f L (2 ^ lg) lg B a p k=some (l,r,A)):r<2 ^ lg/\A<=p/\l.length=k:=by
 induction k generalizing l r A with
 | zero=>simp only[dc,Option.some.injEq,Prod.mk.injEq]at q;grind
 | succ k T=>
  simp only[dc]at q;cases hq:dc f L (2 ^ lg) lg B a p k with
  | none=>grind
  | some t=>
   obtain⟨Z,E,U⟩:=t;rw[hq]at q;simp only at q;obtain⟨O,X,Y⟩:=T hq;split at q;cases q
   .rename_i hb;simp only[Option.some.injEq,Prod.mk.injEq]at q;obtain⟨rfl,rfl,rfl⟩:=q;have I:=Ql h O;have W:=J4 I.1 K I.2;have hv:=Hq J (U-bt lg (A5 f L (2 ^ lg) E)) (bt lg (A5 f L (2 ^ lg) E))
    grind
end Go.Proofs.YtihofcopapmjlaaGreat.Pl
namespace Go.Proofs.YtihofcopapmjlaaGreat
open Go.Proofs.Tryz
def ACH(x w)(f:0<=x)(q:x<=255):
 Calls prog 151 #[.int .u64 x] w λ e w'=>e=.returned (.int .i64 (Lib.bitLen x.toNat))/\w'=w:=by
 rw[<-Lib.len8_int x f q];have r:x % 256=x:=by omega
 go_enter func151,ntmps151
 go_wp2;go_ret;simp
def ACG(x w)(K:256<=x)(L:x<=65535):
 Calls prog 151 #[.int .u64 x] w λ e w'=>e=.returned (.int .i64 (Lib.bitLen x.toNat))/\w'=w:=by
 have f:Lib.bitLen x.toNat=8+Lib.bitLen (x / 256).toNat:=by
  rw[Lib.bitLen_shift8 x.toNat (by omega) (by omega)]
  grind
 have I:x / 256 % 256=x / 256:=by omega
 have J:Lib.len8 (x / 256)=(Lib.bitLen (x / 256).toNat:Int):=Lib.len8_of _ (by omega) (by omega);have r:Lib.len8tab.size=256:=by decide +kernel
 have T:0<=x / 256/\x / 256<(Lib.len8tab.size:Int):=⟨by omega,by omega⟩
 clear r;have A:0<=x / 256:=by omega
 have E:x / 256<=255:=by omega
 have O:=Lib.bitLen_le8' (x / 256) A E;rw[f];clear f;generalize Lib.bitLen (x / 256).toNat=B at *
 have q:((8+B:Nat):Int)=((8+(((B:Int)+9223372036854775808) % 18446744073709551616-9223372036854775808)+9223372036854775808) % 18446744073709551616-9223372036854775808):=by omega
 rw[q];clear q
 go_enter func151,ntmps151
 go_wp2;go_ret;simp
def ACF(x w)(f:0<=x)(q:x<=65535):
 Calls prog 151 #[.int .u64 x] w λ e w'=>e=.returned (.int .i64 (Lib.bitLen x.toNat))/\w'=w:=by
 by_cases h:x<=255;exact ACH x w f h;exact ACG x w (by omega) q
def Tm(x w)(f:0<=x)(q:x<=65535):
 Calls prog 117 #[.int .u64 x] w λ e w'=>e=.returned (.int .i64 (Lib.bitLen x.toNat))/\w'=w:=by
 go_enter func117,ntmps117
 go_wp2_with(go_at_call 151;refine(ACF x _ f q).mono ?_;rintro e r ⟨rfl,rfl⟩)
 go_ret;simp
