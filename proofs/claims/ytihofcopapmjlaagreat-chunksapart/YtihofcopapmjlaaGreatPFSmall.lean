import Derived.Test.YtihofcopapmjlaaGreatPBSum
import Derived.Test.YtihofcopapmjlaaGreatPLen8
set_option maxRecDepth 100000
set_option linter.all false
set_option maxHeartbeats 8000000
namespace Go.Proofs.YtihofcopapmjlaaGreat
open Go.Proofs.Tryz
open Go.RowKit Pl
def Xw(σ f:Nat)(w)(I:1<=f)(O:f<=512)(J:σ<1024):
 Calls prog 231 #[.int .i64 σ,.int .i64 f] w λ e w'=>e=.returned (.int .i64 (nb σ f))/\w'=w:=by
 obtain⟨R,E⟩:=exH (nb σ f);rw[E.o];have q:=PE I J;rw[E.o]at q;have B:Hid (σ / 2 ^ R<2*f/\∀m,m<R->2*f<=σ / 2 ^ m):=⟨q.1,q.2.1⟩
 have T:=q.2.2;clear q
 go_enter func231,ntmps231
 go_wp2
 go_loop [5] (λ x=>∃n:Nat,n<=R/\x=.int .i64 n) (λ x=>11-(intOf x).toNat)
 case atStart=>exact⟨0,AI _,rfl⟩
 case round=>
  obtain⟨n,U,rfl⟩:=hrel;obtain⟨y,A⟩:=exH (σ / 2 ^ n);have X:(σ:Int) / 2 ^ n=(y:Int):=by rw[<-A.o];push_cast;rfl
  have W:y<=1023:=by rw[<-A.o];have:=Nat.div_le_self σ (2 ^ n);omega
  by_cases L:n<R
  .have r:=B.o.2 n L;rw[A.o]at r;(have K:(2:Int)*(f:Int)<=(y:Int):=by omega);clear r;go_wp2
   go_round
   (case rel=>exact⟨n+1,by omega,by go_num⟩);case measure=>simp[intOf];omega
  .obtain rfl:n=R:=by omega
   have r:=B.o.1;rw[A.o]at r;(have K:(y:Int)<(2:Int)*(f:Int):=by omega);clear r;go_wp2;go_ret;exact⟨rfl,rfl⟩
def AAA(g f L z k a w)(h:Iv w g 323 576 (sp f L z z))(K:k<L)(T:L<=64)(ha:cu f k+a<512):
 Calls prog 232 #[.pointer (some ⟨g,0,none⟩),.int .i64 k,.int .i64 a] w λ e w'=>e=.returned (.int .i64 (pl f L z z (cu f k+a)))/\∃n,w'=w.drewN n:=by
 have r:w.cell? ⟨g,k,none⟩=some (.int .i64 (cu f k:Int)):=by rw[h.at_ k (by omega)];unfold sp fs;rw[if_pos (by omega),if_pos K]
 obtain⟨I,q⟩:=exH (cu f k+a);have c1:w.cell? ⟨g,64+I,none⟩=some (.int .i64 (pl f L z z I:Int)):=by rw[h.at_ (64+I) (by rw[<-q.o];omega)];unfold sp;rw[if_neg (by omega),show 64+I-64=I by omega]
 have O:I<512:=by rw[<-q.o];exact ha
 have B:(cu f k:Int)+(a:Int)=(I:Int):=by rw[<-q.o];push_cast;rfl
 have J:cu f k<=512:=by omega
 rw[q.o];obtain⟨C,A⟩:=exH (cu f k);rw[A.o]at r B J;obtain⟨R,E⟩:=exH (pl f L z z I);rw[E.o]at c1 |-
 have W:(0:Int)<=(k:Int):=by omega
 have X:(k:Int)<64:=by omega
 have Y:(k:Int)<=63:=by omega
 have Z:(0:Int)<=(I:Int):=by omega
 have a0:(I:Int)<512:=by omega
 have a1:(I:Int)<=511:=by omega
 have U:a<=512:=by omega
 clear h ha
 go_enter func232,ntmps232
 go_wp2_with fail;go_quiet (fail);go_wp2;go_ret;exact⟨rfl,_,rfl⟩
def C9(s ds:List Int):Bool:=decide (∀i,i<ds.length->0<=ds.getD i 0/\(ds.getD i 0).toNat<s.length/\s.getD (ds.getD i 0).toNat 0≠0)
def XU(v a cap w):
 Calls prog 228 #[v,.slice a 0 cap] w λ e w'=>e=.returned (.bool true)/\w'=w:=by
 go_enter func228,ntmps228
 go_wp2
 go_loop [9] (λ i=>i=.int .i64 0) (λ _=>0)
 case atStart=>rfl
 case round=>subst hrel;go_wp2;go_ret;simp
def XT(b o cap J T a0 s f w)(h1:1<=s.length)(h2:s.length<=64)(h3:f.length<=65536)(hc:∀i,i<s.length->w.cell? ⟨b,o+i,none⟩=some (.int .i64 (s.getD i 0)))(W:∀i,i<f.length->w.cell? ⟨J,T+i,none⟩=some (.int .i64 (f.getD i 0))):
 Calls prog 228 #[.slice (some ⟨b,o,none⟩) s.length cap,.slice (some ⟨J,T,none⟩) f.length a0] w λ e w'=>e=.returned (.bool (C9 s f))/\w'=w:=by
 have HC:=z6 hc;have HD:=z6 W;obtain⟨R,K⟩:=exH (C9 s f);rw[K.o];clear hc W
 go_enter func228,ntmps228
 go_wp2
 go_loop [9] (λ i=>∃k:Nat,k<=f.length/\i=.int .i64 k/\Hid (∀i,i<k->0<=f.getD i 0/\(f.getD i 0).toNat<s.length/\s.getD (f.getD i 0).toNat 0≠0)) (λ i=>f.length-(intOf i).toNat)
 case atStart=>exact⟨0,AI _,rfl,λ i hi=>by omega⟩
 case round=>
  obtain⟨k,hk,rfl,I⟩:=hrel;by_cases X:k<f.length
  .obtain⟨x,L⟩:=exH (f.getD k 0);(have cx:w.cell? ⟨J,T+k,none⟩=some (.int .i64 x):=by rw[HD.o k X,L.o]);have U:(x<0\/(s.length:Int)<=x\/s.getD x.toNat 0=0)->R=false:=λ h=>by rw[<-K.o];unfold C9;refine ze1 (λ h'=>?_);have:=h' k X;rw[L.o]at this;rcases h with h|h|h;omega;omega;exact this.2.2 h
   have E:=z6 U;clear U;by_cases A:x<0
   .have q:=z6 (E.o (.inl A));go_wp2;go_ret;exact⟨by rw[q.o];rfl,rfl⟩
   .by_cases B:(s.length:Int)<=x
    .have q:=z6 (E.o (.inr (.inl B)));(have a1:decide (x<0)=false:=by rw[AT];exact A);go_wp2;go_ret;exact⟨by rw[q.o];rfl,rfl⟩
    .obtain⟨m,hm⟩:=Int.eq_ofNat_of_zero_le (show 0<=x by omega);subst hm;obtain⟨y,O⟩:=exH (s.getD m 0);(have Y:m<s.length:=by omega);(have cy:w.cell? ⟨b,o+m,none⟩=some (.int .i64 y):=by rw[HC.o m Y,O.o]);(have a1:decide ((m:Int)<0)=false:=by rw[AT];exact A);(have a3:decide ((s.length:Int)<=(m:Int))=false:=by rw[AT];exact B);by_cases r:y=0
     .have q:=z6 (E.o (.inr (.inr (by rw[Int.toNat_natCast,O.o];exact r))));(have a2:(y==0)=true:=by simp[r]);clear A B r;go_wp2;go_ret;exact⟨by rw[q.o];rfl,rfl⟩
     .have a2:(y==0)=false:=by simp[r]
      have Z:Hid (∀i,i<k+1->0<=f.getD i 0/\(f.getD i 0).toNat<s.length/\s.getD (f.getD i 0).toNat 0≠0):=λ i hi=>by
       by_cases e:i<k;exact I.o i e
       .obtain rfl:i=k:=by omega
        rw[L.o,Int.toNat_natCast,O.o];exact⟨by omega,Y,r⟩
      clear A B r I;go_wp2
      go_round
      (case rel=>exact⟨k+1,by omega,by go_num,Z⟩);case measure=>simp[intOf];omega
  .obtain rfl:k=f.length:=by omega
   (have q:Hid (R=true):=by show R=true;rw[<-K.o];unfold C9;exact zf1 I.o);go_wp2;go_ret;exact⟨by rw[q.o];rfl,rfl⟩
