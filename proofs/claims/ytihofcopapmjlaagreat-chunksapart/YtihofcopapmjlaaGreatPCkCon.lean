import Derived.Test.YtihofcopapmjlaaGreatPCkReg
import Derived.Deep.DeepCutAuto
set_option maxRecDepth 100000
set_option linter.all false
set_option maxHeartbeats 8000000
namespace Go.Proofs.YtihofcopapmjlaaGreat
open Go.Proofs.Tryz
open Go.RowKit
def ABB(g o n cap)(xs:List Int)(z w)(I:xs.length=n)(hl:n<=100)(hc:∀i,i<n->w.cell? ⟨g,o+i,none⟩=some (.int .i64 (xs.getD i 0))):
 Calls prog 114 #[.slice (some ⟨g,o,none⟩) n cap,.int .i64 z] w λ e w'=>∃r,e=.returned (.int .i64 r)/\(0<=r↔z∈xs)/\w'=w:=by
 have J:=AU hc;clear hc;have X:Hid (∀k,k<n->z=xs.getD k 0->z∈xs):=λ k U e=>by
  have W:k<xs.length:=by omega
  rw[e,AP,z9 W];simp
 have Y:Hid ((∀j,j<n->xs.getD j 0≠z)->z∉xs):=λ h e=>by obtain⟨j,q,e⟩:=List.getElem_of_mem e;refine h j (by omega) ?_;rw[AP,z9 q];simpa using e
 have HN:Hid (xs.length=n):=I;obtain⟨F,hF⟩:∃F:Int->Int,Hid (∀i:Nat,xs.getD i 0=F (i:Int)):=⟨λ z=>xs.getD z.toNat 0,λ i=>rfl⟩
 clear I
 go_enter func114,ntmps114
 go_wp2_with fail
 go_loopw [8] (λ A wr=>∃(k:Nat),k<=n/\A=.int .i64 (k:Int)/\wr=w/\Hid (∀j,j<k->xs.getD j 0≠z)) (λ A _=>n-(intOf A).toNat)
 case atStart=>exact⟨0,AI _,rfl,rfl,λ j q=>by omega⟩
 case round=>
  obtain⟨k,U,rfl,Z,B⟩:=hrel;subst Z;by_cases E:k<n
  .have O:=J.o k E;rw[hF.o]at O;by_cases f:z=F (k:Int)
   .have T:(z==F (k:Int))=true:=by simpa using f
    have L:Hid (z∈xs):=X.o k E (by rw[hF.o];exact f);clear f;go_wp2_with fail;go_ret;exact⟨_,rfl,⟨λ _=>L.o,λ _=>by omega⟩,by first|rfl|trivial⟩
   .have T:(z==F (k:Int))=false:=by simpa using f
    have K:=z6 f;clear f;go_wp2_with fail;refine⟨⟨k+1,by omega,rfl,trivial,λ j q=>?_⟩,by simp[intOf];omega⟩;rcases Nat.lt_or_ge j k with h|h;exact B.o j h
    .obtain rfl:j=k:=by omega
     rw[hF.o];exact λ e=>K.o e.symm
  .obtain rfl:k=n:=by omega
   go_wp2_with fail;go_ret;exact⟨_,rfl,⟨λ h=>by omega,λ h=>absurd h (Y.o B.o)⟩,by first|rfl|trivial⟩
def ZJ(g o n cap)(xs:List Int)(z w)(I:xs.length=n)(E:n<=100)(hc:∀i,i<n->w.cell? ⟨g,o+i,none⟩=some (.int .i64 (xs.getD i 0))):
 Calls prog 74 #[.slice (some ⟨g,o,none⟩) n cap,.int .i64 z] w λ e w'=>e=.returned (.bool (decide (z∈xs)))/\w'=w:=by
 have A:=AU (ABB g o n cap xs z w I E hc);obtain⟨d,f⟩:=exN (decide (z∈xs));have B:Hid (∀r:Int,(0<=r↔z∈xs)->decide (0<=r)=d):=λ r hr=>by rw[<-f,Bool.eq_iff_iff];simpa using hr
 rw[f];clear hc f
 go_enter func74,ntmps74
 go_wp2_with fail;refine A.o.mono ?_;rintro e w' ⟨r,rfl,hr,q⟩;have J:=B.o r hr;replace q:=q.symm;subst q;clear A hr;go_wp2_with fail;go_ret;exact⟨rfl,by first|rfl|trivial⟩
