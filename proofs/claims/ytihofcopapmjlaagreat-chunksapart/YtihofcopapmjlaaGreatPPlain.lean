import Derived.KernelRfl
set_option maxRecDepth 100000
set_option linter.all false
set_option maxHeartbeats 8000000
namespace Go.Proofs.YtihofcopapmjlaaGreat.Pl
def CN(xs:List Int):Nat->Int
 | 0=>0
 | k+1=>CN xs k+(xs.getD k 0 % 128)*128 ^ k
def Bz(xs:List Int):Nat->Nat->Option (Int×Nat)
 | 0,_=>none
 | f+1,k=>if k<xs.length then
  (if 128<=xs.getD k 0 then Bz xs f (k+1)
   else if 4294967295<CN xs (k+1)\/(0<k/\xs.getD k 0=0)then none else some (CN xs (k+1),k+1))
  else none
def BJ(xs:List Int):Option (Int×Nat):=Bz xs 5 0
def IT(r:Option (Int×Nat)):Int:=match r with|some p=>p.1|none=>0
def IS(r:Option (Int×Nat)):Int:=match r with|some p=>p.2|none=>0
def IR(r:Option (Int×Nat)):Int:=match r with|some _=>0|none=>3
def UM(xs)(A:∀i,0<=xs.getD i 0/\xs.getD i 0<=255)(k):0<=CN xs k/\CN xs k<128 ^ k:=by
 induction k with
 | zero=>simp[CN]
 | succ k B=>
  have h:=A k;have f:(0:Int)<128 ^ k:=Int.pow_pos (by decide);have q:0<=xs.getD k 0 % 128:=by omega
  have r:xs.getD k 0 % 128<=127:=by omega
  simp only[CN,Int.pow_succ];generalize xs.getD k 0 % 128=y at *
  generalize (128:Int) ^ k=p at *
  have a:=Int.mul_nonneg q (Int.le_of_lt f);have b:=Int.mul_le_mul_of_nonneg_right r (Int.le_of_lt f);omega
def Ke(n x j)(h:n<2 ^ j):n ||| (x*2 ^ j)=n+x*2 ^ j:=by rw[Nat.or_comm,Nat.mul_comm,<-Nat.two_pow_add_eq_or_of_lt h,Nat.add_comm]
def ADN{xs k R}(f:k<5)(q:k<xs.length)(r:128<=xs.getD k 0)(h:Bz xs (5-k) k=R):Bz xs (5-(k+1)) (k+1)=R:=by
 have e:5-k=(5-(k+1))+1:=by omega
 rw[e]at h;simp only[Bz]at h
 grind
def ADK{xs k R}(f:k<5)(r:k<xs.length)(A:¬128<=xs.getD k 0)(q:4294967295<CN xs (k+1)\/(0<k/\xs.getD k 0=0))(h:Bz xs (5-k) k=R):R=none:=by
 have e:5-k=(5-(k+1))+1:=by omega
 rw[e]at h;simp only[Bz]at h
 grind
def ADM{xs k R}(f:k<5)(r:k<xs.length)(A:¬128<=xs.getD k 0)(q:¬(4294967295<CN xs (k+1)\/(0<k/\xs.getD k 0=0)))(h:Bz xs (5-k) k=R):R=some (CN xs (k+1),k+1):=by
 have e:5-k=(5-(k+1))+1:=by omega
 rw[e]at h;simp only[Bz]at h
 grind
def ADL{xs k R}(r:¬(k<xs.length/\k<5))(q:k<=5)(h:Bz xs (5-k) k=R):R=none:=by
 by_cases f:k<5
 .have e:5-k=(5-(k+1))+1:=by omega
  rw[e]at h;simp only[Bz]at h
  grind
 .have e:5-k=0:=by omega
  rw[e]at h;simp only[Bz]at h
  grind
def AEO(k)(h:k<5):(128:Int) ^ k<=268435456:=by
 have h:k=0\/k=1\/k=2\/k=3\/k=4:=by omega
 grind
def AEN(k):(128:Int) ^ k=2 ^ (7*k):=by rw[Int.pow_mul];rfl
def bv(f:Nat->Int):Nat->Int
 | 0=>0
 | n+1=>bv f n+f n*2 ^ n
def val(bs:List Int)(p n:Nat):Int:=bv (λ i=>bs.getD (p+i) 0) n
def AJ(bs:List Int):List Int:=(List.range ((bs.length+7) / 8)).map λ j=>val bs (8*j) 8
def Ai(bs:List Int):Prop:=∀i,bs.getD i 0=0\/bs.getD i 0=1
def JM(f g n)(h:∀i,i<n->f i=g i):bv f n=bv g n:=by
 induction n with
 | zero=>rfl
 | succ n q=>simp only[bv];grind
def YF(f q c n):bv (λ i=>f i+if i=q then c else 0) n=bv f n+if q<n then c*2 ^ q else 0:=by
 induction n with
 | zero=>simp[bv]
 | succ n r=>
  simp only[bv,r]
  grind
def RU(f r n)(hr:r<=n)(h:∀i,r<=i->i<n->f i=0):bv f n=bv f r:=by
 induction n with
 | zero=>grind
 | succ n q=>
  by_cases e:r=n+1
  .grind
  .simp only[bv]
   grind
def RS(f)(h:∀i,f i=0\/f i=1)(n):0<=bv f n/\bv f n<2 ^ n:=by
 induction n with
 | zero=>simp[bv]
 | succ n q=>
  simp only[bv,Int.pow_succ]
  grind
def Hq{bs}(h:Ai bs)(p n):0<=val bs p n/\val bs p n<2 ^ n:=RS _ (λ i=>h (p+i)) n
def Ir(bs:List Int)(c i):(bs++[c]).getD i 0=bs.getD i 0+if i=bs.length then c else 0:=by grind
def Ai.snoc{bs}(h:Ai bs){c}(hc:c=0\/c=1):Ai (bs++[c]):=by
 intro i;rw[Ir];by_cases e:i=bs.length
 .grind
 .rw[if_neg e];simpa using h i
def Ai.nil:Ai []:=λ i=>by simp
def Qc(bs c p n):val (bs++[c]) p n=val bs p n+if p<=bs.length/\bs.length<p+n then c*2 ^ (bs.length-p)else 0:=by
 unfold val;by_cases h:p<=bs.length
 .rw[JM _ (λ i=>bs.getD (p+i) 0+if i=bs.length-p then c else 0) n (λ i _=>by
   grind),YF (λ i=>bs.getD (p+i) 0)]
  omega
 grind
def NH(bs p n)(h:bs.length<=p):val bs p n=0:=by unfold val;rw[RU _ 0 n (by omega) (λ i _ _=>by grind)];rfl
def AH1(bs p n r)(hr:r<=n)(h:bs.length<=p+r):val bs p n=val bs p r:=by unfold val;exact RU _ r n hr (λ i f _=>by grind)
def Cn(bs):(AJ bs).length=(bs.length+7) / 8:=by simp[AJ]
def IP(bs j):(AJ bs).getD j 0=val bs (8*j) 8:=by by_cases h:j<(bs.length+7) / 8;simp[AJ,List.getD_eq_getElem?_getD,h];rw[NH _ _ _ (by omega)];simp[AJ,List.getD_eq_getElem?_getD,h]
def PS{bs}(h:Ai bs)(i):0<=(AJ bs).getD i 0/\(AJ bs).getD i 0<=255:=by rw[IP];have:=Hq h (8*i) 8;omega
def Hc{xs ys:List Int}(f:xs.length=ys.length)(h:∀i,i<xs.length->xs.getD i 0=ys.getD i 0):xs=ys:=by
 refine List.ext_getElem f λ i q r=>?_
 grind
def AD7(bs c)(h:bs.length % 8=0):AJ (bs++[c])=AJ bs++[c]:=by
 refine Hc (by simp[Cn];omega) λ i f=>?_;rw[IP,Qc,Ir,IP,Cn]
 grind
def AD6(bs c)(h:bs.length % 8≠0):
 AJ (bs++[c])=(AJ bs).set (bs.length / 8) ((AJ bs).getD (bs.length / 8) 0+c*2 ^ (bs.length % 8)):=by
 refine Hc (by simp[Cn];omega) λ i q=>?_;rw[IP,Qc];simp only[Cn,List.length_append,List.length_cons,List.length_nil]at q;by_cases e:bs.length / 8=i
 .subst e;rw[if_pos (by omega)];have f:bs.length-8*(bs.length / 8)=bs.length % 8:=by omega
  rw[f];have r:bs.length / 8<(AJ bs).length:=by rw[Cn];omega
  simp only[List.getD_eq_getElem?_getD,List.getElem?_set_self r,Option.getD_some];rw[<-List.getD_eq_getElem?_getD,IP]
 .rw[if_neg (by omega),Int.add_zero,<-IP]
  grind
def AD1{bs}(h:Ai bs):(AJ bs).getD (bs.length / 8) 0<2 ^ (bs.length % 8):=by rw[IP,AH1 bs _ 8 (bs.length % 8) (by omega) (by omega)];exact(Hq h _ _).2
def Aa(v:Int):Nat->List Int
 | 0=>[]
 | n+1=>Aa v n++[v / 2 ^ n % 2]
def Bc(v n):(Aa v n).length=n:=by
 induction n with
 | zero=>rfl
 | succ n f=>simp[Aa,f]
def Xv(v:Int)(k):v / 2 ^ k % 2=0\/v / 2 ^ k % 2=1:=by omega
def Gt{n m}(h:n<=m):(2:Int) ^ n<=2 ^ m:=by
 have:=Nat.pow_le_pow_right (n:=2) (by decide) h
 grind
def XZ(v):v &&& 1=v % 2:=by simp
def ADO(xs f q n k)(h:Bz xs f q=some (n,k)):q<k/\k<=xs.length/\k<=q+f/\Bz (xs.take (k-1)) f q=none:=by
 induction f generalizing q with
 | zero=>simp[Bz]at h
 | succ f B=>
  simp only[Bz]at h;by_cases A:q<xs.length
  .rw[if_pos A]at h;by_cases r:128<=xs.getD q 0
   .rw[if_pos r]at h;obtain⟨a,b,c,d⟩:=B (q+1) h;refine⟨by omega,b,by omega,?_⟩;simp only[Bz]
    grind
   .rw[if_neg r]at h;split at h;cases h
    .simp only[Option.some.injEq,Prod.mk.injEq]at h;obtain⟨_,rfl⟩:=h;refine⟨by omega,by omega,by omega,?_⟩;simp only[Bz]
     grind
  grind
def Kb{xs n k}(h:BJ xs=some (n,k)):1<=k/\k<=xs.length/\k<=5/\BJ (xs.take (k-1))=none:=by have:=ADO xs 5 0 n k h;exact⟨by omega,this.2.1,by omega,this.2.2.2⟩
end Go.Proofs.YtihofcopapmjlaaGreat.Pl
namespace Go.Proofs.YtihofcopapmjlaaGreat.Ah
abbrev GA(ps:List Int)(i:Nat):Int:=ps.getD i 0
def Ct(ps:List Int)(i j:Nat):List Int:=(ps.set i (GA ps j)).set j (GA ps i)
def Ky(ps i j):(Ct ps i j).length=ps.length:=by simp[Ct]
def QV(ps){i j}(f:i<ps.length)(q:j<ps.length):(Ct ps i j).Perm ps:=by
 have h:=Array.swap_perm (xs:=ps.toArray) (i:=i) (j:=j) (by omega) (by omega);have e:(ps.toArray.swap i j (by omega) (by omega)).toList=Ct ps i j:=by simp[Array.swap_def,Ct,GA,List.getD_eq_getElem?_getD,f,q]
 grind
def Kw(ps){i j}(f:i<ps.length)(q:j<ps.length)(k):GA (Ct ps i j) k=if k=j then GA ps i else if k=i then GA ps j else GA ps k:=by
 unfold GA Ct
 grind
def Ak(a c:Nat):Prop:=c=2*a+1\/c=2*a+2
def Bu(ps:List Int)(n:Nat):Prop:=∀a c,Ak a c->c<n->GA ps a<=GA ps c
def Hx(ps:List Int)(n i:Nat):Prop:=(∀a c,a≠i->c≠i->Ak a c->c<n->GA ps a<=GA ps c)/\∀p c,Ak p i->Ak i c->c<n->GA ps p<=GA ps c
def Ux(ps:List Int)(n i:Nat):Prop:=(∀a c,c≠i->Ak a c->c<n->GA ps a<=GA ps c)/\∀p c,Ak p i->Ak i c->c<n->GA ps p<=GA ps c
def Dx(ps:List Int)(n i:Nat):Prop:=(∀a c,a≠i->Ak a c->c<n->GA ps a<=GA ps c)/\∀p c,Ak p i->Ak i c->c<n->GA ps p<=GA ps c
structure GU(ps0 ps:List Int)(n i0 k:Nat):Prop where
 perm:ps.Perm ps0
 rest:∀j,n<=j->GA ps j=GA ps0 j
 ge:i0<=k
 nl:n<=ps.length
 ok:(k=i0/\Hx ps n i0)\/(i0<k/\Dx ps n k)
def GU.start{ps n f}(h:Hx ps n f)(q:n<=ps.length):GU ps ps n f f:=
 ⟨List.Perm.refl _,λ _ _=>rfl,Nat.le_refl _,q,.inl ⟨rfl,h⟩⟩
def GU.stop{E ps n f k}(h:GU E ps n f k)(hc:∀c,Ak k c->c<n->GA ps k<=GA ps c):(f<k->Bu ps n)/\(¬f<k->Ux ps n f):=by
 refine⟨λ A a c q r=>?_,λ A=>?_⟩
 .rcases h.ok with⟨e,_⟩|⟨_,J,_⟩
  .omega
  grind
 .rcases h.ok with⟨e,K,B⟩|⟨e,_⟩
  .subst e;refine⟨λ a c I q r=>?_,B⟩
   grind
  .omega
def GU.sink{E ps n B k j}(h:GU E ps n B k)(q:Ak k j)(hn:j<n)(hm:∀c,Ak k c->c<n->GA ps j<=GA ps c)(hl:GA ps j<GA ps k):GU E (Ct ps k j) n B j:=by
 have O:=h.nl;have Z:=h.ge;have a0:k<j:=by unfold Ak at q;omega
 have f:k<ps.length:=by omega
 have r:j<ps.length:=by omega
 have g:=Kw ps f r;have W:∀a c,a≠k->c≠k->Ak a c->c<n->GA ps a<=GA ps c:=by
  rcases h.ok with⟨e,hx,_⟩|⟨_,Y,_⟩
  .grind
  grind
 have X:∀p c,Ak p k->Ak k c->c<n->GA ps p<=GA ps c:=by
  rcases h.ok with⟨e,_,A⟩|⟨_,_,A⟩
  .grind
  .exact A
 refine⟨(QV ps f r).trans h.perm,λ i L=>?_,by omega,by rw[Ky];exact O,.inr ⟨by omega,λ a c T J K=>?_,λ p c I J K=>?_⟩⟩;rw[g,if_neg (by omega),if_neg (by omega)];exact h.rest i L
 .grind
 .have U:p=k:=by unfold Ak at I q;omega
  grind
structure FX(ps0 ps:List Int)(n j:Nat):Prop where
 perm:ps.Perm ps0
 rest:∀k,n<=k->GA ps k=GA ps0 k
 jn:j=0\/j<n
 nl:n<=ps.length
 ux:Ux ps n j
def FX.top{r ps n}(h:FX r ps n 0):Bu ps n:=λ a c f q=>h.ux.1 a c (by unfold Ak at f;omega) f q
def FX.stop{A ps n p j}(h:FX A ps n j)(r:Ak p j)(B:¬GA ps j<GA ps p):Bu ps n:=by
 intro a c f q;by_cases e:c=j
 .subst e;have:a=p:=by unfold Ak at f r;omega
  grind
 .exact h.ux.1 a c e f q
def FX.rise{J ps n p j}(h:FX J ps n j)(A:Ak p j)(X:GA ps j<GA ps p):FX J (Ct ps p j) n p:=by
 have W:j<n:=by rcases h.jn with e|e;(· unfold Ak at A;omega);omega
 have O:=h.nl;have Y:p<j:=by unfold Ak at A;omega
 have I:p<ps.length:=by omega
 have E:j<ps.length:=by omega
 have g:=Kw ps I E;have T:=h.ux.1;have up:=h.ux.2;refine⟨(QV ps I E).trans h.perm,λ k L=>?_,.inr (by omega),by rw[Ky];exact O,λ a c f r K=>?_,λ q c f r K=>?_⟩;rw[g,if_neg (by omega),if_neg (by omega)];exact h.rest k L
 .rw[g a,g c];by_cases B:c=j
  .have U:a=p:=by unfold Ak at r A;omega
   omega
  grind
 .have Z:GA ps q<=GA ps p:=T q p (by omega) f (by omega);rw[g q,g c,if_neg (by unfold Ak at f;omega),if_neg (by unfold Ak at f;omega)];by_cases B:c=j;omega
  .rw[if_neg B,if_neg (by unfold Ak at r;omega)]
   grind
def Bu.least{ps n}(h:Bu ps n):∀k,k<n->GA ps 0<=GA ps k:=by
 intro k;induction k using Nat.strongRecOn with
 | ind k q=>
  intro f;by_cases r:k=0
  .grind
  .have hc:Ak ((k-1) / 2) k:=by unfold Ak;omega
   exact Int.le_trans (q ((k-1) / 2) (by omega) (by omega)) (h _ k hc f)
def ACu{ps x}(h:x∈ps):∃k,k<ps.length/\GA ps k=x:=by obtain⟨k,f,e⟩:=List.mem_iff_getElem.1 h;exact⟨k,f,by grind⟩
def XE{ps k}(h:k<ps.length):GA ps k∈ps:=by grind
def FX.push{ps x}(h:Bu ps ps.length):FX (ps++[x]) (ps++[x]) (ps.length+1) ps.length:=by
 refine⟨List.Perm.refl _,λ _ _=>rfl,.inr (by omega),by simp,λ a c q f r=>?_,λ p c q f r=>by unfold Ak at f;omega⟩;have e:∀k,k<ps.length->GA (ps++[x]) k=GA ps k:=λ k A=>by grind
 rw[e c (by omega),e a (by unfold Ak at f;omega)];exact h a c f (by omega)
def Hx.swap{ps n i}(h:Bu ps ps.length)(J:ps.length=n+1)(I:i<=n):Hx (Ct ps i n) n i:=by have g:=Kw ps (i:=i) (j:=n) (by omega) (by omega);refine⟨λ a c f q r E=>?_,λ p c f q r=>?_⟩;have:=r;unfold Ak at this;rw[g a,g c,if_neg (by omega),if_neg f,if_neg (by omega),if_neg q];exact h a c r (by omega);have A:=f;have B:=q;unfold Ak at A B;rw[g p,g c,if_neg (by omega),if_neg (by omega),if_neg (by omega),if_neg (by omega)];exact Int.le_trans (h p i f (by omega)) (h i c q (by omega))
def AHV{ps f n i}(r:ps.length=n+1)(E:i<=n)(q:f.Perm (Ct ps i n))(hr:∀k,n<=k->GA f k=GA (Ct ps i n) k):
 GA f n=GA ps i/\ps.Perm (GA ps i::f.take n):=by
 have I:f.length=n+1:=by rw[q.length_eq,Ky,r]
 have e:GA f n=GA ps i:=by rw[hr n (Nat.le_refl _),Kw ps (by omega) (by omega),if_pos rfl]
 refine⟨e,?_⟩;have A:f=f.take n++[GA f n]:=by
  have:f.take (n+1)=f:=List.take_of_length_le (by omega)
  conv=>lhs;rw[<-this,List.take_succ_eq_append_getElem (by omega)]
  grind
 have B:ps.Perm f:=(q.trans (QV ps (by omega) (by omega))).symm
 grind
def Bu.take{ps n}(h:Bu ps n):Bu (ps.take n) n:=by
 have e:∀k,k<n->GA (ps.take n) k=GA ps k:=λ k r=>by grind
 intro a c f q;rw[e c q,e a (by unfold Ak at f;omega)];exact h a c f q
def Da(ns ps:List Int):Prop:=∀i,i<ns.length->0<=GA ns i/\(GA ns i).toNat<ps.length/\GA ps (GA ns i).toNat=i
def Da.inj{ns ps}(h:Da ns ps){i j}(f:i<ns.length)(q:j<ns.length)(e:GA ns i=GA ns j):i=j:=by
 have a:=(h i f).2.2;have b:=(h j q).2.2
 grind
def XF(ps i x k)(f:i<ps.length):GA (ps.set i x) k=if k=i then x else GA ps k:=by grind
def Da.swap{ns ps}(h:Da ns ps){i j}(q:i<ns.length)(r:j<ns.length):
 Da (Ct ns i j) ((ps.set (GA ns j).toNat i).set (GA ns i).toNat j):=by
 obtain⟨E,I,J⟩:=h i q;obtain⟨K,L,O⟩:=h j r;intro k f;rw[Ky]at f;obtain⟨T,U,W⟩:=h k f;have B:∀a,a<ns.length->a≠k->(GA ns k).toNat≠(GA ns a).toNat:=λ a ha A e=>A (h.inj ha f (by have:=(h a ha).1;omega));rw[Kw ns q r k]
 grind
def Da.push{ns ps}(h:Da ns ps){n}(A:n<ps.length)(r:(n:Int)∉ns):Da (ns++[(n:Int)]) (ps.set n ns.length):=by
 intro k f;simp only[List.length_append,List.length_cons,List.length_nil]at f;by_cases q:k<ns.length
 .obtain⟨B,E,I⟩:=h k q
  grind
 grind
def Da.take{ns ps}(h:Da ns ps)(n):Da (ns.take n) ps:=by
 intro k f;rw[List.length_take]at f;have e:GA (ns.take n) k=GA ns k:=by grind
 rw[e];exact h k (by omega)
def Da.nodup{ns ps}(h:Da ns ps):ns.Nodup:=by rw[List.nodup_iff_pairwise_ne,List.pairwise_iff_getElem];intro i j f q r e;have:=h.inj f q (by grind);omega
structure StA where
 lo:Nat
 L:List Int
 as:Nat
structure SokA(s:StA):Prop where
 top:s.lo+s.L.length<=65536
 val:∀i,i<s.L.length->GA s.L i=0\/GA s.L i=1\/GA s.L i=2
 aside:s.as<=s.L.count 0
def stvA(s:StA)(n:Int):Int:=if (s.lo:Int)<=n/\n<s.lo+s.L.length then GA s.L (n-s.lo).toNat else -1
def D9(lo:Nat)(L:List Int):List Int:=List.replicate lo 0++L.map (· + 1)
def fre(s:StA):Int:=(s.L.count 0:Int)-s.as
def Vp(f L):(D9 f L).length=f+L.length:=by simp[D9]
def stv_in{s i}(f:i<s.L.length):stvA s ((s.lo+i:Nat):Int)=GA s.L i:=by
 unfold stvA
 grind
def QS{s}{n:Int}(h:n<s.lo\/(s.lo+s.L.length:Nat)<=n):stvA s n=-1:=by unfold stvA;omega
def stv_idx{s n}(h:stvA s n≠-1):∃i,i<s.L.length/\n=((s.lo+i:Nat):Int)/\stvA s n=GA s.L i:=by by_cases hc:(s.lo:Int)<=n/\n<s.lo+s.L.length;refine⟨(n-s.lo).toNat,by omega,by omega,?_⟩;unfold stvA;omega;unfold stvA at h;omega
def AGl(s n)(h:n<s.lo+s.L.length):GA (D9 s.lo s.L) n=stvA s n+1:=by
 unfold D9 GA;by_cases f:n<s.lo;rw[QS (.inl (by omega)),List.getD_eq_getElem?_getD,List.getElem?_append_left (by grind)];simp[f]
 .obtain⟨i,rfl⟩:∃i,n=s.lo+i:=⟨n-s.lo,by omega⟩
  rw[stv_in (by omega),List.getD_eq_getElem?_getD,List.getElem?_append_right (by simp)]
  grind
def AGm(f L i y):(D9 f L).set (f+i) (y+1)=D9 f (L.set i y):=by unfold D9;simp
def AGn{s}(h:SokA s)(n):-1<=stvA s n/\stvA s n<=2:=by by_cases e:stvA s n=-1;omega;obtain⟨i,f,_,e⟩:=stv_idx e;have:=h.val i f;omega
def Nv(L i)(h:i<L.length)(x y):(L.set i y).count x+(if GA L i=x then 1 else 0)=L.count x+(if y=x then 1 else 0):=by grind
def put(s:StA)(i:Nat)(y:Int):StA:=⟨s.lo,s.L.set i y,s.as⟩
def stv_put{s i}(f:i<s.L.length)(y n):stvA (put s i y) n=if n=((s.lo+i:Nat):Int)then y else stvA s n:=by
 unfold stvA put
 grind
def AEe{s}(h:∀i,i<s.L.length->GA s.L i=0\/GA s.L i=1\/GA s.L i=2){i}(f:i<s.L.length){y}(r:y=0\/y=1\/y=2):∀j,j<(put s i y).L.length->GA (put s i y).L j=0\/GA (put s i y).L j=1\/GA (put s i y).L j=2:=by
 intro j q;have:GA (put s i y).L j=if j=i then y else GA s.L j:=XF _ _ _ _ f
 grind
structure Ks(x:Int)(s:StA)(ns:List Int):Prop where
 mem:∀n,n∈ns↔stvA s n=x
 len:ns.length=s.L.count x
 nd:ns.Nodup
def Ks.idx{x s ns}(h:Ks x s ns)(B:0<=x){n}(f:n∈ns):∃i,i<s.L.length/\n=((s.lo+i:Nat):Int)/\GA s.L i=x:=by
 have:=(h.mem n).1 f;obtain⟨i,q,r,A⟩:=stv_idx (s:=s) (n:=n) (by omega)
 grind
def Ks.sub{x y s ns B}(h:Ks x s ns){i}(f:i<s.L.length)(E:GA s.L i=x)(I:y≠x)(r:ns.Perm (((s.lo+i:Nat):Int)::B)):Ks x (put s i y) B:=by
 have A:=h.nd;rw[r.nodup_iff,List.nodup_cons]at A;refine⟨λ n=>?_,?_,A.2⟩
 .rw[stv_put f];have J:=h.mem n
  grind
 .have:=Nv s.L i f x y;rw[if_pos E,if_neg I]at this;have q:=h.len;rw[r.length_eq]at q;simp only[List.length_cons]at q;simp only[put];omega
def Ks.other{x y s ns}(h:Ks x s ns){i}(f:i<s.L.length)(r:GA s.L i≠x)(A:y≠x):Ks x (put s i y) ns:=by
 refine⟨λ n=>?_,?_,h.nd⟩
 .rw[h.mem,stv_put f];by_cases q:n=((s.lo+i:Nat):Int)
  .rw[if_pos q];subst q;rw[stv_in f];omega
  omega
 .have:=Nv s.L i f x y;rw[if_neg r,if_neg A]at this;rw[h.len];simp only[put];omega
def Ks.aside{x s ns}(h:Ks x s ns)(a):Ks x ⟨s.lo,s.L,a⟩ ns:=⟨h.mem,h.len,h.nd⟩
def take(s:StA):Int×Bool×StA:=if s.L.count 0=0 then(0,false,s)else(((s.lo+s.L.idxOf 0:Nat):Int),true,⟨s.lo,s.L.set (s.L.idxOf 0) 1,s.as-1⟩)
def first0{L}(h:L.count 0≠0):L.idxOf 0<L.length/\GA L (L.idxOf 0)=0/\∀j,j<L.idxOf 0->GA L j≠0:=by
 have r:(0:Int)∈L:=List.count_pos_iff.1 (by omega);have q:L.idxOf 0<L.length:=List.idxOf_lt_length_of_mem r;refine⟨q,?_,λ j f=>?_⟩
 .grind
 .have A:j<L.length:=by omega
  have:=List.not_of_lt_findIdx (p:=(· == (0:Int))) (xs:=L) (i:=j) (by simpa[List.idxOf]using f)
  grind
def take_okA{s}(h:SokA s):SokA (take s).2.2:=by unfold take;split;exact h;rename_i hc;obtain⟨f,q,_⟩:=first0 hc;refine⟨by simpa using h.top,AEe (s:=s) h.val f (by omega),?_⟩;have:=Nv s.L _ f 0 1;rw[if_pos q,if_neg (by omega)]at this;simp only;have:=h.aside;omega
def new(lo hi:Nat):StA:=⟨lo,List.replicate (hi-lo) 0,0⟩
def new_okA{r f}(h:r<=f)(A:f<=65536):SokA (new r f):=
 ⟨by simp[new];omega,λ i q=>.inl (by simp only[new,List.length_replicate]at q;simp[new,GA,List.getD_eq_getElem?_getD,q]),Nat.zero_le _⟩
end Go.Proofs.YtihofcopapmjlaaGreat.Ah
namespace Go.Proofs.YtihofcopapmjlaaGreat.Pl
def AM:List Int->List Int
 | []=>[]
 | y::ys=>Aa y 8++AM ys
def AHt(ys):(AM ys).length=8*ys.length:=by
 induction ys with
 | nil=>rfl
 | cons y ys f=>simp[AM,Bc,f];omega
def AHs(xs ys):AM (xs++ys)=AM xs++AM ys:=by
 induction xs with
 | nil=>rfl
 | cons x xs f=>simp[AM,f]
def Ik(v n i):(Aa v n).getD i 0=if i<n then v / 2 ^ i % 2 else 0:=by
 induction n with
 | zero=>simp[Aa]
 | succ n f=>
  rw[Aa,Ir,f,Bc]
  grind
def Ge(a b:List Int)(i):(a++b).getD i 0=if i<a.length then a.getD i 0 else b.getD (i-a.length) 0:=by grind
def Jq(ys p):(AM ys).getD p 0=ys.getD (p / 8) 0 / 2 ^ (p % 8) % 2:=by
 induction ys generalizing p with
 | nil=>simp[AM]
 | cons y ys f=>
  rw[AM,Ge,Bc,Ik]
  grind
def Fx(ys):Ai (AM ys):=by intro i;rw[Jq];omega
def A9(left:Nat)(n:Int):Int:=if n<0\/32<n then 1 else if (left:Int)<n then 3 else 0
def Bt(left:Nat)(n:Int):Nat:=if n<0\/32<n then 0 else if (left:Int)<n then 0 else n.toNat
def CP(bs:List Int)(left:Nat)(p:Nat)(n:Int):Int:=if n<0\/32<n then 0 else if (left:Int)<n then 0 else val bs p n.toNat
def RT(v)(hv:0<=v)(n):bv (λ i=>v / 2 ^ i % 2) n=v % 2 ^ n:=by
 obtain⟨a,rfl⟩:=Int.eq_ofNat_of_zero_le hv;induction n with
 | zero=>simp[bv]
 | succ n f=>
  simp only[bv,f];have h:=Nat.mod_mul (x:=a) (a:=2 ^ n) (b:=2)
  grind
def YG(f)(B:∀i,f i=0\/f i=1)(n r)(hr:r<n):bv f n / 2 ^ r % 2=f r:=by
 induction n with
 | zero=>omega
 | succ n K=>
  simp only[bv];have q:=RS f B n;have I:(0:Int)<2 ^ n:=Int.pow_pos (by decide);by_cases e:r=n
  .subst e;rw[Int.add_mul_ediv_right _ _ (by omega),Int.ediv_eq_zero_of_lt q.1 q.2,Int.zero_add]
   grind
  .have J:r<n:=by omega
   obtain⟨d,E⟩:∃d,n=r+(d+1):=⟨n-r-1,by omega⟩
   (have A:f n*2 ^ n=2 ^ r*(f n*2 ^ d*2):=by grind);rw[A,Int.add_mul_ediv_left _ _ (by grind),Int.add_mul_emod_self_right];omega
def NB{bs}(h:Ai bs)(p):(AM (AJ bs)).getD p 0=bs.getD p 0:=by
 rw[Jq,IP];unfold val;rw[YG _ (λ i=>h _) 8 (p % 8) (by omega)]
 grind
def LC{bs}(h:Ai bs)(p n):val (AM (AJ bs)) p n=val bs p n:=
 JM _ _ n λ _ _=>NB h _
def Qb(pre r v n)(hv:0<=v)(f:v<2 ^ n):val (pre++Aa v n++r) pre.length n=v:=by
 unfold val;rw[JM _ (λ i=>v / 2 ^ i % 2) n (λ i q=>by
  rw[Ge,if_pos (by simp[Bc];omega),Ge,if_neg (by omega),Ik,show pre.length+i-pre.length=i by omega,if_pos q]),RT v hv]
 exact Int.emod_eq_of_lt hv f
def Hz(v n):Ai (Aa v n):=by intro i;rw[Ik];omega
def cu(f:Nat->Nat):Nat->Nat
 | 0=>0
 | k+1=>cu f k+f k
def Fc(f){a b}(h:a<=b):cu f a<=cu f b:=by
 induction b with
 | zero=>grind
 | succ b q=>
  by_cases e:a=b+1
  .grind
  .have:=q (by omega);simp only[cu];omega
def so(f:Nat->Nat)(j:Nat):Nat->Nat
 | 0=>0
 | k+1=>if cu f k<=j then k else so f j k
def VV(f j k n)(A:k<n)(q:cu f k<=j)(r:j<cu f (k+1)):so f j n=k:=by
 induction n with
 | zero=>omega
 | succ n B=>
  simp only[so];by_cases e:k=n
  .grind
  .have:=Fc f (show k+1<=n by omega)
   grind
def VW(f j n)(h:j<cu f n):so f j n<n/\cu f (so f j n)<=j/\j<cu f (so f j n+1):=by
 induction n with
 | zero=>simp[cu]at h
 | succ n q=>
  simp only[so]
  grind
def DN(z:Nat):Nat:=z / 2+z / 8+3
def iv(z:Nat):Nat:=if z=32 then 7 else if z=64 then 3 else if z=128 then 91 else if z=256 then 11 else 363
def FI(z:Nat):Prop:=z=32\/z=64\/z=128\/z=256\/z=512
def Wy{f}(q:5<=f)(r:f<=9):FI (2 ^ f):=by
 match f,q,r with
 | 5,_,_=>exact .inl rfl
 | 6,_,_=>exact .inr (.inl rfl)
 | 7,_,_=>exact .inr (.inr (.inl rfl))
 | 8,_,_=>exact .inr (.inr (.inr (.inl rfl)))
 | 9,_,_=>exact .inr (.inr (.inr (.inr rfl)))
def ABc:∀j:Fin 32,((j.val*DN 32) % 32*iv 32) % 32=j.val/\((j.val*iv 32) % 32*DN 32) % 32=j.val:=by decide +kernel
def ABe:∀j:Fin 64,((j.val*DN 64) % 64*iv 64) % 64=j.val/\((j.val*iv 64) % 64*DN 64) % 64=j.val:=by decide +kernel
def ABa:∀j:Fin 128,((j.val*DN 128) % 128*iv 128) % 128=j.val/\((j.val*iv 128) % 128*DN 128) % 128=j.val:=by decide +kernel
def ABb:∀j:Fin 256,((j.val*DN 256) % 256*iv 256) % 256=j.val/\((j.val*iv 256) % 256*DN 256) % 256=j.val:=by decide +kernel
def ABd:∀j:Fin 512,((j.val*DN 512) % 512*iv 512) % 512=j.val/\((j.val*iv 512) % 512*DN 512) % 512=j.val:=by decide +kernel
def FI.back{z}(h:FI z){j}(f:j<z):((j*DN z) % z*iv z) % z=j/\((j*iv z) % z*DN z) % z=j:=by rcases h with rfl|rfl|rfl|rfl|rfl;exact ABc ⟨j,f⟩;exact ABe ⟨j,f⟩;exact ABa ⟨j,f⟩;exact ABb ⟨j,f⟩;exact ABd ⟨j,f⟩
def AEI:((List.range 32).map (λ q=>(q*iv 32) % 32)).isPerm (List.range 32)=true:=by decide +kernel
def AEK:((List.range 64).map (λ q=>(q*iv 64) % 64)).isPerm (List.range 64)=true:=by decide +kernel
def AEG:((List.range 128).map (λ q=>(q*iv 128) % 128)).isPerm (List.range 128)=true:=by decide +kernel
def AEH:((List.range 256).map (λ q=>(q*iv 256) % 256)).isPerm (List.range 256)=true:=by decide +kernel
def AEJ:((List.range 512).map (λ q=>(q*iv 512) % 512)).isPerm (List.range 512)=true:=by decide +kernel
def FI.perm{z}(h:FI z):((List.range z).map (λ q=>(q*iv z) % z)).Perm (List.range z):=by rcases h with rfl|rfl|rfl|rfl|rfl;exact List.isPerm_iff.1 AEI;exact List.isPerm_iff.1 AEK;exact List.isPerm_iff.1 AEG;exact List.isPerm_iff.1 AEH;exact List.isPerm_iff.1 AEJ
def FI.pos{z}(h:FI z):32<=z/\z<=512:=by rcases h with rfl|rfl|rfl|rfl|rfl<;>omega
def tb(f:Nat->Nat)(L z p:Nat):Nat:=so f ((p*iv z) % z) L
def tj(f:Nat->Nat)(L z j p:Nat):Nat:=if (p*iv z) % z<j then tb f L z p else 0
def AHe(f L z p):tj f L z 0 p=0:=by simp[tj]
def WI(f L z p)(q:0<z):tj f L z z p=tb f L z p:=by unfold tj;rw[if_pos (Nat.mod_lt _ q)]
def WJ{z}(r:FI z)(f L j p k)(E:j<z)(J:p<z)(I:k<L)(A:cu f k<=j)(B:j<cu f (k+1)):
 tj f L z (j+1) p=if p=(j*DN z) % z then k else tj f L z j p:=by
 unfold tj;by_cases e:p=(j*DN z) % z;rw[if_pos e];have q:=(r.back E).1;rw[<-e]at q;rw[if_pos (by omega)];unfold tb;rw[q];exact VV f j k L I A B
 .rw[if_neg e];have:(p*iv z) % z≠j:=λ K=>e (by have:=(r.back J).2;grind)
  grind
def ah(f:Nat->Nat)(L z k:Nat):Nat->Nat
 | 0=>0
 | p+1=>ah f L z k p+if tb f L z p=k then 1 else 0
def NZ(f L z k){a b}(h:a<=b):ah f L z k a<=ah f L z k b:=by
 induction b with
 | zero=>grind
 | succ b q=>
  by_cases e:a=b+1
  .grind
  .have:=q (by omega);simp only[ah];omega
def XR(f L z k p):ah f L z k p=(List.range p).countP (λ q=>decide (tb f L z q=k)):=by
 induction p with
 | zero=>rfl
 | succ p r=>rw[List.range_succ,List.countP_append,<-r];simp only[ah,List.countP_cons,List.countP_nil];simp
def ZO(a b m)(h:a<=b):(List.range m).countP (λ j=>decide (a<=j/\j<b))=min m b-min m a:=by
 induction m with
 | zero=>simp
 | succ m f=>
  rw[List.range_succ,List.countP_append,f]
  grind
def Qy{z}(I:FI z)(f L k)(K:cu f L=z)(E:k<L):ah f L z k z=f k:=by
 rw[XR];have r:(List.range z).countP (λ q=>decide (tb f L z q=k))=((List.range z).map (λ q=>(q*iv z) % z)).countP (λ j=>decide (so f j L=k)):=by rw[List.countP_map];rfl
 rw[r,I.perm.countP_eq];have A:(List.range z).countP (λ j=>decide (so f j L=k))=(List.range z).countP (λ j=>decide (cu f k<=j/\j<cu f (k+1))):=by
  refine List.countP_congr λ j J=>?_;have B:j<cu f L:=by grind
  simp only[decide_eq_true_eq];constructor
  .intro e;have:=VW f j L B
   grind
  .intro e;exact VV f j k L E e.1 e.2
 rw[A,ZO _ _ _ (by simp only[cu];omega)];have:=Fc f (show k+1<=L by omega);simp only[cu]at this |-
 omega
structure BS(f:Nat->Nat)(L z:Nat):Prop where
 zok:FI z
 sum:cu f L=z
def BS.tb_lt{f L z}(h:BS f L z)(p):tb f L z p<L:=by
 have:(p*iv z) % z<cu f L:=by rw[h.sum];exact Nat.mod_lt _ (by have:=h.zok.pos;omega)
 exact(VW f _ L this).1
def BS.ah_lt{f L z}(h:BS f L z){p}(A:p<z):ah f L z (tb f L z p) p<f (tb f L z p):=by have r:=Qy h.zok f L (tb f L z p) h.sum (h.tb_lt p);have q:=NZ f L z (tb f L z p) (show p+1<=z by omega);simp only[ah,if_true]at q;omega
def A5(f:Nat->Nat)(L z p:Nat):Nat:=f (tb f L z p)+ah f L z (tb f L z p) p
def ix(f:Nat->Nat)(L z p:Nat):Nat:=cu f (tb f L z p)+ah f L z (tb f L z p) p
def BS.ix_lt{f L z}(h:BS f L z){p}(r:p<z):ix f L z p<z:=by have A:=h.ah_lt r;have q:=Fc f (show tb f L z p+1<=L from h.tb_lt p);have B:=h.sum;simp only[cu]at q;unfold ix;omega
def BS.ix_inj{f L z}(h:BS f L z){p q}(B:p<z)(E:q<z)(e:ix f L z p=ix f L z q):p=q:=by
 have I:=h.ah_lt B;have J:=h.ah_lt E;unfold ix at e;have A:tb f L z p=tb f L z q:=by
  by_cases c1:tb f L z p<tb f L z q;have:=Fc f (show tb f L z p+1<=tb f L z q from c1);simp only[cu]at this;omega
  .by_cases r:tb f L z q<tb f L z p;have:=Fc f (show tb f L z q+1<=tb f L z p from r);simp only[cu]at this;omega;omega
 rw[A]at e;have K:ah f L z (tb f L z q) p=ah f L z (tb f L z q) q:=by omega
 by_cases c1:p<q;have:=NZ f L z (tb f L z q) (show p+1<=q from c1);simp only[ah,A,if_true]at this;omega
 .by_cases r:q<p;have:=NZ f L z (tb f L z q) (show q+1<=p from r);simp only[ah,if_true]at this;omega;omega
def pl(f:Nat->Nat)(L z:Nat):Nat->Nat->Nat
 | 0,_=>0
 | p+1,i=>if i=ix f L z p then p else pl f L z p i
def BS.pl_ix{f L z}(h:BS f L z){p q}(r:p<=z)(A:q<p):pl f L z p (ix f L z q)=q:=by
 induction p with
 | zero=>omega
 | succ p B=>
  simp only[pl];by_cases e:ix f L z q=ix f L z p;rw[if_pos e];exact(h.ix_inj (by omega) (by omega) e).symm
  grind
def Uf(f L z p i)(h:0<p):pl f L z p i<p:=by
 induction p with
 | zero=>omega
 | succ p q=>
  simp only[pl];split;omega
  .by_cases e:0<p;omega
   .obtain rfl:p=0:=by omega
    simp[pl]
def Qz(f:Nat->Nat)(L z k a:Nat):∀p,a<ah f L z k p->∃q,q<p/\tb f L z q=k/\ah f L z k q=a
 | 0,h=>by simp[ah]at h
 | p+1,h=>by
  by_cases c:a<ah f L z k p
  .obtain⟨q,r,A,B⟩:=Qz f L z k a p c
   grind
  .simp only[ah]at h
   grind
def BS.find{f L z}(h:BS f L z){k a}(E:k<L)(ha:a<f k):
 ∃q,q<z/\tb f L z q=k/\ah f L z k q=a/\pl f L z z (cu f k+a)=q:=by
 obtain⟨q,r,A,B⟩:=Qz f L z k a z (by rw[Qy h.zok f L k h.sum E];exact ha);refine⟨q,r,A,B,?_⟩;have:=h.pl_ix (Nat.le_refl z) r;unfold ix at this
 grind
end Go.Proofs.YtihofcopapmjlaaGreat.Pl
namespace Go.Proofs.YtihofcopapmjlaaGreat.Hf
def ltP(a b:Int×Int):Prop:=a.1<b.1\/(a.1=b.1/\a.2<b.2)
instance (a b:Int×Int):Decidable (ltP a b):=by unfold ltP;infer_instance
def Ed(a b:Int×Int):Bool:=decide (ltP a b)
def KX{a b}:Ed a b=true↔ltP a b:=by simp[Ed]
def KW{a b}:Ed a b=false↔¬ltP a b:=by simp[Ed]
def CX(a b:Int×Int):Prop:=¬ltP b a
def Ja{a b c}(h:CX a b)(k:CX b c):CX a c:=by unfold CX ltP at *;omega
def KS{a b}(h:ltP a b):CX a b:=by unfold CX ltP at *;omega
def MV(a):CX a a:=by unfold CX ltP at *;omega
def AB6{a b}(h:CX a b)(k:CX b a):a=b:=by
 unfold CX ltP at *
 grind
abbrev G(ps:List (Int×Int))(i:Nat):Int×Int:=ps.getD i (0,0)
def C8(ps:List (Int×Int))(i j:Nat):List (Int×Int):=(ps.set i (G ps j)).set j (G ps i)
def M0(ps i j):(C8 ps i j).length=ps.length:=by simp[C8]
def QU(ps){i j}(f:i<ps.length)(q:j<ps.length):(C8 ps i j).Perm ps:=by
 have h:=Array.swap_perm (xs:=ps.toArray) (i:=i) (j:=j) (by omega) (by omega);have e:(ps.toArray.swap i j (by omega) (by omega)).toList=C8 ps i j:=by simp[Array.swap_def,C8,G,List.getD_eq_getElem?_getD,f,q]
 grind
def Ku(ps){i j}(f:i<ps.length)(q:j<ps.length)(k):G (C8 ps i j) k=if k=j then G ps i else if k=i then G ps j else G ps k:=by
 unfold G C8
 grind
def Ch(a c:Nat):Prop:=c=2*a+1\/c=2*a+2
def CQ(ps:List (Int×Int))(n k:Nat):Prop:=∀a c,k<=a->Ch a c->c<n->CX (G ps a) (G ps c)
structure Dn(ps0 ps:List (Int×Int))(n i0 i:Nat):Prop where
 perm:ps.Perm ps0
 rest:∀k,n<=k->G ps k=G ps0 k
 ok:∀a c,i0<=a->a≠i->Ch a c->c<n->CX (G ps a) (G ps c)
 up:∀p c,i0<=p->Ch p i->Ch i c->c<n->CX (G ps p) (G ps c)
 ge:i0<=i
 nl:n<=ps.length
def Dn.start{ps n f}(h:CQ ps n (f+1))(E:n<=ps.length):Dn ps ps n f f:=
 ⟨List.Perm.refl _,λ _ _=>rfl,λ a c B q r A=>h a c (by omega) r A,λ p c B q r A=>by unfold Ch at q;omega,Nat.le_refl _,E⟩
def Dn.stop{B ps n f i}(h:Dn B ps n f i)(hc:∀c,Ch i c->c<n->CX (G ps i) (G ps c)):CQ ps n f:=by
 intro a c q r A;by_cases e:a=i
 .grind
 .exact h.ok a c q e r A
def Dn.sink{T ps n O i j}(h:Dn T ps n O i)(r:Ch i j)(Y:j<n)(hm:∀c,Ch i c->c<n->CX (G ps j) (G ps c))(X:ltP (G ps j) (G ps i)):Dn T (C8 ps i j) n O j:=by
 have Z:=h.nl;have a0:=h.ge;have a1:i<j:=by unfold Ch at r;omega
 have K:i<ps.length:=by omega
 have L:j<ps.length:=by omega
 have g:=Ku ps K L;refine⟨(QU ps K L).trans h.perm,λ k W=>?_,λ a c B E f I=>?_,λ p c B E f I=>?_,by omega,by rw[M0];exact Z⟩;rw[g,if_neg (by omega),if_neg (by omega)];exact h.rest k W
 .rw[g a,g c,if_neg E];by_cases A:a=i
  .subst A;rw[if_pos rfl];by_cases q:c=j;rw[if_pos q];exact KS X
   grind
  .rw[if_neg A];by_cases q:c=j;subst q;unfold Ch at r f;omega
   .rw[if_neg q];by_cases J:c=i;subst J;rw[if_pos rfl];exact h.up a j B f r Y;rw[if_neg J];exact h.ok a c B A f I
 .have U:p=i:=by unfold Ch at E r;omega
  subst U;rw[g p,g c,if_neg (by omega),if_pos rfl,if_neg (by unfold Ch at f;omega),if_neg (by unfold Ch at f;omega)];exact h.ok j c (by omega) (by omega) f I
structure Up(ps0 ps:List (Int×Int))(n j:Nat):Prop where
 perm:ps.Perm ps0
 ok:∀a c,c≠j->Ch a c->c<n->CX (G ps a) (G ps c)
 up:∀p c,Ch p j->Ch j c->c<n->CX (G ps p) (G ps c)
 jn:j<n
 nl:n=ps.length
def Up.start{ps x}(h:CQ ps ps.length 0):Up (ps++[x]) (ps++[x]) (ps.length+1) ps.length:=by
 refine⟨List.Perm.refl _,λ a c q f r=>?_,λ p c q f r=>by unfold Ch at f;omega,by omega,by simp⟩;have e:∀k,k<ps.length->G (ps++[x]) k=G ps k:=λ k A=>by grind
 rw[e c (by omega),e a (by unfold Ch at f;omega)];exact h a c (Nat.zero_le _) f (by omega)
def Up.top{r ps n}(h:Up r ps n 0):CQ ps n 0:=λ a c _ f q=>h.ok a c (by unfold Ch at f;omega) f q
def Up.stop{B ps n p j}(h:Up B ps n j)(A:Ch p j)(r:¬ltP (G ps j) (G ps p)):CQ ps n 0:=by
 intro a c _ f q;by_cases e:c=j
 .subst e;have:a=p:=by unfold Ch at f A;omega
  subst this;exact r
 .exact h.ok a c e f q
def Up.rise{T ps n p j}(h:Up T ps n j)(I:Ch p j)(L:ltP (G ps j) (G ps p)):Up T (C8 ps p j) n p:=by
 have X:=h.jn;have U:=h.nl;have Y:p<j:=by unfold Ch at I;omega
 have O:p<ps.length:=by omega
 have K:j<ps.length:=by omega
 have g:=Ku ps O K;refine⟨(QU ps O K).trans h.perm,λ a c A r B=>?_,λ q c A r B=>?_,by omega,by rw[M0];exact U⟩
 .rw[g a,g c];by_cases f:c=j
  .have E:a=p:=by unfold Ch at r I;omega
   subst E;subst f;rw[if_neg (by omega),if_pos rfl,if_pos rfl];exact KS L
  .rw[if_neg f,if_neg A];by_cases E:a=j;subst E;rw[if_pos rfl];exact h.up p c I r B;rw[if_neg E];by_cases J:a=p;subst J;rw[if_pos rfl];exact Ja (KS L) (h.ok a c f r B);rw[if_neg J];exact h.ok a c f r B
 .have W:CX (G ps q) (G ps p):=h.ok q p (by omega) A (by omega);rw[g q,g c,if_neg (by unfold Ch at A;omega),if_neg (by unfold Ch at A;omega)];by_cases f:c=j
  .grind
  .rw[if_neg f,if_neg (by unfold Ch at r;omega)];exact Ja W (h.ok p c f r B)
def CQ.least{ps n}(h:CQ ps n 0):∀k,k<n->CX (G ps 0) (G ps k):=by
 intro k;induction k using Nat.strongRecOn with
 | ind k r=>
  intro q;by_cases f:k=0;subst f;exact MV _
  .have hc:Ch ((k-1) / 2) k:=by unfold Ch;omega
   exact Ja (r ((k-1) / 2) (by omega) (by omega)) (h _ k (Nat.zero_le _) hc q)
def ACt{ps x}(h:x∈ps):∃k,k<ps.length/\G ps k=x:=by obtain⟨k,f,e⟩:=List.mem_iff_getElem.1 h;exact⟨k,f,by grind⟩
def XD{ps k}(h:k<ps.length):G ps k∈ps:=by grind
def AEL{ps f n}(r:ps.length=n+1)(q:f.Perm (C8 ps 0 n))(hr:∀k,n<=k->G f k=G (C8 ps 0 n) k):
 G f n=G ps 0/\ps.Perm (G ps 0::f.take n):=by
 have E:f.length=n+1:=by rw[q.length_eq,M0,r]
 have e:G f n=G ps 0:=by rw[hr n (Nat.le_refl _),Ku ps (by omega) (by omega),if_pos rfl]
 refine⟨e,?_⟩;have A:f=f.take n++[G f n]:=by
  have:f.take (n+1)=f:=List.take_of_length_le (by omega)
  conv=>lhs;rw[<-this,List.take_succ_eq_append_getElem (by omega)]
  grind
 have B:ps.Perm f:=(q.trans (QU ps (by omega) (by omega))).symm
 grind
def CQ.take{ps n}(h:CQ ps n 0):CQ (ps.take n) n 0:=by
 have e:∀k,k<n->G (ps.take n) k=G ps k:=λ k A=>by grind
 intro a c r f q;rw[e c q,e a (by unfold Ch at f;omega)];exact h a c r f q
def Ea(ps:List (Nat×Nat)):Nat:=(ps.map λ p=>p.1*p.2).sum
def DW(M:Nat)(ps:List (Nat×Nat)):Nat:=(ps.map λ p=>2 ^ (M-p.2)).sum
def Dg(x:Nat):List Nat->List Nat
 | []=>[x]
 | y::r=>if y<=x then y::Dg x r else x::y::r
def hc:Nat->List Nat->Nat
 | 0,_=>0
 | _+1,[]=>0
 | _+1,[_]=>0
 | f+1,a::b::r=>(a+b)+hc f (Dg (a+b) r)
def GR(l:List Nat):Prop:=l.Pairwise (·<=·)
def ABZ(x l):(Dg x l).length=l.length+1:=by
 induction l with
 | nil=>rfl
 | cons y r f=>simp only[Dg];grind
def ACv{x z l}:z∈Dg x l↔z=x\/z∈l:=by
 induction l with
 | nil=>simp[Dg]
 | cons y r f=>
  simp only[Dg]
  grind
def TQ{x l}(h:GR l):GR (Dg x l):=by
 induction l with
 | nil=>simp[Dg,GR]
 | cons y r A=>
  obtain⟨B,q⟩:=List.pairwise_cons.1 h;simp only[Dg];split
  .rename_i hle;refine List.pairwise_cons.2 ⟨λ z f=>?_,A q⟩;rcases ACv.1 f with e|e;omega
   grind
  .rename_i hle;refine List.pairwise_cons.2 ⟨λ z f=>?_,h⟩
   grind
def Eu(x:Nat×Nat):List (Nat×Nat)->List (Nat×Nat)
 | []=>[x]
 | y::r=>if y.1<=x.1 then y::Eu x r else x::y::r
def Om(x l):(Eu x l).map (·.1)=Dg x.1 (l.map (·.1)):=by
 induction l with
 | nil=>rfl
 | cons y r f=>simp only[Eu,List.map_cons,Dg];grind
def ABW(x l):Ea (Eu x l)=x.1*x.2+Ea l:=by
 induction l with
 | nil=>simp[Eu,Ea]
 | cons y r f=>simp only[Eu];split;simp only[Ea,List.map_cons,List.sum_cons]at f |-;omega;simp[Ea]
def ABX(M x l):DW M (Eu x l)=2 ^ (M-x.2)+DW M l:=by
 induction l with
 | nil=>simp[Eu,DW]
 | cons y r f=>simp only[Eu];split;simp only[DW,List.map_cons,List.sum_cons]at f |-;omega;simp[DW]
def ACw{x z l}(h:z∈Eu x l):z=x\/z∈l:=by
 induction l with
 | nil=>simpa[Eu]using h
 | cons y r f=>
  simp only[Eu]at h
  grind
def WT(M a l rs)(ha:∀p∈rs,a<=p.1):
 ∃f r,r.map (·.1)=rs.map (·.1)/\(∀p∈r,p.2<=f)/\Ea ((a,f)::r)<=Ea ((a,l)::rs)/\DW M ((a,f)::r)=DW M ((a,l)::rs)/\
  ∀K,(∀p∈(a,l)::rs,p.2<=K)->∀p∈(a,f)::r,p.2<=K:=by
 induction rs with
 | nil=>grind
 | cons p t T=>
  obtain⟨w,m⟩:=p;obtain⟨f,J,A,U,B,E,L⟩:=T (λ p q=>ha p (List.mem_cons.2 (.inr q)));have W:=ha (w,m) (List.mem_cons.2 (.inl rfl));by_cases X:m<=f
  .refine⟨f,(w,m)::J,by simp[A],?_,?_,?_,?_⟩
   .grind
   .simp only[Ea,List.map_cons,List.sum_cons]at B |-;omega
   .simp only[DW,List.map_cons,List.sum_cons]at E |-;omega
   .intro K I p q
    grind
  .refine⟨m,(w,f)::J,by simp[A],?_,?_,?_,?_⟩
   .grind
   .have Y:a*m+w*f<=a*f+w*m:=by
     obtain⟨d,rfl⟩:∃d,w=a+d:=⟨w-a,by omega⟩
     obtain⟨e,rfl⟩:∃e,m=f+e:=⟨m-f,by omega⟩
     grind
    simp only[Ea,List.map_cons,List.sum_cons]at B |-;omega
   .simp only[DW,List.map_cons,List.sum_cons]at E |-;omega
   .intro K I p q;have O:=L K (λ p q=>by
     grind)
    rcases List.mem_cons.1 q with e|e;rw[e];exact I (w,m) (by simp)
    .rcases List.mem_cons.1 e with e|e;rw[e];exact O (a,f) (by simp)
     grind
def ABu(M L ps)(h:∀p∈ps,p.2<=L):2 ^ (M-L) ∣ DW M ps:=by
 induction ps with
 | nil=>simp[DW]
 | cons p t A=>
  have f:=A (λ p r=>h p (List.mem_cons.2 (.inr r)));have q:2 ^ (M-L) ∣ 2 ^ (M-p.2):=Nat.pow_dvd_pow 2 (by grind);simp only[DW,List.map_cons,List.sum_cons]at f |-
  exact Nat.dvd_add q f
def opt(M f ps)(U:ps.length<=f+1)(J:GR (ps.map (·.1)))(L:∀p∈ps,p.2<=M)(O:DW M ps<=2 ^ M):hc f (ps.map (·.1))<=Ea ps:=by
 induction f generalizing ps with
 | zero=>simp[hc]
 | succ f ih=>
  match ps,U,J,L,O with
  | [],_,_,_,_=>simp[hc]
  | [_],_,_,_,_=>simp[hc]
  | (a,l1)::(b,l2)::r,U,J,L,O=>
   simp only[List.map_cons]at J;obtain⟨s1,s2⟩:=List.pairwise_cons.1 J;obtain⟨s3,s4⟩:=List.pairwise_cons.1 s2;obtain⟨m1,T,E,g1,c1,k1,b1⟩:=WT M a l1 ((b,l2)::r) (λ p I=>s1 p.1 (by
    grind))
   cases T with
   | nil=>simp at E
   | cons q T=>
    (obtain⟨A,a5⟩:=q;simp only[List.map_cons,List.cons.injEq]at E;obtain⟨rfl,E⟩:=E;obtain⟨m2,B,K,g2,c2,k2,Z⟩:=WT M A a5 T (λ p I=>s3 p.1 (by grind));have a3:=Z m1 (λ p I=>g1 p I);have a2:=a3 (A,m2) (by simp);have a6:=b1 M L (a,m1) (by simp);have a0:Ea ((a,m1)::(A,m2)::B)<=Ea ((a,l1)::(A,l2)::r):=by simp only[Ea,List.map_cons,List.sum_cons]at c1 c2 |-;omega);(have X:DW M ((a,m1)::(A,m2)::B)<=2 ^ M:=by simp only[DW,List.map_cons,List.sum_cons]at k1 k2 O |-;omega);simp only[DW,List.map_cons,List.sum_cons]at X;have d1:=ABu M m2 B g2;have d2:2 ^ (M-m2) ∣ 2 ^ M:=Nat.pow_dvd_pow 2 (by omega);have p1:0<2 ^ (M-m1):=Nat.two_pow_pos _;have a4:2 ^ (M-m2)+2 ^ (M-m2)+DW M B<=2 ^ M:=by
     obtain⟨u,Y⟩:=d1;obtain⟨v,hv⟩:=d2;have a1:2 ^ (M-m1)+(2 ^ (M-m2)+DW M B)<=2 ^ M:=X;rw[Y,hv]at a1;rw[Y,hv];generalize 2 ^ (M-m2)=q at *
     (have hq:q*(1+u)<q*v:=by grind);have a8:1+u<v:=Nat.lt_of_mul_lt_mul_left hq;have:q*(2+u)<=q*v:=Nat.mul_le_mul_left _ (by omega)
     grind
    (have a7:1<=m2:=by grind);(have e3:2 ^ (M-(m2-1))=2 ^ (M-m2)+2 ^ (M-m2):=by rw[show M-(m2-1)=(M-m2)+1 by omega,Nat.pow_succ];omega);have W:=ih (Eu (a+A,m2-1) B) (by
     have h1:(Eu (a+A,m2-1) B).length=B.length+1:=by have:=congrArg List.length (Om (a+A,m2-1) B);rw[List.length_map,ABZ,List.length_map]at this;exact this
     have h2:B.length=r.length:=by
      have:=congrArg List.length (K.trans E)
      grind
     grind)
     (by rw[Om,K,E];exact TQ s4)
     (λ p I=>by
      rcases ACw I with e|e
      .grind
      grind)
     (by rw[ABX,e3];exact a4)
    rw[Om,K,E,ABW]at W;show(a+A)+hc f (Dg (a+A) (r.map (·.1)))<=_;refine Nat.le_trans ?_ a0;have e4:(a+A)*(m2-1)+(a+A)=(a+A)*m2:=by
     obtain⟨t,rfl⟩:∃t,m2=t+1:=⟨m2-1,by omega⟩
     grind
    have e5:a*m2<=a*m1:=Nat.mul_le_mul_left _ a2;have e6:(a+A)*m2=a*m2+A*m2:=Nat.add_mul _ _ _;simp only[Ea,List.map_cons,List.sum_cons]at W |-
    omega
def DJ(x:Nat×List (Nat×Nat)):List (Nat×List (Nat×Nat))->List (Nat×List (Nat×Nat))
 | []=>[x]
 | y::r=>if y.1<=x.1 then y::DJ x r else x::y::r
def EZ(l:List (Nat×Nat)):List (Nat×Nat):=l.map λ p=>(p.1,p.2+1)
def join(a b:Nat×List (Nat×Nat)):Nat×List (Nat×Nat):=(a.1+b.1,EZ (a.2++b.2))
def Eb:Nat->List (Nat×List (Nat×Nat))->List (Nat×Nat)
 | _,[]=>[]
 | _,[t]=>t.2
 | 0,_::_::_=>[]
 | f+1,a::b::r=>Eb f (DJ (join a b) r)
def ABY(x)(l:List (Nat×List (Nat×Nat))):(DJ x l).map (·.1)=Dg x.1 (l.map (·.1)):=by
 induction l with
 | nil=>rfl
 | cons y r f=>simp only[DJ,List.map_cons,Dg];grind
def On(x)(l:List (Nat×List (Nat×Nat))):(DJ x l).Perm (x::l):=by
 induction l with
 | nil=>exact List.Perm.refl _
 | cons y r f=>
  simp only[DJ]
  grind
def JW(x)(l:List (Nat×List (Nat×Nat))):(DJ x l).length=l.length+1:=(On x l).length_eq
def UD{x z l}:z∈DJ x l↔z=x\/z∈l:=by rw[(On x l).mem_iff,List.mem_cons]
def EO(c:Nat->Nat)(ls:List (Nat×Nat)):Nat:=(ls.map λ p=>c p.1*p.2).sum
def Fg(c:Nat->Nat)(ls:List (Nat×Nat)):Nat:=(ls.map λ p=>c p.1).sum
def GF(M:Nat)(ls:List (Nat×Nat)):Nat:=(ls.map λ p=>2 ^ (M-p.2)).sum
def KT(c a b):EO c (a++b)=EO c a+EO c b:=by simp[EO]
def Tj(c a b):Fg c (a++b)=Fg c a+Fg c b:=by simp[Fg]
def AB9(M a b):GF M (a++b)=GF M a+GF M b:=by simp[GF]
def AB7(c a):EO c (EZ a)=EO c a+Fg c a:=by
 induction a with
 | nil=>rfl
 | cons p t f=>
  simp only[EO,Fg,EZ,List.map_cons,List.sum_cons,List.map_map]at f |-
  grind
def ACB(c a):Fg c (EZ a)=Fg c a:=by simp[Fg,EZ,Function.comp_def]
def Jz(c:Nat->Nat)(l:List (Nat×List (Nat×Nat))):Prop:=∀t∈l,t.1=Fg c t.2
def Jz.step{c a b r}(h:Jz c (a::b::r)):Jz c (DJ (join a b) r):=by intro t A;rcases UD.1 A with e|e;subst e;have f:=h a (by simp);have q:=h b (by simp);show a.1+b.1=Fg c (EZ (a.2++b.2));rw[ACB,Tj,f,q];exact h t (by simp[e])
def EH(l:List (Nat×List (Nat×Nat))):List (Nat×Nat):=l.flatMap (·.2)
def AB8(c){a b}(h:a.Perm b):EO c a=EO c b:=(h.map _).sum_nat
def Tl(x)(l:List (Nat×List (Nat×Nat))):(EH (DJ x l)).Perm (x.2++EH l):=by have:=(On x l).flatMap_right (·.2);simpa[EH]using this
def AA3(c f)(l:List (Nat×List (Nat×Nat)))(q:Jz c l)(B:l≠[])(A:l.length<=f+1):EO c (Eb f l)=EO c (EH l)+hc f (l.map (·.1)):=by
 induction f generalizing l with
 | zero=>
  match l,B,A with
  | [t],_,_=>simp[Eb,EH,hc]
 | succ f I=>
  match l,B,A,q with
  | [t],_,_,_=>simp[Eb,EH,hc]
  | a::b::r,_,A,q=>have E:=I (DJ (join a b) r) q.step (by intro e;have:=JW (join a b) r;grind) (by rw[JW];grind);show EO c (Eb f (DJ (join a b) r))=_;rw[E,AB8 c (Tl _ _),KT,ABY];show EO c (EZ (a.2++b.2))+_+_=_;rw[AB7,KT,Tj,<-q a (by simp),<-q b (by simp)];simp only[EH,List.flatMap_cons,List.map_cons,hc];rw[KT,KT];show _+hc f (Dg (a.1+b.1) _)=_;omega
def AA2(f)(l:List (Nat×List (Nat×Nat)))(A:l≠[])(q:l.length<=f+1):((Eb f l).map (·.1)).Perm ((EH l).map (·.1)):=by
 induction f generalizing l with
 | zero=>
  match l,A,q with
  | [t],_,_=>simp[Eb,EH]
 | succ f E=>
  match l,A,q with
  | [t],_,_=>simp[Eb,EH]
  | a::b::r,_,q=>have B:=E (DJ (join a b) r) (by intro e;have:=JW (join a b) r;grind) (by rw[JW];grind);show((Eb f (DJ (join a b) r)).map (·.1)).Perm _;refine B.trans (((Tl _ _).map _).trans ?_);show(((EZ (a.2++b.2))++EH r).map (·.1)).Perm _;simp[EZ,EH,Function.comp_def]
def Jw(l:List (Nat×List (Nat×Nat))):Prop:=∀t∈l,t.2≠[]/\∀M,(∀p∈t.2,p.2<=M)->GF M t.2=2 ^ M
def ACA(M a):GF (M+1) (EZ a)=GF M a:=by
 induction a with
 | nil=>rfl
 | cons p t f=>
  simp only[GF,EZ,List.map_cons,List.sum_cons]at f |-
  grind
def Jw.step{a b r}(h:Jw (a::b::r)):Jw (DJ (join a b) r):=by
 intro t J;rcases UD.1 J with e|e
 .subst e;obtain⟨A,B⟩:=h a (by simp);obtain⟨b1,E⟩:=h b (by simp);refine⟨by simp[join,EZ,A],λ M I=>?_⟩;show GF M (EZ (a.2++b.2))=2 ^ M;have f:∀p∈a.2++b.2,p.2+1<=M:=λ p q=>I (p.1,p.2+1) (List.mem_map.2 ⟨p,q,rfl⟩)
  match M,f with
  | 0,f=>
   obtain⟨p,t,e⟩:=List.exists_cons_of_ne_nil A
   grind
  | M+1,f=>rw[ACA,AB9,B M (λ p q=>by grind),E M (λ p q=>by grind),Nat.pow_succ];omega
 .exact h t (by simp[e])
def AA4(f)(l:List (Nat×List (Nat×Nat)))(A:Jw l)(E:l≠[])(B:l.length<=f+1)(M)(q:∀p∈Eb f l,p.2<=M):GF M (Eb f l)=2 ^ M:=by
 induction f generalizing l with
 | zero=>
  match l,E,B,A,q with
  | [t],_,_,A,q=>exact(A t (by simp)).2 M q
 | succ f I=>
  match l,E,B,A,q with
  | [t],_,_,A,q=>exact(A t (by simp)).2 M q
  | a::b::r,_,B,A,q=>exact I (DJ (join a b) r) A.step (by intro e;have:=JW (join a b) r;grind) (by rw[JW];grind) q
def KK:Nat->Nat
 | 0=>0
 | 1=>1
 | n+2=>KK (n+1)+KK n
def XG(t s:Nat×List (Nat×Nat)):Prop:=(∀p∈t.2,KK (p.2+1)<=s.1)/\∀p∈s.2,KK (p.2+1)<=t.1
def Deep(l:List (Nat×List (Nat×Nat))):Prop:=(∀t∈l,∀p∈t.2,KK (p.2+2)<=t.1)/\l.Pairwise XG
def Cr(Bs:List Nat)(g:Nat->Nat):Nat:=(Bs.map g).sum
def I8{a b}(h:a.Perm b)(g):Cr a g=Cr b g:=(h.map g).sum_nat
def Eh(b r g):Cr (b::r) g=g b+Cr r g:=by simp[Cr]
def Vt{Bs g h}(e:∀b∈Bs,g b=h b):Cr Bs g=Cr Bs h:=by unfold Cr;rw[List.map_congr_left e]
def Vu{Bs g m}(h:∀b∈Bs,g b<=m):Cr Bs g<=Bs.length*m:=by
 induction Bs with
 | nil=>simp[Cr]
 | cons b r q=>rw[Eh];have A:=q (λ x f=>h x (List.mem_cons.2 (.inr f)));have B:=h b (List.mem_cons.2 (.inl rfl));simp only[List.length_cons,Nat.add_mul,Nat.one_mul];omega
structure Tr(c d:Nat->Nat)(Bs:List Nat):Prop where
 nd:Bs.Nodup
 two:2<=Bs.length
 full:∀M:Nat,(∀b∈Bs,d b<=M)->Cr Bs (λ b=>2 ^ (M-d b))=2 ^ M
 best:∀(M:Nat)(o:Nat->Nat),(∀b∈Bs,o b<=M)->Cr Bs (λ b=>2 ^ (M-o b))<=2 ^ M->Cr Bs (λ b=>c b*d b)<=Cr Bs (λ b=>c b*o b)
def Kh{x}{Bs:List Nat}(h:x∈Bs):Bs.Perm (x::Bs.erase x):=List.perm_cons_erase h
def SP(d:Nat->Nat)(Bs)(h:Bs≠[]):∃x∈Bs,∀b∈Bs,d b<=d x:=by
 induction Bs with
 | nil=>grind
 | cons b r f=>
  by_cases hr:r=[]
  .simp_all
  grind
def Tr.twins{c d Bs}(h:Tr c d Bs){x}(K:x∈Bs)(I:∀b∈Bs,d b<=d x):∃y∈Bs,y≠x/\d y=d x:=by
 rcases Classical.em (∃y∈Bs,y≠x/\d y=d x)with e|e;exact e
 .exfalso;have J:=Kh K;have f:=h.full (d x) I;rw[I8 J,Eh,Nat.sub_self,Nat.pow_zero]at f;have X:=h.nd;have E:2 ∣ Cr (Bs.erase x) (λ b=>2 ^ (d x-d b)):=by
   have:∀L:List Nat,(∀b∈L,d b<d x)->2 ∣ Cr L (λ b=>2 ^ (d x-d b)):=by
    intro L;induction L with
    | nil=>intro _;simp[Cr]
    | cons b r T=>intro A;rw[Eh];refine Nat.dvd_add ?_ (T (λ z O=>A z (List.mem_cons.2 (.inr O))));have:=A b (List.mem_cons.2 (.inl rfl));exact Nat.dvd_trans (show 2 ∣ 2 ^ 1 by decide) (Nat.pow_dvd_pow 2 (by omega))
   grind
  have Y:d x≠0:=by intro q;have U:=h.two;(have W:1<=(Bs.erase x).length:=by grind);obtain⟨b,r,B⟩:=List.exists_cons_of_ne_nil (show Bs.erase x≠[] by grind);rw[q,B,Eh]at f;simp at f
  obtain⟨u,hu⟩:=E;obtain⟨t,Z⟩:∃t,d x=t+1:=⟨d x-1,by omega⟩
  grind
def Tr.shallow{c d Bs}(h:Tr c d Bs)(hc:∀b∈Bs,1<=c b/\c b<=2)(hl:Bs.length<=256):∀b∈Bs,d b<=11:=by
 obtain⟨x,B,r⟩:=SP d Bs (by intro e;have:=h.two;grind);intro b f;have a4:=r b f;rcases Nat.lt_or_ge 11 (d x)with E|E
 .exfalso;obtain⟨y,J,a0,X⟩:=h.twins B r;have W:∀z∈Bs,d x<=d z+2:=by
   intro z K;rcases Nat.lt_or_ge (d z+2) (d x)with I|I
   .exfalso;(have a2:z≠x:=λ e=>by grind);(have a3:z≠y:=λ e=>by grind);have Z:=(List.mem_erase_of_ne a0).2 J;have a1:=(List.mem_erase_of_ne a3).2 ((List.mem_erase_of_ne a2).2 K);have q:=(Kh B).trans (List.Perm.cons x ((Kh Z).trans (List.Perm.cons y (Kh a1))));generalize ((Bs.erase x).erase y).erase z=R at q;have Y:=q.nodup_iff.1 h.nd;obtain⟨n1,n2⟩:=List.nodup_cons.1 Y;obtain⟨n3,n4⟩:=List.nodup_cons.1 n2;obtain⟨n5,_⟩:=List.nodup_cons.1 n4;let o:Nat->Nat:=λ b=>if b=x then d z+1 else if b=y then d x-1 else if b=z then d z+1 else d b;(have L:o x=d z+1:=by simp[o]);(have O:o y=d x-1:=by grind);(have T:o z=d z+1:=by grind);have oR:∀b∈R,o b=d b:=λ b f=>by grind
    have A:=h.full (d x) r;have f:=h.best (d x) o (λ b f=>by
     grind)
     (by
      rw[I8 q,Eh,Eh,Eh]at A |-
      rw[L,O,T,Vt (λ b f=>by rw[oR b f])];(have e1:d x-(d x-1)=1:=by omega);have e2:d x-d z=(d x-(d z+1))+1:=by omega
      grind)
    rw[I8 q,I8 q,Eh,Eh,Eh,Eh,Eh,Eh,L,O,T,Vt (g:=λ b=>c b*o b) (h:=λ b=>c b*d b) (λ b f=>by grind)]at f;have cx:=hc x B;have cy:=hc y J;have cz:=hc z K;obtain⟨v,hv⟩:∃v,d x=d z+(v+3):=⟨d x-d z-3,by omega⟩
    rw[X,show d x-1=d z+(v+2) by omega,hv]at f
    grind
   .exact I
  have A:=h.full (d x) r;have U:=Vu (Bs:=Bs) (g:=λ b=>2 ^ (d x-d b)) (m:=4) (λ b f=>by
   have:=W b f;exact Nat.le_trans (Nat.pow_le_pow_right (by decide) (show d x-d b<=2 by omega)) (by decide))
  rw[A]at U;have:2 ^ 12<=2 ^ d x:=Nat.pow_le_pow_right (by decide) E;omega
 .omega
def GC(c:Nat->Nat)(x:Nat):List Nat->List Nat
 | []=>[x]
 | y::r=>if c y<=c x then y::GC c x r else x::y::r
def Cg(c:Nat->Nat)(bs:List Nat):List Nat:=bs.foldl (λ acc b=>GC c b acc) []
def Cm(c:Nat->Nat)(b:Nat):Nat×List (Nat×Nat):=(c b,[(b,0)])
def ABV(c x l):(GC c x l).Perm (x::l):=by
 induction l with
 | nil=>exact List.Perm.refl _
 | cons y r f=>
  simp only[GC]
  grind
def ABU(c x l):(GC c x l).map c=Dg (c x) (l.map c):=by
 induction l with
 | nil=>rfl
 | cons y r f=>simp only[GC,List.map_cons,Dg];grind
def ABT(c x l):(GC c x l).map (Cm c)=DJ (Cm c x) (l.map (Cm c)):=by
 induction l with
 | nil=>rfl
 | cons y r f=>
  simp only[GC,List.map_cons,DJ];show _=if c y<=c x then _ else _
  grind
def VX(c)(bs f:List Nat)(ha:GR (f.map c)):(bs.foldl (λ f b=>GC c b f) f).Perm (f++bs)/\GR ((bs.foldl (λ f b=>GC c b f) f).map c):=by
 induction bs generalizing f with
 | nil=>grind
 | cons b r B=>
  simp only[List.foldl_cons];obtain⟨q,A⟩:=B (GC c b f) (by rw[ABU];exact TQ ha);refine⟨q.trans ?_,A⟩;refine((ABV c b f).append_right r).trans ?_
  grind
def IW(c bs):(Cg c bs).Perm bs:=by simpa[Cg]using(VX c bs [] (by simp[GR])).1
def AGG(c bs):GR ((Cg c bs).map c):=(VX c bs [] (by simp[GR])).2
def stand(c:Nat->Nat)(n:Nat):List Nat:=(List.range n).filter λ b=>0<c b
def AGS(c n):(stand c n).Nodup:=List.nodup_range.filter _
def ACx{c n b}:b∈stand c n↔b<n/\0<c b:=by simp[stand]
def Fz:List (Nat×Nat)->Nat->Nat
 | [],_=>0
 | p::r,b=>if p.1=b then p.2 else Fz r b
def OI{ls}(f:(ls.map (·.1)).Nodup){p}(A:p∈ls):Fz ls p.1=p.2:=by
 induction ls with
 | nil=>cases A
 | cons q r I=>
  simp only[List.map_cons]at f;obtain⟨B,E⟩:=List.nodup_cons.1 f;simp only[Fz]
  grind
def Vv{ls Bs}(f:(ls.map (·.1)).Perm Bs)(q:Bs.Nodup)(G:Nat->Nat->Nat):(ls.map λ p=>G p.1 p.2).sum=Cr Bs (λ b=>G b (Fz ls b)):=by have r:=f.nodup_iff.2 q;rw[<-I8 f];unfold Cr;rw[List.map_map];congr 1;refine List.map_congr_left λ p h=>?_;show G p.1 p.2=G p.1 (Fz ls p.1);rw[OI r h]
def Ty{f:Nat->Nat×List (Nat×Nat)}{l:List Nat}(h:1<=l.length):l.map f≠[]:=by
 cases l with
 | nil=>simp at h
 | cons b r=>simp
def Dr(c:Nat->Nat)(n:Nat):List (Nat×Nat):=Eb (stand c n).length ((Cg c (stand c n)).map (Cm c))
def WU(c n)(h:1<=(stand c n).length):((Dr c n).map (·.1)).Perm (Cg c (stand c n)):=by
 have q:(Cg c (stand c n)).length=(stand c n).length:=(IW c _).length_eq;have f:=AA2 (stand c n).length ((Cg c (stand c n)).map (Cm c)) (Ty (by omega)) (by simp[q]);refine f.trans ?_;have:(EH ((Cg c (stand c n)).map (Cm c))).map (·.1)=Cg c (stand c n):=by
  generalize Cg c (stand c n)=l;induction l with
  | nil=>rfl
  | cons b r A=>simp only[EH,List.map_cons,List.flatMap_cons,Cm,List.map_append]at A |-;grind
 rw[this]
def AA1(c)(l:List Nat)(B:∀b∈l,0<c b):Jz c (l.map (Cm c))/\Jw (l.map (Cm c))/\Deep (l.map (Cm c))/\EO c (EH (l.map (Cm c)))=0:=by
 refine⟨λ t q=>?_,λ t q=>?_,⟨λ t q p f=>?_,?_⟩,?_⟩;obtain⟨b,_,rfl⟩:=List.mem_map.1 q;simp[Cm,Fg];obtain⟨b,_,rfl⟩:=List.mem_map.1 q;exact⟨by simp[Cm],λ M _=>by simp[Cm,GF]⟩
 .obtain⟨b,A,rfl⟩:=List.mem_map.1 q;simp only[Cm,List.mem_singleton]at f;subst f;show 1<=c b
  grind
 .rw[List.pairwise_map];induction l with
  | nil=>simp
  | cons b r E=>refine List.pairwise_cons.2 ⟨λ s J=>⟨λ p f=>?_,λ p f=>?_⟩,E (λ b A=>B b (List.mem_cons.2 (.inr A)))⟩;simp only[Cm,List.mem_singleton]at f;subst f;exact B s (List.mem_cons.2 (.inr J));simp only[Cm,List.mem_singleton]at f;subst f;exact B b (List.mem_cons.2 (.inl rfl))
 .induction l with
  | nil=>rfl
  | cons b r E=>
   have I:=E (λ b A=>B b (List.mem_cons.2 (.inr A)));simp only[EH,List.map_cons,List.flatMap_cons]at I |-
   rw[KT,I];simp[Cm,EO]
def AHj(c n)(h:2<=(stand c n).length):Tr c (Fz (Dr c n)) (Cg c (stand c n)):=by
 have K:(Cg c (stand c n)).length=(stand c n).length:=(IW c _).length_eq;have A:=(IW c _).nodup_iff.2 (AGS c n);have f:=WU c n (by omega);have U:∀b∈Cg c (stand c n),0<c b:=λ b f=>(ACx.1 ((IW c _).mem_iff.1 f)).2;obtain⟨g1,L,_,O⟩:=AA1 c _ U;have E:(Cg c (stand c n)).map (Cm c)≠[]:=Ty (by omega);have J:((Cg c (stand c n)).map (Cm c)).length<=(stand c n).length+1:=by simp[K]
 have W:((Cg c (stand c n)).map (Cm c)).map (·.1)=(Cg c (stand c n)).map c:=by simp[Cm,Function.comp_def]
 refine⟨A,by omega,λ M I=>?_,λ M o I T=>?_⟩;rw[<-Vv f A (λ _ d=>2 ^ (M-d))];refine AA4 _ _ L E J M (λ p B=>?_);have q:=I p.1 (f.mem_iff.1 (List.mem_map.2 ⟨p,B,rfl⟩));rw[OI (f.nodup_iff.2 A) B]at q;exact q
 .rw[<-Vv f A (λ b d=>c b*d)];have q:=AA3 c (stand c n).length _ g1 E J;rw[O,Nat.zero_add,W]at q;show EO c (Dr c n)<=_;unfold Dr;rw[q];have r:=opt M (stand c n).length ((Cg c (stand c n)).map λ b=>(c b,o b)) (by simp[K]) (by
   rw[List.map_map];show GR ((Cg c (stand c n)).map c);exact AGG c _) (λ p B=>by
    grind) (by
    unfold DW;rw[List.map_map];exact T)
  rw[List.map_map]at r;unfold Ea at r;rw[List.map_map]at r;exact r
structure NT where
 w:Nat
 num:Nat
 ls:List (Nat×Nat)
def DI(x:NT):List NT->List NT
 | []=>[x]
 | y::r=>if y.w<=x.w then y::DI x r else x::y::r
def fg(t:NT):Nat×List (Nat×Nat):=(t.w,t.ls)
def key(t:NT):Int×Int:=((t.w:Int),(t.num:Int))
def jn(a b:NT)(N:Nat):NT:=⟨a.w+b.w,N,EZ (a.ls++b.ls)⟩
def TO(x l):(DI x l).map fg=DJ (fg x) (l.map fg):=by
 induction l with
 | nil=>rfl
 | cons y r f=>
  simp only[DI,List.map_cons,DJ];show _=if y.w<=x.w then _ else _
  grind
def GD(x l):(DI x l).Perm (x::l):=by
 induction l with
 | nil=>exact List.Perm.refl _
 | cons y r f=>simp only[DI];split;exact(List.Perm.cons y f).trans (List.Perm.swap x y r);simp
def IK{x z l}:z∈DI x l↔z=x\/z∈l:=by rw[(GD x l).mem_iff];simp
def FG(l:List NT):Prop:=l.Pairwise λ a b=>ltP (key a) (key b)
def TP{x l}(h:FG l)(q:∀t∈l,t.num<x.num):FG (DI x l):=by
 induction l with
 | nil=>simp[DI,FG]
 | cons y r A=>
  unfold FG at h A;rw[List.pairwise_cons]at h;simp only[DI];split
  .rename_i hle;unfold FG;rw[List.pairwise_cons];refine⟨λ z f=>?_,A h.2 (λ t B=>q t (by simp[B]))⟩;rcases IK.1 f with rfl|f;have:=q y (by simp);unfold ltP key;omega
   grind
  .rename_i hle;unfold FG;rw[List.pairwise_cons,List.pairwise_cons];refine⟨λ z f=>?_,h.1,h.2⟩;rcases List.mem_cons.1 f with rfl|f;unfold ltP key;omega
   .have:=h.1 z f;unfold ltP key at this |-
    omega
def Sr{f t r}(A:f.Perm ((t::r).map key))(I:CQ f f.length 0)(q:FG (t::r)):G f 0=key t:=by
 have L:f.length=r.length+1:=by rw[A.length_eq];simp
 have B:CX (G f 0) (key t):=by have:key t∈f:=A.mem_iff.2 (by simp);obtain⟨k,J,e⟩:=ACt this;rw[<-e];exact I.least k J
 have E:CX (key t) (G f 0):=by
  have:G f 0∈(t::r).map key:=A.mem_iff.1 (XD (by omega));simp only[List.map_cons,List.mem_cons,List.mem_map]at this;rcases this with e|⟨z,K,e⟩
  .grind
  .rw[<-e];unfold FG at q;rw[List.pairwise_cons]at q;exact KS (q.1 z K)
 exact AB6 B E
def Ig(P:Nat->Nat)(Q:Nat->Prop)(i:Nat):Nat->Nat->Prop
 | 0,k=>i=k
 | d+1,k=>∃j,Ig P Q i d j/\Q j/\P j=k
def Ig.mono{P f:Nat->Nat}{Q q:Nat->Prop}{i:Nat}(h:∀j,Q j->q j/\f j=P j):∀{d k:Nat},Ig P Q i d k->Ig f q i d k
 | 0,_,e=>e
 | _+1,_,⟨j,h1,h2,h3⟩=>⟨j,h1.mono h,(h j h2).1,(h j h2).2.trans h3⟩
def Ig.depth{P D:Nat->Nat}{Q:Nat->Prop}{i:Nat}(h:∀j,Q j->D j=D (P j)+1):∀{d k:Nat},Ig P Q i d k->D i=D k+d
 | 0,_,e=>by rw[show i=_ from e];rfl
 | d+1,k,⟨j,h1,h2,h3⟩=>by
  have f:=h1.depth h
  grind
abbrev pf(P:List Int)(j:Nat):Nat:=(P.getD j 0).toNat
structure JS(P:List Int)(N n:Nat)(L:List NT)(T:List (Nat×Nat))(S f:Nat):Prop where
 lex:FG L
 lt:∀t∈L,t.num<N
 tree:Eb f (L.map fg)=T
 fuel:L.length<=f+1
 cnt:N+L.length=2*n
 pth:∀t∈L,∀p∈t.ls,Ig (pf P) (λ j=>j<N/\∀t∈L,t.num≠j) p.1 p.2 t.num
 plen:P.length=2*n-2
 ret:∀j,j<N->(∀t∈L,t.num≠j)->j<pf P j/\pf P j<N
 nn:∀j,0<=P.getD j 0
 sum:(L.map (·.w)).sum=S
 nd:(L.map (·.num)).Nodup
 kid:∀j,n<=j->j<N->∃k,(k<N/\∀t∈L,t.num≠k)/\pf P k=j
def ME(P:List Int)(a x j):(P.set a x).getD j 0=if j=a/\a<P.length then x else P.getD j 0:=by grind
def JS.step{P N n a b r T S f}(h:JS P N n (a::b::r) T S (f+1))(ha:a.num<P.length)(hb:b.num<P.length):
 JS ((P.set a.num (N:Int)).set b.num (N:Int)) (N+1) n (DI (jn a b N) r) T S f:=by
 have K:=h.lex;unfold FG at K;rw[List.pairwise_cons,List.pairwise_cons]at K;have Y:=h.nd;simp only[List.map_cons,List.nodup_cons,List.mem_cons,not_or,List.mem_map,not_exists,not_and]at Y;have a0:=h.lt a (by simp);have a1:=h.lt b (by simp);have W:∀j,pf ((P.set a.num (N:Int)).set b.num (N:Int)) j=if j=a.num\/j=b.num then N else pf P j:=by grind
 have J:∀j,(j<N/\∀t∈a::b::r,t.num≠j)->(j<N+1/\∀t∈DI (jn a b N) r,t.num≠j)/\pf ((P.set a.num (N:Int)).set b.num (N:Int)) j=pf P j:=by
  rintro j ⟨U,Z⟩;refine⟨⟨by omega,λ t A=>?_⟩,?_⟩
  .rcases IK.1 A with rfl|A;show N≠j;omega
   grind
  grind
 have I:∀x∈[a,b],(x.num<N+1/\∀t∈DI (jn a b N) r,t.num≠x.num)/\pf ((P.set a.num (N:Int)).set b.num (N:Int)) x.num=N:=by
  intro x B;have a4:x.num<N:=by simp at B;rcases B with rfl|rfl<;>assumption
  refine⟨⟨by omega,λ t A=>?_⟩,?_⟩
  .rcases IK.1 A with rfl|a3;show N≠x.num;omega
   .simp at B;rcases B with rfl|rfl
    .grind
    grind
  .rw[W,if_pos];simp at B;rcases B with rfl|rfl;omega;omega
 refine⟨TP K.2.2 (λ t A=>h.lt t (by simp[A])),λ t A=>?_,?_,?_,?_,?_,by simp[h.plen],?_,?_,?_,?_,?_⟩;rcases IK.1 A with rfl|A;show N<N+1;omega;have:=h.lt t (by simp[A]);omega;rw[TO];have:=h.tree;simp only[List.map_cons,Eb]at this;exact this
 .rw[(GD _ _).length_eq];have:=h.fuel
  grind
 .rw[(GD _ _).length_eq];have:=h.cnt
  grind
 .intro t A p L;rcases IK.1 A with rfl|A;simp only[jn,EZ,List.mem_map,List.mem_append]at L;obtain⟨q,E,rfl⟩:=L;show∃j,_;rcases E with E|E;exact⟨a.num,(h.pth a (by simp) q E).mono J,(I a (by simp)).1,(I a (by simp)).2⟩;exact⟨b.num,(h.pth b (by simp) q E).mono J,(I b (by simp)).1,(I b (by simp)).2⟩;exact(h.pth t (by simp[A]) p L).mono J
 .intro j hj X;rw[W];by_cases e:j=a.num\/j=b.num;rw[if_pos e];omega
  .rw[if_neg e];have a2:j≠N:=λ O=>X (jn a b N) (IK.2 (.inl rfl)) O.symm;have:=h.ret j (by omega) (λ t A=>by
    simp only[List.mem_cons]at A;rcases A with rfl|rfl|A;omega;omega
    .exact X t (IK.2 (.inr A)))
   omega
 .intro j;rw[ME,ME];split;omega
  .split;omega;exact h.nn j
 .rw[((GD _ _).map _).sum_nat];have:=h.sum;simp[jn]at this |-
  omega
 .rw[((GD _ _).map _).nodup_iff];simp only[List.map_cons,List.nodup_cons];refine⟨λ hm=>?_,Y.2.2⟩;obtain⟨t,A,e⟩:=List.mem_map.1 hm;have:=h.lt t (by simp[A]);simp[jn]at e;omega
 .intro j U Z;by_cases e:j=N
  .grind
  .obtain⟨k,hk,O⟩:=h.kid j U (by omega)
   grind
def L0(c:Nat->Nat):Nat->List NT
 | 0=>[]
 | k+1=>DI ⟨c k,k,[(k,0)]⟩ (L0 c k)
def NR(c n):FG (L0 c n)/\(∀t∈L0 c n,t.num<n/\t.ls=[(t.num,0)])/\(L0 c n).length=n/\((L0 c n).map (·.num)).Perm (List.range n)/\
 (L0 c n).map fg=(Cg c (List.range n)).map (Cm c)/\((L0 c n).map key).Perm ((List.range n).map λ i=>((c i:Int),(i:Int)))/\((L0 c n).map (·.w)).sum=((List.range n).map c).sum:=by
 induction n with
 | zero=>simp[L0,FG,Cg]
 | succ n I=>
  obtain⟨q,r,A,J,B,E,K⟩:=I;refine⟨TP q (λ t f=>(r t f).1),λ t f=>?_,?_,?_,?_,?_,?_⟩
  .rcases IK.1 f with rfl|f;simp
   grind
  .show(DI _ _).length=_;rw[(GD _ _).length_eq];simp[A]
  .rw[List.range_succ];refine((GD _ _).map _).trans ?_
   grind
  .show(DI _ _).map fg=_;rw[TO,B,List.range_succ];unfold Cg;rw[List.foldl_append];simp only[List.foldl_cons,List.foldl_nil];rw[ABT];rfl
  .rw[List.range_succ,List.map_append];refine((GD _ _).map _).trans ?_;simp only[List.map_cons,List.map_nil];exact(List.Perm.cons _ E).trans (List.perm_append_comm (l₁:=[_]))
  .show((DI _ _).map _).sum=_;rw[((GD _ _).map _).sum_nat,List.range_succ,List.map_append]
   grind
def QL(c n)(h:∀i,i<n->0<c i):stand c n=List.range n:=by unfold stand;simp_all
def JS.start(c n)(f:∀i,i<n->0<c i):JS (List.replicate (2*n-2) 0) n n (L0 c n) (Dr c n) ((List.range n).map c).sum n:=by
 obtain⟨A,q,J,B,E,K,I⟩:=NR c n;refine⟨A,λ t r=>(q t r).1,?_,by omega,by omega,λ t r p f=>?_,by simp,λ j L O=>?_,λ j=>?_,I,B.nodup_iff.2 List.nodup_range,λ j A q=>by omega⟩;unfold Dr;rw[QL c n f,E,List.length_range];rw[(q t r).2]at f;simp at f;subst f;rfl
 .exfalso;have:j∈(L0 c n).map (·.num):=B.mem_iff.2 (by grind)
  grind
 grind
def JS.done{P N n t T S f}(h:JS P N n [t] T S f)(Z:1<=n):
 (∀j,j<2*n-2->j<pf P j/\pf P j<=2*n-2)/\∀D:Nat->Nat,D (2*n-2)=0->(∀j,j<2*n-2->D j=D (pf P j)+1)->(∀p∈T,D p.1=p.2)/\∀M,(∀i,i<n->D i<=M)->∀j,j<=2*n-2->D j<=M:=by
 have hc:=h.cnt;simp at hc;have ht:t.num=2*n-2:=by have L:=h.lt t (by simp);by_cases e:t.num=2*n-2;exact e;have:=h.ret (2*n-2) (by omega) (λ u J=>by grind);omega
 have B:T=t.ls:=by have:=h.tree;simp only[List.map_cons,List.map_nil]at this;cases f<;>simp only[Eb]at this<;>exact this.symm
 have hr:∀j,j<2*n-2->j<pf P j/\pf P j<=2*n-2:=λ j q=>by have:=h.ret j (by omega) (λ u J=>by grind);omega
 refine⟨hr,λ D K A=>⟨λ p r=>?_,λ M O j=>?_⟩⟩
 .rw[B]at r;have I:=h.pth t (by simp) p r;have:=I.depth (D:=D) (λ j q=>A j (by
   grind))
  grind
 .induction j using Nat.strongRecOn with
  | ind j ih=>
   intro q;by_cases U:j<n
   .grind
   .obtain⟨k,⟨W,E⟩,e⟩:=h.kid j (by omega) (by omega);have X:=E t (by simp);have Y:k<2*n-2:=by omega
    grind
end Go.Proofs.YtihofcopapmjlaaGreat.Hf
namespace Go.Proofs.YtihofcopapmjlaaGreat.Pl
def BV:Nat->Int->List Int
 | 0,n=>[n]
 | f+1,n=>if 128<=n then(n % 128+128)::BV f (n / 128)else[n]
def AQ(n:Int):List Int:=BV 4 n
def Zi(f n):1<=(BV f n).length/\(BV f n).length<=f+1:=by
 induction f generalizing n with
 | zero=>simp[BV]
 | succ f q=>
  simp only[BV]
  grind
def F0(n):1<=(AQ n).length/\(AQ n).length<=5:=Zi 4 n
def Zj(f a b)(h:a<=b):(BV f a).length<=(BV f b).length:=by
 induction f generalizing a b with
 | zero=>simp[BV]
 | succ f q=>
  simp only[BV];by_cases ha:128<=a
  .rw[if_pos ha,if_pos (by omega)];have:=q (a / 128) (b / 128) (by omega)
   grind
  grind
def SY(a:List Int)(x c):(a++x::c).getD a.length 0=x:=by simp
def ADT(f pre m n q)(U:pre.length+f=4)(X:0<=m)(Y:m<128 ^ (f+1))(W:0<pre.length->0<m)(B:CN (pre++BV f m++q) pre.length+m*128 ^ pre.length=n)(a0:n<=4294967295):
 Bz (pre++BV f m++q) (5-pre.length) pre.length=some (n,pre.length+(BV f m).length):=by
 induction f generalizing pre m with
 | zero=>
  simp only[BV,List.append_assoc,List.singleton_append]at B |-
  have A:=SY pre m q;have I:pre.length<(pre++m::q).length:=by simp
  have Z:m<128:=by omega
  have J:CN (pre++m::q) (pre.length+1)=n:=by
   simp only[CN,A]
   grind
  have e:5-pre.length=0+1:=by omega
  rw[e];simp only[Bz]
  grind
 | succ f L=>
  have e:5-pre.length=(5-(pre.length+1))+1:=by omega
  by_cases T:128<=m
  .have E:BV (f+1) m=(m % 128+128)::BV f (m / 128):=by simp only[BV];grind
   rw[E]at B |-
   (have K:pre++(m % 128+128)::BV f (m / 128)++q=(pre++[m % 128+128])++BV f (m / 128)++q:=by simp);have A:(pre++(m % 128+128)::BV f (m / 128)++q).getD pre.length 0=m % 128+128:=by simp
   (have I:pre.length<(pre++(m % 128+128)::BV f (m / 128)++q).length:=by simp);rw[e];simp only[Bz];rw[if_pos I,A,if_pos (by omega)];have J:CN (pre++(m % 128+128)::BV f (m / 128)++q) (pre.length+1)+(m / 128)*128 ^ (pre.length+1)=n:=by
    simp only[CN,A];rw[<-B,Int.pow_succ];generalize (128:Int) ^ pre.length=p;have O:(m % 128+128) % 128=m % 128:=by omega
    grind
   have hp:(128:Int) ^ (f+1+1)=128 ^ (f+1)*128:=Int.pow_succ _ _;have r:=L (pre++[m % 128+128]) (m / 128) (by simp;omega) (by omega) (by omega) (λ _=>by omega) (by simp_all);rw[K];simp only[List.length_append,List.length_cons,List.length_nil]at r |-
   grind
  .have E:BV (f+1) m=[m]:=by simp only[BV];grind
   rw[E]at B |-
   simp only[List.append_assoc,List.singleton_append]at B |-
   have A:=SY pre m q;(have I:pre.length<(pre++m::q).length:=by simp);have J:CN (pre++m::q) (pre.length+1)=n:=by
    simp only[CN,A]
    grind
   rw[e];simp only[Bz]
   grind
def PK(n f)(q:0<=n)(r:n<=4294967295):BJ (AQ n++f)=some (n,(AQ n).length):=by have:=ADT 4 [] n n f rfl q (by omega) (by simp) (by simp[CN]) r;simpa[BJ,AQ]using this
def Zh(f n)(r:0<=n)(A:n<128 ^ (f+1)):∀x∈BV f n,0<=x/\x<=255:=by
 induction f generalizing n with
 | zero=>intro x q;simp only[BV,List.mem_singleton]at q;omega
 | succ f E=>
  intro x q;have B:(128:Int) ^ (f+1+1)=128 ^ (f+1)*128:=Int.pow_succ _ _;simp only[BV]at q
  grind
end Go.Proofs.YtihofcopapmjlaaGreat.Pl
