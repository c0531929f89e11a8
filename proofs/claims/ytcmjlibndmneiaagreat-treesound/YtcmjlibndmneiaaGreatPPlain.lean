import Derived.KernelRfl
set_option maxRecDepth 100000
set_option linter.all false
set_option maxHeartbeats 8000000
namespace Go.Proofs.YtcmjlibndmneiaaGreat.Pl
def bv(f:Nat->Int):Nat->Int
 | 0=>0
 | n+1=>bv f n+f n*2 ^ n
def val(bs:List Int)(p n:Nat):Int:=bv (λ i=>bs.getD (p+i) 0) n
def zeo9{xs ys:List Int}(E:xs.length=ys.length)(h:∀i,i<xs.length->xs.getD i 0=ys.getD i 0):xs=ys:=by refine List.ext_getElem E λ i u A=>?_;have:=h i u;simpa[List.getD_eq_getElem?_getD,u,A]using this
end Go.Proofs.YtcmjlibndmneiaaGreat.Pl
namespace Go.Proofs.YtcmjlibndmneiaaGreat.Ah
abbrev G(ps:List Int)(i:Nat):Int:=ps.getD i 0
def swp(ps:List Int)(i j:Nat):List Int:=(ps.set i (G ps j)).set j (G ps i)
def zbp9(ps:List Int)(i j:Nat):(swp ps i j).length=ps.length:=by simp[swp]
def zir9(ps:List Int){i j:Nat}(hi:i<ps.length)(hj:j<ps.length):(swp ps i j).Perm ps:=by
 have h:=Array.swap_perm (xs:=ps.toArray) (i:=i) (j:=j) (by simpa using hi) (by simpa using hj);have e:(ps.toArray.swap i j (by simpa using hi) (by simpa using hj)).toList=swp ps i j:=by simp[Array.swap_def,swp,G,List.getD_eq_getElem?_getD,hi,hj]
 have:=Array.perm_iff_toList_perm.1 h;rw[e]at this;simpa using this
def zed9(ps:List Int){i j:Nat}(hi:i<ps.length)(hj:j<ps.length)(k:Nat):G (swp ps i j) k=if k=j then G ps i else if k=i then G ps j else G ps k:=by
 unfold G swp;simp only[List.getD_eq_getElem?_getD,List.getElem?_set,List.length_set];by_cases u:k=j
 .subst u;simp[hj]
 .by_cases A:k=i
  .subst A;rw[if_neg (λ e=>u e.symm),if_neg u];simp[hi]
  .rw[if_neg (λ e=>u e.symm),if_neg (λ e=>A e.symm),if_neg u,if_neg A]
def Ch(a c:Nat):Prop:=c=2*a+1\/c=2*a+2
def Heap(ps:List Int)(n:Nat):Prop:=∀a c,Ch a c->c<n->G ps a<=G ps c
def Hx(ps:List Int)(n i:Nat):Prop:=(∀a c,a≠i->c≠i->Ch a c->c<n->G ps a<=G ps c)/\∀p c,Ch p i->Ch i c->c<n->G ps p<=G ps c
def Ux(ps:List Int)(n i:Nat):Prop:=(∀a c,c≠i->Ch a c->c<n->G ps a<=G ps c)/\∀p c,Ch p i->Ch i c->c<n->G ps p<=G ps c
def Dx(ps:List Int)(n i:Nat):Prop:=(∀a c,a≠i->Ch a c->c<n->G ps a<=G ps c)/\∀p c,Ch p i->Ch i c->c<n->G ps p<=G ps c
structure Dn(ps0 ps:List Int)(n i0 k:Nat):Prop where
 perm:ps.Perm ps0
 rest:∀j,n<=j->G ps j=G ps0 j
 ge:i0<=k
 nl:n<=ps.length
 ok:(k=i0/\Hx ps n i0)\/(i0<k/\Dx ps n k)
def Dn.start{ps:List Int}{n u:Nat}(h:Hx ps n u)(A:n<=ps.length):Dn ps ps n u u:=
 ⟨List.Perm.refl _,λ _ _=>rfl,Nat.le_refl _,A,.inl ⟨rfl,h⟩⟩
def Dn.stop{Y ps:List Int}{n E k:Nat}(h:Dn Y ps n E k)(H:∀c,Ch k c->c<n->G ps k<=G ps c):(E<k->Heap ps n)/\(¬E<k->Ux ps n E):=by
 refine⟨λ O a c u A=>?_,λ O=>?_⟩
 .rcases h.ok with⟨e,_⟩|⟨_,K,_⟩
  .omega
  .by_cases e:a=k
   .subst e;exact H c u A
   .exact K a c e u A
 .rcases h.ok with⟨e,T,Q⟩|⟨e,_⟩
  .subst e;refine⟨λ a c I u A=>?_,Q⟩;by_cases e:a=k
   .subst e;exact H c u A
   .exact T a c e I u A
  .omega
def Dn.sink{a0 ps:List Int}{n Y k j:Nat}(h:Dn a0 ps n Y k)(hj:Ch k j)(hn:j<n)(hm:∀c,Ch k c->c<n->G ps j<=G ps c)(hl:G ps j<G ps k):Dn a0 (swp ps k j) n Y j:=by
 have a1:=h.nl;have a2:=h.ge;have a3:k<j:=by unfold Ch at hj;omega
 have Q:k<ps.length:=by omega
 have T:j<ps.length:=by omega
 have g:=zed9 ps Q T;have O:∀a c,a≠k->c≠k->Ch a c->c<n->G ps a<=G ps c:=by
  rcases h.ok with⟨e,hx,_⟩|⟨_,hd,_⟩
  .subst e;exact hx
  .exact λ a c e _=>hd a c e
 have h2:∀p c,Ch p k->Ch k c->c<n->G ps p<=G ps c:=by
  rcases h.ok with⟨e,_,K⟩|⟨_,_,K⟩
  .subst e;exact K
  .exact K
 refine⟨(zir9 ps Q T).trans h.perm,λ i hi=>?_,by omega,by rw[zbp9];exact a1,.inr ⟨by omega,λ a c e1 u E=>?_,λ p c e2 u E=>?_⟩⟩
 .rw[g,if_neg (by omega),if_neg (by omega)];exact h.rest i hi
 .rw[g a,g c,if_neg e1];by_cases H:a=k
  .subst H;rw[if_pos rfl];by_cases A:c=j
   .rw[if_pos A];omega
   .rw[if_neg A,if_neg (by unfold Ch at u;omega)];exact hm c u E
  .rw[if_neg H];by_cases A:c=j
   .subst A;unfold Ch at hj u;omega
   .rw[if_neg A];by_cases I:c=k
    .subst I;rw[if_pos rfl];exact h2 a j u hj hn
    .rw[if_neg I];exact O a c H I u E
 .have ep:p=k:=by unfold Ch at e2 hj;omega
  subst ep;rw[g p,g c,if_neg (by omega),if_pos rfl,if_neg (by unfold Ch at u;omega),if_neg (by unfold Ch at u;omega)];exact O j c (by omega) (by unfold Ch at u;omega) u E
structure Up(ps0 ps:List Int)(n j:Nat):Prop where
 perm:ps.Perm ps0
 rest:∀k,n<=k->G ps k=G ps0 k
 jn:j=0\/j<n
 nl:n<=ps.length
 ux:Ux ps n j
def Up.top{E ps:List Int}{n:Nat}(h:Up E ps n 0):Heap ps n:=λ a c u A=>h.ux.1 a c (by unfold Ch at u;omega) u A
def Up.stop{H ps:List Int}{n p j:Nat}(h:Up H ps n j)(E:Ch p j)(I:¬G ps j<G ps p):Heap ps n:=by
 intro a c u A;by_cases e:c=j
 .subst e;have:a=p:=by unfold Ch at u E;omega
  subst this;omega
 .exact h.ux.1 a c e u A
def Up.rise{a0 ps:List Int}{n p j:Nat}(h:Up a0 ps n j)(K:Ch p j)(hl:G ps j<G ps p):Up a0 (swp ps p j) n p:=by
 have a2:j<n:=by rcases h.jn with e|e;(· unfold Ch at K;omega);(· exact e)
 have a1:=h.nl;have a3:p<j:=by unfold Ch at K;omega
 have Y:p<ps.length:=by omega
 have T:j<ps.length:=by omega
 have g:=zed9 ps Y T;have O:=h.ux.1;have up:=h.ux.2;refine⟨(zir9 ps Y T).trans h.perm,λ k hk=>?_,.inr (by omega),by rw[zbp9];exact a1,λ a c E A H=>?_,λ q c E A H=>?_⟩
 .rw[g,if_neg (by omega),if_neg (by omega)];exact h.rest k hk
 .rw[g a,g c];by_cases u:c=j
  .have I:a=p:=by unfold Ch at A K;omega
   subst I;subst u;rw[if_neg (by omega),if_pos rfl,if_pos rfl];omega
  .rw[if_neg u,if_neg E];by_cases I:a=j
   .subst I;rw[if_pos rfl];exact up p c K A H
   .rw[if_neg I];by_cases Q:a=p
    .subst Q;rw[if_pos rfl];exact Int.le_trans (Int.le_of_lt hl) (O a c u A H)
    .rw[if_neg Q];exact O a c u A H
 .have hq:G ps q<=G ps p:=O q p (by omega) E (by omega);rw[g q,g c,if_neg (by unfold Ch at E;omega),if_neg (by unfold Ch at E;omega)];by_cases u:c=j
  .subst u;rw[if_pos rfl];exact hq
  .rw[if_neg u,if_neg (by unfold Ch at A;omega)];exact Int.le_trans hq (O p c u A H)
def Heap.least{ps:List Int}{n:Nat}(h:Heap ps n):∀k,k<n->G ps 0<=G ps k:=by
 intro k;induction k using Nat.strongRecOn with
 | ind k H=>
  intro E;by_cases u:k=0
  .subst u;exact Int.le_refl _
  .have A:Ch ((k-1) / 2) k:=by unfold Ch;omega
   exact Int.le_trans (H ((k-1) / 2) (by omega) (by omega)) (h _ k A E)
def mem_G{ps:List Int}{x:Int}(h:x∈ps):∃k,k<ps.length/\G ps k=x:=by obtain⟨k,u,e⟩:=List.mem_iff_getElem.1 h;exact⟨k,u,by simp[G,List.getD_eq_getElem?_getD,u,e]⟩
def G_mem{ps:List Int}{k:Nat}(h:k<ps.length):G ps k∈ps:=by simp[G,List.getD_eq_getElem?_getD,h]
def Up.push{ps:List Int}{x:Int}(h:Heap ps ps.length):Up (ps++[x]) (ps++[x]) (ps.length+1) ps.length:=by
 refine⟨List.Perm.refl _,λ _ _=>rfl,.inr (by omega),by simp,λ a c A u E=>?_,λ p c A u E=>by unfold Ch at u;omega⟩;have e:∀k,k<ps.length->G (ps++[x]) k=G ps k:=λ k H=>by simp[G,List.getD_eq_getElem?_getD,List.getElem?_append_left H]
 rw[e c (by omega),e a (by unfold Ch at u;omega)];exact h a c u (by omega)
def Hx.swap{ps:List Int}{n i:Nat}(h:Heap ps ps.length)(O:ps.length=n+1)(hi:i<=n):Hx (swp ps i n) n i:=by
 have g:=zed9 ps (i:=i) (j:=n) (by omega) (by omega);refine⟨λ a c u A E K=>?_,λ p c u A E=>?_⟩
 .have:=E;unfold Ch at this;rw[g a,g c,if_neg (by omega),if_neg u,if_neg (by omega),if_neg A];exact h a c E (by omega)
 .have H:=u;have I:=A;unfold Ch at H I;rw[g p,g c,if_neg (by omega),if_neg (by omega),if_neg (by omega),if_neg (by omega)];exact Int.le_trans (h p i u (by omega)) (h i c A (by omega))
def zsa9{ps u:List Int}{n i:Nat}(I:ps.length=n+1)(hi:i<=n)(E:u.Perm (swp ps i n))(hr:∀k,n<=k->G u k=G (swp ps i n) k):
 G u n=G ps i/\ps.Perm (G ps i::u.take n):=by
 have K:u.length=n+1:=by rw[E.length_eq,zbp9,I]
 have e:G u n=G ps i:=by rw[hr n (Nat.le_refl _),zed9 ps (by omega) (by omega),if_pos rfl]
 refine⟨e,?_⟩;have H:u=u.take n++[G u n]:=by
  have:u.take (n+1)=u:=List.take_of_length_le (by omega)
  conv=>lhs;rw[<-this,List.take_succ_eq_append_getElem (by omega)]
  simp[G,List.getD_eq_getElem?_getD,K]
 have A:ps.Perm u:=(E.trans (zir9 ps (by omega) (by omega))).symm;rw[H,e]at A;exact A.trans (List.perm_append_comm)
def Heap.take{ps:List Int}{n:Nat}(h:Heap ps n):Heap (ps.take n) n:=by
 have e:∀k,k<n->G (ps.take n) k=G ps k:=λ k E=>by simp[G,List.getD_eq_getElem?_getD,E]
 intro a c u A;rw[e c A,e a (by unfold Ch at u;omega)];exact h a c u A
def Pls(ns ps:List Int):Prop:=∀i,i<ns.length->0<=G ns i/\(G ns i).toNat<ps.length/\G ps (G ns i).toNat=i
def Pls.inj{ns ps:List Int}(h:Pls ns ps){i j:Nat}(hi:i<ns.length)(hj:j<ns.length)(e:G ns i=G ns j):i=j:=by have a:=(h i hi).2.2;have b:=(h j hj).2.2;rw[e,b]at a;omega
def G_set(ps:List Int)(i:Nat)(x:Int)(k:Nat)(hi:i<ps.length):G (ps.set i x) k=if k=i then x else G ps k:=by
 unfold G;simp only[List.getD_eq_getElem?_getD,List.getElem?_set];by_cases h:k=i
 .subst h;simp[hi]
 .rw[if_neg (λ e=>h e.symm),if_neg h]
def Pls.swap{ns ps:List Int}(h:Pls ns ps){i j:Nat}(hi:i<ns.length)(hj:j<ns.length):
 Pls (swp ns i j) ((ps.set (G ns j).toNat i).set (G ns i).toNat j):=by
 obtain⟨Q,A,i2⟩:=h i hi;obtain⟨T,K,j2⟩:=h j hj;intro k H;rw[zbp9]at H;obtain⟨Y,k1,k2⟩:=h k H;have I:∀a,a<ns.length->a≠k->(G ns k).toNat≠(G ns a).toNat:=λ a ha O e=>O (h.inj ha H (by have:=(h a ha).1;omega));rw[zed9 ns hi hj k];simp only[List.length_set];by_cases u:k=j
 .subst u;rw[if_pos rfl];exact⟨Q,A,by rw[G_set _ _ _ _ (by simpa using A),if_pos rfl]⟩
 .rw[if_neg u];by_cases E:k=i
  .subst E;rw[if_pos rfl];refine⟨T,K,?_⟩;rw[G_set _ _ _ _ (by simpa using A),if_neg (λ e=>I j hj (λ e=>u e.symm) e.symm),G_set _ _ _ _ K,if_pos rfl]
  .rw[if_neg E];refine⟨Y,k1,?_⟩;rw[G_set _ _ _ _ (by simpa using A),if_neg (I i hi (λ e=>E e.symm)),G_set _ _ _ _ K,if_neg (I j hj (λ e=>u e.symm))];exact k2
def Pls.push{ns ps:List Int}(h:Pls ns ps){n:Nat}(A:n<ps.length)(H:(n:Int)∉ns):Pls (ns++[(n:Int)]) (ps.set n ns.length):=by
 intro k E;simp only[List.length_append,List.length_cons,List.length_nil]at E;by_cases u:k<ns.length
 .obtain⟨I,K,O⟩:=h k u;have e:G (ns++[(n:Int)]) k=G ns k:=by simp[G,List.getD_eq_getElem?_getD,List.getElem?_append_left u]
  rw[e];refine⟨I,by simpa using K,?_⟩;rw[G_set _ _ _ _ A,if_neg,O];intro Q;exact H (by have:(n:Int)=G ns k:=(by omega);rw[this];exact G_mem u)
 .have:k=ns.length:=by omega
  subst this;have e:G (ns++[(n:Int)]) ns.length=n:=by simp[G]
  rw[e];exact⟨by omega,by simpa using A,by rw[G_set _ _ _ _ A,if_pos (by simp)]⟩
def Pls.take{ns ps:List Int}(h:Pls ns ps)(n:Nat):Pls (ns.take n) ps:=by
 intro k u;rw[List.length_take]at u;have e:G (ns.take n) k=G ns k:=by simp only[G,List.getD_eq_getElem?_getD,List.getElem?_take];rw[if_pos (by omega)]
 rw[e];exact h k (by omega)
def Pls.nodup{ns ps:List Int}(h:Pls ns ps):ns.Nodup:=by rw[List.nodup_iff_pairwise_ne,List.pairwise_iff_getElem];intro i j u A E e;have:=h.inj u A (by simpa[G,List.getD_eq_getElem?_getD,u,A]using e);omega
structure St where
 lo:Nat
 L:List Int
 as:Nat
structure Sok(s:St):Prop where
 top:s.lo+s.L.length<=65536
 val:∀i,i<s.L.length->G s.L i=0\/G s.L i=1\/G s.L i=2
 aside:s.as<=s.L.count 0
def stv(s:St)(n:Int):Int:=if (s.lo:Int)<=n/\n<s.lo+s.L.length then G s.L (n-s.lo).toNat else -1
def sts(lo:Nat)(L:List Int):List Int:=List.replicate lo 0++L.map (· + 1)
def fre(s:St):Int:=(s.L.count 0:Int)-s.as
def zec9(lo:Nat)(L:List Int):(sts lo L).length=lo+L.length:=by simp[sts]
def stv_in{s:St}{i:Nat}(hi:i<s.L.length):stv s ((s.lo+i:Nat):Int)=G s.L i:=by unfold stv;rw[if_pos (by omega)];congr 1;omega
def zpo9{s:St}{n:Int}(h:n<s.lo\/(s.lo+s.L.length:Nat)<=n):stv s n=-1:=by unfold stv;rw[if_neg (by omega)]
def zhs9{s:St}{n:Int}(h:stv s n≠-1):∃i:Nat,i<s.L.length/\n=((s.lo+i:Nat):Int)/\stv s n=G s.L i:=by
 by_cases u:(s.lo:Int)<=n/\n<s.lo+s.L.length
 .refine⟨(n-s.lo).toNat,by omega,by omega,?_⟩;unfold stv;rw[if_pos u]
 .unfold stv at h;rw[if_neg u]at h;exact absurd rfl h
def sts_at(s:St)(n:Nat)(h:n<s.lo+s.L.length):G (sts s.lo s.L) n=stv s n+1:=by
 unfold sts G;by_cases u:n<s.lo
 .rw[zpo9 (.inl (by omega)),List.getD_eq_getElem?_getD,List.getElem?_append_left (by simpa using u)];simp[u]
 .obtain⟨i,rfl⟩:∃i,n=s.lo+i:=⟨n-s.lo,by omega⟩
  rw[stv_in (by omega),List.getD_eq_getElem?_getD,List.getElem?_append_right (by simp)];simp[G,List.getD_eq_getElem?_getD,show i<s.L.length by omega]
def ztl9(lo:Nat)(L:List Int)(i:Nat)(y:Int):(sts lo L).set (lo+i) (y+1)=sts lo (L.set i y):=by unfold sts;rw[List.set_append_right _ _ (by simp)];simp[List.map_set]
def cnt_set(L:List Int)(i:Nat)(h:i<L.length)(x y:Int):(L.set i y).count x+(if G L i=x then 1 else 0)=L.count x+(if y=x then 1 else 0):=by
 induction L generalizing i with
 | nil=>simp at h
 | cons a r u=>
  cases i with
  | zero=>simp only[List.set_cons_zero,List.count_cons,G,List.getD_cons_zero,beq_iff_eq];omega
  | succ i=>
   have:=u i (by simpa using h);simp only[List.set_cons_succ,List.count_cons,G,List.getD_cons_succ,beq_iff_eq]at this |-
   omega
def put(s:St)(i:Nat)(y:Int):St:=⟨s.lo,s.L.set i y,s.as⟩
def stv_put{s:St}{i:Nat}(hi:i<s.L.length)(y:Int)(n:Int):stv (put s i y) n=if n=((s.lo+i:Nat):Int)then y else stv s n:=by
 unfold stv put;simp only[List.length_set];by_cases u:(s.lo:Int)<=n/\n<s.lo+s.L.length
 .rw[if_pos u,if_pos u,G_set _ _ _ _ hi];by_cases e:n=((s.lo+i:Nat):Int)
  .rw[if_pos (by omega),if_pos e]
  .rw[if_neg (by omega),if_neg e]
 .rw[if_neg u,if_neg u,if_neg (by omega)]
def ztd9{s:St}(h:∀i,i<s.L.length->G s.L i=0\/G s.L i=1\/G s.L i=2){i:Nat}(hi:i<s.L.length){y:Int}(A:y=0\/y=1\/y=2):∀j,j<(put s i y).L.length->G (put s i y).L j=0\/G (put s i y).L j=1\/G (put s i y).L j=2:=by
 intro j u;have:G (put s i y).L j=if j=i then y else G s.L j:=G_set _ _ _ _ hi;rw[this];split
 .exact A
 .exact h j (by simpa[put]using u)
structure Ks(x:Int)(s:St)(ns:List Int):Prop where
 mem:∀n,n∈ns↔stv s n=x
 len:ns.length=s.L.count x
 nd:ns.Nodup
def Ks.idx{x:Int}{s:St}{ns:List Int}(h:Ks x s ns)(I:0<=x){n:Int}(E:n∈ns):∃i:Nat,i<s.L.length/\n=((s.lo+i:Nat):Int)/\G s.L i=x:=by have:=(h.mem n).1 E;obtain⟨i,u,A,H⟩:=zhs9 (s:=s) (n:=n) (by omega);exact⟨i,u,A,by omega⟩
def Ks.add{x:Int}{s:St}{ns I:List Int}(h:Ks x s ns){i:Nat}(hi:i<s.L.length)(H:G s.L i≠x)(A:I.Perm (ns++[((s.lo+i:Nat):Int)])):Ks x (put s i x) I:=by
 have e:=stv_in hi;refine⟨λ n=>?_,?_,?_⟩
 .rw[A.mem_iff,stv_put hi];simp only[List.mem_append,List.mem_cons,List.not_mem_nil,or_false,h.mem];by_cases u:n=((s.lo+i:Nat):Int)
  .rw[if_pos u];simp[u]
  .rw[if_neg u];exact⟨λ e=>e.resolve_right u,.inl⟩
 .have:=cnt_set s.L i hi x x;rw[if_neg H,if_pos rfl]at this;rw[A.length_eq];simp only[List.length_append,List.length_cons,List.length_nil,put,h.len];omega
 .rw[A.nodup_iff,List.nodup_append];refine⟨h.nd,by simp,λ a ha b E=>?_⟩;simp only[List.mem_cons,List.not_mem_nil,or_false]at E;subst E;intro K;subst K;exact H (by rw[<-e];exact(h.mem _).1 ha)
def Ks.sub{x y:Int}{s:St}{ns O:List Int}(h:Ks x s ns){i:Nat}(hi:i<s.L.length)(Q:G s.L i=x)(K:y≠x)(A:ns.Perm (((s.lo+i:Nat):Int)::O)):Ks x (put s i y) O:=by
 have E:=h.nd;rw[A.nodup_iff,List.nodup_cons]at E;refine⟨λ n=>?_,?_,E.2⟩
 .rw[stv_put hi];have I:=h.mem n;rw[A.mem_iff,List.mem_cons]at I;by_cases u:n=((s.lo+i:Nat):Int)
  .rw[if_pos u];subst u;exact⟨λ e=>absurd e E.1,λ e=>absurd e K⟩
  .rw[if_neg u,<-I];exact⟨.inr,λ e=>e.resolve_left u⟩
 .have:=cnt_set s.L i hi x y;rw[if_pos Q,if_neg K]at this;have H:=h.len;rw[A.length_eq]at H;simp only[List.length_cons]at H;simp only[put];omega
def Ks.other{x y:Int}{s:St}{ns:List Int}(h:Ks x s ns){i:Nat}(hi:i<s.L.length)(A:G s.L i≠x)(E:y≠x):Ks x (put s i y) ns:=by
 refine⟨λ n=>?_,?_,h.nd⟩
 .rw[h.mem,stv_put hi];by_cases u:n=((s.lo+i:Nat):Int)
  .rw[if_pos u];subst u;rw[stv_in hi];exact⟨λ e=>absurd e A,λ e=>absurd e E⟩
  .rw[if_neg u]
 .have:=cnt_set s.L i hi x y;rw[if_neg A,if_neg E]at this;rw[h.len];simp only[put];omega
def Ks.aside{x:Int}{s:St}{ns:List Int}(h:Ks x s ns)(a:Nat):Ks x ⟨s.lo,s.L,a⟩ ns:=⟨h.mem,h.len,h.nd⟩
def back(n:Int)(s:St):Bool×St:=if stv s n≠1 then(false,s)else(true,put s (n-s.lo).toNat 0)
def take(s:St):Int×Bool×St:=if s.L.count 0=0 then(0,false,s)else(((s.lo+s.L.idxOf 0:Nat):Int),true,⟨s.lo,s.L.set (s.L.idxOf 0) 1,s.as-1⟩)
def zwi9{s:St}(h:Sok s)(n:Int):Sok (back n s).2:=by
 unfold back;split
 .exact h
 .obtain⟨i,u,E,e⟩:=zhs9 (s:=s) (n:=n) (by omega);have A:(n-s.lo).toNat=i:=by omega
  rw[A];refine⟨by simpa[put]using h.top,ztd9 h.val u (by omega),?_⟩;have:=cnt_set s.L i u 0 0;rw[if_neg (by omega),if_pos rfl]at this;simp only[put];have:=h.aside;omega
def first0{L:List Int}(h:L.count 0≠0):L.idxOf 0<L.length/\G L (L.idxOf 0)=0/\∀j,j<L.idxOf 0->G L j≠0:=by
 have H:(0:Int)∈L:=List.count_pos_iff.1 (by omega);have u:L.idxOf 0<L.length:=List.idxOf_lt_length_of_mem H;refine⟨u,?_,λ j A=>?_⟩
 .simp[G,List.getD_eq_getElem?_getD,u]
 .have E:j<L.length:=by omega
  have:=List.not_of_lt_findIdx (p:=(· == (0:Int))) (xs:=L) (i:=j) (by simpa[List.idxOf]using A);simpa[G,List.getD_eq_getElem?_getD,E]using this
def zza9{s:St}(h:Sok s):Sok (take s).2.2:=by
 unfold take;split
 .exact h
 .rename_i hc;obtain⟨u,A,_⟩:=first0 hc;refine⟨by simpa using h.top,ztd9 (s:=s) h.val u (by omega),?_⟩;have:=cnt_set s.L _ u 0 1;rw[if_pos A,if_neg (by omega)]at this;simp only;have:=h.aside;omega
def pk(c:Int)(n:Int):Int:=if c<0 then(-(c+1)).tmod n else c.tmod n
def new(lo hi:Nat):St:=⟨lo,List.replicate (hi-lo) 0,0⟩
def new_ok{lo hi:Nat}(h:lo<=hi)(A:hi<=65536):Sok (new lo hi):=
 ⟨by simp[new];omega,λ i u=>.inl (by simp only[new,List.length_replicate]at u;simp[new,G,List.getD_eq_getElem?_getD,u]),Nat.zero_le _⟩
end Go.Proofs.YtcmjlibndmneiaaGreat.Ah
