import Derived.Test.YtihofcopapmjlaaGreatPFEnc
import Derived.Test.YtihofcopapmjlaaGreatPFDec
import Derived.Test.YtihofcopapmjlaaGreatPPkStep
set_option maxRecDepth 100000
set_option linter.all false
set_option maxHeartbeats 8000000
namespace Go.Proofs.YtihofcopapmjlaaGreat
open Go.Proofs.Tryz
section
open Go.RowKit Pl
def ACe(bs)(h:Ai bs):Gx (AJ (bs++[1]))/\Ew (AJ (bs++[1]))=bs.length:=by
 have f:=h.snoc (.inr rfl);have B:(AJ (bs++[1])).length=bs.length / 8+1:=by rw[Cn];simp;omega
 have q:(AM (AJ (bs++[1]))).getD bs.length 0=1:=by rw[NB f,Ir,if_pos rfl];simp
 have A:∀p,bs.length<p->(AM (AJ (bs++[1]))).getD p 0=0:=by
  intro p E;rw[NB f,Ir,if_neg (by omega)]
  grind
 have r:Gx (AJ (bs++[1])):=by refine⟨by omega,λ e=>?_⟩;rw[Jq]at q;simp_all
 obtain⟨a,b,c⟩:=Tz (λ i=>PS f i) r
 grind
def J0(f:Nat->Nat)(L:Nat)(ds:List Int):Prop:=∀i,i<ds.length->0<=ds.getD i 0/\(ds.getD i 0).toNat<L/\1<=f (ds.getD i 0).toNat
def SK(f:Nat->Nat)(L z:Nat)(q:List Int):∀k,k<=q.length->∃r,(en f L z q).2=(en f L z (q.drop k)).2++r
 | 0,_=>⟨[],by simp⟩
 | k+1,hk=>by
  obtain⟨r,h⟩:=SK f L z q k (by omega);have A:q.drop k=q[k]'(by omega)::q.drop (k+1):=List.drop_eq_getElem_cons (by omega);rw[A]at h;simp only[en]at h
  grind
def AGX{f L lg}(h:BS f L (2 ^ lg))(T:lg<=9){σ k}(E:2 ^ lg<=σ)(h2:σ<2*2 ^ lg)(O:k<L)(J:1<=f k):
 Gj f L (2 ^ lg) σ k-2 ^ lg<2 ^ lg/\tb f L (2 ^ lg) (Gj f L (2 ^ lg) σ k-2 ^ lg)=k/\ah f L (2 ^ lg) k (Gj f L (2 ^ lg) σ k-2 ^ lg)=σ / 2 ^ nb σ (f k)-f k/\
  A5 f L (2 ^ lg) (Gj f L (2 ^ lg) σ k-2 ^ lg)=σ / 2 ^ nb σ (f k)/\bt lg (σ / 2 ^ nb σ (f k))=nb σ (f k)/\2 ^ lg<=σ / 2 ^ nb σ (f k)*2 ^ nb σ (f k):=by
 have a5:2 ^ lg<=512:=by have:2 ^ lg<=2 ^ 9:=Nat.pow_le_pow_right (by decide) T;omega
 have Y:σ<1024:=by omega
 have a1:f k<=2 ^ lg:=by have r:=Fc f (show k+1<=L from O);have I:=h.sum;simp only[cu]at r;omega
 have W:=UI J Y E a1;have U:=PE J Y;obtain⟨n,hn⟩:=exN (nb σ (f k));rw[hn]at W U |-
 obtain⟨X,A⟩:=exN (σ / 2 ^ n);rw[A]at W |-
 obtain⟨q,q1,q2,q3,q4⟩:=h.find O (show X-f k<f k by omega);have e:Gj f L (2 ^ lg) σ k-2 ^ lg=q:=by unfold Gj;grind
 rw[e];have a4:n<=lg:=by by_cases c:n<=lg;exact c;have r:=U.2.1 lg (by omega);have I:σ / 2 ^ lg<2:=Nat.div_lt_of_lt_mul (by omega);omega
 have K:2 ^ lg<=X*2 ^ n:=by
  have B:2 ^ lg=2 ^ (lg-n)*2 ^ n:=by rw[<-Nat.pow_add];grind
  have r:2 ^ (lg-n)<=X:=by rw[<-A,Nat.le_div_iff_mul_le (Nat.pow_pos (by decide)),<-B];exact E
  rw[B];exact Nat.mul_le_mul_right _ r
 have a3:X*2 ^ n<=σ:=by rw[<-A];exact Nat.div_mul_le_self _ _
 have a2:A5 f L (2 ^ lg) q=X:=by unfold A5;grind
 refine⟨q1,q2,q3,a2,?_,K⟩;have Z:1<=X:=by omega
 have a0:X<2*2 ^ lg:=by omega
 refine YB Z T a0 K (λ m hm=>?_);have r:2 ^ m*2<=2 ^ n:=by rw[<-Nat.pow_succ];exact Nat.pow_le_pow_right (by decide) hm
 have I:X*(2 ^ m*2)<=X*2 ^ n:=Nat.mul_le_mul_left _ r
 grind
def SF{f:Nat->Nat}{L lg:Nat}(h:BS f L (2 ^ lg))(X:lg<=9){q B:List Int}(W:J0 f L q)(O:∀p n,p+n<=(en f L (2 ^ lg) q).2.length->val B p n=val (en f L (2 ^ lg) q).2 p n):
 ∀k,k<=q.length->dc f L (2 ^ lg) lg B ((en f L (2 ^ lg) q).1-2 ^ lg) (en f L (2 ^ lg) q).2.length k=some (q.take k,(en f L (2 ^ lg) (q.drop k)).1-2 ^ lg,(en f L (2 ^ lg) (q.drop k)).2.length)
 | 0,_=>by simp[dc]
 | k+1,hk=>by
  have ih:=SF h X W O k (by omega);simp only[dc,ih];obtain⟨a3,E⟩:=SK f L (2 ^ lg) q k (by omega);have T:q.drop k=q[k]'(by omega)::q.drop (k+1):=List.drop_eq_getElem_cons (by omega);obtain⟨s,hs⟩:=exN (q[k]'(by omega));obtain⟨r,hr⟩:=exN (q.drop (k+1));rw[hs,hr]at T;rw[T]at E |-
  rw[hr];have I:=W k (by omega);have es:q.getD k 0=s:=by grind
  rw[es]at I;have J:=L1 (z:=2 ^ lg) (Nat.pow_pos (by decide)) f L r;obtain⟨σ,K⟩:=exN ((en f L (2 ^ lg) r).1);obtain⟨A,a0⟩:=exN ((en f L (2 ^ lg) r).2);have a1:(en f L (2 ^ lg) (s::r)).1=Gj f L (2 ^ lg) σ s.toNat:=by simp only[en];rw[K]
  have U:(en f L (2 ^ lg) (s::r)).2=A++Aa (σ:Int) (nb σ (f s.toNat)):=by simp only[en];grind
  rw[U]at E;rw[a1,U,K,a0];rw[K]at J;obtain⟨b1,Y,_,Z,b5,b6⟩:=AGX h X J.1 J.2 I.2.1 I.2.2;rw[Z,b5,Y];obtain⟨n,hn⟩:=exN (nb σ (f s.toNat));rw[hn]at E b6 |-
  have a2:(A++Aa (σ:Int) n).length=A.length+n:=by rw[zc0,Bc]
  rw[a2,if_neg (by omega),show A.length+n-n=A.length by omega];have hv:val B A.length n=((σ % 2 ^ n:Nat):Int):=by rw[O A.length n (by grind),E,<-Ni];refine Qb A a3 _ n (by omega) ?_;(have e:((2:Int) ^ n)=((2 ^ n:Nat):Int):=by simp);omega
  rw[hv,Int.toNat_natCast];have a4:=Nat.div_add_mod σ (2 ^ n)
  grind
def Wc{bs}(f:Ai bs)(p n)(h:p+n<=bs.length):val (AM (AJ (bs++[1]))) p n=val bs p n:=by rw[LC (f.snoc (.inr rfl)),Qc,if_neg (by omega),Int.add_zero]
def Pp(f L z lg q):Ai (Cl f L z lg q):=Ai.append (Zs f L z q) (Hz _ _)
def Zp{f L lg}(h:BS f L (2 ^ lg))(I:lg<=9){q}(B:J0 f L q)(k)(E:k<=q.length):
 dr f L (2 ^ lg) lg (AM (AJ (Cl f L (2 ^ lg) lg q++[1]))) (Cl f L (2 ^ lg) lg q).length k =
  if (en f L (2 ^ lg) (q.drop k)).1-2 ^ lg=0 then some (q.take k,(en f L (2 ^ lg) (q.drop k)).2.length)else none:=by
 have r:=Pp f L (2 ^ lg) lg q;have J:(Cl f L (2 ^ lg) lg q).length=(en f L (2 ^ lg) q).2.length+lg:=by unfold Cl;simp[Bc]
 have T:=L1 (z:=2 ^ lg) (Nat.pow_pos (by decide)) f L q;unfold dr;rw[if_neg (by omega),J,show(en f L (2 ^ lg) q).2.length+lg-lg=(en f L (2 ^ lg) q).2.length by omega];have hv:val (AM (AJ (Cl f L (2 ^ lg) lg q++[1]))) (en f L (2 ^ lg) q).2.length lg=(((en f L (2 ^ lg) q).1-2 ^ lg:Nat):Int):=by
  rw[Wc r _ _ (by omega)];unfold Cl;have e:(((en f L (2 ^ lg) q).1:Nat):Int)-((2 ^ lg:Nat):Int)=(((en f L (2 ^ lg) q).1-2 ^ lg:Nat):Int):=by omega
  rw[e];have:=Qb (en f L (2 ^ lg) q).2 [] (((en f L (2 ^ lg) q).1-2 ^ lg:Nat):Int) lg (by omega) (by
   grind)
  grind
 rw[hv,Int.toNat_natCast];have A:∀p n,p+n<=(en f L (2 ^ lg) q).2.length->val (AM (AJ (Cl f L (2 ^ lg) lg q++[1]))) p n=val (en f L (2 ^ lg) q).2 p n:=λ p n O=>by
  rw[Wc r _ _ (by omega)];unfold Cl val;refine JM _ _ n λ i K=>?_
  grind
 rw[SF h I B A k E]
def ZW{s lg}(q:Ca s lg)(E:A0 s lg=true){f}(B:f.length<=65536)(r:J0 (nn s) s.length f)(k)(A:k<=f.length):
 EL s lg (AJ (Cl (nn s) s.length (2 ^ lg) lg f++[1])) k=G9 (if (en (nn s) s.length (2 ^ lg) (f.drop k)).1-2 ^ lg=0 then some (f.take k,(en (nn s) s.length (2 ^ lg) (f.drop k)).2.length)else none):=by
 obtain⟨m1,m2⟩:=ACe _ (Pp (nn s) s.length (2 ^ lg) lg f);unfold Gx at m1;unfold EL;rw[if_neg (by grind),if_neg (by omega),if_pos m1,m2];simp only[Int.toNat_natCast];rw[Zp q.fok q.hi r k A]
def ZY{s lg}(B:Ca s lg)(A:A0 s lg=true){f}(r:f.length<=65536)(q:J0 (nn s) s.length f):
 EL s lg (AJ (Cl (nn s) s.length (2 ^ lg) lg f++[1])) f.length=(0,f):=by
 rw[ZW B A r q f.length (AE _)];simp[en,G9]
def Zu(B r s f q w)(hr:Rd .i64 w B s)(E:Rd .i64 w r f):
 Calls prog 200 #[B,.int .i64 q,r] w λ e w'=>GW (DB s q f) w e w':=by
 by_cases J:A0 s q=false\/65536<f.length\/C9 s f=false;exact Zv B r s f q w hr E J
 .have I:A0 s q=true:=by grind
  have ha:C9 s f=true:=by grind
  have K:f.length<=65536:=by omega
  obtain⟨A,rfl,_⟩:=Ca.of I;have e:DB s A f=(0,AJ (Cl (nn s) s.length (2 ^ A) A f++[1])):=by
   unfold DB
   grind
  rw[e];exact Zw B r s f A w hr E I K ha
end
section
open Go.RowKit Pl Go.Maps Go.WideMaps Hf
def c3(a b c:List Int)(i j:Nat):Int:=if j=0 then a.getD i 0 else if j=1 then b.getD i 0 else c.getD i 0
def C7(ys a b c:List Int):Nat->Nat×Bool
 | 0=>(0,true)
 | i+1=>((Bm ys (c3 a b c i) (C7 ys a b c i).1 3).1,(C7 ys a b c i).2&&(Bm ys (c3 a b c i) (C7 ys a b c i).1 3).2)
def Ef(ys a b c:List Int)(i:Nat):Sq:=
 (Bo ys (c3 a b c i) (C7 ys a b c i).1 0,Bo ys (c3 a b c i) (C7 ys a b c i).1 1+4,Bo ys (c3 a b c i) (C7 ys a b c i).1 2+1)
def C3(ys a b c:List Int)(n:Nat):List Sq:=(List.range n).map (Ef ys a b c)
def Bd(σ:Option (List Int))(many:Int):Nat->Option (List Int)
 | 0=>σ
 | k+1=>(Dq (Bd σ many k) many).2
def Cp(σ:Option (List Int))(many:Int)(k:Nat):List Int:=(Dq (Bd σ many k) many).1
def Hl(σ:Option (List Int))(n:Int):List Sq×Option (List Int):=
 if (AV σ).1<=n / 4/\(AV σ).2.isSome=true then
  if (AV σ).1=0 then([],(AV σ).2)
  else if (C6 (Bd (AV σ).2 (AV σ).1 3)).2.isSome=true then
   (C3 (C6 (Bd (AV σ).2 (AV σ).1 3)).1 (Cp (AV σ).2 (AV σ).1 0) (Cp (AV σ).2 (AV σ).1 1) (Cp (AV σ).2 (AV σ).1 2) (AV σ).1.toNat,
    Aj (C6 (Bd (AV σ).2 (AV σ).1 3)).2
     ((C7 (C6 (Bd (AV σ).2 (AV σ).1 3)).1 (Cp (AV σ).2 (AV σ).1 0) (Cp (AV σ).2 (AV σ).1 1) (Cp (AV σ).2 (AV σ).1 2) (AV σ).1.toNat).2 &&
      Iq (C6 (Bd (AV σ).2 (AV σ).1 3)).1 (C7 (C6 (Bd (AV σ).2 (AV σ).1 3)).1 (Cp (AV σ).2 (AV σ).1 0) (Cp (AV σ).2 (AV σ).1 1) (Cp (AV σ).2 (AV σ).1 2) (AV σ).1.toNat).1))
  else([],none)
 else([],none)
def LW{σ b}(h:(Aj σ b).isSome=true):b=true/\σ.isSome=true:=by
 cases b with
 | true=>exact⟨rfl,h⟩
 | false=>cases h
def Nq{σ n}(h:(Ay σ n).2.isSome=true):σ.isSome=true:=by
 cases σ with
 | none=>cases h
 | some l=>rfl
def ADR{σ}(h:(AV σ).2.isSome=true):σ.isSome=true:=by
 cases σ with
 | none=>cases h
 | some l=>rfl
def P8{σ}(h:(C6 σ).2.isSome=true):σ.isSome=true:=ADR (Nq h)
def SE{f:Nat->Nat}{L z lg:Nat}(A:BS f L z)(B:List Int)(a p:Nat):∀k {l:List Int} {q r:Nat},dc f L z lg B a p k=some (l,q,r)->l.length=k/\∀i,i<l.length->0<=l.getD i 0/\l.getD i 0<(L:Int)
 | 0,l,q,r,h=>by
  simp only[dc,Option.some.injEq,Prod.mk.injEq]at h
  grind
 | k+1,l,q,r,h=>by
  simp only[dc]at h;split at h;cases h
  .rename_i l0 a0 p0 h0;split at h;cases h
   .simp only[Option.some.injEq,Prod.mk.injEq]at h;obtain⟨rfl,_,_⟩:=h;obtain⟨E,I⟩:=SE A B a p k h0;refine⟨by simp[E],λ i J=>?_⟩;rw[Ir];by_cases e:i=l0.length;subst e;rw[if_pos rfl,show l0.getD l0.length 0=0 by simp];have:=A.tb_lt a0;omega
    grind
def ZX{s ys f n}(h:(EL s f ys n).1=0):((EL s f ys n).2.length:Int)=n/\∀i,i<(EL s f ys n).2.length->0<=(EL s f ys n).2.getD i 0/\(EL s f ys n).2.getD i 0<(s.length:Int):=by
 unfold EL at h |-
 split
 .grind
 .rename_i e;rw[if_neg e]at h;split
  .grind
  .rename_i e2;rw[if_neg e2]at h;split
   .rename_i e3;rw[if_pos e3]at h;obtain⟨B,q,r⟩:=Ca.of (show A0 s f=true by grind);subst q;rw[Int.toNat_natCast]at h |-
    unfold dr at h |-
    split;rename_i e4;rw[if_pos e4]at h;simp[G9]at h
    .rename_i e4;rw[if_neg e4]at h;split;rename_i e5;rw[e5]at h;simp[G9]at h
     .rename_i t e5;rw[e5]at h;simp only at h;split
      .rename_i e6;rw[if_pos e6]at h;unfold G9 at h |-
       simp only at h |-
       split
       .grind
       .obtain⟨l,A,E⟩:=t;have:=SE r.fok _ _ _ _ e5
        grind
      .rename_i e6;rw[if_neg e6]at h;simp[G9]at h
   grind
def AGd{σ many}(h:(Dq σ many).2.isSome=true):((Dq σ many).1.length:Int)=many/\∀i,0<=(Dq σ many).1.getD i 0/\(Dq σ many).1.getD i 0<=16:=by
 unfold Dq at h |-
 simp only at h |-
 obtain⟨f,q⟩:=LW h;have r:=LW (Nq (P8 q));simp only[Bool.and_eq_true,beq_iff_eq,zg1]at f r;obtain⟨A,B⟩:=ZX f
 grind
def VN{σ:Option (List Int)}{many:Int}:∀k,(Bd σ many k).isSome=true->∀j,j<=k->(Bd σ many j).isSome=true
 | 0,h,j,hj=>by grind
 | k+1,h,j,hj=>by
  by_cases e:j=k+1
  .grind
  .refine VN k ?_ j (by omega);simp only[Bd]at h;unfold Dq at h;simp only at h;exact(LW (Nq (P8 (LW h).2))).2
def Py{σ many k}(h:(Bd σ many k).isSome=true)(j)(f:j<k):((Cp σ many j).length:Int)=many/\∀i,0<=(Cp σ many j).getD i 0/\(Cp σ many j).getD i 0<=16:=
 AGd (σ:=Bd σ many j) (VN k h (j+1) f)
structure Sg(n0:Nat)(w W:World)(g B6:Nat)(σ:Option (List Int))(many:Int)(k:Nat)(V:Nat->Value):Prop where
 so:AZ n0 W g (Bd σ many k)
 b6:W.heap[B6]?=some (.cells #[V 0,V 1,V 2] 254 (0,0))
 own:∀i,i<k->AF .i64 3 W (V i) (Cp σ many i)
 new:∀i j,(V i).ownBlock=some j->w.heap.size<=j/\j≠B6
 tch:AD (λ j=>j=g) w W
 n6:w.heap.size<=B6
 gl:g<w.heap.size
 wn:n0<=w.heap.size
def AIw(x y z r k)(f:k<3):(#[x,y,z]:Array Value).setIfInBounds k r=#[if 0=k then r else x,if 1=k then r else y,if 2=k then r else z]:=by grind
section
variable {n0:Nat} {w W W':World} {g B6:Nat} {σ:Option (List Int)} {many:Int} {k:Nat} {V:Nat->Value}
def Sg.lt6(h:Sg n0 w W g B6 σ many k V):B6<W.heap.size:=(za0.1 h.b6).1
def Sg.next(h:Sg n0 w W g B6 σ many k V)(T:k<3){rv}(I:AZ n0 W' g (Dq (Bd σ many k) many).2)(E:AF .i64 3 W' rv (Dq (Bd σ many k) many).1)(O:∀j,rv.ownBlock=some j->W.heap.size<=j)(q:AD (λ j=>j=g) W W'):
 Sg n0 w (W'.setCell ⟨B6,k,none⟩ rv) g B6 σ many (k+1) (λ i=>if i=k then rv else V i):=by
 have J:=h.lt6;have K:=h.n6;have r:=h.gl;have L:=h.wn;have A:W'.heap[B6]?=some (.cells #[V 0,V 1,V 2] 254 (0,0)):=by rw[q.block B6 J (λ e=>by omega)];exact h.b6
 have t2:AD (λ j=>j=B6) W' (W'.setCell ⟨B6,k,none⟩ rv):=(AD.refl (λ j=>j=B6) W').setCell (p:=⟨B6,k,none⟩) (λ _=>rfl) _;refine⟨I.tch t2 (λ e=>by omega) (λ j e=>by omega),?_,λ i B=>?_,λ i j f=>?_,(h.tch.trans q (λ _ _ e=>e)).trans t2 (λ i B e=>by omega),K,r,L⟩
 .rw[heap_setCell_same W' B6 k _ _ rv A]
  grind
 .by_cases e:i=k;subst e;rw[if_pos rfl];exact E.tch t2 (λ j f e=>by grind);rw[if_neg e];exact((h.own i (by omega)).tch q (λ j f e=>by have:=(h.new i j f).1;omega)).tch t2 (λ j f e=>(h.new i j f).2 e)
 .by_cases e:i=k
  .grind
  .simp only[e,if_false]at f;exact h.new i j f
end
def AIr(n):(madeCells (Value.agg #[.int .i64 0,.int .i64 0,.int .i64 0]).cells (n*3)).toList=Cf (List.replicate n AR):=by
 have E:(madeCells (Value.agg #[.int .i64 0,.int .i64 0,.int .i64 0]).cells (n*3)).toList.length=n*3:=by rw[Array.length_toList,size_madeCells]
 apply List.ext_getElem?;intro i;by_cases B:i<n*3
 .have r:(madeCells (Value.agg #[.int .i64 0,.int .i64 0,.int .i64 0]).cells (n*3)).toList[i]?=some (.int .i64 0):=by
   simp only[madeCells,Value.cells,Array.toList_map,zw0,Array.toList_range,List.getElem?_range B,Option.map_some]
   grind
  rw[r];have f:=VH (List.replicate n AR) (i / 3) (by simp;omega);have q:(List.replicate n AR).getD (i / 3) AR=AR:=by grind
  rw[q]at f;have A:i=i / 3*3\/i=i / 3*3+1\/i=i / 3*3+2:=by omega
  rcases A with h|h|h;rw[h,f.1];rfl;rw[h,f.2.1];rfl;rw[h,f.2.2];rfl
 .rw[zn0 (by omega),zn0 (by rw[VI,zm0];omega)]
def AFl(ps f x y):(((Cf (ps++x::f)).set (ps.length*3) (.int .i64 y.1)).set (ps.length*3+1) (.int .i64 y.2.1)).set (ps.length*3+2) (.int .i64 y.2.2)=Cf (ps++y::f):=by
 have q:=VI ps;have e:∀z:Sq,Cf (ps++z::f)=Cf ps++[Value.int .i64 z.1,Value.int .i64 z.2.1,Value.int .i64 z.2.2]++Cf f:=λ z=>by simp[Cf]
 simp_all
def BK.set{w G m cap ps f x}(h:BK w (.slice (some ⟨G,0,none⟩) m cap) (ps++x::f))(y):
 BK (((w.setCell ⟨G,ps.length*3,none⟩ (.int .i64 y.1)).setCell ⟨G,ps.length*3+1,none⟩ (.int .i64 y.2.1)).setCell ⟨G,ps.length*3+2,none⟩ (.int .i64 y.2.2)) (.slice (some ⟨G,0,none⟩) m cap) (ps++y::f):=by
 have q:=h;have E:m=(ps++x::f).length:=by
  rcases q.2 with⟨e,_⟩|⟨K,I,J,e,_⟩
  .cases e
  grind
 subst E;have r:=(q.stored (ps.length*3) (.int .i64 y.1)).1;have A:=(r.stored (ps.length*3+1) (.int .i64 y.2.1)).1;have B:=(A.stored (ps.length*3+2) (.int .i64 y.2.2)).1;unfold BK;rw[show(ps++y::f).length=(ps++x::f).length by simp,<-AFl ps f x y];exact B
structure Sm(n0:Nat)(w W:World)(g rb G B6 m:Nat)(rv:Value)(ys a b c:List Int)(σ:Option (List Int))(V:Nat->Value)(i:Nat):Prop where
 so:AZ n0 W g (Aj σ (C7 ys a b c i).2)
 rr:Rr W rb rv ys (C7 ys a b c i).1
 own:BK W (.slice (some ⟨G,0,none⟩) m m) (C3 ys a b c i++List.replicate (m-i) AR)
 b6:W.heap[B6]?=some (.cells #[V 0,V 1,V 2] 254 (0,0))
 oa:AF .i64 3 W (V 0) a
 ob:AF .i64 3 W (V 1) b
 oc:AF .i64 3 W (V 2) c
 tch:AD (λ j=>j=g) w W
 vn:∀i j,i<3->(V i).ownBlock=some j->w.heap.size<=j/\j<rb
 gl:g<w.heap.size
 rl:w.heap.size<=rb
 n6:w.heap.size<=B6
 l6:B6<rb
 rG:rb<G
 vr:∀k,rv.ownBlock=some k->w.heap.size<=k/\k<G
 wn:n0<=w.heap.size
def AFo(ys a b c i):C3 ys a b c (i+1)=C3 ys a b c i++[Ef ys a b c i]:=by simp[C3,List.range_succ]
def Pw(ys a b c i):(C3 ys a b c i).length=i:=by simp[C3]
section
variable {n0:Nat} {w W W':World} {g rb G B6 m:Nat} {rv:Value} {ys a b c:List Int} {σ:Option (List Int)} {V:Nat->Value} {i:Nat}
def Sm.next(h:Sm n0 w W g rb G B6 m rv ys a b c σ V i)(hi:i<m)(I:AZ n0 W' g (Aj (Aj σ (C7 ys a b c i).2) (Bm ys (c3 a b c i) (C7 ys a b c i).1 3).2))(hr:Rr W' rb rv ys (Bm ys (c3 a b c i) (C7 ys a b c i).1 3).1)(q:AD (λ k=>k=g\/k=rb) W W'):
 Sm n0 w (((W'.setCell ⟨G,i*3,none⟩ (.int .i64 (Ef ys a b c i).1)).setCell ⟨G,i*3+1,none⟩ (.int .i64 (Ef ys a b c i).2.1)).setCell ⟨G,i*3+2,none⟩ (.int .i64 (Ef ys a b c i).2.2)) g rb G B6 m rv ys a b c σ V (i+1):=by
 obtain⟨so,rr,B,E,Y,Z,oc,a1,r,J,rl,X,T,rG,vr,wn⟩:=h;have a4:=rr.lt;have O:List.replicate (m-i) AR=AR::List.replicate (m-(i+1)) AR:=by rw[show m-i=(m-(i+1))+1 by omega];rfl
 rw[O]at B;have a2:G<W.heap.size:=(za0.1 (JK B rfl).choose_spec).1;have a0:=B.tch q (λ j f=>by simp only[Value.ownBlock,Option.some.injEq]at f;omega);have A:=a0.set (Ef ys a b c i);rw[Pw]at A;obtain⟨y,L⟩:=exN (Ef ys a b c i);have K:=AFo ys a b c i;rw[L]at A K |-
 have t2:AD (λ k=>k=G) W' (((W'.setCell ⟨G,i*3,none⟩ (.int .i64 y.1)).setCell ⟨G,i*3+1,none⟩ (.int .i64 y.2.1)).setCell ⟨G,i*3+2,none⟩ (.int .i64 y.2.2)):=
  (((AD.refl (λ k=>k=G) W').setCell (p:=⟨G,i*3,none⟩) (λ _=>rfl) _).setCell (p:=⟨G,i*3+1,none⟩) (λ _=>rfl) _).setCell (p:=⟨G,i*3+2,none⟩) (λ _=>rfl) _
 generalize ((W'.setCell ⟨G,i*3,none⟩ (.int .i64 y.1)).setCell ⟨G,i*3+1,none⟩ (.int .i64 y.2.1)).setCell ⟨G,i*3+2,none⟩ (.int .i64 y.2.2)=W2 at A t2 |-
 rw[Nc]at I;have U:B6<W.heap.size:=(za0.1 E).1;have a3:=q.size;refine⟨I.tch t2 (λ e=>by omega) (λ j e=>by omega),hr.tch t2 (λ e=>by omega) (λ k hk e=>by grind),?_,?_,?_,?_,?_,?_,r,J,rl,X,T,rG,vr,wn⟩
 .grind
 .rw[t2.block B6 (by omega) (λ e=>by omega),q.block B6 U (λ e=>by omega)];exact E
 .exact(Y.tch q (λ j f e=>by have:=r 0 j (by omega) f;omega)).tch t2 (λ j f e=>by have:=r 0 j (by omega) f;omega)
 .exact(Z.tch q (λ j f e=>by have:=r 1 j (by omega) f;omega)).tch t2 (λ j f e=>by have:=r 1 j (by omega) f;omega)
 .exact(oc.tch q (λ j f e=>by have:=r 2 j (by omega) f;omega)).tch t2 (λ j f e=>by have:=r 2 j (by omega) f;omega)
 .exact(a1.trans q (λ j f e=>by omega)).trans t2 (λ j f e=>by omega)
end
def AEk(w):RdS w (.slice none 0 0) []:=⟨none,0,rfl,AE _,by omega,.inl rfl⟩
def Ih(n0 g:Nat)(R:List Sq×Option (List Int))(w:World)(e:Ending)(w':World):Prop:=
 ∃rv,e=.returned rv/\RdS w' rv R.1/\(∀k,rv.ownBlock=some k->w.heap.size<=k)/\AZ n0 w' g R.2/\AD (λ k=>k=g) w w'
def Ih.nil{n0 g σ w w'}(f:AZ n0 w' g σ)(q:AD (λ k=>k=g) w w'):Ih n0 g ([],σ) w (.returned (.slice none 0 0)) w':=
 ⟨_,rfl,AEk _,(λ k e=>by cases e),f,q⟩
def AHM(n0 g σ)(n:Nat)(w)(h:AZ n0 w g σ)(hn:n<=65536)(c9:n0<=w.heap.size):
 Calls prog 137 #[.pointer (some ⟨g,0,none⟩),.int .i64 (n:Int)] w λ e w'=>Ih n0 g (Hl σ n) w e w':=by
 have H:=z6 h;have ag:=Jc h.bys;have bq:=h.lt;have am:Hid (g<w.heap.size/\n0<=w.heap.size):=⟨bq,c9⟩
 clear h bq c9;unfold Hl;obtain⟨ms,co⟩:=exH (AV σ);have HN:=Mv n0 g σ w H.o;rw[co.o]at ag HN |-
 obtain⟨m0,σ1⟩:=ms;simp only at ag HN |-
 obtain⟨m,rfl⟩:=Int.eq_ofNat_of_zero_le ag.1;have cn:m<=4294967295:=by omega
 have a2:=z6 HN;clear HN ag;obtain⟨n4,a1⟩:∃n4:Nat,(n:Int) / 4=(n4:Int):=⟨n / 4,by omega⟩
 have cq:n4<=16384:=by omega
 have hq:((n:Int)).tdiv 4=(n4:Int):=by rw[Int.tdiv_eq_ediv_of_nonneg (by omega)];exact a1
 rw[a1];by_cases a5:(m:Int)<=(n4:Int)
 .have bu:decide ((m:Int)<=(n4:Int))=true:=by rw[zg1];exact a5
  have bw:decide (m<=n4)=true:=by rw[zg1];omega
  cases σ1 with
  | none=>
   rw[if_neg (by simp)];clear a5 a1
   go_enter func137,ntmps137
   go_wp2_with fail;refine a2.o.mono ?_;clear a2;rintro e w1 ⟨rfl,T,W⟩;have L:=z6 T;have O:=z6 W;clear T W;go_wp2_with fail;refine(DQ n0 g none true w1 L.o).mono ?_;rintro e J ⟨rfl,U,X⟩;have S2:=z6 U;have Z:Hid (AD (λ k=>k=g) w J):=O.o.trans X (λ _ _ e=>e);clear U X L O;simp only[Aj,Option.isSome_none,if_true];go_wp2_with fail;go_ret;exact Ih.nil S2.o Z.o
  | some B=>
   rw[if_pos ⟨a5,rfl⟩];by_cases az:m=0
   .have bz:((m:Int)==0)=true:=by simp[az]
    rw[if_pos (show(m:Int)=0 by omega)];clear a5 a1 az
    go_enter func137,ntmps137
    go_wp2_with fail;refine a2.o.mono ?_;clear a2;rintro e w1 ⟨rfl,T,W⟩;have L:=z6 T;have O:=z6 W;clear T W;go_wp2_with fail;refine(DQ n0 g (some B) true w1 L.o).mono ?_;rintro e J ⟨rfl,U,X⟩;have S2:=z6 U;have Z:Hid (AD (λ k=>k=g) w J):=O.o.trans X (λ _ _ e=>e);clear U X L O;simp only[Aj,Option.isSome_some,if_true];go_wp2_with fail;go_ret;exact Ih.nil S2.o Z.o
   .rw[if_neg (by omega),Int.toNat_natCast];(have bz:((m:Int)==0)=false:=by rw[zi0];omega);(have d9:1<=m:=by omega);(have da:m<=16384:=by omega);clear a5 a1 az;obtain⟨zs,al⟩:=exH (C6 (Bd (some B) (m:Int) 3));rw[al.o];obtain⟨ys,σ4⟩:=zs;simp only;obtain⟨f,b8⟩:=exH (Cp (some B) (m:Int) 0);obtain⟨q,b9⟩:=exH (Cp (some B) (m:Int) 1);obtain⟨r,ba⟩:=exH (Cp (some B) (m:Int) 2);rw[b8.o,b9.o,ba.o];obtain⟨R,hR⟩:=exH ((if σ4.isSome=true then(C3 ys f q r m,Aj σ4 ((C7 ys f q r m).2&&Iq ys (C7 ys f q r m).1))else([],none)));rw[hR.o]
    go_enter func137,ntmps137
    go_wp2_with fail;refine a2.o.mono ?_;clear a2;rintro e w1 ⟨rfl,T,W⟩;have L:=z6 T;have O:=z6 W;clear T W;go_wp2_with fail;refine(DQ n0 g (some B) true w1 L.o).mono ?_;rintro e J ⟨rfl,U,X⟩;have S2:=z6 U;have Z:Hid (AD (λ k=>k=g) w J):=O.o.trans X (λ _ _ e=>e);clear U X L O;simp only[Aj,Option.isSome_some,if_true];go_wp2_with fail;obtain⟨W0,ae⟩:=exH (J.alloc (.cells #[.slice none 0 0,.slice none 0 0,.slice none 0 0] 254));rw[ae.o];obtain⟨B6,ad⟩:=exH J.heap.size;rw[ad.o];have G0:Hid (Sg n0 w W0 g B6 (some B) (m:Int) 0 (λ _=>.slice none 0 0)):=by
     (have hb:Below J.heap.size J W0:=by rw[<-ae.o];exact(Below.refl _ _).alloc (AE _) _);refine⟨S2.o.below hb,?_,(λ i I=>by omega),(λ i j e=>by cases e),Z.o.trans (AD.of_below (S:=λ k=>k=g) hb) (λ _ _ e=>e),by rw[<-ad.o];exact Z.o.size,am.o.1,am.o.2⟩;rw[<-ae.o,<-ad.o];exact heap_alloc_new J _
    clear ae ad S2 Z
    go_loopw [24] (λ i wr=>∃(k:Nat)(V:Nat->Value),k<=3/\i=.int .i64 k/\Hid (Sg n0 w wr g B6 (some B) (m:Int) k V)) (λ i _=>3-(intOf i).toNat)
    (case atStart=>exact⟨0,_,by omega,rfl,G0⟩);case round=>
     clear G0;obtain⟨k,V,hk,rfl,G⟩:=hrel;by_cases a6:k<3
     .have d7:(k:Int)<3:=by omega
      (have d8:(0:Int)<=(k:Int):=by omega);go_wp2_with fail;refine(AHN n0 g (Bd (some B) (m:Int) k) (m:Int) wr G.o.so).mono ?_;rintro e w3 ⟨rv,rfl,b0,bo,a9,a8⟩;have G3:Hid (Sg n0 w (w3.setCell ⟨B6,k,none⟩ rv) g B6 (some B) (m:Int) (k+1) (λ i=>if i=k then rv else V i)):=G.o.next a6 a9 b0 bo a8;have a0:w3.heap[B6]?=some (.cells #[V 0,V 1,V 2] 254 (0,0)):=by rw[a8.block B6 G.o.lt6 (λ e=>by have:=G.o.n6;have:=G.o.gl;omega)];exact G.o.b6
      have c6:∃v6,w3.cell? ⟨B6,k,none⟩=some v6:=by
       rw[cell_of_row w3 B6 k _ _ (0,0) a0]
       match k,a6 with
       | 0,_=>exact⟨_,rfl⟩
       | 1,_=>exact⟨_,rfl⟩
       | 2,_=>exact⟨_,rfl⟩
      obtain⟨v6,c6⟩:=c6;have f6:=frozen_of_row w3 B6 k _ _ a0;obtain⟨ra,rc,c4,_⟩:=b0.rd;obtain⟨rl,cr⟩:=exH ((Dq (Bd (some B) (m:Int) k) (m:Int)).1.length);rw[cr.o]at c4;clear b0 bo a9 a8 a0 G;subst c4;go_wp2_with fail
      go_roundw
      (case rel=>exact⟨k+1,_,by omega,by go_num,G3⟩);case measure=>simp[intOf];omega
     .obtain rfl:k=3:=by omega
      clear a6;have aq:=QG n0 g (Bd (some B) (m:Int) 3) wr G.o.so;rw[al.o]at aq;have bi:=z6 aq;have cg:Hid (ys.length<=140737488355328):=by show _<=_;obtain⟨db,h1⟩:=G.o.so;have h2:=P5 (Bd (some B) (m:Int) 3);rw[al.o]at h2;have:=h1.small;simp only at h2;omega
      clear aq;go_wp2_with fail;refine bi.o.mono ?_;clear bi;rintro e w3 ⟨d3,rfl,br,a9,a8⟩;have K3:=z6 br;have S3:=z6 a9;have T3:=z6 a8;clear br a9 a8;go_wp2_with fail;refine(PG d3 ys w3 K3.o.rd K3.o.bys cg.o).mono ?_;rintro e w4 ⟨rb,ab,rfl,c0,av,a1,bx⟩;(obtain⟨aa,S4⟩:∃aa,Hid (So n0 w4 g aa σ4):=by obtain⟨lv,h⟩:=S3.o.below av;exact⟨lv,h⟩);have R4:=z6 c0;have B4:=z6 av;have N4:=z6 a1;have M4:=z6 bx;have c1:=S4.o.c1;clear c0 av a1 bx K3 S3;cases hσ:σ4 with
      | none=>rw[hσ]at c1;simp only[Option.isNone_none]at c1;(have HR:Hid (R=([],none)):=by show _=_;rw[<-hR.o,hσ];rfl);(have S5:Hid (AZ n0 w4 g none):=by rw[<-hσ];exact⟨aa,S4.o⟩);have T5:Hid (AD (λ k=>k=g) w w4):=(G.o.tch.trans T3.o (λ _ _ e=>e)).trans (AD.of_below (S:=λ k=>k=g) B4.o) (λ _ _ e=>e);clear hR hσ S4 G T3 R4 B4 M4;go_wp2_with fail;go_ret;rw[HR.o];exact Ih.nil S5.o T5.o
      | some l4=>
       rw[hσ]at c1;simp only[Option.isNone_some]at c1;(have HR:Hid (R=(C3 ys f q r m,Aj (some l4) ((C7 ys f q r m).2&&Iq ys (C7 ys f q r m).1))):=by show _=_;rw[<-hR.o,hσ];rfl);have ac:=z6 (P8 (by rw[al.o,hσ];rfl));have aw:=Py ac.o 0 (by omega);have ax:=Py ac.o 1 (by omega);have ay:=Py ac.o 2 (by omega);rw[b8.o]at aw;rw[b9.o]at ax;rw[ba.o]at ay;have an:Hid (f.length=m/\∀i,0<=f.getD i 0/\f.getD i 0<=16):=⟨by omega,aw.2⟩
       have ao:Hid (q.length=m/\∀i,0<=q.getD i 0/\q.getD i 0<=16):=⟨by omega,ax.2⟩
       have ap:Hid (r.length=m/\∀i,0<=r.getD i 0/\r.getD i 0<=16):=⟨by omega,ay.2⟩
       (have bj:Hid (So n0 w4 g aa (some l4)):=by rw[<-hσ];exact S4.o);clear hR hσ S4 aw ax ay ac;obtain⟨i0,I,ai,aj,ak⟩:=info_parts S9;go_wp2_with(at_make;refine wpList_make_full _ rfl (.tmp 40) (.tmp 40) 207 rfl 0 244 i0 _ 3 underlying207 I ai aj .i64 .i64 _ _ m rfl rfl (by first|rfl|omega) (by first|rfl|omega) (by rw[ak];omega) (by unfold maxLen;omega) (AI _) ?_)
       intro w5 b2 bp;obtain⟨K,ar⟩:=exH w4.heap.size;rw[ar.o]at b2 |-
       have M5:Hid (Sm n0 w w5 g rb K B6 m ab ys f q r (some l4) V 0):=by
        have b5:=(Below.refl _ _).grown bp (AE _) (λ k e=>by cases e);have t3:=T3.o.size;have tw:=G.o.tch.size;have gl:=G.o.gl;have n6:=G.o.n6;have l6:=G.o.lt6;have d4:=N4.o;have cz:=R4.o.lt;have bc:AD (λ k=>k=g) wr w5:=(T3.o.trans (AD.of_below (S:=λ k=>k=g) B4.o) (λ _ _ e=>e)).trans (AD.of_below (S:=λ k=>k=g) b5) (λ _ _ e=>e);have hO:∀i,i<3->AF .i64 3 w5 (V i) (Cp (some B) (m:Int) i):=λ i I=>(G.o.own i I).tch bc (λ j A e=>by have:=(G.o.new i j A).1;omega);have ci:∀i j,i<3->(V i).ownBlock=some j->j<wr.heap.size:=λ i j I A=>(G.o.own i I).lt j A;have h0:=hO 0 (by omega);have h1:=hO 1 (by omega);have h2:=hO 2 (by omega);rw[b8.o]at h0;rw[b9.o]at h1;rw[ba.o]at h2
        refine⟨⟨aa,bj.o.below b5⟩,R4.o.below b5,?_,?_,h0,h1,h2,G.o.tch.trans bc (λ _ _ e=>e),?_,gl,by omega,n6,by omega,by rw[<-ar.o];exact cz,λ k hk=>?_,am.o.2⟩
        .have e5:BK w5 (.slice (some ⟨K,0,none⟩) m m) (List.replicate m AR):=by unfold BK;rw[zm0,<-AIr];exact b2
         simpa[C3]using e5
        .rw[bc.block B6 l6 (λ e=>by omega)];exact G.o.b6
        .intro i j I A;have h3:=ci i j I A;have h4:=(G.o.new i j A).1;omega
        .have h3:=M4.o k hk;have h4:=R4.o.own.lt k hk;rw[ar.o]at h4;exact⟨by omega,h4⟩
       clear b2 bp I ai aj ak bj R4 B4 M4 T3 G c1 N4;obtain⟨E,sc,hV⟩:∃E sc:Nat->Nat,∀i,i<3->V i=.slice (some ⟨E i,0,none⟩) m (sc i):=by
        refine⟨λ i=>match V i with | .slice (some a) _ _=>a.block|_=>0,λ i=>match V i with | .slice _ _ c=>c|_=>0,λ i I=>?_⟩;have hx:∃xs:List Int,xs.length=m/\AF .i64 3 w5 (V i) xs:=by
         match i,I with
         | 0,_=>exact⟨f,an.o.1,M5.o.oa⟩
         | 1,_=>exact⟨q,ao.o.1,M5.o.ob⟩
         | 2,_=>exact⟨r,ap.o.1,M5.o.oc⟩
        obtain⟨xs,ca,bb⟩:=hx;obtain⟨g',c',e',_⟩:=bb.shape (by omega);rw[ca]at e';simp only[e']
       have HV:=z6 hV;clear hV;go_wp2_with fail
       go_loopw [44] (λ i wr=>∃k:Nat,k<=m/\i=.int .i64 k/\Hid (Sm n0 w wr g rb K B6 m ab ys f q r (some l4) V k)) (λ i _=>m-(intOf i).toNat)
       (case atStart=>exact⟨0,by omega,rfl,M5⟩);case round=>
        rename_i wrOld;clear M5;obtain⟨i,I,rfl,M⟩:=hrel;by_cases a6:i<m
        .have a0:=M.o.b6;rw[HV.o 0 (by omega),HV.o 1 (by omega),HV.o 2 (by omega)]at a0;(have d0:wr.cell? ⟨B6,0,none⟩=some (.slice (some ⟨E 0,0,none⟩) m (sc 0)):=by rw[cell_of_row wr B6 0 _ _ (0,0) a0];rfl);(have d1:wr.cell? ⟨B6,1,none⟩=some (.slice (some ⟨E 1,0,none⟩) m (sc 1)):=by rw[cell_of_row wr B6 1 _ _ (0,0) a0];rfl);(have d2:wr.cell? ⟨B6,2,none⟩=some (.slice (some ⟨E 2,0,none⟩) m (sc 2)):=by rw[cell_of_row wr B6 2 _ _ (0,0) a0];rfl);clear a0;have be:Hid (∀j,j<3->wr.cell? ⟨E j,0+i,none⟩=some (.int .i64 (c3 f q r i j))):=λ j A=>by
          have hx:∃xs:List Int,xs.length=m/\AF .i64 3 wr (V j) xs/\c3 f q r i j=xs.getD i 0:=by
           match j,A with
           | 0,_=>exact⟨f,an.o.1,M.o.oa,rfl⟩
           | 1,_=>exact⟨q,ao.o.1,M.o.ob,rfl⟩
           | 2,_=>exact⟨r,ap.o.1,M.o.oc,rfl⟩
          obtain⟨xs,ca,bb,ct⟩:=hx;obtain⟨g',c',e',_,_,_,cj,_⟩:=bb.shape (by omega);rw[HV.o j A]at e';simp only[Value.slice.injEq,Option.some.injEq,Addr.mk.injEq,and_true,true_and]at e';rw[e'.1,Nat.zero_add,cj i (by omega),ct]
         have bd:Hid (∀j,j<3->0<=c3 f q r i j/\c3 f q r i j<=16):=λ j A=>by
          match j,A with
          | 0,_=>exact an.o.2 i
          | 1,_=>exact ao.o.2 i
          | 2,_=>exact ap.o.2 i
         (have bf:Hid (∀j,j<3->E j≠g/\E j≠rb):=λ j A=>by have h1:=M.o.vn j (E j) A (by rw[HV.o j A];rfl);have:=M.o.gl;omega);have bg:=AHL n0 g rb _ ab ys _ i (c3 f q r i) E (λ _=>0) (λ _=>m) sc wr M.o.so M.o.rr (by have:=M.o.gl;have:=M.o.rl;omega) (by have:=M.o.rl;have:=M.o.wn;omega)
          (λ e=>by have:=(M.o.vr g e).1;have:=M.o.gl;omega) (by have:=M.o.tch.size;have:=M.o.wn;omega) be.o (λ _ _=>a6) bd.o bf.o
         have bh:Hid (Calls prog 172 #[.pointer (some ⟨g,0,none⟩),.pointer (some ⟨rb,0,none⟩),.agg #[.slice (some ⟨E 0,0,none⟩) m (sc 0),.slice (some ⟨E 1,0,none⟩) m (sc 1),.slice (some ⟨E 2,0,none⟩) m (sc 2)],.int .i64 (i:Int)] wr λ e w'=>
          e=.returned (.agg #[.int .i64 (Ef ys f q r i).1,.int .i64 (Ef ys f q r i).2.1,.int .i64 (Ef ys f q r i).2.2])/\AZ n0 w' g (Aj (Aj (some l4) (C7 ys f q r i).2) (Bm ys (c3 f q r i) (C7 ys f q r i).1 3).2)/\Rr w' rb ab ys (Bm ys (c3 f q r i) (C7 ys f q r i).1 3).1/\AD (λ k=>k=g\/k=rb) wr w'):=bg
         clear bg be bd bf;go_wp2_with fail;refine bh.o.mono ?_;clear bh;rintro e Y ⟨rfl,c5,c2,a3⟩;have M6:=M.o.next a6 c5 c2 a3;have au:=M.o.own.tch a3 (λ j A=>by have:=M.o.rG;have:=M.o.gl;have:=M.o.rl;simp only[Value.ownBlock,Option.some.injEq]at A;omega);(have af:(C3 ys f q r i++List.replicate (m-i) AR).length=m:=by rw[zc0,Pw,zm0];omega);have bn:Y.ownsRow 0 244 3 (.slice (some ⟨K,0,none⟩) m m) m (Cf (C3 ys f q r i++List.replicate (m-i) AR)):=by have h:=au;unfold BK at h;rw[af]at h;exact h
         have a4:∀j,Y.frozen? ⟨K,j,none⟩=false:=λ j=>bn.frozenAt j;obtain⟨a7,c7,e7,ck,cl,bm⟩:=au.rd;clear ck cl;obtain⟨b7,o7,bk,h7⟩:∃b o,a7=some ⟨b,o,none⟩/\∀j,j<(C3 ys f q r i++List.replicate (m-i) AR).length->Y.cell? ⟨b,o+j*3,none⟩=some (.int .i64 ((C3 ys f q r i++List.replicate (m-i) AR).getD j AR).1)/\Y.cell? ⟨b,o+j*3+1,none⟩=some (.int .i64 ((C3 ys f q r i++List.replicate (m-i) AR).getD j AR).2.1)/\Y.cell? ⟨b,o+j*3+2,none⟩=some (.int .i64 ((C3 ys f q r i++List.replicate (m-i) AR).getD j AR).2.2):=by rcases bm with h|h;rw[h]at af;simp at af;omega;exact h
         clear bm;rw[bk]at e7;clear bk;simp only[Value.slice.injEq,Option.some.injEq,Addr.mk.injEq,and_true]at e7;obtain⟨⟨rfl,rfl⟩,cm⟩:=e7;clear cm;obtain⟨k0,k1,k2⟩:=h7 i (by omega);rw[Nat.zero_add]at k0 k1 k2;have g0:=a4 (i*3);have g1:=a4 (i*3+1);have g2:=a4 (i*3+2);obtain⟨y0,cv⟩:=exH ((Ef ys f q r i).1);obtain⟨y1,cx⟩:=exH ((Ef ys f q r i).2.1);obtain⟨y2,cy⟩:=exH ((Ef ys f q r i).2.2);rw[cv.o,cx.o,cy.o]at M6 |-
         have ce:=z6 M6;obtain⟨z0,ai⟩:=exH (((C3 ys f q r i++List.replicate (m-i) AR).getD i AR).1);obtain⟨z1,aj⟩:=exH (((C3 ys f q r i++List.replicate (m-i) AR).getD i AR).2.1);obtain⟨z2,ak⟩:=exH (((C3 ys f q r i++List.replicate (m-i) AR).getD i AR).2.2);rw[ai.o]at k0;rw[aj.o]at k1;rw[ak.o]at k2;(have d5:(i:Int)<(m:Int):=by omega);(have d6:(0:Int)<=(i:Int):=by omega);clear bu bw hq bz cq cn;have cf:Hid (Y.there K (i*3) 3):=λ j A=>by
          match j,A with
          | 0,_=>exact⟨by rw[Nat.add_zero,k0];rfl,a4 _⟩
          | 1,_=>exact⟨by rw[k1];rfl,a4 _⟩
          | 2,_=>exact⟨by rw[k2];rfl,a4 _⟩
         (have cc:Hid ((prog.info? 244).map (·.size)=some 3):=by show _=_;kernel_rfl);clear M6 au bn a4 h7 af c5 c2 a3 M d0 d1 d2 cf cc;go_wp2_with fail
         go_roundw
         (case rel=>exact⟨i+1,by omega,by go_num,ce⟩);case measure=>simp[intOf];omega
        .obtain rfl:i=m:=by omega
         go_wp2_with fail;refine(ADi rb ab ys _ wr M.o.rr).mono ?_;rintro e Y ⟨rfl,a3⟩;have S6:=z6 (M.o.so.tch a3 (λ e=>by have:=M.o.gl;have:=M.o.rl;omega) (λ k e=>by have:=M.o.rl;have:=M.o.wn;omega));have O6:Hid (BK Y (.slice (some ⟨K,0,none⟩) i i) (C3 ys f q r i)):=by have h1:=M.o.own;rw[Nat.sub_self,List.replicate_zero,List.append_nil]at h1;exact h1.tch a3 (λ j A=>by have:=M.o.rG;simp only[Value.ownBlock,Option.some.injEq]at A;omega)
         have T6:Hid (AD (λ k=>k=g) w Y):=M.o.tch.trans a3 (λ j A e=>by have:=M.o.rl;omega);have NG:Hid (w.heap.size<=K/\K≠g):=⟨by have:=M.o.rG;have:=M.o.rl;omega,by have:=M.o.rG;have:=M.o.rl;have:=M.o.gl;omega⟩
         clear a3 M;go_wp2_with fail;refine(DQ n0 g _ _ Y S6.o).mono ?_;rintro e w7 ⟨rfl,b3,b4⟩;rw[Nc]at b3;(have S7:Hid (AZ n0 w7 g R.2):=by rw[HR.o];exact b3);(have O7:Hid (BK w7 (.slice (some ⟨K,0,none⟩) i i) R.1):=by rw[HR.o];exact O6.o.tch b4 (λ j A e=>by simp only[Value.ownBlock,Option.some.injEq]at A;have:=NG.o.2;omega));have T7:Hid (AD (λ k=>k=g) w w7):=T6.o.trans b4 (λ _ _ e=>e);clear b3 b4 S6 O6 T6;go_wp2_with fail;go_ret;exact⟨.slice (some ⟨K,0,none⟩) i i,rfl,O7.o.rd,λ k hk=>by simp only[Value.ownBlock,Option.some.injEq]at hk;have:=NG.o.1;omega,S7.o,T7.o⟩
 .have bu:decide ((m:Int)<=(n4:Int))=false:=by rw[AT];exact a5
  have bw:decide (m<=n4)=false:=by rw[AT];omega
  rw[if_neg (λ e=>a5 e.1)];clear a1
  go_enter func137,ntmps137
  go_wp2_with fail;refine a2.o.mono ?_;clear a2;rintro e w1 ⟨rfl,T,W⟩;have L:=z6 T;have O:=z6 W;clear T W;go_wp2_with fail;refine(DQ n0 g σ1 false w1 L.o).mono ?_;rintro e J ⟨rfl,U,X⟩;have S2:=z6 U;have Z:Hid (AD (λ k=>k=g) w J):=O.o.trans X (λ _ _ e=>e);clear U X L O;simp only[Aj];go_wp2_with fail;go_ret;exact Ih.nil S2.o Z.o
end
section
open Go.RowKit Pl
def DY(i:Nat)(x:Sq):Int:=if i=0 then x.1 else if i=1 then x.2.1-4 else x.2.2-1
def CU(v:Int):Nat:=Lib.bitLen v.toNat
def GI(i:Nat):Nat:=if i=0 then 194 else if i=1 then 195 else 196
def AEA(x y z w):Calls prog 194 #[.agg #[.int .i64 x,.int .i64 y,.int .i64 z]] w λ e w'=>e=.returned (.int .i64 x)/\Below w.heap.size w w':=by
 have f:Hid (Below w.heap.size w (w.alloc (.cells #[.int .i64 x,.int .i64 y,.int .i64 z] 244))):=(Below.refl _ _).alloc (AE _) _
 go_enter func194,ntmps194
 go_wp2_with fail;go_ret;exact⟨rfl,f.o⟩
def AEB(x y z w)(h:-4611686018427387904<=y/\y<=4611686018427387904):Calls prog 195 #[.agg #[.int .i64 x,.int .i64 y,.int .i64 z]] w λ e w'=>e=.returned (.int .i64 (y-4))/\Below w.heap.size w w':=by
 have f:Hid (Below w.heap.size w (w.alloc (.cells #[.int .i64 x,.int .i64 y,.int .i64 z] 244))):=(Below.refl _ _).alloc (AE _) _
 go_enter func195,ntmps195
 go_wp2_with fail;go_ret;exact⟨rfl,f.o⟩
def AEC(x y z w)(h:-4611686018427387904<=z/\z<=4611686018427387904):Calls prog 196 #[.agg #[.int .i64 x,.int .i64 y,.int .i64 z]] w λ e w'=>e=.returned (.int .i64 (z-1))/\Below w.heap.size w w':=by
 have f:Hid (Below w.heap.size w (w.alloc (.cells #[.int .i64 x,.int .i64 y,.int .i64 z] 244))):=(Below.refl _ _).alloc (AE _) _
 go_enter func196,ntmps196
 go_wp2_with fail;go_ret;exact⟨rfl,f.o⟩
def Cu(x:Sq):Prop:=∀i,i<3->0<=DY i x/\DY i x<=65535
def UX(i)(A:i<3)(x)(f:Cu x)(w):Calls prog (GI i) #[.agg #[.int .i64 x.1,.int .i64 x.2.1,.int .i64 x.2.2]] w λ e w'=>e=.returned (.int .i64 (DY i x))/\Below w.heap.size w w':=by
 have q:=f 1 (by omega);have r:=f 2 (by omega);simp only[DY]at q r
 match i,A with
 | 0,_=>exact AEA _ _ _ w
 | 1,_=>exact AEB _ _ _ w (by grind)
 | 2,_=>exact AEC _ _ _ w (by omega)
def Rk(v w)(h:0<=v/\v<=65535):Calls prog 197 #[.int .i64 v] w λ e w'=>e=.returned (.int .i64 (CU v:Int))/\w'=w:=by
 have Am:v % 18446744073709551616=v:=by omega
 go_enter func197,ntmps197
 go_wp2_with fail;refine(Tm v w h.1 h.2).mono ?_;rintro e f ⟨rfl,rfl⟩;go_wp2_with fail;go_ret;exact⟨rfl,rfl⟩
def Lh{v}(h:0<=v/\v<=65535):CU v<=16:=by
 have e:2 ^ 16=65536:=by decide
 exact Lib.bitLen_le v.toNat 16 (by omega) (by omega)
def Ee:Array Value:=#[.func (.func 194) #[] #[],.func (.func 195) #[] #[],.func (.func 196) #[] #[]]
theorem UW:Ee.all (·.oneCell')=true:=by kernel_rfl
def UY(w):Calls prog 161 #[] w λ e w'=>e=.returned (.agg Ee)/\Below w.heap.size w w':=by
 have f:Hid (Below w.heap.size w (w.alloc (.cells Ee 247))):=(Below.refl _ _).alloc (AE _) _;have q:Hid ((loadVar 247 ⟨w.heap.size,0,none⟩).run prog (w.alloc (.cells Ee 247))=.ok (.agg Ee) (w.alloc (.cells Ee 247))):=by
  have r:=heap_alloc_new w (.cells Ee 247);exact run_loadVar_mid (P:=prog) _ w.heap.size 0 247 Ee.toList _ (λ j v Am=>by
   rw[Nat.zero_add,cell_of_row _ w.heap.size j _ _ (0,0) r];simpa using Am) underlying247 rfl (by kernel_rfl)
 go_enter func161,ntmps161
 go_wp2_with(refine JA w rfl 247 (.tmp 0) (.tmp 1) rfl #[.nilFunc,.nilFunc,.nilFunc] Ee rfl rfl (by kernel_rfl) rfl UW ?_)
 refine bodyPost_ret (v:=.agg Ee) ?_ rfl ⟨rfl,f.o⟩;exact Kj (p:=0) (ty:=247) rfl _ _ _ w.heap.size _ rfl q.o
