import Derived.Test.YtcmjlibndmneiaaGreatPTVw
import Derived.Test.YtcmjlibndmneiaaGreatPKFlush
import Derived.Test.YtcmjlibndmneiaaGreatPNWr
import Derived.Test.YtcmjlibndmneiaaGreatPDPer
set_option maxRecDepth 100000
set_option linter.all false
set_option maxHeartbeats 8000000
namespace Go.Proofs.YtcmjlibndmneiaaGreat
open Go.RowKit Go.Maps
def gF(F:Int->Bool)(i:Nat):Option Value:=if F (i:Int)=true then some (.agg #[])else none
theorem zeroT(w:World):(zeroValue 121).run Tryz.prog w=.ok (.agg #[]) w:=by kernel_rfl
section
variable {w:World} {b n:Nat} {F:Int->Bool}
def gF_has(hF:∀x,F x=true->0<=x/\x<n)(x:Int):Maps.has (Dm n (gF F)) (Lit.int .i64 x)=F x:=by
 rw[Bool.eq_iff_iff,dm_has];constructor
 .rintro⟨i,v,H,u,e⟩;simp only[Lit.int.injEq,true_and]at e;subst e;unfold gF at u;split at u
  .assumption
  .cases u
 .intro h;obtain⟨A,E⟩:=hF x h;obtain⟨i,rfl⟩:∃i:Nat,x=i:=⟨x.toNat,by omega⟩
  exact⟨i,.agg #[],by omega,if_pos h,rfl⟩
def Mp.lookT(h:Mp w b n (gF F))(hF:∀x,F x=true->0<=x/\x<n){x:Int}(A:(Lit.int .i64 x).wf=true):
 (Instr.lookup 88 (.map (some b)) (.int .i64 x) true).run Tryz.prog w=.ok (.tuple #[.agg #[],.bool (F x)]) w:=by
 obtain⟨v,I,hr,hv⟩:=World.ownsMap.look_ok h keyed3 Tryz.underlying88 (zeroT w) (zd:=.held (.agg #[])) (zp:=[]) rfl (keyOf_int_mk Tryz.underlying3 A);rw[hr,gF_has hF];congr 3;cases e:F x with
 | false=>
  have u:Maps.has (Dm n (gF F)) (Lit.int .i64 x)=false:=by rw[gF_has hF,e]
  rw[atKey_of_not_has u]at hv;simp only[Rv,Option.some.injEq,Prod.mk.injEq,DataW.held.injEq]at hv;rw[hv.1]
 | true=>
  obtain⟨E,H⟩:=hF x e;obtain⟨i,rfl⟩:∃i:Nat,x=i:=⟨x.toNat,by omega⟩
  rw[dm_at (v:=.agg #[]) (by omega) (if_pos e)]at hv;simp only[Rv,Option.some.injEq,Prod.mk.injEq,DataW.held.injEq]at hv;rw[hv.1]
def Mp.putT(h:Mp w b n (gF F)){x:Int}(I:0<=x)(hi:x<n)(O:n<=65536):
 ∃w',(Instr.mapUpdate 88 (.map (some b)) (.int .i64 x) (.agg #[])).run Tryz.prog w=.ok () w'/\Mp w' b n (gF (updI F x true))/\Tch (λ k=>k=b) w w':=by
 obtain⟨i,rfl⟩:∃i:Nat,x=i:=⟨x.toNat,by omega⟩
 obtain⟨w',E,u,H⟩:=World.ownsMap.update (val:=.agg #[]) (d:=.held (.agg #[])) (ps:=[]) h keyed3 Tryz.underlying88 (by unfold maxLen;omega) (key3 (i:=i) (by omega)) rfl;refine⟨w',E,(mp_of u (dm_put (by omega) _ (u.canon keyed3))).congr (λ j K=>?_),(Tch.of_grown H).mono (λ k _ e=>by cases e;rfl)⟩;unfold gput gF updI;by_cases e:j=i
 .subst e;simp
 .have A:¬((j:Int)=(i:Int)):=by omega
  rw[if_neg e,if_neg A]
def Mp.delT(h:Mp w b n (gF F)){x:Int}(E:(Lit.int .i64 x).wf=true)(ty:TypeId):
 ∃w',(Builtin.delete_ #[88,3] ty #[.map (some b),.int .i64 x]).run Tryz.prog w=.ok (.tuple #[]) w'/\Mp w' b n (gF (updI F x false))/\Tch (λ k=>k=b) w w':=by
 obtain⟨w',A,u,H⟩:=World.ownsMap.drop h keyed3 Tryz.underlying88 (keyOf_int_mk Tryz.underlying3 E) ty;refine⟨w',A,(mp_of u (zsl9 (u.canon keyed3))).congr (λ j I=>?_),(Tch.of_grown H.grown).mono (λ k _ e=>by cases e;rfl)⟩;unfold gdel gF updI;by_cases e:(j:Int)=x
 .rw[if_pos e,if_pos e];simp
 .rw[if_neg e,if_neg e]
end
def zsp9(x:Int){xs:List Int}(h:By xs):By (Go.Proofs.YtcmjlibndmneiaaGreat.getB x xs).2:=by
 unfold Go.Proofs.YtcmjlibndmneiaaGreat.getB;split
 .exact(h.dropN 8).take _
 .exact λ i=>by simp
structure TOk(N:Nat)(a:AS)(s:CS)(D:DS):Prop where
 lo:a.A.lo=50
 hi:50+a.A.L.length=N
 fr:∀x,a.F x=true->50<=x/\x<N
 v:a.V=vwC s D
 q:a.Q=vwD D
 co:Coh s D
 dz:(∀i,D.V i=[])/\D.c=false
structure TzAt(U:Nat->Prop)(w:World)(t c d M N:Nat)(a:AS)(fb:Nat)(X S Y:Nat->Prop)(s:CS)(D:DS):Prop where
 box:w.heap[t]?=some (.cells #[cp c,mp M,.map (some fb)] 111 (0,0))
 cz:Cz X S w c d N s D
 pm:Pm w M a.A Y
 fm:Mp w fb N (gF a.F)
 xy:∀k,X k->¬Y k
 sy:∀k,S k->¬Y k
 nt:¬X t/\¬S t/\¬Y t
 nf:¬X fb/\¬S fb/\¬Y fb
 ux:∀k,(X k\/S k\/Y k\/k=t\/k=fb)->U k
 ul:∀k,U k->k<w.heap.size
 ok:TOk N a s D
def Tz(U:Nat->Prop)(w:World)(t c d M N:Nat)(a:AS):Prop:=∃fb X S Y s D,TzAt U w t c d M N a fb X S Y s D
def TzTo(U:Nat->Prop)(w w':World)(t c d M N:Nat)(a:AS):Prop:=∃U',Tz U' w' t c d M N a/\Tch U w w'/\∀k,U' k->U k\/w.heap.size<=k
section
variable {U X S Y:Nat->Prop} {w w':World} {t c d M N fb:Nat} {a a':AS} {s s':CS} {D D':DS}
def TzAt.c0(h:TzAt U w t c d M N a fb X S Y s D):w.cell? ⟨t,0,none⟩=some (cp c):=by rw[cell_of_row w t 0 _ _ (0,0) h.box];rfl
def TzAt.c1(h:TzAt U w t c d M N a fb X S Y s D):w.cell? ⟨t,1,none⟩=some (mp M):=by rw[cell_of_row w t 1 _ _ (0,0) h.box];rfl
def TzAt.c2(h:TzAt U w t c d M N a fb X S Y s D):w.cell? ⟨t,2,none⟩=some (.map (some fb)):=by rw[cell_of_row w t 2 _ _ (0,0) h.box];rfl
def TzAt.lt(h:TzAt U w t c d M N a fb X S Y s D):t<w.heap.size:=(zd0.1 h.box).1
def TzAt.ne(h:TzAt U w t c d M N a fb X S Y s D):t≠fb:=λ e=>h.fm.notCells (by rw[<-e];exact h.box)
def TzAt.tch(h:TzAt U w t c d M N a fb X S Y s D){R:Nat->Prop}(E:Tch R w w')(A:∀k,U k->¬R k):TzAt U w' t c d M N a fb X S Y s D where
 box:=by rw[E.block t h.lt (A t (h.ux t (.inr (.inr (.inr (.inl rfl))))))];exact h.box
 cz:=h.cz.tch E (λ k u=>A k (h.ux k (.inl u))) (λ k u=>A k (h.ux k (.inr (.inl u))))
 pm:=h.pm.tch E (λ k u=>A k (h.ux k (.inr (.inr (.inl u)))))
 fm:=h.fm.tch E (A fb (h.ux fb (.inr (.inr (.inr (.inr rfl))))))
 xy:=h.xy
 sy:=h.sy
 nt:=h.nt
 nf:=h.nf
 ux:=h.ux
 ul:=λ k u=>zn1 (h.ul k u) E.size
 ok:=h.ok
def Tz.tch(h:Tz U w t c d M N a){R:Nat->Prop}(A:Tch R w w')(u:∀k,U k->¬R k):Tz U w' t c d M N a:=by obtain⟨fb,X,S,Y,s,D,h⟩:=h;exact⟨fb,X,S,Y,s,D,h.tch A u⟩
def Tz.below(h:Tz U w t c d M N a)(u:Below w.heap.size w w'):Tz U w' t c d M N a:=h.tch (R:=λ _=>False) (Tch.of_below u) (λ _ _ e=>e)
def Tz.ul(h:Tz U w t c d M N a):∀k,U k->k<w.heap.size:=by obtain⟨_,_,_,_,_,_,h⟩:=h;exact h.ul
def Tz.c0(h:Tz U w t c d M N a):w.cell? ⟨t,0,none⟩=some (cp c):=by obtain⟨_,_,_,_,_,_,h⟩:=h;exact h.c0
def Tz.c1(h:Tz U w t c d M N a):w.cell? ⟨t,1,none⟩=some (mp M):=by obtain⟨_,_,_,_,_,_,h⟩:=h;exact h.c1
def Tz.map(h:Tz U w t c d M N a):∃fb,w.cell? ⟨t,2,none⟩=some (.map (some fb))/\Mp w fb N (gF a.F)/\U fb:=by obtain⟨fb,_,_,_,_,_,h⟩:=h;exact⟨fb,h.c2,h.fm,h.ux fb (.inr (.inr (.inr (.inr rfl))))⟩
def Tz.fr(h:Tz U w t c d M N a):∀x,a.F x=true->50<=x/\x<(N:Int):=by obtain⟨_,_,_,_,_,_,h⟩:=h;exact h.ok.fr
def Tz.n2(h:Tz U w t c d M N a):N<=4096:=by obtain⟨_,_,_,_,_,_,h⟩:=h;exact h.cz.ch.n2
def Tz.lo(h:Tz U w t c d M N a):a.A.lo=50/\50+a.A.L.length=N:=by obtain⟨_,_,_,_,_,_,h⟩:=h;exact⟨h.ok.lo,h.ok.hi⟩
def Tz.to(h:Tz U w t c d M N a):TzTo U w w t c d M N a:=⟨U,h,Tch.refl _ _,λ _ e=>.inl e⟩
def Tz.to_below(h:Tz U w t c d M N a)(u:Below w.heap.size w w'):TzTo U w w' t c d M N a:=⟨U,h.below u,Tch.of_below u,λ _ e=>.inl e⟩
def TzTo.below{A:World}(h:TzTo U w w' t c d M N a)(u:Below w'.heap.size w' A):TzTo U w A t c d M N a:=by obtain⟨E,H,I,K⟩:=h;exact⟨E,H.below u,I.trans (Tch.of_below (S:=U) u) (λ _ _ e=>e),K⟩
def TzTo.after{u:Nat->Prop}{A:World}(H:Tch u A w)(I:∀k,U k->u k\/A.heap.size<=k)(h:TzTo U w w' t c d M N a):TzTo u A w' t c d M N a:=by
 obtain⟨K,O,Q,T⟩:=h;refine⟨K,O,H.trans Q (λ k E e=>?_),λ k E=>?_⟩
 .rcases I k e with e|e
  .exact e
  .omega
 .rcases T k E with e|e
  .exact I k e
  .exact .inr (zn2 H.size e)
def TzAt.czTo(h:TzAt U w t c d M N a fb X S Y s D)(hc:CzTo X S w w' c d N s' D')(ho:TOk N a' s' D')(hA:a'.A=a.A)(hF:a'.F=a.F):
 ∃U',Tz U' w' t c d M N a'/\Tch U w w'/\(∀k,U' k->U k\/w.heap.size<=k):=by
 obtain⟨K,I,O,E,h3,h4⟩:=hc;have Q:∀k,X k\/S k->U k:=λ k u=>h.ux k (u.elim .inl (λ e=>.inr (.inl e)));have a1:=h.ul;have a2:=E.size;have nX:∀k,k<w.heap.size->¬X k->¬K k:=λ k u T e=>(h3 k e).elim T (λ e=>by omega);have nS:∀k,k<w.heap.size->¬S k->¬I k:=λ k u T e=>(h4 k e).elim T (λ e=>by omega);have hY:∀k,Y k->k<w.heap.size:=λ k u=>a1 k (h.ux k (.inr (.inr (.inl u))));have a0:fb<w.heap.size:=h.fm.lt;refine⟨λ k=>U k\/K k\/I k,⟨fb,K,I,Y,s',D',?_⟩,E.mono (λ k _ e=>Q k e),λ k u=>?_⟩
 .exact{
   box:=by rw[E.block t h.lt (λ e=>e.elim h.nt.1 h.nt.2.1)];exact h.box
   cz:=O
   pm:=by rw[hA];exact h.pm.tch E (λ k u e=>e.elim (λ e=>h.xy k e u) (λ e=>h.sy k e u))
   fm:=by rw[hF];exact h.fm.tch E (λ e=>e.elim h.nf.1 h.nf.2.1)
   xy:=λ k u H=>nX k (hY k H) (λ e=>h.xy k e H) u
   sy:=λ k u H=>nS k (hY k H) (λ e=>h.sy k e H) u
   nt:=⟨nX t h.lt h.nt.1,nS t h.lt h.nt.2.1,h.nt.2.2⟩
   nf:=⟨nX fb a0 h.nf.1,nS fb a0 h.nf.2.1,h.nf.2.2⟩
   ux:=λ k u=>by
    rcases u with e|e|e|e|e
    .exact .inr (.inl e)
    .exact .inr (.inr e)
    .exact .inl (h.ux k (.inr (.inr (.inl e))))
    .exact .inl (h.ux k (.inr (.inr (.inr (.inl e)))))
    .exact .inl (h.ux k (.inr (.inr (.inr (.inr e)))))
   ul:=λ k u=>by
    rcases u with e|e|e
    .exact zn1 (a1 k e) a2
    .exact O.ch.lt k e
    .exact O.dk.slt k e
   ok:=ho }
 .rcases u with e|e|e
  .exact .inl e
  .exact(h3 k e).imp (λ e=>Q k (.inl e)) id
  .exact(h4 k e).imp (λ e=>Q k (.inr e)) id
def TzAt.pmTo(h:TzAt U w t c d M N a fb X S Y s D){E:Ah.St}(Q:Pm w' M E (ext w w' Y))(H:Tch Y w w')(a1:E.lo=a.A.lo)(hl:E.L.length=a.A.L.length):TzTo U w w' t c d M N { a with A:=E }:=by
 have O:∀k,Y k->U k:=λ k u=>h.ux k (.inr (.inr (.inl u)));have K:=h.ul;have a2:=H.size;have hX:∀k,X k->k<w.heap.size:=λ k u=>K k (h.ux k (.inl u));have T:∀k,S k->k<w.heap.size:=λ k u=>K k (h.ux k (.inr (.inl u)));have a0:fb<w.heap.size:=h.fm.lt;have I:∀k,k<w.heap.size->¬Y k->¬ext w w' Y k:=λ k u hn e=>e.elim hn (λ e=>by omega);refine⟨λ k=>U k\/ext w w' Y k,⟨fb,X,S,ext w w' Y,s,D,?_⟩,H.mono (λ k _ e=>O k e),λ k u=>?_⟩
 .exact{
   box:=by rw[H.block t h.lt h.nt.2.2];exact h.box
   cz:=h.cz.tch H (λ k u e=>h.xy k u e) (λ k u e=>h.sy k u e)
   pm:=Q
   fm:=h.fm.tch H h.nf.2.2
   xy:=λ k u=>I k (hX k u) (h.xy k u)
   sy:=λ k u=>I k (T k u) (h.sy k u)
   nt:=⟨h.nt.1,h.nt.2.1,I t h.lt h.nt.2.2⟩
   nf:=⟨h.nf.1,h.nf.2.1,I fb a0 h.nf.2.2⟩
   ux:=λ k u=>by
    rcases u with e|e|e|e|e
    .exact .inl (h.ux k (.inl e))
    .exact .inl (h.ux k (.inr (.inl e)))
    .exact .inr e
    .exact .inl (h.ux k (.inr (.inr (.inr (.inl e)))))
    .exact .inl (h.ux k (.inr (.inr (.inr (.inr e)))))
   ul:=λ k u=>u.elim (λ e=>zn1 (K k e) a2) (λ e=>Q.lt k e)
   ok:=⟨a1.trans h.ok.lo,by show 50+E.L.length=N;rw[hl];exact h.ok.hi,h.ok.fr,h.ok.v,h.ok.q,h.ok.co,h.ok.dz⟩ }
 .exact u.elim .inl (λ e=>e.imp (O k) (λ e=>e.1))
def TzAt.fmTo(h:TzAt U w t c d M N a fb X S Y s D){E:Int->Bool}(I:Mp w' fb N (gF E))(A:Tch (λ k=>k=fb) w w')(hF:∀x,E x=true->50<=x/\x<N):Tz U w' t c d M N { a with F:=E }/\Tch U w w':=by
 have H:U fb:=h.ux fb (.inr (.inr (.inr (.inr rfl))));refine⟨⟨fb,X,S,Y,s,D,?_⟩,A.mono (λ k _ e=>by rw[e];exact H)⟩;exact{
  box:=by rw[A.block t h.lt h.ne];exact h.box
  cz:=h.cz.tch A (λ k u e=>h.nf.1 (by rw[<-e];exact u)) (λ k u e=>h.nf.2.1 (by rw[<-e];exact u))
  pm:=h.pm.tch A (λ k u e=>h.nf.2.2 (by rw[<-e];exact u))
  fm:=I
  xy:=h.xy
  sy:=h.sy
  nt:=h.nt
  nf:=h.nf
  ux:=h.ux
  ul:=λ k u=>zn1 (h.ul k u) A.size
  ok:=⟨h.ok.lo,h.ok.hi,hF,h.ok.v,h.ok.q,h.ok.co,h.ok.dz⟩ }
def putL(s:Ah.St)(i:Nat)(y:Int):(Ah.put s i y).lo=s.lo/\(Ah.put s i y).L.length=s.L.length:=⟨rfl,by simp[Ah.put]⟩
def takeL(s:Ah.St):(Ah.take s).2.2.lo=s.lo/\(Ah.take s).2.2.L.length=s.L.length:=by unfold Ah.take;split<;>simp
def backL(x:Int)(s:Ah.St):(Ah.back x s).2.lo=s.lo/\(Ah.back x s).2.L.length=s.L.length:=by
 unfold Ah.back;split
 .exact⟨rfl,rfl⟩
 .exact putL _ _ _
def takeIn{s:Ah.St}(h:(Ah.take s).2.1=true):(s.lo:Int)<=(Ah.take s).1/\(Ah.take s).1<s.lo+s.L.length:=by
 unfold Ah.take at *
 split at h
 .cases h
 .rename_i hc;have:=(Ah.first0 hc).1;rw[if_neg hc];simp only;omega
def tzTake(w:World)(H:Tz U w t c d M N a):
 Calls Tryz.prog 145 #[mp M] w λ e w'=>e=.returned (.tuple #[.int .i64 (Ah.take a.A).1,.bool (Ah.take a.A).2.1])/\TzTo U w w' t c d M N { a with A:=(Ah.take a.A).2.2 }:=by
 obtain⟨fb,X,S,Y,s,D,h⟩:=H;refine(zwc9 M a.A Y w h.pm).mono ?_;rintro e w' ⟨rfl,u,E⟩;exact⟨rfl,h.pmTo u E (takeL _).1 (takeL _).2⟩
def tzBack(x:Int)(w:World)(H:Tz U w t c d M N a):
 Calls Tryz.prog 75 #[mp M,.int .i64 x] w λ e w'=>e=.returned (.bool (Ah.back x a.A).1)/\TzTo U w w' t c d M N { a with A:=(Ah.back x a.A).2 }:=by
 obtain⟨fb,X,S,Y,s,D,h⟩:=H;refine(ztq9 M a.A Y x w h.pm).mono ?_;rintro e w' ⟨rfl,u,E⟩;exact⟨rfl,h.pmTo u E (backL _ _).1 (backL _ _).2⟩
def tzFree(w:World)(H:Tz U w t c d M N a):
 Calls Tryz.prog 21 #[mp M] w λ e w'=>e=.returned (.int .i64 (Ah.fre a.A))/\∃q,w'=w.drewN q:=by
 obtain⟨fb,X,S,Y,s,D,h⟩:=H;exact zug9 M a.A Y w h.pm
def zpv9(x:Int)(A:(Lit.int .i64 x).wf=true)(w:World)(H:Tz U w t c d M N a):
 Calls Tryz.prog 76 #[cp c,.int .i64 x] w λ e w'=>e=.returned (.tuple #[])/\TzTo U w w' t c d M N { a with V:=updI a.V x (a.Q x) }:=by
 obtain⟨fb,X,S,Y,s,D,h⟩:=H;refine(zmz9 x w h.cz.ch A).mono ?_;rintro e w' ⟨rfl,u⟩;exact⟨rfl,h.czTo (h.cz.chTo u) ⟨h.ok.lo,h.ok.hi,h.ok.fr,by funext y;show updI a.V x (a.Q x) y=_;rw[zsb9 h.ok.co,h.ok.v,h.ok.q],h.ok.q,h.ok.co.forget x,h.ok.dz⟩ rfl rfl⟩
def tzGet(x:Int)(w:World)(H:Tz U w t c d M N a):
 Calls Tryz.prog 47 #[cp c,.int .i64 x] w λ e w'=>∃u kd ys E,e=.returned (.tuple #[blk kd u,.int .i64 E])/\a.V x=vwB E (kd,ys)/\By ys/\Nw w.heap.size w' u ys/\
  ∃A,Tz A w' t c d M N a/\Tch U w w'/\∀k,A k->U k\/w.heap.size<=k:=by
 obtain⟨fb,X,S,Y,s,D,h⟩:=H;have hN:=h.cz.len;refine(zui9 x w h.cz.ch h.cz.dk h.cz.len).mono ?_;rintro e w' ⟨u,rfl,T,I,K,O,Q,h4⟩;refine⟨u,_,_,_,rfl,by rw[h.ok.v];rfl,?_,T,h.czTo (h.cz.chTo ⟨I,K,O,Q⟩) ⟨h.ok.lo,h.ok.hi,h.ok.fr,by funext y;rw[vw_get h.ok.co,h.ok.v],h.ok.q,h.ok.co.get x,h.ok.dz⟩ rfl rfl⟩;unfold CS.getB;cases hk:kthere D.L.length x with
 | false=>exact λ i=>by simp
 | true=>
  have hx:=zm9.1 hk;simp only[if_true];split
  .rename_i hm;exact(h.cz.ch.ok.may _ hm).2
  .exact zsp9 x (h.cz.dk.has_ok (by omega)).2
def tzPut(x:Int)(n:Nd)(v:Value)(w:World)(H:Tz U w t c d M N a)(Q:50<=x/\x<(N:Int))(O:mayN n=true)(A:Rl n)(hr:Rd .u8 w v (encN n n.ks.length))(hv:∀j,v.ownBlock=some j->¬U j):
 Calls Tryz.prog 27 #[cp c,.int .i64 x,blk (kdN n.lf) v] w λ e w'=>e=.returned (.int .i64 0)/\TzTo U w w' t c d M N { a with V:=updI a.V x (0,n) }:=by
 obtain⟨fb,X,S,Y,s,D,h⟩:=H;have I:=h.cz.len;have a0:=h.cz.ch.n2;have u:s.putE N x (kdN n.lf) (encN n n.ks.length)=0:=by
  unfold CS.putE;rw[if_pos (zm9.2 Q),if_pos];unfold mayK;have:=enc_le A (zn6 _);have T:kdN n.lf=1\/kdN n.lf=2:=by cases n.lf<;>simp[kdN]
  simp only[zo1];refine⟨by omega,by omega,by omega,by omega,this⟩
 refine(zvk9 x (kdN n.lf) v _ w h.cz.ch h.cz.dk h.cz.len hr (enc_by A _ (zn6 _)) (λ j K _ e=>hv j K (h.ux j (.inl e)))).mono ?_;rintro e w' ⟨rfl,E⟩;rw[u];refine⟨rfl,h.czTo (h.cz.chTo E) ⟨h.ok.lo,h.ok.hi,h.ok.fr,?_,h.ok.q,h.ok.co.put _ _ _,h.ok.dz⟩ rfl rfl⟩;rw[<-I]at u |-
 funext y;rw[vw_put h.ok.co _ _ _ u,vwB_ok (zxg9 O A)];show updI a.V x (0,n) y=_;rw[h.ok.v]
end
end Go.Proofs.YtcmjlibndmneiaaGreat
namespace Go.Proofs.YtcmjlibndmneiaaGreat
open Go.RowKit Go.Maps Pl
abbrev tp(t:Nat):Value:=.pointer (some ⟨t,0,none⟩)
def TzU(U:Nat->Prop)(w w':World)(t c d M N:Nat)(a:AS)(v1 v2 v3:Value):Prop:=
 ∃U',Tz U' w' t c d M N a/\Tch U w w'/\(∀k,U' k->U k\/w.heap.size<=k)/\∀j,(v1.ownBlock=some j\/v2.ownBlock=some j\/v3.ownBlock=some j)->¬U' j
def zok9(B:Nat)(w:World):Ow3 B w noneN (.slice none 0 0) (.slice none 0 0) (.slice none 0 0):=⟨zr9 _ _ _,zr9 _ _ _,zr9 _ _ _,λ j e=>by cases e⟩
def ReadT(U:Nat->Prop)(w:World)(t c d M N:Nat)(a:AS)(r:Int×Nd)(e:Ending)(w':World):Prop:=
 ∃v1 v2 v3,e=.returned (.tuple #[nod r.2.lf v1 v2 v3,.int .i64 r.1])/\Ow3 w.heap.size w' r.2 v1 v2 v3/\TzU U w w' t c d M N a v1 v2 v3
def zkc9{U:Nat->Prop}{t c d M N:Nat}{a:AS}(x:Int)(lv:Nat)(w:World)(H:Tz U w t c d M N a):
 Calls Tryz.prog 106 #[tp t,.int .i64 x,.int .i64 (lv:Int)] w λ e w'=>ReadT U w t c d M N a (look a x lv) e w':=by
 have HT:=za0 H;obtain⟨W1,a4⟩:=exN (w.alloc (.cells #[.bool false,.slice none 0 0,.slice none 0 0,.slice none 0 0] 93));have b1:Below w.heap.size w W1:=by rw[<-a4];exact za9 _ _
 have B1:=za0 b1;have s1:Hid (W1.heap.size=w.heap.size+1):=by show _=_;rw[<-a4];simp
 have O:Hid (Nb W1 93 w.heap.size false (.slice none 0 0) (.slice none 0 0) (.slice none 0 0)):=by rw[<-a4];exact nb_new _ _ _ _ _ _
 have T1:=za0 (H.below b1);have ac:=za0 H.ul;have c0:=T1.o.c0;have a0:Hid (∀(W:World)(T:Int)(U':Nat->Prop),look a x lv=(T,noneN)->Below W1.heap.size W W->Nb W 93 w.heap.size false (.slice none 0 0) (.slice none 0 0) (.slice none 0 0)->Tz U' W t c d M N a->Tch U w W->(∀k,U' k->U k\/W1.heap.size<=k)->
  ∃K,((((W.setCell ⟨w.heap.size,0,none⟩ (.bool false)).setCell ⟨w.heap.size,1,none⟩ (.slice none 0 0)).setCell ⟨w.heap.size,2,none⟩ (.slice none 0 0)).setCell ⟨w.heap.size,3,none⟩ (.slice none 0 0)=K)/\Nb K 93 w.heap.size false (.slice none 0 0) (.slice none 0 0) (.slice none 0 0)/\ReadT U w t c d M N a (look a x lv) (.returned (.tuple #[nod false (.slice none 0 0) (.slice none 0 0) (.slice none 0 0),.int .i64 T])) K):=λ W T U' hl _ Y hT av hU=>by
  have tt:=zl9 W w.heap.size (.bool false) (.slice none 0 0) (.slice none 0 0) (.slice none 0 0);have hn:∀k,U' k->k≠w.heap.size:=λ k I e=>by
   rcases hU k I with q|q
   .have:=ac.o k q;omega
   .have:=s1.o;omega
  refine⟨_,rfl,Y.all _ _ _ _,?_⟩;rw[hl];refine⟨_,_,_,rfl,zok9 _ _,U',hT.tch tt hn,av.trans tt (λ k I e=>by omega),λ k I=>(hU k I).imp id (λ e=>by have:=s1.o;omega),λ j hj=>?_⟩;rcases hj with e|e|e<;>cases e
 clear H b1;by_cases a8:16<lv
 .have g1:decide ((lv:Int) > 16)=true:=by rw[zm0];omega
  have g2:decide ((16:Int)<(lv:Int))=true:=by rw[zm0];omega
  have g3:decide (16<lv)=true:=by rw[zm0];omega
  have HL:Hid (look a x lv=(7,noneN)):=if_pos a8;obtain⟨K,E,Y,hf⟩:=a0.o W1 7 U HL.o (Below.refl _ _) O.o T1.o (Tch.of_below B1.o) (λ k I=>.inl I);have HX:=za0 Y;have HF:=za0 hf;have a6:=za0 E;have q0:=O.o.c0;have q1:=O.o.c1;have q2:=O.o.c2;have q3:=O.o.c3;have f0:=O.o.fz 0;have f1:=O.o.fz 1;have f2:=O.o.fz 2;have f3:=O.o.fz 3;clear E Y hf a0 a8
  go_enter Tryz.func106,Tryz.ntmps106
  go_wp2_with fail;rw[a6.o];refine bodyPost_ret (v:=.tuple #[nod false (.slice none 0 0) (.slice none 0 0) (.slice none 0 0),.int .i64 7]) (ze9 (p:=6) (ty:=93) rfl _ _ _ w.heap.size _ _ rfl HX.o.load rfl) rfl ?_;exact HF.o
 .have g1:decide ((lv:Int) > 16)=false:=by rw[zn4];omega
  have g2:decide ((16:Int)<(lv:Int))=false:=by rw[zn4];omega
  have g3:decide (16<lv)=false:=by rw[zn4];omega
  have HL:Hid (look a x lv=a.V x):=if_neg a8;have HG:=za0 (tzGet x W1 T1.o);clear a8
  go_enter Tryz.func106,Tryz.ntmps106
  go_wp2_with fail;refine HG.o.mono ?_;rintro e w3 ⟨u,kd,ys,T,rfl,hV,am,af,U',ae,ab,al⟩;obtain⟨ua,um,uc,rfl⟩:∃a m cap,u=.slice a m cap:=by obtain⟨a,c,e,_⟩:=af.rd;exact⟨_,_,_,e⟩
  have HV:=za0 hV;have HY:=za0 am;have ap:=za0 ae;have a7:=za0 al;have ao:=(Tch.of_below (S:=U) B1.o).trans ab (λ k I e=>e);obtain⟨W4,a9⟩:=exN (w3.alloc (.cells #[.int .i64 kd,.slice ua um uc] 63));have b4:Below w3.heap.size w3 W4:=by rw[<-a9];exact za9 _ _
  have K4:Hid (Kb W4 w3.heap.size kd (.slice ua um uc)):=by rw[<-a9];exact kb_new _ _ _
  have Q:=za0 ((O.o.tch ab (λ e=>by have:=ac.o _ e;omega)).below b4);have T4:=za0 (ae.below b4);have ag:=za0 (ao.trans (Tch.of_below (S:=U) b4) (λ _ _ e=>e));have R4:=za0 (af.rd.below b4);have S4:=za0 (zn2 ab.size b4.size);clear hV am af ae ab al ao b4 HG c0 ap;unfold blk;by_cases aa:T=0
  .subst aa;have HN:=za0 (zun9 kd _ ys W4 R4.o HY.o);unfold blN at HN;have k0:=K4.o.c0;have k1:=K4.o.c1;go_wp2_with fail;refine HN.o.mono ?_;rintro e w5 ⟨hr,b5⟩;have A:=Q.o.below b5;have s0:=A.c0;have aw:=A.c1;have s2:=A.c2;have s3:=A.c3;have f0:=A.fz 0;have f1:=A.fz 1;have f2:=A.fz 2;have f3:=A.fz 3;have ah:=za0 (ag.o.trans (Tch.of_below (S:=U) b5) (λ _ _ e=>e));have T5:=za0 (T4.o.below b5);rcases hr with⟨n,v1,v2,v3,hg,rfl,ho⟩|⟨hg,rfl⟩
   .have a5:Hid (look a x lv=(0,n)):=by show _=_;rw[HL.o,HV.o];exact vwB_ok hg
    obtain⟨a1,c1,a2,c2,a3,c3,rfl,rfl,rfl,_,_,_,_⟩:=ho.nn.o;obtain⟨L1,ai⟩:=exH n.ks.length;obtain⟨L2,aj⟩:=exH n.vs.length;obtain⟨L3,ak⟩:=exH n.kd.length;rw[ai.o,aj.o,ak.o]at ho;rw[ai.o,aj.o,ak.o];obtain⟨lf,an⟩:=exH n.lf;rw[an.o];obtain⟨K,E⟩:=exH ((((w5.setCell ⟨w.heap.size,0,none⟩ (.bool lf)).setCell ⟨w.heap.size,1,none⟩ (.slice a1 L1 c1)).setCell ⟨w.heap.size,2,none⟩ (.slice a2 L2 c2)).setCell ⟨w.heap.size,3,none⟩ (.slice a3 L3 c3));(have YA:Hid (Nb K 93 w.heap.size lf (.slice a1 L1 c1) (.slice a2 L2 c2) (.slice a3 L3 c3)):=by rw[<-E.o];exact A.all _ _ _ _);(have tA:Tch (λ j=>j=w.heap.size) w5 K:=by rw[<-E.o];exact zl9 _ _ _ _ _ _);have au:=s1.o;have ar:=S4.o;have ad:=ho.fr
    have HF:Hid (ReadT U w t c d M N a (look a x lv) (.returned (.tuple #[nod lf (.slice a1 L1 c1) (.slice a2 L2 c2) (.slice a3 L3 c3),.int .i64 0])) K):=by
     show ReadT _ _ _ _ _ _ _ _ _ _ _;rw[a5.o];refine⟨_,_,_,by rw[an.o],(ho.tch tA (λ j hj e=>by have:=ad j hj;omega)).less (by omega),U',T5.o.tch tA (λ k I e=>?_),ah.o.trans tA (λ k I e=>by omega),λ k I=>(a7.o k I).imp id (λ e=>by omega),λ j hj e=>?_⟩
     .rcases a7.o k I with q|q
      .have:=ac.o k q;omega
      .omega
     .have:=ad j hj;have:=T4.o.ul j e;omega
    clear hg ho tA au ar ad A b5 k0 k1 HN a4 a9 a0;unfold nod;go_wp2_with fail;rw[E.o];refine bodyPost_ret (v:=.tuple #[nod lf (.slice a1 L1 c1) (.slice a2 L2 c2) (.slice a3 L3 c3),.int .i64 0]) (ze9 (p:=6) (ty:=93) rfl _ _ _ w.heap.size _ _ rfl YA.o.load rfl) rfl ?_;exact HF.o
   .have a5:Hid (look a x lv=(7,noneN)):=by show _=_;rw[HL.o,HV.o];exact vwB_no hg
    obtain⟨K,E,Y,hf⟩:=a0.o w5 7 U' a5.o (Below.refl _ _) A T5.o ah.o a7.o;have HX:=za0 Y;have HF:=za0 hf;have a6:=za0 E;clear E Y hf a0 A b5 k0 k1 HN a4 a9 hg;unfold nod;go_wp2_with fail;rw[a6.o];refine bodyPost_ret (v:=.tuple #[nod false (.slice none 0 0) (.slice none 0 0) (.slice none 0 0),.int .i64 7]) (ze9 (p:=6) (ty:=93) rfl _ _ _ w.heap.size _ _ rfl HX.o.load rfl) rfl ?_;exact HF.o
  .have a5:Hid (look a x lv=(T,noneN)):=by show _=_;rw[HL.o,HV.o];exact zko9 aa _
   (have aq:(T==0)=false:=by rw[zl0];exact aa);(have ax:(T != 0)=true:=by rw[bne,aq];rfl);obtain⟨K,E,Y,hf⟩:=a0.o W4 T U' a5.o (Below.refl _ _) Q.o T4.o ag.o a7.o;have HX:=za0 Y;have HF:=za0 hf;have a6:=za0 E;have s0:=Q.o.c0;have aw:=Q.o.c1;have s2:=Q.o.c2;have s3:=Q.o.c3;have f0:=Q.o.fz 0;have f1:=Q.o.fz 1;have f2:=Q.o.fz 2;have f3:=Q.o.fz 3;clear E Y hf a0 aa a4;go_wp2_with fail;rw[a6.o];refine bodyPost_ret (v:=.tuple #[nod false (.slice none 0 0) (.slice none 0 0) (.slice none 0 0),.int .i64 T]) (ze9 (p:=6) (ty:=93) rfl _ _ _ w.heap.size _ _ rfl HX.o.load rfl) rfl ?_;exact HF.o
end Go.Proofs.YtcmjlibndmneiaaGreat
namespace Go.Proofs.YtcmjlibndmneiaaGreat
open Go.RowKit Go.Maps Go.Sort Go.Shelf Pl
section
variable {ops:Array Oper} {rest:List Oper} {o:Oper} {a:Act} {w:World} {Q:Exit->Act->World->Prop}
def zfj9(O:o.guard=none)(m x v:Operand)(ho:o.op=Op.mapUpdate 88 m x v)(fb n:Nat)(F:Int->Bool)(z:Int)(T:a.eval m=.map (some fb))(hx:a.eval x=.int .i64 z)(hv:a.eval v=.agg #[])(I:Mp w fb n (gF F))(u:0<=z)(hz:z<n)(Y:n<=65536)
 (h:∀w',Mp w' fb n (gF (updI F z true))->Tch (λ k=>k=fb) w w'->wpList Tryz.prog ops Q rest (a.put o.dst undef) w'):wpList Tryz.prog ops Q (o::rest) a w:=by
 obtain⟨w',hr,A,E⟩:=I.putT u hz Y;refine wpList_plain O λ K H=>?_;unfold Oper.wp;simp[execOp,ho,T,hx,hv,hr,Result.andThen];exact H _ _ (h w' A E)
def zly9(H:o.guard=none)(m x:Operand)(I:o.op=.call { callee:=.builtin .delete,args:=#[m,x],argTypes:=#[88,3] })(fb n:Nat)(F:Int->Bool)(z:Int)(hm:a.eval m=.map (some fb))(hx:a.eval x=.int .i64 z)(hM:Mp w fb n (gF F))(hz:(Lit.int .i64 z).wf=true)
 (h:∀w',Mp w' fb n (gF (updI F z false))->Tch (λ k=>k=fb) w w'->wpList Tryz.prog ops Q rest (a.put o.dst (.tuple #[])) w'):wpList Tryz.prog ops Q (o::rest) a w:=by
 obtain⟨w',hr,u,A⟩:=hM.delT hz o.type;refine wpList_plain H λ K E=>?_;unfold Oper.wp;simp[execOp,I,resolve,invoke,builtin,hm,hx,hr,Result.andThen];exact E _ _ (h w' u A)
def zoz9{w:World}{vb n:Nat}{g:Nat->Option Value}(h:Mp w vb n g)(ty:TypeId):∃w',(Builtin.clear_ #[88] ty #[.map (some vb)]).run Tryz.prog w=.ok (.tuple #[]) w'/\Mp w' vb n (λ _=>none)/\Tch (λ k=>k=vb) w w':=by
 obtain⟨I,u,A,F,_⟩:=h;refine⟨{ w with heap:=w.heap.setIfInBounds vb (.map #[] u) },?_,?_,?_⟩
 .simp[Builtin.clear_,run_underlying Tryz.underlying88,MapKept.run_getObj_map A,MapKept.run_setObj_map _ A,Result.andThen]
 .have H:({ w with heap:=w.heap.setIfInBounds vb (.map #[] u) }:World).heap[vb]?=some (.map #[] u):=by have:=(zd0.1 A).1;simp[this]
  refine mp_of (m:=0) (D:=.map []) ⟨#[],u,H,⟨by simp,MapKept.stamped_empty u,by simp⟩,zn6 _,rfl⟩ (zcl9 (λ _ _=>rfl)).symm
 .refine⟨rfl,rfl,rfl,by simp,λ k K E=>?_⟩;show(w.heap.setIfInBounds vb (.map #[] u))[k]?=w.heap[k]?;rw[Array.getElem?_setIfInBounds_ne (λ e=>E e.symm)]
def zhx9(H:o.guard=none)(x:Operand)(I:o.op=.call { callee:=.builtin .clear,args:=#[x],argTypes:=#[88] })
 (vb n:Nat) (g:Nat->Option Value) (hx:a.eval x=.map (some vb)) (hM:Mp w vb n g) (h:∀w',Mp w' vb n (λ _=>none)->Tch (λ k=>k=vb) w w'->wpList Tryz.prog ops Q rest (a.put o.dst (.tuple #[])) w'):wpList Tryz.prog ops Q (o::rest) a w:=by
 obtain⟨w',hr,u,A⟩:=zoz9 hM o.type;refine wpList_plain H λ K E=>?_;unfold Oper.wp;simp[execOp,I,resolve,invoke,builtin,hx,hr,Result.andThen];exact E _ _ (h w' u A)
end
section
variable {U:Nat->Prop} {t c d M N:Nat} {a:AS}
def zqz9(x:Int)(A:(Lit.int .i64 x).wf=true)(w:World)(H:Tz U w t c d M N a):
 Calls Tryz.prog 178 #[tp t,.int .i64 x] w λ e w'=>e=.returned (.bool (a.F x))/\Below w.heap.size w w':=by
 obtain⟨fb,O,u,_⟩:=H.map;have E:=u.lookT (λ y K=>by have:=H.fr y K;omega) A;obtain⟨f,I⟩:=exH (a.F x);rw[I.o]at E |-
 clear H u A
 go_enter Tryz.func178,Tryz.ntmps178
 go_wp2_with fail;go_ret;exact⟨rfl,za9 _ _⟩
def zyd9(c M N:Nat)(w:World):Calls Tryz.prog 30 #[cp c,mp M] w λ e w'=>∃t fb,e=.returned (.tuple #[tp t,.int .i64 0])/\w'.heap[t]?=some (.cells #[cp c,mp M,.map (some fb)] 111 (0,0))/\Mp w' fb N (gF (λ _=>false))/\w.heap.size<=t/\w.heap.size<=fb/\Below w.heap.size w w':=by
 have E:=@run_makeMap Tryz.prog
 go_enter Tryz.func30,Tryz.ntmps30
 go_wp2_with fail;go_ret2;have u:Mp (w.alloc (.map #[] 0)) w.heap.size N (λ _=>none):=mp_of (World.ownsMap_made w _ _ _) (by rw[zcl9 (λ _ _=>rfl)]);have A:(w.alloc (.map #[] 0)).heap.size=w.heap.size+1:=by simp
 refine⟨w.heap.size+1,w.heap.size,by first|rfl|simp,by rw[<-A];exact heap_alloc_new _ _,?_,by omega,zn6 _,((Below.refl _ _).alloc (zn6 _) _).alloc (by simp) _⟩;exact Mp.congr (g:=λ _=>none) (u.tch (S:=λ _=>False) (Tch.of_below ((Below.refl _ _).alloc (zn6 _) _)) (λ e=>e)) (λ i _=>by simp[gF])
def zqe9(w:World)(H:Tz U w t c d M N a):
 Calls Tryz.prog 22 #[tp t] w λ e w'=>e=.returned (.tuple #[])/\Tz U w' t c d M N { a with F:=λ _=>false }/\Tch U w w':=by
 obtain⟨fb,X,S,Y,s,D,h⟩:=H;have I:=za0 h;have Q:=h.c2;have K:=za0 h.fm;clear h
 go_enter Tryz.func22,Tryz.ntmps22
 go_wp2_with(with_reducible (show wpList _ _ _ (Oper.mk _ (Op.call _) _ _ _ _::_) _ _);refine zhx9 rfl (.tmp 5) rfl fb N (gF a.F) rfl K.o ?_)
 intro A m1 u;have E:Hid (Tz U A t c d M N { a with F:=λ _=>false }/\Tch U w A):=I.o.fmTo (m1.congr (λ i _=>by simp[gF])) u (λ x O=>by cases O);clear m1 u;go_wp2_with fail
 go_end0
 exact⟨rfl,E.o⟩
def zay9{x:Int}(u:0<=x)(A:x<=65535):(Lit.int .i64 x).wf=true:=by simp[Lit.wf,IntKind.min,IntKind.max,IntKind.signed,IntKind.bits];omega
def zxi9(a:AS)(l:List Int)(x:Int):a.gos (l++[x])=(a.gos l).go x:=by unfold AS.gos;rw[List.foldl_append];rfl
def zgb9(l:List Int)(hl:∀x∈l,(Lit.int .i64 x).wf=true)(v:Value)(w:World)(H:Tz U w t c d M N a)(hr:RdV w v (nums l))(hv:∀j,v.ownBlock=some j->¬U j)(aq:l.length<=1000000000000):
 Calls Tryz.prog 58 #[tp t,v] w λ e w'=>e=.returned (.tuple #[])/\TzTo U w w' t c d M N (a.gos l):=by
 obtain⟨da,dc,ag,af,ao,ap⟩:=hr.len;rw[zf9]at ag af;subst ag;have HR:=za0 hr;have HV:=za0 hv;have HT:=za0 H;have HL:=za0 hl;obtain⟨k,hk⟩:=exN l.length;have HK:=za0 hk;rw[hk]at HR HV aq |-
 clear hr hv H hl hk af ao ap
 go_enter Tryz.func58,Tryz.ntmps58
 go_wp2_with fail
 go_loopw [8] (λ kv wr=>∃(j:Nat),j<=k/\kv=.int .i64 j/\Hid (TzTo U w wr t c d M N (a.gos (l.take j)))) (λ kv _=>k-(intOf kv).toNat)
 case atStart=>exact⟨0,zn7 _,rfl,by rw[List.take_zero];exact HT.o.to⟩
 case round=>
  obtain⟨j,hj,rfl,E⟩:=hrel;by_cases a5:j<k
  .have av:(j:Int)<(k:Int):=by omega
   (have au:(0:Int)<=(j:Int):=by omega);obtain⟨U1,u,a6,ac⟩:=E.o;(have O:j<l.length:=by rw[HK.o];exact a5);obtain⟨x,Q⟩:=exN (l[j]);(have ah:x∈l:=by rw[<-Q];exact za1 O);have HX:Hid ((Lit.int .i64 x).wf=true):=HL.o x ah;(have al:Hid (l.take (j+1)=l.take j++[x]):=by show _=_;rw[List.take_add_one,zc0 O,Q];rfl);obtain⟨I,dO,rfl,a4⟩:=HR.o.at (i:=j) (c:=.int .i64 x) (by rw[nums,zd1,zc0 O,Q];rfl);have ck:wr.cell? ⟨I,dO+j,none⟩=some (.int .i64 x):=by rw[a6.cell (p:=⟨I,dO+j,none⟩) (ze0 w ⟨I,dO+j,none⟩ a4) (HV.o I rfl)];exact a4
   obtain⟨a1,a3⟩:=exN (a.gos (l.take j));rw[a3]at u;have ak:=za0 a3;have ar:=za0 u;have H1:Hid (Tch U w wr/\∀k,U1 k->U k\/w.heap.size<=k):=⟨a6,ac⟩
   have c1:=u.c1;have a7:=za0 (tzBack x wr u);clear u a6 ac a3 a4 Q ah E O;go_wp2_with fail;refine a7.o.mono ?_;rintro e w2 ⟨rfl,U2,a2,ai,ad⟩;have c0:=a2.c0;have a8:=za0 (zpv9 x HX.o w2 a2);have aa:Hid (Tch U1 wr w2/\∀k,U2 k->U1 k\/wr.heap.size<=k):=⟨ai,ad⟩
   clear a2 ai ad a7 c1 ck;obtain⟨bb,an⟩:=exH ((Ah.back x a1.A).1);rw[an.o];go_wp2_with fail;refine a8.o.mono ?_;rintro e w3 ⟨rfl,U3,am,aj,ae⟩;have ab:Hid (Tch U2 w2 w3/\∀k,U3 k->U2 k\/w2.heap.size<=k):=⟨aj,ae⟩
   obtain⟨fb,X,S,Y,s,D,K⟩:=am;have a9:=za0 K;have c2:=K.c2;have HM:=za0 K.fm;clear K aj ae a8 c0;go_wp2_with(with_reducible (show wpList _ _ _ (Oper.mk _ (Op.call _) _ _ _ _::_) _ _);refine zly9 rfl (.tmp 27) (.tmp 28) rfl fb N _ x rfl rfl HM.o HX.o ?_)
   intro w4 m4 t4;have a0:Hid (TzTo U w w4 t c d M N (a.gos (l.take (j+1)))):=by
    obtain⟨q1,q2⟩:=a9.o.fmTo m4 t4 (λ y T=>by
     unfold updI at T;split at T
     .cases T
     .exact a9.o.ok.fr y T)
    show TzTo _ _ _ _ _ _ _ _ _;rw[al.o,zxi9,ak.o];have z4:TzTo U3 w3 w4 t c d M N (a1.go x):=⟨U3,q1,q2,λ _ e=>.inl e⟩
    exact TzTo.after H1.o.1 H1.o.2 (TzTo.after aa.o.1 aa.o.2 (TzTo.after ab.o.1 ab.o.2 z4))
   clear m4 t4 c2;go_wp2_with fail;exact⟨⟨j+1,by omega,by rfl,a0⟩,by simp[intOf];omega⟩
  .have e1:decide (j<k)=false:=by rw[zn4];exact a5
   (have ej:j=k:=by omega);have a0:Hid (TzTo U w wr t c d M N (a.gos l)):=by have:=E.o;rw[ej,<-HK.o,List.take_length]at this;exact this
   clear ej E a5 hj;go_wp2_with fail
   go_end0
   exact⟨rfl,a0.o⟩
end
end Go.Proofs.YtcmjlibndmneiaaGreat
namespace Go.Proofs.YtcmjlibndmneiaaGreat
open Go.RowKit
def fl_is{D:DS}(u:D.c=false):D.fl={ D.tick with L:=(List.range D.L.length).map D.has,V:=λ _=>[] }:=by unfold DS.fl;exact if_pos (by unfold DS.can;rw[u];rfl)
def pw_is{D:DS}(u:∀i,D.V i=[]):D.pw []={ D with c:=false,l:=0 }:=by
 unfold DS.pw;have e:D.dirty=[]:=by unfold DS.dirty;rw[List.filter_eq_nil_iff];intro i _;simp[u i]
 rw[e];rfl
def dFl(s:CS)(D:DS):DS:=((s.flushD D).fl).pw []
def zqm9{s:CS}{D:DS}(u:D.c=false):(∀i,(dFl s D).V i=[])/\(dFl s D).c=false/\(dFl s D).L.length=D.L.length/\∀n,n<D.L.length->(dFl s D).has n=if n∈s.d then sec (n:Int) (s.B n).1 (s.B n).2 else D.has n:=by
 have A:(s.flushD D).c=false:=(zdn9 s.B 0 s.d D u).1;have E:(s.flushD D).L.length=D.L.length:=congrArg List.length (flD_L D s.B s.d);have e:dFl s D={ ({ (s.flushD D).tick with L:=(List.range (s.flushD D).L.length).map (s.flushD D).has,V:=λ _=>[] }:DS)with c:=false,l:=0 }:=by unfold dFl;rw[fl_is A,pw_is (λ i=>rfl)]
 rw[e];refine⟨λ i=>rfl,rfl,by simp[E],λ n H=>?_⟩;show([]:List (List Int)).getLastD (((List.range (s.flushD D).L.length).map (s.flushD D).has).getD n [])=_;rw[zn3,zd1,List.getElem?_range (by omega)];exact(zdn9 s.B n s.d D u).2
def zqs9{N:Nat}{a:AS}{s:CS}{D:DS}(h:TOk N a s D)(E:COk N s)(T:D.L.length=N):TOk N { a with Q:=a.V } s.flush (dFl s D):=by
 obtain⟨f1,f2,H,I⟩:=zqm9 (s:=s) h.dz.2;have hB:s.flush.B=s.B:=flS_B _ _;have hd:∀n,n∉s.flush.d:=λ n e=>by have:=(flS_d s s.d).1 e;exact this.2 this.1
 have K:Coh s.flush (dFl s D):=λ n hn=>by
  rw[hB];rcases flS_c s s.d hn with e|e
  .have A:=(E.may n (.inl e)).1;rw[I n (by rw[T];exact(E.dl n e).2),if_pos e];exact⟨(zfq9 A).1,(zfq9 A).2.symm⟩
  .rw[I n (by rw[T];exact(E.cl n e).2),if_neg (λ q=>E.ap n q e)];exact h.co n e
 have Y:∀x,vwD (dFl s D) x=a.V x:=λ x=>by
  rw[h.v];by_cases u:kthere D.L.length x=true
  .have hx:=zm9.1 u;have O:=I x.toNat (by omega);by_cases e:x.toNat∈s.d
   .rw[zeg9 u e];unfold vwD;rw[H,if_pos u,O,if_pos e];have A:=(E.may _ (.inl e)).1;rw[zbj9 u]at A |-
    rw[(zfq9 A).1,(zfq9 A).2]
   .rw[zbz9 h.co (.inl e)];unfold vwD;rw[H,if_pos u,if_pos u,O,if_neg e]
  .rw[zbz9 h.co (.inr (by simpa using u))];unfold vwD;rw[H,if_neg u,if_neg u]
 exact⟨h.lo,h.hi,h.fr,by funext x;rw[zbz9 K (.inl (hd _)),Y],by funext x;rw[Y],K,f1,f2⟩
end Go.Proofs.YtcmjlibndmneiaaGreat
namespace Go.Proofs.YtcmjlibndmneiaaGreat
open Go.RowKit Go.Maps Go.Sort Go.Shelf Pl
def freshN(N:Nat)(F:Int->Bool):List Nat:=(List.range N).filter λ i=>F (i:Int)
def freshL(N:Nat)(F:Int->Bool):List Int:=(freshN N F).map Int.ofNat
def zlb9(N:Nat)(F:Int->Bool):intKeys (Dm N (gF F))=freshL N F:=by rw[zdr9];unfold freshL freshN;congr 1;refine List.filter_congr λ i u=>?_;unfold gF;cases F (i:Int)<;>simp
def zgz9(N:Nat)(F:Int->Bool):(freshL N F).Pairwise (λ a b=>a<b):=by unfold freshL;rw[List.pairwise_map];refine List.Pairwise.filter _ (List.Pairwise.imp (fun{a b} (h:a<b)=>?_) List.pairwise_lt_range);exact Int.ofNat_lt.2 h
def zna9(N:Nat)(F:Int->Bool):(freshL N F).length<=N:=by unfold freshL freshN;have:=List.length_filter_le (λ i:Nat=>F (i:Int)) (List.range N);simpa using this
def zgy9{N:Nat}{F:Int->Bool}{x:Int}:x∈freshL N F↔0<=x/\x<N/\F x=true:=by
 unfold freshL freshN;rw[List.mem_map];constructor
 .rintro⟨i,A,rfl⟩;have:=List.mem_filter.1 A;refine⟨Int.natCast_nonneg _,?_,this.2⟩;have:=List.mem_range.1 this.1;exact Int.ofNat_lt.2 this
 .rintro⟨E,H,u⟩;refine⟨x.toNat,List.mem_filter.2 ⟨List.mem_range.2 (by omega),?_⟩,by show((x.toNat:Nat):Int)=x;omega⟩;rw[show((x.toNat:Nat):Int)=x by omega];exact u
def zls9{u l:List Int}(H:l.Pairwise (λ a b=>a<=b))(h:u.Perm l):u.mergeSort (λ x y=>decide (x<=y))=l:=by
 have K:∀a b c:Int,decide (a<=b)=true->decide (b<=c)=true->decide (a<=c)=true:=λ a b c A E=>by simp only[zo1]at *;omega
 have I:∀a b:Int,(decide (a<=b)||decide (b<=a))=true:=λ a b=>by simp only[Bool.or_eq_true,zo1];omega
 refine List.Perm.eq_of_pairwise (le:=λ a b=>decide (a<=b)=true) (λ a b _ _ A E=>by simp only[zo1]at A E;omega) (List.pairwise_mergeSort K I u) (H.imp fun{a b} h=>by simpa using h) ((List.mergeSort_perm u _).trans h)
section
variable {U:Nat->Prop} {t c d M N:Nat} {a:AS}
def zqt9(w:World)(H:Tz U w t c d M N a):
 Calls Tryz.prog 25 #[tp t] w λ e w'=>∃v,e=.returned v/\OwnsK w' v (freshL N a.F)/\Below w.heap.size w w'/\∀k,v.ownBlock=some k->w.heap.size<=k:=by
 obtain⟨Y,c2,A,_⟩:=H.map;have HP:Hid (intKeys (Dm N (gF a.F))=freshL N a.F):=zlb9 _ _;have a4:=zjh9 N (gF a.F);have n2:=H.n2;obtain⟨I,u⟩:=exN (Dm N (gF a.F));unfold Mp at A;rw[u]at HP A a4;clear H u;refine(callsIn_wide (n:=6)).1 ?_;have a1:=A.lt;have a3:SeqGives Fence.wide 2 Tryz.prog 87 #[.pointer (some ⟨w.heap.size,0,none⟩)] encZ (λ T=>T.Perm (intKeys I)) (Maps.size I) (w.alloc (.cells #[.map (some Y)] 88)):=
  AnyZI.keys_gives (ρ:=Tryz.keysT_ren) { Tryz.keysT with } Fence.wide _ trivial rfl (by omega) w.heap.size Y N I _ (by simp) (by simp) (by
   obtain⟨es,a0,O,Ft,hs,u⟩:=A;exact⟨es,a0,(Below.heap_alloc _ _ Y a1).trans O,Ft,hs,u⟩)
 have cK:∀E W,CallsIn Fence.wide 5 Tryz.prog 57 #[.map E] W λ e w'=>e=.returned (.func (.func 87) #[] #[.pointer (some ⟨W.heap.size,0,none⟩)])/\w'=W.alloc (.cells #[.map E] 88):=λ E W=>AnyZI.keys_in Tryz.keysT Fence.wide 5 trivial rfl E W;have cS:=AnyZI.sorted_in Tryz.sortedA Fence.wide 5 trivial trivial trivial trivial rfl (by omega) (Tryz.sortsA _) (enters_of Tryz.func66 (by kernel_rfl) rfl) 87 #[.pointer (some ⟨w.heap.size,0,none⟩)] trivial (enters_of Tryz.func87 (by kernel_rfl) rfl) _ _ (by unfold maxLen;omega) (by omega) _ a3;change CallsIn _ _ Tryz.prog 56 _ _ _ at cS;have a5:Fence.wide.fn 57:=trivial;have a6:Fence.wide.fn 56:=trivial
 refine callsIn_of_wp Tryz.func25 rfl trivial ?_ rfl;simp only[Tryz.ntmps25,List.size_toArray,zk0,List.length_nil,Nat.reduceAdd,Nat.reduceSub,Array.replicate_succ,Array.replicate_zero,List.push_toArray,List.append_toArray,List.nil_append,List.cons_append]
 gi_wp2_with (first
  | (gi_at_call 57;refine(cK _ _).mono ?_;rintro e w' ⟨rfl,rfl⟩)
  | (gi_at_call 56;refine cS.mono ?_;rintro e w' ⟨v,T,rfl,K,Q,a7,O⟩))
 go_ret;rw[HP.o]at K;have h1:=zls9 ((zgz9 N a.F).imp (λ h=>Int.le_of_lt h)) K;have hl:T.length=(freshL N a.F).length:=K.length_eq;rw[h1,hl]at Q;have a2:=Q.lt;refine⟨v,rfl,ownsRow_base_a Q (zn7 _),((Below.refl _ w).alloc (zn6 _) _).trans (O.mono (by simp)),λ k hk=>?_⟩;have:=(a2 k hk).1;simp at this;omega
def zwf9(w:World)(H:Tz U w t c d M N a):
 Calls Tryz.prog 26 #[tp t] w λ e w'=>e=.returned (.tuple #[])/\TzTo U w w' t c d M N (a.gos (freshL N a.F)):=by
 have E:=za0 (zqt9 w H);have u:=za0 H;clear H
 go_enter Tryz.func26,Tryz.ntmps26
 go_wp2_with fail;refine E.o.mono ?_;rintro e w1 ⟨v,rfl,T,A,Q⟩;have K:=u.o.below A;have hN:=u.o.n2;have hl:=zna9 N a.F;have I:=za0 (zgb9 (freshL N a.F) (λ x hx=>by have:=zgy9.1 hx;exact zay9 (by omega) (by omega)) v w1 K (zjz9 T.rd) (λ j hj e=>by have:=Q j hj;have:=u.o.ul j e;omega) (by omega));have Y:=za0 A;clear T A Q K E hN hl;go_wp2_with fail;refine I.o.mono ?_;rintro e w2 ⟨rfl,O⟩;have HZ:=za0 (TzTo.after (Tch.of_below Y.o) (λ k e=>.inl e) O);clear O I;go_wp2_with fail
 go_end0
 exact⟨rfl,HZ.o⟩
end
end Go.Proofs.YtcmjlibndmneiaaGreat
namespace Go.Proofs.YtcmjlibndmneiaaGreat
open Go.RowKit Go.Maps Pl
structure CB where
 cb:Nat
 fv:Value
 key:ByteArray
 jn:Bool
structure CgAt(w:World)(t N:Nat)(b:CB)(c:CH)(vt vg:Value):Prop where
 box:w.heap[b.cb]?=some (.cells #[tp t,.string b.key,b.fv,.bool b.jn,.int .i64 (c.lv:Int),vt,vg] 114 (0,0))
 tk:OwV 0 3 w vt (nums c.tk)
 gn:OwV 0 3 w vg (nums c.gn)
 ap:∀j,vt.ownBlock=some j->vg.ownBlock≠some j
 wf:∀x,x∈c.tk\/x∈c.gn->50<=x/\x<(N:Int)
structure GzAt(H:Nat->Prop)(w:World)(t cc d M N:Nat)(a:AS)(b:CB)(c:CH)(U:Nat->Prop)(vt vg:Value):Prop where
 tz:Tz U w t cc d M N a
 cg:CgAt w t N b c vt vg
 un:∀k,(k=b.cb\/vt.ownBlock=some k\/vg.ownBlock=some k)->¬U k
 hx:∀k,(U k\/k=b.cb\/vt.ownBlock=some k\/vg.ownBlock=some k)->H k
 hl:∀k,H k->k<w.heap.size
def Gz(H:Nat->Prop)(w:World)(t cc d M N:Nat)(a:AS)(b:CB)(c:CH):Prop:=∃U vt vg,GzAt H w t cc d M N a b c U vt vg
def GzTo(H:Nat->Prop)(w w':World)(t cc d M N:Nat)(a:AS)(b:CB)(c:CH):Prop:=∃H',Gz H' w' t cc d M N a b c/\Tch H w w'/\∀k,H' k->H k\/w.heap.size<=k
abbrev chp(b:CB):Value:=.pointer (some ⟨b.cb,0,none⟩)
section
variable {H U:Nat->Prop} {w w':World} {t cc d M N:Nat} {a a':AS} {b:CB} {c c':CH} {vt vg:Value}
def CgAt.lt(h:CgAt w t N b c vt vg):b.cb<w.heap.size:=(zd0.1 h.box).1
def CgAt.cell(h:CgAt w t N b c vt vg)(i:Nat):w.cell? ⟨b.cb,i,none⟩=#[tp t,.string b.key,b.fv,.bool b.jn,.int .i64 (c.lv:Int),vt,vg][i]?:=cell_of_row w b.cb i _ _ (0,0) h.box
def CgAt.fz(h:CgAt w t N b c vt vg)(i:Nat):w.frozen? ⟨b.cb,i,none⟩=false:=frozen_of_row w b.cb i _ _ h.box
def CgAt.net(h:CgAt w t N b c vt vg):vt.ownBlock≠some b.cb:=h.tk.ne h.box (by decide)
def CgAt.neg(h:CgAt w t N b c vt vg):vg.ownBlock≠some b.cb:=h.gn.ne h.box (by decide)
def CgAt.tch(h:CgAt w t N b c vt vg){S:Nat->Prop}(A:Tch S w w')(u:∀k,(k=b.cb\/vt.ownBlock=some k\/vg.ownBlock=some k)->¬S k):CgAt w' t N b c vt vg:=
 ⟨by rw[A.block b.cb h.lt (u _ (.inl rfl))];exact h.box,h.tk.tch A (λ j e=>u j (.inr (.inl e))),h.gn.tch A (λ j e=>u j (.inr (.inr e))),h.ap,h.wf⟩
def GzAt.tch(h:GzAt H w t cc d M N a b c U vt vg){S:Nat->Prop}(A:Tch S w w')(E:∀k,H k->¬S k):GzAt H w' t cc d M N a b c U vt vg:=
 ⟨h.tz.tch A (λ k u=>E k (h.hx k (.inl u))),h.cg.tch A (λ k u=>E k (h.hx k (.inr u))),h.un,h.hx,λ k u=>zn1 (h.hl k u) A.size⟩
def Gz.tch(h:Gz H w t cc d M N a b c){S:Nat->Prop}(A:Tch S w w')(u:∀k,H k->¬S k):Gz H w' t cc d M N a b c:=by obtain⟨U,vt,vg,h⟩:=h;exact⟨U,vt,vg,h.tch A u⟩
def Gz.below(h:Gz H w t cc d M N a b c)(u:Below w.heap.size w w'):Gz H w' t cc d M N a b c:=h.tch (S:=λ _=>False) (Tch.of_below u) (λ _ _ e=>e)
def Gz.hl(h:Gz H w t cc d M N a b c):∀k,H k->k<w.heap.size:=by obtain⟨_,_,_,h⟩:=h;exact h.hl
def Gz.hcb(h:Gz H w t cc d M N a b c):H b.cb:=by obtain⟨_,_,_,h⟩:=h;exact h.hx _ (.inr (.inl rfl))
def Gz.to(h:Gz H w t cc d M N a b c):GzTo H w w t cc d M N a b c:=⟨H,h,Tch.refl _ _,λ _ e=>.inl e⟩
def Gz.to_below(h:Gz H w t cc d M N a b c)(u:Below w.heap.size w w'):GzTo H w w' t cc d M N a b c:=⟨H,h.below u,Tch.of_below u,λ _ e=>.inl e⟩
def Gz.c0(h:Gz H w t cc d M N a b c):w.cell? ⟨b.cb,0,none⟩=some (tp t):=by obtain⟨_,_,_,h⟩:=h;rw[h.cg.cell];rfl
def Gz.c1(h:Gz H w t cc d M N a b c):w.cell? ⟨b.cb,1,none⟩=some (.string b.key):=by obtain⟨_,_,_,h⟩:=h;rw[h.cg.cell];rfl
def Gz.c2(h:Gz H w t cc d M N a b c):w.cell? ⟨b.cb,2,none⟩=some b.fv:=by obtain⟨_,_,_,h⟩:=h;rw[h.cg.cell];rfl
def Gz.c3(h:Gz H w t cc d M N a b c):w.cell? ⟨b.cb,3,none⟩=some (.bool b.jn):=by obtain⟨_,_,_,h⟩:=h;rw[h.cg.cell];rfl
def Gz.c4(h:Gz H w t cc d M N a b c):w.cell? ⟨b.cb,4,none⟩=some (.int .i64 (c.lv:Int)):=by obtain⟨_,_,_,h⟩:=h;rw[h.cg.cell];rfl
def Gz.fz(h:Gz H w t cc d M N a b c)(i:Nat):w.frozen? ⟨b.cb,i,none⟩=false:=by obtain⟨_,_,_,h⟩:=h;exact h.cg.fz i
def GzTo.after{u:Nat->Prop}{A:World}(I:Tch u A w)(K:∀k,H k->u k\/A.heap.size<=k)(h:GzTo H w w' t cc d M N a b c):GzTo u A w' t cc d M N a b c:=by
 obtain⟨O,Q,T,Y⟩:=h;refine⟨O,Q,I.trans T (λ k E e=>?_),λ k E=>?_⟩
 .rcases K k e with e|e
  .exact e
  .omega
 .rcases Y k E with e|e
  .exact K k e
  .exact .inr (zn2 I.size e)
def GzAt.tzTo(h:GzAt H w t cc d M N a b c U vt vg)(O:TzTo U w w' t cc d M N a'):∃A,GzAt (λ k=>H k\/A k) w' t cc d M N a' b c A vt vg/\Tch U w w'/\(∀k,A k->U k\/w.heap.size<=k):=by
 obtain⟨A,I,E,K⟩:=O;have Q:∀k,(k=b.cb\/vt.ownBlock=some k\/vg.ownBlock=some k)->k<w.heap.size:=λ k u=>h.hl k (h.hx k (.inr u));refine⟨A,⟨I,h.cg.tch E (λ k u=>h.un k u),λ k u e=>?_,λ k u=>?_,λ k u=>?_⟩,E,K⟩
 .rcases K k e with q|q
  .exact h.un k u q
  .have:=Q k u;omega
 .exact u.elim .inr (λ e=>.inl (h.hx k (.inr e)))
 .rcases u with e|e
  .exact zn1 (h.hl k e) E.size
  .exact I.ul k e
def GzAt.toTz(h:GzAt H w t cc d M N a b c U vt vg)(K:TzTo U w w' t cc d M N a'):GzTo H w w' t cc d M N a' b c:=by obtain⟨u,A,E,I⟩:=h.tzTo K;exact⟨_,⟨u,vt,vg,A⟩,E.mono (λ k _ e=>h.hx k (.inl e)),λ k O=>O.elim .inl (λ e=>(I k e).imp (λ q=>h.hx k (.inl q)) id)⟩
def zdt9(x:Int)(hx:(Lit.int .i64 x).wf=true)(w:World)(G:Gz H w t cc d M N a b c)(hl:c.gn.length<=100000):
 Calls Tryz.prog 159 #[chp b,.int .i64 x] w λ e w'=>e=.returned (.tuple #[])/\GzTo H w w' t cc d M N a b (leaveF a c x):=by
 obtain⟨U,vt,vg,h⟩:=G;have HG:=za0 h;have HN:=za0 (zqz9 x hx w h.tz);have c0:w.cell? ⟨b.cb,0,none⟩=some (tp t):=by rw[h.cg.cell];rfl
 obtain⟨u,I⟩:=exH b.cb;obtain⟨cl,a1⟩:=exN (leaveF a c x);unfold leaveF at a1;cases hF:a.F x with
 | false=>
  rw[hF]at HN a1;rw[if_neg (by decide)]at a1;subst a1;have a5:Hid (leaveF a c x=c):=by show _=_;unfold leaveF;rw[hF,if_neg (by decide)]
  rw[a5.o];unfold chp;rw[I.o]at c0 |-
  clear h hF hx
  go_enter Tryz.func159,Tryz.ntmps159
  go_wp2_with fail;refine HN.o.mono ?_;rintro e Y ⟨rfl,b1⟩;have HB:=za0 b1;clear b1 c0 HN;go_wp2_with fail
  go_end0
  exact⟨rfl,Gz.to_below ⟨U,vt,vg,HG.o⟩ HB.o⟩
 | true=>
  rw[hF]at HN;have a5:Hid (leaveF a c x={ c with gn:=c.gn++[x] }):=by show _=_;unfold leaveF;rw[hF,if_pos rfl]
  rw[a5.o];have ak:=za0 (h.tz.fr x hF);clear a1;obtain⟨K,O,a9⟩:=h.cg.gn.long;rw[zf9]at a9;have HL:=za0 hl;obtain⟨Q,an⟩:=exH c.gn.length;rw[an.o]at a9;subst a9;unfold chp;rw[I.o]at c0 |-
  clear h hF hx hl
  go_enter Tryz.func159,Tryz.ntmps159
  go_wp2_with fail;refine HN.o.mono ?_;rintro e Y ⟨rfl,b1⟩;have aa:=za0 (HG.o.tch (S:=λ _=>False) (Tch.of_below b1) (λ _ _ e=>e));have HB:=za0 b1;have c6:Y.cell? ⟨u,6,none⟩=some (.slice K Q O):=by rw[<-I.o,aa.o.cg.cell];rfl
  obtain⟨W2,a6⟩:=exN (Y.alloc (.cells #[.int .i64 x] 3));have b2:Below Y.heap.size Y W2:=by rw[<-a6];exact za9 _ _
  have a0:=za0 (aa.o.tch (S:=λ _=>False) (Tch.of_below b2) (λ _ _ e=>e));have k2:Hid (W2.cell? ⟨Y.heap.size,0,none⟩=some (.int .i64 x)):=by show _=_;rw[<-a6,cell_of_row _ Y.heap.size 0 _ _ (0,0) (heap_alloc_new Y _)];rfl
  have ai:=za0 b2;clear b1 c0 HN b2;go_wp2_with(at_builtin;refine zp9 56 3 (.int .i64 0) 8 elemIN _ rfl (.tmp 14) (.tmp 16) rfl 0 _ (nums c.gn) rfl a0.o.cg.gn Y.heap.size (.int .i64 x) rfl rfl k2.o (by rw[zf9];have:=HL.o;omega) (by rw[zf9];have:=HL.o;omega) (zn7 _) ?_;intro v' w3 ho hg hf;refine Hid.o ?_)
  refine za0 ?_;have HO:=za0 ho;have al:=za0 hf;have ab:=za0 hg.tch;have a8:(Value.slice K Q O).ownBlock≠some u:=by rw[<-I.o];exact a0.o.cg.neg
  have a3:w3.heap[u]?=some (.cells #[tp t,.string b.key,b.fv,.bool b.jn,.int .i64 (c.lv:Int),vt,.slice K Q O] 114 (0,0)):=by rw[ab.o.block u (by rw[<-I.o];exact a0.o.cg.lt) a8,<-I.o];exact a0.o.cg.box
  have d6:w3.cell? ⟨u,6,none⟩=some (.slice K Q O):=by rw[cell_of_row w3 u 6 _ _ (0,0) a3];rfl
  have e6:=frozen_of_row w3 u 6 _ _ a3;obtain⟨va,vl,vc,rfl⟩:∃a l c,v'=.slice a l c:=by obtain⟨a,c,e⟩:=ho.long;exact⟨_,_,_,e⟩
  obtain⟨W4,a7⟩:=exN (w3.setCell ⟨u,6,none⟩ (.slice va vl vc));have aj:Hid (GzTo H w W4 t cc d M N a b { c with gn:=c.gn++[x] }):=by
   have A:=a0.o;(have t4:Tch (λ k=>k=u) w3 W4:=by rw[<-a7];exact tch_at _ _ _ _);have a2:Tch (λ k=>k=u\/(Value.slice K Q O).ownBlock=some k) W2 W4:=(ab.o.mono (λ k _ e=>.inr e)).trans t4 (λ k _ e=>.inl e);have ac:Tch (λ k=>k=u\/(Value.slice K Q O).ownBlock=some k) w W2:=(Tch.of_below HB.o).trans (Tch.of_below ai.o) (λ _ _ e=>e);have ah:=ac.size;(have ae:H u:=by rw[<-I.o];exact A.hx _ (.inr (.inl rfl)));have ar:=HG.o.hl u ae;have af:∀k,(Value.slice K Q O).ownBlock=some k->H k:=λ k e=>A.hx k (.inr (.inr (.inr e)));have ag:∀k,(Value.slice K Q O).ownBlock=some k->¬U k:=λ k e=>A.un k (.inr (.inr e));have ad:¬U u:=by rw[<-I.o];exact A.un _ (.inl rfl)
   have aq:∀k,vt.ownBlock=some k->¬(k=u\/(Value.slice K Q O).ownBlock=some k):=λ k e q=>by
    rcases q with q|q
    .exact A.cg.net (by rw[e,q,I.o])
    .exact A.cg.ap k e q
   have a4:∀k,(Value.slice va vl vc).ownBlock=some k->(Value.slice K Q O).ownBlock=some k\/W2.heap.size<=k:=λ k e=>al.o k e;have ao:∀k,(Value.slice va vl vc).ownBlock=some k->k≠u:=λ k e q=>by
    rcases a4 k e with E|E
    .exact a8 (by rw[E,q])
    .omega
   (have am:W4.heap[u]?=some (.cells #[tp t,.string b.key,b.fv,.bool b.jn,.int .i64 (c.lv:Int),vt,.slice va vl vc] 114 (0,0)):=by rw[<-a7];exact heap_setCell_same w3 u 6 _ _ _ a3);refine⟨λ k=>H k\/W2.heap.size<=k/\k<W4.heap.size,⟨U,vt,.slice va vl vc,⟨A.tz.tch a2 (λ k T q=>q.elim (λ e=>ad (by rw[<-e];exact T)) (λ e=>ag k e T)),⟨by rw[I.o];exact am,A.cg.tk.tch a2 aq,?_,λ k e q=>?_,λ y hy=>?_⟩,λ k T q=>?_,λ k T=>?_,λ k T=>?_⟩⟩,((ac.trans a2 (λ _ _ e=>e))).mono (λ k _ e=>e.elim (λ q=>by rw[q];exact ae) (af k)),λ k T=>T.imp id (λ e=>zn2 ah e.1)⟩
   .have:nums c.gn++[.int .i64 x]=nums (c.gn++[x]):=by simp[nums]
    rw[this]at HO;exact HO.o.tch t4 (λ k e q=>ao k e q)
   .rcases a4 k q with E|E
    .exact A.cg.ap k e E
    .have:=(A.cg.tk.owns.lt k e);omega
   .rcases hy with hy|hy
    .exact A.cg.wf y (.inl hy)
    .rcases zi0.1 hy with q|q
     .exact A.cg.wf y (.inr q)
     .rw[List.mem_singleton.1 q];exact ak.o
   .rcases T with e|e|e
    .exact ad (by rw[I.o]at e;rw[<-e];exact q)
    .exact A.un k (.inr (.inl e)) q
    .rcases a4 k e with E|E
     .exact ag k E q
     .have:=HG.o.tz.ul k q;omega
   .rcases T with e|e|e|e
    .exact .inl (A.hx k (.inl e))
    .exact .inl (A.hx k (.inr (.inl e)))
    .exact .inl (A.hx k (.inr (.inr (.inl e))))
    .rcases a4 k e with E|E
     .exact .inl (af k E)
     .refine .inr ⟨E,?_⟩;have:=HO.o.owns.lt k e;have:=t4.size;omega
   .rcases T with e|e
    .exact zn1 (HG.o.hl k e) (zn2 ah a2.size)
    .exact e.2
  clear ho hg hf a8 a3 c6 a6;go_wp2_with fail;try rw[a7]
  go_end0
  exact⟨rfl,aj.o⟩
end
section
variable {H U:Nat->Prop} {w w':World} {t cc d M N:Nat} {a a':AS} {b:CB} {c c':CH} {vt vg:Value}
def GzAt.took(G:GzAt H w t cc d M N a b c U vt vg){x:Int}(hx:50<=x/\x<(N:Int)){E:World}{A:Value}(Q:OwV 0 3 E A (nums c.tk++[.int .i64 x]))(ht:Tch (λ k=>vt.ownBlock=some k) w E)(O:Fsh w vt A):
 ∃H',GzAt H' (E.setCell ⟨b.cb,5,none⟩ A) t cc d M N a b { c with tk:=c.tk++[x] } U A vg/\Tch H w (E.setCell ⟨b.cb,5,none⟩ A)/\∀k,H' k->H k\/w.heap.size<=k:=by
 have Y:Tch (λ k=>k=b.cb) E (E.setCell ⟨b.cb,5,none⟩ A):=tch_at _ _ _ _;have T:Tch (λ k=>k=b.cb\/vt.ownBlock=some k) w (E.setCell ⟨b.cb,5,none⟩ A):=(ht.mono (λ k _ e=>.inr e)).trans Y (λ k _ e=>.inl e);have a1:H b.cb:=G.hx _ (.inr (.inl rfl));have a6:=G.hl _ a1;have a0:=G.un _ (.inl rfl);have a2:∀k,vt.ownBlock=some k->¬U k:=λ k e=>G.un k (.inr (.inl e));have a5:∀k,A.ownBlock=some k->k≠b.cb:=λ k e q=>by
  rcases O k e with u|u
  .exact G.cg.net (by rw[u,q])
  .omega
 have a3:E.heap[b.cb]?=some (.cells #[tp t,.string b.key,b.fv,.bool b.jn,.int .i64 (c.lv:Int),vt,vg] 114 (0,0)):=by rw[ht.block b.cb G.cg.lt G.cg.net];exact G.cg.box
 have a4:(E.setCell ⟨b.cb,5,none⟩ A).heap[b.cb]?=some (.cells #[tp t,.string b.key,b.fv,.bool b.jn,.int .i64 (c.lv:Int),A,vg] 114 (0,0)):=heap_setCell_same E b.cb 5 _ _ _ a3;refine⟨λ k=>H k\/(w.heap.size<=k/\k<(E.setCell ⟨b.cb,5,none⟩ A).heap.size),⟨G.tz.tch T (λ k I q=>q.elim (λ e=>a0 (by rw[<-e];exact I)) (λ e=>a2 k e I)),⟨a4,?_,G.cg.gn.tch T (λ k e q=>?_),λ k e q=>?_,λ y K=>?_⟩,λ k I q=>?_,λ k I=>?_,λ k I=>?_⟩,T.mono (λ k _ e=>e.elim (λ q=>by rw[q];exact a1) (λ e=>G.hx k (.inr (.inr (.inl e))))),λ k I=>I.imp id (λ e=>e.1)⟩
 .have e0:nums c.tk++[.int .i64 x]=nums (c.tk++[x]):=by simp[nums]
  rw[e0]at Q;exact Q.tch Y (λ k e q=>a5 k e q)
 .rcases q with q|q
  .exact G.cg.neg (by rw[e,q])
  .exact G.cg.ap k q e
 .rcases O k e with u|u
  .exact G.cg.ap k u q
  .have:=(G.cg.gn.owns.lt k q);omega
 .rcases K with K|K
  .rcases zi0.1 K with q|q
   .exact G.cg.wf y (.inl q)
   .rw[List.mem_singleton.1 q];exact hx
  .exact G.cg.wf y (.inr K)
 .rcases I with e|e|e
  .exact a0 (by rw[<-e];exact q)
  .rcases O k e with u|u
   .exact a2 k u q
   .have:=G.tz.ul k q;omega
  .exact G.un k (.inr (.inr e)) q
 .rcases I with e|e|e|e
  .exact .inl (G.hx k (.inl e))
  .exact .inl (G.hx k (.inr (.inl e)))
  .rcases O k e with u|u
   .exact .inl (G.hx k (.inr (.inr (.inl u))))
   .refine .inr ⟨u,?_⟩;have:=Q.owns.lt k e;have:=Y.size;omega
  .exact .inl (G.hx k (.inr (.inr (.inr e))))
 .rcases I with e|e
  .exact zn1 (G.hl k e) T.size
  .exact e.2
def takeNo{s:Ah.St}(h:(Ah.take s).2.1=false):(Ah.take s).2.2=s/\(Ah.take s).1=0:=by
 unfold Ah.take at *
 split
 .exact⟨rfl,rfl⟩
 .rename_i hc;rw[if_neg hc]at h;cases h
def may_rl{n:Nd}(u:mayN n=true)(A:Sm n):Rl n:=zco9 (zq9.1 u) (by have:=A.kl;omega)
def enc_ne(n:Nd)(k:Nat):encN n k≠[]:=by cases k<;>simp[encN,itm]
def zem9(n:Nd)(u1 u2 u3:Value)(w:World)(G:Gz H w t cc d M N a b c)(hn:Nn w n u1 u2 u3)(hs:Sm n)(hl:c.tk.length<=100000):
 Calls Tryz.prog 114 #[chp b,nod n.lf u1 u2 u3] w λ e w'=>e=.returned (.tuple #[.int .i64 (writeF a c n).x,.int .i64 (writeF a c n).e])/\GzTo H w w' t cc d M N (writeF a c n).a b (writeF a c n).c:=by
 obtain⟨U,vt,vg,h⟩:=G;have HG:=za0 h;have HS:=za0 hs;obtain⟨a1,c1,a2,c2,a3,c3,rfl,rfl,rfl,_,_,_,_⟩:=hn.o;have ay:=λ W hb (E:mayN n=true)=>put_ok n _ _ _ W (hn.below hb) hs E;have b1:=λ W hb (E:mayN n=false)=>zyk9 n _ _ _ W (hn.below hb) hs E;obtain⟨L1,ae⟩:=exH n.ks.length;obtain⟨L2,ao⟩:=exH n.vs.length;obtain⟨L3,ap⟩:=exH n.kd.length;obtain⟨lf,av⟩:=exH n.lf;rw[ae.o,ao.o,ap.o,av.o]
 have HP:Hid (∀W,Below w.heap.size w W->mayN n=true->Calls Tryz.prog 144 #[.agg #[.bool lf,.slice a1 L1 c1,.slice a2 L2 c2,.slice a3 L3 c3]] W λ e w'=>(∃v,e=.returned (.tuple #[blN (kdN n.lf) v,.int .i64 0])/\Rd .u8 w' v (encN n n.ks.length)/\∀j,v.ownBlock=some j->W.heap.size<=j)/\Below W.heap.size W w'):=λ W hb E=>by have:=ay W hb E;rw[ae.o,ao.o,ap.o]at this;rw[ae.o,<-av.o];exact this
 have HQ:Hid (∀W,Below w.heap.size w W->mayN n=false->Calls Tryz.prog 144 #[.agg #[.bool lf,.slice a1 L1 c1,.slice a2 L2 c2,.slice a3 L3 c3]] W λ e w'=>e=.returned (.tuple #[blN 0 (.slice none 0 0),.int .i64 1])/\Below W.heap.size W w'):=λ W hb E=>by have:=b1 W hb E;rw[ae.o,ao.o,ap.o]at this;rw[<-av.o];exact this
 unfold nod;obtain⟨W1,af⟩:=exN (w.alloc (.cells #[.bool lf,.slice a1 L1 c1,.slice a2 L2 c2,.slice a3 L3 c3] 93));have B1:Hid (Below w.heap.size w W1):=by rw[<-af];exact za9 _ _
 have V1:Nb W1 93 w.heap.size lf (.slice a1 L1 c1) (.slice a2 L2 c2) (.slice a3 L3 c3):=by rw[<-af];exact nb_new _ _ _ _ _ _
 have p0:=V1.c0;have p1:=V1.c1;have p2:=V1.c2;have p3:=V1.c3;obtain⟨O,a4⟩:=exH b.cb;have HL:=za0 hl;unfold chp;rw[a4.o];clear V1 h hs hn ay b1 hl;cases E:mayN n with
 | false=>
  have HW:Hid (writeF a c n=⟨0,7,a,c⟩):=by show _=_;unfold writeF;rw[E,if_neg (by decide)]
  rw[HW.o];have HC:=za0 (HQ.o W1 B1.o E);clear E HP HQ
  go_enter Tryz.func114,Tryz.ntmps114
  go_wp2_with fail;refine HC.o.mono ?_;rintro e I ⟨rfl,b2⟩;have HB:Hid (Below w.heap.size w (I.alloc (.cells #[.int .i64 0,.slice none 0 0] 63))):=(B1.o.trans (b2.mono B1.o.size)).trans ((za9 _ _).mono (B1.o.trans (b2.mono B1.o.size)).size);clear b2 HC p0 p1 p2 p3 af;unfold blN;go_wp2_with fail;go_ret2;exact⟨rfl,Gz.to_below ⟨U,vt,vg,HG.o⟩ HB.o⟩
 | true=>
  have HR:=za0 (may_rl E HS.o);have ai:=za0 E;have HC:=za0 (HP.o W1 B1.o E);obtain⟨x,hx⟩:=exH ((Ah.take a.A).1);obtain⟨ok,aa⟩:=exH ((Ah.take a.A).2.1);obtain⟨K,hK⟩:=exH (kdN n.lf);rw[hK.o]at HC;obtain⟨R,aq⟩:=exH (writeF a c n);rw[aq.o];clear E HP HQ
  go_enter Tryz.func114,Tryz.ntmps114
  go_wp2_with fail;refine HC.o.mono ?_;rintro e I ⟨⟨v,rfl,hr,bc⟩,b2⟩;obtain⟨T,vl,vc,rfl⟩:∃a l c,v=.slice a l c:=by obtain⟨a,c,e,_⟩:=hr;exact⟨_,_,_,e⟩
  obtain⟨W3,ag⟩:=exN (I.alloc (.cells #[.int .i64 K,.slice T vl vc] 63));have b3:Below I.heap.size I W3:=by rw[<-ag];exact za9 _ _
  have ad:=B1.o.trans (b2.mono B1.o.size);have B3:=za0 (ad.trans (b3.mono ad.size));have K3:Hid (Kb W3 I.heap.size K (.slice T vl vc)):=by rw[<-ag];exact kb_new _ _ _
  have R3:=za0 (hr.below b3);have N2:=za0 ad.size;have VN:Hid (∀j,(Value.slice T vl vc).ownBlock=some j->w.heap.size<=j/\(encN n n.ks.length≠[]->j<I.heap.size)):=λ j hj=>⟨zn2 B1.o.size (bc j hj),λ h0=>hr.blk_lt h0 hj⟩
  have G3:=za0 (HG.o.tch (S:=λ _=>False) (Tch.of_below B3.o) (λ _ _ e=>e));have q0:W3.cell? ⟨O,0,none⟩=some (tp t):=by rw[<-a4.o,G3.o.cg.cell];rfl
  have q1:=G3.o.tz.c1;have HT:=za0 (tzTake W3 G3.o.tz);rw[hx.o,aa.o]at HT;clear hr bc b2 b3 ad HC p0 p1 p2 p3 af;unfold blN;go_wp2_with fail;refine HT.o.mono ?_;rintro e w4 ⟨rfl,a9⟩;cases ok with
  | false=>(have e1:=takeNo aa.o;(have HW:Hid (R=⟨0,10,a,c⟩):=by show _=_;rw[<-aq.o];unfold writeF;rw[ai.o,if_pos rfl,aa.o,if_neg (by decide)]);have HF:Hid (GzTo H w w4 t cc d M N a b c):=by rw[show({ a with A:=(Ah.take a.A).2.2 }:AS)=a by rw[e1.1]]at a9;exact GzTo.after (Tch.of_below B3.o) (λ k e=>.inl e) (G3.o.toTz a9));clear a9 HT e1 q0 q1 ag;(have a5:Hid (GzTo H w w4 t cc d M N R.a b R.c/\R.x=0/\R.e=10):=by rw[HW.o];exact⟨HF.o,rfl,rfl⟩);go_wp2_with fail;go_ret2;exact⟨by rw[a5.o.2.1,a5.o.2.2];rfl,a5.o.1⟩
  | true=>
   have a8:Hid (50<=x/\x<(N:Int)):=by have:=takeIn aa.o;rw[hx.o]at this;have:=G3.o.tz.lo;show _/\_;omega
   obtain⟨U4,G4,T4,b8⟩:=G3.o.tzTo a9;have c9:=za0 G4;have aj:=za0 T4;have am:=za0 b8;obtain⟨ta,tc,aw⟩:=G4.cg.tk.long;rw[zf9]at aw;obtain⟨tl,bx⟩:=exH c.tk.length;rw[bx.o]at aw;subst aw;(have c5:w4.cell? ⟨O,5,none⟩=some (.slice ta tl tc):=by rw[<-a4.o,G4.cg.cell];rfl);obtain⟨W5,au⟩:=exN (w4.alloc (.cells #[.int .i64 x] 3));(have b5:Below w4.heap.size w4 W5:=by rw[<-au];exact za9 _ _);have a7:=za0 (G4.tch (S:=λ _=>False) (Tch.of_below b5) (λ _ _ e=>e));(have k5:Hid (W5.cell? ⟨w4.heap.size,0,none⟩=some (.int .i64 x)):=by show _=_;rw[<-au,cell_of_row _ w4.heap.size 0 _ _ (0,0) (heap_alloc_new w4 _)];rfl);have ah:=za0 b5;clear a9 HT G4 T4 b8 q0 q1 b5 ag
   go_wp2_with(at_builtin;refine zp9 56 3 (.int .i64 0) 8 elemIN _ rfl (.tmp 35) (.tmp 37) rfl 0 _ (nums c.tk) rfl a7.o.cg.tk w4.heap.size (.int .i64 x) rfl rfl k5.o (by rw[zf9];have:=HL.o;omega) (by rw[zf9];have:=HL.o;omega) (zn7 _) ?_;intro v' w6 ho hg hf;refine Hid.o ?_)
   refine za0 ?_;obtain⟨H6,G6,T6,b7⟩:=a7.o.took a8.o ho hg.tch hf;(have bb:(Value.slice ta tl tc).ownBlock≠some O:=by rw[<-a4.o];exact a7.o.cg.net);have an:w6.heap[O]?=some (.cells #[tp t,.string b.key,b.fv,.bool b.jn,.int .i64 (c.lv:Int),.slice ta tl tc,vg] 114 (0,0)):=by rw[hg.tch.block O (by rw[<-a4.o];exact a7.o.cg.lt) bb,<-a4.o];exact a7.o.cg.box
   (have d5:w6.cell? ⟨O,5,none⟩=some (.slice ta tl tc):=by rw[cell_of_row w6 O 5 _ _ (0,0) an];rfl);have e5:=frozen_of_row w6 O 5 _ _ an;(obtain⟨xa,xl,xc,rfl⟩:∃a l c,v'=.slice a l c:=by obtain⟨a,c,e⟩:=ho.long;exact⟨_,_,_,e⟩);rw[a4.o]at G6 T6;obtain⟨W7,b9⟩:=exN (w6.setCell ⟨O,5,none⟩ (.slice xa xl xc));rw[b9]at G6 T6;obtain⟨fb,X,S,Y,s,D,h7⟩:=G6.tz;(have f0:W7.cell? ⟨O,0,none⟩=some (tp t):=by rw[<-a4.o,G6.cg.cell];rfl);have f2:=h7.c2;have bl:=za0 h7.fm;have bf:=za0 G6;have H7:=za0 h7;have al:=za0 T6;have bi:=za0 b7;have bm:=za0 h7.cz.ch.n2;clear ho hg hf bb an c5 G6 T6 b7 h7 au
   go_wp2_with(at_mapUpdate;refine zfj9 rfl (.tmp 47) (.tmp 48) (.tmp 49) rfl fb N a.F x rfl rfl rfl bl.o (by have:=a8.o;omega) a8.o.2 (by have:=bm.o;omega) ?_;intro u m8 t8;refine Hid.o ?_)
   refine za0 ?_;obtain⟨q8,q9⟩:=H7.o.fmTo m8 t8 (λ y hy=>by
    unfold updI at hy;split at hy
    .rename_i e;rw[e];exact a8.o
    .exact H7.o.ok.fr y hy)
   obtain⟨U8,G8,T8,ar⟩:=bf.o.tzTo ⟨U4,q8,q9,λ _ e=>.inl e⟩;have ax:=K3.o.lt;have bz:=aj.o.size;have c4:=ah.o.size;have c6:=al.o.size;have c7:=t8.size;have ab:∀j,w.heap.size<=j->j<W3.heap.size->¬U j/\¬(H j\/U4 j)/\¬U8 j:=λ j h1 h2=>by (have nU:¬U j:=λ e=>by have:=HG.o.hl j (HG.o.hx j (.inl e));omega);have bd:¬U4 j:=λ e=>(am.o j e).elim nU (λ e=>by omega);(have nH:¬H j:=λ e=>by have:=HG.o.hl j e;omega);exact⟨nU,λ e=>e.elim nH bd,λ e=>(ar j e).elim bd (λ e=>by omega)⟩
   have ac:∀j,w.heap.size<=j->j<W3.heap.size->u.heap[j]?=W3.heap[j]?:=λ j h1 h2=>by obtain⟨n1,n2,n3⟩:=ab j h1 h2;have e4:=aj.o.block j h2 n1;have e5:=(Tch.of_below (S:=λ _=>False) ah.o).block j (by omega) (λ e=>e);have e7:=al.o.block j (by omega) n2;have e8:=T8.block j (by omega) (λ e=>n2 (.inr e));rw[e8,e7,e5,e4]
   have ca:=za0 ac;(have K8:Kb u I.heap.size K (.slice T vl vc):=by unfold Kb;rw[ac _ N2.o ax];exact K3.o);have R8:Rd .u8 u (.slice T vl vc) (encN n n.ks.length):=by obtain⟨a0,bs,e0,g1,g2,g3,g4⟩:=R3.o;refine⟨a0,bs,e0,g1,g2,g3,g4.imp id (λ⟨b0,o0,e1,g5⟩=>⟨b0,o0,e1,λ i hi=>?_⟩)⟩;have ba:=VN.o b0 (by rw[e0,e1];rfl);(have bw:encN n n.ks.length≠[]:=λ e=>by rw[e]at hi;simp at hi);have cd:=ba.2 bw;rw[<-g5 i hi];unfold World.cell?;rw[ac b0 ba.1 (by omega)]
   (have ak:(⟨a.V,a.Q,(Ah.take a.A).2.2,updI a.F x true⟩:AS)={ { a with A:=(Ah.take a.A).2.2 }with F:=updI a.F x true }:=rfl;have b6:∀j,(Value.slice T vl vc).ownBlock=some j->¬U8 j:=λ j hj=>by have:=VN.o j hj;exact(ab j this.1 (by have:=this.2 (enc_ne n _);omega)).2.2);have D8:Tch (λ _=>False) u u.drew:=⟨rfl,rfl,rfl,zn6 _,λ _ _ _=>rfl⟩
   (have a6:=G8.tch D8 (λ _ _ e=>e);have b4:=R8;have az:=za0 (tzPut x n (.slice T vl vc) u.drew a6.tz a8.o ai.o HR.o b4 b6);have bq:=za0 ((ab _ N2.o ax).2.2);have TT:Tch H w u:=by have x1:Tch H w W3:=Tch.of_below B3.o;have x2:=x1.trans aj.o (λ k _ e=>HG.o.hx k (.inl e));have x3:=x2.trans (Tch.of_below (S:=H) ah.o) (λ _ _ e=>e);have bu:=B3.o.size;have u4:∀k,k<w.heap.size->U4 k->H k:=λ k hk e=>(am.o k e).elim (λ e=>HG.o.hx k (.inl e)) (λ e=>by omega);have x4:=x3.trans al.o (λ k hk e=>e.elim id (u4 k hk));exact x4.trans T8 (λ k hk e=>u4 k hk e));have HH:∀k,(H6 k\/U8 k)->H k\/w.heap.size<=k:=λ k e=>by
    have bu:=B3.o.size;have u4:U4 k->H k\/w.heap.size<=k:=λ e=>(am.o k e).elim (λ e=>.inl (HG.o.hx k (.inl e))) (λ e=>.inr (by omega));rcases e with e|e
    .rcases bi.o k e with e|e
     .exact e.elim .inl u4
     .exact .inr (by omega)
    .rcases ar k e with e|e
     .exact u4 e
     .exact .inr (by omega)
   have bp:=za0 TT;have bj:=za0 HH;have bg:=za0 a6;have bk:=za0 K8;have bo:Hid (∀W,TzTo U8 u.drew W t cc d M N (a.wr n)->(W.cell? ⟨O,0,none⟩=some (tp t)/\W.cell? ⟨t,0,none⟩=some (cp cc)/\W.cell? ⟨I.heap.size,0,none⟩=some (.int .i64 K)/\W.cell? ⟨I.heap.size,1,none⟩=some (.slice T vl vc))/\GzTo H w W t cc d M N (a.wr n) b { c with tk:=c.tk++[x] }):=λ W hW=>by have g9:=bg.o.toTz hW;obtain⟨U9,z9,t9,_⟩:=hW;have k9:=(show Kb u.drew I.heap.size K (.slice T vl vc)from bk.o).tch t9 bq.o;have gg:=GzTo.after (bp.o.trans (⟨rfl,rfl,rfl,zn6 _,λ _ _ _=>rfl⟩:Tch H u u.drew) (λ _ _ e=>e)) bj.o g9;obtain⟨H9,G9,_⟩:=g9;exact⟨⟨by rw[<-a4.o];exact G9.c0,z9.c0,k9.c0,k9.c1⟩,gg⟩
   (have be:Hid ((⟨updI a.V x (0,n),a.Q,(Ah.take a.A).2.2,updI a.F x true⟩:AS)=a.wr n):=by show _=_;unfold AS.wr;rw[hx.o]);have bn:Hid (Calls Tryz.prog 27 #[cp cc,.int .i64 x,.agg #[.int .i64 K,.slice T vl vc]] u.drew λ e w'=>e=.returned (.int .i64 0)/\TzTo U8 u.drew w' t cc d M N (a.wr n)):=by have:=az.o;rw[hK.o]at this;refine Calls.mono this ?_;rintro e w' ⟨rfl,h9⟩;refine⟨rfl,?_⟩;rw[<-be.o];exact h9
   (have br:Hid (R=⟨x,0,a.wr n,{ c with tk:=c.tk++[x] }⟩):=by show _=_;rw[<-aq.o];unfold writeF;rw[ai.o,if_pos rfl,aa.o,if_pos rfl,hx.o]);have hS:u.drew.cell? ⟨O,0,none⟩=some (tp t)/\u.drew.cell? ⟨t,0,none⟩=some (cp cc)/\u.drew.cell? ⟨I.heap.size,0,none⟩=some (.int .i64 K)/\u.drew.cell? ⟨I.heap.size,1,none⟩=some (.slice T vl vc):=by have k8:=K8;exact⟨by rw[<-a4.o,a6.cg.cell];rfl,a6.tz.c0,k8.c0,k8.c1⟩
   clear m8 t8 q8 q9 G8 T8 ar ax bz c4 c6 c7 ab ac K8 R8 ak b6 D8 a6 b4 TT HH f0 f2 d5 e5 b9 az;go_wp2_with fail
   go_region_held3 (λ w'=>w'.cell? ⟨O,0,none⟩=some (tp t)/\w'.cell? ⟨t,0,none⟩=some (cp cc)/\w'.cell? ⟨I.heap.size,0,none⟩=some (.int .i64 K)/\w'.cell? ⟨I.heap.size,1,none⟩=some (.slice T vl vc)) (first|go_keep|exact bt)
    (first
     | (go_at_call 27;refine bn.o.mono ?_;rintro e W9 ⟨rfl,h9⟩;obtain⟨bt,g9⟩:=bo.o W9 h9;have bh:=za0 g9;clear h9 g9))
   go_wp2_with fail;(have a5:Hid (GzTo H w W9 t cc d M N R.a b R.c/\R.x=x/\R.e=0):=by rw[br.o];exact⟨bh.o,rfl,rfl⟩);go_ret2;exact⟨by rw[a5.o.2.1,a5.o.2.2];rfl,a5.o.1⟩
end
end Go.Proofs.YtcmjlibndmneiaaGreat
namespace Go.Proofs.YtcmjlibndmneiaaGreat
open Go.RowKit Go.Maps
section
variable {X S:Nat->Prop} {w:World} {c d N:Nat} {s:CS} {D:DS}
def zwx9(h:Cz X S w c d N s D)(u:(∀i,D.V i=[])/\D.c=false):
 Calls Tryz.prog 36 #[cp c] w λ e w'=>e=.returned (.int .i64 0)/\CzTo X S w w' c d N s.flush (s.flushD D):=
 zmx9 w h (λ i=>by rw[u.1 i];decide)
def zwy9{s':CS}(h:Cz X S w c d N s' (s.flushD D))(A:D.c=false):
 Calls Tryz.prog 37 #[dp d] w λ e w'=>e=.returned (.tuple #[])/\CzTo X S w w' c d N s' (s.flushD D).fl:=
 (zqr9 w h.dk).mono (λ e w' u=>⟨u.1,h.dkTo u.2 (by rw[fl_is (D:=s.flushD D) (zdn9 s.B 0 s.d D A).1];simp[h.len])⟩)
def zyl9{s':CS}(h:Cz X S w c d N s' (s.flushD D).fl)(H:D.c=false):
 Calls Tryz.prog 38 #[dp d,.slice none 0 0] w λ e w'=>e=.returned (.tuple #[])/\CzTo X S w w' c d N s' (dFl s D):=by
 have u:∀i,((s.flushD D).fl).V i=[]:=λ i=>by rw[fl_is (D:=s.flushD D) (zdn9 s.B 0 s.d D H).1]
 refine(zrm9 _ [] w h.dk ⟨none,0,rfl,zn6 _,by unfold maxLen;omega,λ _=>rfl,.inl rfl⟩ (λ k E=>by cases E) (λ i=>by rw[u i];decide)).mono (λ e w' A=>⟨A.1,h.dkTo A.2 ?_⟩);unfold dFl;rw[pw_is u];exact h.len
end
def TzAt.flushed{U:Nat->Prop}{w w':World}{t c d M N:Nat}{a:AS}{u:Nat}{X S Y:Nat->Prop}{s:CS}{D:DS}(h:TzAt U w t c d M N a u X S Y s D)(A:CzTo X S w w' c d N s.flush (dFl s D)):
 TzTo U w w' t c d M N { a with Q:=a.V }:=
 h.czTo A (zqs9 h.ok h.cz.ch.ok h.cz.len) rfl rfl
