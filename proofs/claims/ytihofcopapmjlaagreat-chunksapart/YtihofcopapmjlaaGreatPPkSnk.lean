import Derived.Test.YtihofcopapmjlaaGreatPPkRep
import Derived.Test.YtihofcopapmjlaaGreatPFCat
import Derived.Test.YtihofcopapmjlaaGreatPANew
set_option maxRecDepth 100000
set_option linter.all false
set_option maxHeartbeats 8000000
namespace Go.Proofs.YtihofcopapmjlaaGreat
open Go.Proofs.Tryz
open Go.RowKit Pl
structure Sk(w:World)(g:Nat)(ov:Value)(E:Int)(xs:List Int):Prop where
 blk:w.heap[g]?=some (.cells #[ov,.int .i64 E] 176 (0,0))
 own:AF .u8 5 w ov xs
def Sk.c0{w g f E xs}(h:Sk w g f E xs):w.cell? ⟨g,0,none⟩=some f:=by rw[cell_of_row w g 0 _ _ (0,0) h.blk];rfl
def Sk.c1{w g f E xs}(h:Sk w g f E xs):w.cell? ⟨g,1,none⟩=some (.int .i64 E):=by rw[cell_of_row w g 1 _ _ (0,0) h.blk];rfl
def Sk.fz{w g f E xs}(h:Sk w g f E xs)(j):w.frozen? ⟨g,j,none⟩=false:=frozen_of_row w g j _ _ h.blk
def Sk.lt{w g f E xs}(h:Sk w g f E xs):g<w.heap.size:=(za0.1 h.blk).1
def Sk.tch{S w w' g f E xs}(h:Sk w g f E xs)(q:AD S w w')(r:¬S g)(A:∀k,f.ownBlock=some k->¬S k):Sk w' g f E xs:=
 ⟨by rw[q.block g h.lt r];exact h.blk,h.own.tch q A⟩
def Sk.below{w w' g f E xs}(h:Sk w g f E xs)(q:Below w.heap.size w w'):Sk w' g f E xs:=h.tch (S:=λ _=>False) (AD.of_below q) (λ e=>e) (λ _ _ e=>e)
def Sk.ne{w g r E xs}(h:Sk w g r E xs):r.ownBlock≠some g:=by
 intro f;rcases h.own.2 with⟨rfl,_⟩|⟨B,cap,A,rfl,_,q,_⟩
 .simp[Value.ownBlock]at f
 .simp only[Value.ownBlock,Option.some.injEq]at f;subst f;rw[h.blk]at q;simp at q
structure Aq(w:World)(g:Nat)(ov:Value)(w':World)(ov':Value)(E:Int)(xs:List Int):Prop where
 sk:Sk w' g ov' E xs
 tch:AD (λ k=>k=g\/ov.ownBlock=some k) w w'
 fresh:∀k,ov'.ownBlock=some k->ov.ownBlock=some k\/w.heap.size<=k
def Aq.trans{w I J g A B E L r T K}(f:Aq w g A I B L T)(q:Aq I g B J E r K):Aq w g A J E r K:=by
 refine⟨q.sk,f.tch.trans q.tch λ i U e=>?_,λ k O=>?_⟩
 .rcases e with e|e;omega
  .rcases f.fresh i e with e|e
   .grind
   .omega
 .rcases q.fresh k O with e|e;exact f.fresh k e;have:=f.tch.size;omega
def Aq.pre{w E I g q B r J}(A:Below w.heap.size w E)(f:Aq E g q I B r J):Aq w g q I B r J:=
 ⟨f.sk,(AD.of_below (S:=λ k=>k=g\/q.ownBlock=some k) A).trans f.tch (λ i L e=>e),λ k K=>by
  rcases f.fresh k K with e|e
  .grind
  .have:=A.size;omega⟩
def Aq.kept{w w' g f E xs}(h:Sk w' g f E xs)(r:AD (λ k=>k=g) w w'):Aq w g f w' f E xs:=⟨h,r.mono (λ _ _ e=>.inl e),λ k q=>.inl q⟩
def Gf(E e:Int):Int:=if E=0 then e else E
def JY(g r E f xs w)(h:Sk w g r E xs):
 Calls prog 124 #[.pointer (some ⟨g,0,none⟩),.int .i64 f] w λ e w'=>e=.returned (.tuple #[])/\Sk w' g r (Gf E f) xs/\AD (λ k=>k=g) w w':=by
 have H:=z6 h;have c1:=h.c1;have K:=h.fz 1;clear h;unfold Gf;by_cases q:E=0
 .have I:(E==0)=true:=by simp[q]
  rw[if_pos q];have B:Hid (Sk (w.setCell ⟨g,1,none⟩ (.int .i64 f)) g r f xs/\AD (λ k=>k=g) w (w.setCell ⟨g,1,none⟩ (.int .i64 f))):=by have A:AD (λ k=>k=g) w (w.setCell ⟨g,1,none⟩ (.int .i64 f)):=(AD.refl (λ k=>k=g) w).setCell (p:=⟨g,1,none⟩) (λ _=>rfl) _;refine⟨⟨?_,H.o.own.tch A (λ k J e=>H.o.ne (by rw[J,e]))⟩,A⟩;rw[heap_setCell_same w g 1 _ _ (.int .i64 f) H.o.blk];simp
  clear q
  go_enter func124,ntmps124
  go_wp2
  go_end0
  exact⟨rfl,B.o⟩
 .have I:(E==0)=false:=by simp[q]
  rw[if_neg q];clear q
  go_enter func124,ntmps124
  go_wp2
  go_end0
  exact⟨rfl,H.o,AD.refl _ _⟩
def Fj(g r E I xs v ys w)(h:Sk w g r E xs)(hr:Rd .u8 w v ys)(hv:v.ownBlock≠some g)(hl:xs.length+ys.length<=140737488355328):
 Calls prog 93 #[.pointer (some ⟨g,0,none⟩),v,.int .i64 I] w λ e w'=>e=.returned (.tuple #[])/\∃a5,Aq w g r w' a5 (Gf E I) (xs++ys):=by
 have H:=z6 h;have W:=z6 hr;clear h hr
 go_enter func93,ntmps93
 go_wp2_with fail;refine(JY g r E I xs w H.o).mono ?_;rintro e w1 ⟨rfl,L,U⟩;have q:=z6 L;have K:=z6 U;have Y:=z6 (W.o.tch U (λ b hb e=>hv (by rw[hb,e])));have c0:=L.c0;obtain⟨X,a0⟩:=exH (Gf E I);rw[a0.o]at q;clear L U H W;go_wp2_with(at_builtin;refine Hr _ rfl (.tmp 13) (.tmp 14) 40 rfl 5 .u8 1 Dd _ xs rfl q.o.own _ ys rfl Y.o (by omega) (by omega) ?_)
 intro B f T A;have J:f.heap[g]?=some (.cells #[r,.int .i64 X] 176 (0,0)):=by rw[A.tch.block g q.o.lt (λ e=>q.o.ne e)];exact q.o.blk
 have d0:f.cell? ⟨g,0,none⟩=some r:=by rw[cell_of_row f g 0 _ _ (0,0) J];rfl
 have f0:=frozen_of_row f g 0 _ _ J;have HS:Hid (Aq w g r (f.setCell ⟨g,0,none⟩ B) B X (xs++ys)):=by
  have t2:AD (λ k=>k=g) f (f.setCell ⟨g,0,none⟩ B):=(AD.refl (λ k=>k=g) f).setCell (p:=⟨g,0,none⟩) (λ _=>rfl) _;have a4:B.ownBlock≠some g:=λ e=>by rcases A.fresh g e with Z|Z;exact q.o.ne Z;have:=q.o.lt;omega
  refine⟨⟨?_,T.tch t2 (λ k O e=>a4 (by rw[O,e]))⟩,((K.o.mono (S':=λ k=>k=g\/r.ownBlock=some k) (λ _ _ e=>.inl e)).trans A.tch (λ i hi e=>.inr e)).trans t2 (λ i hi e=>.inl e),λ k O=>?_⟩;rw[heap_setCell_same f g 0 _ _ B J];simp;rcases A.fresh k O with e|e;exact .inl e;have:=K.o.size;exact .inr (by omega)
 obtain⟨a2,a6,a1,_⟩:=T.rd;obtain⟨L2,a3⟩:=exH ((xs++ys).length);rw[a3.o]at a1;clear T A J q K Y c0;subst a1;go_wp2_with fail
 go_end0
 rw[a0.o];exact⟨rfl,_,HS.o⟩
def Kp(g A E xs)(n:Nat)(w)(h:Sk w g A E xs)(hn:n<=4294967295)(hl:xs.length<=140737488355000):
 Calls prog 92 #[.pointer (some ⟨g,0,none⟩),.int .i64 (n:Int)] w λ e w'=>e=.returned (.tuple #[])/\∃X,Aq w g A w' X E (xs++AQ n):=by
 have H:=z6 h;have Z:=F0 (n:Int);clear h
 go_enter func92,ntmps92
 go_wp2_with fail;refine(Uk (.slice none 0 0) [] (n:Int) w (Mi _ _) (by simp) (by omega) (by omega)).mono ?_;rintro e Y ⟨O,rfl,r,L⟩;obtain⟨q,K⟩:=L.below;rw[List.nil_append]at r;have J:=z6 (H.o.below q);have B:=z6 q;have I:=z6 r;have W:O.ownBlock≠some g:=λ e=>by have:=K g e;have:=H.o.lt;omega
 clear r L q K H;go_wp2_with fail;refine(Fj g A E 0 xs O _ Y J.o I.o.rd W (by omega)).mono ?_;rintro e w2 ⟨rfl,a0,f⟩;have U:Gf E 0=E:=by unfold Gf;omega
 rw[U]at f;have T:=z6 (Aq.pre B.o f);clear f J B I;go_wp2_with fail
 go_end0
 exact⟨rfl,_,T.o⟩
def QA(g f E r xs v ys w)(h:Sk w g f E xs)(hr:Rd .u8 w v ys)(hv:v.ownBlock≠some g)(K:∀k,v.ownBlock=some k->f.ownBlock≠some k)(L:∀k,v.ownBlock=some k->k<w.heap.size)(hl:xs.length<=4294967295)(W:ys.length<=4294967295):
 Calls prog 163 #[.pointer (some ⟨g,0,none⟩),v,.int .i64 r] w λ e w'=>e=.returned (.tuple #[])/\∃Y,Aq w g f w' Y (Gf E r) (xs++AQ ys.length++ys):=by
 have H:=z6 h;have B:=z6 hr;have T:=z6 K;have a0:=z6 L;have hd:=F0 (ys.length:Int);obtain⟨va,vc,X,_⟩:=hr;clear h K L;subst X
 go_enter func163,ntmps163
 go_wp2_with fail;refine(Kp g f E xs ys.length w H.o W (by omega)).mono ?_;rintro e w1 ⟨rfl,Z,A⟩;have q:=z6 A;have I:=z6 (B.o.tch A.tch (λ b U e=>by rcases e with e|e;(· grind);(· exact T.o b U e)));clear A H B;go_wp2_with fail;refine(Fj g Z E r _ _ ys w1 q.o.sk I.o hv (by grind)).mono ?_;rintro e w2 ⟨rfl,a1,J⟩;have O:=z6 (q.o.trans J);clear J q I;go_wp2_with fail
 go_end0
 exact⟨rfl,_,O.o⟩
def BO(c:Nat):List Int:=[((c % 256:Nat):Int),((c / 256 % 256:Nat):Int),((c / 65536 % 256:Nat):Int),((c / 16777216 % 256:Nat):Int)]
def AGo(c k)(f:k<4):(BO c).take (k+1)=(BO c).take k++[((c / 2 ^ (8*k) % 256:Nat):Int)]:=by
 match k,f with
 | 0,_=>simp[BO]
 | 1,_=>simp[BO]
 | 2,_=>simp[BO]
 | 3,_=>simp[BO]
def QB(g A E xs v ys w)(h:Sk w g A E xs)(hr:Rd .u8 w v ys)(hy:By ys)(hl:xs.length<=4294967295):
 Calls prog 98 #[.pointer (some ⟨g,0,none⟩),v] w λ e w'=>e=.returned (.tuple #[])/\∃q,Aq w g A w' q E (xs++BO (BU ys)):=by
 have H:=z6 h;have Z:=z6 hr;have HY:=z6 hy;clear h hr hy;have aa:BU ys<=4294967295:=by unfold BU;omega
 obtain⟨c,hc⟩:=exH (BU ys);rw[hc.o]at aa |-
 go_enter func98,ntmps98
 go_wp2_with fail;refine(Nz v ys w Z.o HY.o).mono ?_;rintro e K ⟨rfl,rfl⟩;rw[hc.o];clear Z HY hc;go_wp2_with fail
 go_loopw [8] (λ i wr=>∃(k:Nat)(q:Value),k<=4/\i=.int .i64 k/\Hid (Aq K g A wr q E (xs++(BO c).take k))) (λ i _=>4-(intOf i).toNat)
 case atStart=>exact⟨0,A,by omega,rfl,by simpa[Hid]using(⟨H.o,AD.refl _ _,λ k I=>.inl I⟩:Aq K g A K A E xs)⟩
 case round=>
  obtain⟨k,q,I,rfl,S⟩:=hrel;by_cases ae:k<4
  .have an:(k:Int)<4:=by omega
   obtain⟨b,O⟩:∃b:Nat,Hid (c / 2 ^ (8*k) % 256=b):=⟨_,rfl⟩
   (have ai:(c:Int) / 2 ^ (8*k) % 256=(b:Int):=by rw[<-O.o];push_cast;rfl);(have a9:Hid ((BO c).take (k+1)=(BO c).take k++[(b:Int)]):=by show _=_;rw[AGo c k ae,O.o]);(have ad:(xs++(BO c).take k).length<=4294967299:=by rw[zc0,zd0];simp[BO];omega);obtain⟨J,a4⟩:=exH (xs++(BO c).take k);rw[a4.o]at ad S;have c0:=S.o.sk.c0;have ac:=S.o.sk.lt;have HO:=z6 S.o.sk.own;(have a7:Hid (J.length+1<=maxLen):=by show _<=_;unfold maxLen;omega);(have a8:Hid ((J.length+1)*1<=140737488355328):=by show _<=_;omega);have ao:IntKind.i64.wrap (8*(k:Int))=8*(k:Int):=Bp _ (by omega) (by omega);(have am:(0:Int)<=8*(k:Int):=by omega);have f0:=S.o.sk.fz 0
   have Y:Hid (∀W,Below wr.heap.size wr W->W.heap[g]?=some (.cells #[q,.int .i64 E] 176 (0,0))/\AF .u8 5 W q J):=λ W B=>⟨by rw[B.block g ac];exact S.o.sk.blk,HO.o.below B⟩
   go_wp2_with fail;have aj:IntKind.u8.wrap ((c:Int) / 2 ^ (8*(k:Int)).toNat)=(b:Int):=by rw[show(8*(k:Int)).toNat=8*k by omega,IntKind.wrap_u8'];exact ai
   have a6:Hid (∀(W r f:_),Below wr.heap.size wr W->AF .u8 5 f r (J++[(b:Int)])->AY W f q r->f.cell? ⟨g,0,none⟩=some q/\f.frozen? ⟨g,0,none⟩=false/\∃a L cp,r=.slice a L cp/\Hid (Aq K g A (f.setCell ⟨g,0,none⟩ (.slice a L cp)) (.slice a L cp) E (xs++(BO c).take (k+1)))):=λ W r f B ho T=>by
    (obtain⟨O,hO⟩:=Y.o W B;have a2:=S.o.sk.ne;(have ab:g<W.heap.size:=by have:=B.size;omega);(have U:f.heap[g]?=some (.cells #[q,.int .i64 E] 176 (0,0)):=by rw[T.tch.block g ab (λ e=>a2 e)];exact O);obtain⟨a,cp,hv,_⟩:=ho.rd;refine⟨by rw[cell_of_row f g 0 _ _ (0,0) U];rfl,frozen_of_row f g 0 _ _ U,a,_,cp,hv,?_⟩;show Aq _ _ _ _ _ _ _;rw[<-hv];have t2:AD (λ k=>k=g) f (f.setCell ⟨g,0,none⟩ r):=(AD.refl (λ k=>k=g) f).setCell (p:=⟨g,0,none⟩) (λ _=>rfl) _;have af:r.ownBlock≠some g:=λ e=>by rcases T.fresh g e with e2|e2;exact a2 e2;omega);have ak:Aq wr g q (f.setCell ⟨g,0,none⟩ r) r E (J++[(b:Int)]):=by
     refine⟨⟨?_,ho.tch t2 (λ k I e=>af (by rw[I,e]))⟩,((AD.of_below (S:=λ k=>k=g\/q.ownBlock=some k) B).trans T.tch (λ i hi e=>.inr e)).trans t2 (λ i hi e=>.inl e),λ k I=>?_⟩;rw[heap_setCell_same f g 0 _ _ r U];simp;rcases T.fresh k I with e|e;exact .inl e;have:=B.size;exact .inr (by omega)
    have a0:=S.o.trans ak;rw[<-a4.o,zr0,<-a9.o]at a0;exact a0
   go_region_law (refine AGa rfl (.tmp 15) (.tmp 21) 40 rfl 5 .u8 1 Dd q J ?h1 ?h2 (b:Int) wr.heap.size ?h3 ?h4 a7.o a8.o ?_;(case h1=>kernel_rfl);(case h2=>exact(Y.o _ (by repeat(first|exact Below.refl _ _|apply Below.drew|refine Below.alloc ?_ (by first|exact AE _|simp) _))).2);(case h3=>kernel_rfl);(case h4=>first|(simp;done)|(simp;exact aj));intro r f a3 a1 ag;obtain⟨d0,e0,a5,L5,al,rfl,X⟩:=a6.o _ r f (by repeat(first|exact Below.refl _ _|apply Below.drew|refine Below.alloc ?_ (by first|exact AE _|simp) _)) a3 a1;clear a3 a1 ag)
   try simp only[List.getElem_toArray,List.getElem_cons_succ,List.getElem_cons_zero,Act.put,List.setIfInBounds_toArray,List.set_cons_zero,List.set_cons_succ]
   go_wp2_with fail
   go_roundw
   (case rel=>exact⟨k+1,_,by omega,by go_num,X⟩);(case measure=>simp[intOf];omega);all_goals exact⟨⟨k+1,_,by omega,by go_num,X⟩,by simp[intOf];omega⟩
  .obtain rfl:k=4:=by omega
   (have HS:Hid (Aq K g A wr q E (xs++BO c)):=by have:=S.o;rw[show(BO c).take 4=BO c from rfl]at this;exact this);go_wp2_with fail
   go_end0
   exact⟨rfl,_,HS.o⟩
