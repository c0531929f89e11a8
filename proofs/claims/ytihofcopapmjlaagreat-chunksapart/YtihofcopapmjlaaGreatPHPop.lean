import Derived.Test.YtihofcopapmjlaaGreatPFGetP
import Derived.Deep.RegionLaw
import Derived.Deep.AppendLies
set_option maxRecDepth 100000
set_option linter.all false
set_option maxHeartbeats 8000000
namespace Go.Proofs.YtihofcopapmjlaaGreat
open Go.Proofs.Tryz
open Go.RowKit Pl Hf
def AED(ps n):(BR ps).take (n*2)=BR (ps.take n):=by
 induction ps generalizing n with
 | nil=>simp[BR]
 | cons q r f=>
  match n with
  | 0=>simp[BR]
  | n+1=>have:=f n;rw[show(n+1)*2=n*2+1+1 by omega];simpa[BR]using this
def BT.shrink{w g m cap ps}(h:BT w (.slice (some ⟨g,0,none⟩) m cap) ps)(n)(O:n<=ps.length):BT w (.slice (some ⟨g,0,none⟩) n cap) (ps.take n):=by
 have r:=h;have f:(ps.take n).length=n:=by grind
 unfold BT;rw[f];refine⟨by rw[Kg,f],?_⟩;rcases r.2 with⟨e,_⟩|⟨L,K,q,e,A,I,T,B,E,J⟩
 .cases e
 .simp only[Value.slice.injEq,Option.some.injEq,Addr.mk.injEq,and_true]at e;obtain⟨rfl,rfl,rfl⟩:=e;refine .inr ⟨g,cap,q,rfl,A,I,by omega,B,E,?_⟩;rw[<-AED,<-J,zz0]
  grind
def AG6(h v ps n w)(H:Hp w h v ps)(K:ps.length=n+1):
 Calls prog 291 #[.pointer (some ⟨h,0,none⟩)] w λ e w'=>e=.returned (.iface 363 (.agg #[.int .i64 (G ps n).1,.int .i64 (G ps n).2]))/\
  ∃r,Hp w' h r (ps.take n)/\r.ownBlock=v.ownBlock/\AD (λ k=>k=h) w w':=by
 obtain⟨g,cap,rfl,X,B,J,hc,A⟩:=H.own.shape (by omega);obtain⟨L,O,q,U,c1⟩:=H.own.at2 n (by omega);have f:=z6 H;have ch:=H.c0;have W:=H.fz;have I:=H.lt;have Y:g≠h:=λ e=>H.ne (by rw[e];rfl);rw[q];simp only;rw[K]at ch B |-
 unfold maxLen at J;clear hc A H q
 go_enter func291,ntmps291
 go_wp2_with fail;go_ret;have T:AD (λ k=>k=h) w ((w.setCell ⟨h,0,none⟩ (.slice (some ⟨g,0,none⟩) n cap)).alloc (.cells #[.int .i64 L,.int .i64 O] 363)):=AD.alloc (AD.setCell (AD.refl (λ k=>k=h) w) (p:=⟨h,0,none⟩) (λ _=>rfl) _) _;refine⟨rfl,_,⟨?_,(f.o.own.shrink n (by omega)).tch T (λ j E e=>?_)⟩,rfl,T⟩;rw[Below.heap_alloc _ _ _ (by simpa[World.setCell]using I),heap_setCell_same w h 0 _ _ _ f.o.blk];simp;simp only[Value.ownBlock,Option.some.injEq]at E;omega
def AG7(h v ps p w)(H:Hp w h v ps)(hl:ps.length<=100000):
 Calls prog 292 #[.pointer (some ⟨h,0,none⟩),.iface 363 (.agg #[.int .i64 p.1,.int .i64 p.2])] w λ e w'=>e=.returned (.tuple #[])/\
  ∃X,Hp w' h X (ps++[p])/\(∀k,X.ownBlock=some k->v.ownBlock=some k\/w.heap.size<=k)/\AD (λ k=>k=h\/v.ownBlock=some k) w w':=by
 have B:Hid (Hp w h v ps):=H;have ch:=H.c0;have fh:=H.fz;have O:=H.lt;clear H;obtain⟨i0,hi,a2,a3,a4⟩:=info_parts Ok;obtain⟨q,r⟩:=p;have ta:∀(w:World)(x y:Int),(Instr.typeAssert (.iface 363 (.agg #[.int .i64 x,.int .i64 y])) 20 363 false).run prog w=.ok (.agg #[.int .i64 x,.int .i64 y]) w:=λ _ _ _=>by kernel_rfl
 have HO:Hid (∀o,(w.alloc o).ownsRow 0 363 2 v ps.length (BR ps)):=λ o=>World.ownsRow.alloc B.o.own o;have HN:Hid (∀j u,[Value.int .i64 q,.int .i64 r][j]?=some u->(w.alloc (.cells #[.int .i64 q,.int .i64 r] 363)).cell? ((⟨w.heap.size,0,none⟩:Addr).add j)=some u):=World.news_of_block (cs:=#[.int .i64 q,.int .i64 r]) (heap_alloc_new w _);have Y:Hid (∀u∈[Value.int .i64 q,.int .i64 r],u.oneCell'=true):=λ u W=>by simp at W;rcases W with rfl|rfl<;>rfl
 have HM:Hid (ps.length+1<=maxLen):=by show _<=_;unfold maxLen;omega
 have Z:Hid (∀I f:World,I.grownBy f v.ownBlock->I.heap=(w.alloc (.cells #[.int .i64 q,.int .i64 r] 363)).heap->f.cell? ⟨h,0,none⟩=some v/\f.frozen? ⟨h,0,none⟩=false):=λ I f hg K=>by have A:=hg.block h (by rw[K];simp;omega) (λ e=>B.o.ne e.symm);rw[K,Below.heap_alloc _ _ _ O]at A;exact⟨(World.cell?_of_block (w:=w) A).trans ch,(World.frozen?_of_block (w:=w) A).trans fh⟩
 simp only
 go_enter func292,ntmps292
 go_wp2_with fail
 go_region_law (refine step_append_lies _ rfl (.tmp 7) (.tmp 10) 361 rfl 0 363 i0 _ 2 16 underlying361 hi a2 a3 a4 rfl (by decide) v ps.length (BR ps) (by simp[Act.eval]) (by exact HO.o _) ⟨w.heap.size,0,none⟩ 1 1 [.int .i64 q,.int .i64 r] (by simp[Act.eval]) rfl (by exact HN.o) (by exact Y.o) (by decide) (by exact HM.o) (by omega) (AI _) (w.heap.size+1) (by simp) ?_;intro g cap f a1 E a0 a8;obtain⟨a5,a6⟩:=Z.o _ f E rfl)
 all_goals
  go_end0
  have J:f.heap[h]?=some (.cells #[v] 361 (0,0)):=by have A:=E.block h (by simp;omega) (λ e=>B.o.ne e.symm);rw[A];show(w.alloc _).heap[h]?=_;rw[Below.heap_alloc _ _ _ O];exact B.o.blk
  have U:BT f (.slice (some ⟨g,0,none⟩) (ps.length+1) cap) (ps++[(q,r)]):=by unfold BT;rw[Ua];simpa[BR]using a1
  have T:AD (λ k=>k=h\/v.ownBlock=some k) w (f.setCell ⟨h,0,none⟩ (.slice (some ⟨g,0,none⟩) (ps.length+1) cap)):=
   AD.setCell (AD.grown (by first|exact AD.drew ((AD.refl _ w).alloc _)|exact(AD.drew (AD.refl _ w)).alloc _) E (λ k _ e=>.inr e)) (p:=⟨h,0,none⟩) (λ _=>.inl rfl) _
  have a7:g≠h:=U.ne_blk J (by decide) rfl;refine⟨rfl,_,⟨?_,U.tch (S:=λ k=>k=h) (AD.setCell (AD.refl (λ k=>k=h) f) (p:=⟨h,0,none⟩) (λ _=>rfl) _) (λ j hj e=>?_)⟩,λ k L=>?_,T⟩;rw[heap_setCell_same f h 0 _ _ _ J];simp;simp only[Value.ownBlock,Option.some.injEq]at hj;omega
  .simp only[Value.ownBlock,Option.some.injEq]at L;subst L;rcases a0 with e|e;exact .inl e;exact .inr (by omega)
def Si(h v ps n w)(H:Hp w h v ps)(B:ps.length=n+1)(hl:ps.length<=100000)(W:CQ ps ps.length 0):
 Calls prog 165 #[Am h] w λ e w'=>e=.returned (.iface 363 (.agg #[.int .i64 (G ps 0).1,.int .i64 (G ps 0).2]))/\
  ∃q f,Hp w' h q f/\CQ f f.length 0/\ps.Perm (G ps 0::f)/\q.ownBlock=v.ownBlock/\AD (λ k=>k=h\/v.ownBlock=some k) w w':=by
 have HH:=z6 H;have a8:=z6 W;obtain⟨X,A⟩:=exH (G ps 0);rw[A.o];obtain⟨a,cap,Am⟩:=H.len;have m0:=PD ⟨h,0,none⟩ v w H.c0;have m1:=KZ ⟨h,0,none⟩ v w H.c0;rw[B]at Am;subst Am;clear H W
 go_enter func165,ntmps165
 go_wp2_with fail;refine(K8 a (n+1) cap w).mono ?_;rintro e w1 ⟨rfl,rfl⟩;go_wp2_with fail;refine(K9 h _ ps 0 n _ _ w1 HH.o (by omega) (by omega) (by omega) (by omega)).mono ?_;rintro e w2 ⟨rfl,Z,a5⟩;have J:=z6 Z;have O:=z6 a5;have HF:Hid (CQ (C8 ps 0 n) n (0+1)):=by intro x c h1 T h3;have ab:=T;unfold Ch at ab;rw[Ku ps (by omega) (by omega) x,Ku ps (by omega) (by omega) c,if_neg (by omega),if_neg (by omega),if_neg (by omega),if_neg (by omega)];exact a8.o x c (AI _) T (by omega)
 have a4:(C8 ps 0 n).length=n+1:=by rw[M0,B]
 have r:=z6 a4;clear Z a5 m0 m1 a4;go_wp2_with fail;refine(SI h _ (C8 ps 0 n) 0 n w2 J.o (by rw[r.o];omega) (by rw[r.o];omega) (AI _) HF.o).mono ?_;rintro e I ⟨⟨u,rfl⟩,f,a0,E,a3,Y,a6⟩;have a1:=AEL B E a3;have a2:f.length=n+1:=by rw[E.length_eq,r.o]
 have a9:=z6 a0;have K:=z6 a1;have aa:Hid (AD (λ k=>(Value.slice a (n+1) cap).ownBlock=some k) w1 I):=O.o.trans a6 (λ _ _ e=>e);have a7:=z6 Y;have L:=z6 a2;have m2:=ACz ⟨h,0,none⟩ I;clear a0 E a3 Y a6 a1 a2 J O;go_wp2_with fail;refine(AG6 h _ f n I a9.o L.o).mono ?_;rintro e w4 ⟨rfl,q,ac,ae,ad⟩;have U:=K.o.1.trans A.o;rw[U];clear U;go_wp2_with fail;go_ret;refine⟨rfl,q,f.take n,ac,?_,by have:=K.o.2;rw[A.o]at this;exact this,ae,(aa.o.mono (λ _ _ e=>.inr e)).trans ad (λ _ _ e=>.inl e)⟩;have e:(f.take n).length=n:=by rw[zd0,L.o];omega
 rw[e];exact a7.o.take
def AAo(h v ps p w)(H:Hp w h v ps)(hl:ps.length<100000)(B:CQ ps ps.length 0):
 Calls prog 121 #[Am h,.iface 363 (.agg #[.int .i64 p.1,.int .i64 p.2])] w λ e w'=>e=.returned (.tuple #[])/\
  ∃K f,Hp w' h K f/\CQ f f.length 0/\f.Perm (ps++[p])/\(∀k,K.ownBlock=some k->v.ownBlock=some k\/w.heap.size<=k)/\AD (λ k=>k=h\/v.ownBlock=some k) w w':=by
 have O:=z6 H;have T:=z6 B;have m0:=AC1 ⟨h,0,none⟩ w;clear H B
 go_enter func121,ntmps121
 go_wp2_with fail;refine(AG7 h v ps p w O.o (by omega)).mono ?_;rintro e L ⟨rfl,v1,q,A,J⟩;have U:=z6 q;have r:=z6 A;have W:=z6 J;obtain⟨a,cap,Am⟩:=q.len;have E:(ps++[p]).length=ps.length+1:=by simp
 rw[E]at Am;subst Am;have m1:=PD ⟨h,0,none⟩ _ L q.c0;clear q A J m0 E;go_wp2_with fail;refine(K8 a (ps.length+1) cap L).mono ?_;rintro e w2 ⟨rfl,rfl⟩;go_wp2_with fail;refine(AHu h _ (ps++[p]) (ps.length+1) ps.length _ U.o (by simp;omega) (Up.start T.o)).mono ?_;rintro e w3 ⟨rfl,f,X,I,Z,Y⟩;go_wp2_with fail
 go_end0
 have e:f.length=ps.length+1:=by rw[I.length_eq];simp
 refine⟨rfl,_,f,X,by grind,I,r.o,W.o.trans Y (λ i hi e=>?_)⟩;rcases r.o i e with e|e
 .grind
 .omega
def AAm(h v ps w)(H:Hp w h v ps)(hl:ps.length<=100000):
 Calls prog 258 #[Am h] w λ e w'=>e=.returned (.tuple #[])/\∃f,Hp w' h v f/\CQ f f.length 0/\f.Perm ps/\AD (λ k=>v.ownBlock=some k) w w':=by
 have I:=z6 H;obtain⟨a,cap,a0⟩:=H.len;have m0:=PD ⟨h,0,none⟩ v w H.c0;clear H
 go_enter func258,ntmps258
 go_wp2_with fail;refine(K8 a ps.length cap w).mono ?_;rintro e T ⟨rfl,rfl⟩;have hq:((ps.length:Int)).tdiv 2=((ps.length / 2:Nat):Int):=(Int.ofNat_tdiv _ _).symm;clear m0;go_wp2_with fail
 go_loopw [3] (λ i wr=>∃(k:Nat) (f:List (Int×Int)),k<=ps.length/\i=.int .i64 ((k:Int)-1)/\Hid (Hp wr h v f)/\Hid (CQ f ps.length k)/\Hid (f.Perm ps)/\Hid (AD (λ k=>v.ownBlock=some k) T wr)) (λ i _=>(intOf i+1).toNat)
 case atStart=>exact⟨ps.length / 2,ps,by omega,by first|rfl|go_num,I,(λ x c h1 h2 h3=>by unfold Ch at h2;omega),List.Perm.refl _,AD.refl _ _⟩
 case round=>
  obtain⟨k,f,hk,rfl,A,r,q,B⟩:=hrel;clear I;by_cases Z:k=0
  .subst Z;(have E:((0:Nat):Int)-1=-1:=by omega);rw[E];go_wp2_with fail
   go_end0
   exact⟨rfl,f,A.o,by rw[q.o.length_eq];exact r.o,q.o,B.o⟩
  .obtain⟨m,rfl⟩:∃m,k=m+1:=⟨k-1,by omega⟩
   (have E:((m+1:Nat):Int)-1=(m:Int):=by omega);rw[E];go_wp2_with fail;refine(SI h v f m ps.length wr A.o (by rw[q.o.length_eq];omega) (by rw[q.o.length_eq];omega) (by omega) r.o).mono ?_;rintro e w2 ⟨⟨u,rfl⟩,q2,K,L,_,J,O⟩;have W:=z6 K;have U:=z6 J;have X:=z6 (L.trans q.o);have Y:Hid (AD (λ k=>v.ownBlock=some k) T w2):=B.o.trans O (λ _ _ e=>e);clear K L J O A r q B;go_wp2_with fail
   go_roundw
   (case rel=>exact⟨m,q2,by omega,by first|rfl|go_num,W,U,X,Y⟩);case measure=>simp[intOf]
def tk(ws:List Int)(k:Nat):List (Int×Int):=(List.range k).map λ i=>(ws.getD i 0,(i:Int))
def AHh(f k):tk f (k+1)=tk f k++[(f.getD k 0,(k:Int))]:=by unfold tk;rw[List.range_succ,za1];rfl
def WM(f k):(tk f k).length=k:=by simp[tk]
def Ti{l:List Nat}{x}(h:x∈l):x<=l.sum:=by
 induction l with
 | nil=>simp at h
 | cons y r f=>grind
structure DE(w0 w:World)(h:Nat)(v:Value)(ps:List (Int×Int)):Prop where
 hp:Hp w h v ps
 bel:Below w0.heap.size w0 w
 hn:w0.heap.size<=h
 vn:∀k,v.ownBlock=some k->w0.heap.size<=k
def Hp.push{w f h v q ps E}(H:Hp w h v ps)(B:BT f q E)(A:AY w f v q):
 f.cell? ⟨h,0,none⟩=some v/\f.frozen? ⟨h,0,none⟩=false/\Hid (Hp (f.setCell ⟨h,0,none⟩ q) h q E/\AD (λ k=>k=h\/v.ownBlock=some k) w (f.setCell ⟨h,0,none⟩ q)):=by
 have r:f.heap[h]?=some (.cells #[v] 361 (0,0)):=by rw[A.tch.block h H.lt (λ e=>H.ne e)];exact H.blk
 refine⟨by rw[cell_of_row f h 0 _ _ (0,0) r];rfl,frozen_of_row f h 0 _ _ r,⟨?_,B.tch (S:=λ k=>k=h) (AD.setCell (AD.refl (λ k=>k=h) f) (p:=⟨h,0,none⟩) (λ _=>rfl) _) (λ j I e=>B.ne_blk r (by decide) I e)⟩,?_⟩;rw[heap_setCell_same f h 0 _ _ _ r];simp;exact AD.setCell (A.tch.mono (λ _ _ e=>.inr e)) (p:=⟨h,0,none⟩) (λ _=>.inl rfl) _
def DE.step{r w w' h v f ps q}(H:DE r w h v ps)(E:Hp w' h f q)(I:AD (λ k=>k=h\/v.ownBlock=some k) w w')(A:∀k,f.ownBlock=some k->v.ownBlock=some k\/w.heap.size<=k):DE r w' h f q:=by refine⟨E,H.bel.trans (I.below H.bel.size (λ k e=>by rcases e with e|e;(· rw[e];exact H.hn);(· exact H.vn k e))),H.hn,λ k B=>?_⟩;rcases A k B with e|e;exact H.vn k e;have:=H.bel.size;omega
def DE.tch{S f w w' h v ps}(H:DE f w h v ps)(q:AD S w w')(r:∀k,S k->f.heap.size<=k)(A:¬S h)(hr:∀k,v.ownBlock=some k->¬S k):DE f w' h v ps:=
 ⟨H.hp.tch q A hr,H.bel.trans (q.below H.bel.size r),H.hn,H.vn⟩
def DE.below{f w w' h v ps}(H:DE f w h v ps)(q:Below w.heap.size w w'):DE f w' h v ps:=
 H.tch (S:=λ _=>False) (AD.of_below q) (λ _ e=>e.elim) (λ e=>e) (λ _ _ e=>e)
def Hp.apart{w h v pv ps P}(H:Hp w h v ps)(O:AF .i64 3 w pv P):∀j,pv.ownBlock=some j->¬(j=h\/v.ownBlock=some j):=by
 intro j q;obtain⟨c1,f⟩:=JJ (show w.ownsRow 0 3 1 pv P.length (P.map (Value.int .i64))from O) q;rintro(e|e);subst e;rw[H.blk]at f;simp at f
 .obtain⟨r,A⟩:=JJ (show w.ownsRow 0 363 2 v ps.length (BR ps)from H.own) e
  grind
def AF.at1{w g n cap xs}(h:AF .i64 3 w (.slice (some ⟨g,0,none⟩) n cap) xs)(i)(A:i<xs.length):w.cell? ⟨g,i,none⟩=some (.int .i64 (xs.getD i 0))/\w.frozen? ⟨g,i,none⟩=false/\g<w.heap.size:=by
 obtain⟨q,f,e,B,_,_,hc,r⟩:=AF.shape h (by omega)
 grind
def ABf(v q w)(hr:Rd .i64 w v q)(h2:2<=q.length)(h3:q.length<=256)(br:∀i,i<q.length->0<q.getD i 0)(S)(hS:((List.range q.length).map λ i=>(q.getD i 0).toNat).sum=S)(d9:S<=1000000000000000):
 Calls prog 257 #[v] w λ e w'=>∃pv P t N f,e=.returned pv/\AF .i64 3 w' pv P/\JS P N q.length [t] (Dr (λ i=>(q.getD i 0).toNat) q.length) S f/\Below w.heap.size w w'/\∀k,pv.ownBlock=some k->w.heap.size<=k:=by
 have HR:=z6 hr;obtain⟨i0,hi,d1,d2,d3⟩:=info_parts Ok;obtain⟨a,cap,rfl,dd,da,_,bb⟩:=hr;obtain⟨b,o,rfl,hc⟩:∃b o,a=some ⟨b,o,none⟩/\∀i,i<q.length->w.cell? ⟨b,o+i,none⟩=some (.int .i64 (q.getD i 0)):=by rcases bb with rfl|h;simp at h2;exact h
 have HC:=z6 hc;clear bb hc;have b5:=z6 br;have HS:=z6 hS;clear br hS;have HW:Hid (∀i,i<q.length->q.getD i 0<=1000000000000000):=λ i hi=>by have:(q.getD i 0).toNat<=((List.range q.length).map λ i=>(q.getD i 0).toNat).sum:=Ti (List.mem_map.2 ⟨i,by simpa using hi,rfl⟩);rw[HS.o]at this;omega
 go_enter func257,ntmps257
 go_wp2_with(at_make;refine wpList_make_own _ rfl (.const (.int .i64 0)) (.tmp 11) 361 rfl 0 363 i0 _ 2 underlying361 hi d1 d2 .i64 .i64 _ q.length rfl rfl rfl (by rw[d3];omega) (by unfold maxLen;omega) (AI _) ?_)
 intro w1 bk bd;have O1:Hid (DE w (w1.alloc (.cells #[.slice (some ⟨w.heap.size,0,none⟩) 0 q.length] 361)) w1.heap.size (.slice (some ⟨w.heap.size,0,none⟩) 0 q.length) (tk q 0)):=by have b1:=(Below.refl _ _).grown bd (AE _) (λ k e=>by cases e);refine⟨⟨heap_alloc_new w1 _,BT.below (show BT w1 _ []from bk) ((Below.refl _ _).alloc (AE _) _)⟩,b1.alloc b1.size _,b1.size,λ k E=>?_⟩;simp only[Value.ownBlock,Option.some.injEq]at E;omega
 clear bk bd;obtain⟨h,hh⟩:=exN w1.heap.size;rw[hh]at O1;have d5:=z6 hh;go_wp2_with fail;clear hh
 go_loopw [15] (λ i wr=>∃(k:Nat)(u:Value),k<=q.length/\i=.int .i64 k/\Hid (DE w wr h u (tk q k))) (λ i _=>q.length-(intOf i).toNat)
 case atStart=>exact⟨0,_,AI _,rfl,O1⟩
 case round=>
  obtain⟨k,u,E,rfl,O⟩:=hrel;clear O1;by_cases cz:k<q.length
  .obtain⟨x,c7⟩:=exH (q.getD k 0);have cx:wr.cell? ⟨b,o+k,none⟩=some (.int .i64 x):=by have h0:=HC.o k cz;rw[O.o.bel.cell (p:=⟨b,o+k,none⟩) (zb0 w ⟨b,o+k,none⟩ h0),h0,c7.o]
   have ch:=O.o.hp.c0;have b8:=z6 (WM q k);go_wp2_with(at_builtin;refine AIR _ rfl (.tmp 20) (.tmp 24) rfl u (tk q k) rfl O.o.hp.own (x,(k:Int)) rfl (by rw[b8.o];omega) ?_)
   (intro v' w2 aq ao;(obtain⟨a2,c2,d0⟩:∃a c,v'=.slice a (k+1) c:=by obtain⟨a,c,e,_⟩:=aq.rd;rw[zc0,b8.o]at e;exact⟨a,c,e⟩);subst d0;obtain⟨d7,d8,ae⟩:=O.o.hp.push aq ao;have T:Hid (DE w (w2.setCell ⟨h,0,none⟩ (.slice a2 (k+1) c2)) h (.slice a2 (k+1) c2) (tk q (k+1))):=by show DE _ _ _ _ _;rw[AHh,c7.o];exact O.o.step ae.o.1 ae.o.2 ao.fresh);clear aq ao ae O ch cx;go_wp2_with fail
   go_roundw
   (case rel=>exact⟨k+1,_,by omega,by go_num,T⟩);case measure=>simp[intOf];omega
  .obtain rfl:k=q.length:=by omega
   clear HC;go_wp2_with fail;refine(AAm h u (tk q q.length) wr O.o.hp (by rw[WM];omega)).mono ?_;rintro e w3 ⟨rfl,qs,bm,bf,bu,c4⟩;have T:=z6 (O.o.step bm (c4.mono (λ _ _ e=>.inr e)) (λ k E=>.inl E));have b0:=z6 bf;have b7:Hid (qs.Perm ((L0 (λ i=>(q.getD i 0).toNat) q.length).map key)):=by refine bu.trans ?_;obtain⟨_,_,_,_,_,h6,_⟩:=NR (λ i=>(q.getD i 0).toNat) q.length;refine List.Perm.trans ?_ h6.symm;unfold tk;refine List.Perm.of_eq (List.map_congr_left (λ i hi=>?_));have:=b5.o i (by simpa using hi);simp only[Prod.mk.injEq,and_true];omega
   (have HJ:Hid (JS (List.replicate (2*q.length-2) 0) q.length q.length (L0 (λ i=>(q.getD i 0).toNat) q.length) (Dr (λ i=>(q.getD i 0).toNat) q.length) S q.length):=by have:=JS.start (λ i=>(q.getD i 0).toNat) q.length (λ i hi=>by have:=b5.o i hi;omega);rw[HS.o]at this;exact this);obtain⟨j0,Y,c9,az,ca⟩:=DU.info;(have e2:2*(q.length:Int)-2=((2*q.length-2:Nat):Int):=by omega);clear bm bf bu c4 O;go_wp2_with(at_make;refine wpList_make_full _ rfl (.tmp 32) (.tmp 32) 23 rfl 0 3 j0 _ 1 underlying23 Y c9 az .i64 .i64 _ _ (2*q.length-2) rfl rfl rfl rfl (by rw[ca];omega) (by unfold maxLen;omega) (AI _) ?_)
   (intro w4 ar be;have b4:=(Below.refl _ _).grown be (AE _) (λ k e=>by cases e);have ai:Hid (AF .i64 3 w4 (.slice (some ⟨w3.heap.size,0,none⟩) (2*q.length-2) (2*q.length-2)) (List.replicate (2*q.length-2) 0)):=by show w4.ownsRow _ _ _ _ _ _;rw[toList_madeCells_one]at ar;simpa using ar);have O4:Hid (DE w w4 h u qs):=⟨T.o.hp.below b4,T.o.bel.trans (b4.mono T.o.bel.size),T.o.hn,T.o.vn⟩
   have aa:=z6 T.o.bel.size;obtain⟨A,cr⟩:=exH w3.heap.size;rw[cr.o]at ai aa |-
   clear ar be b4 T Y c9 az ca e2;go_wp2_with fail
   go_loopw [7] (λ i wr=>∃(N f:Nat)(L:List NT)(P:List Int)(u:Value) (qs:List (Int×Int)),i=.int .i64 N/\N<=512/\1<=L.length/\N+L.length=2*q.length/\L.length<=f+1/\
    Hid (DE w wr h u qs)/\Hid (CQ qs qs.length 0)/\Hid (qs.Perm (L.map key))/\Hid (JS P N q.length L (Dr (λ i=>(q.getD i 0).toNat) q.length) S f)/\
    Hid (AF .i64 3 wr (.slice (some ⟨A,0,none⟩) (2*q.length-2) (2*q.length-2)) P)) (λ i _=>1024-(intOf i).toNat)
   (case atStart=>obtain⟨_,_,l3,_⟩:=NR (λ i=>(q.getD i 0).toNat) q.length;exact⟨q.length,q.length,_,_,u,qs,rfl,by omega,by omega,by omega,by omega,O4,b0,b7,HJ,ai⟩);case round=>
    obtain⟨N,f,L,P,u',cc,rfl,hN,X,a1,hf,K,ab,U,I,a7⟩:=hrel;clear O4 b0 b7 HJ ai;(have bx:cc.length=L.length:=by rw[U.o.length_eq];simp);have W:=z6 bx;clear bx;obtain⟨la,lc,c5⟩:=K.o.hp.len;rw[W.o]at c5;subst c5;have ch:=K.o.hp.c0;by_cases Z:1<L.length
    .match L,X,a1,hf,U,I,W,Z,K,ch with
     | [],X,_,_,_,_,_,_,_,_=>simp at X
     | [_],_,_,_,_,_,_,Z,_,_=>simp at Z
     | x::y::r,X,a1,hf,U,I,W,Z,K,ch=>
      have bq:=I.o.plen;have hx1:=I.o.lt x (by simp);have az:=I.o.lt y (by simp);have ap:=I.o.nd;have bz:=I.o.sum;have a3:=Sr U.o ab.o I.o.lex;have bj:=I.o.lex;simp only[List.map_cons,List.nodup_cons,List.mem_cons,not_or]at ap;have dh:=ap.1.1;simp only[List.map_cons,List.sum_cons]at bz;(have de:x.w+y.w<=1000000000000000:=by omega);simp only[zh0]at a1 W;(have df:x.num<2*q.length-2:=by omega);(have di:y.num<2*q.length-2:=by omega);(have ta:∀(w:World)(x y:Int),(Instr.typeAssert (.iface 363 (.agg #[.int .i64 x,.int .i64 y])) 20 363 false).run prog w=.ok (.agg #[.int .i64 x,.int .i64 y]) w:=λ _ _ _=>by kernel_rfl);have a4:=z6 bq;have cf:=z6 a3;have ci:=z6 bj;clear bq ap bz a3 bj
      go_wp2_with fail;refine(K8 la _ lc wr).mono ?_;rintro e d4 ⟨rfl,rfl⟩;go_wp2_with fail;refine(Si h _ cc (r.length+1) d4 K.o.hp W.o (by rw[W.o];omega) ab.o).mono ?_;rintro e B ⟨rfl,v6,q6,bn,bg,au,c6,aw⟩;rw[cf.o]at au |-
      simp only[key];have a5:Hid (q6.Perm ((y::r).map key)):=((List.Perm.cons_inv (U.o.symm.trans au))).symm;have ac:Hid (CQ q6 q6.length 0):=bg;have O6:Hid (DE w B h v6 q6):=K.o.step bn aw (λ k E=>.inl (c6▸E));have aj:Hid (AF .i64 3 B (.slice (some ⟨A,0,none⟩) (2*q.length-2) (2*q.length-2)) P):=a7.o.tch aw (λ j Y e=>K.o.hp.apart a7.o j Y e);(have b3:Hid (q6.length=r.length+1):=by show _=_;rw[a5.o.length_eq];simp);clear bn bg au c6 aw ch K a7 ab U;have b6:Below B.heap.size B (B.alloc (.cells #[.int .i64 x.w,.int .i64 x.num] 363)):=(Below.refl _ _).alloc (AE _) _;have a6:Hid (DE w (B.alloc (.cells #[.int .i64 x.w,.int .i64 x.num] 363)) h v6 q6):=O6.o.below b6
      have ak:Hid (AF .i64 3 (B.alloc (.cells #[.int .i64 x.w,.int .i64 x.num] 363)) (.slice (some ⟨A,0,none⟩) (2*q.length-2) (2*q.length-2)) P):=aj.o.below b6;have cq:A<B.heap.size:=aj.o.lt A rfl;have ct:h<B.heap.size:=O6.o.hp.lt;have ag:Hid (∀k,v6.ownBlock=some k->k<B.heap.size):=λ k E=>(World.ownsRow.lt O6.o.hp.own k E).2;clear b6;go_wp2_with fail;refine(Si h v6 q6 r.length _ a6.o.hp b3.o (by rw[b3.o];omega) ac.o).mono ?_;rintro e J ⟨rfl,v7,q7,bo,bh,av,ay,a9⟩;have a3:G q6 0=key y:=Sr a5.o ac.o (by have:=ci.o;unfold FG at this |-;rw[List.pairwise_cons]at this;exact this.2);rw[a3]at av |-
      simp only[key];have af:Hid (q7.Perm (r.map key)):=((List.Perm.cons_inv (a5.o.symm.trans av))).symm;have b2:Hid (CQ q7 q7.length 0):=bh;have O7:Hid (DE w J h v7 q7):=a6.o.step bo a9 (λ k E=>.inl (ay▸E));have a0:Hid (AF .i64 3 J (.slice (some ⟨A,0,none⟩) (2*q.length-2) (2*q.length-2)) P):=ak.o.tch a9 (λ j Y e=>a6.o.hp.apart ak.o j Y e);(have cg:Hid (q7.length=r.length):=by show _=_;rw[af.o.length_eq];simp);have a8:J.heap[B.heap.size]?=some (.cells #[.int .i64 x.w,.int .i64 x.num] 363):=by rw[a9.block B.heap.size (by simp) (λ e=>by rcases e with e|e;(· omega);(· have:=ag.o _ e;omega))];exact heap_alloc_new B _
      (have b9:J.cell? ⟨B.heap.size,0,none⟩=some (.int .i64 x.w):=by rw[cell_of_row J B.heap.size 0 _ _ _ a8];rfl);(have ba:J.cell? ⟨B.heap.size,1,none⟩=some (.int .i64 x.num):=by rw[cell_of_row J B.heap.size 1 _ _ _ a8];rfl);have cy:B.heap.size<J.heap.size:=(za0.1 a8).1;obtain⟨cl,cn,db⟩:=a0.o.at1 x.num (by rw[a4.o];omega);obtain⟨cm,co,_⟩:=a0.o.at1 y.num (by rw[a4.o];omega);obtain⟨B8,am⟩:=exN B.heap.size;rw[am]at b9 ba cy cq ct |-
      (have d6:Hid (∀k,v7.ownBlock=some k->k<B8):=λ k E=>by rw[<-am];exact ag.o k (ay▸E));clear bo bh av ay a9 a3 a8 am ag O6 a6 aj ak ac a5;go_wp2_with fail
      go_region
      go_wp2_with fail;have T8:AD (λ k=>k=A) J (((J.setCell ⟨A,x.num,none⟩ (.int .i64 N)).setCell ⟨A,y.num,none⟩ (.int .i64 N)).alloc (.cells #[.int .i64 y.w,.int .i64 y.num] 363)).drew:=
       AD.drew (AD.alloc (AD.setCell (AD.setCell (AD.refl (λ k=>k=A) J) (p:=⟨A,x.num,none⟩) (λ _=>rfl) _) (p:=⟨A,y.num,none⟩) (λ _=>rfl) _) _)
      have an:=O7.o.hp.apart a0.o A rfl;have O8:Hid (DE w (((J.setCell ⟨A,x.num,none⟩ (.int .i64 N)).setCell ⟨A,y.num,none⟩ (.int .i64 N)).alloc (.cells #[.int .i64 y.w,.int .i64 y.num] 363)).drew h v7 q7):=
       O7.o.tch T8 (λ k e=>by rw[e];exact aa.o) (λ e=>an (.inl e.symm)) (λ k E e=>an (.inr (by rw[<-e];exact E)))
      have al:Hid (AF .i64 3 (((J.setCell ⟨A,x.num,none⟩ (.int .i64 N)).setCell ⟨A,y.num,none⟩ (.int .i64 N)).alloc (.cells #[.int .i64 y.w,.int .i64 y.num] 363)).drew (.slice (some ⟨A,0,none⟩) (2*q.length-2) (2*q.length-2)) ((P.set x.num (N:Int)).set y.num (N:Int))):=
       ((a0.o.set x.num (N:Int)).set y.num (N:Int)).below (((Below.refl _ _).alloc (AE _) _).drew)
      obtain⟨f',rfl⟩:∃f',f=f'+1:=⟨f-1,by simp only[zh0]at hf;omega⟩
      have J8:Hid (JS ((P.set x.num (N:Int)).set y.num (N:Int)) (N+1) q.length (DI (jn x y N) r) (Dr (λ i=>(q.getD i 0).toNat) q.length) S f'):=I.o.step (by rw[a4.o];omega) (by rw[a4.o];omega);(have ad:Hid ((DI (jn x y N) r).length=r.length+1):=by show _=_;rw[(GD _ _).length_eq];simp);refine(AAo h v7 q7 ((x.w:Int)+y.w,(N:Int)) _ O8.o.hp (by rw[cg.o];omega) b2.o).mono ?_;rintro e w9 ⟨rfl,v9,q9,bp,bi,bw,bc,ax⟩;have O9:Hid (DE w w9 h v9 q9):=O8.o.step bp ax bc;have ck:Hid (AF .i64 3 w9 (.slice (some ⟨A,0,none⟩) (2*q.length-2) (2*q.length-2)) ((P.set x.num (N:Int)).set y.num (N:Int))):=al.o.tch ax (λ j Y e=>O8.o.hp.apart al.o j Y e);have ce:Hid (CQ q9 q9.length 0):=bi
      (have cj:Hid (q9.Perm ((DI (jn x y N) r).map key)):=by refine bw.trans ((List.perm_append_comm).trans ?_);refine List.Perm.trans ?_ ((GD (jn x y N) r).map key).symm;simp only[List.map_cons,List.singleton_append];(have ek:key (jn x y N)=((x.w:Int)+y.w,(N:Int)):=by simp[key,jn]);rw[ek];exact List.Perm.cons _ af.o);simp only[zh0]at hf;clear bp bi bw bc ax O8 al T8 an O7 a0 af b2 b9 ba cl cm cn co;go_wp2_with fail
      go_roundw
      (case rel=>exact⟨N+1,f',DI (jn x y N) r,_,v9,q9,by go_num,by omega,by rw[ad.o];omega,by rw[ad.o];omega,by rw[ad.o];omega,O9,ce,cj,J8,ck⟩);case measure=>simp[intOf];omega
    .match L,X,a1,hf,U,I,W,Z,K,ch with
     | [],X,_,_,_,_,_,_,_,_=>simp at X
     | x::y::r,_,_,_,_,_,_,Z,_,_=>simp at Z
     | [t],X,a1,hf,U,I,W,Z,K,ch=>go_wp2_with fail;refine(K8 la _ lc wr).mono ?_;rintro e B ⟨rfl,rfl⟩;go_wp2_with fail;go_ret;refine⟨_,P,t,N,f,rfl,a7.o,I.o,K.o.bel,λ k E=>?_⟩;have cv:(Value.slice (some (⟨A,0,none⟩:Addr)) (2*q.length-2) (2*q.length-2)).ownBlock=some k:=E;simp only[Value.ownBlock,Option.some.injEq]at cv;have:=aa.o;omega
abbrev cw(ws:List Int)(i:Nat):Nat:=(ws.getD i 0).toNat
def EN(ws:List Int):List Int:=(List.range ws.length).map λ i=>(Fz (Dr (cw ws) ws.length) i:Int)
def OH(f):(EN f).length=f.length:=by simp[EN]
def Io(f i)(q:i<f.length):(EN f).getD i 0=(Fz (Dr (cw f) f.length) i:Int):=by simp[EN,AP,q]
structure GT(P DD:List Int)(R k:Nat)(m:Int):Prop where
 len:DD.length=R+1
 root:DD.getD R 0=0
 rel:∀j,k<=j->j<R->DD.getD j 0=DD.getD (pf P j) 0+1
 bd:∀j,k<=j->j<=R->0<=DD.getD j 0/\DD.getD j 0<=R-j
 top:∀j,k<=j->j<=R->DD.getD j 0<=m
 got:m=0\/∃j,k<=j/\j<R/\DD.getD j 0=m
def GT.step{P f R k m}(h:GT P f R (k+1) m)(A:k<R)(E:k<pf P k/\pf P k<=R)(hr:∀j,j<R->j<pf P j/\pf P j<=R):
 GT P (f.set k (f.getD (pf P k) 0+1)) R k (max m (f.getD (pf P k) 0+1)):=by
 have B:=h.len;have g:∀j,(f.set k (f.getD (pf P k) 0+1)).getD j 0=if j=k then f.getD (pf P k) 0+1 else f.getD j 0:=λ j=>by grind
 have J:=h.bd (pf P k) (by omega) E.2;refine⟨by simp[B],by rw[g,if_neg (by omega)];exact h.root,λ j r q=>?_,λ j r q=>?_,λ j r q=>?_,?_⟩
 .rw[g j,g (pf P j)];by_cases e:j=k
  .grind
  .have:=hr j q;rw[if_neg e,if_neg (by omega)];exact h.rel j (by omega) q
 .rw[g j];by_cases e:j=k;omega;rw[if_neg e];exact h.bd j (by omega) q
 .rw[g j];by_cases e:j=k;omega;rw[if_neg e];have:=h.top j (by omega) q;omega
 .rcases h.got with e|⟨j,r,q,I⟩
  .right;refine⟨k,by omega,A,?_⟩
   grind
  .by_cases K:m<=f.getD (pf P k) 0+1
   .right;refine⟨k,by omega,A,?_⟩
    grind
   grind
def GT.start(P R):GT P (List.replicate (R+1) 0) R R 0:=by
 have g:∀j,(List.replicate (R+1) (0:Int)).getD j 0=0:=λ j=>by grind
 exact⟨by simp,g _,λ j f q=>by omega,λ j f q=>by grind,λ j f q=>by grind,.inl rfl⟩
def GT.done{P A q m N S f t}(h:GT P A (2*q.length-2) 0 m)(J:JS P N q.length [t] (Dr (cw q) q.length) S f)(hn:1<=q.length)(a2:∀i,i<q.length->0<q.getD i 0):
 A.take q.length=EN q/\0<=m/\m<=2*q.length/\(m<=11↔∀i,i<q.length->(EN q).getD i 0<=11):=by
 obtain⟨hr,W⟩:=J.done hn;have a1:=h.len;obtain⟨Y,X⟩:=W (λ j=>(A.getD j 0).toNat) (by rw[h.root];rfl) (λ j L=>by
  have B:=h.rel j (AI _) L;have E:=h.bd (pf P j) (AI _) (hr j L).2;omega)
 have a0:=QL (cw q) q.length (λ i r=>by grind);have K:∀i,i<q.length->A.getD i 0=(Fz (Dr (cw q) q.length) i:Int):=λ i r=>by
  have Z:=WU (cw q) q.length (by grind);have I:((Dr (cw q) q.length).map (·.1)).Perm (List.range q.length):=by refine Z.trans ?_;rw[a0];exact IW _ _
  have hm:i∈(Dr (cw q) q.length).map (·.1):=I.mem_iff.2 (by grind);obtain⟨p,T,rfl⟩:=List.mem_map.1 hm;rw[OI (I.nodup_iff.2 List.nodup_range) T];have B:=Y p T;have E:=h.bd p.1 (AI _) (by omega);omega
 have e:A.take q.length=EN q:=by refine Hc (by rw[zd0,OH];omega) (λ i r=>?_);rw[zd0]at r;rw[Io q i (by omega),<-K i (by omega),AP,zq0,if_pos (by omega),<-AP]
 have O:0<=m/\m<=2*q.length:=by
  rcases h.got with e|⟨j,_,E,U⟩
  .omega
  .have:=h.bd j (AI _) (by omega);omega
 refine⟨e,O.1,O.2,λ B i r=>?_,λ B=>?_⟩;rw[Io q i r,<-K i r];have:=h.top i (AI _) (by omega);omega
 .rcases h.got with e|⟨j,_,E,U⟩
  .omega
  .have h4:=X 11 (λ i r=>by
    grind) j (by omega)
   omega
def AEF{P n N S f L T}(J:JS P N n L T S f)(j):P.getD j 0=(pf P j:Int):=by
 have:=J.nn j
 grind
def Sf(v r w)(hr:Rd .i64 w v r)(h2:2<=r.length)(h3:r.length<=256)(af:∀i,i<r.length->0<r.getD i 0)(S)(hS:((List.range r.length).map (cw r)).sum=S)(ap:S<=1000000000000000):
 Calls prog 247 #[v] w λ e w'=>∃dv m,e=.returned (.tuple #[dv,.int .i64 m])/\Rd .i64 w' dv (EN r)/\0<=m/\m<=512/\(m<=11↔∀i,i<r.length->(EN r).getD i 0<=11)/\Below w.heap.size w w'/\∀k,dv.ownBlock=some k->w.heap.size<=k:=by
 have HR:=z6 hr;have a7:=z6 af;have HS:=z6 hS;obtain⟨a,cap,rfl,ay,aw,_,aq⟩:=hr;clear aq af hS;obtain⟨j0,hj,ai,aj,ak⟩:=DU.info
 go_enter func247,ntmps247
 go_wp2_with fail;refine(ABf _ r w HR.o h2 h3 a7.o S HS.o ap).mono ?_;rintro e w1 ⟨pv,P,t,N,f,rfl,a1,L,hb,ar⟩;have HJ:=z6 L;have a2:=L.plen;obtain⟨K,pc,ag,_⟩:=AF.shape a1 (by omega);rw[a2]at ag;subst ag;have Y:=z6 a1;have I:=z6 hb;have am:=z6 a2;have X:=z6 ((L.done (by omega)).1);clear a1 L hb ar a2;go_wp2_with(at_make;refine wpList_make_full _ rfl (.tmp 16) (.tmp 16) 23 rfl 0 3 j0 _ 1 underlying23 hj ai aj .i64 .i64 _ _ (2*r.length-2+1) rfl rfl (by omega) (by omega) (by rw[ak];omega) (by unfold maxLen;omega) (AI _) ?_)
 intro w2 a0 ae;have b2:=(Below.refl _ _).grown ae (AE _) (λ k e=>by cases e);obtain⟨A,O⟩:=exH w1.heap.size;have a8:Hid (AF .i64 3 w2 (.slice (some ⟨A,0,none⟩) (2*r.length-2+1) (2*r.length-2+1)) (List.replicate (2*r.length-2+1) 0)):=by show w2.ownsRow _ _ _ _ _ _;rw[toList_madeCells_one,O.o]at a0;simpa using a0
 have a9:=z6 (Y.o.below b2);have ax:K≠A:=by have:=Y.o.lt K rfl;rw[O.o]at this;omega
 have a3:=z6 (I.o.trans (b2.mono I.o.size));have a5:Hid (w.heap.size<=A):=by show _<=_;rw[<-O.o];exact I.o.size
 rw[O.o];clear a0 ae b2 hj ai aj ak Y I;go_wp2_with fail
 go_loopw [7,8] (λ q i wr=>∃(k:Nat)(m:Int)(B:List Int),k<=2*r.length-2/\i=.int .i64 ((k:Int)-1)/\q=.int .i64 m/\0<=m/\m<=512/\Hid (GT P B (2*r.length-2) k m)/\Hid (AF .i64 3 wr (.slice (some ⟨A,0,none⟩) (2*r.length-2+1) (2*r.length-2+1)) B)/\Hid (AF .i64 3 wr (.slice (some ⟨K,0,none⟩) (2*r.length-2) pc) P)/\Hid (Below w.heap.size w wr)) (λ _ i _=>(intOf i+1).toNat)
 case atStart=>exact⟨2*r.length-2,0,_,AE _,by first|rfl|go_num,rfl,by omega,by omega,GT.start P _,a8,a9,a3⟩
 case round=>
  obtain⟨k,m,B,T,rfl,rfl,az,b0,E,J,OP,U⟩:=hrel;clear a8 a9 a3;by_cases h0:k=0
  .subst h0;have ad:=E.o.done HJ.o (by omega) a7.o;have W:=z6 ad;have a6:=z6 E.o.len;(have e1:((0:Nat):Int)-1=-1:=by omega);rw[e1];clear ad E;go_wp2_with fail;go_ret2;refine⟨.slice (some ⟨A,0,none⟩) r.length (2*r.length-2+1),m,rfl,?_,W.o.2.1,by omega,W.o.2.2.2,U.o,λ k T=>by simp only[Value.ownBlock,Option.some.injEq]at T;have:=a5.o;omega⟩;rw[<-W.o.1];(have hc:∀i,i<B.length->wr.cell? ⟨A,0+i,none⟩=some (.int .i64 (B.getD i 0)):=λ i hi=>by rw[Nat.zero_add];exact(J.o.at1 i hi).1);exact Uo r.length (by rw[a6.o];omega) (by rw[a6.o];exact AE _) (by unfold maxLen;omega) hc
  .obtain⟨j,rfl⟩:∃j,k=j+1:=⟨k-1,by omega⟩
   (have e1:((j+1:Nat):Int)-1=(j:Int):=by omega);rw[e1];have av:=X.o j (by omega);have au:=E.o.len;obtain⟨q,hq⟩:=exH (pf P j);rw[hq.o]at av;(have cp:wr.cell? ⟨K,j,none⟩=some (.int .i64 (q:Int)):=by rw[(OP.o.at1 j (by rw[am.o];omega)).1,AEF HJ.o,hq.o]);obtain⟨x,hx⟩:=exH (B.getD q 0);(have cq:wr.cell? ⟨A,q,none⟩=some (.int .i64 x):=by rw[(J.o.at1 q (by omega)).1,hx.o]);obtain⟨y,hy⟩:=exH (B.getD j 0);obtain⟨aa,fj,_⟩:=J.o.at1 j (by omega);(have cj:wr.cell? ⟨A,j,none⟩=some (.int .i64 y):=by rw[aa,hy.o]);have ac:=E.o.bd q (by omega) (by omega);rw[hx.o]at ac;have a4:Hid (GT P (B.set j (x+1)) (2*r.length-2) j (max m (x+1))):=by
    have:=E.o.step (by omega) (X.o j (by omega)) X.o;rw[hq.o,hx.o]at this;exact this
   (have b3:0<=x/\x<=510:=by omega);(have ab:max m (x+1)=if m<x+1 then x+1 else m:=by split<;>omega);rw[ab]at a4;have an:=z6 (J.o.set j (x+1));have Z:AD (λ k=>k=A) wr (wr.setCell ⟨A,j,none⟩ (.int .i64 (x+1))):=AD.setCell (AD.refl (λ k=>k=A) wr) (p:=⟨A,j,none⟩) (λ _=>rfl) _;have ao:=z6 (OP.o.tch Z (λ k T e=>by simp only[Value.ownBlock,Option.some.injEq]at T;omega));have al:=z6 (U.o.trans (Z.below U.o.size (λ k e=>by rw[e];exact a5.o)));clear ac au aa ab Z;go_wp2_with fail
   go_roundw
   (case rel=>exact⟨j,_,_,by omega,rfl,rfl,by split<;>omega,by split<;>omega,a4,an,ao,al⟩);case measure=>simp[intOf]
def halve(ws:List Int):List Int:=ws.map λ x=>x / 2+1
def Ib(ws:List Int):Prop:=∀i,i<ws.length->(EN ws).getD i 0<=11
inductive Sh:List Int->List Int->Prop
 | now (ws:List Int) (h:Ib ws):Sh ws (EN ws)
 | on (ws ds:List Int) (h:¬Ib ws) (k:Sh (halve ws) ds):Sh ws ds
structure EX(ws:List Int):Prop where
 two:2<=ws.length
 most:ws.length<=256
 pos:∀i,i<ws.length->0<ws.getD i 0
def Ha(f):(halve f).length=f.length:=by simp[halve]
def MI(f i)(q:i<f.length):(halve f).getD i 0=f.getD i 0 / 2+1:=by simp[halve,AP,q]
def EX.halve{q}(h:EX q):EX (halve q):=by refine⟨by rw[Ha];exact h.two,by rw[Ha];exact h.most,λ i f=>?_⟩;rw[Ha]at f;rw[MI q i f];have:=h.pos i f;omega
def EX.stand{f}(h:EX f):stand (cw f) f.length=List.range f.length:=QL _ _ (λ i q=>by have:=h.pos i q;grind)
def EX.tr{f}(h:EX f):Tr (cw f) (Fz (Dr (cw f) f.length)) (Cg (cw f) (List.range f.length)):=by have:=AHj (cw f) f.length (by rw[h.stand,List.length_range];exact h.two);rw[h.stand]at this;exact this
def MY{c n b}:b∈Cg c (List.range n)↔b<n:=by rw[(IW c _).mem_iff];simp
def EX.big{f}(h:EX f)(B:¬Ib f):∃i,i<f.length/\2<f.getD i 0:=by
 refine Classical.byContradiction (λ hc=>B (λ i q=>?_));have:=h.tr.shallow (λ b r=>by
  have A:=MY.1 r;have E:=h.pos b A
  grind) (by rw[(IW _ _).length_eq,List.length_range];exact h.most) i (MY.2 q)
 rw[Io f i q];omega
def wsum(ws:List Int):Nat:=((List.range ws.length).map (cw ws)).sum
def AGr{n}{f g:Nat->Nat}(r:∀i,i<n->f i<=g i)(A:∃i,i<n/\f i<g i):((List.range n).map f).sum<((List.range n).map g).sum:=by
 induction n with
 | zero=>omega
 | succ n q=>
  rw[List.range_succ,za1,za1,List.sum_append,List.sum_append];simp only[List.map_cons,List.map_nil,List.sum_cons,List.sum_nil,Nat.add_zero];have J:((List.range n).map f).sum<=((List.range n).map g).sum:=by
   clear q A;induction n with
   | zero=>simp
   | succ n q=>
    rw[List.range_succ,za1,za1,List.sum_append,List.sum_append];have:=q (λ i E=>r i (by omega))
    grind
  obtain⟨i,I,B⟩:=A;have K:=r n (by omega);by_cases e:i=n
  .grind
  .have:=q (λ i E=>r i (by omega)) ⟨i,by omega,B⟩;omega
def EX.less{f}(h:EX f)(A:¬Ib f):wsum (Go.Proofs.YtihofcopapmjlaaGreat.halve f)<wsum f:=by obtain⟨i,q,B⟩:=h.big A;unfold wsum;rw[Ha];refine AGr (λ j r=>?_) ⟨i,q,?_⟩;have:=h.pos j r;simp only[cw];rw[MI f j r];omega;simp only[cw];rw[MI f i q];omega
def Ka(w:World)(g n:Nat):Nat:=((List.range n).map λ i=>match w.cell? ⟨g,i,none⟩with|some (.int _ x)=>x.toNat|_=>0).sum
def UG{w g n cap f}(h:AF .i64 3 w (.slice (some ⟨g,0,none⟩) n cap) f):Ka w g f.length=wsum f:=by unfold Ka wsum;congr 1;refine List.map_congr_left (λ i q=>?_);rw[(h.at1 i (by grind)).1]
def Sh.facts{f q}(h:Sh f q)(I:EX f):∃vs,EX vs/\vs.length=f.length/\Ib vs/\q=EN vs:=by
 induction h with
 | now f h=>grind
 | on f q h k J=>obtain⟨vs,r,A,B,E⟩:=J I.halve;exact⟨vs,r,by rw[A,Ha],B,E⟩
def Er(ws:List Int)(k:Nat):List Int:=(halve ws).take k++ws.drop k
def MH(f k):(Er f k).length=f.length:=by simp[Er,Ha];omega
def AAs(f):Er f 0=f:=by simp[Er]
def AAq(f):Er f f.length=halve f:=by unfold Er;rw[List.drop_length,List.append_nil,<-Ha f,List.take_length]
def Oh(f k i)(q:i<f.length):(Er f k).getD i 0=if i<k then f.getD i 0 / 2+1 else f.getD i 0:=by
 unfold Er;rw[Ge];simp only[zd0,Ha];by_cases e:i<k;rw[if_pos (by omega),if_pos e,AP,zq0,if_pos e,<-AP,MI f i q]
 grind
def AAr(f k)(r:k<f.length):Er f (k+1)=(Er f k).set k (f.getD k 0 / 2+1):=by
 refine Hc (by simp[MH]) (λ i q=>?_);rw[MH]at q;rw[ME,Oh f _ i q,Oh f _ i q,MH]
 grind
def AFx(g cap w):
 Calls prog 218 #[.slice (some ⟨g,0,none⟩) 1 cap] w λ e w'=>∃f,e=.returned f/\Rd .i64 w' f [1]/\Below w.heap.size w w'/\∀k,f.ownBlock=some k->w.heap.size<=k:=by
 go_enter func218,ntmps218
 go_wp2_with fail;go_ret;refine⟨.slice (some ⟨w.heap.size,0,none⟩) 1 1,rfl,?_,(Below.refl _ _).alloc (AE _) _,λ k r=>by simp only[Value.ownBlock,Option.some.injEq]at r;omega⟩;refine⟨some ⟨w.heap.size,0,none⟩,1,rfl,AE _,by unfold maxLen;omega,(λ e=>by cases e),.inr ⟨w.heap.size,0,rfl,λ i q=>?_⟩⟩;have:i=0:=by simpa using q
 subst this;simp
def AFw(g cap r w)(ho:AF .i64 3 w (.slice (some ⟨g,0,none⟩) r.length cap) r)(T:EX r)(ab:wsum r<=1000000000000000):
 Calls prog 218 #[.slice (some ⟨g,0,none⟩) r.length cap] w λ e w'=>∃O A,e=.returned O/\Rd .i64 w' O A/\Sh r A/\AD (λ k=>k=g) w w'/\∀k,O.ownBlock=some k->w.heap.size<=k:=by
 have HO:=z6 ho;have HW:=z6 T;have am:=T.two;have an:=T.most;have b6:((r.length:Int)==1)=false:=by simp;omega
 clear ho T
 go_enter func218,ntmps218
 go_wp2_with fail;refine(Sf _ r w HO.o.rd am an HW.o.pos _ rfl ab).mono ?_;rintro e w1 ⟨O,m,rfl,ac,ai,aj,ak,a0,ae⟩;have aq:=z6 ae;clear ae;have a2:=z6 ac;have a4:=z6 ak;have a5:=z6 (HO.o.below a0);have a8:Hid (AD (λ k=>k=g) w w1):=AD.of_below a0;clear ac ak a0;go_wp2_with fail
 go_loopw [3,4] (λ d q wr=>∃(m:Int)(f:List Int),q=.int .i64 m/\0<=m/\m<=512/\Hid (Rd .i64 wr d (EN f))/\Hid (m<=11↔Ib f)/\Hid (EX f)/\Hid (f.length=r.length)/\Hid (wsum f<=1000000000000000)/\
  Hid (AF .i64 3 wr (.slice (some ⟨g,0,none⟩) r.length cap) f)/\Hid (∀A,Sh f A->Sh r A)/\Hid (AD (λ k=>k=g) w wr)/\Hid (∀k,d.ownBlock=some k->w.heap.size<=k)) (λ _ _ wr=>Ka wr g r.length)
 case atStart=>exact⟨m,r,rfl,ai,aj,a2,a4,HW,rfl,ab,a5,λ A h=>h,a8,aq⟩
 case round=>
  obtain⟨m,f,rfl,ai,aj,HD,W,L,B,HS,Y,U,Z,au⟩:=hrel;clear a2 a4 a5 a8;by_cases aa:m<=11
  .have HF:=z6 (U.o _ (Sh.now f (W.o.1 aa)));go_wp2_with fail;go_ret;exact⟨_,EN f,rfl,HD.o,HF.o,Z.o,au.o⟩
  .have X:Hid (¬Ib f):=λ e=>aa (W.o.2 e);(have ax:Hid (Ka wr g r.length=wsum f):=by show _=_;rw[<-B.o];exact UG Y.o);go_wp2_with fail
   go_loopw [19] (λ i ao=>∃k:Nat,k<=r.length/\i=.int .i64 k/\Hid (AF .i64 3 ao (.slice (some ⟨g,0,none⟩) r.length cap) (Er f k))/\Hid (AD (λ k=>k=g) w ao)) (λ i _=>r.length-(intOf i).toNat)
   (case atStart=>exact⟨0,AI _,rfl,by rw[AAs];exact Y,Z⟩);case round=>
    obtain⟨k,hk,rfl,E,I⟩:=hrel;by_cases J:k<r.length
    .obtain⟨x,hx⟩:=exH (f.getD k 0);(have ag:k<(Er f k).length:=by rw[MH,B.o];exact J);obtain⟨c0,f0,_⟩:=E.o.at1 k ag;(have cx:wr.cell? ⟨g,k,none⟩=some (.int .i64 x):=by rw[c0,Oh f k k (by rw[B.o];exact J),if_neg (by omega),hx.o]);have b7:0<x/\x<=1000000000000000:=by rw[<-hx.o];refine⟨L.o.pos k (by rw[B.o];exact J),?_⟩;have:cw f k<=wsum f:=Ti (List.mem_map.2 ⟨k,by rw[B.o];simpa using J,rfl⟩);have h2:=HS.o;simp only[cw]at this;omega
     (have DV:x.tdiv 2=x / 2:=Int.tdiv_eq_ediv_of_nonneg (by omega);have az:Hid (AF .i64 3 (wr.setCell ⟨g,k,none⟩ (.int .i64 (x / 2+1))) (.slice (some ⟨g,0,none⟩) r.length cap) (Er f (k+1))):=by show AF _ _ _ _ _;rw[AAr f k (by rw[B.o];exact J),hx.o];exact E.o.set k (x / 2+1));have b0:Hid (AD (λ k=>k=g) w (wr.setCell ⟨g,k,none⟩ (.int .i64 (x / 2+1)))):=AD.setCell I.o (p:=⟨g,k,none⟩) (λ _=>rfl) _;clear c0 ag E I;go_wp2_with fail
     go_roundw
     (case rel=>exact⟨k+1,by omega,by go_num,az,b0⟩);case measure=>simp[intOf];omega
    .obtain rfl:k=r.length:=by omega
     (have e0:Er f r.length=halve f:=by rw[<-B.o];exact AAq f);rw[e0]at E;have a9:=z6 L.o.halve;(have K:Hid ((halve f).length=r.length):=by show _=_;rw[Ha];exact B.o);have a3:=z6 (L.o.less X.o);(have a7:Hid (wsum (halve f)<=1000000000000000):=by have:=a3.o;have:=HS.o;show _<=_;omega);have av:Hid (∀A,Sh (halve f) A->Sh r A):=λ A h=>U.o A (Sh.on f A X.o h);clear e0 L X HD W Y U Z;go_wp2_with fail;refine(Sf _ (halve f) wr E.o.rd (by rw[K.o];exact am) (by rw[K.o];exact an) a9.o.pos _ rfl a7.o).mono ?_;rintro e w5 ⟨b3,m5,rfl,ad,b4,b5,al,a1,af⟩;have ar:Hid (∀k,b3.ownBlock=some k->w.heap.size<=k):=λ k hk=>Aw I.o.size (af k hk);clear af;have ap:=z6 ad;have aw:=z6 al;have a6:=z6 (E.o.below a1)
     have b2:Hid (AD (λ k=>k=g) w w5):=I.o.trans (S':=λ _=>False) (AD.of_below a1) (λ _ _ e=>e.elim);(have ay:Hid (Ka w5 g r.length=wsum (halve f)):=by show _=_;rw[<-K.o];exact UG a6.o);clear ad al a1 E I;go_wp2_with fail
     go_roundw
     (case rel=>exact⟨m5,halve f,rfl,b4,b5,ap,aw,a9,K,a7,a6,av,b2,ar⟩);case measure=>rw[ax.o,ay.o];exact a3.o
def AIu(f:Nat->Int)(n b)(h:b<n):((List.range n).map f).getD b 0=f b:=by grind
def AIt(n i):(List.replicate n (0:Int)).getD i 0=0:=by grind
def st(cs:List Int)(k:Nat):List Nat:=(List.range k).filter λ i=>0<cs.getD i 0
def Eg(cs:List Int)(k:Nat):List Int:=(st cs k).map fun(i:Nat)=>(i:Int)
def wt(cs:List Int)(k:Nat):List Int:=(st cs k).map λ i=>cs.getD i 0
def Hk(cs k):st cs (k+1)=if 0<cs.getD k 0 then st cs k++[k]else st cs k:=by
 unfold st;rw[List.range_succ,List.filter_append]
 grind
def Ji(cs k):(st cs k).length<=k:=by have:=List.length_filter_le (λ i=>decide (0<cs.getD i 0)) (List.range k);simpa[st]using this
def Kt(cs k):(Eg cs k).length=(st cs k).length:=by simp[Eg]
def GQ(cs k):(wt cs k).length=(st cs k).length:=by simp[wt]
abbrev rk(cs:List Int)(b:Nat):Nat:=(st cs b).length
def QK(cs){b k}(h:b<=k):(st cs k).take (rk cs b)=st cs b:=by
 induction k with
 | zero=>grind
 | succ k f=>
  by_cases e:b=k+1
  .grind
  .have:=f (by omega);rw[Hk]
   grind
def Mx(cs){b k}(E:b<k)(f:0<cs.getD b 0):rk cs b<(st cs k).length/\(st cs k).getD (rk cs b) 0=b:=by
 have q:=QK cs (b:=b+1) (k:=k) (by omega);have r:st cs (b+1)=st cs b++[b]:=by rw[Hk,if_pos f]
 have A:rk cs (b+1)=rk cs b+1:=by grind
 have B:rk cs (b+1)<=(st cs k).length:=by grind
 refine⟨by omega,?_⟩;have:((st cs k).take (rk cs (b+1))).getD (rk cs b) 0=b:=by grind
 grind
def Gk(cs){k i}(f:i<(st cs k).length):rk cs ((st cs k).getD i 0)=i/\(st cs k).getD i 0<k/\0<cs.getD ((st cs k).getD i 0) 0:=by
 induction k with
 | zero=>simp[st]at f
 | succ k q=>
  rw[Hk]at f |-
  grind
abbrev CL(cs:List Int):Nat:=(st cs cs.length).getD ((st cs cs.length).length-1) 0
def GG(cs ds:List Int)(k:Nat):List Int:=(List.range (CL cs+1)).map λ b=>if 0<cs.getD b 0/\rk cs b<k then ds.getD (rk cs b) 0 else 0
abbrev Cy(cs ds:List Int):List Int:=GG cs ds (st cs cs.length).length
def IG(cs f k):(GG cs f k).length=CL cs+1:=by simp[GG]
def Ix(cs f k b)(q:b<=CL cs):(GG cs f k).getD b 0=if 0<cs.getD b 0/\rk cs b<k then f.getD (rk cs b) 0 else 0:=by
 unfold GG
 grind
def ACO(cs f):GG cs f 0=List.replicate (CL cs+1) 0:=by
 refine Hc (by simp[IG]) (λ i q=>?_);rw[IG]at q;rw[Ix cs f 0 i (by omega),if_neg (by omega)]
 grind
def My(cs){i}(q:i<(st cs cs.length).length):(st cs cs.length).getD i 0<=CL cs:=by
 obtain⟨B,E,I⟩:=Gk cs q;obtain⟨g1,A,f⟩:=Gk cs (k:=cs.length) (i:=(st cs cs.length).length-1) (by omega);by_cases e:(st cs cs.length).getD i 0<=CL cs;exact e
 .exfalso;have r:CL cs+1<=(st cs cs.length).getD i 0:=by omega
  have J:(st cs (CL cs+1)).length<=(st cs ((st cs cs.length).getD i 0)).length:=by
   have:=congrArg List.length (QK cs r)
   grind
  have K:(st cs (CL cs+1)).length=(st cs (CL cs)).length+1:=by rw[Hk,if_pos f];simp
  grind
def ACN(cs f k)(q:k<(st cs cs.length).length):GG cs f (k+1)=(GG cs f k).set ((st cs cs.length).getD k 0) (f.getD k 0):=by
 have O:=My cs q;obtain⟨J,K,L⟩:=Gk cs q;refine Hc (by simp[IG]) (λ b r=>?_);rw[IG]at r;rw[ME,Ix cs f _ b (by omega),Ix cs f _ b (by omega),IG];by_cases e:b=(st cs cs.length).getD k 0
 .grind
 .have B:¬(b=(st cs cs.length).getD k 0/\(st cs cs.length).getD k 0<CL cs+1):=λ x=>e x.1;rw[if_neg B];by_cases E:0<cs.getD b 0
  .have hr:rk cs b≠k:=by
    intro I;by_cases A:b<cs.length
    .have:=(Mx cs A E).2
     grind
    grind
   omega
  omega
structure Dv(cs:List Int):Prop where
 most:cs.length<=256
 each:∀i,i<cs.length->0<=cs.getD i 0/\cs.getD i 0<=4294967295
 some:0<(st cs cs.length).length
def Fq(ws ds:List Int):Prop:=(ws.length=1/\ds=[1])\/(2<=ws.length/\Sh ws ds)
def Wv(cs k i)(f:i<(st cs k).length):(wt cs k).getD i 0=cs.getD ((st cs k).getD i 0) 0:=by simp[wt,AP,f]
def Vc(cs k i)(f:i<(st cs k).length):(Eg cs k).getD i 0=((st cs k).getD i 0:Int):=by simp[Eg,AP,f]
def LM(cs k i)(f:i<(wt cs k).length):0<(wt cs k).getD i 0:=by rw[GQ]at f;rw[Wv cs k i f];exact(Gk cs f).2.2
def Dv.wsum{cs}(h:Dv cs):wsum (wt cs cs.length)<=256*4294967295:=by
 have E:=Ji cs cs.length;have I:=h.most;have q:Cr (List.range (wt cs cs.length).length) (cw (wt cs cs.length))<=(List.range (wt cs cs.length).length).length*4294967295:=Vu (λ b B=>by
  have f:b<(st cs cs.length).length:=by rw[<-GQ];grind
  simp only[cw];rw[Wv cs _ b f];have:=h.each _ (Gk cs f).2.1;omega)
 rw[List.length_range,GQ]at q;have r:(st cs cs.length).length*4294967295<=256*4294967295:=Nat.mul_le_mul_right _ (by omega);have A:Go.Proofs.YtihofcopapmjlaaGreat.wsum (wt cs cs.length)=Cr (List.range (st cs cs.length).length) (cw (wt cs cs.length)):=by unfold Go.Proofs.YtihofcopapmjlaaGreat.wsum Cr;rw[GQ]
 omega
def Fq.len{f r}(h:Fq f r)(I:∀i,i<f.length->0<f.getD i 0)(E:f.length<=256):r.length=f.length:=by
 rcases h with⟨q,rfl⟩|⟨q,A⟩
 .simp[q]
 .obtain⟨J,_,B,_,rfl⟩:=A.facts ⟨q,E,I⟩;rw[OH,B]
def AFv(g cap f w)(O:AF .i64 3 w (.slice (some ⟨g,0,none⟩) f.length cap) f)(U:1<=f.length)(L:f.length<=256)(T:∀i,i<f.length->0<f.getD i 0)(K:wsum f<=1000000000000000):
 Calls prog 218 #[.slice (some ⟨g,0,none⟩) f.length cap] w λ e w'=>∃q r,e=.returned q/\Rd .i64 w' q r/\Fq f r/\AD (λ k=>k=g) w w'/\∀k,q.ownBlock=some k->w.heap.size<=k:=by
 by_cases e:f.length=1;rw[e];refine(AFx g cap w).mono ?_;rintro I w' ⟨q,rfl,A,B,E⟩;exact⟨q,[1],rfl,A,.inl ⟨e,rfl⟩,AD.of_below B,E⟩;refine(AFw g cap f w O ⟨by omega,L,T⟩ K).mono ?_;rintro I w' ⟨q,r,rfl,A,B,E,J⟩;exact⟨q,r,rfl,A,.inr ⟨by omega,B⟩,E,J⟩
def Ie(cs:List Int)(w:World)(e:Ending)(w':World):Prop:=
 ∃lv E,e=.returned (.tuple #[lv,.int .i64 E])/\Below w.heap.size w w'/\(∀k,lv.ownBlock=some k->w.heap.size<=k)/\
  ((E=1/\lv=.slice none 0 0/\¬Dv cs)\/(E=0/\Dv cs/\∃ds,AF .i64 3 w' lv (Cy cs ds)/\Fq (wt cs cs.length) ds))
def Ie.bad{cs w w'}(f:Below w.heap.size w w')(h:¬Dv cs):Ie cs w (.returned (.tuple #[.slice none 0 0,.int .i64 1])) w':=
 ⟨_,1,rfl,f,(λ k e=>by cases e),.inl ⟨rfl,rfl,h⟩⟩
structure Ft(w0 w:World)(sv wv:Value)(ss ws:List Int):Prop where
 so:AF .i64 3 w sv ss
 wo:AF .i64 3 w wv ws
 ne:∀k,sv.ownBlock=some k->wv.ownBlock≠some k
 sn:∀k,sv.ownBlock=some k->w0.heap.size<=k
 wn:∀k,wv.ownBlock=some k->w0.heap.size<=k
 bel:Below w0.heap.size w0 w
def Ft.left{I w w' E K q U J B}(h:Ft I w E K U J)(T:AF .i64 3 w' q B)(f:AY w w' E q):Ft I w' q K B J:=by have A:=f.onto h.bel h.sn;refine⟨T,h.wo.tch f.tch (λ j L e=>h.ne j e L),λ k O e=>?_,A.2,h.wn,A.1⟩;rcases f.fresh k O with r|r;exact h.ne k r e;have:=h.wo.lt k e;omega
def Ft.right{J w w' I L q E U K}(h:Ft J w I L E U)(T:AF .i64 3 w' q K)(f:AY w w' L q):Ft J w' I q E K:=by have A:=f.onto h.bel h.wn;refine⟨h.so.tch f.tch (λ j O e=>h.ne j O e),T,λ k B e=>?_,h.sn,A.2,A.1⟩;rcases f.fresh k e with r|r;exact h.ne k B r;have:=h.so.lt k B;omega
def ACM(a n cap cs w)(r:cs.length=n)(h:256<n):
 Calls prog 191 #[.slice a n cap] w λ e w'=>Ie cs w e w':=by
 have q:(256:Int)<(n:Int):=by omega
 have f:Hid (¬Dv cs):=λ e=>by have:=e.most;omega
 go_enter func191,ntmps191
 go_wp2;go_ret2;exact Ie.bad (Below.refl _ _) f.o
def Ve(cs k x)(f:cs.getD k 0=x)(h:0<x):Eg cs (k+1)=Eg cs k++[(k:Int)]/\wt cs (k+1)=wt cs k++[x]:=by subst f;unfold Eg wt;rw[Hk,if_pos h];simp
def Vf(cs k x)(f:cs.getD k 0=x)(h:¬0<x):Eg cs (k+1)=Eg cs k/\wt cs (k+1)=wt cs k:=by subst f;unfold Eg wt;rw[Hk,if_neg h];simp
def ACL(v cs w)(hr:Rd .i64 w v cs):Calls prog 191 #[v] w λ e w'=>Ie cs w e w':=by
 obtain⟨a,cap,rfl,bd,b8,_,al⟩:=hr;by_cases b3:256<cs.length;exact ACM a _ cap cs w rfl b3;have HC:=z6 al;clear al;obtain⟨j0,B,aq,ar,au⟩:=DU.info
 go_enter func191,ntmps191
 go_wp2_with fail
 go_loopw [4,5,16] (λ s q i wr=>∃k:Nat,k<=cs.length/\i=.int .i64 k/\Hid (Ft w wr s q (Eg cs k) (wt cs k))/\Hid (∀j,j<k->0<=cs.getD j 0/\cs.getD j 0<=4294967295)) (λ _ _ i _=>cs.length-(intOf i).toNat)
 case atStart=>exact⟨0,AI _,rfl,⟨CB _ _ _,CB _ _ _,(λ k e=>by cases e),(λ k e=>by cases e),(λ k e=>by cases e),Below.refl _ _⟩,λ j B=>by omega⟩
 case round=>
  obtain⟨k,hk,rfl,T,HE⟩:=hrel;by_cases A:k<cs.length
  .obtain⟨b,o,ha,hc⟩:∃b o,a=some ⟨b,o,none⟩/\∀i,i<cs.length->w.cell? ⟨b,o+i,none⟩=some (.int .i64 (cs.getD i 0)):=by rcases HC.o with rfl|h;simp at A;exact h
   (subst ha;obtain⟨x,J⟩:=exH (cs.getD k 0);have cx:wr.cell? ⟨b,o+k,none⟩=some (.int .i64 x):=by have X:=hc k A;rw[T.o.bel.cell (p:=⟨b,o+k,none⟩) (zb0 w ⟨b,o+k,none⟩ X),X,J.o]);clear hc;by_cases a3:x<0\/4294967295<x
   .have HB:Hid (¬Dv cs):=λ e=>by have:=e.each k A;rw[J.o]at this;omega
    have a6:=z6 T.o.bel;clear T;rcases a3 with a3|a3;all_goals
     go_wp2_with fail;go_ret2;exact Ie.bad a6.o HB.o
   .have af:Hid (∀j,j<k+1->0<=cs.getD j 0/\cs.getD j 0<=4294967295):=λ j B=>by
     by_cases e:j<k;exact HE.o j e
     .have:j=k:=by omega
      subst this;rw[J.o];omega
    (have be:0<=x:=by omega);(have hx1:x<=4294967295:=by omega);clear a3;have HL:Hid ((Eg cs k).length<=256/\(wt cs k).length<=256):=by have:=Ji cs k;exact⟨by rw[Kt];omega,by rw[GQ];omega⟩
    by_cases hp:0<x
    .go_wp2_with(at_builtin;refine ET _ rfl (.tmp 29) (.tmp 31) 23 rfl 3 .i64 8 DU _ (Eg cs k) rfl T.o.so (k:Int) rfl (by have:=HL.o.1;omega) (by have:=HL.o.1;omega) ?_)
     intro s2 w2 U a1;have T2:=z6 (T.o.left U a1);clear U a1 T cx;go_wp2_with(at_builtin;refine ET _ rfl (.tmp 33) (.tmp 35) 23 rfl 3 .i64 8 DU _ (wt cs k) rfl T2.o.wo x rfl (by have:=HL.o.2;omega) (by have:=HL.o.2;omega) ?_)
     (intro q3 K ap ao;have T3:Hid (Ft w K s2 q3 (Eg cs (k+1)) (wt cs (k+1))):=by show Ft _ _ _ _ _ _;rw[(Ve cs k x J.o hp).1,(Ve cs k x J.o hp).2];exact T2.o.right ap ao);clear ap ao T2;go_wp2_with fail
     go_roundw
     (case rel=>exact⟨k+1,by omega,by go_num,T3,af⟩);case measure=>simp[intOf];omega
    .have T3:Hid (Ft w wr u4 u5 (Eg cs (k+1)) (wt cs (k+1))):=by show Ft _ _ _ _ _ _;rw[(Vf cs k x J.o hp).1,(Vf cs k x J.o hp).2];exact T.o
     clear T;go_wp2_with fail
     go_roundw
     (case rel=>exact⟨k+1,by omega,by go_num,T3,af⟩);case measure=>simp[intOf];omega
  .obtain rfl:k=cs.length:=by omega
   have b6:=Ji cs cs.length;(obtain⟨sa,sc,b5⟩:∃a c,u4=.slice a (st cs cs.length).length c:=by obtain⟨a,c,e,_⟩:=T.o.so.rd;rw[Kt]at e;exact⟨a,c,e⟩);subst b5;by_cases X:(st cs cs.length).length=0
   .have HB:Hid (¬Dv cs):=λ e=>by have:=e.some;omega
    have a6:=z6 T.o.bel;(have ak:(((st cs cs.length).length:Int)==0)=true:=by simp[X]);clear T;go_wp2_with fail;go_ret2;exact Ie.bad a6.o HB.o
   .have ag:Hid (Dv cs):=⟨by omega,HE.o,by omega⟩
    (have ak:(((st cs cs.length).length:Int)==0)=false:=by rw[zi0];omega);obtain⟨n,E⟩:∃n,(st cs cs.length).length=n+1:=⟨(st cs cs.length).length-1,by omega⟩
    have Z:=T.o;obtain⟨I,bg,es,_⟩:=AF.shape Z.so (by rw[Kt];omega);simp only[Value.slice.injEq]at es;obtain⟨rfl,_,rfl⟩:=es;obtain⟨O,wc,ew,_⟩:=AF.shape Z.wo (by rw[GQ];omega);rw[GQ]at ew;subst ew;rw[E]at T b6 ak |-
    (obtain⟨M,Y⟩:=exH (CL cs);have b7:M<cs.length:=by rw[<-Y.o];exact(Gk cs (k:=cs.length) (i:=(st cs cs.length).length-1) (by omega)).2.1);(have cM:wr.cell? ⟨I,n,none⟩=some (.int .i64 (M:Int)):=by have h1:=(Z.so.at1 n (by rw[Kt];omega)).1;rw[Vc cs _ n (by omega)]at h1;rw[h1,<-Y.o];simp only[CL,E,Nat.add_sub_cancel]);have bb:I≠O:=λ e=>Z.ne I rfl (by rw[e];rfl);clear Z X HE;go_wp2_with(at_make;refine wpList_make_full _ rfl (.tmp 47) (.tmp 47) 23 rfl 0 3 j0 _ 1 underlying23 B aq ar .i64 .i64 _ _ (M+1) rfl rfl (by omega) (by omega) (by rw[au];omega) (by unfold maxLen;omega) (AI _) ?_)
    (intro w2 U a1;have b2:=(Below.refl _ _).grown a1 (AE _) (λ k e=>by cases e);obtain⟨f,a2⟩:=exH wr.heap.size;have a8:Hid (AF .i64 3 w2 (.slice (some ⟨f,0,none⟩) (M+1) (M+1)) (List.replicate (M+1) 0)):=by show w2.ownsRow _ _ _ _ _ _;rw[toList_madeCells_one,a2.o]at U;simpa using U);have ai:=z6 (T.o.so.below b2);have aj:=z6 (T.o.wo.below b2);have a5:=z6 (T.o.bel.trans (b2.mono T.o.bel.size));(have ba:I<f:=by rw[<-a2.o];exact T.o.so.lt I rfl);(have bc:O<f:=by rw[<-a2.o];exact T.o.wo.lt O rfl);have a7:Hid (w.heap.size<=f/\w.heap.size<=O):=⟨by rw[<-a2.o];exact T.o.bel.size,T.o.wn O rfl⟩
    have b9:=a8.o.lt f rfl;rw[a2.o];clear U a1 b2 T cM B aq ar au;(have L:Hid ((wt cs cs.length).length=n+1):=by show _=_;rw[GQ,E]);have ad:=AFv O wc (wt cs cs.length) w2 (by rw[L.o];exact aj.o) (by rw[L.o];omega) (by rw[L.o];omega) (λ i hi=>LM cs _ i hi) (by have:=ag.o.wsum;omega);rw[L.o]at ad;go_wp2_with fail;refine ad.mono ?_;clear ad;rintro e K ⟨dv,r,rfl,b4,ac,a4,an⟩;(have a0:r.length=n+1:=by rw[ac.len (λ i hi=>LM cs _ i hi) (by rw[L.o];omega),L.o]);have aw:=z6 a0;have ay:Hid (AF .i64 3 K (.slice (some ⟨f,0,none⟩) (M+1) (M+1)) (GG cs r 0)):=by show AF _ _ _ _ _;rw[ACO,Y.o];exact a8.o.tch a4 (λ j B e=>by simp only[Value.ownBlock,Option.some.injEq]at B;omega)
    have b0:=z6 (ai.o.tch a4 (λ j B e=>by simp only[Value.ownBlock,Option.some.injEq]at B;omega));have ae:=z6 (a5.o.trans (a4.below a5.o.size (λ k e=>by rw[e];exact a7.o.2)));have ax:=z6 ac;obtain⟨da,dc,rfl,_,_,_,A6⟩:=b4;obtain⟨W,aa,rfl,am⟩:∃b o,da=some ⟨b,o,none⟩/\∀i,i<r.length->K.cell? ⟨b,o+i,none⟩=some (.int .i64 (r.getD i 0)):=by rcases A6 with e|h;rw[e]at a0;simp at a0;exact h
    (have Sj:f≠W:=by have:=an W rfl;omega);have av:=z6 am;rw[a0];clear ac a4 an A6 am a0 a8 ai aj a5;go_wp2_with fail
    go_loopw [52] (λ i wr=>∃k:Nat,k<=n+1/\i=.int .i64 k/\Hid (AF .i64 3 wr (.slice (some ⟨f,0,none⟩) (M+1) (M+1)) (GG cs r k))/\Hid (AD (λ k=>k=f) K wr)) (λ i _=>n+1-(intOf i).toNat)
    (case atStart=>exact⟨0,AI _,rfl,ay,AD.refl _ _⟩);case round=>
     obtain⟨k,hk,rfl,OL,T⟩:=hrel;by_cases A:k<n+1
     .obtain⟨x,hx⟩:=exH (r.getD k 0);obtain⟨y,hy⟩:=exH ((st cs cs.length).getD k 0);(have bf:y<=M:=by rw[<-Y.o,<-hy.o];exact My cs (by rw[E];exact A));have ab:=av.o k (by rw[aw.o];exact A);have cx:wr.cell? ⟨W,aa+k,none⟩=some (.int .i64 x):=by rw[T.o.cell (p:=⟨W,aa+k,none⟩) (zb0 K ⟨W,aa+k,none⟩ ab) (λ e=>Sj e.symm),ab,hx.o]
      have a9:=(b0.o.at1 k (by rw[Kt,E];exact A))
      (have cy:wr.cell? ⟨I,k,none⟩=some (.int .i64 (y:Int)):=by rw[T.o.cell (p:=⟨I,k,none⟩) a9.2.2 (λ e=>by simp only at e;omega),a9.1,Vc cs _ k (by rw[E];exact A),hy.o]);(obtain⟨cl,fl,_⟩:=OL.o.at1 y (by rw[IG,Y.o];omega);have az:Hid (AF .i64 3 (wr.setCell ⟨f,y,none⟩ (.int .i64 x)) (.slice (some ⟨f,0,none⟩) (M+1) (M+1)) (GG cs r (k+1))):=by show AF _ _ _ _ _;rw[ACN cs r k (by rw[E];exact A),hy.o,hx.o];exact OL.o.set y x);have T5:Hid (AD (λ k=>k=f) K (wr.setCell ⟨f,y,none⟩ (.int .i64 x))):=AD.setCell T.o (p:=⟨f,y,none⟩) (λ _=>rfl) _;clear ab a9 OL T;go_wp2_with fail
      go_roundw
      (case rel=>exact⟨k+1,by omega,by go_num,az,T5⟩);case measure=>simp[intOf];omega
     .obtain rfl:k=n+1:=by omega
      go_wp2_with fail;go_ret2;refine⟨.slice (some ⟨f,0,none⟩) (M+1) (M+1),0,rfl,ae.o.trans (T.o.below ae.o.size (λ k e=>by rw[e];exact a7.o.1)),λ k hk=>?_,.inr ⟨rfl,ag.o,r,?_,ax.o⟩⟩;simp only[Value.ownBlock,Option.some.injEq]at hk;have:=a7.o.1;omega;unfold Cy;rw[E];exact OL.o
