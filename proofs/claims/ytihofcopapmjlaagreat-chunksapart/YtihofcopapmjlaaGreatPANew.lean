import Derived.Test.YtihofcopapmjlaaGreatPFCat
import Derived.Deep.RegionHeld3
import Derived.Test.YtihofcopapmjlaaGreatPFGetP
set_option maxRecDepth 100000
set_option linter.all false
set_option maxHeartbeats 8000000
namespace Go.Proofs.YtihofcopapmjlaaGreat
open Go.Proofs.Tryz
section
open Go.RowKit Ah
def AE0{f}{p:Tmp}{ty}(h:f.results=#[.cell p ty])(q P w):
 (results f q).run P w=((asAddr (q.getD p undef)).run P w).andThen λ a r=>(loadVar ty a).run P r:=by
 simp only[results,h];simp
def AEy{f}{p:Tmp}{ty}(h:f.results=#[.cell p ty])(q P w b v)(ha:q.getD p undef=.pointer (some ⟨b,0,none⟩))(r:(loadVar ty ⟨b,0,none⟩).run P w=.ok v w):(results f q).run P w=.ok v w:=by
 rw[AE0 h,ha];simp[asAddr,Result.andThen,r]
structure FoR(w w':World)(lo hi:Nat)(v u:Value)(ns:List Int):Prop where
 own:ED w' v ns
 pls:∃ps,ps.length=hi/\ED w' u ps/\Da ns ps
 ap:∀k,v.ownBlock=some k->u.ownBlock≠some k
 heap:Bu ns ns.length
 mem:∀n,n∈ns↔(lo:Int)<=n/\n<hi
 len:ns.length=hi-lo
 nv:∀k,v.ownBlock=some k->w.heap.size<=k
 nu:∀k,u.ownBlock=some k->w.heap.size<=k
 bl:Below w.heap.size w w'
def AAH(A f:Nat)(h:A<=f)(I:f<=65536)(w):
 Calls prog 54 #[.int .i64 A,.int .i64 f] w λ e w'=>∃v u ns,e=.returned (.agg #[v,u])/\FoR w w' A f v u ns:=by
 obtain⟨j0,hj,ae,af,ag⟩:=SJ.info;obtain⟨W0,a0⟩:=exN (w.alloc (.cells #[.slice none 0 0,.slice none 0 0] 98))
 go_enter func54,ntmps54
 go_wp2_with(at_make;refine wpList_make_full _ rfl (.tmp 7) (.tmp 7) 23 rfl 0 3 j0 _ 1 underlying23 hj ae af .i64 .i64 _ _ f rfl rfl rfl rfl (by rw[ag];omega) (by unfold maxLen;omega) (AI _) ?_)
 intro B a4 a8;have K:=(Below.refl _ _).grown a8 (AE _) (λ k e=>by cases e);obtain⟨q,J⟩:=exH w.heap.size;have a1:W0.heap.size=q+1:=by rw[<-a0,<-J.o];simp
 have O2:ED B (.slice (some ⟨q+1,0,none⟩) f f) (List.replicate f 0):=by show B.ownsRow _ _ _ _ _ _;rw[toList_madeCells_one,a1]at a4;simp only[zm0,List.map_replicate];exact a4
 have ac:B.heap[q]?=some (.cells #[.slice none 0 0,.slice none 0 0] 98 (0,0)):=by rw[K.block q (by omega),<-a0,<-J.o];exact heap_alloc_new w _
 obtain⟨b,X⟩:=exH B.heap.size;have b6:q+1<b:=by have:=O2.lt (q+1) rfl;rw[<-X.o];exact this
 have F2:Fr (B.alloc (.cells #[.slice none 0 0,.slice (some ⟨q+1,0,none⟩) f f] 98)) ⟨b,98,[],[]⟩ (.slice none 0 0) (.slice (some ⟨q+1,0,none⟩) f f) f []:=by refine⟨?_,(show(98:TypeId)≠3 by decide),CB _ _ _,⟨List.replicate f 0,by simp,O2.tch (S:=λ _=>False) ((AD.refl _ B).alloc _) (λ _ _ e=>e),λ i f=>by simp at f⟩,λ k r=>by cases r⟩;show(B.alloc _).heap[b]?=_;rw[<-X.o];exact heap_alloc_new B _
 obtain⟨U,T⟩:=exH (B.alloc (.cells #[.slice none 0 0,.slice (some ⟨q+1,0,none⟩) f f] 98));rw[T.o]at F2;have aj:=z6 F2;have b0:Hid (U.heap[q]?=some (.cells #[.slice none 0 0,.slice none 0 0] 98 (0,0))):=by rw[<-T.o];show(B.alloc _).heap[q]?=_;rw[Below.heap_alloc _ _ _ (by rw[X.o];omega)];exact ac
 have a2:Hid (U.heap.size=b+1):=by rw[<-T.o,<-X.o];exact(by simp:(B.alloc _).heap.size=B.heap.size+1)
 have ai:Hid (Below q w U):=by
  rw[<-T.o];have W:Below w.heap.size w W0:=by rw[<-a0];exact(Below.refl _ _).alloc (AE _) _
  have I:=W.trans ⟨K.os,K.tape,K.output,K.size,λ k r=>K.block k (by rw[a1,<-J.o];omega)⟩;rw[<-J.o];exact I.alloc (by have:=I.size;omega) _
 rw[a1,J.o];clear a4 a8 hj ae af ag K O2 ac F2 a1 a0;go_wp2_with fail;rw[T.o,X.o]
 go_loopw [6] (λ i wr=>∃(j:Nat)(v:Value)(ns:List Int),A+j<=f/\i=.int .i64 ((A+j:Nat):Int)/\Hid (Fr wr ⟨b,98,[],[]⟩ v (.slice (some ⟨q+1,0,none⟩) f f) f ns)/\Hid (Bu ns ns.length)/\Hid (∀n,n∈ns↔(A:Int)<=n/\n<((A+j:Nat):Int))/\Hid (ns.length=j)/\Hid (∀k,v.ownBlock=some k->q+1<k)/\Hid (AD (λ k=>q<k) U wr)) (λ i _=>f-(intOf i).toNat)
 case atStart=>exact⟨0,.slice none 0 0,[],by omega,by first|rfl|simp,aj,(λ a c W I=>by simp at I),(λ n=>by simp),rfl,(λ k r=>by cases r),AD.refl _ _⟩
 case round=>
  obtain⟨j,v,ns,hj,rfl,E,HH,Z,HN,HV,L⟩:=hrel;by_cases aa:A+j<f
  .obtain⟨t,Y⟩:=exH (A+j);have ao:Hid ((t:Int)∉ns):=λ e=>by have:=(Z.o _).1 e;have:=Y.o;omega
   (have b5:j<=65536:=by omega);rw[Y.o]at aa |-
   go_wp2_with fail;refine(XM ⟨b,98,[],[]⟩ v _ f ns t wr E.o aa ao.o (by rw[HN.o];omega) HH.o).mono ?_;rintro e w4 ⟨rfl,v4,qs,ab,a9,a5,a7,ad⟩;have ak:=z6 ab;have al:=z6 a9;have am:Hid (∀n,n∈qs↔(A:Int)<=n/\n<((A+(j+1):Nat):Int)):=λ n=>by rw[a5.mem_iff];have az:=Z.o n;have b8:=Y.o;simp only[zf0,List.mem_cons,List.not_mem_nil,or_false,az];omega
   (have an:Hid (qs.length=j+1):=by show _=_;rw[a5.length_eq];simp[HN.o]);have b4:=L.o.size;have b3:=a2.o;have au:Hid (∀k,v4.ownBlock=some k->q+1<k):=λ k r=>by rcases a7 k r with e|e;exact HV.o k e;omega
   have ar:Hid (AD (λ k=>q<k) U w4):=L.o.trans ad (λ k _ e=>by
    rcases e with e|e|e;simp only at e;omega;have:=HV.o k e;omega
    .simp only[Value.ownBlock,Option.some.injEq]at e;omega)
   (have he:((t:Int))+1=((A+(j+1):Nat):Int):=by have:=Y.o;omega);have HE:=z6 he;clear ab a9 a5 a7 ad b4 b3 E HH Z HN HV L he;go_wp2_with fail
   go_roundw
   (case rel=>exact⟨j+1,v4,qs,by have:=Y.o;omega,by rw[<-HE.o],ak,al,am,an,au,ar⟩);case measure=>simp[intOf];omega
  .have a3:A+j=f:=by omega
   obtain⟨a,cap,rfl⟩:=E.o.len;have HJ:=z6 a3;have c0:wr.cell? ⟨b,0,none⟩=some (.slice a ns.length cap):=E.o.c0;have c1:wr.cell? ⟨b,1,none⟩=some (.slice (some ⟨q+1,0,none⟩) f f):=E.o.c1;obtain⟨m,hm⟩:=exH ns.length;rw[hm.o]at c0;have O:wr.heap[q]?=some (.cells #[.slice none 0 0,.slice none 0 0] 98 (0,0)):=by rw[L.o.block q (by rw[a2.o];omega) (by omega)];exact b0.o
   (have d0:wr.cell? ⟨q,0,none⟩=some (.slice none 0 0):=by rw[cell_of_row wr q 0 _ _ (0,0) O];rfl);(have d1:wr.cell? ⟨q,1,none⟩=some (.slice none 0 0):=by rw[cell_of_row wr q 1 _ _ (0,0) O];rfl);have e0:wr.frozen? ⟨q,0,none⟩=false:=frozen_of_row wr q 0 _ _ O;have e1:wr.frozen? ⟨q,1,none⟩=false:=frozen_of_row wr q 1 _ _ O;(have b7:q≠b:=by omega);have aq:Hid (wr.heap[q]?=some (.cells #[.slice none 0 0,.slice none 0 0] 98 (0,0))):=O;rw[a3];(have hd:decide (f<f)=false:=by simp);clear O a3;go_wp2_with fail;have W:=heap_setCell_same wr q 0 _ _ (.slice a m cap) aq.o;have I:=heap_setCell_same _ q 1 _ _ (.slice (some ⟨q+1,0,none⟩) f f) W
   have b2:((wr.setCell ⟨q,0,none⟩ (.slice a m cap)).setCell ⟨q,1,none⟩ (.slice (some ⟨q+1,0,none⟩) f f)).rangeAt q 0 [.slice a m cap,.slice (some ⟨q+1,0,none⟩) f f]:=λ j u hu=>by rw[Nat.zero_add,cell_of_row _ q j _ _ (0,0) I];simpa using hu
   (have ax:(prog.info? 98).map (·.size)=some 2:=by kernel_rfl);have ay:=run_loadVar_mid (P:=prog) _ q 0 98 _ _ b2 underlying98 rfl ax;refine bodyPost_ret (v:=.agg #[.slice a m cap,.slice (some ⟨q+1,0,none⟩) f f]) (AEy (p:=4) (ty:=98) rfl _ _ _ q _ rfl ay) rfl ⟨_,_,ns,rfl,?_⟩;have T5:AD (λ k=>k=q) wr ((wr.setCell ⟨q,0,none⟩ (.slice a m cap)).setCell ⟨q,1,none⟩ (.slice (some ⟨q+1,0,none⟩) f f)):=AD.setCell (AD.setCell (AD.refl (λ k=>k=q) wr) (p:=⟨q,0,none⟩) (λ _=>rfl) _) (p:=⟨q,1,none⟩) (λ _=>rfl) _;obtain⟨ps,p1,p2,p3⟩:=E.o.pls;have hv:=HV.o;have ho:=E.o.own;have a6:=E.o.ap;rw[hm.o]at hv ho a6
   refine⟨ho.tch T5 (λ k r e=>by have:=hv k r;omega),⟨ps,p1,p2.tch T5 (λ k r e=>by simp only[Value.ownBlock,Option.some.injEq]at r;omega),p3⟩,a6,HH.o,?_,?_,λ k r=>?_,λ k r=>?_,?_⟩;have:=Z.o;rw[HJ.o]at this;exact this;have W:=HJ.o;have I:=HN.o;omega;have:=hv k r;have:=J.o;omega;simp only[Value.ownBlock,Option.some.injEq]at r;have:=J.o;omega;have av:Below q w wr:=ai.o.trans (L.o.below (by rw[a2.o];omega) (λ k e=>by omega));have aw:Below q wr _:=T5.below (by have:=L.o.size;rw[a2.o]at this;omega) (λ k e=>by omega);rw[J.o];exact av.trans aw
def Fk(lo hi j:Nat):List Int:=List.replicate lo 0++(List.replicate j 1++List.replicate (hi-lo-j) 0)
def Vl(q f j)(h:q+j<=f):(Fk q f j).length=f:=by simp[Fk];omega
def AGg(q f)(h:q<=f):Fk q f 0=List.replicate f 0:=by
 simp only[Fk,List.replicate_zero,List.nil_append,Nat.sub_zero,List.replicate_append_replicate]
 grind
def AGe(f q):Fk f q (q-f)=D9 f (List.replicate (q-f) 0):=by simp[Fk,D9]
def AGf(f q j)(h:f+j<q):(Fk f q j).set (f+j) 1=Fk f q (j+1):=by
 obtain⟨r,hr⟩:∃r,q-f-j=r+1:=⟨q-f-j-1,by omega⟩
 have A:q-f-(j+1)=r:=by omega
 unfold Fk;rw[hr,A,List.set_append_right _ _ (by simp),List.set_append_right _ _ (by simp)];simp only[zm0,Nat.add_sub_cancel_left,Nat.sub_self,List.replicate_succ,List.set_cons_zero];rw[show(1:Int)::List.replicate j 1=List.replicate j 1++[1]from List.replicate_succ'.symm▸(by grind)];simp
def ADD{f q:Nat}{ns}(E:∀n,n∈ns↔(f:Int)<=n/\n<q)(B:ns.length=q-f)(I:ns.Nodup)(h:f<=q):Ks 0 (new f q) ns:=by
 refine⟨λ n=>?_,by rw[B];simp[new],I⟩;rw[E];constructor
 .intro e;obtain⟨i,rfl⟩:∃i:Nat,n=((f+i:Nat):Int):=⟨(n-f).toNat,by omega⟩
  have:=stv_in (s:=new f q) (i:=i) (by simp[new];omega);have r:((new f q).lo+i)=f+i:=rfl;rw[r]at this;rw[this];simp only[new,GA,AP,List.getElem?_replicate]
  grind
 .intro e;obtain⟨i,A,r,_⟩:=stv_idx (s:=new f q) (n:=n) (by omega);simp only[new,zm0]at A r;omega
structure Qt(w W:World)(M g:Nat)(v u:Value)(lo hi:Nat)(ns:List Int):Prop where
 fr:Fr W ⟨M,100,[.slice (some ⟨g,0,none⟩) hi hi],[.slice none 0 0,.int .i64 0]⟩ v u hi ns
 st:Gy W (.slice (some ⟨g,0,none⟩) hi hi) (List.replicate hi 0)
 heap:Bu ns ns.length
 mem:∀n,n∈ns↔(lo:Int)<=n/\n<hi
 len:ns.length=hi-lo
 nM:w.heap.size<=M
 ng:w.heap.size<=g
 nv:∀k,v.ownBlock=some k->w.heap.size<=k
 nu:∀k,u.ownBlock=some k->w.heap.size<=k
 bl:Below w.heap.size w W
def Tw{W W':World}{C f}(q:madeCells (Value.int .u8 0).cells f=C)(r:f<=65536)(h:W'.heap[W.heap.size]?=some (.cells C 109 (0,0))):Gy W' (.slice (some ⟨W.heap.size,0,none⟩) f f) (List.replicate f 0):=by
 show W'.ownsRow _ _ _ _ _ _;have A:C.size=f:=by rw[<-q];exact size_madeCells _ _
 refine⟨by simp,.inr ⟨W.heap.size,f,C,by simp,AI _,h,by simp,by unfold maxLen;omega,by omega,?_⟩⟩;have e:C.toList=List.replicate f (.int .u8 0):=by rw[<-q];exact toList_madeCells_one _ _
 simp_all
def ADC(q f:Nat)(h:q<=f)(K:f<=65536)(w):
 Calls prog 28 #[.int .i64 q,.int .i64 f] w λ e w'=>∃M,e=.returned (.tuple #[mp M,.int .i64 0])/\Pm w' M (new q f) (λ k=>w.heap.size<=k/\k<w'.heap.size)/\Below w.heap.size w w':=by
 have t1:decide (f<q)=false:=by simp;omega
 obtain⟨j0,O,a0,ac,ad⟩:∃i,prog.info? 109=some i/\i.zero=some (.int .u8 0)/\i.size=1/\i.bytes=1:=info_parts (z:=.int .u8 0) (size:=1) (bytes:=1) (by kernel_rfl);obtain⟨C,Z⟩:=exH (madeCells (Value.int .u8 0).cells f);have ak:∀W:World,(Instr.makeSlice 96 (.int .i64 f) (.int .i64 f)).run prog W=.ok (.slice (some ⟨W.heap.size,0,none⟩) f f) (W.alloc (.cells C 109)):=λ W=>by have:=run_make (P:=prog) W 96 109 j0 _ underlying96 O a0 .i64 .i64 f f (by omega) (by omega) (by rw[ad];omega) (by omega);rw[ac]at this;simp only[Int.toNat_natCast,Nat.mul_one]at this;rw[Z.o]at this;exact this
 clear O a0 ac ad
 go_enter func28,ntmps28
 go_wp2_with fail
 go_region_held3 (λ _=>True) (trivial)
  ((go_at_call 54;refine(AAH q f h K _).mono ?_;rintro e E ⟨v,u,ns,rfl,A⟩))
 focus
  obtain⟨g,hg⟩:=exH w.heap.size;obtain⟨M,hM⟩:=exH E.heap.size;obtain⟨W,J⟩:=exH (E.alloc (.cells #[.slice (some ⟨w.heap.size,0,none⟩) f f,v,u,.slice none 0 0,.int .i64 0] 100));have a1:Qt w W M g v u q f ns:=by
   (have a4:(w.alloc (.cells C 109)).drew.heap.size=w.heap.size+1:=by show(w.alloc _).heap.size=_;simp);have I:=A.bl;have ab:=I.size;rw[a4]at ab;(have T:AD (λ _=>False) E W:=by rw[<-J.o];exact(AD.refl _ E).alloc _);have a2:W.heap[w.heap.size]?=some (.cells C 109 (0,0)):=by rw[T.block _ (by omega) (λ e=>e),I.block _ (by rw[a4];omega)];exact heap_alloc_new w _
   have B0:Below w.heap.size w (w.alloc (.cells C 109)).drew:=((Below.refl _ _).alloc (AE _) _).drew;have B1:=B0.trans ⟨I.os,I.tape,I.output,I.size,λ k r=>I.block k (by rw[a4];omega)⟩;obtain⟨U,p1,p2,p3⟩:=A.pls;rw[<-hg.o,<-hM.o];refine⟨⟨?_,(show(100:TypeId)≠3 by decide),A.own.tch T (λ _ _ e=>e),⟨U,p1,p2.tch T (λ _ _ e=>e),p3⟩,A.ap⟩,Tw Z.o K a2,A.heap,A.mem,A.len,by omega,AE _,λ k r=>?_,λ k r=>?_,?_⟩;rw[<-J.o];exact heap_alloc_new E _;have:=A.nv k r;omega;have:=A.nu k r;omega;exact B1.trans (T.below B1.size (λ k e=>e.elim))
 rotate_right;focus
  obtain⟨g,hg⟩:=exH E.heap.size;obtain⟨M,hM⟩:=exH (E.heap.size+1);obtain⟨W,J⟩:=exH ((E.alloc (.cells C 109)).alloc (.cells #[.slice (some ⟨E.heap.size,0,none⟩) f f,v,u,.slice none 0 0,.int .i64 0] 100));have a1:Qt w W M g v u q f ns:=by
   (have I:=((Below.refl w.heap.size w).drew).trans A.bl;have ab:=I.size;(have T:AD (λ _=>False) E W:=by rw[<-J.o];exact((AD.refl _ E).alloc _).alloc _);(have aa:(E.alloc (.cells C 109)).heap.size=E.heap.size+1:=by simp);have a2:W.heap[E.heap.size]?=some (.cells C 109 (0,0)):=by rw[<-J.o,Below.heap_alloc _ _ _ (by rw[aa];omega)];exact heap_alloc_new E _);obtain⟨U,p1,p2,p3⟩:=A.pls;rw[<-hg.o,<-hM.o];refine⟨⟨?_,(show(100:TypeId)≠3 by decide),A.own.tch T (λ _ _ e=>e),⟨U,p1,p2.tch T (λ _ _ e=>e),p3⟩,A.ap⟩,Tw Z.o K a2,A.heap,A.mem,A.len,by omega,by omega,λ k r=>?_,λ k r=>?_,?_⟩;show W.heap[E.heap.size+1]?=_;rw[<-J.o,<-aa];exact heap_alloc_new (E.alloc (.cells C 109)) _;exact A.nv k r;exact A.nu k r
   .exact I.trans (T.below I.size (λ k e=>e.elim))
 all_goals
  rw[J.o,hM.o,hg.o];have B:=z6 a1;clear a1 A ak Z;go_wp2_with fail
  go_loopw [7] (λ i wr=>∃j:Nat,q+j<=f/\i=.int .i64 ((q+j:Nat):Int)/\Hid (Gy wr (.slice (some ⟨g,0,none⟩) f f) (Fk q f j))/\Hid (AD (λ k=>k=g) W wr)) (λ i _=>f-(intOf i).toNat)
  case atStart=>exact⟨0,by omega,by first|rfl|simp,(by rw[AGg q f h];exact B.o.st),AD.refl _ _⟩
  case round=>
   obtain⟨j,O,rfl,HO,Y⟩:=hrel;have a7:=IN B.o.st B.o.fr.blk (show(100:TypeId)≠109 by decide) rfl;by_cases a3:q+j<f
   .obtain⟨g',ao,he,ai,ag,_,a6,a5⟩:=HO.o.shape (by rw[Vl q f j O];omega);simp only[Value.slice.injEq,Option.some.injEq,Addr.mk.injEq,and_true]at he;obtain⟨rfl,an,rfl⟩:=he;clear an;have ct:=a6 (q+j) (by rw[Vl q f j O];exact a3);have ft:=a5 (q+j);obtain⟨y0,a0⟩:=exH ((Fk q f j).getD (q+j) 0);rw[a0.o]at ct;have c0:wr.cell? ⟨M,0,none⟩=some (.slice (some ⟨g,0,none⟩) f f):=by rw[Y.o.cell (p:=⟨M,0,none⟩) B.o.fr.lt (λ e=>a7 e.symm),cell_of_row W M 0 _ _ (0,0) B.o.fr.blk];rfl
    (obtain⟨t,ht⟩:=exH (q+j);have ae:Hid (Gy (wr.setCell ⟨g,t,none⟩ (.int .u8 1)) (.slice (some ⟨g,0,none⟩) f f) (Fk q f (j+1))):=by rw[<-AGf q f j a3,<-ht.o];exact HO.o.set (q+j) 1);have af:Hid (AD (λ k=>k=g) W (wr.setCell ⟨g,t,none⟩ (.int .u8 1))):=AD.setCell Y.o (p:=⟨g,t,none⟩) (λ _=>rfl) _;rw[ht.o]at a3 ct ft |-
    (have HE:Hid (((t:Int))+1=((q+(j+1):Nat):Int)):=by show _=_;have:=ht.o;omega);clear ai ag a6 a5;go_wp2_with fail
    go_roundw
    (case rel=>exact⟨j+1,by have:=ht.o;omega,by rw[<-HE.o],ae,af⟩);case measure=>simp[intOf];omega
   .have a8:q+j=f:=by omega
    (have HJ:Hid (j=f-q):=by show _=_;omega);rw[a8];(have hd:decide (f<f)=false:=by simp);clear a8;go_wp2_with fail;go_ret2;have X:Fr wr ⟨M,100,[.slice (some ⟨g,0,none⟩) f f],[.slice none 0 0,.int .i64 0]⟩ v u f ns:=by have hF:=B.o.fr;obtain⟨U,_,ho,_⟩:=hF.pls;exact hF.tch Y.o (λ e=>a7 e.symm) (λ k r e=>I1 B.o.st hF.own (by decide) (k:=g) rfl (by rw[<-e];exact r)) (λ k r e=>I1 B.o.st ho (by decide) (k:=g) rfl (by rw[<-e];exact r))
    (have a9:(new q f).lo+(new q f).L.length=f:=by simp[new];omega);have O5:=HO.o;rw[HJ.o,AGe]at O5;obtain⟨U,_,al,am⟩:=X.pls;refine⟨M,rfl,⟨.slice (some ⟨g,0,none⟩) f f,v,u,.slice none 0 0,ns,[],⟨⟨?_,O5,B.o.heap,ADD B.o.mem B.o.len am.nodup h,by rw[a9];exact K⟩,CB _ _ _,⟨λ n=>⟨λ e=>by simp at e,λ e=>?_⟩,by simp[new,List.count_replicate],by simp⟩,(λ k r=>by cases r),(λ k r=>by cases r),new_okA h K⟩,λ k r=>?_,λ k r=>r.2⟩,?_⟩;rw[a9];exact X
    .obtain⟨i,aj,_,e3⟩:=stv_idx (s:=new q f) (n:=n) (by omega);have e4:GA (new q f).L i=0:=by simp only[new,zm0]at aj;simp only[new,GA,AP,List.getElem?_replicate];split<;>rfl
     omega
    .rcases r with e|e|e|e|e;subst e;exact⟨B.o.nM,X.lt⟩;exact⟨by cases e;exact B.o.ng,O5.lt k e⟩;exact⟨B.o.nv k e,X.own.lt k e⟩;exact⟨B.o.nu k e,al.lt k e⟩;cases e
    .exact B.o.bl.trans (Y.o.below B.o.bl.size (λ k e=>by rw[e];exact B.o.ng))
end
section
open Go.RowKit
def D2(ops:Array Oper)(i:Nat)(t:Option Tmp)(x:Op):Prop:=(ops[i]?).map (λ o=>(o.dst,o.op,o.guard))=some (t,x,none)
section
variable {P:Program} {md:Region.Mode} {ops:Array Oper} {Q:Exit->Act->World->Prop} {S:World->Prop} {fuel:Nat} {listed:Array Bool} {a:Act} {w:World}
def D2.get{i t x}(h:D2 ops i t x):∃o,ops[i]?=some o/\o.dst=t/\o.op=x/\o.guard=none:=by
 unfold D2 at h;cases e:ops[i]? with
 | none=>rw[e]at h;cases h
 | some o=>rw[e]at h;simp only[Option.map_some,Option.some.injEq,Prod.mk.injEq]at h;exact⟨o,rfl,h.1,h.2.1,h.2.2⟩
def AHP(i t x v)(B:D2 ops i t x)(I:Region.noSelect ops=true)(r:Region.free md ops listed i=true)(hr:(Region.ready md ops listed).contains i=true)(f:∀c a w,Q (.panic c) (a.put t v) w->Q (.panic c) a w)(K:∀o,o.op=x->∀w',S w'->(execOp a.eval o).run P w'=.ok (Next.value v) w')(q:S w)(h:wpAnyH P md ops Q S fuel (listed.setIfInBounds i true) (a.put t v) w):wpAnyH P md ops Q S (fuel+1) listed a w:=by
 obtain⟨o,E,rfl,rfl,A⟩:=B.get;exact wpAnyH_take E I r hr f (.inl ⟨by simp[Region.wanted,A],λ w' J=>K o rfl w' J⟩) q h
def GN(i t x v)(r:∀o,o.op=x->∀w',S w'->(execOp a.eval o).run P w'=.ok (Next.value v) w')(f:S w)(h:wpAnyH P md ops Q S fuel (listed.setIfInBounds i true) (a.put t v) w)(q:D2 ops i t x:=by rfl)(hs:Region.noSelect ops=true:=by kernel_rfl)(hf:Region.free md ops listed i=true:=by kernel_rfl)(hr:(Region.ready md ops listed).contains i=true:=by kernel_rfl)(hQ:∀c a w,Q (.panic c) (a.put t v) w->Q (.panic c) a w:=by exact λ _ _ _ h=>h):wpAnyH P md ops Q S (fuel+1) listed a w:=AHP i t x v q hs hf hr hQ r f h
def WA(i t ty y b f cs d)(J:D2 ops i t (.load ty y))(O:Region.noSelect ops=true)(E:Region.free md ops listed i=true)(hr:(Region.ready md ops listed).contains i=true)(r:∀c a w,Q (.panic c) (a.put t (.agg cs.toArray)) w->Q (.panic c) a w)(U:a.eval y=.pointer (some ⟨b,f,none⟩))(hc:∀w',S w'->w'.rangeAt b f cs)(T:P.underlying ty=some d)(B:d.isRow=true)(K:(P.info? ty).map (·.size)=some cs.length)(A:S w)(h:wpAnyH P md ops Q S fuel (listed.setIfInBounds i true) (a.put t (.agg cs.toArray)) w):wpAnyH P md ops Q S (fuel+1) listed a w:=by
 obtain⟨o,L,rfl,q,I⟩:=J.get;exact wpAnyH_take L O E hr r (yieldsIf_load_mid (by simp[Region.wanted,I]) ty y q b f U cs d hc T B K) A h
def NS(P:Program)(md:Region.Mode)(ops:Array Oper)(Q:Exit->Act->World->Prop)(S:World->Prop)(fuel:Nat)(listed:Array Bool)(a:Act)(w:World)(i:Nat)(t:Option Tmp)(x:Op):Prop:=
 ∀(o:Oper)(K:Act->World->Prop),o.dst=t->o.op=x->o.guard=none->(∀a' w',S w'->wpAnyH P md ops Q S fuel (listed.setIfInBounds i true) a' w'->K a' w')->Oper.wp P o a w K Q
def AGV{i t x}(J:D2 ops i t x)(h:NS P md ops Q S fuel listed a w i t x){rs}(O:AllReadyH P md ops Q S fuel listed a w rs):AllReadyH P md ops Q S fuel listed a w (i::rs):=by obtain⟨o,L,r,A,f⟩:=J.get;refine AllReadyH.cons L (λ K B=>?_) O;rw[if_pos (by simp[Region.wanted,f])];exact h o K r A f (λ q T E I=>B.out q T E (λ _=>I))
def AEq(i t x)(f:D2 ops i t x)(hr:Region.ready md ops listed=[i])(h:NS P md ops Q S fuel listed a w i t x):wpAnyH P md ops Q S (fuel+1) listed a w:=
 wpAnyH_ready hr (by simp) (AGV f h AllReadyH.nil)
def VF(i t x)(h:NS P md ops Q S fuel listed a w i t x)(f:D2 ops i t x:=by rfl)(hr:Region.ready md ops listed=[i]:=by kernel_rfl):wpAnyH P md ops Q S (fuel+1) listed a w:=AEq i t x f hr h
end
end
section
open Go.RowKit Pl
def Qv(w w':World)(v:Value)(n:Nat):Prop:=∀b off x,w.cell? ⟨b,off,none⟩=some x->(v.ownBlock=some b->off<n)->w'.cell? ⟨b,off,none⟩=some x
section
variable {P:Program}
def AFd(w t ty e k bytes)(E:Gw P t e k bytes)(v xs)(Y:AF k e w v xs)(y g0)(hy:w.cell? ⟨g0,0,none⟩=some (.int k y))(a2:xs.length+1<=maxLen)(a3:(xs.length+1)*bytes<=140737488355328):
 ∃q w',(Builtin.append_ #[t,t] ty #[v,.slice (some ⟨g0,0,none⟩) 1 1]).run P w=.ok q w'/\AF k e w' q (xs++[y])/\AY w w' v q/\Qv w w' v xs.length:=by
 obtain⟨L,i,B,hz,Z,U⟩:=E;have aa:Ij w (.slice (some ⟨g0,0,none⟩) 1 1) [.int k y]:=by
  refine⟨_,1,rfl,λ u f=>by simp at f;subst f;rfl,(λ e=>by cases e),λ ad ha j u f=>?_⟩;obtain rfl:=zv0 ha
  match j,f with
  | 0,f=>simp at f;subst f;simpa[Addr.add]using hy
 have J:w.ownsRow 0 e 1 v (xs.map (Value.int k)).length (xs.map (Value.int k)):=by unfold AF at Y;grind
 obtain⟨q,w',hr,ho,W,hf⟩:=Ps (P:=P) w t ty e i (.int k 0) bytes L B hz Z U rfl v (xs.map (Value.int k)) J _ [.int k y] aa (by grind) (by grind);have T:AF k e w' q (xs++[y]):=by unfold AF;grind
 refine⟨q,w',hr,T,⟨(AD.refl _ w).grown W (λ _ _ e=>e),hf⟩,λ b O x hc hb=>?_⟩;have X:∀j u,([.int k y]:List Value)[j]?=some u->w.cell? ((⟨g0,0,none⟩:Addr).add j)=some u:=λ j u f=>by
  match j,f with
  | 0,f=>simp at f;subst f;simpa[Addr.add]using hy
 by_cases A:v.ownBlock=some b
 .have ai:=hb A;rcases J.2 with⟨rfl,h0⟩|⟨g,cap,a1,rfl,_,a7,a8,af,ag,aj⟩
  .cases A
  .have a6:g=b:=by simpa[Value.ownBlock]using A
   subst a6;rw[zu0]at hr a8;by_cases a9:xs.length+1<=cap
   .have K:=run_append_room (P:=P) w t ty e i L B g xs.length cap a1 a7 ⟨g0,0,none⟩ 1 1 [.int k y] (by grind) X (λ u f=>by simp at f;subst f;rfl) a9 (by grind);have r:=hr.symm.trans K;simp only[Result.ok.injEq]at r;obtain⟨rfl,_⟩:=r;obtain⟨g',ab,a0,_,_,_,a4,_⟩:=T.shape (by simp);simp only[Value.slice.injEq,Option.some.injEq,Addr.mk.injEq]at a0;obtain⟨⟨rfl,_⟩,_⟩:=a0;have h1:=a4 O (by simp;omega);rw[h1];obtain⟨g2,ac,ak,_,_,_,ae,_⟩:=Y.shape (by omega)
    grind
   .obtain⟨v2,w2,K,_,a5⟩:=run_append_arg_grows (P:=P) w t ty e i (.int k 0) 1 bytes L B hz Z U rfl (by decide) ⟨g,0,none⟩ xs.length cap (xs.map (Value.int k)) (by simp) (J.cells (g:=g) rfl) ⟨g0,0,none⟩ 1 1 [.int k y] rfl X (by omega) a2 a3;have r:=hr.symm.trans K;simp only[Result.ok.injEq]at r;obtain⟨_,rfl⟩:=r;have I:=zb0 w ⟨g,O,none⟩ hc;rw[World.cell?_of_block (w:=w) (a5.block g I (by simp))];exact hc
 .have I:=zb0 w ⟨b,O,none⟩ hc;rw[World.cell?_of_block (w:=w) (W.block b I (λ e=>A e.symm))];exact hc
def AGa{ops o a w K Q E}(I:o.guard=none)(s x t)(J:o.op=.call { callee:=.builtin .append,args:=#[s,x],argTypes:=#[t,t] })(e k bytes)(El:Gw P t e k bytes)(v xs)(hs:a.eval s=v)(hown:AF k e w v xs)(y g0)(hx:a.eval x=.slice (some ⟨g0,0,none⟩) 1 1)(hy:w.cell? ⟨g0,0,none⟩=some (.int k y))(h63:xs.length+1<=maxLen)(hbytes:(xs.length+1)*bytes<=140737488355328)(h:∀q f,AF k e f q (xs++[y])->AY w f v q->Qv w f v xs.length->K (a.put o.dst q) f):
 if Region.wanted o (yielded ops a.tmps)=true then Oper.wp P o a w K Q else E:=by
 have L:Region.wanted o (yielded ops a.tmps)=true:=by simp[Region.wanted,I]
 rw[if_pos L];obtain⟨q,f,hr,r,A,B⟩:=AFd (P:=P) w t o.type e k bytes El v xs hown y g0 hy h63 hbytes;unfold Oper.wp;simp[execOp,J,resolve,invoke,builtin,hs,hx,hr,Result.andThen];exact h q f r A B
end
end
section
open Go.RowKit Pl
def ADt{k e w v xs}(h:AF k e w v xs):∃a cap,v=.slice a xs.length cap:=by
 obtain⟨a,cap,e,_⟩:=h.rd
 grind
def AIi(W c x y v bs)(r:W.heap[c]?=some (.cells #[x,y] 329 (0,0)))(E:AF .u8 5 W v (AJ bs))(q:Ai bs)(B:v.ownBlock≠some c):
 Wr ((W.setCell ⟨c,0,none⟩ v).setCell ⟨c,1,none⟩ (.int .i64 bs.length)) c v bs:=by
 refine⟨?_,?_,q⟩
 .have f:=heap_setCell_same W c 0 _ _ v r;have I:=heap_setCell_same _ c 1 _ _ (.int .i64 bs.length) f
  grind
 .exact E.tch (S:=λ k=>k=c) (AD.setCell (AD.setCell (AD.refl (λ k=>k=c) W) (p:=⟨c,0,none⟩) (λ _=>rfl) v) (p:=⟨c,1,none⟩) (λ _=>rfl) _) (λ j A e=>B (by rw[A,e]))
def AIG(b Y bs w)(h:Wr w b Y bs)(hb:bs.length<=1125899906841900):
 Calls prog 233 #[.pointer (some ⟨b,0,none⟩)] w λ e w'=>∃v',e=.returned v'/\AF .u8 5 w' v' (AJ (bs++[1]))/\
  Below w.heap.size w w'/\∀k,v'.ownBlock=some k->w.heap.size<=k:=by
 have c0:=h.c0;have d1:=h.c1;have H:=z6 h;have a5:=h.lt;have a2:Hid (∀W:World,Below w.heap.size w W->Rd .u8 W Y (AJ bs)):=λ W hW=>(Pg h.own).below hW;have a0:Hid ((AJ bs).length<=140737488355328):=by show _<=_;rw[Cn];omega
 have n0:=World.new_ne w ⟨b,0,none⟩ c0;have n1:=World.new_ne w ⟨b,1,none⟩ d1;clear h
 go_enter func233,ntmps233
 go_wp2_with fail
 go_region_held3 (λ w'=>w'.cell? ⟨b,0,none⟩=some Y/\w'.cell? ⟨b,1,none⟩=some (.int .i64 bs.length)) (go_keep)
  ((go_at_call 154;refine(MB Y (AJ bs) _ (by exact a2.o _ (by repeat(first|exact Below.refl _ _|apply Below.drew|exact AE _|apply Below.alloc))) a0.o).mono ?_;rintro e f ⟨v1,rfl,T,r⟩;obtain⟨A,c1,a4⟩:=ADt T;subst a4;have k0:=r.below.1.cell (p:=⟨b,0,none⟩) (by simp;omega);have k1:=r.below.1.cell (p:=⟨b,1,none⟩) (by simp;omega);have k2:=fun(o:Nat) (h:w.heap.size<_)=>r.below.1.cell (p:=⟨w.heap.size,o,none⟩) h;have k3:=fun(o:Nat) (h:w.heap.size<_)=>r.below.1.frozen (p:=⟨w.heap.size,o,none⟩) h))
 .have q:=r.below;have J:=z6 (((Below.refl w.heap.size w).drew).trans q.1);have I:=z6 q.2;have Z:=z6 T;clear q T r k0 k1 k2 k3 n0 n1 c0 d1;go_wp2_with fail;refine(NW _ (Value.slice A (AJ bs).length c1) 1 bs _ ?hw1 (by omega) (.inr rfl)).mono ?_;case hw1=>exact⟨heap_alloc_new f _,Z.o.below ((Below.refl _ _).alloc (AE _) _),H.o.bits⟩
  rintro e U ⟨rfl,E,B,K,L⟩;have a3:=B.c0;have HR:Hid (AF .u8 5 U E (AJ (bs++[1]))/\Below w.heap.size w U/\∀k,E.ownBlock=some k->w.heap.size<=k):=by have X:=J.o.size;refine⟨B.own,?_,λ k O=>?_⟩;refine Below.trans (b:=f) J.o (AD.below (S:=λ k=>k=f.heap.size\/(Value.slice A (AJ bs).length c1).ownBlock=some k) ?_ X ?_);refine AD.trans (S':=λ k=>k=f.heap.size\/(Value.slice A (AJ bs).length c1).ownBlock=some k) ?_ K (λ _ _ e=>e);exact(AD.refl _ f).alloc _;rintro k (rfl|e);exact X;exact I.o k e;rcases L k O with e|e;exact I.o k e;simp at e;omega
  clear B K L;go_wp2_with fail;go_ret;exact⟨E,rfl,HR.o⟩
 .have q:=r.below;have J:Hid (Below w.heap.size w f):=by have h1:Below w.heap.size w (w.alloc (.cells #[Value.slice none 0 0,Value.int .i64 0] 329)).drew:=((Below.refl w.heap.size w).alloc (AE _) _).drew;exact h1.trans (q.1.mono h1.size)
  have I:Hid (∀k,(Value.slice A (AJ bs).length c1).ownBlock=some k->w.heap.size+1<=k):=λ k O=>by have:=q.2 k O;simpa using this
  have Z:=z6 T;have a1:Hid (f.heap[w.heap.size]?=some (.cells #[Value.slice none 0 0,Value.int .i64 0] 329 (0,0))):=by have:=q.1.block w.heap.size (by simp);rw[this];exact heap_alloc_new w _
  clear q T r k0 k1 k2 k3 n0 n1 c0 d1;go_wp2_with fail;refine(NW _ (Value.slice A (AJ bs).length c1) 1 bs _ ?hw2 (by omega) (.inr rfl)).mono ?_;case hw2=>refine AIi _ _ _ _ _ bs a1.o Z.o H.o.bits (λ e=>?_);have:=I.o _ e;omega
  rintro e U ⟨rfl,E,B,K,L⟩;have a3:=B.c0;have HR:Hid (AF .u8 5 U E (AJ (bs++[1]))/\Below w.heap.size w U/\∀k,E.ownBlock=some k->w.heap.size<=k):=by have X:=J.o.size;refine⟨B.own,?_,λ k O=>?_⟩;refine Below.trans (b:=f) J.o (AD.below (S:=λ k=>k=w.heap.size\/(Value.slice A (AJ bs).length c1).ownBlock=some k) ?_ X ?_);refine AD.trans (S':=λ k=>k=w.heap.size\/(Value.slice A (AJ bs).length c1).ownBlock=some k) ?_ K (λ _ _ e=>e);exact AD.setCell (AD.setCell (AD.refl _ f) (λ _=>.inl rfl) _) (λ _=>.inl rfl) _;rintro k (rfl|e);exact AE _;have:=I.o k e;omega;rcases L k O with e|e;have:=I.o k e;omega;simp at e;omega
  clear B K L;go_wp2_with fail;go_ret;exact⟨E,rfl,HR.o⟩
