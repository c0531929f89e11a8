import Derived.Test.YtcmjlibndmneiaaGreatPRow0
import Derived.Deep.RegionHeld3
set_option maxRecDepth 100000
set_option linter.all false
set_option maxHeartbeats 8000000
namespace Go.Proofs.YtcmjlibndmneiaaGreat
open Go.RowKit
def opIs(ops:Array Oper)(i:Nat)(t:Option Tmp)(x:Op):Prop:=(ops[i]?).map (λ o=>(o.dst,o.op,o.guard))=some (t,x,none)
section
variable {P:Program} {md:Region.Mode} {ops:Array Oper} {Q:Exit->Act->World->Prop} {S:World->Prop} {fuel:Nat} {listed:Array Bool} {a:Act} {w:World}
def opIs.get{i:Nat}{t:Option Tmp}{x:Op}(h:opIs ops i t x):∃o,ops[i]?=some o/\o.dst=t/\o.op=x/\o.guard=none:=by
 unfold opIs at h;cases e:ops[i]? with
 | none=>rw[e]at h;cases h
 | some o=>rw[e]at h;simp only[Option.map_some,Option.some.injEq,Prod.mk.injEq]at h;exact⟨o,rfl,h.1,h.2.1,h.2.2⟩
def takeT(i:Nat)(t:Option Tmp)(x:Op)(v:Value)(hi:opIs ops i t x)(K:Region.noSelect ops=true)(E:Region.free md ops listed i=true)(hr:(Region.ready md ops listed).contains i=true)
 (u:∀c a w,Q (.panic c) (a.put t v) w->Q (.panic c) a w) (T:∀o:Oper,o.op=x->∀w',S w'->(execOp a.eval o).run P w'=.ok (Next.value v) w') (A:S w)
 (h:wpAnyH P md ops Q S fuel (listed.setIfInBounds i true) (a.put t v) w):wpAnyH P md ops Q S (fuel+1) listed a w:=by
 obtain⟨o,I,rfl,rfl,H⟩:=hi.get;exact wpAnyH_take I K E hr u (.inl ⟨by simp[Region.wanted,H],λ w' O=>T o rfl w' O⟩) A h
def tkT(i:Nat)(t:Option Tmp)(x:Op)(v:Value)(A:∀o:Oper,o.op=x->∀w',S w'->(execOp a.eval o).run P w'=.ok (Next.value v) w')(u:S w)(h:wpAnyH P md ops Q S fuel (listed.setIfInBounds i true) (a.put t v) w)(hi:opIs ops i t x:=by rfl)(hs:Region.noSelect ops=true:=by kernel_rfl)(hf:Region.free md ops listed i=true:=by kernel_rfl)(hr:(Region.ready md ops listed).contains i=true:=by kernel_rfl)(hQ:∀c a w,Q (.panic c) (a.put t v) w->Q (.panic c) a w:=by exact λ _ _ _ h=>h):wpAnyH P md ops Q S (fuel+1) listed a w:=takeT i t x v hi hs hf hr hQ A u h
def zhu9(i:Nat)(t:Option Tmp)(ty:TypeId)(y:Operand)(b A:Nat)(u:List Value)(d:TypeDesc)(hi:opIs ops i t (.load ty y))(hs:Region.noSelect ops=true)(T:Region.free md ops listed i=true)(hr:(Region.ready md ops listed).contains i=true)
 (H:∀c a w,Q (.panic c) (a.put t (.agg u.toArray)) w->Q (.panic c) a w) (hx:a.eval y=.pointer (some ⟨b,A,none⟩)) (K:∀w',S w'->w'.rangeAt b A u) (hu:P.underlying ty=some d) (O:d.isRow=true) (hn:(P.info? ty).map (·.size)=some u.length) (I:S w)
 (h:wpAnyH P md ops Q S fuel (listed.setIfInBounds i true) (a.put t (.agg u.toArray)) w):wpAnyH P md ops Q S (fuel+1) listed a w:=by
 obtain⟨o,ho,rfl,E,Y⟩:=hi.get;exact wpAnyH_take ho hs T hr H (yieldsIf_load_mid (by simp[Region.wanted,Y]) ty y E b A hx u d K hu O hn) I h
def StepT(P:Program)(md:Region.Mode)(ops:Array Oper)(Q:Exit->Act->World->Prop)(S:World->Prop)(fuel:Nat)(listed:Array Bool)(a:Act)(w:World)(i:Nat)(t:Option Tmp)(x:Op):Prop:=
 ∀(o:Oper)(K:Act->World->Prop),o.dst=t->o.op=x->o.guard=none->(∀a' w',S w'->wpAnyH P md ops Q S fuel (listed.setIfInBounds i true) a' w'->K a' w')->Oper.wp P o a w K Q
def zct9{i:Nat}{t:Option Tmp}{x:Op}(hi:opIs ops i t x)(h:StepT P md ops Q S fuel listed a w i t x){A:List Nat}(hs:AllReadyH P md ops Q S fuel listed a w A):AllReadyH P md ops Q S fuel listed a w (i::A):=by obtain⟨o,ho,H,I,u⟩:=hi.get;refine AllReadyH.cons ho (λ K O=>?_) hs;rw[if_pos (by simp[Region.wanted,u])];exact h o K H I u (λ E w' T Y=>O.out E w' T (λ _=>Y))
def readyT(i:Nat)(t:Option Tmp)(x:Op)(hi:opIs ops i t x)(hr:Region.ready md ops listed=[i])(h:StepT P md ops Q S fuel listed a w i t x):wpAnyH P md ops Q S (fuel+1) listed a w:=
 wpAnyH_ready hr (by simp) (zct9 hi h AllReadyH.nil)
def rdT(i:Nat)(t:Option Tmp)(x:Op)(h:StepT P md ops Q S fuel listed a w i t x)(hi:opIs ops i t x:=by rfl)(hr:Region.ready md ops listed=[i]:=by kernel_rfl):wpAnyH P md ops Q S (fuel+1) listed a w:=readyT i t x hi hr h
def zyp9(i j:Nat)(t u:Option Tmp)(x y:Op)(hi:opIs ops i t x)(hj:opIs ops j u y)(hr:Region.ready md ops listed=[i,j])(h:StepT P md ops Q S fuel listed a w i t x)(A:StepT P md ops Q S fuel listed a w j u y):wpAnyH P md ops Q S (fuel+1) listed a w:=
 wpAnyH_ready hr (by simp) (zct9 hi h (zct9 hj A AllReadyH.nil))
end
end Go.Proofs.YtcmjlibndmneiaaGreat
namespace Go.Proofs.YtcmjlibndmneiaaGreat
open Go.RowKit Ah
def zhh9{u:Func}{p:Tmp}{ty:TypeId}(h:u.results=#[.cell p ty])(A:Array Value)(P:Program)(w:World):
 (results u A).run P w=((asAddr (A.getD p undef)).run P w).andThen λ a E=>(loadVar ty a).run P E:=by
 simp only[results,h];simp[Sem.run_bind,Result.andThen]
def zlo9{u:Func}{p:Tmp}{ty:TypeId}(h:u.results=#[.cell p ty])(A:Array Value)(P:Program)(w:World)(b:Nat)(v:Value)(ha:A.getD p undef=.pointer (some ⟨b,0,none⟩))
 (E:(loadVar ty ⟨b,0,none⟩).run P w=.ok v w):(results u A).run P w=.ok v w:=by
 rw[zhh9 h,ha];simp[asAddr,Result.andThen,E]
structure FoR(w w':World)(lo hi:Nat)(v u:Value)(ns:List Int):Prop where
 own:OwnsI w' v ns
 pls:∃ps,ps.length=hi/\OwnsI w' u ps/\Pls ns ps
 ap:∀k,v.ownBlock=some k->u.ownBlock≠some k
 heap:Heap ns ns.length
 mem:∀n,n∈ns↔(lo:Int)<=n/\n<hi
 len:ns.length=hi-lo
 nv:∀k,v.ownBlock=some k->w.heap.size<=k
 nu:∀k,u.ownBlock=some k->w.heap.size<=k
 bl:Below w.heap.size w w'
def zib9(lo hi:Nat)(h:lo<=hi)(I:hi<=65536)(w:World):
 Calls Tryz.prog 67 #[.int .i64 lo,.int .i64 hi] w λ e w'=>∃v u ns,e=.returned (.agg #[v,u])/\FoR w w' lo hi v u ns:=by
 obtain⟨j0,hj,ae,af,ag⟩:=elem64.info;obtain⟨W0,a0⟩:=exN (w.alloc (.cells #[.slice none 0 0,.slice none 0 0] 107))
 go_enter Tryz.func67,Tryz.ntmps67
 go_wp2_with(at_make;refine wpList_make_full _ rfl (.tmp 7) (.tmp 7) 56 rfl 0 3 j0 _ 1 Tryz.underlying56 hj ae af .i64 .i64 _ _ hi rfl rfl rfl rfl (by rw[ag];omega) (by unfold maxLen;omega) (zn7 _) ?_)
 intro E a4 a8;have O:=(Below.refl _ _).grown a8 (zn6 _) (λ k e=>by cases e);obtain⟨q,K⟩:=exH w.heap.size;have a1:W0.heap.size=q+1:=by rw[<-a0,<-K.o];simp
 have O2:OwnsI E (.slice (some ⟨q+1,0,none⟩) hi hi) (List.replicate hi 0):=by show E.ownsRow _ _ _ _ _ _;rw[toList_madeCells_one,a1]at a4;simp only[zr0,List.map_replicate];exact a4
 have ac:E.heap[q]?=some (.cells #[.slice none 0 0,.slice none 0 0] 107 (0,0)):=by rw[O.block q (by omega),<-a0,<-K.o];exact heap_alloc_new w _
 obtain⟨b,hb⟩:=exH E.heap.size;have b4:q+1<b:=by have:=O2.lt (q+1) rfl;rw[<-hb.o];exact this
 have F2:Fr (E.alloc (.cells #[.slice none 0 0,.slice (some ⟨q+1,0,none⟩) hi hi] 107)) ⟨b,107,[],[]⟩ (.slice none 0 0) (.slice (some ⟨q+1,0,none⟩) hi hi) hi []:=by refine⟨?_,(show(107:TypeId)≠3 by decide),zdv9 _ _ _,⟨List.replicate hi 0,by simp,O2.tch (S:=λ _=>False) ((Tch.refl _ E).alloc _) (λ _ _ e=>e),λ i hi=>by simp at hi⟩,λ k A=>by cases A⟩;show(E.alloc _).heap[b]?=_;rw[<-hb.o];exact heap_alloc_new E _
 obtain⟨W3,Y⟩:=exH (E.alloc (.cells #[.slice none 0 0,.slice (some ⟨q+1,0,none⟩) hi hi] 107));rw[Y.o]at F2;have ai:=za0 F2;have az:Hid (W3.heap[q]?=some (.cells #[.slice none 0 0,.slice none 0 0] 107 (0,0))):=by rw[<-Y.o];show(E.alloc _).heap[q]?=_;rw[Below.heap_alloc _ _ _ (by rw[hb.o];omega)];exact ac
 have a2:Hid (W3.heap.size=b+1):=by rw[<-Y.o,<-hb.o];exact(by simp:(E.alloc _).heap.size=E.heap.size+1)
 have ah:Hid (Below q w W3):=by
  rw[<-Y.o];have h1:Below w.heap.size w W0:=by rw[<-a0];exact(Below.refl _ _).alloc (zn6 _) _
  have I:=h1.trans ⟨O.os,O.tape,O.output,O.size,λ k A=>O.block k (by rw[a1,<-K.o];omega)⟩;rw[<-K.o];exact I.alloc (by have:=I.size;omega) _
 rw[a1,K.o];clear a4 a8 hj ae af ag O O2 ac F2 a1 a0;go_wp2_with fail;rw[Y.o,hb.o]
 go_loopw [6] (λ i wr=>∃(j:Nat)(v:Value)(ns:List Int),lo+j<=hi/\i=.int .i64 ((lo+j:Nat):Int)/\Hid (Fr wr ⟨b,107,[],[]⟩ v (.slice (some ⟨q+1,0,none⟩) hi hi) hi ns)/\Hid (Heap ns ns.length)/\Hid (∀n,n∈ns↔(lo:Int)<=n/\n<((lo+j:Nat):Int))/\Hid (ns.length=j)/\Hid (∀k,v.ownBlock=some k->q+1<k)/\Hid (Tch (λ k=>q<k) W3 wr)) (λ i _=>hi-(intOf i).toNat)
 case atStart=>exact⟨0,.slice none 0 0,[],by omega,by first|rfl|simp,ai,(λ a c h1 I=>by simp at I),(λ n=>by simp),rfl,(λ k A=>by cases A),Tch.refl _ _⟩
 case round=>
  obtain⟨j,v,ns,hj,rfl,H,HH,HM,HN,HV,Q⟩:=hrel;by_cases aa:lo+j<hi
  .obtain⟨t,ht⟩:=exH (lo+j);have an:Hid ((t:Int)∉ns):=λ e=>by have:=(HM.o _).1 e;have:=ht.o;omega
   (have b3:j<=65536:=by omega);rw[ht.o]at aa |-
   go_wp2_with fail;refine(zsh9 ⟨b,107,[],[]⟩ v _ hi ns t wr H.o aa an.o (by rw[HN.o];omega) HH.o).mono ?_;rintro e w4 ⟨rfl,v4,qs,ab,a9,a5,a7,ad⟩;have aj:=za0 ab;have ak:=za0 a9;have al:Hid (∀n,n∈qs↔(lo:Int)<=n/\n<((lo+(j+1):Nat):Int)):=λ n=>by rw[a5.mem_iff];have ay:=HM.o n;have b6:=ht.o;simp only[zi0,List.mem_cons,List.not_mem_nil,or_false,ay];omega
   (have am:Hid (qs.length=j+1):=by show _=_;rw[a5.length_eq];simp[HN.o]);have b2:=Q.o.size;have b1:=a2.o;have ar:Hid (∀k,v4.ownBlock=some k->q+1<k):=λ k A=>by
    rcases a7 k A with e|e
    .exact HV.o k e
    .omega
   have aq:Hid (Tch (λ k=>q<k) W3 w4):=Q.o.trans ad (λ k _ e=>by
    rcases e with e|e|e
    .simp only at e;omega
    .have:=HV.o k e;omega
    .simp only[Value.ownBlock,Option.some.injEq]at e;omega)
   (have he:((t:Int))+1=((lo+(j+1):Nat):Int):=by have:=ht.o;omega);have HE:=za0 he;clear ab a9 a5 a7 ad b2 b1 H HH HM HN HV Q he;go_wp2_with fail
   go_roundw
   (case rel=>exact⟨j+1,v4,qs,by have:=ht.o;omega,by rw[<-HE.o],aj,ak,al,am,ar,aq⟩);case measure=>simp[intOf];omega
  .have a3:lo+j=hi:=by omega
   obtain⟨a,cap,rfl⟩:=H.o.len;have HJ:=za0 a3;have c0:wr.cell? ⟨b,0,none⟩=some (.slice a ns.length cap):=H.o.c0;have c1:wr.cell? ⟨b,1,none⟩=some (.slice (some ⟨q+1,0,none⟩) hi hi):=H.o.c1;obtain⟨m,hm⟩:=exH ns.length;rw[hm.o]at c0;have T:wr.heap[q]?=some (.cells #[.slice none 0 0,.slice none 0 0] 107 (0,0)):=by rw[Q.o.block q (by rw[a2.o];omega) (by omega)];exact az.o
   (have d0:wr.cell? ⟨q,0,none⟩=some (.slice none 0 0):=by rw[cell_of_row wr q 0 _ _ (0,0) T];rfl);(have d1:wr.cell? ⟨q,1,none⟩=some (.slice none 0 0):=by rw[cell_of_row wr q 1 _ _ (0,0) T];rfl);have e0:wr.frozen? ⟨q,0,none⟩=false:=frozen_of_row wr q 0 _ _ T;have e1:wr.frozen? ⟨q,1,none⟩=false:=frozen_of_row wr q 1 _ _ T;(have b5:q≠b:=by omega);have ao:Hid (wr.heap[q]?=some (.cells #[.slice none 0 0,.slice none 0 0] 107 (0,0))):=T;rw[a3];(have hd:decide (hi<hi)=false:=by simp);clear T a3;go_wp2_with fail;have h1:=heap_setCell_same wr q 0 _ _ (.slice a m cap) ao.o;have I:=heap_setCell_same _ q 1 _ _ (.slice (some ⟨q+1,0,none⟩) hi hi) h1
   have b0:((wr.setCell ⟨q,0,none⟩ (.slice a m cap)).setCell ⟨q,1,none⟩ (.slice (some ⟨q+1,0,none⟩) hi hi)).rangeAt q 0 [.slice a m cap,.slice (some ⟨q+1,0,none⟩) hi hi]:=λ j u hu=>by rw[Nat.zero_add,cell_of_row _ q j _ _ (0,0) I];simpa using hu
   (have aw:(Tryz.prog.info? 107).map (·.size)=some 2:=by kernel_rfl);have ax:=run_loadVar_mid (P:=Tryz.prog) _ q 0 107 _ _ b0 Tryz.underlying107 rfl aw;refine bodyPost_ret (v:=.agg #[.slice a m cap,.slice (some ⟨q+1,0,none⟩) hi hi]) (zlo9 (p:=4) (ty:=107) rfl _ _ _ q _ rfl ax) rfl ⟨_,_,ns,rfl,?_⟩;have T5:Tch (λ k=>k=q) wr ((wr.setCell ⟨q,0,none⟩ (.slice a m cap)).setCell ⟨q,1,none⟩ (.slice (some ⟨q+1,0,none⟩) hi hi)):=Tch.setCell (Tch.setCell (Tch.refl (λ k=>k=q) wr) (p:=⟨q,0,none⟩) (λ _=>rfl) _) (p:=⟨q,1,none⟩) (λ _=>rfl) _;obtain⟨ps,p1,p2,p3⟩:=H.o.pls;have hv:=HV.o;have ho:=H.o.own;have a6:=H.o.ap;rw[hm.o]at hv ho a6
   refine⟨ho.tch T5 (λ k A e=>by have:=hv k A;omega),⟨ps,p1,p2.tch T5 (λ k A e=>by simp only[Value.ownBlock,Option.some.injEq]at A;omega),p3⟩,a6,HH.o,?_,?_,λ k A=>?_,λ k A=>?_,?_⟩
   .have:=HM.o;rw[HJ.o]at this;exact this
   .have h1:=HJ.o;have I:=HN.o;omega
   .have:=hv k A;have:=K.o;omega
   .simp only[Value.ownBlock,Option.some.injEq]at A;have:=K.o;omega
   .have au:Below q w wr:=ah.o.trans (Q.o.below (by rw[a2.o];omega) (λ k e=>by omega));have av:Below q wr _:=T5.below (by have:=Q.o.size;rw[a2.o]at this;omega) (λ k e=>by omega);rw[K.o];exact au.trans av
def stn(lo hi j:Nat):List Int:=List.replicate lo 0++(List.replicate j 1++List.replicate (hi-lo-j) 0)
def ztk9(lo hi j:Nat)(h:lo+j<=hi):(stn lo hi j).length=hi:=by simp[stn];omega
def zvx9(lo hi:Nat)(h:lo<=hi):stn lo hi 0=List.replicate hi 0:=by simp only[stn,List.replicate_zero,List.nil_append,Nat.sub_zero,List.replicate_append_replicate];congr 1;omega
def zyw9(lo hi:Nat):stn lo hi (hi-lo)=sts lo (List.replicate (hi-lo) 0):=by simp[stn,sts]
def zvw9(lo hi j:Nat)(h:lo+j<hi):(stn lo hi j).set (lo+j) 1=stn lo hi (j+1):=by
 obtain⟨r,hr⟩:∃r,hi-lo-j=r+1:=⟨hi-lo-j-1,by omega⟩
 have u:hi-lo-(j+1)=r:=by omega
 unfold stn;rw[hr,u,List.set_append_right _ _ (by simp),List.set_append_right _ _ (by simp)];simp only[zr0,Nat.add_sub_cancel_left,Nat.sub_self,List.replicate_succ,List.set_cons_zero];rw[show(1:Int)::List.replicate j 1=List.replicate j 1++[1]from List.replicate_succ'.symm▸(by rw[<-List.replicate_succ,List.replicate_succ'])];simp
def new_ks{lo hi:Nat}{ns:List Int}(H:∀n,n∈ns↔(lo:Int)<=n/\n<hi)(E:ns.length=hi-lo)(I:ns.Nodup)(h:lo<=hi):Ks 0 (new lo hi) ns:=by
 refine⟨λ n=>?_,by rw[E];simp[new],I⟩;rw[H];constructor
 .intro e;obtain⟨i,rfl⟩:∃i:Nat,n=((lo+i:Nat):Int):=⟨(n-lo).toNat,by omega⟩
  have:=stv_in (s:=new lo hi) (i:=i) (by simp[new];omega);have u:((new lo hi).lo+i)=lo+i:=rfl;rw[u]at this;rw[this];simp only[new,G,zn3,List.getElem?_replicate];split<;>rfl
 .intro e;obtain⟨i,A,u,_⟩:=zhs9 (s:=new lo hi) (n:=n) (by omega);simp only[new,zr0]at A u;omega
structure NwA(w W:World)(M g:Nat)(v u:Value)(lo hi:Nat)(ns:List Int):Prop where
 fr:Fr W ⟨M,109,[.slice (some ⟨g,0,none⟩) hi hi],[.slice none 0 0,.int .i64 0]⟩ v u hi ns
 st:OwnsS W (.slice (some ⟨g,0,none⟩) hi hi) (List.replicate hi 0)
 heap:Heap ns ns.length
 mem:∀n,n∈ns↔(lo:Int)<=n/\n<hi
 len:ns.length=hi-lo
 nM:w.heap.size<=M
 ng:w.heap.size<=g
 nv:∀k,v.ownBlock=some k->w.heap.size<=k
 nu:∀k,u.ownBlock=some k->w.heap.size<=k
 bl:Below w.heap.size w W
def zsz9{W u:World}{C:Array Value}{hi:Nat}(A:madeCells (Value.int .u8 0).cells hi=C)(H:hi<=65536)(h:u.heap[W.heap.size]?=some (.cells C 131 (0,0))):OwnsS u (.slice (some ⟨W.heap.size,0,none⟩) hi hi) (List.replicate hi 0):=by
 show u.ownsRow _ _ _ _ _ _;have E:C.size=hi:=by rw[<-A];exact size_madeCells _ _
 refine⟨by simp,.inr ⟨W.heap.size,hi,C,by simp,zn7 _,h,by simp,by unfold maxLen;omega,by simpa using E,?_⟩⟩;have e:C.toList=List.replicate hi (.int .u8 0):=by rw[<-A];exact toList_madeCells_one _ _
 rw[e];simp
def zye9(lo hi:Nat)(h:lo<=hi)(Q:hi<=65536)(w:World):
 Calls Tryz.prog 35 #[.int .i64 lo,.int .i64 hi] w λ e w'=>∃M,e=.returned (.tuple #[mp M,.int .i64 0])/\Pm w' M (new lo hi) (λ k=>w.heap.size<=k/\k<w'.heap.size)/\Below w.heap.size w w':=by
 have t1:decide (hi<lo)=false:=by simp;omega
 obtain⟨j0,Y,a0,ac,ad⟩:∃i,Tryz.prog.info? 131=some i/\i.zero=some (.int .u8 0)/\i.size=1/\i.bytes=1:=info_parts (z:=.int .u8 0) (size:=1) (bytes:=1) (by kernel_rfl);obtain⟨C,hC⟩:=exH (madeCells (Value.int .u8 0).cells hi);have aj:∀W:World,(Instr.makeSlice 105 (.int .i64 hi) (.int .i64 hi)).run Tryz.prog W=.ok (.slice (some ⟨W.heap.size,0,none⟩) hi hi) (W.alloc (.cells C 131)):=λ W=>by have:=run_make (P:=Tryz.prog) W 105 131 j0 _ Tryz.underlying105 Y a0 .i64 .i64 hi hi (by omega) (by omega) (by rw[ad];omega) (by omega);rw[ac]at this;simp only[Int.toNat_natCast,Nat.mul_one]at this;rw[hC.o]at this;exact this
 clear Y a0 ac ad
 go_enter Tryz.func35,Tryz.ntmps35
 go_wp2_with fail
 go_region_held3 (λ _=>True) (trivial)
  ((go_at_call 67;refine(zib9 lo hi h Q _).mono ?_;rintro e I ⟨v,u,ns,rfl,E⟩))
 focus
  obtain⟨g,hg⟩:=exH w.heap.size;obtain⟨M,hM⟩:=exH I.heap.size;obtain⟨W,O⟩:=exH (I.alloc (.cells #[.slice (some ⟨w.heap.size,0,none⟩) hi hi,v,u,.slice none 0 0,.int .i64 0] 109));have a1:NwA w W M g v u lo hi ns:=by
   (have a4:(w.alloc (.cells C 131)).drew.heap.size=w.heap.size+1:=by show(w.alloc _).heap.size=_;simp);have K:=E.bl;have ab:=K.size;rw[a4]at ab;(have T:Tch (λ _=>False) I W:=by rw[<-O.o];exact(Tch.refl _ I).alloc _);have a2:W.heap[w.heap.size]?=some (.cells C 131 (0,0)):=by rw[T.block _ (by omega) (λ e=>e),K.block _ (by rw[a4];omega)];exact heap_alloc_new w _
   have B0:Below w.heap.size w (w.alloc (.cells C 131)).drew:=((Below.refl _ _).alloc (zn6 _) _).drew;have B1:=B0.trans ⟨K.os,K.tape,K.output,K.size,λ k A=>K.block k (by rw[a4];omega)⟩;obtain⟨ps,p1,p2,p3⟩:=E.pls;rw[<-hg.o,<-hM.o];refine⟨⟨?_,(show(109:TypeId)≠3 by decide),E.own.tch T (λ _ _ e=>e),⟨ps,p1,p2.tch T (λ _ _ e=>e),p3⟩,E.ap⟩,zsz9 hC.o Q a2,E.heap,E.mem,E.len,by omega,zn6 _,λ k A=>?_,λ k A=>?_,?_⟩
   .rw[<-O.o];exact heap_alloc_new I _
   .have:=E.nv k A;omega
   .have:=E.nu k A;omega
   .exact B1.trans (T.below B1.size (λ k e=>e.elim))
 rotate_right;focus
  obtain⟨g,hg⟩:=exH I.heap.size;obtain⟨M,hM⟩:=exH (I.heap.size+1);obtain⟨W,O⟩:=exH ((I.alloc (.cells C 131)).alloc (.cells #[.slice (some ⟨I.heap.size,0,none⟩) hi hi,v,u,.slice none 0 0,.int .i64 0] 109));have a1:NwA w W M g v u lo hi ns:=by
   (have K:=((Below.refl w.heap.size w).drew).trans E.bl;have ab:=K.size;(have T:Tch (λ _=>False) I W:=by rw[<-O.o];exact((Tch.refl _ I).alloc _).alloc _);(have aa:(I.alloc (.cells C 131)).heap.size=I.heap.size+1:=by simp);have a2:W.heap[I.heap.size]?=some (.cells C 131 (0,0)):=by rw[<-O.o,Below.heap_alloc _ _ _ (by rw[aa];omega)];exact heap_alloc_new I _);obtain⟨ps,p1,p2,p3⟩:=E.pls;rw[<-hg.o,<-hM.o];refine⟨⟨?_,(show(109:TypeId)≠3 by decide),E.own.tch T (λ _ _ e=>e),⟨ps,p1,p2.tch T (λ _ _ e=>e),p3⟩,E.ap⟩,zsz9 hC.o Q a2,E.heap,E.mem,E.len,by omega,by omega,λ k A=>?_,λ k A=>?_,?_⟩
   .show W.heap[I.heap.size+1]?=_;rw[<-O.o,<-aa];exact heap_alloc_new (I.alloc (.cells C 131)) _
   .exact E.nv k A
   .exact E.nu k A
   .exact K.trans (T.below K.size (λ k e=>e.elim))
 all_goals
  rw[O.o,hM.o,hg.o];have H:=za0 a1;clear a1 E aj hC;go_wp2_with fail
  go_loopw [7] (λ i wr=>∃j:Nat,lo+j<=hi/\i=.int .i64 ((lo+j:Nat):Int)/\Hid (OwnsS wr (.slice (some ⟨g,0,none⟩) hi hi) (stn lo hi j))/\Hid (Tch (λ k=>k=g) W wr)) (λ i _=>hi-(intOf i).toNat)
  case atStart=>exact⟨0,by omega,by first|rfl|simp,(by rw[zvx9 lo hi h];exact H.o.st),Tch.refl _ _⟩
  case round=>
   obtain⟨j,Y,rfl,HO,HT⟩:=hrel;have a7:=zbo9 H.o.st H.o.fr.blk (show(109:TypeId)≠131 by decide) rfl;by_cases a3:lo+j<hi
   .obtain⟨g',an,he,ah,ag,_,a6,a5⟩:=HO.o.shape (by rw[ztk9 lo hi j Y];omega);simp only[Value.slice.injEq,Option.some.injEq,Addr.mk.injEq,and_true]at he;obtain⟨rfl,am,rfl⟩:=he;clear am;have ct:=a6 (lo+j) (by rw[ztk9 lo hi j Y];exact a3);have ft:=a5 (lo+j);obtain⟨y0,a0⟩:=exH ((stn lo hi j).getD (lo+j) 0);rw[a0.o]at ct;have c0:wr.cell? ⟨M,0,none⟩=some (.slice (some ⟨g,0,none⟩) hi hi):=by rw[HT.o.cell (p:=⟨M,0,none⟩) H.o.fr.lt (λ e=>a7 e.symm),cell_of_row W M 0 _ _ (0,0) H.o.fr.blk];rfl
    (obtain⟨t,ht⟩:=exH (lo+j);have ae:Hid (OwnsS (wr.setCell ⟨g,t,none⟩ (.int .u8 1)) (.slice (some ⟨g,0,none⟩) hi hi) (stn lo hi (j+1))):=by rw[<-zvw9 lo hi j a3,<-ht.o];exact HO.o.set (lo+j) 1);have af:Hid (Tch (λ k=>k=g) W (wr.setCell ⟨g,t,none⟩ (.int .u8 1))):=Tch.setCell HT.o (p:=⟨g,t,none⟩) (λ _=>rfl) _;rw[ht.o]at a3 ct ft |-
    (have HE:Hid (((t:Int))+1=((lo+(j+1):Nat):Int)):=by show _=_;have:=ht.o;omega);clear ah ag a6 a5;go_wp2_with fail
    go_roundw
    (case rel=>exact⟨j+1,by have:=ht.o;omega,by rw[<-HE.o],ae,af⟩);case measure=>simp[intOf];omega
   .have a8:lo+j=hi:=by omega
    (have HJ:Hid (j=hi-lo):=by show _=_;omega);rw[a8];(have hd:decide (hi<hi)=false:=by simp);clear a8;go_wp2_with fail;go_ret2;have F5:Fr wr ⟨M,109,[.slice (some ⟨g,0,none⟩) hi hi],[.slice none 0 0,.int .i64 0]⟩ v u hi ns:=by have hF:=H.o.fr;obtain⟨ps,_,ho,_⟩:=hF.pls;exact hF.tch HT.o (λ e=>a7 e.symm) (λ k A e=>zap9 H.o.st hF.own (by decide) (k:=g) rfl (by rw[<-e];exact A)) (λ k A e=>zap9 H.o.st ho (by decide) (k:=g) rfl (by rw[<-e];exact A))
    (have a9:(new lo hi).lo+(new lo hi).L.length=hi:=by simp[new];omega);have O5:=HO.o;rw[HJ.o,zyw9]at O5;obtain⟨ps,_,ak,al⟩:=F5.pls;refine⟨M,rfl,⟨.slice (some ⟨g,0,none⟩) hi hi,v,u,.slice none 0 0,ns,[],⟨⟨?_,O5,H.o.heap,new_ks H.o.mem H.o.len al.nodup h,by rw[a9];exact Q⟩,zdv9 _ _ _,⟨λ n=>⟨λ e=>by simp at e,λ e=>?_⟩,by simp[new,List.count_replicate],by simp⟩,(λ k A=>by cases A),(λ k A=>by cases A),new_ok h Q⟩,λ k A=>?_,λ k A=>A.2⟩,?_⟩
    .rw[a9];exact F5
    .obtain⟨i,ai,_,e3⟩:=zhs9 (s:=new lo hi) (n:=n) (by omega);have e4:G (new lo hi).L i=0:=by simp only[new,zr0]at ai;simp only[new,G,zn3,List.getElem?_replicate];split<;>rfl
     omega
    .rcases A with e|e|e|e|e
     .subst e;exact⟨H.o.nM,F5.lt⟩
     .exact⟨by cases e;exact H.o.ng,O5.lt k e⟩
     .exact⟨H.o.nv k e,F5.own.lt k e⟩
     .exact⟨H.o.nu k e,ak.lt k e⟩
     .cases e
    .exact H.o.bl.trans (HT.o.below H.o.bl.size (λ k e=>by rw[e];exact H.o.ng))
