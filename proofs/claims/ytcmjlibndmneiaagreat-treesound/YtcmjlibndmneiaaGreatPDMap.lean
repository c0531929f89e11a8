import Derived.Test.YtcmjlibndmneiaaGreatPDBs
import Derived.Maps.Ext
set_option maxRecDepth 100000
set_option linter.all false
set_option maxHeartbeats 8000000
namespace Go.Proofs.YtcmjlibndmneiaaGreat
open Go.RowKit Go.Maps
def Rv(v:Value):Option (DataW Value×List MemPlace):=some (.held v,[])
def ents(n:Nat)(g:Nat->Option Value):List (Lit×DataW Value):=(List.range n).filterMap λ i=>(g i).map λ v=>(Lit.int .i64 (i:Int),DataW.held v)
def Dm(n:Nat)(g:Nat->Option Value):DataW Value:=.map (ents n g)
def zcm9{n:Nat}{g:Nat->Option Value}{p:Lit×DataW Value}:p∈ents n g↔∃i v,i<n/\g i=some v/\p=(Lit.int .i64 (i:Int),DataW.held v):=by
 unfold ents;rw[List.mem_filterMap];constructor
 .rintro⟨i,u,h⟩;cases e:g i with
  | none=>rw[e]at h;cases h
  | some v=>rw[e]at h;simp at h u;exact⟨i,v,u,e,h.symm⟩
 .rintro⟨i,v,u,e,rfl⟩;exact⟨i,by simpa using u,by rw[e];rfl⟩
def zky9(n:Nat)(g:Nat->Option Value):(ents n g).Pairwise (λ p q=>p.1.before q.1=true):=by
 unfold ents;rw[List.pairwise_filterMap];refine List.Pairwise.imp ?_ List.pairwise_lt_range;intro i j H p A q E;cases e:g i with
 | none=>rw[e]at A;cases A
 | some v=>
  cases e2:g j with
  | none=>rw[e2]at E;cases E
  | some u=>rw[e]at A;rw[e2]at E;simp at A E;subst A;subst E;simp[Lit.before];exact H
def zmt9(n:Nat)(g:Nat->Option Value):Canon (Dm n g):=⟨_,rfl,zky9 n g,λ p u=>by
 obtain⟨i,v,_,_,rfl⟩:=zcm9.1 u
 trivial⟩
def dm_has{n:Nat}{g:Nat->Option Value}{E:Lit}:Maps.has (Dm n g) E=true↔∃i v,i<n/\g i=some v/\E=Lit.int .i64 (i:Int):=by
 unfold Dm;rw[has_eq,List.any_eq_true];constructor
 .rintro⟨p,H,I⟩;obtain⟨i,v,A,u,rfl⟩:=zcm9.1 H;exact⟨i,v,A,u,(WideAt.sameKey_eq I).symm⟩
 .rintro⟨i,v,A,u,rfl⟩;exact⟨_,zcm9.2 ⟨i,v,A,u,rfl⟩,by simp[Lit.sameKey]⟩
def dm_at{n:Nat}{g:Nat->Option Value}{i:Nat}{v:Value}(hi:i<n)(E:g i=some v)(z:DataW Value):(Dm n g).atKey (Lit.int .i64 (i:Int)) z=.held v:=by
 unfold Dm DataW.atKey;cases e:(ents n g).find? (λ p=>p.1.sameKey (Lit.int .i64 (i:Int)))with
 | none=>have h:=List.find?_eq_none.1 e _ (zcm9.2 ⟨i,v,hi,E,rfl⟩);simp[Lit.sameKey]at h
 | some p=>
  have I:=List.find?_some e;have K:=List.mem_of_find?_eq_some e;obtain⟨j,u,_,H,rfl⟩:=zcm9.1 K;have A:=WideAt.sameKey_eq I;simp at A;have A:j=i:=by omega
  subst A;rw[E]at H;cases H;simp only[e]
def dm_not{n:Nat}{g:Nat->Option Value}{i:Nat}(A:g i=none)(z:DataW Value):(Dm n g).atKey (Lit.int .i64 (i:Int)) z=z:=by
 refine atKey_of_not_has ?_ z;rw[Bool.eq_false_iff];intro h;obtain⟨j,v,_,u,e⟩:=dm_has.1 h;simp at e;have e:i=j:=by omega
 subst e;rw[A]at u;cases u
def gput(g:Nat->Option Value)(i:Nat)(v:Option Value)(j:Nat):Option Value:=if j=i then v else g j
def dm_ext{D:DataW Value}{n:Nat}{g:Nat->Option Value}(H:Canon D)(A:∀k,Maps.has D k=true↔Maps.has (Dm n g) k=true)(ha:∀i v,i<n->g i=some v->∀z,D.atKey (Lit.int .i64 (i:Int)) z=.held v):D=Dm n g:=by refine Maps.ext H (zmt9 n g) (λ k=>by rw[Bool.eq_iff_iff];exact A k) (λ k z h=>?_);obtain⟨i,v,E,u,rfl⟩:=dm_has.1 ((A k).1 h);rw[ha i v E u z,dm_at E u z]
def dm_put{n:Nat}{g:Nat->Option Value}{i:Nat}(hi:i<n)(v:Value)(K:Canon ((Dm n g).put (Lit.int .i64 (i:Int)) (.held v))):(Dm n g).put (Lit.int .i64 (i:Int)) (.held v)=Dm n (gput g i (some v)):=by
 have I:IsMap (Dm n g):=⟨_,rfl⟩
 have H:WideAt.IsKeyLit (Lit.int .i64 (i:Int)):=trivial;refine dm_ext K (λ k=>?_) (λ j u E A z=>?_)
 .by_cases e:k=Lit.int .i64 (i:Int)
  .subst e;rw[has_put_same I H];exact⟨λ _=>dm_has.2 ⟨i,v,hi,by simp[gput],rfl⟩,λ _=>rfl⟩
  .rw[has_put_other e,dm_has,dm_has];constructor
   .rintro⟨j,u,E,A,rfl⟩;have:j≠i:=λ h=>e (by rw[h]);exact⟨j,u,E,by simp[gput,this,A],rfl⟩
   .rintro⟨j,u,E,A,rfl⟩;have:j≠i:=λ h=>e (by rw[h]);simp[gput,this]at A;exact⟨j,u,E,A,rfl⟩
 .by_cases e:j=i
  .subst e;simp[gput]at A;subst A;exact atKey_put_same I H _ _
  .simp[gput,e]at A;rw[atKey_put_other (by simp;omega),dm_at E A]
def dm_del{n:Nat}{g:Nat->Option Value}{i:Nat}(H:Canon ((Dm n g).del (Lit.int .i64 (i:Int)))):(Dm n g).del (Lit.int .i64 (i:Int))=Dm n (gput g i none):=by
 refine dm_ext H (λ k=>?_) (λ j u E A z=>?_)
 .by_cases e:k=Lit.int .i64 (i:Int)
  .subst e;rw[has_del_same];constructor
   .intro h;cases h
   .intro h;obtain⟨j,u,E,A,e⟩:=dm_has.1 h;simp at e;(have e:j=i:=by omega);subst e;simp[gput]at A
  .rw[has_del_other e,dm_has,dm_has];constructor
   .rintro⟨j,u,E,A,rfl⟩;have:j≠i:=λ h=>e (by rw[h]);exact⟨j,u,E,by simp[gput,this,A],rfl⟩
   .rintro⟨j,u,E,A,rfl⟩;have:j≠i:=λ h=>e (by rw[h]);simp[gput,this]at A;exact⟨j,u,E,A,rfl⟩
 .by_cases e:j=i
  .subst e;simp[gput]at A
  .simp[gput,e]at A;rw[atKey_del_other (by simp;omega),dm_at E A]
def zjh9(n:Nat)(g:Nat->Option Value):Maps.size (Dm n g)<=n:=by unfold Dm;rw[size_eq];have:=List.length_filterMap_le (λ i=>(g i).map λ v=>(Lit.int .i64 (i:Int),DataW.held v)) (List.range n);simpa[ents]using this
def zcl9{n:Nat}{g:Nat->Option Value}(h:∀i,i<n->g i=none):Dm n g=.map []:=by unfold Dm;congr 1;rw[List.eq_nil_iff_forall_not_mem];intro p E;obtain⟨i,v,A,u,_⟩:=zcm9.1 E;rw[h i A]at u;cases u
def keyed3:Keyed Tryz.prog 3:=int_keyed Tryz.underlying3
def key3{i:Nat}(hi:i<9223372036854775808):keyOf Tryz.prog 3 (.int .i64 (i:Int))=some (Lit.int .i64 (i:Int)):=
 keyOf_int_mk Tryz.underlying3 (by simp[Lit.wf,IntKind.min,IntKind.max,IntKind.signed,IntKind.bits];omega)
def Mp(w:World)(b n:Nat)(g:Nat->Option Value):Prop:=w.ownsMap Tryz.prog 3 Rv b n (Dm n g)
section
variable {w w':World} {b n:Nat} {g:Nat->Option Value}
def mp_of{m:Nat}{D:DataW Value}(h:w.ownsMap Tryz.prog 3 Rv b m D)(e:D=Dm n g):Mp w b n g:=by subst e;obtain⟨E,A,H,I,K,u⟩:=h;refine⟨E,A,H,I,?_,u⟩;have:=zjh9 n g;rw[u,size_eq,length_read]at this;exact this
def Mp.lt(h:Mp w b n g):b<w.heap.size:=World.ownsMap.lt h
def Mp.tch{S:Nat->Prop}(h:Mp w b n g)(I:Tch S w w')(E:¬S b):Mp w' b n g:=by have H:=h.lt;obtain⟨A,u,K,O⟩:=h;exact⟨A,u,by rw[I.block b H E];exact K,O⟩
def Mp.notCells(h:Mp w b n g){C:Array Value}{t:TypeId}{u:Nat×Nat}:w.heap[b]?≠some (.cells C t u):=by obtain⟨H,E,A,I⟩:=h;rw[A];intro e;cases e
def Mp.congr(h:Mp w b n g){E:Nat->Option Value}(e:∀i,i<n->g i=E i):Mp w b n E:=by
 have:Dm n g=Dm n E:=by refine dm_ext (zmt9 n g) (λ k=>?_) (λ i v u A z=>dm_at u ((e i u).trans A) z);rw[dm_has,dm_has];exact⟨λ⟨i,v,u,A,H⟩=>⟨i,v,u,(e i u).symm.trans A,H⟩,λ⟨i,v,u,A,H⟩=>⟨i,v,u,(e i u).trans A,H⟩⟩
 unfold Mp;rw[<-this];exact h
end
theorem zero61(w:World):(zeroValue 133).run Tryz.prog w=.ok (.slice none 0 0) w:=by kernel_rfl
def gv(g:Nat->Option Value)(i:Nat):Value:=(g i).getD (.slice none 0 0)
def Mp.look{w:World}{b n:Nat}{g:Nat->Option Value}(h:Mp w b n g){i:Nat}(hi:i<n)(A:n<=4096):
 (Instr.lookup 134 (.map (some b)) (.int .i64 (i:Int)) false).run Tryz.prog w=.ok (gv g i) w:=by
 obtain⟨v,E,hr,hv⟩:=World.ownsMap.lookup h keyed3 Tryz.underlying134 (zero61 w) (zd:=.held (.slice none 0 0)) (zp:=[]) rfl (key3 (i:=i) (by omega));rw[hr];unfold gv;cases e:g i with
 | none=>rw[dm_not e]at hv;simp only[Rv,Option.some.injEq,Prod.mk.injEq,DataW.held.injEq]at hv;rw[hv.1];rfl
 | some u=>rw[dm_at hi e]at hv;simp only[Rv,Option.some.injEq,Prod.mk.injEq,DataW.held.injEq]at hv;rw[hv.1];rfl
structure DS where
 L:List (List Int)
 V:Nat->List (List Int)
 c:Bool
 l:Nat
def DS.can(s:DS):Bool:=!s.c||s.l != 0
def DS.tick(s:DS):DS:={ s with l:=if s.c then s.l-1 else s.l }
def DS.has(s:DS)(i:Nat):List Int:=(s.V i).getLastD (s.L.getD i [])
def vput(V:Nat->List (List Int))(i:Nat)(x:List (List Int))(j:Nat):List (List Int):=if j=i then x else V j
def DS.wr(s:DS)(i:Nat)(x:List Int):DS:=if s.can then{ s.tick with V:=vput s.V i (s.V i++[x]) }else s
def DS.dirty(s:DS):List Nat:=(List.range s.L.length).filter λ i=>decide (s.V i≠[])
def DS.fl(s:DS):DS:=if s.can then{ s.tick with L:=(List.range s.L.length).map s.has,V:=λ _=>[] }else s
def rem(p:Int)(m:Nat):Nat:=(p % ((m:Int)+1)).toNat
def DS.per(s:DS)(i:Nat)(p:Int):DS:={ s with L:=if 0<rem p (s.V i).length then s.L.set i ((s.V i).getD (rem p (s.V i).length-1) [])else s.L,V:=vput s.V i [] }
def DS.pers(s:DS)(ds:List Nat)(ps:List Int):Nat->DS
 | 0=>s
 | k+1=>(DS.pers s ds ps k).per (ds.getD k 0) (ps.getD k 0)
def DS.pw(s:DS)(ps:List Int):DS:={ s.pers s.dirty ps s.dirty.length with c:=false,l:=0 }
def zo9(w:World)(b i:Nat)(v:Value):Tch (λ k=>k=b) w (w.setCell ⟨b,i,none⟩ v):=Tch.setCell (Tch.refl (λ k=>k=b) w) (p:=⟨b,i,none⟩) (λ _=>rfl) v
structure DkAt(S:Nat->Prop)(w:World)(d:Nat)(s:DS)(lb vb lc:Nat)(g:Nat->Option Value):Prop where
 n1:1<=s.L.length
 n2:s.L.length<=4096
 l30:s.l<=1073741824
 box:w.heap[d]?=some (.cells #[.slice (some ⟨lb,0,none⟩) s.L.length lc,.map (some vb),.bool s.c,.int .i64 (s.l:Int)] 136 (0,0))
 lies:SecR w (.slice (some ⟨lb,0,none⟩) s.L.length lc) s.L
 map:Mp w vb s.L.length g
 no:∀i,g i=none->s.V i=[]
 yes:∀i v,g i=some v->i<s.L.length/\s.V i≠[]/\SecR w v (s.V i)/\v.ownBlock≠some lb
 apart:∀i j v u,g i=some v->g j=some u->i≠j->v.ownBlock≠u.ownBlock
 sd:S d
 sl:S lb
 sv:S vb
 sg:∀i v k,g i=some v->v.ownBlock=some k->S k
 slt:∀k,S k->k<w.heap.size
def Dk(S:Nat->Prop)(w:World)(d:Nat)(s:DS):Prop:=∃lb vb lc g,DkAt S w d s lb vb lc g
def DkTo(S:Nat->Prop)(w w':World)(d:Nat)(s:DS):Prop:=∃S',Dk S' w' d s/\Tch S w w'/\∀k,S' k->S k\/w.heap.size<=k
section
variable {S:Nat->Prop} {w w':World} {d:Nat} {s:DS} {lb vb lc:Nat} {g:Nat->Option Value}
def DkAt.c0(h:DkAt S w d s lb vb lc g):w.cell? ⟨d,0,none⟩=some (.slice (some ⟨lb,0,none⟩) s.L.length lc):=by rw[cell_of_row w d 0 _ _ (0,0) h.box];rfl
def DkAt.c1(h:DkAt S w d s lb vb lc g):w.cell? ⟨d,1,none⟩=some (.map (some vb)):=by rw[cell_of_row w d 1 _ _ (0,0) h.box];rfl
def DkAt.c2(h:DkAt S w d s lb vb lc g):w.cell? ⟨d,2,none⟩=some (.bool s.c):=by rw[cell_of_row w d 2 _ _ (0,0) h.box];rfl
def DkAt.c3(h:DkAt S w d s lb vb lc g):w.cell? ⟨d,3,none⟩=some (.int .i64 (s.l:Int)):=by rw[cell_of_row w d 3 _ _ (0,0) h.box];rfl
def DkAt.fz(h:DkAt S w d s lb vb lc g)(i:Nat):w.frozen? ⟨d,i,none⟩=false:=frozen_of_row w d i _ _ h.box
def DkAt.lt(h:DkAt S w d s lb vb lc g):d<w.heap.size:=(zd0.1 h.box).1
def DkAt.ne_lb(h:DkAt S w d s lb vb lc g):d≠lb:=λ e=>by obtain⟨A,_,u,_⟩:=h.lies.blk;rw[<-e,h.box]at u;simp at u
def DkAt.ne_vb(h:DkAt S w d s lb vb lc g):d≠vb:=λ e=>h.map.notCells (by rw[<-e];exact h.box)
def DkAt.lb_vb(h:DkAt S w d s lb vb lc g):lb≠vb:=λ e=>by obtain⟨A,_,u,_⟩:=h.lies.blk;exact h.map.notCells (by rw[<-e];exact u)
def DkAt.own(h:DkAt S w d s lb vb lc g){i:Nat}{v:Value}(hv:g i=some v):∃b cap,v=.slice (some ⟨b,0,none⟩) (s.V i).length cap/\b≠d/\b≠vb/\b≠lb/\S b/\0<(s.V i).length:=by
 obtain⟨_,A,E,H⟩:=h.yes i v hv;obtain⟨b,cap,I,rfl,u,_⟩:=E.shape A;refine⟨b,cap,rfl,λ e=>?_,λ e=>?_,λ e=>H (by rw[e];rfl),h.sg i _ b hv rfl,?_⟩
 .rw[e,h.box]at u;simp at u
 .exact h.map.notCells (by rw[<-e];exact u)
 .exact Nat.pos_of_ne_zero (λ e=>A (zh0 e))
def DkAt.tch(h:DkAt S w d s lb vb lc g){R:Nat->Prop}(u:Tch R w w')(A:∀k,S k->¬R k):DkAt S w' d s lb vb lc g where
 n1:=h.n1
 n2:=h.n2
 l30:=h.l30
 box:=by rw[u.block d h.lt (A d h.sd)];exact h.box
 lies:=h.lies.tch u (λ j e=>by cases e;exact A _ h.sl)
 map:=h.map.tch u (A _ h.sv)
 no:=h.no
 yes:=λ i v hv=>⟨(h.yes i v hv).1,(h.yes i v hv).2.1,(h.yes i v hv).2.2.1.tch u (λ j e=>A j (h.sg i v j hv e)),(h.yes i v hv).2.2.2⟩
 apart:=h.apart
 sd:=h.sd
 sl:=h.sl
 sv:=h.sv
 sg:=h.sg
 slt:=λ k E=>zn1 (h.slt k E) u.size
def Dk.tch{R:Nat->Prop}(h:Dk S w d s)(A:Tch R w w')(u:∀k,S k->¬R k):Dk S w' d s:=by obtain⟨lb,vb,lc,g,h⟩:=h;exact⟨lb,vb,lc,g,h.tch A u⟩
def Dk.below(h:Dk S w d s)(u:Below w.heap.size w w'):Dk S w' d s:=h.tch (R:=λ _=>False) (Tch.of_below u) (λ _ _ e=>e)
def Dk.to(h:Dk S w d s):DkTo S w w d s:=⟨S,h,Tch.refl _ _,λ _ e=>.inl e⟩
def Dk.slt(h:Dk S w d s):∀k,S k->k<w.heap.size:=by obtain⟨_,_,_,_,h⟩:=h;exact h.slt
def DkTo.trans{S':Nat->Prop}{H:World}{s1 E:DS}(hd:Dk S' w' d s1)(A:Tch S w w')(u:∀k,S' k->S k\/w.heap.size<=k)(K:DkTo S' w' H d E):DkTo S w H d E:=by
 obtain⟨I,O,Q,T⟩:=K;refine⟨I,O,A.trans Q (λ i hi e=>?_),λ k Y=>?_⟩
 .rcases u i e with e|e
  .exact e
  .omega
 .rcases T k Y with e|e
  .exact u k e
  .exact .inr (by have:=A.size;omega)
def DkAt.cut(h:DkAt S w d s lb vb lc g)(c:Bool)(l:Nat)(I:l<=1073741824)(u:Tch (λ k=>k=d) w w')
 (E:w'.heap[d]?=some (.cells #[.slice (some ⟨lb,0,none⟩) s.L.length lc,.map (some vb),.bool c,.int .i64 (l:Int)] 136 (0,0))):DkAt S w' d { s with c:=c,l:=l } lb vb lc g where
 n1:=h.n1
 n2:=h.n2
 l30:=I
 box:=E
 lies:=h.lies.tch u (λ j e=>by cases e;exact λ e=>h.ne_lb e.symm)
 map:=h.map.tch u (λ e=>h.ne_vb e.symm)
 no:=h.no
 yes:=λ i v hv=>⟨(h.yes i v hv).1,(h.yes i v hv).2.1,(h.yes i v hv).2.2.1.tch u (λ j e=>by
  obtain⟨b,cap,rfl,A,_⟩:=h.own hv;cases e;exact A),(h.yes i v hv).2.2.2⟩
 apart:=h.apart
 sd:=h.sd
 sl:=h.sl
 sv:=h.sv
 sg:=h.sg
 slt:=λ k H=>zn1 (h.slt k H) u.size
def DkAt.set2(h:DkAt S w d s lb vb lc g)(c:Bool):DkAt S (w.setCell ⟨d,2,none⟩ (.bool c)) d { s with c:=c } lb vb lc g:=by refine h.cut c s.l h.l30 (zo9 w d 2 _) ?_;rw[heap_setCell_same w d 2 _ _ _ h.box];rfl
def DkAt.set3(h:DkAt S w d s lb vb lc g)(l:Nat)(u:l<=1073741824):DkAt S (w.setCell ⟨d,3,none⟩ (.int .i64 (l:Int))) d { s with l:=l } lb vb lc g:=by refine h.cut s.c l u (zo9 w d 3 _) ?_;rw[heap_setCell_same w d 3 _ _ _ h.box];rfl
end
abbrev dp(d:Nat):Value:=.pointer (some ⟨d,0,none⟩)
def zba9{S:Nat->Prop}{d:Nat}{s:DS}{lb vb lc:Nat}{g:Nat->Option Value}(at_:Int)(w:World)(h:DkAt S w d s lb vb lc g):
 Calls Tryz.prog 134 #[dp d,.int .i64 at_] w λ e w'=>e=.returned (.bool (decide (0<=at_)&&decide (at_<(s.L.length:Int))))/\w'=w:=by
 have E:=h.c0;obtain⟨n,H⟩:=exH s.L.length;rw[H.o]at E |-
 clear h;by_cases u:0<=at_
 .by_cases A:at_<(n:Int)
  .go_enter Tryz.func134,Tryz.ntmps134
   go_wp2_with fail;go_ret;exact⟨by simp[u,A],rfl⟩
  .go_enter Tryz.func134,Tryz.ntmps134
   go_wp2_with fail;go_ret;exact⟨by simp[u,A],rfl⟩
 .go_enter Tryz.func134,Tryz.ntmps134
  go_wp2_with fail;go_ret;exact⟨by rw[zl1 (show¬0<=at_ by omega)];rfl,rfl⟩
def zvt9{S:Nat->Prop}{d:Nat}{s:DS}(w:World)(h:Dk S w d s):
 Calls Tryz.prog 88 #[dp d] w λ e w'=>e=.returned (.int .i64 (s.L.length:Int))/\w'=w:=by
 obtain⟨lb,vb,lc,g,h⟩:=h;have u:=h.c0;obtain⟨n,A⟩:=exH s.L.length;rw[A.o]at u |-
 clear h
 go_enter Tryz.func88,Tryz.ntmps88
 go_wp2_with fail;go_ret;exact⟨rfl,rfl⟩
def zhd9{S:Nat->Prop}{d:Nat}{s:DS}{lb vb lc:Nat}{g:Nat->Option Value}(w:World)(h:DkAt S w d s lb vb lc g):
 Calls Tryz.prog 71 #[dp d] w λ e w'=>e=.returned (.bool s.can)/\DkAt S w' d (if s.can then s.tick else s) lb vb lc g/\Tch (λ k=>k=d) w w':=by
 have K:=h.c2;have O:=h.c3;have Q:=h.fz 3;have u:=h.l30;have H:=za0 h;clear h;obtain⟨L,V,c,l⟩:=s;simp only[DS.can,DS.tick]at *
 cases c with
 | false=>
  go_enter Tryz.func71,Tryz.ntmps71
  go_wp2_with fail;go_ret;exact⟨rfl,H.o,Tch.refl _ _⟩
 | true=>
  by_cases I:l=0
  .subst I
   go_enter Tryz.func71,Tryz.ntmps71
   go_wp2_with fail;go_ret;exact⟨rfl,H.o,Tch.refl _ _⟩
  .obtain⟨m,rfl⟩:∃m,l=m+1:=⟨l-1,by omega⟩
   (have T:(((m+1:Nat):Int)==0)=false:=by rw[zl0];omega);have A:=za0 (H.o.set3 m (by simp at u;omega));have E:Hid (Tch (λ k=>k=d) w (w.setCell ⟨d,3,none⟩ (.int .i64 (m:Int)))):=zo9 w d 3 _;(have Y:((m+1:Nat):Int)-1=(m:Int):=by omega);have a0:(m:Int)<=1073741824:=by simp at u;omega
   go_enter Tryz.func71,Tryz.ntmps71
   go_wp2_with fail;go_ret;exact⟨rfl,A.o,E.o⟩
end Go.Proofs.YtcmjlibndmneiaaGreat
namespace Go.Proofs.YtcmjlibndmneiaaGreat
open Go.RowKit
structure CS where
 rm:Nat
 B:Nat->Int×List Int
 d:List Nat
 c:List Nat
def bput(B:Nat->Int×List Int)(n:Nat)(x:Int×List Int)(m:Nat):Int×List Int:=if m=n then x else B m
def kwo(l:List Nat)(n:Int):List Nat:=l.filter λ m=>decide ((m:Int)≠n)
def kask(rm:Nat)(l:List Nat)(n:Nat):List Nat:=if rm<(kwo l n).length+1 then(kwo l n++[n]).tail else kwo l n++[n]
def kins(l:List Nat)(n:Nat):List Nat:=l.filter (λ m=>decide (m<n))++n::l.filter (λ m=>decide (n<m))
structure COk(N:Nat)(s:CS):Prop where
 r1:1<=s.rm
 r2:s.rm<=1024
 dr:s.d.Pairwise (λ a b=>a<b)
 cn:s.c.Nodup
 ap:∀n,n∈s.d->n∉s.c
 dl:∀n,n∈s.d->50<=n/\n<N
 cl:∀n,n∈s.c->50<=n/\n<N
 may:∀n,n∈s.d\/n∈s.c->mayK (n:Int) (s.B n).1 (s.B n).2.length=true/\By (s.B n).2
def kthere(N:Nat)(n:Int):Bool:=decide (50<=n)&&decide (n<(N:Int))
def zm9{N:Nat}{n:Int}:kthere N n=true↔50<=n/\n<(N:Int):=by simp[kthere]
def CS.keep(s:CS)(n:Nat)(x:Int×List Int):CS:={ s with B:=bput s.B n x,d:=kwo s.d n,c:=kask s.rm s.c n }
def CS.forget(s:CS)(n:Int):CS:={ s with d:=kwo s.d n,c:=kwo s.c n }
def CS.lay(s:CS)(n:Nat)(x:Int×List Int):CS:={ s with B:=bput s.B n x,d:=kins s.d n,c:=kwo s.c n }
def CS.getE(s:CS)(D:DS)(n:Int):Int:=if kthere D.L.length n then(if n.toNat∈s.d\/n.toNat∈s.c then 0 else Go.Proofs.YtcmjlibndmneiaaGreat.getE n (D.has n.toNat))else 2
def CS.getB(s:CS)(D:DS)(n:Int):Int×List Int:=if kthere D.L.length n then(if n.toNat∈s.d\/n.toNat∈s.c then s.B n.toNat else Go.Proofs.YtcmjlibndmneiaaGreat.getB n (D.has n.toNat))else(0,[])
def CS.getS(s:CS)(D:DS)(n:Int):CS:=if s.getE D n=0/\n.toNat∉s.d then s.keep n.toNat (s.getB D n)else s
def CS.putE(s:CS)(N:Nat)(n k:Int)(ys:List Int):Int:=if kthere N n then(if mayK n k ys.length then 0 else 1)else 2
def CS.putS(s:CS)(N:Nat)(n k:Int)(ys:List Int):CS:=if s.putE N n k ys=0 then s.lay n.toNat (k,ys)else s
def flD(D:DS)(B:Nat->Int×List Int):List Nat->DS
 | []=>D
 | n::r=>flD (D.wr n (sec (n:Int) (B n).1 (B n).2)) B r
def flS(s:CS):List Nat->CS
 | []=>s
 | n::r=>flS (s.keep n (s.B n)) r
def CS.flush(s:CS):CS:=flS s s.d
def CS.flushD(s:CS)(D:DS):DS:=flD D s.B s.d
def zi9{l:List Nat}{n:Int}{m:Nat}:m∈kwo l n↔m∈l/\(m:Int)≠n:=by simp[kwo]
def zxw9(l:List Nat)(n:Int):(kwo l n).length<=l.length:=List.length_filter_le _ _
def zfy9{l:List Nat}(n:Int)(h:l.Nodup):(kwo l n).Nodup:=h.filter _
def zhe9{l:List Nat}(n:Int)(h:l.Pairwise (λ a b=>a<b)):(kwo l n).Pairwise (λ a b=>a<b):=h.filter _
def zjr9{l:List Nat}{n:Int}(h:∀m∈l,(m:Int)≠n):kwo l n=l:=by unfold kwo;rw[List.filter_eq_self];intro m u;simpa using h m u
def zsv9{l:List Nat}{n:Int}(A:l.Nodup){i:Nat}(hi:i<l.length)(u:((l.getD i 0:Nat):Int)=n):kwo l n=l.eraseIdx i:=by
 induction l generalizing i with
 | nil=>simp at hi
 | cons a r H=>
  rw[List.nodup_cons]at A;cases i with
  | zero=>simp at u;subst u;show List.filter _ (a::r)=r;rw[List.filter_cons_of_neg (by simp)];exact zjr9 (λ m E e=>A.1 (by have:m=a:=(by omega);rw[<-this];exact E))
  | succ i=>(simp at u hi;have ha:(a:Int)≠n:=λ e=>by (have:a=r[i]?.getD 0:=by omega);rw[zc0 hi]at this;exact A.1 (by rw[this];exact za1 hi));show List.filter _ (a::r)=_;rw[List.filter_cons_of_pos (by simpa using ha)];exact congrArg _ (H A.2 hi (by rw[zn3];exact u))
def zdc9(B:Nat->Int×List Int)(n:Nat)(x:Int×List Int):bput B n x n=x:=by simp[bput]
def zbq9(B:Nat->Int×List Int){n m:Nat}(x:Int×List Int)(h:m≠n):bput B n x m=B m:=by simp[bput,h]
def zqj9(B:Nat->Int×List Int)(n:Nat):bput B n (B n)=B:=by
 funext m;unfold bput;split
 .rename_i h;rw[h]
 .rfl
def znt9{u:Nat}{l:List Nat}{n m:Nat}(h:m∈kask u l n):m=n\/(m∈l/\m≠n):=by
 unfold kask at h;have:m∈kwo l n++[n]:=by
  split at h
  .exact List.mem_of_mem_tail h
  .exact h
 rcases zi0.1 this with e|e
 .exact .inr ⟨(zi9.1 e).1,λ A=>(zi9.1 e).2 (by omega)⟩
 .exact .inl (by simpa using e)
def zjc9{l:List Nat}{n:Nat}(h:l.Nodup):(kwo l n++[n]).Nodup:=by rw[zj1];refine⟨zfy9 _ h,by simp,λ a ha b u e=>?_⟩;simp at u;exact(zi9.1 ha).2 (by omega)
def zbw9{l:List Nat}{n m:Nat}:m∈kins l n↔m=n\/m∈l:=by
 unfold kins;simp only[zi0,List.mem_cons,List.mem_filter,zo1];constructor
 .rintro(⟨h,_⟩|h|⟨h,_⟩)
  .exact .inr h
  .exact .inl h
  .exact .inr h
 .rintro(h|h)
  .exact .inr (.inl h)
  .rcases Nat.lt_trichotomy m n with e|e|e
   .exact .inl ⟨h,e⟩
   .exact .inr (.inl e)
   .exact .inr (.inr ⟨h,e⟩)
def zlg9{l:List Nat}{n:Nat}(h:l.Pairwise (λ a b=>a<b)):(kins l n).Pairwise (λ a b=>a<b):=by unfold kins;rw[List.pairwise_append,List.pairwise_cons];refine⟨h.filter _,⟨λ a ha=>by simp at ha;exact ha.2,h.filter _⟩,λ a ha b u=>?_⟩;simp at ha u;rcases u with e|e<;>omega
def zjs9{l:List Nat}{N:Nat}(A:l.Nodup)(h:∀n,n∈l->n<N):l.length<=N:=by have:=List.Nodup.length_le_of_subset (l₁:=l) (l₂:=List.range N) A (λ n u=>by simpa using h n u);simpa using this
def zdz9{l:List Nat}(h:l.Pairwise (λ a b=>a<b)):l.Nodup:=List.Pairwise.imp (fun{a b} h=>Nat.ne_of_lt h) h
def zrb9{u:Nat}{l:List Nat}{n:Nat}(h:l.Nodup)(hr:u<(kwo l n).length+1)(H:1<=u):∃m:Nat,(kwo l n++[n]).head?=some m/\m≠n/\kask u l n=kwo (kwo l n++[n]) m:=by
 have A:=zjc9 (n:=n) h;cases e:kwo l n with
 | nil=>rw[e]at hr;simp at hr;omega
 | cons a r=>
  refine⟨a,by simp,λ E=>?_,?_⟩
  .have:a∈kwo l n:=by rw[e];simp
   exact(zi9.1 this).2 (by omega)
  .unfold kask;rw[if_pos hr,e];rw[e]at A;have:=zsv9 (l:=a::r++[n]) (n:=(a:Int)) A (i:=0) (by simp) (by simp);rw[this];simp
section
variable {N:Nat} {s:CS}
def COk.cle(h:COk N s):s.c.length<=N:=zjs9 h.cn (λ n u=>(h.cl n u).2)
def COk.dle(h:COk N s):s.d.length<=N:=zjs9 (zdz9 h.dr) (λ n u=>(h.dl n u).2)
def COk.forget(h:COk N s)(n:Int):COk N (s.forget n) where
 r1:=h.r1
 r2:=h.r2
 dr:=zhe9 _ h.dr
 cn:=zfy9 _ h.cn
 ap:=λ m u A=>h.ap m (zi9.1 u).1 (zi9.1 A).1
 dl:=λ m u=>h.dl m (zi9.1 u).1
 cl:=λ m u=>h.cl m (zi9.1 u).1
 may:=λ m u=>h.may m (u.imp (λ e=>(zi9.1 e).1) (λ e=>(zi9.1 e).1))
def COk.lay(h:COk N s){n:Nat}{x:Int×List Int}(O:50<=n/\n<N)(u:mayK (n:Int) x.1 x.2.length=true)(I:By x.2):COk N (s.lay n x) where
 r1:=h.r1
 r2:=h.r2
 dr:=zlg9 h.dr
 cn:=zfy9 _ h.cn
 ap:=λ m u H=>by
  rcases zbw9.1 u with e|e
  .exact(zi9.1 H).2 (by omega)
  .exact h.ap m e (zi9.1 H).1
 dl:=λ m u=>by
  rcases zbw9.1 u with e|e
  .rw[e];exact O
  .exact h.dl m e
 cl:=λ m u=>h.cl m (zi9.1 u).1
 may:=λ m K=>by
  show mayK (m:Int) (bput s.B n x m).1 (bput s.B n x m).2.length=true/\By (bput s.B n x m).2;by_cases e:m=n
  .subst e;rw[zdc9];exact⟨u,I⟩
  .rw[zbq9 _ _ e];refine h.may m (K.imp (λ A=>?_) (λ A=>(zi9.1 A).1));rcases zbw9.1 A with E|E
   .exact absurd E e
   .exact E
end
end Go.Proofs.YtcmjlibndmneiaaGreat
namespace Go.Proofs.YtcmjlibndmneiaaGreat
open Go.RowKit Go.Maps
def DS.new(n:Nat):DS:=⟨List.replicate n zz,λ _=>[],false,0⟩
def zpg9(n:Nat):SOk (List.replicate n zz):=λ x u=>by rw[List.mem_replicate]at u;rw[u.2];exact⟨zz_len,zz_by⟩
def zvd9(n:Nat):(madeCells (bcs zz).toArray (n*256)).toList=bcs (List.replicate n zz).flatten:=by
 have E:=zcn9 (zpg9 n);rw[zr0]at E;apply List.ext_getElem?;intro i;by_cases H:i<n*256
 .have u:i % 256<256:=Nat.mod_lt _ (by decide);have A:i / 256<n:=by omega
  have e:(List.replicate n zz).flatten[i]?=some 0:=by have:=zia9 (zpg9 n) (i:=i / 256) (by rw[zr0];exact A) u;rw[show i / 256*256+i % 256=i by omega]at this;rw[this,zn3,List.getElem?_replicate,if_pos A];exact zz_get u
  have I:(bcs zz)[i % 256]?=some (.int .u8 0):=by rw[bcs,zd1,zz_get u];rfl
  have hr:(bcs (List.replicate n zz).flatten)[i]?=some (.int .u8 0):=by rw[bcs,zd1,e];rfl
  rw[hr];unfold madeCells;simp only[Array.toList_map,zd1,Array.toList_range];rw[List.getElem?_range H];simp only[Option.map_some,List.size_toArray,zc9,zz_len];rw[getElem!_def,List.getElem?_toArray,I]
 .rw[zs0 (by rw[Array.length_toList,size_madeCells];omega),zs0 (by rw[zc9,E];omega)]
def new_ok(n:Nat)(w:World)(h1:1<=n)(h2:n<=4096):Calls Tryz.prog 33 #[.int .i64 (n:Int)] w λ e w'=>
 ∃d S,e=.returned (.tuple #[dp d,.int .i64 0])/\Dk S w' d (DS.new n)/\Below w.heap.size w w'/\∀k,S k->w.heap.size<=k:=by
 obtain⟨j0,Q,T,Y,a0⟩:=info_parts zie9;have a3:=@run_makeMap Tryz.prog;have ha:¬(n:Int)<1:=by omega
 have hb:¬(n:Int) > 4096:=by omega
 go_enter Tryz.func33,Tryz.ntmps33
 go_wp2_with(at_make;refine wpList_make_full _ rfl (.tmp 10) (.tmp 10) 133 rfl 0 140 j0 _ 256 Tryz.underlying133 Q T Y .i64 .i64 _ _ n rfl rfl rfl rfl (by rw[a0];omega) (by unfold maxLen;omega) (zn7 _) ?_)
 intro u I A;rw[zvd9]at I;have O:Hid (SecR u (.slice (some ⟨w.heap.size,0,none⟩) n n) (List.replicate n zz)):=⟨zpg9 n,by rw[zr0];exact I⟩
 have H:Hid (Below w.heap.size w u):=⟨A.os,A.tape,A.output,A.size,λ k E=>A.block k E (by simp)⟩
 have K:Hid (w.heap.size<u.heap.size):=O.o.lt _ rfl;clear I A Q T Y a0;go_wp2_with fail;go_ret2;have M1:Mp (u.alloc (.map #[] 0)) u.heap.size n (λ _=>none):=mp_of (World.ownsMap_made u _ _ _) (by rw[zcl9 (λ _ _=>rfl)]);refine⟨u.heap.size+1,λ k=>w.heap.size<=k/\k<u.heap.size+2,by first|rfl|simp,⟨w.heap.size,u.heap.size,n,λ _=>none,?_⟩,?_,λ k E=>E.1⟩
 .have a2:(u.alloc (.map #[] 0)).heap.size=u.heap.size+1:=by simp
  have a1:∀o,((u.alloc (.map #[] 0)).alloc o).heap[u.heap.size+1]?=some o:=λ o=>by rw[<-a2];exact heap_alloc_new _ _
  exact{
   n1:=by simp[DS.new];exact h1
   n2:=by simp[DS.new];exact h2
   l30:=by simp[DS.new]
   box:=by rw[a1];simp[DS.new]
   lies:=by simp only[DS.new,zr0];exact(O.o.below ((Below.refl _ _).alloc (zn6 _) _)).below ((Below.refl _ _).alloc (zn6 _) _)
   map:=by simp only[DS.new,zr0];exact M1.tch (S:=λ _=>False) (Tch.of_below ((Below.refl _ _).alloc (zn6 _) _)) (λ e=>e)
   no:=λ _ _=>rfl
   yes:=λ _ _ e=>by cases e
   apart:=λ _ _ _ _ e=>by cases e
   sd:=⟨by have:=K.o;omega,by omega⟩
   sl:=⟨zn6 _,by have:=K.o;omega⟩
   sv:=⟨by have:=K.o;omega,by omega⟩
   sg:=λ _ _ _ e=>by cases e
   slt:=λ k E=>by simp;exact E.2 }
 .exact(H.o.alloc H.o.size _).alloc (by simp;have:=H.o.size;omega) _
def zkf9(g:Nat)(w:World):(Instr.sliceAt 140 (.pointer (some ⟨g,0,none⟩)) none none none).run Tryz.prog w=.ok (.slice (some ⟨g,0,none⟩) 256 256) w:=by
 have A:Tryz.prog.arrayLen 140=256:=by kernel_rfl
 have u:Tryz.prog.elem 140=5:=by kernel_rfl
 have E:Tryz.prog.underlying 140=some (.array (Tryz.prog.arrayLen 140) (Tryz.prog.elem 140)):=by rw[A,u];exact Tryz.underlying140
 rw[run_sliceAt_array_all w 140 _ E,A,u];simp[slicedAt,go_sem]
def zvo9{S:Nat->Prop}{d:Nat}{s:DS}(at_:Int)(w:World)(h:Dk S w d s)(u:at_<0\/(s.L.length:Int)<=at_):
 Calls Tryz.prog 109 #[dp d,.int .i64 at_] w λ e w'=>e=.returned (.tuple #[.slice none 0 0,.int .i64 2])/\w'=w:=by
 obtain⟨lb,vb,lc,g,h⟩:=h;have A:(decide (0<=at_)&&decide (at_<(s.L.length:Int)))=false:=by rw[Bool.and_eq_false_iff,zn4,zn4];omega
 have H:=zba9 at_ w h;rw[A]at H;have H:=zb0 H;clear h u
 go_enter Tryz.func109,Tryz.ntmps109
 go_wp2_with fail;refine H.o.mono ?_;rintro e w ⟨rfl,rfl⟩;go_wp2_with fail;go_ret2;exact⟨rfl,rfl⟩
def zyo9{S:Nat->Prop}{d:Nat}{s:DS}(i:Nat)(w:World)(h:Dk S w d s)(hi:i<s.L.length):
 Calls Tryz.prog 109 #[dp d,.int .i64 (i:Int)] w λ e w'=>∃v,e=.returned (.tuple #[v,.int .i64 0])/\Wb w' v (s.has i)/\Below w.heap.size w w'/\∀k,v.ownBlock=some k->w.heap.size<=k:=by
 obtain⟨lb,vb,lc,g,h⟩:=h;have hf:(decide (0<=(i:Int))&&decide ((i:Int)<(s.L.length:Int)))=true:=by rw[Bool.and_eq_true,zo1,zo1];omega
 have H:=zba9 i w h;rw[hf]at H;have H:=zb0 H;have c0:=h.c0;have c1:=h.c1;obtain⟨ab,a6⟩:=zero_of_info zdf9;have LD:=za0 (h.lies.load hi);have LL:=h.lies.1.get hi;have Q:Hid (s.has i=(s.V i).getLastD (s.L.getD i [])):=rfl;have HD:=za0 h;have n2:=h.n2;obtain⟨n,Y⟩:=exN s.L.length;have HN:=za0 Y;rw[Y]at hi c0 n2;obtain⟨x,hx⟩:=exN (s.L.getD i []);rw[hx]at LD LL Q;obtain⟨hx1,ac⟩:=LL;have a0:=za0 hx1;have I:Hid ((bcs x).toArray.size=256):=by show _=_;rw[List.size_toArray,zc9,hx1]
 have u:=za0 a6;obtain⟨W,T⟩:=exN (w.alloc (.cells (bcs x).toArray 140));have HB:Hid (Below w.heap.size w W):=by rw[<-T];exact(Below.refl _ _).alloc (zn6 _) _
 have K:=za0 (h.tch (R:=λ _=>False) (Tch.of_below HB.o) (λ _ _ e=>e));have c1:=K.o.c1;have a3:=K.o.map.look (by rw[Y];exact hi) (by rw[Y];exact n2);have a8:Hid (Wb W (.slice (some ⟨w.heap.size,0,none⟩) 256 256) x):=by have:=wb_new w x 140 (by unfold maxLen;omega);rw[T,hx1]at this;exact this
 have HQ:Hid (W.heap[w.heap.size]?=some (.cells (bcs x).toArray 140 (0,0))):=by show _=_;rw[<-T];exact heap_alloc_new w _
 have HW:=za0 T;clear h hf hx hx1 ac Y a6 T;have af:(i:Int)<(n:Int):=by omega
 obtain⟨Z,hZ⟩:=exH ((bcs zz).toArray);have HZ:Hid (Z.size=256):=by show _=_;rw[<-hZ.o,List.size_toArray,zc9,zz_len]
 rw[hZ.o]at ab;have ad:=zkf9;obtain⟨q,hq⟩:=exN w.heap.size;have O:=za0 hq;clear hq;cases hg:g i with
 | none=>
  have HV:=za0 (K.o.no i hg);rw[show gv g i=.slice none 0 0 by simp[gv,hg]]at a3;clear hg
  go_enter Tryz.func109,Tryz.ntmps109
  go_wp2_with fail;refine H.o.mono ?_;rintro e w ⟨rfl,rfl⟩;clear H;go_wp2_with(first
   | (with_reducible (show wpList _ _ _ (Oper.mk _ (Op.load _ _) _ _ _ _::_) _ _);refine wpList_load_mid rfl 140 (.tmp 17) rfl lb (i*256) rfl _ _ LD.o Tryz.underlying140 rfl (by rw[u.o,zc9,a0.o]) ?_)
   | (with_reducible (show wpList _ _ _ (Oper.mk _ (Op.store _ _ _) _ _ _ _::_) _ _);refine zd9 _ rfl 140 (.tmp 6) (.tmp 18) rfl Z (bcs x).toArray rfl rfl (by rw[u.o,I.o]) (by rw[HZ.o,I.o]) (zbu9 x) ?_;rw[HW.o]))
  go_ret2;refine⟨_,rfl,?_,HB.o,λ k E=>by cases E;exact zn6 _⟩;rw[Q.o,HV.o];exact a8.o
 | some v=>
  obtain⟨_,aa,a2,_⟩:=K.o.yes i v hg;obtain⟨b,cap,rfl,_,_,_,_,a9⟩:=K.o.own hg;rw[show gv g i=.slice (some ⟨b,0,none⟩) (s.V i).length cap by simp[gv,hg]]at a3;have LV:Hid (W.rangeAt b (((s.V i).length-1)*256) (bcs ((s.V i).getD ((s.V i).length-1) []))):=a2.load (by omega);have LY:=a2.1.get (i:=(s.V i).length-1) (by omega);have HY:Hid ((s.V i).getLastD x=(s.V i).getD ((s.V i).length-1) []):=by show _=_;rw[List.getLastD_eq_getLast?,List.getLast?_eq_getElem?,zn3,zc0 (by omega)];rfl
  obtain⟨y,hy⟩:=exN ((s.V i).getD ((s.V i).length-1) []);rw[hy]at LV LY HY;obtain⟨a4,_⟩:=LY;have A:=za0 a4;have a7:Hid ((bcs y).toArray.size=256):=by show _=_;rw[List.size_toArray,zc9,a4]
  have a1:(s.V i).length<=cap/\cap<=maxLen:=by obtain⟨_,_,_,h1,h2,_⟩:=a2.blk;exact⟨h1,h2⟩
  obtain⟨k,E⟩:∃k,(s.V i).length=k+1:=⟨(s.V i).length-1,by omega⟩
  rw[E]at a3 LV a1;rw[Nat.add_sub_cancel]at LV;have ae:(k:Int)+1<=9223372036854775807:=by have:=a1.1;have:=a1.2;unfold maxLen at this;omega
  have ag:((k+1:Nat):Int)=(k:Int)+1:=by omega
  have TH:Hid (W.there q 0 256):=λ j hj=>by rw[Nat.zero_add,<-O.o];refine⟨?_,frozen_of_row W _ j _ _ HQ.o⟩;rw[cell_of_row W _ j _ _ (0,0) HQ.o];simp[hj,I.o,zc9,a0.o]
  clear hg aa a2 a9 hy a4 a1 E
  go_enter Tryz.func109,Tryz.ntmps109
  go_wp2_with fail;refine H.o.mono ?_;rintro e w ⟨rfl,rfl⟩;clear H;go_wp2_with(first
   | (with_reducible (show wpList _ _ _ (Oper.mk _ (Op.load _ _) _ _ _ _::_) _ _);refine wpList_load_mid rfl 140 (.tmp 17) rfl lb (i*256) rfl _ _ LD.o Tryz.underlying140 rfl (by rw[u.o,zc9,a0.o]) ?_)
   | (with_reducible (show wpList _ _ _ (Oper.mk _ (Op.store _ _ _) _ _ _ _::_) _ _);refine zd9 _ rfl 140 (.tmp 6) (.tmp 18) rfl Z (bcs x).toArray rfl rfl (by rw[u.o,I.o]) (by rw[HZ.o,I.o]) (zbu9 x) ?_;rw[HW.o])
   | (with_reducible (show wpList _ _ _ (Oper.mk _ (Op.load _ _) _ _ _ _::_) _ _);refine wpList_load_mid rfl 140 (.tmp 32) rfl b (k*256) rfl _ _ LV.o Tryz.underlying140 rfl (by rw[u.o,zc9,A.o]) ?_)
   | (with_reducible (show wpList _ _ _ (Oper.mk _ (Op.store _ _ _) _ _ _ _::_) _ _);rw[O.o];refine wpList_store_mid rfl 140 (.tmp 6) (.tmp 33) rfl q 0 (bcs y).toArray rfl rfl (by rw[a7.o];exact TH.o) (by rw[u.o,a7.o]) (zbu9 y) ?_))
  go_ret2;refine⟨_,rfl,?_,HB.o.trans ((zb9 q (bcs y) 0 W).below HB.o.size (λ k e=>by rw[e,<-O.o];exact zn6 _)),λ k E=>by cases E;exact Nat.le_of_eq O.o⟩;have a5:=HQ.o;rw[O.o]at a5;have h1:=zj9 (bcs y) 0 W _ a5 (by rw[I.o,zc9,A.o];decide);refine⟨q,256,_,_,?_,?_,by unfold maxLen;omega,h1,?_⟩
  .rw[Q.o,HY.o,A.o];rfl
  .rw[Q.o,HY.o,A.o];exact zn6 _
  .rw[Q.o,HY.o,A.o];simp[zc9,A.o,a0.o]
