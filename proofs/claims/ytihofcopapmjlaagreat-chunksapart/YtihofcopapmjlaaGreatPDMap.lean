import Derived.Test.YtihofcopapmjlaaGreatPBSum
import Derived.Maps.Ext
import Derived.Test.YtihofcopapmjlaaGreatPFCat
set_option maxRecDepth 100000
set_option linter.all false
set_option maxHeartbeats 8000000
namespace Go.Proofs.YtihofcopapmjlaaGreat
open Go.Proofs.Tryz
section
open Go.RowKit Go.Maps
def Rv(v:Value):Option (DataW Value×List MemPlace):=some (.held v,[])
def IA(n:Nat)(g:Nat->Option Value):List (Lit×DataW Value):=(List.range n).filterMap λ i=>(g i).map λ v=>(Lit.int .i64 (i:Int),DataW.held v)
def Dm(n:Nat)(g:Nat->Option Value):DataW Value:=.map (IA n g)
def JT{n g p}:p∈IA n g↔∃i v,i<n/\g i=some v/\p=(Lit.int .i64 (i:Int),DataW.held v):=by
 unfold IA;rw[List.mem_filterMap];constructor
 .rintro⟨i,f,h⟩;cases e:g i with
  | none=>grind
  | some v=>grind
 grind
def Zy(n g):(IA n g).Pairwise (λ p q=>p.1.before q.1=true):=by
 unfold IA;rw[List.pairwise_filterMap];refine List.Pairwise.imp ?_ List.pairwise_lt_range;intro i j A p f q r;cases e:g i with
 | none=>grind
 | some v=>
  cases e2:g j with
  | none=>grind
  | some u=>rw[e]at f;rw[e2]at r;simp at f r;subst f;subst r;simp[Lit.before];exact A
def SG(n g):Canon (Dm n g):=⟨_,rfl,Zy n g,λ p f=>by
 obtain⟨i,v,_,_,rfl⟩:=JT.1 f
 trivial⟩
def FK{n g r}:Maps.has (Dm n g) r=true↔∃i v,i<n/\g i=some v/\r=Lit.int .i64 (i:Int):=by unfold Dm;rw[has_eq,List.any_eq_true];constructor;rintro⟨p,A,B⟩;obtain⟨i,v,q,f,rfl⟩:=JT.1 A;exact⟨i,v,q,f,(WideAt.sameKey_eq B).symm⟩;rintro⟨i,v,q,f,rfl⟩;exact⟨_,JT.2 ⟨i,v,q,f,rfl⟩,by simp[Lit.sameKey]⟩
def JR{n g i v}(A:i<n)(r:g i=some v)(z):(Dm n g).atKey (Lit.int .i64 (i:Int)) z=.held v:=by
 unfold Dm DataW.atKey;cases e:(IA n g).find? (λ p=>p.1.sameKey (Lit.int .i64 (i:Int)))with
 | none=>have h:=List.find?_eq_none.1 e _ (JT.2 ⟨i,v,A,r,rfl⟩);simp[Lit.sameKey]at h
 | some p=>
  have f:=List.find?_some e;have q:=List.mem_of_find?_eq_some e;obtain⟨j,u,_,E,rfl⟩:=JT.1 q;have B:=WideAt.sameKey_eq f
  grind
def SH{n g}{i:Nat}(f:g i=none)(z):(Dm n g).atKey (Lit.int .i64 (i:Int)) z=z:=by
 refine atKey_of_not_has ?_ z;rw[Bool.eq_false_iff];intro h;obtain⟨j,v,_,q,e⟩:=FK.1 h
 grind
def Df(g:Nat->Option Value)(i:Nat)(v:Option Value)(j:Nat):Option Value:=if j=i then v else g j
def OM{D n g}(hc:Canon D)(r:∀k,Maps.has D k=true↔Maps.has (Dm n g) k=true)(ha:∀i v,i<n->g i=some v->∀z,D.atKey (Lit.int .i64 (i:Int)) z=.held v):D=Dm n g:=by refine Maps.ext hc (SG n g) (λ k=>by grind) (λ k z h=>?_);obtain⟨i,v,q,f,rfl⟩:=FK.1 ((r k).1 h);rw[ha i v q f z,JR q f z]
def ON{n g i}(B:i<n)(v)(hc:Canon ((Dm n g).put (Lit.int .i64 (i:Int)) (.held v))):(Dm n g).put (Lit.int .i64 (i:Int)) (.held v)=Dm n (Df g i (some v)):=by
 have A:IsMap (Dm n g):=⟨_,rfl⟩
 have r:WideAt.IsKeyLit (Lit.int .i64 (i:Int)):=trivial;refine OM hc (λ k=>?_) (λ j u q f z=>?_)
 .by_cases e:k=Lit.int .i64 (i:Int);subst e;rw[has_put_same A r];exact⟨λ _=>FK.2 ⟨i,v,B,by simp[Df],rfl⟩,λ _=>rfl⟩
  .rw[has_put_other e,FK,FK];constructor;rintro⟨j,u,q,f,rfl⟩;have:j≠i:=λ h=>e (by rw[h]);exact⟨j,u,q,by simp[Df,this,f],rfl⟩
   .rintro⟨j,u,q,f,rfl⟩;have:j≠i:=λ h=>e (by rw[h]);simp[Df,this]at f
    grind
 .by_cases e:j=i;subst e;simp[Df]at f;subst f;exact atKey_put_same A r _ _;simp[Df,e]at f;rw[atKey_put_other (by simp;omega),JR q f]
def Zl(n g):Maps.size (Dm n g)<=n:=by unfold Dm;rw[size_eq];have:=List.length_filterMap_le (λ i=>(g i).map λ v=>(Lit.int .i64 (i:Int),DataW.held v)) (List.range n);simpa[IA]using this
def OK{n g}(h:∀i,i<n->g i=none):Dm n g=.map []:=by
 unfold Dm;congr 1;rw[List.eq_nil_iff_forall_not_mem];intro p f;obtain⟨i,v,r,q,_⟩:=JT.1 f
 grind
def GE:Keyed prog 3:=int_keyed underlying3
def KQ{i:Nat}(f:i<9223372036854775808):keyOf prog 3 (.int .i64 (i:Int))=some (Lit.int .i64 (i:Int)):=
 keyOf_int_mk underlying3 (by simp[Lit.wf,IntKind.min,IntKind.max,IntKind.signed,IntKind.bits];omega)
def Mp(w:World)(b n:Nat)(g:Nat->Option Value):Prop:=w.ownsMap prog 3 Rv b n (Dm n g)
section
variable {w w':World} {b n:Nat} {g:Nat->Option Value}
def Iy{m D}(h:w.ownsMap prog 3 Rv b m D)(e:D=Dm n g):Mp w b n g:=by subst e;obtain⟨r,q,A,B,E,f⟩:=h;refine⟨r,q,A,B,?_,f⟩;have:=Zl n g;rw[f,size_eq,length_read]at this;exact this
def Mp.lt(h:Mp w b n g):b<w.heap.size:=World.ownsMap.lt h
def Mp.tch{S}(h:Mp w b n g)(B:AD S w w')(r:¬S b):Mp w' b n g:=by have A:=h.lt;obtain⟨q,f,E,I⟩:=h;exact⟨q,f,by rw[B.block b A r];exact E,I⟩
def Mp.notCells(h:Mp w b n g){C t f}:w.heap[b]?≠some (.cells C t f):=by
 obtain⟨r,q,A,B⟩:=h
 grind
def Mp.congr(h:Mp w b n g){f}(e:∀i,i<n->g i=f i):Mp w b n f:=by
 have:Dm n g=Dm n f:=by
  refine OM (SG n g) (λ k=>?_) (λ i v q r z=>JR q ((e i q).trans r) z);rw[FK,FK]
  grind
 unfold Mp;rw[<-this];exact h
end
theorem AIk(w):(zeroValue 122).run prog w=.ok (.slice none 0 0) w:=by kernel_rfl
def gv(g:Nat->Option Value)(i:Nat):Value:=(g i).getD (.slice none 0 0)
def Mp.look{w b n g}(h:Mp w b n g){i}(f:i<n)(q:n<=4096):
 (Instr.lookup 123 (.map (some b)) (.int .i64 (i:Int)) false).run prog w=.ok (gv g i) w:=by
 obtain⟨v,r,hr,hv⟩:=World.ownsMap.lookup h GE underlying123 (AIk w) (zd:=.held (.slice none 0 0)) (zp:=[]) rfl (KQ (i:=i) (by omega));rw[hr];unfold gv;cases e:g i with
 | none=>
  rw[SH e]at hv;simp only[Rv,Option.some.injEq,Prod.mk.injEq,DataW.held.injEq]at hv
  grind
 | some u=>
  rw[JR f e]at hv;simp only[Rv,Option.some.injEq,Prod.mk.injEq,DataW.held.injEq]at hv
  grind
structure DS where
 L:List (List Int)
 V:Nat->List (List Int)
 c:Bool
 l:Nat
def DS.has(s:DS)(i:Nat):List Int:=(s.V i).getLastD (s.L.getD i [])
def DO(w b i v):AD (λ k=>k=b) w (w.setCell ⟨b,i,none⟩ v):=AD.setCell (AD.refl (λ k=>k=b) w) (p:=⟨b,i,none⟩) (λ _=>rfl) v
structure Ej(S:Nat->Prop)(w:World)(d:Nat)(s:DS)(lb vb lc:Nat)(g:Nat->Option Value):Prop where
 n1:1<=s.L.length
 n2:s.L.length<=4096
 l30:s.l<=1073741824
 box:w.heap[d]?=some (.cells #[.slice (some ⟨lb,0,none⟩) s.L.length lc,.map (some vb),.bool s.c,.int .i64 (s.l:Int)] 125 (0,0))
 lies:Dy w (.slice (some ⟨lb,0,none⟩) s.L.length lc) s.L
 map:Mp w vb s.L.length g
 no:∀i,g i=none->s.V i=[]
 yes:∀i v,g i=some v->i<s.L.length/\s.V i≠[]/\Dy w v (s.V i)/\v.ownBlock≠some lb
 apart:∀i j v u,g i=some v->g j=some u->i≠j->v.ownBlock≠u.ownBlock
 sd:S d
 sl:S lb
 sv:S vb
 sg:∀i v k,g i=some v->v.ownBlock=some k->S k
 slt:∀k,S k->k<w.heap.size
def Dk(S:Nat->Prop)(w:World)(d:Nat)(s:DS):Prop:=∃lb vb lc g,Ej S w d s lb vb lc g
section
variable {S:Nat->Prop} {w w':World} {d:Nat} {s:DS} {lb vb lc:Nat} {g:Nat->Option Value}
def Ej.c0(h:Ej S w d s lb vb lc g):w.cell? ⟨d,0,none⟩=some (.slice (some ⟨lb,0,none⟩) s.L.length lc):=by rw[cell_of_row w d 0 _ _ (0,0) h.box];rfl
def Ej.c1(h:Ej S w d s lb vb lc g):w.cell? ⟨d,1,none⟩=some (.map (some vb)):=by rw[cell_of_row w d 1 _ _ (0,0) h.box];rfl
def Ej.lt(h:Ej S w d s lb vb lc g):d<w.heap.size:=(za0.1 h.box).1
def Ej.own(h:Ej S w d s lb vb lc g){i v}(hv:g i=some v):∃b cap,v=.slice (some ⟨b,0,none⟩) (s.V i).length cap/\b≠d/\b≠vb/\b≠lb/\S b/\0<(s.V i).length:=by
 obtain⟨_,q,r,A⟩:=h.yes i v hv;obtain⟨b,cap,B,rfl,f,_⟩:=r.shape q;refine⟨b,cap,rfl,λ e=>?_,λ e=>?_,λ e=>A (by rw[e];rfl),h.sg i _ b hv rfl,?_⟩;rw[e,h.box]at f;simp at f;exact h.map.notCells (by rw[<-e];exact f)
 grind
def Ej.tch(h:Ej S w d s lb vb lc g){R:Nat->Prop}(f:AD R w w')(q:∀k,S k->¬R k):Ej S w' d s lb vb lc g where
 n1:=h.n1
 n2:=h.n2
 l30:=h.l30
 box:=by rw[f.block d h.lt (q d h.sd)];exact h.box
 lies:=h.lies.tch f (λ j e=>by cases e;exact q _ h.sl)
 map:=h.map.tch f (q _ h.sv)
 no:=h.no
 yes:=λ i v hv=>⟨(h.yes i v hv).1,(h.yes i v hv).2.1,(h.yes i v hv).2.2.1.tch f (λ j e=>q j (h.sg i v j hv e)),(h.yes i v hv).2.2.2⟩
 apart:=h.apart
 sd:=h.sd
 sl:=h.sl
 sv:=h.sv
 sg:=h.sg
 slt:=λ k r=>Ao (h.slt k r) f.size
def Dk.tch{R}(h:Dk S w d s)(q:AD R w w')(f:∀k,S k->¬R k):Dk S w' d s:=by obtain⟨lb,vb,lc,g,h⟩:=h;exact⟨lb,vb,lc,g,h.tch q f⟩
def Dk.below(h:Dk S w d s)(f:Below w.heap.size w w'):Dk S w' d s:=h.tch (R:=λ _=>False) (AD.of_below f) (λ _ _ e=>e)
def Dk.slt(h:Dk S w d s):∀k,S k->k<w.heap.size:=by obtain⟨_,_,_,_,h⟩:=h;exact h.slt
end
abbrev dp(d:Nat):Value:=.pointer (some ⟨d,0,none⟩)
def TR{S d s lb vb lc g}(at_ w)(h:Ej S w d s lb vb lc g):
 Calls prog 105 #[dp d,.int .i64 at_] w λ e w'=>e=.returned (.bool (decide (0<=at_)&&decide (at_<(s.L.length:Int))))/\w'=w:=by
 have f:=h.c0;obtain⟨n,q⟩:=exH s.L.length;rw[q.o]at f |-
 clear h;by_cases r:0<=at_
 .by_cases A:at_<(n:Int)
  .go_enter func105,ntmps105
   go_wp2_with fail;go_ret;simp_all
  .go_enter func105,ntmps105
   go_wp2_with fail;go_ret;simp_all
 .go_enter func105,ntmps105
  go_wp2_with fail;go_ret;exact⟨by rw[ze1 (show¬0<=at_ by omega)];rfl,rfl⟩
def AF2{S d s}(w)(h:Dk S w d s):
 Calls prog 82 #[dp d] w λ e w'=>e=.returned (.int .i64 (s.L.length:Int))/\w'=w:=by
 obtain⟨lb,vb,lc,g,h⟩:=h;have f:=h.c0;obtain⟨n,q⟩:=exH s.L.length;rw[q.o]at f |-
 clear h
 go_enter func82,ntmps82
 go_wp2_with fail;go_ret;simp
def DS.new(n:Nat):DS:=⟨List.replicate n zz,λ _=>[],false,0⟩
def QH(n):Fp (List.replicate n zz):=λ x f=>by rw[List.mem_replicate]at f;rw[f.2];exact⟨Ei,Jt⟩
def ACc(n):(madeCells (AG zz).toArray (n*256)).toList=AG (List.replicate n zz).flatten:=by
 have q:=SQ (QH n);rw[zm0]at q;apply List.ext_getElem?;intro i;by_cases A:i<n*256
 .have f:i % 256<256:=Nat.mod_lt _ (by decide);have r:i / 256<n:=by omega
  have e:(List.replicate n zz).flatten[i]?=some 0:=by have:=Od (QH n) (i:=i / 256) (by grind) f;rw[show i / 256*256+i % 256=i by omega]at this;rw[this,AP,List.getElem?_replicate,if_pos r];exact XA f
  have B:(AG zz)[i % 256]?=some (.int .u8 0):=by rw[AG,zw0,XA f];rfl
  have hr:(AG (List.replicate n zz).flatten)[i]?=some (.int .u8 0):=by rw[AG,zw0,e];rfl
  rw[hr];unfold madeCells;simp only[Array.toList_map,zw0,Array.toList_range];rw[List.getElem?_range A];simp only[Option.map_some,List.size_toArray,At,Ei]
  grind
 .rw[zn0 (by rw[Array.length_toList,size_madeCells];omega),zn0 (by rw[At,q];omega)]
def ADE(n:Nat)(w)(T:1<=n)(U:n<=4096):Calls prog 26 #[.int .i64 (n:Int)] w λ e w'=>
 ∃d S,e=.returned (.tuple #[dp d,.int .i64 0])/\Dk S w' d (DS.new n)/\Below w.heap.size w w'/\∀k,S k->w.heap.size<=k:=by
 obtain⟨Z,I,K,L,Y⟩:=info_parts ABQ;have a0:=@run_makeMap prog;have ha:¬(n:Int)<1:=by omega
 have hb:¬(n:Int) > 4096:=by omega
 go_enter func26,ntmps26
 go_wp2_with(at_make;refine wpList_make_full _ rfl (.tmp 10) (.tmp 10) 122 rfl 0 188 Z _ 256 underlying122 I K L .i64 .i64 _ _ n rfl rfl rfl rfl (by grind) (by unfold maxLen;omega) (AI _) ?_)
 intro f J q;rw[ACc]at J;have E:Hid (Dy f (.slice (some ⟨w.heap.size,0,none⟩) n n) (List.replicate n zz)):=⟨QH n,by grind⟩
 have A:Hid (Below w.heap.size w f):=⟨q.os,q.tape,q.output,q.size,λ k r=>q.block k r (by simp)⟩
 have B:Hid (w.heap.size<f.heap.size):=E.o.lt _ rfl;clear J q I K L Y;go_wp2_with fail;go_ret2;have O:Mp (f.alloc (.map #[] 0)) f.heap.size n (λ _=>none):=Iy (World.ownsMap_made f _ _ _) (by rw[OK (λ _ _=>rfl)]);refine⟨f.heap.size+1,λ k=>w.heap.size<=k/\k<f.heap.size+2,by simp,⟨w.heap.size,f.heap.size,n,λ _=>none,?_⟩,?_,λ k r=>r.1⟩
 .have X:(f.alloc (.map #[] 0)).heap.size=f.heap.size+1:=by simp
  have W:∀o,((f.alloc (.map #[] 0)).alloc o).heap[f.heap.size+1]?=some o:=λ o=>by rw[<-X];exact heap_alloc_new _ _
  exact{
   n1:=by simp[DS.new];exact T
   n2:=by simp[DS.new];exact U
   l30:=by simp[DS.new]
   box:=by rw[W];simp[DS.new]
   lies:=by simp only[DS.new,zm0];exact(E.o.below ((Below.refl _ _).alloc (AE _) _)).below ((Below.refl _ _).alloc (AE _) _)
   map:=by simp only[DS.new,zm0];exact O.tch (S:=λ _=>False) (AD.of_below ((Below.refl _ _).alloc (AE _) _)) (λ e=>e)
   no:=λ _ _=>rfl
   yes:=λ _ _ e=>by cases e
   apart:=λ _ _ _ _ e=>by cases e
   sd:=⟨by have:=B.o;omega,by omega⟩
   sl:=⟨AE _,by have:=B.o;omega⟩
   sv:=⟨by have:=B.o;omega,by omega⟩
   sg:=λ _ _ _ e=>by cases e
   slt:=λ k r=>by grind }
 .exact(A.o.alloc A.o.size _).alloc (by simp;have:=A.o.size;omega) _
def AF9(g w):(Instr.sliceAt 188 (.pointer (some ⟨g,0,none⟩)) none none none).run prog w=.ok (.slice (some ⟨g,0,none⟩) 256 256) w:=by
 have q:prog.arrayLen 188=256:=by kernel_rfl
 have f:prog.elem 188=5:=by kernel_rfl
 have r:prog.underlying 188=some (.array (prog.arrayLen 188) (prog.elem 188)):=by rw[q,f];exact underlying188
 rw[run_sliceAt_array_all w 188 _ r,q,f];simp[slicedAt,go_sem]
def AEn{S d s}(at_ w)(h:Dk S w d s)(f:at_<0\/(s.L.length:Int)<=at_):
 Calls prog 139 #[dp d,.int .i64 at_] w λ e w'=>e=.returned (.tuple #[.slice none 0 0,.int .i64 2])/\w'=w:=by
 obtain⟨lb,vb,lc,g,h⟩:=h;have q:(decide (0<=at_)&&decide (at_<(s.L.length:Int)))=false:=by grind
 have H:=TR at_ w h;rw[q]at H;have H:=AU H;clear h f
 go_enter func139,ntmps139
 go_wp2_with fail;refine H.o.mono ?_;rintro e w ⟨rfl,rfl⟩;go_wp2_with fail;go_ret2;simp
def AEo{S d s}(i w)(h:Dk S w d s)(hi:i<s.L.length):
 Calls prog 139 #[dp d,.int .i64 (i:Int)] w λ e w'=>∃v,e=.returned (.tuple #[v,.int .i64 0])/\Wb w' v (s.has i)/\Below w.heap.size w w'/\∀k,v.ownBlock=some k->w.heap.size<=k:=by
 obtain⟨lb,vb,lc,g,h⟩:=h;have hf:(decide (0<=(i:Int))&&decide ((i:Int)<(s.L.length:Int)))=true:=by rw[Bool.and_eq_true,zg1,zg1];omega
 have H:=TR i w h;rw[hf]at H;have H:=AU H;have c0:=h.c0;have c1:=h.c1;obtain⟨aa,a5⟩:=zero_of_info ABR;have LD:=z6 (h.lies.load hi);have LL:=h.lies.1.get hi;have J:Hid (s.has i=(s.V i).getLastD (s.L.getD i [])):=rfl;have HD:=z6 h;have n2:=h.n2;obtain⟨n,O⟩:=exN s.L.length;have HN:=z6 O;rw[O]at hi c0 n2;obtain⟨x,hx⟩:=exN (s.L.getD i []);rw[hx]at LD LL J;obtain⟨hx1,ab⟩:=LL;have U:=z6 hx1;have B:Hid ((AG x).toArray.size=256):=by show _=_;rw[List.size_toArray,At,hx1]
 have f:=z6 a5;obtain⟨W,K⟩:=exN (w.alloc (.cells (AG x).toArray 188));have T:Hid (Below w.heap.size w W):=by rw[<-K];exact(Below.refl _ _).alloc (AE _) _
 have E:=z6 (h.tch (R:=λ _=>False) (AD.of_below T.o) (λ _ _ e=>e));have c1:=E.o.c1;have a2:=E.o.map.look (by rw[O];exact hi) (by rw[O];exact n2);have a7:Hid (Wb W (.slice (some ⟨w.heap.size,0,none⟩) 256 256) x):=by have:=AID w x 188 (by unfold maxLen;omega);rw[K,hx1]at this;exact this
 have HQ:Hid (W.heap[w.heap.size]?=some (.cells (AG x).toArray 188 (0,0))):=by show _=_;rw[<-K];exact heap_alloc_new w _
 have HW:=z6 K;clear h hf hx hx1 ab O a5 K;have ae:(i:Int)<(n:Int):=by omega
 obtain⟨Z,hZ⟩:=exH ((AG zz).toArray);have HZ:Hid (Z.size=256):=by show _=_;rw[<-hZ.o,List.size_toArray,At,Ei]
 rw[hZ.o]at aa;have ac:=AF9;obtain⟨q,hq⟩:=exN w.heap.size;have I:=z6 hq;clear hq;cases hg:g i with
 | none=>
  have HV:=z6 (E.o.no i hg);rw[show gv g i=.slice none 0 0 by simp[gv,hg]]at a2;clear hg
  go_enter func139,ntmps139
  go_wp2_with fail;refine H.o.mono ?_;rintro e w ⟨rfl,rfl⟩;clear H;go_wp2_with(first
   | (with_reducible (show wpList _ _ _ (Oper.mk _ (Op.load _ _) _ _ _ _::_) _ _);refine wpList_load_mid rfl 188 (.tmp 17) rfl lb (i*256) rfl _ _ LD.o underlying188 rfl (by rw[f.o,At,U.o]) ?_)
   | (with_reducible (show wpList _ _ _ (Oper.mk _ (Op.store _ _ _) _ _ _ _::_) _ _);refine Ia _ rfl 188 (.tmp 6) (.tmp 18) rfl Z (AG x).toArray rfl rfl (by rw[f.o,B.o]) (by rw[HZ.o,B.o]) (Hy x) ?_;rw[HW.o]))
  go_ret2;refine⟨_,rfl,?_,T.o,λ k A=>by cases A;exact AE _⟩;rw[J.o,HV.o];exact a7.o
 | some v=>
  obtain⟨_,a9,a1,_⟩:=E.o.yes i v hg;obtain⟨b,cap,rfl,_,_,_,_,a8⟩:=E.o.own hg;rw[show gv g i=.slice (some ⟨b,0,none⟩) (s.V i).length cap by simp[gv,hg]]at a2;have Y:Hid (W.rangeAt b (((s.V i).length-1)*256) (AG ((s.V i).getD ((s.V i).length-1) []))):=a1.load (by omega);have LY:=a1.1.get (i:=(s.V i).length-1) (by omega);have X:Hid ((s.V i).getLastD x=(s.V i).getD ((s.V i).length-1) []):=by show _=_;rw[List.getLastD_eq_getLast?,List.getLast?_eq_getElem?,AP,z9 (by omega)];rfl
  obtain⟨y,hy⟩:=exN ((s.V i).getD ((s.V i).length-1) []);rw[hy]at Y LY X;obtain⟨a3,_⟩:=LY;have r:=z6 a3;have a6:Hid ((AG y).toArray.size=256):=by show _=_;rw[List.size_toArray,At,a3]
  have a0:(s.V i).length<=cap/\cap<=maxLen:=by obtain⟨_,_,_,h1,h2,_⟩:=a1.blk;exact⟨h1,h2⟩
  obtain⟨k,A⟩:∃k,(s.V i).length=k+1:=⟨(s.V i).length-1,by omega⟩
  rw[A]at a2 Y a0;rw[Nat.add_sub_cancel]at Y;have ad:(k:Int)+1<=9223372036854775807:=by have:=a0.1;have:=a0.2;unfold maxLen at this;omega
  have af:((k+1:Nat):Int)=(k:Int)+1:=by omega
  have TH:Hid (W.there q 0 256):=λ j hj=>by rw[Nat.zero_add,<-I.o];refine⟨?_,frozen_of_row W _ j _ _ HQ.o⟩;rw[cell_of_row W _ j _ _ (0,0) HQ.o];simp[hj,B.o,At,U.o]
  clear hg a9 a1 a8 hy a3 a0 A
  go_enter func139,ntmps139
  go_wp2_with fail;refine H.o.mono ?_;rintro e w ⟨rfl,rfl⟩;clear H;go_wp2_with(first
   | (with_reducible (show wpList _ _ _ (Oper.mk _ (Op.load _ _) _ _ _ _::_) _ _);refine wpList_load_mid rfl 188 (.tmp 17) rfl lb (i*256) rfl _ _ LD.o underlying188 rfl (by rw[f.o,At,U.o]) ?_)
   | (with_reducible (show wpList _ _ _ (Oper.mk _ (Op.store _ _ _) _ _ _ _::_) _ _);refine Ia _ rfl 188 (.tmp 6) (.tmp 18) rfl Z (AG x).toArray rfl rfl (by rw[f.o,B.o]) (by rw[HZ.o,B.o]) (Hy x) ?_;rw[HW.o])
   | (with_reducible (show wpList _ _ _ (Oper.mk _ (Op.load _ _) _ _ _ _::_) _ _);refine wpList_load_mid rfl 188 (.tmp 32) rfl b (k*256) rfl _ _ Y.o underlying188 rfl (by rw[f.o,At,r.o]) ?_)
   | (with_reducible (show wpList _ _ _ (Oper.mk _ (Op.store _ _ _) _ _ _ _::_) _ _);rw[I.o];refine wpList_store_mid rfl 188 (.tmp 6) (.tmp 33) rfl q 0 (AG y).toArray rfl rfl (by rw[a6.o];exact TH.o) (by rw[f.o,a6.o]) (Hy y) ?_))
  go_ret2;refine⟨_,rfl,?_,T.o.trans ((I5 q (AG y) 0 W).below T.o.size (λ k e=>by rw[e,<-I.o];exact AE _)),λ k A=>by cases A;exact Nat.le_of_eq I.o⟩;have a4:=HQ.o;rw[I.o]at a4;have h1:=JU (AG y) 0 W _ a4 (by rw[B.o,At,r.o];decide);refine⟨q,256,_,_,?_,?_,by unfold maxLen;omega,h1,?_⟩;rw[J.o,X.o,r.o];rfl;rw[J.o,X.o,r.o];exact AE _;rw[J.o,X.o,r.o];simp[At,r.o,U.o]
end
section
open Go.RowKit
structure CS where
 rm:Nat
 B:Nat->Int×List Int
 d:List Nat
 c:List Nat
def Bq(B:Nat->Int×List Int)(n:Nat)(x:Int×List Int)(m:Nat):Int×List Int:=if m=n then x else B m
def Az(l:List Nat)(n:Int):List Nat:=l.filter λ m=>decide ((m:Int)≠n)
def JX(rm:Nat)(l:List Nat)(n:Nat):List Nat:=if rm<(Az l n).length+1 then(Az l n++[n]).tail else Az l n++[n]
def JZ(l:List Nat)(n:Nat):List Nat:=l.filter (λ m=>decide (m<n))++n::l.filter (λ m=>decide (n<m))
structure EC(N:Nat)(s:CS):Prop where
 r1:1<=s.rm
 r2:s.rm<=1024
 dr:s.d.Pairwise (λ a b=>a<b)
 cn:s.c.Nodup
 ap:∀n,n∈s.d->n∉s.c
 dl:∀n,n∈s.d->50<=n/\n<N
 cl:∀n,n∈s.c->50<=n/\n<N
 may:∀n,n∈s.d\/n∈s.c->BI (n:Int) (s.B n).1 (s.B n).2.length=true/\By (s.B n).2
def Bi(N:Nat)(n:Int):Bool:=decide (50<=n)&&decide (n<(N:Int))
def Ff{N n}:Bi N n=true↔50<=n/\n<(N:Int):=by simp[Bi]
def CS.keep(s:CS)(n:Nat)(x:Int×List Int):CS:={ s with B:=Bq s.B n x,d:=Az s.d n,c:=JX s.rm s.c n }
def CS.forget(s:CS)(n:Int):CS:={ s with d:=Az s.d n,c:=Az s.c n }
def CS.lay(s:CS)(n:Nat)(x:Int×List Int):CS:={ s with B:=Bq s.B n x,d:=JZ s.d n,c:=Az s.c n }
def CS.getE(s:CS)(D:DS)(n:Int):Int:=if Bi D.L.length n then(if n.toNat∈s.d\/n.toNat∈s.c then 0 else Go.Proofs.YtihofcopapmjlaaGreat.getE n (D.has n.toNat))else 2
def CS.getB(s:CS)(D:DS)(n:Int):Int×List Int:=if Bi D.L.length n then(if n.toNat∈s.d\/n.toNat∈s.c then s.B n.toNat else Go.Proofs.YtihofcopapmjlaaGreat.getB n (D.has n.toNat))else(0,[])
def CS.getS(s:CS)(D:DS)(n:Int):CS:=if s.getE D n=0/\n.toNat∉s.d then s.keep n.toNat (s.getB D n)else s
def CS.putE(s:CS)(N:Nat)(n k:Int)(ys:List Int):Int:=if Bi N n then(if BI n k ys.length then 0 else 1)else 2
def CS.putS(s:CS)(N:Nat)(n k:Int)(ys:List Int):CS:=if s.putE N n k ys=0 then s.lay n.toNat (k,ys)else s
def BW{l n m}:m∈Az l n↔m∈l/\(m:Int)≠n:=by simp[Az]
def ABv(l n):(Az l n).length<=l.length:=List.length_filter_le _ _
def Ot{l}(n)(h:l.Nodup):(Az l n).Nodup:=h.filter _
def Ta{l}(n)(h:l.Pairwise (λ a b=>a<b)):(Az l n).Pairwise (λ a b=>a<b):=h.filter _
def MT{l:List Nat}{n}(h:∀m∈l,(m:Int)≠n):Az l n=l:=by unfold Az;simp_all
def TZ{l n}(A:l.Nodup){i}(q:i<l.length)(f:((l.getD i 0:Nat):Int)=n):Az l n=l.eraseIdx i:=by
 induction l generalizing i with
 | nil=>simp at q
 | cons a r B=>
  rw[List.nodup_cons]at A;cases i with
  | zero=>simp at f;subst f;show List.filter _ (a::r)=r;rw[List.filter_cons_of_neg (by simp)];exact MT (λ m E e=>A.1 (by grind))
  | succ i=>
   simp at f q;have ha:(a:Int)≠n:=λ e=>by
    have:a=r[i]?.getD 0:=by omega
    grind
   show List.filter _ (a::r)=_;rw[List.filter_cons_of_pos (by grind)];exact congrArg _ (B A.2 q (by grind))
def Ld(B n x):Bq B n x n=x:=by simp[Bq]
def JL(B){n m}(x)(h:m≠n):Bq B n x m=B m:=by simp[Bq,h]
def ABh{f l n m}(h:m∈JX f l n):m=n\/(m∈l/\m≠n):=by
 unfold JX at h;have:m∈Az l n++[n]:=by split at h;exact List.mem_of_mem_tail h;exact h
 rcases zf0.1 this with e|e;exact .inr ⟨(BW.1 e).1,λ q=>(BW.1 e).2 (by omega)⟩
 grind
def Q9{l}{n:Nat}(h:l.Nodup):(Az l n++[n]).Nodup:=by rw[List.nodup_append];refine⟨Ot _ h,by simp,λ a ha b f e=>?_⟩;simp at f;exact(BW.1 ha).2 (by omega)
def Iw{l n m}:m∈JZ l n↔m=n\/m∈l:=by
 unfold JZ
 grind
def ABp{l n}(h:l.Pairwise (λ a b=>a<b)):(JZ l n).Pairwise (λ a b=>a<b):=by
 unfold JZ;rw[List.pairwise_append,List.pairwise_cons];refine⟨h.filter _,⟨λ a ha=>by grind,h.filter _⟩,λ a ha b f=>?_⟩
 grind
def ACK{l:List Nat}{N}(f:l.Nodup)(h:∀n,n∈l->n<N):l.length<=N:=by
 have:=List.Nodup.length_le_of_subset (l₁:=l) (l₂:=List.range N) f (λ n q=>by grind)
 grind
def ABi{f l}{n:Nat}(h:l.Nodup)(hr:f<(Az l n).length+1)(B:1<=f):∃m,(Az l n++[n]).head?=some m/\m≠n/\JX f l n=Az (Az l n++[n]) m:=by
 have q:=Q9 (n:=n) h;cases e:Az l n with
 | nil=>grind
 | cons a r=>
  refine⟨a,by simp,λ A=>?_,?_⟩
  .grind
  .unfold JX;rw[if_pos hr,e];rw[e]at q;have:=TZ (l:=a::r++[n]) (n:=(a:Int)) q (i:=0) (by simp) (by simp)
   grind
section
variable {N:Nat} {s:CS}
def EC.cle(h:EC N s):s.c.length<=N:=ACK h.cn (λ n f=>(h.cl n f).2)
def EC.forget(h:EC N s)(n:Int):EC N (s.forget n) where
 r1:=h.r1
 r2:=h.r2
 dr:=Ta _ h.dr
 cn:=Ot _ h.cn
 ap:=λ m f hc=>h.ap m (BW.1 f).1 (BW.1 hc).1
 dl:=λ m f=>h.dl m (BW.1 f).1
 cl:=λ m f=>h.cl m (BW.1 f).1
 may:=λ m f=>h.may m (f.imp (λ e=>(BW.1 e).1) (λ e=>(BW.1 e).1))
def EC.lay(h:EC N s){n:Nat}{x:Int×List Int}(I:50<=n/\n<N)(f:BI (n:Int) x.1 x.2.length=true)(E:By x.2):EC N (s.lay n x) where
 r1:=h.r1
 r2:=h.r2
 dr:=ABp h.dr
 cn:=Ot _ h.cn
 ap:=λ m f hc=>by rcases Iw.1 f with e|e;exact(BW.1 hc).2 (by omega);exact h.ap m e (BW.1 hc).1
 dl:=λ m f=>by rcases Iw.1 f with e|e;omega;exact h.dl m e
 cl:=λ m f=>h.cl m (BW.1 f).1
 may:=λ m A=>by
  show BI (m:Int) (Bq s.B n x m).1 (Bq s.B n x m).2.length=true/\By (Bq s.B n x m).2;by_cases e:m=n;subst e;rw[Ld];grind
  .rw[JL _ _ e];refine h.may m (A.imp (λ q=>?_) (λ q=>(BW.1 q).1));rcases Iw.1 q with r|r;omega;exact r
end
