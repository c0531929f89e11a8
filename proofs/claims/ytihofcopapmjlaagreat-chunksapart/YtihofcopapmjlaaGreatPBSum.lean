import Derived.Test.YtihofcopapmjlaaGreatPFGetP
import Derived.Deep.MidRow
import Derived.Deep.WholeRow
import Derived.Test.YtihofcopapmjlaaGreatPFCat
set_option maxRecDepth 100000
set_option linter.all false
set_option maxHeartbeats 8000000
namespace Go.Proofs.YtihofcopapmjlaaGreat
open Go.Proofs.Tryz
section
open Go.RowKit
def AU{p}(h:p):Hid p:=h
def JU{b:Nat}{t:TypeId}:∀(vs:List Value)(o:Nat)(w:World)(C:Array Value),w.heap[b]?=some (.cells C t (0,0))->o+vs.length<=C.size->
 (w.setCells b o vs).heap[b]?=some (.cells (C.toList.take o++vs++C.toList.drop (o+vs.length)).toArray t (0,0))
 | [],o,w,C,h,hl=>by simp only[World.setCells,List.append_nil,List.length_nil,Nat.add_zero,zs0,Array.toArray_toList];exact h
 | v::r,o,w,C,h,hl=>by
  simp only[zh0]at hl;have f:=heap_setCell_same w b o C t v h;have q:=JU r (o+1) _ _ f (by simp;omega);rw[World.setCells,q];refine congrArg (λ l=>some (Obj.cells (List.toArray l) t (0,0))) ?_;simp only[Array.toList_setIfInBounds,zh0];rw[List.take_set,List.drop_set,if_pos (by omega)];have A:(List.take (o+1) C.toList).set o v=List.take o C.toList++[v]:=by rw[List.take_add_one,z9 (by grind)];rw[List.set_append_right _ _ (by simp;omega)];simp only[zd0,Array.length_toList,Option.toList_some];rw[Nat.min_eq_left (by omega),Nat.sub_self];rfl
  grind
def I5(b:Nat):∀(vs:List Value)(o:Nat)(w:World),AD (λ k=>k=b) w (w.setCells b o vs)
 | [],_,w=>AD.refl _ w
 | v::r,o,w=>by have f:AD (λ k=>k=b) w (w.setCell ⟨b,o,none⟩ v):=AD.setCell (AD.refl (λ k=>k=b) w) (p:=⟨b,o,none⟩) (λ _=>rfl) v;have q:=I5 b r (o+1) (w.setCell ⟨b,o,none⟩ v);exact f.trans q (λ _ _ e=>e)
def AG(xs:List Int):List Value:=xs.map (Value.int .u8)
def At(xs):(AG xs).length=xs.length:=by simp[AG]
def Nf(xs):∀v∈AG xs,v.oneCell'=true:=λ v hv=>by obtain⟨x,_,rfl⟩:=List.mem_map.1 hv;rfl
def Hy(xs):(AG xs).toArray.all (·.oneCell')=true:=all_oneCell_toArray (Nf xs)
def zz:List Int:=List.replicate 256 0
def Ei:zz.length=256:=by simp only[zz,zm0]
def Jt:By zz:=λ i=>by
 unfold zz
 grind
def XA{i}(h:i<256):zz[i]?=some 0:=by
 unfold zz
 grind
def By.set{x}(h:By x)(j){y}(f:0<=y)(q:y<=255):By (x.set j y):=λ i=>by
 rw[AP,zy0];split
 .grind
 .rw[<-AP];exact h i
section
variable {P:Program}
def Ia(w:World){r A q a Q}(I:q.guard=none)(ty x y)(L:q.op=.store ty x y)(c f)(U:a.eval x=.pointer (some ⟨w.heap.size,0,none⟩))(W:a.eval y=.agg f)(J:(P.info? ty).map (·.size)=some f.size)(T:c.size=f.size)(B:f.all (·.oneCell')=true)(h:wpList P r Q A (a.put q.dst undef) (w.alloc (.cells f ty))):wpList P r Q (q::A) a (w.alloc (.cells c ty)):=by
 refine wpList_plain I λ K E=>?_;have O:=run_storeAt_new (P:=P) w ty c f J T B;unfold Oper.wp execOp;simp only[L,U,W,Sem.run_bind,Sem.run_pure,Result.andThen_ok,O];exact E _ _ h
end
def Wb(w:World)(v:Value)(xs:List Int):Prop:=∃b cap t C,v=.slice (some ⟨b,0,none⟩) xs.length cap/\xs.length<=cap/\cap<=maxLen/\w.heap[b]?=some (.cells C t (0,0))/\C.toList.take xs.length=AG xs
section
variable {w w':World} {v:Value} {xs:List Int}
def Wb.rd(h:Wb w v xs):Rd .u8 w v xs:=by
 obtain⟨b,cap,t,C,rfl,f,q,r,A⟩:=h;refine⟨_,cap,rfl,f,q,(λ e=>by cases e),.inr ⟨b,0,rfl,λ i B=>?_⟩⟩;rw[Nat.zero_add,cell_of_row w b i C t (0,0) r];have e:(C.toList.take xs.length)[i]?=C.toList[i]?:=by grind
 rw[<-Array.getElem?_toList,<-e,A,AG,zw0,AP,z9 B];rfl
def Wb.tch{S}(h:Wb w v xs)(E:AD S w w')(B:∀j,v.ownBlock=some j->¬S j):Wb w' v xs:=by obtain⟨b,cap,t,C,rfl,q,r,f,A⟩:=h;exact⟨b,cap,t,C,rfl,q,r,by rw[E.block b (za0.1 f).1 (B b rfl)];exact f,A⟩
def Wb.below(h:Wb w v xs)(f:Below w.heap.size w w'):Wb w' v xs:=h.tch (S:=λ _=>False) (AD.of_below f) (λ _ _ e=>e)
def AID(w:World)(xs t)(h:xs.length<=maxLen):Wb (w.alloc (.cells (AG xs).toArray t)) (.slice (some ⟨w.heap.size,0,none⟩) xs.length xs.length) xs:=
 ⟨w.heap.size,xs.length,t,(AG xs).toArray,rfl,AE _,h,heap_alloc_new w _,by rw[List.toList_toArray,Cj (by rw[At];omega)]⟩
end
def Fp(rows:List (List Int)):Prop:=∀x∈rows,x.length=256/\By x
def Fp.cons{a r}(h:Fp (a::r)):Fp r:=λ x f=>h x (List.mem_cons_of_mem _ f)
def Fp.get{a}(h:Fp a){i}(f:i<a.length):(a.getD i []).length=256/\By (a.getD i []):=by rw[AP,z9 f];exact h _ (zt0 f)
def Fp.last{a}(h:Fp a)(f:a≠[])(d):(a.getLastD d).length=256/\By (a.getLastD d):=by rw[List.getLastD_eq_getLast?,List.getLast?_eq_some_getLast f];exact h _ (List.getLast_mem f)
def SQ:∀{rows:List (List Int)},Fp rows->rows.flatten.length=rows.length*256
 | [],_=>rfl
 | a::r,h=>by
  have:=SQ h.cons;have:=(h a (zl0)).1
  grind
def Od:∀{rows:List (List Int)},Fp rows->∀{i:Nat},i<rows.length->∀{j:Nat},j<256->rows.flatten[i*256+j]?=(rows.getD i [])[j]?
 | [],_,i,hi,_,_=>by simp at hi
 | a::r,h,0,_,j,hj=>by
  have:=(h a (zl0)).1
  grind
 | a::r,h,i+1,hi,j,hj=>by
  have ha:=(h a (zl0)).1;simp only[List.flatten_cons,List.getD_cons_succ];rw[zj0 (by omega),<-Od h.cons (i:=i) (by grind) hj]
  grind
def Dy(w:World)(v:Value)(rows:List (List Int)):Prop:=Fp rows/\w.ownsRow 0 188 256 v rows.length (AG rows.flatten)
section
variable {w w':World} {v:Value} {rows:List (List Int)} {b k cap:Nat}
def Dy.tch{S}(h:Dy w v rows)(q:AD S w w')(f:∀j,v.ownBlock=some j->¬S j):Dy w' v rows:=⟨h.1,q.owns h.2 f⟩
def Dy.below(h:Dy w v rows)(f:Below w.heap.size w w'):Dy w' v rows:=h.tch (S:=λ _=>False) (AD.of_below f) (λ _ _ e=>e)
def Dy.lt(h:Dy w v rows):∀j,v.ownBlock=some j->j<w.heap.size:=λ j f=>(World.ownsRow.lt h.2 j f).2
def Dy.shape(h:Dy w v rows)(q:rows≠[]):∃g cap f,v=.slice (some ⟨g,0,none⟩) rows.length cap/\w.heap[g]?=some (.cells f 188 (0,0))/\rows.length<=cap/\cap<=maxLen/\f.size=cap*256/\f.toList.take (rows.length*256)=AG rows.flatten:=by
 rcases h.2.2 with⟨_,e⟩|⟨g,cap,f,e,_,I,r,A,B,E⟩
 .grind
 grind
def Dy.blk(h:Dy w (.slice (some ⟨b,0,none⟩) k cap) rows):∃f,k=rows.length/\w.heap[b]?=some (.cells f 188 (0,0))/\rows.length<=cap/\cap<=maxLen/\f.size=cap*256/\f.toList.take (rows.length*256)=AG rows.flatten:=by
 rcases h.2.2 with⟨e,_⟩|⟨g,c,f,e,_,E,q,r,A,B⟩
 .cases e
 grind
def Dy.load(h:Dy w (.slice (some ⟨b,0,none⟩) k cap) rows){i}(q:i<rows.length):w.rangeAt b (i*256) (AG (rows.getD i [])):=λ j u r=>by
 obtain⟨f,rfl,B,J,K,L,A⟩:=h.blk;have I:=(h.1.get q).1;have E:j<256:=by have:=(List.getElem?_eq_some_iff.1 r).1;rw[At,I]at this;exact this
 rw[cell_of_row w b (i*256+j) f _ (0,0) B];have e:(f.toList.take (rows.length*256))[i*256+j]?=f.toList[i*256+j]?:=by grind
 rw[<-Array.getElem?_toList,<-e,A,AG,zw0,Od h.1 q E,<-zw0];exact r
end
theorem ABQ:(prog.info? 188).map (λ i=>(i.zero,i.size,i.bytes))=some (some (.agg (AG zz).toArray),256,256):=by kernel_rfl
theorem ABR:(prog.info? 188).map (λ i=>(i.zero,i.size))=some (some (.agg (AG zz).toArray),256):=by kernel_rfl
end
section
open Go.RowKit Pl
def Au(n:Nat)(c:Nat->Int):List Value:=(List.range n).map λ i=>.int .i64 (c i)
def Et(n c):(Au n c).length=n:=by simp[Au]
def It(n c):(Au n c).toArray.size=n:=by simp[Au]
def IB(n c):(Au n c).toArray.all (·.oneCell')=true:=by refine all_oneCell_toArray (λ v hv=>?_);simp only[Au,List.mem_map]at hv;obtain⟨i,_,rfl⟩:=hv;rfl
def JV(n c i)(h:i<n):(Au n c)[i]?=some (.int .i64 (c i)):=by simp[Au,h]
def AA8{n c d}(h:∀i,i<n->c i=d i):Au n c=Au n d:=by unfold Au;simp_all
def Bb(c:Nat->Int)(i:Nat)(v:Int)(j:Nat):Int:=if j=i then v else c j
def AA9(n c i v)(h:i<n):(Au n c).set i (.int .i64 v)=Au n (Bb c i v):=by
 apply List.ext_getElem?;intro j;rw[zy0];by_cases e:i=j;subst e;rw[if_pos rfl,if_pos (by rw[Et];exact h),JV _ _ _ h];simp[Bb]
 .rw[if_neg e];by_cases f:j<n
  .rw[JV _ _ _ f,JV _ _ _ f];simp only[Bb]
   grind
  .rw[zn0 (by rw[Et];omega),zn0 (by rw[Et];omega)]
def Iv(w:World)(g:Nat)(t:TypeId)(n:Nat)(c:Nat->Int):Prop:=w.heap[g]?=some (.cells (Au n c).toArray t (0,0))
section
variable {w:World} {g:Nat} {t:TypeId} {n:Nat} {c:Nat->Int}
def Iv.at_(h:Iv w g t n c)(i)(f:i<n):w.cell? ⟨g,i,none⟩=some (.int .i64 (c i)):=by rw[cell_of_row w g i _ _ (0,0) h];simp[Au,f]
def Iv.fz(h:Iv w g t n c)(i):w.frozen? ⟨g,i,none⟩=false:=frozen_of_row w g i _ _ h
def Iv.lt(h:Iv w g t n c):g<w.heap.size:=(za0.1 h).1
def Iv.tch{S w'}(h:Iv w g t n c)(q:AD S w w')(f:¬S g):Iv w' g t n c:=by unfold Iv;rw[q.block g h.lt f];exact h
def Iv.below{w'}(h:Iv w g t n c)(f:Below w.heap.size w w'):Iv w' g t n c:=h.tch (S:=λ _=>False) (AD.of_below f) (λ e=>e)
def Iv.set(h:Iv w g t n c)(i)(q:i<n)(v):Iv (w.setCell ⟨g,i,none⟩ (.int .i64 v)) g t n (Bb c i v):=by unfold Iv;have f:=heap_setCell_same w g i _ _ (.int .i64 v) h;rw[f,<-AA9 n c i v q];simp
def Iv.congr{d}(h:Iv w g t n c)(e:∀i,i<n->c i=d i):Iv w g t n d:=by unfold Iv;rw[<-AA8 e];exact h
def Iv.range(h:Iv w g t n c):w.rangeAt g 0 (Au n c):=λ j v hv=>by
 rw[Nat.zero_add,cell_of_row w g j _ _ (0,0) h]
 grind
def IC(w:World)(t n c):Iv (w.alloc (.cells (Au n c).toArray t)) w.heap.size t n c:=heap_alloc_new w _
end
def QW{w:World}{b C t n}(h:w.heap[b]?=some (.cells C t (0,0)))(q:C.size=n):w.there b 0 n:=λ j f=>by
 rw[Nat.zero_add];refine⟨?_,frozen_of_row w b j _ _ h⟩;rw[cell_of_row w b j _ _ (0,0) h]
 grind
def AE2{f}{p:Tmp}{ty}(h:f.results=#[.cell p ty])(q P w):
 (results f q).run P w=((asAddr (q.getD p undef)).run P w).andThen λ a r=>(loadVar ty a).run P r:=by
 simp only[results,h];simp
def Kj{f}{p:Tmp}{ty}(h:f.results=#[.cell p ty])(q P w b v)(ha:q.getD p undef=.pointer (some ⟨b,0,none⟩))(r:(loadVar ty ⟨b,0,none⟩).run P w=.ok v w):(results f q).run P w=.ok v w:=by
 rw[AE2 h,ha];simp[asAddr,Result.andThen,r]
def Mr(b:Nat):∀(vs:List Value)(o:Nat)(w:World),AD (λ k=>k=b) w (w.setCells b o vs)
 | [],_,w=>AD.refl _ w
 | v::r,o,w=>by have f:AD (λ k=>k=b) w (w.setCell ⟨b,o,none⟩ v):=AD.setCell (AD.refl (λ k=>k=b) w) (p:=⟨b,o,none⟩) (λ _=>rfl) v;have q:=Mr b r (o+1) (w.setCell ⟨b,o,none⟩ v);exact f.trans q (λ _ _ e=>e)
section
variable {P:Program}
def JA(w:World){r A q a Q}(I:q.guard=none)(ty x y)(L:q.op=.store ty x y)(c f)(U:a.eval x=.pointer (some ⟨w.heap.size,0,none⟩))(W:a.eval y=.agg f)(J:(P.info? ty).map (·.size)=some f.size)(T:c.size=f.size)(B:f.all (·.oneCell')=true)(h:wpList P r Q A (a.put q.dst undef) (w.alloc (.cells f ty))):wpList P r Q (q::A) a (w.alloc (.cells c ty)):=by
 refine wpList_plain I λ K E=>?_;have O:=run_storeAt_new (P:=P) w ty c f J T B;unfold Oper.wp execOp;simp only[L,U,W,Sem.run_bind,Sem.run_pure,Result.andThen_ok,O];exact E _ _ h
end
theorem MR:(prog.info? 343).map (λ i=>(i.zero,i.size))=some (some (.agg (Au 1536 (λ _=>0)).toArray),1536):=by kernel_rfl
theorem TJ:(prog.info? 320).map (λ i=>(i.zero,i.size))=some (some (.agg (Au 64 (λ _=>0)).toArray),64):=by kernel_rfl
theorem TL:(prog.info? 323).map (λ i=>(i.zero,i.size))=some (some (.agg (Au 576 (λ _=>0)).toArray),576):=by kernel_rfl
def AGA(g z:Nat)(A:z<=512)(w):(Instr.sliceAt 343 (.pointer (some ⟨g,0,none⟩)) none (some (.int .i64 (z:Int))) none).run prog w=.ok (.slice (some ⟨g,0,none⟩) z 512) w:=by
 have f:prog.arrayLen 343=512:=by kernel_rfl
 have q:prog.elem 343=341:=by kernel_rfl
 have r:prog.underlying 343=some (.array (prog.arrayLen 343) (prog.elem 343)):=by rw[f,q];exact underlying343
 rw[run_sliceAt_array_h w 343 _ r .i64 z (by omega) (by rw[f];omega),f,q];simp[slicedAt,go_sem]
def tc(f:Nat->Nat)(L z j i:Nat):Int:=if i % 3=0/\i / 3<z then(tj f L z j (i / 3):Int)else 0
def AHb(f L z i):tc f L z 0 i=0:=by unfold tc;rw[AHe];omega
def AHZ(f L z j p)(q:p<z):tc f L z j (p*3)=(tj f L z j p:Int):=by unfold tc;grind
def AHc{z}(E:FI z)(f L j k)(A:j<z)(B:k<L)(q:cu f k<=j)(r:j<cu f (k+1))(i):
 Bb (tc f L z j) ((j*DN z) % z*3) (k:Int) i=tc f L z (j+1) i:=by
 unfold Bb tc;have I:(j*DN z) % z<z:=Nat.mod_lt _ (by omega);by_cases e:i=(j*DN z) % z*3;rw[if_pos e,if_pos ⟨by omega,by omega⟩,WJ E f L j (i / 3) k A (by omega) B q r,if_pos (by omega)];rw[if_neg e];by_cases c:i % 3=0/\i / 3<z;rw[if_pos c,if_pos c,WJ E f L j (i / 3) k A c.2 B q r,if_neg (by omega)];omega
def Xd(j st z):((j*st) % z+st) % z=((j+1)*st) % z:=by rw[Nat.add_mod,Nat.mod_mod,<-Nat.add_mod,Nat.succ_mul]
def Va(v s)(lg z:Nat)(w)(hr:Rd .i64 w v s)(E:Ca s lg)(W:2 ^ lg=z):
 Calls prog 252 #[v,.int .i64 z] w λ e w'=>e=.returned (.agg (Au 1536 (tc (nn s) s.length z z)).toArray)/\Below w.heap.size w w':=by
 obtain⟨a,cap,rfl,an,ai,_,a5⟩:=hr;have HC:=z6 a5;have Y:=z6 E;have HZ:=z6 W;have a4:Hid (FI z):=by show FI z;rw[<-W];exact E.fok.zok
 have au:=a4.o.pos;have ao:=E.len;have HS:Hid (cu (nn s) s.length=z):=by show _=_;rw[E.fok.sum,W]
 obtain⟨a7,a6⟩:=zero_of_info MR;have X:=z6 a6;obtain⟨st,a3⟩:=exH (DN z);have aq:(z:Int) / 2+(z:Int) / 8+3=(st:Int):=by rw[<-a3.o];unfold DN;omega
 have ar:0<st/\st<=400:=by rw[<-a3.o];unfold DN;omega
 clear a5 a6 E W;obtain⟨Z,hZ⟩:=exH ((Au 1536 (λ _=>0)).toArray);rw[hZ.o]at a7;obtain⟨F,hF⟩:=exH (Au 1536 (tc (nn s) s.length z z));rw[hF.o]
 go_enter func252,ntmps252
 go_wp2_with fail;obtain⟨g,hg⟩:=exN (w.heap.size+1);have C0:Hid (Iv ((w.alloc (.cells Z 343)).alloc (.cells Z 343)) g 343 1536 (tc (nn s) s.length z 0)):=by have J:=IC (w.alloc (.cells Z 343)) 343 1536 (λ _=>0);rw[hZ.o]at J;rw[<-hg];have q:=J.congr (d:=tc (nn s) s.length z 0) (λ i _=>(AHb _ _ _ i).symm);rw[World.size_alloc]at q;exact q
 have I:Hid (Below w.heap.size w ((w.alloc (.cells Z 343)).alloc (.cells Z 343))):=((Below.refl _ _).alloc (AE _) _).alloc (by simp) _;have R0:Hid (((w.alloc (.cells Z 343)).alloc (.cells Z 343)).heap[w.heap.size]?=some (.cells Z 343 (0,0))):=by show _=_;rw[Below.heap_alloc _ _ _ (by simp)];exact heap_alloc_new w _
 have ac:Hid (Z.size=1536):=by show _=_;rw[<-hZ.o,It]
 obtain⟨W0,ae⟩:=exH ((w.alloc (.cells Z 343)).alloc (.cells Z 343));rw[ae.o]at C0 I R0 |-
 clear a7;rw[hg]
 go_loopw [7,18] (λ x i wr=>∃(k A:Nat),k<=s.length/\i=.int .i64 k/\x=.int .i64 A/\A<z/\Hid (A=(cu (nn s) k*st) % z)/\Hid (Iv wr g 343 1536 (tc (nn s) s.length z (cu (nn s) k)))/\Hid (AD (λ k=>k=g) W0 wr)) (λ _ i _=>s.length-(intOf i).toNat)
 case atStart=>exact⟨0,0,AI _,rfl,rfl,by omega,by show _=_;simp[cu],C0,AD.refl _ _⟩
 case round=>
  obtain⟨k,A,E,rfl,rfl,O,r,f,T⟩:=hrel;by_cases U:k<s.length
  .obtain⟨K,L,ha,hc⟩:∃b o,a=some ⟨b,o,none⟩/\∀i,i<s.length->w.cell? ⟨b,o+i,none⟩=some (.int .i64 (s.getD i 0)):=by rcases HC.o with rfl|h;simp at U;exact h
   subst ha;obtain⟨m,hm⟩:=exH (nn s k);have cx:wr.cell? ⟨K,L+k,none⟩=some (.int .i64 (m:Int)):=by have J:=hc k U;have a2:=zb0 w ⟨K,L+k,none⟩ J;have q:=I.o.cell (p:=⟨K,L+k,none⟩) a2;rw[T.o.cell (p:=⟨K,L+k,none⟩) (by have:=I.o.size;simp only at a2 |-;omega) (λ e=>by simp only at a2 e;omega),q,J,(Y.o.le k).1,hm.o]
   (have ap:m<=512:=by have q:=(Y.o.le k).2;have h2:=Y.o.z;rw[hm.o]at q;omega);(have HM:Hid (cu (nn s) (k+1)=cu (nn s) k+m):=by show _=_;simp only[cu];rw[hm.o]);(have a9:Hid (cu (nn s) k+m<=z):=by show _<=_;rw[<-HM.o,<-HS.o];exact Fc _ U);clear hc;go_wp2_with fail
   go_loopw [7,24] (λ x i wr=>∃(j A:Nat),j<=m/\i=.int .i64 j/\x=.int .i64 A/\A<z/\Hid (A=((cu (nn s) k+j)*st) % z)/\Hid (Iv wr g 343 1536 (tc (nn s) s.length z (cu (nn s) k+j)))/\Hid (AD (λ k=>k=g) W0 wr)) (λ _ i _=>m-(intOf i).toNat)
   (case atStart=>exact⟨0,A,AI _,rfl,rfl,O,r,f,T⟩);case round=>
    clear cx r f T O;obtain⟨j,A,hj,rfl,rfl,O,r,f,T⟩:=hrel;by_cases am:j<m
    .have c0:=f.o.at_ (A*3) (by omega);have f0:=f.o.fz (A*3);have a8:Hid (Iv (wr.setCell ⟨g,A*3,none⟩ (.int .i64 (k:Int))) g 343 1536 (tc (nn s) s.length z (cu (nn s) k+(j+1)))):=by refine(f.o.set (A*3) (by omega) (k:Int)).congr (λ i _=>?_);have:=AHc a4.o (nn s) s.length (cu (nn s) k+j) k (by have:=a9.o;omega) U (by omega) (by rw[HM.o];omega) i;rw[a3.o,<-r.o]at this;exact this
     have T2:Hid (AD (λ k=>k=g) W0 (wr.setCell ⟨g,A*3,none⟩ (.int .i64 (k:Int)))):=AD.setCell T.o (p:=⟨g,A*3,none⟩) (λ _=>rfl) _;obtain⟨B,hB⟩:=exH ((A+st) % z);(have ad:B<z:=by rw[<-hB.o];exact Nat.mod_lt _ (by omega));(have HB:Hid (B=((cu (nn s) k+(j+1))*st) % z):=by show _=_;rw[<-hB.o,r.o,Xd];rfl);(have ag:((A:Int)+(st:Int)) % (z:Int)=(B:Int):=by rw[<-hB.o];push_cast;rfl);(have aj:(0:Int)<=(A:Int):=by omega);(have ak:(A:Int)<512:=by omega);(have al:(A:Int)<=511:=by omega);clear r f T;go_wp2_with fail
     go_roundw
     (case rel=>exact⟨j+1,B,by omega,by go_num,by first|rfl|go_num,ad,HB,a8,T2⟩);case measure=>simp[intOf];omega
    .obtain rfl:j=m:=by omega
     rw[<-HM.o]at r f;go_wp2_with fail
     go_roundw
     (case rel=>exact⟨k+1,A,by omega,by go_num,rfl,O,r,f,T⟩);case measure=>simp[intOf];omega
  .obtain rfl:k=s.length:=by omega
   rw[HS.o]at f;have RR:Hid (wr.there w.heap.size 0 1536):=by refine QW (C:=Z) (t:=343) ?_ ac.o;rw[T.o.block w.heap.size (za0.1 R0.o).1 (λ e=>by omega)];exact R0.o
   (have ab:Hid (wr.rangeAt g 0 F):=by rw[<-hF.o];exact f.o.range);(have a0:Hid (F.length=1536):=by show _=_;rw[<-hF.o,Et]);(have a1:Hid (F.toArray.size=1536):=by show _=_;rw[List.size_toArray];exact a0.o);(have aa:Hid (F.toArray.all (·.oneCell')=true):=by show _=_;rw[<-hF.o];exact IB _ _);go_wp2_with(first|(refine wpList_load_mid rfl 343 (.tmp 5) rfl g 0 rfl F _ ab.o underlying343 rfl (by rw[a0.o];exact X.o) ?_)|(refine wpList_store_mid rfl 343 (.tmp 4) (.tmp 37) rfl w.heap.size 0 F.toArray rfl rfl (by rw[a1.o];exact RR.o) (by rw[a1.o];exact X.o) aa.o ?_))
   have af:=run_loadVar_mid (P:=prog) (wr.setCells w.heap.size 0 F.toArray.toList) w.heap.size 0 343 F _ (by
    have:=World.rangeAt_setCells_same wr w.heap.size 0 F.toArray.toList (by rw[Array.length_toList,a1.o];exact RR.o);simpa using this) underlying343 rfl (by rw[a0.o];exact X.o)
   refine bodyPost_ret (v:=.agg F.toArray) ?_ rfl ⟨rfl,?_⟩;exact Kj (p:=4) (ty:=343) rfl _ _ _ w.heap.size _ rfl af;have q:=I.o.trans (T.o.below I.o.size (λ k e=>by rw[e,<-hg];omega));exact q.trans ((Mr w.heap.size _ 0 wr).below q.size (λ k e=>by rw[e];exact AE _))
def fs(f:Nat->Nat)(k i:Nat):Int:=if i<k then(cu f i:Int)else 0
def sp(f:Nat->Nat)(L z p i:Nat):Int:=if i<64 then fs f L i else(pl f L z p (i-64):Int)
def Hg(f:Nat->Nat)(L z p i:Nat):Int:=if i<L then((cu f i+ah f L z i p:Nat):Int)else 0
def AAK(f k i):Bb (fs f k) k (cu f k:Int) i=fs f (k+1) i:=by
 unfold Bb fs
 grind
def AGH(f L z i)(q:L<=64):fs f L i=sp f L z 0 i:=by unfold sp;split;rfl;unfold fs;rw[if_neg (by omega)];rfl
def AGI(f L z p i):Bb (sp f L z p) (64+ix f L z p) (p:Int) i=sp f L z (p+1) i:=by
 unfold Bb sp;by_cases e:i=64+ix f L z p
 .rw[if_pos e,if_neg (by omega)];simp only[pl]
  grind
 .rw[if_neg e];by_cases c:i<64;omega
  .rw[if_neg c,if_neg c];simp only[pl]
   grind
def ADc(f L z i):fs f L i=Hg f L z 0 i:=by unfold Hg fs;simp[ah]
def ADb{f L z}(h:BS f L z)(p):Hg f L z p (tb f L z p)=(ix f L z p:Int):=by unfold Hg;rw[if_pos (h.tb_lt p)];rfl
def ADd{f L z}(h:BS f L z)(p i):Bb (Hg f L z p) (tb f L z p) ((ix f L z p:Int)+1) i=Hg f L z (p+1) i:=by
 have q:=h.tb_lt p;unfold Bb Hg;by_cases e:i=tb f L z p;subst e;rw[if_pos rfl,if_pos q];simp only[ah,if_true,ix];omega
 .rw[if_neg e];by_cases c:i<L
  .rw[if_pos c,if_pos c];simp only[ah]
   grind
  omega
structure Gz(W0 wr:World)(gs gn gt:Nat)(f:Nat->Nat)(L z p:Nat):Prop where
 s:Iv wr gs 323 576 (sp f L z p)
 n:Iv wr gn 320 64 (Hg f L z p)
 t:Iv wr gt 343 1536 (tc f L z z)
 ne:gs≠gn/\gs≠gt/\gn≠gt
 tch:AD (λ k=>k=gs\/k=gn) W0 wr
def Gz.alloc{r wr B A E f L z p}(h:Gz r wr B A E f L z p)(o):Gz r (wr.alloc o) B A E f L z p:=by have q:Below wr.heap.size wr (wr.alloc o):=(Below.refl _ _).alloc (AE _) _;exact⟨h.s.below q,h.n.below q,h.t.below q,h.ne,h.tch.alloc o⟩
def Gz.step{E wr q r I f L z p}(h:Gz E wr q r I f L z p)(A:BS f L z)(O:L<=64)(J:p<z):
 Gz E ((wr.setCell ⟨q,64+ix f L z p,none⟩ (.int .i64 (p:Int))).setCell ⟨r,tb f L z p,none⟩ (.int .i64 ((ix f L z p:Int)+1))) q r I f L z (p+1):=by
 have W:=A.zok.pos;have T:=A.ix_lt J;have U:=A.tb_lt p;have s1:=h.s.set (64+ix f L z p) (by omega) (p:Int);have B:AD (λ k=>k=q) wr (wr.setCell ⟨q,64+ix f L z p,none⟩ (.int .i64 (p:Int))):=AD.setCell (AD.refl (λ k=>k=q) wr) (p:=⟨q,64+ix f L z p,none⟩) (λ _=>rfl) _;have t2:AD (λ k=>k=r) (wr.setCell ⟨q,64+ix f L z p,none⟩ (.int .i64 (p:Int))) ((wr.setCell ⟨q,64+ix f L z p,none⟩ (.int .i64 (p:Int))).setCell ⟨r,tb f L z p,none⟩ (.int .i64 ((ix f L z p:Int)+1))):=
  AD.setCell (AD.refl (λ k=>k=r) _) (p:=⟨r,tb f L z p,none⟩) (λ _=>rfl) _
 have K:=(h.n.tch B (λ e=>h.ne.1 e.symm)).set (tb f L z p) (by omega) ((ix f L z p:Int)+1);refine⟨(s1.tch t2 h.ne.1).congr (λ i _=>AGI f L z p i),K.congr (λ i _=>ADd A p i),(h.t.tch B (λ e=>h.ne.2.1 e.symm)).tch t2 (λ e=>h.ne.2.2 e.symm),h.ne,?_⟩;exact(h.tch.trans B (λ _ _ e=>.inl e)).trans t2 (λ _ _ e=>.inr e)
def AGO(v s)(lg z:Nat)(w)(hr:Rd .i64 w v s)(hk:Ca s lg)(hz:2 ^ lg=z):
 Calls prog 229 #[v,.int .i64 z] w λ e w'=>e=.returned (.agg (Au 576 (sp (nn s) s.length z z)).toArray)/\Below w.heap.size w w':=by
 have HR:=z6 hr;obtain⟨a,cap,rfl,c2,bm,_,aq⟩:=hr;have HC:=z6 aq;have HK:=z6 hk;have HZ:=z6 hz;have U:Hid (BS (nn s) s.length z):=by show BS _ _ _;rw[<-hz];exact hk.fok
 have c7:=U.o.zok.pos;have aw:=hk.len;obtain⟨a1,av⟩:=zero_of_info MR;have az:=z6 av;obtain⟨a0,ar⟩:=zero_of_info TJ;have ai:=z6 ar;obtain⟨ax,au⟩:=zero_of_info TL;have a8:=z6 au;clear aq av ar au hk hz;obtain⟨ZT,ap⟩:=exH ((Au 1536 (λ _=>0)).toArray);obtain⟨ZN,an⟩:=exH ((Au 64 (λ _=>0)).toArray);obtain⟨r,ac⟩:=exH ((Au 576 (λ _=>0)).toArray);rw[ap.o]at a1;rw[an.o]at a0;rw[ac.o]at ax;have b6:=z6 a1;have b5:=z6 a0;have b9:Hid (ZT.size=1536):=by show _=_;rw[<-ap.o,It]
 have b7:Hid (ZN.size=64):=by show _=_;rw[<-an.o,It]
 have b8:Hid (r.size=576):=by show _=_;rw[<-ac.o,It]
 clear a1 a0;obtain⟨F,hF⟩:=exH (Au 576 (sp (nn s) s.length z z));rw[hF.o]
 go_enter func229,ntmps229
 go_wp2_with fail;obtain⟨g,hg⟩:=exN (w.heap.size+1);have C0:Hid (Iv ((w.alloc (.cells r 323)).alloc (.cells r 323)) g 323 576 (fs (nn s) 0)):=by have h0:=IC (w.alloc (.cells r 323)) 323 576 (λ _=>0);rw[ac.o]at h0;rw[<-hg];have E:=h0.congr (d:=fs (nn s) 0) (λ i _=>by simp[fs]);rw[World.size_alloc]at E;exact E
 have X:Hid (Below w.heap.size w ((w.alloc (.cells r 323)).alloc (.cells r 323))):=((Below.refl _ _).alloc (AE _) _).alloc (by simp) _;have R0:Hid (((w.alloc (.cells r 323)).alloc (.cells r 323)).heap[w.heap.size]?=some (.cells r 323 (0,0))):=by show _=_;rw[Below.heap_alloc _ _ _ (by simp)];exact heap_alloc_new w _
 obtain⟨W0,bc⟩:=exH ((w.alloc (.cells r 323)).alloc (.cells r 323));rw[bc.o]at C0 X R0 |-
 clear ax;rw[hg]
 go_loopw [6,15] (λ x i wr=>∃(k A:Nat),k<=s.length/\i=.int .i64 k/\x=.int .i64 A/\A<=512/\Hid (A=cu (nn s) k)/\Hid (Iv wr g 323 576 (fs (nn s) k))/\Hid (AD (λ k=>k=g) W0 wr)) (λ _ i _=>s.length-(intOf i).toNat)
 case atStart=>exact⟨0,0,AI _,rfl,rfl,by omega,rfl,C0,AD.refl _ _⟩
 case round=>
  obtain⟨k,A,hk,rfl,rfl,hA,HA,L,T⟩:=hrel;by_cases O:k<s.length
  .obtain⟨ab,ao,ha,hc⟩:∃b o,a=some ⟨b,o,none⟩/\∀i,i<s.length->w.cell? ⟨b,o+i,none⟩=some (.int .i64 (s.getD i 0)):=by rcases HC.o with rfl|h;simp at O;exact h
   subst ha;obtain⟨m,hm⟩:=exH (nn s k);have cx:wr.cell? ⟨ab,ao+k,none⟩=some (.int .i64 (m:Int)):=by have h0:=hc k O;have ag:=zb0 w ⟨ab,ao+k,none⟩ h0;have E:=X.o.cell (p:=⟨ab,ao+k,none⟩) ag;rw[T.o.cell (p:=⟨ab,ao+k,none⟩) (by have:=X.o.size;simp only at ag |-;omega) (λ e=>by simp only at ag e;omega),E,h0,(HK.o.le k).1,hm.o]
   (have HM:Hid (A+m=cu (nn s) (k+1)):=by show _=_;simp only[cu];rw[hm.o,HA.o]);have bb:A+m<=512:=by have E:=Fc (nn s) (show k+1<=s.length from O);have h2:=U.o.sum;rw[<-HM.o]at E;omega
   (have c0:=L.o.at_ k (by omega);have f0:=L.o.fz k;have ay:Hid (Iv (wr.setCell ⟨g,k,none⟩ (.int .i64 (A:Int))) g 323 576 (fs (nn s) (k+1))):=by refine(L.o.set k (by omega) (A:Int)).congr (λ i _=>?_);rw[HA.o];exact AAK _ _ _);have T2:Hid (AD (λ k=>k=g) W0 (wr.setCell ⟨g,k,none⟩ (.int .i64 (A:Int)))):=AD.setCell T.o (p:=⟨g,k,none⟩) (λ _=>rfl) _;(have be:(0:Int)<=(k:Int):=by omega);(have bf:(k:Int)<64:=by omega);(have bg:(k:Int)<=63:=by omega);clear hc L T;go_wp2_with fail
   go_roundw
   (case rel=>exact⟨k+1,A+m,by omega,by go_num,by go_num,bb,HM,ay,T2⟩);case measure=>simp[intOf];omega
  .obtain rfl:k=s.length:=by omega
   clear HA;obtain⟨J,a4⟩:=exH (Au 64 (fs (nn s) s.length));have a3:Hid (wr.rangeAt g 0 J):=by rw[<-a4.o];intro j x hx;(have hj:j<64:=by have:=(List.getElem?_eq_some_iff.1 hx).1;rw[Et]at this;exact this);rw[JV _ _ _ hj]at hx;rw[Nat.zero_add,L.o.at_ j (by omega)];exact hx
   (have aj:Hid (J.length=64):=by show _=_;rw[<-a4.o,Et]);(have ak:Hid (J.toArray.size=64):=by show _=_;rw[List.size_toArray];exact aj.o);(have b0:Hid (J.toArray.all (·.oneCell')=true):=by show _=_;rw[<-a4.o];exact IB _ _);have a0:=b5.o;go_wp2_with(first|(refine wpList_load_mid rfl 320 (.tmp 28) rfl g 0 rfl J _ a3.o underlying320 rfl (by rw[aj.o];exact ai.o) ?_)|(refine JA wr rfl 320 (.tmp 9) (.tmp 29) rfl ZN J.toArray rfl rfl (by rw[ak.o];exact ai.o) (by rw[ak.o,b7.o]) b0.o ?_))
   (clear a0;have a6:=z6 (X.o.trans (T.o.below X.o.size (λ k e=>by rw[e,<-hg];omega)));have a2:Hid (Below w.heap.size w (wr.alloc (.cells J.toArray 320))):=a6.o.alloc a6.o.size _;have NV:Hid (Iv (wr.alloc (.cells J.toArray 320)) wr.heap.size 320 64 (Hg (nn s) s.length z 0)):=by have h:=IC wr 320 64 (fs (nn s) s.length);rw[a4.o]at h;exact h.congr (λ i _=>ADc _ _ _ i));have SV:Hid (Iv (wr.alloc (.cells J.toArray 320)) g 323 576 (sp (nn s) s.length z 0)):=
    (L.o.below ((Below.refl _ _).alloc (AE _) _)).congr (λ i _=>AGH _ _ _ i aw)
   have bd:=L.o.lt;refine(Va _ s lg z _ (HR.o.below a2.o) HK.o HZ.o).mono ?_;rintro e B ⟨rfl,ad⟩;have Y:=z6 ad;(have bj:wr.heap.size<B.heap.size:=by have:=ad.size;simp at this;omega);clear ad;obtain⟨K,a5⟩:=exH (Au 1536 (tc (nn s) s.length z z));(have al:Hid (K.toArray.size=1536):=by show _=_;rw[List.size_toArray,<-a5.o,Et]);(have b4:Hid (K.toArray.all (·.oneCell')=true):=by show _=_;rw[<-a5.o];exact IB _ _);rw[a5.o];have a1:=b6.o;go_wp2_with(refine JA B rfl 343 (.tmp 10) (.tmp 32) rfl ZT K.toArray rfl rfl (by rw[al.o];exact az.o) (by rw[al.o,b9.o]) b4.o ?_)
   (clear a1;have S0:Hid (Gz (B.alloc (.cells K.toArray 343)) (B.alloc (.cells K.toArray 343)) g wr.heap.size B.heap.size (nn s) s.length z 0):=by have hb:Below B.heap.size B (B.alloc (.cells K.toArray 343)):=(Below.refl _ _).alloc (AE _) _;have ht:=IC B 343 1536 (tc (nn s) s.length z z);rw[a5.o]at ht;exact⟨(SV.o.below Y.o).below hb,(NV.o.below Y.o).below hb,ht,⟨by omega,by omega,by omega⟩,AD.refl _ _⟩);have a7:Hid (Below w.heap.size w (B.alloc (.cells K.toArray 343))):=by have E:=a2.o.trans (Y.o.mono a2.o.size);exact E.alloc E.size _
   (have R3:Hid ((B.alloc (.cells K.toArray 343)).heap[w.heap.size]?=some (.cells r 323 (0,0))):=by show _=_;have bi:=(za0.1 R0.o).1;rw[Below.heap_alloc _ _ _ (by omega),Y.o.block w.heap.size (by simp;omega),Below.heap_alloc _ _ _ (by omega),T.o.block w.heap.size bi (λ e=>by omega)];exact R0.o);obtain⟨Z,ae⟩:=exN wr.heap.size;obtain⟨W,af⟩:=exN B.heap.size;obtain⟨W3,am⟩:=exH (B.alloc (.cells K.toArray 343));(have c6:w.heap.size<Z:=by omega);rw[am.o,ae,af]at S0;rw[am.o]at a7 R3 |-
   rw[ae,af];clear SV NV L T Y a6 a2 ae af bj bd a3;(have c9:(0:Int)<=(z:Int):=by omega);(have ca:(z:Int)<=512:=by omega);go_wp2_with fail;rw[AGA W z (by omega)];go_wp2_with fail
   go_loopw [36] (λ i wr=>∃p:Nat,p<=z/\i=.int .i64 p/\Hid (Gz W3 wr g Z W (nn s) s.length z p)) (λ i _=>z-(intOf i).toNat)
   (case atStart=>exact⟨0,AI _,rfl,S0⟩);case round=>
    clear S0;obtain⟨p,hp,rfl,f⟩:=hrel;by_cases O:p<z
    .have ba:=λ o=>f.o.alloc o;obtain⟨q,hq⟩:=exH (tb (nn s) s.length z p);obtain⟨I,hI⟩:=exH (ix (nn s) s.length z p);(have c5:q<s.length:=by rw[<-hq.o];exact U.o.tb_lt p);(have bk:I<z:=by rw[<-hI.o];exact U.o.ix_lt O);have t0:wr.cell? ⟨W,p*3,none⟩=some (.int .i64 (q:Int)):=by rw[f.o.t.at_ (p*3) (by omega),AHZ _ _ _ _ _ O,WI _ _ _ _ (by omega),hq.o]
     (have t1:wr.cell? ⟨W,p*3+1,none⟩=some (.int .i64 0):=by rw[f.o.t.at_ (p*3+1) (by omega)];unfold tc;rw[if_neg (by omega)]);(have t2:wr.cell? ⟨W,p*3+2,none⟩=some (.int .i64 0):=by rw[f.o.t.at_ (p*3+2) (by omega)];unfold tc;rw[if_neg (by omega)]);have bp:=f.o.t.lt;have bn:=f.o.n.lt;have bo:=f.o.s.lt;have c4:=f.o.ne;have n0:wr.cell? ⟨Z,q,none⟩=some (.int .i64 (I:Int)):=by rw[f.o.n.at_ q (by omega),<-hq.o,ADb U.o p,hI.o]
     have n1:=f.o.n.fz q;obtain⟨y,hy⟩:=exH (sp (nn s) s.length z p (64+I));(have s0:wr.cell? ⟨g,64+I,none⟩=some (.int .i64 y):=by rw[f.o.s.at_ (64+I) (by omega),hy.o]);have s1:=f.o.s.fz (64+I);have b3:Hid (∀o,Gz W3 (((wr.setCell ⟨g,64+I,none⟩ (.int .i64 (p:Int))).setCell ⟨Z,q,none⟩ (.int .i64 ((I:Int)+1))).alloc o) g Z W (nn s) s.length z (p+1)):=λ o=>by have h:=f.o.step U.o aw O;rw[hq.o,hI.o]at h;exact h.alloc o
     (have be:(0:Int)<=(p:Int):=by omega);(have bf:(p:Int)<512:=by omega);(have bg:(p:Int)<=511:=by omega);(have bq:(0:Int)<=(q:Int):=by omega);(have br:(q:Int)<64:=by omega);(have bu:(q:Int)<=63:=by omega);(have bw:(0:Int)<=(I:Int):=by omega);(have bx:(I:Int)<512:=by omega);(have bz:(I:Int)<=511:=by omega);clear ba f;go_wp2_with fail
     go_roundw
     (case rel=>exact⟨p+1,by omega,by go_num,b3.o _⟩);case measure=>simp[intOf];omega
    .obtain rfl:p=z:=by omega
     have RR:Hid (wr.there w.heap.size 0 576):=by refine QW (C:=r) (t:=323) ?_ b8.o;rw[f.o.tch.block w.heap.size (za0.1 R3.o).1 (λ e=>by rcases e with e|e<;>omega)];exact R3.o
     (have a3:Hid (wr.rangeAt g 0 F):=by rw[<-hF.o];exact f.o.s.range);(have a9:Hid (F.length=576):=by show _=_;rw[<-hF.o,Et]);(have aa:Hid (F.toArray.size=576):=by show _=_;rw[List.size_toArray];exact a9.o);(have b2:Hid (F.toArray.all (·.oneCell')=true):=by show _=_;rw[<-hF.o];exact IB _ _);go_wp2_with(first|(refine wpList_load_mid rfl 323 (.tmp 5) rfl g 0 rfl F _ a3.o underlying323 rfl (by rw[a9.o];exact a8.o) ?_)|(refine wpList_store_mid rfl 323 (.tmp 4) (.tmp 55) rfl w.heap.size 0 F.toArray rfl rfl (by rw[aa.o];exact RR.o) (by rw[aa.o];exact a8.o) b2.o ?_))
     have bh:=run_loadVar_mid (P:=prog) (wr.setCells w.heap.size 0 F.toArray.toList) w.heap.size 0 323 F _ (by
      have:=World.rangeAt_setCells_same wr w.heap.size 0 F.toArray.toList (by rw[Array.length_toList,aa.o];exact RR.o);simpa using this) underlying323 rfl (by rw[a9.o];exact a8.o)
     refine bodyPost_ret (v:=.agg F.toArray) ?_ rfl ⟨rfl,?_⟩;exact Kj (p:=4) (ty:=323) rfl _ _ _ w.heap.size _ rfl bh;have E:=a7.o.trans (f.o.tch.below a7.o.size (λ k e=>by rcases e with e|e<;>omega));exact E.trans ((Mr w.heap.size _ 0 wr).below E.size (λ k e=>by rw[e];exact AE _))
def Ag(k:IntKind)(n:Nat)(c:Nat->Nat):List Value:=(List.range n).map λ i=>.int k (c i:Int)
section
variable (k:IntKind)
def GO(n c):(Ag k n c).length=n:=by simp[Ag]
def Gu(n c):(Ag k n c).toArray.size=n:=by simp[Ag]
def IZ(n c):(Ag k n c).toArray.all (·.oneCell')=true:=by refine all_oneCell_toArray (λ v hv=>?_);simp only[Ag,List.mem_map]at hv;obtain⟨i,_,rfl⟩:=hv;rfl
def Jp(n c i)(h:i<n):(Ag k n c)[i]?=some (.int k (c i:Int)):=by simp[Ag,h]
def AHl{n c d}(h:∀i,i<n->c i=d i):Ag k n c=Ag k n d:=by unfold Ag;simp_all
end
def Fm(c:Nat->Nat)(i:Nat)(v:Nat)(j:Nat):Nat:=if j=i then v else c j
def AHm(k n c i)(v:Nat)(h:i<n):(Ag k n c).set i (.int k (v:Int))=Ag k n (Fm c i v):=by
 apply List.ext_getElem?;intro j;rw[zy0];by_cases e:i=j;subst e;rw[if_pos rfl,if_pos (by rw[GO];exact h),Jp _ _ _ _ h];simp[Fm]
 .rw[if_neg e];by_cases f:j<n
  .rw[Jp _ _ _ _ f,Jp _ _ _ _ f];simp only[Fm]
   grind
  .rw[zn0 (by rw[GO];omega),zn0 (by rw[GO];omega)]
def Uv(k:IntKind)(w:World)(g:Nat)(t:TypeId)(n:Nat)(c:Nat->Nat):Prop:=w.heap[g]?=some (.cells (Ag k n c).toArray t (0,0))
section
variable {k:IntKind} {w:World} {g:Nat} {t:TypeId} {n:Nat} {c:Nat->Nat}
def Uv.at_(h:Uv k w g t n c)(i)(f:i<n):w.cell? ⟨g,i,none⟩=some (.int k (c i:Int)):=by rw[cell_of_row w g i _ _ (0,0) h];simp[Ag,f]
def Uv.fz(h:Uv k w g t n c)(i):w.frozen? ⟨g,i,none⟩=false:=frozen_of_row w g i _ _ h
def Uv.lt(h:Uv k w g t n c):g<w.heap.size:=(za0.1 h).1
def Uv.tch{S w'}(h:Uv k w g t n c)(q:AD S w w')(f:¬S g):Uv k w' g t n c:=by unfold Uv;rw[q.block g h.lt f];exact h
def Uv.below{w'}(h:Uv k w g t n c)(f:Below w.heap.size w w'):Uv k w' g t n c:=h.tch (S:=λ _=>False) (AD.of_below f) (λ e=>e)
def Uv.set(h:Uv k w g t n c)(i)(q:i<n)(v:Nat):Uv k (w.setCell ⟨g,i,none⟩ (.int k (v:Int))) g t n (Fm c i v):=by unfold Uv;have f:=heap_setCell_same w g i _ _ (.int k (v:Int)) h;rw[f,<-AHm k n c i v q];simp
def Uv.congr{d}(h:Uv k w g t n c)(e:∀i,i<n->c i=d i):Uv k w g t n d:=by unfold Uv;rw[<-AHl k e];exact h
def Uv.range(h:Uv k w g t n c):w.rangeAt g 0 (Ag k n c):=λ j v hv=>by
 rw[Nat.zero_add,cell_of_row w g j _ _ (0,0) h]
 grind
def Fn(k)(w:World)(t n c):Uv k (w.alloc (.cells (Ag k n c).toArray t)) w.heap.size t n c:=heap_alloc_new w _
def Uv.there(h:Uv k w g t n c):w.there g 0 n:=λ j f=>by rw[Nat.zero_add];refine⟨?_,frozen_of_row w g j _ _ h⟩;rw[cell_of_row w g j _ _ (0,0) h];simp[Ag,f]
end
def AE4{f}{p:Tmp}{ty}(h:f.results=#[.cell p ty])(q P w):
 (results f q).run P w=((asAddr (q.getD p undef)).run P w).andThen λ a r=>(loadVar ty a).run P r:=by
 simp only[results,h];simp
def Kl{f}{p:Tmp}{ty}(h:f.results=#[.cell p ty])(q P w b v)(ha:q.getD p undef=.pointer (some ⟨b,0,none⟩))(r:(loadVar ty ⟨b,0,none⟩).run P w=.ok v w):(results f q).run P w=.ok v w:=by
 rw[AE4 h,ha];simp[asAddr,Result.andThen,r]
def Mt(b:Nat):∀(vs:List Value)(o:Nat)(w:World),AD (λ k=>k=b) w (w.setCells b o vs)
 | [],_,w=>AD.refl _ w
 | v::r,o,w=>by have f:AD (λ k=>k=b) w (w.setCell ⟨b,o,none⟩ v):=AD.setCell (AD.refl (λ k=>k=b) w) (p:=⟨b,o,none⟩) (λ _=>rfl) v;have q:=Mt b r (o+1) (w.setCell ⟨b,o,none⟩ v);exact f.trans q (λ _ _ e=>e)
section
variable {P:Program}
def LJ(w:World){r A q a Q}(I:q.guard=none)(ty x y)(L:q.op=.store ty x y)(c f)(U:a.eval x=.pointer (some ⟨w.heap.size,0,none⟩))(W:a.eval y=.agg f)(J:(P.info? ty).map (·.size)=some f.size)(T:c.size=f.size)(B:f.all (·.oneCell')=true)(h:wpList P r Q A (a.put q.dst undef) (w.alloc (.cells f ty))):wpList P r Q (q::A) a (w.alloc (.cells c ty)):=by
 refine wpList_plain I λ K E=>?_;have O:=run_storeAt_new (P:=P) w ty c f J T B;unfold Oper.wp execOp;simp only[L,U,W,Sem.run_bind,Sem.run_pure,Result.andThen_ok,O];exact E _ _ h
end
theorem MP:(prog.info? 138).map (λ i=>(i.zero,i.size))=some (some (.agg (Ag .u32 64 (λ _=>0)).toArray),64):=by kernel_rfl
theorem TG:(prog.info? 136).map (λ i=>(i.zero,i.size))=some (some (.agg (Ag .u32 8 (λ _=>0)).toArray),8):=by kernel_rfl
theorem TD:(prog.info? 81).map (λ i=>(i.zero,i.size))=some (some (.agg (Ag .u8 32 (λ _=>0)).toArray),32):=by kernel_rfl
end
section
open Go.RowKit Pl
theorem MQ:(prog.info? 165).map (λ i=>(i.zero,i.size))=some (some (.agg (AG zz).toArray),256):=by kernel_rfl
theorem LS:prog.arrayLen 165=256:=by kernel_rfl
theorem Na:prog.elem 165=5:=by kernel_rfl
def RA:prog.underlying 165=some (.array (prog.arrayLen 165) (prog.elem 165)):=by rw[LS,Na];exact underlying165
def AF6(g w):(Instr.sliceAt 165 (.pointer (some ⟨g,0,none⟩)) none none none).run prog w=.ok (.slice (some ⟨g,0,none⟩) 256 256) w:=by rw[run_sliceAt_array_all w 165 _ RA,LS,Na];simp[slicedAt,go_sem]
def Fv(w:World)(g:Nat)(xs:List Int):Prop:=w.heap[g]?=some (.cells (AG xs).toArray 165 (0,0))/\xs.length=256/\By xs
section
variable {w w':World} {g:Nat} {xs:List Int}
def Fv.lt(h:Fv w g xs):g<w.heap.size:=(za0.1 h.1).1
def Fv.tch{S}(h:Fv w g xs)(q:AD S w w')(f:¬S g):Fv w' g xs:=⟨by rw[q.block g h.lt f];exact h.1,h.2⟩
def Fv.below(h:Fv w g xs)(f:Below w.heap.size w w'):Fv w' g xs:=h.tch (S:=λ _=>False) (AD.of_below f) (λ e=>e)
def Fv.wb(h:Fv w g xs):Wb w (.slice (some ⟨g,0,none⟩) 256 256) xs:=
 ⟨g,256,_,_,by rw[h.2.1],by rw[h.2.1];omega,by unfold maxLen;omega,h.1,by rw[h.2.1,List.toList_toArray,Cj (by rw[At,h.2.1];omega)]⟩
def Fv.cell(h:Fv w g xs){i}(f:i<256):w.cell? ⟨g,i,none⟩=some (.int .u8 (xs.getD i 0)):=by rw[cell_of_row w g i _ _ (0,0) h.1,List.getElem?_toArray,AG,zw0,AP,z9 (by rw[h.2.1];exact f)];rfl
def Fv.fz(h:Fv w g xs)(i):w.frozen? ⟨g,i,none⟩=false:=frozen_of_row w g i _ _ h.1
def Fv.range(h:Fv w g xs):w.rangeAt g 0 (AG xs):=λ j u f=>by
 have q:j<256:=by have:=(List.getElem?_eq_some_iff.1 f).1;rw[At,h.2.1]at this;exact this
 rw[Nat.zero_add,cell_of_row w g j _ _ (0,0) h.1,List.getElem?_toArray];exact f
def Fv.there(h:Fv w g xs):w.there g 0 256:=λ j f=>by rw[Nat.zero_add];exact⟨by rw[h.cell f];rfl,h.fz j⟩
def KL(w:World)(q:xs.length=256)(f:By xs):Fv (w.alloc (.cells (AG xs).toArray 165)) w.heap.size xs:=⟨heap_alloc_new w _,q,f⟩
end
def sj(xs:List Int)(j:Nat):List Int:=xs.take 252++((IF (BU (xs.take 252))).take j++xs.drop (252+j))
def AE1{f}{p:Tmp}{ty}(h:f.results=#[.cell p ty])(q P w):
 (results f q).run P w=((asAddr (q.getD p undef)).run P w).andThen λ a r=>(loadVar ty a).run P r:=by
 simp only[results,h];simp
def Mk{f}{p:Tmp}{ty}(h:f.results=#[.cell p ty])(q P w b v)(ha:q.getD p undef=.pointer (some ⟨b,0,none⟩))(r:(loadVar ty ⟨b,0,none⟩).run P w=.ok v w):(results f q).run P w=.ok v w:=by
 rw[AE1 h,ha];simp[asAddr,Result.andThen,r]
def ABF:(prog.info? 165).map (·.size)=some 256:=(zero_of_info MQ).2
def LX{xs}(h:xs.length=256):(AG xs).toArray.size=256:=by rw[List.size_toArray,At,h]
def Fv.put{w g xs ys}(h:Fv w g xs)(f:ys.length=256)(q:By ys):Fv (w.setCells g 0 (AG ys)) g ys:=by refine⟨?_,f,q⟩;have:=JU (AG ys) 0 w _ h.1 (by rw[At,LX h.2.1,f];omega);rw[this,List.toList_toArray,List.take_zero,List.nil_append,List.drop_of_length_le (by rw[At,At,f,h.2.1];omega),List.append_nil]
def Fv.load{w g xs}(h:Fv w g xs):(loadVar 165 ⟨g,0,none⟩).run prog w=.ok (.agg (AG xs).toArray) w:=
 run_loadVar_mid (P:=prog) w g 0 165 (AG xs) _ h.range underlying165 rfl (by rw[At,h.2.1];exact ABF)
theorem Ol:(prog.info? 165).map (λ i=>(i.zero,i.size))=some (some (.agg (AG zz).toArray),256):=by kernel_rfl
theorem LT:prog.arrayLen 165=256:=by kernel_rfl
theorem Nb:prog.elem 165=5:=by kernel_rfl
def RB:prog.underlying 165=some (.array (prog.arrayLen 165) (prog.elem 165)):=by rw[LT,Nb];exact underlying165
def AF7(g w):(Instr.sliceAt 165 (.pointer (some ⟨g,0,none⟩)) none none none).run prog w=.ok (.slice (some ⟨g,0,none⟩) 256 256) w:=by rw[run_sliceAt_array_all w 165 _ RB,LT,Nb];simp[slicedAt,go_sem]
def AF8(g w):(Instr.sliceAt 165 (.pointer (some ⟨g,0,none⟩)) none (some (.int .i64 252)) none).run prog w=.ok (.slice (some ⟨g,0,none⟩) 252 256) w:=by have:=run_sliceAt_array_h w 165 ⟨g,0,none⟩ RB .i64 252 (by omega) (by rw[LT];omega);rw[LT,Nb]at this;rw[this];simp[slicedAt,go_sem]
def Fu(w:World)(g:Nat)(xs:List Int):Prop:=w.heap[g]?=some (.cells (AG xs).toArray 165 (0,0))/\xs.length=256/\By xs
section
variable {w w':World} {g:Nat} {xs:List Int}
def Fu.lt(h:Fu w g xs):g<w.heap.size:=(za0.1 h.1).1
def Fu.tch{S}(h:Fu w g xs)(q:AD S w w')(f:¬S g):Fu w' g xs:=⟨by rw[q.block g h.lt f];exact h.1,h.2⟩
def Fu.below(h:Fu w g xs)(f:Below w.heap.size w w'):Fu w' g xs:=h.tch (S:=λ _=>False) (AD.of_below f) (λ e=>e)
def Fu.cell(h:Fu w g xs){i}(f:i<256):w.cell? ⟨g,i,none⟩=some (.int .u8 (xs.getD i 0)):=by rw[cell_of_row w g i _ _ (0,0) h.1,List.getElem?_toArray,AG,zw0,AP,z9 (by rw[h.2.1];exact f)];rfl
def Fu.fz(h:Fu w g xs)(i):w.frozen? ⟨g,i,none⟩=false:=frozen_of_row w g i _ _ h.1
def Fu.rdTo(h:Fu w g xs)(m)(q:m<=256):Rd .u8 w (.slice (some ⟨g,0,none⟩) m 256) (xs.take m):=
 Uo m (by rw[h.2.1];exact q) (by rw[h.2.1];omega) (by unfold maxLen;omega) (λ i f=>by rw[Nat.zero_add];exact h.cell (by rw[<-h.2.1];exact f))
def Fu.range(h:Fu w g xs):w.rangeAt g 0 (AG xs):=λ j u f=>by
 have q:j<256:=by have:=(List.getElem?_eq_some_iff.1 f).1;rw[At,h.2.1]at this;exact this
 rw[Nat.zero_add,cell_of_row w g j _ _ (0,0) h.1,List.getElem?_toArray];exact f
def Fu.there(h:Fu w g xs):w.there g 0 256:=λ j f=>by rw[Nat.zero_add];exact⟨by rw[h.cell f];rfl,h.fz j⟩
def Fu.set(h:Fu w g xs)(i){y}(f:0<=y)(q:y<=255):Fu (w.setCell ⟨g,i,none⟩ (.int .u8 y)) g (xs.set i y):=by refine⟨?_,by rw[zo0];exact h.2.1,h.2.2.set i f q⟩;have:=heap_setCell_same w g i _ _ (.int .u8 y) h.1;rw[this,AG,AG,List.map_set];simp
def MC(w:World)(q:xs.length=256)(f:By xs):Fu (w.alloc (.cells (AG xs).toArray 165)) w.heap.size xs:=⟨heap_alloc_new w _,q,f⟩
end
def AE5{f}{p:Tmp}{ty}(h:f.results=#[.cell p ty])(q P w):
 (results f q).run P w=((asAddr (q.getD p undef)).run P w).andThen λ a r=>(loadVar ty a).run P r:=by
 simp only[results,h];simp
def Uu{f}{p:Tmp}{ty}(h:f.results=#[.cell p ty])(q P w b v)(ha:q.getD p undef=.pointer (some ⟨b,0,none⟩))(r:(loadVar ty ⟨b,0,none⟩).run P w=.ok v w):(results f q).run P w=.ok v w:=by
 rw[AE5 h,ha];simp[asAddr,Result.andThen,r]
def ABG:(prog.info? 165).map (·.size)=some 256:=(zero_of_info Ol).2
def Ng{xs}(h:xs.length=256):(AG xs).toArray.size=256:=by rw[List.size_toArray,At,h]
def Fu.put{w g xs ys}(h:Fu w g xs)(f:ys.length=256)(q:By ys):Fu (w.setCells g 0 (AG ys)) g ys:=by refine⟨?_,f,q⟩;have:=JU (AG ys) 0 w _ h.1 (by rw[At,Ng h.2.1,f];omega);rw[this,List.toList_toArray,List.take_zero,List.nil_append,List.drop_of_length_le (by rw[At,At,f,h.2.1];omega),List.append_nil]
def Fu.load{w g xs}(h:Fu w g xs):(loadVar 165 ⟨g,0,none⟩).run prog w=.ok (.agg (AG xs).toArray) w:=
 run_loadVar_mid (P:=prog) w g 0 165 (AG xs) _ h.range underlying165 rfl (by rw[At,h.2.1];exact ABG)
def PB(n w):
 Calls prog 30 #[.int .i64 n] w λ e w'=>e=.returned (.bool (decide (1<=n)&&decide (n<=512)))/\w'=w:=by
 go_enter func30,ntmps30
 by_cases h:1<=n
 .have f:decide (1<=n)=true:=by grind
  rw[f];go_wp2_with fail;go_ret;simp
 .have f:decide (1<=n)=false:=by grind
  rw[f];go_wp2_with fail;go_ret;simp
def Pn(n:Nat)(h:n<=1000000)(w):
 Calls prog 100 #[.int .i64 (n:Int)] w λ e w'=>e=.returned (.int .i64 (235-2*(n:Int)))/\w'=w:=by
 go_enter func100,ntmps100
 go_wp2_with fail;go_ret;simp
def UF(p)(I:0<=p)(J:p<=65535)(w):
 Calls prog 62 #[.int .i64 p] w λ e w'=>e=.returned (.int .i64 (Dc p))/\w'=w:=by
 obtain⟨m,q⟩:∃m:Nat,Dc p=(m:Int):=⟨(Dc p).toNat,by unfold Dc;omega⟩
 have f:Hid ((m:Int)=(p+2) / 238):=by show _=_;rw[<-q];rfl
 rw[q];have O:m<=300:=by have:=f.o;omega
 clear q
 go_enter func62,ntmps62
 go_wp2_with fail
 go_loopw [3] (λ r wr=>∃(k:Nat),k<=m/\r=.int .i64 (k:Int)/\wr=w) (λ r _=>m-(intOf r).toNat)
 case atStart=>grind
 case round=>
  obtain⟨k,K,rfl,rfl⟩:=hrel;have A:=AU (Pn k (by omega) wr);go_wp2_with fail;refine A.o.mono ?_;rintro e w' ⟨rfl,rfl⟩;clear A;by_cases L:k<m
  .have E:235-2*(k:Int)+(k:Int)*240<p:=by have:=f.o;omega
   go_wp2_with fail;exact⟨⟨k+1,by omega,rfl,trivial⟩,by simp[intOf];omega⟩
  .have B:k=m:=by omega
   subst B;(have E:¬235-2*(k:Int)+(k:Int)*240<p:=by have:=f.o;omega);go_wp2_with fail;go_ret;simp
def AGQ(w:World)(x y e)(r:x.oneCell'=true)(A:y.oneCell'=true):Ij (w.alloc (.cells #[x,y] e)) (.slice (some ⟨w.heap.size,0,none⟩) 2 2) [x,y]:=by
 refine⟨some ⟨w.heap.size,0,none⟩,2,rfl,λ z f=>?_,(λ e=>by cases e),λ q ha j z f=>?_⟩
 .grind
 .obtain rfl:=zv0 ha
  match j,f with
  | 0,f=>simp at f;subst f;simp[Addr.add]
  | 1,f=>simp at f;subst f;simp[Addr.add]
def AIP(w){q r o a Q}(J:o.guard=none)(s x)(O:o.op=.call { callee:=.builtin .append,args:=#[s,x],argTypes:=#[40,40] })(v xs)(hs:a.eval s=v)(hown:AF .u8 5 w v xs)(y z)(hx:a.eval x=.slice (some ⟨w.heap.size,0,none⟩) 2 2)(hl:xs.length<=100000)(h:∀f w',AF .u8 5 w' f (xs++[y,z])->AY w w' v f->wpList prog q Q r (a.put o.dst f) w'):wpList prog q Q (o::r) a (w.alloc (.cells #[.int .u8 y,.int .u8 z] 5)):=by
 obtain⟨T,i,K,U,A,I⟩:=Dd;refine LH (w.alloc (.cells #[.int .u8 y,.int .u8 z] 5)) J s x 40 O 5 i (.int .u8 0) 1 T K U A I rfl v (xs.map (Value.int .u8)) hs (by unfold AF at hown;simpa using hown.alloc _) _ [.int .u8 y,.int .u8 z] hx (AGQ w _ _ _ rfl rfl) (by unfold maxLen;simp;omega) (by simp;omega) ?_;intro f w' W B E;refine h f w' (by unfold AF;grind) ⟨AD.grown ((AD.refl _ w).alloc _) B (λ _ _ e=>e),λ k L=>?_⟩;rcases E k L with e|e
 .grind
 .exact .inr (by simp at e;omega)
def AEX(v xs)(n:Nat)(w)(h:AF .u8 5 w v xs)(E:xs.length<=100000)(I:n<=1000000):
 Calls prog 101 #[v,.int .i64 (n:Int)] w λ e w'=>∃f,e=.returned f/\AF .u8 5 w' f (xs++BD n)/\AY w w' v f:=by
 have B:=z6 h;clear h
 go_enter func101,ntmps101
 go_wp2_with(at_builtin;refine AIP _ rfl (.tmp 5) (.tmp 11) rfl _ xs rfl B.o _ _ rfl E ?_)
 intro f w' q r;have A:Hid (AF .u8 5 w' f (xs++BD n)/\AY w w' v f):=⟨q,r⟩
 clear q r;go_wp2_with fail;go_ret;exact⟨f,rfl,A.o⟩
def ADV(b o cap m ys i w)(r:By ys)(K:ys.length=m)(L:i+1<m)(O:m<=100000)(hc:∀j,j<m->w.cell? ⟨b,o+j,none⟩=some (.int .u8 (ys.getD j 0))):
 Calls prog 113 #[.slice (some ⟨b,o,none⟩) m cap,.int .i64 (i:Int)] w λ e w'=>e=.returned (.int .i64 (Ba ys i))/\∃q,w'=w.drewN q:=by
 have B:=hc i (by omega);have c1:=hc (i+1) (by omega);obtain⟨a,ha⟩:=exN (ys.getD i 0);obtain⟨f,E⟩:=exN (ys.getD (i+1) 0);have I:=r i;have J:=r (i+1);have A:Hid (Ba ys i=a+256*f):=by show _=_;unfold Ba;omega
 rw[ha]at B I;rw[E]at c1 J;rw[A.o];clear hc r K
 go_enter func113,ntmps113
 go_wp2_with fail;go_quiet (fail);go_wp2;go_ret;refine⟨?_,_,rfl⟩;show Ending.returned (Value.int IntKind.i64 (bits BinOp.or IntKind.i64 a (f*256)))=_;have:=PO a f 8 (by omega) (by omega) (by omega) (by omega) (by decide)
 grind
