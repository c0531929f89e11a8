import Derived.Test.YtcmjlibndmneiaaGreatPRow0
import Derived.Deep.MidRow
import Derived.Deep.WholeRow
set_option maxRecDepth 100000
set_option linter.all false
set_option maxHeartbeats 8000000
namespace Go.Proofs.YtcmjlibndmneiaaGreat
open Go.RowKit
def zb0{p:Prop}(h:p):Hid p:=h
def zj9{b:Nat}{t:TypeId}:∀(vs:List Value)(o:Nat)(w:World)(C:Array Value),w.heap[b]?=some (.cells C t (0,0))->o+vs.length<=C.size->
 (w.setCells b o vs).heap[b]?=some (.cells (C.toList.take o++vs++C.toList.drop (o+vs.length)).toArray t (0,0))
 | [],o,w,C,h,hl=>by simp only[World.setCells,List.append_nil,List.length_nil,Nat.add_zero,zx0,Array.toArray_toList];exact h
 | v::r,o,w,C,h,hl=>by
  simp only[zk0]at hl;have A:=heap_setCell_same w b o C t v h;have E:=zj9 r (o+1) _ _ A (by simp;omega);rw[World.setCells,E];refine congrArg (λ l=>some (Obj.cells (List.toArray l) t (0,0))) ?_;simp only[Array.toList_setIfInBounds,zk0];rw[List.take_set,List.drop_set,if_pos (by omega)];have u:(List.take (o+1) C.toList).set o v=List.take o C.toList++[v]:=by rw[List.take_add_one,zc0 (by simpa using(show o<C.size by omega))];rw[List.set_append_right _ _ (by simp;omega)];simp only[zg0,Array.length_toList,Option.toList_some];rw[Nat.min_eq_left (by omega),Nat.sub_self];rfl
  rw[u,show o+1+r.length=o+(r.length+1) by omega];simp
def zb9(b:Nat):∀(vs:List Value)(o:Nat)(w:World),Tch (λ k=>k=b) w (w.setCells b o vs)
 | [],_,w=>Tch.refl _ w
 | v::r,o,w=>by have u:Tch (λ k=>k=b) w (w.setCell ⟨b,o,none⟩ v):=Tch.setCell (Tch.refl (λ k=>k=b) w) (p:=⟨b,o,none⟩) (λ _=>rfl) v;have A:=zb9 b r (o+1) (w.setCell ⟨b,o,none⟩ v);exact u.trans A (λ _ _ e=>e)
def bcs(xs:List Int):List Value:=xs.map (Value.int .u8)
def zc9(xs:List Int):(bcs xs).length=xs.length:=by simp[bcs]
def zdi9(xs:List Int):∀v∈bcs xs,v.oneCell'=true:=λ v hv=>by obtain⟨x,_,rfl⟩:=List.mem_map.1 hv;rfl
def zbu9(xs:List Int):(bcs xs).toArray.all (·.oneCell')=true:=all_oneCell_toArray (zdi9 xs)
def zmj9(xs ys:List Int):bcs (xs++ys)=bcs xs++bcs ys:=by simp[bcs]
def zz:List Int:=List.replicate 256 0
def zz_len:zz.length=256:=by simp only[zz,zr0]
def zz_by:By zz:=λ i=>by unfold zz;rw[zn3,List.getElem?_replicate];split<;>exact⟨by decide,by decide⟩
def zz_get{i:Nat}(h:i<256):zz[i]?=some 0:=by unfold zz;rw[List.getElem?_replicate,if_pos h]
def By.set{x:List Int}(h:By x)(j:Nat){y:Int}(u:0<=y)(A:y<=255):By (x.set j y):=λ i=>by
 rw[zn3,List.getElem?_set];split
 .split
  .exact⟨u,A⟩
  .simp
 .rw[<-zn3];exact h i
section
variable {P:Program}
def zd9(w:World){E:Array Oper}{H:List Oper}{A:Oper}{a:Act}{Q:Exit->Act->World->Prop}(T:A.guard=none)(ty:TypeId)(x y:Operand)(Y:A.op=.store ty x y)
 (c u:Array Value) (hx:a.eval x=.pointer (some ⟨w.heap.size,0,none⟩)) (hy:a.eval y=.agg u) (hi:(P.info? ty).map (·.size)=some u.size) (hs:c.size=u.size) (I:u.all (·.oneCell')=true)
 (h:wpList P E Q H (a.put A.dst undef) (w.alloc (.cells u ty))):wpList P E Q (A::H) a (w.alloc (.cells c ty)):=by
 refine wpList_plain T λ K O=>?_;have a0:=run_storeAt_new (P:=P) w ty c u hi hs I;unfold Oper.wp execOp;simp only[Y,hx,hy,Sem.run_bind,Sem.run_pure,Result.andThen_ok,a0];exact O _ _ h
end
def Wb(w:World)(v:Value)(xs:List Int):Prop:=∃b cap t C,v=.slice (some ⟨b,0,none⟩) xs.length cap/\xs.length<=cap/\cap<=maxLen/\w.heap[b]?=some (.cells C t (0,0))/\C.toList.take xs.length=bcs xs
section
variable {w w':World} {v:Value} {xs:List Int}
def Wb.rd(h:Wb w v xs):Rd .u8 w v xs:=by
 obtain⟨b,cap,t,C,rfl,A,E,H,I⟩:=h;refine⟨_,cap,rfl,A,E,(λ e=>by cases e),.inr ⟨b,0,rfl,λ i u=>?_⟩⟩;rw[Nat.zero_add,cell_of_row w b i C t (0,0) H];have e:(C.toList.take xs.length)[i]?=C.toList[i]?:=by rw[zv0,if_pos u]
 rw[<-Array.getElem?_toList,<-e,I,bcs,zd1,zn3,zc0 u];rfl
def Wb.tch{S:Nat->Prop}(h:Wb w v xs)(K:Tch S w w')(I:∀j,v.ownBlock=some j->¬S j):Wb w' v xs:=by obtain⟨b,cap,t,C,rfl,A,E,u,H⟩:=h;exact⟨b,cap,t,C,rfl,A,E,by rw[K.block b (zd0.1 u).1 (I b rfl)];exact u,H⟩
def Wb.below(h:Wb w v xs)(u:Below w.heap.size w w'):Wb w' v xs:=h.tch (S:=λ _=>False) (Tch.of_below u) (λ _ _ e=>e)
def wb_new(w:World)(xs:List Int)(t:TypeId)(h:xs.length<=maxLen):Wb (w.alloc (.cells (bcs xs).toArray t)) (.slice (some ⟨w.heap.size,0,none⟩) xs.length xs.length) xs:=
 ⟨w.heap.size,xs.length,t,(bcs xs).toArray,rfl,zn6 _,h,heap_alloc_new w _,by rw[List.toList_toArray,zn5 (by rw[zc9];exact zn6 _)]⟩
end
def SOk(rows:List (List Int)):Prop:=∀x∈rows,x.length=256/\By x
def SOk.nil:SOk []:=λ x h=>by cases h
def SOk.cons{a:List Int}{r:List (List Int)}(h:SOk (a::r)):SOk r:=λ x u=>h x (zq0 _ u)
def SOk.app{a b:List (List Int)}(h:SOk a)(k:SOk b):SOk (a++b):=λ x u=>by
 rcases zi0.1 u with e|e
 .exact h x e
 .exact k x e
def SOk.one{x:List Int}(h:x.length=256)(A:By x):SOk [x]:=λ y u=>by simp at u;subst u;exact⟨h,A⟩
def SOk.set{a:List (List Int)}(h:SOk a)(i:Nat){x:List Int}(A:x.length=256)(u:By x):SOk (a.set i x):=λ y E=>by
 rcases List.mem_or_eq_of_mem_set E with e|e
 .exact h y e
 .subst e;exact⟨A,u⟩
def SOk.get{a:List (List Int)}(h:SOk a){i:Nat}(hi:i<a.length):(a.getD i []).length=256/\By (a.getD i []):=by rw[zn3,zc0 hi];exact h _ (za1 hi)
def SOk.last{a:List (List Int)}(h:SOk a)(u:a≠[])(d:List Int):(a.getLastD d).length=256/\By (a.getLastD d):=by rw[List.getLastD_eq_getLast?,List.getLast?_eq_some_getLast u];exact h _ (List.getLast_mem u)
def zcn9:∀{rows:List (List Int)},SOk rows->rows.flatten.length=rows.length*256
 | [],_=>rfl
 | a::r,h=>by have:=zcn9 h.cons;have:=(h a (zp0)).1;simp only[List.flatten_cons,zf0,zk0];omega
def zia9:∀{rows:List (List Int)},SOk rows->∀{i:Nat},i<rows.length->∀{j:Nat},j<256->rows.flatten[i*256+j]?=(rows.getD i [])[j]?
 | [],_,i,hi,_,_=>by simp at hi
 | a::r,h,0,_,j,hj=>by have:=(h a (zp0)).1;simp only[List.flatten_cons,Nat.zero_mul,Nat.zero_add,List.getD_cons_zero];rw[zo0 (by omega)]
 | a::r,h,i+1,hi,j,hj=>by have ha:=(h a (zp0)).1;simp only[List.flatten_cons,List.getD_cons_succ];rw[zn0 (by omega),<-zia9 h.cons (i:=i) (by simpa using hi) hj];congr 1;omega
def zmw9:∀{rows:List (List Int)},SOk rows->∀{i:Nat},i<rows.length->∀(x:List Int),rows.flatten.take (i*256)++x++rows.flatten.drop (i*256+256)=(rows.set i x).flatten
 | [],_,i,hi,_=>by simp at hi
 | a::r,h,0,_,x=>by have ha:=(h a (zp0)).1;simp only[List.flatten_cons,Nat.zero_mul,Nat.zero_add,List.set_cons_zero,List.take_zero,List.nil_append];rw[<-ha,List.drop_left]
 | a::r,h,i+1,hi,x=>by have ha:=(h a (zp0)).1;have u:=zmw9 h.cons (i:=i) (by simpa using hi) x;simp only[List.flatten_cons,List.set_cons_succ];rw[<-u,List.take_append,List.drop_append,zn5 (by omega),List.drop_eq_nil_of_le (by omega)];rw[show(i+1)*256-a.length=i*256 by omega,show(i+1)*256+256-a.length=i*256+256 by omega];simp
def SecR(w:World)(v:Value)(rows:List (List Int)):Prop:=SOk rows/\w.ownsRow 0 140 256 v rows.length (bcs rows.flatten)
section
variable {w w':World} {v:Value} {rows:List (List Int)} {b k cap:Nat}
def SecR.nil(w:World):SecR w (.slice none 0 0) []:=⟨SOk.nil,World.ownsRow_nil _ _ _ _⟩
def SecR.tch{S:Nat->Prop}(h:SecR w v rows)(A:Tch S w w')(u:∀j,v.ownBlock=some j->¬S j):SecR w' v rows:=⟨h.1,A.owns h.2 u⟩
def SecR.below(h:SecR w v rows)(u:Below w.heap.size w w'):SecR w' v rows:=h.tch (S:=λ _=>False) (Tch.of_below u) (λ _ _ e=>e)
def SecR.lt(h:SecR w v rows):∀j,v.ownBlock=some j->j<w.heap.size:=λ j u=>(World.ownsRow.lt h.2 j u).2
def SecR.shape(h:SecR w v rows)(u:rows≠[]):∃g cap cur,v=.slice (some ⟨g,0,none⟩) rows.length cap/\w.heap[g]?=some (.cells cur 140 (0,0))/\rows.length<=cap/\cap<=maxLen/\cur.size=cap*256/\cur.toList.take (rows.length*256)=bcs rows.flatten:=by
 rcases h.2.2 with⟨_,e⟩|⟨g,cap,cur,e,_,K,A,E,H,I⟩
 .exact absurd (zh0 e) u
 .exact⟨g,cap,cur,e,K,A,E,H,I⟩
def SecR.blk(h:SecR w (.slice (some ⟨b,0,none⟩) k cap) rows):∃cur,k=rows.length/\w.heap[b]?=some (.cells cur 140 (0,0))/\rows.length<=cap/\cap<=maxLen/\cur.size=cap*256/\cur.toList.take (rows.length*256)=bcs rows.flatten:=by
 rcases h.2.2 with⟨e,_⟩|⟨g,c,cur,e,_,I,u,A,E,H⟩
 .cases e
 .simp only[Value.slice.injEq,Option.some.injEq,Addr.mk.injEq,and_true]at e;obtain⟨rfl,rfl,rfl⟩:=e;exact⟨cur,rfl,I,u,A,E,H⟩
def SecR.load(h:SecR w (.slice (some ⟨b,0,none⟩) k cap) rows){i:Nat}(hi:i<rows.length):w.rangeAt b (i*256) (bcs (rows.getD i [])):=λ j u E=>by
 obtain⟨A,rfl,I,Q,T,Y,H⟩:=h.blk;have O:=(h.1.get hi).1;have K:j<256:=by have:=(List.getElem?_eq_some_iff.1 E).1;rw[zc9,O]at this;exact this
 rw[cell_of_row w b (i*256+j) A _ (0,0) I];have e:(A.toList.take (rows.length*256))[i*256+j]?=A.toList[i*256+j]?:=by rw[zv0,if_pos (by omega)]
 rw[<-Array.getElem?_toList,<-e,H,bcs,zd1,zia9 h.1 hi K,<-zd1];exact E
def SecR.there(h:SecR w (.slice (some ⟨b,0,none⟩) k cap) rows){i:Nat}(hi:i<rows.length):w.there b (i*256) 256:=λ j O=>by obtain⟨A,rfl,u,E,H,I,K⟩:=h.blk;refine⟨?_,frozen_of_row w b _ _ _ u⟩;rw[cell_of_row w b (i*256+j) A _ (0,0) u,Array.getElem?_eq_getElem (by omega)];rfl
def SecR.put(h:SecR w (.slice (some ⟨b,0,none⟩) k cap) rows){i:Nat}(hi:i<rows.length){x:List Int}(u:x.length=256)(H:By x):
 SecR (w.setCells b (i*256) (bcs x)) (.slice (some ⟨b,0,none⟩) k cap) (rows.set i x):=by
 obtain⟨A,rfl,hg,Q,T,Y,E⟩:=h.blk;have hs:=zj9 (bcs x) (i*256) w A hg (by rw[zc9,u];omega);refine⟨h.1.set i u H,?_,.inr ⟨b,cap,_,by rw[zt0],zn7 _,hs,by rw[zt0];exact Q,T,?_,?_⟩⟩
 .rw[zc9,zcn9 (h.1.set i u H)]
 .simp only[List.size_toArray,zf0,zg0,zj0,zc9,u,Array.length_toList];omega
 .rw[zt0,<-zmw9 h.1 hi x,zmj9,zmj9,zc9,u];have f:=zcn9 h.1;have K:bcs (List.take (i*256) rows.flatten)=List.take (i*256) A.toList:=by rw[bcs,List.map_take,<-bcs,<-E,zh1,Nat.min_eq_left (by omega)]
  have O:bcs (List.drop (i*256+256) rows.flatten)=List.take (rows.length*256-(i*256+256)) (List.drop (i*256+256) A.toList):=by rw[bcs,List.map_drop,<-bcs,<-E,List.drop_take]
  rw[K,O];simp only[zw0];have I:A.toList.length=cap*256:=by rw[Array.length_toList];exact Y
  rw[List.take_append,List.take_append,zn5 (by simp;omega),zn5 (l:=bcs x) (by rw[zc9,u,zg0,I];omega)];rw[zc9,u,zg0,I,Nat.min_eq_left (by omega)];rw[show rows.length*256-i*256-256=rows.length*256-(i*256+256) by omega]
end
theorem zie9:(Tryz.prog.info? 140).map (λ i=>(i.zero,i.size,i.bytes))=some (some (.agg (bcs zz).toArray),256,256):=by kernel_rfl
theorem zdf9:(Tryz.prog.info? 140).map (λ i=>(i.zero,i.size))=some (some (.agg (bcs zz).toArray),256):=by kernel_rfl
end Go.Proofs.YtcmjlibndmneiaaGreat
namespace Go.Proofs.YtcmjlibndmneiaaGreat
open Go.RowKit Pl
theorem zfu9:(Tryz.prog.info? 156).map (λ i=>(i.zero,i.size))=some (some (.agg (bcs zz).toArray),256):=by kernel_rfl
theorem zjd9:Tryz.prog.arrayLen 156=256:=by kernel_rfl
theorem arr_el:Tryz.prog.elem 156=5:=by kernel_rfl
def zsi9:Tryz.prog.underlying 156=some (.array (Tryz.prog.arrayLen 156) (Tryz.prog.elem 156)):=by rw[zjd9,arr_el];exact Tryz.underlying156
def zrv9(g:Nat)(w:World):(Instr.sliceAt 156 (.pointer (some ⟨g,0,none⟩)) none none none).run Tryz.prog w=.ok (.slice (some ⟨g,0,none⟩) 256 256) w:=by rw[run_sliceAt_array_all w 156 _ zsi9,zjd9,arr_el];simp[slicedAt,go_sem]
def Fv(w:World)(g:Nat)(xs:List Int):Prop:=w.heap[g]?=some (.cells (bcs xs).toArray 156 (0,0))/\xs.length=256/\By xs
section
variable {w w':World} {g:Nat} {xs:List Int}
def Fv.lt(h:Fv w g xs):g<w.heap.size:=(zd0.1 h.1).1
def Fv.tch{S:Nat->Prop}(h:Fv w g xs)(A:Tch S w w')(u:¬S g):Fv w' g xs:=⟨by rw[A.block g h.lt u];exact h.1,h.2⟩
def Fv.below(h:Fv w g xs)(u:Below w.heap.size w w'):Fv w' g xs:=h.tch (S:=λ _=>False) (Tch.of_below u) (λ e=>e)
def Fv.wb(h:Fv w g xs):Wb w (.slice (some ⟨g,0,none⟩) 256 256) xs:=
 ⟨g,256,_,_,by rw[h.2.1],by rw[h.2.1];exact zn6 _,by unfold maxLen;omega,h.1,by rw[h.2.1,List.toList_toArray,zn5 (by rw[zc9,h.2.1];exact zn6 _)]⟩
def Fv.cell(h:Fv w g xs){i:Nat}(hi:i<256):w.cell? ⟨g,i,none⟩=some (.int .u8 (xs.getD i 0)):=by rw[cell_of_row w g i _ _ (0,0) h.1,List.getElem?_toArray,bcs,zd1,zn3,zc0 (by rw[h.2.1];exact hi)];rfl
def Fv.fz(h:Fv w g xs)(i:Nat):w.frozen? ⟨g,i,none⟩=false:=frozen_of_row w g i _ _ h.1
def Fv.range(h:Fv w g xs):w.rangeAt g 0 (bcs xs):=λ j u A=>by
 have E:j<256:=by have:=(List.getElem?_eq_some_iff.1 A).1;rw[zc9,h.2.1]at this;exact this
 rw[Nat.zero_add,cell_of_row w g j _ _ (0,0) h.1,List.getElem?_toArray];exact A
def Fv.there(h:Fv w g xs):w.there g 0 256:=λ j u=>by rw[Nat.zero_add];exact⟨by rw[h.cell u];rfl,h.fz j⟩
def fv_new(w:World)(A:xs.length=256)(u:By xs):Fv (w.alloc (.cells (bcs xs).toArray 156)) w.heap.size xs:=⟨heap_alloc_new w _,A,u⟩
end
def sj(xs:List Int)(j:Nat):List Int:=xs.take 252++((le4 (crc (xs.take 252))).take j++xs.drop (252+j))
def zhi9{u:Func}{p:Tmp}{ty:TypeId}(h:u.results=#[.cell p ty])(A:Array Value)(P:Program)(w:World):
 (results u A).run P w=((asAddr (A.getD p undef)).run P w).andThen λ a E=>(loadVar ty a).run P E:=by
 simp only[results,h];simp[Sem.run_bind,Result.andThen]
def zbs9{u:Func}{p:Tmp}{ty:TypeId}(h:u.results=#[.cell p ty])(A:Array Value)(P:Program)(w:World)(b:Nat)(v:Value)(ha:A.getD p undef=.pointer (some ⟨b,0,none⟩))
 (E:(loadVar ty ⟨b,0,none⟩).run P w=.ok v w):(results u A).run P w=.ok v w:=by
 rw[zhi9 h,ha];simp[asAddr,Result.andThen,E]
def zxm9:(Tryz.prog.info? 156).map (·.size)=some 256:=(zero_of_info zfu9).2
def zfn9{xs:List Int}(h:xs.length=256):(bcs xs).toArray.size=256:=by rw[List.size_toArray,zc9,h]
def Fv.put{w:World}{g:Nat}{xs ys:List Int}(h:Fv w g xs)(u:ys.length=256)(A:By ys):Fv (w.setCells g 0 (bcs ys)) g ys:=by refine⟨?_,u,A⟩;have:=zj9 (bcs ys) 0 w _ h.1 (by rw[zc9,zfn9 h.2.1,u];exact zn6 _);rw[this,List.toList_toArray,List.take_zero,List.nil_append,List.drop_of_length_le (by rw[zc9,zc9,u,h.2.1];exact zn6 _),List.append_nil]
def Fv.load{w:World}{g:Nat}{xs:List Int}(h:Fv w g xs):(loadVar 156 ⟨g,0,none⟩).run Tryz.prog w=.ok (.agg (bcs xs).toArray) w:=
 run_loadVar_mid (P:=Tryz.prog) w g 0 156 (bcs xs) _ h.range Tryz.underlying156 rfl (by rw[zc9,h.2.1];exact zxm9)
theorem zfv9:(Tryz.prog.info? 156).map (λ i=>(i.zero,i.size))=some (some (.agg (bcs zz).toArray),256):=by kernel_rfl
theorem zfm9:Tryz.prog.arrayLen 156=256:=by kernel_rfl
theorem zmh9:Tryz.prog.elem 156=5:=by kernel_rfl
def zmi9:Tryz.prog.underlying 156=some (.array (Tryz.prog.arrayLen 156) (Tryz.prog.elem 156)):=by rw[zfm9,zmh9];exact Tryz.underlying156
def zpd9(g:Nat)(w:World):(Instr.sliceAt 156 (.pointer (some ⟨g,0,none⟩)) none none none).run Tryz.prog w=.ok (.slice (some ⟨g,0,none⟩) 256 256) w:=by rw[run_sliceAt_array_all w 156 _ zmi9,zfm9,zmh9];simp[slicedAt,go_sem]
def zin9(g:Nat)(w:World):(Instr.sliceAt 156 (.pointer (some ⟨g,0,none⟩)) none (some (.int .i64 252)) none).run Tryz.prog w=.ok (.slice (some ⟨g,0,none⟩) 252 256) w:=by have:=run_sliceAt_array_h w 156 ⟨g,0,none⟩ zmi9 .i64 252 (by omega) (by rw[zfm9];omega);rw[zfm9,zmh9]at this;rw[this];simp[slicedAt,go_sem]
def Fu(w:World)(g:Nat)(xs:List Int):Prop:=w.heap[g]?=some (.cells (bcs xs).toArray 156 (0,0))/\xs.length=256/\By xs
section
variable {w w':World} {g:Nat} {xs:List Int}
def Fu.lt(h:Fu w g xs):g<w.heap.size:=(zd0.1 h.1).1
def Fu.tch{S:Nat->Prop}(h:Fu w g xs)(A:Tch S w w')(u:¬S g):Fu w' g xs:=⟨by rw[A.block g h.lt u];exact h.1,h.2⟩
def Fu.below(h:Fu w g xs)(u:Below w.heap.size w w'):Fu w' g xs:=h.tch (S:=λ _=>False) (Tch.of_below u) (λ e=>e)
def Fu.cell(h:Fu w g xs){i:Nat}(hi:i<256):w.cell? ⟨g,i,none⟩=some (.int .u8 (xs.getD i 0)):=by rw[cell_of_row w g i _ _ (0,0) h.1,List.getElem?_toArray,bcs,zd1,zn3,zc0 (by rw[h.2.1];exact hi)];rfl
def Fu.fz(h:Fu w g xs)(i:Nat):w.frozen? ⟨g,i,none⟩=false:=frozen_of_row w g i _ _ h.1
def Fu.rdTo(h:Fu w g xs)(m:Nat)(A:m<=256):Rd .u8 w (.slice (some ⟨g,0,none⟩) m 256) (xs.take m):=
 zyn9 m (by rw[h.2.1];exact A) (by rw[h.2.1];exact zn6 _) (by unfold maxLen;omega) (λ i u=>by rw[Nat.zero_add];exact h.cell (by rw[<-h.2.1];exact u))
def Fu.range(h:Fu w g xs):w.rangeAt g 0 (bcs xs):=λ j u A=>by
 have E:j<256:=by have:=(List.getElem?_eq_some_iff.1 A).1;rw[zc9,h.2.1]at this;exact this
 rw[Nat.zero_add,cell_of_row w g j _ _ (0,0) h.1,List.getElem?_toArray];exact A
def Fu.there(h:Fu w g xs):w.there g 0 256:=λ j u=>by rw[Nat.zero_add];exact⟨by rw[h.cell u];rfl,h.fz j⟩
def Fu.set(h:Fu w g xs)(i:Nat){y:Int}(u:0<=y)(A:y<=255):Fu (w.setCell ⟨g,i,none⟩ (.int .u8 y)) g (xs.set i y):=by refine⟨?_,by rw[zt0];exact h.2.1,h.2.2.set i u A⟩;have:=heap_setCell_same w g i _ _ (.int .u8 y) h.1;rw[this,bcs,bcs,List.map_set];simp
def zjl9(w:World)(A:xs.length=256)(u:By xs):Fu (w.alloc (.cells (bcs xs).toArray 156)) w.heap.size xs:=⟨heap_alloc_new w _,A,u⟩
end
def zhk9{u:Func}{p:Tmp}{ty:TypeId}(h:u.results=#[.cell p ty])(A:Array Value)(P:Program)(w:World):
 (results u A).run P w=((asAddr (A.getD p undef)).run P w).andThen λ a E=>(loadVar ty a).run P E:=by
 simp only[results,h];simp[Sem.run_bind,Result.andThen]
def zfa9{u:Func}{p:Tmp}{ty:TypeId}(h:u.results=#[.cell p ty])(A:Array Value)(P:Program)(w:World)(b:Nat)(v:Value)(ha:A.getD p undef=.pointer (some ⟨b,0,none⟩))
 (E:(loadVar ty ⟨b,0,none⟩).run P w=.ok v w):(results u A).run P w=.ok v w:=by
 rw[zhk9 h,ha];simp[asAddr,Result.andThen,E]
def zut9:(Tryz.prog.info? 156).map (·.size)=some 256:=(zero_of_info zfv9).2
def zfo9{xs:List Int}(h:xs.length=256):(bcs xs).toArray.size=256:=by rw[List.size_toArray,zc9,h]
def Fu.put{w:World}{g:Nat}{xs ys:List Int}(h:Fu w g xs)(u:ys.length=256)(A:By ys):Fu (w.setCells g 0 (bcs ys)) g ys:=by refine⟨?_,u,A⟩;have:=zj9 (bcs ys) 0 w _ h.1 (by rw[zc9,zfo9 h.2.1,u];exact zn6 _);rw[this,List.toList_toArray,List.take_zero,List.nil_append,List.drop_of_length_le (by rw[zc9,zc9,u,h.2.1];exact zn6 _),List.append_nil]
def Fu.load{w:World}{g:Nat}{xs:List Int}(h:Fu w g xs):(loadVar 156 ⟨g,0,none⟩).run Tryz.prog w=.ok (.agg (bcs xs).toArray) w:=
 run_loadVar_mid (P:=Tryz.prog) w g 0 156 (bcs xs) _ h.range Tryz.underlying156 rfl (by rw[zc9,h.2.1];exact zut9)
