import Derived.Test.YtcmjlibndmneiaaGreatPKLay
import Derived.Test.YtcmjlibndmneiaaGreatPDBs
import Derived.Lib.SlBuf
set_option maxRecDepth 100000
set_option linter.all false
set_option maxHeartbeats 8000000
namespace Go.Proofs.YtcmjlibndmneiaaGreat
open Go.RowKit Go.Sort Go.Shelf
abbrev OwnsK(w:World)(v:Value)(xs:List Int):Prop:=Owns .i64 3 w v xs
def zjx9{w:World}{g n cap:Nat}{xs ys:List Int}(q:Nat)(h:OwnsK w (.slice (some ⟨g,0,none⟩) n cap) xs)(hl:ys.length=xs.length){m:Nat}(hm:m<=ys.length):
 OwnsK ((w.drewN q).setCells g 0 (ys.map (Value.int .i64))) (.slice (some ⟨g,0,none⟩) m cap) (ys.take m)/\Tch (λ k=>k=g) w ((w.drewN q).setCells g 0 (ys.map (Value.int .i64))):=by
 have E:=h;have O:Tch (λ k=>k=g) w (w.drewN q):=⟨rfl,rfl,rfl,zn6 _,λ _ _ _=>rfl⟩
 refine⟨?_,O.trans (zb9 g _ 0 _) (λ _ _ e=>e)⟩;rcases E.2 with⟨e,_⟩|⟨Q,c,A,e,_,I,T,H,Y,h4⟩
 .cases e
 .simp only[Value.slice.injEq,Option.some.injEq,Addr.mk.injEq,and_true]at e;obtain⟨rfl,rfl,rfl⟩:=e;have K:=zj9 (ys.map (Value.int .i64)) 0 (w.drewN q) A I (by rw[zb1];omega);have u:(ys.take m).length=m:=by rw[zg0];omega
  refine⟨by simp,.inr ⟨g,cap,_,by rw[u],zn7 _,K,by omega,H,?_,?_⟩⟩
  .simp only[List.size_toArray,zf0,zg0,zj0,zb1,Array.length_toList];omega
  .rw[u];simp only[List.take_zero,List.nil_append,zb1,Nat.zero_add,Nat.mul_one];rw[List.take_append_of_le_length (by rw[zb1];omega),List.map_take]
def zwt9(v:Value)(xs:List Int)(i:Nat)(w:World)(h:OwnsK w v xs)(hi:i<xs.length):
 Calls Tryz.prog 93 #[v,.int .i64 (i:Int),.int .i64 ((i:Int)+1)] w λ e w'=>∃u,e=.returned u/\OwnsK w' u (xs.eraseIdx i)/\u.ownBlock=v.ownBlock/\Tch (λ k=>v.ownBlock=some k) w w':=by
 obtain⟨g,cap,rfl,Y,K,O,I,Q⟩:=h.shape (by omega);have H:=AnyG.slices_Delete_int_cells Tryz.delA g 0 xs.length cap i (i+1) xs w (zn6 _) K (by unfold maxLen at O;omega) (by omega) (by omega) (λ j T=>by rw[Nat.zero_add];exact I j T) (λ j _=>by rw[Nat.zero_add];exact Q j);refine H.mono ?_;rintro e w' ⟨rfl,q,rfl⟩;have E:(List.take xs.length xs).take i++(List.take xs.length xs).drop (i+1)++List.replicate (i+1-i) 0=xs.eraseIdx i++[0]:=by rw[zn5 (zn6 _),List.eraseIdx_eq_take_drop_succ,show i+1-i=1 by omega];rfl
 rw[E];have A:(xs.eraseIdx i).length=xs.length-1:=by rw[List.length_eraseIdx,if_pos hi]
 have:=zjx9 q h (ys:=xs.eraseIdx i++[0]) (by rw[zf0,A,List.length_singleton];omega) (m:=xs.length-(i+1-i)) (by rw[zf0,A];omega);rw[List.take_append_of_le_length (by omega),zn5 (by omega)]at this;exact⟨_,rfl,this.1,rfl,this.2.mono (λ k _ e=>by rw[e];rfl)⟩
def Fst(p:Int->Bool)(xs:List Int)(z:Int):Prop:=
 (z=-1/\∀j,j<xs.length->p (xs.getD j 0)=false)\/∃k,k<xs.length/\z=(k:Int)/\p (xs.getD k 0)=true/\∀j,j<k->p (xs.getD j 0)=false
def zxk9(g:Nat)(I:Array Value)(p:Int->Bool)(v:Value)(xs:List Int)(w:World)(h:OwnsK w v xs)(O:∀args w,(callFunc g args).run Tryz.prog w=.ok (.enter g args) w)(hp:PredAt Tryz.prog g I (Value.int .i64) p w):
 Calls Tryz.prog 91 #[v,.func (.func g) #[] I] w λ e w'=>∃z,e=.returned (.int .i64 z)/\Fst p xs z/\∃q,w'=w.drewN q:=by
 by_cases Q:xs.length=0
 .have hx:=zh0 Q;subst hx;obtain⟨a,cap,rfl,_⟩:=h.rd;refine(AnyE.slices_IndexFunc_empty Tryz.idxA a cap _ w).mono ?_;rintro e w' ⟨rfl,rfl⟩;exact⟨-1,rfl,.inl ⟨rfl,λ j u=>by simp at u⟩,0,rfl⟩
 .obtain⟨b,cap,rfl,hg,a0,Y,T,hf⟩:=h.shape (by omega);have H:=AnyE.slices_IndexFunc (α:=Int) Tryz.idxA (Value.int .i64) p g I O b 0 xs.length cap xs w hp (zn6 _) (by unfold maxLen at Y;omega) (λ j u=>by
   rw[Nat.zero_add,T j u,zn3,zc0 u,getElem!_pos xs j u];rfl)
  refine H.mono ?_;rintro e w' ⟨rfl,q,rfl⟩;rw[zn5 (zn6 _)];have E:∀j,j<xs.length->xs[j]! = xs.getD j 0:=λ j u=>by rw[zn3,zc0 u,getElem!_pos xs j u];rfl
  refine⟨_,rfl,?_,q,rfl⟩;rcases idxByFrom_spec (λ _ y=>p y) (default:Int) xs 0 with⟨A,ha⟩|⟨k,K,A,ht,ha⟩
  .exact .inl ⟨A,λ j u=>by rw[<-E j u];exact ha j u⟩
  .exact .inr ⟨k,K,by unfold Lib.idxBy;rw[A];simp,by rw[<-E k K];exact ht,λ j u=>by rw[<-E j (by omega)];exact ha j u⟩
def encF(i:Fin 4096):Value:=.int .i64 (i.val:Int)
def zud9:OneCell encF:=λ _=>rfl
def zua9(g:Nat)(O:Array Value)(p:Fin 4096->Bool)(v:Value)(xs:List Nat)(w:World)(h:OwnsK w v (xs.map Int.ofNat))(hx:∀n,n∈xs->n<4096)(eg:∀args w,(callFunc g args).run Tryz.prog w=.ok (.enter g args) w)
 (hp:∀(W:World)(x:Fin 4096),(∀k,k<w.heap.size->v.ownBlock≠some k->W.heap[k]?=w.heap[k]?)->FnGives Tryz.prog g O #[encF x] (.bool (p x)) W):
 Calls Tryz.prog 100 #[v,.func (.func g) #[] O] w λ e w'=>∃v',e=.returned v'/\OwnsK w' v' ((xs.filter λ n=>!p (Fin.ofNat 4096 n)).map Int.ofNat)/\v'.ownBlock=v.ownBlock/\Tch (λ k=>v.ownBlock=some k) w w':=by
 by_cases h0:v=.slice none 0 0
 .subst h0;have hl:(xs.map Int.ofNat).length=0:=by obtain⟨a,cap,e,_⟩:=h.rd;simp only[Value.slice.injEq]at e;omega
  have a7:xs=[]:=by simpa using hl
  subst a7;have HI:=zb0 (AnyE.slices_IndexFunc_empty Tryz.idxA none 0 (.func (.func g) #[] O) w);clear hp h
  go_enter Tryz.func100,Tryz.ntmps100
  go_wp2_with fail;refine HI.o.mono ?_;rintro e w' ⟨rfl,rfl⟩;go_wp2_with fail;go_ret;exact⟨_,rfl,zdv9 _ _ _,rfl,Tch.refl _ _⟩
 .obtain⟨b,cap,hv,a3,a4,Y⟩:∃b cap,v=.slice (some ⟨b,0,none⟩) xs.length cap/\xs.length<=cap/\cap<=maxLen/\Holds encF w b 0 (xs.map (Fin.ofNat 4096)).toArray:=by
   have T:=h;rcases T.2 with⟨e,_⟩|⟨g',c,a8,e,_,hg,h1,h2,h3,h4⟩
   .exact absurd e h0
   .refine⟨g',c,by rw[e];simp,by simpa using h1,h2,λ j hj=>?_⟩;(have a0:j<xs.length:=by simpa using hj);subst e;refine⟨?_,by rw[Nat.zero_add];exact T.frozenAt j⟩;rw[Nat.zero_add,T.cellAt j (by simpa using a0)];have:xs[j]<4096:=hx _ (za1 a0);simp[encF,a0,Nat.mod_eq_of_lt this]
  subst hv;have a2:(xs.map (Fin.ofNat 4096)).toArray.size=xs.length:=by simp
  have a6:∀(n:Nat)(Q:Array Obj) (A:Array (Fin 4096)),A.size=(xs.map (Fin.ofNat 4096)).toArray.size->∀k,k<w.heap.size->k≠b->(sortWorld encF w b 0 n A Q).heap[k]?=w.heap[k]?:=λ n Q A hd k E a1=>by unfold sortWorld;have e:=Lib.putRow_eq_setCells encF w b 0 (xs.map (Fin.ofNat 4096)).toArray A.toList n Y (by simpa using hd);rw[Array.toArray_toList]at e;rw[e];have t1:=zb9 b (A.toList.map encF) 0 (w.drewN n);rw[Sort.heap_grow_old _ _ (zn1 E t1.size),t1.block k E a1];rfl
  have H:=AnyE.slices_DeleteFunc (α:=Fin 4096) Tryz.delfA encF zud9 p g O eg 0 (λ w=>Tryz.zeroValue3 w) b 0 cap (xs.map (Fin.ofNat 4096)).toArray w (λ W x hb=>hp W x (λ k E _=>hb.block k E)) (λ n Q A x hd=>hp _ x (λ k E a1=>a6 n Q A hd k E (λ e=>a1 (by rw[e];rfl)))) Y (by rw[a2];unfold maxLen at a4;omega) (by rw[a2];exact a3);rw[a2]at H;refine H.mono ?_;rintro e w' ⟨rfl,q,rfl⟩;obtain⟨u,K⟩:=exN (xs.filter (λ n=>!p (Fin.ofNat 4096 n)));have a9:u.length<=xs.length:=by rw[<-K];exact List.length_filter_le _ _
  have e1:List.filter (λ x=>!p x) (xs.map (Fin.ofNat 4096)).toArray.toList=u.map (Fin.ofNat 4096):=by rw[<-K,List.toList_toArray,List.filter_map];rfl
  rw[e1,Lib.putRow_eq_setCells encF w b 0 (xs.map (Fin.ofNat 4096)).toArray _ q Y (by simp;omega)];have a5:∀n,n∈u->n<4096:=λ n I=>hx n (by rw[<-K]at I;exact(List.mem_filter.1 I).1);have e2:(u.map (Fin.ofNat 4096)++List.replicate (xs.length-(u.map (Fin.ofNat 4096)).length) 0).map encF=(u.map Int.ofNat++List.replicate (xs.length-u.length) 0).map (Value.int .i64):=by rw[zi1,zi1,List.map_map,List.map_map,zb1,List.map_replicate,List.map_replicate];congr 1;refine List.map_congr_left (λ n I=>?_);have:=a5 n I;simp[encF,Nat.mod_eq_of_lt this]
  rw[e2,zb1];have:=zjx9 q h (ys:=u.map Int.ofNat++List.replicate (xs.length-u.length) 0) (by simp;omega) (m:=u.length) (by simp);rw[List.take_append_of_le_length (by simp),zn5 (by simp)]at this;rw[K];exact⟨_,rfl,this.1,rfl,this.2.mono (λ k _ e=>by rw[e];rfl)⟩
