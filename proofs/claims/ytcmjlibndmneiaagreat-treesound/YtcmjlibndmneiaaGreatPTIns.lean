import Derived.Test.YtcmjlibndmneiaaGreatPTRow
import Derived.Test.YtcmjlibndmneiaaGreatPTLay
set_option maxRecDepth 100000
set_option linter.all false
set_option maxHeartbeats 8000000
namespace Go.Proofs.YtcmjlibndmneiaaGreat
open Go.RowKit Go.Sort Go.Shelf Pl
section
variable {B:Nat} {w:World}
def znp9(v:Value)(u:List Value)(i:Nat)(x:Value)(gv:Nat)(h:OwV B 9 w v u)(h1:∀y∈u,y.oneCell'=true)(hx:x.oneCell'=true)(hi:i<=u.length)(hl:u.length<=1000000)(hg:Rw 9 w gv [x])(ab:v.ownBlock≠some gv)(hB:B<=w.heap.size):
 Calls Tryz.prog 52 #[v,.int .i64 (i:Int),.slice (some ⟨gv,0,none⟩) 1 1] w λ e w'=>∃I,e=.returned I/\Trn B 9 w w' v I (u.take i++x::u.drop i):=by
 have a1:∀j y,[x][j]?=some y->w.cell? ⟨gv,0+j,none⟩=some y:=λ j y H=>by rw[Nat.zero_add,hg.cell];exact H
 have Y:∀y∈[x],y.oneCell'=true:=λ y hy=>by rw[List.mem_singleton.1 hy];exact hx
 have a3:∀(c:Nat)(A:List Value)(G:Nat)(w':World),G=grownCap w (u.length+1) c 9->Tch (λ k=>v.ownBlock=some k) w w'->Rw 9 w' w.heap.size A->A.length=G->A.take (u.length+1)=u.take i++x::u.drop i->
  Trn B 9 w w' v (.slice (some ⟨w.heap.size,0,none⟩) (u.length+1) G) (u.take i++x::u.drop i):=λ c A G w' O ht hr hc E=>
  ⟨hr.owV hB hc (by rw[O];exact grownCap_le_maxLen w _ _ _ (by unfold maxLen;omega)) (by rw[O];exact grownCap_ge w _ _ _) E,ht,λ k E=>.inr (by simp[Value.ownBlock]at E;omega)⟩
 have a2:∀(K:Option Addr)(c:Nat),v=.slice K u.length c->i=u.length->u.length<=c->c<u.length+1->(K=none->u.length=0)->(∀a,K=some a->∀j y,u[j]?=some y->w.cell? (a.add j)=some y)->
  Calls Tryz.prog 52 #[v,.int .i64 (i:Int),.slice (some ⟨gv,0,none⟩) 1 1] w λ e w'=>∃I,e=.returned I/\Trn B 9 w w' v I (u.take i++x::u.drop i):=λ K c hv a0 a8 ad a7 Q=>by
  subst a0;subst hv;refine(Any2.slices_Insert_string_end_grow Tryz.insS K u.length c gv 0 1 1 u [x] w (by omega) a8 (by omega) (by omega) rfl rfl a7 Q a1 Y).mono ?_;rintro e w' ⟨rfl,rfl⟩;refine⟨_,rfl,?_⟩;have a5:=grownCap_ge w (u.length+1) c 9;have er:((u++[x]).toArray++Builtin.zeroCells (Value.string ⟨#[]⟩).cells (grownCap w (u.length+1) c 9-(u.length+1)))=(u++[x]++List.replicate (grownCap w (u.length+1) c 9-(u.length+1)) (Value.string ⟨#[]⟩)).toArray:=by rw[<-zy9 (z:=Value.string ⟨#[]⟩) rfl];simp
  refine a3 c (u++[x]++List.replicate (grownCap w (u.length+1) c 9-(u.length+1)) (Value.string ⟨#[]⟩)) _ _ rfl ((zac9 _ w).trans (zdb9 _ _ _) (λ _ _ e=>e)) ?_ ?_ ?_
  .show Rw _ (w.drew.alloc (.cells ((u++[x]).toArray++Builtin.zeroCells (Value.string ⟨#[]⟩).cells (grownCap w (u.length+1) c 9-(u.length+1))) _)) _ _;rw[er];exact Rw.new w.drew _ _
  .have e9:Tryz.insS_ren.t 9=9:=rfl;rw[e9];simp;omega
  .rw[zab9 (by simp)];simp
 rcases h.rows with⟨rfl,rfl⟩|⟨g,cap,A,rfl,a4,hr,hn,hm,hc,E⟩
 .exact a2 none 0 rfl (by simpa using hi) (by simp) (by simp) (λ _=>rfl) (λ a e=>by cases e)
 .have Q:∀j y,u[j]?=some y->w.cell? ⟨g,0+j,none⟩=some y:=λ j y H=>by rw[Nat.zero_add,hr.cell];have aa:=(List.getElem?_eq_some_iff.1 H).1;rw[<-E,zv0,if_pos aa]at H;exact H
  have a9:gv≠g:=λ e=>ab (by rw[e];rfl);by_cases a0:i=u.length
  .by_cases T:u.length+1<=cap
   .subst a0;refine(Any2.slices_Insert_string_end_room Tryz.insS g 0 u.length cap gv 0 1 1 [x] w (by omega) T (by unfold maxLen at hm;omega) rfl (λ j H=>by rw[Nat.zero_add];exact hr.there (by omega)) (λ j H=>hr.fz _) a1 Y).mono ?_;rintro e w' ⟨rfl,rfl⟩;rw[Nat.zero_add];refine⟨_,rfl,?_,zb9 g _ _ _ |>.mono (λ k _ e=>by rw[e];rfl),λ k E=>.inl E⟩;have hs:=hr.set (o:=u.length) (vs:=[x]) (by simp;omega);refine hs.owV a4 (by simp;omega) hm T ?_;rw[E,<-zw0,zab9 (by simp)];simp
   .refine a2 (some ⟨g,0,none⟩) cap rfl a0 hn (by omega) (λ e=>by cases e) (λ a e j y H=>?_);cases e;rw[Addr.add_lit];exact Q j y H
  .have a6:i<u.length:=by omega
   (have ac:A.take i=u.take i:=by rw[<-E,zh1,Nat.min_eq_left hi]);by_cases T:u.length+1<=cap
   .refine(Any2.slices_Insert_string_shift Tryz.insS g 0 u.length cap i gv 0 1 1 u [x] w a6 (by omega) T (by unfold maxLen at hm;omega) a9 rfl rfl Q (λ j H=>by rw[Nat.zero_add];exact hr.there (by omega)) (λ j H=>hr.fz _) a1 h1 Y 9 9 1 A.length hg.shape hr.shape (by omega) (hg.fz _) (hg.fz _)).mono ?_;rintro e w' ⟨rfl,rfl⟩;rw[Nat.zero_add,Nat.zero_add];have s1:=hr.drew.set (o:=i+1) (vs:=u.drop i) (by simp;omega);have s2:=s1.set (o:=i) (vs:=[x]) (by simp;omega);refine⟨_,rfl,?_,((zac9 _ w).trans (zb9 g _ _ _) (λ _ _ e=>e)).trans (zb9 g _ _ _) (λ _ _ e=>e) |>.mono (λ k _ e=>by rw[e];rfl),λ k E=>.inl E⟩;refine s2.owV a4 (by simp;omega) hm T ?_
    have e1:(A.take (i+1)++(u.drop i++A.drop (i+1+(u.drop i).length))).take i=u.take i:=by rw[List.take_append_of_le_length (by simp;omega),zh1,Nat.min_eq_left (by omega),ac]
    have e2:(A.take (i+1)++(u.drop i++A.drop (i+1+(u.drop i).length))).drop (i + [x].length)=u.drop i++A.drop (i+1+(u.drop i).length):=zsm9 (by simp;omega);rw[e1,e2,show u.take i++([x]++(u.drop i++A.drop (i+1+(u.drop i).length)))=(u.take i++x::u.drop i)++A.drop (i+1+(u.drop i).length) by simp,zab9 (by simp;omega)]
   .refine(Any2.slices_Insert_string_grow Tryz.insS g 0 u.length cap i gv 0 1 1 u [x] w a6 (by omega) hn (by omega) (by omega) rfl rfl Q a1 h1 Y).mono ?_;rintro e w' ⟨rfl,rfl⟩;obtain⟨G,O⟩:=exN (grownCap w (u.length+1) cap 9);have a5:=grownCap_ge w (u.length+1) cap 9;show∃I,Ending.returned (.slice (some ⟨w.heap.size,0,none⟩) (u.length+1) (grownCap w (u.length+1) cap 9))=_/\Trn _ _ _ ((((w.alloc (.cells ((u.take i).toArray++Builtin.zeroCells (Value.string ⟨#[]⟩).cells (u.length+1-i)++Builtin.zeroCells (Value.string ⟨#[]⟩).cells (grownCap w (u.length+1) cap 9-(u.length+1))) 9)).drew.setCells w.heap.size i [x]).drew).setCells w.heap.size (i+1) (u.drop i)) _ _ _;rw[O]at a5 |-
    have er:((u.take i).toArray++Builtin.zeroCells (Value.string ⟨#[]⟩).cells (u.length+1-i)++Builtin.zeroCells (Value.string ⟨#[]⟩).cells (G-(u.length+1)))=(u.take i++(List.replicate (u.length+1-i) (Value.string ⟨#[]⟩)++List.replicate (G-(u.length+1)) (Value.string ⟨#[]⟩))).toArray:=by rw[<-zy9 (z:=Value.string ⟨#[]⟩) rfl,<-zy9 (z:=Value.string ⟨#[]⟩) rfl];simp
    rw[er];obtain⟨Z,hZ⟩:=exN ((List.replicate (u.length+1-i) (Value.string ⟨#[]⟩)++List.replicate (G-(u.length+1)) (Value.string ⟨#[]⟩)));(have lZ:Z.length=G-i:=by rw[<-hZ];simp;omega);rw[hZ];have r0:Rw 9 (w.alloc (.cells (u.take i++Z).toArray 9)).drew w.heap.size (u.take i++Z):=(Rw.new w _ _).drew;have s1:=r0.set (o:=i) (vs:=[x]) (by simp;omega);have s2:=s1.drew.set (o:=i+1) (vs:=u.drop i) (by simp;omega);have ta:Tch (λ k=>k=w.heap.size) w (w.alloc (.cells (u.take i++Z).toArray 9)).drew:=(zdb9 _ w _).trans (zac9 _ _) (λ _ _ e=>e);have tb:=((ta.trans (zb9 w.heap.size [x] i _) (λ _ _ e=>e)).trans (zac9 _ _) (λ _ _ e=>e)).trans (zb9 w.heap.size (u.drop i) (i+1) _) (λ _ _ e=>e)
    (refine⟨_,rfl,a3 cap _ G _ O.symm (tb.mono (λ k E e=>by omega)) s2 (by simp;omega) ?_⟩;have e1:((u.take i++Z).take i++([x]++(u.take i++Z).drop (i + [x].length))).take (i+1)=u.take i++[x]:=by rw[zab9 (a:=u.take i) (by simp;omega),<-zw0,zab9 (by simp;omega)]);rw[e1,show u.take i++[x]++(u.drop i++((u.take i++Z).take i++([x]++(u.take i++Z).drop (i + [x].length))).drop (i+1+(u.drop i).length))=(u.take i++x::u.drop i)++((u.take i++Z).take i++([x]++(u.take i++Z).drop (i + [x].length))).drop (i+1+(u.drop i).length) by simp,zab9 (by simp;omega)]
def zmr9(v:Value)(u:List ByteArray)(i:Nat)(h:OwV B 9 w v (strs u))(hi:i<u.length):
 Calls Tryz.prog 55 #[v,.int .i64 (i:Int),.int .i64 ((i:Int)+1)] w λ e w'=>∃v',e=.returned v'/\Trn B 9 w w' v v' (strs (u.take i++u.drop (i+1))):=by
 rcases h.rows with⟨rfl,O⟩|⟨g,cap,K,rfl,a0,hr,T,Q,hc,I⟩
 .rw[strs]at O;rw[List.map_eq_nil_iff]at O;subst O;simp at hi
 .rw[zh9]at T I |-
  have a1:∀j,j<u.length->w.cell? ⟨g,0+j,none⟩=some (.string (u.getD j ⟨#[]⟩)):=λ j A=>by (have:K[j]?=some (.string (u.getD j ⟨#[]⟩)):=by (have E:(K.take u.length)[j]?=(strs u)[j]?:=by rw[I]);rw[zv0,if_pos A]at E;rw[E,strs,zd1,zc0 A];simp[zn3,A]);rw[Nat.zero_add,hr.cell];exact this
  have H:=AnyG.slices_Delete_string_cells Tryz.delS g 0 u.length cap i (i+1) (λ j=>u.getD j ⟨#[]⟩) w T (by unfold maxLen at Q;omega) (by omega) (by omega) a1 (λ j A=>hr.fz _);refine H.mono ?_;rintro e w' ⟨rfl,q,rfl⟩;have e0:(Lib.strsOf (λ j=>u.getD j ⟨#[]⟩) u.length).map encStr=strs u:=by
   apply List.ext_getElem
   .simp[Lib.strsOf_length,strs]
   .intro j h1 E;(have A:j<u.length:=by simpa[strs]using E);simp[Lib.strsOf,strs,encStr,zn3,A]
  have e1:((Lib.strsOf (λ j=>u.getD j ⟨#[]⟩) u.length).take i++(Lib.strsOf (λ j=>u.getD j ⟨#[]⟩) u.length).drop (i+1)++List.replicate (i+1-i) []).map encStr=strs (u.take i++u.drop (i+1))++[encStr []]:=by rw[zi1,zi1,List.map_take,List.map_drop,e0,show i+1-i=1 by omega];simp[strs,List.map_take,List.map_drop]
  have Y:(strs (u.take i++u.drop (i+1))++[encStr []]).length=u.length:=by rw[zf0,zh9];simp;omega
  rw[e1];have a2:Rw 9 (w.drewN q) g K:=hr;have s1:=a2.set (o:=0) (vs:=strs (u.take i++u.drop (i+1))++[encStr []]) (by rw[Y];omega);have t0:Tch (λ k=>k=g) w (w.drewN q):=⟨rfl,rfl,rfl,zn6 _,λ _ _ _=>rfl⟩
  refine⟨_,rfl,s1.owV a0 ?_ Q (by omega) ?_,(t0.trans (zb9 g _ 0 _) (λ _ _ e=>e)).mono (λ k _ e=>by rw[e];rfl),λ k I=>.inl I⟩
  .rw[List.take_zero,List.nil_append,zf0,Y,zj0];omega
  .rw[List.take_zero,List.nil_append,zw0,zab9 (by rw[zh9];simp;omega)]
end
