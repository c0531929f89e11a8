import Derived.Test.YtcmjlibndmneiaaGreatPTRow
import Derived.Shelf.Spec.SlicesInsert
set_option maxRecDepth 100000
set_option linter.all false
set_option maxHeartbeats 8000000
namespace Go.Proofs.YtcmjlibndmneiaaGreat
open Go.RowKit Pl
section
variable {SL EL:TypeId} {Z:Value} {BY F OV:Nat} {B:Nat} {w:World}
inductive KdQ:TypeId->TypeId->Value->Nat->Nat->Nat->Prop
 | s:KdQ 91 9 (.string ⟨#[]⟩) 16 163 83
 | i:KdQ 56 3 (.int .i64 0) 8 164 183
def KdQ.un(K:KdQ SL EL Z BY F OV):Tryz.prog.underlying SL=some (.slice EL):=by
 cases K
 .exact Tryz.underlying91
 .exact Tryz.underlying56
def KdQ.inf(K:KdQ SL EL Z BY F OV):(Tryz.prog.info? EL).map (·.size)=some 1:=by cases K<;>kernel_rfl
def KdQ.in3(K:KdQ SL EL Z BY F OV):(Tryz.prog.info? EL).map (λ i=>(i.zero,i.size,i.bytes))=some (some Z,1,BY):=by cases K<;>kernel_rfl
def KdQ.zv(K:KdQ SL EL Z BY F OV)(w:World):(zeroValue EL).run Tryz.prog w=.ok Z w:=by cases K<;>kernel_rfl
def KdQ.z1(K:KdQ SL EL Z BY F OV):Z.cells=#[Z]:=by cases K<;>rfl
def KdQ.z2(K:KdQ SL EL Z BY F OV):Z.oneCell'=true:=by cases K<;>rfl
def KdQ.by16(K:KdQ SL EL Z BY F OV):BY<=16:=by cases K<;>decide
def KdQ.infE(K:KdQ SL EL Z BY F OV):∃u,Tryz.prog.info? EL=some u/\u.zero=some Z/\u.size=1/\u.bytes=BY:=by
 cases K
 .exact info_parts (z:=.string ⟨#[]⟩) (size:=1) (bytes:=16) (by kernel_rfl)
 .exact info_parts (z:=.int .i64 0) (size:=1) (bytes:=8) (by kernel_rfl)
def Trn.from{w W u:World}{v E:Value}{A:List Value}{q:Nat}(h:Trn B EL W u v E A)(H:w.drewN q=W):Trn B EL w u v E A:=by
 subst H;have K:Tch (λ k=>v.ownBlock=some k) w (w.drewN q):=⟨rfl,rfl,rfl,zn6 _,λ _ _ _=>rfl⟩
 exact⟨h.ow,K.trans h.tc (λ _ _ e=>e),λ k I=>(h.fs k I).imp id (λ e=>e)⟩
def copyQ(K:KdQ SL EL Z BY F OV){w:World}{g I:Nat}{cur A:List Value}(hr:Rw EL w g cur)(hs:Rw EL w I A)(o u k H O sl T:Nat)(hk:k=Nat.min sl H)(ho:o+k<=cur.length)(a1:u+k<=A.length)(Y:∀y∈(A.drop u).take k,y.oneCell'=true)(ty:TypeId):
 (Builtin.copy_ #[SL,SL] ty #[.slice (some ⟨g,o,none⟩) H O,.slice (some ⟨I,u,none⟩) sl T]).run Tryz.prog w=.ok (goInt k) (w.setCells g o ((A.drop u).take k)):=by
 have Q:((A.drop u).take k).length=k:=by simp;omega
 have:=run_copy_cells (P:=Tryz.prog) w SL SL ty EL g o H O ⟨I,u,none⟩ sl T ((A.drop u).take k) K.un K.inf (by rw[Q,hk])
  (λ j y E=>by
   rw[Addr.add_lit,hs.cell];have a0:=(List.getElem?_eq_some_iff.1 E).1;rw[zv0,if_pos (by omega),zu0]at E;exact E)
  (λ j E=>hr.there (by omega)) (λ j E=>hr.fz _) Y
 rw[Q]at this;exact this
def zwp9(K:KdQ SL EL Z BY F OV)(w:World)(a:Option Addr)(A u:Nat)(ty:TypeId):(Builtin.copy_ #[SL,SL] ty #[.slice a A u,.slice none 0 0]).run Tryz.prog w=.ok (.int .i64 0) w:=by
 have I:(sizeOf EL).run Tryz.prog w=.ok 1 w:=by obtain⟨i,H,h⟩:=Option.map_eq_some_iff.1 K.inf;simp[sizeOf,typeInfo,H,h]
 have E:=run_firstCells_none (P:=Tryz.prog) w 1 0 0 0;cases a<;>simp[Builtin.copy_,run_underlying K.un,I,Result.andThen,goInt,Builtin.lenOf,E,storeCells]
def clearQ(K:KdQ SL EL Z BY F OV){w:World}{g:Nat}{cur:List Value}(hr:Rw EL w g cur)(o k c:Nat)(A:0<k)(E:o+k<=cur.length)(ty:TypeId):
 (Builtin.clear_ #[SL] ty #[.slice (some ⟨g,o,none⟩) k c]).run Tryz.prog w=.ok (.tuple #[]) (w.setCells g o (List.replicate k Z)):=
 Lib.run_clear_slice w _ _ ty _ K.un K.zv K.z1 K.z2 g o k c A (λ j u=>hr.there (by omega)) (λ j u=>hr.fz _)
def InQ(EL:TypeId)(w:World)(u:Value)(ys:List Value)(g:Nat):Prop:=(u=.slice none 0 0/\ys=[])\/∃gu cu src,u=.slice (some ⟨gu,0,none⟩) ys.length cu/\Rw EL w gu src/\gu≠g/\src.take ys.length=ys/\ys.length<=src.length
def InQ.src(K:KdQ SL EL Z BY F OV){u:Value}{ys:List Value}{g:Nat}(h:InQ EL w u ys g)(I:∀y∈ys,y.oneCell'=true):Go.Src Tryz.prog 1 SL u ys.length ys w:=by
 rcases h with⟨rfl,rfl⟩|⟨H,E,Y,rfl,hr,_,Q,T⟩
 .exact Src.ofNil w K.un 0
 .exact Src.ofSlice w K.un ⟨H,0,none⟩ _ E ys (by simp) (λ j y A=>by
   rw[Addr.add_lit,Nat.zero_add,hr.cell];have O:=(List.getElem?_eq_some_iff.1 A).1;rw[<-Q,zv0,if_pos O]at A;exact A) I
def repAQ(K:KdQ SL EL Z BY F OV)(g cap i n:Nat)(u:Value)(cur ys:List Value)(hr:Rw EL w g cur)(hu:InQ EL w u ys g)(h1:∀y∈ys,y.oneCell'=true)(hi:i<n)(hn:n<=cap)(hc:cur.length=cap)(hm:cap<=9223372036854775807)(E:i+ys.length<=cap)(hB:B<=g):
 Calls Tryz.prog F #[.slice (some ⟨g,0,none⟩) n cap,.int .i64 (i:Int),.int .i64 (n:Int),u] w λ e w'=>∃v',e=.returned v'/\Trn B EL w w' (.slice (some ⟨g,0,none⟩) n cap) v' (cur.take i++ys):=by
 have a5:=za0 K.un;have a4:=za0 K.in3;have hs:=hu.src K h1;have HR:=za0 hr;obtain⟨m,A⟩:=exN ys.length;have HM:=za0 A;obtain⟨ua,uc,rfl⟩:∃a c,u=.slice a ys.length c:=by rcases hu with⟨rfl,rfl⟩|⟨gu,cu,ap,rfl,_⟩<;>exact⟨_,_,rfl⟩
 rw[A]at hs E |-
 have ao:¬((i:Int)=(n:Int)):=by omega
 have ag:(i:Int)<=(n:Int):=by omega
 have af:(i:Int)<=(cap:Int):=by omega
 have H:Hid (Rw EL (w.setCells g i ys) g (cur.take i++(ys++cur.drop (i+ys.length)))):=hr.set (by rw[A];omega);have T:Hid (Tch (λ k=>(Value.slice (some ⟨g,0,none⟩) n cap).ownBlock=some k) w (w.setCells g i ys)):=(zb9 g _ _ _).mono (λ k _ e=>by rw[e];rfl);obtain⟨Y,a0⟩:=exN (w.setCells g i ys);rw[a0]at H T;have HS:=za0 hs;have O:=za0 hm;have e1:(cur.take i++(ys++cur.drop (i+ys.length))).length=cap:=by simp;omega
 have a9:Hid (Trn B EL w Y (.slice (some ⟨g,0,none⟩) n cap) (.slice (some ⟨g,0,none⟩) (i+m) cap) (cur.take i++ys)):=
  ⟨H.o.owV hB e1 (by unfold maxLen;exact O.o) E (by rw[<-zw0,zab9 (by simp;omega)]),T.o,λ k hk=>.inl hk⟩
 have a7:∀j,j<ys.length->(w.cell? ⟨g,0+i+j,none⟩).isSome=true:=λ j hj=>by rw[Nat.zero_add];exact hr.there (by omega)
 have a3:=za0 a7;have Q:=za0 E;have I:=za0 e1;have ab:=za0 hB;have a6:=za0 a0;clear hs hu hr a7 A e1 hm E a0;by_cases a8:i+m<n
 .have ah:IntKind.i64.wrap ((i+m:Nat):Int)=((i+m:Nat):Int):=by have:=O.o;rw[IntKind.wrap_i64];omega
  have ai:((i+m:Nat):Int)<(n:Int):=by omega
  have al:(i:Int)+(m:Int)<(n:Int):=by omega
  have ac:decide ((i:Int)+(m:Int)<(n:Int))=true:=by rw[zm0];omega
  have aj:((i+m:Nat):Int)<=(n:Int):=by omega
  have ad:(i:Int)+(m:Int)<=(n:Int):=by omega
  have am:(0:Int)<=(i:Int)+(m:Int):=by omega
  have an:((i:Int)+(m:Int)).toNat=i+m:=by omega
  have ak:¬(cap=i+m):=by omega
  have cl:=clearQ K H.o (i+m) (n-(i+m)) (cap-(i+m)) (by omega) (by rw[I.o];omega);have a2:=za0 cl;obtain⟨W2,a1⟩:=exH (Y.setCells g (i+m) (List.replicate (n-(i+m)) Z));rw[a1.o]at a2;have aa:Hid (Trn B EL w W2 (.slice (some ⟨g,0,none⟩) n cap) (.slice (some ⟨g,0,none⟩) (i+m) cap) (cur.take i++ys)):=by have s2:=H.o.set (o:=i+m) (vs:=List.replicate (n-(i+m)) Z) (by rw[I.o];simp;omega);rw[a1.o]at s2;have hy:=HM.o;(have t2:Tch (λ k=>k=g) Y W2:=by rw[<-a1.o];exact zb9 g _ _ _);have e3:=I.o;refine⟨s2.owV ab.o (by simp at e3 |-;omega) (by unfold maxLen;exact O.o) Q.o ?_,T.o.trans t2 (λ k _ e=>by rw[e];rfl),λ k hk=>.inl hk⟩;rw[zab9 (by simp at e3 |-;omega),<-zw0,zab9 (by simp;omega)]
  clear cl a8;have ae:=a2.o;cases K
  go_enter Tryz.func163,Tryz.ntmps163
  rotate_left
  go_enter Tryz.func164,Tryz.ntmps164
  all_goals
   go_wp2_with(first|(at_builtin;refine wpList_append_room1 _ rfl (.tmp 32) (.tmp 33) _ _ rfl _ _ _ a5.o a4.o g 0 i cap rfl _ rfl m ys HS.o Q.o a3.o (λ j hj=>HR.o.fz _) ?_;rw[Nat.zero_add,a6.o]))
   go_ret;exact⟨_,rfl,aa.o⟩
 .have ac:decide ((i:Int)+(m:Int)<(n:Int))=false:=by rw[zn4];omega
  have ad:decide (i+m<n)=false:=by rw[zn4];omega
  clear a8;cases K
  go_enter Tryz.func163,Tryz.ntmps163
  rotate_left
  go_enter Tryz.func164,Tryz.ntmps164
  all_goals
   go_wp2_with(at_builtin;refine wpList_append_room1 _ rfl (.tmp 32) (.tmp 33) _ _ rfl _ _ _ a5.o a4.o g 0 i cap rfl _ rfl m ys HS.o Q.o a3.o (λ j hj=>HR.o.fz _) ?_;rw[Nat.zero_add,a6.o])
   go_ret;exact⟨_,rfl,a9.o⟩
def ztu9(K:KdQ SL EL Z BY F OV)(w:World)(a:Option Addr)(c:Nat)(ty:TypeId):(Builtin.clear_ #[SL] ty #[.slice a 0 c]).run Tryz.prog w=.ok (.tuple #[]) w:=by cases a<;>simp[Builtin.clear_,run_underlying K.un,K.zv,Result.andThen,Builtin.zeroCells,storeCells]
def InQ.shape{u:Value}{ys:List Value}{g:Nat}(h:InQ EL w u ys g):∃a c,u=.slice a ys.length c:=by rcases h with⟨rfl,rfl⟩|⟨E,A,H,rfl,_⟩<;>exact⟨_,_,rfl⟩
def InQ.row{u:Value}{ys:List Value}{g:Nat}(h:InQ EL w u ys g)(I:0<ys.length):∃A H E,u=.slice (some ⟨A,0,none⟩) ys.length H/\Rw EL w A E/\A≠g/\E.take ys.length=ys/\ys.length<=E.length:=by
 rcases h with⟨rfl,rfl⟩|h
 .simp at I
 .exact h
def zso9(K:KdQ SL EL Z BY F OV){g cap i:Nat}{cur:List Value}(hr:Rw EL w g cur)(hi:i<=cur.length):(Builtin.firstCells 1 i (.slice (some ⟨g,0,none⟩) i cap)).run Tryz.prog w.drew=.ok (cur.take i).toArray w.drew:=
 run_firstCells_some w.drew 1 i ⟨g,0,none⟩ i cap (cur.take i) (by rw[zg0];omega) (λ j v u=>by
  rw[Addr.add_lit,Nat.zero_add,hr.drew.cell];rw[zv0]at u;split at u
  .exact u
  .cases u)
def repBQ(K:KdQ SL EL Z BY F OV)(g cap i n:Nat)(u:Value)(cur ys:List Value)(hr:Rw EL w g cur)(T:InQ EL w u ys g)(h1:∀y∈ys,y.oneCell'=true)(hi:i<n)(hn:n<=cap)(hc:cur.length=cap)(hm:cap<=9223372036854775807)(A:cap<i+ys.length)(a4:ys.length<=1000000)(ab:n<=1000000)(hB:B<=w.heap.size):
 Calls Tryz.prog F #[.slice (some ⟨g,0,none⟩) n cap,.int .i64 (i:Int),.int .i64 (n:Int),u] w λ e w'=>∃v',e=.returned v'/\Trn B EL w w' (.slice (some ⟨g,0,none⟩) n cap) v' (cur.take i++ys):=by
 obtain⟨i0,a3,a5,Y,a6⟩:=K.infE;have Q:=T.src K h1;obtain⟨ua,uc,rfl⟩:=T.shape;obtain⟨m,O⟩:=exN ys.length;have HM:=za0 O;rw[O]at Q A a4 |-
 have E:∀ty,(Builtin.append_ #[SL,SL] ty #[.slice (some ⟨g,0,none⟩) i cap,.slice ua m uc]).run Tryz.prog w=_:=λ ty=>run_append_grow_src w SL SL ty EL i0 _ K.un a3 a5 (some ⟨g,0,none⟩) i cap (cur.take i) (by rw[Y];exact zso9 K hr (by omega)) _ m ys (by rw[Y];exact Q) A (by omega) (by rw[a6];exact growslice_fits A (zn2 (Nat.mul_le_mul_left _ K.by16) (by omega)));obtain⟨G,hG⟩:=exN (grownCap w (i+m) cap EL);have H:=grownCap_ge w (i+m) cap EL;have I:=grownCap_le_maxLen w (i+m) cap EL (by unfold maxLen;omega);rw[hG]at E H I;have er:(((cur.take i++ys).toArray++Builtin.zeroCells (Z:Value).cells (G-(i+m))))=(cur.take i++ys++List.replicate (G-(i+m)) Z).toArray:=by rw[<-zy9 K.z1];simp
 rw[er]at E;have a1:=za0 E;have a0:Hid (Trn B EL w (w.drew.alloc (.cells (cur.take i++ys++List.replicate (G-(i+m)) Z).toArray EL)) (.slice (some ⟨g,0,none⟩) n cap) (.slice (some ⟨w.heap.size,0,none⟩) (i+m) G) (cur.take i++ys)):=by refine⟨Rw.owV (cur:=cur.take i++ys++List.replicate (G-(i+m)) Z) (Rw.new w.drew _ _) hB (by simp;omega) I H (by rw[zab9 (by simp;omega)]),(zac9 _ w).trans (zdb9 _ _ _) (λ _ _ e=>e),λ k hk=>.inr (by simp[Value.ownBlock]at hk;omega)⟩
 obtain⟨W1,a2⟩:=exN (w.drew.alloc (.cells (cur.take i++ys++List.replicate (G-(i+m)) Z).toArray EL));rw[a2]at a1 a0;have ac:¬((i:Int)=(n:Int)):=by omega
 have a8:(i:Int)<=(n:Int):=by omega
 have a7:(i:Int)<=(cap:Int):=by omega
 have a9:decide ((i:Int)+(m:Int)<(n:Int))=false:=by rw[zn4];omega
 have aa:decide (i+m<n)=false:=by rw[zn4];omega
 clear Q T hr E er O a2 hG H I hm A a4 a3 a5 Y a6;cases K
 go_enter Tryz.func163,Tryz.ntmps163
 rotate_left
 go_enter Tryz.func164,Tryz.ntmps164
 all_goals
  go_wp2_with(at_builtin;refine Lib.wpList_append_run _ rfl _ _ _ _ rfl _ _ rfl rfl _ _ (a1.o _) ?_)
  go_ret;exact⟨_,rfl,a0.o⟩
def MemCQ(SL EL:TypeId)(B NB g cap i j n m T:Nat)(u:Value)(cur ys:List Value)(w:World):Prop:=
 ∃G W1 W2 W3,(∀ty,(Builtin.append_ #[SL,3] ty #[.slice (some ⟨g,0,none⟩) i cap,.int .i64 ((T:Int)-(i:Int))]).run Tryz.prog w=.ok (.slice (some ⟨NB,0,none⟩) (T) G) W1)/\(∀ty,(Builtin.copy_ #[SL,SL] ty #[.slice (some ⟨NB,i,none⟩) (T-i) (G-i),u]).run Tryz.prog W1=.ok (goInt m) W2)/\
  (∀ty,(Builtin.copy_ #[SL,SL] ty #[.slice (some ⟨NB,i+m,none⟩) (T-(i+m)) (G-(i+m)),.slice (some ⟨g,j,none⟩) (n-j) (cap-j)]).run Tryz.prog W2.drew=.ok (goInt ((n-j:Nat):Int)) W3)/\
  Trn B EL w W3 (.slice (some ⟨g,0,none⟩) n cap) (.slice (some ⟨NB,0,none⟩) (T) G) (cur.take i++(ys++(cur.drop j).take (n-j)))/\T<=G/\G<=9223372036854775807
def memCQ(K:KdQ SL EL Z BY F OV)(g cap i j n:Nat)(u:Value)(cur ys:List Value)(hr:Rw EL w g cur)(hu:InQ EL w u ys g)(h1:∀y∈ys,y.oneCell'=true)(ad:∀y∈(cur.drop j).take (n-j),y.oneCell'=true)(hi:i<j)(hj:j<n)(hn:n<=cap)(hc:cur.length=cap)(hm:cap<=9223372036854775807)(a8:cap<i+ys.length+(n-j))(am:ys.length<=1000000)(au:n<=1000000)(hB:B<=w.heap.size)(NB m T:Nat)(af:w.heap.size=NB)(a7:ys.length=m)(hT:i+m+(n-j)=T):MemCQ SL EL B NB g cap i j n m T u cur ys w:=by
 obtain⟨i0,aj,an,ao,aa⟩:=K.infE;obtain⟨gu,uc,ab,rfl,a9,ar,Q,al⟩:=hu.row (by omega);have ae:∀y∈ab.take m,y.oneCell'=true:=by rw[<-a7,Q];exact h1
 rw[a7]at a8 am Q al |-
 rw[hT]at a8;have H:∀E,(Builtin.append_ #[SL,3] E #[.slice (some ⟨g,0,none⟩) i cap,.int .i64 (T-i:Nat)]).run Tryz.prog w=_:=λ E=>Lib.run_append_grow_zeros w SL 3 E EL i0 _ .i64 .i64 K.un Tryz.underlying3 aj an (some ⟨g,0,none⟩) i cap (cur.take i) (by rw[ao];exact zso9 K hr (by omega)) (T-i) (by omega) (by omega) (by omega) (by omega) (by rw[aa];exact zn2 (Nat.mul_le_mul_left _ K.by16) (by omega)) (by rw[aa];exact growslice_fits (by omega) (zn2 (Nat.mul_le_mul_left _ K.by16) (by omega)));have ak:i+(T-i)=T:=by omega
 rw[ak]at H;obtain⟨G,hG⟩:=exN (grownCap w T cap EL);have a5:=grownCap_ge w T cap EL;have a2:=grownCap_le_maxLen w T cap EL (by unfold maxLen;omega);rw[hG]at H a5 a2;have er:((cur.take i).toArray++Builtin.zeroCells (Z:Value).cells (T-i)++Builtin.zeroCells (Z:Value).cells (G-T))=(cur.take i++(List.replicate (T-i) Z++List.replicate (G-T) Z)).toArray:=by rw[<-zy9 K.z1,<-zy9 K.z1];simp
 rw[er]at H;obtain⟨A,a4⟩:=exN (List.replicate (T-i) Z++List.replicate (G-T) Z);have lZ:A.length=G-i:=by rw[<-a4];simp;omega
 rw[a4]at H;have r0:Rw EL (w.drew.alloc (.cells (cur.take i++A).toArray EL)) w.heap.size (cur.take i++A):=Rw.new w.drew _ _;have ta:Tch (λ k=>k=w.heap.size) w (w.drew.alloc (.cells (cur.take i++A).toArray EL)):=(zac9 _ w).trans (zdb9 _ _ _) (λ _ _ e=>e);obtain⟨Y,ag⟩:=exN (w.drew.alloc (.cells (cur.take i++A).toArray EL));rw[ag]at H r0 ta;have ah:g≠w.heap.size:=by have:=hr.lt;omega
 have ai:gu≠w.heap.size:=by have:=a9.lt;omega
 have a6:(cur.take i++A).length=G:=by simp;omega
 have aq:=a9.tch ta ai;have a0:=λ E=>copyQ K r0 aq i 0 m (T-i) (G-i) m uc (by simp only[Nat.min_def];split<;>omega) (by rw[a6];omega) (by omega) (by rw[List.drop_zero];exact ae) E;have I:=r0.set (o:=i) (vs:=(ab.drop 0).take m) (by rw[a6,List.drop_zero,zg0];omega);rw[List.drop_zero,Q]at I;simp only[List.drop_zero,Q]at a0;have tb:=ta.trans (zb9 w.heap.size ys i Y) (λ _ _ e=>e);obtain⟨W2,a3⟩:=exN (Y.setCells w.heap.size i ys);rw[a3]at I tb;simp only[a3]at a0;have ap:=hr.tch tb ah;obtain⟨O,a1⟩:=exN ((cur.take i++A).take i++(ys++(cur.take i++A).drop (i+ys.length)));rw[a1]at I;have av:O.length=G:=by rw[<-a1];simp;omega
 have ac:=λ E=>copyQ K I.drew ap.drew (i+m) j (n-j) (T-(i+m)) (G-(i+m)) (n-j) (cap-j) (by simp only[Nat.min_def];split<;>omega) (by omega) (by omega) ad E;have s2:=I.drew.set (o:=i+m) (vs:=(cur.drop j).take (n-j)) (by simp;omega);have td:=(tb.trans (zac9 _ W2) (λ _ _ e=>e)).trans (zb9 w.heap.size ((cur.drop j).take (n-j)) (i+m) W2.drew) (λ _ _ e=>e);subst af;refine⟨G,Y,W2,_,by rw[show(T:Int)-(i:Int)=((T-i:Nat):Int) by omega];exact H,a0,ac,⟨s2.owV hB (by simp;omega) a2 a5 ?_,td.mono (λ k hk e=>by omega),λ k hk=>.inr (by simp[Value.ownBlock]at hk;omega)⟩,by omega,by unfold maxLen at a2;omega⟩;have e1:O.take (i+m)=cur.take i++ys:=by
  rw[<-a1,zab9 (a:=cur.take i) (by simp;omega),<-zw0,zab9 (by simp;omega)]
 rw[e1,show cur.take i++ys++((cur.drop j).take (n-j)++O.drop (i+m+((cur.drop j).take (n-j)).length))=(cur.take i++(ys++(cur.drop j).take (n-j)))++O.drop (i+m+((cur.drop j).take (n-j)).length) by simp,zab9 (by simp;omega)]
end
section
variable {SL EL:TypeId} {Z:Value} {BY F OV:Nat} {B:Nat} {w:World}
def repCQ(K:KdQ SL EL Z BY F OV)(g cap i j n:Nat)(u:Value)(cur ys:List Value)(hr:Rw EL w g cur)(Y:InQ EL w u ys g)(h1:∀y∈ys,y.oneCell'=true)(a2:∀y∈(cur.drop j).take (n-j),y.oneCell'=true)(hi:i<j)(hj:j<n)(hn:n<=cap)(hc:cur.length=cap)(hm:cap<=9223372036854775807)(Q:cap<i+ys.length+(n-j))(a0:ys.length<=1000000)(a8:n<=1000000)(hB:B<=w.heap.size):
 Calls Tryz.prog F #[.slice (some ⟨g,0,none⟩) n cap,.int .i64 (i:Int),.int .i64 (j:Int),u] w λ e w'=>∃v',e=.returned v'/\Trn B EL w w' (.slice (some ⟨g,0,none⟩) n cap) v' (cur.take i++(ys++(cur.drop j).take (n-j))):=by
 obtain⟨ua,uc,rfl⟩:=Y.shape;obtain⟨I,a5⟩:=exN w.heap.size;obtain⟨m,E⟩:=exN ys.length;obtain⟨T,O⟩:=exN (i+m+(n-j));have H:Hid (∀W,(∃q,W=w.drewN q)->MemCQ SL EL B I g cap i j n m T (.slice ua ys.length uc) cur ys W):=λ W A=>by obtain⟨q,rfl⟩:=A;exact memCQ (B:=B) (w:=w.drewN q) K g cap i j n (.slice ua ys.length uc) cur ys hr (by exact Y) h1 a2 hi hj hn hc hm Q a0 a8 hB I m T a5 E O
 clear a5;have HM:=za0 E;rw[E]at Q a0 H |-
 have a1:=za0 O;have z1:¬((i:Int)=(j:Int)):=by omega
 have z2:(i:Int)<=(j:Int):=by omega
 have z3:(j:Int)<=(cap:Int):=by omega
 have z4:¬((j:Int)=(n:Int)):=by omega
 have z5:(i:Int)<=(cap:Int):=by omega
 have z6:(j:Int)<=(n:Int):=by omega
 have z7:¬(cap=j):=by omega
 have z8:¬(cap=i):=by omega
 have ab:Tryz.prog.follows .mixedOrders=true:=by kernel_rfl
 have g3:(i:Int)<=(T:Int):=by omega
 have g4:(i:Int)+(m:Int)<=(T:Int):=by omega
 have g5:((i+m:Nat):Int)<=(T:Int):=by omega
 have g6:(0:Int)<=(i:Int)+(m:Int):=by omega
 have g7:((i:Int)+(m:Int)).toNat=i+m:=by omega
 have g8:i<=T:=by omega
 have t1:(i:Int)+(m:Int)+((n-j:Nat):Int)=((T:Nat):Int):=by omega
 have t2:T<=4611686018427387904:=by omega
 have t3:(T:Int)-(i:Int)=((T-i:Nat):Int):=by omega
 have w3:(T:Int) > (cap:Int):=by omega
 have w4:(cap:Int)<(T:Int):=by omega
 have t4:-4611686018427387904<=(i:Int)+(m:Int)/\(i:Int)+(m:Int)<=4611686018427387904:=by omega
 have t5:-4611686018427387904<=(T:Int)-(i:Int)/\(T:Int)-(i:Int)<=4611686018427387904:=by omega
 have w6:=zu9 t1 t2;have w7:=zej9 t5.1 t5.2;have w8:=zej9 t4.1 t4.2;clear t1 t2 t3 t4 t5;clear Y hr E O Q a0 h1 a2 hm hc;cases K
 go_enter Tryz.func163,Tryz.ntmps163
 rotate_left
 go_enter Tryz.func164,Tryz.ntmps164
 all_goals
  go_wp2_with fail;go_quiet (fail);obtain⟨W,A⟩:=exN (w.drewN nq);obtain⟨G,W1,W2,W3,hA,a3,a4,hF,a9,aa⟩:=H.o W ⟨nq,A.symm⟩;have HF:=za0 (hF.from A);have HA:=za0 hA;have a6:=za0 a3;have a7:=za0 a4;have g1:¬(G=i):=by have:=a1.o;clear w6 w7 w8;omega
  have g2:¬(G=i+m):=by have:=a1.o;clear w6 w7 w8;omega
  rw[A];clear hA a3 a4 hF H A;go_wp2_with(first
   | (at_builtin;refine Lib.wpList_append_run _ rfl _ _ _ _ rfl _ _ rfl rfl _ _ (HA.o _) ?_)
   | (with_reducible (show wpList _ _ _ (Oper.mk _ (Op.call _) _ _ _ _::_) _ _);refine wpList_copy_runI _ rfl (.tmp 70) (.tmp 71) _ _ rfl _ _ rfl rfl (a6.o _) ?_))
  go_region_law_o (refine step_copy_runI rfl (.tmp 78) (.tmp 81) _ _ rfl (.slice (some ⟨I,i+m,none⟩) (T-(i+m)) (G-(i+m))) (.slice (some ⟨g,j,none⟩) (n-j) (cap-j)) (by simp[Act.eval,Act.put]) (by simp[Act.eval,Act.put]) (a7.o _) ?_)
  go_wp2_with fail;go_ret;exact⟨_,rfl,HF.o⟩
end
section
variable {SL EL:TypeId} {Z:Value} {BY F OV:Nat} {B:Nat} {w:World}
def MemDQ(SL EL:TypeId)(B g cap i j n m T:Nat)(u:Value)(cur ys:List Value)(w:World):Prop:=
 ∃W2 W3 W4,(∀ty,(Builtin.copy_ #[SL,SL] ty #[.slice (some ⟨g,i,none⟩) (T-i) (cap-i),u]).run Tryz.prog w=.ok (goInt m) W2)/\
  (∀ty,(Builtin.copy_ #[SL,SL] ty #[.slice (some ⟨g,i+m,none⟩) (T-(i+m)) (cap-(i+m)),.slice (some ⟨g,j,none⟩) (n-j) (cap-j)]).run Tryz.prog W2.drew=.ok (goInt ((n-j:Nat):Int)) W3)/\
  (T<n->∀ty,(Builtin.clear_ #[SL] ty #[.slice (some ⟨g,T,none⟩) (n-T) (cap-T)]).run Tryz.prog W3=.ok (.tuple #[]) W4)/\(¬T<n->W4=W3)/\
  Trn B EL w W4 (.slice (some ⟨g,0,none⟩) n cap) (.slice (some ⟨g,0,none⟩) T cap) (cur.take i++(ys++(cur.drop j).take (n-j)))
def memDQ(K:KdQ SL EL Z BY F OV)(g cap i j n m T:Nat)(u:Value)(cur ys:List Value)(hr:Rw EL w g cur)(hu:InQ EL w u ys g)(h1:∀y∈ys,y.oneCell'=true)(a4:∀y∈(cur.drop j).take (n-j),y.oneCell'=true)(hi:i<j)(hj:j<n)(hn:n<=cap)(hc:cur.length=cap)(hm:cap<=9223372036854775807)(a8:i+m<=j)(hB:B<=g)(a3:ys.length=m)(hT:i+m+(n-j)=T):MemDQ SL EL B g cap i j n m T u cur ys w:=by
 have Q:=hr.set (o:=i) (vs:=ys) (by omega);have a2:∀E,(Builtin.copy_ #[SL,SL] E #[.slice (some ⟨g,i,none⟩) (T-i) (cap-i),u]).run Tryz.prog w=.ok (goInt m) (w.setCells g i ys):=λ E=>by
  rcases hu with⟨rfl,rfl⟩|⟨gu,uc,ab,rfl,a5,a9,a1,a6⟩
  .have:m=0:=by rw[<-a3];rfl
   subst this;exact zwp9 K w _ _ _ E
  .rw[a3]at a1 a6 |-
   have:=copyQ K hr a5 i 0 m (T-i) (cap-i) m uc (by simp only[Nat.min_def];split<;>omega) (by omega) (by omega) (by rw[List.drop_zero,a1];exact h1) E;rw[List.drop_zero,a1]at this;exact this
 obtain⟨A,O⟩:=exN (cur.take i++(ys++cur.drop (i+ys.length)));rw[O]at Q;have aa:A.length=cap:=by rw[<-O];simp;omega
 have I:A.drop j=cur.drop j:=by rw[<-O,<-zw0,List.drop_append,List.drop_of_length_le (by simp;omega),List.nil_append,ze1];congr 1;simp;omega
 have Y:=λ E=>copyQ K Q.drew Q.drew (i+m) j (n-j) (T-(i+m)) (cap-(i+m)) (n-j) (cap-j) (by simp only[Nat.min_def];split<;>omega) (by omega) (by omega) (by rw[I];exact a4) E;have H:=Q.drew.set (o:=i+m) (vs:=(A.drop j).take (n-j)) (by rw[I];simp;omega);rw[I]at H;simp only[I]at Y;obtain⟨c3,a0⟩:=exN (A.take (i+m)++((cur.drop j).take (n-j)++A.drop (i+m+((cur.drop j).take (n-j)).length)));have lj:((cur.drop j).take (n-j)).length=n-j:=by simp;omega
 rw[a0]at H;have a7:c3.length=cap:=by rw[<-a0];simp;omega
 have et:c3.take T=cur.take i++(ys++(cur.drop j).take (n-j)):=by
  have e1:A.take (i+m)=cur.take i++ys:=by rw[<-O,<-zw0,zab9 (by simp;omega)]
  rw[<-a0,e1,show cur.take i++ys++((cur.drop j).take (n-j)++A.drop (i+m+((cur.drop j).take (n-j)).length))=(cur.take i++(ys++(cur.drop j).take (n-j)))++A.drop (i+m+((cur.drop j).take (n-j)).length) by simp,zab9 (by simp;omega)]
 have td:Tch (λ k=>k=g) w ((w.setCells g i ys).drew.setCells g (i+m) ((cur.drop j).take (n-j))):=((zb9 g _ _ _).trans (zac9 _ _) (λ _ _ e=>e)).trans (zb9 g _ _ _) (λ _ _ e=>e);by_cases ht:T<n
 .have cl:=λ E=>clearQ K H T (n-T) (cap-T) (by omega) (by omega) E;have s3:=H.set (o:=T) (vs:=List.replicate (n-T) Z) (by simp;omega);refine⟨_,_,_,a2,Y,λ _=>cl,λ e=>absurd ht e,s3.owV hB (by simp;omega) (by unfold maxLen;exact hm) (by omega) ?_,(td.trans (zb9 g _ _ _) (λ _ _ e=>e)).mono (λ k _ e=>by rw[e];rfl),λ k hk=>.inl hk⟩;rw[zab9 (by simp;omega),et]
 .exact⟨_,_,_,a2,Y,λ e=>absurd e ht,λ _=>rfl,H.owV hB a7 (by unfold maxLen;exact hm) (by omega) et,td.mono (λ k _ e=>by rw[e];rfl),λ k hk=>.inl hk⟩
def repDQ(K:KdQ SL EL Z BY F OV)(g cap i j n:Nat)(u:Value)(cur ys:List Value)(hr:Rw EL w g cur)(hu:InQ EL w u ys g)(h1:∀y∈ys,y.oneCell'=true)(a3:∀y∈(cur.drop j).take (n-j),y.oneCell'=true)(hi:i<j)(hj:j<n)(hn:n<=cap)(hc:cur.length=cap)(hm:cap<=9223372036854775807)(a1:i+ys.length<=j)(a4:n<=1000000)(hB:B<=g):
 Calls Tryz.prog F #[.slice (some ⟨g,0,none⟩) n cap,.int .i64 (i:Int),.int .i64 (j:Int),u] w λ e w'=>∃v',e=.returned v'/\Trn B EL w w' (.slice (some ⟨g,0,none⟩) n cap) v' (cur.take i++(ys++(cur.drop j).take (n-j))):=by
 obtain⟨ua,uc,a5⟩:=hu.shape;obtain⟨m,a2⟩:=exN ys.length;obtain⟨T,hT⟩:=exN (i+m+(n-j));rw[a2]at a5;subst a5;rw[a2]at a1;have O:Hid (∀W,(∃q,W=w.drewN q)->MemDQ SL EL B g cap i j n m T (.slice ua m uc) cur ys W):=λ W A=>by obtain⟨q,rfl⟩:=A;exact memDQ (B:=B) (w:=w.drewN q) K g cap i j n m T (.slice ua m uc) cur ys hr (by exact hu) h1 a3 hi hj hn hc hm a1 hB a2 hT
 have aa:Tryz.prog.follows .mixedOrders=true:=by kernel_rfl
 have z1:¬((i:Int)=(j:Int)):=by omega
 have z2:(i:Int)<=(j:Int):=by omega
 have z3:(j:Int)<=(cap:Int):=by omega
 have z4:¬((j:Int)=(n:Int)):=by omega
 have z5:(i:Int)<=(cap:Int):=by omega
 have z6:(j:Int)<=(n:Int):=by omega
 have z7:¬(cap=j):=by omega
 have z8:¬(cap=i):=by omega
 have z9:¬(cap=i+m):=by omega
 have g3:(i:Int)<=(T:Int):=by omega
 have g4:(i:Int)+(m:Int)<=(T:Int):=by omega
 have g6:(0:Int)<=(i:Int)+(m:Int):=by omega
 have g7:((i:Int)+(m:Int)).toNat=i+m:=by omega
 have a8:(T:Int)<=(cap:Int):=by omega
 have t1:(i:Int)+(m:Int)+((n-j:Nat):Int)=((T:Nat):Int):=by omega
 have t2:T<=4611686018427387904:=by omega
 have w3:¬((T:Int) > (cap:Int)):=by omega
 have w4:decide ((cap:Int)<(T:Int))=false:=by rw[zn4];omega
 have w5:decide (cap<T)=false:=by rw[zn4];omega
 have t4:-4611686018427387904<=(i:Int)+(m:Int)/\(i:Int)+(m:Int)<=4611686018427387904:=by omega
 have f1:(i:Int)+(m:Int)<=(j:Int):=by omega
 have f2:decide ((i:Int)+(m:Int)<=(j:Int))=true:=by rw[zm0];omega
 have f3:T<=n:=by omega
 have a7:=fun(a:Option Addr) (c:Nat) (ty:TypeId) (W:World)=>ztu9 K W a c ty;have w6:=zu9 t1 t2;have w8:=zej9 t4.1 t4.2;clear t1 t2 t4 hu hr a2 h1 a3 hm hc;by_cases Q:T<n
 .have f4:(T:Int)<=(n:Int):=by clear w6 w8;omega
  have f5:¬(cap=T):=by clear w6 w8;omega
  clear hT a1 a7 f3 a4;cases K
  go_enter Tryz.func163,Tryz.ntmps163
  rotate_left
  go_enter Tryz.func164,Tryz.ntmps164
  all_goals
   go_wp2_with fail;go_quiet (fail);obtain⟨W,A⟩:=exN (w.drewN nq);obtain⟨W2,W3,W4,E,H,I,_,hF⟩:=O.o W ⟨nq,A.symm⟩;have HF:=za0 (hF.from A);have Y:=za0 E;have a0:=za0 H;have cl:=I Q;rw[A];clear E H I hF O A Q;go_wp2_with(with_reducible (show wpList _ _ _ (Oper.mk _ (Op.call _) _ _ _ _::_) _ _);refine wpList_copy_runI _ rfl (.tmp 95) (.tmp 96) _ _ rfl _ _ rfl rfl (Y.o _) ?_)
   go_region_law_o (refine step_copy_runI rfl (.tmp 103) (.tmp 106) _ _ rfl (.slice (some ⟨g,i+m,none⟩) (T-(i+m)) (cap-(i+m))) (.slice (some ⟨g,j,none⟩) (n-j) (cap-j)) (by simp[Act.eval,Act.put]) (by simp[Act.eval,Act.put]) (a0.o _) ?_)
   go_wp2_with fail;go_ret;exact⟨_,rfl,HF.o⟩
 .obtain rfl:T=n:=by clear w6 w8;omega
  have a6:cap=T\/¬cap=T:=by clear w6 w8;omega
  clear hT a1 f3 a4;rcases a6 with rfl|a9
  .cases K
   go_enter Tryz.func163,Tryz.ntmps163
   rotate_left
   go_enter Tryz.func164,Tryz.ntmps164
   all_goals
    go_wp2_with fail;go_quiet (fail);obtain⟨W,A⟩:=exN (w.drewN nq);obtain⟨W2,W3,W4,E,H,_,I,hF⟩:=O.o W ⟨nq,A.symm⟩;have HF:=za0 ((I Q▸hF).from A);have Y:=za0 E;have a0:=za0 H;rw[A];clear E H I hF O A Q;go_wp2_with(with_reducible (show wpList _ _ _ (Oper.mk _ (Op.call _) _ _ _ _::_) _ _);refine wpList_copy_runI _ rfl (.tmp 95) (.tmp 96) _ _ rfl _ _ rfl rfl (Y.o _) ?_)
    go_region_law_o (refine step_copy_runI rfl (.tmp 103) (.tmp 106) _ _ rfl (.slice (some ⟨g,i+m,none⟩) (cap-(i+m)) (cap-(i+m))) (.slice (some ⟨g,j,none⟩) (cap-j) (cap-j)) (by simp[Act.eval,Act.put]) (by simp[Act.eval,Act.put]) (a0.o _) ?_)
    go_wp2_with fail;go_ret;exact⟨_,rfl,HF.o⟩
  .cases K
   go_enter Tryz.func163,Tryz.ntmps163
   rotate_left
   go_enter Tryz.func164,Tryz.ntmps164
   all_goals
    go_wp2_with fail;go_quiet (fail);obtain⟨W,A⟩:=exN (w.drewN nq);obtain⟨W2,W3,W4,E,H,_,I,hF⟩:=O.o W ⟨nq,A.symm⟩;have HF:=za0 ((I Q▸hF).from A);have Y:=za0 E;have a0:=za0 H;rw[A];clear E H I hF O A Q;go_wp2_with(with_reducible (show wpList _ _ _ (Oper.mk _ (Op.call _) _ _ _ _::_) _ _);refine wpList_copy_runI _ rfl (.tmp 95) (.tmp 96) _ _ rfl _ _ rfl rfl (Y.o _) ?_)
    go_region_law_o (refine step_copy_runI rfl (.tmp 103) (.tmp 106) _ _ rfl (.slice (some ⟨g,i+m,none⟩) (T-(i+m)) (cap-(i+m))) (.slice (some ⟨g,j,none⟩) (T-j) (cap-j)) (by simp[Act.eval,Act.put]) (by simp[Act.eval,Act.put]) (a0.o _) ?_)
    go_wp2_with fail;go_ret;exact⟨_,rfl,HF.o⟩
end
section
variable {SL EL:TypeId} {Z:Value} {BY F OV:Nat} {B:Nat} {w:World}
def MemEQ(SL EL:TypeId)(OV:Nat)(B g cap i j n m T:Nat)(u:Value)(cur ys:List Value)(w:World):Prop:=
 ∃W2 W3,(∀W,W=w->(callFunc OV #[.slice (some ⟨g,i+m,none⟩) (T-(i+m)) (cap-(i+m)),u]).run Tryz.prog W=.ok (.value (.bool false)) W)/\
  (∀ty,(Builtin.copy_ #[SL,SL] ty #[.slice (some ⟨g,i+m,none⟩) (T-(i+m)) (cap-(i+m)),.slice (some ⟨g,j,none⟩) (n-j) (cap-j)]).run Tryz.prog w.drew=.ok (goInt ((n-j:Nat):Int)) W2)/\
  (∀ty,(Builtin.copy_ #[SL,SL] ty #[.slice (some ⟨g,i,none⟩) (T-i) (cap-i),u]).run Tryz.prog W2=.ok (goInt m) W3)/\
  Trn B EL w W3 (.slice (some ⟨g,0,none⟩) n cap) (.slice (some ⟨g,0,none⟩) T cap) (cur.take i++(ys++(cur.drop j).take (n-j)))
def sizeQ1(K:KdQ SL EL Z BY F OV)(w:World):(Go.sizeOf EL).run Tryz.prog w=.ok 1 w:=by obtain⟨i,u,h⟩:=Option.map_eq_some_iff.1 K.inf;simp[sizeOf,typeInfo,u,h]
def memEQ(K:KdQ SL EL Z BY F OV)(g cap i j n m T:Nat)(u:Value)(cur ys:List Value)(hr:Rw EL w g cur)(hu:InQ EL w u ys g)(h1:∀y∈ys,y.oneCell'=true)(a3:∀y∈(cur.drop j).take (n-j),y.oneCell'=true)(hi:i<j)(hj:j<n)(hn:n<=cap)(hc:cur.length=cap)(hm:cap<=9223372036854775807)(aa:j<i+m)(a6:T<=cap)(hB:B<=g)(a4:ys.length=m)(hT:i+m+(n-j)=T):MemEQ SL EL OV B g cap i j n m T u cur ys w:=by
 obtain⟨gu,Q,a9,rfl,a1,a0,H,a7⟩:=hu.row (by omega);rw[a4]at H a7 |-
 have lj:((cur.drop j).take (n-j)).length=n-j:=by simp;omega
 have a2:=λ O=>copyQ K hr.drew hr.drew (i+m) j (n-j) (T-(i+m)) (cap-(i+m)) (n-j) (cap-j) (by simp only[Nat.min_def];split<;>omega) (by omega) (by omega) a3 O;have I:=hr.drew.set (o:=i+m) (vs:=(cur.drop j).take (n-j)) (by rw[lj];omega);obtain⟨E,A⟩:=exN (cur.take (i+m)++((cur.drop j).take (n-j)++cur.drop (i+m+((cur.drop j).take (n-j)).length)));rw[A]at I;have ab:E.length=cap:=by rw[<-A];simp;omega
 have ta:Tch (λ k=>k=g) w (w.drew.setCells g (i+m) ((cur.drop j).take (n-j))):=(zac9 _ w).trans (zb9 g _ _ _) (λ _ _ e=>e);have a8:=a1.tch ta a0;have Y:=λ O=>copyQ K I a8 i 0 m (T-i) (cap-i) m Q (by simp only[Nat.min_def];split<;>omega) (by omega) (by omega) (by rw[List.drop_zero,H];exact h1) O;simp only[List.drop_zero,H]at Y;have s2:=I.set (o:=i) (vs:=ys) (by omega);have a5:(callFunc OV #[.slice (some ⟨g,i+m,none⟩) (T-(i+m)) (cap-(i+m)),.slice (some ⟨gu,0,none⟩) m Q]).run Tryz.prog w=.ok (.value (.bool false)) w:=by
  have h0:=Lib.run_overlaps_apart w SL 4 EL K.un 1 (sizeQ1 K) ⟨g,i+m,none⟩ ⟨gu,0,none⟩ (T-(i+m)) (cap-(i+m)) m Q (λ e=>a0 e.symm) EL EL cur.length a9.length hr.shape a1.shape (by omega) (hr.fz _) (hr.fz _);cases K
  .rw[run_callFunc_extern Tryz.func83 (by kernel_rfl) (by kernel_rfl) (by kernel_rfl) (e:=Extern.SlicesOverlaps.overlaps #[91,91] #[4]) (by kernel_rfl),h0];rfl
  .rw[run_callFunc_extern Tryz.func183 (by kernel_rfl) (by kernel_rfl) (by kernel_rfl) (e:=Extern.SlicesOverlaps.overlaps #[56,56] #[4]) (by kernel_rfl),h0];rfl
 refine⟨_,_,λ W hW=>by rw[hW];exact a5,a2,Y,s2.owV hB (by simp;omega) (by unfold maxLen;exact hm) a6 ?_,(ta.trans (zb9 g _ _ _) (λ _ _ e=>e)).mono (λ k _ e=>by rw[e];rfl),λ k hk=>.inl hk⟩;have e1:E.take i=cur.take i:=by rw[<-A,List.take_append_of_le_length (by simp;omega),zh1,Nat.min_eq_left (by omega)]
 have e2:E.drop (i+ys.length)=(cur.drop j).take (n-j)++cur.drop (i+m+((cur.drop j).take (n-j)).length):=by rw[<-A];exact zsm9 (by simp;omega)
 rw[e1,e2,show cur.take i++(ys++((cur.drop j).take (n-j)++cur.drop (i+m+((cur.drop j).take (n-j)).length)))=(cur.take i++(ys++(cur.drop j).take (n-j)))++cur.drop (i+m+((cur.drop j).take (n-j)).length) by simp,zab9 (by simp;omega)]
def repEQ(K:KdQ SL EL Z BY F OV)(g cap i j n:Nat)(u:Value)(cur ys:List Value)(hr:Rw EL w g cur)(Q:InQ EL w u ys g)(h1:∀y∈ys,y.oneCell'=true)(a1:∀y∈(cur.drop j).take (n-j),y.oneCell'=true)(hi:i<j)(hj:j<n)(hn:n<=cap)(hc:cur.length=cap)(hm:cap<=9223372036854775807)(O:j<i+ys.length)(H:i+ys.length+(n-j)<=cap)(a6:ys.length<=1000000)(a9:n<=1000000)(hB:B<=g):
 Calls Tryz.prog F #[.slice (some ⟨g,0,none⟩) n cap,.int .i64 (i:Int),.int .i64 (j:Int),u] w λ e w'=>∃v',e=.returned v'/\Trn B EL w w' (.slice (some ⟨g,0,none⟩) n cap) v' (cur.take i++(ys++(cur.drop j).take (n-j))):=by
 obtain⟨ua,uc,a5⟩:=Q.shape;obtain⟨m,E⟩:=exN ys.length;obtain⟨T,I⟩:=exN (i+m+(n-j));rw[E]at a5;subst a5;rw[E]at O H a6;rw[I]at H;have a0:Hid (∀W,(∃q,W=w.drewN q)->MemEQ SL EL OV B g cap i j n m T (.slice ua m uc) cur ys W):=λ W A=>by obtain⟨q,rfl⟩:=A;exact memEQ (B:=B) (w:=w.drewN q) K g cap i j n m T (.slice ua m uc) cur ys hr (by exact Q) h1 a1 hi hj hn hc hm O H hB E I
 have ac:Tryz.prog.follows .mixedOrders=true:=by kernel_rfl
 have z1:¬((i:Int)=(j:Int)):=by omega
 have z2:(i:Int)<=(j:Int):=by omega
 have z3:(j:Int)<=(cap:Int):=by omega
 have z4:¬((j:Int)=(n:Int)):=by omega
 have z5:(i:Int)<=(cap:Int):=by omega
 have z6:(j:Int)<=(n:Int):=by omega
 have z7:¬(cap=j):=by omega
 have z8:¬(cap=i):=by omega
 have z9:¬(cap=i+m):=by omega
 have g3:(i:Int)<=(T:Int):=by omega
 have g4:(i:Int)+(m:Int)<=(T:Int):=by omega
 have g6:(0:Int)<=(i:Int)+(m:Int):=by omega
 have g7:((i:Int)+(m:Int)).toNat=i+m:=by omega
 have aa:(T:Int)<=(cap:Int):=by omega
 have t1:(i:Int)+(m:Int)+((n-j:Nat):Int)=((T:Nat):Int):=by omega
 have t2:T<=4611686018427387904:=by omega
 have w3:¬((T:Int) > (cap:Int)):=by omega
 have w4:decide ((cap:Int)<(T:Int))=false:=by rw[zn4];omega
 have w5:decide (cap<T)=false:=by rw[zn4];omega
 have Y:-4611686018427387904<=(i:Int)+(m:Int)/\(i:Int)+(m:Int)<=4611686018427387904:=by omega
 have f1:¬((i:Int)+(m:Int)<=(j:Int)):=by omega
 have f2:decide ((i:Int)+(m:Int)<=(j:Int))=false:=by rw[zn4];omega
 have w6:=zu9 t1 t2;have w8:=zej9 Y.1 Y.2;clear t1 t2 Y Q hr E h1 a1 hm hc I O H a6 a9;cases K
 go_enter Tryz.func163,Tryz.ntmps163
 rotate_left
 go_enter Tryz.func164,Tryz.ntmps164
 all_goals
  go_wp2_with fail;go_quiet (fail);obtain⟨W,A⟩:=exN (w.drewN nq);obtain⟨W2,W3,a4,a2,a3,hF⟩:=a0.o W ⟨nq,A.symm⟩;have ab:=a4 W rfl;have HF:=za0 (hF.from A);have a7:=za0 a2;have a8:=za0 a3;rw[A];clear a2 a3 hF a0 A a4;go_wp2_with fail
  go_region_law_o (refine step_copy_runI rfl (.tmp 126) (.tmp 129) _ _ rfl (.slice (some ⟨g,i+m,none⟩) (T-(i+m)) (cap-(i+m))) (.slice (some ⟨g,j,none⟩) (n-j) (cap-j)) (by simp[Act.eval,Act.put]) (by simp[Act.eval,Act.put]) (a7.o _) ?_)
  go_wp2_with(with_reducible (show wpList _ _ _ (Oper.mk _ (Op.call _) _ _ _ _::_) _ _);refine wpList_copy_runI _ rfl (.tmp 133) (.tmp 134) _ _ rfl _ _ rfl rfl (a8.o _) ?_)
  go_ret;exact⟨_,rfl,HF.o⟩
def zov9(K:KdQ SL EL Z BY F OV)(v:Value)(A:List Value)(i j:Nat)(u:Value)(ys:List Value)(h:OwV B EL w v A)(hu:OwV 0 EL w u ys)(aa:∀k,u.ownBlock=some k->v.ownBlock≠some k)(a7:∀y∈A,y.oneCell'=true)(H:∀y∈ys,y.oneCell'=true)(hi:i<j)(hj:j<=A.length)(a4:ys.length<=1000000)(Y:A.length<=1000000)(hB:B<=w.heap.size):
 Calls Tryz.prog F #[v,.int .i64 (i:Int),.int .i64 (j:Int),u] w λ e w'=>∃v',e=.returned v'/\Trn B EL w w' v v' (A.take i++(ys++A.drop j)):=by
 rcases h.rows with⟨rfl,rfl⟩|⟨g,cap,E,rfl,a1,hr,T,hm,O,hk⟩
 .simp at hj;omega
 .have I:InQ EL w u ys g:=by
   rcases hu.rows with⟨rfl,rfl⟩|⟨gu,cu,ac,rfl,_,ab,q1,q2,q3,q4⟩
   .exact .inl ⟨rfl,rfl⟩
   .exact .inr ⟨gu,cu,ac,rfl,ab,λ e=>aa gu rfl (by rw[e];rfl),q4,by omega⟩
  have Q:cap<=9223372036854775807:=by unfold maxLen at hm;omega
  have a6:E.take i=A.take i:=by rw[<-hk,zh1,Nat.min_eq_left (by omega)]
  have a5:(E.drop j).take (A.length-j)=A.drop j:=by rw[<-hk,List.drop_take];simp[hk]
  by_cases a9:j=A.length
  .subst a9;rw[List.drop_of_length_le (zn6 _),List.append_nil,<-a6];by_cases a3:i+ys.length<=cap
   .exact repAQ K g cap i _ u E ys hr I H hi T O Q a3 a1
   .exact repBQ K g cap i _ u E ys hr I H hi T O Q (by omega) a4 Y hB
  .have a2:j<A.length:=by omega
   (have a0:∀y∈(E.drop j).take (A.length-j),y.oneCell'=true:=λ y hy=>by rw[a5]at hy;exact a7 y (zz0 hy));rw[<-a5,<-a6];by_cases a3:i+ys.length+(A.length-j)<=cap
   .by_cases a8:i+ys.length<=j
    .exact repDQ K g cap i j _ u E ys hr I H a0 hi a2 T O Q a8 Y a1
    .exact repEQ K g cap i j _ u E ys hr I H a0 hi a2 T O Q (by omega) a3 a4 Y a1
   .exact repCQ K g cap i j _ u E ys hr I H a0 hi a2 T O Q (by omega) a4 Y hB
end
