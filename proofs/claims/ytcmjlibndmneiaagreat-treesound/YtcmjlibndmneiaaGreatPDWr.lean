import Derived.Test.YtcmjlibndmneiaaGreatPDMap
import Derived.Test.YtcmjlibndmneiaaGreatPDReg
import Derived.Great.BuildSlice
import Derived.Laws.CopyOwn
set_option maxRecDepth 100000
set_option linter.all false
set_option maxHeartbeats 8000000
namespace Go.Proofs.YtcmjlibndmneiaaGreat
open Go.RowKit Go.Maps
def zhl9(xs:List Int)(h:xs.length=256)(w:World):(Instr.buildSlice 133 1 #[(0,.agg (bcs xs).toArray)]).run Tryz.prog w=.ok (.slice (some ⟨w.heap.size,0,none⟩) 1 1) (w.alloc (.cells (bcs xs).toArray 140)):=by
 obtain⟨H,A,E,u,I⟩:=info_parts zie9;refine run_buildSlice w _ 140 1 _ _ H _ Tryz.underlying133 A E (by rw[u];decide) (by rw[u];decide) ?_;rw[u];have:=Go.Great.fill_whole (s:=256) (by decide) [.agg (bcs xs).toArray] ((Array.range (1*256)).map ((Value.agg (bcs zz).toArray).cells[· % (Value.agg (bcs zz).toArray).cells.size]!)) (λ v hv=>by
  simp at hv;subst hv;simp only[Value.cells,List.size_toArray,zc9,h]) (by simp)
 refine this.trans ?_;simp[Value.cells]
def zvp9(w:World)(ty:TypeId)(v:Value)(E:List (List Int))(h:SecR w v E)(I m c:Nat)(A:List (List Int))(hl:m=A.length)(a3:SOk A)(hn:w.rangeAt I 0 (bcs A.flatten))(hb:E.length+A.length<=274877906944):
 ∃O w',(Builtin.append_ #[133,133] ty #[v,.slice (some ⟨I,0,none⟩) m c]).run Tryz.prog w=.ok O w'/\SecR w' O (E++A)/\w.grownBy w' v.ownBlock/\∀k,O.ownBlock=some k->v.ownBlock=some k\/w.heap.size<=k:=by
 subst hl;obtain⟨j0,Y,a1,K,a2⟩:=info_parts zie9;have a4:(Value.agg (bcs zz).toArray).cells.size=256:=by simp only[Value.cells,List.size_toArray,zc9,zz_len]
 have Q:(bcs A.flatten).length=A.length*256:=by rw[zc9,zcn9 a3]
 have a0:∀j u,(bcs A.flatten)[j]?=some u->w.cell? ((⟨I,0,none⟩:Addr).add j)=some u:=λ j u hu=>by have:=hn j u hu;rw[Addr.add_lit];exact this
 obtain⟨O,w',hr,ho,hg,_⟩:=run_append_own (P:=Tryz.prog) w 0 133 ty 140 j0 _ 256 256 Tryz.underlying133 Y a1 K a2 a4 (by decide) v E.length (bcs E.flatten) h.2 ⟨I,0,none⟩ A.length c (bcs A.flatten) Q a0 (zdi9 _) (by unfold maxLen;omega) (by omega) (zn7 _);have hS:SecR w' O (E++A):=⟨h.1.app a3,by rw[zf0,List.flatten_append,zmj9];exact ho⟩
 refine⟨O,w',hr,hS,hg,λ k hk=>?_⟩;rcases h.2.2 with⟨rfl,h0⟩|⟨g,cap,a5,rfl,_,a7,ab,aa,a6,ac⟩
 .have hx:E=[]:=zh0 h0;subst hx;obtain⟨v2,w2,T,a8,_,_⟩:=run_append_own (P:=Tryz.prog) w w.heap.size 133 ty 140 j0 _ 256 256 Tryz.underlying133 Y a1 K a2 a4 (by decide) (.slice none 0 0) 0 [] (World.ownsRow_nil _ _ _ _) ⟨I,0,none⟩ A.length c (bcs A.flatten) Q a0 (zdi9 _) (by unfold maxLen;omega) (by omega) (zn6 _);have H:=hr.symm.trans T;simp only[Result.ok.injEq]at H;obtain⟨rfl,rfl⟩:=H;exact .inr (a8.lt k hk).1
 .by_cases a9:E.length+A.length<=cap
  .have T:=run_append_room (P:=Tryz.prog) w 133 ty 140 j0 Tryz.underlying133 Y g E.length cap a5 a7 ⟨I,0,none⟩ A.length c (bcs A.flatten) (by rw[K];exact Q) a0 (zdi9 _) a9 (by rw[K,a6,Q];omega);have H:=hr.symm.trans T;simp only[Result.ok.injEq]at H;obtain⟨rfl,rfl⟩:=H;exact .inl hk
  .have T:=run_append_grow (P:=Tryz.prog) w 133 ty 140 j0 _ Tryz.underlying133 Y a1 ⟨g,0,none⟩ E.length cap (bcs E.flatten) (by rw[K,zc9,zcn9 h.1]) (h.2.cells (g:=g) rfl) ⟨I,0,none⟩ A.length c (bcs A.flatten) (by rw[K];exact Q) a0 (by omega) (by omega)
    (by rw[a2];exact growslice_fits (by omega) (by omega))
   have H:=hr.symm.trans T;simp only[Result.ok.injEq]at H;obtain⟨rfl,rfl⟩:=H;simp only[Value.ownBlock,Option.some.injEq]at hk;exact .inr (by omega)
section
variable {o:Oper} {a:Act} {w:World} {K:Act->World->Prop} {Q:Exit->Act->World->Prop}
def zrz9(s x:Operand)(O:o.op=.call { callee:=.builtin .append,args:=#[s,x],argTypes:=#[133,133] })
 (v:Value) (rows:List (List Int)) (hs:a.eval s=v) (hR:SecR w v rows) (g0 m c:Nat) (hx:a.eval x=.slice (some ⟨g0,0,none⟩) m c) (news:List (List Int)) (hl:m=news.length) (hok:SOk news) (hn:w.rangeAt g0 0 (bcs news.flatten)) (hb:rows.length+news.length<=274877906944)
 (h:∀u A,SecR A u (rows++news)->w.grownBy A v.ownBlock->(∀k,u.ownBlock=some k->v.ownBlock=some k\/w.heap.size<=k)->K (a.put o.dst u) A):
 Oper.wp Tryz.prog o a w K Q:=by
 obtain⟨u,A,hr,E,H,I⟩:=zvp9 w o.type v rows hR g0 m c news hl hok hn hb;unfold Oper.wp;simp[execOp,O,resolve,invoke,builtin,hs,hx,hr,Result.andThen];exact h u A E H I
def zvv9(m x v:Operand)(O:o.op=Op.mapUpdate 134 m x v)(u H A:Value)(I:a.eval m=u)(Y:a.eval x=H)(hv:a.eval v=A){E:World}
 (T:(Instr.mapUpdate 134 u H A).run Tryz.prog w=.ok () E) (h:K (a.put o.dst undef) E):
 Oper.wp Tryz.prog o a w K Q:=by
 unfold Oper.wp;simp[execOp,O,I,Y,hv,T,Result.andThen];exact h
def zhr9(m x:Operand)(H:o.op=Op.lookup 134 m x false)(vb n i:Nat)(g:Nat->Option Value)(A:a.eval m=.map (some vb))(u:Mp w vb n g)(hi:i<n)(E:n<=4096)
 (O:a.eval x=.int .i64 (i:Int)) (h:K (a.put o.dst (gv g i)) w):
 Oper.wp Tryz.prog o a w K Q:=by
 have I:=u.look hi E;unfold Oper.wp;simp[execOp,H,A,O,I,Result.andThen];exact h
def zfh9(x:Operand)(A:o.op=Op.buildSlice 133 1 #[(0,x)])(xs:List Int)(u:xs.length=256)(H:a.eval x=.agg (bcs xs).toArray)
 (h:K (a.put o.dst (.slice (some ⟨w.heap.size,0,none⟩) 1 1)) (w.alloc (.cells (bcs xs).toArray 140))):
 Oper.wp Tryz.prog o a w K Q:=by
 have E:=zhl9 xs u w;unfold Oper.wp;simp[execOp,A,H,E,Result.andThen];exact h
end
def zlj9(w:World)(vs:List Value)(t:TypeId):(w.alloc (.cells vs.toArray t)).rangeAt w.heap.size 0 vs:=λ j v hv=>by rw[Nat.zero_add,cell_of_row _ _ j _ _ (0,0) (heap_alloc_new w _)];simpa using hv
def Tch.of_grown{w w':World}{row:Option Nat}(u:w.grownBy w' row):Tch (λ k=>row=some k) w w':=(Tch.refl _ w).grown u (λ _ _ e=>e)
def zmc9{S:Nat->Prop}{d:Nat}{s:DS}(at_:Int)(a:Option Addr)(E cap:Nat)(w:World)(h:Dk S w d s)(u:at_<0\/(s.L.length:Int)<=at_):
 Calls Tryz.prog 102 #[dp d,.int .i64 at_,.slice a E cap] w λ e w'=>e=.returned (.int .i64 2)/\w'=w:=by
 obtain⟨I,O,K,g,h⟩:=h;have A:(decide (0<=at_)&&decide (at_<(s.L.length:Int)))=false:=by rw[Bool.and_eq_false_iff,zn4,zn4];omega
 have H:=zba9 at_ w h;rw[A]at H;have H:=zb0 H;clear h u
 go_enter Tryz.func102,Tryz.ntmps102
 go_wp2_with fail;refine H.o.mono ?_;rintro e w ⟨rfl,rfl⟩;go_wp2_with fail;go_ret;exact⟨rfl,rfl⟩
def zsg9{S:Nat->Prop}{d:Nat}{s:DS}(i:Nat)(a:Option Addr)(u cap:Nat)(w:World)(h:Dk S w d s)(hi:i<s.L.length)(E:u≠256)(K:u<=maxLen):
 Calls Tryz.prog 102 #[dp d,.int .i64 (i:Int),.slice a u cap] w λ e w'=>e=.returned (.int .i64 1)/\w'=w:=by
 obtain⟨O,T,Q,g,h⟩:=h;have A:(decide (0<=(i:Int))&&decide ((i:Int)<(s.L.length:Int)))=true:=by rw[Bool.and_eq_true,zo1,zo1];omega
 have H:=zba9 i w h;rw[A]at H;have H:=zb0 H;have I:((u:Int)==256)=false:=by rw[zl0];omega
 clear h
 go_enter Tryz.func102,Tryz.ntmps102
 go_wp2_with fail;refine H.o.mono ?_;rintro e w ⟨rfl,rfl⟩;go_wp2_with fail;go_ret;exact⟨rfl,rfl⟩
def DkAt.more{S:Nat->Prop}{w w':World}{d:Nat}{s:DS}{T vb lc:Nat}{g:Nat->Option Value}(h:DkAt S w d s T vb lc g){i:Nat}(hi:i<s.L.length){v:Value}{x:List Int}
 {wa:World} (Y:Tch (λ k=>(gv g i).ownBlock=some k) w wa) (hv:SecR wa v (s.V i++[x])) (hf:∀k,v.ownBlock=some k->(gv g i).ownBlock=some k\/w.heap.size<=k)
 (hm:Mp w' vb s.L.length (gput g i (some v))) (K:Tch (λ k=>k=vb) wa w'):
 ∃S',DkAt S' w' d { s with V:=vput s.V i (s.V i++[x]) } T vb lc (gput g i (some v))/\Tch S w w'/\∀k,S' k->S k\/w.heap.size<=k:=by
 have Q:∀k,(gv g i).ownBlock=some k->S k/\k≠d/\k≠T/\k≠vb:=λ k A=>by
  unfold gv at A;cases e:g i with
  | none=>rw[e]at A;cases A
  | some u=>rw[e]at A;obtain⟨b,cap,rfl,h1,h2,h3,O,_⟩:=h.own e;cases A;exact⟨O,h1,h3,h2⟩
 have a1:∀j u k,g j=some u->j≠i->u.ownBlock=some k->(gv g i).ownBlock≠some k:=λ j u k E I A e=>by
  unfold gv at e;cases H:g i with
  | none=>rw[H]at e;cases e
  | some u2=>rw[H]at e;exact h.apart j i u u2 E H I (A.trans e.symm)
 have a6:=Y.size;have a7:=hv.lt;have a5:∃b,v.ownBlock=some b:=by obtain⟨b,cap,a8,rfl,_⟩:=hv.shape (by simp);exact⟨b,rfl⟩
 obtain⟨aa,a9⟩:=a5;have a0:∀k,v.ownBlock=some k->k≠vb/\k≠d/\k≠T:=λ k A=>by
  rcases hf k A with e|e
  .have:=Q k e;exact⟨this.2.2.2,this.2.1,this.2.2.1⟩
  .have h1:=h.map.lt;have h2:=h.lt;have h3:=h.slt _ h.sl;omega
 refine⟨λ k=>S k\/v.ownBlock=some k,?_,?_,?_⟩
 .have a3:=Y.block d h.lt (λ e=>(Q d e).2.1 rfl);have a4:=K.block d (zn1 h.lt a6) (λ e=>h.ne_vb e);exact{
   n1:=h.n1
   n2:=h.n2
   l30:=h.l30
   box:=by rw[a4,a3];exact h.box
   lies:=(h.lies.tch Y (λ j e=>by cases e;exact λ e=>(Q _ e).2.2.1 rfl)).tch K (λ j e=>by cases e;exact λ e=>h.lb_vb e)
   map:=hm
   no:=λ j E=>by
    by_cases e:j=i
    .subst e;simp[gput]at E
    .simp only[gput,if_neg e]at E;simp only[vput,if_neg e];exact h.no j E
   yes:=λ j u E=>by
    by_cases e:j=i
    .subst e;simp only[gput,if_pos]at E;cases E;simp only[vput,if_pos];exact⟨hi,by simp,hv.tch K (λ k A=>(a0 k A).1),λ e=>(a0 T e).2.2 rfl⟩
    .simp only[gput,if_neg e]at E;simp only[vput,if_neg e];obtain⟨h1,h2,h3,O⟩:=h.yes j u E;refine⟨h1,h2,(h3.tch Y (λ k A=>a1 j u k E e A)).tch K (λ k A H=>?_),O⟩;obtain⟨b,cap,rfl,_,h5,_⟩:=h.own E;cases A;exact h5 H
   apart:=λ j k u u2 E A I=>by
    have a2:∀j u,g j=some u->j≠i->u.ownBlock≠v.ownBlock:=λ j u E I e=>by
     obtain⟨b,cap,rfl,_,_,_,O,_⟩:=h.own E;have hb:=e.symm;rcases hf b hb with H|H
     .exact a1 j _ b E I rfl H
     .have:=h.slt b O;omega
    by_cases e:j=i
    .subst e;simp only[gput,if_pos]at E;cases E;simp only[gput,if_neg (Ne.symm I)]at A;exact λ e=>a2 k u2 A (Ne.symm I) e.symm
    .simp only[gput,if_neg e]at E;by_cases H:k=i
     .subst H;simp only[gput,if_pos]at A;cases A;exact a2 j u E e
     .simp only[gput,if_neg H]at A;exact h.apart j k u u2 E A I
   sd:=.inl h.sd
   sl:=.inl h.sl
   sv:=.inl h.sv
   sg:=λ j u k E A=>by
    by_cases e:j=i
    .subst e;simp only[gput,if_pos]at E;cases E;exact .inr A
    .simp only[gput,if_neg e]at E;exact .inl (h.sg j u k E A)
   slt:=λ k A=>by
    have:=K.size;rcases A with A|A
    .have:=h.slt k A;omega
    .have:=a7 k A;omega }
 .exact(Y.mono (S':=S) (λ k _ e=>(Q k e).1)).trans K (λ k _ e=>by rw[e];exact h.sv)
 .rintro k (A|A)
  .exact .inl A
  .rcases hf k A with e|e
   .exact .inl (Q k e).1
   .exact .inr e
def zpj9(xs ys:List Value)(h:xs.length=ys.length):splice xs 0 ys=ys:=by unfold splice;simp[h]
def zwh9{S:Nat->Prop}{d:Nat}{s:DS}(i:Nat)(v:Value)(xs:List Int)(w:World)(h:Dk S w d s)(hi:i<s.L.length)(hr:Rd .u8 w v xs)(hx:xs.length=256)(hy:By xs)(hv:∀k,v.ownBlock=some k->¬S k)(hm:(s.V i).length<274877906943):
 Calls Tryz.prog 102 #[dp d,.int .i64 (i:Int),v] w λ e w'=>e=.returned (.int .i64 0)/\DkTo S w w' d (s.wr i xs):=by
 obtain⟨lb,I,lc,g,h⟩:=h;have hf:(decide (0<=(i:Int))&&decide ((i:Int)<(s.L.length:Int)))=true:=by rw[Bool.and_eq_true,zo1,zo1];omega
 have H:=zba9 i w h;rw[hf]at H;have H:=zb0 H;have H2:=zb0 (zhd9 w h);have HR:=za0 hr;obtain⟨a,cap,rfl,_⟩:=hr;rw[hx];rw[hx]at HR hv;have HV:=za0 hv;have HX:=za0 hx;have HY:=za0 hy;have HM:=za0 hm;have n2:=za0 h.n2;have HI:=za0 hi;obtain⟨bb,au⟩:=zero_of_info zdf9;have aw:=za0 au;have af:=za0 h.sd;have b0:=za0 h.slt;clear h hv hx hy hm hf hi au;obtain⟨Z,hZ⟩:=exH ((bcs zz).toArray);rw[hZ.o]at bb;have bc:=zkf9
 go_enter Tryz.func102,Tryz.ntmps102
 go_wp2_with fail;refine H.o.mono ?_;rintro e w ⟨rfl,rfl⟩;clear H;go_wp2_with fail;refine H2.o.mono ?_;clear H2;rintro e w1 ⟨rfl,a4,a5⟩;cases hc:s.can with
 | false=>rw[hc]at a4;have D1:=za0 a4;have T1:=za0 a5;clear a4 a5;go_wp2_with fail;go_ret;refine⟨rfl,S,?_,T1.o.mono (λ k _ e=>by rw[e];exact af.o),λ k Q=>.inl Q⟩;rw[show s.wr i xs=s by unfold DS.wr;rw[hc];rfl];exact⟨lb,I,lc,g,D1.o⟩
 | true=>
  rw[hc]at a4;have D1:=za0 a4;have T1:=za0 a5;have az:Hid (∀k,S k->k<w1.heap.size):=λ k Q=>zn1 (b0.o k Q) a5.size;have R1:Hid (Rd .u8 w1 (.slice a 256 cap) xs):=by refine HR.o.tch a5 (λ b hb e=>HV.o b hb ?_);rw[e];exact af.o
  have ao:Hid (s.wr i xs={ s.tick with V:=vput s.tick.V i (s.tick.V i++[xs]) }):=by show _=_;unfold DS.wr;rw[hc];rfl
  have al:Hid ((s.tick.V i).length<274877906943):=HM.o;have a2:Hid (i<s.tick.L.length):=HI.o;have a3:Hid (s.tick.L.length<=4096):=n2.o;clear a4 a5 HM HI n2 HR;generalize s.tick=s1 at D1 ao al a2 a3;clear hc;have b5:Hid ((Tryz.prog.info? 5).map (·.size)=some 1):=by show _=_;kernel_rfl
  obtain⟨W0,a9⟩:=exN (w1.alloc (.cells Z 140));have an:=za0 a9;obtain⟨q,hq⟩:=exN w1.heap.size;have ae:=za0 hq;have B0:Hid (Below w1.heap.size w1 W0):=by rw[<-a9];exact(Below.refl _ _).alloc (zn6 _) _
  have Q0:Hid (W0.heap[q]?=some (.cells (bcs zz).toArray 140 (0,0))):=by show _=_;rw[<-a9,<-hq,hZ.o];exact heap_alloc_new w1 _
  have R0:=za0 (R1.o.below B0.o);have ah:Hid ((bcs zz).length=(bcs xs).length):=by show _=_;rw[zc9,zc9,zz_len,HX.o]
  have aj:Hid (0<(bcs xs).length->∃ad,a=some ad/\∀j u,(bcs xs)[j]?=some u->W0.cell? (ad.add j)=some u):=λ hp=>by
   obtain⟨a',bd,e,_,_,_,b4⟩:=R0.o;simp only[Value.slice.injEq]at e;obtain⟨rfl,_,rfl⟩:=e;rcases b4 with e|⟨b,o,rfl,hc⟩
   .rw[e]at hp;simp[bcs]at hp
   .refine⟨_,rfl,λ j u T=>?_⟩;(have hj:j<xs.length:=by simpa[bcs]using(List.getElem?_eq_some_iff.1 T).1);rw[Addr.add_lit,hc j hj];simp[bcs,zn3,hj]at T |-
    exact T
  have am:Hid ((bcs xs).length=Nat.min 256 256):=by show _=_;rw[zc9];exact HX.o
  have ak:Hid (0+(bcs xs).length<=(bcs zz).length):=by show _<=_;rw[ah.o];omega
  clear hq a9;go_wp2_with(with_reducible (show wpList _ _ _ (Oper.mk _ (Op.call _) _ _ _ _::_) _ _);refine Hid.o ?_)
  refine zb0 ?_;rw[an.o,ae.o];refine wpList_copy_splice rfl (.tmp 17) (.tmp 18) 61 61 rfl 5 Tryz.underlying61 b5.o (some ⟨q,0,none⟩) a 256 256 256 cap ?h1 ?h2 q 0 (bcs zz) 140 Q0.o (bcs xs) am.o (λ hp=>⟨rfl,aj.o hp⟩) ak.o (zdi9 xs) w1.heap.size w1 B0.o (Nat.le_of_eq ae.o) ?_;case h1=>kernel_rfl
  case h2=>kernel_rfl
  intro A a8 a7;rw[zpj9 _ _ ah.o]at a8;have B2:=za0 a7;have Q2:=za0 a8.o;have D2:Hid (DkAt S A d s1 lb I lc g):=D1.o.tch (R:=λ _=>False) (Tch.of_below a7) (λ _ _ e=>e);have ay:Hid (q<A.heap.size):=(zd0.1 a8.o).1;clear a8 a7 B0 Q0 R0 aj am ak ah D1 R1 an;have c1:=D2.o.c1;have ba:=Tryz.underlying140;have b9:(Tryz.prog.info? 140).map (·.size)=some (bcs xs).length:=by rw[aw.o,zc9,HX.o]
  have TD:Hid (Tch (λ _=>False) A A.drew):=Tch.drew (Tch.refl _ A);have a6:Hid (Tch (λ _=>False) A (A.alloc (.cells (bcs xs).toArray 140)).drew):=Tch.drew (Tch.alloc (Tch.refl _ A) _);have MP:Hid (Mp A I s1.L.length g):=D2.o.map;have RA:A.rangeAt q 0 (bcs xs):=λ j u T=>by rw[Nat.zero_add,cell_of_row A q j _ _ (0,0) Q2.o];simpa using T
  obtain⟨u,T⟩:=exN (gv g i);have HU:=za0 T;have ap:=(MP.o.tch TD.o (λ e=>e)).look a2.o a3.o;have aq:=(MP.o.tch a6.o (λ e=>e)).look a2.o a3.o;have BS:=zhl9 xs HX.o;rw[T]at ap aq;have ag:Hid (∀k,u.ownBlock=some k->k≠d/\k≠q/\k≠I/\k<w1.heap.size):=λ k Q=>by
   rw[<-T]at Q;unfold gv at Q;cases e:g i with
   | none=>rw[e]at Q;cases Q
   | some x=>rw[e]at Q;obtain⟨b,cp,rfl,h1,h2,h3,h4,_⟩:=D2.o.own e;cases Q;have ai:=az.o b h4;(have a7:b≠q:=λ e=>by rw[e,<-ae.o]at ai;exact Nat.lt_irrefl _ ai);exact⟨h1,a7,h2,ai⟩
  have SU:Hid (SecR (A.alloc (.cells (bcs xs).toArray 140)).drew u (s1.V i)):=by
   rw[<-T];unfold gv;cases e:g i with
   | none=>rw[D2.o.no i e];exact SecR.nil _
   | some x=>exact(D2.o.yes i x e).2.2.1.tch a6.o (λ _ _ e=>e)
  have NR:Hid ((A.alloc (.cells (bcs xs).toArray 140)).drew.rangeAt A.heap.size 0 (bcs [xs].flatten)):=by rw[List.flatten_cons,List.flatten_nil,List.append_nil];exact zlj9 A (bcs xs) _
  have av:Hid ((s1.V i).length + [xs].length<=274877906944):=by have:=al.o;show _<=_;simp;omega
  have CA:(A.alloc (.cells (bcs xs).toArray 140)).drew.cell? ⟨d,1,none⟩=some (.map (some I)):=by rw[a6.o.cell (p:=⟨d,1,none⟩) D2.o.lt (λ e=>e)];exact c1
  have b1:(A.alloc (.cells (bcs xs).toArray 140)).drew.rangeAt q 0 (bcs xs):=World.rangeAt_alloc (w:=A) RA _;have ax:Hid (∀v5 O,SecR O v5 (s1.V i++[xs])->(A.alloc (.cells (bcs xs).toArray 140)).drew.grownBy O u.ownBlock->(∀k,v5.ownBlock=some k->u.ownBlock=some k\/(A.alloc (.cells (bcs xs).toArray 140)).drew.heap.size<=k)->
   ∃w6,(Instr.mapUpdate 134 (.map (some I)) (.int .i64 (i:Int)) v5).run Tryz.prog O=.ok () w6/\(O.cell? ⟨d,1,none⟩=some (.map (some I))/\O.rangeAt q 0 (bcs xs))/\(w6.cell? ⟨d,1,none⟩=some (.map (some I))/\w6.rangeAt q 0 (bcs xs))/\Hid (DkTo S w w6 d (s.wr i xs))):=by
   intro v5 O ac ab aa;have T5:Tch (λ k=>u.ownBlock=some k) A O:=(a6.o.mono (S':=λ k=>u.ownBlock=some k) (λ _ _ e=>e.elim)).trans (Tch.of_grown ab) (λ _ _ e=>e);have h1:=D2.o;have M5:=h1.map.tch T5 (λ e=>(ag.o I e).2.2.1 rfl);obtain⟨w6,b7,r1,r2⟩:=World.ownsMap.update (val:=v5) (d:=.held v5) (ps:=[]) M5 keyed3 Tryz.underlying134 (by have:=a3.o;unfold maxLen;omega) (key3 (i:=i) (by have:=a3.o;have:=a2.o;omega)) rfl;have M6:=mp_of r1 (dm_put a2.o v5 (r1.canon keyed3));have T6:Tch (λ k=>k=I) O w6:=(Tch.of_grown r2).mono (λ k _ e=>by cases e;rfl);have k5:O.cell? ⟨d,1,none⟩=some (.map (some I)):=by rw[T5.cell (p:=⟨d,1,none⟩) h1.lt (λ e=>(ag.o d e).1 rfl)];exact c1
   (have q5:O.rangeAt q 0 (bcs xs):=λ j v hv=>by rw[T5.cell (p:=⟨q,0+j,none⟩) ay.o (λ e=>(ag.o q e).2.1 rfl)];exact RA j v hv);(have k6:w6.cell? ⟨d,1,none⟩=some (.map (some I)):=by rw[T6.cell (p:=⟨d,1,none⟩) (ze0 O ⟨d,1,none⟩ k5) (λ e=>h1.ne_vb e)];exact k5);have b6:q≠I:=λ e=>h1.map.notCells (by rw[<-e];exact Q2.o);have q6:w6.rangeAt q 0 (bcs xs):=λ j v hv=>by have:=q5 j v hv;rw[T6.cell (p:=⟨q,0+j,none⟩) (ze0 O ⟨q,0+j,none⟩ this) (λ e=>b6 e)];exact this
   refine⟨w6,b7,⟨k5,q5⟩,⟨k6,q6⟩,?_⟩;obtain⟨S',hD,hT,b3⟩:=DkAt.more (w:=A) (w':=w6) (v:=v5) h1 (x:=xs) a2.o (wa:=O) (by rw[T];exact T5) ac (λ k Q=>by
    rw[T];rcases aa k Q with e|e
    .exact .inl e
    .exact .inr (by simp at e;omega)) M6 T6
   have t1:=Tch.trans (S:=S) (S':=S) (T1.o.mono (S':=S) (λ k _ e=>by rw[e];exact af.o)) (Tch.of_below B2.o) (λ _ _ e=>e);refine⟨S',⟨lb,I,lc,gput g i (some v5),?_⟩,Tch.trans t1 hT (λ _ _ e=>e),λ k Q=>?_⟩
   .rw[ao.o];exact hD
   .rcases b3 k Q with e|e
    .exact .inl e
    .exact .inr (zn2 t1.size e)
  clear T;have Y:A.drew.cell? ⟨d,1,none⟩=some (.map (some I))/\A.drew.rangeAt q 0 (bcs xs):=⟨c1,RA⟩
  have ar:(A.alloc (.cells (bcs xs).toArray 140)).drew.cell? ⟨d,1,none⟩=some (.map (some I))/\(A.alloc (.cells (bcs xs).toArray 140)).drew.rangeAt q 0 (bcs xs):=⟨CA,b1⟩
  clear ap aq BS;go_wp2_with fail;refine wp_region_held (S:=λ w'=>w'.cell? ⟨d,1,none⟩=some (.map (some I))/\w'.rangeAt q 0 (bcs xs)) (by kernel_rfl) ?_;refine tkT 0 (some 20) (.move (.tmp 0)) (Value.pointer (some ⟨d,0,none⟩)) (by rintro o E w' ⟨a0,a1⟩;go_simp) Y ?_;simp only[zw];refine tkT 1 (some 21) (.nilCheck (.tmp 20)) (Value.pointer (some ⟨d,0,none⟩)) (by rintro o E w' ⟨a0,a1⟩;go_simp) Y ?_;simp only[zw];refine tkT 2 (some 22) (.fieldAddr 136 (.tmp 21) 1) (Value.pointer (some ⟨d,1,none⟩)) (by rintro o E w' ⟨a0,a1⟩;go_simp) Y ?_;simp only[zw];refine tkT 3 (some 23) (.load 134 (.tmp 22)) (Value.map (some I)) (by rintro o E w' ⟨a0,a1⟩;go_simp) Y ?_;simp only[zw]
  refine tkT 4 (some 24) (.move (.tmp 1)) (Value.int .i64 (i:Int)) (by rintro o E w' ⟨a0,a1⟩;go_simp) Y ?_;simp only[zw];refine tkT 5 (some 25) (.move (.tmp 0)) (Value.pointer (some ⟨d,0,none⟩)) (by rintro o E w' ⟨a0,a1⟩;go_simp) Y ?_;simp only[zw];refine tkT 6 (some 26) (.nilCheck (.tmp 25)) (Value.pointer (some ⟨d,0,none⟩)) (by rintro o E w' ⟨a0,a1⟩;go_simp) Y ?_;simp only[zw];refine tkT 7 (some 27) (.fieldAddr 136 (.tmp 26) 1) (Value.pointer (some ⟨d,1,none⟩)) (by rintro o E w' ⟨a0,a1⟩;go_simp) Y ?_;simp only[zw];refine tkT 8 (some 28) (.load 134 (.tmp 27)) (Value.map (some I)) (by rintro o E w' ⟨a0,a1⟩;go_simp) Y ?_;simp only[zw]
  refine tkT 9 (some 29) (.move (.tmp 1)) (Value.int .i64 (i:Int)) (by rintro o E w' ⟨a0,a1⟩;go_simp) Y ?_;simp only[zw];refine zhu9 11 (some 31) 140 (.tmp 7) q 0 (bcs xs) _ rfl (by kernel_rfl) (by kernel_rfl) (by kernel_rfl) (λ _ _ _ h=>h) rfl (λ w' h=>h.2) ba rfl b9 Y ?_;simp only[zw];refine zyp9 10 12 (some 30) (some 32) (.lookup 134 (.tmp 28) (.tmp 29) false) (.buildSlice 133 1 #[(0,.tmp 31)]) rfl rfl (by kernel_rfl) ?_ ?_;focus
   rintro o K hd E hg hK;refine zhr9 (.tmp 28) (.tmp 29) E I s1.L.length i g rfl (MP.o.tch TD.o (λ e=>e)) a2.o a3.o rfl ?_;rw[HU.o,hd];refine hK _ _ Y ?_;simp only[zw];refine rdT 12 (some 32) (.buildSlice 133 1 #[(0,.tmp 31)]) ?_;rintro o K hd E hg hK;refine zfh9 (.tmp 31) E xs HX.o rfl ?_;rw[hd]
  rotate_right;focus
   rintro o K hd E hg hK;refine zfh9 (.tmp 31) E xs HX.o rfl ?_;rw[hd];refine hK _ _ ar ?_;simp only[zw];refine rdT 10 (some 30) (.lookup 134 (.tmp 28) (.tmp 29) false) ?_;rintro o K hd E hg hK;refine zhr9 (.tmp 28) (.tmp 29) E I s1.L.length i g rfl (MP.o.tch a6.o (λ e=>e)) a2.o a3.o rfl ?_;rw[HU.o,hd]
  all_goals
   refine hK _ _ ar ?_;simp only[zw];refine rdT 13 (some 33) (.call { callee:=.builtin .append,args:=#[.tmp 30,.tmp 32],argTypes:=#[133,133] }) ?_;rintro o K hd E hg hK;refine zrz9 (w:=(A.alloc (.cells (bcs xs).toArray 140)).drew) (.tmp 30) (.tmp 32) E u (s1.V i) rfl SU.o A.heap.size 1 1 rfl [xs] rfl (SOk.one HX.o HY.o) NR.o av.o ?_;intro v5 O ac ab aa;obtain⟨w6,b8,k5,k6,b2⟩:=ax.o v5 O ac ab aa;clear ac ab aa;rw[hd];refine hK _ _ k5 ?_;simp only[zw];refine rdT 14 none (.mapUpdate 134 (.tmp 23) (.tmp 24) (.tmp 33)) ?_;rintro o K hd E hg hK;refine zvv9 (.tmp 23) (.tmp 24) (.tmp 33) E _ _ _ rfl rfl rfl b8 ?_;rw[hd];refine hK _ _ k6 ?_;refine wpAnyH_done (by kernel_rfl) ?_ _;clear E hd hg hK
   simp only[Act.put];go_wp2_with fail;go_ret;exact⟨rfl,b2.o⟩
def wco(s:DS)(at_:Int)(n:Nat):Int:=if at_<0\/(s.L.length:Int)<=at_ then 2 else if n=256 then 0 else 1
def wrr(s:DS)(at_:Int)(xs:List Int):DS:=if at_<0\/(s.L.length:Int)<=at_ then s else if xs.length=256 then s.wr at_.toNat xs else s
def dco(s:DS)(at_:Int):Int:=if at_<0\/(s.L.length:Int)<=at_ then 2 else 0
def dhs(s:DS)(at_:Int):List Int:=if at_<0\/(s.L.length:Int)<=at_ then[]else s.has at_.toNat
section
variable {S:Nat->Prop} {d:Nat} {s:DS}
def zsf9(at_:Int)(v:Value)(xs:List Int)(w:World)(h:Dk S w d s)(hr:Rd .u8 w v xs)(K:By xs)(hv:∀k,v.ownBlock=some k->¬S k)(I:∀i,(s.V i).length<274877906943):
 Calls Tryz.prog 102 #[dp d,.int .i64 at_,v] w λ e w'=>e=.returned (.int .i64 (wco s at_ xs.length))/\DkTo S w w' d (wrr s at_ xs):=by
 unfold wco wrr;by_cases A:at_<0\/(s.L.length:Int)<=at_
 .rw[if_pos A,if_pos A];obtain⟨a,cap,rfl,_⟩:=hr;refine(zmc9 at_ a _ cap w h A).mono ?_;rintro e w' ⟨rfl,rfl⟩;exact⟨rfl,h.to⟩
 .rw[if_neg A,if_neg A];obtain⟨i,rfl⟩:∃i:Nat,at_=(i:Int):=⟨at_.toNat,by omega⟩
  by_cases u:xs.length=256
  .rw[if_pos u,if_pos u];exact zwh9 i v xs w h (by omega) hr u K hv (I i)
  .rw[if_neg u,if_neg u];obtain⟨a,cap,rfl,E,H,_⟩:=hr;refine(zsg9 i a _ cap w h (by omega) u (zn2 E H)).mono ?_;rintro e w' ⟨rfl,rfl⟩;exact⟨rfl,h.to⟩
def Wz(w:World)(v:Value)(xs:List Int):Prop:=(v=.slice none 0 0/\xs=[])\/Wb w v xs
def Wz.rd{w:World}{v:Value}{xs:List Int}(h:Wz w v xs):Rd .u8 w v xs:=by
 rcases h with⟨rfl,rfl⟩|h
 .exact(zdv9 .u8 5 w).rd
 .exact h.rd
def zvn9(at_:Int)(w:World)(h:Dk S w d s):
 Calls Tryz.prog 109 #[dp d,.int .i64 at_] w λ e w'=>∃v,e=.returned (.tuple #[v,.int .i64 (dco s at_)])/\Wz w' v (dhs s at_)/\Below w.heap.size w w'/\∀k,v.ownBlock=some k->w.heap.size<=k:=by
 unfold dco dhs;by_cases u:at_<0\/(s.L.length:Int)<=at_
 .rw[if_pos u,if_pos u];refine(zvo9 at_ w h u).mono ?_;rintro e w' ⟨rfl,rfl⟩;exact⟨_,rfl,.inl ⟨rfl,rfl⟩,Below.refl _ _,λ k I=>by cases I⟩
 .rw[if_neg u,if_neg u];obtain⟨i,rfl⟩:∃i:Nat,at_=(i:Int):=⟨at_.toNat,by omega⟩
  refine(zyo9 i w h (by omega)).mono ?_;rintro e w' ⟨v,rfl,A,E,H⟩;exact⟨v,rfl,.inr A,E,H⟩
end
def FlM(s:DS)(g:Nat->Option Value)(left:Lit->Bool)(M:List (List Int)):Prop:=
 M.length=s.L.length/\∀i,i<s.L.length->M.getD i []=if (g i).isSome && !left (Lit.int .i64 (i:Int))then s.has i else s.L.getD i []
def zha9(M:List (List Int))(i j:Nat)(x:List Int)(hi:i<M.length):(M.set i x).getD j []=if j=i then x else M.getD j []:=by
 rw[zn3,List.getElem?_set];by_cases e:i=j
 .subst e;simp[hi]
 .rw[if_neg e,if_neg (λ h=>e h.symm),zn3]
def FlM.step{s:DS}{g:Nat->Option Value}{left:Lit->Bool}{M:List (List Int)}(h:FlM s g left M){i:Nat}(hi:i<s.L.length)(u:(g i).isSome):
 FlM s g (λ z=>left z && !z.sameKey (Lit.int .i64 (i:Int))) (M.set i (s.has i)):=by
 refine⟨by rw[zt0];exact h.1,λ j A=>?_⟩;rw[zha9 M i j _ (by rw[h.1];exact hi)];by_cases e:j=i
 .subst e;rw[if_pos rfl,u];simp[Lit.sameKey]
 .rw[if_neg e,h.2 j A];have:(Lit.int IntKind.i64 (j:Int)).sameKey (Lit.int .i64 (i:Int))=false:=by simp[Lit.sameKey];omega
  simp[this]
def FlM.fin{s:DS}{g:Nat->Option Value}{left:Lit->Bool}{M:List (List Int)}(h:FlM s g left M)(E:∀k,left k=false)(H:∀i,g i=none->s.V i=[]):M=(List.range s.L.length).map s.has:=by
 apply List.ext_getElem
 .rw[h.1];simp
 .intro i u I;have A:i<s.L.length:=by rw[<-h.1];exact u
  have:=h.2 i A;rw[zn3,zc0 u]at this;simp only[Option.getD_some]at this;rw[this,E];simp only[List.getElem_map,List.getElem_range];cases e:g i with
  | none=>simp[DS.has,H i e]
  | some v=>simp
def FlM.start(s:DS)(g:Nat->Option Value)(n:Nat)(A:n=s.L.length):FlM s g (Maps.has (Dm n g)) s.L:=by
 subst A;refine⟨rfl,λ i u=>?_⟩;cases e:g i with
 | none=>simp
 | some v=>have:Maps.has (Dm s.L.length g) (Lit.int .i64 (i:Int))=true:=dm_has.2 ⟨i,v,u,e,rfl⟩;simp[this]
def DS.has_ok{S:Nat->Prop}{w:World}{d:Nat}{s:DS}{u vb A:Nat}{g:Nat->Option Value}(h:DkAt S w d s u vb A g){i:Nat}(hi:i<s.L.length):(s.has i).length=256/\By (s.has i):=by
 unfold DS.has;by_cases e:s.V i=[]
 .rw[e];exact h.lies.1.get hi
 .cases e2:g i with
  | none=>exact absurd (h.no i e2) e
  | some v=>exact(h.yes i v e2).2.2.1.1.last e _
def DkAt.flushed{S:Nat->Prop}{w w':World}{d:Nat}{s:DS}{A vb H r:Nat}{g:Nat->Option Value}(h:DkAt S w d s A vb H g)(hr:w.heap.size<=r)(E:Tch (λ k=>k=A\/k=r\/k=vb) w w')
 (K:SecR w' (.slice (some ⟨A,0,none⟩) s.L.length H) ((List.range s.L.length).map s.has)) (O:Mp w' vb s.L.length (λ _=>none)):
 DkTo S w w' d { s with L:=(List.range s.L.length).map s.has,V:=λ _=>[] }:=by
 have I:w'.heap[d]?=w.heap[d]?:=E.block d h.lt (by
  rintro(e|e|e)
  .exact h.ne_lb e
  .have:=h.lt;omega
  .exact h.ne_vb e)
 refine⟨S,⟨A,vb,H,λ _=>none,?_⟩,?_,λ k u=>.inl u⟩
 .exact{
   n1:=by simpa using h.n1
   n2:=by simpa using h.n2
   l30:=h.l30
   box:=by rw[I,h.box];simp
   lies:=by simpa using K
   map:=by simpa using O
   no:=λ _ _=>rfl
   yes:=λ _ _ e=>by cases e
   apart:=λ _ _ _ _ e=>by cases e
   sd:=h.sd
   sl:=h.sl
   sv:=h.sv
   sg:=λ _ _ _ e=>by cases e
   slt:=λ k u=>zn1 (h.slt k u) E.size }
 .refine E.mono (λ k u e=>?_);rcases e with e|e|e
  .rw[e];exact h.sl
  .omega
  .rw[e];exact h.sv
def zus9{s:DS}{i:Nat}(h:s.V i≠[]):s.has i=(s.V i).getD ((s.V i).length-1) []:=by unfold DS.has;generalize s.L.getD i []=x;have:(s.V i).length≠0:=λ e=>h (zh0 e);rw[List.getLastD_eq_getLast?,List.getLast?_eq_getElem?,zn3,zc0 (by omega)];rfl
def zrt9{w:World}{vb n:Nat}{g:Nat->Option Value}(h:Mp w vb n g)(ty:TypeId):∃w',(Builtin.clear_ #[134] ty #[.map (some vb)]).run Tryz.prog w=.ok (.tuple #[]) w'/\Mp w' vb n (λ _=>none)/\Tch (λ k=>k=vb) w w':=by
 obtain⟨I,u,A,F,_⟩:=h;refine⟨{ w with heap:=w.heap.setIfInBounds vb (.map #[] u) },?_,?_,?_⟩
 .simp[Builtin.clear_,run_underlying Tryz.underlying134,MapKept.run_getObj_map A,MapKept.run_setObj_map _ A,Result.andThen]
 .have H:({ w with heap:=w.heap.setIfInBounds vb (.map #[] u) }:World).heap[vb]?=some (.map #[] u):=by have:=(zd0.1 A).1;simp[this]
  refine mp_of (m:=0) (D:=.map []) ⟨#[],u,H,⟨by simp,MapKept.stamped_empty u,by simp⟩,zn6 _,rfl⟩ (zcl9 (λ _ _=>rfl)).symm
 .refine⟨rfl,rfl,rfl,by simp,λ k K E=>?_⟩;show(w.heap.setIfInBounds vb (.map #[] u))[k]?=w.heap[k]?;rw[Array.getElem?_setIfInBounds_ne (λ e=>E e.symm)]
def ziy9{A:Array Oper}{E:List Oper}{o:Oper}{a:Act}{w:World}{Q:Exit->Act->World->Prop}(T:o.guard=none)(x:Operand)(Y:o.op=.call { callee:=.builtin .clear,args:=#[x],argTypes:=#[134] })
 (vb n:Nat) (g:Nat->Option Value) (hx:a.eval x=.map (some vb)) (hM:Mp w vb n g) (h:∀u,Mp u vb n (λ _=>none)->Tch (λ k=>k=vb) w u->wpList Tryz.prog A Q E (a.put o.dst (.tuple #[])) u):wpList Tryz.prog A Q (o::E) a w:=by
 obtain⟨u,hr,H,I⟩:=zrt9 hM o.type;refine wpList_plain T λ K O=>?_;unfold Oper.wp;simp[execOp,Y,resolve,invoke,builtin,hx,hr,Result.andThen];exact O _ _ (h u H I)
def zqr9{S:Nat->Prop}{d:Nat}{s:DS}(w:World)(h:Dk S w d s):
 Calls Tryz.prog 37 #[dp d] w λ e w'=>e=.returned (.tuple #[])/\DkTo S w w' d s.fl:=by
 obtain⟨u,H,I,g,h⟩:=h;have H2:=zb0 (zhd9 w h);have an:=za0 h.sd;clear h;obtain⟨bt,ay⟩:=zero_of_info zdf9;have bc:=za0 ay;clear bt ay
 go_enter Tryz.func37,Tryz.ntmps37
 go_wp2_with fail;refine H2.o.mono ?_;clear H2;rintro e T ⟨rfl,a4,a9⟩;cases hc:s.can with
 | false=>rw[hc]at a4;have E:Hid (DkAt S T d s u H I g):=a4;have T1:Hid (Tch (λ k=>k=d) w T):=a9;clear a4 a9;go_wp2_with fail;refine bodyPost_ret (results_none rfl _ _ _) rfl ?_;refine⟨rfl,S,?_,T1.o.mono (λ k _ e=>by rw[e];exact an.o),λ k hk=>.inl hk⟩;rw[show s.fl=s by unfold DS.fl;rw[hc];rfl];exact⟨u,H,I,g,E.o⟩
 | true=>
  rw[hc]at a4;have E:Hid (DkAt S T d s.tick u H I g):=a4;have T1:Hid (Tch (λ k=>k=d) w T):=a9;have al:Hid (s.fl={ s.tick with L:=(List.range s.tick.L.length).map s.tick.has,V:=λ _=>[] }):=by show _=_;unfold DS.fl;rw[hc];rfl
  clear a4 a9;generalize s.tick=s1 at E al;clear hc;have c1:=E.o.c1;have HM:Hid (Mp T H s1.L.length g):=E.o.map;have bg:Hid (s1.L.length<=4096):=E.o.n2;obtain⟨n,hn⟩:=exN s1.L.length;have HN:Hid (s1.L.length=n):=hn;rw[hn]at HM bg;clear hn;go_wp2_with(at_range;refine wpList_range_own _ rfl (.tmp 10) 134 rfl 3 133 keyed3 Tryz.underlying134 Rv H n (Dm n g) rfl HM.o ?_;intro w0 aj ai bq)
  go_frame
  obtain⟨r,hr⟩:=exN T.heap.size;have a2:Hid (T.heap.size=r):=hr;rw[hr]at aj |-
  have T0:Hid (Tch (λ k=>k=u\/k=r\/k=H) T w0):=(Tch.of_grown ai).mono (λ k _ e=>by cases e);have bh:Hid (w0.ranges Tryz.prog 3 Rv H r n (Dm n g) (Maps.has (Dm n g)) (Maps.size (Dm n g))):=aj;have L0:Hid (SecR w0 (.slice (some ⟨u,0,none⟩) n I) s1.L):=by have:=E.o.lies.tch (Tch.of_grown ai) (λ j _ e=>by cases e);rw[HN.o]at this;exact this
  clear hr aj ai bq
  go_loopw [2] (λ _ wr=>∃left af M,Hid (wr.ranges Tryz.prog 3 Rv H r n (Dm n g) left af)/\Hid (SecR wr (.slice (some ⟨u,0,none⟩) n I) M)/\Hid (FlM s1 g left M)/\Hid (Tch (λ k=>k=u\/k=r\/k=H) T wr)) (λ _ wr=>wr.rangeLeft H r)
  case atStart=>exact⟨_,_,s1.L,bh,L0,FlM.start s1 g n HN.o.symm,T0⟩
  case round=>
   obtain⟨left,af,M,RG,LM,FM,TW⟩:=hrel;have ad:wr.cell? ⟨d,0,none⟩=some (.slice (some ⟨u,0,none⟩) n I):=by
    have aw:=E.o.c0;rw[HN.o]at aw;rw[TW.o.cell (p:=⟨d,0,none⟩) E.o.lt (by
     rintro(e|e|e)
     .exact E.o.ne_lb e
     .have:=E.o.lt;have:=a2.o;simp only at e;omega
     .exact E.o.ne_vb e)]
    exact aw
   have bj:wr.cell? ⟨d,1,none⟩=some (.map (some H)):=by
    rw[TW.o.cell (p:=⟨d,1,none⟩) E.o.lt (by
     rintro(e|e|e)
     .exact E.o.ne_lb e
     .have:=E.o.lt;have:=a2.o;simp only at e;omega
     .exact E.o.ne_vb e)]
    exact c1
   go_wp2_with(at_next;refine wpList_next_ranges _ rfl (.tmp 11) rfl 3 keyed3 Rv (Value.int .i64) (λ v:Value=>v) (λ c4 kl hk=>by obtain⟨x,hx,_⟩:=Maps.keyOf_int_inv Tryz.underlying3 hk;exact⟨x,hx⟩) (λ v y _=>⟨v,rfl⟩) H r n _ _ _ rfl RG.o ?_ ?_)
   .intro _ bn;have MW:Hid (Mp wr H n g):=RG.o.owns;go_wp2_with(with_reducible (show wpList _ _ _ (Oper.mk _ (Op.call _) _ _ _ _::_) _ _);refine ziy9 rfl (.tmp 32) rfl H n g rfl MW.o ?_)
    intro A b3 b7;have M2:Hid (Mp A H n (λ _=>none)):=b3;have T2:Hid (Tch (λ k=>k=H) wr A):=b7;clear b3 b7;go_wp2_with fail
    go_end0
    refine⟨rfl,?_⟩;rw[al.o];have e:=FM.o.fin bn E.o.no;have b1:SecR A (.slice (some ⟨u,0,none⟩) n I) M:=LM.o.tch T2.o (λ j e=>by cases e;exact E.o.lb_vb);rw[e,<-HN.o]at b1;have b4:=M2.o;rw[<-HN.o]at b4;have:=E.o.flushed (r:=r) (Nat.le_of_eq a2.o) (TW.o.trans T2.o (λ k _ e=>.inr (.inr e))) b1 b4;obtain⟨S',h1,h2,h3⟩:=this;have t1:Tch S w T:=T1.o.mono (λ k _ e=>by rw[e];exact an.o);refine⟨S',h1,Tch.trans t1 h2 (λ _ _ e=>e),λ k hk=>?_⟩;rcases h3 k hk with e|e
    .exact .inl e
    .exact .inr (zn2 t1.size e)
   .intro x c kl yd yp A a7 b0 bo hv ag b5 b2 ax br bm;obtain⟨x',ex,rfl,_⟩:=Maps.keyOf_int_inv Tryz.underlying3 b0;cases ex;(have b9:yd=.held c:=by simp only[Rv,Option.some.injEq,Prod.mk.injEq]at hv;exact hv.1.symm);obtain⟨i,v,hi,a5,ei⟩:=dm_has.1 (has_true_of_atKey (y:=yd) ag);simp only[Lit.int.injEq,true_and]at ei;subst ei;have bl:v=c:=by have h1:=ag (.held v);rw[dm_at hi a5,b9]at h1;simpa using h1
    subst bl;obtain⟨_,b8,ak,_⟩:=E.o.yes i v a5;obtain⟨b,cap,rfl,bk,av,ah,ar,az⟩:=E.o.own a5;(have au:b≠r:=λ e=>by have:=E.o.slt b ar;have:=a2.o;omega);have T2:Hid (Tch (λ k=>k=r) wr A):=(Tch.of_grown ax).mono (λ k _ e=>by cases e;rfl);have ap:Hid (Tch (λ k=>k=u\/k=r\/k=H) T A):=TW.o.trans T2.o (λ k _ e=>.inr (.inl e));have SV:Hid (SecR A (.slice (some ⟨b,0,none⟩) (s1.V i).length cap) (s1.V i)):=ak.tch ap.o (λ j e=>by
     cases e;rintro(e|e|e)
     .exact ah e
     .exact au e
     .exact av e)
    have aa:Hid (d≠r/\u≠r):=⟨λ e=>by have:=E.o.lt;have:=a2.o;omega,λ e=>by have:=E.o.slt _ E.o.sl;have:=a2.o;omega⟩
    have ac:Hid (SecR A (.slice (some ⟨u,0,none⟩) n I) M):=LM.o.tch T2.o (λ j e=>by cases e;exact aa.o.2);have bd:Hid (i<n):=hi;(have bb:Hid ((g i).isSome=true):=by show _=_;rw[a5];rfl);(have ab:Hid (i<M.length):=by show _<_;rw[FM.o.1,HN.o];exact hi);have ae:A.cell? ⟨d,0,none⟩=some (.slice (some ⟨u,0,none⟩) n I):=by rw[T2.o.cell (p:=⟨d,0,none⟩) (ze0 wr ⟨d,0,none⟩ ad) (λ e=>aa.o.1 e)];exact ad
    have am:Hid (s1.has i=(s1.V i).getD ((s1.V i).length-1) []):=zus9 b8;have LV:A.rangeAt b (((s1.V i).length-1)*256) (bcs ((s1.V i).getD ((s1.V i).length-1) [])):=SV.o.load (by omega);have LY:=ak.1.get (i:=(s1.V i).length-1) (by omega);(have a8:(s1.V i).length<=cap/\cap<=maxLen:=by obtain⟨_,_,_,h1,h2,_⟩:=SV.o.blk;exact⟨h1,h2⟩);obtain⟨y,hy⟩:=exN ((s1.V i).getD ((s1.V i).length-1) []);rw[hy]at LV LY am;have a3:Hid (y.length=256/\By y):=LY;obtain⟨j,hj⟩:=exN ((s1.V i).length-1);obtain⟨m,hm⟩:=exN ((s1.V i).length);rw[hj]at LV;rw[hm]at a8 hj az bm |-
    (have c2:(m:Int)<=9223372036854775807:=by have:=a8.1;have:=a8.2;unfold maxLen at this;omega);(have c3:(m:Int)-1=(j:Int):=by omega);(have be:Hid (IntKind.i64.wrap (j:Int)=(j:Int)):=by show _=_;rw[IntKind.wrap_i64];omega);(have bx:(0:Int)<=(j:Int):=by omega);(have bz:(j:Int)<(m:Int):=by omega);(have bu:(0:Int)<=(i:Int):=by omega);(have bw:(i:Int)<(n:Int):=by omega);have bs:=Tryz.underlying140;(have b6:(Tryz.prog.info? 140).map (·.size)=some (bcs y).length:=by rw[bc.o,zc9,a3.o.1]);have W3:Hid (SecR (A.setCells u (i*256) (bcs y)) (.slice (some ⟨u,0,none⟩) n I) (M.set i y)):=ac.o.put ab.o a3.o.1 a3.o.2;have T3:Hid (Tch (λ k=>k=u) A (A.setCells u (i*256) (bcs y))):=zb9 u (bcs y) (i*256) A
    have TH:Hid (A.there u (i*256) 256):=ac.o.there ab.o;have a6:Hid (b≠u/\d≠u/\r≠u/\H≠u):=⟨ah,E.o.ne_lb,aa.o.2.symm,E.o.lb_vb.symm⟩
    (have bi:Hid (A.ranges Tryz.prog 3 Rv H r n (Dm n g) (λ z=>left z && !z.sameKey (Lit.int .i64 (i:Int))) a7):=b5;have ba:Hid (FlM s1 g (λ z=>left z && !z.sameKey (Lit.int .i64 (i:Int))) (M.set i y)):=by have:=FM.o.step (by rw[HN.o];exact hi) bb.o;rw[am.o]at this;exact this);have bf:Hid (a7<af):=b2;clear b0 bo hv ag b9 a5 b8 ak bk av ah ar au LY hy hj a8 az ax br b5 b2 hi bd ad bj SV;have O:A.drew.cell? ⟨d,0,none⟩=some (.slice (some ⟨u,0,none⟩) n I)/\A.drew.rangeAt b (j*256) (bcs y):=⟨ae,LV⟩
    go_wp2_with fail;refine wp_region_held (S:=λ w'=>w'.cell? ⟨d,0,none⟩=some (.slice (some ⟨u,0,none⟩) n I)/\w'.rangeAt b (j*256) (bcs y)) (by kernel_rfl) ?_;refine tkT 0 (some 17) (.move (.tmp 0)) (Value.pointer (some ⟨d,0,none⟩)) (by rintro o Q w' ⟨Y,a0⟩;go_simp) O ?_;simp only[zw];refine tkT 1 (some 18) (.nilCheck (.tmp 17)) (Value.pointer (some ⟨d,0,none⟩)) (by rintro o Q w' ⟨Y,a0⟩;go_simp) O ?_;simp only[zw];refine tkT 2 (some 19) (.fieldAddr 136 (.tmp 18) 0) (Value.pointer (some ⟨d,0,none⟩)) (by rintro o Q w' ⟨Y,a0⟩;go_simp) O ?_;simp only[zw];refine tkT 3 (some 20) (.load 133 (.tmp 19)) (Value.slice (some ⟨u,0,none⟩) n I) (by rintro o Q w' ⟨Y,a0⟩;go_simp) O ?_;simp only[zw]
    refine tkT 4 (some 21) (.move (.tmp 2)) (Value.int .i64 (i:Int)) (by rintro o Q w' ⟨Y,a0⟩;go_simp) O ?_;simp only[zw];refine tkT 5 (some 22) (.move (.tmp 3)) (Value.slice (some ⟨b,0,none⟩) m cap) (by rintro o Q w' ⟨Y,a0⟩;go_simp) O ?_;simp only[zw];refine tkT 6 (some 23) (.move (.tmp 3)) (Value.slice (some ⟨b,0,none⟩) m cap) (by rintro o Q w' ⟨Y,a0⟩;go_simp) O ?_;simp only[zw];refine tkT 7 (some 24) (.call { callee:=.builtin .len,args:=#[.tmp 23],argTypes:=#[133] }) (Value.int .i64 (m:Int)) (by rintro o Q w' ⟨Y,a0⟩;go_simp) O ?_;simp only[zw];refine tkT 8 (some 25) (.binOp .sub 3 (.tmp 24) (.const (.int .i64 1)) 3) (Value.int .i64 (j:Int)) ?hy O ?_;case hy=>
     rintro o Q w' ⟨Y,a0⟩;go_simp;exact be.o
    simp only[zw];refine tkT 9 (some 26) (.indexAddr 133 (.tmp 22) (.tmp 25)) (Value.pointer (some ⟨b,j*256,none⟩)) (by rintro o Q w' ⟨Y,a0⟩;go_simp) O ?_;simp only[zw];refine zhu9 10 (some 27) 140 (.tmp 26) b (j*256) (bcs y) _ rfl (by kernel_rfl) (by kernel_rfl) (by kernel_rfl) (λ _ _ _ h=>h) rfl (λ w' h=>h.2) bs rfl b6 O ?_;simp only[zw];refine tkT 11 (some 28) (.indexAddr 133 (.tmp 20) (.tmp 21)) (Value.pointer (some ⟨u,i*256,none⟩)) (by rintro o Q w' ⟨Y,a0⟩;go_simp) O ?_;simp only[zw];refine rdT 12 none (.store 140 (.tmp 28) (.tmp 27)) ?_;rintro o K hd Q hg hK
    refine wp_store_mid (w:=A.drew) 140 (.tmp 28) (.tmp 27) Q u (i*256) (bcs y).toArray rfl rfl (by rw[List.size_toArray,zc9,a3.o.1];exact TH.o) (by rw[b6,List.size_toArray]) (zbu9 y) ?_;rw[hd];have a1:Hid (Tch (λ k=>k=u) A (A.drew.setCells u (i*256) (bcs y))):=Tch.trans (S:=λ k=>k=u) (S':=λ k=>k=u) (Tch.drew (Tch.refl _ A)) (zb9 u (bcs y) (i*256) A.drew) (λ _ _ e=>e);have aq:Hid (SecR (A.drew.setCells u (i*256) (bcs y)) (.slice (some ⟨u,0,none⟩) n I) (M.set i y)):=(show SecR A.drew (.slice (some ⟨u,0,none⟩) n I) M from ac.o.tch (S:=λ _=>False) (Tch.drew (Tch.refl _ A)) (λ _ _ e=>e)).put ab.o a3.o.1 a3.o.2;rw[List.toList_toArray]
    generalize hW4:A.drew.setCells u (i*256) (bcs y)=W4 at a1 aq |-
    refine hK _ _ ⟨?_,?_⟩ ?_
    .rw[a1.o.cell (p:=⟨d,0,none⟩) (ze0 A ⟨d,0,none⟩ ae) (λ e=>a6.o.2.1 e)];exact ae
    .intro k v hv;have h0:=LV k v hv;rw[a1.o.cell (p:=⟨b,j*256+k,none⟩) (ze0 A ⟨b,j*256+k,none⟩ h0) (λ e=>a6.o.1 e)];exact h0
    refine wpAnyH_done (by kernel_rfl) ?_ _;clear Q hd hg hK hW4 O LV;simp only[Act.put];go_wp2_with fail;have ao:W4.ranges Tryz.prog 3 Rv H r n (Dm n g) (λ z=>left z && !z.sameKey (Lit.int .i64 (i:Int))) a7:=bi.o.kept (row:=some u) ⟨a1.o.os,a1.o.tape,a1.o.output,a1.o.size,λ k hk bp=>a1.o.block k hk (λ e=>bp (by rw[e]))⟩ (λ e=>by cases e;exact a6.o.2.2.2 rfl) (λ e=>by cases e;exact a6.o.2.2.1 rfl)
    go_roundw
    (case rel=>exact⟨_,a7,M.set i y,ao,aq,ba,ap.o.trans a1.o (λ k _ e=>.inl e)⟩);case measure=>rw[ao.left_eq,RG.o.left_eq];exact bf.o
