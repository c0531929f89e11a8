import Derived.Test.YtihofcopapmjlaaGreatPCkMem
import Derived.Test.YtihofcopapmjlaaGreatPCkHd
import Derived.Test.YtihofcopapmjlaaGreatPCkCon
set_option maxRecDepth 100000
set_option linter.all false
set_option maxHeartbeats 8000000
namespace Go.Proofs.YtihofcopapmjlaaGreat
open Go.Proofs.Tryz
section
open Go.RowKit
structure Rw(U:Nat->Prop)(w:World)(t c d M N:Nat)(a:Ab)(U':Nat->Prop)(W:World):Prop where
 sz:Sz U' W t c d M N a
 ch:AD U w W
 nw:∀k,U' k->U k\/w.heap.size<=k
section
variable {U U' U2:Nat->Prop} {w W W':World} {t c d M N:Nat} {a:Ab}
def Sz.rw(h:Sz U w t c d M N a):Rw U w t c d M N a U w:=⟨h,AD.refl _ _,λ _ e=>.inl e⟩
def Rw.on(h:Rw U w t c d M N a U' W)(f:Below W.heap.size W W'):Rw U w t c d M N a U' W':=⟨h.sz.below f,h.ch.trans (AD.of_below (S:=U) f) (λ _ _ e=>e),h.nw⟩
def Rw.tq(h:Rw U w t c d M N a U' W){R}(q:AD R W W')(r:∀k,R k->¬U' k/\w.heap.size<=k):Rw U w t c d M N a U' W':=
 ⟨h.sz.tch q (λ k f e=>(r k e).1 f),h.ch.trans q (λ k f e=>by grind),h.nw⟩
def Rw.szTo(h:Rw U w t c d M N a U' W):G6 U w W t c d M N a:=⟨U',h.sz,h.ch,h.nw⟩
def Di{j}(f:∀k,U2 k->U' k\/W.heap.size<=k)(r:j<W.heap.size)(q:¬U' j):¬U2 j:=λ e=>(f j e).elim q (λ e=>by omega)
end
structure Rq(U:Nat->Prop)(w:World)(t c d:Nat)(bx:Array Value)(N:Nat)(a:Ab)(U':Nat->Prop)(W:World):Prop where
 sz:Cq U' W t c d bx N a
 ch:AD U w W
 nw:∀k,U' k->U k\/w.heap.size<=k
 tl:t<w.heap.size
section
variable {U U' U2:Nat->Prop} {w W W':World} {t c d N:Nat} {bx:Array Value} {a:Ab}
def Cq.rw(h:Cq U w t c d bx N a):Rq U w t c d bx N a U w:=⟨h,AD.refl _ _,λ _ e=>.inl e,h.tl⟩
def Rq.on(h:Rq U w t c d bx N a U' W)(f:Below W.heap.size W W'):Rq U w t c d bx N a U' W':=⟨h.sz.below f,h.ch.trans (AD.of_below (S:=U) f) (λ _ _ e=>e),h.nw,h.tl⟩
def Rq.tq(h:Rq U w t c d bx N a U' W){R}(r:AD R W W')(q:∀k,R k->¬U' k/\w.heap.size<=k):Rq U w t c d bx N a U' W':=
 ⟨h.sz.tch r (λ k f e=>(q k e).1 f) (λ e=>by have:=(q t e).2;have:=h.tl;omega),h.ch.trans r (λ k f e=>by grind),h.nw,h.tl⟩
def Rq.to(h:Rq U w t c d bx N a U' W)(f:Cq U2 W' t c d bx N a)(q:AD U' W W')(r:∀k,U2 k->U' k\/W.heap.size<=k):Rq U w t c d bx N a U2 W':=
 ⟨f,h.ch.trans q (λ k A e=>(h.nw k e).elim id (λ e=>by omega)),λ k e=>(r k e).elim (h.nw k) (λ e=>.inr (Aw h.ch.size e)),h.tl⟩
end
structure Lp(U:Nat->Prop)(w:World)(t c d:Nat)(bx:Array Value)(N:Nat)(a:Ab)(U':Nat->Prop)(W:World)(q:Nat)(hm hp:Int)(mv fv:Value)(more:List Int)(pv:Value)(pb:List Int)(nv:Value)(ns:List Int):Prop where
 rw:Rq U w t c d bx N a U' W
 hv:Hv W q hm hp mv fv
 mo:AF .i64 3 W mv more
 pk:A4 W pv pb
 nu:AF .i64 3 W nv ns
 qn:¬U' q/\w.heap.size<=q
 mn:∀j,mv.ownBlock=some j->¬U' j/\w.heap.size<=j
 pn:∀j,pv.ownBlock=some j->¬U' j/\w.heap.size<=j/\j≠q/\mv.ownBlock≠some j/\nv.ownBlock≠some j
 nn:∀j,nv.ownBlock=some j->¬U' j/\w.heap.size<=j/\mv.ownBlock≠some j
def A4.lt{w v xs}(h:A4 w v xs):∀j,v.ownBlock=some j->j<w.heap.size:=λ j f=>by obtain⟨g,o,cap,rfl,_,_,q,_⟩:=h;simp only[Value.ownBlock,Option.some.injEq]at f;omega
section
variable {U U' U2:Nat->Prop} {w W W':World} {t c d N q:Nat} {bx:Array Value} {a:Ab} {hm hp:Int} {mv fv pv nv pv' nv':Value} {more pb ns pb' ns':List Int}
def Lp.on(h:Lp U w t c d bx N a U' W q hm hp mv fv more pv pb nv ns)(f:Below W.heap.size W W'):Lp U w t c d bx N a U' W' q hm hp mv fv more pv pb nv ns:=
 ⟨h.rw.on f,h.hv.on f,h.mo.below f,h.pk.below f,h.nu.below f,h.qn,h.mn,h.pn,h.nn⟩
def Lp.to(h:Lp U w t c d bx N a U' W q hm hp mv fv more pv pb nv ns)(B:Cq U2 W' t c d bx N a)(r:AD U' W W')(A:∀k,U2 k->U' k\/W.heap.size<=k):Lp U w t c d bx N a U2 W' q hm hp mv fv more pv pb nv ns where
 rw:=h.rw.to B r A
 hv:=h.hv.tch r h.qn.1
 mo:=h.mo.tch r (λ j f=>(h.mn j f).1)
 pk:=h.pk.tch r (λ j f=>(h.pn j f).1)
 nu:=h.nu.tch r (λ j f=>(h.nn j f).1)
 qn:=⟨Di A h.hv.lt h.qn.1,h.qn.2⟩
 mn:=λ j f=>⟨Di A (h.mo.lt j f) (h.mn j f).1,(h.mn j f).2⟩
 pn:=λ j f=>⟨Di A (h.pk.lt j f) (h.pn j f).1,(h.pn j f).2⟩
 nn:=λ j f=>⟨Di A (h.nu.lt j f) (h.nn j f).1,(h.nn j f).2⟩
def Lp.pks(h:Lp U w t c d bx N a U' W q hm hp mv fv more pv pb nv ns)(E:A4 W' pv' pb')(r:AY W W' pv pv'):Lp U w t c d bx N a U' W' q hm hp mv fv more pv' pb' nv ns where
 rw:=h.rw.tq r.tch (λ k B=>⟨(h.pn k B).1,(h.pn k B).2.1⟩)
 hv:=h.hv.tch r.tch (λ e=>(h.pn q e).2.2.1 rfl)
 mo:=h.mo.tch r.tch (λ j A e=>(h.pn j e).2.2.2.1 A)
 pk:=E
 nu:=h.nu.tch r.tch (λ j A e=>(h.pn j e).2.2.2.2 A)
 qn:=h.qn
 mn:=h.mn
 pn:=λ j A=>by rcases r.fresh j A with e|e;exact h.pn j e;refine⟨λ f=>?_,Aw h.rw.ch.size e,λ f=>?_,λ f=>?_,λ f=>?_⟩;have:=h.rw.sz.ul j f;omega;have:=h.hv.lt;omega;have:=h.mo.lt j f;omega;have:=h.nu.lt j f;omega
 nn:=h.nn
def Lp.nus(h:Lp U w t c d bx N a U' W q hm hp mv fv more pv pb nv ns)(E:AF .i64 3 W' nv' ns')(r:AY W W' nv nv'):Lp U w t c d bx N a U' W' q hm hp mv fv more pv pb nv' ns' where
 rw:=h.rw.tq r.tch (λ k B=>⟨(h.nn k B).1,(h.nn k B).2.1⟩)
 hv:=h.hv.tch r.tch (h.nu.neV h.hv (by decide))
 mo:=h.mo.tch r.tch (λ j f e=>(h.nn j e).2.2 f)
 pk:=h.pk.tch r.tch (λ j f e=>(h.pn j f).2.2.2.2 e)
 nu:=E
 qn:=h.qn
 mn:=h.mn
 pn:=λ j f=>by obtain⟨I,J,K,L,O⟩:=h.pn j f;refine⟨I,J,K,L,λ e=>?_⟩;rcases r.fresh j e with e|e;exact O e;have:=h.pk.lt j f;omega
 nn:=λ j f=>by rcases r.fresh j f with e|e;exact h.nn j e;refine⟨λ A=>?_,Aw h.rw.ch.size e,λ A=>?_⟩;have:=h.rw.sz.ul j A;omega;have:=h.mo.lt j A;omega
def Lp.k1(h:Lp U w t c d bx N a U' W q hm hp mv fv more pv pb nv ns):W.cell? ⟨q,1,none⟩=some (.int .i64 hp):=(h.hv.at 1).trans rfl
end
def ADs(w:World)(x):AF .i64 3 (w.alloc (.cells #[.int .i64 x] 3)) (.slice (some ⟨w.heap.size,0,none⟩) 1 1) [x]:=by refine⟨by simp,.inr ⟨w.heap.size,1,#[.int .i64 x],rfl,AI _,heap_alloc_new w _,AE _,by unfold maxLen;decide,rfl,rfl⟩⟩
theorem Su:(prog.info? 59).map (·.size)=some 2:=by kernel_rfl
def Wt{o a w K Q}(f:o.op=.alloc 59)(h:∀W q,w.heap.size=q->Vr W q 59 [.int .i64 0,AK]->Below w.heap.size w W->K (a.put o.dst (.pointer (some ⟨q,0,none⟩))) W):Oper.wp prog o a w K Q:=by
 have r:(execOp a.eval o).run prog w=.ok (Next.value (.pointer (some ⟨w.heap.size,0,none⟩))) (w.alloc (.cells [Value.int .i64 0,AK].toArray 59)):=by unfold execOp;simp only[f];go_simp
 unfold Oper.wp;simp only[r,Oper.upon];exact h _ _ rfl (CZ w _ _) ((Below.refl _ _).alloc (AE _) _)
def Nw.tchE{S f w w' v xs}(h:Nw f w v xs)(I:AD S w w')(E:xs≠[]->∀k,v.ownBlock=some k->¬S k):Nw f w' v xs:=by
 by_cases e:xs=[]
 .subst e;obtain⟨a,cap,rfl,q,r,A,_⟩:=h.rd;exact⟨⟨a,cap,rfl,q,r,A,.inl rfl⟩,λ b o n c _ i B=>by simp at B,h.new,.inl rfl⟩
 .exact h.tch I (E e)
def Nw.ltE{f w v xs}(h:Nw f w v xs)(e:xs≠[]):∀j,v.ownBlock=some j->j<w.heap.size:=(h.sp.resolve_left e).lt
structure Kx(U:Nat->Prop)(w:World)(t c d:Nat)(bx:Array Value)(N:Nat)(a:Ab)(b len:Int)(U':Nat->Prop)(W:World):Prop where
 rw:Rq U w t c d bx N a U' W
 cb:Vr W w.heap.size 28 [.int .i64 b,.int .i64 len]
 cn:¬U' w.heap.size
section
variable {U U' U2:Nat->Prop} {w W W':World} {t c d N q:Nat} {bx:Array Value} {a:Ab} {b len:Int}
def Kx.on(h:Kx U w t c d bx N a b len U' W)(f:Below W.heap.size W W'):Kx U w t c d bx N a b len U' W':=⟨h.rw.on f,h.cb.on f,h.cn⟩
def Kx.to(h:Kx U w t c d bx N a b len U' W)(r:Cq U2 W' t c d bx N a)(f:AD U' W W')(q:∀k,U2 k->U' k\/W.heap.size<=k):Kx U w t c d bx N a b len U2 W':=⟨h.rw.to r f q,h.cb.tch f h.cn,Di q h.cb.lt h.cn⟩
def Kx.tq(h:Kx U w t c d bx N a b len U' W){R}(f:AD R W W')(q:∀k,R k->¬U' k/\w.heap.size<k):Kx U w t c d bx N a b len U' W':=⟨h.rw.tq f (λ k e=>⟨(q k e).1,by grind⟩),h.cb.tch f (λ e=>by grind),h.cn⟩
def Kx.c0(h:Kx U w t c d bx N a b len U' W):W.cell? ⟨t,0,none⟩=some (cp c):=h.rw.sz.c0
def Kx.b0(h:Kx U w t c d bx N a b len U' W):W.cell? ⟨w.heap.size,0,none⟩=some (.int .i64 b):=(h.cb.at 0).trans rfl
def Kx.b1(h:Kx U w t c d bx N a b len U' W):W.cell? ⟨w.heap.size,1,none⟩=some (.int .i64 len):=(h.cb.at 1).trans rfl
end
abbrev Vo(U':Nat->Prop)(n:Nat)(W:World)(q:Nat)(T:TypeId)(cs:List Value):Prop:=Vr W q T cs/\¬U' q/\n<q
def Uq{U t c d N bx a}(b len w)(H:Cq U w t c d bx N a):
 Calls prog 42 #[AW t,.agg #[.int .i64 b,.int .i64 len]] w λ e w'=>∃pv nv,e=.returned (.tuple #[pv,nv,.int .i64 (An a.V b len).1])/\∃U',Rq U w t c d bx N a U' w'/\
  Rd .u8 w' pv (An a.V b len).2.1/\(By (An a.V b len).2.1/\(An a.V b len).2.1.length<=720)/\AF .i64 3 w' nv (An a.V b len).2.2/\(∀j,pv.ownBlock=some j->j<w'.heap.size)/\∀j,nv.ownBlock=some j->¬U' j/\w.heap.size<=j:=by
 obtain⟨er,r,f,hV⟩:∃er r f,a.V b=(er,r,f):=⟨_,_,_,rfl⟩
 have HV:=z6 hV;have HG:Hid (∀U' W,Cq U' W t c d bx N a->Calls prog 72 #[cp c,.int .i64 b] W λ e w'=>∃u,e=.returned (.tuple #[blk r u,.int .i64 er])/\(By f/\f.length<=240)/\Nw W.heap.size w' u f/\∃U2,Cq U2 w' t c d bx N a/\AD U' W w'/\(∀k,U2 k->U' k\/W.heap.size<=k)/\∀j,u.ownBlock=some j->¬U2 j):=λ U' W h=>by have:=Rx b W h;rw[hV]at this;exact this
 have HE:Hid (∀(e:Int)(U':Nat->Prop)(w':World),An a.V b len=(e,[],[])->Rq U w t c d bx N a U' w'->∃pv nv,Ending.returned (.tuple #[.slice none 0 0,.slice none 0 0,.int .i64 e])=.returned (.tuple #[pv,nv,.int .i64 (An a.V b len).1])/\∃U',Rq U w t c d bx N a U' w'/\
  Rd .u8 w' pv (An a.V b len).2.1/\(By (An a.V b len).2.1/\(An a.V b len).2.1.length<=720)/\AF .i64 3 w' nv (An a.V b len).2.2/\(∀j,pv.ownBlock=some j->j<w'.heap.size)/\∀j,nv.ownBlock=some j->¬U' j/\w.heap.size<=j):=λ e U' w' hr hR=>by
  rw[hr];exact⟨.slice none 0 0,.slice none 0 0,rfl,U',hR,(CB .u8 5 w').rd,⟨λ i=>by simp,by simp⟩,CB _ _ _,λ j L=>(by cases L),λ j L=>(by cases L)⟩
 obtain⟨W1,bo⟩:=exN (w.alloc (.cells #[.int .i64 b,.int .i64 len] 28));have K1:Hid (Kx U w t c d bx N a b len U W1):=by
  have B1:Below w.heap.size w W1:=by rw[<-bo];exact(Below.refl _ _).alloc (AE _) _
  exact⟨H.rw.on B1,by rw[<-bo];exact CZ w _ _,λ e=>by have:=H.ul _ e;omega⟩
 have b0:=K1.o.b0;have b1:=K1.o.b1;have HM:=AU (PB len W1);clear H hV;unfold blk at HG
 go_enter func42,ntmps42
 go_wp2_with fail;refine HM.o.mono ?_;rintro e w' ⟨rfl,hw⟩;replace hw:=hw.symm;subst hw;clear HM;by_cases a9:1<=len/\len<=512
 case neg=>
  have hb:(decide (1<=len)&&decide (len<=512))=false:=by rw[Bool.and_eq_false_iff,AT,AT];omega
  have HR:Hid (An a.V b len=(1,[],[])):=by show _=_;unfold An;rw[if_pos (by omega)]
  clear a9;rw[hb];go_wp2_with fail;go_ret3;exact HE.o 1 U _ HR.o K1.o.rw
 have hb:(decide (1<=len)&&decide (len<=512))=true:=by simp[a9.1,a9.2]
 rw[hb];have HL:=z6 a9;clear hb a9
 go_upto_region 3 with fail
 go_cut [7,8] (λ v7 v8 wx=>∃(q:Nat)(U2:Nat->Prop)(u:Value),v7=.pointer (some ⟨q,0,none⟩)/\v8=.int .i64 er/\Hid (Kx U w t c d bx N a b len U2 wx/\Vo U2 w.heap.size wx q 59 [.int .i64 r,u]/\Nw (w.heap.size+1) wx u f/\(∀j,u.ownBlock=some j->¬U2 j)/\By f/\f.length<=240))
 case first=>
  have bz:Hid (∀u {W:World},Rd .u8 W u f->[Value.int .i64 r,u].toArray.all (·.oneCell')=true):=λ u W h=>by obtain⟨_,_,rfl,_⟩:=h;simp[Value.oneCell']
  go_wp2_with fail;have bg:prog.follows .mixedOrders=true:=by kernel_rfl
  refine Dz (S:=λ W=>W.cell? ⟨t,0,none⟩=some (cp c)/\W.cell? ⟨w.heap.size,0,none⟩=some (.int .i64 b)) (t:=12) bg ?_;have X:Kx U w t c d bx N a b len U W1.drew:=K1.o.on (Below.of_drewN _ W1 1);refine AO 0 (some 23) (.move (.tmp 0)) (AW t) ⟨X.c0,X.b0⟩ ?_;simp only[zq];refine AO 1 (some 24) (.nilCheck (.tmp 23)) (AW t) ⟨X.c0,X.b0⟩ ?_;simp only[zq];refine AO 2 (some 25) (.fieldAddr 90 (.tmp 24) 0) (Value.pointer (some ⟨t,0,none⟩)) ⟨X.c0,X.b0⟩ ?_;simp only[zq];refine AO 3 (some 26) (.load 32 (.tmp 25)) (cp c) ⟨X.c0,X.b0⟩ ?_;simp only[zq];refine AO 4 (some 27) (.fieldAddr 28 (.tmp 3) 0) (Value.pointer (some ⟨w.heap.size,0,none⟩)) ⟨X.c0,X.b0⟩ ?_;simp only[zq]
  refine AO 5 (some 28) (.load 3 (.tmp 27)) (Value.int .i64 b) ⟨X.c0,X.b0⟩ ?_;simp only[zq];refine Mj 6 10 (some 29) (.call { callee:=.value (.func 72),args:=#[.tmp 26,.tmp 28],argTypes:=#[32,3] }) (some 7) (.alloc 59) rfl rfl (by kernel_rfl) ?_ ?_
  .rintro o K B E T A;refine Dp (enters_of func72 (by kernel_rfl) rfl) E (vs:=#[cp c,.int .i64 b]) (by kernel_rfl) (HG.o U W1.drew X.rw.sz) ?_;rintro e Z ⟨u,he,a3,a2,U2,z1,z2,z3,z4⟩;refine⟨_,he,?_⟩;rw[B];have O:=X.to z1 z2 z3;have aq:Nw (w.heap.size+1) Z u f:=⟨a2.rd,a2.fz,λ k hk=>Aw X.cb.lt (a2.new k hk),a2.sp⟩
   refine A _ _ (λ _=>⟨O.c0,O.b0⟩) ?_;clear E B T A he;simp only[zq];refine AO 7 (some 22) (.move (.tmp 29)) (Value.tuple #[.agg #[.int .i64 r,u],.int .i64 er]) ⟨O.c0,O.b0⟩ ?_;simp only[zq];refine AO 8 (some 30) (.extract (.tmp 22) 0) (Value.agg #[.int .i64 r,u]) ⟨O.c0,O.b0⟩ ?_;simp only[zq];refine AO 9 (some 31) (.extract (.tmp 22) 1) (Value.int .i64 er) ⟨O.c0,O.b0⟩ ?_;simp only[zq];refine Ae 10 (some 7) (.alloc 59) ?_;rintro o K B E T A;refine Wt E ?_;rintro W3 q hq be au;rw[B];have a8:=O.on au;have a6:Vo U2 w.heap.size W3 q 59 [.int .i64 0,AK]:=⟨be,λ e=>by have:=O.rw.sz.ul q e;omega,by have:=O.cb.lt;omega⟩
   (have bw:Nw (w.heap.size+1) W3 u f:=aq.below au;have ba:f≠[]->∀j,u.ownBlock=some j->¬j=q:=λ h0 j L e=>by have:=aq.ltE h0 j L;omega);refine A _ _ (λ _=>⟨a8.c0,a8.b0⟩) ?_;clear E B T A;simp only[zq];refine Ae 11 none (.store 59 (.tmp 7) (.tmp 30)) ?_;rintro o K B E T A;refine GP (cs:=[.int .i64 0,AK]) (vs:=[.int .i64 r,u]) E rfl rfl a6.1 rfl Su (bz.o u bw.rd) ?_;rw[B];have t4:=GM W3 q [.int .i64 r,u] 0;have af:=a8.tq t4 (λ k e=>by subst e;exact a6.2);have bf:Vo U2 w.heap.size (W3.setCells q 0 [.int .i64 r,u]) q 59 [.int .i64 r,u]:=⟨a6.1.put _ rfl,a6.2⟩
   have b7:Nw (w.heap.size+1) (W3.setCells q 0 [.int .i64 r,u]) u f:=bw.tchE t4 ba;refine A _ _ (λ _=>⟨af.c0,af.b0⟩) ?_;clear E B T A;simp only[zq];refine Ae 12 (some 8) (.assign (.tmp 31)) ?_;rintro o K B E T A;refine ES (v:=.int .i64 er) (by unfold execOp;simp only[E];go_simp) ?_;rw[B];refine A _ _ (λ e=>absurd rfl e) ?_;refine Cx (by kernel_rfl) ?_ _;clear E B T A;simp only[zq];have al:Hid (Kx U w t c d bx N a b len U2 (W3.setCells q 0 [.int .i64 r,u])/\Vo U2 w.heap.size (W3.setCells q 0 [.int .i64 r,u]) q 59 [.int .i64 r,u]/\Nw (w.heap.size+1) (W3.setCells q 0 [.int .i64 r,u]) u f/\(∀j,u.ownBlock=some j->¬U2 j)/\By f/\f.length<=240):=⟨af,bf,b7,z4,a3.1,a3.2⟩
   generalize (W3.setCells q 0 [.int .i64 r,u])=WF at al |-
   go_wp2_with fail
   go_meet
   exact⟨q,U2,u,rfl,rfl,al⟩
  .rintro o K B E T A;refine Wt E ?_;rintro W3 q hq be au;rw[B];have a8:=X.on au;have a6:Vo U w.heap.size W3 q 59 [.int .i64 0,AK]:=⟨be,λ e=>by have:=X.rw.sz.ul q e;omega,by have:=X.cb.lt;omega⟩
   refine A _ _ (λ _=>⟨a8.c0,a8.b0⟩) ?_;clear E B T A;simp only[zq];refine Ae 6 (some 29) (.call { callee:=.value (.func 72),args:=#[.tmp 26,.tmp 28],argTypes:=#[32,3] }) ?_;rintro o K B E T A;refine Dp (enters_of func72 (by kernel_rfl) rfl) E (vs:=#[cp c,.int .i64 b]) (by kernel_rfl) (HG.o U W3 a8.rw.sz) ?_;rintro e Z ⟨u,he,a3,a2,U2,z1,z2,z3,z4⟩;refine⟨_,he,?_⟩;rw[B];have O:=a8.to z1 z2 z3;have aq:Nw (w.heap.size+1) Z u f:=⟨a2.rd,a2.fz,λ k hk=>Aw a8.cb.lt (a2.new k hk),a2.sp⟩
   have az:Vo U2 w.heap.size Z q 59 [.int .i64 0,AK]:=⟨a6.1.tch z2 a6.2.1,Di z3 a6.1.lt a6.2.1,a6.2.2⟩
   (have ba:f≠[]->∀j,u.ownBlock=some j->¬j=q:=λ _ j L e=>by have:=a2.new j L;have:=a6.1.lt;omega);refine A _ _ (λ _=>⟨O.c0,O.b0⟩) ?_;clear E B T A he;simp only[zq];refine AO 7 (some 22) (.move (.tmp 29)) (Value.tuple #[.agg #[.int .i64 r,u],.int .i64 er]) ⟨O.c0,O.b0⟩ ?_;simp only[zq];refine AO 8 (some 30) (.extract (.tmp 22) 0) (Value.agg #[.int .i64 r,u]) ⟨O.c0,O.b0⟩ ?_;simp only[zq];refine AO 9 (some 31) (.extract (.tmp 22) 1) (Value.int .i64 er) ⟨O.c0,O.b0⟩ ?_;simp only[zq];refine Ae 11 none (.store 59 (.tmp 7) (.tmp 30)) ?_;rintro o K B E T A;refine GP (cs:=[.int .i64 0,AK]) (vs:=[.int .i64 r,u]) E rfl rfl az.1 rfl Su (bz.o u aq.rd) ?_;rw[B];have t4:=GM Z q [.int .i64 r,u] 0
   have af:=O.tq t4 (λ k e=>by subst e;exact az.2);have bf:Vo U2 w.heap.size (Z.setCells q 0 [.int .i64 r,u]) q 59 [.int .i64 r,u]:=⟨az.1.put _ rfl,az.2⟩
   have b7:Nw (w.heap.size+1) (Z.setCells q 0 [.int .i64 r,u]) u f:=aq.tchE t4 ba;refine A _ _ (λ _=>⟨af.c0,af.b0⟩) ?_;clear E B T A;simp only[zq];refine Ae 12 (some 8) (.assign (.tmp 31)) ?_;rintro o K B E T A;refine ES (v:=.int .i64 er) (by unfold execOp;simp only[E];go_simp) ?_;rw[B];refine A _ _ (λ e=>absurd rfl e) ?_;refine Cx (by kernel_rfl) ?_ _;clear E B T A;simp only[zq];have al:Hid (Kx U w t c d bx N a b len U2 (Z.setCells q 0 [.int .i64 r,u])/\Vo U2 w.heap.size (Z.setCells q 0 [.int .i64 r,u]) q 59 [.int .i64 r,u]/\Nw (w.heap.size+1) (Z.setCells q 0 [.int .i64 r,u]) u f/\(∀j,u.ownBlock=some j->¬U2 j)/\By f/\f.length<=240):=⟨af,bf,b7,z4,a3.1,a3.2⟩
   generalize (Z.setCells q 0 [.int .i64 r,u])=WF at al |-
   go_wp2_with fail
   go_meet
   exact⟨q,U2,u,rfl,rfl,al⟩
 case rest=>
  obtain⟨q,U2,u,rfl,rfl,HC⟩:=hcut;by_cases h0:er=0;case neg=>
   (have cm:(er != 0)=true:=by simpa using h0);have HR:Hid (An a.V b len=(er,[],[])):=by show _=_;unfold An;rw[if_neg (by have:=HL.o;omega),HV.o,if_pos h0]
   clear h0;go_wp2_with fail;go_ret3;exact HE.o er U2 _ HR.o HC.o.1.rw
  subst h0;obtain⟨ua,uc,rfl,bb,_⟩:=HC.o.2.2.1.rd;obtain⟨un,bd⟩:=exN f.length;have am:=z6 bd;rw[bd]at HC;have y0:=(HC.o.2.1.1.at 0).trans rfl;have y1:=(HC.o.2.1.1.at 1).trans rfl;clear bb bd
  go_upto_region 6 with fail
  go_cut [9,10] (λ v9 cj wx=>∃(q2:Nat)(m p:Int)(mv fv:Value)(ok:Bool),v9=.pointer (some ⟨q2,0,none⟩)/\cj=.bool ok/\Hid (Kx U w t c d bx N a b len U2 wx/\Hv wx q2 m p mv fv/\¬U2 q2/\w.heap.size<q2/\
   ((ok=false/\¬(Fy r f/\1<=Ba f 0/\Ba f 0<=512))\/(ok=true/\Fy r f/\m=(Cw f).many/\p=(Cw f).pk/\AF .i64 3 wx mv (Cw f).more/\(∀j,mv.ownBlock=some j->¬U2 j/\w.heap.size<j)/\A4 wx fv (Cw f).fst/\∀j,fv.ownBlock=some j->¬U2 j/\w.heap.size<j/\j≠q2/\mv.ownBlock≠some j))))
  case first=>
   by_cases hk:r=3/\5<=un
   .obtain⟨rfl,h5⟩:=hk;have hO:=HC.o.2.2.1.sp.resolve_left (λ e=>by have:=am.o;rw[e]at this;simp at this;omega);(obtain⟨ug,uo,rfl⟩:∃g o,ua=some ⟨g,o,none⟩:=by obtain⟨g,o,c',e,_⟩:=hO;simp only[Value.slice.injEq]at e;exact⟨g,o,e.1⟩);have HO:=z6 hO;have HH:=AU (AAz ug uo uc un f wc am.o h5 (by have:=HC.o.2.2.2.2.2;have:=am.o;omega) HC.o.2.2.2.2.1 hO);clear h5 hO;unfold blk DV at HH;go_wp2_with fail;refine HH.o.mono ?_;rintro e w' ⟨hb,cf⟩;clear HH;rcases cf with⟨an,rfl⟩|⟨aa,mv,fv,rfl,a5,ab,a4,a7⟩
    .have HB:=z6 an;clear an;go_wp2_with fail
     go_meet
     have k':=HC.o.1.on hb;exact⟨w'.heap.size,0,0,AK,AK,false,rfl,rfl,k'.on ((Below.refl _ _).alloc (AE _) _),CZ w' _ (A6 0 0 AK AK),λ e=>by have:=k'.rw.sz.ul _ e;omega,k'.cb.lt,.inl ⟨rfl,HB.o⟩⟩
    .obtain⟨ma,ml,mc,rfl⟩:∃a n c,mv=.slice a n c:=by obtain⟨a,c,e,_⟩:=a5.rd;exact⟨_,_,_,e⟩
     (obtain⟨fa,fl,fc,rfl⟩:∃a n c,fv=.slice a n c:=by obtain⟨a,c,e,_⟩:=a4.rd;exact⟨_,_,_,e⟩);have HX:=z6 (And.intro aa.1 (And.intro a5 (And.intro ab (And.intro a4 a7))));clear aa a5 ab a4 a7;obtain⟨m,hm⟩:=exN (Ba f 0);obtain⟨p,hp⟩:=exN (Ba f 2);rw[hm,hp];have bk:=z6 (And.intro hm hp);clear hm hp;go_wp2_with fail
     go_meet
     have k':=HC.o.1.on hb;obtain⟨aa,a5,ab,a4,a7⟩:=HX.o;have ai:Below w'.heap.size w' (w'.alloc (.cells (A6 m p (.slice ma ml mc) (.slice fa fl fc)).toArray 157)):=(Below.refl _ _).alloc (AE _) _;have bc:=k'.rw.sz.ul;have c5:=HC.o.1.cb.lt;refine⟨w'.heap.size,m,p,.slice ma ml mc,.slice fa fl fc,true,rfl,rfl,k'.on ai,CZ w' _ (A6 m p _ _),λ e=>by have:=bc _ e;omega,k'.cb.lt,.inr ⟨rfl,aa,bk.o.1.symm,bk.o.2.symm,a5.below ai,λ j L=>?_,a4.below ai,λ j L=>?_⟩⟩;have:=ab j L;exact⟨λ e=>by have:=HC.o.1.rw.sz.ul j e;omega,by omega⟩;have h3:=a7 j L;have h1:=a4.lt j L;have h2:=hb.size;refine⟨λ e=>by have:=HC.o.1.rw.sz.ul j e;omega,by omega,by omega,h3.2⟩
   .have HH:=AU (AAy r ua un uc wc hk);have HB:Hid (¬(Fy r f/\1<=Ba f 0/\Ba f 0<=512)):=λ e=>hk ⟨e.1.1,by have:=e.1.2.1;rw[am.o]at this;exact this⟩;clear hk;unfold blk DV at HH;go_wp2_with fail;refine HH.o.mono ?_;rintro e w' ⟨rfl,hb⟩;clear HH;go_wp2_with fail
    go_meet
    have k':=HC.o.1.on hb;exact⟨w'.heap.size,0,0,AK,AK,false,rfl,rfl,k'.on ((Below.refl _ _).alloc (AE _) _),CZ w' _ (A6 0 0 AK AK),λ e=>by have:=k'.rw.sz.ul _ e;omega,k'.cb.lt,.inl ⟨rfl,HB.o⟩⟩
  case rest=>
   obtain⟨q2,m,p,mv,fv,ok,rfl,rfl,I⟩:=hcut;have z0:=(I.o.2.1.at 0).trans rfl;have b1:=I.o.1.b1;rcases I.o.2.2.2.2 with⟨rfl,an⟩|⟨rfl,aa,aw,ay,a5,ab,a4,a7⟩
   .have HR:Hid (An a.V b len=(7,[],[])):=by show _=_;unfold An;rw[if_neg (by have:=HL.o;omega),HV.o,if_neg (by simp),if_pos (Classical.byCases (p:=Fy r f) (λ h=>.inr (λ e=>an ⟨h,by have hl:=HL.o;have e2:Ba f 0=len:=e;omega⟩)) .inl)]
    clear an;go_wp2_with fail;go_ret3;exact HE.o 7 U2 _ HR.o I.o.1.rw
   by_cases aj:m=len
   case neg=>
    (have c9:(m != len)=true:=by simpa using aj);have HR:Hid (An a.V b len=(7,[],[])):=by show _=_;unfold An;rw[if_neg (by have:=HL.o;omega),HV.o,if_neg (by simp),if_pos (.inr (by simp only;rw[<-aw];exact aj))]
    clear aj aa aw ay a5 ab a4 a7;go_wp2_with fail;go_ret3;exact HE.o 7 U2 _ HR.o I.o.1.rw
   (have c9:(m != len)=false:=by simpa using aj);obtain⟨more,ax⟩:=exN ((Cw f).more);obtain⟨a1,ap⟩:=exN ((Cw f).fst);have ae:Hid (An a.V b len=DR a.V p more a1 [b]/\more.length<=2/\a1.length<=240/\By a1/\0<=p/\p<=65535):=by
    have a3:=HC.o.2.2.2.2.1;refine⟨?_,?_,?_,?_,?_⟩;unfold An;rw[if_neg (by have:=HL.o;omega),HV.o,if_neg (by simp),if_neg (λ e=>e.elim (λ e=>e aa) (λ e=>by simp only at e;rw[<-aw]at e;exact e aj))];simp only;rw[<-ay,ax,ap];rw[<-ax];exact Yu aa a3;rw[<-ap];show(f.drop _).length<=_;rw[zg0,am.o];have:=HC.o.2.2.2.2.2;omega;rw[<-ap];intro i;show 0<=(f.drop (5+2*(f.getD 4 0).toNat)).getD i 0/\(f.drop (5+2*(f.getD 4 0).toNat)).getD i 0<=255;rw[AP,zp0,<-AP];exact a3 _;rw[ay];show 0<=f.getD 2 0+256*f.getD (2+1) 0/\f.getD 2 0+256*f.getD (2+1) 0<=65535;have h1:=a3 2;have h2:=a3 (2+1);omega
   rw[ax]at a5;rw[ap]at a4;obtain⟨ma,mc,rfl,_⟩:=a5.rd;obtain⟨ml,a9⟩:=exN more.length;have ak:=z6 a9;rw[a9]at I a5 ab a7;obtain⟨fa,fc,rfl,_⟩:=a4.rd;have HO:=z6 (And.intro a5 (And.intro ab (And.intro a4 a7)));clear aj aa aw ay a5 ab a4 a7 ax ap a9;have z1:=(I.o.2.1.at 1).trans rfl;have z2:=(I.o.2.1.at 2).trans rfl;have z3:=(I.o.2.1.at 3).trans rfl;have b0:=I.o.1.b0
   go_upto_region 9 with fail
   have L9:Hid (Lp U w t c d bx N a U2 (wc.drew.alloc (.cells #[.int .i64 b] 3)) q2 m p (.slice ma ml mc) (.slice fa a1.length fc) more (.slice fa a1.length fc) a1 (.slice (some ⟨wc.heap.size,0,none⟩) 1 1) [b]):=by
    obtain⟨o1,o2,o3,o4⟩:=HO.o;have ag:Below wc.heap.size wc (wc.drew.alloc (.cells #[.int .i64 b] 3)):=(Below.of_drewN _ wc 1).alloc (AE _) _;have hq:=I.o.2.1.lt;have bc:=I.o.1.rw.sz.ul;have c5:=I.o.1.cb.lt;refine⟨I.o.1.rw.on ag,I.o.2.1.on ag,o1.below ag,o3.below ag,ADs _ _,⟨I.o.2.2.1,Nat.le_of_lt I.o.2.2.2.1⟩,λ j L=>⟨(o2 j L).1,Nat.le_of_lt (o2 j L).2⟩,λ j L=>?_,λ j L=>?_⟩;obtain⟨p1,p2,p3,p4⟩:=o4 j L;have h3:=o3.lt j L;refine⟨p1,Nat.le_of_lt p2,p3,p4,λ e=>?_⟩;simp only[Value.ownBlock,Option.some.injEq]at e;omega;simp only[Value.ownBlock,Option.some.injEq]at L;refine⟨λ e=>by have:=bc j e;omega,by omega,λ e=>?_⟩;have:=o1.lt j e;omega
   have KB:Hid ((wc.drew.alloc (.cells #[.int .i64 b] 3)).cell? ⟨w.heap.size,0,none⟩=some (.int .i64 b)):=by have ag:Below wc.heap.size wc (wc.drew.alloc (.cells #[.int .i64 b] 3)):=(Below.of_drewN _ wc 1).alloc (AE _) _;exact(I.o.1.on ag).b0
   (have bg:prog.follows .mixedOrders=true:=by kernel_rfl);refine Dz (S:=λ W=>W.cell? ⟨q2,3,none⟩=some (.slice fa a1.length fc)/\W.cell? ⟨w.heap.size,0,none⟩=some (.int .i64 b)) (t:=6) bg ?_;refine AO 0 (some 49) (.fieldAddr 157 (.tmp 9) 3) (Value.pointer (some ⟨q2,3,none⟩)) ⟨(I.o.2.1.on (Below.of_drewN _ wc 1)).at 3,(I.o.1.on (Below.of_drewN _ wc 1)).b0⟩ ?_;simp only[zq];refine AO 1 (some 50) (.load 40 (.tmp 49)) (Value.slice fa a1.length fc) ⟨(I.o.2.1.on (Below.of_drewN _ wc 1)).at 3,(I.o.1.on (Below.of_drewN _ wc 1)).b0⟩ ?_;simp only[zq]
   refine AO 2 (some 51) (.fieldAddr 28 (.tmp 3) 0) (Value.pointer (some ⟨w.heap.size,0,none⟩)) ⟨(I.o.2.1.on (Below.of_drewN _ wc 1)).at 3,(I.o.1.on (Below.of_drewN _ wc 1)).b0⟩ ?_;simp only[zq];refine AO 3 (some 52) (.load 3 (.tmp 51)) (Value.int .i64 b) ⟨(I.o.2.1.on (Below.of_drewN _ wc 1)).at 3,(I.o.1.on (Below.of_drewN _ wc 1)).b0⟩ ?_;simp only[zq];refine AO 5 (some 11) (.assign (.tmp 50)) (Value.slice fa a1.length fc) ⟨(I.o.2.1.on (Below.of_drewN _ wc 1)).at 3,(I.o.1.on (Below.of_drewN _ wc 1)).b0⟩ ?_;simp only[zq];refine Ae 4 (some 53) (.buildSlice 23 1 #[(0,.tmp 52)]) ?_;rintro o K B E T A;refine Wu E rfl ?_;rw[B];refine A _ _ (λ _=>⟨L9.o.hv.at 3,KB.o⟩) ?_;clear E B T A
   simp only[zq];refine Ae 6 (some 12) (.assign (.tmp 53)) ?_;rintro o K B E T A;refine ES (v:=Value.slice (some ⟨wc.heap.size,0,none⟩) 1 1) (by unfold execOp;simp only[E];go_simp) ?_;rw[B];refine A _ _ (λ e=>absurd rfl e) ?_;refine Cx (by kernel_rfl) ?_ _;clear E B T A;simp only[zq];obtain⟨W9,bp⟩:=exN (wc.drew.alloc (.cells #[.int .i64 b] 3));rw[bp]at L9 |-
   generalize (Value.slice (some ⟨wc.heap.size,0,none⟩) 1 1)=nv0 at L9 |-
   clear KB bp HO b0 b1 z0 z1 z2 z3 y0 y1;have l2:=(L9.o.hv.at 2).trans rfl;go_wp2_with fail
   go_loopw [11,12,57] (λ pv nv kv wr=>∃(k:Nat)(U3:Nat->Prop)(pb ns:List Int),k<=ml/\kv=.int .i64 (k:Int)/\Hid (Lp U w t c d bx N a U3 wr q2 m p (.slice ma ml mc) (.slice fa a1.length fc) more pv pb nv ns/\DR a.V p more a1 [b]=DR a.V p (more.drop k) pb ns/\By pb/\pb.length<=240*(k+1)/\ns.length=k+1)) (λ _ _ kv _=>ml-(intOf kv).toNat)
   (case atStart=>exact⟨0,U2,a1,[b],AI _,rfl,L9.o,rfl,ae.o.2.2.2.1,by have:=ae.o.2.2.1;omega,rfl⟩);case round=>
    obtain⟨k,U3,pb,ns,hk,rfl,J⟩:=hrel;clear l2;(have cq:ml<=2:=by have:=ae.o.2.1;have:=ak.o;omega);by_cases c6:k<ml
    .obtain⟨nk,b6⟩:=exN (more.getD k 0);obtain⟨mg,ct,em,_,_,_,ao,_⟩:=J.o.1.mo.shape (by have:=ak.o;omega);simp only[Value.slice.injEq]at em;obtain⟨rfl,ca,rfl⟩:=em;clear ca;have b4:=ao k (by have:=ak.o;omega);rw[b6]at b4;clear ao;have b5:Hid (more.drop k=nk::more.drop (k+1)):=by show _=_;(have bu:k<more.length:=by have:=ak.o;omega);rw[List.drop_eq_getElem_cons bu,<-b6,AP,z9 bu];rfl
     obtain⟨ac,ad,Y,b3⟩:∃e k z,a.V nk=(e,k,z):=⟨_,_,_,rfl⟩
     (have b2:=z6 b3;have c2:Hid (∀U' W,Cq U' W t c d bx N a->Calls prog 72 #[cp c,.int .i64 nk] W λ e w'=>∃u,e=.returned (.tuple #[.agg #[.int .i64 ad,u],.int .i64 ac])/\(By Y/\Y.length<=240)/\Nw W.heap.size w' u Y/\∃U2,Cq U2 w' t c d bx N a/\AD U' W w'/\(∀k,U2 k->U' k\/W.heap.size<=k)/\∀j,u.ownBlock=some j->¬U2 j):=λ U' W h=>by have:=Rx nk W h;rw[b3]at this;exact this);have c0:=J.o.1.rw.sz.c0;have bh:=AU (c2.o U3 wr J.o.1.rw.sz);clear b3 b6;obtain⟨pa,pc,rfl,cg,_⟩:=J.o.1.pk.rd;obtain⟨na,nc,rfl,ce,_⟩:=J.o.1.nu.rd;clear cg ce
     go_upto_region 13 with fail
     go_cut [15,16] (λ ck cl wx=>∃(q5:Nat)(U4:Nat->Prop)(ua:Option Addr)(un uc:Nat),ck=.pointer (some ⟨q5,0,none⟩)/\cl=.int .i64 ac/\Hid (Lp U w t c d bx N a U4 wx q2 m p (.slice (some ⟨mg,0,none⟩) ml mc) (.slice fa a1.length fc) more (.slice pa pb.length pc) pb (.slice na ns.length nc) ns/\Vr wx q5 59 [.int .i64 ad,.slice ua un uc]/\Rd .u8 wx (.slice ua un uc) Y/\By Y/\un=Y.length/\Y.length<=240))
     case first=>
      go_wp2_with fail;refine bh.o.mono ?_;rintro e Z ⟨u,rfl,a3,a2,U4,s1,s2,s3,s4⟩;have hL:=J.o.1.to s1 s2 s3;obtain⟨ua,uc,rfl,bb,_⟩:=a2.rd;have HH:=z6 (And.intro hL (And.intro a3 a2.rd));clear hL a3 a2 s1 s2 s3 s4 bb bh c0 b4;go_wp2_with fail
      go_meet
      have ai:Below Z.heap.size Z (Z.alloc (.cells #[.int .i64 ad,.slice ua Y.length uc] 59)):=(Below.refl _ _).alloc (AE _) _;exact⟨Z.heap.size,U4,ua,Y.length,uc,rfl,rfl,HH.o.1.on ai,CZ Z _ [.int .i64 ad,.slice ua Y.length uc],HH.o.2.2.below ai,HH.o.2.1.1,rfl,HH.o.2.1.2⟩
     case rest=>
      (obtain⟨q5,U4,ua,un,uc,rfl,rfl,a0⟩:=hcut;clear b4 c0;have ar:Hid ((ad≠4\/(Y.length:Int)≠min (p-pb.length) 240\/nk∈ns)->ac=0->An a.V b len=(7,[],[])):=λ hb h0=>by rw[ae.o.1,J.o.2.1,b5.o,DR,b2.o,if_neg (by simp[h0]),if_pos hb]);(have bj:Hid (¬(ad≠4\/(Y.length:Int)≠min (p-pb.length) 240\/nk∈ns)->ac=0->DR a.V p more a1 [b]=DR a.V p (more.drop (k+1)) (pb++Y) (ns++[nk])):=λ hb h0=>by rw[J.o.2.1,b5.o,DR,b2.o,if_neg (by simp[h0]),if_neg hb]);by_cases av:ac=0
      case neg=>
       (have co:(ac != 0)=true:=by simpa using av);have HR:Hid (An a.V b len=(ac,[],[])):=by show _=_;rw[ae.o.1,J.o.2.1,b5.o,DR,b2.o,if_pos av]
       clear av;go_wp2_with fail;go_ret3;exact HE.o ac U4 _ HR.o a0.o.1.rw
      (subst av;have k1:=a0.o.1.k1;have g0:=(a0.o.2.1.at 0).trans rfl;have g1:=(a0.o.2.1.at 1).trans rfl;obtain⟨mn,cc⟩:=exN (min (p-(pb.length:Int)) 240);have c4:Hid (min (p-(pb.length:Int)) 240=mn):=cc;have cr:IntKind.i64.wrap (p-(pb.length:Int))=p-(pb.length:Int):=by have:=ae.o;have:=J.o.2.2.2.1;rw[IntKind.wrap_i64];omega);rw[c4.o]at ar bj;have bn:Hid (un=Y.length):=a0.o.2.2.2.2.1;by_cases h4:ad=4;(case neg=>(have cn:(ad != 4)=true:=by simpa using h4);have HR:Hid (An a.V b len=(7,[],[])):=ar.o (.inl h4) rfl;clear h4;go_wp2_with fail;go_ret3;exact HE.o 7 U4 _ HR.o a0.o.1.rw);subst h4;by_cases hu:(un:Int)=mn
      case neg=>(have ci:((un:Int) != mn)=true:=by simpa using hu);have HR:Hid (An a.V b len=(7,[],[])):=ar.o (.inr (.inl (by rw[<-bn.o];exact hu))) rfl;clear hu;go_wp2_with fail;go_ret3;exact HE.o 7 U4 _ HR.o a0.o.1.rw
      (have ci:((un:Int) != mn)=false:=by simpa using hu);have HU:=z6 hu;clear hu;obtain⟨ng,cv,en,_,_,_,ao,_⟩:=a0.o.1.nu.shape (by have:=J.o.2.2.2.2;omega);simp only[Value.slice.injEq]at en;obtain⟨rfl,hx,rfl⟩:=en;clear hx;have bi:=AU (ZJ ng 0 ns.length nc ns nk wc rfl (by have:=J.o.2.2.2.2;omega) (λ i hi=>by rw[Nat.zero_add];exact ao i hi));clear ao;go_wp2_with fail;refine bi.o.mono ?_;rintro e w' ⟨rfl,hw⟩;replace hw:=hw.symm;subst hw;clear bi;by_cases hm:nk∈ns
      case pos=>(have c7:decide (nk∈ns)=true:=by simpa using hm);have HR:Hid (An a.V b len=(7,[],[])):=ar.o (.inr (.inr hm)) (by first|rfl|trivial);clear hm;go_wp2_with fail;go_ret3;exact HE.o 7 U4 _ HR.o a0.o.1.rw
      (have c7:decide (nk∈ns)=false:=by simpa using hm);have HN:=z6 (bj.o (λ e=>e.elim (λ e=>e rfl) (λ e=>e.elim (λ e=>e (by rw[<-bn.o];exact HU.o)) hm)) (by first|rfl|trivial));clear hm;go_wp2_with(at_builtin;refine Wk wc rfl (.tmp 94) (.tmp 96) rfl _ pb rfl a0.o.1.pk _ Y rfl a0.o.2.2.1 (by have:=J.o.2.2.2.1;have:=a0.o.2.2.2.2.2;omega) ?_)
      intro v5 W5 b8 bq;have L5:=z6 (a0.o.1.pks b8 bq);obtain⟨cx,cz,rfl,_⟩:=b8.rd;clear b8 bq;(have bm:Hid (ns.length<=3):=by show _<=_;have:=J.o.2.2.2.2;omega);go_wp2_with(at_builtin;refine ET W5 ?g1 (.tmp 98) (.tmp 100) 23 ?g2 3 .i64 8 KF _ ns ?g3 L5.o.nu nk ?g4 ?g5 ?g6 ?g7)
      (case g1=>rfl);(case g2=>rfl);(case g3=>rfl);(case g4=>rfl);(case g5=>have:=bm.o;omega);(case g6=>have:=bm.o;omega);case g7=>
      intro v6 W6 b9 br;have L6:=z6 (L5.o.nus b9 br);obtain⟨cy,d0,rfl,_⟩:=b9.rd;clear b9 br;go_wp2_with fail;refine⟨⟨k+1,U4,pb++Y,ns++[nk],by omega,rfl,?_⟩,by simp[intOf];omega⟩;refine⟨?_,HN.o,JN J.o.2.2.1 a0.o.2.2.2.1,by rw[zc0];have:=J.o.2.2.2.1;have:=a0.o.2.2.2.2.2;omega,by rw[zc0,J.o.2.2.2.2];rfl⟩;have l6:=L6.o;rw[show(pb++Y).length=pb.length+Y.length from zc0]at l6;exact l6
    .obtain rfl:k=ml:=by omega
     (clear c6;obtain⟨pa,pc,rfl,_⟩:=J.o.1.pk.rd;obtain⟨na,nc,rfl,_⟩:=J.o.1.nu.rd;have HF:Hid (An a.V b len=(0,pb,ns)):=by show _=_;rw[ae.o.1,J.o.2.1,List.drop_of_length_le (by have:=ak.o;omega)];rfl);go_wp2_with fail;go_ret3;rw[HF.o];exact⟨_,_,rfl,U3,J.o.1.rw,J.o.1.pk.rd,⟨J.o.2.2.1,by show pb.length<=720;have:=J.o.2.2.2.1;omega⟩,J.o.1.nu,J.o.1.pk.lt,λ j L=>⟨(J.o.1.nn j L).1,(J.o.1.nn j L).2.1⟩⟩
section
variable {U:Nat->Prop} {t c d N:Nat} {bx:Array Value} {a:Ab}
def MU(b len w f)(H:Cq U w t c d bx N a)(q:w.alloc (.cells #[.int .i64 b,.int .i64 len] 28)=f):Kx U w t c d bx N a b len U f:=by
 have r:Below w.heap.size w f:=by rw[<-q];exact(Below.refl _ _).alloc (AE _) _
 exact⟨H.rw.on r,by rw[<-q];exact CZ w _ _,λ e=>by have:=H.ul _ e;omega⟩
def ACW(b len w)(H:Cq U w t c d bx N a):
 Calls prog 41 #[AW t,.agg #[.int .i64 b,.int .i64 len]] w λ e w'=>∃A nv,e=.returned (.tuple #[A,nv,.int .i64 (ckLd a.V b len).1])/\∃U',Rq U w t c d bx N a U' w'/\
  Nw w.heap.size w' A (ckLd a.V b len).2.1/\AF .i64 3 w' nv (ckLd a.V b len).2.2/\(∀j,A.ownBlock=some j->¬U' j)/\∀j,nv.ownBlock=some j->¬U' j/\w.heap.size<=j:=by
 have HE:Hid (∀(e:Int)(U':Nat->Prop)(w':World),ckLd a.V b len=(e,[],[])->Rq U w t c d bx N a U' w'->∃A nv,Ending.returned (.tuple #[.slice none 0 0,.slice none 0 0,.int .i64 e])=.returned (.tuple #[A,nv,.int .i64 (ckLd a.V b len).1])/\∃U',Rq U w t c d bx N a U' w'/\
  Nw w.heap.size w' A (ckLd a.V b len).2.1/\AF .i64 3 w' nv (ckLd a.V b len).2.2/\(∀j,A.ownBlock=some j->¬U' j)/\∀j,nv.ownBlock=some j->¬U' j/\w.heap.size<=j):=λ e U' w' hr K=>by
  rw[hr];exact⟨.slice none 0 0,.slice none 0 0,rfl,U',K,Nw.nil _ _,CB _ _ _,λ j f=>(by cases f),λ j f=>(by cases f)⟩
 obtain⟨W1,a9⟩:=exN (w.alloc (.cells #[.int .i64 b,.int .i64 len] 28));have O:=z6 (MU b len w W1 H a9);have b0:=O.o.b0;have b1:=O.o.b1;have HR:=AU (Uq b len W1 O.o.rw.sz);obtain⟨J,pk,bl,a2⟩:∃J pk bl,An a.V b len=(J,pk,bl):=⟨_,_,_,rfl⟩
 rw[a2]at HR;have W:=z6 a2;clear H a2
 go_enter func41,ntmps41
 go_wp2_with fail;refine HR.o.mono ?_;rintro e w1 ⟨pv,nv,rfl,I,K,a4,a6,a3,a8,a7⟩;have T:Hid (Kx U w t c d bx N a b len I w1):=O.o.to K.sz K.ch K.nw;obtain⟨pa,pc,rfl⟩:∃a c,pv=.slice a pk.length c:=by obtain⟨a,c,e,_⟩:=a4;exact⟨a,c,e⟩
 obtain⟨na,nc,rfl⟩:∃a c,nv=.slice a bl.length c:=by obtain⟨a,c,e,_⟩:=a3.rd;exact⟨a,c,e⟩
 have r:=z6 (And.intro a4 (And.intro a6 (And.intro a3 (And.intro a8 a7))));clear K a4 a6 a3 a8 a7 b0 b1 HR;by_cases Y:J=0;case neg=>
  have ab:(J != 0)=true:=by simpa using Y
  have q:Hid (ckLd a.V b len=(J,[],[])):=by show _=_;unfold ckLd;rw[W.o,if_pos Y]
  clear Y;go_wp2_with fail;go_ret3;exact HE.o J I _ q.o T.o.rw
 subst Y;have b1:=T.o.b1;have HU:=AU (AHr (.slice pa pk.length pc) pk len w1 r.o.1 r.o.2.1.1 (by have:=r.o.2.1.2;omega) r.o.2.2.2.1);go_wp2_with fail;refine HU.o.mono ?_;rintro e w2 ⟨rv,rfl,Z,a1⟩;have X:Hid (Kx U w t c d bx N a b len I w2):=T.o.on a1;obtain⟨ue,B,a5⟩:∃ue B,unpS pk len=(ue,B):=⟨_,_,rfl⟩
 rw[a5]at Z |-
 obtain⟨da,dc,rfl⟩:∃a c,rv=.slice a B.length c:=by obtain⟨a,c,e,_⟩:=Z.rd;exact⟨a,c,e⟩
 have E:=z6 (And.intro Z a1);have a0:=z6 a5;clear a5 Z a1 HU b1;have b1:=X.o.b1;by_cases hu:ue=0;case neg=>
  have ad:(ue != 0)=true:=by simpa using hu
  have q:Hid (ckLd a.V b len=(7,[],[])):=by show _=_;unfold ckLd;rw[W.o,if_neg (by simp)];simp only[a0.o];rw[if_pos (.inl hu)]
  clear hu;go_wp2_with fail;go_ret3;exact HE.o 7 I _ q.o X.o.rw
 subst hu;by_cases L:(B.length:Int)=len;case neg=>
  have aa:((B.length:Int) != len)=true:=by simpa using L
  have q:Hid (ckLd a.V b len=(7,[],[])):=by show _=_;unfold ckLd;rw[W.o,if_neg (by simp)];simp only[a0.o];rw[if_pos (.inr L)]
  clear L;go_wp2_with fail;go_ret3;exact HE.o 7 I _ q.o X.o.rw
 have aa:((B.length:Int) != len)=false:=by simpa using L
 have q:Hid (ckLd a.V b len=(0,B,bl)):=by show _=_;unfold ckLd;rw[W.o,if_neg (by simp)];simp only[a0.o];rw[if_neg (λ e=>e.elim (λ e=>e rfl) (λ e=>e L))]
 clear L;go_wp2_with fail;go_ret3;rw[q.o];have ac:=T.o.rw.ch.size;exact⟨_,_,rfl,I,X.o.rw,⟨E.o.1.rd,E.o.1.fz,λ k hk=>by have:=E.o.1.new k hk;omega,E.o.1.sp⟩,r.o.2.2.1.below E.o.2,λ j f e=>by have:=E.o.1.new j f;have:=T.o.rw.sz.ul j e;omega,λ j f=>⟨(r.o.2.2.2.2 j f).1,by have:=(r.o.2.2.2.2 j f).2;have:=O.o.rw.ch.size;omega⟩⟩
end
section
variable {U:Nat->Prop} {t c d N:Nat} {bx:Array Value} {a:Ab}
def R8(b len w)(H:Cq U w t c d bx N a):
 Calls prog 13 #[AW t,.agg #[.int .i64 b,.int .i64 len]] w λ e w'=>∃r,e=.returned (.tuple #[r,.int .i64 (ckLd a.V b len).1])/\∃U',Rq U w t c d bx N a U' w'/\
  Nw w.heap.size w' r (ckLd a.V b len).2.1/\∀j,r.ownBlock=some j->¬U' j:=by
 obtain⟨K,Z⟩:=exN (w.alloc (.cells #[.int .i64 b,.int .i64 len] 28));have q:=z6 (MU b len w K H Z);have Y:=q.o.b0;have b1:=q.o.b1;have B:=AU (ACW b len K q.o.rw.sz);obtain⟨L,E,bl,O⟩:∃L E bl,ckLd a.V b len=(L,E,bl):=⟨_,_,_,rfl⟩
 rw[O]at B |-
 clear H O
 go_enter func13,ntmps13
 go_wp2_with fail;refine B.o.mono ?_;rintro e w1 ⟨r,nv,rfl,J,A,I,W,T,a0⟩;have X:Hid (Kx U w t c d bx N a b len J w1):=q.o.to A.sz A.ch A.nw;obtain⟨da,dc,rfl⟩:∃a c,r=.slice a E.length c:=by obtain⟨a,c,e,_⟩:=I.rd;exact⟨a,c,e⟩
 obtain⟨na,nc,rfl⟩:∃a c,nv=.slice a bl.length c:=by obtain⟨a,c,e,_⟩:=W.rd;exact⟨a,c,e⟩
 have f:=z6 (And.intro I T);clear A I W T a0 Y b1 B;go_wp2_with fail;go_ret2;exact⟨_,rfl,J,X.o.rw,⟨f.o.1.rd,f.o.1.fz,λ k hk=>Aw q.o.rw.ch.size (f.o.1.new k hk),f.o.1.sp⟩,f.o.2⟩
def ZP(b len w)(H:Cq U w t c d bx N a):
 Calls prog 16 #[AW t,.agg #[.int .i64 b,.int .i64 len]] w λ e w'=>∃nv,e=.returned (.tuple #[nv,.int .i64 (An a.V b len).1])/\∃U',Rq U w t c d bx N a U' w'/\
  AF .i64 3 w' nv (An a.V b len).2.2/\∀j,nv.ownBlock=some j->¬U' j/\w.heap.size<=j:=by
 obtain⟨I,Z⟩:=exN (w.alloc (.cells #[.int .i64 b,.int .i64 len] 28));have f:=z6 (MU b len w I H Z);have X:=f.o.b0;have b1:=f.o.b1;have r:=AU (Uq b len I f.o.rw.sz);obtain⟨J,pk,bl,K⟩:∃J Y bl,An a.V b len=(J,Y,bl):=⟨_,_,_,rfl⟩
 rw[K]at r |-
 clear H K
 go_enter func16,ntmps16
 go_wp2_with fail;refine r.o.mono ?_;rintro e w1 ⟨pv,nv,rfl,E,q,T,a0,B,a1,O⟩;have W:Hid (Kx U w t c d bx N a b len E w1):=f.o.to q.sz q.ch q.nw;obtain⟨pa,pc,rfl⟩:∃a c,pv=.slice a pk.length c:=by obtain⟨a,c,e,_⟩:=T;exact⟨a,c,e⟩
 obtain⟨na,nc,rfl⟩:∃a c,nv=.slice a bl.length c:=by obtain⟨a,c,e,_⟩:=B.rd;exact⟨a,c,e⟩
 have A:=z6 (And.intro B O);clear q T a0 B a1 O X b1 r;go_wp2_with fail;go_ret2;exact⟨_,rfl,E,W.o.rw,A.o.1,λ j L=>⟨(A.o.2 j L).1,by have:=(A.o.2 j L).2;have:=f.o.rw.ch.size;omega⟩⟩
end
section
variable {U:Nat->Prop} {t c d M N:Nat} {a:Ab}
def Rw.to'{U' U2 w W W' a f}(h:Rw U w t c d M N a U' W)(q:Sz U2 W' t c d M N f)(r:AD U' W W')(A:∀k,U2 k->U' k\/W.heap.size<=k):Rw U w t c d M N f U2 W':=
 ⟨q,h.ch.trans r (λ k B e=>(h.nw k e).elim id (λ e=>by omega)),λ k e=>(A k e).elim (h.nw k) (λ e=>.inr (Aw h.ch.size e))⟩
structure Own(U':Nat->Prop)(n:Nat)(W:World)(v:Value)(xs:List Int):Prop where
 ow:AF .i64 3 W v xs
 no:∀j,v.ownBlock=some j->¬U' j/\n<=j
def Own.to{U' U2 n W W' v xs}(h:Own U' n W v xs)(q:AD U' W W')(r:∀k,U2 k->U' k\/W.heap.size<=k):Own U2 n W' v xs:=
 ⟨h.ow.tch q (λ j f=>(h.no j f).1),λ j f=>⟨Di r (h.ow.lt j f) (h.no j f).1,(h.no j f).2⟩⟩
def AHU(m w)(H:Sz U w t c d M N a)(hm:m<=a.A.L.count 0)(h3:m<=100):
 Calls prog 61 #[AW t,.int .i64 (m:Int)] w λ e w'=>∃nv,e=.returned (.tuple #[nv,.int .i64 0])/\∃U',Rw U w t c d M N { a with A:=(AX a.A m).2 } U' w'/\Own U' w.heap.size w' nv (AX a.A m).1:=by
 have HS:=z6 H.rw;have HM:=z6 hm;have HK:=z6 H.sok;have HT:Hid (∀(k:Nat) U' W,k<m->Sz U' W t c d M N { a with A:=(AX a.A k).2 }->Calls prog 99 #[mp M] W λ e w'=>e=.returned (.tuple #[.int .i64 (Ah.take (AX a.A k).2).1,.bool true])/\G6 U' W w' t c d M N { a with A:=(AX a.A (k+1)).2 }):=λ k U' W hk h=>by have:=AG0 W h;simp only[ZB HK.o (Ao hk HM.o)]at this;exact this
 clear H hm
 go_enter func61,ntmps61
 go_wp2_with fail
 go_loopw [6,12] (λ nv X wr=>∃(k:Nat)(r:Nat->Prop),k<=m/\X=.int .i64 (k:Int)/\Hid (Rw U w t c d M N { a with A:=(AX a.A k).2 } r wr/\Own r w.heap.size wr nv (AX a.A k).1/\(AX a.A k).1.length=k)) (λ _ X _=>m-(intOf X).toNat)
 case atStart=>exact⟨0,U,AI _,rfl,HS.o,⟨CB _ _ _,λ j B=>(by cases B)⟩,rfl⟩
 case round=>
  obtain⟨k,r,hk,rfl,f⟩:=hrel;obtain⟨na,nc,rfl,a2⟩:=f.o.2.1.ow.rd;clear a2;by_cases K:k<m
  .have c1:=f.o.1.sz.c1;have E:=AU (HT.o k r wr K f.o.1.sz);have a0:Hid (k<m):=K;obtain⟨x,T⟩:=exN ((Ah.take (AX a.A k).2).1);(have e1:Hid ((AX a.A (k+1)).1=(AX a.A k).1++[x]):=by show _=_;rw[<-T];rfl);rw[T]at E;clear T;go_wp2_with fail;refine E.o.mono ?_;rintro e W2 ⟨rfl,I,s1,Y,Z⟩;have q:=z6 (And.intro (f.o.1.to' s1 Y Z) (f.o.2.1.to Y Z));(have a1:Hid ((AX a.A k).1.length<=100):=by show _<=_;rw[f.o.2.2];omega);clear s1 Y Z E c1;go_wp2_with(at_builtin;refine ET W2 ?g1 (.tmp 37) (.tmp 39) 23 ?g2 3 .i64 8 KF _ (AX a.A k).1 ?g3 q.o.2.ow x ?g4 ?g5 ?g6 ?g7)
   (case g1=>rfl);(case g2=>rfl);(case g3=>rfl);(case g4=>rfl);(case g5=>have:=a1.o;omega);(case g6=>have:=a1.o;omega);case g7=>
   (intro v6 W6 O J;(obtain⟨va,vn,vc,rfl⟩:∃a n c,v6=.slice a n c:=by obtain⟨a,c,e,_⟩:=O.rd;exact⟨a,_,c,e⟩);have HF:Hid (Rw U w t c d M N { a with A:=(AX a.A (k+1)).2 } I W6/\Own I w.heap.size W6 (.slice va vn vc) (AX a.A (k+1)).1/\(AX a.A (k+1)).1.length=k+1):=by rw[e1.o];refine⟨q.o.1.tq J.tch (λ j B=>q.o.2.no j B),⟨O,λ j B=>?_⟩,by rw[zc0,f.o.2.2];rfl⟩;rcases J.fresh j B with e|e;exact q.o.2.no j e;exact⟨λ e2=>by have:=q.o.1.sz.ul j e2;omega,Aw q.o.1.ch.size e⟩);clear O J;go_wp2_with fail;exact⟨⟨k+1,I,a0.o,rfl,HF.o⟩,by simp[intOf];have:=a0.o;omega⟩
  .obtain rfl:k=m:=by omega
   clear K;go_wp2_with fail;go_ret2;exact⟨_,rfl,r,f.o.1,f.o.2.1⟩
end
end
section
open Go.RowKit Go.Maps
abbrev E3:List Value:=(List.replicate 32 (Value.int .u8 0))++[AK]
theorem AIm(w):(zeroValue 95).run prog w=.ok (.agg E3.toArray) w:=by kernel_rfl
theorem Sw:(prog.info? 95).map (·.size)=some 33:=by kernel_rfl
def AIW{o a w K Q}(f:o.op=.alloc 95)(h:∀W q,w.heap.size=q->Vr W q 95 E3->Below w.heap.size w W->K (a.put o.dst (.pointer (some ⟨q,0,none⟩))) W):Oper.wp prog o a w K Q:=by
 have r:(execOp a.eval o).run prog w=.ok (Next.value (.pointer (some ⟨w.heap.size,0,none⟩))) (w.alloc (.cells E3.toArray 95)):=by unfold execOp;simp only[f];go_simp;rfl
 unfold Oper.wp;simp only[r,Oper.upon];exact h _ _ rfl (CZ w _ _) ((Below.refl _ _).alloc (AE _) _)
def Mp.lookSt{w b n g}(h:Mp w b n g){x}(q:(Lit.int .i64 x).wf=true)(r:∀i:Nat,x=i->g i=none):
 (Instr.lookup 86 (.map (some b)) (.int .i64 x) true).run prog w=.ok (.tuple #[.agg E3.toArray,.bool false]) w:=by
 obtain⟨v,E,hr,hv⟩:=World.ownsMap.look_ok h GE underlying86 (AIm w) (zd:=.held (.agg E3.toArray)) (zp:=[]) rfl (keyOf_int_mk underlying3 q);have f:Maps.has (Dm n g) (Lit.int .i64 x)=false:=by
  rw[Bool.eq_false_iff];intro e;obtain⟨i,v,B,A,e⟩:=FK.1 e
  grind
 rw[hr,f];rw[atKey_of_not_has f]at hv;simp only[Rv,Option.some.injEq,Prod.mk.injEq,DataW.held.injEq]at hv;rw[hv.1]
structure Lx(t w0 sb:Nat)(x:Int)(W:World):Prop where
 c3:W.cell? ⟨t,3,none⟩=some (.map (some sb))
 b0:W.cell? ⟨w0,0,none⟩=some (.int .i64 x)
 lk:(Instr.lookup 86 (.map (some sb)) (.int .i64 x) true).run prog W=.ok (.tuple #[.agg E3.toArray,.bool false]) W
def ACX{U t c d M N a}(x w)(H:Sz U w t c d M N a)(hw:(Lit.int .i64 x).wf=true)(hx:∀e∈a.K,e.b≠x):
 Calls prog 48 #[AW t,.int .i64 x] w λ e w'=>e=.returned (.bool false)/\Below w.heap.size w w':=by
 obtain⟨r,a3⟩:=exN (w.alloc (.cells #[.int .i64 x] 3));have O:Hid (Below w.heap.size w r/\r.cell? ⟨w.heap.size,0,none⟩=some (.int .i64 x)):=by rw[<-a3];exact⟨(Below.refl _ _).alloc (AE _) _,by rw[cell_of_row _ _ _ _ _ (0,0) (heap_alloc_new w _)];rfl⟩
 obtain⟨L,a2⟩:∃L,∀W,Below r.heap.size r W->Lx t w.heap.size L x W:=by
  obtain⟨kb,L,fb,ub,X,S,Y,Z,s,D,h⟩:=H.below O.o.1;obtain⟨Kv,DD,SV,E,k⟩:=h.kz;refine⟨L,λ W hb=>?_⟩;have h2:=h.tch (R:=λ _=>False) (AD.of_below hb) (λ _ _ e=>e);have a6:w.heap.size<r.heap.size:=by rw[<-a3,World.size_alloc];omega
  refine⟨h2.c3,by rw[hb.cell (p:=⟨w.heap.size,0,none⟩) a6];exact O.o.2,(k.sm.tch (S:=λ _=>False) (AD.of_below hb) (λ e=>e)).lookSt hw (λ i e=>?_)⟩;unfold gS;rw[Option.map_eq_none_iff,List.find?_eq_none];intro f hf;simp only[zg1];rw[<-e];exact hx f hf
 have HL:Hid (∀W,Below r.heap.size r W->Lx t w.heap.size L x W):=a2;have b0:=O.o.2;have c3:=(a2 r (Below.refl _ _)).c3;clear H hx a2
 go_enter func48,ntmps48
 go_upto_region 1 with fail
 have a7:prog.follows .mixedOrders=true:=by kernel_rfl
 refine Dz (S:=λ W=>Lx t w.heap.size L x W) (t:=11) a7 ?_;have A:=HL.o r.drew (Below.of_drewN _ r 1);refine AO 0 (some 9) (.move (.tmp 0)) (AW t) A ?_;simp only[zq];refine AO 1 (some 10) (.nilCheck (.tmp 9)) (AW t) A ?_;simp only[zq];refine AO 2 (some 11) (.fieldAddr 90 (.tmp 10) 3) (Value.pointer (some ⟨t,3,none⟩)) A ?_;simp only[zq];refine AO 3 (some 12) (.load 86 (.tmp 11)) (Value.map (some L)) A ?_;simp only[zq];refine AO 4 (some 13) (.load 3 (.tmp 3)) (Value.int .i64 x) A ?_;simp only[zq];refine AO 5 (some 14) (.lookup 86 (.tmp 12) (.tmp 13) true) (Value.tuple #[.agg E3.toArray,.bool false]) A ?_;simp only[zq]
 refine AO 6 (some 8) (.move (.tmp 14)) (Value.tuple #[.agg E3.toArray,.bool false]) A ?_;simp only[zq];refine AO 7 (some 15) (.extract (.tmp 8) 0) (Value.agg E3.toArray) A ?_;simp only[zq];refine AO 8 (some 16) (.extract (.tmp 8) 1) (Value.bool false) A ?_;simp only[zq];refine Ae 9 (some 5) (.alloc 95) ?_;rintro o K I J hg B;refine AIW J ?_;rintro T q hq a4 a5;rw[I];have a0:Below r.heap.size r T:=(Below.of_drewN _ r 1).trans (a5.mono (AE _));refine B _ _ (λ _=>HL.o T a0) ?_;have a8:r.heap.size<=q:=by rw[<-hq];exact AE _
 clear J I hg B hq;simp only[zq];refine Ae 10 none (.store 95 (.tmp 5) (.tmp 15)) ?_;rintro o K I J hg B;refine GP (cs:=E3) (vs:=E3) J rfl rfl a4 rfl Sw (by kernel_rfl) ?_;rw[I];have a1:Below r.heap.size r (T.setCells q 0 E3):=a0.trans ((GM T q E3 0).below a0.size (λ k e=>by omega));refine B _ _ (λ _=>HL.o _ a1) ?_;clear J I hg B;simp only[zq];refine Ae 11 (some 6) (.assign (.tmp 16)) ?_;rintro o K I J hg B;refine ES (v:=.bool false) (by unfold execOp;simp only[J];go_simp) ?_;rw[I];refine B _ _ (λ e=>absurd rfl e) ?_;refine Cx (by kernel_rfl) ?_ _;clear J I hg B;simp only[zq];have HB:=z6 a1;generalize (T.setCells q 0 E3)=WF at HB |-
 clear a1 a4 a0 b0 c3;go_wp2_with fail;go_ret;exact⟨rfl,O.o.1.trans (HB.o.mono O.o.1.size)⟩
def AB1{V l m}(h:l.length=m.length)(n b):Bx V (l++[n]) (m++[b])=Fa (Bx V l m) n (0,b):=by
 induction l generalizing V m with
 | nil=>
  cases m with
  | nil=>rfl
  | cons _ _=>simp at h
 | cons x r f=>
  cases m with
  | nil=>simp at h
  | cons y s=>exact f (V:=Fa V x (0,y)) (by grind)
def AB2{V}{l:List Int}{m:List (Int×List Int)}(h:l.length=m.length){k}(f)(q:k<m.length):Bx V (l.take (k+1)) (m.take (k+1))=Fa (Bx V (l.take k) (m.take k)) l[k] (0,m[k]):=by rw[List.take_succ_eq_append_getElem f,List.take_succ_eq_append_getElem q];exact AB1 (by simp[h]) _ _
structure EB(U':Nat->Prop)(W:World)(g:Nat)(bs:List (Int×List Int))(us:Nat->Value):Prop where
 lt:g<W.heap.size
 no:¬U' g
 kd:∀i,(hi:i<bs.length)->W.cell? ⟨g,i*2,none⟩=some (.int .i64 bs[i].1)/\W.cell? ⟨g,i*2+1,none⟩=some (us i)/\Rd .u8 W (us i) bs[i].2
 un:∀i,i<bs.length->∀j,(us i).ownBlock=some j->j<W.heap.size/\¬U' j
def EB.to{U' U2:Nat->Prop}{W W':World}{g:Nat}{bs:List (Int×List Int)}{B:Nat->Value}(h:EB U' W g bs B)(q:AD U' W W')(A:∀k,U2 k->U' k\/W.heap.size<=k):EB U2 W' g bs B where
 lt:=Ao h.lt q.size
 no:=Di A h.lt h.no
 kd:=λ i f=>⟨by rw[q.cell (p:=⟨g,i*2,none⟩) h.lt h.no];exact(h.kd i f).1,by rw[q.cell (p:=⟨g,i*2+1,none⟩) h.lt h.no];exact(h.kd i f).2.1,(h.kd i f).2.2.tch q (λ k E=>(h.un i f k E).2)⟩
 un:=λ i f j r=>⟨Ao (h.un i f j r).1 q.size,Di A (h.un i f j r).1 (h.un i f j r).2⟩
def EB.on{U' W W' g bs f}(h:EB U' W g bs f)(q:Below W.heap.size W W'):EB U' W' g bs f:=h.to (AD.of_below q) (λ _ e=>.inl e)
def Own.on{U' n W W' v xs}(h:Own U' n W v xs)(f:Below W.heap.size W W'):Own U' n W' v xs:=h.to (AD.of_below f) (λ _ e=>.inl e)
def wfI{x}(f:0<=x)(q:x<9223372036854775808):(Lit.int .i64 x).wf=true:=by simp[Lit.wf,IntKind.min,IntKind.max,IntKind.signed,IntKind.bits];omega
structure XL(N:Nat)(ns:List Int)(bs:List (Int×List Int)):Prop where
 len:ns.length=bs.length
 few:ns.length<=100
 at_:∀x∈ns,50<=x/\x<(N:Int)
 may:∀b∈bs,(1<=b.1/\b.1<=4)/\b.2.length<=240/\By b.2
def AIT{q r o a w Q}(L:o.guard=none)(m x v)(T:o.op=Op.mapUpdate 87 m x v)(f n F)(z:Int)(hm:a.eval m=.map (some f))(U:a.eval x=.int .i64 z)(hv:a.eval v=.agg #[])(J:Mp w f n (gF F))(A:0<=z)(W:z<n)(O:n<=65536)(h:∀w',Mp w' f n (gF (JP F z true))->AD (λ k=>k=f) w w'->wpList prog q Q r (a.put o.dst undef) w'):wpList prog q Q (o::r) a w:=by
 obtain⟨w',hr,B,E⟩:=J.putT A W O;refine wpList_plain L λ K I=>?_;unfold Oper.wp;simp[execOp,T,hm,U,hv,hr,Result.andThen];exact I _ _ (h w' B E)
def AIj{U t c d M N a}(ns bs nv g cap us w)(H:Sz U w t c d M N a)(hn:Own U 0 w nv ns)(hb:EB U w g bs us)(hw:XL N ns bs)(hk:∀e∈a.K,e.b∉ns):
 Calls prog 63 #[AW t,nv,.slice (some ⟨g,0,none⟩) bs.length cap] w λ e w'=>e=.returned (.int .i64 0)/\∃U',Rw U w t c d M N { a with V:=Bx a.V ns bs,F:=λ x=>a.F x||decide (x∈ns) } U' w'/\Own U' 0 w' nv ns:=by
 obtain⟨B,a4⟩:=exN bs.length;have a0:=z6 a4;rw[a4];obtain⟨na,nc,rfl,af⟩:=hn.ow.rd;clear af;have a7:ns.length=B:=hw.len.trans a4;rw[a7]at hn |-
 have HS:=z6 (And.intro H.rw (And.intro hn hb));have HW:=z6 hw;have HK:=z6 hk;have ak:B<=100:=by rw[<-a7];exact hw.few
 have O:=z6 a7;clear H hn hb hw hk a7 a4
 go_enter func63,ntmps63
 go_wp2_with fail
 go_loopw [14] (λ kv wr=>∃(k:Nat)(r:Nat->Prop),k<=B/\kv=.int .i64 (k:Int)/\Hid (Rw U w t c d M N { a with V:=Bx a.V (ns.take k) (bs.take k) } r wr/\Own r 0 wr (.slice na B nc) ns/\EB r wr g bs us)) (λ kv _=>B-(intOf kv).toNat)
 case atStart=>exact⟨0,U,AI _,rfl,HS.o.1,HS.o.2.1,HS.o.2.2⟩
 case round=>
  obtain⟨k,r,hk,rfl,q⟩:=hrel;by_cases a9:k<B
  .obtain⟨x,hx⟩:=exN (ns.getD k 0);obtain⟨ng,ai,en,_,_,_,a2,_⟩:=q.o.2.1.ow.shape (by have:=O.o;omega);simp only[Value.slice.injEq]at en;obtain⟨rfl,hx1,rfl⟩:=en;clear hx1;have a5:=a2 k (by have:=O.o;omega);rw[hx]at a5;clear a2;obtain⟨I,ys,a6⟩:∃I ys,bs[k]'(by have:=a0.o;omega)=(I,ys):=⟨_,_,rfl⟩
   have A:Hid (x∈ns/\(50<=x/\x<(N:Int))/\((1<=I/\I<=4)/\ys.length<=240/\By ys)/\Bx a.V (ns.take (k+1)) (bs.take (k+1))=Fa (Bx a.V (ns.take k) (bs.take k)) x (0,I,ys)):=by (have h1:k<ns.length:=by have:=O.o;omega);(have h2:k<bs.length:=by have:=a0.o;omega);(have e:ns[k]=x:=by rw[<-hx,AP,z9 h1];rfl);(have hm:x∈ns:=by rw[<-e];exact zt0 _);refine⟨hm,HW.o.at_ x hm,?_,?_⟩;have:=HW.o.may _ (zt0 h2);rw[a6]at this;exact this;rw[AB2 HW.o.len h1 h2,e,a6]
   have a1:=q.o.2.2.kd k (by have:=a0.o;omega);rw[a6]at a1;obtain⟨T,uc,a3,_⟩:=a1.2.2;obtain⟨un,ac⟩:=exN ys.length;simp only[ac]at a3;rw[a3]at a1;have HB:=z6 a1;have aj:=z6 a3;have ae:bs.length=B:=a0.o;have HU:Hid (∀j,(Value.slice T un uc).ownBlock=some j->¬r j):=λ j hj=>(q.o.2.2.un k (by omega) j (by rw[a3];exact hj)).2;clear hx a6 a3 ac a1 ae
   go_upto_region 4 with fail
   go_cut [9] (λ v9 wx=>∃J:Nat->Prop,v9=.int .i64 0/\Hid (Rw U w t c d M N { a with V:=Bx a.V (ns.take (k+1)) (bs.take (k+1)) } J wx/\Own J 0 wx (.slice (some ⟨ng,0,none⟩) B nc) ns/\EB J wx g bs us))
   case first=>
    go_wp2_with fail;(have ag:prog.follows .mixedOrders=true:=by kernel_rfl);refine Dz (S:=λ W=>W.cell? ⟨t,0,none⟩=some (cp c)/\W.cell? ⟨g,k*2,none⟩=some (.int .i64 I)/\W.cell? ⟨g,k*2+1,none⟩=some (.slice T un uc)) (t:=10) ag ?_;have hD:Rw U w t c d M N { a with V:=Bx a.V (ns.take k) (bs.take k) } r wr.drew/\EB r wr.drew g bs us/\Rd .u8 wr.drew (.slice T un uc) ys:=⟨q.o.1.on (Below.of_drewN _ wr 1),q.o.2.2.on (Below.of_drewN _ wr 1),HB.o.2.2.below (Below.of_drewN _ wr 1)⟩
    have E:wr.drew.cell? ⟨t,0,none⟩=some (cp c)/\wr.drew.cell? ⟨g,k*2,none⟩=some (.int .i64 I)/\wr.drew.cell? ⟨g,k*2+1,none⟩=some (.slice T un uc):=⟨hD.1.sz.c0,HB.o.1,HB.o.2.1⟩
    refine AO 0 (some 19) (.move (.tmp 0)) (AW t) E ?_;simp only[zq];refine AO 1 (some 20) (.nilCheck (.tmp 19)) (AW t) E ?_;simp only[zq];refine AO 2 (some 21) (.fieldAddr 90 (.tmp 20) 0) (Value.pointer (some ⟨t,0,none⟩)) E ?_;simp only[zq];refine AO 3 (some 22) (.load 32 (.tmp 21)) (cp c) E ?_;simp only[zq];refine AO 4 (some 23) (.move (.tmp 8)) (Value.int .i64 x) E ?_;simp only[zq];refine AO 5 (some 24) (.move (.tmp 2)) (Value.slice (some ⟨g,0,none⟩) B cap) E ?_;simp only[zq];refine AO 6 (some 25) (.move (.tmp 7)) (Value.int .i64 (k:Int)) E ?_;simp only[zq];refine AO 7 (some 26) (.indexAddr 56 (.tmp 24) (.tmp 25)) (Value.pointer (some ⟨g,k*2,none⟩)) E ?_;simp only[zq]
    refine AO 8 (some 27) (.load 59 (.tmp 26)) (Value.agg #[.int .i64 I,.slice T un uc]) E ?_;simp only[zq];refine Ae 9 (some 28) (.call { callee:=.value (.func 22),args:=#[.tmp 22,.tmp 23,.tmp 27],argTypes:=#[32,3,59] }) ?_;rintro o K hd ho hg hK;refine Dp (enters_of func22 (by kernel_rfl) rfl) ho (vs:=#[cp c,.int .i64 x,.agg #[.int .i64 I,.slice T un uc]]) (by kernel_rfl) (AGz x I ys (.slice T un uc) wr.drew hD.1.sz A.o.2.1 A.o.2.2.1.1 A.o.2.2.1.2.1 A.o.2.2.1.2.2 hD.2.2 (λ j hj _=>HU.o j hj)) ?_;rintro e W2 ⟨he,J,s1,L,s3⟩;refine⟨_,he,?_⟩;rw[hd]
    (have HF:Hid (Rw U w t c d M N { a with V:=Bx a.V (ns.take (k+1)) (bs.take (k+1)) } J W2/\Own J 0 W2 (.slice (some ⟨ng,0,none⟩) B nc) ns/\EB J W2 g bs us):=by rw[A.o.2.2.2];exact⟨hD.1.to' s1 L s3,(q.o.2.1.on (Below.of_drewN _ wr 1)).to L s3,hD.2.1.to L s3⟩);have ad:W2.cell? ⟨t,0,none⟩=some (cp c)/\W2.cell? ⟨g,k*2,none⟩=some (.int .i64 I)/\W2.cell? ⟨g,k*2+1,none⟩=some (.slice T un uc):=by have hn:=hD.2.1.no;have hl:=hD.2.1.lt;exact⟨s1.c0,by rw[L.cell (p:=⟨g,k*2,none⟩) hl hn];exact E.2.1,by rw[L.cell (p:=⟨g,k*2+1,none⟩) hl hn];exact E.2.2⟩
    refine hK _ _ (λ _=>ad) ?_;clear ho hd hg hK he;simp only[zq];refine Ae 10 (some 9) (.assign (.tmp 28)) ?_;rintro o K hd ho hg hK;refine ES (v:=.int .i64 0) (by unfold execOp;simp only[ho];go_simp) ?_;rw[hd];refine hK _ _ (λ e=>absurd rfl e) ?_;refine Cx (by kernel_rfl) ?_ _;clear ho hd hg hK;simp only[zq];go_wp2_with fail
    go_meet
    exact⟨J,rfl,HF.o⟩
   case rest=>obtain⟨J,rfl,HF⟩:=hcut;go_wp2_with fail;refine⟨⟨k+1,J,by omega,rfl,HF.o⟩,by simp[intOf];omega⟩
  .obtain rfl:k=B:=by omega
   (clear a9;have HV:Hid (Rw U w t c d M N { a with V:=Bx a.V ns bs } r wr/\Own r 0 wr (.slice na k nc) ns):=by have h:=q.o;rw[Cj (by have:=O.o;omega),Cj (by have:=a0.o;omega)]at h;exact⟨h.1,h.2.1⟩);(have h0:Hid (Rw U w t c d M N { a with V:=Bx a.V ns bs,F:=λ x=>a.F x||decide (x∈ns.take 0) } r wr):=by (have e:(λ x=>a.F x||decide (x∈ns.take 0))=a.F:=by funext x;simp);rw[e];exact HV.o.1);clear q hk;go_wp2_with fail
   go_loopw [38] (λ kv wr=>∃(i:Nat)(r:Nat->Prop),i<=k/\kv=.int .i64 (i:Int)/\Hid (Rw U w t c d M N { a with V:=Bx a.V ns bs,F:=λ x=>a.F x||decide (x∈ns.take i) } r wr/\Own r 0 wr (.slice na k nc) ns)) (λ kv _=>k-(intOf kv).toNat)
   (case atStart=>exact⟨0,r,AI _,rfl,h0.o,HV.o.2⟩);case round=>
    clear h0 HV;obtain⟨i,U5,hi,rfl,q⟩:=hrel;by_cases a9:i<k
    .obtain⟨x,hx⟩:=exN (ns.getD i 0);obtain⟨ng,ai,en,_,_,_,a2,_⟩:=q.o.2.ow.shape (by have:=O.o;omega);simp only[Value.slice.injEq]at en;obtain⟨rfl,hx1,rfl⟩:=en;clear hx1;have a5:=a2 i (by have:=O.o;omega);rw[hx]at a5;clear a2;have A:Hid ((50<=x/\x<(N:Int))/\(∀e∈a.K,e.b≠x)/\(λ y=>a.F y||decide (y∈ns.take (i+1)))=JP (λ y=>a.F y||decide (y∈ns.take i)) x true):=by (have h1:i<ns.length:=by have:=O.o;omega);(have e:ns[i]=x:=by rw[<-hx,AP,z9 h1];rfl);(have hm:x∈ns:=by rw[<-e];exact zt0 _);refine⟨HW.o.at_ x hm,λ f hf e2=>HK.o f hf (by rw[e2];exact hm),?_⟩;funext y;rw[List.take_succ_eq_append_getElem h1,e];unfold JP;by_cases e3:y=x;rw[if_pos e3];simp[e3];rw[if_neg e3];simp[e3]
     have al:=q.o.1.sz.n2;have aa:=AU (ACX x _ q.o.1.sz (wfI (by have:=A.o.1;omega) (by have:=A.o.1;omega)) A.o.2.1);clear hx;go_wp2_with fail;refine aa.o.mono ?_;rintro e W2 ⟨rfl,hb⟩;have a8:=q.o.1.on hb;have ab:=q.o.2.on hb;obtain⟨kb,sb,fb,ub,X,S,Y,Z,s,D,hA⟩:=a8.sz;have c4:=hA.c4;have HA:=z6 (And.intro hA (And.intro a8 ab));clear hA a8 ab hb aa a5;go_wp2_with(at_mapUpdate;refine AIT rfl (.tmp 48) (.tmp 49) (.tmp 50) rfl fb N (λ y=>a.F y||decide (y∈ns.take i)) x rfl rfl rfl HA.o.1.fm (by have:=A.o.1;omega) A.o.1.2 (by omega) ?_;intro w8 m8 t8;refine Hid.o ?_)
     have HT:=HA.o.1.fmTo m8 t8 (λ y hy=>by
      unfold JP at hy;by_cases e:y=x;rw[e];exact A.o.1
      .rw[if_neg e]at hy;exact HA.o.1.ok.fr y hy)
     (obtain⟨U6,s1,L,s3⟩:=HT;have HF:Hid (Rw U w t c d M N { a with V:=Bx a.V ns bs,F:=λ x=>a.F x||decide (x∈ns.take (i+1)) } U6 w8/\Own U6 0 w8 (.slice (some ⟨ng,0,none⟩) k nc) ns):=by rw[A.o.2.2];exact⟨HA.o.2.1.to' s1 L s3,HA.o.2.2.to L s3⟩);clear m8 t8 s1 L s3 c4;refine z6 ?_;go_wp2_with fail;exact⟨⟨i+1,U6,by omega,rfl,HF.o⟩,by simp[intOf];omega⟩
    .obtain rfl:i=k:=by omega
     (clear a9;have HF:Hid (Rw U w t c d M N { a with V:=Bx a.V ns bs,F:=λ x=>a.F x||decide (x∈ns) } U5 wr):=by have h:=q.o.1;rw[Cj (by have:=O.o;omega)]at h;exact h);go_wp2_with fail;go_ret;exact⟨rfl,U5,HF.o,q.o.2⟩
structure Nm(w w':World)(t kb sb fb ub c M:Nat):Prop where
 bl:Below w.heap.size w w'
 box:w'.heap[t]?=some (.cells #[cp c,mp M,.map (some kb),.map (some sb),.map (some fb),.map (some ub)] 90 (0,0))
 k1:w'.ownsMap prog 81 Rv kb 0 (.map [])
 k2:w'.ownsMap prog 3 Rv sb 0 (.map [])
 k3:w'.ownsMap prog 3 Rv fb 0 (.map [])
 k4:w'.ownsMap prog 28 Rv ub 0 (.map [])
 num:kb=w.heap.size/\sb=w.heap.size+1/\fb=w.heap.size+2/\ub=w.heap.size+3/\t=w.heap.size+4/\w'.heap.size=w.heap.size+5
def ADA(c M w):Calls prog 24 #[cp c,mp M] w λ e w'=>∃t kb sb r I,e=.returned (.tuple #[AW t,.int .i64 0])/\Nm w w' t kb sb r I c M:=by
 have J:=@run_makeMap prog;have q:Hid (Nm w (((((w.alloc (.map #[] 0)).alloc (.map #[] 0)).alloc (.map #[] 0)).alloc (.map #[] 0)).alloc (.cells #[cp c,mp M,.map (some w.heap.size),.map (some (w.heap.size+1)),.map (some (w.heap.size+2)),.map (some (w.heap.size+3))] 90)) (w.heap.size+4) w.heap.size (w.heap.size+1) (w.heap.size+2) (w.heap.size+3) c M):=by
  have s1:(w.alloc (.map #[] 0)).heap.size=w.heap.size+1:=by simp
  have A:((w.alloc (.map #[] 0)).alloc (.map #[] 0)).heap.size=w.heap.size+2:=by simp
  have B:(((w.alloc (.map #[] 0)).alloc (.map #[] 0)).alloc (.map #[] 0)).heap.size=w.heap.size+3:=by simp
  have E:((((w.alloc (.map #[] 0)).alloc (.map #[] 0)).alloc (.map #[] 0)).alloc (.map #[] 0)).heap.size=w.heap.size+4:=by simp
  have f:∀(W:World)(o:Obj),Below W.heap.size W (W.alloc o):=λ W o=>(Below.refl _ _).alloc (AE _) _;have tc:∀(W:World)(o:Obj),AD (λ _=>False) W (W.alloc o):=λ W o=>AD.of_below (f W o);refine⟨((((f _ _).alloc (by simp) _).alloc (by simp;omega) _).alloc (by simp;omega) _).alloc (by simp;omega) _,by rw[<-E];exact heap_alloc_new _ _,?_,?_,?_,?_,rfl,rfl,rfl,rfl,rfl,by simp⟩;exact EP (EP (EP (EP (World.ownsMap_made w _ _ _) (tc _ _) (λ e=>e)) (tc _ _) (λ e=>e)) (tc _ _) (λ e=>e)) (tc _ _) (λ e=>e);have:=World.ownsMap_made (P:=prog) (w.alloc (.map #[] 0)) 3 Rv;rw[s1]at this;exact EP (EP (EP this (tc _ _) (λ e=>e)) (tc _ _) (λ e=>e)) (tc _ _) (λ e=>e)
  .have:=World.ownsMap_made (P:=prog) ((w.alloc (.map #[] 0)).alloc (.map #[] 0)) 3 Rv;rw[A]at this;exact EP (EP this (tc _ _) (λ e=>e)) (tc _ _) (λ e=>e)
  .have:=World.ownsMap_made (P:=prog) (((w.alloc (.map #[] 0)).alloc (.map #[] 0)).alloc (.map #[] 0)) 28 Rv;rw[B]at this;exact EP this (tc _ _) (λ e=>e)
 go_enter func24,ntmps24
 go_wp2_with fail;go_ret2;exact⟨w.heap.size+4,w.heap.size,w.heap.size+1,w.heap.size+2,w.heap.size+3,by first|rfl|simp,q.o⟩
def map_nil{w b n g}(h:w.ownsMap prog 3 Rv b 0 (.map []))(f:∀i,g i=none):Mp w b n g:=
 Mp.congr (g:=λ _=>none) (Iy h (by rw[OK (λ _ _=>rfl)])) (λ i _=>(f i).symm)
def AGy{X S Y w c d M N n s D A}(r:Cz X S w c d N s D)(hp:Pm w M A Y)(xy:∀k,X k->¬Y k)(sy:∀k,S k->¬Y k)(U:A.lo=50)(T:50+A.L.length=N)(O:FD s D)(A6:D.c=false)(DV:∀i,(D.V i).length<=n):
 Calls prog 24 #[cp c,mp M] w λ e w'=>∃t U',e=.returned (.tuple #[AW t,.int .i64 0])/\Sz U' w' t c d M N ⟨A,FV s D,LF D,λ _=>false,[],n⟩/\Below w.heap.size w w'/\(∀k,U' k->(X k\/S k\/Y k)\/w.heap.size<=k)/\w.heap.size<=t:=by
 refine(ADA c M w).mono ?_;rintro e w' ⟨t,E,I,K,J,rfl,h⟩;obtain⟨Z,e2,e3,e4,e5,e6⟩:=h.num;have lX:∀k,X k->k<w.heap.size:=λ k q=>r.ch.lt k q;have lS:∀k,S k->k<w.heap.size:=λ k q=>r.dk.slt k q;have lY:∀k,Y k->k<w.heap.size:=λ k q=>hp.lt k q;refine⟨t,λ k=>(X k\/S k\/Y k)\/(w.heap.size<=k/\k<w.heap.size+5),rfl,⟨E,I,K,J,X,S,Y,λ k=>k=E\/k=I\/k=J,s,D,?_⟩,h.bl,λ k q=>q.imp id (λ e=>e.1),by omega⟩;exact{
  box:=h.box
  cz:=r.tch (R:=λ _=>False) (AD.of_below h.bl) (λ _ _ e=>e) (λ _ _ e=>e)
  pm:=hp.tch (S:=λ _=>False) (AD.of_below h.bl) (λ _ _ e=>e)
  kz:=⟨λ _=>AK,.map [],λ _=>AK,.map [],{
   kn:=⟨h.k1,λ l B=>by simp[Maps.has]at B,λ e f=>(by cases f),λ e f=>(by cases f),λ e f=>(by cases f)⟩
   sm:=map_nil h.k2 (λ i=>rfl)
   sr:=λ e f=>by cases f
   um:=h.k4
   uh:=λ l B=>by simp[Maps.has]at B
   ne:=by omega
   zm:=⟨.inl rfl,.inr (.inl rfl),.inr (.inr rfl)⟩
   zk:=λ e f=>by cases f
   zs:=λ e f=>by cases f
   zl:=λ k q=>by omega
   nd:=List.nodup_nil
   bd:=λ e f=>by cases f
   n2:=r.ch.n2 }⟩
  fm:=map_nil h.k3 (λ i=>by simp[gF])
  xy:=xy
  sy:=sy
  xz:=λ k q e=>by grind
  sz:=λ k q e=>by grind
  yz:=λ k q e=>by grind
  nt:=⟨λ e=>by grind,λ e=>by grind,λ e=>by grind,by omega⟩
  nf:=⟨λ e=>by grind,λ e=>by grind,λ e=>by grind,by omega⟩
  ux:=λ k q=>by grind
  ul:=λ k q=>by grind
  ok:=⟨U,T,λ x W=>(by cases W),rfl,rfl,O,A6,DV⟩ }
end
section
open Go.RowKit Go.Maps
def UU{w:World}{q e size n v xs}(h:w.ownsRow q e size v n xs){k}(f:v.ownBlock=some k):∃C,w.heap[k]?=some (.cells C e (0,0)):=by
 rcases h.2 with⟨rfl,_⟩|⟨g,cap,r,rfl,_,A,_⟩
 .cases f
 .cases f;grind
def Xz{w:World}{k j:Nat}{C D t u f g}(h:w.heap[k]?=some (.cells C t f))(q:w.heap[j]?=some (.cells D u g))(r:(t==u)=false):k≠j:=λ e=>by grind
theorem TI:(prog.info? 130).map (λ i=>(i.zero,i.size,i.bytes))=some (some (.agg #[.slice none 0 0,.slice none 0 0]),2,48):=by kernel_rfl
theorem ABO:(prog.info? 5).map (λ i=>(i.zero,i.size,i.bytes))=some (some (.int .u8 0),1,1):=by kernel_rfl
def US{w:World}{f e size n v xs}(h:w.ownsRow f e size v n xs):w.ownsRow 0 e size v n xs:=by
 refine⟨h.1,?_⟩;rcases h.2 with q|⟨g,cap,r,A,q,B⟩
 .grind
 grind
section
variable {o:Oper} {a:Act} {w:World} {K:Act->World->Prop} {Q:Exit->Act->World->Prop}
def AGb(x y){ty}(B:o.op=.store ty x y)(b f v)(J:a.eval x=.pointer (some ⟨b,f,none⟩))(L:a.eval y=v)(r:(prog.info? ty).map (·.size)=some 1)(q:v.cells=#[v])(U:v.oneCell'=true){u}(hc:w.cell? ⟨b,f,none⟩=some u)(T:w.frozen? ⟨b,f,none⟩=false)(h:K (a.put o.dst undef) (w.setCell ⟨b,f,none⟩ v)):Oper.wp prog o a w K Q:=by
 cases hq:prog.info? ty with
 | none=>simp[hq]at r
 | some O=>
  have I:O.size=1:=by grind
  have E:(Instr.storeAt ty (.pointer (some ⟨b,f,none⟩)) v).run prog w=.ok () (w.setCell ⟨b,f,none⟩ v):=by have:=run_storeCells_cells (P:=prog) b f [v] 0 w (λ j A=>by grind) (λ j A=>by grind) (λ u W=>by grind);simp only[Nat.add_zero]at this;simp[Instr.storeAt,Instr.sureAddr,storeVar,sizeOf,typeInfo,hq,q,I,this,World.setCells]
  unfold Oper.wp;simp[execOp,B,J,L,E,Result.andThen];exact h
end
section
variable {o:Oper} {a:Act} {w:World} {K:Act->World->Prop} {Q:Exit->Act->World->Prop}
def AGZ(r:o.op=Op.makeSlice 40 (.const (.int .i64 256)) (.const (.int .i64 256)))(h:∀w',AF .u8 5 w' (.slice (some ⟨w.heap.size,0,none⟩) 256 256) zz->w.grownBy w' none->K (a.put o.dst (.slice (some ⟨w.heap.size,0,none⟩) 256 256)) w'):Oper.wp prog o a w K Q:=by
 obtain⟨J,q,E,I,T⟩:=info_parts ABO;obtain⟨w',A,L,O⟩:=run_make_full (P:=prog) w 0 40 5 J _ 1 underlying40 q E I .i64 .i64 256 (by omega) (by decide) (AI _);have B:(Instr.makeSlice 40 (.int .i64 256) (.int .i64 256)).run prog w=.ok (.slice (some ⟨w.heap.size,0,none⟩) 256 256) w':=A;have f:AF .u8 5 w' (.slice (some ⟨w.heap.size,0,none⟩) 256 256) zz:=by have U:zz=List.replicate 256 0:=rfl;show w'.ownsRow _ _ _ _ _ _;rw[show(Value.int .u8 0).cells=#[.int .u8 0]from rfl,toList_madeCells_one]at L;simp_all
 have:=h w' f O;unfold Oper.wp;simp[execOp,r,Act.eval,B,Result.andThen];exact this
def AGY(x)(q:o.op=Op.buildSlice 126 1 #[(0,x)])(u)(A:a.eval x=.agg #[u,.slice none 0 0])(h:K (a.put o.dst (.slice (some ⟨w.heap.size,0,none⟩) 1 1)) (w.alloc (.cells #[u,.slice none 0 0] 130))):Oper.wp prog o a w K Q:=by
 have r:(Instr.buildSlice 126 1 #[(0,.agg #[u,.slice none 0 0])]).run prog w=.ok (.slice (some ⟨w.heap.size,0,none⟩) 1 1) (w.alloc (.cells #[u,.slice none 0 0] 130)):=by
  obtain⟨I,f,B,E,J⟩:=info_parts TI;refine run_buildSlice w _ 130 1 _ _ I _ underlying126 f B (by omega) (by omega) ?_;rw[E];have:=Go.Great.fill_whole (s:=2) (by decide) [.agg #[u,.slice none 0 0]] ((Array.range (1*2)).map ((Value.agg #[.slice none 0 0,.slice none 0 0]).cells[· % (Value.agg #[.slice none 0 0,.slice none 0 0]).cells.size]!)) (λ v hv=>by
   simp at hv;subst hv;rfl) (by simp)
  refine this.trans ?_;simp[Value.cells]
 unfold Oper.wp;simp[execOp,q,A,r,Result.andThen];exact h
def AGW(s x)(I:o.op=.call { callee:=.builtin .append,args:=#[s,x],argTypes:=#[126,126] })(base)(hbase:base<=w.heap.size)(v n xs)(hs:a.eval s=v)(hown:w.ownsRow base 130 2 v n xs)(g0 u z)(hx:a.eval x=.slice (some ⟨g0,0,none⟩) 1 1)(hu:JD u)(hz:JD z)(hc:w.cell? ⟨g0,0,none⟩=some u)(hc1:w.cell? ⟨g0,1,none⟩=some z)(hl:n+1<=1000000000000)(h:∀r q,q.ownsRow base 130 2 r (n+1) (xs++[u,z])->w.grownBy q v.ownBlock->K (a.put o.dst r) q):Oper.wp prog o a w K Q:=by
 obtain⟨T,E,J,L,O⟩:=info_parts TI;obtain⟨r,q,hr,A,B,_⟩:=run_append_own (P:=prog) w base 126 o.type 130 T _ 2 48 underlying126 E J L O rfl (by decide) v n xs hown ⟨g0,0,none⟩ 1 1 [u,z] rfl (λ j y f=>by
  match j,f with
  | 0,f=>simp at f;subst f;simpa[Addr.add]using hc
  | 1,f=>simp at f;subst f;simpa[Addr.add]using hc1) (λ y f=>by
   simp at f;rcases f with rfl|rfl;exact hu.one
   .exact hz.one) (by unfold maxLen;omega) (by omega) hbase
 unfold Oper.wp;simp[execOp,I,resolve,invoke,builtin,hs,hx,hr,Result.andThen];exact h r q A B
end
structure DF(w wr:World)(r k:Nat)(lv:Value):Prop where
 be:Below w.heap.size w wr
 rn:w.heap.size<=r
 box:wr.heap[r]?=some (.cells #[lv,.bool false,.int .i64 0] 128 (0,0))
 row:∃xs,wr.ownsRow w.heap.size 130 2 lv k xs
section
variable {w wr:World} {r k:Nat} {lv:Value}
def DF.c0(h:DF w wr r k lv):wr.cell? ⟨r,0,none⟩=some lv:=by rw[cell_of_row wr r 0 _ _ (0,0) h.box];rfl
def DF.fz(h:DF w wr r k lv):wr.frozen? ⟨r,0,none⟩=false:=frozen_of_row wr r 0 _ _ h.box
def DF.lt(h:DF w wr r k lv):r<wr.heap.size:=(za0.1 h.box).1
def DF.ne(h:DF w wr r k lv):¬lv.ownBlock=some r:=λ e=>by obtain⟨q,hr⟩:=h.row;obtain⟨C,f⟩:=UU (US hr) e;exact Xz f h.box (by decide) rfl
def DF.mono(h:DF w wr r k lv){q}(f:AD (λ _=>False) wr q):DF w q r k lv:=
 { be:=h.be.trans (f.below h.be.size (λ _ e=>e.elim)),rn:=h.rn,box:=(by rw[f.block r h.lt (λ e=>e)];exact h.box),row:=(by obtain⟨A,hr⟩:=h.row;exact⟨A,f.owns hr (λ _ _ e=>e)⟩) }
def DF.step(h:DF w wr r k lv){f q ys}(K:wr.grownBy f lv.ownBlock)(hr:f.ownsRow w.heap.size 130 2 q (k+1) ys):DF w (f.setCell ⟨r,0,none⟩ q) r (k+1) q:=by
 have A:AD (λ j=>lv.ownBlock=some j) wr f:=AD.of_grown K;have I:f.heap[r]?=some (.cells #[lv,.bool false,.int .i64 0] 128 (0,0)):=by rw[A.block r h.lt h.ne];exact h.box
 have E:=DO f r 0 q;have J:∀j,lv.ownBlock=some j->w.heap.size<=j:=λ j B=>by obtain⟨T,L⟩:=h.row;exact(L.lt j B).1
 exact{
  be:=(h.be.trans (A.below h.be.size J)).trans (E.below (Aw h.be.size A.size) (λ j e=>by rw[e];exact h.rn))
  rn:=h.rn
  box:=heap_setCell_same f r 0 _ _ _ I
  row:=⟨ys,E.owns hr (λ j B e=>by
   obtain⟨C,O⟩:=UU (US hr) B
   grind)⟩ }
end
def AEt(n:Nat)(w)(h1:1<=n)(h2:n<=4096):Calls prog 27 #[.int .i64 (n:Int)] w λ e w'=>
 ∃r,e=.returned (.tuple #[.pointer (some ⟨r,0,none⟩),.int .i64 0])/\Below w.heap.size w w':=by
 have ha:¬(n:Int)<1:=by omega
 have hb:¬(n:Int) > 4096:=by omega
 obtain⟨W1,a2⟩:=exN (w.alloc (.cells #[.slice none 0 0,.bool false,.int .i64 0] 128));obtain⟨r,hr⟩:=exN w.heap.size;have I0:Hid (DF w W1 r 0 (.slice none 0 0)):=by
  rw[<-a2,<-hr];exact{
   be:=(Below.refl _ _).alloc (AE _) _
   rn:=AE _
   box:=heap_alloc_new w _
   row:=⟨_,World.ownsRow_nil _ _ _ _⟩ }
 have a6:Hid (w.alloc (.cells #[.slice none 0 0,.bool false,.int .i64 0] 128)=W1):=a2;have HR:Hid (w.heap.size=r):=hr;have HN:Hid (1<=n):=h1;clear a2 hr
 go_enter func27,ntmps27
 go_wp2_with fail;rw[a6.o,HR.o];clear a6
 go_loopw [5] (λ iv wr=>∃(k:Nat)(lv:Value),k<=n/\iv=.int .i64 k/\Hid (DF w wr r k lv)) (λ iv _=>n-(intOf iv).toNat)
 case atStart=>exact⟨0,_,AI _,rfl,I0⟩
 case round=>
  obtain⟨k,lv,hk,rfl,I⟩:=hrel;by_cases ac:k<n
  .have ab:(k:Int)<(n:Int):=by omega
   obtain⟨J,O,L,rfl⟩:JD lv:=by
    obtain⟨xs,a5⟩:=I.o.row;rcases a5.2 with⟨e,_⟩|⟨g,cap,aa,e,_⟩
    .exact⟨_,_,_,e⟩
    .exact⟨_,_,_,e⟩
   have Z:Hid (DF w wr.drew r k (.slice J O L)):=I.o.mono (AD.drew (AD.refl _ wr));have U:wr.drew.cell? ⟨r,0,none⟩=some (.slice J O L):=Z.o.c0;clear I;go_wp2_with fail;refine Dz (S:=λ w'=>w'.cell? ⟨r,0,none⟩=some (.slice J O L)) (t:=11) (by kernel_rfl) ?_;refine Be 0 (some 19) (.move (.tmp 4)) (Value.pointer (some ⟨r,0,none⟩)) (by rintro o f w' a0;go_simp) U ?_;simp only[zq];refine Be 1 (some 20) (.move (.tmp 4)) (Value.pointer (some ⟨r,0,none⟩)) (by rintro o f w' a0;go_simp) U ?_;simp only[zq];refine Be 2 (some 21) (.nilCheck (.tmp 20)) (Value.pointer (some ⟨r,0,none⟩)) (by rintro o f w' a0;go_simp) U ?_;simp only[zq]
   refine Be 3 (some 22) (.fieldAddr 128 (.tmp 21) 0) (Value.pointer (some ⟨r,0,none⟩)) (by rintro o f w' a0;go_simp) U ?_;simp only[zq];refine Be 4 (some 23) (.load 126 (.tmp 22)) (Value.slice J O L) (by rintro o f w' a0;go_simp) U ?_;simp only[zq];refine Ae 5 (some 24) (.makeSlice 40 (.const (.int .i64 256)) (.const (.int .i64 256))) ?_;rintro o K A f B q;refine AGZ f ?_;intro T a9 a8;have I2:Hid (DF w T r k (.slice J O L)):=Z.o.mono ((AD.of_grown a8).mono (λ _ _ e=>by cases e));have O2:Hid (AF .u8 5 T (.slice (some ⟨wr.drew.heap.size,0,none⟩) 256 256) zz):=a9;have G2:Hid (w.heap.size<=wr.drew.heap.size):=Z.o.be.size;generalize wr.drew.heap.size=g2 at *
   have k2:T.cell? ⟨r,0,none⟩=some (.slice J O L):=I2.o.c0;rw[A];refine q _ _ (λ _=>k2) ?_;clear f A B q a9 a8 Z U;simp only[zq];refine Ae 6 (some 25) (.build 130 #[(0,.tmp 24)]) ?_;rintro o K A f B q;refine ES (v:=Value.agg #[.slice (some ⟨g2,0,none⟩) 256 256,.slice none 0 0]) ?hy ?_;(case hy=>go_simp);rw[A];refine q _ _ (λ _=>k2) ?_;clear f A B q;simp only[zq];refine Ae 7 (some 26) (.buildSlice 126 1 #[(0,.tmp 25)]) ?_;rintro o K A f B q;refine AGY (.tmp 25) f _ rfl ?_;have Y:(T.alloc (.cells #[.slice (some ⟨g2,0,none⟩) 256 256,.slice none 0 0] 130)).heap[T.heap.size]?=some (.cells #[.slice (some ⟨g2,0,none⟩) 256 256,.slice none 0 0] 130 (0,0)):=heap_alloc_new T _
   have E:Hid (DF w (T.alloc (.cells #[.slice (some ⟨g2,0,none⟩) 256 256,.slice none 0 0] 130)) r k (.slice J O L)):=I2.o.mono (AD.alloc (AD.refl _ _) _);have O3:Hid (AF .u8 5 (T.alloc (.cells #[.slice (some ⟨g2,0,none⟩) 256 256,.slice none 0 0] 130)) (.slice (some ⟨g2,0,none⟩) 256 256) zz):=O2.o.tch (S:=λ _=>False) (AD.alloc (AD.refl _ _) _) (λ _ _ e=>e);obtain⟨W,a7⟩:=exN (T.alloc (.cells #[.slice (some ⟨g2,0,none⟩) 256 256,.slice none 0 0] 130));rw[a7]at Y E O3 |-
   generalize T.heap.size=g3 at *
   have k3:W.cell? ⟨r,0,none⟩=some (.slice J O L):=E.o.c0;have a1:Hid (W.cell? ⟨g3,0,none⟩=some (.slice (some ⟨g2,0,none⟩) 256 256)/\W.cell? ⟨g3,1,none⟩=some (.slice none 0 0)):=⟨cell_of_row W g3 0 _ _ (0,0) Y,cell_of_row W g3 1 _ _ (0,0) Y⟩
   rw[A];refine q _ _ (λ _=>k3) ?_;clear f A B q Y a7 I2 O2 k2;simp only[zq];refine Ae 8 (some 27) (.call { callee:=.builtin .append,args:=#[.tmp 23,.tmp 26],argTypes:=#[126,126] }) ?_;rintro o K A f B q;obtain⟨xs,a5⟩:=E.o.row;refine AGW (.tmp 23) (.tmp 26) f w.heap.size E.o.be.size (.slice J O L) k xs rfl a5 g3 (.slice (some ⟨g2,0,none⟩) 256 256) (.slice none 0 0) rfl ⟨_,_,_,rfl⟩ ⟨_,_,_,rfl⟩ a1.o.1 a1.o.2 (by omega) ?_;intro v5 w5 a4 a3;have I6:Hid (DF w (w5.setCell ⟨r,0,none⟩ v5) r (k+1) v5):=E.o.step a3 a4;have T5:=AD.of_grown a3;have X:w5.cell? ⟨r,0,none⟩=some (.slice J O L):=by rw[T5.cell (p:=⟨r,0,none⟩) E.o.lt E.o.ne];exact k3
   (have f5:w5.frozen? ⟨r,0,none⟩=false:=by rw[T5.frozen (p:=⟨r,0,none⟩) E.o.lt E.o.ne];exact E.o.fz);obtain⟨va,vn,vc,rfl⟩:JD v5:=by
    rcases a4.2 with⟨e,_⟩|⟨g,cap,aa,e,_⟩
    .exact⟨_,_,_,e⟩
    .exact⟨_,_,_,e⟩
   rw[A];refine q _ _ (λ _=>X) ?_;clear f A B q a4 a3 T5 E O3 k3 a1;simp only[zq];refine Ae 9 (some 28) (.nilCheck (.tmp 19)) ?_;rintro o K A f B q;refine ES (v:=Value.pointer (some ⟨r,0,none⟩)) ?hy ?_;(case hy=>go_simp);rw[A];refine q _ _ (λ _=>X) ?_;clear f A B q;simp only[zq];refine Ae 10 (some 29) (.fieldAddr 128 (.tmp 28) 0) ?_;rintro o K A f B q;refine ES (v:=Value.pointer (some ⟨r,0,none⟩)) ?hy ?_;(case hy=>go_simp);rw[A];refine q _ _ (λ _=>X) ?_;clear f A B q;simp only[zq];refine Ae 11 none (.store 126 (.tmp 29) (.tmp 27)) ?_;rintro o K A f B q;refine AGb (.tmp 29) (.tmp 27) f r 0 _ rfl rfl (by kernel_rfl) rfl rfl X f5 ?_;rw[A];refine q _ _ (λ e=>absurd rfl e) ?_
   refine Cx (by kernel_rfl) ?_ _;clear f A B q X f5;simp only[Act.put];go_wp2_with fail
   go_roundw
   (case rel=>exact⟨k+1,_,by omega,by go_num,I6⟩);case measure=>simp[intOf];omega
  .have ab:¬(k:Int)<(n:Int):=by omega
   (obtain rfl:k=n:=by omega);go_wp2_with fail;go_ret2;exact⟨⟨r,rfl⟩,I.o.be⟩
def AEs(q f:Nat)(h:q<=f)(W:f<=65536)(w):
 Calls prog 29 #[.int .i64 q,.int .i64 f] w λ e w'=>∃R,e=.returned (.tuple #[.pointer (some ⟨R,0,none⟩),.int .i64 0])/\Below w.heap.size w w':=by
 have Z:decide (f<q)=false:=by simp;omega
 obtain⟨d,B⟩:=exH (f-q);have Y:(f:Int)-(q:Int)=(d:Int):=by have:=B.o;omega
 have X:d<=65536:=by have:=B.o;omega
 obtain⟨O,U,I,J,K,L⟩:=KF
 go_enter func29,ntmps29
 go_wp2_with(at_make;refine wpList_make_full _ rfl (.tmp 20) (.tmp 20) 23 rfl 0 3 U _ 1 underlying23 I J K .i64 .i64 _ _ d rfl rfl rfl rfl (by rw[L];omega) (by unfold maxLen;omega) (AI _) ?_)
 intro A T E;have r:Hid (Below w.heap.size w A):=(Below.refl _ _).grown E (AE _) (λ k e=>by cases e);clear T E I J K L O;go_wp2_with fail;go_ret2
 first|exact⟨A.heap.size,rfl,r.o.alloc r.o.size _⟩|exact⟨⟨A.heap.size,rfl⟩,r.o.alloc r.o.size _⟩
