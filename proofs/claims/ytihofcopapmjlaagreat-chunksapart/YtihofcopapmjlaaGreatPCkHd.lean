import Derived.Test.YtihofcopapmjlaaGreatPCkReg
import Derived.Test.YtihofcopapmjlaaGreatPClone
import Derived.Test.YtihofcopapmjlaaGreatPBBlk
import Derived.Deep.CutBlock
import Derived.Deep.DeepCutAuto
set_option maxRecDepth 100000
set_option linter.all false
set_option maxHeartbeats 8000000
namespace Go.Proofs.YtihofcopapmjlaaGreat
open Go.Proofs.Tryz
open Go.RowKit Pl
def DV(m p:Int)(u1 u2:Value):Value:=.agg #[.int .i64 m,.int .i64 p,u1,u2]
abbrev AK:Value:=.slice none 0 0
abbrev A6(m p:Int)(u1 u2:Value):List Value:=[.int .i64 m,.int .i64 p,u1,u2]
abbrev Hv(w:World)(b:Nat)(m p:Int)(u1 u2:Value):Prop:=Vr w b 157 (A6 m p u1 u2)
theorem MN:(prog.info? 157).map (·.size)=some 4:=by kernel_rfl
def MM{w b m p u1 u2}(h:Hv w b m p u1 u2):(loadVar 157 ⟨b,0,none⟩).run prog w=.ok (DV m p u1 u2) w:=Vr.load h underlying157 rfl MN
def Qk{o a w K Q}(f:o.op=.alloc 157)(h:∀W q,w.heap.size=q->Hv W q 0 0 AK AK->Below w.heap.size w W->K (a.put o.dst (.pointer (some ⟨q,0,none⟩))) W):Oper.wp prog o a w K Q:=by
 have r:(execOp a.eval o).run prog w=.ok (Next.value (.pointer (some ⟨w.heap.size,0,none⟩))) (w.alloc (.cells (A6 0 0 AK AK).toArray 157)):=by unfold execOp;simp only[f];go_simp
 unfold Oper.wp;simp only[r,Oper.upon];exact h _ _ rfl (CZ w _ _) ((Below.refl _ _).alloc (AE _) _)
def AAy(f a m c w)(B:¬(f=3/\5<=m)):
 Calls prog 73 #[blk f (.slice a m c)] w λ e w'=>e=.returned (.tuple #[DV 0 0 AK AK,.bool false])/\Below w.heap.size w w':=by
 have q:Hid (Below w.heap.size w ((w.alloc (Obj.cells #[Value.int IntKind.i64 f,Value.slice a m c] 59)).alloc (Obj.cells #[Value.int IntKind.i64 0,Value.int IntKind.i64 0,Value.slice none 0 0,Value.slice none 0 0] 157))):=((Below.refl _ _).alloc (AE _) _).alloc (by simp) _
 have r:Hid ((loadVar 157 ⟨w.heap.size+1,0,none⟩).run prog ((w.alloc (Obj.cells #[Value.int IntKind.i64 f,Value.slice a m c] 59)).alloc (Obj.cells #[Value.int IntKind.i64 0,Value.int IntKind.i64 0,Value.slice none 0 0,Value.slice none 0 0] 157))=.ok (DV 0 0 AK AK) ((w.alloc (Obj.cells #[Value.int IntKind.i64 f,Value.slice a m c] 59)).alloc (Obj.cells #[Value.int IntKind.i64 0,Value.int IntKind.i64 0,Value.slice none 0 0,Value.slice none 0 0] 157))):=by
  refine z6 (MM ?_);have:=heap_alloc_new (w.alloc (Obj.cells #[Value.int IntKind.i64 f,Value.slice a m c] 59)) (Obj.cells #[Value.int IntKind.i64 0,Value.int IntKind.i64 0,Value.slice none 0 0,Value.slice none 0 0] 157);simp only[World.size_alloc]at this;exact this
 unfold blk;by_cases A:f=3
 .subst A;have E:(m:Int)<5:=by omega
  have J:decide ((m:Int)<5)=true:=by simpa using E
  clear B
  go_enter func73,ntmps73
  go_wp2_with fail;refine bodyPost_ret (Hh (p:=2) (u:=3) (ty:=157) rfl _ _ _ (w.heap.size+1) _ _ rfl r.o rfl) rfl ?_;exact⟨rfl,q.o⟩
 .have I:(f != 3)=true:=by simpa using A
  clear B
  go_enter func73,ntmps73
  go_wp2_with fail;refine bodyPost_ret (Hh (p:=2) (u:=3) (ty:=157) rfl _ _ _ (w.heap.size+1) _ _ rfl r.o rfl) rfl ?_;exact⟨rfl,q.o⟩
def b1{w W}(h:Below w.heap.size w W):Below w.heap.size w W.drew:=h.trans (Below.of_drewN _ W 1)
def bA{w W o}(h:Below w.heap.size w W):Below w.heap.size w (W.alloc o):=h.alloc h.size _
structure BY(w W:World)(v:Value):Prop where
 bl:Below w.heap.size w W
 bk:Vr W w.heap.size 59 [.int .i64 3,v]
 rs:Hv W (w.heap.size+1) 0 0 AK AK
def BY.ge{w W v}(h:BY w W v):w.heap.size+2<=W.heap.size:=by have:=h.rs.lt;omega
def BY.on{w W W' v}(h:BY w W v)(f:Below W.heap.size W W'):BY w W' v:=by exact⟨h.bl.trans (f.mono h.bl.size),h.bk.on f,h.rs.on f⟩
def BY.tq{w W W' v q}(h:BY w W v)(f:AD (λ j=>j=q) W W')(r:¬w.heap.size=q)(A:¬w.heap.size+1=q)(B:w.heap.size<=q):BY w W' v:=
 ⟨h.bl.trans (f.below h.bl.size (λ k e=>by omega)),h.bk.tch f r,h.rs.tch f A⟩
def BY.d{w W v}(h:BY w W v):BY w W.drew v:=h.on (Below.of_drewN _ W 1)
def BY.c0{w W v}(h:BY w W v):W.cell? ⟨w.heap.size,0,none⟩=some (.int .i64 3):=(h.bk.at 0).trans rfl
def BY.c1{w W v}(h:BY w W v):W.cell? ⟨w.heap.size,1,none⟩=some v:=(h.bk.at 1).trans rfl
abbrev NP(w:World)(v:Value):World:=((w.alloc (Obj.cells #[Value.int IntKind.i64 3,v] 59)).alloc (Obj.cells #[Value.int IntKind.i64 0,Value.int IntKind.i64 0,Value.slice none 0 0,Value.slice none 0 0] 157))
def hx1(w v):BY w (NP w v) v:=by refine⟨((Below.refl _ _).alloc (AE _) _).alloc (by simp) _,?_,?_⟩;show(World.alloc _ _).heap[w.heap.size]?=_;rw[Below.heap_alloc _ _ _ (by simp)];exact heap_alloc_new w _;have:=heap_alloc_new (w.alloc (Obj.cells #[Value.int IntKind.i64 3,v] 59)) (Obj.cells #[Value.int IntKind.i64 0,Value.int IntKind.i64 0,Value.slice none 0 0,Value.slice none 0 0] 157);simp only[World.size_alloc]at this;exact this
def H9(ys:List Int):Prop:=Fy 3 ys/\1<=Ba ys 0/\Ba ys 0<=512
def AAz(g E cap m ys w)(hm:ys.length=m)(h5:5<=m)(c5:m<=240)(hb:By ys)(hO:A4 w (.slice (some ⟨g,E,none⟩) m cap) ys):
 Calls prog 73 #[blk 3 (.slice (some ⟨g,E,none⟩) m cap)] w λ e w'=>Below w.heap.size w w'/\((¬H9 ys/\e=.returned (.tuple #[DV 0 0 AK AK,.bool false]))\/
  (H9 ys/\∃mv fv,e=.returned (.tuple #[DV (Ba ys 0) (Ba ys 2) mv fv,.bool true])/\AF .i64 3 w' mv (Cw ys).more/\(∀k,mv.ownBlock=some k->w.heap.size<=k)/\A4 w' fv (Cw ys).fst/\∀k,fv.ownBlock=some k->w.heap.size<=k/\mv.ownBlock≠some k)):=by
 obtain⟨J,hc⟩:g<w.heap.size/\∀j,j<m->w.cell? ⟨g,E+j,none⟩=some (.int .u8 (ys.getD j 0)):=by obtain⟨g',o',c',e,_,_,h1,h2,_⟩:=hO;simp only[Value.slice.injEq,Option.some.injEq,Addr.mk.injEq,and_true]at e;obtain⟨⟨rfl,rfl⟩,_⟩:=e;exact⟨h1,λ j hj=>h2 j (by omega)⟩
 have HO:=z6 hO;clear hO;obtain⟨F,hF⟩:∃F:Int->Int,Hid (∀i:Nat,Ba ys i=F (i:Int)):=⟨λ z=>Ba ys z.toNat,λ i=>rfl⟩
 obtain⟨v,hv⟩:=exN (Value.slice (some ⟨g,E,none⟩) m cap);have HZ:Hid (∀(z:Int) W,0<=z->z+1<(m:Int)->BY w W (.slice (some ⟨g,E,none⟩) m cap)->Calls prog 113 #[.slice (some ⟨g,E,none⟩) m cap,.int .i64 z] W λ e w'=>e=.returned (.int .i64 (F z))/\BY w w' (.slice (some ⟨g,E,none⟩) m cap)/\Below W.heap.size W w'):=λ z W h0 h1 hB=>by
  obtain⟨i,rfl⟩:∃i:Nat,z=i:=⟨z.toNat,by omega⟩
  refine(ADV g E cap m ys i W hb hm (by omega) (by omega) (λ j hj=>by rw[hB.bl.cell (p:=⟨g,E+j,none⟩) J];exact hc j hj)).mono ?_;rintro e w' ⟨rfl,q,rfl⟩;rw[hF.o];exact⟨rfl,hB.on (Below.of_drewN _ W q),Below.of_drewN _ W q⟩
 rw[hF.o 0,hF.o 2];obtain⟨T,bc⟩:∃n:Nat,ys.getD 4 0=(n:Int):=⟨(ys.getD 4 0).toNat,by have:=hb 4;omega⟩
 have a9:Hid (ys.getD 4 0=(T:Int)):=bc;have cj:T<=255:=by have:=hb 4;omega
 have HF:Hid (Ba ys 2=F 2):=hF.o 2;have af:Hid (0<=F 2/\F 2<=65535):=by have h1:=hb 2;have h2:=hb (2+1);have h3:=HF.o;unfold Ba at h3;show _/\_;omega
 have au:=z6 hm;have c7:decide ((m:Int)<5)=false:=by rw[AT];omega
 have hX:=hx1 w (.slice (some ⟨g,E,none⟩) m cap);have HB:=z6 hb;clear hm hb hv bc;unfold blk
 go_enter func73,ntmps73
 go_upto_region 3 with fail
 obtain⟨W0,aw⟩:=exN (NP w (.slice (some ⟨g,E,none⟩) m cap));unfold NP at hX aw;rw[aw]at hX |-
 clear aw;have k0:=hX.c0;have k1:=hX.c1;have ce:=hX.ge;have B0:=hX.bl;have HX:=z6 hX;clear hX
 go_cut [4] (λ hv wx=>∃b:Nat,hv=.pointer (some ⟨b,0,none⟩)/\Hid (BY w wx (.slice (some ⟨g,E,none⟩) m cap)/\w.heap.size+1<b/\Hv wx b (F 0) (F 2) AK AK))
 case first=>
  go_wp2_with fail;have b5:prog.follows .mixedOrders=true:=by kernel_rfl
  refine Dz (S:=λ W=>BY w W (.slice (some ⟨g,E,none⟩) m cap)) (t:=8) b5 ?_;have a0:=HX.o.d;refine Be 0 (some 18) (.fieldAddr 59 (.tmp 1) 1) (Value.pointer (some ⟨w.heap.size,1,none⟩)) ?hy a0 ?_;case hy=>rintro o f w' I;have k0:=I.c0;have k1:=I.c1;go_simp
  simp only[zq];refine Be 1 (some 19) (.load 40 (.tmp 18)) (Value.slice (some ⟨g,E,none⟩) m cap) ?hy a0 ?_;case hy=>rintro o f w' I;have k0:=I.c0;have k1:=I.c1;go_simp
  simp only[zq];refine Be 3 (some 21) (.fieldAddr 59 (.tmp 1) 1) (Value.pointer (some ⟨w.heap.size,1,none⟩)) ?hy a0 ?_;case hy=>rintro o f w' I;have k0:=I.c0;have k1:=I.c1;go_simp
  simp only[zq];refine Be 4 (some 22) (.load 40 (.tmp 21)) (Value.slice (some ⟨g,E,none⟩) m cap) ?hy a0 ?_;case hy=>rintro o f w' I;have k0:=I.c0;have k1:=I.c1;go_simp
  simp only[zq];refine Mj 2 7 (some 20) (.call { callee:=.value (.func 113),args:=#[.tmp 19,.const (.int .i64 0)],argTypes:=#[40,3] }) (some 4) (.alloc 157) rfl rfl (by kernel_rfl) ?_ ?_
  .rintro o K B f J r;refine Dp (enters_of func113 (by kernel_rfl) rfl) f (vs:=#[(.slice (some ⟨g,E,none⟩) m cap),.int .i64 0]) (by kernel_rfl) (HZ.o 0 W0.drew (by omega) (by omega) a0) ?_;rintro e W1 ⟨he,an,ay⟩;refine⟨_,he,?_⟩;rw[B];refine r _ _ (λ _=>an) ?_;clear f B J r he;simp only[zq];refine Mj 5 7 (some 23) (.call { callee:=.value (.func 113),args:=#[.tmp 22,.const (.int .i64 2)],argTypes:=#[40,3] }) (some 4) (.alloc 157) rfl rfl (by kernel_rfl) ?_ ?_
   .rintro o K B f J r;refine Dp (enters_of func113 (by kernel_rfl) rfl) f (vs:=#[(.slice (some ⟨g,E,none⟩) m cap),.int .i64 2]) (by kernel_rfl) (HZ.o 2 W1 (by omega) (by omega) an) ?_;rintro e W2 ⟨he,ac,ad⟩;refine⟨_,he,?_⟩;rw[B];refine r _ _ (λ _=>ac) ?_;clear f B J r he;simp only[zq];refine Be 6 (some 24) (.build 157 #[(0,.tmp 20),(1,.tmp 23)]) (Value.agg (A6 (F 0) (F 2) AK AK).toArray) ?hy ac ?_;case hy=>rintro o f w' I;have k0:=I.c0;have k1:=I.c1;go_simp
    simp only[zq];refine Ae 7 (some 4) (.alloc 157) ?_;rintro o K B f J r;refine Qk f ?_;rintro W3 q hq b0 aq;rw[B];have ax:=ac.on aq;(have HQ:Hid (w.heap.size+1<q):=by show _<_;rw[<-hq];have:=ac.ge;omega);refine r _ _ (λ _=>ax) ?_;clear f B J r hq;simp only[zq];refine Ae 8 none (.store 157 (.tmp 4) (.tmp 24)) ?_;rintro o K B f J r;refine GP (cs:=A6 0 0 AK AK) (vs:=A6 (F 0) (F 2) AK AK) f rfl rfl b0 rfl MN (by simp[Value.oneCell']) ?_;rw[B];refine r _ _ (λ e=>absurd rfl e) ?_;refine Cx (by kernel_rfl) ?_ _;clear f B J r;simp only[zq]
    (have a4:Hid (BY w (W3.setCells q 0 (A6 (F 0) (F 2) AK AK)) (.slice (some ⟨g,E,none⟩) m cap)/\w.heap.size+1<q/\Hv (W3.setCells q 0 (A6 (F 0) (F 2) AK AK)) q (F 0) (F 2) AK AK):=by have t:=GM W3 q (A6 (F 0) (F 2) AK AK) 0;have hq:=HQ.o;exact⟨ax.tq t (λ e=>by omega) (λ e=>by omega) (by omega),hq,b0.put _ rfl⟩);generalize W3.setCells q 0 (A6 (F 0) (F 2) AK AK)=WF at a4 |-
    clear b0 ax;go_wp2_with fail
    go_meet
    exact⟨q,rfl,a4⟩
   .rintro o K B f J r;refine Qk f ?_;rintro W4 q hq bw be;rw[B];have b7:=an.on be;(have HQ:Hid (w.heap.size+1<q):=by show _<_;rw[<-hq];have:=an.ge;omega);refine r _ _ (λ _=>b7) ?_;clear f B J r hq;simp only[zq];refine Ae 5 (some 23) (.call { callee:=.value (.func 113),args:=#[.tmp 22,.const (.int .i64 2)],argTypes:=#[40,3] }) ?_;rintro o K B f J r;refine Dp (enters_of func113 (by kernel_rfl) rfl) f (vs:=#[(.slice (some ⟨g,E,none⟩) m cap),.int .i64 2]) (by kernel_rfl) (HZ.o 2 W4 (by omega) (by omega) b7) ?_;rintro e W5 ⟨he,ao,bf⟩;refine⟨_,he,?_⟩;rw[B];refine r _ _ (λ _=>ao) ?_;clear f B J r he;simp only[zq];have b2:=bw.on bf
    refine Be 6 (some 24) (.build 157 #[(0,.tmp 20),(1,.tmp 23)]) (Value.agg (A6 (F 0) (F 2) AK AK).toArray) ?hy ao ?_;case hy=>rintro o f w' I;have k0:=I.c0;have k1:=I.c1;go_simp
    (simp only[zq];refine Ae 8 none (.store 157 (.tmp 4) (.tmp 24)) ?_;rintro o K B f J r;refine GP (cs:=A6 0 0 AK AK) (vs:=A6 (F 0) (F 2) AK AK) f rfl rfl b2 rfl MN (by simp[Value.oneCell']) ?_;rw[B];refine r _ _ (λ e=>absurd rfl e) ?_;refine Cx (by kernel_rfl) ?_ _;clear f B J r;simp only[zq];have a4:Hid (BY w (W5.setCells q 0 (A6 (F 0) (F 2) AK AK)) (.slice (some ⟨g,E,none⟩) m cap)/\w.heap.size+1<q/\Hv (W5.setCells q 0 (A6 (F 0) (F 2) AK AK)) q (F 0) (F 2) AK AK):=by have t:=GM W5 q (A6 (F 0) (F 2) AK AK) 0;have hq:=HQ.o;exact⟨ao.tq t (λ e=>by omega) (λ e=>by omega) (by omega),hq,b2.put _ rfl⟩);generalize W5.setCells q 0 (A6 (F 0) (F 2) AK AK)=WF at a4 |-
    clear b2 ao;go_wp2_with fail
    go_meet
    exact⟨q,rfl,a4⟩
  .rintro o K B f J r;refine Qk f ?_;rintro W6 q hq bx bg;rw[B];have b8:=a0.on bg;(have HQ:Hid (w.heap.size+1<q):=by show _<_;rw[<-hq];have:=a0.ge;omega);refine r _ _ (λ _=>b8) ?_;clear f B J r hq;simp only[zq];refine Ae 2 (some 20) (.call { callee:=.value (.func 113),args:=#[.tmp 19,.const (.int .i64 0)],argTypes:=#[40,3] }) ?_;rintro o K B f J r;refine Dp (enters_of func113 (by kernel_rfl) rfl) f (vs:=#[(.slice (some ⟨g,E,none⟩) m cap),.int .i64 0]) (by kernel_rfl) (HZ.o 0 W6 (by omega) (by omega) b8) ?_;rintro e W7 ⟨he,b9,bh⟩;refine⟨_,he,?_⟩;rw[B];refine r _ _ (λ _=>b9) ?_;clear f B J r he;simp only[zq];have bz:=bx.on bh
   refine Ae 5 (some 23) (.call { callee:=.value (.func 113),args:=#[.tmp 22,.const (.int .i64 2)],argTypes:=#[40,3] }) ?_;rintro o K B f J r;refine Dp (enters_of func113 (by kernel_rfl) rfl) f (vs:=#[(.slice (some ⟨g,E,none⟩) m cap),.int .i64 2]) (by kernel_rfl) (HZ.o 2 W7 (by omega) (by omega) b9) ?_;rintro e W8 ⟨he,ap,bi⟩;refine⟨_,he,?_⟩;rw[B];refine r _ _ (λ _=>ap) ?_;clear f B J r he;simp only[zq];have b4:=bz.on bi;refine Be 6 (some 24) (.build 157 #[(0,.tmp 20),(1,.tmp 23)]) (Value.agg (A6 (F 0) (F 2) AK AK).toArray) ?hy ap ?_;case hy=>rintro o f w' I;have k0:=I.c0;have k1:=I.c1;go_simp
   (simp only[zq];refine Ae 8 none (.store 157 (.tmp 4) (.tmp 24)) ?_;rintro o K B f J r;refine GP (cs:=A6 0 0 AK AK) (vs:=A6 (F 0) (F 2) AK AK) f rfl rfl b4 rfl MN (by simp[Value.oneCell']) ?_;rw[B];refine r _ _ (λ e=>absurd rfl e) ?_;refine Cx (by kernel_rfl) ?_ _;clear f B J r;simp only[zq];have a4:Hid (BY w (W8.setCells q 0 (A6 (F 0) (F 2) AK AK)) (.slice (some ⟨g,E,none⟩) m cap)/\w.heap.size+1<q/\Hv (W8.setCells q 0 (A6 (F 0) (F 2) AK AK)) q (F 0) (F 2) AK AK):=by have t:=GM W8 q (A6 (F 0) (F 2) AK AK) 0;have hq:=HQ.o;exact⟨ap.tq t (λ e=>by omega) (λ e=>by omega) (by omega),hq,b4.put _ rfl⟩);generalize W8.setCells q 0 (A6 (F 0) (F 2) AK AK)=WF at a4 |-
   clear b4 ap;go_wp2_with fail
   go_meet
   exact⟨q,rfl,a4⟩
 case rest=>
  obtain⟨b,rfl,HC⟩:=hcut;have x1:=HC.o.1;have ba:=HC.o.2.2.at 0;have ay:=HC.o.2.2.at 1;have ad:=HC.o.2.2.at 2;have aq:=HC.o.2.2.at 3;simp only[zc1,zb1]at ba ay ad aq;have j1:=x1.c1;have c4:wc.cell? ⟨g,E+4,none⟩=some (.int .u8 (T:Int)):=by rw[x1.bl.cell (p:=⟨g,E+4,none⟩) J,<-a9.o];exact hc 4 (by omega)
  have q0:=x1.rs.at 0;have q1:=x1.rs.at 1;have q2:=x1.rs.at 2;have q3:=x1.rs.at 3;simp only[zc1,zb1]at q0 q1 q2 q3;have z0:=x1.rs.fz 0;have z1:=x1.rs.fz 1;have z2:=x1.rs.fz 2;have z3:=x1.rs.fz 3
  have a6:Hid ((loadVar 157 ⟨w.heap.size+1,0,none⟩).run prog ((((wc.setCell ⟨w.heap.size+1,0,none⟩ (.int .i64 0)).setCell ⟨w.heap.size+1,1,none⟩ (.int .i64 0)).setCell ⟨w.heap.size+1,2,none⟩ AK).setCell ⟨w.heap.size+1,3,none⟩ AK)=.ok (DV 0 0 AK AK) ((((wc.setCell ⟨w.heap.size+1,0,none⟩ (.int .i64 0)).setCell ⟨w.heap.size+1,1,none⟩ (.int .i64 0)).setCell ⟨w.heap.size+1,2,none⟩ AK).setCell ⟨w.heap.size+1,3,none⟩ AK)/\Below w.heap.size w ((((wc.setCell ⟨w.heap.size+1,0,none⟩ (.int .i64 0)).setCell ⟨w.heap.size+1,1,none⟩ (.int .i64 0)).setCell ⟨w.heap.size+1,2,none⟩ AK).setCell ⟨w.heap.size+1,3,none⟩ AK)):=
   ⟨MM ((((x1.rs.set 0 _).set 1 _).set 2 _).set 3 _),(((x1.bl.setCell (p:=⟨w.heap.size+1,0,none⟩) (by show w.heap.size<=w.heap.size+1;omega) _).setCell (p:=⟨w.heap.size+1,1,none⟩) (by show w.heap.size<=w.heap.size+1;omega) _).setCell (p:=⟨w.heap.size+1,2,none⟩) (by show w.heap.size<=w.heap.size+1;omega) _).setCell (p:=⟨w.heap.size+1,3,none⟩) (by show w.heap.size<=w.heap.size+1;omega) _⟩
  have av:Hid ((loadVar 157 ⟨w.heap.size+1,0,none⟩).run prog ((((wc.setCell ⟨w.heap.size+1,0,none⟩ (.int .i64 0)).setCell ⟨w.heap.size+1,1,none⟩ (.int .i64 0)).setCell ⟨w.heap.size+1,2,none⟩ AK).setCell ⟨w.heap.size+1,3,none⟩ AK).drew=.ok (DV 0 0 AK AK) ((((wc.setCell ⟨w.heap.size+1,0,none⟩ (.int .i64 0)).setCell ⟨w.heap.size+1,1,none⟩ (.int .i64 0)).setCell ⟨w.heap.size+1,2,none⟩ AK).setCell ⟨w.heap.size+1,3,none⟩ AK).drew/\Below w.heap.size w ((((wc.setCell ⟨w.heap.size+1,0,none⟩ (.int .i64 0)).setCell ⟨w.heap.size+1,1,none⟩ (.int .i64 0)).setCell ⟨w.heap.size+1,2,none⟩ AK).setCell ⟨w.heap.size+1,3,none⟩ AK).drew):=
   ⟨MM ((((x1.rs.set 0 _).set 1 _).set 2 _).set 3 _:Hv ((((wc.setCell ⟨w.heap.size+1,0,none⟩ (.int .i64 0)).setCell ⟨w.heap.size+1,1,none⟩ (.int .i64 0)).setCell ⟨w.heap.size+1,2,none⟩ AK).setCell ⟨w.heap.size+1,3,none⟩ AK) _ _ _ _ _),b1 a6.o.2⟩
  have cf:(4:Int)<(m:Int):=by omega
  have ar:Hid (Ba ys 0=F 0):=hF.o 0;by_cases c9:F 0<1
  .have a8:Hid (¬H9 ys):=λ e=>by have:=e.2.1;rw[ar.o]at this;omega
   go_wp2_with fail;refine bodyPost_ret (Hh (p:=2) (u:=3) (ty:=157) rfl _ _ _ (w.heap.size+1) _ _ rfl a6.o.1 rfl) rfl ?_;exact⟨a6.o.2,.inl ⟨a8.o,rfl⟩⟩
  by_cases ca:512<F 0
  .have a8:Hid (¬H9 ys):=λ e=>by have:=e.2.2;rw[ar.o]at this;omega
   go_wp2_with fail;refine bodyPost_ret (Hh (p:=2) (u:=3) (ty:=157) rfl _ _ _ (w.heap.size+1) _ _ rfl a6.o.1 rfl) rfl ?_;exact⟨a6.o.2,.inl ⟨a8.o,rfl⟩⟩
  have bd:Hid (1<=F 0/\F 0<=512):=by show _/\_;omega
  by_cases h2:2<(T:Int)
  .have a8:Hid (¬H9 ys):=λ e=>by have:=e.1.2.2.1;have h:=a9.o;omega
   go_wp2_with fail;refine bodyPost_ret (Hh (p:=2) (u:=3) (ty:=157) rfl _ _ _ (w.heap.size+1) _ _ rfl a6.o.1 rfl) rfl ?_;exact⟨a6.o.2,.inl ⟨a8.o,rfl⟩⟩
  have HM:=AU (UF (F 2) af.o.1 af.o.2 wc);obtain⟨mf,az⟩:=exN (Dc (F 2));rw[az]at HM;by_cases h3:(T:Int)=mf
  .subst h3;have HR:Hid (∀W,Calls prog 100 #[.int .i64 (T:Int)] W λ e w'=>e=.returned (.int .i64 (235-2*(T:Int)))/\w'=W):=λ W=>Pn T (by omega) W;go_wp2_with fail;refine HM.o.mono ?_;rintro e w' ⟨rfl,hw⟩;replace hw:=hw.symm;subst hw;clear HM
   go_upto_region 8 with fail
   (obtain⟨L,bb⟩:=exN ((if 235-2*(T:Int)<F 2 then 235-2*(T:Int)else F 2));(have ag:Hid (L=min (F 2) (235-2*(T:Int))):=by show _=_;rw[<-bb];split<;>omega);have ci:min (F 2) (235-2*(T:Int))=L:=ag.o.symm;have co:IntKind.i64.wrap (5+2*(T:Int)+L)=5+2*(T:Int)+L:=by have:=af.o;rw[IntKind.wrap_i64,<-bb];split<;>omega);by_cases hl:(m:Int)=5+2*(T:Int)+L
   .have bq:((m:Int) != 5+2*(T:Int)+L)=false:=by simpa using hl
    (have b6:Hid (H9 ys):=by refine⟨⟨rfl,by rw[au.o];exact h5,by rw[a9.o];omega,by rw[a9.o,HF.o,az],?_⟩,by rw[ar.o];exact bd.o⟩;rw[a9.o,HF.o,au.o,hl,ag.o]);have HL:=z6 hl;have cn:=Bp (2*(T:Int)) (by omega) (by omega);clear hl;go_wp2_with fail
    go_region_held3 (λ W=>W.cell? ⟨w.heap.size,1,none⟩=some (.slice (some ⟨g,E,none⟩) m cap)/\W.cell? ⟨b,1,none⟩=some (.int .i64 (F 2))) (go_keep)
     (first|(go_at_call 100;refine(HR.o _).mono ?_;rintro e w' ⟨rfl,rfl⟩))
    have aj:Hid (BY w wc.drew (.slice (some ⟨g,E,none⟩) m cap)/\Hv wc.drew b (F 0) (F 2) AK AK/\w.heap.size+1<b):=⟨x1.d,HC.o.2.2.on (Below.of_drewN _ wc 1),HC.o.2.1⟩
    clear ba ay ad aq q0 q1 q2 q3 z0 z1 z2 z3 j1 c4 x1 a6 av HC HR;go_wp2_with fail
    go_loopw [66] (λ kv wr=>∃(k:Nat)(ma:Option Addr)(L mc:Nat),k<=T/\kv=.int .i64 (k:Int)/\Hid (BY w wr (.slice (some ⟨g,E,none⟩) m cap)/\Hv wr b (F 0) (F 2) (.slice ma L mc) AK/\AF .i64 3 wr (.slice ma L mc) (Ep ys k)/\∀j,(Value.slice ma L mc).ownBlock=some j->w.heap.size<=j)) (λ kv _=>T-(intOf kv).toNat)
    (case atStart=>exact⟨0,none,0,0,AI _,rfl,aj.o.1,aj.o.2.1,CB _ _ _,λ j hj=>by cases hj⟩);case round=>
     obtain⟨k,ma,L,mc,hk,rfl,U⟩:=hrel;by_cases br:k<T
     .have bp:5+2*(k:Int)+1<(m:Int):=by have e1:=HL.o;have e2:=ag.o;have e3:=af.o;omega
      have cl:IntKind.i64.wrap (2*(k:Int))=2*(k:Int):=Bp _ (by omega) (by omega);have cm:IntKind.i64.wrap (5+2*(k:Int))=5+2*(k:Int):=Bp _ (by omega) (by omega);have bn:F (5+2*(k:Int))=Ba ys (5+2*k):=by rw[hF.o];congr 1
      go_upto_region 13 with fail
      (have b5:prog.follows .mixedOrders=true:=by kernel_rfl);refine Dz (S:=λ W=>BY w W (.slice (some ⟨g,E,none⟩) m cap)/\Hv W b (F 0) (F 2) (.slice ma L mc) AK) (t:=11) b5 ?_;have a0:BY w wr.drew (.slice (some ⟨g,E,none⟩) m cap)/\Hv wr.drew b (F 0) (F 2) (.slice ma L mc) AK:=⟨U.o.1.d,U.o.2.1.on (Below.of_drewN _ wr 1)⟩
      (have O0:AF .i64 3 wr.drew (.slice ma L mc) (Ep ys k):=U.o.2.2.1.below (Below.of_drewN _ wr 1);refine Be 0 (some 69) (.fieldAddr 157 (.tmp 4) 2) (Value.pointer (some ⟨b,2,none⟩)) ?hy a0 ?_;case hy=>rintro o f w' I;obtain⟨a1,a2⟩:=I;have k1:=a1.c1;have k2:=a2.at 2;simp only[zc1,zb1]at k2;go_simp);simp only[zq];refine Be 1 (some 70) (.load 23 (.tmp 69)) (Value.slice ma L mc) ?hy a0 ?_;case hy=>rintro o f w' I;obtain⟨a1,a2⟩:=I;have k1:=a1.c1;have k2:=a2.at 2;simp only[zc1,zb1]at k2;go_simp
      (simp only[zq];refine Be 2 (some 71) (.fieldAddr 59 (.tmp 1) 1) (Value.pointer (some ⟨w.heap.size,1,none⟩)) ?hy a0 ?_;case hy=>rintro o f w' I;obtain⟨a1,a2⟩:=I;have k1:=a1.c1;have k2:=a2.at 2;simp only[zc1,zb1]at k2;go_simp);(simp only[zq];refine Be 3 (some 72) (.load 40 (.tmp 71)) (Value.slice (some ⟨g,E,none⟩) m cap) ?hy a0 ?_;case hy=>rintro o f w' I;obtain⟨a1,a2⟩:=I;have k1:=a1.c1;have k2:=a2.at 2;simp only[zc1,zb1]at k2;go_simp);simp only[zq];refine Be 4 (some 73) (.move (.tmp 7)) (Value.int .i64 (k:Int)) ?hy a0 ?_;case hy=>rintro o f w' I;obtain⟨a1,a2⟩:=I;have k1:=a1.c1;have k2:=a2.at 2;simp only[zc1,zb1]at k2;go_simp
      (simp only[zq];refine Be 5 (some 74) (.binOp .mul 3 (.const (.int .i64 2)) (.tmp 73) 3) (Value.int .i64 (2*(k:Int))) ?hy a0 ?_;case hy=>rintro o f w' I;obtain⟨a1,a2⟩:=I;have k1:=a1.c1;have k2:=a2.at 2;simp only[zc1,zb1]at k2;go_simp);simp only[zq];refine Be 6 (some 75) (.binOp .add 3 (.const (.int .i64 5)) (.tmp 74) 3) (Value.int .i64 (5+2*(k:Int))) ?hy a0 ?_;case hy=>rintro o f w' I;obtain⟨a1,a2⟩:=I;have k1:=a1.c1;have k2:=a2.at 2;simp only[zc1,zb1]at k2;go_simp
      simp only[zq];refine Ae 7 (some 76) (.call { callee:=.value (.func 113),args:=#[.tmp 72,.tmp 75],argTypes:=#[40,3] }) ?_;rintro o K B f J r;refine Dp (enters_of func113 (by kernel_rfl) rfl) f (vs:=#[(.slice (some ⟨g,E,none⟩) m cap),.int .i64 (5+2*(k:Int))]) (by kernel_rfl) (HZ.o (5+2*(k:Int)) wr.drew (by omega) bp a0.1) ?_;rintro e W2 ⟨he,ac,ad⟩;refine⟨_,he,?_⟩;rw[B];have al:BY w W2 (.slice (some ⟨g,E,none⟩) m cap)/\Hv W2 b (F 0) (F 2) (.slice ma L mc) AK:=⟨ac,a0.2.on ad⟩
      have O2:=O0.below ad;refine r _ _ (λ _=>al) ?_;clear f B J r he;simp only[zq];refine Ae 8 (some 77) (.buildSlice 23 1 #[(0,.tmp 76)]) ?_;rintro o K B f J r;refine Wu f rfl ?_;rw[B];obtain⟨W3,am⟩:=exN (W2.alloc (.cells #[.int .i64 (F (5+2*(k:Int)))] 3));(have b3:Below W2.heap.size W2 W3:=by rw[<-am];exact(Below.refl _ _).alloc (AE _) _);have R3:Rd .i64 W3 (.slice (some ⟨W2.heap.size,0,none⟩) 1 1) [F (5+2*(k:Int))]:=by refine⟨_,1,rfl,AE _,by unfold maxLen;omega,λ e=>(by cases e),.inr ⟨W2.heap.size,0,rfl,λ i hi=>?_⟩⟩;(obtain rfl:i=0:=by simpa using hi);rw[<-am,cell_of_row _ _ _ _ _ (0,0) (heap_alloc_new W2 _)];rfl
      rw[am];have a5:BY w W3 (.slice (some ⟨g,E,none⟩) m cap)/\Hv W3 b (F 0) (F 2) (.slice ma L mc) AK:=⟨al.1.on b3,al.2.on b3⟩
      have O3:=O2.below b3;refine r _ _ (λ _=>a5) ?_;clear f B J r am;simp only[zq];refine Ae 9 (some 78) (.call { callee:=.builtin .append,args:=#[.tmp 70,.tmp 77],argTypes:=#[23,23] }) ?_;rintro o K B f J r;refine AIY f rfl O3 rfl R3 (by simp[Ep];omega) ?_;intro v4 W4 O4 G4;(obtain⟨wa,wn,a7,rfl⟩:∃a n c,v4=.slice a n c:=by obtain⟨a,c,e,_⟩:=O4.rd;exact⟨_,_,_,e⟩);rw[B];have ab:BY w W4 (.slice (some ⟨g,E,none⟩) m cap)/\Hv W4 b (F 0) (F 2) (.slice ma L mc) AK:=by refine⟨⟨a5.1.bl.trans (G4.tch.below a5.1.bl.size (λ j hj=>U.o.2.2.2 j hj)),a5.1.bk.tch G4.tch (O3.neV a5.1.bk (by decide)),a5.1.rs.tch G4.tch (O3.neV a5.1.rs (by decide))⟩,a5.2.tch G4.tch (O3.neV a5.2 (by decide))⟩
      have N4:∀j,(Value.slice wa wn a7).ownBlock=some j->w.heap.size<=j:=λ j hj=>(G4.fresh j hj).elim (U.o.2.2.2 j) (λ e=>Aw a5.1.bl.size e);refine r _ _ (λ _=>ab) ?_;clear f B J r;simp only[zq];refine Be 10 (some 79) (.fieldAddr 157 (.tmp 4) 2) (Value.pointer (some ⟨b,2,none⟩)) ?hy ab ?_;case hy=>rintro o f w' I;obtain⟨a1,a2⟩:=I;have k1:=a1.c1;have k2:=a2.at 2;simp only[zc1,zb1]at k2;go_simp
      simp only[zq];refine Ae 11 none (.store 23 (.tmp 79) (.tmp 78)) ?_;rintro o K B f J r;refine AIe (.inl rfl) f rfl rfl ab.2 (by simp) ?_;rw[B];refine r _ _ (λ e=>absurd rfl e) ?_;refine Cx (by kernel_rfl) ?_ _;clear f B J r;simp only[zq];have a4:Hid (BY w (W4.setCell ⟨b,2,none⟩ (.slice wa wn a7)) (.slice (some ⟨g,E,none⟩) m cap)/\Hv (W4.setCell ⟨b,2,none⟩ (.slice wa wn a7)) b (F 0) (F 2) (.slice wa wn a7) AK/\AF .i64 3 (W4.setCell ⟨b,2,none⟩ (.slice wa wn a7)) (.slice wa wn a7) (Ep ys (k+1))/\∀j,(Value.slice wa wn a7).ownBlock=some j->w.heap.size<=j):=by
       (have t:=Fl W4 b 2 (.slice wa wn a7);have bj:=aj.o.2.2;have e:Ep ys (k+1)=Ep ys k++[F (5+2*(k:Int))]:=by rw[bn];simp[Ep,List.range_succ]);rw[e];exact⟨ab.1.tq t (λ e=>by omega) (λ e=>by omega) (by omega),ab.2.set 2 _,O4.tch t (λ j hj e=>O4.neV ab.2 (by decide) (by rw[hj,e])),N4⟩
      generalize W4.setCell ⟨b,2,none⟩ (.slice wa wn a7)=WF at a4 |-
      clear ab O4 G4 a5 O3 R3 al O2 ac ad O0 N4 b3;go_wp2_with fail;exact⟨⟨k+1,wa,wn,a7,by omega,rfl,a4⟩,by simp[intOf];omega⟩
     .obtain rfl:k=T:=by omega
      clear hk br;have yb:=U.o.1.c1;have bj:=aj.o.2.2;(have bm:5+2*k<=m:=by have e1:=HL.o;have e2:=ag.o;have e3:=af.o;omega);(have cg:m<=cap:=by obtain⟨_,_,_,e,h,_⟩:=HO.o;simp only[Value.slice.injEq]at e;rw[<-e.2.1,<-e.2.2]at h;exact h);have OW:A4 wr (.slice (some ⟨g,E,none⟩) m cap) ys:=by refine HO.o.tch (AD.of_below (S:=λ _=>False) U.o.1.bl) (λ _ _ e=>e)
      (have bu:Hid ((Cw ys).more=Ep ys k):=by show Ep ys _=_;rw[a9.o];rfl);have bo:Hid ((Cw ys).fst=ys.drop (5+2*k)):=by show ys.drop (5+2*(ys.getD 4 0).toNat)=_;rw[a9.o];rfl
      have ak:Hid (∀W' X Z Y,Below wr.heap.size wr W'->A4 W' (.slice X Z Y) (ys.drop (5+2*k))->(∀j,(Value.slice X Z Y).ownBlock=some j->wr.heap.size<=j)->(loadVar 157 ⟨w.heap.size+1,0,none⟩).run prog (((((W'.setCell ⟨b,3,none⟩ (.slice X Z Y)).setCell ⟨w.heap.size+1,0,none⟩ (.int .i64 (F 0))).setCell ⟨w.heap.size+1,1,none⟩ (.int .i64 (F 2))).setCell ⟨w.heap.size+1,2,none⟩ (.slice ma L mc)).setCell ⟨w.heap.size+1,3,none⟩ (.slice X Z Y))=.ok (DV (F 0) (F 2) (.slice ma L mc) (.slice X Z Y)) (((((W'.setCell ⟨b,3,none⟩ (.slice X Z Y)).setCell ⟨w.heap.size+1,0,none⟩ (.int .i64 (F 0))).setCell ⟨w.heap.size+1,1,none⟩ (.int .i64 (F 2))).setCell ⟨w.heap.size+1,2,none⟩ (.slice ma L mc)).setCell ⟨w.heap.size+1,3,none⟩ (.slice X Z Y))/\Below w.heap.size w (((((W'.setCell ⟨b,3,none⟩ (.slice X Z Y)).setCell ⟨w.heap.size+1,0,none⟩ (.int .i64 (F 0))).setCell ⟨w.heap.size+1,1,none⟩ (.int .i64 (F 2))).setCell ⟨w.heap.size+1,2,none⟩ (.slice ma L mc)).setCell ⟨w.heap.size+1,3,none⟩ (.slice X Z Y))/\AF .i64 3 (((((W'.setCell ⟨b,3,none⟩ (.slice X Z Y)).setCell ⟨w.heap.size+1,0,none⟩ (.int .i64 (F 0))).setCell ⟨w.heap.size+1,1,none⟩ (.int .i64 (F 2))).setCell ⟨w.heap.size+1,2,none⟩ (.slice ma L mc)).setCell ⟨w.heap.size+1,3,none⟩ (.slice X Z Y)) (.slice ma L mc) (Cw ys).more/\A4 (((((W'.setCell ⟨b,3,none⟩ (.slice X Z Y)).setCell ⟨w.heap.size+1,0,none⟩ (.int .i64 (F 0))).setCell ⟨w.heap.size+1,1,none⟩ (.int .i64 (F 2))).setCell ⟨w.heap.size+1,2,none⟩ (.slice ma L mc)).setCell ⟨w.heap.size+1,3,none⟩ (.slice X Z Y)) (.slice X Z Y) (Cw ys).fst):=λ W' X Z Y hB f hb=>by
       rw[bu.o,bo.o];have O:=U.o.1.on hB;have V2:=U.o.2.1.on hB;have O2:=U.o.2.2.1.below hB;have t1:=Fl W' b 3 (.slice X Z Y);have c2:=O.rs.tch t1 (λ e=>by omega);have t2:=((((Fl (W'.setCell ⟨b,3,none⟩ (.slice X Z Y)) (w.heap.size+1) 0 (.int .i64 (F 0))).trans (Fl _ _ 1 (.int .i64 (F 2))) (λ _ _ e=>e)).trans (Fl _ _ 2 (.slice ma L mc)) (λ _ _ e=>e)).trans (Fl _ _ 3 (.slice X Z Y)) (λ _ _ e=>e))
       have tt:=(t1.mono (S':=λ j=>j=b\/j=w.heap.size+1) (λ _ _ e=>.inl e)).trans t2 (λ _ _ e=>.inr e);have cc:=U.o.2.1.lt;have ck:=U.o.1.rs.lt;refine⟨MM ((((c2.set 0 _).set 1 _).set 2 _).set 3 _),O.bl.trans (tt.below O.bl.size (λ j e=>by omega)),O2.tch tt (λ j hj e=>?_),f.tch tt (λ j hj e=>by have:=hb j hj;omega)⟩;rcases e with rfl|rfl;exact O2.neV V2 (by decide) hj;exact O2.neV O.rs (by decide) hj
      go_wp2_with fail
      .refine(Nt (OW.cut0 (by omega)).rd (by omega)).mono ?_;rintro e W' ⟨rv,rfl,ae,aa,ai⟩;(obtain⟨X,Z,Y,rfl⟩:∃a n c,rv=.slice a n c:=by obtain⟨a,c,e,_⟩:=ae.rd;exact⟨_,_,_,e⟩);have a3:=z6 (And.intro aa (And.intro ae ai));have O:=U.o.1.on aa;have V2:=U.o.2.1.on aa;clear aa ae ai yb;have y0:=V2.at 0;have v0:=V2.fz 0;have r0:=O.rs.at 0;have s0:=O.rs.fz 0;have y1:=V2.at 1;have v1:=V2.fz 1;have r1:=O.rs.at 1;have s1:=O.rs.fz 1;have y2:=V2.at 2;have v2:=V2.fz 2;have r2:=O.rs.at 2;have s2:=O.rs.fz 2;have y3:=V2.at 3;have v3:=V2.fz 3;have r3:=O.rs.at 3;have s3:=O.rs.fz 3;simp only[zc1,zb1]at y0 y1 y2 y3 r0 r1 r2 r3;clear O V2;go_wp2_with fail;have A:=ak.o W' X Z Y a3.o.1 a3.o.2.1 a3.o.2.2
       have AH:=z6 A.2;have AL:=A.1;clear A ak;refine bodyPost_ret (Hh (p:=2) (u:=3) (ty:=157) rfl _ _ _ (w.heap.size+1) _ _ rfl AL rfl) rfl ?_;exact⟨AH.o.1,.inr ⟨b6.o,_,_,rfl,AH.o.2.1,U.o.2.2.2,AH.o.2.2,λ j hj=>⟨by have h1:=a3.o.2.2 j hj;have h2:=U.o.1.bl.size;omega,λ e=>by have h1:=a3.o.2.2 j hj;have h2:=U.o.2.2.1.lt j e;omega⟩⟩⟩
      .refine(Nt (OW.cutN bm).rd (by omega)).mono ?_;rintro e W' ⟨rv,rfl,ae,aa,ai⟩;(obtain⟨X,Z,Y,rfl⟩:∃a n c,rv=.slice a n c:=by obtain⟨a,c,e,_⟩:=ae.rd;exact⟨_,_,_,e⟩);have a3:=z6 (And.intro aa (And.intro ae ai));have O:=U.o.1.on aa;have V2:=U.o.2.1.on aa;clear aa ae ai yb;have y0:=V2.at 0;have v0:=V2.fz 0;have r0:=O.rs.at 0;have s0:=O.rs.fz 0;have y1:=V2.at 1;have v1:=V2.fz 1;have r1:=O.rs.at 1;have s1:=O.rs.fz 1;have y2:=V2.at 2;have v2:=V2.fz 2;have r2:=O.rs.at 2;have s2:=O.rs.fz 2;have y3:=V2.at 3;have v3:=V2.fz 3;have r3:=O.rs.at 3;have s3:=O.rs.fz 3;simp only[zc1,zb1]at y0 y1 y2 y3 r0 r1 r2 r3;clear O V2;go_wp2_with fail;have A:=ak.o W' X Z Y a3.o.1 a3.o.2.1 a3.o.2.2;have AH:=z6 A.2
       have AL:=A.1;clear A ak;refine bodyPost_ret (Hh (p:=2) (u:=3) (ty:=157) rfl _ _ _ (w.heap.size+1) _ _ rfl AL rfl) rfl ?_;exact⟨AH.o.1,.inr ⟨b6.o,_,_,rfl,AH.o.2.1,U.o.2.2.2,AH.o.2.2,λ j hj=>⟨by have h1:=a3.o.2.2 j hj;have h2:=U.o.1.bl.size;omega,λ e=>by have h1:=a3.o.2.2 j hj;have h2:=U.o.2.2.1.lt j e;omega⟩⟩⟩
   .have bq:((m:Int) != 5+2*(T:Int)+L)=true:=by simpa using hl
    (have a8:Hid (¬H9 ys):=λ e=>by have h:=e.1.2.2.2.2;rw[a9.o,HF.o,au.o,<-ag.o]at h;exact hl h);clear hl;go_wp2_with fail
    go_region_held3 (λ W=>W.cell? ⟨w.heap.size,1,none⟩=some (.slice (some ⟨g,E,none⟩) m cap)/\W.cell? ⟨b,1,none⟩=some (.int .i64 (F 2))) (go_keep)
     (first|(go_at_call 100;refine(HR.o _).mono ?_;rintro e w' ⟨rfl,rfl⟩))
    go_wp2_with fail;refine bodyPost_ret (Hh (p:=2) (u:=3) (ty:=157) rfl _ _ _ (w.heap.size+1) _ _ rfl av.o.1 rfl) rfl ?_;exact⟨av.o.2,.inl ⟨a8.o,rfl⟩⟩
  .have c6:((T:Int) != mf)=true:=by simpa using h3
   (have a8:Hid (¬H9 ys):=λ e=>by have h:=e.1.2.2.2.1;have h':=a9.o;have hf:=HF.o;rw[hf,az,h']at h;exact h3 h);go_wp2_with fail;refine HM.o.mono ?_;rintro e w' ⟨rfl,rfl⟩;go_wp2_with fail;refine bodyPost_ret (Hh (p:=2) (u:=3) (ty:=157) rfl _ _ _ (w.heap.size+1) _ _ rfl a6.o.1 rfl) rfl ?_;exact⟨a6.o.2,.inl ⟨a8.o,rfl⟩⟩
