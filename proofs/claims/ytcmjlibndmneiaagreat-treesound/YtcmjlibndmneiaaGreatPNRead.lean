import Derived.Test.YtcmjlibndmneiaaGreatPNRPut
import Derived.Test.YtcmjlibndmneiaaGreatPBReg
set_option maxRecDepth 100000
set_option linter.all false
set_option maxHeartbeats 8000000
namespace Go.Proofs.YtcmjlibndmneiaaGreat
open Go.RowKit Pl
theorem zxn9:(Tryz.prog.info? 235).map (·.size)=some 2:=by kernel_rfl
def rdN(lf:Bool)(xs:List Int):Pz:=pzN lf (numZ (xs,false)).2 (numZ (xs,false)).1.toNat
def rdOk(p:Pz):Bool:=!p.t.2&&decide (p.t.1.length=0)
def Rs.num{B E:Nat}{w H:World}{g I:Nat}{O Q T:Value}{p:Pz}{K:List Int×Bool}(h:Rs B E w g I O Q T p)(A:Tch (λ k=>k=g) w H)(u:SzX E H g K):Rs B E H g I O Q T ⟨p.n,K⟩/\Below E w H:=
 ⟨⟨u,h.nv.tch A (λ e=>h.gn e.symm),h.k.tch A (λ x u e=>by have:=h.k.ge x u;have:=h.gB;omega),h.v.tch A (λ x u e=>by have:=h.v.ge x u;have:=h.gB;omega),h.d.tch A (λ x u e=>by have:=h.d.ge x u;have:=h.gB;omega),h.ap,h.gn,h.gB,h.nB,h.n0,zn2 h.wB A.size⟩,
  A.below (by have:=h.n0;have:=h.nB;have:=h.wB;omega) (λ k e=>by rw[e];exact h.src.new)⟩
def zkd9(lf:Bool)(v:Value)(xs:List Int)(w:World)(hr:Rd .u8 w v xs)(hb:By xs):
 Calls Tryz.prog 154 #[.bool lf,v] w λ e w'=>(∃v1 v2 v3,e=.returned (.tuple #[nod lf v1 v2 v3,.bool (rdOk (rdN lf xs))])/\Ow3 w.heap.size w' (rdN lf xs).n v1 v2 v3)/\Below w.heap.size w w':=by
 obtain⟨a,cap,rfl,h1,h2,_⟩:=id hr;have HR:=za0 hr;have HY:=za0 hb;obtain⟨L,hL⟩:=exH xs.length;rw[hL.o]at HR h1 |-
 obtain⟨W1,bl⟩:=exN (w.alloc (.cells #[.bool false,.slice none 0 0,.slice none 0 0,.slice none 0 0] 93));have b1:Below w.heap.size w W1:=by rw[<-bl];exact za9 _ _
 have X1:Hid (Nb W1 93 w.heap.size false (.slice none 0 0) (.slice none 0 0) (.slice none 0 0)):=by rw[<-bl];exact nb_new _ _ _ _ _ _
 have B1:=za0 b1;have bi:=za0 (rdS_of (HR.o.below b1));obtain⟨p9,ci⟩:=exH (rdN lf xs);obtain⟨ok,ch⟩:=exH (rdOk p9);rw[ci.o,ch.o];obtain⟨t1,a3⟩:=exH ((numZ (xs,false)).2);have bf:Hid (p9=pzN lf t1 (numZ (xs,false)).1.toNat):=by rw[<-ci.o,<-a3.o];rfl
 clear hr hb h2 b1;unfold nod
 go_enter Tryz.func154,Tryz.ntmps154
 go_wp2_with(first|(refine zd9 _ rfl 235 (.tmp 6) (.tmp 10) rfl _ #[.slice a L cap,.bool false] ?h1 ?h2 zxn9 rfl rfl ?_;(case h1=>rfl);(case h2=>rfl);skip)|(refine zd9 _ rfl 93 (.tmp 7) (.tmp 12) rfl _ #[.bool lf,.slice none 0 0,.slice none 0 0,.slice none 0 0] ?h1 ?h2 zst9 rfl rfl ?_;(case h1=>rfl);(case h2=>rfl);skip))
 obtain⟨W2,av⟩:=exN (W1.alloc (.cells #[.slice a L cap,.bool false] 235));rw[av];obtain⟨W3,aw⟩:=exN (W2.alloc (.cells #[.bool lf,.slice none 0 0,.slice none 0 0,.slice none 0 0] 93));rw[aw];have b2:Below W1.heap.size W1 W2:=by rw[<-av];exact za9 _ _
 have b3:Below W2.heap.size W2 W3:=by rw[<-aw];exact za9 _ _
 have z2:W2.heap.size=W1.heap.size+1:=by rw[<-av];simp
 have z3:W3.heap.size=W2.heap.size+1:=by rw[<-aw];simp
 have s2:W2.heap[W1.heap.size]?=some (.cells #[.slice a L cap,.bool false] 235 (0,0)):=by rw[<-av];exact heap_alloc_new W1 _
 have s3:W3.heap[W1.heap.size]?=some (.cells #[.slice a L cap,.bool false] 235 (0,0)):=by rw[b3.block _ (zd0.1 s2).1];exact s2
 have B3:=za0 (b2.trans (b3.mono b2.size));have bj:Hid (SzX W1.heap.size W3 W1.heap.size (xs,false)):=⟨_,s3,bi.o.below B3.o,HY.o,zn6 _⟩
 have bh:Hid (Nb W3 93 W2.heap.size lf (.slice none 0 0) (.slice none 0 0) (.slice none 0 0)):=by rw[<-aw];exact nb_new _ _ _ _ _ _
 have ad:Hid (W2.heap.size=W1.heap.size+1/\W3.heap.size=W1.heap.size+2):=⟨z2,by omega⟩
 clear b2 b3 s2 s3 z2 z3 bl av aw;obtain⟨n0,ay⟩:=exN W1.heap.size;obtain⟨O,cg⟩:=exN W2.heap.size;obtain⟨B,hB⟩:=exN W3.heap.size;rw[ay]at bj ad bi B3;rw[cg]at bh ad;rw[hB]at ad;rw[ay];rw[show n0+1=O from ad.o.1.symm];have ar:Hid (w.heap.size<n0):=by rw[<-ay];exact X1.o.lt
 have c9:=za0 hB;have ck:=za0 ay;obtain⟨g,H⟩:=exH n0;have cd:Hid (SzX n0 W3 g (xs,false)):=by rw[<-H.o];exact bj.o
 clear ay cg hB bj;rw[H.o];refine(zch9 n0 g (xs,false) W3 cd.o).mono ?_;rintro e w4 ⟨rfl,⟨q0,q1⟩,bw,bc⟩;obtain⟨c,hc⟩:∃c:Nat,(numZ (xs,false)).1=(c:Int):=⟨(numZ (xs,false)).1.toNat,by omega⟩
 rw[hc]at bf q1;rw[a3.o]at bw;have HP:Hid (p9=pzN lf t1 c):=bf.o;have ct:c<=255:=by omega
 have R4:Hid (Rs B n0 w4 g O (.slice none 0 0) (.slice none 0 0) (.slice none 0 0) (pzN lf t1 0)):=by
  have cl:g<B:=by rw[<-H.o];have:=ad.o;omega
  have ce:g≠O:=by rw[<-H.o];have:=ad.o;omega
  exact⟨bw,bh.o.tch bc (λ e=>ce e.symm),zr9 _ _ _,zr9 _ _ _,zr9 _ _ _,(λ j e=>by cases e),ce,cl,by have:=ad.o;omega,by have:=ad.o;omega,by rw[<-c9.o];exact bc.size⟩
 have c6:=za0 (B3.o.trans (bc.below (by rw[c9.o];have:=ad.o;omega) (λ k e=>by rw[e,<-H.o];exact zn6 _)));rw[hc];clear bw bc q0 q1 hc bf cd bh bi B3;go_wp2_with fail
 go_loopw [14] (λ i wr=>∃(k:Nat)(v1 v2 v3:Value),k<=c/\i=.int .i64 k/\Hid (Rs B n0 wr g O v1 v2 v3 (pzN lf t1 k))/\Hid (Below n0 W1 wr)) (λ i _=>c-(intOf i).toNat)
 case atStart=>exact⟨0,_,_,_,zn7 _,rfl,R4,c6⟩
 case round=>
  clear R4 c6;obtain⟨k,v1,v2,v3,hk,rfl,I,BA⟩:=hrel;obtain⟨cw,rfl⟩:∃cw,cw=wr:=⟨_,rfl⟩
  by_cases cz:k<c
  .have bg:Hid (pzN lf t1 (k+1)=pzStep (pzN lf t1 k)):=rfl;have be:=za0 (pzN_lf lf t1 k);(have af:Hid ((pzN lf t1 k).n.ks.length<=255/\(pzN lf t1 k).n.vs.length<=255/\(pzN lf t1 k).n.kd.length<=255):=by have:=zcz9 lf t1 k;show _/\_;omega);obtain⟨pk,cn⟩:=exH (pzN lf t1 k);rw[cn.o]at I bg be af;(obtain⟨a4,a6,a5,e1⟩:∃a l c,v1=.slice a l c:=by obtain⟨a,c,e⟩:=I.o.k.long;exact⟨a,_,c,e⟩);subst e1;have hS:=I.o.nv.c1;have ah:=za0 (I.o.src.below ((Below.refl _ _).drew));have a2:=za0 (zff9 n0 g (pk).t cw.drew ah.o);obtain⟨sx,bq⟩:=exH ((txtZ (pk).t).1);obtain⟨tx,bu⟩:=exH ((txtZ (pk).t).2);rw[bq.o,bu.o]at a2
   (have a1:Hid ((strs (pk).n.ks).length+1<=9223372036854775807/\((strs (pk).n.ks).length+1)*16<=140737488355328):=by show _/\_;rw[zh9];have:=af.o;omega);go_wp2_with fail;refine beginW (S:=λ w'=>w'.cell? ⟨O,1,none⟩=some (.slice a4 a6 a5)) (t:=6) (by kernel_rfl) ?_;refine tkW 0 (some 16) (.fieldAddr 93 (.tmp 7) 1) (Value.pointer (some ⟨O,1,none⟩)) (by rintro o u w' a0;go_simp) hS ?_;simp only[zw];refine tkW 1 (some 17) (.load 91 (.tmp 16)) (Value.slice a4 a6 a5) (by rintro o u w' a0;go_simp) hS ?_;simp only[zw];refine rdW 2 (some 18) (.call { callee:=.value (.func 167),args:=#[.tmp 6],argTypes:=#[235] }) ?_;rintro o K E u H A
   refine zg9 (enters_of Tryz.func167 (by kernel_rfl) rfl) u (vs:=#[.pointer (some ⟨g,0,none⟩)]) (by kernel_rfl) a2.o ?_;rintro e Q ⟨rfl,hx1,a3⟩;refine⟨_,rfl,?_⟩;rw[E];have T:Hid (Tch (λ k=>k=g) cw Q):=(Tch.refl _ cw).drew.trans a3 (λ _ _ e=>e);have a0:=(I.o.nv.tch T.o (λ e=>I.o.gn e.symm)).c1;have ai:=za0 hx1;have aj:(Q.alloc (.cells #[.string sx] 9)).cell? ⟨O,1,none⟩=some (.slice a4 a6 a5):=((I.o.nv.tch T.o (λ e=>I.o.gn e.symm)).below (za9 _ _)).c1;have ag:Hid (OwV B 9 (Q.alloc (.cells #[.string sx] 9)) (.slice a4 a6 a5) (strs (pk).n.ks)):=(I.o.k.tch T.o (λ x hx e=>by have:=I.o.k.ge x hx;have:=I.o.gB;omega)).below (za9 _ _)
   have ae:Hid (B<=(Q.alloc (.cells #[.string sx] 9)).heap.size):=zn2 I.o.wB (zn2 T.o.size (za9 Q _).size);refine A _ _ (λ _=>a0) ?_;clear u E H A hx1 a3;simp only[zw];refine rdW 3 (some 19) (.buildSlice 91 1 #[(0,.tmp 18)]) ?_;rintro o K E u H A;refine zbk9 _ _ _ _ elemS (.tmp 18) u (.string sx) rfl rfl ?_;rw[E];refine A _ _ (λ _=>aj) ?_;clear u E H A;simp only[zw];refine rdW 4 (some 20) (.call { callee:=.builtin .append,args:=#[.tmp 17,.tmp 19],argTypes:=#[91,91] }) ?_;rintro o K E u H A;refine zgp9 _ _ _ _ elemS (w:=Q.alloc (.cells #[.string sx] 9)) (.tmp 17) (.tmp 19) u B _ (strs (pk).n.ks) rfl ag.o Q.heap.size (.string sx) rfl rfl (zdu9 _ _ _) a1.o.1 a1.o.2 ae.o ?_
   intro v6 w6 o6 g6 f6;obtain⟨na,nc,e6⟩:=o6.long;obtain⟨nl,ak⟩:=exH ((strs (pk).n.ks++[Value.string sx]).length);rw[ak.o]at e6;subst e6;obtain⟨⟨q6,r6⟩,al,b7⟩:=zqb9 I.o T.o ai.o (za9 _ _) g6 o6 f6;rw[E];refine A _ _ (λ _=>q6) ?_;clear u E H A o6 g6 f6;simp only[zw];refine rdW 5 (some 21) (.fieldAddr 93 (.tmp 7) 1) ?_;rintro o K E u H A;refine stepY (v:=Value.pointer (some ⟨O,1,none⟩)) ?hy ?_;(case hy=>go_simp);rw[E];refine A _ _ (λ _=>q6) ?_;clear u E H A;simp only[zw];refine rdW 6 none (.store 91 (.tmp 21) (.tmp 20)) ?_;rintro o K E u H A;refine zkr9 u rfl rfl q6 r6 ?_;rw[E];refine A _ _ (λ e=>absurd rfl e) ?_;refine doneW (by kernel_rfl) ?_ _;clear u E H A ak;simp only[Act.put]
   have RB:=za0 al;have bd:=za0 b7;clear al b7 q6 r6 hS a0 aj ah a2 a1 T ai ag ae;obtain⟨c5,bm⟩:=exH (w6.setCell ⟨O,1,none⟩ (.slice na nl nc));rw[bm.o]at RB bd;rw[bm.o];have BB:=za0 (BA.o.trans bd.o);obtain⟨Y,bb⟩:∃p:Pz,Hid ((⟨{ pk.n with ks:=pk.n.ks++[sx] },tx⟩:Pz)=p):=⟨_,rfl⟩
   (have ca:Hid (Y.n.vs.length<=255/\Y.n.kd.length<=255):=by rw[<-bb.o];exact af.o.2);rw[bb.o]at RB;clear bd bm BA I af;cases lf with
   | true=>
    have af:=za0 ca.o.1;(obtain⟨a7,a9,a8,e2⟩:∃a l c,v2=.slice a l c:=by obtain⟨a,c,e⟩:=RB.o.v.long;exact⟨a,_,c,e⟩);subst e2;have hS:=RB.o.nv.c2;have ah:=za0 (RB.o.src.below ((Below.refl _ _).drew));have a2:=za0 (zff9 n0 g (Y).t c5.drew ah.o);obtain⟨aq,br⟩:∃s,Hid ((txtZ (Y).t).1=s):=⟨_,rfl⟩
    obtain⟨cs,ao⟩:∃t,Hid ((txtZ (Y).t).2=t):=⟨_,rfl⟩
    rw[br.o,ao.o]at a2;(have a1:Hid ((strs (Y).n.vs).length+1<=9223372036854775807/\((strs (Y).n.vs).length+1)*16<=140737488355328):=by show _/\_;rw[zh9];have:=af.o;omega);go_wp2_with fail;refine beginW (S:=λ w'=>w'.cell? ⟨O,2,none⟩=some (.slice a7 a9 a8)) (t:=6) (by kernel_rfl) ?_;refine tkW 0 (some 23) (.fieldAddr 93 (.tmp 7) 2) (Value.pointer (some ⟨O,2,none⟩)) (by rintro o u w' a0;go_simp) hS ?_;simp only[zw];refine tkW 1 (some 24) (.load 91 (.tmp 23)) (Value.slice a7 a9 a8) (by rintro o u w' a0;go_simp) hS ?_;simp only[zw];refine rdW 2 (some 25) (.call { callee:=.value (.func 167),args:=#[.tmp 6],argTypes:=#[235] }) ?_;rintro o K E u H A
    refine zg9 (enters_of Tryz.func167 (by kernel_rfl) rfl) u (vs:=#[.pointer (some ⟨g,0,none⟩)]) (by kernel_rfl) a2.o ?_;rintro e Q ⟨rfl,hx1,a3⟩;refine⟨_,rfl,?_⟩;rw[E];have T:Hid (Tch (λ k=>k=g) c5 Q):=(Tch.refl _ c5).drew.trans a3 (λ _ _ e=>e);have a0:=(RB.o.nv.tch T.o (λ e=>RB.o.gn e.symm)).c2;have ai:=za0 hx1;have aj:(Q.alloc (.cells #[.string aq] 9)).cell? ⟨O,2,none⟩=some (.slice a7 a9 a8):=((RB.o.nv.tch T.o (λ e=>RB.o.gn e.symm)).below (za9 _ _)).c2;have ag:Hid (OwV B 9 (Q.alloc (.cells #[.string aq] 9)) (.slice a7 a9 a8) (strs (Y).n.vs)):=(RB.o.v.tch T.o (λ x hx e=>by have:=RB.o.v.ge x hx;have:=RB.o.gB;omega)).below (za9 _ _)
    have ae:Hid (B<=(Q.alloc (.cells #[.string aq] 9)).heap.size):=zn2 RB.o.wB (zn2 T.o.size (za9 Q _).size);refine A _ _ (λ _=>a0) ?_;clear u E H A hx1 a3;simp only[zw];refine rdW 3 (some 26) (.buildSlice 91 1 #[(0,.tmp 25)]) ?_;rintro o K E u H A;refine zbk9 _ _ _ _ elemS (.tmp 25) u (.string aq) rfl rfl ?_;rw[E];refine A _ _ (λ _=>aj) ?_;clear u E H A;simp only[zw];refine rdW 4 (some 27) (.call { callee:=.builtin .append,args:=#[.tmp 24,.tmp 26],argTypes:=#[91,91] }) ?_;rintro o K E u H A;refine zgp9 _ _ _ _ elemS (w:=Q.alloc (.cells #[.string aq] 9)) (.tmp 24) (.tmp 26) u B _ (strs (Y).n.vs) rfl ag.o Q.heap.size (.string aq) rfl rfl (zdu9 _ _ _) a1.o.1 a1.o.2 ae.o ?_
    intro v6 c4 o6 g6 f6;obtain⟨az,b0,e6⟩:=o6.long;obtain⟨b4,ak⟩:∃l,Hid ((strs (Y).n.vs++[Value.string aq]).length=l):=⟨_,rfl⟩
    rw[ak.o]at e6;subst e6;obtain⟨⟨q6,r6⟩,al,b7⟩:=zqd9 RB.o T.o ai.o (za9 _ _) g6 o6 f6;rw[E];refine A _ _ (λ _=>q6) ?_;clear u E H A o6 g6 f6;simp only[zw];refine rdW 5 (some 28) (.fieldAddr 93 (.tmp 7) 2) ?_;rintro o K E u H A;refine stepY (v:=Value.pointer (some ⟨O,2,none⟩)) ?hy ?_;(case hy=>go_simp);rw[E];refine A _ _ (λ _=>q6) ?_;clear u E H A;simp only[zw];refine rdW 6 none (.store 91 (.tmp 28) (.tmp 27)) ?_;rintro o K E u H A;refine zkr9 u rfl rfl q6 r6 ?_;rw[E];refine A _ _ (λ e=>absurd rfl e) ?_;refine doneW (by kernel_rfl) ?_ _;clear u E H A ak;simp only[Act.put];have RC:=za0 al;have am:=za0 b7;clear al b7 q6 r6 hS a0 aj ah a2 a1 T ai ag ae
    (obtain⟨c7,an⟩:=exH (c4.setCell ⟨O,2,none⟩ (.slice az b4 b0));rw[an.o]at RC am;rw[an.o];have BE:=za0 (BB.o.trans am.o);have RE:Hid (Rs B n0 c7 g O (.slice na nl nc) (.slice az b4 b0) v3 (pzN true t1 (k+1))):=by rw[bg.o];unfold pzStep;rw[if_pos be.o,bq.o,bu.o];(have h5:Y.t=tx/\Y.n={ pk.n with ks:=pk.n.ks++[sx] }:=by rw[<-bb.o];exact⟨rfl,rfl⟩);rw[h5.1]at br ao;rw[br.o,ao.o];have:=RC.o;rw[h5.2]at this;exact this);clear RC am an RB BB;go_wp2_with fail
    go_roundw
    (case rel=>exact⟨k+1,_,_,_,by omega,by go_num,RE,BE⟩);case measure=>simp[intOf];omega
   | false=>
    go_wp2_with fail;refine(zch9 n0 g Y.t c5 RB.o.src).mono ?_;rintro e w8 ⟨rfl,⟨co,cq⟩,bx,cj⟩;obtain⟨lo,ba⟩:=exH ((numZ Y.t).1);obtain⟨t8,bt⟩:∃t,Hid ((numZ Y.t).2=t):=⟨_,rfl⟩
    rw[bt.o]at bx;rw[ba.o]at co cq;rw[ba.o];obtain⟨bz,b8⟩:=RB.o.num cj bx;obtain⟨p8,bp⟩:∃p:Pz,Hid ((⟨Y.n,t8⟩:Pz)=p):=⟨_,rfl⟩
    (have af:Hid (p8.n.kd.length<=255):=by rw[<-bp.o];exact ca.o.2);rw[bp.o]at bz;have RD:=za0 bz;have BD:=za0 (BB.o.trans b8);clear bx cj bz b8 RB BB;(obtain⟨aa,ac,ab,e3⟩:∃a l c,v3=.slice a l c:=by obtain⟨a,c,e⟩:=RD.o.d.long;exact⟨a,_,c,e⟩);subst e3;have hS:=RD.o.nv.c3;have ah:=za0 (RD.o.src.below ((Below.refl _ _).drew));have a2:=za0 (zch9 n0 g (p8).t w8.drew ah.o);obtain⟨hi,bn⟩:=exH ((numZ (p8).t).1);obtain⟨cs,ao⟩:∃t,Hid ((numZ (p8).t).2=t):=⟨_,rfl⟩
    rw[bn.o,ao.o]at a2;(have a1:Hid ((nums (p8).n.kd).length+1<=9223372036854775807/\((nums (p8).n.kd).length+1)*8<=140737488355328):=by show _/\_;rw[zf9];have:=af.o;omega);go_wp2_with fail;refine beginW (S:=λ w'=>w'.cell? ⟨O,3,none⟩=some (.slice aa ac ab)) (t:=9) (by kernel_rfl) ?_;refine tkW 0 (some 30) (.fieldAddr 93 (.tmp 7) 3) (Value.pointer (some ⟨O,3,none⟩)) (by rintro o u w' a0;go_simp) hS ?_;simp only[zw];refine tkW 1 (some 31) (.load 56 (.tmp 30)) (Value.slice aa ac ab) (by rintro o u w' a0;go_simp) hS ?_;simp only[zw];refine tkW 2 (some 32) (.move (.tmp 8)) (Value.int .i64 lo) (by rintro o u w' a0;go_simp) hS ?_;simp only[zw]
    refine rdW 3 (some 33) (.call { callee:=.value (.func 166),args:=#[.tmp 6],argTypes:=#[235] }) ?_;rintro o K E u H A;refine zg9 (enters_of Tryz.func166 (by kernel_rfl) rfl) u (vs:=#[.pointer (some ⟨g,0,none⟩)]) (by kernel_rfl) a2.o ?_;rintro e Q ⟨rfl,⟨cx,cy⟩,hx1,a3⟩;refine⟨_,rfl,?_⟩;rw[E];have T:Hid (Tch (λ k=>k=g) w8 Q):=(Tch.refl _ w8).drew.trans a3 (λ _ _ e=>e);have a0:=(RD.o.nv.tch T.o (λ e=>RD.o.gn e.symm)).c3;have ai:=za0 hx1;have aj:(Q.alloc (.cells #[.int .i64 (lo+hi*256)] 3)).cell? ⟨O,3,none⟩=some (.slice aa ac ab):=((RD.o.nv.tch T.o (λ e=>RD.o.gn e.symm)).below (za9 _ _)).c3
    have ag:Hid (OwV B 3 (Q.alloc (.cells #[.int .i64 (lo+hi*256)] 3)) (.slice aa ac ab) (nums (p8).n.kd)):=(RD.o.d.tch T.o (λ x hx e=>by have:=RD.o.d.ge x hx;have:=RD.o.gB;omega)).below (za9 _ _);have ae:Hid (B<=(Q.alloc (.cells #[.int .i64 (lo+hi*256)] 3)).heap.size):=zn2 RD.o.wB (zn2 T.o.size (za9 Q _).size);(have m1:IntKind.i64.wrap (hi*256)=hi*256:=by rw[IntKind.wrap_i64];omega);(have m2:IntKind.i64.wrap (lo+hi*256)=lo+hi*256:=by rw[IntKind.wrap_i64];omega);refine A _ _ (λ _=>a0) ?_;clear u E H A hx1 a3;simp only[zw];refine rdW 4 (some 34) (.binOp .shl 3 (.tmp 33) (.const (.int .u64 8)) 164) ?_;rintro o K E u H A;refine stepY (v:=Value.int .i64 (hi*256)) ?hy ?_;(case hy=>go_simp);rw[E]
    refine A _ _ (λ _=>a0) ?_;clear u E H A;simp only[zw];refine rdW 5 (some 35) (.binOp .add 3 (.tmp 32) (.tmp 34) 3) ?_;rintro o K E u H A;refine stepY (v:=Value.int .i64 (lo+hi*256)) ?hy ?_;(case hy=>go_simp);rw[E];refine A _ _ (λ _=>a0) ?_;clear u E H A;simp only[zw];refine rdW 6 (some 36) (.buildSlice 56 1 #[(0,.tmp 35)]) ?_;rintro o K E u H A;refine zbk9 _ _ _ _ elemIN (.tmp 35) u (.int .i64 (lo+hi*256)) rfl rfl ?_;rw[E];refine A _ _ (λ _=>aj) ?_;clear u E H A;simp only[zw];refine rdW 7 (some 37) (.call { callee:=.builtin .append,args:=#[.tmp 31,.tmp 36],argTypes:=#[56,56] }) ?_;rintro o K E u H A
    refine zgp9 _ _ _ _ elemIN (w:=Q.alloc (.cells #[.int .i64 (lo+hi*256)] 3)) (.tmp 31) (.tmp 36) u B _ (nums (p8).n.kd) rfl ag.o Q.heap.size (.int .i64 (lo+hi*256)) rfl rfl (zdu9 _ _ _) a1.o.1 a1.o.2 ae.o ?_;intro v6 c4 o6 g6 f6;obtain⟨az,b0,e6⟩:=o6.long;obtain⟨b4,ak⟩:∃l,Hid ((nums (p8).n.kd++[Value.int .i64 (lo+hi*256)]).length=l):=⟨_,rfl⟩
    rw[ak.o]at e6;subst e6;obtain⟨⟨q6,r6⟩,al,b7⟩:=zqc9 RD.o T.o ai.o (za9 _ _) g6 o6 f6;rw[E];refine A _ _ (λ _=>q6) ?_;clear u E H A o6 g6 f6;simp only[zw];refine rdW 8 (some 38) (.fieldAddr 93 (.tmp 7) 3) ?_;rintro o K E u H A;refine stepY (v:=Value.pointer (some ⟨O,3,none⟩)) ?hy ?_;(case hy=>go_simp);rw[E];refine A _ _ (λ _=>q6) ?_;clear u E H A;simp only[zw];refine rdW 9 none (.store 56 (.tmp 38) (.tmp 37)) ?_;rintro o K E u H A;refine zkq9 u rfl rfl q6 r6 ?_;rw[E];refine A _ _ (λ e=>absurd rfl e) ?_;refine doneW (by kernel_rfl) ?_ _;clear u E H A ak;simp only[Act.put];have RC:=za0 al;have am:=za0 b7;clear al b7 q6 r6 hS a0 aj ah a2 a1 T ai ag ae m1 m2
    (obtain⟨c7,an⟩:=exH (c4.setCell ⟨O,3,none⟩ (.slice az b4 b0));rw[an.o]at RC am;rw[an.o];have BE:=za0 (BD.o.trans am.o);have RE:Hid (Rs B n0 c7 g O (.slice na nl nc) v2 (.slice az b4 b0) (pzN false t1 (k+1))):=by rw[bg.o];unfold pzStep;rw[if_neg (by rw[be.o];decide),bq.o,bu.o];(have h5:Y.t=tx/\Y.n={ pk.n with ks:=pk.n.ks++[sx] }:=by rw[<-bb.o];exact⟨rfl,rfl⟩);(have h8:p8.t=t8/\p8.n=Y.n:=by rw[<-bp.o];exact⟨rfl,rfl⟩);rw[h5.1]at ba bt;rw[h8.1]at bn ao;rw[ba.o,bt.o,bn.o,ao.o];have:=RC.o;rw[h8.2,h5.2]at this;exact this);clear RC am an RD BD;go_wp2_with fail
    go_roundw
    (case rel=>exact⟨k+1,_,_,_,by omega,by go_num,RE,BE⟩);case measure=>simp[intOf];omega
  .have cm:k=c:=by omega
   rw[cm,<-HP.o]at I;obtain⟨lv,bs⟩:=I.o.src;(have cf:p9.n.lf=lf:=by rw[HP.o];exact pzN_lf lf t1 c);have bo:=I.o.nv;rw[cf]at bo;have b5:=za0 bo;obtain⟨d2,d3,b6,_⟩:=bs.rs.rd;have bk:=za0 bs;obtain⟨cr,sh⟩:=exH p9.t;obtain⟨rx,sb⟩:=cr;rw[sh.o]at b6 bk;simp only at b6;obtain⟨R,hR⟩:=exH rx.length;rw[hR.o]at b6;subst b6;(have au:Hid (ok=(!sb&&decide (R=0))):=by show _=_;rw[<-ch.o];unfold rdOk;rw[sh.o,<-hR.o]);have X9:=za0 (X1.o.below (BA.o.mono (by rw[ck.o];exact zn6 _)));(obtain⟨a4,a6,a5,e1⟩:∃a l c,v1=.slice a l c:=by obtain⟨a,c,e⟩:=I.o.k.long;exact⟨a,_,c,e⟩);obtain⟨a7,a9,a8,e2⟩:∃a l c,v2=.slice a l c:=by obtain⟨a,c,e⟩:=I.o.v.long;exact⟨a,_,c,e⟩
   (obtain⟨aa,ac,ab,e3⟩:∃a l c,v3=.slice a l c:=by obtain⟨a,c,e⟩:=I.o.d.long;exact⟨a,_,c,e⟩);subst e1 e2 e3;obtain⟨WA,ax⟩:=exH (((((cw.setCell ⟨w.heap.size,0,none⟩ (.bool lf)).setCell ⟨w.heap.size,1,none⟩ (.slice a4 a6 a5)).setCell ⟨w.heap.size,2,none⟩ (.slice a7 a9 a8)).setCell ⟨w.heap.size,3,none⟩ (.slice aa ac ab)).drew);(have cu:¬w.heap.size=g:=by rw[<-H.o];have:=ar.o;omega);(have cv:¬g=w.heap.size:=by rw[<-H.o];have:=ar.o;omega);(have d0:¬O=w.heap.size:=by have:=ar.o;have:=I.o.n0;omega);have d1:¬w.heap.size=O:=by have:=ar.o;have:=I.o.n0;omega
   (have YA:Hid (Nb WA 93 w.heap.size lf (.slice a4 a6 a5) (.slice a7 a9 a8) (.slice aa ac ab)):=by rw[<-ax.o];exact(X9.o.all _ _ _ _).below (Below.refl _ _).drew);(have tA:Tch (λ j=>j=w.heap.size) cw WA:=by rw[<-ax.o];exact(zl9 cw _ _ _ _ _).drew);have OA:Hid (Ow3 w.heap.size WA p9.n (.slice a4 a6 a5) (.slice a7 a9 a8) (.slice aa ac ab)):=by
    have h1:=ar.o;have h2:=I.o.n0;have h3:=I.o.nB;exact(Ow3.tch (⟨I.o.k,I.o.v,I.o.d,I.o.ap⟩:Ow3 _ _ _ _ _ _) tA (λ j hj e=>by
     rcases hj with q|q|q
     .have:=I.o.k.ge j q;omega
     .have:=I.o.v.ge j q;omega
     .have:=I.o.d.ge j q;omega)).less (by omega)
   have bA:=B1.o.trans (BA.o.mono (Nat.le_of_lt ar.o));have BF:=za0 (bA.trans (tA.below bA.size (λ j e=>by omega)));have y0:=b5.o.c0;have y1:=b5.o.c1;have y2:=b5.o.c2;have y3:=b5.o.c3;have u0:=bk.o.c0;have u1:=bk.o.c1;have x0:=X9.o.c0;have x1:=X9.o.c1;have x2:=X9.o.c2;have x3:=X9.o.c3;have f0:=X9.o.fz 0;have f1:=X9.o.fz 1;have f2:=X9.o.fz 2;have f3:=X9.o.fz 3;simp only at u1;clear bs bo cf tA bA I BA;cases sb with
   | true=>
    obtain rfl:ok=false:=au.o;clear au;go_wp2_with fail
    go_region
    go_wp2_with fail;rw[ax.o];refine bodyPost_ret (v:=.tuple #[nod lf (.slice a4 a6 a5) (.slice a7 a9 a8) (.slice aa ac ab),.bool false]) (ze9 (p:=4) (ty:=93) rfl _ _ _ w.heap.size _ _ rfl YA.o.load rfl) rfl ?_;exact⟨⟨_,_,_,rfl,OA.o⟩,BF.o⟩
   | false=>
    by_cases b9:R=0
    .have e0:((R:Int)==0)=true:=by rw[beq_iff_eq];omega
     (obtain rfl:ok=true:=by rw[au.o];simp[b9]);clear au b9;go_wp2_with fail
     go_region
     go_wp2_with fail;rw[ax.o];refine bodyPost_ret (v:=.tuple #[nod lf (.slice a4 a6 a5) (.slice a7 a9 a8) (.slice aa ac ab),.bool true]) (ze9 (p:=4) (ty:=93) rfl _ _ _ w.heap.size _ _ rfl YA.o.load rfl) rfl ?_;exact⟨⟨_,_,_,rfl,OA.o⟩,BF.o⟩
    .have e0:((R:Int)==0)=false:=by rw[zl0];omega
     (obtain rfl:ok=false:=by rw[au.o];simp[b9]);clear au b9;go_wp2_with fail
     go_region
     go_wp2_with fail;rw[ax.o];refine bodyPost_ret (v:=.tuple #[nod lf (.slice a4 a6 a5) (.slice a7 a9 a8) (.slice aa ac ab),.bool false]) (ze9 (p:=4) (ty:=93) rfl _ _ _ w.heap.size _ _ rfl YA.o.load rfl) rfl ?_;exact⟨⟨_,_,_,rfl,OA.o⟩,BF.o⟩
def zbi9{t:List Int×Bool}(h:By t.1)(m:Nat):By (takeZ t m).2.1:=by
 unfold takeZ;split
 .exact h
 .exact h.dropN m
def zhf9{t:List Int×Bool}(h:By t.1):0<=(numZ t).1/\(numZ t).1<=255:=zit9 h 1 0
def zkm9{t:List Int×Bool}(h:By t.1):(txtZ t).1.size<=255/\By (txtZ t).2.1:=by have A:=zhf9 h;have u:=zbi9 h 1;refine⟨?_,zbi9 u _⟩;unfold txtZ;simp only;rw[strOfNums_size];rcases zkl9 (numZ t).2 (numZ t).1.toNat with e|e<;>omega
def zgj9(lf:Bool){t:List Int×Bool}(h:By t.1)(k:Nat):By (pzN lf t k).t.1/\(∀s∈(pzN lf t k).n.ks,s.size<=255)/\(∀s∈(pzN lf t k).n.vs,s.size<=255):=by
 induction k with
 | zero=>exact⟨h,by simp[pzN],by simp[pzN]⟩
 | succ k O=>
  obtain⟨K,E,H⟩:=O;have A:=zkm9 K;have I:=zkm9 A.2;have Q:=zbi9 A.2 1;have T:=zbi9 Q 1;simp only[pzN,pzStep];split
  .refine⟨I.2,λ s u=>?_,λ s u=>?_⟩
   .rcases zi0.1 u with e|e
    .exact E s e
    .rw[List.mem_singleton.1 e];exact A.1
   .rcases zi0.1 u with e|e
    .exact H s e
    .rw[List.mem_singleton.1 e];exact I.1
  .refine⟨T,λ s u=>?_,H⟩;rcases zi0.1 u with e|e
   .exact E s e
   .rw[List.mem_singleton.1 e];exact A.1
def zbg9{u:List ByteArray}{m:Nat}(h:∀s∈u,s.size<=m)(i:Nat):(u.getD i eS).size<=m:=by
 rw[zn3];cases e:u[i]? with
 | none=>exact zn7 _
 | some s=>exact h s (zk1 e)
def rdN_sm(lf:Bool){xs:List Int}(h:By xs):Sm (rdN lf xs).n:=by have H:=zhf9 (t:=(xs,false)) h;have A:=zbi9 (t:=(xs,false)) h 1;have u:=zgj9 lf A (numZ (xs,false)).1.toNat;have E:=zcz9 lf (numZ (xs,false)).2 (numZ (xs,false)).1.toNat;unfold rdN;exact⟨λ i=>zn2 (zbg9 u.2.1 i) (by omega),λ i=>zn2 (zbg9 u.2.2 i) (by omega),by omega,by omega,by omega⟩
noncomputable def getN(kd:Int)(xs:List Int):Option Nd:=if kd=1\/kd=2 then(if (rdOk (rdN (decide (kd=1)) xs)&&mayN (rdN (decide (kd=1)) xs).n)=true then some (rdN (decide (kd=1)) xs).n else none)else none
def GetRN(kd:Int)(xs:List Int)(w:World)(e:Ending)(w':World):Prop:=
 ((∃n v1 v2 v3,getN kd xs=some n/\e=.returned (.tuple #[nod n.lf v1 v2 v3,.int .i64 0])/\Ow3 w.heap.size w' n v1 v2 v3)\/(getN kd xs=none/\e=.returned (.tuple #[nod false (.slice none 0 0) (.slice none 0 0) (.slice none 0 0),.int .i64 7])))/\Below w.heap.size w w'
def zun9(kd:Int)(v:Value)(xs:List Int)(w:World)(hr:Rd .u8 w v xs)(hb:By xs):
 Calls Tryz.prog 136 #[blN kd v] w λ e w'=>GetRN kd xs w e w':=by
 obtain⟨a,cap,rfl,h1,h2,_⟩:=id hr;have HR:=za0 hr;have HY:=za0 hb;obtain⟨L,hL⟩:=exH xs.length;rw[hL.o]at HR h1 |-
 obtain⟨A,ag⟩:=exN (w.alloc (.cells #[.int .i64 kd,.slice a L cap] 63));obtain⟨W2,ah⟩:=exN (A.alloc (.cells #[.bool false,.slice none 0 0,.slice none 0 0,.slice none 0 0] 93));have b1:Below w.heap.size w A:=by rw[<-ag];exact za9 _ _
 have b2:Below A.heap.size A W2:=by rw[<-ah];exact za9 _ _
 have K1:Kb A w.heap.size kd (.slice a L cap):=by rw[<-ag];exact kb_new _ _ _
 have aj:=za0 K1.lt;have K2:=za0 (K1.below b2);have H:Hid (Nb W2 93 A.heap.size false (.slice none 0 0) (.slice none 0 0) (.slice none 0 0)):=by rw[<-ah];exact nb_new _ _ _ _ _ _
 have B2:=za0 (b1.trans (b2.mono b1.size));have R2:=za0 (HR.o.below B2.o);have a0:Hid (∀(W:World),getN kd xs=none->Below W2.heap.size W2 W->∃T,((((W.setCell ⟨A.heap.size,0,none⟩ (.bool false)).setCell ⟨A.heap.size,1,none⟩ (.slice none 0 0)).setCell ⟨A.heap.size,2,none⟩ (.slice none 0 0)).setCell ⟨A.heap.size,3,none⟩ (.slice none 0 0)=T)/\Nb T 93 A.heap.size false (.slice none 0 0) (.slice none 0 0) (.slice none 0 0)/\GetRN kd xs w (.returned (.tuple #[nod false (.slice none 0 0) (.slice none 0 0) (.slice none 0 0),.int .i64 7])) T):=λ W hn hb=>by
  have I:=H.o.below hb;have t:=zl9 W A.heap.size (.bool false) (.slice none 0 0) (.slice none 0 0) (.slice none 0 0);have bw:=B2.o.trans (hb.mono B2.o.size);exact⟨_,rfl,I.all _ _ _ _,.inr ⟨hn,rfl⟩,bw.trans (t.below bw.size (λ j e=>by have:=aj.o;omega))⟩
 have q0:=K2.o.c0;have q1:=K2.o.c1;clear hr hb h2 b1 b2 K1;unfold blN;by_cases af:kd=1\/kd=2
 .have HG:Hid (getN kd xs=(if (rdOk (rdN (decide (kd=1)) xs)&&mayN (rdN (decide (kd=1)) xs).n)=true then some (rdN (decide (kd=1)) xs).n else none)):=by show _=_;unfold getN;rw[if_pos af]
  rcases af with rfl|rfl
  .have K:Hid (getN 1 xs=(if (rdOk (rdN true xs)&&mayN (rdN true xs).n)=true then some (rdN true xs).n else none)):=HG.o;have a5:=za0 (zkd9 true _ xs W2 R2.o HY.o);have ab:=za0 (rdN_sm true HY.o);have a7:Hid ((rdN true xs).n.lf=true):=pzN_lf _ _ _;obtain⟨n,hn⟩:=exH ((rdN true xs).n);obtain⟨ok,ak⟩:=exH (rdOk (rdN true xs));rw[ak.o]at a5 K;rw[hn.o]at a5 K ab a7;clear HG
   go_enter Tryz.func136,Tryz.ntmps136
   go_wp2_with fail;refine a5.o.mono ?_;rintro e w3 ⟨⟨v1,v2,v3,rfl,o3⟩,b3⟩;have n3:=o3.nn;have a8:=o3.fr;obtain⟨a1,c1,a2,c2,a3,c3,rfl,rfl,rfl,_,_,_,_⟩:=n3.o;obtain⟨L1,ac⟩:=exH n.ks.length;obtain⟨L2,ad⟩:=exH n.vs.length;obtain⟨L3,ae⟩:=exH n.kd.length;rw[ac.o,ad.o,ae.o]at n3 a8 o3;have FR:=za0 a8;rw[ac.o,ad.o,ae.o];have N3:=za0 n3;have B3:=za0 b3;unfold nod;obtain⟨O,a9⟩:=exN (w3.alloc (.cells #[.bool true,.slice a1 L1 c1,.slice a2 L2 c2,.slice a3 L3 c3] 93));(have b4:Below w3.heap.size w3 O:=by rw[<-a9];exact za9 _ _);(have V4:Hid (Nb O 93 w3.heap.size true (.slice a1 L1 c1) (.slice a2 L2 c2) (.slice a3 L3 c3)):=by rw[<-a9];exact nb_new _ _ _ _ _ _);have N4:=za0 (n3.below b4)
   have O4:=za0 (o3.below b4);have a4:=za0 (b3.trans (b4.mono b3.size));clear n3 b3 b4 a8 o3 a5 q0 q1 ag ah;cases ok with
   | false=>(have HN:Hid (getN 1 xs=none):=by show _=_;rw[K.o,if_neg (by simp)]);obtain⟨T,E,I,Y⟩:=a0.o O HN.o a4.o;have HX:=za0 I;have HF:=za0 Y;have a6:=za0 E;have u:=H.o.below a4.o;have s0:=u.c0;have s1:=u.c1;have s2:=u.c2;have s3:=u.c3;have f0:=u.fz 0;have f1:=u.fz 1;have f2:=u.fz 2;have f3:=u.fz 3;clear E I Y a0 u;go_wp2_with fail;rw[a6.o];refine bodyPost_ret (v:=.tuple #[nod false (.slice none 0 0) (.slice none 0 0) (.slice none 0 0),.int .i64 7]) (ze9 (p:=2) (ty:=93) rfl _ _ _ A.heap.size _ _ rfl HX.o.load rfl) rfl ?_;exact HF.o
   | true=>
    have aa:Hid (Calls Tryz.prog 155 #[.agg #[.bool true,.slice a1 L1 c1,.slice a2 L2 c2,.slice a3 L3 c3]] O λ e w'=>e=.returned (.bool (mayN n))/\Below O.heap.size O w'):=by have:=zet9 n _ _ _ O N4.o ab.o;rw[a7.o]at this;exact this
    have p0:=V4.o.c0;have p1:=V4.o.c1;have p2:=V4.o.c2;have p3:=V4.o.c3;go_wp2_with fail;refine aa.o.mono ?_;rintro e w5 ⟨rfl,b5⟩;have B5:=za0 (a4.o.trans (b5.mono a4.o.size));have V5:=za0 (V4.o.below b5);have N5:=za0 (N4.o.below b5);have O5:=za0 (O4.o.below b5);clear b5 p0 p1 p2 p3 a9 aa;cases hmn:mayN n with
    | false=>(have HN:Hid (getN 1 xs=none):=by show _=_;rw[K.o,hmn,if_neg (by simp)]);clear hmn K;obtain⟨T,E,I,Y⟩:=a0.o w5 HN.o B5.o;have HX:=za0 I;have HF:=za0 Y;have a6:=za0 E;have u:=H.o.below B5.o;have s0:=u.c0;have s1:=u.c1;have s2:=u.c2;have s3:=u.c3;have f0:=u.fz 0;have f1:=u.fz 1;have f2:=u.fz 2;have f3:=u.fz 3;clear E I Y a0 u;go_wp2_with fail;rw[a6.o];refine bodyPost_ret (v:=.tuple #[nod false (.slice none 0 0) (.slice none 0 0) (.slice none 0 0),.int .i64 7]) (ze9 (p:=2) (ty:=93) rfl _ _ _ A.heap.size _ _ rfl HX.o.load rfl) rfl ?_;exact HF.o
    | true=>
     (have ai:Hid (getN 1 xs=some n):=by show _=_;rw[K.o,hmn,if_pos (by simp)]);clear hmn K a0;have y0:=V5.o.c0;have y1:=V5.o.c1;have y2:=V5.o.c2;have y3:=V5.o.c3;have u:=H.o.below B5.o;have s0:=u.c0;have s1:=u.c1;have s2:=u.c2;have s3:=u.c3;have f0:=u.fz 0;have f1:=u.fz 1;have f2:=u.fz 2;have f3:=u.fz 3;obtain⟨T,E⟩:=exH ((((w5.setCell ⟨A.heap.size,0,none⟩ (.bool true)).setCell ⟨A.heap.size,1,none⟩ (.slice a1 L1 c1)).setCell ⟨A.heap.size,2,none⟩ (.slice a2 L2 c2)).setCell ⟨A.heap.size,3,none⟩ (.slice a3 L3 c3));have YA:Hid (Nb T 93 A.heap.size true (.slice a1 L1 c1) (.slice a2 L2 c2) (.slice a3 L3 c3)):=by rw[<-E.o];exact u.all _ _ _ _
     (have tA:Tch (λ j=>j=A.heap.size) w5 T:=by rw[<-E.o];exact zl9 _ _ _ _ _ _);have hX:=H.o.lt;have NA:=za0 (N5.o.tch tA (λ j Q e=>by have:=FR.o j (.inl Q);omega) (λ j Q e=>by have:=FR.o j (.inr (.inl Q));omega) (λ j Q e=>by have:=FR.o j (.inr (.inr Q));omega));have OA:=za0 ((O5.o.tch tA (λ j Q e=>by have:=FR.o j Q;omega)).less (C:=w.heap.size) B2.o.size);have bw:=B2.o.trans (B5.o.mono B2.o.size);have BF:=za0 (bw.trans (tA.below bw.size (λ j e=>by have:=aj.o;omega)));clear u tA hX bw;go_wp2_with fail;rw[E.o]
     refine bodyPost_ret (v:=.tuple #[nod true (.slice a1 L1 c1) (.slice a2 L2 c2) (.slice a3 L3 c3),.int .i64 0]) (ze9 (p:=2) (ty:=93) rfl _ _ _ A.heap.size _ _ rfl YA.o.load rfl) rfl ?_;exact⟨.inl ⟨n,_,_,_,ai.o,by rw[a7.o],OA.o⟩,BF.o⟩
  .have K:Hid (getN 2 xs=(if (rdOk (rdN false xs)&&mayN (rdN false xs).n)=true then some (rdN false xs).n else none)):=HG.o;have a5:=za0 (zkd9 false _ xs W2 R2.o HY.o);have ab:=za0 (rdN_sm false HY.o);have a7:Hid ((rdN false xs).n.lf=false):=pzN_lf _ _ _;obtain⟨n,hn⟩:=exH ((rdN false xs).n);obtain⟨ok,ak⟩:=exH (rdOk (rdN false xs));rw[ak.o]at a5 K;rw[hn.o]at a5 K ab a7;clear HG
   go_enter Tryz.func136,Tryz.ntmps136
   go_wp2_with fail;refine a5.o.mono ?_;rintro e w3 ⟨⟨v1,v2,v3,rfl,o3⟩,b3⟩;have n3:=o3.nn;have a8:=o3.fr;obtain⟨a1,c1,a2,c2,a3,c3,rfl,rfl,rfl,_,_,_,_⟩:=n3.o;obtain⟨L1,ac⟩:=exH n.ks.length;obtain⟨L2,ad⟩:=exH n.vs.length;obtain⟨L3,ae⟩:=exH n.kd.length;rw[ac.o,ad.o,ae.o]at n3 a8 o3;have FR:=za0 a8;rw[ac.o,ad.o,ae.o];have N3:=za0 n3;have B3:=za0 b3;unfold nod;obtain⟨O,a9⟩:=exN (w3.alloc (.cells #[.bool false,.slice a1 L1 c1,.slice a2 L2 c2,.slice a3 L3 c3] 93));(have b4:Below w3.heap.size w3 O:=by rw[<-a9];exact za9 _ _);(have V4:Hid (Nb O 93 w3.heap.size false (.slice a1 L1 c1) (.slice a2 L2 c2) (.slice a3 L3 c3)):=by rw[<-a9];exact nb_new _ _ _ _ _ _);have N4:=za0 (n3.below b4)
   have O4:=za0 (o3.below b4);have a4:=za0 (b3.trans (b4.mono b3.size));clear n3 b3 b4 a8 o3 a5 q0 q1 ag ah;cases ok with
   | false=>(have HN:Hid (getN 2 xs=none):=by show _=_;rw[K.o,if_neg (by simp)]);obtain⟨T,E,I,Y⟩:=a0.o O HN.o a4.o;have HX:=za0 I;have HF:=za0 Y;have a6:=za0 E;have u:=H.o.below a4.o;have s0:=u.c0;have s1:=u.c1;have s2:=u.c2;have s3:=u.c3;have f0:=u.fz 0;have f1:=u.fz 1;have f2:=u.fz 2;have f3:=u.fz 3;clear E I Y a0 u;go_wp2_with fail;rw[a6.o];refine bodyPost_ret (v:=.tuple #[nod false (.slice none 0 0) (.slice none 0 0) (.slice none 0 0),.int .i64 7]) (ze9 (p:=2) (ty:=93) rfl _ _ _ A.heap.size _ _ rfl HX.o.load rfl) rfl ?_;exact HF.o
   | true=>
    have aa:Hid (Calls Tryz.prog 155 #[.agg #[.bool false,.slice a1 L1 c1,.slice a2 L2 c2,.slice a3 L3 c3]] O λ e w'=>e=.returned (.bool (mayN n))/\Below O.heap.size O w'):=by have:=zet9 n _ _ _ O N4.o ab.o;rw[a7.o]at this;exact this
    have p0:=V4.o.c0;have p1:=V4.o.c1;have p2:=V4.o.c2;have p3:=V4.o.c3;go_wp2_with fail;refine aa.o.mono ?_;rintro e w5 ⟨rfl,b5⟩;have B5:=za0 (a4.o.trans (b5.mono a4.o.size));have V5:=za0 (V4.o.below b5);have N5:=za0 (N4.o.below b5);have O5:=za0 (O4.o.below b5);clear b5 p0 p1 p2 p3 a9 aa;cases hmn:mayN n with
    | false=>(have HN:Hid (getN 2 xs=none):=by show _=_;rw[K.o,hmn,if_neg (by simp)]);clear hmn K;obtain⟨T,E,I,Y⟩:=a0.o w5 HN.o B5.o;have HX:=za0 I;have HF:=za0 Y;have a6:=za0 E;have u:=H.o.below B5.o;have s0:=u.c0;have s1:=u.c1;have s2:=u.c2;have s3:=u.c3;have f0:=u.fz 0;have f1:=u.fz 1;have f2:=u.fz 2;have f3:=u.fz 3;clear E I Y a0 u;go_wp2_with fail;rw[a6.o];refine bodyPost_ret (v:=.tuple #[nod false (.slice none 0 0) (.slice none 0 0) (.slice none 0 0),.int .i64 7]) (ze9 (p:=2) (ty:=93) rfl _ _ _ A.heap.size _ _ rfl HX.o.load rfl) rfl ?_;exact HF.o
    | true=>
     (have ai:Hid (getN 2 xs=some n):=by show _=_;rw[K.o,hmn,if_pos (by simp)]);clear hmn K a0;have y0:=V5.o.c0;have y1:=V5.o.c1;have y2:=V5.o.c2;have y3:=V5.o.c3;have u:=H.o.below B5.o;have s0:=u.c0;have s1:=u.c1;have s2:=u.c2;have s3:=u.c3;have f0:=u.fz 0;have f1:=u.fz 1;have f2:=u.fz 2;have f3:=u.fz 3;obtain⟨T,E⟩:=exH ((((w5.setCell ⟨A.heap.size,0,none⟩ (.bool false)).setCell ⟨A.heap.size,1,none⟩ (.slice a1 L1 c1)).setCell ⟨A.heap.size,2,none⟩ (.slice a2 L2 c2)).setCell ⟨A.heap.size,3,none⟩ (.slice a3 L3 c3));have YA:Hid (Nb T 93 A.heap.size false (.slice a1 L1 c1) (.slice a2 L2 c2) (.slice a3 L3 c3)):=by rw[<-E.o];exact u.all _ _ _ _
     (have tA:Tch (λ j=>j=A.heap.size) w5 T:=by rw[<-E.o];exact zl9 _ _ _ _ _ _);have hX:=H.o.lt;have NA:=za0 (N5.o.tch tA (λ j Q e=>by have:=FR.o j (.inl Q);omega) (λ j Q e=>by have:=FR.o j (.inr (.inl Q));omega) (λ j Q e=>by have:=FR.o j (.inr (.inr Q));omega));have OA:=za0 ((O5.o.tch tA (λ j Q e=>by have:=FR.o j Q;omega)).less (C:=w.heap.size) B2.o.size);have bw:=B2.o.trans (B5.o.mono B2.o.size);have BF:=za0 (bw.trans (tA.below bw.size (λ j e=>by have:=aj.o;omega)));clear u tA hX bw;go_wp2_with fail;rw[E.o]
     refine bodyPost_ret (v:=.tuple #[nod false (.slice a1 L1 c1) (.slice a2 L2 c2) (.slice a3 L3 c3),.int .i64 0]) (ze9 (p:=2) (ty:=93) rfl _ _ _ A.heap.size _ _ rfl YA.o.load rfl) rfl ?_;exact⟨.inl ⟨n,_,_,_,ai.o,by rw[a7.o],OA.o⟩,BF.o⟩
 .have n1:(kd != 1)=true:=by simp;omega
  have n2:(kd != 2)=true:=by simp;omega
  have hn:getN kd xs=none:=by unfold getN;rw[if_neg af]
  obtain⟨T,E,I,Y⟩:=a0.o W2 hn (Below.refl _ _);have HX:=za0 I;have HF:=za0 Y;have a6:=za0 E;have s0:=H.o.c0;have s1:=H.o.c1;have s2:=H.o.c2;have s3:=H.o.c3;have f0:=H.o.fz 0;have f1:=H.o.fz 1;have f2:=H.o.fz 2;have f3:=H.o.fz 3;clear af E I Y hn a0
  go_enter Tryz.func136,Tryz.ntmps136
  go_wp2_with fail;rw[a6.o];refine bodyPost_ret (v:=.tuple #[nod false (.slice none 0 0) (.slice none 0 0) (.slice none 0 0),.int .i64 7]) (ze9 (p:=2) (ty:=93) rfl _ _ _ A.heap.size _ _ rfl HX.o.load rfl) rfl ?_;exact HF.o
def zkj9(a r:List Int):takeZ (a++r,false) a.length=(a,(r,false)):=by unfold takeZ;rw[if_neg (by simp)];simp
def zaa9(x:Int)(r:List Int):numZ (x::r,false)=(x,(r,false)):=by unfold numZ;have:=zkj9 [x] r;simp only[List.singleton_append,List.length_singleton]at this;rw[this];rfl
def ziu9(s:ByteArray)(r:List Int):txtZ ((s.size:Int)::(bts s++r),false)=(s,(r,false)):=by unfold txtZ;rw[zaa9];have h:=zkj9 (bts s) r;rw[zbn9]at h;simp only[Int.toNat_natCast];rw[h];simp only[zyx9]
def rstN(n:Nd):Nat->List Int
 | 0=>[]
 | j+1=>itm n (n.ks.length-(j+1))++rstN n j
def zox9(n:Nd){k:Nat}(h:k<n.ks.length):rstN n (n.ks.length-k)=itm n k++rstN n (n.ks.length-(k+1)):=by
 obtain⟨j,E⟩:∃j,n.ks.length-k=j+1:=⟨n.ks.length-k-1,by omega⟩
 rw[E];have u:n.ks.length-(k+1)=j:=by omega
 have A:n.ks.length-(j+1)=k:=by omega
 rw[u];simp only[rstN];rw[A]
def zwv9(n:Nd)(k:Nat)(h:k<=n.ks.length):encN n k++rstN n (n.ks.length-k)=(n.ks.length:Int)::rstN n n.ks.length:=by
 induction k with
 | zero=>rfl
 | succ k u=>rw[<-u (by omega),zox9 n (show k<n.ks.length by omega)];simp only[encN,zw0]
def zwu9(n:Nd):encN n n.ks.length=(n.ks.length:Int)::rstN n n.ks.length:=by have:=zwv9 n n.ks.length (zn6 _);rw[Nat.sub_self]at this;simpa[rstN]using this
def zef9{α:Type}(d:α)(l:List α)(k:Nat)(h:k<l.length):l.take (k+1)=l.take k++[l.getD k d]:=by rw[List.take_succ_eq_append_getElem h];simp[zn3,h]
def pz_enc{n:Nd}(h:Rl n)(k:Nat)(Q:k<=n.ks.length):pzN n.lf (rstN n n.ks.length,false) k=⟨⟨n.lf,n.ks.take k,n.vs.take k,n.kd.take k⟩,(rstN n (n.ks.length-k),false)⟩:=by
 induction k with
 | zero=>simp[pzN]
 | succ k O=>
  have E:k<n.ks.length:=by omega
  simp only[pzN];rw[O (by omega)];unfold pzStep;have K:=zox9 n E;simp only;rw[K];have H:=zef9 eS n.ks k E;cases e:n.lf with
  | true=>have hv:=h.vs e;have A:=zef9 eS n.vs k (by omega);have u:n.kd=[]:=zh0 hv.2.1;rw[if_pos rfl];unfold itm;rw[if_pos e];simp only[List.cons_append,zw0];rw[ziu9];simp only;rw[ziu9];rw[H,A,u];simp[kA,vA]
  | false=>have I:=h.kd e;have u:=zef9 (0:Int) n.kd k (by omega);have A:n.vs=[]:=zh0 I.2.1;rw[if_neg (by decide)];unfold itm;rw[if_neg (by rw[e];decide)];simp only[List.cons_append,zw0,List.nil_append];rw[ziu9];simp only;rw[zaa9];simp only;rw[zaa9];have hr:=I.2.2 k E;rw[H,u,A];(have:dA n k % 256+dA n k / 256*256=dA n k:=by omega);simp only[this];simp[kA,dA]
def rd_enc{n:Nd}(h:Rl n):rdN n.lf (encN n n.ks.length)=⟨n,([],false)⟩:=by
 unfold rdN;rw[zwu9,zaa9];simp only[Int.toNat_natCast];rw[pz_enc h _ (zn6 _)];obtain⟨A,H,I,E⟩:=n;have hv:=h.vs;have u:=h.kd;simp only[Nat.sub_self,rstN,List.take_length]at *
 cases A with
 | true=>rw[zn5 (by have:=(hv rfl).1;omega),zn5 (by have:=(hv rfl).2.1;omega)]
 | false=>rw[zn5 (by have:=(u rfl).2.1;omega),zn5 (by have:=(u rfl).1;omega)]
def kdN_lf(lf:Bool):decide (kdN lf=1)=lf:=by cases lf<;>rfl
def zxg9{n:Nd}(u:mayN n=true)(h:Rl n):getN (kdN n.lf) (encN n n.ks.length)=some n:=by unfold getN;rw[if_pos (by cases n.lf<;>simp[kdN]),kdN_lf,rd_enc h];simp only;rw[u,if_pos (by simp[rdOk])]
def itm_by{n:Nd}(h:Rl n){k:Nat}(A:k<n.ks.length):By (itm n k):=by
 have E:∀{a b:List Int},By a->By b->By (a++b):=fun{a b} ha u i=>by
  rw[zn3,List.getElem?_append];split
  .rw[<-zn3];exact ha i
  .rw[<-zn3];exact u _
 have cons:∀{x:Int} {b:List Int},0<=x->x<=255->By b->By (x::b):=fun{x b} I H u i=>by
  cases i with
  | zero=>simp;omega
  | succ i=>simp only[List.getD_cons_succ];exact u i
 have H:=h.ks k A;unfold itm;refine cons (by omega) (by omega) (E (bts_by _) ?_);cases e:n.lf with
 | true=>have:=(h.vs e).2.2 k A;rw[if_pos rfl];exact cons (by omega) (by omega) (bts_by _)
 | false=>have:=(h.kd e).2.2 k A;rw[if_neg (by decide)];exact cons (by omega) (by omega) (cons (by omega) (by omega) (λ i=>by simp))
def enc_by{n:Nd}(h:Rl n)(k:Nat)(H:k<=n.ks.length):By (encN n k):=by
 induction k with
 | zero=>
  have:=h.len;intro i;cases i with
  | zero=>simp[encN];omega
  | succ i=>simp[encN]
 | succ k E=>
  have u:=E (by omega);have A:=itm_by h (show k<n.ks.length by omega);intro i;simp only[encN];rw[zn3,List.getElem?_append];split
  .rw[<-zn3];exact u i
  .rw[<-zn3];exact A _
def zkk9{t:List Int×Bool}{m:Nat}(h:(takeZ t m).2.2=false):t.2=false/\t.1=(takeZ t m).1++(takeZ t m).2.1/\(takeZ t m).1.length=m:=by
 unfold takeZ at *
 by_cases u:t.2=true\/t.1.length<m
 .rw[if_pos u]at h;cases h
 .rw[if_neg u]at *
  refine⟨?_,by simp,?_⟩
  .cases e:t.2 with
   | false=>rfl
   | true=>exact absurd (.inl e) u
  .simp only[zg0];omega
def zii9{t:List Int×Bool}(h:(numZ t).2.2=false):t.2=false/\t.1=(numZ t).1::(numZ t).2.1:=by
 obtain⟨A,u,E⟩:=zkk9 (t:=t) (m:=1) h;refine⟨A,?_⟩;unfold numZ
 match e:(takeZ t 1).1,E with
 | [x],_=>rw[e]at u;simpa using u
def ziv9{t:List Int×Bool}(u:By t.1)(h:(txtZ t).2.2=false):t.2=false/\t.1=((txtZ t).1.size:Int)::(bts (txtZ t).1++(txtZ t).2.1):=by
 obtain⟨H,I,K⟩:=zkk9 (t:=(numZ t).2) (m:=(numZ t).1.toNat) h;obtain⟨O,Q⟩:=zii9 H;refine⟨O,?_⟩;have hn:=zhf9 u;have T:By (numZ t).2.1:=zbi9 u 1;have Y:By (takeZ (numZ t).2 (numZ t).1.toNat).1:=zit9 T _;have A:bts (txtZ t).1=(takeZ (numZ t).2 (numZ t).1.toNat).1:=zwk9 Y;have E:((txtZ t).1.size:Int)=(numZ t).1:=by unfold txtZ;simp only;rw[strOfNums_size,K];omega
 rw[A,E]
 conv=>lhs;rw[Q]
 rw[I];rfl
def flatN(n:Nd):Nat->List Int
 | 0=>[]
 | k+1=>flatN n k++itm n k
def zue9(n:Nd)(k:Nat):encN n k=(n.ks.length:Int)::flatN n k:=by
 induction k with
 | zero=>rfl
 | succ k u=>simp only[encN,flatN];rw[u];rfl
def zdd9{α:Type}(d:α)(l r:List α)(i:Nat)(h:i<l.length):(l++r).getD i d=l.getD i d:=by rw[zn3,zn3,zo0 h]
def zde9{α:Type}(d x:α)(l:List α):(l++[x]).getD l.length d=x:=by rw[zn3,zn0 (zn6 _),Nat.sub_self];rfl
def zgx9{m n:Nd}(k:Nat)(h:∀i,i<k->itm m i=itm n i):flatN m k=flatN n k:=by
 induction k with
 | zero=>rfl
 | succ k u=>simp only[flatN];rw[u (λ i A=>h i (by omega)),h k (by omega)]
def zvm9(lf:Bool)(t:List Int×Bool)(k:Nat):(lf=true->(pzN lf t k).n.vs.length=k/\(pzN lf t k).n.kd=[])/\(lf=false->(pzN lf t k).n.kd.length=k/\(pzN lf t k).n.vs=[]):=by
 induction k with
 | zero=>exact⟨λ _=>⟨rfl,rfl⟩,λ _=>⟨rfl,rfl⟩⟩
 | succ k u=>
  simp only[pzN,pzStep];rw[pzN_lf];refine⟨λ e=>?_,λ e=>?_⟩
  .have:=u.1 e;rw[if_pos e];exact⟨by simp[this.1],this.2⟩
  .have:=u.2 e;rw[if_neg (by rw[e];decide)];exact⟨by simp[this.1],this.2⟩
def pz_inv(lf:Bool){t:List Int×Bool}(hb:By t.1)(k:Nat)(h:(pzN lf t k).t.2=false):t.2=false/\t.1=flatN (pzN lf t k).n k++(pzN lf t k).t.1:=by
 induction k with
 | zero=>exact⟨h,rfl⟩
 | succ k ih=>
  have Q:=zcz9 lf t k;have A:=zvm9 lf t k;have u:=(zgj9 lf hb k).1;have E:=pzN_lf lf t k;simp only[pzN]at h |-
  obtain⟨p,hp⟩:=exN (pzN lf t k);rw[hp]at h Q A u E ih |-
  cases lf with
  | true=>
   (have T:pzStep p=⟨{ p.n with ks:=p.n.ks++[(txtZ p.t).1],vs:=p.n.vs++[(txtZ (txtZ p.t).2).1] },(txtZ (txtZ p.t).2).2⟩:=by unfold pzStep;rw[if_pos E]);rw[T]at h |-
   simp only at h |-
   have H:=(zkm9 u).2;obtain⟨Y,i2⟩:=ziv9 H h;obtain⟨j1,j2⟩:=ziv9 u Y;obtain⟨k1,k2⟩:=ih j1;refine⟨k1,?_⟩;rw[k2,j2,i2];simp only[flatN];have I:flatN { p.n with ks:=p.n.ks++[(txtZ p.t).1],vs:=p.n.vs++[(txtZ (txtZ p.t).2).1] } k=flatN p.n k:=zgx9 k λ i hi=>by unfold itm kA vA dA;simp only;rw[zdd9 _ _ _ _ (by omega),zdd9 _ _ _ _ (by have:=(A.1 rfl).1;omega)]
   (rw[I];have K:itm { p.n with ks:=p.n.ks++[(txtZ p.t).1],vs:=p.n.vs++[(txtZ (txtZ p.t).2).1] } k=((txtZ p.t).1.size:Int)::(bts (txtZ p.t).1++(((txtZ (txtZ p.t).2).1.size:Int)::bts (txtZ (txtZ p.t).2).1)):=by unfold itm kA vA;simp only;rw[if_pos E];(have O:(p.n.ks++[(txtZ p.t).1]).getD k eS=(txtZ p.t).1:=by have:=zde9 eS (txtZ p.t).1 p.n.ks;rw[Q.1]at this;exact this);(have ev:(p.n.vs++[(txtZ (txtZ p.t).2).1]).getD k eS=(txtZ (txtZ p.t).2).1:=by have:=zde9 eS (txtZ (txtZ p.t).2).1 p.n.vs;rw[(A.1 rfl).1]at this;exact this);rw[O,ev]);rw[K];simp
  | false=>
   (have T:pzStep p=⟨{ p.n with ks:=p.n.ks++[(txtZ p.t).1],kd:=p.n.kd++[(numZ (txtZ p.t).2).1+(numZ (numZ (txtZ p.t).2).2).1*256] },(numZ (numZ (txtZ p.t).2).2).2⟩:=by unfold pzStep;rw[if_neg (by rw[E];decide)]);rw[T]at h |-
   simp only at h |-
   have H:=(zkm9 u).2;have a0:By (numZ (txtZ p.t).2).2.1:=zbi9 H 1;have l1:=zhf9 H;have l2:=zhf9 a0;obtain⟨g1,g2⟩:=zii9 h;obtain⟨Y,i2⟩:=zii9 g1;obtain⟨j1,j2⟩:=ziv9 u Y;obtain⟨k1,k2⟩:=ih j1;refine⟨k1,?_⟩;rw[k2,j2,i2,g2];simp only[flatN];have I:flatN { p.n with ks:=p.n.ks++[(txtZ p.t).1],kd:=p.n.kd++[(numZ (txtZ p.t).2).1+(numZ (numZ (txtZ p.t).2).2).1*256] } k=flatN p.n k:=zgx9 k λ i hi=>by unfold itm kA vA dA;simp only;rw[zdd9 _ _ _ _ (by omega),zdd9 _ _ _ _ (by have:=(A.2 rfl).1;omega)]
   rw[I];have K:itm { p.n with ks:=p.n.ks++[(txtZ p.t).1],kd:=p.n.kd++[(numZ (txtZ p.t).2).1+(numZ (numZ (txtZ p.t).2).2).1*256] } k=((txtZ p.t).1.size:Int)::(bts (txtZ p.t).1++[(numZ (txtZ p.t).2).1,(numZ (numZ (txtZ p.t).2).2).1]):=by
    unfold itm kA dA;simp only;rw[if_neg (by rw[E];decide)];(have O:(p.n.ks++[(txtZ p.t).1]).getD k eS=(txtZ p.t).1:=by have:=zde9 eS (txtZ p.t).1 p.n.ks;rw[Q.1]at this;exact this);(have ed:(p.n.kd++[(numZ (txtZ p.t).2).1+(numZ (numZ (txtZ p.t).2).2).1*256]).getD k 0=(numZ (txtZ p.t).2).1+(numZ (numZ (txtZ p.t).2).2).1*256:=by have:=zde9 (0:Int) ((numZ (txtZ p.t).2).1+(numZ (numZ (txtZ p.t).2).2).1*256) p.n.kd;rw[(A.2 rfl).1]at this;exact this);rw[O,ed];(have a1:((numZ (txtZ p.t).2).1+(numZ (numZ (txtZ p.t).2).2).1*256) % 256=(numZ (txtZ p.t).2).1:=by omega);(have a2:((numZ (txtZ p.t).2).1+(numZ (numZ (txtZ p.t).2).2).1*256) / 256=(numZ (numZ (txtZ p.t).2).2).1:=by omega);rw[a1,a2]
   rw[K];simp
def zx9{t:List Int×Bool}(m:Nat)(h:t.2=true):(takeZ t m).2.2=true:=by unfold takeZ;rw[if_pos (.inl h)]
def zci9{t:List Int×Bool}(h:t.2=true):(txtZ t).2.2=true:=zx9 _ (zx9 1 h)
def zik9{p:Pz}(h:p.t.2=true):(pzStep p).t.2=true:=by
 unfold pzStep;split
 .exact zci9 (zci9 h)
 .exact zx9 1 (zx9 1 (zci9 h))
def zjy9{lf:Bool}{t:List Int×Bool}{k:Nat}(h:(pzN lf t k).t.2=true)(j:Nat)(hj:k<=j):(pzN lf t j).t.2=true:=by
 induction j with
 | zero => have : k = 0 := by omega
           subst this;exact h
 | succ j u=>
  by_cases e:k<=j
  .exact zik9 (u e)
  .have:k=j+1:=by omega
   subst this;exact h
def zng9{xs:List Int}{c:Int}{r:List Int}(u:xs=c::r)(H:By xs){lf:Bool}(h:(pzN lf (r,false) c.toNat).t.2=false):
 (rdOk (rdN lf xs)&&mayN (rdN lf xs).n)=(mayN (pzN lf (r,false) c.toNat).n&&decide (encN (pzN lf (r,false) c.toNat).n (pzN lf (r,false) c.toNat).n.ks.length=xs)):=by
 have K:rdN lf xs=pzN lf (r,false) c.toNat:=by unfold rdN;rw[u,zaa9]
 rw[K];have T:By r:=λ i=>by have:=H (i+1);rw[u]at this;simpa using this
 have hc:0<=c:=by have:=H 0;rw[u]at this;simpa using this.1
 obtain⟨_,A⟩:=pz_inv lf (t:=(r,false)) T c.toNat h;obtain⟨p,Y⟩:=exN (pzN lf (r,false) c.toNat);have I:=(zcz9 lf (r,false) c.toNat).1;rw[Y]at h A I |-
 simp only at A;have O:encN p.n p.n.ks.length=c::flatN p.n c.toNat:=by rw[zue9,I];congr 1;omega
 have Q:rdOk p=decide (encN p.n p.n.ks.length=xs):=by
  unfold rdOk;rw[h,O,u,A];by_cases E:p.t.1.length=0
  .have:p.t.1=[]:=zh0 E;rw[this];simp
  .rw[zl1 E,zl1]
   .rfl
   .intro e;apply E;have:=congrArg List.length e;simp only[zk0,zf0]at this;omega
 rw[Q,Bool.and_comm]
def zer9{xs:List Int}{k:Nat}(h:k<xs.length):xs.drop k=xs.getD k 0::xs.drop (k+1):=by rw[List.drop_eq_getElem_cons h,zn3,zc0 h];rfl
def txt_at{xs:List Int}{k:Nat}(h:k<xs.length)(A:By xs)(u:k+1+(xs.getD k 0).toNat<=xs.length):
 txtZ (xs.drop k,false)=(strOfNums ((xs.drop (k+1)).take (xs.getD k 0).toNat),(xs.drop (k+1+(xs.getD k 0).toNat),false)):=by
 unfold txtZ;rw[zer9 h,zaa9];simp only;unfold takeZ;rw[if_neg (by rw[zj0];intro h;rcases h with h|h;(· cases h);(· omega))];simp only[ze1]
def txt_no{xs:List Int}{k:Nat}(h:¬(k<xs.length/\k+1+(xs.getD k 0).toNat<=xs.length)):(txtZ (xs.drop k,false)).2.2=true:=by
 by_cases u:k<xs.length
 .unfold txtZ;rw[zer9 u,zaa9];simp only;unfold takeZ;rw[if_pos (.inr (by simp only[zj0];omega))]
 .have e:xs.drop k=[]:=List.drop_of_length_le (by omega);rw[e];unfold txtZ;have:(numZ (([]:List Int),false)).2.2=true:=by unfold numZ takeZ;rw[if_pos (.inr (by simp))]
  exact zx9 _ this
def zak9{A:Func}{p q r:Tmp}(h:A.results=#[.tmp p,.tmp q,.tmp r])(u:Array Value)(P:Program)(w:World)(x y z:Value)(E:u.getD p undef=x)(H:u.getD q undef=y)(I:u.getD r undef=z):
 (results A u).run P w=.ok (.tuple #[x,y,z]) w:=by
 rw[results_tmp3 h,E,H,I]
def zwd9(v:Value)(xs:List Int)(at_:Nat)(w:World)(hr:Rd .u8 w v xs)(hb:By xs)(ha:at_<=4611686018427387904):
 Calls Tryz.prog 80 #[v,.int .i64 (at_:Int)] w λ e w'=>((∃nx:Nat,e=.returned (.tuple #[.string (txtZ (xs.drop at_,false)).1,.int .i64 (nx:Int),.bool true])/\(txtZ (xs.drop at_,false)).2=(xs.drop nx,false)/\nx<=xs.length)\/(e=.returned (.tuple #[.string ⟨#[]⟩,.int .i64 0,.bool false])/\(txtZ (xs.drop at_,false)).2.2=true))/\w'=w:=by
 obtain⟨a,cap,rfl,h1,I,_,K⟩:=id hr;have HR:=za0 hr;have a5:xs.length<=9223372036854775807:=by unfold maxLen at I;omega
 have a6:=hb at_;obtain⟨L,u⟩:=exH xs.length;obtain⟨x,E⟩:=exH (xs.getD at_ 0);obtain⟨T,hT⟩:=exH (txtZ (xs.drop at_,false));have A:Hid (¬(at_<L/\at_+1+x.toNat<=L)->T.2.2=true):=λ h=>by rw[<-hT.o];exact txt_no (by rw[u.o,E.o];exact h)
 have H:Hid (at_<L->at_+1+x.toNat<=L->T=(strOfNums ((xs.drop (at_+1)).take x.toNat),(xs.drop (at_+1+x.toNat),false))):=λ q1 q2=>by have:=txt_at (xs:=xs) (k:=at_) (by rw[u.o];exact q1) hb (by rw[u.o,E.o];exact q2);rw[hT.o,E.o]at this;exact this
 rw[hT.o];rw[u.o]at HR h1 a5 |-
 rw[E.o]at a6;by_cases hk:at_<L
 .rcases K with K|⟨b,o,rfl,hc⟩
  .rw[K]at u;have:=u.o;simp at this;omega
  have cx:w.cell? ⟨b,o+at_,none⟩=some (.int .u8 x):=by rw[hc at_ (by rw[u.o];exact hk),E.o]
  have HC:=za0 hc;have a3:=za0 I;clear hr hc I;obtain⟨m,hm⟩:∃m:Nat,x=(m:Int):=⟨x.toNat,by omega⟩
  subst hm;have ad:m<=255:=by omega
  have a8:decide ((L:Int)<=(at_:Int))=false:=by rw[zn4];omega
  by_cases aa:at_+1+m<=L
  .have HY:=za0 (H.o hk (by rw[Int.toNat_natCast];exact aa));(have a9:decide ((L:Int)<(at_:Int)+1+(m:Int))=false:=by rw[zn4];omega);have RR:Rd .u8 w (.slice (some ⟨b,o+(at_+1),none⟩) m (cap-(at_+1))) ((xs.drop (at_+1)).take m):=by (have Y:((xs.drop (at_+1)).take m).length=m:=by rw[zg0,zj0,u.o];omega);refine⟨_,cap-(at_+1),by rw[Y],by rw[Y];omega,by have:=a3.o;omega,(λ e=>by cases e),.inr ⟨b,o+(at_+1),rfl,λ i hi=>?_⟩⟩;rw[Y]at hi;rw[Nat.add_assoc,HC.o (at_+1+i) (by rw[u.o];omega),zn3,zn3,zv0,if_pos hi,zu0]
   have a1:=zpa9 w _ _ RR;obtain⟨s,hs⟩:=exH (strOfNums ((xs.drop (at_+1)).take m));rw[hs.o]at a1;(have Q:Hid (T.1=s/\T.2=(xs.drop (at_+1+m),false)):=by show _/\_;rw[HY.o];simp only[Int.toNat_natCast];exact⟨hs.o,trivial⟩);rw[Q.o.1];clear RR A H HY;(have a0:((at_:Int)+1+(m:Int))=((at_+1+m:Nat):Int):=by omega);have a4:=za0 a0;clear a0;by_cases a7:cap=at_+1
   .have ab:m=0:=by omega
    subst ab;have ac:=zpa9 w (.slice (some ⟨b,o,none⟩) 0 0) [] ⟨some ⟨b,o,none⟩,0,rfl,zn6 _,by unfold maxLen;omega,λ _=>rfl,.inl rfl⟩;(have a2:strOfNums []=s:=by rw[<-hs.o];rfl);rw[a2]at ac;clear a2 a1;subst a7
    go_enter Tryz.func80,Tryz.ntmps80
    go_wp2_with fail;all_goals
     refine bodyPost_ret (v:=.tuple #[.string s,.int .i64 ((at_:Int)+1),.bool true]) (zak9 rfl _ _ _ _ _ _ rfl rfl rfl) rfl ?_;exact⟨.inl ⟨at_+1,by first|rfl|simp,by simpa using Q.o.2,by omega⟩,rfl⟩
   .go_enter Tryz.func80,Tryz.ntmps80
    go_wp2_with fail;all_goals
     refine bodyPost_ret (v:=.tuple #[.string s,.int .i64 ((at_:Int)+1+(m:Int)),.bool true]) (zak9 rfl _ _ _ _ _ _ rfl rfl rfl) rfl ?_;exact⟨.inl ⟨at_+1+m,by rw[a4.o],Q.o.2,by omega⟩,rfl⟩
  .have O:=za0 (A.o (by rw[Int.toNat_natCast];omega));(have a9:(L:Int)<(at_:Int)+1+(m:Int):=by omega);clear A H
   go_enter Tryz.func80,Tryz.ntmps80
   go_wp2_with fail;refine bodyPost_ret (v:=.tuple #[.string ⟨#[]⟩,.int .i64 0,.bool false]) (zak9 rfl _ _ _ _ _ _ rfl rfl rfl) rfl ?_;exact⟨.inr ⟨rfl,O.o⟩,rfl⟩
 .have O:=za0 (A.o (by omega));have a8:(L:Int)<=(at_:Int):=by omega
  clear hr K I A H
  go_enter Tryz.func80,Tryz.ntmps80
  go_wp2_with fail;refine bodyPost_ret (v:=.tuple #[.string ⟨#[]⟩,.int .i64 0,.bool false]) (zak9 rfl _ _ _ _ _ _ rfl rfl rfl) rfl ?_;exact⟨.inr ⟨rfl,O.o⟩,rfl⟩
