import Derived.Test.YtcmjlibndmneiaaGreatPNCut
set_option maxRecDepth 100000
set_option linter.all false
set_option maxHeartbeats 8000000
namespace Go.Proofs.YtcmjlibndmneiaaGreat
open Go.RowKit Pl
def takeN(n:Nd)(m:Nat):Nd:={ lf:=n.lf,ks:=n.ks.take m,vs:=n.vs.take m,kd:=n.kd.take m }
def dropN(n:Nd)(m:Nat):Nd:={ lf:=n.lf,ks:=n.ks.drop m,vs:=n.vs.drop m,kd:=n.kd.drop m }
def noneN:Nd:={ lf:=false,ks:=[],vs:=[],kd:=[] }
def zfb9{A:Func}{p q:Tmp}{ty tz:TypeId}(h:A.results=#[.cell p ty,.cell q tz])(u:Array Value)(P:Program)(w:World)(b c:Nat)(v x:Value)(ha:u.getD p undef=.pointer (some ⟨b,0,none⟩))(E:u.getD q undef=.pointer (some ⟨c,0,none⟩))
 (H:(loadVar ty ⟨b,0,none⟩).run P w=.ok v w) (I:(loadVar tz ⟨c,0,none⟩).run P w=.ok x w):(results A u).run P w=.ok (.tuple #[v,x]) w:=by
 rw[Array.getD_eq_getD_getElem?]at ha E;simp only[results,h];simp[Sem.run_bind,Result.andThen,asAddr];rw[ha,E];simp[H,I]
def zbt9{o:Oper}{a:Act}{w:World}{K:Act->World->Prop}{Q:Exit->Act->World->Prop}(u:o.op=.alloc 93)
 (h:K (a.put o.dst (.pointer (some ⟨w.heap.size,0,none⟩))) (w.alloc (.cells #[.bool false,.slice none 0 0,.slice none 0 0,.slice none 0 0] 93))):Oper.wp Tryz.prog o a w K Q:=by
 have A:(execOp a.eval o).run Tryz.prog w=.ok (Next.value (.pointer (some ⟨w.heap.size,0,none⟩))) (w.alloc (.cells #[.bool false,.slice none 0 0,.slice none 0 0,.slice none 0 0] 93)):=by unfold execOp;simp only[u];go_simp
 unfold Oper.wp;simp only[A,Oper.upon];exact h
structure SpN(W3 Y:World)(b p q:Nat)(lf lp lq:Bool)(u1 u2 u3 k1 k2 k3 o1 o2 o3:Value):Prop where
 n:Nb Y 93 b lf u1 u2 u3
 r2:Nb Y 93 (b+1) false (.slice none 0 0) (.slice none 0 0) (.slice none 0 0)
 r3:Nb Y 93 (b+2) false (.slice none 0 0) (.slice none 0 0) (.slice none 0 0)
 pk:Nb Y 93 p lp k1 k2 k3
 qk:Nb Y 93 q lq o1 o2 o3
 bl:Below W3.heap.size W3 Y
 pq:p≠q
 pl:b+3<=p
 ql:b+3<=q
 pz:p<b+5
 qz:q<b+5
 w3:W3.heap.size=b+3
 zz:b+5<=Y.heap.size
section
variable {W3 Y Y':World} {b p q:Nat} {lf lp lq:Bool} {u1 u2 u3 k1 k2 k3 o1 o2 o3:Value}
def SpN.below(h:SpN W3 Y b p q lf lp lq u1 u2 u3 k1 k2 k3 o1 o2 o3)(u:Below Y.heap.size Y Y'):SpN W3 Y' b p q lf lp lq u1 u2 u3 k1 k2 k3 o1 o2 o3:=
 ⟨h.n.below u,h.r2.below u,h.r3.below u,h.pk.below u,h.qk.below u,h.bl.trans (u.mono h.bl.size),h.pq,h.pl,h.ql,h.pz,h.qz,h.w3,zn2 h.zz u.size⟩
def SpN.atp{A:Bool}{x1 x2 x3:Value}(h:SpN W3 Y b p q lf lp lq u1 u2 u3 k1 k2 k3 o1 o2 o3)(u:Tch (λ j=>j=p) Y Y')(E:Nb Y' 93 p A x1 x2 x3):SpN W3 Y' b p q lf A lq u1 u2 u3 x1 x2 x3 o1 o2 o3:=by have H:=h.pl;have I:=h.w3;have K:=h.pq;exact⟨h.n.tch u (by omega),h.r2.tch u (by omega),h.r3.tch u (by omega),E,h.qk.tch u (by omega),h.bl.trans (u.below h.bl.size (λ j e=>by omega)),h.pq,h.pl,h.ql,h.pz,h.qz,h.w3,zn2 h.zz u.size⟩
def SpN.atq{A:Bool}{x1 x2 x3:Value}(h:SpN W3 Y b p q lf lp lq u1 u2 u3 k1 k2 k3 o1 o2 o3)(u:Tch (λ j=>j=q) Y Y')(E:Nb Y' 93 q A x1 x2 x3):SpN W3 Y' b p q lf lp A u1 u2 u3 k1 k2 k3 x1 x2 x3:=by have H:=h.ql;have I:=h.w3;have K:=h.pq;exact⟨h.n.tch u (by omega),h.r2.tch u (by omega),h.r3.tch u (by omega),h.pk.tch u (by omega),E,h.bl.trans (u.below h.bl.size (λ j e=>by omega)),h.pq,h.pl,h.ql,h.pz,h.qz,h.w3,zn2 h.zz u.size⟩
def SpN.setp(h:SpN W3 Y b p q lf lp lq u1 u2 u3 k1 k2 k3 o1 o2 o3)(u:Bool){x1 x2 x3:Value}:SpN W3 ((((Y.setCell ⟨p,0,none⟩ (.bool u)).setCell ⟨p,1,none⟩ x1).setCell ⟨p,2,none⟩ x2).setCell ⟨p,3,none⟩ x3) b p q lf u lq u1 u2 u3 x1 x2 x3 o1 o2 o3:=h.atp (zl9 _ _ _ _ _ _) (h.pk.all _ _ _ _)
def SpN.setq(h:SpN W3 Y b p q lf lp lq u1 u2 u3 k1 k2 k3 o1 o2 o3)(u:Bool){x1 x2 x3:Value}:SpN W3 ((((Y.setCell ⟨q,0,none⟩ (.bool u)).setCell ⟨q,1,none⟩ x1).setCell ⟨q,2,none⟩ x2).setCell ⟨q,3,none⟩ x3) b p q lf lp u u1 u2 u3 k1 k2 k3 x1 x2 x3:=h.atq (zl9 _ _ _ _ _ _) (h.qk.all _ _ _ _)
def SpN.p1(h:SpN W3 Y b p q lf lp lq u1 u2 u3 k1 k2 k3 o1 o2 o3)(x:Value):SpN W3 (Y.setCell ⟨p,1,none⟩ x) b p q lf lp lq u1 u2 u3 x k2 k3 o1 o2 o3:=h.atp (tch_at _ _ _ _) (h.pk.s1 x)
def SpN.q1(h:SpN W3 Y b p q lf lp lq u1 u2 u3 k1 k2 k3 o1 o2 o3)(x:Value):SpN W3 (Y.setCell ⟨q,1,none⟩ x) b p q lf lp lq u1 u2 u3 k1 k2 k3 x o2 o3:=h.atq (tch_at _ _ _ _) (h.qk.s1 x)
def SpN.p2(h:SpN W3 Y b p q lf lp lq u1 u2 u3 k1 k2 k3 o1 o2 o3)(x:Value):SpN W3 (Y.setCell ⟨p,2,none⟩ x) b p q lf lp lq u1 u2 u3 k1 x k3 o1 o2 o3:=h.atp (tch_at _ _ _ _) (h.pk.s2 x)
def SpN.q2(h:SpN W3 Y b p q lf lp lq u1 u2 u3 k1 k2 k3 o1 o2 o3)(x:Value):SpN W3 (Y.setCell ⟨q,2,none⟩ x) b p q lf lp lq u1 u2 u3 k1 k2 k3 o1 x o3:=h.atq (tch_at _ _ _ _) (h.qk.s2 x)
def SpN.p3(h:SpN W3 Y b p q lf lp lq u1 u2 u3 k1 k2 k3 o1 o2 o3)(x:Value):SpN W3 (Y.setCell ⟨p,3,none⟩ x) b p q lf lp lq u1 u2 u3 k1 k2 x o1 o2 o3:=h.atp (tch_at _ _ _ _) (h.pk.s3 x)
def SpN.q3(h:SpN W3 Y b p q lf lp lq u1 u2 u3 k1 k2 k3 o1 o2 o3)(x:Value):SpN W3 (Y.setCell ⟨q,3,none⟩ x) b p q lf lp lq u1 u2 u3 k1 k2 k3 o1 o2 x:=h.atq (tch_at _ _ _ _) (h.qk.s3 x)
def SpN.keep(h:SpN W3 Y b p q lf lp lq u1 u2 u3 k1 k2 k3 o1 o2 o3){v:Value}{xs:List Value}(hr:RdV Y v xs)(A:∀j,v.ownBlock=some j->b+5<=j){i E:Nat}{x H:Value}:RdV ((Y.setCell ⟨p,i,none⟩ x).setCell ⟨q,E,none⟩ H) v xs:=
 (hr.tch (tch_at _ _ _ _) (λ j u e=>by have:=A j u;have:=h.pz;omega)).tch (tch_at _ _ _ _) (λ j u e=>by have:=A j u;have:=h.qz;omega)
def SpN.cells(h:SpN W3 Y b p q lf lp lq u1 u2 u3 k1 k2 k3 o1 o2 o3):Y.cell? ⟨b,0,none⟩=some (.bool lf)/\Y.cell? ⟨b,1,none⟩=some u1/\Y.cell? ⟨b,2,none⟩=some u2/\Y.cell? ⟨b,3,none⟩=some u3:=⟨h.n.c0,h.n.c1,h.n.c2,h.n.c3⟩
end
def SplR(n A B:Nd):Prop:=(n.ks.length<2/\A=joinN n noneN/\B=noneN)\/(2<=n.ks.length/\∃m,MidR n m/\A=takeN n m/\B=dropN n m)
def Ub3(w:World)(v1 v2 v3:Value):Prop:=∀j,(v1.ownBlock=some j\/v2.ownBlock=some j\/v3.ownBlock=some j)->j<w.heap.size
def zpk9(n:Nd)(u1 u2 u3:Value)(w:World)(h:Nn w n u1 u2 u3)(hs:Sm n):
 Calls Tryz.prog 158 #[nod n.lf u1 u2 u3] w λ e w'=>(∃k1 k2 k3 o1 o2 o3 A B,e=.returned (.tuple #[nod A.lf k1 k2 k3,nod B.lf o1 o2 o3])/\Nn w' A k1 k2 k3/\Nn w' B o1 o2 o3/\SplR n A B/\Fr3 w.heap.size k1 k2 k3/\Fr3 w.heap.size o1 o2 o3/\Ub3 w' k1 k2 k3/\Ub3 w' o1 o2 o3)/\Below w.heap.size w w':=by
 suffices X:Calls Tryz.prog 158 #[nod n.lf u1 u2 u3] w λ e w'=>(∃k1 k2 k3 o1 o2 o3 A B,e=.returned (.tuple #[nod n.lf k1 k2 k3,nod (if n.ks.length<2 then false else n.lf) o1 o2 o3])/\Nn w' A k1 k2 k3/\Nn w' B o1 o2 o3/\SplR n A B/\Fr3 w.heap.size k1 k2 k3/\Fr3 w.heap.size o1 o2 o3/\Ub3 w' k1 k2 k3/\Ub3 w' o1 o2 o3)/\Below w.heap.size w w' by
  refine X.mono ?_;rintro e w' ⟨⟨k1,k2,k3,o1,o2,o3,A,B,rfl,hA,hB,hR,hF⟩,hb⟩;refine⟨⟨k1,k2,k3,o1,o2,o3,A,B,?_,hA,hB,hR,hF⟩,hb⟩;rcases hR with⟨hl,rfl,rfl⟩|⟨hl,m,_,rfl,rfl⟩
  .rw[if_pos hl];rfl
  .rw[if_neg (by omega)];rfl
 obtain⟨a1,c1,a2,c2,a3,c3,rfl,rfl,rfl,⟨l1,l2,l3,l4,l5,l6⟩,_,_,_⟩:=h.o;have H:=za0 h;have HS:=za0 hs;obtain⟨L1,bf⟩:=exH n.ks.length;obtain⟨L2,cl⟩:=exH n.vs.length;obtain⟨L3,cm⟩:=exH n.kd.length;rw[bf.o]at H l1 |-
 rw[cl.o]at H l3 |-
 rw[cm.o]at H l5 |-
 obtain⟨lf,bs⟩:=exH n.lf;rw[bs.o];unfold nod;obtain⟨W1,bh⟩:=exN (w.alloc (.cells #[.bool lf,.slice a1 L1 c1,.slice a2 L2 c2,.slice a3 L3 c3] 93));have B1:Hid (Below w.heap.size w W1):=by rw[<-bh];exact za9 _ _
 have V1:Hid (Nb W1 93 w.heap.size lf (.slice a1 L1 c1) (.slice a2 L2 c2) (.slice a3 L3 c3)):=by rw[<-bh];exact nb_new _ _ _ _ _ _
 have H1:=za0 (H.o.below B1.o);obtain⟨W2,bi⟩:=exN (W1.alloc (.cells #[.bool false,.slice none 0 0,.slice none 0 0,.slice none 0 0] 93));obtain⟨W3,bj⟩:=exN (W2.alloc (.cells #[.bool false,.slice none 0 0,.slice none 0 0,.slice none 0 0] 93));have s1:W1.heap.size=w.heap.size+1:=by rw[<-bh];simp
 have s2:W2.heap.size=w.heap.size+2:=by rw[<-bi];simp[s1]
 have s3:Hid (W3.heap.size=w.heap.size+3):=by rw[<-bj];simp[s2,Hid]
 have b2:Below W1.heap.size W1 W2:=by rw[<-bi];exact za9 _ _
 have b3:Below W2.heap.size W2 W3:=by rw[<-bj];exact za9 _ _
 have au:=za0 ((B1.o.trans (b2.mono B1.o.size)).trans (b3.mono (B1.o.trans (b2.mono B1.o.size)).size));have Y2:Nb W2 93 (w.heap.size+1) false (.slice none 0 0) (.slice none 0 0) (.slice none 0 0):=by rw[<-bi,<-s1];exact nb_new _ _ _ _ _ _
 have Z3:Nb W3 93 (w.heap.size+2) false (.slice none 0 0) (.slice none 0 0) (.slice none 0 0):=by rw[<-bj,<-s2];exact nb_new _ _ _ _ _ _
 have SS:Hid (Nb W3 93 w.heap.size lf (.slice a1 L1 c1) (.slice a2 L2 c2) (.slice a3 L3 c3)/\Nb W3 93 (w.heap.size+1) false (.slice none 0 0) (.slice none 0 0) (.slice none 0 0)/\Nb W3 93 (w.heap.size+2) false (.slice none 0 0) (.slice none 0 0) (.slice none 0 0)):=⟨(V1.o.below b2).below b3,Y2.below b3,Z3⟩
 have bx:Hid (∀(W:World)(m:Nat),Below W3.heap.size W3 W->m<=9007199254740992->Calls Tryz.prog 176 #[.slice a1 L1 c1,.int .i64 (m:Int)] W λ e w'=>(∃v1 v2,e=.returned (.tuple #[v1,v2])/\RdV w' v1 ((strs n.ks).take m)/\RdV w' v2 ((strs n.ks).drop m)/\∀j,(v1.ownBlock=some j\/v2.ownBlock=some j)->W.heap.size<=j/\j<w'.heap.size)/\Below W.heap.size W w'):=λ W m hb hm=>zgu9 _ _ m W ((H.o.below au.o).below hb).k (zax9 _) (by rw[zh9];have:=HS.o.kl;omega) hm
 have bz:Hid (∀(W:World)(m:Nat),Below W3.heap.size W3 W->m<=9007199254740992->Calls Tryz.prog 176 #[.slice a2 L2 c2,.int .i64 (m:Int)] W λ e w'=>(∃v1 v2,e=.returned (.tuple #[v1,v2])/\RdV w' v1 ((strs n.vs).take m)/\RdV w' v2 ((strs n.vs).drop m)/\∀j,(v1.ownBlock=some j\/v2.ownBlock=some j)->W.heap.size<=j/\j<w'.heap.size)/\Below W.heap.size W w'):=λ W m hb hm=>zgu9 _ _ m W ((H.o.below au.o).below hb).v (zax9 _) (by rw[zh9];have:=HS.o.vl;omega) hm
 have c4:Hid (∀(W:World)(m:Nat),Below W3.heap.size W3 W->m<=9007199254740992->Calls Tryz.prog 177 #[.slice a3 L3 c3,.int .i64 (m:Int)] W λ e w'=>(∃v1 v2,e=.returned (.tuple #[v1,v2])/\RdV w' v1 ((nums n.kd).take m)/\RdV w' v2 ((nums n.kd).drop m)/\∀j,(v1.ownBlock=some j\/v2.ownBlock=some j)->W.heap.size<=j/\j<w'.heap.size)/\Below W.heap.size W w'):=λ W m hb hm=>zmp9 _ _ m W ((H.o.below au.o).below hb).d (zcq9 _) (by rw[zf9];have:=HS.o.dl;omega) hm;have c0:=SS.o.1.c0;have c6:=SS.o.1.c1;have c7:=SS.o.1.c2;have c9:=SS.o.1.c3;by_cases br:L1<2
 .rw[if_pos br];have HJ:Hid (Calls Tryz.prog 174 #[.agg #[.bool lf,.slice a1 L1 c1,.slice a2 L2 c2,.slice a3 L3 c3],.agg #[.bool false,.slice none 0 0,.slice none 0 0,.slice none 0 0]] W3 λ e w'=>(∃x1 x2 x3,e=.returned (nod lf x1 x2 x3)/\Nn w' (joinN n noneN) x1 x2 x3/\(∀j,x1.ownBlock=some j->W3.heap.size<=j/\j<w'.heap.size)/\(∀j,x2.ownBlock=some j->W3.heap.size<=j/\j<w'.heap.size)/\(∀j,x3.ownBlock=some j->W3.heap.size<=j/\j<w'.heap.size))/\Below W3.heap.size W3 w'):=by have:=zfw9 n noneN _ _ _ _ _ _ W3 (H.o.below au.o) ⟨zaq9 _,zaq9 _,zaq9 _⟩ (by have:=HS.o.kl;simp[noneN];omega) (by have:=HS.o.vl;simp[noneN];omega) (by have:=HS.o.dl;simp[noneN];omega);rw[bs.o]at this;exact this
  clear h hs H b2 b3 Y2 Z3 bx bz c4
  go_enter Tryz.func158,Tryz.ntmps158
  go_wp2_with fail;refine HJ.o.mono ?_;rintro e X ⟨⟨x1,x2,x3,rfl,hN,ao⟩,Y⟩;obtain⟨O,Q,ca⟩:=hN.k.long;obtain⟨a0,a4,cd⟩:=hN.v.long;obtain⟨a6,a7,ce⟩:=hN.d.long;obtain⟨T,bo⟩:=exH ((strs (joinN n noneN).ks).length);obtain⟨a5,bp⟩:=exH ((strs (joinN n noneN).vs).length);obtain⟨a8,bq⟩:=exH ((nums (joinN n noneN).kd).length);rw[bo.o]at ca;rw[bp.o]at cd;rw[bq.o]at ce;subst ca cd ce;have r2:=SS.o.2.1.below Y;have r3:=SS.o.2.2.below Y;have tA:=zl9 X (w.heap.size+1) (.bool lf) (.slice O T Q) (.slice a0 a5 a4) (.slice a6 a8 a7);have NA:=r2.all lf (.slice O T Q) (.slice a0 a5 a4) (.slice a6 a8 a7);have rA:=r3.tch tA (by omega)
  obtain⟨WA,bk⟩:=exN ((((X.setCell ⟨w.heap.size+1,0,none⟩ (.bool lf)).setCell ⟨w.heap.size+1,1,none⟩ (.slice O T Q)).setCell ⟨w.heap.size+1,2,none⟩ (.slice a0 a5 a4)).setCell ⟨w.heap.size+1,3,none⟩ (.slice a6 a8 a7));rw[bk]at tA NA rA;have tB:=zl9 WA (w.heap.size+2) (.bool false) (.slice none 0 0) (.slice none 0 0) (.slice none 0 0);have NB:=rA.all false (.slice none 0 0) (.slice none 0 0) (.slice none 0 0);have NC:=NA.tch tB (by omega);obtain⟨WB,bl⟩:=exN ((((WA.setCell ⟨w.heap.size+2,0,none⟩ (.bool false)).setCell ⟨w.heap.size+2,1,none⟩ (.slice none 0 0)).setCell ⟨w.heap.size+2,2,none⟩ (.slice none 0 0)).setCell ⟨w.heap.size+2,3,none⟩ (.slice none 0 0));rw[bl]at tB NB NC;have p0:=r2.c0
  have p1:=r2.c1;have p2:=r2.c2;have p3:=r2.c3;have f0:=r2.fz 0;have cr:=r2.fz 1;have cs:=r2.fz 2;have ct:=r2.fz 3;have y0:=rA.c0;have y1:=rA.c1;have y2:=rA.c2;have y3:=rA.c3;have g0:=rA.fz 0;have g1:=rA.fz 1;have g2:=rA.fz 2;have g3:=rA.fz 3;have LA:=za0 NC.load;have LB:=za0 NB.load;have KK:Hid (Nn WB (joinN n noneN) (.slice O T Q) (.slice a0 a5 a4) (.slice a6 a8 a7)):=by
   have nn:=hN;exact(nn.tch tA (λ j u e=>by have:=(ao.1 j u).1;have:=s3.o;omega) (λ j u e=>by have:=(ao.2.1 j u).1;have:=s3.o;omega) (λ j u e=>by have:=(ao.2.2 j u).1;have:=s3.o;omega)).tch tB (λ j u e=>by have:=(ao.1 j u).1;have:=s3.o;omega) (λ j u e=>by have:=(ao.2.1 j u).1;have:=s3.o;omega) (λ j u e=>by have:=(ao.2.2 j u).1;have:=s3.o;omega)
  have OO:Hid (Nn WB noneN (.slice none 0 0) (.slice none 0 0) (.slice none 0 0)):=⟨zaq9 _,zaq9 _,zaq9 _⟩
  have BB:Hid (Below w.heap.size w WB):=by have h1:=au.o.trans (Y.mono au.o.size);have h2:=h1.trans (tA.below h1.size (λ j e=>by omega));exact h2.trans (tB.below h2.size (λ j e=>by omega))
  have HL:=za0 br;have FK:Hid (Fr3 w.heap.size (.slice O T Q) (.slice a0 a5 a4) (.slice a6 a8 a7)):=λ j u=>by
   have:=s3.o;rcases u with e|e|e
   .have:=(ao.1 j e).1;omega
   .have:=(ao.2.1 j e).1;omega
   .have:=(ao.2.2 j e).1;omega
  have FO:Hid (Fr3 w.heap.size (.slice none 0 0) (.slice none 0 0) (.slice none 0 0)):=λ j u=>by rcases u with e|e|e<;>cases e
  have UK:Hid (Ub3 WB (.slice O T Q) (.slice a0 a5 a4) (.slice a6 a8 a7)):=λ j u=>by
   refine zn1 ?_ (zn2 tA.size tB.size);rcases u with e|e|e
   .exact(ao.1 j e).2
   .exact(ao.2.1 j e).2
   .exact(ao.2.2 j e).2
  have UO:Hid (Ub3 WB (.slice none 0 0) (.slice none 0 0) (.slice none 0 0)):=λ j u=>by rcases u with e|e|e<;>cases e
  clear tA tB NA NB NC rA r2 r3 hN ao Y c0 c6 c7 c9 bh bi bj SS HJ au;unfold nod;go_wp2_with fail;try rw[bk]
  try rw[bl]
  refine bodyPost_ret (v:=.tuple #[nod lf (.slice O T Q) (.slice a0 a5 a4) (.slice a6 a8 a7),nod false (.slice none 0 0) (.slice none 0 0) (.slice none 0 0)]) (zfb9 (p:=2) (q:=3) (ty:=93) (tz:=93) rfl _ _ _ (w.heap.size+1) (w.heap.size+2) _ _ rfl rfl LA.o LB.o) rfl ?_;exact⟨⟨_,_,_,_,_,_,joinN n noneN,noneN,rfl,KK.o,OO.o,.inl ⟨by rw[bf.o];exact HL.o,rfl,rfl⟩,FK.o,FO.o,UK.o,UO.o⟩,BB.o⟩
 .rw[if_neg br];have h2:Hid (2<=L1):=by show _<=_;omega
  have ci:Hid (∀(W:World),Below W3.heap.size W3 W->Calls Tryz.prog 175 #[.agg #[.bool lf,.slice a1 L1 c1,.slice a2 L2 c2,.slice a3 L3 c3]] W λ e w'=>(∃m:Nat,e=.returned (.int .i64 (m:Int))/\MidR n m)/\Below W.heap.size W w'):=λ W hb=>by have:=zoi9 n _ _ _ W ((H.o.below au.o).below hb) HS.o (by rw[bf.o];exact h2.o);rw[bs.o]at this;exact this
  have ch:Hid (∀m,MidR n m->m<=9007199254740992):=λ m hm=>by have:=hm.lt;have:=HS.o.kl;omega
  clear h hs H b2 b3 Y2 Z3
  go_enter Tryz.func158,Tryz.ntmps158
  go_wp2_with fail;clear c0 c6 c7 c9;refine beginW (S:=λ w'=>Nb w' 93 w.heap.size lf (.slice a1 L1 c1) (.slice a2 L2 c2) (.slice a3 L3 c3)) (t:=9) (by kernel_rfl) ?_;have hS:=SS.o.1.below ((Below.refl _ _).drew);refine tkW 0 (some 15) (.fieldAddr 93 (.tmp 1) 0) (Value.pointer (some ⟨w.heap.size,0,none⟩)) (by rintro o I w' _;go_simp) hS ?_;simp only[zw];refine tkW 1 (some 16) (.load 4 (.tmp 15)) (Value.bool lf) ?hy hS ?_;case hy=>rintro o I w' hA;have q:=hA.c0;go_simp
  simp only[zw];refine tkW 2 (some 17) (.build 93 #[(0,.tmp 16)]) (nod lf (.slice none 0 0) (.slice none 0 0) (.slice none 0 0)) ?hy hS ?_;case hy=>rintro o I w' _;unfold nod;go_simp
  simp only[zw];refine tkW 3 (some 18) (.fieldAddr 93 (.tmp 1) 0) (Value.pointer (some ⟨w.heap.size,0,none⟩)) (by rintro o I w' _;go_simp) hS ?_;simp only[zw];refine tkW 4 (some 19) (.load 4 (.tmp 18)) (Value.bool lf) ?hy hS ?_;case hy=>rintro o I w' hA;have q:=hA.c0;go_simp
  simp only[zw];refine tkW 5 (some 20) (.build 93 #[(0,.tmp 19)]) (nod lf (.slice none 0 0) (.slice none 0 0) (.slice none 0 0)) ?hy hS ?_;case hy=>rintro o I w' _;unfold nod;go_simp
  simp only[zw];obtain⟨X0,b7⟩:=exN W3.drew;have b0:Below W3.heap.size W3 X0:=by rw[<-b7];exact(Below.refl _ _).drew
  rw[b7]at hS |-
  have bg:=hS;have z0:X0.heap.size=w.heap.size+3:=by rw[<-b7];exact s3.o
  refine zda9 6 7 (some 4) (.alloc 93) (some 5) (.alloc 93) rfl rfl (by kernel_rfl) ?_ ?_;focus
   rintro o K hd I hg hK;refine zbt9 I ?_;rw[hd];obtain⟨p,hp⟩:=exN X0.heap.size;obtain⟨X1,ap⟩:=exN (X0.alloc (.cells #[.bool false,.slice none 0 0,.slice none 0 0,.slice none 0 0] 93));(have am:Below X0.heap.size X0 X1:=by rw[<-ap];exact za9 _ _);(have bu:X1.heap.size=p+1:=by rw[<-ap,<-hp];simp);(have bb:Nb X1 93 p false (.slice none 0 0) (.slice none 0 0) (.slice none 0 0):=by rw[<-ap,<-hp];exact nb_new _ _ _ _ _ _);rw[ap,hp];have ay:=bg.below am;refine hK _ _ (λ _=>ay) ?_;clear I hd hg hK;simp only[zw];refine rdW 7 (some 5) (.alloc 93) ?_;rintro o K hd I hg hK;refine zbt9 I ?_;rw[hd];obtain⟨q,hq⟩:=exN X1.heap.size
   obtain⟨X2,aq⟩:=exN (X1.alloc (.cells #[.bool false,.slice none 0 0,.slice none 0 0,.slice none 0 0] 93));(have an:Below X1.heap.size X1 X2:=by rw[<-aq];exact za9 _ _);(have bw:X2.heap.size=q+1:=by rw[<-aq,<-hq];simp);(have bc:Nb X2 93 q false (.slice none 0 0) (.slice none 0 0) (.slice none 0 0):=by rw[<-aq,<-hq];exact nb_new _ _ _ _ _ _);rw[aq,hq];have az:=ay.below an;refine hK _ _ (λ _=>az) ?_;clear I hd hg hK;simp only[zw];have cf:=bb.below an;(have FR:p≠q/\w.heap.size+3<=p/\w.heap.size+3<=q/\p<w.heap.size+5/\q<w.heap.size+5/\X2.heap.size=w.heap.size+5:=by omega);have b9:=cf;have ba:=bc
   have bd:SpN W3 X2 w.heap.size p q lf false false (.slice a1 L1 c1) (.slice a2 L2 c2) (.slice a3 L3 c3) (.slice none 0 0) (.slice none 0 0) (.slice none 0 0) (.slice none 0 0) (.slice none 0 0) (.slice none 0 0):=⟨az,((SS.o.2.1.below b0).below am).below an,((SS.o.2.2.below b0).below am).below an,b9,ba,(b0.trans (am.mono b0.size)).trans (an.mono (b0.trans (am.mono b0.size)).size),FR.1,FR.2.1,FR.2.2.1,FR.2.2.2.1,FR.2.2.2.2.1,s3.o,by omega⟩
   clear am an bu bw ap aq hp hq bb bc cf b9 ba ay az FR b0 z0 b7 hS bg
  rotate_left;focus
   rintro o K hd I hg hK;refine zbt9 I ?_;rw[hd];obtain⟨q,hq⟩:=exN X0.heap.size;obtain⟨X1,ap⟩:=exN (X0.alloc (.cells #[.bool false,.slice none 0 0,.slice none 0 0,.slice none 0 0] 93));(have am:Below X0.heap.size X0 X1:=by rw[<-ap];exact za9 _ _);(have bu:X1.heap.size=q+1:=by rw[<-ap,<-hq];simp);(have bc:Nb X1 93 q false (.slice none 0 0) (.slice none 0 0) (.slice none 0 0):=by rw[<-ap,<-hq];exact nb_new _ _ _ _ _ _);rw[ap,hq];have ay:=bg.below am;refine hK _ _ (λ _=>ay) ?_;clear I hd hg hK;simp only[zw];refine rdW 6 (some 4) (.alloc 93) ?_;rintro o K hd I hg hK;refine zbt9 I ?_;rw[hd];obtain⟨p,hp⟩:=exN X1.heap.size
   obtain⟨X2,aq⟩:=exN (X1.alloc (.cells #[.bool false,.slice none 0 0,.slice none 0 0,.slice none 0 0] 93));(have an:Below X1.heap.size X1 X2:=by rw[<-aq];exact za9 _ _);(have bw:X2.heap.size=p+1:=by rw[<-aq,<-hp];simp);(have bb:Nb X2 93 p false (.slice none 0 0) (.slice none 0 0) (.slice none 0 0):=by rw[<-aq,<-hp];exact nb_new _ _ _ _ _ _);rw[aq,hp];have az:=ay.below an;refine hK _ _ (λ _=>az) ?_;clear I hd hg hK;simp only[zw];have cg:=bc.below an;(have FR:p≠q/\w.heap.size+3<=p/\w.heap.size+3<=q/\p<w.heap.size+5/\q<w.heap.size+5/\X2.heap.size=w.heap.size+5:=by omega);have b9:=bb;have ba:=cg
   have bd:SpN W3 X2 w.heap.size p q lf false false (.slice a1 L1 c1) (.slice a2 L2 c2) (.slice a3 L3 c3) (.slice none 0 0) (.slice none 0 0) (.slice none 0 0) (.slice none 0 0) (.slice none 0 0) (.slice none 0 0):=⟨az,((SS.o.2.1.below b0).below am).below an,((SS.o.2.2.below b0).below am).below an,b9,ba,(b0.trans (am.mono b0.size)).trans (an.mono (b0.trans (am.mono b0.size)).size),FR.1,FR.2.1,FR.2.2.1,FR.2.2.2.1,FR.2.2.2.2.1,s3.o,by omega⟩
   clear am an bu bw ap aq hp hq bb bc cg b9 ba ay az FR b0 z0 b7 hS bg
  all_goals
   refine rdW 8 none (.store 93 (.tmp 4) (.tmp 17)) ?_;rintro o K hd I hg hK;refine zav9 I rfl rfl bd.pk ?_;have be:=bd.setp lf (x1:=.slice none 0 0) (x2:=.slice none 0 0) (x3:=.slice none 0 0);rw[hd];refine hK _ _ (λ _=>be.n) ?_;clear I hd hg hK;simp only[zw];refine rdW 9 none (.store 93 (.tmp 5) (.tmp 20)) ?_;rintro o K hd I hg hK;refine zav9 I rfl rfl be.qk ?_;have c5:=be.setq lf (x1:=.slice none 0 0) (x2:=.slice none 0 0) (x3:=.slice none 0 0);rw[hd];refine hK _ _ (λ e=>absurd rfl e) ?_;refine doneW (by kernel_rfl) ?_ _;clear I hd hg hK bd be;simp only[Act.put];have SQ:=za0 c5;revert SQ;clear c5
   generalize (((((((X2.setCell _ _).setCell _ _).setCell _ _).setCell _ _).setCell _ _).setCell _ _).setCell _ _).setCell _ _=Y0;intro SQ;obtain⟨p0,p1,p2,p3⟩:=SQ.o.cells;go_wp2_with fail;refine(ci.o Y0 SQ.o.bl).mono ?_;rintro e y0 ⟨⟨m,rfl,hm⟩,Y⟩;have b4:=za0 (SQ.o.below Y);have cj:=za0 hm;have bt:=ch.o m hm;clear hm Y p0 p1 p2 p3 SQ;have c0:=b4.o.n.c1;go_wp2_with fail;refine(bx.o y0 m b4.o.bl bt).mono ?_;rintro e x0 ⟨⟨v1,v2,rfl,r1,r2,nw⟩,Y⟩;obtain⟨O,Q,ek⟩:=r1.long;obtain⟨a9,aa,eo⟩:=r2.long;obtain⟨T,bo⟩:=exH (((strs n.ks).take m).length);obtain⟨ab,cn⟩:=exH (((strs n.ks).drop m).length);rw[bo.o]at ek;rw[cn.o]at eo;subst ek eo;have E:=b4.o.below Y
   have nk:Hid (∀j,(Value.slice O T Q).ownBlock=some j->w.heap.size+5<=j):=λ j u=>zn2 b4.o.zz (nw j (.inl u)).1;have no:Hid (∀j,(Value.slice a9 ab aa).ownBlock=some j->w.heap.size+5<=j):=λ j u=>zn2 b4.o.zz (nw j (.inr u)).1;obtain⟨t0,b1⟩:=exN (x0.setCell ⟨p,1,none⟩ (.slice O T Q));obtain⟨y1,b8⟩:=exN (t0.setCell ⟨q,1,none⟩ (.slice a9 ab aa));have q0:=E.pk.c1;have q1:=E.pk.fz 1;(have q2:t0.cell? ⟨q,1,none⟩=some (.slice none 0 0):=by rw[<-b1];exact(E.p1 _).qk.c1);have q3:t0.frozen? ⟨q,1,none⟩=false:=by rw[<-b1];exact(E.p1 _).qk.fz 1
   (have b5:Hid (SpN W3 y1 w.heap.size p q lf lf lf (.slice a1 L1 c1) (.slice a2 L2 c2) (.slice a3 L3 c3) (.slice O T Q) (.slice none 0 0) (.slice none 0 0) (.slice a9 ab aa) (.slice none 0 0) (.slice none 0 0)):=by rw[<-b8,<-b1];exact(E.p1 _).q1 _);have ak:Hid ((RdV y1 (.slice O T Q) ((strs n.ks).take m)/\∀j,(Value.slice O T Q).ownBlock=some j->w.heap.size+5<=j)/\∀j,(Value.slice O T Q).ownBlock=some j->j<y1.heap.size):=⟨⟨by rw[<-b8,<-b1];exact E.keep r1 nk.o,nk.o⟩,λ j u=>by rw[<-b8,<-b1];exact zn1 (nw j (.inl u)).2 (zn2 (tch_at _ _ _ _).size (tch_at _ _ _ _).size)⟩
   have al:Hid ((RdV y1 (.slice a9 ab aa) ((strs n.ks).drop m)/\∀j,(Value.slice a9 ab aa).ownBlock=some j->w.heap.size+5<=j)/\∀j,(Value.slice a9 ab aa).ownBlock=some j->j<y1.heap.size):=⟨⟨by rw[<-b8,<-b1];exact E.keep r2 no.o,no.o⟩,λ j u=>by rw[<-b8,<-b1];exact zn1 (nw j (.inr u)).2 (zn2 (tch_at _ _ _ _).size (tch_at _ _ _ _).size)⟩
   clear r1 r2 nw Y E nk no c0 b4;have c0:=b5.o.n.c2;go_wp2_with fail;refine(bz.o y1 m b5.o.bl bt).mono ?_;rintro e x1 ⟨⟨v1,v2,rfl,r1,r2,nw⟩,Y⟩;obtain⟨a0,a4,ek⟩:=r1.long;obtain⟨ac,ad,eo⟩:=r2.long;obtain⟨a5,bp⟩:=exH (((strs n.vs).take m).length);obtain⟨ae,co⟩:=exH (((strs n.vs).drop m).length);rw[bp.o]at ek;rw[co.o]at eo;subst ek eo;have E:=b5.o.below Y;have nk:Hid (∀j,(Value.slice a0 a5 a4).ownBlock=some j->w.heap.size+5<=j):=λ j u=>zn2 b5.o.zz (nw j (.inl u)).1;have no:Hid (∀j,(Value.slice ac ae ad).ownBlock=some j->w.heap.size+5<=j):=λ j u=>zn2 b5.o.zz (nw j (.inr u)).1;obtain⟨t1,ar⟩:=exN (x1.setCell ⟨p,2,none⟩ (.slice a0 a5 a4))
   obtain⟨y2,av⟩:=exN (t1.setCell ⟨q,2,none⟩ (.slice ac ae ad));have q0:=E.pk.c2;have q1:=E.pk.fz 2;(have q2:t1.cell? ⟨q,2,none⟩=some (.slice none 0 0):=by rw[<-ar];exact(E.p2 _).qk.c2);(have q3:t1.frozen? ⟨q,2,none⟩=false:=by rw[<-ar];exact(E.p2 _).qk.fz 2);have b6:Hid (SpN W3 y2 w.heap.size p q lf lf lf (.slice a1 L1 c1) (.slice a2 L2 c2) (.slice a3 L3 c3) (.slice O T Q) (.slice a0 a5 a4) (.slice none 0 0) (.slice a9 ab aa) (.slice ac ae ad) (.slice none 0 0)):=by rw[<-av,<-ar];exact(E.p2 _).q2 _
   have aw:Hid ((RdV y2 (.slice a0 a5 a4) ((strs n.vs).take m)/\∀j,(Value.slice a0 a5 a4).ownBlock=some j->w.heap.size+5<=j)/\∀j,(Value.slice a0 a5 a4).ownBlock=some j->j<y2.heap.size):=⟨⟨by rw[<-av,<-ar];exact E.keep r1 nk.o,nk.o⟩,λ j u=>by rw[<-av,<-ar];exact zn1 (nw j (.inl u)).2 (zn2 (tch_at _ _ _ _).size (tch_at _ _ _ _).size)⟩
   have ax:Hid ((RdV y2 (.slice ac ae ad) ((strs n.vs).drop m)/\∀j,(Value.slice ac ae ad).ownBlock=some j->w.heap.size+5<=j)/\∀j,(Value.slice ac ae ad).ownBlock=some j->j<y2.heap.size):=⟨⟨by rw[<-av,<-ar];exact E.keep r2 no.o,no.o⟩,λ j u=>by rw[<-av,<-ar];exact zn1 (nw j (.inr u)).2 (zn2 (tch_at _ _ _ _).size (tch_at _ _ _ _).size)⟩
   replace ak:=za0 (show(RdV y2 (Value.slice O T Q) _/\_)/\(∀j,(Value.slice O T Q).ownBlock=some j->j<y2.heap.size)from⟨⟨by rw[<-av,<-ar];exact E.keep (ak.o.1.1.below Y) ak.o.1.2,ak.o.1.2⟩,λ j u=>by rw[<-av,<-ar];exact zn1 (ak.o.2 j u) (zn2 Y.size (zn2 (tch_at _ _ _ _).size (tch_at _ _ _ _).size))⟩);replace al:=za0 (show(RdV y2 (Value.slice a9 ab aa) _/\_)/\(∀j,(Value.slice a9 ab aa).ownBlock=some j->j<y2.heap.size)from⟨⟨by rw[<-av,<-ar];exact E.keep (al.o.1.1.below Y) al.o.1.2,al.o.1.2⟩,λ j u=>by rw[<-av,<-ar];exact zn1 (al.o.2 j u) (zn2 Y.size (zn2 (tch_at _ _ _ _).size (tch_at _ _ _ _).size))⟩);clear r1 r2 nw Y E nk no c0 b5;have c0:=b6.o.n.c3;go_wp2_with fail
   refine(c4.o y2 m b6.o.bl bt).mono ?_;rintro e x2 ⟨⟨v1,v2,rfl,r1,r2,nw⟩,Y⟩;obtain⟨a6,a7,ek⟩:=r1.long;obtain⟨af,ag,eo⟩:=r2.long;obtain⟨a8,bq⟩:=exH (((nums n.kd).take m).length);obtain⟨ah,cq⟩:=exH (((nums n.kd).drop m).length);rw[bq.o]at ek;rw[cq.o]at eo;subst ek eo;have E:=b6.o.below Y;have nk:Hid (∀j,(Value.slice a6 a8 a7).ownBlock=some j->w.heap.size+5<=j):=λ j u=>zn2 b6.o.zz (nw j (.inl u)).1;have no:Hid (∀j,(Value.slice af ah ag).ownBlock=some j->w.heap.size+5<=j):=λ j u=>zn2 b6.o.zz (nw j (.inr u)).1;obtain⟨t2,ai⟩:=exN (x2.setCell ⟨p,3,none⟩ (.slice a6 a8 a7));obtain⟨y3,aj⟩:=exN (t2.setCell ⟨q,3,none⟩ (.slice af ah ag));have q0:=E.pk.c3;have q1:=E.pk.fz 3
   (have q2:t2.cell? ⟨q,3,none⟩=some (.slice none 0 0):=by rw[<-ai];exact(E.p3 _).qk.c3);(have q3:t2.frozen? ⟨q,3,none⟩=false:=by rw[<-ai];exact(E.p3 _).qk.fz 3);have ck:Hid (SpN W3 y3 w.heap.size p q lf lf lf (.slice a1 L1 c1) (.slice a2 L2 c2) (.slice a3 L3 c3) (.slice O T Q) (.slice a0 a5 a4) (.slice a6 a8 a7) (.slice a9 ab aa) (.slice ac ae ad) (.slice af ah ag)):=by rw[<-aj,<-ai];exact(E.p3 _).q3 _
   have bm:Hid ((RdV y3 (.slice a6 a8 a7) ((nums n.kd).take m)/\∀j,(Value.slice a6 a8 a7).ownBlock=some j->w.heap.size+5<=j)/\∀j,(Value.slice a6 a8 a7).ownBlock=some j->j<y3.heap.size):=⟨⟨by rw[<-aj,<-ai];exact E.keep r1 nk.o,nk.o⟩,λ j u=>by rw[<-aj,<-ai];exact zn1 (nw j (.inl u)).2 (zn2 (tch_at _ _ _ _).size (tch_at _ _ _ _).size)⟩
   have bn:Hid ((RdV y3 (.slice af ah ag) ((nums n.kd).drop m)/\∀j,(Value.slice af ah ag).ownBlock=some j->w.heap.size+5<=j)/\∀j,(Value.slice af ah ag).ownBlock=some j->j<y3.heap.size):=⟨⟨by rw[<-aj,<-ai];exact E.keep r2 no.o,no.o⟩,λ j u=>by rw[<-aj,<-ai];exact zn1 (nw j (.inr u)).2 (zn2 (tch_at _ _ _ _).size (tch_at _ _ _ _).size)⟩
   replace ak:=za0 (show(RdV y3 (Value.slice O T Q) _/\_)/\(∀j,(Value.slice O T Q).ownBlock=some j->j<y3.heap.size)from⟨⟨by rw[<-aj,<-ai];exact E.keep (ak.o.1.1.below Y) ak.o.1.2,ak.o.1.2⟩,λ j u=>by rw[<-aj,<-ai];exact zn1 (ak.o.2 j u) (zn2 Y.size (zn2 (tch_at _ _ _ _).size (tch_at _ _ _ _).size))⟩);replace al:=za0 (show(RdV y3 (Value.slice a9 ab aa) _/\_)/\(∀j,(Value.slice a9 ab aa).ownBlock=some j->j<y3.heap.size)from⟨⟨by rw[<-aj,<-ai];exact E.keep (al.o.1.1.below Y) al.o.1.2,al.o.1.2⟩,λ j u=>by rw[<-aj,<-ai];exact zn1 (al.o.2 j u) (zn2 Y.size (zn2 (tch_at _ _ _ _).size (tch_at _ _ _ _).size))⟩)
   replace aw:=za0 (show(RdV y3 (Value.slice a0 a5 a4) _/\_)/\(∀j,(Value.slice a0 a5 a4).ownBlock=some j->j<y3.heap.size)from⟨⟨by rw[<-aj,<-ai];exact E.keep (aw.o.1.1.below Y) aw.o.1.2,aw.o.1.2⟩,λ j u=>by rw[<-aj,<-ai];exact zn1 (aw.o.2 j u) (zn2 Y.size (zn2 (tch_at _ _ _ _).size (tch_at _ _ _ _).size))⟩);replace ax:=za0 (show(RdV y3 (Value.slice ac ae ad) _/\_)/\(∀j,(Value.slice ac ae ad).ownBlock=some j->j<y3.heap.size)from⟨⟨by rw[<-aj,<-ai];exact E.keep (ax.o.1.1.below Y) ax.o.1.2,ax.o.1.2⟩,λ j u=>by rw[<-aj,<-ai];exact zn1 (ax.o.2 j u) (zn2 Y.size (zn2 (tch_at _ _ _ _).size (tch_at _ _ _ _).size))⟩);clear r1 r2 nw Y E nk no c0 b6;go_wp2_with fail;try rw[aj]
   clear q0 q1 q2 q3;refine beginW (S:=λ w'=>Nb w' 93 p lf (.slice O T Q) (.slice a0 a5 a4) (.slice a6 a8 a7)/\Nb w' 93 q lf (.slice a9 ab aa) (.slice ac ae ad) (.slice af ah ag)) (t:=3) (by kernel_rfl) ?_;have SD:=ck.o.below ((Below.refl _ _).drew);have hS:Nb y3.drew 93 p lf (.slice O T Q) (.slice a0 a5 a4) (.slice a6 a8 a7)/\Nb y3.drew 93 q lf (.slice a9 ab aa) (.slice ac ae ad) (.slice af ah ag):=⟨SD.pk,SD.qk⟩
   (refine tkW 0 (some 50) (.load 93 (.tmp 4)) (nod lf (.slice O T Q) (.slice a0 a5 a4) (.slice a6 a8 a7)) ?hy hS ?_;case hy=>rintro o I w' ⟨hA,hB⟩;have q0:=hA.c0;have q1:=hA.c1;have q2:=hA.c2;have q3:=hA.c3;unfold nod;go_simp);simp only[zw];refine tkW 1 (some 51) (.load 93 (.tmp 5)) (nod lf (.slice a9 ab aa) (.slice ac ae ad) (.slice af ah ag)) ?hy hS ?_;case hy=>rintro o I w' ⟨hA,hB⟩;have q0:=hB.c0;have q1:=hB.c1;have q2:=hB.c2;have q3:=hB.c3;unfold nod;go_simp
   simp only[zw];refine rdW 2 none (.store 93 (.tmp 2) (.tmp 50)) ?_;rintro o K hd I hg hK;refine zav9 I rfl rfl SD.r2 ?_;rw[hd];have tA:=zl9 y3.drew (w.heap.size+1) (.bool lf) (.slice O T Q) (.slice a0 a5 a4) (.slice a6 a8 a7);have NA:=SD.r2.all lf (.slice O T Q) (.slice a0 a5 a4) (.slice a6 a8 a7);have pA:=SD.pk.tch tA (by have:=SD.pl;omega);have qA:=SD.qk.tch tA (by have:=SD.ql;omega);have rA:=SD.r3.tch tA (by omega);refine hK _ _ (λ _=>⟨pA,qA⟩) ?_;clear I hd hg hK;simp only[zw];refine rdW 3 none (.store 93 (.tmp 3) (.tmp 51)) ?_;rintro o K hd I hg hK;refine zav9 I rfl rfl rA ?_;rw[hd];refine hK _ _ (λ e=>absurd rfl e) ?_;refine doneW (by kernel_rfl) ?_ _;clear I hd hg hK
   simp only[Act.put];generalize bk:(((y3.drew.setCell ⟨w.heap.size+1,0,none⟩ (.bool lf)).setCell ⟨w.heap.size+1,1,none⟩ (.slice O T Q)).setCell ⟨w.heap.size+1,2,none⟩ (.slice a0 a5 a4)).setCell ⟨w.heap.size+1,3,none⟩ (.slice a6 a8 a7)=WA at *
   have tB:=zl9 WA (w.heap.size+2) (.bool lf) (.slice a9 ab aa) (.slice ac ae ad) (.slice af ah ag);have NB:=rA.all lf (.slice a9 ab aa) (.slice ac ae ad) (.slice af ah ag);have NC:=NA.tch tB (by omega);generalize bl:(((WA.setCell ⟨w.heap.size+2,0,none⟩ (.bool lf)).setCell ⟨w.heap.size+2,1,none⟩ (.slice a9 ab aa)).setCell ⟨w.heap.size+2,2,none⟩ (.slice ac ae ad)).setCell ⟨w.heap.size+2,3,none⟩ (.slice af ah ag)=WB at *
   have bD:Below y3.heap.size y3 y3.drew:=(Below.refl _ _).drew;have kp:∀v xs,(RdV y3 v xs/\∀j,v.ownBlock=some j->w.heap.size+5<=j)->RdV WB v xs:=λ v xs h=>((h.1.below bD).tch tA (λ j u e=>by have:=h.2 j u;omega)).tch tB (λ j u e=>by have:=h.2 j u;omega);have KK:Hid (Nn WB (takeN n m) (.slice O T Q) (.slice a0 a5 a4) (.slice a6 a8 a7)):=⟨by have:=kp _ _ ak.o.1;simpa[takeN,strs,List.map_take]using this,by have:=kp _ _ aw.o.1;simpa[takeN,strs,List.map_take]using this,by have:=kp _ _ bm.o.1;simpa[takeN,nums,List.map_take]using this⟩
   have OO:Hid (Nn WB (dropN n m) (.slice a9 ab aa) (.slice ac ae ad) (.slice af ah ag)):=⟨by have:=kp _ _ al.o.1;simpa[dropN,strs,List.map_drop]using this,by have:=kp _ _ ax.o.1;simpa[dropN,strs,List.map_drop]using this,by have:=kp _ _ bn.o.1;simpa[dropN,nums,List.map_drop]using this⟩
   (have BB:Hid (Below w.heap.size w WB):=by have h1:=au.o.trans (SD.bl.mono au.o.size);have h2:=h1.trans (tA.below h1.size (λ j e=>by omega));exact h2.trans (tB.below h2.size (λ j e=>by omega)));have FK:Hid (Fr3 w.heap.size (.slice O T Q) (.slice a0 a5 a4) (.slice a6 a8 a7)):=λ j u=>by
    rcases u with e|e|e
    .have:=ak.o.1.2 j e;omega
    .have:=aw.o.1.2 j e;omega
    .have:=bm.o.1.2 j e;omega
   have FO:Hid (Fr3 w.heap.size (.slice a9 ab aa) (.slice ac ae ad) (.slice af ah ag)):=λ j u=>by
    rcases u with e|e|e
    .have:=al.o.1.2 j e;omega
    .have:=ax.o.1.2 j e;omega
    .have:=bn.o.1.2 j e;omega
   have UK:Hid (Ub3 WB (.slice O T Q) (.slice a0 a5 a4) (.slice a6 a8 a7)):=λ j u=>by
    refine zn1 ?_ (zn2 bD.size (zn2 tA.size tB.size));rcases u with e|e|e
    .exact ak.o.2 j e
    .exact aw.o.2 j e
    .exact bm.o.2 j e
   have UO:Hid (Ub3 WB (.slice a9 ab aa) (.slice ac ae ad) (.slice af ah ag)):=λ j u=>by
    refine zn1 ?_ (zn2 bD.size (zn2 tA.size tB.size));rcases u with e|e|e
    .exact al.o.2 j e
    .exact ax.o.2 j e
    .exact bn.o.2 j e
   have LA:=za0 NC.load;have LB:=za0 NB.load;clear tA tB NA NB NC pA qA rA bk bl bD kp SD hS;go_wp2_with fail;refine bodyPost_ret (v:=.tuple #[nod lf (.slice O T Q) (.slice a0 a5 a4) (.slice a6 a8 a7),nod lf (.slice a9 ab aa) (.slice ac ae ad) (.slice af ah ag)]) (zfb9 (p:=2) (q:=3) (ty:=93) (tz:=93) rfl _ _ _ (w.heap.size+1) (w.heap.size+2) _ _ rfl rfl LA.o LB.o) rfl ?_;exact⟨⟨_,_,_,_,_,_,takeN n m,dropN n m,rfl,KK.o,OO.o,.inr ⟨by rw[bf.o];exact h2.o,m,cj.o,rfl,rfl⟩,FK.o,FO.o,UK.o,UO.o⟩,BB.o⟩
def zjm9{α:Type}(l:List α)(d:α)(k i:Nat):(l.take k).getD i d=if i<k then l.getD i d else d:=by
 rw[zn3,zv0];split
 .rw[zn3]
 .rfl
def zvz9(n:Nd){k i:Nat}(h:i<k):szA (takeN n k) i=szA n i:=by
 have u:kA (takeN n k) i=kA n i:=by show(n.ks.take k).getD i eS=_;rw[zjm9,if_pos h];rfl
 have A:vA (takeN n k) i=vA n i:=by show(n.vs.take k).getD i eS=_;rw[zjm9,if_pos h];rfl
 have E:(i<(takeN n k).kd.length)=(i<n.kd.length):=by
  have:(takeN n k).kd.length=min k n.kd.length:=by simp[takeN]
  rw[this];exact propext ⟨λ h=>by omega,λ h=>by omega⟩
 unfold szA;rw[u,A];simp only[E];rfl
def zpr9(n:Nd)(k:Nat):∀j,j<=k->szN (takeN n k) j=szN n j
 | 0,_=>rfl
 | j+1,h=>by show szN (takeN n k) j+szA (takeN n k) j=szN n j+szA n j;rw[zpr9 n k j (by omega),zvz9 n (by omega)]
def znz9(n:Nd){k:Nat}(h:k<=n.ks.length):(takeN n k).ks.length=k:=by simp only[takeN,zg0];omega
def zvy9(n:Nd)(k i:Nat):szA (dropN n k) i=szA n (k+i):=by
 have u:kA (dropN n k) i=kA n (k+i):=by show(n.ks.drop k).getD i eS=n.ks.getD (k+i) eS;rw[zn3,zu0,<-zn3]
 have A:vA (dropN n k) i=vA n (k+i):=by show(n.vs.drop k).getD i eS=n.vs.getD (k+i) eS;rw[zn3,zu0,<-zn3]
 have E:(i<(dropN n k).kd.length)=(k+i<n.kd.length):=by
  have:(dropN n k).kd.length=n.kd.length-k:=by simp[dropN]
  rw[this];exact propext ⟨λ h=>by omega,λ h=>by omega⟩
 unfold szA;rw[u,A];simp only[E];rfl
def zis9(n:Nd)(k:Nat):∀j,szN (dropN n k) j+szN n k=szN n (k+j)+1
 | 0=>by show 1+szN n k=szN n k+1;omega
 | j+1=>by have:=zis9 n k j;show szN (dropN n k) j+szA (dropN n k) j+szN n k=szN n (k+j)+szA n (k+j)+1;rw[zvy9];omega
def zni9{n:Nd}{m:Nat}(h:MidR n m)(H:∀i,i<n.ks.length->szA n i<=50)(T:240<szN n n.ks.length)(a0:szN n n.ks.length<=292):
 szN (takeN n m) m<=240/\szN (dropN n m) (n.ks.length-m)<=240:=by
 have Y:=h.lt;have Q:=h.one;have K:∀k,k<=n.ks.length->szN n k<=szN n n.ks.length:=by
  intro k A;obtain⟨d,u⟩:∃d,k+d=n.ks.length:=⟨_,Nat.add_sub_of_le A⟩
  rw[<-u];clear u A;induction d with
  | zero=>exact zn6 _
  | succ d ih=>show _<=szN n (k+d)+szA n (k+d);omega
 have E:∀k,k<=n.ks.length->W (szN n k)=(szN n k:Int):=λ k A=>zbm9 (by have:=K k A;omega);have I:hlfN n=((szN n n.ks.length / 2:Nat):Int):=by
  unfold hlfN;rw[E _ (zn6 _)];rcases tdiv2 (szN n n.ks.length:Int)with⟨_,e⟩|⟨c,_⟩
  .rw[e];omega
  .omega
 have u:=zis9 n m (n.ks.length-m);rw[Nat.add_sub_of_le (by omega)]at u;rw[zpr9 n m m (zn6 _)];have a2:szN n m=szN n (m-1)+szA n (m-1):=by
  obtain⟨q,rfl⟩:∃q,m=q+1:=⟨m-1,by omega⟩
  rfl
 have ha:=H (m-1) (by omega);have a1:=K m (by omega);constructor
 .by_cases c:m=1
  .subst c;have:szN n (1-1)=1:=rfl;omega
  .have:=h.no (m-1) (by omega) (by omega);rw[E _ (by omega),I]at this;omega
 .rcases h.yes with e|e
  .have O:n.ks.length=m+1:=by omega
   (have a3:szN n n.ks.length=szN n m+szA n m:=by rw[O];rfl);have:=H m (by omega);omega
  .rw[I,E _ (by omega)]at e;omega
