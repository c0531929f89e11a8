import Derived.Test.YtcmjlibndmneiaaGreatPTBz
set_option maxRecDepth 100000
set_option linter.all false
set_option maxHeartbeats 8000000
namespace Go.Proofs.YtcmjlibndmneiaaGreat
open Go.RowKit Go.Maps Pl
section
variable {H:Nat->Prop} {t cc d M N:Nat} {a:AS} {b:CB} {c:CH} {R:Nat->Prop} {w0:World}
def BelC(R:Nat->Prop)(w0:World)(t cc d M N:Nat)(b:CB)(D:CD)(KB f lv:Nat):Prop:=
 ∀(H:Nat->Prop)(w:World)(a:AS)(c:CH)(x:Int),(Lit.int .i64 x).wf=true->Gz H w t cc d M N a b c->Stay R w0 w H->c.tk.length+2*f<=KB->c.gn.length+2*f<=KB->c.lv<=100->
  Calls Tryz.prog 143 #[chp b,.int .i64 x,.int .i64 (lv:Int)] w λ e w'=>BelT H w t cc d M N b (belowF D f a c x lv) e w'/\BlOk c f (belowF D f a c x lv)
def zek9(D:CD)(hC:Clo R w0 b D)(KB f lv:Nat)(ik:KB<=1000)(ht:1<=lv/\lv<=17)(fe:lv<=16->BelC R w0 t cc d M N b D KB f (lv+1)):BelC R w0 t cc d M N b D KB (f+1) lv:=by
 intro H w a c x hx G O ff ey eu
 obtain⟨g,am,ex,ew,et⟩:=hC.fn
 obtain⟨⟨er,n⟩,c6⟩:∃r,Hid (look a x lv=r):=⟨_,rfl⟩
 have gs:Hid (er=0->Vk n):=λ h=>by
  have:=G.look (x:=x) (lv:=lv)
  rw[c6.o]at this
  exact this h
 have g2:Hid (er=0->lv<=16):=λ h=>by
  have h2:=c6.o
  unfold look at h2
  by_cases q:16<lv
  .rw[if_pos q]at h2
   have h3:=congrArg Prod.fst h2
   omega
  .omega
 obtain⟨I,eo⟩:=exH (belowF D (f+1) a c x lv)
 rw[eo.o]
 have cu:Hid (I=if er≠0 then⟨er,[],a,c⟩else if n.lf=true then⟨0,piecesF (D.lf n),a,{ leaveF a c x with lv:=lv }⟩else upF D n lv (belowF D f a (leaveF a c x) (dA n (plc n D.key n.ks.length)) (lv+1))):=by
  show I=_
  rw[<-eo.o,belowF,c6.o]
 have cx:=zjm9 x lv w G
 rw[c6.o]at cx
 have e6:=za0 cx
 have c0:=G.c0
 have HG:=za0 G
 have ia:=za0 G.hl
 have HX:=za0 hx
 have HS:=za0 O
 have e9:=za0 ff
 have co:=za0 ey
 have dv:=za0 eu
 have HC:=za0 hC
 have fv:=za0 ex
 have cm:=za0 ew
 have cl:=za0 et
 have gg:=za0 fe
 obtain⟨cb,a6⟩:=exH b.cb
 unfold chp
 rw[a6.o]at c0 |-
 clear G hx O ff ey eu hC ex ew et fe cx
 go_enter Tryz.func143,Tryz.ntmps143
 go_wp2_with fail
 refine e6.o.mono ?_
 rintro e Y ⟨H1,v1,v2,v3,he,b0,g1,t1,h1,cy⟩
 have ho:=he
 have b0:Ow3 w.heap.size Y n v1 v2 v3:=b0
 subst ho
 clear he e6 c0
 obtain⟨a1,c1,a2,c2,a3,c3,rfl,rfl,rfl,_,_,_,_⟩:=b0.nn.o
 obtain⟨u,a8⟩:=exH n.ks.length
 obtain⟨L2,d7⟩:=exH n.vs.length
 obtain⟨L3,ao⟩:=exH n.kd.length
 obtain⟨lf,a7⟩:=exH n.lf
 rw[a8.o,d7.o,ao.o]at b0 cy
 rw[a8.o,d7.o,ao.o,a7.o]
 unfold nod
 obtain⟨W2,de⟩:=exN (Y.alloc (.cells #[.bool false,.slice none 0 0,.slice none 0 0,.slice none 0 0] 93))
 have NB:Nb W2 93 Y.heap.size false (.slice none 0 0) (.slice none 0 0) (.slice none 0 0):=by rw[<-de];exact nb_new _ _ _ _ _ _
 have b2:Below Y.heap.size Y W2:=by rw[<-de];exact za9 _ _
 obtain⟨W3,bx⟩:=exN ((((W2.setCell ⟨Y.heap.size,0,none⟩ (.bool lf)).setCell ⟨Y.heap.size,1,none⟩ (.slice a1 u c1)).setCell ⟨Y.heap.size,2,none⟩ (.slice a2 L2 c2)).setCell ⟨Y.heap.size,3,none⟩ (.slice a3 L3 c3))
 have NC:Nb W3 93 Y.heap.size lf (.slice a1 u c1) (.slice a2 L2 c2) (.slice a3 L3 c3):=by rw[<-bx];exact NB.all _ _ _ _
 have t3:Tch (λ y=>y=Y.heap.size) W2 W3:=by rw[<-bx];exact zl9 _ _ _ _ _ _
 have ci:Tch (λ _=>False) Y W3:=(Tch.of_below b2).trans t3 (λ y hy e=>by omega)
 have B3:Bz H w t cc d M N b a c W3 H1 Y.heap.size n (.slice a1 u c1) (.slice a2 L2 c2) (.slice a3 L3 c3):=⟨g1.tch ci (λ _ _ e=>e),t1.trans ci (λ _ _ e=>e.elim),h1,by rw[a7.o];exact NC,by have:=t1.size;omega,λ e=>by have:=g1.hl Y.heap.size e;omega,b0.tch ci (λ _ _ e=>e),cy⟩
 have dt:=za0 B3
 have p0:=NB.c0
 have p1:=NB.c1
 have p2:=NB.c2
 have p3:=NB.c3
 have f0:=NB.fz 0
 have f1:=NB.fz 1
 have f2:=NB.fz 2
 have f3:=NB.fz 3
 clear NB b2 t3 ci g1 t1 h1 cy b0
 by_cases h0:er=0
 .subst h0
  have HV:=za0 (gs.o rfl)
  have g0:=za0 (g2.o rfl)
  have LV:=zdp9 x HX.o W3 B3.gz (by have:=co.o;omega)
  unfold chp at LV
  rw[a6.o]at LV
  have dy:=za0 LV
  clear LV B3 NC
  go_wp2_with fail
  refine dy.o.mono ?_
  rintro e W4 ⟨rfl,g4⟩
  obtain⟨H4,B4⟩:=dt.o.moveTo g4
  have fq:=za0 B4
  have N4:Nb W4 93 Y.heap.size lf (.slice a1 u c1) (.slice a2 L2 c2) (.slice a3 L3 c3):=by rw[<-a7.o];exact B4.nb
  have k0:=N4.c0
  have k1:=N4.c1
  have k2:=N4.c2
  have k3:=N4.c3
  clear g4 dt dy p0 p1 p2 p3 f0 f1 f2 f3 de bx
  cases lf
  .clear cm cl
   have cq:=za0 (HV.o.inner a7.o)
   have gi:Hid (I=upF D n lv (belowF D f a (leaveF a c x) (dA n (plc n D.key n.ks.length)) (lv+1))):=by
    show I=_
    rw[cu.o,if_neg (by simp),if_neg (by rw[a7.o];decide)]
   have fd:=HV.o.pos
   have bh:=plc_in a7.o D.key n.ks.length fd
   rw[a8.o]at fd bh
   have ha:u=L3:=by rw[<-a8.o,<-ao.o];exact cq.o.2.1.symm
   subst ha
   have im:u<=240:=by rw[<-a8.o];exact HV.o.len.1
   obtain⟨p,hp⟩:=exH (plc n D.key u)
   rw[hp.o]at bh
   obtain⟨kb,ko,rfl,gy⟩:=B4.ow.nn.key (i:=p) (by rw[a8.o];exact bh)
   obtain⟨db,a0,rfl,h9⟩:=B4.ow.nn.kid (i:=p) (by rw[ao.o];omega)
   obtain⟨ky,fb⟩:=exH (kA n p)
   obtain⟨ch,dl⟩:=exH (dA n p)
   have fy:Hid (0<=ch/\ch<=65535):=by
    have:=cq.o.1 p (by rw[ao.o];omega)
    rw[dl.o]at this
    exact this
   obtain⟨ab,dk⟩:=exH D.key
   have ck:Hid (b.key=ab):=by show _=_;rw[HC.o.key,dk.o]
   obtain⟨r,hr⟩:=exH (belowF D f a (leaveF a c x) ch (lv+1))
   have ba:Hid (I=upF D n lv r):=by
    show I=_
    rw[gi.o,a8.o,hp.o,dl.o,hr.o]
   have b3:=B4.drew
   have e1:W4.drew.cell? ⟨cb,1,none⟩=some (.string ab):=by rw[<-a6.o,<-ck.o];exact b3.gz.c1
   have ec:Nb W4.drew 93 Y.heap.size false (.slice (some ⟨kb,ko,none⟩) u c1) (.slice a2 L2 c2) (.slice (some ⟨db,a0,none⟩) u c3):=by rw[<-a7.o];exact b3.nb
   have O:W4.drew.cell? ⟨cb,1,none⟩=some (.string ab)/\Nb W4.drew 93 Y.heap.size false (.slice (some ⟨kb,ko,none⟩) u c1) (.slice a2 L2 c2) (.slice (some ⟨db,a0,none⟩) u c3):=⟨e1,ec⟩
   have PL:=zcx9 n _ _ _ D.key W4.drew b3.ow.nn HV.o.sm
   rw[a7.o,a8.o,hp.o,dk.o]at PL
   have gf:=za0 PL
   have du:=za0 b3
   clear B4 b3 N4 ec e1 PL gy h9 k0 k1 k2 k3 fq
   have k0:W4.cell? ⟨Y.heap.size,0,none⟩=some (.bool false):=O.2.c0
   go_wp2_with fail
   clear k0
   have bi:Tryz.prog.follows .mixedOrders=true:=by kernel_rfl
   refine beginW (S:=λ Q=>Q.cell? ⟨cb,1,none⟩=some (.string ab)/\Nb Q 93 Y.heap.size false (.slice (some ⟨kb,ko,none⟩) u c1) (.slice a2 L2 c2) (.slice (some ⟨db,a0,none⟩) u c3)) (t:=6) bi ?_
   refine tkW 0 (some 43) (.load 93 (.tmp 8)) (nod false (.slice (some ⟨kb,ko,none⟩) u c1) (.slice a2 L2 c2) (.slice (some ⟨db,a0,none⟩) u c3)) ?hy O ?_
   case hy=>
    rintro o E Q ⟨z1,T⟩
    have q0:=T.c0;have q1:=T.c1;have q2:=T.c2;have q3:=T.c3
    unfold nod
    go_simp
   simp only[zw]
   refine tkW 1 (some 44) (.move (.tmp 0)) (Value.pointer (some ⟨cb,0,none⟩)) (by rintro o E Q ⟨z1,T⟩;go_simp) O ?_
   simp only[zw]
   refine tkW 2 (some 45) (.nilCheck (.tmp 44)) (Value.pointer (some ⟨cb,0,none⟩)) (by rintro o E Q ⟨z1,T⟩;go_simp) O ?_
   simp only[zw]
   refine tkW 3 (some 46) (.fieldAddr 114 (.tmp 45) 1) (Value.pointer (some ⟨cb,1,none⟩)) (by rintro o E Q ⟨z1,T⟩;go_simp) O ?_
   simp only[zw]
   refine tkW 4 (some 47) (.load 9 (.tmp 46)) (Value.string ab) (by rintro o E Q ⟨z1,T⟩;go_simp) O ?_
   simp only[zw]
   refine rdW 5 (some 48) (.call { callee:=.value (.func 42),args:=#[.tmp 43,.tmp 47],argTypes:=#[93,9] }) ?_
   rintro o K hd E hg hK
   refine zg9 (enters_of Tryz.func42 (by kernel_rfl) rfl) E (vs:=#[nod false (.slice (some ⟨kb,ko,none⟩) u c1) (.slice a2 L2 c2) (.slice (some ⟨db,a0,none⟩) u c3),.string ab]) (by kernel_rfl) gf.o ?_
   rintro e W5 ⟨rfl,b5⟩
   refine⟨_,rfl,?_⟩
   rw[hd]
   have B5:=du.o.below b5
   have d8:W5.cell? ⟨cb,1,none⟩=some (.string ab)/\Nb W5 93 Y.heap.size false (.slice (some ⟨kb,ko,none⟩) u c1) (.slice a2 L2 c2) (.slice (some ⟨db,a0,none⟩) u c3):=⟨by rw[<-a6.o,<-ck.o];exact B5.gz.c1,by rw[<-a7.o];exact B5.nb⟩
   refine hK _ _ (λ _=>d8) ?_
   clear E hd hg hK b5 du O
   simp only[zw]
   refine rdW 6 (some 10) (.assign (.tmp 48)) ?_
   rintro o K hd E hg hK
   refine stepY (v:=Value.int .i64 (p:Int)) ?hy ?_
   case hy=>go_simp
   rw[hd]
   refine hK _ _ (λ e=>absurd rfl e) ?_
   clear E hd hg hK
   simp only[zw]
   refine doneW (by kernel_rfl) ?_ _
   obtain⟨_,_,eb,eh⟩:=B5.ow.nn.kid (i:=p) (by rw[ao.o];omega)
   cases eb
   rw[dl.o]at eh
   have m3:=d8.2.c3
   have i0:(0:Int)<=(p:Int):=by omega
   have i1:(p:Int)<(u:Int):=by omega
   have i8:=wk_nat (x:=(lv:Int)+1) (t:=lv+1) (by omega) (by omega)
   have i9:=zp9 (x:=(lv:Int)+1) (t:=lv+1) (by omega) (by omega)
   have bu:=gg.o g0.o H4 W5 a (leaveF a c x) ch (by have:=fy.o;exact zap9 (by omega) (by omega)) B5.gz (HS.o.on B5.tc B5.hh) (by have:=e9.o;rw[(zaz9 a c x).2.1];omega) (by have:=co.o;have:=(zaz9 a c x).1;omega) (by rw[(zaz9 a c x).2.2];exact dv.o)
   unfold chp at bu
   rw[a6.o,hr.o]at bu
   have e5:=za0 bu
   have aj:=za0 B5
   have bp:=za0 (zaz9 a c x)
   clear bu B5 d8
   go_wp2_with fail
   clear i8 i9
   refine e5.o.mono ?_
   rintro e W6 ⟨⟨H6,Zp,v6,rfl,g6,t6,h6,p6,z6⟩,fk⟩
   have B6:=aj.o.move g6 t6 h6
   have an:Hid (∀k,Zp k->W5.heap.size<=k/\¬H6 k/\k<W6.heap.size):=λ k hk=>⟨(z6 k hk).1,(z6 k hk).2.2,(z6 k hk).2.1⟩
   have a4:=za0 fk
   obtain⟨i6,va,rfl⟩:=p6.len
   obtain⟨pl,bf⟩:=exH r.ps.length
   rw[bf.o]at p6 i6 |-
   have aw:=za0 p6
   obtain⟨re,ar⟩:=exH r.e
   rw[ar.o]
   have gj:Hid (W5.heap.size<=W6.heap.size/\w.heap.size<=W5.heap.size):=⟨t6.size,aj.o.tc.size⟩
   have ft:Hid (Y.heap.size<W5.heap.size):=aj.o.nb.lt
   have gr:=za0 (aj.o.ow.lt)
   clear g6 t6 h6 p6 z6 fk e5 m3 eh
   by_cases ca:re=0
   .subst ca
    obtain⟨_,_,eb,cz⟩:=B6.ow.nn.key (i:=p) (by rw[a8.o];exact bh)
    cases eb
    rw[fb.o]at cz
    have au:=B6.drew
    have ef:W6.drew.frozen? ⟨kb,ko+p,none⟩=false:=au.ow.k.fz1 _
    have eg:W6.drew.cell? ⟨cb,1,none⟩=some (.string ab):=by rw[<-a6.o,<-ck.o];exact au.gz.c1
    have N6:Nb W6.drew 93 Y.heap.size false (.slice (some ⟨kb,ko,none⟩) u c1) (.slice a2 L2 c2) (.slice (some ⟨db,a0,none⟩) u c3):=by rw[<-a7.o];exact au.nb
    have O:(W6.drew.cell? ⟨cb,1,none⟩=some (.string ab)/\W6.drew.cell? ⟨kb,ko+p,none⟩=some (.string ky))/\Nb W6.drew 93 Y.heap.size false (.slice (some ⟨kb,ko,none⟩) u c1) (.slice a2 L2 c2) (.slice (some ⟨db,a0,none⟩) u c3):=⟨⟨eg,cz⟩,N6⟩
    obtain⟨km,fa⟩:=exH (Go.Proofs.YtcmjlibndmneiaaGreat.minS ky ab)
    have g3:Hid (∀(W:World) ts ty,(Builtin.min_ ts ty #[.string ky,.string ab]).run Tryz.prog W=.ok (.string km) W):=λ W ts ty=>by rw[zux9,fa.o]
    obtain⟨n1,aq⟩:=exH (lowK n D.key)
    have bq:Hid (setK n p km=n1):=by
     show _=_
     rw[<-aq.o]
     unfold lowK
     rw[a8.o,hp.o,fb.o,dk.o,fa.o]
    obtain⟨W7,bz⟩:=exN (W6.drew.setCell ⟨kb,ko+p,none⟩ (.string km))
    have B7:=au.key (i:=p) (by rw[a8.o];exact bh) km
    rw[bq.o,bz]at B7
    have t7:Tch (λ y=>y=kb) W6.drew W7:=by rw[<-bz];exact tch_at _ _ _ _
    have br:Hid (Ps Zp W7 (.slice va pl pl) r.ps):=by
     have hg:w.heap.size<=kb:=au.ow.k.ge kb rfl
     have ip:kb<W5.heap.size:=aj.o.ow.k.owns.lt kb rfl
     exact(aw.o.below (Below.refl _ _).drew).tch t7 (λ j hj e=>by have:=(an.o j hj).1;omega)
    have az:Hid (n1.lf=false):=by show _=_;rw[<-bq.o];exact a7.o
    have af:=za0 (zxl9 HV.o HC.o.ks)
    rw[aq.o]at af
    have a5:Hid (n1.ks.length=u/\n1.vs.length=L2/\n1.kd.length=u):=by
     show _/\_/\_
     rw[<-bq.o]
     exact⟨by rw[zhw9];exact a8.o,d7.o,ao.o⟩
    have hb:Hid (∀i,i<n1.kd.length->0<=dA n1 i/\dA n1 i<=65535):=λ i hi=>by
     have:=cq.o.1 i
     rw[<-bq.o]at hi |-
     exact this hi
    have b4:=za0 B7
    clear B6 au cz eg N6 t7 aj aw
    go_wp2_with fail
    refine beginW (S:=λ Q=>(Q.cell? ⟨cb,1,none⟩=some (.string ab)/\Q.cell? ⟨kb,ko+p,none⟩=some (.string ky))/\Nb Q 93 Y.heap.size false (.slice (some ⟨kb,ko,none⟩) u c1) (.slice a2 L2 c2) (.slice (some ⟨db,a0,none⟩) u c3)) (t:=14) bi ?_
    refine tkW 0 (some 64) (.fieldAddr 93 (.tmp 8) 1) (Value.pointer (some ⟨Y.heap.size,1,none⟩)) (by rintro o E Q ⟨z1,T⟩;go_simp) O ?_
    simp only[zw]
    refine tkW 1 (some 65) (.load 91 (.tmp 64)) (Value.slice (some ⟨kb,ko,none⟩) u c1) ?hy O ?_
    case hy=>
     rintro o E Q ⟨z1,T⟩
     have q1:=T.c1
     go_simp
    simp only[zw]
    refine tkW 2 (some 66) (.move (.tmp 10)) (Value.int .i64 (p:Int)) (by rintro o E Q ⟨z1,T⟩;go_simp) O ?_
    simp only[zw]
    refine tkW 3 (some 67) (.fieldAddr 93 (.tmp 8) 1) (Value.pointer (some ⟨Y.heap.size,1,none⟩)) (by rintro o E Q ⟨z1,T⟩;go_simp) O ?_
    simp only[zw]
    refine tkW 4 (some 68) (.load 91 (.tmp 67)) (Value.slice (some ⟨kb,ko,none⟩) u c1) ?hy O ?_
    case hy=>
     rintro o E Q ⟨z1,T⟩
     have q1:=T.c1
     go_simp
    simp only[zw]
    refine tkW 5 (some 69) (.move (.tmp 10)) (Value.int .i64 (p:Int)) (by rintro o E Q ⟨z1,T⟩;go_simp) O ?_
    simp only[zw]
    refine tkW 6 (some 70) (.indexAddr 91 (.tmp 68) (.tmp 69)) (Value.pointer (some ⟨kb,ko+p,none⟩)) (by rintro o E Q ⟨z1,T⟩;go_simp) O ?_
    simp only[zw]
    refine tkW 7 (some 71) (.load 9 (.tmp 70)) (Value.string ky) (by rintro o E Q ⟨⟨z0,z1⟩,T⟩;go_simp) O ?_
    simp only[zw]
    refine tkW 8 (some 72) (.move (.tmp 0)) (Value.pointer (some ⟨cb,0,none⟩)) (by rintro o E Q ⟨z1,T⟩;go_simp) O ?_
    simp only[zw]
    refine tkW 9 (some 73) (.nilCheck (.tmp 72)) (Value.pointer (some ⟨cb,0,none⟩)) (by rintro o E Q ⟨z1,T⟩;go_simp) O ?_
    simp only[zw]
    refine tkW 10 (some 74) (.fieldAddr 114 (.tmp 73) 1) (Value.pointer (some ⟨cb,1,none⟩)) (by rintro o E Q ⟨z1,T⟩;go_simp) O ?_
    simp only[zw]
    refine tkW 11 (some 75) (.load 9 (.tmp 74)) (Value.string ab) (by rintro o E Q ⟨⟨z0,z1⟩,T⟩;go_simp) O ?_
    simp only[zw]
    refine tkW 12 (some 76) (.call { callee:=.builtin .min,args:=#[.tmp 71,.tmp 75],argTypes:=#[9,9] }) (Value.string km) ?hy O ?_
    case hy=>
     rintro o E Q ⟨z1,T⟩
     have q:=g3.o Q
     go_simp
    simp only[zw]
    refine tkW 13 (some 77) (.indexAddr 91 (.tmp 65) (.tmp 66)) (Value.pointer (some ⟨kb,ko+p,none⟩)) (by rintro o E Q ⟨z1,T⟩;go_simp) O ?_
    simp only[zw]
    refine rdW 14 none (.store 9 (.tmp 77) (.tmp 76)) ?_
    rintro o K hd E hg hK
    refine zri9 E rfl rfl O.1.2 ef ?_
    rw[hd,bz]
    refine hK _ _ (λ e=>absurd rfl e) ?_
    refine doneW (by kernel_rfl) ?_ _
    clear E hd hg hK O ef
    simp only[Act.put]
    have av:Hid (∀(i j:Nat)(ps:List Nd)(c':CH),c'.tk.length<=r.c.tk.length->c'.gn.length<=r.c.gn.length+1->c'.lv<=100->ps.length<=2->(∀q∈ps,Sm q)->BlOk c (f+1) (tailF r.a c' n1 i j ps)):=λ i j ps c' q1 q2 q3 q4 q5=>by
     have k1:=a4.o.tk
     have k2:=a4.o.gn
     have k3:=bp.o
     rw[k3.2.1]at k1
     exact zpe9 (by omega) (by omega) q3 q4 af.o.1 af.o.2 q5
    have ah:Hid (∀q∈r.ps,Sm q):=λ q hq=>(a4.o.sz q hq).sm
    have bc:Hid (r.c.tk.length<=KB/\r.c.gn.length<=KB):=by
     have k1:=a4.o.tk
     have k2:=a4.o.gn
     have k3:=bp.o
     rw[k3.2.1]at k1
     have:=e9.o
     have:=co.o
     exact⟨by omega,by omega⟩
    have N7:Nb W7 93 Y.heap.size false (.slice (some ⟨kb,ko,none⟩) u c1) (.slice a2 L2 c2) (.slice (some ⟨db,a0,none⟩) u c3):=by rw[<-az.o];exact B7.nb
    have ax:Hid (IntKind.i64.wrap ((p:Int)+1)=((p+1:Nat):Int)/\wrap64 ((p:Int)+1)=((p+1:Nat):Int)):=⟨wk_nat (by omega) (by omega),zp9 (by omega) (by omega)⟩
    obtain⟨jn,f9⟩:=exH b.jn
    have dx:Hid (D.jn=jn):=by show _=_;rw[<-HC.o.jn];exact f9.o
    have e3:W7.cell? ⟨cb,3,none⟩=some (.bool jn):=by rw[<-a6.o,<-f9.o];exact B7.gz.c3
    clear B7
    cases jn
    focus
     have A:=b4.o
     have RP:=zao9 n1 (.slice (some ⟨kb,ko,none⟩) u c1) (.slice a2 L2 c2) (.slice (some ⟨db,a0,none⟩) u c3) (.slice va pl pl) p (p+1) r.ps Zp W7 A.gz (A.ow.k.less (zn7 _)) A.ow.v.rd (A.ow.d.less (zn7 _)) A.ap (λ k e=>⟨λ q=>A.ow.ap k q e,A.ow.v.apart A.ow.d (by decide) e⟩) (λ k e=>A.ow.lt k (.inr (.inl e))) br.o (λ k hk=>(an.o k hk).2.1) (by omega) (by rw[a5.o.1];omega) (by rw[a5.o.2.2];omega) (by rw[a5.o.1,a5.o.2.2];omega) ah.o (by have:=bc.o.1;omega)
     unfold chp nod at RP
     rw[a6.o,az.o]at RP
     obtain⟨rr,a9⟩:=exH (replaceF r.a r.c n1 p (p+1) r.ps)
     rw[a9.o]at RP
     have ak:=za0 RP
     have bs:Hid (SzT rr.n):=by
      rw[<-a9.o]
      exact zak9 _ _ _ _ af.o.1 af.o.2 ah.o a4.o.two
     have ag:Hid (I=tailF r.a r.c n1 p (p+1) r.ps):=(by
      show I=_
      rw[ba.o,upF_no ar.o (by unfold jnP;rw[dx.o];rintro⟨e,_⟩;cases e),aq.o,a8.o,hp.o])
     have aa:Hid (I=if rr.e≠0 then⟨rr.e,[],rr.a,rr.c⟩else⟨0,piecesF rr.n,rr.a,rr.c⟩):=by
      show I=_
      rw[ag.o]
      unfold tailF
      rw[a9.o]
     have b9:Hid (BlOk c (f+1) I):=by
      show BlOk c (f+1) I
      rw[ag.o]
      exact(av.o p (p+1) r.ps r.c (zn6 _) (by omega) a4.o.lv a4.o.two ah.o)
     have b8:=za0 N7
     have cd:=N7.c0
     have ce:=N7.c1
     have cf:=N7.c2
     have cg:=N7.c3
     clear RP A N7
     have bk:=ax.o.1
     have bl:=ax.o.2
     go_wp2_with fail
     clear bk bl
     refine ak.o.mono ?_
     rintro e W8 ⟨H8,x1,x2,x3,rfl,g8,t8,h8,n8,f8⟩
     have A:=b4.o
    rotate_right
    focus
     by_cases h1:pl=1
     focus
      subst h1
      obtain⟨q,hq⟩:∃q,Hid (r.ps=[q]):=by
       have:=bf.o
       match hh:r.ps,this with
       | [q],_=>exact⟨q,rfl⟩
      have dg:Hid (r.ps.getD 0 noneN=q):=by show _=_;rw[hq.o];rfl
      have e2:=br.o
      rw[hq.o]at e2
      obtain⟨pb,y1,y2,y3,hv,dm,nq,zb,zu⟩:=e2
      cases hv
      obtain⟨d1,f1,d2,f2,d3,f3,rfl,rfl,rfl,_,_,_,_⟩:=nq.o
      obtain⟨P1,el⟩:=exH q.ks.length
      obtain⟨P2,em⟩:=exH q.vs.length
      obtain⟨P3,en⟩:=exH q.kd.length
      obtain⟨qf,dn⟩:=exH q.lf
      rw[el.o,em.o,en.o]at nq zu
      rw[el.o,em.o,en.o,dn.o]at dm
      have dc:=a4.o.sz q (by rw[hq.o];simp)
      have SZ:=zby9 q _ _ _ W7 nq dc.sm
      obtain⟨sz,dq⟩:=exH (W (szN q q.ks.length))
      rw[dq.o,dn.o]at SZ
      unfold nod at SZ
      have e8:=za0 SZ
      have NQ:Nb W7 93 pb qf (.slice d1 P1 f1) (.slice d2 P2 f2) (.slice d3 P3 f3):=dm
      have gb:=za0 NQ
      have ga:=za0 nq
      have ea:=za0 zu
      have gt:=za0 zb
      have bb:=za0 dc
      have g7:=za0 N7
      have i2:=NQ.c0
      have i3:=NQ.c1
      have i4:=NQ.c2
      have i5:=NQ.c3
      have bk:=ax.o.1
      have bl:=ax.o.2
      clear SZ NQ nq zu zb dc dm N7
      go_wp2_with fail
      clear bk bl
      refine e8.o.mono ?_
      rintro e ac ⟨rfl,b7⟩
      have cj:=za0 (b4.o.below b7)
      have al:=g7.o.below b7
      have gc:Hid (Ps Zp ac (.slice (some ⟨pb,0,none⟩) 1 1) r.ps):=br.o.below b7
      have gw:Hid (W6.heap.size<=ac.heap.size):=by
       have q1:=b7.size
       have q2:W6.drew.heap.size<=W7.heap.size:=by rw[<-bz];exact(tch_at _ _ _ _).size
       exact zn2 q2 q1
      clear i2 i3 i4 i5 e3 e8
      by_cases hz:sz<120
      focus
       have dz:decide (sz<120)=true:=zo1 hz
       have fx:Hid (jnP D r.ps):=⟨dx.o,bf.o,by rw[dg.o,dq.o];exact hz⟩
       obtain⟨J,hJ⟩:=exH (joinedF r.a r.c n1 p lv q)
       have e7:Hid (I=if J.e≠0 then⟨J.e,[],r.a,J.c⟩else tailF r.a J.c n1 J.i J.j [J.n]):=by
        show I=_
        rw[ba.o,upF_jn ar.o fx.o (J:=J) (by rw[aq.o,a8.o,hp.o,dg.o];exact hJ.o),aq.o]
       have BD:=cj.o.drew
       have fj:Nn ac.drew q (.slice d1 P1 f1) (.slice d2 P2 f2) (.slice d3 P3 f3):=(ga.o.below b7).below (Below.refl _ _).drew
       have ee:Ap3 H6 (.slice d1 P1 f1) (.slice d2 P2 f2) (.slice d3 P3 f3):=λ j hj=>(an.o j (ea.o j hj)).2.1
       have hu:W6.heap.size<=ac.drew.heap.size:=gw.o
       have ev:=hb.o
       have JN:=zki9 n1 q (.slice (some ⟨kb,ko,none⟩) u c1) (.slice a2 L2 c2) (.slice (some ⟨db,a0,none⟩) u c3) (.slice d1 P1 f1) (.slice d2 P2 f2) (.slice d3 P3 f3) p lv ac.drew BD.gz BD.ow.nn fj BD.ap ee (λ j hj=>by have:=(an.o j (ea.o j hj)).2.2;omega) bb.o.sm (by have:=bb.o.k;have:=bb.o.v;have:=bb.o.d;exact⟨by omega,by omega,by omega⟩) (by omega) (by omega) (by rw[a5.o.2.2];omega) ev (by have:=bc.o.2;omega) (λ x hx=>⟨(BD.gz.vok x hx).may,(BD.gz.vok x hx).sm⟩)
       unfold chp at JN
       rw[a6.o,az.o,dn.o,hJ.o]at JN
       have fw:=za0 JN
       have ae:Hid (JOk r.c n1 J):=by
        show JOk r.c n1 J
        rw[<-hJ.o]
        exact zmr9 (λ x hx=>BD.gz.vok x hx) r.c bb.o (by rw[a5.o.2.2];omega) (by rw[a5.o.2.2];omega)
       have gq:Hid (J.c.tk.length<=KB):=by show _<=_;rw[ae.o.tk];exact bc.o.1
       obtain⟨Q1,hc⟩:=exH J.n.ks.length
       obtain⟨Q2,hf⟩:=exH J.n.vs.length
       obtain⟨Q3,hm⟩:=exH J.n.kd.length
       obtain⟨jf,f7⟩:=exH J.n.lf
       obtain⟨ji,dh⟩:=exH J.i
       obtain⟨jj,di⟩:=exH J.j
       obtain⟨je,bd⟩:=exH J.e
       have QD:Nb ac.drew 93 pb qf (.slice d1 P1 f1) (.slice d2 P2 f2) (.slice d3 P3 f3):=(gb.o.below b7).below (Below.refl _ _).drew
       have ed:Nb ac.drew 93 Y.heap.size false (.slice (some ⟨kb,ko,none⟩) u c1) (.slice a2 L2 c2) (.slice (some ⟨db,a0,none⟩) u c3):=al.below (Below.refl _ _).drew
       have fu:=za0 BD
       have ct:=za0 QD
       have e0:=za0 ed
       have gm:Hid (∀(WJ:World)(HJ:Nat->Prop)(x1 x2 x3:Value),Gz HJ WJ t cc d M N r.a b J.c->Tch H6 ac.drew WJ->(∀k,HJ k->H6 k\/ac.drew.heap.size<=k)->Nn WJ J.n x1 x2 x3->(∀j,(x1.ownBlock=some j\/x2.ownBlock=some j\/x3.ownBlock=some j)->((Value.slice d1 P1 f1).ownBlock=some j\/(Value.slice d2 P2 f2).ownBlock=some j\/(Value.slice d3 P3 f3).ownBlock=some j\/ac.drew.heap.size<=j)/\¬HJ j)->
        Nb WJ 93 Y.heap.size false (.slice (some ⟨kb,ko,none⟩) u c1) (.slice a2 L2 c2) (.slice (some ⟨db,a0,none⟩) u c3)/\Nb WJ 93 pb qf (.slice d1 P1 f1) (.slice d2 P2 f2) (.slice d3 P3 f3)/\∀WK,(((WJ.setCell ⟨pb,0,none⟩ (.bool jf)).setCell ⟨pb,1,none⟩ x1).setCell ⟨pb,2,none⟩ x2).setCell ⟨pb,3,none⟩ x3=WK->Nb WK 93 Y.heap.size false (.slice (some ⟨kb,ko,none⟩) u c1) (.slice a2 L2 c2) (.slice (some ⟨db,a0,none⟩) u c3)/\Bz H w t cc d M N b r.a J.c WK HJ Y.heap.size n1 (.slice (some ⟨kb,ko,none⟩) u c1) (.slice a2 L2 c2) (.slice (some ⟨db,a0,none⟩) u c3)/\Ps (λ k=>k=pb\/(x1.ownBlock=some k\/x2.ownBlock=some k\/x3.ownBlock=some k)) WK (.slice (some ⟨pb,0,none⟩) 1 1) [J.n]/\(∀k,(k=pb\/(x1.ownBlock=some k\/x2.ownBlock=some k\/x3.ownBlock=some k))->¬HJ k)):=by
        intro WJ HJ x1 x2 x3 gJ tJ hJ nJ fJ
        have BD:=fu.o
        have BJ:=BD.move gJ tJ hJ
        have bo:=an.o pb gt.o
        have NJ:=e0.o.tch tJ BD.bn
        have QJ:=ct.o.tch tJ bo.2.1
        have bf:=ct.o.lt
        have il:=gj.o
        have fi:¬HJ pb:=λ e=>(hJ pb e).elim bo.2.1 (λ e=>by omega)
        have fl:pb≠Y.heap.size:=λ e=>by
         have h1:=ft.o
         have:=bo.1
         omega
        refine⟨NJ,QJ,λ WK ay=>?_⟩
        have tK:Tch (λ y=>y=pb) WJ WK:=by rw[<-ay];exact zl9 _ _ _ _ _ _
        have NK:=NJ.tch tK (λ e=>fl e.symm)
        have QK:Nb WK 93 pb jf x1 x2 x3:=by rw[<-ay];exact QJ.all _ _ _ _
        have i7:¬((Value.slice (some ⟨kb,ko,none⟩) u c1).ownBlock=some pb\/(Value.slice a2 L2 c2).ownBlock=some pb\/(Value.slice (some ⟨db,a0,none⟩) u c3).ownBlock=some pb):=λ e=>by
         have:=gr.o pb e
         have:=bo.1
         omega
        have BK:=BJ.apart tK (λ k e=>by subst e;exact⟨fi,fl,i7,by have:=bo.1;omega⟩)
        refine⟨NK,BK,⟨pb,x1,x2,x3,rfl,by rw[f7.o];exact QK,nJ.off QJ tK,.inl rfl,λ j hj=>.inr hj⟩,λ k hk=>?_⟩
        rcases hk with rfl|hk
        .exact fi
        .exact(fJ k hk).2
       clear JN BD fj ee hu ev al b7 hz QD ed
       go_wp2_with fail
       have O:Nb ac.drew 93 Y.heap.size false (.slice (some ⟨kb,ko,none⟩) u c1) (.slice a2 L2 c2) (.slice (some ⟨db,a0,none⟩) u c3):=e0.o
       refine beginW (S:=λ Q=>Nb Q 93 Y.heap.size false (.slice (some ⟨kb,ko,none⟩) u c1) (.slice a2 L2 c2) (.slice (some ⟨db,a0,none⟩) u c3)) (t:=18) bi ?_
       refine tkW 0 (some 98) (.move (.tmp 11)) (Value.slice (some ⟨pb,0,none⟩) 1 1) (by rintro o E Q T;go_simp) O ?_
       simp only[zw]
       refine tkW 1 (some 99) (.move (.tmp 0)) (Value.pointer (some ⟨cb,0,none⟩)) (by rintro o E Q T;go_simp) O ?_
       simp only[zw]
       refine tkW 2 (some 100) (.load 93 (.tmp 8)) (nod false (.slice (some ⟨kb,ko,none⟩) u c1) (.slice a2 L2 c2) (.slice (some ⟨db,a0,none⟩) u c3)) ?hy O ?_
       case hy=>
        rintro o E Q T
        have q0:=T.c0;have q1:=T.c1;have q2:=T.c2;have q3:=T.c3
        unfold nod
        go_simp
       simp only[zw]
       refine tkW 3 (some 101) (.move (.tmp 10)) (Value.int .i64 (p:Int)) (by rintro o E Q T;go_simp) O ?_
       simp only[zw]
       refine tkW 4 (some 102) (.move (.tmp 2)) (Value.int .i64 (lv:Int)) (by rintro o E Q T;go_simp) O ?_
       simp only[zw]
       refine tkW 5 (some 103) (.move (.tmp 11)) (Value.slice (some ⟨pb,0,none⟩) 1 1) (by rintro o E Q T;go_simp) O ?_
       simp only[zw]
       refine tkW 6 (some 104) (.indexAddr 176 (.tmp 103) (.const (.int .i64 0))) (Value.pointer (some ⟨pb,0,none⟩)) (by rintro o E Q T;go_simp) O ?_
       simp only[zw]
       refine rdW 7 (some 105) (.load 93 (.tmp 104)) ?_
       rintro o K hd E hg hK
       refine stepY (v:=nod qf (.slice d1 P1 f1) (.slice d2 P2 f2) (.slice d3 P3 f3)) ?hy ?_
       case hy=>
        have QD:=ct.o
        have q0:=QD.c0;have q1:=QD.c1;have q2:=QD.c2;have q3:=QD.c3
        unfold nod
        go_simp
       rw[hd]
       refine hK _ _ (λ _=>O) ?_
       clear E hd hg hK
       simp only[zw]
       refine rdW 8 (some 106) (.call { callee:=.value (.func 160),args:=#[.tmp 99,.tmp 100,.tmp 101,.tmp 102,.tmp 105],argTypes:=#[154,93,3,3,93] }) ?_
       rintro o K hd E hg hK
       refine zg9 (enters_of Tryz.func160 (by kernel_rfl) rfl) E (vs:=#[Value.pointer (some ⟨cb,0,none⟩),nod false (.slice (some ⟨kb,ko,none⟩) u c1) (.slice a2 L2 c2) (.slice (some ⟨db,a0,none⟩) u c3),.int .i64 (p:Int),.int .i64 (lv:Int),nod qf (.slice d1 P1 f1) (.slice d2 P2 f2) (.slice d3 P3 f3)]) (by kernel_rfl) fw.o ?_
       rintro e WJ ⟨HJ,x1,x2,x3,he,gJ,tJ,hJ,nJ,fJ⟩
       obtain⟨d4,f4,d5,f5,d6,f6,rfl,rfl,rfl,_,_,_,_⟩:=nJ.o
       simp only[hc.o,hf.o,hm.o]at he nJ fJ
       simp only[f7.o,dh.o,di.o,bd.o]at he
       refine⟨_,he,?_⟩
       rw[hd]
       obtain⟨da,cr⟩:=gm.o WJ HJ _ _ _ gJ tJ hJ nJ fJ
       refine hK _ _ (λ _=>da) ?_
       clear E hd hg hK he O gJ tJ hJ nJ fJ
       have O:=da
       simp only[zw]
       refine tkW 9 (some 97) (.move (.tmp 106)) (Value.tuple #[nod jf (.slice d4 Q1 f4) (.slice d5 Q2 f5) (.slice d6 Q3 f6),.int .i64 (ji:Int),.int .i64 (jj:Int),.int .i64 je]) (by rintro o E Q T;go_simp) O ?_
       simp only[zw]
       refine tkW 10 (some 107) (.extract (.tmp 97) 0) (nod jf (.slice d4 Q1 f4) (.slice d5 Q2 f5) (.slice d6 Q3 f6)) (by rintro o E Q T;go_simp) O ?_
       simp only[zw]
       refine tkW 11 (some 108) (.extract (.tmp 97) 1) (Value.int .i64 (ji:Int)) (by rintro o E Q T;go_simp) O ?_
       simp only[zw]
       refine tkW 12 (some 109) (.extract (.tmp 97) 2) (Value.int .i64 (jj:Int)) (by rintro o E Q T;go_simp) O ?_
       simp only[zw]
       refine tkW 13 (some 110) (.extract (.tmp 97) 3) (Value.int .i64 je) (by rintro o E Q T;go_simp) O ?_
       simp only[zw]
       refine tkW 14 (some 111) (.indexAddr 176 (.tmp 98) (.const (.int .i64 0))) (Value.pointer (some ⟨pb,0,none⟩)) (by rintro o E Q T;go_simp) O ?_
       simp only[zw]
       refine rdW 15 none (.store 93 (.tmp 111) (.tmp 107)) ?_
       rintro o K hd E hg hK
       refine zau9 E rfl rfl cr.1 ?_
       rw[hd]
       obtain⟨WK,ay⟩:=exN ((((WJ.setCell ⟨pb,0,none⟩ (.bool jf)).setCell ⟨pb,1,none⟩ (.slice d4 Q1 f4)).setCell ⟨pb,2,none⟩ (.slice d5 Q2 f5)).setCell ⟨pb,3,none⟩ (.slice d6 Q3 f6))
       obtain⟨ai,BK,PK,ZK⟩:=cr.2 WK ay
       rw[ay]
       refine hK _ _ (λ _=>ai) ?_
       clear E hd hg hK O da cr
       simp only[zw]
       refine rdW 16 (some 12) (.assign (.tmp 108)) ?_
       rintro o K hd E hg hK
       refine stepY (v:=Value.int .i64 (ji:Int)) ?hy ?_
       case hy=>go_simp
       rw[hd]
       refine hK _ _ (λ _=>ai) ?_
       clear E hd hg hK
       simp only[zw]
       refine rdW 17 (some 13) (.assign (.tmp 109)) ?_
       rintro o K hd E hg hK
       refine stepY (v:=Value.int .i64 (jj:Int)) ?hy ?_
       case hy=>go_simp
       rw[hd]
       refine hK _ _ (λ _=>ai) ?_
       clear E hd hg hK
       simp only[zw]
       refine rdW 18 (some 9) (.assign (.tmp 110)) ?_
       rintro o K hd E hg hK
       refine stepY (v:=Value.int .i64 je) ?hy ?_
       case hy=>go_simp
       rw[hd]
       refine hK _ _ (λ e=>absurd rfl e) ?_
       clear E hd hg hK
       simp only[zw]
       refine doneW (by kernel_rfl) ?_ _
       have b6:=za0 BK
       have gd:=za0 PK
       have gu:=za0 ZK
       clear BK PK ZK ay
       by_cases c5:je=0
       focus
        subst c5
        have hs:=ae.o.ij bd.o
        rw[dh.o,di.o,a5.o.2.2]at hs
        have A:=b6.o
        have RP:=zao9 n1 (.slice (some ⟨kb,ko,none⟩) u c1) (.slice a2 L2 c2) (.slice (some ⟨db,a0,none⟩) u c3) (.slice (some ⟨pb,0,none⟩) 1 1) ji jj [J.n] _ WK A.gz (A.ow.k.less (zn7 _)) A.ow.v.rd (A.ow.d.less (zn7 _)) A.ap (λ k e=>⟨λ q=>A.ow.ap k q e,A.ow.v.apart A.ow.d (by decide) e⟩) (λ k e=>A.ow.lt k (.inr (.inl e))) gd.o gu.o (by omega) (by rw[a5.o.1];omega) (by rw[a5.o.2.2];omega) (by rw[a5.o.1,a5.o.2.2];omega) (λ q hq=>by rw[List.mem_singleton.1 hq];exact ae.o.sz.sm) (by have:=gq.o;omega)
        unfold chp nod at RP
        rw[a6.o,az.o]at RP
        obtain⟨rr,a9⟩:=exH (replaceF r.a J.c n1 ji jj [J.n])
        rw[a9.o]at RP
        have ak:=za0 RP
        have bs:Hid (SzT rr.n):=by
         rw[<-a9.o]
         exact zak9 _ _ _ _ af.o.1 af.o.2 (λ q hq=>by rw[List.mem_singleton.1 hq];exact ae.o.sz.sm) (by simp)
        have ag:Hid (I=tailF r.a J.c n1 ji jj [J.n]):=(by
         show I=_
         rw[e7.o,if_neg (by rw[bd.o];simp),dh.o,di.o])
        have aa:Hid (I=if rr.e≠0 then⟨rr.e,[],rr.a,rr.c⟩else⟨0,piecesF rr.n,rr.a,rr.c⟩):=by
         show I=_
         rw[ag.o]
         unfold tailF
         rw[a9.o]
        have b9:Hid (BlOk c (f+1) I):=by
         show BlOk c (f+1) I
         rw[ag.o]
         exact(av.o ji jj [J.n] J.c (by rw[ae.o.tk];exact zn6 _) ae.o.gn (by rw[ae.o.lv];exact a4.o.lv) (by simp) (λ q hq=>by rw[List.mem_singleton.1 hq];exact ae.o.sz.sm))
        have b8:=za0 ai
        have cd:=ai.c0
        have ce:=ai.c1
        have cf:=ai.c2
        have cg:=ai.c3
        clear RP A ai
        go_wp2_with fail
        refine ak.o.mono ?_
        rintro e W8 ⟨H8,x1,x2,x3,rfl,g8,t8,h8,n8,f8⟩
        have A:=b6.o
       rotate_right
       .have h7:(je==0)=false:=by rw[zl0];exact c5
        have ic:(je != 0)=true:=by rw[bne,h7];rfl
        have aa:Hid (I=⟨je,[],r.a,J.c⟩):=by
         show I=_
         rw[e7.o,if_pos (by rw[bd.o];exact c5),bd.o]
        have ad:Hid (BelT H w t cc d M N b I (.returned (.tuple #[.slice none 0 0,.int .i64 je])) WK/\BlOk c (f+1) I):=by
         show _/\_
         rw[aa.o]
         have k1:=a4.o.tk
         have k2:=a4.o.gn
         have k3:=bp.o
         rw[k3.2.1]at k1
         have k4:=ae.o.gn
         have k5:=ae.o.tk
         exact⟨⟨HJ,λ _=>False,_,rfl,b6.o.gz,b6.o.tc,b6.o.hh,rfl,λ _ e=>e.elim⟩,zdd9 (by rw[k5];omega) (by omega) (by rw[ae.o.lv];exact a4.o.lv)⟩
        clear c5
        go_wp2_with fail
        go_ret2
        exact ad.o
      rotate_right
      focus
       have dz:decide (sz<120)=false:=zm1 hz
       have hw:Hid (120<=sz):=by show _<=_;omega
       clear b7 hz
       have A:=cj.o
       have RP:=zao9 n1 (.slice (some ⟨kb,ko,none⟩) u c1) (.slice a2 L2 c2) (.slice (some ⟨db,a0,none⟩) u c3) (.slice (some ⟨pb,0,none⟩) 1 1) p (p+1) r.ps Zp ac A.gz (A.ow.k.less (zn7 _)) A.ow.v.rd (A.ow.d.less (zn7 _)) A.ap (λ k e=>⟨λ q=>A.ow.ap k q e,A.ow.v.apart A.ow.d (by decide) e⟩) (λ k e=>A.ow.lt k (.inr (.inl e))) gc.o (λ k hk=>(an.o k hk).2.1) (by omega) (by rw[a5.o.1];omega) (by rw[a5.o.2.2];omega) (by rw[a5.o.1,a5.o.2.2];omega) ah.o (by have:=bc.o.1;omega)
       unfold chp nod at RP
       rw[a6.o,az.o]at RP
       obtain⟨rr,a9⟩:=exH (replaceF r.a r.c n1 p (p+1) r.ps)
       rw[a9.o]at RP
       have ak:=za0 RP
       have bs:Hid (SzT rr.n):=by
        rw[<-a9.o]
        exact zak9 _ _ _ _ af.o.1 af.o.2 ah.o a4.o.two
       have ag:Hid (I=tailF r.a r.c n1 p (p+1) r.ps):=(by
        show I=_
        rw[ba.o,upF_no ar.o (by unfold jnP;rintro⟨_,_,e⟩;rw[dg.o,dq.o]at e;have:=hw.o;omega),aq.o,a8.o,hp.o])
       have aa:Hid (I=if rr.e≠0 then⟨rr.e,[],rr.a,rr.c⟩else⟨0,piecesF rr.n,rr.a,rr.c⟩):=by
        show I=_
        rw[ag.o]
        unfold tailF
        rw[a9.o]
       have b9:Hid (BlOk c (f+1) I):=by
        show BlOk c (f+1) I
        rw[ag.o]
        exact(av.o p (p+1) r.ps r.c (zn6 _) (by omega) a4.o.lv a4.o.two ah.o)
       have b8:=za0 al
       have cd:=al.c0
       have ce:=al.c1
       have cf:=al.c2
       have cg:=al.c3
       clear RP A al
       go_wp2_with fail
       refine ak.o.mono ?_
       rintro e W8 ⟨H8,x1,x2,x3,rfl,g8,t8,h8,n8,f8⟩
       have A:=cj.o
     rotate_right
     focus
      have ie:((pl:Int)==1)=false:=by rw[zl0];omega
      have ig:decide ((pl:Int)=1)=false:=by rw[zn4];omega
      have A:=b4.o
      have RP:=zao9 n1 (.slice (some ⟨kb,ko,none⟩) u c1) (.slice a2 L2 c2) (.slice (some ⟨db,a0,none⟩) u c3) (.slice va pl pl) p (p+1) r.ps Zp W7 A.gz (A.ow.k.less (zn7 _)) A.ow.v.rd (A.ow.d.less (zn7 _)) A.ap (λ k e=>⟨λ q=>A.ow.ap k q e,A.ow.v.apart A.ow.d (by decide) e⟩) (λ k e=>A.ow.lt k (.inr (.inl e))) br.o (λ k hk=>(an.o k hk).2.1) (by omega) (by rw[a5.o.1];omega) (by rw[a5.o.2.2];omega) (by rw[a5.o.1,a5.o.2.2];omega) ah.o (by have:=bc.o.1;omega)
      unfold chp nod at RP
      rw[a6.o,az.o]at RP
      obtain⟨rr,a9⟩:=exH (replaceF r.a r.c n1 p (p+1) r.ps)
      rw[a9.o]at RP
      have ak:=za0 RP
      have bs:Hid (SzT rr.n):=by
       rw[<-a9.o]
       exact zak9 _ _ _ _ af.o.1 af.o.2 ah.o a4.o.two
      have ag:Hid (I=tailF r.a r.c n1 p (p+1) r.ps):=(by
       show I=_
       rw[ba.o,upF_no ar.o (by unfold jnP;rintro⟨_,e,_⟩;exact h1 (by rw[<-bf.o];exact e)),aq.o,a8.o,hp.o])
      have aa:Hid (I=if rr.e≠0 then⟨rr.e,[],rr.a,rr.c⟩else⟨0,piecesF rr.n,rr.a,rr.c⟩):=by
       show I=_
       rw[ag.o]
       unfold tailF
       rw[a9.o]
      have b9:Hid (BlOk c (f+1) I):=by
       show BlOk c (f+1) I
       rw[ag.o]
       exact(av.o p (p+1) r.ps r.c (zn6 _) (by omega) a4.o.lv a4.o.two ah.o)
      have b8:=za0 N7
      have cd:=N7.c0
      have ce:=N7.c1
      have cf:=N7.c2
      have cg:=N7.c3
      clear RP A N7
      have bk:=ax.o.1
      have bl:=ax.o.2
      go_wp2_with fail
      clear bk bl
      refine ak.o.mono ?_
      rintro e W8 ⟨H8,x1,x2,x3,rfl,g8,t8,h8,n8,f8⟩
      have A:=b4.o
    all_goals
     obtain⟨p1,q1,p2,q2,p3,q3,rfl,rfl,rfl,_,_,_,_⟩:=n8.o
     obtain⟨M1,ei⟩:=exH rr.n.ks.length
     obtain⟨M2,ej⟩:=exH rr.n.vs.length
     obtain⟨M3,ek⟩:=exH rr.n.kd.length
     obtain⟨ml,fc⟩:=exH rr.n.lf
     obtain⟨me,c7⟩:=exH rr.e
     rw[ei.o,ej.o,ek.o]at n8 f8
     rw[ei.o,ej.o,ek.o,fc.o,c7.o]
     unfold nod
     have N8:Nb W8 93 Y.heap.size false (.slice (some ⟨kb,ko,none⟩) u c1) (.slice a2 L2 c2) (.slice (some ⟨db,a0,none⟩) u c3):=b8.o.tch t8 (λ e=>e.elim A.bn (λ e=>e.elim (λ e=>A.ne _ (.inl e) rfl) (λ e=>A.ne _ (.inr (.inr e)) rfl)))
     obtain⟨W9,df⟩:=exN ((((W8.setCell ⟨Y.heap.size,0,none⟩ (.bool ml)).setCell ⟨Y.heap.size,1,none⟩ (.slice p1 M1 q1)).setCell ⟨Y.heap.size,2,none⟩ (.slice p2 M2 q2)).setCell ⟨Y.heap.size,3,none⟩ (.slice p3 M3 q3))
     have N9:Nb W9 93 Y.heap.size ml (.slice p1 M1 q1) (.slice p2 M2 q2) (.slice p3 M3 q3):=by rw[<-df];exact N8.all _ _ _ _
     have t9:Tch (λ y=>y=Y.heap.size) W8 W9:=by rw[<-df];exact zl9 _ _ _ _ _ _
     have fh:¬H8 Y.heap.size:=λ e=>(h8 _ e).elim A.bn (λ e=>by have:=A.nb.lt;omega)
     have g9:=g8.tch t9 (λ y hy e=>fh (e▸hy))
     have T9:Tch H w W9:=(A.tc.trans t8 (λ y hy e=>by
      rcases e with e|e|e
      .exact(A.hh y e).elim id (λ e=>by omega)
      .have:=A.ow.fr y (.inl e);omega
      .have:=A.ow.fr y (.inr (.inr e));omega)).trans t9 (λ y hy e=>by have:=A.bg;omega)
     have ez:∀k,H8 k->H k\/w.heap.size<=k:=λ k hk=>(h8 k hk).elim (A.hh k) (λ e=>.inr (zn2 A.tc.size e))
     have bm:∀j,((Value.slice p1 M1 q1).ownBlock=some j\/(Value.slice p2 M2 q2).ownBlock=some j\/(Value.slice p3 M3 q3).ownBlock=some j)->j≠Y.heap.size/\w.heap.size<=j:=λ j hj=>by
      rcases(f8 j hj).1 with e|e|e|e
      .exact⟨A.ne j (.inl e),A.ow.fr j (.inl e)⟩
      .exact⟨A.ne j (.inr (.inl e)),A.ow.fr j (.inr (.inl e))⟩
      .exact⟨A.ne j (.inr (.inr e)),A.ow.fr j (.inr (.inr e))⟩
      .have q1:=A.nb.lt
       have q2:=A.tc.size
       exact⟨by omega,by omega⟩
     have n9:=n8.tch t9 (λ y hy e=>(bm y (.inl hy)).1 e) (λ y hy e=>(bm y (.inr (.inl hy))).1 e) (λ y hy e=>(bm y (.inr (.inr hy))).1 e)
     have bt:=zdr9 rr.n (.slice p1 M1 q1) (.slice p2 M2 q2) (.slice p3 M3 q3) (λ j=>w.heap.size<=j/\¬H8 j) W9 n9 bs.o.sm (λ j hj=>⟨(bm j hj).2,(f8 j hj).2.1⟩) (λ j hj=>zn1 (f8 j hj).2.2 t9.size)
     rw[fc.o]at bt
     unfold nod at bt
     have cs:=za0 bt
     have cn:=za0 g9
     have cw:=za0 T9
     have dw:=za0 ez
     have iq:=N8.c0
     have ir:=N8.c1
     have it:=N8.c2
     have iu:=N8.c3
     have iv:=N8.fz 0
     have iw:=N8.fz 1
     have ix:=N8.fz 2
     have iy:=N8.fz 3
     have iz:=N9.c0
     have j0:=N9.c1
     have j1:=N9.c2
     have j2:=N9.c3
     clear bt A n8 f8 t8 g8 h8 N8 N9 t9 fh g9 T9 ez bm n9 ak cd ce cf cg b8
     by_cases c9:me=0
     .subst c9
      have cv:Hid (I=⟨0,piecesF rr.n,rr.a,rr.c⟩):=by
       show I=_
       rw[aa.o,if_neg (by rw[c7.o];simp)]
      go_wp2_with fail
      refine cs.o.mono ?_
      rintro e WA ⟨fo,rfl,fm,bA⟩
      have ad:Hid (BelT H w t cc d M N b I (.returned (.tuple #[fo,.int .i64 0])) WA/\BlOk c (f+1) I):=by
       refine⟨?_,b9.o⟩
       rw[cv.o]
       refine⟨H8,_,fo,rfl,cn.o.below bA,cw.o.trans (Tch.of_below (S:=H) bA) (λ _ _ e=>e),dw.o,fm,λ k hk=>?_⟩
       obtain⟨dj,be⟩:=hk
       rcases dj with⟨q1,q2⟩|q
       .exact⟨q1,be,q2⟩
       .have:=cw.o.size
        exact⟨by omega,be,λ e=>by have:=cn.o.hl k e;omega⟩
      clear fm bA cs
      go_wp2_with fail
      go_ret2
      exact ad.o
     .have h5:(me==0)=false:=by rw[zl0];exact c9
      have ib:(me != 0)=true:=by rw[bne,h5];rfl
      have cv:Hid (I=⟨me,[],rr.a,rr.c⟩):=by
       show I=_
       rw[aa.o,if_pos (by rw[c7.o];exact c9),c7.o]
      have ad:Hid (BelT H w t cc d M N b I (.returned (.tuple #[.slice none 0 0,.int .i64 me])) W9/\BlOk c (f+1) I):=by
       refine⟨?_,b9.o⟩
       rw[cv.o]
       exact⟨H8,λ _=>False,_,rfl,cn.o,cw.o,dw.o,rfl,λ _ e=>e.elim⟩
      clear c9 cs
      go_wp2_with fail
      try rw[df]
      go_ret2
      exact ad.o
   .have d0:(re==0)=false:=by rw[zl0];exact ca
    have h4:(re != 0)=true:=by rw[bne,d0];rfl
    have aa:Hid (I=⟨re,[],r.a,r.c⟩):=by
     show I=_
     rw[ba.o,zyr9 (by rw[ar.o];exact ca),ar.o]
    have ad:Hid (BelT H w t cc d M N b I (.returned (.tuple #[.slice none 0 0,.int .i64 re])) W6/\BlOk c (f+1) I):=by
     show _/\_
     rw[aa.o]
     have k1:=a4.o.tk
     have k2:=a4.o.gn
     have k3:=bp.o
     rw[k3.2.1]at k1
     exact⟨⟨H6,λ _=>False,_,rfl,B6.gz,B6.tc,B6.hh,rfl,λ _ e=>e.elim⟩,zdd9 (by omega) (by omega) a4.o.lv⟩
    clear ca B6
    go_wp2_with fail
    go_ret2
    exact ad.o
  .have e4:W4.cell? ⟨cb,4,none⟩=some (.int .i64 ((leaveF a c x).lv:Int)):=by rw[<-a6.o];exact B4.gz.c4
   have ih:W4.frozen? ⟨cb,4,none⟩=false:=by rw[<-a6.o];exact B4.gz.fz 4
   obtain⟨W5,es⟩:=exN (W4.setCell ⟨cb,4,none⟩ (.int .i64 (lv:Int)))
   obtain⟨g5,t5⟩:=B4.gz.setLv lv
   rw[a6.o,es]at g5 t5
   have B5:=(B4.move g5 t5 (λ _ e=>.inl e)).drew
   have bw:W5.drew.cell? ⟨cb,2,none⟩=some (.func (.func g) #[] am):=by rw[<-a6.o,<-fv.o];exact B5.gz.c2
   have N5:Nb W5.drew 93 Y.heap.size true (.slice a1 u c1) (.slice a2 L2 c2) (.slice a3 L3 c3):=by rw[<-a7.o];exact B5.nb
   have O:W5.drew.cell? ⟨cb,2,none⟩=some (.func (.func g) #[] am)/\Nb W5.drew 93 Y.heap.size true (.slice a1 u c1) (.slice a2 L2 c2) (.slice a3 L3 c3):=⟨bw,N5⟩
   have aa:Hid (I=⟨0,piecesF (D.lf n),a,{ leaveF a c x with lv:=lv }⟩):=by
    show I=_
    rw[cu.o,if_neg (by simp),if_pos a7.o]
   have av:Hid (BlOk c (f+1) I):=by
    show BlOk c (f+1) I
    rw[aa.o]
    exact zpd9 HC.o HV.o a7.o x ht.2
   have gp:=za0 (HS.o.on B5.tc B5.hh)
   have fg:=B5.tc.size
   have ds:=za0 (cl.o n _ _ _ W5.drew w.heap.size (λ k hk=>(gp.o k hk).2.2) (λ k hk=>(HS.o k hk).1) fg B5.ow HV.o.sm (by have:=HV.o.len;omega) (HV.o.leaf a7.o).1)
   rw[a7.o]at ds
   have aj:=za0 B5
   have eq:=HC.o.sz n HV.o.sz HV.o.len.1 (HV.o.leaf a7.o).1
   have gl:Hid (∀(W6:World)(y1 y2 y3:Value),Ow3 w.heap.size W6 (D.lf n) y1 y2 y3->Tch (λ k=>(Value.slice a1 u c1).ownBlock=some k\/(Value.slice a2 L2 c2).ownBlock=some k) W5.drew W6->(∀j,(y1.ownBlock=some j\/y2.ownBlock=some j\/y3.ownBlock=some j)->((Value.slice a1 u c1).ownBlock=some j\/(Value.slice a2 L2 c2).ownBlock=some j\/(Value.slice a3 L3 c3).ownBlock=some j)\/W5.drew.heap.size<=j)->
    (W6.cell? ⟨cb,2,none⟩=some (.func (.func g) #[] am)/\Nb W6 93 Y.heap.size true (.slice a1 u c1) (.slice a2 L2 c2) (.slice a3 L3 c3))/\
    (Calls Tryz.prog 142 #[nod (D.lf n).lf y1 y2 y3] W6 λ e Q=>∃v,e=.returned v/\Ps (λ j=>(w.heap.size<=j/\¬H4 j\/W6.heap.size<=j)/\j<Q.heap.size) Q v (piecesF (D.lf n))/\Below W6.heap.size W6 Q)/\
    (∀(W7:World)(v:Value),Ps (λ j=>(w.heap.size<=j/\¬H4 j\/W6.heap.size<=j)/\j<W7.heap.size) W7 v (piecesF (D.lf n))->Below W6.heap.size W6 W7->BelT H w t cc d M N b I (.returned (.tuple #[v,.int .i64 0])) W7/\BlOk c (f+1) I)):=by
    intro W6 y1 y2 y3 b1 t6 f6
    have B5:=aj.o
    have hn:H4 cb:=by rw[<-a6.o];exact B5.gz.hcb
    have bj:Tch (λ k=>(Value.slice a1 u c1).ownBlock=some k\/(Value.slice a2 L2 c2).ownBlock=some k\/(Value.slice a3 L3 c3).ownBlock=some k) W5.drew W6:=t6.mono (λ k _ e=>e.elim .inl (λ e=>.inr (.inl e)))
    have g6:=B5.gz.tch bj (λ k hk e=>B5.ap k e hk)
    have gx:∀j,(y1.ownBlock=some j\/y2.ownBlock=some j\/y3.ownBlock=some j)->w.heap.size<=j/\¬H4 j:=λ j hj=>⟨b1.fr j hj,λ e=>(f6 j hj).elim (λ q=>B5.ap j q e) (λ q=>by have:=B5.gz.hl j e;omega)⟩
    refine⟨⟨?_,?_⟩,zdr9 (D.lf n) y1 y2 y3 _ W6 b1.nn eq.sm gx b1.lt,λ W7 v dr b7=>⟨?_,av.o⟩⟩
    .rw[bj.cell (p:=⟨cb,2,none⟩) (ze0 W5.drew ⟨cb,2,none⟩ bw) (λ e=>B5.ap cb e hn)];exact bw
    .exact N5.tch bj (λ e=>B5.ne Y.heap.size e rfl)
    .rw[aa.o]
     refine⟨H4,_,v,rfl,g6.below b7,(B5.tc.trans bj (λ y hy e=>by have:=B5.ow.fr y e;omega)).trans (Tch.of_below (S:=H) b7) (λ _ _ e=>e),B5.hh,dr,λ k hk=>?_⟩
     obtain⟨dj,be⟩:=hk
     rcases dj with⟨q1,q2⟩|q
     .exact⟨q1,be,q2⟩
     .have ii:=bj.size
      exact⟨by omega,be,λ e=>by have:=B5.gz.hl k e;omega⟩
   clear B4 g5 t5 B5 bw N5 eq fg N4
   go_wp2_with fail
   try rw[es]
   have bi:Tryz.prog.follows .mixedOrders=true:=by kernel_rfl
   refine beginW (S:=λ Q=>Q.cell? ⟨cb,2,none⟩=some (.func (.func g) #[] am)/\Nb Q 93 Y.heap.size true (.slice a1 u c1) (.slice a2 L2 c2) (.slice a3 L3 c3)) (t:=8) bi ?_
   refine tkW 0 (some 36) (.move (.tmp 0)) (Value.pointer (some ⟨cb,0,none⟩)) (by rintro o E Q ⟨z1,T⟩;go_simp) O ?_
   simp only[zw]
   refine tkW 1 (some 37) (.nilCheck (.tmp 36)) (Value.pointer (some ⟨cb,0,none⟩)) (by rintro o E Q ⟨z1,T⟩;go_simp) O ?_
   simp only[zw]
   refine tkW 2 (some 38) (.fieldAddr 114 (.tmp 37) 2) (Value.pointer (some ⟨cb,2,none⟩)) (by rintro o E Q ⟨z1,T⟩;go_simp) O ?_
   simp only[zw]
   refine tkW 3 (some 39) (.load 112 (.tmp 38)) (Value.func (.func g) #[] am) (by rintro o E Q ⟨z1,T⟩;go_simp) O ?_
   simp only[zw]
   refine tkW 4 (some 40) (.load 93 (.tmp 8)) (nod true (.slice a1 u c1) (.slice a2 L2 c2) (.slice a3 L3 c3)) ?hy O ?_
   case hy=>
    rintro o E Q ⟨z1,T⟩
    have q0:=T.c0;have q1:=T.c1;have q2:=T.c2;have q3:=T.c3
    unfold nod
    go_simp
   simp only[zw]
   refine rdW 5 (some 41) (.call { callee:=.value (.tmp 39),args:=#[.tmp 40],argTypes:=#[93] }) ?_
   rintro o K hd E hg hK
   refine zgy9 cm.o E (caps:=am) (by rfl) (vs:=#[nod true (.slice a1 u c1) (.slice a2 L2 c2) (.slice a3 L3 c3)]) (by kernel_rfl) ds.o ?_
   rintro e W6 ⟨y1,y2,y3,rfl,b1,t6,f6⟩
   refine⟨_,rfl,?_⟩
   rw[hd]
   obtain⟨ep,aw⟩:=gl.o W6 y1 y2 y3 b1 t6 f6
   clear O
   have O:=ep
   refine hK _ _ (λ _=>O) ?_
   clear E hd hg hK b1 t6 f6
   simp only[zw]
   refine rdW 6 (some 42) (.call { callee:=.value (.func 142),args:=#[.tmp 41],argTypes:=#[93] }) ?_
   rintro o K hd E hg hK
   refine zg9 (enters_of Tryz.func142 (by kernel_rfl) rfl) E (vs:=#[nod (D.lf n).lf y1 y2 y3]) (by kernel_rfl) aw.1 ?_
   rintro e W7 ⟨v7,rfl,dr,b7⟩
   refine⟨_,rfl,?_⟩
   rw[hd]
   have d9:W7.cell? ⟨cb,2,none⟩=some (.func (.func g) #[] am)/\Nb W7 93 Y.heap.size true (.slice a1 u c1) (.slice a2 L2 c2) (.slice a3 L3 c3):=⟨by rw[b7.cell (ze0 W6 ⟨cb,2,none⟩ O.1)];exact O.1,O.2.below b7⟩
   have ad:=za0 (aw.2 W7 v7 dr b7)
   refine hK _ _ (λ _=>d9) ?_
   clear E hd hg hK aw O ep
   simp only[zw]
   refine rdW 7 (some 6) (.assign (.tmp 42)) ?_
   rintro o K hd E hg hK
   refine stepY (v:=v7) ?hy ?_
   case hy=>go_simp
   rw[hd]
   refine hK _ _ (λ _=>d9) ?_
   clear E hd hg hK
   simp only[zw]
   refine rdW 8 (some 7) (.assign (.const (.int .i64 0))) ?_
   rintro o K hd E hg hK
   refine stepY (v:=Value.int .i64 0) ?hy ?_
   case hy=>go_simp
   rw[hd]
   refine hK _ _ (λ e=>absurd rfl e) ?_
   clear E hd hg hK
   simp only[zw]
   refine doneW (by kernel_rfl) ?_ _
   clear d9
   go_wp2_with fail
   go_ret2
   exact ad.o
 .have d0:(er==0)=false:=by rw[zl0];exact h0
  have h4:(er != 0)=true:=by rw[bne,d0];rfl
  have aa:Hid (I=⟨er,[],a,c⟩):=by
   show I=_
   rw[cu.o,if_pos h0]
  have ad:Hid (BelT H w t cc d M N b I (.returned (.tuple #[.slice none 0 0,.int .i64 er])) W3/\BlOk c (f+1) I):=by
   show _/\_
   rw[aa.o]
   exact⟨⟨H1,λ _=>False,_,rfl,B3.gz,B3.tc,B3.hh,rfl,λ _ e=>e.elim⟩,zdd9 (by omega) (by omega) dv.o⟩
  clear h0 B3 NC cm cl
  go_wp2_with fail
  try rw[bx]
  go_ret2
  exact ad.o
end
section
variable {H:Nat->Prop} {t cc d M N:Nat} {a:AS} {b:CB} {c:CH} {R:Nat->Prop} {w0:World}
theorem zqg9(a:AS)(x:Int):look a x 17=(7,noneN):=rfl
def zjz9(D:CD)(a:AS)(c:CH)(x:Int):belowF D 1 a c x 17=belowF D 0 a c x 17:=by
 rw[belowF,belowF,zqg9]
 rfl
def zgh9(D:CD)(u:Clo R w0 b D)(K:Nat)(Q:K<=500):∀(f lv:Nat),f+lv=17->1<=lv->BelC R w0 t cc d M N b D K f lv
 | 0,lv,h,h1=>by
  obtain rfl:lv=17:=by omega
  intro H w a c x Y G T a1 a0 E
  have I:=zek9 (t:=t) (cc:=cc) (d:=d) (M:=M) (N:=N) D u (K+2) 0 17 (by omega) ⟨by omega,by omega⟩ (λ e=>by omega)
  refine(I H w a c x Y G T (by omega) (by omega) E).mono ?_
  rintro e w' ⟨A,O⟩
  rw[zjz9]at A O
  refine⟨A,?_⟩
  rw[belowF]
  exact zdd9 (by omega) (by omega) E
 | f+1,lv,h,h1=>zek9 D u K f lv (by omega) ⟨h1,by omega⟩ (λ _=>zgh9 D u K Q f (lv+1) (by omega) (by omega))
def zxr9(B:Nat)(w:World):Ow3 B w leaf0 (.slice none 0 0) (.slice none 0 0) (.slice none 0 0):=⟨zx9 _ _ _,zx9 _ _ _,zx9 _ _ _,λ j e=>by cases e⟩
def zom9:SzT leaf0:=sz_of (by simp[leaf0]) (by simp[leaf0]) (by simp[leaf0]) (by simp[leaf0]) (by simp[leaf0])
def znm9(D:CD)(O:Clo R w0 b D)(x:Int)(hx:(Lit.int .i64 x).wf=true)(w:World)(G:Gz H w t cc d M N a b c)(Q:Stay R w0 w H)(hc:c=ch0):
 Calls Tryz.prog 113 #[chp b,.int .i64 x] w λ e w'=>BelT H w t cc d M N b (partsF D a c x) e w'/\BlOk c 16 (partsF D a c x):=by
 subst hc
 obtain⟨g,aj,a3,a2,a0⟩:=O.fn
 by_cases T:x=0
 .subst T
  have Y:Hid (partsF D a ch0 0=⟨0,piecesF (D.lf leaf0),a,ch0⟩):=if_pos rfl
  have a4:=O.sz leaf0 zom9 (by decide) rfl
  have ai:Hid (BlOk ch0 16 (partsF D a ch0 0)):=by
   show BlOk _ _ _
   rw[Y.o]
   exact⟨zfz9 a4,by simp,by simp,zds9 _,by simp[ch0]⟩
  have c2:w.cell? ⟨b.cb,2,none⟩=some (.func (.func g) #[] aj):=by rw[<-a3];exact G.c2
  have ab:=za0 (a0 leaf0 _ _ _ w w.heap.size (λ k A=>(Q k A).2.2) (λ k A=>(Q k A).1) (zn6 _) (zxr9 _ _) zom9.sm (by decide) rfl)
  have a6:Hid (∀(W:World)(E I K:Value),Ow3 w.heap.size W (D.lf leaf0) E I K->Calls Tryz.prog 142 #[nod (D.lf leaf0).lf E I K] W λ e w'=>∃v,e=.returned v/\Ps (λ j=>(w.heap.size<=j\/W.heap.size<=j)/\j<w'.heap.size) w' v (piecesF (D.lf leaf0))/\Below W.heap.size W w'):=λ W E I K h=>zdr9 _ E I K (λ j=>w.heap.size<=j) W h.nn a4.sm (λ j hj=>h.fr j hj) h.lt
  have ad:=za0 a2
  have HG:=za0 G
  obtain⟨cb,a1⟩:=exH b.cb
  unfold chp
  rw[a1.o]at c2 |-
  clear O a3 a2 a0 G Q a4 hx
  go_enter Tryz.func113,Tryz.ntmps113
  go_wp2_with fail
  rw[ad.o]
  refine ab.o.mono ?_
  rintro e W1 ⟨E,I,K,rfl,a9,t1,f1⟩
  have a5:Tch (λ _=>False) w W1:=t1.mono (λ k _ e=>by rcases e with e|e<;>cases e)
  have a7:=za0 (a6.o W1 E I K a9)
  have ag:=za0 (HG.o.tch a5 (λ _ _ e=>e))
  have a8:=za0 a5
  have ah:=za0 HG.o.hl
  clear a9 t1 f1 a5 a6 c2
  go_wp2_with fail
  refine a7.o.mono ?_
  rintro e W2 ⟨v2,rfl,aa,b2⟩
  have af:Hid (BelT H w t cc d M N b (partsF D a ch0 0) (.returned (.tuple #[v2,.int .i64 0])) W2/\BlOk ch0 16 (partsF D a ch0 0)):=by
   refine⟨?_,ai.o⟩
   rw[Y.o]
   refine⟨H,_,v2,rfl,ag.o.below b2,(a8.o.mono (λ _ _ e=>e.elim)).trans (Tch.of_below (S:=H) b2) (λ _ _ e=>e),λ k e=>.inl e,aa,λ k A=>?_⟩
   have h1:w.heap.size<=k:=A.1.elim id (λ e=>zn2 a8.o.size e)
   exact⟨h1,A.2,λ e=>by have:=ah.o k e;omega⟩
  clear aa b2 a7
  go_wp2_with fail
  go_ret2
  exact af.o
 .have Y:Hid (partsF D a ch0 x=belowF D 16 a ch0 x 1):=if_neg T
  have u:=zgh9 (t:=t) (cc:=cc) (d:=d) (M:=M) (N:=N) D O 200 (by omega) 16 1 rfl (zn6 _) H w a ch0 x hx G Q (by simp[ch0]) (by simp[ch0]) (by simp[ch0])
  rw[Y.o]
  obtain⟨r,hr⟩:=exH (belowF D 16 a ch0 x 1)
  rw[hr.o]at u |-
  have ak:(x==0)=false:=by rw[zl0];exact T
  have al:decide (x=0)=false:=by rw[zn4];exact T
  rw[show((1:Nat):Int)=1 from rfl]at u
  obtain⟨cb,a1⟩:=exH b.cb
  unfold chp at u |-
  rw[a1.o]at u |-
  have ac:=za0 u
  clear O a3 a2 a0 G Q hx T u
  go_enter Tryz.func113,Tryz.ntmps113
  go_wp2_with fail
  refine ac.o.mono ?_
  rintro e W1 ⟨⟨H1,Z,v,rfl,h1⟩,h2⟩
  have HF:=za0 h1
  have ae:=za0 h2
  clear h1 h2
  go_wp2_with fail
  go_ret2
  exact⟨⟨H1,Z,v,rfl,HF.o⟩,ae.o⟩
def zyl9:SzT top0:=sz_of (λ s u=>by rw[List.mem_singleton.1 u];exact zn7 _) (by simp[top0]) (by simp[top0]) (by simp[top0]) (by simp[top0])
def zku9(D:CD)(a:AS)(c:CH)(x:Int):(rootedF D a c x).c.tk.length<=(partsF D a c x).c.tk.length+(partsF D a c x).ps.length+1/\(rootedF D a c x).c.gn=(partsF D a c x).c.gn:=by
 unfold rootedF
 simp only
 split
 .exact⟨by simp only;omega,rfl⟩
 .split
  .exact⟨by simp only;omega,rfl⟩
  .split
   .split
    .exact⟨by simp only;omega,rfl⟩
    .have:=zda9 (partsF D a c x).a (partsF D a c x).c ((partsF D a c x).ps.getD 0 noneN)
     exact⟨by omega,this.2.1⟩
   .have u:=zbp9 (partsF D a c x).a (partsF D a c x).c top0 0 1 (partsF D a c x).ps
    unfold raiseF
    split
    .exact⟨by simp only;omega,rfl⟩
    .split
     .exact⟨by simp only;omega,u.2.1⟩
     .have A:=zda9 (replaceF (partsF D a c x).a (partsF D a c x).c top0 0 1 (partsF D a c x).ps).a (replaceF (partsF D a c x).a (partsF D a c x).c top0 0 1 (partsF D a c x).ps).c (replaceF (partsF D a c x).a (partsF D a c x).c top0 0 1 (partsF D a c x).ps).n
      exact⟨by omega,A.2.1.trans u.2.1⟩
def zjf9(D:CD)(K:Clo R w0 b D)(x:Int)(Y:(Lit.int .i64 x).wf=true)(w:World)(G:Gz H w t cc d M N a b ch0)(Q:Stay R w0 w H):
 Calls Tryz.prog 53 #[chp b,.int .i64 x] w λ e w'=>e=.returned (.tuple #[.int .i64 (madeF D a x).x,.int .i64 (madeF D a x).e])/\TzTo H w w' t cc d M N (madeF D a x).a:=by
 have O:=znm9 D K x Y w G Q rfl
 refine zuj9 D x w (BlOk ch0 16 (partsF D a ch0 x)) (znu9 D x w _ O (λ h=>?_)) (λ h=>?_)
 .have h1:=zbp9 (partsF D a ch0 x).a (partsF D a ch0 x).c top0 0 1 (partsF D a ch0 x).ps
  have A:=h.tk
  have E:=h.two
  have I:(ch0.tk).length=0:=rfl
  exact⟨λ p u=>(h.sz p u).sm,by omega,by have:=h.lv;omega,by omega,(zak9 _ _ 0 1 zyl9.sm ⟨by simp[top0],by simp[top0],by simp[top0]⟩ (λ p u=>(h.sz p u).sm) h.two).sm⟩
 .have A:=h.tk
  have E:=h.two
  have I:(ch0.tk).length=0:=rfl
  have h5:(ch0.gn).length=0:=rfl
  have h6:=h.gn
  have T:=zku9 D a ch0 x
  rw[T.2]
  omega
end
