import Derived.Test.YtcmjlibndmneiaaGreatPTPl
set_option maxRecDepth 100000
set_option linter.all false
set_option maxHeartbeats 8000000
namespace Go.Proofs.YtcmjlibndmneiaaGreat
open Go.RowKit
def BelOk(d:CD)(op:List E2->List E2)(c h:Nat)(a:AS)(ch:CH)(n:Nd)(lv:Nat)(lo:ByteArray)(hi:Option ByteArray)(L:List E2)(B:List Int)(r:BR):Prop:=
 ∃T X:List Int,Ev a r.a T/\r.c.tk=ch.tk++T/\T.length<=2*h/\
  (r.e=10/\r.a.A.L.count 0=0\/
   r.e=0/\(r.c.gn=ch.gn++X.filter a.F/\∀y∈X,y∈B)/\r.c.lv=lv+h/\(∃B':List Int,(∀y,B'.count y+X.count y=B.count y+T.count y)/\Pts r.a.V c h r.ps lo hi (op L) B'/\Wd d.jn h n.ks.length r.ps B')/\
   (d.jn=false->r.ps≠[]/\∀p,r.ps=[p]->n.ks.length<=p.ks.length)/\(d.jn=true->r.ps.length<=1/\T.length+1<=X.length))
def zfk9(a:AS)(u:CH)(x:Int):(leaveF a u x).gn=u.gn++[x].filter a.F/\(leaveF a u x).tk=u.tk/\(leaveF a u x).lv=u.lv:=by
 unfold leaveF
 split
 .rename_i h;simp[h]
 .rename_i h;simp[h]
section
variable {d:CD} {op:List E2->List E2} {c:Nat}
def up_fin{h:Nat}{a b:AS}{E:CH}{n:Nd}{lv:Nat}{lo:ByteArray}{hi:Option ByteArray}{L:List E2}{B u A X:List Int}{B':List Int}
 (a0:Ev a b u) {r:NR} (a1:Ev b r.a A) (a4:r.c.tk=E.tk++(u++A)) (a7:u.length<=2*h) (a8:A.length<=2) (a2:r.c.gn=E.gn++X.filter a.F/\∀y∈X,y∈B) (a3:r.c.lv=lv+(h+1))
 (Y:Bm r.n) (hs:sz r.n<=292) (hB:∀y,B'.count y+X.count y=B.count y+(u++A).count y) (T:Nod r.a.V c (h+1) r.n lo hi (op L) B')
 (hf:d.jn=false->1<=r.n.ks.length/\n.ks.length<=r.n.ks.length) (a5:d.jn=true->r.n.ks.length<=n.ks.length) (a6:d.jn=false->r.n.ks.length<=n.ks.length\/r.n.ks.length=n.ks.length+1/\2+9*h+(n.ks.length-1)*(h+1)<=B'.length) (ht:d.jn=true->sz r.n<=240/\u.length+A.length+1<=X.length):
 BelOk d op c (h+1) a E n lv lo hi L B ⟨0,piecesF r.n,r.a,r.c⟩:=by
 obtain⟨p1,p2⟩:=zdm9 T Y hs
 refine⟨u++A,X,a0.trans a1,a4,by rw[zf0];omega,.inr ⟨rfl,a2,a3,⟨B',hB,p1,zrb9 Y hs T.1 a5 a6⟩,λ O=>?_,λ O=>?_⟩⟩
 .obtain⟨H,I⟩:=hf O
  rcases p2 with⟨e,_⟩|⟨e,_⟩|⟨e,_⟩
  .rw[e]at H;simp at H
  .show piecesF r.n≠[]/\∀p,piecesF r.n=[p]->_
   rw[e];exact⟨by simp,λ p Q=>by cases Q;exact I⟩
  .refine⟨λ h0=>?_,λ p Q=>?_⟩
   .have K:piecesF r.n=[]:=h0
    rw[K]at e;simp at e
   .have K:piecesF r.n=[p]:=Q
    rw[K]at e;simp at e
 .obtain⟨H,I⟩:=ht O
  refine⟨?_,by rw[zf0];exact I⟩
  rcases p2 with⟨_,e⟩|⟨e,_⟩|⟨_,e⟩
  .show(piecesF r.n).length<=1;rw[e];simp
  .show(piecesF r.n).length<=1;rw[e];simp
  .omega
def zsv9(hd:LfOk d op)(ae:1<=c)(dh:c<=2)(bs:d.jn=true->c=1):∀(h f:Nat)(a:AS)(ch:CH)(x:Int)(lv:Nat)(n:Nd)(lo a5:ByteArray) (hi:Option ByteArray) (L:List E2) (B:List Int),
 a.V x=(0,n)->Bm n->1<=n.ks.length->sz n<=240->Nod a.V c h n lo hi L B->h<f->lv+h<=16->Ke a5 lo->Ke a5 d.key->Lh d.key hi->
 (∀y,(x::B).count y<=1)->(∀y∈x::B,Ah.stv a.A y=1)->Ao a->(d.jn=true->∃e∈L,e.1=d.key)->
 BelOk d op c h a ch n lv a5 hi L (x::B) (belowF d f a ch x lv):=by
 intro h
 induction h with
 | zero=>
  intro f a ch x lv n lo a5 hi L B hV hb hl hs hN hf d3 aj hk aq c5 av bc bt
  obtain⟨f,rfl⟩:∃g,f=g+1:=⟨f-1,by omega⟩
  obtain⟨a1,a2,rfl,rfl⟩:=hN
  have bh:look a x lv=(0,n):=by unfold look;rw[if_neg (by omega)];exact hV
  obtain⟨m1,m2,m3,m4,m5,m6,m7⟩:=hd.lf n a5 hi a1 hb hs (a2.mono aj (Hle.refl _)) hk aq
  have e0:belowF d (f+1) a ch x lv=⟨0,piecesF (d.lf n),a,{ leaveF a ch x with lv:=lv }⟩:=by
   rw[belowF,bh];simp[a1]
  rw[e0]
  obtain⟨g1,g2,g3⟩:=zfk9 a ch x
  have cx:Nod a.V c 0 (d.lf n) a5 hi (op (n.ks.zip n.vs)) []:=⟨m1,m4,m5.symm,rfl⟩
  obtain⟨p1,p2⟩:=zdm9 cx m2 (by omega)
  refine⟨[],[x],Ev.refl a,by simp[g2],by simp,.inr ⟨rfl,⟨g1,λ y E=>E⟩,by simp,⟨[],λ y=>by simp,p1,.inl rfl⟩,λ H=>?_,λ H=>?_⟩⟩
  .obtain⟨f1,f2⟩:=m6 H
   rcases p2 with⟨e,_⟩|⟨e,_⟩|⟨e,_⟩
   .rw[e]at f2;simp at f2
   .show piecesF (d.lf n)≠[]/\∀p,piecesF (d.lf n)=[p]->_
    rw[e];exact⟨by simp,λ p hp=>by cases hp;exact f1⟩
   .refine⟨λ h0=>?_,λ p hp=>?_⟩
    .have ba:piecesF (d.lf n)=[]:=h0
     rw[ba]at e;simp at e
    .have ba:piecesF (d.lf n)=[p]:=hp
     rw[ba]at e;simp at e
  .have:=m7 H
   refine⟨?_,by simp⟩
   rcases p2 with⟨_,e⟩|⟨e,_⟩|⟨_,e⟩
   .show(piecesF (d.lf n)).length<=1;rw[e];simp
   .show(piecesF (d.lf n)).length<=1;rw[e];simp
   .omega
 | succ h ih=>
  intro f a ch x lv n lo a5 hi L B hV hb hl hs hN hf d3 aj hk aq c5 av bc bt
  obtain⟨f,rfl⟩:∃g,f=g+1:=⟨f-1,by omega⟩
  have df:=hN
  obtain⟨a1,a2,a3⟩:=hN
  have bh:look a x lv=(0,n):=by unfold look;rw[if_neg (by omega)];exact hV
  obtain⟨q1,q2,q3⟩:=hb.inn a1
  obtain⟨ci,cj,ay⟩:=zct9 a1 d.key n.ks.length
  have ay:=ay hl
  obtain⟨at_,bd⟩:=exN (plc n d.key n.ks.length)
  rw[bd]at ci cj ay
  obtain⟨K1,K2,a0,al⟩:=cut_at eS n.ks ay
  obtain⟨D1,D2,ah,bk⟩:=cut_at (0:Int) n.kd (i:=at_) (by omega)
  obtain⟨k,bz⟩:=exN (n.ks.getD at_ eS)
  obtain⟨Q,hx1⟩:=exN (n.kd.getD at_ 0)
  rw[bz]at a0
  rw[hx1]at ah
  have c4:kA n at_=k:=bz
  have d1:dA n at_=Q:=hx1
  rw[a0,ah]at a3
  obtain⟨LA,L2,Y,B2,fA,⟨Lk,LC,Bk,BC,sK,fC,rfl,rfl⟩,rfl,rfl⟩:=(Fo.app (by omega)).1 a3
  have fA:Fo (Sub a.V c h) K1 D1 (some k) LA Y:=fA
  have fC:Fo (Sub a.V c h) K2 D2 hi LC BC:=fC
  obtain⟨m,a4,v1,v2,v3,v4,v5,rfl⟩:=sK
  have c6:=hb.up
  rw[a0]at c6
  obtain⟨uA,uX,bl⟩:=List.pairwise_append.1 c6
  obtain⟨uk,uC⟩:=List.pairwise_cons.1 uX
  have c9:Lh d.key (nxt K2 hi):=by
   cases K2 with
   | nil=>exact aq
   | cons I K=>
    intro b be;cases be
    have:=ci (at_+1) (by omega) (by rw[a0];simp;omega)
    unfold kA at this
    rw[a0,zn3,zn0 (by omega),show at_+1-K1.length=1 by omega]at this
    exact this
  have c2:K1=[]\/Ke k d.key:=by
   rcases cj with e|e
   .left;exact zh0 (by omega)
   .right;rw[<-c4];exact e
  obtain⟨I,a9⟩:∃q,minS k d.key=q:=⟨_,rfl⟩
  have ca:Ke I k:=by rw[<-a9];exact zun9 _ _
  have cd:Ke I d.key:=by rw[<-a9];exact zuo9 _ _
  have ce:K1=[]\/I=k:=c2.imp id (λ e=>by rw[<-a9];exact zsb9 e)
  have cf:I.size<=24:=by
   rw[<-a9];unfold minS;split
   .exact hd.key
   .exact hb.ks k (by rw[a0];simp)
  have d6:Ke a5 I:=by
   have h1:Ke a5 k:=aj.trans (a2 k (by rw[a0];simp)).1
   rw[<-a9];unfold minS;split
   .exact hk
   .exact h1
  have c7:∀e∈LA,Kl e.1 d.key:=λ e he=>by
   rcases c2 with e1|e1
   .subst e1
    have hD:D1=[]:=zh0 (by have:([]:List ByteArray).length=0:=rfl;omega)
    subst hD
    obtain⟨rfl,rfl⟩:=fA
    cases he
   .have:=(fA.facts (λ x k hi L B s=>Sub.facts s) uA (λ q O b be=>by cases be;exact bl q O k (by simp))).1 e he
    exact(this.2 k rfl).trans_le e1
  have key3:∀e∈LC,Kl d.key e.1:=λ e he=>by
   obtain⟨⟨q,K,e1,e2⟩,_⟩:=(fC.facts (λ x k hi L B s=>Sub.facts s) uC (λ q O=>(a2 q (by rw[a0];simp[O])).2)).1 e he
   exact(c9 q (by rw[e1];rfl)).trans_le e2
  have bi:op (LA++(Lk++LC))=LA++(op Lk++LC):=hd.loc LA Lk LC c7 key3
  have bu:d.jn=true->∃e∈Lk,e.1=d.key:=λ H=>by
   obtain⟨e,he,e1⟩:=bt H
   rcases zi0.1 he with q|q
   .have:=c7 e q;rw[e1]at this;exact this.irr.elim
   .rcases zi0.1 q with q|q
    .exact⟨e,q,e1⟩
    .have:=key3 e q;rw[e1]at this;exact this.irr.elim
  have d2:d.jn=true->I=k:=λ H=>by
   obtain⟨e,he,e1⟩:=bu H
   have:=((v5.facts v2).1 e he).1
   rw[e1]at this
   rw[<-a9];exact zsb9 this
  have d5:n.ks.set at_ (minS (kA n at_) d.key)=K1++I::K2:=by rw[c4,a9,a0,List.set_append_right _ _ (by omega),show at_-K1.length=0 by omega];rfl
  obtain⟨u,ak⟩:∃q:Nd,({ n with ks:=n.ks.set at_ (minS (kA n at_) d.key) }:Nd)=q:=⟨_,rfl⟩
  have ab:u.lf=false:=by rw[<-ak];exact a1
  have a7:u.ks=K1++I::K2:=by rw[<-ak];exact d5
  have a8:u.kd=D1++Q::D2:=by rw[<-ak];exact ah
  have d9:u.vs=[]:=by rw[<-ak];exact q2
  have cg:u.ks.length=n.ks.length:=by rw[a7,a0];simp
  have c3:∀q∈K2,Kl I q:=λ q O=>ca.trans_lt (uk q O)
  have ax:Bm u:={
   ks:=λ q O=>by
    rw[a7]at O
    rcases zi0.1 O with e|e
    .exact hb.ks q (by rw[a0];simp[e])
    .rcases List.mem_cons.1 e with e|e
     .rw[e];exact cf
     .exact hb.ks q (by rw[a0];simp[e])
   up:=by
    rw[a7]
    refine List.pairwise_append.2 ⟨uA,List.pairwise_cons.2 ⟨c3,uC⟩,λ p hp q O=>?_⟩
    rcases List.mem_cons.1 O with e|e
    .rcases ce with e3|e3
     .rw[e3]at hp;cases hp
     .rw[e,e3];exact bl p hp k (by simp)
    .exact bl p hp q (by simp[e])
   ne:=λ e=>by rw[ab]at e;cases e
   lf:=λ e=>by rw[ab]at e;cases e
   inn:=λ _=>⟨by rw[cg,<-q1,a8,ah],d9,λ y E=>q3 y (by rw[ah,<-a8];exact E)⟩ }
  have d8:sz u+k.size=sz n+I.size:=by
   rw[zba9 ab (ax.inn ab).1,zba9 a1 q1,a7,a0]
   simp only[zaj9,zah9,zf0,zk0]
   omega
  have d7:Rg a5 hi u.ks:=λ q O=>by
   rw[a7]at O
   rcases zi0.1 O with e|e
   .have:=a2 q (by rw[a0];simp[e]);exact⟨aj.trans this.1,this.2⟩
   .rcases List.mem_cons.1 e with e|e
    .rw[e];exact⟨d6,aq.le cd⟩
    .have:=a2 q (by rw[a0];simp[e]);exact⟨aj.trans this.1,this.2⟩
  obtain⟨g1,g2,g3⟩:=zfk9 a ch x
  have b4:∀y,(x::(Y++((Q::a4)++BC))).count y=[x].count y+Y.count y+(Q::a4).count y+BC.count y:=λ y=>by
   rw[show x::(Y++((Q::a4)++BC))=[x]++(Y++((Q::a4)++BC))from rfl]
   simp only[List.count_append];omega
  have hK:=ih f a (leaveF a ch x) Q (lv+1) m k I (nxt K2 hi) Lk a4 v1 v2 (by omega) v4 v5 (by omega) (by omega) ca cd c9
   (λ y=>by have:=c5 y;rw[b4]at this;omega) (λ y E=>av y (by simp only[List.mem_cons,zi0];simp only[List.mem_cons]at E;rcases E with e|e<;>simp[e])) bc bu
  obtain⟨r,hr⟩:=exN (belowF d f a (leaveF a ch x) Q (lv+1))
  rw[hr]at hK
  have e0:belowF d (f+1) a ch x lv=upF d n lv r:=by
   rw[belowF,bh];simp only[a1,bd]
   simp[d1,hr]
  rw[e0]
  obtain⟨T,X,ev,b6,co,hR⟩:=hK
  rcases hR with⟨e,c0⟩|⟨e,⟨cm,cq⟩,cn,⟨an,bb,hP,cz⟩,bw,bx⟩
  .have e1:upF d n lv r=⟨r.e,[],r.a,r.c⟩:=by unfold upF;rw[if_pos (by rw[e];decide)]
   rw[e1]
   exact⟨T,[],ev,by rw[b6,g2],by omega,.inl ⟨e,c0⟩⟩
  have dT:∀y∈x::(Y++((Q::a4)++BC)),y∉T:=λ y E ht=>by have:=ev.fr y ht;have:=av y E;omega
  have cl:=ev.ao bc
  have bj:∀y∈Y++(an++BC),Ah.stv r.a.A y=1:=λ y E=>by
   by_cases ht:y∈T
   .exact ev.tk y ht
   .rw[ev.st y ht]
    refine av y ?_
    have h1:0<(Y++(an++BC)).count y:=List.count_pos_iff.2 E
    have h2:T.count y=0:=List.count_eq_zero.2 ht
    have h3:=bb y
    refine List.count_pos_iff.1 ?_
    rw[b4]
    simp only[List.count_append]at h1
    omega
  have vR:∀y∈x::(Y++((Q::a4)++BC)),r.a.V y=a.V y:=λ y E=>ev.v y (dT y E)
  have b7:Fo (Sub r.a.V c h) K1 D1 (some I) LA Y:=by
   have:=fA.congr (P':=Sub r.a.V c h) (λ x k hi L B1 p q=>p.congr (λ y E=>vR y (by simp[q y E])))
   rcases ce with e3|e3
   .subst e3
    have hD:D1=[]:=zh0 (by have:([]:List ByteArray).length=0:=rfl;omega)
    subst hD
    exact this
   .rw[e3];exact this
  have ap:Fo (Sub r.a.V c h) K2 D2 hi LC BC:=fC.congr (λ x k hi L B1 p q=>p.congr (λ y E=>vR y (by simp[q y E])))
  have d0:∀p∈r.ps,c<=p.ks.length:=λ p hp=>by
   cases H:d.jn with
   | true=>rw[bs H];exact(hP.ks.2 p hp).2.1
   | false=>
    obtain⟨j1,j2⟩:=bw H
    clear bb
    generalize op Lk=OL at hP
    generalize hps:r.ps=ps at hP hp j2
    cases hP with
    | zero=>cases hp
    | one b1 l1 s1 w1=>rw[List.mem_singleton.1 hp];have:=j2 _ rfl;omega
    | two b1 l1 s1 b2 l2 s2 w1 w2=>
     rcases List.mem_cons.1 hp with e|e
     .rw[e];omega
     .rw[List.mem_singleton.1 e];omega
  have b8:∀{KA KW KC:List ByteArray} {DA DW DC:List Int} {az b3 b0:List E2} {ac aa ad:List Int} {kx:ByteArray} (cc:CH) (ps:List Nd) (X':List Int) (i j:Nat),
   u.ks=KA++(kx::KW++KC)->u.kd=DA++(DW++DC)->KA.length=DA.length->DW.length=KW.length+1->Fo (Sub r.a.V c h) KA DA (some kx) az ac->Fo (Sub r.a.V c h) KC DC hi b0 ad->Pts r.a.V c h ps kx (nxt KC hi) b3 aa->
   (∀p∈ps,c<=p.ks.length)->(∀y∈ac++(aa++ad),Ah.stv r.a.A y=1)->i=KA.length->j=KA.length+KW.length+1->cc.tk=r.c.tk->cc.lv=r.c.lv->cc.gn=ch.gn++(x::X').filter a.F/\(∀y∈x::X',y∈x::(Y++((Q::a4)++BC)))->
   az++(b3++b0)=op (LA++(Lk++LC))->(∀y,ac.count y+aa.count y+ad.count y+(x::X').count y=(x::(Y++((Q::a4)++BC))).count y+T.count y)->(d.jn=false->KW.length+1<=ps.length/\(ps.length=2->9*h<=aa.length))->(d.jn=true->ps.length<=1/\T.length+1<=X'.length)->
   BelOk d op c (h+1) a ch n lv a5 hi (LA++(Lk++LC)) (x::(Y++((Q::a4)++BC)))
   (if (replaceF r.a cc u i j ps).e≠0 then⟨(replaceF r.a cc u i j ps).e,[],(replaceF r.a cc u i j ps).a,(replaceF r.a cc u i j ps).c⟩else⟨0,piecesF (replaceF r.a cc u i j ps).n,(replaceF r.a cc u i j ps).a,(replaceF r.a cc u i j ps).c⟩):=by
   intro KA KW KC DA DW DC az b3 b0 ac aa ad kx cc ps X' i j h1 h2 h3 h4 h5 h6 h7 h8 h9 cr cs bo ct cu cv cw bp bq
   obtain⟨T2,w1,w2,w3,w4⟩:=window cc ab ax h1 h2 h3 h4 h5 h6 h7 h8 d7 cl h9 cr cs
   have dk:=h7.ks.1
   rcases w4 with⟨e1,e2,e3⟩|⟨e1,wb,ws,da,wl,wt,B',br,wN⟩
   .rw[if_pos (by rw[e1];decide)]
    exact⟨T++T2,[],ev.trans w1,by show(replaceF r.a cc u i j ps).c.tk=_;rw[w2];show cc.tk++T2=_;rw[bo,b6,g2,zv0],by rw[zf0];omega,.inl ⟨e1,e2⟩⟩
   .rw[if_neg (by rw[e1];decide)]
    refine up_fin (X:=x::X') (B':=B') ev w1 (by rw[w2];show cc.tk++T2=_;rw[bo,b6,g2,zv0]) co (by omega) (by rw[w2];exact cu) (by rw[w2];show cc.lv=_;rw[ct,cn];omega) wb (by have:I.size<=24:=cf;omega) (λ y=>?_) (by rw[<-cv];exact wN) (λ H=>?_) (λ H=>?_) (λ H=>?_) (λ H=>?_)
    .have q1:=br y
     have q2:=cw y
     rw[List.count_append]
     omega
    .have:=(bp H).1
     omega
    .have:=(bq H).1
     omega
    .obtain⟨q1,q2⟩:=bp H
     by_cases q3:KW.length=0/\ps.length=2
     .right
      have q4:=q2 q3.2
      have q5:=h5.blkl (Sub.blkl ae (fun{n lo hi L B} q=>Nod.blkl ae q))
      have q6:=h6.blkl (Sub.blkl ae (fun{n lo hi L B} q=>Nod.blkl ae q))
      have q7:(ac++(aa++(ad++T2))).Perm B':=List.perm_iff_count.2 (λ y=>by have:=br y;simp only[List.count_append];omega)
      have q8:=q7.length_eq
      simp only[zf0]at q8
      have q9:n.ks.length-1=KA.length+KC.length:=by
       rw[<-cg,h1];simp only[zf0,zk0];omega
      rw[q9,Nat.add_mul,Nat.mul_comm KA.length,Nat.mul_comm KC.length]
      omega
     .left;omega
    .obtain⟨q1,q2⟩:=bq H
     have h3:=d2 H
     rw[h3]at d8
     have:=da q1
     refine⟨by omega,?_⟩
     rw[zk0]
     omega
  have bm:∀y∈x::X,y∈x::(Y++((Q::a4)++BC)):=λ y E=>by
   rcases List.mem_cons.1 E with e|e
   .simp[e]
   .have:=cq y e
    simp only[List.mem_cons,zi0]at this |-
    exact .inr (.inr (.inl this))
  have b9:r.c.gn=ch.gn++(x::X).filter a.F:=by
   rw[cm,g1,zv0]
   congr 1
   simp only[List.filter_cons,List.filter_nil]
   split<;>simp
  have b5:∀y,Y.count y+an.count y+BC.count y+(x::X).count y=(x::(Y++((Q::a4)++BC))).count y+T.count y:=λ y=>by
   have h2:=bb y
   rw[b4,show x::X=[x]++X from rfl,List.count_append]
   omega
  have am:=b8 (KA:=K1) (KW:=[]) (KC:=K2) (DA:=D1) (DW:=[Q]) (DC:=D2) r.c r.ps X at_ (at_+1) (by rw[a7];rfl) (by rw[a8];rfl) (by omega) rfl b7 ap hP d0 bj (by omega) (by simp;omega) rfl rfl ⟨b9,bm⟩ bi.symm b5
   (λ H=>⟨by
    cases hp:r.ps with
    | nil=>exact absurd hp (bw H).1
    | cons=>simp,λ h2=>by
    rcases cz with e3|e3
    .omega
    .have h4:=(e3.2 H).1 h2
     have h5:=hP.blkl ae
     have:h*9<=h*kts r.ps:=Nat.mul_le_mul_left _ h4
     omega⟩) bx
  unfold upF
  rw[if_neg (by rw[e];decide)]
  simp only[bd,ak]
  by_cases bf:d.jn=true/\r.ps.length=1/\W (szN (r.ps.getD 0 noneN) (r.ps.getD 0 noneN).ks.length)<120
  .rw[if_pos bf]
   obtain⟨H,ar,dj⟩:=bf
   obtain⟨p,au⟩:∃p,r.ps=[p]:=by
    cases O:r.ps with
    | nil=>rw[O]at ar;simp at ar
    | cons p l=>
     cases l with
     | nil=>exact⟨p,rfl⟩
     | cons=>rw[O]at ar;simp at ar
   have d4:r.ps.getD 0 noneN=p:=by rw[au];rfl
   simp only[d4]
   have dg:=bs H
   have cy:Bm p/\1<=p.ks.length/\sz p<=240/\Nod r.a.V c h p I (nxt K2 hi) (op Lk) an:=by
    rw[au]at hP
    generalize op Lk=OL at hP
    cases hP with
    | one b1 l1 s1 w1=>exact⟨b1,l1,s1,w1⟩
   obtain⟨pb,pl,dm,pn⟩:=cy
   have di:=bx H
   have aw:∀{y:Int} {o:Nd},r.a.V y=(0,o)->look r.a y (lv+1)=(0,o):=λ hv=>by unfold look;rw[if_neg (by omega)];exact hv
   have Fr:∀y∈x::(Y++((Q::a4)++BC)),r.a.F y=a.F y:=λ y E=>ev.f y (dT y E)
   have right:BelOk d op c (h+1) a ch n lv a5 hi (LA++(Lk++LC)) (x::(Y++((Q::a4)++BC)))
    (let J:=(match besF r.a r.c u at_ lv p ((at_:Int)+1)with|some q=>q|none=>⟨0,p,at_,at_+1,r.c⟩:JR)
    if J.e≠0 then⟨J.e,[],r.a,J.c⟩else if (replaceF r.a J.c u J.i J.j [J.n]).e≠0 then⟨(replaceF r.a J.c u J.i J.j [J.n]).e,[],(replaceF r.a J.c u J.i J.j [J.n]).a,(replaceF r.a J.c u J.i J.j [J.n]).c⟩else⟨0,piecesF (replaceF r.a J.c u J.i J.j [J.n]).n,(replaceF r.a J.c u J.i J.j [J.n]).a,(replaceF r.a J.c u J.i J.j [J.n]).c⟩):=by
    cases K2 with
    | nil=>
     have a6:besF r.a r.c u at_ lv p ((at_:Int)+1)=none:=by
      unfold besF
      rw[if_pos (.inr (by have:=(ax.inn ab).1;rw[a7]at this;simp at this;omega))]
     rw[a6]
     rw[au]at am
     simpa using am
    | cons kc K3=>
     cases D2 with
     | nil=>exact ap.elim
     | cons xc D3=>
     obtain⟨Lc,LD,Bc,BD,sC,fD,rfl,rfl⟩:=ap
     obtain⟨o,Bo,o1,o2,o3,o4,o5,rfl⟩:=sC
     have af:dA u ((at_:Int)+1).toNat=xc:=by
      unfold dA
      rw[a8,show((at_:Int)+1).toNat=D1.length+1 by omega,zn3,zn0 (by omega)]
      simp
     have ai:¬(((at_:Int)+1)<0\/(u.kd.length:Int)<=(at_:Int)+1):=by rw[a8];simp;omega
     have bg:Ke I kc:=(c3 kc (by simp)).le
     obtain⟨j1,j2,j3⟩:=Nod.join (k:=kc) pn o5 pb o2 (by omega) bg
     by_cases hm:mayN (joinN p o)=true
     .have a6:besF r.a r.c u at_ lv p ((at_:Int)+1)=some ⟨0,joinN p o,at_,at_+2,leaveF r.a r.c xc⟩:=by
       unfold besF
       rw[if_neg ai,af,aw o1]
       simp only[ne_eq,not_true_eq_false,if_false]
       rw[if_neg (by omega),if_pos hm]
      rw[a6]
      simp only[ne_eq,not_true_eq_false,if_false]
      obtain⟨y1,y2⟩:=may_sz j2 (by have:=pb.many (by omega);have:=o2.many (by omega);simp only[joinN,zf0];omega) hm
      obtain⟨z1,z2,z3⟩:=zfk9 r.a r.c xc
      refine b8 (KA:=K1) (KW:=[kc]) (KC:=K3) (DA:=D1) (DW:=[Q,xc]) (DC:=D3) (leaveF r.a r.c xc) [joinN p o] (X++[xc]) at_ (at_+2) (by rw[a7];rfl) (by rw[a8];rfl) (by omega) rfl b7 fD (Pts.one j2 y1 y2 j1) (λ q O=>by rw[List.mem_singleton.1 O];omega) ?_ (by omega) (by simp;omega) z2 z3 ?_ (by rw[bi];simp[zv0]) (λ y=>?_) (λ ag=>by rw[H]at ag;cases ag) (λ _=>⟨by simp,by simp;omega⟩)
      .intro y E
       refine bj y ?_
       simp only[zi0,List.mem_cons]at E |-
       rcases E with e|(e|e)|e
       .exact .inl e
       .exact .inr (.inl e)
       .exact .inr (.inr (.inl (.inr e)))
       .exact .inr (.inr (.inr e))
      .refine⟨?_,λ y E=>(zi0.1 (show y∈(x::X)++[xc]from E)).elim (bm y) (λ e=>by rw[List.mem_singleton.1 e];simp)⟩
       rw[z1,b9,zv0]
       congr 1
       rw[show x::(X++[xc])=(x::X)++[xc]from rfl,List.filter_append]
       congr 1
       exact List.filter_congr (λ y E=>by rw[List.mem_singleton.1 E];exact Fr xc (by simp))
      .have h1:=b5 y
       rw[show x::(X++[xc])=(x::X)++[xc]from rfl]
       simp only[List.count_append,List.count_cons,List.count_nil]at h1 |-
       omega
     .have a6:besF r.a r.c u at_ lv p ((at_:Int)+1)=none:=by
       unfold besF
       rw[if_neg ai,af,aw o1]
       simp only[ne_eq,not_true_eq_false,if_false]
       rw[if_neg (by omega),if_neg hm]
      rw[a6]
      rw[au]at am
      simpa using am
   rcases List.eq_nil_or_concat K1 with hK|⟨K0,ka,hK⟩
   .have a6:besF r.a r.c u at_ lv p ((at_:Int)-1)=none:=by
     unfold besF
     rw[if_pos (.inl (by rw[hK]at al;simp at al;omega))]
    unfold joinedF
    rw[a6]
    exact right
   .have hD:∃D0 xa,D1=D0++[xa]:=by
     rcases List.eq_nil_or_concat D1 with hD|⟨D0,xa,hD⟩
     .rw[hK]at al;rw[hD]at bk;simp at al bk;omega
     .exact⟨D0,xa,by rw[hD];simp⟩
    obtain⟨D0,xa,hD⟩:=hD
    have hK:K1=K0++[ka]:=by rw[hK];simp
    have l0:K0.length+1=at_:=by rw[<-al,hK];simp
    have dl:D0.length+1=at_:=by rw[<-bk,hD];simp
    have bn:=b7
    rw[hK,hD]at bn
    obtain⟨L0,La,B0,Ba,f0,fa,eL,eB⟩:=(Fo.app (by omega)).1 bn
    have f0:Fo (Sub r.a.V c h) K0 D0 (some ka) L0 B0:=f0
    obtain⟨ck,de,db,dc,sa,⟨rfl,rfl⟩,rfl,rfl⟩:=fa
    obtain⟨o,Bo,o1,o2,o3,o4,o5,rfl⟩:=sa
    have o5:Nod r.a.V c h o ka (some I) ck Bo:=o5
    rw[List.append_nil]at eL eB
    have af:dA u ((at_:Int)-1).toNat=xa:=by
     unfold dA
     rw[a8,hD,show((at_:Int)-1).toNat=D0.length by omega,zv0]
     exact zma9 _ _ _ _
    have ai:¬(((at_:Int)-1)<0\/(u.kd.length:Int)<=(at_:Int)-1):=by rw[a8];simp;omega
    have bg:Ke ka I:=by
     have:=ax.up
     rw[a7]at this
     exact((List.pairwise_append.1 this).2.2 ka (by rw[hK];simp) I (by simp)).le
    obtain⟨j1,j2,j3⟩:=Nod.join (k:=I) o5 pn o2 pb pl bg
    by_cases hm:mayN (joinN o p)=true
    .have a6:besF r.a r.c u at_ lv p ((at_:Int)-1)=some ⟨0,joinN o p,at_-1,at_-1+2,leaveF r.a r.c xa⟩:=by
      unfold besF
      rw[if_neg ai,af,aw o1]
      simp only[ne_eq,not_true_eq_false,if_false]
      rw[if_pos (by omega),if_pos hm,show((at_:Int)-1).toNat=at_-1 by omega]
     unfold joinedF
     rw[a6]
     simp only[ne_eq,not_true_eq_false,if_false]
     obtain⟨y1,y2⟩:=may_sz j2 (by have:=pb.many (by omega);have:=o2.many (by omega);simp only[joinN,zf0];omega) hm
     obtain⟨z1,z2,z3⟩:=zfk9 r.a r.c xa
     refine b8 (KA:=K0) (KW:=[I]) (KC:=K2) (DA:=D0) (DW:=[xa,Q]) (DC:=D2) (leaveF r.a r.c xa) [joinN o p] (X++[xa]) (at_-1) (at_-1+2) (by rw[a7,hK];simp) (by rw[a8,hD];simp) (by omega) rfl f0 ap (Pts.one j2 y1 y2 j1) (λ q O=>by rw[List.mem_singleton.1 O];omega) ?_ (by omega) (by simp;omega) z2 z3 ?_ (by rw[bi,eL];simp[zv0]) (λ y=>?_) (λ ag=>by rw[H]at ag;cases ag) (λ _=>⟨by simp,by simp;omega⟩)
     .intro y E
      refine bj y ?_
      rw[eB]
      simp only[zi0,List.mem_cons]at E |-
      rcases E with e|(e|e)|e
      .exact .inl (.inl e)
      .exact .inl (.inr (.inr e))
      .exact .inr (.inl e)
      .exact .inr (.inr e)
     .refine⟨?_,λ y E=>(zi0.1 (show y∈(x::X)++[xa]from E)).elim (bm y) (λ e=>by rw[List.mem_singleton.1 e,eB];simp)⟩
      rw[z1,b9,zv0]
      congr 1
      rw[show x::(X++[xa])=(x::X)++[xa]from rfl,List.filter_append]
      congr 1
      exact List.filter_congr (λ y E=>by rw[List.mem_singleton.1 E];exact Fr xa (by rw[eB];simp))
     .have h1:=b5 y
      rw[show x::(X++[xa])=(x::X)++[xa]from rfl]
      rw[eB]at h1 |-
      simp only[List.count_append,List.count_cons,List.count_nil]at h1 |-
      omega
    .have a6:besF r.a r.c u at_ lv p ((at_:Int)-1)=none:=by
      unfold besF
      rw[if_neg ai,af,aw o1]
      simp only[ne_eq,not_true_eq_false,if_false]
      rw[if_pos (by omega),if_neg hm]
     unfold joinedF
     rw[a6]
     exact right
  .rw[if_neg bf]
   rw[if_neg (by simp)]
   exact am
end
def Tr(V:Int->Int×Nd)(c:Nat):Nat->Int->List E2->List Int->Prop
 | 0,x,L,B=>x=0/\L=[]/\B=[]
 | h+1,x,L,B=>h<=15/\x≠0/\∃n B1,V x=(0,n)/\Bm n/\1<=n.ks.length/\sz n<=240/\Nod V c h n eS none L B1/\B=x::B1
def Tr.congr{V V':Int->Int×Nd}{c u:Nat}{x:Int}{L:List E2}{B:List Int}(h:Tr V c u x L B)(e:∀y∈B,V' y=V y):Tr V' c u x L B:=by
 cases u with
 | zero=>exact h
 | succ k=>
  obtain⟨E,H,n,A,I,K,O,Q,T,rfl⟩:=h
  exact⟨E,H,n,A,by rw[e x zo0];exact I,K,O,Q,T.congr (λ y Y=>e y (zp0 _ Y)),rfl⟩
def Tr.up{V:Int->Int×Nd}{c u:Nat}{x:Int}{L:List E2}{B:List Int}(h:Tr V c u x L B):Up L:=by
 cases u with
 | zero=>rw[h.2.1];exact List.Pairwise.nil
 | succ k=>
  obtain⟨I,K,n,H,O,A,Q,T,E,rfl⟩:=h
  exact(E.facts A).2
def gos_V:∀(l:List Int)(a:AS)(y:Int),(a.gos l).V y=(if y∈l then a.Q y else a.V y)/\(a.gos l).Q=a.Q
 | [],a,y=>by simp[zgh9]
 | x::l,a,y=>by
  rw[zhg9]
  obtain⟨A,E⟩:=gos_V l (a.go x) y
  refine⟨?_,E⟩
  rw[A]
  by_cases e:y∈l
  .simp[e,AS.go]
  .by_cases u:y=x
   .subst u;simp[e,AS.go,updI]
   .simp[e,u,AS.go,updI]
section
variable {d:CD} {op:List E2->List E2} {c:Nat}
def zuc9:Bm leaf0:=⟨λ k u=>(by cases u),List.Pairwise.nil,λ _ k u=>(by cases u),λ _=>⟨rfl,rfl,λ v hv=>(by cases hv)⟩,λ e=>(by cases e)⟩
def zyk9:Bm top0:=⟨λ k u=>by rw[List.mem_singleton.1 u];decide,by simp[top0],λ e=>(by cases e),λ e=>(by cases e),λ _=>⟨rfl,rfl,λ x A=>by rw[List.mem_singleton.1 A];decide⟩⟩
def Wr(j:Bool)(V:Int->Int×Nd)(x:Int)(lev lev':Nat)(n':Nd)(B':List Int):Prop:=
 lev'=16->n'.ks.length<=2\/lev=16/\∀n,V x=(0,n)->n'.ks.length<=n.ks.length\/j=false/\n'.ks.length=n.ks.length+1/\128+(n.ks.length-1)*15<=B'.length
def MadeOk(d:CD)(op:List E2->List E2)(c lev:Nat)(a:AS)(x:Int)(L:List E2)(B:List Int)(r:WR):Prop:=
 ∃T X:List Int,Ev a r.a T/\r.c.tk=T/\
  (r.e=10/\r.a.A.L.count 0=0/\T.length<=2*lev\/
   r.e=7/\d.jn=false/\lev=16/\(∃(B':List Int)(p q:Nd),(∀y,B'.count y+X.count y=B.count y+T.count y)/\Pts r.a.V c 15 [p,q] eS none (op L) B'/\∀n,a.V x=(0,n)->Wd false 15 n.ks.length [p,q] B')\/
   r.e=0/\(r.c.gn=X.filter a.F/\∀y∈X,y∈B)/\T.length<=2*lev+1/\(∃(B':List Int)(lev':Nat),(∀y,B'.count y+X.count y=B.count y+T.count y)/\Tr r.a.V c lev' r.x (op L) B'/\Wr d.jn a.V x lev lev' (r.a.V r.x).2 B')/\(d.jn=true->T.length<=X.length))
def zqi9(hd:LfOk d op)(aw:1<=c)(ax:c<=2)(ay:d.jn=true->c=1){K:Nat}{a:AS}{x:Int}{L:List E2}{B:List Int}(hT:Tr a.V c K x L B)
 (b0:∀y,B.count y<=1) (am:∀y∈B,Ah.stv a.A y=1) (ah:Ao a) (b9:1<=a.A.lo) (ai:d.jn=true->∃e∈L,e.1=d.key):
 MadeOk d op c K a x L B (rootedF d a ch0 x):=by
 obtain⟨r,hr⟩:=exN (partsF d a ch0 x)
 have hP:∃(h:Nat)(T X:List Int),Ev a r.a T/\r.c.tk=T/\T.length<=2*h/\(K=h+1\/K=0/\h=0)/\h<=15/\
  (r.e=10/\r.a.A.L.count 0=0\/r.e=0/\(r.c.gn=X.filter a.F/\∀y∈X,y∈B)/\(K=h+1/\r.c.lv=h+1\/K=0/\r.c.lv=0)/\(∃O:List Int,(∀y,O.count y+X.count y=B.count y+T.count y)/\Pts r.a.V c h r.ps eS none (op L) O/\∀n,a.V x=(0,n)->K=h+1->Wd d.jn h n.ks.length r.ps O)/\
   (K=0->r.ps.length<=1/\d.jn=false)/\(d.jn=true->r.ps.length<=1/\T.length+1<=X.length)):=by
  cases K with
  | zero=>
   obtain⟨rfl,rfl,rfl⟩:=hT
   have I:d.jn=false:=by
    cases e:d.jn with
    | false=>rfl
    | true=>obtain⟨_,q,_⟩:=ai e;cases q
   have e0:partsF d a ch0 0=⟨0,piecesF (d.lf leaf0),a,ch0⟩:=by unfold partsF;rw[if_pos rfl]
   rw[e0]at hr
   subst hr
   have s0:sz leaf0=1:=rfl
   obtain⟨m1,m2,m3,m4,m5,m6,m7⟩:=hd.lf leaf0 eS none rfl zuc9 (by rw[s0];decide) (λ k hk=>by cases hk) (Ke.none _) (λ b hb=>by cases hb)
   have hN:Nod a.V c 0 (d.lf leaf0) eS none (op []) []:=⟨m1,m4,m5.symm,rfl⟩
   obtain⟨p1,p2⟩:=zdm9 hN m2 (by omega)
   refine⟨0,[],[],Ev.refl a,rfl,by simp,.inr ⟨rfl,rfl⟩,by omega,.inr ⟨rfl,⟨rfl,λ y E=>(by cases E)⟩,.inr ⟨rfl,rfl⟩,⟨[],by simp,p1,λ _ _ q=>by cases q⟩,λ _=>⟨?_,I⟩,λ e=>by rw[I]at e;cases e⟩⟩
   rcases p2 with⟨_,e⟩|⟨e,_⟩|⟨_,e⟩
   .show(piecesF (d.lf leaf0)).length<=1;rw[e];simp
   .show(piecesF (d.lf leaf0)).length<=1;rw[e];simp
   .omega
  | succ h=>
   obtain⟨a0,ap,n,B1,a1,a2,a3,a4,a5,rfl⟩:=hT
   have e0:partsF d a ch0 x=belowF d 16 a ch0 x 1:=by unfold partsF;rw[if_neg ap]
   rw[e0]at hr
   have:=zsv9 hd aw ax ay h 16 a ch0 x 1 n eS eS none L B1 a1 a2 a3 a4 a5 (by omega) (by omega) (Ke.refl _) (Ke.none _) (λ b hb=>by cases hb) b0 am ah ai
   rw[hr]at this
   obtain⟨T,X,t1,t2,t3,t4⟩:=this
   refine⟨h,T,X,t1,by rw[t2];rfl,t3,.inl rfl,a0,?_⟩
   rcases t4 with t4|⟨t5,t6,t7,t8,t9,b5⟩
   .exact .inl t4
   .obtain⟨O,u1,u2,u3⟩:=t8
    exact .inr ⟨t5,⟨by rw[t6.1];rfl,t6.2⟩,.inl ⟨rfl,by rw[t7];omega⟩,⟨O,u1,u2,λ m hm _=>by rw[a1]at hm;cases hm;exact u3⟩,λ e=>(by cases e),b5⟩
 obtain⟨h,T,X,H,a6,b6,al,av,hR⟩:=hP
 have aq:=H.ao ah
 rcases hR with⟨e,c0⟩|⟨e,⟨a8,a9⟩,au,⟨O,hB,hP,ab⟩,hz,a7⟩
 .have e1:rootedF d a ch0 x=⟨0,r.e,r.a,r.c⟩:=by unfold rootedF;simp only[hr];rw[if_pos (by rw[e];decide)]
  rw[e1]
  refine⟨T,[],H,a6,.inl ⟨e,c0,?_⟩⟩
  rcases al with q|⟨q,q2⟩<;>omega
 have aa:∀y∈O,Ah.stv r.a.A y=1:=λ y E=>by
  by_cases ht:y∈T
  .exact H.tk y ht
  .rw[H.st y ht]
   refine am y ?_
   have h1:0<O.count y:=List.count_pos_iff.2 E
   have h2:T.count y=0:=List.count_eq_zero.2 ht
   have h3:=hB y
   exact List.count_pos_iff.1 (by omega)
 have ad:∀{b:AS} {y:Int},b.A.lo=a.A.lo->Ah.stv b.A y=1->y≠0:=λ hl hs e=>by
  have:=zbn9 (s:=_) (by rw[hs];decide)
  omega
 have e2:rootedF d a ch0 x=(if r.ps.length=0 then⟨0,0,r.a,r.c⟩else
  if r.ps.length=1 then(if (r.ps.getD 0 noneN).kd.length=1 then⟨dA (r.ps.getD 0 noneN) 0,0,r.a,r.c⟩else writeF r.a r.c (r.ps.getD 0 noneN))else raiseF r.a r.c r.ps):=by
  unfold rootedF;simp only[hr];rw[if_neg (by rw[e];decide)]
 rw[e2]
 have b8:2*h<=2*K/\(K=0->h=0):=by rcases al with q|⟨q,q2⟩<;>constructor<;>omega
 have b7:=hP
 generalize hps:r.ps=ps at hP hz a7 ab
 generalize hOL:op L=OL at hP
 cases hP with
 | zero=>
  rw[if_pos (by rfl)]
  refine⟨T,X,H,a6,.inr (.inr ⟨rfl,⟨a8,a9⟩,by omega,⟨[],0,hB,⟨rfl,hOL,rfl⟩,λ e=>by cases e⟩,λ I=>by have:=(a7 I).2;omega⟩)⟩
 | one b1 l1 s1 n1=>
  rename_i p
  rw[if_neg (by simp),if_pos (by rfl)]
  show MadeOk d op c K a x L B (if p.kd.length=1 then _ else writeF r.a r.c p)
  by_cases hk:p.kd.length=1
  .rw[if_pos hk]
   cases h with
   | zero=>rw[(b1.lf n1.1).2.1]at hk;simp at hk
   | succ h=>
    obtain⟨w1,w2,w3⟩:=n1
    have ak:=(b1.inn w1).1
    obtain⟨k,az⟩:∃k,p.ks=[k]:=by
     cases u:p.ks with
     | nil=>rw[u]at l1;simp at l1
     | cons k l=>cases l with
      | nil=>exact⟨k,rfl⟩
      | cons=>rw[u]at ak;simp at ak;omega
    obtain⟨y,aj⟩:∃y,p.kd=[y]:=by
     cases u:p.kd with
     | nil=>rw[u]at hk;simp at hk
     | cons k l=>cases l with
      | nil=>exact⟨k,rfl⟩
      | cons=>rw[u]at hk;simp at hk
    rw[az,aj]at w3
    obtain⟨L1,L2,B1,B2,⟨m,B3,v1,v2,v3,v4,v5,rfl⟩,⟨rfl,rfl⟩,rfl,rfl⟩:=w3
    have E:dA p 0=y:=by unfold dA;rw[aj];rfl
    show MadeOk d op c K a x L B ⟨dA p 0,0,r.a,r.c⟩
    rw[E]
    refine⟨T,X,H,a6,.inr (.inr ⟨rfl,⟨a8,a9⟩,by show T.length<=_;omega,⟨_,h+1,hB,⟨by omega,?_,m,B3,v1,v2,by omega,v4,?_,by simp⟩,λ e=>by omega⟩,λ I=>by have:=(a7 I).2;omega⟩)⟩
    .exact ad (b:=r.a) H.lo (aa y (by simp))
    .rw[hOL,List.append_nil]
     exact v5.mono (Ke.none _) (Hle.none _)
  .rw[if_neg hk]
   rcases zec9 r.a r.c (b1.may l1 s1)with⟨u,c0,ea,ec⟩|⟨u,Y,ec,ex⟩
   .exact⟨T,[],by rw[ea];exact H,by rw[ec];exact a6,.inl ⟨u,by rw[ea];exact c0,by omega⟩⟩
   .generalize hw:writeF r.a r.c p=w at *
    have ae:∀y∈O,y∉[w.x]:=λ y E e=>by have:=Y.fr y e;have:=aa y E;omega
    refine⟨T++[w.x],X,H.trans Y,by rw[ec];show r.c.tk++_=_;rw[a6],.inr (.inr ⟨u,⟨by rw[ec];exact a8,a9⟩,by simp;omega,⟨w.x::O,h+1,λ y=>?_,⟨av,?_,p,O,ex,b1,l1,s1,?_,rfl⟩,λ e=>.inr ⟨by omega,λ n hn=>?_⟩⟩,λ I=>by have:=(a7 I).2;simp;omega⟩)⟩
    .have:=hB y
     simp only[List.count_append,List.count_cons,List.count_nil]at this |-
     omega
    .exact ad (b:=w.a) (Y.lo.trans H.lo) (Y.tk w.x (by simp))
    .rw[hOL]
     exact n1.congr (λ y E=>Y.v y (ae y E))
    .rw[ex]
     have ar:h=15:=by omega
     have an:=ab n hn (by omega)
     rw[ar]at an
     rcases an with q|⟨q1,q2⟩
     .omega
     .have ek:kts [p]=p.ks.length:=by simp[kts]
      rw[ek]at q1 q2
      cases I:d.jn with
      | true=>exact .inl (q1 I)
      | false=>
       rcases(q2 I).2 with q|⟨q,q3⟩
       .exact .inl q
       .exact .inr ⟨rfl,q,by rw[zk0];omega⟩
 | two b1 l1 s1 b2 l2 s2 n1 n2=>
  rename_i p q L1 L2 B1 B2
  rw[if_neg (by simp),if_neg (by simp)]
  have ac:d.jn=false:=by
   cases u:d.jn with
   | false=>rfl
   | true=>have:=(a7 u).1;simp at this
  have ba:K=h+1/\r.c.lv=h+1:=by
   rcases au with q|⟨q,_⟩
   .exact q
   .have:=(hz q).1;simp at this
  unfold raiseF
  by_cases af:r.c.lv=16
  .rw[if_pos af]
   have:h=15:=by omega
   subst this
   refine⟨T,X,H,a6,.inr (.inl ⟨rfl,ac,by omega,B1++B2,p,q,hB,?_,λ n hn=>?_⟩)⟩
   .rw[hOL]
    exact .two b1 l1 s1 b2 l2 s2 n1 n2
   .have:=ab n hn (by omega)
    rw[ac]at this;exact this
  .rw[if_neg af]
   have b3:Pts r.a.V c h [p,q] eS (nxt [] none) (L1++L2) (B1++B2):=.two b1 l1 s1 b2 l2 s2 n1 n2
   obtain⟨T2,w1,w2,w3,w4⟩:=window (a:=r.a) (n1:=top0) (ps:=[p,q]) (kx:=eS) (KA:=[]) (KW:=[]) (KC:=[]) (DA:=[]) (DW:=[0]) (DC:=[]) (LA:=[]) (LC:=[]) (BA:=[]) (BC:=[]) (lo:=eS) (hi:=none) r.c rfl zyk9 rfl rfl rfl rfl ⟨rfl,rfl⟩ ⟨rfl,rfl⟩ b3
    (λ m hm=>by
     rcases List.mem_cons.1 hm with e|e
     .rw[e];omega
     .rw[List.mem_singleton.1 e];omega) (λ k hk=>⟨Ke.none _,λ b hb=>by cases hb⟩) aq (λ y E=>aa y (by simpa using E)) (i:=0) (j:=1) rfl rfl
   rcases w4 with⟨e1,e2,u⟩|⟨e1,wb,ws,bc,wl,wt,B4,ag,wN⟩
   .rw[if_pos (by rw[e1];decide)]
    refine⟨T++T2,[],H.trans w1,by show(replaceF r.a r.c top0 0 1 [p,q]).c.tk=_;rw[w2];show r.c.tk++T2=_;rw[a6],.inl ⟨e1,e2,?_⟩⟩
    simp at u;rw[zf0];omega
   .rw[if_neg (by rw[e1];decide)]
    have st:sz top0=4:=rfl
    generalize hq:replaceF r.a r.c top0 0 1 [p,q]=Q at *
    have b4:∀y∈B4,Ah.stv Q.a.A y=1:=λ y E=>by
     by_cases ht:y∈T2
     .exact w1.tk y ht
     .rw[w1.st y ht]
      refine aa y ?_
      have h1:0<B4.count y:=List.count_pos_iff.2 E
      have h2:T2.count y=0:=List.count_eq_zero.2 ht
      have h3:=ag y
      simp only[List.count_nil]at h3
      exact List.count_pos_iff.1 (by omega)
    have bb:Q.n.ks.length=2:=by
     have:top0.ks.length=1:=rfl
     simp at wl;omega
    rcases zec9 Q.a Q.c (wb.may (by omega) (by omega))with⟨u,c0,ea,ec⟩|⟨u,Y,ec,ex⟩
    .refine⟨T++T2,[],by rw[ea];exact H.trans w1,by rw[ec,w2];show r.c.tk++T2=_;rw[a6],.inl ⟨u,by rw[ea];exact c0,?_⟩⟩
     simp at w3;rw[zf0];omega
    .generalize hw:writeF Q.a Q.c Q.n=w at *
     have ae:∀y∈B4,y∉[w.x]:=λ y E e=>by have:=Y.fr y e;have:=b4 y E;omega
     refine⟨(T++T2)++[w.x],X,(H.trans w1).trans Y,by rw[ec,w2];show(r.c.tk++T2)++_=_;rw[a6],.inr (.inr ⟨u,⟨by rw[ec,w2];exact a8,a9⟩,?_,⟨w.x::B4,h+2,λ y=>?_,⟨by omega,?_,Q.n,B4,ex,wb,by omega,by omega,?_,rfl⟩,λ _=>.inl (by rw[ex];show Q.n.ks.length<=2;omega)⟩,λ I=>by rw[ac]at I;cases I⟩)⟩
     .simp at w3;simp;omega
     .have:=hB y
      have:=ag y
      simp only[List.count_append,List.count_cons,List.count_nil]at *
      omega
     .exact ad (b:=w.a) (Y.lo.trans (w1.lo.trans H.lo)) (Y.tk w.x (by simp))
     .rw[hOL]
      have:=wN.congr (V':=w.a.V) (λ y E=>Y.v y (ae y E))
      simpa using this
end
def insE(key val:ByteArray)(L:List E2):List E2:=L.filter (λ e=>lts e.1 key)++(key,val)::L.filter (λ e=>lts key e.1)
def delE(key:ByteArray)(L:List E2):List E2:=L.filter (λ e=>!eqs e.1 key)
def zdb9{p:E2->Bool}{L:List E2}(h:∀e∈L,p e=true):L.filter p=L:=List.filter_eq_self.2 h
def zay9{p:E2->Bool}{L:List E2}(h:∀e∈L,p e=false):L.filter p=[]:=List.filter_eq_nil_iff.2 (λ e u=>by rw[h e u];decide)
def eqs_ne{a b:ByteArray}(h:a≠b):eqs a b=false:=by
 cases e:eqs a b with
 | false=>rfl
 | true=>exact absurd (eqsP.1 e) h
def Kl.ne{a b:ByteArray}(h:Kl a b):a≠b:=λ e=>by rw[e]at h;exact h.irr
def zdf9{key:ByteArray}(val:ByteArray){u L A:List E2}(H:∀e∈u,Kl e.1 key)(I:∀e∈A,Kl key e.1):insE key val (u++(L++A))=u++(insE key val L++A):=by
 unfold insE
 rw[List.filter_append,List.filter_append,List.filter_append,List.filter_append,zdb9 (L:=u) H,zay9 (L:=A) (λ e E=>(I e E).le),zay9 (L:=u) (λ e E=>(H e E).le),zdb9 (L:=A) I]
 simp
def zhc9{key:ByteArray}{u L A:List E2}(H:∀e∈u,Kl e.1 key)(I:∀e∈A,Kl key e.1):delE key (u++(L++A))=u++(delE key L++A):=by
 unfold delE
 rw[List.filter_append,List.filter_append,zdb9 (L:=u) (λ e E=>by rw[eqs_ne (H e E).ne];rfl),zdb9 (L:=A) (λ e E=>by rw[eqs_ne (I e E).ne.symm];rfl)]
theorem zmi9(key val:ByteArray):insE key val []=[(key,val)]:=rfl
def zmj9(key val v:ByteArray):insE key val [(key,v)]=[(key,val)]:=by
 unfold insE
 rw[zay9 (p:=λ e=>lts e.1 key) (L:=[(key,v)]) (λ e u=>by rw[List.mem_singleton.1 u];exact Ke.refl _),zay9 (L:=[(key,v)]) (λ e u=>by rw[List.mem_singleton.1 u];exact Ke.refl _)]
 rfl
theorem ztc9(key:ByteArray):delE key []=[]:=rfl
def ztd9(key v:ByteArray):delE key [(key,v)]=[]:=zay9 (λ e u=>by rw[List.mem_singleton.1 u,show eqs key key=true from eqsP.2 rfl];rfl)
def zhk9{n:Nd}(hl:n.lf=true)(hb:Bm n)(key:ByteArray):∃(at_:Nat)(I E V1 O:List ByteArray),plc n key n.ks.length=at_/\n.ks=I++E/\n.vs=V1++O/\I.length=at_/\V1.length=at_/\E.length=O.length/\(∀k∈I,Kl k key)/\
 ((at_<n.ks.length/\eqs (kA n at_) key=true)/\(∃K v V3,E=key::K/\O=v::V3/\vA n at_=v/\K.length=V3.length/\∀k∈K,Kl key k)\/¬(at_<n.ks.length/\eqs (kA n at_) key=true)/\∀k∈E,Kl key k):=by
 obtain⟨v1,v2,v3⟩:=hb.lf hl
 obtain⟨Y,p2⟩:=zfs9 hl key n.ks.length
 have p3:=plc_le n key n.ks.length
 obtain⟨at_,a0⟩:=exN (plc n key n.ks.length)
 rw[a0]at Y p2 p3
 have Q:∀i j,i<j->j<n.ks.length->Kl (kA n i) (kA n j):=λ i j H h2=>by
  have:=List.pairwise_iff_getElem.1 hb.up i j (by omega) h2 H
  unfold kA
  rw[zn3,zn3,zc0 h2,zc0 (by omega)]
  exact this
 have a1:∀k∈n.ks.take at_,Kl k key:=λ k A=>by
  obtain⟨i,u,rfl⟩:=List.getElem_of_mem A
  rw[zg0]at u
  have e:(n.ks.take at_)[i]'(by rw[zg0];exact u)=kA n i:=by
   unfold kA;rw[zn3,zc0 (by omega)];simp
  rw[e]
  rcases p2 with q|q
  .omega
  .by_cases c:i=at_-1
   .rw[c];exact q
   .exact(Q i (at_-1) (by omega) (by omega)).trans q
 refine⟨at_,n.ks.take at_,n.ks.drop at_,n.vs.take at_,n.vs.drop at_,a0,by simp,by simp,by simp;omega,by simp;omega,by simp;omega,a1,?_⟩
 have a2:∀k∈n.ks.drop at_,∃j,at_<=j/\j<n.ks.length/\k=kA n j:=λ k A=>by
  obtain⟨i,u,rfl⟩:=List.getElem_of_mem A
  rw[zj0]at u
  refine⟨at_+i,by omega,by omega,?_⟩
  unfold kA;rw[zn3,zc0 (by omega)];simp
 by_cases c:at_<n.ks.length/\eqs (kA n at_) key=true
 .left
  refine⟨c,n.ks.drop (at_+1),vA n at_,n.vs.drop (at_+1),?_,?_,rfl,by simp;omega,λ k A=>?_⟩
  .have:kA n at_=key:=eqsP.1 c.2
   rw[<-this];unfold kA
   rw[zn3,zc0 c.1];simp
  .unfold vA
   rw[zn3,zc0 (by omega)];simp
  .obtain⟨i,u,rfl⟩:=List.getElem_of_mem A
   rw[zj0]at u
   have e:(n.ks.drop (at_+1))[i]'(by rw[zj0];exact u)=kA n (at_+1+i):=by
    unfold kA;rw[zn3,zc0 (by omega)];simp
   rw[e,<-eqsP.1 c.2]
   exact Q at_ _ (by omega) (by omega)
 .right
  refine⟨c,λ k A=>?_⟩
  obtain⟨j,j1,T,rfl⟩:=a2 k A
  rcases(Y j j1 T).or with q|q
  .exact q
  .exfalso
   by_cases e:j=at_
   .subst e;exact c ⟨T,eqsP.2 q.symm⟩
   .have H:=Q at_ j (by omega) T
    rw[<-q]at H
    exact(Y at_ (zn6 _) (by omega)).not H
def put_lf{key val:ByteArray}(h0:key≠eS)(hk:key.size<=24)(hv:val.size<=24):LfOk ⟨key,insL key val,false⟩ (insE key val) where
 loc:=λ L1 L L2 h1 h2=>zdf9 val h1 h2
 key:=hk
 lf:=by
  intro n lo hi A K hs hr a4 a3
  obtain⟨v1,v2,v3⟩:=K.lf A
  obtain⟨at_,O,H,E,Q,a2,u,I,l1,l2,l3,h1,h2⟩:=zhk9 A K key
  have up:=K.up
  rw[u]at up
  obtain⟨u1,u2,u3⟩:=List.pairwise_append.1 up
  have hz:∀e∈O.zip E,Kl e.1 key:=λ e he=>h1 _ (List.of_mem_zip he).1
  dsimp only at a4 a3 |-
  rcases h2 with⟨c,K3,v,T,rfl,rfl,_,l4,h3⟩|⟨c,h3⟩
  .have hm:insL key val n={ n with vs:=E++val::T }:=by
    unfold insL;simp only[a2];rw[if_pos c,I,List.set_append_right _ _ (by omega),show at_-E.length=0 by omega];rfl
   have a1:∀e∈K3.zip T,Kl key e.1:=λ e he=>h3 _ (List.of_mem_zip he).1
   have Y:Bm { n with vs:=E++val::T }:={
    ks:=K.ks
    up:=K.up
    ne:=K.ne
    lf:=λ _=>⟨by show(E++val::T).length=n.ks.length;rw[u];simp;omega,v2,λ w hw=>by
     rcases zi0.1 hw with q|q
     .exact v3 w (by rw[I];simp[q])
     .rcases List.mem_cons.1 q with q|q
      .rw[q];exact hv
      .exact v3 w (by rw[I];simp[q])⟩
    inn:=λ e=>by have:n.lf=false:=e;rw[A]at this;cases this }
   rw[hm]
   refine⟨A,Y,?_,hr,?_,λ _=>⟨zn6 _,by show 1<=n.ks.length;rw[u];simp;omega⟩,λ e=>by cases e⟩
   .rw[zbk9 (n:={ n with vs:=E++val::T }) A (Y.lf A).1,zbk9 A v1,I]
    simp only[zaj9,zah9]
    omega
   .show n.ks.zip (E++val::T)=_
    rw[u,I,List.zip_append (by omega),List.zip_append (by omega),List.zip_cons_cons,List.zip_cons_cons,show(key,v)::K3.zip T=[(key,v)]++K3.zip T from rfl,zdf9 val hz a1,zmj9]
    rfl
  .have hm:insL key val n={ n with ks:=O++key::H,vs:=E++val::Q }:=by
    unfold insL;simp only[a2];rw[if_neg c,u,I,<-l1,List.take_left,List.drop_left,l1,<-l2,List.take_left,List.drop_left,List.set_append_right _ _ (by omega),Nat.sub_self];rfl
   have a1:∀e∈H.zip Q,Kl key e.1:=λ e he=>h3 _ (List.of_mem_zip he).1
   have Y:Bm { n with ks:=O++key::H,vs:=E++val::Q }:={
    ks:=λ k a0=>by
     rcases zi0.1 a0 with q|q
     .exact K.ks k (by rw[u];simp[q])
     .rcases List.mem_cons.1 q with q|q
      .rw[q];exact hk
      .exact K.ks k (by rw[u];simp[q])
    up:=List.pairwise_append.2 ⟨u1,List.pairwise_cons.2 ⟨h3,u2⟩,λ p hp q hq=>by
     rcases List.mem_cons.1 hq with e|e
     .rw[e];exact h1 p hp
     .exact u3 p hp q e⟩
    ne:=λ e k a0=>by
     rcases zi0.1 a0 with q|q
     .exact K.ne A k (by rw[u];simp[q])
     .rcases List.mem_cons.1 q with q|q
      .rw[q];exact h0
      .exact K.ne A k (by rw[u];simp[q])
    lf:=λ _=>⟨by show(E++val::Q).length=(O++key::H).length;simp;omega,v2,λ w hw=>by
     rcases zi0.1 hw with q|q
     .exact v3 w (by rw[I];simp[q])
     .rcases List.mem_cons.1 q with q|q
      .rw[q];exact hv
      .exact v3 w (by rw[I];simp[q])⟩
    inn:=λ e=>by have:n.lf=false:=e;rw[A]at this;cases this }
   rw[hm]
   refine⟨A,Y,?_,λ k a0=>?_,?_,λ _=>⟨by show n.ks.length<=(O++key::H).length;rw[u];simp,by show 1<=(O++key::H).length;simp;omega⟩,λ e=>by cases e⟩
   .rw[zbk9 (n:={ n with ks:=O++key::H,vs:=E++val::Q }) A (Y.lf A).1,zbk9 A v1,u,I]
    simp only[zaj9,zah9,zf0,zk0]
    omega
   .rcases zi0.1 a0 with q|q
    .exact hr k (by rw[u];simp[q])
    .rcases List.mem_cons.1 q with q|q
     .rw[q];exact⟨a4,a3⟩
     .exact hr k (by rw[u];simp[q])
   .show(O++key::H).zip (E++val::Q)=_
    rw[u,I,List.zip_append (by omega),List.zip_append (by omega),List.zip_cons_cons,show H.zip Q=[]++H.zip Q from rfl,zdf9 val hz a1,zmi9]
    rfl
def del_lf{key:ByteArray}(hk:key.size<=24):LfOk ⟨key,delL key,true⟩ (delE key) where
 loc:=λ L1 L L2 h1 h2=>zhc9 h1 h2
 key:=hk
 lf:=by
  intro n lo hi E O hs hr a4 a3
  obtain⟨v1,v2,v3⟩:=O.lf E
  obtain⟨at_,H,K2,I,V2,a1,K,Q,l1,l2,l3,h1,h2⟩:=zhk9 E O key
  have up:=O.up
  rw[K]at up
  obtain⟨u1,u2,u3⟩:=List.pairwise_append.1 up
  have hz:∀e∈H.zip I,Kl e.1 key:=λ e T=>h1 _ (List.of_mem_zip T).1
  dsimp only at a4 a3 |-
  rcases h2 with⟨c,u,v,A,rfl,rfl,_,l4,h3⟩|⟨c,h3⟩
  .have hm:delL key n={ n with ks:=H++u,vs:=I++A }:=by
    unfold delL;simp only[a1];rw[if_pos c,K,Q]
    have q1:(H++key::u).drop (at_+1)=u:=by rw[<-l1,<-zf1,List.drop_left];rfl
    have q2:(I++v::A).drop (at_+1)=A:=by rw[<-l2,<-zf1,List.drop_left];rfl
    rw[q1,q2,<-l1,List.take_left,l1,<-l2,List.take_left]
   have a0:∀e∈u.zip A,Kl key e.1:=λ e T=>h3 _ (List.of_mem_zip T).1
   have a2:Bm { n with ks:=H++u,vs:=I++A }:={
    ks:=λ k Y=>O.ks k (by rw[K];rcases zi0.1 Y with q|q<;>simp[q])
    up:=List.pairwise_append.2 ⟨u1,(List.pairwise_cons.1 u2).2,λ p hp q hq=>u3 p hp q (by simp[hq])⟩
    ne:=λ e k Y=>O.ne E k (by rw[K];rcases zi0.1 Y with q|q<;>simp[q])
    lf:=λ _=>⟨by show(I++A).length=(H++u).length;simp;omega,v2,λ w hw=>v3 w (by rw[Q];rcases zi0.1 hw with q|q<;>simp[q])⟩
    inn:=λ e=>by have:n.lf=false:=e;rw[E]at this;cases this }
   have a5:sz { n with ks:=H++u,vs:=I++A }<=sz n:=by
    rw[zbk9 (n:={ n with ks:=H++u,vs:=I++A }) E (a2.lf E).1,zbk9 E v1,K,Q]
    simp only[zaj9,zah9,zf0,zk0]
    omega
   rw[hm]
   refine⟨E,a2,by omega,λ k Y=>hr k (by rw[K];rcases zi0.1 Y with q|q<;>simp[q]),?_,λ e=>(by cases e),λ _=>a5⟩
   show(H++u).zip (I++A)=_
   rw[K,Q,List.zip_append (by omega),List.zip_append (by omega),List.zip_cons_cons,show(key,v)::u.zip A=[(key,v)]++u.zip A from rfl,zhc9 hz a0,ztd9]
   rfl
  .have hm:delL key n=n:=by unfold delL;simp only[a1];rw[if_neg c]
   have a0:∀e∈K2.zip V2,Kl key e.1:=λ e T=>h3 _ (List.of_mem_zip T).1
   rw[hm]
   refine⟨E,O,by omega,hr,?_,λ e=>(by cases e),λ _=>zn6 _⟩
   rw[K,Q,List.zip_append (by omega),show K2.zip V2=[]++K2.zip V2 from rfl,zhc9 hz a0,ztc9]
def fndE(key:ByteArray)(L:List E2):ByteArray×Bool:=match L.find? (λ e=>eqs e.1 key)with
 | some e=>(e.2,true)
 | none=>(eS,false)
def zlw9{key:ByteArray}{u L A:List E2}(H:∀e∈u,Kl e.1 key)(I:∀e∈A,Kl key e.1):fndE key (u++(L++A))=fndE key L:=by
 unfold fndE
 have K:u.find? (λ e=>eqs e.1 key)=none:=List.find?_eq_none.2 (λ e E=>by rw[eqs_ne (H e E).ne];decide)
 have O:A.find? (λ e=>eqs e.1 key)=none:=List.find?_eq_none.2 (λ e E=>by rw[eqs_ne (I e E).ne.symm];decide)
 rw[List.find?_append,List.find?_append,K,O]
 simp
def zwl9{key:ByteArray}{L:List E2}(h:(fndE key L).2=false):∀e∈L,e.1≠key:=by
 unfold fndE at h
 split at h
 .cases h
 .rename_i he
  intro e A u
  have:=List.find?_eq_none.1 he e A
  exact this (eqsP.2 u)
def Nod.place{V:Int->Int×Nd}{c h:Nat}{n:Nd}{lo:ByteArray}{hi:Option ByteArray}{L:List E2}{B:List Int}(key:ByteArray)(H:Nod V c (h+1) n lo hi L B)(hb:Bm n)(hl:1<=n.ks.length)(ad:Lh key hi):
 ∃LA I LC k hk E BA BC,L=LA++(I++LC)/\B=BA++(E++BC)/\(∀e∈LA,Kl e.1 key)/\(∀e∈LC,Kl key e.1)/\Sub V c h (dA n (plc n key n.ks.length)) k hk I E/\Lh key hk:=by
 obtain⟨a1,a2,a3⟩:=H
 obtain⟨q1,q2,q3⟩:=hb.inn a1
 obtain⟨a8,a9,T⟩:=zct9 a1 key n.ks.length
 have T:=T hl
 obtain⟨at_,aa⟩:=exN (plc n key n.ks.length)
 rw[aa]at a8 a9 T |-
 obtain⟨K1,Y,u,ag⟩:=cut_at eS n.ks T
 obtain⟨D1,D2,a5,af⟩:=cut_at (0:Int) n.kd (i:=at_) (by omega)
 obtain⟨k,a4⟩:=exN (n.ks.getD at_ eS)
 obtain⟨x1,hx1⟩:=exN (n.kd.getD at_ 0)
 rw[a4]at u
 rw[hx1]at a5
 have ac:kA n at_=k:=a4
 have ab:dA n at_=x1:=hx1
 rw[u,a5]at a3
 obtain⟨LA,L2,BA,B2,O,⟨I,LC,E,BC,sK,fC,rfl,rfl⟩,rfl,rfl⟩:=(Fo.app (by omega)).1 a3
 have O:=O
 have fC:=fC
 have a6:=hb.up
 rw[u]at a6
 obtain⟨uA,uX,ae⟩:=List.pairwise_append.1 a6
 obtain⟨uk,uC⟩:=List.pairwise_cons.1 uX
 have a7:Lh key (nxt Y hi):=by
  cases Y with
  | nil=>exact ad
  | cons k' K=>
   intro b a0;cases a0
   have:=a8 (at_+1) (by omega) (by rw[u];simp;omega)
   unfold kA at this
   rw[u,zn3,zn0 (by omega),show at_+1-K1.length=1 by omega]at this
   exact this
 refine⟨LA,I,LC,k,nxt Y hi,E,BA,BC,rfl,rfl,λ e Q=>?_,λ e Q=>?_,by rw[ab];exact sK,a7⟩
 .rcases a9 with A|A
  .have hK:K1=[]:=zh0 (by omega)
   have hD:D1=[]:=zh0 (by omega)
   subst hK hD
   obtain⟨rfl,rfl⟩:=O
   cases Q
  .have:=(O.facts (λ x k hi L B s=>Sub.facts s) uA (λ q hq b a0=>by cases a0;exact ae q hq k (by simp))).1 e Q
   rw[ac]at A
   exact(this.2 k rfl).trans_le A
 .obtain⟨⟨q,K,A,e2⟩,_⟩:=(fC.facts (λ x k hi L B s=>Sub.facts s) uC (λ q hq=>(a2 q (by rw[u];simp[hq])).2)).1 e Q
  exact(a7 q (by rw[A];rfl)).trans_le e2
def ztu9{a:AS}{c:Nat}(key:ByteArray)(hc:1<=c):∀(h f lv:Nat)(z:List Int)(x:Int)(n:Nd)(lo:ByteArray)(hi:Option ByteArray)(L:List E2) (B:List Int),
 a.V x=(0,n)->Bm n->1<=n.ks.length->Nod a.V c h n lo hi L B->h<f->lv+h<=16->Lh key hi->(∀y,(x::B).count y<=1)->(∀y∈x::B,y∉z)->
 (downF (getW key) a f lv (eS,false) z x).e=0/\(downF (getW key) a f lv (eS,false) z x).s=fndE key L:=by
 intro h
 induction h with
 | zero=>
  intro f lv z x n lo hi L B hV hb hl I hf a8 hk a4 K
  obtain⟨f,rfl⟩:∃g,f=g+1:=⟨f-1,by omega⟩
  obtain⟨E,a2,rfl,rfl⟩:=I
  have a0:look a x lv=(0,n):=by unfold look;rw[if_neg (by omega)];exact hV
  obtain⟨at_,K1,T,V1,V2,a6,e1,e2,l1,l2,l3,h1,h2⟩:=zhk9 E hb key
  have a5:∀e∈K1.zip V1,Kl e.1 key:=λ e u=>h1 _ (List.of_mem_zip u).1
  unfold downF
  rw[if_neg (K x (by simp)),a0]
  simp only[ne_eq,not_true_eq_false,if_false,getW,E,if_true,a6,goF]
  refine⟨trivial,?_⟩
  rcases h2 with⟨c,Y,v,V3,rfl,rfl,hv,l4,H⟩|⟨c,H⟩
  .have a1:∀e∈Y.zip V3,Kl key e.1:=λ e u=>H _ (List.of_mem_zip u).1
   rw[if_pos c,hv,e1,e2,List.zip_append (by omega),List.zip_cons_cons,show(key,v)::Y.zip V3=[(key,v)]++Y.zip V3 from rfl,zlw9 a5 a1]
   unfold fndE
   simp[show eqs key key=true from eqsP.2 rfl]
  .have a1:∀e∈T.zip V2,Kl key e.1:=λ e u=>H _ (List.of_mem_zip u).1
   rw[if_neg c,e1,e2,List.zip_append (by omega),show T.zip V2=[]++T.zip V2 from rfl,zlw9 a5 a1]
   rfl
 | succ h ih=>
  intro f lv z x n lo hi L B hV hb hl I hf a8 hk a4 K
  obtain⟨f,rfl⟩:∃g,f=g+1:=⟨f-1,by omega⟩
  have a0:look a x lv=(0,n):=by unfold look;rw[if_neg (by omega)];exact hV
  have E:=I.1
  obtain⟨LA,Lk,LC,k,a7,Bk,O,Q,rfl,rfl,k1,k2,⟨m,A,v1,v2,v3,v4,v5,rfl⟩,k3⟩:=I.place key hb hl hk
  unfold downF
  rw[if_neg (K x (by simp)),a0]
  simp only[ne_eq,not_true_eq_false,if_false,getW,E,Bool.false_eq_true]
  generalize dA n (plc n key n.ks.length)=y at *
  have a3:∀q,[x].count q+O.count q+(y::A).count q+Q.count q<=1:=λ q=>by
   have:=a4 q
   rw[show x::(O++((y::A)++Q))=[x]++(O++((y::A)++Q))from rfl]at this
   simp only[List.count_append]at this
   omega
  have:=ih f (lv+1) (x::z) y m k a7 Lk A v1 v2 (by omega) v5 (by omega) (by omega) k3 (λ q=>by have:=a3 q;omega) (λ q hq hm=>by
   rcases List.mem_cons.1 hm with e|e
   .have h1:=a3 q
    have h2:=List.count_pos_iff.2 hq
    have H:0 < [x].count q:=List.count_pos_iff.2 (by simp[e])
    omega
   .exact K q (by simp only[List.mem_cons,zi0]at hq |-;rcases hq with e|e<;>simp[e]) e)
  obtain⟨t1,t2⟩:=this
  have a9:=t1
  simp only[goF,Bool.false_eq_true,if_false]
  rw[zlw9 k1 k2,<-t2]
  have e0:∀(W:WD (ByteArray×Bool)),W=getW key->(if (downF W a f (lv+1) (eS,false) (x::z) y).e≠0 then downF W a f (lv+1) (eS,false) (x::z) y else⟨0,(downF W a f (lv+1) (eS,false) (x::z) y).s,(downF W a f (lv+1) (eS,false) (x::z) y).z⟩:DR (ByteArray×Bool)).e=0/\(if (downF W a f (lv+1) (eS,false) (x::z) y).e≠0 then downF W a f (lv+1) (eS,false) (x::z) y else⟨0,(downF W a f (lv+1) (eS,false) (x::z) y).s,(downF W a f (lv+1) (eS,false) (x::z) y).z⟩:DR (ByteArray×Bool)).s=(downF (getW key) a f (lv+1) (eS,false) (x::z) y).s:=by
   rintro W rfl
   rw[if_neg (by rw[a9];decide)]
   exact⟨rfl,rfl⟩
  exact e0 _ rfl
def get_tr{a:AS}{c u:Nat}{x:Int}{L:List E2}{B:List Int}(Y:1<=c)(h:Tr a.V c u x L B)(a1:∀y,B.count y<=1)(key:ByteArray):(getF a x key).e=0/\(getF a x key).s=fndE key L:=by
 unfold getF fromF
 cases u with
 | zero=>obtain⟨rfl,rfl,rfl⟩:=h;rw[if_pos rfl];exact⟨rfl,rfl⟩
 | succ Q=>
  obtain⟨a0,E,n,A,H,I,K,a4,O,rfl⟩:=h
  rw[if_neg E]
  exact ztu9 key Y Q 16 1 [] x n eS none L A H I K O (by omega) (by omega) (λ b T=>by cases T) a1 (λ y _ h=>by cases h)
def inR(from_ to:ByteArray)(e:E2):Bool:=!lts e.1 from_&&(eqs to eS||lts e.1 to)
def scnE(from_ to:ByteArray)(m:Nat)(L:List E2):List E2:=(L.filter (inR from_ to)).take m
def zsz9{n:Nd}(to:ByteArray):(∀j,bsF n to<=j->j<n.ks.length->Ke to (kA n j))/\(bsF n to=0\/Kl (kA n (bsF n to-1)) to)/\bsF n to<=n.ks.length:=by
 obtain⟨u,A⟩:=zfs9 (n:={ n with lf:=true }) rfl to n.ks.length
 exact⟨u,A,plc_le _ _ _⟩
def kA_lt{n:Nd}(E:Bm n){i j:Nat}(A:i<j)(u:j<n.ks.length):Kl (kA n i) (kA n j):=by
 have:=List.pairwise_iff_getElem.1 E.up i j (by omega) u A
 unfold kA
 rw[zn3,zn3,zc0 u,zc0 (by omega)]
 exact this
def zim9{n:Nd}(H:Bm n)(to:ByteArray):endF n to<=n.ks.length/\(∀j,endF n to<=j->j<n.ks.length->eqs to eS=false/\Ke to (kA n j))/\(∀j,j<endF n to->eqs to eS=true\/Kl (kA n j) to):=by
 obtain⟨u,A,E⟩:=zsz9 (n:=n) to
 unfold endF
 cases e:eqs to eS with
 | true=>rw[if_pos rfl];exact⟨zn6 _,λ j a b=>by omega,λ j _=>.inl rfl⟩
 | false=>
  rw[if_neg (by decide)]
  refine⟨E,λ j a b=>⟨rfl,u j a b⟩,λ j I=>.inr ?_⟩
  rcases A with q|q
  .omega
  .by_cases c:j=bsF n to-1
   .rw[c];exact q
   .exact(kA_lt H (by omega) (by omega)).trans q
def zwb9{n:Nd}(hv:n.vs.length=n.ks.length){i j:Nat}(E:i<=j)(hj:j<=n.ks.length):entF n i j=((n.ks.zip n.vs).take j).drop i:=by
 unfold entF
 apply List.ext_getElem
 .simp;omega
 .intro k u A
  simp at u A |-
  unfold kA vA
  rw[zn3,zn3,zc0 (by omega),zc0 (by omega)]
  simp
def zwf9{p:E2->Bool}(L:List E2){i j:Nat}(T:i<=j)(K:∀k,k<i->(u:k<L.length)->p L[k]=false)(O:∀k,j<=k->(u:k<L.length)->p L[k]=false)(Q:∀k,i<=k->k<j->(u:k<L.length)->p L[k]=true):L.filter p=(L.take j).drop i:=by
 have e:L=L.take i++((L.take j).drop i++L.drop j):=by
  rw[show L.take i=(L.take j).take i by rw[zi1,Nat.min_eq_left T],<-zv0,zw0,zw0]
 have E:(L.take i).filter p=[]:=zay9 (λ e A=>by
  obtain⟨k,u,rfl⟩:=List.getElem_of_mem A
  rw[zg0]at u
  rw[ze1]
  exact K k (by omega) (by omega))
 have H:(L.drop j).filter p=[]:=zay9 (λ e A=>by
  obtain⟨k,u,rfl⟩:=List.getElem_of_mem A
  rw[zj0]at u
  rw[zd1]
  exact O (j+k) (by omega) (by omega))
 have I:((L.take j).drop i).filter p=(L.take j).drop i:=zdb9 (λ e A=>by
  obtain⟨k,u,rfl⟩:=List.getElem_of_mem A
  rw[zj0,zg0]at u
  rw[zd1,ze1]
  exact Q (i+k) (by omega) (by omega) (by omega))
 conv=>lhs;rw[e]
 rw[List.filter_append,List.filter_append,E,H,I]
 simp
structure Sc(most:Nat)(acc:List E2)(L:List E2)(z B:List Int)(r:DR (List E2×Bool)):Prop where
 e:r.e=0
 s:r.s=(acc++L.take (most-acc.length),decide ((acc++L.take (most-acc.length)).length=most))
 z:∀y∈r.z,y∈z\/y∈B
def zvh9{α:Type}(u L M:List α)(m:Nat)(h:u.length<=m):(u++L.take (m-u.length))++M.take (m-(u++L.take (m-u.length)).length)=u++(L++M).take (m-u.length):=by
 rw[List.take_append,zv0]
 congr 2
 simp only[zf0,zg0]
 congr 1
 omega
section
variable {a:AS} {c:Nat} {from_ to:ByteArray} {most:Nat}
def Fo.scan{h f lv:Nat}(Q:∀(u:List E2)(z:List Int)(x:Int)(k:ByteArray)(hi:Option ByteArray)(L:List E2)(B:List Int),u.length<=most->Sub a.V c h x k hi L B->(∀y,B.count y<=1)->(∀y∈B,y∉z)->Sc most u (L.filter (inR from_ to)) z B (downF (scanW from_ to most) a f lv (u,decide (u.length=most)) z x)):
 ∀{K:List ByteArray} {xs:List Int} {hi:Option ByteArray} {L:List E2} {B:List Int} (u:List E2) (z:List Int),Fo (Sub a.V c h) K xs hi L B->u.length<=most->(∀y,B.count y<=1)->(∀y∈B,y∉z)->
  Sc most u (L.filter (inR from_ to)) z B (goF (scanW from_ to most).en (downF (scanW from_ to most) a f lv) xs (u,decide (u.length=most)) z)
 | [],[],_,_,_,u,z,⟨rfl,rfl⟩,h1,h2,h3=>⟨rfl,by simp[goF],λ y A=>.inl A⟩
 | k::K,x::xs,hi,_,_,u,z,⟨L1,L2,B1,B2,p,q,rfl,rfl⟩,h1,h2,h3=>by
  unfold goF
  by_cases I:u.length=most
  .rw[if_pos (by show decide _=true;rw[zm0];exact I)]
   exact⟨rfl,by subst I;simp,λ y A=>.inl A⟩
  .rw[if_neg (by show¬decide _=true;rw[zm0];exact I)]
   have H:∀y,B1.count y+B2.count y<=1:=λ y=>by have:=h2 y;rw[List.count_append]at this;exact this
   have E:=Q u z x k (nxt K hi) L1 B1 h1 p (λ y=>by have:=H y;omega) (λ y A=>h3 y (zg1 _ A))
   rw[if_neg (by rw[E.e];decide),E.s]
   have O:=Fo.scan Q (u++(L1.filter (inR from_ to)).take (most-u.length)) (downF (scanW from_ to most) a f lv (u,decide (u.length=most)) z x).z q (by simp only[zf0,zg0];omega) (λ y=>by have:=H y;omega) (λ y A T=>by
    rcases E.z y T with e|e
    .exact h3 y (zh1 _ A) e
    .have Y:=List.count_pos_iff.2 e
     have h5:=List.count_pos_iff.2 A
     have:=H y
     omega)
   refine⟨O.e,?_,λ y A=>?_⟩
   .rw[O.s,List.filter_append,zvh9 _ _ _ _ h1]
   .rcases O.z y A with e|e
    .rcases E.z y e with e|e
     .exact .inl e
     .exact .inr (zg1 _ e)
    .exact .inr (zh1 _ e)
 | [],_::_,_,_,_,_,_,h,_,_,_=>h.elim
 | _::_,[],_,_,_,_,_,h,_,_,_=>h.elim
def zqp9(hc:1<=c):∀(h f lv:Nat)(u:List E2)(z:List Int)(x:Int)(n:Nd)(lo:ByteArray)(hi:Option ByteArray) (L:List E2) (B:List Int),
 u.length<=most->a.V x=(0,n)->Bm n->1<=n.ks.length->Nod a.V c h n lo hi L B->h<f->lv+h<=16->(∀y,(x::B).count y<=1)->(∀y∈x::B,y∉z)->
 Sc most u (L.filter (inR from_ to)) z (x::B) (downF (scanW from_ to most) a f lv (u,decide (u.length=most)) z x):=by
 intro h
 induction h with
 | zero=>
  intro f lv u z x n lo hi L B a6 hV I hl hN hf ac aa hz
  obtain⟨f,rfl⟩:∃g,f=g+1:=⟨f-1,by omega⟩
  obtain⟨O,a2,rfl,rfl⟩:=hN
  obtain⟨v1,v2,v3⟩:=I.lf O
  have a4:look a x lv=(0,n):=by unfold look;rw[if_neg (by omega)];exact hV
  obtain⟨e1,e2,e3⟩:=zim9 I to
  obtain⟨p1,p2⟩:=zfs9 O from_ n.ks.length
  have p3:=plc_le n from_ n.ks.length
  have hent:entF n (fstF n from_ to) (endF n to)=(n.ks.zip n.vs).filter (inR from_ to):=by
   rw[zwb9 v1 (by unfold fstF;omega) e1]
   have A:∀k,(A:k<(n.ks.zip n.vs).length)->((n.ks.zip n.vs)[k]).1=kA n k/\k<n.ks.length:=λ k A=>by
    have E:k<n.ks.length:=by rw[List.length_zip]at A;omega
    refine⟨?_,E⟩
    unfold kA
    rw[zn3,zc0 E];simp
   refine(zwf9 _ (by unfold fstF;omega) (λ k E H=>?_) (λ k E H=>?_) (λ k E H h3=>?_)).symm
   .obtain⟨Q,T⟩:=A k H
    unfold inR
    rw[Q]
    have hp:Kl (kA n k) from_:=by
     rcases p2 with q|q
     .unfold fstF at E;omega
     .by_cases c:k=plc n from_ n.ks.length-1
      .rw[c];exact q
      .exact(kA_lt I (by unfold fstF at E;omega) (by omega)).trans q
    rw[show lts (kA n k) from_=true from hp];rfl
   .obtain⟨Q,T⟩:=A k H
    unfold inR
    rw[Q]
    obtain⟨t1,t2⟩:=e2 k E T
    rw[t1,show lts (kA n k) to=false from t2];simp
   .obtain⟨Q,T⟩:=A k h3
    unfold inR
    rw[Q]
    have hp:=p1 k (by unfold fstF at E;omega) T
    rw[show lts (kA n k) from_=false from hp]
    rcases e3 k H with t|t
    .rw[t];rfl
    .rw[show lts (kA n k) to=true from t];simp
  unfold downF
  rw[if_neg (hz x (by simp)),a4]
  simp only[ne_eq,not_true_eq_false,if_false,scanW,O,if_true,goF,hent]
  exact⟨rfl,rfl,λ y hy=>(List.mem_cons.1 hy).elim (λ e=>.inr (by simp[e])) .inl⟩
 | succ h ih=>
  intro f lv u z x n lo hi L B a6 hV I hl hN hf ac aa hz
  obtain⟨f,rfl⟩:∃g,f=g+1:=⟨f-1,by omega⟩
  have a4:look a x lv=(0,n):=by unfold look;rw[if_neg (by omega)];exact hV
  obtain⟨O,a2,a3⟩:=hN
  obtain⟨Q,T,q3⟩:=I.inn O
  obtain⟨e1,e2,e3⟩:=zim9 I to
  obtain⟨p1,p2,p3⟩:=zct9 O from_ n.ks.length
  have p3:=p3 hl
  obtain⟨i,a0⟩:∃q,fstF n from_ to=q:=⟨_,rfl⟩
  obtain⟨j,hj⟩:=exN (endF n to)
  have a8:i<=j:=by rw[<-a0,<-hj];unfold fstF;omega
  have ad:i<=plc n from_ n.ks.length:=by rw[<-a0];unfold fstF;omega
  rw[hj]at e1 e2 e3
  have K0:n.ks=n.ks.take i++((n.ks.take j).drop i++n.ks.drop j):=by rw[show n.ks.take i=(n.ks.take j).take i by rw[zi1,Nat.min_eq_left a8],<-zv0,zw0,zw0]
  have D0:n.kd=n.kd.take i++((n.kd.take j).drop i++n.kd.drop j):=by rw[show n.kd.take i=(n.kd.take j).take i by rw[zi1,Nat.min_eq_left a8],<-zv0,zw0,zw0]
  have a3:=a3
  rw[K0,D0]at a3
  obtain⟨L1,L4,B1,B4,f1,f4,rfl,rfl⟩:=(Fo.app (by simp;omega)).1 a3
  obtain⟨L2,L3,B2,B3,f2,f3,rfl,rfl⟩:=(Fo.app (by simp;omega)).1 f4
  have up:=I.up
  rw[K0]at up
  obtain⟨u1,u4,u14⟩:=List.pairwise_append.1 up
  obtain⟨u2,u3,u23⟩:=List.pairwise_append.1 u4
  have g1:L1.filter (inR from_ to)=[]:=by
   rcases Nat.eq_zero_or_pos i with i0|i0
   .subst i0
    simp only[List.take_zero]at f1
    rw[f1.1];rfl
   .refine zay9 (λ e he=>?_)
    have hr:∀k∈n.ks.take i,Lh k (nxt ((n.ks.take j).drop i++n.ks.drop j) hi):=λ k A=>by
     cases hq:(n.ks.take j).drop i++n.ks.drop j with
     | nil=>exact(a2 k (zx0 A)).2
     | cons k' K=>intro b ab;cases ab;exact u14 k A k' (by rw[hq];simp)
    have E:=((f1.facts (λ x k hi L B s=>Sub.facts s) u1 hr).1 e he).2
    have a9:i<n.ks.length:=by omega
    have hn:nxt ((n.ks.take j).drop i++n.ks.drop j) hi=some (kA n i):=by
     have:(n.ks.take j).drop i++n.ks.drop j=n.ks.drop i:=by
      have:=K0
      conv at this=>lhs;rw[<-zw0 i n.ks]
      exact(List.append_cancel_left this).symm
     rw[this]
     unfold kA
     rw[zn3,zc0 a9,<-List.getElem_cons_drop a9]
     rfl
    have H:=E _ hn
    have h3:Ke (kA n i) from_:=by
     rcases p2 with q|q
     .omega
     .by_cases cc:i=plc n from_ n.ks.length
      .rw[cc];exact q
      .exact((kA_lt I (by omega) p3).trans_le q).le
    unfold inR
    rw[show lts e.1 from_=true from H.trans_le h3];rfl
  have g3:L3.filter (inR from_ to)=[]:=zay9 (λ e he=>by
   obtain⟨⟨k,K,Y,w2⟩,_⟩:=(f3.facts (λ x k hi L B s=>Sub.facts s) u3 (λ k A=>(a2 k (zy0 A)).2)).1 e he
   have a1:j<n.ks.length:=by
    have:=congrArg List.length Y;simp at this;omega
   have A:k=kA n j:=by
    unfold kA
    rw[zn3,zc0 a1]
    rw[<-List.getElem_cons_drop a1]at Y
    cases Y;rfl
   obtain⟨t1,t2⟩:=e2 j (zn6 _) a1
   unfold inR
   rw[t1,show lts e.1 to=false from t2.trans (A▸w2)];simp)
  have a7:∀q,[x].count q+B1.count q+B2.count q+B3.count q<=1:=λ q=>by
   have:=aa q
   rw[show x::(B1++(B2++B3))=[x]++(B1++(B2++B3))from rfl]at this
   simp only[List.count_append]at this
   omega
  have a5:=Fo.scan (a:=a) (c:=c) (from_:=from_) (to:=to) (most:=most) (h:=h) (f:=f) (lv:=lv+1) (λ u z x k hi L B Y w2 w3 w4=>by
   obtain⟨m,B5,v1,v2,v3,v4,v5,rfl⟩:=w2
   exact ih f (lv+1) u z x m k hi L B5 Y v1 v2 (by omega) v5 (by omega) (by omega) w3 w4) u (x::z) f2 a6 (λ y=>by have:=a7 y;omega) (λ q hq hm=>by
   rcases List.mem_cons.1 hm with e|e
   .have E:=a7 q
    have H:=List.count_pos_iff.2 hq
    have h3:0 < [x].count q:=List.count_pos_iff.2 (by simp[e])
    omega
   .exact hz q (by simp only[List.mem_cons,zi0];exact .inr (.inr (.inl hq))) e)
  have e0:downF (scanW from_ to most) a (f+1) lv (u,decide (u.length=most)) z x=goF (scanW from_ to most).en (downF (scanW from_ to most) a f (lv+1)) ((n.kd.take j).drop i) (u,decide (u.length=most)) (x::z):=by
   rw[downF,if_neg (hz x (by simp)),a4]
   simp only[ne_eq,not_true_eq_false,if_false]
   have:(scanW from_ to most).st (u,decide (u.length=most)) x n=((u,decide (u.length=most)),(n.kd.take j).drop i):=by
    simp only[scanW,O,Bool.false_eq_true,if_false,a0,hj]
   rw[this]
  rw[e0,List.filter_append,List.filter_append,g1,g3,List.nil_append,List.append_nil]
  refine⟨a5.e,a5.s,λ y hy=>?_⟩
  rcases a5.z y hy with e|e
  .rcases List.mem_cons.1 e with e|e
   .exact .inr (by simp[e])
   .exact .inl e
  .exact .inr (by simp only[List.mem_cons,zi0];exact .inr (.inr (.inl e)))
end
def zsi9{a:AS}{c A:Nat}{x:Int}{L:List E2}{B:List Int}(Y:1<=c)(h:Tr a.V c A x L B)(a2:∀y,B.count y<=1)(from_ to:ByteArray)(most:Nat):
 (fromF (scanW from_ to most) a ([],false) x).e=0/\(fromF (scanW from_ to most) a ([],false) x).s.1=scnE from_ to most L:=by
 unfold fromF
 cases A with
 | zero=>obtain⟨rfl,rfl,rfl⟩:=h;rw[if_pos rfl];exact⟨rfl,by simp[scnE]⟩
 | succ T=>
  obtain⟨a0,H,n,E,u,I,K,a4,O,rfl⟩:=h
  rw[if_neg H]
  have a1:look a x 1=(0,n):=by unfold look;rw[if_neg (by omega)];exact u
  have Q:downF (scanW from_ to most) a 16 1 ([],false) [] x=downF (scanW from_ to most) a 16 1 ([],decide (([]:List E2).length=most)) [] x:=by
   unfold downF
   simp only[List.not_mem_nil,if_false,a1,ne_eq,not_true_eq_false]
   rfl
  rw[Q]
  have:=zqp9 (from_:=from_) (to:=to) (most:=most) Y T 16 1 [] [] x n eS none L E (by simp) u I K O (by omega) (by omega) a2 (λ y _ h=>by cases h)
  refine⟨this.e,?_⟩
  rw[this.s]
  simp[scnE]
def Fo.blks{a:AS}{c h f lv:Nat}(H:∀(s z:List Int)(x:Int)(k:ByteArray)(hi:Option ByteArray)(L:List E2)(B:List Int),Sub a.V c h x k hi L B->(∀y,B.count y<=1)->(∀y∈B,y∉z)->(downF zn9 a f lv s z x).e=0/\(downF zn9 a f lv s z x).s=s++B/\∀y∈(downF zn9 a f lv s z x).z,y∈z\/y∈B):
 ∀{E:List ByteArray} {xs:List Int} {hi:Option ByteArray} {L:List E2} {B:List Int} (s z:List Int),Fo (Sub a.V c h) E xs hi L B->(∀y,B.count y<=1)->(∀y∈B,y∉z)->
  (goF zn9.en (downF zn9 a f lv) xs s z).e=0/\(goF zn9.en (downF zn9 a f lv) xs s z).s=s++B/\∀y∈(goF zn9.en (downF zn9 a f lv) xs s z).z,y∈z\/y∈B
 | [],[],_,_,_,s,z,⟨rfl,rfl⟩,h2,h3=>⟨rfl,by simp[goF],λ y u=>.inl u⟩
 | k::E,x::xs,hi,_,_,s,z,⟨L1,L2,B1,B2,p,q,rfl,rfl⟩,h2,h3=>by
  unfold goF
  rw[if_neg (by simp[zn9])]
  have A:∀y,B1.count y+B2.count y<=1:=λ y=>by have:=h2 y;rw[List.count_append]at this;exact this
  obtain⟨O,Q,I⟩:=H s z x k (nxt E hi) L1 B1 p (λ y=>by have:=A y;omega) (λ y u=>h3 y (zg1 _ u))
  rw[if_neg (by rw[O];decide),Q]
  obtain⟨T,Y,t3⟩:=Fo.blks H (s++B1) (downF zn9 a f lv s z x).z q (λ y=>by have:=A y;omega) (λ y u K=>by
   rcases I y K with e|e
   .exact h3 y (zh1 _ u) e
   .have h4:=List.count_pos_iff.2 e
    have h5:=List.count_pos_iff.2 u
    have:=A y
    omega)
  refine⟨T,by rw[Y,zv0],λ y u=>?_⟩
  rcases t3 y u with e|e
  .rcases I y e with e|e
   .exact .inl e
   .exact .inr (zg1 _ e)
  .exact .inr (zh1 _ e)
 | [],_::_,_,_,_,_,_,h,_,_=>h.elim
 | _::_,[],_,_,_,_,_,h,_,_=>h.elim
def zoy9{a:AS}{c:Nat}(hc:1<=c):∀(h f lv:Nat)(s z:List Int)(x:Int)(n:Nd)(lo:ByteArray)(hi:Option ByteArray)(L:List E2) (B:List Int),
 a.V x=(0,n)->Bm n->Nod a.V c h n lo hi L B->h<f->lv+h<=16->(∀y,(x::B).count y<=1)->(∀y∈x::B,y∉z)->
 (downF zn9 a f lv s z x).e=0/\(downF zn9 a f lv s z x).s=s++(x::B)/\∀y∈(downF zn9 a f lv s z x).z,y∈z\/y∈x::B:=by
 intro h
 induction h with
 | zero=>
  intro f lv s z x n lo hi L B H Q E hf a0 Y u
  obtain⟨f,rfl⟩:∃g,f=g+1:=⟨f-1,by omega⟩
  obtain⟨O,a2,rfl,rfl⟩:=E
  have I:look a x lv=(0,n):=by unfold look;rw[if_neg (by omega)];exact H
  unfold downF
  rw[if_neg (u x (by simp)),I]
  simp only[ne_eq,not_true_eq_false,if_false,zn9,(Q.lf O).2.1,goF]
  exact⟨trivial,trivial,λ y K=>(List.mem_cons.1 K).elim (λ e=>.inr (by simp[e])) .inl⟩
 | succ h ih=>
  intro f lv s z x n lo hi L B H Q E hf a0 Y u
  obtain⟨f,rfl⟩:∃g,f=g+1:=⟨f-1,by omega⟩
  have I:look a x lv=(0,n):=by unfold look;rw[if_neg (by omega)];exact H
  obtain⟨O,a2,A⟩:=E
  have A:=A
  have T:∀q,[x].count q+B.count q<=1:=λ q=>by
   have:=Y q
   rw[show x::B=[x]++B from rfl,List.count_append]at this
   omega
  have a1:=Fo.blks (a:=a) (c:=c) (h:=h) (f:=f) (lv:=lv+1) (λ s z x k hi L B w2 w3 w4=>by
   obtain⟨m,B5,v1,v2,v3,v4,v5,rfl⟩:=w2
   exact ih f (lv+1) s z x m k hi L B5 v1 v2 v5 (by omega) (by omega) w3 w4) (s++[x]) (x::z) A (λ y=>by have:=T y;omega) (λ q hq hm=>by
   rcases List.mem_cons.1 hm with e|e
   .have h1:=T q
    have h2:=List.count_pos_iff.2 hq
    have h3:0 < [x].count q:=List.count_pos_iff.2 (by simp[e])
    omega
   .exact u q (zp0 _ hq) e)
  have e0:downF zn9 a (f+1) lv s z x=goF zn9.en (downF zn9 a f (lv+1)) n.kd (s++[x]) (x::z):=by
   rw[downF,if_neg (u x (by simp)),I]
   rfl
  rw[e0]
  obtain⟨t1,t2,t3⟩:=a1
  refine⟨t1,by rw[t2,zv0];rfl,λ y K=>?_⟩
  rcases t3 y K with e|e
  .rcases List.mem_cons.1 e with e|e
   .exact .inr (by simp[e])
   .exact .inl e
  .exact .inr (zp0 _ e)
def zvm9{a:AS}{c u:Nat}{x:Int}{L:List E2}{B:List Int}(Q:1<=c)(h:Tr a.V c u x L B)(T:∀y,B.count y<=1):(fromF zn9 a [] x).e=0/\(fromF zn9 a [] x).s=B:=by
 unfold fromF
 cases u with
 | zero=>obtain⟨rfl,rfl,rfl⟩:=h;rw[if_pos rfl];exact⟨rfl,rfl⟩
 | succ O=>
  obtain⟨a0,E,n,A,H,I,a3,a4,K,rfl⟩:=h
  rw[if_neg E]
  obtain⟨Y,t2,t3⟩:=zoy9 Q O 16 1 [] [] x n eS none L A H I K (by omega) (by omega) T (λ y _ h=>by cases h)
  exact⟨Y,by rw[t2];rfl⟩
def zpz9{a:AS}{c:Nat}(hc:1<=c):∀(h f lv s:Nat)(z:List Int)(x:Int)(n:Nd)(lo:ByteArray)(hi:Option ByteArray)(L:List E2) (B:List Int),
 a.V x=(0,n)->Bm n->1<=n.ks.length->Nod a.V c h n lo hi L B->h<f->lv+h<=16->(∀y,(x::B).count y<=1)->(∀y∈x::B,y∉z)->
 (downF zad9 a f lv s z x).e=0/\(downF zad9 a f lv s z x).s=s+(h+1):=by
 intro h
 induction h with
 | zero=>
  intro f lv s z x n lo hi L B Q T Y O hf a7 a6 E
  obtain⟨f,rfl⟩:∃g,f=g+1:=⟨f-1,by omega⟩
  obtain⟨I,a2,rfl,rfl⟩:=O
  have a0:look a x lv=(0,n):=by unfold look;rw[if_neg (by omega)];exact Q
  unfold downF
  rw[if_neg (E x (by simp)),a0]
  simp[zad9,(T.lf I).2.1,goF]
 | succ h ih=>
  intro f lv s z x n lo hi L B Q T Y O hf a7 a6 E
  obtain⟨f,rfl⟩:∃g,f=g+1:=⟨f-1,by omega⟩
  have a0:look a x lv=(0,n):=by unfold look;rw[if_neg (by omega)];exact Q
  obtain⟨I,a2,A⟩:=O
  have A:=A
  have a4:=(T.inn I).1
  obtain⟨k,K,a5⟩:∃k K,n.ks=k::K:=by
   cases e3:n.ks with
   | nil=>rw[e3]at Y;simp at Y
   | cons k K=>exact⟨k,K,rfl⟩
  obtain⟨y,D,a3⟩:∃y D,n.kd=y::D:=by
   cases e3:n.kd with
   | nil=>rw[e3,a5]at a4;simp at a4
   | cons k K=>exact⟨k,K,rfl⟩
  rw[a5,a3]at A
  obtain⟨L1,L2,B1,H,⟨m,u,v1,v2,v3,v4,v5,rfl⟩,_,rfl,rfl⟩:=A
  have a1:∀q,[x].count q+(y::u).count q+H.count q<=1:=λ q=>by
   have:=a6 q
   rw[show x::((y::u)++H)=[x]++((y::u)++H)from rfl,List.count_append,List.count_append]at this
   omega
  obtain⟨t1,t2⟩:=ih f (lv+1) (s+1) (x::z) y m k (nxt K hi) L1 u v1 v2 (by omega) v5 (by omega) (by omega) (λ q=>by have:=a1 q;omega) (λ q hq hm=>by
   rcases List.mem_cons.1 hm with e|e
   .have h1:=a1 q
    have h2:=List.count_pos_iff.2 hq
    have h3:0 < [x].count q:=List.count_pos_iff.2 (by simp[e])
    omega
   .exact E q (zp0 _ (zg1 _ hq)) e)
  have e0:downF zad9 a (f+1) lv s z x=goF zad9.en (downF zad9 a f (lv+1)) [y] (s+1) (x::z):=by
   rw[downF,if_neg (E x (by simp)),a0]
   show(if (0:Int)≠0 then _ else goF zad9.en _ (n.kd.take 1) (s+1) (x::z))=_
   rw[if_neg (by decide),a3];rfl
  rw[e0]
  unfold goF
  rw[if_neg (by simp[zad9]),if_neg (by rw[t1];decide)]
  exact⟨rfl,by show(downF zad9 a f (lv+1) (s+1) (x::z) y).s=_;rw[t2];omega⟩
def zxh9{a:AS}{c u:Nat}{x:Int}{L:List E2}{B:List Int}(T:1<=c)(h:Tr a.V c u x L B)(Y:∀y,B.count y<=1):(fromF zad9 a 0 x).e=0/\(fromF zad9 a 0 x).s=u:=by
 unfold fromF
 cases u with
 | zero=>obtain⟨rfl,rfl,rfl⟩:=h;rw[if_pos rfl];exact⟨rfl,rfl⟩
 | succ Q=>
  obtain⟨a0,E,n,A,H,I,K,a4,O,rfl⟩:=h
  rw[if_neg E]
  obtain⟨t1,t2⟩:=zpz9 T Q 16 1 0 [] x n eS none L A H I K O (by omega) (by omega) Y (λ y _ h=>by cases h)
  exact⟨t1,by rw[t2];omega⟩
def Tr.none_iff{V:Int->Int×Nd}{c A:Nat}{x:Int}{L:List E2}{B:List Int}(hc:1<=c)(h:Tr V c A x L B):(x=0↔L=[]):=by
 cases A with
 | zero=>exact⟨λ _=>h.2.1,λ _=>h.1⟩
 | succ k=>
  obtain⟨Q,E,n,O,T,H,I,Y,K,rfl⟩:=h
  have u:=K.cnt H
  refine⟨λ e=>absurd e E,λ e=>?_⟩
  rw[e]at u
  have:0<c ^ k:=Nat.pow_pos (by omega)
  have:=Nat.mul_pos this I
  simp at u
  omega
def go_A{a:AS}{x:Int}(u:Ah.stv a.A x=1):(∀y,Ah.stv (a.go x).A y=if y=x then 0 else Ah.stv a.A y)/\(a.go x).A.L.count 0=a.A.L.count 0+1/\(a.go x).A.lo=a.A.lo/\(a.go x).A.L.length=a.A.L.length/\(a.go x).A.as=a.A.as:=by
 have hr:=zbn9 (s:=a.A) (x:=x) (by rw[u];decide)
 have E:Ah.back x a.A=(true,Ah.put a.A (x-a.A.lo).toNat 0):=by unfold Ah.back;rw[if_neg (by omega)]
 have I:∀m,Ah.stv (Ah.put a.A (x-a.A.lo).toNat 0) m=if m=x then 0 else Ah.stv a.A m:=λ m=>by
  rw[Ah.stv_put (by omega),show((a.A.lo+(x-a.A.lo).toNat:Nat):Int)=x by omega]
 unfold AS.go
 rw[E]
 refine⟨I,?_,rfl,by simp[Ah.put],rfl⟩
 have:=Ah.cnt_set a.A.L (x-a.A.lo).toNat (by omega) 0 0
 have H:Ah.G a.A.L (x-a.A.lo).toNat=1:=by
  unfold Ah.stv at u
  rw[if_pos hr]at u
  exact u
 rw[H]at this
 show(a.A.L.set (x-a.A.lo).toNat 0).count 0=_
 rw[if_neg (by decide),if_pos rfl]at this
 omega
def gos_A:∀(l:List Int)(a:AS),l.Nodup->(∀y∈l,Ah.stv a.A y=1)->(∀y,Ah.stv (a.gos l).A y=if y∈l then 0 else Ah.stv a.A y)/\(a.gos l).A.L.count 0=a.A.L.count 0+l.length/\(a.gos l).A.lo=a.A.lo/\(a.gos l).A.L.length=a.A.L.length/\(a.gos l).A.as=a.A.as
 | [],a,_,_=>⟨λ y=>by simp[zgh9],by simp[zgh9],rfl,rfl,rfl⟩
 | x::l,a,hn,hs=>by
  obtain⟨n1,T⟩:=List.nodup_cons.1 hn
  obtain⟨E,I,K,O,Q⟩:=go_A (hs x zo0)
  obtain⟨Y,t2,t3,t4,t5⟩:=gos_A l (a.go x) T (λ y H=>by
   rw[E,if_neg (fun(e:y=x)=>n1 (e▸H))]
   exact hs y (zp0 _ H))
  rw[zhg9]
  refine⟨λ y=>?_,by rw[t2,I,zk0];omega,t3.trans K,t4.trans O,t5.trans Q⟩
  rw[Y,E]
  by_cases e:y∈l
  .simp[e]
  .by_cases u:y=x
   .simp[e,u]
   .simp[e,u]
def gos_FP:∀(l:List Int)(a:AS)(x:Int),(a.gos l).F x=(if x∈l then false else a.F x)
 | [],a,x=>by simp[zgh9]
 | y::l,a,x=>by
  rw[zhg9,gos_FP l]
  by_cases h:x∈l
  .simp[h]
  .by_cases e:x=y
   .subst e;simp[AS.go,updI]
   .simp[h,e,AS.go,updI]
structure Amp(a:AS):Prop where
 ao:Ao a
 lo:1<=a.A.lo
 sa:a.A.as=0
