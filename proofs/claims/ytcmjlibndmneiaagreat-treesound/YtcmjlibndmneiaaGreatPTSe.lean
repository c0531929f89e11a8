import Derived.Test.YtcmjlibndmneiaaGreatPTPl
set_option maxRecDepth 100000
set_option linter.all false
set_option maxHeartbeats 8000000
namespace Go.Proofs.YtcmjlibndmneiaaGreat
open Go.RowKit
def BelOk(d:CD)(op:List E2->List E2)(c h:Nat)(a:AS)(ch:CH)(n:Nd)(lv:Nat)(lo:ByteArray)(hi:Option ByteArray)(L:List E2)(B:List Int)(r:BR):Prop:=
 ∃T X:List Int,Ev a r.a T/\r.c.tk=ch.tk++T/\T.length<=2*h/\
  (r.e=10/\r.a.A.L.count 0=0\/
   r.e=0/\(r.c.gn=ch.gn++X.filter a.F/\∀y∈X,y∈B)/\r.c.lv=lv+h/\(∃B':List Int,(∀y,B'.count y+X.count y=B.count y+T.count y)/\Pts r.a.V c h r.ps lo hi (op L) B'/\Wk d.jn h a.V r.a.V n r.ps)/\
   (d.jn=false->r.ps≠[]/\∀p,r.ps=[p]->n.ks.length<=p.ks.length)/\(d.jn=true->r.ps.length<=1/\T.length+1<=X.length))
def zga9(a:AS)(u:CH)(x:Int):(leaveF a u x).gn=u.gn++[x].filter a.F/\(leaveF a u x).tk=u.tk/\(leaveF a u x).lv=u.lv:=by
 unfold leaveF;split
 .rename_i h;simp[h]
 .rename_i h;simp[h]
section
variable {d:CD} {op:List E2->List E2} {c:Nat}
def up_fin{h:Nat}{a b:AS}{H:CH}{n:Nd}{lv:Nat}{lo:ByteArray}{hi:Option ByteArray}{L:List E2}{B u A X:List Int}{B':List Int}
 (a1:Ev a b u) {r:NR} (a2:Ev b r.a A) (a5:r.c.tk=H.tk++(u++A)) (a6:u.length<=2*h) (a7:A.length<=2) (a3:r.c.gn=H.gn++X.filter a.F/\∀y∈X,y∈B) (a4:r.c.lv=lv+(h+1))
 (a0:Bm r.n) (hs:sz r.n<=292) (hB:∀y,B'.count y+X.count y=B.count y+(u++A).count y) (Y:Nod r.a.V c (h+1) r.n lo hi (op L) B')
 (hf:d.jn=false->1<=r.n.ks.length/\n.ks.length<=r.n.ks.length) (hA:∀k,k<h->nw r.a.V (k+1) r.n<=nw a.V (k+1) n\/d.jn=false/\nw r.a.V (k+1) r.n=nw a.V (k+1) n+1/\nw a.V (k+1) n+8<=nw r.a.V (k+2) r.n) (ht:d.jn=true->sz r.n<=240/\u.length+A.length+1<=X.length):
 BelOk d op c (h+1) a H n lv lo hi L B ⟨0,piecesF r.n,r.a,r.c⟩:=by
 obtain⟨p1,T⟩:=zdy9 Y a0 hs;refine⟨u++A,X,a1.trans a2,a5,by rw[zf0];omega,.inr ⟨rfl,a3,a4,⟨B',hB,p1,wk_up a0 hs Y.1 (λ E=>by
  have q:=(ht E).1;rcases T with⟨_,e⟩|⟨e,_⟩|⟨_,e⟩
  .rw[e];simp
  .rw[e];simp
  .omega) hA⟩,λ E=>?_,λ E=>?_⟩⟩
 .obtain⟨I,K⟩:=hf E;rcases T with⟨e,_⟩|⟨e,_⟩|⟨e,_⟩
  .rw[e]at I;simp at I
  .show piecesF r.n≠[]/\∀p,piecesF r.n=[p]->_;rw[e];exact⟨by simp,λ p Q=>by cases Q;exact K⟩
  .refine⟨λ h0=>?_,λ p Q=>?_⟩
   .have O:piecesF r.n=[]:=h0;rw[O]at e;simp at e
   .have O:piecesF r.n=[p]:=Q;rw[O]at e;simp at e
 .obtain⟨I,K⟩:=ht E;refine⟨?_,by rw[zf0];exact K⟩;rcases T with⟨_,e⟩|⟨e,_⟩|⟨_,e⟩
  .show(piecesF r.n).length<=1;rw[e];simp
  .show(piecesF r.n).length<=1;rw[e];simp
  .omega
def ztr9(hd:LfOk d op)(bp:1<=c)(dk:c<=2)(bq:d.jn=true->c=1):∀(h f:Nat)(a:AS)(ch:CH)(x:Int)(lv:Nat)(n:Nd)(lo a5:ByteArray) (hi:Option ByteArray) (L:List E2) (B:List Int),
 a.V x=(0,n)->Bm n->1<=n.ks.length->sz n<=240->Nod a.V c h n lo hi L B->h<f->lv+h<=16->Ke a5 lo->Ke a5 d.key->Lh d.key hi->
 (∀y,(x::B).count y<=1)->(∀y∈x::B,Ah.stv a.A y=1)->Ao a->(d.jn=true->∃e∈L,e.1=d.key)->
 BelOk d op c h a ch n lv a5 hi L (x::B) (belowF d f a ch x lv):=by
 intro h;induction h with
 | zero=>
  intro f a ch x lv n lo a5 hi L B hV hb hl hs hN hf d6 af hk aq c3 au bb br;obtain⟨f,rfl⟩:∃g,f=g+1:=⟨f-1,by omega⟩
  obtain⟨a1,a2,rfl,rfl⟩:=hN;have bg:look a x lv=(0,n):=by unfold look;rw[if_neg (by omega)];exact hV
  obtain⟨m1,m2,m3,m4,m5,m6,m7⟩:=hd.lf n a5 hi a1 hb hs (a2.mono af (Hle.refl _)) hk aq;have e0:belowF d (f+1) a ch x lv=⟨0,piecesF (d.lf n),a,{ leaveF a ch x with lv:=lv }⟩:=by rw[belowF,bg];simp[a1]
  rw[e0];obtain⟨g1,g2,g3⟩:=zga9 a ch x;have d0:Nod a.V c 0 (d.lf n) a5 hi (op (n.ks.zip n.vs)) []:=⟨m1,m4,m5.symm,rfl⟩
  obtain⟨p1,p2⟩:=zdy9 d0 m2 (by omega);refine⟨[],[x],Ev.refl a,by simp[g2],by simp,.inr ⟨rfl,⟨g1,λ y u=>u⟩,by simp,⟨[],λ y=>by simp,p1,λ i hi=>by omega⟩,λ H=>?_,λ H=>?_⟩⟩
  .obtain⟨f1,f2⟩:=m6 H;rcases p2 with⟨e,_⟩|⟨e,_⟩|⟨e,_⟩
   .rw[e]at f2;simp at f2
   .show piecesF (d.lf n)≠[]/\∀p,piecesF (d.lf n)=[p]->_;rw[e];exact⟨by simp,λ p hp=>by cases hp;exact f1⟩
   .refine⟨λ h0=>?_,λ p hp=>?_⟩
    .have b9:piecesF (d.lf n)=[]:=h0;rw[b9]at e;simp at e
    .have b9:piecesF (d.lf n)=[p]:=hp;rw[b9]at e;simp at e
  .have:=m7 H;refine⟨?_,by simp⟩;rcases p2 with⟨_,e⟩|⟨e,_⟩|⟨_,e⟩
   .show(piecesF (d.lf n)).length<=1;rw[e];simp
   .show(piecesF (d.lf n)).length<=1;rw[e];simp
   .omega
 | succ h ih=>
  intro f a ch x lv n lo a5 hi L B hV hb hl hs hN hf d6 af hk aq c3 au bb br;obtain⟨f,rfl⟩:∃g,f=g+1:=⟨f-1,by omega⟩
  have d1:=hN;obtain⟨a1,a2,a3⟩:=hN;have bg:look a x lv=(0,n):=by unfold look;rw[if_neg (by omega)];exact hV
  obtain⟨q1,q2,q3⟩:=hb.inn a1;obtain⟨cf,cg,ax⟩:=zgi9 a1 d.key n.ks.length;have ax:=ax hl;obtain⟨at_,bc⟩:=exN (plc n d.key n.ks.length);rw[bc]at cf cg ax;obtain⟨K1,K2,a0,ai⟩:=cut_at eS n.ks ax;obtain⟨D1,D2,aa,bj⟩:=cut_at (0:Int) n.kd (i:=at_) (by omega);obtain⟨k,bw⟩:=exN (n.ks.getD at_ eS);obtain⟨I,hx1⟩:=exN (n.kd.getD at_ 0);rw[bw]at a0;rw[hx1]at aa;have c2:kA n at_=k:=bw;have d4:dA n at_=I:=hx1;rw[a0,aa]at a3;obtain⟨LA,L2,BA,B2,fA,⟨Lk,LC,Bk,BC,sK,fC,rfl,rfl⟩,rfl,rfl⟩:=(Fo.app (by omega)).1 a3;have fA:Fo (Sub a.V c h) K1 D1 (some k) LA BA:=fA;have fC:Fo (Sub a.V c h) K2 D2 hi LC BC:=fC;obtain⟨m,a4,v1,v2,v3,v4,v5,rfl⟩:=sK;have c4:=hb.up;rw[a0]at c4
  obtain⟨uA,uX,bk⟩:=List.pairwise_append.1 c4;obtain⟨uk,uC⟩:=List.pairwise_cons.1 uX;have c7:Lh d.key (nxt K2 hi):=by
   cases K2 with
   | nil=>exact aq
   | cons O K=>intro b bd;cases bd;have:=cf (at_+1) (by omega) (by rw[a0];simp;omega);unfold kA at this;rw[a0,zn3,zn0 (by omega),show at_+1-K1.length=1 by omega]at this;exact this
  have bx:K1=[]\/Ke k d.key:=by
   rcases cg with e|e
   .left;exact zh0 (by omega)
   .right;rw[<-c2];exact e
  obtain⟨O,a9⟩:∃q,minS k d.key=q:=⟨_,rfl⟩
  have c9:Ke O k:=by rw[<-a9];exact zvh9 _ _
  have ca:Ke O d.key:=by rw[<-a9];exact zvi9 _ _
  have cd:K1=[]\/O=k:=bx.imp id (λ e=>by rw[<-a9];exact ztb9 e);have ce:O.size<=24:=by
   rw[<-a9];unfold minS;split
   .exact hd.key
   .exact hb.ks k (by rw[a0];simp)
  have d9:Ke a5 O:=by
   have h1:Ke a5 k:=af.trans (a2 k (by rw[a0];simp)).1;rw[<-a9];unfold minS;split
   .exact hk
   .exact h1
  have c6:∀e∈LA,Kl e.1 d.key:=λ e he=>by
   rcases bx with Y|Y
   .subst Y;have hD:D1=[]:=zh0 (by have:([]:List ByteArray).length=0:=rfl;omega);subst hD;obtain⟨rfl,rfl⟩:=fA;cases he
   .have:=(fA.facts (λ x k hi L B s=>Sub.facts s) uA (λ q Q b bd=>by cases bd;exact bk q Q k (by simp))).1 e he;exact(this.2 k rfl).trans_le Y
  have key3:∀e∈LC,Kl d.key e.1:=λ e he=>by obtain⟨⟨q,K,Y,e2⟩,_⟩:=(fC.facts (λ x k hi L B s=>Sub.facts s) uC (λ q Q=>(a2 q (by rw[a0];simp[Q])).2)).1 e he;exact(c7 q (by rw[Y];rfl)).trans_le e2
  have bh:op (LA++(Lk++LC))=LA++(op Lk++LC):=hd.loc LA Lk LC c6 key3;have bs:d.jn=true->∃e∈Lk,e.1=d.key:=λ H=>by
   obtain⟨e,he,Y⟩:=br H;rcases zi0.1 he with q|q
   .have:=c6 e q;rw[Y]at this;exact this.irr.elim
   .rcases zi0.1 q with q|q
    .exact⟨e,q,Y⟩
    .have:=key3 e q;rw[Y]at this;exact this.irr.elim
  have d5:d.jn=true->O=k:=λ H=>by obtain⟨e,he,Y⟩:=bs H;have:=((v5.facts v2).1 e he).1;rw[Y]at this;rw[<-a9];exact ztb9 this
  have d8:n.ks.set at_ (minS (kA n at_) d.key)=K1++O::K2:=by rw[c2,a9,a0,List.set_append_right _ _ (by omega),show at_-K1.length=0 by omega];rfl
  obtain⟨E,ag⟩:∃q:Nd,({ n with ks:=n.ks.set at_ (minS (kA n at_) d.key) }:Nd)=q:=⟨_,rfl⟩
  have ab:E.lf=false:=by rw[<-ag];exact a1
  have a8:E.ks=K1++O::K2:=by rw[<-ag];exact d8
  have a7:E.kd=D1++I::D2:=by rw[<-ag];exact aa
  have de:E.vs=[]:=by rw[<-ag];exact q2
  have da:E.ks.length=n.ks.length:=by rw[a8,a0];simp
  have bz:∀q∈K2,Kl O q:=λ q Q=>c9.trans_lt (uk q Q);have aw:Bm E:={
   ks:=λ q Q=>by
    rw[a8]at Q;rcases zi0.1 Q with e|e
    .exact hb.ks q (by rw[a0];simp[e])
    .rcases List.mem_cons.1 e with e|e
     .rw[e];exact ce
     .exact hb.ks q (by rw[a0];simp[e])
   up:=by
    rw[a8];refine List.pairwise_append.2 ⟨uA,List.pairwise_cons.2 ⟨bz,uC⟩,λ p hp q Q=>?_⟩;rcases List.mem_cons.1 Q with e|e
    .rcases cd with e3|e3
     .rw[e3]at hp;cases hp
     .rw[e,e3];exact bk p hp k (by simp)
    .exact bk p hp q (by simp[e])
   ne:=λ e=>by rw[ab]at e;cases e
   lf:=λ e=>by rw[ab]at e;cases e
   inn:=λ _=>⟨by rw[da,<-q1,a7,aa],de,λ y u=>q3 y (by rw[aa,<-a7];exact u)⟩ }
  have dc:sz E+k.size=sz n+O.size:=by rw[zbh9 ab (aw.inn ab).1,zbh9 a1 q1,a8,a0];simp only[zao9,zaj9,zf0,zk0];omega
  have db:Rg a5 hi E.ks:=λ q Q=>by
   rw[a8]at Q;rcases zi0.1 Q with e|e
   .have:=a2 q (by rw[a0];simp[e]);exact⟨af.trans this.1,this.2⟩
   .rcases List.mem_cons.1 e with e|e
    .rw[e];exact⟨d9,aq.le ca⟩
    .have:=a2 q (by rw[a0];simp[e]);exact⟨af.trans this.1,this.2⟩
  obtain⟨g1,g2,g3⟩:=zga9 a ch x;have b3:∀y,(x::(BA++((I::a4)++BC))).count y=[x].count y+BA.count y+(I::a4).count y+BC.count y:=λ y=>by rw[show x::(BA++((I::a4)++BC))=[x]++(BA++((I::a4)++BC))from rfl];simp only[List.count_append];omega
  have hK:=ih f a (leaveF a ch x) I (lv+1) m k O (nxt K2 hi) Lk a4 v1 v2 (by omega) v4 v5 (by omega) (by omega) c9 ca c7
   (λ y=>by have:=c3 y;rw[b3]at this;omega) (λ y u=>au y (by simp only[List.mem_cons,zi0];simp only[List.mem_cons]at u;rcases u with e|e<;>simp[e])) bb bs
  obtain⟨r,hr⟩:=exN (belowF d f a (leaveF a ch x) I (lv+1));rw[hr]at hK;have e0:belowF d (f+1) a ch x lv=upF d n lv r:=by rw[belowF,bg];simp only[a1,bc];simp[d4,hr]
  rw[e0];obtain⟨T,X,ev,b5,cn,hR⟩:=hK;rcases hR with⟨e,c0⟩|⟨e,⟨cl,co⟩,cm,⟨am,ba,hP,bo⟩,bt,bu⟩
  .have Y:upF d n lv r=⟨r.e,[],r.a,r.c⟩:=by unfold upF;rw[if_pos (by rw[e];decide)]
   rw[Y];exact⟨T,[],ev,by rw[b5,g2],by omega,.inl ⟨e,c0⟩⟩
  have dT:∀y∈x::(BA++((I::a4)++BC)),y∉T:=λ y u ht=>by have:=ev.fr y ht;have:=au y u;omega
  have ck:=ev.ao bb;have bi:∀y∈BA++(am++BC),Ah.stv r.a.A y=1:=λ y u=>by
   by_cases ht:y∈T
   .exact ev.tk y ht
   .rw[ev.st y ht];refine au y ?_;have h1:0<(BA++(am++BC)).count y:=List.count_pos_iff.2 u;have h2:T.count y=0:=List.count_eq_zero.2 ht;have h3:=ba y;refine List.count_pos_iff.1 ?_;rw[b3];simp only[List.count_append]at h1;omega
  have vR:∀y∈x::(BA++((I::a4)++BC)),r.a.V y=a.V y:=λ y u=>ev.v y (dT y u);have b6:Fo (Sub r.a.V c h) K1 D1 (some O) LA BA:=by
   have:=fA.congr (P':=Sub r.a.V c h) (λ x k hi L B1 p q=>p.congr (λ y u=>vR y (by simp[q y u])));rcases cd with e3|e3
   .subst e3;have hD:D1=[]:=zh0 (by have:([]:List ByteArray).length=0:=rfl;omega);subst hD;exact this
   .rw[e3];exact this
  have ap:Fo (Sub r.a.V c h) K2 D2 hi LC BC:=fC.congr (λ x k hi L B1 p q=>p.congr (λ y u=>vR y (by simp[q y u])));have d3:∀p∈r.ps,c<=p.ks.length:=λ p hp=>by
   cases H:d.jn with
   | true=>rw[bq H];exact(hP.ks.2 p hp).2.1
   | false=>
    obtain⟨j1,j2⟩:=bt H;clear ba;generalize op Lk=OL at hP;generalize hps:r.ps=ps at hP hp j2;cases hP with
    | zero=>cases hp
    | one b1 l1 s1 w1=>rw[List.mem_singleton.1 hp];have:=j2 _ rfl;omega
    | two b1 l1 s1 b2 l2 s2 w1 w2=>
     rcases List.mem_cons.1 hp with e|e
     .rw[e];omega
     .rw[List.mem_singleton.1 e];omega
  have b7:∀{KA KW KC:List ByteArray} {DA DW DC:List Int} {ay b0 az:List E2} {ak an al:List Int} {kx:ByteArray} (cc:CH) (ps:List Nd) (X':List Int) (i j:Nat),
   E.ks=KA++(kx::KW++KC)->E.kd=DA++(DW++DC)->KA.length=DA.length->DW.length=KW.length+1->Fo (Sub r.a.V c h) KA DA (some kx) ay ak->Fo (Sub r.a.V c h) KC DC hi az al->Pts r.a.V c h ps kx (nxt KC hi) b0 an->
   (∀p∈ps,c<=p.ks.length)->(∀y∈ak++(an++al),Ah.stv r.a.A y=1)->i=KA.length->j=KA.length+KW.length+1->cc.tk=r.c.tk->cc.lv=r.c.lv->cc.gn=ch.gn++(x::X').filter a.F/\(∀y∈x::X',y∈x::(BA++((I::a4)++BC)))->
   ay++(b0++az)=op (LA++(Lk++LC))->(∀y,ak.count y+an.count y+al.count y+(x::X').count y=(x::(BA++((I::a4)++BC))).count y+T.count y)->(d.jn=false->KW.length+1<=ps.length)->(d.jn=true->ps.length<=1/\T.length+1<=X'.length)->(∀k,k<h->wsum r.a.V k ps<=xsum r.a.V k DW\/d.jn=false/\wsum r.a.V k ps=xsum r.a.V k DW+1/\xsum r.a.V k DW+8<=wsum r.a.V (k+1) ps)->
   BelOk d op c (h+1) a ch n lv a5 hi (LA++(Lk++LC)) (x::(BA++((I::a4)++BC)))
   (if (replaceF r.a cc E i j ps).e≠0 then⟨(replaceF r.a cc E i j ps).e,[],(replaceF r.a cc E i j ps).a,(replaceF r.a cc E i j ps).c⟩else⟨0,piecesF (replaceF r.a cc E i j ps).n,(replaceF r.a cc E i j ps).a,(replaceF r.a cc E i j ps).c⟩):=by
   intro KA KW KC DA DW DC ay b0 az ak an al kx cc ps X' i j h1 h2 h3 h4 h5 h6 h7 h8 h9 cq cr bn cs ct cu cv cw cx cy;obtain⟨T2,w1,w2,w3,w4⟩:=window cc ab aw h1 h2 h3 h4 h5 h6 h7 h8 db ck h9 cq cr;have dn:=h7.ks.1;rcases w4 with⟨Y,e2,e3⟩|⟨Y,wb,ws,df,wl,wt,wk,B',cz,wN⟩
   .rw[if_pos (by rw[Y];decide)];exact⟨T++T2,[],ev.trans w1,by show(replaceF r.a cc E i j ps).c.tk=_;rw[w2];show cc.tk++T2=_;rw[bn,b5,g2,zw0],by rw[zf0];omega,.inl ⟨Y,e2⟩⟩
   .rw[if_neg (by rw[Y];decide)];refine up_fin (X:=x::X') (B':=B') ev w1 (by rw[w2];show cc.tk++T2=_;rw[bn,b5,g2,zw0]) cn (by omega) (by rw[w2];exact ct) (by rw[w2];show cc.lv=_;rw[cs,cm];omega) wb (by have:O.size<=24:=ce;omega) (λ y=>?_) (by rw[<-cu];exact wN) (λ H=>?_) (λ k hk=>?_) (λ H=>?_)
    .have q1:=cz y;have q2:=cv y;rw[List.count_append];omega
    .have:=cw H;omega
    .have Y:=wk k (by omega);have e2:nw a.V (k+1) n=xsum r.a.V k DA+xsum r.a.V k DW+xsum r.a.V k DC:=by rw[<-d1.wcongr (V':=r.a.V) (by omega) (λ y u=>vR y (zq0 _ u)),zcf9,aa,<-a7,h2,zcw9,zcw9];omega
     rcases cy k hk with q|⟨q0,q1,q2⟩
     .left;omega
     .right;have e3:nw (replaceF r.a cc E i j ps).a.V (k+2) (replaceF r.a cc E i j ps).n=_:=wk (k+1) (by omega);have m1:=Fo.xmono (λ q b l=>Nod.wmono bp hk q b (by omega)) h5;have m2:=Fo.xmono (λ q b l=>Nod.wmono bp hk q b (by omega)) h6;exact⟨q0,by omega,by omega⟩
    .obtain⟨q1,q2⟩:=cx H;have h3:=d5 H;rw[h3]at dc;have:=df q1;refine⟨by omega,?_⟩;rw[zk0];omega
  have bl:∀y∈x::X,y∈x::(BA++((I::a4)++BC)):=λ y u=>by
   rcases List.mem_cons.1 u with e|e
   .simp[e]
   .have:=co y e;simp only[List.mem_cons,zi0]at this |-
    exact .inr (.inr (.inl this))
  have b8:r.c.gn=ch.gn++(x::X).filter a.F:=by rw[cl,g1,zw0];congr 1;simp only[List.filter_cons,List.filter_nil];split<;>simp
  have b4:∀y,BA.count y+am.count y+BC.count y+(x::X).count y=(x::(BA++((I::a4)++BC))).count y+T.count y:=λ y=>by have h2:=ba y;rw[b3,show x::X=[x]++X from rfl,List.count_append];omega
  have ci:∀k,k<=h->xsum r.a.V k [I]=nw a.V k m:=λ k hk=>by rw[zt9,vR I (by simp),v1,show(((0:Int),m):Int×Nd).2=m from rfl,v5.wcongr hk (λ y u=>vR y (by simp[u]))];rfl
  have aj:=b7 (KA:=K1) (KW:=[]) (KC:=K2) (DA:=D1) (DW:=[I]) (DC:=D2) r.c r.ps X at_ (at_+1) (by rw[a8];rfl) (by rw[a7];rfl) (by omega) rfl b6 ap hP d3 bi (by omega) (by simp;omega) rfl rfl ⟨b8,bl⟩ bh.symm b4
   (λ H=>by
    cases hp:r.ps with
    | nil=>exact absurd hp (bt H).1
    | cons=>simp) bu (λ k hk=>by rw[ci k (by omega)];exact bo k hk)
  unfold upF;rw[if_neg (by rw[e];decide)];simp only[bc,ag];by_cases be:d.jn=true/\r.ps.length=1/\W (szN (r.ps.getD 0 noneN) (r.ps.getD 0 noneN).ks.length)<120
  .rw[if_pos be];obtain⟨H,ar,dm⟩:=be;obtain⟨p,ah⟩:∃p,r.ps=[p]:=by
    cases Q:r.ps with
    | nil=>rw[Q]at ar;simp at ar
    | cons p l=>
     cases l with
     | nil=>exact⟨p,rfl⟩
     | cons=>rw[Q]at ar;simp at ar
   (have d7:r.ps.getD 0 noneN=p:=by rw[ah];rfl);simp only[d7];have dj:=bq H;have d2:Bm p/\1<=p.ks.length/\sz p<=240/\Nod r.a.V c h p O (nxt K2 hi) (op Lk) am:=by
    rw[ah]at hP;generalize op Lk=OL at hP;cases hP with
    | one b1 l1 s1 w1=>exact⟨b1,l1,s1,w1⟩
   obtain⟨pb,pl,dr,pn⟩:=d2;have dl:=bu H;have jw:∀k,k<h->nw r.a.V k p<=nw r.a.V k (r.a.V I).2:=λ k hk=>by
    have q1:=ci k (by omega);rw[zt9,show xsum r.a.V k []=0 from rfl,Nat.add_zero]at q1;rw[q1];rcases bo k hk with q|⟨q0,_⟩
    .rw[ah]at q;simpa[wsum]using q
    .rw[H]at q0;cases q0
   have c5:∀k (p o:Nd),wsum r.a.V k [joinN p o]<=nw r.a.V k p+nw r.a.V k o:=λ k p o=>by
    cases k with
    | zero=>simp[wsum,nw]
    | succ k=>simp only[wsum,List.map_cons,List.map_nil,List.sum_cons,List.sum_nil,zcf9,joinN,zcw9];omega
   (have av:∀{y:Int} {o:Nd},r.a.V y=(0,o)->look r.a y (lv+1)=(0,o):=λ hv=>by unfold look;rw[if_neg (by omega)];exact hv);have Fr:∀y∈x::(BA++((I::a4)++BC)),r.a.F y=a.F y:=λ y u=>ev.f y (dT y u);have right:BelOk d op c (h+1) a ch n lv a5 hi (LA++(Lk++LC)) (x::(BA++((I::a4)++BC)))
    (let J:=(match besF r.a r.c E at_ lv p ((at_:Int)+1)with|some q=>q|none=>⟨0,p,at_,at_+1,r.c⟩:JR)
    if J.e≠0 then⟨J.e,[],r.a,J.c⟩else if (replaceF r.a J.c E J.i J.j [J.n]).e≠0 then⟨(replaceF r.a J.c E J.i J.j [J.n]).e,[],(replaceF r.a J.c E J.i J.j [J.n]).a,(replaceF r.a J.c E J.i J.j [J.n]).c⟩else⟨0,piecesF (replaceF r.a J.c E J.i J.j [J.n]).n,(replaceF r.a J.c E J.i J.j [J.n]).a,(replaceF r.a J.c E J.i J.j [J.n]).c⟩):=by
    cases K2 with
    | nil=>(have a6:besF r.a r.c E at_ lv p ((at_:Int)+1)=none:=by unfold besF;rw[if_pos (.inr (by have:=(aw.inn ab).1;rw[a8]at this;simp at this;omega))]);rw[a6];rw[ah]at aj;simpa using aj
    | cons kc K3=>
     cases D2 with
     | nil=>exact ap.elim
     | cons xc D3=>
     obtain⟨Lc,LD,Bc,BD,sC,fD,rfl,rfl⟩:=ap;obtain⟨o,Bo,o1,o2,o3,o4,o5,rfl⟩:=sC;have ac:dA E ((at_:Int)+1).toNat=xc:=by unfold dA;rw[a7,show((at_:Int)+1).toNat=D1.length+1 by omega,zn3,zn0 (by omega)];simp
     (have ae:¬(((at_:Int)+1)<0\/(E.kd.length:Int)<=(at_:Int)+1):=by rw[a7];simp;omega);have bf:Ke O kc:=(bz kc (by simp)).le;obtain⟨j1,j2,j3⟩:=Nod.join (k:=kc) pn o5 pb o2 (by omega) bf;by_cases hm:mayN (joinN p o)=true
     .have a6:besF r.a r.c E at_ lv p ((at_:Int)+1)=some ⟨0,joinN p o,at_,at_+2,leaveF r.a r.c xc⟩:=by unfold besF;rw[if_neg ae,ac,av o1];simp only[ne_eq,not_true_eq_false,if_false];rw[if_neg (by omega),if_pos hm]
      rw[a6];simp only[ne_eq,not_true_eq_false,if_false];obtain⟨y1,y2⟩:=may_sz j2 (by have:=pb.many (by omega);have:=o2.many (by omega);simp only[joinN,zf0];omega) hm;obtain⟨z1,z2,z3⟩:=zga9 r.a r.c xc
      refine b7 (KA:=K1) (KW:=[kc]) (KC:=K3) (DA:=D1) (DW:=[I,xc]) (DC:=D3) (leaveF r.a r.c xc) [joinN p o] (X++[xc]) at_ (at_+2) (by rw[a8];rfl) (by rw[a7];rfl) (by omega) rfl b6 fD (Pts.one j2 y1 y2 j1) (λ q Q=>by rw[List.mem_singleton.1 Q];omega) ?_ (by omega) (by simp;omega) z2 z3 ?_ (by rw[bh];simp[zw0]) (λ y=>?_) (λ ad=>by rw[H]at ad;cases ad) (λ _=>⟨by simp,by simp;omega⟩) (λ k hk=>.inl (by have q1:=jw k hk;have q2:=c5 k p o;rw[zt9,zt9,o1,show xsum r.a.V k []=0 from rfl];show _<=_+(nw r.a.V k o+0);omega))
      .intro y u;refine bi y ?_;simp only[zi0,List.mem_cons]at u |-
       rcases u with e|(e|e)|e
       .exact .inl e
       .exact .inr (.inl e)
       .exact .inr (.inr (.inl (.inr e)))
       .exact .inr (.inr (.inr e))
      .refine⟨?_,λ y u=>(zi0.1 (show y∈(x::X)++[xc]from u)).elim (bl y) (λ e=>by rw[List.mem_singleton.1 e];simp)⟩;rw[z1,b8,zw0];congr 1;rw[show x::(X++[xc])=(x::X)++[xc]from rfl,List.filter_append];congr 1;exact List.filter_congr (λ y u=>by rw[List.mem_singleton.1 u];exact Fr xc (by simp))
      .have h1:=b4 y;rw[show x::(X++[xc])=(x::X)++[xc]from rfl];simp only[List.count_append,List.count_cons,List.count_nil]at h1 |-
       omega
     .have a6:besF r.a r.c E at_ lv p ((at_:Int)+1)=none:=by unfold besF;rw[if_neg ae,ac,av o1];simp only[ne_eq,not_true_eq_false,if_false];rw[if_neg (by omega),if_neg hm]
      rw[a6];rw[ah]at aj;simpa using aj
   rcases List.eq_nil_or_concat K1 with hK|⟨K0,ka,hK⟩
   .have a6:besF r.a r.c E at_ lv p ((at_:Int)-1)=none:=by unfold besF;rw[if_pos (.inl (by rw[hK]at ai;simp at ai;omega))]
    unfold joinedF;rw[a6];exact right
   .have hD:∃D0 xa,D1=D0++[xa]:=by
     rcases List.eq_nil_or_concat D1 with hD|⟨D0,xa,hD⟩
     .rw[hK]at ai;rw[hD]at bj;simp at ai bj;omega
     .exact⟨D0,xa,by rw[hD];simp⟩
    obtain⟨D0,xa,hD⟩:=hD;(have hK:K1=K0++[ka]:=by rw[hK];simp);(have l0:K0.length+1=at_:=by rw[<-ai,hK];simp);(have dq:D0.length+1=at_:=by rw[<-bj,hD];simp);have bm:=b6;rw[hK,hD]at bm;obtain⟨L0,La,B0,Ba,f0,fa,eL,eB⟩:=(Fo.app (by omega)).1 bm;have f0:Fo (Sub r.a.V c h) K0 D0 (some ka) L0 B0:=f0;obtain⟨cj,di,dg,dh,sa,⟨rfl,rfl⟩,rfl,rfl⟩:=fa;obtain⟨o,Bo,o1,o2,o3,o4,o5,rfl⟩:=sa;have o5:Nod r.a.V c h o ka (some O) cj Bo:=o5;rw[List.append_nil]at eL eB;have ac:dA E ((at_:Int)-1).toNat=xa:=by unfold dA;rw[a7,hD,show((at_:Int)-1).toNat=D0.length by omega,zw0];exact znc9 _ _ _ _
    (have ae:¬(((at_:Int)-1)<0\/(E.kd.length:Int)<=(at_:Int)-1):=by rw[a7];simp;omega);have bf:Ke ka O:=by have:=aw.up;rw[a8]at this;exact((List.pairwise_append.1 this).2.2 ka (by rw[hK];simp) O (by simp)).le
    obtain⟨j1,j2,j3⟩:=Nod.join (k:=O) o5 pn o2 pb pl bf;by_cases hm:mayN (joinN o p)=true
    .have a6:besF r.a r.c E at_ lv p ((at_:Int)-1)=some ⟨0,joinN o p,at_-1,at_-1+2,leaveF r.a r.c xa⟩:=by unfold besF;rw[if_neg ae,ac,av o1];simp only[ne_eq,not_true_eq_false,if_false];rw[if_pos (by omega),if_pos hm,show((at_:Int)-1).toNat=at_-1 by omega]
     unfold joinedF;rw[a6];simp only[ne_eq,not_true_eq_false,if_false];obtain⟨y1,y2⟩:=may_sz j2 (by have:=pb.many (by omega);have:=o2.many (by omega);simp only[joinN,zf0];omega) hm;obtain⟨z1,z2,z3⟩:=zga9 r.a r.c xa
     refine b7 (KA:=K0) (KW:=[O]) (KC:=K2) (DA:=D0) (DW:=[xa,I]) (DC:=D2) (leaveF r.a r.c xa) [joinN o p] (X++[xa]) (at_-1) (at_-1+2) (by rw[a8,hK];simp) (by rw[a7,hD];simp) (by omega) rfl f0 ap (Pts.one j2 y1 y2 j1) (λ q Q=>by rw[List.mem_singleton.1 Q];omega) ?_ (by omega) (by simp;omega) z2 z3 ?_ (by rw[bh,eL];simp[zw0]) (λ y=>?_) (λ ad=>by rw[H]at ad;cases ad) (λ _=>⟨by simp,by simp;omega⟩) (λ k hk=>.inl (by have q1:=jw k hk;have q2:=c5 k o p;rw[zt9,zt9,o1,show xsum r.a.V k []=0 from rfl];show _<=nw r.a.V k o+(_+0);omega))
     .intro y u;refine bi y ?_;rw[eB];simp only[zi0,List.mem_cons]at u |-
      rcases u with e|(e|e)|e
      .exact .inl (.inl e)
      .exact .inl (.inr (.inr e))
      .exact .inr (.inl e)
      .exact .inr (.inr e)
     .refine⟨?_,λ y u=>(zi0.1 (show y∈(x::X)++[xa]from u)).elim (bl y) (λ e=>by rw[List.mem_singleton.1 e,eB];simp)⟩;rw[z1,b8,zw0];congr 1;rw[show x::(X++[xa])=(x::X)++[xa]from rfl,List.filter_append];congr 1;exact List.filter_congr (λ y u=>by rw[List.mem_singleton.1 u];exact Fr xa (by rw[eB];simp))
     .have h1:=b4 y;rw[show x::(X++[xa])=(x::X)++[xa]from rfl];rw[eB]at h1 |-
      simp only[List.count_append,List.count_cons,List.count_nil]at h1 |-
      omega
    .have a6:besF r.a r.c E at_ lv p ((at_:Int)-1)=none:=by unfold besF;rw[if_neg ae,ac,av o1];simp only[ne_eq,not_true_eq_false,if_false];rw[if_pos (by omega),if_neg hm]
     unfold joinedF;rw[a6];exact right
  .rw[if_neg be];rw[if_neg (by simp)];exact aj
end
def Tr(V:Int->Int×Nd)(c:Nat):Nat->Int->List E2->List Int->Prop
 | 0,x,L,B=>x=0/\L=[]/\B=[]
 | h+1,x,L,B=>h<=15/\x≠0/\∃n B1,V x=(0,n)/\Bm n/\1<=n.ks.length/\sz n<=240/\Nod V c h n eS none L B1/\B=x::B1
def Tr.congr{V V':Int->Int×Nd}{c u:Nat}{x:Int}{L:List E2}{B:List Int}(h:Tr V c u x L B)(e:∀y∈B,V' y=V y):Tr V' c u x L B:=by
 cases u with
 | zero=>exact h
 | succ k=>obtain⟨E,H,n,A,I,K,O,Q,T,rfl⟩:=h;exact⟨E,H,n,A,by rw[e x zp0];exact I,K,O,Q,T.congr (λ y Y=>e y (zq0 _ Y)),rfl⟩
def Tr.up{V:Int->Int×Nd}{c u:Nat}{x:Int}{L:List E2}{B:List Int}(h:Tr V c u x L B):Up L:=by
 cases u with
 | zero=>rw[h.2.1];exact List.Pairwise.nil
 | succ k=>obtain⟨I,K,n,H,O,A,Q,T,E,rfl⟩:=h;exact(E.facts A).2
def gos_V:∀(l:List Int)(a:AS)(y:Int),(a.gos l).V y=(if y∈l then a.Q y else a.V y)/\(a.gos l).Q=a.Q
 | [],a,y=>by simp[zhb9]
 | x::l,a,y=>by
  rw[zid9];obtain⟨A,E⟩:=gos_V l (a.go x) y;refine⟨?_,E⟩;rw[A];by_cases e:y∈l
  .simp[e,AS.go]
  .by_cases u:y=x
   .subst u;simp[e,AS.go,updI]
   .simp[e,u,AS.go,updI]
section
variable {d:CD} {op:List E2->List E2} {c:Nat}
def zuy9:Bm leaf0:=⟨λ k u=>(by cases u),List.Pairwise.nil,λ _ k u=>(by cases u),λ _=>⟨rfl,rfl,λ v hv=>(by cases hv)⟩,λ e=>(by cases e)⟩
def zzb9:Bm top0:=⟨λ k u=>by rw[List.mem_singleton.1 u];decide,by simp[top0],λ e=>(by cases e),λ e=>(by cases e),λ _=>⟨rfl,rfl,λ x A=>by rw[List.mem_singleton.1 A];decide⟩⟩
def lvw(V:Int->Int×Nd)(lev:Nat)(x:Int)(k:Nat):Nat:=if k<lev then nw V (lev-1-k) (V x).2 else 0
def Tr.lvw{V V':Int->Int×Nd}{c u:Nat}{x:Int}{L:List E2}{B:List Int}(h:Tr V c u x L B)(hv:∀y∈B,V' y=V y)(k:Nat):lvw V' u x k=lvw V u x k:=by
 cases u with
 | zero=>rfl
 | succ l=>
  obtain⟨_,_,n,I,A,_,_,_,E,rfl⟩:=h;unfold Go.Proofs.YtcmjlibndmneiaaGreat.lvw;by_cases q:k<l+1
  .rw[if_pos q,if_pos q,hv x (by simp),A];exact E.wcongr (by omega) (λ y H=>hv y (by simp[H]))
  .rw[if_neg q,if_neg q]
def Wr(j:Bool)(V V':Int->Int×Nd)(x x':Int)(lev lev':Nat):Prop:=
 ∀k,1<=k->lvw V' lev' x' k<=2\/lvw V' lev' x' k<=lvw V lev x k\/j=false/\lvw V' lev' x' k=lvw V lev x k+1/\lvw V lev x k+8<=lvw V' lev' x' (k-1)
def wr_of{j:Bool}{V V' u:Int->Int×Nd}{x E:Int}{H K A:Nat}{n:Nd}{ps:List Nd}(Q:Wk j H V V' n ps)(hx:V x=(0,n))(Y:K=H+1)(I:∀k,k<H->lvw u A E k=wsum V' (H-k) ps)(O:∀k,H<=k->1<=k->lvw u A E k<=2):Wr j V u x E K A:=by
 subst Y;intro k T;by_cases q:k<H
 .right;have e:lvw V (H+1) x k=nw V (H-k) n:=by unfold lvw;rw[if_pos (by omega),hx,show H+1-1-k=H-k by omega]
  rw[e,I k q,I (k-1) (by omega),show H-(k-1)=H-k+1 by omega];exact Q (H-k) (by omega)
 .exact .inl (O k (by omega) T)
def MadeOk(d:CD)(op:List E2->List E2)(c lev:Nat)(a:AS)(x:Int)(L:List E2)(B:List Int)(r:WR):Prop:=
 ∃T X:List Int,Ev a r.a T/\r.c.tk=T/\
  (r.e=10/\r.a.A.L.count 0=0/\T.length<=2*lev\/
   r.e=7/\d.jn=false/\lev=16/\(∃(B':List Int)(p q:Nd),(∀y,B'.count y+X.count y=B.count y+T.count y)/\Pts r.a.V c 15 [p,q] eS none (op L) B'/\∀n,a.V x=(0,n)->Wk false 15 a.V r.a.V n [p,q])\/
   r.e=0/\(r.c.gn=X.filter a.F/\∀y∈X,y∈B)/\T.length<=2*lev+1/\(∃(B':List Int)(lev':Nat),(∀y,B'.count y+X.count y=B.count y+T.count y)/\Tr r.a.V c lev' r.x (op L) B'/\Wr d.jn a.V r.a.V x r.x lev lev')/\(d.jn=true->T.length<=X.length))
def zrq9(hd:LfOk d op)(aw:1<=c)(ax:c<=2)(ay:d.jn=true->c=1){K:Nat}{a:AS}{x:Int}{L:List E2}{B:List Int}(hT:Tr a.V c K x L B)
 (b0:∀y,B.count y<=1) (an:∀y∈B,Ah.stv a.A y=1) (ak:Ao a) (b9:1<=a.A.lo) (al:d.jn=true->∃e∈L,e.1=d.key):
 MadeOk d op c K a x L B (rootedF d a ch0 x):=by
 obtain⟨r,hr⟩:=exN (partsF d a ch0 x);have hP:∃(h:Nat)(T X:List Int),Ev a r.a T/\r.c.tk=T/\T.length<=2*h/\(K=h+1\/K=0/\h=0)/\h<=15/\
  (r.e=10/\r.a.A.L.count 0=0\/r.e=0/\(r.c.gn=X.filter a.F/\∀y∈X,y∈B)/\(K=h+1/\r.c.lv=h+1\/K=0/\r.c.lv=0)/\(∃B':List Int,(∀y,B'.count y+X.count y=B.count y+T.count y)/\Pts r.a.V c h r.ps eS none (op L) B'/\∀n,a.V x=(0,n)->K=h+1->Wk d.jn h a.V r.a.V n r.ps)/\
   (K=0->r.ps.length<=1/\d.jn=false)/\(d.jn=true->r.ps.length<=1/\T.length+1<=X.length)):=by
  cases K with
  | zero=>
   obtain⟨rfl,rfl,rfl⟩:=hT;have Y:d.jn=false:=by
    cases e:d.jn with
    | false=>rfl
    | true=>obtain⟨_,q,_⟩:=al e;cases q
   (have e0:partsF d a ch0 0=⟨0,piecesF (d.lf leaf0),a,ch0⟩:=by unfold partsF;rw[if_pos rfl]);rw[e0]at hr;subst hr;have s0:sz leaf0=1:=rfl;obtain⟨m1,m2,m3,m4,m5,m6,m7⟩:=hd.lf leaf0 eS none rfl zuy9 (by rw[s0];decide) (λ k E=>by cases E) (Ke.none _) (λ b hb=>by cases hb);have hN:Nod a.V c 0 (d.lf leaf0) eS none (op []) []:=⟨m1,m4,m5.symm,rfl⟩
   obtain⟨p1,p2⟩:=zdy9 hN m2 (by omega);refine⟨0,[],[],Ev.refl a,rfl,by simp,.inr ⟨rfl,rfl⟩,by omega,.inr ⟨rfl,⟨rfl,λ y u=>(by cases u)⟩,.inr ⟨rfl,rfl⟩,⟨[],by simp,p1,λ _ _ q=>by cases q⟩,λ _=>⟨?_,Y⟩,λ e=>by rw[Y]at e;cases e⟩⟩;rcases p2 with⟨_,e⟩|⟨e,_⟩|⟨_,e⟩
   .show(piecesF (d.lf leaf0)).length<=1;rw[e];simp
   .show(piecesF (d.lf leaf0)).length<=1;rw[e];simp
   .omega
  | succ h=>
   obtain⟨a0,aq,n,B1,a1,a2,a3,a4,a5,rfl⟩:=hT;(have e0:partsF d a ch0 x=belowF d 16 a ch0 x 1:=by unfold partsF;rw[if_neg aq]);rw[e0]at hr;have:=ztr9 hd aw ax ay h 16 a ch0 x 1 n eS eS none L B1 a1 a2 a3 a4 a5 (by omega) (by omega) (Ke.refl _) (Ke.none _) (λ b hb=>by cases hb) b0 an ak al;rw[hr]at this;obtain⟨T,X,t1,t2,t3,t4⟩:=this;refine⟨h,T,X,t1,by rw[t2];rfl,t3,.inl rfl,a0,?_⟩;rcases t4 with t4|⟨t5,t6,t7,t8,t9,b5⟩
   .exact .inl t4
   .obtain⟨B',u1,u2,u3⟩:=t8;exact .inr ⟨t5,⟨by rw[t6.1];rfl,t6.2⟩,.inl ⟨rfl,by rw[t7];omega⟩,⟨B',u1,u2,λ m hm _=>by rw[a1]at hm;cases hm;exact u3⟩,λ e=>(by cases e),b5⟩
 obtain⟨h,T,X,I,a6,b6,ac,av,hR⟩:=hP;have ar:=I.ao ak;rcases hR with⟨e,c0⟩|⟨e,⟨aa,ab⟩,au,⟨B',hB,hP,a7⟩,hz,a8⟩
 .have e1:rootedF d a ch0 x=⟨0,r.e,r.a,r.c⟩:=by unfold rootedF;simp only[hr];rw[if_pos (by rw[e];decide)]
  rw[e1];refine⟨T,[],I,a6,.inl ⟨e,c0,?_⟩⟩;rcases ac with q|⟨q,q2⟩<;>omega
 have ad:∀y∈B',Ah.stv r.a.A y=1:=λ y u=>by
  by_cases ht:y∈T
  .exact I.tk y ht
  .rw[I.st y ht];refine an y ?_;have h1:0<B'.count y:=List.count_pos_iff.2 u;have h2:T.count y=0:=List.count_eq_zero.2 ht;have h3:=hB y;exact List.count_pos_iff.1 (by omega)
 have ah:∀{b:AS} {y:Int},b.A.lo=a.A.lo->Ah.stv b.A y=1->y≠0:=λ hl hs e=>by have:=zby9 (s:=_) (by rw[hs];decide);omega
 have e2:rootedF d a ch0 x=(if r.ps.length=0 then⟨0,0,r.a,r.c⟩else
  if r.ps.length=1 then(if (r.ps.getD 0 noneN).kd.length=1 then⟨dA (r.ps.getD 0 noneN) 0,0,r.a,r.c⟩else writeF r.a r.c (r.ps.getD 0 noneN))else raiseF r.a r.c r.ps):=by
  unfold rootedF;simp only[hr];rw[if_neg (by rw[e];decide)]
 rw[e2];have b8:2*h<=2*K/\(K=0->h=0):=by rcases ac with q|⟨q,q2⟩<;>constructor<;>omega
 have b7:=hP;generalize hps:r.ps=ps at hP hz a8 a7;generalize hOL:op L=OL at hP;cases hP with
 | zero=>rw[if_pos (by rfl)];refine⟨T,X,I,a6,.inr (.inr ⟨rfl,⟨aa,ab⟩,by omega,⟨[],0,hB,⟨rfl,hOL,rfl⟩,λ k _=>.inl (by simp[lvw])⟩,λ Y=>by have:=(a8 Y).2;omega⟩)⟩
 | one b1 l1 s1 n1=>
  rename_i p;rw[if_neg (by simp),if_pos (by rfl)];show MadeOk d op c K a x L B (if p.kd.length=1 then _ else writeF r.a r.c p);by_cases E:p.kd.length=1
  .rw[if_pos E];cases h with
   | zero=>rw[(b1.lf n1.1).2.1]at E;simp at E
   | succ h=>
    obtain⟨w1,w2,w3⟩:=n1;have am:=(b1.inn w1).1;obtain⟨k,az⟩:∃k,p.ks=[k]:=by
     cases H:p.ks with
     | nil=>rw[H]at l1;simp at l1
     | cons k l=>cases l with
      | nil=>exact⟨k,rfl⟩
      | cons=>rw[H]at am;simp at am;omega
    obtain⟨y,af⟩:∃y,p.kd=[y]:=by
     cases H:p.kd with
     | nil=>rw[H]at E;simp at E
     | cons k l=>cases l with
      | nil=>exact⟨k,rfl⟩
      | cons=>rw[H]at E;simp at E
    rw[az,af]at w3;obtain⟨L1,L2,B1,B2,⟨m,B3,v1,v2,v3,v4,v5,rfl⟩,⟨rfl,rfl⟩,rfl,rfl⟩:=w3;(have u:dA p 0=y:=by unfold dA;rw[af];rfl);show MadeOk d op c K a x L B ⟨dA p 0,0,r.a,r.c⟩;rw[u];refine⟨T,X,I,a6,.inr (.inr ⟨rfl,⟨aa,ab⟩,by show T.length<=_;omega,⟨_,h+1,hB,⟨by omega,?_,m,B3,v1,v2,by omega,v4,?_,by simp⟩,?_⟩,λ Y=>by have:=(a8 Y).2;omega⟩)⟩
    .exact ah (b:=r.a) I.lo (ad y (by simp))
    .rw[hOL,List.append_nil];exact v5.mono (Ke.none _) (Hle.none _)
    .rcases ac with hl|⟨_,hl⟩
     .obtain⟨n,hn⟩:∃n,a.V x=(0,n):=by have:=hT;rw[hl]at this;obtain⟨_,_,n,_,q,_⟩:=this;exact⟨n,q⟩
      refine wr_of (a7 n hn hl) hn hl (λ k E=>?_) (λ k E _=>?_)
      .unfold lvw;rw[if_pos (by omega),v1,show h+1-k=(h-k)+1 by omega,show h+1-1-k=h-k by omega];simp only[wsum,List.map_cons,List.map_nil,List.sum_cons,List.sum_nil,zcf9,af,zt9,v1];rfl
      .unfold lvw;rw[if_neg (by omega)];omega
     .omega
  .rw[if_neg E];rcases zen9 r.a r.c (b1.may l1 s1)with⟨H,c0,ea,ec⟩|⟨H,O,ec,ex⟩
   .exact⟨T,[],by rw[ea];exact I,by rw[ec];exact a6,.inl ⟨H,by rw[ea];exact c0,by omega⟩⟩
   .generalize hw:writeF r.a r.c p=w at *
    (have a9:∀y∈B',y∉[w.x]:=λ y u e=>by have:=O.fr y e;have:=ad y u;omega);refine⟨T++[w.x],X,I.trans O,by rw[ec];show r.c.tk++_=_;rw[a6],.inr (.inr ⟨H,⟨by rw[ec];exact aa,ab⟩,by simp;omega,⟨w.x::B',h+1,λ y=>?_,⟨av,?_,p,B',ex,b1,l1,s1,?_,rfl⟩,?_⟩,λ Y=>by have:=(a8 Y).2;simp;omega⟩)⟩
    .have:=hB y;simp only[List.count_append,List.count_cons,List.count_nil]at this |-
     omega
    .exact ah (b:=w.a) (O.lo.trans I.lo) (O.tk w.x (by simp))
    .rw[hOL];exact n1.congr (λ y u=>O.v y (a9 y u))
    .have ap:∀k,h<=k->1<=k->lvw w.a.V (h+1) w.x k<=2:=λ k E _=>by
      unfold lvw;by_cases q:k<h+1
      .rw[if_pos q,show h+1-1-k=0 by omega];simp[nw]
      .rw[if_neg q];omega
     rcases ac with hl|⟨hl,h0⟩
     .obtain⟨n,hn⟩:∃n,a.V x=(0,n):=by have:=hT;rw[hl]at this;obtain⟨_,_,n,_,q,_⟩:=this;exact⟨n,q⟩
      refine wr_of (a7 n hn hl) hn hl (λ k E=>?_) ap;unfold lvw;rw[if_pos (by omega),ex,show h+1-1-k=h-k by omega];simp only[wsum,List.map_cons,List.map_nil,List.sum_cons,List.sum_nil];rw[n1.wcongr (by omega) (λ y u=>O.v y (a9 y u))];rfl
     .exact λ k E=>.inl (ap k (by omega) E)
 | two b1 l1 s1 b2 l2 s2 n1 n2=>
  rename_i p q L1 L2 B1 B2;rw[if_neg (by simp),if_neg (by simp)];have ae:d.jn=false:=by
   cases H:d.jn with
   | false=>rfl
   | true=>have:=(a8 H).1;simp at this
  have ag:K=h+1/\r.c.lv=h+1:=by
   rcases au with q|⟨q,_⟩
   .exact q
   .have:=(hz q).1;simp at this
  unfold raiseF;by_cases ai:r.c.lv=16
  .rw[if_pos ai];(have:h=15:=by omega);subst this;refine⟨T,X,I,a6,.inr (.inl ⟨rfl,ae,by omega,B1++B2,p,q,hB,?_,λ n hn=>?_⟩)⟩
   .rw[hOL];exact .two b1 l1 s1 b2 l2 s2 n1 n2
   .have:=a7 n hn (by omega);rw[ae]at this;exact this
  .rw[if_neg ai];have b3:Pts r.a.V c h [p,q] eS (nxt [] none) (L1++L2) (B1++B2):=.two b1 l1 s1 b2 l2 s2 n1 n2;obtain⟨T2,w1,w2,w3,w4⟩:=window (a:=r.a) (n1:=top0) (ps:=[p,q]) (kx:=eS) (KA:=[]) (KW:=[]) (KC:=[]) (DA:=[]) (DW:=[0]) (DC:=[]) (LA:=[]) (LC:=[]) (BA:=[]) (BC:=[]) (lo:=eS) (hi:=none) r.c rfl zzb9 rfl rfl rfl rfl ⟨rfl,rfl⟩ ⟨rfl,rfl⟩ b3
    (λ m hm=>by
     rcases List.mem_cons.1 hm with e|e
     .rw[e];omega
     .rw[List.mem_singleton.1 e];omega) (λ k E=>⟨Ke.none _,λ b hb=>by cases hb⟩) ar (λ y u=>ad y (by simpa using u)) (i:=0) (j:=1) rfl rfl
   rcases w4 with⟨e1,e2,H⟩|⟨e1,wb,ws,bb,wl,wt,wk,B4,aj,wN⟩
   .rw[if_pos (by rw[e1];decide)];refine⟨T++T2,[],I.trans w1,by show(replaceF r.a r.c top0 0 1 [p,q]).c.tk=_;rw[w2];show r.c.tk++T2=_;rw[a6],.inl ⟨e1,e2,?_⟩⟩;simp at H;rw[zf0];omega
   .rw[if_neg (by rw[e1];decide)];have st:sz top0=4:=rfl;generalize hq:replaceF r.a r.c top0 0 1 [p,q]=Q at *
    have b4:∀y∈B4,Ah.stv Q.a.A y=1:=λ y u=>by
     by_cases ht:y∈T2
     .exact w1.tk y ht
     .rw[w1.st y ht];refine ad y ?_;have h1:0<B4.count y:=List.count_pos_iff.2 u;have h2:T2.count y=0:=List.count_eq_zero.2 ht;have h3:=aj y;simp only[List.count_nil]at h3;exact List.count_pos_iff.1 (by omega)
    (have ba:Q.n.ks.length=2:=by have:top0.ks.length=1:=rfl;simp at wl;omega);rcases zen9 Q.a Q.c (wb.may (by omega) (by omega))with⟨H,c0,ea,ec⟩|⟨H,O,ec,ex⟩
    .refine⟨T++T2,[],by rw[ea];exact I.trans w1,by rw[ec,w2];show r.c.tk++T2=_;rw[a6],.inl ⟨H,by rw[ea];exact c0,?_⟩⟩;simp at w3;rw[zf0];omega
    .generalize hw:writeF Q.a Q.c Q.n=w at *
     (have a9:∀y∈B4,y∉[w.x]:=λ y u e=>by have:=O.fr y e;have:=b4 y u;omega);refine⟨(T++T2)++[w.x],X,(I.trans w1).trans O,by rw[ec,w2];show(r.c.tk++T2)++_=_;rw[a6],.inr (.inr ⟨H,⟨by rw[ec,w2];exact aa,ab⟩,?_,⟨w.x::B4,h+2,λ y=>?_,⟨by omega,?_,Q.n,B4,ex,wb,by omega,by omega,?_,rfl⟩,?_⟩,λ Y=>by rw[ae]at Y;cases Y⟩)⟩
     .simp at w3;simp;omega
     .have:=hB y;have:=aj y;simp only[List.count_append,List.count_cons,List.count_nil]at *
      omega
     .exact ah (b:=w.a) (O.lo.trans (w1.lo.trans I.lo)) (O.tk w.x (by simp))
     .rw[hOL];have:=wN.congr (V':=w.a.V) (λ y u=>O.v y (a9 y u));simpa using this
     .obtain⟨n,hn⟩:∃n,a.V x=(0,n):=by have:=hT;rw[ag.1]at this;obtain⟨_,_,n,_,q,_⟩:=this;exact⟨n,q⟩
      (have hE:∀k,k<=h->lvw w.a.V (h+2) w.x k=wsum r.a.V (h-k) [p,q]:=λ k E=>by unfold lvw;rw[if_pos (by omega),ex,show h+2-1-k=(h-k)+1 by omega];show nw w.a.V (h-k+1) Q.n=_;rw[wN.wcongr (by omega) (λ y u=>O.v y (a9 y u)),wk (h-k) (by omega)];simp[xsum]);refine wr_of (a7 n hn ag.1) hn ag.1 (λ k E=>hE k (by omega)) (λ k E _=>?_);by_cases q1:k=h
      .rw[hE k (by omega),q1,Nat.sub_self,zdh9];simp
      .unfold lvw;by_cases q2:k<h+2
       .rw[if_pos q2,show h+2-1-k=0 by omega];simp[nw]
       .rw[if_neg q2];omega
end
def insE(key val:ByteArray)(L:List E2):List E2:=L.filter (λ e=>lts e.1 key)++(key,val)::L.filter (λ e=>lts key e.1)
def delE(key:ByteArray)(L:List E2):List E2:=L.filter (λ e=>!eqs e.1 key)
def zgw9{p:E2->Bool}{L:List E2}(h:∀e∈L,p e=true):L.filter p=L:=List.filter_eq_self.2 h
def zdm9{p:E2->Bool}{L:List E2}(h:∀e∈L,p e=false):L.filter p=[]:=List.filter_eq_nil_iff.2 (λ e u=>by rw[h e u];decide)
def eqs_ne{a b:ByteArray}(h:a≠b):eqs a b=false:=by
 cases e:eqs a b with
 | false=>rfl
 | true=>exact absurd (eqsP.1 e) h
def Kl.ne{a b:ByteArray}(h:Kl a b):a≠b:=λ e=>by rw[e]at h;exact h.irr
def zdq9{key:ByteArray}(val:ByteArray){u L A:List E2}(H:∀e∈u,Kl e.1 key)(I:∀e∈A,Kl key e.1):insE key val (u++(L++A))=u++(insE key val L++A):=by unfold insE;rw[List.filter_append,List.filter_append,List.filter_append,List.filter_append,zgw9 (L:=u) H,zdm9 (L:=A) (λ e E=>(I e E).le),zdm9 (L:=u) (λ e E=>(H e E).le),zgw9 (L:=A) I];simp
def zhy9{key:ByteArray}{u L A:List E2}(H:∀e∈u,Kl e.1 key)(I:∀e∈A,Kl key e.1):delE key (u++(L++A))=u++(delE key L++A):=by unfold delE;rw[List.filter_append,List.filter_append,zgw9 (L:=u) (λ e E=>by rw[eqs_ne (H e E).ne];rfl),zgw9 (L:=A) (λ e E=>by rw[eqs_ne (I e E).ne.symm];rfl)]
theorem znn9(key val:ByteArray):insE key val []=[(key,val)]:=rfl
def zno9(key val v:ByteArray):insE key val [(key,v)]=[(key,val)]:=by unfold insE;rw[zdm9 (p:=λ e=>lts e.1 key) (L:=[(key,v)]) (λ e u=>by rw[List.mem_singleton.1 u];exact Ke.refl _),zdm9 (L:=[(key,v)]) (λ e u=>by rw[List.mem_singleton.1 u];exact Ke.refl _)];rfl
theorem ztw9(key:ByteArray):delE key []=[]:=rfl
def ztx9(key v:ByteArray):delE key [(key,v)]=[]:=zdm9 (λ e u=>by rw[List.mem_singleton.1 u,show eqs key key=true from eqsP.2 rfl];rfl)
def zih9{n:Nd}(hl:n.lf=true)(hb:Bm n)(key:ByteArray):∃(at_:Nat)(I E V1 O:List ByteArray),plc n key n.ks.length=at_/\n.ks=I++E/\n.vs=V1++O/\I.length=at_/\V1.length=at_/\E.length=O.length/\(∀k∈I,Kl k key)/\
 ((at_<n.ks.length/\eqs (kA n at_) key=true)/\(∃K v V3,E=key::K/\O=v::V3/\vA n at_=v/\K.length=V3.length/\∀k∈K,Kl key k)\/¬(at_<n.ks.length/\eqs (kA n at_) key=true)/\∀k∈E,Kl key k):=by
 obtain⟨v1,v2,v3⟩:=hb.lf hl;obtain⟨Y,p2⟩:=zom9 hl key n.ks.length;have p3:=plc_le n key n.ks.length;obtain⟨at_,a0⟩:=exN (plc n key n.ks.length);rw[a0]at Y p2 p3;have Q:∀i j,i<j->j<n.ks.length->Kl (kA n i) (kA n j):=λ i j H h2=>by have:=List.pairwise_iff_getElem.1 hb.up i j (by omega) h2 H;unfold kA;rw[zn3,zn3,zc0 h2,zc0 (by omega)];exact this
 have a1:∀k∈n.ks.take at_,Kl k key:=λ k A=>by
  obtain⟨i,u,rfl⟩:=List.getElem_of_mem A;rw[zg0]at u;have e:(n.ks.take at_)[i]'(by rw[zg0];exact u)=kA n i:=by unfold kA;rw[zn3,zc0 (by omega)];simp
  rw[e];rcases p2 with q|q
  .omega
  .by_cases c:i=at_-1
   .rw[c];exact q
   .exact(Q i (at_-1) (by omega) (by omega)).trans q
 refine⟨at_,n.ks.take at_,n.ks.drop at_,n.vs.take at_,n.vs.drop at_,a0,by simp,by simp,by simp;omega,by simp;omega,by simp;omega,a1,?_⟩;have a2:∀k∈n.ks.drop at_,∃j,at_<=j/\j<n.ks.length/\k=kA n j:=λ k A=>by obtain⟨i,u,rfl⟩:=List.getElem_of_mem A;rw[zj0]at u;refine⟨at_+i,by omega,by omega,?_⟩;unfold kA;rw[zn3,zc0 (by omega)];simp
 by_cases c:at_<n.ks.length/\eqs (kA n at_) key=true
 .left;refine⟨c,n.ks.drop (at_+1),vA n at_,n.vs.drop (at_+1),?_,?_,rfl,by simp;omega,λ k A=>?_⟩
  .have:kA n at_=key:=eqsP.1 c.2;rw[<-this];unfold kA;rw[zn3,zc0 c.1];simp
  .unfold vA;rw[zn3,zc0 (by omega)];simp
  .obtain⟨i,u,rfl⟩:=List.getElem_of_mem A;rw[zj0]at u;have e:(n.ks.drop (at_+1))[i]'(by rw[zj0];exact u)=kA n (at_+1+i):=by unfold kA;rw[zn3,zc0 (by omega)];simp
   rw[e,<-eqsP.1 c.2];exact Q at_ _ (by omega) (by omega)
 .right;refine⟨c,λ k A=>?_⟩;obtain⟨j,j1,T,rfl⟩:=a2 k A;rcases(Y j j1 T).or with q|q
  .exact q
  .exfalso;by_cases e:j=at_
   .subst e;exact c ⟨T,eqsP.2 q.symm⟩
   .have H:=Q at_ j (by omega) T;rw[<-q]at H;exact(Y at_ (zn6 _) (by omega)).not H
def put_lf{key val:ByteArray}(h0:key≠eS)(hk:key.size<=24)(hv:val.size<=24):LfOk ⟨key,insL key val,false⟩ (insE key val) where
 loc:=λ L1 L L2 h1 h2=>zdq9 val h1 h2
 key:=hk
 lf:=by
  intro n lo hi A K hs hr a4 a3;obtain⟨v1,v2,v3⟩:=K.lf A;obtain⟨at_,O,H,E,Q,a2,u,I,l1,l2,l3,h1,h2⟩:=zih9 A K key;have up:=K.up;rw[u]at up;obtain⟨u1,u2,u3⟩:=List.pairwise_append.1 up;have hz:∀e∈O.zip E,Kl e.1 key:=λ e he=>h1 _ (List.of_mem_zip he).1;dsimp only at a4 a3 |-
  rcases h2 with⟨c,K3,v,T,rfl,rfl,_,l4,h3⟩|⟨c,h3⟩
  .have hm:insL key val n={ n with vs:=E++val::T }:=by unfold insL;simp only[a2];rw[if_pos c,I,List.set_append_right _ _ (by omega),show at_-E.length=0 by omega];rfl
   have a1:∀e∈K3.zip T,Kl key e.1:=λ e he=>h3 _ (List.of_mem_zip he).1;have Y:Bm { n with vs:=E++val::T }:={
    ks:=K.ks
    up:=K.up
    ne:=K.ne
    lf:=λ _=>⟨by show(E++val::T).length=n.ks.length;rw[u];simp;omega,v2,λ w hw=>by
     rcases zi0.1 hw with q|q
     .exact v3 w (by rw[I];simp[q])
     .rcases List.mem_cons.1 q with q|q
      .rw[q];exact hv
      .exact v3 w (by rw[I];simp[q])⟩
    inn:=λ e=>by have:n.lf=false:=e;rw[A]at this;cases this }
   rw[hm];refine⟨A,Y,?_,hr,?_,λ _=>⟨zn6 _,by show 1<=n.ks.length;rw[u];simp;omega⟩,λ e=>by cases e⟩
   .rw[zbv9 (n:={ n with vs:=E++val::T }) A (Y.lf A).1,zbv9 A v1,I];simp only[zao9,zaj9];omega
   .show n.ks.zip (E++val::T)=_;rw[u,I,List.zip_append (by omega),List.zip_append (by omega),List.zip_cons_cons,List.zip_cons_cons,show(key,v)::K3.zip T=[(key,v)]++K3.zip T from rfl,zdq9 val hz a1,zno9];rfl
  .have hm:insL key val n={ n with ks:=O++key::H,vs:=E++val::Q }:=by unfold insL;simp only[a2];rw[if_neg c,u,I,<-l1,List.take_left,List.drop_left,l1,<-l2,List.take_left,List.drop_left,List.set_append_right _ _ (by omega),Nat.sub_self];rfl
   have a1:∀e∈H.zip Q,Kl key e.1:=λ e he=>h3 _ (List.of_mem_zip he).1;have Y:Bm { n with ks:=O++key::H,vs:=E++val::Q }:={
    ks:=λ k a0=>by
     rcases zi0.1 a0 with q|q
     .exact K.ks k (by rw[u];simp[q])
     .rcases List.mem_cons.1 q with q|q
      .rw[q];exact hk
      .exact K.ks k (by rw[u];simp[q])
    up:=List.pairwise_append.2 ⟨u1,List.pairwise_cons.2 ⟨h3,u2⟩,λ p hp q hq=>by
     rcases List.mem_cons.1 hq with e|e
     .rw[e];exact h1 p hp
     .exact u3 p hp q e⟩
    ne:=λ e k a0=>by
     rcases zi0.1 a0 with q|q
     .exact K.ne A k (by rw[u];simp[q])
     .rcases List.mem_cons.1 q with q|q
      .rw[q];exact h0
      .exact K.ne A k (by rw[u];simp[q])
    lf:=λ _=>⟨by show(E++val::Q).length=(O++key::H).length;simp;omega,v2,λ w hw=>by
     rcases zi0.1 hw with q|q
     .exact v3 w (by rw[I];simp[q])
     .rcases List.mem_cons.1 q with q|q
      .rw[q];exact hv
      .exact v3 w (by rw[I];simp[q])⟩
    inn:=λ e=>by have:n.lf=false:=e;rw[A]at this;cases this }
   rw[hm];refine⟨A,Y,?_,λ k a0=>?_,?_,λ _=>⟨by show n.ks.length<=(O++key::H).length;rw[u];simp,by show 1<=(O++key::H).length;simp;omega⟩,λ e=>by cases e⟩
   .rw[zbv9 (n:={ n with ks:=O++key::H,vs:=E++val::Q }) A (Y.lf A).1,zbv9 A v1,u,I];simp only[zao9,zaj9,zf0,zk0];omega
   .rcases zi0.1 a0 with q|q
    .exact hr k (by rw[u];simp[q])
    .rcases List.mem_cons.1 q with q|q
     .rw[q];exact⟨a4,a3⟩
     .exact hr k (by rw[u];simp[q])
   .show(O++key::H).zip (E++val::Q)=_;rw[u,I,List.zip_append (by omega),List.zip_append (by omega),List.zip_cons_cons,show H.zip Q=[]++H.zip Q from rfl,zdq9 val hz a1,znn9];rfl
def del_lf{key:ByteArray}(hk:key.size<=24):LfOk ⟨key,delL key,true⟩ (delE key) where
 loc:=λ L1 L L2 h1 h2=>zhy9 h1 h2
 key:=hk
 lf:=by
  intro n lo hi E O hs hr a4 a3;obtain⟨v1,v2,v3⟩:=O.lf E;obtain⟨at_,H,K2,I,V2,a1,K,Q,l1,l2,l3,h1,h2⟩:=zih9 E O key;have up:=O.up;rw[K]at up;obtain⟨u1,u2,u3⟩:=List.pairwise_append.1 up;have hz:∀e∈H.zip I,Kl e.1 key:=λ e T=>h1 _ (List.of_mem_zip T).1;dsimp only at a4 a3 |-
  rcases h2 with⟨c,u,v,A,rfl,rfl,_,l4,h3⟩|⟨c,h3⟩
  .have hm:delL key n={ n with ks:=H++u,vs:=I++A }:=by unfold delL;simp only[a1];rw[if_pos c,K,Q];(have q1:(H++key::u).drop (at_+1)=u:=by rw[<-l1,<-ze1,List.drop_left];rfl);(have q2:(I++v::A).drop (at_+1)=A:=by rw[<-l2,<-ze1,List.drop_left];rfl);rw[q1,q2,<-l1,List.take_left,l1,<-l2,List.take_left]
   have a0:∀e∈u.zip A,Kl key e.1:=λ e T=>h3 _ (List.of_mem_zip T).1;have a2:Bm { n with ks:=H++u,vs:=I++A }:={
    ks:=λ k Y=>O.ks k (by rw[K];rcases zi0.1 Y with q|q<;>simp[q])
    up:=List.pairwise_append.2 ⟨u1,(List.pairwise_cons.1 u2).2,λ p hp q hq=>u3 p hp q (by simp[hq])⟩
    ne:=λ e k Y=>O.ne E k (by rw[K];rcases zi0.1 Y with q|q<;>simp[q])
    lf:=λ _=>⟨by show(I++A).length=(H++u).length;simp;omega,v2,λ w hw=>v3 w (by rw[Q];rcases zi0.1 hw with q|q<;>simp[q])⟩
    inn:=λ e=>by have:n.lf=false:=e;rw[E]at this;cases this }
   (have a5:sz { n with ks:=H++u,vs:=I++A }<=sz n:=by rw[zbv9 (n:={ n with ks:=H++u,vs:=I++A }) E (a2.lf E).1,zbv9 E v1,K,Q];simp only[zao9,zaj9,zf0,zk0];omega);rw[hm];refine⟨E,a2,by omega,λ k Y=>hr k (by rw[K];rcases zi0.1 Y with q|q<;>simp[q]),?_,λ e=>(by cases e),λ _=>a5⟩;show(H++u).zip (I++A)=_;rw[K,Q,List.zip_append (by omega),List.zip_append (by omega),List.zip_cons_cons,show(key,v)::u.zip A=[(key,v)]++u.zip A from rfl,zhy9 hz a0,ztx9];rfl
  .have hm:delL key n=n:=by unfold delL;simp only[a1];rw[if_neg c]
   have a0:∀e∈K2.zip V2,Kl key e.1:=λ e T=>h3 _ (List.of_mem_zip T).1;rw[hm];refine⟨E,O,by omega,hr,?_,λ e=>(by cases e),λ _=>zn6 _⟩;rw[K,Q,List.zip_append (by omega),show K2.zip V2=[]++K2.zip V2 from rfl,zhy9 hz a0,ztw9]
def fndE(key:ByteArray)(L:List E2):ByteArray×Bool:=match L.find? (λ e=>eqs e.1 key)with
 | some e=>(e.2,true)
 | none=>(eS,false)
def zmy9{key:ByteArray}{u L A:List E2}(H:∀e∈u,Kl e.1 key)(I:∀e∈A,Kl key e.1):fndE key (u++(L++A))=fndE key L:=by unfold fndE;have K:u.find? (λ e=>eqs e.1 key)=none:=List.find?_eq_none.2 (λ e E=>by rw[eqs_ne (H e E).ne];decide);have O:A.find? (λ e=>eqs e.1 key)=none:=List.find?_eq_none.2 (λ e E=>by rw[eqs_ne (I e E).ne.symm];decide);rw[List.find?_append,List.find?_append,K,O];simp
def zxc9{key:ByteArray}{L:List E2}(h:(fndE key L).2=false):∀e∈L,e.1≠key:=by
 unfold fndE at h;split at h
 .cases h
 .rename_i he;intro e A u;have:=List.find?_eq_none.1 he e A;exact this (eqsP.2 u)
def Nod.place{V:Int->Int×Nd}{c h:Nat}{n:Nd}{lo:ByteArray}{hi:Option ByteArray}{L:List E2}{B:List Int}(key:ByteArray)(H:Nod V c (h+1) n lo hi L B)(hb:Bm n)(hl:1<=n.ks.length)(ad:Lh key hi):
 ∃LA I LC k hk E BA BC,L=LA++(I++LC)/\B=BA++(E++BC)/\(∀e∈LA,Kl e.1 key)/\(∀e∈LC,Kl key e.1)/\Sub V c h (dA n (plc n key n.ks.length)) k hk I E/\Lh key hk:=by
 obtain⟨a1,a2,a3⟩:=H;obtain⟨q1,q2,q3⟩:=hb.inn a1;obtain⟨a8,a9,T⟩:=zgi9 a1 key n.ks.length;have T:=T hl;obtain⟨at_,aa⟩:=exN (plc n key n.ks.length);rw[aa]at a8 a9 T |-
 obtain⟨K1,Y,u,ag⟩:=cut_at eS n.ks T;obtain⟨D1,D2,a5,af⟩:=cut_at (0:Int) n.kd (i:=at_) (by omega);obtain⟨k,a4⟩:=exN (n.ks.getD at_ eS);obtain⟨x1,hx1⟩:=exN (n.kd.getD at_ 0);rw[a4]at u;rw[hx1]at a5;have ac:kA n at_=k:=a4;have ab:dA n at_=x1:=hx1;rw[u,a5]at a3;obtain⟨LA,L2,BA,B2,O,⟨I,LC,E,BC,sK,fC,rfl,rfl⟩,rfl,rfl⟩:=(Fo.app (by omega)).1 a3;have O:=O;have fC:=fC;have a6:=hb.up;rw[u]at a6;obtain⟨uA,uX,ae⟩:=List.pairwise_append.1 a6;obtain⟨uk,uC⟩:=List.pairwise_cons.1 uX;have a7:Lh key (nxt Y hi):=by
  cases Y with
  | nil=>exact ad
  | cons k' K=>intro b a0;cases a0;have:=a8 (at_+1) (by omega) (by rw[u];simp;omega);unfold kA at this;rw[u,zn3,zn0 (by omega),show at_+1-K1.length=1 by omega]at this;exact this
 refine⟨LA,I,LC,k,nxt Y hi,E,BA,BC,rfl,rfl,λ e Q=>?_,λ e Q=>?_,by rw[ab];exact sK,a7⟩
 .rcases a9 with A|A
  .have hK:K1=[]:=zh0 (by omega);have hD:D1=[]:=zh0 (by omega);subst hK hD;obtain⟨rfl,rfl⟩:=O;cases Q
  .have:=(O.facts (λ x k hi L B s=>Sub.facts s) uA (λ q hq b a0=>by cases a0;exact ae q hq k (by simp))).1 e Q;rw[ac]at A;exact(this.2 k rfl).trans_le A
 .obtain⟨⟨q,K,A,e2⟩,_⟩:=(fC.facts (λ x k hi L B s=>Sub.facts s) uC (λ q hq=>(a2 q (by rw[u];simp[hq])).2)).1 e Q;exact(a7 q (by rw[A];rfl)).trans_le e2
def zuo9{a:AS}{c:Nat}(key:ByteArray)(hc:1<=c):∀(h f lv:Nat)(z:List Int)(x:Int)(n:Nd)(lo:ByteArray)(hi:Option ByteArray)(L:List E2) (B:List Int),
 a.V x=(0,n)->Bm n->1<=n.ks.length->Nod a.V c h n lo hi L B->h<f->lv+h<=16->Lh key hi->(∀y,(x::B).count y<=1)->(∀y∈x::B,y∉z)->
 (downF (getW key) a f lv (eS,false) z x).e=0/\(downF (getW key) a f lv (eS,false) z x).s=fndE key L:=by
 intro h;induction h with
 | zero=>
  intro f lv z x n lo hi L B hV hb hl I hf a8 hk a4 K;obtain⟨f,rfl⟩:∃g,f=g+1:=⟨f-1,by omega⟩
  obtain⟨E,a2,rfl,rfl⟩:=I;have a0:look a x lv=(0,n):=by unfold look;rw[if_neg (by omega)];exact hV
  obtain⟨at_,K1,T,V1,V2,a6,e1,e2,l1,l2,l3,h1,h2⟩:=zih9 E hb key;have a5:∀e∈K1.zip V1,Kl e.1 key:=λ e u=>h1 _ (List.of_mem_zip u).1;unfold downF;rw[if_neg (K x (by simp)),a0];simp only[ne_eq,not_true_eq_false,if_false,getW,E,if_true,a6,goF];refine⟨trivial,?_⟩;rcases h2 with⟨c,Y,v,V3,rfl,rfl,hv,l4,H⟩|⟨c,H⟩
  .have a1:∀e∈Y.zip V3,Kl key e.1:=λ e u=>H _ (List.of_mem_zip u).1;rw[if_pos c,hv,e1,e2,List.zip_append (by omega),List.zip_cons_cons,show(key,v)::Y.zip V3=[(key,v)]++Y.zip V3 from rfl,zmy9 a5 a1];unfold fndE;simp[show eqs key key=true from eqsP.2 rfl]
  .have a1:∀e∈T.zip V2,Kl key e.1:=λ e u=>H _ (List.of_mem_zip u).1;rw[if_neg c,e1,e2,List.zip_append (by omega),show T.zip V2=[]++T.zip V2 from rfl,zmy9 a5 a1];rfl
 | succ h ih=>
  intro f lv z x n lo hi L B hV hb hl I hf a8 hk a4 K;obtain⟨f,rfl⟩:∃g,f=g+1:=⟨f-1,by omega⟩
  have a0:look a x lv=(0,n):=by unfold look;rw[if_neg (by omega)];exact hV
  have E:=I.1;obtain⟨LA,Lk,LC,k,a7,Bk,O,Q,rfl,rfl,k1,k2,⟨m,A,v1,v2,v3,v4,v5,rfl⟩,k3⟩:=I.place key hb hl hk;unfold downF;rw[if_neg (K x (by simp)),a0];simp only[ne_eq,not_true_eq_false,if_false,getW,E,Bool.false_eq_true];generalize dA n (plc n key n.ks.length)=y at *
  have a3:∀q,[x].count q+O.count q+(y::A).count q+Q.count q<=1:=λ q=>by have:=a4 q;rw[show x::(O++((y::A)++Q))=[x]++(O++((y::A)++Q))from rfl]at this;simp only[List.count_append]at this;omega
  have:=ih f (lv+1) (x::z) y m k a7 Lk A v1 v2 (by omega) v5 (by omega) (by omega) k3 (λ q=>by have:=a3 q;omega) (λ q hq hm=>by
   rcases List.mem_cons.1 hm with e|e
   .have h1:=a3 q;have h2:=List.count_pos_iff.2 hq;have H:0 < [x].count q:=List.count_pos_iff.2 (by simp[e]);omega
   .exact K q (by simp only[List.mem_cons,zi0]at hq |-;rcases hq with e|e<;>simp[e]) e)
  obtain⟨t1,t2⟩:=this;have a9:=t1;simp only[goF,Bool.false_eq_true,if_false];rw[zmy9 k1 k2,<-t2];have e0:∀(W:WD (ByteArray×Bool)),W=getW key->(if (downF W a f (lv+1) (eS,false) (x::z) y).e≠0 then downF W a f (lv+1) (eS,false) (x::z) y else⟨0,(downF W a f (lv+1) (eS,false) (x::z) y).s,(downF W a f (lv+1) (eS,false) (x::z) y).z⟩:DR (ByteArray×Bool)).e=0/\(if (downF W a f (lv+1) (eS,false) (x::z) y).e≠0 then downF W a f (lv+1) (eS,false) (x::z) y else⟨0,(downF W a f (lv+1) (eS,false) (x::z) y).s,(downF W a f (lv+1) (eS,false) (x::z) y).z⟩:DR (ByteArray×Bool)).s=(downF (getW key) a f (lv+1) (eS,false) (x::z) y).s:=by rintro W rfl;rw[if_neg (by rw[a9];decide)];exact⟨rfl,rfl⟩
  exact e0 _ rfl
def get_tr{a:AS}{c u:Nat}{x:Int}{L:List E2}{B:List Int}(Y:1<=c)(h:Tr a.V c u x L B)(a1:∀y,B.count y<=1)(key:ByteArray):(getF a x key).e=0/\(getF a x key).s=fndE key L:=by
 unfold getF fromF;cases u with
 | zero=>obtain⟨rfl,rfl,rfl⟩:=h;rw[if_pos rfl];exact⟨rfl,rfl⟩
 | succ Q=>obtain⟨a0,E,n,A,H,I,K,a4,O,rfl⟩:=h;rw[if_neg E];exact zuo9 key Y Q 16 1 [] x n eS none L A H I K O (by omega) (by omega) (λ b T=>by cases T) a1 (λ y _ h=>by cases h)
def kA_lt{n:Nd}(E:Bm n){i j:Nat}(A:i<j)(u:j<n.ks.length):Kl (kA n i) (kA n j):=by have:=List.pairwise_iff_getElem.1 E.up i j (by omega) u A;unfold kA;rw[zn3,zn3,zc0 u,zc0 (by omega)];exact this
section
variable {a:AS} {c:Nat} {from_ to:ByteArray} {most:Nat}
end
def Fo.blks{a:AS}{c h f lv:Nat}(H:∀(s z:List Int)(x:Int)(k:ByteArray)(hi:Option ByteArray)(L:List E2)(B:List Int),Sub a.V c h x k hi L B->(∀y,B.count y<=1)->(∀y∈B,y∉z)->(downF zn9 a f lv s z x).e=0/\(downF zn9 a f lv s z x).s=s++B/\∀y∈(downF zn9 a f lv s z x).z,y∈z\/y∈B):
 ∀{E:List ByteArray} {xs:List Int} {hi:Option ByteArray} {L:List E2} {B:List Int} (s z:List Int),Fo (Sub a.V c h) E xs hi L B->(∀y,B.count y<=1)->(∀y∈B,y∉z)->
  (goF zn9.en (downF zn9 a f lv) xs s z).e=0/\(goF zn9.en (downF zn9 a f lv) xs s z).s=s++B/\∀y∈(goF zn9.en (downF zn9 a f lv) xs s z).z,y∈z\/y∈B
 | [],[],_,_,_,s,z,⟨rfl,rfl⟩,h2,h3=>⟨rfl,by simp[goF],λ y u=>.inl u⟩
 | k::E,x::xs,hi,_,_,s,z,⟨L1,L2,B1,B2,p,q,rfl,rfl⟩,h2,h3=>by
  unfold goF;rw[if_neg (by simp[zn9])];have A:∀y,B1.count y+B2.count y<=1:=λ y=>by have:=h2 y;rw[List.count_append]at this;exact this
  obtain⟨O,Q,I⟩:=H s z x k (nxt E hi) L1 B1 p (λ y=>by have:=A y;omega) (λ y u=>h3 y (zf1 _ u));rw[if_neg (by rw[O];decide),Q];obtain⟨T,Y,t3⟩:=Fo.blks H (s++B1) (downF zn9 a f lv s z x).z q (λ y=>by have:=A y;omega) (λ y u K=>by
   rcases I y K with e|e
   .exact h3 y (zg1 _ u) e
   .have h4:=List.count_pos_iff.2 e;have h5:=List.count_pos_iff.2 u;have:=A y;omega)
  refine⟨T,by rw[Y,zw0],λ y u=>?_⟩;rcases t3 y u with e|e
  .rcases I y e with e|e
   .exact .inl e
   .exact .inr (zf1 _ e)
  .exact .inr (zg1 _ e)
 | [],_::_,_,_,_,_,_,h,_,_=>h.elim
 | _::_,[],_,_,_,_,_,h,_,_=>h.elim
def zqh9{a:AS}{c:Nat}(hc:1<=c):∀(h f lv:Nat)(s z:List Int)(x:Int)(n:Nd)(lo:ByteArray)(hi:Option ByteArray)(L:List E2) (B:List Int),
 a.V x=(0,n)->Bm n->Nod a.V c h n lo hi L B->h<f->lv+h<=16->(∀y,(x::B).count y<=1)->(∀y∈x::B,y∉z)->
 (downF zn9 a f lv s z x).e=0/\(downF zn9 a f lv s z x).s=s++(x::B)/\∀y∈(downF zn9 a f lv s z x).z,y∈z\/y∈x::B:=by
 intro h;induction h with
 | zero=>
  intro f lv s z x n lo hi L B H Q E hf a0 Y u;obtain⟨f,rfl⟩:∃g,f=g+1:=⟨f-1,by omega⟩
  obtain⟨O,a2,rfl,rfl⟩:=E;have I:look a x lv=(0,n):=by unfold look;rw[if_neg (by omega)];exact H
  unfold downF;rw[if_neg (u x (by simp)),I];simp only[ne_eq,not_true_eq_false,if_false,zn9,(Q.lf O).2.1,goF];exact⟨trivial,trivial,λ y K=>(List.mem_cons.1 K).elim (λ e=>.inr (by simp[e])) .inl⟩
 | succ h ih=>
  intro f lv s z x n lo hi L B H Q E hf a0 Y u;obtain⟨f,rfl⟩:∃g,f=g+1:=⟨f-1,by omega⟩
  have I:look a x lv=(0,n):=by unfold look;rw[if_neg (by omega)];exact H
  obtain⟨O,a2,A⟩:=E;have A:=A;have T:∀q,[x].count q+B.count q<=1:=λ q=>by have:=Y q;rw[show x::B=[x]++B from rfl,List.count_append]at this;omega
  have a1:=Fo.blks (a:=a) (c:=c) (h:=h) (f:=f) (lv:=lv+1) (λ s z x k hi L B w2 w3 w4=>by
   obtain⟨m,B5,v1,v2,v3,v4,v5,rfl⟩:=w2;exact ih f (lv+1) s z x m k hi L B5 v1 v2 v5 (by omega) (by omega) w3 w4) (s++[x]) (x::z) A (λ y=>by have:=T y;omega) (λ q hq hm=>by
   rcases List.mem_cons.1 hm with e|e
   .have h1:=T q;have h2:=List.count_pos_iff.2 hq;have h3:0 < [x].count q:=List.count_pos_iff.2 (by simp[e]);omega
   .exact u q (zq0 _ hq) e)
  have e0:downF zn9 a (f+1) lv s z x=goF zn9.en (downF zn9 a f (lv+1)) n.kd (s++[x]) (x::z):=by rw[downF,if_neg (u x (by simp)),I];rfl
  rw[e0];obtain⟨t1,t2,t3⟩:=a1;refine⟨t1,by rw[t2,zw0];rfl,λ y K=>?_⟩;rcases t3 y K with e|e
  .rcases List.mem_cons.1 e with e|e
   .exact .inr (by simp[e])
   .exact .inl e
  .exact .inr (zq0 _ e)
def zwj9{a:AS}{c u:Nat}{x:Int}{L:List E2}{B:List Int}(Q:1<=c)(h:Tr a.V c u x L B)(T:∀y,B.count y<=1):(fromF zn9 a [] x).e=0/\(fromF zn9 a [] x).s=B:=by
 unfold fromF;cases u with
 | zero=>obtain⟨rfl,rfl,rfl⟩:=h;rw[if_pos rfl];exact⟨rfl,rfl⟩
 | succ O=>obtain⟨a0,E,n,A,H,I,a3,a4,K,rfl⟩:=h;rw[if_neg E];obtain⟨Y,t2,t3⟩:=zqh9 Q O 16 1 [] [] x n eS none L A H I K (by omega) (by omega) T (λ y _ h=>by cases h);exact⟨Y,by rw[t2];rfl⟩
def zrh9{a:AS}{c:Nat}(hc:1<=c):∀(h f lv s:Nat)(z:List Int)(x:Int)(n:Nd)(lo:ByteArray)(hi:Option ByteArray)(L:List E2) (B:List Int),
 a.V x=(0,n)->Bm n->1<=n.ks.length->Nod a.V c h n lo hi L B->h<f->lv+h<=16->(∀y,(x::B).count y<=1)->(∀y∈x::B,y∉z)->
 (downF zaf9 a f lv s z x).e=0/\(downF zaf9 a f lv s z x).s=s+(h+1):=by
 intro h;induction h with
 | zero=>
  intro f lv s z x n lo hi L B Q T Y O hf a7 a6 E;obtain⟨f,rfl⟩:∃g,f=g+1:=⟨f-1,by omega⟩
  obtain⟨I,a2,rfl,rfl⟩:=O;have a0:look a x lv=(0,n):=by unfold look;rw[if_neg (by omega)];exact Q
  unfold downF;rw[if_neg (E x (by simp)),a0];simp[zaf9,(T.lf I).2.1,goF]
 | succ h ih=>
  intro f lv s z x n lo hi L B Q T Y O hf a7 a6 E;obtain⟨f,rfl⟩:∃g,f=g+1:=⟨f-1,by omega⟩
  have a0:look a x lv=(0,n):=by unfold look;rw[if_neg (by omega)];exact Q
  obtain⟨I,a2,A⟩:=O;have A:=A;have a4:=(T.inn I).1;obtain⟨k,K,a5⟩:∃k K,n.ks=k::K:=by
   cases e3:n.ks with
   | nil=>rw[e3]at Y;simp at Y
   | cons k K=>exact⟨k,K,rfl⟩
  obtain⟨y,D,a3⟩:∃y D,n.kd=y::D:=by
   cases e3:n.kd with
   | nil=>rw[e3,a5]at a4;simp at a4
   | cons k K=>exact⟨k,K,rfl⟩
  rw[a5,a3]at A;obtain⟨L1,L2,B1,H,⟨m,u,v1,v2,v3,v4,v5,rfl⟩,_,rfl,rfl⟩:=A;have a1:∀q,[x].count q+(y::u).count q+H.count q<=1:=λ q=>by have:=a6 q;rw[show x::((y::u)++H)=[x]++((y::u)++H)from rfl,List.count_append,List.count_append]at this;omega
  obtain⟨t1,t2⟩:=ih f (lv+1) (s+1) (x::z) y m k (nxt K hi) L1 u v1 v2 (by omega) v5 (by omega) (by omega) (λ q=>by have:=a1 q;omega) (λ q hq hm=>by
   rcases List.mem_cons.1 hm with e|e
   .have h1:=a1 q;have h2:=List.count_pos_iff.2 hq;have h3:0 < [x].count q:=List.count_pos_iff.2 (by simp[e]);omega
   .exact E q (zq0 _ (zf1 _ hq)) e)
  have e0:downF zaf9 a (f+1) lv s z x=goF zaf9.en (downF zaf9 a f (lv+1)) [y] (s+1) (x::z):=by rw[downF,if_neg (E x (by simp)),a0];show(if (0:Int)≠0 then _ else goF zaf9.en _ (n.kd.take 1) (s+1) (x::z))=_;rw[if_neg (by decide),a3];rfl
  rw[e0];unfold goF;rw[if_neg (by simp[zaf9]),if_neg (by rw[t1];decide)];exact⟨rfl,by show(downF zaf9 a f (lv+1) (s+1) (x::z) y).s=_;rw[t2];omega⟩
def zxy9{a:AS}{c u:Nat}{x:Int}{L:List E2}{B:List Int}(T:1<=c)(h:Tr a.V c u x L B)(Y:∀y,B.count y<=1):(fromF zaf9 a 0 x).e=0/\(fromF zaf9 a 0 x).s=u:=by
 unfold fromF;cases u with
 | zero=>obtain⟨rfl,rfl,rfl⟩:=h;rw[if_pos rfl];exact⟨rfl,rfl⟩
 | succ Q=>obtain⟨a0,E,n,A,H,I,K,a4,O,rfl⟩:=h;rw[if_neg E];obtain⟨t1,t2⟩:=zrh9 T Q 16 1 0 [] x n eS none L A H I K O (by omega) (by omega) Y (λ y _ h=>by cases h);exact⟨t1,by rw[t2];omega⟩
def go_A{a:AS}{x:Int}(u:Ah.stv a.A x=1):(∀y,Ah.stv (a.go x).A y=if y=x then 0 else Ah.stv a.A y)/\(a.go x).A.L.count 0=a.A.L.count 0+1/\(a.go x).A.lo=a.A.lo/\(a.go x).A.L.length=a.A.L.length/\(a.go x).A.as=a.A.as:=by
 have hr:=zby9 (s:=a.A) (x:=x) (by rw[u];decide);have E:Ah.back x a.A=(true,Ah.put a.A (x-a.A.lo).toNat 0):=by unfold Ah.back;rw[if_neg (by omega)]
 have I:∀m,Ah.stv (Ah.put a.A (x-a.A.lo).toNat 0) m=if m=x then 0 else Ah.stv a.A m:=λ m=>by rw[Ah.stv_put (by omega),show((a.A.lo+(x-a.A.lo).toNat:Nat):Int)=x by omega]
 unfold AS.go;rw[E];refine⟨I,?_,rfl,by simp[Ah.put],rfl⟩;have:=Ah.cnt_set a.A.L (x-a.A.lo).toNat (by omega) 0 0;have H:Ah.G a.A.L (x-a.A.lo).toNat=1:=by unfold Ah.stv at u;rw[if_pos hr]at u;exact u
 rw[H]at this;show(a.A.L.set (x-a.A.lo).toNat 0).count 0=_;rw[if_neg (by decide),if_pos rfl]at this;omega
def gos_A:∀(l:List Int)(a:AS),l.Nodup->(∀y∈l,Ah.stv a.A y=1)->(∀y,Ah.stv (a.gos l).A y=if y∈l then 0 else Ah.stv a.A y)/\(a.gos l).A.L.count 0=a.A.L.count 0+l.length/\(a.gos l).A.lo=a.A.lo/\(a.gos l).A.L.length=a.A.L.length/\(a.gos l).A.as=a.A.as
 | [],a,_,_=>⟨λ y=>by simp[zhb9],by simp[zhb9],rfl,rfl,rfl⟩
 | x::l,a,hn,hs=>by
  obtain⟨n1,T⟩:=List.nodup_cons.1 hn;obtain⟨E,I,K,O,Q⟩:=go_A (hs x zp0);obtain⟨Y,t2,t3,t4,t5⟩:=gos_A l (a.go x) T (λ y H=>by
   rw[E,if_neg (fun(e:y=x)=>n1 (e▸H))];exact hs y (zq0 _ H))
  rw[zid9];refine⟨λ y=>?_,by rw[t2,I,zk0];omega,t3.trans K,t4.trans O,t5.trans Q⟩;rw[Y,E];by_cases e:y∈l
  .simp[e]
  .by_cases u:y=x
   .simp[e,u]
   .simp[e,u]
def gos_FP:∀(l:List Int)(a:AS)(x:Int),(a.gos l).F x=(if x∈l then false else a.F x)
 | [],a,x=>by simp[zhb9]
 | y::l,a,x=>by
  rw[zid9,gos_FP l];by_cases h:x∈l
  .simp[h]
  .by_cases e:x=y
   .subst e;simp[AS.go,updI]
   .simp[h,e,AS.go,updI]
structure Amp(a:AS):Prop where
 ao:Ao a
 lo:1<=a.A.lo
 sa:a.A.as=0
