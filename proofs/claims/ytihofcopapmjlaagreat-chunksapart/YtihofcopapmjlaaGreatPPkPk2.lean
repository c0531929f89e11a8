import Derived.Test.YtihofcopapmjlaaGreatPPkPk1
import Derived.Test.YtihofcopapmjlaaGreatPPkStm
import Derived.Test.YtihofcopapmjlaaGreatPMBest
import Derived.Test.YtihofcopapmjlaaGreatPPkBody
import Derived.Test.YtihofcopapmjlaaGreatPHKey
set_option maxRecDepth 100000
set_option linter.all false
set_option maxHeartbeats 8000000
namespace Go.Proofs.YtihofcopapmjlaaGreat
open Go.Proofs.Tryz
section
open Go.RowKit Pl
def AFj{q W}(E:q.length<=65536)(B:W<=65536){ps p}(h:SC q W ps p):(∀x∈ps,Cu x)/\4*ps.length<=p:=by
 induction h with
 | nil=>simp
 | snoc ps p l h A I=>
  obtain⟨s1,J,K,L,O,_⟩:=JH A;refine⟨λ x f=>?_,by simp;omega⟩;rw[zf0,List.mem_singleton]at f;rcases f with f|rfl
  .grind
  .intro i r
   match i,r with
   | 0,_=>simp[DY];omega
   | 1,_=>simp[DY];omega
   | 2,_=>simp[DY];omega
def QO(f)(A:f.length<=65536):(∀x∈steps f 65536,Cu x)/\(steps f 65536).length<=16384/\4*(steps f 65536).length<=f.length:=by
 obtain⟨B,E,q⟩:=Oe f 65536 f.length;obtain⟨a,b⟩:=AFj A (AE _) q;have:4*(steps f 65536).length<=f.length:=by
  have r:4*(Ad f 65536 f.length).2.2.length<=f.length:=by omega
  exact r
 exact⟨a,by omega,this⟩
def VA(ps:List Sq)(most:Int):∀k,(rs [] ps most k).2.2=[]
 | 0=>rfl
 | k+1=>by
  have q:=VA ps most k;simp only[rs];split;exact q
  .split;rfl
   .rename_i hok;split;rfl;simp only;rw[q];(have f:Fh (ps.getD k AR) (([]:List Int).length-(rs [] ps most k).2.1) (rs [] ps most k).2.2.length=true:=by grind);rw[q]at f;unfold Fh at f;rw[zg1]at f;simp only[List.length_nil,Nat.zero_sub]at f;(have r:(ps.getD k AR).2.1=0:=by omega);rw[r];simp[DT]
def AFb(ps most):(Dl [] ps most).2=[]:=by
 unfold Dl;split;rfl
 .split;rfl
  .split;rfl;simp[VA]
def To{f L}(r:f.length<=65536)(B:0<f.length)(h:GH f (steps f 65536)=(0,L)):1<=L.length:=by
 obtain⟨A,q,E,_,_⟩:=Po f 65536 r;rw[h]at q;simp only[Prod.mk.injEq,true_and]at q;subst q;by_cases e:L.length=0
 .have:L=[]:=ze0 e;subst this;have I:=AFb (steps f 65536) (f.length:Int)
  grind
 .omega
def RV{xs ys}(h:By xs)(k:By ys):By (xs++ys):=by intro i;rw[Ge];split;exact h i;exact k _
def Ow{q L ps}(r:By q)(h:GH q ps=(0,L)):By L:=by
 have A:∀k t,Bj q ps k=some t->By t.2:=by
  intro k;induction k with
  | zero=>intro t f;simp[Bj]at f;subst f;exact By.nil
  | succ k B=>intro t f;simp only[Bj]at f;split at f;cases f;rename_i t0 h0;split at f;cases f;cases f;exact RV (B t0 h0) (By.take (By.drop r _) _)
 unfold GH at h;split at h;cases h;rename_i t f;simp only[Prod.mk.injEq,true_and]at h;subst h;exact RV (A _ t f) (By.drop r _)
def LP(ds bs:List Int):Prop:=∃L lb,GH ds (steps ds 65536)=(0,L)/\L.length<=ds.length/\JE L lb/\lb.length<=70000/\bs=lb++GL (steps ds 65536)
def Xb(g r xs v q w)(h:Sk w g r 0 xs)(hr:Rd .u8 w v q)(hy:By q)(h0:0<q.length)(hn:q.length<=65536)(Am:v.ownBlock≠some g)(ac:∀k,v.ownBlock=some k->r.ownBlock≠some k)(hl:xs.length<=1000):
 Calls prog 97 #[.pointer (some ⟨g,0,none⟩),v] w λ e w'=>e=.returned (.pointer (some ⟨g,0,none⟩))/\∃an bs,LP q bs/\Aq w g r w' an 0 (xs++bs):=by
 have H:=z6 h;have HR:=z6 hr;have HY:=z6 hy;have HV:Hid (v.ownBlock≠some g/\∀k,v.ownBlock=some k->r.ownBlock≠some k):=⟨Am,ac⟩
 obtain⟨L,K,_,_,ak⟩:=Po q 65536 hn;have al:=To hn h0 K;have ai:=z6 (Ow hy K);obtain⟨af,ag,_⟩:=QO q hn;have a7:=z6 af;have a6:Hid (MA q 65536=(0,steps q 65536)):=by show _=_;unfold MA;rw[if_neg (by omega)];rfl
 have a0:=z6 K;obtain⟨X,a3⟩:=exH (steps q 65536);rw[a3.o]at a7 a6 a0 ag;clear h hr hy Am ac K af
 go_enter func97,ntmps97
 go_wp2_with fail;have Y:=AAB v q 65536 w HR.o HY.o;rw[a6.o]at Y;refine Y.mono ?_;clear Y;rintro e w1 ⟨A,rfl,O,a2,aa⟩;have S1:=z6 (H.o.below O);have B1:=z6 O;have O1:=z6 aa;have B:Hid (∀k,A.ownBlock=some k->k≠g/\r.ownBlock≠some k):=λ k f=>⟨by have:=a2 k f;have:=H.o.lt;omega,λ e=>by have:=a2 k f;have:=H.o.own.lt k e;omega⟩
 have R1:=z6 (HR.o.below O);simp only;clear O a2 aa H HR;go_wp2_with fail;refine(JY g r 0 0 xs w1 S1.o).mono ?_;rintro e w2 ⟨rfl,a4,T⟩;rw[Ec]at a4;have J:=z6 (Aq.pre B1.o (Aq.kept a4 T));have I:=z6 (O1.o.tch T (λ k f e=>(B.o k f).1 e));have R2:=z6 (R1.o.tch T (λ b hb e=>HV.o.1 (by rw[hb,e])));clear a4 T S1 B1 O1 R1;go_wp2_with fail;have Z:=ACU v A q X w2 R2.o (by omega) I.o.rd (by omega);rw[a0.o]at Z;refine Z.mono ?_;clear Z;rintro e w3 ⟨lv,rfl,a1,a8,ab⟩;have S3:=z6 (J.o.post a1);have O3:=z6 (I.o.below a1);have L3:=z6 ab;have N3:Hid (∀k,lv.ownBlock=some k->k≠g/\r.ownBlock≠some k/\A.ownBlock≠some k):=λ k f=>by
  have h1:=a8 k f;refine⟨by have:=J.o.sk.lt;omega,λ e=>by have:=J.o.sk.own.lt k e;omega,λ e=>?_⟩;have:=(World.ownsRow.lt (show w2.ownsRow 0 244 3 A _ _ from I.o) k e).2;omega
 simp only;clear a1 a8 ab J I R2;go_wp2_with fail;refine(JY g r 0 0 xs w3 S3.o.sk).mono ?_;rintro e w4 ⟨rfl,a5,U⟩;rw[Ec]at a5;have S4:=z6 (S3.o.trans (Aq.kept a5 U));have O4:=z6 (O3.o.tch U (λ k f e=>(B.o k f).1 e));have L4:=z6 (L3.o.tch U (λ k f e=>(N3.o k f).1 e));clear a5 U S3 O3 L3;go_wp2_with fail;refine(AEW g r 0 xs lv L w4 S4.o.sk L4.o.rd ai.o al (by omega) hl (λ e=>(N3.o g e).1 rfl) (λ k f=>(N3.o k f).2.1) L4.o.lt).mono ?_;rintro e w5 ⟨rfl,ad,W,a9,am,E⟩;have S5:=z6 (S4.o.trans E);have O5:=z6 (O4.o.tch E.tch (λ k f e=>by rcases e with e|e;(· exact(B.o k f).1 e);(· exact(B.o k f).2 e)));have aj:=z6 a9;have N5:Hid (∀k,A.ownBlock=some k->ad.ownBlock≠some k/\k<w5.heap.size):=λ k f=>by
  have ao:=(World.ownsRow.lt (show w4.ownsRow 0 244 3 A _ _ from O4.o) k f).2;refine⟨λ e=>?_,by have:=E.tch.size;omega⟩;rcases E.fresh k e with e|e;exact(B.o k f).2 e;omega
 clear E a9 S4 O4 L4;go_wp2_with fail;refine(AEZ g ad 0 (xs++W) A X w5 S5.o.sk O5.o.rd a7.o ag (by rw[zc0];omega) (λ e=>(B.o g e).1 rfl) (λ k f=>(N5.o k f).1) (λ k f=>(N5.o k f).2)).mono ?_;rintro e w6 ⟨rfl,ae,h6⟩;have S6:Hid (Aq w g r w6 ae 0 (xs++(W++GL X))):=by have:=S5.o.trans h6;rw[zr0]at this;exact this
 clear h6 S5 O5;go_wp2_with fail;go_ret;exact⟨rfl,ae,W++GL X,⟨L,W,by rw[a3.o];exact a0.o,ak,aj.o,am,by rw[a3.o]⟩,S6.o⟩
structure Pb(w w':World)(D:Nat)(a:Option Addr)(n cap:Nat)(g:Nat)(ov:Value)(xs:List Int):Prop where
 bel:Below w.heap.size w w'
 hD:D=w.heap.size
 dat:w'.heap[D]?=some (.cells #[.slice a n cap] 40 (0,0))
 sk:Sk w' g ov 0 xs
 hg:D<g
 hov:∀k,ov.ownBlock=some k->D<k
def Pb.c{w w' D a n cap g f xs}(h:Pb w w' D a n cap g f xs):w'.cell? ⟨D,0,none⟩=some (.slice a n cap):=by rw[cell_of_row w' D 0 _ _ (0,0) h.dat];rfl
def Pb.blw{w w' r D a n cap g q xs}(h:Pb w w' D a n cap g q xs)(f:Below w'.heap.size w' r):Pb w r D a n cap g q xs:=
 ⟨h.bel.trans (f.mono h.bel.size),h.hD,by rw[(AD.of_below (S:=λ _=>False) f).block D (by have:=(za0.1 h.dat).1;exact this) (λ e=>e)];exact h.dat,h.sk.below f,h.hg,h.hov⟩
def Pb.to{w w' A D a n cap g q r xs ys}(h:Pb w w' D a n cap g q xs)(f:Aq w' g q A r 0 ys):Pb w A D a n cap g r ys:=by
 have B:=(za0.1 h.dat).1;refine⟨h.bel.trans (f.tch.below h.bel.size (λ k e=>?_)),h.hD,?_,f.sk,h.hg,λ k E=>?_⟩;have:=h.hD;rcases e with e|e;have:=h.hg;omega;have:=h.hov k e;omega
 .rw[f.tch.block D B (λ e=>?_)];exact h.dat;rcases e with e|e;have:=h.hg;omega;have:=h.hov D e;omega
 .rcases f.fresh k E with e|e;exact h.hov k e;omega
structure Pc(w w':World)(D:Nat)(a:Option Addr)(n cap:Nat)(g:Nat)(ov:Value)(xs:List Int)(g2:Nat)(ov2:Value)(ys:List Int):Prop where
 p:Pb w w' D a n cap g ov xs
 q:Pb w w' D a n cap g2 ov2 ys
 ne:g2≠g
 ne1:ov.ownBlock≠some g2
 ne2:∀k,ov2.ownBlock=some k->k≠g/\ov.ownBlock≠some k
def Pc.blw{w w' E D a n cap g f A B xs ys}(h:Pc w w' D a n cap g A xs f B ys)(r:Below w'.heap.size w' E):Pc w E D a n cap g A xs f B ys:=
 ⟨h.p.blw r,h.q.blw r,h.ne,h.ne1,h.ne2⟩
def Pc.to{w w' J D a n cap g f B E I xs ys K}(h:Pc w w' D a n cap g B xs f E ys)(A:Aq w' f E J I 0 K):Pc w J D a n cap g B xs f I K:=by have q:=h.q.to A;refine⟨⟨q.bel,q.hD,q.dat,h.p.sk.tch A.tch (λ e=>?_) (λ k r e=>?_),h.p.hg,h.p.hov⟩,q,h.ne,h.ne1,λ k r=>?_⟩;rcases e with e|e;exact h.ne e.symm;exact(h.ne2 g e).1 rfl;rcases e with e|e;exact h.ne1 (by grind);exact(h.ne2 k e).2 r;rcases A.fresh k r with e|e;exact h.ne2 k e;have O:=h.p.sk.lt;exact⟨by omega,λ L=>by have:=h.p.sk.own.lt k L;omega⟩
def Pb.head{w w' D a n cap g B xs}(h:Pb w w' D a n cap g B xs)(q)(K:n<=65536):
 Calls prog 91 #[.int .u8 q,.pointer (some ⟨D,0,none⟩)] w' λ e E=>∃f r,e=.returned (.pointer (some ⟨f,0,none⟩))/\Pc w E D a n cap g B xs f r ([q]++AQ n):=by
 refine(MK D q a n cap w' h.c K).mono ?_;rintro e E ⟨f,r,rfl,L,I,T,J⟩;have p:=h.blw I;have O:=(za0.1 h.dat).1;have U:=h.sk.lt;refine⟨f,r,rfl,p,⟨p.bel,p.hD,p.dat,L,by omega,λ k A=>by grind⟩,by omega,λ e=>by have:=h.sk.own.lt f e;omega,λ k A=>?_⟩;have:=J k A;exact⟨by omega,λ e=>by have:=h.sk.own.lt k e;omega⟩
def Pc.asRun{w w' D a n cap g f B E xs ys}(h:Pc w w' D a n cap g B xs f E ys)(r)(hr:Rd .u8 w (.slice a n cap) r)(J:0<r.length)(O:∀k,(Value.slice a n cap).ownBlock=some k->k<w.heap.size)(L:ys.length<=1000):
 Calls prog 96 #[.pointer (some ⟨f,0,none⟩),.slice a n cap] w' λ e I=>e=.returned (.pointer (some ⟨f,0,none⟩))/\∃A,Pc w I D a n cap g B xs f A (ys++[r.getD 0 0]):=by
 refine(Xc f E 0 ys _ r w' h.q.sk (hr.below h.q.bel) J (λ e=>by have:=O f e;have:=h.q.hg;have:=h.q.hD;omega) L).mono ?_;rintro e I ⟨rfl,A,K⟩;exact⟨rfl,A,h.to K⟩
def Pc.asPacked{w w' D a n cap g r E I xs ys}(h:Pc w w' D a n cap g E xs r I ys)(f)(hr:Rd .u8 w (.slice a n cap) f)(X:By f)(K:0<f.length)(W:f.length<=65536)(B:∀k,(Value.slice a n cap).ownBlock=some k->k<w.heap.size)(U:ys.length<=1000):
 Calls prog 97 #[.pointer (some ⟨r,0,none⟩),.slice a n cap] w' λ e J=>e=.returned (.pointer (some ⟨r,0,none⟩))/\∃A bs,LP f bs/\Pc w J D a n cap g E xs r A (ys++bs):=by
 refine(Xb r I ys _ f w' h.q.sk (hr.below h.q.bel) X K W (λ e=>by have:=B r e;have:=h.q.hg;have:=h.q.hD;omega) (λ k T e=>by have:=B k T;have:=h.q.hov k e;have:=h.q.hD;omega) U).mono ?_;rintro e J ⟨rfl,A,bs,O,L⟩;exact⟨rfl,A,bs,O,h.to L⟩
def shr(xs ys:List Int):List Int:=if ys.length<xs.length then ys else xs
def Pc.shorter{w w' D a n cap g f A B xs ys}(h:Pc w w' D a n cap g A xs f B ys):
 Calls prog 95 #[.pointer (some ⟨g,0,none⟩),.pointer (some ⟨f,0,none⟩)] w' λ e J=>∃E K,e=.returned (.pointer (some ⟨E,0,none⟩))/\Pb w J D a n cap E K (shr xs ys):=by
 refine(AF0 g f A B 0 0 xs ys w' h.p.sk h.q.sk).mono ?_;rintro e J ⟨rfl,q,rfl⟩;have I:Below w'.heap.size w' (w'.drewN q):=Below.of_drewN _ _ _;unfold shr;by_cases r:ys.length<xs.length;rw[if_pos r,if_pos r];exact⟨f,B,rfl,h.q.blw I⟩;rw[if_neg r,if_neg r];exact⟨g,A,rfl,h.p.blw I⟩
def D8(ds:List Int):List Int:=[0]++AQ ds.length++ds
def VE(ds:List Int):List Int:=[1]++AQ ds.length++[ds.getD 0 0]
def EI(ds:List Int):List Int:=if EG ds then shr (D8 ds) (VE ds)else D8 ds
def GZ(ds out:List Int):Prop:=∃b,out=b++BO (BU ds)/\((ds.length=0/\b=D8 ds)\/(0<ds.length/\∃bs,LP ds bs/\b=shr (EI ds) ([2]++AQ ds.length++bs)))
def Kn(xs ys):(shr xs ys).length<=xs.length:=by unfold shr;grind
def Pd(f):(D8 f).length<=f.length+6:=by have:=F0 (f.length:Int);simp[D8];omega
def RK(f):(EI f).length<=f.length+6:=by unfold EI;split;exact Aw (Kn _ _) (Pd f);exact Pd f
def AD2(v f w)(hr:Rd .u8 w v f)(hy:By f)(hn:f.length<=65536)(a7:∀k,v.ownBlock=some k->k<w.heap.size)(a0:f.length=0):
 Calls prog 60 #[v] w λ e w'=>∃r a8,e=.returned (.tuple #[r,.int .i64 0])/\GZ f a8/\AF .u8 5 w' r a8/\Below w.heap.size w w'/\∀k,r.ownBlock=some k->w.heap.size<=k:=by
 have af:∀fn first cap w,(Instr.makeFunc fn first cap).run prog w=.ok (.func fn first cap) w:=λ _ _ _ _=>rfl
 obtain⟨a,cap,rfl,a5,ad,a6,a4⟩:=hr;have J:Hid (Rd .u8 w (.slice a f.length cap) f):=⟨a,cap,rfl,a5,ad,a6,a4⟩
 have HY:=z6 hy;have a2:=z6 a7;have ab:=z6 a0;have a9:Hid (EG f=false):=by show _=_;unfold EG;rw[AT];exact λ e=>by omega
 obtain⟨n,T⟩:=exN f.length;have W:=z6 T;have ae:n=0:=by rw[<-T];exact a0
 have ac:Hid ((AQ (n:Int)).length<=5):=(F0 _).2;rw[T]at hn a5 J a2 |-
 clear a4 a6 hy a7 T a0;subst ae
 go_enter func60,ntmps60
 go_wp2_with fail;obtain⟨L,O⟩:=exH (w.alloc (.cells #[.slice a 0 cap] 40));rw[O.o];obtain⟨D,Z⟩:=exN w.heap.size;rw[Z];have I:Hid (L.heap[D]?=some (.cells #[.slice a 0 cap] 40 (0,0))):=by rw[<-O.o,<-Z];exact heap_alloc_new w _
 have U:Hid (Below w.heap.size w L):=by rw[<-O.o];exact(Below.refl _ _).alloc (AE _) _
 clear O;refine(MK D 0 a 0 cap L (by rw[cell_of_row L D 0 _ _ (0,0) I.o];rfl) hn).mono ?_;rintro e w1 ⟨g,r,rfl,hs,hb,hg,hf⟩;have q:Hid (Pb w w1 D a 0 cap g r ([0]++AQ ((0:Nat):Int))):=by have hd:=(za0.1 I.o).1;refine⟨U.o.trans (hb.mono U.o.size),Z.symm,?_,hs,by omega,λ k hk=>by have:=hf k hk;omega⟩;rw[(AD.of_below (S:=λ _=>False) hb).block D hd (λ e=>e)];exact I.o
 have c1:=q.o.c;clear I U hs hb hg hf;go_wp2_with fail;refine(Fj g r 0 0 _ _ f w1 q.o.sk (J.o.below q.o.bel) (λ e=>by have:=a2.o g e;have:=q.o.hg;omega) (by have:=ac.o;have:=W.o;simp only[zc0,zh0,List.length_nil];omega)).mono ?_;rintro e w2 ⟨rfl,a1,X⟩;rw[Ec]at X;have K:Hid (Pb w w2 D a 0 cap g a1 (D8 f)):=by have:=q.o.to X;unfold D8;rw[W.o];exact this
 have c2:=K.o.c;clear X q c1;go_wp2_with fail;refine(Oo _ f w2 (J.o.below K.o.bel) HY.o).mono ?_;rintro e w3 ⟨rfl,rfl⟩;rw[a9.o];go_wp2_with fail;obtain⟨B,a3⟩:=exN (D8 f);have Y:=z6 a3;clear a3;have E:Hid (Pb w w3 D a 0 cap g a1 B):=by rw[<-Y.o];exact K.o
 have aa:Hid (B.length<=70000):=by show _<=_;rw[<-Y.o];have:=Pd f;have:=W.o;omega
 clear K;have cz:=E.o.c;go_wp2_with fail;refine(QB g a1 0 B _ f w3 E.o.sk (J.o.below E.o.bel) HY.o (by have:=aa.o;omega)).mono ?_;rintro e wz ⟨rfl,oz,hz⟩;have A:=z6 (E.o.to hz);have k0:=A.o.sk.c0;have k1:=A.o.sk.c1;clear hz E cz;go_wp2_with fail;go_ret2;refine⟨oz,_,rfl,⟨B,rfl,?_⟩,A.o.sk.own,A.o.bel,λ k hk=>by have:=A.o.hov k hk;omega⟩;exact .inl ⟨ab.o,Y.o.symm⟩
def AD5(v f w)(hr:Rd .u8 w v f)(hy:By f)(Y:f.length<=65536)(ag:∀k,v.ownBlock=some k->k<w.heap.size)(X:0<f.length/\EG f=true):
 Calls prog 60 #[v] w λ e w'=>∃I aj,e=.returned (.tuple #[I,.int .i64 0])/\GZ f aj/\AF .u8 5 w' I aj/\Below w.heap.size w w'/\∀k,I.ownBlock=some k->w.heap.size<=k:=by
 have b0:∀fn first cap w,(Instr.makeFunc fn first cap).run prog w=.ok (.func fn first cap) w:=λ _ _ _ _=>rfl
 obtain⟨a,cap,rfl,ae,av,af,ad⟩:=hr;have A:Hid (Rd .u8 w (.slice a f.length cap) f):=⟨a,cap,rfl,ae,av,af,ad⟩
 have HY:=z6 hy;have O:=z6 ag;have a0:=z6 X;have a9:=z6 X.2;obtain⟨n,Z⟩:=exN f.length;have r:=z6 Z;have b2:0<n:=by rw[<-Z];exact X.1
 have a1:Hid ((AQ (n:Int)).length<=5):=(F0 _).2;rw[Z]at Y ae A O |-
 clear ad af hy ag Z X
 go_enter func60,ntmps60
 go_wp2_with fail;obtain⟨U,W⟩:=exH (w.alloc (.cells #[.slice a n cap] 40));rw[W.o];obtain⟨D,hD⟩:=exN w.heap.size;rw[hD];have L:Hid (U.heap[D]?=some (.cells #[.slice a n cap] 40 (0,0))):=by rw[<-W.o,<-hD];exact heap_alloc_new w _
 have B0:Hid (Below w.heap.size w U):=by rw[<-W.o];exact(Below.refl _ _).alloc (AE _) _
 clear W;refine(MK D 0 a n cap U (by rw[cell_of_row U D 0 _ _ (0,0) L.o];rfl) Y).mono ?_;rintro e w1 ⟨g,I,rfl,hs,hb,hg,hf⟩;have E:Hid (Pb w w1 D a n cap g I ([0]++AQ n)):=by have hd:=(za0.1 L.o).1;refine⟨B0.o.trans (hb.mono B0.o.size),hD.symm,?_,hs,by omega,λ k hk=>by have:=hf k hk;omega⟩;rw[(AD.of_below (S:=λ _=>False) hb).block D hd (λ e=>e)];exact L.o
 have c1:=E.o.c;clear L B0 hs hb hg hf;go_wp2_with fail;refine(Fj g I 0 0 _ _ f w1 E.o.sk (A.o.below E.o.bel) (λ e=>by have:=O.o g e;have:=E.o.hg;omega) (by have:=a1.o;have:=r.o;simp only[zc0,zh0,List.length_nil];omega)).mono ?_;rintro e w2 ⟨rfl,ax,h2⟩;rw[Ec]at h2;have T:Hid (Pb w w2 D a n cap g ax (D8 f)):=by have:=E.o.to h2;unfold D8;rw[r.o];exact this
 have c2:=T.o.c;clear h2 E c1;go_wp2_with fail;refine(Oo _ f w2 (A.o.below T.o.bel) HY.o).mono ?_;rintro e w3 ⟨rfl,rfl⟩;rw[a9.o];go_wp2_with fail
 go_region_held3 (λ w'=>w'.cell? ⟨D,0,none⟩=some (.slice a n cap)) (go_keep)
  (first
   | (go_at_call 91;refine((T.o.blw (by repeat(first|exact Below.refl _ _|apply Below.drew))).head 1 Y).mono ?_;rintro e b7 ⟨g1,b3,rfl,q⟩;have a2:=z6 q;clear q;have an:=a2.o.p.c)
   | (go_at_call 96;refine((a2.o.blw (by repeat(first|exact Below.refl _ _|apply Below.drew))).asRun f A.o a0.o.1 O.o (by have:=a1.o;simp;omega)).mono ?_;rintro e b9 ⟨rfl,b5,q⟩;have a4:=z6 q;clear q;have ap:=a4.o.p.c)
   | (go_at_call 95;refine((a4.o.blw (by repeat(first|exact Below.refl _ _|apply Below.drew))).shorter).mono ?_;rintro e ay ⟨au,aw,rfl,q⟩;have a7:=z6 q;clear q;have ar:=a7.o.c))
 have a6:Hid (Pb w ay D a n cap au aw (EI f)):=by have:=a7.o;show Pb _ _ _ _ _ _ _ _ _;unfold EI VE;rw[if_pos a9.o,r.o];exact this
 clear a7 a2 a4 an ap ar T c2;have c3:=a6.o.c;go_wp2_with fail
 go_region_held3 (λ w'=>w'.cell? ⟨D,0,none⟩=some (.slice a n cap)) (go_keep)
  (first
   | (go_at_call 91;refine((a6.o.blw (by repeat(first|exact Below.refl _ _|apply Below.drew))).head 2 Y).mono ?_;rintro e b8 ⟨g2,b4,rfl,q⟩;have a3:=z6 q;clear q;have ao:=a3.o.p.c)
   | (go_at_call 97;refine((a3.o.blw (by repeat(first|exact Below.refl _ _|apply Below.drew))).asPacked f A.o HY.o a0.o.1 (by have:=r.o;omega) O.o (by have:=a1.o;simp;omega)).mono ?_;rintro e ba ⟨rfl,b6,bs,ac,q⟩;have am:=z6 ac;have a5:=z6 q;clear q ac;have aq:=a5.o.p.c)
   | (go_at_call 95;refine((a5.o.blw (by repeat(first|exact Below.refl _ _|apply Below.drew))).shorter).mono ?_;rintro e ak ⟨aa,ai,rfl,q⟩;have a8:=z6 q;clear q;have az:=a8.o.c))
 clear a6 a3 a5 ao aq c3;obtain⟨B,ab⟩:=exN (shr (EI f) (([2]++AQ n)++bs));have hB:=z6 ab;clear ab;have K:Hid (Pb w ak D a n cap aa ai B):=by rw[<-hB.o];exact a8.o
 have al:Hid (B.length<=70000):=by show _<=_;rw[<-hB.o];have:=Aw (Kn (EI f) (([2]++AQ n)++bs)) (RK f);have:=r.o;omega
 clear a8;have cz:=K.o.c;go_wp2_with fail;refine(QB aa ai 0 B _ f ak K.o.sk (A.o.below K.o.bel) HY.o (by have:=al.o;omega)).mono ?_;rintro e wz ⟨rfl,oz,hz⟩;have J:=z6 (K.o.to hz);have k0:=J.o.sk.c0;have k1:=J.o.sk.c1;clear hz K cz;go_wp2_with fail;go_ret2;refine⟨oz,_,rfl,⟨B,rfl,?_⟩,J.o.sk.own,J.o.bel,λ k hk=>by have:=J.o.hov k hk;omega⟩;exact .inr ⟨a0.o.1,bs,am.o,by rw[r.o];exact hB.o.symm⟩
def AD3(v f w)(hr:Rd .u8 w v f)(hy:By f)(hn:f.length<=65536)(ad:∀k,v.ownBlock=some k->k<w.heap.size)(W:0<f.length/\EG f=false):
 Calls prog 60 #[v] w λ e w'=>∃A af,e=.returned (.tuple #[A,.int .i64 0])/\GZ f af/\AF .u8 5 w' A af/\Below w.heap.size w w'/\∀k,A.ownBlock=some k->w.heap.size<=k:=by
 have ap:∀fn first cap w,(Instr.makeFunc fn first cap).run prog w=.ok (.func fn first cap) w:=λ _ _ _ _=>rfl
 obtain⟨a,cap,rfl,ab,an,ac,aa⟩:=hr;have I:Hid (Rd .u8 w (.slice a f.length cap) f):=⟨a,cap,rfl,ab,an,ac,aa⟩
 have HY:=z6 hy;have Z:=z6 ad;have a5:=z6 W;have a4:=z6 W.2;obtain⟨n,X⟩:=exN f.length;have E:=z6 X;have aq:0<n:=by rw[<-X];exact W.1
 have a6:Hid ((AQ (n:Int)).length<=5):=(F0 _).2;rw[X]at hn ab I Z |-
 clear aa ac hy ad X W
 go_enter func60,ntmps60
 go_wp2_with fail;obtain⟨T,U⟩:=exH (w.alloc (.cells #[.slice a n cap] 40));rw[U.o];obtain⟨D,hD⟩:=exN w.heap.size;rw[hD];have L:Hid (T.heap[D]?=some (.cells #[.slice a n cap] 40 (0,0))):=by rw[<-U.o,<-hD];exact heap_alloc_new w _
 have Y:Hid (Below w.heap.size w T):=by rw[<-U.o];exact(Below.refl _ _).alloc (AE _) _
 clear U;refine(MK D 0 a n cap T (by rw[cell_of_row T D 0 _ _ (0,0) L.o];rfl) hn).mono ?_;rintro e w1 ⟨g,A,rfl,hs,hb,hg,hf⟩;have r:Hid (Pb w w1 D a n cap g A ([0]++AQ n)):=by have hd:=(za0.1 L.o).1;refine⟨Y.o.trans (hb.mono Y.o.size),hD.symm,?_,hs,by omega,λ k hk=>by have:=hf k hk;omega⟩;rw[(AD.of_below (S:=λ _=>False) hb).block D hd (λ e=>e)];exact L.o
 have c1:=r.o.c;clear L Y hs hb hg hf;go_wp2_with fail;refine(Fj g A 0 0 _ _ f w1 r.o.sk (I.o.below r.o.bel) (λ e=>by have:=Z.o g e;have:=r.o.hg;omega) (by have:=a6.o;have:=E.o;simp only[zc0,zh0,List.length_nil];omega)).mono ?_;rintro e w2 ⟨rfl,ag,h2⟩;rw[Ec]at h2;have O:Hid (Pb w w2 D a n cap g ag (D8 f)):=by have:=r.o.to h2;unfold D8;rw[E.o];exact this
 have c2:=O.o.c;clear h2 r c1;go_wp2_with fail;refine(Oo _ f w2 (I.o.below O.o.bel) HY.o).mono ?_;rintro e w3 ⟨rfl,rfl⟩;rw[a4.o];go_wp2_with fail;have a2:Hid (Pb w w3 D a n cap g ag (EI f)):=by have:=O.o;show Pb _ _ _ _ _ _ _ _ _;unfold EI;rw[if_neg (by rw[a4.o];exact Bool.false_ne_true)];exact this
 clear O;have c3:=a2.o.c
 go_region_held3 (λ w'=>w'.cell? ⟨D,0,none⟩=some (.slice a n cap)) (go_keep)
  (first
   | (go_at_call 91;refine((a2.o.blw (by repeat(first|exact Below.refl _ _|apply Below.drew))).head 2 hn).mono ?_;rintro e av ⟨g2,ar,rfl,q⟩;have a0:=z6 q;clear q;have al:=a0.o.p.c)
   | (go_at_call 97;refine((a0.o.blw (by repeat(first|exact Below.refl _ _|apply Below.drew))).asPacked f I.o HY.o a5.o.1 (by have:=E.o;omega) Z.o (by have:=a6.o;simp;omega)).mono ?_;rintro e aw ⟨rfl,au,bs,a9,q⟩;have ak:=z6 a9;have a1:=z6 q;clear q a9;have am:=a1.o.p.c)
   | (go_at_call 95;refine((a1.o.blw (by repeat(first|exact Below.refl _ _|apply Below.drew))).shorter).mono ?_;rintro e ai ⟨a7,ae,rfl,q⟩;have a3:=z6 q;clear q;have ao:=a3.o.c))
 clear a2 a0 a1 al am c3;obtain⟨B,a8⟩:=exN (shr (EI f) (([2]++AQ n)++bs));have hB:=z6 a8;clear a8;have K:Hid (Pb w ai D a n cap a7 ae B):=by rw[<-hB.o];exact a3.o
 have aj:Hid (B.length<=70000):=by show _<=_;rw[<-hB.o];have:=Aw (Kn (EI f) (([2]++AQ n)++bs)) (RK f);have:=E.o;omega
 clear a3;have cz:=K.o.c;go_wp2_with fail;refine(QB a7 ae 0 B _ f ai K.o.sk (I.o.below K.o.bel) HY.o (by have:=aj.o;omega)).mono ?_;rintro e wz ⟨rfl,oz,hz⟩;have J:=z6 (K.o.to hz);have k0:=J.o.sk.c0;have k1:=J.o.sk.c1;clear hz K cz;go_wp2_with fail;go_ret2;refine⟨oz,_,rfl,⟨B,rfl,?_⟩,J.o.sk.own,J.o.bel,λ k hk=>by have:=J.o.hov k hk;omega⟩;exact .inr ⟨a5.o.1,bs,ak.o,by rw[E.o];exact hB.o.symm⟩
def ADz(v f w)(hr:Rd .u8 w v f)(A:By f)(q:f.length<=65536)(r:∀k,v.ownBlock=some k->k<w.heap.size):
 Calls prog 60 #[v] w λ e w'=>∃B E,e=.returned (.tuple #[B,.int .i64 0])/\GZ f E/\AF .u8 5 w' B E/\Below w.heap.size w w'/\∀k,B.ownBlock=some k->w.heap.size<=k:=by
 by_cases I:f.length=0;exact AD2 v f w hr A q r I
 .cases h:EG f with
  | true=>exact AD5 v f w hr A q r ⟨by omega,h⟩
  | false=>exact AD3 v f w hr A q r ⟨by omega,h⟩
def Kc(n:Nat)(f)(h:n<=4294967295):AV (some (AQ (n:Int)++f))=((n:Int),some f):=by unfold AV;simp only;rw[PK (n:Int) f (by omega) (by omega)];simp
def Mb(x f):BQ (some (x::f))=(x,some f):=by unfold BQ;simp
def JO(xs f):Ay (some (xs++f)) xs.length=(xs,some f):=by unfold Ay;simp
def Pz(xs f)(h:xs.length<=4294967295):C6 (some (AQ (xs.length:Int)++xs++f))=(xs,some f):=by unfold C6;rw[zr0,Kc _ _ h];simp only[Int.toNat_natCast];exact JO xs f
theorem Vq(c):(BO c).length=4:=rfl
def Vx(c)(hc:c<=4294967295)(f):E8 (some (BO c++f))=((c:Int),some f):=by have h:Ay (some (BO c++f)) 4=(BO c,some f):=JO (BO c) f;unfold E8;rw[h];simp only[Prod.mk.injEq,and_true];show Ev (BO c) 4=_;simp only[Ev,BO,List.getD_cons_zero,List.getD_cons_succ];omega
def AGq(l)(h:l.length<4):(E8 (some l)).2=none:=by
 unfold E8 Ay
 grind
def R9(f):BU f<=4294967295:=by unfold BU;omega
def NA{m n q f r}(I:m<=2)(J:n<=65536)(E:bodyS (some (q++f)) m n=(r,some f)){most}(A:0<=most)(B:most<=65536):
 unpS ([m]++AQ (n:Int)++q++f) most=if most<(n:Int)then(11,[])else if (E8 (some f)).2.isNone=true\/0<((E8 (some f)).2.getD []).length then(5,[])else if (E8 (some f)).1=(BU r:Int)then(0,r)else(6,[]):=by
 unfold unpS;rw[if_neg (by omega)];have e:[m]++AQ (n:Int)++q++f=m::(AQ (n:Int)++(q++f)):=by simp
 rw[e,Mb];simp only;rw[Kc n _ (by omega)];simp only;unfold unpT
 grind
def AHq{m n q f}(E:m<=2)(I:n<=65536)(B:∀r,bodyS (some (q++r)) m n=(f,some r)){most}(J:(n:Int)<=most)(A:most<=65536):
 unpS ([m]++AQ (n:Int)++q++BO (BU f)) most=(0,f):=by
 rw[NA E I (B _) (by omega) A,if_neg (by omega)];have h:=Vx (BU f) (R9 f) [];simp_all
def AHp{m n q r f}(I:m<=2)(J:n<=65536)(E:bodyS (some (q++f)) m n=(r,some f)){most}(A:0<=most)(B:most<(n:Int)):
 unpS ([m]++AQ (n:Int)++q++f) most=(11,[]):=by
 rw[NA I J E A (by omega),if_pos B]
def AHo{m n q f}(E:m<=2)(I:n<=65536)(B:∀r,bodyS (some (q++r)) m n=(f,some r)){most}(J:(n:Int)<=most)(A:most<=65536)(x):
 unpS ([m]++AQ (n:Int)++q++(BO (BU f)++[x])) most=(5,[]):=by
 rw[NA E I (B _) (by omega) A,if_neg (by omega),Vx (BU f) (R9 f) [x],if_pos (by simp)]
def AHn{m n q r f}(E:m<=2)(I:n<=65536)(B:bodyS (some (q++f)) m n=(r,some f))(J:f.length<4){most}(K:(n:Int)<=most)(A:most<=65536):
 unpS ([m]++AQ (n:Int)++q++f) most=(5,[]):=by
 rw[NA E I B (by omega) A,if_neg (by omega),if_pos (by rw[AGq f J];simp)]
def AEj(f q):bodyS (some (f++q)) 0 f.length=(f,some q):=by unfold bodyS;rw[if_pos rfl];exact JO f q
def XS{f}(h:EG f=true):List.replicate f.length (f.getD 0 0)=f:=by
 unfold EG at h;rw[zg1]at h;apply List.ext_getElem?
 grind
def AFX{f}(h:EG f=true)(q):bodyS (some ([f.getD 0 0]++q)) 1 f.length=(f,some q):=by
 have r:0<f.length:=by unfold EG at h;grind
 unfold bodyS;rw[if_neg (by decide),if_pos rfl];have e:Aj (some ([f.getD 0 0]++q)) (decide (0<(f.length:Int)))=some (f.getD 0 0::q):=by rw[zf1 (by omega)];rfl
 rw[e,Mb];simp only;rw[XS h]
def AAi{s lg}(A:Ca s lg){cs}(h:C9 s cs=true):J0 (nn s) s.length cs:=by unfold C9 at h;rw[zg1]at h;intro i r;obtain⟨q,f,B⟩:=h i r;refine⟨q,f,?_⟩;have:=A.each _ f;unfold nn;omega
def QP{cs}(h:Hs cs)(q):Dq (some (CG cs++q)) (cs.length:Int)=(cs,some q):=by
 obtain⟨_,A,Y,_,_,E,_,r⟩:=h.str;unfold CG;obtain⟨s,hs⟩:=exN ((C4 (Cc cs) 6).2);rw[hs]at A Y E r |-
 obtain⟨O,e6,L⟩:=Ca.of A;obtain rfl:O=6:=by omega
 have Z:EQ s 6=(0,[((6:Nat):Int)]++pk ((s.length:Int)::s) (s.length+1)):=by unfold EQ;grind
 have U:DB s 6 cs=(0,AJ (Cl (nn s) s.length (2 ^ 6) 6 cs++[1])):=by unfold DB;rw[if_neg (by grind),if_neg (by have:=h.le;grind)];rfl
 have J:=ZY L A h.le (AAi L E);rw[Z];rw[U]at r |-
 simp only at r |-
 obtain⟨f,W⟩:=exN (AJ (Cl (nn s) s.length (2 ^ 6) 6 cs++[1]));rw[W]at J r |-
 obtain⟨I,X⟩:=exN ([((6:Nat):Int)]++pk ((s.length:Int)::s) (s.length+1));have K:=AAh (s:=s) (lg:=6) A (AQ (f.length:Int)++(f++q));rw[X]at K |-
 unfold Dq;simp only;rw[Option.getD_some,zr0,zr0,K];simp only;have T:Aj (some (I++(AQ (f.length:Int)++(f++q)))) ((0:Int)==0&&decide ((s.length:Int)<=17))=some (I++(AQ (f.length:Int)++(f++q))):=by rw[zf1 (by omega)];rfl
 rw[T,Int.toNat_natCast,JO];simp only;have B:=Pz f q (by omega);rw[zr0]at B;rw[B];simp only;rw[J];rfl
def RM:∀(f x:Nat),x<2 ^ f->x≠0->1<=Lib.bitLenAux f x/\2 ^ (Lib.bitLenAux f x-1)<=x/\x<2 ^ Lib.bitLenAux f x
 | 0,x,h,h0=>by omega
 | f+1,x,h,h0=>by
  simp only[Lib.bitLenAux];rw[if_neg h0];by_cases e:x / 2=0
  .have B:x=1:=by omega
   have r:Lib.bitLenAux f 0=0:=by cases f<;>simp[Lib.bitLenAux]
   grind
  .have q:x / 2<2 ^ f:=by omega
   obtain⟨a,b,c⟩:=RM f (x / 2) q e;obtain⟨k,A⟩:∃k,Lib.bitLenAux f (x / 2)=k+1:=⟨Lib.bitLenAux f (x / 2)-1,by omega⟩
   grind
def YX{v}(h:0<=v/\v<=65535):(CU v=0/\v=0)\/(1<=CU v/\(2:Int) ^ (CU v-1)<=v/\v<2*(2:Int) ^ (CU v-1)):=by
 obtain⟨n,rfl⟩:=Int.eq_ofNat_of_zero_le h.1;by_cases e:n=0;subst e;exact .inl ⟨by decide +kernel,rfl⟩
 .right;have f:n<2 ^ 64:=by omega
  obtain⟨a,b,c⟩:=RM 64 n f e;have hc:CU (n:Int)=Lib.bitLenAux 64 n:=rfl;rw[hc];obtain⟨k,q⟩:∃k,Lib.bitLenAux 64 n=k+1:=⟨Lib.bitLenAux 64 n-1,by omega⟩
  rw[q]at b c |-
  grind
def AH0(v n b)(Am:0<=v):val (Aa v n++b) 0 n=v % 2 ^ n:=by
 unfold val;rw[JM _ (λ i=>v / 2 ^ i % 2) n (λ i f=>by
  rw[Ge,if_pos (by simp[Bc];omega),Ik,Nat.zero_add,if_pos f]),RT v Am]
def AFQ(v):Ai (Ey v):=Hz _ _
def VB(x:Sq):∀k,Ai (CO x k)
 | 0=>Ai.nil
 | k+1=>Ai.append (VB x k) (AFQ _)
def Mn(ps:List Sq):∀k,Ai (Av ps k)
 | 0=>Ai.nil
 | k+1=>Ai.append (Mn ps k) (VB _ _)
def VC(x:Sq)(j:Nat):∀k,j<k->∃t,CO x k=CO x j++(Ey (DY j x)++t)
 | 0,h=>by omega
 | k+1,h=>by by_cases e:j=k;subst e;exact⟨[],by simp[CO]⟩;obtain⟨t,f⟩:=VC x j k (by omega);exact⟨t++Ey (DY k x),by simp only[CO];grind⟩
def VD(ps:List Sq)(i:Nat):∀k,i<k->∃t,Av ps k=Av ps i++(CO (ps.getD i AR) 3++t)
 | 0,h=>by omega
 | k+1,h=>by by_cases e:i=k;subst e;exact⟨[],by simp[Av]⟩;obtain⟨t,f⟩:=VD ps i k (by omega);exact⟨t++CO (ps.getD k AR) 3,by simp only[Av];grind⟩
def ADU{B pre t v}(Am:0<=v/\v<=65535)(q:B=pre++(Ey v++t)){ys}(r:ys=AJ B)(J:Ai B):
 Kd ys (CU v:Int) pre.length=v/\Jn ys (CU v:Int) pre.length=0/\IY ys (CU v:Int) pre.length=pre.length+(Ey v).length:=by
 have O:(Ey v).length=BM (CU v:Int):=by unfold Ey;exact Bc _ _
 have K:pre.length+BM (CU v:Int)<=8*ys.length:=by
  rw[r,Cn,q]
  grind
 have L:val (AM ys) pre.length (BM (CU v:Int))=v % 2 ^ BM (CU v:Int):=by rw[r,LC J,q];have:=LE pre (Ey v++t) 0 (BM (CU v:Int));rw[Nat.add_zero]at this;rw[this];unfold Ey;exact AH0 v _ t Am.1
 refine⟨?_,?_,?_⟩
 .unfold Kd Hm;rw[if_pos K,L];rcases YX Am with⟨A,f⟩|⟨A,f,E⟩
  .simp_all
  .rw[if_pos (by omega)];(have hr:BM (CU v:Int)=CU v-1:=by unfold BM;omega);rw[hr];obtain⟨P,I⟩:∃P:Int,(2:Int) ^ (CU v-1)=P:=⟨_,rfl⟩
   rw[I]at f E |-
   (have:v % P=v-P:=by rw[show v=(v-P)+P by omega,Int.add_emod_right,Int.emod_eq_of_lt (by omega) (by omega)];omega);omega
 .unfold Jn;omega
 .unfold IY;grind
def ADf{ps:List Sq}(h:∀x∈ps,Cu x){i}(f:i<ps.length):Cu (ps.getD i AR):=by grind
def YW{ps i j}(f:i<ps.length)(q:j<3):c3 (Al 0 ps) (Al 1 ps) (Al 2 ps) i j=(CU (DY j (ps.getD i AR)):Int):=by
 unfold c3
 match j,q with
 | 0,_=>rw[if_pos rfl];exact Lm 0 ps i f
 | 1,_=>rw[if_neg (by decide),if_pos rfl];exact Lm 1 ps i f
 | 2,_=>rw[if_neg (by decide),if_neg (by decide)];exact Lm 2 ps i f
def QR{ps:List Sq}(h:∀x∈ps,Cu x){i:Nat}(f:i<ps.length):∀k,k<=3->Bm (AJ (Av ps ps.length)) (c3 (Al 0 ps) (Al 1 ps) (Al 2 ps) i) (Av ps i).length k=((Av ps i).length+(CO (ps.getD i AR) k).length,true)/\
 ∀j,j<k->Bo (AJ (Av ps ps.length)) (c3 (Al 0 ps) (Al 1 ps) (Al 2 ps) i) (Av ps i).length j=DY j (ps.getD i AR)
 | 0,_=>⟨by simp[Bm,CO],λ j E=>by omega⟩
 | k+1,hk=>by
  obtain⟨I,O⟩:=QR h f k (by omega);obtain⟨t,K⟩:=VD ps i ps.length f;obtain⟨t2,L⟩:=VC (ps.getD i AR) k 3 (by omega);have B:Av ps ps.length=(Av ps i++CO (ps.getD i AR) k)++(Ey (DY k (ps.getD i AR))++(t2++t)):=by grind
  obtain⟨J,q,r⟩:=ADU (ADf h f k (by omega)) B rfl (Mn ps ps.length);rw[zc0]at J q r;have A:=YW f (show k<3 by omega);refine⟨?_,λ j E=>?_⟩
  .simp only[Bm];rw[I,A];simp only;rw[q,r];simp only[CO,zc0,Prod.mk.injEq]
   grind
  .by_cases e:j=k
   .subst e;unfold Bo
    grind
   grind
def QJ{ps:List Sq}(h:∀x∈ps,Cu x):∀i,i<=ps.length->C7 (AJ (Av ps ps.length)) (Al 0 ps) (Al 1 ps) (Al 2 ps) i=((Av ps i).length,true)
 | 0,_=>rfl
 | i+1,hi=>by have q:=QJ h i (by omega);obtain⟨f,_⟩:=QR h (show i<ps.length by omega) 3 (by omega);simp only[C7];rw[q];simp only;rw[f];simp only[Av,zc0,Bool.and_self]
def AFm{ps}(h:∀x∈ps,Cu x){i}(q:i<ps.length):Ef (AJ (Av ps ps.length)) (Al 0 ps) (Al 1 ps) (Al 2 ps) i=ps.getD i AR:=by obtain⟨_,f⟩:=QR h q 3 (by omega);unfold Ef;rw[QJ h i (by omega)];simp only;rw[f 0 (by omega),f 1 (by omega),f 2 (by omega)];simp only[DY];simp
def AFn{ps}(h:∀x∈ps,Cu x):C3 (AJ (Av ps ps.length)) (Al 0 ps) (Al 1 ps) (Al 2 ps) ps.length=ps:=by
 apply List.ext_getElem?;intro i;unfold C3;rw[zw0];by_cases f:i<ps.length;rw[List.getElem?_range f];simp only[Option.map_some];rw[AFm h f,AP,z9 f];rfl
 grind
def Z9(ps):Iq (AJ (Av ps ps.length)) (Av ps ps.length).length=true:=by unfold Iq;rw[zg1];refine⟨by rw[Cn];omega,?_⟩;rw[LC (Mn ps ps.length)];exact NH _ _ _ (AE _)
end
section
open Go.RowKit Pl
def YZ(v s):Ai (Db v s):=by
 intro i;by_cases h:i<s
 .have:(Db v s).getD i 0=v / 2 ^ (s-1-i) % 2:=by simp[Db,AP,h]
  omega
 .have:(Db v s).getD i 0=0:=by simp[Db,AP,h]
  omega
def SL(ls f):Ai (enc ls f):=by
 induction f with
 | nil=>exact Ai.nil
 | cons x r q=>exact Ai.append (YZ _ _) q
def ZF{ls L}(q:BE ls=true)(r:By L)(hc:∀i,i<L.length->0<ls.getD (L.getD i 0).toNat 0):Coded ls (AJ (enc ls L)) (L.length:Int) L:=by have f:=SL ls L;have hr:=Uy (Bg.of q) L r hc (AM (AJ (enc ls L))) (λ i A=>NB f i) L.length (AE _);rw[List.take_length]at hr;have B:(AJ (enc ls L)).length=((enc ls L).length+7) / 8:=Cn _;refine⟨(enc ls L).length,hr,rfl,by omega,by omega,?_⟩;rw[LC f];exact NH _ _ _ (AE _)
def AHa{L cb}(K:NM L cb)(W:By L)(X:1<=L.length)(Y:L.length<=65536)(r):tcS (some (cb++r)) (L.length:Int)=(L,some r):=by
 obtain⟨E,_,q,hc,rfl⟩:=K;obtain⟨f,U⟩:=exN (Cy (DG L) E);rw[U]at q hc |-
 have A:=Bg.of q;have T:1<=f.length:=by grind
 have J:∀i,0<=f.getD i 0/\f.getD i 0<=15:=λ i=>by
  by_cases e:i<f.length;have:=A.each i e;omega
  grind
 have O:(AJ (enc f L)).length<=4294967295:=by have:=KG A L;rw[Cn];omega
 unfold tcS;simp only;rw[Option.getD_some,zr0,zr0,AHB T A.most J q];simp only;have I:Aj (some (AJ (Br f)++(AQ ((AJ (enc f L)).length:Int)++(AJ (enc f L)++r)))) ((0:Int)==0)=some (AJ (Br f)++(AQ ((AJ (enc f L)).length:Int)++(AJ (enc f L)++r))):=rfl;rw[I,JO];simp only;have B:=Pz (AJ (enc f L)) r O;rw[zr0]at B;rw[B];simp only;rw[Sn q (by omega) (by omega) (ZF q W hc)];rfl
def ACT{L lb}(B:JE L lb)(E:By L)(r:1<=L.length){n}(I:L.length<=n)(J:n<=65536)(f):litS (some (lb++f)) (n:Int)=(L,some f):=by
 obtain⟨cb,A,rfl⟩:=B;unfold litS;simp only;rw[zr0,Kc L.length _ (by omega)];simp only;rw[if_pos ⟨by omega,rfl⟩];by_cases q:cb.length<L.length
 .rw[if_pos q];have e:[1]++cb++f=(1:Int)::(cb++f):=by simp
  rw[e,Mb];simp only;rw[if_neg (by decide),if_pos trivial,AHa A E r (by omega)]
 .rw[if_neg q];have e:[0]++L++f=(0:Int)::(L++f):=by simp
  rw[e,Mb];simp only;rw[if_pos trivial,Int.toNat_natCast,JO]
def ZH(i ps):(Al i ps).length=ps.length:=by simp[Al]
def AGi{ps}(h:∀x∈ps,Cu x)(I:ps.length<=16384){n:Nat}(hn:4*ps.length<=n)(q):Hl (some (GL ps++q)) (n:Int)=(ps,some q):=by
 unfold GL;by_cases B:ps.length=0
 .have:ps=[]:=ze0 B;subst this;rw[if_pos B];have a1:=Kc 0 q (by omega);unfold Hl
  grind
 .rw[if_neg B];have E:1<=ps.length:=by omega
  obtain⟨f,J⟩:=exN (AJ (Av ps ps.length));have Y:f.length<=4294967295:=by have:=Jf h ps.length (AE _);rw[<-J,Cn];omega
  have s0:=λ r=>QP (JQ (i:=0) (by omega) h E I) r;have s1:=λ r=>QP (JQ (i:=1) (by omega) h E I) r;have T:=λ r=>QP (JQ (i:=2) (by omega) h E I) r;simp only[ZH]at s0 s1 T;have a0:strs ps 3=CG (Al 0 ps)++(CG (Al 1 ps)++CG (Al 2 ps)):=by simp[strs]
  have X:AV (some (AQ (ps.length:Int)++strs ps 3++AQ (f.length:Int)++f++q))=((ps.length:Int),some (CG (Al 0 ps)++(CG (Al 1 ps)++(CG (Al 2 ps)++(AQ (f.length:Int)++f++q))))):=by (have e:AQ (ps.length:Int)++strs ps 3++AQ (f.length:Int)++f++q=AQ (ps.length:Int)++(CG (Al 0 ps)++(CG (Al 1 ps)++(CG (Al 2 ps)++(AQ (f.length:Int)++f++q)))):=by grind);rw[e,Kc _ _ (by omega)]
  obtain⟨σ,A⟩:=exN (some (CG (Al 0 ps)++(CG (Al 1 ps)++(CG (Al 2 ps)++(AQ (f.length:Int)++f++q)))));have g1:Bd σ (ps.length:Int) 1=some (CG (Al 1 ps)++(CG (Al 2 ps)++(AQ (f.length:Int)++f++q))):=by simp only[Bd];rw[<-A,s0]
  have U:Bd σ (ps.length:Int) 2=some (CG (Al 2 ps)++(AQ (f.length:Int)++f++q)):=by have:Bd σ (ps.length:Int) 2=(Dq (Bd σ (ps.length:Int) 1) (ps.length:Int)).2:=rfl;simp_all
  have W:Bd σ (ps.length:Int) 3=some (AQ (f.length:Int)++f++q):=by have:Bd σ (ps.length:Int) 3=(Dq (Bd σ (ps.length:Int) 2) (ps.length:Int)).2:=rfl;simp_all
  have x0:Cp σ (ps.length:Int) 0=Al 0 ps:=by unfold Cp;simp only[Bd];rw[<-A,s0]
  have x1:Cp σ (ps.length:Int) 1=Al 1 ps:=by unfold Cp;rw[g1,s1]
  have x2:Cp σ (ps.length:Int) 2=Al 2 ps:=by unfold Cp;rw[U,T]
  have Z:=Pz f q Y;rw[J];unfold Hl;rw[X,A];simp only;rw[if_pos ⟨by omega,by rw[<-A];rfl⟩,if_neg (by omega),W,Z,x0,x1,x2];simp only;rw[if_pos (by rfl),Int.toNat_natCast];have K:=AFn h;have L:=QJ h ps.length (AE _);have O:=Z9 ps;rw[J]at K L O;rw[K,L];simp only;rw[O];rfl
def AD9{f bs}(X:By f)(J:0<f.length)(q:f.length<=65536)(h:LP f bs)(A):bodyS (some (bs++A)) 2 f.length=(f,some A):=by
 obtain⟨L,I,B,K,U,_,rfl⟩:=h;obtain⟨L2,E,O,_⟩:=Po f 65536 q;rw[B]at E;simp only[Prod.mk.injEq,true_and]at E;subst E;obtain⟨Y,Z,k3⟩:=QO f q;have T:=λ r=>ACT U (Ow X B) (To q J B) K q r;have W:=λ r=>AGi Y Z k3 r;unfold bodyS;rw[if_neg (by decide),if_neg (by decide)];have e:Aj (some (I++GL (steps f 65536)++A)) (decide (0<(f.length:Int)))=some (I++(GL (steps f 65536)++A)):=by rw[zf1 (by omega),zr0];rfl
 rw[e];simp only;rw[T];simp only;rw[W];simp only;rw[O];simp[Aj]
def AD4{f A}(L:By f)(K:f.length<=65536)(h:GZ f A):∃m r,m<=2/\A=[m]++AQ (f.length:Int)++r++BO (BU f)/\∀q,bodyS (some (r++q)) m f.length=(f,some q):=by
 obtain⟨b,rfl,h⟩:=h;have O:∃m r,m<=2/\D8 f=[m]++AQ (f.length:Int)++r/\∀q,bodyS (some (r++q)) m f.length=(f,some q):=⟨0,f,by decide,rfl,AEj f⟩
 have E:∀b,(∃m r,m<=2/\b=[m]++AQ (f.length:Int)++r/\∀q,bodyS (some (r++q)) m f.length=(f,some q))->∃m r,m<=2/\b++BO (BU f)=[m]++AQ (f.length:Int)++r++BO (BU f)/\∀q,bodyS (some (r++q)) m f.length=(f,some q):=by grind
 apply E;rcases h with⟨_,rfl⟩|⟨I,B,J,rfl⟩
 .exact O
 .unfold shr;split;exact⟨2,B,by decide,rfl,λ q=>AD9 L I K J q⟩;unfold EI;split;rename_i ha;unfold shr;split;exact⟨1,[f.getD 0 0],by decide,rfl,λ q=>AFX ha q⟩;omega;omega
end
section
open Go.RowKit Pl
def RW{cs:List Int}(f:∀i,0<=cs.getD i 0/\cs.getD i 0<=4294967295):∀k,By (pk cs k)
 | 0=>By.nil
 | k+1=>(RW f k).append (H7 _ (f k).1 (f k).2)
def Lg{bs}(h:Ai bs):By (AJ bs):=λ i=>PS h i
def YO{cs}(h:Hs cs):By (CG cs):=by
 obtain⟨_,q,B,_,_,r,_,f⟩:=h.str;unfold CG;obtain⟨s,J⟩:=exN ((C4 (Cc cs) 6).2);rw[J]at q B r f |-
 obtain⟨L,K,E⟩:=Ca.of q;have I:EQ s 6=(0,[6]++pk ((s.length:Int)::s) (s.length+1)):=by unfold EQ;grind
 have A:DB s 6 cs=(0,AJ (Cl (nn s) s.length (2 ^ (6:Int).toNat) (6:Int).toNat cs++[1])):=by unfold DB;rw[if_neg (by grind),if_neg (by have:=h.le;grind)]
 rw[I];rw[A]at f |-
 simp only at f |-
 exact(((In (by decide)).append (RW (N0 E) _)).append (H7 _ (by omega) (by omega))).append (Lg (Ai.snoc (Pp _ _ _ _ _) (.inr rfl)))
def RX{ps:List Sq}(h:∀x∈ps,Cu x)(f:1<=ps.length)(q:ps.length<=16384):∀k,k<=3->By (strs ps k)
 | 0,_=>By.nil
 | k+1,hk=>(RX h f q k (by omega)).append (YO (JQ (by omega) h f q))
def YN{ps}(h:∀x∈ps,Cu x)(f:ps.length<=16384):By (GL ps):=by
 unfold GL;split;exact H7 _ (by omega) (by omega)
 .have q:=Jf h ps.length (AE _);have r:(AJ (Av ps ps.length)).length<=4294967295:=by rw[Cn];omega
  exact(((H7 _ (by omega) (by omega)).append (RX h (by omega) f 3 (AE _))).append (H7 _ (by omega) (by omega))).append (Lg (Mn _ _))
def YJ{L lb}(h:JE L lb)(r:By L)(A:L.length<=65536):By lb:=by
 obtain⟨cb,⟨f,_,q,_,rfl⟩,rfl⟩:=h;have B:(AJ (enc (Cy (DG L) f) L)).length<=4294967295:=by have:=KG (Bg.of q) L;rw[Cn];omega
 refine(H7 _ (by omega) (by omega)).append ?_;split;exact(In (by decide)).append (((Lg (Ai.append (Hz _ _) (Mh _ _))).append (H7 _ (by omega) (by omega))).append (Lg (SL _ _)));exact(In (by decide)).append r
def AD0{f A}(r:By f)(I:f.length<=65536)(h:GZ f A):By A:=by
 obtain⟨b,rfl,h⟩:=h;refine By.append ?_ (YP _);have q:By (AQ (f.length:Int)):=H7 _ (by omega) (by omega);have O:By (D8 f):=((In (by decide)).append q).append r;rcases h with⟨_,rfl⟩|⟨U,T,⟨L,Y,B,W,E,_,rfl⟩,rfl⟩
 .exact O
 .obtain⟨J,K,X⟩:=QO f I;unfold shr;split;exact((In (by decide)).append q).append ((YJ E (Ow r B) (by omega)).append (YN J K));unfold EI;split;unfold shr;split;exact((In (by decide)).append q).append (In (r 0));omega;omega
def PT{f q}(K:f.length<=65536)(h:GZ f q):4<=q.length/\q.length<=f.length+8:=by
 have I:(AQ (f.length:Int)).length<=3:=by
  have A:=Zj 4 (f.length:Int) 65536 (by omega);have B:(BV 4 65536).length=3:=by decide
  unfold AQ;omega
 have hr:(D8 f).length<=f.length+4:=by simp only[D8,zc0,zh0,List.length_nil];omega
 obtain⟨b,rfl,h⟩:=h;rw[zc0,Vq];refine⟨by omega,?_⟩;rcases h with⟨_,rfl⟩|⟨E,r,J,rfl⟩
 .omega
 .have A:=Kn (EI f) ([2]++AQ f.length++r);have B:(EI f).length<=(D8 f).length:=by unfold EI;split;exact Kn _ _;omega
  omega
def AD8{f q}(J:By f)(r:f.length<=65536)(h:GZ f q):
 unpS q (f.length:Int)=(0,f)/\(0<f.length->unpS q ((f.length:Int)-1)=(11,[]))/\unpS (q.take (q.length-1)) (f.length:Int)=(5,[])/\∀x,unpS (q++[x]) (f.length:Int)=(5,[]):=by
 obtain⟨m,I,B,E,A⟩:=AD4 J r h;refine⟨?_,λ K=>?_,?_,λ x=>?_⟩;rw[E];exact AHq B r A (by omega) (by omega);rw[E];exact AHp B r (A _) (by omega) (by omega)
 .have e:q.take (q.length-1)=[m]++AQ (f.length:Int)++I++(BO (BU f)).take 3:=by rw[E];simp only[zc0,Vq];rw[show([m].length+(AQ (f.length:Int)).length+I.length+4-1)=([m]++AQ (f.length:Int)++I).length+3 by grind,List.take_length_add_append]
  rw[e];exact AHn B r (A _) (by grind) (by omega) (by omega)
 .rw[E,zr0 _ (BO (BU f)) [x]];exact AHo B r A (by omega) (by omega) x
