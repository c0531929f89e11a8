import Derived.Test.YtihofcopapmjlaaGreatPPkPk2
import Derived.Test.YtihofcopapmjlaaGreatPCkRf
import Derived.Test.YtihofcopapmjlaaGreatPANew
import Derived.Test.YtihofcopapmjlaaGreatPCkBr
import Derived.Test.YtihofcopapmjlaaGreatPCkMem
set_option maxRecDepth 100000
set_option linter.all false
set_option maxHeartbeats 8000000
namespace Go.Proofs.YtihofcopapmjlaaGreat
open Go.Proofs.Tryz
section
open Go.RowKit Go.Maps
def EB.re{f W g bs q}(h:EB (λ _=>False) W g bs q)(B:¬f g)(E:∀i,i<bs.length->∀j,(q i).ownBlock=some j->¬f j):EB f W g bs q:=
 ⟨h.lt,B,h.kd,λ i r j A=>⟨(h.un i r j A).1,E i r j A⟩⟩
structure OwP(W:World)(v:Value)(xs:List Int)(U':Nat->Prop):Prop where
 ow:AF .u8 5 W v xs
 no:∀j,v.ownBlock=some j->¬U' j
def NU:Prop:=∀(many:Nat)(pk more:List Int)(pv mv:Value)(W:World),Rd .u8 W pv pk->By pk->Rd .i64 W mv more->many<=65535->pk.length<=711->(more.length:Int)=Dc pk.length->(∀x∈more,0<=x/\x<=65535)->(∀j,pv.ownBlock=some j->j<W.heap.size)->
 Calls prog 64 #[.int .i64 (many:Int),pv,mv] W λ e w'=>∃g cap us,e=.returned (.slice (some ⟨g,0,none⟩) (more.length+1) cap)/\Below W.heap.size W w'/\W.heap.size<=g/\EB (λ _=>False) w' g (EJ many pk more) us/\
  ∀i,i<more.length+1->∀j,(us i).ownBlock=some j->W.heap.size<=j\/pv.ownBlock=some j
def Ll(many pk more):(EJ many pk more).length=more.length+1:=by simp[EJ]
def Yq{many pk more}(q:By pk)(r:more.length<=2):∀b∈EJ many pk more,(1<=b.1/\b.1<=4)/\b.2.length<=240/\By b.2:=λ b f=>by unfold EJ at f;rcases List.mem_cons.1 f with e|e;rw[e];exact⟨⟨by simp,by simp⟩,Ys r,Yr q (by omega)⟩;obtain⟨i,_,e⟩:=List.mem_map.1 e;rw[<-e];exact⟨⟨by simp,by simp⟩,Y0 _ _ _,Yz q _ _⟩
def AEd(am:NU){U t c d M N a}(I Y w)(H:Sz U w t c d M N a)(hd:Rd .u8 w Y I)(hy:By I)(hl:1<=I.length/\I.length<=512)(az:∀j,Y.ownBlock=some j->j<w.heap.size)(h3:3<=a.A.L.count 0)(hk:∀e∈a.K,Ah.stvA a.A e.b=1):
 Calls prog 35 #[AW t,Y] w λ e w'=>∃nv pk,e=.returned (.tuple #[nv,.int .i64 0])/\GZ I pk/\∃U',Rw U w t c d M N { a with A:=(AX a.A (A8 pk)).2,V:=Bx a.V (AX a.A (A8 pk)).1 (EJ I.length pk (AX a.A (A8 pk)).1.tail),F:=λ x=>a.F x||decide (x∈(AX a.A (A8 pk)).1) } U' w'/\Own U' w.heap.size w' nv (AX a.A (A8 pk)).1:=by
 have HP:=AU (ADz Y I w hd hy (by omega) az);have X:=z6 H.rw;have E:=z6 (And.intro h3 (And.intro hk (And.intro hy (And.intro hl am))));obtain⟨da,dc,rfl⟩:∃a c,Y=.slice a I.length c:=by obtain⟨a,c,e,_⟩:=hd;exact⟨a,c,e⟩
 obtain⟨dn,ae⟩:=exN I.length;have b2:=z6 ae;rw[ae]at HP |-
 clear H hd hy hl az h3 hk ae am
 go_enter func35,ntmps35
 go_wp2_with fail;refine HP.o.mono ?_;rintro e w1 ⟨ov,pk,rfl,a3,a2,aq,ag⟩;have b5:=PT (by have:=E.o.2.2.2.1;omega) a3;have a4:pk.length<=711:=by have:=E.o.2.2.2.1;omega
 have au:=AD0 E.o.2.2.1 (by have:=E.o.2.2.2.1;omega) a3;obtain⟨oa,oc,rfl⟩:∃a c,ov=.slice a pk.length c:=by obtain⟨a,c,e,_⟩:=a2.rd;exact⟨a,c,e⟩
 obtain⟨pn,a5⟩:=exN pk.length;obtain⟨m,hm⟩:∃m:Nat,Dc pk.length=(m:Int):=⟨(Dc pk.length).toNat,by have:=G8 a4;omega⟩
 have hW:A8 pk=m+1:=by unfold A8;omega
 have ba:m<=2:=by have:=G8 a4;omega
 have a0:=z6 (X.o.on aq);have c1:=a0.o.sz.c1;have aj:=AU (AGw w1 a0.o.sz);have ak:Hid (∀W,Calls prog 62 #[.int .i64 (pn:Int)] W λ e w'=>e=.returned (.int .i64 (m:Int))/\w'=W):=λ W=>by have:=UF pk.length (by omega) (by omega) W;rw[hm,a5]at this;exact this
 rw[a5]at a2 ag |-
 have J:=z6 (And.intro a3 (And.intro a4 (And.intro au (And.intro a2 (And.intro ag (And.intro a5 (And.intro hm hW)))))));clear a3 a4 au a2 ag b5 a5 hm hW aq HP;go_wp2_with fail;refine aj.o.mono ?_;rintro e w2 ⟨rfl,q,hq⟩;have a6:Hid (Rw U w t c d M N a U w2):=by rw[hq];exact a0.o.on (Below.of_drewN _ w1 q)
 have al:Hid (AF .u8 5 w2 (.slice oa pn oc) pk):=by rw[hq];exact J.o.2.2.2.1.below (Below.of_drewN _ w1 q)
 have b9:Hid (w1.heap.size<=w2.heap.size):=by rw[hq];exact AE _
 clear hq c1 aj a0;go_wp2_with fail;refine(ak.o _).mono ?_;rintro e w' ⟨rfl,hw⟩;replace hw:=hw.symm;subst hw;have HT:=AU (AHU (m+1) w2 a6.o.sz (by have:=E.o.1;omega) (by omega));rw[show(((m+1:Nat):Int))=1+(m:Int) by omega]at HT;have b8:IntKind.i64.wrap (1+(m:Int))=1+(m:Int):=Bp _ (by omega) (by omega);clear ak;go_wp2_with fail;refine HT.o.mono ?_;rintro e w3 ⟨nv,rfl,U3,O,a9⟩;have T:=J9 X.o.sz.sok (m+1) (by have:=E.o.1;omega);obtain⟨b,B,ai⟩:∃b B,(AX a.A (m+1)).1=b::B:=by
  cases e:(AX a.A (m+1)).1 with
  | nil=>have:=T.len;rw[e]at this;simp at this
  | cons b B=>exact⟨b,B,rfl⟩
 have aw:B.length=m:=by have:=T.len;rw[ai]at this;simpa using this
 obtain⟨ng,nc,en,_,_,_,_,_⟩:=a9.ow.shape (by rw[T.len];omega);rw[T.len]at en;subst en;have ap:=a6.o.to' O.sz O.ch O.nw;have ao:OwP w3 (.slice oa pn oc) pk U3:=by
  have ay:∀j,(Value.slice oa pn oc).ownBlock=some j->¬U j:=λ j r e=>by have:=J.o.2.2.2.2.1 j r;have:=X.o.sz.ul j e;omega
  exact⟨al.o.tch O.ch ay,λ j r=>Di O.nw (al.o.lt j r) (ay j r)⟩
 have f:=z6 (And.intro ap (And.intro a9 (And.intro ao (And.intro T (And.intro ai aw)))));clear ap a9 ao T O HT b8 aw ai;go_wp2_with(with_reducible (show wpList _ _ _ (Oper.mk _ (Op.slice _ _ (some _) _ _) _ _ _ _::_) _ _);refine LI QC _ w3 rfl (.tmp 39) (.const (.int .i64 1)) rfl _ (AX a.A (m+1)).1 ?g1 f.o.2.1.ow.rd 1 ?g2 ?g3 ?g4)
 case g1=>rfl
 case g2=>rfl
 case g3=>rw[f.o.2.2.2.1.len];omega
 case g4=>
 intro mv ax _;have af:Rd .i64 w3 mv B:=by have h:=ax;rw[f.o.2.2.2.2.1]at h;simpa using h
 clear ax;obtain⟨ma,mc,rfl⟩:∃a c,mv=.slice a m c:=by obtain⟨a,c,e,_⟩:=af;rw[f.o.2.2.2.2.2]at e;exact⟨a,c,e⟩
 have b6:=X.o.sz.lo;have b7:=X.o.sz.n2;have av:Hid (∀x∈b::B,50<=x/\x<(N:Int)):=λ x Z=>by have:=(f.o.2.2.2.1.fr x (by rw[f.o.2.2.2.2.1];exact Z)).2;omega
 have a7:=AU (E.o.2.2.2.2 dn pk B (.slice oa pn oc) (.slice ma m mc) w3 f.o.2.2.1.ow.rd J.o.2.2.1 af (by have:=E.o.2.2.2.1;have:=b2.o;omega) J.o.2.1 (by rw[f.o.2.2.2.2.2,J.o.2.2.2.2.2.2.1]) (λ x Z=>by have:=av.o x (by simp[Z]);omega) (λ j r=>f.o.2.2.1.ow.lt j r));rw[f.o.2.2.2.2.2]at a7;clear af b6 b7;go_wp2_with fail;refine a7.o.mono ?_;rintro e w4 ⟨g,cap,us,rfl,ad,hg,ar,b0⟩;have an:EB U3 w4 g (EJ dn pk B) us:=ar.re (λ e=>by have:=f.o.1.sz.ul g e;omega) (λ i hi j r e=>by
  rw[Ll,f.o.2.2.2.2.2]at hi;rcases b0 i hi j r with h|h;have:=f.o.1.sz.ul j e;omega
  .exact f.o.2.2.1.no j h e)
 have ac:=f.o.1.on ad;have aa:=f.o.2.1.on ad;have a8:=AU (AIj (b::B) (EJ dn pk B) (.slice (some ⟨ng,0,none⟩) (m+1) nc) g cap us w4 ac.sz ⟨by rw[<-f.o.2.2.2.2.1];exact aa.ow,λ j r=>⟨(aa.no j r).1,AI _⟩⟩ an ⟨by rw[Ll];rfl,by simp only[zh0,f.o.2.2.2.2.2];omega,av.o,Yq J.o.2.2.1 (by rw[f.o.2.2.2.2.2];omega)⟩ (λ e he Z=>by
  have h1:=E.o.2.1 e he;have h2:=(f.o.2.2.2.1.fr e.b (by rw[f.o.2.2.2.2.1];exact Z)).1;omega))
 rw[Ll,f.o.2.2.2.2.2]at a8;have b3:=z6 ac;clear an ac aa ad hg ar b0 a7;go_wp2_with fail;refine a8.o.mono ?_;rintro e w5 ⟨rfl,U5,a1,ab⟩;have b4:Own U5 w.heap.size w5 (.slice (some ⟨ng,0,none⟩) (m+1) nc) (b::B):=⟨ab.ow,λ j r=>⟨(ab.no j r).1,Aw a6.o.ch.size (f.o.2.1.no j r).2⟩⟩
 have HF:=z6 (And.intro (b3.o.to' a1.sz a1.ch a1.nw) b4);clear a1 ab a8;go_wp2_with fail;go_ret2;refine⟨_,pk,rfl,J.o.1,U5,?_⟩;rw[J.o.2.2.2.2.2.2.2,f.o.2.2.2.2.1];exact HF.o
def AD.trans2{a w w' sb kb}(h:AD (λ k=>k=sb) a w)(k:AD (λ k=>k=kb) w w'):AD (λ k=>k=sb\/k=kb) a w':=(h.mono (λ _ _ e=>.inl e)).trans k (λ _ _ e=>.inr e)
def AD.trans3{a w w' sb kb X}(h:AD (λ k=>k=sb\/k=kb) a w)(k:AD X w w'):AD (λ k=>k=sb\/k=kb\/X k) a w':=(h.mono (λ _ _ e=>e.imp id .inl)).trans k (λ _ _ e=>.inr (.inr e))
abbrev Mz(gl:List Int)(nv:Value):List Value:=gl.map (Value.int .u8)++[nv]
def Mp.putSt{w b n g}(h:Mp w b n g)(i)(q:i<n)(B:n<=65536)(v):
 ∃w',(Instr.mapUpdate 86 (.map (some b)) (.int .i64 (i:Int)) v).run prog w=.ok () w'/\Mp w' b n (Df g i v)/\AD (λ k=>k=b) w w':=by
 obtain⟨w',r,f,A⟩:=World.ownsMap.update (val:=v) (d:=.held v) (ps:=[]) h GE underlying86 (by unfold maxLen;omega) (KQ (i:=i) (by omega)) rfl;exact⟨w',r,Iy f (ON q _ (f.canon GE)),(AD.of_grown A).mono (λ k _ e=>by grind)⟩
section
variable {o:Oper} {a:Act} {w:World} {K:Act->World->Prop} {Q:Exit->Act->World->Prop}
def AIh{m x v}(I:o.op=.mapUpdate 86 m x v){b n i:Nat}{g u}(B:a.eval m=.map (some b))(J:a.eval x=.int .i64 (i:Int))(hv:a.eval v=u)(h:Mp w b n g)(r:i<n)(E:n<=65536)(A:∀w',Mp w' b n (Df g i u)->AD (λ k=>k=b) w w'->K (a.put o.dst undef) w'):Oper.wp prog o a w K Q:=by
 obtain⟨w',hr,f,q⟩:=h.putSt i r E u;unfold Oper.wp;simp[execOp,I,B,J,hv,hr,Result.andThen];exact A w' f q
def AId{x y z}(f:o.op=Op.buildSlice 26 1 #[(0,x)])(r:a.eval x=.agg #[.int .i64 y,.int .i64 z])(h:K (a.put o.dst (.slice (some ⟨w.heap.size,0,none⟩) 1 1)) (w.alloc (.cells #[.int .i64 y,.int .i64 z] 28))):Oper.wp prog o a w K Q:=by
 have q:(execOp a.eval o).run prog w=.ok (Next.value (.slice (some ⟨w.heap.size,0,none⟩) 1 1)) (w.alloc (.cells #[.int .i64 y,.int .i64 z] 28)):=by unfold execOp;simp only[f];simp only[List.map_toArray,List.map_cons,List.map_nil,r];go_simp
 unfold Oper.wp;simp only[q,Oper.upon];exact h
def AIZ{s x}(J:o.op=.call { callee:=.builtin .append,args:=#[s,x],argTypes:=#[26,26] }){v ps y z q}(hs:a.eval s=v)(hv:Bv w v ps)(hx:a.eval x=.slice (some ⟨q,0,none⟩) 1 1)(hq:Vr w q 28 [.int .i64 y,.int .i64 z])(hl:ps.length<=100000)(h:∀r w',Bv w' r (ps++[(y,z)])->AY w w' v r->K (a.put o.dst r) w'):Oper.wp prog o a w K Q:=by
 obtain⟨U,I,L,O,T⟩:=info_parts ABL;obtain⟨r,w',hr,B,E,_,W⟩:=Go.run_append_own_at (P:=prog) (w:=w) 0 26 o.type 28 U _ 2 16 underlying26 I L O T rfl (by decide) v ps.length (Fi ps) hv
  ⟨q,0,none⟩ 1 1 [.int .i64 y,.int .i64 z] rfl (λ j u f=>by
   match j,f with
   | 0,f=>simp at f;subst f;simpa[Addr.add]using hq.at 0
   | 1,f=>simp at f;subst f;simpa[Addr.add]using hq.at 1) (λ u A=>by simp at A;rcases A with rfl|rfl<;>rfl) (by unfold maxLen;omega) (by omega) (AI _)
 unfold Oper.wp;simp[execOp,J,resolve,invoke,builtin,hs,hx,hr,Result.andThen];refine h r w' (by unfold Bv;rw[AEf];simpa[Fi]using B) ⟨AD.grown (AD.refl _ w) E (λ _ _ e=>e),λ k X=>?_⟩
 grind
theorem Wx(w):(zeroValue 26).run prog w=.ok AK w:=by kernel_rfl
end
def KH{P o}{a:Act}{w T x p v}(q:o.op=.load T x)(r:a.eval x=.pointer (some p))(f:(loadVar T p).run P w=.ok v w):(execOp a.eval o).run P w=.ok (Next.value v) w:=by unfold execOp;simp[q,r,Instr.loadAt,Instr.sureAddr,asAddr,f,Result.andThen]
def Qs(P:Program)(t k:TypeId)(b n st:Nat)(D:DataW Value)(kl:Lit)(w1:World):Prop:=∀(w2:World)(val:Value),w2.heap[b]?=w1.heap[b]?->∃w3,(Instr.entryStore t (.map (some b)) (goInt st) val).run P w2=.ok () w3/\w3.ownsMap P k Rv b (n+1) (D.put kl (.held val))/\AD (λ j=>j=b) w2 w3
def AIa{o a w K Q m x}(O:o.op=.mapEntry 85 m x){b n D key r q}(J:a.eval m=.map (some b))(T:a.eval x=key)(I:keyOf prog 81 key=some q)(h:w.ownsMap prog 81 Rv b n D)(L:n<maxLen)(X:D.atKey q (.held AK)=.held r)(E:∀f st,AD (λ j=>j=b) w f->Qs prog 85 81 b n st D q f->K (a.put o.dst (.tuple #[r,goInt st])) f):Oper.wp prog o a w K Q:=by
 obtain⟨U,st,f,hr,W,A,B⟩:=Zx OJ.law underlying85 Wx h L I;obtain rfl:U=r:=by grind
 unfold Oper.wp;simp[execOp,O,J,T,hr,Result.andThen];exact E f st A B
def AIb{o a w r K Q m x v}(L:o.op=.entryStore 85 m x v){b n st:Nat}{D val q}(J:a.eval m=.map (some b))(O:a.eval x=goInt st)(hv:a.eval v=val)(h:Qs prog 85 81 b n st D q r)(E:w.heap[b]?=r.heap[b]?)(I:∀f,f.ownsMap prog 81 Rv b (n+1) (D.put q (.held val))->AD (λ j=>j=b) w f->K (a.put o.dst undef) f):Oper.wp prog o a w K Q:=by
 obtain⟨f,hr,A,B⟩:=h w val E;unfold Oper.wp;simp[execOp,L,J,O,hv,hr,Result.andThen];exact I f A B
structure Ly(t w0 sb kb:Nat)(b len:Int)(gl:List Int)(nv:Value)(W:World):Prop where
 c2:W.cell? ⟨t,2,none⟩=some (.map (some kb))
 c3:W.cell? ⟨t,3,none⟩=some (.map (some sb))
 b0:W.cell? ⟨w0,0,none⟩=some (.int .i64 b)
 b1:W.cell? ⟨w0,1,none⟩=some (.int .i64 len)
 ld:(loadVar 95 ⟨w0+1,0,none⟩).run prog W=.ok (Gn gl nv) W
 lg:(loadVar 81 ⟨w0+1,0,none⟩).run prog W=.ok (FJ gl) W
def ACb{W t q sb kb b E f I}{cs:List Value}(r:W.heap[t]?=some (.cells cs.toArray 90 (0,0)))(K:cs[2]?=some (.map (some kb)))(L:cs[3]?=some (.map (some sb)))(hc:Vr W q 28 [.int .i64 b,.int .i64 E])(B:Vr W (q+1) 95 (Mz f I))(A:f.length=32):Ly t q sb kb b E f I W:=by
 refine⟨by rw[cell_of_row W t 2 _ _ (0,0) r];grind,by rw[cell_of_row W t 3 _ _ (0,0) r];grind,(hc.at 0).trans rfl,(hc.at 1).trans rfl,Vr.load B underlying95 rfl (by rw[Sw];simp[A]),?_⟩;refine run_loadVar_mid (P:=prog) W (q+1) 0 81 (f.map (Value.int .u8)) _ (λ j u J=>?_) underlying81 rfl (by rw[show(prog.info? 81).map (·.size)=some 32 from by kernel_rfl];simp[A]);rw[Nat.zero_add,B.at,zk0 (by grind)];exact J
def ACD{t kb sb N n}{cs:List Value}(b E A U){g D T ps}(w)(hb:w.heap[t]?=some (.cells cs.toArray 90 (0,0)))(h2:cs[2]?=some (.map (some kb)))(h3:cs[3]?=some (.map (some sb)))(hl:A.length=32)(hw:∀x∈A,(Lit.int .u8 x).wf=true)(hm:Mp w sb N g)(hN:N<=65536)(ae:b<N)(hk:w.ownsMap prog 81 Rv kb n D)(hn:n<=65536)(ad:D.atKey (Dh A) (.held AK)=.held T)(hr:Bv w T ps)(ak:ps.length<=65536)(ai:kb≠sb)(am:t≠kb)(an:t≠sb)(al:∀j,T.ownBlock=some j->j≠kb/\j≠sb/\j≠t):
 Calls prog 36 #[AW t,.agg #[.int .i64 (b:Int),.int .i64 E],Gn A U] w λ e w'=>e=.returned (.tuple #[])/\∃a8,Mp w' sb N (Df g b (Gn A U))/\w'.ownsMap prog 81 Rv kb (n+1) (D.put (Dh A) (.held a8))/\Bv w' a8 (ps++[((b:Int),E)])/\
  AD (λ j=>j=sb\/j=kb\/T.ownBlock=some j) w w'/\∀j,a8.ownBlock=some j->T.ownBlock=some j\/w.heap.size<=j:=by
 obtain⟨O,ap⟩:=exN ((w.alloc (.cells #[.int .i64 (b:Int),.int .i64 E] 28)).alloc (.cells (Mz A U).toArray 95));have a4:t<w.heap.size:=(za0.1 hb).1;have I:Hid (Below w.heap.size w O/\Vr O w.heap.size 28 [.int .i64 (b:Int),.int .i64 E]/\Vr O (w.heap.size+1) 95 (Mz A U)):=by
  have s1:(w.alloc (.cells #[.int .i64 (b:Int),.int .i64 E] 28)).heap.size=w.heap.size+1:=by simp
  rw[<-ap];refine⟨((Below.refl _ _).alloc (AE _) _).alloc (by simp) _,(CZ w 28 [.int .i64 (b:Int),.int .i64 E]).on ((Below.refl _ _).alloc (AE _) _),?_⟩;have:=CZ (w.alloc (.cells #[.int .i64 (b:Int),.int .i64 E] 28)) 95 (Mz A U);rw[s1]at this;exact this
 have HY:Hid (∀W (S:Nat->Prop),AD S O W->¬S t->¬S w.heap.size->¬S (w.heap.size+1)->Ly t w.heap.size sb kb (b:Int) E A U W):=λ W S ht n1 n2 n3=>by
  have aq:W.heap[t]?=some (.cells cs.toArray 90 (0,0)):=by rw[ht.block t (Ao a4 I.o.1.size) n1,I.o.1.block t a4];exact hb
  exact ACb aq h2 h3 (I.o.2.1.tch ht n2) (I.o.2.2.tch ht n3) hl
 have HM:Hid (Mp O sb N g/\O.ownsMap prog 81 Rv kb n D/\Bv O T ps):=⟨hm.tch (S:=λ _=>False) (AD.of_below I.o.1) (λ e=>e),EP hk (S:=λ _=>False) (AD.of_below I.o.1) (λ e=>e),hr.below I.o.1⟩
 have f:Hid (kb<w.heap.size/\sb<w.heap.size/\∀j,T.ownBlock=some j->j<w.heap.size):=⟨hk.lt,hm.lt,λ j hj=>(World.ownsRow.lt hr j hj).2⟩
 have r:=z6 (And.intro ad (And.intro ai (And.intro am (And.intro an (And.intro al (And.intro a4 (And.intro hN (And.intro ae (And.intro hn (And.intro ak (MS hl hw)))))))))));have b0:=(I.o.2.1.at 0).trans rfl;have b1:=(I.o.2.1.at 1).trans rfl;clear hb h2 h3 hl hw hm hN ae hk hn ad hr ak ai am an al a4;unfold Gn
 go_enter func36,ntmps36
 go_upto_region 1 with fail
 have a7:prog.follows .mixedOrders=true:=by kernel_rfl
 refine Dz (S:=λ W=>Ly t w.heap.size sb kb (b:Int) E A U W) (t:=7) a7 ?_;have a0:=HY.o O.drew (λ _=>False) (AD.of_below (Below.of_drewN _ O 1)) (λ e=>e) (λ e=>e) (λ e=>e);refine AO 0 (some 6) (.move (.tmp 0)) (AW t) a0 ?_;simp only[zq];refine AO 1 (some 7) (.nilCheck (.tmp 6)) (AW t) a0 ?_;simp only[zq];refine AO 2 (some 8) (.fieldAddr 90 (.tmp 7) 3) (Value.pointer (some ⟨t,3,none⟩)) a0 ?_;simp only[zq];refine AO 3 (some 9) (.load 86 (.tmp 8)) (Value.map (some sb)) a0 ?_;simp only[zq];refine AO 4 (some 10) (.fieldAddr 28 (.tmp 4) 0) (Value.pointer (some ⟨w.heap.size,0,none⟩)) a0 ?_;simp only[zq];refine AO 5 (some 11) (.load 3 (.tmp 10)) (Value.int .i64 (b:Int)) a0 ?_;simp only[zq]
 refine Be 6 (some 12) (.load 95 (.tmp 5)) (Gn A U) ?hy a0 ?_;case hy=>rintro o B w' hz;obtain⟨k2,k3,k0,k1,kl,kg⟩:=hz;exact KH B rfl kl
 simp only[zq];refine Ae 7 none (.mapUpdate 86 (.tmp 9) (.tmp 11) (.tmp 12)) ?_;rintro o K L B Z J;refine AIh B (b:=sb) (n:=N) (i:=b) (u:=Gn A U) rfl rfl rfl (HM.o.1.tch (S:=λ _=>False) (AD.of_below (Below.of_drewN _ O 1)) (λ e=>e)) r.o.2.2.2.2.2.2.2.1 r.o.2.2.2.2.2.2.1 ?_;intro X m2 t2;have T2:=z6 ((AD.of_below (S:=λ k=>k=sb) (Below.of_drewN _ O 1)).trans t2 (λ _ _ e=>e));have M2:=z6 m2;rw[L];refine J _ _ (λ e=>absurd rfl e) ?_;refine Cx (by kernel_rfl) ?_ _;clear B L Z J m2 t2;simp only[zq]
 go_upto_region 2 with fail
 have a7:prog.follows .mixedOrders=true:=by kernel_rfl
 refine Dz (S:=λ W=>Ly t w.heap.size sb kb (b:Int) E A U W) (t:=12) a7 ?_;have a1:Ly t w.heap.size sb kb (b:Int) E A U X.drew:=HY.o X.drew (λ k=>k=sb) (T2.o.trans (AD.of_below (S:=λ _=>False) (Below.of_drewN _ X 1)) (λ _ _ e=>e.elim)) (λ e=>r.o.2.2.2.1 e) (λ e=>by have:=f.o.2.1;omega) (λ e=>by have:=f.o.2.1;omega);refine AO 0 (some 13) (.move (.tmp 0)) (AW t) a1 ?_;simp only[zq];refine AO 1 (some 14) (.nilCheck (.tmp 13)) (AW t) a1 ?_;simp only[zq];refine AO 2 (some 15) (.fieldAddr 90 (.tmp 14) 2) (Value.pointer (some ⟨t,2,none⟩)) a1 ?_;simp only[zq];refine AO 3 (some 16) (.load 85 (.tmp 15)) (Value.map (some kb)) a1 ?_;simp only[zq]
 refine AO 4 (some 17) (.fieldAddr 95 (.tmp 5) 0) (Value.pointer (some ⟨(w.heap.size+1),0,none⟩)) a1 ?_;simp only[zq];refine Be 5 (some 18) (.load 81 (.tmp 17)) (FJ A) ?hy a1 ?_;case hy=>rintro o B w' hz;obtain⟨k2,k3,k0,k1,kl,kg⟩:=hz;exact KH B rfl kg
 simp only[zq];refine AO 6 (some 20) (.load 28 (.tmp 4)) (Value.agg #[.int .i64 (b:Int),.int .i64 E]) a1 ?_;simp only[zq];refine Ae 7 (some 21) (.buildSlice 26 1 #[(0,.tmp 20)]) ?_;rintro o K L B Z J;refine AId B rfl ?_;rw[L];obtain⟨W3,a3⟩:=exN (X.drew.alloc (.cells #[.int .i64 (b:Int),.int .i64 E] 28));obtain⟨q,hq⟩:=exN X.drew.heap.size;have ac:Vr W3 q 28 [.int .i64 (b:Int),.int .i64 E]:=by rw[<-a3,<-hq];exact CZ X.drew 28 [.int .i64 (b:Int),.int .i64 E]
 have ar:O.heap.size<=q:=by rw[<-hq];exact T2.o.size
 have a6:AD (λ _=>False) X W3:=by rw[<-a3];exact AD.of_below ((Below.of_drewN _ X 1).alloc (AE _) _)
 have T3:AD (λ k=>k=sb) O W3:=T2.o.trans a6 (λ _ _ e=>e.elim);rw[a3,hq];refine J _ _ (λ _=>HY.o W3 _ T3 (λ e=>r.o.2.2.2.1 e) (λ e=>by have:=f.o.2.1;omega) (λ e=>by have:=f.o.2.1;omega)) ?_;clear B L Z J a3 hq;simp only[zq];refine Ae 8 (some 22) (.mapEntry 85 (.tmp 16) (.tmp 18)) ?_;rintro o K L B Z J;refine AIa B rfl rfl r.o.2.2.2.2.2.2.2.2.2.2 (EP HM.o.2.1 T3 (λ e=>r.o.2.1 e)) (by have:=r.o.2.2.2.2.2.2.2.2.1;unfold maxLen;omega) r.o.1 ?_;intro W4 st t4 af;have Y:=T3.trans2 t4;have a9:AD (λ k=>k=kb) X W4:=(a6.mono (S':=λ k=>k=kb) (λ _ _ e=>e.elim)).trans t4 (λ _ _ e=>e);have ab:Vr W4 q 28 [.int .i64 (b:Int),.int .i64 E]:=ac.tch t4 (λ e=>by have:=f.o.1;have:=I.o.1.size;omega)
 have aa:Bv W4 T ps:=HM.o.2.2.tch Y (λ j hj e=>by have:=r.o.2.2.2.2.1 j hj;omega);rw[L];refine J _ _ (λ _=>(HY.o W4 _ Y (λ e=>e.elim r.o.2.2.2.1 r.o.2.2.1) (λ e=>by have:=f.o.1;have:=f.o.2.1;omega) (λ e=>by have:=f.o.1;have:=f.o.2.1;omega))) ?_;clear B L Z J t4;simp only[zq];refine AO 9 (some 19) (.extract (.tmp 22) 0) (T) (HY.o W4 _ Y (λ e=>e.elim r.o.2.2.2.1 r.o.2.2.1) (λ e=>by have:=f.o.1;have:=f.o.2.1;omega) (λ e=>by have:=f.o.1;have:=f.o.2.1;omega)) ?_;simp only[zq];refine AO 11 (some 24) (.extract (.tmp 22) 1) (goInt st) (HY.o W4 _ Y (λ e=>e.elim r.o.2.2.2.1 r.o.2.2.1) (λ e=>by have:=f.o.1;have:=f.o.2.1;omega) (λ e=>by have:=f.o.1;have:=f.o.2.1;omega)) ?_;simp only[zq]
 refine Ae 10 (some 23) (.call { callee:=.builtin .append,args:=#[.tmp 19,.tmp 21],argTypes:=#[26,26] }) ?_;rintro o K L B Z J;refine AIZ B rfl aa rfl ab (by have:=r.o.2.2.2.2.2.2.2.2.2.1;omega) ?_;intro a5 W5 aj a2;have T5:=Y.trans3 a2.tch;have ag:W5.heap[kb]?=W4.heap[kb]?:=a2.tch.block kb (by have:=Y.size;have:=f.o.1;have:=I.o.1.size;omega) (λ e=>(r.o.2.2.2.2.1 kb e).1 rfl);rw[L]
 refine J _ _ (λ _=>(HY.o W5 _ T5 (λ e=>e.elim r.o.2.2.2.1 (λ e=>e.elim r.o.2.2.1 (λ e=>(r.o.2.2.2.2.1 t e).2.2 rfl))) (λ e=>by rcases e with e|e|e;(· have:=f.o.2.1;omega);(· have:=f.o.1;omega);(· have:=f.o.2.2 _ e;omega)) (λ e=>by rcases e with e|e|e;(· have:=f.o.2.1;omega);(· have:=f.o.1;omega);(· have:=f.o.2.2 _ e;omega)))) ?_;clear B L Z J;simp only[zq];refine Ae 12 none (.entryStore 85 (.tmp 16) (.tmp 24) (.tmp 23)) ?_;rintro o K L B Z J;refine AIb B rfl rfl rfl af ag ?_;intro W6 m6 t6
 have HF:Hid (Mp W6 sb N (Df g b (Gn A U))/\W6.ownsMap prog 81 Rv kb (n+1) (D.put (Dh A) (.held a5))/\Bv W6 a5 (ps++[((b:Int),E)])/\AD (λ j=>j=sb\/j=kb\/T.ownBlock=some j) w W6/\∀j,a5.ownBlock=some j->T.ownBlock=some j\/w.heap.size<=j):=by
  have ao:AD (λ j=>j=kb\/T.ownBlock=some j) X W6:=((a9.mono (λ _ _ e=>.inl e)).trans a2.tch (λ _ _ e=>.inr e)).trans t6 (λ _ _ e=>.inl e);refine⟨M2.o.tch ao (λ e=>e.elim (λ e=>r.o.2.1 e.symm) (λ e=>(r.o.2.2.2.2.1 sb e).2.1 rfl)),m6,aj.tch t6 (λ j hj e=>?_),?_,λ j hj=>?_⟩;subst e;rcases a2.fresh j hj with e|e;exact(r.o.2.2.2.2.1 j e).1 rfl;have:=f.o.1;have:=I.o.1.size;have:=Y.size;omega;exact((AD.of_below (S:=λ j=>j=sb\/j=kb\/T.ownBlock=some j) I.o.1).trans T5 (λ _ _ e=>e)).trans t6 (λ _ _ e=>.inr (.inl e));rcases a2.fresh j hj with e|e;exact .inl e;exact .inr (by have:=I.o.1.size;have:=Y.size;omega)
 rw[L];refine J _ _ (λ e=>absurd rfl e) ?_;refine Cx (by kernel_rfl) ?_ _;clear B L Z J m6 t6 aj a2 ag af aa ab ac T3 Y T5 a6 a9 ar;simp only[zq];go_wp2_with fail
 go_end0
 exact⟨rfl,a5,HF.o⟩
def Yl(K e g):Eo (K++[e]) g=Eo K g++if AS e.ds=g then[(e.b,(e.ds.length:Int))]else[]:=by
 unfold Eo
 grind
def Rc{K g}(h:∀f∈K,AS f.ds≠g):Eo K g=[]:=by unfold Eo;simp_all
def Yk(K g):(Eo K g).length<=K.length:=by
 unfold Eo
 grind
def Ar.kzAt{U X S Y Z w w' t c d M N kb sb fb ub a s D}(h:Ar U w t c d M N a kb sb fb ub X S Y Z s D){I E}(f:Kz E w' N kb sb ub I)(A:AD Z w w')(B:∀k,E k->Z k\/(¬X k/\¬S k/\¬Y k/\k≠t/\k≠fb)):Sz (λ k=>U k\/E k) w' t c d M N { a with K:=I }/\AD U w w':=by
 have J:∀k,Z k->U k:=λ k f=>h.ux k (.inr (.inr (.inr (.inl f))));refine⟨⟨kb,sb,fb,ub,X,S,Y,E,s,D,?_⟩,A.mono (λ k _ e=>J k e)⟩;exact{
  box:=by rw[A.block t h.lt h.nt.2.2.2];exact h.box
  cz:=h.cz.tch A (λ k f e=>h.xz k f e) (λ k f e=>h.sz k f e)
  pm:=h.pm.tch A (λ k f e=>h.yz k f e)
  kz:=f
  fm:=h.fm.tch A h.nf.2.2.2
  xy:=h.xy
  sy:=h.sy
  xz:=λ k r f=>(B k f).elim (h.xz k r) (λ e=>e.1 r)
  sz:=λ k r f=>(B k f).elim (h.sz k r) (λ e=>e.2.1 r)
  yz:=λ k r f=>(B k f).elim (h.yz k r) (λ e=>e.2.2.1 r)
  nt:=⟨h.nt.1,h.nt.2.1,h.nt.2.2.1,λ e=>(B t e).elim h.nt.2.2.2 (λ e=>e.2.2.2.1 rfl)⟩
  nf:=⟨h.nf.1,h.nf.2.1,h.nf.2.2.1,λ e=>(B fb e).elim h.nf.2.2.2 (λ e=>e.2.2.2.2 rfl)⟩
  ux:=λ k f=>by
   rcases f with e|e|e|e|e;exact .inl (h.ux k (.inl e));exact .inl (h.ux k (.inr (.inl e)));exact .inl (h.ux k (.inr (.inr (.inl e))))
   .grind
   .exact .inl (h.ux k (.inr (.inr (.inr (.inr e)))))
  ul:=λ k e=>e.elim (λ e=>Ao (h.ul k e) A.size) (Kz.lt f k)
  ok:=⟨h.ok.lo,h.ok.hi,h.ok.fr,h.ok.v,h.ok.q,h.ok.co,h.ok.dc,h.ok.dv⟩ }
def Yg{w:World}{b o q f}(h:w.heap[b]?=some (.map q f)):w.cell? ⟨b,o,none⟩=none:=by unfold World.cell?;simp[h]
def Pe{w v xs}(h:Rd .i64 w v xs)(q:xs≠[]){P k b n D}(A:w.ownsMap P k Rv b n D):v.ownBlock≠some b:=by
 obtain⟨E,B,r,_⟩:=A;obtain⟨a,c,rfl,_,_,_,f⟩:=h;rcases f with e|⟨g,o,rfl,f⟩
 .grind
 .intro e;simp only[Value.ownBlock,Option.some.injEq]at e;subst e;have:=f 0 (List.length_pos_iff.2 q);rw[Yg r]at this;cases this
def Md{w v ps}(h:Bv w v ps){P k b n D}(f:w.ownsMap P k Rv b n D):v.ownBlock≠some b:=by
 intro e;obtain⟨A,q,B,_⟩:=f;obtain⟨r,hc⟩:=Nl (w:=w) h e
 grind
def ACC{U t c d M N a}(e:Ce)(ac nv w)(H:Sz U w t c d M N a)(hb:0<=e.b/\e.b<N)(al:e.bl≠[])(ao:ac=(e.ds.length:Int))(aq:∀f∈a.K,f.b≠e.b)(hn:Own U 0 w nv e.bl):
 Calls prog 36 #[AW t,.agg #[.int .i64 e.b,.int .i64 ac],Gn (AS e.ds) nv] w λ x w'=>x=.returned (.tuple #[])/\∃U',Sz U' w' t c d M N { a with K:=a.K++[e] }/\AD U w w'/\∀k,U' k->(U k\/nv.ownBlock=some k)\/w.heap.size<=k:=by
 obtain⟨kb,sb,fb,ub,X,S,Y,Z,s,D0,h⟩:=H;obtain⟨Kv,D,SV,E,z⟩:=h.kz;obtain⟨b,a7⟩:∃b:Nat,e.b=(b:Int):=⟨e.b.toNat,by omega⟩
 have ab:∀k,Z k->U k:=λ k r=>h.ux k (.inr (.inr (.inr (.inl r))));have b0:=z.n2;have az:=z.few;obtain⟨rv,ak,a8,a1,a5⟩:∃rv,D.atKey (Dh (AS e.ds)) (.held AK)=.held rv/\Bv w rv (Eo a.K (AS e.ds))/\(∀j,rv.ownBlock=some j->Z j)/\∀f∈a.K,(AS f.ds=AS e.ds->Kv (AS f.ds)=rv)/\(AS f.ds≠AS e.ds->∀k,(Kv (AS f.ds)).ownBlock=some k->rv.ownBlock≠some k)/\∀k,(SV f.b).ownBlock=some k->rv.ownBlock≠some k:=by
  by_cases hx:∃f∈a.K,AS f.ds=AS e.ds;obtain⟨f,q,he⟩:=hx;refine⟨Kv (AS e.ds),by rw[<-he];exact(z.kn.at_ f q).2 _,by rw[<-he];exact z.kn.row f q,λ j B=>z.zk f q j (by rw[he];exact B),λ O T=>⟨λ h=>by rw[h],λ h k r L=>?_,λ k r=>by rw[<-he];exact(z.zs O T k r).2 f q⟩⟩;exact z.kn.ap O T f q (by rw[he];exact h) k r (by rw[he];exact L)
  .have ar:Maps.has D (Dh (AS e.ds))=false:=by rw[Bool.eq_false_iff];intro hh;obtain⟨f,q,hl⟩:=z.kn.has _ hh;exact hx ⟨f,q,(Oq (Ez _) (IV _) (Ez _) (IV _) hl).symm⟩
   refine⟨AK,atKey_of_not_has ar _,?_,λ j B=>(by cases B),λ f q=>⟨λ h=>absurd ⟨f,q,h⟩ hx,λ _ k _ e=>(by cases e),λ k _ e=>(by cases e)⟩⟩;rw[Rc (λ f q I=>hx ⟨f,q,I⟩)];exact UR w
 have aw:t≠kb:=λ e=>h.nt.2.2.2 (by rw[e];exact z.zm.1);have ax:t≠sb:=λ e=>h.nt.2.2.2 (by rw[e];exact z.zm.2.1);have au:∀j,rv.ownBlock=some j->j≠kb/\j≠sb/\j≠t:=λ j B=>⟨λ e=>?_,λ e=>?_,λ e=>h.nt.2.2.2 (by rw[<-e];exact a1 j B)⟩
 rotate_left;obtain⟨ag,hc⟩:=Nl (w:=w) a8 B;obtain⟨es,cl,hm,_⟩:=z.kn.own;rw[e,hm]at hc;cases hc;obtain⟨ag,hc⟩:=Nl (w:=w) a8 B;obtain⟨es,cl,hm,_⟩:=z.sm;rw[e,hm]at hc;cases hc
 have hR:=ACD (t:=t) (kb:=kb) (sb:=sb) (N:=N) (n:=a.K.length) b ac (AS e.ds) nv w h.box rfl rfl (Ez _) (IV _) z.sm (by omega) (by omega) z.kn.own (by omega) ak a8 (by have:=Yk a.K (AS e.ds);omega) z.ne.1 aw ax au;rw[a7];refine hR.mono ?_;rintro x w' ⟨rfl,a9,r1,r2,r3,r4,r5⟩;have a2:∀j,nv.ownBlock=some j->¬Z j:=λ j B e=>(hn.no j B).1 (ab j e);have aa:∀(v:Value),(∀j,v.ownBlock=some j->j≠sb/\j≠kb/\rv.ownBlock≠some j)->∀j,v.ownBlock=some j->¬(j=sb\/j=kb\/rv.ownBlock=some j):=λ v hv j B e=>by obtain⟨h1,J,h3⟩:=hv j B;exact e.elim h1 (λ e=>e.elim J h3)
 have a3:∀f∈a.K,¬f.b=e.b:=aq;have a0:∀f∈a.K++[e],f∈a.K\/f=e:=λ f q=>(zf0.1 q).imp id (λ h=>by simpa using h);have hD:IsMap D:=by obtain⟨es,e,_⟩:=z.kn.own.canon Os;exact⟨es,e⟩
 have ae:WideAt.IsKeyLit (Dh (AS e.ds)):=by unfold Dh;exact trivial
 have af:∀f:Ce,AS f.ds≠AS e.ds->Dh (AS f.ds)≠Dh (AS e.ds):=λ f h1 J=>h1 (Oq (Ez _) (IV _) (Ez _) (IV _) J);have ai:Kz (λ k=>Z k\/a9.ownBlock=some k\/nv.ownBlock=some k) w' N kb sb ub (a.K++[e]):=by
  refine⟨λ g=>if g=AS e.ds then a9 else Kv g,D.put (Dh (AS e.ds)) (.held a9),λ x=>if x=e.b then nv else SV x,E,?_⟩;have av:∀f∈a.K++[e],Bv w' (if AS f.ds=AS e.ds then a9 else Kv (AS f.ds)) (Eo (a.K++[e]) (AS f.ds)):=λ f q=>by rw[Yl];by_cases W:AS f.ds=AS e.ds;rw[if_pos W,if_pos W.symm,W,a7,<-ao];exact r3;rw[if_neg W,if_neg (λ e=>W e.symm),List.append_nil];rcases a0 f q with q|rfl;exact(z.kn.row f q).tch r4 (aa _ (λ j B=>⟨λ e=>Md (z.kn.row f q) z.sm (by rw[<-e];exact B),λ e=>Md (z.kn.row f q) z.kn.own (by rw[<-e];exact B),(a5 f q).2.1 W j B⟩));exact absurd rfl W
  exact{
   kn:={
    own:=by rw[zc0];exact r2
    has:=λ l hl=>by by_cases hq:l=Dh (AS e.ds);exact⟨e,by simp,hq⟩;rw[has_put_other hq]at hl;obtain⟨f,q,hl⟩:=z.kn.has l hl;exact⟨f,by simp[q],hl⟩
    at_:=λ f q=>by by_cases W:AS f.ds=AS e.ds;rw[if_pos W,W];exact⟨has_put_same hD ae _,λ y=>atKey_put_same hD ae _ _⟩;rw[if_neg W];rcases a0 f q with q|rfl;rw[has_put_other (af f W)];exact⟨(z.kn.at_ f q).1,λ y=>by rw[atKey_put_other (af f W)];exact(z.kn.at_ f q).2 y⟩;exact absurd rfl W
    row:=av
    ap:=λ f q O T W k r L=>by
     by_cases h1:AS f.ds=AS e.ds;rw[if_pos h1]at r;have J:¬AS O.ds=AS e.ds:=λ e=>W (by rw[h1,e]);rw[if_neg J]at L;rcases a0 O T with T|rfl;rcases r5 k r with e|e;exact(a5 O T).2.1 J k L e;have:=z.zl k (z.zk O T k L);omega;exact J rfl
     .rw[if_neg h1]at r;rcases a0 f q with q|rfl;by_cases J:AS O.ds=AS e.ds;rw[if_pos J]at L;rcases r5 k L with e|e;exact(a5 f q).2.1 h1 k r e;have:=z.zl k (z.zk f q k r);omega;rw[if_neg J]at L;rcases a0 O T with T|rfl;exact z.kn.ap f q O T W k r L;exact J rfl
      .exact h1 rfl }
   sm:=r1.congr (λ i hi=>by
    unfold Df gS;rw[List.find?_append];by_cases ad:i=b;subst ad;rw[if_pos rfl,List.find?_eq_none.2 (λ f q=>by simpa[<-a7]using a3 f q)];simp[a7]
    .have an:¬(e.b=(i:Int)):=by omega
     rw[if_neg ad];cases hfi:a.K.find? (λ f=>decide (f.b=(i:Int)))with
     | none=>simp[an]
     | some f=>
      have am:=List.mem_of_find?_eq_some hfi;simp[a3 f am])
   sr:=λ f q=>by rcases a0 f q with q|rfl;rw[if_neg (a3 f q)];exact(z.sr f q).tch r4 (aa _ (λ j B=>⟨λ e=>Pe (z.sr f q) (z.bd f q).2.2 z.sm (by rw[<-e];exact B),λ e=>Pe (z.sr f q) (z.bd f q).2.2 z.kn.own (by rw[<-e];exact B),(a5 f q).2.2 j B⟩));rw[if_pos rfl];exact hn.ow.rd.tch r4 (aa _ (λ j B=>⟨λ e=>a2 j B (by rw[e];exact z.zm.2.1),λ e=>a2 j B (by rw[e];exact z.zm.1),λ e=>a2 j B (a1 j e)⟩))
   um:=by rw[zc0];exact(EP z.um r4 (λ e=>e.elim (λ e=>z.ne.2.2 e.symm) (λ e=>e.elim (λ e=>z.ne.2.1 e.symm) (λ e=>Md a8 z.um e)))).mono (by omega)
   uh:=λ l hl=>by obtain⟨f,q,hl⟩:=z.uh l hl;exact⟨f,by simp[q],hl⟩
   ne:=z.ne
   zm:=⟨.inl z.zm.1,.inl z.zm.2.1,.inl z.zm.2.2⟩
   zk:=λ f q k r=>by by_cases h1:AS f.ds=AS e.ds;rw[if_pos h1]at r;exact .inr (.inl r);rw[if_neg h1]at r;rcases a0 f q with q|rfl;exact .inl (z.zk f q k r);exact absurd rfl h1
   zs:=λ f q k r=>by rcases a0 f q with q|rfl;rw[if_neg (a3 f q)]at r;refine⟨.inl (z.zs f q k r).1,λ O T L=>?_⟩;by_cases J:AS O.ds=AS e.ds;rw[if_pos J]at L;rcases r5 k L with e|e;exact(a5 f q).2.2 k r e;have:=z.zl k (z.zs f q k r).1;omega;rw[if_neg J]at L;rcases a0 O T with T|rfl;exact(z.zs f q k r).2 O T L;exact J rfl;rw[if_pos rfl]at r;refine⟨.inr (.inr r),λ O T L=>?_⟩;by_cases J:AS O.ds=AS f.ds;rw[if_pos J]at L;rcases r5 k L with e|e;exact a2 k r (a1 k e);have:=hn.ow.lt k r;omega;rw[if_neg J]at L;rcases a0 O T with T|rfl;exact a2 k r (z.zk O T k L);exact J rfl
   zl:=λ k r=>by rcases r with e|e|e;exact Ao (z.zl k e) r4.size;exact(World.ownsRow.lt r3 k e).2;exact Ao (hn.ow.lt k e) r4.size
   nd:=by rw[za1,List.nodup_append];refine⟨z.nd,by simp,λ x hx y hy ay=>?_⟩;obtain⟨f,q,rfl⟩:=List.mem_map.1 hx;simp at hy;exact a3 f q (by rw[ay,hy])
   bd:=λ f q=>by rcases a0 f q with q|rfl;exact z.bd f q;exact⟨hb.1,hb.2,al⟩
   n2:=z.n2 }
 have aj:AD Z w w':=r4.mono (λ k _ e=>by
  rcases e with e|e|e;rw[e];exact z.zm.2.1;rw[e];exact z.zm.1
  .exact a1 k e)
 have A:=h.kzAt ai aj (λ k r=>by
  rcases r with e|e|e;exact .inl e;rcases r5 k e with e|e;exact .inl (a1 k e);have a6:=h.ul;refine .inr ⟨λ I=>?_,λ I=>?_,λ I=>?_,λ I=>?_,λ I=>?_⟩;have:=a6 k (h.ux k (.inl I));omega;have:=a6 k (h.ux k (.inr (.inl I)));omega;have:=a6 k (h.ux k (.inr (.inr (.inl I))));omega;have:=a6 k (h.ux k (.inr (.inr (.inr (.inr (.inl I))))));omega;have:=a6 k (h.ux k (.inr (.inr (.inr (.inr (.inr I))))));omega
  .have a4:=(hn.no k e).1;exact .inr ⟨λ I=>a4 (h.ux k (.inl I)),λ I=>a4 (h.ux k (.inr (.inl I))),λ I=>a4 (h.ux k (.inr (.inr (.inl I)))),λ I=>a4 (h.ux k (.inr (.inr (.inr (.inr (.inl I)))))),λ I=>a4 (h.ux k (.inr (.inr (.inr (.inr (.inr I))))))⟩)
 refine⟨rfl,_,A.1,A.2,λ k r=>?_⟩;rcases r with e|e|e|e;exact .inl (.inl e);exact .inl (.inl (ab k e));rcases r5 k e with e|e;exact .inl (.inl (ab k (a1 k e)));exact .inr e;exact .inl (.inr e)
end
section
open Go.RowKit
def ADY{xs ys}(E:By xs)(I:By ys)(h:xs.map (λ n=>UInt8.ofNat n.toNat)=ys.map λ n=>UInt8.ofNat n.toNat):xs=ys:=by
 have B:xs.length=ys.length:=by have:=congrArg List.length h;grind
 refine List.ext_getElem B (λ i r A=>?_);have f:(xs.map (λ n=>UInt8.ofNat n.toNat))[i]?=(ys.map λ n=>UInt8.ofNat n.toNat)[i]?:=by rw[h]
 rw[zw0,zw0,z9 r,z9 A]at f;simp only[Option.map_some,Option.some.injEq]at f;have b1:=E i;have q:=I i;rw[AP,z9 r]at b1;rw[AP,z9 A]at q;simp only[Option.getD_some]at b1 q;have:=congrArg UInt8.toNat f;simp only[UInt8.toNat_ofNat']at this;omega
def AGk{xs ys}(f:By xs)(q:By ys):((strOfNums xs).toList==(strOfNums ys).toList)=decide (xs=ys):=by
 rw[Bool.eq_iff_iff,beq_iff_eq,zg1];constructor;intro h;rw[Lib.strOfNums_toList,Lib.strOfNums_toList]at h;exact ADY f q h
 grind
def Zz(u v xs ys w)(T:Rd .u8 w u xs)(hv:Rd .u8 w v ys)(r:xs≠[])(A:ys≠[])(I:By xs)(J:By ys):
 Calls prog 33 #[u,v] w λ e w'=>e=.returned (.bool (decide (xs=ys)))/\w'=w:=by
 rw[<-AGk I J];obtain⟨X,c1,rfl,_,_,_,f⟩:=T;obtain⟨Y,L,rfl,_,_,_,q⟩:=hv;rcases f with e|⟨b1,U,rfl,f⟩
 .exact absurd e r
 rcases q with e|⟨K,W,rfl,q⟩
 .exact absurd e A
 have g1:=run_convert_bytes_arg (P:=prog) w 40 5 underlying40 underlying5 b1 U xs.length c1 xs rfl f 9 underlying9;have O:=run_convert_bytes_arg (P:=prog) w 40 5 underlying40 underlying5 K W ys.length L ys rfl q 9 underlying9;obtain⟨s1,B⟩:=exN (strOfNums xs);obtain⟨Z,E⟩:=exN (strOfNums ys);rw[B]at g1 |-
 rw[E]at O |-
 clear f q B E r A I J
 go_enter func33,ntmps33
 go_wp2_with fail;go_ret;exact⟨rfl,rfl⟩
def AAu{U t c d N bx a}(e:Ce)(q1 q2 J q w)(H:Cq U w t c d bx N a)(h1:Vr w q1 34 [AW t])(h2:Vr w q2 40 [J])(n1:¬U q1)(n2:¬U q2)(O:Rd .u8 w J q)(W:∀j,J.ownBlock=some j->j<w.heap.size/\¬U j)(a1:q≠[])(hy:By q)(T:ckLd a.V e.b e.ds.length=(0,e.ds,e.bl))(he:By e.ds/\e.ds≠[]):
 Calls prog 32 #[.agg #[.int .i64 e.b,.int .i64 (e.ds.length:Int)],.pointer (some ⟨q1,0,none⟩),.pointer (some ⟨q2,0,none⟩)] w λ x w'=>x=.returned (.bool (decide (e.ds=q)))/\∃U',Rq U w t c d bx N a U' w':=by
 obtain⟨Z,a3⟩:∃n:Int,(e.ds.length:Int)=n:=⟨_,rfl⟩
 rw[a3]at T |-
 obtain⟨I,a0⟩:=exN (w.alloc (.cells #[.int .i64 e.b,.int .i64 Z] 28));have B:=z6 (MU e.b Z w I H a0);have A:Below w.heap.size w I:=by rw[<-a0];exact(Below.refl _ _).alloc (AE _) _
 have v1:=h1.on A;have v2:=h2.on A;have c1:=(v1.at 0).trans rfl;have c2:=(v2.at 0).trans rfl;have b0:=B.o.b0;have b1:=B.o.b1;have E:=AU (R8 e.b Z I B.o.rw.sz);rw[T]at E;obtain⟨da,dc,rfl⟩:∃a c,J=.slice a q.length c:=by obtain⟨a,c,e,_⟩:=O;exact⟨a,c,e⟩
 have f:=z6 (And.intro v2 (And.intro n2 (And.intro (O.below A) (And.intro (λ j K=>And.intro (Ao (W j K).1 A.size) (W j K).2:∀j,(Value.slice da q.length dc).ownBlock=some j->j<I.heap.size/\¬U j) (And.intro a1 (And.intro hy he))))));obtain⟨L,a2⟩:=exN e.ds;rw[a2]at f E |-
 clear H h1 h2 n1 O W a1 hy T he v1 v2 A a2 a3
 go_enter func32,ntmps32
 go_wp2_with fail;refine E.o.mono ?_;rintro x w1 ⟨kv,rfl,U1,r,X,a4⟩;have HR:=z6 (B.o.rw.to r.sz r.ch r.nw);obtain⟨ka,kc,rfl⟩:∃a c,kv=.slice a L.length c:=by obtain⟨a,c,e,_⟩:=X.rd;exact⟨a,c,e⟩
 have c3:=((f.o.1.tch r.ch f.o.2.1).at 0).trans rfl;have HE:=AU (Zz (.slice ka L.length kc) (.slice da q.length dc) L q w1 X.rd (f.o.2.2.1.tch r.ch (λ j K=>(f.o.2.2.2.1 j K).2)) f.o.2.2.2.2.2.2.2 f.o.2.2.2.2.1 f.o.2.2.2.2.2.2.1 f.o.2.2.2.2.2.1);clear r X a4 c1 c2 b0 b1 E;go_wp2_with fail;refine HE.o.mono ?_;rintro x w' ⟨rfl,Y⟩;replace Y:=Y.symm;subst Y;clear HE;go_wp2_with fail;go_ret;exact⟨rfl,U1,HR.o⟩
abbrev Il(c M kb sb fb ub:Nat):Array Value:=#[cp c,mp M,.map (some kb),.map (some sb),.map (some fb),.map (some ub)]
section
variable {U U2 X S Y Z:Nat->Prop} {w w':World} {t c d M N kb sb fb ub:Nat} {a:Ab} {s:CS} {D:DS}
def Ar.cq(h:Ar U w t c d M N a kb sb fb ub X S Y Z s D):Cq (λ k=>X k\/S k) w t c d (Il c M kb sb fb ub) N a:=
 ⟨X,S,s,D,h.box,rfl,h.cz,λ _ e=>e,λ e=>e.elim h.nt.1 h.nt.2.1,λ k e=>h.ul k (e.elim (λ e=>h.ux k (.inl e)) (λ e=>h.ux k (.inr (.inl e)))),h.ok⟩
def Ar.back(h:Ar U w t c d M N a kb sb fb ub X S Y Z s D)(r:Rq (λ k=>X k\/S k) w t c d (Il c M kb sb fb ub) N a U2 w'):∃B S' s' J,Ar (λ k=>U k\/U2 k) w' t c d M N a kb sb fb ub B S' Y Z s' J:=by
 obtain⟨⟨B,S',s',J,q⟩,E,a0,_⟩:=r;have hU:∀k,X k\/S k->U k:=λ k e=>e.elim (λ e=>h.ux k (.inl e)) (λ e=>h.ux k (.inr (.inl e)));have I:∀k,k<w.heap.size->¬(X k\/S k)->¬(B k\/S' k):=λ k f hn e=>(a0 k (q.ux k e)).elim hn (λ e=>by omega);have O:∀k,Y k->k<w.heap.size:=λ k f=>h.ul k (h.ux k (.inr (.inr (.inl f))));have T:∀k,Z k->k<w.heap.size:=λ k f=>h.ul k (h.ux k (.inr (.inr (.inr (.inl f)))));have W:fb<w.heap.size:=h.fm.lt;have K:∀k,Y k->¬(B k\/S' k):=λ k f=>I k (O k f) (λ e=>e.elim (λ e=>h.xy k e f) (λ e=>h.sy k e f));have L:∀k,Z k->¬(B k\/S' k):=λ k f=>I k (T k f) (λ e=>e.elim (λ e=>h.xz k e f) (λ e=>h.sz k e f));have nt:=I t h.lt (λ e=>e.elim h.nt.1 h.nt.2.1)
 have nf:=I fb W (λ e=>e.elim h.nf.1 h.nf.2.1);exact⟨B,S',s',J,{
  box:=q.box
  cz:=q.cz
  pm:=h.pm.tch E (λ k f e=>e.elim (λ e=>h.xy k e f) (λ e=>h.sy k e f))
  kz:=h.kz.tch E (λ k f e=>e.elim (λ e=>h.xz k e f) (λ e=>h.sz k e f))
  fm:=h.fm.tch E (λ e=>e.elim h.nf.1 h.nf.2.1)
  xy:=λ k f A=>K k A (.inl f)
  sy:=λ k f A=>K k A (.inr f)
  xz:=λ k f A=>L k A (.inl f)
  sz:=λ k f A=>L k A (.inr f)
  yz:=h.yz
  nt:=⟨λ e=>nt (.inl e),λ e=>nt (.inr e),h.nt.2.2⟩
  nf:=⟨λ e=>nf (.inl e),λ e=>nf (.inr e),h.nf.2.2⟩
  ux:=λ k f=>by rcases f with e|e|e;exact .inr (q.ux k (.inl e));exact .inr (q.ux k (.inr e));exact .inl (h.ux k (.inr (.inr e)))
  ul:=λ k f=>f.elim (λ e=>Ao (h.ul k e) E.size) (q.ul k)
  ok:=q.ok }⟩
def Ar.rw(h:Ar U w t c d M N a kb sb fb ub X S Y Z s D)(r:Rq (λ k=>X k\/S k) w t c d (Il c M kb sb fb ub) N a U2 w'):Rw U w t c d M N a (λ k=>U k\/U2 k) w':=by obtain⟨E,B,J,A,q⟩:=h.back r;have f:∀k,X k\/S k->U k:=λ k e=>e.elim (λ e=>h.ux k (.inl e)) (λ e=>h.ux k (.inr (.inl e)));exact⟨⟨kb,sb,fb,ub,E,B,Y,Z,J,A,q⟩,r.ch.mono (λ k _ e=>f k e),λ k I=>I.elim .inl (λ e=>(r.nw k e).imp (f k) id)⟩
def AGx(b q w)(H:Sz U w t c d M N a):
 Calls prog 13 #[AW t,.agg #[.int .i64 b,.int .i64 q]] w λ e w'=>∃f,e=.returned (.tuple #[f,.int .i64 (ckLd a.V b q).1])/\∃A,Rw U w t c d M N a A w'/\
  Nw w.heap.size w' f (ckLd a.V b q).2.1/\∀j,f.ownBlock=some j->¬A j:=by
 obtain⟨kb,sb,fb,ub,X,S,Y,Z,s,D,h⟩:=H;refine(R8 b q w h.cq).mono ?_;rintro e w' ⟨f,rfl,U2,r,E,I⟩;exact⟨f,rfl,_,h.rw r,E,λ j B e=>e.elim (λ e=>by have:=E.new j B;have:=h.ul j e;omega) (I j B)⟩
def AGv(b q w)(H:Sz U w t c d M N a):
 Calls prog 16 #[AW t,.agg #[.int .i64 b,.int .i64 q]] w λ e w'=>∃f,e=.returned (.tuple #[f,.int .i64 (An a.V b q).1])/\∃E,Rw U w t c d M N a E w'/\
  AF .i64 3 w' f (An a.V b q).2.2/\∀j,f.ownBlock=some j->¬E j/\w.heap.size<=j:=by
 obtain⟨kb,sb,fb,ub,X,S,Y,Z,s,D,h⟩:=H;refine(ZP b q w h.cq).mono ?_;rintro e w' ⟨f,rfl,U2,r,I,B⟩;exact⟨f,rfl,_,h.rw r,I,λ j A=>⟨λ e=>e.elim (λ e=>by have:=(B j A).2;have:=h.ul j e;omega) (B j A).1,(B j A).2⟩⟩
end
end
section
open Go.RowKit Go.Maps
def wkC{x}{t:Nat}(h:x=(t:Int))(f:t<4611686018427387904):IntKind.i64.wrap x=(t:Int):=by rw[h];exact Bp _ (by omega) (by omega)
noncomputable def ck0(n:Nat):Ab:=⟨Ah.new 50 (50+n),FV (CS.new 4) (DS.new (50+n)),LF (DS.new (50+n)),λ _=>false,[],0⟩
structure CT(U:Nat->Prop)(w:World)(b t c d M N r q:Nat)(a:Ab):Prop where
 bx:Vr w b 38 [dp d,cp c,mp M,AW t,.pointer (some ⟨r,0,none⟩),.pointer (some ⟨q,0,none⟩)]
 sz:Sz U w t c d M N a
 nb:¬U b
section
variable {U:Nat->Prop} {w w':World} {b t c d M N r q:Nat} {a a':Ab}
def CT.to(h:CT U w b t c d M N r q a)(B:G6 U w w' t c d M N a'):∃f,CT f w' b t c d M N r q a'/\AD U w w'/\∀k,f k->U k\/w.heap.size<=k:=by obtain⟨f,z,tt,A⟩:=B;exact⟨f,⟨h.bx.tch tt h.nb,z,λ e=>(A b e).elim h.nb (λ e=>by have:=h.bx.lt;omega)⟩,tt,A⟩
def CT.tch(h:CT U w b t c d M N r q a){S}(f:AD S w w')(B:∀k,U k->¬S k)(A:¬S b):CT U w' b t c d M N r q a:=⟨h.bx.tch f A,h.sz.tch f B,h.nb⟩
def CT.below(h:CT U w b t c d M N r q a)(f:Below w.heap.size w w'):CT U w' b t c d M N r q a:=h.tch (S:=λ _=>False) (AD.of_below f) (λ _ _ e=>e) (λ e=>e)
def CT.c2(h:CT U w b t c d M N r q a):w.cell? ⟨b,2,none⟩=some (mp M):=(h.bx.at 2).trans rfl
def CT.c3(h:CT U w b t c d M N r q a):w.cell? ⟨b,3,none⟩=some (AW t):=(h.bx.at 3).trans rfl
end
def Rf(n:Nat)(q:n<=4000):FW (ck0 n) where
 so:=Ah.new_okA (by omega) (by omega)
 ld:=λ e f=>by cases f
 bl:=λ e f=>by cases f
 by_:=λ e f=>by cases f
 tk:=λ e f=>by cases f
 dj:=List.Pairwise.nil
 ne:=List.Pairwise.nil
def Ns(n):(ck0 n).A.L.count 0=n:=by show(List.replicate _ _).count 0=n;simp
def RJ(n:Nat)(Y:1<=n)(Z:n<=4000)(w):
 Calls prog 8 #[.int .i64 (n:Int)] w λ e w'=>∃U b t c d M r q,e=.returned (.pointer (some ⟨b,0,none⟩))/\CT U w' b t c d M (50+n) r q (ck0 n)/\(∀k,U k->w.heap.size<=k)/\w.heap.size<=b/\Below w.heap.size w w':=by
 have aj:=wkC (x:=(50:Int)+(n:Int)) (t:=50+n) (by omega) (by omega);have a1:=AU (ADE (50+n) w (by omega) (by omega));have a2:Hid (∀W,Calls prog 27 #[.int .i64 ((50+n:Nat):Int)] W λ e w'=>∃r,e=.returned (.tuple #[.pointer (some ⟨r,0,none⟩),.int .i64 0])/\Below W.heap.size W w'):=λ W=>AEt (50+n) W (by omega) (by omega);have KN:Hid (∀(d:Nat)(W:World),Calls prog 23 #[dp d,.int .i64 4] W λ e w'=>∃c X,e=.returned (.tuple #[cp c,.int .i64 0])/\Ch X w' c d (50+n) (CS.new 4)/\Below W.heap.size W w'/\∀k,X k->W.heap.size<=k):=λ d W=>ADB d (50+n) 4 W (by omega) (by omega) (by omega)
 have AN:Hid (∀(W:World),Calls prog 28 #[.int .i64 50,.int .i64 ((50+n:Nat):Int)] W λ e w'=>∃M,e=.returned (.tuple #[mp M,.int .i64 0])/\Pm w' M (Ah.new 50 (50+n)) (λ k=>W.heap.size<=k/\k<w'.heap.size)/\Below W.heap.size W w'):=λ W=>ADC 50 (50+n) (by omega) (by omega) W;have a4:Hid (∀(W:World),Calls prog 29 #[.int .i64 50,.int .i64 ((50+n:Nat):Int)] W λ e w'=>∃R,e=.returned (.tuple #[.pointer (some ⟨R,0,none⟩),.int .i64 0])/\Below W.heap.size W w'):=λ W=>AEs 50 (50+n) (by omega) (by omega) W;have ak:Hid (1<=n/\n<=4000):=⟨Y,Z⟩
 have al:=z6 aj;clear Y Z
 go_enter func8,ntmps8
 go_wp2_with fail;refine a1.o.mono ?_;rintro e W1 ⟨d,S,rfl,hd,b1,hS⟩;have I:=z6 (And.intro hd (And.intro b1 hS));clear hd b1 hS a1;go_wp2_with fail;refine(a2.o W1).mono ?_;rintro e W2 ⟨r,rfl,b2⟩;have L:=z6 b2;clear b2 a2;go_wp2_with fail;refine(KN.o d W2).mono ?_;rintro e W3 ⟨c,X,rfl,hc,b3,hX⟩;have B:=z6 (And.intro hc (And.intro b3 hX));clear hc b3 hX KN;go_wp2_with fail;refine(AN.o W3).mono ?_;rintro e T ⟨M,rfl,hm,b4⟩;have J:=z6 (And.intro hm b4);clear hm b4 AN;have a3:Hid (Calls prog 24 #[cp c,mp M] T λ e w'=>∃t O,e=.returned (.tuple #[AW t,.int .i64 0])/\Sz O w' t c d M (50+n) (ck0 n)/\Below T.heap.size T w'/\(∀k,O k->w.heap.size<=k)/\T.heap.size<=t):=by
  have s1:=I.o.2.1.size;have s2:=L.o.size;have s3:=B.o.2.1.size;have s4:=J.o.2.size;have ae:=(I.o.1.below L.o).below B.o.2.1;have ag:∀k,X k->k<W3.heap.size:=λ k A=>by obtain⟨_,_,_,q⟩:=B.o.1;exact q.xlt k A
  have ad:∀k,S k->k<W1.heap.size:=I.o.1.slt;have cz:Cz X S W3 c d (50+n) (CS.new 4) (DS.new (50+n)):=⟨B.o.1,ae,by simp[DS.new],λ k A e=>by have:=B.o.2.2 k A;have:=ad k e;omega⟩
  refine(AGy (n:=0) (cz.below J.o.2) J.o.1 (λ k A e=>by have:=ag k A;omega) (λ k A e=>by have:=ad k A;omega) rfl ?_ ?_ rfl (λ i=>by simp[DS.new])).mono ?_;show 50+(List.replicate _ _).length=_;rw[zm0];omega;intro m hm;simp[CS.new]at hm;rintro e w' ⟨t,O,rfl,Y,Z,h3,h4⟩;exact⟨t,O,rfl,Y,Z,λ k A=>(h3 k A).elim (λ e=>e.elim (λ e=>by have:=B.o.2.2 k e;omega) (λ e=>e.elim (λ e=>I.o.2.2 k e) (λ e=>by omega))) (λ e=>by omega),h4⟩
 go_wp2_with fail;refine a3.o.mono ?_;rintro e W5 ⟨t,U,rfl,hz,b5,hU,ht⟩;have K:=z6 (And.intro hz (And.intro b5 hU));clear hz b5 hU ht a3;go_wp2_with fail;refine(a4.o W5).mono ?_;rintro e f ⟨R,rfl,b6⟩;have a0:=z6 b6;clear b6 a4;go_wp2_with fail;go_ret;obtain⟨E,af,z7,b7⟩:∃E,(f.alloc (.cells #[.pointer (some ⟨r,0,none⟩),.int .i64 4,.slice none 0 0,.slice none 0 0] 78)).alloc (.cells #[.pointer (some ⟨f.heap.size,0,none⟩),.pointer (some ⟨R,0,none⟩),.slice none 0 0,.slice none 0 0,.slice none 0 0] 80)=E/\E.heap.size=f.heap.size+1+1/\Below f.heap.size f E:=⟨_,rfl,by simp,((Below.refl _ _).alloc (AE _) _).alloc (by simp) _⟩
 rw[af];have s1:=I.o.2.1.size;have s2:=L.o.size;have s3:=B.o.2.1.size;have s4:=J.o.2.size;have s5:=K.o.2.1.size;have s6:=a0.o.size;have a5:=I.o.2.1.trans (L.o.mono s1);have a6:=a5.trans (B.o.2.1.mono a5.size);have a7:=a6.trans (J.o.2.mono a6.size);have a8:=a7.trans (K.o.2.1.mono a7.size);have a9:=a8.trans (a0.o.mono a8.size);have aa:=a9.trans (b7.mono a9.size);have ab:=a0.o.trans (b7.mono s6);have ac:Below E.heap.size E (E.alloc (.cells #[dp d,cp c,mp M,AW t,.pointer (some ⟨r,0,none⟩),.pointer (some ⟨f.heap.size+1,0,none⟩)] 38)):=(Below.refl _ _).alloc (AE _) _;have bx:=CZ E 38 [dp d,cp c,mp M,AW t,.pointer (some ⟨r,0,none⟩),.pointer (some ⟨f.heap.size+1,0,none⟩)];rw[z7]at bx
 have ai:=K.o.1.ul;exact⟨U,f.heap.size+1+1,t,c,d,M,r,f.heap.size+1,rfl,⟨bx,K.o.1.below (ab.trans (ac.mono ab.size)),λ e=>by have:=ai _ e;omega⟩,K.o.2.2,by omega,aa.trans (ac.mono aa.size)⟩
end
section
open Go.RowKit
abbrev Lj(L:List Ce):List (Int×Int):=L.map λ e=>(e.b,(e.ds.length:Int))
def ABA{U t c d N E a}(L v O T Y q w)(H:Cq U w t c d E N a)(h1:Vr w O 34 [AW t])(h2:Vr w T 40 [Y])(n1:¬U O)(n2:¬U T)(hd:Rd .u8 w Y q)(K:∀j,Y.ownBlock=some j->j<w.heap.size/\¬U j)(a6:q≠[])(hy:By q)(hr:Bv w v (Lj L))(a9:∀j,v.ownBlock=some j->¬U j)(hL:∀e∈L,ckLd a.V e.b e.ds.length=(0,e.ds,e.bl)/\By e.ds/\e.ds≠[])(ac:L.length<=4096):
 Calls prog 34 #[v,.func (.func 32) #[] #[.pointer (some ⟨O,0,none⟩),.pointer (some ⟨T,0,none⟩)]] w λ x w'=>∃z,x=.returned (.int .i64 z)/\((z=-1/\∀e∈L,e.ds≠q)\/∃(k:Nat)(e:Ce),L[k]?=some e/\z=(k:Int)/\e.ds=q)/\∃B,Rq U w t c d E N a B w':=by
 have HS:=z6 H.rw;have HA:Hid (∀(e:Ce) B W,e∈L->Rq U w t c d E N a B W->Calls prog 32 #[.agg #[.int .i64 e.b,.int .i64 (e.ds.length:Int)],.pointer (some ⟨O,0,none⟩),.pointer (some ⟨T,0,none⟩)] W λ x w'=>x=.returned (.bool (decide (e.ds=q)))/\∃U2,Rq U w t c d E N a U2 w'):=λ e B W r R=>by have hl:=h1.lt;have ab:=h2.lt;refine(AAu e O T Y q W R.sz (h1.tch R.ch n1) (h2.tch R.ch n2) (Di R.nw hl n1) (Di R.nw ab n2) (hd.tch R.ch (λ j A=>(K j A).2)) (λ j A=>⟨Ao (K j A).1 R.ch.size,Di R.nw (K j A).1 (K j A).2⟩) a6 hy (hL e r).1 (hL e r).2).mono ?_;rintro x w' ⟨rfl,U2,R2⟩;exact⟨rfl,U2,R.to R2.sz R2.ch R2.nw⟩
 have a4:Hid (∀B W,Rq U w t c d E N a B W->Bv W v (Lj L)):=λ B W R=>hr.tch R.ch a9;obtain⟨va,vc,hv⟩:∃va vc,v=.slice va L.length vc:=by obtain⟨x,y,e,_⟩:=hr.rd;exact⟨x,y,by rw[e];simp⟩
 subst hv;obtain⟨n,a2⟩:=exN L.length;have X:=z6 a2;rw[a2]at a4 ac |-
 clear H h1 h2 n1 n2 hd K a6 hy hr a9 hL a2
 go_enter func34,ntmps34
 go_wp2_with fail
 go_loopw [8] (λ kv wr=>∃(k:Nat)(J:Nat->Prop),k<=n/\kv=.int .i64 (k:Int)/\Hid (Rq U w t c d E N a J wr/\∀(j:Nat)(e:Ce),L[j]?=some e->j<k->e.ds≠q)) (λ kv _=>n-(intOf kv).toNat)
 case atStart=>exact⟨0,U,AI _,rfl,HS.o,λ j _ _ A=>by omega⟩
 case round=>
  obtain⟨k,J,hk,rfl,I⟩:=hrel;by_cases a8:k<n
  .obtain⟨e,Z⟩:∃e,L[k]?=some e:=⟨L[k]'(by have:=X.o;omega),z9 _⟩
   have a3:=z6 Z;have ho:=a4.o J wr I.o.1;obtain⟨g,cap,ev,_,_,_,a5,_⟩:=ho.shape (by rw[zu0,X.o];omega);simp only[Value.slice.injEq]at ev;obtain⟨rfl,hx,rfl⟩:=ev;clear hx;obtain⟨k0,k1⟩:=a5 k (by rw[zu0,X.o];exact a8);(have a7:(Lj L).getD k (0,0)=(e.b,(e.ds.length:Int)):=by rw[AP,zw0,Z];rfl);rw[a7]at k0 k1;have HC:=AU (HA.o e J wr (zd1 Z) I.o.1);obtain⟨eb,a0⟩:=exN e.b;obtain⟨el,a1⟩:=exN ((e.ds.length:Int));rw[a0,a1]at HC;simp only[a0,a1]at k0 k1;clear a5 ho a7 Z a0 a1;go_wp2_with fail;refine HC.o.mono ?_;rintro x w2 ⟨rfl,U2,hR⟩;have HR:=z6 hR;clear hR HC k0 k1;by_cases r:e.ds=q
   .have aa:decide (e.ds=q)=true:=by simpa using r
    have HE:=z6 r;clear r;go_wp2_with fail;go_ret;exact⟨_,rfl,.inr ⟨k,e,a3.o,rfl,HE.o⟩,U2,HR.o⟩
   .have aa:decide (e.ds=q)=false:=by simpa using r
    have HE:=z6 r;clear r;go_wp2_with fail;refine⟨⟨k+1,U2,by omega,rfl,HR.o,λ j f hf A=>?_⟩,by simp[intOf];omega⟩;rcases Nat.lt_or_ge j k with h|h;exact I.o.2 j f hf h
    .obtain rfl:j=k:=by omega
     have:=a3.o.symm.trans hf;simp only[Option.some.injEq]at this;rw[<-this];exact HE.o
  .obtain rfl:k=n:=by omega
   (clear a8;have HF:Hid (∀e∈L,e.ds≠q):=λ e r=>by obtain⟨j,A,rfl⟩:=List.getElem_of_mem r;exact I.o.2 j _ (z9 A) (by have:=X.o;omega));go_wp2_with fail;go_ret;exact⟨_,rfl,.inl ⟨rfl,HF.o⟩,J,I.o.1⟩
end
section
open Go.RowKit Go.Maps
open Classical in
noncomputable def rvK(K:List Ce)(Kv:List Int->Value)(ds:List Int):Value:=if ∃f∈K,AS f.ds=AS ds then Kv (AS ds)else AK
def Oy{w kb K r D}(h:NQ w kb K r D)(q):(Instr.lookup 85 (.map (some kb)) (FJ (AS q)) false).run prog w=.ok (rvK K r q) w/\Bv w (rvK K r q) (Eo K (AS q)):=by
 obtain⟨v,U,hr,hv⟩:=World.ownsMap.lookup h.own Os underlying85 (Wx w) (zd:=.held AK) (zp:=[]) rfl (MS (Ez q) (IV q));by_cases B:∃f∈K,AS f.ds=AS q
 .have e:rvK K r q=r (AS q):=by unfold rvK;grind
  obtain⟨f,A,I⟩:=B;have E:=(h.at_ f A).2 (.held AK);rw[I]at E;rw[E]at hv;simp only[Rv,Option.some.injEq,Prod.mk.injEq,DataW.held.injEq]at hv;rw[e,<-hv.1];refine⟨hr,?_⟩;rw[hv.1,<-I];exact h.row f A
 .have e:rvK K r q=AK:=by unfold rvK;grind
  have T:Maps.has D (Dh (AS q))=false:=by rw[Bool.eq_false_iff];intro L;obtain⟨f,A,O⟩:=h.has _ L;exact B ⟨f,A,(Oq (Ez _) (IV _) (Ez _) (IV _) O).symm⟩
  rw[atKey_of_not_has T]at hv;simp only[Rv,Option.some.injEq,Prod.mk.injEq,DataW.held.injEq]at hv;rw[e,<-hv.1];refine⟨hr,?_⟩;rw[hv.1,Rc (λ f A J=>B ⟨f,A,J⟩)];exact UR w
structure Lv(t w0 kb q7:Nat)(ds:List Int)(rv:Value)(W:World):Prop where
 c:W.cell? ⟨w0,0,none⟩=some (AW t)
 c2:W.cell? ⟨t,2,none⟩=some (.map (some kb))
 lg:(loadVar 81 ⟨q7,0,none⟩).run prog W=.ok (FJ (AS ds)) W
 lk:(Instr.lookup 85 (.map (some kb)) (FJ (AS ds)) false).run prog W=.ok rv W
theorem Oj:(prog.info? 81).map (·.size)=some 32:=by kernel_rfl
def Ar.lv{U X S Y Z W t c d M N kb sb fb ub A r a s B q D}(h:Ar U W t c d M N a kb sb fb ub X S Y Z s B)(J:NQ W kb a.K q D)(f)(E:Vr W A 34 [AW t])(I:Vr W r 81 ((AS f).map (Value.int .u8))):Lv t A kb r f (rvK a.K q f) W:=
 ⟨(E.at 0).trans rfl,h.c2,Vr.load I underlying81 rfl (by rw[Oj];simp[Ez]),(Oy J f).1⟩
def Ph{q}{p u v:Tmp}{ty}(h:q.results=#[.cell p ty,.tmp u,.tmp v])(f P w b r A B)(ha:f.getD p undef=.pointer (some ⟨b,0,none⟩))(J:(loadVar ty ⟨b,0,none⟩).run P w=.ok r w)(E:f.getD u undef=A)(I:f.getD v undef=B):(results q f).run P w=.ok (.tuple #[r,A,B]) w:=by
 rw[Array.getD_eq_getD_getElem?]at ha E I;simp only[results,h];simp[Sem.run_bind,Result.andThen,asAddr];simp_all
theorem Iu:(prog.info? 28).map (·.size)=some 2:=by kernel_rfl
structure Sx(w W:World)(t:Nat)(dv:Value)(b n:Int):Prop where
 bl:Below w.heap.size w W
 v1:Vr W w.heap.size 34 [AW t]
 v2:Vr W (w.heap.size+1) 40 [dv]
 v3:Vr W (w.heap.size+1+1) 28 [.int .i64 b,.int .i64 n]
abbrev Jj(w:World)(t:Nat)(dv:Value):World:=((w.alloc (.cells #[AW t] 34)).alloc (.cells #[dv] 40)).alloc (.cells #[.int .i64 0,.int .i64 0] 28)
def Vz(w t f):Sx w (Jj w t f) t f 0 0:=by
 have s1:(w.alloc (.cells #[AW t] 34)).heap.size=w.heap.size+1:=by simp
 have r:((w.alloc (.cells #[AW t] 34)).alloc (.cells #[f] 40)).heap.size=w.heap.size+1+1:=by simp
 have q:∀(W:World)(o:Obj),Below W.heap.size W (W.alloc o):=λ W o=>(Below.refl _ _).alloc (AE _) _;refine⟨((q _ _).alloc (by simp) _).alloc (by simp;omega) _,((CZ w _ [AW t]).on (q _ _)).on (q _ _),?_,?_⟩
 .have:=(CZ (w.alloc (.cells #[AW t] 34)) 40 [f]).on (q _ (.cells #[.int .i64 0,.int .i64 0] 28))
  grind
 .have:=CZ ((w.alloc (.cells #[AW t] 34)).alloc (.cells #[f] 40)) 28 [.int .i64 0,.int .i64 0]
  grind
def Sx.ans{w W t f b n}(h:Sx w W t f b n):(loadVar 28 ⟨w.heap.size+1+1,0,none⟩).run prog W=.ok (.agg #[.int .i64 b,.int .i64 n]) W:=Vr.load h.v3 underlying28 rfl Iu
def AFi{U t c d M N a}(q n w)(H:Sz U w t c d M N a)(B:∃x c,q=.slice x n c)(E:n<1\/512<n):
 Calls prog 9 #[AW t,q] w λ e w'=>e=.returned (.tuple #[.agg #[.int .i64 0,.int .i64 0],.bool false,.int .i64 1])/\Below w.heap.size w w':=by
 obtain⟨x,A,rfl⟩:=B;have r:Hid (∀W,Calls prog 30 #[.int .i64 (n:Int)] W λ e w'=>e=.returned (.bool false)/\w'=W):=λ W=>by
  refine(PB n W).mono ?_;rintro e w' ⟨rfl,rfl⟩;have:(decide (1<=(n:Int))&&decide ((n:Int)<=512))=false:=by rw[Bool.and_eq_false_iff,AT,AT];omega
  rw[this];exact⟨rfl,rfl⟩
 have f:=z6 (Vz w t (.slice x n A));clear H E
 go_enter func9,ntmps9
 go_wp2_with fail;refine(r.o _).mono ?_;rintro e w' ⟨rfl,I⟩;subst I;go_wp2_with fail;refine bodyPost_ret (Ph (p:=4) (u:=5) (v:=6) (ty:=28) rfl _ _ _ (w.heap.size+1+1) _ _ _ rfl f.o.ans rfl rfl) rfl ?_;exact⟨rfl,f.o.bl⟩
def Ws{P f q o a w Q}(A:o.guard=none){v}(B:(execOp a.eval o).run P w=.ok (Next.value v) w)(h:wpList P f Q q (a.put o.dst v) w):wpList P f Q (o::q) a w:=
 wpList_plain A λ K r=>ES B (r _ _ h)
theorem YE(G f n c):prog.built 95 [(0,Value.agg (((List.range 32).map G).map (Value.int .u8)).toArray),(1,Value.slice f n c)]=some (((List.range 32).map G).map (Value.int .u8)++[Value.slice f n c]).toArray:=by kernel_rfl
def AEi(f:List Int):(List.range f.length).map (λ i=>f.getD i 0)=f:=by
 refine List.ext_getElem (by simp) (λ i q r=>?_)
 grind
def Z1{o}{a:Act}{w x y f q n c}(K:f.length=32)(B:o.op=.build 95 #[(0,x),(1,y)])(I:a.eval x=FJ f)(J:a.eval y=.slice q n c):(execOp a.eval o).run prog w=.ok (Next.value (Gn f (.slice q n c))) w:=by
 have A:(List.range 32).map (λ i=>f.getD i 0)=f:=by have:=AEi f;grind
 have r:=YE (λ i=>f.getD i 0) q n c;rw[A]at r;have E:=run_build (P:=prog) w 95 #[(0,FJ f),(1,.slice q n c)] _ r;unfold execOp;simp only[B];simp only[List.map_toArray,List.map_cons,List.map_nil,I,J,Sem.run_bind,E,Result.andThen_ok];rfl
def NJ{o a w K Q}(f:o.op=.alloc 28)(h:∀W q,w.heap.size=q->Vr W q 28 [.int .i64 0,.int .i64 0]->Below w.heap.size w W->K (a.put o.dst (.pointer (some ⟨q,0,none⟩))) W):Oper.wp prog o a w K Q:=by
 have r:(execOp a.eval o).run prog w=.ok (Next.value (.pointer (some ⟨w.heap.size,0,none⟩))) (w.alloc (.cells [Value.int .i64 0,Value.int .i64 0].toArray 28)):=by unfold execOp;simp only[f];go_simp
 unfold Oper.wp;simp only[r,Oper.upon];exact h _ _ rfl (CZ w _ _) ((Below.refl _ _).alloc (AE _) _)
def AIg{o a w w' K Q m x v}(r:o.op=.mapUpdate 88 m x v){b y z}(q:a.eval m=.map (some b))(A:a.eval x=.agg #[.int .i64 y,.int .i64 z])(hv:a.eval v=.agg #[])(hr:(Instr.mapUpdate 88 (.map (some b)) (.agg #[.int .i64 y,.int .i64 z]) (.agg #[])).run prog w=.ok () w')(f:K (a.put o.dst undef) w'):Oper.wp prog o a w K Q:=by
 unfold Oper.wp;simp[execOp,r,q,A,hv,hr,Result.andThen];exact f
def wfC{x}(f:0<=x)(q:x<9223372036854775808):(Lit.int .i64 x).wf=true:=wfI f q
def Ar.below{U X S Y Z w w' t c d M N kb sb fb ub a s D}(h:Ar U w t c d M N a kb sb fb ub X S Y Z s D)(f:Below w.heap.size w w'):Ar U w' t c d M N a kb sb fb ub X S Y Z s D:=h.tch (R:=λ _=>False) (AD.of_below f) (λ _ _ e=>e)
def Ar.found{U X S Y Z w t c d M N kb sb fb ub a s J}(h:Ar U w t c d M N a kb sb fb ub X S Y Z s J){f}(A:f∈a.K)(B:f.ds.length<=65536):
 ∃w',(Instr.mapUpdate 88 (.map (some ub)) (.agg #[.int .i64 f.b,.int .i64 (f.ds.length:Int)]) (.agg #[])).run prog w=.ok () w'/\Ar U w' t c d M N a kb sb fb ub X S Y Z s J/\AD (λ k=>k=ub) w w':=by
 obtain⟨L,D,O,E,z⟩:=h.kz;have hb:=z.bd f A;have a2:=z.n2;obtain⟨w',a0,r1,r2⟩:=World.ownsMap.update (val:=.agg #[]) (d:=.held (.agg #[])) (ps:=[]) z.um TY underlying88 (by have:=z.few;unfold maxLen;omega) (ABk (b:=f.b) (n:=(f.ds.length:Int)) (wfC (by omega) (by omega)) (wfC (by omega) (by omega))) rfl;have r:AD (λ k=>k=ub) w w':=(AD.of_grown r2).mono (λ k _ e=>by grind);have nU:∀{b:Nat} {P:Nat->Prop},P b->¬P ub->¬b=ub:=λ h1 T e=>T (by grind);have hZ:Z ub:=z.zm.2.2;have a1:∀l,Maps.has (E.put (IE f.b (f.ds.length:Int)) (.held (.agg #[]))) l=true->∃e∈a.K,l=IE e.b e.ds.length:=λ l B=>by
  by_cases W:l=IE f.b (f.ds.length:Int)
  .grind
  .rw[has_put_other W]at B;exact z.uh l B
 have um:w'.ownsMap prog 28 Rv ub a.K.length (E.put (IE f.b (f.ds.length:Int)) (.held (.agg #[]))):=by
  have:=ADu r1 TY (a.K.map λ e=>IE e.b e.ds.length) (λ l B=>by
   grind)
  grind
 refine⟨w',a0,?_,r⟩;have hx:∀k,X k->¬k=ub:=λ k q e=>h.xz k q (by grind);have hs:∀k,S k->¬k=ub:=λ k q e=>h.sz k q (by grind);have hy:∀k,Y k->¬k=ub:=λ k q e=>h.yz k q (by grind);exact{
  box:=by rw[r.block t h.lt (λ e=>h.nt.2.2.2 (by grind))];exact h.box
  cz:=h.cz.tch r hx hs
  pm:=h.pm.tch r hy
  kz:=⟨L,D,O,_,{
   kn:=⟨EP z.kn.own r z.ne.2.1,z.kn.has,z.kn.at_,λ e A=>(z.kn.row e A).tch r (λ k q I=>Md (z.kn.row e A) z.um (by rw[q,I])),z.kn.ap⟩
   sm:=z.sm.tch r z.ne.2.2
   sr:=λ e A=>(z.sr e A).tch r (λ k q I=>Pe (z.sr e A) (z.bd e A).2.2 z.um (by rw[q,I]))
   um:=um
   uh:=a1
   ne:=z.ne
   zm:=z.zm
   zk:=z.zk
   zs:=z.zs
   zl:=λ k q=>Ao (z.zl k q) r.size
   nd:=z.nd
   bd:=z.bd
   n2:=z.n2 }⟩
  fm:=h.fm.tch r (λ e=>h.nf.2.2.2 (by grind))
  xy:=h.xy
  sy:=h.sy
  xz:=h.xz
  sz:=h.sz
  yz:=h.yz
  nt:=h.nt
  nf:=h.nf
  ux:=h.ux
  ul:=λ k q=>Ao (h.ul k q) r.size
  ok:=h.ok }
end
section
open Go.RowKit Go.Maps
def G5(a a2:Ab)(ds:List Int)(b:Int)(was:Bool):Prop:=
 (was=true/\a2=a/\∃e∈a.K,e.ds=ds/\e.b=b)\/(was=false/\(∀e∈a.K,e.ds≠ds)/\∃pk,GZ ds pk/\a2=a.sv ds pk/\b=(AX a.A (A8 pk)).1.headD 0)
abbrev JB:Array Value:=#[Value.int IntKind.u8 0,Value.int IntKind.u8 0,Value.int IntKind.u8 0,Value.int IntKind.u8 0,Value.int IntKind.u8 0,Value.int IntKind.u8 0,Value.int IntKind.u8 0,Value.int IntKind.u8 0,Value.int IntKind.u8 0,Value.int IntKind.u8 0,Value.int IntKind.u8 0,Value.int IntKind.u8 0,Value.int IntKind.u8 0,Value.int IntKind.u8 0,Value.int IntKind.u8 0,Value.int IntKind.u8 0,Value.int IntKind.u8 0,Value.int IntKind.u8 0,Value.int IntKind.u8 0,Value.int IntKind.u8 0,Value.int IntKind.u8 0,Value.int IntKind.u8 0,Value.int IntKind.u8 0,Value.int IntKind.u8 0,Value.int IntKind.u8 0,Value.int IntKind.u8 0,Value.int IntKind.u8 0,Value.int IntKind.u8 0,Value.int IntKind.u8 0,Value.int IntKind.u8 0,Value.int IntKind.u8 0,Value.int IntKind.u8 0]
def AFh{U t c d M N a}(ce:NU)(h3:3<=a.A.L.count 0)(B dv w)(H:Sz U w t c d M N a)(hd:Rd .u8 w dv B)(hn:∀j,dv.ownBlock=some j->j<w.heap.size/\¬U j)(hy:By B)(hl:1<=B.length/\B.length<=512)(br:FW a):
 Calls prog 9 #[AW t,dv] w λ e w'=>∃b c6 a2,e=.returned (.tuple #[.agg #[.int .i64 b,.int .i64 (B.length:Int)],.bool c6,.int .i64 0])/\G5 a a2 B b c6/\G6 U w w' t c d M N a2:=by
 obtain⟨x,cc,rfl⟩:∃x c,dv=.slice x B.length c:=by obtain⟨x,c,e,_⟩:=hd;exact⟨x,c,e⟩
 obtain⟨n,b0⟩:=exN B.length;rw[b0]at hd hn hl |-
 have HN:=z6 b0;have HM:Hid (∀W,Calls prog 30 #[.int .i64 (n:Int)] W λ e w'=>e=.returned (.bool true)/\w'=W):=λ W=>by
  refine(PB n W).mono ?_;rintro e w' ⟨rfl,rfl⟩;have:(decide (1<=(n:Int))&&decide ((n:Int)<=512))=true:=by simp;omega
  rw[this];exact⟨rfl,rfl⟩
 have HX:=z6 (Vz w t (.slice x n cc));obtain⟨kb,sb,fb,ub,X,S,Y,Z,s,D0,h⟩:=H;obtain⟨Kv,D,SV,E,z⟩:=h.kz;have I:=z6 (And.intro h (And.intro hd (And.intro hn (And.intro hy hl))));have bb:=AU (AFt (.slice x n cc) B (Jj w t (.slice x n cc)) (hd.below HX.o.bl) hy (by omega));have HZ:=z6 z;have HO:=z6 br;clear h z br hd hn hy hl b0
 go_enter func9,ntmps9
 go_wp2_with fail;refine(HM.o _).mono ?_;rintro e w' ⟨rfl,hw⟩;subst hw;go_wp2_with fail;refine bb.o.mono ?_;rintro e w1 ⟨rfl,bf⟩;rw[AFq];have aj:=z6 bf;clear bf bb;obtain⟨dg,ax⟩:=exN ((AS B).map (Value.int .u8));rw[ax];have a4:=z6 ax;clear ax;go_wp2_with(with_reducible (show wpList _ _ _ (Oper.mk _ (Op.store _ _ _) _ _ _ _::_) _ _);refine wpList_plain rfl λ K hK=>?_;refine GP (ty:=81) (b:=w1.heap.size) (cs:=List.replicate 32 (Value.int .u8 0)) (vs:=dg) rfl rfl rfl ?g1 ?g2 ?g3 ?g4 (hK _ _ (Hid.o ?g5)))
 case g1=>exact CZ w1 81 (List.replicate 32 (Value.int .u8 0))
 case g2=>rw[<-a4.o];simp[Ez]
 case g3=>rw[Oj,<-a4.o];simp[Ez]
 case g4=>rw[<-a4.o];simp[Value.oneCell']
 case g5=>
 have HV:Hid (Sx w ((w1.alloc (.cells JB 81)).setCells w1.heap.size 0 dg) t (.slice x n cc) 0 0/\Vr ((w1.alloc (.cells JB 81)).setCells w1.heap.size 0 dg) w1.heap.size 81 dg):=by
  have v7:Vr (w1.alloc (.cells JB 81)) w1.heap.size 81 (List.replicate 32 (Value.int .u8 0)):=CZ w1 81 (List.replicate 32 (Value.int .u8 0));have hb:Below w1.heap.size w1 ((w1.alloc (.cells JB 81)).setCells w1.heap.size 0 dg):=((Below.refl _ w1).alloc (AE _) _).trans ((GM (w1.alloc (.cells JB 81)) w1.heap.size dg 0).below (by simp) (λ k e=>by omega));have h1:=aj.o;have s3:w.heap.size+1+1<(Jj w t (.slice x n cc)).heap.size:=HX.o.v3.lt;have hh:Below (Jj w t (.slice x n cc)).heap.size (Jj w t (.slice x n cc)) ((w1.alloc (.cells JB 81)).setCells w1.heap.size 0 dg):=h1.trans (hb.mono h1.size)
  exact⟨⟨HX.o.bl.trans (hh.mono HX.o.bl.size),HX.o.v1.on hh,HX.o.v2.on hh,HX.o.v3.on hh⟩,v7.put dg (by rw[<-a4.o];simp[Ez])⟩
 have ak:Hid (w.heap.size+1+1<w1.heap.size):=by have s3:w.heap.size+1+1<(Jj w t (.slice x n cc)).heap.size:=HX.o.v3.lt;have:=aj.o.size;show _<_;omega
 obtain⟨W2,be⟩:=exN ((w1.alloc (.cells JB 81)).setCells w1.heap.size 0 dg);rw[be]at HV |-
 obtain⟨q7,bw⟩:=exN w1.heap.size;rw[bw]at HV ak |-
 clear be bw aj HX;refine z6 ?_;have a0:Hid (Ar U W2 t c d M N a kb sb fb ub X S Y Z s D0/\GY Z W2 N kb sb ub a.K Kv D SV E/\Rd .u8 W2 (.slice x n cc) B):=by have hb:=HV.o.1.bl;exact⟨I.o.1.tch (R:=λ _=>False) (AD.of_below hb) (λ _ _ e=>e),HZ.o.tch (R:=λ _=>False) (AD.of_below hb) (λ _ _ e=>e),I.o.2.1.below hb⟩
 have a5:Hid (∀k,w.heap.size<=k->¬(X k\/S k)):=λ k hk e=>by have:=I.o.1.ul k (e.elim (λ e=>I.o.1.ux k (.inl e)) (λ e=>I.o.1.ux k (.inr (.inl e))));omega
 have b9:Hid (∀j,(rvK a.K Kv B).ownBlock=some j->Z j):=λ j hj=>by unfold rvK at hj;split at hj;rename_i hx;obtain⟨f,hf,he⟩:=hx;exact HZ.o.zk f hf j (by rw[he];exact hj);cases hj
 have a7:Hid (∀U2 W,Rq (λ k=>X k\/S k) W2 t c d (Il c M kb sb fb ub) N a U2 W->(Vr W w.heap.size 34 [AW t]/\Vr W (w.heap.size+1) 40 [.slice x n cc]/\Vr W (w.heap.size+1+1) 28 [.int .i64 0,.int .i64 0])/\Vr W q7 81 dg/\Lv t w.heap.size kb q7 B (rvK a.K Kv B) W):=λ U2 W r=>by obtain⟨X',S',s',D',q⟩:=a0.o.1.back r;have hk:=(a0.o.2.1.tch r.ch (λ k hk e=>e.elim (λ e=>I.o.1.xz k e hk) (λ e=>I.o.1.sz k e hk))).kn;have v1:=HV.o.1.v1.tch r.ch (a5.o _ (AE _));have v7:=HV.o.2.tch r.ch (a5.o _ (by have:=ak.o;omega));exact⟨⟨v1,HV.o.1.v2.tch r.ch (a5.o _ (by omega)),HV.o.1.v3.tch r.ch (a5.o _ (by omega))⟩,v7,q.lv hk B v1 (by rw[a4.o];exact v7)⟩
 have c7:Hid (Calls prog 34 #[rvK a.K Kv B,.func (.func 32) #[] #[.pointer (some ⟨w.heap.size,0,none⟩),.pointer (some ⟨w.heap.size+1,0,none⟩)]] W2.drew λ x w'=>∃z:Int,x=.returned (.int .i64 z)/\((z=-1/\∀e∈a.K,e.ds≠B)\/∃(k:Nat)(e:Ce),(a.K.filter λ e=>decide (AS e.ds=AS B))[k]?=some e/\z=(k:Int)/\e.ds=B)/\∃U',Rq (λ k=>X k\/S k) W2 t c d (Il c M kb sb fb ub) N a U' w'):=by
  have a6:Below W2.heap.size W2 W2.drew:=Below.of_drewN _ W2 1;have cl:=HV.o.1.bl.size;have ag:Bv W2.drew (rvK a.K Kv B) (Lj (a.K.filter λ e=>decide (AS e.ds=AS B))):=(Oy a0.o.2.1.kn B).2.below a6;have ci:=(a0.o.1.cq).below a6
  refine(ABA (a.K.filter λ e=>decide (AS e.ds=AS B)) (rvK a.K Kv B) w.heap.size (w.heap.size+1) (.slice x n cc) B W2.drew ci (HV.o.1.v1.on a6) (HV.o.1.v2.on a6) (a5.o _ (AE _)) (a5.o _ (by omega)) (a0.o.2.2.below a6) (λ j hj=>⟨Ao (I.o.2.2.1 j hj).1 cl,λ e=>(I.o.2.2.1 j hj).2 (e.elim (λ e=>I.o.1.ux j (.inl e)) (λ e=>I.o.1.ux j (.inr (.inl e))))⟩) (λ e=>by have:=HN.o;have:=I.o.2.2.2.2.1;rw[e]at *;simp at *;omega) I.o.2.2.2.1 ag (λ j hj e=>e.elim (λ e=>I.o.1.xz j e (b9.o j hj)) (λ e=>I.o.1.sz j e (b9.o j hj))) (λ e he=>?_) (Aw (List.length_filter_le _ _) (GY.few a0.o.2.1))).mono ?_;have hm:=(List.mem_filter.1 he).1;have hb:=HO.o.by_ e hm;exact⟨HO.o.ld e hm,hb.1,λ h=>by rw[h]at hb;simp at hb⟩
  .rintro y w' ⟨zz,rfl,hz,U',r⟩;refine⟨zz,rfl,?_,U',?_⟩;rcases hz with⟨h1,h2⟩|h;refine .inl ⟨h1,λ e he h=>h2 e (List.mem_filter.2 ⟨he,by simp[h]⟩) h⟩;exact .inr h;exact⟨r.sz,(AD.of_below (S:=λ k=>X k\/S k) a6).trans r.ch (λ _ _ e=>e),r.nw,(a0.o.1.cq).tl⟩
 go_upto_region 5 with fail
 go_cut [9] (λ v9 wx=>∃(zz:Int)(U2:Nat->Prop),v9=.int .i64 zz/\Hid (((zz=-1/\∀e∈a.K,e.ds≠B)\/∃(k:Nat)(e:Ce),(a.K.filter λ e=>decide (AS e.ds=AS B))[k]?=some e/\zz=(k:Int)/\e.ds=B)/\Rq (λ k=>X k\/S k) W2 t c d (Il c M kb sb fb ub) N a U2 wx))
 case first=>
  go_wp2_with fail;have a3:prog.follows .mixedOrders=true:=by kernel_rfl
  refine Dz (S:=λ W=>Lv t w.heap.size kb q7 B (rvK a.K Kv B) W) (t:=8) a3 ?_;have J:Lv t w.heap.size kb q7 B (rvK a.K Kv B) W2.drew:=(a7.o _ W2.drew ((a0.o.1.cq).rw.on (Below.of_drewN _ W2 1))).2.2;refine AO 0 (some 22) (.load 34 (.tmp 2)) (AW t) J ?_;simp only[zq];refine AO 1 (some 23) (.nilCheck (.tmp 22)) (AW t) J ?_;simp only[zq];refine AO 2 (some 24) (.fieldAddr 90 (.tmp 23) 2) (Value.pointer (some ⟨t,2,none⟩)) J ?_;simp only[zq];refine AO 3 (some 25) (.load 85 (.tmp 24)) (Value.map (some kb)) J ?_;simp only[zq];refine Be 4 (some 26) (.load 81 (.tmp 7)) (FJ (AS B)) ?hy J ?_;case hy=>rintro o ho w' hz;obtain⟨k0,k1,k2,k3⟩:=hz;exact KH ho rfl k2
  simp only[zq];refine AO 5 (some 27) (.lookup 85 (.tmp 25) (.tmp 26) false) (rvK a.K Kv B) J ?_;simp only[zq];refine AO 6 (some 28) (.move (.tmp 8)) (Value.func (.func 32) #[] #[.pointer (some ⟨w.heap.size,0,none⟩),.pointer (some ⟨w.heap.size+1,0,none⟩)]) J ?_;simp only[zq];refine Ae 7 (some 29) (.call { callee:=.value (.func 34),args:=#[.tmp 27,.tmp 28],argTypes:=#[26,83] }) ?_;rintro o K hd ho hg hK;refine Dp (enters_of func34 (by kernel_rfl) rfl) ho (vs:=#[rvK a.K Kv B,.func (.func 32) #[] #[.pointer (some ⟨w.heap.size,0,none⟩),.pointer (some ⟨w.heap.size+1,0,none⟩)]]) (by kernel_rfl) c7.o ?_;rintro e W3 ⟨zz,he,cx,U2,r⟩;refine⟨_,he,?_⟩;rw[hd];have HF:=z6 (And.intro cx r)
  refine hK _ _ (λ _=>(a7.o U2 W3 r).2.2) ?_;clear ho hd hg hK he;simp only[zq];refine Ae 8 (some 9) (.assign (.tmp 29)) ?_;rintro o K hd ho hg hK;refine ES (v:=.int .i64 zz) (by unfold execOp;simp only[ho];go_simp) ?_;rw[hd];refine hK _ _ (λ e=>absurd rfl e) ?_;refine Cx (by kernel_rfl) ?_ _;clear ho hd hg hK;simp only[zq];go_wp2_with fail
  go_meet
  exact⟨zz,U2,rfl,HF.o⟩
 case rest=>
  obtain⟨zz,U2,rfl,HF⟩:=hcut;by_cases hz:0<=zz
  .obtain⟨O,cf⟩:∃O,O=wc:=⟨_,rfl⟩
   subst cf;obtain⟨k,T,hk,rfl,ay⟩:∃(k:Nat)(T:Ce),(a.K.filter λ e=>decide (AS e.ds=AS B))[k]?=some T/\zz=(k:Int)/\T.ds=B:=by rcases HF.o.1 with h|h;omega;exact h
   (have cv:decide ((k:Int)>=0)=true:=by simp);have bi:T∈a.K:=(List.mem_filter.1 (zd1 hk)).1;(have az:(T.ds.length:Int)=(n:Int):=by rw[ay,HN.o]);have aw:(Eo a.K (AS B))[k]?=some (T.b,(n:Int)):=by unfold Eo;rw[zw0,hk,<-az];rfl
   have bm:=(a0.o.2.1.tch HF.o.2.ch (λ k hk e=>e.elim (λ e=>I.o.1.xz k e hk) (λ e=>I.o.1.sz k e hk))).kn;have ag:=(Oy bm B).2;obtain⟨rl,b3⟩:=exN ((Eo a.K (AS B)).length);(have cj:k<rl:=by rw[<-b3];exact(List.getElem?_eq_some_iff.1 aw).1);obtain⟨rg,rc,b5,_,_,_,aa,_⟩:=ag.shape (by omega);rw[b3]at b5;have af:=aa k (by omega);rw[AP,aw]at af;have r0:O.cell? ⟨rg,k*2,none⟩=some (.int .i64 T.b):=af.1;have r1:O.cell? ⟨rg,k*2+1,none⟩=some (.int .i64 (n:Int)):=af.2;(have d0:(k:Int)<(rl:Int):=by omega);have ao:Hid (∀U2 W,Rq (λ k=>X k\/S k) W2 t c d (Il c M kb sb fb ub) N a U2 W->Lv t w.heap.size kb q7 B (.slice (some ⟨rg,0,none⟩) rl rc) W):=λ U2 W r=>by have:=(a7.o U2 W r).2.2;rw[b5]at this;exact this
   have HE:=z6 (And.intro ay (And.intro bi az));have cm:=ao.o U2 O HF.o.2;have bx:=a7.o U2 O HF.o.2;have bc:=z6 bx;clear hz hk ay bi az aw bm ag b3 cj b5 aa af bx
   go_upto_region 7 with fail
   go_cut [10] (λ cy wx=>∃q:Nat,cy=.pointer (some ⟨q,0,none⟩)/\Hid (Below O.heap.size O wx/\Vr wx q 28 [.int .i64 T.b,.int .i64 (n:Int)]/\O.heap.size<=q))
   case first=>
    go_wp2_with fail;(have a3:prog.follows .mixedOrders=true:=by kernel_rfl);refine Dz (S:=λ W=>Lv t w.heap.size kb q7 B (.slice (some ⟨rg,0,none⟩) rl rc) W/\W.cell? ⟨rg,k*2,none⟩=some (.int .i64 T.b)/\W.cell? ⟨rg,k*2+1,none⟩=some (.int .i64 (n:Int))) (t:=10) a3 ?_;have J:Lv t w.heap.size kb q7 B (.slice (some ⟨rg,0,none⟩) rl rc) O.drew/\O.drew.cell? ⟨rg,k*2,none⟩=some (.int .i64 T.b)/\O.drew.cell? ⟨rg,k*2+1,none⟩=some (.int .i64 (n:Int)):=⟨ao.o _ O.drew (HF.o.2.on ((Below.refl O.heap.size O).drew)),r0,r1⟩
    refine AO 0 (some 32) (.load 34 (.tmp 2)) (AW t) J ?_;simp only[zq];refine AO 1 (some 33) (.nilCheck (.tmp 32)) (AW t) J ?_;simp only[zq];refine AO 2 (some 34) (.fieldAddr 90 (.tmp 33) 2) (Value.pointer (some ⟨t,2,none⟩)) J ?_;simp only[zq];refine AO 3 (some 35) (.load 85 (.tmp 34)) (Value.map (some kb)) J ?_;simp only[zq];refine Be 4 (some 36) (.load 81 (.tmp 7)) (FJ (AS B)) ?hy J ?_;case hy=>rintro o ho w' hz;obtain⟨⟨k0,k1,k2,k3⟩,k4,k5⟩:=hz;exact KH ho rfl k2
    simp only[zq];refine AO 5 (some 37) (.lookup 85 (.tmp 35) (.tmp 36) false) (Value.slice (some ⟨rg,0,none⟩) rl rc) J ?_;simp only[zq];refine AO 6 (some 38) (.move (.tmp 9)) (Value.int .i64 (k:Int)) J ?_;simp only[zq];refine AO 7 (some 39) (.indexAddr 26 (.tmp 37) (.tmp 38)) (Value.pointer (some ⟨rg,k*2,none⟩)) J ?_;simp only[zq];refine AO 8 (some 40) (.load 28 (.tmp 39)) (Value.agg #[.int .i64 T.b,.int .i64 (n:Int)]) J ?_;simp only[zq];refine Ae 9 (some 10) (.alloc 28) ?_;rintro o K hd ho hg hK;refine NJ ho ?_;rintro W4 q hq ac a1;rw[hd];have r4:=(HF.o.2.on ((Below.refl O.heap.size O).drew)).on a1
    have aq:Lv t w.heap.size kb q7 B (.slice (some ⟨rg,0,none⟩) rl rc) W4/\W4.cell? ⟨rg,k*2,none⟩=some (.int .i64 T.b)/\W4.cell? ⟨rg,k*2+1,none⟩=some (.int .i64 (n:Int)):=by have h1:O.drew.cell? ⟨rg,k*2,none⟩=some (.int .i64 T.b):=r0;have h2:O.drew.cell? ⟨rg,k*2+1,none⟩=some (.int .i64 (n:Int)):=r1;exact⟨ao.o _ W4 r4,(a1.cell (p:=⟨rg,k*2,none⟩) (zb0 _ ⟨rg,k*2,none⟩ h1)).trans h1,(a1.cell (p:=⟨rg,k*2+1,none⟩) (zb0 _ ⟨rg,k*2+1,none⟩ h2)).trans h2⟩
    refine hK _ _ (λ _=>aq) ?_;clear ho hd hg hK;simp only[zq];refine Ae 10 none (.store 28 (.tmp 10) (.tmp 40)) ?_;rintro o K hd ho hg hK;refine GP (cs:=[.int .i64 0,.int .i64 0]) (vs:=[.int .i64 T.b,.int .i64 (n:Int)]) ho rfl rfl ac rfl Iu (by simp[Value.oneCell']) ?_;rw[hd];refine hK _ _ (λ e=>absurd rfl e) ?_;refine Cx (by kernel_rfl) ?_ _;clear ho hd hg hK;simp only[zq];have a8:Hid (Below O.heap.size O (W4.setCells q 0 [.int .i64 T.b,.int .i64 (n:Int)])/\Vr (W4.setCells q 0 [.int .i64 T.b,.int .i64 (n:Int)]) q 28 [.int .i64 T.b,.int .i64 (n:Int)]/\O.heap.size<=q):=by
     have co:O.heap.size=q:=hq;have h1:Below O.heap.size O W4:=((Below.refl O.heap.size O).drew).trans a1;exact⟨h1.trans ((GM W4 q [.int .i64 T.b,.int .i64 (n:Int)] 0).below h1.size (λ k e=>by omega)),ac.put _ rfl,by omega⟩
    generalize W4.setCells q 0 [.int .i64 T.b,.int .i64 (n:Int)]=WF at a8 |-
    go_wp2_with fail
    go_meet
    exact⟨q,rfl,a8.o⟩
   case rest=>
    obtain⟨q,rfl,HG⟩:=hcut;obtain⟨W8,cg⟩:∃W8,W8=wc:=⟨_,rfl⟩
    subst cg;have hb:=HG.o.1;obtain⟨X',S',s',D',qz⟩:=a0.o.1.back HF.o.2;have q8:=qz.below hb;have ca:=z6 q8;have s1:=((bc.o.1.1.on hb).at 0).trans rfl;have s5:=q8.c5;have z0:=(HG.o.2.1.at 0).trans rfl;have z1:=(HG.o.2.1.at 1).trans rfl;clear hb q8 qz r0 r1 cm;go_wp2_with fail;(have a3:prog.follows .mixedOrders=true:=by kernel_rfl);refine Dz (S:=λ W=>W.cell? ⟨w.heap.size,0,none⟩=some (AW t)/\W.cell? ⟨t,5,none⟩=some (.map (some ub))/\W.cell? ⟨q,0,none⟩=some (.int .i64 T.b)/\W.cell? ⟨q,1,none⟩=some (.int .i64 (n:Int))) (t:=6) a3 ?_
    have J:W8.drew.cell? ⟨w.heap.size,0,none⟩=some (AW t)/\W8.drew.cell? ⟨t,5,none⟩=some (.map (some ub))/\W8.drew.cell? ⟨q,0,none⟩=some (.int .i64 T.b)/\W8.drew.cell? ⟨q,1,none⟩=some (.int .i64 (n:Int)):=⟨s1,s5,z0,z1⟩
    refine AO 0 (some 41) (.load 34 (.tmp 2)) (AW t) J ?_;simp only[zq];refine AO 1 (some 42) (.nilCheck (.tmp 41)) (AW t) J ?_;simp only[zq];refine AO 2 (some 43) (.fieldAddr 90 (.tmp 42) 5) (Value.pointer (some ⟨t,5,none⟩)) J ?_;simp only[zq];refine AO 3 (some 44) (.load 88 (.tmp 43)) (Value.map (some ub)) J ?_;simp only[zq];refine AO 4 (some 45) (.load 28 (.tmp 10)) (Value.agg #[.int .i64 T.b,.int .i64 (n:Int)]) J ?_;simp only[zq];refine AO 5 (some 46) (.build 91 #[]) (Value.agg #[]) J ?_;simp only[zq];refine Ae 6 none (.mapUpdate 88 (.tmp 44) (.tmp 45) (.tmp 46)) ?_;rintro o K hd ho hg hK;have q9:=ca.o.below ((Below.refl W8.heap.size W8).drew)
    obtain⟨W9,b4,c0,c4⟩:=q9.found HE.o.2.1 (by rw[HE.o.1];have:=I.o.2.2.2.2;have:=HN.o;omega);rw[HE.o.2.2]at b4;refine AIg ho rfl rfl rfl b4 ?_;rw[hd];refine hK _ _ (λ e=>absurd rfl e) ?_;refine Cx (by kernel_rfl) ?_ _;clear ho hd hg hK b4 q9;simp only[zq];have b8:=z6 (And.intro c0 c4);clear c0 c4;have ai:=b8.o.2;have cn:∀j,w.heap.size<=j->j<W2.heap.size->¬j=ub:=λ j h1 h2 e=>by have:=HZ.o.zl ub HZ.o.zm.2.2;omega
    have cr:ub<W2.heap.size:=Ao (HZ.o.zl ub HZ.o.zm.2.2) HV.o.1.bl.size;have ct:=HV.o.1.v3.lt;have an:Below O.heap.size O W8.drew:=HG.o.1.trans (by have:=(Below.refl W8.heap.size W8).drew;exact this.mono HG.o.1.size);have V3:Vr W9 (w.heap.size+1+1) 28 [.int .i64 0,.int .i64 0]:=(bc.o.1.2.2.on an).tch ai (cn _ (by omega) ct);have VQ:Vr W9 q 28 [.int .i64 T.b,.int .i64 (n:Int)]:=(HG.o.2.1.on ((Below.refl W8.heap.size W8).drew)).tch ai (λ e=>by have h1:=HG.o.2.2;have h2:=HF.o.2.ch.size;omega);have q0:=(VQ.at 0).trans rfl;have q1:=(VQ.at 1).trans rfl;have y0:=(V3.at 0).trans rfl;have y1:=(V3.at 1).trans rfl;have f0:=V3.fz 0;have f1:=V3.fz 1;have am:=z6 V3
    have bd:Hid (AD U w W9/\∀k,(U k\/U2 k)->U k\/w.heap.size<=k):=by have bz:∀k,X k\/S k->U k:=λ k e=>I.o.1.ux k (e.elim .inl (λ e=>.inr (.inl e)));have hU:U ub:=I.o.1.ux ub (.inr (.inr (.inr (.inl HZ.o.zm.2.2))));have t1:=((AD.of_below (S:=U) HV.o.1.bl).trans (HF.o.2.ch.mono (λ k _ e=>bz k e)) (λ _ _ e=>e)).trans (AD.of_below (S:=U) an) (λ _ _ e=>e);exact⟨t1.trans ai (λ k _ e=>by rw[e];exact hU),λ k e=>e.elim .inl (λ e=>(HF.o.2.nw k e).elim (λ e=>.inl (bz k e)) (λ e=>.inr (Aw HV.o.1.bl.size e)))⟩
    clear s1 s5 z0 z1 V3 VQ ai cr an;go_wp2_with fail;have tt:=(Fl W9 (w.heap.size+1+1) 0 (.int .i64 T.b)).trans (Fl (W9.setCell ⟨w.heap.size+1+1,0,none⟩ (.int .i64 T.b)) (w.heap.size+1+1) 1 (.int .i64 (n:Int))) (λ _ _ e=>e);have ar:¬(U (w.heap.size+1+1)\/U2 (w.heap.size+1+1)):=λ e=>e.elim (λ e=>by have:=I.o.1.ul _ e;omega) (λ e=>(HF.o.2.nw _ e).elim (λ e=>by have:=I.o.1.ul _ (I.o.1.ux _ (e.elim .inl (λ e=>.inr (.inl e))));omega) (λ e=>by omega));refine bodyPost_ret (Ph (p:=4) (u:=5) (v:=6) (ty:=28) rfl _ _ _ (w.heap.size+1+1) _ _ _ rfl (Vr.load ((am.o.set 0 _).set 1 _) underlying28 rfl Iu) rfl rfl) rfl ?_
    refine⟨T.b,true,a,rfl,.inl ⟨rfl,rfl,T,HE.o.2.1,HE.o.1,rfl⟩,_,⟨kb,sb,fb,ub,X',S',Y,Z,s',D',b8.o.1.tch tt (λ k hk e=>ar (by rw[<-e];exact hk))⟩,bd.o.1.trans tt (λ k hk e=>by exfalso;omega),bd.o.2⟩
  .have cv:decide (zz>=0)=false:=by simpa using hz
   have c9:Hid (∀e∈a.K,e.ds≠B):=by
    rcases HF.o.1 with h|⟨k,e,_,h,_⟩
    .exact h.2
    .omega
   have HL:=z6 (a7.o U2 wc HF.o.2);have c1:=(HL.o.1.1.at 0).trans rfl;have c2:=(HL.o.1.2.1.at 0).trans rfl;have ba:=z6 (a0.o.1.rw HF.o.2);have bo:∀j,(Value.slice x n cc).ownBlock=some j->¬(X j\/S j):=λ j hj e=>(I.o.2.2.1 j hj).2 (e.elim (λ e=>I.o.1.ux j (.inl e)) (λ e=>I.o.1.ux j (.inr (.inl e))));have HP:=AU (AEd ce B (.slice x n cc) wc ba.o.sz (a0.o.2.2.tch HF.o.2.ch bo) I.o.2.2.2.1 (by have:=I.o.2.2.2.2;have:=HN.o;omega) (λ j hj=>Ao (I.o.2.2.1 j hj).1 (Aw HV.o.1.bl.size HF.o.2.ch.size)) h3 (λ e he=>HO.o.tk e he e.b (List.mem_of_mem_head? (HO.o.bl e he).1)));clear hz bo;go_wp2_with fail;refine HP.o.mono ?_;rintro e w3 ⟨nv,pk,rfl,b2,U3,a9,ap⟩
   have ck:=PT (by have:=I.o.2.2.2.2;have:=HN.o;omega) b2;(have bu:pk.length<=711:=by have:=I.o.2.2.2.2;have:=HN.o;omega);(have hW:1<=A8 pk/\A8 pk<=3:=by have:=G8 bu;unfold A8;omega);have hT:=J9 HO.o.so (A8 pk) (by omega);obtain⟨ng,nc,bp,_,_,_,aa,_⟩:=ap.ow.shape (by rw[hT.len];omega);obtain⟨nn,ab⟩:=exN ((AX a.A (A8 pk)).1.length);have av:=aa 0 (by rw[hT.len];omega);rw[ab]at bp;subst bp;(have d2:(0:Int)<(nn:Int):=by have:=hT.len;omega);obtain⟨bq,au⟩:=exN ((AX a.A (A8 pk)).1.headD 0);have bh:bq∈(AX a.A (A8 pk)).1:=by
    rw[<-au];cases hh:(AX a.A (A8 pk)).1 with
    | nil=>rw[hh]at ab;simp at ab;omega
    | cons y l=>simp
   (have bj:(AX a.A (A8 pk)).1.getD 0 0=bq:=by rw[<-au];cases(AX a.A (A8 pk)).1<;>rfl);rw[bj]at av;have al:=z6 (ba.o.to' a9.sz a9.ch a9.nw);have HQ:=z6 (And.intro b2 (And.intro a9 (And.intro ap (And.intro hT (And.intro bh (And.intro ab au))))));have ad:Hid ((Vr w3 w.heap.size 34 [AW t]/\Vr w3 (w.heap.size+1) 40 [.slice x n cc]/\Vr w3 (w.heap.size+1+1) 28 [.int .i64 0,.int .i64 0])/\Vr w3 q7 81 dg):=by (have hu:∀k,w.heap.size<=k->¬U k:=λ k hk e=>by have:=I.o.1.ul k e;omega);have ht:=al.o.ch;exact⟨⟨HV.o.1.v1.tch ht (hu _ (AE _)),HV.o.1.v2.tch ht (hu _ (by omega)),HV.o.1.v3.tch ht (hu _ (by omega))⟩,HV.o.2.tch ht (hu _ (by have:=ak.o;omega))⟩
   have bk:=(ad.o.1.2.1.at 0).trans rfl;clear ck bu hW hT aa ab bh bj b2 a9 ap HP c1 c2
   go_upto_region 13 with fail
   go_cut [13] (λ cz wx=>∃q:Nat,cz=.pointer (some ⟨q,0,none⟩)/\Hid (Below w3.heap.size w3 wx/\Vr wx q 28 [.int .i64 bq,.int .i64 (n:Int)]/\w3.heap.size<=q))
   case first=>
    go_wp2_with fail;(have a3:prog.follows .mixedOrders=true:=by kernel_rfl);refine Dz (S:=λ W=>W.cell? ⟨ng,0,none⟩=some (.int .i64 bq)/\W.cell? ⟨w.heap.size+1,0,none⟩=some (.slice x n cc)) (t:=7) a3 ?_;have J:w3.drew.cell? ⟨ng,0,none⟩=some (.int .i64 bq)/\w3.drew.cell? ⟨w.heap.size+1,0,none⟩=some (.slice x n cc):=⟨av,bk⟩
    refine AO 0 (some 58) (.move (.tmp 11)) (Value.slice (some ⟨ng,0,none⟩) nn nc) J ?_;simp only[zq];refine Be 1 (some 59) (.indexAddr 23 (.tmp 58) (.const (.int .i64 0))) (Value.pointer (some ⟨ng,0,none⟩)) ?hy J ?_;case hy=>
     rintro o ho w' hz;obtain⟨k0,k1⟩:=hz
     (go_simp<;>(intro h;omega))
    simp only[zq];refine AO 2 (some 60) (.load 3 (.tmp 59)) (Value.int .i64 bq) J ?_;simp only[zq];refine AO 3 (some 61) (.load 40 (.tmp 3)) (Value.slice x n cc) J ?_;simp only[zq];refine AO 4 (some 62) (.call { callee:=.builtin .len,args:=#[.tmp 61],argTypes:=#[40] }) (Value.int .i64 (n:Int)) J ?_;simp only[zq];refine AO 5 (some 63) (.build 28 #[(0,.tmp 60),(1,.tmp 62)]) (Value.agg #[.int .i64 bq,.int .i64 (n:Int)]) J ?_;simp only[zq];refine Ae 6 (some 13) (.alloc 28) ?_;rintro o K hd ho hg hK;refine NJ ho ?_;rintro W4 q hq ac a1;rw[hd];have aq:W4.cell? ⟨ng,0,none⟩=some (.int .i64 bq)/\W4.cell? ⟨w.heap.size+1,0,none⟩=some (.slice x n cc):=by
     have h1:=J.1;have h2:=J.2;exact⟨(a1.cell (p:=⟨ng,0,none⟩) (zb0 _ ⟨ng,0,none⟩ h1)).trans h1,(a1.cell (p:=⟨w.heap.size+1,0,none⟩) (zb0 _ ⟨w.heap.size+1,0,none⟩ h2)).trans h2⟩
    refine hK _ _ (λ _=>aq) ?_;clear ho hd hg hK;simp only[zq];refine Ae 7 none (.store 28 (.tmp 13) (.tmp 63)) ?_;rintro o K hd ho hg hK;refine GP (cs:=[.int .i64 0,.int .i64 0]) (vs:=[.int .i64 bq,.int .i64 (n:Int)]) ho rfl rfl ac rfl Iu (by simp[Value.oneCell']) ?_;rw[hd];refine hK _ _ (λ e=>absurd rfl e) ?_;refine Cx (by kernel_rfl) ?_ _;clear ho hd hg hK;simp only[zq];have a8:Hid (Below w3.heap.size w3 (W4.setCells q 0 [.int .i64 bq,.int .i64 (n:Int)])/\Vr (W4.setCells q 0 [.int .i64 bq,.int .i64 (n:Int)]) q 28 [.int .i64 bq,.int .i64 (n:Int)]/\w3.heap.size<=q):=by
     have co:w3.heap.size=q:=hq;have h1:Below w3.heap.size w3 W4:=((Below.refl w3.heap.size w3).drew).trans a1;exact⟨h1.trans ((GM W4 q [.int .i64 bq,.int .i64 (n:Int)] 0).below h1.size (λ k e=>by omega)),ac.put _ rfl,by omega⟩
    generalize W4.setCells q 0 [.int .i64 bq,.int .i64 (n:Int)]=WF at a8 |-
    go_wp2_with fail
    go_meet
    exact⟨q,rfl,a8.o⟩
   case rest=>
    (obtain⟨q,rfl,HG⟩:=hcut;have hb:=HG.o.1;have R5:=z6 (al.o.on hb);have bn:50<=bq/\bq<(N:Int):=by have h1:=(HQ.o.2.2.2.1.fr bq HQ.o.2.2.2.2.1).2;have h2:=(al.o.sz).lo;have h4:=HQ.o.2.2.2.1.lo;have h5:=HQ.o.2.2.2.1.ln;have h6:(AX a.A (A8 pk)).2.lo=50/\50+(AX a.A (A8 pk)).2.L.length=N:=h2;omega);have b7:=AU (ACC ⟨bq,B,(AX a.A (A8 pk)).1⟩ (n:Int) (.slice (some ⟨ng,0,none⟩) nn nc) _ R5.o.sz ⟨by show(0:Int)<=bq;omega,bn.2⟩ (λ e=>by have h1:=HQ.o.2.2.2.2.1;have e2:(AX a.A (A8 pk)).1=[]:=e;rw[e2]at h1;cases h1) (by rw[HN.o]) (λ f hf e=>by
     have h1:=HO.o.tk f hf f.b (List.mem_of_mem_head? (HO.o.bl f hf).1);have h2:=(HQ.o.2.2.2.1.fr bq HQ.o.2.2.2.2.1).1;have h3:f.b=bq:=e;rw[h3]at h1;omega) (⟨(HQ.o.2.2.1.ow).below hb,λ j hj=>⟨(HQ.o.2.2.1.no j hj).1,AI _⟩⟩))
    (have b1:=((ad.o.1.1.on hb).at 0).trans rfl;have z0:=(HG.o.2.1.at 0).trans rfl;have z1:=(HG.o.2.1.at 1).trans rfl;have b6:Hid ((loadVar 81 ⟨q7,0,none⟩).run prog wc=.ok (FJ (AS B)) wc):=by have h7:=ad.o.2.on hb;rw[<-a4.o]at h7;exact Vr.load h7 underlying81 rfl (by rw[Oj];simp[Ez]));clear hb bn bk av;go_wp2_with(first|(with_reducible (show wpList _ _ _ (Oper.mk _ (Op.load 81 _) _ _ _ _::_) _ _);refine Ws rfl (KH rfl rfl b6.o) ?_)|(with_reducible (show wpList _ _ _ (Oper.mk _ (Op.build 95 _) _ _ _ _::_) _ _);refine Ws rfl (Z1 (Ez B) rfl rfl rfl) ?_))
    refine b7.o.mono ?_;rintro e w6 ⟨rfl,U6,s1,s2,s3⟩;have ae:Hid (Rw U W2 t c d M N (a.sv B pk) U6 w6):=by refine⟨?_,R5.o.ch.trans s2 (λ k hk e=>(R5.o.nw k e).elim id (λ e=>by omega)),λ k hk=>?_⟩;unfold Ab.sv;rw[HQ.o.2.2.2.2.2.2];exact s1;rcases s3 k hk with(e|e)|e;exact R5.o.nw k e;exact .inr (Aw HF.o.2.ch.size (HQ.o.2.2.1.no k e).2);exact .inr (Aw R5.o.ch.size e)
    have bg:=HG.o.1;have V3:Vr w6 (w.heap.size+1+1) 28 [.int .i64 0,.int .i64 0]:=(ad.o.1.2.2.on bg).tch s2 (λ e=>(R5.o.nw _ e).elim (λ e=>by have:=I.o.1.ul _ e;omega) (λ e=>by have:=HV.o.1.v3.lt;omega));have VQ:Vr w6 q 28 [.int .i64 bq,.int .i64 (n:Int)]:=HG.o.2.1.tch s2 (λ e=>by have:=HQ.o.2.1.sz.ul q e;have:=HG.o.2.2;omega);have q0:=(VQ.at 0).trans rfl;have q1:=(VQ.at 1).trans rfl;have y0:=(V3.at 0).trans rfl;have y1:=(V3.at 1).trans rfl;have f0:=V3.fz 0;have f1:=V3.fz 1;have am:=z6 V3;clear b1 z0 z1 bg s1 s2 s3 V3 VQ b7 b6;go_wp2_with fail
    have tt:=(Fl w6 (w.heap.size+1+1) 0 (.int .i64 bq)).trans (Fl (w6.setCell ⟨w.heap.size+1+1,0,none⟩ (.int .i64 bq)) (w.heap.size+1+1) 1 (.int .i64 (n:Int))) (λ _ _ e=>e);have d1:=HV.o.1.v3.lt;have ar:¬U6 (w.heap.size+1+1):=λ e=>(ae.o.nw _ e).elim (λ e=>by have:=I.o.1.ul _ e;omega) (λ e=>by omega);refine bodyPost_ret (Ph (p:=4) (u:=5) (v:=6) (ty:=28) rfl _ _ _ (w.heap.size+1+1) _ _ _ rfl (Vr.load ((am.o.set 0 _).set 1 _) underlying28 rfl Iu) rfl rfl) rfl ?_
    refine⟨bq,false,a.sv B pk,rfl,.inr ⟨rfl,c9.o,pk,HQ.o.1,rfl,HQ.o.2.2.2.2.2.2.symm⟩,U6,ae.o.sz.tch tt (λ k hk e=>ar (by rw[<-e];exact hk)),((AD.of_below (S:=U) HV.o.1.bl).trans ae.o.ch (λ _ _ e=>e)).trans tt (λ k hk e=>by exfalso;omega),λ k hk=>(ae.o.nw k hk).imp id (λ e=>Aw HV.o.1.bl.size e)⟩
end
section
open Go.RowKit Go.Shelf
attribute [local go_sem] Oper.semAt_some
def Xm{P f Q S t l n id a w}(A:P.follows .mixedOrders=true)(r:∀(i:Nat) o ,f[i]?=some o->∀c,o.op≠.defer c)(q:¬LetsOut Q)(h:Du P .any f Q S t f.size (Array.replicate f.size false) a w.drew):
 (Code.region id f true).wpIn (Fence.wide.inRound l) n P Q a w:=wpIn_region_any A (LG r q _ _ _ _ (Qf _ _ _ _ h))
def Rd.turn{w w' v xs f}(h:Rd .u8 w v xs)(I:w.grownBy w' f)(hr:∀r,f=some r->∃o,w.heap[r]?=some o/\o.isCells=false):Rd .u8 w' v xs:=by obtain⟨a,cap,rfl,q,A,B,E⟩:=h;refine⟨a,cap,rfl,q,A,B,E.imp id ?_⟩;rintro⟨b,o,rfl,hc⟩;exact⟨b,o,rfl,λ i J=>cell_kept (hc i J) I hr⟩
structure Ic(w W:World)(v:Value)(xs:List Int):Prop where
 bel:Below w.heap.size w W
 ow:AF .u8 5 W v xs
 nw:∀k,v.ownBlock=some k->w.heap.size<=k
def Ic.grow{w W W' v q xs ys}(h:Ic w W v xs)(A:AF .u8 5 W' q ys)(r:AY W W' v q):Ic w W' q ys:=
 ⟨h.bel.trans (r.tch.below h.bel.size (λ k f=>h.nw k f)),A,λ k f=>(r.fresh k f).elim (h.nw k) (λ e=>Aw h.bel.size e)⟩
structure EW(w W:World)(B11 Bs Bn:Nat)(sv:Value)(cs:List (Int×List Int))(us:List (Int×Value))(ov:Value):Prop where
 bel:Below w.heap.size w W
 o:Vr W B11 56 [ov]
 ow:DZ W ov us
 nw:∀k,ov.ownBlock=some k->w.heap.size<=k
 n11:w.heap.size<=B11
 bs:Vr W Bs 40 [sv]
 bn:Vr W Bn 3 [.int .i64 240]
 len:us.length=cs.length
 kd:∀i,(hi:i<us.length)->(h2:i<cs.length)->us[i].1=cs[i].1/\Rd .u8 W us[i].2 cs[i].2/\∀j,us[i].2.ownBlock=some j->w.heap.size<=j/\j<W.heap.size/\j≠B11/\ov.ownBlock≠some j
section
variable {w W W':World} {B11 Bs Bn:Nat} {sv ov:Value} {cs:List (Int×List Int)} {us:List (Int×Value)}
def EW.on(h:EW w W B11 Bs Bn sv cs us ov)(f:Below W.heap.size W W'):EW w W' B11 Bs Bn sv cs us ov:=
 ⟨h.bel.trans (f.mono h.bel.size),h.o.on f,h.ow.below f,h.nw,h.n11,h.bs.on f,h.bn.on f,h.len,λ i r q=>⟨(h.kd i r q).1,(h.kd i r q).2.1.below f,λ j A=>by
  obtain⟨a,b,c⟩:=(h.kd i r q).2.2 j A;exact⟨a,Ao b f.size,c⟩⟩⟩
def EW.turn(h:EW w W B11 Bs Bn sv cs us ov){A}(J:W.grownBy W' A)(hr:∀r,A=some r->w.heap.size<=r/\∃o,W.heap[r]?=some o/\o.isCells=false):EW w W' B11 Bs Bn sv cs us ov:=by
 have f:AD (λ k=>A=some k) W W':=(AD.refl _ W).grown J (λ _ _ e=>e);have q:∀{k:Nat} {c:Array Value} {t:TypeId},W.heap[k]?=some (.cells c t (0,0))->¬A=some k:=fun{k c t} L e=>by obtain⟨_,o,K,hc⟩:=hr _ e;rw[L]at K;obtain rfl:=zv0 K;simp[Obj.isCells]at hc
 refine⟨h.bel.trans (f.below h.bel.size (λ k e=>(hr k e).1)),h.o.tch f (q h.o),h.ow.tch f (λ j I=>by obtain⟨c,hc⟩:=Nk h.ow I;exact q hc),h.nw,h.n11,h.bs.tch f (q h.bs),h.bn.tch f (q h.bn),h.len,λ i E B=>⟨(h.kd i E B).1,(h.kd i E B).2.1.turn J (λ r e=>(hr r e).2),λ j I=>?_⟩⟩;obtain⟨a,b,c⟩:=(h.kd i E B).2.2 j I;exact⟨a,Ao b f.size,c⟩
def EW.push{q E f y ys}(h:EW w W B11 Bs Bn sv cs us ov)(hr:Rd .u8 W E ys)(Z:∀j,E.ownBlock=some j->w.heap.size<=j/\j<W.heap.size/\j≠B11/\ov.ownBlock≠some j)(K:DZ q f (us++[(y,E)]))(A:AY W q ov f):
 EW w (q.setCell ⟨B11,0,none⟩ f) B11 Bs Bn sv (cs++[(y,ys)]) (us++[(y,E)]) f/\AD (λ k=>k=B11\/ov.ownBlock=some k) W (q.setCell ⟨B11,0,none⟩ f):=by
 have t1:=A.tch.mono (S':=λ k=>k=B11\/ov.ownBlock=some k) (λ _ _ e=>.inr e);have t2:=Fl q B11 0 f;have tt:=t1.trans t2 (λ _ _ e=>.inl e);have U:Vr q B11 56 [ov]:=h.o.tch A.tch (h.ow.neV h.o (by decide));have a2:=A.tch.size;have O:∀{b:Nat} {c:List Value} {T:TypeId},Vr W b T c->56≠T->59≠T->¬(b=B11\/ov.ownBlock=some b):=fun{b c T} L h1 B e=>by
  rcases e with e|e
  .subst e;have J:W.heap[b]?=_:=L;have e2:W.heap[b]?=_:=h.o
   grind
  .exact h.ow.neV L B e
 have a1:∀i,(I:i<us.length)->(B:i<cs.length)->us[i].1=cs[i].1/\Rd .u8 (q.setCell ⟨B11,0,none⟩ f) us[i].2 cs[i].2/\∀j,us[i].2.ownBlock=some j->w.heap.size<=j/\j<W.heap.size/\j≠B11/\f.ownBlock≠some j:=λ i I B=>by
  obtain⟨k1,k2,k3⟩:=h.kd i I B;refine⟨k1,k2.tch tt (λ j r e=>?_),λ j r=>?_⟩
  .grind
  .obtain⟨a,b,c,d⟩:=k3 j r;exact⟨a,b,c,λ e=>(A.fresh j e).elim d (λ e=>by omega)⟩
 have a3:W.heap.size<=(q.setCell ⟨B11,0,none⟩ f).heap.size:=tt.size;refine⟨⟨h.bel.trans (tt.below h.bel.size (λ k e=>e.elim (λ e=>by rw[e];exact h.n11) (h.nw k))),U.set 0 f,K.tch t2 (λ j r e=>K.neV U (by decide) (by rw[r,e])),λ k X=>(A.fresh k X).elim (h.nw k) (λ e=>Aw h.bel.size e),h.n11,
  h.bs.tch tt (O h.bs (by decide) (by decide)),h.bn.tch tt (O h.bn (by decide) (by decide)),by simp[h.len],λ i I B=>?_⟩,tt⟩
 by_cases Y:i<us.length
 .have a0:i<cs.length:=by rw[<-h.len];exact Y
  grind
 .have J:i=us.length:=by grind
  subst J;rw[List.getElem_append_right (AE _),List.getElem_append_right (by rw[h.len];omega)];simp only[Nat.sub_self,h.len,List.getElem_cons_zero];refine⟨by simp,hr.tch tt (λ j r e=>?_),λ j r=>?_⟩
  .grind
  .obtain⟨a,b,c,d⟩:=Z j r;exact⟨a,by omega,c,λ e=>(A.fresh j e).elim d (λ e=>by omega)⟩
def EW.keeps(h:EW w W B11 Bs Bn sv cs us ov)(E:AD (λ k=>k=B11\/ov.ownBlock=some k) W W')(B)(q:∃r J I,EW w W' B11 Bs Bn sv r J I):KeepsFrom B W W'/\KC Bs Bn W W':=by obtain⟨r,J,I,q⟩:=q;refine⟨⟨E.size,λ k o _ f A=>?_⟩,λ v hv=>?_,λ v hv=>?_⟩;rw[E.block k (za0.1 f).1 ?_];exact f;rintro(e|e);have:=h.o;unfold Vr at this;rw[e,this]at f;obtain rfl:=zv0 f;simp[Obj.isCells]at A;obtain⟨c,hc⟩:=Nk h.ow e;rw[hc]at f;obtain rfl:=zv0 f;simp[Obj.isCells]at A;rw[h.bs.at 0]at hv;rw[q.bs.at 0];exact hv;rw[h.bn.at 0]at hv;rw[q.bn.at 0];exact hv
end
def X9:NU:=by
 intro O pk B pv mv w ax bp aq cz a2 ap bz c5;obtain⟨E,ad⟩:=exN pk.length;obtain⟨ml,ac⟩:=exN B.length;have hc:=G8 a2;have d8:ml<=2:=by omega
 obtain⟨pa,pc,rfl⟩:∃a c,pv=.slice a E c:=by obtain⟨a,c,e,_⟩:=ax;exact⟨a,c,by rw[e,ad]⟩
 obtain⟨ma,mc,rfl⟩:∃a c,mv=.slice a ml c:=by obtain⟨a,c,e,_⟩:=aq;exact⟨a,c,by rw[e,ac]⟩
 rw[ad]at a2 ap;have HP:=z6 (And.intro ax (And.intro bp (And.intro a2 (And.intro c5 (And.intro ad cz)))));have X:=z6 (And.intro aq (And.intro bz (And.intro ac ap)));have a9:Hid (∀(W:World)(v:Value)(xs:List Int)(n:Nat),n<=65535->xs.length<=1000->Ic w W v xs->Calls prog 101 #[v,.int .i64 (n:Int)] W λ e w'=>∃v',e=.returned v'/\Ic w w' v' (xs++BD n)):=λ W v xs n hn hl hb=>by refine(AEX v xs n W hb.ow (by omega) (by omega)).mono ?_;rintro e w' ⟨v',rfl,h1,h2⟩;exact⟨v',rfl,hb.grow h1 h2⟩
 have b6:Hid (Ic w w AK []):=⟨Below.refl _ _,CB _ _ _,λ k e=>by cases e⟩
 rw[ac];clear ax bp aq bz c5 ap ad ac hc;refine(callsIn_wide (n:=7)).1 ?_;refine callsIn_of_wp_marks func64 rfl trivial ?_ rfl;simp only[ntmps64,List.size_toArray,zh0,List.length_nil,Nat.reduceAdd,Nat.reduceSub,Array.replicate_succ,Array.replicate_zero,List.push_toArray,List.append_toArray,List.nil_append,List.cons_append];refine wpIn_wide.2 ?_;go_wp2_with fail;refine(a9.o w AK [] O HP.o.2.2.2.2.2 (by simp) b6.o).mono ?_;rintro e w1 ⟨v1,rfl,bo⟩;have b7:=z6 bo;clear bo b6;go_wp2_with fail;refine(a9.o w1 v1 _ E (by have:=HP.o.2.2.1;omega) (by simp[BD]) b7.o).mono ?_;rintro e w2 ⟨v2,rfl,a1⟩;have ag:=z6 a1;clear a1 b7
 have d9:IntKind.u8.wrap (ml:Int)=(ml:Int):=by rw[IntKind.wrap_u8];omega
 go_wp2_with(at_builtin;refine ET w2 ?g1 (.tmp 19) (.tmp 23) 40 ?g2 5 .u8 1 Dd _ (([]++BD (O:Int))++BD (E:Int)) ?g3 ag.o.ow (ml:Int) ?g4 ?g5 ?g6 ?g7)
 case g1=>rfl
 case g2=>rfl
 case g3=>rfl
 case g4=>rfl
 case g5=>simp[BD]
 case g6=>simp[BD]
 case g7=>
 intro v3 w3 c0 bu;have ai:=z6 (ag.o.grow c0 bu);clear c0 bu ag;obtain⟨pre,ae⟩:=exN (BD (O:Int)++(BD (E:Int)++[(ml:Int)]));rw[ae]at ai;have cm:Hid (pre=BD (O:Int)++BD (E:Int)++[(ml:Int)]):=by show _=_;rw[<-ae,zr0]
 have b9:Hid (pre.length=5):=by show _=_;rw[<-ae];simp[BD]
 clear ae;go_wp2_with fail
 go_loopw [7,27] (λ bv kv wr=>∃k:Nat,k<=ml/\kv=.int .i64 (k:Int)/\Hid (Ic w wr bv (pre++(B.take k).flatMap BD))) (λ _ kv _=>ml-(intOf kv).toNat)
 case atStart=>exact⟨0,AI _,rfl,z6 (by simpa using ai.o)⟩
 case round=>
  obtain⟨k,hk,rfl,HI⟩:=hrel;by_cases cy:k<ml
  .obtain⟨mb,mo,rfl,a6⟩:∃b o,ma=some ⟨b,o,none⟩/\∀i,i<B.length->w.cell? ⟨b,o+i,none⟩=some (.int .i64 (B.getD i 0)):=by
    obtain⟨a,cap,e,_,_,_,h⟩:=X.o.1;simp only[Value.slice.injEq]at e;obtain⟨rfl,_,rfl⟩:=e;rcases h with h|⟨b,o,rfl,h⟩
    .have h2:=X.o.2.2.1;rw[h]at h2;simp at h2;omega
    .exact⟨b,o,rfl,h⟩
   obtain⟨nk,ar⟩:∃n:Nat,B.getD k 0=(n:Int):=⟨(B.getD k 0).toNat,by
    have:=X.o.2.1 (B.getD k 0) (by rw[AP,z9 (by have:=X.o.2.2.1;omega)];simp);omega⟩
   (have d0:nk<=65535:=by have:=X.o.2.1 (B.getD k 0) (by rw[AP,z9 (by have:=X.o.2.2.1;omega)];simp);omega);(have ao:=a6 k (by have:=X.o.2.2.1;omega);have d7:wr.cell? ⟨mb,mo+k,none⟩=some (.int .i64 (nk:Int)):=by rw[HI.o.bel.cell (p:=⟨mb,mo+k,none⟩) (zb0 w ⟨mb,mo+k,none⟩ ao),ao,ar]);have cn:Hid ((B.take (k+1)).flatMap BD=(B.take k).flatMap BD++BD (nk:Int)):=by show _=_;(have bx:k<B.length:=by have:=X.o.2.2.1;omega);rw[List.take_succ_eq_append_getElem bx,List.flatMap_append];(have e:B[k]=(nk:Int):=by rw[<-ar,AP,z9 bx];rfl);rw[e];simp
   clear a6 ao ar;go_wp2_with fail;refine(a9.o wr _ _ nk d0 (by rw[zc0,b9.o,Ob,zd0];omega) HI.o).mono ?_;rintro e W2 ⟨v2,rfl,a1⟩;have cg:=z6 a1;clear a1;go_wp2_with fail;refine⟨⟨k+1,by omega,rfl,?_⟩,by simp[intOf];omega⟩;rw[cn.o,<-zr0];exact cg.o
  .obtain rfl:k=ml:=by omega
   (clear hk cy ai;rw[show B.take k=B from Cj (by have:=X.o.2.2.1;omega)]at HI;obtain⟨xs,af⟩:=exN (pre++B.flatMap BD);rw[af]at HI;have ak:Hid (xs=BD (O:Int)++BD (E:Int)++[(k:Int)]++B.flatMap BD/\xs.length=5+2*k):=by show _/\_;refine⟨by rw[<-af,cm.o],?_⟩;rw[<-af,zc0,b9.o,Ob,X.o.2.2.1]);clear af a9;obtain⟨ba,bc,rfl,d3⟩:=HI.o.ow.rd;clear d3;obtain⟨at_,bm⟩:∃n:Nat,min (E:Int) (235-2*(k:Int))=(n:Int):=⟨min E (235-2*k),by omega⟩
   (have ct:(if 235-2*(k:Int)<(E:Int)then 235-2*(k:Int)else(E:Int))=(at_:Int):=by rw[<-bm];split<;>omega);(have a4:Hid (at_<=E/\at_=min E (235-2*k)):=by show _/\_;omega);go_wp2_with fail;refine(Pn k (by omega) wr).mono ?_;rintro e w' ⟨rfl,U⟩;replace U:=U.symm;subst U;go_wp2_with(with_reducible (show wpList _ _ _ (Oper.mk _ (Op.slice _ _ none (some _) _) _ _ _ _::_) _ _);refine Qj Kr _ w rfl (.tmp 42) (.tmp 43) rfl _ pk ?g1 HP.o.1 at_ ?g2 ?g3 ?g4)
   (case g1=>rfl);(case g2=>rfl);(case g3=>rw[HP.o.2.2.2.2.1];exact a4.o.1);case g4=>
   intro v5 ca d1;have bd:Hid (Rd .u8 wr v5 (pk.take at_)):=ca.below HI.o.bel;clear ca d1 bm ct;go_wp2_with(at_builtin;refine Hr wr ?g5 (.tmp 41) (.tmp 44) 40 ?g6 5 .u8 1 Dd _ xs ?g7 HI.o.ow _ (pk.take at_) ?g8 bd.o ?g9 ?g10 ?g11)
   (case g5=>rfl);(case g6=>rfl);(case g7=>rfl);(case g8=>rfl);(case g9=>have:=a4.o;rw[ak.o.2,zd0];omega);(case g10=>have:=a4.o;rw[ak.o.2,zd0];omega);case g11=>
   intro v6 f av bw;have a3:=z6 (HI.o.grow av bw);(obtain⟨ea,en,ec,rfl⟩:∃a n c,v6=.slice a n c:=by obtain⟨a,c,e,_⟩:=av.rd;exact⟨_,_,_,e⟩);clear av bw HI bd;go_wp2_with(with_reducible (show wpList _ _ _ (Oper.mk _ (Op.slice _ _ (some _) none _) _ _ _ _::_) _ _);refine LI Kr _ w rfl (.tmp 48) (.tmp 49) rfl _ pk ?h1 HP.o.1 at_ ?h2 ?h3 ?h4)
   (case h1=>rfl);(case h2=>rfl);(case h3=>rw[HP.o.2.2.2.2.1];exact a4.o.1);case h4=>
   intro v7 cc d2;have be:=z6 cc;obtain⟨sa,sc,rfl,hx1,ce,_⟩:=cc;have aa:Hid ((pk.drop at_).length<=sc/\sc<=maxLen):=⟨hx1,ce⟩
   clear hx1 ce d2;obtain⟨q,ay⟩:=exN ((pk.drop at_).length);rw[ay]at aa be |-
   have ab:=z6 ay;clear ay;go_wp2_with fail;refine(callsIn_wide.1 (Yo 6 sa q sc _)).mono ?_;rintro e w7 ⟨rfl,a8⟩;have E0:Hid (EW w w7 (f.heap.size+1) (f.heap.size+2) (f.heap.size+3) (.slice sa q sc) [(3,CW O pk B)] [(3,.slice ea en ec)] (.slice (some ⟨f.heap.size,0,none⟩) 1 1)):=by
    have s6:=a3.o.bel.size;have al:∀(W:World)(o:Obj),Below W.heap.size W (W.alloc o):=λ W o=>(Below.refl _ _).alloc (AE _) _;obtain⟨A1,hA1⟩:=exN (f.alloc (.cells #[.int .i64 3,.slice ea en ec] 59));(have z1:A1.heap.size=f.heap.size+1:=by rw[<-hA1];simp);obtain⟨A2,hA2⟩:=exN (A1.alloc (.cells #[.slice (some ⟨f.heap.size,0,none⟩) 1 1] 56));(have z2:A2.heap.size=f.heap.size+2:=by rw[<-hA2];simp[z1]);obtain⟨A3,hA3⟩:=exN (A2.alloc (.cells #[.slice sa q sc] 40));(have z3:A3.heap.size=f.heap.size+3:=by rw[<-hA3];simp[z2]);(have b1:Below f.heap.size f A1:=by rw[<-hA1];exact al _ _);have b2:Below A1.heap.size A1 A2:=by rw[<-hA2];exact al _ _
    (have b3:Below A2.heap.size A2 A3:=by rw[<-hA3];exact al _ _);rw[hA1,hA2,hA3]at a8;(have b4:Below A3.heap.size A3 w7:=by rw[a8];exact al _ _);have bh:=b3.trans (b4.mono b3.size);have bg:=b2.trans (bh.mono b2.size);have am:=b1.trans (bg.mono b1.size);(have o2:Vr A2 (f.heap.size+1) 56 [.slice (some ⟨f.heap.size,0,none⟩) 1 1]:=by have:=CZ A1 56 [.slice (some ⟨f.heap.size,0,none⟩) 1 1];rw[z1]at this;rw[<-hA2];exact this);(have o3:Vr A3 (f.heap.size+2) 40 [.slice sa q sc]:=by have:=CZ A2 40 [.slice sa q sc];rw[z2]at this;rw[<-hA3];exact this);have o4:Vr w7 (f.heap.size+3) 3 [.int .i64 240]:=by have:=CZ A3 3 [.int .i64 240];rw[z3]at this;rw[a8];exact this
    (have o1:DZ A1 (.slice (some ⟨f.heap.size,0,none⟩) 1 1) [(3,.slice ea en ec)]:=by rw[<-hA1];exact ADv f 3 ea en ec);refine⟨a3.o.bel.trans (am.mono s6),o2.on bh,o1.below bg,λ k hk=>?_,by omega,o3.on b4,o4,rfl,λ i hi h2=>?_⟩;simp only[Value.ownBlock,Option.some.injEq]at hk;omega
    .obtain rfl:i=0:=by simpa using hi
     refine⟨rfl,?_,λ j Z=>?_⟩
     .have h:=a3.o.ow.rd.below am;have e:xs++pk.take at_=CW (O:Int) pk B:=by unfold CW;rw[ak.o.1,HP.o.2.2.2.2.1,X.o.2.2.1,a4.o.2];congr 1;rw[List.take_eq_take_iff];have:=HP.o.2.2.2.2.1;omega
      rw[e]at h;exact h
     .have h1:=a3.o.nw j Z;have h2:=a3.o.ow.lt j Z;have h3:=am.size;refine⟨h1,by omega,by omega,λ e=>?_⟩;simp only[Value.ownBlock,Option.some.injEq]at e;omega
   have bb:Hid (w.heap.size<=f.heap.size/\w7.heap.size=f.heap.size+4):=⟨a3.o.bel.size,by rw[a8];simp⟩
   clear a8 a3;obtain⟨sb,so,bi,c7⟩:∃sb so,(q=0\/(sa=some ⟨sb,so,none⟩/\q<=sc/\sc<=maxLen))/\∀j,240*j<q->Rd .u8 w (.slice (some ⟨sb,so+240*j,none⟩) (min 240 (q-240*j)) (min 240 (q-240*j))) (((pk.drop at_).drop (240*j)).take 240):=by
    obtain⟨a,c,e,_,_,_,h⟩:=be.o;simp only[Value.slice.injEq]at e;obtain⟨rfl,_,rfl⟩:=e;have a7:=ab.o;rcases h with h|⟨b,o,rfl,hc⟩
    .rw[h]at a7;simp at a7;exact⟨0,0,.inl a7.symm,λ j Z=>by omega⟩
    .refine⟨b,o,.inr ⟨rfl,by have:=aa.o.1;omega,aa.o.2⟩,λ j Z=>?_⟩;(have hl:(((pk.drop at_).drop (240*j)).take 240).length=min 240 (q-240*j):=by rw[zd0,zg0,a7]);refine⟨some ⟨b,o+240*j,none⟩,min 240 (q-240*j),by rw[hl],by rw[hl];exact AE _,by have:=aa.o;omega,(λ e=>by cases e),.inr ⟨b,o+240*j,rfl,λ i hi=>?_⟩⟩;rw[hl]at hi;have:=hc (240*j+i) (by rw[a7];omega);rw[show o+240*j+i=o+(240*j+i) by omega,this];congr 2;rw[AP,AP,zq0,if_pos (by omega)];simp only[zp0]
   have ck:=z6 c7;have az:=Yp 5 (f.heap.size+1+1) (f.heap.size+1+1+1) sb so q sc sa (by omega) (by have:=ab.o;have:=HP.o.2.2.2.2.1;rw[zg0]at *;omega) w7 (by have:=bb.o;omega) (by have:=bb.o;omega) ((E0.o.bs.at 0).trans rfl) ((E0.o.bn.at 0).trans rfl) bi;clear c7 bi;go_wp2_with fail;refine wpIn_wide.1 (wpIn_rangeFunc_ownG (F:=Fence.wide) (n:=6) rfl (by omega) (gf:=131) (lb:=#[.pointer (some ⟨f.heap.size+1+1,0,none⟩),.pointer (some ⟨f.heap.size+1+1+1,0,none⟩)]) rfl trivial (enters_of func131 (by kernel_rfl) rfl)
    az KC.t (λ W l o o' _ h hc _=>KC.b W l o o' h hc) (Below.refl _ _) (λ _=>rfl)
    (λ pre W=>∃us ov,EW w W (f.heap.size+1) (f.heap.size+2) (f.heap.size+3) (.slice sa q sc) ([(3,CW O pk B)]++pre.map (λ x=>((4:Int),((pk.drop at_).drop (240*x.1)).take 240))) us ov)
    (λ _ _ _=>False)
    (λ pre A A' db hs hg hr=>by obtain⟨us,ov,J⟩:=hs;exact⟨us,ov,J.turn hg (λ r e=>⟨Aw E0.o.bel.size (hr r e).1,(hr r e).2⟩)⟩)
    (λ _ _ _ _ _ hs _ _=>hs)
    ⟨_,_,E0.o⟩
    (λ x=>{ tmps:=#[Value.int IntKind.i64 (O:Int),Value.slice pa E pc,Value.slice ma k mc,undef,undef,undef,Value.slice none 0 0,Value.slice ba xs.length bc,undef,u9,Value.int IntKind.i64 (at_:Int),Value.pointer (some ⟨f.heap.size+1,0,none⟩),Value.slice (some ⟨sb,so+240*x.1,none⟩) (min 240 (q-240*x.1)) (min 240 (q-240*x.1)),Value.int IntKind.i64 (O:Int),v1,v1,Value.slice pa E pc,Value.int IntKind.i64 (E:Int),v2,v2,Value.slice ma k mc,Value.int IntKind.i64 (k:Int),Value.int IntKind.u8 (k:Int),Value.slice (some ⟨w2.heap.size,0,none⟩) 1 1,v3,Value.slice ma k mc,Value.int IntKind.i64 (k:Int),Value.int IntKind.i64 (k:Int),Value.bool false,u29,u30,u31,u32,u33,u34,Value.slice pa E pc,Value.int IntKind.i64 (E:Int),Value.slice ma k mc,Value.int IntKind.i64 (k:Int),Value.int IntKind.i64 (235-2*(k:Int)),Value.int IntKind.i64 (at_:Int),Value.slice ba xs.length bc,Value.slice pa E pc,Value.int IntKind.i64 (at_:Int),v5,Value.slice ea en ec,Value.agg #[Value.int IntKind.i64 3,Value.slice ea en ec],Value.slice (some ⟨f.heap.size,0,none⟩) 1 1,Value.slice pa E pc,Value.int IntKind.i64 (at_:Int),Value.slice sa q sc,Value.func (.func 131) #[] #[Value.pointer (some ⟨f.heap.size+1+1,0,none⟩),Value.pointer (some ⟨f.heap.size+1+1+1,0,none⟩)],Value.slice (some ⟨sb,so+240*x.1,none⟩) (min 240 (q-240*x.1)) (min 240 (q-240*x.1)),undef,undef,undef,undef,undef,undef,undef],defers:=[] }) ?assign ?body ?done ?stop)
   case assign=>
    intro l x W K I;simp only[Kf]
    gi_wp2
    exact I
   (case stop=>rintro D c pre W _ _ h _;exact h.elim);case done=>
    rintro D ys W hD rfl ⟨us,ov,J⟩ I;have bq:[(3,CW (O:Int) pk B)]++(Ci (Ex q) (Dj q)).map (λ x=>((4:Int),((pk.drop at_).drop (240*x.1)).take 240))=EJ (O:Int) pk B:=by
     (have h1:=ab.o;have h2:=HP.o.2.2.2.2.1;have h3:=a4.o;have h4:=X.o.2.2;have h5:=G8 a2;rw[zg0]at h1;(have hN:Dj q=B.length:=by unfold Dj;omega);(have hm:(Ci (Ex q) (Dj q)).map (λ x=>((4:Int),((pk.drop at_).drop (240*x.1)).take 240))=((Ci (Ex q) (Dj q)).map (λ x:LO q=>x.1)).map (λ j=>((4:Int),((pk.drop at_).drop (240*j)).take 240)):=by rw[List.map_map];rfl);rw[hm,AEE,hN];unfold EJ EK;have Y:pk.drop at_=pk.drop (235-2*B.length):=by by_cases hh:E<=235-2*k;rw[List.drop_of_length_le (by omega),List.drop_of_length_le (by omega)];congr 1;omega);rw[Y];rfl
    rw[bq]at J;(have b0:us.length=k+1:=by rw[J.len,Ll,X.o.2.2.1]);obtain⟨og,oc,rfl,c4,a6⟩:=J.ow.shape (by omega);have HE:=z6 J;have HC:=z6 a6;have b8:=z6 I;have ci:=z6 hD;have d5:W.cell? ⟨f.heap.size+1,0,none⟩=some (.slice (some ⟨og,0,none⟩) (k+1) oc):=by have:=(J.o.at 0).trans rfl;rw[b0]at this;exact this
    have cq:=z6 b0;clear J a6 I hD bq b0 az;go_wp2_with fail;refine⟨by simp,.inl ⟨_,_,rfl,run_takeDeferred b8.o,?_⟩⟩;have hg:=grownBy_putObj' W D (.deferred none);have U:=HE.o.turn hg (λ r e=>by cases e;exact⟨Aw E0.o.bel.size ci.o,_,b8.o,rfl⟩);refine⟨_,results_tmp rfl _ _ _,og,oc,λ i=>(us.getD i (0,AK)).2,rfl,U.bel,U.nw og rfl,⟨(World.ownsRow.lt U.ow og rfl).2,λ e=>e,λ i hi=>?_,λ i hi j Z=>?_⟩,λ i hi j Z=>?_⟩
    .have a0:i<us.length:=by rw[U.len];exact hi
     obtain⟨g2,c2,e2,_,cv⟩:=U.ow.shape (by omega);simp only[Value.slice.injEq,Option.some.injEq,Addr.mk.injEq,and_true]at e2;obtain⟨⟨rfl,_⟩,_⟩:=e2;obtain⟨k1,k2⟩:=cv i a0;obtain⟨q1,q2,_⟩:=U.kd i a0 hi;(have e3:us.getD i (0,AK)=us[i]:=by rw[AP,z9 a0];rfl);rw[e3,<-q1];exact⟨k1,k2,q2⟩
    .have a0:i<us.length:=by rw[U.len];exact hi
     (have e3:us.getD i (0,AK)=us[i]:=by rw[AP,z9 a0];rfl);simp only[e3]at Z;exact⟨((U.kd i a0 hi).2.2 j Z).2.1,λ e=>e⟩
    .have a0:i<us.length:=by rw[cq.o];exact hi
     (have e3:us.getD i (0,AK)=us[i]:=by rw[AP,z9 a0];rfl);simp only[e3]at Z;exact .inl ((U.kd i a0 (by rw[<-U.len];exact a0)).2.2 j Z).1
   case body=>
    (rintro l pre x W ⟨us,ov,J⟩ a2;have hx:240*x.1<q:=by have:=x.2;unfold Dj at a2;omega);have aj:=(ck.o x.1 hx).below J.bel;obtain⟨po,aw⟩:=exN (so+240*x.1);obtain⟨L,hL⟩:=exN (min 240 (q-240*x.1));obtain⟨ys,b5⟩:=exN (((pk.drop at_).drop (240*x.1)).take 240);rw[aw,hL,b5]at aj;have cl:Hid (Rd .u8 W.drew (.slice (some ⟨sb,po,none⟩) L L) ys):=aj.below ((Below.refl _ W).drew);(have cj:Hid (L<=100000):=by show _<=_;omega);have cr:=z6 b5;obtain⟨og,oc,c6,c4,_⟩:=J.ow.shape (by rw[J.len];simp);obtain⟨oa,on,oc,rfl⟩:∃a n c,ov=.slice a n c:=⟨_,_,_,c6⟩
    (have HE:=z6 J;have co:Hid (us.length<=100000):=by show _<=_;rw[J.len];have h1:=ab.o;have h2:=HP.o.2.2.2.2.1;rw[zg0]at h1;unfold Dj at a2;simp only[zc0,zu0,zh0,List.length_nil];omega);simp only[aw,hL];clear c6 c4 J aj aw hL b5 az hx a2
    gi_wp2_with fail
    refine wpIn_mono (Q:=λ e a' W3=>Hid (e=.normal/\KeepsFrom w7.heap.size W W3/\KC (f.heap.size+2) (f.heap.size+3) W W3/\∃us ov,EW w W3 (f.heap.size+1) (f.heap.size+2) (f.heap.size+3) (.slice sa q sc) ([(3,CW O pk B)]++(pre++[x]).map (λ x=>((4:Int),((pk.drop at_).drop (240*x.1)).take 240))) us ov)) ?m5 ?m6;case m5=>
     (have d4:prog.follows .mixedOrders=true:=by kernel_rfl);refine Xm (S:=λ W':World=>W'.cell? ⟨f.heap.size+1,0,none⟩=some (.slice oa on oc)) (t:=6) d4 (PH (by kernel_rfl)) (λ⟨_,_,h⟩=>by cases h.o.1) ?_;have bj:W.drew.cell? ⟨f.heap.size+1,0,none⟩=some (.slice oa on oc):=(HE.o.on ((Below.refl _ W).drew)).o.at 0;refine Be 0 (some 53) (.load 56 (.tmp 11)) (Value.slice oa on oc) ?hy bj ?_;case hy=>rintro o T w' hz;have k1:=hz;go_simp
     simp only[zq];refine Be 1 (some 54) (.move (.tmp 12)) ((.slice (some ⟨sb,po,none⟩) L L)) ?hy bj ?_;case hy=>rintro o T w' hz;have k1:=hz;go_simp
     simp only[zq];refine Ae 2 (some 55) (.call { callee:=.value (.func 103),args:=#[.tmp 54],argTypes:=#[40] }) ?_;rintro o K Y T hg I;refine Dp (enters_of func103 (by kernel_rfl) rfl) T (vs:=#[(.slice (some ⟨sb,po,none⟩) L L)]) (by kernel_rfl) (Nt cl.o cj.o) ?_;rintro e W2 ⟨rv,br,au,a1,cx⟩;(obtain⟨ra,rn,rc,rfl⟩:∃a n c,rv=.slice a n c:=by obtain⟨a,c,e,_⟩:=au.rd;exact⟨_,_,_,e⟩);refine⟨_,br,?_⟩;rw[Y];have e2:=HE.o.on (((Below.refl _ W).drew).trans a1);refine I _ _ (λ _=>e2.o.at 0) ?_;clear T Y hg I br;simp only[zq];refine Be 3 (some 56) (.build 59 #[(0,.const (.int .i64 4)),(1,.tmp 55)]) (Value.agg #[.int .i64 4,.slice ra rn rc]) ?hy (e2.o.at 0) ?_;case hy=>
      rintro o T w' hz;have k1:=hz;go_simp
     simp only[zq];refine Ae 4 (some 57) (.buildSlice 56 1 #[(0,.tmp 56)]) ?_;rintro o K Y T hg I;refine AIc T rfl ?_;rw[Y];have c9:=CZ W2 59 [.int .i64 4,.slice ra rn rc];have a5:Below W2.heap.size W2 (W2.alloc (.cells [.int .i64 4,.slice ra rn rc].toArray 59)):=(Below.refl _ _).alloc (AE _) _;obtain⟨W3,an⟩:=exN (W2.alloc (.cells [.int .i64 4,.slice ra rn rc].toArray 59));rw[an]at c9 a5;have bk:W2.alloc (.cells #[.int .i64 4,.slice ra rn rc] 59)=W3:=an;rw[bk];have e3:=e2.on a5;refine I _ _ (λ _=>e3.o.at 0) ?_;clear T Y hg I an bk;simp only[zq];refine Ae 5 (some 58) (.call { callee:=.builtin .append,args:=#[.tmp 53,.tmp 57],argTypes:=#[56,56] }) ?_;rintro o K Y T hg I
     refine AIX T rfl e3.ow rfl rfl c9 co.o ?_;intro v4 W4 o4 g4;obtain⟨vg,vc,rfl,_⟩:=o4.shape (by simp);rw[Y];have cf:Vr W4 (f.heap.size+1) 56 [.slice oa on oc]:=e3.o.tch g4.tch (e3.ow.neV e3.o (by decide));refine I _ _ (λ _=>cf.at 0) ?_;clear T Y hg I;simp only[zq];refine Ae 6 none (.store 56 (.tmp 11) (.tmp 58)) ?_;rintro o K Y T hg I;refine AIf T rfl rfl cf (by simp) ?_;rw[Y];refine I _ _ (λ e=>absurd rfl e) ?_;refine Cx (by kernel_rfl) ?_ _;clear T Y hg I;have d6:=HE.o.o.lt;have da:=HE.o.bel.size;have bf:Below W.heap.size W W2:=((Below.refl W.heap.size W).drew).trans a1;have P:=e3.push (au.rd.below a5) (λ j Z=>by
      have h1:W.heap.size<=j:=cx j Z;have h2:=au.lt j Z;have h3:=a5.size;refine⟨by omega,by omega,by omega,λ e=>?_⟩;have h4:=(World.ownsRow.lt HE.o.ow j e).2;omega) o4 g4
     have tt:=(AD.of_below (S:=λ k=>k=f.heap.size+1\/(Value.slice oa on oc).ownBlock=some k) (bf.trans (a5.mono bf.size))).trans P.2 (λ _ _ e=>e);obtain⟨k1,k2⟩:=HE.o.keeps tt w7.heap.size ⟨_,_,_,P.1⟩;have p1:=P.1;rw[<-cr.o]at p1;(have p2:[(3,CW (O:Int) pk B)]++(pre++[x]).map (λ x=>((4:Int),((pk.drop at_).drop (240*x.1)).take 240))=([(3,CW (O:Int) pk B)]++pre.map (λ x=>((4:Int),((pk.drop at_).drop (240*x.1)).take 240)))++[((4:Int),((pk.drop at_).drop (240*x.1)).take 240)]:=by rw[za1,<-zr0];rfl);rw[<-p2]at p1;exact⟨rfl,k1,k2,_,_,p1⟩
    case m6=>intro e a' W3 HH;obtain⟨rfl,k1,k2,h3⟩:=HH.o;exact⟨k1,k2,h3⟩
end
section
open Go.RowKit Go.Maps
structure J2(a a2:Ab)(ds:List Int)(b:Int):Prop where
 ok:FW a2
 kn:∃e∈a2.K,e.ds=ds/\e.b=b
 fr:a.A.L.count 0<=a2.A.L.count 0+3
 le:∀e∈a.K,e∈a2.K
def G5.ok{a B f b Y}(h:G5 a B f b Y)(r:FW a)(J:By f)(W:1<=f.length/\f.length<=512)(U:3<=a.A.L.count 0):J2 a B f b:=by
 rcases h with⟨_,rfl,e,q,K,O⟩|⟨_,X,pk,E,rfl,rfl⟩
 .exact⟨r,⟨e,q,K,O⟩,by omega,λ e q=>q⟩
 .have a0:=PT (by omega) E;have I:pk.length<=711:=by omega
  have Z:A8 pk<=3:=by have:=G8 I;unfold A8;omega
  have T:=J9 r.so (A8 pk) (by omega);have hc:=T.cnt;refine⟨r.sv J W I (AD8 J (by omega) E).1 U X,⟨_,List.mem_append_right _ (List.mem_singleton.2 rfl),rfl,rfl⟩,?_,λ e q=>List.mem_append_left _ q⟩;show a.A.L.count 0<=(AX a.A (A8 pk)).2.L.count 0+3;omega
def CT.save{U w b t c d M N r q a}(h:CT U w b t c d M N r q a)(W:FW a)(O:3<=a.A.L.count 0)(f E)(Z:Rd .u8 w E f)(hn:∀j,E.ownBlock=some j->j<w.heap.size/\¬U j)(X:By f)(T:1<=f.length/\f.length<=512):
 Calls prog 9 #[AW t,E] w λ e w'=>∃x I B,e=.returned (.tuple #[.agg #[.int .i64 x,.int .i64 (f.length:Int)],.bool I,.int .i64 0])/\G5 a B f x I/\J2 a B f x/\∃J,CT J w' b t c d M N r q B/\AD U w w'/\∀k,J k->U k\/w.heap.size<=k:=by
 refine(AFh X9 O f E w h.sz Z hn X T W).mono ?_;rintro e w' ⟨x,I,B,rfl,K,Y⟩;exact⟨x,I,B,rfl,K,K.ok W X T O,h.to Y⟩
def YR(n):By (List.replicate n 0):=λ i=>by grind
def ACV(w):Calls prog 15 #[] w λ e w'=>e=.returned (.bool true)/\Below w.heap.size w w':=by
 have ao:Hid (Calls prog 8 #[.int .i64 10] w λ e w'=>∃U b t c d M r q,e=.returned (.pointer (some ⟨b,0,none⟩))/\CT U w' b t c d M (50+10) r q (ck0 10)/\(∀k,U k->w.heap.size<=k)/\w.heap.size<=b/\Below w.heap.size w w'):=RJ 10 (by omega) (by omega) w;obtain⟨Y,bd⟩:=exN (List.replicate 100 (0:Int));have HZ:Hid (By Y/\Y.length=100):=by rw[<-bd];exact⟨YR 100,by simp⟩
 obtain⟨j0,L,ba,bb,bc⟩:=Dd.info
 go_enter func15,ntmps15
 go_wp2_with fail;refine ao.o.mono ?_;rintro e w1 ⟨U,b,t,c,d,M,r,q,rfl,hL,hU,hb,ay⟩;have HL:=z6 (And.intro hL (And.intro hU (And.intro hb ay)));clear hL hU hb ay ao;go_wp2_with(at_make;refine wpList_make_full w1 rfl (.const (.int .i64 100)) (.const (.int .i64 100)) 40 rfl 0 5 j0 _ 1 underlying40 L ba bb .i64 .i64 _ _ 100 rfl rfl rfl rfl (by rw[bc];omega) (by unfold maxLen;omega) (AI _) ?_)
 intro w2 ai az;have ac:Below w1.heap.size w1 w2:=(Below.refl _ _).grown az (AE _) (λ k e=>by cases e);have a6:Hid (AF .u8 5 w2 (.slice (some ⟨w1.heap.size,0,none⟩) 100 100) Y):=by rw[toList_madeCells_one]at ai;show w2.ownsRow _ _ _ _ _ _;rw[<-bd,zm0,List.map_replicate];exact ai
 have ap:=z6 (HL.o.1.below ac);have an:=z6 ac;have c3:=ap.o.c3;have au:Hid (Calls prog 9 #[AW t,.slice (some ⟨w1.heap.size,0,none⟩) 100 100] w2 λ e w'=>∃(x:Int)(a5:Bool)(J:Ab),e=.returned (.tuple #[.agg #[.int .i64 x,.int .i64 100],.bool a5,.int .i64 0])/\G5 (ck0 10) J Y x a5/\J2 (ck0 10) J Y x/\∃U',CT U' w' b t c d M (50+10) r q J/\AD U w2 w'/\∀k,U' k->U k\/w2.heap.size<=k):=by
  have:=ap.o.save (Rf 10 (by omega)) (by rw[Ns];omega) Y _ a6.o.rd (λ j L=>⟨a6.o.lt j L,λ e=>by
   simp only[Value.ownBlock,Option.some.injEq]at L;have:=HL.o.1.sz.ul j e;omega⟩) HZ.o.1 (by rw[HZ.o.2];omega)
  rw[HZ.o.2]at this;exact this
 clear ai az ac L ba bb bc;go_wp2_with fail;refine au.o.mono ?_;rintro e E ⟨x1,bq,a1,rfl,aj,b0,U3,aw,ak,ag⟩;obtain rfl:bq=false:=by
  rcases aj with⟨_,_,e,he,_⟩|⟨h,_⟩
  .cases he
  .exact h
 have am:∀j,(Value.slice (some ⟨w1.heap.size,0,none⟩) 100 100).ownBlock=some j->¬U j:=λ j L e=>by simp only[Value.ownBlock,Option.some.injEq]at L;have:=HL.o.1.sz.ul j e;omega
 have B:=z6 (And.intro b0 (And.intro aw (And.intro ak (And.intro ag (And.intro (a6.o.tch ak am) (λ j L=>Di ag (a6.o.lt j L) (am j L)))))));have be:Hid (a1.K.length=1):=by
  rcases aj with⟨h,_⟩|⟨_,_,pk,_,rfl,_⟩
  .cases h
  .rfl
 clear c3 aj b0 aw ak ag am au;have c3:(E.alloc (.cells #[.int .i64 x1,.int .i64 100] 28)).cell? ⟨b,3,none⟩=some (AW t):=(B.o.2.1.below ((Below.refl _ _).alloc (AE _) _)).c3;go_wp2_with fail;clear c3;obtain⟨W4,a8⟩:=exN (E.alloc (.cells #[.int .i64 x1,.int .i64 100] 28));have a3:Below E.heap.size E W4:=by rw[<-a8];exact(Below.refl _ _).alloc (AE _) _
 have V3:Vr W4 E.heap.size 28 [.int .i64 x1,.int .i64 100]:=by rw[<-a8];exact CZ E _ _
 have aq:=z6 (B.o.2.1.below a3);have a2:=z6 (And.intro a3 V3);have c3:=aq.o.c3;have av:Hid (Calls prog 9 #[AW t,.slice (some ⟨w1.heap.size,0,none⟩) 100 100] W4 λ e w'=>∃(x:Int)(a5:Bool)(J:Ab),e=.returned (.tuple #[.agg #[.int .i64 x,.int .i64 100],.bool a5,.int .i64 0])/\G5 a1 J Y x a5/\J2 a1 J Y x/\∃U',CT U' w' b t c d M (50+10) r q J/\AD U3 W4 w'/\∀k,U' k->U3 k\/W4.heap.size<=k):=by have:=aq.o.save B.o.1.ok (by have:=B.o.1.fr;rw[Ns]at this;omega) Y _ (B.o.2.2.2.2.1.rd.below a3) (λ j L=>⟨(B.o.2.2.2.2.1.below a3).lt j L,B.o.2.2.2.2.2 j L⟩) HZ.o.1 (by rw[HZ.o.2];omega);rw[HZ.o.2]at this;exact this
 rw[a8];clear a8 a3 V3 c3;refine av.o.mono ?_;rintro e T ⟨I,br,J,rfl,b9,bm,U5,ax,ab,b6⟩;obtain⟨rfl,rfl,rfl⟩:br=true/\J=a1/\I=x1:=by
  obtain⟨f,hf,aa,ae⟩:=B.o.1.kn;rcases b9 with⟨h1,h2,e,he,hd,hb⟩|⟨_,h,_⟩
  .refine⟨h1,h2,?_⟩;rw[<-hb,<-ae,B.o.1.ok.uniq he hf (.inl (by rw[hd,aa]))]
  .exact absurd aa (h f hf)
 have b8:¬U3 E.heap.size:=λ e=>by have:=B.o.2.1.sz.ul _ e;omega
 have X:=z6 (And.intro ax (And.intro (a2.o.2.tch ab b8) (And.intro ab b6)));have bh:Hid (E.heap.size<T.heap.size/\E.heap.size<W4.heap.size):=⟨Ao a2.o.2.lt ab.size,a2.o.2.lt⟩
 clear b9 bm ax ab b6 b8 av;have c3:=X.o.1.c3;have z0:=(X.o.2.1.at 0).trans rfl;have z1:=(X.o.2.1.at 1).trans rfl;have c4:(T.alloc (.cells #[.int .i64 I,.int .i64 100] 28)).cell? ⟨b,3,none⟩=some (AW t):=(X.o.1.below ((Below.refl _ _).alloc (AE _) _)).c3
 go_upto_region 7 with fail
 obtain⟨A,a9⟩:=exN (T.alloc (.cells #[.int .i64 I,.int .i64 100] 28));have a7:Below T.heap.size T A:=by rw[<-a9];exact(Below.refl _ _).alloc (AE _) _
 have V6:Vr A T.heap.size 28 [.int .i64 I,.int .i64 100]:=by rw[<-a9];exact CZ T _ _
 have b7:∀k,U5 k->w.heap.size<=k:=λ k hk=>by have s1:=HL.o.2.2.2.size;have s2:=an.o.size;have s3:=B.o.2.2.1.size;have s4:=a2.o.1.size;rcases X.o.2.2.2 k hk with e|e;rcases B.o.2.2.2.1 k e with e|e;exact HL.o.2.1 k e;omega;omega
 have bi:=z6 b7;have Z:Hid (CT U5 A b t c d M (50+10) r q J/\Vr A E.heap.size 28 [.int .i64 I,.int .i64 100]/\Vr A T.heap.size 28 [.int .i64 I,.int .i64 100]/\Below w.heap.size w A):=by refine⟨X.o.1.below a7,X.o.2.1.on a7,V6,?_⟩;have b1:=HL.o.2.2.2;have b2:=b1.trans (an.o.mono b1.size);have b3:=b2.trans (B.o.2.2.1.below b2.size (λ k e=>HL.o.2.1 k e));have b4:=b3.trans (a2.o.1.mono b3.size);have b5:=b4.trans (X.o.2.2.1.below b4.size (λ k e=>(B.o.2.2.2.1 k e).elim (λ e=>HL.o.2.1 k e) (λ e=>by have:=b2.size;omega)));exact b5.trans (a7.mono b5.size)
 have ar:Hid (¬U5 E.heap.size/\¬U5 T.heap.size):=⟨λ e=>(X.o.2.2.2 _ e).elim (λ e=>by have:=B.o.2.1.sz.ul _ e;omega) (λ e=>by have:=bh.o.2;omega),λ e=>by have:=X.o.1.sz.ul _ e;omega⟩
 have bg:Hid (Calls prog 13 #[AW t,.agg #[.int .i64 I,.int .i64 100]] A.drew λ e w'=>∃dv,e=.returned (.tuple #[dv,.int .i64 0])/\∃U',Rw U5 A.drew t c d M (50+10) J U' w'/\Nw A.drew.heap.size w' dv Y/\∀j,dv.ownBlock=some j->¬U' j):=by obtain⟨f,hf,aa,ae⟩:=B.o.1.kn;have af:=B.o.1.ok.ld f hf;rw[aa,ae,HZ.o.2]at af;have:=AGx I 100 A.drew (Z.o.1.below ((Below.refl A.heap.size A).drew)).sz;rw[show((100:Nat):Int)=100 from rfl]at af;rw[af]at this;exact this
 rw[a9];clear a9 a7 V6 b7 c3 c4 z0 z1
 go_cut [9,10] (λ v9 bp wx=>∃(da:Option Addr)(dc:Nat),v9=.slice da 100 dc/\bp=.int .i64 0/\∃U8,Hid (CT U8 wx b t c d M (50+10) r q J/\Vr wx E.heap.size 28 [.int .i64 I,.int .i64 100]/\Vr wx T.heap.size 28 [.int .i64 I,.int .i64 100]/\Below w.heap.size w wx))
 case first=>
  go_wp2_with fail;have bo:prog.follows .mixedOrders=true:=by kernel_rfl
  refine Dz (S:=λ W=>W.cell? ⟨b,3,none⟩=some (AW t)/\W.cell? ⟨E.heap.size,0,none⟩=some (.int .i64 I)/\W.cell? ⟨E.heap.size,1,none⟩=some (.int .i64 100)) (t:=10) bo ?_;have a4:A.drew.cell? ⟨b,3,none⟩=some (AW t)/\A.drew.cell? ⟨E.heap.size,0,none⟩=some (.int .i64 I)/\A.drew.cell? ⟨E.heap.size,1,none⟩=some (.int .i64 100):=⟨Z.o.1.c3,(Z.o.2.1.at 0).trans rfl,(Z.o.2.1.at 1).trans rfl⟩
  refine AO 0 (some 36) (.move (.tmp 1)) (Value.pointer (some ⟨b,0,none⟩)) a4 ?_;simp only[zq];refine AO 1 (some 37) (.nilCheck (.tmp 36)) (Value.pointer (some ⟨b,0,none⟩)) a4 ?_;simp only[zq];refine AO 2 (some 38) (.fieldAddr 38 (.tmp 37) 3) (Value.pointer (some ⟨b,3,none⟩)) a4 ?_;simp only[zq];refine AO 3 (some 39) (.load 34 (.tmp 38)) (AW t) a4 ?_;simp only[zq];refine AO 4 (some 40) (.load 28 (.tmp 3)) (Value.agg #[.int .i64 I,.int .i64 100]) a4 ?_;simp only[zq];refine Ae 5 (some 41) (.call { callee:=.value (.func 13),args:=#[.tmp 39,.tmp 40],argTypes:=#[34,28] }) ?_;rintro o K hd ho hg hK
  refine Dp (enters_of func13 (by kernel_rfl) rfl) ho (vs:=#[AW t,.agg #[.int .i64 I,.int .i64 100]]) (by kernel_rfl) bg.o ?_;rintro e W7 ⟨dv,he,U7,r7,bn,bw⟩;obtain⟨da,dc,rfl⟩:∃a c,dv=.slice a 100 c:=by obtain⟨a,c,e,_⟩:=bn.rd;exact⟨a,c,by rw[e,HZ.o.2]⟩
  refine⟨_,he,?_⟩;rw[hd];have ad:Below A.heap.size A A.drew:=(Below.refl A.heap.size A).drew;obtain⟨U8,a0,al,bu⟩:=(Z.o.1.below ad).to r7.szTo;have O:=(Z.o.2.1.on ad).tch al ar.o.1;have bk:=(Z.o.2.2.1.on ad).tch al ar.o.2;refine hK _ _ (λ _=>⟨a0.c3,(O.at 0).trans rfl,(O.at 1).trans rfl⟩) ?_;clear ho hd hg hK he;simp only[zq];refine AO 6 (some 35) (.move (.tmp 41)) (Value.tuple #[.slice da 100 dc,.int .i64 0]) ⟨a0.c3,(O.at 0).trans rfl,(O.at 1).trans rfl⟩ ?_;simp only[zq];refine AO 7 (some 42) (.extract (.tmp 35) 0) (Value.slice da 100 dc) ⟨a0.c3,(O.at 0).trans rfl,(O.at 1).trans rfl⟩ ?_;simp only[zq]
  refine AO 8 (some 43) (.extract (.tmp 35) 1) (Value.int .i64 0) ⟨a0.c3,(O.at 0).trans rfl,(O.at 1).trans rfl⟩ ?_;simp only[zq];refine AO 9 (some 9) (.assign (.tmp 42)) (Value.slice da 100 dc) ⟨a0.c3,(O.at 0).trans rfl,(O.at 1).trans rfl⟩ ?_;simp only[zq];refine Ae 10 (some 10) (.assign (.tmp 43)) ?_;rintro o K hd ho hg hK;refine ES (v:=.int .i64 0) (by unfold execOp;simp only[ho];go_simp) ?_;rw[hd];refine hK _ _ (λ e=>absurd rfl e) ?_;refine Cx (by kernel_rfl) ?_ _;clear ho hd hg hK;simp only[zq]
  have bj:Hid (CT U8 W7 b t c d M (50+10) r q J/\Vr W7 E.heap.size 28 [.int .i64 I,.int .i64 100]/\Vr W7 T.heap.size 28 [.int .i64 I,.int .i64 100]/\Below w.heap.size w W7):=⟨a0,O,bk,Z.o.2.2.2.trans (((AD.of_below (S:=U5) ((Below.refl A.heap.size A).drew)).trans al (λ _ _ e=>e)).below Z.o.2.2.2.size bi.o)⟩
  go_wp2_with fail
  go_meet
  exact⟨da,dc,rfl,rfl,U8,bj.o⟩
 case rest=>
  obtain⟨da,dc,rfl,rfl,U8,HR⟩:=hcut;have c3:=HR.o.1.c3;have z0:=(HR.o.2.1.at 0).trans rfl;have z1:=(HR.o.2.1.at 1).trans rfl;have y0:=(HR.o.2.2.1.at 0).trans rfl;have y1:=(HR.o.2.2.1.at 1).trans rfl;have bf:Hid (Calls prog 18 #[AW t] wc λ e w'=>e=.returned (.int .i64 1)/\w'=wc):=by have:=ABr wc HR.o.1.sz;rw[be.o]at this;exact this
  go_wp2_with fail;refine bf.o.mono ?_;rintro e w' ⟨rfl,hw⟩;subst hw;go_wp2_with fail;go_ret;exact⟨rfl,HR.o.2.2.2⟩
structure Sv(w W:World)(U:Nat->Prop)(b t c d M N r q:Nat)(a:Ab):Prop where
 lk:CT U W b t c d M N r q a
 un:∀k,U k->w.heap.size<=k
 bn:w.heap.size<=b
 bl:Below w.heap.size w W
 ok:FW a
def Qw(a a2:Ab)(ds:List Int)(x n:Int)(was:Bool)(er:Int):Prop:=
 (er=0/\(1<=ds.length/\ds.length<=512)/\n=(ds.length:Int)/\G5 a a2 ds x was/\J2 a a2 ds x)\/(er=1/\was=false/\x=0/\n=0/\a2=a/\(ds.length<1\/512<ds.length))
section
variable {w W W':World} {U:Nat->Prop} {b t c d M N r q:Nat} {a a':Ab}
def Sv.tch(h:Sv w W U b t c d M N r q a){S}(f:AD S W W')(B:∀k,U k->¬S k)(A:¬S b)(E:∀k,S k->w.heap.size<=k):Sv w W' U b t c d M N r q a:=
 ⟨h.lk.tch f B A,h.un,h.bn,h.bl.trans (f.below h.bl.size E),h.ok⟩
def Sv.on(h:Sv w W U b t c d M N r q a)(f:Below W.heap.size W W'):Sv w W' U b t c d M N r q a:=h.tch (S:=λ _=>False) (AD.of_below f) (λ _ _ e=>e) (λ e=>e) (λ _ e=>e.elim)
def Sv.c3(h:Sv w W U b t c d M N r q a):W.cell? ⟨b,3,none⟩=some (AW t):=h.lk.c3
def Sv.cin(h:Sv w W U b t c d M N r q a){p v}(f:w.cell? p=some v):W.cell? p=some v:=(h.bl.cell (zb0 w p f)).trans f
def Sv.save(h:Sv w W U b t c d M N r q a)(h3:3<=a.A.L.count 0)(f B)(K:Rd .u8 W B f)(hn:f≠[]->∀j,B.ownBlock=some j->¬U j)(hy:By f):
 Calls prog 9 #[AW t,B] W λ e w'=>∃x n J T I,e=.returned (.tuple #[.agg #[.int .i64 x,.int .i64 n],.bool J,.int .i64 T])/\Qw a I f x n J T/\∃E,Sv w w' E b t c d M N r q I/\AD U W w'/\∀k,E k->U k\/W.heap.size<=k:=by
 by_cases hl:1<=f.length/\f.length<=512
 .have X:f≠[]:=λ e=>by grind
  refine(h.lk.save h.ok h3 f B K (λ j hj=>⟨K.blk_lt X hj,hn X j hj⟩) hy hl).mono ?_;rintro e w' ⟨x,J,I,rfl,h1,Y,E,l,tt,hu⟩;exact⟨x,_,J,0,I,rfl,.inl ⟨rfl,hl,rfl,h1,Y⟩,E,⟨l,λ k O=>(hu k O).elim (h.un k) (λ e=>Aw h.bl.size e),h.bn,h.bl.trans (tt.below h.bl.size h.un),Y.ok⟩,tt,hu⟩
 .refine(AFi B f.length W h.lk.sz (by obtain⟨x,c,e,_⟩:=K;grind) (by omega)).mono ?_;rintro e w' ⟨rfl,Z⟩;exact⟨0,0,false,1,a,rfl,.inr ⟨rfl,rfl,rfl,rfl,rfl,by omega⟩,U,h.on Z,AD.of_below Z,λ k O=>.inl O⟩
def Sv.blocks(h:Sv w W U b t c d M N r q a){A}(J:A∈a.K):
 Calls prog 16 #[AW t,.agg #[.int .i64 A.b,.int .i64 (A.ds.length:Int)]] W λ e w'=>∃E,e=.returned (.tuple #[E,.int .i64 0])/\AF .i64 3 w' E A.bl/\∃f,Sv w w' f b t c d M N r q a/\(AD U W w'/\∀k,f k->U k\/W.heap.size<=k)/\∀j,E.ownBlock=some j->¬f j/\W.heap.size<=j:=by
 obtain⟨pk,hr,_⟩:=Rh (h.ok.ld A J);refine(AGv A.b _ W h.lk.sz).mono ?_;rw[hr];rintro e w' ⟨E,rfl,f,B,T,O⟩;obtain⟨l,tt,I⟩:CT f w' b t c d M N r q a/\AD U W w'/\∀k,f k->U k\/W.heap.size<=k:=⟨⟨h.lk.bx.tch B.ch h.lk.nb,B.sz,Di B.nw h.lk.bx.lt h.lk.nb⟩,B.ch,B.nw⟩
 exact⟨E,rfl,T,f,⟨l,λ k L=>(I k L).elim (h.un k) (λ e=>Aw h.bl.size e),h.bn,h.bl.trans (tt.below h.bl.size h.un),h.ok⟩,⟨tt,I⟩,O⟩
def Sv.takenC(h:Sv w W U b t c d M N r q a)(x):Calls prog 17 #[mp M,.int .i64 x] W λ e w'=>e=.returned (.bool (decide (0<Ah.stvA a.A x)))/\w'=W:=by obtain⟨B,E,f,I,X,S,Y,Z,s,D,z⟩:=h.lk.sz;exact AHY M a.A Y x W z.pm
end
def AGt(n:Nat)(A:1<=n)(f:n<=4000)(w):Calls prog 8 #[.int .i64 (n:Int)] w λ e w'=>∃U b t c d M r q,e=.returned (.pointer (some ⟨b,0,none⟩))/\Sv w w' U b t c d M (50+n) r q (ck0 n):=by refine(RJ n A f w).mono ?_;rintro e w' ⟨U,b,t,c,d,M,r,q,rfl,l,I,B,E⟩;exact⟨U,b,t,c,d,M,r,q,rfl,⟨l,I,B,E,Rf n f⟩⟩
def AIU{f q o a w Q}(A:o.guard=none)(B:o.op=.alloc 49)(h:∀W,Iv W w.heap.size 49 250 (λ _=>0)->Below w.heap.size w W->wpList prog f Q q (a.put o.dst (.pointer (some ⟨w.heap.size,0,none⟩))) W):wpList prog f Q (o::q) a w:=by
 refine wpList_plain A λ K r=>?_;have E:(execOp a.eval o).run prog w=.ok (Next.value (.pointer (some ⟨w.heap.size,0,none⟩))) (w.alloc (.cells (Au 250 (λ _=>0)).toArray 49)):=by
  unfold execOp;simp only[B]
  kernel_rfl
 unfold Oper.wp;simp only[E,Oper.upon];exact r _ _ (h _ (IC w _ 250 _) ((Below.refl _ _).alloc (AE _) _))
def G5.new{a f A x}(h:G5 a f A x false)(B:FW f):∃q∈f.K,q.b=x/\q.ds=A/\(∀e∈a.K,∀y∈e.bl,y∉q.bl)/\∀e∈f.K,e∈a.K\/e=q:=by
 rcases h with⟨h,_⟩|⟨_,I,pk,J,rfl,rfl⟩
 .cases h
 .refine⟨_,List.mem_append_right _ (List.mem_singleton.2 rfl),rfl,rfl,λ e r y E=>?_,λ e r=>(zf0.1 r).imp id (λ h=>List.mem_singleton.1 h)⟩;exact(List.pairwise_append.1 B.dj).2.2 e r _ (List.mem_singleton.2 rfl) y E
def Sv.range{w W U b t c d M N r q a}(h:Sv w W U b t c d M N r q a){e}(f:e∈a.K){y}(B:y∈e.bl):50<=y/\y<(N:Int):=by have I:=h.ok.tk e f y B;obtain⟨i,L,E,_⟩:=Ah.stv_idx (s:=a.A) (n:=y) (by omega);have J:=h.lk.sz.lo;omega
def chunksApart_walk(v ak w)(hr:RdL w v ak)(hb:∀y∈ak,By y):
 Calls prog 4 #[v] w λ e w'=>e=.returned (.bool true)/\Below w.heap.size w w':=by
 obtain⟨va,vc,rfl,ct,c9,c5⟩:=id hr;obtain⟨rn,ap⟩:=exN ak.length;have d4:=z6 ap;have cf:Hid (∀k,k<rn->∃T lo,va=some ⟨T,lo,none⟩/\∃u,w.cell? ⟨T,lo+k,none⟩=some u/\Rd .u8 w u (ak.getD k [])/\By (ak.getD k [])):=λ k hk=>by
  rcases c5 with e|⟨T,lo,e,hc⟩
  .rw[e]at ap;simp at ap;omega
  .obtain⟨u,h1,h2⟩:=hc k (by omega);refine⟨T,lo,e,u,h1,h2,hb _ ?_⟩;rw[AP,z9 (by omega)];simp
 have bb:Hid (Calls prog 8 #[.int .i64 200] w λ e w'=>∃U b t c d M r q,e=.returned (.pointer (some ⟨b,0,none⟩))/\Sv w w' U b t c d M (50+200) r q (ck0 200)):=AGt 200 (by omega) (by omega) w;rw[ap];have db:vc<=9223372036854775807:=by unfold maxLen at c9;omega
 clear hr hb c5 ct c9 ap
 go_enter func4,ntmps4
 go_wp2_with fail;refine bb.o.mono ?_;rintro e w1 ⟨U1,b,t,c,d,M,r,q0,rfl,aa⟩;have b2:=z6 aa;clear aa bb;go_wp2_with(with_reducible (show wpList _ _ _ (Oper.mk _ (Op.alloc 49) _ _ _ _::_) _ _);refine AIU rfl rfl ?_)
 intro w2 br bj;have ae:Hid (Sv w w2 U1 b t c d M (50+200) r q0 (ck0 200)/\Iv w2 w1.heap.size 49 250 (λ _=>0)/\¬U1 w1.heap.size/\w.heap.size<=w1.heap.size):=⟨b2.o.on bj,br,λ e=>by have:=b2.o.lk.sz.ul _ e;omega,b2.o.bl.size⟩
 clear br bj;obtain⟨J,a8⟩:=exN w1.heap.size;rw[a8]at ae |-
 clear a8;obtain⟨N,hN⟩:=exN (50+200);have HN:=z6 hN;rw[hN]at ae;clear hN;go_wp2_with fail
 go_loopw [5] (λ kv wr=>∃(k:Nat)(U:Nat->Prop)(a:Ab)(sn:Nat->Int),k<=60/\k<=rn/\kv=.int .i64 (k:Int)/\Hid (Sv w wr U b t c d M N r q0 a/\Iv wr J 49 250 sn/\¬U J/\w.heap.size<=J/\200<=a.A.L.count 0+3*k/\∀y:Nat,y<250->sn y≠0->∃e∈a.K,(y:Int)∈e.bl)) (λ kv _=>60-(intOf kv).toNat)
 case atStart=>exact⟨0,U1,ck0 200,λ _=>0,by omega,AI _,rfl,ae.o.1,ae.o.2.1,ae.o.2.2.1,ae.o.2.2.2,by rw[Ns];omega,λ y _ h=>absurd rfl h⟩
 case round=>
  obtain⟨k,U,a,sn,hk,d7,rfl,HI⟩:=hrel;have bf:Hid (∀W,Below w.heap.size w W->Calls prog 15 #[] W λ e w'=>e=.returned (.bool true)/\Below w.heap.size w w'):=λ W h=>(ACV W).mono (λ e w' ⟨h1,h2⟩=>⟨h1,h.trans (h2.mono h.size)⟩);by_cases h1:k<rn;case neg=>(have bi:¬(k:Int)<(rn:Int):=by omega);go_wp2_with fail;refine(bf.o wr HI.o.1.bl).mono ?_;rintro e w' ⟨rfl,hb⟩;go_wp2_with fail;go_ret;exact⟨rfl,hb⟩
  by_cases h2:k<60
  case neg=>(have bi:(k:Int)<(rn:Int):=by omega);(have cl:¬(k:Int)<60:=by omega);go_wp2_with fail;refine(bf.o wr HI.o.1.bl).mono ?_;rintro e w' ⟨rfl,hb⟩;go_wp2_with fail;go_ret;exact⟨rfl,hb⟩
  have bi:(k:Int)<(rn:Int):=by omega
  have cl:(k:Int)<60:=by omega
  obtain⟨T,lo,rfl,u,b7,ao,b3⟩:=cf.o k h1;obtain⟨ds,bn⟩:=exN (ak.getD k []);rw[bn]at ao b3;obtain⟨pa,pn,pc,rfl⟩:∃a n c,u=.slice a n c:=by obtain⟨a,c,e,_⟩:=ao;exact⟨_,_,_,e⟩
  have HK:=z6 HI.o.1;have H3:Hid (3<=a.A.L.count 0):=by show _<=_;have:=HI.o.2.2.2.2.1;omega
  have bu:T<w.heap.size:=zb0 w ⟨T,lo+k,none⟩ b7;have a4:Hid (T<wr.heap.size/\¬U T):=⟨Ao bu HK.o.bl.size,λ e=>by have:=HK.o.un T e;omega⟩
  have cy:wr.cell? ⟨T,lo+k,none⟩=some (.slice pa pn pc):=HK.o.cin b7;have bg:Hid (ds≠[]->∀j,(Value.slice pa pn pc).ownBlock=some j->¬U j):=λ h0 j hj e=>by have:=HK.o.un j e;have:=ao.blk_lt h0 hj;omega
  have bh:Hid (Rd .u8 wr (.slice pa pn pc) ds):=ao.below HK.o.bl;have be:=AU b3;clear bn ao b3 b7 bu
  go_upto_region 8 with fail
  go_cut [6,7,8] (λ v6 v7 v8 wx=>∃(q:Nat)(a1:Bool)(er:Int),v6=.pointer (some ⟨q,0,none⟩)/\v7=.bool a1/\v8=.int .i64 er/\Hid (∃(x nx:Int)(Y:Ab)(X:Nat->Prop),Qw a Y ds x nx a1 er/\Sv w wx X b t c d M N r q0 Y/\Vr wx q 28 [.int .i64 x,.int .i64 nx]/\¬X q/\wr.heap.size<=q/\AD U wr wx/\∀k,X k->U k\/wr.heap.size<=k))
  case first=>
   go_wp2_with fail;(have ba:prog.follows .mixedOrders=true:=by kernel_rfl);refine Dz (S:=λ W=>W.cell? ⟨b,3,none⟩=some (AW t)/\W.cell? ⟨T,lo+k,none⟩=some (.slice pa pn pc)) (t:=16) ba ?_;have a7:Below wr.heap.size wr wr.drew:=(Below.refl wr.heap.size wr).drew;have a3:=HK.o.on a7;have a5:wr.drew.cell? ⟨T,lo+k,none⟩=some (.slice pa pn pc):=cy;refine AO 0 (some 26) (.move (.tmp 3)) (Value.pointer (some ⟨b,0,none⟩)) ⟨a3.c3,a5⟩ ?_;simp only[zq];refine AO 1 (some 27) (.nilCheck (.tmp 26)) (Value.pointer (some ⟨b,0,none⟩)) ⟨a3.c3,a5⟩ ?_;simp only[zq];refine AO 2 (some 28) (.fieldAddr 38 (.tmp 27) 3) (Value.pointer (some ⟨b,3,none⟩)) ⟨a3.c3,a5⟩ ?_;simp only[zq]
   refine AO 3 (some 29) (.load 34 (.tmp 28)) (AW t) ⟨a3.c3,a5⟩ ?_;simp only[zq];refine AO 4 (some 30) (.move (.tmp 0)) (Value.slice (some ⟨T,lo,none⟩) rn vc) ⟨a3.c3,a5⟩ ?_;simp only[zq];refine AO 5 (some 31) (.move (.tmp 5)) (Value.int .i64 (k:Int)) ⟨a3.c3,a5⟩ ?_;simp only[zq];refine AO 6 (some 32) (.indexAddr 22 (.tmp 30) (.tmp 31)) (Value.pointer (some ⟨T,lo+k,none⟩)) ⟨a3.c3,a5⟩ ?_;simp only[zq];refine AO 7 (some 33) (.load 40 (.tmp 32)) (Value.slice pa pn pc) ⟨a3.c3,a5⟩ ?_;simp only[zq];refine Mj 8 13 (some 34) (.call { callee:=.value (.func 9),args:=#[.tmp 29,.tmp 33],argTypes:=#[34,40] }) (some 6) (.alloc 28) rfl rfl (by kernel_rfl) ?_ ?_
   .rintro o K E I hg B;refine Dp (enters_of func9 (by kernel_rfl) rfl) I (vs:=#[AW t,(.slice pa pn pc)]) (by kernel_rfl) (a3.save H3.o ds (.slice pa pn pc) (bh.o.below a7) bg.o be.o) ?_;rintro e W2 ⟨x,nx,a1,er,Y,he,aa,X,k2,z2,z3⟩;refine⟨_,he,?_⟩;rw[E];have a2:=(z2.cell (p:=⟨T,lo+k,none⟩) (Ao a4.o.1 a7.size) a4.o.2).trans a5;have t2:=(AD.of_below (S:=U) a7).trans z2 (λ _ _ e=>e);have u2:∀k,X k->U k\/wr.heap.size<=k:=λ k e=>(z3 k e).imp id (λ e=>Aw a7.size e);refine B _ _ (λ _=>⟨k2.c3,a2⟩) ?_;clear I E hg B he;simp only[zq];refine AO 9 (some 25) (.move (.tmp 34)) (Value.tuple #[.agg #[.int .i64 x,.int .i64 nx],.bool a1,.int .i64 er]) ⟨k2.c3,a2⟩ ?_;simp only[zq]
    refine AO 10 (some 35) (.extract (.tmp 25) 0) (Value.agg #[.int .i64 x,.int .i64 nx]) ⟨k2.c3,a2⟩ ?_;simp only[zq];refine AO 11 (some 36) (.extract (.tmp 25) 1) (Value.bool a1) ⟨k2.c3,a2⟩ ?_;simp only[zq];refine AO 12 (some 37) (.extract (.tmp 25) 2) (Value.int .i64 er) ⟨k2.c3,a2⟩ ?_;simp only[zq];refine Ae 13 (some 6) (.alloc 28) ?_;rintro o K E I hg B;refine NJ I ?_;rintro W3 q hq b9 a9;rw[E];have k3:=k2.on a9;have aq:=(a9.cell (p:=⟨T,lo+k,none⟩) (Ao a4.o.1 t2.size)).trans a2;have v3:Vr W3 q 28 [.int .i64 0,.int .i64 0]/\¬X q/\wr.heap.size<=q:=⟨b9,λ e=>by have:=k2.lk.sz.ul q e;omega,by have:=t2.size;omega⟩
    have t3:=t2.trans (AD.of_below (S:=U) a9) (λ _ _ e=>e);refine B _ _ (λ _=>⟨k3.c3,aq⟩) ?_;clear I E hg B;simp only[zq];refine Ae 14 none (.store 28 (.tmp 6) (.tmp 35)) ?_;rintro o K E I hg B;refine GP (cs:=[.int .i64 0,.int .i64 0]) (vs:=[.int .i64 x,.int .i64 nx]) I rfl rfl v3.1 rfl Iu (by simp[Value.oneCell']) ?_;rw[E];have tq:=GM W3 q [.int .i64 x,.int .i64 nx] 0;have cm:=HK.o.lk.bx.lt;have cn:=HK.o.bl.size;have k4:=k3.tch tq (λ k hk e=>v3.2.1 (by rw[<-e];exact hk)) (λ e=>by have:=v3.2.2;omega) (λ k e=>by have:=v3.2.2;omega);have ar:=(tq.cell (p:=⟨T,lo+k,none⟩) (Ao a4.o.1 t3.size) (λ e=>by have h1:=a4.o.1;have h2:=v3.2.2;simp only at e h1;omega)).trans aq
    have v4:Vr (W3.setCells q 0 [.int .i64 x,.int .i64 nx]) q 28 [.int .i64 x,.int .i64 nx]/\¬X q/\wr.heap.size<=q:=⟨v3.1.put _ rfl,v3.2⟩
    have t4:=t3.trans tq (λ k hk e=>by have:=v3.2.2;exfalso;omega);refine B _ _ (λ _=>⟨k4.c3,ar⟩) ?_;clear I E hg B;simp only[zq];refine AO 15 (some 7) (.assign (.tmp 36)) (Value.bool a1) ⟨k4.c3,ar⟩ ?_;simp only[zq];refine Ae 16 (some 8) (.assign (.tmp 37)) ?_;rintro o K E I hg B;refine ES (v:=.int .i64 er) (by unfold execOp;simp only[I];go_simp) ?_;rw[E];refine B _ _ (λ e=>absurd rfl e) ?_;refine Cx (by kernel_rfl) ?_ _;clear I E hg B;simp only[zq];have a6:=z6 (And.intro aa (And.intro k4 (And.intro v4.1 (And.intro v4.2.1 (And.intro v4.2.2 (And.intro t4 u2))))));generalize (W3.setCells q 0 [.int .i64 x,.int .i64 nx])=WF at a6 |-
    go_wp2_with fail
    go_meet
    exact⟨q,a1,er,rfl,rfl,rfl,z6 ⟨x,nx,Y,X,a6.o⟩⟩
   .rintro o K E I hg B;refine NJ I ?_;rintro W3 q hq b9 a9;rw[E];have k3:=a3.on a9;have aq:=(a9.cell (p:=⟨T,lo+k,none⟩) (Ao a4.o.1 a7.size)).trans a5;have v3:Vr W3 q 28 [.int .i64 0,.int .i64 0]/\¬U q/\wr.heap.size<=q:=⟨b9,λ e=>by have:=a3.lk.sz.ul q e;omega,by have:=a7.size;omega⟩
    have au:=a7.trans (a9.mono a7.size);refine B _ _ (λ _=>⟨k3.c3,aq⟩) ?_;clear I E hg B;simp only[zq];refine Ae 8 (some 34) (.call { callee:=.value (.func 9),args:=#[.tmp 29,.tmp 33],argTypes:=#[34,40] }) ?_;rintro o K E I hg B;refine Dp (enters_of func9 (by kernel_rfl) rfl) I (vs:=#[AW t,(.slice pa pn pc)]) (by kernel_rfl) (k3.save H3.o ds (.slice pa pn pc) (bh.o.below au) bg.o be.o) ?_;rintro e W2 ⟨x,nx,a1,er,Y,he,aa,X,k2,z2,z3⟩;refine⟨_,he,?_⟩;rw[E];have a2:=(z2.cell (p:=⟨T,lo+k,none⟩) (Ao a4.o.1 au.size) a4.o.2).trans aq;have t2:=(AD.of_below (S:=U) au).trans z2 (λ _ _ e=>e);have u2:∀k,X k->U k\/wr.heap.size<=k:=λ k e=>(z3 k e).imp id (λ e=>Aw au.size e)
    have v2:Vr W2 q 28 [.int .i64 0,.int .i64 0]/\¬X q/\wr.heap.size<=q:=⟨v3.1.tch z2 v3.2.1,Di z3 v3.1.lt v3.2.1,v3.2.2⟩
    refine B _ _ (λ _=>⟨k2.c3,a2⟩) ?_;clear I E hg B he;simp only[zq];refine AO 9 (some 25) (.move (.tmp 34)) (Value.tuple #[.agg #[.int .i64 x,.int .i64 nx],.bool a1,.int .i64 er]) ⟨k2.c3,a2⟩ ?_;simp only[zq];refine AO 10 (some 35) (.extract (.tmp 25) 0) (Value.agg #[.int .i64 x,.int .i64 nx]) ⟨k2.c3,a2⟩ ?_;simp only[zq];refine AO 11 (some 36) (.extract (.tmp 25) 1) (Value.bool a1) ⟨k2.c3,a2⟩ ?_;simp only[zq];refine AO 12 (some 37) (.extract (.tmp 25) 2) (Value.int .i64 er) ⟨k2.c3,a2⟩ ?_;simp only[zq];refine Ae 14 none (.store 28 (.tmp 6) (.tmp 35)) ?_;rintro o K E I hg B
    refine GP (cs:=[.int .i64 0,.int .i64 0]) (vs:=[.int .i64 x,.int .i64 nx]) I rfl rfl v2.1 rfl Iu (by simp[Value.oneCell']) ?_;rw[E];have tq:=GM W2 q [.int .i64 x,.int .i64 nx] 0;have cm:=HK.o.lk.bx.lt;have cn:=HK.o.bl.size;have k4:=k2.tch tq (λ k hk e=>v2.2.1 (by rw[<-e];exact hk)) (λ e=>by have:=v2.2.2;omega) (λ k e=>by have:=v2.2.2;omega);have ar:=(tq.cell (p:=⟨T,lo+k,none⟩) (Ao a4.o.1 t2.size) (λ e=>by have h1:=a4.o.1;have h2:=v2.2.2;simp only at e h1;omega)).trans a2;have v4:Vr (W2.setCells q 0 [.int .i64 x,.int .i64 nx]) q 28 [.int .i64 x,.int .i64 nx]/\¬X q/\wr.heap.size<=q:=⟨v2.1.put _ rfl,v2.2⟩
    have t4:=t2.trans tq (λ k hk e=>by have:=v2.2.2;exfalso;omega);refine B _ _ (λ _=>⟨k4.c3,ar⟩) ?_;clear I E hg B;simp only[zq];refine AO 15 (some 7) (.assign (.tmp 36)) (Value.bool a1) ⟨k4.c3,ar⟩ ?_;simp only[zq];refine Ae 16 (some 8) (.assign (.tmp 37)) ?_;rintro o K E I hg B;refine ES (v:=.int .i64 er) (by unfold execOp;simp only[I];go_simp) ?_;rw[E];refine B _ _ (λ e=>absurd rfl e) ?_;refine Cx (by kernel_rfl) ?_ _;clear I E hg B;simp only[zq];have a6:=z6 (And.intro aa (And.intro k4 (And.intro v4.1 (And.intro v4.2.1 (And.intro v4.2.2 (And.intro t4 u2))))));generalize (W2.setCells q 0 [.int .i64 x,.int .i64 nx])=WF at a6 |-
    go_wp2_with fail
    go_meet
    exact⟨q,a1,er,rfl,rfl,rfl,z6 ⟨x,nx,Y,X,a6.o⟩⟩
  case rest=>
   obtain⟨q,a1,er,rfl,rfl,rfl,HC⟩:=hcut;obtain⟨x,nx,Y,X,aa,ac,ai,ax,b8,ay,az⟩:=HC.o;have a8:=HI.o.2.1.tch ay HI.o.2.2.1;have ag:¬X J:=Di az HI.o.2.1.lt HI.o.2.2.1;rcases aa with⟨rfl,hl,bw,hc,hs⟩|⟨rfl,rfl,_,_,rfl,hl⟩
   (case inr=>have HF:=z6 (And.intro ac (And.intro a8 ag));clear HC ac ai ax b8 ay az a8 ag;go_wp2_with fail;exact⟨⟨k+1,X,Y,sn,by omega,by omega,rfl,z6 ⟨HF.o.1,HF.o.2.1,HF.o.2.2,HI.o.2.2.2.1,by have:=HI.o.2.2.2.2.1;omega,HI.o.2.2.2.2.2⟩⟩,by simp[intOf];omega⟩);(cases a1;case true=>have HF:=z6 (And.intro ac (And.intro a8 (And.intro ag hs)));clear HC ac ai ax b8 ay az a8 ag hs hc;go_wp2_with fail;exact⟨⟨k+1,X,Y,sn,by omega,by omega,rfl,z6 ⟨HF.o.1,HF.o.2.1,HF.o.2.2.1,HI.o.2.2.2.1,by have:=HI.o.2.2.2.2.1;have:=HF.o.2.2.2.fr;omega,λ y hy h=>by obtain⟨e,he,h1⟩:=HI.o.2.2.2.2.2 y hy h;exact⟨e,HF.o.2.2.2.le e he,h1⟩⟩⟩,by simp[intOf];omega⟩);case false=>
   obtain⟨f,aw,hx,bk,bm,bp⟩:=hc.new hs.ok;have ab:=hs.ok.bl f aw;have HE:=z6 (And.intro aw (And.intro bm (And.intro bp (And.intro ab hs))));have cc:Hid (Calls prog 16 #[AW t,.agg #[.int .i64 x,.int .i64 nx]] wc.drew λ e w'=>∃nv,e=.returned (.tuple #[nv,.int .i64 0])/\AF .i64 3 w' nv f.bl/\∃U',Sv w w' U' b t c d M N r q0 Y/\(AD X wc.drew w'/\∀k,U' k->X k\/wc.drew.heap.size<=k)/\∀j,nv.ownBlock=some j->¬U' j/\wc.drew.heap.size<=j):=by have:=(ac.on ((Below.refl wc.heap.size wc).drew)).blocks aw;rw[hx,bk,<-bw]at this;exact this
   have HD:=z6 (And.intro ac (And.intro ai (And.intro ax (And.intro a8 ag))));have z0:=(ai.at 0).trans rfl;have z1:=(ai.at 1).trans rfl;have HX:Hid (f.b=x):=hx;clear HC ac ai ax b8 ay az a8 ag hs hc aw hx bk bm bp ab bw
   go_upto_region 10 with fail
   go_cut [9,10] (λ v9 d3 wx=>∃(ng Z bc:Nat),v9=.slice (some ⟨ng,0,none⟩) Z bc/\d3=.int .i64 0/\Hid (Z=f.bl.length/\AF .i64 3 wx (.slice (some ⟨ng,0,none⟩) Z bc) f.bl/\∃U3,Sv w wx U3 b t c d M N r q0 Y/\Vr wx q 28 [.int .i64 x,.int .i64 nx]/\Iv wx J 49 250 sn/\¬U3 J/\ng≠J))
   case first=>
    go_wp2_with fail;(have ba:prog.follows .mixedOrders=true:=by kernel_rfl);refine Dz (S:=λ W=>W.cell? ⟨b,3,none⟩=some (AW t)/\W.cell? ⟨q,0,none⟩=some (.int .i64 x)/\W.cell? ⟨q,1,none⟩=some (.int .i64 nx)) (t:=10) ba ?_;have al:wc.drew.cell? ⟨b,3,none⟩=some (AW t)/\wc.drew.cell? ⟨q,0,none⟩=some (.int .i64 x)/\wc.drew.cell? ⟨q,1,none⟩=some (.int .i64 nx):=⟨HD.o.1.c3,z0,z1⟩
    refine AO 0 (some 44) (.move (.tmp 3)) (Value.pointer (some ⟨b,0,none⟩)) al ?_;simp only[zq];refine AO 1 (some 45) (.nilCheck (.tmp 44)) (Value.pointer (some ⟨b,0,none⟩)) al ?_;simp only[zq];refine AO 2 (some 46) (.fieldAddr 38 (.tmp 45) 3) (Value.pointer (some ⟨b,3,none⟩)) al ?_;simp only[zq];refine AO 3 (some 47) (.load 34 (.tmp 46)) (AW t) al ?_;simp only[zq];refine AO 4 (some 48) (.load 28 (.tmp 6)) (Value.agg #[.int .i64 x,.int .i64 nx]) al ?_;simp only[zq];refine Ae 5 (some 49) (.call { callee:=.value (.func 16),args:=#[.tmp 47,.tmp 48],argTypes:=#[34,28] }) ?_;rintro o K E I hg B
    refine Dp (enters_of func16 (by kernel_rfl) rfl) I (vs:=#[AW t,.agg #[.int .i64 x,.int .i64 nx]]) (by kernel_rfl) cc.o ?_;rintro e W7 ⟨nv,he,bz,U7,k7,⟨t7,u7⟩,cq⟩;have c4:0<f.bl.length:=by
     cases hh:f.bl with
     | nil=>have:=HE.o.2.2.2.1.1;rw[hh]at this;cases this
     | cons y l=>simp
    obtain⟨ng,bc,rfl,_⟩:=bz.shape c4;have V7:Vr W7 q 28 [.int .i64 x,.int .i64 nx]:=(HD.o.2.1.on ((Below.refl wc.heap.size wc).drew)).tch t7 HD.o.2.2.1;have I7:Iv W7 J 49 250 sn:=(HD.o.2.2.2.1.below ((Below.refl wc.heap.size wc).drew)).tch t7 HD.o.2.2.2.2;have N7:¬U7 J:=Di u7 HD.o.2.2.2.1.lt HD.o.2.2.2.2;(have G7:ng≠J:=λ e=>by have h1:=(cq ng rfl).2;have h2:=HD.o.2.2.2.1.lt;have h3:wc.drew.heap.size=wc.heap.size:=rfl;omega);refine⟨_,he,?_⟩;rw[E];refine B _ _ (λ _=>⟨k7.c3,(V7.at 0).trans rfl,(V7.at 1).trans rfl⟩) ?_;clear I E hg B he;simp only[zq]
    refine AO 6 (some 43) (.move (.tmp 49)) (Value.tuple #[Value.slice (some ⟨ng,0,none⟩) f.bl.length bc,.int .i64 0]) ⟨k7.c3,(V7.at 0).trans rfl,(V7.at 1).trans rfl⟩ ?_;simp only[zq];refine AO 7 (some 50) (.extract (.tmp 43) 0) (Value.slice (some ⟨ng,0,none⟩) f.bl.length bc) ⟨k7.c3,(V7.at 0).trans rfl,(V7.at 1).trans rfl⟩ ?_;simp only[zq];refine AO 8 (some 51) (.extract (.tmp 43) 1) (Value.int .i64 0) ⟨k7.c3,(V7.at 0).trans rfl,(V7.at 1).trans rfl⟩ ?_;simp only[zq];refine AO 9 (some 9) (.assign (.tmp 50)) (Value.slice (some ⟨ng,0,none⟩) f.bl.length bc) ⟨k7.c3,(V7.at 0).trans rfl,(V7.at 1).trans rfl⟩ ?_;simp only[zq];refine Ae 10 (some 10) (.assign (.tmp 51)) ?_;rintro o K E I hg B
    refine ES (v:=.int .i64 0) (by unfold execOp;simp only[I];go_simp) ?_;rw[E];refine B _ _ (λ e=>absurd rfl e) ?_;refine Cx (by kernel_rfl) ?_ _;clear I E hg B;simp only[zq];have a6:=z6 (And.intro bz (And.intro k7 (And.intro V7 (And.intro I7 (And.intro N7 G7)))));generalize W7=WF at a6 |-
    go_wp2_with fail
    go_meet
    exact⟨ng,_,bc,rfl,rfl,z6 ⟨rfl,a6.o.1,U7,a6.o.2⟩⟩
   case rest=>
    obtain⟨ng,Z,bc,rfl,rfl,HG⟩:=hcut;obtain⟨av,b6,U3,k3,v3,i3,n3,g3⟩:=HG.o;have ab:=HE.o.2.2.2.1;have c4:1<=Z/\Z<=3:=by
     refine⟨?_,by rw[av];exact ab.2.1⟩;rw[av];cases hh:f.bl with
     | nil=>have:=ab.1;rw[hh]at this;cases this
     | cons y l=>simp
    (have d5:decide ((Z:Int)<1)=false:=by rw[AT];omega);(have a9:decide (3<(Z:Int))=false:=by rw[AT];omega);(have d9:(0:Int)<(Z:Int):=by omega);(have da:¬Z=0:=by omega);obtain⟨cx,cg,en,_,_,_,am,_⟩:=b6.shape (by omega);simp only[Value.slice.injEq,Option.some.injEq,Addr.mk.injEq,and_true]at en;obtain⟨rfl,b4,rfl⟩:=en;clear b4;have bo:f.bl.getD 0 0=x:=by
     have:=ab.1;cases hh:f.bl with
     | nil=>rw[hh]at this;cases this
     | cons y l=>rw[hh]at this;simp at this;rw[<-HX.o,<-this];rfl
    (have c0:=am 0 (by omega);rw[bo]at c0;have cz:=(v3.at 0).trans rfl;have b0:Hid (∀n,Sv w (wc.drewN n) U3 b t c d M N r q0 Y/\Iv (wc.drewN n) J 49 250 sn/\AF .i64 3 (wc.drewN n) (.slice (some ⟨ng,0,none⟩) Z bc) f.bl):=λ n=>by have bd:Below wc.heap.size wc (wc.drewN n):=Below.of_drewN _ wc n;exact⟨k3.on bd,i3.below bd,b6.below bd⟩);(have af:Hid (¬U3 J/\ng≠J/\Z=f.bl.length/\b≠J):=by refine⟨n3,g3,av,λ e=>?_⟩;have e1:wc.heap[b]?=_:=k3.lk.bx;have e2:wc.heap[J]?=_:=i3;rw[e,e2]at e1;simp only[Option.some.injEq,Obj.cells.injEq]at e1;exact absurd e1.2.1 (by decide));clear b6 k3 v3 i3 n3 g3 ab am bo HG z0 z1 av
    go_upto_region 11 with fail
    go_quiet (fail);clear c0 cz;go_wp2_with fail
    go_loopw [11] (λ jv a0=>∃(j:Nat)(sj:Nat->Int),j<=Z/\jv=.int .i64 (j:Int)/\Hid (Sv w a0 U3 b t c d M N r q0 Y/\Iv a0 J 49 250 sj/\AF .i64 3 a0 (.slice (some ⟨ng,0,none⟩) Z bc) f.bl/\∀y:Nat,y<250->sj y≠0->(∃e∈a.K,(y:Int)∈e.bl)\/∃i,i<j/\f.bl.getD i 0=(y:Int))) (λ jv _=>Z-(intOf jv).toNat)
    (case atStart=>exact⟨0,sn,AI _,rfl,z6 ⟨(b0.o _).1,(b0.o _).2.1,(b0.o _).2.2,λ y hy h=>.inl (HI.o.2.2.2.2.2 y hy h)⟩⟩);case round=>
     obtain⟨a0,cv⟩:∃W,W=wr:=⟨_,rfl⟩
     subst cv;obtain⟨j,sj,hj,rfl,HJ⟩:=hrel;by_cases d8:j<Z
     .have d6:(j:Int)<(Z:Int):=by omega
      (have an:j<f.bl.length:=by have:=af.o.2.2.1;omega);(have aj:f.bl.getD j 0∈f.bl:=by rw[AP,z9 an];simp);have ca:=HJ.o.1.range HE.o.1 aj;(have hN:(N:Int)=250:=by have:=HN.o;omega);obtain⟨O,ad⟩:∃y:Nat,f.bl.getD j 0=(y:Int):=⟨(f.bl.getD j 0).toNat,by omega⟩
      rw[ad]at ca aj;have c6:sj O=0:=Classical.byContradiction λ h=>by
       rcases HJ.o.2.2.2 O (by omega) h with⟨e,he,hy⟩|⟨i,hi,b5⟩
       .exact HE.o.2.1 e he _ hy aj
       .have cr:=HE.o.2.2.2.1.2.2;have h1:f.bl[i]'(by omega)=f.bl[j]:=by rw[AP,z9 (by omega)]at b5;rw[AP,z9 an]at ad;simp only[Option.getD_some]at b5 ad;rw[b5,ad]
        have:=(List.getElem_inj cr).1 h1;omega
      (have c7:decide (0<Ah.stvA Y.A (O:Int))=true:=by have:=HE.o.2.2.2.2.ok.tk f HE.o.1 _ aj;rw[this];rfl);have HT:Hid (∀k,Calls prog 17 #[mp M,.int .i64 (O:Int)] (a0.drewN k) λ e w'=>e=.returned (.bool true)/\w'=a0.drewN k):=λ k=>by have:=(HJ.o.1.on (Below.of_drewN _ a0 k)).takenC (O:Int);rw[c7]at this;exact this
      obtain⟨cx,cg,en,_,_,_,am,_⟩:=HJ.o.2.2.1.shape (by omega);simp only[Value.slice.injEq,Option.some.injEq,Addr.mk.injEq,and_true]at en;obtain⟨rfl,b4,rfl⟩:=en;clear b4;have cj:=am j an;rw[ad]at cj;have sc:=HJ.o.2.1.at_ O (by omega);rw[c6]at sc;have ci:=HJ.o.1.lk.c2;(have de:decide ((O:Int)<50)=false:=by rw[AT];omega);(have dd:decide ((O:Int)>=250)=false:=by rw[AT];omega);(have df:(O:Int)<250:=by omega);have d1:a0.drew.frozen? ⟨J,O,none⟩=false:=(HJ.o.2.1.below ((Below.refl a0.heap.size a0).drew)).fz O;have HY:=z6 (And.intro ad (And.intro aj an));clear am c6 c7 ad aj ca an
      go_upto_region 16 with fail
      go_quiet (first|(go_at_call 17;exact Calls.quiet_of_same (HT.o _)));have ck:(a0.drewN nq).cell? ⟨ng,j,none⟩=some (.int .i64 (O:Int)):=cj;have d0:(a0.drewN nq).cell? ⟨J,O,none⟩=some (.int .i64 0):=sc;have bq:Below a0.heap.size a0 (a0.drewN nq):=Below.of_drewN _ a0 nq;have HQ:=z6 (And.intro (HJ.o.1.on bq) (And.intro (HJ.o.2.1.below bq) (HJ.o.2.2.1.below bq)));have d2:=HQ.o.2.1.fz O;clear cj sc ci d1 bq HT;generalize a0.drewN nq=Wq at ck d0 HQ d2 |-
      have tS:=Fl Wq J O (.int .i64 1);have ce:Hid (Sv w (Wq.setCell ⟨J,O,none⟩ (.int .i64 1)) U3 b t c d M N r q0 Y/\Iv (Wq.setCell ⟨J,O,none⟩ (.int .i64 1)) J 49 250 (Bb sj O 1)/\AF .i64 3 (Wq.setCell ⟨J,O,none⟩ (.int .i64 1)) (.slice (some ⟨ng,0,none⟩) Z bc) f.bl/\∀y:Nat,y<250->Bb sj O 1 y≠0->(∃e∈a.K,(y:Int)∈e.bl)\/∃i,i<j+1/\f.bl.getD i 0=(y:Int)):=by
       refine⟨HQ.o.1.tch tS (λ k hk e=>af.o.1 (by rw[<-e];exact hk)) af.o.2.2.2 (λ k e=>by rw[e];exact HI.o.2.2.2.1),HQ.o.2.1.set O (by omega) 1,HQ.o.2.2.tch tS (λ k hk e=>by simp only[Value.ownBlock,Option.some.injEq]at hk;exact af.o.2.1 (by rw[hk,e])),λ y hy h=>?_⟩;by_cases e:y=O;exact .inr ⟨j,by omega,by rw[e];exact HY.o.1⟩;unfold Bb at h;rw[if_neg e]at h;exact(HJ.o.2.2.2 y hy h).imp id (λ⟨i,hi,h⟩=>⟨i,by omega,h⟩)
      clear tS;go_wp2_with fail;exact⟨⟨j+1,Bb sj O 1,by omega,rfl,ce⟩,by simp[intOf];omega⟩
     .have ej:j=Z:=by omega
      subst ej;have HF:Hid (Sv w a0 U3 b t c d M N r q0 Y/\Iv a0 J 49 250 sj/\¬U3 J/\w.heap.size<=J/\200<=Y.A.L.count 0+3*(k+1)/\∀y:Nat,y<250->sj y≠0->∃e∈Y.K,(y:Int)∈e.bl):=by
       refine⟨HJ.o.1,HJ.o.2.1,af.o.1,HI.o.2.2.2.1,by have:=HI.o.2.2.2.2.1;have:=HE.o.2.2.2.2.fr;omega,λ y hy h=>?_⟩;rcases HJ.o.2.2.2 y hy h with⟨e,he,h1⟩|⟨i,hi,h1⟩
       .exact⟨e,HE.o.2.2.2.2.le e he,h1⟩
       .refine⟨f,HE.o.1,?_⟩;(have co:i<f.bl.length:=by have:=af.o.2.2.1;omega);rw[<-h1,AP,z9 co];simp
      go_wp2_with fail;exact⟨⟨k+1,U3,Y,sj,by omega,by omega,rfl,HF⟩,by simp[intOf];omega⟩
end
section
def AIs:True:=trivial
