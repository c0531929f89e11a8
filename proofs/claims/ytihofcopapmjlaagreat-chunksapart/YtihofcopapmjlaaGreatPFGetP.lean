import Derived.Test.YtihofcopapmjlaaGreatProg
import Derived.Test.YtihofcopapmjlaaGreatPMem
import Derived.WalkSpells
import Derived.BigQuiet
import Derived.Test.YtihofcopapmjlaaGreatPNum
set_option maxRecDepth 100000
set_option linter.all false
set_option maxHeartbeats 8000000
namespace Go.Proofs.YtihofcopapmjlaaGreat
open Go.Proofs.Tryz
section
open Go.RowKit
def AF(k:IntKind)(e:TypeId)(w:World)(v:Value)(xs:List Int):Prop:=w.ownsRow 0 e 1 v xs.length (xs.map (Value.int k))
structure AY(w w':World)(v v':Value):Prop where
 tch:AD (λ k=>v.ownBlock=some k) w w'
 fresh:∀k,v'.ownBlock=some k->v.ownBlock=some k\/w.heap.size<=k
def AY.refl(w v):AY w w v v:=⟨AD.refl _ _,λ _ e=>.inl e⟩
def AY.trans{a b c u v x}(h:AY a b u v)(f:AY b c v x):AY a c u x:=by refine⟨h.tch.trans f.tch λ i r e=>?_,λ k q=>?_⟩;rcases h.fresh i e with e|e;exact e;omega;rcases f.fresh k q with e|e;exact h.fresh k e;exact .inr (by have:=h.tch.size;omega)
def AY.below{w w' f}(h:AY w w' (.slice none 0 0) f):Below w.heap.size w w'/\∀k,f.ownBlock=some k->w.heap.size<=k:=
 ⟨h.tch.below (AE _) (λ k e=>by cases e),λ k q=>by rcases h.fresh k q with e|e;(· cases e);omega⟩
def AY.onto{f w w' v r}(h:AY w w' v r)(q:Below f.heap.size f w)(B:∀k,v.ownBlock=some k->f.heap.size<=k):Below f.heap.size f w'/\∀k,r.ownBlock=some k->f.heap.size<=k:=
 ⟨q.trans (h.tch.below q.size (λ k e=>B k e)),λ k A=>by
  rcases h.fresh k A with e|e
  .grind
  .have:=q.size;omega⟩
def CB(k e w):AF k e w (.slice none 0 0) []:=World.ownsRow_nil _ _ _ _
def AF.rd{k e w v xs}(h:AF k e w v xs):Rd k w v xs:=Pg h
def AF.tch{S k e w w' v xs}(h:AF k e w v xs)(q:AD S w w')(f:∀j,v.ownBlock=some j->¬S j):AF k e w' v xs:=q.owns h f
def AF.below{k e w w' v xs}(h:AF k e w v xs)(f:Below w.heap.size w w'):AF k e w' v xs:=
 h.tch (S:=λ _=>False) (AD.of_below f) (λ _ _ e=>e)
def AF.lt{k e w v xs}(h:AF k e w v xs):∀j,v.ownBlock=some j->j<w.heap.size:=λ j f=>(World.ownsRow.lt h j f).2
def AF.shape{k e w v xs}(h:AF k e w v xs)(E:0<xs.length):
 ∃g cap,v=.slice (some ⟨g,0,none⟩) xs.length cap/\g<w.heap.size/\xs.length<=cap/\cap<=maxLen/\(∀i,i<xs.length->w.cell? ⟨g,i,none⟩=some (.int k (xs.getD i 0)))/\∀i,w.frozen? ⟨g,i,none⟩=false:=by
 have f:=h;rcases f.2 with⟨_,e⟩|⟨g,cap,B,rfl,_,r,A,q,_⟩
 .omega
 .refine⟨g,cap,rfl,(za0.1 r).1,A,q,λ i I=>?_,λ i=>f.frozenAt i⟩;rw[f.cellAt i (by omega)]
  grind
def AF.set{k e w g n cap xs}(h:AF k e w (.slice (some ⟨g,0,none⟩) n cap) xs)(j u):
 AF k e (w.setCell ⟨g,j,none⟩ (.int k u)) (.slice (some ⟨g,0,none⟩) n cap) (xs.set j u):=by
 have f:=h;have q:n=xs.length:=by
  rcases f.2 with⟨e,_⟩|⟨B,r,A,e,_⟩
  .cases e
  grind
 subst q;have:=(f.stored j (.int k u)).1;unfold AF;simp_all
structure Gw(P:Program)(t e:TypeId)(k:IntKind)(bytes:Nat):Prop where
 ht:P.underlying t=some (.slice e)
 info:∃i,P.info? e=some i/\i.zero=some (.int k 0)/\i.size=1/\i.bytes=bytes
section
variable {P:Program}
def Hr(w){r A o a Q}(L:o.guard=none)(s x t)(T:o.op=.call { callee:=.builtin .append,args:=#[s,x],argTypes:=#[t,t] })(e k bytes)(E:Gw P t e k bytes)(v xs)(hs:a.eval s=v)(hown:AF k e w v xs)(u ys)(hx:a.eval x=u)(hu:Rd k w u ys)(h63:xs.length+ys.length<=9223372036854775807)(hbytes:(xs.length+ys.length)*bytes<=140737488355328)(h:∀f q,AF k e q f (xs++ys)->AY w q v f->wpList P r Q A (a.put o.dst f) q):wpList P r Q (o::A) a w:=by
 obtain⟨U,i,O,W,B,K⟩:=E;refine LH w L s x t T e i (.int k 0) bytes U O W B K rfl v (xs.map (Value.int k)) hs (by unfold AF at hown;grind) u (ys.map (Value.int k)) hx (Mw hu) (by unfold maxLen;grind) (by grind) ?_;intro f q X I J;refine h f q (by unfold AF;grind) ⟨(AD.refl _ w).grown I (λ _ _ e=>e),J⟩
def ET(w){r A o a Q}(L:o.guard=none)(s x t)(U:o.op=.call { callee:=.builtin .append,args:=#[s,x],argTypes:=#[t,t] })(e k bytes)(E:Gw P t e k bytes)(v xs)(hs:a.eval s=v)(hown:AF k e w v xs)(y)(hx:a.eval x=.slice (some ⟨w.heap.size,0,none⟩) 1 1)(h63:xs.length+1<=9223372036854775807)(hbytes:(xs.length+1)*bytes<=140737488355328)(h:∀f q,AF k e q f (xs++[y])->AY w q v f->wpList P r Q A (a.put o.dst f) q):wpList P r Q (o::A) a (w.alloc (.cells #[.int k y] e)):=by
 obtain⟨W,i,O,X,B,K⟩:=E;refine LH (w.alloc (.cells #[.int k y] e)) L s x t U e i (.int k 0) bytes W O X B K rfl v (xs.map (Value.int k)) hs (by unfold AF at hown;simpa using hown.alloc _) _ [.int k y] hx (Vb w _ _ rfl) (by unfold maxLen;grind) (by grind) ?_;intro f q Y I J;refine h f q (by unfold AF;grind) ⟨AD.grown ((AD.refl _ w).alloc _) I (λ _ _ e=>e),λ k T=>?_⟩;rcases J k T with e|e
 .grind
 .exact .inr (by simp at e;omega)
end
def Below.of_drewN(B w n):Below B w (w.drewN n):=⟨rfl,rfl,rfl,AE _,λ _ _=>rfl⟩
def Dd:Gw prog 40 5 .u8 1:=⟨underlying40,info_parts (z:=.int .u8 0) (size:=1) (bytes:=1) (by kernel_rfl)⟩
end
section
open Go.RowKit Pl
def Je{k w a cap xs}(h:Rd k w (.slice a xs.length cap) xs)(l m)(O:l<=m)(T:m<=xs.length):Rd k w (sliced a l m cap 1) ((xs.drop l).take (m-l)):=by
 obtain⟨B,E,e,I,J,K,q⟩:=h;cases e;have f:((xs.drop l).take (m-l)).length=m-l:=by grind
 unfold sliced;rw[Nat.mul_one];by_cases A:m-l=0
 .have r:(xs.drop l).take (m-l)=[]:=by grind
  rw[r,A];refine⟨_,cap-l,rfl,AI _,by omega,λ e=>?_,.inl rfl⟩;by_cases c:cap=l;omega;simp_all
 .rcases q with rfl|⟨b,o,rfl,hc⟩
  .grind
  .rw[if_neg (by omega)];refine⟨_,cap-l,by rw[f],by omega,by omega,λ e=>(by cases e),.inr ⟨b,o+l,?_,λ i L=>?_⟩⟩;simp[Addr.add]
   grind
def Ko(w):(sizeOf (prog.elem 40)).run prog w=.ok 1 w:=by
 have h:(prog.info? (prog.elem 40)).map (·.size)=some 1:=by kernel_rfl
 obtain⟨i,f,q⟩:=Option.map_eq_some_iff.1 h;simp[sizeOf,typeInfo,f,q]
def Hn:prog.underlying 40=some (.slice (prog.elem 40)):=by
 have:prog.elem 40=5:=by kernel_rfl
 rw[this];exact underlying40
def Qi(w E){r A o a Q}(J:o.guard=none)(x l)(T:o.op=.slice 40 x (some l) none none)(v xs)(hv:a.eval x=v)(hr:Rd .u8 E v xs)(m)(L:a.eval l=.int .i64 (m:Int))(O:m<=xs.length)(h:∀B,Rd .u8 E B (xs.drop m)->wpList prog r Q A (a.put o.dst B) w):wpList prog r Q (o::A) a w:=by
 obtain⟨b,cap,q,_⟩:=id hr;rw[q]at hr;have f:=Je hr m xs.length O (AE _);rw[show(xs.drop m).take (xs.length-m)=xs.drop m by rw[Cj];simp]at f;refine wpList_plain J λ K I=>?_;have U:(Instr.sliceAt 40 (.slice b xs.length cap) (some (.int .i64 (m:Int))) none none).run prog w=.ok (sliced b m xs.length cap 1) w:=by rw[run_sliceAt_slice _ _ _ _ _ _ Hn,run_slice_l _ _ _ _ _ Hn _ _ (by omega) (by omega),Ko];simp
 unfold Oper.wp execOp;simp only[T,hv,L,q,Option.map_some,Option.map_none,Sem.run_bind,U,Result.andThen_ok];exact I _ _ (h _ f)
def Wp(w E){r A o a Q}(J:o.guard=none)(x l)(T:o.op=.slice 40 x none (some l) none)(v xs)(hv:a.eval x=v)(hr:Rd .u8 E v xs)(m)(L:a.eval l=.int .i64 (m:Int))(O:m<=xs.length)(h:∀B,Rd .u8 E B (xs.take m)->wpList prog r Q A (a.put o.dst B) w):wpList prog r Q (o::A) a w:=by
 obtain⟨b,cap,q,W,_⟩:=id hr;rw[q]at hr;have f:=Je hr 0 m (AI _) O;rw[List.drop_zero,Nat.sub_zero]at f;refine wpList_plain J λ K I=>?_;have U:(Instr.sliceAt 40 (.slice b xs.length cap) none (some (.int .i64 (m:Int))) none).run prog w=.ok (sliced b 0 m cap 1) w:=by rw[run_sliceAt_slice _ _ _ _ _ _ Hn,run_slice_h _ _ _ _ _ Hn _ _ (by omega) (by omega),Ko];simp
 unfold Oper.wp execOp;simp only[T,hv,L,q,Option.map_some,Option.map_none,Sem.run_bind,U,Result.andThen_ok];exact I _ _ (h _ f)
def AIO(w I){A B o a Q}(L:o.guard=none)(x l q)(U:o.op=.slice 40 x (some l) (some q) none)(v xs)(hv:a.eval x=v)(hr:Rd .u8 I v xs)(p m)(O:a.eval l=.int .i64 (p:Int))(W:a.eval q=.int .i64 ((p:Int)+(m:Int)))(T:p+m<=xs.length)(h:∀E,Rd .u8 I E ((xs.drop p).take m)->wpList prog A Q B (a.put o.dst E) w):wpList prog A Q (o::B) a w:=by
 obtain⟨b,cap,r,Y,_⟩:=id hr;rw[r]at hr;have f:=Je hr p (p+m) (by omega) T;rw[show p+m-p=m by omega]at f;refine wpList_plain L λ K J=>?_;have X:(Instr.sliceAt 40 (.slice b xs.length cap) (some (.int .i64 (p:Int))) (some (.int .i64 ((p:Int)+(m:Int)))) none).run prog w=.ok (sliced b p (p+m) cap 1) w:=by
  rw[run_sliceAt_slice _ _ _ _ _ _ Hn,run_slice_lh _ _ _ _ _ Hn _ _ _ _ (by omega) (by omega) (by omega),Ko];have e:((p:Int)+(m:Int)).toNat=p+m:=by omega
  simp_all
 unfold Oper.wp execOp;simp only[U,hv,O,W,r,Option.map_some,Option.map_none,Sem.run_bind,X,Result.andThen_ok];exact J _ _ (h _ f)
structure LQ(t:TypeId):Prop where
 under:prog.underlying t=some (.slice (prog.elem t))
 size:∀w,(sizeOf (prog.elem t)).run prog w=.ok 1 w
def Kr:LQ 40:=⟨Hn,Ko⟩
def QC:LQ 23:=by
 have e:prog.elem 23=3:=by kernel_rfl
 refine⟨by rw[e];exact underlying23,λ w=>?_⟩;have h:(prog.info? (prog.elem 23)).map (·.size)=some 1:=by kernel_rfl
 obtain⟨i,f,q⟩:=Option.map_eq_some_iff.1 h;simp[sizeOf,typeInfo,f,q]
def VS{b l m n cap k}(h:(sliced b l m cap 1).ownBlock=some k):(Value.slice b n cap).ownBlock=some k:=by
 unfold sliced at h;cases b with
 | none=>split at h<;>simp[Value.ownBlock]at h
 | some x=>by_cases c:cap=l;rw[if_pos c]at h;exact h;rw[if_neg c]at h;(have q:(x.add (l*1)).block=x.block:=by unfold Addr.add;grind);have f:some (x.add (l*1)).block=some k:=h;rw[q]at f;exact f
def LI{t}(T:LQ t){K}(w E){A B o a Q}(J:o.guard=none)(x l)(W:o.op=.slice t x (some l) none none)(v xs)(hv:a.eval x=v)(hr:Rd K E v xs)(m)(O:a.eval l=.int .i64 (m:Int))(U:m<=xs.length)(h:∀q,Rd K E q (xs.drop m)->(∀k,q.ownBlock=some k->v.ownBlock=some k)->wpList prog A Q B (a.put o.dst q) w):wpList prog A Q (o::B) a w:=by
 obtain⟨b,cap,f,_⟩:=id hr;rw[f]at hr;have r:=Je hr m xs.length U (AE _);rw[show(xs.drop m).take (xs.length-m)=xs.drop m by rw[Cj];simp]at r;refine wpList_plain J λ K I=>?_;have X:(Instr.sliceAt t (.slice b xs.length cap) (some (.int .i64 (m:Int))) none none).run prog w=.ok (sliced b m xs.length cap 1) w:=by rw[run_sliceAt_slice _ _ _ _ _ _ T.under,run_slice_l _ _ _ _ _ T.under _ _ (by omega) (by omega),T.size];simp
 unfold Oper.wp execOp;simp only[W,hv,O,f,Option.map_some,Option.map_none,Sem.run_bind,X,Result.andThen_ok];exact I _ _ (h _ r (λ k L=>by rw[f];exact VS L))
def Qj{t}(T:LQ t){K}(w E){A B o a Q}(J:o.guard=none)(x l)(W:o.op=.slice t x none (some l) none)(v xs)(hv:a.eval x=v)(hr:Rd K E v xs)(m)(O:a.eval l=.int .i64 (m:Int))(U:m<=xs.length)(h:∀q,Rd K E q (xs.take m)->(∀k,q.ownBlock=some k->v.ownBlock=some k)->wpList prog A Q B (a.put o.dst q) w):wpList prog A Q (o::B) a w:=by
 obtain⟨b,cap,f,Y,_⟩:=id hr;rw[f]at hr;have r:=Je hr 0 m (AI _) U;rw[List.drop_zero,Nat.sub_zero]at r;refine wpList_plain J λ K I=>?_;have X:(Instr.sliceAt t (.slice b xs.length cap) none (some (.int .i64 (m:Int))) none).run prog w=.ok (sliced b 0 m cap 1) w:=by rw[run_sliceAt_slice _ _ _ _ _ _ T.under,run_slice_h _ _ _ _ _ T.under _ _ (by omega) (by omega),T.size];simp
 unfold Oper.wp execOp;simp only[W,hv,O,f,Option.map_some,Option.map_none,Sem.run_bind,X,Result.andThen_ok];exact I _ _ (h _ r (λ k L=>by rw[f];exact VS L))
def DU:Gw prog 23 3 .i64 8:=⟨underlying23,info_parts (z:=.int .i64 0) (size:=1) (bytes:=8) (by kernel_rfl)⟩
def take_snoc'(ys:List Int)(k)(h:k<ys.length):ys.take (k+1)=ys.take k++[ys.getD k 0]:=by simp_all
def ADX(v)(p:Nat)(w):
 Calls prog 246 #[v,.int .i64 p,.int .i64 0] w λ e w'=>e=.returned (.int .i64 0)/\w'=w:=by
 go_enter func246,ntmps246
 go_wp2
 go_loop [7,12] (λ v i=>v=.int .i64 0/\i=.int .i64 0) (λ _ _=>0)
 case atStart=>simp
 case round=>obtain⟨rfl,rfl⟩:=hrel;go_wp2;go_ret;simp
def ADk(n c j)(r:0<=n)(I:n<2 ^ j)(hc:c=0\/c=1)(E:j<32):Go.bits BinOp.or IntKind.i64 n (wrap64 (c*2 ^ j))=n+c*2 ^ j:=by
 have J:(2:Int) ^ j<=2 ^ 31:=Gt (by omega);have A:(2:Int) ^ 31=2147483648:=by decide
 have B:(2:Int) ^ 62=4611686018427387904:=by decide
 have K:(0:Int)<2 ^ j:=Int.pow_pos (by decide);have L:0<=c*2 ^ j/\c*2 ^ j<=2147483648:=by grind
 rw[IntWalk.wrap64_in _ ⟨by omega,by omega⟩];obtain⟨a,rfl⟩:=Int.eq_ofNat_of_zero_le r;obtain⟨d,rfl⟩:∃d:Nat,c=(d:Int):=by rcases hc with rfl|rfl;exact⟨0,rfl⟩;exact⟨1,rfl⟩
 have e:((d:Int)*2 ^ j)=((d*2 ^ j:Nat):Int):=by simp
 have ha:a<2 ^ j:=by grind
 have f:a<2 ^ 62:=Ao ha (Nat.pow_le_pow_right (by decide) (by omega));have q:d*2 ^ j<2 ^ 62:=by omega
 rw[e,(bits_nat .i64 62 (by decide) Bp a _ f q).2,Ke a d j ha];omega
def XW(y)(f:0<=y)(q:y<=255):Go.bits BinOp.and IntKind.u8 y 1=y % 2:=by
 obtain⟨a,rfl⟩:=Int.eq_ofNat_of_zero_le f;have:=(bits_nat .u8 8 (by decide) wraps_u8 a 1 (by omega) (by decide)).1
 grind
def ADW(b o cap p n ys w)(I:By ys)(hl:ys.length<=1125899906842624)(hn:p+n<=8*ys.length)(Y:n<=32)(hc:∀i,i<ys.length->w.cell? ⟨b,o+i,none⟩=some (.int .u8 (ys.getD i 0))):
 Calls prog 246 #[.slice (some ⟨b,o,none⟩) ys.length cap,.int .i64 p,.int .i64 n] w λ e w'=>e=.returned (.int .i64 (val (AM ys) p n))/\w'=w:=by
 have L:=z6 hc;have T:=z6 I;clear hc I
 go_enter func246,ntmps246
 go_wp2
 go_loop [7,12] (λ v i=>∃k:Nat,k<=n/\i=.int .i64 k/\v=.int .i64 (val (AM ys) p k)) (λ _ i=>n-(intOf i).toNat)
 case atStart=>exact⟨0,AI _,rfl,rfl⟩
 case round=>
  obtain⟨k,hk,rfl,rfl⟩:=hrel;by_cases a1:k<n
  .obtain⟨y,r⟩:=exH (ys.getD ((p+k) / 8) 0);(have J:0<=y/\y<=255:=by rw[<-r.o];exact T.o _);(have W:w.cell? ⟨b,o+(p+k) / 8,none⟩=some (.int .u8 y):=by rw[L.o _ (by omega),r.o]);obtain⟨c,q⟩:=exH ((AM ys).getD (p+k) 0);(have E:c=0\/c=1:=by rw[<-q.o];exact Fx ys _);have O:=z6 E;obtain⟨z,A⟩:=exH (val (AM ys) p k);obtain⟨B,K⟩:∃B,Hid (val (AM ys) p (k+1)=B):=⟨_,rfl⟩
   (rw[A.o];have Z:Go.bits BinOp.and IntKind.u8 (y / 2 ^ ((p+k) % 8)) 1=c:=by have U:0<=y / 2 ^ ((p+k) % 8):=Int.ediv_nonneg J.1 (Int.le_of_lt (Int.pow_pos (by decide)));have X:y / 2 ^ ((p+k) % 8)<=y:=Int.ediv_le_self _ J.1;rw[XW _ U (by omega),<-q.o,Jq,r.o]);have a2:Go.bits BinOp.or IntKind.i64 z (wrap64 (c*2 ^ k))=B:=by have f:=Hq (Fx ys) p k;rw[A.o]at f;rw[ADk z c k f.1 f.2 O.o (by omega),<-K.o,<-A.o,<-q.o];rfl
   (have a0:0<=c/\c<=1:=by omega);clear E;go_wp2
   go_round
   (case rel=>exact⟨k+1,by omega,by go_num,by rw[K.o]⟩);case measure=>simp[intOf];omega
  .obtain rfl:k=n:=by omega
   go_wp2;go_ret;exact⟨rfl,rfl⟩
def UO(v p n ys w)(h:Rd .u8 w v ys)(A:By ys)(q:ys.length<=1125899906842624)(r:p+n<=8*ys.length)(f:n<=32):
 Calls prog 246 #[v,.int .i64 p,.int .i64 n] w λ e w'=>e=.returned (.int .i64 (val (AM ys) p n))/\w'=w:=by
 obtain⟨a,cap,rfl,_,_,_,h⟩:=h;rcases h with rfl|⟨b,o,rfl,hc⟩
 .obtain rfl:n=0:=by grind
  exact ADX _ p w
 .exact ADW b o cap p n ys w A q r f hc
def MX(n)(left:Nat)(w):
 Calls prog 245 #[.int .i64 n,.int .i64 left] w λ e w'=>e=.returned (.int .i64 (A9 left n))/\w'=w:=by
 by_cases f:n<0
 .have e:A9 left n=1:=by unfold A9;omega
  rw[e];clear e
  go_enter func245,ntmps245
  go_wp2;go_ret;simp
 .by_cases q:32<n
  .have e:A9 left n=1:=by unfold A9;omega
   rw[e];clear e
   go_enter func245,ntmps245
   go_wp2;go_ret;simp
  .by_cases r:(left:Int)<n
   .have e:A9 left n=3:=by unfold A9;omega
    rw[e];clear e
    go_enter func245,ntmps245
    go_wp2;go_ret;simp
   .have e:A9 left n=0:=by unfold A9;omega
    rw[e];clear e
    go_enter func245,ntmps245
    go_wp2;go_ret;simp
def AD.of_drewN(S w n):AD S w (w.drewN n):=⟨rfl,rfl,rfl,AE _,λ _ _ _=>rfl⟩
def nn(s:List Int)(k:Nat):Nat:=(s.getD k 0).toNat
def Ac(s:List Int):Nat->Int
 | 0=>0
 | k+1=>Ac s k+s.getD k 0
def A0(s:List Int)(log:Int):Bool:=
 decide (5<=log/\log<=9/\s.length<=64/\(∀i,i<s.length->0<=s.getD i 0)/\Ac s s.length=2 ^ log.toNat/\s.getD (s.length-1) 0≠0)
def SB{s k}(h:∀i,i<k->0<=s.getD i 0):Ac s k=(cu (nn s) k:Int):=by
 induction k with
 | zero=>rfl
 | succ k f=>have q:=h k (by omega);simp only[Ac,cu,f (λ i r=>h i (by omega)),nn];omega
def OE{s k i}(h:∀i,i<k->0<=s.getD i 0)(f:i<k):s.getD i 0<=Ac s k:=by rw[SB h];have:=Fc (nn s) (show i+1<=k from f);simp only[cu,nn]at this;omega
structure Ca(s:List Int)(lg:Nat):Prop where
 lo:5<=lg
 hi:lg<=9
 len:s.length<=64
 each:∀i,i<s.length->0<=s.getD i 0
 fok:BS (nn s) s.length (2 ^ lg)
 last:s.getD (s.length-1) 0≠0
def Ca.of{s f}(h:A0 s f=true):∃lg:Nat,f=(lg:Int)/\Ca s lg:=by
 unfold A0 at h;rw[zg1]at h;obtain⟨E,I,r,q,A,B⟩:=h;obtain⟨lg,rfl⟩:=Int.eq_ofNat_of_zero_le (show 0<=f by omega);refine⟨lg,rfl,by omega,by omega,r,q,⟨Wy (by omega) (by omega),?_⟩,B⟩;rw[SB q]at A
 grind
def Ca.le{s lg}(h:Ca s lg)(k):s.getD k 0=(nn s k:Int)/\nn s k<=2 ^ lg:=by
 by_cases f:k<s.length;have r:=h.each k f;have q:=Fc (nn s) (show k+1<=s.length from f);have A:=h.fok.sum;simp only[cu]at q;refine⟨by unfold nn;omega,by omega⟩
 .have e:s.getD k 0=0:=by grind
  unfold nn
  grind
def Ca.z{s lg}(h:Ca s lg):32<=2 ^ lg/\2 ^ lg<=512:=h.fok.zok.pos
def Ca.pos{s lg}(h:Ca s lg):0<s.length:=by
 have:=h.last
 grind
def Hd(f w):
 Calls prog 239 #[.int .i64 f] w λ e w'=>e=.returned (.bool (decide (5<=f/\f<=9)))/\w'=w:=by
 by_cases q:5<=f
 .by_cases r:f<=9
  .have e:decide (5<=f/\f<=9)=true:=by grind
   rw[e];clear e
   go_enter func239,ntmps239
   go_wp2;go_ret;simp
  .have e:decide (5<=f/\f<=9)=false:=by simp[r]
   rw[e];clear e;have A:decide (f<=9)=false:=by simp[r]
   go_enter func239,ntmps239
   go_wp2;go_ret;simp
 .have e:decide (5<=f/\f<=9)=false:=by simp[q]
  rw[e];clear e;have A:decide (5<=f)=false:=by simp[q]
  go_enter func239,ntmps239
  go_wp2;go_ret;simp
def ACo(a n cap f w)(h:decide (5<=f/\f<=9)=false):
 Calls prog 226 #[.slice a n cap,.int .i64 f] w λ e w'=>e=.returned (.bool false)/\w'=w:=by
 have H:=z6 h;clear h
 go_enter func226,ntmps226
 go_wp2_with fail;refine(Hd f w).mono ?_;rintro e q ⟨rfl,rfl⟩;rw[H.o];go_wp2;go_ret;simp
def ACq(a n cap f w)(h:decide (5<=f/\f<=9)=true)(q:64<n):
 Calls prog 226 #[.slice a n cap,.int .i64 f] w λ e w'=>e=.returned (.bool false)/\w'=w:=by
 have H:=z6 h;have r:(64:Int)<(n:Int):=by omega
 clear h
 go_enter func226,ntmps226
 go_wp2_with fail;refine(Hd f w).mono ?_;rintro e A ⟨rfl,rfl⟩;rw[H.o];go_wp2;go_ret;simp
def Jd{lg}(f:5<=lg)(q:lg<=9):∃z:Nat,Hid (2 ^ lg=z)/\32<=z/\z<=512/\wrap64 (2 ^ lg)=(z:Int)/\(2:Int) ^ lg=(z:Int):=by
 have:=(Wy f q).pos;have e:((2:Int) ^ lg)=((2 ^ lg:Nat):Int):=by simp
 refine⟨2 ^ lg,rfl,this.1,this.2,?_,e⟩;rw[e];exact IntWalk.wrap64_in _ ⟨by omega,by omega⟩
def ACs(a cap q w)(h:decide (5<=q/\q<=9)=true):
 Calls prog 226 #[.slice a 0 cap,.int .i64 q] w λ e w'=>e=.returned (.bool false)/\w'=w:=by
 have H:=z6 h;rw[zg1]at h;obtain⟨f,rfl⟩:=Int.eq_ofNat_of_zero_le (show 0<=q by omega);obtain⟨z,E,I,J,B,r⟩:=Jd (lg:=f) (by omega) (by omega);have K:((0:Int)==(z:Int))=false:=by grind
 have A:f<=9:=by omega
 clear h r
 go_enter func226,ntmps226
 go_wp2_with fail;refine(Hd f w).mono ?_;rintro e L ⟨rfl,rfl⟩;rw[H.o];go_wp2
 go_loop [6,21] (λ s i=>s=.int .i64 0/\i=.int .i64 0) (λ _ _=>0)
 case atStart=>simp
 case round=>obtain⟨rfl,rfl⟩:=hrel;go_wp2;go_ret;simp
def ACn(b o cap s)(lg:Nat)(w)(Z:5<=lg)(h9:lg<=9)(h1:1<=s.length)(Y:s.length<=64)(hc:∀i,i<s.length->w.cell? ⟨b,o+i,none⟩=some (.int .i64 (s.getD i 0))):
 Calls prog 226 #[.slice (some ⟨b,o,none⟩) s.length cap,.int .i64 lg] w λ e w'=>e=.returned (.bool (A0 s lg))/\w'=w:=by
 have X:=z6 hc;obtain⟨y,W⟩:=exH (s.getD (s.length-1) 0);have cy:w.cell? ⟨b,o+(s.length-1),none⟩=some (.int .i64 y):=by rw[hc _ (by omega),W.o]
 obtain⟨R,I⟩:=exH (A0 s lg);have H:Hid (decide (5<=(lg:Int)/\(lg:Int)<=9)=true):=by show _=_;rw[zg1];omega
 obtain⟨z,hz,a7,a8,hw,U⟩:=Jd Z h9;have L:=z6 U;rw[I.o];clear hc U
 go_enter func226,ntmps226
 go_wp2_with fail;refine(Hd lg w).mono ?_;rintro e w1 ⟨rfl,rfl⟩;rw[H.o];go_wp2
 go_loop [6,21] (λ t i=>∃(k:Nat)(r:Int),k<=s.length/\i=.int .i64 k/\t=.int .i64 r/\0<=r/\r<=32768/\Hid (Ac s k=r/\r<=512*k/\∀j,j<k->0<=s.getD j 0)) (λ _ i=>s.length-(intOf i).toNat)
 case atStart=>exact⟨0,0,AI _,rfl,rfl,by omega,by omega,rfl,by omega,λ j hj=>by omega⟩
 case round=>
  obtain⟨k,r,hk,rfl,rfl,a5,a6,q⟩:=hrel;by_cases J:k<s.length
  .obtain⟨x,B⟩:=exH (s.getD k 0);(have cx:w1.cell? ⟨b,o+k,none⟩=some (.int .i64 x):=by rw[X.o k J,B.o]);by_cases A:x<0\/(z:Int)<x
   .have f:Hid (R=false):=by show R=false;rw[<-I.o];unfold A0;refine ze1 (λ h=>?_);have O:=h.2.2.2.1;have T:=OE O J;have h7:=O k J;rw[h.2.2.2.2.1,Int.toNat_natCast,L.o]at T;rw[B.o]at T h7;omega
    rcases A with A|A
    .go_wp2;go_ret;exact⟨by rw[f.o];rfl,rfl⟩
    .go_wp2;go_ret;exact⟨by rw[f.o];rfl,rfl⟩
   .have a2:0<=x:=by omega
    (have hx1:x<=(z:Int):=by omega);have K:Hid (Ac s (k+1)=r+x/\r+x<=512*((k+1:Nat):Int)/\∀j,j<k+1->0<=s.getD j 0):=by
     refine⟨by simp only[Ac];rw[q.o.1,B.o],by have:=q.o.2.1;omega,λ j hj=>?_⟩;by_cases e:j<k;exact q.o.2.2 j e
     .have:j=k:=by omega
      subst this;rw[B.o];exact a2
    (have a3:decide (x<0)=false:=by rw[AT];omega);(have a4:decide ((z:Int)<x)=false:=by rw[AT];omega);(have a1:r+x<=32768:=by have:=K.o.2.1;omega);clear A;go_wp2
    go_round
    (case rel=>exact⟨k+1,r+x,by omega,by go_num,by first|rfl|go_num,by omega,a1,K⟩);case measure=>simp[intOf];omega
  .obtain rfl:k=s.length:=by omega
   (have f:Hid (R=decide (r=(z:Int)/\y≠0)):=by show R=_;rw[<-I.o];unfold A0;rw[q.o.1,W.o,decide_eq_decide,Int.toNat_natCast,L.o];exact⟨λ h=>h.2.2.2.2,λ h=>⟨by omega,by omega,Y,q.o.2.2,h⟩⟩);by_cases hr:r=(z:Int)
   .have a0:(r==(z:Int))=true:=by simp[hr]
    (have E:Hid (R=(y != 0)):=by show R=_;have:=f.o;rw[this,Bool.eq_iff_iff];simp[hr]);clear hr;go_wp2;go_ret;exact⟨by rw[E.o];rfl,rfl⟩
   .have a0:(r==(z:Int))=false:=by simp[hr]
    (have E:Hid (R=false):=by show R=_;have:=f.o;rw[this];simp[hr]);clear hr;go_wp2;go_ret;exact⟨by rw[E.o];rfl,rfl⟩
def He(v s f w)(h:Rd .i64 w v s):
 Calls prog 226 #[v,.int .i64 f] w λ e w'=>e=.returned (.bool (A0 s f))/\w'=w:=by
 obtain⟨a,cap,rfl,_,_,_,h⟩:=h;cases hd:decide (5<=f/\f<=9)with
 | false=>
  have q:A0 s f=false:=by
   rw[AT]at hd;unfold A0
   grind
  rw[q];exact ACo a _ cap f w hd
 | true=>
  by_cases A:64<s.length
  .have q:A0 s f=false:=by unfold A0;grind
   rw[q];exact ACq a _ cap f w hd A
  .by_cases r:s.length=0;have B:s=[]:=ze0 r;subst B;(have q:A0 [] f=false:=by unfold A0;simp);rw[q];exact ACs a cap f w hd
   .rcases h with rfl|⟨b,o,rfl,hc⟩
    .simp at r
    .rw[zg1]at hd;obtain⟨E,rfl⟩:=Int.eq_ofNat_of_zero_le (show 0<=f by omega);exact ACn b o cap s E w (by omega) (by omega) (by omega) (by omega) hc
def DC(ls:List Int):Nat->Int
 | 0=>0
 | k+1=>DC ls k+if 0<ls.getD k 0 then 1 else 0
def Cd(ls:List Int):Nat->Int
 | 0=>0
 | k+1=>Cd ls k+if 0<ls.getD k 0 then 2 ^ (11-(ls.getD k 0).toNat)else 0
def MW(ls:List Int):Bool:=
 decide (1<=ls.length/\ls.length<=256/\ls.getD (ls.length-1) 0≠0/\(∀i,i<ls.length->0<=ls.getD i 0/\ls.getD i 0<=11)/\
  if DC ls ls.length=1 then ls.getD (ls.length-1) 0=1 else Cd ls ls.length=2048)
def PA(ls k):0<=DC ls k/\DC ls k<=k:=by
 induction k with
 | zero=>simp[DC]
 | succ k f=>simp only[DC];omega
def AFL(ls k):0<=Cd ls k/\Cd ls k<=2048*k:=by
 induction k with
 | zero=>simp[Cd]
 | succ k r=>simp only[Cd];have f:(0:Int)<2 ^ (11-(ls.getD k 0).toNat):=Int.pow_pos (by decide);have q:(2:Int) ^ (11-(ls.getD k 0).toNat)<=2 ^ 11:=Gt (by omega);omega
def BE(ls:List Int):Bool:=
 decide (ls.length<=256/\(∀i,i<ls.length->0<=ls.getD i 0/\ls.getD i 0<=11)/\
  if DC ls ls.length=1 then Cd ls ls.length=1024 else(Cd ls ls.length=2048/\ls.getD (ls.length-1) 0≠0))
def AFM(ls k)(h:DC ls k=0):Cd ls k=0:=by
 induction k with
 | zero=>rfl
 | succ k q=>have f:=PA ls k;simp only[DC]at h;simp only[Cd];omega
def ACf{ls}(h:MW ls=true):BE ls=true:=by
 unfold MW at h;unfold BE;rw[zg1]at h |-
 obtain⟨B,q,E,r,f⟩:=h;refine⟨q,r,?_⟩;by_cases e:DC ls ls.length=1
 .rw[if_pos e]at f |-
  obtain⟨n,A⟩:∃n,ls.length=n+1:=⟨ls.length-1,by omega⟩
  rw[A]at f e |-
  rw[show n+1-1=n by omega]at f;have I:=PA ls n;simp only[DC,f]at e;simp only[Cd,f];rw[if_pos (by decide)]at e |-
  rw[AFM ls n (by omega)];decide
 grind
def ACp(a n cap w)(h:256<n):
 Calls prog 219 #[.slice a n cap] w λ e w'=>e=.returned (.bool false)/\w'=w:=by
 have f:(256:Int)<(n:Int):=by omega
 go_enter func219,ntmps219
 go_wp2;go_ret;simp
def ACr(a cap w):
 Calls prog 219 #[.slice a 0 cap] w λ e w'=>e=.returned (.bool false)/\w'=w:=by
 go_enter func219,ntmps219
 go_wp2
 go_loop [3,4,12] (λ m s i=>m=.int .i64 0/\s=.int .i64 0/\i=.int .i64 0) (λ _ _ _=>0)
 case atStart=>simp
 case round=>obtain⟨rfl,rfl,rfl⟩:=hrel;go_wp2;go_ret;simp
def ACm(b o cap ls w)(h1:1<=ls.length)(Y:ls.length<=256)(hc:∀i,i<ls.length->w.cell? ⟨b,o+i,none⟩=some (.int .i64 (ls.getD i 0))):
 Calls prog 219 #[.slice (some ⟨b,o,none⟩) ls.length cap] w λ e w'=>e=.returned (.bool (BE ls))/\w'=w:=by
 have HC:Hid (∀i,i<ls.length->w.cell? ⟨b,o+i,none⟩=some (.int .i64 (ls.getD i 0))):=hc;obtain⟨y,a0⟩:=exH (ls.getD (ls.length-1) 0);have cy:w.cell? ⟨b,o+(ls.length-1),none⟩=some (.int .i64 y):=by rw[hc _ (by omega),a0.o]
 clear hc;obtain⟨R,U⟩:=exH (BE ls);rw[U.o]
 go_enter func219,ntmps219
 go_wp2
 go_loop [3,4,12] (λ m s i=>∃(k:Nat)(r t:Int),k<=ls.length/\i=.int .i64 k/\s=.int .i64 r/\m=.int .i64 t/\0<=r/\r<=524288/\0<=t/\t<=256/\Hid (Cd ls k=r/\DC ls k=t/\∀j,j<k->0<=ls.getD j 0/\ls.getD j 0<=11)) (λ _ _ i=>ls.length-(intOf i).toNat)
 case atStart=>exact⟨0,0,0,AI _,rfl,rfl,rfl,by omega,by omega,by omega,by omega,rfl,rfl,λ j hj=>by omega⟩
 case round=>
  obtain⟨k,r,t,hk,rfl,rfl,rfl,a6,a7,a8,a9,f⟩:=hrel;by_cases Z:k<ls.length
  .obtain⟨x,B⟩:=exH (ls.getD k 0);(have cx:w.cell? ⟨b,o+k,none⟩=some (.int .i64 x):=by rw[HC.o k Z,B.o]);by_cases L:x<0\/11<x
   .have J:Hid (R=false):=by show R=false;rw[<-U.o];unfold BE;refine ze1 (λ h=>?_);have:=h.2.1 k Z;rw[B.o]at this;omega
    rcases L with L|L;all_goals
     go_wp2;go_ret;exact⟨by rw[J.o];rfl,rfl⟩
   .obtain⟨m,hm⟩:=Int.eq_ofNat_of_zero_le (show 0<=x by omega);subst hm;(have a4:m<=11:=by omega);have W:=PA ls (k+1);have O:=AFL ls (k+1);have X:Hid (∀j,j<k+1->0<=ls.getD j 0/\ls.getD j 0<=11):=λ j hj=>by
     by_cases e:j<k;exact f.o.2.2 j e
     .have:j=k:=by omega
      subst this;rw[B.o];omega
    simp only[DC,Cd,B.o,f.o.1,f.o.2.1]at W O;by_cases a3:0<m
    .have E:(0:Int)<(m:Int):=by omega
     rw[if_pos E]at W O;simp only[Int.toNat_natCast]at O;obtain⟨q,T⟩:∃q:Int,Hid ((2:Int) ^ (11-m)=q):=⟨_,rfl⟩
     have a5:0<q/\q<=2048:=by rw[<-T.o];have Y:(2:Int) ^ (11-m)<=2 ^ 11:=Gt (by omega);(have e:(2:Int) ^ 11=2048:=by decide);exact⟨Int.pow_pos (by decide),by omega⟩
     (have hw:wrap64 (2 ^ (11-m))=q:=by rw[T.o];exact IntWalk.wrap64_in _ ⟨by omega,by omega⟩);rw[T.o]at O;have I:Hid (Cd ls (k+1)=r+q/\DC ls (k+1)=t+1):=by refine⟨?_,?_⟩;simp only[Cd,B.o,f.o.1];rw[if_pos E];simp only[Int.toNat_natCast];rw[T.o];simp only[DC,B.o,f.o.2.1];rw[if_pos E]
     clear L;go_wp2
     go_round
     (case rel=>exact⟨k+1,r+q,t+1,by omega,by go_num,by first|rfl|go_num,by first|rfl|go_num,by omega,by omega,by omega,by omega,I.o.1,I.o.2,X.o⟩);case measure=>simp[intOf];omega
    .have E:¬(0:Int)<(m:Int):=by omega
     (have I:Hid (Cd ls (k+1)=r/\DC ls (k+1)=t):=by refine⟨?_,?_⟩;simp only[Cd,B.o,f.o.1];rw[if_neg E];omega;simp only[DC,B.o,f.o.2.1];rw[if_neg E];omega);clear L W O;go_wp2
     go_round
     (case rel=>exact⟨k+1,r,t,by omega,by go_num,rfl,rfl,by omega,by omega,by omega,by omega,I.o.1,I.o.2,X.o⟩);case measure=>simp[intOf];omega
  .obtain rfl:k=ls.length:=by omega
   (have J:Hid (R=decide (if t=1 then r=1024 else(r=2048/\y≠0))):=by show R=_;rw[<-U.o];unfold BE;rw[f.o.1,f.o.2.1,a0.o];rw[decide_eq_decide];exact⟨λ h=>h.2.2,λ h=>⟨Y,f.o.2.2,h⟩⟩);by_cases A:t=1
   .have a2:(t==1)=true:=by simp[A]
    (have K:Hid (R=(r==1024)):=by show R=_;have:=J.o;rw[this,Bool.eq_iff_iff];simp[A]);clear A;go_wp2;go_ret;exact⟨by rw[K.o];rfl,rfl⟩
   .have a2:(t==1)=false:=by simp[A]
    by_cases hr:r=2048
    .have a1:(r==2048)=true:=by simp[hr]
     (have K:Hid (R=(y != 0)):=by show R=_;have:=J.o;rw[this,Bool.eq_iff_iff];simp[A,hr]);clear A hr;go_wp2;go_ret;exact⟨by rw[K.o];rfl,rfl⟩
    .have a1:(r==2048)=false:=by simp[hr]
     (have K:Hid (R=false):=by show R=_;have:=J.o;rw[this];simp[A,hr]);clear A hr;go_wp2;go_ret;exact⟨by rw[K.o];rfl,rfl⟩
def IJ(v ls w)(h:Rd .i64 w v ls):
 Calls prog 219 #[v] w λ e w'=>e=.returned (.bool (BE ls))/\w'=w:=by
 obtain⟨a,cap,rfl,_,_,_,h⟩:=h;by_cases f:ls.length=0;have A:=ze0 f;subst A;exact ACr a cap w
 .by_cases q:256<ls.length
  .have r:BE ls=false:=by unfold BE;grind
   rw[r];exact ACp a _ cap w q
  .rcases h with rfl|⟨b,o,rfl,hc⟩
   .simp at f
   .exact ACm b o cap ls w (by omega) (by omega) hc
def zc:Nat->List Int->Nat
 | 0,_=>0
 | _+1,[]=>0
 | m+1,x::r=>if x=0 then zc m r+1 else 0
def NK:∀(m:Nat)(l:List Int),zc m l<=m/\zc m l<=l.length
 | 0,_=>by simp[zc]
 | _+1,[]=>by simp[zc]
 | m+1,x::r=>by
  have:=NK m r;simp only[zc]
  grind
def Qo:∀(m:Nat)(l:List Int)(i:Nat),i<zc m l->l.getD i 0=0
 | 0,_,i,h=>by simp[zc]at h
 | _+1,[],i,h=>by simp
 | m+1,x::r,i,h=>by
  simp only[zc]at h;split at h
  .rename_i e;cases i with
   | zero=>grind
   | succ i=>simpa using Qo m r i (by omega)
  .omega
def Qn:∀(m:Nat)(l:List Int),zc m l<m->zc m l<l.length->l.getD (zc m l) 0≠0
 | 0,_,h,_=>by omega
 | _+1,[],_,h=>by grind
 | m+1,x::r,h,h2=>by
  by_cases e:x=0
  .have f:zc (m+1) (x::r)=zc m r+1:=by simp[zc,e]
   rw[f]at h h2 |-
   have:=Qn m r (by omega) (by grind)
   grind
  .have f:zc (m+1) (x::r)=0:=by simp[zc,e]
   grind
def Qm(m l n)(r:n<=m)(A:n<=l.length)(f:∀i,i<n->l.getD i 0=0)(q:¬(n<l.length/\n<m/\l.getD n 0=0)):zc m l=n:=by have a:=NK m l;rcases Nat.lt_trichotomy (zc m l) n with h|h|h;exact absurd (f _ h) (Qn m l (by omega) (by omega));exact h;exact absurd ⟨by omega,by omega,Qo m l n h⟩ q
def BG:Nat->List Int->List Int
 | 0,_=>[]
 | _+1,[]=>[]
 | f+1,x::r=>if x=0 then Aa 0 4++Aa ((zc 16 (x::r):Int)-1) 4++BG f ((x::r).drop (zc 16 (x::r)))else Aa x 4++BG f r
def PW:∀(f:Nat)(l:List Int),(BG f l).length<=8*f
 | 0,_=>by simp[BG]
 | f+1,[]=>by simp[BG]
 | f+1,x::r=>by simp only[BG];split;have:=PW f ((x::r).drop (zc 16 (x::r)));simp only[zc0,Bc];omega;have:=PW f r;simp only[zc0,Bc];omega
def Uj(f):BG f []=[]:=by cases f<;>rfl
def Br(ls:List Int):List Int:=Aa ((ls.length:Int)-1) 8++BG ls.length ls
def Ui(ls):(Br ls).length<=8+8*ls.length:=by have:=PW ls.length ls;simp only[Br,zc0,Bc];omega
def tl(bs:List Int)(L less:Nat):Nat->Nat->List Int->Bool->Int×List Int×Nat
 | 0,p,l,_=>(0,l,p)
 | f+1,p,l,c=>
  if less<l.length then(0,l,p)
  else if L-p<4 then(3,[],p)
  else if 0<val bs p 4 then tl bs L less f (p+4) (l++[val bs p 4]) false
  else if L-(p+4)<4 then(3,[],p)
  else if c=true\/less+1<l.length+((val bs (p+4) 4).toNat+1)then(4,[],p)
  else tl bs L less f (p+8) (l++List.replicate ((val bs (p+4) 4).toNat+1) 0) (decide ((val bs (p+4) 4).toNat+1<16))
def E9(ys:List Int):Int×List Int×Nat:=
 if 8*ys.length<8 then(3,[],0)else tl (AM ys) (8*ys.length) (val (AM ys) 0 8).toNat ((val (AM ys) 0 8).toNat+2) 8 [] false
def DX(ys:List Int):Int×List Int×Nat:=
 if (E9 ys).1≠0 then((E9 ys).1,[],0)
 else if val (AM ys) (E9 ys).2.2 ((8*ys.length-(E9 ys).2.2) % 8)≠0\/BE (E9 ys).2.1=false then(4,[],0)
 else(0,(E9 ys).2.1,ys.length-(8*ys.length-(E9 ys).2.2) / 8)
def AHA(ys):(DX ys).2.2<=ys.length:=by
 unfold DX
 grind
def AG9{ys}(h:(DX ys).1≠0):(DX ys).2.1=[]/\(DX ys).2.2=0:=by
 unfold DX at h |-
 grind
def Qa(ys p):0<=val (AM ys) p 4/\val (AM ys) p 4<=15:=by have:=Hq (Fx ys) p 4;omega
def AHz(ys p):0<=val (AM ys) p 8/\val (AM ys) p 8<=255:=by have:=Hq (Fx ys) p 8;omega
def RdT(w:World)(v:Value)(ps:List (Int×Int)):Prop:=
 ∃a cap,v=.slice a ps.length cap/\ps.length<=cap/\cap<=maxLen/\
  (ps=[]\/∃b o,a=some ⟨b,o,none⟩/\∀i,i<ps.length->w.cell? ⟨b,o+i*2,none⟩=some (.int .i64 (ps.getD i (0,0)).1)/\w.cell? ⟨b,o+i*2+1,none⟩=some (.int .i64 (ps.getD i (0,0)).2))
def BR(ps:List (Int×Int)):List Value:=ps.flatMap λ p=>[Value.int .i64 p.1,Value.int .i64 p.2]
def Kg(ps):(BR ps).length=ps.length*2:=by
 induction ps with
 | nil=>rfl
 | cons p ps f=>simp only[BR,List.flatMap_cons,zc0,zh0,List.length_nil]at *;omega
def Ua(ps f):BR (ps++f)=BR ps++BR f:=by simp[BR]
def Me(ps i)(h:i<ps.length):(BR ps)[i*2]?=some (.int .i64 (ps.getD i (0,0)).1)/\(BR ps)[i*2+1]?=some (.int .i64 (ps.getD i (0,0)).2):=by
 induction ps generalizing i with
 | nil=>simp at h
 | cons p ps f=>
  have e:BR (p::ps)=[Value.int .i64 p.1,Value.int .i64 p.2]++BR ps:=by simp[BR]
  rw[e];cases i with
  | zero=>simp
  | succ i=>grind
def BT(w:World)(v:Value)(ps:List (Int×Int)):Prop:=w.ownsRow 0 363 2 v ps.length (BR ps)
def BT.rd{w v ps}(h:BT w v ps):RdT w v ps:=by
 have f:=h;rcases f.2 with⟨rfl,q⟩|⟨g,cap,I,rfl,_,J,B,r,_⟩
 .have E:=ze0 q;subst E;exact⟨none,0,rfl,AE _,by omega,.inl rfl⟩
 .refine⟨some ⟨g,0,none⟩,cap,rfl,B,r,.inr ⟨g,0,rfl,λ i A=>?_⟩⟩;have:=Me ps i A;rw[Nat.zero_add,f.cellAt (i*2) (by omega),f.cellAt (i*2+1) (by omega)];exact this
def BT.tch{S w w' v ps}(h:BT w v ps)(q:AD S w w')(f:∀j,v.ownBlock=some j->¬S j):BT w' v ps:=q.owns h f
def BT.below{w w' v ps}(h:BT w v ps)(f:Below w.heap.size w w'):BT w' v ps:=
 h.tch (S:=λ _=>False) (AD.of_below f) (λ _ _ e=>e)
def JJ{w:World}{e size v n xs}(h:w.ownsRow 0 e size v n xs){k}(q:v.ownBlock=some k):∃f,w.heap[k]?=some (.cells f e (0,0)):=by
 rcases h.2 with⟨rfl,_⟩|⟨g,cap,f,rfl,_,r,_⟩
 .cases q
 .simp only[Value.ownBlock,Option.some.injEq]at q
  grind
def BT.ne_blk{w v ps b cs t}(h:BT w v ps)(r:w.heap[b]?=some (.cells cs t (0,0)))(A:t≠363){k}(f:v.ownBlock=some k):k≠b:=by
 intro e;subst e;obtain⟨c1,q⟩:=JJ (w:=w) h f
 grind
theorem Ok:(prog.info? 363).map (λ i=>(i.zero,i.size,i.bytes))=some (some (.agg #[.int .i64 0,.int .i64 0]),2,16):=by kernel_rfl
def AIR(w){B E o a Q}(L:o.guard=none)(s x)(U:o.op=.call { callee:=.builtin .append,args:=#[s,x],argTypes:=#[361,361] })(v ps)(hs:a.eval s=v)(hown:BT w v ps)(p)(hx:a.eval x=.slice (some ⟨w.heap.size,0,none⟩) 1 1)(hbytes:(ps.length+1)*16<=140737488355328)(h:∀q r,BT r q (ps++[p])->AY w r v q->wpList prog B Q E (a.put o.dst q) r):wpList prog B Q (o::E) a (w.alloc (.cells #[.int .i64 p.1,.int .i64 p.2] 363)):=by
 obtain⟨Z,O,W,X,Y⟩:=info_parts Ok;refine wpList_append_own_at (w.alloc (.cells #[.int .i64 p.1,.int .i64 p.2] 363)) L s x 361 U 0 363 Z _ 2 16 underlying361 O W X Y rfl (by decide) v ps.length (BR ps) hs (World.ownsRow.alloc hown _)
  ⟨w.heap.size,0,none⟩ 1 1 [.int .i64 p.1,.int .i64 p.2] hx rfl ?_ ?_ (by unfold maxLen;omega) hbytes (AI _) ?_
 .intro j u f
  match j,f with
  | 0,f=>simp at f;subst f;simp[Addr.add]
  | 1,f=>simp at f;subst f;simp[Addr.add]
 .intro u A;simp at A;rcases A with rfl|rfl<;>rfl
 .intro q r I J _ K;refine h q r ?_ ⟨AD.grown ((AD.refl _ w).alloc _) J (λ _ _ e=>e),λ k T=>?_⟩;unfold BT;rw[Ua];simpa[BR]using I
  .rcases K with e|e
   .grind
   .rw[T]at e;simp_all
structure Hp(w:World)(h:Nat)(v:Value)(ps:List (Int×Int)):Prop where
 blk:w.heap[h]?=some (.cells #[v] 361 (0,0))
 own:BT w v ps
def Hp.c0{w h v ps}(H:Hp w h v ps):w.cell? ⟨h,0,none⟩=some v:=by rw[cell_of_row w h 0 _ _ (0,0) H.blk];rfl
def Hp.fz{w h v ps}(H:Hp w h v ps):w.frozen? ⟨h,0,none⟩=false:=frozen_of_row w h 0 _ _ H.blk
def Hp.lt{w h v ps}(H:Hp w h v ps):h<w.heap.size:=(za0.1 H.blk).1
def Hp.ne{w h v ps}(H:Hp w h v ps):v.ownBlock≠some h:=λ e=>H.own.ne_blk H.blk (by decide) e rfl
def Hp.tch{S w w' h v ps}(H:Hp w h v ps)(f:AD S w w')(q:¬S h)(hr:∀k,v.ownBlock=some k->¬S k):Hp w' h v ps:=
 ⟨by rw[f.block h H.lt q];exact H.blk,H.own.tch f hr⟩
def Hp.below{w w' h v ps}(H:Hp w h v ps)(f:Below w.heap.size w w'):Hp w' h v ps:=
 H.tch (S:=λ _=>False) (AD.of_below f) (λ e=>e) (λ _ _ e=>e)
def BT.shape{w v ps}(h:BT w v ps)(I:0<ps.length):
 ∃g cap,v=.slice (some ⟨g,0,none⟩) ps.length cap/\g<w.heap.size/\ps.length<=cap/\cap<=maxLen/\(∀i,i<ps.length->w.cell? ⟨g,i*2,none⟩=some (.int .i64 (ps.getD i (0,0)).1)/\w.cell? ⟨g,i*2+1,none⟩=some (.int .i64 (ps.getD i (0,0)).2))/\∀i,w.frozen? ⟨g,i,none⟩=false:=by
 have f:=h;rcases f.2 with⟨_,e⟩|⟨g,cap,E,rfl,_,r,B,q,_⟩
 .omega
 .refine⟨g,cap,rfl,(za0.1 r).1,B,q,λ i A=>?_,λ i=>f.frozenAt i⟩;have:=Me ps i A;rw[f.cellAt (i*2) (by omega),f.cellAt (i*2+1) (by omega)];exact this
def Ub(ps i p)(f:i<ps.length):((BR ps).set (i*2) (.int .i64 p.1)).set (i*2+1) (.int .i64 p.2)=BR (ps.set i p):=by
 induction ps generalizing i with
 | nil=>simp at f
 | cons q r A=>
  match i with
  | 0=>simp[BR]
  | i+1=>have:=A i (by grind);rw[show(i+1)*2=i*2+1+1 by omega];simpa[BR]using this
def BT.set{w g n cap ps}(h:BT w (.slice (some ⟨g,0,none⟩) n cap) ps)(i)(q:i<ps.length)(p):
 BT ((w.setCell ⟨g,i*2,none⟩ (.int .i64 p.1)).setCell ⟨g,i*2+1,none⟩ (.int .i64 p.2)) (.slice (some ⟨g,0,none⟩) n cap) (ps.set i p):=by
 have f:=h;have r:n=ps.length:=by
  rcases f.2 with⟨e,_⟩|⟨E,A,B,e,_⟩
  .cases e
  grind
 subst r;have:=((f.stored (i*2) (.int .i64 p.1)).1.stored (i*2+1) (.int .i64 p.2)).1;unfold BT;rw[<-Ub ps i p q,zo0];exact this
structure Rr(w:World)(b:Nat)(rv:Value)(ys:List Int)(p:Nat):Prop where
 blk:w.heap[b]?=some (.cells #[rv,.int .i64 p] 300 (0,0))
 own:AF .u8 5 w rv ys
 bys:By ys
 le:p<=8*ys.length
 small:ys.length<=140737488355328
def Rr.c0{w b f ys p}(h:Rr w b f ys p):w.cell? ⟨b,0,none⟩=some f:=by rw[cell_of_row w b 0 _ _ (0,0) h.blk];rfl
def Rr.c1{w b f ys p}(h:Rr w b f ys p):w.cell? ⟨b,1,none⟩=some (.int .i64 p):=by rw[cell_of_row w b 1 _ _ (0,0) h.blk];rfl
def Rr.fz{w b f ys p}(h:Rr w b f ys p)(j):w.frozen? ⟨b,j,none⟩=false:=frozen_of_row w b j _ _ h.blk
def Rr.lt{w b f ys p}(h:Rr w b f ys p):b<w.heap.size:=(za0.1 h.blk).1
def Rr.shape{w b f ys p}(h:Rr w b f ys p):∃a cap,f=.slice a ys.length cap:=by
 obtain⟨a,cap,e,_⟩:=h.own.rd
 grind
def Rr.tch{S w w' b f ys p}(h:Rr w b f ys p)(q:AD S w w')(r:¬S b)(hr:∀k,f.ownBlock=some k->¬S k):Rr w' b f ys p:=
 ⟨by rw[q.block b h.lt r];exact h.blk,h.own.tch q hr,h.bys,h.le,h.small⟩
def Rr.below{w w' b f ys p}(h:Rr w b f ys p)(q:Below w.heap.size w w'):Rr w' b f ys p:=
 h.tch (S:=λ _=>False) (AD.of_below q) (λ e=>e) (λ _ _ e=>e)
def Rr.ne{w b r ys p}(h:Rr w b r ys p):r.ownBlock≠some b:=by
 intro f;rcases h.own.2 with⟨rfl,_⟩|⟨B,cap,A,rfl,_,q,_⟩
 .simp[Value.ownBlock]at f
 .simp only[Value.ownBlock,Option.some.injEq]at f;subst f;rw[h.blk]at q;simp at q
def Rr.move{w b f ys p}(h:Rr w b f ys p)(q)(A:q<=8*ys.length):Rr (w.setCell ⟨b,1,none⟩ (.int .i64 q)) b f ys q:=by refine⟨?_,h.own.tch (S:=λ k=>k=b) ((AD.refl (λ k=>k=b) w).setCell (p:=⟨b,1,none⟩) (λ _=>rfl) _) (λ j r e=>h.ne (by rw[r,e])),h.bys,A,h.small⟩;rw[heap_setCell_same w b 1 _ _ (.int .i64 q) h.blk];simp
def Hb(b f ys p w)(h:Rr w b f ys p):
 Calls prog 213 #[.pointer (some ⟨b,0,none⟩)] w λ e w'=>e=.returned (.int .i64 ((8*ys.length-p:Nat):Int))/\∃n,w'=w.drewN n:=by
 have q:=h.c0;have c1:=h.c1;have r:=h.le;have A:=h.small;obtain⟨a,cap,rfl⟩:=h.shape;clear h
 go_enter func213,ntmps213
 go_wp2;go_quiet (fail);go_wp2;go_ret;refine⟨?_,_,rfl⟩;have e:((8*ys.length-p:Nat):Int)=8*(ys.length:Int)-p:=by omega
 rw[e];rfl
def KD{xs:List Int}{M:Int}(f:0<=M)(h:∀i,i<xs.length->0<=xs.getD i 0/\xs.getD i 0<=M):∀k,k<=xs.length->0<=Ac xs k/\Ac xs k<=M*k
 | 0,_=>by simp[Ac]
 | k+1,hk=>by
  have q:=KD f h k (by omega);have r:=h k (by omega);simp only[Ac]
  grind
def Vs(b o cap xs w)(W:xs.length<=64)(I:∀i,i<xs.length->0<=xs.getD i 0/\xs.getD i 0<=4294967295)(hc:∀i,i<xs.length->w.cell? ⟨b,o+i,none⟩=some (.int .i64 (xs.getD i 0))):
 Calls prog 249 #[.slice (some ⟨b,o,none⟩) xs.length cap] w λ e w'=>e=.returned (.int .i64 (Ac xs xs.length))/\w'=w:=by
 have L:=z6 hc;have q:=z6 I;clear hc I;obtain⟨R,E⟩:=exH (Ac xs xs.length);rw[E.o]
 go_enter func249,ntmps249
 go_wp2
 go_loop [3,8] (λ t i=>∃(k:Nat)(r:Int),k<=xs.length/\i=.int .i64 k/\t=.int .i64 r/\0<=r/\r<=274877906880/\Hid (Ac xs k=r)) (λ _ i=>xs.length-(intOf i).toNat)
 case atStart=>exact⟨0,0,AI _,rfl,rfl,by omega,by omega,rfl⟩
 case round=>
  obtain⟨k,r,X,rfl,rfl,Y,Z,B⟩:=hrel;by_cases J:k<xs.length
  .obtain⟨x,f⟩:=exH (xs.getD k 0);(have U:w.cell? ⟨b,o+k,none⟩=some (.int .i64 x):=by rw[L.o k J,f.o]);have T:=q.o k J;rw[f.o]at T;(have A:Hid (Ac xs (k+1)=r+x):=by show _=_;simp only[Ac];rw[B.o,f.o]);have K:0<=r+x/\r+x<=274877906880:=by have:=KD (M:=4294967295) (by omega) q.o (k+1) (by omega);rw[A.o]at this;omega
   go_wp2
   go_round
   (case rel=>exact⟨k+1,r+x,by omega,by go_num,by first|rfl|go_num,K.1,K.2,A⟩);case measure=>simp[intOf];omega
  .obtain rfl:k=xs.length:=by omega
   (have O:Hid (r=R):=by show r=R;rw[<-B.o,E.o]);go_wp2;go_ret;exact⟨by rw[O.o];rfl,rfl⟩
def Bh(xs:List Int):Nat->Nat
 | 0=>0
 | k+1=>if xs.getD (Bh xs k) 0<xs.getD k 0 then k else Bh xs k
def Ip(xs:List Int):∀k,0<k->Bh xs k<k
 | 0,h=>by omega
 | k+1,_=>by
  simp only[Bh];split;omega
  .by_cases e:0<k;have:=Ip xs k e;omega
   .obtain rfl:k=0:=by omega
    simp[Bh]
def OY(xs:List Int):∀k i,i<k->xs.getD i 0<=xs.getD (Bh xs k) 0
 | 0,i,h=>by omega
 | k+1,i,h=>by
  simp only[Bh];by_cases e:i=k
  .grind
  .have:=OY xs k i (by omega)
   grind
def Se(b o cap xs w)(T:0<xs.length)(X:xs.length<=64)(hc:∀i,i<xs.length->w.cell? ⟨b,o+i,none⟩=some (.int .i64 (xs.getD i 0))):
 Calls prog 250 #[.slice (some ⟨b,o,none⟩) xs.length cap] w λ e w'=>e=.returned (.int .i64 (Bh xs xs.length))/\w'=w:=by
 have E:=z6 hc;clear hc;obtain⟨R,I⟩:=exH (Bh xs xs.length);rw[I.o]
 go_enter func250,ntmps250
 go_wp2
 go_loop [3,8] (λ t i=>∃k f:Nat,k<=xs.length/\i=.int .i64 k/\t=.int .i64 f/\f<xs.length/\Hid (Bh xs k=f)) (λ _ i=>xs.length-(intOf i).toNat)
 case atStart=>exact⟨0,0,AI _,rfl,rfl,T,rfl⟩
 case round=>
  obtain⟨k,f,Y,rfl,rfl,J,r⟩:=hrel;by_cases K:k<xs.length
  .obtain⟨x,A⟩:=exH (xs.getD k 0);obtain⟨y,B⟩:=exH (xs.getD f 0);(have U:w.cell? ⟨b,o+k,none⟩=some (.int .i64 x):=by rw[E.o k K,A.o]);(have W:w.cell? ⟨b,o+f,none⟩=some (.int .i64 y):=by rw[E.o f J,B.o]);by_cases L:y<x
   .have q:Hid (Bh xs (k+1)=k):=by show _=_;simp only[Bh];rw[r.o,A.o,B.o,if_pos L]
    go_wp2
    go_round
    (case rel=>exact⟨k+1,k,by omega,by go_num,rfl,K,q⟩);case measure=>simp[intOf];omega
   .have q:Hid (Bh xs (k+1)=f):=by show _=_;simp only[Bh];rw[r.o,A.o,B.o,if_neg L]
    go_wp2
    go_round
    (case rel=>exact⟨k+1,f,by omega,by go_num,rfl,J,q⟩);case measure=>simp[intOf];omega
  .obtain rfl:k=xs.length:=by omega
   (have O:Hid (f=R):=by show f=R;rw[<-r.o,I.o]);go_wp2;go_ret;exact⟨by rw[O.o];rfl,rfl⟩
def A7(xs:List Int):Nat->Nat
 | 0=>0
 | k+1=>A7 xs k+if 0<xs.getD k 0 then 1 else 0
def Vh(xs k):A7 xs k<=k:=by
 induction k with
 | zero=>simp[A7]
 | succ k f=>simp only[A7];grind
def DK(xs:List Int)(log:Int):Bool:=
 decide (5<=log/\log<=9/\xs.length<=64/\(∀i,i<xs.length->0<=xs.getD i 0/\xs.getD i 0<=4294967295)/\0<A7 xs xs.length/\2*A7 xs xs.length<=2 ^ log.toNat)
def ACi(a n cap f w)(h:decide (5<=f/\f<=9)=false):
 Calls prog 223 #[.slice a n cap,.int .i64 f] w λ e w'=>e=.returned (.bool false)/\w'=w:=by
 have H:=z6 h;clear h
 go_enter func223,ntmps223
 go_wp2_with fail;refine(Hd f w).mono ?_;rintro e q ⟨rfl,rfl⟩;rw[H.o];go_wp2;go_ret;simp
def ACj(a n cap f w)(h:decide (5<=f/\f<=9)=true)(q:64<n):
 Calls prog 223 #[.slice a n cap,.int .i64 f] w λ e w'=>e=.returned (.bool false)/\w'=w:=by
 have H:=z6 h;have r:(64:Int)<(n:Int):=by omega
 clear h
 go_enter func223,ntmps223
 go_wp2_with fail;refine(Hd f w).mono ?_;rintro e A ⟨rfl,rfl⟩;rw[H.o];go_wp2;go_ret;simp
def ACk(a cap f w)(h:decide (5<=f/\f<=9)=true):
 Calls prog 223 #[.slice a 0 cap,.int .i64 f] w λ e w'=>e=.returned (.bool false)/\w'=w:=by
 have H:=z6 h;clear h
 go_enter func223,ntmps223
 go_wp2_with fail;refine(Hd f w).mono ?_;rintro e q ⟨rfl,rfl⟩;rw[H.o];go_wp2
 go_loop [5,18] (λ t i=>t=.int .i64 0/\i=.int .i64 0) (λ _ _=>0)
 case atStart=>simp
 case round=>obtain⟨rfl,rfl⟩:=hrel;go_wp2;go_ret;simp
def ACh(b o cap s)(lg:Nat)(w)(Y:5<=lg)(Z:lg<=9)(W:s.length<=64)(hc:∀i,i<s.length->w.cell? ⟨b,o+i,none⟩=some (.int .i64 (s.getD i 0))):
 Calls prog 223 #[.slice (some ⟨b,o,none⟩) s.length cap,.int .i64 lg] w λ e w'=>e=.returned (.bool (DK s lg))/\w'=w:=by
 have U:=z6 hc;obtain⟨R,J⟩:=exH (DK s lg);have H:Hid (decide (5<=(lg:Int)/\(lg:Int)<=9)=true):=by show _=_;rw[zg1];omega
 obtain⟨z,hz,a8,a9,hw,a1⟩:=Jd Y Z;rw[J.o];clear hc a1
 go_enter func223,ntmps223
 go_wp2_with fail;refine(Hd lg w).mono ?_;rintro e w1 ⟨rfl,rfl⟩;rw[H.o];go_wp2
 go_loop [5,18] (λ t i=>∃k r:Nat,k<=s.length/\i=.int .i64 k/\t=.int .i64 r/\r<=64/\Hid (A7 s k=r/\∀j,j<k->0<=s.getD j 0/\s.getD j 0<=4294967295)) (λ _ i=>s.length-(intOf i).toNat)
 case atStart=>exact⟨0,0,AI _,rfl,rfl,by omega,rfl,λ j hj=>by omega⟩
 case round=>
  obtain⟨k,r,hk,rfl,rfl,a2,A⟩:=hrel;by_cases O:k<s.length
  .obtain⟨x,B⟩:=exH (s.getD k 0);(have cx:w1.cell? ⟨b,o+k,none⟩=some (.int .i64 x):=by rw[U.o k O,B.o]);by_cases I:x<0\/4294967295<x
   .have f:Hid (R=false):=by show R=false;rw[<-J.o];unfold DK;refine ze1 (λ h=>?_);have X:=h.2.2.2.1 k O;rw[B.o]at X;omega
    rcases I with I|I
    .go_wp2;go_ret;exact⟨by rw[f.o];rfl,rfl⟩
    .go_wp2;go_ret;exact⟨by rw[f.o];rfl,rfl⟩
   .have a4:decide (x<0)=false:=by rw[AT];omega
    (have a5:decide ((4294967295:Int)<x)=false:=by rw[AT];omega);(have a7:0<=x:=by omega);have L:Hid (∀j,j<k+1->0<=s.getD j 0/\s.getD j 0<=4294967295):=λ j hj=>by
     by_cases e:j<k;exact A.o.2 j e
     .have:j=k:=by omega
      subst this;rw[B.o];omega
    clear I;by_cases T:0<x
    .have E:Hid (A7 s (k+1)=r+1/\∀j,j<k+1->0<=s.getD j 0/\s.getD j 0<=4294967295):=⟨by simp only[A7];rw[A.o.1,B.o,if_pos T],L.o⟩
     (have K:r+1<=64:=by have:=Vh s (k+1);rw[E.o.1]at this;omega);go_wp2
     go_round
     (case rel=>exact⟨k+1,r+1,by omega,by go_num,by go_num,K,E⟩);case measure=>simp[intOf];omega
    .have E:Hid (A7 s (k+1)=r/\∀j,j<k+1->0<=s.getD j 0/\s.getD j 0<=4294967295):=⟨by simp only[A7];rw[A.o.1,B.o,if_neg T];rfl,L.o⟩
     go_wp2
     go_round
     (case rel=>exact⟨k+1,r,by omega,by go_num,rfl,a2,E⟩);case measure=>simp[intOf];omega
  .obtain rfl:k=s.length:=by omega
   (have f:Hid (R=decide (0<r/\2*r<=z)):=by show R=_;rw[<-J.o];unfold DK;rw[A.o.1,decide_eq_decide,Int.toNat_natCast,hz.o];exact⟨λ h=>h.2.2.2.2,λ h=>⟨by omega,by omega,W,A.o.2,h⟩⟩);by_cases hr:0<r
   .have a3:decide ((0:Int)<(r:Int))=true:=by rw[zg1];omega
    by_cases K:2*r<=z
    .have q:Hid (R=true):=by show R=_;have:=f.o;rw[this,zg1];exact⟨hr,K⟩
     (have a0:(r:Int)<=(z:Int) / 2:=by omega);go_wp2;go_ret;exact⟨by rw[q.o];rfl,rfl⟩
    .have q:Hid (R=false):=by show R=_;have:=f.o;rw[this,AT];omega
     (have a0:(z:Int) / 2<(r:Int):=by omega);(have a6:decide ((r:Int)<=(z:Int) / 2)=false:=by rw[AT];omega);go_wp2;go_ret;exact⟨by rw[q.o];rfl,rfl⟩
   .have q:Hid (R=false):=by show R=_;have:=f.o;rw[this,AT];omega
    (have a3:decide ((0:Int)<(r:Int))=false:=by rw[AT];omega);(obtain rfl:r=0:=by omega);go_wp2;go_ret;exact⟨by rw[q.o];rfl,rfl⟩
def UC(v s f w)(h:Rd .i64 w v s):
 Calls prog 223 #[v,.int .i64 f] w λ e w'=>e=.returned (.bool (DK s f))/\w'=w:=by
 obtain⟨a,cap,rfl,_,_,_,h⟩:=h;cases hd:decide (5<=f/\f<=9)with
 | false=>
  have q:DK s f=false:=by
   rw[AT]at hd;unfold DK
   grind
  rw[q];exact ACi a _ cap f w hd
 | true=>
  by_cases r:64<s.length
  .have q:DK s f=false:=by unfold DK;grind
   rw[q];exact ACj a _ cap f w hd r
  .rcases h with rfl|⟨b,o,rfl,hc⟩
   .have q:DK [] f=false:=by unfold DK;exact ze1 (λ h=>by have:=h.2.2.2.2.1;simp[A7]at this)
    rw[q];exact ACk a cap f w hd
   .rw[zg1]at hd;obtain⟨A,rfl⟩:=Int.eq_ofNat_of_zero_le (show 0<=f by omega);exact ACh b o cap s A w (by omega) (by omega) (by omega) hc
def Js(n):Builtin.zeroCells (Value.int .i64 0).cells n=(List.replicate n (Value.int .i64 0)).toArray:=by
 apply Array.ext';simp only[Builtin.zeroCells,Value.cells];apply List.ext_getElem;simp
 grind
theorem WW:prog.underlying 3=some (.int .i64):=by kernel_rfl
def LU(n w):(asInt (.int .i64 n)).run prog w=.ok n w:=by simp[asInt,asIntOf]
def AFV(w ty v xs n)(a5:AF .i64 3 w v xs)(hn:xs.length+n<=4096):
 ∃v' w',(Builtin.append_ #[23,3] ty #[v,.int .i64 (n:Int)]).run prog w=.ok v' w'/\AF .i64 3 w' v' (xs++List.replicate n 0)/\AY w w' v v':=by
 obtain⟨I,i,B,hz,E,A⟩:=DU;have f:=WW;have hw:IntKind.i64.wrap (n:Int)=(n:Int):=Bp _ (by omega) (by omega);have X:¬((n:Int)<0):=by omega
 have Y:¬(281474976710656<(n:Int)*8):=by omega
 have ho:=a5;have O:=λ w'=>LU (n:Int) w';by_cases K:n=0
 .subst K;refine⟨v,w,?_,by simpa using a5,AY.refl _ _⟩;have a3:=λ w'=>LU 0 w';have a7:IntKind.i64.wrap 0=0:=by rw[Bp _ (by omega) (by omega)]
  rcases ho.2 with⟨rfl,a8⟩|⟨g,cap,r,rfl,hb,U,a4,L,ab,a6⟩
  .simp[Builtin.append_,run_underlying I,run_underlying f,sizeOf,typeInfo,B,E,A,a7,a3]
  .simp[Builtin.append_,run_underlying I,run_underlying f,sizeOf,typeInfo,B,E,A,a7,a3,a4,storeCells]
 .have Z:¬((n:Int)<=0):=by omega
  have a2:∀(cap:Nat),cap<xs.length+n->
   AF .i64 3 (w.drew.alloc (.cells ((xs.map (Value.int .i64)).toArray++(Builtin.zeroCells (Value.int .i64 0).cells n++Builtin.zeroCells (Value.int .i64 0).cells (grownCap w (xs.length+n) cap 3-(xs.length+n)))) 3))
    (.slice (some ⟨w.heap.size,0,none⟩) (xs.length+n) (grownCap w (xs.length+n) cap 3)) (xs++List.replicate n 0)/\
   AY w (w.drew.alloc (.cells ((xs.map (Value.int .i64)).toArray++(Builtin.zeroCells (Value.int .i64 0).cells n++Builtin.zeroCells (Value.int .i64 0).cells (grownCap w (xs.length+n) cap 3-(xs.length+n)))) 3)) v (.slice (some ⟨w.heap.size,0,none⟩) (xs.length+n) (grownCap w (xs.length+n) cap 3)):=by
   intro cap hc;have ad:=grownCap_ge w (xs.length+n) cap 3;have L:=grownCap_le_maxLen w (xs.length+n) cap 3 (by unfold maxLen;omega);(have W:(xs++List.replicate n 0).length=xs.length+n:=by simp);refine⟨?_,⟨rfl,rfl,rfl,by simp,λ k q _=>Below.heap_alloc w.drew _ k q⟩,λ k q=>?_⟩;unfold AF;rw[W];refine⟨by simp,.inr ⟨w.heap.size,_,_,rfl,AI _,heap_alloc_new w.drew _,ad,L,?_,?_⟩⟩;simp only[Array.size_append,List.size_toArray,size_zeroCells,zu0,Value.cells];simp;omega;rw[Js,Js];simp only[Array.toList_append,za1,List.map_replicate];rw[<-zr0];(have:(xs.map (Value.int .i64)++List.replicate n (Value.int .i64 0)).length=(xs.length+n)*1:=by simp);rw[<-this];exact List.take_left
   .simp only[Value.ownBlock,Option.some.injEq]at q;exact .inr (by omega)
  have aa:¬(9223372036854775807<((xs.length:Int)+(n:Int))):=by omega
  rcases ho.2 with⟨rfl,a8⟩|⟨g,cap,r,rfl,hb,U,a4,L,ab,a6⟩
  .have af:xs=[]:=ze0 a8;subst af;obtain⟨g1,J⟩:=a2 0 (by simp;omega);simp only[List.length_nil,Nat.zero_add]at g1 J;(have T:¬(281474976710656<Builtin.nextslicecap n 0*8):=by have:=growslice_fits (old:=0) (need:=n) (bytes:=8) (by omega) (by omega);omega);(have a9:¬(9223372036854775807<(n:Int)):=by omega);refine⟨_,_,?_,g1,J⟩;simp[Builtin.append_,run_underlying I,run_underlying f,sizeOf,typeInfo,zeroValue,B,hz,E,A,hw,O,K,X,Y,Z,a9,T,Question.forced,Builtin.firstCells,loadCells,loadCellsFrom,newRow,grownCap]
  .by_cases a0:xs.length+n<=cap
   .have a1:=run_storeCells_at prog g xs.length 3 (List.replicate n (Value.int .i64 0)) 0 r w U (by simp;omega) (λ u f=>by rw[List.eq_of_mem_replicate f];rfl);simp only[Nat.add_zero]at a1;(have W:(xs++List.replicate n 0).length=xs.length+n:=by simp);refine⟨.slice (some ⟨g,0,none⟩) (xs.length+n) cap,w.setRow g (r.toList.take xs.length++List.replicate n (Value.int .i64 0)++r.toList.drop (xs.length+(List.replicate n (Value.int .i64 0)).length)).toArray,?_,?_,?_⟩;simp[Builtin.append_,run_underlying I,run_underlying f,sizeOf,typeInfo,zeroValue,B,hz,E,A,hw,O,K,X,Y,Z,a0,Js,Addr.add_lit];simp at a1;rw[a1];rfl
    .unfold AF;rw[W];refine⟨by simp,.inr ⟨g,cap,_,rfl,hb,setRow_heap w g r _ 3 _ U,a0,L,?_,?_⟩⟩;simp only[List.size_toArray,zc0,zd0,zg0,Array.length_toList,zm0];omega
     .have ae:r.toList.take xs.length=xs.map (Value.int .i64):=by simpa using a6
      rw[ae,za1,List.map_replicate];(have:(xs.map (Value.int .i64)++List.replicate n (Value.int .i64 0)).length=(xs.length+n)*1:=by simp);rw[<-this];exact List.take_left
    .exact⟨⟨rfl,rfl,rfl,by simp[World.setRow],λ k _ q=>setRow_other w g k _ (λ e=>q (by simp[Value.ownBlock,e]))⟩,λ k q=>.inl q⟩
   .obtain⟨g1,J⟩:=a2 cap (by omega);(have T:¬(281474976710656<Builtin.nextslicecap (xs.length+n) cap*8):=by have:=growslice_fits (old:=cap) (need:=xs.length+n) (bytes:=8) (by omega) (by omega);omega);have ac:=run_firstCells_some (P:=prog) w.drew 1 xs.length ⟨g,0,none⟩ xs.length cap (xs.map (Value.int .i64)) (by simp) (λ j u f=>by
     have:=ho.cells (g:=g) rfl j u f;simpa using this)
    refine⟨_,_,?_,g1,J⟩;simp[Builtin.append_,run_underlying I,run_underlying f,sizeOf,typeInfo,zeroValue,B,hz,E,A,hw,O,K,X,Y,Z,a0,aa,T,Question.forced,ac,newRow,grownCap]
def Wl(w){r A o a Q}(J:o.guard=none)(s x)(L:o.op=.call { callee:=.builtin .append,args:=#[s,x],argTypes:=#[23,3] })(v xs)(hs:a.eval s=v)(hown:AF .i64 3 w v xs)(n)(hx:a.eval x=.int .i64 (n:Int))(hn:xs.length+n<=4096)(h:∀f q,AF .i64 3 q f (xs++List.replicate n 0)->AY w q v f->wpList prog r Q A (a.put o.dst f) q):wpList prog r Q (o::A) a w:=by
 obtain⟨f,q,hr,B,E⟩:=AFV w o.type v xs n hown hn;refine wpList_plain J λ K I=>?_;unfold Oper.wp;simp[execOp,L,resolve,invoke,builtin,hs,hx,hr,Result.andThen];exact I _ _ (h f q B E)
def Ax(c:List Int)(z all:Int):Nat->List Int
 | 0=>[]
 | k+1=>if c.getD k 0=0 then Ax c z all k else Ax c z all k++List.replicate (k-(Ax c z all k).length) 0++[max 1 (c.getD k 0*z / all)]
def Mf(c z f k):(Ax c z f k).length<=k:=by
 induction k with
 | zero=>simp[Ax]
 | succ k q=>
  simp only[Ax]
  grind
def AEM(b o cap s)(z:Nat)(w)(h1:s.length<=64)(hz:z<=512)(hb:∀i,i<s.length->0<=s.getD i 0/\s.getD i 0<=4294967295)(aa:0<Ac s s.length)(hc:∀i,i<s.length->w.cell? ⟨b,o+i,none⟩=some (.int .i64 (s.getD i 0))):
 Calls prog 224 #[.slice (some ⟨b,o,none⟩) s.length cap,.int .i64 z] w λ e w'=>∃v',e=.returned v'/\AF .i64 3 w' v' (Ax s z (Ac s s.length) s.length)/\AY w w' (.slice none 0 0) v':=by
 have HC:=z6 hc;have HB:=z6 hb;have a8:=KD (M:=4294967295) (by omega) hb s.length (AE _);obtain⟨A,hA⟩:=exH (Ac s s.length);rw[hA.o]at aa a8 |-
 have hA2:A<=274877906880:=by omega
 clear hc hb a8
 go_enter func224,ntmps224
 go_wp2_with fail;refine(Vs b o cap s w h1 HB.o HC.o).mono ?_;rintro e O ⟨rfl,rfl⟩;rw[hA.o];go_wp2_with fail
 go_loopw [6,13] (λ r i wr=>∃k:Nat,k<=s.length/\i=.int .i64 k/\Hid (AF .i64 3 wr r (Ax s z A k))/\Hid (AY O wr (.slice none 0 0) r)) (λ _ i _=>s.length-(intOf i).toNat)
 case atStart=>exact⟨0,AI _,rfl,CB _ _ _,AY.refl _ _⟩
 case round=>
  obtain⟨k,hk,rfl,E,B⟩:=hrel;obtain⟨ra,rc,ae⟩:∃a c,u6=.slice a (Ax s z A k).length c:=by obtain⟨a,c,e,_⟩:=E.o.rd;exact⟨a,c,e⟩
  subst ae;have ac:=Mf s z A k;obtain⟨Lp,Y⟩:=exH ((Ax s z A k).length);rw[Y.o]at ac E B |-
  by_cases a5:k<s.length
  .obtain⟨x,a0⟩:=exH (s.getD k 0);have hx:=HB.o k a5;rw[a0.o]at hx;have cx:wr.cell? ⟨b,o+k,none⟩=some (.int .i64 x):=by have h:=HC.o k a5;rw[B.o.below.1.cell (p:=⟨b,o+k,none⟩) (zb0 O ⟨b,o+k,none⟩ h),h,a0.o]
   by_cases J:x=0
   .have af:(x==0)=true:=by simp[J]
    (have I:Hid (Ax s z A (k+1)=Ax s z A k):=by show _=_;simp only[Ax];rw[a0.o,if_pos J]);clear J;go_wp2_with fail
    go_roundw
    (case rel=>exact⟨k+1,by omega,by go_num,by rw[I.o];exact E,B⟩);case measure=>simp[intOf];omega
   .have af:(x==0)=false:=by simp[J]
    obtain⟨D,hD⟩:=exH (k-Lp);(have ag:(k:Int)-(Lp:Int)=(D:Int):=by rw[<-hD.o];omega);(have a9:Lp+D=k:=by rw[<-hD.o];omega);obtain⟨q,hq⟩:=exH (x*z);have a3:0<=x*(z:Int):=Int.mul_nonneg hx.1 (by omega);have ad:x*(z:Int)<=4294967295*512:=Int.mul_le_mul hx.2 (by omega) (by omega) (by omega);have a7:x*(z:Int)=q:=hq.o;rw[a7]at a3 ad;obtain⟨t,Z⟩:=exH (q / A);(have aj:0<=t:=by rw[<-Z.o];exact Int.ediv_nonneg a3 (by omega));(have ak:t<=q:=by rw[<-Z.o];exact Int.ediv_le_self _ a3);(have I:Hid (Ax s z A (k+1)=Ax s z A k++List.replicate D 0++[max 1 t]):=by show _=_;simp only[Ax];rw[a0.o,if_neg J,Y.o,hD.o,a7,Z.o]);have al:q / A=t:=Z.o;clear J
    go_wp2_with(at_builtin;refine Wl _ rfl (.tmp 20) (.tmp 24) rfl _ (Ax s z A k) rfl E.o D rfl (by rw[Y.o];omega) ?_)
    intro v2 w2 a6 a4;have X:Hid (AF .i64 3 w2 v2 (Ax s z A k++List.replicate D 0)):=a6;have U:Hid (AY O w2 (.slice none 0 0) v2):=B.o.trans a4;(have W:Hid ((Ax s z A k++List.replicate D 0).length=k):=by show _=_;rw[zc0,zm0,Y.o];exact a9);clear a6 a4 E B cx;by_cases ab:1<t
    .rw[Int.max_eq_right (by omega)]at I;go_wp2_with(at_builtin;refine ET _ rfl (.tmp 26) (.tmp 33) 23 rfl 3 .i64 8 DU _ (Ax s z A k++List.replicate D 0) rfl X.o t rfl (by rw[W.o];omega) (by rw[W.o];omega) ?_)
     intro L T f K;rw[<-zr0,<-I.o]at f;have a2:Hid (AF .i64 3 T L (Ax s z A (k+1))):=f;have a1:Hid (AY O T (.slice none 0 0) L):=U.o.trans K;clear f K X U;go_wp2_with fail
     go_roundw
     (case rel=>exact⟨k+1,by omega,by go_num,a2,a1⟩);case measure=>simp[intOf];omega
    .rw[Int.max_eq_left (by omega)]at I;(have ai:t<=1:=by omega);clear ab;go_wp2_with(at_builtin;refine ET _ rfl (.tmp 26) (.tmp 33) 23 rfl 3 .i64 8 DU _ (Ax s z A k++List.replicate D 0) rfl X.o 1 rfl (by rw[W.o];omega) (by rw[W.o];omega) ?_)
     intro L T f K;rw[<-zr0,<-I.o]at f;have a2:Hid (AF .i64 3 T L (Ax s z A (k+1))):=f;have a1:Hid (AY O T (.slice none 0 0) L):=U.o.trans K;clear f K X U;go_wp2_with fail
     go_roundw
     (case rel=>exact⟨k+1,by omega,by go_num,a2,a1⟩);case measure=>simp[intOf];omega
  .obtain rfl:k=s.length:=by omega
   go_wp2_with fail;go_ret;exact⟨_,rfl,E.o,B.o⟩
def AIv(a v w)(h:w.cell? a=some v):(load a).run prog w=.ok v w:=by simp_all
def PD(a v w)(h:w.cell? a=some v):(method 486 365 (.pointer (some a)) "Len").run prog w=.ok (259,v) w:=by
 have e:(method 486 365 (.pointer (some a)) "Len").run prog w=(do let v <-load a;pure (259,v):Sem (FuncId×Value)).run prog w:=by kernel_rfl
 simp_all
def Gh(a v w)(h:w.cell? a=some v):(method 486 365 (.pointer (some a)) "Less").run prog w=.ok (289,v) w:=by
 have e:(method 486 365 (.pointer (some a)) "Less").run prog w=(do let v <-load a;pure (289,v):Sem (FuncId×Value)).run prog w:=by kernel_rfl
 simp_all
def KZ(a v w)(h:w.cell? a=some v):(method 486 365 (.pointer (some a)) "Swap").run prog w=.ok (290,v) w:=by
 have e:(method 486 365 (.pointer (some a)) "Swap").run prog w=(do let v <-load a;pure (290,v):Sem (FuncId×Value)).run prog w:=by kernel_rfl
 simp_all
theorem ACz(a w):(method 486 365 (.pointer (some a)) "Pop").run prog w=.ok (291,.pointer (some a)) w:=by kernel_rfl
theorem AC1(a w):(method 486 365 (.pointer (some a)) "Push").run prog w=.ok (292,.pointer (some a)) w:=by kernel_rfl
end
section
open Go.RowKit Pl Hf
def K8(a n cap w):
 Calls prog 259 #[.slice a n cap] w λ e w'=>e=.returned (.int .i64 n)/\w'=w:=by
 go_enter func259,ntmps259
 go_wp2;go_ret;simp
def AG5(v ps i j w)(h:BT w v ps)(L:i<ps.length)(O:j<ps.length):
 Calls prog 289 #[v,.int .i64 i,.int .i64 j] w λ e w'=>e=.returned (.bool (Ed (G ps i) (G ps j)))/\AD (λ _=>False) w w':=by
 obtain⟨g,cap,rfl,_,_,_,hc,_⟩:=h.shape (by omega);obtain⟨I,c1⟩:=hc i L;obtain⟨J,K⟩:=hc j O;simp only[G];obtain⟨x,U⟩:=exH (ps.getD i (0,0));obtain⟨y,W⟩:=exH (ps.getD j (0,0));rw[U.o]at I c1 |-
 rw[W.o]at J K |-
 obtain⟨f,B⟩:=x;obtain⟨q,E⟩:=y;simp only at I c1 J K;clear hc h;by_cases r:f=q
 .have T:(f != q)=false:=by simp[r]
  have A:Hid (Ed (f,B) (q,E)=decide (B<E)):=by show _=_;unfold Ed;rw[decide_eq_decide];unfold ltP;simp only;omega
  rw[A.o];clear r
  go_enter func289,ntmps289
  go_wp2_with fail;go_quiet (fail);go_wp2_with fail;go_quiet (fail);go_wp2_with fail;go_ret;exact⟨rfl,⟨rfl,rfl,rfl,AE _,λ _ _ _=>rfl⟩⟩
 .have T:(f != q)=true:=by simp[r]
  have A:Hid (Ed (f,B) (q,E)=decide (f<q)):=by show _=_;unfold Ed;rw[decide_eq_decide];unfold ltP;simp only;omega
  rw[A.o];clear r
  go_enter func289,ntmps289
  go_wp2_with fail;go_quiet (fail);go_wp2_with fail;go_quiet (fail);go_wp2_with fail;go_ret;exact⟨rfl,⟨rfl,rfl,rfl,AE _,λ _ _ _=>rfl⟩⟩
def BT.at2{w g n cap ps}(h:BT w (.slice (some ⟨g,0,none⟩) n cap) ps):∀i,i<ps.length->∃f q,G ps i=(f,q)/\w.cell? ⟨g,i*2,none⟩=some (.int .i64 f)/\w.cell? ⟨g,i*2+1,none⟩=some (.int .i64 q):=by
 intro i B;obtain⟨A,r,e,_,_,_,hc,_⟩:=h.shape (by omega)
 grind
def AG8(h v ps i j w)(H:Hp w h v ps)(E:i<ps.length)(T:j<ps.length):
 Calls prog 290 #[v,.int .i64 i,.int .i64 j] w λ e w'=>e=.returned (.tuple #[])/\Hp w' h v (C8 ps i j)/\AD (λ k=>v.ownBlock=some k) w w':=by
 obtain⟨g,cap,rfl,hg,a1,a2,hc,r⟩:=H.own.shape (by omega);obtain⟨K,L,U,c0,c1⟩:=H.own.at2 i E;obtain⟨A,B,W,X,Y⟩:=H.own.at2 j T;have q:Hid (Hp w h (.slice (some ⟨g,0,none⟩) ps.length cap) ps):=H;have I:Hid (G ps i=(K,L)):=U;have O:Hid (G ps j=(A,B)):=W;have f0:=r (i*2);have f1:=r (i*2+1);have Z:=r (j*2);have f3:=r (j*2+1);clear hc r H U W;by_cases a0:i=j
 .subst a0;have e:A=K/\B=L:=by have:=I.o.symm.trans O.o;simp only[Prod.mk.injEq]at this;exact⟨this.1.symm,this.2.symm⟩
  obtain⟨rfl,rfl⟩:=e;clear X Y Z f3
  go_enter func290,ntmps290
  go_wp2_with fail
  go_region
  go_wp2_with fail
  go_end0
  refine⟨rfl,?_,?_⟩;have J:=(q.o.own.set i E (A,B)).set i (by simpa using E) (A,B);refine⟨?_,?_⟩;have f:g≠h:=λ e=>q.o.ne (by rw[e];rfl);show((((w.setCell ⟨g,i*2,none⟩ _).setCell ⟨g,i*2+1,none⟩ _).setCell ⟨g,i*2,none⟩ _).setCell ⟨g,i*2+1,none⟩ _).heap[h]?=_;rw[Below.heap_setCell _ _ _ _ (λ e=>f e.symm),Below.heap_setCell _ _ _ _ (λ e=>f e.symm),Below.heap_setCell _ _ _ _ (λ e=>f e.symm),Below.heap_setCell _ _ _ _ (λ e=>f e.symm)];exact q.o.blk;unfold C8;rw[I.o];exact J
  .exact(AD.drew (AD.setCell (AD.setCell (AD.setCell (AD.setCell (AD.refl (λ k=>k=g) w) (p:=⟨g,_,none⟩) (λ _=>rfl) _) (p:=⟨g,_,none⟩) (λ _=>rfl) _) (p:=⟨g,_,none⟩) (λ _=>rfl) _) (p:=⟨g,_,none⟩) (λ _=>rfl) _)).mono (λ k _ e=>by rw[e];rfl)
 .go_enter func290,ntmps290
  go_wp2_with fail
  go_region
  go_wp2_with fail
  go_end0
  refine⟨rfl,?_,?_⟩;have J:=(q.o.own.set i E (A,B)).set j (by simpa using T) (K,L);refine⟨?_,?_⟩;have f:g≠h:=λ e=>q.o.ne (by rw[e];rfl);show((((w.setCell ⟨g,i*2,none⟩ _).setCell ⟨g,i*2+1,none⟩ _).setCell ⟨g,j*2,none⟩ _).setCell ⟨g,j*2+1,none⟩ _).heap[h]?=_;rw[Below.heap_setCell _ _ _ _ (λ e=>f e.symm),Below.heap_setCell _ _ _ _ (λ e=>f e.symm),Below.heap_setCell _ _ _ _ (λ e=>f e.symm),Below.heap_setCell _ _ _ _ (λ e=>f e.symm)];exact q.o.blk;unfold C8;rw[I.o,O.o];exact J
  .exact(AD.drew (AD.setCell (AD.setCell (AD.setCell (AD.setCell (AD.refl (λ k=>k=g) w) (p:=⟨g,_,none⟩) (λ _=>rfl) _) (p:=⟨g,_,none⟩) (λ _=>rfl) _) (p:=⟨g,_,none⟩) (λ _=>rfl) _) (p:=⟨g,_,none⟩) (λ _=>rfl) _)).mono (λ k _ e=>by rw[e];rfl)
end
section
open Go.RowKit Pl
def AHf{left n}(bs p)(h:A9 left n≠0):CP bs left p n=0/\Bt left n=0:=by
 unfold A9 at h;unfold CP Bt
 grind
def AHg{left n}(bs p)(h:A9 left n=0):∃m:Nat,n=(m:Int)/\m<=32/\m<=left/\CP bs left p n=val bs p m/\Bt left n=m:=by
 have f:0<=n/\n<=32/\n<=(left:Int):=by unfold A9 at h;omega
 obtain⟨m,rfl⟩:=Int.eq_ofNat_of_zero_le f.1;refine⟨m,rfl,by omega,by omega,?_,?_⟩;unfold CP;grind;unfold Bt;grind
abbrev Sq:=Int×Int×Int
def AR:Sq:=(0,0,0)
def RdS(w:World)(v:Value)(ps:List Sq):Prop:=
 ∃a cap,v=.slice a ps.length cap/\ps.length<=cap/\cap<=maxLen/\
  (ps=[]\/∃b o,a=some ⟨b,o,none⟩/\∀i,i<ps.length->w.cell? ⟨b,o+i*3,none⟩=some (.int .i64 (ps.getD i AR).1)/\w.cell? ⟨b,o+i*3+1,none⟩=some (.int .i64 (ps.getD i AR).2.1)/\w.cell? ⟨b,o+i*3+2,none⟩=some (.int .i64 (ps.getD i AR).2.2))
def Cf(ps:List Sq):List Value:=ps.flatMap λ p=>[Value.int .i64 p.1,Value.int .i64 p.2.1,Value.int .i64 p.2.2]
def VI(ps):(Cf ps).length=ps.length*3:=by
 induction ps with
 | nil=>rfl
 | cons p ps f=>simp only[Cf,List.flatMap_cons,zc0,zh0,List.length_nil]at *;omega
def AFk(ps f):Cf (ps++f)=Cf ps++Cf f:=by simp[Cf]
def VH(ps i)(h:i<ps.length):(Cf ps)[i*3]?=some (.int .i64 (ps.getD i AR).1)/\(Cf ps)[i*3+1]?=some (.int .i64 (ps.getD i AR).2.1)/\(Cf ps)[i*3+2]?=some (.int .i64 (ps.getD i AR).2.2):=by
 induction ps generalizing i with
 | nil=>simp at h
 | cons p ps f=>
  have e:Cf (p::ps)=[Value.int .i64 p.1,Value.int .i64 p.2.1,Value.int .i64 p.2.2]++Cf ps:=by simp[Cf]
  rw[e];cases i with
  | zero=>simp
  | succ i=>grind
def BK(w:World)(v:Value)(ps:List Sq):Prop:=w.ownsRow 0 244 3 v ps.length (Cf ps)
def UT(w):BK w (.slice none 0 0) []:=World.ownsRow_nil _ _ _ _
def BK.rd{w v ps}(h:BK w v ps):RdS w v ps:=by
 have f:w.ownsRow 0 244 3 v ps.length (Cf ps):=h;rcases f.2 with⟨rfl,q⟩|⟨g,cap,I,rfl,_,J,B,r,_⟩
 .have E:ps=[]:=ze0 q;subst E;exact⟨none,0,rfl,AE _,by omega,.inl rfl⟩
 .refine⟨some ⟨g,0,none⟩,cap,rfl,B,r,.inr ⟨g,0,rfl,λ i A=>?_⟩⟩;have:=VH ps i A;rw[Nat.zero_add,f.cellAt (i*3) (by omega),f.cellAt (i*3+1) (by omega),f.cellAt (i*3+2) (by omega)];exact this
def BK.tch{S w w' v ps}(h:BK w v ps)(q:AD S w w')(f:∀j,v.ownBlock=some j->¬S j):BK w' v ps:=q.owns h f
def BK.below{w w' v ps}(h:BK w v ps)(f:Below w.heap.size w w'):BK w' v ps:=
 h.tch (S:=λ _=>False) (AD.of_below f) (λ _ _ e=>e)
def JK{w:World}{e size v n xs}(h:w.ownsRow 0 e size v n xs){k}(q:v.ownBlock=some k):∃f,w.heap[k]?=some (.cells f e (0,0)):=by
 rcases h.2 with⟨rfl,_⟩|⟨g,cap,f,rfl,_,r,_⟩
 .cases q
 .simp only[Value.ownBlock,Option.some.injEq]at q
  grind
def BK.ne_blk{w v ps b cs t}(h:BK w v ps)(r:w.heap[b]?=some (.cells cs t (0,0)))(A:t≠244){k}(f:v.ownBlock=some k):k≠b:=by
 intro e;subst e;obtain⟨c1,q⟩:=JK (w:=w) h f
 grind
theorem S9:(prog.info? 244).map (λ i=>(i.zero,i.size,i.bytes))=some (some (.agg #[.int .i64 0,.int .i64 0,.int .i64 0]),3,24):=by kernel_rfl
def AIQ(w){B E o a Q}(L:o.guard=none)(s x)(U:o.op=.call { callee:=.builtin .append,args:=#[s,x],argTypes:=#[207,207] })(v ps)(hs:a.eval s=v)(hown:BK w v ps)(p)(hx:a.eval x=.slice (some ⟨w.heap.size,0,none⟩) 1 1)(hbytes:(ps.length+1)*24<=140737488355328)(h:∀q r,BK r q (ps++[p])->AY w r v q->wpList prog B Q E (a.put o.dst q) r):wpList prog B Q (o::E) a (w.alloc (.cells #[.int .i64 p.1,.int .i64 p.2.1,.int .i64 p.2.2] 244)):=by
 obtain⟨Z,O,W,X,Y⟩:=info_parts S9;refine wpList_append_own_at (w.alloc (.cells #[.int .i64 p.1,.int .i64 p.2.1,.int .i64 p.2.2] 244)) L s x 207 U 0 244 Z _ 3 24 underlying207 O W X Y rfl (by decide) v ps.length (Cf ps) hs (World.ownsRow.alloc hown _)
  ⟨w.heap.size,0,none⟩ 1 1 [.int .i64 p.1,.int .i64 p.2.1,.int .i64 p.2.2] hx rfl ?_ ?_ (by unfold maxLen;omega) hbytes (AI _) ?_
 .intro j u f
  match j,f with
  | 0,f=>simp at f;subst f;simp[Addr.add]
  | 1,f=>simp at f;subst f;simp[Addr.add]
  | 2,f=>simp at f;subst f;simp[Addr.add]
 .intro u A;simp at A;rcases A with rfl|rfl|rfl<;>rfl
 .intro q r I J _ K;refine h q r ?_ ⟨AD.grown ((AD.refl _ w).alloc _) J (λ _ _ e=>e),λ k T=>?_⟩;unfold BK;rw[AFk];simpa[Cf]using I
  .rcases K with e|e
   .grind
   .rw[T]at e;simp_all
end
section
open Go.RowKit
def Rd.tch0{S k w w' v xs}(h:Rd k w v xs)(E:AD S w w')(B:∀b,v.ownBlock=some b->xs≠[]->¬S b):Rd k w' v xs:=by
 by_cases e:xs=[]
 .subst e;obtain⟨a,c,rfl,f,q,r,_⟩:=h;exact⟨a,c,rfl,f,q,r,.inl rfl⟩
 .exact h.tch E (λ b A=>B b A e)
def Rd.blk_lt{k w v xs}(h:Rd k w v xs)(A:xs≠[]){b}(r:v.ownBlock=some b):b<w.heap.size:=by
 obtain⟨a,c,rfl,B,E,I,q⟩:=h;rcases q with e|⟨f,o,rfl,hc⟩
 .grind
 .cases r;exact zb0 w ⟨f,o+0,none⟩ (hc 0 (by grind))
end
section
open Go.RowKit Pl
def UN{xs:List Int}(r:By xs):∀f q n k,Bz xs f q=some (n,k)->0<=n/\n<=4294967295
 | 0,q,n,k,h=>by simp[Bz]at h
 | f+1,q,n,k,h=>by simp only[Bz]at h;split at h;split at h;exact UN r f (q+1) n k h;split at h;cases h;rename_i h3;simp only[Option.some.injEq,Prod.mk.injEq]at h;have:=UM xs r (q+1);omega;cases h
def PJ{xs}(f:By xs){n k}(h:BJ xs=some (n,k)):0<=n/\n<=4294967295:=UN f _ _ _ _ h
def By.drop{xs}(h:By xs)(m):By (xs.drop m):=by intro i;rw[AP,zp0,<-AP];exact h _
def rd_drop'{k w b o cap}{xs:List Int}(m)(r:m<=xs.length)(q:xs.length<=cap)(hc:cap<=maxLen)(h:∀i,i<xs.length->w.cell? ⟨b,o+i,none⟩=some (.int k (xs.getD i 0))):Rd k w (.slice (some ⟨b,o+m,none⟩) (xs.length-m) (cap-m)) (xs.drop m):=by
 have e:(xs.drop m).length=xs.length-m:=by simp
 refine⟨_,cap-m,by rw[e],by omega,by omega,(λ e=>by cases e),.inr ⟨b,o+m,rfl,λ i f=>?_⟩⟩
 grind
def CI(xs:List Int):Nat->Option (List Int×Nat)
 | 0=>some ([],0)
 | m+1=>match CI xs m with
  | none=>none
  | some t=>match BJ (xs.drop t.2)with
   | none=>none
   | some r=>some (t.1++[r.1],t.2+r.2)
def WN{xs m n}(h:CI xs m=none)(f:m<=n):CI xs n=none:=by
 induction n with
 | zero=>grind
 | succ n q=>
  by_cases e:m=n+1
  .grind
  .simp only[CI];grind
def LB{xs:List Int}:∀{m:Nat} {l:List Int} {p:Nat},CI xs m=some (l,p)->l.length=m/\p<=xs.length
 | 0,l,p,h=>by simp[CI]at h;grind
 | m+1,l,p,h=>by
  simp only[CI]at h;split at h;cases h
  .rename_i t ht;split at h;cases h
   .rename_i r hr;simp only[Option.some.injEq,Prod.mk.injEq]at h;obtain⟨rfl,rfl⟩:=h;obtain⟨f,q⟩:=LB (l:=t.1) (p:=t.2) ht;obtain⟨_,A,_,_⟩:=Kb (n:=r.1) (k:=r.2) hr
    grind
def Jm(r:Option (List Int×Nat)):Int:=match r with|some _=>0|none=>3
def Jl(r:Option (List Int×Nat)):Nat:=match r with|some t=>t.2|none=>0
def M9(r:Option (List Int×Nat)):List Int:=match r with|some t=>t.1|none=>[]
def WD(b o cap ys)(m:Nat)(w)(hy:By ys)(hl:ys.length<=cap)(X:cap<=maxLen)(hm:m<=64)(hc:∀i,i<ys.length->w.cell? ⟨b,o+i,none⟩=some (.int .u8 (ys.getD i 0))):
 Calls prog 240 #[.slice (some ⟨b,o,none⟩) ys.length cap,.int .i64 m] w λ e w'=>∃K,e=.returned (.tuple #[K,.int .i64 (Jl (CI ys m):Int),.int .i64 (Jm (CI ys m))])/\AF .i64 3 w' K (M9 (CI ys m))/\AY w w' (.slice none 0 0) K:=by
 have HC:=z6 hc;have T:=z6 hy;obtain⟨R,I⟩:=exH (CI ys m);rw[I.o];have ab:=X;unfold maxLen at ab;clear hc hy;obtain⟨j0,hj,a4,a5,a6⟩:=DU.info
 go_enter func240,ntmps240
 go_wp2_with(at_make;refine wpList_make_own _ rfl (.const (.int .i64 0)) (.tmp 12) 23 rfl 0 3 j0 _ 1 underlying23 hj a4 a5 .i64 .i64 _ m rfl rfl rfl (by rw[a6];omega) (by unfold maxLen;omega) (AI _) ?_)
 intro w1 a1 Y;have U:=z6 a1;have L:Hid (AY w w1 (.slice none 0 0) (.slice (some ⟨w.heap.size,0,none⟩) 0 m)):=by refine⟨(AD.refl _ _).grown Y (λ k _ e=>by cases e),λ k e=>.inr ?_⟩;simp only[Value.ownBlock,Option.some.injEq]at e;omega
 clear a1 Y hj a4 a5 a6;go_wp2_with fail
 go_loopw [7,8,15] (λ r p i wr=>∃(k q:Nat)(l:List Int),k<=m/\q<=ys.length/\i=.int .i64 k/\p=.int .i64 q/\Hid (CI ys k=some (l,q))/\Hid (AF .i64 3 wr r l)/\Hid (AY w wr (.slice none 0 0) r)) (λ _ _ i _=>m-(intOf i).toNat)
 case atStart=>exact⟨0,0,[],AI _,AI _,rfl,rfl,rfl,U,L⟩
 case round=>
  clear U L;obtain⟨k,q,l,hk,hq,rfl,rfl,B,J,f⟩:=hrel;by_cases a0:k<m
  .by_cases a3:ys.length<=q
   .obtain rfl:q=ys.length:=by omega
    have A:Hid (R=none):=by show R=none;rw[<-I.o];refine WN (m:=k+1) ?_ a0;simp only[CI];rw[B.o];simp only[List.drop_length];rfl
    have E:Hid (∀a c,Calls prog 133 #[.slice a 0 c] wr λ e w'=>e=.returned (.tuple #[.int .i64 0,.int .i64 0,.int .i64 3])/\w'=wr):=λ a c=>PM a c wr;(have aa:ys.length-ys.length=0:=by omega);clear a3;go_wp2_with fail;all_goals
     try rw[aa]
     refine(E.o _ _).mono ?_;rintro e w2 ⟨rfl,rfl⟩;go_wp2_with fail;go_ret3;rw[A.o];exact⟨_,rfl,CB _ _ _,(f.o.below).1 |> λ b=>⟨AD.of_below b,λ k e=>by cases e⟩⟩
   have O:Hid (Rd .u8 wr (.slice (some ⟨b,o+q,none⟩) (ys.length-q) (cap-q)) (ys.drop q)):=rd_drop' q hq hl X (λ i hi=>by
    have W:=HC.o i hi;rw[f.o.below.1.cell (p:=⟨b,o+i,none⟩) (zb0 w ⟨b,o+i,none⟩ W),W])
   have E:Hid (Calls prog 133 #[.slice (some ⟨b,o+q,none⟩) (ys.length-q) (cap-q)] wr λ e w'=>e=.returned (.tuple #[.int .i64 (IT (BJ (ys.drop q))),.int .i64 (IS (BJ (ys.drop q))),.int .i64 (IR (BJ (ys.drop q)))])/\w'=wr):=PN _ _ _ O.o (T.o.drop q);(have ac:q<cap:=by omega);(have ae:q<ys.length:=by omega);clear a3;go_wp2_with fail;refine E.o.mono ?_;clear E O;rintro e w2 ⟨rfl,rfl⟩;cases hn:BJ (ys.drop q)with
   | none=>(have A:Hid (R=none):=by show R=none;rw[<-I.o];refine WN (m:=k+1) ?_ a0;simp only[CI];rw[B.o];simp only[hn]);simp only[IT,IS,IR];clear hn;go_wp2_with fail;go_ret3;rw[A.o];exact⟨_,rfl,CB _ _ _,(f.o.below).1 |> λ b=>⟨AD.of_below b,λ k e=>by cases e⟩⟩
   | some r=>
    obtain⟨x,j⟩:=r;obtain⟨j1,j2,j3,_⟩:=Kb hn;rw[zg0]at j2;have hx:=PJ (T.o.drop q) hn;have a9:Hid (CI ys (k+1)=some (l++[x],q+j)):=by show _=_;simp only[CI];rw[B.o];simp only[hn]
    (have ad:l.length<=64:=by have:=(LB B.o).1;omega);simp only[IT,IS,IR];clear hn;go_wp2_with(at_builtin;refine ET _ rfl (.tmp 28) (.tmp 30) 23 rfl 3 .i64 8 DU _ l rfl J.o x rfl (by omega) (by omega) ?_)
    intro v3 w3 a2 Z;have a8:=z6 a2;have a7:=z6 (f.o.trans Z);clear a2 Z J f;go_wp2_with fail
    go_roundw
    (case rel=>exact⟨k+1,q+j,l++[x],by omega,by omega,by go_num,by go_num,a9,a8,a7⟩);case measure=>simp[intOf];omega
  .obtain rfl:k=m:=by omega
   (have A:Hid (R=some (l,q)):=by show R=_;rw[<-I.o];exact B.o);go_wp2_with fail;go_ret3;rw[A.o];exact⟨_,rfl,J.o,f.o⟩
def GK{q}{t u v x:Tmp}(h:q.results=#[.tmp t,.tmp u,.tmp v,.tmp x])(f P w):
 (results q f).run P w=.ok (.tuple #[f.getD t undef,f.getD u undef,f.getD v undef,f.getD x undef]) w:=by
 simp[results,h]
def DH(ys:List Int):Int×List Int×Int×Int:=
 if ys.length=0 then(3,[],0,0)else match BJ (ys.drop 1)with
  | none=>(3,[],0,0)
  | some r=>if ¬(5<=ys.getD 0 0/\ys.getD 0 0<=9)\/64<r.1 then(4,[],0,0)else match CI (ys.drop (1+r.2)) r.1.toNat with
   | none=>(3,[],0,0)
   | some t=>if A0 t.1 (ys.getD 0 0)=true then(0,t.1,ys.getD 0 0,((1+r.2+t.2:Nat):Int))else(4,[],0,0)
def Ek(R:Int×List Int×Int×Int)(w:World)(e:Ending)(w':World):Prop:=
 ∃d,e=.returned (.tuple #[d,.int .i64 R.2.2.1,.int .i64 R.2.2.2,.int .i64 R.1])/\Below w.heap.size w w'/\(∀k,d.ownBlock=some k->w.heap.size<=k)/\AF .i64 3 w' d R.2.1
def Ek.bad{E w w'}(f:Below w.heap.size w w'):Ek (E,[],0,0) w (.returned (.tuple #[.slice none 0 0,.int .i64 0,.int .i64 0,.int .i64 E])) w':=
 ⟨_,rfl,f,(λ k e=>by cases e),CB _ _ _⟩
def Sc{ys}(f:ys.length≠0)(h:BJ (ys.drop 1)=none):DH ys=(3,[],0,0):=by
 unfold DH
 grind
def Sb{ys n k}(f:ys.length≠0)(h:BJ (ys.drop 1)=some (n,k))(q:¬(5<=ys.getD 0 0/\ys.getD 0 0<=9)\/64<n):DH ys=(4,[],0,0):=by
 unfold DH
 grind
def Sd{ys n k}(f:ys.length≠0)(h:BJ (ys.drop 1)=some (n,k))(q:¬(¬(5<=ys.getD 0 0/\ys.getD 0 0<=9)\/64<n))(r:CI (ys.drop (1+k)) n.toNat=none):DH ys=(3,[],0,0):=by
 unfold DH
 grind
def Og{ys n k}(f:ys.length≠0)(h:BJ (ys.drop 1)=some (n,k))(q:¬(¬(5<=ys.getD 0 0/\ys.getD 0 0<=9)\/64<n)){l p}(r:CI (ys.drop (1+k)) n.toNat=some (l,p)):
 DH ys=if A0 l (ys.getD 0 0)=true then(0,l,ys.getD 0 0,((1+k+p:Nat):Int))else(4,[],0,0):=by
 unfold DH
 grind
def AAc(a cap w):
 Calls prog 210 #[.slice a 0 cap] w λ e w'=>Ek (DH []) w e w':=by
 go_enter func210,ntmps210
 go_wp2_with fail
 (try simp only[Exit.inBlock,Exit.then])
 refine bodyPost_ret (GK rfl _ _ _) rfl ?_;exact Ek.bad (Below.refl _ _)
def AAb(b o cap ys w)(hy:By ys)(h0:0<ys.length)(hl:ys.length<=cap)(ab:cap<=maxLen)(hc:∀i,i<ys.length->w.cell? ⟨b,o+i,none⟩=some (.int .u8 (ys.getD i 0))):
 Calls prog 210 #[.slice (some ⟨b,o,none⟩) ys.length cap] w λ e w'=>Ek (DH ys) w e w':=by
 have HC:=z6 hc;have HY:=z6 hy;have ai:=ab;unfold maxLen at ai;obtain⟨R,J⟩:=exH (DH ys);rw[J.o];obtain⟨y,a0⟩:=exH (ys.getD 0 0);have c0:w.cell? ⟨b,o,none⟩=some (.int .u8 y):=by have:=hc 0 h0;rw[Nat.add_zero]at this;rw[this,a0.o]
 have al:=hy 0;rw[a0.o]at al;have hz:((ys.length:Int)==0)=false:=by rw[zi0];omega
 have ae:ys.length≠0:=by omega
 have U:=z6 ae;clear hc hy ae;by_cases h1:ys.length=1
 .have HD:Hid (ys.drop 1=[]):=by show _=_;rw[<-h1];exact List.drop_length
  have q:Hid (R=(3,[],0,0)):=by show R=_;rw[<-J.o];exact Sc U.o (by rw[HD.o];rfl)
  have a4:Hid (∀a c,Calls prog 133 #[.slice a 0 c] w λ e w'=>e=.returned (.tuple #[.int .i64 0,.int .i64 0,.int .i64 3])/\w'=w):=λ a c=>PM a c w;have ag:ys.length-1=0:=by omega
  go_enter func210,ntmps210
  go_wp2_with fail;all_goals
   try rw[ag]
   refine(a4.o _ _).mono ?_;rintro e w2 ⟨rfl,rfl⟩;go_wp2_with fail
   (try simp only[Exit.inBlock,Exit.then])
   refine bodyPost_ret (GK rfl _ _ _) rfl ?_;rw[q.o];exact Ek.bad (Below.refl _ _)
 have h2:1<ys.length:=by omega
 have h3:1<cap:=by omega
 have aa:=z6 (rd_drop' 1 (by omega) hl ab HC.o);have a4:Hid (Calls prog 133 #[.slice (some ⟨b,o+1,none⟩) (ys.length-1) (cap-1)] w λ e w'=>e=.returned (.tuple #[.int .i64 (IT (BJ (ys.drop 1))),.int .i64 (IS (BJ (ys.drop 1))),.int .i64 (IR (BJ (ys.drop 1)))])/\w'=w):=PN _ _ _ aa.o (HY.o.drop 1);clear h1 aa
 go_enter func210,ntmps210
 go_wp2_with fail;refine a4.o.mono ?_;clear a4;rintro e w2 ⟨rfl,rfl⟩;cases hn:BJ (ys.drop 1)with
 | none=>
  have q:Hid (R=(3,[],0,0)):=by show R=_;rw[<-J.o];exact Sc U.o hn
  simp only[IT,IS,IR];clear hn;go_wp2_with fail
  (try simp only[Exit.inBlock,Exit.then])
  refine bodyPost_ret (GK rfl _ _ _) rfl ?_;rw[q.o];exact Ek.bad (Below.refl _ _)
 | some r=>
  obtain⟨n,k⟩:=r;obtain⟨k1,k2,k3,_⟩:=Kb hn;rw[zg0]at k2;have ak:=PJ (HY.o.drop 1) hn;have HN:=z6 hn;simp only[IT,IS,IR];clear hn;have a9:Hid (Calls prog 239 #[.int .i64 y] w2 λ e w'=>e=.returned (.bool (decide (5<=y/\y<=9)))/\w'=w2):=Hd y w2;go_wp2_with fail;refine a9.o.mono ?_;clear a9;rintro e f ⟨rfl,rfl⟩;by_cases a3:¬(5<=y/\y<=9)
  .have q:Hid (R=(4,[],0,0)):=by show R=_;rw[<-J.o];exact Sb U.o HN.o (.inl (by rw[a0.o];exact a3))
   (have hd:decide (5<=y/\y<=9)=false:=by rw[AT];exact a3);rw[hd];clear hd a3;go_wp2_with fail
   (try simp only[Exit.inBlock,Exit.then])
   refine bodyPost_ret (GK rfl _ _ _) rfl ?_;rw[q.o];exact Ek.bad (Below.refl _ _)
  have ac:5<=y/\y<=9:=Classical.not_not.1 a3;have hd:decide (5<=y/\y<=9)=true:=by rw[zg1];exact ac
  rw[hd];clear hd a3;by_cases a6:64<n
  .have q:Hid (R=(4,[],0,0)):=by show R=_;rw[<-J.o];exact Sb U.o HN.o (.inr a6)
   go_wp2_with fail
   (try simp only[Exit.inBlock,Exit.then])
   refine bodyPost_ret (GK rfl _ _ _) rfl ?_;rw[q.o];exact Ek.bad (Below.refl _ _)
  have an:decide (64<n)=false:=by rw[AT];exact a6
  obtain⟨m,rfl⟩:=Int.eq_ofNat_of_zero_le ak.1;have ad:m<=64:=by omega
  have HB:Hid (¬(¬(5<=ys.getD 0 0/\ys.getD 0 0<=9)\/64<(m:Int))):=by rw[a0.o];intro h;rcases h with h|h;exact h ac;exact a6 h
  obtain⟨T,X⟩:=exH (CI (ys.drop (1+k)) m);have a5:Hid (∀a c,((1+k<ys.length/\a=some ⟨b,o+(1+k),none⟩/\c=cap-(1+k))\/(1+k=ys.length/\(∃b o,a=some ⟨b,o,none⟩)/\c<=maxLen))->Calls prog 240 #[.slice a (ys.length-(1+k)) c,.int .i64 m] f λ e w'=>∃L,e=.returned (.tuple #[L,.int .i64 (Jl T:Int),.int .i64 (Jm T)])/\AF .i64 3 w' L (M9 T)/\AY f w' (.slice none 0 0) L):=by
   intro a c h;rw[<-X.o];rcases h with⟨h1,rfl,rfl⟩|⟨h1,⟨b',o',rfl⟩,h2⟩
   .have:=WD b (o+(1+k)) (cap-(1+k)) (ys.drop (1+k)) m f (HY.o.drop _) (by rw[zg0];omega) (by omega) ad (λ i hi=>by
     rw[zg0]at hi;rw[Nat.add_assoc,HC.o (1+k+i) (by omega),AP,AP,zp0])
    rw[zg0]at this;exact this
   .have e:ys.drop (1+k)=[]:=by rw[h1];exact List.drop_length
    have:=WD b' o' c [] m f (λ i=>by simp) (AI _) h2 ad (λ i hi=>by simp at hi);rw[e,show ys.length-(1+k)=0 by omega];exact this
  have am:1+k<=ys.length:=by omega
  have Z:Hid (∀L wq,AF .i64 3 wq L (M9 T)->AY f wq (.slice none 0 0) L->Below f.heap.size f wq/\(∀k,L.ownBlock=some k->f.heap.size<=k)/\Calls prog 226 #[L,.int .i64 y] wq λ e w'=>e=.returned (.bool (A0 (M9 T) y))/\w'=wq):=λ L wq ho hg=>⟨hg.below.1,hg.below.2,He _ _ _ _ ho.rd⟩
  clear a6 HC;by_cases a7:1+k=ys.length
  .have af:=z6 a7;clear a7;go_wp2_with fail;all_goals
    refine(a5.o _ _ (.inr ⟨af.o,⟨_,_,rfl⟩,by omega⟩)).mono ?_;clear a5;rintro e B ⟨O,rfl,A,K⟩;cases hTT:T with
    | none=>
     (have q:Hid (R=(3,[],0,0)):=by show R=_;rw[<-J.o];exact Sd U.o HN.o HB.o (by rw[Int.toNat_natCast,X.o,hTT]));rw[hTT]at A;obtain⟨E,_⟩:=K.below;have I:Hid (Below f.heap.size f B):=E;simp only[Jl,Jm];clear A K E hTT Z;go_wp2_with fail
     (try simp only[Exit.inBlock,Exit.then])
     refine bodyPost_ret (GK rfl _ _ _) rfl ?_;rw[q.o];exact Ek.bad I.o
    | some t=>
     obtain⟨l,p⟩:=t;(have q:Hid (R=if A0 l y=true then(0,l,y,((1+k+p:Nat):Int))else(4,[],0,0)):=by show R=_;rw[<-J.o,Og U.o HN.o HB.o (by rw[Int.toNat_natCast,X.o,hTT]),a0.o]);obtain⟨E,a2,Y⟩:=Z.o O B A K;rw[hTT]at A Y;have a8:=(LB (by rw[X.o,hTT]:CI (ys.drop (1+k)) m=some (l,p))).2;rw[zg0]at a8;have I:Hid (Below f.heap.size f B):=E;have F4:Hid (∀k,O.ownBlock=some k->f.heap.size<=k):=a2;have O4:Hid (AF .i64 3 B O l):=A;have a1:Hid (Calls prog 226 #[O,.int .i64 y] B λ e w'=>e=.returned (.bool (A0 l y))/\w'=B):=Y;simp only[Jl,Jm];clear A K E a2 Y hTT Z;go_wp2_with fail;refine a1.o.mono ?_;clear a1;rintro e w5 ⟨rfl,rfl⟩;cases hmay:A0 l y with
     | false=>
      (have W:Hid (R=(4,[],0,0)):=by show R=_;rw[q.o,if_neg (by rw[hmay];simp)]);clear hmay;go_wp2_with fail
      (try simp only[Exit.inBlock,Exit.then])
      refine bodyPost_ret (GK rfl _ _ _) rfl ?_;rw[W.o];exact Ek.bad I.o
     | true=>
      (have W:Hid (R=(0,l,y,((1+k+p:Nat):Int))):=by show R=_;rw[q.o,if_pos hmay]);clear hmay;go_wp2_with fail
      (try simp only[Exit.inBlock,Exit.then])
      refine bodyPost_ret (GK rfl _ _ _) rfl ?_;rw[W.o];exact⟨_,by first|rfl|(push_cast;rfl),I.o,F4.o,O4.o⟩
  .have aj:1+k<ys.length:=by omega
   (have ao:1+k<cap:=by omega);clear a7;go_wp2_with fail;refine(a5.o _ _ (.inl ⟨aj,rfl,rfl⟩)).mono ?_;clear a5;rintro e B ⟨O,rfl,A,K⟩;cases hTT:T with
   | none=>
    (have q:Hid (R=(3,[],0,0)):=by show R=_;rw[<-J.o];exact Sd U.o HN.o HB.o (by rw[Int.toNat_natCast,X.o,hTT]));rw[hTT]at A;obtain⟨E,_⟩:=K.below;have I:Hid (Below f.heap.size f B):=E;simp only[Jl,Jm];clear A K E hTT Z;go_wp2_with fail
    (try simp only[Exit.inBlock,Exit.then])
    refine bodyPost_ret (GK rfl _ _ _) rfl ?_;rw[q.o];exact Ek.bad I.o
   | some t=>
    obtain⟨l,p⟩:=t;(have q:Hid (R=if A0 l y=true then(0,l,y,((1+k+p:Nat):Int))else(4,[],0,0)):=by show R=_;rw[<-J.o,Og U.o HN.o HB.o (by rw[Int.toNat_natCast,X.o,hTT]),a0.o]);obtain⟨E,a2,Y⟩:=Z.o O B A K;rw[hTT]at A Y;have a8:=(LB (by rw[X.o,hTT]:CI (ys.drop (1+k)) m=some (l,p))).2;rw[zg0]at a8;have I:Hid (Below f.heap.size f B):=E;have F4:Hid (∀k,O.ownBlock=some k->f.heap.size<=k):=a2;have O4:Hid (AF .i64 3 B O l):=A;have a1:Hid (Calls prog 226 #[O,.int .i64 y] B λ e w'=>e=.returned (.bool (A0 l y))/\w'=B):=Y;simp only[Jl,Jm];clear A K E a2 Y hTT Z;go_wp2_with fail;refine a1.o.mono ?_;clear a1;rintro e w5 ⟨rfl,rfl⟩;cases hmay:A0 l y with
    | false=>
     (have W:Hid (R=(4,[],0,0)):=by show R=_;rw[q.o,if_neg (by rw[hmay];simp)]);clear hmay;go_wp2_with fail
     (try simp only[Exit.inBlock,Exit.then])
     refine bodyPost_ret (GK rfl _ _ _) rfl ?_;rw[W.o];exact Ek.bad I.o
    | true=>
     (have W:Hid (R=(0,l,y,((1+k+p:Nat):Int))):=by show R=_;rw[q.o,if_pos hmay]);clear hmay;go_wp2_with fail
     (try simp only[Exit.inBlock,Exit.then])
     refine bodyPost_ret (GK rfl _ _ _) rfl ?_;rw[W.o];exact⟨_,by first|rfl|(push_cast;rfl),I.o,F4.o,O4.o⟩
def AAd(v ys w)(h:Rd .u8 w v ys)(A:By ys):
 Calls prog 210 #[v] w λ e w'=>Ek (DH ys) w e w':=by
 obtain⟨a,cap,rfl,q,r,_,h⟩:=h;by_cases f:ys.length=0;obtain rfl:ys=[]:=ze0 f;exact AAc a cap w
 .rcases h with rfl|⟨b,o,rfl,hc⟩
  .exact absurd rfl f
  .exact AAb b o cap ys w A (by omega) q r hc
structure So(n0:Nat)(w:World)(g:Nat)(lv:Value)(σ:Option (List Int)):Prop where
 blk:w.heap[g]?=some (.cells #[lv,.bool σ.isNone] 191 (0,0))
 rd:Rd .u8 w lv (σ.getD [])
 bys:By (σ.getD [])
 old:∀k,lv.ownBlock=some k->k<n0
 new:n0<=g
 small:(σ.getD []).length<=140737488355328
def AZ(n0:Nat)(w:World)(g:Nat)(σ:Option (List Int)):Prop:=∃lv,So n0 w g lv σ
structure Tk(n0:Nat)(w:World)(v:Value)(xs:List Int):Prop where
 rd:Rd .u8 w v xs
 bys:By xs
 old:∀k,v.ownBlock=some k->k<n0
def Tk.tch{S n0 w w' v xs}(h:Tk n0 w v xs)(q:AD S w w')(r:∀k,S k->n0<=k):Tk n0 w' v xs:=
 ⟨h.rd.tch q (λ b f e=>by have:=h.old b f;grind),h.bys,h.old⟩
def By.nil:By []:=λ i=>by simp
def Mi(k w):Rd k w (.slice none 0 0) []:=⟨none,0,rfl,AE _,by omega,λ _=>rfl,.inl rfl⟩
def Tk.nil(n0 w):Tk n0 w (.slice none 0 0) []:=⟨Mi _ _,By.nil,λ k e=>by cases e⟩
section
variable {n0:Nat} {w w':World} {g:Nat} {lv:Value} {σ:Option (List Int)}
def So.c0(h:So n0 w g lv σ):w.cell? ⟨g,0,none⟩=some lv:=by rw[cell_of_row w g 0 _ _ (0,0) h.blk];rfl
def So.c1(h:So n0 w g lv σ):w.cell? ⟨g,1,none⟩=some (.bool σ.isNone):=by rw[cell_of_row w g 1 _ _ (0,0) h.blk];rfl
def So.fz(h:So n0 w g lv σ)(j):w.frozen? ⟨g,j,none⟩=false:=frozen_of_row w g j _ _ h.blk
def So.lt(h:So n0 w g lv σ):g<w.heap.size:=(za0.1 h.blk).1
def So.tch{S}(h:So n0 w g lv σ)(f:AD S w w')(r:¬S g)(A:∀k,S k->n0<=k):So n0 w' g lv σ:=
 ⟨by rw[f.block g h.lt r];exact h.blk,h.rd.tch f (λ b q e=>by have:=h.old b q;grind),h.bys,h.old,h.new,h.small⟩
def So.below(h:So n0 w g lv σ)(f:Below w.heap.size w w'):So n0 w' g lv σ:=h.tch (S:=λ _=>False) (AD.of_below f) (λ e=>e) (λ _ e=>e.elim)
def AZ.below(h:AZ n0 w g σ)(f:Below w.heap.size w w'):AZ n0 w' g σ:=by obtain⟨lv,h⟩:=h;exact⟨lv,h.below f⟩
def AZ.tch{S}(h:AZ n0 w g σ)(r:AD S w w')(f:¬S g)(q:∀k,S k->n0<=k):AZ n0 w' g σ:=by obtain⟨lv,h⟩:=h;exact⟨lv,h.tch r f q⟩
def AZ.lt(h:AZ n0 w g σ):g<w.heap.size:=by obtain⟨lv,h⟩:=h;exact h.lt
def AZ.new(h:AZ n0 w g σ):n0<=g:=by obtain⟨lv,h⟩:=h;exact h.new
def AZ.bys(h:AZ n0 w g σ):By (σ.getD []):=by obtain⟨lv,h⟩:=h;exact h.bys
end
def Aj(σ:Option (List Int))(b:Bool):Option (List Int):=if b then σ else none
def DQ(n0 g σ b w)(h:AZ n0 w g σ):
 Calls prog 134 #[.pointer (some ⟨g,0,none⟩),.bool b] w λ e w'=>e=.returned (.bool (Aj σ b).isSome)/\AZ n0 w' g (Aj σ b)/\AD (λ k=>k=g) w w':=by
 obtain⟨lv,h⟩:=h;have H:=z6 h;have A:=h.c0;have c1:=h.c1;have B:=h.fz 0;have E:=h.fz 1;clear h;cases b with
 | true=>
  cases σ with
  | none=>
   simp only[Option.isNone_none]at c1
   go_enter func134,ntmps134
   go_wp2;go_ret;exact⟨rfl,⟨lv,H.o⟩,AD.refl _ _⟩
  | some l=>
   simp only[Option.isNone_some]at c1
   go_enter func134,ntmps134
   go_wp2;go_ret;exact⟨rfl,⟨lv,H.o⟩,AD.refl _ _⟩
 | false=>
  have f:Hid (AZ n0 ((w.setCell ⟨g,0,none⟩ (.slice none 0 0)).setCell ⟨g,1,none⟩ (.bool true)) g none/\AD (λ k=>k=g) w ((w.setCell ⟨g,0,none⟩ (.slice none 0 0)).setCell ⟨g,1,none⟩ (.bool true))):=by refine⟨⟨.slice none 0 0,?_,Mi _ _,By.nil,(λ k e=>by cases e),H.o.new,by simp⟩,((AD.refl (λ k=>k=g) w).setCell (p:=⟨g,0,none⟩) (λ _=>rfl) _).setCell (p:=⟨g,1,none⟩) (λ _=>rfl) _⟩;have q:=heap_setCell_same w g 0 _ _ (.slice none 0 0) H.o.blk;have r:=heap_setCell_same _ g 1 _ _ (.bool true) q;rw[r];simp
  generalize σ.isNone=bb at c1
  go_enter func134,ntmps134
  go_wp2;go_ret;exact⟨rfl,f.o.1,f.o.2⟩
def Ay(σ:Option (List Int))(n:Nat):List Int×Option (List Int):=match σ with
 | none=>([],none)
 | some l=>if n<=l.length then(l.take n,some (l.drop n))else([],none)
def Hj(n0 g σ)(n:Nat)(w)(h:AZ n0 w g σ)(hn:n<=9007199254740992):
 Calls prog 132 #[.pointer (some ⟨g,0,none⟩),.int .i64 (n:Int)] w λ e w'=>∃r,e=.returned r/\Tk n0 w' r (Ay σ n).1/\AZ n0 w' g (Ay σ n).2/\AD (λ k=>k=g) w w':=by
 obtain⟨lv,h⟩:=h;have H:=z6 h;have ae:=h.new;have c0:=h.c0;have f0:=h.fz 0;obtain⟨a,cap,hv,a8,ad,_,_⟩:=h.rd;have ac:=h.small;obtain⟨L,hL⟩:=exN ((σ.getD []).length);have Z:=z6 hL;rw[hL]at hv a8 ac;clear h hL;subst hv;have O:Hid (∀b,Calls prog 134 #[.pointer (some ⟨g,0,none⟩),.bool b] w λ e w'=>e=.returned (.bool (Aj σ b).isSome)/\AZ n0 w' g (Aj σ b)/\AD (λ k=>k=g) w w'):=λ b=>DQ n0 g σ b w ⟨_,H.o⟩;by_cases T:n<=L
 .have aa:decide (n<=L)=true:=by rw[zg1];exact T
  have I:=O.o true;cases σ with
  | none=>
   have B:=z6 I;clear O I
   go_enter func132,ntmps132
   go_wp2_with fail;refine B.o.mono ?_;clear B;rintro e f ⟨rfl,A,E⟩;have q:=z6 A;have J:Hid (AD (λ k=>k=g) w f):=E;clear A E;go_wp2_with fail;go_ret;exact⟨_,rfl,Tk.nil _ _,q.o,J.o⟩
  | some l=>
   have B:Hid (Calls prog 134 #[.pointer (some ⟨g,0,none⟩),.bool true] w λ e w'=>e=.returned (.bool true)/\AZ n0 w' g (some l)/\AD (λ k=>k=g) w w'):=I;have a0:Hid (l.length=L):=Z.o;(have a5:Ay (some l) n=(l.take n,some (l.drop n)):=by unfold Ay;simp only;rw[if_pos (by rw[a0.o];exact T)]);have X:Hid (Ay (some l) n=(l.take n,some (l.drop n))):=a5;clear O I Z a5
   go_enter func132,ntmps132
   go_wp2_with fail;refine B.o.mono ?_;clear B c0 f0 H;rintro e f ⟨rfl,⟨W,A⟩,E⟩;have q:Hid (So n0 f g W (some l)):=A;have J:Hid (AD (λ k=>k=g) w f):=E;have d0:=A.c0;have e0:=A.fz 0;have a1:Hid (Rd .u8 f W l):=A.rd;clear A E;go_wp2_with(with_reducible (show wpList _ _ _ (Oper.mk _ (Op.slice _ _ none _ _) _ _ _ _::_) _ _);refine Qj Kr _ f rfl (.tmp 19) (.tmp 20) rfl _ l rfl a1.o n rfl (by rw[a0.o];exact T) ?_)
   intro U K hb;have TK:Hid (Rd .u8 f U (l.take n)):=K;have TB:Hid (∀k,U.ownBlock=some k->W.ownBlock=some k):=hb;clear K hb;go_wp2_with(with_reducible (show wpList _ _ _ (Oper.mk _ (Op.slice _ _ (some _) _ _) _ _ _ _::_) _ _);refine LI Kr _ f rfl (.tmp 26) (.tmp 27) rfl _ l rfl a1.o n rfl (by rw[a0.o];exact T) ?_)
   intro r hr a4;have HR:Hid (Rd .u8 f r (l.drop n)):=hr;have a3:Hid (∀k,r.ownBlock=some k->W.ownBlock=some k):=a4;have Y:Hid (Tk n0 (f.setCell ⟨g,0,none⟩ r) U (l.take n)/\AZ n0 (f.setCell ⟨g,0,none⟩ r) g (some (l.drop n))/\AD (λ k=>k=g) w (f.setCell ⟨g,0,none⟩ r)):=by
    have K:AD (λ k=>k=g) f (f.setCell ⟨g,0,none⟩ r):=(AD.refl (λ k=>k=g) f).setCell (p:=⟨g,0,none⟩) (λ _=>rfl) _;have a2:By l:=q.o.bys;have af:l.length<=140737488355328:=q.o.small;have a9:Tk n0 f U (l.take n):=⟨TK.o,a2.take n,λ k hk=>q.o.old k (TB.o k hk)⟩
    have a6:Tk n0 f r (l.drop n):=⟨HR.o,a2.drop n,λ k hk=>q.o.old k (a3.o k hk)⟩
    refine⟨a9.tch K (λ k e=>by rw[e];exact q.o.new),⟨r,?_,(a6.tch K (λ k e=>by rw[e];exact q.o.new)).rd,a2.drop n,a6.old,q.o.new,by simp only[Option.getD_some,zg0];omega⟩,J.o.trans K (λ _ _ e=>e)⟩;rw[heap_setCell_same f g 0 _ _ r q.o.blk];simp
   obtain⟨ra,rc,a7,_⟩:=hr;obtain⟨rl,ab⟩:=exH ((l.drop n).length);rw[ab.o]at a7;clear a4 TK TB HR a3 q J a1;subst a7;go_wp2_with fail;go_ret;rw[X.o];exact⟨U,rfl,Y.o.1,Y.o.2.1,Y.o.2.2⟩
 .have aa:decide (n<=L)=false:=by rw[AT];exact T
  have I:=O.o false;have B:Hid (Calls prog 134 #[.pointer (some ⟨g,0,none⟩),.bool false] w λ e w'=>e=.returned (.bool false)/\AZ n0 w' g none/\AD (λ k=>k=g) w w'):=I;have X:Hid (Ay σ n=([],none)):=by
   show _=_;cases σ with
   | none=>rfl
   | some l=>unfold Ay;simp only;rw[if_neg];have:=Z.o;simp only[Option.getD_some]at this;omega
  clear O I
  go_enter func132,ntmps132
  go_wp2_with fail;refine B.o.mono ?_;clear B;rintro e f ⟨rfl,A,E⟩;have q:Hid (AZ n0 f g none):=A;have J:Hid (AD (λ k=>k=g) w f):=E;clear A E;go_wp2_with fail;go_ret;rw[X.o];exact⟨_,rfl,Tk.nil _ _,q.o,J.o⟩
def BQ(σ:Option (List Int)):Int×Option (List Int):=match σ with
 | none=>(0,none)
 | some l=>if 1<=l.length then(l.getD 0 0,some (l.drop 1))else(0,none)
def QE(n0 g σ w)(h:AZ n0 w g σ):
 Calls prog 107 #[.pointer (some ⟨g,0,none⟩)] w λ e w'=>e=.returned (.int .u8 (BQ σ).1)/\AZ n0 w' g (BQ σ).2/\AD (λ k=>k=g) w w':=by
 have H:=Hj n0 g σ 1 w h (by omega);have J:=z6 H;clear H h
 go_enter func107,ntmps107
 go_wp2_with fail;refine J.o.mono ?_;rintro e E ⟨Z,rfl,B,A,O⟩;have K:=z6 O;clear J O;by_cases hc:∃x r,σ=some (x::r)
 .obtain⟨x,r,rfl⟩:=hc;have I:Hid (AZ n0 E g (some r)):=by simpa[Ay,Hid]using A
  have Y:Rd .u8 E Z [x]:=by simpa[Ay]using B.rd
  obtain⟨a,cap,rfl,W,X,_,q⟩:=Y;have U:∃b o,a=some ⟨b,o,none⟩/\∀i,i<([x]:List Int).length->E.cell? ⟨b,o+i,none⟩=some (.int .u8 (([x]:List Int).getD i 0)):=by rcases q with h|h;cases h;exact h
  clear q;obtain⟨b,o,rfl,q⟩:=U;have cx:E.cell? ⟨b,o,none⟩=some (.int .u8 x):=q 0 (by simp);have f:([x]:List Int).length=1:=rfl;rw[f];clear q B A W X f;go_wp2_with fail;go_ret;exact⟨rfl,by simpa[BQ]using I.o,K.o⟩
 .have f:Ay σ 1=([],none):=by
   cases σ with
   | none=>rfl
   | some l=>
    cases l with
    | nil=>rfl
    | cons x r=>exact absurd ⟨x,r,rfl⟩ hc
  have L:BQ σ=(0,none):=by
   cases σ with
   | none=>rfl
   | some l=>
    cases l with
    | nil=>rfl
    | cons x r=>exact absurd ⟨x,r,rfl⟩ hc
  have T:Hid (BQ σ=(0,none)):=L;rw[f]at A B;have I:Hid (AZ n0 E g none):=A;obtain⟨a,cap,rfl,_⟩:=B.rd;clear A B f L hc;simp only[List.length_nil];go_wp2_with fail;go_ret;rw[T.o];exact⟨rfl,I.o,K.o⟩
def AV(σ:Option (List Int)):Int×Option (List Int):=match σ with
 | none=>(0,none)
 | some l=>match BJ l with
  | none=>(0,none)
  | some r=>(r.1,some (l.drop r.2))
def Jc{σ}(h:By (σ.getD [])):0<=(AV σ).1/\(AV σ).1<=4294967295:=by
 cases σ with
 | none=>decide
 | some l=>
  unfold AV;simp only;cases e:BJ l with
  | none=>simp
  | some r=>exact PJ h (n:=r.1) (k:=r.2) e
def Mv(n0 g σ w)(h:AZ n0 w g σ):
 Calls prog 108 #[.pointer (some ⟨g,0,none⟩)] w λ e w'=>e=.returned (.int .i64 (AV σ).1)/\AZ n0 w' g (AV σ).2/\AD (λ k=>k=g) w w':=by
 obtain⟨lv,h⟩:=h;have H:=z6 h;have Z:=h.c0;clear h;have f:=PN lv (σ.getD []) w H.o.rd H.o.bys;by_cases hc:∃l r,σ=some l/\BJ l=some r
 .obtain⟨l,⟨n,k⟩,rfl,hr⟩:=hc;have W:=Kb (n:=n) (k:=k) hr;simp only[Option.getD_some]at f;rw[hr]at f;have A:=z6 f;have O:Hid (AV (some l)=(n,some (l.drop k))):=by show _=_;unfold AV;simp only;rw[hr]
  have HB:Hid (Ay (some l) k=(l.take k,some (l.drop k))):=by show _=_;unfold Ay;simp only;rw[if_pos W.2.1]
  have hk:=W.2.2.1;clear f hr W
  go_enter func108,ntmps108
  go_wp2_with fail;refine A.o.mono ?_;clear A;rintro e L ⟨rfl,rfl⟩;go_wp2_with fail;refine(DQ n0 g (some l) true L ⟨_,H.o⟩).mono ?_;rintro e X ⟨rfl,I,J⟩;have B:=z6 I;have E:=z6 J;clear I J Z H;go_wp2_with fail;refine(Hj n0 g (some l) k X B.o (by omega)).mono ?_;rintro e Y ⟨rv,rfl,_,q,K⟩;rw[HB.o]at q;have T:=z6 q;have U:Hid (AD (λ k=>k=g) L Y):=E.o.trans K (λ _ _ e=>e);clear q K B E;go_wp2_with fail;go_ret;rw[O.o];exact⟨rfl,T.o,U.o⟩
 .have hr:BJ (σ.getD [])=none:=by
   cases σ with
   | none=>rfl
   | some l=>
    simp only[Option.getD_some];cases e:BJ l with
    | none=>rfl
    | some r=>exact absurd ⟨l,r,rfl,e⟩ hc
  have O:Hid (AV σ=(0,none)):=by
   show _=_;cases σ with
   | none=>rfl
   | some l=>unfold AV;simp only[Option.getD_some]at hr |-;rw[hr]
  rw[hr]at f;have A:=z6 f;clear f hr hc
  go_enter func108,ntmps108
  go_wp2_with fail;refine A.o.mono ?_;clear A;rintro e L ⟨rfl,rfl⟩;go_wp2_with fail;refine(DQ n0 g σ false L ⟨_,H.o⟩).mono ?_;rintro e X ⟨rfl,I,J⟩;have B:=z6 I;have E:=z6 J;clear I J Z H;go_wp2_with fail;refine(Hj n0 g none 0 X B.o (by omega)).mono ?_;rintro e Y ⟨rv,rfl,_,q,K⟩;have T:=z6 q;have U:Hid (AD (λ k=>k=g) L Y):=E.o.trans K (λ _ _ e=>e);clear q K B E;go_wp2_with fail;go_ret;rw[O.o];exact⟨rfl,T.o,U.o⟩
def C6(σ:Option (List Int)):List Int×Option (List Int):=Ay (AV σ).2 (AV σ).1.toNat
def QG(n0 g σ w)(h:AZ n0 w g σ):
 Calls prog 171 #[.pointer (some ⟨g,0,none⟩)] w λ e w'=>∃f,e=.returned f/\Tk n0 w' f (C6 σ).1/\AZ n0 w' g (C6 σ).2/\AD (λ k=>k=g) w w':=by
 have q:=Jc h.bys;obtain⟨n,A⟩:=Int.eq_ofNat_of_zero_le q.1;have H:=Mv n0 g σ w h;rw[A]at H q;have E:=z6 H;have T:Hid (C6 σ=Ay (AV σ).2 n):=by show _=_;unfold C6;rw[A,Int.toNat_natCast]
 have a0:n<=4294967295:=by omega
 clear H q A h
 go_enter func171,ntmps171
 go_wp2_with fail;refine E.o.mono ?_;clear E;rintro e Y ⟨rfl,K,L⟩;have I:=z6 K;have J:=z6 L;clear K L;go_wp2_with fail;refine(Hj n0 g _ n Y I.o (by omega)).mono ?_;rintro e Z ⟨f,rfl,r,B,O⟩;rw[<-T.o]at r B;have U:=z6 r;have W:=z6 B;have X:Hid (AD (λ k=>k=g) w Z):=J.o.trans O (λ _ _ e=>e);clear r B O I J;go_wp2_with fail;go_ret;exact⟨f,rfl,U.o,W.o,X.o⟩
def Ev(xs:List Int):Nat->Int
 | 0=>0
 | k+1=>Ev xs k+xs.getD k 0*2 ^ (8*k)
def Tg{xs:List Int}(h:By xs):∀k,0<=Ev xs k/\Ev xs k<2 ^ (8*k)
 | 0=>by simp[Ev]
 | k+1=>by
  have A:=Tg h k;have f:=h k;simp only[Ev];have e:(2:Int) ^ (8*(k+1))=2 ^ (8*k)*256:=by grind
  rw[e];generalize (2:Int) ^ (8*k)=P at *
  have q:0<=xs.getD k 0*P:=Int.mul_nonneg f.1 (by omega);have r:xs.getD k 0*P<=255*P:=Int.mul_le_mul_of_nonneg_right f.2 (by omega);omega
def E8(σ:Option (List Int)):Int×Option (List Int):=(Ev (Ay σ 4).1 (Ay σ 4).1.length,(Ay σ 4).2)
def Np(σ n):(Ay σ n).1.length<=n:=by
 cases σ with
 | none=>simp[Ay]
 | some l=>unfold Ay;grind
def ADl(xs)(h:By xs)(k)(J:k<4)(x)(r:xs.getD k 0=x):Go.bits BinOp.or IntKind.i64 (Ev xs k) (wrap64 (x*2 ^ (8*k)))=Ev xs (k+1):=by
 have q:=Tg h k;have f:=h k;rw[r]at f;simp only[Ev];rw[r];have K:(2:Int) ^ (8*k)<=2 ^ 24:=Gt (by omega);have L:(0:Int)<2 ^ (8*k):=Int.pow_pos (by decide);have A:(2:Int) ^ 24=16777216:=by decide
 have B:(2:Int) ^ 62=4611686018427387904:=by decide
 have E:0<=x*2 ^ (8*k):=Int.mul_nonneg f.1 (by omega);have I:x*2 ^ (8*k)<=255*16777216:=Int.mul_le_mul f.2 (by omega) (by omega) (by decide);rw[IntWalk.wrap64_in _ ⟨by omega,by omega⟩];exact PO _ _ _ q.1 q.2 f.1 (by omega) (by omega)
def AGF(n0 g σ w)(h:AZ n0 w g σ):
 Calls prog 110 #[.pointer (some ⟨g,0,none⟩)] w λ e w'=>e=.returned (.int .i64 (E8 σ).1)/\AZ n0 w' g (E8 σ).2/\AD (λ k=>k=g) w w':=by
 have E:=z6 h;have Z:=Np σ 4;unfold E8;obtain⟨f,O⟩:=exH ((Ay σ 4).1);rw[O.o]at Z |-
 simp only;clear h
 go_enter func110,ntmps110
 go_wp2_with fail;refine(Hj n0 g σ 4 w E.o (by omega)).mono ?_;rintro e T ⟨rv,rfl,r,K,L⟩;rw[O.o]at r;have W:=z6 K;have X:=z6 L;have I:=z6 r.bys;obtain⟨a,cap,rfl,a1,a2,_,q⟩:=r.rd;have U:=z6 q;clear r K L E q;go_wp2_with fail
 go_loop [3,9] (λ s i=>∃k:Nat,k<=f.length/\i=.int .i64 k/\s=.int .i64 (Ev f k)) (λ _ i=>f.length-(intOf i).toNat)
 case atStart=>exact⟨0,AI _,rfl,rfl⟩
 case round=>
  obtain⟨k,hk,rfl,rfl⟩:=hrel;by_cases A:k<f.length
  .obtain⟨b,o,rfl,q⟩:∃b o,a=some ⟨b,o,none⟩/\∀i,i<f.length->T.cell? ⟨b,o+i,none⟩=some (.int .u8 (f.getD i 0)):=by rcases U.o with h|h;rw[h]at A;simp at A;exact h
   obtain⟨x,B⟩:=exH (f.getD k 0);(have cx:T.cell? ⟨b,o+k,none⟩=some (.int .u8 x):=by rw[q k A,B.o]);have a0:=I.o k;rw[B.o]at a0;(have Y:k<4:=by omega);obtain⟨m,J⟩:=exH (Ev f (k+1));(have a3:bits BinOp.or IntKind.i64 (Ev f k) (wrap64 (x*2 ^ (8*k)))=m:=by rw[<-J.o];exact ADl f I.o k Y x B.o);clear q;go_wp2
   go_round
   (case rel=>exact⟨k+1,by omega,by go_num,by rw[J.o]⟩);case measure=>simp[intOf];omega
  .obtain rfl:k=f.length:=by omega
   go_wp2;go_ret;exact⟨rfl,W.o,X.o⟩
def SS(v xs w)(h:Rd .u8 w v xs)(O:xs.length<=140737488355328):
 Calls prog 154 #[v] w λ e w'=>∃f,e=.returned f/\w'.ownsRow 0 5 1 f xs.length (xs.map (Value.int .u8))/\Below w.heap.size w w'/\∀k,f.ownBlock=some k->w.heap.size<=k:=by
 obtain⟨L,B,I,J,K⟩:=info_parts S8;have H:=Mw h;have q:Hid (Ij w v (xs.map (Value.int .u8))):=H;clear H h
 go_enter func154,ntmps154
 go_wp2_with(at_builtin;refine LH _ rfl (.const (Value.slice none 0 0)) (.tmp 3) 40 rfl 5 L (.int .u8 0) 1 underlying40 B I J K rfl (.slice none 0 0) [] rfl (World.ownsRow_nil _ _ _ _) _ (xs.map (Value.int .u8)) rfl q.o ?b1 ?b2 ?_)
 case b1=>simp;unfold maxLen;omega
 case b2=>simp;omega
 intro f U T A r;go_wp2;go_ret;refine⟨f,rfl,by omega,(Below.refl _ _).grown A (AE _) (λ k e=>by cases e),λ k E=>?_⟩;rcases r k E with e|e;cases e;exact e
def MZ(w):
 Calls prog 201 #[] w λ e w'=>e=.returned (.pointer (some ⟨w.heap.size,0,none⟩))/\Wr w' w.heap.size (.slice none 0 0) []/\Below w.heap.size w w':=by
 go_enter func201,ntmps201
 go_wp2;go_ret;refine⟨rfl,⟨?_,World.ownsRow_nil _ _ _ _,Ai.nil⟩,(Below.refl _ _).alloc (AE _) _⟩;exact heap_alloc_new w _
def MB(v xs w)(h:Rd .u8 w v xs)(B:xs.length<=140737488355328):
 Calls prog 154 #[v] w λ e w'=>∃f,e=.returned f/\AF .u8 5 w' f xs/\AY w w' (.slice none 0 0) f:=by
 refine(SS v xs w h B).mono ?_;rintro e w' ⟨f,rfl,q,r,A⟩;exact⟨f,rfl,q,AD.of_below r,λ k E=>.inr (A k E)⟩
def Nr(b q bs w)(h:Wr w b q bs)(I:bs.length<=1125899906842000):
 Calls prog 204 #[.pointer (some ⟨b,0,none⟩)] w λ e w'=>∃f,e=.returned f/\w'.ownsRow 0 5 1 f (AJ bs).length ((AJ bs).map (Value.int .u8))/\
  Below w.heap.size w w'/\∀k,f.ownBlock=some k->w.heap.size<=k:=by
 have r:=h.c0;have H:Hid (Wr w b q bs):=h;clear h
 go_enter func204,ntmps204
 go_wp2_with fail;refine(SS q (AJ bs) w (Pg H.o.own) (by rw[Cn];omega)).mono ?_;rintro e J ⟨f,rfl,A,B,E⟩;go_wp2;go_ret;simp_all
def AIn(b o cap ls w)(X:ls.length<=256)(hc:∀i,i<ls.length->w.cell? ⟨b,o+i,none⟩=some (.int .i64 (ls.getD i 0))):
 Calls prog 220 #[.slice (some ⟨b,o,none⟩) ls.length cap] w λ e w'=>e=.returned (.int .i64 (zc 16 ls:Int))/\w'=w:=by
 have J:=z6 hc;clear hc
 go_enter func220,ntmps220
 go_wp2
 go_loop [3] (λ n=>∃k:Nat,k<=16/\k<=ls.length/\n=.int .i64 k/\Hid (∀i,i<k->ls.getD i 0=0)) (λ n=>16-(intOf n).toNat)
 case atStart=>exact⟨0,by omega,AI _,rfl,λ i T=>by omega⟩
 case round=>
  obtain⟨k,A,B,rfl,r⟩:=hrel;by_cases I:k<ls.length
  .by_cases O:k<16
   .obtain⟨x,E⟩:=exH (ls.getD k 0);(have U:w.cell? ⟨b,o+k,none⟩=some (.int .i64 x):=by rw[J.o k I,E.o]);by_cases f:x=0
    .have L:(x==0)=true:=by simp[f]
     have K:Hid (∀i,i<k+1->ls.getD i 0=0):=λ i T=>by
      by_cases e:i<k;exact r.o i e
      .obtain rfl:i=k:=by omega
       rw[E.o,f]
     clear f;go_wp2
     go_round
     (case rel=>exact⟨k+1,by omega,by omega,by go_num,K⟩);case measure=>simp[intOf];omega
    .have L:(x==0)=false:=by simp[f]
     have q:=z6 (Qm 16 ls k A B r.o (λ⟨_,_,e⟩=>f (by rw[E.o]at e;exact e)));clear f;go_wp2;go_ret;exact⟨by rw[q.o];rfl,rfl⟩
   .have q:=z6 (Qm 16 ls k A B r.o (λ⟨_,e,_⟩=>O e));(have W:decide ((k:Int)<16)=false:=by rw[AT];omega);go_wp2;go_ret;exact⟨by rw[q.o];rfl,rfl⟩
  .have q:=z6 (Qm 16 ls k A B r.o (λ⟨e,_,_⟩=>I e));(have Y:decide (k<ls.length)=false:=by rw[AT];omega);go_wp2;go_ret;exact⟨by rw[q.o];rfl,rfl⟩
def Gm:Value->Nat
 | .slice _ n _=>n
 | _=>0
def XH(ls:List Int)(w:World)(e:Ending)(w':World):Prop:=
 ∃rv E,e=.returned (.tuple #[rv,.int .i64 E])/\Below w.heap.size w w'/\(∀k,rv.ownBlock=some k->w.heap.size<=k)/\
  ((E=4/\rv=.slice none 0 0/\BE ls=false)\/(E=0/\BE ls=true/\AF .u8 5 w' rv (AJ (Br ls))))
structure Fo(w W:World)(b:Nat)(rv lv:Value)(ls bs:List Int)(j:Nat):Prop where
 wr:Wr W b rv bs
 rd:Rd .i64 W lv (ls.drop j)
 old:∀k,lv.ownBlock=some k->k<w.heap.size
 bel:Below w.heap.size w W
 bn:w.heap.size<=b
 rn:∀k,rv.ownBlock=some k->w.heap.size<=k
def Fo.put{w W W' b r A lv ls bs xs j}(h:Fo w W b r lv ls bs j)(q:EE W b r W' A xs):Fo w W' b A lv ls xs j:=by refine⟨q.wr,h.rd.tch q.tch (λ k f=>?_),h.old,h.bel.trans (q.tch.below h.bel.size (λ k f=>?_)),h.bn,λ k f=>?_⟩;have B:=h.old k f;rintro(e|e);have:=h.bn;omega;have:=h.rn k e;omega;rcases f with e|e;rw[e];exact h.bn;exact h.rn k e;rcases q.fresh k f with e|e;exact h.rn k e;have:=h.bel.size;omega
def AEQ{f x r}(h:x=0):BG (f+1) (x::r)=Aa 0 4++Aa ((zc 16 (x::r):Int)-1) 4++BG f ((x::r).drop (zc 16 (x::r))):=by simp only[BG];grind
def AER{f x r}(h:x≠0):BG (f+1) (x::r)=Aa x 4++BG f r:=by simp only[BG];grind
def Zq(ls:List Int)(j)(h:j<ls.length):ls.drop j=ls.getD j 0::ls.drop (j+1):=by simp_all
def AEc(lv ls w)(hr:Rd .i64 w lv ls)(au:∀k,lv.ownBlock=some k->k<w.heap.size):
 Calls prog 192 #[lv] w λ e w'=>XH ls w e w':=by
 have HR:=z6 hr;cases I:BE ls with
 | false=>
  have HM:=z6 I;clear I hr
  go_enter func192,ntmps192
  go_wp2_with fail;refine(IJ lv ls w HR.o).mono ?_;rintro e K ⟨rfl,rfl⟩;rw[HM.o];go_wp2_with fail;go_ret2;exact⟨_,4,rfl,Below.refl _ _,(λ k e=>by cases e),.inl ⟨rfl,rfl,HM.o⟩⟩
 | true=>
  have HM:=z6 I;have aw:=z6 au;obtain⟨ay,ao,b2⟩:ls.length<=256/\(∀i,i<ls.length->0<=ls.getD i 0/\ls.getD i 0<=11)/\1<=ls.length:=by have a0:=I;unfold BE at a0;rw[zg1]at a0;refine⟨a0.1,a0.2.1,?_⟩;by_cases h0:ls.length=0;exfalso;have e:=a0.2.2;rw[h0]at e;simp[DC,Cd]at e;omega
  have HE:=z6 ao;obtain⟨a,cap,rfl,b3,b9,a8,_⟩:=hr;clear I au ao a8;obtain⟨n,hn⟩:∃n,ls.length=n+1:=⟨ls.length-1,by omega⟩
  have O:=z6 hn;rw[hn]at b3 ay |-
  clear hn b2
  go_enter func192,ntmps192
  have af:Hid (Rd .i64 w (.slice a (n+1) cap) ls):=by have:=HR.o;rw[O.o]at this;exact this
  go_wp2_with fail;refine(IJ _ ls w af.o).mono ?_;rintro e K ⟨rfl,rfl⟩;rw[HM.o];go_wp2_with fail;refine(MZ K).mono ?_;rintro e w2 ⟨rfl,ak,ag⟩;obtain⟨b,hb⟩:=exN K.heap.size;have P2:Hid (Fo K w2 b (.slice none 0 0) (.slice a (n+1) cap) ls [] 0):=by rw[hb]at ak;exact⟨ak,by simpa using af.o.below ag,by have:=aw.o;rw[O.o]at this;exact this,ag,by omega,(λ k e=>by cases e)⟩
  have b7:=z6 hb;rw[hb];clear ak ag hb;have e8:(2:Int) ^ 8=256:=by decide
  have b5:((n:Int)+1-1)=(n:Int):=by omega
  go_wp2_with fail;refine(IQ b (.slice none 0 0) 8 (n:Int) [] w2 P2.o.wr (by simp) (by omega) (by omega) (by omega)).mono ?_;rintro e w3 ⟨rfl,av,h3⟩;have P3:Hid (Fo K w3 b av (.slice a (n+1) cap) ls (Aa (n:Int) 8) 0):=by have h:=P2.o.put h3;simp only[List.nil_append]at h;exact h
  have am:Hid (Aa (n:Int) 8++BG (n+1) (ls.drop 0)=Br ls):=by show _=_;unfold Br;rw[O.o,show(((n+1:Nat):Int)-1)=(n:Int) by omega,List.drop_zero]
  clear h3 P2 e8 b5;go_wp2_with fail
  go_loopw [0] (λ v wr=>∃(j f:Nat)(rv:Value)(A:List Int),j<=n+1/\n+1<=f+j/\Hid (Fo K wr b rv v ls A j)/\Hid (A++BG f (ls.drop j)=Br ls)) (λ v _=>Gm v)
  case atStart=>exact⟨0,n+1,av,_,AI _,by omega,P3,am⟩
  case round=>
   (clear P3 am af;obtain⟨j,f,rv,A,hj,hf,P,T⟩:=hrel;obtain⟨a2,a5,hv,aq,a0,_,ai⟩:=P.o.rd;(have ar:(ls.drop j).length=n+1-j:=by rw[zg0,O.o]);have a9:Hid (A.length<=4096):=by show _<=_;have W:=congrArg List.length T.o;have h2:=Ui ls;rw[zc0]at W;rw[O.o]at h2;omega);by_cases ap:j<n+1
   .obtain⟨m,I⟩:∃m,(ls.drop j).length=m+1:=⟨n-j,by omega⟩
    obtain⟨q,B,ha,aj⟩:∃b o,a2=some ⟨b,o,none⟩/\∀i,i<(ls.drop j).length->wr.cell? ⟨b,o+i,none⟩=some (.int .i64 ((ls.drop j).getD i 0)):=by rcases ai with h|h;rw[h]at I;simp at I;exact h
    subst ha;obtain⟨x,hx⟩:=exH (ls.getD j 0);have A6:=Zq ls j (by rw[O.o];exact ap);rw[hx.o]at A6;obtain⟨r,hr⟩:=exH (ls.drop (j+1));rw[hr.o]at A6;have a3:Hid (ls.drop j=x::r):=A6;(have c0:wr.cell? ⟨q,B+0,none⟩=some (.int .i64 x):=by rw[aj 0 (by omega),A6];rfl);have aa:wr.cell? ⟨q,B,none⟩=some (.int .i64 x):=c0;have b6:=HE.o j (by rw[O.o];exact ap);rw[hx.o]at b6;rw[I]at hv aq;subst hv;(have ad:Hid (∀i,i<m+1->wr.cell? ⟨q,B+i,none⟩=some (.int .i64 ((x::r).getD i 0))):=λ i hi=>by rw[<-A6];exact aj i (by omega));(have Z:Hid (r.length=m):=by show _=_;have:=congrArg List.length A6;rw[I]at this;simp at this;omega);obtain⟨f',rfl⟩:∃f',f=f'+1:=⟨f-1,by omega⟩
    (have a4:Hid (j+(m+1)=n+1):=by show _=_;omega);clear ai aj A6 I ar c0;by_cases h0:x=0
    .subst h0;obtain⟨z,hz⟩:=exH (zc 16 ((0:Int)::r));have bb:1<=z/\z<=16/\z<=m+1:=by have W:=NK 16 ((0:Int)::r);(have h2:zc 16 ((0:Int)::r)=zc 15 r+1:=by simp[zc]);have h3:=Z.o;rw[hz.o]at W h2;simp only[zh0]at W;omega
     (have Y:=T.o;rw[a3.o,AEQ rfl,hz.o]at Y;have ab:Hid ((A++Aa 0 4)++Aa ((z:Int)-1) 4++BG f' (ls.drop (j+z))=Br ls):=by show _=_;rw[<-Y,<-a3.o,zx0];simp[zr0]);clear Y T;(have e4:(2:Int) ^ 4=16:=by decide);go_wp2_with fail;refine(IQ b rv 4 0 A wr P.o.wr (by have:=a9.o;omega) (by omega) (by omega) (by omega)).mono ?_;rintro e L ⟨rfl,a1,X⟩;have E:Hid (Fo K L b a1 (.slice (some ⟨q,B,none⟩) (m+1) a5) ls (A++Aa 0 4) j):=P.o.put X;have ac:Hid (∀i,i<m+1->L.cell? ⟨q,B+i,none⟩=some (.int .i64 (((0:Int)::r).getD i 0))):=λ i hi=>by
      have W:=ad.o i hi;rw[X.tch.cell (p:=⟨q,B+i,none⟩) (zb0 wr ⟨q,B+i,none⟩ W) ?_];exact W;have h2:=P.o.old q rfl;rintro(e|e);have:=P.o.bn;simp only at e;omega;have:=P.o.rn _ e;simp only at this;omega
     have d0:L.cell? ⟨q,B,none⟩=some (.int .i64 0):=ac.o 0 (by omega);clear X P ad aa;have a6:=AIn q B a5 ((0:Int)::r) L (by simp only[zh0];rw[Z.o];have:=a4.o;omega) (by simp only[zh0];rw[Z.o];exact ac.o);rw[hz.o]at a6;simp only[zh0]at a6;rw[Z.o]at a6;have an:Hid (Calls prog 220 #[.slice (some ⟨q,B,none⟩) (m+1) a5] L λ e w'=>e=.returned (.int .i64 (z:Int))/\w'=L):=a6;clear a6;go_wp2_with fail;refine an.o.mono ?_;clear an;rintro e w5 ⟨rfl,rfl⟩;(have ba:((z:Int)-1)<16:=by omega);go_wp2_with fail;refine(IQ b a1 4 ((z:Int)-1) (A++Aa 0 4) w5 E.o.wr (by have:=a9.o;rw[zc0,Bc];omega) (by omega) (by omega) (by omega)).mono ?_;rintro e w6 ⟨rfl,al,h6⟩
     have U:Hid (Fo K w6 b al (.slice (some ⟨q,B,none⟩) (m+1) a5) ls (A++Aa 0 4++Aa ((z:Int)-1) 4) j):=E.o.put h6;clear h6 E d0 ac;go_wp2_with(with_reducible (show wpList _ _ _ (Oper.mk _ (Op.slice _ _ _ _ _) _ _ _ _::_) _ _);refine LI QC _ w6 rfl (.tmp 33) (.tmp 34) rfl _ (ls.drop j) rfl U.o.rd z rfl (by rw[a3.o,zh0,Z.o];omega) ?_)
     intro v7 J a7;have P7:Hid (Fo K w6 b al v7 ls (A++Aa 0 4++Aa ((z:Int)-1) 4) (j+z)):=by
      refine⟨U.o.wr,?_,λ k hk=>U.o.old k (a7 k hk),U.o.bel,U.o.bn,U.o.rn⟩
      first|exact J|(rw[zx0]at J;exact J)
     (have ae:Hid (Gm v7<m+1):=by show _<_;obtain⟨_,_,e,_⟩:=J;rw[e];simp only[Gm,zg0];have:=O.o;have:=a4.o;omega);clear J a7 U;go_wp2_with fail
     go_roundw
     (case rel=>exact⟨j+z,f',al,_,by have:=a4.o;omega,by omega,P7,ab⟩);case measure=>exact ae.o
    .have b8:(x==0)=false:=by simp[h0]
     (have Y:=T.o;rw[a3.o,AER h0,<-hr.o]at Y;have ab:Hid (A++Aa x 4++BG f' (ls.drop (j+1))=Br ls):=by show _=_;rw[<-Y,zr0]);clear Y T h0;(have e4:(2:Int) ^ 4=16:=by decide);go_wp2_with fail;refine(IQ b rv 4 x A wr P.o.wr (by have:=a9.o;omega) (by omega) (by omega) (by omega)).mono ?_;rintro e L ⟨rfl,a1,X⟩;have E:Hid (Fo K L b a1 (.slice (some ⟨q,B,none⟩) (m+1) a5) ls (A++Aa x 4) j):=P.o.put X;have d0:L.cell? ⟨q,B,none⟩=some (.int .i64 x):=by rw[X.tch.cell (p:=⟨q,B,none⟩) (zb0 wr ⟨q,B,none⟩ aa) ?_];exact aa;have h2:=P.o.old q rfl;rintro(e|e);have:=P.o.bn;simp only at e;omega;have:=P.o.rn _ e;simp only at this;omega
     clear X P ad aa;go_wp2_with(with_reducible (show wpList _ _ _ (Oper.mk _ (Op.slice _ _ _ _ _) _ _ _ _::_) _ _);refine LI QC _ L rfl (.tmp 33) (.tmp 34) rfl _ (ls.drop j) rfl E.o.rd 1 rfl (by rw[a3.o,zh0,Z.o];omega) ?_)
     intro v7 J a7;have P7:Hid (Fo K L b a1 v7 ls (A++Aa x 4) (j+1)):=by
      refine⟨E.o.wr,?_,λ k hk=>E.o.old k (a7 k hk),E.o.bel,E.o.bn,E.o.rn⟩
      first|exact J|(rw[zx0]at J;exact J)
     (have ae:Hid (Gm v7<m+1):=by show _<_;obtain⟨_,_,e,_⟩:=J;rw[e];simp only[Gm,zg0];have:=O.o;have:=a4.o;omega);clear J a7 E;go_wp2_with fail
     go_roundw
     (case rel=>exact⟨j+1,f',a1,_,by have:=a4.o;omega,by omega,P7,ab⟩);case measure=>exact ae.o
   .obtain rfl:j=n+1:=by omega
    (have a8:ls.drop (n+1)=[]:=List.drop_eq_nil_of_le (by rw[O.o];omega);rw[a8]at hv;simp only[List.length_nil]at hv;subst hv;have ax:Hid (A=Br ls):=by show _=_;have h:=T.o;rw[a8,Uj,List.append_nil]at h;exact h);clear ai ar aq a8 T;go_wp2_with fail;refine(Nr b rv A wr P.o.wr (by have:=a9.o;omega)).mono ?_;rintro e w6 ⟨v6,rfl,b4,az,b0⟩;go_wp2_with fail;go_ret2;refine⟨v6,0,rfl,P.o.bel.trans (az.mono P.o.bel.size),λ k hk=>Aw P.o.bel.size (b0 k hk),.inr ⟨rfl,HM.o,?_⟩⟩;rw[<-ax.o];exact b4
def PG(v ys w)(h:Rd .u8 w v ys)(I:By ys)(B:ys.length<=140737488355328):
 Calls prog 170 #[v] w λ e w'=>∃b J,e=.returned (.pointer (some ⟨b,0,none⟩))/\Rr w' b J ys 0/\Below w.heap.size w w'/\w.heap.size<=b/\∀k,J.ownBlock=some k->w.heap.size<=k:=by
 have H:=z6 h;have O:=z6 I;clear h I
 go_enter func170,ntmps170
 go_wp2_with fail;refine(MB v ys w H.o B).mono ?_;rintro e K ⟨T,rfl,E,A⟩;obtain⟨b1,r⟩:=A.below;have q:=z6 E;have f:=z6 b1;have L:=z6 r;clear E A b1 r;obtain⟨a,cap,hv⟩:∃a cap,T=.slice a ys.length cap:=by obtain⟨a,cap,e,_⟩:=q.o.rd;grind
 subst hv;go_wp2_with fail;go_ret;refine⟨K.heap.size,_,rfl,⟨heap_alloc_new K _,q.o.below ((Below.refl _ _).alloc (AE _) _),O.o,AI _,B⟩,f.o.alloc f.o.size _,f.o.size,L.o⟩
def LA(b B ys p n w)(h:Rr w b B ys p):
 Calls prog 212 #[.pointer (some ⟨b,0,none⟩),.int .i64 n] w λ e w'=>
  e=.returned (.tuple #[.int .i64 (CP (AM ys) (8*ys.length-p) p n),.int .i64 (A9 (8*ys.length-p) n)])/\Rr w' b B ys (p+Bt (8*ys.length-p) n)/\AD (λ k=>k=b) w w':=by
 have H:=z6 h;have a2:=h.le;have a4:=h.small;have O:=h.c0;have c1:=h.c1;have T:=h.fz 1;clear h;by_cases f:A9 (8*ys.length-p) n=0
 .have X:0<=n/\n<=32/\n<=((8*ys.length-p:Nat):Int):=by unfold A9 at f;split at f;cases f;split at f;cases f;omega
  obtain⟨m,rfl⟩:=Int.eq_ofNat_of_zero_le X.1;have eV:CP (AM ys) (8*ys.length-p) p m=val (AM ys) p m:=by unfold CP;rw[if_neg (by omega),if_neg (by omega)];rfl
  have eN:Bt (8*ys.length-p) m=m:=by unfold Bt;rw[if_neg (by omega),if_neg (by omega)];rfl
  have J:=z6 f;rw[eV,eN,f];clear eV eN f;obtain⟨L,W⟩:∃L:Nat,8*ys.length-p=L:=⟨_,rfl⟩
  rw[W]at J X;have HL:=z6 W;have a1:m<=32:=by omega
  have a0:p+m<=8*ys.length:=by omega
  clear W X;clear O c1 T
  go_enter func212,ntmps212
  go_wp2_with fail;refine(Hb b B ys p w H.o).mono ?_;rintro e I ⟨rfl,q,A⟩;have r:Hid (Rr I b B ys p):=by rw[A];exact H.o.tch (AD.of_drewN (λ _=>False) w q) (λ e=>e) (λ _ _ e=>e)
  have K:Hid (AD (λ k=>k=b) w I):=by rw[A];exact AD.of_drewN _ w q
  clear A;rw[HL.o];go_wp2_with fail;refine(MX _ L _).mono ?_;rintro e Z ⟨rfl,rfl⟩;rw[J.o];have O:=r.o.c0;have c1:=r.o.c1;have T:=r.o.fz 1;go_wp2_with fail;go_quiet ((go_at_call 246;exact Calls.quiet_of_same (UO B p m ys _ (by exact r.o.own.rd) r.o.bys (by omega) a0 a1)));go_wp2_with fail;go_ret2;have em:(((p+m:Nat):Int))=(p:Int)+m:=by omega
  refine⟨rfl,?_,?_⟩;have:=(r.o.tch (AD.of_drewN (λ _=>False) Z nq) (λ e=>e) (λ _ _ e=>e)).move (p+m) a0;rw[em]at this;exact this;exact K.o.trans (S':=λ k=>k=b) (AD.setCell (AD.of_drewN (λ k=>k=b) Z nq) (p:=⟨b,1,none⟩) (λ _=>rfl) _) (λ _ _ e=>e)
 .have Y:CP (AM ys) (8*ys.length-p) p n=0/\Bt (8*ys.length-p) n=0:=by unfold A9 at f;unfold CP Bt;split at f;rename_i h;rw[if_pos h,if_pos h];exact⟨rfl,rfl⟩;rename_i h;split at f;rename_i h2;rw[if_neg h,if_pos h2,if_neg h,if_pos h2];exact⟨rfl,rfl⟩;exact absurd rfl f
  rw[Y.1,Y.2];obtain⟨E,U⟩:=exN (A9 (8*ys.length-p) n);rw[U]at f |-
  have J:=z6 U;have a3:(E != 0)=true:=by simpa using f
  clear Y f U O c1 T
  go_enter func212,ntmps212
  go_wp2_with fail;refine(Hb b B ys p w H.o).mono ?_;rintro e I ⟨rfl,q,A⟩;have r:Hid (Rr I b B ys p):=by rw[A];exact H.o.tch (AD.of_drewN (λ _=>False) w q) (λ e=>e) (λ _ _ e=>e)
  have K:Hid (AD (λ k=>k=b) w I):=by rw[A];exact AD.of_drewN _ w q
  clear A;go_wp2_with fail;refine(MX _ _ _).mono ?_;rintro e Z ⟨rfl,rfl⟩;rw[J.o];go_wp2_with fail;go_ret2;exact⟨rfl,r.o,K.o⟩
end
section
open Go.RowKit Pl Hf
def Ret(e:Ending):Prop:=∃u,e=.returned u
abbrev Am(h:Nat):Value:=.iface 365 (.pointer (some ⟨h,0,none⟩))
def Hp.len{w h v ps}(H:Hp w h v ps):∃a cap,v=.slice a ps.length cap:=by
 obtain⟨a,cap,e,_⟩:=H.own.rd
 grind
def Gq(h v ps i j)(x y:Int)(b w)(H:Hp w h v ps)(r:i<ps.length)(A:j<ps.length)(B:x=i)(E:y=j)(q:Ed (G ps i) (G ps j)=b):
 Calls prog 289 #[v,.int .i64 x,.int .i64 y] w λ e w'=>e=.returned (.bool b)/\Hp w' h v ps/\AD (λ _=>False) w w':=by
 subst B;subst E;subst q;refine(AG5 v ps i j w H.own r A).mono ?_;rintro e w' ⟨rfl,f⟩;exact⟨rfl,H.tch f (λ e=>e) (λ _ _ e=>e),f⟩
def K9(h v ps i j)(x y:Int)(w)(H:Hp w h v ps)(f:i<ps.length)(q:j<ps.length)(r:x=i)(A:y=j):
 Calls prog 290 #[v,.int .i64 x,.int .i64 y] w λ e w'=>e=.returned (.tuple #[])/\Hp w' h v (C8 ps i j)/\AD (λ k=>v.ownBlock=some k) w w':=by
 subst r;subst A;exact AG8 h v ps i j w H f q
def SI(h v ps i0 n w)(H:Hp w h v ps)(hn:n<=ps.length)(hl:ps.length<=100000)(hi:i0<=n)(hh:CQ ps n (i0+1)):
 Calls prog 205 #[Am h,.int .i64 i0,.int .i64 n] w λ e w'=>Ret e/\∃f,Hp w' h v f/\f.Perm ps/\(∀k,n<=k->G f k=G ps k)/\CQ f n i0/\AD (λ k=>v.ownBlock=some k) w w':=by
 have HH:=z6 H;have HD:=z6 (Dn.start hh hn);clear H hh
 go_enter func205,ntmps205
 go_wp2_with fail
 go_loopw [7] (λ i wr=>∃(k:Nat) (f:List (Int×Int)),k<=n/\i0<=k/\i=.int .i64 k/\Hid (Hp wr h v f)/\Hid (Dn ps f n i0 k)/\Hid (AD (λ k=>v.ownBlock=some k) w wr)) (λ i _=>n-(intOf i).toNat)
 case atStart=>exact⟨i0,ps,hi,AE _,rfl,HH,HD,AD.refl _ _⟩
 case round=>
  obtain⟨k,f,hk,a9,rfl,O,A,W⟩:=hrel;clear HH HD;have a8:=A.o.perm.length_eq;have q:=z6 a8;clear a8;by_cases h1:2*k+1<n
  .by_cases h2:2*k+2<n
   .cases hb1:Ed (G f (2*k+2)) (G f (2*k+1))with
    | false=>
     have a2:=z6 hb1;clear hb1;(have Z:Hid (∀c,Ch k c->c<n->CX (G f (2*k+1)) (G f c)):=λ c hc Y=>by rcases hc with rfl|rfl;(· exact MV _);(· exact KW.1 a2.o));have r:=Gh ⟨h,0,none⟩ v wr O.o.c0;go_wp2_with fail;refine(Gq h v f (2*k+2) (2*k+1) _ _ false wr O.o (by rw[q.o];omega) (by rw[q.o];omega) (by omega) (by omega) a2.o).mono ?_;rintro e U ⟨rfl,a6,a7⟩;have T:=z6 a6;have X:Hid (AD (λ k=>v.ownBlock=some k) w U):=W.o.trans (S':=λ _=>False) a7 (λ _ _ e=>e.elim);clear a6 a7 r O W;cases hb2:Ed (G f (2*k+1)) (G f k)with
     | false=>have B:=z6 hb2;clear hb2;have r:=Gh ⟨h,0,none⟩ v U T.o.c0;go_wp2_with fail;refine(Gq h v f (2*k+1) k _ _ false U T.o (by rw[q.o];omega) (by rw[q.o];omega) (by omega) (by omega) B.o).mono ?_;rintro e K ⟨rfl,I,J⟩;have E:=z6 I;have L:Hid (AD (λ k=>v.ownBlock=some k) w K):=X.o.trans (S':=λ _=>False) J (λ _ _ e=>e.elim);clear I J r T X;have HF:=z6 (A.o.stop (λ c hc Y=>Ja (KW.1 B.o) (Z.o c hc Y)));go_wp2_with fail;go_ret;exact⟨⟨_,rfl⟩,f,E.o,A.o.perm,A.o.rest,HF.o,L.o⟩
     | true=>
      have B:=z6 hb2;clear hb2;have r:=Gh ⟨h,0,none⟩ v U T.o.c0;go_wp2_with fail;refine(Gq h v f (2*k+1) k _ _ true U T.o (by rw[q.o];omega) (by rw[q.o];omega) (by omega) (by omega) B.o).mono ?_;rintro e K ⟨rfl,I,J⟩;have E:=z6 I;have L:Hid (AD (λ k=>v.ownBlock=some k) w K):=X.o.trans (S':=λ _=>False) J (λ _ _ e=>e.elim);clear I J r T X;have r:=KZ ⟨h,0,none⟩ v K E.o.c0;go_wp2_with fail;refine(K9 h v f k (2*k+1) _ _ K E.o (by rw[q.o];omega) (by rw[q.o];omega) (by omega) (by omega)).mono ?_;rintro e w3 ⟨rfl,a0,a1⟩;have a4:=z6 a0;have a5:Hid (AD (λ k=>v.ownBlock=some k) w w3):=L.o.trans a1 (λ _ _ e=>e);have a3:=z6 (A.o.sink (by unfold Ch;omega) (by omega) Z.o (KX.1 B.o));clear a0 a1 r E L A
      go_wp2_with fail
      go_roundw
      (case rel=>exact⟨2*k+1,C8 f k (2*k+1),by omega,by omega,by go_num,a4,a3,a5⟩);case measure=>simp[intOf];omega
    | true=>
     have a2:=z6 hb1;clear hb1;(have Z:Hid (∀c,Ch k c->c<n->CX (G f (2*k+2)) (G f c)):=λ c hc Y=>by rcases hc with rfl|rfl;(· exact KS (KX.1 a2.o));(· exact MV _));have r:=Gh ⟨h,0,none⟩ v wr O.o.c0;go_wp2_with fail;refine(Gq h v f (2*k+2) (2*k+1) _ _ true wr O.o (by rw[q.o];omega) (by rw[q.o];omega) (by omega) (by omega) a2.o).mono ?_;rintro e U ⟨rfl,a6,a7⟩;have T:=z6 a6;have X:Hid (AD (λ k=>v.ownBlock=some k) w U):=W.o.trans (S':=λ _=>False) a7 (λ _ _ e=>e.elim);clear a6 a7 r O W;cases hb2:Ed (G f (2*k+2)) (G f k)with
     | false=>have B:=z6 hb2;clear hb2;have r:=Gh ⟨h,0,none⟩ v U T.o.c0;go_wp2_with fail;refine(Gq h v f (2*k+2) k _ _ false U T.o (by rw[q.o];omega) (by rw[q.o];omega) (by omega) (by omega) B.o).mono ?_;rintro e K ⟨rfl,I,J⟩;have E:=z6 I;have L:Hid (AD (λ k=>v.ownBlock=some k) w K):=X.o.trans (S':=λ _=>False) J (λ _ _ e=>e.elim);clear I J r T X;have HF:=z6 (A.o.stop (λ c hc Y=>Ja (KW.1 B.o) (Z.o c hc Y)));go_wp2_with fail;go_ret;exact⟨⟨_,rfl⟩,f,E.o,A.o.perm,A.o.rest,HF.o,L.o⟩
     | true=>
      have B:=z6 hb2;clear hb2;have r:=Gh ⟨h,0,none⟩ v U T.o.c0;go_wp2_with fail;refine(Gq h v f (2*k+2) k _ _ true U T.o (by rw[q.o];omega) (by rw[q.o];omega) (by omega) (by omega) B.o).mono ?_;rintro e K ⟨rfl,I,J⟩;have E:=z6 I;have L:Hid (AD (λ k=>v.ownBlock=some k) w K):=X.o.trans (S':=λ _=>False) J (λ _ _ e=>e.elim);clear I J r T X;have r:=KZ ⟨h,0,none⟩ v K E.o.c0;go_wp2_with fail;refine(K9 h v f k (2*k+2) _ _ K E.o (by rw[q.o];omega) (by rw[q.o];omega) (by omega) (by omega)).mono ?_;rintro e w3 ⟨rfl,a0,a1⟩;have a4:=z6 a0;have a5:Hid (AD (λ k=>v.ownBlock=some k) w w3):=L.o.trans a1 (λ _ _ e=>e);have a3:=z6 (A.o.sink (by unfold Ch;omega) (by omega) Z.o (KX.1 B.o));clear a0 a1 r E L A
      go_wp2_with fail
      go_roundw
      (case rel=>exact⟨2*k+2,C8 f k (2*k+2),by omega,by omega,by go_num,a4,a3,a5⟩);case measure=>simp[intOf];omega
   .have Z:Hid (∀c,Ch k c->c<n->CX (G f (2*k+1)) (G f c)):=λ c hc Y=>by rcases hc with rfl|rfl;(· exact MV _);(· omega)
    cases hb2:Ed (G f (2*k+1)) (G f k)with
    | false=>have B:=z6 hb2;clear hb2;have r:=Gh ⟨h,0,none⟩ v wr O.o.c0;go_wp2_with fail;refine(Gq h v f (2*k+1) k _ _ false wr O.o (by rw[q.o];omega) (by rw[q.o];omega) (by omega) (by omega) B.o).mono ?_;rintro e K ⟨rfl,I,J⟩;have E:=z6 I;have L:Hid (AD (λ k=>v.ownBlock=some k) w K):=W.o.trans (S':=λ _=>False) J (λ _ _ e=>e.elim);clear I J r O W;have HF:=z6 (A.o.stop (λ c hc Y=>Ja (KW.1 B.o) (Z.o c hc Y)));go_wp2_with fail;go_ret;exact⟨⟨_,rfl⟩,f,E.o,A.o.perm,A.o.rest,HF.o,L.o⟩
    | true=>
     have B:=z6 hb2;clear hb2;have r:=Gh ⟨h,0,none⟩ v wr O.o.c0;go_wp2_with fail;refine(Gq h v f (2*k+1) k _ _ true wr O.o (by rw[q.o];omega) (by rw[q.o];omega) (by omega) (by omega) B.o).mono ?_;rintro e K ⟨rfl,I,J⟩;have E:=z6 I;have L:Hid (AD (λ k=>v.ownBlock=some k) w K):=W.o.trans (S':=λ _=>False) J (λ _ _ e=>e.elim);clear I J r O W;have r:=KZ ⟨h,0,none⟩ v K E.o.c0;go_wp2_with fail;refine(K9 h v f k (2*k+1) _ _ K E.o (by rw[q.o];omega) (by rw[q.o];omega) (by omega) (by omega)).mono ?_;rintro e w3 ⟨rfl,a0,a1⟩;have a4:=z6 a0;have a5:Hid (AD (λ k=>v.ownBlock=some k) w w3):=L.o.trans a1 (λ _ _ e=>e);have a3:=z6 (A.o.sink (by unfold Ch;omega) (by omega) Z.o (KX.1 B.o));clear a0 a1 r E L A
     go_wp2_with fail
     go_roundw
     (case rel=>exact⟨2*k+1,C8 f k (2*k+1),by omega,by omega,by go_num,a4,a3,a5⟩);case measure=>simp[intOf];omega
  .have HF:=z6 (A.o.stop (λ c hc Y=>by unfold Ch at hc;omega));go_wp2_with fail;go_ret;exact⟨⟨_,rfl⟩,f,O.o,A.o.perm,A.o.rest,HF.o,W.o⟩
def AHu(h v ps n Y w)(H:Hp w h v ps)(hl:ps.length<=100000)(U:Up ps ps n Y):
 Calls prog 152 #[Am h,.int .i64 Y] w λ e w'=>e=.returned (.tuple #[])/\∃f,Hp w' h v f/\f.Perm ps/\CQ f n 0/\AD (λ k=>v.ownBlock=some k) w w':=by
 have HH:=z6 H;have HD:=z6 U;have a5:=U.jn;have a7:=U.nl;clear H U
 go_enter func152,ntmps152
 go_wp2_with fail
 go_loopw [1] (λ i wr=>∃(k:Nat) (f:List (Int×Int)),k<n/\i=.int .i64 k/\Hid (Hp wr h v f)/\Hid (Up ps f n k)/\Hid (AD (λ k=>v.ownBlock=some k) w wr)) (λ i _=>(intOf i).toNat)
 case atStart=>exact⟨Y,ps,a5,rfl,HH,HD,AD.refl _ _⟩
 case round=>
  obtain⟨k,f,hk,rfl,q,r,I⟩:=hrel;clear HH HD;have A:=z6 r.o.nl.symm;by_cases h0:k=0
  .subst h0;have W:=z6 r.o.top;go_wp2_with fail
   go_end0
   exact⟨rfl,f,q.o,r.o.perm,W.o,I.o⟩
  .obtain⟨p,X,a8⟩:∃p:Nat,Ch p k/\((k:Int)-1).tdiv 2=p:=⟨(k-1) / 2,by unfold Ch;omega,by rw[show((k:Int)-1)=((k-1:Nat):Int) by omega];exact(Int.ofNat_tdiv _ _).symm⟩
   have Z:=z6 X;(have a9:p<k:=by unfold Ch at X;omega);(have a6:((p:Int)==(k:Int))=false:=by simp;omega);clear X;cases hb:Ed (G f k) (G f p)with
   | false=>
    have B:=z6 hb;clear hb;have J:=Gh ⟨h,0,none⟩ v wr q.o.c0;go_wp2_with fail;refine(Gq h v f k p _ _ false wr q.o (by rw[A.o];omega) (by rw[A.o];omega) (by omega) (by omega) B.o).mono ?_;rintro e O ⟨rfl,K,L⟩;have E:=z6 K;have T:Hid (AD (λ k=>v.ownBlock=some k) w O):=I.o.trans (S':=λ _=>False) L (λ _ _ e=>e.elim);clear K L J q I;have W:=z6 (r.o.stop Z.o (KW.1 B.o));go_wp2_with fail
    go_end0
    exact⟨rfl,f,E.o,r.o.perm,W.o,T.o⟩
   | true=>
    have B:=z6 hb;clear hb;have J:=Gh ⟨h,0,none⟩ v wr q.o.c0;go_wp2_with fail;refine(Gq h v f k p _ _ true wr q.o (by rw[A.o];omega) (by rw[A.o];omega) (by omega) (by omega) B.o).mono ?_;rintro e O ⟨rfl,K,L⟩;have E:=z6 K;have T:Hid (AD (λ k=>v.ownBlock=some k) w O):=I.o.trans (S':=λ _=>False) L (λ _ _ e=>e.elim);clear K L J q I;have J:=KZ ⟨h,0,none⟩ v O E.o.c0;go_wp2_with fail;refine(K9 h v f p k _ _ O E.o (by rw[A.o];omega) (by rw[A.o];omega) (by omega) (by omega)).mono ?_;rintro e w3 ⟨rfl,a0,a1⟩;have a3:=z6 a0;have a4:Hid (AD (λ k=>v.ownBlock=some k) w w3):=T.o.trans a1 (λ _ _ e=>e);have a2:=z6 (r.o.rise Z.o (KX.1 B.o));clear a0 a1 J E T r;go_wp2_with fail
    go_roundw
    (case rel=>exact⟨p,C8 f p k,by omega,by first|rfl|go_num,a3,a2,a4⟩);case measure=>simp[intOf];omega
end
section
open Go.RowKit
def A4(w:World)(v:Value)(xs:List Int):Prop:=
 ∃g o cap,v=.slice (some ⟨g,o,none⟩) xs.length cap/\xs.length<=cap/\cap<=maxLen/\g<w.heap.size/\(∀i,i<xs.length->w.cell? ⟨g,o+i,none⟩=some (.int .u8 (xs.getD i 0)))/\
  ∀j,j<cap-xs.length->(w.cell? ⟨g,o+xs.length+j,none⟩).isSome=true/\w.frozen? ⟨g,o+xs.length+j,none⟩=false
def A4.rd{w v xs}(h:A4 w v xs):Rd .u8 w v xs:=by obtain⟨g,o,cap,rfl,f,q,_,r,_⟩:=h;exact⟨_,cap,rfl,f,q,λ e=>(by cases e),.inr ⟨g,o,rfl,r⟩⟩
def A4.tch{S w w' v xs}(h:A4 w v xs)(q:AD S w w')(E:∀j,v.ownBlock=some j->¬S j):A4 w' v xs:=by obtain⟨g,o,cap,rfl,A,B,f,I,J⟩:=h;have r:=E g rfl;refine⟨g,o,cap,rfl,A,B,Ao f q.size,λ i K=>?_,λ j L=>?_⟩;rw[q.cell (p:=⟨g,o+i,none⟩) f r];grind;rw[q.cell (p:=⟨g,o+xs.length+j,none⟩) f r,q.frozen (p:=⟨g,o+xs.length+j,none⟩) f r];grind
def A4.below{w w' v xs}(h:A4 w v xs)(f:Below w.heap.size w w'):A4 w' v xs:=h.tch (S:=λ _=>False) (AD.of_below f) (λ _ _ e=>e)
def ADp{w v xs}(h:AF .u8 5 w v xs)(J:v≠.slice none 0 0):A4 w v xs:=by
 have f:w.ownsRow 0 5 1 v xs.length (xs.map (Value.int .u8)):=h;rcases f.2 with⟨e,_⟩|⟨g,cap,I,rfl,_,q,r,A,B,E⟩
 .grind
 .refine⟨g,0,cap,rfl,r,A,(za0.1 q).1,λ i K=>?_,λ j L=>⟨?_,f.frozenAt _⟩⟩
  .rw[Nat.zero_add,f.cellAt i (by omega)]
   grind
  .rw[cell_of_row w g _ _ _ (0,0) q]
   grind
def A4.of_owns{w v xs}(h:AF .u8 5 w v xs)(f:xs≠[]):A4 w v xs:=ADp h (λ e=>by
 subst e;obtain⟨a,cap,e,_⟩:=h.rd
 grind)
def A4.drop{w v xs}(h:A4 w v xs)(k)(J:k<=xs.length):∃g o cap,v=.slice (some ⟨g,o,none⟩) xs.length cap/\A4 w (.slice (some ⟨g,o+k,none⟩) (xs.length-k) (cap-k)) (xs.drop k):=by
 obtain⟨g,o,cap,rfl,A,B,q,E,f⟩:=h;refine⟨g,o,cap,rfl,g,o+k,cap-k,by simp,by grind,by omega,q,λ i I=>?_,λ j r=>?_⟩
 .grind
 .rw[zg0]at r |-
  have:=f j (by omega)
  grind
def VM(b:Nat):∀(vs:List Value)(o:Nat)(w:World),AD (λ k=>k=b) w (w.setCells b o vs)
 | [],_,w=>AD.refl _ w
 | v::r,o,w=>(AD.setCell (AD.refl (λ k=>k=b) w) (p:=⟨b,o,none⟩) (λ _=>rfl) v).trans (VM b r (o+1) _) (λ _ _ e=>e)
def AFU(w ty v xs)(h:A4 w v xs)(u ys)(hu:Rd .u8 w u ys)(hl:xs.length+ys.length<=100000000000):
 ∃q w',(Builtin.append_ #[40,40] ty #[v,u]).run prog w=.ok q w'/\A4 w' q (xs++ys)/\AY w w' v q:=by
 obtain⟨O,i,J,hz,B,a2⟩:=Dd;obtain⟨g,o,cap,rfl,U,W,X,I,A⟩:=h;obtain⟨ao,c,rfl,k1,k2,E⟩:=Mw hu;rw[zu0]at *
 have gd:∀j,(xs++ys).getD j 0=if j<xs.length then xs.getD j 0 else ys.getD (j-xs.length) 0:=λ j=>by simp only[AP,List.getElem?_append];split<;>rfl
 cases ao with
 | none=>
  obtain⟨e,rfl⟩:=k2 rfl;obtain rfl:ys=[]:=by simpa using e
  refine⟨_,w,?_,by rw[List.append_nil];exact⟨g,o,cap,rfl,U,W,X,I,A⟩,AY.refl _ _⟩;simp[Builtin.append_,run_underlying O,sizeOf,typeInfo,J,Builtin.lenOf,U,Builtin.firstCells,storeCells,Result.andThen]
 | some a=>
  have E:=E a rfl;by_cases Z:xs.length+ys.length<=cap
  .have a0:=run_append_room_cells (P:=prog) w 40 ty 5 i O J g o xs.length cap a ys.length c (ys.map (Value.int .u8)) (by simp[B]) E k1 Z
    (λ j f=>by rw[B,Nat.mul_one];exact(A j (by simp at f;omega)).1) (λ j f=>by rw[B,Nat.mul_one];exact(A j (by simp at f;omega)).2)
   rw[B,Nat.mul_one]at a0;have tt:=VM g (ys.map (Value.int .u8)) (o+xs.length) w;refine⟨_,_,a0,⟨g,o,cap,by rw[zc0],by rw[zc0];exact Z,W,Ao X tt.size,λ j f=>?_,λ j f=>?_⟩,⟨tt.mono (λ k _ e=>by rw[e];rfl),λ k L=>.inl L⟩⟩
   .rw[zc0]at f;rw[gd];by_cases K:j<xs.length;rw[if_pos K,World.cell?_setCells_out _ _ _ _ _ (λ _ _=>.inl (by show o+j<_;omega))];exact I j K
    .rw[if_neg K];obtain⟨m,rfl⟩:∃m,j=xs.length+m:=⟨j-xs.length,by omega⟩
     have:=World.cell?_setCells_in g (ys.map (Value.int .u8)) (o+xs.length) w (λ j f=>(A j (by simp at f;omega)).1) m (by simp;omega);rw[<-Nat.add_assoc,this,Nat.add_sub_cancel_left];(have hm:m<ys.length:=by omega);simp[AP,hm]
   .rw[zc0]at f |-
    rw[World.frozen?_setCells,World.cell?_setCells_out _ _ _ _ _ (λ _ _=>.inr (by show _<=o+(xs.length+ys.length)+j;simp;omega))];have:=A (ys.length+j) (by omega);rw[show o+(xs.length+ys.length)+j=o+xs.length+(ys.length+j) by omega];exact this
  .obtain⟨q,w',r1,T,r3⟩:=run_append_arg_grows (P:=prog) w 40 ty 5 i (.int .u8 0) 1 1 O J hz B a2 rfl (by decide) ⟨g,o,none⟩ xs.length cap (xs.map (Value.int .u8)) (by simp) (λ j x f=>by
    (have Y:j<xs.length:=by have:=(List.getElem?_eq_some_iff.1 f).1;simpa using this);rw[Addr.add_lit,I j Y];simp[AP,Y]at f |-
    exact f) a ys.length c (ys.map (Value.int .u8)) (by simp) E (by omega) (by unfold maxLen;omega) (by omega)
   (have ho:AF .u8 5 w' q (xs++ys):=by show w'.ownsRow _ _ _ _ _ _;rw[zc0,za1];exact⟨T.1,T.2.imp id λ⟨g,cap,a1,a,_,r⟩=>⟨g,cap,a1,a,AI _,r⟩⟩);refine⟨q,w',r1,A4.of_owns ho (λ e=>?_),⟨AD.grown (AD.refl _ w) r3 (λ _ _ e=>by cases e),λ k L=>.inr (T.lt k L).1⟩⟩;have:=congrArg List.length e;rw[zc0,List.length_nil]at this;omega
def Wk(w){q r o a Q}(I:o.guard=none)(s x)(J:o.op=.call { callee:=.builtin .append,args:=#[s,x],argTypes:=#[40,40] })(v xs)(hs:a.eval s=v)(h:A4 w v xs)(u ys)(hx:a.eval x=u)(hu:Rd .u8 w u ys)(hl:xs.length+ys.length<=100000000000)(hK:∀f w',A4 w' f (xs++ys)->AY w w' v f->wpList prog q Q r (a.put o.dst f) w'):wpList prog q Q (o::r) a w:=by
 obtain⟨f,w',hr,A,B⟩:=AFU w o.type v xs h u ys hu hl;refine wpList_plain I λ K E=>?_;unfold Oper.wp;simp[execOp,J,resolve,invoke,builtin,hs,hx,hr,Result.andThen];exact E _ _ (hK f w' A B)
end
section
open Go.RowKit Pl
def Fh(x:Sq)(left there:Nat):Bool:=decide (0<=x.1/\x.1<=left/\0<=x.2.1/\(x.2.1=0->x.2.2=0)/\(0<x.2.1->1<=x.2.2/\x.2.2<=(there:Int)+x.1))
def DT(d:Nat):Nat->List Int->List Int
 | 0,o=>o
 | n+1,o=>DT d n (o++[o.getD (o.length-d) 0])
def Ny(d:Nat):∀n o,DT d (n+1) o=DT d n o++[(DT d n o).getD ((DT d n o).length-d) 0]
 | 0,o=>rfl
 | n+1,o=>by have:=Ny d n (o++[o.getD (o.length-d) 0]);rw[show DT d (n+1+1) o=DT d (n+1) (o++[o.getD (o.length-d) 0])from rfl,this];rfl
def Nx(d:Nat):∀n o,(DT d n o).length=o.length+n
 | 0,o=>rfl
 | n+1,o=>by rw[show DT d (n+1) o=DT d n (o++[o.getD (o.length-d) 0])from rfl,Nx d n];simp;omega
def rs(ls:List Int)(ps:List Sq)(most:Int):Nat->Int×Nat×List Int
 | 0=>(0,0,[])
 | k+1=>
  if (rs ls ps most k).1≠0 then rs ls ps most k
  else if Fh (ps.getD k AR) (ls.length-(rs ls ps most k).2.1) (rs ls ps most k).2.2.length=false then(5,0,[])
  else if most<((rs ls ps most k).2.2.length:Int)+(ps.getD k AR).1\/most-((rs ls ps most k).2.2.length:Int)-(ps.getD k AR).1<(ps.getD k AR).2.1 then(11,0,[])
  else(0,(rs ls ps most k).2.1+(ps.getD k AR).1.toNat,DT (ps.getD k AR).2.2.toNat (ps.getD k AR).2.1.toNat ((rs ls ps most k).2.2++(ls.drop (rs ls ps most k).2.1).take (ps.getD k AR).1.toNat))
def Dl(ls:List Int)(ps:List Sq)(most:Int):Int×List Int:=
 if most<0\/65536<most then(1,[])
 else if (rs ls ps most ps.length).1≠0 then((rs ls ps most ps.length).1,[])
 else if most-((rs ls ps most ps.length).2.2.length:Int)<(ls.length:Int)-((rs ls ps most ps.length).2.1:Int)then(11,[])
 else(0,(rs ls ps most ps.length).2.2++ls.drop (rs ls ps most ps.length).2.1)
def AFP{ls ps most k n}(h:(rs ls ps most k).1≠0)(q:k<=n):rs ls ps most n=rs ls ps most k:=by
 induction n with
 | zero=>grind
 | succ n f=>
  by_cases e:k=n+1;rw[e]
  .have:=f (by omega);simp only[rs]
   grind
def Mo{ls ps most k E}(r:¬(most<0\/65536<most))(q:k<ps.length)(A:E≠0)(h:rs ls ps most (k+1)=(E,0,[])):Dl ls ps most=(E,[]):=by
 have f:(rs ls ps most (k+1)).1≠0:=by grind
 unfold Dl;rw[if_neg r,AFP f q,if_pos f,h]
def Bj(ds:List Int)(ps:List Sq):Nat->Option (Nat×List Int)
 | 0=>some (0,[])
 | k+1=>match Bj ds ps k with
  | none=>none
  | some t=>if (ps.getD k AR).1<0\/(ps.getD k AR).2.1<0\/(ps.getD k AR).2.2<0\/(ds.length:Int)-(t.1:Int)<(ps.getD k AR).1\/(ds.length:Int)-(t.1:Int)-(ps.getD k AR).1<(ps.getD k AR).2.1 then none
   else some (t.1+(ps.getD k AR).1.toNat+(ps.getD k AR).2.1.toNat,t.2++(ds.drop t.1).take (ps.getD k AR).1.toNat)
def GH(ds:List Int)(ps:List Sq):Int×List Int:=match Bj ds ps ps.length with
 | none=>(5,[])
 | some t=>(0,t.2++ds.drop t.1)
def ACa{f ps k n}(h:Bj f ps k=none)(q:k<=n):Bj f ps n=none:=by
 induction n with
 | zero=>grind
 | succ n r=>
  by_cases e:k=n+1
  .grind
  .simp only[Bj]
   grind
def Tt{f:List Int}{ps:List Sq}:∀{k:Nat} {t:Nat×List Int},Bj f ps k=some t->t.1<=f.length/\t.2.length<=t.1
 | 0,t,h=>by simp[Bj]at h;grind
 | k+1,t,h=>by
  simp only[Bj]at h;split at h;cases h
  .rename_i u hu;split at h;cases h
   .rename_i hn;have q:=Tt hu
    grind
def ACg(x y z)(left B:Nat)(w)(X:left<=140737488355328)(Y:B<=65536):
 Calls prog 174 #[.agg #[.int .i64 x,.int .i64 y,.int .i64 z],.int .i64 left,.int .i64 B] w λ e w'=>e=.returned (.bool (Fh (x,y,z) left B))/\Below w.heap.size w w':=by
 obtain⟨R,K⟩:=exH (Fh (x,y,z) left B);rw[K.o];have A:Hid (R=decide (0<=x/\x<=left/\0<=y/\(y=0->z=0)/\(0<y->1<=z/\z<=(B:Int)+x))):=by show R=_;rw[<-K.o];rfl
 have r:Hid (Below w.heap.size w (w.alloc (.cells #[.int .i64 x,.int .i64 y,.int .i64 z] 244))):=(Below.refl _ _).alloc (AE _) _;by_cases E:x<0
 .have f:Hid (R=false):=by show R=_;rw[A.o];exact ze1 (by omega)
  go_enter func174,ntmps174
  go_wp2_with fail;go_ret;exact⟨by rw[f.o];rfl,r.o⟩
 have g1:decide (x<0)=false:=by rw[AT];omega
 by_cases I:(left:Int)<x
 .have f:Hid (R=false):=by show R=_;rw[A.o];exact ze1 (by omega)
  go_enter func174,ntmps174
  go_wp2_with fail;go_ret;exact⟨by rw[f.o];rfl,r.o⟩
 have T:decide ((left:Int)<x)=false:=by rw[AT];omega
 by_cases J:y<0
 .have f:Hid (R=false):=by show R=_;rw[A.o];exact ze1 (by omega)
  go_enter func174,ntmps174
  go_wp2_with fail;go_ret;exact⟨by rw[f.o];rfl,r.o⟩
 have U:decide (y<0)=false:=by rw[AT];omega
 by_cases q:y=0
 .have L:(y==0)=true:=by simp[q]
  have f:Hid (R=(z==0)):=by show R=_;rw[A.o,Bool.eq_iff_iff,zg1,beq_iff_eq];constructor;intro h;exact h.2.2.2.1 q;intro h;exact⟨by omega,by omega,by omega,λ _=>h,by omega⟩
  clear E I J q
  go_enter func174,ntmps174
  go_wp2_with fail;go_ret;exact⟨by rw[f.o];rfl,r.o⟩
 have L:(y==0)=false:=by simp[q]
 by_cases O:1<=z
 .have f:Hid (R=decide (z<=(B:Int)+x)):=by show R=_;rw[A.o,decide_eq_decide];constructor;intro h;exact(h.2.2.2.2 (by omega)).2;intro h;exact⟨by omega,by omega,by omega,λ e=>absurd e q,λ _=>⟨O,h⟩⟩
  have Z:0<=x:=by omega
  have hx1:x<=(left:Int):=by omega
  clear E I J q
  go_enter func174,ntmps174
  go_wp2_with fail;go_ret;exact⟨by rw[f.o];rfl,r.o⟩
 .have W:decide (1<=z)=false:=by rw[AT];omega
  have f:Hid (R=false):=by show R=_;rw[A.o];exact ze1 (by omega)
  clear E I J q
  go_enter func174,ntmps174
  go_wp2_with fail;go_ret;exact⟨by rw[f.o];rfl,r.o⟩
