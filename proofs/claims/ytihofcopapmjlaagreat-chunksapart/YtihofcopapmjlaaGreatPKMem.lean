import Derived.Test.YtihofcopapmjlaaGreatProg
import Derived.Shelf.SlicesE.DeleteFunc
import Derived.Shelf.SlicesG.Cells
import Derived.Test.YtihofcopapmjlaaGreatPBSum
import Derived.Lib.SlBuf
import Derived.Test.YtihofcopapmjlaaGreatPDMap
import Derived.Test.YtihofcopapmjlaaGreatPANew
import Derived.Great.BuildSlice
import Derived.Laws.CopyOwn
import Derived.Test.YtihofcopapmjlaaGreatPBBlk
set_option maxRecDepth 100000
set_option linter.all false
set_option maxHeartbeats 8000000
namespace Go.Proofs.YtihofcopapmjlaaGreat
open Go.Proofs.Tryz
section
open Go.RowKit Go.Sort Go.Shelf
def Tryz.idxA_ren:Go.Shelf.Ren:=⟨λ|6=>78|n=>n,λ|22=>23|23=>3|25=>52|3=>3|0=>0|4=>4|n=>n,λ|n=>n⟩
def Tryz.idxA:Go.Proofs.SlLaysH.n6 prog Tryz.idxA_ren:={
 mixed:=by kernel_rfl
 f6:=⟨Tryz.f78.name,by decide,func78.trans (congrArg some (by kernel_rfl))⟩
 t0:=underlying0
 a0:=isAgg0
 z0:=Tryz.sizeOf0
 v0:=zeroValue0
 t3:=underlying3
 a3:=isAgg3
 z3:=Tryz.sizeOf3
 v3:=zeroValue3
 t4:=underlying4
 a4:=isAgg4
 z4:=Tryz.sizeOf4
 v4:=zeroValue4
 t22:=underlying23
 a22:=isAgg23
 z22:=Tryz.sizeOf23
 v22:=zeroValue23
 a23:=isAgg3
 z23:=Tryz.sizeOf3
 t25:=underlying52
 a25:=isAgg52
 z25:=Tryz.sizeOf52
 v25:=zeroValue52 }
def Tryz.delA_ren:Go.Shelf.Ren:=⟨λ|45=>86|n=>n,λ|22=>23|23=>3|3=>3|4=>4|0=>0|n=>n,λ|n=>n⟩
def Tryz.delA:Go.Proofs.SlLaysN.n45 prog Tryz.delA_ren:={
 mixed:=by kernel_rfl
 f45:=⟨Tryz.f86.name,by decide,func86.trans (congrArg some (by kernel_rfl))⟩
 t0:=underlying0
 a0:=isAgg0
 z0:=Tryz.sizeOf0
 v0:=zeroValue0
 t3:=underlying3
 a3:=isAgg3
 z3:=Tryz.sizeOf3
 v3:=zeroValue3
 t4:=underlying4
 a4:=isAgg4
 z4:=Tryz.sizeOf4
 v4:=zeroValue4
 t22:=underlying23
 a22:=isAgg23
 z22:=Tryz.sizeOf23
 v22:=zeroValue23
 t23:=underlying3
 a23:=isAgg3
 z23:=Tryz.sizeOf3
 v23:=zeroValue3
 i23:=by kernel_rfl }
end
section
open Go.RowKit Go.Sort Go.Shelf
abbrev FH(w:World)(v:Value)(xs:List Int):Prop:=AF .i64 3 w v xs
def ADw{w g n cap}{xs ys:List Int}(q)(h:FH w (.slice (some ⟨g,0,none⟩) n cap) xs)(U:ys.length=xs.length){m}(W:m<=ys.length):
 FH ((w.drewN q).setCells g 0 (ys.map (Value.int .i64))) (.slice (some ⟨g,0,none⟩) m cap) (ys.take m)/\AD (λ k=>k=g) w ((w.drewN q).setCells g 0 (ys.map (Value.int .i64))):=by
 have A:=h;have J:AD (λ k=>k=g) w (w.drewN q):=⟨rfl,rfl,rfl,AE _,λ _ _ _=>rfl⟩
 refine⟨?_,J.trans (I5 g _ 0 _) (λ _ _ e=>e)⟩;rcases A.2 with⟨e,_⟩|⟨K,c,r,e,_,E,L,B,O,T⟩
 .cases e
 .simp only[Value.slice.injEq,Option.some.injEq,Addr.mk.injEq,and_true]at e;obtain⟨rfl,rfl,rfl⟩:=e;have I:=JU (ys.map (Value.int .i64)) 0 (w.drewN q) r E (by grind);have f:(ys.take m).length=m:=by grind
  refine⟨by simp,.inr ⟨g,cap,_,by rw[f],AI _,I,by omega,B,?_,?_⟩⟩
  .grind
  .rw[f];simp only[List.take_zero,List.nil_append,zu0,Nat.zero_add,Nat.mul_one];rw[List.take_append_of_le_length (by grind),List.map_take]
def Ze(v xs i w)(h:FH w v xs)(J:i<xs.length):
 Calls prog 86 #[v,.int .i64 (i:Int),.int .i64 ((i:Int)+1)] w λ e w'=>∃f,e=.returned f/\FH w' f (xs.eraseIdx i)/\f.ownBlock=v.ownBlock/\AD (λ k=>v.ownBlock=some k) w w':=by
 obtain⟨g,cap,rfl,I,A,B,hc,E⟩:=h.shape (by omega);have H:=AnyG.slices_Delete_int_cells Tryz.delA g 0 xs.length cap i (i+1) xs w (AE _) A (by unfold maxLen at B;omega) (by omega) (by omega) (λ j K=>by grind) (λ j _=>by grind);refine H.mono ?_;rintro e w' ⟨rfl,q,rfl⟩;have r:(List.take xs.length xs).take i++(List.take xs.length xs).drop (i+1)++List.replicate (i+1-i) 0=xs.eraseIdx i++[0]:=by rw[Cj (AE _),List.eraseIdx_eq_take_drop_succ,show i+1-i=1 by omega];rfl
 rw[r];have L:(xs.eraseIdx i).length=xs.length-1:=by grind
 have:=ADw q h (ys:=xs.eraseIdx i++[0]) (by grind) (m:=xs.length-(i+1-i)) (by grind);rw[List.take_append_of_le_length (by omega),Cj (by omega)]at this;exact⟨_,rfl,this.1,rfl,this.2.mono (λ k _ e=>by rw[e];rfl)⟩
def Fst(p:Int->Bool)(xs:List Int)(z:Int):Prop:=
 (z=-1/\∀j,j<xs.length->p (xs.getD j 0)=false)\/∃k,k<xs.length/\z=(k:Int)/\p (xs.getD k 0)=true/\∀j,j<k->p (xs.getD j 0)=false
def ABC(g:Nat)(lb p v xs w)(h:FH w v xs)(B:∀r w,(callFunc g r).run prog w=.ok (.enter g r) w)(K:PredAt prog g lb (Value.int .i64) p w):
 Calls prog 78 #[v,.func (.func g) #[] lb] w λ e w'=>∃z,e=.returned (.int .i64 z)/\Fst p xs z/\∃q,w'=w.drewN q:=by
 by_cases E:xs.length=0;have L:=ze0 E;subst L;obtain⟨a,cap,rfl,_⟩:=h.rd;refine(AnyE.slices_IndexFunc_empty Tryz.idxA a cap _ w).mono ?_;rintro e w' ⟨rfl,rfl⟩;exact⟨-1,rfl,.inl ⟨rfl,λ j f=>by simp at f⟩,0,rfl⟩
 .obtain⟨b,cap,rfl,W,T,I,hc,U⟩:=h.shape (by omega);have H:=AnyE.slices_IndexFunc (α:=Int) Tryz.idxA (Value.int .i64) p g lb B b 0 xs.length cap xs w K (AE _) (by unfold maxLen at I;omega) (λ j f=>by
   grind)
  refine H.mono ?_;rintro e w' ⟨rfl,q,rfl⟩;rw[Cj (AE _)];have O:∀j,j<xs.length->xs[j]! = xs.getD j 0:=λ j f=>by simp
  refine⟨_,rfl,?_,q,rfl⟩;rcases idxByFrom_spec (λ _ y=>p y) (default:Int) xs 0 with⟨A,ha⟩|⟨k,J,A,X,ha⟩
  .exact .inl ⟨A,λ j f=>by grind⟩
  .exact .inr ⟨k,J,by unfold Lib.idxBy;omega,by grind,λ j f=>by grind⟩
end
section
open Go.RowKit Go.Maps
section
variable {o:Oper} {a:Act} {w:World} {K:Act->World->Prop} {Q:Exit->Act->World->Prop}
end
def AD.of_grown{w w' f}(q:w.grownBy w' f):AD (λ k=>f=some k) w w':=(AD.refl _ w).grown q (λ _ _ e=>e)
def Lr(s:DS)(at_:Int):Int:=if at_<0\/(s.L.length:Int)<=at_ then 2 else 0
def Lu(s:DS)(at_:Int):List Int:=if at_<0\/(s.L.length:Int)<=at_ then[]else s.has at_.toNat
section
variable {S:Nat->Prop} {d:Nat} {s:DS}
def Wz(w:World)(v:Value)(xs:List Int):Prop:=(v=.slice none 0 0/\xs=[])\/Wb w v xs
def Wz.rd{w v xs}(h:Wz w v xs):Rd .u8 w v xs:=by rcases h with⟨rfl,rfl⟩|h;exact(CB .u8 5 w).rd;exact h.rd
def AEm(at_ w)(h:Dk S w d s):
 Calls prog 139 #[dp d,.int .i64 at_] w λ e w'=>∃v,e=.returned (.tuple #[v,.int .i64 (Lr s at_)])/\Wz w' v (Lu s at_)/\Below w.heap.size w w'/\∀k,v.ownBlock=some k->w.heap.size<=k:=by
 unfold Lr Lu;by_cases f:at_<0\/(s.L.length:Int)<=at_;rw[if_pos f,if_pos f];refine(AEn at_ w h f).mono ?_;rintro e w' ⟨rfl,rfl⟩;exact⟨_,rfl,.inl ⟨rfl,rfl⟩,Below.refl _ _,λ k B=>by cases B⟩
 .rw[if_neg f,if_neg f];obtain⟨i,rfl⟩:∃i:Nat,at_=(i:Int):=⟨at_.toNat,by omega⟩
  refine(AEo i w h (by omega)).mono ?_;rintro e w' ⟨v,rfl,q,r,A⟩;exact⟨v,rfl,.inr q,r,A⟩
end
def DS.has_ok{S w d s lb r q g}(h:Ej S w d s lb r q g){i}(f:i<s.L.length):(s.has i).length=256/\By (s.has i):=by
 unfold DS.has;by_cases e:s.V i=[]
 .rw[e];exact h.lies.1.get f
 .cases e2:g i with
  | none=>exact absurd (h.no i e2) e
  | some v=>exact(h.yes i v e2).2.2.1.1.last e _
end
section
open Go.RowKit Go.Maps
def Fe(k:Int)(v:Value)(b:Bool):Value:=.agg #[.int .i64 k,v,.bool b]
def KP:Value:=Fe 0 (.slice none 0 0) false
theorem AIl(w):(zeroValue 102).run prog w=.ok KP w:=by kernel_rfl
def gh(g:Nat->Option Value)(i:Nat):Value:=(g i).getD KP
section
variable {w:World} {b n:Nat} {g:Nat->Option Value}
def Mp.lookOk(h:Mp w b n g){i}(q:i<n)(r:i<9223372036854775808):
 (Instr.lookup 103 (.map (some b)) (.int .i64 (i:Int)) true).run prog w=.ok (.tuple #[gh g i,.bool (g i).isSome]) w:=by
 obtain⟨v,E,hr,hv⟩:=World.ownsMap.look_ok h GE underlying103 (AIl w) (zd:=.held KP) (zp:=[]) rfl (KQ (i:=i) r);rw[hr];unfold gh;cases e:g i with
 | none=>
  have f:Maps.has (Dm n g) (Lit.int .i64 (i:Int))=false:=by
   rw[Bool.eq_false_iff];intro f;obtain⟨j,u,_,B,A⟩:=FK.1 f
   grind
  rw[SH e]at hv;simp only[Rv,Option.some.injEq,Prod.mk.injEq,DataW.held.injEq]at hv
  grind
 | some u=>
  have f:Maps.has (Dm n g) (Lit.int .i64 (i:Int))=true:=FK.2 ⟨i,u,q,e,rfl⟩;rw[JR q e]at hv;simp only[Rv,Option.some.injEq,Prod.mk.injEq,DataW.held.injEq]at hv
  grind
def Mp.putH(h:Mp w b n g){i}(q:i<n)(B:n<=4096)(val):
 ∃w',(Instr.mapUpdate 103 (.map (some b)) (.int .i64 (i:Int)) val).run prog w=.ok () w'/\Mp w' b n (Df g i (some val))/\AD (λ k=>k=b) w w':=by
 obtain⟨w',r,f,A⟩:=World.ownsMap.update (val:=val) (d:=.held val) (ps:=[]) h GE underlying103 (by unfold maxLen;omega) (KQ (i:=i) (by omega)) rfl;exact⟨w',r,Iy f (ON q val (f.canon GE)),(AD.of_grown A).mono (λ k _ e=>by grind)⟩
def Gd(g:Nat->Option Value)(z:Int)(i:Nat):Option Value:=if (i:Int)=z then none else g i
def Zk{z}(hc:Canon ((Dm n g).del (Lit.int .i64 z))):(Dm n g).del (Lit.int .i64 z)=Dm n (Gd g z):=by
 refine OM hc (λ k=>?_) (λ j u q f y=>?_)
 .by_cases e:k=Lit.int .i64 z;subst e;rw[has_del_same];constructor;simp;intro h;obtain⟨j,u,q,f,e⟩:=FK.1 h;simp at e;simp[Gd,e]at f
  .rw[has_del_other e,FK,FK];constructor;rintro⟨j,u,q,f,rfl⟩;have:(j:Int)≠z:=λ h=>e (by rw[h]);exact⟨j,u,q,by simp[Gd,this,f],rfl⟩
   .rintro⟨j,u,q,f,rfl⟩;have:(j:Int)≠z:=λ h=>e (by rw[h]);simp[Gd,this]at f
    grind
 .by_cases e:(j:Int)=z;simp[Gd,e]at f;simp[Gd,e]at f;rw[atKey_del_other (by grind),JR q f]
def Mp.delH(h:Mp w b n g){z}(r:(Lit.int .i64 z).wf=true)(ty):
 ∃w',(Builtin.delete_ #[103,3] ty #[.map (some b),.int .i64 z]).run prog w=.ok (.tuple #[]) w'/\Mp w' b n (Gd g z)/\AD (λ k=>k=b) w w':=by
 obtain⟨w',q,f,A⟩:=World.ownsMap.drop h GE underlying103 (keyOf_int_mk underlying3 r) ty;exact⟨w',q,Iy f (Zk (f.canon GE)),(AD.of_grown A.grown).mono (λ k _ e=>by grind)⟩
end
def kg(s:CS)(V:Nat->Value)(n:Nat):Option Value:=if n∈s.d then some (Fe (s.B n).1 (V n) true)else if n∈s.c then some (Fe (s.B n).1 (V n) false)else none
structure BH(X:Nat->Prop)(w:World)(c d N:Nat)(s:CS)(mb:Nat)(av:Value)(V:Nat->Value):Prop where
 n2:N<=4096
 box:w.heap[c]?=some (.cells #[dp d,.int .i64 (s.rm:Int),.map (some mb),av] 105 (0,0))
 map:Mp w mb N (kg s V)
 ord:FH w av (s.c.map Int.ofNat)
 bod:∀n,n∈s.d\/n∈s.c->Rd .u8 w (V n) (s.B n).2
 bap:∀n,n∈s.d\/n∈s.c->∀k,(V n).ownBlock=some k->(s.B n).2≠[]->X k/\k≠c/\k≠mb/\av.ownBlock≠some k
 ok:EC N s
 xc:X c
 xm:X mb
 xa:∀k,av.ownBlock=some k->X k
 xlt:∀k,X k->k<w.heap.size
def Ch(X:Nat->Prop)(w:World)(c d N:Nat)(s:CS):Prop:=∃mb av V,BH X w c d N s mb av V
def DP(X:Nat->Prop)(w w':World)(c d N:Nat)(s:CS):Prop:=∃X',Ch X' w' c d N s/\AD X w w'/\∀k,X' k->X k\/w.heap.size<=k
section
variable {X:Nat->Prop} {w w':World} {c d N:Nat} {s:CS} {mb:Nat} {av:Value} {V:Nat->Value}
def BH.c0(h:BH X w c d N s mb av V):w.cell? ⟨c,0,none⟩=some (dp d):=by rw[cell_of_row w c 0 _ _ (0,0) h.box];rfl
def BH.c1(h:BH X w c d N s mb av V):w.cell? ⟨c,1,none⟩=some (.int .i64 (s.rm:Int)):=by rw[cell_of_row w c 1 _ _ (0,0) h.box];rfl
def BH.c2(h:BH X w c d N s mb av V):w.cell? ⟨c,2,none⟩=some (.map (some mb)):=by rw[cell_of_row w c 2 _ _ (0,0) h.box];rfl
def BH.c3(h:BH X w c d N s mb av V):w.cell? ⟨c,3,none⟩=some av:=by rw[cell_of_row w c 3 _ _ (0,0) h.box];rfl
def BH.lt(h:BH X w c d N s mb av V):c<w.heap.size:=(za0.1 h.box).1
def BH.ne_mb(h:BH X w c d N s mb av V):c≠mb:=λ e=>h.map.notCells (by rw[<-e];exact h.box)
def PR{w v xs}(h:FH w v xs){k}(q:v.ownBlock=some k):∃f,w.heap[k]?=some (.cells f 3 (0,0)):=by
 have r:w.ownsRow 0 3 1 v xs.length (xs.map (Value.int .i64)):=h;rcases r.2 with⟨rfl,_⟩|⟨g,cap,f,rfl,_,A,_⟩
 .cases q
 .cases q
  grind
def BH.av_c(h:BH X w c d N s mb av V):av.ownBlock≠some c:=λ e=>by obtain⟨q,f⟩:=PR h.ord e;rw[h.box]at f;simp at f
def BH.av_mb(h:BH X w c d N s mb av V):av.ownBlock≠some mb:=λ e=>by obtain⟨q,f⟩:=PR h.ord e;exact h.map.notCells f
def BH.tch(h:BH X w c d N s mb av V){R:Nat->Prop}(q:AD R w w')(r:∀k,X k->¬R k):BH X w' c d N s mb av V where
 n2:=h.n2
 box:=by rw[q.block c h.lt (r c h.xc)];exact h.box
 map:=h.map.tch q (r _ h.xm)
 ord:=h.ord.tch q (λ k f=>r k (h.xa k f))
 bod:=λ n A=>(h.bod n A).tch0 q (λ k f B=>r k (h.bap n A k f B).1)
 bap:=h.bap
 ok:=h.ok
 xc:=h.xc
 xm:=h.xm
 xa:=h.xa
 xlt:=λ k f=>Ao (h.xlt k f) q.size
def BH.wide(h:BH X w c d N s mb av V){r}(q:∀k,X k->r k)(E:∀k,r k->k<w.heap.size):BH r w c d N s mb av V:=
 ⟨h.n2,h.box,h.map,h.ord,h.bod,λ n B k f A=>⟨q k (h.bap n B k f A).1,(h.bap n B k f A).2⟩,h.ok,q _ h.xc,q _ h.xm,λ k f=>q k (h.xa k f),E⟩
def Ch.tch(h:Ch X w c d N s){R}(q:AD R w w')(f:∀k,X k->¬R k):Ch X w' c d N s:=by obtain⟨mb,av,V,h⟩:=h;exact⟨mb,av,V,h.tch q f⟩
def Ch.below(h:Ch X w c d N s)(f:Below w.heap.size w w'):Ch X w' c d N s:=h.tch (R:=λ _=>False) (AD.of_below f) (λ _ _ e=>e)
def Ch.to_below(h:Ch X w c d N s)(f:Below w.heap.size w w'):DP X w w' c d N s:=⟨X,h.below f,AD.of_below f,λ _ e=>.inl e⟩
def Ch.lt(h:Ch X w c d N s):∀k,X k->k<w.heap.size:=by obtain⟨_,_,_,h⟩:=h;exact h.xlt
def Ch.ok(h:Ch X w c d N s):EC N s:=by obtain⟨_,_,_,h⟩:=h;exact h.ok
def Ch.n2(h:Ch X w c d N s):N<=4096:=by obtain⟨_,_,_,h⟩:=h;exact h.n2
def DP.after{f q}(A:AD f q w)(K:∀k,X k->f k\/q.heap.size<=k)(h:DP X w w' c d N s):DP f q w' c d N s:=by
 obtain⟨B,E,I,J⟩:=h;refine⟨B,E,A.trans I (λ k r e=>?_),λ k r=>?_⟩
 .grind
 .rcases J k r with e|e
  .grind
  .exact .inr (Aw A.size e)
end
abbrev cp(c:Nat):Value:=.pointer (some ⟨c,0,none⟩)
end
section
open Go.RowKit Go.Maps Go.Sort Go.Shelf
def AFg(n x b W)(hc:W.cell? ⟨b,0,none⟩=some (.int .i64 n)):FnGives prog 85 #[.pointer (some ⟨b,0,none⟩)] #[.int .i64 x] (.bool (decide (x=n))) W:=by
 show Calls prog 85 #[.int .i64 x,.pointer (some ⟨b,0,none⟩)] W _
 go_enter func85,ntmps85
 go_wp2_with fail;go_ret;refine⟨?_,0,rfl⟩;congr 2
def SZ(l:List Nat)(k):(l.map Int.ofNat).getD k 0=((l.getD k 0:Nat):Int):=by grind
def Ou{c E I J av l}(n w)(hb:w.heap[c]?=some (.cells #[E,I,J,av] 105 (0,0)))(ho:FH w av (l.map Int.ofNat))(hn:l.Nodup)(hl:l.length<=100000):
 Calls prog 52 #[cp c,.int .i64 n] w λ e w'=>e=.returned (.tuple #[])/\∃av',w'.heap[c]?=some (.cells #[E,I,J,av'] 105 (0,0))/\FH w' av' ((Az l n).map Int.ofNat)/\av'.ownBlock=av.ownBlock/\AD (λ k=>k=c\/av.ownBlock=some k) w w':=by
 have a2:c<w.heap.size:=(za0.1 hb).1;have a9:av.ownBlock≠some c:=λ e=>by obtain⟨af,hg⟩:=PR ho e;rw[hb]at hg;simp at hg
 obtain⟨f,a0⟩:=exN (w.alloc (.cells #[.int .i64 n] 3));have K:Hid (Below w.heap.size w f):=by rw[<-a0];exact(Below.refl _ _).alloc (AE _) _
 have O:Hid (f.heap[c]?=some (.cells #[E,I,J,av] 105 (0,0))):=by rw[K.o.block c a2];exact hb
 have X:=z6 (ho.below K.o);have c3:f.cell? ⟨c,3,none⟩=some av:=by rw[cell_of_row f c 3 _ _ (0,0) O.o];rfl
 have f3:=frozen_of_row f c 3 _ _ O.o;have hx:f.cell? ⟨w.heap.size,0,none⟩=some (.int .i64 n):=by rw[<-a0,cell_of_row _ w.heap.size 0 _ _ (0,0) (heap_alloc_new w _)];rfl
 have a4:f.heap.size=w.heap.size+1:=by rw[<-a0];simp
 have HI:=AU (ABC 85 #[.pointer (some ⟨w.heap.size,0,none⟩)] (λ x=>decide (x=n)) av (l.map Int.ofNat) f X.o (enters_of func85 (by kernel_rfl) rfl)
  (λ W x ae=>AFg n x w.heap.size W (by rw[AD.cell (AD.of_below (S:=λ _=>False) ae) (p:=⟨w.heap.size,0,none⟩) (by rw[a4];simp) (λ e=>e)];exact hx)))
 have A:Hid (av.ownBlock≠some c/\c<w.heap.size/\f.heap.size=w.heap.size+1/\l.Nodup/\l.length<=100000):=⟨a9,a2,a4,hn,hl⟩
 have ad:∀W,(Instr.makeFunc (.func 85) #[] #[.pointer (some ⟨w.heap.size,0,none⟩)]).run prog W=.ok (.func (.func 85) #[] #[.pointer (some ⟨w.heap.size,0,none⟩)]) W:=λ W=>rfl;obtain⟨a,m,cap,rfl⟩:∃a m cap,av=.slice a m cap:=by obtain⟨a,c,e,_⟩:=X.o.rd;exact⟨_,_,_,e⟩
 clear hb ho hn a9 a2 a4 hx hl
 go_enter func52,ntmps52
 go_wp2_with fail;refine HI.o.mono ?_;rintro e L ⟨z,rfl,hF,q,ac⟩;have Y:Hid (AD (λ _=>False) f L):=by rw[ac];exact⟨rfl,rfl,rfl,AE _,λ _ _ _=>rfl⟩
 have T:Hid (L.heap[c]?=some (.cells #[E,I,J,.slice a m cap] 105 (0,0))):=by rw[Y.o.block c (by have:=A.o.2.1;have:=A.o.2.2.1;omega) (λ e=>e)];exact O.o
 have a1:=z6 (X.o.tch Y.o (λ _ _ e=>e));have d3:L.cell? ⟨c,3,none⟩=some (.slice a m cap):=by rw[cell_of_row L c 3 _ _ (0,0) T.o];rfl
 have B2:=z6 (K.o.trans (Y.o.below K.o.size (λ _ e=>e.elim)));clear ac O X c3 f3 ad HI a0 K Y;rcases hF with⟨rfl,ab⟩|⟨k,B,rfl,a7,_⟩
 .have HE:Hid (Az l n=l):=MT (λ m hm e=>by
   obtain⟨j,hj,rfl⟩:=List.getElem_of_mem hm;have:=ab j (by simpa using hj);rw[SZ,AP,z9 hj]at this;simp at this;exact this e)
  clear ab;go_wp2_with fail
  go_end0
  exact⟨rfl,_,T.o,by rw[HE.o];exact a1.o,rfl,AD.of_below B2.o⟩
 .have aa:k<l.length:=by simpa using B
  have HE:Hid (Az l n=l.eraseIdx k):=TZ A.o.2.2.2.1 aa (by rw[SZ]at a7;simpa using a7);have HD:=AU (Ze (.slice a m cap) (l.map Int.ofNat) k L a1.o B);have k0:(0:Int)<=(k:Int):=by omega
  have k1:(k:Int)<100000:=by have:=A.o.2.2.2.2;omega
  clear a7 B aa;go_wp2_with fail;refine HD.o.mono ?_;rintro e r ⟨v',rfl,a3,a6,a5⟩;have U:Hid (r.heap[c]?=some (.cells #[E,I,J,.slice a m cap] 105 (0,0))):=by rw[a5.block c (by have:=A.o.2.1;have:=B2.o.size;omega) (λ e=>A.o.1 e)];exact T.o
  have e3:r.cell? ⟨c,3,none⟩=some (.slice a m cap):=by rw[cell_of_row r c 3 _ _ (0,0) U.o];rfl
  have f3:=frozen_of_row r c 3 _ _ U.o;obtain⟨Z,a8⟩:=exN (r.setCell ⟨c,3,none⟩ v');have HR:Hid (∃av',Z.heap[c]?=some (.cells #[E,I,J,av'] 105 (0,0))/\FH Z av' ((Az l n).map Int.ofNat)/\av'.ownBlock=(Value.slice a m cap).ownBlock/\AD (λ k=>k=c\/(Value.slice a m cap).ownBlock=some k) w Z):=by
   (have ts:AD (λ k=>k=c) r Z:=by rw[<-a8];exact DO r c 3 v');refine⟨v',?_,?_,a6,?_⟩;rw[<-a8,heap_setCell_same r c 3 _ _ _ U.o];rfl;rw[HE.o,List.eraseIdx_eq_take_drop_succ,za1,List.map_take,List.map_drop,<-List.eraseIdx_eq_take_drop_succ];exact a3.tch ts (λ k B e=>A.o.1 (by rw[a6]at B;rw[<-e];exact B));exact((AD.of_below B2.o).trans (a5.mono (S':=λ k=>k=c\/(Value.slice a m cap).ownBlock=some k) (λ k _ e=>.inr e)) (λ _ _ e=>e)).trans ts (λ k _ e=>.inl e)
  obtain⟨va,vl,vc,rfl⟩:∃a l c,v'=.slice a l c:=by obtain⟨a,c,e,_⟩:=a3.rd;exact⟨_,_,_,e⟩
  clear a3 a6 a5 U T a1 d3 HD;go_wp2_with fail
  go_end0
  exact⟨rfl,HR.o⟩
end
section
open Go.RowKit Go.Maps
section
variable {X:Nat->Prop} {w w':World} {c d N:Nat} {s s':CS} {mb:Nat} {av av':Value} {V V':Nat->Value}
def BH.turnAt(h:BH X w c d N s mb av V)(O:AD (λ k=>k=c\/av.ownBlock=some k\/k=mb) w w')(U:w'.heap[c]?=some (.cells #[dp d,.int .i64 (s'.rm:Int),.map (some mb),av'] 105 (0,0)))(Y:Mp w' mb N (kg s' V'))(T:FH w' av' (s'.c.map Int.ofNat))(L:∀k,av'.ownBlock=some k->av.ownBlock=some k\/w.heap.size<=k)(Z:EC N s')(W:∀n,n∈s'.d\/n∈s'.c->((n∈s.d\/n∈s.c)/\V' n=V n/\s'.B n=s.B n)\/(Rd .u8 w' (V' n) (s'.B n).2/\∀k,(V' n).ownBlock=some k->(s'.B n).2≠[]->(X k\/w.heap.size<=k)/\k≠c/\k≠mb/\av'.ownBlock≠some k)):BH (λ k=>X k\/(w.heap.size<=k/\k<w'.heap.size)) w' c d N s' mb av' V':=by
 have a0:∀n,n∈s.d\/n∈s.c->Rd .u8 w' (V n) (s.B n).2:=λ n r=>(h.bod n r).tch0 O (λ k f q e=>by
  obtain⟨_,A,E,K⟩:=h.bap n r k f q
  grind)
 have a1:=O.size;exact{
  n2:=h.n2
  box:=U
  map:=Y
  ord:=T
  bod:=λ n r=>by grind
  bap:=λ n r k f q=>by
   rcases W n r with⟨A,E,K⟩|⟨A,E⟩
   .rw[E]at f;rw[K]at q;obtain⟨I,J,q3,q4⟩:=h.bap n A k f q;refine⟨.inl I,J,q3,λ e=>?_⟩;rcases L k e with e|e;exact q4 e;have:=h.xlt k I;omega
   .obtain⟨I,J⟩:=E k f q;exact⟨I.imp id (λ e=>⟨e,A.blk_lt q f⟩),J⟩
  ok:=Z
  xc:=.inl h.xc
  xm:=.inl h.xm
  xa:=λ k f=>(L k f).imp (h.xa k) (λ e=>⟨e,T.lt k f⟩)
  xlt:=λ k f=>by
   rcases f with e|e;have:=h.xlt k e;omega;omega }
def BH.own_tch(h:BH X w c d N s mb av V)(f:AD (λ k=>k=c\/av.ownBlock=some k\/k=mb) w w'):AD X w w':=f.mono (λ k _ e=>by
 rcases e with e|e|e;rw[e];exact h.xc;exact h.xa k e
 .rw[e];exact h.xm)
def BH.turn(h:BH X w c d N s mb av V)(f:AD (λ k=>k=c\/av.ownBlock=some k\/k=mb) w w')(q:w'.heap[c]?=some (.cells #[dp d,.int .i64 (s'.rm:Int),.map (some mb),av'] 105 (0,0)))(I:Mp w' mb N (kg s' V'))(K:FH w' av' (s'.c.map Int.ofNat))(r:∀k,av'.ownBlock=some k->av.ownBlock=some k\/w.heap.size<=k)(J:EC N s')(A:∀n,n∈s'.d\/n∈s'.c->((n∈s.d\/n∈s.c)/\V' n=V n/\s'.B n=s.B n)\/(Rd .u8 w' (V' n) (s'.B n).2/\∀k,(V' n).ownBlock=some k->(s'.B n).2≠[]->(X k\/w.heap.size<=k)/\k≠c/\k≠mb/\av'.ownBlock≠some k)):DP X w w' c d N s':=
 ⟨_,⟨mb,av',V',h.turnAt f q I K r J A⟩,h.own_tch f,λ k E=>E.imp id (λ e=>e.1)⟩
end
def ABm(s V n):Gd (kg s V) n=kg (s.forget n) V:=by
 funext i;unfold Gd kg CS.forget;simp only[BW]
 grind
def AIK{f q o a w Q}(E:o.guard=none)(m x)(I:o.op=.call { callee:=.builtin .delete,args:=#[m,x],argTypes:=#[103,3] })(mb N g z)(hm:a.eval m=.map (some mb))(hx:a.eval x=.int .i64 z)(hM:Mp w mb N g)(hz:(Lit.int .i64 z).wf=true)(h:∀w',Mp w' mb N (Gd g z)->AD (λ k=>k=mb) w w'->wpList prog f Q q (a.put o.dst (.tuple #[])) w'):wpList prog f Q (o::q) a w:=by
 obtain⟨w',hr,r,A⟩:=hM.delH hz o.type;refine wpList_plain E λ K B=>?_;unfold Oper.wp;simp[execOp,I,resolve,invoke,builtin,hm,hx,hr,Result.andThen];exact B _ _ (h w' r A)
def AAG{X c d N s mb av V}(n w)(h:BH X w c d N s mb av V)(U:(Lit.int .i64 n).wf=true):
 Calls prog 70 #[cp c,.int .i64 n] w λ e w'=>e=.returned (.tuple #[])/\∃av',BH (λ k=>X k\/(w.heap.size<=k/\k<w'.heap.size)) w' c d N (s.forget n) mb av' V/\AD (λ k=>k=c\/av.ownBlock=some k\/k=mb) w w':=by
 have H:=z6 h;have I:=AU (Ou n w h.box h.ord h.ok.cn (by have:=h.ok.cle;have:=h.n2;omega));have Z:=z6 U;clear h U
 go_enter func70,ntmps70
 go_wp2_with fail;refine I.o.mono ?_;rintro e A ⟨rfl,L,q,O,T,r⟩;have E:=z6 q;have W:=z6 O;have J:=z6 T;have T1:=z6 r;have M1:Hid (Mp A mb N (kg s V)):=H.o.map.tch r (λ e=>by
  rcases e with e|e;exact H.o.ne_mb e.symm
  .exact H.o.av_mb e)
 have c2:A.cell? ⟨c,2,none⟩=some (.map (some mb)):=by rw[cell_of_row A c 2 _ _ (0,0) q];rfl
 clear q O T r I;go_wp2_with(with_reducible (show wpList _ _ _ (Oper.mk _ (Op.call _) _ _ _ _::_) _ _);refine AIK rfl (.tmp 10) (.tmp 11) rfl mb N (kg s V) n rfl rfl M1.o Z.o ?_)
 intro B m2 t2;have Y:Hid (∃av',BH (λ k=>X k\/(w.heap.size<=k/\k<B.heap.size)) B c d N (s.forget n) mb av' V/\AD (λ k=>k=c\/av.ownBlock=some k\/k=mb) w B):=by have K:=(T1.o.mono (S':=λ k=>k=c\/av.ownBlock=some k\/k=mb) (λ k _ e=>e.imp id .inl)).trans t2 (λ k _ e=>.inr (.inr e));refine⟨L,H.o.turnAt (V':=V) (av':=L) (s':=s.forget n) K ?_ ?_ ?_ (λ k f=>.inl (by rw[<-J.o];exact f)) (H.o.ok.forget n) (λ m hm=>.inl ⟨hm.imp (λ e=>(BW.1 e).1) (λ e=>(BW.1 e).1),rfl,rfl⟩),K⟩;rw[t2.block c (za0.1 E.o).1 H.o.ne_mb];exact E.o;rw[<-ABm];exact m2;exact W.o.tch t2 (λ k f e=>H.o.av_mb (by rw[J.o]at f;rw[<-e];exact f))
 clear m2 t2;go_wp2_with fail
 go_end0
 exact⟨rfl,Y.o⟩
