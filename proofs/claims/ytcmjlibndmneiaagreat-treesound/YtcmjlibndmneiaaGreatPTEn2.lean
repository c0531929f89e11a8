import Derived.Test.YtcmjlibndmneiaaGreatPTBeg
import Derived.Laws.AppendOwnNone
set_option maxRecDepth 100000
set_option linter.all false
set_option maxHeartbeats 8000000
namespace Go.Proofs.YtcmjlibndmneiaaGreat
open Go.RowKit Pl
def zil9{w:World}{a:Option Addr}{cap l:Nat}{ps:List E2}(h:RdE w (.slice a l cap) ps)(k:Nat)(hk:k<=ps.length):RdE w (sliced a k l cap 2) (ps.drop k):=by
 obtain⟨T,Y,e,h1,h2,H,I⟩:=h;cases e;have u:(ps.drop k).length=ps.length-k:=zj0;unfold sliced;by_cases A:ps.length-k=0
 .have Q:ps.drop k=[]:=zh0 (by omega);rw[Q,A];refine⟨_,cap-k,rfl,zn7 _,by omega,λ e=>?_,.inl rfl⟩;by_cases c:cap=k
  .omega
  .rw[if_neg c]at e;(have:a=none:=by simpa using e);have:=H this;omega
 .rcases I with rfl|⟨b,o,rfl,K⟩
  .simp at A
  .rw[if_neg (by omega)];refine⟨_,cap-k,by rw[u],by omega,by omega,λ e=>(by cases e),.inr ⟨b,o+k*2,by simp[Addr.add],λ i O=>?_⟩⟩;rw[u]at O;have:=K (k+i) (by omega);(have E:(ps.drop k).getD i eZ=ps.getD (k+i) eZ:=by rw[zn3,zu0,<-zn3]);rw[E,show o+k*2+i*2=o+(k+i)*2 by omega];exact this
def sizeE(w:World):(sizeOf (Tryz.prog.elem 35)).run Tryz.prog w=.ok 2 w:=by
 have h:(Tryz.prog.info? (Tryz.prog.elem 35)).map (·.size)=some 2:=by kernel_rfl
 obtain⟨i,u,A⟩:=Option.map_eq_some_iff.1 h;simp[sizeOf,typeInfo,u,A]
def underE:Tryz.prog.underlying 35=some (.slice (Tryz.prog.elem 35)):=by
 have:Tryz.prog.elem 35=72:=by kernel_rfl
 rw[this];exact Tryz.underlying35
def fromE(b:Option Addr)(L cap p:Nat)(u:p<=L)(A:L<=cap)(w:World):(Instr.sliceAt 35 (.slice b L cap) (some (.int .i64 (p:Int))) none none).run Tryz.prog w=.ok (sliced b p L cap 2) w:=by rw[run_sliceAt_slice _ _ _ _ _ _ underE,run_slice_l _ _ _ _ _ underE _ _ (by omega) (by omega),sizeE];simp[Result.andThen]
section
variable {ops:Array Oper} {rest:List Oper} {o:Oper} {a:Act} {Q:Exit->Act->World->Prop}
def zcb9(w:World)(T:o.guard=none)(s x:Operand)(ho:o.op=.call { callee:=.builtin .append,args:=#[s,x],argTypes:=#[35,35] })
 (B:Nat) (v:Value) (ps:List En) (hs:a.eval s=v) (hown:OwE B w v ps) (u:Value) (qs:List En) (hx:a.eval x=u) (I:RdE w u qs) (hl:ps.length+qs.length<=1000000000) (hB:B<=w.heap.size)
 (h:∀K E,OwE B E K (ps++qs)->Tch (λ k=>v.ownBlock=some k) w E->wpList Tryz.prog ops Q rest (a.put o.dst K) E):wpList Tryz.prog ops Q (o::rest) a w:=by
 obtain⟨i0,Y,a1,a2,a3⟩:=info_parts infoE;obtain⟨ua,cap,rfl,h1,h2,h3,O⟩:=I;cases ua with
 | some ad=>
  refine wpList_append_own_at w T s x 35 ho B 72 i0 _ 2 32 Tryz.underlying35 Y a1 a2 a3 rfl (by decide) v ps.length (ecells ps) hs hown ad qs.length cap (ecells qs) hx (zcy9 qs) ?_ (λ u I=>?_) (by unfold maxLen;omega) (by omega) hB ?_
  .intro j u A;have a0:=(List.getElem?_eq_some_iff.1 A).1;rw[zcy9]at a0;rcases O with rfl|⟨b,a4,e,H⟩
   .simp at a0
   .cases e;rw[Addr.add_lit];rcases Nat.mod_two_eq_zero_or_one j with m|m
    .obtain⟨q,rfl⟩:∃q,j=q*2:=⟨j / 2,by omega⟩
     rw[(zdk9 qs q (by omega)).1]at A;cases A;exact(H q (by omega)).1
    .obtain⟨q,rfl⟩:∃q,j=q*2+1:=⟨j / 2,by omega⟩
     rw[(zdk9 qs q (by omega)).2]at A;cases A;exact(H q (by omega)).2
  .simp only[ecells,List.mem_flatMap,List.mem_cons,List.not_mem_nil,or_false]at I;obtain⟨p,_,rfl|rfl⟩:=I<;>rfl
  .intro K E q1 q2 q3 q4;refine h K E ?_ (Tch.of_grown q2);unfold OwE;rw[zcx9,zf0];exact q1
 | none=>
  have hq:qs=[]:=by
   rcases O with e|⟨b,a4,e,_⟩
   .exact e
   .cases e
  subst hq;have H:=h3 rfl;subst H;exact wpList_append_own_none T s x 35 ho B 72 i0 2 Tryz.underlying35 Y v ps.length (ecells ps) hs hown hx (h v w (by rw[List.append_nil];exact hown) (Tch.refl _ _))
end
def zxb9(key:ByteArray)(ps:List E2):(fndE key ps).2=ps.any (λ e=>eqs e.1 key):=by
 unfold fndE;cases h:ps.find? (λ e=>eqs e.1 key)with
 | some e=>have:=List.find?_some h;exact(List.any_eq_true.2 ⟨e,List.mem_of_find?_eq_some h,this⟩).symm
 | none=>rw[List.find?_eq_none]at h;show false=_;rw[eq_comm,List.any_eq_false];exact h
def zmg9(key:ByteArray)(ps:List E2)(e:E2):(ps++[e]).any (λ e=>eqs e.1 key)=(ps.any (λ e=>eqs e.1 key)||eqs e.1 key):=by simp
def zjg9(key:ByteArray)(ps:List E2)(e:E2):delE key (ps++[e])=if eqs e.1 key=true then delE key ps else delE key ps++[e]:=by
 unfold delE;rw[List.filter_append];by_cases h:eqs e.1 key=true
 .rw[if_pos h];simp[h]
 .rw[if_neg h];simp[h]
def ztv9(key:ByteArray)(ps:List E2):(delE key ps).length<=ps.length:=List.length_filter_le _ _
def zlk9(v:Value)(ps:List E2)(key:ByteArray)(w:World)(h:RdE w v ps)(ae:ps.length<=1000000):
 Calls Tryz.prog 39 #[v,.string key] w λ e w'=>∃v',e=.returned (.tuple #[v',.bool (fndE key ps).2])/\OwE w.heap.size w' v' (delE key ps)/\Below w.heap.size w w':=by
 obtain⟨la,lc,rfl,l1,l2,l3⟩:=h.len;have H:=za0 h;obtain⟨L,T⟩:=exH ps.length;rw[T.o]at H l1 ae |-
 obtain⟨R,hR⟩:=exH (delE key ps);obtain⟨F,hF⟩:=exH ((fndE key ps).2);rw[hR.o,hF.o];have af:(L:Int)<=9223372036854775807:=by omega
 clear h l3
 go_enter Tryz.func39,Tryz.ntmps39
 go_wp2_with fail
 go_loopw [6,7,8] (λ ov fv iv wr=>∃(k:Nat)(I:Option Addr)(O K:Nat)(f:Bool),k<=L/\ov=.slice I O K/\fv=.bool f/\iv=.int .i64 (k:Int)/\Hid (OwE w.heap.size wr (.slice I O K) (delE key (ps.take k))/\Below w.heap.size w wr/\f=(ps.take k).any (λ e=>eqs e.1 key))) (λ _ _ iv _=>L-(intOf iv).toNat)
 case atStart=>exact⟨0,none,0,0,false,zn7 _,rfl,rfl,rfl,owE_nil _ _,Below.refl _ _,by simp⟩
 case round=>
  obtain⟨k,I,O,K,f,hk,rfl,rfl,rfl,u⟩:=hrel;by_cases Q:k<L
  .have d1:decide ((k:Int)<(L:Int))=true:=by rw[zm0];omega
   have ac:decide (k<L)=true:=zm1 Q;obtain⟨lb,lo,rfl,ck,cv⟩:=(H.o.below u.o.2.1).at (i:=k) (by rw[T.o];exact Q);obtain⟨x,hx⟩:=exH ((ps.getD k eZ).1);obtain⟨y,hy⟩:=exH ((ps.getD k eZ).2);rw[hx.o]at ck;rw[hy.o]at cv;(have i0:(0:Int)<=(k:Int):=by omega);(have i1:(k:Int)<(L:Int):=by omega);have v1:=wk_nat (x:=(k:Int)+1) (t:=k+1) (by omega) (by omega);have v2:=zu9 (x:=(k:Int)+1) (t:=k+1) (by clear v1;omega) (by clear v1;omega);have HK:Hid (k<L):=Q;(have Y:Hid (ps.take (k+1)=ps.take k++[(x,y)]):=by show _=_;rw[zee9 ps (by rw[T.o];exact Q),<-hx.o,<-hy.o]);cases q:eqs x key with
   | true=>
    have q':(x.toList==key.toList)=true:=q;have E:Hid (OwE w.heap.size wr (.slice I O K) (delE key (ps.take (k+1)))/\Below w.heap.size w wr/\true=(ps.take (k+1)).any (λ e=>eqs e.1 key)):=⟨by rw[Y.o,zjg9,if_pos q];exact u.o.1,u.o.2.1,by rw[Y.o,zmg9,q,Bool.or_true]⟩
    clear q;go_wp2_with fail;clear v1 v2;have ad:=HK.o
    first
     | exact⟨⟨k+1,_,_,_,_,by omega,by rfl,by rfl,by rfl,E⟩,by simp[intOf];omega⟩
     | (go_roundw
        (case rel=>exact⟨k+1,_,_,_,_,by omega,by rfl,by rfl,by rfl,E⟩);case measure=>simp[intOf];omega)
   | false=>
    have q':(x.toList==key.toList)=false:=q;obtain⟨A,a3⟩:=exN (wr.alloc (.cells #[.string x,.string y] 72));(have b4:Below wr.heap.size wr A:=by rw[<-a3];exact za9 _ _);(have a2:A.heap[wr.heap.size]?=some (.cells #[.string x,.string y] 72 (0,0)):=by rw[<-a3];exact heap_alloc_new wr _);(have a8:Hid (A.cell? ⟨wr.heap.size,0,none⟩=some (.string x)):=by show _=_;rw[cell_of_row A wr.heap.size 0 _ _ (0,0) a2];rfl);(have a9:Hid (A.cell? ⟨wr.heap.size,1,none⟩=some (.string y)):=by show _=_;rw[cell_of_row A wr.heap.size 1 _ _ (0,0) a2];rfl);have a4:=za0 (u.o.1.below b4);have a0:Hid (Below w.heap.size w A):=u.o.2.1.trans (b4.mono u.o.2.1.size)
    (have ab:Hid ((delE key (ps.take k)).length<=1000000000):=by show _<=_;have:=ztv9 key (ps.take k);rw[zg0]at this;have:=T.o;omega);(have a7:Hid (f=(ps.take (k+1)).any (λ e=>eqs e.1 key)):=by show _=_;rw[Y.o,zmg9,q,Bool.or_false];exact u.o.2.2);(have aa:Hid (delE key (ps.take (k+1))=delE key (ps.take k)++[(x,y)]):=by show _=_;rw[Y.o,zjg9,if_neg (by rw[q];decide)]);clear b4 a2 q;go_wp2_with(at_builtin;refine zas9 A rfl (.tmp 22) (.tmp 27) rfl w.heap.size (.slice I O K) (delE key (ps.take k)) rfl a4.o wr.heap.size (x,y) rfl a8.o a9.o ab.o a0.o.size ?_)
    rintro v' W5 o5 t5 f5;have E:Hid (OwE w.heap.size W5 v' (delE key (ps.take (k+1)))/\Below w.heap.size w W5/\f=(ps.take (k+1)).any (λ e=>eqs e.1 key)):=⟨by rw[aa.o];exact o5,a0.o.trans (t5.below a0.o.size (λ j hj=>a4.o.ge j hj)),a7.o⟩
    obtain⟨ag,ah,rfl⟩:=o5.long;obtain⟨ai,a6⟩:=exN ((delE key (ps.take k)++[(x,y)]).length);rw[a6]at E |-
    clear o5 t5 f5 a6 a3;go_wp2_with fail;clear v1 v2;have ad:=HK.o
    first
     | exact⟨⟨k+1,_,_,_,_,by omega,by rfl,by rfl,by rfl,E⟩,by simp[intOf];omega⟩
     | (go_roundw
        (case rel=>exact⟨k+1,_,_,_,_,by omega,by rfl,by rfl,by rfl,E⟩);case measure=>simp[intOf];omega)
  .have d1:decide ((k:Int)<(L:Int))=false:=by rw[zn4];omega
   have ac:decide (k<L)=false:=zl1 Q;have a5:Hid (ps.take k=ps):=zn5 (by have:=T.o;omega);have a1:Hid (OwE w.heap.size wr (.slice I O K) R/\Below w.heap.size w wr/\f=F):=⟨by rw[<-hR.o];have:=u.o.1;rw[a5.o]at this;exact this,u.o.2.1,by rw[u.o.2.2,a5.o,<-hF.o,zxb9]⟩
   clear u;go_wp2_with fail;go_ret2;refine⟨_,?_,a1.o.1,a1.o.2.1⟩;rw[a1.o.2.2];rfl
def ztn9{ps:List E2}(h:Up ps){k:Nat}(u:k<ps.length):∀e∈ps.drop (k+1),Kl (ps.getD k eZ).1 e.1:=λ e A=>by obtain⟨i,E,rfl⟩:=List.getElem_of_mem A;rw[zj0]at E;have:=List.pairwise_iff_getElem.1 h k (k+1+i) u (by omega) (by omega);rw[zn3,zc0 u,List.getElem_drop];exact this
def ztm9{ps:List E2}{key:ByteArray}{k:Nat}(h:∀i,i<k->Kl (ps.getD i eZ).1 key):∀e∈ps.take k,Kl e.1 key:=λ e u=>by obtain⟨i,A,rfl⟩:=List.getElem_of_mem u;rw[zg0]at A;have:=h i (by omega);rw[zn3,zc0 (by omega)]at this;rw[List.getElem_take];exact this
def zsu9{ps:List E2}(h:Up ps){key:ByteArray}(val:ByteArray){k:Nat}(H:∀i,i<k->Kl (ps.getD i eZ).1 key):
 (k<ps.length->(ps.getD k eZ).1=key->insE key val ps=ps.take k++([(key,val)]++ps.drop (k+1)))/\((k<ps.length->Kl key (ps.getD k eZ).1)->insE key val ps=ps.take k++([(key,val)]++ps.drop k)):=by
 refine⟨λ A I=>?_,λ A=>?_⟩
 .have E:ps=ps.take k++([ps.getD k eZ]++ps.drop (k+1)):=by rw[<-zw0,<-zee9 ps A,zx0]
  conv=>lhs;rw[E]
  rw[zdq9 val (ztm9 H) (λ e u=>by have:=ztn9 h A e u;rw[I]at this;exact this)];rw[show ps.getD k eZ=(key,(ps.getD k eZ).2)from by rw[<-I],zno9]
 .have O:∀e∈ps.drop k,Kl key e.1:=λ e u=>by
   by_cases c:k<ps.length
   .have K:ps.drop k=ps.getD k eZ::ps.drop (k+1):=by rw[zn3,zc0 c];simp
    rw[K]at u;rcases List.mem_cons.1 u with q|q
    .rw[q];exact A c
    .exact(A c).trans (ztn9 h c e q)
   .rw[List.drop_of_length_le (by omega)]at u;cases u
  have E:ps=ps.take k++([]++ps.drop k):=by rw[List.nil_append,zx0]
  conv=>lhs;rw[E]
  rw[zdq9 val (ztm9 H) O,znn9]
def zlm9(v:Value)(ps:List E2)(key val:ByteArray)(w:World)(h:RdE w v ps)(ak:Up ps)(ar:ps.length<=1000000):
 Calls Tryz.prog 32 #[v,.string key,.string val] w λ e w'=>∃v',e=.returned v'/\OwE w.heap.size w' v' (insE key val ps)/\Below w.heap.size w w':=by
 obtain⟨la,lc,rfl,l1,l2,l3⟩:=h.len;have H:=za0 h;obtain⟨L,A⟩:=exH ps.length;rw[A.o]at H l1 ar |-
 obtain⟨R,hR⟩:=exH (insE key val ps);rw[hR.o];have aj:=za0 ak;have ax:(L:Int)<=9223372036854775807:=by omega
 clear h l3 ak
 go_enter Tryz.func32,Tryz.ntmps32
 go_wp2_with fail
 go_loopw [7,8] (λ ov iv wr=>∃(k:Nat)(va:Option Addr)(vn vc:Nat),k<=L/\ov=.slice va vn vc/\iv=.int .i64 (k:Int)/\Hid (OwE w.heap.size wr (.slice va vn vc) (ps.take k)/\Below w.heap.size w wr/\∀i,i<k->Kl (ps.getD i eZ).1 key)) (λ _ iv _=>L-(intOf iv).toNat)
 case atStart=>exact⟨0,none,0,0,zn7 _,rfl,rfl,owE_nil _ _,Below.refl _ _,λ i hi=>by omega⟩
 case round=>
  obtain⟨k,va,vn,vc,hk,rfl,rfl,E⟩:=hrel;by_cases h1:k<L
  .have d1:decide ((k:Int)<(L:Int))=true:=by rw[zm0];omega
   have aq:=zm1 h1;obtain⟨lb,lo,rfl,ck,cv⟩:=(H.o.below E.o.2.1).at (i:=k) (by rw[A.o];exact h1);obtain⟨x,hx⟩:=exH ((ps.getD k eZ).1);obtain⟨y,hy⟩:=exH ((ps.getD k eZ).2);rw[hx.o]at ck;rw[hy.o]at cv;(have i0:(0:Int)<=(k:Int):=by omega);(have i1:(k:Int)<(L:Int):=by omega);have v1:=wk_nat (x:=(k:Int)+1) (t:=k+1) (by omega) (by omega);have v2:=zu9 (x:=(k:Int)+1) (t:=k+1) (by clear v1;omega) (by clear v1;omega);have HK:=za0 h1;cases q:lts x key with
   | true=>
    have q':Op.bytesLess x.toList key.toList=true:=q;obtain⟨u,Q⟩:=exN (wr.alloc (.cells #[.string x,.string y] 72));(have K:Below wr.heap.size wr u:=by rw[<-Q];exact za9 _ _);(have O:u.heap[wr.heap.size]?=some (.cells #[.string x,.string y] 72 (0,0)):=by rw[<-Q];exact heap_alloc_new wr _);(have a5:Hid (u.cell? ⟨wr.heap.size,0,none⟩=some (.string x)):=by show _=_;rw[cell_of_row u wr.heap.size 0 _ _ (0,0) O];rfl);(have a6:Hid (u.cell? ⟨wr.heap.size,1,none⟩=some (.string y)):=by show _=_;rw[cell_of_row u wr.heap.size 1 _ _ (0,0) O];rfl);have a1:=za0 (E.o.1.below K);have I:Hid (Below w.heap.size w u):=E.o.2.1.trans (K.mono E.o.2.1.size)
    (have a7:Hid ((ps.take k).length<=1000000000):=by show _<=_;rw[zg0];have:=A.o;omega);have an:Hid (∀i,i<k+1->Kl (ps.getD i eZ).1 key):=λ i hi=>by
     by_cases e:i=k
     .rw[e,hx.o];exact q
     .exact E.o.2.2 i (by omega)
    (have ao:Hid (ps.take (k+1)=ps.take k++[(x,y)]):=by show _=_;rw[zee9 ps (by rw[A.o];exact h1),<-hx.o,<-hy.o]);clear K O q;go_wp2_with(at_builtin;refine zas9 u rfl (.tmp 22) (.tmp 27) rfl w.heap.size (.slice va vn vc) (ps.take k) rfl a1.o wr.heap.size (x,y) rfl a5.o a6.o a7.o I.o.size ?_)
    rintro v' W5 T t5 f5;have ah:Hid (OwE w.heap.size W5 v' (ps.take (k+1))/\Below w.heap.size w W5/\∀i,i<k+1->Kl (ps.getD i eZ).1 key):=⟨by rw[ao.o];exact T,I.o.trans (t5.below I.o.size (λ j hj=>a1.o.ge j hj)),an.o⟩
    obtain⟨a8,a9,rfl⟩:=T.long;obtain⟨aa,a4⟩:=exN ((ps.take k++[(x,y)]).length);rw[a4]at ah |-
    clear T t5 f5 a4 Q;go_wp2_with fail;clear v1 v2;have ay:=HK.o
    first
     | exact⟨⟨k+1,_,_,_,by omega,by rfl,by rfl,ah⟩,by simp[intOf];omega⟩
     | (go_roundw
        (case rel=>exact⟨k+1,_,_,_,by omega,by rfl,by rfl,ah⟩);case measure=>simp[intOf];omega)
   | false=>
    have q':Op.bytesLess x.toList key.toList=false:=q;have ag:=za0 (zsu9 aj.o val E.o.2.2);cases q2:eqs x key with
    | true=>
     have aw:(x.toList==key.toList)=true:=q2;(have HR:Hid (R=ps.take k++([(key,val)]++ps.drop (k+1))):=by show _=_;rw[<-hR.o];exact ag.o.1 (by rw[A.o];exact h1) (by rw[hx.o];exact eqsP.1 q2));clear q q2 ag;obtain⟨u,Q⟩:=exN (wr.alloc (.cells #[.string key,.string val] 72));(have K:Below wr.heap.size wr u:=by rw[<-Q];exact za9 _ _);(have O:u.heap[wr.heap.size]?=some (.cells #[.string key,.string val] 72 (0,0)):=by rw[<-Q];exact heap_alloc_new wr _);have a5:Hid (u.cell? ⟨wr.heap.size,0,none⟩=some (.string key)):=by show _=_;rw[cell_of_row u wr.heap.size 0 _ _ (0,0) O];rfl
     (have a6:Hid (u.cell? ⟨wr.heap.size,1,none⟩=some (.string val)):=by show _=_;rw[cell_of_row u wr.heap.size 1 _ _ (0,0) O];rfl);have a1:=za0 (E.o.1.below K);have I:Hid (Below w.heap.size w u):=E.o.2.1.trans (K.mono E.o.2.1.size);(have a7:Hid ((ps.take k).length<=1000000000):=by show _<=_;rw[zg0];have:=A.o;omega);clear K O;go_wp2_with(at_builtin;refine zas9 u rfl (.tmp 31) (.tmp 35) rfl w.heap.size (.slice va vn vc) (ps.take k) rfl a1.o wr.heap.size (key,val) rfl a5.o a6.o a7.o I.o.size ?_)
     rintro v' W5 T t5 f5;have b5:Below w.heap.size w W5:=I.o.trans (t5.below I.o.size (λ j hj=>a1.o.ge j hj));have a2:=za0 T;obtain⟨a8,a9,rfl⟩:=T.long;obtain⟨aa,a4⟩:=exN ((ps.take k++[(key,val)]).length);rw[a4]at a2 |-
     have a0:=za0 b5;have af:∀W,(Instr.sliceAt 35 (.slice (some ⟨lb,lo,none⟩) L lc) (some (.int .i64 ((k:Int)+1))) none none).run Tryz.prog W=.ok (sliced (some ⟨lb,lo,none⟩) (k+1) L lc 2) W:=λ W=>fromE (some ⟨lb,lo,none⟩) L lc (k+1) (by omega) l1 W;obtain⟨au,av,e5,ai,ap⟩:=(H.o.below b5).at (i:=k) (by rw[A.o];exact HK.o);cases e5;rw[hx.o]at ai;have a3:=zil9 (H.o.below b5) (k+1) (by have:=A.o;omega);obtain⟨ua,un,uc,hu⟩:∃a l c,sliced (some ⟨lb,lo,none⟩) (k+1) L lc 2=.slice a l c:=⟨_,_,_,rfl⟩
     (rw[hu]at a3;simp only[hu]at af;have ae:=za0 a3;have ac:Hid ((ps.take k++[(key,val)]).length+(ps.drop (k+1)).length<=1000000000):=by show _<=_;rw[zf0,zg0,zj0];have:=A.o;simp;omega);clear T t5 f5 b5 a4 Q a3 hu;go_wp2_with(at_builtin;refine zcb9 W5 rfl (.tmp 52) (.tmp 55) rfl w.heap.size (.slice a8 aa a9) (ps.take k++[(key,val)]) rfl a2.o (.slice ua un uc) (ps.drop (k+1)) rfl ae.o ac.o a0.o.size ?_)
     rintro v6 W6 Y t6;have ab:Hid (Below w.heap.size w W6):=a0.o.trans (t6.below a0.o.size (λ j hj=>a2.o.ge j hj));have ad:Hid (OwE w.heap.size W6 v6 R):=by
      show OwE _ _ _ _;rw[HR.o];simp only[zw0,List.cons_append,List.nil_append]at Y |-
      exact Y
     clear t6;obtain⟨al,am,rfl⟩:=Y.long;clear Y;go_wp2_with fail;go_ret;exact⟨_,rfl,ad.o,ab.o⟩
    | false=>
     have aw:(x.toList==key.toList)=false:=q2;have HR:Hid (R=ps.take k++([(key,val)]++ps.drop k)):=by
      show _=_;rw[<-hR.o];refine ag.o.2 (λ _=>?_);rw[hx.o];rcases k_tri x key with t|t|t
      .rw[show lts x key=true from t]at q;cases q
      .rw[eqsP.2 t]at q2;cases q2
      .exact t
     clear q q2 ag;obtain⟨u,Q⟩:=exN (wr.alloc (.cells #[.string key,.string val] 72));(have K:Below wr.heap.size wr u:=by rw[<-Q];exact za9 _ _);(have O:u.heap[wr.heap.size]?=some (.cells #[.string key,.string val] 72 (0,0)):=by rw[<-Q];exact heap_alloc_new wr _);(have a5:Hid (u.cell? ⟨wr.heap.size,0,none⟩=some (.string key)):=by show _=_;rw[cell_of_row u wr.heap.size 0 _ _ (0,0) O];rfl);(have a6:Hid (u.cell? ⟨wr.heap.size,1,none⟩=some (.string val)):=by show _=_;rw[cell_of_row u wr.heap.size 1 _ _ (0,0) O];rfl);have a1:=za0 (E.o.1.below K);have I:Hid (Below w.heap.size w u):=E.o.2.1.trans (K.mono E.o.2.1.size)
     (have a7:Hid ((ps.take k).length<=1000000000):=by show _<=_;rw[zg0];have:=A.o;omega);clear K O;go_wp2_with(at_builtin;refine zas9 u rfl (.tmp 31) (.tmp 35) rfl w.heap.size (.slice va vn vc) (ps.take k) rfl a1.o wr.heap.size (key,val) rfl a5.o a6.o a7.o I.o.size ?_)
     rintro v' W5 T t5 f5;have b5:Below w.heap.size w W5:=I.o.trans (t5.below I.o.size (λ j hj=>a1.o.ge j hj));have a2:=za0 T;obtain⟨a8,a9,rfl⟩:=T.long;obtain⟨aa,a4⟩:=exN ((ps.take k++[(key,val)]).length);rw[a4]at a2 |-
     have a0:=za0 b5;have af:∀W,(Instr.sliceAt 35 (.slice (some ⟨lb,lo,none⟩) L lc) (some (.int .i64 ((k:Int)))) none none).run Tryz.prog W=.ok (sliced (some ⟨lb,lo,none⟩) (k) L lc 2) W:=λ W=>fromE (some ⟨lb,lo,none⟩) L lc (k) (by omega) l1 W;obtain⟨au,av,e5,ai,ap⟩:=(H.o.below b5).at (i:=k) (by rw[A.o];exact HK.o);cases e5;rw[hx.o]at ai;have a3:=zil9 (H.o.below b5) (k) (by have:=A.o;omega);obtain⟨ua,un,uc,hu⟩:∃a l c,sliced (some ⟨lb,lo,none⟩) (k) L lc 2=.slice a l c:=⟨_,_,_,rfl⟩
     (rw[hu]at a3;simp only[hu]at af;have ae:=za0 a3;have ac:Hid ((ps.take k++[(key,val)]).length+(ps.drop (k)).length<=1000000000):=by show _<=_;rw[zf0,zg0,zj0];have:=A.o;simp;omega);clear T t5 f5 b5 a4 Q a3 hu;go_wp2_with(at_builtin;refine zcb9 W5 rfl (.tmp 52) (.tmp 55) rfl w.heap.size (.slice a8 aa a9) (ps.take k++[(key,val)]) rfl a2.o (.slice ua un uc) (ps.drop (k)) rfl ae.o ac.o a0.o.size ?_)
     rintro v6 W6 Y t6;have ab:Hid (Below w.heap.size w W6):=a0.o.trans (t6.below a0.o.size (λ j hj=>a2.o.ge j hj));have ad:Hid (OwE w.heap.size W6 v6 R):=by
      show OwE _ _ _ _;rw[HR.o];simp only[zw0,List.cons_append,List.nil_append]at Y |-
      exact Y
     clear t6;obtain⟨al,am,rfl⟩:=Y.long;clear Y;go_wp2_with fail;go_ret;exact⟨_,rfl,ad.o,ab.o⟩
  .have d1:decide ((k:Int)<(L:Int))=false:=by rw[zn4];omega
   have aq:decide (k<L)=false:=zl1 h1;(have HR:Hid (R=ps.take k++([(key,val)]++ps.drop k)):=by show _=_;rw[<-hR.o];exact(zsu9 aj.o val E.o.2.2).2 (λ e=>by rw[A.o]at e;exact absurd e h1));obtain⟨u,Q⟩:=exN (wr.alloc (.cells #[.string key,.string val] 72));(have K:Below wr.heap.size wr u:=by rw[<-Q];exact za9 _ _);(have O:u.heap[wr.heap.size]?=some (.cells #[.string key,.string val] 72 (0,0)):=by rw[<-Q];exact heap_alloc_new wr _);(have a5:Hid (u.cell? ⟨wr.heap.size,0,none⟩=some (.string key)):=by show _=_;rw[cell_of_row u wr.heap.size 0 _ _ (0,0) O];rfl);have a6:Hid (u.cell? ⟨wr.heap.size,1,none⟩=some (.string val)):=by show _=_;rw[cell_of_row u wr.heap.size 1 _ _ (0,0) O];rfl
   have a1:=za0 (E.o.1.below K);have I:Hid (Below w.heap.size w u):=E.o.2.1.trans (K.mono E.o.2.1.size);(have a7:Hid ((ps.take k).length<=1000000000):=by show _<=_;rw[zg0];have:=A.o;omega);clear K O;go_wp2_with(at_builtin;refine zas9 u rfl (.tmp 31) (.tmp 35) rfl w.heap.size (.slice va vn vc) (ps.take k) rfl a1.o wr.heap.size (key,val) rfl a5.o a6.o a7.o I.o.size ?_)
   rintro v' W5 T t5 f5;have b5:Below w.heap.size w W5:=I.o.trans (t5.below I.o.size (λ j hj=>a1.o.ge j hj));have a2:=za0 T;obtain⟨a8,a9,rfl⟩:=T.long;obtain⟨aa,a4⟩:=exN ((ps.take k++[(key,val)]).length);rw[a4]at a2 |-
   have a0:=za0 b5;have af:∀W,(Instr.sliceAt 35 (.slice la L lc) (some (.int .i64 ((k:Int)))) none none).run Tryz.prog W=.ok (sliced la (k) L lc 2) W:=λ W=>fromE la L lc (k) (by omega) l1 W;have a3:=zil9 (H.o.below b5) (k) (by have:=A.o;omega);obtain⟨ua,un,uc,hu⟩:∃a l c,sliced la (k) L lc 2=.slice a l c:=⟨_,_,_,rfl⟩
   (rw[hu]at a3;simp only[hu]at af;have ae:=za0 a3;have ac:Hid ((ps.take k++[(key,val)]).length+(ps.drop (k)).length<=1000000000):=by show _<=_;rw[zf0,zg0,zj0];have:=A.o;simp;omega);clear T t5 f5 b5 a4 Q a3 hu;go_wp2_with(at_builtin;refine zcb9 W5 rfl (.tmp 52) (.tmp 55) rfl w.heap.size (.slice a8 aa a9) (ps.take k++[(key,val)]) rfl a2.o (.slice ua un uc) (ps.drop (k)) rfl ae.o ac.o a0.o.size ?_)
   rintro v6 W6 Y t6;have ab:Hid (Below w.heap.size w W6):=a0.o.trans (t6.below a0.o.size (λ j hj=>a2.o.ge j hj));have ad:Hid (OwE w.heap.size W6 v6 R):=by
    show OwE _ _ _ _;rw[HR.o];simp only[zw0,List.cons_append,List.nil_append]at Y |-
    exact Y
   clear t6;obtain⟨al,am,rfl⟩:=Y.long;clear Y;go_wp2_with fail;go_ret;exact⟨_,rfl,ad.o,ab.o⟩
