import Derived.Test.YtcmjlibndmneiaaGreatPPlain
import Derived.WalkKit
set_option maxRecDepth 100000
set_option linter.all false
set_option maxHeartbeats 8000000
namespace Go.RowKit
def Hid.o{p:Prop}(h:Hid p):p:=h
end Go.RowKit
namespace Go.Proofs.YtcmjlibndmneiaaGreat
abbrev zc0:=@List.getElem?_eq_getElem
abbrev zd0:=@Array.getElem?_eq_some_iff
abbrev ze0:=@World.block_lt_of_cell?
abbrev zf0:=@List.length_append
abbrev zg0:=@List.length_take
abbrev zh0:=@List.eq_nil_of_length_eq_zero
abbrev zi0:=@List.mem_append
abbrev zj0:=@List.length_drop
abbrev zk0:=@List.length_cons
abbrev zl0:=@beq_eq_false_iff_ne
abbrev zm0:=@decide_eq_true_iff
abbrev zn0:=@List.getElem?_append_right
abbrev zo0:=@List.getElem?_append_left
abbrev zp0:=@List.mem_cons_self
abbrev zq0:=@List.mem_cons_of_mem
abbrev zr0:=@List.length_replicate
abbrev zs0:=@List.getElem?_eq_none
abbrev zt0:=@List.length_set
abbrev zu0:=@List.getElem?_drop
abbrev zv0:=@List.getElem?_take
abbrev zw0:=@List.append_assoc
abbrev zx0:=@List.take_append_drop
abbrev zy0:=@List.mem_of_mem_take
abbrev zz0:=@List.mem_of_mem_drop
abbrev za1:=@List.getElem_mem
abbrev zb1:=@List.length_map
abbrev zc1:=@Option.some.inj
abbrev zd1:=@List.getElem?_map
abbrev ze1:=@List.drop_drop
abbrev zf1:=@List.mem_append_left
abbrev zg1:=@List.mem_append_right
abbrev zh1:=@List.take_take
abbrev zi1:=@List.map_append
abbrev zj1:=@List.nodup_append
abbrev zk1:=@List.mem_of_getElem?
abbrev zl1:=@decide_eq_false
abbrev zm1:=@decide_eq_true
abbrev zo1:=@decide_eq_true_eq
universe u
def qa{α:Type}{l:List α}{i:Nat}{a:α}:l.toArray.setIfInBounds i a=(l.set i a).toArray:=List.setIfInBounds_toArray ..
def qb{α:Type}{l:List α}{a b:α}:(a::l).set 0 b=b::l:=List.set_cons_zero ..
def qc{α:Type}{l:List α}{n:Nat}{a b:α}:(a::l).set (n+1) b=a::l.set n b:=List.set_cons_succ ..
def zw:(∀(a:Act)(d:Tmp)(v:Value),Act.put a (some d) v={a with tmps:=a.tmps.setIfInBounds d v})/\(∀(a:Act)(v:Value),Act.put a none v=a)/\(∀{α:Type}{l:List α}{i:Nat}{a:α},l.toArray.setIfInBounds i a=(l.set i a).toArray)/\(∀{α:Type}{l:List α}{a b:α},(a::l).set 0 b=b::l)/\(∀{α:Type}{l:List α}{n:Nat}{a b:α},(a::l).set (n+1) b=a::l.set n b):=⟨fun _ _ _=>rfl,fun _ _=>rfl,qa,qb,qc⟩
def exN{α:Sort u}(x:α):∃y,x=y:=⟨_,rfl⟩
def exH{α:Sort u}(x:α):∃y,Go.RowKit.Hid (x=y):=⟨_,rfl⟩
def zn1{a b c:Nat}(h:a<b)(k:b<=c):a<c:=Nat.lt_of_lt_of_le h k
def zn2{a b c:Nat}(h:a<=b)(k:b<=c):a<=c:=Nat.le_trans h k
def zn3{α:Type}{l:List α}{i:Nat}{a:α}:l.getD i a=(l[i]?).getD a:=List.getD_eq_getElem?_getD ..
def zn4{p:Prop}[Decidable p]:decide p=false↔¬p:=decide_eq_false_iff_not
def zn5{α:Type}{i:Nat}{l:List α}(h:l.length<=i):l.take i=l:=List.take_of_length_le h
def zn6(a:Nat):a<=a:=Nat.le_refl a
def zn7(a:Nat):0<=a:=Nat.zero_le a
open Go.RowKit
def za0{p:Prop}(h:p):Hid p:=h
def Rd(k:IntKind)(w:World)(v:Value)(xs:List Int):Prop:=
 ∃a cap,v=.slice a xs.length cap/\xs.length<=cap/\cap<=maxLen/\(a=none->cap=0)/\
  (xs=[]\/∃b o,a=some ⟨b,o,none⟩/\∀i,i<xs.length->w.cell? ⟨b,o+i,none⟩=some (.int k (xs.getD i 0)))
def By(xs:List Int):Prop:=∀i,0<=xs.getD i 0/\xs.getD i 0<=255
structure Tch(S:Nat->Prop)(w w':World):Prop where
 os:w'.os=w.os
 tape:w'.tape=w.tape
 output:w'.output=w.output
 size:w.heap.size<=w'.heap.size
 block:∀k,k<w.heap.size->¬S k->w'.heap[k]?=w.heap[k]?
def Tch.refl(S:Nat->Prop)(w:World):Tch S w w:=⟨rfl,rfl,rfl,zn6 _,λ _ _ _=>rfl⟩
def Tch.trans{S S':Nat->Prop}{a b c:World}(h:Tch S a b)(k:Tch S' b c)(E:∀i,i<a.heap.size->S' i->S i):Tch S a c:=
 ⟨k.os.trans h.os,k.tape.trans h.tape,k.output.trans h.output,zn2 h.size k.size,
  λ i u A=>(k.block i (zn1 u h.size) (λ e=>A (E i u e))).trans (h.block i u A)⟩
def Tch.mono{S S':Nat->Prop}{a b:World}(h:Tch S a b)(E:∀i,i<a.heap.size->S i->S' i):Tch S' a b:=
 ⟨h.os,h.tape,h.output,h.size,λ i u A=>h.block i u (λ e=>A (E i u e))⟩
def Tch.of_below{S:Nat->Prop}{w w':World}(h:Below w.heap.size w w'):Tch S w w':=
 ⟨h.os,h.tape,h.output,h.size,λ k u _=>h.block k u⟩
def Tch.below{S:Nat->Prop}{B:Nat}{w w':World}(h:Tch S w w')(A:B<=w.heap.size)(u:∀k,S k->B<=k):Below B w w':=
 ⟨h.os,h.tape,h.output,h.size,λ k E=>h.block k (by omega) (λ e=>by have:=u k e;omega)⟩
def Tch.drew{S:Nat->Prop}{a w:World}(h:Tch S a w):Tch S a w.drew:=⟨h.os,h.tape,h.output,h.size,h.block⟩
def Tch.alloc{S:Nat->Prop}{a w:World}(h:Tch S a w)(o:Obj):Tch S a (w.alloc o):=
 h.trans (S':=S) ⟨rfl,rfl,rfl,by simp,λ k u _=>Below.heap_alloc _ _ _ u⟩ (λ _ _ e=>e)
def Tch.setCell{S:Nat->Prop}{a w:World}(h:Tch S a w){p:Addr}(H:p.block<a.heap.size->S p.block)(u:Value):Tch S a (w.setCell p u):=
 ⟨h.os,h.tape,h.output,by have:=h.size;simpa[World.setCell]using this,λ k E A=>by
  rw[Below.heap_setCell _ _ _ _ (λ e=>A (by rw[e];exact H (by omega)))];exact h.block k E A⟩
def Tch.grown{S:Nat->Prop}{a w w':World}{row:Option Nat}(h:Tch S a w)(u:w.grownBy w' row)(hr:∀k,k<a.heap.size->row=some k->S k):Tch S a w':=
 ⟨u.os.trans h.os,u.tape.trans h.tape,u.output.trans h.output,zn2 h.size u.size,λ k A E=>
  (u.block k (zn1 A h.size) (λ e=>E (hr k A e.symm))).trans (h.block k A E)⟩
def Tch.cell{S:Nat->Prop}{w w':World}(h:Tch S w w'){p:Addr}(A:p.block<w.heap.size)(u:¬S p.block):w'.cell? p=w.cell? p:=World.cell?_of_block (w:=w) (h.block p.block A u)
def Tch.frozen{S:Nat->Prop}{w w':World}(h:Tch S w w'){p:Addr}(A:p.block<w.heap.size)(u:¬S p.block):w'.frozen? p=w.frozen? p:=World.frozen?_of_block (w:=w) (h.block p.block A u)
def Tch.owns{S:Nat->Prop}{w w':World}(h:Tch S w w'){base:Nat}{e:TypeId}{size:Nat}{v:Value}{n:Nat}{xs:List Value}
 (A:w.ownsRow base e size v n xs) (K:∀k,v.ownBlock=some k->¬S k):w'.ownsRow base e size v n xs:=by
 refine⟨A.1,?_⟩;rcases A.2 with H|⟨g,cap,E,rfl,I,u,O⟩
 .exact .inl H
 .refine .inr ⟨g,cap,E,rfl,I,?_,O⟩;rw[h.block g (zd0.1 u).1 (K g rfl)];exact u
def Rd.tch{S:Nat->Prop}{k:IntKind}{w w':World}{v:Value}{xs:List Int}(h:Rd k w v xs)(Q:Tch S w w')(O:∀b,v.ownBlock=some b->¬S b):Rd k w' v xs:=by
 obtain⟨a,cap,rfl,I,K,A,h⟩:=h;refine⟨a,cap,rfl,I,K,A,?_⟩;rcases h with h|⟨b,o,rfl,E⟩
 .exact .inl h
 .refine .inr ⟨b,o,rfl,λ i H=>?_⟩;have u:=E i H;rw[Q.cell (p:=⟨b,o+i,none⟩) (ze0 w ⟨b,o+i,none⟩ u) (O b rfl)];exact u
def Rd.below{k:IntKind}{w w':World}{v:Value}{xs:List Int}(h:Rd k w v xs)(u:Below w.heap.size w w'):Rd k w' v xs:=
 h.tch (S:=λ _=>False) (Tch.of_below u) (λ _ _ e=>e)
def zos9{k:IntKind}{w:World}{e:TypeId}{v:Value}{xs:List Int}(h:w.ownsRow 0 e 1 v xs.length (xs.map (Value.int k))):Rd k w v xs:=by
 rcases h.2 with⟨rfl,u⟩|⟨g,cap,K,rfl,_,Q,H,A,O,T⟩
 .have I:xs=[]:=zh0 u;subst I;exact⟨none,0,rfl,zn6 _,by unfold maxLen;omega,λ _=>rfl,.inl rfl⟩
 .refine⟨some ⟨g,0,none⟩,cap,rfl,H,A,(λ e=>by cases e),.inr ⟨g,0,rfl,λ i E=>?_⟩⟩;rw[Nat.zero_add,h.cellAt i (by omega)];simp[zn3,E]
def Src(w:World)(u:Value)(news:List Value):Prop:=
 ∃ao c,u=.slice ao news.length c/\(∀x∈news,x.oneCell'=true)/\(ao=none->news=[]/\c=0)/\∀ad,ao=some ad->∀j x,news[j]?=some x->w.cell? (ad.add j)=some x
def zry9{k:IntKind}{w:World}{v:Value}{xs:List Int}(h:Rd k w v xs):Src w v (xs.map (Value.int k)):=by
 obtain⟨a,cap,rfl,K,O,E,h⟩:=h;refine⟨a,cap,by simp,ints_oneCell k xs,λ ha=>?_,λ I ha j x u=>?_⟩
 .have:=E ha;subst this;have:xs=[]:=zh0 (by omega);subst this;exact⟨rfl,rfl⟩
 .rcases h with rfl|⟨b,o,rfl,H⟩
  .simp at u
  .obtain rfl:=zc1 ha;(have A:j<xs.length:=by simpa using(List.getElem?_eq_some_iff.1 u).1);rw[Addr.add_lit,H j A];simp[zn3,A]at u |-
   exact u
def zyv9(w:World)(x:Value)(e:TypeId)(A:x.oneCell'=true):Src (w.alloc (.cells #[x] e)) (.slice (some ⟨w.heap.size,0,none⟩) 1 1) [x]:=by
 refine⟨some ⟨w.heap.size,0,none⟩,1,rfl,λ y u=>?_,(λ e=>by cases e),λ E ha j y u=>?_⟩
 .simp at u;subst u;exact A
 .obtain rfl:=zc1 ha
  match j,u with
  | 0,u=>simp at u;subst u;simp[Addr.add]
section
variable {P:Program} (w:World)
def ztf9(t ty e:TypeId)(i:TypeInfo)(z:Value)(bytes:Nat)(T:P.underlying t=some (.slice e))(hi:P.info? e=some i)(hz:i.zero=some z)
 (H:i.size=1) (a2:i.bytes=bytes) (a4:z.cells.size=1) (v:Value) (xs:List Value) (O:w.ownsRow 0 e 1 v xs.length xs) (u:Value) (A:List Value) (hu:Src w u A)
 (a1:xs.length+A.length<=maxLen) (a3:(xs.length+A.length)*bytes<=140737488355328):
 ∃Y w',(Builtin.append_ #[t,t] ty #[v,u]).run P w=.ok Y w'/\w'.ownsRow 0 e 1 Y (xs++A).length (xs++A)/\w.grownBy w' v.ownBlock/\
  ∀k,Y.ownBlock=some k->v.ownBlock=some k\/w.heap.size<=k:=by
 obtain⟨ao,c,rfl,h1,a8,ac⟩:=hu;cases ao with
 | none=>obtain⟨rfl,rfl⟩:=a8 rfl;have ab:=run_append_owned_none (P:=P) w 0 t ty e i 1 T hi v xs.length xs O;exact⟨v,w,ab,by simpa using O,World.grownBy.refl _ _,λ k K=>.inl K⟩
 | some I=>
  have a0:=ac I rfl;have hl:A.length=A.length*1:=by omega
  obtain⟨Y,w',hr,ho,hg,_⟩:=run_append_own (P:=P) w 0 t ty e i z 1 bytes T hi hz H a2 a4 (by decide) v xs.length xs O I A.length c A hl a0 h1 a1 a3 (zn7 _);refine⟨Y,w',hr,by simpa using ho,hg,λ k K=>?_⟩;rcases O.2 with⟨rfl,h0⟩|⟨g,cap,a5,rfl,_,a7,ae,ad,a6,af⟩
  .have hx:xs=[]:=zh0 h0;subst hx;obtain⟨v2,w2,Q,a9,_,_⟩:=run_append_own (P:=P) w w.heap.size t ty e i z 1 bytes T hi hz H a2 a4 (by decide) (.slice none 0 0) 0 [] (World.ownsRow_nil _ _ _ _) I A.length c A hl a0 h1 (by simpa using a1) (by simpa using a3) (zn6 _);have E:=hr.symm.trans Q;simp only[Result.ok.injEq]at E;obtain⟨rfl,rfl⟩:=E;exact .inr (a9.lt k K).1
  .by_cases aa:xs.length+A.length<=cap
   .have Q:=run_append_room (P:=P) w t ty e i T hi g xs.length cap a5 a7 I A.length c A (by rw[H];omega) a0 h1 aa (by rw[H,a6];omega);have E:=hr.symm.trans Q;simp only[Result.ok.injEq]at E;obtain⟨rfl,rfl⟩:=E;exact .inl K
   .have Q:=run_append_grow (P:=P) w t ty e i z T hi hz ⟨g,0,none⟩ xs.length cap xs (by rw[H];omega) (O.cells (g:=g) rfl) I A.length c A (by rw[H];omega) a0 (by omega) (by unfold maxLen at a1;omega)
     (by rw[a2];exact growslice_fits (by omega) a3)
    have E:=hr.symm.trans Q;simp only[Result.ok.injEq]at E;obtain⟨rfl,rfl⟩:=E;simp only[Value.ownBlock,Option.some.injEq]at K;exact .inr (by omega)
def zek9{H:Array Oper}{I:List Oper}{o:Oper}{a:Act}{Q:Exit->Act->World->Prop}(a0:o.guard=none)(s x:Operand)(t:TypeId)
 (ho:o.op=.call { callee:=.builtin .append,args:=#[s,x],argTypes:=#[t,t] })
 (e:TypeId) (i:TypeInfo) (z:Value) (bytes:Nat) (ht:P.underlying t=some (.slice e)) (hi:P.info? e=some i) (hz:i.zero=some z)
 (hsize:i.size=1) (hby:i.bytes=bytes) (hzs:z.cells.size=1) (v:Value) (xs:List Value) (hs:a.eval s=v) (hown:w.ownsRow 0 e 1 v xs.length xs)
 (u:Value) (news:List Value) (hx:a.eval x=u) (hu:Src w u news) (h63:xs.length+news.length<=maxLen) (hbytes:(xs.length+news.length)*bytes<=140737488355328)
 (h:∀A E,E.ownsRow 0 e 1 A (xs++news).length (xs++news)->w.grownBy E v.ownBlock->(∀k,A.ownBlock=some k->v.ownBlock=some k\/w.heap.size<=k)->wpList P H Q I (a.put o.dst A) E):wpList P H Q (o::I) a w:=by
 obtain⟨A,E,hr,O,T,Y⟩:=ztf9 (P:=P) w t o.type e i z bytes ht hi hz hsize hby hzs v xs hown u news hu h63 hbytes;refine wpList_plain a0 λ K hK=>?_;unfold Oper.wp;simp[execOp,ho,resolve,invoke,builtin,hs,hx,hr,Result.andThen];exact hK _ _ (h A E O T Y)
end
def zyn9{k:IntKind}{w:World}{b o cap:Nat}{xs:List Int}(m:Nat)(H:m<=xs.length)(E:xs.length<=cap)(u:cap<=maxLen)
 (h:∀i,i<xs.length->w.cell? ⟨b,o+i,none⟩=some (.int k (xs.getD i 0))):Rd k w (.slice (some ⟨b,o,none⟩) m cap) (xs.take m):=by
 have e:(xs.take m).length=m:=by rw[zg0];omega
 refine⟨_,cap,by rw[e],by omega,u,(λ e=>by cases e),.inr ⟨b,o,rfl,λ i A=>?_⟩⟩;rw[h i (by omega),zn3,zn3,zv0,if_pos (by omega)]
def By.take{xs:List Int}(h:By xs)(m:Nat):By (xs.take m):=by
 intro i;rw[zn3,zv0];split
 .rw[<-zn3];exact h i
 .simp
