import Derived.Test.YtcmjlibndmneiaaGreatPKSl
import Derived.Test.YtcmjlibndmneiaaGreatPBBlk
import Derived.Test.YtcmjlibndmneiaaGreatPDWr
set_option maxRecDepth 100000
set_option linter.all false
set_option maxHeartbeats 8000000
namespace Go.Proofs.YtcmjlibndmneiaaGreat
open Go.RowKit Go.Maps
def hent(k:Int)(v:Value)(b:Bool):Value:=.agg #[.int .i64 k,v,.bool b]
def hent0:Value:=hent 0 (.slice none 0 0) false
theorem zeroH(w:World):(zeroValue 127).run Tryz.prog w=.ok hent0 w:=by kernel_rfl
def gh(g:Nat->Option Value)(i:Nat):Value:=(g i).getD hent0
section
variable {w:World} {b n:Nat} {g:Nat->Option Value}
def Mp.lookH(h:Mp w b n g){i:Nat}(hi:i<n\/g i=none)(A:i<9223372036854775808):
 (Instr.lookup 128 (.map (some b)) (.int .i64 (i:Int)) false).run Tryz.prog w=.ok (gh g i) w:=by
 obtain⟨v,E,hr,hv⟩:=World.ownsMap.lookup h keyed3 Tryz.underlying128 (zeroH w) (zd:=.held hent0) (zp:=[]) rfl (key3 (i:=i) A);rw[hr];unfold gh;cases e:g i with
 | none=>rw[dm_not e]at hv;simp only[Rv,Option.some.injEq,Prod.mk.injEq,DataW.held.injEq]at hv;rw[hv.1];rfl
 | some u=>rw[dm_at (hi.resolve_right (by rw[e];simp)) e]at hv;simp only[Rv,Option.some.injEq,Prod.mk.injEq,DataW.held.injEq]at hv;rw[hv.1];rfl
def Mp.lookOk(h:Mp w b n g){i:Nat}(hi:i<n)(I:i<9223372036854775808):
 (Instr.lookup 128 (.map (some b)) (.int .i64 (i:Int)) true).run Tryz.prog w=.ok (.tuple #[gh g i,.bool (g i).isSome]) w:=by
 obtain⟨v,K,hr,hv⟩:=World.ownsMap.look_ok h keyed3 Tryz.underlying128 (zeroH w) (zd:=.held hent0) (zp:=[]) rfl (key3 (i:=i) I);rw[hr];unfold gh;cases e:g i with
 | none=>
  have A:Maps.has (Dm n g) (Lit.int .i64 (i:Int))=false:=by rw[Bool.eq_false_iff];intro A;obtain⟨j,u,_,H,E⟩:=dm_has.1 A;simp at E;(have E:i=j:=by omega);subst E;rw[e]at H;cases H
  rw[dm_not e]at hv;simp only[Rv,Option.some.injEq,Prod.mk.injEq,DataW.held.injEq]at hv;rw[hv.1,A];rfl
 | some u=>have A:Maps.has (Dm n g) (Lit.int .i64 (i:Int))=true:=dm_has.2 ⟨i,u,hi,e,rfl⟩;rw[dm_at hi e]at hv;simp only[Rv,Option.some.injEq,Prod.mk.injEq,DataW.held.injEq]at hv;rw[hv.1,A];rfl
def Mp.putH(h:Mp w b n g){i:Nat}(hi:i<n)(H:n<=4096)(val:Value):
 ∃w',(Instr.mapUpdate 128 (.map (some b)) (.int .i64 (i:Int)) val).run Tryz.prog w=.ok () w'/\Mp w' b n (gput g i (some val))/\Tch (λ k=>k=b) w w':=by
 obtain⟨w',A,u,E⟩:=World.ownsMap.update (val:=val) (d:=.held val) (ps:=[]) h keyed3 Tryz.underlying128 (by unfold maxLen;omega) (key3 (i:=i) (by omega)) rfl;exact⟨w',A,mp_of u (dm_put hi val (u.canon keyed3)),(Tch.of_grown E).mono (λ k _ e=>by cases e;rfl)⟩
def gdel(g:Nat->Option Value)(z:Int)(i:Nat):Option Value:=if (i:Int)=z then none else g i
def zsl9{z:Int}(H:Canon ((Dm n g).del (Lit.int .i64 z))):(Dm n g).del (Lit.int .i64 z)=Dm n (gdel g z):=by
 refine dm_ext H (λ k=>?_) (λ j u E A y=>?_)
 .by_cases e:k=Lit.int .i64 z
  .subst e;rw[has_del_same];constructor
   .intro h;cases h
   .intro h;obtain⟨j,u,E,A,e⟩:=dm_has.1 h;simp at e;simp[gdel,e]at A
  .rw[has_del_other e,dm_has,dm_has];constructor
   .rintro⟨j,u,E,A,rfl⟩;have:(j:Int)≠z:=λ h=>e (by rw[h]);exact⟨j,u,E,by simp[gdel,this,A],rfl⟩
   .rintro⟨j,u,E,A,rfl⟩;have:(j:Int)≠z:=λ h=>e (by rw[h]);simp[gdel,this]at A;exact⟨j,u,E,A,rfl⟩
 .by_cases e:(j:Int)=z
  .simp[gdel,e]at A
  .simp[gdel,e]at A;rw[atKey_del_other (by simpa using e),dm_at E A]
def Mp.delH(h:Mp w b n g){z:Int}(E:(Lit.int .i64 z).wf=true)(ty:TypeId):
 ∃w',(Builtin.delete_ #[128,3] ty #[.map (some b),.int .i64 z]).run Tryz.prog w=.ok (.tuple #[]) w'/\Mp w' b n (gdel g z)/\Tch (λ k=>k=b) w w':=by
 obtain⟨w',A,u,H⟩:=World.ownsMap.drop h keyed3 Tryz.underlying128 (keyOf_int_mk Tryz.underlying3 E) ty;exact⟨w',A,mp_of u (zsl9 (u.canon keyed3)),(Tch.of_grown H.grown).mono (λ k _ e=>by cases e;rfl)⟩
end
def kg(s:CS)(V:Nat->Value)(n:Nat):Option Value:=if n∈s.d then some (hent (s.B n).1 (V n) true)else if n∈s.c then some (hent (s.B n).1 (V n) false)else none
structure ChAt(X:Nat->Prop)(w:World)(c d N:Nat)(s:CS)(mb:Nat)(av:Value)(V:Nat->Value):Prop where
 n2:N<=4096
 box:w.heap[c]?=some (.cells #[dp d,.int .i64 (s.rm:Int),.map (some mb),av] 130 (0,0))
 map:Mp w mb N (kg s V)
 ord:OwnsK w av (s.c.map Int.ofNat)
 bod:∀n,n∈s.d\/n∈s.c->Rd .u8 w (V n) (s.B n).2
 bap:∀n,n∈s.d\/n∈s.c->∀k,(V n).ownBlock=some k->(s.B n).2≠[]->X k/\k≠c/\k≠mb/\av.ownBlock≠some k
 ok:COk N s
 xc:X c
 xm:X mb
 xa:∀k,av.ownBlock=some k->X k
 xlt:∀k,X k->k<w.heap.size
def Ch(X:Nat->Prop)(w:World)(c d N:Nat)(s:CS):Prop:=∃mb av V,ChAt X w c d N s mb av V
def ChTo(X:Nat->Prop)(w w':World)(c d N:Nat)(s:CS):Prop:=∃X',Ch X' w' c d N s/\Tch X w w'/\∀k,X' k->X k\/w.heap.size<=k
section
variable {X:Nat->Prop} {w w':World} {c d N:Nat} {s:CS} {mb:Nat} {av:Value} {V:Nat->Value}
def ChAt.c0(h:ChAt X w c d N s mb av V):w.cell? ⟨c,0,none⟩=some (dp d):=by rw[cell_of_row w c 0 _ _ (0,0) h.box];rfl
def ChAt.c1(h:ChAt X w c d N s mb av V):w.cell? ⟨c,1,none⟩=some (.int .i64 (s.rm:Int)):=by rw[cell_of_row w c 1 _ _ (0,0) h.box];rfl
def ChAt.c2(h:ChAt X w c d N s mb av V):w.cell? ⟨c,2,none⟩=some (.map (some mb)):=by rw[cell_of_row w c 2 _ _ (0,0) h.box];rfl
def ChAt.c3(h:ChAt X w c d N s mb av V):w.cell? ⟨c,3,none⟩=some av:=by rw[cell_of_row w c 3 _ _ (0,0) h.box];rfl
def ChAt.lt(h:ChAt X w c d N s mb av V):c<w.heap.size:=(zd0.1 h.box).1
def ChAt.ne_mb(h:ChAt X w c d N s mb av V):c≠mb:=λ e=>h.map.notCells (by rw[<-e];exact h.box)
def zgd9{w:World}{v:Value}{xs:List Int}(h:OwnsK w v xs){k:Nat}(u:v.ownBlock=some k):∃cur,w.heap[k]?=some (.cells cur 3 (0,0)):=by
 have A:w.ownsRow 0 3 1 v xs.length (xs.map (Value.int .i64)):=h;rcases A.2 with⟨rfl,_⟩|⟨g,cap,cur,rfl,_,E,_⟩
 .cases u
 .cases u;exact⟨cur,E⟩
def ChAt.av_c(h:ChAt X w c d N s mb av V):av.ownBlock≠some c:=λ e=>by obtain⟨A,u⟩:=zgd9 h.ord e;rw[h.box]at u;simp at u
def ChAt.av_mb(h:ChAt X w c d N s mb av V):av.ownBlock≠some mb:=λ e=>by obtain⟨A,u⟩:=zgd9 h.ord e;exact h.map.notCells u
def ChAt.tch(h:ChAt X w c d N s mb av V){R:Nat->Prop}(A:Tch R w w')(E:∀k,X k->¬R k):ChAt X w' c d N s mb av V where
 n2:=h.n2
 box:=by rw[A.block c h.lt (E c h.xc)];exact h.box
 map:=h.map.tch A (E _ h.xm)
 ord:=h.ord.tch A (λ k u=>E k (h.xa k u))
 bod:=λ n H=>(h.bod n H).tch0 A (λ k u I=>E k (h.bap n H k u I).1)
 bap:=h.bap
 ok:=h.ok
 xc:=h.xc
 xm:=h.xm
 xa:=h.xa
 xlt:=λ k u=>zn1 (h.xlt k u) A.size
def ChAt.wide(h:ChAt X w c d N s mb av V){E:Nat->Prop}(A:∀k,X k->E k)(K:∀k,E k->k<w.heap.size):ChAt E w c d N s mb av V:=
 ⟨h.n2,h.box,h.map,h.ord,h.bod,λ n I k u H=>⟨A k (h.bap n I k u H).1,(h.bap n I k u H).2⟩,h.ok,A _ h.xc,A _ h.xm,λ k u=>A k (h.xa k u),K⟩
def Ch.tch(h:Ch X w c d N s){R:Nat->Prop}(A:Tch R w w')(u:∀k,X k->¬R k):Ch X w' c d N s:=by obtain⟨mb,av,V,h⟩:=h;exact⟨mb,av,V,h.tch A u⟩
def Ch.below(h:Ch X w c d N s)(u:Below w.heap.size w w'):Ch X w' c d N s:=h.tch (R:=λ _=>False) (Tch.of_below u) (λ _ _ e=>e)
def Ch.to_below(h:Ch X w c d N s)(u:Below w.heap.size w w'):ChTo X w w' c d N s:=⟨X,h.below u,Tch.of_below u,λ _ e=>.inl e⟩
def Ch.lt(h:Ch X w c d N s):∀k,X k->k<w.heap.size:=by obtain⟨_,_,_,h⟩:=h;exact h.xlt
def Ch.ok(h:Ch X w c d N s):COk N s:=by obtain⟨_,_,_,h⟩:=h;exact h.ok
def Ch.n2(h:Ch X w c d N s):N<=4096:=by obtain⟨_,_,_,h⟩:=h;exact h.n2
def ChTo.after{u:Nat->Prop}{A:World}(H:Tch u A w)(I:∀k,X k->u k\/A.heap.size<=k)(h:ChTo X w w' c d N s):ChTo u A w' c d N s:=by
 obtain⟨K,O,Q,T⟩:=h;refine⟨K,O,H.trans Q (λ k E e=>?_),λ k E=>?_⟩
 .rcases I k e with e|e
  .exact e
  .omega
 .rcases T k E with e|e
  .exact I k e
  .exact .inr (zn2 H.size e)
end
abbrev cp(c:Nat):Value:=.pointer (some ⟨c,0,none⟩)
end Go.Proofs.YtcmjlibndmneiaaGreat
namespace Go.Proofs.YtcmjlibndmneiaaGreat
open Go.RowKit Go.Maps Go.Sort Go.Shelf
def zpc9(n x:Int)(b:Nat)(W:World)(u:W.cell? ⟨b,0,none⟩=some (.int .i64 n)):FnGives Tryz.prog 92 #[.pointer (some ⟨b,0,none⟩)] #[.int .i64 x] (.bool (decide (x=n))) W:=by
 show Calls Tryz.prog 92 #[.int .i64 x,.pointer (some ⟨b,0,none⟩)] W _
 go_enter Tryz.func92,Tryz.ntmps92
 go_wp2_with fail;go_ret;refine⟨?_,0,rfl⟩;congr 2
def zdo9(l:List Nat)(k:Nat):(l.map Int.ofNat).getD k 0=((l.getD k 0:Nat):Int):=by rw[zn3,zn3,zd1];cases l[k]?<;>rfl
def zfz9{c:Nat}{I K O av:Value}{l:List Nat}(n:Int)(w:World)(hb:w.heap[c]?=some (.cells #[I,K,O,av] 130 (0,0)))(ho:OwnsK w av (l.map Int.ofNat))(hn:l.Nodup)(hl:l.length<=100000):
 Calls Tryz.prog 61 #[cp c,.int .i64 n] w λ e w'=>e=.returned (.tuple #[])/\∃av',w'.heap[c]?=some (.cells #[I,K,O,av'] 130 (0,0))/\OwnsK w' av' ((kwo l n).map Int.ofNat)/\av'.ownBlock=av.ownBlock/\Tch (λ k=>k=c\/av.ownBlock=some k) w w':=by
 have a5:c<w.heap.size:=(zd0.1 hb).1;have ac:av.ownBlock≠some c:=λ e=>by obtain⟨ai,hg⟩:=zgd9 ho e;rw[hb]at hg;simp at hg
 obtain⟨u,a3⟩:=exN (w.alloc (.cells #[.int .i64 n] 3));have Q:Hid (Below w.heap.size w u):=by rw[<-a3];exact(Below.refl _ _).alloc (zn6 _) _
 have Y:Hid (u.heap[c]?=some (.cells #[I,K,O,av] 130 (0,0))):=by rw[Q.o.block c a5];exact hb
 have a2:=za0 (ho.below Q.o);have c3:u.cell? ⟨c,3,none⟩=some av:=by rw[cell_of_row u c 3 _ _ (0,0) Y.o];rfl
 have f3:=frozen_of_row u c 3 _ _ Y.o;have hx:u.cell? ⟨w.heap.size,0,none⟩=some (.int .i64 n):=by rw[<-a3,cell_of_row _ w.heap.size 0 _ _ (0,0) (heap_alloc_new w _)];rfl
 have a7:u.heap.size=w.heap.size+1:=by rw[<-a3];simp
 have HI:=zb0 (zxk9 92 #[.pointer (some ⟨w.heap.size,0,none⟩)] (λ x=>decide (x=n)) av (l.map Int.ofNat) u a2.o (enters_of Tryz.func92 (by kernel_rfl) rfl)
  (λ W x ah=>zpc9 n x w.heap.size W (by rw[Tch.cell (Tch.of_below (S:=λ _=>False) ah) (p:=⟨w.heap.size,0,none⟩) (by rw[a7];simp) (λ e=>e)];exact hx)))
 have E:Hid (av.ownBlock≠some c/\c<w.heap.size/\u.heap.size=w.heap.size+1/\l.Nodup/\l.length<=100000):=⟨ac,a5,a7,hn,hl⟩
 have ag:∀W,(Instr.makeFunc (.func 92) #[] #[.pointer (some ⟨w.heap.size,0,none⟩)]).run Tryz.prog W=.ok (.func (.func 92) #[] #[.pointer (some ⟨w.heap.size,0,none⟩)]) W:=λ W=>rfl;obtain⟨a,m,cap,rfl⟩:∃a m cap,av=.slice a m cap:=by obtain⟨a,c,e,_⟩:=a2.o.rd;exact⟨_,_,_,e⟩
 clear hb ho hn ac a5 a7 hx hl
 go_enter Tryz.func61,Tryz.ntmps61
 go_wp2_with fail;refine HI.o.mono ?_;rintro e T ⟨z,rfl,hF,q,af⟩;have T2:Hid (Tch (λ _=>False) u T):=by rw[af];exact⟨rfl,rfl,rfl,zn6 _,λ _ _ _=>rfl⟩
 have a0:Hid (T.heap[c]?=some (.cells #[I,K,O,.slice a m cap] 130 (0,0))):=by rw[T2.o.block c (by have:=E.o.2.1;have:=E.o.2.2.1;omega) (λ e=>e)];exact Y.o
 have a4:=za0 (a2.o.tch T2.o (λ _ _ e=>e));have d3:T.cell? ⟨c,3,none⟩=some (.slice a m cap):=by rw[cell_of_row T c 3 _ _ (0,0) a0.o];rfl
 have B2:=za0 (Q.o.trans (T2.o.below Q.o.size (λ _ e=>e.elim)));clear af Y a2 c3 f3 ag HI a3 Q T2;rcases hF with⟨rfl,ae⟩|⟨k,H,rfl,aa,_⟩
 .have HE:Hid (kwo l n=l):=zjr9 (λ m hm e=>by
   obtain⟨j,hj,rfl⟩:=List.getElem_of_mem hm;have:=ae j (by simpa using hj);rw[zdo9,zn3,zc0 hj]at this;simp at this;exact this e)
  clear ae;go_wp2_with fail
  go_end0
  exact⟨rfl,_,a0.o,by rw[HE.o];exact a4.o,rfl,Tch.of_below B2.o⟩
 .have ad:k<l.length:=by simpa using H
  have HE:Hid (kwo l n=l.eraseIdx k):=zsv9 E.o.2.2.2.1 ad (by rw[zdo9]at aa;simpa using aa);have HD:=zb0 (zwt9 (.slice a m cap) (l.map Int.ofNat) k T a4.o H);have k0:(0:Int)<=(k:Int):=by omega
  have k1:(k:Int)<100000:=by have:=E.o.2.2.2.2;omega
  clear aa H ad;go_wp2_with fail;refine HD.o.mono ?_;rintro e A ⟨v',rfl,a6,a9,a8⟩;have a1:Hid (A.heap[c]?=some (.cells #[I,K,O,.slice a m cap] 130 (0,0))):=by rw[a8.block c (by have:=E.o.2.1;have:=B2.o.size;omega) (λ e=>E.o.1 e)];exact a0.o
  have e3:A.cell? ⟨c,3,none⟩=some (.slice a m cap):=by rw[cell_of_row A c 3 _ _ (0,0) a1.o];rfl
  have f3:=frozen_of_row A c 3 _ _ a1.o;obtain⟨W4,ab⟩:=exN (A.setCell ⟨c,3,none⟩ v');have HR:Hid (∃av',W4.heap[c]?=some (.cells #[I,K,O,av'] 130 (0,0))/\OwnsK W4 av' ((kwo l n).map Int.ofNat)/\av'.ownBlock=(Value.slice a m cap).ownBlock/\Tch (λ k=>k=c\/(Value.slice a m cap).ownBlock=some k) w W4):=by
   (have ts:Tch (λ k=>k=c) A W4:=by rw[<-ab];exact zo9 A c 3 v');refine⟨v',?_,?_,a9,?_⟩
   .rw[<-ab,heap_setCell_same A c 3 _ _ _ a1.o];rfl
   .rw[HE.o,List.eraseIdx_eq_take_drop_succ,zi1,List.map_take,List.map_drop,<-List.eraseIdx_eq_take_drop_succ];exact a6.tch ts (λ k H e=>E.o.1 (by rw[a9]at H;rw[<-e];exact H))
   .exact((Tch.of_below B2.o).trans (a8.mono (S':=λ k=>k=c\/(Value.slice a m cap).ownBlock=some k) (λ k _ e=>.inr e)) (λ _ _ e=>e)).trans ts (λ k _ e=>.inl e)
  obtain⟨va,vl,vc,rfl⟩:∃a l c,v'=.slice a l c:=by obtain⟨a,c,e,_⟩:=a6.rd;exact⟨_,_,_,e⟩
  clear a6 a9 a8 a1 a0 a4 d3 HD;go_wp2_with fail
  go_end0
  exact⟨rfl,HR.o⟩
end Go.Proofs.YtcmjlibndmneiaaGreat
namespace Go.Proofs.YtcmjlibndmneiaaGreat
open Go.RowKit Go.Maps
section
variable {X:Nat->Prop} {w w':World} {c d N:Nat} {s s':CS} {mb:Nat} {av av':Value} {V V':Nat->Value}
def ChAt.turnAt(h:ChAt X w c d N s mb av V)(ht:Tch (λ k=>k=c\/av.ownBlock=some k\/k=mb) w w')
 (a1:w'.heap[c]?=some (.cells #[dp d,.int .i64 (s'.rm:Int),.map (some mb),av'] 130 (0,0))) (a3:Mp w' mb N (kg s' V')) (a0:OwnsK w' av' (s'.c.map Int.ofNat))
 (T:∀k,av'.ownBlock=some k->av.ownBlock=some k\/w.heap.size<=k) (a4:COk N s')
 (Y:∀n,n∈s'.d\/n∈s'.c->((n∈s.d\/n∈s.c)/\V' n=V n/\s'.B n=s.B n)\/(Rd .u8 w' (V' n) (s'.B n).2/\∀k,(V' n).ownBlock=some k->(s'.B n).2≠[]->(X k\/w.heap.size<=k)/\k≠c/\k≠mb/\av'.ownBlock≠some k)):ChAt (λ k=>X k\/(w.heap.size<=k/\k<w'.heap.size)) w' c d N s' mb av' V':=by
 have a2:∀n,n∈s.d\/n∈s.c->Rd .u8 w' (V n) (s.B n).2:=λ n I=>(h.bod n I).tch0 ht (λ k u H e=>by
  obtain⟨_,A,E,K⟩:=h.bap n I k u H;rcases e with e|e|e
  .exact A e
  .exact K e
  .exact E e)
 have a5:=ht.size;exact{
  n2:=h.n2
  box:=a1
  map:=a3
  ord:=a0
  bod:=λ n I=>by
   rcases Y n I with⟨A,E,K⟩|⟨A,_⟩
   .rw[E,K];exact a2 n A
   .exact A
  bap:=λ n I k u H=>by
   rcases Y n I with⟨A,E,K⟩|⟨A,E⟩
   .rw[E]at u;rw[K]at H;obtain⟨O,Q,q3,q4⟩:=h.bap n A k u H;refine⟨.inl O,Q,q3,λ e=>?_⟩;rcases T k e with e|e
    .exact q4 e
    .have:=h.xlt k O;omega
   .obtain⟨O,Q⟩:=E k u H;exact⟨O.imp id (λ e=>⟨e,A.blk_lt H u⟩),Q⟩
  ok:=a4
  xc:=.inl h.xc
  xm:=.inl h.xm
  xa:=λ k u=>(T k u).imp (h.xa k) (λ e=>⟨e,a0.lt k u⟩)
  xlt:=λ k u=>by
   rcases u with e|e
   .have:=h.xlt k e;omega
   .exact e.2 }
def ChAt.own_tch(h:ChAt X w c d N s mb av V)(u:Tch (λ k=>k=c\/av.ownBlock=some k\/k=mb) w w'):Tch X w w':=u.mono (λ k _ e=>by
 rcases e with e|e|e
 .rw[e];exact h.xc
 .exact h.xa k e
 .rw[e];exact h.xm)
def ChAt.turn(h:ChAt X w c d N s mb av V)(u:Tch (λ k=>k=c\/av.ownBlock=some k\/k=mb) w w')
 (A:w'.heap[c]?=some (.cells #[dp d,.int .i64 (s'.rm:Int),.map (some mb),av'] 130 (0,0))) (K:Mp w' mb N (kg s' V')) (Q:OwnsK w' av' (s'.c.map Int.ofNat))
 (E:∀k,av'.ownBlock=some k->av.ownBlock=some k\/w.heap.size<=k) (O:COk N s')
 (H:∀n,n∈s'.d\/n∈s'.c->((n∈s.d\/n∈s.c)/\V' n=V n/\s'.B n=s.B n)\/(Rd .u8 w' (V' n) (s'.B n).2/\∀k,(V' n).ownBlock=some k->(s'.B n).2≠[]->(X k\/w.heap.size<=k)/\k≠c/\k≠mb/\av'.ownBlock≠some k)):ChTo X w w' c d N s':=
 ⟨_,⟨mb,av',V',h.turnAt u A K Q E O H⟩,h.own_tch u,λ k I=>I.imp id (λ e=>e.1)⟩
end
def zrc9(s:CS)(V:Nat->Value)(n:Int):gdel (kg s V) n=kg (s.forget n) V:=by
 funext i;unfold gdel kg CS.forget;simp only[zi9];by_cases e:(i:Int)=n
 .simp[e]
 .simp[e]
def zlx9{u:Array Oper}{A:List Oper}{o:Oper}{a:Act}{w:World}{Q:Exit->Act->World->Prop}(O:o.guard=none)(m x:Operand)(T:o.op=.call { callee:=.builtin .delete,args:=#[m,x],argTypes:=#[128,3] })
 (mb N:Nat) (g:Nat->Option Value) (z:Int) (hm:a.eval m=.map (some mb)) (hx:a.eval x=.int .i64 z) (hM:Mp w mb N g) (hz:(Lit.int .i64 z).wf=true) (h:∀w',Mp w' mb N (gdel g z)->Tch (λ k=>k=mb) w w'->wpList Tryz.prog u Q A (a.put o.dst (.tuple #[])) w'):wpList Tryz.prog u Q (o::A) a w:=by
 obtain⟨w',hr,E,H⟩:=hM.delH hz o.type;refine wpList_plain O λ K I=>?_;unfold Oper.wp;simp[execOp,T,resolve,invoke,builtin,hm,hx,hr,Result.andThen];exact I _ _ (h w' E H)
def zjk9{X:Nat->Prop}{c d N:Nat}{s:CS}{mb:Nat}{av:Value}{V:Nat->Value}(n:Int)(w:World)(h:ChAt X w c d N s mb av V)(hz:(Lit.int .i64 n).wf=true):
 Calls Tryz.prog 76 #[cp c,.int .i64 n] w λ e w'=>e=.returned (.tuple #[])/\∃av',ChAt (λ k=>X k\/(w.heap.size<=k/\k<w'.heap.size)) w' c d N (s.forget n) mb av' V/\Tch (λ k=>k=c\/av.ownBlock=some k\/k=mb) w w':=by
 have H:=za0 h;have T:=zb0 (zfz9 n w h.box h.ord h.ok.cn (by have:=h.ok.cle;have:=h.n2;omega));have HZ:=za0 hz;clear h hz
 go_enter Tryz.func76,Tryz.ntmps76
 go_wp2_with fail;refine T.o.mono ?_;rintro e K ⟨rfl,a0,E,a1,a2,I⟩;have Q:=za0 E;have a3:=za0 a1;have Y:=za0 a2;have T1:=za0 I;have M1:Hid (Mp K mb N (kg s V)):=H.o.map.tch I (λ e=>by
  rcases e with e|e
  .exact H.o.ne_mb e.symm
  .exact H.o.av_mb e)
 have c2:K.cell? ⟨c,2,none⟩=some (.map (some mb)):=by rw[cell_of_row K c 2 _ _ (0,0) E];rfl
 clear E a1 a2 I T;go_wp2_with(with_reducible (show wpList _ _ _ (Oper.mk _ (Op.call _) _ _ _ _::_) _ _);refine zlx9 rfl (.tmp 10) (.tmp 11) rfl mb N (kg s V) n rfl rfl M1.o HZ.o ?_)
 intro O m2 A;have HR:Hid (∃av',ChAt (λ k=>X k\/(w.heap.size<=k/\k<O.heap.size)) O c d N (s.forget n) mb av' V/\Tch (λ k=>k=c\/av.ownBlock=some k\/k=mb) w O):=by
  have TT:=(T1.o.mono (S':=λ k=>k=c\/av.ownBlock=some k\/k=mb) (λ k _ e=>e.imp id .inl)).trans A (λ k _ e=>.inr (.inr e));refine⟨a0,H.o.turnAt (V':=V) (av':=a0) (s':=s.forget n) TT ?_ ?_ ?_ (λ k u=>.inl (by rw[<-Y.o];exact u)) (H.o.ok.forget n) (λ m hm=>.inl ⟨hm.imp (λ e=>(zi9.1 e).1) (λ e=>(zi9.1 e).1),rfl,rfl⟩),TT⟩
  .rw[A.block c (zd0.1 Q.o).1 H.o.ne_mb];exact Q.o
  .rw[<-zrc9];exact m2
  .exact a3.o.tch A (λ k u e=>H.o.av_mb (by rw[Y.o]at u;rw[<-e];exact u))
 clear m2 A;go_wp2_with fail
 go_end0
 exact⟨rfl,HR.o⟩
def zmz9{X:Nat->Prop}{c d N:Nat}{s:CS}(n:Int)(w:World)(E:Ch X w c d N s)(I:(Lit.int .i64 n).wf=true):
 Calls Tryz.prog 76 #[cp c,.int .i64 n] w λ e w'=>e=.returned (.tuple #[])/\ChTo X w w' c d N (s.forget n):=by
 obtain⟨mb,av,V,h⟩:=E;refine(zjk9 n w h I).mono ?_;rintro e w' ⟨rfl,av',u,A⟩;exact⟨rfl,_,⟨_,_,_,u⟩,h.own_tch A,λ k H=>H.imp id (λ e=>e.1)⟩
