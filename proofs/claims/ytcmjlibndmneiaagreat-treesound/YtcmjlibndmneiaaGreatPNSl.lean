import Derived.Test.YtcmjlibndmneiaaGreatPNVar
import Derived.Lib.SlBuf
set_option maxRecDepth 100000
set_option linter.all false
set_option maxHeartbeats 8000000
namespace Go.Proofs.YtcmjlibndmneiaaGreat
open Go.RowKit Pl
def zerosS(n:Nat):Builtin.zeroCells (.string ⟨#[]⟩:Value).cells n=(List.replicate n (.string ⟨#[]⟩:Value)).toArray:=by
 apply Array.ext';simp only[Builtin.zeroCells,Value.cells];apply List.ext_getElem
 .simp
 .intro i u A;simp[Nat.mod_one]
def zrs9(w:World)(ty:TypeId)(n:Nat)(h1:1<=n)(hn:n*16<=140737488355328):
 ∃cap w',(Builtin.append_ #[91,3] ty #[.slice none 0 0,.int .i64 (n:Int)]).run Tryz.prog w=.ok (.slice (some ⟨w.heap.size,0,none⟩) n cap) w'/\n<=cap/\cap<=maxLen/\OwnsV 9 w' (.slice (some ⟨w.heap.size,0,none⟩) 0 cap) []/\Below w.heap.size w w':=by
 obtain⟨ht,⟨i,Q,hz,a1,I⟩,a2⟩:=elemS;have hu:=Tryz.underlying3;have hw:IntKind.i64.wrap (n:Int)=(n:Int):=by rw[IntKind.wrap_i64];omega
 have H:∀w':World,(asInt (.int .i64 (n:Int))).run Tryz.prog w'=.ok (n:Int) w':=λ w'=>by simp[asInt,asIntOf]
 have T:¬((n:Int)<0):=by omega
 have Y:¬(281474976710656<(n:Int)*16):=by omega
 have a0:¬((n:Int)<=0):=by omega
 have E:¬(9223372036854775807<(n:Int)):=by omega
 have A:¬n=0:=by omega
 have K:¬(281474976710656<Builtin.nextslicecap n 0*16):=by have:=growslice_fits (old:=0) (need:=n) (bytes:=16) (by omega) (by omega);omega
 have O:=grownCap_ge w n 0 9;have u:=grownCap_le_maxLen w n 0 9 (by unfold maxLen;omega);refine⟨grownCap w n 0 9,w.drew.alloc (.cells (Builtin.zeroCells (.string ⟨#[]⟩:Value).cells n++Builtin.zeroCells (.string ⟨#[]⟩:Value).cells (grownCap w n 0 9-n)) 9),?_,O,u,?_,(Below.refl _ _).drew.alloc (zn6 _) _⟩
 .simp[Builtin.append_,run_underlying ht,run_underlying hu,sizeOf,typeInfo,zeroValue,Q,hz,a1,I,hw,H,A,T,Y,a0,E,K,Question.forced,Builtin.firstCells,loadCells,loadCellsFrom,newRow,grownCap]
 .refine⟨rfl,.inr ⟨w.heap.size,_,_,rfl,zn7 _,heap_alloc_new w.drew _,zn7 _,u,?_,by simp⟩⟩;rw[zerosS,zerosS];simp only[List.append_toArray,List.size_toArray,zf0,zr0];omega
def zix9(w:World){A:Array Oper}{E:List Oper}{o:Oper}{a:Act}{Q:Exit->Act->World->Prop}(a0:o.guard=none)(s x:Operand)
 (ho:o.op=.call { callee:=.builtin .append,args:=#[s,x],argTypes:=#[91,3] }) (n:Nat) (hs:a.eval s=.slice none 0 0) (hx:a.eval x=.int .i64 (n:Int)) (h1:1<=n) (hn:n*16<=140737488355328)
 (h:∀cap u,n<=cap->cap<=maxLen->OwnsV 9 u (.slice (some ⟨w.heap.size,0,none⟩) 0 cap) []->Below w.heap.size w u->wpList Tryz.prog A Q E (a.put o.dst (.slice (some ⟨w.heap.size,0,none⟩) n cap)) u):wpList Tryz.prog A Q (o::E) a w:=by
 obtain⟨cap,u,hr,H,I,O,T⟩:=zrs9 w o.type n h1 hn;refine wpList_plain a0 λ K Y=>?_;unfold Oper.wp;simp[execOp,ho,resolve,invoke,builtin,hs,hx,hr,Result.andThen];exact Y _ _ (h cap u H I O T)
def zqx9(n:Nat)(w:World)(K:n*16<=140737488355328):
 Calls Tryz.prog 193 #[.slice none 0 0,.int .i64 n] w λ e w'=>(∃A,e=.returned A/\OwnsV 9 w' A []/\∀j,A.ownBlock=some j->w.heap.size<=j)/\Below w.heap.size w w':=by
 by_cases E:1<=n
 .go_enter Tryz.func193,Tryz.ntmps193
  go_wp2_with(at_builtin;refine zix9 _ rfl (.tmp 20) (.tmp 21) rfl n rfl rfl E K ?_)
  intro cap w2 a0 I O H;have T:=za0 O;have Q:=za0 H;have a1:cap<=9223372036854775807:=by unfold maxLen at I;omega
  clear O H I;go_wp2_with fail;go_ret;exact⟨⟨_,rfl,T.o,λ j u=>by(have h9:=(by simpa[Value.ownBlock]using u));omega⟩,Q.o⟩
 .have Y:n=0:=by omega
  subst Y;clear E K
  go_enter Tryz.func193,Tryz.ntmps193
  go_wp2_with fail;go_ret;exact⟨⟨_,rfl,zge9 _ _,λ j u=>by cases u⟩,Below.refl _ _⟩
def zeq9(B:Nat)(va vb:Value)(xs ys:List Value)(w:World)(ha:RdV w va xs)(hb:RdV w vb ys)(h1:∀x∈xs,x.oneCell'=true)(h2:∀x∈ys,x.oneCell'=true)(h3:(xs.length+ys.length)*16<=140737488355328)
 (c0:w.cell? ⟨B,0,none⟩=some va) (c1:w.cell? ⟨B,1,none⟩=some vb):
 Calls Tryz.prog 188 #[.slice (some ⟨B,0,none⟩) 2 2] w λ e w'=>(∃v',e=.returned v'/\OwnsV 9 w' v' (xs++ys)/\∀j,v'.ownBlock=some j->w.heap.size<=j)/\Below w.heap.size w w':=by
 have HA:=za0 ha;have HB:=za0 hb;have H1:=za0 h1;have H2:=za0 h2;obtain⟨aa,ac,rfl,_⟩:=ha.len;obtain⟨ba,bc,rfl,_⟩:=hb.len;have C0:=za0 c0;have C1:=za0 c1;obtain⟨X,hX⟩:=exH xs.length;obtain⟨Y,hY⟩:=exH ys.length;rw[hX.o]at HA C0 c0 h3;rw[hY.o]at HB C1 c1 h3;have a6:X<=140737488355328:=by omega
 have a7:Y<=140737488355328:=by omega
 clear ha hb h1 h2
 go_enter Tryz.func188,Tryz.ntmps188
 go_wp2_with fail
 go_loop [3,11] (λ s i=>∃k q:Nat,k<=2/\i=.int .i64 k/\s=.int .i64 q/\((k=0/\q=0)\/(k=1/\q=X)\/(k=2/\q=X+Y))) (λ _ i=>2-(intOf i).toNat)
 case atStart=>exact⟨0,0,by omega,rfl,rfl,.inl ⟨rfl,rfl⟩⟩
 case round=>
  obtain⟨k,q,hk,rfl,rfl,a1⟩:=hrel;rcases a1 with⟨rfl,rfl⟩|⟨rfl,rfl⟩|⟨rfl,rfl⟩
  .go_wp2_with fail
   go_round
   (case rel=>exact⟨1,X,by omega,by first|rfl|go_num,by first|rfl|go_num,.inr (.inl ⟨rfl,rfl⟩)⟩);case measure=>simp[intOf]
  .go_wp2_with fail
   go_round
   (case rel=>exact⟨2,q+Y,by omega,by first|rfl|go_num,by first|rfl|go_num,.inr (.inr ⟨rfl,rfl⟩)⟩);case measure=>simp[intOf]
  .have a2:=za0 (zqx9 (X+Y) w h3);clear c0 c1;go_wp2_with fail;refine a2.o.mono ?_;clear a2;rintro e w2 ⟨⟨v2,rfl,a5,a4⟩,a3⟩;have O2:=za0 a5;have N2:=za0 a4;have B2:=za0 a3;clear a5 a4 a3;go_wp2_with fail
   go_loopw [6,27] (λ r i wr=>∃(k:Nat)(l:List Value),k<=2/\i=.int .i64 k/\((k=0/\Hid (l=[]))\/(k=1/\Hid (l=xs))\/(k=2/\Hid (l=xs++ys)))/\Hid (OwnsV 9 wr r l)/\Hid (∀j,r.ownBlock=some j->w.heap.size<=j)/\Hid (Below w.heap.size w wr)) (λ _ i _=>2-(intOf i).toNat)
   (case atStart=>exact⟨0,[],by omega,rfl,.inl ⟨rfl,rfl⟩,O2,N2,B2⟩);case round=>
    clear O2 N2 B2;obtain⟨k,l,hk,rfl,a1,O,K,u⟩:=hrel;rcases a1 with⟨rfl,A⟩|⟨rfl,A⟩|⟨rfl,A⟩
    .have d0:wr.cell? ⟨B,0,none⟩=some (.slice aa X ac):=by rw[u.o.cell (p:=⟨B,0,none⟩) (ze0 w ⟨B,0,none⟩ C0.o),C0.o]
     have I:=za0 (HA.o.below u.o);(have E:Hid (l.length+xs.length<=9223372036854775807/\(l.length+xs.length)*16<=140737488355328):=by show _/\_;rw[A.o,hX.o];simp;omega);go_wp2_with(at_builtin;refine zs9 _ rfl (.tmp 31) (.tmp 32) 91 rfl 9 _ 16 elemS _ l rfl O.o _ xs rfl I.o H1.o E.o.1 E.o.2 ?_)
     intro v3 w3 T Q;(have a0:Hid (OwnsV 9 w3 v3 xs):=by have:=T;rw[A.o,List.nil_append]at this;exact this);have H:=Q.onto u.o K.o;have B3:=za0 H.1;have N3:=za0 H.2;clear T Q O K u d0 I H E;go_wp2_with fail
     go_roundw
     (case rel=>exact⟨1,xs,by omega,by first|rfl|go_num,.inr (.inl ⟨rfl,rfl⟩),a0,N3,B3⟩);case measure=>simp[intOf]
    .have d0:wr.cell? ⟨B,1,none⟩=some (.slice ba Y bc):=by rw[u.o.cell (p:=⟨B,1,none⟩) (ze0 w ⟨B,1,none⟩ C1.o),C1.o]
     have I:=za0 (HB.o.below u.o);(have E:Hid (l.length+ys.length<=9223372036854775807/\(l.length+ys.length)*16<=140737488355328):=by show _/\_;rw[A.o,hX.o,hY.o];omega);go_wp2_with(at_builtin;refine zs9 _ rfl (.tmp 31) (.tmp 32) 91 rfl 9 _ 16 elemS _ l rfl O.o _ ys rfl I.o H2.o E.o.1 E.o.2 ?_)
     intro v3 w3 T Q;(have a0:Hid (OwnsV 9 w3 v3 (xs++ys)):=by have:=T;rw[A.o]at this;exact this);have H:=Q.onto u.o K.o;have B3:=za0 H.1;have N3:=za0 H.2;clear T Q O K u d0 I H E;go_wp2_with fail
     go_roundw
     (case rel=>exact⟨2,xs++ys,by omega,by first|rfl|go_num,.inr (.inr ⟨rfl,rfl⟩),a0,N3,B3⟩);case measure=>simp[intOf]
    .go_wp2_with fail;go_ret;exact⟨⟨_,rfl,by have:=O.o;rw[A.o]at this;exact this,K.o⟩,u.o⟩
def zmo9(v:Value)(xs:List Value)(w:World)(ha:RdV w v xs)(H:∀x∈xs,x.oneCell'=true)(h3:xs.length*16<=140737488355328):
 Calls Tryz.prog 190 #[v] w λ e w'=>(∃Q,e=.returned Q/\RdV w' Q xs/\∀j,Q.ownBlock=some j->w.heap.size<=j/\j<w'.heap.size)/\Below w.heap.size w w':=by
 have T:=za0 ha;have H1:=za0 H;have a1:∀(w:World)(a:Option Addr)(n c O A:Nat),(binOp .eql 91 (.slice a n c) (.slice none O A)).run Tryz.prog w=.ok (.bool a.isNone) w:=λ w a n c O A=>Lib.run_eql_slice_nil w _ _ a n c O A Tryz.underlying91;obtain⟨aa,ac,rfl,_,_,K⟩:=ha.len;cases aa with
 | none=>
  have hc:=K rfl;have hx:xs=[]:=by obtain⟨a',A,e,hl,_⟩:=ha;cases e;exact zh0 (by omega)
  subst hx hc;clear ha H h3 K
  go_enter Tryz.func190,Tryz.ntmps190
  go_wp2_with fail;go_ret;exact⟨⟨_,rfl,zaq9 _,λ j u=>by cases u⟩,Below.refl _ _⟩
 | some ad=>
  have OE:Hid (OwnsV 9 (w.alloc (.cells #[] 9)) (.slice (some ⟨w.heap.size,0,none⟩) 0 0) []):=⟨rfl,.inr ⟨w.heap.size,0,#[],rfl,zn7 _,heap_alloc_new w _,zn6 _,zn7 _,rfl,rfl⟩⟩
  have Y:Hid (([]:List Value).length+xs.length<=9223372036854775807/\(([]:List Value).length+xs.length)*16<=140737488355328):=by show _/\_;simp;omega
  obtain⟨X,hX⟩:=exH xs.length;rw[hX.o]at T |-
  clear ha H h3 K
  go_enter Tryz.func190,Tryz.ntmps190
  go_wp2_with(at_builtin;refine zs9 _ rfl (.tmp 5) (.tmp 6) 91 rfl 9 _ 16 elemS _ [] rfl OE.o _ xs rfl (T.o.below (za9 _ _)) H1.o Y.o.1 Y.o.2 ?_)
  intro v3 w3 E a0;have I:=a0.onto (za9 w _) (λ j u=>by simp only[Value.ownBlock,Option.some.injEq]at u;omega);have R3:Hid (RdV w3 v3 xs):=by first|exact E.rd|(have:=E;rw[List.nil_append]at this;exact this.rd)
  have B3:=za0 I.1;have N3:Hid (∀j,v3.ownBlock=some j->w.heap.size<=j/\j<w3.heap.size):=λ j u=>⟨I.2 j u,E.lt j u⟩
  clear E a0 I;go_wp2_with fail;go_ret;exact⟨⟨_,rfl,R3.o,N3.o⟩,B3.o⟩
def zerosI(n:Nat):Builtin.zeroCells (.int .i64 0:Value).cells n=(List.replicate n (.int .i64 0:Value)).toArray:=by
 apply Array.ext';simp only[Builtin.zeroCells,Value.cells];apply List.ext_getElem
 .simp
 .intro i u A;simp[Nat.mod_one]
def zrr9(w:World)(ty:TypeId)(n:Nat)(h1:1<=n)(hn:n*8<=140737488355328):
 ∃cap w',(Builtin.append_ #[56,3] ty #[.slice none 0 0,.int .i64 (n:Int)]).run Tryz.prog w=.ok (.slice (some ⟨w.heap.size,0,none⟩) n cap) w'/\n<=cap/\cap<=maxLen/\OwnsV 3 w' (.slice (some ⟨w.heap.size,0,none⟩) 0 cap) []/\Below w.heap.size w w':=by
 obtain⟨ht,⟨i,Q,hz,a1,I⟩,a2⟩:=elemIN;have hu:=Tryz.underlying3;have hw:IntKind.i64.wrap (n:Int)=(n:Int):=by rw[IntKind.wrap_i64];omega
 have H:∀w':World,(asInt (.int .i64 (n:Int))).run Tryz.prog w'=.ok (n:Int) w':=λ w'=>by simp[asInt,asIntOf]
 have T:¬((n:Int)<0):=by omega
 have Y:¬(281474976710656<(n:Int)*8):=by omega
 have a0:¬((n:Int)<=0):=by omega
 have E:¬(9223372036854775807<(n:Int)):=by omega
 have A:¬n=0:=by omega
 have K:¬(281474976710656<Builtin.nextslicecap n 0*8):=by have:=growslice_fits (old:=0) (need:=n) (bytes:=8) (by omega) (by omega);omega
 have O:=grownCap_ge w n 0 3;have u:=grownCap_le_maxLen w n 0 3 (by unfold maxLen;omega);refine⟨grownCap w n 0 3,w.drew.alloc (.cells (Builtin.zeroCells (.int .i64 0:Value).cells n++Builtin.zeroCells (.int .i64 0:Value).cells (grownCap w n 0 3-n)) 3),?_,O,u,?_,(Below.refl _ _).drew.alloc (zn6 _) _⟩
 .simp[Builtin.append_,run_underlying ht,run_underlying hu,sizeOf,typeInfo,zeroValue,Q,hz,a1,I,hw,H,A,T,Y,a0,E,K,Question.forced,Builtin.firstCells,loadCells,loadCellsFrom,newRow,grownCap]
 .refine⟨rfl,.inr ⟨w.heap.size,_,_,rfl,zn7 _,heap_alloc_new w.drew _,zn7 _,u,?_,by simp⟩⟩;rw[zerosI,zerosI];simp only[List.append_toArray,List.size_toArray,zf0,zr0];omega
def ziw9(w:World){A:Array Oper}{E:List Oper}{o:Oper}{a:Act}{Q:Exit->Act->World->Prop}(a0:o.guard=none)(s x:Operand)
 (ho:o.op=.call { callee:=.builtin .append,args:=#[s,x],argTypes:=#[56,3] }) (n:Nat) (hs:a.eval s=.slice none 0 0) (hx:a.eval x=.int .i64 (n:Int)) (h1:1<=n) (hn:n*8<=140737488355328)
 (h:∀cap u,n<=cap->cap<=maxLen->OwnsV 3 u (.slice (some ⟨w.heap.size,0,none⟩) 0 cap) []->Below w.heap.size w u->wpList Tryz.prog A Q E (a.put o.dst (.slice (some ⟨w.heap.size,0,none⟩) n cap)) u):wpList Tryz.prog A Q (o::E) a w:=by
 obtain⟨cap,u,hr,H,I,O,T⟩:=zrr9 w o.type n h1 hn;refine wpList_plain a0 λ K Y=>?_;unfold Oper.wp;simp[execOp,ho,resolve,invoke,builtin,hs,hx,hr,Result.andThen];exact Y _ _ (h cap u H I O T)
def zqw9(n:Nat)(w:World)(K:n*8<=140737488355328):
 Calls Tryz.prog 194 #[.slice none 0 0,.int .i64 n] w λ e w'=>(∃A,e=.returned A/\OwnsV 3 w' A []/\∀j,A.ownBlock=some j->w.heap.size<=j)/\Below w.heap.size w w':=by
 by_cases E:1<=n
 .go_enter Tryz.func194,Tryz.ntmps194
  go_wp2_with(at_builtin;refine ziw9 _ rfl (.tmp 20) (.tmp 21) rfl n rfl rfl E K ?_)
  intro cap w2 a0 I O H;have T:=za0 O;have Q:=za0 H;have a1:cap<=9223372036854775807:=by unfold maxLen at I;omega
  clear O H I;go_wp2_with fail;go_ret;exact⟨⟨_,rfl,T.o,λ j u=>by(have h9:=(by simpa[Value.ownBlock]using u));omega⟩,Q.o⟩
 .have Y:n=0:=by omega
  subst Y;clear E K
  go_enter Tryz.func194,Tryz.ntmps194
  go_wp2_with fail;go_ret;exact⟨⟨_,rfl,zge9 _ _,λ j u=>by cases u⟩,Below.refl _ _⟩
def zkw9(B:Nat)(va vb:Value)(xs ys:List Value)(w:World)(ha:RdV w va xs)(hb:RdV w vb ys)(h1:∀x∈xs,x.oneCell'=true)(h2:∀x∈ys,x.oneCell'=true)(h3:(xs.length+ys.length)*8<=140737488355328)
 (c0:w.cell? ⟨B,0,none⟩=some va) (c1:w.cell? ⟨B,1,none⟩=some vb):
 Calls Tryz.prog 189 #[.slice (some ⟨B,0,none⟩) 2 2] w λ e w'=>(∃v',e=.returned v'/\OwnsV 3 w' v' (xs++ys)/\∀j,v'.ownBlock=some j->w.heap.size<=j)/\Below w.heap.size w w':=by
 have HA:=za0 ha;have HB:=za0 hb;have H1:=za0 h1;have H2:=za0 h2;obtain⟨aa,ac,rfl,_⟩:=ha.len;obtain⟨ba,bc,rfl,_⟩:=hb.len;have C0:=za0 c0;have C1:=za0 c1;obtain⟨X,hX⟩:=exH xs.length;obtain⟨Y,hY⟩:=exH ys.length;rw[hX.o]at HA C0 c0 h3;rw[hY.o]at HB C1 c1 h3;have a6:X<=140737488355328:=by omega
 have a7:Y<=140737488355328:=by omega
 clear ha hb h1 h2
 go_enter Tryz.func189,Tryz.ntmps189
 go_wp2_with fail
 go_loop [3,11] (λ s i=>∃k q:Nat,k<=2/\i=.int .i64 k/\s=.int .i64 q/\((k=0/\q=0)\/(k=1/\q=X)\/(k=2/\q=X+Y))) (λ _ i=>2-(intOf i).toNat)
 case atStart=>exact⟨0,0,by omega,rfl,rfl,.inl ⟨rfl,rfl⟩⟩
 case round=>
  obtain⟨k,q,hk,rfl,rfl,a1⟩:=hrel;rcases a1 with⟨rfl,rfl⟩|⟨rfl,rfl⟩|⟨rfl,rfl⟩
  .go_wp2_with fail
   go_round
   (case rel=>exact⟨1,X,by omega,by first|rfl|go_num,by first|rfl|go_num,.inr (.inl ⟨rfl,rfl⟩)⟩);case measure=>simp[intOf]
  .go_wp2_with fail
   go_round
   (case rel=>exact⟨2,q+Y,by omega,by first|rfl|go_num,by first|rfl|go_num,.inr (.inr ⟨rfl,rfl⟩)⟩);case measure=>simp[intOf]
  .have a2:=za0 (zqw9 (X+Y) w h3);clear c0 c1;go_wp2_with fail;refine a2.o.mono ?_;clear a2;rintro e w2 ⟨⟨v2,rfl,a5,a4⟩,a3⟩;have O2:=za0 a5;have N2:=za0 a4;have B2:=za0 a3;clear a5 a4 a3;go_wp2_with fail
   go_loopw [6,27] (λ r i wr=>∃(k:Nat)(l:List Value),k<=2/\i=.int .i64 k/\((k=0/\Hid (l=[]))\/(k=1/\Hid (l=xs))\/(k=2/\Hid (l=xs++ys)))/\Hid (OwnsV 3 wr r l)/\Hid (∀j,r.ownBlock=some j->w.heap.size<=j)/\Hid (Below w.heap.size w wr)) (λ _ i _=>2-(intOf i).toNat)
   (case atStart=>exact⟨0,[],by omega,rfl,.inl ⟨rfl,rfl⟩,O2,N2,B2⟩);case round=>
    clear O2 N2 B2;obtain⟨k,l,hk,rfl,a1,O,K,u⟩:=hrel;rcases a1 with⟨rfl,A⟩|⟨rfl,A⟩|⟨rfl,A⟩
    .have d0:wr.cell? ⟨B,0,none⟩=some (.slice aa X ac):=by rw[u.o.cell (p:=⟨B,0,none⟩) (ze0 w ⟨B,0,none⟩ C0.o),C0.o]
     have I:=za0 (HA.o.below u.o);(have E:Hid (l.length+xs.length<=9223372036854775807/\(l.length+xs.length)*8<=140737488355328):=by show _/\_;rw[A.o,hX.o];simp;omega);go_wp2_with(at_builtin;refine zs9 _ rfl (.tmp 31) (.tmp 32) 56 rfl 3 _ 8 elemIN _ l rfl O.o _ xs rfl I.o H1.o E.o.1 E.o.2 ?_)
     intro v3 w3 T Q;(have a0:Hid (OwnsV 3 w3 v3 xs):=by have:=T;rw[A.o,List.nil_append]at this;exact this);have H:=Q.onto u.o K.o;have B3:=za0 H.1;have N3:=za0 H.2;clear T Q O K u d0 I H E;go_wp2_with fail
     go_roundw
     (case rel=>exact⟨1,xs,by omega,by first|rfl|go_num,.inr (.inl ⟨rfl,rfl⟩),a0,N3,B3⟩);case measure=>simp[intOf]
    .have d0:wr.cell? ⟨B,1,none⟩=some (.slice ba Y bc):=by rw[u.o.cell (p:=⟨B,1,none⟩) (ze0 w ⟨B,1,none⟩ C1.o),C1.o]
     have I:=za0 (HB.o.below u.o);(have E:Hid (l.length+ys.length<=9223372036854775807/\(l.length+ys.length)*8<=140737488355328):=by show _/\_;rw[A.o,hX.o,hY.o];omega);go_wp2_with(at_builtin;refine zs9 _ rfl (.tmp 31) (.tmp 32) 56 rfl 3 _ 8 elemIN _ l rfl O.o _ ys rfl I.o H2.o E.o.1 E.o.2 ?_)
     intro v3 w3 T Q;(have a0:Hid (OwnsV 3 w3 v3 (xs++ys)):=by have:=T;rw[A.o]at this;exact this);have H:=Q.onto u.o K.o;have B3:=za0 H.1;have N3:=za0 H.2;clear T Q O K u d0 I H E;go_wp2_with fail
     go_roundw
     (case rel=>exact⟨2,xs++ys,by omega,by first|rfl|go_num,.inr (.inr ⟨rfl,rfl⟩),a0,N3,B3⟩);case measure=>simp[intOf]
    .go_wp2_with fail;go_ret;exact⟨⟨_,rfl,by have:=O.o;rw[A.o]at this;exact this,K.o⟩,u.o⟩
def zmn9(v:Value)(xs:List Value)(w:World)(ha:RdV w v xs)(H:∀x∈xs,x.oneCell'=true)(h3:xs.length*8<=140737488355328):
 Calls Tryz.prog 191 #[v] w λ e w'=>(∃Q,e=.returned Q/\RdV w' Q xs/\∀j,Q.ownBlock=some j->w.heap.size<=j/\j<w'.heap.size)/\Below w.heap.size w w':=by
 have T:=za0 ha;have H1:=za0 H;have a1:∀(w:World)(a:Option Addr)(n c O A:Nat),(binOp .eql 56 (.slice a n c) (.slice none O A)).run Tryz.prog w=.ok (.bool a.isNone) w:=λ w a n c O A=>Lib.run_eql_slice_nil w _ _ a n c O A Tryz.underlying56;obtain⟨aa,ac,rfl,_,_,K⟩:=ha.len;cases aa with
 | none=>
  have hc:=K rfl;have hx:xs=[]:=by obtain⟨a',A,e,hl,_⟩:=ha;cases e;exact zh0 (by omega)
  subst hx hc;clear ha H h3 K
  go_enter Tryz.func191,Tryz.ntmps191
  go_wp2_with fail;go_ret;exact⟨⟨_,rfl,zaq9 _,λ j u=>by cases u⟩,Below.refl _ _⟩
 | some ad=>
  have OE:Hid (OwnsV 3 (w.alloc (.cells #[] 3)) (.slice (some ⟨w.heap.size,0,none⟩) 0 0) []):=⟨rfl,.inr ⟨w.heap.size,0,#[],rfl,zn7 _,heap_alloc_new w _,zn6 _,zn7 _,rfl,rfl⟩⟩
  have Y:Hid (([]:List Value).length+xs.length<=9223372036854775807/\(([]:List Value).length+xs.length)*8<=140737488355328):=by show _/\_;simp;omega
  obtain⟨X,hX⟩:=exH xs.length;rw[hX.o]at T |-
  clear ha H h3 K
  go_enter Tryz.func191,Tryz.ntmps191
  go_wp2_with(at_builtin;refine zs9 _ rfl (.tmp 5) (.tmp 6) 56 rfl 3 _ 8 elemIN _ [] rfl OE.o _ xs rfl (T.o.below (za9 _ _)) H1.o Y.o.1 Y.o.2 ?_)
  intro v3 w3 E a0;have I:=a0.onto (za9 w _) (λ j u=>by simp only[Value.ownBlock,Option.some.injEq]at u;omega);have R3:Hid (RdV w3 v3 xs):=by first|exact E.rd|(have:=E;rw[List.nil_append]at this;exact this.rd)
  have B3:=za0 I.1;have N3:Hid (∀j,v3.ownBlock=some j->w.heap.size<=j/\j<w3.heap.size):=λ j u=>⟨I.2 j u,E.lt j u⟩
  clear E a0 I;go_wp2_with fail;go_ret;exact⟨⟨_,rfl,R3.o,N3.o⟩,B3.o⟩
