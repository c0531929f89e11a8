import Derived.Test.YtihofcopapmjlaaGreatProg
import Derived.Test.YtihofcopapmjlaaGreatPMem
import Derived.WalkSpells
set_option maxRecDepth 100000
set_option linter.all false
set_option maxHeartbeats 8000000
namespace Go.Proofs.YtihofcopapmjlaaGreat
open Go.Proofs.Tryz
open Go.RowKit Pl
def PO(n x j)(r:0<=n)(B:n<2 ^ j)(A:0<=x)(hx1:x*2 ^ j<2 ^ 62)(q:j<=62):bits BinOp.or IntKind.i64 n (x*2 ^ j)=n+x*2 ^ j:=by
 obtain⟨a,rfl⟩:=Int.eq_ofNat_of_zero_le r;obtain⟨c,rfl⟩:=Int.eq_ofNat_of_zero_le A;have e:((c:Int)*2 ^ j)=((c*2 ^ j:Nat):Int):=by simp
 have ha:a<2 ^ j:=by grind
 have f:=Ao ha (Nat.pow_le_pow_right (by decide) q);have hc:c*2 ^ j<2 ^ 62:=by omega
 rw[e,(bits_nat .i64 62 (by decide) Bp a _ f hc).2,Ke a c j ha];omega
def ADn(xs k x)(E:xs.getD k 0=x)(A:k<5)(f:0<=CN xs k/\CN xs k<128 ^ k):
 bits BinOp.or IntKind.i64 (CN xs k) (wrap64 (x % 128*2 ^ (7*k)))=CN xs (k+1):=by
 have B:=AEO k A;have q:(0:Int)<128 ^ k:=Int.pow_pos (by decide);have r:0<=x % 128:=by omega
 have I:x % 128<=127:=by omega
 simp only[CN,E];rw[AEN]at *
 generalize x % 128=y at *
 have J:=Int.mul_nonneg r (Int.le_of_lt q);have K:=Int.mul_le_mul I B (Int.le_of_lt q) (by decide);rw[IntWalk.wrap64_in _ ⟨by omega,by omega⟩];exact PO _ _ _ f.1 f.2 r (by omega) (by omega)
def ADS(b o cap xs w)(U:∀i,0<=xs.getD i 0/\xs.getD i 0<=255)(hl:xs.length<=cap)(hm:cap<=maxLen)(hc:∀i,i<xs.length->w.cell? ⟨b,o+i,none⟩=some (.int .u8 (xs.getD i 0))):
 Calls prog 133 #[.slice (some ⟨b,o,none⟩) xs.length cap] w λ e w'=>
  e=.returned (.tuple #[.int .i64 (IT (BJ xs)),.int .i64 (IS (BJ xs)),.int .i64 (IR (BJ xs))])/\w'=w:=by
 unfold maxLen at hm;have O:=z6 U;have W:=z6 hc;have X:Hid (Bz xs 5 0=BJ xs):=rfl;generalize BJ xs=R at *
 clear U hc;by_cases h5:xs.length<=5;all_goals
  go_enter func133,ntmps133
  go_wp2
  go_loop [5,15] (λ n i=>∃k:Nat,k<=xs.length/\k<=5/\i=.int .i64 k/\n=.int .i64 (CN xs k)/\Hid (Bz xs (5-k) k=R)) (λ _ i=>5-(intOf i).toNat)
  case atStart=>exact⟨0,AI _,by omega,rfl,rfl,X⟩
  case round=>
   obtain⟨k,hk,Z,rfl,rfl,I⟩:=hrel;have T:=UM xs O.o k;by_cases A:k<xs.length/\k<5
   .obtain⟨A,J⟩:=A;obtain⟨x,r⟩:=exH (xs.getD k 0);obtain⟨m,E⟩:=exH (CN xs (k+1));(have hx1:0<=x/\x<=255:=by have h:=O.o k;rw[r.o]at h;exact h);(have a0:w.cell? ⟨b,o+k,none⟩=some (.int .u8 x):=by rw[W.o k A,r.o]);(have a2:bits BinOp.or IntKind.i64 (CN xs k) (wrap64 (x % 128*2 ^ (7*k)))=m:=by rw[<-E.o];exact ADn xs k x r.o J T);clear T;by_cases L:128<=x
    .have f:=ADN J A (by rw[r.o];exact L) I.o;have q:=z6 f;clear f;go_wp2
     go_round
     (case rel=>exact⟨k+1,by omega,by omega,by go_num,by rw[E.o],q⟩);case measure=>simp[intOf];omega
    .by_cases B:4294967295<m\/(0<k/\x=0)
     .have f:=ADK J A (by rw[r.o];exact L) (by rw[E.o,r.o];exact B) I.o;have q:=z6 f;have K:=z6 B;clear f B;go_wp2;all_goals
       first
       | (go_ret3;exact⟨by rw[q.o];rfl,rfl⟩)
       | (exfalso;have:=K.o;omega)
     .have f:=ADM J A (by rw[r.o];exact L) (by rw[E.o,r.o];exact B) I.o;rw[E.o]at f;have q:=z6 f;have K:=z6 B;clear f B;go_wp2;all_goals
       first
       | (go_ret3;exact⟨by rw[q.o];rfl,rfl⟩)
       | (exfalso;have:=K.o;omega)
       | (have Y:k=0:=by omega
          subst Y;go_ret3;exact⟨by rw[q.o];rfl,rfl⟩)
   .have f:=ADL A Z I.o;have q:=z6 f;clear f;(have a1:k=xs.length\/k=5:=by omega);go_wp2;go_ret3;exact⟨by rw[q.o];rfl,rfl⟩
def PM(a cap w):
 Calls prog 133 #[.slice a 0 cap] w λ e w'=>e=.returned (.tuple #[.int .i64 0,.int .i64 0,.int .i64 3])/\w'=w:=by
 cases a;all_goals
  go_enter func133,ntmps133
  go_wp2
  go_loop [15] (λ i=>i=.int .i64 0) (λ _=>0)
  case atStart=>rfl
  case round=>subst hrel;go_wp2;go_ret3;exact⟨rfl,rfl⟩
def PN(v xs w)(h:Rd .u8 w v xs)(r:By xs):
 Calls prog 133 #[v] w λ e w'=>
  e=.returned (.tuple #[.int .i64 (IT (BJ xs)),.int .i64 (IS (BJ xs)),.int .i64 (IR (BJ xs))])/\w'=w:=by
 obtain⟨a,cap,rfl,f,q,_,h⟩:=h;rcases h with rfl|⟨b,o,rfl,hc⟩
 .exact PM a cap w
 .exact ADS b o cap xs w r f q hc
theorem S8:(prog.info? 5).map (λ i=>(i.zero,i.size,i.bytes))=some (some (.int .u8 0),1,1):=by kernel_rfl
structure Wr(w:World)(b:Nat)(rv:Value)(bs:List Int):Prop where
 blk:w.heap[b]?=some (.cells #[rv,.int .i64 bs.length] 329 (0,0))
 own:w.ownsRow 0 5 1 rv (AJ bs).length ((AJ bs).map (Value.int .u8))
 bits:Ai bs
def Wr.c0{w b f bs}(h:Wr w b f bs):w.cell? ⟨b,0,none⟩=some f:=by rw[cell_of_row w b 0 _ _ (0,0) h.blk];rfl
def Wr.c1{w b f bs}(h:Wr w b f bs):w.cell? ⟨b,1,none⟩=some (.int .i64 bs.length):=by rw[cell_of_row w b 1 _ _ (0,0) h.blk];rfl
def Wr.fz{w b f bs}(h:Wr w b f bs)(j):w.frozen? ⟨b,j,none⟩=false:=frozen_of_row w b j _ _ h.blk
def Wr.lt{w b f bs}(h:Wr w b f bs):b<w.heap.size:=(za0.1 h.blk).1
def Wr.ne{w b g A v bs n xs}(h:Wr w b A bs)(r:w.ownsRow 0 5 1 v n xs)(f:v.ownBlock=some g):g≠b:=by
 intro e;subst e;rcases r.2 with⟨rfl,_⟩|⟨E,cap,B,rfl,_,q,_⟩
 .simp[Value.ownBlock]at f
 .simp only[Value.ownBlock,Option.some.injEq]at f;subst f;rw[h.blk]at q;simp at q
def Wr.tch{S w w' b f bs}(h:Wr w b f bs)(q:AD S w w')(r:¬S b)(hr:∀k,f.ownBlock=some k->¬S k):Wr w' b f bs:=
 ⟨by rw[q.block b h.lt r];exact h.blk,q.owns h.own hr,h.bits⟩
def UQ(y c r)(hr:r<8)(q:0<=y)(J:y<2 ^ r)(hc:c=0\/c=1):Go.bits BinOp.or IntKind.u8 y (c*2 ^ r % 256)=y+c*2 ^ r:=by
 obtain⟨a,rfl⟩:=Int.eq_ofNat_of_zero_le q;have ha:a<2 ^ r:=by grind
 have I:2 ^ r<=2 ^ 7:=Nat.pow_le_pow_right (by decide) (by omega);have A:(2:Nat) ^ 7=128:=by decide
 have B:(2:Nat) ^ 8=256:=by decide
 obtain⟨d,rfl,f⟩:∃d:Nat,c=(d:Int)/\d<=1:=by rcases hc with rfl|rfl;exact⟨0,rfl,by omega⟩;exact⟨1,rfl,by omega⟩
 have E:d*2 ^ r<=1*2 ^ r:=Nat.mul_le_mul_right _ f;have e:((d:Int)*2 ^ r % 256)=((d*2 ^ r:Nat):Int):=by
  have:((d:Int)*2 ^ r)=((d*2 ^ r:Nat):Int):=by simp
  omega
 rw[e,(bits_nat .u8 8 (by decide) wraps_u8 a _ (by omega) (by omega)).2,Ke a d r ha];simp
def Wr.mid{w b g q cap bs c}(h:Wr w b (.slice (some ⟨g,0,none⟩) q cap) bs)(E:bs.length % 8≠0)(hc:c=0\/c=1):
 Wr ((w.setCell ⟨g,bs.length / 8,none⟩ (.int .u8 ((AJ bs).getD (bs.length / 8) 0+c*2 ^ (bs.length % 8)))).setCell ⟨b,1,none⟩ (.int .i64 ((bs.length:Int)+1))).drew b (.slice (some ⟨g,0,none⟩) q cap) (bs++[c]):=by
 have I:g≠b:=h.ne h.own rfl;have B:q=(AJ bs).length:=by
  rcases h.own.2 with⟨e,_⟩|⟨L,J,K,e,_⟩
  .cases e
  grind
 subst B;refine⟨?_,?_,h.bits.snoc hc⟩
 .have f:(w.setCell ⟨g,bs.length / 8,none⟩ (.int .u8 ((AJ bs).getD (bs.length / 8) 0+c*2 ^ (bs.length % 8)))).heap[b]?=some (.cells #[.slice (some ⟨g,0,none⟩) (AJ bs).length cap,.int .i64 bs.length] 329 (0,0)):=by rw[Below.heap_setCell _ _ _ _ (λ e=>I e.symm)];exact h.blk
  have r:=heap_setCell_same _ b 1 _ _ (.int .i64 ((bs.length:Int)+1)) f;show((w.setCell ⟨g,bs.length / 8,none⟩ _).setCell ⟨b,1,none⟩ _).heap[b]?=_
  grind
 .have f:=(h.own.stored (bs.length / 8) (.int .u8 ((AJ bs).getD (bs.length / 8) 0+c*2 ^ (bs.length % 8)))).1;have r:((w.setCell ⟨g,bs.length / 8,none⟩ (.int .u8 ((AJ bs).getD (bs.length / 8) 0+c*2 ^ (bs.length % 8)))).setCell ⟨b,1,none⟩ (.int .i64 ((bs.length:Int)+1))).ownsRow 0 5 1
   (.slice (some ⟨g,0,none⟩) (AJ bs).length cap) (AJ bs).length (((AJ bs).map (Value.int .u8)).set (bs.length / 8) (.int .u8 ((AJ bs).getD (bs.length / 8) 0+c*2 ^ (bs.length % 8)))):=
   AD.owns (S:=λ k=>k=b) ((AD.refl (λ k=>k=b) _).setCell (p:=⟨b,1,none⟩) (λ _=>rfl) _) f (λ k A=>by simp only[Value.ownBlock,Option.some.injEq]at A;omega)
  rw[AD6 bs c E,List.map_set,zo0];exact r
def XO(b g cap y f)(n:Nat)(q w)(J:((n:Int) % 8==0)=false)(O:n<=4611686018427387904)(K:0<=f/\f<=1)(U:0<=y/\y<=255)(L:n / 8<q)(r:w.cell? ⟨b,0,none⟩=some (.slice (some ⟨g,0,none⟩) q cap))(c1:w.cell? ⟨b,1,none⟩=some (.int .i64 n))(B:w.frozen? ⟨b,0,none⟩=false)(E:w.frozen? ⟨b,1,none⟩=false)(T:g≠b)(A:w.cell? ⟨g,n / 8,none⟩=some (.int .u8 y))(I:w.frozen? ⟨g,n / 8,none⟩=false):
 Calls prog 234 #[.pointer (some ⟨b,0,none⟩),.int .u8 f] w λ e w'=>e=.returned (.tuple #[])/\
  w'=((w.setCell ⟨g,n / 8,none⟩ (.int .u8 (Go.bits BinOp.or IntKind.u8 y (f*2 ^ (n % 8) % 256)))).setCell ⟨b,1,none⟩ (.int .i64 ((n:Int)+1))).drew:=by
 go_enter func234,ntmps234
 go_wp2
 go_region
 go_wp2
 go_end0
 exact⟨rfl,rfl⟩
def Wr.appended{w f b r A bs o}(h:Wr w b r bs)(B:f.ownsRow 0 5 1 A ((AJ bs).map (Value.int .u8)++[Value.int .u8 0]).length ((AJ bs).map (Value.int .u8)++[Value.int .u8 0]))(T:(w.alloc o).grownBy f r.ownBlock)(hf:∀k,A.ownBlock=some k->r.ownBlock=some k\/w.heap.size+1<=k)(Z:bs.length % 8=0):
 ∃g q,A=.slice (some ⟨g,0,none⟩) (bs.length / 8+1) q/\
  f.cell? ⟨b,0,none⟩=some r/\f.cell? ⟨b,1,none⟩=some (.int .i64 bs.length)/\f.frozen? ⟨b,0,none⟩=false/\f.frozen? ⟨b,1,none⟩=false/\g≠b/\
  f.cell? ⟨g,bs.length / 8,none⟩=some (.int .u8 0)/\f.frozen? ⟨g,bs.length / 8,none⟩=false/\
  ∀c,c=0\/c=1->Hid (Wr (((f.setCell ⟨b,0,none⟩ A).setCell ⟨g,bs.length / 8,none⟩ (.int .u8 c)).setCell ⟨b,1,none⟩ (.int .i64 ((bs.length:Int)+1))).drew b A (bs++[c])/\
   AD (λ k=>k=b\/r.ownBlock=some k) w (((f.setCell ⟨b,0,none⟩ A).setCell ⟨g,bs.length / 8,none⟩ (.int .u8 c)).setCell ⟨b,1,none⟩ (.int .i64 ((bs.length:Int)+1))).drew/\
   ∀k,A.ownBlock=some k->r.ownBlock=some k\/w.heap.size<=k):=by
 have E:f.heap[b]?=some (.cells #[r,.int .i64 bs.length] 329 (0,0)):=by
  rw[T.block b (by have:=h.lt;simp;omega) (λ e=>by
   exact h.ne h.own e.symm rfl),Below.heap_alloc _ _ _ h.lt]
  exact h.blk
 have a0:((AJ bs).map (Value.int .u8)++[Value.int .u8 0]).length=bs.length / 8+1:=by simp[Cn];omega
 have a3:=B;rw[a0]at B;obtain⟨g,q,rfl⟩:∃g q,A=.slice (some ⟨g,0,none⟩) (bs.length / 8+1) q:=by
  rcases B.2 with⟨_,e⟩|⟨g,q,W,e,_⟩
  .omega
  grind
 have U:g≠b:=by
  intro e;subst e;rcases B.2 with⟨e,_⟩|⟨g',cap,W,e,_,a1,_⟩
  .cases e
  grind
 have O:∀k,(Value.slice (some ⟨g,0,none⟩) (bs.length / 8+1) q).ownBlock=some k->r.ownBlock=some k\/w.heap.size<=k:=by grind
 refine⟨g,q,rfl,by rw[cell_of_row f b 0 _ _ (0,0) E];rfl,by rw[cell_of_row f b 1 _ _ (0,0) E];rfl,frozen_of_row f b 0 _ _ E,frozen_of_row f b 1 _ _ E,U,
  by rw[B.cellAt (bs.length / 8) (by omega),zj0 (by grind),show bs.length / 8-((AJ bs).map (Value.int .u8)).length=0 by grind];rfl,B.frozenAt _,λ c hc=>?_⟩
 have hL:(AJ bs).length=bs.length / 8:=by grind
 refine⟨⟨?_,?_,h.bits.snoc hc⟩,?_,O⟩
 .have I:=heap_setCell_same f b 0 _ _ (.slice (some ⟨g,0,none⟩) (bs.length / 8+1) q) E;have J:((f.setCell ⟨b,0,none⟩ (.slice (some ⟨g,0,none⟩) (bs.length / 8+1) q)).setCell ⟨g,bs.length / 8,none⟩ (.int .u8 c)).heap[b]?=_:=
   (Below.heap_setCell _ _ _ _ (λ e=>U e.symm)).trans I
  have K:=heap_setCell_same _ b 1 _ _ (.int .i64 ((bs.length:Int)+1)) J;show(((f.setCell ⟨b,0,none⟩ _).setCell ⟨g,bs.length / 8,none⟩ _).setCell ⟨b,1,none⟩ _).heap[b]?=_
  grind
 .have I:(f.setCell ⟨b,0,none⟩ (.slice (some ⟨g,0,none⟩) (bs.length / 8+1) q)).ownsRow 0 5 1 (.slice (some ⟨g,0,none⟩) (bs.length / 8+1) q) (bs.length / 8+1) ((AJ bs).map (Value.int .u8)++[Value.int .u8 0]):=
   AD.owns (S:=λ k=>k=b) ((AD.refl (λ k=>k=b) _).setCell (p:=⟨b,0,none⟩) (λ _=>rfl) _) B (λ k L=>by simp only[Value.ownBlock,Option.some.injEq]at L;omega)
  have J:=(I.stored (bs.length / 8) (.int .u8 c)).1;have K:=AD.owns (S:=λ k=>k=b) ((AD.refl (λ k=>k=b) _).setCell (p:=⟨b,1,none⟩) (λ _=>rfl) (.int .i64 ((bs.length:Int)+1))) J (λ k L=>by simp only[Value.ownBlock,Option.some.injEq]at L;omega);rw[AD7 bs c Z,za1];have X:((AJ bs).map (Value.int .u8)++[Value.int .u8 0]).set (bs.length / 8) (.int .u8 c)=(AJ bs).map (Value.int .u8)++[c].map (Value.int .u8):=by simp_all
  rw[X]at K;have Y:(AJ bs++[c]).length=bs.length / 8+1:=by simp[hL]
  rw[Y];exact K
 .refine AD.drew (AD.setCell (AD.setCell (AD.setCell (AD.grown ((AD.refl _ w).alloc o) T (λ k _ e=>.inr e)) (λ _=>.inl rfl) _) (λ a2=>?_) _) (λ _=>.inl rfl) _);rcases O g rfl with e|e
  .grind
  grind
def XP(b q f bs w)(h:Wr w b q bs)(T:bs.length % 8=0)(hn:bs.length<=1125899906842000)(E:f=0\/f=1):
 Calls prog 234 #[.pointer (some ⟨b,0,none⟩),.int .u8 f] w λ e w'=>e=.returned (.tuple #[])/\
  ∃O,Wr w' b O (bs++[f])/\AD (λ k=>k=b\/q.ownBlock=some k) w w'/\∀k,O.ownBlock=some k->q.ownBlock=some k\/w.heap.size<=k:=by
 have a2:0<=f/\f<=1:=by omega
 have a1:((bs.length:Int) % 8==0)=true:=by simp;omega
 have c0:=h.c0;have c1:=h.c1;have f0:=h.fz 0;have f1:=h.fz 1;have a3:=h.lt;have H:=z6 h;clear h;obtain⟨i0,U,X,Y,Z⟩:=info_parts S8;have W:Hid (∀o,(w.alloc o).ownsRow 0 5 1 q ((AJ bs).map (Value.int .u8)).length ((AJ bs).map (Value.int .u8))):=λ o=>by simpa using H.o.own.alloc o
 have L:((AJ bs).map (Value.int .u8)).length=(bs.length+7) / 8:=by simp[Cn]
 have A:=z6 L;clear L
 go_enter func234,ntmps234
 go_wp2_with(at_builtin;refine LH _ rfl (.tmp 14) (.tmp 15) 40 rfl 5 i0 (.int .u8 0) 1 underlying40 U X Y Z rfl q ((AJ bs).map (Value.int .u8)) rfl (W.o _) _ [.int .u8 0] rfl (Vb _ _ _ rfl) ?b1 ?b2 ?_)
 case b1=>rw[A.o];unfold maxLen;simp;omega
 case b2=>rw[A.o];simp;omega
 intro v' w1 K J I;have R:=H.o.appended (by simpa using K) J I T;clear K J I;obtain⟨g,a0,rfl,d0,d1,e0,e1,a4,cy,fy,B⟩:=R;have r:=B f E;clear B;have a5:Go.bits BinOp.or IntKind.u8 0 (f % 256)=f:=by have e:=UQ 0 f 0 (by omega) (by omega) (by decide) E;simpa using e
 go_wp2
 go_region
 go_wp2
 go_end0
 exact⟨rfl,_,r.o.1,r.o.2.1,r.o.2.2⟩
def NW(b q f bs w)(h:Wr w b q bs)(T:bs.length<=1125899906842000)(r:f=0\/f=1):
 Calls prog 234 #[.pointer (some ⟨b,0,none⟩),.int .u8 f] w λ e w'=>e=.returned (.tuple #[])/\
  ∃I,Wr w' b I (bs++[f])/\AD (λ k=>k=b\/q.ownBlock=some k) w w'/\∀k,I.ownBlock=some k->q.ownBlock=some k\/w.heap.size<=k:=by
 by_cases B:bs.length % 8=0;exact XP b q f bs w h B T r
 .have K:(AJ bs).length=bs.length / 8+1:=by rw[Cn];omega
  obtain⟨g,cap,rfl⟩:∃g cap,q=.slice (some ⟨g,0,none⟩) (bs.length / 8+1) cap:=by
   rcases h.own.2 with⟨_,e⟩|⟨g,W,X,e,_⟩
   .omega
   grind
  have A:=h.own;rw[K]at A;have U:=h.ne h.own rfl;have O:=AD1 h.bits;have E:=PS h.bits (bs.length / 8);have J:w.cell? ⟨g,bs.length / 8,none⟩=some (.int .u8 ((AJ bs).getD (bs.length / 8) 0)):=by
   rw[A.cellAt _ (by omega)]
   grind
  refine(XO b g cap _ f bs.length (bs.length / 8+1) w (by simp;omega) (by omega) (by omega) E (by omega) h.c0 h.c1 (h.fz 0) (h.fz 1) U J (A.frozenAt _)).mono ?_;rintro e w' ⟨rfl,rfl⟩;rw[UQ _ f _ (by omega) E.1 O r];exact⟨rfl,_,h.mid B r,AD.drew (AD.setCell (AD.setCell (AD.refl _ _) (λ _=>.inr rfl) _) (λ _=>.inl rfl) _),λ k L=>.inl L⟩
structure EE(w:World)(b:Nat)(rv:Value)(w':World)(rv':Value)(bs:List Int):Prop where
 wr:Wr w' b rv' bs
 tch:AD (λ k=>k=b\/rv.ownBlock=some k) w w'
 fresh:∀k,rv'.ownBlock=some k->rv.ownBlock=some k\/w.heap.size<=k
def EE.refl{w b f bs}(h:Wr w b f bs):EE w b f w f bs:=⟨h,AD.refl _ _,λ _ e=>.inl e⟩
def EE.trans{w I J b A B E K r}(f:EE w b A I B K)(q:EE I b B J E r):EE w b A J E r:=by
 refine⟨q.wr,f.tch.trans q.tch λ i O e=>?_,λ k L=>?_⟩
 .rcases e with e|e;omega
  .rcases f.fresh i e with e|e
   .grind
   .omega
 .rcases q.fresh k L with e|e;exact f.fresh k e;exact .inr (by have:=f.tch.size;omega)
def IQ(b f)(n:Nat)(v bs w)(h:Wr w b f bs)(hn:bs.length<=1125899906841900)(X:n<=32)(hv:0<=v)(L:v<2 ^ n):
 Calls prog 203 #[.pointer (some ⟨b,0,none⟩),.int .i64 n,.int .i64 v] w λ e w'=>e=.returned (.int .i64 0)/\∃q,EE w b f w' q (bs++Aa v n):=by
 have H:Hid (Wr w b f bs):=h;have hq:(v / 2 ^ n != 0)=false:=by rw[Int.ediv_eq_zero_of_lt hv L];rfl
 have a2:v<=4294967296:=by
  have:(2:Int) ^ n<=2 ^ 32:=Gt X;have e:(2:Int) ^ 32=4294967296:=by decide
  omega
 clear h L
 go_enter func203,ntmps203
 go_wp2_with fail
 go_loopw [25] (λ i wr=>∃(k:Nat)(q:Value),k<=n/\i=.int .i64 k/\Hid (EE w b f wr q (bs++Aa v k))) (λ i _=>n-(intOf i).toNat)
 case atStart=>exact⟨0,f,AI _,rfl,by simpa[Aa,Hid]using EE.refl H.o⟩
 case round=>
  obtain⟨k,q,hk,rfl,r⟩:=hrel;by_cases a1:k<n
  .obtain⟨c,A⟩:=exH (v / 2 ^ k % 2);have Z:Go.bits BinOp.and IntKind.i64 (v / 2 ^ k) 1=c:=by
    rw[<-A.o];have U:0<=v / 2 ^ k:=Int.ediv_nonneg hv (Int.le_of_lt (Int.pow_pos (by decide)));have W:v / 2 ^ k<=v:=Int.ediv_le_self _ hv;obtain⟨a,ha⟩:=Int.eq_ofNat_of_zero_le U;rw[ha]at W |-
    have:=(bits_nat .i64 62 (by decide) Bp a 1 (by omega) (by decide)).1;rw[XZ]at this;exact this
   (have K:c=0\/c=1:=by rw[<-A.o];exact Xv v k);have T:Hid (c=0\/c=1):=K;(have a0:c % 256=c:=by omega);clear K;go_wp2_with fail;refine(NW b q c (bs++Aa v k) wr r.o.wr (by simp[Bc];omega) T.o).mono ?_;rintro e O ⟨rfl,B,E,I,J⟩;have Y:Hid (EE w b f O B (bs++Aa v (k+1))):=by have:=r.o.trans ⟨E,I,J⟩;show EE w b f O B (bs++(Aa v k++[v / 2 ^ k % 2]));rw[A.o,<-zr0];exact this
   clear E I J r;go_wp2_with fail
   go_roundw
   (case rel=>exact⟨k+1,B,by omega,by go_num,Y⟩);case measure=>simp[intOf];omega
  .obtain rfl:k=n:=by omega
   go_wp2_with fail;go_ret;exact⟨rfl,q,r.o⟩
