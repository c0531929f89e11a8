import Derived.Test.YtcmjlibndmneiaaGreatProg
import Derived.Test.YtcmjlibndmneiaaGreatPMem
import Derived.WalkSpells
import Derived.BigQuiet
set_option maxRecDepth 100000
set_option linter.all false
set_option maxHeartbeats 8000000
namespace Go.Proofs.YtcmjlibndmneiaaGreat
open Go.RowKit
def Owns(k:IntKind)(e:TypeId)(w:World)(v:Value)(xs:List Int):Prop:=w.ownsRow 0 e 1 v xs.length (xs.map (Value.int k))
structure Grew(w w':World)(v v':Value):Prop where
 tch:Tch (λ k=>v.ownBlock=some k) w w'
 fresh:∀k,v'.ownBlock=some k->v.ownBlock=some k\/w.heap.size<=k
def Grew.below{w w':World}{u:Value}(h:Grew w w' (.slice none 0 0) u):Below w.heap.size w w'/\∀k,u.ownBlock=some k->w.heap.size<=k:=
 ⟨h.tch.below (zn6 _) (λ k e=>by cases e),λ k A=>by rcases h.fresh k A with e|e;(· cases e);(· exact e)⟩
def Grew.onto{u w w':World}{v H:Value}(h:Grew w w' v H)(A:Below u.heap.size u w)(E:∀k,v.ownBlock=some k->u.heap.size<=k):Below u.heap.size u w'/\∀k,H.ownBlock=some k->u.heap.size<=k:=
 ⟨A.trans (h.tch.below A.size (λ k e=>E k e)),λ k I=>by
  rcases h.fresh k I with e|e
  .exact E k e
  .have:=A.size;omega⟩
def zdv9(k:IntKind)(e:TypeId)(w:World):Owns k e w (.slice none 0 0) []:=World.ownsRow_nil _ _ _ _
def Owns.rd{k:IntKind}{e:TypeId}{w:World}{v:Value}{xs:List Int}(h:Owns k e w v xs):Rd k w v xs:=zos9 h
def Owns.tch{S:Nat->Prop}{k:IntKind}{e:TypeId}{w w':World}{v:Value}{xs:List Int}(h:Owns k e w v xs)(A:Tch S w w')(u:∀j,v.ownBlock=some j->¬S j):Owns k e w' v xs:=A.owns h u
def Owns.below{k:IntKind}{e:TypeId}{w w':World}{v:Value}{xs:List Int}(h:Owns k e w v xs)(u:Below w.heap.size w w'):Owns k e w' v xs:=
 h.tch (S:=λ _=>False) (Tch.of_below u) (λ _ _ e=>e)
def Owns.lt{k:IntKind}{e:TypeId}{w:World}{v:Value}{xs:List Int}(h:Owns k e w v xs):∀j,v.ownBlock=some j->j<w.heap.size:=λ j u=>(World.ownsRow.lt h j u).2
def Owns.shape{k:IntKind}{e:TypeId}{w:World}{v:Value}{xs:List Int}(h:Owns k e w v xs)(O:0<xs.length):
 ∃g cap,v=.slice (some ⟨g,0,none⟩) xs.length cap/\g<w.heap.size/\xs.length<=cap/\cap<=maxLen/\(∀i,i<xs.length->w.cell? ⟨g,i,none⟩=some (.int k (xs.getD i 0)))/\∀i,w.frozen? ⟨g,i,none⟩=false:=by
 have u:=h;rcases u.2 with⟨_,e⟩|⟨g,cap,K,rfl,_,E,I,A,_⟩
 .omega
 .refine⟨g,cap,rfl,(zd0.1 E).1,I,A,λ i H=>?_,λ i=>u.frozenAt i⟩;rw[u.cellAt i (by omega)];simp[zn3,H]
def Owns.set{k:IntKind}{e:TypeId}{w:World}{g n cap:Nat}{xs:List Int}(h:Owns k e w (.slice (some ⟨g,0,none⟩) n cap) xs)(j:Nat)(u:Int):
 Owns k e (w.setCell ⟨g,j,none⟩ (.int k u)) (.slice (some ⟨g,0,none⟩) n cap) (xs.set j u):=by
 have A:=h;have E:n=xs.length:=by
  rcases A.2 with⟨e,_⟩|⟨K,H,I,e,_⟩
  .cases e
  .simp only[Value.slice.injEq]at e;exact e.2.1
 subst E;have:=(A.stored j (.int k u)).1;unfold Owns;rw[zt0,List.map_set];exact this
structure Elem(P:Program)(t e:TypeId)(k:IntKind)(bytes:Nat):Prop where
 ht:P.underlying t=some (.slice e)
 info:∃i,P.info? e=some i/\i.zero=some (.int k 0)/\i.size=1/\i.bytes=bytes
section
variable {P:Program}
def zlz9(w:World){I:Array Oper}{K:List Oper}{o:Oper}{a:Act}{Q:Exit->Act->World->Prop}(a0:o.guard=none)(s x:Operand)(t:TypeId)
 (ho:o.op=.call { callee:=.builtin .append,args:=#[s,x],argTypes:=#[t,t] }) (e:TypeId) (k:IntKind) (bytes:Nat) (E:Elem P t e k bytes)
 (v:Value) (xs:List Int) (hs:a.eval s=v) (hown:Owns k e w v xs) (u:Value) (ys:List Int) (hx:a.eval x=u) (hu:Rd k w u ys)
 (h63:xs.length+ys.length<=9223372036854775807) (hbytes:(xs.length+ys.length)*bytes<=140737488355328)
 (h:∀A H,Owns k e H A (xs++ys)->Grew w H v A->wpList P I Q K (a.put o.dst A) H):wpList P I Q (o::K) a w:=by
 obtain⟨ht,i,hi,hz,O,hb⟩:=E;refine zek9 w a0 s x t ho e i (.int k 0) bytes ht hi hz O hb rfl v (xs.map (Value.int k)) hs (by unfold Owns at hown;simpa using hown) u (ys.map (Value.int k)) hx (zry9 hu) (by unfold maxLen;simpa using h63) (by simpa using hbytes) ?_;intro A H T Y h4;refine h A H (by unfold Owns;simpa using T) ⟨(Tch.refl _ w).grown Y (λ _ _ e=>e),h4⟩
def zcv9(w:World){H:Array Oper}{I:List Oper}{o:Oper}{a:Act}{Q:Exit->Act->World->Prop}(a0:o.guard=none)(s x:Operand)(t:TypeId)
 (ho:o.op=.call { callee:=.builtin .append,args:=#[s,x],argTypes:=#[t,t] }) (e:TypeId) (k:IntKind) (bytes:Nat) (E:Elem P t e k bytes)
 (v:Value) (xs:List Int) (hs:a.eval s=v) (hown:Owns k e w v xs) (y:Int) (hx:a.eval x=.slice (some ⟨w.heap.size,0,none⟩) 1 1)
 (h63:xs.length+1<=9223372036854775807) (hbytes:(xs.length+1)*bytes<=140737488355328)
 (h:∀u A,Owns k e A u (xs++[y])->Grew w A v u->wpList P H Q I (a.put o.dst u) A):wpList P H Q (o::I) a (w.alloc (.cells #[.int k y] e)):=by
 obtain⟨ht,i,hi,hz,K,hb⟩:=E;refine zek9 (w.alloc (.cells #[.int k y] e)) a0 s x t ho e i (.int k 0) bytes ht hi hz K hb rfl v (xs.map (Value.int k)) hs (by unfold Owns at hown;simpa using hown.alloc _) _ [.int k y] hx (zyv9 w _ _ rfl) (by unfold maxLen;simpa using h63) (by simpa using hbytes) ?_;intro u A O T Y;refine h u A (by unfold Owns;simpa using O) ⟨Tch.grown ((Tch.refl _ w).alloc _) T (λ _ _ e=>e),λ k hk=>?_⟩;rcases Y k hk with e|e
 .exact .inl e
 .exact .inr (by simp at e;omega)
end
def Below.of_drewN(B:Nat)(w:World)(n:Nat):Below B w (w.drewN n):=⟨rfl,rfl,rfl,zn6 _,λ _ _=>rfl⟩
def elem8:Elem Tryz.prog 61 5 .u8 1:=⟨Tryz.underlying61,info_parts (z:=.int .u8 0) (size:=1) (bytes:=1) (by kernel_rfl)⟩
end Go.Proofs.YtcmjlibndmneiaaGreat
namespace Go.Proofs.YtcmjlibndmneiaaGreat
open Go.RowKit Pl
def zka9{k:IntKind}{w:World}{a:Option Addr}{cap:Nat}{xs:List Int}(h:Rd k w (.slice a xs.length cap) xs)(l m:Nat)(hl:l<=m)(O:m<=xs.length):Rd k w (sliced a l m cap 1) ((xs.drop l).take (m-l)):=by
 obtain⟨T,Y,e,h1,h2,H,I⟩:=h;cases e;have u:((xs.drop l).take (m-l)).length=m-l:=by rw[zg0,zj0];omega
 unfold sliced;rw[Nat.mul_one];by_cases E:m-l=0
 .have Q:(xs.drop l).take (m-l)=[]:=by rw[E];rfl
  rw[Q,E];refine⟨_,cap-l,rfl,zn7 _,by omega,λ e=>?_,.inl rfl⟩;by_cases c:cap=l
  .omega
  .rw[if_neg c]at e;(have:a=none:=by simpa using e);have:=H this;omega
 .rcases I with rfl|⟨b,o,rfl,K⟩
  .simp at O;omega
  .rw[if_neg (by omega)];refine⟨_,cap-l,by rw[u],by omega,by omega,λ e=>(by cases e),.inr ⟨b,o+l,?_,λ i A=>?_⟩⟩
   .simp[Addr.add]
   .rw[u]at A;rw[Nat.add_assoc,K (l+i) (by omega),zn3,zn3,zv0,if_pos A,zu0]
def size8(w:World):(sizeOf (Tryz.prog.elem 61)).run Tryz.prog w=.ok 1 w:=by
 have h:(Tryz.prog.info? (Tryz.prog.elem 61)).map (·.size)=some 1:=by kernel_rfl
 obtain⟨i,u,A⟩:=Option.map_eq_some_iff.1 h;simp[sizeOf,typeInfo,u,A]
def under8:Tryz.prog.underlying 61=some (.slice (Tryz.prog.elem 61)):=by
 have:Tryz.prog.elem 61=5:=by kernel_rfl
 rw[this];exact Tryz.underlying61
def c1(x:Nat):Nat:=if x % 2=1 then x / 2 ^^^ 2197175160 else x / 2
def c8:Nat->Nat->Nat
 | 0,x=>x
 | k+1,x=>c1 (c8 k x)
def cR(xs:List Int):Nat->Nat
 | 0=>4294967295
 | k+1=>c8 8 (cR xs k ^^^ (xs.getD k 0).toNat)
def crc(xs:List Int):Nat:=4294967295-cR xs xs.length
def c1_lt{x:Nat}(h:x<4294967296):c1 x<4294967296:=by
 unfold c1;split
 .exact Nat.xor_lt_two_pow (n:=32) (by omega) (by decide)
 .omega
def zyf9(x:Nat)(h:x<4294967296):4294967295 ^^^ x=4294967295-x:=by
 have u:(~~~ (BitVec.ofNat 32 x)).toNat=4294967295-x:=by rw[BitVec.toNat_not,BitVec.toNat_ofNat];omega
 have A:(BitVec.allOnes 32 ^^^ BitVec.ofNat 32 x).toNat=4294967295 ^^^ x:=by rw[BitVec.toNat_xor,BitVec.toNat_ofNat,BitVec.toNat_allOnes,Nat.mod_eq_of_lt (show x<2 ^ 32 by omega)]
 rw[<-u,<-A,BitVec.not_def]
def zvj9(x:Nat)(h:x<4294967296):Go.bits .xor .u32 IntKind.u32.max (x:Int)=((4294967295-x:Nat):Int):=by
 have e:IntKind.u32.max=((4294967295:Nat):Int):=by decide
 rw[e,u32_xor_nat _ _ (by decide) h,zyf9 x h]
def zwn9(x:Nat)(h:x<4294967296):Go.bits .xor .u32 ((x:Int) / 2) (2197175160*Go.bits .and .u32 (x:Int) 1 % 4294967296)=(c1 x:Int):=by
 have A:Go.bits .and .u32 (x:Int) 1=((x % 2:Nat):Int):=by have:=u32_and_nat x 1 h (by decide);rw[nat_mask1]at this;exact this
 rw[A];have E:(x:Int) / 2=((x / 2:Nat):Int):=by omega
 rw[E];unfold c1;by_cases c:x % 2=1
 .rw[if_pos c,c];have:=u32_xor_nat (x / 2) 2197175160 (by omega) (by decide);exact this
 .have u:x % 2=0:=by omega
  rw[if_neg c,u];have:=u32_xor_nat (x / 2) 0 (by omega) (by decide);simpa using this
def bN(xs:List Int)(j:Nat):Nat:=(xs.getD j 0).toNat
def bN_lt{xs:List Int}(h:By xs)(j:Nat):bN xs j<256:=by have:=h j;unfold bN;omega
def bN_eq{xs:List Int}(h:By xs)(j:Nat):xs.getD j 0=(bN xs j:Int):=by have:=h j;unfold bN;omega
def vR(d:Nat->Bool)(a:Nat):Nat->Nat
 | 0=>0
 | m+1=>vR d a m ^^^ (if d (a+m)then 2 ^ m else 0)
def dd(A mask N n p:Nat):Bool:=decide (A<=p/\p<A+n/\p<N)&&mask.testBit (p-A)
def le4(s:Nat):List Int:=[((s % 256:Nat):Int),((s / 256 % 256:Nat):Int),((s / 65536 % 256:Nat):Int),((s / 16777216 % 256:Nat):Int)]
def smd(xs:List Int):List Int:=xs.take 252++le4 (crc (xs.take 252))
def pre(n k:Int)(ys:List Int):List Int:=[k,(ys.length:Int),n % 256,n / 256,0,0,0,0]++(ys++List.replicate (244-ys.length) 0)
def sec(n k:Int)(ys:List Int):List Int:=pre n k ys++le4 (crc (pre n k ys))
def mayK(n k:Int)(l:Nat):Bool:=decide (0<=n/\n<=65535/\1<=k/\k<=4/\l<=240)
def bdy(xs:List Int):List Int:=(xs.drop 8).take (min (bN xs 1) 244)
def getE(n:Int)(xs:List Int):Int:=
 if xs.length≠256 then 1 else if xs≠smd xs then 6 else if mayK n (xs.getD 0 0) (bdy xs).length=true/\xs=sec n (xs.getD 0 0) (bdy xs)then 0 else 7
def getB(n:Int)(xs:List Int):Int×List Int:=if getE n xs=0 then(xs.getD 0 0,bdy xs)else(0,[])
theorem zsw9(s:Nat):(le4 s).length=4:=rfl
def zaz9{xs:List Int}(h:∀x∈xs,0<=x/\x<=255):By xs:=λ i=>by
 rw[zn3];cases e:xs[i]? with
 | none=>simp
 | some n=>exact h n (zk1 e)
def zgc9{xs:List Int}(h:By xs):∀x∈xs,0<=x/\x<=255:=λ x A=>by obtain⟨i,u,rfl⟩:=List.getElem_of_mem A;have:=h i;rw[zn3,zc0 u]at this;exact this
def By.appendB{xs ys:List Int}(h:By xs)(k:By ys):By (xs++ys):=zaz9 λ x u=>by
 rcases zi0.1 u with e|e
 .exact zgc9 h x e
 .exact zgc9 k x e
def By.dropB{xs:List Int}(h:By xs)(m:Nat):By (xs.drop m):=zaz9 λ x u=>zgc9 h x (zz0 u)
def le4_by(s:Nat):By (le4 s):=zaz9 λ x u=>by simp only[le4,List.mem_cons,List.not_mem_nil,or_false]at u;rcases u with rfl|rfl|rfl|rfl<;>omega
def ztj9{xs:List Int}(h:xs.length=256):(smd xs).length=256:=by simp only[smd,zf0,zg0,zsw9];omega
def smd_by{xs:List Int}(h:By xs):By (smd xs):=(h.take 252).appendB (le4_by _)
def zex9(n k:Int){ys:List Int}(h:ys.length<=244):(pre n k ys).length=252:=by simp only[pre,zf0,zk0,List.length_nil,zr0];omega
def zhn9(n k:Int){ys:List Int}(h:ys.length<=244):(sec n k ys).length=256:=by simp only[sec,zf0,zex9 n k h,zsw9]
def zvs9(n k:Int){ys:List Int}(h:ys.length<=244):(sec n k ys).take 252=pre n k ys:=by unfold sec;rw[List.take_append_of_le_length (by rw[zex9 n k h];exact zn6 _),zn5 (by rw[zex9 n k h];exact zn6 _)]
def zyq9(n k:Int){ys:List Int}(h:ys.length<=244):smd (sec n k ys)=sec n k ys:=by unfold smd;rw[zvs9 n k h];rfl
def zyu9(n k:Int){ys u:List Int}(h:ys.length<=244):smd (pre n k ys++u)=sec n k ys:=by unfold smd;rw[List.take_append_of_le_length (by rw[zex9 n k h];exact zn6 _),zn5 (by rw[zex9 n k h];exact zn6 _)];rfl
def pre_by{n k:Int}{ys:List Int}(I:0<=n/\n<=65535)(E:1<=k/\k<=4)(A:By ys)(H:ys.length<=244):By (pre n k ys):=by
 refine By.appendB (zaz9 λ x u=>?_) (A.appendB (zaz9 λ x u=>?_))
 .simp only[List.mem_cons,List.not_mem_nil,or_false]at u;rcases u with rfl|rfl|rfl|rfl|rfl|rfl|rfl|rfl<;>omega
 .rw[List.mem_replicate]at u;omega
def sec_by{n k:Int}{ys:List Int}(E:0<=n/\n<=65535)(u:1<=k/\k<=4)(H:By ys)(A:ys.length<=244):By (sec n k ys):=(pre_by E u H A).appendB (le4_by _)
theorem sec_0(n k:Int)(ys:List Int):(sec n k ys).getD 0 0=k:=rfl
def zth9(n k:Int){ys:List Int}(h:ys.length<=244):bdy (sec n k ys)=ys:=by
 have u:bN (sec n k ys) 1=ys.length:=by show((ys.length:Int)).toNat=_;omega
 have A:(sec n k ys).drop 8=ys++(List.replicate (244-ys.length) 0++le4 (crc (pre n k ys))):=by show(ys++List.replicate (244-ys.length) 0)++le4 (crc (pre n k ys))=_;rw[zw0]
 unfold bdy;rw[u,A,Nat.min_eq_left h,List.take_append_of_le_length (zn6 _),zn5 (zn6 _)]
def bdy_by{xs:List Int}(h:By xs):By (bdy xs):=(h.dropB 8).take _
def zw9{n k:Int}{l:Nat}:mayK n k l=true↔0<=n/\n<=65535/\1<=k/\k<=4/\l<=240:=by unfold mayK;exact zm0
def zfq9{n k:Int}{ys:List Int}(h:mayK n k ys.length=true):getE n (sec n k ys)=0/\getB n (sec n k ys)=(k,ys):=by
 obtain⟨A,E,H,I,K⟩:=zw9.1 h;have u:ys.length<=244:=by omega
 have e:getE n (sec n k ys)=0:=by unfold getE;rw[if_neg (by rw[zhn9 n k u];simp),if_neg (by rw[zyq9 n k u];simp),zth9 n k u,sec_0,if_pos ⟨h,rfl⟩]
 refine⟨e,?_⟩;unfold getB;rw[if_pos e,zth9 n k u,sec_0]
end Go.Proofs.YtcmjlibndmneiaaGreat
namespace Go.Proofs.YtcmjlibndmneiaaGreat
open Go.RowKit
def Rd.tch0{S:Nat->Prop}{k:IntKind}{w w':World}{v:Value}{xs:List Int}(h:Rd k w v xs)(K:Tch S w w')(I:∀b,v.ownBlock=some b->xs≠[]->¬S b):Rd k w' v xs:=by
 by_cases e:xs=[]
 .subst e;obtain⟨a,c,rfl,u,A,E,_⟩:=h;exact⟨a,c,rfl,u,A,E,.inl rfl⟩
 .exact h.tch K (λ b H=>I b H e)
def Rd.blk_lt{k:IntKind}{w:World}{v:Value}{xs:List Int}(h:Rd k w v xs)(u:xs≠[]){b:Nat}(H:v.ownBlock=some b):b<w.heap.size:=by
 obtain⟨a,c,rfl,K,O,Q,E⟩:=h;rcases E with e|⟨A,o,rfl,I⟩
 .exact absurd e u
 .cases H;exact ze0 w ⟨A,o+0,none⟩ (I 0 (by cases xs with|nil=>exact absurd rfl u|cons x r=>simp))
end Go.Proofs.YtcmjlibndmneiaaGreat
namespace Go.Proofs.YtcmjlibndmneiaaGreat
open Go.RowKit Pl
set_option maxRecDepth 100000 in
def zwq9(v:Value)(xs:List Int)(w:World)(hr:Rd .u8 w v xs)(u:By xs):
 Calls Tryz.prog 147 #[v] w λ e w'=>e=.returned (.int .i64 (crc xs:Int))/\w'=w:=by
 obtain⟨a,cap,rfl,a9,a1,_,a0⟩:=hr;have HC:=za0 a0;have HB:=za0 u;have hm:xs.length<=9223372036854775807:=by unfold maxLen at a1;omega
 clear a0 u a1;obtain⟨R,O⟩:=exH (crc xs);rw[O.o]
 go_enter Tryz.func147,Tryz.ntmps147
 go_wp2_with fail
 go_loopw [3,9] (λ x i wr=>∃(k X:Nat),k<=xs.length/\i=.int .i64 k/\x=.int .u32 X/\X<4294967296/\Hid (cR xs k=X)/\wr=w) (λ _ i _=>xs.length-(intOf i).toNat)
 case atStart=>exact⟨0,4294967295,zn7 _,rfl,rfl,by decide,rfl,rfl⟩
 case round=>
  obtain⟨k,X,hk,rfl,rfl,H,E,rfl⟩:=hrel;by_cases a2:k<xs.length
  .obtain⟨ab,ao,ha,T⟩:∃b o,a=some ⟨b,o,none⟩/\∀i,i<xs.length->wr.cell? ⟨b,o+i,none⟩=some (.int .u8 (xs.getD i 0)):=by
    rcases HC.o with rfl|h
    .simp at a2
    .exact h
   (subst ha;obtain⟨b,u⟩:∃b:Nat,Hid (xs.getD k 0=(b:Int)/\b<256):=by have:=HB.o k;exact⟨(xs.getD k 0).toNat,by omega,by omega⟩);have a7:=u.o.2;(have cx:wr.cell? ⟨ab,ao+k,none⟩=some (.int .u8 (b:Int)):=by rw[T k a2,u.o.1]);have hx1:Go.bits .xor .u32 (X:Int) (b:Int)=((X ^^^ b:Nat):Int):=u32_xor_nat X b H (by omega);have a3:X ^^^ b<4294967296:=Nat.xor_lt_two_pow (n:=32) H (by omega);(have A:Hid (cR xs (k+1)=c8 8 (X ^^^ b)):=by show _=_;simp only[cR];rw[E.o,u.o.1];rfl);obtain⟨Y,Q⟩:=exN (X ^^^ b);rw[Q]at hx1 a3 A;clear T E Q;go_wp2_with fail
   go_loopw [3,17] (λ x i a6=>∃(j X:Nat),j<=8/\i=.int .i64 j/\x=.int .u32 X/\X<4294967296/\Hid (c8 j Y=X)/\a6=wr) (λ _ i _=>8-(intOf i).toNat)
   (case atStart=>exact⟨0,Y,zn7 _,rfl,rfl,a3,rfl,rfl⟩);case round=>
    obtain⟨j,Z,hj,rfl,rfl,I,K,rfl⟩:=hrel;by_cases a8:j<8
    .have hs:=zwn9 Z I;have a5:=c1_lt I;(have a4:Hid (c8 (j+1) Y=c1 Z):=by show _=_;simp only[c8];rw[K.o]);go_wp2_with fail
     go_roundw
     (case rel=>exact⟨j+1,c1 Z,by omega,by go_num,by first|rfl|(rw[hs]),a5,a4,trivial⟩);case measure=>simp[intOf];omega
    .obtain rfl:j=8:=by omega
     rw[K.o]at A;go_wp2_with fail
     go_roundw
     (case rel=>exact⟨k+1,Z,by omega,by go_num,rfl,I,A,trivial⟩);case measure=>simp[intOf];omega
  .obtain rfl:k=xs.length:=by omega
   (have he:R=4294967295-X:=by rw[<-O.o];unfold crc;rw[E.o]);have hn:=zvj9 X H;(have aa:wrap64 ((4294967295-X:Nat):Int)=(R:Int):=by rw[he,wrap64];omega);go_wp2_with fail;go_ret;exact⟨rfl,rfl⟩
def leN(k:Nat)(n:Int):List Int:=(List.range k).map λ i=>n / 256 ^ i % 256
def vN:List Int->Int
 | []=>0
 | b::r=>b+256*vN r
def sl(xs:List Int)(a k:Nat):List Int:=(xs.drop a).take k
def zsx9(k:Nat)(n:Int):(leN k n).length=k:=by simp[leN]
def zux9(k:Nat)(n:Int):leN (k+1) n=leN k n++[n / 256 ^ k % 256]:=by simp[leN,List.range_succ]
def ztp9(b:Int):∀xs:List Int,vN (xs++[b])=vN xs+256 ^ xs.length*b
 | []=>by simp[vN]
 | x::xs=>by show x+256*vN (xs++[b])=x+256*vN xs+256 ^ (xs.length+1)*b;rw[ztp9 b xs,Int.mul_add,Int.pow_succ,Int.mul_comm (256 ^ xs.length) 256,Int.mul_assoc,Int.add_assoc]
end Go.Proofs.YtcmjlibndmneiaaGreat
namespace Go.Proofs.YtcmjlibndmneiaaGreat
open Go.RowKit Ah
def elem64:Elem Tryz.prog 56 3 .i64 8:=⟨Tryz.underlying56,info_parts (z:=.int .i64 0) (size:=1) (bytes:=8) (by kernel_rfl)⟩
abbrev OwnsI(w:World)(v:Value)(xs:List Int):Prop:=Owns .i64 3 w v xs
structure Fb where
 b:Nat
 t:TypeId
 pre:List Value
 post:List Value
structure Fr(w:World)(F:Fb)(v u:Value)(L:Nat)(ns:List Int):Prop where
 blk:w.heap[F.b]?=some (.cells (F.pre++v::u::F.post).toArray F.t (0,0))
 ht:F.t≠3
 own:OwnsI w v ns
 pls:∃ps,ps.length=L/\OwnsI w u ps/\Pls ns ps
 ap:∀k,v.ownBlock=some k->u.ownBlock≠some k
def zbe9{w:World}{e:TypeId}{size:Nat}{v:Value}{n:Nat}{xs:List Value}(h:w.ownsRow 0 e size v n xs){k:Nat}(u:v.ownBlock=some k):∃cur,w.heap[k]?=some (.cells cur e (0,0)):=by
 rcases h.2 with⟨rfl,_⟩|⟨g,cap,cur,rfl,_,A,_⟩
 .cases u
 .simp only[Value.ownBlock,Option.some.injEq]at u;subst u;exact⟨cur,A⟩
def zbo9{k:IntKind}{e:TypeId}{w:World}{v:Value}{xs:List Int}(h:Owns k e w v xs){b:Nat}{A:Array Value}{t:TypeId}(u:w.heap[b]?=some (.cells A t (0,0)))(H:t≠e){j:Nat}(hj:v.ownBlock=some j):j≠b:=by intro e;subst e;obtain⟨c1,E⟩:=zbe9 (w:=w) h hj;rw[E]at u;simp at u;exact H u.2.symm
section
variable {w:World} {F:Fb} {v u:Value} {L:Nat} {ns:List Int}
def Fr.c0(H:Fr w F v u L ns):w.cell? ⟨F.b,F.pre.length,none⟩=some v:=by rw[cell_of_row w F.b F.pre.length _ _ (0,0) H.blk];simp
def Fr.c1(H:Fr w F v u L ns):w.cell? ⟨F.b,F.pre.length+1,none⟩=some u:=by rw[cell_of_row w F.b (F.pre.length+1) _ _ (0,0) H.blk];simp
def Fr.fz(H:Fr w F v u L ns)(i:Nat):w.frozen? ⟨F.b,i,none⟩=false:=frozen_of_row w F.b i _ _ H.blk
def Fr.lt(H:Fr w F v u L ns):F.b<w.heap.size:=(zd0.1 H.blk).1
def Fr.ne(H:Fr w F v u L ns){k:Nat}(A:v.ownBlock=some k):k≠F.b:=zbo9 H.own H.blk H.ht A
def Fr.neu(H:Fr w F v u L ns){k:Nat}(A:u.ownBlock=some k):k≠F.b:=by obtain⟨I,_,E,_⟩:=H.pls;exact zbo9 E H.blk H.ht A
def Fr.tch{S:Nat->Prop}{w':World}(H:Fr w F v u L ns)(A:Tch S w w')(E:¬S F.b)(hv:∀k,v.ownBlock=some k->¬S k)(Q:∀k,u.ownBlock=some k->¬S k):Fr w' F v u L ns:=by obtain⟨T,I,K,O⟩:=H.pls;exact⟨by rw[A.block F.b H.lt E];exact H.blk,H.ht,H.own.tch A hv,⟨T,I,K.tch A Q,O⟩,H.ap⟩
def Fr.still(H:Fr w F v u L ns){w':World}(A:Tch (λ _=>False) w w'):Fr w' F v u L ns:=H.tch A (λ e=>e) (λ _ _ e=>e) (λ _ _ e=>e)
def Fr.len(H:Fr w F v u L ns):∃a cap,v=.slice a ns.length cap:=by obtain⟨a,cap,e,_⟩:=H.own.rd;exact⟨a,cap,e⟩
def Fs(F:Fb)(v u:Value)(k:Nat):Prop:=k=F.b\/v.ownBlock=some k\/u.ownBlock=some k
end
abbrev fp(F:Fb):Value:=.pointer (some ⟨F.b,F.pre.length,none⟩)
def zdl9(b o:Nat)(a:Option Addr)(n cap:Nat)(w:World)(u:w.cell? ⟨b,o,none⟩=some (.slice a n cap)):
 Calls Tryz.prog 50 #[.pointer (some ⟨b,o,none⟩)] w λ e w'=>e=.returned (.int .i64 n)/\w'=w:=by
 go_enter Tryz.func50,Tryz.ntmps50
 go_wp2_with fail;go_ret;exact⟨rfl,rfl⟩
def zad9(F:Fb)(v u:Value)(L:Nat)(ns:List Int)(i j:Nat)(x y:Int)(b:Bool)(w:World)(H:Fr w F v u L ns)(hi:i<ns.length)(hj:j<ns.length)(hx:x=i)(hy:y=j)(O:decide (G ns i<G ns j)=b):
 Calls Tryz.prog 214 #[fp F,.int .i64 x,.int .i64 y] w λ e w'=>e=.returned (.bool b)/\Fr w' F v u L ns/\Tch (λ _=>False) w w':=by
 subst hx;subst hy;have T:=za0 H;obtain⟨g,cap,rfl,_,a1,a2,E,_⟩:=H.own.shape (by omega);have c0:=E i hi;have d0:=E j hj;have A:=H.c0;obtain⟨X,I⟩:=exH (ns.getD i 0);obtain⟨Y,K⟩:=exH (ns.getD j 0);obtain⟨m,hm⟩:=exH ns.length;have Q:Hid (decide (X<Y)=b):=by show _=_;rw[<-O];exact decide_eq_decide.2 (by unfold G;rw[I.o,K.o])
 rw[I.o]at c0;rw[K.o]at d0;rw[hm.o]at hi hj a1 A;clear O;obtain⟨fb,ft,a0,a3⟩:=F;simp only[fp]at A |-
 obtain⟨o,ho⟩:=exH a0.length;rw[ho.o]at A |-
 clear E H;unfold maxLen at a2
 go_enter Tryz.func214,Tryz.ntmps214
 go_wp2_with fail;go_quiet (fail);go_wp2_with fail;go_ret;exact⟨by have:=Q.o;subst this;rfl,T.o.still ⟨rfl,rfl,rfl,zn6 _,λ _ _ _=>rfl⟩,⟨rfl,rfl,rfl,zn6 _,λ _ _ _=>rfl⟩⟩
def Fr.swapped{w w':World}{F:Fb}{g m cap q m2 u L:Nat}{ns ps:List Int}{i j X Y:Nat}(H:Fr w F (.slice (some ⟨g,0,none⟩) m cap) (.slice (some ⟨q,0,none⟩) m2 u) L ns)
 (a1:OwnsI w (.slice (some ⟨q,0,none⟩) m2 u) ps) (a0:ps.length=L) (a2:Pls ns ps) (hi:i<ns.length) (hj:j<ns.length) (hX:G ns i=X) (hY:G ns j=Y)
 (E:w'.heap=((((w.setCell ⟨g,i,none⟩ (.int .i64 Y)).setCell ⟨g,j,none⟩ (.int .i64 X)).setCell ⟨q,Y,none⟩ (.int .i64 i)).setCell ⟨q,X,none⟩ (.int .i64 j)).heap) (ho:w'.os=w.os) (ht:w'.tape=w.tape) (hu:w'.output=w.output):
 Fr w' F (.slice (some ⟨g,0,none⟩) m cap) (.slice (some ⟨q,0,none⟩) m2 u) L (swp ns i j)/\Tch (λ k=>(Value.slice (some ⟨g,0,none⟩) m cap).ownBlock=some k\/(Value.slice (some ⟨q,0,none⟩) m2 u).ownBlock=some k) w w':=by
 have gb:g≠F.b:=H.ne rfl;have qb:q≠F.b:=H.neu rfl;have Q:g≠q:=λ e=>H.ap g rfl (by rw[e];rfl);have K:Tch (λ k=>k=g) w ((w.setCell ⟨g,i,none⟩ (.int .i64 Y)).setCell ⟨g,j,none⟩ (.int .i64 X)):=Tch.setCell (Tch.setCell (Tch.refl (λ k=>k=g) w) (p:=⟨g,i,none⟩) (λ _=>rfl) _) (p:=⟨g,j,none⟩) (λ _=>rfl) _;have O1:OwnsI ((w.setCell ⟨g,i,none⟩ (.int .i64 Y)).setCell ⟨g,j,none⟩ (.int .i64 X)) (.slice (some ⟨g,0,none⟩) m cap) (swp ns i j):=by unfold swp;rw[hX,hY];exact(H.own.set i Y).set j X
 have P1:=a1.tch K (λ k A e=>Q (by cases A;exact e.symm));generalize hW:(w.setCell ⟨g,i,none⟩ (.int .i64 Y)).setCell ⟨g,j,none⟩ (.int .i64 X)=W at *
 have O:Tch (λ k=>k=q) W ((W.setCell ⟨q,Y,none⟩ (.int .i64 i)).setCell ⟨q,X,none⟩ (.int .i64 j)):=Tch.setCell (Tch.setCell (Tch.refl (λ k=>k=q) W) (p:=⟨q,Y,none⟩) (λ _=>rfl) _) (p:=⟨q,X,none⟩) (λ _=>rfl) _;have P2:OwnsI ((W.setCell ⟨q,Y,none⟩ (.int .i64 i)).setCell ⟨q,X,none⟩ (.int .i64 j)) (.slice (some ⟨q,0,none⟩) m2 u) ((ps.set Y i).set X j):=(P1.set Y i).set X j;have O2:=O1.tch O (λ k A e=>Q (by cases A;exact e));have T:Tch (λ k=>(Value.slice (some ⟨g,0,none⟩) m cap).ownBlock=some k\/(Value.slice (some ⟨q,0,none⟩) m2 u).ownBlock=some k) w ((W.setCell ⟨q,Y,none⟩ (.int .i64 i)).setCell ⟨q,X,none⟩ (.int .i64 j)):=
  (K.mono (λ k _ e=>.inl (by rw[e];rfl))).trans O (λ k _ e=>.inr (by rw[e];rfl))
 have I:Tch (λ k=>(Value.slice (some ⟨g,0,none⟩) m cap).ownBlock=some k\/(Value.slice (some ⟨q,0,none⟩) m2 u).ownBlock=some k) w w':=
  ⟨ho,ht,hu,by rw[E];exact T.size,λ k A hn=>by rw[E];exact T.block k A hn⟩
 have Z:Tch (λ _=>False) ((W.setCell ⟨q,Y,none⟩ (.int .i64 i)).setCell ⟨q,X,none⟩ (.int .i64 j)) w':=⟨by rw[ho];exact T.os.symm,by rw[ht];exact T.tape.symm,by rw[hu];exact T.output.symm,by rw[E];exact zn6 _,λ k _ _=>by rw[E]⟩
 refine⟨⟨?_,H.ht,O2.tch Z (λ _ _ e=>e),⟨_,by simpa using a0,P2.tch Z (λ _ _ e=>e),?_⟩,H.ap⟩,I⟩
 .rw[I.block F.b H.lt (λ e=>by rcases e with e|e<;>simp only[Value.ownBlock,Option.some.injEq]at e<;>omega)];exact H.blk
 .have:=a2.swap hi hj;rw[hX,hY]at this;exact this
def zcc9(F:Fb)(v u:Value)(L:Nat)(ns:List Int)(i j:Nat)(x y:Int)(w:World)(H:Fr w F v u L ns)(hi:i<ns.length)(hj:j<ns.length)(hx:x=i)(hy:y=j):
 Calls Tryz.prog 217 #[fp F,.int .i64 x,.int .i64 y] w λ e w'=>e=.returned (.tuple #[])/\Fr w' F v u L (swp ns i j)/\Tch (λ k=>v.ownBlock=some k\/u.ownBlock=some k) w w':=by
 subst hx;subst hy;have HH:=za0 H;obtain⟨E,ab,a6,O⟩:=H.pls;obtain⟨i0,i1,i2⟩:=O i hi;obtain⟨j0,j1,j2⟩:=O j hj;have a7:=za0 a6;have Q:Hid (Pls ns E):=O;obtain⟨g,cap,rfl,hg,ad,ah,hc,fz⟩:=H.own.shape (by omega);obtain⟨q,al,rfl,hq,ae,ai,a5,a1⟩:=a6.shape (by omega);have c0:=hc i hi;have d0:=hc j hj;have T:=H.c0;have a0:=H.c1;have gb:=H.ne rfl;have qb:=H.neu rfl;have gq:g≠q:=λ e=>H.ap g rfl (by rw[e];rfl);obtain⟨X,hX⟩:∃X:Nat,Hid ((ns.getD i 0).toNat=X):=⟨_,rfl⟩
 obtain⟨Y,hY⟩:∃Y:Nat,Hid ((ns.getD j 0).toNat=Y):=⟨_,rfl⟩
 have a2:ns.getD i 0=(X:Int):=by have:=hX.o;have:(0:Int)<=ns.getD i 0:=i0;omega
 have a4:ns.getD j 0=(Y:Int):=by have:=hY.o;have:(0:Int)<=ns.getD j 0:=j0;omega
 have a3:X<E.length:=by rw[<-hX.o];exact i1
 have a8:Y<E.length:=by rw[<-hY.o];exact j1
 have cX:=a5 X a3;have cY:=a5 Y a8;obtain⟨x0,aj⟩:=exH (E.getD X 0);obtain⟨y0,ak⟩:=exH (E.getD Y 0);rw[aj.o]at cX;rw[ak.o]at cY;have fi:=fz i;have fj:=fz j;have fX:=a1 X;have fY:=a1 Y;rw[a2]at c0;rw[a4]at d0;have I:Hid (G ns i=X):=a2;have K:Hid (G ns j=Y):=a4;obtain⟨m,hm⟩:=exH ns.length;obtain⟨m2,ag⟩:=exH E.length;have af:=hi;have aa:=hj;rw[hm.o]at af aa ad T;rw[ag.o]at a3 a8 ae a0;have A:Hid (i<ns.length/\j<ns.length):=⟨hi,hj⟩
 have HL:=za0 ab;obtain⟨fb,ft,ac,am⟩:=F;simp only[fp]at T a0 gb qb |-
 obtain⟨o,ho⟩:=exH ac.length;rw[ho.o]at T a0 |-
 unfold maxLen at ah ai;clear hc a5 fz a1 H O a6 a2 a4 i0 i1 i2 j0 j1 j2 hX hY hi hj ab;by_cases a9:i=j
 .subst a9;have e:Y=X:=by have:=I.o.symm.trans K.o;omega
  subst e;clear aa d0 fj fX a3 cX
  go_enter Tryz.func217,Tryz.ntmps217
  go_wp2_with fail;go_quiet (fail);go_wp2_with fail
  go_region
  go_wp2_with fail
  go_region
  go_wp2_with fail
  go_end0
  exact⟨rfl,HH.o.swapped a7.o HL.o Q.o A.o.1 A.o.2 I.o K.o rfl rfl rfl rfl⟩
 .have an:X≠Y:=λ e=>a9 (Q.o.inj A.o.1 A.o.2 (by rw[I.o,K.o,e]))
  go_enter Tryz.func217,Tryz.ntmps217
  go_wp2_with fail;go_quiet (fail);go_wp2_with fail
  go_region
  go_wp2_with fail
  go_region
  go_wp2_with fail
  go_end0
  exact⟨rfl,HH.o.swapped a7.o HL.o Q.o A.o.1 A.o.2 I.o K.o rfl rfl rfl rfl⟩
abbrev hv(F:Fb):Value:=.iface 151 (fp F)
theorem zoh9(a:Addr)(w:World):(method 379 151 (.pointer (some a)) "Len").run Tryz.prog w=.ok (50,.pointer (some a)) w:=by kernel_rfl
theorem zae9(a:Addr)(w:World):(method 379 151 (.pointer (some a)) "Less").run Tryz.prog w=.ok (214,.pointer (some a)) w:=by kernel_rfl
theorem zce9(a:Addr)(w:World):(method 379 151 (.pointer (some a)) "Swap").run Tryz.prog w=.ok (217,.pointer (some a)) w:=by kernel_rfl
theorem zvg9(a:Addr)(w:World):(method 379 151 (.pointer (some a)) "Pop").run Tryz.prog w=.ok (215,.pointer (some a)) w:=by kernel_rfl
theorem zrj9(a:Addr)(w:World):(method 379 151 (.pointer (some a)) "Push").run Tryz.prog w=.ok (216,.pointer (some a)) w:=by kernel_rfl
def DnR(e:Ending)(qs:List Int)(n i0:Nat):Prop:=(e=.returned (.bool true)/\Heap qs n)\/(e=.returned (.bool false)/\Ux qs n i0)
def dnR_of{ps A:List Int}{n u k:Nat}{b:Bool}(h:Dn ps A n u k)(K:∀c,Ch k c->c<n->G A k<=G A c)(I:b=decide (u<k)):DnR (.returned (.bool b)) A n u:=by
 obtain⟨E,H⟩:=h.stop K;subst I;by_cases e:u<k
 .left;exact⟨by simp[e],E e⟩
 .right;exact⟨by simp[e],H e⟩
def Ah.lt_of_dec{a b:Int}(h:decide (a<b)=true):a<b:=of_decide_eq_true h
def Ah.le_of_dec{a b:Int}(h:decide (a<b)=false):b<=a:=by have:=of_decide_eq_false h;omega
def zuc9(F:Fb)(v u:Value)(L:Nat)(ps:List Int)(i0 n:Nat)(w:World)(H:Fr w F v u L ps)(hn:n<=ps.length)(hl:ps.length<=100000)(hi:i0<=n)(hh:Hx ps n i0):
 Calls Tryz.prog 119 #[hv F,.int .i64 i0,.int .i64 n] w λ e w'=>∃A,DnR e A n i0/\Fr w' F v u L A/\A.Perm ps/\(∀k,n<=k->G A k=G ps k)/\Tch (λ k=>v.ownBlock=some k\/u.ownBlock=some k) w w':=by
 have HH:=za0 H;have HD:=za0 (Dn.start hh hn);clear H hh
 go_enter Tryz.func119,Tryz.ntmps119
 go_wp2_with fail
 go_loopw [7] (λ i wr=>∃(k:Nat)(A:List Int),k<=n/\i0<=k/\i=.int .i64 k/\Hid (Fr wr F v u L A)/\Hid (Dn ps A n i0 k)/\Hid (Tch (λ k=>v.ownBlock=some k\/u.ownBlock=some k) w wr)) (λ i _=>n-(intOf i).toNat)
 case atStart=>exact⟨i0,ps,hi,zn6 _,rfl,HH,HD,Tch.refl _ _⟩
 case round=>
  obtain⟨k,A,hk,ac,rfl,HP,Q,HT⟩:=hrel;clear HH HD;have ab:=Q.o.perm.length_eq;have K:=za0 ab;clear ab;by_cases h1:2*k+1<n
  .by_cases h2:2*k+2<n
   .cases hb1:decide (G A (2*k+2)<G A (2*k+1))with
    | false=>
     have a7:=za0 hb1;clear hb1;(have HM:Hid (∀c,Ch k c->c<n->G A (2*k+1)<=G A c):=λ c hc a4=>by rcases hc with rfl|rfl;(· exact Int.le_refl _);(· exact Ah.le_of_dec a7.o));have O:=zae9 ⟨F.b,F.pre.length,none⟩ wr;go_wp2_with fail;refine(zad9 F v u L A (2*k+2) (2*k+1) _ _ false wr HP.o (by rw[K.o];omega) (by rw[K.o];omega) (by omega) (by omega) a7.o).mono ?_;rintro e w1 ⟨rfl,E,I⟩;have a2:=za0 E;have a3:Hid (Tch (λ k=>v.ownBlock=some k\/u.ownBlock=some k) w w1):=HT.o.trans (S':=λ _=>False) I (λ _ _ e=>e.elim);clear E I O HP HT;cases hb2:decide (G A (2*k+1)<G A k)with
     | false=>have T:=za0 hb2;clear hb2;have O:=zae9 ⟨F.b,F.pre.length,none⟩ w1;go_wp2_with fail;refine(zad9 F v u L A (2*k+1) (k) _ _ false w1 a2.o (by rw[K.o];omega) (by rw[K.o];omega) (by omega) (by omega) T.o).mono ?_;rintro e Y ⟨rfl,E,I⟩;have a0:=za0 E;have a1:Hid (Tch (λ k=>v.ownBlock=some k\/u.ownBlock=some k) w Y):=a3.o.trans (S':=λ _=>False) I (λ _ _ e=>e.elim);clear E I O a2 a3;have HF:Hid (∀c,Ch k c->c<n->G A k<=G A c):=λ c hc a4=>Int.le_trans (Ah.le_of_dec T.o) (HM.o c hc a4);go_wp2_with fail;go_ret;exact⟨A,dnR_of Q.o HF.o (by simp),a0.o,Q.o.perm,Q.o.rest,a1.o⟩
     | true=>
      have T:=za0 hb2;clear hb2;have O:=zae9 ⟨F.b,F.pre.length,none⟩ w1;go_wp2_with fail;refine(zad9 F v u L A (2*k+1) (k) _ _ true w1 a2.o (by rw[K.o];omega) (by rw[K.o];omega) (by omega) (by omega) T.o).mono ?_;rintro e Y ⟨rfl,E,I⟩;have a0:=za0 E;have a1:Hid (Tch (λ k=>v.ownBlock=some k\/u.ownBlock=some k) w Y):=a3.o.trans (S':=λ _=>False) I (λ _ _ e=>e.elim);clear E I O a2 a3;have O:=zce9 ⟨F.b,F.pre.length,none⟩ Y;go_wp2_with fail;refine(zcc9 F v u L A k (2*k+1) _ _ Y a0.o (by rw[K.o];omega) (by rw[K.o];omega) (by omega) (by omega)).mono ?_;rintro e w3 ⟨rfl,a5,a6⟩;have a9:=za0 a5;have aa:Hid (Tch (λ k=>v.ownBlock=some k\/u.ownBlock=some k) w w3):=a1.o.trans a6 (λ _ _ e=>e)
      have a8:=za0 (Q.o.sink (by unfold Ch;omega) (by omega) HM.o (Ah.lt_of_dec T.o));clear a5 a6 O a0 a1 Q;go_wp2_with fail
      go_roundw
      (case rel=>exact⟨2*k+1,swp A k (2*k+1),by omega,by omega,by go_num,a9,a8,aa⟩);case measure=>simp[intOf];omega
    | true=>
     have a7:=za0 hb1;clear hb1;(have HM:Hid (∀c,Ch k c->c<n->G A (2*k+2)<=G A c):=λ c hc a4=>by rcases hc with rfl|rfl;(· exact Int.le_of_lt (Ah.lt_of_dec a7.o));(· exact Int.le_refl _));have O:=zae9 ⟨F.b,F.pre.length,none⟩ wr;go_wp2_with fail;refine(zad9 F v u L A (2*k+2) (2*k+1) _ _ true wr HP.o (by rw[K.o];omega) (by rw[K.o];omega) (by omega) (by omega) a7.o).mono ?_;rintro e w1 ⟨rfl,E,I⟩;have a2:=za0 E;have a3:Hid (Tch (λ k=>v.ownBlock=some k\/u.ownBlock=some k) w w1):=HT.o.trans (S':=λ _=>False) I (λ _ _ e=>e.elim);clear E I O HP HT;cases hb2:decide (G A (2*k+2)<G A k)with
     | false=>have T:=za0 hb2;clear hb2;have O:=zae9 ⟨F.b,F.pre.length,none⟩ w1;go_wp2_with fail;refine(zad9 F v u L A (2*k+2) (k) _ _ false w1 a2.o (by rw[K.o];omega) (by rw[K.o];omega) (by omega) (by omega) T.o).mono ?_;rintro e Y ⟨rfl,E,I⟩;have a0:=za0 E;have a1:Hid (Tch (λ k=>v.ownBlock=some k\/u.ownBlock=some k) w Y):=a3.o.trans (S':=λ _=>False) I (λ _ _ e=>e.elim);clear E I O a2 a3;have HF:Hid (∀c,Ch k c->c<n->G A k<=G A c):=λ c hc a4=>Int.le_trans (Ah.le_of_dec T.o) (HM.o c hc a4);go_wp2_with fail;go_ret;exact⟨A,dnR_of Q.o HF.o (by simp),a0.o,Q.o.perm,Q.o.rest,a1.o⟩
     | true=>
      have T:=za0 hb2;clear hb2;have O:=zae9 ⟨F.b,F.pre.length,none⟩ w1;go_wp2_with fail;refine(zad9 F v u L A (2*k+2) (k) _ _ true w1 a2.o (by rw[K.o];omega) (by rw[K.o];omega) (by omega) (by omega) T.o).mono ?_;rintro e Y ⟨rfl,E,I⟩;have a0:=za0 E;have a1:Hid (Tch (λ k=>v.ownBlock=some k\/u.ownBlock=some k) w Y):=a3.o.trans (S':=λ _=>False) I (λ _ _ e=>e.elim);clear E I O a2 a3;have O:=zce9 ⟨F.b,F.pre.length,none⟩ Y;go_wp2_with fail;refine(zcc9 F v u L A k (2*k+2) _ _ Y a0.o (by rw[K.o];omega) (by rw[K.o];omega) (by omega) (by omega)).mono ?_;rintro e w3 ⟨rfl,a5,a6⟩;have a9:=za0 a5;have aa:Hid (Tch (λ k=>v.ownBlock=some k\/u.ownBlock=some k) w w3):=a1.o.trans a6 (λ _ _ e=>e)
      have a8:=za0 (Q.o.sink (by unfold Ch;omega) (by omega) HM.o (Ah.lt_of_dec T.o));clear a5 a6 O a0 a1 Q;go_wp2_with fail
      go_roundw
      (case rel=>exact⟨2*k+2,swp A k (2*k+2),by omega,by omega,by go_num,a9,a8,aa⟩);case measure=>simp[intOf];omega
   .have HM:Hid (∀c,Ch k c->c<n->G A (2*k+1)<=G A c):=λ c hc a4=>by rcases hc with rfl|rfl;(· exact Int.le_refl _);(· omega)
    cases hb2:decide (G A (2*k+1)<G A k)with
    | false=>have T:=za0 hb2;clear hb2;have O:=zae9 ⟨F.b,F.pre.length,none⟩ wr;go_wp2_with fail;refine(zad9 F v u L A (2*k+1) (k) _ _ false wr HP.o (by rw[K.o];omega) (by rw[K.o];omega) (by omega) (by omega) T.o).mono ?_;rintro e Y ⟨rfl,E,I⟩;have a0:=za0 E;have a1:Hid (Tch (λ k=>v.ownBlock=some k\/u.ownBlock=some k) w Y):=HT.o.trans (S':=λ _=>False) I (λ _ _ e=>e.elim);clear E I O HP HT;have HF:Hid (∀c,Ch k c->c<n->G A k<=G A c):=λ c hc a4=>Int.le_trans (Ah.le_of_dec T.o) (HM.o c hc a4);go_wp2_with fail;go_ret;exact⟨A,dnR_of Q.o HF.o (by simp),a0.o,Q.o.perm,Q.o.rest,a1.o⟩
    | true=>
     have T:=za0 hb2;clear hb2;have O:=zae9 ⟨F.b,F.pre.length,none⟩ wr;go_wp2_with fail;refine(zad9 F v u L A (2*k+1) (k) _ _ true wr HP.o (by rw[K.o];omega) (by rw[K.o];omega) (by omega) (by omega) T.o).mono ?_;rintro e Y ⟨rfl,E,I⟩;have a0:=za0 E;have a1:Hid (Tch (λ k=>v.ownBlock=some k\/u.ownBlock=some k) w Y):=HT.o.trans (S':=λ _=>False) I (λ _ _ e=>e.elim);clear E I O HP HT;have O:=zce9 ⟨F.b,F.pre.length,none⟩ Y;go_wp2_with fail;refine(zcc9 F v u L A k (2*k+1) _ _ Y a0.o (by rw[K.o];omega) (by rw[K.o];omega) (by omega) (by omega)).mono ?_;rintro e w3 ⟨rfl,a5,a6⟩;have a9:=za0 a5;have aa:Hid (Tch (λ k=>v.ownBlock=some k\/u.ownBlock=some k) w w3):=a1.o.trans a6 (λ _ _ e=>e)
     have a8:=za0 (Q.o.sink (by unfold Ch;omega) (by omega) HM.o (Ah.lt_of_dec T.o));clear a5 a6 O a0 a1 Q;go_wp2_with fail
     go_roundw
     (case rel=>exact⟨2*k+1,swp A k (2*k+1),by omega,by omega,by go_num,a9,a8,aa⟩);case measure=>simp[intOf];omega
  .have HF:Hid (∀c,Ch k c->c<n->G A k<=G A c):=λ c hc a4=>by unfold Ch at hc;omega
   go_wp2_with fail;go_ret;exact⟨A,dnR_of Q.o HF.o (by simp),HP.o,Q.o.perm,Q.o.rest,HT.o⟩
def up_any(F:Fb)(v u:Value)(L:Nat)(ps:List Int)(n j0:Nat)(w:World)(H:Fr w F v u L ps)(hl:ps.length<=100000)(hh:Up ps ps n j0):
 Calls Tryz.prog 120 #[hv F,.int .i64 j0] w λ e w'=>e=.returned (.tuple #[])/\∃A,Fr w' F v u L A/\A.Perm ps/\(∀k,n<=k->G A k=G ps k)/\Heap A n/\Tch (λ k=>v.ownBlock=some k\/u.ownBlock=some k) w w':=by
 have HH:=za0 H;have HD:=za0 hh;have a8:j0<=n:=by rcases hh.jn with e|e<;>omega
 have ab:=hh.nl;clear H hh
 go_enter Tryz.func120,Tryz.ntmps120
 go_wp2_with fail
 go_loopw [1] (λ i wr=>∃(k:Nat)(A:List Int),k<=n/\i=.int .i64 k/\Hid (Fr wr F v u L A)/\Hid (Up ps A n k)/\Hid (Tch (λ k=>v.ownBlock=some k\/u.ownBlock=some k) w wr)) (λ i _=>(intOf i).toNat)
 case atStart=>exact⟨j0,ps,a8,rfl,HH,HD,Tch.refl _ _⟩
 case round=>
  obtain⟨k,A,hk,rfl,O,E,Q⟩:=hrel;clear HH HD;have I:=za0 E.o.perm.length_eq;by_cases h0:k=0
  .subst h0;have HF:=za0 E.o.top;go_wp2_with fail
   go_end0
   exact⟨rfl,A,O.o,E.o.perm,E.o.rest,HF.o,Q.o⟩
  .have a9:k<n:=by rcases E.o.jn with e|e<;>omega
   obtain⟨p,hp,ac⟩:∃p:Nat,Ch p k/\((k:Int)-1).tdiv 2=p:=⟨(k-1) / 2,by unfold Ch;omega,by rw[show((k:Int)-1)=((k-1:Nat):Int) by omega];exact(Int.ofNat_tdiv _ _).symm⟩
   have HC:=za0 hp;(have ad:p<k:=by unfold Ch at hp;omega);(have aa:((p:Int)==(k:Int))=false:=by simp;omega);clear hp;cases hb:decide (G A k<G A p)with
   | false=>
    have K:=za0 hb;clear hb;have T:=zae9 ⟨F.b,F.pre.length,none⟩ wr;go_wp2_with fail;refine(zad9 F v u L A k p _ _ false wr O.o (by rw[I.o];omega) (by rw[I.o];omega) (by omega) (by omega) K.o).mono ?_;rintro e w2 ⟨rfl,Y,a0⟩;have a1:=za0 Y;have a2:Hid (Tch (λ k=>v.ownBlock=some k\/u.ownBlock=some k) w w2):=Q.o.trans (S':=λ _=>False) a0 (λ _ _ e=>e.elim);clear Y a0 T O Q;have HF:=za0 (E.o.stop HC.o (of_decide_eq_false K.o));go_wp2_with fail
    go_end0
    exact⟨rfl,A,a1.o,E.o.perm,E.o.rest,HF.o,a2.o⟩
   | true=>
    have K:=za0 hb;clear hb;have T:=zae9 ⟨F.b,F.pre.length,none⟩ wr;go_wp2_with fail;refine(zad9 F v u L A k p _ _ true wr O.o (by rw[I.o];omega) (by rw[I.o];omega) (by omega) (by omega) K.o).mono ?_;rintro e w2 ⟨rfl,Y,a0⟩;have a1:=za0 Y;have a2:Hid (Tch (λ k=>v.ownBlock=some k\/u.ownBlock=some k) w w2):=Q.o.trans (S':=λ _=>False) a0 (λ _ _ e=>e.elim);clear Y a0 T O Q;have T:=zce9 ⟨F.b,F.pre.length,none⟩ w2;go_wp2_with fail;refine(zcc9 F v u L A p k _ _ w2 a1.o (by rw[I.o];omega) (by rw[I.o];omega) (by omega) (by omega)).mono ?_;rintro e w3 ⟨rfl,a3,a4⟩;have a6:=za0 a3;have a7:Hid (Tch (λ k=>v.ownBlock=some k\/u.ownBlock=some k) w w3):=a2.o.trans a4 (λ _ _ e=>e)
    have a5:=za0 (E.o.rise HC.o (of_decide_eq_true K.o));clear a3 a4 T a1 a2 E;go_wp2_with fail
    go_roundw
    (case rel=>exact⟨p,swp A p k,by omega,by first|rfl|go_num,a6,a5,a7⟩);case measure=>simp[intOf];omega
def zys9(pre post:List Value)(v u x:Value):((pre++v::u::post).toArray).setIfInBounds pre.length x=(pre++x::u::post).toArray:=by simp
def Fr.put{w:World}{F:Fb}{v A u:Value}{L:Nat}{ns K ps:List Int}(E:w.heap[F.b]?=some (.cells (F.pre++v::u::F.post).toArray F.t (0,0)))(I:F.t≠3)
 (O:OwnsI w A K) (hl:ps.length=L) (Q:OwnsI w u ps) (a0:Pls K ps) (Y:∀k,A.ownBlock=some k->u.ownBlock≠some k):Fr (w.setCell ⟨F.b,F.pre.length,none⟩ A) F A u L K:=by
 have T:Tch (λ k=>k=F.b) w (w.setCell ⟨F.b,F.pre.length,none⟩ A):=Tch.setCell (Tch.refl (λ k=>k=F.b) w) (p:=⟨F.b,F.pre.length,none⟩) (λ _=>rfl) _;refine⟨?_,I,O.tch T (λ k H e=>zbo9 O E I H e),⟨ps,hl,Q.tch T (λ k H e=>zbo9 Q E I H e),a0⟩,Y⟩;rw[heap_setCell_same w F.b F.pre.length _ _ _ E,zys9]
def zqq9(F:Fb)(v u:Value)(L:Nat)(ns:List Int)(n:Nat)(w:World)(H:Fr w F v u L ns)(hn:n<L)(hm:(n:Int)∉ns)(hl:ns.length<=100000):
 Calls Tryz.prog 216 #[fp F,.iface 3 (.int .i64 n)] w λ e w'=>e=.returned (.tuple #[])/\
  ∃K,Fr w' F K u L (ns++[(n:Int)])/\(∀k,K.ownBlock=some k->v.ownBlock=some k\/w.heap.size<=k)/\Tch (Fs F v u) w w':=by
 have O:=za0 H;obtain⟨ps,au,ab,ai⟩:=H.pls;subst au;have al:=za0 ab;have am:=za0 (ai.push hn hm);obtain⟨q,Y,rfl,hq,ao,aq,af,ae⟩:=ab.shape (by omega);obtain⟨a,cap,rfl⟩:=H.len;have cX:=af n hn;obtain⟨x0,av⟩:=exH (ps.getD n 0);rw[av.o]at cX;have fX:=ae n;have ch:=H.c0;have a2:=H.c1;have fo:=H.fz F.pre.length;have qb:=H.neu rfl;have a0:=H.lt;obtain⟨m,E⟩:∃m,Hid (ns.length=m):=⟨_,rfl⟩
 obtain⟨m2,a1⟩:=exH ps.length;have ta:∀(w:World)(x:Int),(Instr.typeAssert (.iface 3 (.int .i64 x)) 20 3 false).run Tryz.prog w=.ok (.int .i64 x) w:=λ _ _=>by kernel_rfl
 have ar:=hn;rw[E.o]at ch hl;rw[a1.o]at a2 ao ar;have HN:=za0 hn;obtain⟨A,ft,a3,a8⟩:=F;simp only[fp]at ch a2 fo qb a0 |-
 obtain⟨o,ho⟩:=exH a3.length;rw[ho.o]at ch a2 fo |-
 unfold maxLen at aq;clear af ae H ai ab hn hm
 go_enter Tryz.func216,Tryz.ntmps216
 go_wp2_with fail
 go_region
 obtain⟨Q,a6⟩:=exH ((w.setCell ⟨q,n,none⟩ (.int .i64 m)).drew);rw[a6.o];have I:Hid (Tch (λ k=>k=q) w Q):=by rw[<-a6.o];exact Tch.drew (Tch.setCell (Tch.refl (λ k=>k=q) w) (p:=⟨q,n,none⟩) (λ _=>rfl) _)
 have P1:Hid (OwnsI Q (.slice (some ⟨q,0,none⟩) m2 Y) (ps.set n m)):=by rw[<-a6.o];have:=al.o.set n m;rw[a1.o]at this;exact this
 have O1:Hid (OwnsI Q (.slice a m cap) ns):=by have:=O.o.own.tch I.o (λ k T e=>O.o.ap k T (by rw[e];rfl));rw[E.o]at this;exact this
 have B1:Hid (Q.heap[A]?=some (.cells (a3++(.slice a m cap)::(.slice (some ⟨q,0,none⟩) m2 Y)::a8).toArray ft (0,0))):=by rw[I.o.block A a0 (λ e=>qb e.symm)];have:=O.o.blk;rw[E.o,a1.o]at this;exact this
 have ac:Q.cell? ⟨A,o,none⟩=some (.slice a m cap):=by rw[I.o.cell (p:=⟨A,o,none⟩) a0 (λ e=>qb e.symm)];exact ch
 have ad:Q.frozen? ⟨A,o,none⟩=false:=by rw[I.o.frozen (p:=⟨A,o,none⟩) a0 (λ e=>qb e.symm)];exact fo
 have aa:=zn1 a0 I.o.size;have HG:Hid (∀K w',OwnsI w' K (ns++[(n:Int)])->Grew Q w' (.slice a m cap) K->w'.cell? ⟨A,o,none⟩=some (.slice a m cap)/\w'.frozen? ⟨A,o,none⟩=false):=by
  intro K w' _ hg;have a4:¬(Value.slice a m cap).ownBlock=some A:=λ e=>by have:=O.o.ne (k:=A) (by rw[E.o];exact e);exact this rfl
  exact⟨by rw[hg.tch.cell (p:=⟨A,o,none⟩) aa a4];exact ac,by rw[hg.tch.frozen (p:=⟨A,o,none⟩) aa a4];exact ad⟩
 clear ch a2 fo cX fX;go_wp2_with(at_builtin;refine zcv9 _ rfl (.tmp 22) (.tmp 24) 56 rfl 3 .i64 8 elem64 _ ns rfl O1.o (n:Int) rfl (by rw[E.o];omega) (by rw[E.o];omega) ?_)
 intro K w' a5 a9;obtain⟨c',f'⟩:=HG.o K w' a5 a9;have OV:=za0 a5;have GV:=za0 a9;obtain⟨a',a7,ak,_⟩:=a5.rd;have ah:(ns++[(n:Int)]).length=m+1:=by simp[E.o]
 rw[ah]at ak;subst ak;clear a5 a9 ac ad ah;go_wp2_with fail
 go_end0
 have a4:¬(Value.slice a m cap).ownBlock=some A:=λ e=>by have:=O.o.ne (k:=A) (by rw[E.o];exact e);exact this rfl
 have aj:¬(Value.slice a m cap).ownBlock=some q:=λ e=>by have:=O.o.ap q (by rw[E.o];exact e);exact this rfl
 have B2:w'.heap[A]?=some (.cells (a3++(.slice a m cap)::(.slice (some ⟨q,0,none⟩) m2 Y)::a8).toArray ft (0,0)):=by rw[GV.o.tch.block A aa a4];exact B1.o
 have P2:OwnsI w' (.slice (some ⟨q,0,none⟩) m2 Y) (ps.set n ns.length):=by rw[E.o];exact P1.o.tch GV.o.tch (λ k T e=>aj (by cases T;exact e))
 have aw:=zn1 hq I.o.size;have ag:∀k,(Value.slice a' (m+1) a7).ownBlock=some k->(Value.slice a m cap).ownBlock=some k\/w.heap.size<=k:=λ k T=>by
  rcases GV.o.fresh k T with e|e
  .exact .inl e
  .exact .inr (zn2 I.o.size e)
 have an:∀k,(Value.slice a' (m+1) a7).ownBlock=some k->(Value.slice (some ⟨q,0,none⟩) m2 Y).ownBlock≠some k:=λ k T e=>by
  cases e;rcases ag _ T with e|e
  .exact aj e
  .exact absurd (show w.heap.size<=q from e) (by omega)
 refine⟨rfl,.slice a' (m+1) a7,?_,?_,?_⟩
 .rw[<-ho.o,a1.o];exact Fr.put (F:=⟨A,ft,a3,a8⟩) (ns:=ns) (v:=.slice a m cap) B2 O.o.ht OV.o (by simp[a1.o]) P2 am.o an
 .rw[E.o];exact ag
 .refine Tch.setCell ((I.o.mono (λ k _ e=>?_)).trans GV.o.tch (λ k _ e=>?_)) (p:=⟨A,o,none⟩) (λ _=>.inl rfl) _
  .exact .inr (.inr (by rw[e];rfl))
  .exact .inr (.inl (by rw[E.o];exact e))
def Owns.shrink{k:IntKind}{e:TypeId}{w:World}{g m cap:Nat}{xs:List Int}(h:Owns k e w (.slice (some ⟨g,0,none⟩) m cap) xs)(n:Nat)(hn:n<=xs.length):Owns k e w (.slice (some ⟨g,0,none⟩) n cap) (xs.take n):=by
 have A:=h;have O:(xs.take n).length=n:=by rw[zg0];omega
 unfold Owns;rw[O];refine⟨by simp;omega,?_⟩;rcases A.2 with⟨e,_⟩|⟨Y,T,u,e,E,K,a0,H,I,Q⟩
 .cases e
 .simp only[Value.slice.injEq,Option.some.injEq,Addr.mk.injEq,and_true]at e;obtain⟨rfl,rfl,rfl⟩:=e;refine .inr ⟨g,cap,u,rfl,E,K,by omega,H,I,?_⟩;rw[List.map_take,<-Q,zh1];congr 1;omega
def zuf9(F:Fb)(v u:Value)(L:Nat)(ns:List Int)(n:Nat)(w:World)(H:Fr w F v u L ns)(K:ns.length=n+1):
 Calls Tryz.prog 215 #[fp F] w λ e w'=>e=.returned (.iface 3 (.int .i64 (G ns n)))/\
  ∃v',Fr w' F v' u L (ns.take n)/\v'.ownBlock=v.ownBlock/\Tch (λ k=>k=F.b) w w':=by
 have A:=za0 H;obtain⟨g,cap,rfl,hg,a1,a2,T,fz⟩:=H.own.shape (by omega);have c0:=T n (by omega);have E:=H.c0;have O:=H.fz F.pre.length;have gb:=H.ne rfl;obtain⟨X,hX⟩:=exH (ns.getD n 0);simp only[G];rw[hX.o]at c0 |-
 have HN:=za0 K;rw[K]at E a1;obtain⟨I,ft,Q,a0⟩:=F;simp only[fp]at E O gb |-
 obtain⟨o,Y⟩:=exH Q.length;rw[Y.o]at E O |-
 unfold maxLen at a2;clear T fz H K
 go_enter Tryz.func215,Tryz.ntmps215
 go_wp2_with fail;go_ret;obtain⟨ps,a3,a4,a5⟩:=A.o.pls;refine⟨rfl,.slice (some ⟨g,0,none⟩) n cap,?_,rfl,Tch.setCell (Tch.refl (λ k=>k=I) w) (p:=⟨I,o,none⟩) (λ _=>rfl) _⟩;rw[<-Y.o];exact Fr.put (F:=⟨I,ft,Q,a0⟩) (ns:=ns) (ps:=ps) A.o.blk A.o.ht (A.o.own.shrink n (by rw[HN.o];omega)) a3 a4 (a5.take n) (λ k hk=>A.o.ap k hk)
def Fs.of{F:Fb}{v u:Value}{k:Nat}(h:v.ownBlock=some k\/u.ownBlock=some k):Fs F v u k:=.inr h
def zur9(F:Fb)(v u:Value)(L:Nat)(ns:List Int)(n:Nat)(w:World)(H:Fr w F v u L ns)(E:ns.length=n+1)(hl:ns.length<=100000)(hh:Heap ns ns.length):
 Calls Tryz.prog 180 #[hv F] w λ e w'=>e=.returned (.iface 3 (.int .i64 (G ns 0)))/\
  ∃I A,Fr w' F I u L A/\Heap A A.length/\ns.Perm (G ns 0::A)/\I.ownBlock=v.ownBlock/\Tch (Fs F v u) w w':=by
 have HH:=za0 H;have af:=za0 hh;obtain⟨X,O⟩:=exH (G ns 0);rw[O.o];obtain⟨a,cap,hv⟩:=H.len;have m0:=zoh9 ⟨F.b,F.pre.length,none⟩ w;have m1:=zce9 ⟨F.b,F.pre.length,none⟩ w;have ch:=H.c0;rw[E]at hv;subst hv;have a0:=za0 ch;clear H hh ch
 go_enter Tryz.func180,Tryz.ntmps180
 go_wp2_with fail;refine(zdl9 _ _ a (n+1) cap w a0.o).mono ?_;rintro e w1 ⟨rfl,rfl⟩;go_wp2_with fail;refine(zcc9 F _ u L ns 0 n _ _ w1 HH.o (by omega) (by omega) (by omega) (by omega)).mono ?_;rintro e w2 ⟨rfl,a6,ac⟩;have a1:=za0 a6;have a4:=za0 ac;have HF:=za0 (Hx.swap af.o E (zn7 _));have ab:(swp ns 0 n).length=n+1:=by rw[zbp9,E]
 have K:=za0 ab;clear a6 ac m0 m1 ab a0;go_wp2_with fail;refine(zuc9 F _ u L (swp ns 0 n) 0 n w2 a1.o (by rw[K.o];omega) (by rw[K.o];omega) (zn7 _) HF.o).mono ?_;rintro e Y ⟨A,Q,a7,T,aa,ad⟩;have a8:=zsa9 E (zn7 _) T aa;have a9:A.length=n+1:=by rw[T.length_eq,K.o]
 have a5:Heap A n:=by
  rcases Q with⟨_,h⟩|⟨_,h⟩
  .exact h
  .exact λ x c h2 h3=>h.1 x c (by unfold Ch at h2;omega) h2 h3
 obtain⟨bb,rfl⟩:∃bb,e=.returned (.bool bb):=by rcases Q with⟨e,_⟩|⟨e,_⟩<;>exact⟨_,e⟩
 have ag:=za0 a7;have a2:=za0 a8;have ah:Hid (Tch (λ k=>(Value.slice a (n+1) cap).ownBlock=some k\/u.ownBlock=some k) w1 Y):=a4.o.trans ad (λ _ _ e=>e);have ae:=za0 a5;have a3:=za0 a9;have m2:=zvg9 ⟨F.b,F.pre.length,none⟩ Y;clear a7 T aa a5 ad a8 a9 a1 a4 Q;go_wp2_with fail;refine(zuf9 F _ u L A n Y ag.o a3.o).mono ?_;rintro e w4 ⟨rfl,I,ai,ak,aj⟩;have hQ:=a2.o.1.trans O.o;rw[hQ];clear hQ;go_wp2_with fail;go_ret;refine⟨rfl,I,A.take n,ai,?_,by have:=a2.o.2;rw[O.o]at this;exact this,ak,(ah.o.mono (λ _ _ e=>Fs.of e)).trans aj (λ _ _ e=>.inl e)⟩;have e:(A.take n).length=n:=by rw[zg0,a3.o];omega
 rw[e];exact ae.o.take
def zqy9(F:Fb)(v u:Value)(L:Nat)(ns:List Int)(n:Nat)(w:World)(H:Fr w F v u L ns)(hn:n<L)(T:(n:Int)∉ns)(hl:ns.length<100000)(O:Heap ns ns.length):
 Calls Tryz.prog 132 #[hv F,.iface 3 (.int .i64 n)] w λ e w'=>e=.returned (.tuple #[])/\
  ∃v' A,Fr w' F v' u L A/\Heap A A.length/\A.Perm (ns++[(n:Int)])/\(∀k,v'.ownBlock=some k->v.ownBlock=some k\/w.heap.size<=k)/\Tch (Fs F v u) w w':=by
 have HH:=za0 H;have a2:=za0 O;have HM:=za0 T;have m0:=zrj9 ⟨F.b,F.pre.length,none⟩ w;clear H O T
 go_enter Tryz.func132,Tryz.ntmps132
 go_wp2_with fail;refine(zqq9 F v u L ns n w HH.o hn HM.o (by omega)).mono ?_;rintro e w1 ⟨rfl,v1,E,K,a0⟩;have a3:=za0 E;have I:=za0 K;have a4:=za0 a0;obtain⟨a,cap,hv⟩:=E.len;have Q:(ns++[(n:Int)]).length=ns.length+1:=by simp
 rw[Q]at hv;subst hv;have m1:=zoh9 ⟨F.b,F.pre.length,none⟩ w1;have a1:=za0 E.c0;clear E K a0 m0 Q;go_wp2_with fail;refine(zdl9 _ _ a (ns.length+1) cap w1 a1.o).mono ?_;rintro e w2 ⟨rfl,rfl⟩;go_wp2_with fail;refine(up_any F _ u L (ns++[(n:Int)]) (ns.length+1) ns.length _ a3.o (by simp;omega) (Up.push a2.o)).mono ?_;rintro e w3 ⟨rfl,A,a6,Y,_,a5,a7⟩;go_wp2_with fail
 go_end0
 have e:A.length=ns.length+1:=by rw[Y.length_eq];simp
 refine⟨rfl,_,A,a6,by rw[e];exact a5,Y,I.o,a4.o.trans a7 (λ i hi e=>?_)⟩;rcases e with e|e
 .rcases I.o i e with e|e
  .exact .inr (.inl e)
  .omega
 .exact .inr (.inr e)
def zsh9(F:Fb)(v u:Value)(L:Nat)(ns:List Int)(n:Nat)(w:World)(H:Fr w F v u L ns)(hn:n<L)(I:(n:Int)∉ns)(hl:ns.length<100000)(E:Heap ns ns.length):
 Calls Tryz.prog 98 #[fp F,.int .i64 n] w λ e w'=>e=.returned (.tuple #[])/\
  ∃K A,Fr w' F K u L A/\Heap A A.length/\A.Perm (ns++[(n:Int)])/\(∀k,K.ownBlock=some k->v.ownBlock=some k\/w.heap.size<=k)/\Tch (Fs F v u) w w':=by
 have O:=za0 H;have T:=za0 E;have Q:=za0 I;clear H E I
 go_enter Tryz.func98,Tryz.ntmps98
 go_wp2_with fail;refine(zqy9 F v u L ns n w O.o hn Q.o hl T.o).mono ?_;rintro e w1 ⟨rfl,v1,A,a1,a0,a2,Y,a3⟩;go_wp2_with fail
 go_end0
 exact⟨rfl,v1,A,a1,a0,a2,Y,a3⟩
def zhv9(F:Fb)(v u:Value)(L:Nat)(ns:List Int)(n:Nat)(w:World)(H:Fr w F v u L ns)(Y:ns.length=n+1)(hl:ns.length<=100000)(Q:Heap ns ns.length):
 Calls Tryz.prog 162 #[fp F] w λ e w'=>e=.returned (.int .i64 (G ns 0))/\
  ∃E A,Fr w' F E u L A/\Heap A A.length/\ns.Perm (G ns 0::A)/\E.ownBlock=v.ownBlock/\Tch (Fs F v u) w w':=by
 have HH:=za0 H;have a2:=za0 Q;have HN:=za0 Y;have ta:∀(w:World)(x:Int),(Instr.typeAssert (.iface 3 (.int .i64 x)) 20 3 false).run Tryz.prog w=.ok (.int .i64 x) w:=λ _ _=>by kernel_rfl
 clear H Q Y;obtain⟨X,K⟩:=exH (G ns 0);rw[K.o]
 go_enter Tryz.func162,Tryz.ntmps162
 go_wp2_with fail;refine(zur9 F v u L ns n w HH.o HN.o hl a2.o).mono ?_;rintro e w1 ⟨rfl,v1,A,a0,T,I,O,a1⟩;rw[K.o]at I |-
 have R:Hid (∃E A,Fr w1 F E u L A/\Heap A A.length/\ns.Perm (X::A)/\E.ownBlock=v.ownBlock/\Tch (Fs F v u) w w1):=⟨v1,A,a0,T,I,O,a1⟩
 clear a0 T I O a1;go_wp2_with fail;go_ret;exact⟨rfl,R.o⟩
abbrev OwnsS(w:World)(v:Value)(xs:List Int):Prop:=Owns .u8 131 w v xs
structure Pf(w:World)(M:Nat)(s:St)(vs v u:Value)(post:List Value)(ns:List Int):Prop where
 fr:Fr w ⟨M,109,[vs],post⟩ v u (s.lo+s.L.length) ns
 st:OwnsS w vs (sts s.lo s.L)
 heap:Heap ns ns.length
 ks:Ks 0 s ns
 top:s.lo+s.L.length<=65536
structure PmAt(w:World)(M:Nat)(s:St)(vs v u vb:Value)(ns bk:List Int):Prop where
 pf:Pf w M s vs v u [vb,.int .i64 s.as] ns
 bo:OwnsI w vb bk
 kb:Ks 2 s bk
 a1:∀k,vb.ownBlock=some k->v.ownBlock≠some k
 a2:∀k,vb.ownBlock=some k->u.ownBlock≠some k
 ok:Sok s
def Px(M:Nat)(vs v u vb:Value)(k:Nat):Prop:=k=M\/vs.ownBlock=some k\/v.ownBlock=some k\/u.ownBlock=some k\/vb.ownBlock=some k
def Pm(w:World)(M:Nat)(s:St)(X:Nat->Prop):Prop:=
 ∃vs v u vb ns bk,PmAt w M s vs v u vb ns bk/\(∀k,Px M vs v u vb k->X k)/\∀k,X k->k<w.heap.size
def ext(w w':World)(X:Nat->Prop)(k:Nat):Prop:=X k\/(w.heap.size<=k/\k<w'.heap.size)
def zap9{Q T:IntKind}{E H:TypeId}{w:World}{v u:Value}{xs ys:List Int}(h:Owns Q E w v xs)(A:Owns T H w u ys)(O:E≠H){k:Nat}(K:v.ownBlock=some k):u.ownBlock≠some k:=by intro e;obtain⟨c1,I⟩:=zbe9 (w:=w) h K;obtain⟨Y,A⟩:=zbe9 (w:=w) A e;rw[I]at A;simp at A;exact O A.2
section
variable {w:World} {M:Nat} {s:St} {vs v u vb:Value} {post:List Value} {ns bk:List Int} {X:Nat->Prop}
def Pf.c0(H:Pf w M s vs v u post ns):w.cell? ⟨M,0,none⟩=some vs:=by rw[cell_of_row w M 0 _ _ (0,0) H.fr.blk];rfl
def Pf.c1(H:Pf w M s vs v u post ns):w.cell? ⟨M,1,none⟩=some v:=H.fr.c0
def PmAt.c4(H:PmAt w M s vs v u vb ns bk):w.cell? ⟨M,4,none⟩=some (.int .i64 s.as):=by rw[cell_of_row w M 4 _ _ (0,0) H.pf.fr.blk];rfl
def Pf.neS(H:Pf w M s vs v u post ns){k:Nat}(A:vs.ownBlock=some k):k≠M:=zbo9 H.st H.fr.blk (show(109:TypeId)≠131 by decide) A
def Pf.sv(H:Pf w M s vs v u post ns){k:Nat}(A:vs.ownBlock=some k):v.ownBlock≠some k:=zap9 H.st H.fr.own (by decide) A
def Pf.su(H:Pf w M s vs v u post ns){k:Nat}(A:vs.ownBlock=some k):u.ownBlock≠some k:=by obtain⟨I,_,E,_⟩:=H.fr.pls;exact zap9 H.st E (by decide) A
def PmAt.sb(H:PmAt w M s vs v u vb ns bk){k:Nat}(A:vs.ownBlock=some k):vb.ownBlock≠some k:=zap9 H.pf.st H.bo (by decide) A
def PmAt.neB(H:PmAt w M s vs v u vb ns bk){k:Nat}(A:vb.ownBlock=some k):k≠M:=zbo9 H.bo H.pf.fr.blk (show(109:TypeId)≠3 by decide) A
def Pf.tch{S:Nat->Prop}{w':World}(H:Pf w M s vs v u post ns)(A:Tch S w w')(E:¬S M)(I:∀k,vs.ownBlock=some k->¬S k)(hv:∀k,v.ownBlock=some k->¬S k)(K:∀k,u.ownBlock=some k->¬S k):Pf w' M s vs v u post ns:=
 ⟨H.fr.tch A E hv K,H.st.tch A I,H.heap,H.ks,H.top⟩
def PmAt.tch{S:Nat->Prop}{w':World}(H:PmAt w M s vs v u vb ns bk)(E:Tch S w w')(A:∀k,Px M vs v u vb k->¬S k):PmAt w' M s vs v u vb ns bk:=
 ⟨H.pf.tch E (A M (.inl rfl)) (λ k h=>A k (.inr (.inl h))) (λ k h=>A k (.inr (.inr (.inl h)))) (λ k h=>A k (.inr (.inr (.inr (.inl h))))),H.bo.tch E (λ k h=>A k (.inr (.inr (.inr (.inr h))))),H.kb,H.a1,H.a2,H.ok⟩
def Pm.tch{S:Nat->Prop}{w':World}(H:Pm w M s X)(E:Tch S w w')(O:∀k,X k->¬S k):Pm w' M s X:=by obtain⟨vs,v,u,vb,ns,bk,h,I,K⟩:=H;exact⟨vs,v,u,vb,ns,bk,h.tch E (λ k A=>O k (I k A)),I,λ k A=>zn1 (K k A) E.size⟩
def Pm.lt(H:Pm w M s X):∀k,X k->k<w.heap.size:=by obtain⟨_,_,_,_,_,_,_,_,h⟩:=H;exact h
def Pm.made{w':World}{s':St}{K O:Value}{Y Q:List Int}(E:∀k,Px M vs v u vb k->X k)(hl:∀k,X k->k<w.heap.size)(H:PmAt w' M s' vs K u O Y Q)(hv:∀k,K.ownBlock=some k->v.ownBlock=some k\/w.heap.size<=k)(hb:∀k,O.ownBlock=some k->vb.ownBlock=some k\/w.heap.size<=k)
 (T:Tch (Px M vs v u vb) w w'):Pm w' M s' (ext w w' X)/\Tch X w w':=by
 refine⟨⟨vs,K,u,O,Y,Q,H,λ k I=>?_,λ k I=>?_⟩,T.mono (λ k _ e=>E k e)⟩
 .rcases I with e|e|e|e|e
  .exact .inl (E k (.inl e))
  .exact .inl (E k (.inr (.inl e)))
  .rcases hv k e with A|A
   .exact .inl (E k (.inr (.inr (.inl A))))
   .exact .inr ⟨A,H.pf.fr.own.lt k e⟩
  .exact .inl (E k (.inr (.inr (.inr (.inl e)))))
  .rcases hb k e with A|A
   .exact .inl (E k (.inr (.inr (.inr (.inr A)))))
   .exact .inr ⟨A,H.bo.lt k e⟩
 .rcases I with e|⟨_,e⟩
  .exact zn1 (hl k e) T.size
  .exact e
end
def zfg9(M:Nat)(s:St)(vs v u:Value)(post:List Value)(ns:List Int)(n:Int)(w:World)(H:Pf w M s vs v u post ns):
 Calls Tryz.prog 63 #[.pointer (some ⟨M,0,none⟩),.int .i64 n] w λ e w'=>e=.returned (.int .u8 (stv s n+1))/\w'=w:=by
 have E:=H.c0;have I:=H.st;have Y:=H.top;obtain⟨a,cap,K,Q,a1,_⟩:=I.rd;have A:=zec9 s.lo s.L;by_cases h0:n<0
 .have e:stv s n=-1:=zpo9 (.inl (by omega));rw[e];rw[K]at E;clear K I Q A H e Y
  go_enter Tryz.func63,Tryz.ntmps63
  go_wp2_with fail;go_ret;exact⟨rfl,rfl⟩
 .obtain⟨t,rfl⟩:∃t:Nat,n=t:=⟨n.toNat,by omega⟩
  by_cases O:t<s.lo+s.L.length
  .obtain⟨g,a4,rfl,hg,a0,a3,hc,_⟩:=I.shape (by rw[A];omega);have ct:=hc t (by rw[A];omega);have e:(sts s.lo s.L).getD t 0=stv s t+1:=sts_at s t O;rw[e]at ct;rw[A]at E a0;obtain⟨m,T⟩:=exH (s.lo+s.L.length);obtain⟨z,hz⟩:=exH (stv s t+1);rw[T.o]at E a0 O;rw[hz.o]at ct |-
   (have a2:decide (m<=t)=false:=by simp;omega);unfold maxLen at a3;clear K I Q A H e a1 hc Y h0
   go_enter Tryz.func63,Tryz.ntmps63
   go_wp2_with fail;go_ret;exact⟨rfl,rfl⟩
  .have e:stv s t=-1:=zpo9 (.inr (by omega));rw[e];rw[K,A]at E;obtain⟨m,T⟩:=exH (s.lo+s.L.length);rw[T.o]at E O;(have a2:decide (m<=t)=true:=by simp;omega);clear K I Q A H e a1 Y h0
   go_enter Tryz.func63,Tryz.ntmps63
   go_wp2_with fail;go_ret;exact⟨rfl,rfl⟩
def zlh9(M:Nat)(s:St)(vs v u:Value)(post:List Value)(ns:List Int)(i:Nat)(w:World)(H:Pf w M s vs v u post ns)(hi:i<s.L.length)(T:G s.L i≠0):
 Calls Tryz.prog 105 #[.pointer (some ⟨M,0,none⟩),.int .i64 ((s.lo+i:Nat):Int)] w λ e w'=>e=.returned (.tuple #[])/\
  ∃O a2,Pf w' M (put s i 0) vs O u post a2/\(∀k,O.ownBlock=some k->v.ownBlock=some k\/w.heap.size<=k)/\Tch (λ k=>k=M\/vs.ownBlock=some k\/v.ownBlock=some k\/u.ownBlock=some k) w w':=by
 have E:Hid (Pf w M s vs v u post ns):=H;have c0:=H.c0;have Q:=zec9 s.lo s.L;obtain⟨g,cap,rfl,hg,a7,a8,hc,fz⟩:=H.st.shape (by rw[Q];omega);obtain⟨t,K⟩:=exH (s.lo+i);obtain⟨m,I⟩:=exH (s.lo+s.L.length);have a6:t<m:=by rw[<-K.o,<-I.o];omega
 have ct:=hc t (by rw[Q,I.o];exact a6);obtain⟨z,hz⟩:=exH ((sts s.lo s.L).getD t 0);rw[hz.o]at ct;rw[Q,I.o]at c0 a7;have ft:=fz t;have gM:g≠M:=H.neS rfl;have HI:Hid (i<s.L.length/\G s.L i≠0):=⟨hi,T⟩
 have HT:Hid (Tch (λ k=>k=g) w (w.setCell ⟨g,t,none⟩ (.int .u8 1))):=Tch.setCell (Tch.refl (λ k=>k=g) w) (p:=⟨g,t,none⟩) (λ _=>rfl) _;have HF:Hid (Fr (w.setCell ⟨g,t,none⟩ (.int .u8 1)) ⟨M,109,[.slice (some ⟨g,0,none⟩) (sts s.lo s.L).length cap],post⟩ v u m ns):=by rw[<-I.o];exact H.fr.tch HT.o (λ e=>gM e.symm) (λ k A e=>H.sv (k:=g) rfl (by rw[<-e];exact A)) (λ k A e=>H.su (k:=g) rfl (by rw[<-e];exact A))
 have HS:Hid (OwnsS (w.setCell ⟨g,t,none⟩ (.int .u8 1)) (.slice (some ⟨g,0,none⟩) (sts s.lo s.L).length cap) (sts s.lo (s.L.set i 0))):=by
  have:=H.st.set t 1;rw[<-K.o]at this |-
  rw[<-ztl9];exact this
 have HN:Hid ((t:Int)∉ns):=by intro e;have:=(H.ks.mem _).1 e;rw[<-K.o,stv_in hi]at this;exact T this
 have HL:Hid (ns.length<100000):=by show _<_;have h1:=H.ks.len;have h2:=List.count_le_length (a:=(0:Int)) (l:=s.L);have:=H.top;omega
 rw[K.o];unfold maxLen at a8;clear hc fz H hi T Q
 go_enter Tryz.func105,Tryz.ntmps105
 go_wp2_with fail;refine(zsh9 _ v u m ns t _ HF.o a6 HN.o HL.o E.o.heap).mono ?_;rintro e w1 ⟨rfl,v1,qs,a4,a3,a0,Y,a1⟩;have a5:(w.setCell ⟨g,t,none⟩ (.int .u8 1)).heap.size=w.heap.size:=by simp[World.setCell]
 rw[a5]at Y;rw[<-K.o]at a0;have R:Hid (∃O a2,Pf w1 M (put s i 0) (.slice (some ⟨g,0,none⟩) (sts s.lo s.L).length cap) O u post a2/\(∀k,O.ownBlock=some k->v.ownBlock=some k\/w.heap.size<=k)/\Tch (λ k=>k=M\/(Value.slice (some ⟨g,0,none⟩) (sts s.lo s.L).length cap).ownBlock=some k\/v.ownBlock=some k\/u.ownBlock=some k) w w1):=by
  refine⟨v1,qs,⟨?_,?_,a3,?_,?_⟩,Y,?_⟩
  .have e:(put s i 0).lo+(put s i 0).L.length=m:=by simp[put,I.o]
   rw[e];exact a4
  .refine HS.o.tch a1 (λ k A e=>?_);rcases e with e|e|e
   .cases A;exact gM e
   .exact E.o.sv A e
   .exact E.o.su A e
  .exact E.o.ks.add HI.o.1 HI.o.2 a0
  .simp only[put,zt0];exact E.o.top
  .refine(HT.o.mono (λ k _ e=>.inr (.inl (by rw[e];rfl)))).trans a1 (λ k _ e=>?_);rcases e with e|e|e
   .exact .inl e
   .exact .inr (.inr (.inl e))
   .exact .inr (.inr (.inr e))
 clear a4 a3 a0 Y a1 a5;go_wp2_with fail
 go_end0
 exact⟨rfl,R.o⟩
abbrev mp(M:Nat):Value:=.pointer (some ⟨M,0,none⟩)
def zxd9(M:Nat)(s:St)(vs v u vb:Value)(ns bk:List Int)(w:World)(H:PmAt w M s vs v u vb ns bk):
 Calls Tryz.prog 21 #[mp M] w λ e w'=>e=.returned (.int .i64 (fre s))/\∃q,w'=w.drewN q:=by
 have c1:=H.pf.c1;have K:=H.c4;obtain⟨a,cap,rfl⟩:=H.pf.fr.len;have I:=H.pf.ks.len;have O:=List.count_le_length (a:=(0:Int)) (l:=s.L);have Q:=H.pf.top;have E:=H.ok.aside;have A:Hid ((ns.length:Int)-s.as=fre s):=by show _=_;unfold fre;omega
 obtain⟨m,Y⟩:=exH ns.length;obtain⟨b,T⟩:=exH s.as;rw[Y.o]at I c1 A;rw[T.o]at K E A;have a0:b<=m:=by omega
 have a1:m<=65536:=by omega
 rw[<-A.o];clear I O Q E H A
 go_enter Tryz.func21,Tryz.ntmps21
 go_wp2_with fail;go_quiet ((go_at_call 50;exact Calls.quiet_of_same (zdl9 M 1 a m cap _ c1)));go_wp2_with fail;go_ret;exact⟨rfl,_,rfl⟩
def zug9(M:Nat)(s:St)(X:Nat->Prop)(w:World)(H:Pm w M s X):
 Calls Tryz.prog 21 #[mp M] w λ e w'=>e=.returned (.int .i64 (fre s))/\∃q,w'=w.drewN q:=by
 obtain⟨vs,v,u,vb,ns,bk,h,_⟩:=H;exact zxd9 M s vs v u vb ns bk w h
def Pf.post{w:World}{M:Nat}{s:St}{vs v u:Value}{post:List Value}{ns:List Int}(H:Pf w M s vs v u post ns)(j:Nat)(x:Value):Pf (w.setCell ⟨M,3+j,none⟩ x) M s vs v u (post.set j x) ns:=by have T:Tch (λ k=>k=M) w (w.setCell ⟨M,3+j,none⟩ x):=Tch.setCell (Tch.refl (λ k=>k=M) w) (p:=⟨M,3+j,none⟩) (λ _=>rfl) _;obtain⟨O,E,I,K⟩:=H.fr.pls;refine⟨⟨?_,H.fr.ht,H.fr.own.tch T (λ k A e=>H.fr.ne A e),⟨O,E,I.tch T (λ k A e=>H.fr.neu A e),K⟩,H.fr.ap⟩,H.st.tch T (λ k A e=>H.neS A e),H.heap,H.ks,H.top⟩;rw[heap_setCell_same w M (3+j) _ _ _ H.fr.blk];congr 2;rw[Nat.add_comm 3 j];simp
def PmAt.after{w w':World}{M:Nat}{s s':St}{vs v E u vb:Value}{ns K bk:List Int}(H:PmAt w M s vs v u vb ns bk)(P:Pf w' M s' vs E u [vb,.int .i64 s.as] K)(hv:∀k,E.ownBlock=some k->v.ownBlock=some k\/w.heap.size<=k)
 (O:Tch (λ k=>k=M\/vs.ownBlock=some k\/v.ownBlock=some k\/u.ownBlock=some k) w w') (A:Ks 2 s' bk) (Q:Sok s') (ha:s'.as=s.as):PmAt w' M s' vs E u vb K bk:=by
 refine⟨by rw[ha];exact P,H.bo.tch O (λ k A e=>?_),A,λ k A e=>?_,H.a2,Q⟩
 .rcases e with e|e|e|e
  .exact H.neB A e
  .exact H.sb e A
  .exact H.a1 k A e
  .exact H.a2 k A e
 .rcases hv k e with I|I
  .exact H.a1 k A I
  .have:=H.bo.lt k A;omega
def tch_P{w w':World}{M:Nat}{vs v u vb:Value}(A:Tch (λ k=>k=M\/vs.ownBlock=some k\/v.ownBlock=some k\/u.ownBlock=some k) w w'):Tch (Px M vs v u vb) w w':=A.mono (λ k _ e=>by
 rcases e with e|e|e|e
 .exact .inl e
 .exact .inr (.inl e)
 .exact .inr (.inr (.inl e))
 .exact .inr (.inr (.inr (.inl e))))
def ztq9(M:Nat)(s:St)(X:Nat->Prop)(n:Int)(w:World)(H:Pm w M s X):
 Calls Tryz.prog 75 #[mp M,.int .i64 n] w λ e w'=>e=.returned (.bool (back n s).1)/\Pm w' M (back n s).2 (ext w w' X)/\Tch X w w':=by
 obtain⟨vs,v,u,vb,ns,bk,h,hx,hl⟩:=H;have A:=za0 h;have HX:=za0 hx;have HL:=za0 hl;obtain⟨z,I⟩:=exH (stv s n+1);clear h hx hl;by_cases Q:stv s n=1
 .have ok:=zwi9 A.o.ok n;obtain⟨i,hi,rfl,e⟩:=zhs9 (s:=s) (n:=n) (by omega);have E:back ((s.lo+i:Nat):Int) s=(true,put s i 0):=by unfold back;rw[if_neg (by omega),show(((s.lo+i:Nat):Int)-s.lo).toNat=i by omega]
  rw[E]at ok |-
  have a1:=za0 ok;have K:Hid (i<s.L.length/\G s.L i=1):=⟨hi,by omega⟩
  have a2:(z != 2)=false:=by have:=I.o;simp;omega
  obtain⟨t,ht⟩:=exH (s.lo+i);rw[ht.o]at I |-
  clear ok hi e E Q;simp only
  go_enter Tryz.func75,Tryz.ntmps75
  go_wp2_with fail;refine(zfg9 M s vs v u _ ns t w A.o.pf).mono ?_;rintro e O ⟨rfl,rfl⟩;rw[I.o];go_wp2_with fail;rw[<-ht.o];refine(zlh9 M s vs v u _ ns i O A.o.pf K.o.1 (by rw[K.o.2];omega)).mono ?_;rintro e w2 ⟨rfl,v2,a3,a0,T,Y⟩;have R:Hid (Pm w2 M (put s i 0) (ext O w2 X)/\Tch X O w2):=
   Pm.made HX.o HL.o (A.o.after a0 T Y (A.o.kb.other K.o.1 (by rw[K.o.2];omega) (by omega)) a1.o rfl) T (λ _ e=>.inl e) (tch_P Y)
  clear a0 T Y;go_wp2_with fail;go_ret;exact⟨rfl,R.o⟩
 .have E:back n s=(false,s):=by unfold back;rw[if_pos Q]
  rw[E];have a2:(z != 2)=true:=by have:=I.o;simp;omega
  clear Q E;simp only
  go_enter Tryz.func75,Tryz.ntmps75
  go_wp2_with fail;refine(zfg9 M s vs v u _ ns n w A.o.pf).mono ?_;rintro e O ⟨rfl,rfl⟩;rw[I.o];go_wp2_with fail;go_ret;exact⟨rfl,Pm.made HX.o HL.o A.o (λ _ e=>.inl e) (λ _ e=>.inl e) (Tch.refl _ _)⟩
def zvu9{w:World}{M:Nat}{post:List Value}{g m cap:Nat}{v u:Value}{E lo:Nat}{ns L:List Int}(F:Fr w ⟨M,109,[.slice (some ⟨g,0,none⟩) m cap],post⟩ v u E ns)(O:OwnsS w (.slice (some ⟨g,0,none⟩) m cap) (sts lo L))(i:Nat)(y x:Int)(K:x=y+1):
 Fr (w.setCell ⟨g,lo+i,none⟩ (.int .u8 x)) ⟨M,109,[.slice (some ⟨g,0,none⟩) m cap],post⟩ v u E ns/\OwnsS (w.setCell ⟨g,lo+i,none⟩ (.int .u8 x)) (.slice (some ⟨g,0,none⟩) m cap) (sts lo (L.set i y))/\Tch (λ k=>k=g) w (w.setCell ⟨g,lo+i,none⟩ (.int .u8 x)):=by
 subst K;have T:Tch (λ k=>k=g) w (w.setCell ⟨g,lo+i,none⟩ (.int .u8 (y+1))):=Tch.setCell (Tch.refl (λ k=>k=g) w) (p:=⟨g,lo+i,none⟩) (λ _=>rfl) _;have H:=zbo9 O F.blk (show(109:TypeId)≠131 by decide) rfl;obtain⟨Q,_,I,_⟩:=F.pls;refine⟨F.tch T (λ e=>H e.symm) (λ k A e=>zap9 O F.own (by decide) (k:=g) rfl (by rw[<-e];exact A)) (λ k A e=>zap9 O I (by decide) (k:=g) rfl (by rw[<-e];exact A)),?_,T⟩;rw[<-ztl9];exact O.set (lo+i) (y+1)
def ns_le{w:World}{M:Nat}{s:St}{vs v u:Value}{post:List Value}{ns:List Int}(H:Pf w M s vs v u post ns):ns.length<=65536:=by have A:=H.ks.len;have E:=List.count_le_length (a:=(0:Int)) (l:=s.L);have:=H.top;omega
def zuz9{s:St}{ns:List Int}(k:Ks 0 s ns)(h:Heap ns ns.length)(A:s.L.count 0≠0):G ns 0=((s.lo+s.L.idxOf 0:Nat):Int):=by
 obtain⟨K,Y,H⟩:=first0 A;have T:0<ns.length:=by rw[k.len];omega
 obtain⟨i,hi,e,E⟩:=k.idx (Int.le_refl _) (G_mem T);have Q:=(k.mem _).2 (by rw[stv_in K];exact Y);obtain⟨j,I,u⟩:=mem_G Q;have:=h.least j I;rw[u,e]at this;have:¬i<s.L.idxOf 0:=λ O=>H i O E;omega
def zwc9(M:Nat)(s:St)(X:Nat->Prop)(w:World)(H:Pm w M s X):
 Calls Tryz.prog 145 #[mp M] w λ e w'=>e=.returned (.tuple #[.int .i64 (take s).1,.bool (take s).2.1])/\Pm w' M (take s).2.2 (ext w w' X)/\Tch X w w':=by
 obtain⟨vs,v,u,vb,ns,bk,h,hx,hl⟩:=H;have A:=za0 h;have HX:=za0 hx;have HL:=za0 hl;obtain⟨av,a4,aq⟩:=h.pf.fr.len;have a0:Hid (w.cell? ⟨M,1,none⟩=some (.slice av ns.length a4)):=by rw[<-aq];exact h.pf.c1
 have ap:=h.pf.ks.len;clear aq;by_cases Y:s.L.count 0=0
 .have e2:take s=(0,false,s):=by unfold take;rw[if_pos Y]
  rw[e2];have HN:Hid (ns.length=0):=by show _=_;omega
  clear Y e2 h hx hl ap;simp only;rw[HN.o]at a0
  go_enter Tryz.func145,Tryz.ntmps145
  go_wp2_with fail;refine(zdl9 M 1 av 0 a4 w a0.o).mono ?_;rintro e w1 ⟨rfl,rfl⟩;go_wp2_with fail;go_ret2;exact⟨rfl,Pm.made HX.o HL.o A.o (λ _ e=>.inl e) (λ _ e=>.inl e) (Tch.refl _ _)⟩
 .have ok:=zza9 h.ok;have a7:=zuz9 h.pf.ks h.pf.heap Y;obtain⟨hi,a5,_⟩:=first0 Y;obtain⟨i,ao⟩:=exH (s.L.idxOf 0);have e2:take s=(((s.lo+i:Nat):Int),true,⟨s.lo,s.L.set i 1,s.as-1⟩):=by unfold take;rw[if_neg Y,ao.o]
  rw[e2]at ok |-
  rw[ao.o]at a7 hi a5;have ag:=za0 ok;have HI:Hid (i<s.L.length/\G s.L i=0):=⟨hi,a5⟩
  have a6:=zec9 s.lo s.L;obtain⟨g,cap,rfl,hg,ax,b0,hc,fz⟩:=h.pf.st.shape (by rw[a6];omega);obtain⟨t,ht⟩:=exH (s.lo+i);obtain⟨m,hm⟩:=exH ((sts s.lo s.L).length);have b1:t<m:=by rw[<-ht.o,<-hm.o,a6];omega
  have ar:Hid (G ns 0=t):=by rw[<-ht.o];exact a7
  obtain⟨mn,a8⟩:∃mn,ns.length=mn+1:=⟨ns.length-1,by omega⟩
  have af:=za0 a8;have au:=ns_le h.pf;rw[a8]at a0 au;rw[ht.o];rw[hm.o]at ax A HX;have gM:=h.pf.neS rfl;obtain⟨I,a3⟩:=exH s.as;have b6:I<=65536:=by have h2:=List.count_le_length (a:=(0:Int)) (l:=s.L);have:=h.pf.top;have:=h.ok.aside;have:=a3.o;omega
  unfold maxLen at b0;clear ok hi e2 Y h hx hl hc fz a6 a7 a5 ap a8;simp only
  go_enter Tryz.func145,Tryz.ntmps145
  go_wp2_with fail;refine(zdl9 M 1 av (mn+1) a4 w a0.o).mono ?_;rintro e w1 ⟨rfl,rfl⟩;have b8:(((mn+1:Nat):Int)==0)=false:=by simp;omega
  go_wp2_with fail;refine(zhv9 ⟨M,109,[.slice (some ⟨g,0,none⟩) m cap],[vb,.int .i64 s.as]⟩ v u (s.lo+s.L.length) ns mn w1 A.o.pf.fr af.o (by rw[af.o];omega) A.o.pf.heap).mono ?_;rintro e O ⟨rfl,v3,qs,Q,an,a9,ab,aa⟩;rw[ar.o]at a9 |-
  have O3:OwnsS O (.slice (some ⟨g,0,none⟩) m cap) (sts s.lo s.L):=A.o.pf.st.tch aa (λ k E e=>by
   rcases e with e|e|e
   .exact A.o.pf.neS E e
   .exact A.o.pf.sv E e
   .exact A.o.pf.su E e)
  obtain⟨g',b4,he,az,ay,_,am,ak⟩:=O3.shape (by rw[hm.o];omega);simp only[Value.slice.injEq,Option.some.injEq,Addr.mk.injEq,and_true]at he;obtain⟨rfl,_,rfl⟩:=he;have ct:=am t (by rw[hm.o];exact b1);have ft:=ak t;obtain⟨y0,b2⟩:=exH ((sts s.lo s.L).getD t 0);rw[b2.o]at ct;have c0:O.cell? ⟨M,0,none⟩=some (.slice (some ⟨g,0,none⟩) m cap):=by rw[cell_of_row O M 0 _ _ (0,0) Q.blk];rfl
  have c4:O.cell? ⟨M,4,none⟩=some (.int .i64 I):=by rw[cell_of_row O M 4 _ _ (0,0) Q.blk,<-a3.o];rfl
  have f4:=Q.fz 4;have HS:Hid (Fr (O.setCell ⟨g,t,none⟩ (.int .u8 2)) ⟨M,109,[.slice (some ⟨g,0,none⟩) m cap],[vb,.int .i64 s.as]⟩ v3 u (s.lo+s.L.length) qs/\OwnsS (O.setCell ⟨g,t,none⟩ (.int .u8 2)) (.slice (some ⟨g,0,none⟩) m cap) (sts s.lo (s.L.set i 1))/\Tch (λ k=>k=g) O (O.setCell ⟨g,t,none⟩ (.int .u8 2))):=by have:=zvu9 Q O3 i 1 2 rfl;rw[ht.o]at this;exact this
  have hq:=a9;rw[<-ht.o]at hq;obtain⟨K,aj⟩:=exH (O.setCell ⟨g,t,none⟩ (.int .u8 2));have hW:=aj.o;rw[aj.o]at HS;obtain⟨F4,O4,T4⟩:=HS.o;have P4:Pf K M ⟨s.lo,s.L.set i 1,s.as-1⟩ (.slice (some ⟨g,0,none⟩) m cap) v3 u [vb,.int .i64 s.as] qs:=by refine⟨?_,O4,an,(A.o.pf.ks.sub HI.o.1 HI.o.2 (y:=1) (by omega) hq).aside _,by simp only[zt0];exact A.o.pf.top⟩;simp only[zt0];exact F4
  have T:Tch (λ k=>k=M\/(Value.slice (some ⟨g,0,none⟩) m cap).ownBlock=some k\/v.ownBlock=some k\/u.ownBlock=some k) w1 K:=by
   refine((aa.mono (λ k _ e=>?_)).trans T4 (λ k _ e=>.inr (.inl (by rw[e];rfl))));rcases e with e|e|e
   .exact .inl e
   .exact .inr (.inr (.inl e))
   .exact .inr (.inr (.inr e))
  have ah:=za0 P4;have HT:=za0 T;have ai:=za0 ab;have ae:Hid (Ks 2 ⟨s.lo,s.L.set i 1,s.as-1⟩ bk):=(A.o.kb.other HI.o.1 (by rw[HI.o.2];omega) (y:=1) (by omega)).aside _;have b3:K.cell? ⟨M,4,none⟩=some (.int .i64 I):=by rw[T4.cell (p:=⟨M,4,none⟩) Q.lt (λ e=>gM e.symm)];exact c4
  have b5:K.frozen? ⟨M,4,none⟩=false:=by rw[T4.frozen (p:=⟨M,4,none⟩) Q.lt (λ e=>gM e.symm)];exact f4
  have al:OwnsI K vb bk:=A.o.bo.tch T (λ k E e=>by
   rcases e with e|e|e|e
   .exact A.o.neB E e
   .exact A.o.sb e E
   .exact A.o.a1 k E e
   .exact A.o.a2 k E e)
  have ad:=za0 al;have ac:Hid (∀k,vb.ownBlock=some k->v3.ownBlock≠some k):=λ k E e=>A.o.a1 k E (by rw[<-ab];exact e);clear Q an a9 ab aa O3 az ay am ak HS F4 O4 T4 P4 T al hq c4 f4;by_cases aw:I=0
  .subst aw;go_wp2_with fail;go_ret2;have P:PmAt K M ⟨s.lo,s.L.set i 1,s.as-1⟩ (.slice (some ⟨g,0,none⟩) m cap) v3 u vb qs bk:=by
    refine⟨?_,ad.o,ae.o,ac.o,A.o.a2,ag.o⟩;have:=ah.o;rw[a3.o]at this |-
    exact this
   exact⟨rfl,Pm.made HX.o HL.o P (λ k E=>.inl (by rw[<-ai.o];exact E)) (λ _ e=>.inl e) (tch_P HT.o)⟩
  .have b7:(0:Int)<(I:Int):=by omega
   (have b9:(I:Int)-1=((I-1:Nat):Int):=by omega);go_wp2_with fail;go_ret2;(have e9:(.int .i64 ((I-1:Nat):Int):Value)=.int .i64 ((s.as-1:Nat):Int):=by rw[a3.o]);have T9:Tch (λ k=>k=M) K (K.setCell ⟨M,4,none⟩ (.int .i64 ((I-1:Nat):Int))):=Tch.setCell (Tch.refl (λ k=>k=M) K) (p:=⟨M,4,none⟩) (λ _=>rfl) _;have P:PmAt (K.setCell ⟨M,4,none⟩ (.int .i64 ((I-1:Nat):Int))) M ⟨s.lo,s.L.set i 1,s.as-1⟩ (.slice (some ⟨g,0,none⟩) m cap) v3 u vb qs bk:=by
    refine⟨?_,ad.o.tch T9 (λ k E e=>A.o.neB E e),ae.o,ac.o,A.o.a2,ag.o⟩;have:=ah.o.post 1 (.int .i64 ((I-1:Nat):Int));rw[e9]at this |-
    exact this
   refine⟨rfl,Pm.made HX.o HL.o P (λ k E=>.inl (by rw[<-ai.o];exact E)) (λ _ e=>.inl e) ?_⟩;exact(tch_P HT.o).trans T9 (λ k _ e=>.inl e)
end Go.Proofs.YtcmjlibndmneiaaGreat
namespace Go.Proofs.YtcmjlibndmneiaaGreat
open Go.RowKit Pl
def zvr9(a b o p ca cb:Nat)(xs ys:List Int)(w:World)(Q:xs.length=ys.length)(a1:xs.length<=9223372036854775807)
 (Y:∀i,i<xs.length->w.cell? ⟨a,o+i,none⟩=some (.int .u8 (xs.getD i 0))) (hy:∀i,i<ys.length->w.cell? ⟨b,p+i,none⟩=some (.int .u8 (ys.getD i 0))):
 Calls Tryz.prog 82 #[.slice (some ⟨a,o,none⟩) xs.length ca,.slice (some ⟨b,p,none⟩) xs.length cb] w λ e w'=>e=.returned (.bool (decide (xs=ys)))/\Below w.heap.size w w':=by
 have HX:Hid (∀i,i<xs.length->w.cell? ⟨a,o+i,none⟩=some (.int .u8 (xs.getD i 0))):=Y;have HY:Hid (∀i,i<ys.length->w.cell? ⟨b,p+i,none⟩=some (.int .u8 (ys.getD i 0))):=hy;have I:Hid (xs.length=ys.length):=Q;clear Y hy Q
 go_enter Tryz.func82,Tryz.ntmps82
 go_wp2
 go_loopw [5] (λ i wr=>∃k:Nat,k<=xs.length/\i=.int .i64 k/\Hid (∀j,j<k->xs.getD j 0=ys.getD j 0)/\Below w.heap.size w wr) (λ i _=>xs.length-(intOf i).toNat)
 case atStart=>exact⟨0,zn7 _,rfl,λ j hj=>by omega,Below.refl _ _⟩
 case round=>
  obtain⟨k,hk,rfl,O,K⟩:=hrel;have u:Hid (Below w.heap.size w wr):=K;clear K;by_cases T:k<xs.length
  .obtain⟨x,E⟩:=exH (xs.getD k 0);obtain⟨y,H⟩:=exH (ys.getD k 0);have cx:wr.cell? ⟨a,o+k,none⟩=some (.int .u8 x):=by have h:=HX.o k T;rw[u.o.cell (p:=⟨a,o+k,none⟩) (ze0 w ⟨a,o+k,none⟩ h),h,E.o]
   (have cy:wr.cell? ⟨b,p+k,none⟩=some (.int .u8 y):=by have h:=HY.o k (by rw[<-I.o];exact T);rw[u.o.cell (p:=⟨b,p+k,none⟩) (ze0 w ⟨b,p+k,none⟩ h),h,H.o]);by_cases A:x=y
   .have hd:(x != y)=false:=by simp[A]
    have a0:Hid (x=y):=A;clear A;go_wp2;go_quiet (fail);go_wp2
    go_roundw
    case rel=>
     refine⟨k+1,by omega,by go_num,λ j hj=>?_,?_⟩
     .by_cases e:j<k
      .exact O.o j e
      .have:j=k:=by omega
       subst this;rw[E.o,H.o];exact a0.o
     .exact u.o.trans (Below.of_drewN _ _ _)
    case measure=>simp[intOf];omega
   .have hd:(x != y)=true:=by simp[A]
    go_wp2;go_quiet (fail);go_wp2;go_ret;refine⟨?_,u.o.trans (Below.of_drewN _ _ _)⟩;have:¬xs=ys:=λ e=>A (by rw[<-E.o,<-H.o,e]);simp[this]
  .go_wp2;go_ret;refine⟨?_,u.o⟩;have:xs=ys:=zeo9 I.o λ i hi=>O.o i (by omega);simp[this]
def zlr9(a b:Option Addr)(u A E cb:Nat)(w:World)(H:u≠A):
 Calls Tryz.prog 82 #[.slice a u E,.slice b A cb] w λ e w'=>e=.returned (.bool false)/\w'=w:=by
 have h:((u:Int) != (A:Int))=true:=by simp;omega
 clear H
 go_enter Tryz.func82,Tryz.ntmps82
 go_wp2;go_ret;exact⟨rfl,rfl⟩
def zhm9(a b:Option Addr)(u cb:Nat)(w:World):
 Calls Tryz.prog 82 #[.slice a 0 u,.slice b 0 cb] w λ e w'=>e=.returned (.bool true)/\w'=w:=by
 go_enter Tryz.func82,Tryz.ntmps82
 go_wp2
 go_loop [5] (λ i=>i=.int .i64 0) (λ _=>0)
 case atStart=>rfl
 case round=>subst hrel;go_wp2;go_ret;exact⟨rfl,rfl⟩
def ztg9(u v:Value)(xs ys:List Int)(w:World)(E:Rd .u8 w u xs)(H:Rd .u8 w v ys):
 Calls Tryz.prog 82 #[u,v] w λ e w'=>e=.returned (.bool (decide (xs=ys)))/\Below w.heap.size w w':=by
 obtain⟨a,I,rfl,h1,h2,_,E⟩:=E;obtain⟨b,K,rfl,h3,h4,_,H⟩:=H;by_cases A:xs.length=ys.length
 .rcases E with rfl|⟨O,Q,rfl,E⟩
  .have:ys=[]:=zh0 (by simpa using A.symm);subst this;refine(zhm9 a b I K w).mono ?_;rintro e w' ⟨rfl,rfl⟩;exact⟨by simp,Below.refl _ _⟩
  .rcases H with rfl|⟨T,Y,rfl,H⟩
   .have:xs=[]:=zh0 (by simpa using A);subst this;refine(zhm9 _ b I K w).mono ?_;rintro e w' ⟨rfl,rfl⟩;exact⟨by simp,Below.refl _ _⟩
   .have:=zvr9 O T Q Y I K xs ys w A (by unfold maxLen at h2;omega) E H;rw[<-A];exact this
 .refine(zlr9 a b _ _ I K w A).mono ?_;rintro e w' ⟨rfl,rfl⟩;have:¬xs=ys:=λ e=>A (by rw[e]);exact⟨by simp[this],Below.refl _ _⟩
