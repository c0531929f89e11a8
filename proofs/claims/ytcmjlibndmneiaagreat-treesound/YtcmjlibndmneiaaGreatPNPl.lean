import Derived.Test.YtcmjlibndmneiaaGreatPRow0
import Derived.Lib.AppendStr
import Derived.Laws.Cover1
set_option maxRecDepth 100000
set_option linter.all false
set_option maxHeartbeats 8000000
namespace Go.Proofs.YtcmjlibndmneiaaGreat
open Go.RowKit Pl
structure Nd where
 lf:Bool
 ks:List ByteArray
 vs:List ByteArray
 kd:List Int
def eS:ByteArray:=⟨#[]⟩
def kA(n:Nd)(i:Nat):ByteArray:=n.ks.getD i eS
def vA(n:Nd)(i:Nat):ByteArray:=n.vs.getD i eS
def dA(n:Nd)(i:Nat):Int:=n.kd.getD i 0
def szA(n:Nd)(i:Nat):Nat:=1+(kA n i).size+(if n.lf=true then 1+(vA n i).size else if i<n.kd.length then 2 else 0)
def szN(n:Nd):Nat->Nat
 | 0=>1
 | k+1=>szN n k+szA n k
def W(x:Nat):Int:=wrap64 (x:Int)
def zaw9(a b:Int):wrap64 (wrap64 a+b)=wrap64 (a+b):=by unfold wrap64;omega
def zbm9{x:Nat}(h:x<4611686018427387904):W x=(x:Int):=by unfold W wrap64;omega
def W_add(x y:Nat):wrap64 (W x+(y:Int))=W (x+y):=by unfold W;rw[zaw9];congr 1
def W_in(x:Nat):-9223372036854775808<=W x/\W x<=9223372036854775807:=by unfold W wrap64;omega
def u8_low(d:Int):IntKind.u8.wrap d=d % 256:=by simp[IntKind.wrap,IntKind.signed,IntKind.bits]
def zzc9{d:Int}(u:0<=d)(A:d<=65535):IntKind.u8.wrap (d / 256)=d / 256:=by rw[u8_low];omega
structure Sm(n:Nd):Prop where
 ks:∀i,(kA n i).size<=140737488351232
 vs:∀i,(vA n i).size<=140737488351232
 kl:n.ks.length<=8796093021952
 vl:n.vs.length<=8796093021952
 dl:n.kd.length<=17592186043904
def lts(a b:ByteArray):Bool:=Op.bytesLess a.toList b.toList
def eqs(a b:ByteArray):Bool:=a.toList==b.toList
def kOk(n:Nd)(i:Nat):Prop:=(kA n i).size<=24/\(0<i->lts (kA n (i-1)) (kA n i)=true)/\(n.lf=true->eqs (kA n i) eS=false)
def MayP(n:Nd):Prop:=1<=n.ks.length/\W (szN n n.ks.length)<=240/\(∀i,i<n.ks.length->kOk n i)/\
 (if n.lf=true then(∀i,i<n.vs.length->(vA n i).size<=24)/\n.vs.length=n.ks.length/\n.kd.length=0
  else(∀i,i<n.kd.length->0<=dA n i/\dA n i<=65535)/\n.kd.length=n.ks.length/\n.vs.length=0)
open Classical in
noncomputable def mayN(n:Nd):Bool:=decide (MayP n)
def zq9{n:Nd}:mayN n=true↔MayP n:=by unfold mayN;exact @decide_eq_true_iff _ (Classical.propDecidable _)
def bts(s:ByteArray):List Int:=s.data.toList.map λ b=>(b.toNat:Int)
def zbn9(s:ByteArray):(bts s).length=s.size:=by unfold bts;rw[zb1];exact Array.length_toList
def bts_by(s:ByteArray):By (bts s):=by
 intro i;rw[zn3];cases e:(bts s)[i]? with
 | none=>simp
 | some x=>
  unfold bts at e;rw[zd1]at e;cases e2:s.data.toList[i]? with
  | none=>rw[e2]at e;cases e
  | some b=>rw[e2]at e;simp only[Option.map_some,Option.some.injEq]at e;have:=b.toNat_lt;simp only[Option.getD_some];omega
def zqk9(s:ByteArray):Lib.strCells s=(bts s).map (Value.int .u8):=by unfold Lib.strCells bts;rw[List.map_map];rfl
def zwk9{xs:List Int}(h:By xs):bts (strOfNums xs)=xs:=by
 unfold bts;rw[strOfNums_data,List.map_map];apply List.ext_getElem
 .simp
 .intro i E A;have u:=h i;rw[zn3,zc0 A]at u;simp only[Option.getD_some]at u;simp only[List.getElem_map,Function.comp];have:(UInt8.ofNat (xs[i]).toNat).toNat=(xs[i]).toNat:=by rw[UInt8.toNat_ofNat'];omega
  rw[this];omega
def zyx9(s:ByteArray):strOfNums (bts s)=s:=by
 obtain⟨d⟩:=s;unfold strOfNums bts;congr 1;rw[List.map_map];have:(λ n:Int=>UInt8.ofNat n.toNat) ∘ (λ b:UInt8=>(b.toNat:Int))=id:=by funext b;simp
 rw[this];simp
def itm(n:Nd)(i:Nat):List Int:=((kA n i).size:Int)::(bts (kA n i)++(if n.lf=true then((vA n i).size:Int)::bts (vA n i)else[dA n i % 256,dA n i / 256]))
def encN(n:Nd):Nat->List Int
 | 0=>[(n.ks.length:Int)]
 | k+1=>encN n k++itm n k
def plc(n:Nd)(key:ByteArray):Nat->Nat
 | 0=>0
 | k+1=>if n.lf=true then(if lts (kA n k) key=true then k+1 else plc n key k)else(if (lts (kA n k) key||eqs (kA n k) key)=true then k else plc n key k)
def plc_le(n:Nd)(key:ByteArray)(k:Nat):plc n key k<=k:=by
 induction k with
 | zero=>exact zn6 _
 | succ k u=>simp only[plc];split<;>split<;>omega
def RdV(w:World)(v:Value)(cs:List Value):Prop:=
 ∃a cap,v=.slice a cs.length cap/\cs.length<=cap/\cap<=maxLen/\(a=none->cap=0)/\
  (cs=[]\/∃b o,a=some ⟨b,o,none⟩/\∀i c,cs[i]?=some c->w.cell? ⟨b,o+i,none⟩=some c)
def zaq9(w:World):RdV w (.slice none 0 0) []:=⟨none,0,rfl,zn6 _,by unfold maxLen;omega,λ _=>rfl,.inl rfl⟩
def RdV.tch{S:Nat->Prop}{w w':World}{v:Value}{u:List Value}(h:RdV w v u)(T:Tch S w w')(Q:∀b,v.ownBlock=some b->¬S b):RdV w' v u:=by
 obtain⟨a,cap,rfl,K,O,E,h⟩:=h;refine⟨a,cap,rfl,K,O,E,?_⟩;rcases h with h|⟨b,o,rfl,H⟩
 .exact .inl h
 .refine .inr ⟨b,o,rfl,λ i c I=>?_⟩;have A:=H i c I;rw[T.cell (p:=⟨b,o+i,none⟩) (ze0 w ⟨b,o+i,none⟩ A) (Q b rfl)];exact A
def RdV.below{w w':World}{v:Value}{u:List Value}(h:RdV w v u)(A:Below w.heap.size w w'):RdV w' v u:=
 h.tch (S:=λ _=>False) (Tch.of_below A) (λ _ _ e=>e)
def RdV.at{w:World}{a:Option Addr}{l cap:Nat}{u:List Value}(h:RdV w (.slice a l cap) u){i:Nat}{c:Value}(hi:u[i]?=some c):
 ∃b o,a=some ⟨b,o,none⟩/\w.cell? ⟨b,o+i,none⟩=some c:=by
 obtain⟨E,H,e,K,O,I,h⟩:=h;cases e;rcases h with h|⟨b,o,rfl,A⟩
 .rw[h]at hi;cases hi
 .exact⟨b,o,rfl,A i c hi⟩
def zjz9{k:IntKind}{w:World}{v:Value}{xs:List Int}(h:Rd k w v xs):RdV w v (xs.map (Value.int k)):=by
 obtain⟨a,cap,rfl,I,K,E,h⟩:=h;refine⟨a,cap,by rw[zb1],by rw[zb1];exact I,K,E,?_⟩;rcases h with rfl|⟨b,o,rfl,H⟩
 .exact .inl rfl
 .refine .inr ⟨b,o,rfl,λ i c u=>?_⟩;have A:i<xs.length:=by simpa using(List.getElem?_eq_some_iff.1 u).1
  rw[H i A];rw[zd1,zc0 A]at u;simp only[Option.map_some,Option.some.injEq]at u;rw[<-u,zn3,zc0 A];rfl
def RdV.len{w:World}{v:Value}{u:List Value}(h:RdV w v u):∃a cap,v=.slice a u.length cap/\u.length<=cap/\cap<=9223372036854775807/\(a=none->cap=0):=by obtain⟨a,cap,rfl,E,H,A,h⟩:=h;exact⟨a,cap,rfl,E,by unfold maxLen at H;omega,A⟩
def RdV.blk_lt{w:World}{v:Value}{u:List Value}(h:RdV w v u)(A:u≠[]):∀k,v.ownBlock=some k->k<w.heap.size:=by
 intro k H;obtain⟨a,cap,rfl,O,Q,I,h⟩:=h;rcases h with h|⟨b,o,rfl,E⟩
 .exact absurd h A
 .cases u with
  | nil=>exact absurd rfl A
  | cons c u=>have K:b<w.heap.size:=ze0 w ⟨b,o+0,none⟩ (E 0 c rfl);simp only[Value.ownBlock,Option.some.injEq]at H;omega
def RdV.src{w:World}{v:Value}{u:List Value}(h:RdV w v u)(I:∀x∈u,x.oneCell'=true):Src w v u:=by
 obtain⟨a,cap,rfl,O,Q,E,h⟩:=h;refine⟨a,cap,rfl,I,λ ha=>?_,λ K ha j x A=>?_⟩
 .have:=E ha;subst this;exact⟨zh0 (by omega),rfl⟩
 .rcases h with rfl|⟨b,o,rfl,H⟩
  .cases A
  .obtain rfl:=zc1 ha;rw[Addr.add_lit];exact H j x A
def OwnsV(e:TypeId)(w:World)(v:Value)(cs:List Value):Prop:=w.ownsRow 0 e 1 v cs.length cs
def zge9(e:TypeId)(w:World):OwnsV e w (.slice none 0 0) []:=World.ownsRow_nil _ _ _ _
def OwnsV.rd{e:TypeId}{w:World}{v:Value}{u:List Value}(h:OwnsV e w v u):RdV w v u:=by
 have A:w.ownsRow 0 e 1 v u.length u:=h;rcases A.2 with⟨rfl,H⟩|⟨g,cap,Q,rfl,_,Y,K,I,T,a0⟩
 .have O:u=[]:=zh0 H;subst O;exact zaq9 w
 .refine⟨some ⟨g,0,none⟩,cap,rfl,K,I,(λ e=>by cases e),.inr ⟨g,0,rfl,λ i c E=>?_⟩⟩;have hj:=(List.getElem?_eq_some_iff.1 E).1;rw[Nat.zero_add,A.cellAt i (by omega)];exact E
def OwnsV.lt{e:TypeId}{w:World}{v:Value}{u:List Value}(h:OwnsV e w v u):∀j,v.ownBlock=some j->j<w.heap.size:=λ j A=>(World.ownsRow.lt h j A).2
def OwnsV.ints{e:TypeId}{k:IntKind}{w:World}{v:Value}{xs:List Int}(h:Owns k e w v xs):OwnsV e w v (xs.map (Value.int k)):=by unfold OwnsV;rw[zb1];exact h
structure ElemV(P:Program)(t e:TypeId)(z:Value)(bytes:Nat):Prop where
 ht:P.underlying t=some (.slice e)
 info:∃i,P.info? e=some i/\i.zero=some z/\i.size=1/\i.bytes=bytes
 one:z.cells.size=1
section
variable {P:Program}
def zs9(w:World){H:Array Oper}{I:List Oper}{o:Oper}{a:Act}{Q:Exit->Act->World->Prop}(a0:o.guard=none)(s x:Operand)(t:TypeId)
 (ho:o.op=.call { callee:=.builtin .append,args:=#[s,x],argTypes:=#[t,t] }) (e:TypeId) (z:Value) (bytes:Nat) (E:ElemV P t e z bytes)
 (v:Value) (xs:List Value) (hs:a.eval s=v) (hown:OwnsV e w v xs) (u:Value) (ys:List Value) (hx:a.eval x=u) (hu:RdV w u ys) (h1:∀y∈ys,y.oneCell'=true)
 (h63:xs.length+ys.length<=9223372036854775807) (hbytes:(xs.length+ys.length)*bytes<=140737488355328)
 (h:∀A w',OwnsV e w' A (xs++ys)->Grew w w' v A->wpList P H Q I (a.put o.dst A) w'):wpList P H Q (o::I) a w:=by
 obtain⟨ht,⟨i,hi,hz,a2,Y⟩,a1⟩:=E;refine zek9 w a0 s x t ho e i z bytes ht hi hz a2 Y a1 v xs hs hown u ys hx (hu.src h1) (by unfold maxLen;exact h63) hbytes ?_;intro A w' K O T;exact h A w' K ⟨(Tch.refl _ w).grown O (λ _ _ e=>e),T⟩
end
def strs(ss:List ByteArray):List Value:=ss.map Value.string
def nums(ds:List Int):List Value:=ds.map (Value.int .i64)
def zax9(A:List ByteArray):∀x∈strs A,x.oneCell'=true:=λ x u=>by obtain⟨s,_,rfl⟩:=List.mem_map.1 u;rfl
def zcq9(u:List Int):∀x∈nums u,x.oneCell'=true:=λ x A=>by obtain⟨s,_,rfl⟩:=List.mem_map.1 A;rfl
def zh9(u:List ByteArray):(strs u).length=u.length:=zb1 ..
def zf9(u:List Int):(nums u).length=u.length:=zb1 ..
def elemS:ElemV Tryz.prog 91 9 (.string ⟨#[]⟩) 16:=⟨Tryz.underlying91,info_parts (z:=.string ⟨#[]⟩) (size:=1) (bytes:=16) (by kernel_rfl),rfl⟩
def elemIN:ElemV Tryz.prog 56 3 (.int .i64 0) 8:=⟨Tryz.underlying56,info_parts (z:=.int .i64 0) (size:=1) (bytes:=8) (by kernel_rfl),rfl⟩
def nod(lf:Bool)(u1 u2 u3:Value):Value:=.agg #[.bool lf,u1,u2,u3]
structure Nn(w:World)(n:Nd)(u1 u2 u3:Value):Prop where
 k:RdV w u1 (strs n.ks)
 v:RdV w u2 (strs n.vs)
 d:RdV w u3 (nums n.kd)
def Nn.below{w w':World}{n:Nd}{u1 u2 u3:Value}(h:Nn w n u1 u2 u3)(u:Below w.heap.size w w'):Nn w' n u1 u2 u3:=⟨h.k.below u,h.v.below u,h.d.below u⟩
def Nn.key{w:World}{n:Nd}{a:Option Addr}{l c:Nat}{u2 u3:Value}(h:Nn w n (.slice a l c) u2 u3){i:Nat}(hi:i<n.ks.length):∃b o,a=some ⟨b,o,none⟩/\w.cell? ⟨b,o+i,none⟩=some (.string (kA n i)):=
 h.k.at (by rw[strs,zd1,zc0 hi];simp[kA,zn3,hi])
def Nn.val{w:World}{n:Nd}{a:Option Addr}{l c:Nat}{u1 u3:Value}(h:Nn w n u1 (.slice a l c) u3){i:Nat}(hi:i<n.vs.length):∃b o,a=some ⟨b,o,none⟩/\w.cell? ⟨b,o+i,none⟩=some (.string (vA n i)):=
 h.v.at (by rw[strs,zd1,zc0 hi];simp[vA,zn3,hi])
def Nn.kid{w:World}{n:Nd}{a:Option Addr}{l c:Nat}{u1 u2:Value}(h:Nn w n u1 u2 (.slice a l c)){i:Nat}(hi:i<n.kd.length):∃b o,a=some ⟨b,o,none⟩/\w.cell? ⟨b,o+i,none⟩=some (.int .i64 (dA n i)):=
 h.d.at (by rw[nums,zd1,zc0 hi];simp[dA,zn3,hi])
def Nn.o{w:World}{n:Nd}{u1 u2 u3:Value}(h:Nn w n u1 u2 u3):∃E c1 H u I A,u1=.slice E n.ks.length c1/\u2=.slice H n.vs.length u/\u3=.slice I n.kd.length A/\
 (n.ks.length<=c1/\c1<=9223372036854775807/\n.vs.length<=u/\u<=9223372036854775807/\n.kd.length<=A/\A<=9223372036854775807)/\(E=none->c1=0)/\(H=none->u=0)/\(I=none->A=0):=by
 obtain⟨E,c1,rfl,K,O,Q⟩:=h.k.len;obtain⟨H,u,rfl,T,Y,h6⟩:=h.v.len;obtain⟨I,A,rfl,h7,h8,h9⟩:=h.d.len;simp only[zh9,zf9]at *
 exact⟨E,c1,H,u,I,A,rfl,rfl,rfl,⟨K,O,T,Y,h7,h8⟩,Q,h6,h9⟩
def Nb(w:World)(T:TypeId)(b:Nat)(lf:Bool)(u1 u2 u3:Value):Prop:=w.heap[b]?=some (.cells #[.bool lf,u1,u2,u3] T (0,0))
section
variable {w w':World} {T:TypeId} {b:Nat} {lf:Bool} {u1 u2 u3:Value}
def Nb.c0(h:Nb w T b lf u1 u2 u3):w.cell? ⟨b,0,none⟩=some (.bool lf):=by rw[cell_of_row w b 0 _ _ (0,0) h];rfl
def Nb.c1(h:Nb w T b lf u1 u2 u3):w.cell? ⟨b,1,none⟩=some u1:=by rw[cell_of_row w b 1 _ _ (0,0) h];rfl
def Nb.c2(h:Nb w T b lf u1 u2 u3):w.cell? ⟨b,2,none⟩=some u2:=by rw[cell_of_row w b 2 _ _ (0,0) h];rfl
def Nb.c3(h:Nb w T b lf u1 u2 u3):w.cell? ⟨b,3,none⟩=some u3:=by rw[cell_of_row w b 3 _ _ (0,0) h];rfl
def Nb.fz(h:Nb w T b lf u1 u2 u3)(i:Nat):w.frozen? ⟨b,i,none⟩=false:=frozen_of_row w b i _ _ h
def Nb.lt(h:Nb w T b lf u1 u2 u3):b<w.heap.size:=(zd0.1 h).1
def Nb.tch{S:Nat->Prop}(h:Nb w T b lf u1 u2 u3)(A:Tch S w w')(u:¬S b):Nb w' T b lf u1 u2 u3:=by unfold Nb;rw[A.block b h.lt u];exact h
def Nb.below(h:Nb w T b lf u1 u2 u3)(u:Below w.heap.size w w'):Nb w' T b lf u1 u2 u3:=h.tch (S:=λ _=>False) (Tch.of_below u) (λ e=>e)
def nb_new(w:World)(T:TypeId)(lf:Bool)(u1 u2 u3:Value):Nb (w.alloc (.cells #[.bool lf,u1,u2,u3] T)) T w.heap.size lf u1 u2 u3:=heap_alloc_new w _
end
def Fr3(m:Nat)(v1 v2 v3:Value):Prop:=∀j,(v1.ownBlock=some j\/v2.ownBlock=some j\/v3.ownBlock=some j)->m<=j
def za9(w:World)(o:Obj):Below w.heap.size w (w.alloc o):=(Below.refl _ _).alloc (zn6 _) _
def zpp9{n:Nd}{k:Nat}(h:n.lf=true):szN n (k+1)=szN n k+(1+(kA n k).size+(1+(vA n k).size)):=by simp only[szN,szA,h,if_true]
def zyy9{n:Nd}{k:Nat}(h:n.lf=false)(u:k<n.kd.length):szN n (k+1)=szN n k+(1+(kA n k).size+2):=by simp only[szN,szA,h,u,if_true,Bool.false_eq_true,if_false]
def zwa9{n:Nd}{k:Nat}(h:n.lf=false)(u:¬k<n.kd.length):szN n (k+1)=szN n k+(1+(kA n k).size):=by simp only[szN,szA,h,u,if_false,Bool.false_eq_true,Nat.add_zero]
def zto9{n:Nd}{k:Nat}(h:¬k<n.vs.length):(vA n k).size=0:=by unfold vA;rw[zn3,zs0 (by omega)];rfl
def zln9(n:Nd)(u1 u2 u3:Value)(w:World)(h:Nn w n u1 u2 u3)(hs:Sm n):
 Calls Tryz.prog 140 #[nod n.lf u1 u2 u3] w λ e w'=>e=.returned (.int .i64 (W (szN n n.ks.length)))/\Below w.heap.size w w':=by
 obtain⟨a1,c1,a2,c2,a3,c3,rfl,rfl,rfl,⟨l1,l2,l3,l4,l5,l6⟩,_,_,_⟩:=h.o;have H:=za0 h;have HS:=za0 hs;obtain⟨u,a0⟩:=exH n.ks.length;obtain⟨O,T⟩:=exH n.vs.length;obtain⟨Q,Y⟩:=exH n.kd.length;rw[a0.o]at H l1 |-
 rw[T.o]at H l3 |-
 rw[Y.o]at H l5 |-
 obtain⟨lf,I⟩:=exH n.lf;rw[I.o];unfold nod;obtain⟨W1,a4⟩:=exN (w.alloc (.cells #[.bool lf,.slice a1 u c1,.slice a2 O c2,.slice a3 Q c3] 102));have B1:Hid (Below w.heap.size w W1):=by rw[<-a4];exact za9 _ _
 have K:Hid (Nb W1 102 w.heap.size lf (.slice a1 u c1) (.slice a2 O c2) (.slice a3 Q c3)):=by rw[<-a4];exact nb_new _ _ _ _ _ _
 have H1:=za0 (H.o.below B1.o);have p0:=K.o.c0;have p1:=K.o.c1;have p2:=K.o.c2;have p3:=K.o.c3;clear h hs H
 go_enter Tryz.func140,Tryz.ntmps140
 go_wp2_with fail
 go_loop [3,4] (λ s i=>∃(k:Nat)(z:Int),k<=u/\i=.int .i64 k/\s=.int .i64 z/\Hid (z=W (szN n k))) (λ _ i=>u-(intOf i).toNat)
 case atStart=>exact⟨0,1,zn7 _,rfl,rfl,by show(1:Int)=W 1;rw[zbm9 (by omega)];rfl⟩
 case round=>
  obtain⟨k,z,hk,rfl,rfl,A⟩:=hrel;by_cases a7:k<u
  .obtain⟨b,o,rfl,ck⟩:=H1.o.key (i:=k) (by rw[a0.o];exact a7);obtain⟨a8,E⟩:=exH (kA n k);rw[E.o]at ck;cases lf with
   | true=>
    by_cases hv:k<O
    .obtain⟨b2,o2,rfl,cv⟩:=H1.o.val (i:=k) (by rw[T.o];exact hv);obtain⟨val,a5⟩:=exH (vA n k);rw[a5.o]at cv;go_wp2_with fail
     go_round
     case rel=>exact⟨k+1,_,by omega,by go_num,rfl,by
      show _=_;rw[zpp9 I.o,E.o,a5.o,A.o];unfold W;simp only[zaw9];congr 1;omega⟩
     case measure=>simp[intOf];omega
    .go_wp2_with fail
     go_round
     case rel=>exact⟨k+1,_,by omega,by go_num,rfl,by
      show _=_;rw[zpp9 I.o,E.o,zto9 (by rw[T.o];exact hv),A.o];unfold W;simp only[zaw9];congr 1;omega⟩
     case measure=>simp[intOf];omega
   | false=>
    by_cases hv:k<Q
    .go_wp2_with fail
     go_round
     case rel=>exact⟨k+1,_,by omega,by go_num,rfl,by
      show _=_;rw[zyy9 I.o (by rw[Y.o];exact hv),E.o,A.o];unfold W;simp only[zaw9];congr 1;omega⟩
     case measure=>simp[intOf];omega
    .go_wp2_with fail
     go_round
     case rel=>exact⟨k+1,_,by omega,by go_num,rfl,by
      show _=_;rw[zwa9 I.o (by rw[Y.o];exact hv),E.o,A.o];unfold W;simp only[zaw9];congr 1;omega⟩
     case measure=>simp[intOf];omega
  .have a6:k=u:=by omega
   rw[a6]at A;obtain rfl:z=W (szN n u):=A.o;go_wp2_with fail;go_ret;exact⟨rfl,B1.o⟩
def zho9(n:Nd)(u1 u2 u3:Value)(k:Nat)(w:World)(h:Nn w n u1 u2 u3)(O:Sm n)(hk:k<n.ks.length):
 Calls Tryz.prog 173 #[nod n.lf u1 u2 u3,.int .i64 (k:Int)] w λ e w'=>e=.returned (.int .i64 (szA n k:Int))/\Below w.heap.size w w':=by
 obtain⟨a1,c1,a2,c2,a3,c3,rfl,rfl,rfl,⟨l1,l2,l3,l4,l5,l6⟩,_,_,_⟩:=h.o;have H:=za0 h;have HS:=za0 O;have a5:=O.ks k;have ac:=O.vs k;obtain⟨L1,a8⟩:=exH n.ks.length;obtain⟨T,a0⟩:=exH n.vs.length;obtain⟨Y,a4⟩:=exH n.kd.length;rw[a8.o]at H l1 hk |-
 rw[a0.o]at H l3 |-
 rw[a4.o]at H l5 |-
 obtain⟨lf,K⟩:=exH n.lf;rw[K.o];unfold nod;obtain⟨W1,a9⟩:=exN (w.alloc (.cells #[.bool lf,.slice a1 L1 c1,.slice a2 T c2,.slice a3 Y c3] 93));have u:Hid (Below w.heap.size w W1):=by rw[<-a9];exact za9 _ _
 have I:Hid (Nb W1 93 w.heap.size lf (.slice a1 L1 c1) (.slice a2 T c2) (.slice a3 Y c3)):=by rw[<-a9];exact nb_new _ _ _ _ _ _
 have H1:=za0 (H.o.below u.o);have p0:=I.o.c0;have p1:=I.o.c1;have p2:=I.o.c2;have p3:=I.o.c3;clear h O H;obtain⟨b,o,rfl,ck⟩:=H1.o.key (i:=k) (by rw[a8.o];exact hk);obtain⟨Q,A⟩:=exH (kA n k);obtain⟨r,hr⟩:=exH (szA n k);rw[hr.o];rw[A.o]at ck a5;have E:=za0 a5;have a7:=za0 ac;clear a5 ac;cases lf with
 | true=>
  by_cases hv:k<T
  .obtain⟨b2,o2,rfl,cv⟩:=H1.o.val (i:=k) (by rw[a0.o];exact hv);obtain⟨val,ab⟩:=exH (vA n k);rw[ab.o]at cv a7
   go_enter Tryz.func173,Tryz.ntmps173
   go_wp2_with fail;go_ret;refine⟨congrArg (λ x=>Ending.returned (.int .i64 x)) (?_:wrap64 (wrap64 (wrap64 (1 + ↑Q.size)+1) + ↑val.size)=(r:Int)),u.o⟩;rw[<-hr.o,szA,if_pos K.o,A.o,ab.o];simp only[zaw9];have h1:=E.o;have h2:=a7.o;unfold wrap64;omega
  .go_enter Tryz.func173,Tryz.ntmps173
   go_wp2_with fail;go_ret;refine⟨congrArg (λ x=>Ending.returned (.int .i64 x)) (?_:wrap64 (wrap64 (1 + ↑Q.size)+1)=(r:Int)),u.o⟩;rw[<-hr.o,szA,if_pos K.o,A.o,zto9 (by rw[a0.o];exact hv)];simp only[zaw9];have h1:=E.o;unfold wrap64;omega
 | false=>
  have aa:¬n.lf=true:=by rw[K.o];decide
  have a6:=za0 aa;clear aa;by_cases hv:k<Y
  .go_enter Tryz.func173,Tryz.ntmps173
   go_wp2_with fail;go_ret;refine⟨congrArg (λ x=>Ending.returned (.int .i64 x)) (?_:wrap64 (wrap64 (1 + ↑Q.size)+2)=(r:Int)),u.o⟩;rw[<-hr.o,szA,if_neg a6.o,if_pos (by rw[a4.o];exact hv),A.o];simp only[zaw9];have h1:=E.o;unfold wrap64;omega
  .go_enter Tryz.func173,Tryz.ntmps173
   go_wp2_with fail;go_ret;refine⟨congrArg (λ x=>Ending.returned (.int .i64 x)) (?_:wrap64 (1 + ↑Q.size)=(r:Int)),u.o⟩;rw[<-hr.o,szA,if_neg a6.o,if_neg (by rw[a4.o];exact hv),A.o];have h1:=E.o;unfold wrap64;omega
def zcg9(n:Nd)(u1 u2 u3:Value)(w:World)(h:Nn w n u1 u2 u3)(hs:Sm n):
 Calls Tryz.prog 157 #[nod n.lf u1 u2 u3] w λ e w'=>e=.returned (.int .i64 (W (szN n n.ks.length)))/\Below w.heap.size w w':=by
 obtain⟨Q,c1,T,c2,Y,c3,rfl,rfl,rfl,⟨l1,l2,l3,l4,l5,l6⟩,_,_,_⟩:=h.o;have H:=za0 h;have HS:=za0 hs;obtain⟨u,a1⟩:=exH n.ks.length;obtain⟨K,a3⟩:=exH n.vs.length;obtain⟨O,a4⟩:=exH n.kd.length;rw[a1.o]at H l1 |-
 rw[a3.o]at H l3 |-
 rw[a4.o]at H l5 |-
 obtain⟨lf,a2⟩:=exH n.lf;rw[a2.o];unfold nod;obtain⟨A,a0⟩:=exN (w.alloc (.cells #[.bool lf,.slice Q u c1,.slice T K c2,.slice Y O c3] 93));have I:Hid (Below w.heap.size w A):=by rw[<-a0];exact za9 _ _
 have V1:Hid (Nb A 93 w.heap.size lf (.slice Q u c1) (.slice T K c2) (.slice Y O c3)):=by rw[<-a0];exact nb_new _ _ _ _ _ _
 have H1:=za0 (H.o.below I.o);have HC:Hid (∀(W:World)(k:Nat),Below A.heap.size A W->k<u->Calls Tryz.prog 173 #[.agg #[.bool lf,.slice Q u c1,.slice T K c2,.slice Y O c3],.int .i64 (k:Int)] W λ e w'=>e=.returned (.int .i64 (szA n k:Int))/\Below W.heap.size W w'):=λ W k hb hk=>by have:=zho9 n _ _ _ k W (H1.o.below hb) HS.o (by rw[a1.o];exact hk);rw[a2.o]at this;exact this
 have p1:=V1.o.c1;clear h hs H
 go_enter Tryz.func157,Tryz.ntmps157
 go_wp2_with fail;clear p1 a0
 go_loopw [3,8] (λ s i wr=>∃(k:Nat)(z:Int),k<=u/\i=.int .i64 k/\s=.int .i64 z/\Hid (z=W (szN n k))/\Hid (Below A.heap.size A wr)) (λ _ i _=>u-(intOf i).toNat)
 case atStart=>exact⟨0,1,zn7 _,rfl,rfl,by show(1:Int)=W 1;rw[zbm9 (by omega)];rfl,Below.refl _ _⟩
 case round=>
  obtain⟨k,z,hk,rfl,rfl,hz,BR⟩:=hrel;by_cases a6:k<u
  .have E:=za0 (V1.o.below BR.o);have p0:=E.o.c0;have p1:=E.o.c1;have p2:=E.o.c2;have p3:=E.o.c3;go_wp2_with fail;refine(HC.o wr k BR.o a6).mono ?_;rintro e w2 ⟨rfl,b2⟩;have B2:=za0 (BR.o.trans (b2.mono BR.o.size));obtain⟨r,hr⟩:=exH (szA n k);rw[hr.o];clear b2 BR E p0 p1 p2 p3;go_wp2_with fail
   go_roundw
   case rel=>exact⟨k+1,_,by omega,by go_num,rfl,by
    show _=_;rw[hz.o,W_add,szN,hr.o],B2⟩
   case measure=>simp[intOf];omega
  .have a5:k=u:=by omega
   rw[a5]at hz;obtain rfl:z=W (szN n u):=hz.o;go_wp2_with fail;go_ret;exact⟨rfl,I.o.trans (BR.o.mono I.o.size)⟩
def tdiv2(z:Int):(0<=z/\z.tdiv 2=z / 2)\/(z<0/\z.tdiv 2=-((-z) / 2)):=by
 by_cases h:0<=z
 .exact .inl ⟨h,Int.tdiv_eq_ediv_of_nonneg h⟩
 .refine .inr ⟨by omega,?_⟩;have:(-(-z)).tdiv 2=-((-z).tdiv 2):=Int.neg_tdiv _ _;rw[Int.neg_neg]at this;rw[this,Int.tdiv_eq_ediv_of_nonneg (by omega)]
def hlfN(n:Nd):Int:=(W (szN n n.ks.length)).tdiv 2
structure MidR(n:Nd)(m:Nat):Prop where
 one:1<=m
 lt:m+1<=n.ks.length
 no:∀k,1<=k->k<m->W (szN n k)<hlfN n
 yes:m+1=n.ks.length\/hlfN n<=W (szN n m)
def MidR.same{n:Nd}{m A:Nat}(h:MidR n m)(u:MidR n A):m=A:=by
 rcases Nat.lt_trichotomy m A with c|c|c
 .have:=u.no m h.one c;have:=u.lt;rcases h.yes with e|e
  .omega
  .omega
 .exact c
 .have:=h.no A u.one c;have:=h.lt;rcases u.yes with e|e
  .omega
  .omega
def zoi9(n:Nd)(u1 u2 u3:Value)(w:World)(h:Nn w n u1 u2 u3)(I:Sm n)(O:2<=n.ks.length):
 Calls Tryz.prog 175 #[nod n.lf u1 u2 u3] w λ e w'=>(∃m:Nat,e=.returned (.int .i64 (m:Int))/\MidR n m)/\Below w.heap.size w w':=by
 obtain⟨a1,c1,a2,c2,a3,c3,rfl,rfl,rfl,⟨l1,l2,l3,l4,l5,l6⟩,_,_,_⟩:=h.o;have H:=za0 h;have HS:=za0 I;obtain⟨u,E⟩:=exH n.ks.length;obtain⟨L2,a6⟩:=exH n.vs.length;obtain⟨L3,a7⟩:=exH n.kd.length;rw[E.o]at H l1 O |-
 rw[a6.o]at H l3 |-
 rw[a7.o]at H l5 |-
 obtain⟨lf,a5⟩:=exH n.lf;rw[a5.o];unfold nod;obtain⟨A,a4⟩:=exN (w.alloc (.cells #[.bool lf,.slice a1 u c1,.slice a2 L2 c2,.slice a3 L3 c3] 93));have T:Hid (Below w.heap.size w A):=by rw[<-a4];exact za9 _ _
 have Y:Hid (Nb A 93 w.heap.size lf (.slice a1 u c1) (.slice a2 L2 c2) (.slice a3 L3 c3)):=by rw[<-a4];exact nb_new _ _ _ _ _ _
 have H1:=za0 (H.o.below T.o);have HC:Hid (∀(W:World)(k:Nat),Below A.heap.size A W->k<u->Calls Tryz.prog 173 #[.agg #[.bool lf,.slice a1 u c1,.slice a2 L2 c2,.slice a3 L3 c3],.int .i64 (k:Int)] W λ e w'=>e=.returned (.int .i64 (szA n k:Int))/\Below W.heap.size W w'):=λ W k hb hk=>by have:=zho9 n _ _ _ k W (H1.o.below hb) HS.o (by rw[E.o];exact hk);rw[a5.o]at this;exact this
 obtain⟨z,hz⟩:∃z:Int,Hid (W (szN n u)=z):=⟨_,rfl⟩
 have HZ:Hid (∀(W:World),Below A.heap.size A W->Calls Tryz.prog 157 #[.agg #[.bool lf,.slice a1 u c1,.slice a2 L2 c2,.slice a3 L3 c3]] W λ e w'=>e=.returned (.int .i64 z)/\Below W.heap.size W w'):=λ W hb=>by have:=zcg9 n _ _ _ W (H1.o.below hb) HS.o;rw[a5.o,E.o,hz.o]at this;exact this
 have ah:-9223372036854775808<=z/\z<=9223372036854775807:=by rw[<-hz.o];exact W_in _
 obtain⟨y,hy⟩:∃y:Int,Hid (z.tdiv 2=y):=⟨_,rfl⟩
 have ag:IntKind.i64.wrap (z.tdiv 2)=y:=by have:=tdiv2 z;rw[IntKind.wrap_i64,<-hy.o];omega
 have HY:Hid (hlfN n=y):=by show _=_;unfold hlfN;rw[E.o,hz.o,hy.o]
 have ab:IntKind.i64.wrap ((u:Int)-1)=((u-1:Nat):Int):=by rw[IntKind.wrap_i64];omega
 obtain⟨Q,hQ⟩:=exN (u-1);rw[hQ]at ab;have a0:Hid (Q+1=u):=by show _=_;omega
 have a8:1<=Q:=by omega
 have ad:Q<=9223372036854775806:=by omega
 have p0:=Y.o.c0;have p1:=Y.o.c1;have p2:=Y.o.c2;have p3:=Y.o.c3;clear h I H O hQ
 go_enter Tryz.func175,Tryz.ntmps175
 go_wp2_with fail;refine(HZ.o _ (Below.refl _ _)).mono ?_;rintro e w0 ⟨rfl,b0⟩;have B0:=za0 b0;clear b0 p0 p1 p2 p3 a4;go_wp2_with fail
 go_loopw [5,15] (λ s i wr=>∃(k:Nat)(z:Int),k<=Q/\i=.int .i64 k/\s=.int .i64 z/\Hid (z=W (szN n k))/\Hid (∀j,1<=j->j<=k->W (szN n j)<y)/\Hid (Below A.heap.size A wr)) (λ _ i _=>Q-(intOf i).toNat)
 case atStart=>exact⟨0,1,zn7 _,rfl,rfl,by show(1:Int)=W 1;rw[zbm9 (by omega)];rfl,λ j K O=>by omega,B0⟩
 case round=>
  clear B0;obtain⟨k,z',hk,rfl,rfl,ac,HN,BR⟩:=hrel;by_cases ae:k<Q
  .have V2:=za0 (Y.o.below BR.o);have p0:=V2.o.c0;have p1:=V2.o.c1;have p2:=V2.o.c2;have p3:=V2.o.c3;go_wp2_with fail;refine(HC.o wr k BR.o (by have:=a0.o;omega)).mono ?_;rintro e w2 ⟨rfl,b2⟩;have B2:=za0 (BR.o.trans (b2.mono BR.o.size));obtain⟨r,hr⟩:=exH (szA n k);rw[hr.o];obtain⟨s,I⟩:∃s:Int,Hid (W (szN n (k+1))=s):=⟨_,rfl⟩
   (have af:IntKind.i64.wrap (z'+(r:Int))=s:=by rw[show IntKind.i64.wrap (z'+(r:Int))=wrap64 (z'+(r:Int))from(by first|rfl|simp|(rw[IntKind.wrap_i64];unfold wrap64;omega)),ac.o,W_add,<-hr.o];exact I.o);clear b2 BR V2 p0 p1 p2 p3;by_cases a9:y<=s
   .go_wp2_with fail;go_ret;refine⟨⟨k+1,by first|rfl|go_num,by omega,by rw[E.o];have:=a0.o;omega,λ j K O=>?_,.inr ?_⟩,T.o.trans (B2.o.mono T.o.size)⟩
    .rw[HY.o];exact HN.o j K (by omega)
    .rw[HY.o,I.o];exact a9
   .go_wp2_with fail
    go_roundw
    case rel=>exact⟨k+1,s,by omega,by go_num,rfl,I.o.symm,λ j K O=>by
     by_cases c:j=k+1
     .rw[c,I.o];omega
     .exact HN.o j K (by omega),B2⟩
    case measure=>simp[intOf];omega
  .have aa:k=Q:=by omega
   subst aa;go_wp2_with fail;go_ret;refine⟨⟨k,rfl,a8,by rw[E.o];have:=a0.o;omega,λ j K O=>?_,.inl ?_⟩,T.o.trans (BR.o.mono T.o.size)⟩
   .rw[HY.o];exact HN.o j K (by omega)
   .rw[E.o];exact a0.o
def zsn9(s:ByteArray):eqs s eS=(s.toList == []):=by unfold eqs eS;simp
def KeysP(n:Nd):Prop:=∀i,i<n.ks.length->kOk n i
open Classical in
noncomputable def keysN(n:Nd):Bool:=decide (KeysP n)
def zcd9{n:Nd}:keysN n=true↔∀i,i<n.ks.length->kOk n i:=by unfold keysN;exact @decide_eq_true_iff _ (Classical.propDecidable _)
def zjp9{n:Nd}{i:Nat}(hi:i<n.ks.length)(h:¬kOk n i):keysN n=false:=by
 cases e:keysN n with
 | false=>rfl
 | true=>exact absurd (zcd9.1 e i hi) h
def zle9(n:Nd)(u1 u2 u3:Value)(w:World)(h:Nn w n u1 u2 u3)(hs:Sm n):
 Calls Tryz.prog 168 #[nod n.lf u1 u2 u3] w λ e w'=>e=.returned (.bool (keysN n))/\Below w.heap.size w w':=by
 obtain⟨a1,c1,a2,c2,a3,c3,rfl,rfl,rfl,⟨l1,l2,l3,l4,l5,l6⟩,_,_,_⟩:=h.o;have H:=za0 h;have HS:=za0 hs;obtain⟨L1,a4⟩:=exH n.ks.length;obtain⟨L2,ad⟩:=exH n.vs.length;obtain⟨L3,ae⟩:=exH n.kd.length;rw[a4.o]at H l1 |-
 rw[ad.o]at H l3 |-
 rw[ae.o]at H l5 |-
 obtain⟨lf,a9⟩:=exH n.lf;rw[a9.o];unfold nod;obtain⟨W1,a8⟩:=exN (w.alloc (.cells #[.bool lf,.slice a1 L1 c1,.slice a2 L2 c2,.slice a3 L3 c3] 93));have Y:Hid (Below w.heap.size w W1):=by rw[<-a8];exact za9 _ _
 have V1:Hid (Nb W1 93 w.heap.size lf (.slice a1 L1 c1) (.slice a2 L2 c2) (.slice a3 L3 c3)):=by rw[<-a8];exact nb_new _ _ _ _ _ _
 have H1:=za0 (H.o.below Y.o);obtain⟨kn,a7⟩:=exH (keysN n);rw[a7.o];have p0:=V1.o.c0;have p1:=V1.o.c1;clear h hs H
 go_enter Tryz.func168,Tryz.ntmps168
 go_wp2_with fail
 go_loop [8] (λ i=>∃(k:Nat),k<=L1/\i=.int .i64 k/\Hid (∀j,j<k->kOk n j)) (λ i=>L1-(intOf i).toNat)
 case atStart=>exact⟨0,zn7 _,rfl,λ j hj=>by omega⟩
 case round=>
  obtain⟨k,hk,rfl,hz⟩:=hrel;by_cases aa:k<L1
  .obtain⟨b,o,rfl,ck⟩:=H1.o.key (i:=k) (by rw[a4.o];exact aa);(have A:Hid (¬kOk n k->kn=false):=λ hb=>by rw[<-a7.o];exact zjp9 (by rw[a4.o];exact aa) hb);have E:Hid (kOk n k->∀j,j<k+1->kOk n j):=λ ho j hj=>by
    by_cases e:j<k
    .exact hz.o j e
    .have:j=k:=by omega
     subst this;exact ho
   (have u:Hid (kOk n k=((kA n k).size<=24/\(0<k->lts (kA n (k-1)) (kA n k)=true)/\(n.lf=true->eqs (kA n k) eS=false))):=rfl;rw[a9.o]at u;have O:Hid (0<k->W1.cell? ⟨b,o+(k-1),none⟩=some (.string (kA n (k-1)))):=λ Q=>by obtain⟨b',o',e,c⟩:=H1.o.key (i:=k-1) (by rw[a4.o];omega);cases e;exact c);obtain⟨I,ag⟩:=exH (kA n k);obtain⟨a0,ah⟩:=exH (kA n (k-1));rw[ag.o]at ck u;rw[ah.o]at O u;have K:=za0 (zsn9 I);by_cases ac:(I.size:Int)<=24
   .have af:decide (24<(I.size:Int))=false:=by rw[zn4];omega
    (have a5:Hid (I.size<=24):=by show _<=_;omega);cases lf with
    | true=>
     cases hemp:(I.toList == [])with
     | true=>have hF:=A.o (by rw[u.o];intro h;have:=h.2.2 rfl;rw[K.o,hemp]at this;cases this);subst hF;clear A E u O K;go_wp2_with fail;go_ret;exact⟨rfl,Y.o⟩
     | false=>
      by_cases Q:0<k
      .have ab:(0:Int)<(k:Int):=by omega
       (have a6:decide ((0:Int)<(k:Int))=true:=by rw[zm0];omega);have cp:=O.o Q;cases hlt2:Op.bytesLess a0.toList I.toList with
       | true=>
        have T:=za0 (E.o (by rw[u.o];exact⟨a5.o,λ _=>hlt2,λ _=>by rw[K.o];exact hemp⟩));(have hg:(!Op.bytesLess a0.toList I.toList)=false:=by rw[hlt2];rfl);clear A E u O K;go_wp2_with fail
        go_round
        (case rel=>exact⟨k+1,by omega,by go_num,T⟩);case measure=>simp[intOf];omega
       | false=>have hF:=A.o (by rw[u.o];intro h;have:=h.2.1 Q;unfold lts at this;rw[hlt2]at this;cases this);(have hg:(!Op.bytesLess a0.toList I.toList)=true:=by rw[hlt2];rfl);subst hF;clear A E u O K;go_wp2_with fail;go_ret;exact⟨rfl,Y.o⟩
      .have a6:decide ((0:Int)<(k:Int))=false:=by rw[zn4];omega
       have T:=za0 (E.o (by rw[u.o];exact⟨a5.o,λ e=>absurd e Q,λ _=>by rw[K.o];exact hemp⟩));clear A E u O K;go_wp2_with fail
       go_round
       (case rel=>exact⟨k+1,by omega,by go_num,T⟩);case measure=>simp[intOf];omega
    | false=>
     by_cases Q:0<k
     .have ab:(0:Int)<(k:Int):=by omega
      (have a6:decide ((0:Int)<(k:Int))=true:=by rw[zm0];omega);have cp:=O.o Q;cases hlt2:Op.bytesLess a0.toList I.toList with
      | true=>
       have T:=za0 (E.o (by rw[u.o];exact⟨a5.o,λ _=>hlt2,λ e=>by cases e⟩));(have hg:(!Op.bytesLess a0.toList I.toList)=false:=by rw[hlt2];rfl);clear A E u O K;go_wp2_with fail
       go_round
       (case rel=>exact⟨k+1,by omega,by go_num,T⟩);case measure=>simp[intOf];omega
      | false=>have hF:=A.o (by rw[u.o];intro h;have:=h.2.1 Q;unfold lts at this;rw[hlt2]at this;cases this);(have hg:(!Op.bytesLess a0.toList I.toList)=true:=by rw[hlt2];rfl);subst hF;clear A E u O K;go_wp2_with fail;go_ret;exact⟨rfl,Y.o⟩
     .have a6:decide ((0:Int)<(k:Int))=false:=by rw[zn4];omega
      have T:=za0 (E.o (by rw[u.o];exact⟨a5.o,λ e=>absurd e Q,λ e=>by cases e⟩));clear A E u O K;go_wp2_with fail
      go_round
      (case rel=>exact⟨k+1,by omega,by go_num,T⟩);case measure=>simp[intOf];omega
   .have af:decide (24<(I.size:Int))=true:=by rw[zm0];omega
    have hF:=A.o (by rw[u.o];intro h;exact ac (by omega));subst hF;clear A E u O K;go_wp2_with fail;go_ret;exact⟨rfl,Y.o⟩
  .have hT:kn=true:=by rw[<-a7.o,zcd9];intro i hi;rw[a4.o]at hi;exact hz.o i (by omega)
   subst hT;go_wp2_with fail;go_ret;exact⟨rfl,Y.o⟩
def PredR(g:Prop)(w:World)(e:Ending)(w':World):Prop:=∃t:Bool,e=.returned (.bool t)/\((t=true->¬g)/\(t=false->g))/\Below w.heap.size w w'
def zon9{g:Prop}{w:World}(h:¬g):PredR g w (.returned (.bool true)) w:=⟨true,rfl,⟨λ _=>h,λ e=>by cases e⟩,Below.refl _ _⟩
def ztc9{g:Prop}{w:World}(h:g):PredR g w (.returned (.bool false)) w:=⟨false,rfl,⟨λ e=>by(cases e),λ _=>h⟩,Below.refl _ _⟩
def AllS(xs:List ByteArray):Prop:=∀i,i<xs.length->(xs.getD i eS).size<=24
open Classical in
noncomputable def allS(xs:List ByteArray):Bool:=decide (AllS xs)
def zfl9{xs:List ByteArray}:allS xs=true↔AllS xs:=by unfold allS;exact @decide_eq_true_iff _ (Classical.propDecidable _)
def zmf9{xs:List ByteArray}{i:Nat}(hi:i<xs.length)(h:¬((xs.getD i eS).size<=24)):allS xs=false:=by
 cases e:allS xs with
 | false=>rfl
 | true=>exact absurd (zfl9.1 e i hi) h
def zro9(x:ByteArray)(w:World):
 Calls Tryz.prog 170 #[.string x] w λ e w'=>PredR (x.size<=24) w e w':=by
 by_cases h:(x.size:Int)<=24
 .have u:decide (24<(x.size:Int))=false:=by rw[zn4];omega
  go_enter Tryz.func170,Tryz.ntmps170
  go_wp2_with fail;go_ret;exact ztc9 (by omega)
 .have u:24<(x.size:Int):=by omega
  go_enter Tryz.func170,Tryz.ntmps170
  go_wp2_with fail;go_ret;exact zon9 (by omega)
def znk9(v:Value)(xs:List ByteArray)(w:World)(h:RdV w v (strs xs))(hl:xs.length<=9223372036854775807):
 Calls Tryz.prog 187 #[v,.func (.func 170) #[] #[]] w λ e w'=>(∃r:Int,e=.returned (.int .i64 r)/\-1<=r/\(r=-1↔allS xs=true))/\Below w.heap.size w w':=by
 obtain⟨a,cap,rfl,l1,l2,_⟩:=h.len;have H:=za0 h;rw[zh9]at H l1 |-
 obtain⟨L,u⟩:=exH xs.length;rw[u.o]at H l1 hl |-
 have HP:Hid (∀r:Int,0<=r->¬(allS xs=true)->(∃I:Int,Ending.returned (.int .i64 r)=.returned (.int .i64 I)/\-1<=I/\(I=-1↔allS xs=true))):=λ r A ha=>⟨r,rfl,by omega,⟨λ e=>by omega,λ e=>absurd e ha⟩⟩
 clear h
 go_enter Tryz.func187,Tryz.ntmps187
 go_wp2_with fail
 go_loopw [8] (λ i wr=>∃(k:Nat),k<=L/\i=.int .i64 k/\Hid (∀i,i<k->(xs.getD i eS).size<=24)/\Hid (Below w.heap.size w wr)) (λ i _=>L-(intOf i).toNat)
 case atStart=>exact⟨0,zn7 _,rfl,λ j hj=>by omega,Below.refl _ _⟩
 case round=>
  obtain⟨k,hk,rfl,hz,BR⟩:=hrel;by_cases Y:k<L
  .obtain⟨b,o,rfl,ck⟩:=(H.o.below BR.o).at (i:=k) (c:=.string (xs.getD k eS)) (by rw[strs,zd1,zc0 (by rw[u.o];exact Y)];simp[zn3,show k<xs.length by rw[u.o];exact Y]);have HO:Hid (∀(i:Nat),i=k->((xs.getD i eS).size<=24)->∀i,i<k+1->(xs.getD i eS).size<=24):=λ i0 e0 A i T=>by
    by_cases e:i<k
    .exact hz.o i e
    .have:i=i0:=by omega
     rw[this];exact A
   (have HB:Hid (∀(i:Nat),i=k->¬((xs.getD i eS).size<=24)->¬(allS xs=true)):=λ i e A ha=>by rw[zmf9 (i:=i) (by rw[u.o];omega) A]at ha;cases ha);obtain⟨x,E⟩:=exH (xs.getD k eS);rw[E.o]at ck;go_wp2_with fail;refine(zro9 x wr).mono ?_;rintro e w2 ⟨t,rfl,ht,Q⟩;have K:=za0 (BR.o.trans (Q.mono BR.o.size));have O:=za0 ht;clear Q ht BR;cases t with
   | true=>have HN:=za0 (HB.o k rfl (by rw[E.o];exact O.o.1 rfl));go_wp2_with fail;go_ret;exact⟨HP.o _ (by omega) HN.o,K.o⟩
   | false=>
    have HK:=za0 (HO.o k rfl (by rw[E.o];exact O.o.2 rfl));go_wp2_with fail
    go_roundw
    (case rel=>exact⟨k+1,by omega,by go_num,HK,K⟩);case measure=>simp[intOf];omega
  .have HA:Hid (allS xs=true):=by show _=_;rw[zfl9];intro i T;exact hz.o i (by rw[u.o]at T;omega)
   go_wp2_with fail;go_ret;exact⟨⟨-1,rfl,by omega,λ _=>HA.o,λ _=>rfl⟩,BR.o⟩
def zgt9(v:Value)(xs:List ByteArray)(w:World)(h:RdV w v (strs xs))(Y:xs.length<=9223372036854775807):
 Calls Tryz.prog 169 #[v,.func (.func 170) #[] #[]] w λ e w'=>e=.returned (.bool (!allS xs))/\Below w.heap.size w w':=by
 have A:=za0 (znk9 v xs w h Y);obtain⟨a,cap,rfl,l1,l2,_⟩:=h.len;obtain⟨I,T⟩:=exH (allS xs);rw[T.o]at A |-
 obtain⟨Q,E⟩:=exH ((!I));rw[E.o];clear h
 go_enter Tryz.func169,Tryz.ntmps169
 go_wp2_with fail;refine A.o.mono ?_;rintro e w2 ⟨⟨r,rfl,O,u⟩,K⟩;have H:=za0 K;clear K A;by_cases hr:r=-1
 .have ha:Q=false:=by rw[<-E.o,u.1 hr];rfl
  subst ha;have hd:decide (0<=r)=false:=by rw[zn4];omega
  clear u O;subst hr;go_wp2_with fail;go_ret;exact⟨rfl,H.o⟩
 .have ha:Q=true:=by
   rw[<-E.o];cases I with
   | false=>rfl
   | true=>exact absurd (u.2 rfl) hr
  subst ha;have h0:0<=r:=by omega
  clear u O hr;go_wp2_with fail;go_ret;exact⟨rfl,H.o⟩
def AllI(xs:List Int):Prop:=∀i,i<xs.length->0<=xs.getD i 0/\xs.getD i 0<=65535
open Classical in
noncomputable def allI(xs:List Int):Bool:=decide (AllI xs)
def zfk9{xs:List Int}:allI xs=true↔AllI xs:=by unfold allI;exact @decide_eq_true_iff _ (Classical.propDecidable _)
def zme9{xs:List Int}{i:Nat}(hi:i<xs.length)(h:¬(0<=xs.getD i 0/\xs.getD i 0<=65535)):allI xs=false:=by
 cases e:allI xs with
 | false=>rfl
 | true=>exact absurd (zfk9.1 e i hi) h
def zrn9(x:Int)(w:World):
 Calls Tryz.prog 172 #[.int .i64 x] w λ e w'=>PredR (0<=x/\x<=65535) w e w':=by
 by_cases E:0<=x
 .by_cases h:x<=65535
  .have u:decide (65535<x)=false:=by rw[zn4];omega
   have A:decide (x<0)=false:=by rw[zn4];omega
   go_enter Tryz.func172,Tryz.ntmps172
   go_wp2_with fail;go_ret;exact ztc9 (by omega)
  .have u:65535<x:=by omega
   have A:decide (x<0)=false:=by rw[zn4];omega
   go_enter Tryz.func172,Tryz.ntmps172
   go_wp2_with fail;go_ret;exact zon9 (by omega)
 .have u:x<0:=by omega
  go_enter Tryz.func172,Tryz.ntmps172
  go_wp2_with fail;go_ret;exact zon9 (by omega)
def znj9(v:Value)(xs:List Int)(w:World)(h:RdV w v (nums xs))(hl:xs.length<=9223372036854775807):
 Calls Tryz.prog 91 #[v,.func (.func 172) #[] #[]] w λ e w'=>(∃r:Int,e=.returned (.int .i64 r)/\-1<=r/\(r=-1↔allI xs=true))/\Below w.heap.size w w':=by
 obtain⟨a,cap,rfl,l1,l2,_⟩:=h.len;have H:=za0 h;rw[zf9]at H l1 |-
 obtain⟨L,u⟩:=exH xs.length;rw[u.o]at H l1 hl |-
 have HP:Hid (∀r:Int,0<=r->¬(allI xs=true)->(∃I:Int,Ending.returned (.int .i64 r)=.returned (.int .i64 I)/\-1<=I/\(I=-1↔allI xs=true))):=λ r A ha=>⟨r,rfl,by omega,⟨λ e=>by omega,λ e=>absurd e ha⟩⟩
 clear h
 go_enter Tryz.func91,Tryz.ntmps91
 go_wp2_with fail
 go_loopw [8] (λ i wr=>∃(k:Nat),k<=L/\i=.int .i64 k/\Hid (∀i,i<k->0<=xs.getD i 0/\xs.getD i 0<=65535)/\Hid (Below w.heap.size w wr)) (λ i _=>L-(intOf i).toNat)
 case atStart=>exact⟨0,zn7 _,rfl,λ j hj=>by omega,Below.refl _ _⟩
 case round=>
  obtain⟨k,hk,rfl,hz,BR⟩:=hrel;by_cases Y:k<L
  .obtain⟨b,o,rfl,ck⟩:=(H.o.below BR.o).at (i:=k) (c:=.int .i64 (xs.getD k 0)) (by rw[nums,zd1,zc0 (by rw[u.o];exact Y)];simp[zn3,show k<xs.length by rw[u.o];exact Y]);have HO:Hid (∀(i:Nat),i=k->(0<=xs.getD i 0/\xs.getD i 0<=65535)->∀i,i<k+1->0<=xs.getD i 0/\xs.getD i 0<=65535):=λ i0 e0 A i T=>by
    by_cases e:i<k
    .exact hz.o i e
    .have:i=i0:=by omega
     rw[this];exact A
   (have HB:Hid (∀(i:Nat),i=k->¬(0<=xs.getD i 0/\xs.getD i 0<=65535)->¬(allI xs=true)):=λ i e A ha=>by rw[zme9 (i:=i) (by rw[u.o];omega) A]at ha;cases ha);obtain⟨x,E⟩:=exH (xs.getD k 0);rw[E.o]at ck;go_wp2_with fail;refine(zrn9 x wr).mono ?_;rintro e w2 ⟨t,rfl,ht,Q⟩;have K:=za0 (BR.o.trans (Q.mono BR.o.size));have O:=za0 ht;clear Q ht BR;cases t with
   | true=>have HN:=za0 (HB.o k rfl (by rw[E.o];exact O.o.1 rfl));go_wp2_with fail;go_ret;exact⟨HP.o _ (by omega) HN.o,K.o⟩
   | false=>
    have HK:=za0 (HO.o k rfl (by rw[E.o];exact O.o.2 rfl));go_wp2_with fail
    go_roundw
    (case rel=>exact⟨k+1,by omega,by go_num,HK,K⟩);case measure=>simp[intOf];omega
  .have HA:Hid (allI xs=true):=by show _=_;rw[zfk9];intro i T;exact hz.o i (by rw[u.o]at T;omega)
   go_wp2_with fail;go_ret;exact⟨⟨-1,rfl,by omega,λ _=>HA.o,λ _=>rfl⟩,BR.o⟩
def zgs9(v:Value)(xs:List Int)(w:World)(h:RdV w v (nums xs))(Y:xs.length<=9223372036854775807):
 Calls Tryz.prog 171 #[v,.func (.func 172) #[] #[]] w λ e w'=>e=.returned (.bool (!allI xs))/\Below w.heap.size w w':=by
 have A:=za0 (znj9 v xs w h Y);obtain⟨a,cap,rfl,l1,l2,_⟩:=h.len;obtain⟨I,T⟩:=exH (allI xs);rw[T.o]at A |-
 obtain⟨Q,E⟩:=exH ((!I));rw[E.o];clear h
 go_enter Tryz.func171,Tryz.ntmps171
 go_wp2_with fail;refine A.o.mono ?_;rintro e w2 ⟨⟨r,rfl,O,u⟩,K⟩;have H:=za0 K;clear K A;by_cases hr:r=-1
 .have ha:Q=false:=by rw[<-E.o,u.1 hr];rfl
  subst ha;have hd:decide (0<=r)=false:=by rw[zn4];omega
  clear u O;subst hr;go_wp2_with fail;go_ret;exact⟨rfl,H.o⟩
 .have ha:Q=true:=by
   rw[<-E.o];cases I with
   | false=>rfl
   | true=>exact absurd (u.2 rfl) hr
  subst ha;have h0:0<=r:=by omega
  clear u O hr;go_wp2_with fail;go_ret;exact⟨rfl,H.o⟩
def zog9{n:Nd}(h:n.lf=true):MayP n↔1<=n.ks.length/\W (szN n n.ks.length)<=240/\keysN n=true/\n.vs.length=n.ks.length/\n.kd.length=0/\allS n.vs=true:=by unfold MayP;rw[if_pos h,zcd9,zfl9];exact⟨λ⟨a,b,c,d,e,f⟩=>⟨a,b,c,e,f,d⟩,λ⟨a,b,c,e,f,d⟩=>⟨a,b,c,d,e,f⟩⟩
def zjv9{n:Nd}(h:n.lf=false):MayP n↔1<=n.ks.length/\W (szN n n.ks.length)<=240/\keysN n=true/\n.kd.length=n.ks.length/\n.vs.length=0/\allI n.kd=true:=by unfold MayP;rw[if_neg (by rw[h];decide),zcd9,zfk9];exact⟨λ⟨a,b,c,d,e,f⟩=>⟨a,b,c,e,f,d⟩,λ⟨a,b,c,e,f,d⟩=>⟨a,b,c,d,e,f⟩⟩
def zet9(n:Nd)(u1 u2 u3:Value)(w:World)(h:Nn w n u1 u2 u3)(hs:Sm n):
 Calls Tryz.prog 155 #[nod n.lf u1 u2 u3] w λ e w'=>e=.returned (.bool (mayN n))/\Below w.heap.size w w':=by
 obtain⟨a1,c1,a2,c2,a3,c3,rfl,rfl,rfl,⟨l1,l2,l3,l4,l5,l6⟩,_,_,_⟩:=h.o;have H:=za0 h;have HS:=za0 hs;obtain⟨A,a4⟩:=exH n.ks.length;obtain⟨E,a5⟩:=exH n.vs.length;obtain⟨I,a6⟩:=exH n.kd.length;rw[a4.o]at H l1 |-
 rw[a5.o]at H l3 |-
 rw[a6.o]at H l5 |-
 obtain⟨lf,a0⟩:=exH n.lf;rw[a0.o];unfold nod;obtain⟨Q,a9⟩:=exN (w.alloc (.cells #[.bool lf,.slice a1 A c1,.slice a2 E c2,.slice a3 I c3] 93));have B1:Hid (Below w.heap.size w Q):=by rw[<-a9];exact za9 _ _
 have V1:Hid (Nb Q 93 w.heap.size lf (.slice a1 A c1) (.slice a2 E c2) (.slice a3 I c3)):=by rw[<-a9];exact nb_new _ _ _ _ _ _
 have H1:=za0 (H.o.below B1.o);obtain⟨u,a8⟩:=exH (mayN n);rw[a8.o];obtain⟨kn,a7⟩:=exH (keysN n);obtain⟨z,hz⟩:=exH (W (szN n n.ks.length));obtain⟨av,ab⟩:=exH (allS n.vs);obtain⟨ad,aa⟩:=exH (allI n.kd);have HL:Hid (lf=true->(u=true↔1<=A/\z<=240/\kn=true/\E=A/\I=0/\av=true)):=λ e=>by have:=zog9 (n:=n) (by rw[a0.o];exact e);rw[<-zq9,a8.o,hz.o,a7.o,ab.o,a4.o,a5.o,a6.o]at this;exact this
 have HI:Hid (lf=false->(u=true↔1<=A/\z<=240/\kn=true/\I=A/\E=0/\ad=true)):=λ e=>by have:=zjv9 (n:=n) (by rw[a0.o];exact e);rw[<-zq9,a8.o,hz.o,a7.o,aa.o,a4.o,a5.o,a6.o]at this;exact this
 have HF:Hid (¬(1<=A/\z<=240/\kn=true)->u=false):=λ hh=>by
  cases u with
  | false=>rfl
  | true=>
   cases lf with
   | true=>exact absurd ((HL.o rfl).1 rfl) (λ⟨x,y,q,_⟩=>hh ⟨x,y,q⟩)
   | false=>exact absurd ((HI.o rfl).1 rfl) (λ⟨x,y,q,_⟩=>hh ⟨x,y,q⟩)
 have ae:Hid (∀W,Below Q.heap.size Q W->Calls Tryz.prog 168 #[.agg #[.bool lf,.slice a1 A c1,.slice a2 E c2,.slice a3 I c3]] W λ e w'=>e=.returned (.bool kn)/\Below W.heap.size W w'):=λ W hb=>by have:=zle9 n _ _ _ W (H1.o.below hb) HS.o;rw[a0.o,a7.o]at this;exact this
 have ag:Hid (∀W,Below Q.heap.size Q W->Calls Tryz.prog 157 #[.agg #[.bool lf,.slice a1 A c1,.slice a2 E c2,.slice a3 I c3]] W λ e w'=>e=.returned (.int .i64 z)/\Below W.heap.size W w'):=λ W hb=>by have:=zcg9 n _ _ _ W (H1.o.below hb) HS.o;rw[a0.o,hz.o]at this;exact this
 have af:Hid (∀W,Below Q.heap.size Q W->Calls Tryz.prog 169 #[.slice a2 E c2,.func (.func 170) #[] #[]] W λ e w'=>e=.returned (.bool (!av))/\Below W.heap.size W w'):=λ W hb=>by have:=zgt9 _ n.vs W (H1.o.below hb).v (by have:=HS.o.vl;omega);rw[ab.o]at this;exact this
 have ac:Hid (∀W,Below Q.heap.size Q W->Calls Tryz.prog 171 #[.slice a3 I c3,.func (.func 172) #[] #[]] W λ e w'=>e=.returned (.bool (!ad))/\Below W.heap.size W w'):=λ W hb=>by have:=zgs9 _ n.kd W (H1.o.below hb).d (by have:=HS.o.dl;omega);rw[aa.o]at this;exact this
 have p0:=V1.o.c0;have p1:=V1.o.c1;have p2:=V1.o.c2;have p3:=V1.o.c3;clear h hs H HS a8 a7 hz ab aa a0 a4 a5 a6 H1;by_cases h1:1<=A
 .have e1:((A:Int)==0)=false:=by rw[zl0];omega
  go_enter Tryz.func155,Tryz.ntmps155
  go_wp2_with fail;refine(ae.o Q (Below.refl _ _)).mono ?_;rintro e w2 ⟨rfl,b2⟩;have V2:=za0 (V1.o.below b2);have B2:=za0 b2;clear b2 p0 p1 p2 p3 a9;have p0:=V2.o.c0;have p1:=V2.o.c1;have p2:=V2.o.c2;have p3:=V2.o.c3;cases kn with
  | false=>obtain rfl:u=false:=HF.o (λ h=>by cases h.2.2);go_wp2_with fail;go_ret;exact⟨rfl,B1.o.trans (B2.o.mono B1.o.size)⟩
  | true=>
   go_wp2_with fail;refine(ag.o w2 B2.o).mono ?_;rintro e w3 ⟨rfl,b3⟩;have V3:=za0 (V2.o.below b3);have B3:=za0 (B2.o.trans (b3.mono B2.o.size));have Y:=za0 (B1.o.trans (B3.o.mono B1.o.size));clear b3 p0 p1 p2 p3;have p0:=V3.o.c0;have p1:=V3.o.c1;have p2:=V3.o.c2;have p3:=V3.o.c3;by_cases h2:z<=240
   .have e2:decide (240<z)=false:=by rw[zn4];omega
    clear HF;cases lf with
    | true=>
     have O:Hid (u=true↔1<=A/\z<=240/\E=A/\I=0/\av=true):=⟨λ e=>(λ q=>⟨q.1,q.2.1,q.2.2.2⟩) ((HL.o rfl).1 e),λ q=>(HL.o rfl).2 ⟨q.1,q.2.1,(by trivial),q.2.2⟩⟩
     have K:Hid (¬(E=A/\I=0/\av=true)->u=false):=λ hh=>by
      cases u with
      | false=>rfl
      | true=>exact absurd (O.o.1 rfl) (λ x=>hh x.2.2)
     clear HL HI;by_cases T:E=A
     .have e3:((E:Int)==(A:Int))=true:=by rw[beq_iff_eq];omega
      by_cases h4:I=0
      .have e4:((I:Int)==0)=true:=by rw[beq_iff_eq];omega
       have HQ:Hid (av=true->u=true):=λ e=>O.o.2 ⟨h1,h2,T,h4,e⟩;have HR:Hid (av=false->u=false):=λ e=>K.o (λ x=>by rw[e]at x;cases x.2.2);clear T h4 O K;go_wp2_with fail;refine(af.o w3 B3.o).mono ?_;rintro e w4 ⟨rfl,b4⟩;have BG:=za0 (Y.o.trans (b4.mono Y.o.size));clear b4 p0 p1 p2 p3;cases av with
       | true=>obtain rfl:u=true:=HQ.o rfl;go_wp2_with fail;go_ret;exact⟨rfl,BG.o⟩
       | false=>obtain rfl:u=false:=HR.o rfl;go_wp2_with fail;go_ret;exact⟨rfl,BG.o⟩
      .have e4:((I:Int)==0)=false:=by rw[zl0];omega
       obtain rfl:u=false:=K.o (λ x=>h4 x.2.1);clear T h4 O K;go_wp2_with fail;go_ret;exact⟨rfl,Y.o⟩
     .have e3:((E:Int)==(A:Int))=false:=by rw[zl0];omega
      obtain rfl:u=false:=K.o (λ x=>T x.1);clear T O K;go_wp2_with fail;go_ret;exact⟨rfl,Y.o⟩
    | false=>
     have O:Hid (u=true↔1<=A/\z<=240/\I=A/\E=0/\ad=true):=⟨λ e=>(λ q=>⟨q.1,q.2.1,q.2.2.2⟩) ((HI.o rfl).1 e),λ q=>(HI.o rfl).2 ⟨q.1,q.2.1,(by trivial),q.2.2⟩⟩
     have K:Hid (¬(I=A/\E=0/\ad=true)->u=false):=λ hh=>by
      cases u with
      | false=>rfl
      | true=>exact absurd (O.o.1 rfl) (λ x=>hh x.2.2)
     clear HL HI;by_cases T:I=A
     .have e3:((I:Int)==(A:Int))=true:=by rw[beq_iff_eq];omega
      by_cases h4:E=0
      .have e4:((E:Int)==0)=true:=by rw[beq_iff_eq];omega
       have HQ:Hid (ad=true->u=true):=λ e=>O.o.2 ⟨h1,h2,T,h4,e⟩;have HR:Hid (ad=false->u=false):=λ e=>K.o (λ x=>by rw[e]at x;cases x.2.2);clear T h4 O K;go_wp2_with fail;refine(ac.o w3 B3.o).mono ?_;rintro e w4 ⟨rfl,b4⟩;have BG:=za0 (Y.o.trans (b4.mono Y.o.size));clear b4 p0 p1 p2 p3;cases ad with
       | true=>obtain rfl:u=true:=HQ.o rfl;go_wp2_with fail;go_ret;exact⟨rfl,BG.o⟩
       | false=>obtain rfl:u=false:=HR.o rfl;go_wp2_with fail;go_ret;exact⟨rfl,BG.o⟩
      .have e4:((E:Int)==0)=false:=by rw[zl0];omega
       obtain rfl:u=false:=K.o (λ x=>h4 x.2.1);clear T h4 O K;go_wp2_with fail;go_ret;exact⟨rfl,Y.o⟩
     .have e3:((I:Int)==(A:Int))=false:=by rw[zl0];omega
      obtain rfl:u=false:=K.o (λ x=>T x.1);clear T O K;go_wp2_with fail;go_ret;exact⟨rfl,Y.o⟩
   .have e2:240<z:=by omega
    obtain rfl:u=false:=HF.o (λ h=>h2 h.2.1);go_wp2_with fail;go_ret;exact⟨rfl,Y.o⟩
 .have e0:A=0:=by omega
  obtain rfl:u=false:=HF.o (λ h=>h1 h.1);subst e0;clear h1
  go_enter Tryz.func155,Tryz.ntmps155
  go_wp2_with fail;go_ret;exact⟨rfl,B1.o⟩
def szN_le{n:Nd}{m:Nat}(A:∀i,i<m->(kA n i).size<=24)(hv:n.lf=true->∀i,i<m->(vA n i).size<=24)(k:Nat)(h:k<=m):szN n k<=1+k*51:=by
 induction k with
 | zero=>simp[szN]
 | succ k E=>
  have H:=E (by omega);have I:=A k (by omega);have K:szA n k<=51:=by
   unfold szA;by_cases u:n.lf=true
   .have:=hv u k (by omega);rw[if_pos u];omega
   .rw[if_neg u];split<;>omega
  simp only[szN];omega
def szN_ge(n:Nd)(k:Nat):1+k<=szN n k:=by
 induction k with
 | zero=>simp[szN]
 | succ k u=>simp only[szN,szA];omega
def zpq9(n:Nd){j k:Nat}(h:j<=k):szN n j<=szN n k:=by
 induction k with
 | zero => have : j = 0 := by omega
           subst this;exact zn6 _
 | succ k u=>
  by_cases e:j<=k
  .have:=u e;simp only[szN];omega
  .have:j=k+1:=by omega
   subst this;exact zn6 _
structure Rl(n:Nd):Prop where
 sz:szN n n.ks.length<=240
 len:1<=n.ks.length/\n.ks.length<=239
 ks:∀i,i<n.ks.length->(kA n i).size<=24
 vs:n.lf=true->n.vs.length=n.ks.length/\n.kd.length=0/\∀i,i<n.ks.length->(vA n i).size<=24
 kd:n.lf=false->n.kd.length=n.ks.length/\n.vs.length=0/\∀i,i<n.ks.length->0<=dA n i/\dA n i<=65535
def zco9{n:Nd}(h:MayP n)(hl:n.ks.length<=17592186043904):Rl n:=by
 obtain⟨H,I,K,u⟩:=h;have E:∀i,i<n.ks.length->(kA n i).size<=24:=λ i A=>(K i A).1;have hv:n.lf=true->n.vs.length=n.ks.length/\n.kd.length=0/\∀i,i<n.ks.length->(vA n i).size<=24:=λ e=>by rw[if_pos e]at u;exact⟨u.2.1,u.2.2,λ i A=>u.1 i (by rw[u.2.1];exact A)⟩
 have Q:n.lf=false->n.kd.length=n.ks.length/\n.vs.length=0/\∀i,i<n.ks.length->0<=dA n i/\dA n i<=65535:=λ e=>by rw[if_neg (by rw[e];decide)]at u;exact⟨u.2.1,u.2.2,λ i A=>u.1 i (by rw[u.2.1];exact A)⟩
 have T:=szN_le E (λ e=>(hv e).2.2) n.ks.length (zn6 _);have O:W (szN n n.ks.length)=(szN n n.ks.length:Int):=zbm9 (by omega);rw[O]at I;have Y:=szN_ge n n.ks.length;exact⟨by omega,⟨H,by omega⟩,E,hv,Q⟩
def zxq9{n:Nd}(h:Rl n){k:Nat}(u:k<n.ks.length):(itm n k).length=szA n k:=by
 unfold itm szA;cases e:n.lf with
 | true=>simp only[if_true,zk0,zf0,zbn9];omega
 | false=>have:=(h.kd e).1;simp only[Bool.false_eq_true,if_false,zk0,zf0,zbn9,List.length_nil];rw[if_pos (by omega)];omega
def zmv9{n:Nd}(h:Rl n){k:Nat}(A:k<=n.ks.length):(encN n k).length=szN n k:=by
 induction k with
 | zero=>rfl
 | succ k u=>simp only[encN,szN,zf0];rw[u (by omega),zxq9 h (by omega)]
def enc_le{n:Nd}(h:Rl n){k:Nat}(u:k<=n.ks.length):(encN n k).length<=240:=by rw[zmv9 h u];exact zn2 (zpq9 n u) h.sz
def zgh9(n:Nd)(u1 u2 u3:Value)(key:ByteArray)(w:World)(h:Nn w n u1 u2 u3)(hs:Sm n):
 Calls Tryz.prog 42 #[nod n.lf u1 u2 u3,.string key] w λ e w'=>e=.returned (.int .i64 (plc n key n.ks.length:Int))/\Below w.heap.size w w':=by
 obtain⟨T,c1,Y,c2,a3,c3,rfl,rfl,rfl,⟨l1,l2,l3,l4,l5,l6⟩,_,_,_⟩:=h.o;have H:=za0 h;have HS:=za0 hs;obtain⟨A,a0⟩:=exH n.ks.length;obtain⟨K,a1⟩:=exH n.vs.length;obtain⟨O,a2⟩:=exH n.kd.length;rw[a0.o]at H l1 |-
 rw[a1.o]at H l3 |-
 rw[a2.o]at H l5 |-
 obtain⟨lf,a5⟩:=exH n.lf;rw[a5.o];unfold nod;obtain⟨Q,a4⟩:=exN (w.alloc (.cells #[.bool lf,.slice T A c1,.slice Y K c2,.slice a3 O c3] 93));have B1:Hid (Below w.heap.size w Q):=by rw[<-a4];exact za9 _ _
 have V1:Hid (Nb Q 93 w.heap.size lf (.slice T A c1) (.slice Y K c2) (.slice a3 O c3)):=by rw[<-a4];exact nb_new _ _ _ _ _ _
 have H1:Hid (Nn Q n (.slice T A c1) (.slice Y K c2) (.slice a3 O c3)):=H.o.below B1.o;have p0:=V1.o.c0;have p1:=V1.o.c1;have a9:A<=8796093021952:=by have:=HS.o.kl;rw[a0.o]at this;exact this
 obtain⟨r,hr⟩:=exH (plc n key A);rw[hr.o];clear h hs H HS a1 a2
 go_enter Tryz.func42,Tryz.ntmps42
 go_wp2_with fail
 go_loop [5,10] (λ s i=>∃(k p:Nat),k<=A/\p<=k/\i=.int .i64 k/\s=.int .i64 p/\Hid (p=plc n key k)) (λ _ i=>A-(intOf i).toNat)
 case atStart=>exact⟨0,0,zn7 _,zn7 _,rfl,rfl,rfl⟩
 case round=>
  obtain⟨k,p,hk,aa,rfl,rfl,hz⟩:=hrel;by_cases a8:k<A
  .obtain⟨b,o,rfl,ck⟩:=H1.o.key (i:=k) (by rw[a0.o];exact a8);(have u:Hid (plc n key (k+1)=if n.lf=true then(if lts (kA n k) key=true then k+1 else p)else(if (lts (kA n k) key||eqs (kA n k) key)=true then k else p)):=by show _=_;rw[hz.o];rfl);rw[a5.o]at u;obtain⟨I,a7⟩:=exH (kA n k);rw[a7.o]at ck u;cases lf with
   | true=>
    cases hc:Op.bytesLess I.toList key.toList with
    | true=>
     (have E:Hid (k+1=plc n key (k+1)):=by show _=_;rw[u.o,if_pos rfl,if_pos (show lts I key=true from hc)]);clear u;go_wp2_with fail
     go_round
     (case rel=>exact⟨k+1,k+1,by omega,by omega,by go_num,by go_num,E⟩);case measure=>simp[intOf];omega
    | false=>
     (have E:Hid (p=plc n key (k+1)):=by show _=_;rw[u.o,if_pos rfl,if_neg (by unfold lts;rw[hc];decide)]);clear u;go_wp2_with fail
     go_round
     (case rel=>exact⟨k+1,p,by omega,by omega,by go_num,rfl,E⟩);case measure=>simp[intOf];omega
   | false=>
    cases hc:(Op.bytesLess I.toList key.toList||I.toList==key.toList)with
    | true=>
     (have E:Hid (k=plc n key (k+1)):=by show _=_;rw[u.o,if_neg (by decide),if_pos (show(lts I key||eqs I key)=true from hc)]);clear u;go_wp2_with fail
     go_round
     (case rel=>exact⟨k+1,k,by omega,by omega,by go_num,by first|rfl|go_num,E⟩);case measure=>simp[intOf];omega
    | false=>
     (have E:Hid (p=plc n key (k+1)):=by show _=_;rw[u.o,if_neg (by decide),if_neg (by unfold lts eqs;rw[hc];decide)]);clear u;go_wp2_with fail
     go_round
     (case rel=>exact⟨k+1,p,by omega,by omega,by go_num,rfl,E⟩);case measure=>simp[intOf];omega
  .have a6:k=A:=by omega
   (obtain rfl:r=p:=by rw[<-hr.o,hz.o,a6]);go_wp2_with fail;go_ret;exact⟨rfl,B1.o⟩
def zou9(n:Nd)(u1 u2 u3:Value)(w:World)(h:Nn w n u1 u2 u3)(hs:Sm n):
 Calls Tryz.prog 111 #[nod n.lf u1 u2 u3] w λ e w'=>e=.returned (.bool (mayN n))/\Below w.heap.size w w':=by
 obtain⟨a1,c1,a2,c2,a3,c3,rfl,rfl,rfl,⟨l1,l2,l3,l4,l5,l6⟩,_,_,_⟩:=h.o;have H:=za0 h;have HS:=za0 hs;obtain⟨A,a6⟩:=exH n.ks.length;obtain⟨E,a7⟩:=exH n.vs.length;obtain⟨I,a8⟩:=exH n.kd.length;rw[a6.o]at H l1 |-
 rw[a7.o]at H l3 |-
 rw[a8.o]at H l5 |-
 obtain⟨lf,aa⟩:=exH n.lf;rw[aa.o];unfold nod;obtain⟨W1,af⟩:=exN (w.alloc (.cells #[.bool lf,.slice a1 A c1,.slice a2 E c2,.slice a3 I c3] 102));have B1:Hid (Below w.heap.size w W1):=by rw[<-af];exact za9 _ _
 have V1:Hid (Nb W1 102 w.heap.size lf (.slice a1 A c1) (.slice a2 E c2) (.slice a3 I c3)):=by rw[<-af];exact nb_new _ _ _ _ _ _
 have H1:Hid (Nn W1 n (.slice a1 A c1) (.slice a2 E c2) (.slice a3 I c3)):=H.o.below B1.o;obtain⟨u,ae⟩:=exH (mayN n);rw[ae.o];obtain⟨kn,ad⟩:=exH (keysN n);obtain⟨z,hz⟩:=exH (W (szN n n.ks.length));have HL:Hid (lf=true->(u=true↔1<=A/\z<=240/\kn=true/\E=A/\I=0/\allS n.vs=true)):=λ e=>by have:=zog9 (n:=n) (by rw[aa.o];exact e);rw[<-zq9,ae.o,hz.o,ad.o,a6.o,a7.o,a8.o]at this;exact this
 have HI:Hid (lf=false->(u=true↔1<=A/\z<=240/\kn=true/\I=A/\E=0/\allI n.kd=true)):=λ e=>by have:=zjv9 (n:=n) (by rw[aa.o];exact e);rw[<-zq9,ae.o,hz.o,ad.o,a6.o,a7.o,a8.o]at this;exact this
 have Y:Hid (¬(1<=A/\z<=240/\kn=true)->u=false):=λ hh=>by
  cases u with
  | false=>rfl
  | true=>
   cases lf with
   | true=>exact absurd ((HL.o rfl).1 rfl) (λ⟨x,y,q,_⟩=>hh ⟨x,y,q⟩)
   | false=>exact absurd ((HI.o rfl).1 rfl) (λ⟨x,y,q,_⟩=>hh ⟨x,y,q⟩)
 have aj:Hid (∀W,Below W1.heap.size W1 W->Calls Tryz.prog 140 #[.agg #[.bool lf,.slice a1 A c1,.slice a2 E c2,.slice a3 I c3]] W λ e w'=>e=.returned (.int .i64 z)/\Below W.heap.size W w'):=λ W hb=>by have:=zln9 n _ _ _ W (H1.o.below hb) HS.o;rw[aa.o,hz.o]at this;exact this
 have HZ:Hid (kn=keysN n):=ad.o.symm;have T:Hid (True):=trivial;have p0:=V1.o.c0;have p1:=V1.o.c1;have p2:=V1.o.c2;have p3:=V1.o.c3;clear h hs H HS ae ad hz;by_cases h1:1<=A
 .have e1:decide ((A:Int)<1)=false:=by rw[zn4];omega
  go_enter Tryz.func111,Tryz.ntmps111
  go_wp2_with fail;refine(aj.o W1 (Below.refl _ _)).mono ?_;rintro e w2 ⟨rfl,b2⟩;have V2:Hid (Nb w2 102 w.heap.size lf (.slice a1 A c1) (.slice a2 E c2) (.slice a3 I c3)):=V1.o.below b2;have B2:Hid (Below W1.heap.size W1 w2):=b2;have ah:Hid (Below w.heap.size w w2):=B1.o.trans (b2.mono B1.o.size);clear b2 p0 p1 p2 p3 af;have p0:=V2.o.c0;have p1:=V2.o.c1;have p2:=V2.o.c2;have p3:=V2.o.c3;by_cases h2:z<=240
  .have e2:decide (240<z)=false:=by rw[zn4];omega
   go_wp2_with fail;clear p0 p1 p2 p3
   go_loopw [3] (λ i wr=>∃(k:Nat),k<=A/\i=.int .i64 k/\Hid (∀j,j<k->kOk n j)/\Hid (Below W1.heap.size W1 wr)) (λ i _=>A-(intOf i).toNat)
   (case atStart=>exact⟨0,zn7 _,rfl,λ j hj=>by omega,B2⟩);case round=>
    obtain⟨k,hk,rfl,al,BW⟩:=hrel;have V3:Hid (Nb wr 102 w.heap.size lf (.slice a1 A c1) (.slice a2 E c2) (.slice a3 I c3)):=V1.o.below BW.o;have p0:=V3.o.c0;have p1:=V3.o.c1;by_cases a5:k<A
    .obtain⟨b,o,rfl,ck⟩:=(H1.o.below BW.o).key (i:=k) (by rw[a6.o];exact a5);have K:Hid (¬kOk n k->u=false):=λ hb=>Y.o (λ q=>by have:=q.2.2;rw[HZ.o,zjp9 (by rw[a6.o];exact a5) hb]at this;cases this);have O:Hid (kOk n k->∀j,j<k+1->kOk n j):=λ ho j hj=>by
      by_cases e:j<k
      .exact al.o j e
      .have:j=k:=by omega
       subst this;exact ho
     (have Q:Hid (kOk n k=((kA n k).size<=24/\(0<k->lts (kA n (k-1)) (kA n k)=true)/\(n.lf=true->eqs (kA n k) eS=false))):=rfl;rw[aa.o]at Q;have HP:Hid (0<k->wr.cell? ⟨b,o+(k-1),none⟩=some (.string (kA n (k-1)))):=λ h0=>by obtain⟨b',o',e,c⟩:=(H1.o.below BW.o).key (i:=k-1) (by rw[a6.o];omega);cases e;exact c);have BR:Hid (Below w.heap.size w wr):=B1.o.trans (BW.o.mono B1.o.size);obtain⟨a0,ao⟩:=exH (kA n k);obtain⟨ag,ap⟩:=exH (kA n (k-1));rw[ao.o]at ck Q;rw[ap.o]at HP Q;have HE:Hid (eqs a0 eS=(a0.toList == [])):=zsn9 a0;clear HL HI aj ah V3;by_cases am:(a0.size:Int)<=24
     .have an:decide (24<(a0.size:Int))=false:=by rw[zn4];omega
      (have ac:Hid (a0.size<=24):=by show _<=_;omega);by_cases h0:0<k
      .have aq:(0:Int)<(k:Int):=by omega
       (have ak:decide ((0:Int)<(k:Int))=true:=by rw[zm0];omega);have cp:=HP.o h0;cases hlt2:Op.bytesLess ag.toList a0.toList with
       | true=>
        (have hg:(!Op.bytesLess ag.toList a0.toList)=false:=by rw[hlt2];rfl);cases lf with
        | true=>
         cases hemp:(a0.toList == [])with
         | true=>obtain rfl:u=false:=K.o (by rw[Q.o];intro h;have:=h.2.2 rfl;rw[HE.o,hemp]at this;cases this);clear K O Q HP HE T HZ Y;go_wp2_with fail;go_quiet (fail);go_wp2_with fail;go_ret;exact⟨rfl,BR.o.trans (Below.of_drewN _ _ _)⟩
         | false=>
          have HK:Hid (∀j,j<k+1->kOk n j):=O.o (by rw[Q.o];exact⟨ac.o,λ _=>hlt2,λ _=>by rw[HE.o];exact hemp⟩);clear K O Q HP HE T HZ Y;go_wp2_with fail;go_quiet (fail);go_wp2_with fail
          go_roundw
          (case rel=>exact⟨k+1,by omega,by go_num,HK,BW.o.trans (Below.of_drewN _ _ _)⟩);case measure=>simp[intOf];omega
        | false=>
         have HK:Hid (∀j,j<k+1->kOk n j):=O.o (by rw[Q.o];exact⟨ac.o,λ _=>hlt2,λ e=>by cases e⟩);clear K O Q HP HE T HZ Y;go_wp2_with fail;go_quiet (fail);go_wp2_with fail
         go_roundw
         (case rel=>exact⟨k+1,by omega,by go_num,HK,BW.o.trans (Below.of_drewN _ _ _)⟩);case measure=>simp[intOf];omega
       | false=>obtain rfl:u=false:=K.o (by rw[Q.o];intro h;have:=h.2.1 h0;unfold lts at this;rw[hlt2]at this;cases this);(have hg:(!Op.bytesLess ag.toList a0.toList)=true:=by rw[hlt2];rfl);clear K O Q HP HE T HZ Y;go_wp2_with fail;go_quiet (fail);go_wp2_with fail;go_ret;exact⟨rfl,BR.o.trans (Below.of_drewN _ _ _)⟩
      .have ak:decide ((0:Int)<(k:Int))=false:=by rw[zn4];omega
       cases lf with
       | true=>
        cases hemp:(a0.toList == [])with
        | true=>obtain rfl:u=false:=K.o (by rw[Q.o];intro h;have:=h.2.2 rfl;rw[HE.o,hemp]at this;cases this);clear K O Q HP HE T HZ Y;go_wp2_with fail;go_quiet (fail);go_wp2_with fail;go_ret;exact⟨rfl,BR.o.trans (Below.of_drewN _ _ _)⟩
        | false=>
         have HK:Hid (∀j,j<k+1->kOk n j):=O.o (by rw[Q.o];exact⟨ac.o,λ e=>absurd e h0,λ _=>by rw[HE.o];exact hemp⟩);clear K O Q HP HE T HZ Y;go_wp2_with fail;go_quiet (fail);go_wp2_with fail
         go_roundw
         (case rel=>exact⟨k+1,by omega,by go_num,HK,BW.o.trans (Below.of_drewN _ _ _)⟩);case measure=>simp[intOf];omega
       | false=>
        have HK:Hid (∀j,j<k+1->kOk n j):=O.o (by rw[Q.o];exact⟨ac.o,λ e=>absurd e h0,λ e=>by cases e⟩);clear K O Q HP HE T HZ Y;go_wp2_with fail;go_quiet (fail);go_wp2_with fail
        go_roundw
        (case rel=>exact⟨k+1,by omega,by go_num,HK,BW.o.trans (Below.of_drewN _ _ _)⟩);case measure=>simp[intOf];omega
     .have an:decide (24<(a0.size:Int))=true:=by rw[zm0];omega
      obtain rfl:u=false:=K.o (by rw[Q.o];intro h;exact am (by omega));clear K O Q HP HE T HZ Y;go_wp2_with fail;go_quiet (fail);go_wp2_with fail;go_ret;exact⟨rfl,BR.o.trans (Below.of_drewN _ _ _)⟩
    .have ai:Hid (kn=true):=by show _=_;rw[HZ.o,zcd9];intro i hi;rw[a6.o]at hi;exact al.o i (by omega)
     have BF:Hid (Below w.heap.size w wr):=B1.o.trans (BW.o.mono B1.o.size);have BR:=BW;have p2:=V3.o.c2;have p3:=V3.o.c3;clear T;cases lf with
     | true=>
      have T:Hid (u=true↔1<=A/\z<=240/\kn=true/\E=A/\I=0/\allS n.vs=true):=HL.o rfl;clear HL HI;have a4:Hid (u=true↔E=A/\I=0/\allS n.vs=true):=⟨λ e=>(T.o.1 e).2.2.2,λ q=>T.o.2 ⟨h1,h2,ai.o,q⟩⟩
      have a9:Hid (¬(allS n.vs=true)->u=false):=λ hh=>by
       cases u with
       | false=>rfl
       | true=>exact absurd (a4.o.1 rfl).2.2 hh
      clear T HZ Y;go_wp2_with fail
      go_loop [4] (λ i=>∃(k:Nat),k<=E/\i=.int .i64 k/\Hid (∀i,i<k->(n.vs.getD i eS).size<=24)) (λ i=>E-(intOf i).toNat)
      (case atStart=>exact⟨0,zn7 _,rfl,λ j hj=>by omega⟩);case round=>
       obtain⟨k,hk,rfl,ab⟩:=hrel;by_cases a5:k<E
       .obtain⟨b,o,rfl,ck⟩:=(H1.o.below BR.o).val (i:=k) (by rw[a7.o];exact a5);have O:Hid (((n.vs.getD k eS).size<=24)->∀i,i<k+1->(n.vs.getD i eS).size<=24):=λ h0 i hi=>by
         by_cases e:i<k
         .exact ab.o i e
         .have:i=k:=by omega
          rw[this];exact h0
        have K:Hid (¬((n.vs.getD k eS).size<=24)->u=false):=λ h0=>a9.o (λ e=>by rw[zmf9 (i:=k) (by rw[a7.o];exact a5) h0]at e;cases e);obtain⟨x,hx⟩:=exH (n.vs.getD k eS);unfold vA at ck;rw[hx.o]at ck O K;by_cases hg:(x.size:Int)<=24
        .have hd:decide (24<(x.size:Int))=false:=by rw[zn4];omega
         have HK:Hid (∀i,i<k+1->(n.vs.getD i eS).size<=24):=O.o (by omega);clear K O;go_wp2_with fail
         go_round
         (case rel=>exact⟨k+1,by omega,by go_num,HK⟩);case measure=>simp[intOf];omega
        .have hd:24<(x.size:Int):=by omega
         obtain rfl:u=false:=K.o (by omega);clear K O;go_wp2_with fail;go_ret;exact⟨rfl,BF.o⟩
       .have HA:Hid (allS n.vs=true):=by show _=_;rw[zfl9];intro i hi;exact ab.o i (by rw[a7.o]at hi;omega)
        have HN:Hid (¬(E=A/\I=0)->u=false):=λ hh=>by
         cases u with
         | false=>rfl
         | true=>exact absurd (a4.o.1 rfl) (λ x=>hh ⟨x.1,x.2.1⟩)
        have HY:Hid (E=A->I=0->u=true):=λ x y=>a4.o.2 ⟨x,y,HA.o⟩;clear a4 a9 HA;by_cases h3:E=A
        .have e3:((E:Int)==(A:Int))=true:=by rw[beq_iff_eq];omega
         by_cases h4:I=0
         .have e4:((I:Int)==0)=true:=by rw[beq_iff_eq];omega
          obtain rfl:u=true:=HY.o h3 h4;clear h3 h4 HY HN;go_wp2_with fail;go_ret;exact⟨rfl,BF.o⟩
         .have e4:((I:Int)==0)=false:=by rw[zl0];omega
          obtain rfl:u=false:=HN.o (λ x=>h4 x.2);clear h3 h4 HY HN;go_wp2_with fail;go_ret;exact⟨rfl,BF.o⟩
        .have e3:((E:Int)==(A:Int))=false:=by rw[zl0];omega
         obtain rfl:u=false:=HN.o (λ x=>h3 x.1);clear h3 HY HN;go_wp2_with fail;go_ret;exact⟨rfl,BF.o⟩
     | false=>
      have T:Hid (u=true↔1<=A/\z<=240/\kn=true/\I=A/\E=0/\allI n.kd=true):=HI.o rfl;clear HL HI;have a4:Hid (u=true↔I=A/\E=0/\allI n.kd=true):=⟨λ e=>(T.o.1 e).2.2.2,λ q=>T.o.2 ⟨h1,h2,ai.o,q⟩⟩
      have a9:Hid (¬(allI n.kd=true)->u=false):=λ hh=>by
       cases u with
       | false=>rfl
       | true=>exact absurd (a4.o.1 rfl).2.2 hh
      clear T HZ Y;go_wp2_with fail
      go_loop [5] (λ i=>∃(k:Nat),k<=I/\i=.int .i64 k/\Hid (∀i,i<k->0<=n.kd.getD i 0/\n.kd.getD i 0<=65535)) (λ i=>I-(intOf i).toNat)
      (case atStart=>exact⟨0,zn7 _,rfl,λ j hj=>by omega⟩);case round=>
       obtain⟨k,hk,rfl,ab⟩:=hrel;by_cases a5:k<I
       .obtain⟨b,o,rfl,ck⟩:=(H1.o.below BR.o).kid (i:=k) (by rw[a8.o];exact a5);have O:Hid ((0<=n.kd.getD k 0/\n.kd.getD k 0<=65535)->∀i,i<k+1->0<=n.kd.getD i 0/\n.kd.getD i 0<=65535):=λ h0 i hi=>by
         by_cases e:i<k
         .exact ab.o i e
         .have:i=k:=by omega
          rw[this];exact h0
        have K:Hid (¬(0<=n.kd.getD k 0/\n.kd.getD k 0<=65535)->u=false):=λ h0=>a9.o (λ e=>by rw[zme9 (i:=k) (by rw[a8.o];exact a5) h0]at e;cases e);obtain⟨x,hx⟩:=exH (n.kd.getD k 0);unfold dA at ck;rw[hx.o]at ck O K;by_cases ar:0<=x
        .have ak:decide (x<0)=false:=by rw[zn4];omega
         by_cases hg:x<=65535
         .have hd:decide (65535<x)=false:=by rw[zn4];omega
          have HK:Hid (∀i,i<k+1->0<=n.kd.getD i 0/\n.kd.getD i 0<=65535):=O.o (by omega);clear K O;go_wp2_with fail
          go_round
          (case rel=>exact⟨k+1,by omega,by go_num,HK⟩);case measure=>simp[intOf];omega
         .have hd:65535<x:=by omega
          obtain rfl:u=false:=K.o (by omega);clear K O;go_wp2_with fail;go_ret;exact⟨rfl,BF.o⟩
        .have hd:x<0:=by omega
         obtain rfl:u=false:=K.o (by omega);clear K O;go_wp2_with fail;go_ret;exact⟨rfl,BF.o⟩
       .have HA:Hid (allI n.kd=true):=by show _=_;rw[zfk9];intro i hi;exact ab.o i (by rw[a8.o]at hi;omega)
        have HN:Hid (¬(I=A/\E=0)->u=false):=λ hh=>by
         cases u with
         | false=>rfl
         | true=>exact absurd (a4.o.1 rfl) (λ x=>hh ⟨x.1,x.2.1⟩)
        have HY:Hid (I=A->E=0->u=true):=λ x y=>a4.o.2 ⟨x,y,HA.o⟩;clear a4 a9 HA;by_cases h3:I=A
        .have e3:((I:Int)==(A:Int))=true:=by rw[beq_iff_eq];omega
         by_cases h4:E=0
         .have e4:((E:Int)==0)=true:=by rw[beq_iff_eq];omega
          obtain rfl:u=true:=HY.o h3 h4;clear h3 h4 HY HN;go_wp2_with fail;go_ret;exact⟨rfl,BF.o⟩
         .have e4:((E:Int)==0)=false:=by rw[zl0];omega
          obtain rfl:u=false:=HN.o (λ x=>h4 x.2);clear h3 h4 HY HN;go_wp2_with fail;go_ret;exact⟨rfl,BF.o⟩
        .have e3:((I:Int)==(A:Int))=false:=by rw[zl0];omega
         obtain rfl:u=false:=HN.o (λ x=>h3 x.1);clear h3 HY HN;go_wp2_with fail;go_ret;exact⟨rfl,BF.o⟩
  .have e2:240<z:=by omega
   obtain rfl:u=false:=Y.o (λ h=>h2 h.2.1);go_wp2_with fail;go_ret;exact⟨rfl,ah.o⟩
 .have e0:A=0:=by omega
  obtain rfl:u=false:=Y.o (λ h=>h1 h.1);subst e0;clear h1
  go_enter Tryz.func111,Tryz.ntmps111
  go_wp2_with fail;go_ret;exact⟨rfl,B1.o⟩
