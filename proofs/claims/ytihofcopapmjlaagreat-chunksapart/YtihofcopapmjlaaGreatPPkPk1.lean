import Derived.Test.YtihofcopapmjlaaGreatPPkLit
import Derived.Shelf.Bytes.SlCountOne
set_option maxRecDepth 100000
set_option linter.all false
set_option maxHeartbeats 8000000
namespace Go.Proofs.YtihofcopapmjlaaGreat
open Go.Proofs.Tryz
open Go.RowKit Pl
def EG(ds:List Int):Bool:=decide (0<ds.length/\∀i,i<ds.length->ds.getD i 0=ds.getD 0 0)
def AHi{x y:Int}(r:0<=x/\x<=255)(A:0<=y/\y<=255)(h:x.toNat.toUInt8=y.toNat.toUInt8):x=y:=by
 have f:=congrArg UInt8.toNat h;have k:∀n:Nat,n<=255->n.toUInt8.toNat=n:=λ n q=>by show(UInt8.ofNat n).toNat=n;rw[UInt8.toNat_ofNat'];omega
 grind
def ZK{f}(A:By f)(B:0<f.length):((Lib.countByte (Lib.bytesOf f) (f.getD 0 0).toNat.toUInt8:Nat):Int)=(f.length:Int)↔EG f=true:=by
 unfold EG Lib.countByte;rw[zg1];have J:(Lib.bytesOf f).length=f.length:=by simp[Lib.bytesOf]
 constructor
 .intro h;refine⟨B,λ i I=>?_⟩;have q:(Lib.bytesOf f).count (f.getD 0 0).toNat.toUInt8=(Lib.bytesOf f).length:=by omega
  rw[List.count_eq_length]at q;have E:=q (f.getD i 0).toNat.toUInt8 (by
   simp only[Lib.bytesOf,List.mem_map]
   grind)
  exact(AHi (A 0) (A i) E).symm
 .rintro⟨_,h⟩;have q:(Lib.bytesOf f).count (f.getD 0 0).toNat.toUInt8=(Lib.bytesOf f).length:=by
   rw[List.count_eq_length];intro b r;simp only[Lib.bytesOf,List.mem_map]at r;obtain⟨x,K,rfl⟩:=r;obtain⟨i,I,rfl⟩:=List.getElem_of_mem K
   grind
  rw[q,J]
def ZM(b o cap f w)(A:0<f.length)(hc:∀i,i<f.length->w.cell? ⟨b,o+i,none⟩=some (.int .u8 (f.getD i 0))):
 Calls prog 125 #[.slice (some ⟨b,o,none⟩) f.length cap,.slice (some ⟨b,o,none⟩) 1 cap] w λ e w'=>e=.returned (.int .i64 (Lib.countByte (Lib.bytesOf f) (f.getD 0 0).toNat.toUInt8))/\w'=w:=by
 have r:=z6 hc;obtain⟨x,q⟩:=exH (f.getD 0 0);have B:w.cell? ⟨b,o,none⟩=some (.int .u8 x):=by rw[<-q.o];exact hc 0 A
 rw[q.o];clear hc
 go_enter func125,ntmps125
 go_wp2;rw[run_callFunc_extern func156 (by kernel_rfl) (by kernel_rfl) (by kernel_rfl) (e:=Extern.BytealgCount.count) (by kernel_rfl),Lib.run_countSlice w b o f.length cap f rfl r.o x];simp only[Result.andThen];rw[Oper.upon_value];go_wp2;go_ret;exact⟨rfl,rfl⟩
def Oo(v f w)(hr:Rd .u8 w v f)(J:By f):
 Calls prog 94 #[v] w λ e w'=>e=.returned (.bool (EG f))/\w'=w:=by
 obtain⟨a,cap,rfl,T,W,I,E⟩:=hr;by_cases q:0<f.length
 .obtain⟨b,o,rfl,hc⟩:∃b o,a=some ⟨b,o,none⟩/\∀i,i<f.length->w.cell? ⟨b,o+i,none⟩=some (.int .u8 (f.getD i 0)):=by rcases E with h|h;rw[h]at q;simp at q;exact h
  have B:Hid (Calls prog 125 #[.slice (some ⟨b,o,none⟩) f.length cap,.slice (some ⟨b,o,none⟩) 1 cap] w λ e w'=>e=.returned (.int .i64 (Lib.countByte (Lib.bytesOf f) (f.getD 0 0).toNat.toUInt8))/\w'=w):=ZM b o cap f w q hc;have A:=ZK J q;obtain⟨N,L⟩:=exH (Lib.countByte (Lib.bytesOf f) (f.getD 0 0).toNat.toUInt8);rw[L.o]at B A;obtain⟨R,r⟩:=exN (EG f);rw[r]at A |-
  have K:Hid (((N:Int)==(f.length:Int))=R):=by
   show _=_;cases R with
   | true=>simpa using A.2 rfl
   | false=>rw[zi0];intro e;have:=A.1 e;cases this
  have U:(1:Int)<=(cap:Int):=by omega
  clear E hc A r J I
  go_enter func94,ntmps94
  go_wp2_with fail;refine B.o.mono ?_;clear B;rintro e X ⟨rfl,rfl⟩;go_wp2_with fail;go_ret;exact⟨by rw[<-K.o];rfl,rfl⟩
 .have r:EG f=false:=by unfold EG;rw[AT];exact λ e=>q e.1
  have O:f.length=0:=by omega
  rw[r,O];clear E I r q T
  go_enter func94,ntmps94
  go_wp2_with fail;go_ret;exact⟨rfl,rfl⟩
def AF0(g1 f T U J K xs ys w)(r:Sk w g1 T J xs)(A:Sk w f U K ys):
 Calls prog 95 #[.pointer (some ⟨g1,0,none⟩),.pointer (some ⟨f,0,none⟩)] w λ e w'=>e=.returned (.pointer (some ⟨if ys.length<xs.length then f else g1,0,none⟩))/\∃q,w'=w.drewN q:=by
 have c1:=r.c0;have L:=A.c0;obtain⟨W,Y,E,_⟩:=r.own.rd;obtain⟨X,Z,I,_⟩:=A.own.rd;rw[E]at c1;rw[I]at L;clear r A E I;by_cases B:ys.length<xs.length
 .rw[if_pos B];have O:decide (ys.length<xs.length)=true:=by grind
  go_enter func95,ntmps95
  go_wp2;go_quiet (fail);go_wp2;go_ret;exact⟨rfl,_,rfl⟩
 .rw[if_neg B];have O:decide (ys.length<xs.length)=false:=by grind
  go_enter func95,ntmps95
  go_wp2;go_quiet (fail);go_wp2;go_ret;exact⟨rfl,_,rfl⟩
def MK(D f a)(n cap:Nat)(w)(I:w.cell? ⟨D,0,none⟩=some (.slice a n cap))(Z:n<=65536):
 Calls prog 91 #[.int .u8 f,.pointer (some ⟨D,0,none⟩)] w λ e w'=>∃g K,e=.returned (.pointer (some ⟨g,0,none⟩))/\Sk w' g K 0 ([f]++AQ n)/\Below w.heap.size w w'/\w.heap.size<=g/\∀k,K.ownBlock=some k->w.heap.size<=k:=by
 have Y:=zb0 w ⟨D,0,none⟩ I
 go_enter func91,ntmps91
 go_wp2_with fail;obtain⟨B,q⟩:=exH ((w.alloc (.cells #[.int .u8 f] 5)).alloc (.cells #[.slice (some ⟨w.heap.size,0,none⟩) 1 1,.int .i64 0] 176));rw[q.o];obtain⟨g,J⟩:=exN (w.heap.size+1);rw[J];have r:Hid (Below w.heap.size w B):=by rw[<-q.o];exact((Below.refl _ _).alloc (AE _) _).alloc (by simp only[World.size_alloc];omega) _
 have E:Hid (Sk B g (.slice (some ⟨w.heap.size,0,none⟩) 1 1) 0 [f]):=by refine⟨?_,?_⟩;rw[<-q.o,<-J];have:=heap_alloc_new (w.alloc (.cells #[.int .u8 f] 5)) (.cells #[.slice (some ⟨w.heap.size,0,none⟩) 1 1,.int .i64 0] 176);rw[World.size_alloc]at this;exact this;rw[<-q.o];exact(PQ w f).below ((Below.refl _ _).alloc (AE _) _)
 clear q I;refine(Kp g _ 0 [f] n B E.o (by omega) (by simp)).mono ?_;rintro e X ⟨rfl,L,A⟩;have U:=z6 A.sk;have O:Hid (Below w.heap.size w X):=r.o.trans (A.tch.below r.o.size (λ k e=>by
  rcases e with e|e;omega
  .simp only[Value.ownBlock,Option.some.injEq]at e;omega))
 have T:Hid (∀k,L.ownBlock=some k->w.heap.size<=k):=λ k W=>by rcases A.fresh k W with e|e;simp only[Value.ownBlock,Option.some.injEq]at e;omega;have:=r.o.size;omega
 clear A E r;go_wp2_with fail;go_ret;exact⟨g,L,rfl,U.o,O.o,by omega,T.o⟩
def Xc(g B E xs v f w)(h:Sk w g B E xs)(hr:Rd .u8 w v f)(W:0<f.length)(Am:v.ownBlock≠some g)(hl:xs.length<=1000):
 Calls prog 96 #[.pointer (some ⟨g,0,none⟩),v] w λ e w'=>e=.returned (.pointer (some ⟨g,0,none⟩))/\∃Y,Aq w g B w' Y E (xs++[f.getD 0 0]):=by
 have H:=z6 h;have K:=z6 hr;have O:=z6 Am;have L:Hid (f.take 1=[f.getD 0 0]):=by
  show _=_;cases f with
  | nil=>simp at W
  | cons x r=>rfl
 clear h hr Am
 go_enter func96,ntmps96
 go_wp2_with(with_reducible (show wpList _ _ _ (Oper.mk _ (Op.slice _ _ _ _ _) _ _ _ _::_) _ _);refine Qj Kr _ w rfl (.tmp 6) (.const (.int .i64 1)) rfl _ f rfl K.o 1 rfl (by omega) ?_)
 intro J A I;rw[L.o]at A;have T:=z6 A;have X:J.ownBlock≠some g:=λ e=>O.o (I g e);clear A I;go_wp2_with fail;refine(Fj g B E 0 xs J _ w H.o T.o X (by simp;omega)).mono ?_;rintro e w2 ⟨rfl,Z,q⟩;rw[Ec]at q;have U:=z6 q;clear q;go_wp2_with fail;go_ret;exact⟨rfl,Z,U.o⟩
