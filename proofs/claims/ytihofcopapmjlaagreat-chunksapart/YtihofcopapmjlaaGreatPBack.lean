import Derived.Test.YtihofcopapmjlaaGreatPFGetP
import Derived.Test.YtihofcopapmjlaaGreatPLen8
set_option maxRecDepth 100000
set_option linter.all false
set_option maxHeartbeats 8000000
namespace Go.Proofs.YtihofcopapmjlaaGreat
open Go.Proofs.Tryz
open Go.RowKit Pl
def RL:∀n:Fin 256,n.val≠0->1<=Lib.bitLen n.val/\Lib.bitLen n.val<=8/\n.val / 2 ^ (Lib.bitLen n.val-1) % 2=1/\∀j:Fin 8,Lib.bitLen n.val<=j.val->n.val / 2 ^ j.val % 2=0:=by decide +kernel
def Ew(ys:List Int):Nat:=8*(ys.length-1)+(Lib.bitLen (ys.getD (ys.length-1) 0).toNat-1)
def Gx(ys:List Int):Prop:=0<ys.length/\ys.getD (ys.length-1) 0≠0
def Tz{ys}(J:By ys)(h:Gx ys):Ew ys<8*ys.length/\(AM ys).getD (Ew ys) 0=1/\∀p,Ew ys<p->p<8*ys.length->(AM ys).getD p 0=0:=by
 obtain⟨K,L⟩:=h;have I:=J (ys.length-1);obtain⟨y,q⟩:∃y:Nat,ys.getD (ys.length-1) 0=(y:Int):=Int.eq_ofNat_of_zero_le I.1;obtain⟨A,B,E,f⟩:=RL ⟨y,by omega⟩ (by simp;omega);simp only at A B E f;have r:Ew ys=8*(ys.length-1)+(Lib.bitLen y-1):=by unfold Ew;grind
 rw[r];refine⟨by omega,?_,λ p O T=>?_⟩
 .rw[Jq,show(8*(ys.length-1)+(Lib.bitLen y-1)) / 8=ys.length-1 by omega,show(8*(ys.length-1)+(Lib.bitLen y-1)) % 8=Lib.bitLen y-1 by omega,q]
  grind
 .rw[Jq,show p / 8=ys.length-1 by omega,q];have:=f ⟨p % 8,by omega⟩ (by grind)
  grind
structure Bk(w:World)(b:Nat)(rv:Value)(ys:List Int)(p:Nat):Prop where
 blk:w.heap[b]?=some (.cells #[rv,.int .i64 p] 359 (0,0))
 own:AF .u8 5 w rv ys
 bys:By ys
 le:p<=8*ys.length
 small:ys.length<=140737488355328
def Bk.c0{w b f ys p}(h:Bk w b f ys p):w.cell? ⟨b,0,none⟩=some f:=by rw[cell_of_row w b 0 _ _ (0,0) h.blk];rfl
def Bk.c1{w b f ys p}(h:Bk w b f ys p):w.cell? ⟨b,1,none⟩=some (.int .i64 p):=by rw[cell_of_row w b 1 _ _ (0,0) h.blk];rfl
def Bk.fz{w b f ys p}(h:Bk w b f ys p)(j):w.frozen? ⟨b,j,none⟩=false:=frozen_of_row w b j _ _ h.blk
def Bk.lt{w b f ys p}(h:Bk w b f ys p):b<w.heap.size:=(za0.1 h.blk).1
def Bk.tch{S w w' b f ys p}(h:Bk w b f ys p)(q:AD S w w')(r:¬S b)(hr:∀k,f.ownBlock=some k->¬S k):Bk w' b f ys p:=
 ⟨by rw[q.block b h.lt r];exact h.blk,h.own.tch q hr,h.bys,h.le,h.small⟩
def Bk.below{w w' b f ys p}(h:Bk w b f ys p)(q:Below w.heap.size w w'):Bk w' b f ys p:=
 h.tch (S:=λ _=>False) (AD.of_below q) (λ e=>e) (λ _ _ e=>e)
def Bk.ne{w b r ys p}(h:Bk w b r ys p):r.ownBlock≠some b:=by
 intro f;rcases h.own.2 with⟨rfl,_⟩|⟨B,cap,A,rfl,_,q,_⟩
 .simp[Value.ownBlock]at f
 .simp only[Value.ownBlock,Option.some.injEq]at f;subst f;rw[h.blk]at q;simp at q
def Bk.move{w b f ys p}(h:Bk w b f ys p)(q)(A:q<=8*ys.length):Bk (w.setCell ⟨b,1,none⟩ (.int .i64 q)) b f ys q:=by refine⟨?_,h.own.tch (S:=λ k=>k=b) ((AD.refl (λ k=>k=b) w).setCell (p:=⟨b,1,none⟩) (λ _=>rfl) _) (λ j r e=>h.ne (by rw[r,e])),h.bys,A,h.small⟩;rw[heap_setCell_same w b 1 _ _ (.int .i64 q) h.blk];simp
def RF(b r ys p n w)(h:Bk w b r ys p):
 Calls prog 256 #[.pointer (some ⟨b,0,none⟩),.int .i64 n] w λ e w'=>
  e=.returned (.tuple #[.int .i64 (CP (AM ys) p (p-Bt p n) n),.int .i64 (A9 p n)])/\Bk w' b r ys (p-Bt p n)/\AD (λ k=>k=b) w w':=by
 have H:Hid (Bk w b r ys p):=h;have a1:=h.le;have a4:=h.small;have Z:=h.c0;have c1:=h.c1;have f1:=h.fz 1;clear h;by_cases f:A9 p n=0
 .obtain⟨m,rfl,Y,a2,U,T⟩:=AHg (AM ys) (p-Bt p n) f;rw[U,T,f];have B:Hid (A9 p m=0):=f;clear U T f;have X:p-m+m<=8*ys.length:=by omega
  have W:((p-m:Nat):Int)=(p:Int)-m:=by omega
  have A:Hid (((p-m:Nat):Int)=(p:Int)-m):=W;have I:∀q,Hid (Bk ((w.setCell ⟨b,1,none⟩ (.int .i64 ((p:Int)-m))).drewN q) b r ys (p-m)):=by intro q;have:=(H.o.move (p-m) (by omega)).tch (AD.of_drewN (λ _=>False) _ q) (λ e=>e) (λ _ _ e=>e);rw[A.o]at this;exact this
  clear W
  go_enter func256,ntmps256
  go_wp2_with fail;refine(MX _ p _).mono ?_;rintro e K ⟨rfl,rfl⟩;rw[B.o];go_wp2_with fail;have a0:(K.setCell ⟨b,1,none⟩ (.int .i64 ((p:Int)-m))).cell? ⟨b,0,none⟩=some r:=by simpa using(I 0).o.c0
  go_quiet ((go_at_call 246;rw[<-A.o];exact Calls.quiet_of_same (UO r (p-m) m ys _ (by rw[A.o];exact(I _).o.own.rd) H.o.bys (by omega) X Y)));go_wp2_with fail;go_ret2;refine⟨rfl,(I _).o,?_⟩;exact(AD.setCell (AD.refl (λ k=>k=b) K) (p:=⟨b,1,none⟩) (λ _=>rfl) _).trans (S':=λ k=>k=b) (AD.of_drewN _ _ _) (λ _ _ e=>e)
 .obtain⟨L,O⟩:=AHf (AM ys) (p-Bt p n) f;rw[L,O];obtain⟨E,J⟩:=exN (A9 p n);rw[J]at f |-
  have B:Hid (A9 p n=E):=J;have a3:(E != 0)=true:=by simpa using f
  clear L O f J
  go_enter func256,ntmps256
  go_wp2_with fail;refine(MX _ p _).mono ?_;rintro e K ⟨rfl,rfl⟩;rw[B.o];go_wp2_with fail;go_ret2;exact⟨rfl,H.o,AD.refl _ _⟩
def UJ(a cap w):
 Calls prog 241 #[.slice a 0 cap] w λ e w'=>e=.returned (.tuple #[.pointer none,.int .i64 3])/\w'=w:=by
 go_enter func241,ntmps241
 go_wp2_with fail;go_ret2;simp
def AC7(b o cap)(ys:List Int)(w)(r:0<ys.length)(q:ys.length<=9223372036854775807)(f:ys.getD (ys.length-1) 0=0)(hc:∀i,i<ys.length->w.cell? ⟨b,o+i,none⟩=some (.int .u8 (ys.getD i 0))):
 Calls prog 241 #[.slice (some ⟨b,o,none⟩) ys.length cap] w λ e w'=>e=.returned (.tuple #[.pointer none,.int .i64 3])/\w'=w:=by
 have c:w.cell? ⟨b,o+(ys.length-1),none⟩=some (.int .u8 0):=by grind
 clear hc f
 go_enter func241,ntmps241
 go_wp2_with fail;go_ret2;simp
def AC8(b o cap ys w)(T:Rd .u8 w (.slice (some ⟨b,o,none⟩) ys.length cap) ys)(r:By ys)(f:Gx ys)(K:ys.length<=140737488355328)(hc:∀i,i<ys.length->w.cell? ⟨b,o+i,none⟩=some (.int .u8 (ys.getD i 0))):
 Calls prog 241 #[.slice (some ⟨b,o,none⟩) ys.length cap] w λ e w'=>∃B W,e=.returned (.tuple #[.pointer (some ⟨B,0,none⟩),.int .i64 0])/\Bk w' B W ys (Ew ys)/\
  Below w.heap.size w w'/\w.heap.size<=B/\∀k,W.ownBlock=some k->w.heap.size<=k:=by
 have HR:=z6 T;have HY:=z6 r;have L:=(Tz r f).1;have HM:=z6 L;have a2:=f.1;obtain⟨y,q⟩:=exH (ys.getD (ys.length-1) 0);have U:0<=y/\y<=255:=by rw[<-q.o];exact r _
 have a3:(y==0)=false:=by have:=f.2;rw[q.o]at this;simpa using this
 have hL:1<=Lib.bitLen y.toNat/\Lib.bitLen y.toNat<=8:=by have:=RL ⟨y.toNat,by omega⟩ (by have:=f.2;rw[q.o]at this;simp;omega);exact⟨this.1,this.2.1⟩
 have a0:Hid (((Ew ys:Nat):Int)=8*((ys.length:Int)-1)+(Lib.bitLen y.toNat:Int)-1):=by show _=_;unfold Ew;rw[q.o];omega
 have c:w.cell? ⟨b,o+(ys.length-1),none⟩=some (.int .u8 y):=by rw[hc _ (by omega),q.o]
 have Z:Hid (∀w:World,Calls prog 255 #[.int .u8 y] w λ e w'=>e=.returned (.int .i64 ((Lib.bitLen y.toNat:Nat):Int))/\w'=w):=λ w=>ACI y w U.1 U.2;clear T r f L hc;generalize Lib.bitLen y.toNat=t at *
 go_enter func241,ntmps241
 go_wp2_with fail;refine(Z.o _).mono ?_;rintro e w ⟨rfl,rfl⟩;go_wp2_with fail;refine(MB _ ys _ HR.o K).mono ?_;rintro e X ⟨v1,rfl,O,J⟩;obtain⟨b1,I⟩:=J.below;have E:=z6 O;have A:=z6 b1;have Y:=z6 I;clear O J b1 I;obtain⟨a,a1,hv⟩:∃a cap,v1=.slice a ys.length cap:=by obtain⟨a,cap,e,_⟩:=E.o.rd;exact⟨a,cap,e⟩
 subst hv;go_wp2_with fail;go_ret2;refine⟨X.heap.size,_,rfl,⟨?_,E.o.below ((Below.refl _ _).alloc (AE _) _),HY.o,Nat.le_of_lt HM.o,K⟩,A.o.alloc A.o.size _,A.o.size,Y.o⟩;rw[a0.o];exact heap_alloc_new X _
def AC9(v ys w)(h:Rd .u8 w v ys)(I:By ys)(B:ys.length<=140737488355328):
 Calls prog 241 #[v] w λ e w'=>(Gx ys/\∃b r,e=.returned (.tuple #[.pointer (some ⟨b,0,none⟩),.int .i64 0])/\Bk w' b r ys (Ew ys)/\Below w.heap.size w w'/\w.heap.size<=b/\∀k,r.ownBlock=some k->w.heap.size<=k)\/
  (¬Gx ys/\e=.returned (.tuple #[.pointer none,.int .i64 3])/\w'=w):=by
 have A:=h;obtain⟨a,cap,rfl,_,E,_,h⟩:=h;unfold maxLen at E;rcases h with rfl|⟨b,o,rfl,hc⟩
 .refine(UJ a cap w).mono ?_;rintro e w' ⟨rfl,rfl⟩;exact .inr ⟨λ h=>by have:=h.1;grind,rfl,rfl⟩
 .by_cases q:0<ys.length;by_cases f:ys.getD (ys.length-1) 0=0;refine(AC7 b o cap ys w q (by omega) f hc).mono ?_;rintro e w' ⟨rfl,rfl⟩;exact .inr ⟨λ h=>h.2 f,rfl,rfl⟩;refine(AC8 b o cap ys w A I ⟨q,f⟩ B hc).mono ?_;rintro e w' h;exact .inl ⟨⟨q,f⟩,h⟩;obtain rfl:ys=[]:=ze0 (by omega);refine(UJ _ cap w).mono ?_;rintro e w' ⟨rfl,rfl⟩;exact .inr ⟨λ h=>by have:=h.1;omega,rfl,rfl⟩
