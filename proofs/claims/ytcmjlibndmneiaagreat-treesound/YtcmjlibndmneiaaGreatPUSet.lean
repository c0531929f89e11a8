import Derived.StillTailTactics
import Derived.Test.YtcmjlibndmneiaaGreatPBBlk
set_option maxRecDepth 100000
set_option linter.all false
set_option maxHeartbeats 8000000
namespace Go.Proofs.YtcmjlibndmneiaaGreat
open Go.RowKit Pl
def zio9{xs ys:List Int}{a j:Nat}(y:Int)(hj:ys.length=j)(h:a+j<xs.length):(splice xs a ys).set (a+j) y=splice xs a (ys++[y]):=by
 unfold splice;have u:(xs.take a).length=a:=by rw[zg0];omega
 rw[List.set_append_right _ _ (by omega),u,show a+j-a=j by omega,List.set_append_right _ _ (by omega),hj,Nat.sub_self];rw[List.drop_eq_getElem_cons (show a+j<xs.length from h),List.set_cons_zero,zf0,hj,zw0];rfl
def zlu9(xs:List Int)(a:Nat):splice xs a []=xs:=by unfold splice;simp
def zlt9{xs ys:List Int}{a:Nat}(h:a+ys.length<=xs.length):(splice xs a ys).length=xs.length:=by unfold splice;simp only[zf0,zg0,zj0];omega
def zyt9(N j:Nat):((N:Int) / 2 ^ (8*j)) % 256=(N:Int) / 256 ^ j % 256:=by rw[Int.pow_mul];rfl
def zgl9(g at_ k N:Nat)(xs:List Int)(w:World)(h:Fu w g xs)(hN:N<9223372036854775807)(hk:k<=4)(ha:at_+k<=256):
 Calls Tryz.prog 117 #[.pointer (some ⟨g,0,none⟩),.int .i64 (at_:Int),.int .i64 (k:Int),.int .i64 (N:Int)] w λ e w'=>e=.returned (.tuple #[])/\Fu w' g (splice xs at_ (leN k (N:Int)))/\Tch (λ j=>j=g) w w':=by
 have I:=za0 h;have a1:=za0 h.lt;have Q:=za0 h.2.1;clear h
 go_enter Tryz.func117,Tryz.ntmps117
 go_wp2_with fail
 go_loopw [10] (λ i wr=>∃j:Nat,j<=k/\i=.int .i64 j/\Hid (Fu wr g (splice xs at_ (leN j (N:Int))))/\Hid (Tch (λ j=>j=g) w wr)) (λ i _=>k-(intOf i).toNat)
 case atStart=>exact⟨0,zn7 _,rfl,by rw[show leN 0 (N:Int)=[]from rfl,zlu9];exact I,Tch.refl _ _⟩
 case round=>
  clear I;obtain⟨j,hj,rfl,F,T⟩:=hrel;by_cases a2:j<k
  .obtain⟨y,H⟩:∃y:Nat,N / 2 ^ (8*j) % 256=y:=⟨_,rfl⟩
   (have a8:y<256:=by rw[<-H];exact Nat.mod_lt _ (by decide));obtain⟨m,A⟩:=exN (8*j);have a0:(N:Int) / 2 ^ m % 256=(y:Int):=by rw[<-H,<-A,Int.natCast_emod,Int.natCast_ediv,Int.natCast_pow];rfl
   have E:(splice xs at_ (leN j (N:Int))).set (at_+j) (y:Int)=splice xs at_ (leN (j+1) (N:Int)):=by rw[zio9 _ (zsx9 j _) (by rw[Q.o];omega),zux9,<-zyt9,A,a0]
   (have a3:8*(j:Int)=(m:Int):=by omega);(have a4:(m:Int)<=24:=by omega);obtain⟨p,K⟩:=exN (at_+j);(have a6:(at_:Int)+(j:Int)=(p:Int):=by omega);(have a7:(p:Int)<256:=by omega);rw[K]at E;have cp:=F.o.cell (i:=p) (by omega);have fp:=F.o.fz p;have O:Hid (Fu (wr.setCell ⟨g,p,none⟩ (.int .u8 (y:Int))) g (splice xs at_ (leN (j+1) (N:Int)))):=by have:=F.o.set p (y:=(y:Int)) (by omega) (by omega);rw[E]at this;exact this
   have Y:Hid (Tch (λ j=>j=g) w (wr.setCell ⟨g,p,none⟩ (.int .u8 (y:Int)))):=Tch.setCell T.o (p:=⟨g,p,none⟩) (λ _=>rfl) _;generalize (splice xs at_ (leN j (N:Int))).getD p 0=z at cp;(have u:(j:Int)<(k:Int):=by omega);clear F T H A K E;(have w1:IntKind.i64.wrap (p:Int)=(p:Int):=by rw[IntKind.wrap_i64];omega);(have w2:IntKind.i64.wrap (m:Int)=(m:Int):=by rw[IntKind.wrap_i64];omega);go_wp2_with fail
   go_still_tail 11,(by kernel_rfl)
   go_wp2_with fail
   go_roundw
   (case rel=>exact⟨j+1,by omega,by go_num,O,Y.o.drew⟩);case measure=>simp[intOf];omega
  .have a5:¬(j:Int)<(k:Int):=by omega
   (have u:j=k:=by omega);rw[u]at F;clear u;go_wp2_with fail
   go_end0
   exact⟨rfl,F.o,T.o⟩
def i64_or(a b:Nat)(ha:a<4294967296)(u:b<4294967296):Go.bits .or .i64 (a:Int) (b:Int)=((a ||| b:Nat):Int):=by have A:=Nat.or_lt_two_pow (n:=32) ha u;show IntKind.i64.wrap ((BitVec.ofInt 64 (a:Int) ||| BitVec.ofInt 64 (b:Int)).toNat:Int)=_;rw[BitVec.toNat_or,ofInt_u64 a (by omega),ofInt_u64 b (by omega),IntKind.wrap_i64];omega
def zti9{xs:List Int}{a j:Nat}(h:a+j<xs.length):sl xs a (j+1)=sl xs a j++[xs.getD (a+j) 0]:=by unfold sl;rw[List.take_succ_eq_append_getElem (by rw[zj0];omega),List.getElem_drop,zn3,zc0 h];rfl
def sl_len{xs:List Int}{a k:Nat}(h:a+k<=xs.length):(sl xs a k).length=k:=by unfold sl;rw[zg0,zj0];omega
def zbr9(g at_ k:Nat)(xs:List Int)(w:World)(h:Fu w g xs)(hk:k<=4)(ha:at_+k<=256):
 Calls Tryz.prog 156 #[.pointer (some ⟨g,0,none⟩),.int .i64 (at_:Int),.int .i64 (k:Int)] w λ e w'=>e=.returned (.int .i64 (vN (sl xs at_ k)))/\Below w.heap.size w w':=by
 have HF:=za0 h;have I:=za0 h.2.1;have HB:=za0 h.2.2;clear h;obtain⟨R,O⟩:=exH (vN (sl xs at_ k));rw[O.o]
 go_enter Tryz.func156,Tryz.ntmps156
 go_wp2_with fail
 go_loopw [7,10] (λ vv i wr=>∃(j X:Nat),j<=k/\i=.int .i64 j/\vv=.int .i64 (X:Int)/\X<4294967296/\Hid (vN (sl xs at_ j)=(X:Int)/\X<256 ^ j)/\Hid (Below w.heap.size w wr)) (λ _ i _=>k-(intOf i).toNat)
 case atStart=>exact⟨0,0,zn7 _,rfl,rfl,by decide,⟨by simp[sl,vN],by decide⟩,Below.refl _ _⟩
 case round=>
  obtain⟨j,X,hj,rfl,rfl,hX,A,B⟩:=hrel;by_cases a9:j<k
  .obtain⟨b,H⟩:∃b:Nat,Hid (xs.getD (at_+j) 0=(b:Int)/\b<256):=by have:=HB.o (at_+j);exact⟨(xs.getD (at_+j) 0).toNat,by omega,by omega⟩
   (have a6:=H.o.2;obtain⟨m,hm⟩:=exN (8*j);(have aa:8*(j:Int)=(m:Int):=by omega);(have ab:(m:Int)<=24:=by omega);obtain⟨p,hp⟩:=exN (at_+j);(have ad:(at_:Int)+(j:Int)=(p:Int):=by omega);(have ae:(p:Int)<256:=by omega);have F:=HF.o.below B.o;(have cp:wr.cell? ⟨g,p,none⟩=some (.int .u8 (b:Int)):=by rw[F.cell (by omega),<-hp,H.o.1]);(have E:256 ^ j=2 ^ m:=by rw[<-hm,Nat.pow_mul]);(have Q:X<2 ^ m:=by rw[<-E];exact A.o.2);have a1:X ||| b*2 ^ m=X+b*2 ^ m:=by rw[Nat.or_comm,Nat.mul_comm,<-Nat.two_pow_add_eq_or_of_lt Q,Nat.add_comm]);obtain⟨Y,u⟩:=exN (b*2 ^ m);have T:X+Y<256 ^ (j+1):=by rw[<-u,Nat.pow_succ,E];have:b*2 ^ m<=255*2 ^ m:=Nat.mul_le_mul_right _ (by omega);omega
   have a3:256 ^ (j+1)<=256 ^ 4:=Nat.pow_le_pow_right (by decide) (by omega);have a0:X+Y<4294967296:=by have:(256:Nat) ^ 4=4294967296:=rfl;omega
   (have a4:(b:Int)*2 ^ m=(Y:Int):=by rw[<-u,Int.natCast_mul,Int.natCast_pow];rfl);have ho:=i64_or X Y hX (by omega);rw[<-u,a1,u]at ho;have K:Hid (vN (sl xs at_ (j+1))=((X+Y:Nat):Int)/\X+Y<256 ^ (j+1)):=by refine⟨?_,T⟩;(have a2:(256:Int) ^ j=((2 ^ m:Nat):Int):=by rw[<-E,Int.natCast_pow];rfl);rw[zti9 (by rw[I.o];omega),ztp9,A.o.1,sl_len (by rw[I.o];omega),H.o.1,a2,<-u,Int.natCast_add,Int.natCast_mul,Int.mul_comm]
   obtain⟨Z,hZ⟩:=exN (X+Y);rw[hZ]at ho K a0;(have a8:(j:Int)<(k:Int):=by omega);(have a7:(b:Int)<256:=by omega);(have a5:(Y:Int)<4294967296:=by omega);(have w1:IntKind.i64.wrap (p:Int)=(p:Int):=by rw[IntKind.wrap_i64];omega);(have w2:IntKind.i64.wrap (m:Int)=(m:Int):=by rw[IntKind.wrap_i64];omega);(have w3:IntKind.i64.wrap (Y:Int)=(Y:Int):=by rw[IntKind.wrap_i64];omega);clear A hm hp F E Q a1 u T a3 hZ;go_wp2_with fail
   go_roundw
   (case rel=>exact⟨j+1,Z,by omega,by go_num,rfl,a0,K,B⟩);case measure=>simp[intOf];omega
  .have ac:¬(j:Int)<(k:Int):=by omega
   (have HE:Hid ((X:Int)=R):=by show _=_;rw[<-O.o,<-A.o.1,show j=k by omega]);clear A;go_wp2_with fail;go_ret;exact⟨by rw[<-HE.o];rfl,B.o⟩
theorem zxo9:(Tryz.prog.info? 5).map (·.size)=some 1:=by kernel_rfl
def zks9(L u:List Int)(A:Nat):splice (bcs L) A (bcs u)=bcs (splice L A u):=by unfold splice bcs;simp only[zi1,List.map_take,List.map_drop,zb1]
def ziz9(w:World){K:Array Oper}{O:List Oper}{o:Oper}{a:Act}{Q:Exit->Act->World->Prop}(a0:o.guard=none)(d s:Operand)
 (ho:o.op=.call { callee:=.builtin .copy,args:=#[d,s],argTypes:=#[61,61] }) (g off dLen dCap:Nat) (hd:a.eval d=.slice (some ⟨g,off,none⟩) dLen dCap)
 (cur:List Int) (t:TypeId) (hg:w.heap[g]?=some (.cells (bcs cur).toArray t (0,0))) (v:Value) (xs:List Int) (hs:a.eval s=v) (hr:Rd .u8 w v xs) (hfit:off+min xs.length dLen<=cur.length)
 (B:Nat) (w0:World) (hB:Below B w0 w) (hBg:B<=g)
 (h:∀A,Hid (A.heap[g]?=some (.cells (bcs (splice cur off (xs.take dLen))).toArray t (0,0)))->Hid (Below B w0 A)->wpList Tryz.prog K Q O (a.put o.dst (goInt (xs.take dLen).length)) A):wpList Tryz.prog K Q (o::O) a w:=by
 obtain⟨sp,cap,rfl,h1,h2,h3,T⟩:=hr;refine wpList_copy_splice a0 d s 61 61 ho 5 Tryz.underlying61 zxo9 (some ⟨g,off,none⟩) sp dLen dCap xs.length cap hd hs g off (bcs cur) t hg (bcs (xs.take dLen)) ?_ ?_ ?_ (zdi9 _) B w0 hB hBg ?_
 .rw[zc9,zg0];exact Nat.min_comm _ _
 .intro I;refine⟨rfl,?_⟩;rw[zc9,zg0]at I;rcases T with rfl|⟨b,o,rfl,hc⟩
  .simp at I
  .refine⟨_,rfl,λ j u E=>?_⟩;have a1:j<(bcs (xs.take dLen)).length:=(List.getElem?_eq_some_iff.1 E).1;rw[zc9,zg0]at a1;rw[Addr.add_lit,hc j (by omega)];rw[bcs,zd1,zv0,if_pos (by omega),zc0 (by omega)]at E;simp only[Option.map_some,Option.some.injEq]at E;rw[<-E,zn3,zc0 (by omega)];rfl
 .rw[zc9,zc9,zg0];omega
 .intro A hh Y;have H:=hh.o;rw[zks9]at H;rw[zc9];exact h A H Y
def zfd9{xs A B:List Int}{a b:Nat}(I:b=a+A.length)(h:b+B.length<=xs.length):splice (splice xs a A) b B=splice xs a (A++B):=by
 subst I;unfold splice;have u:(xs.take a).length=a:=by rw[zg0];omega
 have E:(xs.take a++(A++xs.drop (a+A.length))).take (a+A.length)=xs.take a++A:=by rw[<-zw0,List.take_append_of_le_length (by rw[zf0,u];exact zn6 _),zn5 (by rw[zf0,u];exact zn6 _)]
 have H:(xs.take a++(A++xs.drop (a+A.length))).drop (a+A.length+B.length)=xs.drop (a+(A++B).length):=by rw[<-zw0,List.drop_append,List.drop_of_length_le (by rw[zf0,u];omega),List.nil_append,zf0,u,ze1,zf0];congr 1;omega
 rw[E,H];simp only[zw0]
def zpi9{xs:List Int}(h:xs.length=256):splice zz 0 (xs.take 256)=xs:=by unfold splice;rw[List.take_zero,List.nil_append,zn5 (by omega),List.drop_of_length_le (by rw[zz_len];omega),List.append_nil]
def zxx9(c:Nat):leN 4 (c:Int)=le4 c:=by unfold leN le4;simp[List.range_succ]
def zwr9(xs:List Int):crc xs<4294967296:=by unfold crc;omega
def zpe9{xs:List Int}(h:xs.length=256):splice xs 252 (leN 4 (crc (xs.take 252):Int))=smd xs:=by unfold splice smd;rw[zsx9,zxx9,List.drop_of_length_le (by omega),List.append_nil]
def zyg9(v:Value)(xs:List Int)(w:World)(hr:Rd .u8 w v xs)(hb:By xs)(hl:xs.length=256):
 Calls Tryz.prog 138 #[v] w λ e w'=>e=.returned (.agg (bcs xs).toArray)/\Below w.heap.size w w':=by
 obtain⟨a,cap,rfl,h1,h2,_⟩:=id hr;obtain⟨hv,hi⟩:=zero_of_info zfv9;have a6:=zpd9;have HI:=za0 hi;have HR:Hid (Rd .u8 w (.slice a 256 cap) xs):=by rw[<-hl];exact hr
 have HY:=za0 hb;have A:=za0 hl;rw[hl]at h1 |-
 obtain⟨u,H⟩:=exN (w.alloc (.cells (bcs zz).toArray 156));obtain⟨E,I⟩:=exN (u.alloc (.cells (bcs zz).toArray 156));have s1:u.heap.size=w.heap.size+1:=by rw[<-H];simp
 have s2:E.heap.size=w.heap.size+1+1:=by rw[<-I];simp[s1]
 have b1:Below w.heap.size w u:=by rw[<-H];exact(Below.refl _ _).alloc (zn6 _) _
 have b2:Below u.heap.size u E:=by rw[<-I];exact(Below.refl _ _).alloc (zn6 _) _
 have F1:Fu u w.heap.size zz:=by rw[<-H];exact zjl9 w zz_len zz_by
 have O:=za0 (F1.below b2);have F2:Hid (Fu E (w.heap.size+1) zz):=by rw[<-I,<-s1];exact zjl9 u zz_len zz_by
 have M2:=za0 F2.o.1;have K:=za0 (b1.trans (b2.mono (by omega)));have R2:=za0 (HR.o.below K.o);have a0:Hid (0+min xs.length 256<=zz.length):=by show _<=_;rw[zz_len];omega
 have BX:Hid (∀W,Below (w.heap.size+1) W W):=λ W=>Below.refl _ _;obtain⟨Z,hZ⟩:=exH ((bcs zz).toArray);rw[hZ.o]at hv H I;clear F1 b1 b2 hr hb hl h2 hi s2
 go_enter Tryz.func138,Tryz.ntmps138
 go_wp2_with(with_reducible (show wpList _ _ _ (Oper.mk _ (Op.call _) _ _ _ _::_) _ _);refine ziz9 _ rfl (.tmp 4) (.tmp 5) rfl (w.heap.size+1) 0 256 256 ?h3 zz _ M2.o _ xs ?h5 R2.o a0.o (w.heap.size+1) E (BX.o E) (zn6 _) ?_;(case h3=>kernel_rfl);(case h5=>kernel_rfl))
 intro w3 Q T;rw[zpi9 A.o]at Q;obtain⟨g,hg⟩:=exH w.heap.size;rw[hg.o]at O Q T K |-
 have F3:Hid (Fu w3 (g+1) xs):=⟨Q.o,A.o,HY.o⟩
 have Y:Hid (Fu w3 g zz):=⟨by rw[T.o.block g (by omega)];exact O.o.1,O.o.2⟩
 have B3:=za0 (K.o.trans (T.o.mono (by omega)));have a5:=za0 F3.o.range;have a4:Hid ((bcs xs).length=256):=by show _=_;rw[zc9];exact A.o
 have HT:=za0 Y.o.there;have a1:=za0 (zfo9 A.o);have a3:Hid ((bcs xs).toArray.all (·.oneCell')=true):=zbu9 _;have HP:=za0 (Y.o.put A.o HY.o);have a2:Hid (Below g w (w3.setCells g 0 (bcs xs))):=B3.o.trans ((zb9 g _ 0 w3).below (by have:=Y.o.lt;omega) (λ k e=>by omega));generalize goInt (List.take 256 xs).length=gi;clear Q T O F2 M2 K R2 H I s1 a0 F3 Y B3 BX
 go_wp2_with(first|(with_reducible (show wpList _ _ _ (Oper.mk _ (Op.load _ _) _ _ _ _::_) _ _);refine wpList_load_mid rfl 156 (.tmp 3) rfl (g+1) 0 rfl (bcs xs) _ a5.o Tryz.underlying156 rfl (by rw[a4.o];exact HI.o) ?_)|(with_reducible (show wpList _ _ _ (Oper.mk _ (Op.store _ _ _) _ _ _ _::_) _ _);refine wpList_store_mid rfl 156 (.tmp 2) (.tmp 7) rfl g 0 (bcs xs).toArray rfl rfl (by rw[a1.o];exact HT.o) (by rw[a1.o];exact HI.o) a3.o ?_))
 refine bodyPost_ret (v:=.agg (bcs xs).toArray) ?_ rfl ⟨rfl,?_⟩
 .exact zfa9 (p:=2) (ty:=156) rfl _ _ _ g _ rfl (by simpa using HP.o.load)
 .rw[hg.o];simpa using a2.o
def zlv9(xs:List Int)(w:World)(hl:xs.length=256)(hb:By xs):
 Calls Tryz.prog 118 #[.agg (bcs xs).toArray] w λ e w'=>e=.returned (.agg (bcs (smd xs)).toArray)/\Below w.heap.size w w':=by
 obtain⟨hv,hi⟩:=zero_of_info zfv9;have a9:=zin9;have HI:=za0 hi;have HL:=za0 hl;have HB:=za0 hb;obtain⟨K,A⟩:=exN (w.alloc (.cells (bcs xs).toArray 156));obtain⟨H,u⟩:=exN (K.alloc (.cells (bcs zz).toArray 156));have F1:Fu K w.heap.size xs:=by rw[<-A];exact zjl9 w hl hb
 have s1:K.heap.size=w.heap.size+1:=by rw[<-A];simp
 have s2:H.heap.size=w.heap.size+2:=by rw[<-u];simp[s1]
 have E:Hid (Fu H w.heap.size xs):=by rw[<-u];exact F1.below ((Below.refl _ _).alloc (zn6 _) _)
 have Q:Hid (Fu H (w.heap.size+1) zz):=by rw[<-u,<-s1];exact zjl9 K zz_len zz_by
 have O:Hid (Below w.heap.size w H):=by rw[<-u,<-A];exact((Below.refl _ _).alloc (zn6 _) _).alloc (by simp) _
 obtain⟨Z,hZ⟩:=exH ((bcs zz).toArray);obtain⟨X,hX⟩:=exH ((bcs xs).toArray);rw[hZ.o]at hv u;rw[hX.o]at A |-
 have Y:=za0 (E.o.rdTo 252 (by decide));have HC:Hid (crc (xs.take 252)<4294967296):=zwr9 _;obtain⟨g,hg⟩:=exH w.heap.size;have a2:Hid ((w.alloc (.cells X 156)).alloc (.cells Z 156)=H):=by show _=_;rw[A];exact u
 clear hi hl hb F1 s1 s2 A u
 go_enter Tryz.func118,Tryz.ntmps118
 go_wp2_with fail;rw[a2.o];rw[hg.o]at Y E Q O |-
 refine(zwq9 _ _ _ Y.o (HB.o.take 252)).mono ?_;rintro e w3 ⟨rfl,rfl⟩;have T:=zb0 (zpe9 HL.o);obtain⟨s,hs⟩:=exN (crc (xs.take 252));rw[hs]at HC T |-
 clear hs;go_wp2_with fail;refine(zgl9 g 252 4 s xs _ E.o (by have:=HC.o;omega) (by decide) (by decide)).mono ?_;rintro e w4 ⟨rfl,f4,t4⟩;rw[T.o]at f4;have F4:=za0 f4;have I:=za0 (Q.o.tch t4 (by omega));have B4:=za0 (O.o.trans (t4.below (Nat.le_of_lt E.o.lt) (λ k e=>by rw[e];exact zn6 _)));have a0:=za0 (ztj9 HL.o);have a7:=za0 (smd_by HB.o);have a6:=za0 F4.o.range;generalize hys:smd xs=ys at *
 have a8:=za0 hys;clear hys;have a5:Hid ((bcs ys).length=256):=by show _=_;rw[zc9];exact a0.o
 have HT:=za0 I.o.there;have a1:=za0 (zfo9 a0.o);have a4:Hid ((bcs ys).toArray.all (·.oneCell')=true):=zbu9 _;have HP:=za0 (I.o.put a0.o a7.o);have a3:Hid (Below g w (w4.setCells (g+1) 0 (bcs ys))):=B4.o.trans ((zb9 (g+1) _ 0 w4).below (by have:=I.o.lt;omega) (λ k e=>by omega));clear f4 t4 Y E Q O a2 I B4 T
 go_wp2_with(first|(with_reducible (show wpList _ _ _ (Oper.mk _ (Op.load _ _) _ _ _ _::_) _ _);refine wpList_load_mid rfl 156 (.tmp 1) rfl g 0 rfl (bcs ys) _ a6.o Tryz.underlying156 rfl (by rw[a5.o];exact HI.o) ?_)|(with_reducible (show wpList _ _ _ (Oper.mk _ (Op.store _ _ _) _ _ _ _::_) _ _);refine wpList_store_mid rfl 156 (.tmp 2) (.tmp 6) rfl (g+1) 0 (bcs ys).toArray rfl rfl (by rw[a1.o];exact HT.o) (by rw[a1.o];exact HI.o) a4.o ?_))
 refine bodyPost_ret (v:=.agg (bcs ys).toArray) ?_ rfl ⟨by rw[a8.o],?_⟩
 .exact zfa9 (p:=2) (ty:=156) rfl _ _ _ (g+1) _ rfl (by simpa using HP.o.load)
 .rw[hg.o];simpa using a3.o
def zht9(xs:List Int)(w:World)(A:xs.length=256)(u:By xs):
 Calls Tryz.prog 118 #[.agg (bcs xs).toArray] w λ e w'=>e=.returned (.agg (bcs (smd xs)).toArray)/\Below w.heap.size w w':=zlv9 xs w A u
def pre_eq(n k:Int)(ys:List Int)(h:ys.length<=240):
 splice ((((zz.set 0 k).set 1 (ys.length:Int)).set 2 (n % 256)).set 3 (n / 256)) 8 (ys.take 244)=pre n k ys++[0,0,0,0]:=by
 obtain⟨H,u⟩:=exN ([k,(ys.length:Int),n % 256,n / 256,0,0,0,0]);have A:H.length=8:=by rw[<-u];rfl
 have e:(((zz.set 0 k).set 1 (ys.length:Int)).set 2 (n % 256)).set 3 (n / 256)=H++List.replicate 248 0:=by rw[<-u];rfl
 rw[e,zn5 (by omega)];unfold splice pre;rw[u,List.take_append_of_le_length (by omega),zn5 (by omega),List.drop_append,List.drop_of_length_le (l:=H) (by omega),List.nil_append,A,List.drop_replicate];rw[show(248:Nat)-(8+ys.length-8)=(244-ys.length)+4 by omega,<-List.replicate_append_replicate];simp only[zw0];rfl
def leN_1(N:Nat)(h:N<256):leN 1 (N:Int)=[(N:Int)]:=by unfold leN;simp[List.range_succ];omega
def leN_2(N:Nat)(h:N<65536):leN 2 (N:Int)=[(N:Int) % 256,(N:Int) / 256]:=by unfold leN;simp[List.range_succ];omega
def zxj9(n k l:Nat)(E:n<65536)(u:k<256)(A:l<256):splice (splice (splice zz 0 (leN 1 (k:Int))) 1 (leN 1 (l:Int))) 2 (leN 2 (n:Int))=(((zz.set 0 (k:Int)).set 1 (l:Int)).set 2 ((n:Int) % 256)).set 3 ((n:Int) / 256):=by rw[leN_1 k u,leN_1 l A,leN_2 n E,zfd9 (by rfl) (by rw[zlt9 (by rw[zz_len];simp),zz_len];simp),zfd9 (by rfl) (by rw[zz_len];simp)];rfl
def zea9(n k:Int)(v:Value)(ys:List Int)(w:World)(hr:Rd .u8 w v ys)(hb:By ys)(hm:mayK n k ys.length=true):
 Calls Tryz.prog 90 #[.int .i64 n,blk k v] w λ e w'=>e=.returned (.agg (bcs (sec n k ys)).toArray)/\Below w.heap.size w w':=by
 obtain⟨a,cap,rfl,h1,h2,_⟩:=id hr;obtain⟨m1,m2,m3,m4,m5⟩:=zw9.1 hm;obtain⟨hv,hi⟩:=zero_of_info zfu9;have a3:=zeb9;have HR:=za0 hr;have HY:=za0 hb;have HI:=za0 hi;obtain⟨K,a0⟩:=exN (w.alloc (.cells #[.int .i64 k,.slice a ys.length cap] 63));obtain⟨O,a1⟩:=exN (K.alloc (.cells (bcs zz).toArray 156));obtain⟨W3,a2⟩:=exN (O.alloc (.cells (bcs zz).toArray 156));have s1:K.heap.size=w.heap.size+1:=by rw[<-a0];simp
 have s2:O.heap.size=w.heap.size+1+1:=by rw[<-a1];simp[s1]
 have s3:Hid (W3.heap.size=w.heap.size+3):=by show _=_;rw[<-a2];simp[s2]
 have b1:Below w.heap.size w K:=by rw[<-a0];exact(Below.refl _ _).alloc (zn6 _) _
 have b2:Below K.heap.size K O:=by rw[<-a1];exact(Below.refl _ _).alloc (zn6 _) _
 have b3:Below O.heap.size O W3:=by rw[<-a2];exact(Below.refl _ _).alloc (zn6 _) _
 have Q1:Bkv K w.heap.size k (.slice a ys.length cap):=by rw[<-a0];exact zz9 w _ _
 have T:=za0 ((Q1.below b2).below b3);have F2:Fv O (w.heap.size+1) zz:=by rw[<-a1,<-s1];exact fv_new K zz_len zz_by
 have FR:=za0 (F2.below b3);have FS:Hid (Fv W3 (w.heap.size+1+1) zz):=by rw[<-a2,<-s2];exact fv_new O zz_len zz_by
 have BB:=za0 (b1.trans ((b2.trans (b3.mono (by omega))).mono (by omega)));have q0:=T.o.c0;have q1:=T.o.c1;have hc:cap<=9223372036854775807:=by unfold maxLen at h2;omega
 obtain⟨Z,hZ⟩:=exH ((bcs zz).toArray);rw[hZ.o]at hv a1 a2;obtain⟨l,H⟩:=exH ys.length;rw[H.o]at HR h1 m5 hm a0 q1 T |-
 obtain⟨u,rfl⟩:∃u:Nat,n=u:=⟨n.toNat,by omega⟩
 obtain⟨A,rfl⟩:∃A:Nat,k=A:=⟨k.toNat,by omega⟩
 have ae:A<256:=by omega
 have af:u<65536:=by omega
 have HM:Hid (((0:Int)<=(u:Int)/\(u:Int)<=65535)/\((1:Int)<=(A:Int)/\(A:Int)<=4)):=⟨⟨m1,m2⟩,m3,m4⟩
 clear Q1 F2 b1 b2 b3 hi h2 hr hb m1 m2 m3 m4 hm;unfold blk
 go_enter Tryz.func90,Tryz.ntmps90
 go_wp2_with fail;obtain⟨g,hg⟩:=exH w.heap.size;rw[hg.o]at T FR FS BB s3 |-
 clear a0 a1 a2 q0 q1 hv;refine(zgl9 (g+1+1) 0 1 A zz W3 FS.o (by omega) (by decide) (by decide)).mono ?_;rintro e w4 ⟨rfl,f4,t4⟩;have I:=za0 f4;have Y:=za0 (T.o.tch t4 (by omega));have R4:=za0 (FR.o.tch t4 (by omega));have Q:=za0 (BB.o.trans (t4.below (by rw[s3.o];omega) (λ k e=>by rw[e];omega)));have z4:Hid (g+3<=w4.heap.size):=by show _<=_;have:=t4.size;rw[s3.o]at this;exact this
 have p1:=Y.o.c1;clear f4 t4 T FR FS BB;go_wp2_with fail;refine(zgl9 (g+1+1) 1 1 l _ w4 I.o (by omega) (by decide) (by decide)).mono ?_;rintro e w5 ⟨rfl,f5,t5⟩;have E:=za0 f5;have Q5:=za0 (Y.o.tch t5 (by omega));have R5:=za0 (R4.o.tch t5 (by omega));have B5:=za0 (Q.o.trans (t5.below (by have:=z4.o;omega) (λ k e=>by rw[e];omega)));have z5:Hid (g+3<=w5.heap.size):=by show _<=_;have:=t5.size;have:=z4.o;omega
 clear f5 t5 Y R4 Q I p1 z4;go_wp2_with fail;refine(zgl9 (g+1+1) 2 2 u _ w5 E.o (by omega) (by decide) (by decide)).mono ?_;rintro e W4 ⟨rfl,f6,t6⟩;rw[zxj9 u A l af ae (by omega)]at f6;have I:=za0 f6;have Y:=za0 (Q5.o.tch t6 (by omega));have R4:=za0 (R5.o.tch t6 (by omega));have Q:=za0 (B5.o.trans (t6.below (by have:=z5.o;omega) (λ k e=>by rw[e];omega)));have a7:=za0 (HR.o.below (hg.o▸Q.o:Below w.heap.size w W4));have c1:=Y.o.c1;clear f6 t6 Q5 R5 B5 E z5;generalize hL4:(((zz.set 0 (A:Int)).set 1 (l:Int)).set 2 ((u:Int) % 256)).set 3 ((u:Int) / 256)=L4 at I;have a5:=za0 hL4;clear hL4 s1 s2 s3;go_wp2_with fail;refine wp_region_still_tail 3 (by kernel_rfl) (by kernel_rfl) ?_
 simp only[List.take_succ_cons,List.take_zero,List.drop_succ_cons,List.drop_zero]
 repeat still_step
 refine wpStill_nil ?_;change wpList _ _ _ _ _ W4.drew;have FT:8+min ys.length 244<=L4.length:=by rw[I.o.2.1,H.o];omega
 refine zca9 _ rfl (.tmp 15) (.tmp 17) rfl (g+1+1) 8 244 248 (by kernel_rfl) L4 156 I.o.1 _ ys (by kernel_rfl) (a7.o.below ((Below.refl _ _).drew)) FT (g+1+1) W4 ((Below.refl _ _).drew) (zn6 _) ?_;intro w5 M5 N5;rw[<-a5.o,<-H.o,pre_eq (u:Int) (A:Int) ys (by rw[H.o];omega)]at M5;have aa:=zex9 (u:Int) (A:Int) (by rw[H.o];omega);have E:Hid (Fv w5 (g+1+1) (pre (u:Int) (A:Int) ys++[0,0,0,0])):=⟨M5.o,by rw[zf0,aa];rfl,(pre_by HM.o.1 HM.o.2 HY.o (by rw[H.o];omega)).appendB (zaz9 (by simp))⟩
 have R5:Hid (Fv w5 (g+1) zz):=by refine⟨?_,R4.o.2⟩;rw[N5.o.block (g+1) (by omega)];exact R4.o.1
 have B5:=za0 (Q.o.trans (N5.o.mono (by omega)));have HS:Hid (smd (pre (u:Int) (A:Int) ys++[0,0,0,0])=sec (u:Int) (A:Int) ys):=zyu9 (u:Int) (A:Int) (by rw[H.o];omega);have a3:=za0 (zhn9 (u:Int) (A:Int) (by rw[H.o];omega));have ad:=za0 (sec_by HM.o.1 HM.o.2 HY.o (by rw[H.o];omega));have a8:=za0 E.o.range;have a6:Hid ((bcs (pre (u:Int) (A:Int) ys++[0,0,0,0])).length=256):=by show _=_;rw[zc9];exact E.o.2.1
 generalize pre (u:Int) (A:Int) ys++[0,0,0,0]=P at *
 generalize goInt (List.take 244 ys).length=gi;clear M5 N5 Q R4 a7 I Y c1 FT a5 aa;go_wp2_with(with_reducible (show wpList _ _ _ (Oper.mk _ (Op.load _ _) _ _ _ _::_) _ _);refine wpList_load_mid rfl 156 (.tmp 5) rfl (g+1+1) 0 rfl (bcs P) _ a8.o Tryz.underlying156 rfl (by rw[a6.o];exact HI.o) ?_)
 refine(zht9 P w5 E.o.2.1 E.o.2.2).mono ?_;rintro e w6 ⟨rfl,a4⟩;rw[HS.o];have R6:=za0 (R5.o.below a4);have B6:=za0 (B5.o.trans (a4.mono (by have:=E.o.lt;omega)));have HT:=za0 R6.o.there;have a9:=za0 (zfn9 a3.o);have ac:Hid ((bcs (sec (u:Int) (A:Int) ys)).toArray.all (·.oneCell')=true):=zbu9 _;have HP:=za0 (R6.o.put a3.o ad.o);have ab:Hid (Below g w (w6.setCells (g+1) 0 (bcs (sec (u:Int) (A:Int) ys)))):=B6.o.trans ((zb9 (g+1) _ 0 w6).below (by have:=R6.o.lt;omega) (λ k e=>by omega));clear a4 E R5 B5 a8 a6 HS
 go_wp2_with(with_reducible (show wpList _ _ _ (Oper.mk _ (Op.store _ _ _) _ _ _ _::_) _ _);refine wpList_store_mid rfl 156 (.tmp 4) (.tmp 20) rfl (g+1) 0 (bcs (sec (u:Int) (A:Int) ys)).toArray rfl rfl (by rw[a9.o];exact HT.o) (by rw[a9.o];exact HI.o) ac.o ?_)
 refine bodyPost_ret (v:=.agg (bcs (sec (u:Int) (A:Int) ys)).toArray) ?_ rfl ⟨rfl,?_⟩
 .exact zbs9 (p:=4) (ty:=156) rfl _ _ _ (g+1) _ rfl (by simpa using HP.o.load)
 .rw[hg.o];simpa using ab.o
def PutR(n k:Int)(ys:List Int)(w:World)(e:Ending)(w':World):Prop:=
 ∃v c,e=.returned (.tuple #[v,.int .i64 c])/\Below w.heap.size w w'/\(∀j,v.ownBlock=some j->w.heap.size<=j)/\
  ((mayK n k ys.length=true/\c=0/\Wb w' v (sec n k ys)/\∃g,v=.slice (some ⟨g,0,none⟩) 256 256)\/(mayK n k ys.length=false/\c=1/\v=.slice none 0 0))
def zoq9(n k:Int)(v:Value)(ys:List Int)(w:World)(hr:Rd .u8 w v ys)(hb:By ys):
 Calls Tryz.prog 60 #[.int .i64 n,blk k v] w λ e w'=>PutR n k ys w e w':=by
 obtain⟨a,cap,rfl,h1,h2,_⟩:=id hr;obtain⟨hv,hi⟩:=zero_of_info zfu9;have a8:=zrv9;have HR:=za0 hr;have HY:=za0 hb;have HI:=za0 hi;obtain⟨W1,K⟩:=exN (w.alloc (.cells #[.int .i64 k,.slice a ys.length cap] 63));have I:Hid (Below w.heap.size w W1):=by rw[<-K];exact(Below.refl _ _).alloc (zn6 _) _
 have H:Hid (Bkv W1 w.heap.size k (.slice a ys.length cap)):=by rw[<-K];exact zz9 w _ _
 have q0:=H.o.c0;have q1:=H.o.c1;have a3:Hid (ys.length<=9223372036854775807):=by show _<=_;unfold maxLen at h2;omega
 obtain⟨Z,hZ⟩:=exH ((bcs zz).toArray);have HZ:Hid (Z.size=256):=by show _=_;rw[<-hZ.o,List.size_toArray,zc9,zz_len]
 rw[hZ.o]at hv;obtain⟨l,hl⟩:=exH ys.length;rw[hl.o]at HR K q1 H a3 |-
 have Y:=zju9 n k a l cap W1 a3.o;have u:=zb0 Y;cases hm:mayK n k l with
 | false=>
  have a5:Hid (∀w',Below w.heap.size w w'->PutR n k ys w (.returned (.tuple #[.slice none 0 0,.int .i64 1])) w'):=λ w' h=>⟨_,_,rfl,h,(λ j e=>by cases e),.inr ⟨by rw[hl.o];exact hm,rfl,rfl⟩⟩
  rw[hm]at u;clear hm Y hr hb h2 hi;unfold blk at u |-
  go_enter Tryz.func60,Tryz.ntmps60
  go_wp2_with fail;refine u.o.mono ?_;rintro e w2 ⟨rfl,A⟩;have E:=za0 (I.o.trans (A.mono I.o.size));clear A K;go_wp2_with fail;go_ret2;exact a5.o _ E.o
 | true=>
  have T:Hid (mayK n k ys.length=true):=by rw[hl.o];exact hm
  rw[hm]at u;clear hm Y hr hb h2 hi;unfold blk at u |-
  go_enter Tryz.func60,Tryz.ntmps60
  go_wp2_with fail;refine u.o.mono ?_;rintro e w2 ⟨rfl,A⟩;have E:=za0 (I.o.trans (A.mono I.o.size));have Q2:=za0 (H.o.below A);have R2:=za0 (HR.o.below E.o);have p0:=Q2.o.c0;have p1:=Q2.o.c1;clear A K q0 q1 H I;go_wp2_with fail;refine(zea9 n k _ ys w2 R2.o HY.o T.o).mono ?_;rintro e w3 ⟨rfl,a2⟩;have Q:=za0 (E.o.trans (a2.mono E.o.size));obtain⟨m1,m2,m3,m4,m5⟩:=zw9.1 T.o;have a0:Hid ((sec n k ys).length=256):=zhn9 n k (by omega);have a1:=za0 (zfn9 a0.o);have a4:Hid ((bcs (sec n k ys)).toArray.all (·.oneCell')=true):=zbu9 _;obtain⟨W4,O⟩:=exN (w3.alloc (.cells (bcs (sec n k ys)).toArray 156))
  have F4:Hid (Fv W4 w3.heap.size (sec n k ys)):=by rw[<-O];exact fv_new w3 a0.o (sec_by ⟨m1,m2⟩ ⟨m3,m4⟩ HY.o (by omega))
  have B4:Hid (Below w.heap.size w W4):=by rw[<-O];exact Q.o.alloc Q.o.size _
  have a6:=za0 Q.o.size;have a7:=za0 O;clear O a2 m1 m2 m3 m4 m5 p0 p1;go_wp2_with(with_reducible (show wpList _ _ _ (Oper.mk _ (Op.store _ _ _) _ _ _ _::_) _ _);refine zd9 _ rfl 156 (.tmp 6) (.tmp 13) rfl Z (bcs (sec n k ys)).toArray rfl rfl (by rw[HI.o,a1.o]) (by rw[HZ.o,a1.o]) a4.o ?_;rw[a7.o])
  go_ret2;refine⟨_,_,rfl,B4.o,(λ j e=>by cases e;exact a6.o),.inl ⟨T.o,rfl,F4.o.wb,_,rfl⟩⟩
def zfc9(m:Nat)(u:List Int)(h:u.length=m):splice (zr m) 0 u=u:=by unfold splice;rw[List.take_zero,List.nil_append,List.drop_of_length_le (by rw[zr_len];omega),List.append_nil]
def vN_sl1{xs:List Int}{i:Nat}(h:i<xs.length):vN (sl xs i 1)=xs.getD i 0:=by rw[show(1:Nat)=0+1 from rfl,zti9 (by omega)];simp[sl,vN]
def zqi9(xs:List Int)(w:World)(hl:xs.length=256)(hb:By xs):
 Calls Tryz.prog 139 #[.agg (bcs xs).toArray] w λ e w'=>∃v,e=.returned (blk (xs.getD 0 0) v)/\Wb w' v (bdy xs)/\Below w.heap.size w w'/\∀k,v.ownBlock=some k->w.heap.size<=k:=by
 obtain⟨j0,hj,am,an,ao⟩:=info_parts zuu9;have b5:=zeb9;have HL:=za0 hl;have HB:=za0 hb;obtain⟨W1,a7⟩:=exN (w.alloc (.cells (bcs xs).toArray 156));have F1:Fv W1 w.heap.size xs:=by rw[<-a7];exact fv_new w hl hb
 have s1:W1.heap.size=w.heap.size+1:=by rw[<-a7];simp
 obtain⟨X,hX⟩:=exH ((bcs xs).toArray);rw[hX.o]at a7 |-
 have b4:=za0 a7;obtain⟨L,hL⟩:=exN (bN xs 1);have b6:L<256:=by rw[<-hL];exact bN_lt hb 1
 obtain⟨m,hm⟩:=exN (min L 244);have b3:min (L:Int) 244=(m:Int):=by omega
 have ax:m<=244:=by omega
 have b1:=za0 hL;clear hL;obtain⟨W2,a8⟩:=exN (W1.alloc (.cells #[.int .i64 0,.slice none 0 0] 63));have ay:Below W1.heap.size W1 W2:=by rw[<-a8];exact(Below.refl _ _).alloc (zn6 _) _
 have s2:W2.heap.size=w.heap.size+2:=by rw[<-a8];simp[s1]
 have ak:Hid (Below w.heap.size w W2):=by rw[<-a8,<-b4.o];exact((Below.refl _ _).alloc (zn6 _) _).alloc (by simp) _
 have a5:=za0 (F1.below ay);have al:Hid (W2.heap[w.heap.size+1]?=some (.cells #[.int .i64 0,.slice none 0 0] 63 (0,0))):=by show _=_;rw[<-a8,<-s1];exact heap_alloc_new W1 _
 have a6:=za0 s2;have HK:Hid ((xs.drop 8).take m=bdy xs):=by show _=_;unfold bdy;rw[b1.o,hm]
 have b0:Hid (vN (sl xs 1 1)=(L:Int)):=by show _=_;rw[vN_sl1 (by omega),bN_eq hb,b1.o]
 have az:Hid (vN (sl xs 0 1)=xs.getD 0 0):=vN_sl1 (by omega);have H:=za0 ax;clear F1 ay s2 hl hb;by_cases hc:(244:Int)<(L:Int)
 .obtain rfl:m=244:=by omega
  clear hm b3 ax
  go_enter Tryz.func139,Tryz.ntmps139
  go_wp2_with fail;refine(zbr9 w.heap.size 1 1 xs W2 a5.o (by decide) (by decide)).mono ?_;rintro e w2 ⟨rfl,A⟩;rw[b0.o];have a2:=za0 ((show Fv W2 w.heap.size xs from a5.o).below A);have a4:Hid (w2.heap[w.heap.size+1]?=some (.cells #[.int .i64 0,.slice none 0 0] 63 (0,0))):=by show _=_;rw[A.block _ (by rw[a6.o];omega)];exact al.o
  have a0:=za0 (ak.o.trans (A.mono (by rw[a6.o];omega)));obtain⟨r,hr⟩:=exH w2.heap.size;have E:Hid (w.heap.size+2<=r):=by rw[<-hr.o,<-a6.o];exact A.size
  clear A a5 al ak a7 a8;go_wp2_with(at_make;refine wpList_make_full _ rfl (.tmp 5) (.tmp 5) 61 rfl 0 5 j0 _ 1 Tryz.underlying61 hj am an .i64 .i64 _ _ 244 rfl rfl rfl rfl (by rw[ao];have:=H.o;omega) (by unfold maxLen;have:=H.o;omega) (zn7 _) ?_)
  intro O aj ai;have T:=(Below.refl _ _).grown ai (zn6 _) (λ k e=>by cases e);obtain⟨g,hg⟩:=exH w.heap.size;have M3:Hid (O.heap[r]?=some (.cells (bcs (zr 244)).toArray 5 (0,0))):=by refine zoe9 ?_;have h3:=aj;rw[toList_madeCells_one,hr.o]at h3;exact h3
  rw[hg.o]at a2 a4 E a0 |-
  rw[hr.o];have Q:=za0 (a2.o.below T);have ad:Hid (O.heap[g+1]?=some (.cells #[.int .i64 0,.slice none 0 0] 63 (0,0))):=by show _=_;rw[T.block (g+1) (by rw[hr.o];have:=E.o;omega)];exact a4.o
  have a9:=za0 (a0.o.trans (T.mono (by rw[hr.o];have:=E.o;omega)));have ae:=za0 Q.o.rdMid;have aq:Hid (r<=r):=zn6 _;have ac:Hid (Below (r) O O):=Below.refl _ _;have ar:Hid (0+min ((xs.drop 8).take 244).length 244<=(zr 244).length):=by show _<=_;rw[zr_len];omega
  clear aj ai T hj am an ao a2 a4 a0;go_wp2_with(with_reducible (show wpList _ _ _ (Oper.mk _ (Op.call _) _ _ _ _::_) _ _);refine zca9 O rfl (.tmp 7) (.tmp 8) rfl (r) 0 244 244 ?h3 _ _ M3.o _ _ ?h5 ae.o ar.o (r) O ac.o aq.o ?_;(case h3=>kernel_rfl);(case h5=>kernel_rfl))
  intro Y M4 B4;have e4:splice (zr 244) 0 (((xs.drop 8).take 244).take 244)=bdy xs:=by rw[zh1,Nat.min_eq_left H.o,HK.o,zfc9];rw[<-HK.o,zg0,zj0,HL.o];have:=H.o;omega
  rw[e4]at M4;have a1:Hid (Fv Y g xs):=by refine⟨?_,Q.o.2⟩;rw[B4.o.block g (by have:=E.o;omega)];exact Q.o.1
  have a3:Hid (Y.heap[g+1]?=some (.cells #[.int .i64 0,.slice none 0 0] 63 (0,0))):=by show _=_;rw[B4.o.block (g+1) (by have:=E.o;omega)];exact ad.o
  have aa:=za0 (a9.o.trans (B4.o.mono (by have:=E.o;omega)));have ah:Hid ((bdy xs).length=244):=by show _=_;rw[<-HK.o,zg0,zj0,HL.o];have:=H.o;omega
  have af:Hid (Wb Y (.slice (some ⟨r,0,none⟩) 244 244) (bdy xs)):=⟨r,244,_,_,by rw[ah.o],by rw[ah.o];exact zn6 _,by unfold maxLen;have:=H.o;omega,M4.o,by rw[List.toList_toArray,zn5 (by rw[zc9];exact zn6 _)]⟩
  clear Q ad a9 ae ac M3 e4;go_wp2_with fail;refine(zbr9 g 0 1 xs Y a1.o (by decide) (by decide)).mono ?_;rintro e u ⟨rfl,A⟩;rw[az.o];have I:Hid (u.heap[g+1]?=some (.cells #[.int .i64 0,.slice none 0 0] 63 (0,0))):=by show _=_;rw[A.block (g+1) (zd0.1 a3.o).1];exact a3.o
  have ab:=za0 (aa.o.trans (A.mono (Nat.le_of_lt a1.o.lt)));have ag:=za0 (af.o.below A);clear A a1 a3 aa af M4;have q0:u.cell? ⟨g+1,0,none⟩=some (.int .i64 0):=by rw[cell_of_row u (g+1) 0 _ _ (0,0) I.o];rfl
  have q1:u.cell? ⟨g+1,1,none⟩=some (.slice none 0 0):=by rw[cell_of_row u (g+1) 1 _ _ (0,0) I.o];rfl
  have f0:=frozen_of_row u (g+1) 0 _ _ I.o;have f1:=frozen_of_row u (g+1) 1 _ _ I.o;have aw:=HB.o 0;obtain⟨K,hK⟩:=exH (xs.getD 0 0);rw[hK.o]at aw |-
  have av:Hid (Wb ((u.setCell ⟨g+1,0,none⟩ (.int .i64 K)).setCell ⟨g+1,1,none⟩ (.slice (some ⟨r,0,none⟩) 244 244)) (.slice (some ⟨r,0,none⟩) 244 244) (bdy xs)):=by exact ag.o.tch (S:=λ k=>k=g+1) (Tch.setCell (Tch.setCell (Tch.refl (λ k=>k=g+1) u) (p:=⟨g+1,0,none⟩) (λ _=>rfl) _) (p:=⟨g+1,1,none⟩) (λ _=>rfl) _) (λ j hj e=>by cases hj;have e2:r=g+1:=e;have:=E.o;omega)
  have ap:Hid (Below g w ((u.setCell ⟨g+1,0,none⟩ (.int .i64 K)).setCell ⟨g+1,1,none⟩ (.slice (some ⟨r,0,none⟩) 244 244))):=(ab.o.setCell (by show g<=g+1;omega) _).setCell (by show g<=g+1;omega) _;have au:=zb0 (Bkv.put (show Bkv u (g+1) 0 (.slice none 0 0)from I.o) K (.slice (some ⟨r,0,none⟩) 244 244)).load;clear I ab ag;go_wp2_with fail;refine bodyPost_ret (v:=blk K (.slice (some ⟨r,0,none⟩) 244 244)) (zbs9 (p:=2) (ty:=63) rfl _ _ _ (g+1) _ rfl au.o) rfl ?_;refine⟨_,by rw[hK.o],av.o,by rw[hg.o];exact ap.o,λ k hk=>by cases hk;rw[hg.o];show g<=r;have:=E.o;omega⟩
 .have b2:m=L:=by omega
  rw[b2]at HK H;clear b2;clear hm b3 ax
  go_enter Tryz.func139,Tryz.ntmps139
  go_wp2_with fail;refine(zbr9 w.heap.size 1 1 xs W2 a5.o (by decide) (by decide)).mono ?_;rintro e w2 ⟨rfl,A⟩;rw[b0.o];have a2:=za0 ((show Fv W2 w.heap.size xs from a5.o).below A);have a4:Hid (w2.heap[w.heap.size+1]?=some (.cells #[.int .i64 0,.slice none 0 0] 63 (0,0))):=by show _=_;rw[A.block _ (by rw[a6.o];omega)];exact al.o
  have a0:=za0 (ak.o.trans (A.mono (by rw[a6.o];omega)));obtain⟨r,hr⟩:=exH w2.heap.size;have E:Hid (w.heap.size+2<=r):=by rw[<-hr.o,<-a6.o];exact A.size
  clear A a5 al ak a7 a8;go_wp2_with(at_make;refine wpList_make_full _ rfl (.tmp 5) (.tmp 5) 61 rfl 0 5 j0 _ 1 Tryz.underlying61 hj am an .i64 .i64 _ _ L rfl rfl rfl rfl (by rw[ao];have:=H.o;omega) (by unfold maxLen;have:=H.o;omega) (zn7 _) ?_)
  intro O aj ai;have T:=(Below.refl _ _).grown ai (zn6 _) (λ k e=>by cases e);obtain⟨g,hg⟩:=exH w.heap.size;have M3:Hid (O.heap[r]?=some (.cells (bcs (zr L)).toArray 5 (0,0))):=by refine zoe9 ?_;have h3:=aj;rw[toList_madeCells_one,hr.o]at h3;exact h3
  rw[hg.o]at a2 a4 E a0 |-
  rw[hr.o];have Q:=za0 (a2.o.below T);have ad:Hid (O.heap[g+1]?=some (.cells #[.int .i64 0,.slice none 0 0] 63 (0,0))):=by show _=_;rw[T.block (g+1) (by rw[hr.o];have:=E.o;omega)];exact a4.o
  have a9:=za0 (a0.o.trans (T.mono (by rw[hr.o];have:=E.o;omega)));have ae:=za0 Q.o.rdMid;have aq:Hid (r<=r):=zn6 _;have ac:Hid (Below (r) O O):=Below.refl _ _;have ar:Hid (0+min ((xs.drop 8).take 244).length L<=(zr L).length):=by show _<=_;rw[zr_len];omega
  clear aj ai T hj am an ao a2 a4 a0;go_wp2_with(with_reducible (show wpList _ _ _ (Oper.mk _ (Op.call _) _ _ _ _::_) _ _);refine zca9 O rfl (.tmp 7) (.tmp 8) rfl (r) 0 L L ?h3 _ _ M3.o _ _ ?h5 ae.o ar.o (r) O ac.o aq.o ?_;(case h3=>kernel_rfl);(case h5=>kernel_rfl))
  intro Y M4 B4;have e4:splice (zr L) 0 (((xs.drop 8).take 244).take L)=bdy xs:=by rw[zh1,Nat.min_eq_left H.o,HK.o,zfc9];rw[<-HK.o,zg0,zj0,HL.o];have:=H.o;omega
  rw[e4]at M4;have a1:Hid (Fv Y g xs):=by refine⟨?_,Q.o.2⟩;rw[B4.o.block g (by have:=E.o;omega)];exact Q.o.1
  have a3:Hid (Y.heap[g+1]?=some (.cells #[.int .i64 0,.slice none 0 0] 63 (0,0))):=by show _=_;rw[B4.o.block (g+1) (by have:=E.o;omega)];exact ad.o
  have aa:=za0 (a9.o.trans (B4.o.mono (by have:=E.o;omega)));have ah:Hid ((bdy xs).length=L):=by show _=_;rw[<-HK.o,zg0,zj0,HL.o];have:=H.o;omega
  have af:Hid (Wb Y (.slice (some ⟨r,0,none⟩) L L) (bdy xs)):=⟨r,L,_,_,by rw[ah.o],by rw[ah.o];exact zn6 _,by unfold maxLen;have:=H.o;omega,M4.o,by rw[List.toList_toArray,zn5 (by rw[zc9];exact zn6 _)]⟩
  clear Q ad a9 ae ac M3 e4;go_wp2_with fail;refine(zbr9 g 0 1 xs Y a1.o (by decide) (by decide)).mono ?_;rintro e u ⟨rfl,A⟩;rw[az.o];have I:Hid (u.heap[g+1]?=some (.cells #[.int .i64 0,.slice none 0 0] 63 (0,0))):=by show _=_;rw[A.block (g+1) (zd0.1 a3.o).1];exact a3.o
  have ab:=za0 (aa.o.trans (A.mono (Nat.le_of_lt a1.o.lt)));have ag:=za0 (af.o.below A);clear A a1 a3 aa af M4;have q0:u.cell? ⟨g+1,0,none⟩=some (.int .i64 0):=by rw[cell_of_row u (g+1) 0 _ _ (0,0) I.o];rfl
  have q1:u.cell? ⟨g+1,1,none⟩=some (.slice none 0 0):=by rw[cell_of_row u (g+1) 1 _ _ (0,0) I.o];rfl
  have f0:=frozen_of_row u (g+1) 0 _ _ I.o;have f1:=frozen_of_row u (g+1) 1 _ _ I.o;have aw:=HB.o 0;obtain⟨K,hK⟩:=exH (xs.getD 0 0);rw[hK.o]at aw |-
  have av:Hid (Wb ((u.setCell ⟨g+1,0,none⟩ (.int .i64 K)).setCell ⟨g+1,1,none⟩ (.slice (some ⟨r,0,none⟩) L L)) (.slice (some ⟨r,0,none⟩) L L) (bdy xs)):=by exact ag.o.tch (S:=λ k=>k=g+1) (Tch.setCell (Tch.setCell (Tch.refl (λ k=>k=g+1) u) (p:=⟨g+1,0,none⟩) (λ _=>rfl) _) (p:=⟨g+1,1,none⟩) (λ _=>rfl) _) (λ j hj e=>by cases hj;have e2:r=g+1:=e;have:=E.o;omega)
  have ap:Hid (Below g w ((u.setCell ⟨g+1,0,none⟩ (.int .i64 K)).setCell ⟨g+1,1,none⟩ (.slice (some ⟨r,0,none⟩) L L))):=(ab.o.setCell (by show g<=g+1;omega) _).setCell (by show g<=g+1;omega) _;have au:=zb0 (Bkv.put (show Bkv u (g+1) 0 (.slice none 0 0)from I.o) K (.slice (some ⟨r,0,none⟩) L L)).load;clear I ab ag;go_wp2_with fail;refine bodyPost_ret (v:=blk K (.slice (some ⟨r,0,none⟩) L L)) (zbs9 (p:=2) (ty:=63) rfl _ _ _ (g+1) _ rfl au.o) rfl ?_;refine⟨_,by rw[hK.o],av.o,by rw[hg.o];exact ap.o,λ k hk=>by cases hk;rw[hg.o];show g<=r;have:=E.o;omega⟩
