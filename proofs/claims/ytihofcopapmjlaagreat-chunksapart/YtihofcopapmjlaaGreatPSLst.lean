import Derived.Test.YtihofcopapmjlaaGreatPSSpr
import Derived.Laws.CopyOwn
import Derived.Test.YtihofcopapmjlaaGreatPSFw
import Derived.StillTailTactics
import Derived.Test.YtihofcopapmjlaaGreatPBBlk
set_option maxRecDepth 100000
set_option linter.all false
set_option maxHeartbeats 8000000
namespace Go.Proofs.YtihofcopapmjlaaGreat
open Go.Proofs.Tryz
section
open Go.RowKit Pl
def IH(xs:List Int)(i:Nat):Nat:=if i<xs.length then bN xs i else 0
def Jb(xs:List Int)(i:Nat):Nat:=if i<xs.length then bN xs i else if i=xs.length then 128 else 0
def II(xs:List Int)(sz R i:Nat):Nat:=if R-8<=i then 8*sz / 2 ^ (8*(R-1-i)) % 256 else Jb xs i
def FM(xs:List Int)(sz R j i:Nat):Nat:=if R-j<=i then 8*sz / 2 ^ (8*(R-1-i)) % 256 else Jb xs i
def Tp(xs i):Fm (IH xs) xs.length 128 i=Jb xs i:=by
 unfold Fm IH Jb
 grind
def Tq(xs f R j i)(A:j<8)(q:8<=R)(r:i<R):Fm (FM xs f R j) (R-1-j) (8*f / 2 ^ (8*j) % 256) i=FM xs f R (j+1) i:=by
 unfold Fm FM
 grind
def WY{w e g n}(L:0<n)(h:w.ownsRow 0 e 1 (.slice (some ⟨g,0,none⟩) n n) n (List.replicate n (.int .u8 0))):Uv .u8 w g e n (λ _=>0):=by
 rcases h.2 with⟨A,_⟩|⟨I,cap,f,hv,_,B,O,J,K,E⟩
 .cases A
 .cases hv;unfold Uv;rw[B];have r:f.toList=Ag .u8 n (λ _=>0):=by have:f.toList.take (n*1)=f.toList:=Cj (by grind);rw[<-this,E];apply List.ext_getElem?;intro i;by_cases q:i<n;simp[Ag,q];simp[Ag,q]
  rw[<-r]
def AGN(xs)(f:By xs)(R)(h:xs.length<=R):splice (Ag .u8 R (λ _=>0)) 0 (xs.map (Value.int .u8))=Ag .u8 R (IH xs):=by
 apply List.ext_getElem?;intro i;unfold splice;rw[List.take_zero,List.nil_append,Nat.zero_add,zu0];by_cases c:i<xs.length
 .rw[zk0 (by grind),Jp _ _ _ _ (by omega)];simp only[IH,if_pos c];rw[<-Nd f]
  grind
 .rw[zj0 (by grind),zu0,zp0,show xs.length+(i-xs.length)=i by omega];by_cases d:i<R;rw[Jp _ _ _ _ d,Jp _ _ _ _ d];simp[IH,c];rw[zn0 (by rw[GO];omega),zn0 (by rw[GO];omega)]
def Uv.rd{w g t n c}(h:Uv .u8 w g t n c)(q:n<=maxLen):Rd .u8 w (.slice (some ⟨g,0,none⟩) n n) ((List.range n).map λ i=>(c i:Int)):=by
 refine⟨some ⟨g,0,none⟩,n,by simp,by simp,q,(λ e=>by cases e),.inr ⟨g,0,rfl,λ i r=>?_⟩⟩;have f:i<n:=by grind
 rw[Nat.zero_add,h.at_ i f]
 grind
def AEh{c:Nat->Nat}(n)(h:∀i,c i<256):By ((List.range n).map λ i=>(c i:Int)):=λ i=>by grind
def AEg(c:Nat->Nat)(n i)(h:i<n):bN ((List.range n).map λ i=>(c i:Int)) i=c i:=by
 unfold bN
 grind
def ACY{xs}(f:By xs)(q R i):II xs q R i<256:=by
 unfold II Jb;split;omega
 .split;exact J3 f i
  grind
theorem TM:(prog.info? 5).map (λ i=>(i.zero,i.size,i.bytes))=some (some (.int .u8 0),1,1):=by kernel_rfl
def Wn(w){r A o a Q}(J:o.guard=none)(d s)(T:o.op=.call { callee:=.builtin .copy,args:=#[d,s],argTypes:=#[40,40] })(g R)(hd:a.eval d=.slice (some ⟨g,0,none⟩) R R)(hu:Uv .u8 w g 5 R (λ _=>0))(v xs)(hs:a.eval s=v)(hr:Rd .u8 w v xs)(hb:By xs)(hl:xs.length<=R)(B w0)(hB:Below B w0 w)(hBg:B<=g)(h:∀f,Hid (Uv .u8 f g 5 R (IH xs))->Hid (Below B w0 f)->wpList prog r Q A (a.put o.dst (goInt xs.length)) f):wpList prog r Q (o::A) a w:=by
 obtain⟨sp,cap,rfl,W,X,Y,E⟩:=hr;have L:(prog.info? 5).map (·.size)=some 1:=by kernel_rfl
 refine wpList_copy_splice J d s 40 40 T 5 underlying40 L (some ⟨g,0,none⟩) sp R R xs.length cap hd hs g 0 (Ag .u8 R (λ _=>0)) 5 hu (xs.map (Value.int .u8)) ?_ ?_ ?_ (ints_oneCell .u8 xs) B w0 hB hBg ?_
 .grind
 .intro U;refine⟨rfl,?_⟩;rcases E with rfl|⟨b,o,rfl,hc⟩
  .simp at U
  .refine⟨_,rfl,λ j v hv=>?_⟩;(have O:j<xs.length:=by grind);rw[Addr.add_lit,hc j O]
   grind
 .rw[zu0,GO];omega
 .intro f K I;have q:=K.o;rw[AGN xs hb R hl]at q;rw[zu0];exact h f q I
def LN(xs:List Int)(sz R:Nat)(w:World)(e:Ending)(w':World):Prop:=
 ∃v,e=.returned v/\Rd .u8 w' v ((List.range R).map λ i=>(II xs sz R i:Int))/\Below w.heap.size w w'
def ABy(v xs)(f:Nat)(w)(hr:Rd .u8 w v xs)(hb:By xs)(hl:xs.length<64)(am:f<=65536)(hR:xs.length+9<=64):
 Calls prog 58 #[v,.int .i64 (f:Int)] w λ e w'=>LN xs f 64 w e w':=by
 obtain⟨a,cap,hv,_⟩:=id hr;subst hv;have L:=z6 hr;have HB:=z6 hb;clear hr hb;obtain⟨j0,I,a1⟩:=Option.map_eq_some_iff.1 TM;simp only[Prod.mk.injEq]at a1;obtain⟨a5,J,a6⟩:=a1;have aa:Hid ((prog.info? 5).map (·.size)=some 1):=by show _=_;rw[I];simp[J]
 obtain⟨r,a4⟩:=exN xs.length;rw[a4]at L hl hR |-
 have ad:¬((64:Int)<(r:Int)+1+8):=by omega
 go_enter func58,ntmps58
 go_wp2_with(at_make;refine wpList_make_full _ rfl (.tmp 14) (.tmp 14) 40 rfl 0 5 j0 _ 1 underlying40 I a5 J .i64 .i64 _ _ 64 rfl rfl rfl rfl (by rw[a6];omega) (by unfold maxLen;omega) (AI _) ?_)
 intro w2 a3 a0;have O:=(Below.refl _ _).grown a0 (AE _) (λ k e=>by cases e);obtain⟨g,A⟩:=exH w.heap.size;have Z:Hid (Uv .u8 w2 g 5 64 (λ _=>0)):=by refine WY (by decide) ?_;have h3:=a3;rw[toList_madeCells_one,A.o]at h3;exact h3
 have U:=z6 O;have Y:=z6 (L.o.below O);rw[A.o];clear a3 a0 O I a5 J a6 L;have a7:Hid (w.heap.size<=g):=by show _<=_;rw[A.o];exact AE _
 have a8:Hid (xs.length<=64):=by show _<=_;omega
 go_wp2_with(with_reducible (show wpList _ _ _ (Oper.mk _ (Op.call _) _ _ _ _::_) _ _);refine Wn w2 rfl (.tmp 16) (.tmp 17) rfl g 64 ?h3 Z.o (.slice a r cap) xs ?h5 Y.o HB.o a8.o w.heap.size w U.o a7.o ?_;(case h3=>kernel_rfl);(case h5=>kernel_rfl))
 intro T E W;have c3:=E.o.at_ r (by omega);have f3:=E.o.fz r;have U4:Hid (Uv .u8 (T.setCell ⟨g,r,none⟩ (.int .u8 128)) g 5 64 (FM xs f 64 0)):=by refine(E.o.set r (by omega) 128).congr (λ i hi=>?_);rw[<-a4,Tp];unfold FM;rw[if_neg (by omega)]
 have X:Hid (Below w.heap.size w (T.setCell ⟨g,r,none⟩ (.int .u8 128))):=W.o.trans (Below.setCell (Below.refl _ _) (by show w.heap.size<=g;rw[A.o];exact AE _) _);have al:(r:Int)<64:=by omega
 generalize IH xs r=z3 at c3;clear Z U Y E W;go_wp2_with fail;generalize T.setCell ⟨g,r,none⟩ (.int .u8 128)=w4 at *
 clear c3 f3
 go_loopw [26] (λ i wr=>∃j:Nat,j<=8/\i=.int .i64 j/\Hid (Uv .u8 wr g 5 64 (FM xs f 64 j))/\Hid (Below w.heap.size w wr)) (λ i _=>8-(intOf i).toNat)
 case atStart=>exact⟨0,AI _,rfl,U4,X⟩
 case round=>
  clear U4 X;obtain⟨j,I,rfl,q,K⟩:=hrel;by_cases a2:j<8
  .obtain⟨p,hp⟩:=exN (64-1-j);have c5:=q.o.at_ p (by omega);have f5:=q.o.fz p;obtain⟨y,B⟩:=exN (8*f / 2 ^ (8*j) % 256);have U6:Hid (Uv .u8 (wr.setCell ⟨g,p,none⟩ (.int .u8 (y:Int))) g 5 64 (FM xs f 64 (j+1))):=by refine(q.o.set p (by omega) y).congr (λ i hi=>?_);rw[<-hp,<-B];exact Tq xs f 64 j i a2 (by omega) hi
   (have B6:Hid (Below w.heap.size w (wr.setCell ⟨g,p,none⟩ (.int .u8 (y:Int)))):=K.o.setCell (by show w.heap.size<=g;rw[A.o];exact AE _) _;generalize FM xs f 64 j p=z5 at c5;obtain⟨m,hm⟩:=exN (8*j);rw[hm]at B;obtain⟨N,hN⟩:=exN (8*f);rw[hN]at B;(have ab:(f:Int)*8=(N:Int):=by omega);(have ac:N<=524288:=by omega);(have ae:8*(j:Int)=(m:Int):=by omega);(have af:(m:Int)<=56:=by omega);(have ai:(64:Int)-1-(j:Int)=(p:Int):=by omega);(have aj:(63:Int)-(j:Int)=(p:Int):=by omega);(have ak:(p:Int)<64:=by omega);have J:(N:Int) / 2 ^ m % 256=(y:Int):=by rw[<-B,Int.natCast_emod,Int.natCast_ediv,Int.natCast_pow];rfl);clear q K hp B hm hN;go_wp2_with fail
   go_roundw
   (case rel=>exact⟨j+1,by omega,by go_num,U6,B6⟩);case measure=>simp[intOf];omega
  .have a9:j=8:=by omega
   rw[a9]at q;(have ag:¬(j:Int)<8:=by omega);have U7:=z6 q;clear a2;go_wp2_with fail;go_ret;exact⟨_,rfl,U7.o.rd (by unfold maxLen;omega),K.o⟩
def ABx(v xs)(f:Nat)(w)(hr:Rd .u8 w v xs)(hb:By xs)(hl:xs.length<64)(am:f<=65536)(hR:64<xs.length+9):
 Calls prog 58 #[v,.int .i64 (f:Int)] w λ e w'=>LN xs f 128 w e w':=by
 obtain⟨a,cap,hv,_⟩:=id hr;subst hv;have L:=z6 hr;have HB:=z6 hb;clear hr hb;obtain⟨j0,I,a1⟩:=Option.map_eq_some_iff.1 TM;simp only[Prod.mk.injEq]at a1;obtain⟨a5,J,a6⟩:=a1;have aa:Hid ((prog.info? 5).map (·.size)=some 1):=by show _=_;rw[I];simp[J]
 obtain⟨r,a4⟩:=exN xs.length;rw[a4]at L hl hR |-
 have ad:(64:Int)<(r:Int)+1+8:=by omega
 go_enter func58,ntmps58
 go_wp2_with(at_make;refine wpList_make_full _ rfl (.tmp 14) (.tmp 14) 40 rfl 0 5 j0 _ 1 underlying40 I a5 J .i64 .i64 _ _ 128 rfl rfl rfl rfl (by rw[a6];omega) (by unfold maxLen;omega) (AI _) ?_)
 intro w2 a3 a0;have O:=(Below.refl _ _).grown a0 (AE _) (λ k e=>by cases e);obtain⟨g,A⟩:=exH w.heap.size;have Z:Hid (Uv .u8 w2 g 5 128 (λ _=>0)):=by refine WY (by decide) ?_;have h3:=a3;rw[toList_madeCells_one,A.o]at h3;exact h3
 have U:=z6 O;have Y:=z6 (L.o.below O);rw[A.o];clear a3 a0 O I a5 J a6 L;have a7:Hid (w.heap.size<=g):=by show _<=_;rw[A.o];exact AE _
 have a8:Hid (xs.length<=128):=by show _<=_;omega
 go_wp2_with(with_reducible (show wpList _ _ _ (Oper.mk _ (Op.call _) _ _ _ _::_) _ _);refine Wn w2 rfl (.tmp 16) (.tmp 17) rfl g 128 ?h3 Z.o (.slice a r cap) xs ?h5 Y.o HB.o a8.o w.heap.size w U.o a7.o ?_;(case h3=>kernel_rfl);(case h5=>kernel_rfl))
 intro T E W;have c3:=E.o.at_ r (by omega);have f3:=E.o.fz r;have U4:Hid (Uv .u8 (T.setCell ⟨g,r,none⟩ (.int .u8 128)) g 5 128 (FM xs f 128 0)):=by refine(E.o.set r (by omega) 128).congr (λ i hi=>?_);rw[<-a4,Tp];unfold FM;rw[if_neg (by omega)]
 have X:Hid (Below w.heap.size w (T.setCell ⟨g,r,none⟩ (.int .u8 128))):=W.o.trans (Below.setCell (Below.refl _ _) (by show w.heap.size<=g;rw[A.o];exact AE _) _);have al:(r:Int)<128:=by omega
 generalize IH xs r=z3 at c3;clear Z U Y E W;go_wp2_with fail;generalize T.setCell ⟨g,r,none⟩ (.int .u8 128)=w4 at *
 clear c3 f3
 go_loopw [26] (λ i wr=>∃j:Nat,j<=8/\i=.int .i64 j/\Hid (Uv .u8 wr g 5 128 (FM xs f 128 j))/\Hid (Below w.heap.size w wr)) (λ i _=>8-(intOf i).toNat)
 case atStart=>exact⟨0,AI _,rfl,U4,X⟩
 case round=>
  clear U4 X;obtain⟨j,I,rfl,q,K⟩:=hrel;by_cases a2:j<8
  .obtain⟨p,hp⟩:=exN (128-1-j);have c5:=q.o.at_ p (by omega);have f5:=q.o.fz p;obtain⟨y,B⟩:=exN (8*f / 2 ^ (8*j) % 256);have U6:Hid (Uv .u8 (wr.setCell ⟨g,p,none⟩ (.int .u8 (y:Int))) g 5 128 (FM xs f 128 (j+1))):=by refine(q.o.set p (by omega) y).congr (λ i hi=>?_);rw[<-hp,<-B];exact Tq xs f 128 j i a2 (by omega) hi
   (have B6:Hid (Below w.heap.size w (wr.setCell ⟨g,p,none⟩ (.int .u8 (y:Int)))):=K.o.setCell (by show w.heap.size<=g;rw[A.o];exact AE _) _;generalize FM xs f 128 j p=z5 at c5;obtain⟨m,hm⟩:=exN (8*j);rw[hm]at B;obtain⟨N,hN⟩:=exN (8*f);rw[hN]at B;(have ab:(f:Int)*8=(N:Int):=by omega);(have ac:N<=524288:=by omega);(have ae:8*(j:Int)=(m:Int):=by omega);(have af:(m:Int)<=56:=by omega);(have ai:(128:Int)-1-(j:Int)=(p:Int):=by omega);(have aj:(127:Int)-(j:Int)=(p:Int):=by omega);(have ak:(p:Int)<128:=by omega);have J:(N:Int) / 2 ^ m % 256=(y:Int):=by rw[<-B,Int.natCast_emod,Int.natCast_ediv,Int.natCast_pow];rfl);clear q K hp B hm hN;go_wp2_with fail
   go_roundw
   (case rel=>exact⟨j+1,by omega,by go_num,U6,B6⟩);case measure=>simp[intOf];omega
  .have a9:j=8:=by omega
   rw[a9]at q;(have ag:¬(j:Int)<8:=by omega);have U7:=z6 q;clear a2;go_wp2_with fail;go_ret;exact⟨_,rfl,U7.o.rd (by unfold maxLen;omega),K.o⟩
def np(L:Nat):Nat:=(L+8) / 64+1
def pm(xs:List Int)(i:Nat):Nat:=
 if i<xs.length then bN xs i else if i=xs.length then 128 else if 64*np xs.length-8<=i then 8*xs.length / 2 ^ (8*(64*np xs.length-1-i)) % 256 else 0
def Km(xs:List Int)(i:Nat):Nat:=Ga (dg (pm xs) (np xs.length)) i
def AFu(xs m R)(E:xs.length / 64=m)(f:64*np xs.length=64*m+R)(n)(I:R=64*n):
 CY (bN ((List.range R).map λ i=>(II (xs.drop (64*m)) xs.length R i:Int))) (CY (bN (xs.take (64*m))) ER m) n=dg (pm xs) (np xs.length):=by
 have B:64*m<=xs.length:=by omega
 have q:CY (bN (xs.take (64*m))) ER m=CY (pm xs) ER m:=WQ _ _ (λ j r=>by
  unfold pm bN
  grind)
 have A:np xs.length=m+n:=by omega
 rw[q,<-WR,A,<-WP];refine WQ _ _ (λ j r=>?_);rw[AEg _ _ _ (by omega)];unfold II Jb pm;rw[zg0,RD,f];unfold np at f
 grind
def AEl{k w a cap n xs}(h:Rd k w (.slice a n cap) xs)(m)(J:m<=xs.length):Rd k w (.slice a m cap) (xs.take m):=by
 obtain⟨A,B,e,E,q,r,I⟩:=h;cases e;have f:(xs.take m).length=m:=by grind
 refine⟨a,cap,by rw[f],by omega,q,r,?_⟩
 grind
def YQ{xs}(h:By xs)(m):By (xs.take m):=λ i=>by
 have:=h i
 grind
def ABz(v xs)(f m R:Nat)(w)(hr:Rd .u8 w v (xs.drop (64*m)))(q:By xs)(E:xs.length / 64=m)(A:64*np xs.length=64*m+R)(r:f<=65536):
 Calls prog 58 #[v,.int .i64 (f:Int)] w λ e w'=>LN (xs.drop (64*m)) f R w e w':=by
 unfold np at A;have B:(xs.drop (64*m)).length=xs.length-64*m:=zg0;by_cases c:(xs.drop (64*m)).length+9<=64
 .obtain rfl:R=64:=by omega
  exact ABy v _ f w hr (J6 q _) (by omega) r c
 .obtain rfl:R=128:=by omega
  exact ABx v _ f w hr (J6 q _) (by omega) r (by omega)
def AFt(v xs w)(hr:Rd .u8 w v xs)(hb:By xs)(hL:xs.length<=65536):
 Calls prog 31 #[v] w λ e w'=>e=.returned (.agg (Ag .u8 32 (Km xs)).toArray)/\Below w.heap.size w w':=by
 obtain⟨a,cap,hv,_⟩:=id hr;subst hv;have HR:=z6 hr;have HB:=z6 hb;clear hr hb;obtain⟨ar,an⟩:=zero_of_info TD;have ab:=z6 an;obtain⟨av,ap⟩:=zero_of_info TG;have ax:=z6 ap;obtain⟨au,ao⟩:=zero_of_info MP;have aw:=z6 ao;clear an ap ao;obtain⟨b5,ak⟩:=exH ((Ag .u8 32 (λ _=>0)).toArray);rw[ak.o]at ar;obtain⟨Z8,am⟩:=exH ((Ag .u32 8 (λ _=>0)).toArray);rw[am.o]at av;have b3:Hid (Z8.size=8):=by show _=_;rw[<-am.o];exact Gu _ _ _
 obtain⟨aj,al⟩:=exH ((Ag .u32 64 (λ _=>0)).toArray);rw[al.o]at au;have b2:Hid (aj.size=64):=by show _=_;rw[<-al.o];exact Gu _ _ _
 obtain⟨F,hF⟩:=exH (Ag .u8 32 (Km xs));rw[hF.o];obtain⟨F8,X⟩:=exH (Ag .u32 8 ER.at_);have aa:Hid (F8.toArray.size=8):=by show _=_;rw[<-X.o];exact Gu _ _ _
 have az:Hid (F8.toArray.all (·.oneCell')=true):=by show _=_;rw[<-X.o];exact IZ _ _ _
 obtain⟨T,W⟩:=exH (Ag .u32 64 kF);have a9:Hid (T.toArray.size=64):=by show _=_;rw[<-W.o];exact Gu _ _ _
 have ay:Hid (T.toArray.all (·.oneCell')=true):=by show _=_;rw[<-W.o];exact IZ _ _ _
 obtain⟨m,hm⟩:=exN (xs.length / 64);obtain⟨L,E⟩:=exN xs.length;rw[E]at HR hL hm |-
 obtain⟨q,hq⟩:=exN (64*m);have b6:(L:Int) / 64*64=(q:Int):=by omega
 have b7:(L:Int) / 64=(m:Int):=by omega
 have b8:(m:Int)*64=(q:Int):=by omega
 have b9:q<=L:=by omega
 go_enter func31,ntmps31
 go_wp2_with fail;refine(AAF _).mono ?_;rintro e w1 ⟨rfl,a5⟩;have B1:=z6 (((Below.refl _ _).alloc (AE _) _).trans (a5.mono (by simp)));have R1:Hid (Uv .u8 w1 w.heap.size 81 32 (λ _=>0)):=by have f:=Fn .u8 w 81 32 (λ _=>0);rw[ak.o]at f;exact f.below a5
 rw[X.o];clear a5 ar;go_wp2_with(with_reducible (show wpList _ _ _ (Oper.mk _ (Op.store _ _ _) _ _ _ _::_) _ _);refine LJ w1 rfl 136 (.tmp 3) (.tmp 6) rfl Z8 F8.toArray ?h3 ?h4 (by rw[aa.o];exact ax.o) (by rw[aa.o,b3.o]) az.o ?_;(case h3=>kernel_rfl);(case h4=>kernel_rfl))
 refine(AC4 _).mono ?_;rintro e A ⟨rfl,a6⟩;obtain⟨r,Y⟩:=exN w1.heap.size;have a4:=((Below.refl _ _).alloc (AE _) _).trans (a6.mono (by simp));have U2:Hid (Uv .u32 A r 136 8 ER.at_):=by have f:=Fn .u32 w1 136 8 ER.at_;rw[X.o,Y]at f;exact f.below a6
 have B2:=z6 (B1.o.trans (a4.mono B1.o.size));have R2:Hid (Uv .u8 A w.heap.size 81 32 (λ _=>0)):=R1.o.below a4;have a3:Hid (w.heap.size<r):=by show _<_;rw[<-Y];exact R1.o.lt
 rw[W.o,Y];clear a6 av a4 B1 R1 Y;go_wp2_with(with_reducible (show wpList _ _ _ (Oper.mk _ (Op.store _ _ _) _ _ _ _::_) _ _);refine LJ A rfl 138 (.tmp 4) (.tmp 7) rfl aj T.toArray ?h3 ?h4 (by rw[a9.o];exact aw.o) (by rw[a9.o,b2.o]) ay.o ?_;(case h3=>kernel_rfl);(case h4=>kernel_rfl))
 obtain⟨kg,a8⟩:=exN A.heap.size;obtain⟨w3,Z⟩:=exH (A.alloc (.cells T.toArray 138));have U:Below A.heap.size A w3:=by rw[<-Z.o];exact(Below.refl _ _).alloc (AE _) _
 have K3:Hid (Uv .u32 w3 kg 138 64 kF):=by have f:=Fn .u32 A 138 64 kF;rw[W.o,a8,Z.o]at f;exact f
 have U3:=z6 (U2.o.below U);have O:=z6 (B2.o.trans (U.mono B2.o.size));have R3:Hid (Uv .u8 w3 w.heap.size 81 32 (λ _=>0)):=R2.o.below U;have a1:Hid (kg≠r):=by show _≠_;have:=U2.o.lt;omega
 have a0:=z6 (HR.o.below O.o);rw[Z.o,a8];have af:Hid (q<=xs.length):=by show _<=_;omega
 clear U Z a8 au U2 B2 R2 HR;refine(V9 r kg ER _ (xs.take q) m w3 U3.o K3.o a1.o QI (AEl a0.o q af.o) (YQ HB.o q) (by rw[zd0];omega)).mono ?_;rintro e B ⟨rfl,u4,K⟩;have ad:Hid (w.heap.size≠r):=by show _≠_;have:=a3.o;omega
 have U4:=z6 u4;have K4:=z6 (K3.o.tch K a1.o);have R4:Hid (Uv .u8 B w.heap.size 81 32 (λ _=>0)):=R3.o.tch K ad.o;have B4:=z6 (O.o.trans (K.below O.o.size (λ k e=>by rw[e];have:=a3.o;omega)));have D4:=z6 (Un a0.o U3.o K);clear u4 K U3 K3 R3 O a0;go_wp2_with(with_reducible (show wpList _ _ _ (Oper.mk _ (Op.slice _ _ _ _ _) _ _ _ _::_) _ _);refine Qi B B rfl (.tmp 16) (.tmp 17) rfl (.slice a L cap) xs ?h1 D4.o q ?h2 af.o ?_;(case h1=>kernel_rfl);(case h2=>kernel_rfl))
 intro v5 r5;obtain⟨R,hR⟩:∃R,64*np L=64*m+R:=⟨64*np L-64*m,by unfold np;omega⟩
 obtain⟨J,aq⟩:∃J,R=64*J:=⟨np L-m,by omega⟩
 have D5:Hid (Rd .u8 B v5 (xs.drop (64*m))):=by rw[hq];exact r5
 have ac:Hid (Calls prog 58 #[v5,.int .i64 (L:Int)] B λ e w'=>LN (xs.drop (64*m)) L R B e w'):=
  ABz v5 xs L m R B D5.o HB.o (by rw[E];exact hm) (by rw[E];exact hR) hL
 have ag:Hid (CY (bN ((List.range R).map λ i=>(II (xs.drop (64*m)) L R i:Int))) (CY (bN (xs.take (64*m))) ER m) J=dg (pm xs) (np xs.length)):=by
  have:=AFu xs m R (by rw[E];exact hm) (by rw[E];exact hR) J aq;rw[E]at this |-
  exact this
 clear r5 D4 D5;go_wp2_with fail;refine ac.o.mono ?_;rintro e w5 ⟨v6,rfl,r6,I⟩;have U5:Hid (Uv .u32 w5 r 136 8 (CY (bN (xs.take (64*m))) ER m).at_):=by rw[hq];exact U4.o.below I
 have K5:=z6 (K4.o.below I);have R5:Hid (Uv .u8 w5 w.heap.size 81 32 (λ _=>0)):=R4.o.below I;have B5:=z6 (B4.o.trans (I.mono B4.o.size));have R6:=z6 r6;clear ac r6 I U4 K4 R4 B4;go_wp2_with fail;refine(V9 r kg _ v6 _ J w5 U5.o K5.o a1.o (WS _ QI m) R6.o (AEh R (ACY (J6 HB.o _) L R)) (by simp;exact aq)).mono ?_;rintro e w6 ⟨rfl,u6,t6⟩;rw[ag.o]at u6;have U6:=z6 u6;have ai:Hid (Uv .u8 w6 w.heap.size 81 32 (λ _=>0)):=R5.o.tch t6 ad.o;have B6:=z6 (B5.o.trans (t6.below B5.o.size (λ k e=>by rw[e];have:=a3.o;omega)));clear u6 t6 U5 K5 R5 B5 R6 ag;go_wp2_with fail;refine(YT r _ w6 U6.o (Zg _ _)).mono ?_;rintro e w7 ⟨rfl,a7⟩;have eF:Ag .u8 32 (Ga (dg (pm xs) (np xs.length)))=F:=by rw[<-hF.o];rfl
 rw[eF];have B7:=z6 (B6.o.trans (a7.mono B6.o.size));have RR:=z6 ((ai.o.below a7).there);have ae:Hid (F.length=32):=by show _=_;rw[<-hF.o,GO]
 have a2:Hid (F.toArray.size=32):=by show _=_;rw[List.size_toArray];exact ae.o
 have b0:Hid (F.toArray.all (·.oneCell')=true):=by show _=_;rw[<-hF.o];exact IZ _ _ _
 clear a7 B6 ai U6 eF;go_wp2_with(with_reducible (show wpList _ _ _ (Oper.mk _ (Op.store _ _ _) _ _ _ _::_) _ _);refine wpList_store_mid rfl 81 (.tmp 2) (.tmp 23) rfl w.heap.size 0 F.toArray ?h1 ?h2 (by rw[a2.o];exact RR.o) (by rw[a2.o];exact ab.o) b0.o ?_;(case h1=>kernel_rfl);(case h2=>kernel_rfl))
 have b4:=run_loadVar_mid (P:=prog) (w7.setCells w.heap.size 0 F.toArray.toList) w.heap.size 0 81 F _ (by
  have:=World.rangeAt_setCells_same w7 w.heap.size 0 F.toArray.toList (by rw[Array.length_toList,a2.o];exact RR.o);simpa using this) underlying81 rfl (by rw[ae.o];exact ab.o)
 refine bodyPost_ret (v:=.agg F.toArray) ?_ rfl ⟨rfl,?_⟩;exact Kl (p:=2) (ty:=81) rfl _ _ _ w.heap.size _ rfl b4;exact B7.o.trans ((Mt w.heap.size _ 0 w7).below B7.o.size (λ k e=>by rw[e];exact AE _))
end
section
open Go.RowKit Pl
def AGL{xs ys a j}(y:Int)(f:ys.length=j)(h:a+j<xs.length):(splice xs a ys).set (a+j) y=splice xs a (ys++[y]):=by
 unfold splice;have q:(xs.take a).length=a:=by grind
 rw[List.set_append_right _ _ (by omega),q,show a+j-a=j by omega,List.set_append_right _ _ (by omega),f,Nat.sub_self];rw[List.drop_eq_getElem_cons (show a+j<xs.length from h),List.set_cons_zero,zc0,f,zr0];rfl
def AGK(xs:List Int)(a):splice xs a []=xs:=by unfold splice;simp
def AGJ{xs ys:List Int}{a}(h:a+ys.length<=xs.length):(splice xs a ys).length=xs.length:=by
 unfold splice
 grind
def AFs(N j:Nat):((N:Int) / 2 ^ (8*j)) % 256=(N:Int) / 256 ^ j % 256:=by rw[Int.pow_mul];rfl
def Mu(g at_ k N:Nat)(xs w)(h:Fu w g xs)(O:N<9223372036854775807)(X:k<=4)(ha:at_+k<=256):
 Calls prog 119 #[.pointer (some ⟨g,0,none⟩),.int .i64 (at_:Int),.int .i64 (k:Int),.int .i64 (N:Int)] w λ e w'=>e=.returned (.tuple #[])/\Fu w' g (splice xs at_ (CM k (N:Int)))/\AD (λ j=>j=g) w w':=by
 have B:=z6 h;have U:=z6 h.lt;have J:=z6 h.2.1;clear h
 go_enter func119,ntmps119
 go_wp2_with fail
 go_loopw [10] (λ i wr=>∃j:Nat,j<=k/\i=.int .i64 j/\Hid (Fu wr g (splice xs at_ (CM j (N:Int))))/\Hid (AD (λ j=>j=g) w wr)) (λ i _=>k-(intOf i).toNat)
 case atStart=>exact⟨0,AI _,rfl,by rw[show CM 0 (N:Int)=[]from rfl,AGK];exact B,AD.refl _ _⟩
 case round=>
  clear B;obtain⟨j,W,rfl,F,T⟩:=hrel;by_cases Y:j<k
  .obtain⟨y,A⟩:∃y:Nat,N / 2 ^ (8*j) % 256=y:=⟨_,rfl⟩
   (have a4:y<256:=by rw[<-A];exact Nat.mod_lt _ (by decide));obtain⟨m,q⟩:=exN (8*j);have L:(N:Int) / 2 ^ m % 256=(y:Int):=by rw[<-A,<-q,Int.natCast_emod,Int.natCast_ediv,Int.natCast_pow];rfl
   have r:(splice xs at_ (CM j (N:Int))).set (at_+j) (y:Int)=splice xs at_ (CM (j+1) (N:Int)):=by rw[AGL _ (Th j _) (by rw[J.o];omega),AB5,<-AFs,q,L]
   (have Z:8*(j:Int)=(m:Int):=by omega);(have a0:(m:Int)<=24:=by omega);obtain⟨p,E⟩:=exN (at_+j);(have a2:(at_:Int)+(j:Int)=(p:Int):=by omega);(have a3:(p:Int)<256:=by omega);rw[E]at r;have cp:=F.o.cell (i:=p) (by omega);have fp:=F.o.fz p;have I:Hid (Fu (wr.setCell ⟨g,p,none⟩ (.int .u8 (y:Int))) g (splice xs at_ (CM (j+1) (N:Int)))):=by have:=F.o.set p (y:=(y:Int)) (by omega) (by omega);rw[r]at this;exact this
   have K:Hid (AD (λ j=>j=g) w (wr.setCell ⟨g,p,none⟩ (.int .u8 (y:Int)))):=AD.setCell T.o (p:=⟨g,p,none⟩) (λ _=>rfl) _;generalize (splice xs at_ (CM j (N:Int))).getD p 0=z at cp;(have f:(j:Int)<(k:Int):=by omega);clear F T A q E r;(have w1:IntKind.i64.wrap (p:Int)=(p:Int):=by rw[IntKind.wrap_i64];omega);(have w2:IntKind.i64.wrap (m:Int)=(m:Int):=by rw[IntKind.wrap_i64];omega);go_wp2_with fail
   go_still_tail 11,(by kernel_rfl)
   go_wp2_with fail
   go_roundw
   (case rel=>exact⟨j+1,by omega,by go_num,I,K.o.drew⟩);case measure=>simp[intOf];omega
  .have a1:¬(j:Int)<(k:Int):=by omega
   (have f:j=k:=by omega);rw[f]at F;clear f;go_wp2_with fail
   go_end0
   exact⟨rfl,F.o,T.o⟩
def AA7(a b:Nat)(ha:a<4294967296)(f:b<4294967296):Go.bits .or .i64 (a:Int) (b:Int)=((a ||| b:Nat):Int):=by have q:=Nat.or_lt_two_pow (n:=32) ha f;show IntKind.i64.wrap ((BitVec.ofInt 64 (a:Int) ||| BitVec.ofInt 64 (b:Int)).toNat:Int)=_;rw[BitVec.toNat_or,ofInt_u64 a (by omega),ofInt_u64 b (by omega),IntKind.wrap_i64];omega
def VP{xs a j}(h:a+j<xs.length):sl xs a (j+1)=sl xs a j++[xs.getD (a+j) 0]:=by unfold sl;rw[List.take_succ_eq_append_getElem (by grind),List.getElem_drop,AP,z9 h];rfl
def AF3{xs a k}(h:a+k<=xs.length):(sl xs a k).length=k:=by unfold sl;grind
def Ma(g at_ k:Nat)(xs w)(h:Fu w g xs)(hk:k<=4)(ha:at_+k<=256):
 Calls prog 214 #[.pointer (some ⟨g,0,none⟩),.int .i64 (at_:Int),.int .i64 (k:Int)] w λ e w'=>e=.returned (.int .i64 (vN (sl xs at_ k)))/\Below w.heap.size w w':=by
 have HF:=z6 h;have E:=z6 h.2.1;have HB:=z6 h.2.2;clear h;obtain⟨R,J⟩:=exH (vN (sl xs at_ k));rw[J.o]
 go_enter func214,ntmps214
 go_wp2_with fail
 go_loopw [7,10] (λ vv i wr=>∃(j X:Nat),j<=k/\i=.int .i64 j/\vv=.int .i64 (X:Int)/\X<4294967296/\Hid (vN (sl xs at_ j)=(X:Int)/\X<256 ^ j)/\Hid (Below w.heap.size w wr)) (λ _ i _=>k-(intOf i).toNat)
 case atStart=>exact⟨0,0,AI _,rfl,rfl,by decide,⟨by simp[sl,vN],by decide⟩,Below.refl _ _⟩
 case round=>
  obtain⟨j,X,hj,rfl,rfl,hX,q,B⟩:=hrel;by_cases a8:j<k
  .obtain⟨b,A⟩:∃b:Nat,Hid (xs.getD (at_+j) 0=(b:Int)/\b<256):=by have:=HB.o (at_+j);exact⟨(xs.getD (at_+j) 0).toNat,by omega,by omega⟩
   (have a5:=A.o.2;obtain⟨m,U⟩:=exN (8*j);(have a9:8*(j:Int)=(m:Int):=by omega);(have aa:(m:Int)<=24:=by omega);obtain⟨p,hp⟩:=exN (at_+j);(have ac:(at_:Int)+(j:Int)=(p:Int):=by omega);(have ad:(p:Int)<256:=by omega);have F:=HF.o.below B.o;(have cp:wr.cell? ⟨g,p,none⟩=some (.int .u8 (b:Int)):=by rw[F.cell (by omega),<-hp,A.o.1]);(have r:256 ^ j=2 ^ m:=by rw[<-U,Nat.pow_mul]);(have K:X<2 ^ m:=by rw[<-r];exact q.o.2);have a0:X ||| b*2 ^ m=X+b*2 ^ m:=by rw[Nat.or_comm,Nat.mul_comm,<-Nat.two_pow_add_eq_or_of_lt K,Nat.add_comm]);obtain⟨Y,f⟩:=exN (b*2 ^ m);have L:X+Y<256 ^ (j+1):=by rw[<-f,Nat.pow_succ,r];have:b*2 ^ m<=255*2 ^ m:=Nat.mul_le_mul_right _ (by omega);omega
   have a2:256 ^ (j+1)<=256 ^ 4:=Nat.pow_le_pow_right (by decide) (by omega);have O:X+Y<4294967296:=by have:(256:Nat) ^ 4=4294967296:=rfl;omega
   (have a3:(b:Int)*2 ^ m=(Y:Int):=by rw[<-f,Int.natCast_mul,Int.natCast_pow];rfl);have W:=AA7 X Y hX (by omega);rw[<-f,a0,f]at W;have I:Hid (vN (sl xs at_ (j+1))=((X+Y:Nat):Int)/\X+Y<256 ^ (j+1)):=by refine⟨?_,L⟩;(have a1:(256:Int) ^ j=((2 ^ m:Nat):Int):=by rw[<-r,Int.natCast_pow];rfl);rw[VP (by rw[E.o];omega),Wa,q.o.1,AF3 (by rw[E.o];omega),A.o.1,a1,<-f,Int.natCast_add,Int.natCast_mul,Int.mul_comm]
   obtain⟨Z,T⟩:=exN (X+Y);rw[T]at W I O;(have a7:(j:Int)<(k:Int):=by omega);(have a6:(b:Int)<256:=by omega);(have a4:(Y:Int)<4294967296:=by omega);(have w1:IntKind.i64.wrap (p:Int)=(p:Int):=by rw[IntKind.wrap_i64];omega);(have w2:IntKind.i64.wrap (m:Int)=(m:Int):=by rw[IntKind.wrap_i64];omega);(have w3:IntKind.i64.wrap (Y:Int)=(Y:Int):=by rw[IntKind.wrap_i64];omega);clear q U hp F r K a0 f L a2 T;go_wp2_with fail
   go_roundw
   (case rel=>exact⟨j+1,Z,by omega,by go_num,rfl,O,I,B⟩);case measure=>simp[intOf];omega
  .have ab:¬(j:Int)<(k:Int):=by omega
   (have HE:Hid ((X:Int)=R):=by show _=_;rw[<-J.o,<-q.o.1,show j=k by omega]);clear q;go_wp2_with fail;go_ret;exact⟨by rw[<-HE.o];rfl,B.o⟩
theorem ABI:(prog.info? 5).map (·.size)=some 1:=by kernel_rfl
def Xk(L cs f):splice (AG L) f (AG cs)=AG (splice L f cs):=by unfold splice AG;simp
def AIJ(w){E I o a Q}(L:o.guard=none)(d s)(U:o.op=.call { callee:=.builtin .copy,args:=#[d,s],argTypes:=#[40,40] })(g off dLen dCap)(hd:a.eval d=.slice (some ⟨g,off,none⟩) dLen dCap)(cur t)(hg:w.heap[g]?=some (.cells (AG cur).toArray t (0,0)))(v xs)(hs:a.eval s=v)(hr:Rd .u8 w v xs)(hfit:off+min xs.length dLen<=cur.length)(B w0)(hB:Below B w0 w)(hBg:B<=g)(h:∀f,Hid (f.heap[g]?=some (.cells (AG (splice cur off (xs.take dLen))).toArray t (0,0)))->Hid (Below B w0 f)->wpList prog E Q I (a.put o.dst (goInt (xs.take dLen).length)) f):wpList prog E Q (o::I) a w:=by
 obtain⟨sp,cap,rfl,W,X,Y,J⟩:=hr;refine wpList_copy_splice L d s 40 40 U 5 underlying40 ABI (some ⟨g,off,none⟩) sp dLen dCap xs.length cap hd hs g off (AG cur) t hg (AG (xs.take dLen)) ?_ ?_ ?_ (Nf _) B w0 hB hBg ?_;rw[At,zd0];grind
 .intro r;refine⟨rfl,?_⟩;rw[At,zd0]at r;rcases J with rfl|⟨b,o,rfl,hc⟩
  .simp at r
  .refine⟨_,rfl,λ j u A=>?_⟩;have T:j<(AG (xs.take dLen)).length:=(List.getElem?_eq_some_iff.1 A).1;rw[At,zd0]at T;rw[Addr.add_lit,hc j (by omega)];rw[AG,zw0,zq0,if_pos (by omega),z9 (by omega)]at A
   grind
 .rw[At,At,zd0];omega
 .intro f O K;have q:=O.o;rw[Xk]at q;rw[At];exact h f q K
def VZ{xs A B:List Int}{a b}(f:b=a+A.length)(h:b+B.length<=xs.length):splice (splice xs a A) b B=splice xs a (A++B):=by
 subst f;unfold splice;have q:(xs.take a).length=a:=by grind
 have r:(xs.take a++(A++xs.drop (a+A.length))).take (a+A.length)=xs.take a++A:=by grind
 have E:(xs.take a++(A++xs.drop (a+A.length))).drop (a+A.length+B.length)=xs.drop (a+(A++B).length):=by rw[<-zr0,List.drop_append,List.drop_of_length_le (by grind),List.nil_append,zc0,q,zx0,zc0];congr 1;omega
 grind
def AGM{xs}(h:xs.length=256):splice zz 0 (xs.take 256)=xs:=by unfold splice;rw[List.take_zero,List.nil_append,Cj (by omega),List.drop_of_length_le (by rw[Ei];omega),List.append_nil]
def AB3(c:Nat):CM 4 (c:Int)=IF c:=by unfold CM IF;simp[List.range_succ]
def ZQ(xs):BU xs<4294967296:=by unfold BU;omega
def AGE{xs}(h:xs.length=256):splice xs 252 (CM 4 (BU (xs.take 252):Int))=Do xs:=by unfold splice Do;rw[Th,AB3,List.drop_of_length_le (by omega),List.append_nil]
def ADe(v xs w)(hr:Rd .u8 w v xs)(hb:By xs)(O:xs.length=256):
 Calls prog 175 #[v] w λ e w'=>e=.returned (.agg (AG xs).toArray)/\Below w.heap.size w w':=by
 obtain⟨a,cap,rfl,h1,h2,_⟩:=id hr;obtain⟨hv,hi⟩:=zero_of_info Ol;have a6:=AF7;have HI:=z6 hi;have HR:Hid (Rd .u8 w (.slice a 256 cap) xs):=by rw[<-O];exact hr
 have HY:=z6 hb;have q:=z6 O;rw[O]at h1 |-
 obtain⟨f,A⟩:=exN (w.alloc (.cells (AG zz).toArray 165));obtain⟨r,B⟩:=exN (f.alloc (.cells (AG zz).toArray 165));have s1:f.heap.size=w.heap.size+1:=by rw[<-A];simp
 have s2:r.heap.size=w.heap.size+1+1:=by rw[<-B];simp[s1]
 have b1:Below w.heap.size w f:=by rw[<-A];exact(Below.refl _ _).alloc (AE _) _
 have U:Below f.heap.size f r:=by rw[<-B];exact(Below.refl _ _).alloc (AE _) _
 have F1:Fu f w.heap.size zz:=by rw[<-A];exact MC w Ei Jt
 have I:=z6 (F1.below U);have F2:Hid (Fu r (w.heap.size+1) zz):=by rw[<-B,<-s1];exact MC f Ei Jt
 have M2:=z6 F2.o.1;have E:=z6 (b1.trans (U.mono (by omega)));have R2:=z6 (HR.o.below E.o);have a0:Hid (0+min xs.length 256<=zz.length):=by show _<=_;rw[Ei];omega
 have Y:Hid (∀W,Below (w.heap.size+1) W W):=λ W=>Below.refl _ _;obtain⟨Z,hZ⟩:=exH ((AG zz).toArray);rw[hZ.o]at hv A B;clear F1 b1 U hr hb O h2 hi s2
 go_enter func175,ntmps175
 go_wp2_with(with_reducible (show wpList _ _ _ (Oper.mk _ (Op.call _) _ _ _ _::_) _ _);refine AIJ _ rfl (.tmp 4) (.tmp 5) rfl (w.heap.size+1) 0 256 256 ?h3 zz _ M2.o _ xs ?h5 R2.o a0.o (w.heap.size+1) r (Y.o r) (AE _) ?_;(case h3=>kernel_rfl);(case h5=>kernel_rfl))
 intro T J K;rw[AGM q.o]at J;obtain⟨g,hg⟩:=exH w.heap.size;rw[hg.o]at I J K E |-
 have F3:Hid (Fu T (g+1) xs):=⟨J.o,q.o,HY.o⟩
 have L:Hid (Fu T g zz):=⟨by rw[K.o.block g (by omega)];exact I.o.1,I.o.2⟩
 have X:=z6 (E.o.trans (K.o.mono (by omega)));have a5:=z6 F3.o.range;have a4:Hid ((AG xs).length=256):=by show _=_;rw[At];exact q.o
 have HT:=z6 L.o.there;have a1:=z6 (Ng q.o);have a3:Hid ((AG xs).toArray.all (·.oneCell')=true):=Hy _;have HP:=z6 (L.o.put q.o HY.o);have a2:Hid (Below g w (T.setCells g 0 (AG xs))):=X.o.trans ((I5 g _ 0 T).below (by have:=L.o.lt;omega) (λ k e=>by omega));generalize goInt (List.take 256 xs).length=gi;clear J K I F2 M2 E R2 A B s1 a0 F3 L X Y
 go_wp2_with(first|(with_reducible (show wpList _ _ _ (Oper.mk _ (Op.load _ _) _ _ _ _::_) _ _);refine wpList_load_mid rfl 165 (.tmp 3) rfl (g+1) 0 rfl (AG xs) _ a5.o underlying165 rfl (by rw[a4.o];exact HI.o) ?_)|(with_reducible (show wpList _ _ _ (Oper.mk _ (Op.store _ _ _) _ _ _ _::_) _ _);refine wpList_store_mid rfl 165 (.tmp 2) (.tmp 7) rfl g 0 (AG xs).toArray rfl rfl (by rw[a1.o];exact HT.o) (by rw[a1.o];exact HI.o) a3.o ?_))
 refine bodyPost_ret (v:=.agg (AG xs).toArray) ?_ rfl ⟨rfl,?_⟩;exact Uu (p:=2) (ty:=165) rfl _ _ _ g _ rfl (by simpa using HP.o.load);rw[hg.o];simpa using a2.o
def AGs(xs w)(W:xs.length=256)(U:By xs):
 Calls prog 120 #[.agg (AG xs).toArray] w λ e w'=>e=.returned (.agg (AG (Do xs)).toArray)/\Below w.heap.size w w':=by
 obtain⟨hv,hi⟩:=zero_of_info Ol;have a8:=AF8;have HI:=z6 hi;have HL:=z6 W;have HB:=z6 U;obtain⟨E,q⟩:=exN (w.alloc (.cells (AG xs).toArray 165));obtain⟨A,f⟩:=exN (E.alloc (.cells (AG zz).toArray 165));have F1:Fu E w.heap.size xs:=by rw[<-q];exact MC w W U
 have s1:E.heap.size=w.heap.size+1:=by rw[<-q];simp
 have s2:A.heap.size=w.heap.size+2:=by rw[<-f];simp[s1]
 have r:Hid (Fu A w.heap.size xs):=by rw[<-f];exact F1.below ((Below.refl _ _).alloc (AE _) _)
 have J:Hid (Fu A (w.heap.size+1) zz):=by rw[<-f,<-s1];exact MC E Ei Jt
 have I:Hid (Below w.heap.size w A):=by rw[<-f,<-q];exact((Below.refl _ _).alloc (AE _) _).alloc (by simp) _
 obtain⟨Z,hZ⟩:=exH ((AG zz).toArray);obtain⟨X,hX⟩:=exH ((AG xs).toArray);rw[hZ.o]at hv f;rw[hX.o]at q |-
 have L:=z6 (r.o.rdTo 252 (by decide));have HC:Hid (BU (xs.take 252)<4294967296):=ZQ _;obtain⟨g,hg⟩:=exH w.heap.size;have a1:Hid ((w.alloc (.cells X 165)).alloc (.cells Z 165)=A):=by show _=_;rw[q];exact f
 clear hi W U F1 s1 s2 q f
 go_enter func120,ntmps120
 go_wp2_with fail;rw[a1.o];rw[hg.o]at L r J I |-
 refine(Nz _ _ _ L.o (HB.o.take 252)).mono ?_;rintro e w3 ⟨rfl,rfl⟩;have K:=AU (AGE HL.o);obtain⟨s,hs⟩:=exN (BU (xs.take 252));rw[hs]at HC K |-
 clear hs;go_wp2_with fail;refine(Mu g 252 4 s xs _ r.o (by have:=HC.o;omega) (by decide) (by decide)).mono ?_;rintro e w4 ⟨rfl,T,Y⟩;rw[K.o]at T;have F4:=z6 T;have B:=z6 (J.o.tch Y (by omega));have B4:=z6 (I.o.trans (Y.below (Nat.le_of_lt r.o.lt) (λ k e=>by rw[e];exact AE _)));have O:=z6 (VU HL.o);have a6:=z6 (AGC HB.o);have a5:=z6 F4.o.range;generalize hys:Do xs=ys at *
 have a7:=z6 hys;clear hys;have a4:Hid ((AG ys).length=256):=by show _=_;rw[At];exact O.o
 have HT:=z6 B.o.there;have a0:=z6 (Ng O.o);have a3:Hid ((AG ys).toArray.all (·.oneCell')=true):=Hy _;have HP:=z6 (B.o.put O.o a6.o);have a2:Hid (Below g w (w4.setCells (g+1) 0 (AG ys))):=B4.o.trans ((I5 (g+1) _ 0 w4).below (by have:=B.o.lt;omega) (λ k e=>by omega));clear T Y L r J I a1 B B4 K
 go_wp2_with(first|(with_reducible (show wpList _ _ _ (Oper.mk _ (Op.load _ _) _ _ _ _::_) _ _);refine wpList_load_mid rfl 165 (.tmp 1) rfl g 0 rfl (AG ys) _ a5.o underlying165 rfl (by rw[a4.o];exact HI.o) ?_)|(with_reducible (show wpList _ _ _ (Oper.mk _ (Op.store _ _ _) _ _ _ _::_) _ _);refine wpList_store_mid rfl 165 (.tmp 2) (.tmp 6) rfl (g+1) 0 (AG ys).toArray rfl rfl (by rw[a0.o];exact HT.o) (by rw[a0.o];exact HI.o) a3.o ?_))
 refine bodyPost_ret (v:=.agg (AG ys).toArray) ?_ rfl ⟨by rw[a7.o],?_⟩;exact Uu (p:=2) (ty:=165) rfl _ _ _ (g+1) _ rfl (by simpa using HP.o.load);rw[hg.o];simpa using a2.o
def Vy(xs w)(q:xs.length=256)(f:By xs):
 Calls prog 120 #[.agg (AG xs).toArray] w λ e w'=>e=.returned (.agg (AG (Do xs)).toArray)/\Below w.heap.size w w':=AGs xs w q f
def AEP(n k ys)(h:ys.length<=240):
 splice ((((zz.set 0 k).set 1 (ys.length:Int)).set 2 (n % 256)).set 3 (n / 256)) 8 (ys.take 244)=pre n k ys++[0,0,0,0]:=by
 obtain⟨H,f⟩:=exN ([k,(ys.length:Int),n % 256,n / 256,0,0,0,0]);have q:H.length=8:=by rw[<-f];rfl
 have e:(((zz.set 0 k).set 1 (ys.length:Int)).set 2 (n % 256)).set 3 (n / 256)=H++List.replicate 248 0:=by rw[<-f];rfl
 rw[e,Cj (by omega)];unfold splice pre;rw[f,List.take_append_of_le_length (by omega),Cj (by omega),List.drop_append,List.drop_of_length_le (l:=H) (by omega),List.nil_append,q,List.drop_replicate];rw[show(248:Nat)-(8+ys.length-8)=(244-ys.length)+4 by omega,<-List.replicate_append_replicate];simp
def Tf(N:Nat)(h:N<256):CM 1 (N:Int)=[(N:Int)]:=by
 unfold CM
 grind
def AB4(N:Nat)(h:N<65536):CM 2 (N:Int)=[(N:Int) % 256,(N:Int) / 256]:=by unfold CM;simp[List.range_succ];omega
def AA0(n k l:Nat)(r:n<65536)(f:k<256)(q:l<256):splice (splice (splice zz 0 (CM 1 (k:Int))) 1 (CM 1 (l:Int))) 2 (CM 2 (n:Int))=(((zz.set 0 (k:Int)).set 1 (l:Int)).set 2 ((n:Int) % 256)).set 3 ((n:Int) / 256):=by rw[Tf k f,Tf l q,AB4 n r,VZ (by rfl) (by rw[AGJ (by rw[Ei];simp),Ei];simp),VZ (by rfl) (by rw[Ei];simp)];rfl
def VK(n k v ys w)(hr:Rd .u8 w v ys)(hb:By ys)(hm:BI n k ys.length=true):
 Calls prog 84 #[.int .i64 n,blk k v] w λ e w'=>e=.returned (.agg (AG (Co n k ys)).toArray)/\Below w.heap.size w w':=by
 obtain⟨a,cap,rfl,h1,h2,_⟩:=id hr;obtain⟨m1,m2,m3,m4,m5⟩:=FO.1 hm;obtain⟨hv,hi⟩:=zero_of_info MQ;have a0:=VR;have HR:=z6 hr;have HY:=z6 hb;have HI:=z6 hi;obtain⟨B,W⟩:=exN (w.alloc (.cells #[.int .i64 k,.slice a ys.length cap] 59));obtain⟨E,X⟩:=exN (B.alloc (.cells (AG zz).toArray 165));obtain⟨W3,Y⟩:=exN (E.alloc (.cells (AG zz).toArray 165));have s1:B.heap.size=w.heap.size+1:=by rw[<-W];simp
 have s2:E.heap.size=w.heap.size+1+1:=by rw[<-X];simp[s1]
 have s3:Hid (W3.heap.size=w.heap.size+3):=by show _=_;rw[<-Y];simp[s2]
 have b1:Below w.heap.size w B:=by rw[<-W];exact(Below.refl _ _).alloc (AE _) _
 have b2:Below B.heap.size B E:=by rw[<-X];exact(Below.refl _ _).alloc (AE _) _
 have b3:Below E.heap.size E W3:=by rw[<-Y];exact(Below.refl _ _).alloc (AE _) _
 have Q1:Af B w.heap.size k (.slice a ys.length cap):=by rw[<-W];exact D1 w _ _
 have J:=z6 ((Q1.below b2).below b3);have F2:Fv E (w.heap.size+1) zz:=by rw[<-X,<-s1];exact KL B Ei Jt
 have FR:=z6 (F2.below b3);have FS:Hid (Fv W3 (w.heap.size+1+1) zz):=by rw[<-Y,<-s2];exact KL E Ei Jt
 have BB:=z6 (b1.trans ((b2.trans (b3.mono (by omega))).mono (by omega)));have q0:=J.o.c0;have q1:=J.o.c1;have hc:cap<=9223372036854775807:=by unfold maxLen at h2;omega
 obtain⟨Z,hZ⟩:=exH ((AG zz).toArray);rw[hZ.o]at hv X Y;obtain⟨l,r⟩:=exH ys.length;rw[r.o]at HR h1 m5 hm W q1 J |-
 obtain⟨nn,rfl⟩:∃nn:Nat,n=nn:=⟨n.toNat,by omega⟩
 obtain⟨f,rfl⟩:∃f:Nat,k=f:=⟨k.toNat,by omega⟩
 have ab:f<256:=by omega
 have ac:nn<65536:=by omega
 have HM:Hid (((0:Int)<=(nn:Int)/\(nn:Int)<=65535)/\((1:Int)<=(f:Int)/\(f:Int)<=4)):=⟨⟨m1,m2⟩,m3,m4⟩
 clear Q1 F2 b1 b2 b3 hi h2 hr hb m1 m2 m3 m4 hm;unfold blk
 go_enter func84,ntmps84
 go_wp2_with fail;obtain⟨g,hg⟩:=exH w.heap.size;rw[hg.o]at J FR FS BB s3 |-
 clear W X Y q0 q1 hv;refine(Mu (g+1+1) 0 1 f zz W3 FS.o (by omega) (by decide) (by decide)).mono ?_;rintro e w4 ⟨rfl,f4,t4⟩;have A:=z6 f4;have K:=z6 (J.o.tch t4 (by omega));have L:=z6 (FR.o.tch t4 (by omega));have I:=z6 (BB.o.trans (t4.below (by rw[s3.o];omega) (λ k e=>by rw[e];omega)));have z4:Hid (g+3<=w4.heap.size):=by show _<=_;have:=t4.size;rw[s3.o]at this;exact this
 have p1:=K.o.c1;clear f4 t4 J FR FS BB;go_wp2_with fail;refine(Mu (g+1+1) 1 1 l _ w4 A.o (by omega) (by decide) (by decide)).mono ?_;rintro e O ⟨rfl,f5,t5⟩;have q:=z6 f5;have Q5:=z6 (K.o.tch t5 (by omega));have U:=z6 (L.o.tch t5 (by omega));have T:=z6 (I.o.trans (t5.below (by have:=z4.o;omega) (λ k e=>by rw[e];omega)));have z5:Hid (g+3<=O.heap.size):=by show _<=_;have:=t5.size;have:=z4.o;omega
 clear f5 t5 K L I A p1 z4;go_wp2_with fail;refine(Mu (g+1+1) 2 2 nn _ O q.o (by omega) (by decide) (by decide)).mono ?_;rintro e W4 ⟨rfl,f6,t6⟩;rw[AA0 nn f l ac ab (by omega)]at f6;have A:=z6 f6;have K:=z6 (Q5.o.tch t6 (by omega));have L:=z6 (U.o.tch t6 (by omega));have I:=z6 (T.o.trans (t6.below (by have:=z5.o;omega) (λ k e=>by rw[e];omega)));have a4:=z6 (HR.o.below (hg.o▸I.o:Below w.heap.size w W4));have c1:=K.o.c1;clear f6 t6 Q5 U T q z5;generalize hL4:(((zz.set 0 (f:Int)).set 1 (l:Int)).set 2 ((nn:Int) % 256)).set 3 ((nn:Int) / 256)=L4 at A;have a2:=z6 hL4;clear hL4 s1 s2 s3;go_wp2_with fail;refine wp_region_still_tail 3 (by kernel_rfl) (by kernel_rfl) ?_
 simp only[List.take_succ_cons,List.take_zero,List.drop_succ_cons,List.drop_zero]
 repeat still_step
 refine wpStill_nil ?_;change wpList _ _ _ _ _ W4.drew;have FT:8+min ys.length 244<=L4.length:=by rw[A.o.2.1,r.o];omega
 refine Qh _ rfl (.tmp 15) (.tmp 17) rfl (g+1+1) 8 244 248 (by kernel_rfl) L4 165 A.o.1 _ ys (by kernel_rfl) (a4.o.below ((Below.refl _ _).drew)) FT (g+1+1) W4 ((Below.refl _ _).drew) (AE _) ?_;intro O M5 N5;rw[<-a2.o,<-r.o,AEP (nn:Int) (f:Int) ys (by rw[r.o];omega)]at M5;have a7:=Mg (nn:Int) (f:Int) (by rw[r.o];omega);have q:Hid (Fv O (g+1+1) (pre (nn:Int) (f:Int) ys++[0,0,0,0])):=⟨M5.o,by rw[zc0,a7];rfl,(Uh HM.o.1 HM.o.2 HY.o (by rw[r.o];omega)).appendB (Im (by simp))⟩
 have U:Hid (Fv O (g+1) zz):=by refine⟨?_,L.o.2⟩;rw[N5.o.block (g+1) (by omega)];exact L.o.1
 have T:=z6 (I.o.trans (N5.o.mono (by omega)));have HS:Hid (Do (pre (nn:Int) (f:Int) ys++[0,0,0,0])=Co (nn:Int) (f:Int) ys):=AGD (nn:Int) (f:Int) (by rw[r.o];omega);have a0:=z6 (Pv (nn:Int) (f:Int) (by rw[r.o];omega));have aa:=z6 (VJ HM.o.1 HM.o.2 HY.o (by rw[r.o];omega));have a5:=z6 q.o.range;have a3:Hid ((AG (pre (nn:Int) (f:Int) ys++[0,0,0,0])).length=256):=by show _=_;rw[At];exact q.o.2.1
 generalize pre (nn:Int) (f:Int) ys++[0,0,0,0]=P at *
 generalize goInt (List.take 244 ys).length=gi;clear M5 N5 I L a4 A K c1 FT a2 a7;go_wp2_with(with_reducible (show wpList _ _ _ (Oper.mk _ (Op.load _ _) _ _ _ _::_) _ _);refine wpList_load_mid rfl 165 (.tmp 5) rfl (g+1+1) 0 rfl (AG P) _ a5.o underlying165 rfl (by rw[a3.o];exact HI.o) ?_)
 refine(Vy P O q.o.2.1 q.o.2.2).mono ?_;rintro e w6 ⟨rfl,a1⟩;rw[HS.o];have R6:=z6 (U.o.below a1);have B6:=z6 (T.o.trans (a1.mono (by have:=q.o.lt;omega)));have HT:=z6 R6.o.there;have a6:=z6 (LX a0.o);have a9:Hid ((AG (Co (nn:Int) (f:Int) ys)).toArray.all (·.oneCell')=true):=Hy _;have HP:=z6 (R6.o.put a0.o aa.o);have a8:Hid (Below g w (w6.setCells (g+1) 0 (AG (Co (nn:Int) (f:Int) ys)))):=B6.o.trans ((I5 (g+1) _ 0 w6).below (by have:=R6.o.lt;omega) (λ k e=>by omega));clear a1 q U T a5 a3 HS
 go_wp2_with(with_reducible (show wpList _ _ _ (Oper.mk _ (Op.store _ _ _) _ _ _ _::_) _ _);refine wpList_store_mid rfl 165 (.tmp 4) (.tmp 20) rfl (g+1) 0 (AG (Co (nn:Int) (f:Int) ys)).toArray rfl rfl (by rw[a6.o];exact HT.o) (by rw[a6.o];exact HI.o) a9.o ?_)
 refine bodyPost_ret (v:=.agg (AG (Co (nn:Int) (f:Int) ys)).toArray) ?_ rfl ⟨rfl,?_⟩;exact Mk (p:=4) (ty:=165) rfl _ _ _ (g+1) _ rfl (by simpa using HP.o.load);rw[hg.o];simpa using a8.o
def Qu(n k:Int)(ys:List Int)(w:World)(e:Ending)(w':World):Prop:=
 ∃v c,e=.returned (.tuple #[v,.int .i64 c])/\Below w.heap.size w w'/\(∀j,v.ownBlock=some j->w.heap.size<=j)/\
  ((BI n k ys.length=true/\c=0/\Wb w' v (Co n k ys)/\∃g,v=.slice (some ⟨g,0,none⟩) 256 256)\/(BI n k ys.length=false/\c=1/\v=.slice none 0 0))
def Ul(n k v ys w)(hr:Rd .u8 w v ys)(T:By ys):
 Calls prog 51 #[.int .i64 n,blk k v] w λ e w'=>Qu n k ys w e w':=by
 obtain⟨a,cap,rfl,h1,O,_⟩:=id hr;obtain⟨hv,U⟩:=zero_of_info MQ;have a8:=AF6;have Y:=z6 hr;have HY:=z6 T;have HI:=z6 U;obtain⟨L,B⟩:=exN (w.alloc (.cells #[.int .i64 k,.slice a ys.length cap] 59));have b1:Hid (Below w.heap.size w L):=by rw[<-B];exact(Below.refl _ _).alloc (AE _) _
 have A:Hid (Af L w.heap.size k (.slice a ys.length cap)):=by rw[<-B];exact D1 w _ _
 have q0:=A.o.c0;have q1:=A.o.c1;have a3:Hid (ys.length<=9223372036854775807):=by show _<=_;unfold maxLen at O;omega
 obtain⟨Z,hZ⟩:=exH ((AG zz).toArray);have HZ:Hid (Z.size=256):=by show _=_;rw[<-hZ.o,List.size_toArray,At,Ei]
 rw[hZ.o]at hv;obtain⟨l,W⟩:=exH ys.length;rw[W.o]at Y B q1 A a3 |-
 have K:=UA n k a l cap L a3.o;have f:=AU K;cases hm:BI n k l with
 | false=>
  have a5:Hid (∀w',Below w.heap.size w w'->Qu n k ys w (.returned (.tuple #[.slice none 0 0,.int .i64 1])) w'):=λ w' h=>⟨_,_,rfl,h,(λ j e=>by cases e),.inr ⟨by rw[W.o];exact hm,rfl,rfl⟩⟩
  rw[hm]at f;clear hm K hr T O U;unfold blk at f |-
  go_enter func51,ntmps51
  go_wp2_with fail;refine f.o.mono ?_;rintro e w2 ⟨rfl,q⟩;have r:=z6 (b1.o.trans (q.mono b1.o.size));clear q B;go_wp2_with fail;go_ret2;exact a5.o _ r.o
 | true=>
  have J:Hid (BI n k ys.length=true):=by rw[W.o];exact hm
  rw[hm]at f;clear hm K hr T O U;unfold blk at f |-
  go_enter func51,ntmps51
  go_wp2_with fail;refine f.o.mono ?_;rintro e w2 ⟨rfl,q⟩;have r:=z6 (b1.o.trans (q.mono b1.o.size));have Q2:=z6 (A.o.below q);have R2:=z6 (Y.o.below r.o);have p0:=Q2.o.c0;have p1:=Q2.o.c1;clear q B q0 q1 A b1;go_wp2_with fail;refine(VK n k _ ys w2 R2.o HY.o J.o).mono ?_;rintro e X ⟨rfl,a2⟩;have I:=z6 (r.o.trans (a2.mono r.o.size));obtain⟨m1,m2,m3,m4,m5⟩:=FO.1 J.o;have a0:Hid ((Co n k ys).length=256):=Pv n k (by omega);have a1:=z6 (LX a0.o);have a4:Hid ((AG (Co n k ys)).toArray.all (·.oneCell')=true):=Hy _;obtain⟨W4,E⟩:=exN (X.alloc (.cells (AG (Co n k ys)).toArray 165));have F4:Hid (Fv W4 X.heap.size (Co n k ys)):=by rw[<-E];exact KL X a0.o (VJ ⟨m1,m2⟩ ⟨m3,m4⟩ HY.o (by omega))
  have B4:Hid (Below w.heap.size w W4):=by rw[<-E];exact I.o.alloc I.o.size _
  have a6:=z6 I.o.size;have a7:=z6 E;clear E a2 m1 m2 m3 m4 m5 p0 p1;go_wp2_with(with_reducible (show wpList _ _ _ (Oper.mk _ (Op.store _ _ _) _ _ _ _::_) _ _);refine Ia _ rfl 165 (.tmp 6) (.tmp 13) rfl Z (AG (Co n k ys)).toArray rfl rfl (by rw[HI.o,a1.o]) (by rw[HZ.o,a1.o]) a4.o ?_;rw[a7.o])
  go_ret2;refine⟨_,_,rfl,B4.o,(λ j e=>by cases e;exact a6.o),.inl ⟨J.o,rfl,F4.o.wb,_,rfl⟩⟩
def VY(m cs)(h:cs.length=m):splice (zr m) 0 cs=cs:=by unfold splice;rw[List.take_zero,List.nil_append,List.drop_of_length_le (by rw[Qp];omega),List.append_nil]
def WZ{xs i}(h:i<xs.length):vN (sl xs i 1)=xs.getD i 0:=by rw[show(1:Nat)=0+1 from rfl,VP (by omega)];simp[sl,vN]
def Xy(xs w)(hl:xs.length=256)(hb:By xs):
 Calls prog 176 #[.agg (AG xs).toArray] w λ e w'=>∃v,e=.returned (blk (xs.getD 0 0) v)/\Wb w' v (DA xs)/\Below w.heap.size w w'/\∀k,v.ownBlock=some k->w.heap.size<=k:=by
 obtain⟨j0,W,am,an,ao⟩:=info_parts ABS;have b6:=VR;have HL:=z6 hl;have HB:=z6 hb;obtain⟨W1,a6⟩:=exN (w.alloc (.cells (AG xs).toArray 165));have F1:Fv W1 w.heap.size xs:=by rw[<-a6];exact KL w hl hb
 have s1:W1.heap.size=w.heap.size+1:=by rw[<-a6];simp
 obtain⟨X,hX⟩:=exH ((AG xs).toArray);rw[hX.o]at a6 |-
 have b5:=z6 a6;obtain⟨L,hL⟩:=exN (bN xs 1);have b7:L<256:=by rw[<-hL];exact J3 hb 1
 obtain⟨m,hm⟩:=exN (min L 244);have b4:min (L:Int) 244=(m:Int):=by omega
 have ax:m<=244:=by omega
 have b2:=z6 hL;clear hL;obtain⟨U,a7⟩:=exN (W1.alloc (.cells #[.int .i64 0,.slice none 0 0] 59));have ay:Below W1.heap.size W1 U:=by rw[<-a7];exact(Below.refl _ _).alloc (AE _) _
 have s2:U.heap.size=w.heap.size+2:=by rw[<-a7];simp[s1]
 have ak:Hid (Below w.heap.size w U):=by rw[<-a7,<-b5.o];exact((Below.refl _ _).alloc (AE _) _).alloc (by simp) _
 have a4:=z6 (F1.below ay);have al:Hid (U.heap[w.heap.size+1]?=some (.cells #[.int .i64 0,.slice none 0 0] 59 (0,0))):=by show _=_;rw[<-a7,<-s1];exact heap_alloc_new W1 _
 have a5:=z6 s2;have HK:Hid ((xs.drop 8).take m=DA xs):=by show _=_;unfold DA;rw[b2.o,hm]
 have b0:Hid (vN (sl xs 1 1)=(L:Int)):=by show _=_;rw[WZ (by omega),Nd hb,b2.o]
 have az:Hid (vN (sl xs 0 1)=xs.getD 0 0):=WZ (by omega);have B:=z6 ax;clear F1 ay s2 hl hb;by_cases hc:(244:Int)<(L:Int)
 .obtain rfl:m=244:=by omega
  clear hm b4 ax
  go_enter func176,ntmps176
  go_wp2_with fail;refine(Ma w.heap.size 1 1 xs U a4.o (by decide) (by decide)).mono ?_;rintro e w2 ⟨rfl,q⟩;rw[b0.o];have a1:=z6 ((show Fv U w.heap.size xs from a4.o).below q);have a3:Hid (w2.heap[w.heap.size+1]?=some (.cells #[.int .i64 0,.slice none 0 0] 59 (0,0))):=by show _=_;rw[q.block _ (by rw[a5.o];omega)];exact al.o
  have Z:=z6 (ak.o.trans (q.mono (by rw[a5.o];omega)));obtain⟨r,hr⟩:=exH w2.heap.size;have A:Hid (w.heap.size+2<=r):=by rw[<-hr.o,<-a5.o];exact q.size
  clear q a4 al ak a6 a7;go_wp2_with(at_make;refine wpList_make_full _ rfl (.tmp 5) (.tmp 5) 40 rfl 0 5 j0 _ 1 underlying40 W am an .i64 .i64 _ _ 244 rfl rfl rfl rfl (by rw[ao];have:=B.o;omega) (by unfold maxLen;have:=B.o;omega) (AI _) ?_)
  intro I aj ai;have O:=(Below.refl _ _).grown ai (AE _) (λ k e=>by cases e);obtain⟨g,hg⟩:=exH w.heap.size;have M3:Hid (I.heap[r]?=some (.cells (AG (zr 244)).toArray 5 (0,0))):=by refine Tv ?_;have h3:=aj;rw[toList_madeCells_one,hr.o]at h3;exact h3
  rw[hg.o]at a1 a3 A Z |-
  rw[hr.o];have J:=z6 (a1.o.below O);have ac:Hid (I.heap[g+1]?=some (.cells #[.int .i64 0,.slice none 0 0] 59 (0,0))):=by show _=_;rw[O.block (g+1) (by rw[hr.o];have:=A.o;omega)];exact a3.o
  have a8:=z6 (Z.o.trans (O.mono (by rw[hr.o];have:=A.o;omega)));have ad:=z6 J.o.rdMid;have aq:Hid (r<=r):=AE _;have ab:Hid (Below (r) I I):=Below.refl _ _;have ar:Hid (0+min ((xs.drop 8).take 244).length 244<=(zr 244).length):=by show _<=_;rw[Qp];omega
  clear aj ai O W am an ao a1 a3 Z;go_wp2_with(with_reducible (show wpList _ _ _ (Oper.mk _ (Op.call _) _ _ _ _::_) _ _);refine Qh I rfl (.tmp 7) (.tmp 8) rfl (r) 0 244 244 ?h3 _ _ M3.o _ _ ?h5 ad.o ar.o (r) I ab.o aq.o ?_;(case h3=>kernel_rfl);(case h5=>kernel_rfl))
  intro T M4 Y;have e4:splice (zr 244) 0 (((xs.drop 8).take 244).take 244)=DA xs:=by rw[zz0,Nat.min_eq_left B.o,HK.o,VY];rw[<-HK.o,zd0,zg0,HL.o];have:=B.o;omega
  rw[e4]at M4;have a0:Hid (Fv T g xs):=by refine⟨?_,J.o.2⟩;rw[Y.o.block g (by have:=A.o;omega)];exact J.o.1
  have a2:Hid (T.heap[g+1]?=some (.cells #[.int .i64 0,.slice none 0 0] 59 (0,0))):=by show _=_;rw[Y.o.block (g+1) (by have:=A.o;omega)];exact ac.o
  have a9:=z6 (a8.o.trans (Y.o.mono (by have:=A.o;omega)));have ag:Hid ((DA xs).length=244):=by show _=_;rw[<-HK.o,zd0,zg0,HL.o];have:=B.o;omega
  have ae:Hid (Wb T (.slice (some ⟨r,0,none⟩) 244 244) (DA xs)):=⟨r,244,_,_,by rw[ag.o],by rw[ag.o];exact AE _,by unfold maxLen;have:=B.o;omega,M4.o,by rw[List.toList_toArray,Cj (by rw[At];exact AE _)]⟩
  clear J ac a8 ad ab M3 e4;go_wp2_with fail;refine(Ma g 0 1 xs T a0.o (by decide) (by decide)).mono ?_;rintro e f ⟨rfl,q⟩;rw[az.o];have E:Hid (f.heap[g+1]?=some (.cells #[.int .i64 0,.slice none 0 0] 59 (0,0))):=by show _=_;rw[q.block (g+1) (za0.1 a2.o).1];exact a2.o
  have aa:=z6 (a9.o.trans (q.mono (Nat.le_of_lt a0.o.lt)));have af:=z6 (ae.o.below q);clear q a0 a2 a9 ae M4;have q0:f.cell? ⟨g+1,0,none⟩=some (.int .i64 0):=by rw[cell_of_row f (g+1) 0 _ _ (0,0) E.o];rfl
  have q1:f.cell? ⟨g+1,1,none⟩=some (.slice none 0 0):=by rw[cell_of_row f (g+1) 1 _ _ (0,0) E.o];rfl
  have f0:=frozen_of_row f (g+1) 0 _ _ E.o;have f1:=frozen_of_row f (g+1) 1 _ _ E.o;have aw:=HB.o 0;obtain⟨K,hK⟩:=exH (xs.getD 0 0);rw[hK.o]at aw |-
  have av:Hid (Wb ((f.setCell ⟨g+1,0,none⟩ (.int .i64 K)).setCell ⟨g+1,1,none⟩ (.slice (some ⟨r,0,none⟩) 244 244)) (.slice (some ⟨r,0,none⟩) 244 244) (DA xs)):=by exact af.o.tch (S:=λ k=>k=g+1) (AD.setCell (AD.setCell (AD.refl (λ k=>k=g+1) f) (p:=⟨g+1,0,none⟩) (λ _=>rfl) _) (p:=⟨g+1,1,none⟩) (λ _=>rfl) _) (λ j W e=>by cases W;have e2:r=g+1:=e;have:=A.o;omega)
  have ap:Hid (Below g w ((f.setCell ⟨g+1,0,none⟩ (.int .i64 K)).setCell ⟨g+1,1,none⟩ (.slice (some ⟨r,0,none⟩) 244 244))):=(aa.o.setCell (by show g<=g+1;omega) _).setCell (by show g<=g+1;omega) _;have au:=AU (Af.put (show Af f (g+1) 0 (.slice none 0 0)from E.o) K (.slice (some ⟨r,0,none⟩) 244 244)).load;clear E aa af;go_wp2_with fail;refine bodyPost_ret (v:=blk K (.slice (some ⟨r,0,none⟩) 244 244)) (Mk (p:=2) (ty:=59) rfl _ _ _ (g+1) _ rfl au.o) rfl ?_;refine⟨_,by rw[hK.o],av.o,by rw[hg.o];exact ap.o,λ k hk=>by cases hk;rw[hg.o];show g<=r;have:=A.o;omega⟩
 .have b3:m=L:=by omega
  rw[b3]at HK B;clear b3;clear hm b4 ax
  go_enter func176,ntmps176
  go_wp2_with fail;refine(Ma w.heap.size 1 1 xs U a4.o (by decide) (by decide)).mono ?_;rintro e w2 ⟨rfl,q⟩;rw[b0.o];have a1:=z6 ((show Fv U w.heap.size xs from a4.o).below q);have a3:Hid (w2.heap[w.heap.size+1]?=some (.cells #[.int .i64 0,.slice none 0 0] 59 (0,0))):=by show _=_;rw[q.block _ (by rw[a5.o];omega)];exact al.o
  have Z:=z6 (ak.o.trans (q.mono (by rw[a5.o];omega)));obtain⟨r,hr⟩:=exH w2.heap.size;have A:Hid (w.heap.size+2<=r):=by rw[<-hr.o,<-a5.o];exact q.size
  clear q a4 al ak a6 a7;go_wp2_with(at_make;refine wpList_make_full _ rfl (.tmp 5) (.tmp 5) 40 rfl 0 5 j0 _ 1 underlying40 W am an .i64 .i64 _ _ L rfl rfl rfl rfl (by rw[ao];have:=B.o;omega) (by unfold maxLen;have:=B.o;omega) (AI _) ?_)
  intro I aj ai;have O:=(Below.refl _ _).grown ai (AE _) (λ k e=>by cases e);obtain⟨g,hg⟩:=exH w.heap.size;have M3:Hid (I.heap[r]?=some (.cells (AG (zr L)).toArray 5 (0,0))):=by refine Tv ?_;have h3:=aj;rw[toList_madeCells_one,hr.o]at h3;exact h3
  rw[hg.o]at a1 a3 A Z |-
  rw[hr.o];have J:=z6 (a1.o.below O);have ac:Hid (I.heap[g+1]?=some (.cells #[.int .i64 0,.slice none 0 0] 59 (0,0))):=by show _=_;rw[O.block (g+1) (by rw[hr.o];have:=A.o;omega)];exact a3.o
  have a8:=z6 (Z.o.trans (O.mono (by rw[hr.o];have:=A.o;omega)));have ad:=z6 J.o.rdMid;have aq:Hid (r<=r):=AE _;have ab:Hid (Below (r) I I):=Below.refl _ _;have ar:Hid (0+min ((xs.drop 8).take 244).length L<=(zr L).length):=by show _<=_;rw[Qp];omega
  clear aj ai O W am an ao a1 a3 Z;go_wp2_with(with_reducible (show wpList _ _ _ (Oper.mk _ (Op.call _) _ _ _ _::_) _ _);refine Qh I rfl (.tmp 7) (.tmp 8) rfl (r) 0 L L ?h3 _ _ M3.o _ _ ?h5 ad.o ar.o (r) I ab.o aq.o ?_;(case h3=>kernel_rfl);(case h5=>kernel_rfl))
  intro T M4 Y;have e4:splice (zr L) 0 (((xs.drop 8).take 244).take L)=DA xs:=by rw[zz0,Nat.min_eq_left B.o,HK.o,VY];rw[<-HK.o,zd0,zg0,HL.o];have:=B.o;omega
  rw[e4]at M4;have a0:Hid (Fv T g xs):=by refine⟨?_,J.o.2⟩;rw[Y.o.block g (by have:=A.o;omega)];exact J.o.1
  have a2:Hid (T.heap[g+1]?=some (.cells #[.int .i64 0,.slice none 0 0] 59 (0,0))):=by show _=_;rw[Y.o.block (g+1) (by have:=A.o;omega)];exact ac.o
  have a9:=z6 (a8.o.trans (Y.o.mono (by have:=A.o;omega)));have ag:Hid ((DA xs).length=L):=by show _=_;rw[<-HK.o,zd0,zg0,HL.o];have:=B.o;omega
  have ae:Hid (Wb T (.slice (some ⟨r,0,none⟩) L L) (DA xs)):=⟨r,L,_,_,by rw[ag.o],by rw[ag.o];exact AE _,by unfold maxLen;have:=B.o;omega,M4.o,by rw[List.toList_toArray,Cj (by rw[At];exact AE _)]⟩
  clear J ac a8 ad ab M3 e4;go_wp2_with fail;refine(Ma g 0 1 xs T a0.o (by decide) (by decide)).mono ?_;rintro e f ⟨rfl,q⟩;rw[az.o];have E:Hid (f.heap[g+1]?=some (.cells #[.int .i64 0,.slice none 0 0] 59 (0,0))):=by show _=_;rw[q.block (g+1) (za0.1 a2.o).1];exact a2.o
  have aa:=z6 (a9.o.trans (q.mono (Nat.le_of_lt a0.o.lt)));have af:=z6 (ae.o.below q);clear q a0 a2 a9 ae M4;have q0:f.cell? ⟨g+1,0,none⟩=some (.int .i64 0):=by rw[cell_of_row f (g+1) 0 _ _ (0,0) E.o];rfl
  have q1:f.cell? ⟨g+1,1,none⟩=some (.slice none 0 0):=by rw[cell_of_row f (g+1) 1 _ _ (0,0) E.o];rfl
  have f0:=frozen_of_row f (g+1) 0 _ _ E.o;have f1:=frozen_of_row f (g+1) 1 _ _ E.o;have aw:=HB.o 0;obtain⟨K,hK⟩:=exH (xs.getD 0 0);rw[hK.o]at aw |-
  have av:Hid (Wb ((f.setCell ⟨g+1,0,none⟩ (.int .i64 K)).setCell ⟨g+1,1,none⟩ (.slice (some ⟨r,0,none⟩) L L)) (.slice (some ⟨r,0,none⟩) L L) (DA xs)):=by exact af.o.tch (S:=λ k=>k=g+1) (AD.setCell (AD.setCell (AD.refl (λ k=>k=g+1) f) (p:=⟨g+1,0,none⟩) (λ _=>rfl) _) (p:=⟨g+1,1,none⟩) (λ _=>rfl) _) (λ j W e=>by cases W;have e2:r=g+1:=e;have:=A.o;omega)
  have ap:Hid (Below g w ((f.setCell ⟨g+1,0,none⟩ (.int .i64 K)).setCell ⟨g+1,1,none⟩ (.slice (some ⟨r,0,none⟩) L L))):=(aa.o.setCell (by show g<=g+1;omega) _).setCell (by show g<=g+1;omega) _;have au:=AU (Af.put (show Af f (g+1) 0 (.slice none 0 0)from E.o) K (.slice (some ⟨r,0,none⟩) L L)).load;clear E aa af;go_wp2_with fail;refine bodyPost_ret (v:=blk K (.slice (some ⟨r,0,none⟩) L L)) (Mk (p:=2) (ty:=59) rfl _ _ _ (g+1) _ rfl au.o) rfl ?_;refine⟨_,by rw[hK.o],av.o,by rw[hg.o];exact ap.o,λ k hk=>by cases hk;rw[hg.o];show g<=r;have:=A.o;omega⟩
