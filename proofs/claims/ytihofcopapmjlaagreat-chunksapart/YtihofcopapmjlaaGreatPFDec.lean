import Derived.Test.YtihofcopapmjlaaGreatPFSmall
import Derived.Laws.CopyOwn
import Derived.Test.YtihofcopapmjlaaGreatPBack
import Derived.Test.YtihofcopapmjlaaGreatPFCat
set_option maxRecDepth 100000
set_option linter.all false
set_option maxHeartbeats 8000000
namespace Go.Proofs.YtihofcopapmjlaaGreat
open Go.Proofs.Tryz
section
open Go.RowKit Pl
def t2(f:Nat->Nat)(L z lg p i:Nat):Int:=
 if i / 3<z then(if i % 3=0 then(tb f L z (i / 3):Int)else if i / 3<p then(if i % 3=1 then(bt lg (A5 f L z (i / 3)):Int)else((A5 f L z (i / 3)*2 ^ bt lg (A5 f L z (i / 3))-z:Nat):Int))else 0)else 0
def nt(f:Nat->Nat)(L z p i:Nat):Int:=if i<L then((f i+ah f L z i p:Nat):Int)else 0
def V0(f L z lg p q)(B:q<z):t2 f L z lg p (q*3)=(tb f L z q:Int):=by
 have r:q*3 / 3=q:=by omega
 have A:q*3 % 3=0:=by omega
 unfold t2
 grind
def AG2(f L z lg q)(B:q<z):t2 f L z lg z (q*3+1)=(bt lg (A5 f L z q):Int):=by
 have r:(q*3+1) / 3=q:=by omega
 have A:(q*3+1) % 3=1:=by omega
 unfold t2
 grind
def AG1(f L z lg q)(B:q<z):t2 f L z lg z (q*3+2)=((A5 f L z q*2 ^ bt lg (A5 f L z q)-z:Nat):Int):=by
 have r:(q*3+2) / 3=q:=by omega
 have A:(q*3+2) % 3=2:=by omega
 unfold t2
 grind
def AG3(f L z lg i)(q:0<z):tc f L z z i=t2 f L z lg 0 i:=by
 unfold tc t2;by_cases c:i / 3<z
 .by_cases d:i % 3=0;rw[if_pos ⟨d,c⟩,if_pos c,if_pos d,WI _ _ _ _ q]
  omega
 omega
def AG4(f L z lg p i)(A:p<z):
 Bb (Bb (t2 f L z lg p) (p*3+1) (bt lg (A5 f L z p):Int)) (p*3+2) ((A5 f L z p*2 ^ bt lg (A5 f L z p)-z:Nat):Int) i=t2 f L z lg (p+1) i:=by
 unfold Bb;by_cases r:i=p*3+2
 .subst r;rw[if_pos rfl];unfold t2
  grind
 .rw[if_neg r];by_cases q:i=p*3+1
  .subst q;rw[if_pos rfl];unfold t2
   grind
  .rw[if_neg q];unfold t2;omega
def ADI(s:List Int)(z i)(h:∀k,k<s.length->0<=s.getD k 0)(f:i<64)(r:s.length<=64):
 (splice (Au 64 (λ _=>0)) 0 (s.map (Value.int .i64)))[i]?=some (.int .i64 (nt (nn s) s.length z 0 i)):=by
 unfold splice;simp only[List.take_zero,List.nil_append,Nat.zero_add,zu0];rw[List.getElem?_append];by_cases c:i<s.length
 .rw[if_pos (by grind)];have q:=h i c;simp only[zw0,nt,if_pos c,ah,nn]
  grind
 .rw[if_neg (by grind),zp0];simp only[zu0];rw[show s.length+(i-s.length)=i by omega,JV _ _ _ f];unfold nt
  grind
def ADH{f L z}(h:BS f L z)(p):nt f L z p (tb f L z p)=(A5 f L z p:Int):=by unfold nt;rw[if_pos (h.tb_lt p)];rfl
def ADJ{f L z}(h:BS f L z)(p i):Bb (nt f L z p) (tb f L z p) ((A5 f L z p:Int)+1) i=nt f L z (p+1) i:=by
 have q:=h.tb_lt p;unfold Bb nt;by_cases e:i=tb f L z p;subst e;rw[if_pos rfl,if_pos q];simp only[ah,if_true,A5];omega
 .rw[if_neg e];by_cases c:i<L
  .rw[if_pos c,if_pos c];simp only[ah]
   grind
  omega
structure JG(W0 wr:World)(gt gn:Nat)(f:Nat->Nat)(L z lg p:Nat):Prop where
 t:Iv wr gt 343 1536 (t2 f L z lg p)
 n:Iv wr gn 320 64 (nt f L z p)
 ne:gt≠gn
 tch:AD (λ k=>k=gt\/k=gn) W0 wr
def JG.step{I wr q r f L z lg p}(h:JG I wr q r f L z lg p)(B:BS f L z)(W:L<=64)(K:p<z):
 JG I (((wr.setCell ⟨r,tb f L z p,none⟩ (.int .i64 ((A5 f L z p:Int)+1))).setCell ⟨q,p*3+1,none⟩ (.int .i64 (bt lg (A5 f L z p):Int))).setCell ⟨q,p*3+2,none⟩ (.int .i64 ((A5 f L z p*2 ^ bt lg (A5 f L z p)-z:Nat):Int))) q r f L z lg (p+1):=by
 have Y:=B.zok.pos;have X:=B.tb_lt p;have E:AD (λ k=>k=r) wr (wr.setCell ⟨r,tb f L z p,none⟩ (.int .i64 ((A5 f L z p:Int)+1))):=AD.setCell (AD.refl (λ k=>k=r) wr) (p:=⟨r,tb f L z p,none⟩) (λ _=>rfl) _;obtain⟨A,O⟩:∃A,A=wr.setCell ⟨r,tb f L z p,none⟩ (.int .i64 ((A5 f L z p:Int)+1)):=⟨_,rfl⟩
 have J:=h.n.set (tb f L z p) (by omega) ((A5 f L z p:Int)+1);rw[<-O]at E J |-
 have T:=(h.t.tch E h.ne).set (p*3+1) (by omega) (bt lg (A5 f L z p):Int);have U:=T.set (p*3+2) (by omega) ((A5 f L z p*2 ^ bt lg (A5 f L z p)-z:Nat):Int);have tt:AD (λ k=>k=q) A ((A.setCell ⟨q,p*3+1,none⟩ (.int .i64 (bt lg (A5 f L z p):Int))).setCell ⟨q,p*3+2,none⟩ (.int .i64 ((A5 f L z p*2 ^ bt lg (A5 f L z p)-z:Nat):Int))):=
  AD.setCell (AD.setCell (AD.refl (λ k=>k=q) A) (p:=⟨q,p*3+1,none⟩) (λ _=>rfl) _) (p:=⟨q,p*3+2,none⟩) (λ _=>rfl) _
 refine⟨U.congr (λ i _=>AG4 f L z lg p i K),(J.tch tt (λ e=>h.ne e.symm)).congr (λ i _=>ADJ B p i),h.ne,?_⟩;exact(h.tch.trans E (λ _ _ e=>.inr e)).trans tt (λ _ _ e=>.inl e)
def AHC(v s lg z w)(hr:Rd .i64 w v s)(Z:Ca s lg)(hz:2 ^ lg=z):
 Calls prog 242 #[v,.int .i64 lg] w λ e w'=>e=.returned (.agg (Au 1536 (t2 (nn s) s.length z lg z)).toArray)/\Below w.heap.size w w':=by
 have HR:=z6 hr;obtain⟨a,cap,rfl,bw,bk,_,ar⟩:=hr;have HC:=z6 ar;have HK:=z6 Z;have HZ:=z6 hz;have HF:Hid (BS (nn s) s.length z):=by show BS _ _ _;rw[<-hz];exact Z.fok
 have c4:=HF.o.zok.pos;have ai:=Z.len;have bu:=Z.lo;have aw:=Z.hi;have bz:wrap64 (2 ^ lg)=(z:Int):=by
  have e:((2:Int) ^ lg)=((2 ^ lg:Nat):Int):=by push_cast;rfl
  rw[e,hz];exact IntWalk.wrap64_in _ ⟨by omega,by omega⟩
 obtain⟨ay,av⟩:=zero_of_info MR;have a3:=z6 av;obtain⟨a1,ba⟩:=zero_of_info TJ;clear ar av ba Z hz;obtain⟨L,ap⟩:=exH ((Au 1536 (λ _=>0)).toArray);obtain⟨r,a9⟩:=exH (Au 64 (λ _=>0));rw[ap.o]at ay;rw[a9.o]at a1;have b6:=z6 a1;have ao:Hid (L.size=1536):=by show _=_;rw[<-ap.o,It]
 have a7:Hid (r.length=64):=by show _=_;rw[<-a9.o,Et]
 clear a1;obtain⟨F,hF⟩:=exH (Au 1536 (t2 (nn s) s.length z lg z));rw[hF.o]
 go_enter func242,ntmps242
 go_wp2_with fail;have T:Hid (Below w.heap.size w (w.alloc (.cells L 343))):=(Below.refl _ _).alloc (AE _) _;have R0:Hid ((w.alloc (.cells L 343)).heap[w.heap.size]?=some (.cells L 343 (0,0))):=heap_alloc_new w _;refine(Va _ s lg z _ (HR.o.below T.o) HK.o HZ.o).mono ?_;rintro e f ⟨rfl,aa⟩;have a2:=z6 aa;have bc:w.heap.size<f.heap.size:=by have:=aa.size;simp at this;omega
 clear aa;obtain⟨E,a4⟩:=exH (Au 1536 (tc (nn s) s.length z z));have al:Hid (E.toArray.size=1536):=by show _=_;rw[List.size_toArray,<-a4.o,Et]
 have b4:Hid (E.toArray.all (·.oneCell')=true):=by show _=_;rw[<-a4.o];exact IB _ _
 rw[a4.o];obtain⟨B,I⟩:=exH (s.map (Value.int .i64));have K:Hid (B.length=s.length):=by show _=_;rw[<-I.o,zu0]
 have am:Hid (∀v∈B,v.oneCell'=true):=by rw[<-I.o];exact ints_oneCell _ _
 have an:Hid (0<B.length->∃U,a=some U/\∀j v,B[j]?=some v->w.cell? (U.add j)=some v/\(U.add j).block<w.heap.size):=λ h=>by
  rcases HC.o with rfl|⟨b,o,rfl,hc⟩
  .rw[K.o]at h;simp at h
  .refine⟨_,rfl,λ j x hx=>?_⟩;(have hj:j<s.length:=by have:=(List.getElem?_eq_some_iff.1 hx).1;rw[K.o]at this;exact this);rw[<-I.o,zw0,z9 hj]at hx;simp at hx;have h0:=hc j hj;rw[AP,z9 hj]at h0;simp at h0;rw[Addr.add_lit];refine⟨?_,zb0 w ⟨b,o+j,none⟩ h0⟩;rw[h0,<-hx]
 have b0:Hid ((prog.info? 3).map (·.size)=some 1):=by show _=_;kernel_rfl
 have a1:=b6.o;go_wp2_with(refine JA f rfl 343 (.tmp 6) (.tmp 15) rfl L E.toArray rfl rfl (by rw[al.o];exact a3.o) (by rw[al.o,ao.o]) b4.o ?_)
 obtain⟨U,ha,ax⟩:=an.o (by rw[K.o];exact HK.o.pos);subst ha;have ae:((f.alloc (.cells E.toArray 343)).alloc (.cells r.toArray 320)).heap[f.heap.size+1]?=some (.cells r.toArray 320 (0,0)):=by have:=heap_alloc_new (f.alloc (.cells E.toArray 343)) (.cells r.toArray 320);simpa using this
 have au:=run_copy_row (P:=prog) ((f.alloc (.cells E.toArray 343)).alloc (.cells r.toArray 320)) 23 23 3 3 (f.heap.size+1) 0 64 64 U s.length cap r.toArray 320 B
  underlying23 b0.o ae (by rw[K.o];exact(Nat.min_eq_left ai).symm) (λ j x hx=>by
   (obtain⟨W,h2⟩:=ax j x hx;have b9:=h2;have hB:Below w.heap.size w ((f.alloc (.cells E.toArray 343)).alloc (.cells r.toArray 320)):=by have h3:=T.o.trans (a2.o.mono T.o.size);exact(h3.alloc h3.size _).alloc (by simp;omega) _);rw[hB.cell (p:=U.add j) b9];exact W) (by rw[List.size_toArray,K.o,a7.o];omega) am.o
 rw[au];have ad:Hid ((((f.alloc (.cells E.toArray 343)).alloc (.cells r.toArray 320)).setRow (f.heap.size+1) (r.toArray.toList.take 0++B++r.toArray.toList.drop (0+B.length)).toArray).heap[f.heap.size+1]?=some (.cells (splice r 0 B).toArray 320 (0,0))):=by show _=_;rw[setRow_heap _ _ _ _ _ _ ae];simp[splice]
 have a0:Below (f.heap.size+1) ((f.alloc (.cells E.toArray 343)).alloc (.cells r.toArray 320)) (((f.alloc (.cells E.toArray 343)).alloc (.cells r.toArray 320)).setRow (f.heap.size+1) (r.toArray.toList.take 0++B++r.toArray.toList.drop (0+B.length)).toArray):=
  below_setRow (Below.refl _ _) (AE _) _
 obtain⟨O,az⟩:=exH (((f.alloc (.cells E.toArray 343)).alloc (.cells r.toArray 320)).setRow (f.heap.size+1) (r.toArray.toList.take 0++B++r.toArray.toList.drop (0+B.length)).toArray);rw[az.o]at ad a0 |-
 clear a1 ay au ax ae az;have T0:Hid (JG O O f.heap.size (f.heap.size+1) (nn s) s.length z lg 0):=by
  refine⟨?_,?_,by omega,AD.refl _ _⟩
  .have ht:=IC f 343 1536 (tc (nn s) s.length z z);rw[a4.o]at ht;have W:Iv O f.heap.size 343 1536 (tc (nn s) s.length z z):=by unfold Iv;rw[a0.block f.heap.size (by omega),Below.heap_alloc _ _ _ (by simp)];exact ht
   exact W.congr (λ i _=>AG3 _ _ _ _ i (by omega))
  .have he:splice r 0 B=Au 64 (nt (nn s) s.length z 0):=by apply List.ext_getElem?;intro i;by_cases hi:i<64;rw[JV _ _ _ hi,<-a9.o,<-I.o];exact ADI s z i HK.o.each hi ai;rw[zn0 (by rw[length_splice _ _ _ (by rw[K.o,a7.o];omega),a7.o];omega),zn0 (by rw[Et];omega)]
   unfold Iv;rw[<-he];exact ad.o
 have ak:Hid (Below w.heap.size w O):=by have h3:=T.o.trans (a2.o.mono T.o.size);have h4:=(h3.alloc h3.size (.cells E.toArray 343)).alloc (by simp;omega) (.cells r.toArray 320);exact h4.trans (a0.mono (by omega))
 have R3:Hid (O.heap[w.heap.size]?=some (.cells L 343 (0,0))):=by show _=_;rw[a0.block w.heap.size (by omega),Below.heap_alloc _ _ _ (by simp;omega),Below.heap_alloc _ _ _ (by omega),a2.o.block w.heap.size (by simp)];exact R0.o
 obtain⟨J,ag⟩:=exN f.heap.size;obtain⟨gn,af⟩:=exN (f.heap.size+1);rw[af,ag]at T0;rw[af,ag];have c2:w.heap.size<J/\w.heap.size<gn:=by omega
 clear ad a0 a2 T K am an I ag af bc;go_wp2_with fail
 go_loopw [20] (λ i wr=>∃p:Nat,p<=z/\i=.int .i64 p/\Hid (JG O wr J gn (nn s) s.length z lg p)) (λ i _=>z-(intOf i).toNat)
 case atStart=>exact⟨0,AI _,rfl,T0⟩
 case round=>
  clear T0;obtain⟨p,hp,rfl,A⟩:=hrel;by_cases aj:p<z
  .obtain⟨q,hq⟩:=exH (tb (nn s) s.length z p);obtain⟨X,hX⟩:=exH (A5 (nn s) s.length z p);obtain⟨b,hb⟩:=exH (bt lg X);obtain⟨Y,hY⟩:=exH (X*2 ^ b);(have c0:q<s.length:=by rw[<-hq.o];exact HF.o.tb_lt p);have I:=Ql HF.o aj;rw[hX.o]at I;have ac:=J4 (lg:=lg) I.1 aw (by rw[HZ.o];exact I.2);have aq:=RN (lg:=lg) I.1 aw (by rw[HZ.o];exact I.2);rw[hb.o,HZ.o]at ac;rw[Nat.add_mul,hY.o]at ac;obtain⟨BL,a8⟩:=exH (Lib.bitLen X);rw[a8.o]at aq;have ab:=hb.o;unfold bt at ab;rw[a8.o]at ab;(have bi:(lg:Int)+1-(BL:Int)=(b:Int):=by omega);clear ab;(have bj:BL<=10:=by omega);(have bg:z<=Y/\Y<=1024:=by omega);obtain⟨D,hD⟩:=exH (Y-z);have b7:Hid (wrap64 ((Y:Int)-(z:Int))=(D:Int)):=by
    show _=_;rw[IntWalk.wrap64_in _ ⟨by omega,by omega⟩,<-hD.o];omega
   (have bh:b<=9:=by omega);have t0:wr.cell? ⟨J,p*3,none⟩=some (.int .i64 (q:Int)):=by rw[A.o.t.at_ (p*3) (by omega),V0 _ _ _ _ _ _ aj,hq.o]
   (have t1:=A.o.t.at_ (p*3+1) (by omega);have t3:=A.o.t.at_ (p*3+2) (by omega);have f1:=A.o.t.fz (p*3+1);have f2:=A.o.t.fz (p*3+2);have n0:wr.cell? ⟨gn,q,none⟩=some (.int .i64 (X:Int)):=by rw[A.o.n.at_ q (by omega),<-hq.o,ADH HF.o p,hX.o]);have n1:=A.o.n.fz q;have bx:=A.o.ne;have b5:Hid (JG O (((wr.setCell ⟨gn,q,none⟩ (.int .i64 ((X:Int)+1))).setCell ⟨J,p*3+1,none⟩ (.int .i64 (b:Int))).setCell ⟨J,p*3+2,none⟩ (.int .i64 (D:Int))) J gn (nn s) s.length z lg (p+1)):=by have h:=A.o.step HF.o ai aj;rw[hX.o,hq.o,hb.o,hY.o,hD.o]at h;exact h
   (obtain⟨y1,bd⟩:=exH (t2 (nn s) s.length z lg p (p*3+1));obtain⟨y2,be⟩:=exH (t2 (nn s) s.length z lg p (p*3+2));rw[bd.o]at t1;rw[be.o]at t3;(have bf:X<=1023:=by omega);(have bm:(0:Int)<=(p:Int):=by omega);(have bn:(p:Int)<512:=by omega);(have bo:(p:Int)<=511:=by omega);(have bp:(0:Int)<=(q:Int):=by omega);(have bq:(q:Int)<64:=by omega);(have br:(q:Int)<=63:=by omega);clear A ac aq;have b8:Hid (wrap64 ((X:Int)*2 ^ b)=(Y:Int)):=by show _=_;(have e:((X:Int)*2 ^ b)=((X*2 ^ b:Nat):Int):=by push_cast;rfl);rw[e,hY.o];exact IntWalk.wrap64_in _ ⟨by omega,by omega⟩);go_wp2_with fail;refine(Tm (X:Int) _ (by omega) (by omega)).mono ?_;rintro e w5 ⟨rfl,rfl⟩;rw[Int.toNat_natCast,a8.o];go_wp2_with fail
   go_roundw
   (case rel=>exact⟨p+1,by omega,by go_num,by rw[b8.o,b7.o];exact b5⟩);case measure=>simp[intOf];omega
  .obtain rfl:p=z:=by omega
   have RR:Hid (wr.there w.heap.size 0 1536):=by refine QW (C:=L) (t:=343) ?_ ao.o;rw[A.o.tch.block w.heap.size (za0.1 R3.o).1 (λ e=>by rcases e with e|e<;>omega)];exact R3.o
   (have b3:Hid (wr.rangeAt J 0 F):=by rw[<-hF.o];exact A.o.t.range);(have a5:Hid (F.length=1536):=by show _=_;rw[<-hF.o,Et]);(have a6:Hid (F.toArray.size=1536):=by show _=_;rw[List.size_toArray];exact a5.o);(have b2:Hid (F.toArray.all (·.oneCell')=true):=by show _=_;rw[<-hF.o];exact IB _ _);go_wp2_with(first|(refine wpList_load_mid rfl 343 (.tmp 6) rfl J 0 rfl F _ b3.o underlying343 rfl (by rw[a5.o];exact a3.o) ?_)|(refine wpList_store_mid rfl 343 (.tmp 4) (.tmp 56) rfl w.heap.size 0 F.toArray rfl rfl (by rw[a6.o];exact RR.o) (by rw[a6.o];exact a3.o) b2.o ?_))
   have bb:=run_loadVar_mid (P:=prog) (wr.setCells w.heap.size 0 F.toArray.toList) w.heap.size 0 343 F _ (by
    have:=World.rangeAt_setCells_same wr w.heap.size 0 F.toArray.toList (by rw[Array.length_toList,a6.o];exact RR.o);simpa using this) underlying343 rfl (by rw[a5.o];exact a3.o)
   refine bodyPost_ret (v:=.agg F.toArray) ?_ rfl ⟨rfl,?_⟩;exact Kj (p:=4) (ty:=343) rfl _ _ _ w.heap.size _ rfl bb;have W:=ak.o.trans (A.o.tch.below ak.o.size (λ k e=>by rcases e with e|e<;>omega));exact W.trans ((Mr w.heap.size _ 0 wr).below W.size (λ k e=>by rw[e];exact AE _))
end
section
open Go.RowKit Pl
def RG(b f ys p m w)(h:Bk w b f ys p)(B:m<=32)(E:m<=p):
 Calls prog 256 #[.pointer (some ⟨b,0,none⟩),.int .i64 m] w λ e w'=>
  e=.returned (.tuple #[.int .i64 (val (AM ys) (p-m) m),.int .i64 0])/\Bk w' b f ys (p-m)/\AD (λ k=>k=b) w w':=by
 have q:A9 p (m:Int)=0:=by unfold A9;omega
 have r:Bt p (m:Int)=m:=by unfold Bt;grind
 have A:CP (AM ys) p (p-m) (m:Int)=val (AM ys) (p-m) m:=by unfold CP;grind
 have:=RF b f ys p m w h;rw[q,r,A]at this;exact this
def RH(b f ys p m w)(h:Bk w b f ys p)(B:m<=32)(E:p<m):
 Calls prog 256 #[.pointer (some ⟨b,0,none⟩),.int .i64 m] w λ e w'=>
  e=.returned (.tuple #[.int .i64 0,.int .i64 3])/\Bk w' b f ys p/\AD (λ k=>k=b) w w':=by
 have q:A9 p (m:Int)=3:=by unfold A9;omega
 have r:Bt p (m:Int)=0:=by unfold Bt;grind
 have A:CP (AM ys) p p (m:Int)=0:=by unfold CP;omega
 have:=RF b f ys p m w h;rw[q,r,Nat.sub_zero,A]at this;exact this
def RE(b f ys p w)(h:Bk w b f ys p):
 Calls prog 244 #[.pointer (some ⟨b,0,none⟩)] w λ e w'=>e=.returned (.int .i64 p)/\w'=w:=by
 have c1:=h.c1;clear h
 go_enter func244,ntmps244
 go_wp2;go_ret;simp
def dr(f:Nat->Nat)(L z lg:Nat)(B:List Int)(p n:Nat):Option (List Int×Nat):=
 if p<lg then none else match dc f L z lg B (val B (p-lg) lg).toNat (p-lg) n with
  | none=>none
  | some t=>if t.2.1=0 then some (t.1,t.2.2)else none
structure Dw(w W:World)(b gt:Nat)(rv d:Value)(ys:List Int)(f:Nat->Nat)(L z lg:Nat)(l:List Int)(p:Nat):Prop where
 bk:Bk W b rv ys p
 tab:Iv W gt 343 1536 (t2 f L z lg z)
 own:AF .i64 3 W d l
 tch:AD (λ k=>k=b) w W
 dn:∀k,d.ownBlock=some k->w.heap.size<=k
 bl:b<w.heap.size
 gl:gt<w.heap.size
 rl:∀k,rv.ownBlock=some k->k<w.heap.size
 ne:gt≠b
def Dw.took{w W r b E B d ys f L z lg l p q o}(h:Dw w W b E B d ys f L z lg l p)(A:AD (λ k=>k=b) (W.alloc o) r)(J:Bk r b B ys q):Dw w r b E B d ys f L z lg l q:=by
 have I:Below W.heap.size W (W.alloc o):=(Below.refl _ _).alloc (AE _) _;have O:=h.bl;refine⟨J,(h.tab.below I).tch A h.ne,(h.own.below I).tch A (λ k K e=>by have:=h.dn k K;omega),(h.tch.alloc o).trans A (λ _ _ e=>e),h.dn,h.bl,h.gl,h.rl,h.ne⟩
def Dw.push{w W r b E J d A ys f L z lg l I p}(h:Dw w W b E J d ys f L z lg l p)(K:AF .i64 3 r A I)(q:AY W r d A):Dw w r b E J A ys f L z lg I p:=by
 have O:=h.bl;have T:=h.gl;refine⟨h.bk.tch q.tch (λ e=>by have:=h.dn _ e;omega) (λ k B e=>by have:=h.dn _ e;have:=h.rl k B;omega),h.tab.tch q.tch (λ e=>by have:=h.dn _ e;omega),K,
  h.tch.trans q.tch (λ i U e=>by have:=h.dn _ e;omega),λ k B=>?_,h.bl,h.gl,h.rl,h.ne⟩
 rcases q.fresh k B with e|e;exact h.dn k e;have:=h.tch.size;omega
def XJ(b:Nat)(rv:Value)(ys:List Int)(f:Nat->Nat)(L z lg p n:Nat)(w:World)(e:Ending)(w':World):Prop:=
 ∃d E,e=.returned (.tuple #[d,.int .i64 E])/\AD (λ k=>k=b) w w'/\
  ((E=3/\d=.slice none 0 0/\dr f L z lg (AM ys) p n=none)\/
   (E=0/\∃l q,dr f L z lg (AM ys) p n=some (l,q)/\AF .i64 3 w' d l/\(∀k,d.ownBlock=some k->w.heap.size<=k)/\Bk w' b rv ys q))
def AHO(b B E ys f)(L z lg p n:Nat)(w)(hb:Bk w b E ys p)(ht:Iv w B 343 1536 (t2 f L z lg z))(aj:B≠b)(hf:BS f L z)(hz:2 ^ lg=z)(h5:5<=lg)(h9:lg<=9)(hL:L<=64)(hn:n<=65536):
 Calls prog 243 #[.pointer (some ⟨b,0,none⟩),.pointer (some ⟨B,0,none⟩),.int .i64 lg,.int .i64 n] w λ e w'=>XJ b E ys f L z lg p n w e w':=by
 have HB:=z6 hb;have HT:=z6 ht;have HF:=z6 hf;have J:=z6 hz;have b8:=hf.zok.pos;have aa:=z6 aj;clear hb ht hf hz aj;by_cases hp:p<lg
 .have T:Hid (dr f L z lg (AM ys) p n=none):=by show _=_;unfold dr;rw[if_pos hp]
  go_enter func243,ntmps243
  go_wp2_with fail;refine(RH b E ys p lg w HB.o (by omega) hp).mono ?_;rintro e w1 ⟨rfl,_,a2⟩;have K:=z6 a2;clear a2;go_wp2_with fail;go_ret2;exact⟨_,3,rfl,K.o,.inl ⟨rfl,rfl,T.o⟩⟩
 .obtain⟨A,a4⟩:=exH ((val (AM ys) (p-lg) lg).toNat);have hv:=Hq (Fx ys) (p-lg) lg;have W:((2:Int) ^ lg)=(z:Int):=by rw[<-J.o];push_cast;rfl
  rw[W]at hv;have HV:Hid (val (AM ys) (p-lg) lg=(A:Int)):=by show _=_;rw[<-a4.o];omega
  have ab:A<z:=by rw[<-a4.o];omega
  have T:Hid (dr f L z lg (AM ys) p n=match dc f L z lg (AM ys) A (p-lg) n with
   | none=>none
   | some t=>if t.2.1=0 then some (t.1,t.2.2)else none):=by show _=_;unfold dr;rw[if_neg hp,a4.o]
  clear hv W;obtain⟨i0,hi,an,ao,ap⟩:=DU.info
  go_enter func243,ntmps243
  go_wp2_with fail;refine(RG b E ys p lg w HB.o (by omega) (by omega)).mono ?_;rintro e w1 ⟨rfl,ac,a2⟩;rw[HV.o];have B1:=z6 ac;have K:=z6 a2;clear ac a2;go_wp2_with(at_make;refine wpList_make_own _ rfl (.const (.int .i64 0)) (.tmp 25) 23 rfl 0 3 i0 _ 1 underlying23 hi an ao .i64 .i64 _ n rfl rfl rfl (by rw[ap];omega) (by unfold maxLen;omega) (AI _) ?_)
  intro w4 ak af;have D4:Hid (Dw w w4 b B E (.slice (some ⟨w1.heap.size,0,none⟩) 0 n) ys f L z lg [] (p-lg)):=by have b4:=(Below.refl _ _).grown af (AE _) (λ k e=>by cases e);refine⟨B1.o.below b4,(HT.o.tch K.o aa.o).below b4,ak,K.o.trans (AD.of_below (S:=λ k=>k=b) b4) (λ _ _ e=>e),λ k hk=>?_,HB.o.lt,HT.o.lt,HB.o.own.lt,aa.o⟩;simp only[Value.ownBlock,Option.some.injEq]at hk;have:=K.o.size;omega
  clear ak af B1 K hi an ao ap;go_wp2_with fail
  go_loopw [10,12,28] (λ x d i wr=>∃(k a q:Nat)(l:List Int),k<=n/\i=.int .i64 k/\x=.int .i64 a/\a<z/\Hid (dc f L z lg (AM ys) A (p-lg) k=some (l,a,q))/\Hid (Dw w wr b B E d ys f L z lg l q)) (λ _ _ i _=>n-(intOf i).toNat)
  case atStart=>exact⟨0,A,p-lg,[],AI _,rfl,rfl,ab,rfl,D4⟩
  case round=>
   obtain⟨k,a,q,l,hk,rfl,rfl,ha,U,r⟩:=hrel;clear D4;by_cases b5:k<n
   .obtain⟨s,hs⟩:=exH (tb f L z a);obtain⟨X,Z⟩:=exH (A5 f L z a);obtain⟨m,hm⟩:=exH (bt lg X);obtain⟨c,hc⟩:=exH (X*2 ^ m-z);have a3:=Ql HF.o ha;rw[Z.o]at a3;have ae:=J4 (lg:=lg) a3.1 h9 (by rw[J.o];exact a3.2);rw[hm.o,J.o,Nat.add_mul]at ae;(have b6:m<=9:=by omega);(have a8:Hid (z<=X*2 ^ m/\X*2 ^ m+2 ^ m<=2*z):=by show _/\_;omega);(have az:c<=512:=by rw[<-hc.o];omega);(have t0:wr.cell? ⟨B,a*3,none⟩=some (.int .i64 (s:Int)):=by rw[r.o.tab.at_ (a*3) (by omega),V0 _ _ _ _ _ _ ha,hs.o]);have t1:wr.cell? ⟨B,a*3+1,none⟩=some (.int .i64 (m:Int)):=by rw[r.o.tab.at_ (a*3+1) (by omega),AG2 _ _ _ _ _ ha,Z.o,hm.o]
    (have t3:wr.cell? ⟨B,a*3+2,none⟩=some (.int .i64 (c:Int)):=by rw[r.o.tab.at_ (a*3+2) (by omega),AG1 _ _ _ _ _ ha,Z.o,hm.o,hc.o]);(have b7:s<=64:=by rw[<-hs.o];have:=HF.o.tb_lt a;omega);(have b0:(0:Int)<=(a:Int):=by omega);(have b2:(a:Int)<512:=by omega);(have b3:(a:Int)<=511:=by omega);have ag:l.length=k:=by have:=U.o;rw[<-J.o]at this;exact(ZV (by rw[J.o];exact HF.o) h9 (Fx ys) (by rw[J.o];exact ab) this).2.2
    have a9:=z6 ag;have ax:=r.o.tab.lt;clear a3 ae ag;by_cases hq:q<m
    .have HN:Hid (dc f L z lg (AM ys) A (p-lg) (k+1)=none):=by show _=_;simp only[dc,U.o];rw[Z.o,hm.o,if_pos hq]
     go_wp2_with fail;have Y:Below wr.heap.size wr (wr.alloc (.cells #[.int .i64 (s:Int),.int .i64 (m:Int),.int .i64 (c:Int)] 341)):=(Below.refl _ _).alloc (AE _) _;refine(RH b E ys q m _ (r.o.bk.below Y) (by omega) hq).mono ?_;rintro e w6 ⟨rfl,a1,I⟩;have O:=z6 (r.o.took I a1);clear a1 I Y r;go_wp2_with fail;go_ret2;refine⟨_,3,rfl,O.o.tch,.inl ⟨rfl,rfl,?_⟩⟩;rw[T.o];have ay:∀j,k+1<=j->dc f L z lg (AM ys) A (p-lg) j=none:=by
      intro j hj;induction j with
      | zero=>omega
      | succ j ih=>by_cases e:k=j;subst e;exact HN.o;simp only[dc];rw[ih (by omega)]
     rw[ay n (by omega)]
    .obtain⟨v,hv⟩:=exH ((val (AM ys) (q-m) m).toNat);have am:=Hq (Fx ys) (q-m) m;(have W:((2:Int) ^ m)=((2 ^ m:Nat):Int):=by push_cast;rfl);rw[W]at am;(have au:Hid (val (AM ys) (q-m) m=(v:Int)):=by show _=_;rw[<-hv.o];omega);(have aw:c+v<z:=by have:=a8.o;rw[<-hv.o,<-hc.o];omega);have ar:Hid (dc f L z lg (AM ys) A (p-lg) (k+1)=some (l++[(s:Int)],c+v,q-m)):=by show _=_;simp only[dc,U.o];rw[Z.o,hm.o,if_neg hq,hs.o,hc.o,hv.o]
     clear am W a8;go_wp2_with fail;have Y:Below wr.heap.size wr (wr.alloc (.cells #[.int .i64 (s:Int),.int .i64 (m:Int),.int .i64 (c:Int)] 341)):=(Below.refl _ _).alloc (AE _) _;refine(RG b E ys q m _ (r.o.bk.below Y) (by omega) (by omega)).mono ?_;rintro e w6 ⟨rfl,a1,I⟩;rw[au.o];have O:=z6 (r.o.took I a1);(have ad:wr.heap.size≠b:=by have h1:=r.o.bl;have h2:=r.o.tch.size;omega);have a5:∀j,w6.cell? ⟨wr.heap.size,j,none⟩=(wr.alloc (.cells #[.int .i64 (s:Int),.int .i64 (m:Int),.int .i64 (c:Int)] 341)).cell? ⟨wr.heap.size,j,none⟩:=λ j=>I.cell (p:=⟨wr.heap.size,j,none⟩) (by simp) ad
     have a7:=heap_alloc_new wr (.cells #[.int .i64 (s:Int),.int .i64 (m:Int),.int .i64 (c:Int)] 341);(have p0:w6.cell? ⟨wr.heap.size,0,none⟩=some (.int .i64 (s:Int)):=by rw[a5,cell_of_row _ _ 0 _ _ (0,0) a7];rfl);(have p2:w6.cell? ⟨wr.heap.size,2,none⟩=some (.int .i64 (c:Int)):=by rw[a5,cell_of_row _ _ 2 _ _ (0,0) a7];rfl);(have ai:wr.heap.size<w6.heap.size:=by have:=I.size;simp at this;omega);obtain⟨g,hg⟩:=exN wr.heap.size;rw[hg]at p0 p2 ai |-
     (have HG:Hid (w.heap.size<=g):=by show _<=_;rw[<-hg];exact r.o.tch.size);(have aq:Hid (∀k,u12.ownBlock=some k->k≠g):=λ k hk e=>by have:=r.o.own.lt k hk;omega);clear a1 I Y r a5 a7 ad hg t0 t1 t3 ax;go_wp2_with(at_builtin;refine ET _ rfl (.tmp 45) (.tmp 48) 23 rfl 3 .i64 8 DU _ l rfl O.o.own (s:Int) rfl (by have:=a9.o;omega) (by have:=a9.o;omega) ?_)
     (intro d7 w7 al a6;have D7:=z6 (O.o.push al a6);have p3:w7.cell? ⟨g,2,none⟩=some (.int .i64 (c:Int)):=by rw[a6.tch.cell (p:=⟨g,2,none⟩) ai (λ e=>aq.o g e rfl)];exact p2);clear al a6 O p0 p2;go_wp2_with fail
     go_roundw
     (case rel=>exact⟨k+1,c+v,q-m,l++[(s:Int)],by omega,by go_num,by go_num,aw,ar,D7⟩);case measure=>simp[intOf];omega
   .obtain rfl:k=n:=by omega
    by_cases a0:a=0
    .have av:((a:Int) != 0)=false:=by simp[a0]
     (have HE:Hid (dr f L z lg (AM ys) p k=some (l,q)):=by show _=_;rw[T.o,U.o];simp[a0]);clear a0;go_wp2_with fail;go_ret2;exact⟨u12,0,rfl,r.o.tch,.inr ⟨rfl,l,q,HE.o,r.o.own,r.o.dn,r.o.bk⟩⟩
    .have av:((a:Int) != 0)=true:=by simp;omega
     (have HE:Hid (dr f L z lg (AM ys) p k=none):=by show _=_;rw[T.o,U.o];simp[a0]);clear a0;go_wp2_with fail;go_ret2;exact⟨_,3,rfl,r.o.tch,.inl ⟨rfl,rfl,HE.o⟩⟩
def G9:Option (List Int×Nat)->Int×List Int
 | none=>(3,[])
 | some t=>if 0<t.2 then(3,[])else(0,t.1)
def EL(s:List Int)(log:Int)(ys:List Int)(n:Int):Int×List Int:=
 if A0 s log=false then(4,[])else if n<0\/65536<n then(1,[])else if 0<ys.length/\ys.getD (ys.length-1) 0≠0 then
  G9 (dr (nn s) s.length (2 ^ log.toNat) log.toNat (AM ys) (Ew ys) n.toNat)
 else(3,[])
def GS(r:Int×List Int)(w:World)(e:Ending)(w':World):Prop:=
 ∃d,e=.returned (.tuple #[d,.int .i64 r.1])/\Below w.heap.size w w'/\(∀k,d.ownBlock=some k->w.heap.size<=k)/\AF .i64 3 w' d r.2
def GS.bad{E w w'}(f:Below w.heap.size w w'):GS (E,[]) w (.returned (.tuple #[.slice none 0 0,.int .i64 E])) w':=
 ⟨_,rfl,f,(λ k e=>by cases e),CB _ _ _⟩
def Zb(K dv s ys U n w)(hr:Rd .i64 w K s)(hd:Rd .u8 w dv ys)(hy:By ys)(hl:ys.length<=140737488355328):
 Calls prog 211 #[K,.int .i64 U,dv,.int .i64 n] w λ e w'=>GS (EL s U ys n) w e w':=by
 have Y:=z6 hr;have HD:=z6 hd;have HY:=z6 hy;obtain⟨T,ab⟩:=zero_of_info MR;have ad:=z6 ab;obtain⟨ZT,a6⟩:=exH ((Au 1536 (λ _=>0)).toArray);rw[a6.o]at T;have af:=z6 T;have ag:Hid (ZT.size=1536):=by show _=_;rw[<-a6.o,It]
 clear hr hd hy T ab;obtain⟨R,hR⟩:=exH (EL s U ys n);rw[hR.o];cases hm:A0 s U with
 | false=>
  have X:=z6 hm;have A:Hid (R=(4,[])):=by show R=_;rw[<-hR.o];unfold EL;rw[if_pos hm]
  clear hm
  go_enter func211,ntmps211
  go_wp2_with fail;refine(He K s U w Y.o).mono ?_;rintro e L ⟨rfl,rfl⟩;rw[X.o];go_wp2_with fail;go_ret2;rw[A.o];exact GS.bad (Below.refl _ _)
 | true=>
  have X:=z6 hm;obtain⟨f,rfl,I⟩:=Ca.of hm;have HK:=z6 I;have ai:=I.lo;have aj:=I.hi;have a0:¬A0 s f=false:=by rw[hm];simp
  clear hm I;by_cases J:n<0\/65536<n
  .have A:Hid (R=(1,[])):=by show R=_;rw[<-hR.o];unfold EL;rw[if_neg a0,if_pos J]
   clear a0;rcases J with J|J;all_goals
    go_enter func211,ntmps211
    go_wp2_with fail;refine(He K s f w Y.o).mono ?_;rintro e L ⟨rfl,rfl⟩;rw[X.o];go_wp2_with fail;go_ret2;rw[A.o];exact GS.bad (Below.refl _ _)
  .obtain⟨m,rfl⟩:=Int.eq_ofNat_of_zero_le (show 0<=n by omega);(have ak:m<=65536:=by omega);(have am:decide ((m:Int)<0)=false:=by rw[AT];omega);(have an:decide ((65536:Int)<(m:Int))=false:=by rw[AT];omega);have a1:Hid (R=if 0<ys.length/\ys.getD (ys.length-1) 0≠0 then
    G9 (dr (nn s) s.length (2 ^ f) f (AM ys) (Ew ys) m)
    else(3,[])):=by
    show R=_;rw[<-hR.o];unfold EL;rw[if_neg a0,if_neg J];rfl
   clear J a0
   go_enter func211,ntmps211
   go_wp2_with fail;refine(He K s f w Y.o).mono ?_;rintro e L ⟨rfl,rfl⟩;rw[X.o];go_wp2_with fail;refine(AC9 dv ys L HD.o HY.o hl).mono ?_;rintro e w2 (⟨hmk,b,rv,rfl,hb2,hB2,hbn,hrn⟩|⟨hmk,rfl,rfl⟩)
   .have B2:=z6 hb2;have L2:=z6 hB2;have BN:=z6 hbn;obtain⟨Q,hQ⟩:=exH (dr (nn s) s.length (2 ^ f) f (AM ys) (Ew ys) m);(have A:Hid (R=G9 Q):=by show R=_;unfold Gx at hmk;rw[a1.o,if_pos hmk,hQ.o]);clear hb2 hB2 hbn hrn hmk a1;obtain⟨z,hz⟩:∃z:Nat,Hid (2 ^ f=z):=⟨_,rfl⟩
    rw[hz.o]at hQ;go_wp2_with fail;refine(AHC K s f z w2 (Y.o.below L2.o) HK.o hz.o).mono ?_;rintro e r ⟨rfl,a7⟩;obtain⟨B,Z⟩:=exH (Au 1536 (t2 (nn s) s.length z f z));(have a4:Hid (B.toArray.size=1536):=by show _=_;rw[List.size_toArray,<-Z.o,Et]);(have ae:Hid (B.toArray.all (·.oneCell')=true):=by show _=_;rw[<-Z.o];exact IB _ _);rw[Z.o];have L3:=z6 a7;clear a7;have T:=af.o;go_wp2_with(refine JA r rfl 343 (.tmp 12) (.tmp 34) rfl ZT B.toArray rfl rfl (by rw[a4.o];exact ad.o) (by rw[a4.o,ag.o]) ae.o ?_)
    (clear T;have TV:Hid (Iv (r.alloc (.cells B.toArray 343)) r.heap.size 343 1536 (t2 (nn s) s.length z f z)):=by have h:=IC r 343 1536 (t2 (nn s) s.length z f z);rw[Z.o]at h;exact h);have a5:Below r.heap.size r (r.alloc (.cells B.toArray 343)):=(Below.refl _ _).alloc (AE _) _;have B4:=z6 ((B2.o.below L3.o).below a5);have L4:Hid (Below L.heap.size L (r.alloc (.cells B.toArray 343))):=by have h1:=L2.o.trans (L3.o.mono L2.o.size);exact h1.alloc h1.size _
    (have al:r.heap.size≠b:=by have h1:=B2.o.lt;have h2:=L3.o.size;omega);(have HF:Hid (BS (nn s) s.length z):=by show BS _ _ _;rw[<-hz.o];exact HK.o.fok);obtain⟨p,hp⟩:=exH (Ew ys);rw[hp.o]at B4 hQ;clear a5;refine(AHO b r.heap.size rv ys (nn s) s.length z f p m _ B4.o TV.o al HF.o hz.o ai aj HK.o.len ak).mono ?_;rintro e w5 ⟨d,E,rfl,a3,a9⟩;rw[hQ.o]at a9;have L5:=z6 (L4.o.trans (a3.below L4.o.size (λ k e=>by rw[e];exact BN.o)));rcases a9 with⟨rfl,rfl,O⟩|⟨rfl,l,q,O,a2,aa,a8⟩
    .have W:Hid (R=(3,[])):=by show R=_;rw[A.o,O];rfl
     clear a3 O;go_wp2_with fail;go_ret2;rw[W.o];exact GS.bad L5.o
    .have B5:=z6 a8;have O5:=z6 a2;have D5:Hid (∀k,d.ownBlock=some k->L.heap.size<=k):=λ k I=>Aw L4.o.size (aa k I);(have W:Hid (R=if 0<q then(3,[])else(0,l)):=by show R=_;rw[A.o,O];rfl);(obtain⟨da,dc,DV⟩:∃da dc,d=.slice da l.length dc:=by obtain⟨a,c,e,_⟩:=a2.rd;exact⟨a,c,e⟩);subst DV;clear a3 O a8 a2 aa;by_cases ac:0<q
     .have ao:(0:Int)<(q:Int):=by omega
      go_wp2_with fail;refine(RE b rv ys q w5 B5.o).mono ?_;rintro e w6 ⟨rfl,rfl⟩;go_wp2_with fail;go_ret2;rw[W.o,if_pos ac];exact GS.bad L5.o
     .obtain rfl:q=0:=by omega
      go_wp2_with fail;refine(RE b rv ys 0 w5 B5.o).mono ?_;rintro e w6 ⟨rfl,rfl⟩;go_wp2_with fail;go_ret2;rw[W.o,if_neg ac];exact⟨_,rfl,L5.o,D5.o,O5.o⟩
   .have A:Hid (R=(3,[])):=by show R=_;unfold Gx at hmk;rw[a1.o,if_neg hmk]
    clear hmk;go_wp2_with fail;go_ret2;rw[A.o];exact GS.bad (Below.refl _ _)
end
section
open Go.RowKit Pl
def QM(c:List Int):∀k,0<A7 c k->∃i,i<k/\0<c.getD i 0
 | 0,h=>by simp[A7]at h
 | k+1,h=>by
  by_cases e:0<c.getD k 0
  .grind
  .simp only[A7]at h;rw[if_neg e]at h;obtain⟨i,f,q⟩:=QM c k (by omega)
   grind
def PV(c:List Int)(z f:Int):∀k,0<A7 c k->0<(Ax c z f k).length
 | 0,h=>by simp[A7]at h
 | k+1,h=>by
  simp only[Ax];by_cases e:c.getD k 0=0;rw[if_pos e];simp only[A7]at h;rw[e]at h;exact PV c z f k (by grind)
  grind
def PU{c:List Int}{z f:Int}(r:1<=z/\z<=512)(ha:0<f)(hc:∀i,c.getD i 0<=f)(q:∀i,0<=c.getD i 0):∀k,∀x∈Ax c z f k,0<=x/\x<=512
 | 0,x,hx=>by simp[Ax]at hx
 | k+1,x,hx=>by
  simp only[Ax]at hx;split at hx;exact PU r ha hc q k x hx
  .rcases zf0.1 hx with h|h
   .rcases zf0.1 h with h|h;exact PU r ha hc q k x h
    grind
   .simp only[List.mem_singleton]at h;have A:c.getD k 0*z / f<=z:=by refine Int.ediv_le_of_le_mul ha ?_;rw[Int.mul_comm z f];exact Int.mul_le_mul_of_nonneg_right (hc k) (by omega)
    omega
def C4(c:List Int)(log:Int):Int×List Int:=
 if DK c log=false then(1,[])else(0,FL (Ax c (2 ^ log.toNat) (Ac c c.length) c.length) (2 ^ log.toNat))
def AFy(v c q w)(h:Rd .i64 w v c):
 Calls prog 198 #[v,.int .i64 q] w λ e w'=>GS (C4 c q) w e w':=by
 have L:=z6 h;clear h;obtain⟨R,O⟩:=exH (C4 c q);rw[O.o];cases hm:DK c q with
 | false=>
  have K:=z6 hm;have J:Hid (R=(1,[])):=by show R=_;rw[<-O.o];unfold C4;rw[if_pos hm]
  clear hm
  go_enter func198,ntmps198
  go_wp2_with fail;refine(UC v c q w L.o).mono ?_;rintro e w1 ⟨rfl,rfl⟩;rw[K.o];go_wp2_with fail;go_ret2;rw[J.o];exact GS.bad (Below.refl _ _)
 | true=>
  have K:=z6 hm;have a5:¬DK c q=false:=by rw[hm];simp
  have W:=hm;unfold DK at W;rw[zg1]at W;obtain⟨g1,g2,g3,A,B,g6⟩:=W;obtain⟨X,rfl⟩:=Int.eq_ofNat_of_zero_le (show 0<=q by omega);obtain⟨z,hz,am,aa,al,a8⟩:=Jd (lg:=X) (by omega) (by omega);have af:=z6 a8;have ad:=z6 A;have a1:∀i,0<=c.getD i 0:=λ i=>by by_cases r:i<c.length;exact(A i r).1;simp[AP,zn0 (by omega:c.length<=i)]
  have ag:=KD (M:=4294967295) (by omega) A c.length (AE _);have U:∀i,c.getD i 0<=Ac c c.length:=λ i=>by
   by_cases r:i<c.length;exact OE (λ j hj=>(A j hj).1) r
   .have:c.getD i 0=0:=by simp[AP,zn0 (by omega:c.length<=i)]
    omega
  have T:0<Ac c c.length:=by obtain⟨i,h1,h2⟩:=QM c c.length B;have:=U i;omega
  obtain⟨f,E⟩:=exH (Ax c z (Ac c c.length) c.length);have a7:0<f.length:=by rw[<-E.o];exact PV c z _ _ B
  have ai:f.length<=64:=by rw[<-E.o];have:=Mf c z (Ac c c.length) c.length;omega
  have ae:Hid (∀i,i<f.length->0<=f.getD i 0/\f.getD i 0<=4294967295):=λ i r=>by
   have hx:f.getD i 0∈Ax c z (Ac c c.length) c.length:=by rw[E.o,AP,z9 r];exact zt0 r
   have:=PU (by omega) T U a1 c.length _ hx;omega
  have J:Hid (R=(0,FL f z)):=by show R=_;rw[<-O.o];unfold C4;rw[if_neg a5];simp only[Int.toNat_natCast];rw[af.o,E.o]
  have ab:=z6 T;obtain⟨cb,co,cc,hv,a2⟩:∃b o cap,v=.slice (some ⟨b,o,none⟩) c.length cap/\∀i,i<c.length->w.cell? ⟨b,o+i,none⟩=some (.int .i64 (c.getD i 0)):=by
   obtain⟨a,cap,e,_,_,_,h⟩:=L.o;rcases h with h|⟨b,o,rfl,hc⟩
   .rw[h]at B;simp[A7]at B
   .exact⟨b,o,cap,e,hc⟩
  subst hv;have ac:=z6 a2;clear hm a5 A B g6 a1 ag U T a2 a8
  go_enter func198,ntmps198
  go_wp2_with fail;refine(UC _ c X w L.o).mono ?_;rintro e w1 ⟨rfl,rfl⟩;rw[K.o];go_wp2_with fail;refine(AEM cb co cc c z w1 g3 aa ad.o ab.o ac.o).mono ?_;rintro e w2 ⟨v2,rfl,I,a4⟩;rw[E.o]at I;obtain⟨pg,pc,aj,_,_,_,_,_⟩:=I.shape a7;subst aj;have O2:=z6 I;obtain⟨b2,f2⟩:=a4.below;have Y:=z6 b2;have Z:=z6 (f2 pg rfl);clear I a4 b2 f2;obtain⟨pl,ak⟩:=exH f.length;have a3:=Z7 pg pc f z w2 O2.o a7 ai aa ae.o;have a0:=z6 a3;clear a3;go_wp2_with fail;refine a0.o.mono ?_;rintro e w3 ⟨⟨v3,rfl⟩,a6,a9⟩;have O3:=z6 a6;have B3:=z6 (Y.o.trans (a9.below Y.o.size (λ k e=>by rw[e];exact Z.o)));clear a6 a9 a0;go_wp2_with fail;go_ret2;rw[J.o];exact⟨_,rfl,B3.o,λ k hk=>by cases hk;exact Z.o,O3.o⟩
def KO(xs:List Int)(f i v)(q:f<xs.length):(xs.set f v).getD i 0=if i=f then v else xs.getD i 0:=by grind
def AAj{xs:List Int}{i}(h:xs.length<=i):xs.getD i 0=0:=by grind
def Lq(xs:List Int)(f:Nat)(v:Int)(q:f<xs.length):∀k,Ac (xs.set f v) k=Ac xs k+if f<k then v-xs.getD f 0 else 0
 | 0=>by simp[Ac]
 | k+1=>by
  simp only[Ac];rw[Lq xs f v q k,KO _ _ _ _ q]
  grind
def SD(xs:List Int)(h:∀i,xs.getD i 0<=1):∀k,Ac xs k<=(A7 xs k:Int)
 | 0=>by simp[Ac,A7]
 | k+1=>by
  have:=SD xs h k;have:=h k;simp only[Ac,A7]
  grind
def Lz(n xs):(dn n xs).length=xs.length:=by
 induction n generalizing xs with
 | zero=>rfl
 | succ n f=>simp only[dn];grind
def AHw(n xs):(up n xs).length=xs.length:=by
 induction n generalizing xs with
 | zero=>rfl
 | succ n f=>simp only[up];grind
def L8(xs z):(FL xs z).length=xs.length:=by unfold FL;rw[AHw,Lz]
def Zn(n):∀xs,0<xs.length->Ac (dn n xs) xs.length=Ac xs xs.length-n:=by
 induction n with
 | zero=>intro xs h;simp[dn]
 | succ n q=>intro xs h;have f:=Ip xs xs.length h;have:=q (xs.set (Bh xs xs.length) (xs.getD (Bh xs xs.length) 0-1)) (by grind);rw[zo0]at this;simp only[dn];rw[this,Lq _ _ _ f,if_pos f];omega
def AHy(n):∀xs,0<xs.length->Ac (up n xs) xs.length=Ac xs xs.length+n:=by
 induction n with
 | zero=>intro xs h;simp[up]
 | succ n q=>intro xs h;have f:=Ip xs xs.length h;have:=q (xs.set (Bh xs xs.length) (xs.getD (Bh xs xs.length) 0+1)) (by grind);rw[zo0]at this;simp only[up];rw[this,Lq _ _ _ f,if_pos f];omega
def Z6(xs z)(h:0<xs.length):Ac (FL xs z) xs.length=z:=by unfold FL;have f:=AHy (z-Ac xs xs.length).toNat (dn (Ac xs xs.length-z).toNat xs) (by rw[Lz];exact h);rw[Lz,Zn _ _ h]at f;omega
def Vj(xs:List Int)(f:Nat)(v:Int)(q:f<xs.length)(hv:0<v)(r:0<xs.getD f 0):∀k,A7 (xs.set f v) k=A7 xs k
 | 0=>rfl
 | k+1=>by
  simp only[A7];rw[Vj xs f v q hv r k,KO _ _ _ _ q]
  grind
def Zm(n:Nat)(z:Int):∀xs:List Int,0<xs.length->(∀i,0<=xs.getD i 0)->(A7 xs xs.length:Int)<=z->z+n<=Ac xs xs.length->∀i,0<=(dn n xs).getD i 0/\(0<(dn n xs).getD i 0↔0<xs.getD i 0):=by
 induction n with
 | zero=>intro xs _ h _ _ i;exact⟨h i,Iff.rfl⟩
 | succ n K=>
  intro xs I h J L i;have q:=Ip xs xs.length I;have B:2<=xs.getD (Bh xs xs.length) 0:=by
   rcases Int.lt_or_le (xs.getD (Bh xs xs.length) 0) 2 with e|e
   .have:=SD xs (λ j=>by
     by_cases E:j<xs.length;have:=OY xs xs.length j E;omega
     grind) xs.length
    omega
   .exact e
  obtain⟨f,r⟩:=exN (Bh xs xs.length);rw[r]at q B;simp only[dn];rw[r];have A:=K (xs.set f (xs.getD f 0-1)) (by grind) (λ j=>by rw[KO _ _ _ _ q];grind) (by rw[zo0,Vj _ _ _ q (by omega) (by omega)];exact J) (by rw[zo0,Lq _ _ _ q,if_pos q];omega) i;refine⟨A.1,A.2.trans ?_⟩;rw[KO _ _ _ _ q];by_cases e:i=f
  .grind
  omega
def AHx(n:Nat):∀xs:List Int,0<xs.length->(∀i,0<=xs.getD i 0)->(∃i,0<xs.getD i 0)->∀i,0<=(up n xs).getD i 0/\(0<(up n xs).getD i 0↔0<xs.getD i 0):=by
 induction n with
 | zero=>intro xs _ h _ i;exact⟨h i,Iff.rfl⟩
 | succ n J=>
  intro xs I h A i;have q:=Ip xs xs.length I;have B:0<xs.getD (Bh xs xs.length) 0:=by (obtain⟨j,L⟩:=A;have E:j<xs.length:=by grind);have:=OY xs xs.length j E;omega
  obtain⟨f,r⟩:=exN (Bh xs xs.length);rw[r]at q B;simp only[up];rw[r];have K:=J (xs.set f (xs.getD f 0+1)) (by grind) (λ j=>by rw[KO _ _ _ _ q];grind) ⟨f,by grind⟩ i
  grind
def pt(c:List Int)(z all:Int)(i:Nat):Int:=if c.getD i 0=0 then 0 else max 1 (c.getD i 0*z / all)
def Ug(c:List Int)(z f:Int):∀k,(∀i,i<(Ax c z f k).length->(Ax c z f k).getD i 0=pt c z f i)/\(∀i,(Ax c z f k).length<=i->i<k->c.getD i 0=0)/\(0<(Ax c z f k).length->c.getD ((Ax c z f k).length-1) 0≠0)
 | 0=>by simp[Ax]
 | k+1=>by
  obtain⟨B,r,E⟩:=Ug c z f k;have J:=Mf c z f k;simp only[Ax];by_cases e:c.getD k 0=0
  .grind
  .rw[if_neg e];obtain⟨P,I⟩:=exN (Ax c z f k);rw[I]at B r E J |-
   (have L:(P++List.replicate (k-P.length) 0++[max 1 (c.getD k 0*z / f)]).length=k+1:=by simp;omega);refine⟨λ i A=>?_,λ i A O=>by omega,λ _=>by grind⟩;rw[L]at A;(have K:(P++List.replicate (k-P.length) (0:Int)).length=k:=by simp;omega);rw[Ge,K];by_cases q:i<k
   .rw[if_pos q,Ge];by_cases c3:i<P.length
    .grind
    .rw[if_neg c3];have:=r i (by omega) q;unfold pt
     grind
   .rw[if_neg q];(obtain rfl:i=k:=by omega);unfold pt
    grind
structure Ii(c:List Int)(z all:Int)(ps:List Int):Prop where
 z1:1<=z
 z2:z<=512
 a0:0<all
 tot:Ac c c.length=all
 each:∀i,0<=c.getD i 0
 some_:0<A7 c c.length
 half:2*(A7 c c.length:Int)<=z
 len:ps.length<=c.length
 len0:0<ps.length
 at_:∀i,ps.getD i 0=pt c z all i
 last:c.getD (ps.length-1) 0≠0
def Ii.pos{c ps z f}(h:Ii c z f ps)(i):0<=ps.getD i 0/\(0<ps.getD i 0↔0<c.getD i 0):=by have:=h.each i;rw[h.at_];unfold pt;omega
def Vg{a b:List Int}:∀k,(∀i,i<k->(0<a.getD i 0↔0<b.getD i 0))->A7 a k=A7 b k
 | 0,_=>rfl
 | k+1,h=>by
  simp only[A7];rw[Vg k (λ i f=>h i (by omega))]
  grind
def Vi(a){j k}(h:j<=k):A7 a j<=A7 a k:=by
 induction k with
 | zero=>grind
 | succ k f=>
  by_cases e:j=k+1
  .grind
  .have:=f (by omega);simp only[A7];omega
def Ii.fil_pos{c ps z r}(h:Ii c z r ps)(i):0<=(FL ps z).getD i 0/\(0<(FL ps z).getD i 0↔0<c.getD i 0):=by
 unfold FL;have A:(A7 ps ps.length:Int)<=z:=by have B:A7 ps ps.length=A7 c ps.length:=Vg _ λ i _=>(h.pos i).2;have E:=Vi c h.len;have I:=h.half;omega
 have f:∀i,0<=(dn (Ac ps ps.length-z).toNat ps).getD i 0/\(0<(dn (Ac ps ps.length-z).toNat ps).getD i 0↔0<ps.getD i 0):=by by_cases e:z<=Ac ps ps.length;exact Zm _ z ps h.len0 (λ i=>(h.pos i).1) A (by omega);rw[show(Ac ps ps.length-z).toNat=0 by omega];intro i;exact⟨(h.pos i).1,Iff.rfl⟩
 have q:=AHx (z-Ac ps ps.length).toNat _ (by rw[Lz];exact h.len0) (λ i=>(f i).1) ⟨ps.length-1,by
  rw[(f _).2,(h.pos _).2];have:=h.last;have:=h.each (ps.length-1);omega⟩ i
 exact⟨q.1,q.2.trans ((f i).2.trans (h.pos i).2)⟩
def Ii.of{c f}(U:DK c f=true):∃lg:Nat,f=lg/\5<=lg/\lg<=9/\c.length<=64/\C4 c f=(0,FL (Ax c (2 ^ lg) (Ac c c.length) c.length) (2 ^ lg))/\Ii c (2 ^ lg) (Ac c c.length) (Ax c (2 ^ lg) (Ac c c.length) c.length):=by
 have r:=U;unfold DK at r;rw[zg1]at r;obtain⟨g1,Z,B,E,q,I⟩:=r;obtain⟨lg,rfl⟩:=Int.eq_ofNat_of_zero_le (show 0<=f by omega);obtain⟨z,X,a2,a3,a1,W⟩:=Jd (lg:=lg) (by omega) (by omega);refine⟨lg,rfl,by omega,by omega,B,by unfold C4;grind,?_⟩;rw[W];rw[Int.toNat_natCast,X.o]at I;have K:∀i,0<=c.getD i 0:=λ i=>by grind
 obtain⟨j,O,a0⟩:=QM c c.length q;have J:0<Ac c c.length:=by have:=OE (λ j L=>(E j L).1) O;omega
 obtain⟨s1,s2,Y⟩:=Ug c z (Ac c c.length) c.length;have T:=Mf c z (Ac c c.length) c.length;have A:=PV c z (Ac c c.length) c.length q;refine⟨by omega,by omega,J,rfl,K,q,by omega,T,A,λ i=>?_,Y A⟩;by_cases h1:i<(Ax c z (Ac c c.length) c.length).length
 .grind
 .rw[AAj (by omega)];unfold pt
  grind
def AFz{c q}(B:DK c q=true):∃s,C4 c q=(0,s)/\A0 s q=true/\s.length<=c.length/\∀i,0<s.getD i 0↔0<c.getD i 0:=by obtain⟨r,rfl,K,L,O,A,f⟩:=Ii.of B;refine⟨_,A,?_,by rw[L8];exact f.len,λ i=>(f.fil_pos i).2⟩;unfold A0;rw[zg1];have T:=f.len;refine⟨by omega,by omega,by rw[L8];omega,λ i _=>(f.fil_pos i).1,?_,?_⟩;rw[L8,Int.toNat_natCast];exact Z6 _ _ f.len0;rw[L8];have E:=(f.fil_pos ((Ax c (2 ^ r) (Ac c c.length) c.length).length-1)).2;have I:=f.each ((Ax c (2 ^ r) (Ac c c.length) c.length).length-1);have J:=f.last;omega
