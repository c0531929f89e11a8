import Derived.Test.YtihofcopapmjlaaGreatPHCodes
import Derived.Test.YtihofcopapmjlaaGreatPFGetP
import Derived.Deep.RegionHeld3
set_option maxRecDepth 100000
set_option linter.all false
set_option maxHeartbeats 8000000
namespace Go.Proofs.YtihofcopapmjlaaGreat
open Go.Proofs.Tryz
open Go.RowKit Pl
def cb(ls:List Int)(c:Nat):List Int:=Db (cd ls c).2 (cd ls c).1.toNat
def enc(ls:List Int):List Int->List Int
 | []=>[]
 | x::r=>cb ls x.toNat++enc ls r
def OQ(ls xs ys):enc ls (xs++ys)=enc ls xs++enc ls ys:=by
 induction xs with
 | nil=>rfl
 | cons x r f=>simp[enc,f]
def RZ(ls c):(cb ls c).length=(cd ls c).1.toNat:=by simp[cb,Db]
section
variable {P:Program}
def AIV(w:World){r A q a Q}(I:q.guard=none)(ty x y)(L:q.op=.store ty x y)(c f)(U:a.eval x=.pointer (some ⟨w.heap.size,0,none⟩))(W:a.eval y=.agg f)(J:(P.info? ty).map (·.size)=some f.size)(T:c.size=f.size)(B:f.all (·.oneCell')=true)(h:wpList P r Q A (a.put q.dst undef) (w.alloc (.cells f ty))):wpList P r Q (q::A) a (w.alloc (.cells c ty)):=by
 refine wpList_plain I λ K E=>?_;have O:=run_storeAt_new (P:=P) w ty c f J T B;unfold Oper.wp execOp;simp only[L,U,W,Sem.run_bind,Sem.run_pure,Result.andThen_ok,O];exact E _ _ h
end
structure En(w W:World)(g b:Nat)(rv:Value)(ps:List (Int×Int))(bs:List Int):Prop where
 wr:Wr W b rv bs
 cv:Cv W g ps
 bel:Below w.heap.size w W
 bn:w.heap.size<=b
 rn:∀k,rv.ownBlock=some k->w.heap.size<=k
def En.blw{w W W' g b q ps bs}(h:En w W g b q ps bs)(f:Below W.heap.size W W'):En w W' g b q ps bs:=
 ⟨h.wr.tch (S:=λ _=>False) (AD.of_below f) (λ e=>e) (λ _ _ e=>e),h.cv.below f,h.bel.trans (f.mono h.bel.size),h.bn,h.rn⟩
def En.blw2{w f W W' g b q ps bs}(h:En w f g b q ps bs)(r:Below W.heap.size W W')(A:Below f.heap.size f W):En w W' g b q ps bs:=
 (h.blw A).blw r
def En.put{w W W' g b A B ps bs xs}(h:En w W g b A ps bs)(f:EE W b A W' B xs):En w W' g b B ps xs:=by
 refine⟨f.wr,h.cv.tch f.tch ?_,h.bel.trans (f.tch.below h.bel.size (λ k r=>?_)),h.bn,λ k r=>?_⟩
 .rintro(e|e)
  .have q:=h.cv.blk;have E:=h.wr.blk
   grind
  .obtain⟨c1,q⟩:=JJ h.wr.own e;rw[h.cv.blk]at q;simp at q
 .rcases r with e|e;rw[e];exact h.bn;exact h.rn k e
 .rcases f.fresh k r with e|e;exact h.rn k e;have:=h.bel.size;omega
def Ju(ls ds:List Int)(w:World)(e:Ending)(w':World):Prop:=
 ∃rv E,e=.returned (.tuple #[rv,.int .i64 E])/\Below w.heap.size w w'/\(∀k,rv.ownBlock=some k->w.heap.size<=k)/\
  ((E=4/\rv=.slice none 0 0/\(BE ls=false\/∃i,i<ds.length/\ls.getD (ds.getD i 0).toNat 0<=0))\/
   (E=0/\BE ls=true/\(∀i,i<ds.length->0<ls.getD (ds.getD i 0).toNat 0)/\AF .u8 5 w' rv (AJ (enc ls ds))))
def Ju.bad{ls f w w'}(q:Below w.heap.size w w')(h:BE ls=false\/∃i,i<f.length/\ls.getD (f.getD i 0).toNat 0<=0):Ju ls f w (.returned (.tuple #[.slice none 0 0,.int .i64 4])) w':=
 ⟨_,4,rfl,q,(λ k e=>by cases e),.inl ⟨rfl,rfl,h⟩⟩
def SM(ls f:List Int)(k)(h:k<f.length):enc ls (f.take (k+1))=enc ls (f.take k)++cb ls (f.getD k 0).toNat:=by rw[take_snoc' f k h,OQ];simp[enc]
def KG{ls}(q:Bg ls)(f):(enc ls f).length<=11*f.length:=by
 induction f with
 | nil=>simp[enc]
 | cons x r B=>
  simp only[enc,zc0,zh0,RZ];have:(cd ls x.toNat).1.toNat<=11:=by
   unfold cd;split
   .by_cases A:x.toNat<ls.length;have:=(q.each _ A).2;omega
    grind
   .simp
  omega
def Bg.code{ls}(r:Bg ls){c}(hc:0<ls.getD c 0):∃s v:Nat,1<=s/\s<=11/\v<2 ^ s/\cd ls c=((s:Int),(v:Int))/\cb ls c=Db v s/\ls.getD c 0=(s:Int)/\v=nx ls (s-1) c/\c<ls.length:=by
 have f:c<ls.length:=by grind
 obtain⟨s,A⟩:=Int.eq_ofNat_of_zero_le (Int.le_of_lt hc);have B:=(r.each c f).2;have e:cd ls c=((s:Int),((nx ls (s-1) c:Nat):Int)):=by unfold cd;grind
 have q:=r.fits (s:=s-1) (b:=c) (by omega) f (by omega);rw[show s-1+1=s by omega]at q;refine⟨s,nx ls (s-1) c,by omega,by omega,q,e,?_,A,rfl,f⟩;unfold cb
 grind
def Zt(T dv ls f w)(hr:Rd .i64 w T ls)(hd:Rd .u8 w dv f)(hy:By f)(hl:f.length<=8796093022208):
 Calls prog 193 #[T,dv] w λ e w'=>Ju ls f w e w':=by
 have HR:=z6 hr;have HY:=z6 hy;obtain⟨a,cap,rfl,bc,b7,_,ae⟩:=hd;have HC:=z6 ae;obtain⟨al,af⟩:=zero_of_info Sy;have aq:=z6 af;obtain⟨Z,hZ⟩:=exH (Ck (List.replicate 256 (0,0)));rw[hZ.o]at al;have aw:Hid (Z.size=512):=by show _=_;rw[<-hZ.o,Li,zm0]
 clear hr hy ae af;cases hm:BE ls with
 | false=>
  have J:=z6 hm;clear hm
  go_enter func193,ntmps193
  go_wp2_with fail;refine(IJ T ls w HR.o).mono ?_;rintro e r ⟨rfl,rfl⟩;rw[J.o];go_wp2_with fail;go_ret2;exact Ju.bad (Below.refl _ _) (.inl J.o)
 | true=>
  have J:=z6 hm;have HK:=z6 (Bg.of hm);clear hm
  go_enter func193,ntmps193
  go_wp2_with fail;refine(IJ T ls w HR.o).mono ?_;rintro e r ⟨rfl,rfl⟩;rw[J.o];go_wp2_with fail;refine(Rp T ls r HR.o HK.o).mono ?_;rintro e A ⟨rfl,ad⟩;obtain⟨B,a0⟩:=exH (Ck (CK ls));rw[a0.o];have a2:=z6 ad;have aa:Hid (B.size=512):=by show _=_;rw[<-a0.o,Li,J7]
  have ar:Hid (B.all (·.oneCell')=true):=by show _=_;rw[<-a0.o];exact Ra _
  clear ad;go_wp2_with(refine AIV A rfl 313 (.tmp 6) (.tmp 14) rfl Z B rfl rfl (by rw[aa.o];exact aq.o) (by rw[aa.o,aw.o]) ar.o ?_)
  have a8:Hid (Cv (A.alloc (.cells B 313)) A.heap.size (CK ls)):=⟨by rw[a0.o];exact heap_alloc_new A _,J7 ls⟩
  have U:Hid (Below r.heap.size r (A.alloc (.cells B 313))):=a2.o.alloc a2.o.size _;refine(MZ _).mono ?_;rintro e w4 ⟨rfl,a7,L⟩;obtain⟨g,hg⟩:=exN A.heap.size;obtain⟨b,I⟩:=exN ((A.alloc (.cells B 313)).heap.size);have E4:Hid (En r w4 g b (.slice none 0 0) (CK ls) (enc ls (f.take 0))):=by rw[I]at a7 L;refine⟨by simpa[enc]using a7,?_,U.o.trans ?_,?_,(λ k e=>by cases e)⟩;rw[<-hg];refine a8.o.below ?_;rw[I];exact L;rw[<-I]at L;exact L.mono U.o.size;rw[<-I];exact U.o.size
  rw[I,hg];clear a7 L I hg a8 a2 U al;go_wp2_with fail
  go_loopw [18] (λ i wr=>∃(k:Nat)(rv:Value),k<=f.length/\i=.int .i64 k/\Hid (En r wr g b rv (CK ls) (enc ls (f.take k)))/\Hid (∀i,i<k->0<ls.getD (f.getD i 0).toNat 0)) (λ i _=>f.length-(intOf i).toNat)
  case atStart=>exact⟨0,_,AI _,rfl,E4,λ i hi=>by omega⟩
  case round=>
   obtain⟨k,rv,hk,rfl,q,HA⟩:=hrel;clear E4;by_cases a1:k<f.length
   .obtain⟨ab,ao,ha,hc⟩:∃b o,a=some ⟨b,o,none⟩/\∀i,i<f.length->r.cell? ⟨b,o+i,none⟩=some (.int .u8 (f.getD i 0)):=by rcases HC.o with rfl|h;simp at a1;exact h
    (subst ha;have am:=HY.o k;obtain⟨c,hx⟩:=Int.eq_ofNat_of_zero_le am.1;(have a5:c<256:=by omega);have HX:=z6 hx;have cx:wr.cell? ⟨ab,ao+k,none⟩=some (.int .u8 (c:Int)):=by have h0:=hc k a1;rw[q.o.bel.cell (p:=⟨ab,ao+k,none⟩) (zb0 r ⟨ab,ao+k,none⟩ h0),h0,HX.o]);obtain⟨K,c1,_,_⟩:=q.o.cv.at2 c a5;have b8:=q.o.cv.lt;clear hc am hx;(have e0:(CK ls).getD c (0,0)=cd ls c:=by unfold CK;exact GB _ _ c a5);rw[e0]at K c1;by_cases O:0<ls.getD c 0
    .obtain⟨s,v,be,ag,hv,E,ac,b3,b4,b5⟩:=HK.o.code O;clear b3 b4 b5;rw[E]at K c1;simp only at K c1;have a9:Hid (∀W':World,Cv W' g (CK ls)->W'.cell? ⟨g,c*2,none⟩=some (.int .i64 (s:Int))/\W'.cell? ⟨g,c*2+1,none⟩=some (.int .i64 (v:Int))):=λ W' ax=>by obtain⟨d0,d1,_,_⟩:=ax.at2 c a5;rw[e0,E]at d0 d1;exact⟨d0,d1⟩
     (have bd:((s:Int)==0)=false:=by rw[zi0];omega);have HV:=z6 hv;have au:=z6 ag;obtain⟨_,_,ai,aj,a6⟩:=WV s v ag hv;have HT:Hid (0<=FU s v/\FU s v<2 ^ s/\Aa (FU s v) s=Db v s):=⟨ai,aj,a6⟩
     (have a3:Hid ((enc ls (f.take k)).length<=1125899906841900):=by have:=KG HK.o (f.take k);rw[zd0]at this;show _<=_;omega);(have a4:Hid (enc ls (f.take (k+1))=enc ls (f.take k)++Aa (FU s v) s):=by show _=_;rw[SM ls f k a1,HX.o,Int.toNat_natCast,ac,a6]);have an:Hid (∀i,i<k+1->0<ls.getD (f.getD i 0).toNat 0):=λ i hi=>by
      by_cases e:i<k;exact HA.o i e
      .have:i=k:=by omega
       subst this;rw[HX.o,Int.toNat_natCast];exact O
     obtain⟨tv,ak⟩:=exH (FU s v);rw[ak.o]at HT a4;(have TC:∀W:World,Calls prog 222 #[.agg #[.int .i64 s,.int .i64 v]] W λ e w'=>e=.returned (.int .i64 tv)/\Below W.heap.size W w':=λ W=>by rw[<-ak.o];exact AHk s v W au.o HV.o);have av:=z6 TC;clear ai aj a6 hv E ac e0 O TC HA;go_wp2_with fail;(have b9:(0:Int)<=(c:Int):=by omega);(have ba:(c:Int)<256:=by omega);have bb:(c:Int)<=255:=by omega
     go_region_held3 (λ w'=>w'.cell? ⟨g,c*2,none⟩=some (.int .i64 s)/\w'.cell? ⟨g,c*2+1,none⟩=some (.int .i64 v)) (go_keep)
      (first
       | (go_at_call 222;refine(av.o _).mono ?_;rintro e w5 ⟨rfl,ay⟩;have E6:=q.o.blw2 ay (by repeat(first|exact Below.refl _ _|apply Below.drew));have X:=z6 E6;clear E6;obtain⟨d0,d1⟩:=a9.o _ X.o.cv)
       | (go_at_call 203;refine(IQ b rv s tv _ _ (X.o.blw (by repeat(first|exact Below.refl _ _|apply Below.drew))).wr a3.o (by omega) HT.o.1 HT.o.2.1).mono ?_;rintro e w7 ⟨rfl,b6,h7⟩;have E7:=(X.o.blw (by repeat(first|exact Below.refl _ _|apply Below.drew))).put h7;have Y:=z6 E7;clear E7 h7;obtain⟨d2,d3⟩:=a9.o _ Y.o.cv))
     rw[<-a4.o]at Y;clear X a4 K c1 d0 d1 d2 d3 cx;go_wp2_with fail
     go_roundw
     (case rel=>exact⟨k+1,b6,by omega,by go_num,by first|exact Y|exact Y.o.blw (by repeat(first|exact Below.refl _ _|apply Below.drew)),an⟩);case measure=>simp[intOf];omega
    .have HB:Hid (BE ls=false\/∃i,i<f.length/\ls.getD (f.getD i 0).toNat 0<=0):=.inr ⟨k,a1,by rw[HX.o,Int.toNat_natCast];omega⟩;have ap:=z6 q.o.bel;(have E:cd ls c=(0,0):=by unfold cd;rw[if_neg O]);rw[E]at K c1;clear q e0 E O;go_wp2_with fail;go_ret2;exact Ju.bad ap.o HB.o
   .obtain rfl:k=f.length:=by omega
    (rw[List.take_length]at q;have a3:Hid ((enc ls f).length<=1125899906842000):=by have:=KG HK.o f;show _<=_;omega);go_wp2_with fail;refine(Nr b rv (enc ls f) wr q.o.wr a3.o).mono ?_;rintro e w6 ⟨v6,rfl,b2,az,b0⟩;go_wp2_with fail;go_ret2;exact⟨v6,0,rfl,q.o.bel.trans (az.mono q.o.bel.size),λ k hk=>Aw q.o.bel.size (b0 k hk),.inr ⟨rfl,J.o,HA.o,b2⟩⟩
