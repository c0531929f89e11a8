import Derived.Test.YtihofcopapmjlaaGreatPHTurn
import Derived.Deep.WholeRow
import Derived.Deep.MidRow
set_option maxRecDepth 100000
set_option linter.all false
set_option maxHeartbeats 8000000
namespace Go.Proofs.YtihofcopapmjlaaGreat
open Go.Proofs.Tryz
open Go.RowKit Pl
def Ck(ps:List (Int×Int)):Array Value:=(BR ps).toArray
def Li(ps):(Ck ps).size=ps.length*2:=by simp[Ck,Kg]
def Ra(ps):(Ck ps).all (·.oneCell')=true:=by refine all_oneCell_toArray (λ v hv=>?_);simp only[BR,List.mem_flatMap]at hv;obtain⟨p,_,f⟩:=hv;simp at f;rcases f with rfl|rfl<;>rfl
theorem Sy:(prog.info? 313).map (λ i=>(i.zero,i.size))=some (some (.agg (Ck (List.replicate 256 (0,0)))),512):=by kernel_rfl
structure Cv(w:World)(g:Nat)(ps:List (Int×Int)):Prop where
 blk:w.heap[g]?=some (.cells (Ck ps) 313 (0,0))
 len:ps.length=256
def Cv.at2{w g ps}(h:Cv w g ps)(b)(f:b<256):w.cell? ⟨g,b*2,none⟩=some (.int .i64 (ps.getD b (0,0)).1)/\w.cell? ⟨g,b*2+1,none⟩=some (.int .i64 (ps.getD b (0,0)).2)/\w.frozen? ⟨g,b*2,none⟩=false/\w.frozen? ⟨g,b*2+1,none⟩=false:=by have:=Me ps b (by rw[h.len];exact f);refine⟨?_,?_,frozen_of_row w g _ _ _ h.blk,frozen_of_row w g _ _ _ h.blk⟩;rw[cell_of_row w g (b*2) _ _ (0,0) h.blk];simpa[Ck]using this.1;rw[cell_of_row w g (b*2+1) _ _ (0,0) h.blk];simpa[Ck]using this.2
def Cv.lt{w g ps}(h:Cv w g ps):g<w.heap.size:=(za0.1 h.blk).1
def Cv.tch{S w w' g ps}(h:Cv w g ps)(q:AD S w w')(f:¬S g):Cv w' g ps:=⟨by rw[q.block g h.lt f];exact h.blk,h.len⟩
def Cv.below{w w' g ps}(h:Cv w g ps)(f:Below w.heap.size w w'):Cv w' g ps:=h.tch (S:=λ _=>False) (AD.of_below f) (λ e=>e)
def Cv.set{w g ps}(h:Cv w g ps)(b)(r:b<256)(p):Cv ((w.setCell ⟨g,b*2,none⟩ (.int .i64 p.1)).setCell ⟨g,b*2+1,none⟩ (.int .i64 p.2)) g (ps.set b p):=by
 refine⟨?_,by rw[zo0];exact h.len⟩;have f:=heap_setCell_same w g (b*2) _ _ (.int .i64 p.1) h.blk;have q:=heap_setCell_same _ g (b*2+1) _ _ (.int .i64 p.2) f;rw[q];have A:=Kg ps;have e:=Ub ps b p (by rw[h.len];exact r);unfold Ck
 grind
def Cv.range{w g ps}(h:Cv w g ps):w.rangeAt g 0 (BR ps):=λ j v hv=>by rw[Nat.zero_add,cell_of_row w g j _ _ (0,0) h.blk];simpa[Ck]using hv
def AHd{w:World}{b C t n}(h:w.heap[b]?=some (.cells C t (0,0)))(q:C.size=n):w.there b 0 n:=λ j f=>by
 rw[Nat.zero_add];refine⟨?_,frozen_of_row w b j _ _ h⟩;rw[cell_of_row w b j _ _ (0,0) h]
 grind
def AEz{f}{p:Tmp}{ty}(h:f.results=#[.cell p ty])(q P w):
 (results f q).run P w=((asAddr (q.getD p undef)).run P w).andThen λ a r=>(loadVar ty a).run P r:=by
 simp only[results,h];simp
def VL(b:Nat):∀(vs:List Value)(o:Nat)(w:World),AD (λ k=>k=b) w (w.setCells b o vs)
 | [],_,w=>AD.refl _ w
 | v::r,o,w=>by have f:AD (λ k=>k=b) w (w.setCell ⟨b,o,none⟩ v):=AD.setCell (AD.refl (λ k=>k=b) w) (p:=⟨b,o,none⟩) (λ _=>rfl) v;have q:=VL b r (o+1) (w.setCell ⟨b,o,none⟩ v);exact f.trans q (λ _ _ e=>e)
def Rp(v ls w)(hr:Rd .i64 w v ls)(hk:Bg ls):
 Calls prog 221 #[v] w λ e w'=>e=.returned (.agg (Ck (CK ls)))/\Below w.heap.size w w':=by
 obtain⟨a,cap,rfl,ak,aj,_,a3⟩:=hr;have HC:=z6 a3;have U:=z6 hk;have aa:=hk.most;obtain⟨a7,a4⟩:=zero_of_info Sy;have O:=z6 a4;clear a3 a4 hk;obtain⟨Z,hZ⟩:=exH (Ck (List.replicate 256 (0,0)));rw[hZ.o]at a7
 go_enter func221,ntmps221
 go_wp2_with fail;obtain⟨g,hg⟩:=exN (w.heap.size+1);have C0:Hid (Cv ((w.alloc (.cells Z 313)).alloc (.cells Z 313)) g (Bw ls 1 0)):=by refine⟨?_,by rw[H8]⟩;rw[Yf,hZ.o,<-hg];have:=heap_alloc_new (w.alloc (.cells Z 313)) (.cells Z 313);simpa using this
 have A:Hid (Below w.heap.size w ((w.alloc (.cells Z 313)).alloc (.cells Z 313))):=((Below.refl _ _).alloc (AE _) _).alloc (by simp) _;have R0:Hid (((w.alloc (.cells Z 313)).alloc (.cells Z 313)).heap[w.heap.size]?=some (.cells Z 313 (0,0))):=by show _=_;rw[Below.heap_alloc _ _ _ (by simp)];exact heap_alloc_new w _
 have a9:Hid (Z.size=512):=by show _=_;rw[<-hZ.o,Li,zm0]
 obtain⟨W0,ab⟩:=exH ((w.alloc (.cells Z 313)).alloc (.cells Z 313));rw[ab.o]at C0 A R0 |-
 clear a7;rw[hg]
 go_loopw [4,5] (λ x z wr=>∃s:Nat,s<=11/\x=.int .i64 (CA ls s)/\z=.int .i64 ((s:Int)+1)/\Hid (Cv wr g (Bw ls (s+1) 0))/\Hid (AD (λ k=>k=g) W0 wr)) (λ _ z _=>13-(intOf z).toNat)
 case atStart=>exact⟨0,by omega,rfl,rfl,C0,AD.refl _ _⟩
 case round=>
  obtain⟨s,hs,rfl,rfl,CV,T⟩:=hrel;have ae:=(U.o.nxE_le hs).2;have af:=Bg.pow hs;have al:CA ls s<=2048:=by omega
  clear ae af;by_cases ag:s<11
  .have ai:(s:Int)+1<=11:=by omega
   (have e2:wrap64 ((CA ls s:Int)*2 ^ 1)=((2*CA ls s:Nat):Int):=by rw[IntWalk.wrap64_in _ ⟨by omega,by omega⟩];omega);(have e3:wrap64 ((CA ls s:Int)*2)=((2*CA ls s:Nat):Int):=by rw[IntWalk.wrap64_in _ ⟨by omega,by omega⟩];omega);go_wp2_with fail
   go_loopw [4,16] (λ x i wr=>∃b:Nat,b<=ls.length/\i=.int .i64 b/\x=.int .i64 (nx ls s b)/\Hid (Cv wr g (Bw ls (s+1) b))/\Hid (AD (λ k=>k=g) W0 wr)) (λ _ i _=>ls.length-(intOf i).toNat)
   (case atStart=>exact⟨0,AI _,rfl,by simp[nx,cnt];omega,CV,T⟩);case round=>
    obtain⟨b,hb,rfl,rfl,f,E⟩:=hrel;by_cases a5:b<ls.length
    .obtain⟨K,L,ha,hc⟩:∃b o,a=some ⟨b,o,none⟩/\∀i,i<ls.length->w.cell? ⟨b,o+i,none⟩=some (.int .i64 (ls.getD i 0)):=by rcases HC.o with rfl|h;simp at a5;exact h
     (subst ha;obtain⟨x,hx⟩:=exH (ls.getD b 0);have cx:wr.cell? ⟨K,L+b,none⟩=some (.int .i64 x):=by have h0:=hc b a5;have a0:=zb0 w ⟨K,L+b,none⟩ h0;have r:=A.o.cell (p:=⟨K,L+b,none⟩) a0;rw[E.o.cell (p:=⟨K,L+b,none⟩) (by have:=A.o.size;simp only at a0 |-;omega) (λ e=>by simp only at a0 e;omega),r,h0,hx.o]);(clear hc;have a6:nx ls s b<=4096:=by have r:=(U.o.nxE_le (show s+1<=11 by omega)).2;have h2:=Bg.pow (show s+1<=11 by omega);have h3:=Rj ls (s+1) hb;simp only[CA]at r;simp only[nx];omega);by_cases J:x=(s:Int)+1
     .have ac:(x==(s:Int)+1)=true:=by simp[J]
      (have HE:Hid (ls.getD b 0=((s+1:Nat):Int)):=by show _=_;rw[hx.o,J];omega);(have q:Hid (nx ls s (b+1)=nx ls s b+1):=by show 2*CA ls s+cnt ls (s+1) (b+1)=_;simp only[cnt];rw[if_pos HE.o];simp only[nx];omega);obtain⟨c0,c1,f0,f1⟩:=f.o.at2 b (by omega);obtain⟨X,I⟩:=exH (nx ls s b);have B:Hid (Cv ((wr.setCell ⟨g,b*2,none⟩ (.int .i64 ((s:Int)+1))).setCell ⟨g,b*2+1,none⟩ (.int .i64 (X:Int))) g (Bw ls (s+1) (b+1))):=by show Cv _ _ _;rw[Yc ls s b (by omega) HE.o];have:=f.o.set b (by omega) (((s+1:Nat):Int),(nx ls s b:Int));rw[I.o]at this;rw[I.o];simpa using this
      have T3:Hid (AD (λ k=>k=g) W0 ((wr.setCell ⟨g,b*2,none⟩ (.int .i64 ((s:Int)+1))).setCell ⟨g,b*2+1,none⟩ (.int .i64 (X:Int)))):=AD.setCell (AD.setCell E.o (p:=⟨g,b*2,none⟩) (λ _=>rfl) _) (p:=⟨g,b*2+1,none⟩) (λ _=>rfl) _;rw[I.o]at a6 q |-
      clear J f E;go_wp2_with fail
      go_roundw
      (case rel=>exact⟨b+1,by omega,by go_num,by rw[q.o];go_num,B,T3⟩);case measure=>simp[intOf];omega
     .have ac:(x==(s:Int)+1)=false:=by simp[J]
      (have a1:Hid (ls.getD b 0≠((s+1:Nat):Int)):=by show _≠_;rw[hx.o];omega);(have q:Hid (nx ls s (b+1)=nx ls s b):=by show 2*CA ls s+cnt ls (s+1) (b+1)=_;simp only[cnt];rw[if_neg a1.o];simp only[nx];omega);(have B:Hid (Cv wr g (Bw ls (s+1) (b+1))):=by show Cv _ _ _;rw[Yd ls (s+1) b a1.o];exact f.o);obtain⟨X,I⟩:=exH (nx ls s b);rw[I.o]at a6 q |-
      clear J f;go_wp2_with fail
      go_roundw
      (case rel=>exact⟨b+1,by omega,by go_num,by rw[q.o],B,E⟩);case measure=>simp[intOf];omega
    .obtain rfl:b=ls.length:=by omega
     (have B:Hid (Cv wr g (Bw ls (s+1+1) 0)):=by show Cv _ _ _;rw[<-Ye ls (s+1) aa];exact f.o);have q:Hid (nx ls s ls.length=CA ls (s+1)):=rfl;rw[q.o];clear f;go_wp2_with fail
     go_roundw
     (case rel=>exact⟨s+1,by omega,rfl,by go_num,B,E⟩);case measure=>simp[intOf];omega
  .obtain rfl:s=11:=by omega
   (have CE:Hid (Cv wr g (CK ls)):=by show Cv _ _ _;have:=CV.o;rw[Yb U.o]at this;exact this);have RR:Hid (wr.there w.heap.size 0 512):=by refine AHd (C:=Z) (t:=313) ?_ a9.o;rw[T.o.block w.heap.size (za0.1 R0.o).1 (λ e=>by omega)];exact R0.o
   (have W:Hid ((Ck (CK ls)).size=512):=by show _=_;rw[Li,J7]);(have a2:Hid ((BR (CK ls)).length=512):=by show _=_;rw[Kg,J7]);have a8:=z6 CE.o.range;go_wp2_with(first|(refine wpList_load_mid rfl 313 (.tmp 3) rfl g 0 rfl (BR (CK ls)) _ a8.o underlying313 rfl (by rw[a2.o];exact O.o) ?_)|(refine wpList_store_mid rfl 313 (.tmp 2) (.tmp 32) rfl w.heap.size 0 (Ck (CK ls)) rfl rfl (by rw[W.o];exact RR.o) (by rw[W.o];exact O.o) (Ra _) ?_))
   have ad:=run_loadVar_mid (P:=prog) (wr.setCells w.heap.size 0 (Ck (CK ls)).toList) w.heap.size 0 313 (BR (CK ls)) _ (by
    have:=World.rangeAt_setCells_same wr w.heap.size 0 (Ck (CK ls)).toList (by rw[Array.length_toList,W.o];exact RR.o);simpa[Ck]using this) underlying313 rfl (by rw[a2.o];exact O.o)
   refine bodyPost_ret (v:=.agg (Ck (CK ls))) ?_ rfl ⟨rfl,?_⟩;rw[AEz (p:=2) (ty:=313) rfl];have e2:∀X Y:Value,(({ tmps:=#[Value.slice a ls.length cap,undef,Value.pointer (some { block:=w.heap.size,off:=0 })],defers:=[] }:Act).tmps.getD 2 undef)=Value.pointer (some { block:=w.heap.size,off:=0 }):=λ _ _=>rfl;show((asAddr (Value.pointer (some { block:=w.heap.size,off:=0 }))).run prog _).andThen _=_;simp[asAddr,Result.andThen,ad];rfl;have r:=A.o.trans (T.o.below A.o.size (λ k e=>by rw[e,<-hg];omega));exact r.trans ((VL w.heap.size _ 0 wr).below r.size (λ k e=>by rw[e];exact AE _))
