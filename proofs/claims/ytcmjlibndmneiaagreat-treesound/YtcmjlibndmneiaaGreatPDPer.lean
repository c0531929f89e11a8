import Derived.Test.YtcmjlibndmneiaaGreatPDWr
import Derived.Test.YtcmjlibndmneiaaGreatPDDirty
set_option maxRecDepth 100000
set_option linter.all false
set_option maxHeartbeats 8000000
namespace Go.Proofs.YtcmjlibndmneiaaGreat
open Go.RowKit Go.Maps
def zcp9(p:Int){b:Int}(u:0<b):-b<p.tmod b:=by have h:=Int.tmod_lt_of_pos (-p) u;rw[Int.neg_tmod]at h;omega
def zwe9(p b:Int)(A:0<b):(p.tmod b+b).tmod b=p % b:=by
 have E:-b<p.tmod b:=by have:=zcp9 p A;exact this
 rw[Int.tmod_eq_emod_of_nonneg (by omega),Int.add_emod_right];have u:p.tmod b=p-b*p.tdiv b:=by have:=Int.tmod_add_mul_tdiv p b;omega
 rw[u,Int.sub_emod,Int.mul_emod_right,Int.sub_zero,Int.emod_emod]
def rem_lt(p:Int)(m:Nat):rem p m<m+1:=by unfold rem;have:=Int.emod_lt_of_pos p (b:=(m:Int)+1) (by omega);have:=Int.emod_nonneg p (b:=(m:Int)+1) (by omega);omega
def zhg9(p:Int)(m:Nat)(Q:m<274877906944)(w:World):Calls Tryz.prog 104 #[.int .i64 p,.int .i64 ((m:Int)+1)] w λ e w'=>e=.returned (.int .i64 (rem p m:Int))/\w'=w:=by
 have u:(0:Int)<(m:Int)+1:=by omega
 have H:=zwe9 p _ u;have E:=zcp9 p u;have I:=Int.tmod_lt_of_pos p u;have K:(rem p m:Int)=p % ((m:Int)+1):=by unfold rem;have:=Int.emod_nonneg p (b:=(m:Int)+1) (by omega);omega
 rw[K,<-H];obtain⟨b,O⟩:=exN ((m:Int)+1);rw[O]at u E I |-
 have a1:b<=274877906944:=by omega
 have a0:(b==0)=false:=by rw[zl0];omega
 have a2:(b == -1)=false:=by rw[zl0];omega
 clear H K O Q;obtain⟨x,T⟩:=exN (p.tmod b);rw[T]at E I |-
 obtain⟨y,A⟩:=exN ((x+b).tmod b);have Y:y<b:=by rw[<-A];exact Int.tmod_lt_of_pos _ u
 have h5:-b<y:=by rw[<-A];exact zcp9 _ u
 rw[A]
 go_enter Tryz.func104,Tryz.ntmps104
 go_wp2_with fail;go_ret;refine⟨?_,rfl⟩
 first|rfl|(simp;omega)
def DkAt.persisted{S:Nat->Prop}{w w':World}{d:Nat}{s:DS}{I vb O:Nat}{g:Nat->Option Value}(h:DkAt S w d s I vb O g){i:Nat}(hi:i<s.L.length){M:List (List Int)}(H:M.length=s.L.length)
 {wa:World} (Q:Tch (λ k=>k=I) w wa) (hl:SecR wa (.slice (some ⟨I,0,none⟩) s.L.length O) M) (hm:Mp w' vb s.L.length (gput g i none)) (K:Tch (λ k=>k=vb) wa w'):
 DkTo S w w' d { s with L:=M,V:=vput s.V i [] }:=by
 have T:=Q.size;have a0:=Q.block d h.lt (λ e=>h.ne_lb e);have a1:=K.block d (zn1 h.lt T) (λ e=>h.ne_vb e);refine⟨S,⟨I,vb,O,gput g i none,?_⟩,?_,λ k E=>.inl E⟩
 .exact{
   n1:=by rw[H];exact h.n1
   n2:=by rw[H];exact h.n2
   l30:=h.l30
   box:=by rw[a1,a0,h.box,H]
   lies:=by show SecR w' (.slice (some ⟨I,0,none⟩) M.length O) M;rw[H];exact hl.tch K (λ j e=>by cases e;exact λ e=>h.lb_vb e)
   map:=by show Mp w' vb M.length _;rw[H];exact hm
   no:=λ j A=>by
    by_cases e:j=i
    .simp only[vput,if_pos e]
    .simp only[gput,if_neg e]at A;simp only[vput,if_neg e];exact h.no j A
   yes:=λ j u A=>by
    by_cases e:j=i
    .simp only[gput,if_pos e]at A;cases A
    .simp only[gput,if_neg e]at A;simp only[vput,if_neg e];obtain⟨h1,h2,h3,h4⟩:=h.yes j u A;obtain⟨b,cap,rfl,_,h5,h6,_⟩:=h.own A;exact⟨by rw[H];exact h1,h2,(h3.tch Q (λ k E=>by cases E;exact h6)).tch K (λ k E=>by cases E;exact h5),h4⟩
   apart:=λ j k u u2 A E a2=>by (have e:j≠i:=λ e=>by simp only[gput,if_pos e]at A;cases A);(have Y:k≠i:=λ e=>by simp only[gput,if_pos e]at E;cases E);simp only[gput,if_neg e]at A;simp only[gput,if_neg Y]at E;exact h.apart j k u u2 A E a2
   sd:=h.sd
   sl:=h.sl
   sv:=h.sv
   sg:=λ j u k A E=>by (have e:j≠i:=λ e=>by simp only[gput,if_pos e]at A;cases A);simp only[gput,if_neg e]at A;exact h.sg j u k A E
   slt:=λ k E=>zn1 (h.slt k E) (zn2 T K.size) }
 .exact(Q.mono (S':=S) (λ k _ e=>by rw[e];exact h.sl)).trans K (λ k _ e=>by rw[e];exact h.sv)
def zli9{S:Nat->Prop}{d:Nat}{s:DS}(i:Nat)(p:Int)(w:World)(h:Dk S w d s)(hi:i<s.L.length)(hV:s.V i≠[])(hm:(s.V i).length<274877906944):
 Calls Tryz.prog 73 #[dp d,.int .i64 (i:Int),.int .i64 p] w λ e w'=>e=.returned (.tuple #[])/\DkTo S w w' d (s.per i p):=by
 obtain⟨u,vb,lc,g,h⟩:=h;obtain⟨v,a6⟩:∃v,g i=some v:=by
  cases e:g i with
  | none=>exact absurd (h.no i e) hV
  | some v=>exact⟨v,rfl⟩
 obtain⟨_,_,ai,_⟩:=h.yes i v a6;obtain⟨b,cap,rfl,am,an,af,al,ao⟩:=h.own a6;have LK:=h.map.look hi h.n2;rw[show gv g i=.slice (some ⟨b,0,none⟩) (s.V i).length cap by simp[gv,a6]]at LK;have c0:=h.c0;have c1:=h.c1;have HD:=za0 h;have HM:=za0 h.map;have T:=zb0 (zhg9 p (s.V i).length hm w);have a8:=rem_lt p (s.V i).length;have ab:=za0 ai;have ad:Hid (i<9223372036854775808):=by have:=h.n2;show _<_;omega
 have a3:=za0 hi;have a4:=za0 h.lies;have Q:Hid (s.per i p={ s with L:=if 0<rem p (s.V i).length then s.L.set i ((s.V i).getD (rem p (s.V i).length-1) [])else s.L,V:=vput s.V i [] }):=rfl;obtain⟨ar,ag⟩:=zero_of_info zdf9;have aj:=za0 ag;have a9:Hid (b≠u/\d≠u):=⟨af,h.ne_lb⟩
 obtain⟨n,hn⟩:=exN s.L.length;have HN:=za0 hn;obtain⟨m,ac⟩:=exN ((s.V i).length);have ae:=za0 ac;obtain⟨q,hq⟩:=exN (rem p (s.V i).length);rw[hq]at T a8 Q;rw[ac]at T LK ab a8 hm;rw[hn]at c0 HM a4 hi;clear ar ag a6 ai am an af al hq hn ao ac h hV;have aw:(i:Int)<(n:Int):=by omega
 have av:(0:Int)<=(i:Int):=by omega
 by_cases a7:0<q
 .obtain⟨j,hj⟩:∃j,q=j+1:=⟨q-1,by omega⟩
  have ap:(q:Int) > 0:=by omega
  have ak:Hid (IntKind.i64.wrap (j:Int)=(j:Int)):=by show _=_;rw[IntKind.wrap_i64];omega
  have az:(q:Int)-1=(j:Int):=by omega
  have ax:(0:Int)<=(j:Int):=by omega
  have ay:(j:Int)<(m:Int):=by omega
  have aa:Hid (q-1=j/\j<m):=⟨by omega,by omega⟩
  have au:=za0 a7;rw[if_pos a7,aa.o.1]at Q;have LV:=ab.o.load (by rw[ae.o];exact aa.o.2);have LY:=ab.o.1.get (i:=j) (by rw[ae.o];exact aa.o.2);obtain⟨y,hy⟩:=exN ((s.V i).getD j []);rw[hy]at LV LY Q;have a5:=za0 LY;have aq:=Tryz.underlying140;have ah:(Tryz.prog.info? 140).map (·.size)=some (bcs y).length:=by rw[aj.o,zc9,a5.o.1]
  have TH:=za0 (a4.o.there a3.o);have A:w.drew.cell? ⟨d,0,none⟩=some (.slice (some ⟨u,0,none⟩) n lc)/\w.drew.rangeAt b (j*256) (bcs y):=⟨c0,LV⟩
  clear LY hy hj a7 a8
  go_enter Tryz.func73,Tryz.ntmps73
  go_wp2_with fail;refine T.o.mono ?_;rintro e w ⟨rfl,rfl⟩;clear T;go_wp2_with fail;refine wp_region_held (S:=λ w'=>w'.cell? ⟨d,0,none⟩=some (.slice (some ⟨u,0,none⟩) n lc)/\w'.rangeAt b (j*256) (bcs y)) (by kernel_rfl) ?_;refine tkT 0 (some 21) (.move (.tmp 0)) (Value.pointer (some ⟨d,0,none⟩)) (by rintro o E w' ⟨H,I⟩;go_simp) A ?_;simp only[zw];refine tkT 1 (some 22) (.nilCheck (.tmp 21)) (Value.pointer (some ⟨d,0,none⟩)) (by rintro o E w' ⟨H,I⟩;go_simp) A ?_;simp only[zw];refine tkT 2 (some 23) (.fieldAddr 136 (.tmp 22) 0) (Value.pointer (some ⟨d,0,none⟩)) (by rintro o E w' ⟨H,I⟩;go_simp) A ?_;simp only[zw]
  refine tkT 3 (some 24) (.load 133 (.tmp 23)) (Value.slice (some ⟨u,0,none⟩) n lc) (by rintro o E w' ⟨H,I⟩;go_simp) A ?_;simp only[zw];refine tkT 4 (some 25) (.move (.tmp 1)) (Value.int .i64 (i:Int)) (by rintro o E w' ⟨H,I⟩;go_simp) A ?_;simp only[zw];refine tkT 5 (some 26) (.move (.tmp 6)) (Value.slice (some ⟨b,0,none⟩) m cap) (by rintro o E w' ⟨H,I⟩;go_simp) A ?_;simp only[zw];refine tkT 6 (some 27) (.move (.tmp 7)) (Value.int .i64 (q:Int)) (by rintro o E w' ⟨H,I⟩;go_simp) A ?_;simp only[zw];refine tkT 7 (some 28) (.binOp .sub 3 (.tmp 27) (.const (.int .i64 1)) 3) (Value.int .i64 (j:Int)) ?hy A ?_;case hy=>rintro o E w' ⟨H,I⟩;go_simp;exact ak.o
  simp only[zw];refine tkT 8 (some 29) (.indexAddr 133 (.tmp 26) (.tmp 28)) (Value.pointer (some ⟨b,j*256,none⟩)) (by rintro o E w' ⟨H,I⟩;go_simp) A ?_;simp only[zw];refine zhu9 9 (some 30) 140 (.tmp 29) b (j*256) (bcs y) _ rfl (by kernel_rfl) (by kernel_rfl) (by kernel_rfl) (λ _ _ _ h=>h) rfl (λ w' h=>h.2) aq rfl ah A ?_;simp only[zw];refine tkT 10 (some 31) (.indexAddr 133 (.tmp 24) (.tmp 25)) (Value.pointer (some ⟨u,i*256,none⟩)) (by rintro o E w' ⟨H,I⟩;go_simp) A ?_;simp only[zw];refine rdT 11 none (.store 140 (.tmp 31) (.tmp 30)) ?_;rintro o K hd E hg hK
  refine wp_store_mid (w:=w.drew) 140 (.tmp 31) (.tmp 30) E u (i*256) (bcs y).toArray rfl rfl (by rw[List.size_toArray,zc9,a5.o.1];exact TH.o) (by rw[ah,List.size_toArray]) (zbu9 y) ?_;rw[hd];have Y:Hid (Tch (λ k=>k=u) w (w.drew.setCells u (i*256) (bcs y))):=Tch.trans (S:=λ k=>k=u) (S':=λ k=>k=u) (Tch.drew (Tch.refl _ w)) (zb9 u (bcs y) (i*256) w.drew) (λ _ _ e=>e);have W3:=za0 ((show SecR w.drew (.slice (some ⟨u,0,none⟩) n lc) s.L from a4.o.tch (S:=λ _=>False) (Tch.drew (Tch.refl _ w)) (λ _ _ e=>e)).put a3.o a5.o.1 a5.o.2);rw[List.toList_toArray];generalize hW4:w.drew.setCells u (i*256) (bcs y)=W4 at Y W3 |-
  have M4:=za0 (HM.o.tch Y.o (λ e=>HD.o.lb_vb e.symm));have c4:W4.cell? ⟨d,1,none⟩=some (.map (some vb)):=by rw[Y.o.cell (p:=⟨d,1,none⟩) HD.o.lt (λ e=>a9.o.2 e)];exact c1
  refine hK _ _ ⟨?_,?_⟩ ?_
  .rw[Y.o.cell (p:=⟨d,0,none⟩) HD.o.lt (λ e=>a9.o.2 e)];exact c0
  .intro k v hv;have h0:=LV k v hv;rw[Y.o.cell (p:=⟨b,j*256+k,none⟩) (ze0 w ⟨b,j*256+k,none⟩ h0) (λ e=>a9.o.1 e)];exact h0
  refine wpAnyH_done (by kernel_rfl) ?_ _;clear E hd hg hK hW4 A LV;simp only[Act.put];go_wp2_with(at_delete;refine wpList_delete_own _ rfl (.tmp 35) (.tmp 36) 134 3 rfl 133 keyed3 Tryz.underlying134 Rv vb n (Dm n g) rfl M4.o _ _ rfl (key3 (i:=i) ad.o) ?_;intro w5 O a2)
  have M5:=za0 (mp_of O (dm_del (O.canon keyed3)));have T5:Hid (Tch (λ k=>k=vb) W4 w5):=(Tch.of_grown a2.grown).mono (λ k _ e=>by cases e;rfl);clear O a2;go_wp2_with fail
  go_end0
  refine⟨rfl,?_⟩;rw[Q.o];have a1:=W3.o;have a0:=M5.o;rw[<-HN.o]at a1 a0;exact HD.o.persisted a3.o (by rw[zt0]) Y.o a1 a0 T5.o
 .have ap:¬(q:Int) > 0:=by omega
  rw[if_neg a7]at Q;clear a8
  go_enter Tryz.func73,Tryz.ntmps73
  go_wp2_with fail;refine T.o.mono ?_;rintro e w ⟨rfl,rfl⟩;clear T;go_wp2_with(at_delete;refine wpList_delete_own _ rfl (.tmp 35) (.tmp 36) 134 3 rfl 133 keyed3 Tryz.underlying134 Rv vb n (Dm n g) rfl HM.o _ _ rfl (key3 (i:=i) ad.o) ?_;intro w5 O a2)
  have M5:=za0 (mp_of O (dm_del (O.canon keyed3)));have T5:Hid (Tch (λ k=>k=vb) w w5):=(Tch.of_grown a2.grown).mono (λ k _ e=>by cases e;rfl);clear O a2;go_wp2_with fail
  go_end0
  refine⟨rfl,?_⟩;rw[Q.o];have a1:=a4.o;have a0:=M5.o;rw[<-HN.o]at a1 a0;exact HD.o.persisted a3.o rfl (Tch.refl _ _) a1 a0 T5.o
def per_L(s:DS)(i:Nat)(p:Int):(s.per i p).L.length=s.L.length:=by
 unfold DS.per;dsimp only;split
 .rw[zt0]
 .rfl
def pers_L(s:DS)(u:List Nat)(ps:List Int):∀k,(s.pers u ps k).L.length=s.L.length
 | 0=>rfl
 | k+1=>by rw[DS.pers,per_L,pers_L s u ps k]
def pers_V(s:DS)(u:List Nat)(ps:List Int)(i:Nat):∀k,k<=u.length->(s.pers u ps k).V i=if i∈u.take k then[]else s.V i
 | 0,_=>by simp[DS.pers]
 | k+1,hk=>by
  have K:=pers_V s u ps i k (by omega);have I:u.getD k 0=u[k]:=by rw[zn3,zc0 (by omega)];rfl
  show vput (s.pers u ps k).V (u.getD k 0) [] i=_;have E:i∈u.take (k+1)↔i∈u.take k\/i=u[k]:=by rw[List.take_succ_eq_append_getElem (by omega),zi0,List.mem_singleton]
  rw[I];unfold vput;by_cases e:i=u[k]
  .rw[if_pos e,if_pos (E.2 (.inr e))]
  .rw[if_neg e,K];by_cases h:i∈u.take k
   .rw[if_pos h,if_pos (E.2 (.inl h))]
   .rw[if_neg h,if_neg (λ H=>by rcases E.1 H with A|A;exact h A;exact e A)]
def zkx9(s:DS):s.dirty.Nodup:=by unfold DS.dirty;exact List.Pairwise.filter _ List.nodup_range
def zqp9{s:DS}{i:Nat}:i∈s.dirty↔i<s.L.length/\s.V i≠[]:=by unfold DS.dirty;simp
def zyi9{s:DS}{ps:List Int}{k:Nat}(u:k<s.dirty.length):s.dirty.getD k 0<s.L.length/\(s.pers s.dirty ps k).V (s.dirty.getD k 0)=s.V (s.dirty.getD k 0)/\s.V (s.dirty.getD k 0)≠[]:=by
 have E:s.dirty.getD k 0=s.dirty[k]:=by rw[zn3,zc0 u];rfl
 rw[E];have A:=zqp9.1 (za1 u);refine⟨A.1,?_,A.2⟩;rw[pers_V _ _ _ _ _ (by omega),if_neg];intro h;obtain⟨j,H,e⟩:=List.getElem_of_mem h;rw[List.getElem_take]at e;have I:j<k:=by simp at H;omega
 have:=(List.getElem_inj (zkx9 s)).1 e;omega
def DkAt.set23{S:Nat->Prop}{w:World}{d:Nat}{s:DS}{u vb A:Nat}{g:Nat->Option Value}(h:DkAt S w d s u vb A g)(c:Bool)(l:Nat)(H:l<=1073741824):
 DkTo S w ((w.setCell ⟨d,2,none⟩ (.bool c)).setCell ⟨d,3,none⟩ (.int .i64 (l:Int))) d { s with c:=c,l:=l }:=by
 refine⟨S,⟨u,vb,A,g,((h.set2 c).set3 l H)⟩,?_,λ k E=>.inl E⟩;have I:=(zo9 w d 2 (.bool c)).mono (S':=S) (λ k _ e=>by rw[e];exact h.sd);have K:=(zo9 (w.setCell ⟨d,2,none⟩ (.bool c)) d 3 (.int .i64 (l:Int))).mono (S':=S) (λ k _ e=>by rw[e];exact h.sd);exact I.trans K (λ _ _ e=>e)
def zrm9{S:Nat->Prop}{d:Nat}{s:DS}(pv:Value)(ps:List Int)(w:World)(h:Dk S w d s)(hr:Rd .i64 w pv ps)(A:∀k,pv.ownBlock=some k->ps≠[]->¬S k)(hV:∀i,(s.V i).length<274877906944):
 Calls Tryz.prog 38 #[dp d,pv] w λ e w'=>e=.returned (.tuple #[])/\DkTo S w w' d (s.pw ps):=by
 have HD:=za0 h;have a9:=zb0 (zqn9 w h);have HR:=za0 hr;obtain⟨a,cap,rfl,au,ac,_⟩:=hr;have HP:=za0 A;have HV:=za0 hV;have aa:Hid (ps.length<=9223372036854775807):=by show _<=_;unfold maxLen at ac;omega
 clear h A hV ac au;obtain⟨m,hm⟩:=exN ps.length;have Q:=za0 hm;rw[hm]at HR HP aa |-
 have ax:(m:Int)<=9223372036854775807:=by have:=aa.o;omega
 clear hm
 go_enter Tryz.func38,Tryz.ntmps38
 go_wp2_with fail;refine a9.o.mono ?_;clear a9;rintro e E ⟨dv,rfl,a1,a3,af⟩;have B1:=za0 a3;have D1:=za0 (HD.o.below a3);have OD:=za0 a1;have F1:Hid (∀k,dv.ownBlock=some k->w.heap.size<=k/\k<E.heap.size):=λ k hk=>⟨af k hk,a1.lt k hk⟩
 have ai:Hid (s.dirty.length<=4096):=by have:=zqo9 s;obtain⟨_,_,_,_,h⟩:=HD.o;have:=h.n2;show _<=_;omega
 obtain⟨da,dc,ae,ad,an,ao,a4⟩:=a1.rd;rw[zb1]at ae ad a4;subst ae;have a8:=za0 a4;obtain⟨t,ht⟩:=exN s.dirty.length;have HT:=za0 ht;have ay:t<=4096:=by rw[<-ht];exact ai.o
 rw[ht]at a8 OD F1 |-
 clear a1 a3 af ad an ao a4 ht;go_wp2_with fail
 go_loopw [10] (λ kv wr=>∃(k:Nat),k<=t/\kv=.int .i64 k/\Hid (DkTo S E wr d (s.pers s.dirty ps k))) (λ kv _=>t-(intOf kv).toNat)
 case atStart=>exact⟨0,zn7 _,rfl,D1.o.to⟩
 case round=>
  obtain⟨k,hk,rfl,DK⟩:=hrel;by_cases a5:k<t
  .have ap:(k:Int)<(t:Int):=by omega
   (have aw:(0:Int)<=(k:Int):=by omega);obtain⟨hA1,hA2,hA3⟩:=zyi9 (s:=s) (ps:=ps) (k:=k) (by rw[HT.o];exact a5);obtain⟨Sx,I,u,K⟩:=DK.o;have aj:=za0 HD.o.slt;obtain⟨T,dO,rfl,ab⟩:∃b o,da=some ⟨b,o,none⟩/\∀i,i<t->E.cell? ⟨b,o+i,none⟩=some (.int .i64 ((s.dirty.map Int.ofNat).getD i 0)):=by
    rcases a8.o with e|e
    .have:=congrArg List.length e;rw[zb1,HT.o]at this;simp at this;omega
    .exact e
   have hF:=F1.o T rfl;have ck:wr.cell? ⟨T,dO+k,none⟩=some (.int .i64 ((s.dirty.getD k 0:Nat):Int)):=by have h0:=ab k a5;rw[u.cell (p:=⟨T,dO+k,none⟩) (ze0 E ⟨T,dO+k,none⟩ h0) (λ e=>by have:=aj.o T e;have:=hF.1;omega),h0];simp[zn3,zc0 (show k<s.dirty.length by rw[HT.o];exact a5)]
   (obtain⟨i,hi⟩:=exN (s.dirty.getD k 0);rw[hi]at ck hA1 hA2 hA3;have a0:Hid (∀p,p=ps.getD k 0->Calls Tryz.prog 73 #[dp d,.int .i64 (i:Int),.int .i64 p] wr λ e w'=>e=.returned (.tuple #[])/\Hid (DkTo S E w' d (s.pers s.dirty ps (k+1)))):=λ p A=>by refine(zli9 i p wr I (by rw[pers_L];exact hA1) (by rw[hA2];exact hA3) (by rw[hA2];exact HV.o i)).mono ?_;rintro e w' ⟨rfl,hD⟩;refine⟨rfl,?_⟩;have:=DkTo.trans I u K hD;rw[DS.pers,hi,<-A];exact this);clear ab hA1 hA2 hA3 I u K hF;by_cases aq:k<m
   .have ar:(k:Int)<(m:Int):=by omega
    obtain⟨Y,pO,rfl,a6⟩:∃b o,a=some ⟨b,o,none⟩/\w.cell? ⟨b,o+k,none⟩=some (.int .i64 (ps.getD k 0)):=by
     obtain⟨a',av,e,_,_,_,am⟩:=HR.o;simp only[Value.slice.injEq]at e;obtain⟨rfl,_,rfl⟩:=e;rcases am with e|⟨b,o,rfl,hc⟩
     .rw[e]at Q;have:=Q.o;simp at this;omega
     .exact⟨b,o,rfl,hc k (by rw[Q.o];exact aq)⟩
    (have cp:wr.cell? ⟨Y,pO+k,none⟩=some (.int .i64 (ps.getD k 0)):=by obtain⟨Sx,I,u,K⟩:=DK.o;have ah:=ze0 w ⟨Y,pO+k,none⟩ a6;rw[u.cell (p:=⟨Y,pO+k,none⟩) (zn1 ah B1.o.size) (λ e=>HP.o Y rfl (λ e2=>by have:=Q.o;rw[e2]at this;simp at this;omega) e),B1.o.cell (p:=⟨Y,pO+k,none⟩) ah];exact a6);obtain⟨p,A⟩:=exN (ps.getD k 0);rw[A]at cp;have O:=zb0 (a0.o p A.symm);clear a6 A a0;go_wp2_with fail;refine O.o.mono ?_;clear O;rintro e w2 ⟨rfl,a2⟩;go_wp2_with fail
    go_roundw
    (case rel=>exact⟨k+1,by omega,by go_num,a2⟩);case measure=>simp[intOf];omega
   .have ar:¬(k:Int)<(m:Int):=by omega
    have O:=zb0 (a0.o 0 (by rw[zn3,zs0 (by rw[Q.o];omega)];rfl));clear a0;go_wp2_with fail;refine O.o.mono ?_;clear O;rintro e w2 ⟨rfl,a2⟩;go_wp2_with fail
    go_roundw
    (case rel=>exact⟨k+1,by omega,by go_num,a2⟩);case measure=>simp[intOf];omega
  .have ap:¬(k:Int)<(t:Int):=by omega
   (have ag:k=t:=by omega);(have a7:Hid (DkTo S E wr d (s.pers s.dirty ps s.dirty.length)):=by rw[HT.o,<-ag];exact DK.o);obtain⟨Sx,I,u,K⟩:=a7.o;obtain⟨lb,vb,lc,g,H⟩:=I;have HA:=za0 H;have al:=za0 u;have ak:=za0 K;have c2:=H.c2;have c3:=H.c3;have f2:=H.fz 2;have f3:=H.fz 3;clear H u K DK a7 ag;go_wp2_with fail
   go_end0
   refine⟨rfl,?_⟩;have h1:=HA.o.set23 false 0 (zn7 _);have t1:Tch S w E:=Tch.of_below B1.o;have h2:=DkTo.trans ⟨lb,vb,lc,g,HA.o⟩ al.o ak.o h1;exact DkTo.trans D1.o t1 (λ _ e=>.inl e) h2
