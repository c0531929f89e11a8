import Derived.Test.YtcmjlibndmneiaaGreatPTEn2
import Derived.Deep.CutBlock
import Derived.Deep.DeepCutAuto
set_option maxRecDepth 100000
set_option linter.all false
set_option maxHeartbeats 8000000
namespace Go.Proofs.YtcmjlibndmneiaaGreat
open Go.RowKit Pl
def zqq9(from_ u:ByteArray)(m:Nat)(ps:List E2)(e:E2):scnE from_ u m (ps++[e])=if inR from_ u e=true/\(scnE from_ u m ps).length<m then scnE from_ u m ps++[e]else scnE from_ u m ps:=by
 unfold scnE
 rw[List.filter_append]
 by_cases h:inR from_ u e=true
 .rw[show[e].filter (inR from_ u)=[e]from by simp[h],zg0]
  by_cases A:(ps.filter (inR from_ u)).length<m
  .rw[if_pos ⟨h,by omega⟩,zn5 (by rw[zf0];simp;omega),zn5 (by omega)]
  .rw[if_neg (λ q=>by have:=q.2;omega),List.take_append_of_le_length (by omega)]
 .rw[if_neg (λ q=>h q.1),show[e].filter (inR from_ u)=[]from by simp[h],List.append_nil]
def znr9(from_ u:ByteArray)(m:Nat)(ps:List E2):(scnE from_ u m ps).length<=ps.length:=by
 unfold scnE
 rw[zg0]
 have:=List.length_filter_le (inR from_ u) ps
 omega
def zkm9(v:Value)(ps:List E2)(from_ u:ByteArray)(m:Nat)(w:World)(h:RdE w v ps)(aj:ps.length<=1000000)(hm:m<=9223372036854775807):
 Calls Tryz.prog 17 #[v,.string from_,.string u,.int .i64 (m:Int)] w λ e w'=>∃v',e=.returned v'/\OwE w.heap.size w' v' (scnE from_ u m ps)/\Below w.heap.size w w':=by
 obtain⟨la,lc,rfl,l1,l2,l3⟩:=h.len
 have H:=za0 h
 obtain⟨L,hL⟩:=exH ps.length
 rw[hL.o]at H l1 aj |-
 obtain⟨R,hR⟩:=exH (scnE from_ u m ps)
 rw[hR.o]
 have am:(L:Int)<=9223372036854775807:=by omega
 clear h l3
 obtain⟨em,ah⟩:=exN u.toList.isEmpty
 have ac:Hid (eqs u eS=em):=by show _=_;rw[<-ah];unfold eqs eS;simp
 go_enter Tryz.func17,Tryz.ntmps17
 go_wp2_with fail
 go_loopw [9,10] (λ ov iv wr=>∃(k:Nat)(Q:Option Addr)(A T:Nat),k<=L/\ov=.slice Q A T/\iv=.int .i64 (k:Int)/\Hid (OwE w.heap.size wr (.slice Q A T) (scnE from_ u m (ps.take k))/\Below w.heap.size w wr)) (λ _ iv _=>L-(intOf iv).toNat)
 case atStart=>exact⟨0,none,0,0,zn7 _,rfl,rfl,by rw[show scnE from_ u m (ps.take 0)=[]from by simp[scnE]];exact owE_nil _ _,Below.refl _ _⟩
 case round=>
  obtain⟨k,Q,A,T,hk,rfl,rfl,E⟩:=hrel
  by_cases Y:k<L
  .have d1:decide ((k:Int)<(L:Int))=true:=by rw[zm0];omega
   have ag:=zo1 Y
   obtain⟨lb,lo,rfl,ck,cv⟩:=(H.o.below E.o.2).at (i:=k) (by rw[hL.o];exact Y)
   obtain⟨x,hx⟩:=exH ((ps.getD k eZ).1)
   obtain⟨y,hy⟩:=exH ((ps.getD k eZ).2)
   rw[hx.o]at ck
   rw[hy.o]at cv
   have i0:(0:Int)<=(k:Int):=by omega
   have i1:(k:Int)<(L:Int):=by omega
   have v1:=wk_nat (x:=(k:Int)+1) (t:=k+1) (by omega) (by omega)
   have v2:=zp9 (x:=(k:Int)+1) (t:=k+1) (by clear v1;omega) (by clear v1;omega)
   have HK:=za0 Y
   have af:Hid (ps.take (k+1)=ps.take k++[(x,y)]):=by show _=_;rw[zbx9 ps (by rw[hL.o];exact Y),<-hx.o,<-hy.o]
   obtain⟨ao,aq,ev⟩:=E.o.1.long
   have a3:A=(scnE from_ u m (ps.take k)).length:=by injection ev
   obtain⟨c,hc⟩:=exH ((inR from_ u (x,y)&&decide (A<m)))
   have a7:Hid (scnE from_ u m (ps.take (k+1))=if c=true then scnE from_ u m (ps.take k)++[(x,y)]else scnE from_ u m (ps.take k)):=by
    show _=_
    rw[af.o,zqq9,<-hc.o,<-a3]
    simp only[Bool.and_eq_true,zm0]
   have an:A<=1000000:=by
    rw[a3]
    have:=znr9 from_ u m (ps.take k)
    rw[zg0]at this
    omega
   clear ev a3
   go_upto_region 5 with fail
   go_cut [42]from 11 to 49 (λ cv wx=>cv=.bool c/\wx=wr)
   case first=>
    have HC:Hid (c=(!lts x from_&&(em||lts x u)&&decide (A<m))):=by show _=_;rw[<-hc.o];unfold inR;rw[ac.o]
    cases q1:lts x from_ with
    | true=>
     have ak:Op.bytesLess x.toList from_.toList=true:=q1
     obtain rfl:c=false:=by rw[HC.o,q1];rfl
     clear q1
     go_wp2_with fail
     go_meet
     exact⟨rfl,rfl⟩
    | false=>
     have ak:Op.bytesLess x.toList from_.toList=false:=q1
     cases em with
     | true=>
      obtain rfl:c=decide (A<m):=by rw[HC.o,q1];rfl
      clear q1
      by_cases q3:A<m
      .have a4:decide ((A:Int)<(m:Int))=true:=by rw[zm0];omega
       have K:decide (A<m)=true:=zo1 q3
       go_wp2_with fail
       go_meet
       exact⟨by rw[K],rfl⟩
      .have a4:decide ((A:Int)<(m:Int))=false:=by rw[zn4];omega
       have K:decide (A<m)=false:=zm1 q3
       go_wp2_with fail
       go_meet
       exact⟨by rw[K],rfl⟩
     | false=>
      cases q2:lts x u with
      | true=>
       have al:Op.bytesLess x.toList u.toList=true:=q2
       obtain rfl:c=decide (A<m):=by rw[HC.o,q1,q2];rfl
       clear q1 q2
       by_cases q3:A<m
       .have a4:decide ((A:Int)<(m:Int))=true:=by rw[zm0];omega
        have K:decide (A<m)=true:=zo1 q3
        go_wp2_with fail
        go_meet
        exact⟨by rw[K],rfl⟩
       .have a4:decide ((A:Int)<(m:Int))=false:=by rw[zn4];omega
        have K:decide (A<m)=false:=zm1 q3
        go_wp2_with fail
        go_meet
        exact⟨by rw[K],rfl⟩
      | false=>
       have al:Op.bytesLess x.toList u.toList=false:=q2
       obtain rfl:c=false:=by rw[HC.o,q1,q2];rfl
       clear q1 q2
       go_wp2_with fail
       go_meet
       exact⟨rfl,rfl⟩
   case rest=>
    obtain⟨rfl,rfl⟩:=hcut
    cases c with
    | false=>
     have O:Hid (OwE w.heap.size wc (.slice Q A T) (scnE from_ u m (ps.take (k+1)))/\Below w.heap.size w wc):=⟨by rw[a7.o,if_neg (by decide)];exact E.o.1,E.o.2⟩
     go_wp2_with fail
     clear v1 v2
     have ai:=HK.o
     first
      | exact⟨⟨k+1,_,_,_,by omega,by rfl,by rfl,O⟩,by simp[intOf];omega⟩
      | (go_roundw
         case rel=>(repeat apply Exists.intro);exact⟨⟨k+1,_,_,_,by omega,by rfl,by rfl,O⟩,rfl⟩
         case measure=>simp[intOf];omega)
    | true=>
     obtain⟨I,a2⟩:=exN (wc.alloc (.cells #[.string x,.string y] 72))
     have b4:Below wc.heap.size wc I:=by rw[<-a2];exact za9 _ _
     have a1:I.heap[wc.heap.size]?=some (.cells #[.string x,.string y] 72 (0,0)):=by rw[<-a2];exact heap_alloc_new wc _
     have a9:Hid (I.cell? ⟨wc.heap.size,0,none⟩=some (.string x)):=by show _=_;rw[cell_of_row I wc.heap.size 0 _ _ (0,0) a1];rfl
     have aa:Hid (I.cell? ⟨wc.heap.size,1,none⟩=some (.string y)):=by show _=_;rw[cell_of_row I wc.heap.size 1 _ _ (0,0) a1];rfl
     have a6:=za0 (E.o.1.below b4)
     have a0:Hid (Below w.heap.size w I):=E.o.2.trans (b4.mono E.o.2.size)
     have ad:Hid ((scnE from_ u m (ps.take k)).length<=1000000000):=by show _<=_;have:=znr9 from_ u m (ps.take k);rw[zg0]at this;have:=hL.o;omega
     have ab:Hid (scnE from_ u m (ps.take (k+1))=scnE from_ u m (ps.take k)++[(x,y)]):=by show _=_;rw[a7.o,if_pos rfl]
     clear b4 a1
     go_wp2_with(at_builtin;refine zy9 I rfl (.tmp 43) (.tmp 48) rfl w.heap.size (.slice Q A T) (scnE from_ u m (ps.take k)) rfl a6.o wc.heap.size (x,y) rfl a9.o aa.o ad.o a0.o.size ?_)
     rintro v' W5 o5 t5 f5
     have O:Hid (OwE w.heap.size W5 v' (scnE from_ u m (ps.take (k+1)))/\Below w.heap.size w W5):=⟨by rw[ab.o];exact o5,a0.o.trans (t5.below a0.o.size (λ j hj=>a6.o.ge j hj))⟩
     obtain⟨ap,ar,rfl⟩:=o5.long
     obtain⟨au,a8⟩:=exN ((scnE from_ u m (ps.take k)++[(x,y)]).length)
     rw[a8]at O |-
     clear o5 t5 f5 a8 a2
     go_wp2_with fail
     clear v1 v2
     have ai:=HK.o
     first
      | exact⟨⟨k+1,_,_,_,by omega,by rfl,by rfl,O⟩,by simp[intOf];omega⟩
      | (go_roundw
         case rel=>(repeat apply Exists.intro);exact⟨⟨k+1,_,_,_,by omega,by rfl,by rfl,O⟩,rfl⟩
         case measure=>simp[intOf];omega)
  .have d1:decide ((k:Int)<(L:Int))=false:=by rw[zn4];omega
   have ag:decide (k<L)=false:=zm1 Y
   have ae:Hid (ps.take k=ps):=zn5 (by have:=hL.o;omega)
   have a5:Hid (OwE w.heap.size wr (.slice Q A T) R/\Below w.heap.size w wr):=⟨by rw[<-hR.o];have:=E.o.1;rw[ae.o]at this;exact this,E.o.2⟩
   clear E
   go_wp2_with fail
   go_ret
   exact⟨_,rfl,a5.o.1,a5.o.2⟩
