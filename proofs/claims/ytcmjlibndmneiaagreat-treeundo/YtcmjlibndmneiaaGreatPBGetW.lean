import Derived.Test.YtcmjlibndmneiaaGreatPBGet
import Derived.Test.YtcmjlibndmneiaaGreatPBReg
set_option maxRecDepth 100000
set_option linter.all false
set_option maxHeartbeats 8000000
namespace Go.Proofs.YtcmjlibndmneiaaGreat
open Go.RowKit Pl
def zwo9(n:Int)(v:Value)(xs:List Int)(w:World)(hr:Rd .u8 w v xs)(hb:By xs)(hl:xs.length=256):
 Calls Tryz.prog 110 #[.int .i64 n,v] w λ e w'=>GetR n xs w e w':=by
 obtain⟨a,cap,rfl,h1,h2,_⟩:=id hr
 have HQ:Hid (∀W,(Op.equalIn 10000 156 (.agg (bcs xs).toArray) (.agg (bcs (smd xs)).toArray)).run Tryz.prog W=.ok (decide (xs=smd xs)) W):=λ W=>by rw[eq_frm W xs _ hl (zsp9 hl)]
 have a7:Hid (mayK n (xs.getD 0 0) (bdy xs).length=true->∀W,(Op.equalIn 10000 156 (.agg (bcs xs).toArray) (.agg (bcs (sec n (xs.getD 0 0) (bdy xs))).toArray)).run Tryz.prog W=.ok (decide (xs=sec n (xs.getD 0 0) (bdy xs))) W):=λ hm W=>by rw[eq_frm W xs _ hl (zgw9 _ _ (by have:=(zt9.1 hm).2.2.2.2;omega))]
 obtain⟨hv,hi⟩:=zero_of_info zfm9
 have HR:Hid (Rd .u8 w (.slice a 256 cap) xs):=by rw[<-hl];exact hr
 have HY:=za0 hb
 have HL:=za0 hl
 rw[hl]at h1 |-
 obtain⟨W1,ad⟩:=exN (w.alloc (.cells #[.int .i64 0,.slice none 0 0] 63))
 have b1:Below w.heap.size w W1:=by rw[<-ad];exact(Below.refl _ _).alloc (zn6 _) _
 have Q1:Hid (Bkv W1 w.heap.size 0 (.slice none 0 0)):=by rw[<-ad];exact zw9 w _ _
 have B1:=za0 b1
 have R1:=za0 (HR.o.below b1)
 obtain⟨Z,hZ⟩:=exH ((bcs zz).toArray)
 have HZ:Hid (Z.size=256):=by show _=_;rw[<-hZ.o,List.size_toArray,zc9,zz_len]
 have HI:=za0 hi
 rw[hZ.o]at hv
 have al:=za0 (zff9 hl)
 have aw:Hid ((bcs xs).toArray.all (·.oneCell')=true):=zbm9 _
 have aj:Hid (∀W,Calls Tryz.prog 118 #[.agg (bcs xs).toArray] W λ e w'=>e=.returned (.agg (bcs (smd xs)).toArray)/\Below W.heap.size W w'):=λ W=>zhb9 xs W hl hb
 have b0:=za0 (Tryz.underlying156)
 have az:Hid ((Tryz.prog.info? 156).map (·.size)=some (bcs xs).length):=by show _=_;rw[zc9,hl];exact hi
 clear b1 hr hb hl h2 hi
 go_enter Tryz.func110,Tryz.ntmps110
 go_wp2_with fail
 refine(zxq9 _ xs W1 R1.o HY.o HL.o).mono ?_
 rintro e w2 ⟨rfl,a5⟩
 obtain⟨w3,a8⟩:=exN (w2.alloc (.cells (bcs xs).toArray 156))
 obtain⟨f,hf⟩:=exH w2.heap.size
 have af:Below w2.heap.size w2 w3:=by rw[<-a8];exact(Below.refl _ _).alloc (zn6 _) _
 have F3:Hid (Fv w3 f xs):=by rw[<-a8,<-hf.o];exact fv_new w2 HL.o HY.o
 obtain⟨g,hg⟩:=exH w.heap.size
 rw[hg.o]at Q1 B1
 have Q3:=za0 ((Q1.o.below a5).below af)
 have B2:=B1.o.trans (a5.mono (Nat.le_of_lt Q1.o.lt))
 have B3:=za0 (B2.trans (af.mono (by have:=(Q1.o.below a5).lt;omega)))
 have am:=za0 a8
 have r3:=F3.o.range
 clear a8 a5 af B2 ad Q1 B1 R1
 go_wp2_with(with_reducible (show wpList _ _ _ (Oper.mk _ (Op.store _ _ _) _ _ _ _::_) _ _);refine zf9 _ rfl 156 (.tmp 6) (.tmp 13) rfl Z (bcs xs).toArray rfl rfl (by rw[HI.o,al.o]) (by rw[HZ.o,al.o]) aw.o ?_;rw[am.o])
 have hu:=b0.o
 have aa:=az.o
 rw[hf.o,hg.o]
 clear hv am
 refine wp_region_held (S:=λ w'=>w'.rangeAt f 0 (bcs xs)) (by kernel_rfl) ?_
 refine zhc9 0 (some 14) 156 (.tmp 6) f 0 (bcs xs) _ rfl (by kernel_rfl) (by kernel_rfl) (by kernel_rfl) (λ _ _ _ h=>h) rfl (λ w' h=>h) hu rfl aa r3 ?_
 simp only[zw]
 refine zhc9 1 (some 15) 156 (.tmp 6) f 0 (bcs xs) _ rfl (by kernel_rfl) (by kernel_rfl) (by kernel_rfl) (λ _ _ _ h=>h) rfl (λ w' h=>h) hu rfl aa r3 ?_
 simp only[zw]
 refine rdT 2 (some 16) (.call { callee:=.value (.func 118),args:=#[.tmp 15],argTypes:=#[156] }) ?_
 rintro o K hd A ag I
 refine zg9 (enters_of Tryz.func118 (by kernel_rfl) rfl) A (vs:=#[.agg (bcs xs).toArray]) (by kernel_rfl) (aj.o _) ?_
 rintro e w4 ⟨rfl,ao⟩
 refine⟨_,rfl,?_⟩
 rw[hd]
 have a9:=((Below.refl _ _).drew).trans ao
 have F4:=za0 (F3.o.below a9)
 have Q4:=za0 (Q3.o.below a9)
 have B4:=za0 (B3.o.trans (a9.mono (Nat.le_of_lt Q3.o.lt)))
 have r4:=F4.o.range
 refine I _ _ r4 ?_
 clear ao a9 A hd ag I r3 F3 Q3 B3
 simp only[zw]
 by_cases he:xs=smd xs
 .have hq:∀W,(Op.equalIn 10000 156 (.agg (bcs xs).toArray) (.agg (bcs (smd xs)).toArray)).run Tryz.prog W=.ok true W:=λ W=>by rw[HQ.o W,zo1 he]
  have ac:=za0 he
  clear he
  refine tkT 3 (some 17) (.binOp .neq 156 (.tmp 14) (.tmp 16) 156) (Value.bool false) (by rintro o A w' Q;go_simp) r4 ?_
  simp only[zw]
  refine wpAnyH_done (by kernel_rfl) ?_ _
  clear r4 hq aj
  have r4:=za0 F4.o.range
  have ay:=za0 aa
  have HU:=za0 hu
  go_wp2_with(with_reducible (show wpList _ _ _ (Oper.mk _ (Op.load _ _) _ _ _ _::_) _ _);refine wpList_load_mid rfl 156 (.tmp 6) rfl f 0 rfl (bcs xs) _ r4.o HU.o rfl ay.o ?_)
  obtain⟨u,I⟩:=exH (xs.getD 0 0)
  obtain⟨Y,a1⟩:=exH (bdy xs)
  have b2:Hid (By Y):=by rw[<-a1.o];exact bdy_by HY.o
  have ak:Hid (mayK n u Y.length=true->∀W v,Rd .u8 W v Y->Calls Tryz.prog 90 #[.int .i64 n,.agg #[.int .i64 u,v]] W λ e w'=>e=.returned (.agg (bcs (sec n u Y)).toArray)/\Below W.heap.size W w'):=λ hm W v hR=>zdv9 n u v Y W hR b2.o hm
  rw[I.o,a1.o]at a7
  refine(zpg9 xs w4 HL.o HY.o).mono ?_
  rintro e w5 ⟨bv,rfl,ab,b5,n5⟩
  obtain⟨E,H,t5,C5,rfl,an,a5,_⟩:=id ab
  rw[I.o,a1.o]
  rw[a1.o]at ab an
  have F5:=za0 (F4.o.below b5)
  have Q5:=za0 (Q4.o.below b5)
  have B5:=za0 (B4.o.trans (b5.mono (Nat.le_of_lt Q4.o.lt)))
  have W5:=za0 ab
  have N5:=za0 (zn1 Q4.o.lt (n5 E rfl))
  obtain⟨m,hm⟩:=exH Y.length
  rw[hm.o]at W5 an ak a7 |-
  have b3:Hid (m<=9223372036854775807):=by show _<=_;unfold maxLen at a5;omega
  obtain⟨q,aq⟩:=exN w5.heap.size
  have b4:=za0 aq
  obtain⟨W6,ae⟩:=exN (w5.alloc (.cells #[.int .i64 u,.slice (some ⟨E,0,none⟩) m H] 63))
  have b6:Below w5.heap.size w5 W6:=by rw[<-ae];exact(Below.refl _ _).alloc (zn6 _) _
  have V6:Hid (Bkv W6 q u (.slice (some ⟨E,0,none⟩) m H)):=by rw[<-ae,<-aq];exact zw9 w5 _ _
  have F6:=za0 (F5.o.below b6)
  have Q6:=za0 (Q5.o.below b6)
  have B6:=za0 (B5.o.trans (b6.mono (Nat.le_of_lt Q5.o.lt)))
  have X6:=za0 (W5.o.below b6)
  obtain⟨mk,HM⟩:=exH (mayK n u m)
  have av:Hid (∀W,Calls Tryz.prog 89 #[.int .i64 n,.agg #[.int .i64 u,.slice (some ⟨E,0,none⟩) m H]] W λ e w'=>e=.returned (.bool mk)/\Below W.heap.size W w'):=λ W=>by
   have h:=zjg9 n u (some ⟨E,0,none⟩) m H W b3.o
   rw[HM.o]at h
   exact h
  have r6:=F6.o.range
  have ar:=V6.o.c0
  have au:=V6.o.c1
  unfold blk
  clear b5 n5 ab a5 r4 F4 Q4 B4 F5 Q5 B5 W5 b6
  go_wp2_with fail
  clear ae
  have hS:W6.drew.rangeAt f 0 (bcs xs)/\W6.drew.cell? ⟨q,0,none⟩=some (.int .i64 u)/\W6.drew.cell? ⟨q,1,none⟩=some (.slice (some ⟨E,0,none⟩) m H):=⟨r6,ar,au⟩
  refine wp_region_held (S:=λ w'=>w'.rangeAt f 0 (bcs xs)/\w'.cell? ⟨q,0,none⟩=some (.int .i64 u)/\w'.cell? ⟨q,1,none⟩=some (.slice (some ⟨E,0,none⟩) m H)) (by kernel_rfl) ?_
  refine tkT 0 (some 21) (.move (.tmp 0)) (.int .i64 n) (by rintro o A w' ⟨Q,T,a0⟩;go_simp) hS ?_
  simp only[zw]
  refine tkT 1 (some 22) (.load 63 (.tmp 7)) (.agg #[.int .i64 u,.slice (some ⟨E,0,none⟩) m H]) (by rintro o A w' ⟨Q,T,a0⟩;go_simp) hS ?_
  simp only[zw]
  refine rdT 2 (some 23) (.call { callee:=.value (.func 89),args:=#[.tmp 21,.tmp 22],argTypes:=#[3,63] }) ?_
  rintro o K hd A ag I
  refine zg9 (enters_of Tryz.func89 (by kernel_rfl) rfl) A (vs:=#[.int .i64 n,.agg #[.int .i64 u,.slice (some ⟨E,0,none⟩) m H]]) (by kernel_rfl) (av.o _) ?_
  rintro e w7 ⟨rfl,ap⟩
  refine⟨_,rfl,?_⟩
  rw[hd]
  have b7:=((Below.refl _ _).drew).trans ap
  have F7:=za0 (F6.o.below b7)
  have V7:=za0 (V6.o.below b7)
  have Q7:=za0 (Q6.o.below b7)
  have B7:=za0 (B6.o.trans (b7.mono (Nat.le_of_lt Q6.o.lt)))
  have X7:=za0 (X6.o.below b7)
  have O:w7.rangeAt f 0 (bcs xs)/\w7.cell? ⟨q,0,none⟩=some (.int .i64 u)/\w7.cell? ⟨q,1,none⟩=some (.slice (some ⟨E,0,none⟩) m H):=⟨F7.o.range,V7.o.c0,V7.o.c1⟩
  refine I _ _ O ?_
  clear ap b7 A hd ag I hS r6 ar au F6 V6 Q6 B6 X6
  simp only[zw]
  cases mk
  .have HE:Hid (getE n xs=7):=by show _=_;unfold getE;rw[if_neg (by rw[HL.o];simp),if_neg (by rw[<-ac.o];simp),if_neg (by rw[I.o,a1.o,hm.o,HM.o];simp)]
   refine tkT 3 (some 24) (.unOp .not 4 (.tmp 23)) (.bool true) (by rintro o A w' ⟨Q,T,a0⟩;go_simp) O ?_
   simp only[zw]
   refine tkT 4 (some 25) (.move (.tmp 24)) (.bool true) (by rintro o A w' ⟨Q,T,a0⟩;go_simp) O ?_
   simp only[zw]
   refine skipG 5 (some 26) (.load 156 (.tmp 6)) 4 false true rfl (by kernel_rfl) (by kernel_rfl) (by kernel_rfl) (λ _ _ _ h=>h) rfl (by decide) O ?_
   simp only[zw]
   refine skipG 6 (some 27) (.move (.tmp 0)) 4 false true rfl (by kernel_rfl) (by kernel_rfl) (by kernel_rfl) (λ _ _ _ h=>h) rfl (by decide) O ?_
   simp only[zw]
   refine skipG 7 (some 28) (.load 63 (.tmp 7)) 4 false true rfl (by kernel_rfl) (by kernel_rfl) (by kernel_rfl) (λ _ _ _ h=>h) rfl (by decide) O ?_
   simp only[zw]
   refine skipG 8 (some 29) (.call { callee:=.value (.func 90),args:=#[.tmp 27,.tmp 28],argTypes:=#[3,63] }) 4 false true rfl (by kernel_rfl) (by kernel_rfl) (by kernel_rfl) (λ _ _ _ h=>h) rfl (by decide) O ?_
   simp only[zw]
   refine skipG 9 (some 30) (.binOp .neq 156 (.tmp 26) (.tmp 29) 156) 4 false true rfl (by kernel_rfl) (by kernel_rfl) (by kernel_rfl) (λ _ _ _ h=>h) rfl (by decide) O ?_
   simp only[zw]
   refine tkT 10 (some 31) (.pick (.tmp 25) (.const (.bool true)) (.tmp 30)) (.bool true) (by rintro o A w' ⟨Q,T,a0⟩;go_simp) O ?_
   simp only[zw]
   refine wpAnyH_done (by kernel_rfl) ?_ _
   clear O
   have q0:=Q7.o.c0
   have q1:=Q7.o.c1
   have f0:=Q7.o.fz 0
   have f1:=Q7.o.fz 1
   have a3:=zb0 (Q7.o.put 0 (.slice none 0 0)).load
   have a2:Hid (Below g w ((w7.setCell ⟨g,0,none⟩ (.int .i64 0)).setCell ⟨g,1,none⟩ (.slice none 0 0))):=(B7.o.setCell (zn6 _) _).setCell (zn6 _) _
   go_wp2_with fail
   refine bodyPost_ret (v:=.tuple #[blk 0 (.slice none 0 0),.int .i64 7]) (zk9 (p:=4) (ty:=63) rfl _ _ _ g _ _ rfl a3.o rfl) rfl ?_
   exact zfk9 HE.o (by decide) (by rw[hg.o];exact a2.o)
  .refine tkT 3 (some 24) (.unOp .not 4 (.tmp 23)) (.bool false) (by rintro o A w' ⟨Q,T,a0⟩;go_simp) O ?_
   simp only[zw]
   refine tkT 4 (some 25) (.move (.tmp 24)) (.bool false) (by rintro o A w' ⟨Q,T,a0⟩;go_simp) O ?_
   simp only[zw]
   refine zvh9 5 (some 26) 156 (.tmp 6) 4 false f 0 (bcs xs) _ rfl (by kernel_rfl) (by kernel_rfl) (by kernel_rfl) (λ _ _ _ h=>h) rfl rfl (λ w' h=>h.1) hu rfl aa O ?_
   simp only[zw]
   refine takeG 6 (some 27) (.move (.tmp 0)) 4 false (.int .i64 n) rfl (by kernel_rfl) (by kernel_rfl) (by kernel_rfl) (λ _ _ _ h=>h) rfl ?hy O ?_
   case hy=>
    rintro o A w' ⟨Q,T,a0⟩
    go_simp
   simp only[zw]
   refine takeG 7 (some 28) (.load 63 (.tmp 7)) 4 false (.agg #[.int .i64 u,.slice (some ⟨E,0,none⟩) m H]) rfl (by kernel_rfl) (by kernel_rfl) (by kernel_rfl) (λ _ _ _ h=>h) rfl ?hy O ?_
   case hy=>
    rintro o A w' ⟨Q,T,a0⟩
    go_simp
   simp only[zw]
   refine readyG 8 (some 29) (.call { callee:=.value (.func 90),args:=#[.tmp 27,.tmp 28],argTypes:=#[3,63] }) 4 false rfl (by kernel_rfl) rfl ?_
   rintro o K hd A I
   refine zg9 (enters_of Tryz.func90 (by kernel_rfl) rfl) A (vs:=#[.int .i64 n,.agg #[.int .i64 u,.slice (some ⟨E,0,none⟩) m H]]) (by kernel_rfl) (ak.o HM.o _ _ X7.o.rd) ?_
   rintro e w8 ⟨rfl,b8⟩
   refine⟨_,rfl,?_⟩
   rw[hd]
   have F8:=za0 (F7.o.below b8)
   have V8:=za0 (V7.o.below b8)
   have Q8:=za0 (Q7.o.below b8)
   have B8:=za0 (B7.o.trans (b8.mono (Nat.le_of_lt Q7.o.lt)))
   have X8:=za0 (X7.o.below b8)
   have a4:w8.rangeAt f 0 (bcs xs)/\w8.cell? ⟨q,0,none⟩=some (.int .i64 u)/\w8.cell? ⟨q,1,none⟩=some (.slice (some ⟨E,0,none⟩) m H):=⟨F8.o.range,V8.o.c0,V8.o.c1⟩
   refine I _ _ a4 ?_
   clear b8 A hd I O F7 V7 Q7 B7 X7
   simp only[zw]
   by_cases a6:xs=sec n u Y
   .have ah:∀W,(Op.equalIn 10000 156 (.agg (bcs xs).toArray) (.agg (bcs (sec n u Y)).toArray)).run Tryz.prog W=.ok true W:=λ W=>by rw[a7.o HM.o W,zo1 a6]
    have HE:Hid (getE n xs=0):=by show _=_;unfold getE;rw[if_neg (by rw[HL.o];simp),if_neg (by rw[<-ac.o];simp),if_pos ⟨by rw[I.o,a1.o,hm.o];exact HM.o,by rw[I.o,a1.o];exact a6⟩]
    have ai:Hid (getB n xs=(xs.getD 0 0,bdy xs)):=by show _=_;unfold getB;rw[if_pos HE.o]
    clear a6
    refine takeG 9 (some 30) (.binOp .neq 156 (.tmp 26) (.tmp 29) 156) 4 false (.bool false) rfl (by kernel_rfl) (by kernel_rfl) (by kernel_rfl) (λ _ _ _ h=>h) rfl ?hy a4 ?_
    case hy=>
     rintro o A w' ⟨Q,T,a0⟩
     go_simp
    simp only[zw]
    refine tkT 10 (some 31) (.pick (.tmp 25) (.const (.bool true)) (.tmp 30)) (.bool false) (by rintro o A w' ⟨Q,T,a0⟩;go_simp) a4 ?_
    simp only[zw]
    refine wpAnyH_done (by kernel_rfl) ?_ _
    clear a4 ah
    have q0:=Q8.o.c0
    have q1:=Q8.o.c1
    have f0:=Q8.o.fz 0
    have f1:=Q8.o.fz 1
    have u0:=V8.o.c0
    have u1:=V8.o.c1
    have a3:=zb0 (Q8.o.put u (.slice (some ⟨E,0,none⟩) m H)).load
    have a2:Hid (Below g w ((w8.setCell ⟨g,0,none⟩ (.int .i64 u)).setCell ⟨g,1,none⟩ (.slice (some ⟨E,0,none⟩) m H))):=(B8.o.setCell (zn6 _) _).setCell (zn6 _) _
    have ax:Hid (Rd .u8 ((w8.setCell ⟨g,0,none⟩ (.int .i64 u)).setCell ⟨g,1,none⟩ (.slice (some ⟨E,0,none⟩) m H)) (.slice (some ⟨E,0,none⟩) m H) Y):=
     X8.o.rd.tch (S:=λ k=>k=g) (Tch.setCell (Tch.setCell (Tch.refl (λ k=>k=g) w8) (p:=⟨g,0,none⟩) (λ _=>rfl) _) (p:=⟨g,1,none⟩) (λ _=>rfl) _) (λ j hj e=>by cases hj;have e2:E=g:=e;have:=N5.o;omega)
    clear X8
    go_wp2_with fail
    refine bodyPost_ret (v:=.tuple #[blk u (.slice (some ⟨E,0,none⟩) m H),.int .i64 0]) (zk9 (p:=4) (ty:=63) rfl _ _ _ g _ _ rfl a3.o rfl) rfl ?_
    exact⟨_,by rw[ai.o,HE.o,I.o],by rw[ai.o,a1.o];exact ax.o,by rw[hg.o];exact a2.o,λ j hj=>by cases hj;rw[hg.o];exact Nat.le_of_lt N5.o⟩
   .have ah:∀W,(Op.equalIn 10000 156 (.agg (bcs xs).toArray) (.agg (bcs (sec n u Y)).toArray)).run Tryz.prog W=.ok false W:=λ W=>by rw[a7.o HM.o W,zm1 a6]
    have HE:Hid (getE n xs=7):=by show _=_;unfold getE;rw[if_neg (by rw[HL.o];simp),if_neg (by rw[<-ac.o];simp),if_neg (by rw[I.o,a1.o];rintro⟨_,h⟩;exact a6 h)]
    clear a6
    refine takeG 9 (some 30) (.binOp .neq 156 (.tmp 26) (.tmp 29) 156) 4 false (.bool true) rfl (by kernel_rfl) (by kernel_rfl) (by kernel_rfl) (λ _ _ _ h=>h) rfl ?hy a4 ?_
    case hy=>
     rintro o A w' ⟨Q,T,a0⟩
     go_simp
    simp only[zw]
    refine tkT 10 (some 31) (.pick (.tmp 25) (.const (.bool true)) (.tmp 30)) (.bool true) (by rintro o A w' ⟨Q,T,a0⟩;go_simp) a4 ?_
    simp only[zw]
    refine wpAnyH_done (by kernel_rfl) ?_ _
    clear a4 ah
    have q0:=Q8.o.c0
    have q1:=Q8.o.c1
    have f0:=Q8.o.fz 0
    have f1:=Q8.o.fz 1
    have a3:=zb0 (Q8.o.put 0 (.slice none 0 0)).load
    have a2:Hid (Below g w ((w8.setCell ⟨g,0,none⟩ (.int .i64 0)).setCell ⟨g,1,none⟩ (.slice none 0 0))):=(B8.o.setCell (zn6 _) _).setCell (zn6 _) _
    go_wp2_with fail
    refine bodyPost_ret (v:=.tuple #[blk 0 (.slice none 0 0),.int .i64 7]) (zk9 (p:=4) (ty:=63) rfl _ _ _ g _ _ rfl a3.o rfl) rfl ?_
    exact zfk9 HE.o (by decide) (by rw[hg.o];exact a2.o)
 .have hq:∀W,(Op.equalIn 10000 156 (.agg (bcs xs).toArray) (.agg (bcs (smd xs)).toArray)).run Tryz.prog W=.ok false W:=λ W=>by rw[HQ.o W,zm1 he]
  have HE:Hid (getE n xs=6):=by show _=_;unfold getE;rw[if_neg (by rw[HL.o];simp),if_pos he]
  clear he
  refine tkT 3 (some 17) (.binOp .neq 156 (.tmp 14) (.tmp 16) 156) (Value.bool true) (by rintro o A w' Q;go_simp) r4 ?_
  simp only[zw]
  refine wpAnyH_done (by kernel_rfl) ?_ _
  have q0:=Q4.o.c0
  have q1:=Q4.o.c1
  have f0:=Q4.o.fz 0
  have f1:=Q4.o.fz 1
  have a3:=zb0 (Q4.o.put 0 (.slice none 0 0)).load
  have a2:Hid (Below g w ((w4.setCell ⟨g,0,none⟩ (.int .i64 0)).setCell ⟨g,1,none⟩ (.slice none 0 0))):=(B4.o.setCell (zn6 _) _).setCell (zn6 _) _
  go_wp2_with fail
  refine bodyPost_ret (v:=.tuple #[blk 0 (.slice none 0 0),.int .i64 6]) (zk9 (p:=4) (ty:=63) rfl _ _ _ g _ _ rfl a3.o rfl) rfl ?_
  exact zfk9 HE.o (by decide) (by rw[hg.o];exact a2.o)
def zwp9(n:Int)(v:Value)(xs:List Int)(w:World)(hr:Rd .u8 w v xs)(A:By xs):Calls Tryz.prog 110 #[.int .i64 n,v] w λ e w'=>GetR n xs w e w':=by
 by_cases u:xs.length=256
 .exact zwo9 n v xs w hr A u
 .exact zwr9 n v xs w hr u
