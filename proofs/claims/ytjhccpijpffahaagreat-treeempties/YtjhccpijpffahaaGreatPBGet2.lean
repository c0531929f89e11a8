import Derived.Test.YtjhccpijpffahaaGreatPBGet
import Derived.Test.YtjhccpijpffahaaGreatPBReg
set_option maxRecDepth 100000
set_option linter.unusedVariables false
set_option linter.unusedSimpArgs false
set_option maxHeartbeats 8000000
namespace Go.Proofs.YtjhccpijpffahaaGreat
open Go.RowKit Pl
theorem zsm9 (n : Int) (v : Value) (xs : List Int) (w : World) (hr : Rd .u8 w v xs) (hb : By xs) (hl : xs.length = 256) (hne : xs ≠ smd xs) :
  Calls Tryz.prog 110 #[.int .i64 n,v] w fun e w' => GetR n xs w e w':=by
 obtain ⟨a,cap,rfl,h1,h2,_⟩:=id hr
 have HE : Hid (getE n xs = 6):=by show _ = _; unfold getE; rw [if_neg (by rw [hl]; simp),if_pos hne]
 have hq : ∀ W,(Op.equalIn 10000 156 (.agg (bcs xs).toArray) (.agg (bcs (smd xs)).toArray)).run Tryz.prog W = .ok false W:=fun W => by rw [eq_frm W xs _ hl (zfp9 hl),decide_eq_false hne]
 obtain ⟨hv,hi⟩:=zero_of_info zbn9
 have HR : Hid (Rd .u8 w (.slice a 256 cap) xs):=by rw [<- hl]; exact hr
 have HY : Hid (By xs):=hb
 have HL : Hid (xs.length = 256):=hl
 rw [hl] at h1 ⊢
 obtain ⟨W1,hW1⟩:=exN (w.alloc (.cells #[.int .i64 0,.slice none 0 0] 63))
 have b1 : Below w.heap.size w W1:=by rw [<- hW1]; exact (Below.refl _ _).alloc (zn6 _) _
 have Q1 : Hid (Bkv W1 w.heap.size 0 (.slice none 0 0)):=by rw [<- hW1]; exact zr9 w _ _
 have B1 : Hid (Below w.heap.size w W1):=b1
 have R1 : Hid (Rd .u8 W1 (.slice a 256 cap) xs):=HR.out.below b1
 obtain ⟨Z,hZ⟩:=exH ((bcs zz).toArray)
 have HZ : Hid (Z.size = 256):=by show _ = _; rw [<- hZ.out,List.size_toArray,zf9,zz_len]
 have HI : Hid ((Tryz.prog.info? 156).map (·.size) = some 256):=hi
 rw [hZ.out] at hv
 have HSZX : Hid ((bcs xs).toArray.size = 256):=zbm9 hl
 have HONX : Hid ((bcs xs).toArray.all (·.oneCell') = true):=zay9 _
 have HSM : Hid (∀ W,Calls Tryz.prog 118 #[.agg (bcs xs).toArray] W fun e w' => e = .returned (.agg (bcs (smd xs)).toArray) /\ Below W.heap.size W w'):=fun W => zbb9 xs W hl hb
 have HUU : Hid (Tryz.prog.underlying 156 = some (.array 256 5)):=Tryz.underlying156
 have HSZI : Hid ((Tryz.prog.info? 156).map (·.size) = some (bcs xs).length):=by show _ = _; rw [zf9,hl]; exact hi
 clear b1 hr hb hl h2 hi
 go_enter Tryz.func110,Tryz.ntmps110
 go_wp2_with fail
 refine (zhj9 _ xs W1 R1.out HY.out HL.out).mono ?_
 rintro e w2 ⟨rfl,hb2⟩
 obtain ⟨w3,hW3⟩:=exN (w2.alloc (.cells (bcs xs).toArray 156))
 obtain ⟨f,hf⟩:=exH w2.heap.size
 have hb3 : Below w2.heap.size w2 w3:=by rw [<- hW3]; exact (Below.refl _ _).alloc (zn6 _) _
 have F3 : Hid (Fv w3 f xs):=by rw [<- hW3,<- hf.out]; exact fv_new w2 HL.out HY.out
 obtain ⟨g,hg⟩:=exH w.heap.size
 rw [hg.out] at Q1 B1
 have Q3 : Hid (Bkv w3 g 0 (.slice none 0 0)):=(Q1.out.below hb2).below hb3
 have B2 : Below g w w2:=B1.out.trans (hb2.mono (Nat.le_of_lt Q1.out.lt))
 have B3 : Hid (Below g w w3):=B2.trans (hb3.mono (by have:=(Q1.out.below hb2).lt; omega))
 have HW3 : Hid (w2.alloc (.cells (bcs xs).toArray 156) = w3):=hW3
 have r3 : w3.drew.rangeAt f 0 (bcs xs):=F3.out.range
 clear hW3 hb2 hb3 B2 hW1 Q1 B1 R1
 go_wp2_with (with_reducible (show wpList _ _ _ (Oper.mk _ (Op.store _ _ _) _ _ _ _ :: _) _ _); refine zc9 _ rfl 156 (.tmp 6) (.tmp 13) rfl Z (bcs xs).toArray rfl rfl (by rw [HI.out,HSZX.out]) (by rw [HZ.out,HSZX.out]) HONX.out ?_; rw [HW3.out])
 have hu:=HUU.out
 have hsz:=HSZI.out
 rw [hf.out,hg.out]
 clear hv HW3
 refine wp_region_held (S:=fun w' => w'.rangeAt f 0 (bcs xs)) (by kernel_rfl) ?_
 refine zck9 0 (some 14) 156 (.tmp 6) f 0 (bcs xs) _ rfl (by kernel_rfl) (by kernel_rfl) (by kernel_rfl) (fun _ _ _ h => h) rfl (fun w' h => h) hu rfl hsz r3 ?_
 simp only [Act.put,qa,qb,qc]
 refine zck9 1 (some 15) 156 (.tmp 6) f 0 (bcs xs) _ rfl (by kernel_rfl) (by kernel_rfl) (by kernel_rfl) (fun _ _ _ h => h) rfl (fun w' h => h) hu rfl hsz r3 ?_
 simp only [Act.put,qa,qb,qc]
 refine rdT 2 (some 16) (.call { callee:=.value (.func 118),args:=#[.tmp 15],argTypes:=#[156] }) ?_
 rintro o K hd ho hgd hK
 refine zd9 (enters_of Tryz.func118 (by kernel_rfl) rfl) ho (vs:=#[.agg (bcs xs).toArray]) (by kernel_rfl) (HSM.out _) ?_
 rintro e w4 ⟨rfl,hb4⟩
 refine ⟨_,rfl,?_⟩
 rw [hd]
 have hb5 : Below w3.heap.size w3 w4:=((Below.refl _ _).drew).trans hb4
 have F4 : Hid (Fv w4 f xs):=F3.out.below hb5
 have Q4 : Hid (Bkv w4 g 0 (.slice none 0 0)):=Q3.out.below hb5
 have B4 : Hid (Below g w w4):=B3.out.trans (hb5.mono (Nat.le_of_lt Q3.out.lt))
 have r4 : w4.rangeAt f 0 (bcs xs):=F4.out.range
 refine hK _ _ r4 ?_
 clear hb4 hb5 ho hd hgd hK r3 F3 Q3 B3
 simp only [Act.put,qa,qb,qc]
 refine tkT 3 (some 17) (.binOp .neq 156 (.tmp 14) (.tmp 16) 156) (Value.bool true) (by rintro o ho w' hS1; go_simp) r4 ?_
 simp only [Act.put,qa,qb,qc]
 refine wpAnyH_done (by kernel_rfl) ?_ _
 have q0:=Q4.out.c0
 have q1:=Q4.out.c1
 have f0:=Q4.out.fz 0
 have f1:=Q4.out.fz 1
 have HLD:=hideP (Q4.out.put 0 (.slice none 0 0)).load
 have HBE : Hid (Below g w ((w4.setCell ⟨g,0,none⟩ (.int .i64 0)).setCell ⟨g,1,none⟩ (.slice none 0 0))):=(B4.out.setCell (zn6 _) _).setCell (zn6 _) _
 go_wp2_with fail
 refine bodyPost_ret (v:=.tuple #[blk 0 (.slice none 0 0),.int .i64 6]) (zj9 (p:=4) (ty:=63) rfl _ _ _ g _ _ rfl HLD.out rfl) rfl ?_
 exact zei9 HE.out (by decide) (by rw [hg.out]; exact HBE.out)
theorem zsl9 (n : Int) (v : Value) (xs : List Int) (w : World) (hr : Rd .u8 w v xs) (hb : By xs) (hl : xs.length = 256) (he : xs = smd xs) (hm : mayK n (xs.getD 0 0) (bdy xs).length = false) :
  Calls Tryz.prog 110 #[.int .i64 n,v] w fun e w' => GetR n xs w e w':=by
 obtain ⟨a,cap,rfl,h1,h2,_⟩:=id hr
 have HE : Hid (getE n xs = 7):=by show _ = _; unfold getE; rw [if_neg (by rw [hl]; simp),if_neg (by rw [<- he]; simp),if_neg (by rw [hm]; simp)]
 have hq : ∀ W,(Op.equalIn 10000 156 (.agg (bcs xs).toArray) (.agg (bcs (smd xs)).toArray)).run Tryz.prog W = .ok true W:=fun W => by rw [eq_frm W xs _ hl (zfp9 hl),decide_eq_true he]
 have HM : Hid (mayK n (xs.getD 0 0) (bdy xs).length = false):=hm
 clear he hm
 obtain ⟨hv,hi⟩:=zero_of_info zbn9
 have HR : Hid (Rd .u8 w (.slice a 256 cap) xs):=by rw [<- hl]; exact hr
 have HY : Hid (By xs):=hb
 have HL : Hid (xs.length = 256):=hl
 rw [hl] at h1 ⊢
 obtain ⟨W1,hW1⟩:=exN (w.alloc (.cells #[.int .i64 0,.slice none 0 0] 63))
 have b1 : Below w.heap.size w W1:=by rw [<- hW1]; exact (Below.refl _ _).alloc (zn6 _) _
 have Q1 : Hid (Bkv W1 w.heap.size 0 (.slice none 0 0)):=by rw [<- hW1]; exact zr9 w _ _
 have B1 : Hid (Below w.heap.size w W1):=b1
 have R1 : Hid (Rd .u8 W1 (.slice a 256 cap) xs):=HR.out.below b1
 obtain ⟨Z,hZ⟩:=exH ((bcs zz).toArray)
 have HZ : Hid (Z.size = 256):=by show _ = _; rw [<- hZ.out,List.size_toArray,zf9,zz_len]
 have HI : Hid ((Tryz.prog.info? 156).map (·.size) = some 256):=hi
 rw [hZ.out] at hv
 have HSZX : Hid ((bcs xs).toArray.size = 256):=zbm9 hl
 have HONX : Hid ((bcs xs).toArray.all (·.oneCell') = true):=zay9 _
 have HSM : Hid (∀ W,Calls Tryz.prog 118 #[.agg (bcs xs).toArray] W fun e w' => e = .returned (.agg (bcs (smd xs)).toArray) /\ Below W.heap.size W w'):=fun W => zbb9 xs W hl hb
 have HUU : Hid (Tryz.prog.underlying 156 = some (.array 256 5)):=Tryz.underlying156
 have HSZI : Hid ((Tryz.prog.info? 156).map (·.size) = some (bcs xs).length):=by show _ = _; rw [zf9,hl]; exact hi
 clear b1 hr hb hl h2 hi
 go_enter Tryz.func110,Tryz.ntmps110
 go_wp2_with fail
 refine (zhj9 _ xs W1 R1.out HY.out HL.out).mono ?_
 rintro e w2 ⟨rfl,hb2⟩
 obtain ⟨w3,hW3⟩:=exN (w2.alloc (.cells (bcs xs).toArray 156))
 obtain ⟨f,hf⟩:=exH w2.heap.size
 have hb3 : Below w2.heap.size w2 w3:=by rw [<- hW3]; exact (Below.refl _ _).alloc (zn6 _) _
 have F3 : Hid (Fv w3 f xs):=by rw [<- hW3,<- hf.out]; exact fv_new w2 HL.out HY.out
 obtain ⟨g,hg⟩:=exH w.heap.size
 rw [hg.out] at Q1 B1
 have Q3 : Hid (Bkv w3 g 0 (.slice none 0 0)):=(Q1.out.below hb2).below hb3
 have B2 : Below g w w2:=B1.out.trans (hb2.mono (Nat.le_of_lt Q1.out.lt))
 have B3 : Hid (Below g w w3):=B2.trans (hb3.mono (by have:=(Q1.out.below hb2).lt; omega))
 have HW3 : Hid (w2.alloc (.cells (bcs xs).toArray 156) = w3):=hW3
 have r3 : w3.drew.rangeAt f 0 (bcs xs):=F3.out.range
 clear hW3 hb2 hb3 B2 hW1 Q1 B1 R1
 go_wp2_with (with_reducible (show wpList _ _ _ (Oper.mk _ (Op.store _ _ _) _ _ _ _ :: _) _ _); refine zc9 _ rfl 156 (.tmp 6) (.tmp 13) rfl Z (bcs xs).toArray rfl rfl (by rw [HI.out,HSZX.out]) (by rw [HZ.out,HSZX.out]) HONX.out ?_; rw [HW3.out])
 have hu:=HUU.out
 have hsz:=HSZI.out
 rw [hf.out,hg.out]
 clear hv HW3
 refine wp_region_held (S:=fun w' => w'.rangeAt f 0 (bcs xs)) (by kernel_rfl) ?_
 refine zck9 0 (some 14) 156 (.tmp 6) f 0 (bcs xs) _ rfl (by kernel_rfl) (by kernel_rfl) (by kernel_rfl) (fun _ _ _ h => h) rfl (fun w' h => h) hu rfl hsz r3 ?_
 simp only [Act.put,qa,qb,qc]
 refine zck9 1 (some 15) 156 (.tmp 6) f 0 (bcs xs) _ rfl (by kernel_rfl) (by kernel_rfl) (by kernel_rfl) (fun _ _ _ h => h) rfl (fun w' h => h) hu rfl hsz r3 ?_
 simp only [Act.put,qa,qb,qc]
 refine rdT 2 (some 16) (.call { callee:=.value (.func 118),args:=#[.tmp 15],argTypes:=#[156] }) ?_
 rintro o K hd ho hgd hK
 refine zd9 (enters_of Tryz.func118 (by kernel_rfl) rfl) ho (vs:=#[.agg (bcs xs).toArray]) (by kernel_rfl) (HSM.out _) ?_
 rintro e w4 ⟨rfl,hb4⟩
 refine ⟨_,rfl,?_⟩
 rw [hd]
 have hb5 : Below w3.heap.size w3 w4:=((Below.refl _ _).drew).trans hb4
 have F4 : Hid (Fv w4 f xs):=F3.out.below hb5
 have Q4 : Hid (Bkv w4 g 0 (.slice none 0 0)):=Q3.out.below hb5
 have B4 : Hid (Below g w w4):=B3.out.trans (hb5.mono (Nat.le_of_lt Q3.out.lt))
 have r4 : w4.rangeAt f 0 (bcs xs):=F4.out.range
 refine hK _ _ r4 ?_
 clear hb4 hb5 ho hd hgd hK r3 F3 Q3 B3
 simp only [Act.put,qa,qb,qc]
 refine tkT 3 (some 17) (.binOp .neq 156 (.tmp 14) (.tmp 16) 156) (Value.bool false) (by rintro o ho w' hS1; go_simp) r4 ?_
 simp only [Act.put,qa,qb,qc]
 refine wpAnyH_done (by kernel_rfl) ?_ _
 clear r4 hq HSM
 have r4 : Hid (w4.rangeAt f 0 (bcs xs)):=F4.out.range
 have HSZ : Hid ((Tryz.prog.info? 156).map (·.size) = some (bcs xs).length):=hsz
 have HU : Hid (Tryz.prog.underlying 156 = some (.array 256 5)):=hu
 go_wp2_with (with_reducible (show wpList _ _ _ (Oper.mk _ (Op.load _ _) _ _ _ _ :: _) _ _); refine wpList_load_mid rfl 156 (.tmp 6) rfl f 0 rfl (bcs xs) _ r4.out HU.out rfl HSZ.out ?_)
 obtain ⟨K0,hK⟩:=exH (xs.getD 0 0)
 obtain ⟨Y,hYY⟩:=exH (bdy xs)
 have HYB : Hid (By Y):=by rw [<- hYY.out]; exact bdy_by HY.out
 rw [hK.out,hYY.out] at HM
 refine (zef9 xs w4 HL.out HY.out).mono ?_
 rintro e w5 ⟨bv,rfl,wb5,b5,n5⟩
 obtain ⟨bb,bc,t5,C5,rfl,hb1,hb2,_⟩:=id wb5
 rw [hK.out,hYY.out]
 rw [hYY.out] at wb5 hb1
 have F5 : Hid (Fv w5 f xs):=F4.out.below b5
 have Q5 : Hid (Bkv w5 g 0 (.slice none 0 0)):=Q4.out.below b5
 have B5 : Hid (Below g w w5):=B4.out.trans (b5.mono (Nat.le_of_lt Q4.out.lt))
 have W5 : Hid (Wb w5 (.slice (some ⟨bb,0,none⟩) Y.length bc) Y):=wb5
 have N5 : Hid (g < bb):=zn1 Q4.out.lt (n5 bb rfl)
 obtain ⟨m,hm⟩:=exH Y.length
 rw [hm.out] at W5 hb1 HM ⊢
 have hm9 : Hid (m <= 9223372036854775807):=by show _ <= _; unfold maxLen at hb2; omega
 obtain ⟨q,hqs⟩:=exN w5.heap.size
 have HQS : Hid (w5.heap.size = q):=hqs
 obtain ⟨W6,hW6⟩:=exN (w5.alloc (.cells #[.int .i64 K0,.slice (some ⟨bb,0,none⟩) m bc] 63))
 have b6 : Below w5.heap.size w5 W6:=by rw [<- hW6]; exact (Below.refl _ _).alloc (zn6 _) _
 have V6 : Hid (Bkv W6 q K0 (.slice (some ⟨bb,0,none⟩) m bc)):=by rw [<- hW6,<- hqs]; exact zr9 w5 _ _
 have F6 : Hid (Fv W6 f xs):=F5.out.below b6
 have Q6 : Hid (Bkv W6 g 0 (.slice none 0 0)):=Q5.out.below b6
 have B6 : Hid (Below g w W6):=B5.out.trans (b6.mono (Nat.le_of_lt Q5.out.lt))
 have X6 : Hid (Wb W6 (.slice (some ⟨bb,0,none⟩) m bc) Y):=W5.out.below b6
 have HMB : Hid (∀ W,Calls Tryz.prog 89 #[.int .i64 n,.agg #[.int .i64 K0,.slice (some ⟨bb,0,none⟩) m bc]] W fun e w' => e = .returned (.bool false) /\ Below W.heap.size W w'):=fun W => by
  have h:=zcn9 n K0 (some ⟨bb,0,none⟩) m bc W hm9.out
  rw [HM.out] at h
  exact h
 have r6 : W6.drew.rangeAt f 0 (bcs xs):=F6.out.range
 have v60 : W6.drew.cell? ⟨q,0,none⟩ = some (.int .i64 K0):=V6.out.c0
 have v61 : W6.drew.cell? ⟨q,1,none⟩ = some (.slice (some ⟨bb,0,none⟩) m bc):=V6.out.c1
 unfold blk
 clear b5 n5 wb5 hb2 r4 F4 Q4 B4 F5 Q5 B5 W5 b6
 go_wp2_with fail
 clear hW6
 have hS : W6.drew.rangeAt f 0 (bcs xs) /\ W6.drew.cell? ⟨q,0,none⟩ = some (.int .i64 K0) /\ W6.drew.cell? ⟨q,1,none⟩ = some (.slice (some ⟨bb,0,none⟩) m bc):=⟨r6,v60,v61⟩
 refine wp_region_held (S:=fun w' => w'.rangeAt f 0 (bcs xs) /\ w'.cell? ⟨q,0,none⟩ = some (.int .i64 K0) /\ w'.cell? ⟨q,1,none⟩ = some (.slice (some ⟨bb,0,none⟩) m bc)) (by kernel_rfl) ?_
 refine tkT 0 (some 21) (.move (.tmp 0)) (.int .i64 n) (by rintro o ho w' ⟨hS1,hS2,hS3⟩; go_simp) hS ?_
 simp only [Act.put,qa,qb,qc]
 refine tkT 1 (some 22) (.load 63 (.tmp 7)) (.agg #[.int .i64 K0,.slice (some ⟨bb,0,none⟩) m bc]) (by rintro o ho w' ⟨hS1,hS2,hS3⟩; go_simp) hS ?_
 simp only [Act.put,qa,qb,qc]
 refine rdT 2 (some 23) (.call { callee:=.value (.func 89),args:=#[.tmp 21,.tmp 22],argTypes:=#[3,63] }) ?_
 rintro o K hd ho hgd hK
 refine zd9 (enters_of Tryz.func89 (by kernel_rfl) rfl) ho (vs:=#[.int .i64 n,.agg #[.int .i64 K0,.slice (some ⟨bb,0,none⟩) m bc]]) (by kernel_rfl) (HMB.out _) ?_
 rintro e w7 ⟨rfl,hb7⟩
 refine ⟨_,rfl,?_⟩
 rw [hd]
 have b7 : Below W6.heap.size W6 w7:=((Below.refl _ _).drew).trans hb7
 have F7 : Hid (Fv w7 f xs):=F6.out.below b7
 have V7 : Hid (Bkv w7 q K0 (.slice (some ⟨bb,0,none⟩) m bc)):=V6.out.below b7
 have Q7 : Hid (Bkv w7 g 0 (.slice none 0 0)):=Q6.out.below b7
 have B7 : Hid (Below g w w7):=B6.out.trans (b7.mono (Nat.le_of_lt Q6.out.lt))
 have X7 : Hid (Wb w7 (.slice (some ⟨bb,0,none⟩) m bc) Y):=X6.out.below b7
 have hS7 : w7.rangeAt f 0 (bcs xs) /\ w7.cell? ⟨q,0,none⟩ = some (.int .i64 K0) /\ w7.cell? ⟨q,1,none⟩ = some (.slice (some ⟨bb,0,none⟩) m bc):=⟨F7.out.range,V7.out.c0,V7.out.c1⟩
 refine hK _ _ hS7 ?_
 clear hb7 b7 ho hd hgd hK hS r6 v60 v61 F6 V6 Q6 B6 X6
 simp only [Act.put,qa,qb,qc]
 refine tkT 3 (some 24) (.unOp .not 4 (.tmp 23)) (.bool true) (by rintro o ho w' ⟨hS1,hS2,hS3⟩; go_simp) hS7 ?_
 simp only [Act.put,qa,qb,qc]
 refine tkT 4 (some 25) (.move (.tmp 24)) (.bool true) (by rintro o ho w' ⟨hS1,hS2,hS3⟩; go_simp) hS7 ?_
 simp only [Act.put,qa,qb,qc]
 refine skipG 5 (some 26) (.load 156 (.tmp 6)) 4 false true rfl (by kernel_rfl) (by kernel_rfl) (by kernel_rfl) (fun _ _ _ h => h) rfl (by decide) hS7 ?_
 simp only [Act.put,qa,qb,qc]
 refine skipG 6 (some 27) (.move (.tmp 0)) 4 false true rfl (by kernel_rfl) (by kernel_rfl) (by kernel_rfl) (fun _ _ _ h => h) rfl (by decide) hS7 ?_
 simp only [Act.put,qa,qb,qc]
 refine skipG 7 (some 28) (.load 63 (.tmp 7)) 4 false true rfl (by kernel_rfl) (by kernel_rfl) (by kernel_rfl) (fun _ _ _ h => h) rfl (by decide) hS7 ?_
 simp only [Act.put,qa,qb,qc]
 refine skipG 8 (some 29) (.call { callee:=.value (.func 90),args:=#[.tmp 27,.tmp 28],argTypes:=#[3,63] }) 4 false true rfl (by kernel_rfl) (by kernel_rfl) (by kernel_rfl) (fun _ _ _ h => h) rfl (by decide) hS7 ?_
 simp only [Act.put,qa,qb,qc]
 refine skipG 9 (some 30) (.binOp .neq 156 (.tmp 26) (.tmp 29) 156) 4 false true rfl (by kernel_rfl) (by kernel_rfl) (by kernel_rfl) (fun _ _ _ h => h) rfl (by decide) hS7 ?_
 simp only [Act.put,qa,qb,qc]
 refine tkT 10 (some 31) (.pick (.tmp 25) (.const (.bool true)) (.tmp 30)) (.bool true) (by rintro o ho w' ⟨hS1,hS2,hS3⟩; go_simp) hS7 ?_
 simp only [Act.put,qa,qb,qc]
 refine wpAnyH_done (by kernel_rfl) ?_ _
 clear hS7
 have q0:=Q7.out.c0
 have q1:=Q7.out.c1
 have f0:=Q7.out.fz 0
 have f1:=Q7.out.fz 1
 have HLD:=hideP (Q7.out.put 0 (.slice none 0 0)).load
 have HBE : Hid (Below g w ((w7.setCell ⟨g,0,none⟩ (.int .i64 0)).setCell ⟨g,1,none⟩ (.slice none 0 0))):=(B7.out.setCell (zn6 _) _).setCell (zn6 _) _
 go_wp2_with fail
 refine bodyPost_ret (v:=.tuple #[blk 0 (.slice none 0 0),.int .i64 7]) (zj9 (p:=4) (ty:=63) rfl _ _ _ g _ _ rfl HLD.out rfl) rfl ?_
 exact zei9 HE.out (by decide) (by rw [hg.out]; exact HBE.out)
theorem zsj9 (n : Int) (v : Value) (xs : List Int) (w : World) (hr : Rd .u8 w v xs) (hb : By xs) (hl : xs.length = 256) (he : xs = smd xs) (hm : mayK n (xs.getD 0 0) (bdy xs).length = true) (hne : xs ≠ sec n (xs.getD 0 0) (bdy xs)) :
  Calls Tryz.prog 110 #[.int .i64 n,v] w fun e w' => GetR n xs w e w':=by
 obtain ⟨a,cap,rfl,h1,h2,_⟩:=id hr
 have HE : Hid (getE n xs = 7):=by show _ = _; unfold getE; rw [if_neg (by rw [hl]; simp),if_neg (by rw [<- he]; simp),if_neg (by rintro ⟨_,h⟩; exact hne h)]
 have hq : ∀ W,(Op.equalIn 10000 156 (.agg (bcs xs).toArray) (.agg (bcs (smd xs)).toArray)).run Tryz.prog W = .ok true W:=fun W => by rw [eq_frm W xs _ hl (zfp9 hl),decide_eq_true he]
 have hq2 : ∀ W,(Op.equalIn 10000 156 (.agg (bcs xs).toArray) (.agg (bcs (sec n (xs.getD 0 0) (bdy xs))).toArray)).run Tryz.prog W = .ok false W:=fun W => by rw [eq_frm W xs _ hl (zht9 _ _ (by have:=(zv9.1 hm).2.2.2.2; omega)),decide_eq_false hne]
 have HM : Hid (mayK n (xs.getD 0 0) (bdy xs).length = true):=hm
 clear he hm hne
 obtain ⟨hv,hi⟩:=zero_of_info zbn9
 have HR : Hid (Rd .u8 w (.slice a 256 cap) xs):=by rw [<- hl]; exact hr
 have HY : Hid (By xs):=hb
 have HL : Hid (xs.length = 256):=hl
 rw [hl] at h1 ⊢
 obtain ⟨W1,hW1⟩:=exN (w.alloc (.cells #[.int .i64 0,.slice none 0 0] 63))
 have b1 : Below w.heap.size w W1:=by rw [<- hW1]; exact (Below.refl _ _).alloc (zn6 _) _
 have Q1 : Hid (Bkv W1 w.heap.size 0 (.slice none 0 0)):=by rw [<- hW1]; exact zr9 w _ _
 have B1 : Hid (Below w.heap.size w W1):=b1
 have R1 : Hid (Rd .u8 W1 (.slice a 256 cap) xs):=HR.out.below b1
 obtain ⟨Z,hZ⟩:=exH ((bcs zz).toArray)
 have HZ : Hid (Z.size = 256):=by show _ = _; rw [<- hZ.out,List.size_toArray,zf9,zz_len]
 have HI : Hid ((Tryz.prog.info? 156).map (·.size) = some 256):=hi
 rw [hZ.out] at hv
 have HSZX : Hid ((bcs xs).toArray.size = 256):=zbm9 hl
 have HONX : Hid ((bcs xs).toArray.all (·.oneCell') = true):=zay9 _
 have HSM : Hid (∀ W,Calls Tryz.prog 118 #[.agg (bcs xs).toArray] W fun e w' => e = .returned (.agg (bcs (smd xs)).toArray) /\ Below W.heap.size W w'):=fun W => zbb9 xs W hl hb
 have HUU : Hid (Tryz.prog.underlying 156 = some (.array 256 5)):=Tryz.underlying156
 have HSZI : Hid ((Tryz.prog.info? 156).map (·.size) = some (bcs xs).length):=by show _ = _; rw [zf9,hl]; exact hi
 clear b1 hr hb hl h2 hi
 go_enter Tryz.func110,Tryz.ntmps110
 go_wp2_with fail
 refine (zhj9 _ xs W1 R1.out HY.out HL.out).mono ?_
 rintro e w2 ⟨rfl,hb2⟩
 obtain ⟨w3,hW3⟩:=exN (w2.alloc (.cells (bcs xs).toArray 156))
 obtain ⟨f,hf⟩:=exH w2.heap.size
 have hb3 : Below w2.heap.size w2 w3:=by rw [<- hW3]; exact (Below.refl _ _).alloc (zn6 _) _
 have F3 : Hid (Fv w3 f xs):=by rw [<- hW3,<- hf.out]; exact fv_new w2 HL.out HY.out
 obtain ⟨g,hg⟩:=exH w.heap.size
 rw [hg.out] at Q1 B1
 have Q3 : Hid (Bkv w3 g 0 (.slice none 0 0)):=(Q1.out.below hb2).below hb3
 have B2 : Below g w w2:=B1.out.trans (hb2.mono (Nat.le_of_lt Q1.out.lt))
 have B3 : Hid (Below g w w3):=B2.trans (hb3.mono (by have:=(Q1.out.below hb2).lt; omega))
 have HW3 : Hid (w2.alloc (.cells (bcs xs).toArray 156) = w3):=hW3
 have r3 : w3.drew.rangeAt f 0 (bcs xs):=F3.out.range
 clear hW3 hb2 hb3 B2 hW1 Q1 B1 R1
 go_wp2_with (with_reducible (show wpList _ _ _ (Oper.mk _ (Op.store _ _ _) _ _ _ _ :: _) _ _); refine zc9 _ rfl 156 (.tmp 6) (.tmp 13) rfl Z (bcs xs).toArray rfl rfl (by rw [HI.out,HSZX.out]) (by rw [HZ.out,HSZX.out]) HONX.out ?_; rw [HW3.out])
 have hu:=HUU.out
 have hsz:=HSZI.out
 rw [hf.out,hg.out]
 clear hv HW3
 refine wp_region_held (S:=fun w' => w'.rangeAt f 0 (bcs xs)) (by kernel_rfl) ?_
 refine zck9 0 (some 14) 156 (.tmp 6) f 0 (bcs xs) _ rfl (by kernel_rfl) (by kernel_rfl) (by kernel_rfl) (fun _ _ _ h => h) rfl (fun w' h => h) hu rfl hsz r3 ?_
 simp only [Act.put,qa,qb,qc]
 refine zck9 1 (some 15) 156 (.tmp 6) f 0 (bcs xs) _ rfl (by kernel_rfl) (by kernel_rfl) (by kernel_rfl) (fun _ _ _ h => h) rfl (fun w' h => h) hu rfl hsz r3 ?_
 simp only [Act.put,qa,qb,qc]
 refine rdT 2 (some 16) (.call { callee:=.value (.func 118),args:=#[.tmp 15],argTypes:=#[156] }) ?_
 rintro o K hd ho hgd hK
 refine zd9 (enters_of Tryz.func118 (by kernel_rfl) rfl) ho (vs:=#[.agg (bcs xs).toArray]) (by kernel_rfl) (HSM.out _) ?_
 rintro e w4 ⟨rfl,hb4⟩
 refine ⟨_,rfl,?_⟩
 rw [hd]
 have hb5 : Below w3.heap.size w3 w4:=((Below.refl _ _).drew).trans hb4
 have F4 : Hid (Fv w4 f xs):=F3.out.below hb5
 have Q4 : Hid (Bkv w4 g 0 (.slice none 0 0)):=Q3.out.below hb5
 have B4 : Hid (Below g w w4):=B3.out.trans (hb5.mono (Nat.le_of_lt Q3.out.lt))
 have r4 : w4.rangeAt f 0 (bcs xs):=F4.out.range
 refine hK _ _ r4 ?_
 clear hb4 hb5 ho hd hgd hK r3 F3 Q3 B3
 simp only [Act.put,qa,qb,qc]
 refine tkT 3 (some 17) (.binOp .neq 156 (.tmp 14) (.tmp 16) 156) (Value.bool false) (by rintro o ho w' hS1; go_simp) r4 ?_
 simp only [Act.put,qa,qb,qc]
 refine wpAnyH_done (by kernel_rfl) ?_ _
 clear r4 hq HSM
 have r4 : Hid (w4.rangeAt f 0 (bcs xs)):=F4.out.range
 have HSZ : Hid ((Tryz.prog.info? 156).map (·.size) = some (bcs xs).length):=hsz
 have HU : Hid (Tryz.prog.underlying 156 = some (.array 256 5)):=hu
 go_wp2_with (with_reducible (show wpList _ _ _ (Oper.mk _ (Op.load _ _) _ _ _ _ :: _) _ _); refine wpList_load_mid rfl 156 (.tmp 6) rfl f 0 rfl (bcs xs) _ r4.out HU.out rfl HSZ.out ?_)
 obtain ⟨K0,hK⟩:=exH (xs.getD 0 0)
 obtain ⟨Y,hYY⟩:=exH (bdy xs)
 have HYB : Hid (By Y):=by rw [<- hYY.out]; exact bdy_by HY.out
 have HM2 : Hid (mayK n (xs.getD 0 0) (bdy xs).length = true):=HM
 rw [hK.out,hYY.out] at HM HM2 hq2
 have HSO : Hid (∀ W v,Rd .u8 W v Y -> Calls Tryz.prog 90 #[.int .i64 n,.agg #[.int .i64 K0,v]] W fun e w' => e = .returned (.agg (bcs (sec n K0 Y)).toArray) /\ Below W.heap.size W w'):=fun W v hR => zbq9 n K0 v Y W hR HYB.out HM2.out
 refine (zef9 xs w4 HL.out HY.out).mono ?_
 rintro e w5 ⟨bv,rfl,wb5,b5,n5⟩
 obtain ⟨bb,bc,t5,C5,rfl,hb1,hb2,_⟩:=id wb5
 rw [hK.out,hYY.out]
 rw [hYY.out] at wb5 hb1
 have F5 : Hid (Fv w5 f xs):=F4.out.below b5
 have Q5 : Hid (Bkv w5 g 0 (.slice none 0 0)):=Q4.out.below b5
 have B5 : Hid (Below g w w5):=B4.out.trans (b5.mono (Nat.le_of_lt Q4.out.lt))
 have W5 : Hid (Wb w5 (.slice (some ⟨bb,0,none⟩) Y.length bc) Y):=wb5
 have N5 : Hid (g < bb):=zn1 Q4.out.lt (n5 bb rfl)
 obtain ⟨m,hm⟩:=exH Y.length
 rw [hm.out] at W5 hb1 HM ⊢
 have hm9 : Hid (m <= 9223372036854775807):=by show _ <= _; unfold maxLen at hb2; omega
 obtain ⟨q,hqs⟩:=exN w5.heap.size
 have HQS : Hid (w5.heap.size = q):=hqs
 obtain ⟨W6,hW6⟩:=exN (w5.alloc (.cells #[.int .i64 K0,.slice (some ⟨bb,0,none⟩) m bc] 63))
 have b6 : Below w5.heap.size w5 W6:=by rw [<- hW6]; exact (Below.refl _ _).alloc (zn6 _) _
 have V6 : Hid (Bkv W6 q K0 (.slice (some ⟨bb,0,none⟩) m bc)):=by rw [<- hW6,<- hqs]; exact zr9 w5 _ _
 have F6 : Hid (Fv W6 f xs):=F5.out.below b6
 have Q6 : Hid (Bkv W6 g 0 (.slice none 0 0)):=Q5.out.below b6
 have B6 : Hid (Below g w W6):=B5.out.trans (b6.mono (Nat.le_of_lt Q5.out.lt))
 have X6 : Hid (Wb W6 (.slice (some ⟨bb,0,none⟩) m bc) Y):=W5.out.below b6
 have HMB : Hid (∀ W,Calls Tryz.prog 89 #[.int .i64 n,.agg #[.int .i64 K0,.slice (some ⟨bb,0,none⟩) m bc]] W fun e w' => e = .returned (.bool true) /\ Below W.heap.size W w'):=fun W => by
  have h:=zcn9 n K0 (some ⟨bb,0,none⟩) m bc W hm9.out
  rw [HM.out] at h
  exact h
 have r6 : W6.drew.rangeAt f 0 (bcs xs):=F6.out.range
 have v60 : W6.drew.cell? ⟨q,0,none⟩ = some (.int .i64 K0):=V6.out.c0
 have v61 : W6.drew.cell? ⟨q,1,none⟩ = some (.slice (some ⟨bb,0,none⟩) m bc):=V6.out.c1
 unfold blk
 clear b5 n5 wb5 hb2 r4 F4 Q4 B4 F5 Q5 B5 W5 b6
 go_wp2_with fail
 clear hW6
 have hS : W6.drew.rangeAt f 0 (bcs xs) /\ W6.drew.cell? ⟨q,0,none⟩ = some (.int .i64 K0) /\ W6.drew.cell? ⟨q,1,none⟩ = some (.slice (some ⟨bb,0,none⟩) m bc):=⟨r6,v60,v61⟩
 refine wp_region_held (S:=fun w' => w'.rangeAt f 0 (bcs xs) /\ w'.cell? ⟨q,0,none⟩ = some (.int .i64 K0) /\ w'.cell? ⟨q,1,none⟩ = some (.slice (some ⟨bb,0,none⟩) m bc)) (by kernel_rfl) ?_
 refine tkT 0 (some 21) (.move (.tmp 0)) (.int .i64 n) (by rintro o ho w' ⟨hS1,hS2,hS3⟩; go_simp) hS ?_
 simp only [Act.put,qa,qb,qc]
 refine tkT 1 (some 22) (.load 63 (.tmp 7)) (.agg #[.int .i64 K0,.slice (some ⟨bb,0,none⟩) m bc]) (by rintro o ho w' ⟨hS1,hS2,hS3⟩; go_simp) hS ?_
 simp only [Act.put,qa,qb,qc]
 refine rdT 2 (some 23) (.call { callee:=.value (.func 89),args:=#[.tmp 21,.tmp 22],argTypes:=#[3,63] }) ?_
 rintro o K hd ho hgd hK
 refine zd9 (enters_of Tryz.func89 (by kernel_rfl) rfl) ho (vs:=#[.int .i64 n,.agg #[.int .i64 K0,.slice (some ⟨bb,0,none⟩) m bc]]) (by kernel_rfl) (HMB.out _) ?_
 rintro e w7 ⟨rfl,hb7⟩
 refine ⟨_,rfl,?_⟩
 rw [hd]
 have b7 : Below W6.heap.size W6 w7:=((Below.refl _ _).drew).trans hb7
 have F7 : Hid (Fv w7 f xs):=F6.out.below b7
 have V7 : Hid (Bkv w7 q K0 (.slice (some ⟨bb,0,none⟩) m bc)):=V6.out.below b7
 have Q7 : Hid (Bkv w7 g 0 (.slice none 0 0)):=Q6.out.below b7
 have B7 : Hid (Below g w w7):=B6.out.trans (b7.mono (Nat.le_of_lt Q6.out.lt))
 have X7 : Hid (Wb w7 (.slice (some ⟨bb,0,none⟩) m bc) Y):=X6.out.below b7
 have hS7 : w7.rangeAt f 0 (bcs xs) /\ w7.cell? ⟨q,0,none⟩ = some (.int .i64 K0) /\ w7.cell? ⟨q,1,none⟩ = some (.slice (some ⟨bb,0,none⟩) m bc):=⟨F7.out.range,V7.out.c0,V7.out.c1⟩
 refine hK _ _ hS7 ?_
 clear hb7 b7 ho hd hgd hK hS r6 v60 v61 F6 V6 Q6 B6 X6
 simp only [Act.put,qa,qb,qc]
 refine tkT 3 (some 24) (.unOp .not 4 (.tmp 23)) (.bool false) (by rintro o ho w' ⟨hS1,hS2,hS3⟩; go_simp) hS7 ?_
 simp only [Act.put,qa,qb,qc]
 refine tkT 4 (some 25) (.move (.tmp 24)) (.bool false) (by rintro o ho w' ⟨hS1,hS2,hS3⟩; go_simp) hS7 ?_
 simp only [Act.put,qa,qb,qc]
 refine zma9 5 (some 26) 156 (.tmp 6) 4 false f 0 (bcs xs) _ rfl (by kernel_rfl) (by kernel_rfl) (by kernel_rfl) (fun _ _ _ h => h) rfl rfl (fun w' h => h.1) hu rfl hsz hS7 ?_
 simp only [Act.put,qa,qb,qc]
 refine takeG 6 (some 27) (.move (.tmp 0)) 4 false (.int .i64 n) rfl (by kernel_rfl) (by kernel_rfl) (by kernel_rfl) (fun _ _ _ h => h) rfl ?hy hS7 ?_
 case hy =>
  rintro o ho w' ⟨hS1,hS2,hS3⟩
  go_simp
 simp only [Act.put,qa,qb,qc]
 refine takeG 7 (some 28) (.load 63 (.tmp 7)) 4 false (.agg #[.int .i64 K0,.slice (some ⟨bb,0,none⟩) m bc]) rfl (by kernel_rfl) (by kernel_rfl) (by kernel_rfl) (fun _ _ _ h => h) rfl ?hy hS7 ?_
 case hy =>
  rintro o ho w' ⟨hS1,hS2,hS3⟩
  go_simp
 simp only [Act.put,qa,qb,qc]
 refine readyG 8 (some 29) (.call { callee:=.value (.func 90),args:=#[.tmp 27,.tmp 28],argTypes:=#[3,63] }) 4 false rfl (by kernel_rfl) rfl ?_
 rintro o K hd ho hK
 refine zd9 (enters_of Tryz.func90 (by kernel_rfl) rfl) ho (vs:=#[.int .i64 n,.agg #[.int .i64 K0,.slice (some ⟨bb,0,none⟩) m bc]]) (by kernel_rfl) (HSO.out _ _ X7.out.rd) ?_
 rintro e w8 ⟨rfl,b8⟩
 refine ⟨_,rfl,?_⟩
 rw [hd]
 have F8 : Hid (Fv w8 f xs):=F7.out.below b8
 have V8 : Hid (Bkv w8 q K0 (.slice (some ⟨bb,0,none⟩) m bc)):=V7.out.below b8
 have Q8 : Hid (Bkv w8 g 0 (.slice none 0 0)):=Q7.out.below b8
 have B8 : Hid (Below g w w8):=B7.out.trans (b8.mono (Nat.le_of_lt Q7.out.lt))
 have X8 : Hid (Wb w8 (.slice (some ⟨bb,0,none⟩) m bc) Y):=X7.out.below b8
 have hS8 : w8.rangeAt f 0 (bcs xs) /\ w8.cell? ⟨q,0,none⟩ = some (.int .i64 K0) /\ w8.cell? ⟨q,1,none⟩ = some (.slice (some ⟨bb,0,none⟩) m bc):=⟨F8.out.range,V8.out.c0,V8.out.c1⟩
 refine hK _ _ hS8 ?_
 clear b8 ho hd hK hS7 F7 V7 Q7 B7 X7
 simp only [Act.put,qa,qb,qc]
 refine takeG 9 (some 30) (.binOp .neq 156 (.tmp 26) (.tmp 29) 156) 4 false (.bool true) rfl (by kernel_rfl) (by kernel_rfl) (by kernel_rfl) (fun _ _ _ h => h) rfl ?hy hS8 ?_
 case hy =>
  rintro o ho w' ⟨hS1,hS2,hS3⟩
  go_simp
 simp only [Act.put,qa,qb,qc]
 refine tkT 10 (some 31) (.pick (.tmp 25) (.const (.bool true)) (.tmp 30)) (.bool true) (by rintro o ho w' ⟨hS1,hS2,hS3⟩; go_simp) hS8 ?_
 simp only [Act.put,qa,qb,qc]
 refine wpAnyH_done (by kernel_rfl) ?_ _
 clear hS8 hq2
 have q0:=Q8.out.c0
 have q1:=Q8.out.c1
 have f0:=Q8.out.fz 0
 have f1:=Q8.out.fz 1
 have HLD:=hideP (Q8.out.put 0 (.slice none 0 0)).load
 have HBE : Hid (Below g w ((w8.setCell ⟨g,0,none⟩ (.int .i64 0)).setCell ⟨g,1,none⟩ (.slice none 0 0))):=(B8.out.setCell (zn6 _) _).setCell (zn6 _) _
 go_wp2_with fail
 refine bodyPost_ret (v:=.tuple #[blk 0 (.slice none 0 0),.int .i64 7]) (zj9 (p:=4) (ty:=63) rfl _ _ _ g _ _ rfl HLD.out rfl) rfl ?_
 exact zei9 HE.out (by decide) (by rw [hg.out]; exact HBE.out)
theorem get_ok (n : Int) (v : Value) (xs : List Int) (w : World) (hr : Rd .u8 w v xs) (hb : By xs) (hl : xs.length = 256) (he : xs = smd xs) (hm : mayK n (xs.getD 0 0) (bdy xs).length = true) (heq : xs = sec n (xs.getD 0 0) (bdy xs)) :
  Calls Tryz.prog 110 #[.int .i64 n,v] w fun e w' => GetR n xs w e w':=by
 obtain ⟨a,cap,rfl,h1,h2,_⟩:=id hr
 have HE : Hid (getE n xs = 0):=by show _ = _; unfold getE; rw [if_neg (by rw [hl]; simp),if_neg (by rw [<- he]; simp),if_pos ⟨hm,heq⟩]
 have HGB : Hid (getB n xs = (xs.getD 0 0,bdy xs)):=by show _ = _; unfold getB; rw [if_pos HE.out]
 have hq : ∀ W,(Op.equalIn 10000 156 (.agg (bcs xs).toArray) (.agg (bcs (smd xs)).toArray)).run Tryz.prog W = .ok true W:=fun W => by rw [eq_frm W xs _ hl (zfp9 hl),decide_eq_true he]
 have hq2 : ∀ W,(Op.equalIn 10000 156 (.agg (bcs xs).toArray) (.agg (bcs (sec n (xs.getD 0 0) (bdy xs))).toArray)).run Tryz.prog W = .ok true W:=fun W => by rw [eq_frm W xs _ hl (zht9 _ _ (by have:=(zv9.1 hm).2.2.2.2; omega)),decide_eq_true heq]
 have HM : Hid (mayK n (xs.getD 0 0) (bdy xs).length = true):=hm
 clear he hm heq
 obtain ⟨hv,hi⟩:=zero_of_info zbn9
 have HR : Hid (Rd .u8 w (.slice a 256 cap) xs):=by rw [<- hl]; exact hr
 have HY : Hid (By xs):=hb
 have HL : Hid (xs.length = 256):=hl
 rw [hl] at h1 ⊢
 obtain ⟨W1,hW1⟩:=exN (w.alloc (.cells #[.int .i64 0,.slice none 0 0] 63))
 have b1 : Below w.heap.size w W1:=by rw [<- hW1]; exact (Below.refl _ _).alloc (zn6 _) _
 have Q1 : Hid (Bkv W1 w.heap.size 0 (.slice none 0 0)):=by rw [<- hW1]; exact zr9 w _ _
 have B1 : Hid (Below w.heap.size w W1):=b1
 have R1 : Hid (Rd .u8 W1 (.slice a 256 cap) xs):=HR.out.below b1
 obtain ⟨Z,hZ⟩:=exH ((bcs zz).toArray)
 have HZ : Hid (Z.size = 256):=by show _ = _; rw [<- hZ.out,List.size_toArray,zf9,zz_len]
 have HI : Hid ((Tryz.prog.info? 156).map (·.size) = some 256):=hi
 rw [hZ.out] at hv
 have HSZX : Hid ((bcs xs).toArray.size = 256):=zbm9 hl
 have HONX : Hid ((bcs xs).toArray.all (·.oneCell') = true):=zay9 _
 have HSM : Hid (∀ W,Calls Tryz.prog 118 #[.agg (bcs xs).toArray] W fun e w' => e = .returned (.agg (bcs (smd xs)).toArray) /\ Below W.heap.size W w'):=fun W => zbb9 xs W hl hb
 have HUU : Hid (Tryz.prog.underlying 156 = some (.array 256 5)):=Tryz.underlying156
 have HSZI : Hid ((Tryz.prog.info? 156).map (·.size) = some (bcs xs).length):=by show _ = _; rw [zf9,hl]; exact hi
 clear b1 hr hb hl h2 hi
 go_enter Tryz.func110,Tryz.ntmps110
 go_wp2_with fail
 refine (zhj9 _ xs W1 R1.out HY.out HL.out).mono ?_
 rintro e w2 ⟨rfl,hb2⟩
 obtain ⟨w3,hW3⟩:=exN (w2.alloc (.cells (bcs xs).toArray 156))
 obtain ⟨f,hf⟩:=exH w2.heap.size
 have hb3 : Below w2.heap.size w2 w3:=by rw [<- hW3]; exact (Below.refl _ _).alloc (zn6 _) _
 have F3 : Hid (Fv w3 f xs):=by rw [<- hW3,<- hf.out]; exact fv_new w2 HL.out HY.out
 obtain ⟨g,hg⟩:=exH w.heap.size
 rw [hg.out] at Q1 B1
 have Q3 : Hid (Bkv w3 g 0 (.slice none 0 0)):=(Q1.out.below hb2).below hb3
 have B2 : Below g w w2:=B1.out.trans (hb2.mono (Nat.le_of_lt Q1.out.lt))
 have B3 : Hid (Below g w w3):=B2.trans (hb3.mono (by have:=(Q1.out.below hb2).lt; omega))
 have HW3 : Hid (w2.alloc (.cells (bcs xs).toArray 156) = w3):=hW3
 have r3 : w3.drew.rangeAt f 0 (bcs xs):=F3.out.range
 clear hW3 hb2 hb3 B2 hW1 Q1 B1 R1
 go_wp2_with (with_reducible (show wpList _ _ _ (Oper.mk _ (Op.store _ _ _) _ _ _ _ :: _) _ _); refine zc9 _ rfl 156 (.tmp 6) (.tmp 13) rfl Z (bcs xs).toArray rfl rfl (by rw [HI.out,HSZX.out]) (by rw [HZ.out,HSZX.out]) HONX.out ?_; rw [HW3.out])
 have hu:=HUU.out
 have hsz:=HSZI.out
 rw [hf.out,hg.out]
 clear hv HW3
 refine wp_region_held (S:=fun w' => w'.rangeAt f 0 (bcs xs)) (by kernel_rfl) ?_
 refine zck9 0 (some 14) 156 (.tmp 6) f 0 (bcs xs) _ rfl (by kernel_rfl) (by kernel_rfl) (by kernel_rfl) (fun _ _ _ h => h) rfl (fun w' h => h) hu rfl hsz r3 ?_
 simp only [Act.put,qa,qb,qc]
 refine zck9 1 (some 15) 156 (.tmp 6) f 0 (bcs xs) _ rfl (by kernel_rfl) (by kernel_rfl) (by kernel_rfl) (fun _ _ _ h => h) rfl (fun w' h => h) hu rfl hsz r3 ?_
 simp only [Act.put,qa,qb,qc]
 refine rdT 2 (some 16) (.call { callee:=.value (.func 118),args:=#[.tmp 15],argTypes:=#[156] }) ?_
 rintro o K hd ho hgd hK
 refine zd9 (enters_of Tryz.func118 (by kernel_rfl) rfl) ho (vs:=#[.agg (bcs xs).toArray]) (by kernel_rfl) (HSM.out _) ?_
 rintro e w4 ⟨rfl,hb4⟩
 refine ⟨_,rfl,?_⟩
 rw [hd]
 have hb5 : Below w3.heap.size w3 w4:=((Below.refl _ _).drew).trans hb4
 have F4 : Hid (Fv w4 f xs):=F3.out.below hb5
 have Q4 : Hid (Bkv w4 g 0 (.slice none 0 0)):=Q3.out.below hb5
 have B4 : Hid (Below g w w4):=B3.out.trans (hb5.mono (Nat.le_of_lt Q3.out.lt))
 have r4 : w4.rangeAt f 0 (bcs xs):=F4.out.range
 refine hK _ _ r4 ?_
 clear hb4 hb5 ho hd hgd hK r3 F3 Q3 B3
 simp only [Act.put,qa,qb,qc]
 refine tkT 3 (some 17) (.binOp .neq 156 (.tmp 14) (.tmp 16) 156) (Value.bool false) (by rintro o ho w' hS1; go_simp) r4 ?_
 simp only [Act.put,qa,qb,qc]
 refine wpAnyH_done (by kernel_rfl) ?_ _
 clear r4 hq HSM
 have r4 : Hid (w4.rangeAt f 0 (bcs xs)):=F4.out.range
 have HSZ : Hid ((Tryz.prog.info? 156).map (·.size) = some (bcs xs).length):=hsz
 have HU : Hid (Tryz.prog.underlying 156 = some (.array 256 5)):=hu
 go_wp2_with (with_reducible (show wpList _ _ _ (Oper.mk _ (Op.load _ _) _ _ _ _ :: _) _ _); refine wpList_load_mid rfl 156 (.tmp 6) rfl f 0 rfl (bcs xs) _ r4.out HU.out rfl HSZ.out ?_)
 obtain ⟨K0,hK⟩:=exH (xs.getD 0 0)
 obtain ⟨Y,hYY⟩:=exH (bdy xs)
 have HYB : Hid (By Y):=by rw [<- hYY.out]; exact bdy_by HY.out
 have HM2 : Hid (mayK n (xs.getD 0 0) (bdy xs).length = true):=HM
 rw [hK.out,hYY.out] at HM HM2 hq2
 have HSO : Hid (∀ W v,Rd .u8 W v Y -> Calls Tryz.prog 90 #[.int .i64 n,.agg #[.int .i64 K0,v]] W fun e w' => e = .returned (.agg (bcs (sec n K0 Y)).toArray) /\ Below W.heap.size W w'):=fun W v hR => zbq9 n K0 v Y W hR HYB.out HM2.out
 refine (zef9 xs w4 HL.out HY.out).mono ?_
 rintro e w5 ⟨bv,rfl,wb5,b5,n5⟩
 obtain ⟨bb,bc,t5,C5,rfl,hb1,hb2,_⟩:=id wb5
 rw [hK.out,hYY.out]
 rw [hYY.out] at wb5 hb1
 have F5 : Hid (Fv w5 f xs):=F4.out.below b5
 have Q5 : Hid (Bkv w5 g 0 (.slice none 0 0)):=Q4.out.below b5
 have B5 : Hid (Below g w w5):=B4.out.trans (b5.mono (Nat.le_of_lt Q4.out.lt))
 have W5 : Hid (Wb w5 (.slice (some ⟨bb,0,none⟩) Y.length bc) Y):=wb5
 have N5 : Hid (g < bb):=zn1 Q4.out.lt (n5 bb rfl)
 obtain ⟨m,hm⟩:=exH Y.length
 rw [hm.out] at W5 hb1 HM ⊢
 have hm9 : Hid (m <= 9223372036854775807):=by show _ <= _; unfold maxLen at hb2; omega
 obtain ⟨q,hqs⟩:=exN w5.heap.size
 have HQS : Hid (w5.heap.size = q):=hqs
 obtain ⟨W6,hW6⟩:=exN (w5.alloc (.cells #[.int .i64 K0,.slice (some ⟨bb,0,none⟩) m bc] 63))
 have b6 : Below w5.heap.size w5 W6:=by rw [<- hW6]; exact (Below.refl _ _).alloc (zn6 _) _
 have V6 : Hid (Bkv W6 q K0 (.slice (some ⟨bb,0,none⟩) m bc)):=by rw [<- hW6,<- hqs]; exact zr9 w5 _ _
 have F6 : Hid (Fv W6 f xs):=F5.out.below b6
 have Q6 : Hid (Bkv W6 g 0 (.slice none 0 0)):=Q5.out.below b6
 have B6 : Hid (Below g w W6):=B5.out.trans (b6.mono (Nat.le_of_lt Q5.out.lt))
 have X6 : Hid (Wb W6 (.slice (some ⟨bb,0,none⟩) m bc) Y):=W5.out.below b6
 have HMB : Hid (∀ W,Calls Tryz.prog 89 #[.int .i64 n,.agg #[.int .i64 K0,.slice (some ⟨bb,0,none⟩) m bc]] W fun e w' => e = .returned (.bool true) /\ Below W.heap.size W w'):=fun W => by
  have h:=zcn9 n K0 (some ⟨bb,0,none⟩) m bc W hm9.out
  rw [HM.out] at h
  exact h
 have r6 : W6.drew.rangeAt f 0 (bcs xs):=F6.out.range
 have v60 : W6.drew.cell? ⟨q,0,none⟩ = some (.int .i64 K0):=V6.out.c0
 have v61 : W6.drew.cell? ⟨q,1,none⟩ = some (.slice (some ⟨bb,0,none⟩) m bc):=V6.out.c1
 unfold blk
 clear b5 n5 wb5 hb2 r4 F4 Q4 B4 F5 Q5 B5 W5 b6
 go_wp2_with fail
 clear hW6
 have hS : W6.drew.rangeAt f 0 (bcs xs) /\ W6.drew.cell? ⟨q,0,none⟩ = some (.int .i64 K0) /\ W6.drew.cell? ⟨q,1,none⟩ = some (.slice (some ⟨bb,0,none⟩) m bc):=⟨r6,v60,v61⟩
 refine wp_region_held (S:=fun w' => w'.rangeAt f 0 (bcs xs) /\ w'.cell? ⟨q,0,none⟩ = some (.int .i64 K0) /\ w'.cell? ⟨q,1,none⟩ = some (.slice (some ⟨bb,0,none⟩) m bc)) (by kernel_rfl) ?_
 refine tkT 0 (some 21) (.move (.tmp 0)) (.int .i64 n) (by rintro o ho w' ⟨hS1,hS2,hS3⟩; go_simp) hS ?_
 simp only [Act.put,qa,qb,qc]
 refine tkT 1 (some 22) (.load 63 (.tmp 7)) (.agg #[.int .i64 K0,.slice (some ⟨bb,0,none⟩) m bc]) (by rintro o ho w' ⟨hS1,hS2,hS3⟩; go_simp) hS ?_
 simp only [Act.put,qa,qb,qc]
 refine rdT 2 (some 23) (.call { callee:=.value (.func 89),args:=#[.tmp 21,.tmp 22],argTypes:=#[3,63] }) ?_
 rintro o K hd ho hgd hK
 refine zd9 (enters_of Tryz.func89 (by kernel_rfl) rfl) ho (vs:=#[.int .i64 n,.agg #[.int .i64 K0,.slice (some ⟨bb,0,none⟩) m bc]]) (by kernel_rfl) (HMB.out _) ?_
 rintro e w7 ⟨rfl,hb7⟩
 refine ⟨_,rfl,?_⟩
 rw [hd]
 have b7 : Below W6.heap.size W6 w7:=((Below.refl _ _).drew).trans hb7
 have F7 : Hid (Fv w7 f xs):=F6.out.below b7
 have V7 : Hid (Bkv w7 q K0 (.slice (some ⟨bb,0,none⟩) m bc)):=V6.out.below b7
 have Q7 : Hid (Bkv w7 g 0 (.slice none 0 0)):=Q6.out.below b7
 have B7 : Hid (Below g w w7):=B6.out.trans (b7.mono (Nat.le_of_lt Q6.out.lt))
 have X7 : Hid (Wb w7 (.slice (some ⟨bb,0,none⟩) m bc) Y):=X6.out.below b7
 have hS7 : w7.rangeAt f 0 (bcs xs) /\ w7.cell? ⟨q,0,none⟩ = some (.int .i64 K0) /\ w7.cell? ⟨q,1,none⟩ = some (.slice (some ⟨bb,0,none⟩) m bc):=⟨F7.out.range,V7.out.c0,V7.out.c1⟩
 refine hK _ _ hS7 ?_
 clear hb7 b7 ho hd hgd hK hS r6 v60 v61 F6 V6 Q6 B6 X6
 simp only [Act.put,qa,qb,qc]
 refine tkT 3 (some 24) (.unOp .not 4 (.tmp 23)) (.bool false) (by rintro o ho w' ⟨hS1,hS2,hS3⟩; go_simp) hS7 ?_
 simp only [Act.put,qa,qb,qc]
 refine tkT 4 (some 25) (.move (.tmp 24)) (.bool false) (by rintro o ho w' ⟨hS1,hS2,hS3⟩; go_simp) hS7 ?_
 simp only [Act.put,qa,qb,qc]
 refine zma9 5 (some 26) 156 (.tmp 6) 4 false f 0 (bcs xs) _ rfl (by kernel_rfl) (by kernel_rfl) (by kernel_rfl) (fun _ _ _ h => h) rfl rfl (fun w' h => h.1) hu rfl hsz hS7 ?_
 simp only [Act.put,qa,qb,qc]
 refine takeG 6 (some 27) (.move (.tmp 0)) 4 false (.int .i64 n) rfl (by kernel_rfl) (by kernel_rfl) (by kernel_rfl) (fun _ _ _ h => h) rfl ?hy hS7 ?_
 case hy =>
  rintro o ho w' ⟨hS1,hS2,hS3⟩
  go_simp
 simp only [Act.put,qa,qb,qc]
 refine takeG 7 (some 28) (.load 63 (.tmp 7)) 4 false (.agg #[.int .i64 K0,.slice (some ⟨bb,0,none⟩) m bc]) rfl (by kernel_rfl) (by kernel_rfl) (by kernel_rfl) (fun _ _ _ h => h) rfl ?hy hS7 ?_
 case hy =>
  rintro o ho w' ⟨hS1,hS2,hS3⟩
  go_simp
 simp only [Act.put,qa,qb,qc]
 refine readyG 8 (some 29) (.call { callee:=.value (.func 90),args:=#[.tmp 27,.tmp 28],argTypes:=#[3,63] }) 4 false rfl (by kernel_rfl) rfl ?_
 rintro o K hd ho hK
 refine zd9 (enters_of Tryz.func90 (by kernel_rfl) rfl) ho (vs:=#[.int .i64 n,.agg #[.int .i64 K0,.slice (some ⟨bb,0,none⟩) m bc]]) (by kernel_rfl) (HSO.out _ _ X7.out.rd) ?_
 rintro e w8 ⟨rfl,b8⟩
 refine ⟨_,rfl,?_⟩
 rw [hd]
 have F8 : Hid (Fv w8 f xs):=F7.out.below b8
 have V8 : Hid (Bkv w8 q K0 (.slice (some ⟨bb,0,none⟩) m bc)):=V7.out.below b8
 have Q8 : Hid (Bkv w8 g 0 (.slice none 0 0)):=Q7.out.below b8
 have B8 : Hid (Below g w w8):=B7.out.trans (b8.mono (Nat.le_of_lt Q7.out.lt))
 have X8 : Hid (Wb w8 (.slice (some ⟨bb,0,none⟩) m bc) Y):=X7.out.below b8
 have hS8 : w8.rangeAt f 0 (bcs xs) /\ w8.cell? ⟨q,0,none⟩ = some (.int .i64 K0) /\ w8.cell? ⟨q,1,none⟩ = some (.slice (some ⟨bb,0,none⟩) m bc):=⟨F8.out.range,V8.out.c0,V8.out.c1⟩
 refine hK _ _ hS8 ?_
 clear b8 ho hd hK hS7 F7 V7 Q7 B7 X7
 simp only [Act.put,qa,qb,qc]
 refine takeG 9 (some 30) (.binOp .neq 156 (.tmp 26) (.tmp 29) 156) 4 false (.bool false) rfl (by kernel_rfl) (by kernel_rfl) (by kernel_rfl) (fun _ _ _ h => h) rfl ?hy hS8 ?_
 case hy =>
  rintro o ho w' ⟨hS1,hS2,hS3⟩
  go_simp
 simp only [Act.put,qa,qb,qc]
 refine tkT 10 (some 31) (.pick (.tmp 25) (.const (.bool true)) (.tmp 30)) (.bool false) (by rintro o ho w' ⟨hS1,hS2,hS3⟩; go_simp) hS8 ?_
 simp only [Act.put,qa,qb,qc]
 refine wpAnyH_done (by kernel_rfl) ?_ _
 clear hS8 hq2
 have q0:=Q8.out.c0
 have q1:=Q8.out.c1
 have f0:=Q8.out.fz 0
 have f1:=Q8.out.fz 1
 have u0:=V8.out.c0
 have u1:=V8.out.c1
 have HLD:=hideP (Q8.out.put K0 (.slice (some ⟨bb,0,none⟩) m bc)).load
 have HBE : Hid (Below g w ((w8.setCell ⟨g,0,none⟩ (.int .i64 K0)).setCell ⟨g,1,none⟩ (.slice (some ⟨bb,0,none⟩) m bc))):=(B8.out.setCell (zn6 _) _).setCell (zn6 _) _
 have HRE : Hid (Rd .u8 ((w8.setCell ⟨g,0,none⟩ (.int .i64 K0)).setCell ⟨g,1,none⟩ (.slice (some ⟨bb,0,none⟩) m bc)) (.slice (some ⟨bb,0,none⟩) m bc) Y):=
  X8.out.rd.tch (S:=fun k => k = g) (Tch.setCell (Tch.setCell (Tch.refl (fun k => k = g) w8) (p:=⟨g,0,none⟩) (fun _ => rfl) _) (p:=⟨g,1,none⟩) (fun _ => rfl) _) (fun j hj e => by cases hj; have e2 : bb = g:=e; have:=N5.out; omega)
 clear X8
 go_wp2_with fail
 refine bodyPost_ret (v:=.tuple #[blk K0 (.slice (some ⟨bb,0,none⟩) m bc),.int .i64 0]) (zj9 (p:=4) (ty:=63) rfl _ _ _ g _ _ rfl HLD.out rfl) rfl ?_
 exact ⟨_,by rw [HGB.out,HE.out,hK.out],by rw [HGB.out,hYY.out]; exact HRE.out,by rw [hg.out]; exact HBE.out,fun j hj => by cases hj; rw [hg.out]; exact Nat.le_of_lt N5.out⟩
theorem zsh9 (n : Int) (v : Value) (xs : List Int) (w : World) (hr : Rd .u8 w v xs) (hb : By xs) : Calls Tryz.prog 110 #[.int .i64 n,v] w fun e w' => GetR n xs w e w':=by
 by_cases hl : xs.length = 256
 ·by_cases he : xs = smd xs
  ·cases hm : mayK n (xs.getD 0 0) (bdy xs).length with
   | false => exact zsl9 n v xs w hr hb hl he hm
   | true =>
    by_cases hq : xs = sec n (xs.getD 0 0) (bdy xs)
    ·exact get_ok n v xs w hr hb hl he hm hq
    ·exact zsj9 n v xs w hr hb hl he hm hq
  ·exact zsm9 n v xs w hr hb hl he
 ·exact zsk9 n v xs w hr hl
end Go.Proofs.YtjhccpijpffahaaGreat
