import Derived.Test.YtjhccpijpffahaaGreatPTEn2
import Derived.Test.YtjhccpijpffahaaGreatPTPutT
import Derived.Deep.RegionHeld3
import Derived.Deep.CutBlock
import Derived.Deep.DeepCutAuto
set_option maxRecDepth 100000
set_option linter.unusedVariables false
set_option linter.unusedSimpArgs false
set_option maxHeartbeats 8000000
namespace Go.Proofs.YtjhccpijpffahaaGreat
open Go.RowKit Go.Maps Pl
theorem treeEmpties_walk (lv : Value) (zs : List E2) (from_ : Int) (w : World) (hl : RdE w lv zs) (hll : zs.length <= 4611686018427387904) (hsz : ∀ e ∈ zs,e.1.size <= 4611686018427387904 /\ e.2.size <= 4611686018427387904) (hfr : (Lit.int .i64 from_).wf = true) :
  Calls Tryz.prog 8 #[lv,.int .i64 from_] w fun e w' => e = .returned (.bool true) /\ Below w.heap.size w w':=by
 obtain ⟨la,lc,rfl,l1,l2,l3⟩:=hl.len
 obtain ⟨L,hL⟩:=exH zs.length
 have HRD:=hideN hl
 rw [hL.out] at hll l1 HRD ⊢
 have BG:=zjh9 500 (by decide) (by decide) w
 rw [show ((500 : Nat) : Int) = 500 from rfl] at BG
 have HBG:=hideN BG
 have HSZ:=hideN hsz
 have HFR:=hideN hfr
 have hL63 : (L : Int) <= 9223372036854775807:=by omega
 clear BG hl hsz l3 hfr
 go_enter Tryz.func8,Tryz.ntmps8
 go_wp2_with fail
 refine HBG.out.mono ?_
 rintro e W1 ⟨U1,b,t,c,d,M,rfl,lw1,u1,bg1,bl1⟩
 have HT1 : Hid (Od w b t c d M 550 (as0 500) (.slice none 0 0) [] W1 /\ Oe 2 (as0 500) 0 [] /\ ([] : List E2).length <= 0):=⟨⟨U1,lw1,bl1,u1,bg1,owE_nil _ _,fun j hj => by cases hj⟩,oe0,zn6 _⟩
 clear lw1 u1 bg1 bl1 HBG
 go_upto_block 0 with fail
 go_cut [6,7] (fun rv ov wx => ∃ (x : Int) (va : Option Addr) (vn vc : Nat) (s : AS) (K : List E2),rv = .int .i64 x /\ ov = .slice va vn vc /\ Hid (Od w b t c d M 550 s (.slice va vn vc) K wx /\ Oe 2 s x K /\ K.length <= 150))
 case first =>
  go_wp2_with fail
  go_loopw [6,7,8] (fun rv ov iv wr => ∃ (i : Nat) (x : Int) (va : Option Addr) (vn vc : Nat) (s : AS) (K : List E2),i <= 150 /\ i <= L /\ rv = .int .i64 x /\ ov = .slice va vn vc /\ iv = .int .i64 (i : Int) /\ Hid (Od w b t c d M 550 s (.slice va vn vc) K wr /\ Oe 2 s x K /\ K.length <= i)) (fun _ _ iv _ => 150 - (intOf iv).toNat)
  case atStart => exact ⟨0,0,none,0,0,as0 500,[],zn7 _,zn7 _,rfl,rfl,rfl,HT1⟩
  case round =>
   clear HT1
   obtain ⟨i,x,va,vn,vc,s,K,hi150,hiL,rfl,rfl,rfl,HI⟩:=hrel
   have HEX : Hid (Od w b t c d M 550 s (.slice va vn vc) K wr /\ Oe 2 s x K /\ K.length <= 150):=⟨HI.out.1,HI.out.2.1,by have:=HI.out.2.2; omega⟩
   by_cases h1 : i < L
   ·have d1 : decide ((i : Int) < (L : Int)) = true:=by rw [decide_eq_true_iff]; omega
    have d1' : decide (i < L) = true:=decide_eq_true h1
    by_cases h2 : i < 150
    ·have d2 : decide ((i : Int) < 150) = true:=by rw [decide_eq_true_iff]; omega
     have d2' : decide (i < 150) = true:=decide_eq_true h2
     clear HEX
     have hO:=HI.out
     obtain ⟨lb,lo,rfl,ck,cv⟩:=(HRD.out.below hO.1.bl).at (i:=i) (by rw [hL.out]; exact h1)
     obtain ⟨kx,hx⟩:=exH ((zs.getD i eZ).1)
     obtain ⟨ky,hy⟩:=exH ((zs.getD i eZ).2)
     rw [hx.out] at ck
     rw [hy.out] at cv
     have HLB : Hid (lb < w.heap.size):=by
      obtain ⟨lb',lo',e,c1,_⟩:=HRD.out.at (i:=i) (by rw [hL.out]; exact h1)
      cases e
      exact World.block_lt_of_cell? w ⟨lb,lo + i * 2,none⟩ c1
     have HCW : Hid (∀ W,Below w.heap.size w W -> W.cell? ⟨lb,lo + i * 2,none⟩ = some (.string kx) /\ W.cell? ⟨lb,lo + i * 2 + 1,none⟩ = some (.string ky)):=fun W hb => by
      obtain ⟨lb',lo',e,c1,c2⟩:=(HRD.out.below hb).at (i:=i) (by rw [hL.out]; exact h1)
      cases e
      rw [hx.out] at c1
      rw [hy.out] at c2
      exact ⟨c1,c2⟩
     obtain ⟨m,hm⟩:=exH (mayE kx ky)
     have HKS : Hid (kx.size <= 4611686018427387904 /\ ky.size <= 4611686018427387904):=by
      have hz:=HSZ.out (zs.getD i eZ) (zan9 (by rw [hL.out]; exact h1))
      rw [hx.out,hy.out] at hz
      exact hz
     have HMY : Hid (∀ W,Calls Tryz.prog 31 #[.string kx,.string ky] W fun e w' => e = .returned (.bool m) /\ w' = W):=fun W => by
      rw [<- hm.out]
      exact zqr9 kx ky HKS.out.1 HKS.out.2 W
     have i0 : (0 : Int) <= (i : Int):=by omega
     have i1 : (i : Int) < (L : Int):=by omega
     have HO:=hideN hO
     have v1:=wk_nat (x:=(i : Int) + 1) (t:=i + 1) (by omega) (by omega)
     have v2:=zs9 (x:=(i : Int) + 1) (t:=i + 1) (by clear v1; omega) (by clear v1; omega)
     have HIL : Hid (i < 150 /\ i < L):=⟨h2,h1⟩
     clear hO HI hx hy
     go_wp2_with fail
     go_quiet (first | (go_at_call 31; exact Calls.quiet_of_same (HMY.out _)))
     obtain ⟨W2,hW2⟩:=exN (wr.drewN nq)
     have bq : Below wr.heap.size wr W2:=by rw [<- hW2]; exact belowN (zn6 _) nq
     have HO2:=hideN (HO.out.1.below bq)
     have HOE:=hideN HO.out.2
     try rw [hW2]
     clear bq HO ck cv HMY hW2
     cases m with
     | false =>
      have hi2:=HIL.out
      have HI2 : Hid (Od w b t c d M 550 s (.slice va vn vc) K W2 /\ Oe 2 s x K /\ K.length <= i + 1):=⟨HO2.out,HOE.out.1,by have:=HOE.out.2; omega⟩
      go_wp2_with fail
      clear v1 v2
      first
       | exact ⟨⟨i + 1,_,_,_,_,_,_,by omega,by omega,by rfl,by rfl,by rfl,HI2⟩,by simp [intOf]; omega⟩
       | (go_roundw
          case rel => exact ⟨i + 1,_,_,_,_,_,_,by omega,by omega,by rfl,by rfl,by rfl,HI2⟩
          case measure => simp [intOf]; omega)
     | true =>
      have hput:=HOE.out.1.put (e:=(kx,ky)) hm.out (by have:=HOE.out.2; have:=HIL.out; omega)
      have hroot:=HOE.out.1.root
      have hd:=HO2.out.drew
      have PT:=hd.calls (g:=fun s => (putF s x kx ky).a) (fun U z => zld9 x (zap9 (by omega) (by omega)) kx ky HKS.out.1 HKS.out.2 _ z)
      obtain ⟨pr,hpr⟩:=exN (putF s x kx ky)
      simp only [hpr] at PT hput
      rw [hput.1] at PT
      obtain ⟨px,hpx⟩:=exN pr.x
      rw [hpx] at PT hput
      have HPT:=hideN PT
      have HP2:=hideN hput.2
      have hS : W2.drew.cell? ⟨b,3,none⟩ = some (tp t) /\ W2.drew.cell? ⟨lb,lo + i * 2,none⟩ = some (.string kx) /\ W2.drew.cell? ⟨lb,lo + i * 2 + 1,none⟩ = some (.string ky):=⟨hd.cell.1,HCW.out _ hd.bl⟩
      have HST : Hid (∀ W6,Od w b t c d M 550 pr.a (.slice va vn vc) K W6 -> W6.cell? ⟨b,3,none⟩ = some (tp t) /\ W6.cell? ⟨lb,lo + i * 2,none⟩ = some (.string kx) /\ W6.cell? ⟨lb,lo + i * 2 + 1,none⟩ = some (.string ky)):=fun W6 h6 => ⟨h6.cell.1,HCW.out _ h6.bl⟩
      have HUP:=hideN hroot.2
      clear hput hroot hd PT hpr hpx
      go_wp2_with fail
      go_region_held3 (fun w' => w'.cell? ⟨b,3,none⟩ = some (tp t) /\ w'.cell? ⟨lb,lo + i * 2,none⟩ = some (.string kx) /\ w'.cell? ⟨lb,lo + i * 2 + 1,none⟩ = some (.string ky)) (first | go_keep | exact hS6)
       (first
        | (go_at_call 23; refine HPT.out.mono ?_; rintro e W6 ⟨rfl,h6⟩; have hS6:=HST.out W6 h6; have H6:=hideN h6; clear h6))
      clear hS hS6 HPT HST
      have RP:=zin9 (.slice va vn vc) K kx ky W6.drew H6.out.drew.ow.rd HUP.out (by have:=HOE.out.2; have:=HIL.out; omega)
      have HRP:=hideN RP
      have hS : W6.drew.cell? ⟨lb,lo + i * 2,none⟩ = some (.string kx) /\ W6.drew.cell? ⟨lb,lo + i * 2 + 1,none⟩ = some (.string ky):=HCW.out _ H6.out.drew.bl
      have HST : Hid (∀ W7,Below W6.drew.heap.size W6.drew W7 -> W7.cell? ⟨lb,lo + i * 2,none⟩ = some (.string kx) /\ W7.cell? ⟨lb,lo + i * 2 + 1,none⟩ = some (.string ky)):=fun W7 h7 => HCW.out _ (H6.out.drew.bl.trans (h7.mono H6.out.drew.bl.size))
      clear RP
      go_wp2_with fail
      go_region_held3 (fun w' => w'.cell? ⟨lb,lo + i * 2,none⟩ = some (.string kx) /\ w'.cell? ⟨lb,lo + i * 2 + 1,none⟩ = some (.string ky)) (first | go_keep | exact hS7)
       (first
        | (go_at_call 32; refine HRP.out.mono ?_; rintro e W7 ⟨v7,rfl,o7,b7⟩; have hS7:=HST.out W7 b7; have H7:=hideN (H6.out.drew.fresh b7 o7); have HL7:=hideN o7.long; obtain ⟨va7,vc7,rfl⟩:=HL7.out; clear o7 b7 HL7))
      obtain ⟨vn7,hvn7⟩:=exN ((insE kx ky K).length)
      rw [hvn7] at H7 ⊢
      have HI2 : Hid (Od w b t c d M 550 pr.a (.slice va7 vn7 vc7) (insE kx ky K) W7 /\ Oe 2 pr.a px (insE kx ky K) /\ (insE kx ky K).length <= i + 1):=⟨H7.out,HP2.out,by have h8:=zga9 kx ky K; have:=HOE.out.2; omega⟩
      have hi2:=HIL.out
      clear hS hS7 HRP HST hvn7 H7 H6 HP2 HO2
      go_wp2_with fail
      clear v1 v2
      first
       | exact ⟨⟨i + 1,_,_,_,_,_,_,by omega,by omega,by rfl,by rfl,by rfl,HI2⟩,by simp [intOf]; omega⟩
       | (go_roundw
          case rel => exact ⟨i + 1,_,_,_,_,_,_,by omega,by omega,by rfl,by rfl,by rfl,HI2⟩
          case measure => simp [intOf]; omega)
    ·have d2 : decide ((i : Int) < 150) = false:=by rw [zn4]; omega
     have d2' : decide (i < 150) = false:=decide_eq_false h2
     clear HI
     go_wp2_with fail
     go_meet
     exact ⟨_,_,_,_,_,_,rfl,rfl,HEX⟩
   ·have d1 : decide ((i : Int) < (L : Int)) = false:=by rw [zn4]; omega
    have d1' : decide (i < L) = false:=decide_eq_false h1
    clear HI
    go_wp2_with fail
    go_meet
    exact ⟨_,_,_,_,_,_,rfl,rfl,HEX⟩
 case rest =>
  clear HT1
  obtain ⟨x,va,vn,vc,s,K,rfl,rfl,HI⟩:=hcut
  have hO:=HI.out
  obtain ⟨va',vc',hv',r1,r2,r3⟩:=hO.1.ow.rd.len
  have hvn : K.length = vn:=by cases hv'; rfl
  have hvc : vc' = vc:=by cases hv'; rfl
  rw [hvc,hvn] at r1
  rw [hvc] at r2
  have HVN:=hideN hvn
  have hv150 : vn <= 150:=by have:=hO.2.2; omega
  have HO:=hideN hO
  have HUP:=hideN hO.2.1.root.2
  have PK:=znj9 from_ (vn + 1) (by omega) (by omega) HFR.out wc
  obtain ⟨pk,hpk⟩:=exN (pkT from_ (vn + 1))
  have hpl : pk < vn + 1:=by rw [<- hpk]; exact pkT_lt _ (by omega)
  rw [hpk] at PK
  have HPK:=hideN PK
  have u1:=wk_nat (x:=(vn : Int) + 1) (t:=vn + 1) (by omega) (by omega)
  have u2:=zs9 (x:=(vn : Int) + 1) (t:=vn + 1) (by clear u1; omega) (by clear u1; omega)
  clear hO HI hv' r3 hvn hvc hpk PK
  go_wp2_with fail
  clear u1 u2
  refine HPK.out.mono ?_
  rintro e W9 ⟨rfl,e9⟩
  obtain rfl : wc = W9:=e9.symm
  clear HPK
  go_wp2_with fail
  go_loopw [6,12] (fun rv iv wr => ∃ (k : Nat) (x : Int) (s : AS) (J : List E2),k <= vn /\ rv = .int .i64 x /\ iv = .int .i64 (k : Int) /\ Hid (Od w b t c d M 550 s (.slice va vn vc) K wr /\ Oe 1 s x J /\ Rem K pk k J)) (fun _ iv _ => vn - (intOf iv).toNat)
  case atStart => exact ⟨0,x,s,K,zn7 _,rfl,rfl,HO.out.1,HO.out.2.1.weak,rem0 K pk⟩
  case round =>
   clear HO
   obtain ⟨k,x,s,J,hk,rfl,rfl,HJ⟩:=hrel
   by_cases g1 : k < vn
   ·have d3 : decide ((k : Int) < (vn : Int)) = true:=by rw [decide_eq_true_iff]; omega
    have d3' : decide (k < vn) = true:=decide_eq_true g1
    obtain ⟨hj1,hj2,hj3⟩:=HJ.out
    obtain ⟨q,hq⟩:=exN ((pk + k) % vn)
    have hqv : q < vn:=by rw [<- hq]; exact Nat.mod_lt _ (by omega)
    have hmem:=hj3.mem k (zn6 _) (by rw [HVN.out]; exact g1)
    have hstep:=hj3.step HUP.out (by rw [HVN.out]; exact g1) hj2.root.2
    rw [HVN.out,hq] at hmem hstep
    obtain ⟨ob,oo,rfl,ck,cv⟩:=hj1.drew.ow.rd.at (i:=q) (by rw [HVN.out]; exact hqv)
    have hdel:=hj2.del hmem
    have hroot:=hj2.root.1
    obtain ⟨kx,hkx⟩:=exH ((K.getD q eZ).1)
    rw [hkx.out] at ck hdel hstep
    have PT:=hj1.drew.calls (g:=fun s => (delF s x kx).a) (fun U z => zpt9 x hroot kx _ z)
    obtain ⟨pr,hpr⟩:=exN (delF s x kx)
    simp only [hpr] at PT hdel
    rw [hdel.1,hdel.2.1] at PT
    obtain ⟨px,hpx⟩:=exN pr.x
    rw [hpx] at PT hdel
    have HPT:=hideN PT
    have HP2:=hideN hdel.2.2
    have HRM:=hideN hstep
    have hS : wr.drew.cell? ⟨b,3,none⟩ = some (tp t) /\ wr.drew.cell? ⟨ob,oo + q * 2,none⟩ = some (.string kx):=⟨hj1.drew.cell.1,ck⟩
    have HQV : Hid (q < vn):=hqv
    have HST : Hid (∀ W6,Od w b t c d M 550 pr.a (.slice (some ⟨ob,oo,none⟩) vn vc) K W6 -> W6.cell? ⟨b,3,none⟩ = some (tp t) /\ W6.cell? ⟨ob,oo + q * 2,none⟩ = some (.string kx)):=fun W6 h6 => by
     obtain ⟨ob',oo',e,ck6,cv6⟩:=h6.ow.rd.at (i:=q) (by rw [HVN.out]; exact HQV.out)
     cases e
     rw [hkx.out] at ck6
     exact ⟨h6.cell.1,ck6⟩
    obtain ⟨sm,hsm⟩:=exN (pk + k)
    have m1 : IntKind.i64.wrap ((pk : Int) + (k : Int)) = (sm : Int):=wk_nat (by omega) (by omega)
    have m2 : wrap64 ((pk : Int) + (k : Int)) = (sm : Int):=by clear m1; exact zs9 (by omega) (by omega)
    have m3 : (sm : Int).tmod (vn : Int) = (q : Int):=by rw [<- hq,<- hsm]; rfl
    have hn0 : (0 : Int) < (vn : Int):=by clear m1 m2 m3; omega
    have hv0 : vn ≠ 0:=by clear m1 m2 m3; omega
    have hv1 : (vn : Int) ≠ 0:=by clear m1 m2 m3; omega
    have m4 : ((vn : Int) == 0) = false:=by rw [beq_eq_false_iff_ne]; omega
    have m5 : ((vn : Int) == -1) = false:=by rw [beq_eq_false_iff_ne]; omega
    have i2 : (0 : Int) <= (q : Int):=by clear m1 m2 m3; omega
    have i3 : (q : Int) < (vn : Int):=by clear m1 m2 m3; omega
    have v1:=wk_nat (x:=(k : Int) + 1) (t:=k + 1) (by clear m1 m2 m3; omega) (by clear m1 m2 m3; omega)
    have v2:=zs9 (x:=(k : Int) + 1) (t:=k + 1) (by clear m1 m2 m3 v1; omega) (by clear m1 m2 m3 v1; omega)
    have HKV : Hid (k < vn):=g1
    clear hj1 hj2 hj3 ck cv hmem hdel hstep hroot PT hpr HJ hpx hkx hq hsm hqv
    go_wp2_with fail
    go_region_held3 (fun w' => w'.cell? ⟨b,3,none⟩ = some (tp t) /\ w'.cell? ⟨ob,oo + q * 2,none⟩ = some (.string kx)) (first | go_keep | exact hS6)
     (first
      | (go_at_call 24; refine HPT.out.mono ?_; rintro e W6 ⟨rfl,h6⟩; have hS6:=HST.out W6 h6; have H6:=hideN h6; clear h6))
    have HJ2 : Hid (Od w b t c d M 550 pr.a (.slice (some ⟨ob,oo,none⟩) vn vc) K W6 /\ Oe 1 pr.a px (delE kx J) /\ Rem K pk (k + 1) (delE kx J)):=⟨H6.out,HP2.out,HRM.out⟩
    clear H6 HP2 HRM HST HPT hS hS6 m1 m2 m3 m4 m5 hn0 hv0 hv1
    go_wp2_with fail
    clear v1 v2
    have hk2:=HKV.out
    first
     | exact ⟨⟨k + 1,_,_,_,by omega,by rfl,by rfl,HJ2⟩,by simp [intOf]; omega⟩
     | (go_roundw
        case rel => exact ⟨k + 1,_,_,_,by omega,by rfl,by rfl,HJ2⟩
        case measure => simp [intOf]; omega)
   ·have d3 : decide ((k : Int) < (vn : Int)) = false:=by rw [zn4]; omega
    have d3' : decide (k < vn) = false:=decide_eq_false g1
    obtain ⟨hj1,hj2,hj3⟩:=HJ.out
    have hJ : J = []:=List.eq_nil_of_length_eq_zero (by have h1:=hj3.len; have h2:=HVN.out; omega)
    rw [hJ] at hj2
    obtain ⟨e1,e2,e3⟩:=hj2.ends 550
    subst e1
    have FR : Calls Tryz.prog 21 #[mp M] wr fun e w' => e = .returned (.int .i64 500) /\ Od w b t c d M 550 s (.slice va vn vc) K w':=by
     obtain ⟨U,h⟩:=hj1
     refine (tzFree wr h.lw.tz).mono ?_
     rintro e w' ⟨rfl,q,rfl⟩
     exact ⟨by rw [e2],U,h.below (belowN (zn6 _) q)⟩
    have HFRE:=hideN FR
    have HE3:=hideN e3
    have k2:=hj1.cell.2
    clear FR hj1 hj2 hj3 HJ e2 e3 hJ
    go_wp2_with fail
    refine HFRE.out.mono ?_
    rintro e W5 ⟨rfl,h5⟩
    have H5:=hideN h5
    have FS : Calls Tryz.prog 25 #[tp t] W5 fun e w' => ∃ fa fc,e = .returned (.slice fa 0 fc) /\ Below w.heap.size w w':=by
     obtain ⟨U,h⟩:=h5
     refine (zmn9 W5 h.lw.tz).mono ?_
     rintro e w' ⟨v,rfl,ov,bv,_⟩
     rw [HE3.out] at ov
     have hl : ∃ fa fc,v = .slice fa 0 fc:=by
      rcases ov.2 with ⟨e,_⟩ | ⟨g,cap,cur,e,_⟩
      ·exact ⟨none,0,e⟩
      ·exact ⟨_,cap,e⟩
     obtain ⟨fa,fc,e⟩:=hl
     exact ⟨fa,fc,by rw [e],h.bl.trans (bv.mono h.bl.size)⟩
    have HFS:=hideN FS
    have k3:=h5.cell.1
    clear FS h5 HFRE k2
    go_wp2_with fail
    refine HFS.out.mono ?_
    rintro e W6 ⟨fa,fc,rfl,b6⟩
    have HB6:=hideN b6
    have HLI:=hideN (zkq9 W6)
    clear b6 HFS k3
    go_wp2_with fail
    refine HLI.out.mono ?_
    rintro e W7 ⟨rfl,b7⟩
    have HBF : Hid (Below w.heap.size w W7):=HB6.out.trans (b7.mono HB6.out.size)
    clear b7 HLI
    go_wp2_with fail
    go_ret
    exact ⟨by first | rfl | simp,HBF.out⟩
end Go.Proofs.YtjhccpijpffahaaGreat
