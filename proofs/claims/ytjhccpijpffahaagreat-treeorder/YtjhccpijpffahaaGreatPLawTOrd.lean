import Derived.Test.YtjhccpijpffahaaGreatPTBeg
import Derived.Test.YtjhccpijpffahaaGreatPTPutQ
import Derived.Deep.RegionHeld3
set_option maxRecDepth 100000
set_option linter.unusedVariables false
set_option linter.unusedSimpArgs false
set_option maxHeartbeats 8000000
namespace Go.Proofs.YtjhccpijpffahaaGreat
open Go.RowKit Go.Maps Pl
def Od1 (a : AS) (x : Int) (L : List E2) : Prop:=∃ lev B,All a 2 lev x L B /\ Amp a /\ a.A.L.count 0 + B.length = 500 /\ L.length <= 150
def Od2 (a : AS) (x : Int) (L : List E2) (y : Int) (K : List E2) : Prop:=∃ lev B lew D,All a 2 lev x L B /\ All a 2 lew y K D /\ (∀ z ∈ B,z ∉ D) /\ Amp a /\ a.A.L.count 0 + B.length + D.length = 500 /\ L.length <= 150 /\ K.length <= 150
theorem zht9 {a : AS} {c lev : Nat} {x : Int} {L : List E2} {B : List Int} (h : All a c lev x L B) (m : Amp a) : 0 <= x /\ x <= 65535:=by
 have ht:=h.tr
 cases lev with
 | zero => rw [ht.1]; decide
 | succ k =>
  obtain ⟨a0,a00,n,B1,a1,a2,a3,a4,a5,rfl⟩:=ht
  have:=zev9 (s:=a.A) (x:=x) (by rw [(h.nw x List.mem_cons_self).2]; decide)
  have:=m.ao
  unfold Ao at this
  omega
theorem Od1.put {a : AS} {x : Int} {L : List E2} (h : Od1 a x L) {e : E2} (he : mayE e.1 e.2 = true) (hl : L.length < 150) : (putF a x e.1 e.2).e = 0 /\ Od1 (putF a x e.1 e.2).a (putF a x e.1 e.2).x (insE e.1 e.2 L):=by
 obtain ⟨lev,B,h1,h2,h3,h4⟩:=h
 obtain ⟨m1,m2,m3⟩:=zbu9.1 he
 have hf:=h1.tr.few.1
 obtain ⟨p1,lev',B',T,X,p2,p3,p4⟩:=znu9 h1 h2 m1 m2 m3 (by omega) (by omega)
 have:=p3.ct
 have:=len_eq p4
 exact ⟨p1,lev',B',p2,p3.amp h2,by omega,by have:=zek9 e.1 e.2 L; omega⟩
theorem Od1.two {a : AS} {x : Int} {L : List E2} (h : Od1 a x L) : Od2 a x L 0 []:=by
 obtain ⟨lev,B,h1,h2,h3,h4⟩:=h
 exact ⟨lev,B,0,[],h1,⟨⟨rfl,rfl,rfl⟩,fun y => (by simp),fun y hy => (by cases hy)⟩,fun z _ hz => (by cases hz),h2,by simpa using h3,h4,by simp⟩
theorem Od2.put {a : AS} {x y : Int} {L K : List E2} (h : Od2 a x L y K) {e : E2} (he : mayE e.1 e.2 = true) (hl : K.length < 150) : (putF a y e.1 e.2).e = 0 /\ Od2 (putF a y e.1 e.2).a x L (putF a y e.1 e.2).x (insE e.1 e.2 K):=by
 obtain ⟨lev,B,lew,D,h1,h2,h3,h4,h5,h6,h7⟩:=h
 obtain ⟨m1,m2,m3⟩:=zbu9.1 he
 have hf:=h1.tr.few.1
 have hg:=h2.tr.few.1
 obtain ⟨p1,lew',D',T,X,p2,p3,p4⟩:=znu9 h2 h4 m1 m2 m3 (by omega) (by omega)
 have:=p3.ct
 have:=len_eq p4
 have nt : ∀ z ∈ B,z ∉ T:=fun z hz ht => by have:=p3.fr z ht; have:=(h1.nw z hz).2; omega
 have nx : ∀ z ∈ B,z ∉ X:=fun z hz hx => by
  have q1 : 0 < X.count z:=List.count_pos_iff.2 hx
  have q2 : T.count z = 0:=List.count_eq_zero.2 (nt z hz)
  have q3 : D.count z = 0:=List.count_eq_zero.2 (h3 z hz)
  have:=p4 z
  omega
 refine ⟨p1,lev,B,lew',D',h1.stay p3 nx,p2,fun z hz hd => ?_,p3.amp h4,by omega,h6,by have:=zek9 e.1 e.2 K; omega⟩
 have q1 : 0 < D'.count z:=List.count_pos_iff.2 hd
 have q2 : T.count z = 0:=List.count_eq_zero.2 (nt z hz)
 have q3 : D.count z = 0:=List.count_eq_zero.2 (h3 z hz)
 have:=p4 z
 omega
theorem od0 : Od1 (as0 500) 0 []:=⟨0,[],⟨⟨rfl,rfl,rfl⟩,fun y => (by simp),fun y hy => (by cases hy)⟩,⟨by unfold Ao as0 Ah.new; simp,by unfold as0 Ah.new; simp,rfl⟩,by unfold as0 Ah.new; simp,by simp⟩
theorem Od2.ends {a : AS} {x y : Int} {L K : List E2} (h : Od2 a x L y K) : scanF a x eS eS 1000 = (L,0) /\ scanF a y eS eS 1000 = (K,0) /\ (0 <= x /\ x <= 65535) /\ (0 <= y /\ y <= 65535):=by
 obtain ⟨lev,B,lew,D,h1,h2,h3,h4,h5,h6,h7⟩:=h
 have s1:=zos9 (by decide) h1.tr h1.nd eS eS 1000
 have s2:=zos9 (by decide) h2.tr h2.nd eS eS 1000
 rw [zqy9 (by omega)] at s1 s2
 refine ⟨?_,?_,zht9 h1 h4,zht9 h2 h4⟩
 ·unfold scanF; rw [if_neg (by rw [s1.1]; decide),s1.2]
 ·unfold scanF; rw [if_neg (by rw [s2.1]; decide),s2.2]
theorem treeOrder_walk (lv : Value) (zs : List E2) (w : World) (hl : RdE w lv zs) (hll : zs.length <= 4611686018427387904) (hsz : ∀ e ∈ zs,e.1.size <= 4611686018427387904 /\ e.2.size <= 4611686018427387904) :
  Calls Tryz.prog 7 #[lv] w fun e w' => e = .returned (.bool true) /\ Below w.heap.size w w':=by
 obtain ⟨la,lc,rfl,l1,l2,l3⟩:=hl.len
 obtain ⟨L,hL⟩:=exH zs.length
 have HRD:=hideN hl
 rw [hL.out] at hll l1 HRD ⊢
 have BG:=zjh9 500 (by decide) (by decide) w
 rw [show ((500 : Nat) : Int) = 500 from rfl] at BG
 have HBG:=hideN BG
 have HSZ:=hideN hsz
 have hL63 : (L : Int) <= 9223372036854775807:=by omega
 clear BG hl hsz l3
 go_enter Tryz.func7,Tryz.ntmps7
 go_wp2_with fail
 refine HBG.out.mono ?_
 rintro e W1 ⟨U1,b,t,c,d,M,rfl,lw1,u1,bg1,bl1⟩
 have HT1 : Hid (Od w b t c d M 550 (as0 500) (.slice none 0 0) (ownL (zs.take 0)) W1):=⟨U1,lw1,bl1,u1,bg1,owE_nil _ _,fun j hj => by cases hj⟩
 clear lw1 u1 bg1 bl1 HBG
 go_wp2_with fail
 go_loopw [4,5] (fun ov iv wr => ∃ (i : Nat) (va : Option Addr) (vn vc : Nat),i <= 150 /\ i <= L /\ ov = .slice va vn vc /\ iv = .int .i64 (i : Int) /\ Hid (Od w b t c d M 550 (as0 500) (.slice va vn vc) (ownL (zs.take i)) wr)) (fun _ iv _ => 150 - (intOf iv).toNat)
 case atStart => exact ⟨0,none,0,0,zn7 _,zn7 _,rfl,rfl,HT1⟩
 case round =>
  clear HT1
  obtain ⟨i,va,vn,vc,hi150,hiL,rfl,rfl,HI⟩:=hrel
  by_cases h1 : i < L
  ·have d1 : decide ((i : Int) < (L : Int)) = true:=by rw [decide_eq_true_iff]; omega
   have d1' : decide (i < L) = true:=decide_eq_true h1
   by_cases h2 : i < 150
   ·have d2 : decide ((i : Int) < 150) = true:=by rw [decide_eq_true_iff]; omega
    have d2' : decide (i < 150) = true:=decide_eq_true h2
    have hO:=HI.out
    obtain ⟨lb,lo,rfl,ck,cv⟩:=(HRD.out.below hO.bl).at (i:=i) (by rw [hL.out]; exact h1)
    obtain ⟨x,hx⟩:=exH ((zs.getD i eZ).1)
    obtain ⟨y,hy⟩:=exH ((zs.getD i eZ).2)
    rw [hx.out] at ck
    rw [hy.out] at cv
    obtain ⟨own,hown⟩:=exH (ownL (zs.take i))
    have HOK:=hideN (ownOk zs i (by rw [hL.out]; omega))
    rw [hown.out] at hO HOK
    obtain ⟨m,hm⟩:=exH (mayE x y)
    have HMY : Hid (∀ W,Calls Tryz.prog 31 #[.string x,.string y] W fun e w' => e = .returned (.bool m) /\ w' = W):=fun W => by
     have hz:=HSZ.out (zs.getD i eZ) (zv9 (by rw [hL.out]; exact h1))
     rw [hx.out,hy.out] at hz
     rw [<- hm.out]
     exact zqi9 x y hz.1 hz.2 W
    have HST : Hid (ownL (zs.take (i + 1)) = if m = true /\ (fndE x own).2 = false then own ++ [(x,y)] else own):=by
     show _ = _
     rw [zaz9 zs (by rw [hL.out]; exact h1),zhm9,hown.out]
     unfold stepO
     rw [hx.out,hy.out,hm.out,show zs.getD i eZ = (x,y) from by rw [<- hx.out,<- hy.out]]
    have i0 : (0 : Int) <= (i : Int):=by omega
    have i1 : (i : Int) < (L : Int):=by omega
    have HO:=hideN hO
    have HCK:=hideN ck
    have HCV:=hideN cv
    have v1:=wk_nat (x:=(i : Int) + 1) (t:=i + 1) (by omega) (by omega)
    have v2:=zad9 (x:=(i : Int) + 1) (t:=i + 1) (by clear v1; omega) (by clear v1; omega)
    have HIL : Hid (i < 150 /\ i < L):=⟨h2,h1⟩
    clear hO HI hx hy
    go_wp2_with fail
    go_quiet (first | (go_at_call 31; exact Calls.quiet_of_same (HMY.out _)))
    obtain ⟨W2,hW2⟩:=exN (wr.drewN nq)
    have bq : Below wr.heap.size wr W2:=by rw [<- hW2]; exact belowN (zn6 _) nq
    have HO2:=hideN (HO.out.below bq)
    have ck2 : W2.cell? ⟨lb,lo + i * 2,none⟩ = some (.string x):=by rw [bq.cell (World.block_lt_of_cell? wr ⟨lb,lo + i * 2,none⟩ HCK.out)]; exact HCK.out
    have cv2 : W2.cell? ⟨lb,lo + i * 2 + 1,none⟩ = some (.string y):=by rw [bq.cell (World.block_lt_of_cell? wr ⟨lb,lo + i * 2 + 1,none⟩ HCV.out)]; exact HCV.out
    have GT:=zip9 (.slice va vn vc) own x W2 HO2.out.ow.rd (by have:=HOK.out.2; omega)
    have HGT:=hideN GT
    clear bq GT HO HCK HCV ck cv HMY
    try rw [hW2]
    clear hW2
    obtain ⟨f0,hf0⟩:=exH ((fndE x own).1)
    obtain ⟨f,hf⟩:=exH ((fndE x own).2)
    rw [hf0.out,hf.out] at HGT
    rw [hf.out] at HST
    go_wp2_with fail
    refine HGT.out.mono ?_
    rintro e W3 ⟨rfl,e3⟩
    obtain rfl : W2 = W3:=e3.symm
    cases m with
    | false =>
     have HI2 : Hid (Od w b t c d M 550 (as0 500) (.slice va vn vc) (ownL (zs.take (i + 1))) W2):=by
      show Od _ _ _ _ _ _ _ _ _ _ _
      rw [HST.out,if_neg (by simp)]
      exact HO2.out
     have hi2:=HIL.out
     clear HGT
     go_wp2_with fail
     clear v1 v2
     first
      | exact ⟨⟨i + 1,_,_,_,by omega,by omega,by rfl,by rfl,HI2⟩,by simp [intOf]; omega⟩
      | (go_roundw
         case rel => exact ⟨i + 1,_,_,_,by omega,by omega,by rfl,by rfl,HI2⟩
         case measure => simp [intOf]; omega)
    | true =>
     cases f with
     | true =>
      have HI2 : Hid (Od w b t c d M 550 (as0 500) (.slice va vn vc) (ownL (zs.take (i + 1))) W2):=by
       show Od _ _ _ _ _ _ _ _ _ _ _
       rw [HST.out,if_neg (by simp)]
       exact HO2.out
      have hi2:=HIL.out
      clear HGT
      go_wp2_with fail
      clear v1 v2
      first
       | exact ⟨⟨i + 1,_,_,_,by omega,by omega,by rfl,by rfl,HI2⟩,by simp [intOf]; omega⟩
       | (go_roundw
          case rel => exact ⟨i + 1,_,_,_,by omega,by omega,by rfl,by rfl,HI2⟩
          case measure => simp [intOf]; omega)
     | false =>
      obtain ⟨W4,hW4⟩:=exN (W2.alloc (.cells #[.string x,.string y] 72))
      have b4 : Below W2.heap.size W2 W4:=by rw [<- hW4]; exact za9 _ _
      have bx4 : W4.heap[W2.heap.size]? = some (.cells #[.string x,.string y] 72 (0,0)):=by rw [<- hW4]; exact heap_alloc_new W2 _
      have HC0 : Hid (W4.cell? ⟨W2.heap.size,0,none⟩ = some (.string x)):=by show _ = _; rw [cell_of_row W4 W2.heap.size 0 _ _ (0,0) bx4]; rfl
      have HC1 : Hid (W4.cell? ⟨W2.heap.size,1,none⟩ = some (.string y)):=by show _ = _; rw [cell_of_row W4 W2.heap.size 1 _ _ (0,0) bx4]; rfl
      have HO4:=hideN (HO2.out.below b4)
      have HB4 : Hid (w.heap.size <= W4.heap.size):=HO4.out.bl.size
      have HNN : Hid (own.length <= 1000000000):=by have:=HOK.out.2; show _ <= _; omega
      clear HGT b4 bx4
      go_wp2_with (at_builtin; refine zgp9 W4 rfl (.tmp 61) (.tmp 66) rfl w.heap.size (.slice va vn vc) own rfl HO4.out.ow W2.heap.size (x,y) rfl HC0.out HC1.out HNN.out HB4.out ?_)
      rintro v' W5 o5 t5 f5
      have H5:=HO4.out.grow o5 t5 f5
      obtain ⟨va5,vc5,rfl⟩:=o5.long
      obtain ⟨vn5,hvn5⟩:=exN ((own ++ [(x,y)]).length)
      rw [hvn5] at H5 ⊢
      have HI2 : Hid (Od w b t c d M 550 (as0 500) (.slice va5 vn5 vc5) (ownL (zs.take (i + 1))) W5):=by
       show Od _ _ _ _ _ _ _ _ _ _ _
       rw [HST.out,if_pos (by simp)]
       exact H5
      have hi2:=HIL.out
      clear o5 t5 f5 H5 hvn5 hW4 ck2 cv2
      go_wp2_with fail
      clear v1 v2
      first
       | exact ⟨⟨i + 1,_,_,_,by omega,by omega,by rfl,by rfl,HI2⟩,by simp [intOf]; omega⟩
       | (go_roundw
          case rel => exact ⟨i + 1,_,_,_,by omega,by omega,by rfl,by rfl,HI2⟩
          case measure => simp [intOf]; omega)
   ·have d2 : decide ((i : Int) < 150) = false:=by rw [zn4]; omega
    have d2' : decide (i < 150) = false:=decide_eq_false h2
    have hO:=HI.out
    obtain ⟨o,ho⟩:=exH (ownL (zs.take i))
    have HOK:=hideN (ownOk zs i (by rw [hL.out]; omega))
    rw [ho.out] at hO HOK
    obtain ⟨va',vc',hv',r1,r2,r3⟩:=hO.ow.rd.len
    have hvn : o.length = vn:=by cases hv'; rfl
    have hvc : vc' = vc:=by cases hv'; rfl
    rw [hvc,hvn] at r1
    rw [hvc] at r2
    have HVN:=hideN hvn
    have hv150 : vn <= 150:=by have:=HOK.out.2; omega
    have HO:=hideN hO
    clear hO HI hv' r3 hvn hvc ho
    go_wp2_with fail
    go_loopw [9,11] (fun av iv wr => ∃ (k : Nat) (x : Int) (s : AS),k <= vn /\ av = .int .i64 x /\ iv = .int .i64 (k : Int) /\ Hid (Od w b t c d M 550 s (.slice va vn vc) o wr /\ Od1 s x (insAll (o.take k)))) (fun _ iv _ => vn - (intOf iv).toNat)
    case atStart => exact ⟨0,0,as0 500,zn7 _,rfl,rfl,HO.out,od0⟩
    case round =>
     clear HO
     obtain ⟨k,x,s,hk,rfl,rfl,HJ⟩:=hrel
     by_cases g1 : k < vn
     ·have d3 : decide ((k : Int) < (vn : Int)) = true:=by rw [decide_eq_true_iff]; omega
      have d3' : decide (k < vn) = true:=decide_eq_true g1
      obtain ⟨hj1,hj2⟩:=HJ.out
      obtain ⟨ob,oo,rfl,ck,cv⟩:=hj1.drew.ow.rd.at (i:=k) (by rw [HVN.out]; exact g1)
      have hmay:=HOK.out.1.may (o.getD k eZ) (zv9 (by rw [HVN.out]; exact g1))
      have hput:=hj2.put hmay (by have:=zco9 o k (by rw [HVN.out]; omega); omega)
      rw [<- zag9,<- zaz9 o (by rw [HVN.out]; exact g1)] at hput
      have hsz:=zbu9.1 hmay
      obtain ⟨kx,hkx⟩:=exH ((o.getD k eZ).1)
      obtain ⟨ky,hky⟩:=exH ((o.getD k eZ).2)
      rw [hkx.out] at ck hput hsz
      rw [hky.out] at cv hput hsz
      have hroot : 0 <= x /\ x <= 65535:=by obtain ⟨_,_,q1,q2,_⟩:=hj2; exact zht9 q1 q2
      have PT:=hj1.drew.calls (g:=fun s => (putF s x kx ky).a) (fun U z => zcv9 x (zbb9 (by omega) (by omega)) kx ky (by omega) (by omega) _ z)
      obtain ⟨pr,hpr⟩:=exN (putF s x kx ky)
      simp only [hpr] at PT hput
      rw [hput.1] at PT
      obtain ⟨px,hpx⟩:=exN pr.x
      rw [hpx] at PT hput
      have HPT:=hideN PT
      have HP2:=hideN hput.2
      have hS : wr.drew.cell? ⟨b,3,none⟩ = some (tp t) /\ wr.drew.cell? ⟨ob,oo + k * 2,none⟩ = some (.string kx) /\ wr.drew.cell? ⟨ob,oo + k * 2 + 1,none⟩ = some (.string ky):=⟨hj1.drew.cell.1,ck,cv⟩
      have HST : Hid (∀ W6,Od w b t c d M 550 pr.a (.slice (some ⟨ob,oo,none⟩) vn vc) o W6 -> W6.cell? ⟨b,3,none⟩ = some (tp t) /\ W6.cell? ⟨ob,oo + k * 2,none⟩ = some (.string kx) /\ W6.cell? ⟨ob,oo + k * 2 + 1,none⟩ = some (.string ky)):=fun W6 h6 => by
       obtain ⟨ob',oo',e,ck6,cv6⟩:=h6.ow.rd.at (i:=k) (by rw [HVN.out]; exact g1)
       cases e
       rw [hkx.out] at ck6
       rw [hky.out] at cv6
       exact ⟨h6.cell.1,ck6,cv6⟩
      have i2 : (0 : Int) <= (k : Int):=by omega
      have i3 : (k : Int) < (vn : Int):=by omega
      have v1:=wk_nat (x:=(k : Int) + 1) (t:=k + 1) (by omega) (by omega)
      have v2:=zad9 (x:=(k : Int) + 1) (t:=k + 1) (by clear v1; omega) (by clear v1; omega)
      have HKV : Hid (k < vn):=g1
      clear hj1 hj2 ck cv hmay hput hsz hroot PT hpr HJ hpx hkx hky
      go_wp2_with fail
      go_region_held3 (fun w' => w'.cell? ⟨b,3,none⟩ = some (tp t) /\ w'.cell? ⟨ob,oo + k * 2,none⟩ = some (.string kx) /\ w'.cell? ⟨ob,oo + k * 2 + 1,none⟩ = some (.string ky)) (first | go_keep | exact hS6)
       (first
        | (go_at_call 23; refine HPT.out.mono ?_; rintro e W6 ⟨rfl,h6⟩; have hS6:=HST.out W6 h6; have H6:=hideN h6; clear h6))
      have HJ2 : Hid (Od w b t c d M 550 pr.a (.slice (some ⟨ob,oo,none⟩) vn vc) o W6 /\ Od1 pr.a px (insAll (o.take (k + 1)))):=⟨H6.out,HP2.out⟩
      clear H6 HP2 HST HPT hS hS6
      go_wp2_with fail
      clear v1 v2
      have hk2:=HKV.out
      first
       | exact ⟨⟨k + 1,_,_,by omega,by rfl,by rfl,HJ2⟩,by simp [intOf]; omega⟩
       | (go_roundw
          case rel => exact ⟨k + 1,_,_,by omega,by rfl,by rfl,HJ2⟩
          case measure => simp [intOf]; omega)
     ·have d3 : decide ((k : Int) < (vn : Int)) = false:=by rw [zn4]; omega
      have d3' : decide (k < vn) = false:=decide_eq_false g1
      obtain ⟨hj1,hj2⟩:=HJ.out
      rw [zn5 (by rw [HVN.out]; omega)] at hj2
      have HB0 : Hid (Od w b t c d M 550 s (.slice va vn vc) o wr /\ Od2 s x (insAll o) 0 (insAll ((o.drop vn).reverse))):=⟨hj1,by rw [List.drop_of_length_le (by rw [HVN.out]; omega)]; exact hj2.two⟩
      obtain ⟨q0,hq0⟩ : ∃ q : Int,q = (vn : Int) - 1:=⟨_,rfl⟩
      have u1 : IntKind.i64.wrap ((vn : Int) - 1) = q0:=by rw [hq0]; exact zar9 (by omega) (by omega)
      have u2 : wrap64 ((vn : Int) - 1) = q0:=by rw [hq0]; unfold wrap64; omega
      have HQ0:=hideN hq0
      clear hj1 hj2 HJ hq0
      go_wp2_with fail
      clear u1 u2
      go_loopw [10,14] (fun bv iv wr => ∃ (j : Nat) (q y : Int) (s : AS),j <= vn /\ bv = .int .i64 y /\ iv = .int .i64 q /\ Hid (q = (j : Int) - 1 /\ Od w b t c d M 550 s (.slice va vn vc) o wr /\ Od2 s x (insAll o) y (insAll ((o.drop j).reverse)))) (fun _ iv _ => (intOf iv + 1).toNat)
      case atStart => exact ⟨vn,_,0,s,zn6 _,rfl,rfl,HQ0.out,HB0.out⟩
      case round =>
       clear HB0
       obtain ⟨j,q,y,s2,hj,rfl,rfl,HJ⟩:=hrel
       obtain ⟨hq,hj1,hj2⟩:=HJ.out
       cases j with
       | succ p =>
        obtain rfl : q = (p : Int):=by omega
        have d4 : decide ((0 : Int) <= (p : Int)) = true:=by rw [decide_eq_true_iff]; omega
        obtain ⟨ob,oo,rfl,ck,cv⟩:=hj1.drew.ow.rd.at (i:=p) (by rw [HVN.out]; omega)
        have hmay:=HOK.out.1.may (o.getD p eZ) (zv9 (by rw [HVN.out]; omega))
        have hdr : o.drop p = o.getD p eZ :: o.drop (p + 1):=by
         rw [zn3,List.getElem?_eq_getElem (by rw [HVN.out]; omega)]
         simp
        have hput:=hj2.put hmay (by
         have:=zbo9 (o.drop (p + 1)) (by rw [List.pairwise_reverse]; exact (HOK.out.1.nd.sublist (List.drop_sublist _ _)).imp (fun q => Ne.symm q))
         rw [this.2.2,List.length_drop,HVN.out]; omega)
        rw [<- zag9,<- List.reverse_cons,<- hdr] at hput
        have hsz:=zbu9.1 hmay
        obtain ⟨kx,hkx⟩:=exH ((o.getD p eZ).1)
        obtain ⟨ky,hky⟩:=exH ((o.getD p eZ).2)
        rw [hkx.out] at ck hput hsz
        rw [hky.out] at cv hput hsz
        have hroot : 0 <= y /\ y <= 65535:=hj2.ends.2.2.2
        have PT:=hj1.drew.calls (g:=fun s => (putF s y kx ky).a) (fun U z => zcv9 y (zbb9 (by omega) (by omega)) kx ky (by omega) (by omega) _ z)
        obtain ⟨pr,hpr⟩:=exN (putF s2 y kx ky)
        simp only [hpr] at PT hput
        rw [hput.1] at PT
        obtain ⟨px,hpx⟩:=exN pr.x
        rw [hpx] at PT hput
        have HPT:=hideN PT
        have HP2:=hideN hput.2
        have hS : wr.drew.cell? ⟨b,3,none⟩ = some (tp t) /\ wr.drew.cell? ⟨ob,oo + p * 2,none⟩ = some (.string kx) /\ wr.drew.cell? ⟨ob,oo + p * 2 + 1,none⟩ = some (.string ky):=⟨hj1.drew.cell.1,ck,cv⟩
        have HPV : Hid (p + 1 <= vn):=hj
        have HST : Hid (∀ W6,Od w b t c d M 550 pr.a (.slice (some ⟨ob,oo,none⟩) vn vc) o W6 -> W6.cell? ⟨b,3,none⟩ = some (tp t) /\ W6.cell? ⟨ob,oo + p * 2,none⟩ = some (.string kx) /\ W6.cell? ⟨ob,oo + p * 2 + 1,none⟩ = some (.string ky)):=fun W6 h6 => by
         obtain ⟨ob',oo',e,ck6,cv6⟩:=h6.ow.rd.at (i:=p) (by have:=HPV.out; rw [HVN.out]; omega)
         cases e
         rw [hkx.out] at ck6
         rw [hky.out] at cv6
         exact ⟨h6.cell.1,ck6,cv6⟩
        obtain ⟨q1,hq1⟩ : ∃ q : Int,q = (p : Int) - 1:=⟨_,rfl⟩
        have u1 : IntKind.i64.wrap ((p : Int) - 1) = q1:=by rw [hq1]; exact zar9 (by omega) (by omega)
        have u2 : wrap64 ((p : Int) - 1) = q1:=by rw [hq1]; unfold wrap64; omega
        have HQ1:=hideN hq1
        have i2 : (0 : Int) <= (p : Int):=by omega
        have i3 : (p : Int) < (vn : Int):=by omega
        clear hj1 hj2 ck cv hmay hput hsz hroot PT hpr HJ hpx hkx hky hq hq1 hdr hj
        go_wp2_with fail
        go_region_held3 (fun w' => w'.cell? ⟨b,3,none⟩ = some (tp t) /\ w'.cell? ⟨ob,oo + p * 2,none⟩ = some (.string kx) /\ w'.cell? ⟨ob,oo + p * 2 + 1,none⟩ = some (.string ky)) (first | go_keep | exact hS6)
         (first
          | (go_at_call 23; refine HPT.out.mono ?_; rintro e W6 ⟨rfl,h6⟩; have hS6:=HST.out W6 h6; have H6:=hideN h6; clear h6))
        have HJ2 : Hid (q1 = (p : Int) - 1 /\ Od w b t c d M 550 pr.a (.slice (some ⟨ob,oo,none⟩) vn vc) o W6 /\ Od2 pr.a x (insAll o) px (insAll ((o.drop p).reverse))):=⟨HQ1.out,H6.out,HP2.out⟩
        clear H6 HP2 HST HPT hS hS6
        go_wp2_with fail
        clear u1 u2
        have hk2:=HPV.out
        have hk3:=HQ1.out
        first
         | exact ⟨⟨p,_,_,_,by omega,by rfl,by rfl,HJ2⟩,by simp [intOf]; omega⟩
         | (go_roundw
            case rel => exact ⟨p,_,_,_,by omega,by rfl,by rfl,HJ2⟩
            case measure => simp [intOf]; omega)
       | zero =>
        obtain rfl : q = -1:=by omega
        rw [List.drop_zero] at hj2
        obtain ⟨z1,z2,z3⟩:=zfh9 HOK.out.1
        rw [z1] at hj2
        obtain ⟨s1,s3,hx,hy⟩:=hj2.ends
        obtain ⟨I,hI⟩:=exH (insAll o)
        rw [hI.out] at s1 s3 z2
        obtain ⟨U,hU⟩:=hj1
        have SC:=zcg9 x hx eS eS 1000 (by decide) wr hU.lw.tz
        rw [s1] at SC
        have HSC:=hideN SC
        have HS3:=hideN s3
        have HU:=hideN hU
        have HY:=hideN hy
        have HZ2:=hideN z2
        have k3 : wr.cell? ⟨b,3,none⟩ = some (tp t):=by rw [hU.lw.cl]; rfl
        unfold eS at HSC HS3
        clear SC hj2 s1 s3 hU hx hy z1 z2 z3 HJ hq
        go_wp2_with fail
        refine HSC.out.mono ?_
        rintro e W2 ⟨v2,U2,rfl,ow2,tz2,tt2,hu2,nu2⟩
        have hO2:=HU.out.at tz2 tt2 hu2
        have SC:=zcg9 y HY.out ⟨#[]⟩ ⟨#[]⟩ 1000 (by decide) W2 hO2.lw.tz
        rw [HS3.out] at SC
        replace HSC:=hideN SC
        have HO2:=hideN hO2
        have HOW2:=hideN ow2
        have HNU2:=hideN nu2
        obtain ⟨pa,pc,rfl⟩:=ow2.long
        obtain ⟨pn,hpn⟩:=exH I.length
        rw [hpn.out] at HOW2 HNU2 HZ2 ⊢
        have k4 : W2.cell? ⟨b,3,none⟩ = some (tp t):=by rw [hO2.lw.cl]; rfl
        clear SC hO2 ow2 nu2 tz2 tt2 hu2 k3
        go_wp2_with fail
        refine HSC.out.mono ?_
        rintro e W3 ⟨v3,U3,rfl,ow3,tz3,tt3,hu3,nu3⟩
        have hO3:=HO2.out.at tz3 tt3 hu3
        have HW3:=hideN (HOW2.out.tch tt3 (fun j hj => HNU2.out j hj))
        have HOW3:=hideN ow3
        obtain ⟨qa,qc,rfl⟩:=ow3.long
        rw [hpn.out] at HOW3 ⊢
        have HSM:=hideN (zcx9 _ _ I I W3 HW3.out.rd HOW3.out.rd (by have h1:=hpn.out; have h2:=HZ2.out; have h3:=HVN.out; omega))
        rw [decide_eq_true (rfl : I = I)] at HSM
        have HB3:=hideN hO3.bl
        clear hO3 ow3 nu3 tz3 tt3 hu3 k4 HSC
        go_wp2_with fail
        refine HSM.out.mono ?_
        rintro e W4 ⟨rfl,m,rfl⟩
        have HLI:=hideN (zfj9 (W3.drewN m))
        have hpv : pn = vn:=by have h2:=HZ2.out; have h3:=HVN.out; omega
        subst hpv
        clear HSM
        go_wp2_with fail
        refine HLI.out.mono ?_
        rintro e W5 ⟨rfl,b5⟩
        have HBF : Hid (Below w.heap.size w W5):=by
         have b4 : Below w.heap.size w (W3.drewN m):=HB3.out.trans (belowN HB3.out.size m)
         exact b4.trans (b5.mono b4.size)
        clear b5 HLI
        go_wp2_with fail
        go_ret
        exact ⟨by first | rfl | simp,HBF.out⟩
  ·have d1 : decide ((i : Int) < (L : Int)) = false:=by rw [zn4]; omega
   have d1' : decide (i < L) = false:=decide_eq_false h1
   have hO:=HI.out
   obtain ⟨o,ho⟩:=exH (ownL (zs.take i))
   have HOK:=hideN (ownOk zs i (by rw [hL.out]; omega))
   rw [ho.out] at hO HOK
   obtain ⟨va',vc',hv',r1,r2,r3⟩:=hO.ow.rd.len
   have hvn : o.length = vn:=by cases hv'; rfl
   have hvc : vc' = vc:=by cases hv'; rfl
   rw [hvc,hvn] at r1
   rw [hvc] at r2
   have HVN:=hideN hvn
   have hv150 : vn <= 150:=by have:=HOK.out.2; omega
   have HO:=hideN hO
   clear hO HI hv' r3 hvn hvc ho
   go_wp2_with fail
   go_loopw [9,11] (fun av iv wr => ∃ (k : Nat) (x : Int) (s : AS),k <= vn /\ av = .int .i64 x /\ iv = .int .i64 (k : Int) /\ Hid (Od w b t c d M 550 s (.slice va vn vc) o wr /\ Od1 s x (insAll (o.take k)))) (fun _ iv _ => vn - (intOf iv).toNat)
   case atStart => exact ⟨0,0,as0 500,zn7 _,rfl,rfl,HO.out,od0⟩
   case round =>
    clear HO
    obtain ⟨k,x,s,hk,rfl,rfl,HJ⟩:=hrel
    by_cases g1 : k < vn
    ·have d3 : decide ((k : Int) < (vn : Int)) = true:=by rw [decide_eq_true_iff]; omega
     have d3' : decide (k < vn) = true:=decide_eq_true g1
     obtain ⟨hj1,hj2⟩:=HJ.out
     obtain ⟨ob,oo,rfl,ck,cv⟩:=hj1.drew.ow.rd.at (i:=k) (by rw [HVN.out]; exact g1)
     have hmay:=HOK.out.1.may (o.getD k eZ) (zv9 (by rw [HVN.out]; exact g1))
     have hput:=hj2.put hmay (by have:=zco9 o k (by rw [HVN.out]; omega); omega)
     rw [<- zag9,<- zaz9 o (by rw [HVN.out]; exact g1)] at hput
     have hsz:=zbu9.1 hmay
     obtain ⟨kx,hkx⟩:=exH ((o.getD k eZ).1)
     obtain ⟨ky,hky⟩:=exH ((o.getD k eZ).2)
     rw [hkx.out] at ck hput hsz
     rw [hky.out] at cv hput hsz
     have hroot : 0 <= x /\ x <= 65535:=by obtain ⟨_,_,q1,q2,_⟩:=hj2; exact zht9 q1 q2
     have PT:=hj1.drew.calls (g:=fun s => (putF s x kx ky).a) (fun U z => zcv9 x (zbb9 (by omega) (by omega)) kx ky (by omega) (by omega) _ z)
     obtain ⟨pr,hpr⟩:=exN (putF s x kx ky)
     simp only [hpr] at PT hput
     rw [hput.1] at PT
     obtain ⟨px,hpx⟩:=exN pr.x
     rw [hpx] at PT hput
     have HPT:=hideN PT
     have HP2:=hideN hput.2
     have hS : wr.drew.cell? ⟨b,3,none⟩ = some (tp t) /\ wr.drew.cell? ⟨ob,oo + k * 2,none⟩ = some (.string kx) /\ wr.drew.cell? ⟨ob,oo + k * 2 + 1,none⟩ = some (.string ky):=⟨hj1.drew.cell.1,ck,cv⟩
     have HST : Hid (∀ W6,Od w b t c d M 550 pr.a (.slice (some ⟨ob,oo,none⟩) vn vc) o W6 -> W6.cell? ⟨b,3,none⟩ = some (tp t) /\ W6.cell? ⟨ob,oo + k * 2,none⟩ = some (.string kx) /\ W6.cell? ⟨ob,oo + k * 2 + 1,none⟩ = some (.string ky)):=fun W6 h6 => by
      obtain ⟨ob',oo',e,ck6,cv6⟩:=h6.ow.rd.at (i:=k) (by rw [HVN.out]; exact g1)
      cases e
      rw [hkx.out] at ck6
      rw [hky.out] at cv6
      exact ⟨h6.cell.1,ck6,cv6⟩
     have i2 : (0 : Int) <= (k : Int):=by omega
     have i3 : (k : Int) < (vn : Int):=by omega
     have v1:=wk_nat (x:=(k : Int) + 1) (t:=k + 1) (by omega) (by omega)
     have v2:=zad9 (x:=(k : Int) + 1) (t:=k + 1) (by clear v1; omega) (by clear v1; omega)
     have HKV : Hid (k < vn):=g1
     clear hj1 hj2 ck cv hmay hput hsz hroot PT hpr HJ hpx hkx hky
     go_wp2_with fail
     go_region_held3 (fun w' => w'.cell? ⟨b,3,none⟩ = some (tp t) /\ w'.cell? ⟨ob,oo + k * 2,none⟩ = some (.string kx) /\ w'.cell? ⟨ob,oo + k * 2 + 1,none⟩ = some (.string ky)) (first | go_keep | exact hS6)
      (first
       | (go_at_call 23; refine HPT.out.mono ?_; rintro e W6 ⟨rfl,h6⟩; have hS6:=HST.out W6 h6; have H6:=hideN h6; clear h6))
     have HJ2 : Hid (Od w b t c d M 550 pr.a (.slice (some ⟨ob,oo,none⟩) vn vc) o W6 /\ Od1 pr.a px (insAll (o.take (k + 1)))):=⟨H6.out,HP2.out⟩
     clear H6 HP2 HST HPT hS hS6
     go_wp2_with fail
     clear v1 v2
     have hk2:=HKV.out
     first
      | exact ⟨⟨k + 1,_,_,by omega,by rfl,by rfl,HJ2⟩,by simp [intOf]; omega⟩
      | (go_roundw
         case rel => exact ⟨k + 1,_,_,by omega,by rfl,by rfl,HJ2⟩
         case measure => simp [intOf]; omega)
    ·have d3 : decide ((k : Int) < (vn : Int)) = false:=by rw [zn4]; omega
     have d3' : decide (k < vn) = false:=decide_eq_false g1
     obtain ⟨hj1,hj2⟩:=HJ.out
     rw [zn5 (by rw [HVN.out]; omega)] at hj2
     have HB0 : Hid (Od w b t c d M 550 s (.slice va vn vc) o wr /\ Od2 s x (insAll o) 0 (insAll ((o.drop vn).reverse))):=⟨hj1,by rw [List.drop_of_length_le (by rw [HVN.out]; omega)]; exact hj2.two⟩
     obtain ⟨q0,hq0⟩ : ∃ q : Int,q = (vn : Int) - 1:=⟨_,rfl⟩
     have u1 : IntKind.i64.wrap ((vn : Int) - 1) = q0:=by rw [hq0]; exact zar9 (by omega) (by omega)
     have u2 : wrap64 ((vn : Int) - 1) = q0:=by rw [hq0]; unfold wrap64; omega
     have HQ0:=hideN hq0
     clear hj1 hj2 HJ hq0
     go_wp2_with fail
     clear u1 u2
     go_loopw [10,14] (fun bv iv wr => ∃ (j : Nat) (q y : Int) (s : AS),j <= vn /\ bv = .int .i64 y /\ iv = .int .i64 q /\ Hid (q = (j : Int) - 1 /\ Od w b t c d M 550 s (.slice va vn vc) o wr /\ Od2 s x (insAll o) y (insAll ((o.drop j).reverse)))) (fun _ iv _ => (intOf iv + 1).toNat)
     case atStart => exact ⟨vn,_,0,s,zn6 _,rfl,rfl,HQ0.out,HB0.out⟩
     case round =>
      clear HB0
      obtain ⟨j,q,y,s2,hj,rfl,rfl,HJ⟩:=hrel
      obtain ⟨hq,hj1,hj2⟩:=HJ.out
      cases j with
      | succ p =>
       obtain rfl : q = (p : Int):=by omega
       have d4 : decide ((0 : Int) <= (p : Int)) = true:=by rw [decide_eq_true_iff]; omega
       obtain ⟨ob,oo,rfl,ck,cv⟩:=hj1.drew.ow.rd.at (i:=p) (by rw [HVN.out]; omega)
       have hmay:=HOK.out.1.may (o.getD p eZ) (zv9 (by rw [HVN.out]; omega))
       have hdr : o.drop p = o.getD p eZ :: o.drop (p + 1):=by
        rw [zn3,List.getElem?_eq_getElem (by rw [HVN.out]; omega)]
        simp
       have hput:=hj2.put hmay (by
        have:=zbo9 (o.drop (p + 1)) (by rw [List.pairwise_reverse]; exact (HOK.out.1.nd.sublist (List.drop_sublist _ _)).imp (fun q => Ne.symm q))
        rw [this.2.2,List.length_drop,HVN.out]; omega)
       rw [<- zag9,<- List.reverse_cons,<- hdr] at hput
       have hsz:=zbu9.1 hmay
       obtain ⟨kx,hkx⟩:=exH ((o.getD p eZ).1)
       obtain ⟨ky,hky⟩:=exH ((o.getD p eZ).2)
       rw [hkx.out] at ck hput hsz
       rw [hky.out] at cv hput hsz
       have hroot : 0 <= y /\ y <= 65535:=hj2.ends.2.2.2
       have PT:=hj1.drew.calls (g:=fun s => (putF s y kx ky).a) (fun U z => zcv9 y (zbb9 (by omega) (by omega)) kx ky (by omega) (by omega) _ z)
       obtain ⟨pr,hpr⟩:=exN (putF s2 y kx ky)
       simp only [hpr] at PT hput
       rw [hput.1] at PT
       obtain ⟨px,hpx⟩:=exN pr.x
       rw [hpx] at PT hput
       have HPT:=hideN PT
       have HP2:=hideN hput.2
       have hS : wr.drew.cell? ⟨b,3,none⟩ = some (tp t) /\ wr.drew.cell? ⟨ob,oo + p * 2,none⟩ = some (.string kx) /\ wr.drew.cell? ⟨ob,oo + p * 2 + 1,none⟩ = some (.string ky):=⟨hj1.drew.cell.1,ck,cv⟩
       have HPV : Hid (p + 1 <= vn):=hj
       have HST : Hid (∀ W6,Od w b t c d M 550 pr.a (.slice (some ⟨ob,oo,none⟩) vn vc) o W6 -> W6.cell? ⟨b,3,none⟩ = some (tp t) /\ W6.cell? ⟨ob,oo + p * 2,none⟩ = some (.string kx) /\ W6.cell? ⟨ob,oo + p * 2 + 1,none⟩ = some (.string ky)):=fun W6 h6 => by
        obtain ⟨ob',oo',e,ck6,cv6⟩:=h6.ow.rd.at (i:=p) (by have:=HPV.out; rw [HVN.out]; omega)
        cases e
        rw [hkx.out] at ck6
        rw [hky.out] at cv6
        exact ⟨h6.cell.1,ck6,cv6⟩
       obtain ⟨q1,hq1⟩ : ∃ q : Int,q = (p : Int) - 1:=⟨_,rfl⟩
       have u1 : IntKind.i64.wrap ((p : Int) - 1) = q1:=by rw [hq1]; exact zar9 (by omega) (by omega)
       have u2 : wrap64 ((p : Int) - 1) = q1:=by rw [hq1]; unfold wrap64; omega
       have HQ1:=hideN hq1
       have i2 : (0 : Int) <= (p : Int):=by omega
       have i3 : (p : Int) < (vn : Int):=by omega
       clear hj1 hj2 ck cv hmay hput hsz hroot PT hpr HJ hpx hkx hky hq hq1 hdr hj
       go_wp2_with fail
       go_region_held3 (fun w' => w'.cell? ⟨b,3,none⟩ = some (tp t) /\ w'.cell? ⟨ob,oo + p * 2,none⟩ = some (.string kx) /\ w'.cell? ⟨ob,oo + p * 2 + 1,none⟩ = some (.string ky)) (first | go_keep | exact hS6)
        (first
         | (go_at_call 23; refine HPT.out.mono ?_; rintro e W6 ⟨rfl,h6⟩; have hS6:=HST.out W6 h6; have H6:=hideN h6; clear h6))
       have HJ2 : Hid (q1 = (p : Int) - 1 /\ Od w b t c d M 550 pr.a (.slice (some ⟨ob,oo,none⟩) vn vc) o W6 /\ Od2 pr.a x (insAll o) px (insAll ((o.drop p).reverse))):=⟨HQ1.out,H6.out,HP2.out⟩
       clear H6 HP2 HST HPT hS hS6
       go_wp2_with fail
       clear u1 u2
       have hk2:=HPV.out
       have hk3:=HQ1.out
       first
        | exact ⟨⟨p,_,_,_,by omega,by rfl,by rfl,HJ2⟩,by simp [intOf]; omega⟩
        | (go_roundw
           case rel => exact ⟨p,_,_,_,by omega,by rfl,by rfl,HJ2⟩
           case measure => simp [intOf]; omega)
      | zero =>
       obtain rfl : q = -1:=by omega
       rw [List.drop_zero] at hj2
       obtain ⟨z1,z2,z3⟩:=zfh9 HOK.out.1
       rw [z1] at hj2
       obtain ⟨s1,s3,hx,hy⟩:=hj2.ends
       obtain ⟨I,hI⟩:=exH (insAll o)
       rw [hI.out] at s1 s3 z2
       obtain ⟨U,hU⟩:=hj1
       have SC:=zcg9 x hx eS eS 1000 (by decide) wr hU.lw.tz
       rw [s1] at SC
       have HSC:=hideN SC
       have HS3:=hideN s3
       have HU:=hideN hU
       have HY:=hideN hy
       have HZ2:=hideN z2
       have k3 : wr.cell? ⟨b,3,none⟩ = some (tp t):=by rw [hU.lw.cl]; rfl
       unfold eS at HSC HS3
       clear SC hj2 s1 s3 hU hx hy z1 z2 z3 HJ hq
       go_wp2_with fail
       refine HSC.out.mono ?_
       rintro e W2 ⟨v2,U2,rfl,ow2,tz2,tt2,hu2,nu2⟩
       have hO2:=HU.out.at tz2 tt2 hu2
       have SC:=zcg9 y HY.out ⟨#[]⟩ ⟨#[]⟩ 1000 (by decide) W2 hO2.lw.tz
       rw [HS3.out] at SC
       replace HSC:=hideN SC
       have HO2:=hideN hO2
       have HOW2:=hideN ow2
       have HNU2:=hideN nu2
       obtain ⟨pa,pc,rfl⟩:=ow2.long
       obtain ⟨pn,hpn⟩:=exH I.length
       rw [hpn.out] at HOW2 HNU2 HZ2 ⊢
       have k4 : W2.cell? ⟨b,3,none⟩ = some (tp t):=by rw [hO2.lw.cl]; rfl
       clear SC hO2 ow2 nu2 tz2 tt2 hu2 k3
       go_wp2_with fail
       refine HSC.out.mono ?_
       rintro e W3 ⟨v3,U3,rfl,ow3,tz3,tt3,hu3,nu3⟩
       have hO3:=HO2.out.at tz3 tt3 hu3
       have HW3:=hideN (HOW2.out.tch tt3 (fun j hj => HNU2.out j hj))
       have HOW3:=hideN ow3
       obtain ⟨qa,qc,rfl⟩:=ow3.long
       rw [hpn.out] at HOW3 ⊢
       have HSM:=hideN (zcx9 _ _ I I W3 HW3.out.rd HOW3.out.rd (by have h1:=hpn.out; have h2:=HZ2.out; have h3:=HVN.out; omega))
       rw [decide_eq_true (rfl : I = I)] at HSM
       have HB3:=hideN hO3.bl
       clear hO3 ow3 nu3 tz3 tt3 hu3 k4 HSC
       go_wp2_with fail
       refine HSM.out.mono ?_
       rintro e W4 ⟨rfl,m,rfl⟩
       have HLI:=hideN (zfj9 (W3.drewN m))
       have hpv : pn = vn:=by have h2:=HZ2.out; have h3:=HVN.out; omega
       subst hpv
       clear HSM
       go_wp2_with fail
       refine HLI.out.mono ?_
       rintro e W5 ⟨rfl,b5⟩
       have HBF : Hid (Below w.heap.size w W5):=by
        have b4 : Below w.heap.size w (W3.drewN m):=HB3.out.trans (belowN HB3.out.size m)
        exact b4.trans (b5.mono b4.size)
       clear b5 HLI
       go_wp2_with fail
       go_ret
       exact ⟨by first | rfl | simp,HBF.out⟩
end Go.Proofs.YtjhccpijpffahaaGreat
