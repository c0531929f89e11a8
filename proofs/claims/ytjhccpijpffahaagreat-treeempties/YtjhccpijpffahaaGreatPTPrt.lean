import Derived.Test.YtjhccpijpffahaaGreatPTBz
import Derived.Test.YtjhccpijpffahaaGreatPTRpl
set_option maxRecDepth 100000
set_option linter.unusedVariables false
set_option linter.unusedSimpArgs false
set_option maxHeartbeats 8000000
namespace Go.Proofs.YtjhccpijpffahaaGreat
open Go.RowKit Go.Maps Pl
section
variable {H : Nat -> Prop} {t cc d M N : Nat} {a : AS} {b : CB} {c : CH} {R : Nat -> Prop} {w0 : World}
theorem zne9 (a : AS) (x : Int) : look a x 17 = (7,noneN):=rfl
theorem zic9 (D : CD) (a : AS) (c : CH) (x : Int) : belowF D 1 a c x 17 = belowF D 0 a c x 17:=by
 rw [belowF,belowF,zne9]
 rfl
theorem zfa9 (D : CD) (hC : Clo R w0 b D) (K : Nat) (hK : K <= 500) : ∀ (f lv : Nat),f + lv = 17 -> 1 <= lv -> BelC R w0 t cc d M N b D K f lv
 | 0,lv,h,h1 => by
  obtain rfl : lv = 17:=by omega
  intro H w a c x hx G hS htk hgn hcl
  have h2:=zdn9 (t:=t) (cc:=cc) (d:=d) (M:=M) (N:=N) D hC (K + 2) 0 17 (by omega) ⟨by omega,by omega⟩ (fun e => by omega)
  refine (h2 H w a c x hx G hS (by omega) (by omega) hcl).mono ?_
  rintro e w' ⟨h3,h4⟩
  rw [zic9] at h3 h4
  refine ⟨h3,?_⟩
  rw [belowF]
  exact zcs9 (by omega) (by omega) hcl
 | f + 1,lv,h,h1 => zdn9 D hC K f lv (by omega) ⟨h1,by omega⟩ (fun _ => zfa9 D hC K hK f (lv + 1) (by omega) (by omega))
theorem zti9 (B : Nat) (w : World) : Ow3 B w leaf0 (.slice none 0 0) (.slice none 0 0) (.slice none 0 0):=⟨zal9 _ _ _,zal9 _ _ _,zal9 _ _ _,fun j e => by cases e⟩
theorem zlx9 : SzT leaf0:=sz_of (by simp [leaf0]) (by simp [leaf0]) (by simp [leaf0]) (by simp [leaf0]) (by simp [leaf0])
theorem zkz9 (D : CD) (hC : Clo R w0 b D) (x : Int) (hx : (Lit.int .i64 x).wf = true) (w : World) (G : Gz H w t cc d M N a b c) (hS : Stay R w0 w H) (hc : c = ch0) :
  Calls Tryz.prog 113 #[chp b,.int .i64 x] w fun e w' => BelT H w t cc d M N b (partsF D a c x) e w' /\ BlOk c 16 (partsF D a c x):=by
 subst hc
 obtain ⟨g,caps,hfv,hen,hat⟩:=hC.fn
 by_cases hx0 : x = 0
 ·subst hx0
  have HR : Hid (partsF D a ch0 0 = ⟨0,piecesF (D.lf leaf0),a,ch0⟩):=if_pos rfl
  have hsz:=hC.sz leaf0 zlx9 (by decide) rfl
  have HOK : Hid (BlOk ch0 16 (partsF D a ch0 0)):=by
   show BlOk _ _ _
   rw [HR.out]
   exact ⟨zes9 hsz,by simp,by simp,zdb9 _,by simp [ch0]⟩
  have c2 : w.cell? ⟨b.cb,2,none⟩ = some (.func (.func g) #[] caps):=by rw [<- hfv]; exact G.c2
  have HAT:=hideN (hat leaf0 _ _ _ w w.heap.size (fun k hk => (hS k hk).2.2) (fun k hk => (hS k hk).1) (zn6 _) (zti9 _ _) zlx9.sm (by decide) rfl)
  have HPC : Hid (∀ (W : World) (y1 y2 y3 : Value),Ow3 w.heap.size W (D.lf leaf0) y1 y2 y3 -> Calls Tryz.prog 142 #[nod (D.lf leaf0).lf y1 y2 y3] W fun e w' => ∃ v,e = .returned v /\ Ps (fun j => (w.heap.size <= j ∨ W.heap.size <= j) /\ j < w'.heap.size) w' v (piecesF (D.lf leaf0)) /\ Below W.heap.size W w'):=fun W y1 y2 y3 h => zas9 _ y1 y2 y3 (fun j => w.heap.size <= j) W h.nn hsz.sm (fun j hj => h.fr j hj) h.lt
  have HEN:=hideN hen
  have HG:=hideN G
  obtain ⟨cb,hcb⟩:=exH b.cb
  unfold chp
  rw [hcb.out] at c2 ⊢
  clear hC hfv hen hat G hS hsz hx
  go_enter Tryz.func113,Tryz.ntmps113
  go_wp2_with fail
  rw [HEN.out]
  refine HAT.out.mono ?_
  rintro e W1 ⟨y1,y2,y3,rfl,ow1,t1,f1⟩
  have t1' : Tch (fun _ => False) w W1:=t1.mono (fun k _ e => by rcases e with e | e <;> cases e)
  have HPC1:=hideN (HPC.out W1 y1 y2 y3 ow1)
  have HG1:=hideN (HG.out.tch t1' (fun _ _ e => e))
  have HT1:=hideN t1'
  have HHL:=hideN HG.out.hl
  clear ow1 t1 f1 t1' HPC c2
  go_wp2_with fail
  refine HPC1.out.mono ?_
  rintro e W2 ⟨v2,rfl,ps2,b2⟩
  have HFIN : Hid (BelT H w t cc d M N b (partsF D a ch0 0) (.returned (.tuple #[v2,.int .i64 0])) W2 /\ BlOk ch0 16 (partsF D a ch0 0)):=by
   refine ⟨?_,HOK.out⟩
   rw [HR.out]
   refine ⟨H,_,v2,rfl,HG1.out.below b2,(HT1.out.mono (fun _ _ e => e.elim)).trans (Tch.of_below (S:=H) b2) (fun _ _ e => e),fun k e => .inl e,ps2,fun k hk => ?_⟩
   have h1 : w.heap.size <= k:=hk.1.elim id (fun e => zn2 HT1.out.size e)
   exact ⟨h1,hk.2,fun e => by have:=HHL.out k e; omega⟩
  clear ps2 b2 HPC1
  go_wp2_with fail
  go_ret2
  exact HFIN.out
 ·have HR : Hid (partsF D a ch0 x = belowF D 16 a ch0 x 1):=if_neg hx0
  have BL:=zfa9 (t:=t) (cc:=cc) (d:=d) (M:=M) (N:=N) D hC 200 (by omega) 16 1 rfl (zn6 _) H w a ch0 x hx G hS (by simp [ch0]) (by simp [ch0]) (by simp [ch0])
  rw [HR.out]
  obtain ⟨r,hr⟩:=exH (belowF D 16 a ch0 x 1)
  rw [hr.out] at BL ⊢
  have de1 : (x == 0) = false:=by rw [beq_eq_false_iff_ne]; exact hx0
  have de2 : decide (x = 0) = false:=by rw [zn4]; exact hx0
  rw [show ((1 : Nat) : Int) = 1 from rfl] at BL
  obtain ⟨cb,hcb⟩:=exH b.cb
  unfold chp at BL ⊢
  rw [hcb.out] at BL ⊢
  have HBL:=hideN BL
  clear hC hfv hen hat G hS hx hx0 BL
  go_enter Tryz.func113,Tryz.ntmps113
  go_wp2_with fail
  refine HBL.out.mono ?_
  rintro e W1 ⟨⟨H1,Z,v,rfl,h1⟩,h2⟩
  have HF:=hideN h1
  have HF2:=hideN h2
  clear h1 h2
  go_wp2_with fail
  go_ret2
  exact ⟨⟨H1,Z,v,rfl,HF.out⟩,HF2.out⟩
theorem ztv9 : SzT top0:=sz_of (fun s hs => by rw [List.mem_singleton.1 hs]; exact zn7 _) (by simp [top0]) (by simp [top0]) (by simp [top0]) (by simp [top0])
theorem zip9 (D : CD) (a : AS) (c : CH) (x : Int) : (rootedF D a c x).c.tk.length <= (partsF D a c x).c.tk.length + (partsF D a c x).ps.length + 1 /\ (rootedF D a c x).c.gn = (partsF D a c x).c.gn:=by
 unfold rootedF
 simp only
 split
 ·exact ⟨by simp only; omega,rfl⟩
 ·split
  ·exact ⟨by simp only; omega,rfl⟩
  ·split
   ·split
    ·exact ⟨by simp only; omega,rfl⟩
    ·have:=zcr9 (partsF D a c x).a (partsF D a c x).c ((partsF D a c x).ps.getD 0 noneN)
     exact ⟨by omega,this.2.1⟩
   ·have h1:=zbp9 (partsF D a c x).a (partsF D a c x).c top0 0 1 (partsF D a c x).ps
    unfold raiseF
    split
    ·exact ⟨by simp only; omega,rfl⟩
    ·split
     ·exact ⟨by simp only; omega,h1.2.1⟩
     ·have h2:=zcr9 (replaceF (partsF D a c x).a (partsF D a c x).c top0 0 1 (partsF D a c x).ps).a (replaceF (partsF D a c x).a (partsF D a c x).c top0 0 1 (partsF D a c x).ps).c (replaceF (partsF D a c x).a (partsF D a c x).c top0 0 1 (partsF D a c x).ps).n
      exact ⟨by omega,h2.2.1.trans h1.2.1⟩
theorem zhi9 (D : CD) (hC : Clo R w0 b D) (x : Int) (hx : (Lit.int .i64 x).wf = true) (w : World) (G : Gz H w t cc d M N a b ch0) (hS : Stay R w0 w H) :
  Calls Tryz.prog 53 #[chp b,.int .i64 x] w fun e w' => e = .returned (.tuple #[.int .i64 (madeF D a x).x,.int .i64 (madeF D a x).e]) /\ TzTo H w w' t cc d M N (madeF D a x).a:=by
 have hP:=zkz9 D hC x hx w G hS rfl
 refine zqp9 D x w (BlOk ch0 16 (partsF D a ch0 x)) (zlh9 D x w _ hP (fun h => ?_)) (fun h => ?_)
 ·have h1:=zbp9 (partsF D a ch0 x).a (partsF D a ch0 x).c top0 0 1 (partsF D a ch0 x).ps
  have h2:=h.tk
  have h3:=h.two
  have h4 : (ch0.tk).length = 0:=rfl
  exact ⟨fun p hp => (h.sz p hp).sm,by omega,by have:=h.lv; omega,by omega,(zag9 _ _ 0 1 ztv9.sm ⟨by simp [top0],by simp [top0],by simp [top0]⟩ (fun p hp => (h.sz p hp).sm) h.two).sm⟩
 ·have h2:=h.tk
  have h3:=h.two
  have h4 : (ch0.tk).length = 0:=rfl
  have h5 : (ch0.gn).length = 0:=rfl
  have h6:=h.gn
  have hc:=zip9 D a ch0 x
  rw [hc.2]
  omega
end
end Go.Proofs.YtjhccpijpffahaaGreat
