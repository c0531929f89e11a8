import Derived.Test.YtcbnmjgbnbokgaaGreatPTPutT
import Derived.Test.YtcbnmjgbnbokgaaGreatPTEnt
import Derived.Test.YtcbnmjgbnbokgaaGreatPTGetT
set_option maxRecDepth 100000
set_option linter.unusedVariables false
set_option linter.unusedSimpArgs false
set_option maxHeartbeats 8000000
namespace Go.Proofs.YtcbnmjgbnbokgaaGreat
open Go.RowKit Go.Maps Pl
theorem C1.ne {w : World} {T T' : TypeId} {b b' : Nat} {v v' : Value} (h : C1 w T b v) (h' : C1 w T' b' v') (hT : T ≠ T') : b ≠ b':=fun e => by
 subst e
 unfold C1 at h h'
 rw [h] at h'
 simp at h'
 exact hT h'.2
theorem C1.nbox {w : World} {T T' : TypeId} {b b' : Nat} {v : Value} {C : Array Value} (h : C1 w T b v) (h' : w.heap[b']? = some (.cells C T' (0,0))) (hT : T ≠ T') : b ≠ b':=fun e => by
 subst e
 unfold C1 at h
 rw [h] at h'
 simp at h'
 exact hT h'.2
theorem znc9 (n : Nd) (u1 u2 u3 : Value) (x : Int) (from_ to : ByteArray) (most : Nat) (hm : most <= 4611686018427387904) (fb tb nb mb wb t : Nat) (fv : Value) (m : Option Nat) (s : List En × Bool) (hs : s.1.length <= 15728640) (w : World) (h : Nn w n u1 u2 u3) (hv : Vk n) (v0 : Value) (hf : C1 w 9 fb (.string from_)) (ht : C1 w 9 tb (.string to)) (hb : C1 w 35 nb v0) (ho : OwE 0 w v0 s.1) (hmb : C1 w 3 mb (.int .i64 (most : Int))) (hbx : w.heap[wb]? = some (.cells #[tp t,fv,.bool s.2,.map m] 89 (0,0))) (hap : ∀ j,(u1.ownBlock = some j ∨ u2.ownBlock = some j ∨ u3.ownBlock = some j) -> ¬ (j = nb ∨ v0.ownBlock = some j) /\ j ≠ wb) :
  Calls Tryz.prog 45 #[.int .i64 x,nod n.lf u1 u2 u3,.pointer (some ⟨fb,0,none⟩),.pointer (some ⟨tb,0,none⟩),.pointer (some ⟨nb,0,none⟩),.pointer (some ⟨mb,0,none⟩),.pointer (some ⟨wb,0,none⟩)] w fun e w' =>
   ∃ r,e = .returned r /\ ∃ v',C1 w' 35 nb v' /\ OwE 0 w' v' ((scanW from_ to most).st s x n).1.1 /\ w'.heap[wb]? = some (.cells #[tp t,fv,.bool ((scanW from_ to most).st s x n).1.2,.map m] 89 (0,0)) /\ Tch (fun y => y = nb ∨ y = wb ∨ v0.ownBlock = some y) w w' /\ (∀ y,v'.ownBlock = some y -> v0.ownBlock = some y ∨ w.heap.size <= y) /\ RdV w' r (nums ((scanW from_ to most).st s x n).2) /\ (∀ j,r.ownBlock = some j -> u3.ownBlock = some j):=by
 obtain ⟨a1,c1,a2,c2,a3,c3,rfl,rfl,rfl,⟨l1,l2,l3,l4,l5,l6⟩,_,_,_⟩:=h.out
 have hL:=hv.len
 have BW:=fun W hb => zot9 n _ _ _ from_ to W (h.below hb) hv
 obtain ⟨L1,hL1⟩:=exH n.ks.length
 obtain ⟨L2,hL2⟩:=exH n.vs.length
 obtain ⟨L3,hL3⟩:=exH n.kd.length
 obtain ⟨lf,hlf⟩:=exH n.lf
 rw [hL1.out,hL2.out,hL3.out] at h hap hL
 rw [hL3.out] at l5
 rw [hL1.out,hL2.out,hL3.out,hlf.out]
 obtain ⟨va,vc,hva⟩:=ho.long
 obtain ⟨vl0,hvl0⟩:=exH s.1.length
 rw [hvl0.out] at hva
 subst hva
 obtain ⟨fi,hfi⟩:=exH (fstF n from_ to)
 obtain ⟨en,hen⟩:=exH (endF n to)
 have hef : fi <= en /\ en <= L1:=by
  rw [<- hfi.out,<- hen.out,<- hL1.out]
  refine ⟨Nat.min_le_right _ _,?_⟩
  unfold endF
  split
  ·exact zn6 _
  ·exact plc_le _ _ _
 obtain ⟨W1,hW1⟩:=exN (w.alloc (.cells #[.bool lf,.slice a1 L1 c1,.slice a2 L2 c2,.slice a3 L3 c3] 92))
 have b1 : Below w.heap.size w W1:=by rw [<- hW1]; exact za9 _ _
 have V1 : Nb W1 92 w.heap.size lf (.slice a1 L1 c1) (.slice a2 L2 c2) (.slice a3 L3 c3):=by rw [<- hW1]; exact nb_new _ _ _ _ _ _
 have BT:=BW W1 b1
 rw [hlf.out,hL1.out,hL2.out,hL3.out,hfi.out,hen.out] at BT
 unfold nod at BT ⊢
 have HBT:=hideN BT
 have f1:=(hf.below b1).c
 have t1:=(ht.below b1).c
 have vc0:=V1.c0
 have vc1:=V1.c1
 have vc2:=V1.c2
 have vc3:=V1.c3
 have HV:=hideN hv
 have HH:=hideN h
 have HB1:=hideN b1
 have HV1:=hideN V1
 have HBo:=hideN hb
 have HOo:=hideN ho
 have HMB:=hideN hmb
 have HBXo:=hideN hbx
 have HAP:=hideN hap
 have HLS : Hid (s.1.length <= 15728640 /\ L1 <= 240):=⟨hs,hL.1⟩
 have HFE : Hid (fi <= en /\ en <= L1):=hef
 have HCP : Hid (L3 <= c3):=l5
 have hnl:=hb.lt
 have hwl:=(Array.getElem?_eq_some_iff.1 hbx).1
 have hol:=ho.lt
 have HBN : Hid (¬ (w.heap.size = nb ∨ (Value.slice va vl0 vc).ownBlock = some w.heap.size)):=fun e => e.elim (fun e => by omega) (fun e => by have:=hol _ e; omega)
 have HBW : Hid (¬ w.heap.size = wb):=fun e => by omega
 have HMN : Hid (¬ (mb = nb ∨ (Value.slice va vl0 vc).ownBlock = some mb)):=fun e => e.elim (hmb.ne hb (by decide)) (ho.ne hmb (by decide))
 have HWN : Hid (¬ (wb = nb ∨ (Value.slice va vl0 vc).ownBlock = some wb)):=fun e => e.elim (fun e => hb.nbox hbx (by decide) e.symm) (ho.ne hbx (by decide))
 clear h hv hs hf ht hb ho hmb hbx hap hL l5 l1 l2 l3 l4 l6 BW b1 V1 BT hnl hwl hol hef
 go_enter Tryz.func45,Tryz.ntmps45
 go_wp2_with fail
 refine HBT.out.mono ?_
 rintro e W2 ⟨rfl,b2⟩
 have b12 : Below w.heap.size w W2:=HB1.out.trans (b2.mono HB1.out.size)
 have HN2:=hideN (HH.out.below b12)
 have HV2:=hideN (HV1.out.below b2)
 have HC2:=hideN (HBo.out.below b12)
 have HO2:=hideN (HOo.out.below b12)
 have HMB2:=hideN (HMB.out.below b12)
 have hbx2 : W2.heap[wb]? = some (.cells #[tp t,fv,.bool s.2,.map m] 89 (0,0)):=by rw [b12.block wb (Array.getElem?_eq_some_iff.1 HBXo.out).1]; exact HBXo.out
 have HAP2 : Hid (∀ j,((Value.slice a1 L1 c1).ownBlock = some j ∨ (Value.slice a2 L2 c2).ownBlock = some j ∨ (Value.slice a3 L3 c3).ownBlock = some j) -> ¬ (j = nb ∨ (Value.slice va vl0 vc).ownBlock = some j)):=fun j hj => (HAP.out j hj).1
 have HB12:=hideN b12
 have HEND : Hid (∀ (wr : World) (vk : Value) (lk : List En),C1 wr 35 nb vk -> OwE 0 wr vk lk -> Tch (fun y => y = nb ∨ (Value.slice va vl0 vc).ownBlock = some y) W2 wr -> (∀ y,vk.ownBlock = some y -> (Value.slice va vl0 vc).ownBlock = some y ∨ W2.heap.size <= y) -> ∀ bb : Bool,
   wr.cell? ⟨wb,2,none⟩ = some (.bool s.2) /\ wr.frozen? ⟨wb,2,none⟩ = false /\ C1 (wr.setCell ⟨wb,2,none⟩ (.bool bb)) 35 nb vk /\ OwE 0 (wr.setCell ⟨wb,2,none⟩ (.bool bb)) vk lk /\ (wr.setCell ⟨wb,2,none⟩ (.bool bb)).heap[wb]? = some (.cells #[tp t,fv,.bool bb,.map m] 89 (0,0)) /\ Tch (fun y => y = nb ∨ y = wb ∨ (Value.slice va vl0 vc).ownBlock = some y) w (wr.setCell ⟨wb,2,none⟩ (.bool bb)) /\ (∀ y,vk.ownBlock = some y -> (Value.slice va vl0 vc).ownBlock = some y ∨ w.heap.size <= y) /\ RdV (wr.setCell ⟨wb,2,none⟩ (.bool bb)) (.slice a3 L3 c3) (nums n.kd)):=by
  intro wr vk lk h1 h2 h3 h4 bb
  have bxr : wr.heap[wb]? = some (.cells #[tp t,fv,.bool s.2,.map m] 89 (0,0)):=by rw [h3.block wb (Array.getElem?_eq_some_iff.1 hbx2).1 HWN.out]; exact hbx2
  have tA:=tch_at wr wb 2 (.bool bb)
  have hs2:=HB12.out.size
  refine ⟨by rw [cell_of_row wr wb 2 _ _ (0,0) bxr]; rfl,frozen_of_row wr wb 2 _ _ bxr,h1.tch tA (h1.nbox bxr (by decide)),h2.tch tA (fun y hy e => h2.ne bxr (by decide) (e ▸ hy)),heap_setCell_same wr wb 2 _ _ _ bxr,((Tch.of_below (S:=fun y => y = nb ∨ y = wb ∨ (Value.slice va vl0 vc).ownBlock = some y) HB12.out).trans h3 (fun y hy e => e.elim .inl (fun e => .inr (.inr e)))).trans tA (fun y hy e => .inr (.inl e)),fun y hy => (h4 y hy).imp id (fun q => by omega),?_⟩
  exact (HN2.out.d.tch h3 (fun y hy => HAP2.out y (.inr (.inr hy)))).tch tA (fun y hy e => (HAP.out y (.inr (.inr hy))).2 e)
 have m0:=HV2.out.c0
 clear b2 b12 hbx2 HBT vc0 vc1 vc2 vc3 f1 t1 hW1
 cases lf
 ·have HSR : Hid ((scanW from_ to most).st s x n = ((s.1,decide (s.1.length = most)),(n.kd.take en).drop fi)):=by
   show _ = _
   unfold scanW
   simp only [hlf.out,hfi.out,hen.out,Bool.false_eq_true,if_false]
  obtain ⟨wr,hwr⟩ : ∃ q,q = W2:=⟨_,rfl⟩
  obtain ⟨ka,hka⟩ : ∃ q,q = va:=⟨_,rfl⟩
  obtain ⟨kl,hkl⟩ : ∃ q,q = vl0:=⟨_,rfl⟩
  obtain ⟨kc,hkc⟩ : ∃ q,q = vc:=⟨_,rfl⟩
  subst hwr hka hkl hkc
  have hI : C1 wr 35 nb (.slice ka kl kc) /\ OwE 0 wr (.slice ka kl kc) s.1 /\ Tch (fun y => y = nb ∨ (Value.slice ka kl kc).ownBlock = some y) wr wr /\ (∀ y,(Value.slice ka kl kc).ownBlock = some y -> (Value.slice ka kl kc).ownBlock = some y ∨ wr.heap.size <= y):=⟨HC2.out,HO2.out,Tch.refl _ _,fun y hy => .inl hy⟩
  have g1:=hI.1.c
  have mb':=HMB2.out.c
  have h13 : L1 = L3:=by rw [<- hL1.out,<- hL3.out]; exact (HV.out.inner hlf.out).2.1.symm
  subst h13
  obtain ⟨bb,hbb⟩:=exH (decide ((s.1).length = most))
  have hll : (s.1).length = kl:=by obtain ⟨_,_,e⟩:=hI.2.1.long; cases e; rfl
  have q1 : decide ((kl : Int) = (most : Int)) = bb:=by
   rw [<- hbb.out,hll]
   by_cases q : kl = most
   ·rw [decide_eq_true q,decide_eq_true (by omega)]
   ·rw [decide_eq_false q,decide_eq_false (by omega)]
  have q2 : ((kl : Int) == (most : Int)) = bb:=by
   rw [<- q1]
   by_cases q : (kl : Int) = (most : Int)
   ·rw [decide_eq_true q,beq_iff_eq]; exact q
   ·rw [decide_eq_false q,beq_eq_false_iff_ne]; exact q
  have hE:=HEND.out wr (.slice ka kl kc) _ hI.1 hI.2.1 hI.2.2.1 hI.2.2.2 bb
  obtain ⟨X,hX⟩:=exN (wr.setCell ⟨wb,2,none⟩ (.bool bb))
  rw [hX] at hE
  have e2:=hE.1
  have e3:=hE.2.1
  have HEE:=hideN hE.2.2
  have V9:=HV2.out.tch hI.2.2.1 HBN.out
  have t9 : Tch (fun y => y = wb) wr X:=by rw [<- hX]; exact tch_at _ _ _ _
  have V9':=V9.tch t9 HBW.out
  have n0:=V9'.c0
  have n3:=V9'.c3
  clear hE hI V9 V9' t9 hll
  have SL:=fun W => partIV a3 L1 c3 fi en HFE.out.1 HFE.out.2 HCP.out W
  obtain ⟨sb',sc',hsl⟩:=zep9 (b:=a3) fi en c3
  have hown : ∀ j,(sliced a3 fi en c3 1).ownBlock = some j -> (Value.slice a3 L1 c3).ownBlock = some j:=fun j hj => zcy9 hj
  have hrd : RdV X (sliced a3 fi en c3 1) (nums ((n.kd.take en).drop fi)):=by
   have h4:=HEE.out.2.2.2.2.2
   have e3' : L1 = (nums n.kd).length:=by rw [zh9,hL3.out]
   rw [e3'] at h4
   have:=zak9 h4 fi en HFE.out.1 (by rw [zh9,hL3.out]; exact HFE.out.2)
   have e4 : ((nums n.kd).drop fi).take (en - fi) = nums ((n.kd.take en).drop fi):=by
    rw [nums,nums,List.map_drop,List.map_take,List.drop_take]
   rw [e4] at this
   exact this
  obtain ⟨df,hdf⟩:=exH (en - fi)
  rw [hsl,hdf.out] at SL hown hrd
  have HOW:=hideN hown
  have HRD:=hideN hrd
  clear hown hrd hsl
  go_wp2_with fail
  try rw [hX]
  go_ret
  rw [HSR.out,hbb.out]
  exact ⟨_,rfl,_,HEE.out.1,HEE.out.2.1,HEE.out.2.2.1,HEE.out.2.2.2.1,HEE.out.2.2.2.2.1,HRD.out,HOW.out⟩
 ·have hpos:=HV.out.pos
  rw [hL1.out] at hpos
  have h12 : L1 = L2:=by rw [<- hL1.out,<- hL2.out]; exact (HV.out.leaf hlf.out).1.symm
  subst h12
  obtain ⟨kb,ko,rfl,ckk⟩:=HN2.out.key (i:=0) (by rw [hL1.out]; exact hpos)
  obtain ⟨vb,vo,rfl,cvv⟩:=HN2.out.val (i:=0) (by rw [hL2.out]; exact hpos)
  have HUK : Hid (kb < W2.heap.size):=World.block_lt_of_cell? W2 ⟨kb,ko + 0,none⟩ ckk
  have HUV : Hid (vb < W2.heap.size):=World.block_lt_of_cell? W2 ⟨vb,vo + 0,none⟩ cvv
  clear ckk cvv
  obtain ⟨ent,hent⟩:=exH (entF n fi en)
  have hel : Hid (ent.length = en - fi):=by show _ = _; rw [<- hent.out]; unfold entF; simp
  have HEA : Hid (∀ k,k < en - fi -> ent.take (k + 1) = ent.take k ++ [(kA n (fi + k),vA n (fi + k))]):=fun k hk => by
   have h1 : ent[k]? = some (kA n (fi + k),vA n (fi + k)):=by
    rw [<- hent.out]
    unfold entF
    rw [List.getElem?_map,List.getElem?_range' (by omega)]
    simp
   rw [List.take_add_one,h1]
   rfl
  have HSR : Hid ((scanW from_ to most).st s x n = ((s.1 ++ ent.take (most - s.1.length),decide ((s.1 ++ ent.take (most - s.1.length)).length = most)),[])):=by
   show _ = _
   unfold scanW
   simp only [hlf.out,if_true,hfi.out,hen.out,hent.out]
  have HST0 : Hid (C1 W2 35 nb (.slice va vl0 vc) /\ OwE 0 W2 (.slice va vl0 vc) (s.1 ++ ent.take 0) /\ Tch (fun y => y = nb ∨ (Value.slice va vl0 vc).ownBlock = some y) W2 W2 /\ (∀ y,(Value.slice va vl0 vc).ownBlock = some y -> (Value.slice va vl0 vc).ownBlock = some y ∨ W2.heap.size <= y)):=⟨HC2.out,by rw [List.take_zero,List.append_nil]; exact HO2.out,Tch.refl _ _,fun y hy => .inl hy⟩
  go_wp2_with fail
  go_loopw [12] (fun iv wr => ∃ (k : Nat) (ka : Option Addr) (kl kc : Nat),k <= en - fi /\ iv = .int .i64 ((fi + k : Nat) : Int) /\ (0 < k -> s.1.length + k <= most) /\ Hid (C1 wr 35 nb (.slice ka kl kc) /\ OwE 0 wr (.slice ka kl kc) (s.1 ++ ent.take k) /\ Tch (fun y => y = nb ∨ (Value.slice va vl0 vc).ownBlock = some y) W2 wr /\ (∀ y,(Value.slice ka kl kc).ownBlock = some y -> (Value.slice va vl0 vc).ownBlock = some y ∨ W2.heap.size <= y))) (fun iv _ => en - (intOf iv).toNat)
  case atStart => exact ⟨0,va,vl0,vc,zn7 _,rfl,fun e => absurd e (Nat.lt_irrefl 0),HST0⟩
  case round =>
   clear HST0
   obtain ⟨k,ka,kl,kc,hk,rfl,hkm,HI⟩:=hrel
   have hI:=HI.out
   have g1:=hI.1.c
   have hef:=HFE.out
   have hls:=HLS.out
   have hkl' : kl = s.1.length + k:=by
    obtain ⟨_,_,e⟩:=hI.2.1.long
    have h1 : (s.1 ++ ent.take k).length = s.1.length + k:=by rw [List.length_append,List.length_take,hel.out]; omega
    cases e
    rw [h1]
   have mb':=(HMB2.out.tch hI.2.2.1 HMN.out).c
   obtain ⟨i,hi⟩:=exN (fi + k)
   rw [hi]
   have HIE:=hideN hi
   have HKL:=hideN hkl'
   have HKM:=hideN hkm
   have HKK:=hideN hk
   by_cases h1 : i < en
   ·have d1 : decide ((i : Int) < (en : Int)) = true:=by rw [decide_eq_true_iff]; omega
    have d1' : decide (i < en) = true:=decide_eq_true h1
    by_cases h2 : kl < most
    ·have d2 : decide ((kl : Int) < (most : Int)) = true:=by rw [decide_eq_true_iff]; omega
     have d2' : decide (kl < most) = true:=decide_eq_true h2
     obtain ⟨lk,hlk⟩:=exH (s.1 ++ ent.take k)
     have Nr:=HN2.out.tch hI.2.2.1 (fun y hy => HAP2.out y (.inl hy)) (fun y hy => HAP2.out y (.inr (.inl hy))) (fun y hy => HAP2.out y (.inr (.inr hy)))
     obtain ⟨_,_,e1,ck⟩:=Nr.key (i:=i) (by rw [hL1.out]; omega)
     obtain ⟨_,_,e2,cv⟩:=Nr.val (i:=i) (by rw [hL2.out]; omega)
     cases e1
     cases e2
     obtain ⟨ky,hky⟩:=exH (kA n i)
     obtain ⟨vl,hvl⟩:=exH (vA n i)
     rw [hky.out] at ck
     rw [hvl.out] at cv
     have Vr:=HV2.out.tch hI.2.2.1 HBN.out
     have HLB : Hid (lk.length <= 1000000000):=by
      show _ <= _
      rw [<- hlk.out,List.length_append,List.length_take,hel.out]
      omega
     have HLT : Hid (lk ++ [(ky,vl)] = s.1 ++ ent.take (k + 1)):=by
      show _ = _
      rw [HEA.out k (by omega),hi,hky.out,hvl.out,<- List.append_assoc,hlk.out]
     have Ck:=hI.1
     have Ok:=hI.2.1
     rw [hlk.out] at Ok
     have HCk:=hideN Ck
     have HOk:=hideN Ok
     have HTk:=hideN hI.2.2.1
     have HFk:=hideN hI.2.2.2
     have HVr:=hideN Vr
     have HCK:=hideN ck
     have HCV:=hideN cv
     have hkN : Hid ((Value.slice ka kl kc).ownBlock ≠ some nb):=Ok.ne Ck (by decide)
     have hkB : Hid ((Value.slice ka kl kc).ownBlock ≠ some w.heap.size):=Ok.ne Vr (by decide)
     have hkK : Hid ((Value.slice ka kl kc).ownBlock ≠ some kb):=fun e => by
      have h3:=HUK.out
      rcases hI.2.2.2 kb e with q | q
      ·exact HAP2.out kb (.inl rfl) (.inr q)
      ·omega
     have hkV : Hid ((Value.slice ka kl kc).ownBlock ≠ some vb):=fun e => by
      have h3:=HUV.out
      rcases hI.2.2.2 vb e with q | q
      ·exact HAP2.out vb (.inr (.inl rfl)) (.inr q)
      ·omega
     have hS : (wr.drew.cell? ⟨nb,0,none⟩ = some (.slice ka kl kc) /\ Nb wr.drew 92 w.heap.size true (.slice (some ⟨kb,ko,none⟩) L1 c1) (.slice (some ⟨vb,vo,none⟩) L1 c2) (.slice a3 L3 c3)) /\ (wr.drew.cell? ⟨kb,ko + i,none⟩ = some (.string ky) /\ wr.drew.cell? ⟨vb,vo + i,none⟩ = some (.string vl)):=⟨⟨g1,Vr.below (Below.refl _ _).drew⟩,ck,cv⟩
     have HSX : Hid (∀ X1,wr.drew.alloc (.cells #[.string ky,.string vl] 98) = X1 -> ((X1.cell? ⟨nb,0,none⟩ = some (.slice ka kl kc) /\ Nb X1 92 w.heap.size true (.slice (some ⟨kb,ko,none⟩) L1 c1) (.slice (some ⟨vb,vo,none⟩) L1 c2) (.slice a3 L3 c3)) /\ (X1.cell? ⟨kb,ko + i,none⟩ = some (.string ky) /\ X1.cell? ⟨vb,vo + i,none⟩ = some (.string vl))) /\ X1.cell? ⟨wr.drew.heap.size,0,none⟩ = some (.string ky) /\ X1.cell? ⟨wr.drew.heap.size,1,none⟩ = some (.string vl) /\ OwE 0 X1 (.slice ka kl kc) lk /\ Below wr.heap.size wr X1):=fun X1 hX1 => by
      have bb : Below wr.heap.size wr X1:=by rw [<- hX1]; exact (Below.refl _ _).drew.alloc (zn6 _) _
      have hb:=heap_alloc_new wr.drew (.cells #[.string ky,.string vl] 98)
      rw [hX1] at hb
      exact ⟨⟨⟨(HCk.out.below bb).c,HVr.out.below bb⟩,by rw [bb.cell (World.block_lt_of_cell? wr ⟨kb,ko + i,none⟩ HCK.out)]; exact HCK.out,by rw [bb.cell (World.block_lt_of_cell? wr ⟨vb,vo + i,none⟩ HCV.out)]; exact HCV.out⟩,by rw [cell_of_row X1 _ 0 _ _ (0,0) hb]; rfl,by rw [cell_of_row X1 _ 1 _ _ (0,0) hb]; rfl,HOk.out.below bb,bb⟩
     have HSY : Hid (∀ (X1 X2 : World) xa xl xc,wr.drew.alloc (.cells #[.string ky,.string vl] 98) = X1 -> OwE 0 X2 (.slice xa xl xc) (lk ++ [(ky,vl)]) -> Tch (fun y => (Value.slice ka kl kc).ownBlock = some y) X1 X2 -> Fsh X1 (.slice ka kl kc) (.slice xa xl xc) -> ((X2.cell? ⟨nb,0,none⟩ = some (.slice ka kl kc) /\ Nb X2 92 w.heap.size true (.slice (some ⟨kb,ko,none⟩) L1 c1) (.slice (some ⟨vb,vo,none⟩) L1 c2) (.slice a3 L3 c3)) /\ (X2.cell? ⟨kb,ko + i,none⟩ = some (.string ky) /\ X2.cell? ⟨vb,vo + i,none⟩ = some (.string vl))) /\ X2.cell? ⟨nb,0,none⟩ = some (.slice ka kl kc) /\ X2.frozen? ⟨nb,0,none⟩ = false /\ ∀ X3,X2.setCell ⟨nb,0,none⟩ (.slice xa xl xc) = X3 -> C1 X3 35 nb (.slice xa xl xc) /\ OwE 0 X3 (.slice xa xl xc) (s.1 ++ ent.take (k + 1)) /\ Tch (fun y => y = nb ∨ (Value.slice va vl0 vc).ownBlock = some y) W2 X3 /\ (∀ y,(Value.slice xa xl xc).ownBlock = some y -> (Value.slice va vl0 vc).ownBlock = some y ∨ W2.heap.size <= y)):=by
      intro X1 X2 xa xl xc hX1 o2 t2 f2
      obtain ⟨hS1,_,_,_,bb⟩:=HSX.out X1 hX1
      have C2:=(HCk.out.below bb).tch t2 hkN.out
      have hsz:=HTk.out.size
      have hb:=bb.size
      refine ⟨⟨⟨C2.c,(HVr.out.below bb).tch t2 hkB.out⟩,by rw [t2.cell (p:=⟨kb,ko + i,none⟩) (World.block_lt_of_cell? X1 ⟨kb,ko + i,none⟩ hS1.2.1) hkK.out]; exact hS1.2.1,by rw [t2.cell (p:=⟨vb,vo + i,none⟩) (World.block_lt_of_cell? X1 ⟨vb,vo + i,none⟩ hS1.2.2) hkV.out]; exact hS1.2.2⟩,C2.c,C2.fz,fun X3 hX3 => ?_⟩
      have t3 : Tch (fun y => y = nb) X2 X3:=by rw [<- hX3]; exact tch_at _ _ _ _
      have xN : (Value.slice xa xl xc).ownBlock ≠ some nb:=o2.ne C2 (by decide)
      have fr : ∀ y,(Value.slice xa xl xc).ownBlock = some y -> (Value.slice va vl0 vc).ownBlock = some y ∨ W2.heap.size <= y:=fun y hy => (f2 y hy).elim (HFk.out y) (fun q => .inr (by omega))
      refine ⟨by rw [<- hX3]; exact C2.set _,by rw [<- HLT.out]; exact o2.tch t3 (fun y hy e => xN (e ▸ hy)),((HTk.out.trans (Tch.of_below (S:=fun y => y = nb ∨ (Value.slice va vl0 vc).ownBlock = some y) bb) (fun _ _ e => e)).trans t2 (fun y hy e => ?_)).trans t3 (fun y hy e => .inl e),fr⟩
      rcases HFk.out y e with q | q
      ·exact .inr q
      ·omega
     have i0 : (0 : Int) <= (i : Int):=by omega
     have i1 : (i : Int) < (L1 : Int):=by omega
     clear hI Nr Vr Ck Ok ck cv hkl' hkm hk hi hef hls
     go_wp2_with fail
     have mixed : Tryz.prog.follows .mixedOrders = true:=by kernel_rfl
     refine beginW (S:=fun w' => (w'.cell? ⟨nb,0,none⟩ = some (.slice ka kl kc) /\ Nb w' 92 w.heap.size true (.slice (some ⟨kb,ko,none⟩) L1 c1) (.slice (some ⟨vb,vo,none⟩) L1 c2) (.slice a3 L3 c3)) /\ (w'.cell? ⟨kb,ko + i,none⟩ = some (.string ky) /\ w'.cell? ⟨vb,vo + i,none⟩ = some (.string vl))) (t:=14) mixed ?_
     refine tkW 0 (some 34) (.load 35 (.tmp 4)) (Value.slice ka kl kc) (by rintro o ho w' ⟨⟨z1,z2⟩,⟨z3,z4⟩⟩; go_simp) hS ?_
     simp only [Act.put,qa,qb,qc]
     refine tkW 1 (some 35) (.fieldAddr 92 (.tmp 8) 1) (Value.pointer (some ⟨w.heap.size,1,none⟩)) (by rintro o ho w' ⟨⟨z1,z2⟩,⟨z3,z4⟩⟩; go_simp) hS ?_
     simp only [Act.put,qa,qb,qc]
     refine tkW 2 (some 36) (.load 90 (.tmp 35)) (Value.slice (some ⟨kb,ko,none⟩) L1 c1) ?hy hS ?_
     case hy =>
      rintro o ho w' ⟨⟨z1,z2⟩,⟨z3,z4⟩⟩
      have q1:=z2.c1
      go_simp
     simp only [Act.put,qa,qb,qc]
     refine tkW 3 (some 37) (.move (.tmp 12)) (Value.int .i64 (i : Int)) (by rintro o ho w' ⟨⟨z1,z2⟩,⟨z3,z4⟩⟩; go_simp) hS ?_
     simp only [Act.put,qa,qb,qc]
     refine tkW 4 (some 38) (.indexAddr 90 (.tmp 36) (.tmp 37)) (Value.pointer (some ⟨kb,ko + i,none⟩)) (by rintro o ho w' ⟨⟨z1,z2⟩,⟨z3,z4⟩⟩; go_simp) hS ?_
     simp only [Act.put,qa,qb,qc]
     refine tkW 5 (some 39) (.load 9 (.tmp 38)) (Value.string ky) (by rintro o ho w' ⟨⟨z1,z2⟩,⟨z3,z4⟩⟩; go_simp) hS ?_
     simp only [Act.put,qa,qb,qc]
     refine tkW 6 (some 40) (.fieldAddr 92 (.tmp 8) 2) (Value.pointer (some ⟨w.heap.size,2,none⟩)) (by rintro o ho w' ⟨⟨z1,z2⟩,⟨z3,z4⟩⟩; go_simp) hS ?_
     simp only [Act.put,qa,qb,qc]
     refine tkW 7 (some 41) (.load 90 (.tmp 40)) (Value.slice (some ⟨vb,vo,none⟩) L1 c2) ?hy hS ?_
     case hy =>
      rintro o ho w' ⟨⟨z1,z2⟩,⟨z3,z4⟩⟩
      have q1:=z2.c2
      go_simp
     simp only [Act.put,qa,qb,qc]
     refine tkW 8 (some 42) (.move (.tmp 12)) (Value.int .i64 (i : Int)) (by rintro o ho w' ⟨⟨z1,z2⟩,⟨z3,z4⟩⟩; go_simp) hS ?_
     simp only [Act.put,qa,qb,qc]
     refine tkW 9 (some 43) (.indexAddr 90 (.tmp 41) (.tmp 42)) (Value.pointer (some ⟨vb,vo + i,none⟩)) (by rintro o ho w' ⟨⟨z1,z2⟩,⟨z3,z4⟩⟩; go_simp) hS ?_
     simp only [Act.put,qa,qb,qc]
     refine tkW 10 (some 44) (.load 9 (.tmp 43)) (Value.string vl) (by rintro o ho w' ⟨⟨z1,z2⟩,⟨z3,z4⟩⟩; go_simp) hS ?_
     simp only [Act.put,qa,qb,qc]
     refine tkW 11 (some 45) (.build 98 #[(0,.tmp 39),(1,.tmp 44)]) (Value.agg #[.string ky,.string vl]) (by rintro o ho w' ⟨⟨z1,z2⟩,⟨z3,z4⟩⟩; go_simp) hS ?_
     simp only [Act.put,qa,qb,qc]
     refine rdW 12 (some 46) (.buildSlice 35 1 #[(0,.tmp 45)]) ?_
     rintro o K hd ho hg hK
     refine zlr9 (.tmp 45) ho ky vl rfl ?_
     rw [hd]
     obtain ⟨X1,hX1⟩:=exN (wr.drew.alloc (.cells #[.string ky,.string vl] 98))
     obtain ⟨hS1,c01,c11,O1,s1⟩:=HSX.out X1 hX1
     rw [hX1]
     refine hK _ _ (fun _ => hS1) ?_
     clear ho hd hg hK hS
     have hS:=hS1
     simp only [Act.put,qa,qb,qc]
     refine rdW 13 (some 47) (.call { callee:=.builtin .append,args:=#[.tmp 34,.tmp 46],argTypes:=#[35,35] }) ?_
     rintro o K hd ho hg hK
     refine zqh9 (.tmp 34) (.tmp 46) ho 0 (.slice ka kl kc) lk rfl O1 wr.drew.heap.size (ky,vl) rfl c01 c11 HLB.out (zn7 _) ?_
     intro v' X2 o2 t2 f2
     rw [hd]
     obtain ⟨xa,xl,xc,rfl⟩ : ∃ a l c,v' = .slice a l c:=by obtain ⟨a,c,e⟩:=o2.long; exact ⟨_,_,_,e⟩
     obtain ⟨hS2,g2,h2,HX2⟩:=HSY.out X1 X2 xa xl xc hX1 o2 t2 f2
     refine hK _ _ (fun _ => hS2) ?_
     clear ho hd hg hK hS hS1 c01 c11 O1 s1 o2 t2 f2 hX1
     simp only [Act.put,qa,qb,qc]
     refine rdW 14 none (.store 35 (.tmp 4) (.tmp 47)) ?_
     rintro o K hd ho hg hK
     refine znk9 ho rfl rfl g2 h2 ?_
     rw [hd]
     obtain ⟨X3,hX3⟩:=exN (X2.setCell ⟨nb,0,none⟩ (.slice xa xl xc))
     have HX3:=hideN (HX2 X3 hX3)
     rw [hX3]
     refine hK _ _ (fun e => absurd rfl e) ?_
     refine doneW (by kernel_rfl) ?_ _
     clear ho hd hg hK hS2 g2 h2 HX2 hX3
     simp only [Act.put]
     have HX4 : Hid (k + 1 <= en - fi /\ i + 1 = fi + (k + 1) /\ (0 < k + 1 -> s.1.length + (k + 1) <= most) /\ en - (i + 1) < en - i /\ i <= 240):=by
      have q1:=HIE.out
      have q2:=HKL.out
      have q3:=HFE.out
      have q4:=HLS.out
      exact ⟨by omega,by omega,fun _ => by omega,by omega,by omega⟩
     have hi240:=HX4.out.2.2.2.2
     have hw1:=wk_nat (x:=(i : Int) + 1) (t:=i + 1) (by omega) (by omega)
     have hw2:=zr9 (x:=(i : Int) + 1) (t:=i + 1) (by omega) (by omega)
     clear h1 h2
     go_wp2_with fail
     clear hw1 hw2
     have hx4:=HX4.out
     first
      | exact ⟨⟨k + 1,xa,xl,xc,hx4.1,by rw [<- hx4.2.1]; rfl,hx4.2.2.1,HX3⟩,by simp [intOf]; omega⟩
      | (go_roundw
         case rel => exact ⟨k + 1,xa,xl,xc,hx4.1,by rw [<- hx4.2.1]; rfl,hx4.2.2.1,HX3⟩
         case measure => simp [intOf]; omega)
    ·have d2 : decide ((kl : Int) < (most : Int)) = false:=by rw [zn4]; omega
     have d2' : decide (kl < most) = false:=decide_eq_false h2
     have HTK : Hid (ent.take k = ent.take (most - s.1.length)):=by
      show _ = _
      have : k = most - s.1.length:=by
       by_cases q : 0 < k
       ·have:=hkm q; omega
       ·omega
      rw [this]
     rw [HTK.out] at hI
     obtain ⟨bb,hbb⟩:=exH (decide ((s.1 ++ ent.take (most - s.1.length)).length = most))
     have hll : (s.1 ++ ent.take (most - s.1.length)).length = kl:=by obtain ⟨_,_,e⟩:=hI.2.1.long; cases e; rfl
     have q1 : decide ((kl : Int) = (most : Int)) = bb:=by
      rw [<- hbb.out,hll]
      by_cases q : kl = most
      ·rw [decide_eq_true q,decide_eq_true (by omega)]
      ·rw [decide_eq_false q,decide_eq_false (by omega)]
     have q2 : ((kl : Int) == (most : Int)) = bb:=by
      rw [<- q1]
      by_cases q : (kl : Int) = (most : Int)
      ·rw [decide_eq_true q,beq_iff_eq]; exact q
      ·rw [decide_eq_false q,beq_eq_false_iff_ne]; exact q
     have hE:=HEND.out wr (.slice ka kl kc) _ hI.1 hI.2.1 hI.2.2.1 hI.2.2.2 bb
     obtain ⟨X,hX⟩:=exN (wr.setCell ⟨wb,2,none⟩ (.bool bb))
     rw [hX] at hE
     have e2:=hE.1
     have e3:=hE.2.1
     have HEE:=hideN hE.2.2
     have V9:=HV2.out.tch hI.2.2.1 HBN.out
     have t9 : Tch (fun y => y = wb) wr X:=by rw [<- hX]; exact tch_at _ _ _ _
     have V9':=V9.tch t9 HBW.out
     have n0:=V9'.c0
     clear hE hI V9 V9' t9 hll
     clear hkl' hkm hk hi hef hls
     go_wp2_with fail
     try rw [hX]
     go_ret
     rw [HSR.out,hbb.out]
     exact ⟨_,rfl,_,HEE.out.1,HEE.out.2.1,HEE.out.2.2.1,HEE.out.2.2.2.1,HEE.out.2.2.2.2.1,zah9 _,fun j hj => by cases hj⟩
   ·have d1 : decide ((i : Int) < (en : Int)) = false:=by rw [zn4]; omega
    have d1' : decide (i < en) = false:=decide_eq_false h1
    have HTK : Hid (ent.take k = ent.take (most - s.1.length)):=by
     show _ = _
     have hke : k = en - fi:=by omega
     by_cases q : 0 < k
     ·have:=hkm q
      rw [zn5 (by rw [hel.out]; omega),zn5 (by rw [hel.out]; omega)]
     ·have h0 : ent = []:=List.eq_nil_of_length_eq_zero (by rw [hel.out]; omega)
      rw [h0]; simp
    rw [HTK.out] at hI
    obtain ⟨bb,hbb⟩:=exH (decide ((s.1 ++ ent.take (most - s.1.length)).length = most))
    have hll : (s.1 ++ ent.take (most - s.1.length)).length = kl:=by obtain ⟨_,_,e⟩:=hI.2.1.long; cases e; rfl
    have q1 : decide ((kl : Int) = (most : Int)) = bb:=by
     rw [<- hbb.out,hll]
     by_cases q : kl = most
     ·rw [decide_eq_true q,decide_eq_true (by omega)]
     ·rw [decide_eq_false q,decide_eq_false (by omega)]
    have q2 : ((kl : Int) == (most : Int)) = bb:=by
     rw [<- q1]
     by_cases q : (kl : Int) = (most : Int)
     ·rw [decide_eq_true q,beq_iff_eq]; exact q
     ·rw [decide_eq_false q,beq_eq_false_iff_ne]; exact q
    have hE:=HEND.out wr (.slice ka kl kc) _ hI.1 hI.2.1 hI.2.2.1 hI.2.2.2 bb
    obtain ⟨X,hX⟩:=exN (wr.setCell ⟨wb,2,none⟩ (.bool bb))
    rw [hX] at hE
    have e2:=hE.1
    have e3:=hE.2.1
    have HEE:=hideN hE.2.2
    have V9:=HV2.out.tch hI.2.2.1 HBN.out
    have t9 : Tch (fun y => y = wb) wr X:=by rw [<- hX]; exact tch_at _ _ _ _
    have V9':=V9.tch t9 HBW.out
    have n0:=V9'.c0
    clear hE hI V9 V9' t9 hll
    clear hkl' hkm hk hi hef hls
    go_wp2_with fail
    try rw [hX]
    go_ret
    rw [HSR.out,hbb.out]
    exact ⟨_,rfl,_,HEE.out.1,HEE.out.2.1,HEE.out.2.2.1,HEE.out.2.2.2.1,HEE.out.2.2.2.2.1,zah9 _,fun j hj => by cases hj⟩
structure ISc (from_ to : ByteArray) (most : Nat) (t wb fb tb nb mb : Nat) (m : Option Nat) (E : Nat -> Prop) (s : List En × Bool) (w : World) : Prop where
 bx : w.heap[wb]? = some (.cells #[tp t,.func (.func 45) #[] #[.pointer (some ⟨fb,0,none⟩),.pointer (some ⟨tb,0,none⟩),.pointer (some ⟨nb,0,none⟩),.pointer (some ⟨mb,0,none⟩),.pointer (some ⟨wb,0,none⟩)],.bool s.2,.map m] 89 (0,0))
 f : C1 w 9 fb (.string from_)
 t : C1 w 9 tb (.string to)
 o : C1 w 3 mb (.int .i64 (most : Int))
 k : ∃ v,C1 w 35 nb v /\ OwE 0 w v s.1 /\ ∀ y,v.ownBlock = some y -> E y
 e1 : E wb /\ E fb /\ E tb /\ E mb
 e2 : E nb
 lt : ∀ k,E k -> k < w.heap.size
section
variable {from_ to : ByteArray} {most : Nat} {t wb fb tb nb mb : Nat} {m : Option Nat} {E : Nat -> Prop} {s : List En × Bool} {w w' : World}
theorem ISc.tch (h : ISc from_ to most t wb fb tb nb mb m E s w) {S : Nat -> Prop} (ht : Tch S w w') (hn : ∀ k,E k -> ¬ S k) : ISc from_ to most t wb fb tb nb mb m E s w':=by
 obtain ⟨v,h1,h2,h3⟩:=h.k
 exact ⟨by rw [ht.block wb (Array.getElem?_eq_some_iff.1 h.bx).1 (hn wb h.e1.1)]; exact h.bx,h.f.tch ht (hn _ h.e1.2.1),h.t.tch ht (hn _ h.e1.2.2.1),h.o.tch ht (hn _ h.e1.2.2.2),⟨v,h1.tch ht (hn nb h.e2),h2.tch ht (fun j hj => hn j (h3 j hj)),h3⟩,h.e1,h.e2,fun k hk => zn1 (h.lt k hk) ht.size⟩
theorem zqy9 (n : Nd) (i j : Nat) : (entF n i j).length = j - i:=by unfold entF; simp
theorem end_le (n : Nd) (to : ByteArray) : endF n to <= n.ks.length:=by
 unfold endF
 split
 ·exact zn6 _
 ·exact plc_le _ _ _
theorem zfx9 (from_ to : ByteArray) (most : Nat) (s : List En × Bool) (x : Int) (n : Nd) (hv : Vk n) : (∀ k ∈ ((scanW from_ to most).st s x n).2,0 <= k /\ k <= 65535) /\ ((scanW from_ to most).st s x n).2.length <= 240 /\ ((scanW from_ to most).st s x n).1.1.length <= s.1.length + 240:=by
 have h1:=hv.len
 have h2:=end_le n to
 have h3:=zqy9 n (fstF n from_ to) (endF n to)
 unfold scanW
 cases hl : n.lf with
 | true =>
  simp only [hl,if_true]
  exact ⟨fun k hk => (by cases hk),by simp,by rw [List.length_append,List.length_take,h3]; omega⟩
 | false =>
  simp only [hl,Bool.false_eq_true,if_false]
  refine ⟨fun k hk => kd_rng hv k (List.mem_of_mem_take (List.mem_of_mem_drop hk)),?_,by omega⟩
  rw [List.length_drop,List.length_take]
  omega
theorem scanOk (sb : Nat) (hm : most <= 4611686018427387904) : WOk (scanW from_ to most) t wb sb (fun s => s.1.length) (ISc from_ to most t wb fb tb nb mb (some sb)) where
 tch:=fun E s w w' S h ht hn => h.tch ht hn
 lt:=fun E s w h => h.lt
 kd:=fun s x n hv => (zfx9 from_ to most s x n hv).1
 ln:=fun s x n hv => (zfx9 from_ to most s x n hv).2.1
 ct:=fun s x n hv => (zfx9 from_ to most s x n hv).2.2
 fn:=⟨_,_,enters_of Tryz.func45 (by kernel_rfl) rfl,fun E s w h => ⟨h.bx,h.e1.1⟩,fun E s x n u1 u2 u3 w h hn hv ha hx hc => by
  obtain ⟨v,k1,k2,k3⟩:=h.k
  refine (znc9 n u1 u2 u3 x from_ to most hm fb tb nb mb wb t _ (some sb) s hc w hn hv v h.f h.t k1 k2 h.o h.bx (fun j hj => ⟨fun e => ha j hj (e.elim (fun e => e ▸ h.e2) (k3 j)),fun e => ha j hj (e ▸ h.e1.1)⟩)).mono ?_
  rintro e w' ⟨r,rfl,v',q1,q2,q3,q4,q5,q6,q7⟩
  have t4 : Tch E w w':=q4.mono (fun k _ e => by
   rcases e with e | e | e
   ·exact e ▸ h.e2
   ·exact e ▸ h.e1.1
   ·exact k3 k e)
  have nf : ∀ {b : Nat} {T : TypeId} {y : Value},C1 w T b y -> T ≠ 35 -> T ≠ 89 -> 98 ≠ T -> C1 w' T b y:=fun {b T y} hb n1 n2 n3 => hb.tch q4 (fun e => by
   rcases e with e | e | e
   ·exact hb.ne k1 n1 e
   ·exact hb.nbox h.bx n2 e
   ·exact k2.ne hb n3 e)
  exact ⟨fun y => E y ∨ v'.ownBlock = some y,r,rfl,⟨q3,nf h.f (by decide) (by decide) (by decide),nf h.t (by decide) (by decide) (by decide),nf h.o (by decide) (by decide) (by decide),⟨v',q1,q2,fun y hy => .inr hy⟩,⟨.inl h.e1.1,.inl h.e1.2.1,.inl h.e1.2.2.1,.inl h.e1.2.2.2⟩,.inl h.e2,fun k hk => hk.elim (fun e => zn1 (h.lt k e) t4.size) (q2.lt k)⟩,t4,fun k hk => hk.elim .inl (fun e => (q5 k e).imp (k3 k) id),q6,q7⟩⟩
end
noncomputable def scanF (a : AS) (x : Int) (from_ to : ByteArray) (most : Nat) : List En × Int:=if (fromF (scanW from_ to most) a ([],false) x).e ≠ 0 then ([],(fromF (scanW from_ to most) a ([],false) x).e) else ((fromF (scanW from_ to most) a ([],false) x).s.1,0)
def ScT (U : Nat -> Prop) (w : World) (t cc d M N : Nat) (a : AS) (r : List En × Int) (e : Ending) (w' : World) : Prop:=
 ∃ v U',e = .returned (.tuple #[v,.int .i64 r.2]) /\ OwE w.heap.size w' v r.1 /\ Tz U' w' t cc d M N a /\ Tch U w w' /\ (∀ k,U' k -> U k ∨ w.heap.size <= k) /\ (∀ j,v.ownBlock = some j -> ¬ U' j)
theorem zhl9 {U : Nat -> Prop} {t cc d M N : Nat} {a : AS} (x : Int) (hx : 0 <= x /\ x <= 65535) (from_ to : ByteArray) (most : Nat) (hm : most <= 4611686018427387904) (w : World) (h : Tz U w t cc d M N a) :
  Calls Tryz.prog 14 #[tp t,.int .i64 x,.string from_,.string to,.int .i64 (most : Int)] w fun e w' => ScT U w t cc d M N a (scanF a x from_ to most) e w':=by
 have hmf : ∀ (fn : Fn) (first cap : Array Value) (w : World),(Instr.makeFunc fn first cap).run Tryz.prog w = .ok (.func fn first cap) w:=fun _ _ _ _ => rfl
 obtain ⟨W1,hW1⟩:=exN (w.alloc (.cells #[.string from_] 9))
 obtain ⟨W2,hW2⟩:=exN (W1.alloc (.cells #[.string to] 9))
 obtain ⟨W3,hW3⟩:=exN (W2.alloc (.cells #[.int .i64 (most : Int)] 3))
 have c3 : C1 W3 3 W2.heap.size (.int .i64 (most : Int)):=by rw [<- hW3]; exact C1.new _ _ _
 have g3:=c3.c
 have d1 : decide ((most : Int) < 0) = false:=by rw [zn4]; omega
 have s1 : W1.heap.size = w.heap.size + 1:=by rw [<- hW1]; simp
 have s2 : W2.heap.size = w.heap.size + 2:=by rw [<- hW2]; simp [s1]
 have s3 : W3.heap.size = w.heap.size + 3:=by rw [<- hW3]; simp [s2]
 have b1 : Below w.heap.size w W1:=by rw [<- hW1]; exact za9 _ _
 have b2 : Below W1.heap.size W1 W2:=by rw [<- hW2]; exact za9 _ _
 have b3 : Below W2.heap.size W2 W3:=by rw [<- hW3]; exact za9 _ _
 have f1 : C1 W1 9 w.heap.size (.string from_):=by rw [<- hW1]; exact C1.new _ _ _
 have t2 : C1 W2 9 W1.heap.size (.string to):=by rw [<- hW2]; exact C1.new _ _ _
 obtain ⟨W4,hW4⟩:=exN (W3.alloc (.cells #[.slice none 0 0] 35))
 obtain ⟨W5,hW5⟩:=exN (W4.alloc (.cells #[.pointer (some ⟨t,0,none⟩),.func (.func 45) #[] #[.pointer (some ⟨w.heap.size,0,none⟩),.pointer (some ⟨W1.heap.size,0,none⟩),.pointer (some ⟨W3.heap.size,0,none⟩),.pointer (some ⟨W2.heap.size,0,none⟩),.pointer (some ⟨W3.heap.size + 1,0,none⟩)],.bool false,.map none] 89))
 have s4 : W4.heap.size = W3.heap.size + 1:=by rw [<- hW4]; simp
 have b4 : Below W3.heap.size W3 W4:=by rw [<- hW4]; exact za9 _ _
 have b5 : Below W4.heap.size W4 W5:=by rw [<- hW5]; exact za9 _ _
 have n4 : C1 W4 35 W3.heap.size (.slice none 0 0):=by rw [<- hW4]; exact C1.new _ _ _
 have bx5 : W5.heap[W3.heap.size + 1]? = some (.cells #[tp t,.func (.func 45) #[] #[.pointer (some ⟨w.heap.size,0,none⟩),.pointer (some ⟨W1.heap.size,0,none⟩),.pointer (some ⟨W3.heap.size,0,none⟩),.pointer (some ⟨W2.heap.size,0,none⟩),.pointer (some ⟨W3.heap.size + 1,0,none⟩)],.bool false,.map none] 89 (0,0)):=by rw [<- hW5,<- s4]; exact heap_alloc_new W4 _
 have b12:=b1.trans (b2.mono b1.size)
 have b13:=b12.trans (b3.mono b12.size)
 have b14:=b13.trans (b4.mono b13.size)
 have b15:=b14.trans (b5.mono b14.size)
 obtain ⟨E,hE⟩ : ∃ E : Nat -> Prop,∀ y,E y ↔ (w.heap.size <= y /\ y < W5.heap.size):=⟨_,fun y => Iff.rfl⟩
 have h5:=(Array.getElem?_eq_some_iff.1 bx5).1
 have J5 : ISc from_ to most t (W3.heap.size + 1) w.heap.size W1.heap.size W3.heap.size W2.heap.size none E ([],false) W5:=⟨bx5,(((f1.below b2).below b3).below b4).below b5,((t2.below b3).below b4).below b5,(c3.below b4).below b5,⟨_,n4.below b5,zoe9 _ _,fun y e => by cases e⟩,⟨(hE _).2 (by omega),(hE _).2 (by omega),(hE _).2 (by omega),(hE _).2 (by omega)⟩,(hE _).2 (by omega),fun k hk => ((hE k).1 hk).2⟩
 have hEg : ∀ y,E y -> w.heap.size <= y:=fun y hy => ((hE y).1 hy).1
 have FR:=zce9 (D:=scanW from_ to most) (cnt:=fun s => s.1.length) (wb:=W3.heap.size + 1) (cc:=cc) (d:=d) (M:=M) (N:=N) (a:=a) (ISc from_ to most t (W3.heap.size + 1) w.heap.size W1.heap.size W3.heap.size W2.heap.size)
  (fun sb => scanOk sb hm)
  (fun E s w' sb hJ => by
   obtain ⟨v,q1,q2,q3⟩:=hJ.k
   exact ⟨heap_setCell_same w' _ 3 _ _ _ hJ.bx,hJ.f.tch (tch_at _ _ _ _) (by omega),hJ.t.tch (tch_at _ _ _ _) (by omega),hJ.o.tch (tch_at _ _ _ _) (by omega),⟨v,q1.tch (tch_at _ _ _ _) (by omega),q2.tch (tch_at _ _ _ _) (fun j hj e => q2.ne hJ.bx (by decide) (e ▸ hj)),q3⟩,hJ.e1,hJ.e2,fun k hk => zn1 (hJ.lt k hk) (tch_at _ _ _ _).size⟩)
  (fun E s w' w'' S hJ ht hn => hJ.tch ht hn) (fun E s w' hJ => ⟨⟨_,_,_,hJ.bx⟩,hJ.e1.1,hJ.lt⟩) x hx U E W5 ([],false) (h.below b15) J5 (fun k hk e => by have:=h.ul k hk; have:=hEg k e; omega) rfl
 obtain ⟨r,hr⟩:=exH (fromF (scanW from_ to most) a ([],false) x)
 rw [hr.out] at FR
 obtain ⟨re,hre⟩:=exH r.e
 rw [hre.out] at FR
 have HLF : Hid (scanF a x from_ to most = if re ≠ 0 then ([],re) else (r.s.1,0)):=by
  show _ = _
  unfold scanF
  rw [hr.out,hre.out]
 have HFR:=hideN FR
 have HB15:=hideN b15
 have HEG:=hideN hEg
 have HUL:=hideN h.ul
 have HW4:=hideN hW4
 have HW5:=hideN hW5
 clear FR b15 hEg J5 bx5 b14 b13 b12 n4 b5 b4 t2 f1 b3 b2 b1 s1 s2 s3 s4 h5 c3 h hx hE hW4 hW5 hm
 go_enter Tryz.func14,Tryz.ntmps14
 go_wp2_with fail
 rw [HW4.out,HW5.out]
 refine HFR.out.mono ?_
 rintro e W6 ⟨rfl,F6,cn⟩
 obtain ⟨U6,E6,m6,z6,j6,t6,u6,e6,d6⟩:=F6
 obtain ⟨v,q1,q2,q3⟩:=j6.k
 have hs15:=HB15.out.size
 have hEl : ∀ y,E6 y -> w.heap.size <= y:=fun y hy => (e6 y hy).elim (HEG.out y) (fun e => by omega)
 have T6 : Tch U w W6:=(Tch.of_below (S:=U) HB15.out).trans t6 (fun y hy e => e.elim id (fun e => by have:=HEG.out y e; omega))
 have U6' : ∀ k,U6 k -> U k ∨ w.heap.size <= k:=fun k hk => (u6 k hk).imp id (fun e => by omega)
 by_cases hre0 : re = 0
 ·subst hre0
  have HFIN : Hid (ScT U w t cc d M N a (scanF a x from_ to most) (.returned (.tuple #[v,.int .i64 0])) W6):=by
   show ScT _ _ _ _ _ _ _ _ _ _ _
   rw [HLF.out,if_neg (by simp)]
   exact ⟨v,U6,rfl,OwE.of q2 (fun j hj => hEl j (q3 j hj)),z6,T6,U6',fun j hj e => d6 j e (q3 j hj)⟩
  obtain ⟨va,vc,hva⟩:=q2.long
  obtain ⟨vl,hvl⟩:=exH r.s.1.length
  rw [hvl.out] at hva
  subst hva
  have g1:=q1.c
  clear q1 q2 q3 z6 T6 U6' d6 hEl t6 u6 e6 j6 cn HFR hs15 g3
  go_wp2_with fail
  go_ret2
  exact HFIN.out
 ·have df1 : (re == 0) = false:=by rw [beq_eq_false_iff_ne]; exact hre0
  have df2 : (re != 0) = true:=by rw [bne,df1]; rfl
  have HFIN : Hid (ScT U w t cc d M N a (scanF a x from_ to most) (.returned (.tuple #[.slice none 0 0,.int .i64 re])) W6):=by
   show ScT _ _ _ _ _ _ _ _ _ _ _
   rw [HLF.out,if_pos hre0]
   exact ⟨_,U6,rfl,zoe9 _ _,z6,T6,U6',fun j hj => by cases hj⟩
  clear hre0 q1 q2 q3 z6 T6 U6' d6 hEl t6 u6 e6 j6 cn HFR hs15 g3
  go_wp2_with fail
  go_ret2
  exact HFIN.out
end Go.Proofs.YtcbnmjgbnbokgaaGreat
