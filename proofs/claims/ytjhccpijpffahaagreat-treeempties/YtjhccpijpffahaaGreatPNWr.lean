import Derived.Test.YtjhccpijpffahaaGreatPNVar
import Derived.Test.YtjhccpijpffahaaGreatPNPl
import Derived.Deep.RegionHeld3
set_option maxRecDepth 100000
set_option linter.unusedVariables false
set_option linter.unusedSimpArgs false
set_option maxHeartbeats 8000000
namespace Go.Proofs.YtjhccpijpffahaaGreat
open Go.RowKit Pl
theorem zjb9 (n : Nd) (u1 u2 u3 : Value) (w : World) (h : Nn w n u1 u2 u3) (hs : Sm n) (hr : Rl n) :
  Calls Tryz.prog 161 #[nod n.lf u1 u2 u3] w fun e w' => (∃ v,e = .returned v /\ OwB w.heap.size w' v (encN n n.ks.length)) /\ Below w.heap.size w w':=by
 obtain ⟨a1,c1,a2,c2,a3,c3,rfl,rfl,rfl,⟨l1,l2,l3,l4,l5,l6⟩,_,_,_⟩:=h.out
 have H:=hideN h
 have HS:=hideN hs
 obtain ⟨L1,hL1⟩:=exH n.ks.length
 obtain ⟨L2,hL2⟩:=exH n.vs.length
 obtain ⟨L3,hL3⟩:=exH n.kd.length
 rw [hL1.out] at H l1 ⊢
 rw [hL2.out] at H l3 ⊢
 rw [hL3.out] at H l5 ⊢
 obtain ⟨lf,hlf⟩:=exH n.lf
 rw [hlf.out]
 unfold nod
 obtain ⟨W1,hW1⟩:=exN (w.alloc (.cells #[.bool lf,.slice a1 L1 c1,.slice a2 L2 c2,.slice a3 L3 c3] 93))
 have B1 : Hid (Below w.heap.size w W1):=by rw [<- hW1]; exact za9 _ _
 have V1 : Hid (Nb W1 93 w.heap.size lf (.slice a1 L1 c1) (.slice a2 L2 c2) (.slice a3 L3 c3)):=by rw [<- hW1]; exact nb_new _ _ _ _ _ _
 have H1 : Hid (Nn W1 n (.slice a1 L1 c1) (.slice a2 L2 c2) (.slice a3 L3 c3)):=H.out.below B1.out
 have HR:=hideN hr
 have hl1 : L1 <= 239:=by have:=hr.len.2; rw [hL1.out] at this; exact this
 obtain ⟨z,hz⟩ : ∃ z : Nat,Hid (szN n n.ks.length = z):=⟨_,rfl⟩
 have hz1 : z <= 240:=by have:=hr.sz; rw [hz.out] at this; exact this
 have HZ1 : Hid (∀ W,Below W1.heap.size W1 W -> Calls Tryz.prog 157 #[.agg #[.bool lf,.slice a1 L1 c1,.slice a2 L2 c2,.slice a3 L3 c3]] W fun e w' => e = .returned (.int .i64 (z : Int)) /\ Below W.heap.size W w'):=fun W hb => by
  have:=zbx9 n _ _ _ W (H1.out.below hb) HS.out
  rw [hlf.out,zax9 (by rw [hz.out]; omega),hz.out] at this
  exact this
 have p0:=V1.out.c0
 have p1:=V1.out.c1
 have p2:=V1.out.c2
 have p3:=V1.out.c3
 obtain ⟨i0,hi,hy0,hy1,hy2⟩:=zkf9
 obtain ⟨T,hT⟩:=exH (encN n L1)
 rw [hT.out]
 clear h hs H hr
 go_enter Tryz.func161,Tryz.ntmps161
 go_wp2_with fail
 refine (HZ1.out W1 (Below.refl _ _)).mono ?_
 rintro e w2 ⟨rfl,b2⟩
 have B2:=hideN b2
 have hB2 : W1.heap.size <= w2.heap.size:=b2.size
 clear b2 p0 p1 p2 p3 hW1 HZ1
 go_wp2_with (at_make; refine wpList_make_own _ rfl (.const (.int .i64 0)) (.tmp 6) 61 rfl W1.heap.size 5 i0 _ 1 Tryz.underlying61 hi hy0 hy1 .i64 .i64 _ z rfl rfl rfl (by rw [hy2]; omega) (by unfold maxLen; omega) hB2 ?_)
 intro w3 ho3 hg3
 have b3 : Below w2.heap.size w2 w3:=(Below.refl _ _).grown hg3 (zn6 _) (fun k e => by cases e)
 have O3 : Hid (OwB W1.heap.size w3 (.slice (some ⟨w2.heap.size,0,none⟩) 0 z) []):=ho3
 have B3 : Hid (Below W1.heap.size W1 w3):=B2.out.trans (b3.mono B2.out.size)
 have p1:=(V1.out.below B3.out).c1
 have HB3 : Hid (W1.heap.size <= w3.heap.size):=B3.out.size
 have HE0 : Hid (encN n 0 = [(L1 : Int)]):=by show _ = _; unfold encN; rw [hL1.out]
 clear ho3 hg3 b3 B2 hi hy0 hy1 hy2 hB2
 go_wp2_with (at_builtin; refine zdk9 _ rfl (.tmp 8) (.tmp 13) rfl W1.heap.size _ [] rfl (O3.out.below (za9 _ _)) w3.heap.size [(L1 : Int)] rfl (zeg9 w3 [(L1 : Int)]) (by simp) (by have:=HB3.out; simp; omega) ?_)
 intro v4 w4 o4 g4
 have b4 : Below W1.heap.size w3 w4:=((za9 w3 _).mono HB3.out).trans (g4.below (O3.out.below (za9 _ _)) (by have:=HB3.out; simp; omega))
 have B4 : Hid (Below W1.heap.size W1 w4):=B3.out.trans b4
 have O4 : Hid (OwB W1.heap.size w4 v4 (encN n 0)):=by rw [HE0.out]; exact o4
 clear o4 g4 b4 O3 B3 p1 HB3
 have p1:=(V1.out.below B4.out).c1
 go_wp2_with fail
 go_loopw [3,18] (fun v i wr => ∃ (k : Nat) (v0 : Value),k <= L1 /\ i = .int .i64 k /\ v0 = v /\ Hid (OwB W1.heap.size wr v0 (encN n k)) /\ Hid (Below W1.heap.size W1 wr)) (fun _ i _ => L1 - (intOf i).toNat)
 case atStart => exact ⟨0,v4,zn7 _,rfl,rfl,O4,B4⟩
 case round =>
  clear O4 B4 p1 HE0
  obtain ⟨k,v0,hk,rfl,rfl,OR,BR⟩:=hrel
  by_cases hlt : k < L1
  ·have V2 : Hid (Nb wr 93 w.heap.size lf (.slice a1 L1 c1) (.slice a2 L2 c2) (.slice a3 L3 c3)):=V1.out.below BR.out
   have HKL : Hid (k < n.ks.length):=by rw [hL1.out]; exact hlt
   obtain ⟨b,o,rfl,ck⟩:=(H1.out.below BR.out).key (i:=k) HKL.out
   have HIT : Hid (encN n (k + 1) = encN n k ++ itm n k /\ (encN n k).length <= 240):=⟨rfl,enc_le HR.out (by rw [hL1.out]; omega)⟩
   have hks:=HR.out.ks k HKL.out
   have HDF : Hid (itm n k = ((kA n k).size : Int) :: (bts (kA n k) ++ (if n.lf = true then ((vA n k).size : Int) :: bts (vA n k) else [dA n k % 256,dA n k / 256]))):=rfl
   obtain ⟨key,hkey⟩:=exH (kA n k)
   rw [hkey.out] at ck hks HDF
   have p0:=V2.out.c0
   have p1:=V2.out.c1
   have HC1:=hideN (zds9 W1.heap.size v0 (encN n k) key wr OR.out (by have:=HIT.out.2; omega) hks BR.out.size)
   have HKS:=hideN hks
   clear hks
   go_wp2_with fail
   refine HC1.out.mono ?_
   rintro e w5 ⟨⟨v5,rfl,o5⟩,b5⟩
   have B5 : Hid (Below W1.heap.size W1 w5):=BR.out.trans b5
   have O5:=hideN o5
   have V5 : Hid (Nb w5 93 w.heap.size lf (.slice (some ⟨b,o,none⟩) L1 c1) (.slice a2 L2 c2) (.slice a3 L3 c3)):=V1.out.below B5.out
   have HL5 : Hid ((encN n k ++ ((key.size : Int) :: bts key)).length <= 1000):=by show _ <= _; have:=HIT.out.2; have:=HKS.out; rw [List.length_append,List.length_cons,zfb9]; omega
   clear b5 o5 p0 p1 ck HC1 OR
   have p0:=V5.out.c0
   cases lf with
   | true =>
    obtain ⟨b',o',rfl,cv⟩:=(H1.out.below B5.out).val (i:=k) (by rw [(HR.out.vs hlf.out).1]; exact HKL.out)
    have hl2 : L2 = L1:=by rw [<- hL1.out,<- hL2.out]; exact (HR.out.vs hlf.out).1
    have hk2 : k < L2:=by omega
    have hvs:=(HR.out.vs hlf.out).2.2 k HKL.out
    obtain ⟨val,hval⟩:=exH (vA n k)
    rw [if_pos hlf.out] at HDF
    rw [hval.out] at cv hvs HDF
    have HC2:=hideN (zds9 W1.heap.size v5 _ val w5 O5.out (by have:=HL5.out; omega) hvs B5.out.size)
    have p2:=V5.out.c2
    clear hvs hl2
    go_wp2_with fail
    refine HC2.out.mono ?_
    rintro e w6 ⟨⟨v6,rfl,o6⟩,b6⟩
    have B6 : Hid (Below W1.heap.size W1 w6):=B5.out.trans b6
    have O6 : Hid (OwB W1.heap.size w6 v6 (encN n (k + 1))):=by
     rw [HIT.out.1,HDF.out]
     have:=o6
     rw [List.append_assoc,List.cons_append] at this
     exact this
    clear o6 b6 HC2 cv p0 p2 O5 B5
    go_wp2_with fail
    go_roundw
    case rel => exact ⟨k + 1,v6,by omega,by go_num,rfl,O6,B6⟩
    case measure => simp [intOf]; omega
   | false =>
    have hkd:=HR.out.kd hlf.out
    obtain ⟨b',o',rfl,cv⟩:=(H1.out.below B5.out).kid (i:=k) (by rw [hkd.1]; exact HKL.out)
    have hl3 : L3 = L1:=by rw [<- hL1.out,<- hL3.out]; exact hkd.1
    have hk3 : k < L3:=by omega
    have hds:=hkd.2.2 k HKL.out
    obtain ⟨d,hd⟩:=exH (dA n k)
    rw [if_neg (by rw [hlf.out]; decide)] at HDF
    rw [hd.out] at cv hds HDF
    obtain ⟨hd0,hd1⟩:=hds
    have p3:=V5.out.c3
    clear hl3 hkd
    obtain ⟨X5,hX5⟩:=exH (encN n k ++ ((key.size : Int) :: bts key))
    rw [hX5.out] at O5 HL5
    have HL6 : Hid (X5.length + [d % 256,d / 256].length <= 100000):=by show _ <= _; have:=HL5.out; simp; omega
    have HB5 : Hid (W1.heap.size <= w5.heap.size):=B5.out.size
    have HU : Hid (IntKind.u8.wrap d = d % 256 /\ IntKind.u8.wrap (d / 256) = d / 256):=⟨u8_low d,zty9 hd0 hd1⟩
    have bA : Below w5.heap.size w5 (w5.alloc (.cells #[.int .u8 (IntKind.u8.wrap d),.int .u8 (IntKind.u8.wrap (d / 256))] 5)).drew:=(za9 w5 _).drew
    have HO : Hid (OwB W1.heap.size (w5.alloc (.cells #[.int .u8 (IntKind.u8.wrap d),.int .u8 (IntKind.u8.wrap (d / 256))] 5)).drew v5 X5):=O5.out.below bA
    have HBB : Hid (W1.heap.size <= (w5.alloc (.cells #[.int .u8 (IntKind.u8.wrap d),.int .u8 (IntKind.u8.wrap (d / 256))] 5)).drew.heap.size):=zn2 HB5.out bA.size
    have HG : Hid (∀ j u,(List.map (Value.int .u8) [d % 256,d / 256])[j]? = some u -> (w5.alloc (.cells #[.int .u8 (IntKind.u8.wrap d),.int .u8 (IntKind.u8.wrap (d / 256))] 5)).drew.cell? ⟨w5.heap.size,j,none⟩ = some u):=fun j u hu => by
     rw [HU.out.1,HU.out.2]
     exact zeg9 w5 [d % 256,d / 256] j u hu
    have HBL : Hid (∀ w',Gb W1.heap.size (w5.alloc (.cells #[.int .u8 (IntKind.u8.wrap d),.int .u8 (IntKind.u8.wrap (d / 256))] 5)).drew w' v5 -> Below W1.heap.size w5 w'):=fun w' g => (bA.mono HB5.out).trans (g.below HO.out HBB.out)
    have hb' : b' < W1.heap.size:=by
     obtain ⟨b2,o2,e,c⟩:=H1.out.kid (i:=k) (by rw [(HR.out.kd hlf.out).1]; exact HKL.out)
     cases e
     exact World.block_lt_of_cell? W1 ⟨b',o' + k,none⟩ c
    have hw1 : w.heap.size < W1.heap.size:=V1.out.lt
    have HKP : Hid (∀ w',Below W1.heap.size w5 w' -> w'.cell? ⟨w.heap.size,3,none⟩ = some (.slice (some ⟨b',o',none⟩) L3 c3) /\ w'.cell? ⟨b',o' + k,none⟩ = some (.int .i64 d)):=fun w' hb =>
     ⟨by rw [hb.cell (p:=⟨w.heap.size,3,none⟩) hw1]; exact p3,by rw [hb.cell (p:=⟨b',o' + k,none⟩) hb']; exact cv⟩
    clear bA hb' hw1
    go_wp2_with fail
    go_region_held3 (fun w' => w'.cell? ⟨w.heap.size,3,none⟩ = some (.slice (some ⟨b',o',none⟩) L3 c3) /\ w'.cell? ⟨b',o' + k,none⟩ = some (.int .i64 d)) (first | go_keep | exact hS6)
     (first
      | (refine zlr9 rfl (.tmp 37) (.tmp 51) rfl W1.heap.size v5 X5 ?h1 HO.out w5.heap.size [d % 256,d / 256] ?h3 HG.out HL6.out HBB.out ?_; (case h1 => kernel_rfl); (case h3 => kernel_rfl); intro v6 w6 o6 g6; have b6:=HBL.out w6 g6; have hS6:=HKP.out w6 b6))
    have B6 : Hid (Below W1.heap.size W1 w6):=B5.out.trans b6
    have O6 : Hid (OwB W1.heap.size w6 v6 (encN n (k + 1))):=by
     rw [HIT.out.1,HDF.out]
     have:=o6
     rw [<- hX5.out,List.append_assoc,List.cons_append] at this
     exact this
    clear o6 b6 g6 hS6 cv p0 p3 O5 B5 HO HBB HG HBL HKP HU
    go_wp2_with fail
    go_roundw
    case rel => exact ⟨k + 1,v6,by omega,by go_num,rfl,O6,B6⟩
    case measure => simp [intOf]; omega
  ·have hkl : k = L1:=by omega
   rw [hkl,hT.out] at OR
   have hB : w.heap.size <= W1.heap.size:=B1.out.size
   have OF : Hid (OwB w.heap.size wr v0 T):=OR.out.mono hB
   clear hB
   go_wp2_with fail
   go_ret
   exact ⟨⟨_,rfl,OF.out⟩,B1.out.trans (BR.out.mono B1.out.size)⟩
theorem put_ok (n : Nd) (u1 u2 u3 : Value) (w : World) (h : Nn w n u1 u2 u3) (hs : Sm n) (hm : mayN n = true) :
  Calls Tryz.prog 144 #[nod n.lf u1 u2 u3] w fun e w' => (∃ v,e = .returned (.tuple #[blN (kdN n.lf) v,.int .i64 0]) /\ Rd .u8 w' v (encN n n.ks.length) /\ ∀ j,v.ownBlock = some j -> w.heap.size <= j) /\ Below w.heap.size w w':=by
 obtain ⟨a1,c1,a2,c2,a3,c3,rfl,rfl,rfl,⟨l1,l2,l3,l4,l5,l6⟩,_,_,_⟩:=h.out
 have H:=hideN h
 have HS:=hideN hs
 obtain ⟨L1,hL1⟩:=exH n.ks.length
 obtain ⟨L2,hL2⟩:=exH n.vs.length
 obtain ⟨L3,hL3⟩:=exH n.kd.length
 rw [hL1.out] at H l1 ⊢
 rw [hL2.out] at H l3 ⊢
 rw [hL3.out] at H l5 ⊢
 obtain ⟨lf,hlf⟩:=exH n.lf
 rw [hlf.out]
 unfold nod
 obtain ⟨W1,hW1⟩:=exN (w.alloc (.cells #[.bool lf,.slice a1 L1 c1,.slice a2 L2 c2,.slice a3 L3 c3] 93))
 have B1 : Hid (Below w.heap.size w W1):=by rw [<- hW1]; exact za9 _ _
 have V1 : Hid (Nb W1 93 w.heap.size lf (.slice a1 L1 c1) (.slice a2 L2 c2) (.slice a3 L3 c3)):=by rw [<- hW1]; exact nb_new _ _ _ _ _ _
 have H1 : Hid (Nn W1 n (.slice a1 L1 c1) (.slice a2 L2 c2) (.slice a3 L3 c3)):=H.out.below B1.out
 obtain ⟨W2,hW2⟩:=exN (W1.alloc (.cells #[.int .i64 0,.slice none 0 0] 63))
 have b2 : Below W1.heap.size W1 W2:=by rw [<- hW2]; exact za9 _ _
 have V2 : Hid (Nb W2 93 w.heap.size lf (.slice a1 L1 c1) (.slice a2 L2 c2) (.slice a3 L3 c3)):=V1.out.below b2
 have K2 : Hid (Kb W2 W1.heap.size 0 (.slice none 0 0)):=by rw [<- hW2]; exact kb_new _ _ _
 have B2 : Hid (Below w.heap.size w W2):=B1.out.trans (b2.mono B1.out.size)
 have H2 : Hid (Nn W2 n (.slice a1 L1 c1) (.slice a2 L2 c2) (.slice a3 L3 c3)):=H1.out.below b2
 have HW1 : Hid (w.heap.size < W1.heap.size):=V1.out.lt
 have HM1 : Hid (∀ W,Below W2.heap.size W2 W -> Calls Tryz.prog 155 #[.agg #[.bool lf,.slice a1 L1 c1,.slice a2 L2 c2,.slice a3 L3 c3]] W fun e w' => e = .returned (.bool true) /\ Below W.heap.size W w'):=fun W hb => by
  have:=zci9 n _ _ _ W (H2.out.below hb) HS.out
  rw [hlf.out,hm] at this
  exact this
 have HR : Rl n:=zep9 (zw9.1 hm) (by have:=HS.out.kl; omega)
 have HC1 : Hid (∀ W,Below W2.heap.size W2 W -> Calls Tryz.prog 161 #[.agg #[.bool lf,.slice a1 L1 c1,.slice a2 L2 c2,.slice a3 L3 c3]] W fun e w' => (∃ v,e = .returned v /\ OwB W.heap.size w' v (encN n n.ks.length)) /\ Below W.heap.size W w'):=fun W hb => by
  have:=zjb9 n _ _ _ W (H2.out.below hb) HS.out HR
  rw [hlf.out] at this
  exact this
 obtain ⟨T,hT⟩:=exH (encN n n.ks.length)
 rw [hT.out] at HC1
 rw [<- hL1.out,hT.out]
 have p0:=V2.out.c0
 have p1:=V2.out.c1
 have p2:=V2.out.c2
 have p3:=V2.out.c3
 clear h hs H hm b2 HR
 rw [hL1.out]
 go_enter Tryz.func144,Tryz.ntmps144
 go_wp2_with fail
 refine (HM1.out W2 (Below.refl _ _)).mono ?_
 rintro e w3 ⟨rfl,b3⟩
 have V3 : Hid (Nb w3 93 w.heap.size lf (.slice a1 L1 c1) (.slice a2 L2 c2) (.slice a3 L3 c3)):=V2.out.below b3
 have B3:=hideN b3
 clear b3 p0 p1 p2 p3 hW1 hW2 HM1
 have p0:=V3.out.c0
 have p1:=V3.out.c1
 have p2:=V3.out.c2
 have p3:=V3.out.c3
 cases lf with
 | true =>
  go_wp2_with fail
  refine (HC1.out w3 B3.out).mono ?_
  rintro e w4 ⟨⟨v,rfl,o4⟩,b4⟩
  have B4 : Below W2.heap.size W2 w4:=B3.out.trans (b4.mono B3.out.size)
  have K4 : Kb w4 W1.heap.size 0 (.slice none 0 0):=K2.out.below B4
  obtain ⟨va,vc,e4⟩:=o4.long
  obtain ⟨vl,hvl⟩:=exH T.length
  rw [hvl.out] at e4
  subst e4
  obtain ⟨W5,hW5⟩:=exH ((w4.setCell ⟨W1.heap.size,0,none⟩ (.int .i64 1)).setCell ⟨W1.heap.size,1,none⟩ (.slice va vl vc))
  have K5 : Hid (Kb W5 W1.heap.size 1 (.slice va vl vc)):=by rw [<- hW5.out]; exact K4.put _ _
  have t5 : Tch (fun j => j = W1.heap.size) w4 W5:=by rw [<- hW5.out]; exact zmc9 _ _ _ _
  have R5 : Hid (Rd .u8 W5 (.slice va vl vc) T):=(o4.tch t5 (fun j hj e => o4.ne K4 (by decide) (by rw [hj,e]))).rd
  have NW5 : Hid (∀ j,(Value.slice va vl vc).ownBlock = some j -> w.heap.size <= j):=fun j hj => zn2 (zn2 B2.out.size B3.out.size) (o4.ge j hj)
  have B4' : Below w.heap.size w w4:=B2.out.trans (B4.mono B2.out.size)
  have B5 : Hid (Below w.heap.size w W5):=B4'.trans (t5.below B4'.size (fun j e => by have:=HW1.out; omega))
  have s0:=K4.c0
  have s1:=K4.c1
  have g0:=K4.fz 0
  have g1:=K4.fz 1
  clear o4 b4 B4 K4 t5 B4' p0 p1 p2 p3 HC1
  go_wp2_with fail
  rw [hW5.out]
  refine bodyPost_ret (v:=.tuple #[blN 1 (.slice va vl vc),.int .i64 0]) (ze9 (p:=2) (ty:=63) rfl _ _ _ W1.heap.size _ _ rfl K5.out.load rfl) rfl ?_
  exact ⟨⟨_,rfl,R5.out,NW5.out⟩,B5.out⟩
 | false =>
  go_wp2_with fail
  refine (HC1.out w3 B3.out).mono ?_
  rintro e w4 ⟨⟨v,rfl,o4⟩,b4⟩
  have B4 : Below W2.heap.size W2 w4:=B3.out.trans (b4.mono B3.out.size)
  have K4 : Kb w4 W1.heap.size 0 (.slice none 0 0):=K2.out.below B4
  obtain ⟨va,vc,e4⟩:=o4.long
  obtain ⟨vl,hvl⟩:=exH T.length
  rw [hvl.out] at e4
  subst e4
  obtain ⟨W5,hW5⟩:=exH ((w4.setCell ⟨W1.heap.size,0,none⟩ (.int .i64 2)).setCell ⟨W1.heap.size,1,none⟩ (.slice va vl vc))
  have K5 : Hid (Kb W5 W1.heap.size 2 (.slice va vl vc)):=by rw [<- hW5.out]; exact K4.put _ _
  have t5 : Tch (fun j => j = W1.heap.size) w4 W5:=by rw [<- hW5.out]; exact zmc9 _ _ _ _
  have R5 : Hid (Rd .u8 W5 (.slice va vl vc) T):=(o4.tch t5 (fun j hj e => o4.ne K4 (by decide) (by rw [hj,e]))).rd
  have NW5 : Hid (∀ j,(Value.slice va vl vc).ownBlock = some j -> w.heap.size <= j):=fun j hj => zn2 (zn2 B2.out.size B3.out.size) (o4.ge j hj)
  have B4' : Below w.heap.size w w4:=B2.out.trans (B4.mono B2.out.size)
  have B5 : Hid (Below w.heap.size w W5):=B4'.trans (t5.below B4'.size (fun j e => by have:=HW1.out; omega))
  have s0:=K4.c0
  have s1:=K4.c1
  have g0:=K4.fz 0
  have g1:=K4.fz 1
  clear o4 b4 B4 K4 t5 B4' p0 p1 p2 p3 HC1
  go_wp2_with fail
  rw [hW5.out]
  refine bodyPost_ret (v:=.tuple #[blN 2 (.slice va vl vc),.int .i64 0]) (ze9 (p:=2) (ty:=63) rfl _ _ _ W1.heap.size _ _ rfl K5.out.load rfl) rfl ?_
  exact ⟨⟨_,rfl,R5.out,NW5.out⟩,B5.out⟩
theorem ztk9 (n : Nd) (u1 u2 u3 : Value) (w : World) (h : Nn w n u1 u2 u3) (hs : Sm n) (hm : mayN n = false) :
  Calls Tryz.prog 144 #[nod n.lf u1 u2 u3] w fun e w' => e = .returned (.tuple #[blN 0 (.slice none 0 0),.int .i64 1]) /\ Below w.heap.size w w':=by
 obtain ⟨a1,c1,a2,c2,a3,c3,rfl,rfl,rfl,⟨l1,l2,l3,l4,l5,l6⟩,_,_,_⟩:=h.out
 have H:=hideN h
 have HS:=hideN hs
 obtain ⟨L1,hL1⟩:=exH n.ks.length
 obtain ⟨L2,hL2⟩:=exH n.vs.length
 obtain ⟨L3,hL3⟩:=exH n.kd.length
 rw [hL1.out] at H l1 ⊢
 rw [hL2.out] at H l3 ⊢
 rw [hL3.out] at H l5 ⊢
 obtain ⟨lf,hlf⟩:=exH n.lf
 rw [hlf.out]
 unfold nod
 obtain ⟨W1,hW1⟩:=exN (w.alloc (.cells #[.bool lf,.slice a1 L1 c1,.slice a2 L2 c2,.slice a3 L3 c3] 93))
 have B1 : Hid (Below w.heap.size w W1):=by rw [<- hW1]; exact za9 _ _
 have V1 : Hid (Nb W1 93 w.heap.size lf (.slice a1 L1 c1) (.slice a2 L2 c2) (.slice a3 L3 c3)):=by rw [<- hW1]; exact nb_new _ _ _ _ _ _
 have H1 : Hid (Nn W1 n (.slice a1 L1 c1) (.slice a2 L2 c2) (.slice a3 L3 c3)):=H.out.below B1.out
 obtain ⟨W2,hW2⟩:=exN (W1.alloc (.cells #[.int .i64 0,.slice none 0 0] 63))
 have b2 : Below W1.heap.size W1 W2:=by rw [<- hW2]; exact za9 _ _
 have V2 : Hid (Nb W2 93 w.heap.size lf (.slice a1 L1 c1) (.slice a2 L2 c2) (.slice a3 L3 c3)):=V1.out.below b2
 have K2 : Hid (Kb W2 W1.heap.size 0 (.slice none 0 0)):=by rw [<- hW2]; exact kb_new _ _ _
 have B2 : Hid (Below w.heap.size w W2):=B1.out.trans (b2.mono B1.out.size)
 have H2 : Hid (Nn W2 n (.slice a1 L1 c1) (.slice a2 L2 c2) (.slice a3 L3 c3)):=H1.out.below b2
 have HW1 : Hid (w.heap.size < W1.heap.size):=V1.out.lt
 have HM1 : Hid (∀ W,Below W2.heap.size W2 W -> Calls Tryz.prog 155 #[.agg #[.bool lf,.slice a1 L1 c1,.slice a2 L2 c2,.slice a3 L3 c3]] W fun e w' => e = .returned (.bool false) /\ Below W.heap.size W w'):=fun W hb => by
  have:=zci9 n _ _ _ W (H2.out.below hb) HS.out
  rw [hlf.out,hm] at this
  exact this
 have p0:=V2.out.c0
 have p1:=V2.out.c1
 have p2:=V2.out.c2
 have p3:=V2.out.c3
 clear h hs H hm b2
 go_enter Tryz.func144,Tryz.ntmps144
 go_wp2_with fail
 refine (HM1.out W2 (Below.refl _ _)).mono ?_
 rintro e w4 ⟨rfl,B4⟩
 have K4 : Kb w4 W1.heap.size 0 (.slice none 0 0):=K2.out.below B4
 obtain ⟨W5,hW5⟩:=exH ((w4.setCell ⟨W1.heap.size,0,none⟩ (.int .i64 0)).setCell ⟨W1.heap.size,1,none⟩ (.slice none 0 0))
 have K5 : Hid (Kb W5 W1.heap.size 0 (.slice none 0 0)):=by rw [<- hW5.out]; exact K4.put _ _
 have t5 : Tch (fun j => j = W1.heap.size) w4 W5:=by rw [<- hW5.out]; exact zmc9 _ _ _ _
 have B4' : Below w.heap.size w w4:=B2.out.trans (B4.mono B2.out.size)
 have B5 : Hid (Below w.heap.size w W5):=B4'.trans (t5.below B4'.size (fun j e => by have:=HW1.out; omega))
 have s0:=K4.c0
 have s1:=K4.c1
 have g0:=K4.fz 0
 have g1:=K4.fz 1
 clear B4 K4 t5 B4' p0 p1 p2 p3 HM1 hW1 hW2
 go_wp2_with fail
 rw [hW5.out]
 refine bodyPost_ret (v:=.tuple #[blN 0 (.slice none 0 0),.int .i64 1]) (ze9 (p:=2) (ty:=63) rfl _ _ _ W1.heap.size _ _ rfl K5.out.load rfl) rfl ?_
 exact ⟨rfl,B5.out⟩
end Go.Proofs.YtjhccpijpffahaaGreat
