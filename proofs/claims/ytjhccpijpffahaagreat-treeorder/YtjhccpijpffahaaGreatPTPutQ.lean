import Derived.Test.YtjhccpijpffahaaGreatPTBelQ
import Derived.Laws.EntriesVeiled
import Derived.Test.YtjhccpijpffahaaGreatPTGetT
import Derived.Lib.Strings
import Derived.Test.YtjhccpijpffahaaGreatPTBeg
import Derived.Test.YtjhccpijpffahaaGreatPTLay
import Derived.Test.YtjhccpijpffahaaGreatPTEnt
set_option maxRecDepth 100000
set_option linter.unusedVariables false
set_option linter.unusedSimpArgs false
set_option maxHeartbeats 8000000
namespace Go.Proofs.YtjhccpijpffahaaGreat
open Go.RowKit Go.Maps Pl
theorem zsr9 {key val : ByteArray} (hk : key.size <= 1000) (hv : val.size <= 1000) {n : Nd} (h : SzT n) (hl : n.ks.length <= 240) (he : n.vs.length = n.ks.length) : SzT (insL key val n):=by
 have hd:=h.d
 unfold insL
 simp only
 split
 ·refine sz_of h.sm.km (fun s hs => ?_) h.k (by simp only [List.length_set]; exact h.v) h.d
  rcases List.mem_or_eq_of_mem_set hs with e | e
  ·exact h.sm.vm s e
  ·rw [e]; omega
 ·refine sz_of (fun s hs => ?_) (fun s hs => ?_) ?_ ?_ h.d
  ·rcases List.mem_append.1 hs with e | e
   ·exact h.sm.km s (List.mem_of_mem_take e)
   ·rcases List.mem_cons.1 e with rfl | e
    ·omega
    ·exact h.sm.km s (List.mem_of_mem_drop e)
  ·rcases List.mem_or_eq_of_mem_set hs with e | e
   ·rcases List.mem_append.1 e with e | e
    ·exact h.sm.vm s (List.mem_of_mem_take e)
    ·rcases List.mem_cons.1 e with rfl | e
     ·exact zn7 _
     ·exact h.sm.vm s (List.mem_of_mem_drop e)
   ·rw [e]; omega
  ·simp only [List.length_append,List.length_take,List.length_cons,List.length_drop]; omega
  ·simp only [List.length_set,List.length_append,List.length_take,List.length_cons,List.length_drop]; omega
theorem gz_new {U : Nat -> Prop} {w w' : World} {t cc d M N cb : Nat} {a : AS} (h : Tz U w t cc d M N a) (hb : Below w.heap.size w w') (hc : w.heap.size <= cb) (b : CB) (hcb : b.cb = cb) (hbox : w'.heap[cb]? = some (.cells #[tp t,.string b.key,b.fv,.bool b.jn,.int .i64 0,.slice none 0 0,.slice none 0 0] 114 (0,0))) : Gz (fun k => U k ∨ k = cb) w' t cc d M N a b ch0:=by
 subst hcb
 refine ⟨U,_,_,h.below hb,⟨hbox,zak9 _ _ _,zak9 _ _ _,fun j e => (by cases e),fun x hx => by rcases hx with e | e <;> cases e⟩,fun k hk e => ?_,fun k hk => ?_,fun k hk => ?_⟩
 ·rcases hk with rfl | q | q
  ·have:=h.ul _ e; omega
  ·cases q
  ·cases q
 ·rcases hk with q | q | q | q
  ·exact .inl q
  ·exact .inr q
  ·cases q
  ·cases q
 ·rcases hk with q | q
  ·exact zn1 (h.ul k q) hb.size
  ·rw [q]; exact (Array.getElem?_eq_some_iff.1 hbox).1
section
variable {U : Nat -> Prop} {t cc d M N : Nat} {a : AS}
theorem cloPut {w0 : World} {cb kb vb : Nat} {key val : ByteArray} (hk : key.size <= 1000) (hv : val.size <= 1000) (h1 : w0.cell? ⟨kb,0,none⟩ = some (.string key)) (h2 : w0.cell? ⟨vb,0,none⟩ = some (.string val)) :
  Clo (fun k => k = kb ∨ k = vb) w0 ⟨cb,.func (.func 51) #[] #[.pointer (some ⟨kb,0,none⟩),.pointer (some ⟨vb,0,none⟩)],key,false⟩ ⟨key,insL key val,false⟩ where
 key:=rfl
 jn:=rfl
 ks:=hk
 fn:=⟨_,_,rfl,enters_of Tryz.func51 (by kernel_rfl) rfl,fun n u1 u2 u3 W B hR hB hW ho hs hl he => by
  have k1 : W.cell? ⟨kb,0,none⟩ = some (.string key):=by rw [<- h1]; unfold World.cell?; rw [hR kb (.inl rfl)]
  have k2 : W.cell? ⟨vb,0,none⟩ = some (.string val):=by rw [<- h2]; unfold World.cell?; rw [hR vb (.inr rfl)]
  exact zpz9 n u1 u2 u3 key val kb vb W hW ho hs hl he k1 k2 (hB vb (.inr rfl))⟩
 sz:=fun n h hl he => zsr9 hk hv h hl he
theorem zcv9 (x : Int) (hx : (Lit.int .i64 x).wf = true) (key val : ByteArray) (hkm : key.size <= 4611686018427387904) (hvm : val.size <= 4611686018427387904) (w : World) (h : Tz U w t cc d M N a) :
  Calls Tryz.prog 23 #[tp t,.int .i64 x,.string key,.string val] w fun e w' => e = .returned (.tuple #[.int .i64 (putF a x key val).x,.int .i64 (putF a x key val).e]) /\ TzTo U w w' t cc d M N (putF a x key val).a:=by
 obtain ⟨W1,hW1⟩:=exN (w.alloc (.cells #[.string key] 9))
 obtain ⟨W2,hW2⟩:=exN (W1.alloc (.cells #[.string val] 9))
 have s1 : W1.heap.size = w.heap.size + 1:=by rw [<- hW1]; simp
 have s2 : W2.heap.size = w.heap.size + 2:=by rw [<- hW2]; simp [s1]
 have b1 : Below w.heap.size w W1:=by rw [<- hW1]; exact za9 _ _
 have b2 : Below W1.heap.size W1 W2:=by rw [<- hW2]; exact za9 _ _
 have b12 : Below w.heap.size w W2:=b1.trans (b2.mono b1.size)
 have g1 : Rw 9 W2 w.heap.size [.string key]:=by
  have : Rw 9 W1 w.heap.size [.string key]:=by rw [<- hW1]; exact Rw.new _ _ _
  exact this.tch (Tch.of_below (S:=fun _ => False) b2) (fun e => e)
 have g2 : Rw 9 W2 W1.heap.size [.string val]:=by rw [<- hW2]; exact Rw.new _ _ _
 have k1 : W2.cell? ⟨w.heap.size,0,none⟩ = some (.string key):=by rw [g1.cell]; rfl
 have k2 : W2.cell? ⟨W1.heap.size,0,none⟩ = some (.string val):=by rw [g2.cell]; rfl
 have HT:=hideN h
 have HB12:=hideN b12
 have HSZ : Hid (W1.heap.size = w.heap.size + 1 /\ W2.heap.size = w.heap.size + 2):=⟨s1,s2⟩
 obtain ⟨PR,hPR⟩:=exH (putF a x key val)
 rw [hPR.out]
 have hmf : ∀ (fn : Fn) (first cap : Array Value) (w : World),(Instr.makeFunc fn first cap).run Tryz.prog w = .ok (.func fn first cap) w:=fun _ _ _ _ => rfl
 obtain ⟨em,hem⟩:=exN key.toList.isEmpty
 have hes : eqs key eS = em:=by rw [<- hem]; unfold eqs eS; simp
 have HBAD : Hid ((em = true ∨ 24 < key.size ∨ 24 < val.size) -> PR = ⟨0,1,a⟩):=fun hq => by
  rw [<- hPR.out]; unfold putF; rw [hes,if_pos hq]
 have HZW:=hideN (h.to_below b12)
 by_cases hbad : em = true ∨ 24 < key.size ∨ 24 < val.size
 ·have HP:=hideN (HBAD.out hbad)
  clear h b1 b2 b12 s1 s2 g1 g2 HBAD hPR hes hx
  go_enter Tryz.func23,Tryz.ntmps23
  by_cases q1 : em = true
  ·subst q1
   clear hbad
   go_wp2_with fail
   go_ret2
   rw [HP.out]
   exact ⟨rfl,HZW.out⟩
  ·have q2 : em = false:=by cases em with | false => rfl | true => exact absurd rfl q1
   subst q2
   by_cases q3 : 24 < key.size
   ·have l1 : decide ((24 : Int) < (key.size : Int)) = true:=by rw [decide_eq_true_iff]; omega
    have l1' : decide (24 < key.size) = true:=decide_eq_true q3
    clear hbad q1
    go_wp2_with fail
    go_ret2
    rw [HP.out]
    exact ⟨rfl,HZW.out⟩
   ·have q4 : 24 < val.size:=by rcases hbad with e | e | e <;> first | exact absurd e (by decide) | exact absurd e q3 | exact e
    have l1 : decide ((24 : Int) < (key.size : Int)) = false:=by rw [zn4]; omega
    have l1' : decide (24 < key.size) = false:=decide_eq_false q3
    have l2 : decide ((24 : Int) < (val.size : Int)) = true:=by rw [decide_eq_true_iff]; omega
    have l2' : decide (24 < val.size) = true:=decide_eq_true q4
    clear hbad q1
    go_wp2_with fail
    go_ret2
    rw [HP.out]
    exact ⟨rfl,HZW.out⟩
 ·have hk0 : em = false:=by cases em with | false => rfl | true => exact absurd (.inl rfl) hbad
  subst hk0
  have hk1 : key.size <= 24:=by omega
  have hv1 : val.size <= 24:=by omega
  have HP : Hid (PR = madeF ⟨key,insL key val,false⟩ a x):=by show _ = _; rw [<- hPR.out]; unfold putF; rw [hes,if_neg hbad]
  have l1 : decide ((24 : Int) < (key.size : Int)) = false:=by rw [zn4]; omega
  have l2 : decide ((24 : Int) < (val.size : Int)) = false:=by rw [zn4]; omega
  have l1' : decide (24 < key.size) = false:=by rw [zn4]; omega
  have l2' : decide (24 < val.size) = false:=by rw [zn4]; omega
  obtain ⟨W3,hW3⟩:=exN (W2.alloc (.cells #[tp t,.string key,.func (.func 51) #[] #[.pointer (some ⟨w.heap.size,0,none⟩),.pointer (some ⟨W1.heap.size,0,none⟩)],.bool false,.int .i64 0,.slice none 0 0,.slice none 0 0] 114))
  have b3 : Below W2.heap.size W2 W3:=by rw [<- hW3]; exact za9 _ _
  have b13 : Below w.heap.size w W3:=b12.trans (b3.mono b12.size)
  have bx3 : W3.heap[W2.heap.size]? = some (.cells #[tp t,.string key,.func (.func 51) #[] #[.pointer (some ⟨w.heap.size,0,none⟩),.pointer (some ⟨W1.heap.size,0,none⟩)],.bool false,.int .i64 0,.slice none 0 0,.slice none 0 0] 114 (0,0)):=by rw [<- hW3]; exact heap_alloc_new W2 _
  have G3:=gz_new h b13 (cb:=W2.heap.size) b12.size ⟨W2.heap.size,.func (.func 51) #[] #[.pointer (some ⟨w.heap.size,0,none⟩),.pointer (some ⟨W1.heap.size,0,none⟩)],key,false⟩ rfl bx3
  have k1' : W3.cell? ⟨w.heap.size,0,none⟩ = some (.string key):=by rw [b3.cell (World.block_lt_of_cell? W2 ⟨w.heap.size,0,none⟩ k1)]; exact k1
  have k2' : W3.cell? ⟨W1.heap.size,0,none⟩ = some (.string val):=by rw [b3.cell (World.block_lt_of_cell? W2 ⟨W1.heap.size,0,none⟩ k2)]; exact k2
  have s3:=b3.size
  have MP:=zms9 ⟨key,insL key val,false⟩ (cloPut (cb:=W2.heap.size) (kb:=w.heap.size) (vb:=W1.heap.size) (by omega) (by omega) k1' k2') rfl x hx W3 G3 (fun k hk => ⟨by omega,fun e => by
   rcases e with e | e
   ·have:=h.ul k e; omega
   ·omega,rfl⟩)
  rw [<- HP.out] at MP
  unfold chp at MP
  have HMP:=hideN MP
  have HB13:=hideN b13
  have HB3:=hideN (zn2 b12.size (zn6 W2.heap.size))
  unfold tp at hW3
  clear h b1 b2 b12 s1 s2 g1 g2 hbad HBAD hPR hes hx MP b3 b13 bx3 G3 k1' k2' s3
  go_enter Tryz.func23,Tryz.ntmps23
  go_wp2_with fail
  try rw [hW3]
  refine HMP.out.mono ?_
  rintro e W4 ⟨rfl,z4⟩
  have HF : Hid (TzTo U w W4 t cc d M N PR.a):=by
   obtain ⟨U',zz,tt,hu⟩:=z4
   have hs:=HB13.out.size
   have hs3:=HB3.out
   refine ⟨U',zz,(Tch.of_below (S:=U) HB13.out).trans tt (fun y hy e => e.elim id (fun e => by omega)),fun k hk => ?_⟩
   rcases hu k hk with (e | e) | e
   ·exact .inl e
   ·exact .inr (by omega)
   ·exact .inr (by omega)
  clear z4
  go_wp2_with fail
  go_ret2
  exact ⟨rfl,HF.out⟩
end
theorem eqs_eq {x y : ByteArray} (h : eqs x y = true) : x = y:=by
 unfold eqs at h
 rw [Go.Lib.toList_data,Go.Lib.toList_data,beq_iff_eq] at h
 cases x; cases y
 simp only [ByteArray.mk.injEq] at *
 exact Array.ext' h
theorem zry9 {x y : ByteArray} : eqs x y = true ↔ x = y:=⟨eqs_eq,fun h => by subst h; unfold eqs; simp⟩
section
variable {σ : Type} {D : WD σ}
end
def lfA : Nd:=⟨true,[⟨#[97]⟩],[⟨#[49]⟩],[]⟩
theorem lfA_sz : szN lfA lfA.ks.length = 5:=by rfl
theorem ltT_ab : lts ⟨#[97]⟩ ⟨#[98]⟩ = true:=by unfold lts; rw [ByteArray.toList_eq,ByteArray.toList_eq]; decide
theorem neT_a : eqs ⟨#[97]⟩ eS = false:=by unfold eqs eS; rw [ByteArray.toList_eq,ByteArray.toList_eq]; decide
theorem zsy9 : mayN lfA = true:=by
 rw [zw9]
 unfold MayP
 refine ⟨by decide,by rw [lfA_sz,zas9 (by decide)]; decide,fun i hi => ?_,?_⟩
 ·have hi2 : i < 1:=hi
  match i,hi2 with
  | 0,_ => exact ⟨by decide,fun h => absurd h (by decide),fun _ => neT_a⟩
 ·rw [if_pos (show lfA.lf = true from rfl)]
  refine ⟨fun i hi => ?_,rfl,rfl⟩
  have hi2 : i < 1:=hi
  match i,hi2 with
  | 0,_ => decide
theorem lv_ins : insL ⟨#[97]⟩ ⟨#[49]⟩ leaf0 = lfA:=by
 unfold insL
 simp only
 rw [if_neg (fun e => absurd e.1 (by decide))]
 rfl
theorem lv_pc : piecesF lfA = [lfA]:=by
 unfold piecesF
 rw [if_neg (by decide),lfA_sz,if_pos (by rw [zas9 (by decide)]; decide)]
theorem zkj9 : Ah.take (as0 30).A = (50,true,⟨50,(List.replicate 30 0).set 0 1,0⟩):=by
 unfold Ah.take as0 Ah.new
 simp only
 rw [if_neg (by decide)]
 rfl
theorem zqf9 : writeF (as0 30) ch0 lfA = ⟨50,0,(as0 30).wr lfA,{ ch0 with tk:=[50] }⟩:=by
 unfold writeF
 rw [if_pos zsy9,if_pos (by rw [zkj9]),zkj9]
 rfl
theorem lv_put : putF (as0 30) 0 ⟨#[97]⟩ ⟨#[49]⟩ = ⟨50,0,(as0 30).wr lfA⟩:=by
 unfold putF
 rw [neT_a,if_neg (by decide)]
 have hp : partsF ⟨⟨#[97]⟩,insL ⟨#[97]⟩ ⟨#[49]⟩,false⟩ (as0 30) ch0 0 = ⟨0,[lfA],as0 30,ch0⟩:=by
  unfold partsF
  rw [if_pos rfl]
  show (⟨0,piecesF (insL ⟨#[97]⟩ ⟨#[49]⟩ leaf0),as0 30,ch0⟩ : BR) = _
  rw [lv_ins,lv_pc]
 have hr : rootedF ⟨⟨#[97]⟩,insL ⟨#[97]⟩ ⟨#[49]⟩,false⟩ (as0 30) ch0 0 = ⟨50,0,(as0 30).wr lfA,{ ch0 with tk:=[50] }⟩:=by
  unfold rootedF
  rw [hp]
  show (if (0 : Int) ≠ 0 then _ else _) = _
  rw [if_neg (by simp)]
  show (if [lfA].length = 0 then _ else _) = _
  rw [if_neg (by decide)]
  show (if [lfA].length = 1 then _ else _) = _
  rw [if_pos (show [lfA].length = 1 from rfl)]
  show (if lfA.kd.length = 1 then _ else _) = _
  rw [if_neg (by decide)]
  exact zqf9
 unfold madeF
 rw [hr]
 rfl
theorem lv_V : ((as0 30).wr lfA).V 50 = (0,lfA):=by
 unfold AS.wr
 rw [zkj9]
 show updI (as0 30).V 50 (0,lfA) 50 = _
 exact zbs9 _ _ _
theorem zoh9 (key : ByteArray) : getF ((as0 30).wr lfA) 50 key = ⟨0,((getW key).st (eS,false) 50 lfA).1,[50]⟩:=by
 unfold getF fromF
 rw [if_neg (by decide),downF,if_neg (by simp)]
 have hl : look ((as0 30).wr lfA) 50 1 = (0,lfA):=by unfold look; rw [if_neg (by decide)]; exact lv_V
 rw [hl]
 rfl
theorem lv_a : getF ((as0 30).wr lfA) 50 ⟨#[97]⟩ = ⟨0,(⟨#[49]⟩,true),[50]⟩:=by
 rw [zoh9]
 have h1 : lts (kA lfA 0) ⟨#[97]⟩ = false:=by unfold lts; exact bl_irr _
 have hp : plc lfA ⟨#[97]⟩ lfA.ks.length = 0:=by
  show plc lfA ⟨#[97]⟩ (0 + 1) = 0
  unfold plc
  rw [if_pos (show lfA.lf = true from rfl),if_neg (by rw [h1]; decide)]
  rfl
 unfold getW
 simp only [hp]
 rw [if_pos (show lfA.lf = true from rfl),if_pos ⟨by decide,zry9.2 rfl⟩]
 rfl
theorem lv_b : getF ((as0 30).wr lfA) 50 ⟨#[98]⟩ = ⟨0,(eS,false),[50]⟩:=by
 rw [zoh9]
 have hp : plc lfA ⟨#[98]⟩ lfA.ks.length = 1:=by
  show plc lfA ⟨#[98]⟩ (0 + 1) = 1
  unfold plc
  rw [if_pos (show lfA.lf = true from rfl),if_pos (show lts (kA lfA 0) ⟨#[98]⟩ = true from ltT_ab)]
 unfold getW
 simp only [hp]
 rw [if_pos (show lfA.lf = true from rfl),if_neg (fun e => absurd e.1 (by decide))]
theorem zfj9 (w : World) : Calls Tryz.prog 15 #[] w fun e w' => e = .returned (.bool true) /\ Below w.heap.size w w':=by
 have BG:=zjh9 30 (by decide) (by decide) w
 rw [show ((30 : Nat) : Int) = 30 from rfl] at BG
 have HBG:=hideN BG
 clear BG
 go_enter Tryz.func15,Tryz.ntmps15
 go_wp2_with fail
 refine HBG.out.mono ?_
 rintro e W1 ⟨U,b,t,c,d,M,rfl,l1,u1,b1,bl1⟩
 have k3 : W1.cell? ⟨b,3,none⟩ = some (tp t):=by rw [l1.cl]; rfl
 have PT:=zcv9 0 (by decide) ⟨#[97]⟩ ⟨#[49]⟩ (by decide) (by decide) W1 l1.tz
 rw [lv_put] at PT
 have HPT:=hideN PT
 have HL1:=hideN l1
 have HU1:=hideN u1
 have HBL : Hid (w.heap.size <= b /\ Below w.heap.size w W1):=⟨b1,bl1⟩
 clear PT l1 u1 b1 bl1 HBG
 go_wp2_with fail
 refine HPT.out.mono ?_
 rintro e W2 ⟨rfl,z2⟩
 obtain ⟨U2,l2,t2,h2⟩:=HL1.out.to z2
 have B2 : Below w.heap.size w W2:=HBL.out.2.trans (t2.below HBL.out.2.size (fun k hk => HU1.out k hk))
 have hu2 : ∀ k,U2 k -> w.heap.size <= k:=fun k hk => (h2 k hk).elim (HU1.out k) (fun e => by have:=HBL.out.2.size; omega)
 have GA:=zjx9 50 ⟨by decide,by decide⟩ ⟨#[97]⟩ W2 l2.tz
 rw [lv_a] at GA
 have HGA:=hideN GA
 have k3' : W2.cell? ⟨b,3,none⟩ = some (tp t):=by rw [l2.cl]; rfl
 have HL2:=hideN l2
 have HB2:=hideN B2
 have HU2:=hideN hu2
 clear z2 l2 t2 h2 B2 hu2 GA k3 HPT
 go_wp2_with fail
 refine HGA.out.mono ?_
 rintro e W3 ⟨rfl,z3⟩
 obtain ⟨U3,l3,t3,h3⟩:=HL2.out.to z3
 have B3 : Below w.heap.size w W3:=HB2.out.trans (t3.below HB2.out.size (fun k hk => HU2.out k hk))
 have hu3 : ∀ k,U3 k -> w.heap.size <= k:=fun k hk => (h3 k hk).elim (HU2.out k) (fun e => by have:=HB2.out.size; omega)
 have GB:=zjx9 50 ⟨by decide,by decide⟩ ⟨#[98]⟩ W3 l3.tz
 rw [lv_b] at GB
 have HGB:=hideN GB
 have k3 : W3.cell? ⟨b,3,none⟩ = some (tp t):=by rw [l3.cl]; rfl
 have HL3:=hideN l3
 have HB3:=hideN B3
 have HU3:=hideN hu3
 clear z3 l3 t3 h3 B3 hu3 GB k3' HGA
 go_wp2_with fail
 refine HGB.out.mono ?_
 rintro e W4 ⟨rfl,z4⟩
 have HB4 : Hid (Below w.heap.size w W4):=by
  obtain ⟨U4,l4,t4,h4⟩:=HL3.out.to z4
  exact HB3.out.trans (t4.below HB3.out.size (fun k hk => HU3.out k hk))
 clear z4 k3 HGB
 go_wp2_with fail
 go_ret
 exact ⟨by first | rfl | simp,HB4.out⟩
theorem zcm9 {l l' : Nat -> Bool} : ∀ (f lo hi : Nat),(∀ t,t < hi -> l t = l' t) -> Lib.bsGo l f lo hi = Lib.bsGo l' f lo hi
 | 0,_,_,_ => rfl
 | f + 1,lo,hi,h => by
  unfold Lib.bsGo
  by_cases hl : lo < hi
  ·rw [if_pos hl,if_pos hl,h ((lo + hi) / 2) (by omega)]
   split
   ·exact zcm9 f _ _ h
   ·exact zcm9 f _ _ (fun t ht => h t (by omega))
  ·rw [if_neg hl,if_neg hl]
theorem zjj9 : ∀ x y z : List UInt8,Op.bytesLess x y = true -> Op.bytesLess y z = true -> Op.bytesLess x z = true
 | [],_,[],h1,h2 => by
  rename_i y
  cases y with
  | nil => simp [Op.bytesLess] at h1
  | cons => simp [Op.bytesLess] at h2
 | [],_,_ :: _,_,_ => rfl
 | _ :: _,[],_,h1,_ => by simp [Op.bytesLess] at h1
 | _ :: _,_ :: _,[],_,h2 => by simp [Op.bytesLess] at h2
 | a :: x,b :: y,c :: z,h1,h2 => by
  unfold Op.bytesLess at h1 h2 ⊢
  simp only [Bool.or_eq_true,decide_eq_true_eq,Bool.and_eq_true,beq_iff_eq] at h1 h2 ⊢
  rcases h1 with h1 | ⟨rfl,h1⟩
  ·rcases h2 with h2 | ⟨rfl,h2⟩
   ·exact .inl (UInt8.lt_trans h1 h2)
   ·exact .inl h1
  ·rcases h2 with h2 | ⟨rfl,h2⟩
   ·exact .inl h2
   ·exact .inr ⟨rfl,zjj9 x y z h1 h2⟩
theorem zhj9 {x y z : ByteArray} (h1 : lts x y = true) (h2 : lts y z = true) : lts x z = true:=zjj9 _ _ _ h1 h2
theorem Vk.rise {n : Nd} (h : Vk n) {i j : Nat} (hij : i < j) (hj : j < n.ks.length) : lts (kA n i) (kA n j) = true:=by
 induction j with
 | zero => omega
 | succ j ih =>
  have h1:=((zw9.1 h.may).2.2.1 (j + 1) hj).2.1 (by omega)
  rw [show j + 1 - 1 = j from rfl] at h1
  by_cases e : i = j
  ·rw [e]; exact h1
  ·exact zhj9 (ih (by omega) (by omega)) h1
theorem bsF_no (n : Nd) (to : ByteArray) (L : Nat) : ∀ t,plc { n with lf:=true } to L <= t -> t < L -> lts (kA n t) to = false:=by
 induction L with
 | zero => intro t _ h; omega
 | succ L ih =>
  intro t h1 h2
  unfold plc at h1
  simp only [if_true] at h1
  split at h1
  ·omega
  ·rename_i hf
   by_cases e : t = L
   ·rw [e]
    have : lts (kA n L) to ≠ true:=hf
    simpa using this
   ·exact ih t h1 (by omega)
theorem zrh9 (n : Nd) (to : ByteArray) (L : Nat) : 0 < plc { n with lf:=true } to L -> lts (kA n (plc { n with lf:=true } to L - 1)) to = true:=by
 induction L with
 | zero => intro h; exact absurd h (Nat.lt_irrefl 0)
 | succ L ih =>
  intro h
  unfold plc at h ⊢
  simp only [if_true] at h ⊢
  split
  ·rename_i hf; exact hf
  ·rename_i hf
   rw [if_neg hf] at h
   exact ih h
theorem bs_is {n : Nd} (h : Vk n) (to : ByteArray) : Lib.bsGo (fun t => Op.bytesLess (kA n t).toList to.toList) n.ks.length 0 n.ks.length = bsF n to:=by
 have hle : bsF n to <= n.ks.length:=plc_le _ _ _
 rw [zcm9 (l':=fun t => decide (t < bsF n to)) n.ks.length 0 n.ks.length (fun t ht => ?_)]
 ·exact Lib.bsGo_spec _ (bsF n to) (fun t ht => decide_eq_true ht) (fun t ht => decide_eq_false (by omega)) _ _ _ (by omega) (zn7 _) hle
 ·show lts (kA n t) to = _
  by_cases e : t < bsF n to
  ·rw [decide_eq_true e]
   have h1:=zrh9 n to n.ks.length (by unfold bsF at e; omega)
   by_cases e2 : t = bsF n to - 1
   ·rw [e2]; exact h1
   ·exact zhj9 (h.rise (i:=t) (j:=bsF n to - 1) (by omega) (by omega)) h1
  ·rw [decide_eq_false e]
   exact bsF_no n to n.ks.length t (by unfold bsF at e; omega) ht
theorem zpe9 (n : Nd) (u1 u2 u3 : Value) (from_ to : ByteArray) (w : World) (h : Nn w n u1 u2 u3) (hv : Vk n) :
  Calls Tryz.prog 46 #[nod n.lf u1 u2 u3,.string from_,.string to] w fun e w' => e = .returned (.tuple #[.int .i64 (fstF n from_ to : Int),.int .i64 (endF n to : Int)]) /\ Below w.heap.size w w':=by
 obtain ⟨a1,c1,a2,c2,a3,c3,rfl,rfl,rfl,⟨l1,l2,l3,l4,l5,l6⟩,_,_,_⟩:=h.out
 have hL:=hv.len
 have hpos:=hv.pos
 have HBS:=hideN (bs_is hv to)
 obtain ⟨L1,hL1⟩:=exH n.ks.length
 obtain ⟨L2,hL2⟩:=exH n.vs.length
 obtain ⟨L3,hL3⟩:=exH n.kd.length
 obtain ⟨lf,hlf⟩:=exH n.lf
 rw [hL1.out,hL2.out,hL3.out] at h
 rw [hL1.out] at hpos hL l1
 rw [hL1.out,hL2.out,hL3.out,hlf.out]
 obtain ⟨p,hp⟩:=exH (plc n from_ L1)
 have hpl:=plc_le n from_ L1
 rw [hp.out] at hpl
 obtain ⟨q,hq⟩:=exH (bsF n to)
 have hql : q <= L1:=by rw [<- hq.out,<- hL1.out]; exact plc_le _ _ _
 obtain ⟨W1,hW1⟩:=exN (w.alloc (.cells #[.bool lf,.slice a1 L1 c1,.slice a2 L2 c2,.slice a3 L3 c3] 93))
 have b1 : Below w.heap.size w W1.drew:=by rw [<- hW1]; exact (za9 _ _).drew
 have V1 : Nb W1.drew 93 w.heap.size lf (.slice a1 L1 c1) (.slice a2 L2 c2) (.slice a3 L3 c3):=by rw [<- hW1]; exact nb_new _ _ _ _ _ _
 have h1:=h.below b1
 have PL:=zcf9 n _ _ _ from_ W1.drew h1 hv.sm
 rw [hlf.out,hL1.out,hp.out] at PL
 have HPL:=hideN PL
 have HN1:=hideN h1
 have HB1:=hideN b1
 have hS:=V1
 obtain ⟨em,hem⟩:=exN to.toList.isEmpty
 have hes : eqs to eS = em:=by rw [<- hem]; unfold eqs eS; simp
 have HES:=hideN hes
 unfold nod
 clear h hv PL b1 V1 h1 hes
 go_enter Tryz.func46,Tryz.ntmps46
 go_wp2_with fail
 have mixed : Tryz.prog.follows .mixedOrders = true:=by kernel_rfl
 refine beginW (S:=fun w' => Nb w' 93 w.heap.size lf (.slice a1 L1 c1) (.slice a2 L2 c2) (.slice a3 L3 c3)) (t:=7) mixed ?_
 refine tkW 0 (some 10) (.load 93 (.tmp 3)) (nod lf (.slice a1 L1 c1) (.slice a2 L2 c2) (.slice a3 L3 c3)) ?hy hS ?_
 case hy =>
  rintro o ho w' z2
  have q0:=z2.c0; have q1:=z2.c1; have q2:=z2.c2; have q3:=z2.c3
  unfold nod
  go_simp
 simp only [Act.put,qa,qb,qc]
 refine tkW 1 (some 11) (.move (.tmp 1)) (Value.string from_) (by rintro o ho w' z2; go_simp) hS ?_
 simp only [Act.put,qa,qb,qc]
 refine tkW 3 (some 13) (.fieldAddr 93 (.tmp 3) 1) (Value.pointer (some ⟨w.heap.size,1,none⟩)) (by rintro o ho w' z2; go_simp) hS ?_
 simp only [Act.put,qa,qb,qc]
 refine tkW 4 (some 14) (.load 91 (.tmp 13)) (Value.slice a1 L1 c1) ?hy hS ?_
 case hy =>
  rintro o ho w' z2
  have q1:=z2.c1
  go_simp
 simp only [Act.put,qa,qb,qc]
 refine tkW 5 (some 15) (.call { callee:=.builtin .len,args:=#[.tmp 14],argTypes:=#[91] }) (Value.int .i64 (L1 : Int)) (by rintro o ho w' z2; go_simp) hS ?_
 simp only [Act.put,qa,qb,qc]
 refine rdW 2 (some 12) (.call { callee:=.value (.func 42),args:=#[.tmp 10,.tmp 11],argTypes:=#[93,9] }) ?_
 rintro o K hd ho hg hK
 refine zf9 (enters_of Tryz.func42 (by kernel_rfl) rfl) ho (vs:=#[nod lf (.slice a1 L1 c1) (.slice a2 L2 c2) (.slice a3 L3 c3),.string from_]) (by kernel_rfl) HPL.out ?_
 rintro e W2 ⟨rfl,b2⟩
 refine ⟨_,rfl,?_⟩
 rw [hd]
 have hS2:=hS.below b2
 have HN2:=hideN (HN1.out.below b2)
 have HB2 : Hid (Below w.heap.size w W2):=HB1.out.trans (b2.mono HB1.out.size)
 refine hK _ _ (fun _ => hS2) ?_
 clear ho hd hg hK b2
 simp only [Act.put,qa,qb,qc]
 refine rdW 6 (some 8) (.assign (.tmp 12)) ?_
 rintro o K hd ho hg hK
 refine stepY (v:=Value.int .i64 (p : Int)) ?hy ?_
 case hy => go_simp
 rw [hd]
 refine hK _ _ (fun _ => hS2) ?_
 clear ho hd hg hK
 simp only [Act.put,qa,qb,qc]
 refine rdW 7 (some 9) (.assign (.tmp 15)) ?_
 rintro o K hd ho hg hK
 refine stepY (v:=Value.int .i64 (L1 : Int)) ?hy ?_
 case hy => go_simp
 rw [hd]
 refine hK _ _ (fun e => absurd rfl e) ?_
 clear ho hd hg hK
 simp only [Act.put,qa,qb,qc]
 refine doneW (by kernel_rfl) ?_ _
 have m1:=hS2.c1
 cases em
 ·have HF : Hid (endF n to = q /\ fstF n from_ to = min p q):=by
   have e : endF n to = q:=by unfold endF; rw [HES.out,if_neg (by decide),hq.out]
   exact ⟨e,by unfold fstF; rw [hL1.out,hp.out,e]⟩
  obtain ⟨kb,ko,rfl,_⟩:=HN2.out.key (i:=0) (by rw [hL1.out]; exact hpos)
  have BS:=Any2.slices_BinarySearch_string Tryz.bsS kb ko L1 c1 (fun j => kA n j) to W2 (by omega) (fun j hj => by
   obtain ⟨_,_,e,c⟩:=HN2.out.key (i:=j) (by rw [hL1.out]; exact hj)
   cases e
   exact c)
  have HBS':=HBS.out
  rw [hL1.out,hq.out] at HBS'
  rw [HBS'] at BS
  obtain ⟨fd,hfd⟩:=exH (decide (q < L1 /\ kA n q = to))
  rw [hfd.out] at BS
  have HBB:=hideN BS
  clear BS hS hS2 HBS'
  go_wp2_with fail
  refine HBB.out.mono ?_
  rintro e W3 ⟨rfl,d3,rfl⟩
  have HB3 : Hid (Below w.heap.size w (W2.drewN d3)):=HB2.out.trans (belowN HB2.out.size d3)
  by_cases hpq : p <= q
  ·have e1 : min p q = p:=Nat.min_eq_left hpq
   have hm : ∀ (W : World) ts ty,(Builtin.min_ ts ty #[.int .i64 (p : Int),.int .i64 (q : Int)]).run Tryz.prog W = .ok (.int .i64 (p : Int)) W:=fun W ts ty => by rw [run_min_int2,if_neg (by omega)]
   have HF1 : Hid (fstF n from_ to = p):=by show _ = _; rw [HF.out.2,e1]
   clear e1 hpq
   go_wp2_with fail
   go_ret2
   rw [HF.out.1,HF1.out]
   exact ⟨rfl,HB3.out⟩
  ·have e1 : min p q = q:=Nat.min_eq_right (by omega)
   have hm : ∀ (W : World) ts ty,(Builtin.min_ ts ty #[.int .i64 (p : Int),.int .i64 (q : Int)]).run Tryz.prog W = .ok (.int .i64 (q : Int)) W:=fun W ts ty => by rw [run_min_int2,if_pos (by omega)]
   have HF1 : Hid (fstF n from_ to = q):=by show _ = _; rw [HF.out.2,e1]
   clear e1 hpq
   go_wp2_with fail
   go_ret2
   rw [HF.out.1,HF1.out]
   exact ⟨rfl,HB3.out⟩
 ·have HF : Hid (endF n to = L1 /\ fstF n from_ to = p):=by
   have e : endF n to = L1:=by unfold endF; rw [HES.out,if_pos rfl,hL1.out]
   exact ⟨e,by unfold fstF; rw [hL1.out,hp.out,e]; exact Nat.min_eq_left hpl⟩
  have hm : ∀ (W : World) ts ty,(Builtin.min_ ts ty #[.int .i64 (p : Int),.int .i64 (L1 : Int)]).run Tryz.prog W = .ok (.int .i64 (p : Int)) W:=fun W ts ty => by rw [run_min_int2,if_neg (by omega)]
  clear hS hS2
  go_wp2_with fail
  go_ret2
  rw [HF.out.1,HF.out.2]
  exact ⟨rfl,HB2.out⟩
theorem C1.ne {w : World} {T T' : TypeId} {b b' : Nat} {v v' : Value} (h : C1 w T b v) (h' : C1 w T' b' v') (hT : T ≠ T') : b ≠ b':=fun e => by
 subst e
 unfold C1 at h h'
 rw [h] at h'
 simp at h'
 exact hT h'.2
theorem C1.nbox {w : World} {T T' : TypeId} {b b' : Nat} {v : Value} {C : Array Value} (h : C1 w T b v) (h' : w.heap[b']? = some (.cells C T' (0,0))) (hT : T ≠ T') : b ≠ b':=fun e => by
 subst e
 unfold C1 at h
 rw [h] at h'
 simp at h'
 exact hT h'.2
theorem zng9 (n : Nd) (u1 u2 u3 : Value) (x : Int) (from_ to : ByteArray) (most : Nat) (hm : most <= 4611686018427387904) (fb tb nb mb wb t : Nat) (fv : Value) (m : Option Nat) (s : List En × Bool) (hs : s.1.length <= 15728640) (w : World) (h : Nn w n u1 u2 u3) (hv : Vk n) (v0 : Value) (hf : C1 w 9 fb (.string from_)) (ht : C1 w 9 tb (.string to)) (hb : C1 w 35 nb v0) (ho : OwE 0 w v0 s.1) (hmb : C1 w 3 mb (.int .i64 (most : Int))) (hbx : w.heap[wb]? = some (.cells #[tp t,fv,.bool s.2,.map m] 90 (0,0))) (hap : ∀ j,(u1.ownBlock = some j ∨ u2.ownBlock = some j ∨ u3.ownBlock = some j) -> ¬ (j = nb ∨ v0.ownBlock = some j) /\ j ≠ wb) :
  Calls Tryz.prog 45 #[.int .i64 x,nod n.lf u1 u2 u3,.pointer (some ⟨fb,0,none⟩),.pointer (some ⟨tb,0,none⟩),.pointer (some ⟨nb,0,none⟩),.pointer (some ⟨mb,0,none⟩),.pointer (some ⟨wb,0,none⟩)] w fun e w' =>
   ∃ r,e = .returned r /\ ∃ v',C1 w' 35 nb v' /\ OwE 0 w' v' ((scanW from_ to most).st s x n).1.1 /\ w'.heap[wb]? = some (.cells #[tp t,fv,.bool ((scanW from_ to most).st s x n).1.2,.map m] 90 (0,0)) /\ Tch (fun y => y = nb ∨ y = wb ∨ v0.ownBlock = some y) w w' /\ (∀ y,v'.ownBlock = some y -> v0.ownBlock = some y ∨ w.heap.size <= y) /\ RdV w' r (nums ((scanW from_ to most).st s x n).2) /\ (∀ j,r.ownBlock = some j -> u3.ownBlock = some j):=by
 obtain ⟨a1,c1,a2,c2,a3,c3,rfl,rfl,rfl,⟨l1,l2,l3,l4,l5,l6⟩,_,_,_⟩:=h.out
 have hL:=hv.len
 have BW:=fun W hb => zpe9 n _ _ _ from_ to W (h.below hb) hv
 obtain ⟨L1,hL1⟩:=exH n.ks.length
 obtain ⟨L2,hL2⟩:=exH n.vs.length
 obtain ⟨L3,hL3⟩:=exH n.kd.length
 obtain ⟨lf,hlf⟩:=exH n.lf
 rw [hL1.out,hL2.out,hL3.out] at h hap hL
 rw [hL3.out] at l5
 rw [hL1.out,hL2.out,hL3.out,hlf.out]
 obtain ⟨va,vc,hva⟩:=ho.long
 obtain ⟨vl0,hvl0⟩:=exH s.1.length
 rw [hvl0.out] at hva
 subst hva
 obtain ⟨fi,hfi⟩:=exH (fstF n from_ to)
 obtain ⟨en,hen⟩:=exH (endF n to)
 have hef : fi <= en /\ en <= L1:=by
  rw [<- hfi.out,<- hen.out,<- hL1.out]
  refine ⟨Nat.min_le_right _ _,?_⟩
  unfold endF
  split
  ·exact zn6 _
  ·exact plc_le _ _ _
 obtain ⟨W1,hW1⟩:=exN (w.alloc (.cells #[.bool lf,.slice a1 L1 c1,.slice a2 L2 c2,.slice a3 L3 c3] 93))
 have b1 : Below w.heap.size w W1:=by rw [<- hW1]; exact za9 _ _
 have V1 : Nb W1 93 w.heap.size lf (.slice a1 L1 c1) (.slice a2 L2 c2) (.slice a3 L3 c3):=by rw [<- hW1]; exact nb_new _ _ _ _ _ _
 have BT:=BW W1 b1
 rw [hlf.out,hL1.out,hL2.out,hL3.out,hfi.out,hen.out] at BT
 unfold nod at BT ⊢
 have HBT:=hideN BT
 have f1:=(hf.below b1).c
 have t1:=(ht.below b1).c
 have vc0:=V1.c0
 have vc1:=V1.c1
 have vc2:=V1.c2
 have vc3:=V1.c3
 have HV:=hideN hv
 have HH:=hideN h
 have HB1:=hideN b1
 have HV1:=hideN V1
 have HBo:=hideN hb
 have HOo:=hideN ho
 have HMB:=hideN hmb
 have HBXo:=hideN hbx
 have HAP:=hideN hap
 have HLS : Hid (s.1.length <= 15728640 /\ L1 <= 240):=⟨hs,hL.1⟩
 have HFE : Hid (fi <= en /\ en <= L1):=hef
 have HCP : Hid (L3 <= c3):=l5
 have hnl:=hb.lt
 have hwl:=(Array.getElem?_eq_some_iff.1 hbx).1
 have hol:=ho.lt
 have HBN : Hid (¬ (w.heap.size = nb ∨ (Value.slice va vl0 vc).ownBlock = some w.heap.size)):=fun e => e.elim (fun e => by omega) (fun e => by have:=hol _ e; omega)
 have HBW : Hid (¬ w.heap.size = wb):=fun e => by omega
 have HMN : Hid (¬ (mb = nb ∨ (Value.slice va vl0 vc).ownBlock = some mb)):=fun e => e.elim (hmb.ne hb (by decide)) (ho.ne hmb (by decide))
 have HWN : Hid (¬ (wb = nb ∨ (Value.slice va vl0 vc).ownBlock = some wb)):=fun e => e.elim (fun e => hb.nbox hbx (by decide) e.symm) (ho.ne hbx (by decide))
 clear h hv hs hf ht hb ho hmb hbx hap hL l5 l1 l2 l3 l4 l6 BW b1 V1 BT hnl hwl hol hef
 go_enter Tryz.func45,Tryz.ntmps45
 go_wp2_with fail
 refine HBT.out.mono ?_
 rintro e W2 ⟨rfl,b2⟩
 have b12 : Below w.heap.size w W2:=HB1.out.trans (b2.mono HB1.out.size)
 have HN2:=hideN (HH.out.below b12)
 have HV2:=hideN (HV1.out.below b2)
 have HC2:=hideN (HBo.out.below b12)
 have HO2:=hideN (HOo.out.below b12)
 have HMB2:=hideN (HMB.out.below b12)
 have hbx2 : W2.heap[wb]? = some (.cells #[tp t,fv,.bool s.2,.map m] 90 (0,0)):=by rw [b12.block wb (Array.getElem?_eq_some_iff.1 HBXo.out).1]; exact HBXo.out
 have HAP2 : Hid (∀ j,((Value.slice a1 L1 c1).ownBlock = some j ∨ (Value.slice a2 L2 c2).ownBlock = some j ∨ (Value.slice a3 L3 c3).ownBlock = some j) -> ¬ (j = nb ∨ (Value.slice va vl0 vc).ownBlock = some j)):=fun j hj => (HAP.out j hj).1
 have HB12:=hideN b12
 have HEND : Hid (∀ (wr : World) (vk : Value) (lk : List En),C1 wr 35 nb vk -> OwE 0 wr vk lk -> Tch (fun y => y = nb ∨ (Value.slice va vl0 vc).ownBlock = some y) W2 wr -> (∀ y,vk.ownBlock = some y -> (Value.slice va vl0 vc).ownBlock = some y ∨ W2.heap.size <= y) -> ∀ bb : Bool,
   wr.cell? ⟨wb,2,none⟩ = some (.bool s.2) /\ wr.frozen? ⟨wb,2,none⟩ = false /\ C1 (wr.setCell ⟨wb,2,none⟩ (.bool bb)) 35 nb vk /\ OwE 0 (wr.setCell ⟨wb,2,none⟩ (.bool bb)) vk lk /\ (wr.setCell ⟨wb,2,none⟩ (.bool bb)).heap[wb]? = some (.cells #[tp t,fv,.bool bb,.map m] 90 (0,0)) /\ Tch (fun y => y = nb ∨ y = wb ∨ (Value.slice va vl0 vc).ownBlock = some y) w (wr.setCell ⟨wb,2,none⟩ (.bool bb)) /\ (∀ y,vk.ownBlock = some y -> (Value.slice va vl0 vc).ownBlock = some y ∨ w.heap.size <= y) /\ RdV (wr.setCell ⟨wb,2,none⟩ (.bool bb)) (.slice a3 L3 c3) (nums n.kd)):=by
  intro wr vk lk h1 h2 h3 h4 bb
  have bxr : wr.heap[wb]? = some (.cells #[tp t,fv,.bool s.2,.map m] 90 (0,0)):=by rw [h3.block wb (Array.getElem?_eq_some_iff.1 hbx2).1 HWN.out]; exact hbx2
  have tA:=tch_at wr wb 2 (.bool bb)
  have hs2:=HB12.out.size
  refine ⟨by rw [cell_of_row wr wb 2 _ _ (0,0) bxr]; rfl,frozen_of_row wr wb 2 _ _ bxr,h1.tch tA (h1.nbox bxr (by decide)),h2.tch tA (fun y hy e => h2.ne bxr (by decide) (e ▸ hy)),heap_setCell_same wr wb 2 _ _ _ bxr,((Tch.of_below (S:=fun y => y = nb ∨ y = wb ∨ (Value.slice va vl0 vc).ownBlock = some y) HB12.out).trans h3 (fun y hy e => e.elim .inl (fun e => .inr (.inr e)))).trans tA (fun y hy e => .inr (.inl e)),fun y hy => (h4 y hy).imp id (fun q => by omega),?_⟩
  exact (HN2.out.d.tch h3 (fun y hy => HAP2.out y (.inr (.inr hy)))).tch tA (fun y hy e => (HAP.out y (.inr (.inr hy))).2 e)
 have m0:=HV2.out.c0
 clear b2 b12 hbx2 HBT vc0 vc1 vc2 vc3 f1 t1 hW1
 cases lf
 ·have HSR : Hid ((scanW from_ to most).st s x n = ((s.1,decide (s.1.length = most)),(n.kd.take en).drop fi)):=by
   show _ = _
   unfold scanW
   simp only [hlf.out,hfi.out,hen.out,Bool.false_eq_true,if_false]
  obtain ⟨wr,hwr⟩ : ∃ q,q = W2:=⟨_,rfl⟩
  obtain ⟨ka,hka⟩ : ∃ q,q = va:=⟨_,rfl⟩
  obtain ⟨kl,hkl⟩ : ∃ q,q = vl0:=⟨_,rfl⟩
  obtain ⟨kc,hkc⟩ : ∃ q,q = vc:=⟨_,rfl⟩
  subst hwr hka hkl hkc
  have hI : C1 wr 35 nb (.slice ka kl kc) /\ OwE 0 wr (.slice ka kl kc) s.1 /\ Tch (fun y => y = nb ∨ (Value.slice ka kl kc).ownBlock = some y) wr wr /\ (∀ y,(Value.slice ka kl kc).ownBlock = some y -> (Value.slice ka kl kc).ownBlock = some y ∨ wr.heap.size <= y):=⟨HC2.out,HO2.out,Tch.refl _ _,fun y hy => .inl hy⟩
  have g1:=hI.1.c
  have mb':=HMB2.out.c
  have h13 : L1 = L3:=by rw [<- hL1.out,<- hL3.out]; exact (HV.out.inner hlf.out).2.1.symm
  subst h13
  obtain ⟨bb,hbb⟩:=exH (decide ((s.1).length = most))
  have hll : (s.1).length = kl:=by obtain ⟨_,_,e⟩:=hI.2.1.long; cases e; rfl
  have q1 : decide ((kl : Int) = (most : Int)) = bb:=by
   rw [<- hbb.out,hll]
   by_cases q : kl = most
   ·rw [decide_eq_true q,decide_eq_true (by omega)]
   ·rw [decide_eq_false q,decide_eq_false (by omega)]
  have q2 : ((kl : Int) == (most : Int)) = bb:=by
   rw [<- q1]
   by_cases q : (kl : Int) = (most : Int)
   ·rw [decide_eq_true q,beq_iff_eq]; exact q
   ·rw [decide_eq_false q,beq_eq_false_iff_ne]; exact q
  have hE:=HEND.out wr (.slice ka kl kc) _ hI.1 hI.2.1 hI.2.2.1 hI.2.2.2 bb
  obtain ⟨X,hX⟩:=exN (wr.setCell ⟨wb,2,none⟩ (.bool bb))
  rw [hX] at hE
  have e2:=hE.1
  have e3:=hE.2.1
  have HEE:=hideN hE.2.2
  have V9:=HV2.out.tch hI.2.2.1 HBN.out
  have t9 : Tch (fun y => y = wb) wr X:=by rw [<- hX]; exact tch_at _ _ _ _
  have V9':=V9.tch t9 HBW.out
  have n0:=V9'.c0
  have n3:=V9'.c3
  clear hE hI V9 V9' t9 hll
  have SL:=fun W => partIV a3 L1 c3 fi en HFE.out.1 HFE.out.2 HCP.out W
  obtain ⟨sb',sc',hsl⟩:=zhx9 (b:=a3) fi en c3
  have hown : ∀ j,(sliced a3 fi en c3 1).ownBlock = some j -> (Value.slice a3 L1 c3).ownBlock = some j:=fun j hj => zfp9 hj
  have hrd : RdV X (sliced a3 fi en c3 1) (nums ((n.kd.take en).drop fi)):=by
   have h4:=HEE.out.2.2.2.2.2
   have e3' : L1 = (nums n.kd).length:=by rw [zk9,hL3.out]
   rw [e3'] at h4
   have:=zao9 h4 fi en HFE.out.1 (by rw [zk9,hL3.out]; exact HFE.out.2)
   have e4 : ((nums n.kd).drop fi).take (en - fi) = nums ((n.kd.take en).drop fi):=by
    rw [nums,nums,List.map_drop,List.map_take,List.drop_take]
   rw [e4] at this
   exact this
  obtain ⟨df,hdf⟩:=exH (en - fi)
  rw [hsl,hdf.out] at SL hown hrd
  have HOW:=hideN hown
  have HRD:=hideN hrd
  clear hown hrd hsl
  go_wp2_with fail
  try rw [hX]
  go_ret
  rw [HSR.out,hbb.out]
  exact ⟨_,rfl,_,HEE.out.1,HEE.out.2.1,HEE.out.2.2.1,HEE.out.2.2.2.1,HEE.out.2.2.2.2.1,HRD.out,HOW.out⟩
 ·have hpos:=HV.out.pos
  rw [hL1.out] at hpos
  have h12 : L1 = L2:=by rw [<- hL1.out,<- hL2.out]; exact (HV.out.leaf hlf.out).1.symm
  subst h12
  obtain ⟨kb,ko,rfl,ckk⟩:=HN2.out.key (i:=0) (by rw [hL1.out]; exact hpos)
  obtain ⟨vb,vo,rfl,cvv⟩:=HN2.out.val (i:=0) (by rw [hL2.out]; exact hpos)
  have HUK : Hid (kb < W2.heap.size):=World.block_lt_of_cell? W2 ⟨kb,ko + 0,none⟩ ckk
  have HUV : Hid (vb < W2.heap.size):=World.block_lt_of_cell? W2 ⟨vb,vo + 0,none⟩ cvv
  clear ckk cvv
  obtain ⟨ent,hent⟩:=exH (entF n fi en)
  have hel : Hid (ent.length = en - fi):=by show _ = _; rw [<- hent.out]; unfold entF; simp
  have HEA : Hid (∀ k,k < en - fi -> ent.take (k + 1) = ent.take k ++ [(kA n (fi + k),vA n (fi + k))]):=fun k hk => by
   have h1 : ent[k]? = some (kA n (fi + k),vA n (fi + k)):=by
    rw [<- hent.out]
    unfold entF
    rw [List.getElem?_map,List.getElem?_range' (by omega)]
    simp
   rw [List.take_add_one,h1]
   rfl
  have HSR : Hid ((scanW from_ to most).st s x n = ((s.1 ++ ent.take (most - s.1.length),decide ((s.1 ++ ent.take (most - s.1.length)).length = most)),[])):=by
   show _ = _
   unfold scanW
   simp only [hlf.out,if_true,hfi.out,hen.out,hent.out]
  have HST0 : Hid (C1 W2 35 nb (.slice va vl0 vc) /\ OwE 0 W2 (.slice va vl0 vc) (s.1 ++ ent.take 0) /\ Tch (fun y => y = nb ∨ (Value.slice va vl0 vc).ownBlock = some y) W2 W2 /\ (∀ y,(Value.slice va vl0 vc).ownBlock = some y -> (Value.slice va vl0 vc).ownBlock = some y ∨ W2.heap.size <= y)):=⟨HC2.out,by rw [List.take_zero,List.append_nil]; exact HO2.out,Tch.refl _ _,fun y hy => .inl hy⟩
  go_wp2_with fail
  go_loopw [12] (fun iv wr => ∃ (k : Nat) (ka : Option Addr) (kl kc : Nat),k <= en - fi /\ iv = .int .i64 ((fi + k : Nat) : Int) /\ (0 < k -> s.1.length + k <= most) /\ Hid (C1 wr 35 nb (.slice ka kl kc) /\ OwE 0 wr (.slice ka kl kc) (s.1 ++ ent.take k) /\ Tch (fun y => y = nb ∨ (Value.slice va vl0 vc).ownBlock = some y) W2 wr /\ (∀ y,(Value.slice ka kl kc).ownBlock = some y -> (Value.slice va vl0 vc).ownBlock = some y ∨ W2.heap.size <= y))) (fun iv _ => en - (intOf iv).toNat)
  case atStart => exact ⟨0,va,vl0,vc,zn7 _,rfl,fun e => absurd e (Nat.lt_irrefl 0),HST0⟩
  case round =>
   clear HST0
   obtain ⟨k,ka,kl,kc,hk,rfl,hkm,HI⟩:=hrel
   have hI:=HI.out
   have g1:=hI.1.c
   have hef:=HFE.out
   have hls:=HLS.out
   have hkl' : kl = s.1.length + k:=by
    obtain ⟨_,_,e⟩:=hI.2.1.long
    have h1 : (s.1 ++ ent.take k).length = s.1.length + k:=by rw [List.length_append,List.length_take,hel.out]; omega
    cases e
    rw [h1]
   have mb':=(HMB2.out.tch hI.2.2.1 HMN.out).c
   obtain ⟨i,hi⟩:=exN (fi + k)
   rw [hi]
   have HIE:=hideN hi
   have HKL:=hideN hkl'
   have HKM:=hideN hkm
   have HKK:=hideN hk
   by_cases h1 : i < en
   ·have d1 : decide ((i : Int) < (en : Int)) = true:=by rw [decide_eq_true_iff]; omega
    have d1' : decide (i < en) = true:=decide_eq_true h1
    by_cases h2 : kl < most
    ·have d2 : decide ((kl : Int) < (most : Int)) = true:=by rw [decide_eq_true_iff]; omega
     have d2' : decide (kl < most) = true:=decide_eq_true h2
     obtain ⟨lk,hlk⟩:=exH (s.1 ++ ent.take k)
     have Nr:=HN2.out.tch hI.2.2.1 (fun y hy => HAP2.out y (.inl hy)) (fun y hy => HAP2.out y (.inr (.inl hy))) (fun y hy => HAP2.out y (.inr (.inr hy)))
     obtain ⟨_,_,e1,ck⟩:=Nr.key (i:=i) (by rw [hL1.out]; omega)
     obtain ⟨_,_,e2,cv⟩:=Nr.val (i:=i) (by rw [hL2.out]; omega)
     cases e1
     cases e2
     obtain ⟨ky,hky⟩:=exH (kA n i)
     obtain ⟨vl,hvl⟩:=exH (vA n i)
     rw [hky.out] at ck
     rw [hvl.out] at cv
     have Vr:=HV2.out.tch hI.2.2.1 HBN.out
     have HLB : Hid (lk.length <= 1000000000):=by
      show _ <= _
      rw [<- hlk.out,List.length_append,List.length_take,hel.out]
      omega
     have HLT : Hid (lk ++ [(ky,vl)] = s.1 ++ ent.take (k + 1)):=by
      show _ = _
      rw [HEA.out k (by omega),hi,hky.out,hvl.out,<- List.append_assoc,hlk.out]
     have Ck:=hI.1
     have Ok:=hI.2.1
     rw [hlk.out] at Ok
     have HCk:=hideN Ck
     have HOk:=hideN Ok
     have HTk:=hideN hI.2.2.1
     have HFk:=hideN hI.2.2.2
     have HVr:=hideN Vr
     have HCK:=hideN ck
     have HCV:=hideN cv
     have hkN : Hid ((Value.slice ka kl kc).ownBlock ≠ some nb):=Ok.ne Ck (by decide)
     have hkB : Hid ((Value.slice ka kl kc).ownBlock ≠ some w.heap.size):=Ok.ne Vr (by decide)
     have hkK : Hid ((Value.slice ka kl kc).ownBlock ≠ some kb):=fun e => by
      have h3:=HUK.out
      rcases hI.2.2.2 kb e with q | q
      ·exact HAP2.out kb (.inl rfl) (.inr q)
      ·omega
     have hkV : Hid ((Value.slice ka kl kc).ownBlock ≠ some vb):=fun e => by
      have h3:=HUV.out
      rcases hI.2.2.2 vb e with q | q
      ·exact HAP2.out vb (.inr (.inl rfl)) (.inr q)
      ·omega
     have hS : (wr.drew.cell? ⟨nb,0,none⟩ = some (.slice ka kl kc) /\ Nb wr.drew 93 w.heap.size true (.slice (some ⟨kb,ko,none⟩) L1 c1) (.slice (some ⟨vb,vo,none⟩) L1 c2) (.slice a3 L3 c3)) /\ (wr.drew.cell? ⟨kb,ko + i,none⟩ = some (.string ky) /\ wr.drew.cell? ⟨vb,vo + i,none⟩ = some (.string vl)):=⟨⟨g1,Vr.below (Below.refl _ _).drew⟩,ck,cv⟩
     have HSX : Hid (∀ X1,wr.drew.alloc (.cells #[.string ky,.string vl] 72) = X1 -> ((X1.cell? ⟨nb,0,none⟩ = some (.slice ka kl kc) /\ Nb X1 93 w.heap.size true (.slice (some ⟨kb,ko,none⟩) L1 c1) (.slice (some ⟨vb,vo,none⟩) L1 c2) (.slice a3 L3 c3)) /\ (X1.cell? ⟨kb,ko + i,none⟩ = some (.string ky) /\ X1.cell? ⟨vb,vo + i,none⟩ = some (.string vl))) /\ X1.cell? ⟨wr.drew.heap.size,0,none⟩ = some (.string ky) /\ X1.cell? ⟨wr.drew.heap.size,1,none⟩ = some (.string vl) /\ OwE 0 X1 (.slice ka kl kc) lk /\ Below wr.heap.size wr X1):=fun X1 hX1 => by
      have bb : Below wr.heap.size wr X1:=by rw [<- hX1]; exact (Below.refl _ _).drew.alloc (zn6 _) _
      have hb:=heap_alloc_new wr.drew (.cells #[.string ky,.string vl] 72)
      rw [hX1] at hb
      exact ⟨⟨⟨(HCk.out.below bb).c,HVr.out.below bb⟩,by rw [bb.cell (World.block_lt_of_cell? wr ⟨kb,ko + i,none⟩ HCK.out)]; exact HCK.out,by rw [bb.cell (World.block_lt_of_cell? wr ⟨vb,vo + i,none⟩ HCV.out)]; exact HCV.out⟩,by rw [cell_of_row X1 _ 0 _ _ (0,0) hb]; rfl,by rw [cell_of_row X1 _ 1 _ _ (0,0) hb]; rfl,HOk.out.below bb,bb⟩
     have HSY : Hid (∀ (X1 X2 : World) xa xl xc,wr.drew.alloc (.cells #[.string ky,.string vl] 72) = X1 -> OwE 0 X2 (.slice xa xl xc) (lk ++ [(ky,vl)]) -> Tch (fun y => (Value.slice ka kl kc).ownBlock = some y) X1 X2 -> Fsh X1 (.slice ka kl kc) (.slice xa xl xc) -> ((X2.cell? ⟨nb,0,none⟩ = some (.slice ka kl kc) /\ Nb X2 93 w.heap.size true (.slice (some ⟨kb,ko,none⟩) L1 c1) (.slice (some ⟨vb,vo,none⟩) L1 c2) (.slice a3 L3 c3)) /\ (X2.cell? ⟨kb,ko + i,none⟩ = some (.string ky) /\ X2.cell? ⟨vb,vo + i,none⟩ = some (.string vl))) /\ X2.cell? ⟨nb,0,none⟩ = some (.slice ka kl kc) /\ X2.frozen? ⟨nb,0,none⟩ = false /\ ∀ X3,X2.setCell ⟨nb,0,none⟩ (.slice xa xl xc) = X3 -> C1 X3 35 nb (.slice xa xl xc) /\ OwE 0 X3 (.slice xa xl xc) (s.1 ++ ent.take (k + 1)) /\ Tch (fun y => y = nb ∨ (Value.slice va vl0 vc).ownBlock = some y) W2 X3 /\ (∀ y,(Value.slice xa xl xc).ownBlock = some y -> (Value.slice va vl0 vc).ownBlock = some y ∨ W2.heap.size <= y)):=by
      intro X1 X2 xa xl xc hX1 o2 t2 f2
      obtain ⟨hS1,_,_,_,bb⟩:=HSX.out X1 hX1
      have C2:=(HCk.out.below bb).tch t2 hkN.out
      have hsz:=HTk.out.size
      have hb:=bb.size
      refine ⟨⟨⟨C2.c,(HVr.out.below bb).tch t2 hkB.out⟩,by rw [t2.cell (p:=⟨kb,ko + i,none⟩) (World.block_lt_of_cell? X1 ⟨kb,ko + i,none⟩ hS1.2.1) hkK.out]; exact hS1.2.1,by rw [t2.cell (p:=⟨vb,vo + i,none⟩) (World.block_lt_of_cell? X1 ⟨vb,vo + i,none⟩ hS1.2.2) hkV.out]; exact hS1.2.2⟩,C2.c,C2.fz,fun X3 hX3 => ?_⟩
      have t3 : Tch (fun y => y = nb) X2 X3:=by rw [<- hX3]; exact tch_at _ _ _ _
      have xN : (Value.slice xa xl xc).ownBlock ≠ some nb:=o2.ne C2 (by decide)
      have fr : ∀ y,(Value.slice xa xl xc).ownBlock = some y -> (Value.slice va vl0 vc).ownBlock = some y ∨ W2.heap.size <= y:=fun y hy => (f2 y hy).elim (HFk.out y) (fun q => .inr (by omega))
      refine ⟨by rw [<- hX3]; exact C2.set _,by rw [<- HLT.out]; exact o2.tch t3 (fun y hy e => xN (e ▸ hy)),((HTk.out.trans (Tch.of_below (S:=fun y => y = nb ∨ (Value.slice va vl0 vc).ownBlock = some y) bb) (fun _ _ e => e)).trans t2 (fun y hy e => ?_)).trans t3 (fun y hy e => .inl e),fr⟩
      rcases HFk.out y e with q | q
      ·exact .inr q
      ·omega
     have i0 : (0 : Int) <= (i : Int):=by omega
     have i1 : (i : Int) < (L1 : Int):=by omega
     clear hI Nr Vr Ck Ok ck cv hkl' hkm hk hi hef hls
     go_wp2_with fail
     have mixed : Tryz.prog.follows .mixedOrders = true:=by kernel_rfl
     refine beginW (S:=fun w' => (w'.cell? ⟨nb,0,none⟩ = some (.slice ka kl kc) /\ Nb w' 93 w.heap.size true (.slice (some ⟨kb,ko,none⟩) L1 c1) (.slice (some ⟨vb,vo,none⟩) L1 c2) (.slice a3 L3 c3)) /\ (w'.cell? ⟨kb,ko + i,none⟩ = some (.string ky) /\ w'.cell? ⟨vb,vo + i,none⟩ = some (.string vl))) (t:=14) mixed ?_
     refine tkW 0 (some 34) (.load 35 (.tmp 4)) (Value.slice ka kl kc) (by rintro o ho w' ⟨⟨z1,z2⟩,⟨z3,z4⟩⟩; go_simp) hS ?_
     simp only [Act.put,qa,qb,qc]
     refine tkW 1 (some 35) (.fieldAddr 93 (.tmp 8) 1) (Value.pointer (some ⟨w.heap.size,1,none⟩)) (by rintro o ho w' ⟨⟨z1,z2⟩,⟨z3,z4⟩⟩; go_simp) hS ?_
     simp only [Act.put,qa,qb,qc]
     refine tkW 2 (some 36) (.load 91 (.tmp 35)) (Value.slice (some ⟨kb,ko,none⟩) L1 c1) ?hy hS ?_
     case hy =>
      rintro o ho w' ⟨⟨z1,z2⟩,⟨z3,z4⟩⟩
      have q1:=z2.c1
      go_simp
     simp only [Act.put,qa,qb,qc]
     refine tkW 3 (some 37) (.move (.tmp 12)) (Value.int .i64 (i : Int)) (by rintro o ho w' ⟨⟨z1,z2⟩,⟨z3,z4⟩⟩; go_simp) hS ?_
     simp only [Act.put,qa,qb,qc]
     refine tkW 4 (some 38) (.indexAddr 91 (.tmp 36) (.tmp 37)) (Value.pointer (some ⟨kb,ko + i,none⟩)) (by rintro o ho w' ⟨⟨z1,z2⟩,⟨z3,z4⟩⟩; go_simp) hS ?_
     simp only [Act.put,qa,qb,qc]
     refine tkW 5 (some 39) (.load 9 (.tmp 38)) (Value.string ky) (by rintro o ho w' ⟨⟨z1,z2⟩,⟨z3,z4⟩⟩; go_simp) hS ?_
     simp only [Act.put,qa,qb,qc]
     refine tkW 6 (some 40) (.fieldAddr 93 (.tmp 8) 2) (Value.pointer (some ⟨w.heap.size,2,none⟩)) (by rintro o ho w' ⟨⟨z1,z2⟩,⟨z3,z4⟩⟩; go_simp) hS ?_
     simp only [Act.put,qa,qb,qc]
     refine tkW 7 (some 41) (.load 91 (.tmp 40)) (Value.slice (some ⟨vb,vo,none⟩) L1 c2) ?hy hS ?_
     case hy =>
      rintro o ho w' ⟨⟨z1,z2⟩,⟨z3,z4⟩⟩
      have q1:=z2.c2
      go_simp
     simp only [Act.put,qa,qb,qc]
     refine tkW 8 (some 42) (.move (.tmp 12)) (Value.int .i64 (i : Int)) (by rintro o ho w' ⟨⟨z1,z2⟩,⟨z3,z4⟩⟩; go_simp) hS ?_
     simp only [Act.put,qa,qb,qc]
     refine tkW 9 (some 43) (.indexAddr 91 (.tmp 41) (.tmp 42)) (Value.pointer (some ⟨vb,vo + i,none⟩)) (by rintro o ho w' ⟨⟨z1,z2⟩,⟨z3,z4⟩⟩; go_simp) hS ?_
     simp only [Act.put,qa,qb,qc]
     refine tkW 10 (some 44) (.load 9 (.tmp 43)) (Value.string vl) (by rintro o ho w' ⟨⟨z1,z2⟩,⟨z3,z4⟩⟩; go_simp) hS ?_
     simp only [Act.put,qa,qb,qc]
     refine tkW 11 (some 45) (.build 72 #[(0,.tmp 39),(1,.tmp 44)]) (Value.agg #[.string ky,.string vl]) (by rintro o ho w' ⟨⟨z1,z2⟩,⟨z3,z4⟩⟩; go_simp) hS ?_
     simp only [Act.put,qa,qb,qc]
     refine rdW 12 (some 46) (.buildSlice 35 1 #[(0,.tmp 45)]) ?_
     rintro o K hd ho hg hK
     refine zlr9 (.tmp 45) ho ky vl rfl ?_
     rw [hd]
     obtain ⟨X1,hX1⟩:=exN (wr.drew.alloc (.cells #[.string ky,.string vl] 72))
     obtain ⟨hS1,c01,c11,O1,s1⟩:=HSX.out X1 hX1
     rw [hX1]
     refine hK _ _ (fun _ => hS1) ?_
     clear ho hd hg hK hS
     have hS:=hS1
     simp only [Act.put,qa,qb,qc]
     refine rdW 13 (some 47) (.call { callee:=.builtin .append,args:=#[.tmp 34,.tmp 46],argTypes:=#[35,35] }) ?_
     rintro o K hd ho hg hK
     refine zls9 (.tmp 34) (.tmp 46) ho 0 (.slice ka kl kc) lk rfl O1 wr.drew.heap.size (ky,vl) rfl c01 c11 HLB.out (zn7 _) ?_
     intro v' X2 o2 t2 f2
     rw [hd]
     obtain ⟨xa,xl,xc,rfl⟩ : ∃ a l c,v' = .slice a l c:=by obtain ⟨a,c,e⟩:=o2.long; exact ⟨_,_,_,e⟩
     obtain ⟨hS2,g2,h2,HX2⟩:=HSY.out X1 X2 xa xl xc hX1 o2 t2 f2
     refine hK _ _ (fun _ => hS2) ?_
     clear ho hd hg hK hS hS1 c01 c11 O1 s1 o2 t2 f2 hX1
     simp only [Act.put,qa,qb,qc]
     refine rdW 14 none (.store 35 (.tmp 4) (.tmp 47)) ?_
     rintro o K hd ho hg hK
     refine znq9 ho rfl rfl g2 h2 ?_
     rw [hd]
     obtain ⟨X3,hX3⟩:=exN (X2.setCell ⟨nb,0,none⟩ (.slice xa xl xc))
     have HX3:=hideN (HX2 X3 hX3)
     rw [hX3]
     refine hK _ _ (fun e => absurd rfl e) ?_
     refine doneW (by kernel_rfl) ?_ _
     clear ho hd hg hK hS2 g2 h2 HX2 hX3
     simp only [Act.put]
     have HX4 : Hid (k + 1 <= en - fi /\ i + 1 = fi + (k + 1) /\ (0 < k + 1 -> s.1.length + (k + 1) <= most) /\ en - (i + 1) < en - i /\ i <= 240):=by
      have q1:=HIE.out
      have q2:=HKL.out
      have q3:=HFE.out
      have q4:=HLS.out
      exact ⟨by omega,by omega,fun _ => by omega,by omega,by omega⟩
     have hi240:=HX4.out.2.2.2.2
     have hw1:=wk_nat (x:=(i : Int) + 1) (t:=i + 1) (by omega) (by omega)
     have hw2:=zad9 (x:=(i : Int) + 1) (t:=i + 1) (by omega) (by omega)
     clear h1 h2
     go_wp2_with fail
     clear hw1 hw2
     have hx4:=HX4.out
     first
      | exact ⟨⟨k + 1,xa,xl,xc,hx4.1,by rw [<- hx4.2.1]; rfl,hx4.2.2.1,HX3⟩,by simp [intOf]; omega⟩
      | (go_roundw
         case rel => exact ⟨k + 1,xa,xl,xc,hx4.1,by rw [<- hx4.2.1]; rfl,hx4.2.2.1,HX3⟩
         case measure => simp [intOf]; omega)
    ·have d2 : decide ((kl : Int) < (most : Int)) = false:=by rw [zn4]; omega
     have d2' : decide (kl < most) = false:=decide_eq_false h2
     have HTK : Hid (ent.take k = ent.take (most - s.1.length)):=by
      show _ = _
      have : k = most - s.1.length:=by
       by_cases q : 0 < k
       ·have:=hkm q; omega
       ·omega
      rw [this]
     rw [HTK.out] at hI
     obtain ⟨bb,hbb⟩:=exH (decide ((s.1 ++ ent.take (most - s.1.length)).length = most))
     have hll : (s.1 ++ ent.take (most - s.1.length)).length = kl:=by obtain ⟨_,_,e⟩:=hI.2.1.long; cases e; rfl
     have q1 : decide ((kl : Int) = (most : Int)) = bb:=by
      rw [<- hbb.out,hll]
      by_cases q : kl = most
      ·rw [decide_eq_true q,decide_eq_true (by omega)]
      ·rw [decide_eq_false q,decide_eq_false (by omega)]
     have q2 : ((kl : Int) == (most : Int)) = bb:=by
      rw [<- q1]
      by_cases q : (kl : Int) = (most : Int)
      ·rw [decide_eq_true q,beq_iff_eq]; exact q
      ·rw [decide_eq_false q,beq_eq_false_iff_ne]; exact q
     have hE:=HEND.out wr (.slice ka kl kc) _ hI.1 hI.2.1 hI.2.2.1 hI.2.2.2 bb
     obtain ⟨X,hX⟩:=exN (wr.setCell ⟨wb,2,none⟩ (.bool bb))
     rw [hX] at hE
     have e2:=hE.1
     have e3:=hE.2.1
     have HEE:=hideN hE.2.2
     have V9:=HV2.out.tch hI.2.2.1 HBN.out
     have t9 : Tch (fun y => y = wb) wr X:=by rw [<- hX]; exact tch_at _ _ _ _
     have V9':=V9.tch t9 HBW.out
     have n0:=V9'.c0
     clear hE hI V9 V9' t9 hll
     clear hkl' hkm hk hi hef hls
     go_wp2_with fail
     try rw [hX]
     go_ret
     rw [HSR.out,hbb.out]
     exact ⟨_,rfl,_,HEE.out.1,HEE.out.2.1,HEE.out.2.2.1,HEE.out.2.2.2.1,HEE.out.2.2.2.2.1,zae9 _,fun j hj => by cases hj⟩
   ·have d1 : decide ((i : Int) < (en : Int)) = false:=by rw [zn4]; omega
    have d1' : decide (i < en) = false:=decide_eq_false h1
    have HTK : Hid (ent.take k = ent.take (most - s.1.length)):=by
     show _ = _
     have hke : k = en - fi:=by omega
     by_cases q : 0 < k
     ·have:=hkm q
      rw [zn5 (by rw [hel.out]; omega),zn5 (by rw [hel.out]; omega)]
     ·have h0 : ent = []:=List.eq_nil_of_length_eq_zero (by rw [hel.out]; omega)
      rw [h0]; simp
    rw [HTK.out] at hI
    obtain ⟨bb,hbb⟩:=exH (decide ((s.1 ++ ent.take (most - s.1.length)).length = most))
    have hll : (s.1 ++ ent.take (most - s.1.length)).length = kl:=by obtain ⟨_,_,e⟩:=hI.2.1.long; cases e; rfl
    have q1 : decide ((kl : Int) = (most : Int)) = bb:=by
     rw [<- hbb.out,hll]
     by_cases q : kl = most
     ·rw [decide_eq_true q,decide_eq_true (by omega)]
     ·rw [decide_eq_false q,decide_eq_false (by omega)]
    have q2 : ((kl : Int) == (most : Int)) = bb:=by
     rw [<- q1]
     by_cases q : (kl : Int) = (most : Int)
     ·rw [decide_eq_true q,beq_iff_eq]; exact q
     ·rw [decide_eq_false q,beq_eq_false_iff_ne]; exact q
    have hE:=HEND.out wr (.slice ka kl kc) _ hI.1 hI.2.1 hI.2.2.1 hI.2.2.2 bb
    obtain ⟨X,hX⟩:=exN (wr.setCell ⟨wb,2,none⟩ (.bool bb))
    rw [hX] at hE
    have e2:=hE.1
    have e3:=hE.2.1
    have HEE:=hideN hE.2.2
    have V9:=HV2.out.tch hI.2.2.1 HBN.out
    have t9 : Tch (fun y => y = wb) wr X:=by rw [<- hX]; exact tch_at _ _ _ _
    have V9':=V9.tch t9 HBW.out
    have n0:=V9'.c0
    clear hE hI V9 V9' t9 hll
    clear hkl' hkm hk hi hef hls
    go_wp2_with fail
    try rw [hX]
    go_ret
    rw [HSR.out,hbb.out]
    exact ⟨_,rfl,_,HEE.out.1,HEE.out.2.1,HEE.out.2.2.1,HEE.out.2.2.2.1,HEE.out.2.2.2.2.1,zae9 _,fun j hj => by cases hj⟩
structure ISc (from_ to : ByteArray) (most : Nat) (t wb fb tb nb mb : Nat) (m : Option Nat) (E : Nat -> Prop) (s : List En × Bool) (w : World) : Prop where
 bx : w.heap[wb]? = some (.cells #[tp t,.func (.func 45) #[] #[.pointer (some ⟨fb,0,none⟩),.pointer (some ⟨tb,0,none⟩),.pointer (some ⟨nb,0,none⟩),.pointer (some ⟨mb,0,none⟩),.pointer (some ⟨wb,0,none⟩)],.bool s.2,.map m] 90 (0,0))
 f : C1 w 9 fb (.string from_)
 t : C1 w 9 tb (.string to)
 o : C1 w 3 mb (.int .i64 (most : Int))
 k : ∃ v,C1 w 35 nb v /\ OwE 0 w v s.1 /\ ∀ y,v.ownBlock = some y -> E y
 e1 : E wb /\ E fb /\ E tb /\ E mb
 e2 : E nb
 lt : ∀ k,E k -> k < w.heap.size
section
variable {from_ to : ByteArray} {most : Nat} {t wb fb tb nb mb : Nat} {m : Option Nat} {E : Nat -> Prop} {s : List En × Bool} {w w' : World}
theorem ISc.tch (h : ISc from_ to most t wb fb tb nb mb m E s w) {S : Nat -> Prop} (ht : Tch S w w') (hn : ∀ k,E k -> ¬ S k) : ISc from_ to most t wb fb tb nb mb m E s w':=by
 obtain ⟨v,h1,h2,h3⟩:=h.k
 exact ⟨by rw [ht.block wb (Array.getElem?_eq_some_iff.1 h.bx).1 (hn wb h.e1.1)]; exact h.bx,h.f.tch ht (hn _ h.e1.2.1),h.t.tch ht (hn _ h.e1.2.2.1),h.o.tch ht (hn _ h.e1.2.2.2),⟨v,h1.tch ht (hn nb h.e2),h2.tch ht (fun j hj => hn j (h3 j hj)),h3⟩,h.e1,h.e2,fun k hk => zn1 (h.lt k hk) ht.size⟩
theorem zrv9 (n : Nd) (i j : Nat) : (entF n i j).length = j - i:=by unfold entF; simp
theorem end_le (n : Nd) (to : ByteArray) : endF n to <= n.ks.length:=by
 unfold endF
 split
 ·exact zn6 _
 ·exact plc_le _ _ _
theorem zgc9 (from_ to : ByteArray) (most : Nat) (s : List En × Bool) (x : Int) (n : Nd) (hv : Vk n) : (∀ k ∈ ((scanW from_ to most).st s x n).2,0 <= k /\ k <= 65535) /\ ((scanW from_ to most).st s x n).2.length <= 240 /\ ((scanW from_ to most).st s x n).1.1.length <= s.1.length + 240:=by
 have h1:=hv.len
 have h2:=end_le n to
 have h3:=zrv9 n (fstF n from_ to) (endF n to)
 unfold scanW
 cases hl : n.lf with
 | true =>
  simp only [hl,if_true]
  exact ⟨fun k hk => (by cases hk),by simp,by rw [List.length_append,List.length_take,h3]; omega⟩
 | false =>
  simp only [hl,Bool.false_eq_true,if_false]
  refine ⟨fun k hk => kd_rng hv k (List.mem_of_mem_take (List.mem_of_mem_drop hk)),?_,by omega⟩
  rw [List.length_drop,List.length_take]
  omega
theorem scanOk (sb : Nat) (hm : most <= 4611686018427387904) : WOk (scanW from_ to most) t wb sb (fun s => s.1.length) (ISc from_ to most t wb fb tb nb mb (some sb)) where
 tch:=fun E s w w' S h ht hn => h.tch ht hn
 lt:=fun E s w h => h.lt
 kd:=fun s x n hv => (zgc9 from_ to most s x n hv).1
 ln:=fun s x n hv => (zgc9 from_ to most s x n hv).2.1
 ct:=fun s x n hv => (zgc9 from_ to most s x n hv).2.2
 fn:=⟨_,_,enters_of Tryz.func45 (by kernel_rfl) rfl,fun E s w h => ⟨h.bx,h.e1.1⟩,fun E s x n u1 u2 u3 w h hn hv ha hx hc => by
  obtain ⟨v,k1,k2,k3⟩:=h.k
  refine (zng9 n u1 u2 u3 x from_ to most hm fb tb nb mb wb t _ (some sb) s hc w hn hv v h.f h.t k1 k2 h.o h.bx (fun j hj => ⟨fun e => ha j hj (e.elim (fun e => e ▸ h.e2) (k3 j)),fun e => ha j hj (e ▸ h.e1.1)⟩)).mono ?_
  rintro e w' ⟨r,rfl,v',q1,q2,q3,q4,q5,q6,q7⟩
  have t4 : Tch E w w':=q4.mono (fun k _ e => by
   rcases e with e | e | e
   ·exact e ▸ h.e2
   ·exact e ▸ h.e1.1
   ·exact k3 k e)
  have nf : ∀ {b : Nat} {T : TypeId} {y : Value},C1 w T b y -> T ≠ 35 -> T ≠ 90 -> 72 ≠ T -> C1 w' T b y:=fun {b T y} hb n1 n2 n3 => hb.tch q4 (fun e => by
   rcases e with e | e | e
   ·exact hb.ne k1 n1 e
   ·exact hb.nbox h.bx n2 e
   ·exact k2.ne hb n3 e)
  exact ⟨fun y => E y ∨ v'.ownBlock = some y,r,rfl,⟨q3,nf h.f (by decide) (by decide) (by decide),nf h.t (by decide) (by decide) (by decide),nf h.o (by decide) (by decide) (by decide),⟨v',q1,q2,fun y hy => .inr hy⟩,⟨.inl h.e1.1,.inl h.e1.2.1,.inl h.e1.2.2.1,.inl h.e1.2.2.2⟩,.inl h.e2,fun k hk => hk.elim (fun e => zn1 (h.lt k e) t4.size) (q2.lt k)⟩,t4,fun k hk => hk.elim .inl (fun e => (q5 k e).imp (k3 k) id),q6,q7⟩⟩
end
noncomputable def scanF (a : AS) (x : Int) (from_ to : ByteArray) (most : Nat) : List En × Int:=if (fromF (scanW from_ to most) a ([],false) x).e ≠ 0 then ([],(fromF (scanW from_ to most) a ([],false) x).e) else ((fromF (scanW from_ to most) a ([],false) x).s.1,0)
def ScT (U : Nat -> Prop) (w : World) (t cc d M N : Nat) (a : AS) (r : List En × Int) (e : Ending) (w' : World) : Prop:=
 ∃ v U',e = .returned (.tuple #[v,.int .i64 r.2]) /\ OwE w.heap.size w' v r.1 /\ Tz U' w' t cc d M N a /\ Tch U w w' /\ (∀ k,U' k -> U k ∨ w.heap.size <= k) /\ (∀ j,v.ownBlock = some j -> ¬ U' j)
theorem zcg9 {U : Nat -> Prop} {t cc d M N : Nat} {a : AS} (x : Int) (hx : 0 <= x /\ x <= 65535) (from_ to : ByteArray) (most : Nat) (hm : most <= 4611686018427387904) (w : World) (h : Tz U w t cc d M N a) :
  Calls Tryz.prog 14 #[tp t,.int .i64 x,.string from_,.string to,.int .i64 (most : Int)] w fun e w' => ScT U w t cc d M N a (scanF a x from_ to most) e w':=by
 have hmf : ∀ (fn : Fn) (first cap : Array Value) (w : World),(Instr.makeFunc fn first cap).run Tryz.prog w = .ok (.func fn first cap) w:=fun _ _ _ _ => rfl
 obtain ⟨W1,hW1⟩:=exN (w.alloc (.cells #[.string from_] 9))
 obtain ⟨W2,hW2⟩:=exN (W1.alloc (.cells #[.string to] 9))
 obtain ⟨W3,hW3⟩:=exN (W2.alloc (.cells #[.int .i64 (most : Int)] 3))
 have c3 : C1 W3 3 W2.heap.size (.int .i64 (most : Int)):=by rw [<- hW3]; exact C1.new _ _ _
 have g3:=c3.c
 have d1 : decide ((most : Int) < 0) = false:=by rw [zn4]; omega
 have s1 : W1.heap.size = w.heap.size + 1:=by rw [<- hW1]; simp
 have s2 : W2.heap.size = w.heap.size + 2:=by rw [<- hW2]; simp [s1]
 have s3 : W3.heap.size = w.heap.size + 3:=by rw [<- hW3]; simp [s2]
 have b1 : Below w.heap.size w W1:=by rw [<- hW1]; exact za9 _ _
 have b2 : Below W1.heap.size W1 W2:=by rw [<- hW2]; exact za9 _ _
 have b3 : Below W2.heap.size W2 W3:=by rw [<- hW3]; exact za9 _ _
 have f1 : C1 W1 9 w.heap.size (.string from_):=by rw [<- hW1]; exact C1.new _ _ _
 have t2 : C1 W2 9 W1.heap.size (.string to):=by rw [<- hW2]; exact C1.new _ _ _
 obtain ⟨W4,hW4⟩:=exN (W3.alloc (.cells #[.slice none 0 0] 35))
 obtain ⟨W5,hW5⟩:=exN (W4.alloc (.cells #[.pointer (some ⟨t,0,none⟩),.func (.func 45) #[] #[.pointer (some ⟨w.heap.size,0,none⟩),.pointer (some ⟨W1.heap.size,0,none⟩),.pointer (some ⟨W3.heap.size,0,none⟩),.pointer (some ⟨W2.heap.size,0,none⟩),.pointer (some ⟨W3.heap.size + 1,0,none⟩)],.bool false,.map none] 90))
 have s4 : W4.heap.size = W3.heap.size + 1:=by rw [<- hW4]; simp
 have b4 : Below W3.heap.size W3 W4:=by rw [<- hW4]; exact za9 _ _
 have b5 : Below W4.heap.size W4 W5:=by rw [<- hW5]; exact za9 _ _
 have n4 : C1 W4 35 W3.heap.size (.slice none 0 0):=by rw [<- hW4]; exact C1.new _ _ _
 have bx5 : W5.heap[W3.heap.size + 1]? = some (.cells #[tp t,.func (.func 45) #[] #[.pointer (some ⟨w.heap.size,0,none⟩),.pointer (some ⟨W1.heap.size,0,none⟩),.pointer (some ⟨W3.heap.size,0,none⟩),.pointer (some ⟨W2.heap.size,0,none⟩),.pointer (some ⟨W3.heap.size + 1,0,none⟩)],.bool false,.map none] 90 (0,0)):=by rw [<- hW5,<- s4]; exact heap_alloc_new W4 _
 have b12:=b1.trans (b2.mono b1.size)
 have b13:=b12.trans (b3.mono b12.size)
 have b14:=b13.trans (b4.mono b13.size)
 have b15:=b14.trans (b5.mono b14.size)
 obtain ⟨E,hE⟩ : ∃ E : Nat -> Prop,∀ y,E y ↔ (w.heap.size <= y /\ y < W5.heap.size):=⟨_,fun y => Iff.rfl⟩
 have h5:=(Array.getElem?_eq_some_iff.1 bx5).1
 have J5 : ISc from_ to most t (W3.heap.size + 1) w.heap.size W1.heap.size W3.heap.size W2.heap.size none E ([],false) W5:=⟨bx5,(((f1.below b2).below b3).below b4).below b5,((t2.below b3).below b4).below b5,(c3.below b4).below b5,⟨_,n4.below b5,owE_nil _ _,fun y e => by cases e⟩,⟨(hE _).2 (by omega),(hE _).2 (by omega),(hE _).2 (by omega),(hE _).2 (by omega)⟩,(hE _).2 (by omega),fun k hk => ((hE k).1 hk).2⟩
 have hEg : ∀ y,E y -> w.heap.size <= y:=fun y hy => ((hE y).1 hy).1
 have FR:=zhb9 (D:=scanW from_ to most) (cnt:=fun s => s.1.length) (wb:=W3.heap.size + 1) (cc:=cc) (d:=d) (M:=M) (N:=N) (a:=a) (ISc from_ to most t (W3.heap.size + 1) w.heap.size W1.heap.size W3.heap.size W2.heap.size)
  (fun sb => scanOk sb hm)
  (fun E s w' sb hJ => by
   obtain ⟨v,q1,q2,q3⟩:=hJ.k
   exact ⟨heap_setCell_same w' _ 3 _ _ _ hJ.bx,hJ.f.tch (tch_at _ _ _ _) (by omega),hJ.t.tch (tch_at _ _ _ _) (by omega),hJ.o.tch (tch_at _ _ _ _) (by omega),⟨v,q1.tch (tch_at _ _ _ _) (by omega),q2.tch (tch_at _ _ _ _) (fun j hj e => q2.ne hJ.bx (by decide) (e ▸ hj)),q3⟩,hJ.e1,hJ.e2,fun k hk => zn1 (hJ.lt k hk) (tch_at _ _ _ _).size⟩)
  (fun E s w' w'' S hJ ht hn => hJ.tch ht hn) (fun E s w' hJ => ⟨⟨_,_,_,hJ.bx⟩,hJ.e1.1,hJ.lt⟩) x hx U E W5 ([],false) (h.below b15) J5 (fun k hk e => by have:=h.ul k hk; have:=hEg k e; omega) rfl
 obtain ⟨r,hr⟩:=exH (fromF (scanW from_ to most) a ([],false) x)
 rw [hr.out] at FR
 obtain ⟨re,hre⟩:=exH r.e
 rw [hre.out] at FR
 have HLF : Hid (scanF a x from_ to most = if re ≠ 0 then ([],re) else (r.s.1,0)):=by
  show _ = _
  unfold scanF
  rw [hr.out,hre.out]
 have HFR:=hideN FR
 have HB15:=hideN b15
 have HEG:=hideN hEg
 have HUL:=hideN h.ul
 have HW4:=hideN hW4
 have HW5:=hideN hW5
 clear FR b15 hEg J5 bx5 b14 b13 b12 n4 b5 b4 t2 f1 b3 b2 b1 s1 s2 s3 s4 h5 c3 h hx hE hW4 hW5 hm
 go_enter Tryz.func14,Tryz.ntmps14
 go_wp2_with fail
 rw [HW4.out,HW5.out]
 refine HFR.out.mono ?_
 rintro e W6 ⟨rfl,F6,cn⟩
 obtain ⟨U6,E6,m6,z6,j6,t6,u6,e6,d6⟩:=F6
 obtain ⟨v,q1,q2,q3⟩:=j6.k
 have hs15:=HB15.out.size
 have hEl : ∀ y,E6 y -> w.heap.size <= y:=fun y hy => (e6 y hy).elim (HEG.out y) (fun e => by omega)
 have T6 : Tch U w W6:=(Tch.of_below (S:=U) HB15.out).trans t6 (fun y hy e => e.elim id (fun e => by have:=HEG.out y e; omega))
 have U6' : ∀ k,U6 k -> U k ∨ w.heap.size <= k:=fun k hk => (u6 k hk).imp id (fun e => by omega)
 by_cases hre0 : re = 0
 ·subst hre0
  have HFIN : Hid (ScT U w t cc d M N a (scanF a x from_ to most) (.returned (.tuple #[v,.int .i64 0])) W6):=by
   show ScT _ _ _ _ _ _ _ _ _ _ _
   rw [HLF.out,if_neg (by simp)]
   exact ⟨v,U6,rfl,OwE.of q2 (fun j hj => hEl j (q3 j hj)),z6,T6,U6',fun j hj e => d6 j e (q3 j hj)⟩
  obtain ⟨va,vc,hva⟩:=q2.long
  obtain ⟨vl,hvl⟩:=exH r.s.1.length
  rw [hvl.out] at hva
  subst hva
  have g1:=q1.c
  clear q1 q2 q3 z6 T6 U6' d6 hEl t6 u6 e6 j6 cn HFR hs15 g3
  go_wp2_with fail
  go_ret2
  exact HFIN.out
 ·have df1 : (re == 0) = false:=by rw [beq_eq_false_iff_ne]; exact hre0
  have df2 : (re != 0) = true:=by rw [bne,df1]; rfl
  have HFIN : Hid (ScT U w t cc d M N a (scanF a x from_ to most) (.returned (.tuple #[.slice none 0 0,.int .i64 re])) W6):=by
   show ScT _ _ _ _ _ _ _ _ _ _ _
   rw [HLF.out,if_pos hre0]
   exact ⟨_,U6,rfl,owE_nil _ _,z6,T6,U6',fun j hj => by cases hj⟩
  clear hre0 q1 q2 q3 z6 T6 U6' d6 hEl t6 u6 e6 j6 cn HFR hs15 g3
  go_wp2_with fail
  go_ret2
  exact HFIN.out
end Go.Proofs.YtjhccpijpffahaaGreat
