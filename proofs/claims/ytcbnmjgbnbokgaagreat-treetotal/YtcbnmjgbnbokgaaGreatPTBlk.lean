import Derived.Test.YtcbnmjgbnbokgaaGreatPTGetT
import Derived.Test.YtcbnmjgbnbokgaaGreatPDLay
import Derived.Test.YtcbnmjgbnbokgaaGreatPDWr
import Derived.Sort.OwnSortedInts
import Derived.Test.YtcbnmjgbnbokgaaGreatPTPutT
import Derived.Test.YtcbnmjgbnbokgaaGreatPTRpl
import Derived.Test.YtcbnmjgbnbokgaaGreatPTScn1
set_option maxRecDepth 100000
set_option linter.unusedVariables false
set_option linter.unusedSimpArgs false
set_option maxHeartbeats 8000000
namespace Go.Proofs.YtcbnmjgbnbokgaaGreat
open Go.RowKit Go.Maps Pl
def srt (l : List Int) : List Int:=l.mergeSort fun x y => decide (x <= y)
theorem zol9 (l : List Int) : (srt l).length = l.length:=List.length_mergeSort _
theorem znf9 {B : Nat} (v : Value) (l : List Int) (w : World) (h : OwV B 3 w v (nums l)) (hl : l.length <= 1000000000) :
  Calls Tryz.prog 60 #[v] w fun e w' => e = .returned (.tuple #[]) /\ OwV B 3 w' v (nums (srt l)) /\ Tch (fun k => v.ownBlock = some k) w w':=by
 rcases h with ⟨hc,hd⟩
 rcases hd with ⟨hv,h0⟩ | ⟨g,cap,cur,hv,hg,hb,h1,h2,h3,h4⟩
 ·have hnil : l = []:=by
   have : (nums l).length = 0:=by rw [<- hc] at *; first | exact h0 | simpa using h0
   rw [zh9] at this
   exact List.eq_nil_of_length_eq_zero this
  subst hnil hv
  refine (AnyM.slices_Sort_int_none Tryz.sortA none 0 w).mono ?_
  rintro e w' ⟨rfl,rfl⟩
  have e0 : nums (srt []) = []:=by simp [srt,nums]
  rw [e0]
  exact ⟨rfl,zad9 _ _ _,Tch.refl _ _⟩
 ·rw [zh9] at hv h1 h4
  subst hv
  refine (AnyM.slices_Sort_int Tryz.sortA g 0 cap l w (holds_of_blockI hb (by rw [Nat.mul_one] at h4; exact h4)) (Array.getElem?_eq_some_iff.1 hb).1 (by omega)).mono ?_
  rintro e w' ⟨rfl,n,os,rfl⟩
  refine ⟨rfl,?_,(Tch.of_grown (grownBy_sortedI _)).mono (fun k _ e => by rw [<- e]; rfl)⟩
  have:=ownsRow_sortedI (n:=n) (os:=os) (base:=B) (zol9 l) hg hb h1 h2 h3
  show World.ownsRow _ _ _ _ _ _ _
  rw [zh9,zol9]
  exact this
structure IBk (t wb nb : Nat) (m : Option Nat) (E : Nat -> Prop) (s : List Int) (w : World) : Prop where
 bx : w.heap[wb]? = some (.cells #[tp t,.func (.func 59) #[] #[.pointer (some ⟨nb,0,none⟩)],.bool false,.map m] 89 (0,0))
 k : ∃ v,C1 w 49 nb v /\ OwV 0 3 w v (nums s) /\ ∀ y,v.ownBlock = some y -> E y
 e1 : E wb
 e2 : E nb
 lt : ∀ k,E k -> k < w.heap.size
section
variable {t wb nb : Nat} {m : Option Nat} {E : Nat -> Prop} {s : List Int} {w w' : World}
theorem IBk.tch (h : IBk t wb nb m E s w) {S : Nat -> Prop} (ht : Tch S w w') (hn : ∀ k,E k -> ¬ S k) : IBk t wb nb m E s w':=by
 obtain ⟨v,h1,h2,h3⟩:=h.k
 exact ⟨by rw [ht.block wb (Array.getElem?_eq_some_iff.1 h.bx).1 (hn wb h.e1)]; exact h.bx,⟨v,h1.tch ht (hn nb h.e2),h2.tch ht (fun j hj => hn j (h3 j hj)),h3⟩,h.e1,h.e2,fun k hk => zn1 (h.lt k hk) ht.size⟩
end
theorem zou9 (n : Nd) (u1 u2 u3 : Value) (x : Int) (nb : Nat) (s : List Int) (hs : s.length <= 15728640) (w : World) (h : Nn w n u1 u2 u3) (v : Value) (hb : C1 w 49 nb v) (ho : OwV 0 3 w v (nums s)) (hap : ∀ j,u3.ownBlock = some j -> j ≠ nb /\ v.ownBlock ≠ some j) :
  Calls Tryz.prog 59 #[.int .i64 x,nod n.lf u1 u2 u3,.pointer (some ⟨nb,0,none⟩)] w fun e w' =>
   e = .returned u3 /\ (∃ v',C1 w' 49 nb v' /\ OwV 0 3 w' v' (nums (s ++ [x])) /\ ∀ y,v'.ownBlock = some y -> v.ownBlock = some y ∨ w.heap.size <= y) /\ Tch (fun k => k = nb ∨ v.ownBlock = some k) w w' /\ RdV w' u3 (nums n.kd):=by
 obtain ⟨a1,c1,a2,c2,a3,c3,rfl,rfl,rfl,_,_,_,_⟩:=h.out
 obtain ⟨L1,hL1⟩:=exH n.ks.length
 obtain ⟨L2,hL2⟩:=exH n.vs.length
 obtain ⟨L3,hL3⟩:=exH n.kd.length
 obtain ⟨lf,hlf⟩:=exH n.lf
 rw [hL1.out,hL2.out,hL3.out] at h
 rw [hL3.out] at hap
 rw [hL1.out,hL2.out,hL3.out,hlf.out]
 obtain ⟨va,vc,hva⟩:=ho.long
 obtain ⟨vl,hvl⟩:=exH ((nums s).length)
 rw [hvl.out] at hva
 subst hva
 obtain ⟨W1,hW1⟩:=exN (w.alloc (.cells #[.bool lf,.slice a1 L1 c1,.slice a2 L2 c2,.slice a3 L3 c3] 92))
 have b1 : Below w.heap.size w W1:=by rw [<- hW1]; exact za9 _ _
 have V1 : Nb W1 92 w.heap.size lf (.slice a1 L1 c1) (.slice a2 L2 c2) (.slice a3 L3 c3):=by rw [<- hW1]; exact nb_new _ _ _ _ _ _
 obtain ⟨W2,hW2⟩:=exN (W1.alloc (.cells #[.int .i64 x] 3))
 have b2 : Below W1.heap.size W1 W2:=by rw [<- hW2]; exact za9 _ _
 have b12 : Below w.heap.size w W2:=b1.trans (b2.mono b1.size)
 have k2 : Hid (W2.cell? ⟨W1.heap.size,0,none⟩ = some (.int .i64 x)):=by show _ = _; rw [<- hW2,cell_of_row _ W1.heap.size 0 _ _ (0,0) (heap_alloc_new W1 _)]; rfl
 have g1:=(hb.below b1).c
 have HO2:=hideN (ho.below b12)
 have HC2:=hideN (hb.below b12)
 have HV2:=hideN (V1.below b2)
 have HN2:=hideN (h.below b12)
 have HB:=hideN hb
 have HB12:=hideN b12
 have HAP:=hideN hap
 have HL : Hid (s.length <= 15728640):=hs
 have HNE : Hid ((Value.slice va vl vc).ownBlock ≠ some nb):=ho.ne hb (by decide)
 have HOL:=hideN ho.owns.lt
 unfold nod
 clear h hb ho hap b1 V1 b2 b12 hs
 go_enter Tryz.func59,Tryz.ntmps59
 go_wp2_with (at_builtin; refine zv9 49 3 (.int .i64 0) 8 elemIN _ rfl (.tmp 6) (.tmp 8) rfl 0 _ (nums s) rfl HO2.out W1.heap.size (.int .i64 x) rfl rfl k2.out (by rw [zh9]; have:=HL.out; omega) (by rw [zh9]; have:=HL.out; omega) (zn7 _) ?_; intro v' w3 ho hg hf; refine Hid.out ?_)
 refine hideN ?_
 have T3 : Tch (fun k => (Value.slice va vl vc).ownBlock = some k) W2 w3:=hg.tch
 have C3:=HC2.out.tch T3 HNE.out
 have V3:=HV2.out.tch T3 (fun e => by have:=HOL.out _ e; omega)
 obtain ⟨xa,xl,xc,rfl⟩ : ∃ a l c,v' = .slice a l c:=by obtain ⟨a,c,e⟩:=ho.long; exact ⟨_,_,_,e⟩
 obtain ⟨W4,hW4⟩:=exN (w3.setCell ⟨nb,0,none⟩ (.slice xa xl xc))
 have t4 : Tch (fun y => y = nb) w3 W4:=by rw [<- hW4]; exact tch_at _ _ _ _
 have C4 : C1 W4 49 nb (.slice xa xl xc):=by rw [<- hW4]; exact C3.set _
 have hnl:=HB.out.lt
 have V4:=V3.tch t4 (by omega)
 have hfr : ∀ y,(Value.slice xa xl xc).ownBlock = some y -> (Value.slice va vl vc).ownBlock = some y ∨ W2.heap.size <= y:=fun y hy => hf y hy
 have hs2:=HB12.out.size
 have O4 : OwV 0 3 W4 (.slice xa xl xc) (nums (s ++ [x])):=by
  have e : nums s ++ [.int .i64 x] = nums (s ++ [x]):=by simp [nums]
  rw [e] at ho
  refine ho.tch t4 (fun y hy e => ?_)
  rcases hfr y hy with q | q
  ·exact HNE.out (e ▸ q)
  ·omega
 have D4 : RdV W4 (.slice a3 L3 c3) (nums n.kd):=(HN2.out.d.tch T3 (fun j hj => (HAP.out j hj).2)).tch t4 (fun j hj e => (HAP.out j hj).1 e)
 have HFIN : Hid ((∃ v',C1 W4 49 nb v' /\ OwV 0 3 W4 v' (nums (s ++ [x])) /\ ∀ y,v'.ownBlock = some y -> (Value.slice va vl vc).ownBlock = some y ∨ w.heap.size <= y) /\ Tch (fun k => k = nb ∨ (Value.slice va vl vc).ownBlock = some k) w W4 /\ RdV W4 (.slice a3 L3 c3) (nums n.kd)):=
  ⟨⟨_,C4,O4,fun y hy => (hfr y hy).imp id (fun q => by omega)⟩,((Tch.of_below (S:=fun k => k = nb ∨ (Value.slice va vl vc).ownBlock = some k) HB12.out).trans T3 (fun _ _ e => .inr e)).trans t4 (fun _ _ e => .inl e),D4⟩
 have g3:=C3.c
 have g4:=C3.fz
 have m3:=V4.c3
 clear ho hg hf T3 C3 V3 t4 C4 hnl V4 hfr hs2 O4 D4 g1
 go_wp2_with fail
 try rw [hW4]
 go_ret
 exact ⟨rfl,HFIN.out⟩
theorem blkOk {t wb nb : Nat} (sb : Nat) (h1 : nb ≠ wb) : WOk zdh9 t wb sb (fun s => s.length) (IBk t wb nb (some sb)) where
 tch:=fun E s w w' S h ht hn => h.tch ht hn
 lt:=fun E s w h => h.lt
 kd:=fun s x n hv k hk => kd_rng hv k hk
 ln:=fun s x n hv => hv.len.2.2
 ct:=fun s x n hv => by show (s ++ [x]).length <= s.length + 240; simp
 fn:=⟨_,_,enters_of Tryz.func59 (by kernel_rfl) rfl,fun E s w h => ⟨h.bx,h.e1⟩,fun E s x n u1 u2 u3 w h hn hv ha hx hc => by
  obtain ⟨v,k1,k2,k3⟩:=h.k
  refine (zou9 n u1 u2 u3 x nb s hc w hn v k1 k2 (fun j hj => ⟨fun e => ha j (.inr (.inr hj)) (e ▸ h.e2),fun e => ha j (.inr (.inr hj)) (k3 j e)⟩)).mono ?_
  rintro e w' ⟨rfl,⟨v',q1,q2,q3⟩,q4,q5⟩
  have hwb:=(Array.getElem?_eq_some_iff.1 h.bx).1
  have t4 : Tch E w w':=q4.mono (fun k _ e => e.elim (fun e => e ▸ h.e2) (k3 k))
  refine ⟨fun y => E y ∨ v'.ownBlock = some y,u3,rfl,⟨?_,⟨v',q1,q2,fun y hy => .inr hy⟩,.inl h.e1,.inl h.e2,fun k hk => hk.elim (fun e => zn1 (h.lt k e) t4.size) (q2.owns.lt k)⟩,t4,fun k hk => hk.elim .inl (fun e => (q3 k e).imp (k3 k) id),q5,fun j hj => hj⟩
  rw [q4.block wb hwb (fun e => e.elim (fun e => h1 e.symm) (fun e => k2.ne h.bx (by decide) e))]; exact h.bx⟩
noncomputable def blkF (a : AS) (x : Int) : List Int × Int:=if (fromF zdh9 a [] x).e ≠ 0 then ([],(fromF zdh9 a [] x).e) else (srt (fromF zdh9 a [] x).s,0)
theorem zjb9 {U : Nat -> Prop} {t cc d M N : Nat} {a : AS} (x : Int) (hx : 0 <= x /\ x <= 65535) (w : World) (h : Tz U w t cc d M N a) :
  Calls Tryz.prog 29 #[tp t,.int .i64 x] w fun e w' => ∃ v U',e = .returned (.tuple #[v,.int .i64 (blkF a x).2]) /\ OwV w.heap.size 3 w' v (nums (blkF a x).1) /\ Tz U' w' t cc d M N a /\ Tch U w w' /\ (∀ k,U' k -> U k ∨ w.heap.size <= k) /\ (∀ j,v.ownBlock = some j -> ¬ U' j):=by
 have hmf : ∀ (fn : Fn) (first cap : Array Value) (w : World),(Instr.makeFunc fn first cap).run Tryz.prog w = .ok (.func fn first cap) w:=fun _ _ _ _ => rfl
 obtain ⟨W1,hW1⟩:=exN (w.alloc (.cells #[.slice none 0 0] 49))
 obtain ⟨W2,hW2⟩:=exN (W1.alloc (.cells #[.pointer (some ⟨t,0,none⟩),.func (.func 59) #[] #[.pointer (some ⟨w.heap.size,0,none⟩)],.bool false,.map none] 89))
 have s1 : W1.heap.size = w.heap.size + 1:=by rw [<- hW1]; simp
 have b1 : Below w.heap.size w W1:=by rw [<- hW1]; exact za9 _ _
 have b2 : Below W1.heap.size W1 W2:=by rw [<- hW2]; exact za9 _ _
 have k1 : C1 W1 49 w.heap.size (.slice none 0 0):=by rw [<- hW1]; exact C1.new _ _ _
 have bx2 : W2.heap[W1.heap.size]? = some (.cells #[tp t,.func (.func 59) #[] #[.pointer (some ⟨w.heap.size,0,none⟩)],.bool false,.map none] 89 (0,0)):=by rw [<- hW2]; exact heap_alloc_new W1 _
 have b12 : Below w.heap.size w W2:=b1.trans (b2.mono b1.size)
 obtain ⟨E,hE⟩ : ∃ E : Nat -> Prop,∀ y,E y ↔ (y = W1.heap.size ∨ y = w.heap.size):=⟨_,fun y => Iff.rfl⟩
 have J2 : IBk t W1.heap.size w.heap.size none E [] W2:=⟨bx2,⟨_,k1.below b2,zad9 _ _ _,fun y e => by cases e⟩,(hE _).2 (.inl rfl),(hE _).2 (.inr rfl),fun k hk => by
  have h1:=(Array.getElem?_eq_some_iff.1 bx2).1
  rcases (hE k).1 hk with e | e
  ·omega
  ·omega⟩
 have hEg : ∀ y,E y -> w.heap.size <= y:=fun y hy => by rcases (hE y).1 hy with e | e <;> omega
 have FR:=zce9 (D:=zdh9) (cnt:=fun s => s.length) (wb:=W1.heap.size) (cc:=cc) (d:=d) (M:=M) (N:=N) (a:=a) (IBk t W1.heap.size w.heap.size)
  (fun sb => blkOk sb (by omega))
  (fun E s w' sb hJ => by
   obtain ⟨v,q1,q2,q3⟩:=hJ.k
   exact ⟨heap_setCell_same w' _ 3 _ _ _ hJ.bx,⟨v,q1.tch (tch_at _ _ _ _) (by omega),q2.tch (tch_at _ _ _ _) (fun j hj e => q2.ne hJ.bx (by decide) (e ▸ hj)),q3⟩,hJ.e1,hJ.e2,fun k hk => zn1 (hJ.lt k hk) (tch_at _ _ _ _).size⟩)
  (fun E s w' w'' S hJ ht hn => hJ.tch ht hn) (fun E s w' hJ => ⟨⟨_,_,_,hJ.bx⟩,hJ.e1,hJ.lt⟩) x hx U E W2 [] (h.below b12) J2 (fun k hk e => by have:=h.ul k hk; have:=hEg k e; omega) rfl
 obtain ⟨r,hr⟩:=exH (fromF zdh9 a [] x)
 rw [hr.out] at FR
 obtain ⟨re,hre⟩:=exH r.e
 rw [hre.out] at FR
 have HLF : Hid (blkF a x = if re ≠ 0 then ([],re) else (srt r.s,0)):=by
  show _ = _
  unfold blkF
  rw [hr.out,hre.out]
 have HFR:=hideN FR
 have HB12:=hideN b12
 have HEG:=hideN hEg
 have HUL:=hideN h.ul
 have HW1:=hideN hW1
 have HW2:=hideN hW2
 have HS1:=hideN s1
 clear FR b12 hEg J2 bx2 b2 b1 k1 s1 h hx hE hW1 hW2
 go_enter Tryz.func29,Tryz.ntmps29
 go_wp2_with fail
 rw [HW1.out]
 rw [<- HS1.out,HW2.out]
 refine HFR.out.mono ?_
 rintro e W3 ⟨rfl,F3,cn⟩
 obtain ⟨U5,E5,m5,z5,j5,t5,u5,e5,d5⟩:=F3
 obtain ⟨v,q1,q2,q3⟩:=j5.k
 have hs12:=HB12.out.size
 have hEl : ∀ y,E5 y -> w.heap.size <= y:=fun y hy => (e5 y hy).elim (HEG.out y) (fun e => by omega)
 have T3 : Tch U w W3:=(Tch.of_below (S:=U) HB12.out).trans t5 (fun y hy e => e.elim id (fun e => by have:=HEG.out y e; omega))
 have U3 : ∀ k,U5 k -> U k ∨ w.heap.size <= k:=fun k hk => (u5 k hk).imp id (fun e => by omega)
 by_cases hre0 : re = 0
 ·subst hre0
  have HL2 : Hid (blkF a x = (srt r.s,0)):=by show _ = _; rw [HLF.out,if_neg (by simp)]
  have hne : v.ownBlock ≠ some w.heap.size:=q2.ne q1 (by decide)
  have ST:=znf9 v r.s W3 q2 (by omega)
  obtain ⟨va,vc,hva⟩:=q2.long
  obtain ⟨vl,hvl⟩:=exH ((nums r.s).length)
  rw [hvl.out] at hva
  subst hva
  have HST:=hideN ST
  have g1:=q1.c
  have HC:=hideN q1
  have HNE:=hideN hne
  have HZ:=hideN z5
  have HT3:=hideN T3
  have HU3:=hideN U3
  have HD:=hideN d5
  have HQ3:=hideN q3
  have HEL:=hideN hEl
  clear ST q1 q2 hne z5 T3 U3 d5 q3 hEl t5 u5 e5 j5 cn HFR
  go_wp2_with fail
  refine HST.out.mono ?_
  rintro e W4 ⟨rfl,o4,t4⟩
  have C4:=HC.out.tch t4 HNE.out
  have g2:=C4.c
  have Z4:=HZ.out.tch t4 (fun k hk e => HD.out k hk (HQ3.out k e))
  have T4 : Tch U w W4:=HT3.out.trans t4 (fun y hy e => by have:=HEL.out y (HQ3.out y e); omega)
  have O4 : OwV w.heap.size 3 W4 (.slice va vl vc) (nums (srt r.s)):=OwV.of o4 (fun j hj => HEL.out j (HQ3.out j hj))
  have HFIN : Hid (∃ v U',(.returned (.tuple #[.slice va vl vc,.int .i64 0]) : Ending) = .returned (.tuple #[v,.int .i64 (blkF a x).2]) /\ OwV w.heap.size 3 W4 v (nums (blkF a x).1) /\ Tz U' W4 t cc d M N a /\ Tch U w W4 /\ (∀ k,U' k -> U k ∨ w.heap.size <= k) /\ (∀ j,v.ownBlock = some j -> ¬ U' j)):=by
   show ∃ v U',_
   rw [HL2.out]
   exact ⟨_,U5,rfl,O4,Z4,T4,HU3.out,fun j hj e => HD.out j e (HQ3.out j hj)⟩
  clear o4 t4 C4 Z4 T4 O4 g1
  go_wp2_with fail
  go_ret2
  exact HFIN.out
 ·have df1 : (re == 0) = false:=by rw [beq_eq_false_iff_ne]; exact hre0
  have df2 : (re != 0) = true:=by rw [bne,df1]; rfl
  have HL2 : Hid (blkF a x = ([],re)):=by show _ = _; rw [HLF.out,if_pos hre0]
  have HFIN : Hid (∃ v U',(.returned (.tuple #[.slice none 0 0,.int .i64 re]) : Ending) = .returned (.tuple #[v,.int .i64 (blkF a x).2]) /\ OwV w.heap.size 3 W3 v (nums (blkF a x).1) /\ Tz U' W3 t cc d M N a /\ Tch U w W3 /\ (∀ k,U' k -> U k ∨ w.heap.size <= k) /\ (∀ j,v.ownBlock = some j -> ¬ U' j)):=by
   show ∃ v U',_
   rw [HL2.out]
   exact ⟨_,U5,rfl,zad9 _ _ _,z5,T3,U3,fun j hj => by cases hj⟩
  clear hre0 q1 q2 q3 z5 T3 U3 d5 hEl t5 u5 e5 j5 cn HFR
  go_wp2_with fail
  go_ret2
  exact HFIN.out
def RdBk (w : World) (v : Value) (zs : List (Int × Value)) : Prop:=
 ∃ a cap,v = .slice a zs.length cap /\ zs.length <= cap /\ cap <= maxLen ∧
  (zs = [] ∨ ∃ b o,a = some ⟨b,o,none⟩ /\ ∀ i,i < zs.length -> w.cell? ⟨b,o + i * 2,none⟩ = some (.int .i64 (zs.getD i (0,undef)).1) /\ w.cell? ⟨b,o + i * 2 + 1,none⟩ = some (zs.getD i (0,undef)).2 /\ ∃ ys,Rd .u8 w (zs.getD i (0,undef)).2 ys /\ By ys /\ ∀ k,(zs.getD i (0,undef)).2.ownBlock = some k -> ys ≠ [] -> k < w.heap.size)
section
variable {U : Nat -> Prop} {w : World} {t c d M N : Nat} {a : AS}
theorem tzPutB (x k : Int) (v : Value) (ys : List Int) (w : World) (H : Tz U w t c d M N a) (hr : Rd .u8 w v ys) (hb : By ys) (hv : ∀ j,v.ownBlock = some j -> ys ≠ [] -> ¬ U j) :
  Calls Tryz.prog 30 #[cp c,.int .i64 x,blk k v] w fun e w' => ∃ ec V',e = .returned (.int .i64 ec) /\ TzTo U w w' t c d M N { a with V:=V' }:=by
 obtain ⟨fb,X,S,Y,s,D,h⟩:=H
 refine (zko9 x k v ys w h.cz.ch h.cz.dk h.cz.len hr hb (fun j hj h0 e => hv j hj h0 (h.ux j (.inl e)))).mono ?_
 rintro e w' ⟨rfl,h1⟩
 exact ⟨_,vwC (s.putS N x k ys) D,rfl,h.czTo (h.cz.chTo h1) ⟨h.ok.lo,h.ok.hi,h.ok.fr,rfl,h.ok.q,h.ok.co.put _ _ _⟩ rfl rfl⟩
theorem tzMark (x : Int) (w : World) (H : Tz U w t c d M N a) :
  Calls Tryz.prog 31 #[mp M,.int .i64 x] w fun e w' => e = .returned (.bool (Ah.mrk x a.A).1) /\ TzTo U w w' t c d M N { a with A:=(Ah.mrk x a.A).2 }:=by
 obtain ⟨fb,X,S,Y,s,D,h⟩:=H
 refine (zps9 M a.A Y x w h.pm).mono ?_
 rintro e w' ⟨rfl,h1,h2⟩
 exact ⟨rfl,h.pmTo h1 h2 (mrkL _ _).1 (mrkL _ _).2⟩
theorem mrk_as (x : Int) (s : Ah.St) : (Ah.mrk x s).2.as = s.as:=by unfold Ah.mrk; split <;> rfl
end
structure TtAt (w : World) (key val : ByteArray) (b t c d M N : Nat) (a : AS) (W : World) (U : Nat -> Prop) : Prop where
 lw : Lw U W b t c d M N a 0 (.slice none 0 0)
 bl : Below w.heap.size w W
 ug : ∀ k,U k -> w.heap.size < k
 xk : W.cell? ⟨w.heap.size,1,none⟩ = some (.string key)
 xv : W.cell? ⟨w.heap.size,2,none⟩ = some (.string val)
def Tt (w : World) (key val : ByteArray) (b t c d M N : Nat) (a : AS) (W : World) : Prop:=∃ U,TtAt w key val b t c d M N a W U
section
variable {w W W' : World} {key val : ByteArray} {b t c d M N : Nat} {a a' : AS} {U : Nat -> Prop}
theorem TtAt.to (h : TtAt w key val b t c d M N a W U) (hz : TzTo U W W' t c d M N a') : Tt w key val b t c d M N a' W':=by
 obtain ⟨U',l,tt,hu⟩:=h.lw.to hz
 have hb:=h.bl.size
 have hn : ¬ U w.heap.size:=fun e => by have:=h.ug _ e; omega
 refine ⟨U',l,h.bl.trans (tt.below h.bl.size (fun k hk => by have:=h.ug k hk; omega)),fun k hk => (hu k hk).elim (h.ug k) (fun e => ?_),?_,?_⟩
 ·have:=World.block_lt_of_cell? W ⟨w.heap.size,1,none⟩ h.xk
  have h2 : w.heap.size < W.heap.size:=this
  omega
 ·rw [tt.cell (p:=⟨w.heap.size,1,none⟩) (World.block_lt_of_cell? W ⟨w.heap.size,1,none⟩ h.xk) hn]; exact h.xk
 ·rw [tt.cell (p:=⟨w.heap.size,2,none⟩) (World.block_lt_of_cell? W ⟨w.heap.size,2,none⟩ h.xv) hn]; exact h.xv
theorem TtAt.drew (h : TtAt w key val b t c d M N a W U) : TtAt w key val b t c d M N a W.drew U:=⟨h.lw.below (Below.refl _ _).drew,h.bl.drew,h.ug,h.xk,h.xv⟩
theorem TtAt.below (h : TtAt w key val b t c d M N a W U) (hb : Below W.heap.size W W') : TtAt w key val b t c d M N a W' U:=
 ⟨h.lw.below hb,h.bl.trans (hb.mono h.bl.size),h.ug,by rw [hb.cell (World.block_lt_of_cell? W ⟨w.heap.size,1,none⟩ h.xk)]; exact h.xk,by rw [hb.cell (World.block_lt_of_cell? W ⟨w.heap.size,2,none⟩ h.xv)]; exact h.xv⟩
theorem Tt.cells (h : Tt w key val b t c d M N a W) : W.cell? ⟨b,3,none⟩ = some (tp t) /\ W.cell? ⟨w.heap.size,1,none⟩ = some (.string key) /\ W.cell? ⟨w.heap.size,2,none⟩ = some (.string val):=by
 obtain ⟨U,h⟩:=h
 exact ⟨by rw [h.lw.cl]; rfl,h.xk,h.xv⟩
theorem Tt.cell2 (h : Tt w key val b t c d M N a W) : W.cell? ⟨b,2,none⟩ = some (mp M):=by obtain ⟨U,h⟩:=h; rw [h.lw.cl]; rfl
theorem Tt.bl (h : Tt w key val b t c d M N a W) : Below w.heap.size w W:=by obtain ⟨U,h⟩:=h; exact h.bl
theorem Tt.calls {f : FuncId} {args : Array Value} {r : Value} {g : AS -> AS} (h : Tt w key val b t c d M N a W) (hc : ∀ U,Tz U W t c d M N a -> Calls Tryz.prog f args W fun e w' => e = .returned r /\ TzTo U W w' t c d M N (g a)) : Calls Tryz.prog f args W fun e w' => e = .returned r /\ Tt w key val b t c d M N (g a) w':=by
 obtain ⟨U,h⟩:=h
 refine (hc U h.lw.tz).mono ?_
 rintro e w' ⟨rfl,z⟩
 exact ⟨rfl,h.to z⟩
theorem Tt.callsB {f : FuncId} {args : Array Value} {g : AS -> AS} (h : Tt w key val b t c d M N a W) (hc : ∀ U,Tz U W t c d M N a -> Calls Tryz.prog f args W fun e w' => ∃ r,e = .returned r /\ TzTo U W w' t c d M N (g a)) : Calls Tryz.prog f args W fun e w' => ∃ r,e = .returned r /\ Tt w key val b t c d M N (g a) w':=by
 obtain ⟨U,h⟩:=h
 refine (hc U h.lw.tz).mono ?_
 rintro e w' ⟨r,rfl,z⟩
 exact ⟨r,rfl,h.to z⟩
theorem Tt.fr (h : Tt w key val b t c d M N a W) : ∀ x,a.F x = true -> 50 <= x /\ x < (N : Int):=by obtain ⟨U,h⟩:=h; exact h.lw.tz.fr
theorem Tt.drew (h : Tt w key val b t c d M N a W) : Tt w key val b t c d M N a W.drew:=by obtain ⟨U,h⟩:=h; exact ⟨U,h.drew⟩
end
theorem treeTotal_walk (lv : Value) (zs : List (Int × Value)) (root kind : Int) (key val : ByteArray) (hroot : (Lit.int .i64 root).wf = true) (hkm : key.size <= 4611686018427387904) (hvm : val.size <= 4611686018427387904) (w : World) (hl : RdBk w lv zs) (hll : zs.length <= 4611686018427387904) :
  Calls Tryz.prog 8 #[lv,.int .i64 root,.agg #[.int .i64 kind,.string key,.string val]] w fun e w' => e = .returned (.bool true) /\ Below w.heap.size w w':=by
 obtain ⟨la,lc,rfl,l1,l2,hl⟩:=hl
 obtain ⟨L,hL⟩:=exH zs.length
 rw [hL.out] at hll l1 ⊢
 obtain ⟨W0,hW0⟩:=exN (w.alloc (.cells #[.int .i64 kind,.string key,.string val] 28))
 have b0 : Below w.heap.size w W0:=by rw [<- hW0]; exact za9 _ _
 have s0 : W0.heap.size = w.heap.size + 1:=by rw [<- hW0]; simp
 have x0 : W0.heap[w.heap.size]? = some (.cells #[.int .i64 kind,.string key,.string val] 28 (0,0)):=by rw [<- hW0]; exact heap_alloc_new w _
 have BG:=ziz9 20 (by decide) (by decide) W0
 rw [show ((20 : Nat) : Int) = 20 from rfl] at BG
 have HBG:=hideN BG
 have HB0:=hideN b0
 have HS0:=hideN s0
 have HX0:=hideN x0
 have HRD:=hideN hl
 have HRT:=hideN hroot
 have HKM:=hideN hkm
 have HVM:=hideN hvm
 have HLL:=hideN hll
 clear b0 s0 x0 BG hl hroot hkm hvm l2
 go_enter Tryz.func8,Tryz.ntmps8
 go_wp2_with fail
 refine HBG.out.mono ?_
 rintro e W1 ⟨U1,b,t,c,d,M,rfl,lw1,u1,bg1,bl1⟩
 have HT1 : Hid (Tt w key val b t c d M 70 (as0 20) W1):=by
  have hs:=HS0.out
  have x1 : W1.heap[w.heap.size]? = some (.cells #[.int .i64 kind,.string key,.string val] 28 (0,0)):=by rw [bl1.block w.heap.size (by omega)]; exact HX0.out
  exact ⟨U1,lw1,HB0.out.trans (bl1.mono HB0.out.size),fun k hk => by have:=u1 k hk; omega,by rw [cell_of_row W1 w.heap.size 1 _ _ (0,0) x1]; rfl,by rw [cell_of_row W1 w.heap.size 2 _ _ (0,0) x1]; rfl⟩
 clear lw1 u1 bg1 bl1 HBG
 go_wp2_with fail
 go_loopw [8] (fun iv wr => ∃ (i : Nat) (a : AS),i <= 20 /\ i <= L /\ iv = .int .i64 (i : Int) /\ Hid (Tt w key val b t c d M 70 a wr /\ a.A.as = 0)) (fun iv _ => 20 - (intOf iv).toNat)
 case atStart => exact ⟨0,as0 20,zn7 _,zn7 _,rfl,⟨HT1.out,rfl⟩⟩
 case round =>
  clear HT1
  obtain ⟨i,a,hi20,hiL,rfl,HI⟩:=hrel
  have hI:=HI.out
  by_cases h1 : i < L
  ·have d1 : decide ((i : Int) < (L : Int)) = true:=by rw [decide_eq_true_iff]; omega
   have d1' : decide (i < L) = true:=decide_eq_true h1
   by_cases h2 : i < 20
   ·have d2 : decide ((i : Int) < 20) = true:=by rw [decide_eq_true_iff]; omega
    have d2' : decide (i < 20) = true:=decide_eq_true h2
    have hz : zs ≠ []:=fun e => by have:=hL.out; rw [e] at this; simp at this; omega
    rcases HRD.out with e | ⟨lb,lo,hla,hc⟩
    ·exact absurd e hz
    subst hla
    obtain ⟨ck,cv,ys,ry,by_,oy⟩:=hc i (by rw [hL.out]; exact h1)
    obtain ⟨kd,hkd⟩:=exH ((zs.getD i (0,undef)).1)
    rw [hkd.out] at ck
    obtain ⟨bv,hbv⟩:=exN ((zs.getD i (0,undef)).2)
    rw [hbv] at cv ry oy
    have ry0:=ry
    obtain ⟨ya,yc,hya,_⟩:=ry
    obtain ⟨yl,hyl⟩:=exH ys.length
    rw [hyl.out] at hya
    subst hya
    obtain ⟨U,tt⟩:=hI.1
    have td:=tt.drew
    have ckd : wr.drew.cell? ⟨lb,lo + i * 2,none⟩ = some (.int .i64 kd):=by rw [td.bl.cell (World.block_lt_of_cell? w ⟨lb,lo + i * 2,none⟩ ck)]; exact ck
    have cvd : wr.drew.cell? ⟨lb,lo + i * 2 + 1,none⟩ = some (.slice ya yl yc):=by rw [td.bl.cell (World.block_lt_of_cell? w ⟨lb,lo + i * 2 + 1,none⟩ cv)]; exact cv
    have c1 : wr.drew.cell? ⟨b,1,none⟩ = some (cp c):=by rw [td.lw.cl]; rfl
    have HS7 : Hid (wr.drew.cell? ⟨b,1,none⟩ = some (cp c) /\ wr.drew.cell? ⟨lb,lo + i * 2,none⟩ = some (.int .i64 kd) /\ wr.drew.cell? ⟨lb,lo + i * 2 + 1,none⟩ = some (.slice ya yl yc)):=⟨c1,ckd,cvd⟩
    have lbl : lb < w.heap.size:=World.block_lt_of_cell? w ⟨lb,lo + i * 2,none⟩ ck
    have ry' : Rd .u8 wr.drew (.slice ya yl yc) ys:=ry0.below td.bl
    have PB:=tzPutB ((50 + i : Nat) : Int) kd (.slice ya yl yc) ys wr.drew td.lw.tz ry' by_ (fun j hj h0 e => by have:=oy j hj h0; have:=td.ug j e; omega)
    have HPB:=hideN PB
    have HTD:=hideN td
    have HS2 : Hid (∀ W2 V2,TzTo U wr.drew W2 t c d M 70 { a with V:=V2 } -> W2.cell? ⟨b,1,none⟩ = some (cp c) /\ W2.cell? ⟨lb,lo + i * 2,none⟩ = some (.int .i64 kd) /\ W2.cell? ⟨lb,lo + i * 2 + 1,none⟩ = some (.slice ya yl yc)):=fun W2 V2 hz => by
     obtain ⟨U2,l2,tt2,_⟩:=HTD.out.lw.to hz
     have nl : ¬ U lb:=fun e => by have:=HTD.out.ug _ e; omega
     exact ⟨by rw [l2.cl]; rfl,by rw [tt2.cell (p:=⟨lb,lo + i * 2,none⟩) (World.block_lt_of_cell? wr.drew ⟨lb,lo + i * 2,none⟩ HS7.out.2.1) nl]; exact HS7.out.2.1,by rw [tt2.cell (p:=⟨lb,lo + i * 2 + 1,none⟩) (World.block_lt_of_cell? wr.drew ⟨lb,lo + i * 2 + 1,none⟩ HS7.out.2.2) nl]; exact HS7.out.2.2⟩
    have i0 : (0 : Int) <= (i : Int):=by omega
    have i1 : (i : Int) < (L : Int):=by omega
    have hw1:=wk_nat (x:=(50 : Int) + (i : Int)) (t:=50 + i) (by omega) (by omega)
    have hw2:=zr9 (x:=(50 : Int) + (i : Int)) (t:=50 + i) (by omega) (by omega)
    have HAS:=hideN hI.2
    have H20 : Hid (i < 20 /\ i < L):=⟨h2,h1⟩
    clear hI tt td ckd cvd c1 lbl PB ck cv oy hc hz ry' ry0
    go_wp2_with fail
    have hS : wr.drew.cell? ⟨b,1,none⟩ = some (cp c) /\ wr.drew.cell? ⟨lb,lo + i * 2,none⟩ = some (.int .i64 kd) /\ wr.drew.cell? ⟨lb,lo + i * 2 + 1,none⟩ = some (.slice ya yl yc):=HS7.out
    refine wp_region_held (S:=fun w' => w'.cell? ⟨b,1,none⟩ = some (cp c) /\ w'.cell? ⟨lb,lo + i * 2,none⟩ = some (.int .i64 kd) /\ w'.cell? ⟨lb,lo + i * 2 + 1,none⟩ = some (.slice ya yl yc)) (by kernel_rfl) ?_
    refine tkT 0 (some 25) (.move (.tmp 7)) (Value.pointer (some ⟨b,0,none⟩)) (by rintro o ho w' ⟨z1,z2,z3⟩; go_simp) hS ?_
    simp only [Act.put,qa,qb,qc]
    refine tkT 1 (some 26) (.nilCheck (.tmp 25)) (Value.pointer (some ⟨b,0,none⟩)) (by rintro o ho w' ⟨z1,z2,z3⟩; go_simp) hS ?_
    simp only [Act.put,qa,qb,qc]
    refine tkT 2 (some 27) (.fieldAddr 37 (.tmp 26) 1) (Value.pointer (some ⟨b,1,none⟩)) (by rintro o ho w' ⟨z1,z2,z3⟩; go_simp) hS ?_
    simp only [Act.put,qa,qb,qc]
    refine tkT 3 (some 28) (.load 32 (.tmp 27)) (cp c) (by rintro o ho w' ⟨z1,z2,z3⟩; go_simp) hS ?_
    simp only [Act.put,qa,qb,qc]
    refine tkT 4 (some 29) (.move (.tmp 8)) (Value.int .i64 (i : Int)) (by rintro o ho w' ⟨z1,z2,z3⟩; go_simp) hS ?_
    simp only [Act.put,qa,qb,qc]
    refine tkT 5 (some 30) (.binOp .add 3 (.const (.int .i64 50)) (.tmp 29) 3) (Value.int .i64 ((50 + i : Nat) : Int)) (by rintro o ho w' ⟨z1,z2,z3⟩; go_simp) hS ?_
    simp only [Act.put,qa,qb,qc]
    refine tkT 6 (some 31) (.move (.tmp 0)) (Value.slice (some ⟨lb,lo,none⟩) L lc) (by rintro o ho w' ⟨z1,z2,z3⟩; go_simp) hS ?_
    simp only [Act.put,qa,qb,qc]
    refine tkT 7 (some 32) (.move (.tmp 8)) (Value.int .i64 (i : Int)) (by rintro o ho w' ⟨z1,z2,z3⟩; go_simp) hS ?_
    simp only [Act.put,qa,qb,qc]
    refine tkT 8 (some 33) (.indexAddr 67 (.tmp 31) (.tmp 32)) (Value.pointer (some ⟨lb,lo + i * 2,none⟩)) (by rintro o ho w' ⟨z1,z2,z3⟩; go_simp) hS ?_
    simp only [Act.put,qa,qb,qc]
    refine tkT 9 (some 34) (.load 71 (.tmp 33)) (blk kd (.slice ya yl yc)) ?hy hS ?_
    case hy =>
     rintro o ho w' ⟨z1,z2,z3⟩
     unfold blk
     go_simp
    simp only [Act.put,qa,qb,qc]
    refine rdT 10 (some 35) (.call { callee:=.value (.func 30),args:=#[.tmp 28,.tmp 30,.tmp 34],argTypes:=#[32,3,71] }) ?_
    rintro o K hd ho hg hK
    refine zc9 (enters_of Tryz.func30 (by kernel_rfl) rfl) ho (vs:=#[cp c,.int .i64 ((50 + i : Nat) : Int),blk kd (.slice ya yl yc)]) (by kernel_rfl) HPB.out ?_
    rintro e W2 ⟨ec,V2,rfl,t2⟩
    refine ⟨_,rfl,?_⟩
    have hS2:=HS2.out W2 V2 t2
    have HT2:=hideN t2
    rw [hd]
    refine hK _ _ hS2 ?_
    clear ho hd hg hK
    simp only [Act.put,qa,qb,qc]
    refine wpAnyH_done (by kernel_rfl) ?_ _
    have hM:=HTD.out.to HT2.out
    have MK : Calls Tryz.prog 31 #[mp M,.int .i64 ((50 + i : Nat) : Int)] W2 fun e w' => e = .returned (.bool (Ah.mrk ((50 + i : Nat) : Int) a.A).1) /\ Tt w key val b t c d M 70 { a with V:=V2,A:=(Ah.mrk ((50 + i : Nat) : Int) a.A).2 } w':=by
     obtain ⟨U3,h3⟩:=hM
     refine (tzMark ((50 + i : Nat) : Int) W2 h3.lw.tz).mono ?_
     rintro e w' ⟨rfl,z⟩
     exact ⟨rfl,h3.to z⟩
    have HMK:=hideN MK
    have k2:=hM.cell2
    clear MK hM hS2 HT2
    go_wp2_with fail
    refine HMK.out.mono ?_
    rintro e W3 ⟨rfl,t3⟩
    have HI3 : Hid (Tt w key val b t c d M 70 { a with V:=V2,A:=(Ah.mrk ((50 + i : Nat) : Int) a.A).2 } W3 /\ (Ah.mrk ((50 + i : Nat) : Int) a.A).2.as = 0):=⟨t3,by rw [mrk_as]; exact HAS.out⟩
    have v1:=wk_nat (x:=(i : Int) + 1) (t:=i + 1) (by clear hw1 hw2; omega) (by clear hw1 hw2; omega)
    have v2:=zr9 (x:=(i : Int) + 1) (t:=i + 1) (by clear hw1 hw2 v1; omega) (by clear hw1 hw2 v1; omega)
    clear t3 k2 HMK hw1 hw2
    go_wp2_with fail
    clear v1 v2
    have hx4:=H20.out
    first
     | exact ⟨⟨i + 1,_,by omega,by omega,by rfl,HI3⟩,by simp [intOf]; omega⟩
     | (go_roundw
        case rel => exact ⟨i + 1,_,by omega,by omega,by rfl,HI3⟩
        case measure => simp [intOf]; omega)
   ·have d2 : decide ((i : Int) < 20) = false:=by rw [zn4]; omega
    have d2' : decide (i < 20) = false:=decide_eq_false h2
    obtain ⟨rt,hrt⟩ : ∃ q : Nat,Hid (50 + pkT root 22 = q):=⟨_,rfl⟩
    have HRR : Hid (0 <= (rt : Int) /\ (rt : Int) <= 65535):=by
     have h3:=pkT_lt root (n:=22) (by decide)
     have h4:=hrt.out
     exact ⟨by omega,by omega⟩
    have PK:=zhc9 root 22 (by decide) (by decide) HRT.out wr
    rw [show ((22 : Nat) : Int) = 22 from rfl] at PK
    obtain ⟨pk,hpk⟩:=exH (pkT root 22)
    rw [hpk.out] at PK
    have HPK:=hideN PK
    have HWP : Hid (IntKind.i64.wrap ((50 : Int) + (pk : Int)) = (rt : Int) /\ wrap64 ((50 : Int) + (pk : Int)) = (rt : Int)):=by
     have h3:=hrt.out
     have h4:=HRR.out
     rw [hpk.out] at h3
     exact ⟨wk_nat (by omega) (by omega),zr9 (by omega) (by omega)⟩
    have Hwr:=hideN hI.1
    have HAS:=hideN hI.2
    clear PK hI
    go_wp2_with fail
    refine HPK.out.mono ?_
    rintro e W9 ⟨rfl,rfl⟩
    have hw1:=HWP.out.1
    have hw2:=HWP.out.2
    clear HPK
    have HW9:=Hwr
    have HW9d:=hideN Hwr.out.drew
    have CX:=HW9d.out.calls (g:=fun a => a) (fun U z => zcr9 (rt : Int) HRR.out key _ z)
    have HCX:=hideN CX
    clear CX
    go_wp2_with fail
    clear hw1 hw2
    have hS : W9.drew.cell? ⟨b,3,none⟩ = some (tp t) /\ W9.drew.cell? ⟨w.heap.size,1,none⟩ = some (.string key) /\ W9.drew.cell? ⟨w.heap.size,2,none⟩ = some (.string val):=HW9.out.cells
    refine wp_region_held (S:=fun w' => w'.cell? ⟨b,3,none⟩ = some (tp t) /\ w'.cell? ⟨w.heap.size,1,none⟩ = some (.string key) /\ w'.cell? ⟨w.heap.size,2,none⟩ = some (.string val)) (by kernel_rfl) ?_
    refine tkT 0 (some 46) (.move (.tmp 7)) (Value.pointer (some ⟨b,0,none⟩)) (by rintro o ho w' ⟨z1,z2,z3⟩; go_simp) hS ?_
    simp only [Act.put,qa,qb,qc]
    refine tkT 1 (some 47) (.nilCheck (.tmp 46)) (Value.pointer (some ⟨b,0,none⟩)) (by rintro o ho w' ⟨z1,z2,z3⟩; go_simp) hS ?_
    simp only [Act.put,qa,qb,qc]
    refine tkT 2 (some 48) (.fieldAddr 37 (.tmp 47) 3) (Value.pointer (some ⟨b,3,none⟩)) (by rintro o ho w' ⟨z1,z2,z3⟩; go_simp) hS ?_
    simp only [Act.put,qa,qb,qc]
    refine tkT 3 (some 49) (.load 34 (.tmp 48)) (tp t) (by rintro o ho w' ⟨z1,z2,z3⟩; go_simp) hS ?_
    simp only [Act.put,qa,qb,qc]
    refine tkT 4 (some 50) (.move (.tmp 1)) (Value.int .i64 rt) (by rintro o ho w' ⟨z1,z2,z3⟩; go_simp) hS ?_
    simp only [Act.put,qa,qb,qc]
    refine tkT 5 (some 51) (.fieldAddr 28 (.tmp 5) 1) (Value.pointer (some ⟨w.heap.size,1,none⟩)) (by rintro o ho w' ⟨z1,z2,z3⟩; go_simp) hS ?_
    simp only [Act.put,qa,qb,qc]
    refine tkT 6 (some 52) (.load 9 (.tmp 51)) (Value.string key) (by rintro o ho w' ⟨z1,z2,z3⟩; go_simp) hS ?_
    simp only [Act.put,qa,qb,qc]
    refine rdT 7 (some 53) (.call { callee:=.value (.func 12),args:=#[.tmp 49,.tmp 50,.tmp 52],argTypes:=#[34,3,9] }) ?_
    rintro o K hd ho hg hK
    refine zc9 (enters_of Tryz.func12 (by kernel_rfl) rfl) ho (vs:=#[tp t,.int .i64 (rt : Int),.string key]) (by kernel_rfl) HCX.out ?_
    rintro e WA ⟨rfl,t2⟩
    refine ⟨_,rfl,?_⟩
    have HWA:=hideN t2
    clear t2
    rw [hd]
    refine hK _ _ HWA.out.cells ?_
    clear ho hd hg hK
    simp only [Act.put,qa,qb,qc]
    refine wpAnyH_done (by kernel_rfl) ?_ _
    clear hS HCX
    have CX:=HWA.out.calls (g:=fun a => a) (fun U z => zkf9 (rt : Int) HRR.out _ z)
    have HCX:=hideN CX
    clear CX
    have k3:=HWA.out.cells.1
    go_wp2_with fail
    refine HCX.out.mono ?_
    rintro e WB ⟨rfl,t2⟩
    have HWB:=hideN t2
    clear t2 k3 HCX
    have HSC:=hideN (HWB.out.callsB (g:=fun a => a) (fun U z => (zhl9 (rt : Int) HRR.out ⟨#[]⟩ ⟨#[]⟩ 100 (by decide) WB z).mono (fun e w' ⟨v,U',he,_,q1,q2,q3,_⟩ => ⟨_,he,U',q1,q2,q3⟩)))
    have CX:=HSC.out
    have HCX:=hideN CX
    clear CX
    have k3:=HWB.out.cells.1
    go_wp2_with fail
    refine HCX.out.mono ?_
    rintro e WC ⟨r,rfl,t2⟩
    have HWC:=hideN t2
    clear t2 k3 HCX
    have CX:=HWC.out.callsB (g:=fun a => a) (fun U z => (zjb9 (rt : Int) HRR.out WC z).mono (fun e w' ⟨v,U',he,_,q1,q2,q3,_⟩ => ⟨_,he,U',q1,q2,q3⟩))
    have HCX:=hideN CX
    clear CX
    have k3:=HWC.out.cells.1
    go_wp2_with fail
    refine HCX.out.mono ?_
    rintro e WD ⟨r,rfl,t2⟩
    have HWD:=hideN t2
    clear t2 k3 HCX
    obtain ⟨aB,haB⟩ : ∃ q : AS,Hid ({ a with F:=fun _ => false } = q):=⟨_,rfl⟩
    have HBE:=hideN (HWD.out.calls (g:=fun a => { a with F:=fun _ => false }) (fun U z => (zgn9 WD z).mono (fun e w' ⟨he,q1,q2⟩ => ⟨he,U,q1,q2,fun _ e => .inl e⟩)))
    have CX:=HBE.out
    have HCX:=hideN CX
    clear CX
    have k3:=HWD.out.cells.1
    go_wp2_with fail
    refine HCX.out.mono ?_
    rintro e WE ⟨rfl,t2⟩
    have HWE:=hideN t2
    clear t2 k3 HCX
    have hwe:=HWE.out
    rw [haB.out] at hwe
    replace HWE:=hideN hwe
    clear hwe
    have HAA : Hid (aB.A = a.A):=by show _ = _; rw [<- haB.out]
    have HIB : Hid (Inw a.A aB):=by show Inw _ _; rw [<- haB.out]; exact zgu9 HAS.out
    have FR : Calls Tryz.prog 21 #[mp M] WE fun e w' => e = .returned (.int .i64 (Ah.fre a.A)) /\ Tt w key val b t c d M 70 aB w':=by
     obtain ⟨U,h⟩:=HWE.out
     refine (tzFree WE h.lw.tz).mono ?_
     rintro e w' ⟨rfl,q,rfl⟩
     exact ⟨by rw [HAA.out],U,h.below (belowN (zn6 _) q)⟩
    have HFR:=hideN FR
    obtain ⟨fr,hfr⟩:=exH (Ah.fre a.A)
    rw [hfr.out] at HFR
    have k2:=HWE.out.cell2
    clear FR
    go_wp2_with fail
    refine HFR.out.mono ?_
    rintro e WF ⟨rfl,t2⟩
    have HWF:=hideN t2
    clear t2 k2 HFR
    obtain ⟨pr,hpr⟩:=exH (putF aB (rt : Int) key val)
    have HIP : Hid (Inw a.A pr.a):=by show Inw _ _; rw [<- hpr.out]; exact HIB.out.put _ _ _
    have HPT:=hideN (HWF.out.drew.calls (g:=fun a => (putF a (rt : Int) key val).a) (fun U z => zfw9 (rt : Int) (by have:=HRR.out; exact zag9 (by omega) (by omega)) key val HKM.out HVM.out _ z))
    rw [hpr.out] at HPT
    obtain ⟨px,hpx⟩:=exH pr.x
    obtain ⟨pe,hpe⟩:=exH pr.e
    rw [hpx.out,hpe.out] at HPT
    have CX:=HPT.out
    have HCX:=hideN CX
    clear CX
    go_wp2_with fail
    have hS : WF.drew.cell? ⟨b,3,none⟩ = some (tp t) /\ WF.drew.cell? ⟨w.heap.size,1,none⟩ = some (.string key) /\ WF.drew.cell? ⟨w.heap.size,2,none⟩ = some (.string val):=HWF.out.cells
    refine wp_region_held (S:=fun w' => w'.cell? ⟨b,3,none⟩ = some (tp t) /\ w'.cell? ⟨w.heap.size,1,none⟩ = some (.string key) /\ w'.cell? ⟨w.heap.size,2,none⟩ = some (.string val)) (by kernel_rfl) ?_
    refine tkT 0 (some 82) (.move (.tmp 7)) (Value.pointer (some ⟨b,0,none⟩)) (by rintro o ho w' ⟨z1,z2,z3⟩; go_simp) hS ?_
    simp only [Act.put,qa,qb,qc]
    refine tkT 1 (some 83) (.nilCheck (.tmp 82)) (Value.pointer (some ⟨b,0,none⟩)) (by rintro o ho w' ⟨z1,z2,z3⟩; go_simp) hS ?_
    simp only [Act.put,qa,qb,qc]
    refine tkT 2 (some 84) (.fieldAddr 37 (.tmp 83) 3) (Value.pointer (some ⟨b,3,none⟩)) (by rintro o ho w' ⟨z1,z2,z3⟩; go_simp) hS ?_
    simp only [Act.put,qa,qb,qc]
    refine tkT 3 (some 85) (.load 34 (.tmp 84)) (tp t) (by rintro o ho w' ⟨z1,z2,z3⟩; go_simp) hS ?_
    simp only [Act.put,qa,qb,qc]
    refine tkT 4 (some 86) (.move (.tmp 1)) (Value.int .i64 rt) (by rintro o ho w' ⟨z1,z2,z3⟩; go_simp) hS ?_
    simp only [Act.put,qa,qb,qc]
    refine tkT 5 (some 87) (.fieldAddr 28 (.tmp 5) 1) (Value.pointer (some ⟨w.heap.size,1,none⟩)) (by rintro o ho w' ⟨z1,z2,z3⟩; go_simp) hS ?_
    simp only [Act.put,qa,qb,qc]
    refine tkT 6 (some 88) (.load 9 (.tmp 87)) (Value.string key) (by rintro o ho w' ⟨z1,z2,z3⟩; go_simp) hS ?_
    simp only [Act.put,qa,qb,qc]
    refine tkT 7 (some 89) (.fieldAddr 28 (.tmp 5) 2) (Value.pointer (some ⟨w.heap.size,2,none⟩)) (by rintro o ho w' ⟨z1,z2,z3⟩; go_simp) hS ?_
    simp only [Act.put,qa,qb,qc]
    refine tkT 8 (some 90) (.load 9 (.tmp 89)) (Value.string val) (by rintro o ho w' ⟨z1,z2,z3⟩; go_simp) hS ?_
    simp only [Act.put,qa,qb,qc]
    refine rdT 9 (some 91) (.call { callee:=.value (.func 23),args:=#[.tmp 85,.tmp 86,.tmp 88,.tmp 90],argTypes:=#[34,3,9,9] }) ?_
    rintro o K hd ho hg hK
    refine zc9 (enters_of Tryz.func23 (by kernel_rfl) rfl) ho (vs:=#[tp t,.int .i64 (rt : Int),.string key,.string val]) (by kernel_rfl) HCX.out ?_
    rintro e WG ⟨rfl,t2⟩
    refine ⟨_,rfl,?_⟩
    have HWG:=hideN t2
    clear t2
    rw [hd]
    refine hK _ _ HWG.out.cells ?_
    clear ho hd hg hK
    simp only [Act.put,qa,qb,qc]
    refine wpAnyH_done (by kernel_rfl) ?_ _
    clear hS HCX
    obtain ⟨dr,hdr⟩:=exH (delF pr.a (rt : Int) key)
    have HID : Hid (Inw a.A dr.a):=by show Inw _ _; rw [<- hdr.out]; exact HIP.out.del _ _
    have HDT:=hideN (HWG.out.drew.calls (g:=fun a => (delF a (rt : Int) key).a) (fun U z => zjg9 (rt : Int) HRR.out key _ z))
    rw [hdr.out] at HDT
    obtain ⟨dx,hdx⟩:=exH dr.x
    obtain ⟨dok,hdok⟩:=exH dr.ok
    obtain ⟨de,hde⟩:=exH dr.e
    rw [hdx.out,hdok.out,hde.out] at HDT
    have CX:=HDT.out
    have HCX:=hideN CX
    clear CX
    go_wp2_with fail
    have hS : WG.drew.cell? ⟨b,3,none⟩ = some (tp t) /\ WG.drew.cell? ⟨w.heap.size,1,none⟩ = some (.string key) /\ WG.drew.cell? ⟨w.heap.size,2,none⟩ = some (.string val):=HWG.out.cells
    refine wp_region_held (S:=fun w' => w'.cell? ⟨b,3,none⟩ = some (tp t) /\ w'.cell? ⟨w.heap.size,1,none⟩ = some (.string key) /\ w'.cell? ⟨w.heap.size,2,none⟩ = some (.string val)) (by kernel_rfl) ?_
    refine tkT 0 (some 92) (.move (.tmp 7)) (Value.pointer (some ⟨b,0,none⟩)) (by rintro o ho w' ⟨z1,z2,z3⟩; go_simp) hS ?_
    simp only [Act.put,qa,qb,qc]
    refine tkT 1 (some 93) (.nilCheck (.tmp 92)) (Value.pointer (some ⟨b,0,none⟩)) (by rintro o ho w' ⟨z1,z2,z3⟩; go_simp) hS ?_
    simp only [Act.put,qa,qb,qc]
    refine tkT 2 (some 94) (.fieldAddr 37 (.tmp 93) 3) (Value.pointer (some ⟨b,3,none⟩)) (by rintro o ho w' ⟨z1,z2,z3⟩; go_simp) hS ?_
    simp only [Act.put,qa,qb,qc]
    refine tkT 3 (some 95) (.load 34 (.tmp 94)) (tp t) (by rintro o ho w' ⟨z1,z2,z3⟩; go_simp) hS ?_
    simp only [Act.put,qa,qb,qc]
    refine tkT 4 (some 96) (.move (.tmp 1)) (Value.int .i64 rt) (by rintro o ho w' ⟨z1,z2,z3⟩; go_simp) hS ?_
    simp only [Act.put,qa,qb,qc]
    refine tkT 5 (some 97) (.fieldAddr 28 (.tmp 5) 1) (Value.pointer (some ⟨w.heap.size,1,none⟩)) (by rintro o ho w' ⟨z1,z2,z3⟩; go_simp) hS ?_
    simp only [Act.put,qa,qb,qc]
    refine tkT 6 (some 98) (.load 9 (.tmp 97)) (Value.string key) (by rintro o ho w' ⟨z1,z2,z3⟩; go_simp) hS ?_
    simp only [Act.put,qa,qb,qc]
    refine rdT 7 (some 99) (.call { callee:=.value (.func 24),args:=#[.tmp 95,.tmp 96,.tmp 98],argTypes:=#[34,3,9] }) ?_
    rintro o K hd ho hg hK
    refine zc9 (enters_of Tryz.func24 (by kernel_rfl) rfl) ho (vs:=#[tp t,.int .i64 (rt : Int),.string key]) (by kernel_rfl) HCX.out ?_
    rintro e WH ⟨rfl,t2⟩
    refine ⟨_,rfl,?_⟩
    have HWH:=hideN t2
    clear t2
    rw [hd]
    refine hK _ _ HWH.out.cells ?_
    clear ho hd hg hK
    simp only [Act.put,qa,qb,qc]
    refine wpAnyH_done (by kernel_rfl) ?_ _
    clear hS HCX
    obtain ⟨aU,haU⟩ : ∃ q : AS,Hid (dr.a.gos (freshL 70 dr.a.F) = q):=⟨_,rfl⟩
    have HUA : Hid (aU.A = a.A):=by show _ = _; rw [<- haU.out]; exact HID.out.undo HWH.out.fr HAS.out
    have HUN:=hideN (HWH.out.calls (g:=fun a => a.gos (freshL 70 a.F)) (fun U z => zlp9 WH z))
    rw [haU.out] at HUN
    have CX:=HUN.out
    have HCX:=hideN CX
    clear CX
    have k3:=HWH.out.cells.1
    go_wp2_with fail
    refine HCX.out.mono ?_
    rintro e WI ⟨rfl,t2⟩
    have HWI:=hideN t2
    clear t2 k3 HCX
    have HNN:=hideN (zkk9 WI)
    go_wp2_with fail
    refine HNN.out.mono ?_
    rintro e WJ ⟨rfl,rfl⟩
    clear HNN
    have FR : Calls Tryz.prog 21 #[mp M] WJ fun e w' => e = .returned (.int .i64 fr) /\ Tt w key val b t c d M 70 aU w':=by
     obtain ⟨U,h⟩:=HWI.out
     refine (tzFree WJ h.lw.tz).mono ?_
     rintro e w' ⟨rfl,q,rfl⟩
     exact ⟨by rw [HUA.out,hfr.out],U,h.below (belowN (zn6 _) q)⟩
    have HFR:=hideN FR
    have k2:=HWI.out.cell2
    clear FR
    go_wp2_with fail
    refine HFR.out.mono ?_
    rintro e WK ⟨rfl,t2⟩
    have HBK:=hideN t2.bl
    have HLI:=hideN (zfe9 WK)
    clear t2 k2 HFR
    go_wp2_with fail
    refine HLI.out.mono ?_
    rintro e WL ⟨rfl,bL⟩
    have HBF : Hid (Below w.heap.size w WL):=HBK.out.trans (bL.mono HBK.out.size)
    clear bL HLI
    go_wp2_with fail
    go_ret
    exact ⟨by first | rfl | simp,HBF.out⟩
  ·have d1 : decide ((i : Int) < (L : Int)) = false:=by rw [zn4]; omega
   have d1' : decide (i < L) = false:=decide_eq_false h1
   obtain ⟨rt,hrt⟩ : ∃ q : Nat,Hid (50 + pkT root 22 = q):=⟨_,rfl⟩
   have HRR : Hid (0 <= (rt : Int) /\ (rt : Int) <= 65535):=by
    have h3:=pkT_lt root (n:=22) (by decide)
    have h4:=hrt.out
    exact ⟨by omega,by omega⟩
   have PK:=zhc9 root 22 (by decide) (by decide) HRT.out wr
   rw [show ((22 : Nat) : Int) = 22 from rfl] at PK
   obtain ⟨pk,hpk⟩:=exH (pkT root 22)
   rw [hpk.out] at PK
   have HPK:=hideN PK
   have HWP : Hid (IntKind.i64.wrap ((50 : Int) + (pk : Int)) = (rt : Int) /\ wrap64 ((50 : Int) + (pk : Int)) = (rt : Int)):=by
    have h3:=hrt.out
    have h4:=HRR.out
    rw [hpk.out] at h3
    exact ⟨wk_nat (by omega) (by omega),zr9 (by omega) (by omega)⟩
   have Hwr:=hideN hI.1
   have HAS:=hideN hI.2
   clear PK hI
   go_wp2_with fail
   refine HPK.out.mono ?_
   rintro e W9 ⟨rfl,rfl⟩
   have hw1:=HWP.out.1
   have hw2:=HWP.out.2
   clear HPK
   have HW9:=Hwr
   have HW9d:=hideN Hwr.out.drew
   have CX:=HW9d.out.calls (g:=fun a => a) (fun U z => zcr9 (rt : Int) HRR.out key _ z)
   have HCX:=hideN CX
   clear CX
   go_wp2_with fail
   clear hw1 hw2
   have hS : W9.drew.cell? ⟨b,3,none⟩ = some (tp t) /\ W9.drew.cell? ⟨w.heap.size,1,none⟩ = some (.string key) /\ W9.drew.cell? ⟨w.heap.size,2,none⟩ = some (.string val):=HW9.out.cells
   refine wp_region_held (S:=fun w' => w'.cell? ⟨b,3,none⟩ = some (tp t) /\ w'.cell? ⟨w.heap.size,1,none⟩ = some (.string key) /\ w'.cell? ⟨w.heap.size,2,none⟩ = some (.string val)) (by kernel_rfl) ?_
   refine tkT 0 (some 46) (.move (.tmp 7)) (Value.pointer (some ⟨b,0,none⟩)) (by rintro o ho w' ⟨z1,z2,z3⟩; go_simp) hS ?_
   simp only [Act.put,qa,qb,qc]
   refine tkT 1 (some 47) (.nilCheck (.tmp 46)) (Value.pointer (some ⟨b,0,none⟩)) (by rintro o ho w' ⟨z1,z2,z3⟩; go_simp) hS ?_
   simp only [Act.put,qa,qb,qc]
   refine tkT 2 (some 48) (.fieldAddr 37 (.tmp 47) 3) (Value.pointer (some ⟨b,3,none⟩)) (by rintro o ho w' ⟨z1,z2,z3⟩; go_simp) hS ?_
   simp only [Act.put,qa,qb,qc]
   refine tkT 3 (some 49) (.load 34 (.tmp 48)) (tp t) (by rintro o ho w' ⟨z1,z2,z3⟩; go_simp) hS ?_
   simp only [Act.put,qa,qb,qc]
   refine tkT 4 (some 50) (.move (.tmp 1)) (Value.int .i64 rt) (by rintro o ho w' ⟨z1,z2,z3⟩; go_simp) hS ?_
   simp only [Act.put,qa,qb,qc]
   refine tkT 5 (some 51) (.fieldAddr 28 (.tmp 5) 1) (Value.pointer (some ⟨w.heap.size,1,none⟩)) (by rintro o ho w' ⟨z1,z2,z3⟩; go_simp) hS ?_
   simp only [Act.put,qa,qb,qc]
   refine tkT 6 (some 52) (.load 9 (.tmp 51)) (Value.string key) (by rintro o ho w' ⟨z1,z2,z3⟩; go_simp) hS ?_
   simp only [Act.put,qa,qb,qc]
   refine rdT 7 (some 53) (.call { callee:=.value (.func 12),args:=#[.tmp 49,.tmp 50,.tmp 52],argTypes:=#[34,3,9] }) ?_
   rintro o K hd ho hg hK
   refine zc9 (enters_of Tryz.func12 (by kernel_rfl) rfl) ho (vs:=#[tp t,.int .i64 (rt : Int),.string key]) (by kernel_rfl) HCX.out ?_
   rintro e WA ⟨rfl,t2⟩
   refine ⟨_,rfl,?_⟩
   have HWA:=hideN t2
   clear t2
   rw [hd]
   refine hK _ _ HWA.out.cells ?_
   clear ho hd hg hK
   simp only [Act.put,qa,qb,qc]
   refine wpAnyH_done (by kernel_rfl) ?_ _
   clear hS HCX
   have CX:=HWA.out.calls (g:=fun a => a) (fun U z => zkf9 (rt : Int) HRR.out _ z)
   have HCX:=hideN CX
   clear CX
   have k3:=HWA.out.cells.1
   go_wp2_with fail
   refine HCX.out.mono ?_
   rintro e WB ⟨rfl,t2⟩
   have HWB:=hideN t2
   clear t2 k3 HCX
   have HSC:=hideN (HWB.out.callsB (g:=fun a => a) (fun U z => (zhl9 (rt : Int) HRR.out ⟨#[]⟩ ⟨#[]⟩ 100 (by decide) WB z).mono (fun e w' ⟨v,U',he,_,q1,q2,q3,_⟩ => ⟨_,he,U',q1,q2,q3⟩)))
   have CX:=HSC.out
   have HCX:=hideN CX
   clear CX
   have k3:=HWB.out.cells.1
   go_wp2_with fail
   refine HCX.out.mono ?_
   rintro e WC ⟨r,rfl,t2⟩
   have HWC:=hideN t2
   clear t2 k3 HCX
   have CX:=HWC.out.callsB (g:=fun a => a) (fun U z => (zjb9 (rt : Int) HRR.out WC z).mono (fun e w' ⟨v,U',he,_,q1,q2,q3,_⟩ => ⟨_,he,U',q1,q2,q3⟩))
   have HCX:=hideN CX
   clear CX
   have k3:=HWC.out.cells.1
   go_wp2_with fail
   refine HCX.out.mono ?_
   rintro e WD ⟨r,rfl,t2⟩
   have HWD:=hideN t2
   clear t2 k3 HCX
   obtain ⟨aB,haB⟩ : ∃ q : AS,Hid ({ a with F:=fun _ => false } = q):=⟨_,rfl⟩
   have HBE:=hideN (HWD.out.calls (g:=fun a => { a with F:=fun _ => false }) (fun U z => (zgn9 WD z).mono (fun e w' ⟨he,q1,q2⟩ => ⟨he,U,q1,q2,fun _ e => .inl e⟩)))
   have CX:=HBE.out
   have HCX:=hideN CX
   clear CX
   have k3:=HWD.out.cells.1
   go_wp2_with fail
   refine HCX.out.mono ?_
   rintro e WE ⟨rfl,t2⟩
   have HWE:=hideN t2
   clear t2 k3 HCX
   have hwe:=HWE.out
   rw [haB.out] at hwe
   replace HWE:=hideN hwe
   clear hwe
   have HAA : Hid (aB.A = a.A):=by show _ = _; rw [<- haB.out]
   have HIB : Hid (Inw a.A aB):=by show Inw _ _; rw [<- haB.out]; exact zgu9 HAS.out
   have FR : Calls Tryz.prog 21 #[mp M] WE fun e w' => e = .returned (.int .i64 (Ah.fre a.A)) /\ Tt w key val b t c d M 70 aB w':=by
    obtain ⟨U,h⟩:=HWE.out
    refine (tzFree WE h.lw.tz).mono ?_
    rintro e w' ⟨rfl,q,rfl⟩
    exact ⟨by rw [HAA.out],U,h.below (belowN (zn6 _) q)⟩
   have HFR:=hideN FR
   obtain ⟨fr,hfr⟩:=exH (Ah.fre a.A)
   rw [hfr.out] at HFR
   have k2:=HWE.out.cell2
   clear FR
   go_wp2_with fail
   refine HFR.out.mono ?_
   rintro e WF ⟨rfl,t2⟩
   have HWF:=hideN t2
   clear t2 k2 HFR
   obtain ⟨pr,hpr⟩:=exH (putF aB (rt : Int) key val)
   have HIP : Hid (Inw a.A pr.a):=by show Inw _ _; rw [<- hpr.out]; exact HIB.out.put _ _ _
   have HPT:=hideN (HWF.out.drew.calls (g:=fun a => (putF a (rt : Int) key val).a) (fun U z => zfw9 (rt : Int) (by have:=HRR.out; exact zag9 (by omega) (by omega)) key val HKM.out HVM.out _ z))
   rw [hpr.out] at HPT
   obtain ⟨px,hpx⟩:=exH pr.x
   obtain ⟨pe,hpe⟩:=exH pr.e
   rw [hpx.out,hpe.out] at HPT
   have CX:=HPT.out
   have HCX:=hideN CX
   clear CX
   go_wp2_with fail
   have hS : WF.drew.cell? ⟨b,3,none⟩ = some (tp t) /\ WF.drew.cell? ⟨w.heap.size,1,none⟩ = some (.string key) /\ WF.drew.cell? ⟨w.heap.size,2,none⟩ = some (.string val):=HWF.out.cells
   refine wp_region_held (S:=fun w' => w'.cell? ⟨b,3,none⟩ = some (tp t) /\ w'.cell? ⟨w.heap.size,1,none⟩ = some (.string key) /\ w'.cell? ⟨w.heap.size,2,none⟩ = some (.string val)) (by kernel_rfl) ?_
   refine tkT 0 (some 82) (.move (.tmp 7)) (Value.pointer (some ⟨b,0,none⟩)) (by rintro o ho w' ⟨z1,z2,z3⟩; go_simp) hS ?_
   simp only [Act.put,qa,qb,qc]
   refine tkT 1 (some 83) (.nilCheck (.tmp 82)) (Value.pointer (some ⟨b,0,none⟩)) (by rintro o ho w' ⟨z1,z2,z3⟩; go_simp) hS ?_
   simp only [Act.put,qa,qb,qc]
   refine tkT 2 (some 84) (.fieldAddr 37 (.tmp 83) 3) (Value.pointer (some ⟨b,3,none⟩)) (by rintro o ho w' ⟨z1,z2,z3⟩; go_simp) hS ?_
   simp only [Act.put,qa,qb,qc]
   refine tkT 3 (some 85) (.load 34 (.tmp 84)) (tp t) (by rintro o ho w' ⟨z1,z2,z3⟩; go_simp) hS ?_
   simp only [Act.put,qa,qb,qc]
   refine tkT 4 (some 86) (.move (.tmp 1)) (Value.int .i64 rt) (by rintro o ho w' ⟨z1,z2,z3⟩; go_simp) hS ?_
   simp only [Act.put,qa,qb,qc]
   refine tkT 5 (some 87) (.fieldAddr 28 (.tmp 5) 1) (Value.pointer (some ⟨w.heap.size,1,none⟩)) (by rintro o ho w' ⟨z1,z2,z3⟩; go_simp) hS ?_
   simp only [Act.put,qa,qb,qc]
   refine tkT 6 (some 88) (.load 9 (.tmp 87)) (Value.string key) (by rintro o ho w' ⟨z1,z2,z3⟩; go_simp) hS ?_
   simp only [Act.put,qa,qb,qc]
   refine tkT 7 (some 89) (.fieldAddr 28 (.tmp 5) 2) (Value.pointer (some ⟨w.heap.size,2,none⟩)) (by rintro o ho w' ⟨z1,z2,z3⟩; go_simp) hS ?_
   simp only [Act.put,qa,qb,qc]
   refine tkT 8 (some 90) (.load 9 (.tmp 89)) (Value.string val) (by rintro o ho w' ⟨z1,z2,z3⟩; go_simp) hS ?_
   simp only [Act.put,qa,qb,qc]
   refine rdT 9 (some 91) (.call { callee:=.value (.func 23),args:=#[.tmp 85,.tmp 86,.tmp 88,.tmp 90],argTypes:=#[34,3,9,9] }) ?_
   rintro o K hd ho hg hK
   refine zc9 (enters_of Tryz.func23 (by kernel_rfl) rfl) ho (vs:=#[tp t,.int .i64 (rt : Int),.string key,.string val]) (by kernel_rfl) HCX.out ?_
   rintro e WG ⟨rfl,t2⟩
   refine ⟨_,rfl,?_⟩
   have HWG:=hideN t2
   clear t2
   rw [hd]
   refine hK _ _ HWG.out.cells ?_
   clear ho hd hg hK
   simp only [Act.put,qa,qb,qc]
   refine wpAnyH_done (by kernel_rfl) ?_ _
   clear hS HCX
   obtain ⟨dr,hdr⟩:=exH (delF pr.a (rt : Int) key)
   have HID : Hid (Inw a.A dr.a):=by show Inw _ _; rw [<- hdr.out]; exact HIP.out.del _ _
   have HDT:=hideN (HWG.out.drew.calls (g:=fun a => (delF a (rt : Int) key).a) (fun U z => zjg9 (rt : Int) HRR.out key _ z))
   rw [hdr.out] at HDT
   obtain ⟨dx,hdx⟩:=exH dr.x
   obtain ⟨dok,hdok⟩:=exH dr.ok
   obtain ⟨de,hde⟩:=exH dr.e
   rw [hdx.out,hdok.out,hde.out] at HDT
   have CX:=HDT.out
   have HCX:=hideN CX
   clear CX
   go_wp2_with fail
   have hS : WG.drew.cell? ⟨b,3,none⟩ = some (tp t) /\ WG.drew.cell? ⟨w.heap.size,1,none⟩ = some (.string key) /\ WG.drew.cell? ⟨w.heap.size,2,none⟩ = some (.string val):=HWG.out.cells
   refine wp_region_held (S:=fun w' => w'.cell? ⟨b,3,none⟩ = some (tp t) /\ w'.cell? ⟨w.heap.size,1,none⟩ = some (.string key) /\ w'.cell? ⟨w.heap.size,2,none⟩ = some (.string val)) (by kernel_rfl) ?_
   refine tkT 0 (some 92) (.move (.tmp 7)) (Value.pointer (some ⟨b,0,none⟩)) (by rintro o ho w' ⟨z1,z2,z3⟩; go_simp) hS ?_
   simp only [Act.put,qa,qb,qc]
   refine tkT 1 (some 93) (.nilCheck (.tmp 92)) (Value.pointer (some ⟨b,0,none⟩)) (by rintro o ho w' ⟨z1,z2,z3⟩; go_simp) hS ?_
   simp only [Act.put,qa,qb,qc]
   refine tkT 2 (some 94) (.fieldAddr 37 (.tmp 93) 3) (Value.pointer (some ⟨b,3,none⟩)) (by rintro o ho w' ⟨z1,z2,z3⟩; go_simp) hS ?_
   simp only [Act.put,qa,qb,qc]
   refine tkT 3 (some 95) (.load 34 (.tmp 94)) (tp t) (by rintro o ho w' ⟨z1,z2,z3⟩; go_simp) hS ?_
   simp only [Act.put,qa,qb,qc]
   refine tkT 4 (some 96) (.move (.tmp 1)) (Value.int .i64 rt) (by rintro o ho w' ⟨z1,z2,z3⟩; go_simp) hS ?_
   simp only [Act.put,qa,qb,qc]
   refine tkT 5 (some 97) (.fieldAddr 28 (.tmp 5) 1) (Value.pointer (some ⟨w.heap.size,1,none⟩)) (by rintro o ho w' ⟨z1,z2,z3⟩; go_simp) hS ?_
   simp only [Act.put,qa,qb,qc]
   refine tkT 6 (some 98) (.load 9 (.tmp 97)) (Value.string key) (by rintro o ho w' ⟨z1,z2,z3⟩; go_simp) hS ?_
   simp only [Act.put,qa,qb,qc]
   refine rdT 7 (some 99) (.call { callee:=.value (.func 24),args:=#[.tmp 95,.tmp 96,.tmp 98],argTypes:=#[34,3,9] }) ?_
   rintro o K hd ho hg hK
   refine zc9 (enters_of Tryz.func24 (by kernel_rfl) rfl) ho (vs:=#[tp t,.int .i64 (rt : Int),.string key]) (by kernel_rfl) HCX.out ?_
   rintro e WH ⟨rfl,t2⟩
   refine ⟨_,rfl,?_⟩
   have HWH:=hideN t2
   clear t2
   rw [hd]
   refine hK _ _ HWH.out.cells ?_
   clear ho hd hg hK
   simp only [Act.put,qa,qb,qc]
   refine wpAnyH_done (by kernel_rfl) ?_ _
   clear hS HCX
   obtain ⟨aU,haU⟩ : ∃ q : AS,Hid (dr.a.gos (freshL 70 dr.a.F) = q):=⟨_,rfl⟩
   have HUA : Hid (aU.A = a.A):=by show _ = _; rw [<- haU.out]; exact HID.out.undo HWH.out.fr HAS.out
   have HUN:=hideN (HWH.out.calls (g:=fun a => a.gos (freshL 70 a.F)) (fun U z => zlp9 WH z))
   rw [haU.out] at HUN
   have CX:=HUN.out
   have HCX:=hideN CX
   clear CX
   have k3:=HWH.out.cells.1
   go_wp2_with fail
   refine HCX.out.mono ?_
   rintro e WI ⟨rfl,t2⟩
   have HWI:=hideN t2
   clear t2 k3 HCX
   have HNN:=hideN (zkk9 WI)
   go_wp2_with fail
   refine HNN.out.mono ?_
   rintro e WJ ⟨rfl,rfl⟩
   clear HNN
   have FR : Calls Tryz.prog 21 #[mp M] WJ fun e w' => e = .returned (.int .i64 fr) /\ Tt w key val b t c d M 70 aU w':=by
    obtain ⟨U,h⟩:=HWI.out
    refine (tzFree WJ h.lw.tz).mono ?_
    rintro e w' ⟨rfl,q,rfl⟩
    exact ⟨by rw [HUA.out,hfr.out],U,h.below (belowN (zn6 _) q)⟩
   have HFR:=hideN FR
   have k2:=HWI.out.cell2
   clear FR
   go_wp2_with fail
   refine HFR.out.mono ?_
   rintro e WK ⟨rfl,t2⟩
   have HBK:=hideN t2.bl
   have HLI:=hideN (zfe9 WK)
   clear t2 k2 HFR
   go_wp2_with fail
   refine HLI.out.mono ?_
   rintro e WL ⟨rfl,bL⟩
   have HBF : Hid (Below w.heap.size w WL):=HBK.out.trans (bL.mono HBK.out.size)
   clear bL HLI
   go_wp2_with fail
   go_ret
   exact ⟨by first | rfl | simp,HBF.out⟩
end Go.Proofs.YtcbnmjgbnbokgaaGreat
