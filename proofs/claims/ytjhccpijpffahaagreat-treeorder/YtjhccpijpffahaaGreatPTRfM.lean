import Derived.Test.YtjhccpijpffahaaGreatPTEnt
import Derived.Test.YtjhccpijpffahaaGreatPTRow
import Derived.Test.YtjhccpijpffahaaGreatPTSf
import Derived.Laws.Cover1
import Derived.Test.YtjhccpijpffahaaGreatPTPl
import Derived.Laws.StructEq
import Derived.ChangeKeysEq
import Derived.Deep.QuietTactic
set_option maxRecDepth 100000
set_option linter.unusedVariables false
set_option linter.unusedSimpArgs false
set_option maxHeartbeats 8000000
namespace Go.Proofs.YtjhccpijpffahaaGreat
open Go.RowKit Pl
def mayE (key val : ByteArray) : Bool:=!eqs key eS && (decide (key.size <= 24) && decide (val.size <= 24))
theorem zbu9 {key val : ByteArray} : mayE key val = true ↔ key ≠ eS /\ key.size <= 24 /\ val.size <= 24:=by
 unfold mayE
 rw [Bool.and_eq_true,Bool.and_eq_true,decide_eq_true_iff,decide_eq_true_iff,Bool.not_eq_true']
 constructor
 ·rintro ⟨h,h2⟩; exact ⟨fun e => (by rw [eqsP.2 e] at h; cases h),h2⟩
 ·rintro ⟨h,h2⟩; exact ⟨eqs_ne h,h2⟩
theorem zqi9 (key val : ByteArray) (hkm : key.size <= 4611686018427387904) (hvm : val.size <= 4611686018427387904) (w : World) :
  Calls Tryz.prog 31 #[.string key,.string val] w fun e w' => e = .returned (.bool (mayE key val)) /\ w' = w:=by
 obtain ⟨em,hem⟩:=exN key.toList.isEmpty
 have hes : eqs key eS = em:=by rw [<- hem]; unfold eqs eS; simp
 obtain ⟨m,hm⟩:=exH (mayE key val)
 have HM : Hid (m = (!em && (decide (key.size <= 24) && decide (val.size <= 24)))):=by show _ = _; rw [<- hm.out]; unfold mayE; rw [hes]
 rw [hm.out]
 clear hm hes
 go_enter Tryz.func31,Tryz.ntmps31
 cases em with
 | true =>
  obtain rfl : m = false:=by rw [HM.out]; rfl
  clear HM
  go_wp2_with fail
  go_ret
  exact ⟨rfl,rfl⟩
 | false =>
  by_cases q1 : key.size <= 24
  ·have l1 : decide ((key.size : Int) <= 24) = true:=by rw [decide_eq_true_iff]; omega
   have l1' : decide (key.size <= 24) = true:=decide_eq_true q1
   by_cases q2 : val.size <= 24
   ·have l2 : decide ((val.size : Int) <= 24) = true:=by rw [decide_eq_true_iff]; omega
    have l2' : decide (val.size <= 24) = true:=decide_eq_true q2
    obtain rfl : m = true:=by rw [HM.out,l1',l2']; rfl
    clear HM
    go_wp2_with fail
    go_ret
    exact ⟨rfl,rfl⟩
   ·have l2 : decide ((val.size : Int) <= 24) = false:=by rw [zn4]; omega
    have l2' : decide (val.size <= 24) = false:=decide_eq_false q2
    obtain rfl : m = false:=by rw [HM.out,l1',l2']; rfl
    clear HM
    go_wp2_with fail
    go_ret
    exact ⟨rfl,rfl⟩
  ·have l1 : decide ((key.size : Int) <= 24) = false:=by rw [zn4]; omega
   have l1' : decide (key.size <= 24) = false:=decide_eq_false q1
   obtain rfl : m = false:=by rw [HM.out,l1']; rfl
   clear HM
   go_wp2_with fail
   go_ret
   exact ⟨rfl,rfl⟩
theorem fnd_at {key : ByteArray} {ps : List E2} {k : Nat} (hk : k < ps.length) (hn : ∀ i,i < k -> eqs (ps.getD i eZ).1 key = false) (he : eqs (ps.getD k eZ).1 key = true) : fndE key ps = ((ps.getD k eZ).2,true):=by
 unfold fndE
 have : ps.find? (fun e => eqs e.1 key) = some (ps.getD k eZ):=by
  rw [List.find?_eq_some_iff_getElem]
  refine ⟨he,k,hk,by rw [zn3,List.getElem?_eq_getElem hk]; rfl,fun j hj => ?_⟩
  have:=hn j hj
  rw [zn3,List.getElem?_eq_getElem (by omega)] at this
  simpa using this
 rw [this]
theorem zpm9 {key : ByteArray} {ps : List E2} (hn : ∀ i,i < ps.length -> eqs (ps.getD i eZ).1 key = false) : fndE key ps = (eS,false):=by
 unfold fndE
 have : ps.find? (fun e => eqs e.1 key) = none:=by
  rw [List.find?_eq_none]
  intro e he
  obtain ⟨i,hi,rfl⟩:=List.getElem_of_mem he
  have:=hn i hi
  rw [zn3,List.getElem?_eq_getElem hi] at this
  simpa using this
 rw [this]
theorem zip9 (v : Value) (ps : List E2) (key : ByteArray) (w : World) (h : RdE w v ps) (hll : ps.length <= 1000000) :
  Calls Tryz.prog 13 #[v,.string key] w fun e w' => e = .returned (.tuple #[.string (fndE key ps).1,.bool (fndE key ps).2]) /\ w' = w:=by
 obtain ⟨a,cap,rfl,l1,l2,l3⟩:=h.len
 have H:=hideN h
 obtain ⟨L,hL⟩:=exH ps.length
 rw [hL.out] at H l1 hll ⊢
 obtain ⟨r,hr⟩:=exH (fndE key ps)
 rw [hr.out]
 have hL63 : (L : Int) <= 9223372036854775807:=by omega
 clear h l3
 go_enter Tryz.func13,Tryz.ntmps13
 go_wp2_with fail
 go_loopw [6] (fun iv wr => ∃ k : Nat,k <= L /\ iv = .int .i64 (k : Int) /\ wr = w /\ Hid (∀ i,i < k -> eqs (ps.getD i eZ).1 key = false)) (fun iv _ => L - (intOf iv).toNat)
 case atStart => exact ⟨0,zn7 _,rfl,rfl,fun i hi => by omega⟩
 case round =>
  obtain ⟨k,hk,rfl,e0,HI⟩:=hrel
  subst e0
  have hno:=HI.out
  by_cases h1 : k < L
  ·have d1 : decide ((k : Int) < (L : Int)) = true:=by rw [decide_eq_true_iff]; omega
   have d1' : decide (k < L) = true:=decide_eq_true h1
   obtain ⟨b,o,rfl,c1,c2⟩:=H.out.at (i:=k) (by rw [hL.out]; exact h1)
   obtain ⟨x,hx⟩:=exH ((ps.getD k eZ).1)
   obtain ⟨y,hy⟩:=exH ((ps.getD k eZ).2)
   rw [hx.out] at c1
   rw [hy.out] at c2
   have i0 : (0 : Int) <= (k : Int):=by omega
   have i1 : (k : Int) < (L : Int):=by omega
   have HNO:=hideN hno
   cases q : eqs x key with
   | true =>
    have q' : (x.toList == key.toList) = true:=q
    have HR : Hid (r = (y,true)):=by
     show _ = _
     rw [<- hr.out,fnd_at (by rw [hL.out]; exact h1) HNO.out (by rw [hx.out]; exact q),hy.out]
    clear HI hno q
    go_wp2_with fail
    go_ret2
    rw [HR.out]
    exact ⟨rfl,rfl⟩
   | false =>
    have q' : (x.toList == key.toList) = false:=q
    have HI2 : Hid (∀ i,i < k + 1 -> eqs (ps.getD i eZ).1 key = false):=(fun i hi => by
     by_cases e : i = k
     ·rw [e,hx.out]; exact q
     ·exact HNO.out i (by omega))
    have v1:=wk_nat (x:=(k : Int) + 1) (t:=k + 1) (by omega) (by omega)
    have v2:=zad9 (x:=(k : Int) + 1) (t:=k + 1) (by clear v1; omega) (by clear v1; omega)
    have HK : Hid (k < L):=h1
    clear HI hno q
    go_wp2_with fail
    clear v1 v2
    have hk2:=HK.out
    first
     | exact ⟨⟨k + 1,by omega,by rfl,by first | rfl | trivial,HI2⟩,by simp [intOf]; omega⟩
     | (go_roundw
        case rel => exact ⟨k + 1,by omega,by rfl,by first | rfl | trivial,HI2⟩
        case measure => simp [intOf]; omega)
  ·have d1 : decide ((k : Int) < (L : Int)) = false:=by rw [zn4]; omega
   have d1' : decide (k < L) = false:=decide_eq_false h1
   have HR : Hid (r = (eS,false)):=by
    show _ = _
    rw [<- hr.out,zpm9 (fun i hi => hno i (by have:=hL.out; omega))]
   clear HI hno
   go_wp2_with fail
   go_ret2
   rw [HR.out]
   exact ⟨rfl,rfl⟩
theorem ztv9 : Tryz.prog.underlying 72 = some (.struct (Tryz.prog.fieldsOf 72)):=by kernel_rfl
theorem znl9 : Tryz.prog.stoodInHeld 72 = false:=by kernel_rfl
theorem zpl9 : ((Tryz.prog.fieldsOf 72).toList.map fun f => (decide (f.name = "_"),f.type,f.offset)) = [(false,9,0),(false,9,1)]:=by kernel_rfl
theorem len2T {α : Type} {l : List α} (h : l.length = 2) : ∃ a b,l = [a,b]:=by
 match l,h with
 | [a,b],_ => exact ⟨a,b,rfl⟩
theorem zgy9 {P : Program} (w : World) (d : Nat) (xs ys : Array Value) (f : Field) (fs : List Field) (a b : Value) (r : Bool) (hn : ¬ f.name = "_") (ha : (part f.type xs f.offset).run P w = .ok a w) (hb : (part f.type ys f.offset).run P w = .ok b w) (hr : (Op.equalIn d f.type a b).run P w = .ok r w) :
  (Op.eqFields d xs ys (f :: fs)).run P w = if r = true then (Op.eqFields d xs ys fs).run P w else .ok false w:=by
 simp only [Op.eqFields,hn,ne_eq,not_false_eq_true,if_true,Sem.run_bind,ha,hb,hr,Result.andThen_ok]
 cases r <;> simp
theorem zrx9 (w : World) (d : Nat) (x y x' y' : ByteArray) (fs : List Field) (h : (fs.map fun f => (decide (f.name = "_"),f.type,f.offset)) = [(false,9,0),(false,9,1)]) :
  (Op.eqFields (d + 1) #[.string x,.string y] #[.string x',.string y'] fs).run Tryz.prog w = .ok (eqs x x' && eqs y y') w:=by
 obtain ⟨f0,f1,rfl⟩:=len2T (l:=fs) (by have:=congrArg List.length h; simpa using this)
 simp only [List.map_cons,List.map_nil,List.cons.injEq,Prod.mk.injEq,and_true,zn4] at h
 obtain ⟨⟨n0,t0,o0⟩,n1,t1,o1⟩:=h
 have e0 : ∀ a b : ByteArray,(Op.equalIn (d + 1) 9 (.string a) (.string b)).run Tryz.prog w = .ok (eqs a b) w:=fun a b => run_equalIn_string (P:=Tryz.prog) w d 9 a b Tryz.underlying9
 rw [zgy9 w (d + 1) _ _ f0 _ (.string x) (.string x') (eqs x x') n0 (by rw [t0,o0]; exact run_part_plain w (by kernel_rfl) rfl) (by rw [t0,o0]; exact run_part_plain w (by kernel_rfl) rfl) (by rw [t0]; exact e0 _ _)]
 rw [zgy9 w (d + 1) _ _ f1 _ (.string y) (.string y') (eqs y y') n1 (by rw [t1,o1]; exact run_part_plain w (by kernel_rfl) rfl) (by rw [t1,o1]; exact run_part_plain w (by kernel_rfl) rfl) (by rw [t1]; exact e0 _ _)]
 generalize eqs x x' = b0
 generalize eqs y y' = b1
 cases b0 <;> cases b1 <;> simp [Op.eqFields]
theorem eq_ent (w : World) (x y x' y' : ByteArray) : (Op.equalIn 10000 72 (.agg #[.string x,.string y]) (.agg #[.string x',.string y'])).run Tryz.prog w = .ok (decide ((x,y) = (x',y'))) w:=by
 rw [run_equalIn_struct w 9999 72 _ _ ztv9 znl9,zrx9 w 9998 x y x' y' _ zpl9]
 congr 1
 rw [Bool.eq_iff_iff,Bool.and_eq_true,decide_eq_true_iff,eqsP,eqsP]
 simp
theorem zlo9 {vs us : List E2} {k : Nat} (h1 : k < vs.length) (h2 : k < us.length) (h : vs.take k = us.take k) : vs.take (k + 1) = us.take (k + 1) ↔ vs.getD k eZ = us.getD k eZ:=by
 rw [take_succ' eZ _ _ h1,take_succ' eZ _ _ h2,h]
 simp
theorem zcx9 (v u : Value) (ps qs : List E2) (w : World) (h : RdE w v ps) (g : RdE w u qs) (hll : ps.length <= 1000000000) :
  Calls Tryz.prog 16 #[v,u] w fun e w' => e = .returned (.bool (decide (ps = qs))) /\ ∃ m,w' = w.drewN m:=by
 obtain ⟨a,cap,rfl,l1,l2,l3⟩:=h.len
 obtain ⟨b,cbp,rfl,m1,m2,m3⟩:=g.len
 have H:=hideN h
 have G:=hideN g
 obtain ⟨M,hM⟩:=exH (decide (ps = qs))
 rw [hM.out]
 obtain ⟨L,hL⟩:=exH ps.length
 rw [hL.out] at H l1 hll ⊢
 obtain ⟨K,hK⟩:=exH qs.length
 rw [hK.out] at G m1 ⊢
 have hL63 : (L : Int) <= 9223372036854775807:=by omega
 have hK63 : (K : Int) <= 9223372036854775807:=by omega
 clear h g l3 m3
 by_cases hlk : L = K
 rotate_left
 ·have d0 : ((L : Int) != (K : Int)) = true:=by simp; omega
  obtain rfl : M = false:=by rw [<- hM.out,zn4]; intro e; exact hlk (by rw [<- hL.out,<- hK.out,e])
  clear hlk
  go_enter Tryz.func16,Tryz.ntmps16
  go_wp2_with fail
  go_ret
  exact ⟨rfl,0,rfl⟩
 ·subst hlk
  have d0 : ((L : Int) != (L : Int)) = false:=by simp
  go_enter Tryz.func16,Tryz.ntmps16
  go_wp2_with fail
  go_loopw [5] (fun iv wr => ∃ k : Nat,k <= L /\ iv = .int .i64 (k : Int) /\ Hid ((∃ m,wr = w.drewN m) /\ ps.take k = qs.take k)) (fun iv _ => L - (intOf iv).toNat)
  case atStart => exact ⟨0,zn7 _,rfl,⟨0,rfl⟩,rfl⟩
  case round =>
   obtain ⟨k,hk,rfl,HI⟩:=hrel
   by_cases h1 : k < L
   ·have d1 : decide ((k : Int) < (L : Int)) = true:=by rw [decide_eq_true_iff]; omega
    have d1' : decide (k < L) = true:=decide_eq_true h1
    obtain ⟨⟨m,hm⟩,hno⟩:=HI.out
    have bl : Below w.heap.size w wr:=by rw [hm]; exact belowN (zn6 _) m
    obtain ⟨b1,o1,rfl,c1,c2⟩:=(H.out.below bl).at (i:=k) (by rw [hL.out]; exact h1)
    obtain ⟨b2,o2,rfl,c3,c4⟩:=(G.out.below bl).at (i:=k) (by rw [hK.out]; exact h1)
    have HTS:=hideN (zlo9 (vs:=ps) (us:=qs) (k:=k) (by rw [hL.out]; exact h1) (by rw [hK.out]; exact h1) hno)
    obtain ⟨x,hx⟩:=exH ((ps.getD k eZ).1)
    obtain ⟨y,hy⟩:=exH ((ps.getD k eZ).2)
    obtain ⟨x',hx'⟩ : ∃ q,Hid ((qs.getD k eZ).1 = q):=⟨_,rfl⟩
    obtain ⟨y',hy'⟩ : ∃ q,Hid ((qs.getD k eZ).2 = q):=⟨_,rfl⟩
    rw [hx.out] at c1
    rw [hy.out] at c2
    rw [hx'.out] at c3
    rw [hy'.out] at c4
    have HEQ : Hid ((ps.getD k eZ = qs.getD k eZ) ↔ (x,y) = (x',y')):=by
     show _ ↔ _
     rw [<- hx.out,<- hy.out,<- hx'.out,<- hy'.out]
    have i0 : (0 : Int) <= (k : Int):=by omega
    have i1 : (k : Int) < (L : Int):=by omega
    have HW : Hid (∃ m,wr = w.drewN m):=⟨m,hm⟩
    by_cases e : (x,y) = (x',y')
    ·have hq : ∀ W,(Op.equalIn 10000 72 (.agg #[.string x,.string y]) (.agg #[.string x',.string y'])).run Tryz.prog W = .ok true W:=fun W => by rw [eq_ent,decide_eq_true e]
     have HN : Hid (ps.take (k + 1) = qs.take (k + 1)):=HTS.out.2 (HEQ.out.2 e)
     have v1:=wk_nat (x:=(k : Int) + 1) (t:=k + 1) (by omega) (by omega)
     have v2:=zad9 (x:=(k : Int) + 1) (t:=k + 1) (by clear v1; omega) (by clear v1; omega)
     have HK2 : Hid (k < L):=h1
     clear HI hno hm bl HTS HEQ e
     go_wp2_with fail
     go_quiet (fail)
     have HI2 : Hid ((∃ m,wr.drewN nq = w.drewN m) /\ ps.take (k + 1) = qs.take (k + 1)):=by
      obtain ⟨m,hm⟩:=HW.out
      exact ⟨⟨m + nq,by rw [hm]; simp [World.drewN,Nat.add_assoc]⟩,HN.out⟩
     go_wp2_with fail
     clear v1 v2
     have hk2:=HK2.out
     first
      | exact ⟨⟨k + 1,by omega,by rfl,HI2⟩,by simp [intOf]; omega⟩
      | (go_roundw
         case rel => exact ⟨k + 1,by omega,by rfl,HI2⟩
         case measure => simp [intOf]; omega)
    ·have hq : ∀ W,(Op.equalIn 10000 72 (.agg #[.string x,.string y]) (.agg #[.string x',.string y'])).run Tryz.prog W = .ok false W:=fun W => by rw [eq_ent,decide_eq_false e]
     obtain rfl : M = false:=by
      rw [<- hM.out,zn4]
      intro e2
      exact e (HEQ.out.1 (by rw [e2]))
     clear HI hno hm bl HTS HEQ e
     go_wp2_with fail
     go_quiet (fail)
     have HI2 : Hid (∃ m,wr.drewN nq = w.drewN m):=by
      obtain ⟨m,hm⟩:=HW.out
      exact ⟨m + nq,by rw [hm]; simp [World.drewN,Nat.add_assoc]⟩
     go_wp2_with fail
     go_ret
     exact ⟨rfl,HI2.out⟩
   ·have d1 : decide ((k : Int) < (L : Int)) = false:=by rw [zn4]; omega
    have d1' : decide (k < L) = false:=decide_eq_false h1
    obtain ⟨⟨m,hm⟩,hno⟩:=HI.out
    obtain rfl : M = true:=by
     rw [<- hM.out,decide_eq_true_iff,<- zn5 (l:=ps) (i:=k) (by have:=hL.out; omega),hno,zn5 (by have:=hK.out; omega)]
    have HW : Hid (∃ m,wr = w.drewN m):=⟨m,hm⟩
    clear HI hno hm
    go_wp2_with fail
    go_ret
    exact ⟨rfl,HW.out⟩
end Go.Proofs.YtjhccpijpffahaaGreat
