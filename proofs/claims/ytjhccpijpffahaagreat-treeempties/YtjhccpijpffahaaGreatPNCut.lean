import Derived.Test.YtjhccpijpffahaaGreatPNSl
import Derived.Test.YtjhccpijpffahaaGreatPNReg
import Derived.Test.YtjhccpijpffahaaGreatPBReg
import Derived.Test.YtjhccpijpffahaaGreatPNPl
set_option maxRecDepth 100000
set_option linter.unusedVariables false
set_option linter.unusedSimpArgs false
set_option maxHeartbeats 8000000
namespace Go.Proofs.YtjhccpijpffahaaGreat
open Go.RowKit Pl
theorem zba9 {w : World} {a : Option Addr} {cap : Nat} {cs : List Value} (h : RdV w (.slice a cs.length cap) cs) (l m : Nat) (hl : l <= m) (hm : m <= cs.length) : RdV w (sliced a l m cap 1) ((cs.drop l).take (m - l)):=by
 obtain ⟨a',cap',e,h1,h2,h3,h4⟩:=h
 cases e
 have el : ((cs.drop l).take (m - l)).length = m - l:=by rw [List.length_take,List.length_drop]; omega
 unfold sliced
 rw [Nat.mul_one]
 by_cases hz : m - l = 0
 ·have hnil : (cs.drop l).take (m - l) = []:=by rw [hz]; rfl
  rw [hnil,hz]
  refine ⟨_,cap - l,rfl,zn7 _,by omega,fun e => ?_,.inl rfl⟩
  by_cases c : cap = l
  ·omega
  ·rw [if_neg c] at e
   have : a = none:=by simpa using e
   have:=h3 this
   omega
 ·rcases h4 with rfl | ⟨b,o,rfl,hc⟩
  ·simp at hm; omega
  ·rw [if_neg (by omega)]
   refine ⟨_,cap - l,by rw [el],by omega,by omega,fun e => (by cases e),.inr ⟨b,o + l,by simp [Addr.add],fun i c hi => ?_⟩⟩
   have:=(List.getElem?_eq_some_iff.1 hi).1
   rw [el] at this
   rw [List.getElem?_take,if_pos this,List.getElem?_drop] at hi
   have:=hc (l + i) c hi
   rw [Nat.add_assoc]
   exact this
theorem sizeSV (w : World) : (sizeOf (Tryz.prog.elem 91)).run Tryz.prog w = .ok 1 w:=by
 have h : (Tryz.prog.info? (Tryz.prog.elem 91)).map (·.size) = some 1:=by kernel_rfl
 obtain ⟨i,hi,hs⟩:=Option.map_eq_some_iff.1 h
 simp [sizeOf,typeInfo,hi,hs]
theorem zhy9 : Tryz.prog.underlying 91 = some (.slice (Tryz.prog.elem 91)):=by
 have : Tryz.prog.elem 91 = 9:=by kernel_rfl
 rw [this]
 exact Tryz.underlying91
theorem fromSV (b : Option Addr) (L cap p : Nat) (h1 : p <= L) (h2 : L <= cap) (w : World) : (Instr.sliceAt 91 (.slice b L cap) (some (.int .i64 (p : Int))) none none).run Tryz.prog w = .ok (sliced b p L cap 1) w:=by
 rw [run_sliceAt_slice _ _ _ _ _ _ zhy9,run_slice_l _ _ _ _ _ zhy9 _ _ (by omega) (by omega),sizeSV]
 simp [Result.andThen]
theorem uptoSV (b : Option Addr) (L cap p : Nat) (h1 : p <= L) (h2 : L <= cap) (w : World) : (Instr.sliceAt 91 (.slice b L cap) none (some (.int .i64 (p : Int))) none).run Tryz.prog w = .ok (sliced b 0 p cap 1) w:=by
 rw [run_sliceAt_slice _ _ _ _ _ _ zhy9,run_slice_h _ _ _ _ _ zhy9 _ _ (by omega) (by omega),sizeSV]
 simp [Result.andThen]
theorem zfe9 (v : Value) (xs : List Value) (m : Nat) (w : World) (ha : RdV w v xs) (h1 : ∀ x ∈ xs,x.oneCell' = true) (h3 : xs.length * 16 <= 140737488355328) (hm : m <= 9007199254740992) :
  Calls Tryz.prog 176 #[v,.int .i64 (m : Int)] w fun e w' => (∃ v1 v2,e = .returned (.tuple #[v1,v2]) /\ RdV w' v1 (xs.take m) /\ RdV w' v2 (xs.drop m) /\ ∀ j,(v1.ownBlock = some j ∨ v2.ownBlock = some j) -> w.heap.size <= j /\ j < w'.heap.size) /\ Below w.heap.size w w':=by
 obtain ⟨p,hp⟩ : ∃ p,p = min m xs.length:=⟨_,rfl⟩
 have ht : xs.take m = xs.take p:=by rw [hp]; by_cases h : m <= xs.length; (· rw [Nat.min_eq_left h]); (· rw [Nat.min_eq_right (by omega),zn5 (by omega),zn5 (zn6 _)])
 have hd : xs.drop m = xs.drop p:=by rw [hp]; by_cases h : m <= xs.length; (· rw [Nat.min_eq_left h]); (· rw [Nat.min_eq_right (by omega),List.drop_of_length_le (by omega),List.drop_of_length_le (zn6 _)])
 rw [ht,hd]
 have hpl : p <= xs.length:=by omega
 obtain ⟨a,cap,rfl,l1,l2,hn0⟩:=ha.len
 have R1H:=hideN (zba9 ha 0 p (zn7 _) hpl)
 have R2H:=hideN (zba9 ha p xs.length hpl (zn6 _))
 rw [List.drop_zero,Nat.sub_zero] at R1H
 rw [show (xs.drop p).take (xs.length - p) = xs.drop p by rw [zn5]; rw [List.length_drop]; omega] at R2H
 have HC : Hid (∀ W v cs,Below w.heap.size w W -> RdV W v cs -> cs.length <= xs.length -> (∀ x ∈ cs,x.oneCell' = true) -> Calls Tryz.prog 190 #[v] W fun e w' => (∃ v',e = .returned v' /\ RdV w' v' cs /\ ∀ j,v'.ownBlock = some j -> W.heap.size <= j /\ j < w'.heap.size) /\ Below W.heap.size W w'):=fun W v cs _ hr hl h1 => zjk9 v cs W hr h1 (zn2 (Nat.mul_le_mul_right _ hl) h3)
 have HT : Hid ((xs.take p).length <= xs.length /\ ∀ x ∈ xs.take p,x.oneCell' = true):=⟨by rw [List.length_take]; omega,fun x hx => h1 x (List.mem_of_mem_take hx)⟩
 have HD : Hid ((xs.drop p).length <= xs.length /\ ∀ x ∈ xs.drop p,x.oneCell' = true):=⟨by rw [List.length_drop]; omega,fun x hx => h1 x (List.mem_of_mem_drop hx)⟩
 have hL : xs.length <= 9007199254740992:=by omega
 have U1:=hideN (uptoSV a xs.length cap p hpl l1)
 have U2:=hideN (fromSV a xs.length cap p hpl l1)
 obtain ⟨L,hLL⟩:=exH xs.length
 have HM : Hid (p = min m L):=by rw [<- hLL.out]; exact hp
 rw [hLL.out] at l1 R2H hpl hL U1 U2 ⊢
 have h0 : Below w.heap.size w w.drew:=(Below.refl _ _).drew
 clear ha h1 hp ht hd hn0 h3
 by_cases hmin : m <= L
 ·have hpm : p = m:=by have:=HM.out; omega
  have hmi : (m : Int) <= (L : Int):=by omega
  subst hpm
  clear HM
  go_enter Tryz.func176,Tryz.ntmps176
  go_wp2_with fail
  refine beginW (S:=fun _ => True) (t:=9) (by kernel_rfl) ?_
  refine tkW 0 (some 10) (.move (.tmp 0)) (Value.slice a L cap) ?hy trivial ?_
  case hy =>
   rintro o ho w' _
   first | (go_simp; done) | (go_simp; omega)
  simp only [Act.put,qa,qb,qc]
  refine tkW 1 (some 11) (.move (.tmp 1)) (Value.int .i64 (p : Int)) ?hy trivial ?_
  case hy =>
   rintro o ho w' _
   first | (go_simp; done) | (go_simp; omega)
  simp only [Act.put,qa,qb,qc]
  refine tkW 2 (some 12) (.slice 91 (.tmp 10) none (some (.tmp 11)) none) (sliced a 0 p cap 1) ?hy trivial ?_
  case hy =>
   rintro o ho w' _
   unfold execOp
   simp only [ho,Option.map_some,Option.map_none,Sem.run_bind]
   erw [U1.out w']
   rfl
  simp only [Act.put,qa,qb,qc]
  refine tkW 4 (some 14) (.move (.tmp 0)) (Value.slice a L cap) ?hy trivial ?_
  case hy =>
   rintro o ho w' _
   first | (go_simp; done) | (go_simp; omega)
  simp only [Act.put,qa,qb,qc]
  refine tkW 5 (some 15) (.move (.tmp 1)) (Value.int .i64 (p : Int)) ?hy trivial ?_
  case hy =>
   rintro o ho w' _
   first | (go_simp; done) | (go_simp; omega)
  simp only [Act.put,qa,qb,qc]
  refine tkW 6 (some 16) (.slice 91 (.tmp 14) (some (.tmp 15)) none none) (sliced a p L cap 1) ?hy trivial ?_
  case hy =>
   rintro o ho w' _
   unfold execOp
   simp only [ho,Option.map_some,Option.map_none,Sem.run_bind]
   erw [U2.out w']
   rfl
  simp only [Act.put,qa,qb,qc]
  refine rdW 3 (some 13) (.call { callee:=.value (.func 190),args:=#[.tmp 12],argTypes:=#[91] }) ?_
  rintro o K hd ho hg hK
  refine zd9 (enters_of Tryz.func190 (by kernel_rfl) rfl) ho (vs:=#[sliced a 0 p cap 1]) (by kernel_rfl) (HC.out _ _ _ h0 (R1H.out.below h0) HT.out.1 HT.out.2) ?_
  rintro e w2 ⟨⟨v2,rfl,hr2,hn2⟩,hb2⟩
  have B2 : Hid (Below w.heap.size w w2):=h0.trans (hb2.mono (zn6 _))
  have RR2:=hideN hr2
  have N2 : Hid (∀ j,v2.ownBlock = some j -> w.heap.size <= j /\ j < w2.heap.size):=hn2
  clear hr2 hn2 hb2
  refine ⟨_,rfl,?_⟩
  rw [hd]
  refine hK _ _ (fun _ => trivial) ?_
  clear ho hd hg hK
  simp only [Act.put,qa,qb,qc]
  refine rdW 7 (some 17) (.call { callee:=.value (.func 190),args:=#[.tmp 16],argTypes:=#[91] }) ?_
  rintro o K hd ho hg hK
  refine zd9 (enters_of Tryz.func190 (by kernel_rfl) rfl) ho (vs:=#[sliced a p L cap 1]) (by kernel_rfl) (HC.out _ _ _ B2.out (R2H.out.below B2.out) HD.out.1 HD.out.2) ?_
  rintro e w3 ⟨⟨v3,rfl,hr3,hn3⟩,hb3⟩
  have B3 : Hid (Below w.heap.size w w3):=B2.out.trans (hb3.mono B2.out.size)
  have RR3:=hideN hr3
  have RR4:=hideN (RR2.out.below hb3)
  have N3 : Hid (∀ j,v3.ownBlock = some j -> w.heap.size <= j /\ j < w3.heap.size):=fun j hj => ⟨zn2 B2.out.size (hn3 j hj).1,(hn3 j hj).2⟩
  have N4 : Hid (∀ j,v2.ownBlock = some j -> w.heap.size <= j /\ j < w3.heap.size):=fun j hj => ⟨(N2.out j hj).1,zn1 (N2.out j hj).2 hb3.size⟩
  clear hr3 hn3 hb3
  refine ⟨_,rfl,?_⟩
  rw [hd]
  refine hK _ _ (fun _ => trivial) ?_
  clear ho hd hg hK
  simp only [Act.put,qa,qb,qc]
  refine rdW 8 (some 4) (.assign (.tmp 13)) ?_
  rintro o K hd ho hg hK
  refine stepY (v:=v2) ?hy ?_
  case hy => go_simp
  rw [hd]
  refine hK _ _ (fun _ => trivial) ?_
  clear ho hd hg hK
  simp only [Act.put,qa,qb,qc]
  refine rdW 9 (some 5) (.assign (.tmp 17)) ?_
  rintro o K hd ho hg hK
  refine stepY (v:=v3) ?hy ?_
  case hy => go_simp
  rw [hd]
  refine hK _ _ (fun e => absurd rfl e) ?_
  clear ho hd hg hK
  simp only [Act.put,qa,qb,qc]
  refine doneW (by kernel_rfl) ?_ _
  go_wp2_with fail
  go_ret2
  exact ⟨⟨_,_,rfl,RR4.out,RR3.out,fun j hj => hj.elim (N4.out j) (N3.out j)⟩,B3.out⟩
 ·have hpm : p = L:=by have:=HM.out; omega
  have hmi : ¬ (m : Int) <= (L : Int):=by omega
  subst hpm
  clear HM
  go_enter Tryz.func176,Tryz.ntmps176
  go_wp2_with fail
  refine beginW (S:=fun _ => True) (t:=9) (by kernel_rfl) ?_
  refine tkW 0 (some 10) (.move (.tmp 0)) (Value.slice a p cap) ?hy trivial ?_
  case hy =>
   rintro o ho w' _
   first | (go_simp; done) | (go_simp; omega)
  simp only [Act.put,qa,qb,qc]
  refine tkW 1 (some 11) (.move (.tmp 1)) (Value.int .i64 (p : Int)) ?hy trivial ?_
  case hy =>
   rintro o ho w' _
   first | (go_simp; done) | (go_simp; omega)
  simp only [Act.put,qa,qb,qc]
  refine tkW 2 (some 12) (.slice 91 (.tmp 10) none (some (.tmp 11)) none) (sliced a 0 p cap 1) ?hy trivial ?_
  case hy =>
   rintro o ho w' _
   unfold execOp
   simp only [ho,Option.map_some,Option.map_none,Sem.run_bind]
   erw [U1.out w']
   rfl
  simp only [Act.put,qa,qb,qc]
  refine tkW 4 (some 14) (.move (.tmp 0)) (Value.slice a p cap) ?hy trivial ?_
  case hy =>
   rintro o ho w' _
   first | (go_simp; done) | (go_simp; omega)
  simp only [Act.put,qa,qb,qc]
  refine tkW 5 (some 15) (.move (.tmp 1)) (Value.int .i64 (p : Int)) ?hy trivial ?_
  case hy =>
   rintro o ho w' _
   first | (go_simp; done) | (go_simp; omega)
  simp only [Act.put,qa,qb,qc]
  refine tkW 6 (some 16) (.slice 91 (.tmp 14) (some (.tmp 15)) none none) (sliced a p p cap 1) ?hy trivial ?_
  case hy =>
   rintro o ho w' _
   unfold execOp
   simp only [ho,Option.map_some,Option.map_none,Sem.run_bind]
   erw [U2.out w']
   rfl
  simp only [Act.put,qa,qb,qc]
  refine rdW 3 (some 13) (.call { callee:=.value (.func 190),args:=#[.tmp 12],argTypes:=#[91] }) ?_
  rintro o K hd ho hg hK
  refine zd9 (enters_of Tryz.func190 (by kernel_rfl) rfl) ho (vs:=#[sliced a 0 p cap 1]) (by kernel_rfl) (HC.out _ _ _ h0 (R1H.out.below h0) HT.out.1 HT.out.2) ?_
  rintro e w2 ⟨⟨v2,rfl,hr2,hn2⟩,hb2⟩
  have B2 : Hid (Below w.heap.size w w2):=h0.trans (hb2.mono (zn6 _))
  have RR2:=hideN hr2
  have N2 : Hid (∀ j,v2.ownBlock = some j -> w.heap.size <= j /\ j < w2.heap.size):=hn2
  clear hr2 hn2 hb2
  refine ⟨_,rfl,?_⟩
  rw [hd]
  refine hK _ _ (fun _ => trivial) ?_
  clear ho hd hg hK
  simp only [Act.put,qa,qb,qc]
  refine rdW 7 (some 17) (.call { callee:=.value (.func 190),args:=#[.tmp 16],argTypes:=#[91] }) ?_
  rintro o K hd ho hg hK
  refine zd9 (enters_of Tryz.func190 (by kernel_rfl) rfl) ho (vs:=#[sliced a p p cap 1]) (by kernel_rfl) (HC.out _ _ _ B2.out (R2H.out.below B2.out) HD.out.1 HD.out.2) ?_
  rintro e w3 ⟨⟨v3,rfl,hr3,hn3⟩,hb3⟩
  have B3 : Hid (Below w.heap.size w w3):=B2.out.trans (hb3.mono B2.out.size)
  have RR3:=hideN hr3
  have RR4:=hideN (RR2.out.below hb3)
  have N3 : Hid (∀ j,v3.ownBlock = some j -> w.heap.size <= j /\ j < w3.heap.size):=fun j hj => ⟨zn2 B2.out.size (hn3 j hj).1,(hn3 j hj).2⟩
  have N4 : Hid (∀ j,v2.ownBlock = some j -> w.heap.size <= j /\ j < w3.heap.size):=fun j hj => ⟨(N2.out j hj).1,zn1 (N2.out j hj).2 hb3.size⟩
  clear hr3 hn3 hb3
  refine ⟨_,rfl,?_⟩
  rw [hd]
  refine hK _ _ (fun _ => trivial) ?_
  clear ho hd hg hK
  simp only [Act.put,qa,qb,qc]
  refine rdW 8 (some 4) (.assign (.tmp 13)) ?_
  rintro o K hd ho hg hK
  refine stepY (v:=v2) ?hy ?_
  case hy => go_simp
  rw [hd]
  refine hK _ _ (fun _ => trivial) ?_
  clear ho hd hg hK
  simp only [Act.put,qa,qb,qc]
  refine rdW 9 (some 5) (.assign (.tmp 17)) ?_
  rintro o K hd ho hg hK
  refine stepY (v:=v3) ?hy ?_
  case hy => go_simp
  rw [hd]
  refine hK _ _ (fun e => absurd rfl e) ?_
  clear ho hd hg hK
  simp only [Act.put,qa,qb,qc]
  refine doneW (by kernel_rfl) ?_ _
  go_wp2_with fail
  go_ret2
  exact ⟨⟨_,_,rfl,RR4.out,RR3.out,fun j hj => hj.elim (N4.out j) (N3.out j)⟩,B3.out⟩
theorem sizeIV (w : World) : (sizeOf (Tryz.prog.elem 56)).run Tryz.prog w = .ok 1 w:=by
 have h : (Tryz.prog.info? (Tryz.prog.elem 56)).map (·.size) = some 1:=by kernel_rfl
 obtain ⟨i,hi,hs⟩:=Option.map_eq_some_iff.1 h
 simp [sizeOf,typeInfo,hi,hs]
theorem zea9 : Tryz.prog.underlying 56 = some (.slice (Tryz.prog.elem 56)):=by
 have : Tryz.prog.elem 56 = 3:=by kernel_rfl
 rw [this]
 exact Tryz.underlying56
theorem fromIV (b : Option Addr) (L cap p : Nat) (h1 : p <= L) (h2 : L <= cap) (w : World) : (Instr.sliceAt 56 (.slice b L cap) (some (.int .i64 (p : Int))) none none).run Tryz.prog w = .ok (sliced b p L cap 1) w:=by
 rw [run_sliceAt_slice _ _ _ _ _ _ zea9,run_slice_l _ _ _ _ _ zea9 _ _ (by omega) (by omega),sizeIV]
 simp [Result.andThen]
theorem uptoIV (b : Option Addr) (L cap p : Nat) (h1 : p <= L) (h2 : L <= cap) (w : World) : (Instr.sliceAt 56 (.slice b L cap) none (some (.int .i64 (p : Int))) none).run Tryz.prog w = .ok (sliced b 0 p cap 1) w:=by
 rw [run_sliceAt_slice _ _ _ _ _ _ zea9,run_slice_h _ _ _ _ _ zea9 _ _ (by omega) (by omega),sizeIV]
 simp [Result.andThen]
theorem zjl9 (v : Value) (xs : List Value) (m : Nat) (w : World) (ha : RdV w v xs) (h1 : ∀ x ∈ xs,x.oneCell' = true) (h3 : xs.length * 8 <= 140737488355328) (hm : m <= 9007199254740992) :
  Calls Tryz.prog 177 #[v,.int .i64 (m : Int)] w fun e w' => (∃ v1 v2,e = .returned (.tuple #[v1,v2]) /\ RdV w' v1 (xs.take m) /\ RdV w' v2 (xs.drop m) /\ ∀ j,(v1.ownBlock = some j ∨ v2.ownBlock = some j) -> w.heap.size <= j /\ j < w'.heap.size) /\ Below w.heap.size w w':=by
 obtain ⟨p,hp⟩ : ∃ p,p = min m xs.length:=⟨_,rfl⟩
 have ht : xs.take m = xs.take p:=by rw [hp]; by_cases h : m <= xs.length; (· rw [Nat.min_eq_left h]); (· rw [Nat.min_eq_right (by omega),zn5 (by omega),zn5 (zn6 _)])
 have hd : xs.drop m = xs.drop p:=by rw [hp]; by_cases h : m <= xs.length; (· rw [Nat.min_eq_left h]); (· rw [Nat.min_eq_right (by omega),List.drop_of_length_le (by omega),List.drop_of_length_le (zn6 _)])
 rw [ht,hd]
 have hpl : p <= xs.length:=by omega
 obtain ⟨a,cap,rfl,l1,l2,hn0⟩:=ha.len
 have R1H:=hideN (zba9 ha 0 p (zn7 _) hpl)
 have R2H:=hideN (zba9 ha p xs.length hpl (zn6 _))
 rw [List.drop_zero,Nat.sub_zero] at R1H
 rw [show (xs.drop p).take (xs.length - p) = xs.drop p by rw [zn5]; rw [List.length_drop]; omega] at R2H
 have HC : Hid (∀ W v cs,Below w.heap.size w W -> RdV W v cs -> cs.length <= xs.length -> (∀ x ∈ cs,x.oneCell' = true) -> Calls Tryz.prog 191 #[v] W fun e w' => (∃ v',e = .returned v' /\ RdV w' v' cs /\ ∀ j,v'.ownBlock = some j -> W.heap.size <= j /\ j < w'.heap.size) /\ Below W.heap.size W w'):=fun W v cs _ hr hl h1 => zjj9 v cs W hr h1 (zn2 (Nat.mul_le_mul_right _ hl) h3)
 have HT : Hid ((xs.take p).length <= xs.length /\ ∀ x ∈ xs.take p,x.oneCell' = true):=⟨by rw [List.length_take]; omega,fun x hx => h1 x (List.mem_of_mem_take hx)⟩
 have HD : Hid ((xs.drop p).length <= xs.length /\ ∀ x ∈ xs.drop p,x.oneCell' = true):=⟨by rw [List.length_drop]; omega,fun x hx => h1 x (List.mem_of_mem_drop hx)⟩
 have hL : xs.length <= 9007199254740992:=by omega
 have U1:=hideN (uptoIV a xs.length cap p hpl l1)
 have U2:=hideN (fromIV a xs.length cap p hpl l1)
 obtain ⟨L,hLL⟩:=exH xs.length
 have HM : Hid (p = min m L):=by rw [<- hLL.out]; exact hp
 rw [hLL.out] at l1 R2H hpl hL U1 U2 ⊢
 have h0 : Below w.heap.size w w.drew:=(Below.refl _ _).drew
 clear ha h1 hp ht hd hn0 h3
 by_cases hmin : m <= L
 ·have hpm : p = m:=by have:=HM.out; omega
  have hmi : (m : Int) <= (L : Int):=by omega
  subst hpm
  clear HM
  go_enter Tryz.func177,Tryz.ntmps177
  go_wp2_with fail
  refine beginW (S:=fun _ => True) (t:=9) (by kernel_rfl) ?_
  refine tkW 0 (some 10) (.move (.tmp 0)) (Value.slice a L cap) ?hy trivial ?_
  case hy =>
   rintro o ho w' _
   first | (go_simp; done) | (go_simp; omega)
  simp only [Act.put,qa,qb,qc]
  refine tkW 1 (some 11) (.move (.tmp 1)) (Value.int .i64 (p : Int)) ?hy trivial ?_
  case hy =>
   rintro o ho w' _
   first | (go_simp; done) | (go_simp; omega)
  simp only [Act.put,qa,qb,qc]
  refine tkW 2 (some 12) (.slice 56 (.tmp 10) none (some (.tmp 11)) none) (sliced a 0 p cap 1) ?hy trivial ?_
  case hy =>
   rintro o ho w' _
   unfold execOp
   simp only [ho,Option.map_some,Option.map_none,Sem.run_bind]
   erw [U1.out w']
   rfl
  simp only [Act.put,qa,qb,qc]
  refine tkW 4 (some 14) (.move (.tmp 0)) (Value.slice a L cap) ?hy trivial ?_
  case hy =>
   rintro o ho w' _
   first | (go_simp; done) | (go_simp; omega)
  simp only [Act.put,qa,qb,qc]
  refine tkW 5 (some 15) (.move (.tmp 1)) (Value.int .i64 (p : Int)) ?hy trivial ?_
  case hy =>
   rintro o ho w' _
   first | (go_simp; done) | (go_simp; omega)
  simp only [Act.put,qa,qb,qc]
  refine tkW 6 (some 16) (.slice 56 (.tmp 14) (some (.tmp 15)) none none) (sliced a p L cap 1) ?hy trivial ?_
  case hy =>
   rintro o ho w' _
   unfold execOp
   simp only [ho,Option.map_some,Option.map_none,Sem.run_bind]
   erw [U2.out w']
   rfl
  simp only [Act.put,qa,qb,qc]
  refine rdW 3 (some 13) (.call { callee:=.value (.func 191),args:=#[.tmp 12],argTypes:=#[56] }) ?_
  rintro o K hd ho hg hK
  refine zd9 (enters_of Tryz.func191 (by kernel_rfl) rfl) ho (vs:=#[sliced a 0 p cap 1]) (by kernel_rfl) (HC.out _ _ _ h0 (R1H.out.below h0) HT.out.1 HT.out.2) ?_
  rintro e w2 ⟨⟨v2,rfl,hr2,hn2⟩,hb2⟩
  have B2 : Hid (Below w.heap.size w w2):=h0.trans (hb2.mono (zn6 _))
  have RR2:=hideN hr2
  have N2 : Hid (∀ j,v2.ownBlock = some j -> w.heap.size <= j /\ j < w2.heap.size):=hn2
  clear hr2 hn2 hb2
  refine ⟨_,rfl,?_⟩
  rw [hd]
  refine hK _ _ (fun _ => trivial) ?_
  clear ho hd hg hK
  simp only [Act.put,qa,qb,qc]
  refine rdW 7 (some 17) (.call { callee:=.value (.func 191),args:=#[.tmp 16],argTypes:=#[56] }) ?_
  rintro o K hd ho hg hK
  refine zd9 (enters_of Tryz.func191 (by kernel_rfl) rfl) ho (vs:=#[sliced a p L cap 1]) (by kernel_rfl) (HC.out _ _ _ B2.out (R2H.out.below B2.out) HD.out.1 HD.out.2) ?_
  rintro e w3 ⟨⟨v3,rfl,hr3,hn3⟩,hb3⟩
  have B3 : Hid (Below w.heap.size w w3):=B2.out.trans (hb3.mono B2.out.size)
  have RR3:=hideN hr3
  have RR4:=hideN (RR2.out.below hb3)
  have N3 : Hid (∀ j,v3.ownBlock = some j -> w.heap.size <= j /\ j < w3.heap.size):=fun j hj => ⟨zn2 B2.out.size (hn3 j hj).1,(hn3 j hj).2⟩
  have N4 : Hid (∀ j,v2.ownBlock = some j -> w.heap.size <= j /\ j < w3.heap.size):=fun j hj => ⟨(N2.out j hj).1,zn1 (N2.out j hj).2 hb3.size⟩
  clear hr3 hn3 hb3
  refine ⟨_,rfl,?_⟩
  rw [hd]
  refine hK _ _ (fun _ => trivial) ?_
  clear ho hd hg hK
  simp only [Act.put,qa,qb,qc]
  refine rdW 8 (some 4) (.assign (.tmp 13)) ?_
  rintro o K hd ho hg hK
  refine stepY (v:=v2) ?hy ?_
  case hy => go_simp
  rw [hd]
  refine hK _ _ (fun _ => trivial) ?_
  clear ho hd hg hK
  simp only [Act.put,qa,qb,qc]
  refine rdW 9 (some 5) (.assign (.tmp 17)) ?_
  rintro o K hd ho hg hK
  refine stepY (v:=v3) ?hy ?_
  case hy => go_simp
  rw [hd]
  refine hK _ _ (fun e => absurd rfl e) ?_
  clear ho hd hg hK
  simp only [Act.put,qa,qb,qc]
  refine doneW (by kernel_rfl) ?_ _
  go_wp2_with fail
  go_ret2
  exact ⟨⟨_,_,rfl,RR4.out,RR3.out,fun j hj => hj.elim (N4.out j) (N3.out j)⟩,B3.out⟩
 ·have hpm : p = L:=by have:=HM.out; omega
  have hmi : ¬ (m : Int) <= (L : Int):=by omega
  subst hpm
  clear HM
  go_enter Tryz.func177,Tryz.ntmps177
  go_wp2_with fail
  refine beginW (S:=fun _ => True) (t:=9) (by kernel_rfl) ?_
  refine tkW 0 (some 10) (.move (.tmp 0)) (Value.slice a p cap) ?hy trivial ?_
  case hy =>
   rintro o ho w' _
   first | (go_simp; done) | (go_simp; omega)
  simp only [Act.put,qa,qb,qc]
  refine tkW 1 (some 11) (.move (.tmp 1)) (Value.int .i64 (p : Int)) ?hy trivial ?_
  case hy =>
   rintro o ho w' _
   first | (go_simp; done) | (go_simp; omega)
  simp only [Act.put,qa,qb,qc]
  refine tkW 2 (some 12) (.slice 56 (.tmp 10) none (some (.tmp 11)) none) (sliced a 0 p cap 1) ?hy trivial ?_
  case hy =>
   rintro o ho w' _
   unfold execOp
   simp only [ho,Option.map_some,Option.map_none,Sem.run_bind]
   erw [U1.out w']
   rfl
  simp only [Act.put,qa,qb,qc]
  refine tkW 4 (some 14) (.move (.tmp 0)) (Value.slice a p cap) ?hy trivial ?_
  case hy =>
   rintro o ho w' _
   first | (go_simp; done) | (go_simp; omega)
  simp only [Act.put,qa,qb,qc]
  refine tkW 5 (some 15) (.move (.tmp 1)) (Value.int .i64 (p : Int)) ?hy trivial ?_
  case hy =>
   rintro o ho w' _
   first | (go_simp; done) | (go_simp; omega)
  simp only [Act.put,qa,qb,qc]
  refine tkW 6 (some 16) (.slice 56 (.tmp 14) (some (.tmp 15)) none none) (sliced a p p cap 1) ?hy trivial ?_
  case hy =>
   rintro o ho w' _
   unfold execOp
   simp only [ho,Option.map_some,Option.map_none,Sem.run_bind]
   erw [U2.out w']
   rfl
  simp only [Act.put,qa,qb,qc]
  refine rdW 3 (some 13) (.call { callee:=.value (.func 191),args:=#[.tmp 12],argTypes:=#[56] }) ?_
  rintro o K hd ho hg hK
  refine zd9 (enters_of Tryz.func191 (by kernel_rfl) rfl) ho (vs:=#[sliced a 0 p cap 1]) (by kernel_rfl) (HC.out _ _ _ h0 (R1H.out.below h0) HT.out.1 HT.out.2) ?_
  rintro e w2 ⟨⟨v2,rfl,hr2,hn2⟩,hb2⟩
  have B2 : Hid (Below w.heap.size w w2):=h0.trans (hb2.mono (zn6 _))
  have RR2:=hideN hr2
  have N2 : Hid (∀ j,v2.ownBlock = some j -> w.heap.size <= j /\ j < w2.heap.size):=hn2
  clear hr2 hn2 hb2
  refine ⟨_,rfl,?_⟩
  rw [hd]
  refine hK _ _ (fun _ => trivial) ?_
  clear ho hd hg hK
  simp only [Act.put,qa,qb,qc]
  refine rdW 7 (some 17) (.call { callee:=.value (.func 191),args:=#[.tmp 16],argTypes:=#[56] }) ?_
  rintro o K hd ho hg hK
  refine zd9 (enters_of Tryz.func191 (by kernel_rfl) rfl) ho (vs:=#[sliced a p p cap 1]) (by kernel_rfl) (HC.out _ _ _ B2.out (R2H.out.below B2.out) HD.out.1 HD.out.2) ?_
  rintro e w3 ⟨⟨v3,rfl,hr3,hn3⟩,hb3⟩
  have B3 : Hid (Below w.heap.size w w3):=B2.out.trans (hb3.mono B2.out.size)
  have RR3:=hideN hr3
  have RR4:=hideN (RR2.out.below hb3)
  have N3 : Hid (∀ j,v3.ownBlock = some j -> w.heap.size <= j /\ j < w3.heap.size):=fun j hj => ⟨zn2 B2.out.size (hn3 j hj).1,(hn3 j hj).2⟩
  have N4 : Hid (∀ j,v2.ownBlock = some j -> w.heap.size <= j /\ j < w3.heap.size):=fun j hj => ⟨(N2.out j hj).1,zn1 (N2.out j hj).2 hb3.size⟩
  clear hr3 hn3 hb3
  refine ⟨_,rfl,?_⟩
  rw [hd]
  refine hK _ _ (fun _ => trivial) ?_
  clear ho hd hg hK
  simp only [Act.put,qa,qb,qc]
  refine rdW 8 (some 4) (.assign (.tmp 13)) ?_
  rintro o K hd ho hg hK
  refine stepY (v:=v2) ?hy ?_
  case hy => go_simp
  rw [hd]
  refine hK _ _ (fun _ => trivial) ?_
  clear ho hd hg hK
  simp only [Act.put,qa,qb,qc]
  refine rdW 9 (some 5) (.assign (.tmp 17)) ?_
  rintro o K hd ho hg hK
  refine stepY (v:=v3) ?hy ?_
  case hy => go_simp
  rw [hd]
  refine hK _ _ (fun e => absurd rfl e) ?_
  clear ho hd hg hK
  simp only [Act.put,qa,qb,qc]
  refine doneW (by kernel_rfl) ?_ _
  go_wp2_with fail
  go_ret2
  exact ⟨⟨_,_,rfl,RR4.out,RR3.out,fun j hj => hj.elim (N4.out j) (N3.out j)⟩,B3.out⟩
section
variable {P : Program} {md : Region.Mode} {ops : Array Oper} {Q : Exit -> Act -> World -> Prop} {S : World -> Prop} {t fuel : Nat} {listed : Array Bool} {a : Act} {w : World}
theorem zcj9 (i j : Nat) (d : Option Tmp) (x : Op) (d' : Option Tmp) (x' : Op) (hi : opIs ops i d x) (hj : opIs ops j d' x') (hr : Region.ready md ops listed = [i,j]) (h : StepW P md ops Q S t fuel listed a w i d x) (h' : StepW P md ops Q S t fuel listed a w j d' x') : walkT P md ops Q S t (fuel + 1) listed a w:=by
 refine ⟨fun h0 => (by rw [hr] at h0; cases h0),fun q hq => ?_⟩
 rw [hr] at hq
 have : q = i ∨ q = j:=by simpa using hq
 rcases this with rfl | rfl
 ·exact zcf9 hi h
 ·exact zcf9 hj h'
theorem zpb9 (i j k : Nat) (d : Option Tmp) (x : Op) (d' : Option Tmp) (x' : Op) (d'' : Option Tmp) (x'' : Op) (hi : opIs ops i d x) (hj : opIs ops j d' x') (hk : opIs ops k d'' x'') (hr : Region.ready md ops listed = [i,j,k]) (h : StepW P md ops Q S t fuel listed a w i d x) (h' : StepW P md ops Q S t fuel listed a w j d' x') (h'' : StepW P md ops Q S t fuel listed a w k d'' x'') : walkT P md ops Q S t (fuel + 1) listed a w:=by
 refine ⟨fun h0 => (by rw [hr] at h0; cases h0),fun q hq => ?_⟩
 rw [hr] at hq
 have : q = i ∨ q = j ∨ q = k:=by simpa using hq
 rcases this with rfl | rfl | rfl
 ·exact zcf9 hi h
 ·exact zcf9 hj h'
 ·exact zcf9 hk h''
end
theorem zid9 {w w' : World} {g : Nat} {x y : Value} (h : w.cell? ⟨g,0,none⟩ = some x /\ w.cell? ⟨g,1,none⟩ = some y) (hb : Below w.heap.size w w') : w'.cell? ⟨g,0,none⟩ = some x /\ w'.cell? ⟨g,1,none⟩ = some y:=
 ⟨by rw [hb.cell (p:=⟨g,0,none⟩) (World.block_lt_of_cell? w ⟨g,0,none⟩ h.1)]; exact h.1,by rw [hb.cell (p:=⟨g,1,none⟩) (World.block_lt_of_cell? w ⟨g,1,none⟩ h.2)]; exact h.2⟩
theorem zae9 (w : World) (x y : Value) (e : TypeId) : (w.alloc (.cells #[x,y] e)).cell? ⟨w.heap.size,0,none⟩ = some x /\ (w.alloc (.cells #[x,y] e)).cell? ⟨w.heap.size,1,none⟩ = some y:=by
 constructor
 ·rw [cell_of_row _ w.heap.size 0 _ _ (0,0) (heap_alloc_new w _)]; rfl
 ·rw [cell_of_row _ w.heap.size 1 _ _ (0,0) (heap_alloc_new w _)]; rfl
section
variable {o : Oper} {a : Act} {w : World} {K : Act -> World -> Prop} {Q : Exit -> Act -> World -> Prop}
theorem zt9 (x y : Operand) (ho : o.op = Op.buildSlice 261 2 #[(0,x),(1,y)]) (p q : Value) (hx : a.eval x = p) (hy : a.eval y = q) (hp : p.cells = #[p]) (hq : q.cells = #[q])
  (h : K (a.put o.dst (.slice (some ⟨w.heap.size,0,none⟩) 2 2)) (w.alloc (.cells #[p,q] 91))) : Oper.wp Tryz.prog o a w K Q:=by
 have hrun : (Instr.buildSlice 261 2 #[(0,p),(1,q)]).run Tryz.prog w = .ok (.slice (some ⟨w.heap.size,0,none⟩) 2 2) (w.alloc (.cells #[p,q] 91)):=by
  obtain ⟨i,hi,hz,h1,hb⟩:=info_parts (P:=Tryz.prog) (e:=91) (z:=.slice none 0 0) (size:=1) (bytes:=24) (by kernel_rfl)
  refine run_buildSlice w _ 91 2 _ _ i _ Tryz.underlying261 hi hz (by rw [h1]; decide) (by rw [h1]; decide) ?_
  rw [h1]
  exact Go.Great.fill_flat [p,q] _ (fun u hu => by simp at hu; rcases hu with rfl | rfl <;> assumption) (by simp)
 unfold Oper.wp
 simp [execOp,ho,hx,hy,hrun,Result.andThen]
 exact h
theorem zak9 (x y : Operand) (ho : o.op = Op.buildSlice 263 2 #[(0,x),(1,y)]) (p q : Value) (hx : a.eval x = p) (hy : a.eval y = q) (hp : p.cells = #[p]) (hq : q.cells = #[q])
  (h : K (a.put o.dst (.slice (some ⟨w.heap.size,0,none⟩) 2 2)) (w.alloc (.cells #[p,q] 56))) : Oper.wp Tryz.prog o a w K Q:=by
 have hrun : (Instr.buildSlice 263 2 #[(0,p),(1,q)]).run Tryz.prog w = .ok (.slice (some ⟨w.heap.size,0,none⟩) 2 2) (w.alloc (.cells #[p,q] 56)):=by
  obtain ⟨i,hi,hz,h1,hb⟩:=info_parts (P:=Tryz.prog) (e:=56) (z:=.slice none 0 0) (size:=1) (bytes:=24) (by kernel_rfl)
  refine run_buildSlice w _ 56 2 _ _ i _ Tryz.underlying263 hi hz (by rw [h1]; decide) (by rw [h1]; decide) ?_
  rw [h1]
  exact Go.Great.fill_flat [p,q] _ (fun u hu => by simp at hu; rcases hu with rfl | rfl <;> assumption) (by simp)
 unfold Oper.wp
 simp [execOp,ho,hx,hy,hrun,Result.andThen]
 exact h
theorem zu9 {x y : Operand} {b : Nat} {lf lf' : Bool} {b1 b2 b3 : Option Addr} {l1 l2 l3 c1 c2 c3 : Nat} {u1 u2 u3 : Value} (ho : o.op = .store 93 x y) (hx : a.eval x = .pointer (some ⟨b,0,none⟩)) (hy : a.eval y = nod lf (.slice b1 l1 c1) (.slice b2 l2 c2) (.slice b3 l3 c3)) (hN : Nb w 93 b lf' u1 u2 u3)
  (h : K (a.put o.dst undef) ((((w.setCell ⟨b,0,none⟩ (.bool lf)).setCell ⟨b,1,none⟩ (.slice b1 l1 c1)).setCell ⟨b,2,none⟩ (.slice b2 l2 c2)).setCell ⟨b,3,none⟩ (.slice b3 l3 c3))) : Oper.wp Tryz.prog o a w K Q:=by
 have hrun : (Instr.storeAt 93 (.pointer (some ⟨b,0,none⟩)) (nod lf (.slice b1 l1 c1) (.slice b2 l2 c2) (.slice b3 l3 c3))).run Tryz.prog w = .ok () ((((w.setCell ⟨b,0,none⟩ (.bool lf)).setCell ⟨b,1,none⟩ (.slice b1 l1 c1)).setCell ⟨b,2,none⟩ (.slice b2 l2 c2)).setCell ⟨b,3,none⟩ (.slice b3 l3 c3)):=by
  have p0:=hN.c0
  have p1:=hN.c1
  have p2:=hN.c2
  have p3:=hN.c3
  have f0:=hN.fz 0
  have f1:=hN.fz 1
  have f2:=hN.fz 2
  have f3:=hN.fz 3
  unfold nod
  go_simp
 unfold Oper.wp execOp
 simp only [ho,hx,hy,Sem.run_bind,Sem.run_pure,Result.andThen_ok,hrun]
 exact h
end
theorem zny9 {P : Program} {md : Region.Mode} {ops : Array Oper} {Q : Exit -> Act -> World -> Prop} {S : World -> Prop} {t fuel : Nat} {listed : Array Bool} {a : Act} {w : World} (h : ∀ G : Nat -> Array Bool -> Act -> World -> Prop,Hid (∀ f l a w,walkT P md ops Q S t f l a w ↔ G f l a w) -> G fuel listed a w) : walkT P md ops Q S t fuel listed a w:=h _ (fun _ _ _ _ => Iff.rfl)
def Js (b : Nat) (lf mf : Bool) (A1 A2 A3 B1 B2 B3 : Value) (X : World) : Prop:=Nb X 93 b lf A1 A2 A3 /\ Nb X 93 (b + 1) mf B1 B2 B3 /\ Nb X 93 (b + 2) false (.slice none 0 0) (.slice none 0 0) (.slice none 0 0)
theorem Js.below {b : Nat} {lf mf : Bool} {A1 A2 A3 B1 B2 B3 : Value} {X Y : World} (h : Js b lf mf A1 A2 A3 B1 B2 B3 X) (hb : Below X.heap.size X Y) : Js b lf mf A1 A2 A3 B1 B2 B3 Y:=⟨h.1.below hb,h.2.1.below hb,h.2.2.below hb⟩
def Je (X : World) (g : Nat) (A B : Value) : Prop:=X.cell? ⟨g,0,none⟩ = some A /\ X.cell? ⟨g,1,none⟩ = some B
theorem Je.below {X Y : World} {g : Nat} {A B : Value} (h : Je X g A B) (hb : Below X.heap.size X Y) : Je Y g A B:=zid9 h hb
def Jv (W X : World) (v : Value) (xs : List Value) : Prop:=RdV X v xs /\ ∀ q,v.ownBlock = some q -> W.heap.size <= q /\ q < X.heap.size
theorem Jv.below {W X Y : World} {v : Value} {xs : List Value} (h : Jv W X v xs) (hb : Below X.heap.size X Y) : Jv W Y v xs:=⟨h.1.below hb,fun q hq => ⟨(h.2 q hq).1,zn1 (h.2 q hq).2 hb.size⟩⟩
theorem Jv.fits {W X Y w : World} {v : Value} {xs : List Value} (h : Jv W X v xs) (h1 : w.heap.size <= W.heap.size) (h2 : X.heap.size <= Y.heap.size) : ∀ j,v.ownBlock = some j -> w.heap.size <= j /\ j < Y.heap.size:=fun j hj => ⟨zn2 h1 (h.2 j hj).1,zn1 (h.2 j hj).2 h2⟩
def jt (b : Nat) (lf mf : Bool) (A1 A2 A3 B1 B2 B3 x0 y0 x1 y1 x2 y2 : Value) : Act:={ tmps:=#[.agg #[.bool lf,A1,A2,A3],.agg #[.bool mf,B1,B2,B3],.pointer (some ⟨b,0,none⟩),.pointer (some ⟨b + 1,0,none⟩),.pointer (some ⟨b + 2,0,none⟩),.pointer (some ⟨b,0,none⟩),.bool lf,.pointer (some ⟨b,1,none⟩),A1,.pointer (some ⟨b + 1,1,none⟩),B1,x0,y0,.pointer (some ⟨b,2,none⟩),A2,.pointer (some ⟨b + 1,2,none⟩),B2,x1,y1,.pointer (some ⟨b,3,none⟩),A3,.pointer (some ⟨b + 1,3,none⟩),B3,x2,y2,undef],defers:=[] }
def joinN (n m : Nd) : Nd:={ lf:=n.lf,ks:=n.ks ++ m.ks,vs:=n.vs ++ m.vs,kd:=n.kd ++ m.kd }
theorem zbv9 (n m : Nd) (u1 u2 u3 v1 v2 v3 : Value) (w : World) (hn : Nn w n u1 u2 u3) (hm : Nn w m v1 v2 v3)
  (z1 : (n.ks.length + m.ks.length) * 16 <= 140737488355328) (z2 : (n.vs.length + m.vs.length) * 16 <= 140737488355328) (z3 : (n.kd.length + m.kd.length) * 8 <= 140737488355328) :
  Calls Tryz.prog 174 #[nod n.lf u1 u2 u3,nod m.lf v1 v2 v3] w fun e w' => (∃ x1 x2 x3,e = .returned (nod n.lf x1 x2 x3) /\ Nn w' (joinN n m) x1 x2 x3 /\ (∀ j,x1.ownBlock = some j -> w.heap.size <= j /\ j < w'.heap.size) /\ (∀ j,x2.ownBlock = some j -> w.heap.size <= j /\ j < w'.heap.size) /\ (∀ j,x3.ownBlock = some j -> w.heap.size <= j /\ j < w'.heap.size)) /\ Below w.heap.size w w':=by
 obtain ⟨a1,c1,a2,c2,a3,c3,rfl,rfl,rfl,_,_,_,_⟩:=hn.out
 obtain ⟨d1,f1,d2,f2,d3,f3,rfl,rfl,rfl,_,_,_,_⟩:=hm.out
 have HM:=hideN hm
 have HN:=hideN hn
 have HZ1:=hideN z1
 have HZ2:=hideN z2
 have HZ3:=hideN z3
 obtain ⟨L1,hL1⟩:=exH n.ks.length
 obtain ⟨L2,hL2⟩:=exH n.vs.length
 obtain ⟨L3,hL3⟩:=exH n.kd.length
 obtain ⟨M1,hM1⟩:=exH m.ks.length
 obtain ⟨M2,hM2⟩:=exH m.vs.length
 obtain ⟨M3,hM3⟩:=exH m.kd.length
 rw [hL1.out,hL2.out,hL3.out] at HN
 rw [hM1.out,hM2.out,hM3.out] at HM
 rw [hL1.out,hL2.out,hL3.out,hM1.out,hM2.out,hM3.out]
 obtain ⟨lf,hlf⟩:=exH n.lf
 obtain ⟨mf,hmf⟩:=exH m.lf
 rw [hlf.out,hmf.out]
 obtain ⟨W1,hW1⟩:=exN (w.alloc (.cells #[.bool lf,.slice a1 L1 c1,.slice a2 L2 c2,.slice a3 L3 c3] 93))
 obtain ⟨W2,hW2⟩:=exN (W1.alloc (.cells #[.bool mf,.slice d1 M1 f1,.slice d2 M2 f2,.slice d3 M3 f3] 93))
 obtain ⟨W3,hW3⟩:=exN (W2.alloc (.cells #[.bool false,.slice none 0 0,.slice none 0 0,.slice none 0 0] 93))
 have s1 : W1.heap.size = w.heap.size + 1:=by rw [<- hW1]; simp
 have s2 : W2.heap.size = w.heap.size + 2:=by rw [<- hW2]; simp [s1]
 have s3 : Hid (W3.heap.size = w.heap.size + 3):=by rw [<- hW3]; simp [s2,Hid]
 have b1 : Below w.heap.size w W1:=by rw [<- hW1]; exact za9 _ _
 have b2 : Below W1.heap.size W1 W2:=by rw [<- hW2]; exact za9 _ _
 have b3 : Below W2.heap.size W2 W3:=by rw [<- hW3]; exact za9 _ _
 have BW3 : Hid (Below w.heap.size w W3):=(b1.trans (b2.mono b1.size)).trans (b3.mono (b1.trans (b2.mono b1.size)).size)
 have X1 : Nb W1 93 w.heap.size lf (.slice a1 L1 c1) (.slice a2 L2 c2) (.slice a3 L3 c3):=by rw [<- hW1]; exact nb_new _ _ _ _ _ _
 have Y2 : Nb W2 93 (w.heap.size + 1) mf (.slice d1 M1 f1) (.slice d2 M2 f2) (.slice d3 M3 f3):=by rw [<- hW2,<- s1]; exact nb_new _ _ _ _ _ _
 have Z3 : Nb W3 93 (w.heap.size + 2) false (.slice none 0 0) (.slice none 0 0) (.slice none 0 0):=by rw [<- hW3,<- s2]; exact nb_new _ _ _ _ _ _
 have SS : Hid (Nb W3 93 w.heap.size lf (.slice a1 L1 c1) (.slice a2 L2 c2) (.slice a3 L3 c3) /\ Nb W3 93 (w.heap.size + 1) mf (.slice d1 M1 f1) (.slice d2 M2 f2) (.slice d3 M3 f3) /\ Nb W3 93 (w.heap.size + 2) false (.slice none 0 0) (.slice none 0 0) (.slice none 0 0)):=⟨(X1.below b2).below b3,Y2.below b3,Z3⟩
 have HC1 : Hid (∀ (g : Nat) (W : World),Below W3.heap.size W3 W -> (W.cell? ⟨g,0,none⟩ = some (.slice a1 L1 c1) /\ W.cell? ⟨g,1,none⟩ = some (.slice d1 M1 f1)) -> Calls Tryz.prog 188 #[.slice (some ⟨g,0,none⟩) 2 2] W fun e w' => (∃ v',e = .returned v' /\ OwnsV 9 w' v' (strs n.ks ++ strs m.ks) /\ ∀ j,v'.ownBlock = some j -> W.heap.size <= j) /\ Below W.heap.size W w'):=fun g W hb hc =>
  zdo9 g _ _ _ _ W ((HN.out.below BW3.out).below hb).k ((HM.out.below BW3.out).below hb).k (zao9 _) (zao9 _) (by rw [zh9,zh9]; exact HZ1.out) hc.1 hc.2
 have HC2 : Hid (∀ (g : Nat) (W : World),Below W3.heap.size W3 W -> (W.cell? ⟨g,0,none⟩ = some (.slice a2 L2 c2) /\ W.cell? ⟨g,1,none⟩ = some (.slice d2 M2 f2)) -> Calls Tryz.prog 188 #[.slice (some ⟨g,0,none⟩) 2 2] W fun e w' => (∃ v',e = .returned v' /\ OwnsV 9 w' v' (strs n.vs ++ strs m.vs) /\ ∀ j,v'.ownBlock = some j -> W.heap.size <= j) /\ Below W.heap.size W w'):=fun g W hb hc =>
  zdo9 g _ _ _ _ W ((HN.out.below BW3.out).below hb).v ((HM.out.below BW3.out).below hb).v (zao9 _) (zao9 _) (by rw [zh9,zh9]; exact HZ2.out) hc.1 hc.2
 have HC3 : Hid (∀ (g : Nat) (W : World),Below W3.heap.size W3 W -> (W.cell? ⟨g,0,none⟩ = some (.slice a3 L3 c3) /\ W.cell? ⟨g,1,none⟩ = some (.slice d3 M3 f3)) -> Calls Tryz.prog 189 #[.slice (some ⟨g,0,none⟩) 2 2] W fun e w' => (∃ v',e = .returned v' /\ OwnsV 3 w' v' (nums n.kd ++ nums m.kd) /\ ∀ j,v'.ownBlock = some j -> W.heap.size <= j) /\ Below W.heap.size W w'):=fun g W hb hc =>
  zie9 g _ _ _ _ W ((HN.out.below BW3.out).below hb).d ((HM.out.below BW3.out).below hb).d (zcz9 _) (zcz9 _) (by rw [zn9,zn9]; exact HZ3.out) hc.1 hc.2
 clear hn hm b1 b2 b3 X1 Y2 Z3 z1 z2 z3 HN HM HZ1 HZ2 HZ3
 unfold nod
 go_enter Tryz.func174,Tryz.ntmps174
 go_wp2_with fail
 refine beginW (S:=Js w.heap.size lf mf (.slice a1 L1 c1) (.slice a2 L2 c2) (.slice a3 L3 c3) (.slice d1 M1 f1) (.slice d2 M2 f2) (.slice d3 M3 f3)) (t:=21) (by kernel_rfl) ?_
 have B0 : Hid (Below W3.heap.size W3 W3.drew):=(Below.refl _ _).drew
 have S0 : Hid (Js w.heap.size lf mf (.slice a1 L1 c1) (.slice a2 L2 c2) (.slice a3 L3 c3) (.slice d1 M1 f1) (.slice d2 M2 f2) (.slice d3 M3 f3) W3.drew):=⟨SS.out.1.below B0.out,SS.out.2.1.below B0.out,SS.out.2.2.below B0.out⟩
 obtain ⟨X0,hX0⟩:=exN W3.drew
 rw [hX0] at B0 S0 ⊢
 refine zny9 fun G HG => ?_
 have T012_3 : Hid (∀ (f : Nat) (l : Array Bool) (X : World) (g0 : Nat) (g1 : Nat) (g2 : Nat) (v0 : Value) (v1 : Value) (v2 : Value),f = 2 -> l = #[true,true,true,true,true,true,true,true,true,true,true,true,true,true,true,true,true,true,true,true,false,false] -> Below W3.heap.size W3 X -> Js w.heap.size lf mf (.slice a1 L1 c1) (.slice a2 L2 c2) (.slice a3 L3 c3) (.slice d1 M1 f1) (.slice d2 M2 f2) (.slice d3 M3 f3) X -> Jv W3 X v0 (strs n.ks ++ strs m.ks) -> Jv W3 X v1 (strs n.vs ++ strs m.vs) -> Jv W3 X v2 (nums n.kd ++ nums m.kd) -> G f l (jt w.heap.size lf mf (.slice a1 L1 c1) (.slice a2 L2 c2) (.slice a3 L3 c3) (.slice d1 M1 f1) (.slice d2 M2 f2) (.slice d3 M3 f3) (.slice (some ⟨g0,0,none⟩) 2 2) v0 (.slice (some ⟨g1,0,none⟩) 2 2) v1 (.slice (some ⟨g2,0,none⟩) 2 2) v2) X):=by
  rintro f l X g0 g1 g2 v0 v1 v2 rfl rfl B S r0 r1 r2
  have B:=hideN B
  have S:=hideN S
  have r0:=hideN r0
  have r1:=hideN r1
  have r2:=hideN r2
  refine (HG.out _ _ _ _).1 ?_
  unfold jt
  obtain ⟨x0,y0,e0⟩:=r0.out.1.long
  obtain ⟨x1,y1,e1⟩:=r1.out.1.long
  obtain ⟨x2,y2,e2⟩:=r2.out.1.long
  obtain ⟨q0,hq0⟩:=exH ((strs n.ks ++ strs m.ks).length)
  obtain ⟨q1,hq1⟩:=exH ((strs n.vs ++ strs m.vs).length)
  obtain ⟨q2,hq2⟩:=exH ((nums n.kd ++ nums m.kd).length)
  rw [hq0.out] at e0
  rw [hq1.out] at e1
  rw [hq2.out] at e2
  subst e0 e1 e2
  refine rdW 20 (some 25) (.build 93 #[(0,.tmp 6),(1,.tmp 12),(2,.tmp 18),(3,.tmp 24)]) ?_
  rintro o K hd ho hg hK
  refine stepY (v:=nod lf (.slice x0 q0 y0) (.slice x1 q1 y1) (.slice x2 q2 y2)) ?hy ?_
  case hy => unfold nod; go_simp
  rw [hd]
  refine hK _ _ (fun _ => S.out) ?_
  clear ho hd hg hK
  simp only [Act.put,qa,qb,qc]
  refine rdW 21 none (.store 93 (.tmp 4) (.tmp 25)) ?_
  rintro o K hd ho hg hK
  refine zu9 ho rfl rfl S.out.2.2 ?_
  rw [hd]
  refine hK _ _ (fun e => absurd rfl e) ?_
  refine doneW (by kernel_rfl) ?_ _
  clear ho hd hg hK
  simp only [Act.put]
  have YA:=S.out.2.2.all lf (.slice x0 q0 y0) (.slice x1 q1 y1) (.slice x2 q2 y2)
  have tA:=zg9 X (w.heap.size + 2) (.bool lf) (.slice x0 q0 y0) (.slice x1 q1 y1) (.slice x2 q2 y2)
  obtain ⟨XA,hXA⟩:=exH ((((X.setCell ⟨w.heap.size + 2,0,none⟩ (.bool lf)).setCell ⟨w.heap.size + 2,1,none⟩ (.slice x0 q0 y0)).setCell ⟨w.heap.size + 2,2,none⟩ (.slice x1 q1 y1)).setCell ⟨w.heap.size + 2,3,none⟩ (.slice x2 q2 y2))
  rw [hXA.out] at YA tA ⊢
  have LA:=hideN YA.load
  have NA : Hid (Nn XA (joinN n m) (.slice x0 q0 y0) (.slice x1 q1 y1) (.slice x2 q2 y2)):=by
   refine ⟨?_,?_,?_⟩
   ·have:=r0.out.1.tch tA (fun j hj e => by have:=(r0.out.2 j hj).1; have:=s3.out; omega)
    simpa [joinN,strs] using this
   ·have:=r1.out.1.tch tA (fun j hj e => by have:=(r1.out.2 j hj).1; have:=s3.out; omega)
    simpa [joinN,strs] using this
   ·have:=r2.out.1.tch tA (fun j hj e => by have:=(r2.out.2 j hj).1; have:=s3.out; omega)
    simpa [joinN,nums] using this
  have BA : Hid (Below w.heap.size w XA):=BW3.out.trans ((B.out.mono BW3.out.size).trans (tA.below (zn2 BW3.out.size B.out.size) (fun j e => by omega)))
  have UA : Hid (X.heap.size <= XA.heap.size):=tA.size
  clear YA tA hXA HG
  go_wp2_with fail
  refine bodyPost_ret (v:=nod lf (.slice x0 q0 y0) (.slice x1 q1 y1) (.slice x2 q2 y2)) (zat9 (p:=4) (ty:=93) rfl _ _ _ (w.heap.size + 2) _ rfl LA.out) rfl ?_
  exact ⟨⟨_,_,_,rfl,NA.out,r0.out.fits BW3.out.size UA.out,r1.out.fits BW3.out.size UA.out,r2.out.fits BW3.out.size UA.out⟩,BA.out⟩
 have T012_2 : Hid (∀ (f : Nat) (l : Array Bool) (X : World) (g0 : Nat) (g1 : Nat) (g2 : Nat) (v0 : Value) (v1 : Value),f = 3 -> l = #[true,true,true,true,true,true,true,true,true,true,true,true,true,true,true,true,true,true,true,false,false,false] -> Below W3.heap.size W3 X -> Js w.heap.size lf mf (.slice a1 L1 c1) (.slice a2 L2 c2) (.slice a3 L3 c3) (.slice d1 M1 f1) (.slice d2 M2 f2) (.slice d3 M3 f3) X -> Je X g2 (.slice a3 L3 c3) (.slice d3 M3 f3) -> Jv W3 X v0 (strs n.ks ++ strs m.ks) -> Jv W3 X v1 (strs n.vs ++ strs m.vs) -> G f l (jt w.heap.size lf mf (.slice a1 L1 c1) (.slice a2 L2 c2) (.slice a3 L3 c3) (.slice d1 M1 f1) (.slice d2 M2 f2) (.slice d3 M3 f3) (.slice (some ⟨g0,0,none⟩) 2 2) v0 (.slice (some ⟨g1,0,none⟩) 2 2) v1 (.slice (some ⟨g2,0,none⟩) 2 2) undef) X):=by
  rintro f l X g0 g1 g2 v0 v1 rfl rfl B S e2 r0 r1
  have B:=hideN B
  have S:=hideN S
  have e2:=hideN e2
  have r0:=hideN r0
  have r1:=hideN r1
  refine (HG.out _ _ _ _).1 ?_
  unfold jt
  refine rdW 19 (some 24) (.call { callee:=.value (.func 189),args:=#[.tmp 23],argTypes:=#[263] }) ?_
  rintro o K hd ho - hK
  refine zd9 (enters_of Tryz.func189 (by kernel_rfl) rfl) ho (vs:=#[.slice (some ⟨g2,0,none⟩) 2 2]) (by kernel_rfl) (HC3.out _ _ B.out e2.out) ?_
  rintro e Y ⟨⟨v2,rfl,ro,ng⟩,bl⟩
  refine ⟨_,rfl,?_⟩
  rw [hd]
  refine hK _ _ (fun _ => S.out.below bl) ?_
  simp only [Act.put,qa,qb,qc]
  exact (HG.out _ _ _ _).2 (T012_3.out _ _ Y g0 g1 g2 v0 v1 v2 rfl (by kernel_rfl) (B.out.trans (bl.mono B.out.size)) (S.out.below bl) (r0.out.below bl) (r1.out.below bl) ⟨ro.rd,fun q hq => ⟨zn2 B.out.size (ng q hq),ro.lt q hq⟩⟩)
 have T012_1 : Hid (∀ (f : Nat) (l : Array Bool) (X : World) (g0 : Nat) (g1 : Nat) (g2 : Nat) (v0 : Value),f = 4 -> l = #[true,true,true,true,true,true,true,true,true,true,true,true,true,false,true,true,true,true,true,false,false,false] -> Below W3.heap.size W3 X -> Js w.heap.size lf mf (.slice a1 L1 c1) (.slice a2 L2 c2) (.slice a3 L3 c3) (.slice d1 M1 f1) (.slice d2 M2 f2) (.slice d3 M3 f3) X -> Je X g1 (.slice a2 L2 c2) (.slice d2 M2 f2) -> Je X g2 (.slice a3 L3 c3) (.slice d3 M3 f3) -> Jv W3 X v0 (strs n.ks ++ strs m.ks) -> G f l (jt w.heap.size lf mf (.slice a1 L1 c1) (.slice a2 L2 c2) (.slice a3 L3 c3) (.slice d1 M1 f1) (.slice d2 M2 f2) (.slice d3 M3 f3) (.slice (some ⟨g0,0,none⟩) 2 2) v0 (.slice (some ⟨g1,0,none⟩) 2 2) undef (.slice (some ⟨g2,0,none⟩) 2 2) undef) X):=by
  rintro f l X g0 g1 g2 v0 rfl rfl B S e1 e2 r0
  have B:=hideN B
  have S:=hideN S
  have e1:=hideN e1
  have e2:=hideN e2
  have r0:=hideN r0
  refine (HG.out _ _ _ _).1 ?_
  unfold jt
  refine rdW 13 (some 18) (.call { callee:=.value (.func 188),args:=#[.tmp 17],argTypes:=#[261] }) ?_
  rintro o K hd ho - hK
  refine zd9 (enters_of Tryz.func188 (by kernel_rfl) rfl) ho (vs:=#[.slice (some ⟨g1,0,none⟩) 2 2]) (by kernel_rfl) (HC2.out _ _ B.out e1.out) ?_
  rintro e Y ⟨⟨v1,rfl,ro,ng⟩,bl⟩
  refine ⟨_,rfl,?_⟩
  rw [hd]
  refine hK _ _ (fun _ => S.out.below bl) ?_
  simp only [Act.put,qa,qb,qc]
  exact (HG.out _ _ _ _).2 (T012_2.out _ _ Y g0 g1 g2 v0 v1 rfl (by kernel_rfl) (B.out.trans (bl.mono B.out.size)) (S.out.below bl) (e2.out.below bl) (r0.out.below bl) ⟨ro.rd,fun q hq => ⟨zn2 B.out.size (ng q hq),ro.lt q hq⟩⟩)
 have T01_2 : Hid (∀ (f : Nat) (l : Array Bool) (X : World) (g0 : Nat) (g1 : Nat) (v0 : Value) (v1 : Value),f = 4 -> l = #[true,true,true,true,true,true,true,true,true,true,true,true,true,true,true,true,true,true,false,false,false,false] -> Below W3.heap.size W3 X -> Js w.heap.size lf mf (.slice a1 L1 c1) (.slice a2 L2 c2) (.slice a3 L3 c3) (.slice d1 M1 f1) (.slice d2 M2 f2) (.slice d3 M3 f3) X -> Jv W3 X v0 (strs n.ks ++ strs m.ks) -> Jv W3 X v1 (strs n.vs ++ strs m.vs) -> G f l (jt w.heap.size lf mf (.slice a1 L1 c1) (.slice a2 L2 c2) (.slice a3 L3 c3) (.slice d1 M1 f1) (.slice d2 M2 f2) (.slice d3 M3 f3) (.slice (some ⟨g0,0,none⟩) 2 2) v0 (.slice (some ⟨g1,0,none⟩) 2 2) v1 undef undef) X):=by
  rintro f l X g0 g1 v0 v1 rfl rfl B S r0 r1
  have B:=hideN B
  have S:=hideN S
  have r0:=hideN r0
  have r1:=hideN r1
  refine (HG.out _ _ _ _).1 ?_
  unfold jt
  refine rdW 18 (some 23) (.buildSlice 263 2 #[(0,.tmp 20),(1,.tmp 22)]) ?_
  rintro o K hd ho - hK
  refine zak9 (.tmp 20) (.tmp 22) ho (.slice a3 L3 c3) (.slice d3 M3 f3) rfl rfl rfl rfl ?_
  rw [hd]
  obtain ⟨g2,hg⟩:=exN X.heap.size
  obtain ⟨Y,hX⟩:=exN (X.alloc (.cells #[.slice a3 L3 c3,.slice d3 M3 f3] 56))
  have bl : Below X.heap.size X Y:=by rw [<- hX]; exact za9 _ _
  rw [hX,hg]
  refine hK _ _ (fun _ => S.out.below bl) ?_
  simp only [Act.put,qa,qb,qc]
  exact (HG.out _ _ _ _).2 (T012_2.out _ _ Y g0 g1 g2 v0 v1 rfl (by kernel_rfl) (B.out.trans (bl.mono B.out.size)) (S.out.below bl) (by rw [<- hX,<- hg]; exact zae9 _ _ _ _) (r0.out.below bl) (r1.out.below bl))
 have T012_0 : Hid (∀ (f : Nat) (l : Array Bool) (X : World) (g0 : Nat) (g1 : Nat) (g2 : Nat),f = 5 -> l = #[true,true,true,true,true,true,true,false,true,true,true,true,true,false,true,true,true,true,true,false,false,false] -> Below W3.heap.size W3 X -> Js w.heap.size lf mf (.slice a1 L1 c1) (.slice a2 L2 c2) (.slice a3 L3 c3) (.slice d1 M1 f1) (.slice d2 M2 f2) (.slice d3 M3 f3) X -> Je X g0 (.slice a1 L1 c1) (.slice d1 M1 f1) -> Je X g1 (.slice a2 L2 c2) (.slice d2 M2 f2) -> Je X g2 (.slice a3 L3 c3) (.slice d3 M3 f3) -> G f l (jt w.heap.size lf mf (.slice a1 L1 c1) (.slice a2 L2 c2) (.slice a3 L3 c3) (.slice d1 M1 f1) (.slice d2 M2 f2) (.slice d3 M3 f3) (.slice (some ⟨g0,0,none⟩) 2 2) undef (.slice (some ⟨g1,0,none⟩) 2 2) undef (.slice (some ⟨g2,0,none⟩) 2 2) undef) X):=by
  rintro f l X g0 g1 g2 rfl rfl B S e0 e1 e2
  have B:=hideN B
  have S:=hideN S
  have e0:=hideN e0
  have e1:=hideN e1
  have e2:=hideN e2
  refine (HG.out _ _ _ _).1 ?_
  unfold jt
  refine rdW 7 (some 12) (.call { callee:=.value (.func 188),args:=#[.tmp 11],argTypes:=#[261] }) ?_
  rintro o K hd ho - hK
  refine zd9 (enters_of Tryz.func188 (by kernel_rfl) rfl) ho (vs:=#[.slice (some ⟨g0,0,none⟩) 2 2]) (by kernel_rfl) (HC1.out _ _ B.out e0.out) ?_
  rintro e Y ⟨⟨v0,rfl,ro,ng⟩,bl⟩
  refine ⟨_,rfl,?_⟩
  rw [hd]
  refine hK _ _ (fun _ => S.out.below bl) ?_
  simp only [Act.put,qa,qb,qc]
  exact (HG.out _ _ _ _).2 (T012_1.out _ _ Y g0 g1 g2 v0 rfl (by kernel_rfl) (B.out.trans (bl.mono B.out.size)) (S.out.below bl) (e1.out.below bl) (e2.out.below bl) ⟨ro.rd,fun q hq => ⟨zn2 B.out.size (ng q hq),ro.lt q hq⟩⟩)
 have T01_1 : Hid (∀ (f : Nat) (l : Array Bool) (X : World) (g0 : Nat) (g1 : Nat) (v0 : Value),f = 5 -> l = #[true,true,true,true,true,true,true,true,true,true,true,true,true,false,true,true,true,true,false,false,false,false] -> Below W3.heap.size W3 X -> Js w.heap.size lf mf (.slice a1 L1 c1) (.slice a2 L2 c2) (.slice a3 L3 c3) (.slice d1 M1 f1) (.slice d2 M2 f2) (.slice d3 M3 f3) X -> Je X g1 (.slice a2 L2 c2) (.slice d2 M2 f2) -> Jv W3 X v0 (strs n.ks ++ strs m.ks) -> G f l (jt w.heap.size lf mf (.slice a1 L1 c1) (.slice a2 L2 c2) (.slice a3 L3 c3) (.slice d1 M1 f1) (.slice d2 M2 f2) (.slice d3 M3 f3) (.slice (some ⟨g0,0,none⟩) 2 2) v0 (.slice (some ⟨g1,0,none⟩) 2 2) undef undef undef) X):=by
  rintro f l X g0 g1 v0 rfl rfl B S e1 r0
  have B:=hideN B
  have S:=hideN S
  have e1:=hideN e1
  have r0:=hideN r0
  refine (HG.out _ _ _ _).1 ?_
  unfold jt
  refine zcj9 13 18 (some 18) (.call { callee:=.value (.func 188),args:=#[.tmp 17],argTypes:=#[261] }) (some 23) (.buildSlice 263 2 #[(0,.tmp 20),(1,.tmp 22)]) rfl rfl (by kernel_rfl) ?_ ?_
  ·rintro o K hd ho - hK
   refine zd9 (enters_of Tryz.func188 (by kernel_rfl) rfl) ho (vs:=#[.slice (some ⟨g1,0,none⟩) 2 2]) (by kernel_rfl) (HC2.out _ _ B.out e1.out) ?_
   rintro e Y ⟨⟨v1,rfl,ro,ng⟩,bl⟩
   refine ⟨_,rfl,?_⟩
   rw [hd]
   refine hK _ _ (fun _ => S.out.below bl) ?_
   simp only [Act.put,qa,qb,qc]
   exact (HG.out _ _ _ _).2 (T01_2.out _ _ Y g0 g1 v0 v1 rfl (by kernel_rfl) (B.out.trans (bl.mono B.out.size)) (S.out.below bl) (r0.out.below bl) ⟨ro.rd,fun q hq => ⟨zn2 B.out.size (ng q hq),ro.lt q hq⟩⟩)
  ·rintro o K hd ho - hK
   refine zak9 (.tmp 20) (.tmp 22) ho (.slice a3 L3 c3) (.slice d3 M3 f3) rfl rfl rfl rfl ?_
   rw [hd]
   obtain ⟨g2,hg⟩:=exN X.heap.size
   obtain ⟨Y,hX⟩:=exN (X.alloc (.cells #[.slice a3 L3 c3,.slice d3 M3 f3] 56))
   have bl : Below X.heap.size X Y:=by rw [<- hX]; exact za9 _ _
   rw [hX,hg]
   refine hK _ _ (fun _ => S.out.below bl) ?_
   simp only [Act.put,qa,qb,qc]
   exact (HG.out _ _ _ _).2 (T012_1.out _ _ Y g0 g1 g2 v0 rfl (by kernel_rfl) (B.out.trans (bl.mono B.out.size)) (S.out.below bl) (e1.out.below bl) (by rw [<- hX,<- hg]; exact zae9 _ _ _ _) (r0.out.below bl))
 have T02_1 : Hid (∀ (f : Nat) (l : Array Bool) (X : World) (g0 : Nat) (g2 : Nat) (v0 : Value),f = 5 -> l = #[true,true,true,true,true,true,true,true,true,true,true,true,false,false,true,true,true,true,true,false,false,false] -> Below W3.heap.size W3 X -> Js w.heap.size lf mf (.slice a1 L1 c1) (.slice a2 L2 c2) (.slice a3 L3 c3) (.slice d1 M1 f1) (.slice d2 M2 f2) (.slice d3 M3 f3) X -> Je X g2 (.slice a3 L3 c3) (.slice d3 M3 f3) -> Jv W3 X v0 (strs n.ks ++ strs m.ks) -> G f l (jt w.heap.size lf mf (.slice a1 L1 c1) (.slice a2 L2 c2) (.slice a3 L3 c3) (.slice d1 M1 f1) (.slice d2 M2 f2) (.slice d3 M3 f3) (.slice (some ⟨g0,0,none⟩) 2 2) v0 undef undef (.slice (some ⟨g2,0,none⟩) 2 2) undef) X):=by
  rintro f l X g0 g2 v0 rfl rfl B S e2 r0
  have B:=hideN B
  have S:=hideN S
  have e2:=hideN e2
  have r0:=hideN r0
  refine (HG.out _ _ _ _).1 ?_
  unfold jt
  refine rdW 12 (some 17) (.buildSlice 261 2 #[(0,.tmp 14),(1,.tmp 16)]) ?_
  rintro o K hd ho - hK
  refine zt9 (.tmp 14) (.tmp 16) ho (.slice a2 L2 c2) (.slice d2 M2 f2) rfl rfl rfl rfl ?_
  rw [hd]
  obtain ⟨g1,hg⟩:=exN X.heap.size
  obtain ⟨Y,hX⟩:=exN (X.alloc (.cells #[.slice a2 L2 c2,.slice d2 M2 f2] 91))
  have bl : Below X.heap.size X Y:=by rw [<- hX]; exact za9 _ _
  rw [hX,hg]
  refine hK _ _ (fun _ => S.out.below bl) ?_
  simp only [Act.put,qa,qb,qc]
  exact (HG.out _ _ _ _).2 (T012_1.out _ _ Y g0 g1 g2 v0 rfl (by kernel_rfl) (B.out.trans (bl.mono B.out.size)) (S.out.below bl) (by rw [<- hX,<- hg]; exact zae9 _ _ _ _) (e2.out.below bl) (r0.out.below bl))
 have T01_0 : Hid (∀ (f : Nat) (l : Array Bool) (X : World) (g0 : Nat) (g1 : Nat),f = 6 -> l = #[true,true,true,true,true,true,true,false,true,true,true,true,true,false,true,true,true,true,false,false,false,false] -> Below W3.heap.size W3 X -> Js w.heap.size lf mf (.slice a1 L1 c1) (.slice a2 L2 c2) (.slice a3 L3 c3) (.slice d1 M1 f1) (.slice d2 M2 f2) (.slice d3 M3 f3) X -> Je X g0 (.slice a1 L1 c1) (.slice d1 M1 f1) -> Je X g1 (.slice a2 L2 c2) (.slice d2 M2 f2) -> G f l (jt w.heap.size lf mf (.slice a1 L1 c1) (.slice a2 L2 c2) (.slice a3 L3 c3) (.slice d1 M1 f1) (.slice d2 M2 f2) (.slice d3 M3 f3) (.slice (some ⟨g0,0,none⟩) 2 2) undef (.slice (some ⟨g1,0,none⟩) 2 2) undef undef undef) X):=by
  rintro f l X g0 g1 rfl rfl B S e0 e1
  have B:=hideN B
  have S:=hideN S
  have e0:=hideN e0
  have e1:=hideN e1
  refine (HG.out _ _ _ _).1 ?_
  unfold jt
  refine zcj9 7 18 (some 12) (.call { callee:=.value (.func 188),args:=#[.tmp 11],argTypes:=#[261] }) (some 23) (.buildSlice 263 2 #[(0,.tmp 20),(1,.tmp 22)]) rfl rfl (by kernel_rfl) ?_ ?_
  ·rintro o K hd ho - hK
   refine zd9 (enters_of Tryz.func188 (by kernel_rfl) rfl) ho (vs:=#[.slice (some ⟨g0,0,none⟩) 2 2]) (by kernel_rfl) (HC1.out _ _ B.out e0.out) ?_
   rintro e Y ⟨⟨v0,rfl,ro,ng⟩,bl⟩
   refine ⟨_,rfl,?_⟩
   rw [hd]
   refine hK _ _ (fun _ => S.out.below bl) ?_
   simp only [Act.put,qa,qb,qc]
   exact (HG.out _ _ _ _).2 (T01_1.out _ _ Y g0 g1 v0 rfl (by kernel_rfl) (B.out.trans (bl.mono B.out.size)) (S.out.below bl) (e1.out.below bl) ⟨ro.rd,fun q hq => ⟨zn2 B.out.size (ng q hq),ro.lt q hq⟩⟩)
  ·rintro o K hd ho - hK
   refine zak9 (.tmp 20) (.tmp 22) ho (.slice a3 L3 c3) (.slice d3 M3 f3) rfl rfl rfl rfl ?_
   rw [hd]
   obtain ⟨g2,hg⟩:=exN X.heap.size
   obtain ⟨Y,hX⟩:=exN (X.alloc (.cells #[.slice a3 L3 c3,.slice d3 M3 f3] 56))
   have bl : Below X.heap.size X Y:=by rw [<- hX]; exact za9 _ _
   rw [hX,hg]
   refine hK _ _ (fun _ => S.out.below bl) ?_
   simp only [Act.put,qa,qb,qc]
   exact (HG.out _ _ _ _).2 (T012_0.out _ _ Y g0 g1 g2 rfl (by kernel_rfl) (B.out.trans (bl.mono B.out.size)) (S.out.below bl) (e0.out.below bl) (e1.out.below bl) (by rw [<- hX,<- hg]; exact zae9 _ _ _ _))
 have T02_0 : Hid (∀ (f : Nat) (l : Array Bool) (X : World) (g0 : Nat) (g2 : Nat),f = 6 -> l = #[true,true,true,true,true,true,true,false,true,true,true,true,false,false,true,true,true,true,true,false,false,false] -> Below W3.heap.size W3 X -> Js w.heap.size lf mf (.slice a1 L1 c1) (.slice a2 L2 c2) (.slice a3 L3 c3) (.slice d1 M1 f1) (.slice d2 M2 f2) (.slice d3 M3 f3) X -> Je X g0 (.slice a1 L1 c1) (.slice d1 M1 f1) -> Je X g2 (.slice a3 L3 c3) (.slice d3 M3 f3) -> G f l (jt w.heap.size lf mf (.slice a1 L1 c1) (.slice a2 L2 c2) (.slice a3 L3 c3) (.slice d1 M1 f1) (.slice d2 M2 f2) (.slice d3 M3 f3) (.slice (some ⟨g0,0,none⟩) 2 2) undef undef undef (.slice (some ⟨g2,0,none⟩) 2 2) undef) X):=by
  rintro f l X g0 g2 rfl rfl B S e0 e2
  have B:=hideN B
  have S:=hideN S
  have e0:=hideN e0
  have e2:=hideN e2
  refine (HG.out _ _ _ _).1 ?_
  unfold jt
  refine zcj9 7 12 (some 12) (.call { callee:=.value (.func 188),args:=#[.tmp 11],argTypes:=#[261] }) (some 17) (.buildSlice 261 2 #[(0,.tmp 14),(1,.tmp 16)]) rfl rfl (by kernel_rfl) ?_ ?_
  ·rintro o K hd ho - hK
   refine zd9 (enters_of Tryz.func188 (by kernel_rfl) rfl) ho (vs:=#[.slice (some ⟨g0,0,none⟩) 2 2]) (by kernel_rfl) (HC1.out _ _ B.out e0.out) ?_
   rintro e Y ⟨⟨v0,rfl,ro,ng⟩,bl⟩
   refine ⟨_,rfl,?_⟩
   rw [hd]
   refine hK _ _ (fun _ => S.out.below bl) ?_
   simp only [Act.put,qa,qb,qc]
   exact (HG.out _ _ _ _).2 (T02_1.out _ _ Y g0 g2 v0 rfl (by kernel_rfl) (B.out.trans (bl.mono B.out.size)) (S.out.below bl) (e2.out.below bl) ⟨ro.rd,fun q hq => ⟨zn2 B.out.size (ng q hq),ro.lt q hq⟩⟩)
  ·rintro o K hd ho - hK
   refine zt9 (.tmp 14) (.tmp 16) ho (.slice a2 L2 c2) (.slice d2 M2 f2) rfl rfl rfl rfl ?_
   rw [hd]
   obtain ⟨g1,hg⟩:=exN X.heap.size
   obtain ⟨Y,hX⟩:=exN (X.alloc (.cells #[.slice a2 L2 c2,.slice d2 M2 f2] 91))
   have bl : Below X.heap.size X Y:=by rw [<- hX]; exact za9 _ _
   rw [hX,hg]
   refine hK _ _ (fun _ => S.out.below bl) ?_
   simp only [Act.put,qa,qb,qc]
   exact (HG.out _ _ _ _).2 (T012_0.out _ _ Y g0 g1 g2 rfl (by kernel_rfl) (B.out.trans (bl.mono B.out.size)) (S.out.below bl) (e0.out.below bl) (by rw [<- hX,<- hg]; exact zae9 _ _ _ _) (e2.out.below bl))
 have T12_0 : Hid (∀ (f : Nat) (l : Array Bool) (X : World) (g1 : Nat) (g2 : Nat),f = 6 -> l = #[true,true,true,true,true,true,false,false,true,true,true,true,true,false,true,true,true,true,true,false,false,false] -> Below W3.heap.size W3 X -> Js w.heap.size lf mf (.slice a1 L1 c1) (.slice a2 L2 c2) (.slice a3 L3 c3) (.slice d1 M1 f1) (.slice d2 M2 f2) (.slice d3 M3 f3) X -> Je X g1 (.slice a2 L2 c2) (.slice d2 M2 f2) -> Je X g2 (.slice a3 L3 c3) (.slice d3 M3 f3) -> G f l (jt w.heap.size lf mf (.slice a1 L1 c1) (.slice a2 L2 c2) (.slice a3 L3 c3) (.slice d1 M1 f1) (.slice d2 M2 f2) (.slice d3 M3 f3) undef undef (.slice (some ⟨g1,0,none⟩) 2 2) undef (.slice (some ⟨g2,0,none⟩) 2 2) undef) X):=by
  rintro f l X g1 g2 rfl rfl B S e1 e2
  have B:=hideN B
  have S:=hideN S
  have e1:=hideN e1
  have e2:=hideN e2
  refine (HG.out _ _ _ _).1 ?_
  unfold jt
  refine rdW 6 (some 11) (.buildSlice 261 2 #[(0,.tmp 8),(1,.tmp 10)]) ?_
  rintro o K hd ho - hK
  refine zt9 (.tmp 8) (.tmp 10) ho (.slice a1 L1 c1) (.slice d1 M1 f1) rfl rfl rfl rfl ?_
  rw [hd]
  obtain ⟨g0,hg⟩:=exN X.heap.size
  obtain ⟨Y,hX⟩:=exN (X.alloc (.cells #[.slice a1 L1 c1,.slice d1 M1 f1] 91))
  have bl : Below X.heap.size X Y:=by rw [<- hX]; exact za9 _ _
  rw [hX,hg]
  refine hK _ _ (fun _ => S.out.below bl) ?_
  simp only [Act.put,qa,qb,qc]
  exact (HG.out _ _ _ _).2 (T012_0.out _ _ Y g0 g1 g2 rfl (by kernel_rfl) (B.out.trans (bl.mono B.out.size)) (S.out.below bl) (by rw [<- hX,<- hg]; exact zae9 _ _ _ _) (e1.out.below bl) (e2.out.below bl))
 have T0_1 : Hid (∀ (f : Nat) (l : Array Bool) (X : World) (g0 : Nat) (v0 : Value),f = 6 -> l = #[true,true,true,true,true,true,true,true,true,true,true,true,false,false,true,true,true,true,false,false,false,false] -> Below W3.heap.size W3 X -> Js w.heap.size lf mf (.slice a1 L1 c1) (.slice a2 L2 c2) (.slice a3 L3 c3) (.slice d1 M1 f1) (.slice d2 M2 f2) (.slice d3 M3 f3) X -> Jv W3 X v0 (strs n.ks ++ strs m.ks) -> G f l (jt w.heap.size lf mf (.slice a1 L1 c1) (.slice a2 L2 c2) (.slice a3 L3 c3) (.slice d1 M1 f1) (.slice d2 M2 f2) (.slice d3 M3 f3) (.slice (some ⟨g0,0,none⟩) 2 2) v0 undef undef undef undef) X):=by
  rintro f l X g0 v0 rfl rfl B S r0
  have B:=hideN B
  have S:=hideN S
  have r0:=hideN r0
  refine (HG.out _ _ _ _).1 ?_
  unfold jt
  refine zcj9 12 18 (some 17) (.buildSlice 261 2 #[(0,.tmp 14),(1,.tmp 16)]) (some 23) (.buildSlice 263 2 #[(0,.tmp 20),(1,.tmp 22)]) rfl rfl (by kernel_rfl) ?_ ?_
  ·rintro o K hd ho - hK
   refine zt9 (.tmp 14) (.tmp 16) ho (.slice a2 L2 c2) (.slice d2 M2 f2) rfl rfl rfl rfl ?_
   rw [hd]
   obtain ⟨g1,hg⟩:=exN X.heap.size
   obtain ⟨Y,hX⟩:=exN (X.alloc (.cells #[.slice a2 L2 c2,.slice d2 M2 f2] 91))
   have bl : Below X.heap.size X Y:=by rw [<- hX]; exact za9 _ _
   rw [hX,hg]
   refine hK _ _ (fun _ => S.out.below bl) ?_
   simp only [Act.put,qa,qb,qc]
   exact (HG.out _ _ _ _).2 (T01_1.out _ _ Y g0 g1 v0 rfl (by kernel_rfl) (B.out.trans (bl.mono B.out.size)) (S.out.below bl) (by rw [<- hX,<- hg]; exact zae9 _ _ _ _) (r0.out.below bl))
  ·rintro o K hd ho - hK
   refine zak9 (.tmp 20) (.tmp 22) ho (.slice a3 L3 c3) (.slice d3 M3 f3) rfl rfl rfl rfl ?_
   rw [hd]
   obtain ⟨g2,hg⟩:=exN X.heap.size
   obtain ⟨Y,hX⟩:=exN (X.alloc (.cells #[.slice a3 L3 c3,.slice d3 M3 f3] 56))
   have bl : Below X.heap.size X Y:=by rw [<- hX]; exact za9 _ _
   rw [hX,hg]
   refine hK _ _ (fun _ => S.out.below bl) ?_
   simp only [Act.put,qa,qb,qc]
   exact (HG.out _ _ _ _).2 (T02_1.out _ _ Y g0 g2 v0 rfl (by kernel_rfl) (B.out.trans (bl.mono B.out.size)) (S.out.below bl) (by rw [<- hX,<- hg]; exact zae9 _ _ _ _) (r0.out.below bl))
 have T0_0 : Hid (∀ (f : Nat) (l : Array Bool) (X : World) (g0 : Nat),f = 7 -> l = #[true,true,true,true,true,true,true,false,true,true,true,true,false,false,true,true,true,true,false,false,false,false] -> Below W3.heap.size W3 X -> Js w.heap.size lf mf (.slice a1 L1 c1) (.slice a2 L2 c2) (.slice a3 L3 c3) (.slice d1 M1 f1) (.slice d2 M2 f2) (.slice d3 M3 f3) X -> Je X g0 (.slice a1 L1 c1) (.slice d1 M1 f1) -> G f l (jt w.heap.size lf mf (.slice a1 L1 c1) (.slice a2 L2 c2) (.slice a3 L3 c3) (.slice d1 M1 f1) (.slice d2 M2 f2) (.slice d3 M3 f3) (.slice (some ⟨g0,0,none⟩) 2 2) undef undef undef undef undef) X):=by
  rintro f l X g0 rfl rfl B S e0
  have B:=hideN B
  have S:=hideN S
  have e0:=hideN e0
  refine (HG.out _ _ _ _).1 ?_
  unfold jt
  refine zpb9 7 12 18 (some 12) (.call { callee:=.value (.func 188),args:=#[.tmp 11],argTypes:=#[261] }) (some 17) (.buildSlice 261 2 #[(0,.tmp 14),(1,.tmp 16)]) (some 23) (.buildSlice 263 2 #[(0,.tmp 20),(1,.tmp 22)]) rfl rfl rfl (by kernel_rfl) ?_ ?_ ?_
  ·rintro o K hd ho - hK
   refine zd9 (enters_of Tryz.func188 (by kernel_rfl) rfl) ho (vs:=#[.slice (some ⟨g0,0,none⟩) 2 2]) (by kernel_rfl) (HC1.out _ _ B.out e0.out) ?_
   rintro e Y ⟨⟨v0,rfl,ro,ng⟩,bl⟩
   refine ⟨_,rfl,?_⟩
   rw [hd]
   refine hK _ _ (fun _ => S.out.below bl) ?_
   simp only [Act.put,qa,qb,qc]
   exact (HG.out _ _ _ _).2 (T0_1.out _ _ Y g0 v0 rfl (by kernel_rfl) (B.out.trans (bl.mono B.out.size)) (S.out.below bl) ⟨ro.rd,fun q hq => ⟨zn2 B.out.size (ng q hq),ro.lt q hq⟩⟩)
  ·rintro o K hd ho - hK
   refine zt9 (.tmp 14) (.tmp 16) ho (.slice a2 L2 c2) (.slice d2 M2 f2) rfl rfl rfl rfl ?_
   rw [hd]
   obtain ⟨g1,hg⟩:=exN X.heap.size
   obtain ⟨Y,hX⟩:=exN (X.alloc (.cells #[.slice a2 L2 c2,.slice d2 M2 f2] 91))
   have bl : Below X.heap.size X Y:=by rw [<- hX]; exact za9 _ _
   rw [hX,hg]
   refine hK _ _ (fun _ => S.out.below bl) ?_
   simp only [Act.put,qa,qb,qc]
   exact (HG.out _ _ _ _).2 (T01_0.out _ _ Y g0 g1 rfl (by kernel_rfl) (B.out.trans (bl.mono B.out.size)) (S.out.below bl) (e0.out.below bl) (by rw [<- hX,<- hg]; exact zae9 _ _ _ _))
  ·rintro o K hd ho - hK
   refine zak9 (.tmp 20) (.tmp 22) ho (.slice a3 L3 c3) (.slice d3 M3 f3) rfl rfl rfl rfl ?_
   rw [hd]
   obtain ⟨g2,hg⟩:=exN X.heap.size
   obtain ⟨Y,hX⟩:=exN (X.alloc (.cells #[.slice a3 L3 c3,.slice d3 M3 f3] 56))
   have bl : Below X.heap.size X Y:=by rw [<- hX]; exact za9 _ _
   rw [hX,hg]
   refine hK _ _ (fun _ => S.out.below bl) ?_
   simp only [Act.put,qa,qb,qc]
   exact (HG.out _ _ _ _).2 (T02_0.out _ _ Y g0 g2 rfl (by kernel_rfl) (B.out.trans (bl.mono B.out.size)) (S.out.below bl) (e0.out.below bl) (by rw [<- hX,<- hg]; exact zae9 _ _ _ _))
 have T1_0 : Hid (∀ (f : Nat) (l : Array Bool) (X : World) (g1 : Nat),f = 7 -> l = #[true,true,true,true,true,true,false,false,true,true,true,true,true,false,true,true,true,true,false,false,false,false] -> Below W3.heap.size W3 X -> Js w.heap.size lf mf (.slice a1 L1 c1) (.slice a2 L2 c2) (.slice a3 L3 c3) (.slice d1 M1 f1) (.slice d2 M2 f2) (.slice d3 M3 f3) X -> Je X g1 (.slice a2 L2 c2) (.slice d2 M2 f2) -> G f l (jt w.heap.size lf mf (.slice a1 L1 c1) (.slice a2 L2 c2) (.slice a3 L3 c3) (.slice d1 M1 f1) (.slice d2 M2 f2) (.slice d3 M3 f3) undef undef (.slice (some ⟨g1,0,none⟩) 2 2) undef undef undef) X):=by
  rintro f l X g1 rfl rfl B S e1
  have B:=hideN B
  have S:=hideN S
  have e1:=hideN e1
  refine (HG.out _ _ _ _).1 ?_
  unfold jt
  refine zcj9 6 18 (some 11) (.buildSlice 261 2 #[(0,.tmp 8),(1,.tmp 10)]) (some 23) (.buildSlice 263 2 #[(0,.tmp 20),(1,.tmp 22)]) rfl rfl (by kernel_rfl) ?_ ?_
  ·rintro o K hd ho - hK
   refine zt9 (.tmp 8) (.tmp 10) ho (.slice a1 L1 c1) (.slice d1 M1 f1) rfl rfl rfl rfl ?_
   rw [hd]
   obtain ⟨g0,hg⟩:=exN X.heap.size
   obtain ⟨Y,hX⟩:=exN (X.alloc (.cells #[.slice a1 L1 c1,.slice d1 M1 f1] 91))
   have bl : Below X.heap.size X Y:=by rw [<- hX]; exact za9 _ _
   rw [hX,hg]
   refine hK _ _ (fun _ => S.out.below bl) ?_
   simp only [Act.put,qa,qb,qc]
   exact (HG.out _ _ _ _).2 (T01_0.out _ _ Y g0 g1 rfl (by kernel_rfl) (B.out.trans (bl.mono B.out.size)) (S.out.below bl) (by rw [<- hX,<- hg]; exact zae9 _ _ _ _) (e1.out.below bl))
  ·rintro o K hd ho - hK
   refine zak9 (.tmp 20) (.tmp 22) ho (.slice a3 L3 c3) (.slice d3 M3 f3) rfl rfl rfl rfl ?_
   rw [hd]
   obtain ⟨g2,hg⟩:=exN X.heap.size
   obtain ⟨Y,hX⟩:=exN (X.alloc (.cells #[.slice a3 L3 c3,.slice d3 M3 f3] 56))
   have bl : Below X.heap.size X Y:=by rw [<- hX]; exact za9 _ _
   rw [hX,hg]
   refine hK _ _ (fun _ => S.out.below bl) ?_
   simp only [Act.put,qa,qb,qc]
   exact (HG.out _ _ _ _).2 (T12_0.out _ _ Y g1 g2 rfl (by kernel_rfl) (B.out.trans (bl.mono B.out.size)) (S.out.below bl) (e1.out.below bl) (by rw [<- hX,<- hg]; exact zae9 _ _ _ _))
 have T2_0 : Hid (∀ (f : Nat) (l : Array Bool) (X : World) (g2 : Nat),f = 7 -> l = #[true,true,true,true,true,true,false,false,true,true,true,true,false,false,true,true,true,true,true,false,false,false] -> Below W3.heap.size W3 X -> Js w.heap.size lf mf (.slice a1 L1 c1) (.slice a2 L2 c2) (.slice a3 L3 c3) (.slice d1 M1 f1) (.slice d2 M2 f2) (.slice d3 M3 f3) X -> Je X g2 (.slice a3 L3 c3) (.slice d3 M3 f3) -> G f l (jt w.heap.size lf mf (.slice a1 L1 c1) (.slice a2 L2 c2) (.slice a3 L3 c3) (.slice d1 M1 f1) (.slice d2 M2 f2) (.slice d3 M3 f3) undef undef undef undef (.slice (some ⟨g2,0,none⟩) 2 2) undef) X):=by
  rintro f l X g2 rfl rfl B S e2
  have B:=hideN B
  have S:=hideN S
  have e2:=hideN e2
  refine (HG.out _ _ _ _).1 ?_
  unfold jt
  refine zcj9 6 12 (some 11) (.buildSlice 261 2 #[(0,.tmp 8),(1,.tmp 10)]) (some 17) (.buildSlice 261 2 #[(0,.tmp 14),(1,.tmp 16)]) rfl rfl (by kernel_rfl) ?_ ?_
  ·rintro o K hd ho - hK
   refine zt9 (.tmp 8) (.tmp 10) ho (.slice a1 L1 c1) (.slice d1 M1 f1) rfl rfl rfl rfl ?_
   rw [hd]
   obtain ⟨g0,hg⟩:=exN X.heap.size
   obtain ⟨Y,hX⟩:=exN (X.alloc (.cells #[.slice a1 L1 c1,.slice d1 M1 f1] 91))
   have bl : Below X.heap.size X Y:=by rw [<- hX]; exact za9 _ _
   rw [hX,hg]
   refine hK _ _ (fun _ => S.out.below bl) ?_
   simp only [Act.put,qa,qb,qc]
   exact (HG.out _ _ _ _).2 (T02_0.out _ _ Y g0 g2 rfl (by kernel_rfl) (B.out.trans (bl.mono B.out.size)) (S.out.below bl) (by rw [<- hX,<- hg]; exact zae9 _ _ _ _) (e2.out.below bl))
  ·rintro o K hd ho - hK
   refine zt9 (.tmp 14) (.tmp 16) ho (.slice a2 L2 c2) (.slice d2 M2 f2) rfl rfl rfl rfl ?_
   rw [hd]
   obtain ⟨g1,hg⟩:=exN X.heap.size
   obtain ⟨Y,hX⟩:=exN (X.alloc (.cells #[.slice a2 L2 c2,.slice d2 M2 f2] 91))
   have bl : Below X.heap.size X Y:=by rw [<- hX]; exact za9 _ _
   rw [hX,hg]
   refine hK _ _ (fun _ => S.out.below bl) ?_
   simp only [Act.put,qa,qb,qc]
   exact (HG.out _ _ _ _).2 (T12_0.out _ _ Y g1 g2 rfl (by kernel_rfl) (B.out.trans (bl.mono B.out.size)) (S.out.below bl) (by rw [<- hX,<- hg]; exact zae9 _ _ _ _) (e2.out.below bl))
 have T_0 : Hid (∀ (f : Nat) (l : Array Bool) (X : World) ,f = 8 -> l = #[true,true,true,true,true,true,false,false,true,true,true,true,false,false,true,true,true,true,false,false,false,false] -> Below W3.heap.size W3 X -> Js w.heap.size lf mf (.slice a1 L1 c1) (.slice a2 L2 c2) (.slice a3 L3 c3) (.slice d1 M1 f1) (.slice d2 M2 f2) (.slice d3 M3 f3) X -> G f l (jt w.heap.size lf mf (.slice a1 L1 c1) (.slice a2 L2 c2) (.slice a3 L3 c3) (.slice d1 M1 f1) (.slice d2 M2 f2) (.slice d3 M3 f3) undef undef undef undef undef undef) X):=by
  rintro f l X  rfl rfl B S
  have B:=hideN B
  have S:=hideN S
  refine (HG.out _ _ _ _).1 ?_
  unfold jt
  refine zpb9 6 12 18 (some 11) (.buildSlice 261 2 #[(0,.tmp 8),(1,.tmp 10)]) (some 17) (.buildSlice 261 2 #[(0,.tmp 14),(1,.tmp 16)]) (some 23) (.buildSlice 263 2 #[(0,.tmp 20),(1,.tmp 22)]) rfl rfl rfl (by kernel_rfl) ?_ ?_ ?_
  ·rintro o K hd ho - hK
   refine zt9 (.tmp 8) (.tmp 10) ho (.slice a1 L1 c1) (.slice d1 M1 f1) rfl rfl rfl rfl ?_
   rw [hd]
   obtain ⟨g0,hg⟩:=exN X.heap.size
   obtain ⟨Y,hX⟩:=exN (X.alloc (.cells #[.slice a1 L1 c1,.slice d1 M1 f1] 91))
   have bl : Below X.heap.size X Y:=by rw [<- hX]; exact za9 _ _
   rw [hX,hg]
   refine hK _ _ (fun _ => S.out.below bl) ?_
   simp only [Act.put,qa,qb,qc]
   exact (HG.out _ _ _ _).2 (T0_0.out _ _ Y g0 rfl (by kernel_rfl) (B.out.trans (bl.mono B.out.size)) (S.out.below bl) (by rw [<- hX,<- hg]; exact zae9 _ _ _ _))
  ·rintro o K hd ho - hK
   refine zt9 (.tmp 14) (.tmp 16) ho (.slice a2 L2 c2) (.slice d2 M2 f2) rfl rfl rfl rfl ?_
   rw [hd]
   obtain ⟨g1,hg⟩:=exN X.heap.size
   obtain ⟨Y,hX⟩:=exN (X.alloc (.cells #[.slice a2 L2 c2,.slice d2 M2 f2] 91))
   have bl : Below X.heap.size X Y:=by rw [<- hX]; exact za9 _ _
   rw [hX,hg]
   refine hK _ _ (fun _ => S.out.below bl) ?_
   simp only [Act.put,qa,qb,qc]
   exact (HG.out _ _ _ _).2 (T1_0.out _ _ Y g1 rfl (by kernel_rfl) (B.out.trans (bl.mono B.out.size)) (S.out.below bl) (by rw [<- hX,<- hg]; exact zae9 _ _ _ _))
  ·rintro o K hd ho - hK
   refine zak9 (.tmp 20) (.tmp 22) ho (.slice a3 L3 c3) (.slice d3 M3 f3) rfl rfl rfl rfl ?_
   rw [hd]
   obtain ⟨g2,hg⟩:=exN X.heap.size
   obtain ⟨Y,hX⟩:=exN (X.alloc (.cells #[.slice a3 L3 c3,.slice d3 M3 f3] 56))
   have bl : Below X.heap.size X Y:=by rw [<- hX]; exact za9 _ _
   rw [hX,hg]
   refine hK _ _ (fun _ => S.out.below bl) ?_
   simp only [Act.put,qa,qb,qc]
   exact (HG.out _ _ _ _).2 (T2_0.out _ _ Y g2 rfl (by kernel_rfl) (B.out.trans (bl.mono B.out.size)) (S.out.below bl) (by rw [<- hX,<- hg]; exact zae9 _ _ _ _))
 refine (HG.out _ _ _ _).1 ?_
 have hS:=S0.out
 refine tkW 0 (some 5) (.fieldAddr 93 (.tmp 2) 0) (Value.pointer (some ⟨w.heap.size,0,none⟩)) (by rintro o ho w' _; go_simp) hS ?_
 simp only [Act.put,qa,qb,qc]
 refine tkW 1 (some 6) (.load 4 (.tmp 5)) (Value.bool lf) ?hy hS ?_
 case hy =>
  rintro o ho w' ⟨hA,hB,hC⟩
  have q:=hA.c0
  go_simp
 simp only [Act.put,qa,qb,qc]
 refine tkW 2 (some 7) (.fieldAddr 93 (.tmp 2) 1) (Value.pointer (some ⟨w.heap.size,1,none⟩)) (by rintro o ho w' _; go_simp) hS ?_
 simp only [Act.put,qa,qb,qc]
 refine tkW 3 (some 8) (.load 91 (.tmp 7)) (Value.slice a1 L1 c1) ?hy hS ?_
 case hy =>
  rintro o ho w' ⟨hA,hB,hC⟩
  have q:=hA.c1
  go_simp
 simp only [Act.put,qa,qb,qc]
 refine tkW 4 (some 9) (.fieldAddr 93 (.tmp 3) 1) (Value.pointer (some ⟨w.heap.size + 1,1,none⟩)) (by rintro o ho w' _; go_simp) hS ?_
 simp only [Act.put,qa,qb,qc]
 refine tkW 5 (some 10) (.load 91 (.tmp 9)) (Value.slice d1 M1 f1) ?hy hS ?_
 case hy =>
  rintro o ho w' ⟨hA,hB,hC⟩
  have q:=hB.c1
  go_simp
 simp only [Act.put,qa,qb,qc]
 refine tkW 8 (some 13) (.fieldAddr 93 (.tmp 2) 2) (Value.pointer (some ⟨w.heap.size,2,none⟩)) (by rintro o ho w' _; go_simp) hS ?_
 simp only [Act.put,qa,qb,qc]
 refine tkW 9 (some 14) (.load 91 (.tmp 13)) (Value.slice a2 L2 c2) ?hy hS ?_
 case hy =>
  rintro o ho w' ⟨hA,hB,hC⟩
  have q:=hA.c2
  go_simp
 simp only [Act.put,qa,qb,qc]
 refine tkW 10 (some 15) (.fieldAddr 93 (.tmp 3) 2) (Value.pointer (some ⟨w.heap.size + 1,2,none⟩)) (by rintro o ho w' _; go_simp) hS ?_
 simp only [Act.put,qa,qb,qc]
 refine tkW 11 (some 16) (.load 91 (.tmp 15)) (Value.slice d2 M2 f2) ?hy hS ?_
 case hy =>
  rintro o ho w' ⟨hA,hB,hC⟩
  have q:=hB.c2
  go_simp
 simp only [Act.put,qa,qb,qc]
 refine tkW 14 (some 19) (.fieldAddr 93 (.tmp 2) 3) (Value.pointer (some ⟨w.heap.size,3,none⟩)) (by rintro o ho w' _; go_simp) hS ?_
 simp only [Act.put,qa,qb,qc]
 refine tkW 15 (some 20) (.load 56 (.tmp 19)) (Value.slice a3 L3 c3) ?hy hS ?_
 case hy =>
  rintro o ho w' ⟨hA,hB,hC⟩
  have q:=hA.c3
  go_simp
 simp only [Act.put,qa,qb,qc]
 refine tkW 16 (some 21) (.fieldAddr 93 (.tmp 3) 3) (Value.pointer (some ⟨w.heap.size + 1,3,none⟩)) (by rintro o ho w' _; go_simp) hS ?_
 simp only [Act.put,qa,qb,qc]
 refine tkW 17 (some 22) (.load 56 (.tmp 21)) (Value.slice d3 M3 f3) ?hy hS ?_
 case hy =>
  rintro o ho w' ⟨hA,hB,hC⟩
  have q:=hB.c3
  go_simp
 simp only [Act.put,qa,qb,qc]
 exact (HG.out _ _ _ _).2 (T_0.out _ _ X0  rfl (by kernel_rfl) B0.out S0.out)
def takeN (n : Nd) (m : Nat) : Nd:={ lf:=n.lf,ks:=n.ks.take m,vs:=n.vs.take m,kd:=n.kd.take m }
def dropN (n : Nd) (m : Nat) : Nd:={ lf:=n.lf,ks:=n.ks.drop m,vs:=n.vs.drop m,kd:=n.kd.drop m }
def noneN : Nd:={ lf:=false,ks:=[],vs:=[],kd:=[] }
theorem zcd9 {fn : Func} {p q : Tmp} {ty tz : TypeId} (h : fn.results = #[.cell p ty,.cell q tz]) (tmps : Array Value) (P : Program) (w : World) (b c : Nat) (v x : Value) (ha : tmps.getD p undef = .pointer (some ⟨b,0,none⟩)) (hc : tmps.getD q undef = .pointer (some ⟨c,0,none⟩))
  (hl : (loadVar ty ⟨b,0,none⟩).run P w = .ok v w) (hx : (loadVar tz ⟨c,0,none⟩).run P w = .ok x w) : (results fn tmps).run P w = .ok (.tuple #[v,x]) w:=by
 rw [Array.getD_eq_getD_getElem?] at ha hc
 simp only [results,h]
 simp [Sem.run_bind,Result.andThen,asAddr]
 rw [ha,hc]
 simp [hl,hx]
theorem zbk9 {o : Oper} {a : Act} {w : World} {K : Act -> World -> Prop} {Q : Exit -> Act -> World -> Prop} (ho : o.op = .alloc 93)
  (h : K (a.put o.dst (.pointer (some ⟨w.heap.size,0,none⟩))) (w.alloc (.cells #[.bool false,.slice none 0 0,.slice none 0 0,.slice none 0 0] 93))) : Oper.wp Tryz.prog o a w K Q:=by
 have hrun : (execOp a.eval o).run Tryz.prog w = .ok (Next.value (.pointer (some ⟨w.heap.size,0,none⟩))) (w.alloc (.cells #[.bool false,.slice none 0 0,.slice none 0 0,.slice none 0 0] 93)):=by
  unfold execOp
  simp only [ho]
  go_simp
 unfold Oper.wp
 simp only [hrun,Oper.upon]
 exact h
structure SpN (W3 Y : World) (b p q : Nat) (lf lp lq : Bool) (u1 u2 u3 k1 k2 k3 o1 o2 o3 : Value) : Prop where
 n : Nb Y 93 b lf u1 u2 u3
 r2 : Nb Y 93 (b + 1) false (.slice none 0 0) (.slice none 0 0) (.slice none 0 0)
 r3 : Nb Y 93 (b + 2) false (.slice none 0 0) (.slice none 0 0) (.slice none 0 0)
 pk : Nb Y 93 p lp k1 k2 k3
 qk : Nb Y 93 q lq o1 o2 o3
 bl : Below W3.heap.size W3 Y
 pq : p ≠ q
 pl : b + 3 <= p
 ql : b + 3 <= q
 pz : p < b + 5
 qz : q < b + 5
 w3 : W3.heap.size = b + 3
 zz : b + 5 <= Y.heap.size
section
variable {W3 Y Y' : World} {b p q : Nat} {lf lp lq : Bool} {u1 u2 u3 k1 k2 k3 o1 o2 o3 : Value}
theorem SpN.below (h : SpN W3 Y b p q lf lp lq u1 u2 u3 k1 k2 k3 o1 o2 o3) (hb : Below Y.heap.size Y Y') : SpN W3 Y' b p q lf lp lq u1 u2 u3 k1 k2 k3 o1 o2 o3:=
 ⟨h.n.below hb,h.r2.below hb,h.r3.below hb,h.pk.below hb,h.qk.below hb,h.bl.trans (hb.mono h.bl.size),h.pq,h.pl,h.ql,h.pz,h.qz,h.w3,zn2 h.zz hb.size⟩
theorem SpN.atp {lg : Bool} {x1 x2 x3 : Value} (h : SpN W3 Y b p q lf lp lq u1 u2 u3 k1 k2 k3 o1 o2 o3) (ht : Tch (fun j => j = p) Y Y') (hp : Nb Y' 93 p lg x1 x2 x3) : SpN W3 Y' b p q lf lg lq u1 u2 u3 x1 x2 x3 o1 o2 o3:=by
 have h1:=h.pl
 have h2:=h.w3
 have h3:=h.pq
 exact ⟨h.n.tch ht (by omega),h.r2.tch ht (by omega),h.r3.tch ht (by omega),hp,h.qk.tch ht (by omega),h.bl.trans (ht.below h.bl.size (fun j e => by omega)),h.pq,h.pl,h.ql,h.pz,h.qz,h.w3,zn2 h.zz ht.size⟩
theorem SpN.atq {lg : Bool} {x1 x2 x3 : Value} (h : SpN W3 Y b p q lf lp lq u1 u2 u3 k1 k2 k3 o1 o2 o3) (ht : Tch (fun j => j = q) Y Y') (hp : Nb Y' 93 q lg x1 x2 x3) : SpN W3 Y' b p q lf lp lg u1 u2 u3 k1 k2 k3 x1 x2 x3:=by
 have h1:=h.ql
 have h2:=h.w3
 have h3:=h.pq
 exact ⟨h.n.tch ht (by omega),h.r2.tch ht (by omega),h.r3.tch ht (by omega),h.pk.tch ht (by omega),hp,h.bl.trans (ht.below h.bl.size (fun j e => by omega)),h.pq,h.pl,h.ql,h.pz,h.qz,h.w3,zn2 h.zz ht.size⟩
theorem SpN.setp (h : SpN W3 Y b p q lf lp lq u1 u2 u3 k1 k2 k3 o1 o2 o3) (lg : Bool) {x1 x2 x3 : Value} : SpN W3 ((((Y.setCell ⟨p,0,none⟩ (.bool lg)).setCell ⟨p,1,none⟩ x1).setCell ⟨p,2,none⟩ x2).setCell ⟨p,3,none⟩ x3) b p q lf lg lq u1 u2 u3 x1 x2 x3 o1 o2 o3:=h.atp (zg9 _ _ _ _ _ _) (h.pk.all _ _ _ _)
theorem SpN.setq (h : SpN W3 Y b p q lf lp lq u1 u2 u3 k1 k2 k3 o1 o2 o3) (lg : Bool) {x1 x2 x3 : Value} : SpN W3 ((((Y.setCell ⟨q,0,none⟩ (.bool lg)).setCell ⟨q,1,none⟩ x1).setCell ⟨q,2,none⟩ x2).setCell ⟨q,3,none⟩ x3) b p q lf lp lg u1 u2 u3 k1 k2 k3 x1 x2 x3:=h.atq (zg9 _ _ _ _ _ _) (h.qk.all _ _ _ _)
theorem SpN.p1 (h : SpN W3 Y b p q lf lp lq u1 u2 u3 k1 k2 k3 o1 o2 o3) (x : Value) : SpN W3 (Y.setCell ⟨p,1,none⟩ x) b p q lf lp lq u1 u2 u3 x k2 k3 o1 o2 o3:=h.atp (tch_at _ _ _ _) (h.pk.s1 x)
theorem SpN.q1 (h : SpN W3 Y b p q lf lp lq u1 u2 u3 k1 k2 k3 o1 o2 o3) (x : Value) : SpN W3 (Y.setCell ⟨q,1,none⟩ x) b p q lf lp lq u1 u2 u3 k1 k2 k3 x o2 o3:=h.atq (tch_at _ _ _ _) (h.qk.s1 x)
theorem SpN.p2 (h : SpN W3 Y b p q lf lp lq u1 u2 u3 k1 k2 k3 o1 o2 o3) (x : Value) : SpN W3 (Y.setCell ⟨p,2,none⟩ x) b p q lf lp lq u1 u2 u3 k1 x k3 o1 o2 o3:=h.atp (tch_at _ _ _ _) (h.pk.s2 x)
theorem SpN.q2 (h : SpN W3 Y b p q lf lp lq u1 u2 u3 k1 k2 k3 o1 o2 o3) (x : Value) : SpN W3 (Y.setCell ⟨q,2,none⟩ x) b p q lf lp lq u1 u2 u3 k1 k2 k3 o1 x o3:=h.atq (tch_at _ _ _ _) (h.qk.s2 x)
theorem SpN.p3 (h : SpN W3 Y b p q lf lp lq u1 u2 u3 k1 k2 k3 o1 o2 o3) (x : Value) : SpN W3 (Y.setCell ⟨p,3,none⟩ x) b p q lf lp lq u1 u2 u3 k1 k2 x o1 o2 o3:=h.atp (tch_at _ _ _ _) (h.pk.s3 x)
theorem SpN.q3 (h : SpN W3 Y b p q lf lp lq u1 u2 u3 k1 k2 k3 o1 o2 o3) (x : Value) : SpN W3 (Y.setCell ⟨q,3,none⟩ x) b p q lf lp lq u1 u2 u3 k1 k2 k3 o1 o2 x:=h.atq (tch_at _ _ _ _) (h.qk.s3 x)
theorem SpN.keep (h : SpN W3 Y b p q lf lp lq u1 u2 u3 k1 k2 k3 o1 o2 o3) {v : Value} {xs : List Value} (hr : RdV Y v xs) (hn : ∀ j,v.ownBlock = some j -> b + 5 <= j) {i i' : Nat} {x x' : Value} : RdV ((Y.setCell ⟨p,i,none⟩ x).setCell ⟨q,i',none⟩ x') v xs:=
 (hr.tch (tch_at _ _ _ _) (fun j hj e => by have:=hn j hj; have:=h.pz; omega)).tch (tch_at _ _ _ _) (fun j hj e => by have:=hn j hj; have:=h.qz; omega)
theorem SpN.cells (h : SpN W3 Y b p q lf lp lq u1 u2 u3 k1 k2 k3 o1 o2 o3) : Y.cell? ⟨b,0,none⟩ = some (.bool lf) /\ Y.cell? ⟨b,1,none⟩ = some u1 /\ Y.cell? ⟨b,2,none⟩ = some u2 /\ Y.cell? ⟨b,3,none⟩ = some u3:=⟨h.n.c0,h.n.c1,h.n.c2,h.n.c3⟩
end
def SplR (n A B : Nd) : Prop:=(n.ks.length < 2 /\ A = joinN n noneN /\ B = noneN) ∨ (2 <= n.ks.length /\ ∃ m,MidR n m /\ A = takeN n m /\ B = dropN n m)
def Ub3 (w : World) (v1 v2 v3 : Value) : Prop:=∀ j,(v1.ownBlock = some j ∨ v2.ownBlock = some j ∨ v3.ownBlock = some j) -> j < w.heap.size
theorem zlq9 (n : Nd) (u1 u2 u3 : Value) (w : World) (h : Nn w n u1 u2 u3) (hs : Sm n) :
  Calls Tryz.prog 158 #[nod n.lf u1 u2 u3] w fun e w' => (∃ k1 k2 k3 o1 o2 o3 A B,e = .returned (.tuple #[nod A.lf k1 k2 k3,nod B.lf o1 o2 o3]) /\ Nn w' A k1 k2 k3 /\ Nn w' B o1 o2 o3 /\ SplR n A B /\ Fr3 w.heap.size k1 k2 k3 /\ Fr3 w.heap.size o1 o2 o3 /\ Ub3 w' k1 k2 k3 /\ Ub3 w' o1 o2 o3) /\ Below w.heap.size w w':=by
 suffices X : Calls Tryz.prog 158 #[nod n.lf u1 u2 u3] w fun e w' => (∃ k1 k2 k3 o1 o2 o3 A B,e = .returned (.tuple #[nod n.lf k1 k2 k3,nod (if n.ks.length < 2 then false else n.lf) o1 o2 o3]) /\ Nn w' A k1 k2 k3 /\ Nn w' B o1 o2 o3 /\ SplR n A B /\ Fr3 w.heap.size k1 k2 k3 /\ Fr3 w.heap.size o1 o2 o3 /\ Ub3 w' k1 k2 k3 /\ Ub3 w' o1 o2 o3) /\ Below w.heap.size w w' by
  refine X.mono ?_
  rintro e w' ⟨⟨k1,k2,k3,o1,o2,o3,A,B,rfl,hA,hB,hR,hF⟩,hb⟩
  refine ⟨⟨k1,k2,k3,o1,o2,o3,A,B,?_,hA,hB,hR,hF⟩,hb⟩
  rcases hR with ⟨hl,rfl,rfl⟩ | ⟨hl,m,_,rfl,rfl⟩
  ·rw [if_pos hl]; rfl
  ·rw [if_neg (by omega)]; rfl
 obtain ⟨a1,c1,a2,c2,a3,c3,rfl,rfl,rfl,⟨l1,l2,l3,l4,l5,l6⟩,_,_,_⟩:=h.out
 have H:=hideN h
 have HS:=hideN hs
 obtain ⟨L1,hL1⟩:=exH n.ks.length
 obtain ⟨L2,hL2⟩:=exH n.vs.length
 obtain ⟨L3,hL3⟩:=exH n.kd.length
 rw [hL1.out] at H l1 ⊢
 rw [hL2.out] at H l3 ⊢
 rw [hL3.out] at H l5 ⊢
 obtain ⟨lf,hlf⟩:=exH n.lf
 rw [hlf.out]
 unfold nod
 obtain ⟨W1,hW1⟩:=exN (w.alloc (.cells #[.bool lf,.slice a1 L1 c1,.slice a2 L2 c2,.slice a3 L3 c3] 93))
 have B1 : Hid (Below w.heap.size w W1):=by rw [<- hW1]; exact za9 _ _
 have V1 : Hid (Nb W1 93 w.heap.size lf (.slice a1 L1 c1) (.slice a2 L2 c2) (.slice a3 L3 c3)):=by rw [<- hW1]; exact nb_new _ _ _ _ _ _
 have H1 : Hid (Nn W1 n (.slice a1 L1 c1) (.slice a2 L2 c2) (.slice a3 L3 c3)):=H.out.below B1.out
 obtain ⟨W2,hW2⟩:=exN (W1.alloc (.cells #[.bool false,.slice none 0 0,.slice none 0 0,.slice none 0 0] 93))
 obtain ⟨W3,hW3⟩:=exN (W2.alloc (.cells #[.bool false,.slice none 0 0,.slice none 0 0,.slice none 0 0] 93))
 have s1 : W1.heap.size = w.heap.size + 1:=by rw [<- hW1]; simp
 have s2 : W2.heap.size = w.heap.size + 2:=by rw [<- hW2]; simp [s1]
 have s3 : Hid (W3.heap.size = w.heap.size + 3):=by rw [<- hW3]; simp [s2,Hid]
 have b2 : Below W1.heap.size W1 W2:=by rw [<- hW2]; exact za9 _ _
 have b3 : Below W2.heap.size W2 W3:=by rw [<- hW3]; exact za9 _ _
 have BW3 : Hid (Below w.heap.size w W3):=(B1.out.trans (b2.mono B1.out.size)).trans (b3.mono (B1.out.trans (b2.mono B1.out.size)).size)
 have Y2 : Nb W2 93 (w.heap.size + 1) false (.slice none 0 0) (.slice none 0 0) (.slice none 0 0):=by rw [<- hW2,<- s1]; exact nb_new _ _ _ _ _ _
 have Z3 : Nb W3 93 (w.heap.size + 2) false (.slice none 0 0) (.slice none 0 0) (.slice none 0 0):=by rw [<- hW3,<- s2]; exact nb_new _ _ _ _ _ _
 have SS : Hid (Nb W3 93 w.heap.size lf (.slice a1 L1 c1) (.slice a2 L2 c2) (.slice a3 L3 c3) /\ Nb W3 93 (w.heap.size + 1) false (.slice none 0 0) (.slice none 0 0) (.slice none 0 0) /\ Nb W3 93 (w.heap.size + 2) false (.slice none 0 0) (.slice none 0 0) (.slice none 0 0)):=⟨(V1.out.below b2).below b3,Y2.below b3,Z3⟩
 have HCT1 : Hid (∀ (W : World) (m : Nat),Below W3.heap.size W3 W -> m <= 9007199254740992 -> Calls Tryz.prog 176 #[.slice a1 L1 c1,.int .i64 (m : Int)] W fun e w' => (∃ v1 v2,e = .returned (.tuple #[v1,v2]) /\ RdV w' v1 ((strs n.ks).take m) /\ RdV w' v2 ((strs n.ks).drop m) /\ ∀ j,(v1.ownBlock = some j ∨ v2.ownBlock = some j) -> W.heap.size <= j /\ j < w'.heap.size) /\ Below W.heap.size W w'):=fun W m hb hm =>
  zfe9 _ _ m W ((H.out.below BW3.out).below hb).k (zao9 _) (by rw [zh9]; have:=HS.out.kl; omega) hm
 have HCT2 : Hid (∀ (W : World) (m : Nat),Below W3.heap.size W3 W -> m <= 9007199254740992 -> Calls Tryz.prog 176 #[.slice a2 L2 c2,.int .i64 (m : Int)] W fun e w' => (∃ v1 v2,e = .returned (.tuple #[v1,v2]) /\ RdV w' v1 ((strs n.vs).take m) /\ RdV w' v2 ((strs n.vs).drop m) /\ ∀ j,(v1.ownBlock = some j ∨ v2.ownBlock = some j) -> W.heap.size <= j /\ j < w'.heap.size) /\ Below W.heap.size W w'):=fun W m hb hm =>
  zfe9 _ _ m W ((H.out.below BW3.out).below hb).v (zao9 _) (by rw [zh9]; have:=HS.out.vl; omega) hm
 have HCT3 : Hid (∀ (W : World) (m : Nat),Below W3.heap.size W3 W -> m <= 9007199254740992 -> Calls Tryz.prog 177 #[.slice a3 L3 c3,.int .i64 (m : Int)] W fun e w' => (∃ v1 v2,e = .returned (.tuple #[v1,v2]) /\ RdV w' v1 ((nums n.kd).take m) /\ RdV w' v2 ((nums n.kd).drop m) /\ ∀ j,(v1.ownBlock = some j ∨ v2.ownBlock = some j) -> W.heap.size <= j /\ j < w'.heap.size) /\ Below W.heap.size W w'):=fun W m hb hm =>
  zjl9 _ _ m W ((H.out.below BW3.out).below hb).d (zcz9 _) (by rw [zn9]; have:=HS.out.dl; omega) hm
 have c0:=SS.out.1.c0
 have c1':=SS.out.1.c1
 have c2':=SS.out.1.c2
 have c3':=SS.out.1.c3
 by_cases hl2 : L1 < 2
 ·rw [if_pos hl2]
  have HJ : Hid (Calls Tryz.prog 174 #[.agg #[.bool lf,.slice a1 L1 c1,.slice a2 L2 c2,.slice a3 L3 c3],.agg #[.bool false,.slice none 0 0,.slice none 0 0,.slice none 0 0]] W3 fun e w' => (∃ x1 x2 x3,e = .returned (nod lf x1 x2 x3) /\ Nn w' (joinN n noneN) x1 x2 x3 /\ (∀ j,x1.ownBlock = some j -> W3.heap.size <= j /\ j < w'.heap.size) /\ (∀ j,x2.ownBlock = some j -> W3.heap.size <= j /\ j < w'.heap.size) /\ (∀ j,x3.ownBlock = some j -> W3.heap.size <= j /\ j < w'.heap.size)) /\ Below W3.heap.size W3 w'):=by
   have:=zbv9 n noneN _ _ _ _ _ _ W3 (H.out.below BW3.out) ⟨zam9 _,zam9 _,zam9 _⟩ (by have:=HS.out.kl; simp [noneN]; omega) (by have:=HS.out.vl; simp [noneN]; omega) (by have:=HS.out.dl; simp [noneN]; omega)
   rw [hlf.out] at this
   exact this
  clear h hs H b2 b3 Y2 Z3 HCT1 HCT2 HCT3
  go_enter Tryz.func158,Tryz.ntmps158
  go_wp2_with fail
  refine HJ.out.mono ?_
  rintro e X ⟨⟨x1,x2,x3,rfl,hN,hnw⟩,bl⟩
  obtain ⟨k1a,k1c,ek1⟩:=hN.k.long
  obtain ⟨k2a,k2c,ek2⟩:=hN.v.long
  obtain ⟨k3a,k3c,ek3⟩:=hN.d.long
  obtain ⟨k1l,hk1l⟩:=exH ((strs (joinN n noneN).ks).length)
  obtain ⟨k2l,hk2l⟩:=exH ((strs (joinN n noneN).vs).length)
  obtain ⟨k3l,hk3l⟩:=exH ((nums (joinN n noneN).kd).length)
  rw [hk1l.out] at ek1
  rw [hk2l.out] at ek2
  rw [hk3l.out] at ek3
  subst ek1 ek2 ek3
  have r2:=SS.out.2.1.below bl
  have r3:=SS.out.2.2.below bl
  have tA:=zg9 X (w.heap.size + 1) (.bool lf) (.slice k1a k1l k1c) (.slice k2a k2l k2c) (.slice k3a k3l k3c)
  have NA:=r2.all lf (.slice k1a k1l k1c) (.slice k2a k2l k2c) (.slice k3a k3l k3c)
  have rA:=r3.tch tA (by omega)
  obtain ⟨WA,hWA⟩:=exN ((((X.setCell ⟨w.heap.size + 1,0,none⟩ (.bool lf)).setCell ⟨w.heap.size + 1,1,none⟩ (.slice k1a k1l k1c)).setCell ⟨w.heap.size + 1,2,none⟩ (.slice k2a k2l k2c)).setCell ⟨w.heap.size + 1,3,none⟩ (.slice k3a k3l k3c))
  rw [hWA] at tA NA rA
  have tB:=zg9 WA (w.heap.size + 2) (.bool false) (.slice none 0 0) (.slice none 0 0) (.slice none 0 0)
  have NB:=rA.all false (.slice none 0 0) (.slice none 0 0) (.slice none 0 0)
  have NC:=NA.tch tB (by omega)
  obtain ⟨WB,hWB⟩:=exN ((((WA.setCell ⟨w.heap.size + 2,0,none⟩ (.bool false)).setCell ⟨w.heap.size + 2,1,none⟩ (.slice none 0 0)).setCell ⟨w.heap.size + 2,2,none⟩ (.slice none 0 0)).setCell ⟨w.heap.size + 2,3,none⟩ (.slice none 0 0))
  rw [hWB] at tB NB NC
  have p0:=r2.c0
  have p1:=r2.c1
  have p2:=r2.c2
  have p3:=r2.c3
  have f0:=r2.fz 0
  have f1':=r2.fz 1
  have f2':=r2.fz 2
  have f3':=r2.fz 3
  have y0:=rA.c0
  have y1:=rA.c1
  have y2:=rA.c2
  have y3:=rA.c3
  have g0:=rA.fz 0
  have g1:=rA.fz 1
  have g2:=rA.fz 2
  have g3:=rA.fz 3
  have LA:=hideN NC.load
  have LB:=hideN NB.load
  have KK : Hid (Nn WB (joinN n noneN) (.slice k1a k1l k1c) (.slice k2a k2l k2c) (.slice k3a k3l k3c)):=by
   have nn:=hN
   exact (nn.tch tA (fun j hj e => by have:=(hnw.1 j hj).1; have:=s3.out; omega) (fun j hj e => by have:=(hnw.2.1 j hj).1; have:=s3.out; omega) (fun j hj e => by have:=(hnw.2.2 j hj).1; have:=s3.out; omega)).tch tB (fun j hj e => by have:=(hnw.1 j hj).1; have:=s3.out; omega) (fun j hj e => by have:=(hnw.2.1 j hj).1; have:=s3.out; omega) (fun j hj e => by have:=(hnw.2.2 j hj).1; have:=s3.out; omega)
  have OO : Hid (Nn WB noneN (.slice none 0 0) (.slice none 0 0) (.slice none 0 0)):=⟨zam9 _,zam9 _,zam9 _⟩
  have BB : Hid (Below w.heap.size w WB):=by
   have h1 : Below w.heap.size w X:=BW3.out.trans (bl.mono BW3.out.size)
   have h2 : Below w.heap.size w WA:=h1.trans (tA.below h1.size (fun j e => by omega))
   exact h2.trans (tB.below h2.size (fun j e => by omega))
  have HL : Hid (L1 < 2):=hl2
  have FK : Hid (Fr3 w.heap.size (.slice k1a k1l k1c) (.slice k2a k2l k2c) (.slice k3a k3l k3c)):=fun j hj => by
   have:=s3.out
   rcases hj with e | e | e
   ·have:=(hnw.1 j e).1; omega
   ·have:=(hnw.2.1 j e).1; omega
   ·have:=(hnw.2.2 j e).1; omega
  have FO : Hid (Fr3 w.heap.size (.slice none 0 0) (.slice none 0 0) (.slice none 0 0)):=fun j hj => by
   rcases hj with e | e | e <;> cases e
  have UK : Hid (Ub3 WB (.slice k1a k1l k1c) (.slice k2a k2l k2c) (.slice k3a k3l k3c)):=fun j hj => by
   refine zn1 ?_ (zn2 tA.size tB.size)
   rcases hj with e | e | e
   ·exact (hnw.1 j e).2
   ·exact (hnw.2.1 j e).2
   ·exact (hnw.2.2 j e).2
  have UO : Hid (Ub3 WB (.slice none 0 0) (.slice none 0 0) (.slice none 0 0)):=fun j hj => by
   rcases hj with e | e | e <;> cases e
  clear tA tB NA NB NC rA r2 r3 hN hnw bl c0 c1' c2' c3' hW1 hW2 hW3 SS HJ BW3
  unfold nod
  go_wp2_with fail
  try rw [hWA]
  try rw [hWB]
  refine bodyPost_ret (v:=.tuple #[nod lf (.slice k1a k1l k1c) (.slice k2a k2l k2c) (.slice k3a k3l k3c),nod false (.slice none 0 0) (.slice none 0 0) (.slice none 0 0)]) (zcd9 (p:=2) (q:=3) (ty:=93) (tz:=93) rfl _ _ _ (w.heap.size + 1) (w.heap.size + 2) _ _ rfl rfl LA.out LB.out) rfl ?_
  exact ⟨⟨_,_,_,_,_,_,joinN n noneN,noneN,rfl,KK.out,OO.out,.inl ⟨by rw [hL1.out]; exact HL.out,rfl,rfl⟩,FK.out,FO.out,UK.out,UO.out⟩,BB.out⟩
 ·rw [if_neg hl2]
  have h2 : Hid (2 <= L1):=by show _ <= _; omega
  have HMD : Hid (∀ (W : World),Below W3.heap.size W3 W -> Calls Tryz.prog 175 #[.agg #[.bool lf,.slice a1 L1 c1,.slice a2 L2 c2,.slice a3 L3 c3]] W fun e w' => (∃ m : Nat,e = .returned (.int .i64 (m : Int)) /\ MidR n m) /\ Below W.heap.size W w'):=fun W hb => by
   have:=zkw9 n _ _ _ W ((H.out.below BW3.out).below hb) HS.out (by rw [hL1.out]; exact h2.out)
   rw [hlf.out] at this
   exact this
  have HMB : Hid (∀ m,MidR n m -> m <= 9007199254740992):=fun m hm => by have:=hm.lt; have:=HS.out.kl; omega
  clear h hs H b2 b3 Y2 Z3
  go_enter Tryz.func158,Tryz.ntmps158
  go_wp2_with fail
  clear c0 c1' c2' c3'
  refine beginW (S:=fun w' => Nb w' 93 w.heap.size lf (.slice a1 L1 c1) (.slice a2 L2 c2) (.slice a3 L3 c3)) (t:=9) (by kernel_rfl) ?_
  have hS : Nb W3.drew 93 w.heap.size lf (.slice a1 L1 c1) (.slice a2 L2 c2) (.slice a3 L3 c3):=SS.out.1.below ((Below.refl _ _).drew)
  refine tkW 0 (some 15) (.fieldAddr 93 (.tmp 1) 0) (Value.pointer (some ⟨w.heap.size,0,none⟩)) (by rintro o ho w' _; go_simp) hS ?_
  simp only [Act.put,qa,qb,qc]
  refine tkW 1 (some 16) (.load 4 (.tmp 15)) (Value.bool lf) ?hy hS ?_
  case hy =>
   rintro o ho w' hA
   have q:=hA.c0
   go_simp
  simp only [Act.put,qa,qb,qc]
  refine tkW 2 (some 17) (.build 93 #[(0,.tmp 16)]) (nod lf (.slice none 0 0) (.slice none 0 0) (.slice none 0 0)) ?hy hS ?_
  case hy =>
   rintro o ho w' _
   unfold nod
   go_simp
  simp only [Act.put,qa,qb,qc]
  refine tkW 3 (some 18) (.fieldAddr 93 (.tmp 1) 0) (Value.pointer (some ⟨w.heap.size,0,none⟩)) (by rintro o ho w' _; go_simp) hS ?_
  simp only [Act.put,qa,qb,qc]
  refine tkW 4 (some 19) (.load 4 (.tmp 18)) (Value.bool lf) ?hy hS ?_
  case hy =>
   rintro o ho w' hA
   have q:=hA.c0
   go_simp
  simp only [Act.put,qa,qb,qc]
  refine tkW 5 (some 20) (.build 93 #[(0,.tmp 19)]) (nod lf (.slice none 0 0) (.slice none 0 0) (.slice none 0 0)) ?hy hS ?_
  case hy =>
   rintro o ho w' _
   unfold nod
   go_simp
  simp only [Act.put,qa,qb,qc]
  obtain ⟨X0,hX0⟩:=exN W3.drew
  have b0 : Below W3.heap.size W3 X0:=by rw [<- hX0]; exact (Below.refl _ _).drew
  rw [hX0] at hS ⊢
  have hS0:=hS
  have z0 : X0.heap.size = w.heap.size + 3:=by rw [<- hX0]; exact s3.out
  refine zcj9 6 7 (some 4) (.alloc 93) (some 5) (.alloc 93) rfl rfl (by kernel_rfl) ?_ ?_
  ·rintro o K hd ho hg hK
   refine zbk9 ho ?_
   rw [hd]
   obtain ⟨p,hp⟩:=exN X0.heap.size
   obtain ⟨X1,hX1⟩:=exN (X0.alloc (.cells #[.bool false,.slice none 0 0,.slice none 0 0,.slice none 0 0] 93))
   have bl0 : Below X0.heap.size X0 X1:=by rw [<- hX1]; exact za9 _ _
   have sz0 : X1.heap.size = p + 1:=by rw [<- hX1,<- hp]; simp
   have nbp : Nb X1 93 p false (.slice none 0 0) (.slice none 0 0) (.slice none 0 0):=by rw [<- hX1,<- hp]; exact nb_new _ _ _ _ _ _
   rw [hX1,hp]
   have hS1 : Nb X1 93 w.heap.size lf (.slice a1 L1 c1) (.slice a2 L2 c2) (.slice a3 L3 c3):=hS0.below bl0
   refine hK _ _ (fun _ => hS1) ?_
   clear ho hd hg hK
   simp only [Act.put,qa,qb,qc]
   refine rdW 7 (some 5) (.alloc 93) ?_
   rintro o K hd ho hg hK
   refine zbk9 ho ?_
   rw [hd]
   obtain ⟨q,hq⟩:=exN X1.heap.size
   obtain ⟨X2,hX2⟩:=exN (X1.alloc (.cells #[.bool false,.slice none 0 0,.slice none 0 0,.slice none 0 0] 93))
   have bl1 : Below X1.heap.size X1 X2:=by rw [<- hX2]; exact za9 _ _
   have sz1 : X2.heap.size = q + 1:=by rw [<- hX2,<- hq]; simp
   have nbq : Nb X2 93 q false (.slice none 0 0) (.slice none 0 0) (.slice none 0 0):=by rw [<- hX2,<- hq]; exact nb_new _ _ _ _ _ _
   rw [hX2,hq]
   have hS2 : Nb X2 93 w.heap.size lf (.slice a1 L1 c1) (.slice a2 L2 c2) (.slice a3 L3 c3):=hS1.below bl1
   refine hK _ _ (fun _ => hS2) ?_
   clear ho hd hg hK
   simp only [Act.put,qa,qb,qc]
   have nbp' : Nb X2 93 p false (.slice none 0 0) (.slice none 0 0) (.slice none 0 0):=nbp.below bl1
   have FR : p ≠ q /\ w.heap.size + 3 <= p /\ w.heap.size + 3 <= q /\ p < w.heap.size + 5 /\ q < w.heap.size + 5 /\ X2.heap.size = w.heap.size + 5:=by omega
   have nbP : Nb X2 93 p false (.slice none 0 0) (.slice none 0 0) (.slice none 0 0):=nbp'
   have nbQ : Nb X2 93 q false (.slice none 0 0) (.slice none 0 0) (.slice none 0 0):=nbq
   have SP0 : SpN W3 X2 w.heap.size p q lf false false (.slice a1 L1 c1) (.slice a2 L2 c2) (.slice a3 L3 c3) (.slice none 0 0) (.slice none 0 0) (.slice none 0 0) (.slice none 0 0) (.slice none 0 0) (.slice none 0 0):=⟨hS2,((SS.out.2.1.below b0).below bl0).below bl1,((SS.out.2.2.below b0).below bl0).below bl1,nbP,nbQ,(b0.trans (bl0.mono b0.size)).trans (bl1.mono (b0.trans (bl0.mono b0.size)).size),FR.1,FR.2.1,FR.2.2.1,FR.2.2.2.1,FR.2.2.2.2.1,s3.out,by omega⟩
   clear bl0 bl1 sz0 sz1 hX1 hX2 hp hq nbp nbq nbp' nbP nbQ hS1 hS2 FR b0 z0 hX0 hS hS0
   refine rdW 8 none (.store 93 (.tmp 4) (.tmp 17)) ?_
   rintro o K hd ho hg hK
   refine zu9 ho rfl rfl SP0.pk ?_
   have SP1:=SP0.setp lf (x1:=.slice none 0 0) (x2:=.slice none 0 0) (x3:=.slice none 0 0)
   rw [hd]
   refine hK _ _ (fun _ => SP1.n) ?_
   clear ho hd hg hK
   simp only [Act.put,qa,qb,qc]
   refine rdW 9 none (.store 93 (.tmp 5) (.tmp 20)) ?_
   rintro o K hd ho hg hK
   refine zu9 ho rfl rfl SP1.qk ?_
   have SP2:=SP1.setq lf (x1:=.slice none 0 0) (x2:=.slice none 0 0) (x3:=.slice none 0 0)
   rw [hd]
   refine hK _ _ (fun e => absurd rfl e) ?_
   refine doneW (by kernel_rfl) ?_ _
   clear ho hd hg hK SP0 SP1
   simp only [Act.put]
   have SQ:=hideN SP2
   revert SQ
   clear SP2
   generalize (((((((X2.setCell _ _).setCell _ _).setCell _ _).setCell _ _).setCell _ _).setCell _ _).setCell _ _).setCell _ _ = Y0
   intro SQ
   obtain ⟨p0,p1,p2,p3⟩:=SQ.out.cells
   go_wp2_with fail
   refine (HMD.out Y0 SQ.out.bl).mono ?_
   rintro e y0 ⟨⟨m,rfl,hm⟩,bl⟩
   have SA0:=hideN (SQ.out.below bl)
   have HMR:=hideN hm
   have hmb:=HMB.out m hm
   clear hm bl p0 p1 p2 p3 SQ
   have c0:=SA0.out.n.c1
   go_wp2_with fail
   refine (HCT1.out y0 m SA0.out.bl hmb).mono ?_
   rintro e x0 ⟨⟨v1,v2,rfl,r1,r2,nw⟩,bl⟩
   obtain ⟨k1a,k1c,ek⟩:=r1.long
   obtain ⟨o1a,o1c,eo⟩:=r2.long
   obtain ⟨k1l,hk1l⟩:=exH (((strs n.ks).take m).length)
   obtain ⟨o1l,ho1l⟩:=exH (((strs n.ks).drop m).length)
   rw [hk1l.out] at ek
   rw [ho1l.out] at eo
   subst ek eo
   have sb:=SA0.out.below bl
   have nk : Hid (∀ j,(Value.slice k1a k1l k1c).ownBlock = some j -> w.heap.size + 5 <= j):=fun j hj => zn2 SA0.out.zz (nw j (.inl hj)).1
   have no : Hid (∀ j,(Value.slice o1a o1l o1c).ownBlock = some j -> w.heap.size + 5 <= j):=fun j hj => zn2 SA0.out.zz (nw j (.inr hj)).1
   obtain ⟨t0,ht0⟩:=exN (x0.setCell ⟨p,1,none⟩ (.slice k1a k1l k1c))
   obtain ⟨y1,hy1⟩:=exN (t0.setCell ⟨q,1,none⟩ (.slice o1a o1l o1c))
   have q0:=sb.pk.c1
   have q1:=sb.pk.fz 1
   have q2 : t0.cell? ⟨q,1,none⟩ = some (.slice none 0 0):=by rw [<- ht0]; exact (sb.p1 _).qk.c1
   have q3 : t0.frozen? ⟨q,1,none⟩ = false:=by rw [<- ht0]; exact (sb.p1 _).qk.fz 1
   have SA1 : Hid (SpN W3 y1 w.heap.size p q lf lf lf (.slice a1 L1 c1) (.slice a2 L2 c2) (.slice a3 L3 c3) (.slice k1a k1l k1c) (.slice none 0 0) (.slice none 0 0) (.slice o1a o1l o1c) (.slice none 0 0) (.slice none 0 0)):=by rw [<- hy1,<- ht0]; exact (sb.p1 _).q1 _
   have RK1 : Hid ((RdV y1 (.slice k1a k1l k1c) ((strs n.ks).take m) /\ ∀ j,(Value.slice k1a k1l k1c).ownBlock = some j -> w.heap.size + 5 <= j) /\ ∀ j,(Value.slice k1a k1l k1c).ownBlock = some j -> j < y1.heap.size):=⟨⟨by rw [<- hy1,<- ht0]; exact sb.keep r1 nk.out,nk.out⟩,fun j hj => by rw [<- hy1,<- ht0]; exact zn1 (nw j (.inl hj)).2 (zn2 (tch_at _ _ _ _).size (tch_at _ _ _ _).size)⟩
   have RO1 : Hid ((RdV y1 (.slice o1a o1l o1c) ((strs n.ks).drop m) /\ ∀ j,(Value.slice o1a o1l o1c).ownBlock = some j -> w.heap.size + 5 <= j) /\ ∀ j,(Value.slice o1a o1l o1c).ownBlock = some j -> j < y1.heap.size):=⟨⟨by rw [<- hy1,<- ht0]; exact sb.keep r2 no.out,no.out⟩,fun j hj => by rw [<- hy1,<- ht0]; exact zn1 (nw j (.inr hj)).2 (zn2 (tch_at _ _ _ _).size (tch_at _ _ _ _).size)⟩
   clear r1 r2 nw bl sb nk no c0 SA0
   have c0:=SA1.out.n.c2
   go_wp2_with fail
   refine (HCT2.out y1 m SA1.out.bl hmb).mono ?_
   rintro e x1 ⟨⟨v1,v2,rfl,r1,r2,nw⟩,bl⟩
   obtain ⟨k2a,k2c,ek⟩:=r1.long
   obtain ⟨o2a,o2c,eo⟩:=r2.long
   obtain ⟨k2l,hk2l⟩:=exH (((strs n.vs).take m).length)
   obtain ⟨o2l,ho2l⟩:=exH (((strs n.vs).drop m).length)
   rw [hk2l.out] at ek
   rw [ho2l.out] at eo
   subst ek eo
   have sb:=SA1.out.below bl
   have nk : Hid (∀ j,(Value.slice k2a k2l k2c).ownBlock = some j -> w.heap.size + 5 <= j):=fun j hj => zn2 SA1.out.zz (nw j (.inl hj)).1
   have no : Hid (∀ j,(Value.slice o2a o2l o2c).ownBlock = some j -> w.heap.size + 5 <= j):=fun j hj => zn2 SA1.out.zz (nw j (.inr hj)).1
   obtain ⟨t1,ht1⟩:=exN (x1.setCell ⟨p,2,none⟩ (.slice k2a k2l k2c))
   obtain ⟨y2,hy2⟩:=exN (t1.setCell ⟨q,2,none⟩ (.slice o2a o2l o2c))
   have q0:=sb.pk.c2
   have q1:=sb.pk.fz 2
   have q2 : t1.cell? ⟨q,2,none⟩ = some (.slice none 0 0):=by rw [<- ht1]; exact (sb.p2 _).qk.c2
   have q3 : t1.frozen? ⟨q,2,none⟩ = false:=by rw [<- ht1]; exact (sb.p2 _).qk.fz 2
   have SA2 : Hid (SpN W3 y2 w.heap.size p q lf lf lf (.slice a1 L1 c1) (.slice a2 L2 c2) (.slice a3 L3 c3) (.slice k1a k1l k1c) (.slice k2a k2l k2c) (.slice none 0 0) (.slice o1a o1l o1c) (.slice o2a o2l o2c) (.slice none 0 0)):=by rw [<- hy2,<- ht1]; exact (sb.p2 _).q2 _
   have RK2 : Hid ((RdV y2 (.slice k2a k2l k2c) ((strs n.vs).take m) /\ ∀ j,(Value.slice k2a k2l k2c).ownBlock = some j -> w.heap.size + 5 <= j) /\ ∀ j,(Value.slice k2a k2l k2c).ownBlock = some j -> j < y2.heap.size):=⟨⟨by rw [<- hy2,<- ht1]; exact sb.keep r1 nk.out,nk.out⟩,fun j hj => by rw [<- hy2,<- ht1]; exact zn1 (nw j (.inl hj)).2 (zn2 (tch_at _ _ _ _).size (tch_at _ _ _ _).size)⟩
   have RO2 : Hid ((RdV y2 (.slice o2a o2l o2c) ((strs n.vs).drop m) /\ ∀ j,(Value.slice o2a o2l o2c).ownBlock = some j -> w.heap.size + 5 <= j) /\ ∀ j,(Value.slice o2a o2l o2c).ownBlock = some j -> j < y2.heap.size):=⟨⟨by rw [<- hy2,<- ht1]; exact sb.keep r2 no.out,no.out⟩,fun j hj => by rw [<- hy2,<- ht1]; exact zn1 (nw j (.inr hj)).2 (zn2 (tch_at _ _ _ _).size (tch_at _ _ _ _).size)⟩
   replace RK1:=hideN (show (RdV y2 (Value.slice k1a k1l k1c) _ /\ _) /\ (∀ j,(Value.slice k1a k1l k1c).ownBlock = some j -> j < y2.heap.size) from ⟨⟨by rw [<- hy2,<- ht1]; exact sb.keep (RK1.out.1.1.below bl) RK1.out.1.2,RK1.out.1.2⟩,fun j hj => by rw [<- hy2,<- ht1]; exact zn1 (RK1.out.2 j hj) (zn2 bl.size (zn2 (tch_at _ _ _ _).size (tch_at _ _ _ _).size))⟩)
   replace RO1:=hideN (show (RdV y2 (Value.slice o1a o1l o1c) _ /\ _) /\ (∀ j,(Value.slice o1a o1l o1c).ownBlock = some j -> j < y2.heap.size) from ⟨⟨by rw [<- hy2,<- ht1]; exact sb.keep (RO1.out.1.1.below bl) RO1.out.1.2,RO1.out.1.2⟩,fun j hj => by rw [<- hy2,<- ht1]; exact zn1 (RO1.out.2 j hj) (zn2 bl.size (zn2 (tch_at _ _ _ _).size (tch_at _ _ _ _).size))⟩)
   clear r1 r2 nw bl sb nk no c0 SA1
   have c0:=SA2.out.n.c3
   go_wp2_with fail
   refine (HCT3.out y2 m SA2.out.bl hmb).mono ?_
   rintro e x2 ⟨⟨v1,v2,rfl,r1,r2,nw⟩,bl⟩
   obtain ⟨k3a,k3c,ek⟩:=r1.long
   obtain ⟨o3a,o3c,eo⟩:=r2.long
   obtain ⟨k3l,hk3l⟩:=exH (((nums n.kd).take m).length)
   obtain ⟨o3l,ho3l⟩:=exH (((nums n.kd).drop m).length)
   rw [hk3l.out] at ek
   rw [ho3l.out] at eo
   subst ek eo
   have sb:=SA2.out.below bl
   have nk : Hid (∀ j,(Value.slice k3a k3l k3c).ownBlock = some j -> w.heap.size + 5 <= j):=fun j hj => zn2 SA2.out.zz (nw j (.inl hj)).1
   have no : Hid (∀ j,(Value.slice o3a o3l o3c).ownBlock = some j -> w.heap.size + 5 <= j):=fun j hj => zn2 SA2.out.zz (nw j (.inr hj)).1
   obtain ⟨t2,ht2⟩:=exN (x2.setCell ⟨p,3,none⟩ (.slice k3a k3l k3c))
   obtain ⟨y3,hy3⟩:=exN (t2.setCell ⟨q,3,none⟩ (.slice o3a o3l o3c))
   have q0:=sb.pk.c3
   have q1:=sb.pk.fz 3
   have q2 : t2.cell? ⟨q,3,none⟩ = some (.slice none 0 0):=by rw [<- ht2]; exact (sb.p3 _).qk.c3
   have q3 : t2.frozen? ⟨q,3,none⟩ = false:=by rw [<- ht2]; exact (sb.p3 _).qk.fz 3
   have SA3 : Hid (SpN W3 y3 w.heap.size p q lf lf lf (.slice a1 L1 c1) (.slice a2 L2 c2) (.slice a3 L3 c3) (.slice k1a k1l k1c) (.slice k2a k2l k2c) (.slice k3a k3l k3c) (.slice o1a o1l o1c) (.slice o2a o2l o2c) (.slice o3a o3l o3c)):=by rw [<- hy3,<- ht2]; exact (sb.p3 _).q3 _
   have RK3 : Hid ((RdV y3 (.slice k3a k3l k3c) ((nums n.kd).take m) /\ ∀ j,(Value.slice k3a k3l k3c).ownBlock = some j -> w.heap.size + 5 <= j) /\ ∀ j,(Value.slice k3a k3l k3c).ownBlock = some j -> j < y3.heap.size):=⟨⟨by rw [<- hy3,<- ht2]; exact sb.keep r1 nk.out,nk.out⟩,fun j hj => by rw [<- hy3,<- ht2]; exact zn1 (nw j (.inl hj)).2 (zn2 (tch_at _ _ _ _).size (tch_at _ _ _ _).size)⟩
   have RO3 : Hid ((RdV y3 (.slice o3a o3l o3c) ((nums n.kd).drop m) /\ ∀ j,(Value.slice o3a o3l o3c).ownBlock = some j -> w.heap.size + 5 <= j) /\ ∀ j,(Value.slice o3a o3l o3c).ownBlock = some j -> j < y3.heap.size):=⟨⟨by rw [<- hy3,<- ht2]; exact sb.keep r2 no.out,no.out⟩,fun j hj => by rw [<- hy3,<- ht2]; exact zn1 (nw j (.inr hj)).2 (zn2 (tch_at _ _ _ _).size (tch_at _ _ _ _).size)⟩
   replace RK1:=hideN (show (RdV y3 (Value.slice k1a k1l k1c) _ /\ _) /\ (∀ j,(Value.slice k1a k1l k1c).ownBlock = some j -> j < y3.heap.size) from ⟨⟨by rw [<- hy3,<- ht2]; exact sb.keep (RK1.out.1.1.below bl) RK1.out.1.2,RK1.out.1.2⟩,fun j hj => by rw [<- hy3,<- ht2]; exact zn1 (RK1.out.2 j hj) (zn2 bl.size (zn2 (tch_at _ _ _ _).size (tch_at _ _ _ _).size))⟩)
   replace RO1:=hideN (show (RdV y3 (Value.slice o1a o1l o1c) _ /\ _) /\ (∀ j,(Value.slice o1a o1l o1c).ownBlock = some j -> j < y3.heap.size) from ⟨⟨by rw [<- hy3,<- ht2]; exact sb.keep (RO1.out.1.1.below bl) RO1.out.1.2,RO1.out.1.2⟩,fun j hj => by rw [<- hy3,<- ht2]; exact zn1 (RO1.out.2 j hj) (zn2 bl.size (zn2 (tch_at _ _ _ _).size (tch_at _ _ _ _).size))⟩)
   replace RK2:=hideN (show (RdV y3 (Value.slice k2a k2l k2c) _ /\ _) /\ (∀ j,(Value.slice k2a k2l k2c).ownBlock = some j -> j < y3.heap.size) from ⟨⟨by rw [<- hy3,<- ht2]; exact sb.keep (RK2.out.1.1.below bl) RK2.out.1.2,RK2.out.1.2⟩,fun j hj => by rw [<- hy3,<- ht2]; exact zn1 (RK2.out.2 j hj) (zn2 bl.size (zn2 (tch_at _ _ _ _).size (tch_at _ _ _ _).size))⟩)
   replace RO2:=hideN (show (RdV y3 (Value.slice o2a o2l o2c) _ /\ _) /\ (∀ j,(Value.slice o2a o2l o2c).ownBlock = some j -> j < y3.heap.size) from ⟨⟨by rw [<- hy3,<- ht2]; exact sb.keep (RO2.out.1.1.below bl) RO2.out.1.2,RO2.out.1.2⟩,fun j hj => by rw [<- hy3,<- ht2]; exact zn1 (RO2.out.2 j hj) (zn2 bl.size (zn2 (tch_at _ _ _ _).size (tch_at _ _ _ _).size))⟩)
   clear r1 r2 nw bl sb nk no c0 SA2
   go_wp2_with fail
   try rw [hy3]
   clear q0 q1 q2 q3
   refine beginW (S:=fun w' => Nb w' 93 p lf (.slice k1a k1l k1c) (.slice k2a k2l k2c) (.slice k3a k3l k3c) /\ Nb w' 93 q lf (.slice o1a o1l o1c) (.slice o2a o2l o2c) (.slice o3a o3l o3c)) (t:=3) (by kernel_rfl) ?_
   have SD:=SA3.out.below ((Below.refl _ _).drew)
   have hS : Nb y3.drew 93 p lf (.slice k1a k1l k1c) (.slice k2a k2l k2c) (.slice k3a k3l k3c) /\ Nb y3.drew 93 q lf (.slice o1a o1l o1c) (.slice o2a o2l o2c) (.slice o3a o3l o3c):=⟨SD.pk,SD.qk⟩
   refine tkW 0 (some 50) (.load 93 (.tmp 4)) (nod lf (.slice k1a k1l k1c) (.slice k2a k2l k2c) (.slice k3a k3l k3c)) ?hy hS ?_
   case hy =>
    rintro o ho w' ⟨hA,hB⟩
    have q0:=hA.c0; have q1:=hA.c1; have q2:=hA.c2; have q3:=hA.c3
    unfold nod
    go_simp
   simp only [Act.put,qa,qb,qc]
   refine tkW 1 (some 51) (.load 93 (.tmp 5)) (nod lf (.slice o1a o1l o1c) (.slice o2a o2l o2c) (.slice o3a o3l o3c)) ?hy hS ?_
   case hy =>
    rintro o ho w' ⟨hA,hB⟩
    have q0:=hB.c0; have q1:=hB.c1; have q2:=hB.c2; have q3:=hB.c3
    unfold nod
    go_simp
   simp only [Act.put,qa,qb,qc]
   refine rdW 2 none (.store 93 (.tmp 2) (.tmp 50)) ?_
   rintro o K hd ho hg hK
   refine zu9 ho rfl rfl SD.r2 ?_
   rw [hd]
   have tA:=zg9 y3.drew (w.heap.size + 1) (.bool lf) (.slice k1a k1l k1c) (.slice k2a k2l k2c) (.slice k3a k3l k3c)
   have NA:=SD.r2.all lf (.slice k1a k1l k1c) (.slice k2a k2l k2c) (.slice k3a k3l k3c)
   have pA:=SD.pk.tch tA (by have:=SD.pl; omega)
   have qA:=SD.qk.tch tA (by have:=SD.ql; omega)
   have rA:=SD.r3.tch tA (by omega)
   refine hK _ _ (fun _ => ⟨pA,qA⟩) ?_
   clear ho hd hg hK
   simp only [Act.put,qa,qb,qc]
   refine rdW 3 none (.store 93 (.tmp 3) (.tmp 51)) ?_
   rintro o K hd ho hg hK
   refine zu9 ho rfl rfl rA ?_
   rw [hd]
   refine hK _ _ (fun e => absurd rfl e) ?_
   refine doneW (by kernel_rfl) ?_ _
   clear ho hd hg hK
   simp only [Act.put]
   generalize hWA : (((y3.drew.setCell ⟨w.heap.size + 1,0,none⟩ (.bool lf)).setCell ⟨w.heap.size + 1,1,none⟩ (.slice k1a k1l k1c)).setCell ⟨w.heap.size + 1,2,none⟩ (.slice k2a k2l k2c)).setCell ⟨w.heap.size + 1,3,none⟩ (.slice k3a k3l k3c) = WA at *
   have tB:=zg9 WA (w.heap.size + 2) (.bool lf) (.slice o1a o1l o1c) (.slice o2a o2l o2c) (.slice o3a o3l o3c)
   have NB:=rA.all lf (.slice o1a o1l o1c) (.slice o2a o2l o2c) (.slice o3a o3l o3c)
   have NC:=NA.tch tB (by omega)
   generalize hWB : (((WA.setCell ⟨w.heap.size + 2,0,none⟩ (.bool lf)).setCell ⟨w.heap.size + 2,1,none⟩ (.slice o1a o1l o1c)).setCell ⟨w.heap.size + 2,2,none⟩ (.slice o2a o2l o2c)).setCell ⟨w.heap.size + 2,3,none⟩ (.slice o3a o3l o3c) = WB at *
   have bD : Below y3.heap.size y3 y3.drew:=(Below.refl _ _).drew
   have kp : ∀ v xs,(RdV y3 v xs /\ ∀ j,v.ownBlock = some j -> w.heap.size + 5 <= j) -> RdV WB v xs:=fun v xs h => ((h.1.below bD).tch tA (fun j hj e => by have:=h.2 j hj; omega)).tch tB (fun j hj e => by have:=h.2 j hj; omega)
   have KK : Hid (Nn WB (takeN n m) (.slice k1a k1l k1c) (.slice k2a k2l k2c) (.slice k3a k3l k3c)):=⟨by have:=kp _ _ RK1.out.1; simpa [takeN,strs,List.map_take] using this,by have:=kp _ _ RK2.out.1; simpa [takeN,strs,List.map_take] using this,by have:=kp _ _ RK3.out.1; simpa [takeN,nums,List.map_take] using this⟩
   have OO : Hid (Nn WB (dropN n m) (.slice o1a o1l o1c) (.slice o2a o2l o2c) (.slice o3a o3l o3c)):=⟨by have:=kp _ _ RO1.out.1; simpa [dropN,strs,List.map_drop] using this,by have:=kp _ _ RO2.out.1; simpa [dropN,strs,List.map_drop] using this,by have:=kp _ _ RO3.out.1; simpa [dropN,nums,List.map_drop] using this⟩
   have BB : Hid (Below w.heap.size w WB):=by
    have h1 : Below w.heap.size w y3.drew:=BW3.out.trans (SD.bl.mono BW3.out.size)
    have h2 : Below w.heap.size w WA:=h1.trans (tA.below h1.size (fun j e => by omega))
    exact h2.trans (tB.below h2.size (fun j e => by omega))
   have FK : Hid (Fr3 w.heap.size (.slice k1a k1l k1c) (.slice k2a k2l k2c) (.slice k3a k3l k3c)):=fun j hj => by
    rcases hj with e | e | e
    ·have:=RK1.out.1.2 j e; omega
    ·have:=RK2.out.1.2 j e; omega
    ·have:=RK3.out.1.2 j e; omega
   have FO : Hid (Fr3 w.heap.size (.slice o1a o1l o1c) (.slice o2a o2l o2c) (.slice o3a o3l o3c)):=fun j hj => by
    rcases hj with e | e | e
    ·have:=RO1.out.1.2 j e; omega
    ·have:=RO2.out.1.2 j e; omega
    ·have:=RO3.out.1.2 j e; omega
   have UK : Hid (Ub3 WB (.slice k1a k1l k1c) (.slice k2a k2l k2c) (.slice k3a k3l k3c)):=fun j hj => by
    refine zn1 ?_ (zn2 bD.size (zn2 tA.size tB.size))
    rcases hj with e | e | e
    ·exact RK1.out.2 j e
    ·exact RK2.out.2 j e
    ·exact RK3.out.2 j e
   have UO : Hid (Ub3 WB (.slice o1a o1l o1c) (.slice o2a o2l o2c) (.slice o3a o3l o3c)):=fun j hj => by
    refine zn1 ?_ (zn2 bD.size (zn2 tA.size tB.size))
    rcases hj with e | e | e
    ·exact RO1.out.2 j e
    ·exact RO2.out.2 j e
    ·exact RO3.out.2 j e
   have LA:=hideN NC.load
   have LB:=hideN NB.load
   clear tA tB NA NB NC pA qA rA hWA hWB bD kp SD hS
   go_wp2_with fail
   refine bodyPost_ret (v:=.tuple #[nod lf (.slice k1a k1l k1c) (.slice k2a k2l k2c) (.slice k3a k3l k3c),nod lf (.slice o1a o1l o1c) (.slice o2a o2l o2c) (.slice o3a o3l o3c)]) (zcd9 (p:=2) (q:=3) (ty:=93) (tz:=93) rfl _ _ _ (w.heap.size + 1) (w.heap.size + 2) _ _ rfl rfl LA.out LB.out) rfl ?_
   exact ⟨⟨_,_,_,_,_,_,takeN n m,dropN n m,rfl,KK.out,OO.out,.inr ⟨by rw [hL1.out]; exact h2.out,m,HMR.out,rfl,rfl⟩,FK.out,FO.out,UK.out,UO.out⟩,BB.out⟩
  ·rintro o K hd ho hg hK
   refine zbk9 ho ?_
   rw [hd]
   obtain ⟨q,hq⟩:=exN X0.heap.size
   obtain ⟨X1,hX1⟩:=exN (X0.alloc (.cells #[.bool false,.slice none 0 0,.slice none 0 0,.slice none 0 0] 93))
   have bl0 : Below X0.heap.size X0 X1:=by rw [<- hX1]; exact za9 _ _
   have sz0 : X1.heap.size = q + 1:=by rw [<- hX1,<- hq]; simp
   have nbq : Nb X1 93 q false (.slice none 0 0) (.slice none 0 0) (.slice none 0 0):=by rw [<- hX1,<- hq]; exact nb_new _ _ _ _ _ _
   rw [hX1,hq]
   have hS1 : Nb X1 93 w.heap.size lf (.slice a1 L1 c1) (.slice a2 L2 c2) (.slice a3 L3 c3):=hS0.below bl0
   refine hK _ _ (fun _ => hS1) ?_
   clear ho hd hg hK
   simp only [Act.put,qa,qb,qc]
   refine rdW 6 (some 4) (.alloc 93) ?_
   rintro o K hd ho hg hK
   refine zbk9 ho ?_
   rw [hd]
   obtain ⟨p,hp⟩:=exN X1.heap.size
   obtain ⟨X2,hX2⟩:=exN (X1.alloc (.cells #[.bool false,.slice none 0 0,.slice none 0 0,.slice none 0 0] 93))
   have bl1 : Below X1.heap.size X1 X2:=by rw [<- hX2]; exact za9 _ _
   have sz1 : X2.heap.size = p + 1:=by rw [<- hX2,<- hp]; simp
   have nbp : Nb X2 93 p false (.slice none 0 0) (.slice none 0 0) (.slice none 0 0):=by rw [<- hX2,<- hp]; exact nb_new _ _ _ _ _ _
   rw [hX2,hp]
   have hS2 : Nb X2 93 w.heap.size lf (.slice a1 L1 c1) (.slice a2 L2 c2) (.slice a3 L3 c3):=hS1.below bl1
   refine hK _ _ (fun _ => hS2) ?_
   clear ho hd hg hK
   simp only [Act.put,qa,qb,qc]
   have nbq' : Nb X2 93 q false (.slice none 0 0) (.slice none 0 0) (.slice none 0 0):=nbq.below bl1
   have FR : p ≠ q /\ w.heap.size + 3 <= p /\ w.heap.size + 3 <= q /\ p < w.heap.size + 5 /\ q < w.heap.size + 5 /\ X2.heap.size = w.heap.size + 5:=by omega
   have nbP : Nb X2 93 p false (.slice none 0 0) (.slice none 0 0) (.slice none 0 0):=nbp
   have nbQ : Nb X2 93 q false (.slice none 0 0) (.slice none 0 0) (.slice none 0 0):=nbq'
   have SP0 : SpN W3 X2 w.heap.size p q lf false false (.slice a1 L1 c1) (.slice a2 L2 c2) (.slice a3 L3 c3) (.slice none 0 0) (.slice none 0 0) (.slice none 0 0) (.slice none 0 0) (.slice none 0 0) (.slice none 0 0):=⟨hS2,((SS.out.2.1.below b0).below bl0).below bl1,((SS.out.2.2.below b0).below bl0).below bl1,nbP,nbQ,(b0.trans (bl0.mono b0.size)).trans (bl1.mono (b0.trans (bl0.mono b0.size)).size),FR.1,FR.2.1,FR.2.2.1,FR.2.2.2.1,FR.2.2.2.2.1,s3.out,by omega⟩
   clear bl0 bl1 sz0 sz1 hX1 hX2 hp hq nbp nbq nbq' nbP nbQ hS1 hS2 FR b0 z0 hX0 hS hS0
   refine rdW 8 none (.store 93 (.tmp 4) (.tmp 17)) ?_
   rintro o K hd ho hg hK
   refine zu9 ho rfl rfl SP0.pk ?_
   have SP1:=SP0.setp lf (x1:=.slice none 0 0) (x2:=.slice none 0 0) (x3:=.slice none 0 0)
   rw [hd]
   refine hK _ _ (fun _ => SP1.n) ?_
   clear ho hd hg hK
   simp only [Act.put,qa,qb,qc]
   refine rdW 9 none (.store 93 (.tmp 5) (.tmp 20)) ?_
   rintro o K hd ho hg hK
   refine zu9 ho rfl rfl SP1.qk ?_
   have SP2:=SP1.setq lf (x1:=.slice none 0 0) (x2:=.slice none 0 0) (x3:=.slice none 0 0)
   rw [hd]
   refine hK _ _ (fun e => absurd rfl e) ?_
   refine doneW (by kernel_rfl) ?_ _
   clear ho hd hg hK SP0 SP1
   simp only [Act.put]
   have SQ:=hideN SP2
   revert SQ
   clear SP2
   generalize (((((((X2.setCell _ _).setCell _ _).setCell _ _).setCell _ _).setCell _ _).setCell _ _).setCell _ _).setCell _ _ = Y0
   intro SQ
   obtain ⟨p0,p1,p2,p3⟩:=SQ.out.cells
   go_wp2_with fail
   refine (HMD.out Y0 SQ.out.bl).mono ?_
   rintro e y0 ⟨⟨m,rfl,hm⟩,bl⟩
   have SA0:=hideN (SQ.out.below bl)
   have HMR:=hideN hm
   have hmb:=HMB.out m hm
   clear hm bl p0 p1 p2 p3 SQ
   have c0:=SA0.out.n.c1
   go_wp2_with fail
   refine (HCT1.out y0 m SA0.out.bl hmb).mono ?_
   rintro e x0 ⟨⟨v1,v2,rfl,r1,r2,nw⟩,bl⟩
   obtain ⟨k1a,k1c,ek⟩:=r1.long
   obtain ⟨o1a,o1c,eo⟩:=r2.long
   obtain ⟨k1l,hk1l⟩:=exH (((strs n.ks).take m).length)
   obtain ⟨o1l,ho1l⟩:=exH (((strs n.ks).drop m).length)
   rw [hk1l.out] at ek
   rw [ho1l.out] at eo
   subst ek eo
   have sb:=SA0.out.below bl
   have nk : Hid (∀ j,(Value.slice k1a k1l k1c).ownBlock = some j -> w.heap.size + 5 <= j):=fun j hj => zn2 SA0.out.zz (nw j (.inl hj)).1
   have no : Hid (∀ j,(Value.slice o1a o1l o1c).ownBlock = some j -> w.heap.size + 5 <= j):=fun j hj => zn2 SA0.out.zz (nw j (.inr hj)).1
   obtain ⟨t0,ht0⟩:=exN (x0.setCell ⟨p,1,none⟩ (.slice k1a k1l k1c))
   obtain ⟨y1,hy1⟩:=exN (t0.setCell ⟨q,1,none⟩ (.slice o1a o1l o1c))
   have q0:=sb.pk.c1
   have q1:=sb.pk.fz 1
   have q2 : t0.cell? ⟨q,1,none⟩ = some (.slice none 0 0):=by rw [<- ht0]; exact (sb.p1 _).qk.c1
   have q3 : t0.frozen? ⟨q,1,none⟩ = false:=by rw [<- ht0]; exact (sb.p1 _).qk.fz 1
   have SA1 : Hid (SpN W3 y1 w.heap.size p q lf lf lf (.slice a1 L1 c1) (.slice a2 L2 c2) (.slice a3 L3 c3) (.slice k1a k1l k1c) (.slice none 0 0) (.slice none 0 0) (.slice o1a o1l o1c) (.slice none 0 0) (.slice none 0 0)):=by rw [<- hy1,<- ht0]; exact (sb.p1 _).q1 _
   have RK1 : Hid ((RdV y1 (.slice k1a k1l k1c) ((strs n.ks).take m) /\ ∀ j,(Value.slice k1a k1l k1c).ownBlock = some j -> w.heap.size + 5 <= j) /\ ∀ j,(Value.slice k1a k1l k1c).ownBlock = some j -> j < y1.heap.size):=⟨⟨by rw [<- hy1,<- ht0]; exact sb.keep r1 nk.out,nk.out⟩,fun j hj => by rw [<- hy1,<- ht0]; exact zn1 (nw j (.inl hj)).2 (zn2 (tch_at _ _ _ _).size (tch_at _ _ _ _).size)⟩
   have RO1 : Hid ((RdV y1 (.slice o1a o1l o1c) ((strs n.ks).drop m) /\ ∀ j,(Value.slice o1a o1l o1c).ownBlock = some j -> w.heap.size + 5 <= j) /\ ∀ j,(Value.slice o1a o1l o1c).ownBlock = some j -> j < y1.heap.size):=⟨⟨by rw [<- hy1,<- ht0]; exact sb.keep r2 no.out,no.out⟩,fun j hj => by rw [<- hy1,<- ht0]; exact zn1 (nw j (.inr hj)).2 (zn2 (tch_at _ _ _ _).size (tch_at _ _ _ _).size)⟩
   clear r1 r2 nw bl sb nk no c0 SA0
   have c0:=SA1.out.n.c2
   go_wp2_with fail
   refine (HCT2.out y1 m SA1.out.bl hmb).mono ?_
   rintro e x1 ⟨⟨v1,v2,rfl,r1,r2,nw⟩,bl⟩
   obtain ⟨k2a,k2c,ek⟩:=r1.long
   obtain ⟨o2a,o2c,eo⟩:=r2.long
   obtain ⟨k2l,hk2l⟩:=exH (((strs n.vs).take m).length)
   obtain ⟨o2l,ho2l⟩:=exH (((strs n.vs).drop m).length)
   rw [hk2l.out] at ek
   rw [ho2l.out] at eo
   subst ek eo
   have sb:=SA1.out.below bl
   have nk : Hid (∀ j,(Value.slice k2a k2l k2c).ownBlock = some j -> w.heap.size + 5 <= j):=fun j hj => zn2 SA1.out.zz (nw j (.inl hj)).1
   have no : Hid (∀ j,(Value.slice o2a o2l o2c).ownBlock = some j -> w.heap.size + 5 <= j):=fun j hj => zn2 SA1.out.zz (nw j (.inr hj)).1
   obtain ⟨t1,ht1⟩:=exN (x1.setCell ⟨p,2,none⟩ (.slice k2a k2l k2c))
   obtain ⟨y2,hy2⟩:=exN (t1.setCell ⟨q,2,none⟩ (.slice o2a o2l o2c))
   have q0:=sb.pk.c2
   have q1:=sb.pk.fz 2
   have q2 : t1.cell? ⟨q,2,none⟩ = some (.slice none 0 0):=by rw [<- ht1]; exact (sb.p2 _).qk.c2
   have q3 : t1.frozen? ⟨q,2,none⟩ = false:=by rw [<- ht1]; exact (sb.p2 _).qk.fz 2
   have SA2 : Hid (SpN W3 y2 w.heap.size p q lf lf lf (.slice a1 L1 c1) (.slice a2 L2 c2) (.slice a3 L3 c3) (.slice k1a k1l k1c) (.slice k2a k2l k2c) (.slice none 0 0) (.slice o1a o1l o1c) (.slice o2a o2l o2c) (.slice none 0 0)):=by rw [<- hy2,<- ht1]; exact (sb.p2 _).q2 _
   have RK2 : Hid ((RdV y2 (.slice k2a k2l k2c) ((strs n.vs).take m) /\ ∀ j,(Value.slice k2a k2l k2c).ownBlock = some j -> w.heap.size + 5 <= j) /\ ∀ j,(Value.slice k2a k2l k2c).ownBlock = some j -> j < y2.heap.size):=⟨⟨by rw [<- hy2,<- ht1]; exact sb.keep r1 nk.out,nk.out⟩,fun j hj => by rw [<- hy2,<- ht1]; exact zn1 (nw j (.inl hj)).2 (zn2 (tch_at _ _ _ _).size (tch_at _ _ _ _).size)⟩
   have RO2 : Hid ((RdV y2 (.slice o2a o2l o2c) ((strs n.vs).drop m) /\ ∀ j,(Value.slice o2a o2l o2c).ownBlock = some j -> w.heap.size + 5 <= j) /\ ∀ j,(Value.slice o2a o2l o2c).ownBlock = some j -> j < y2.heap.size):=⟨⟨by rw [<- hy2,<- ht1]; exact sb.keep r2 no.out,no.out⟩,fun j hj => by rw [<- hy2,<- ht1]; exact zn1 (nw j (.inr hj)).2 (zn2 (tch_at _ _ _ _).size (tch_at _ _ _ _).size)⟩
   replace RK1:=hideN (show (RdV y2 (Value.slice k1a k1l k1c) _ /\ _) /\ (∀ j,(Value.slice k1a k1l k1c).ownBlock = some j -> j < y2.heap.size) from ⟨⟨by rw [<- hy2,<- ht1]; exact sb.keep (RK1.out.1.1.below bl) RK1.out.1.2,RK1.out.1.2⟩,fun j hj => by rw [<- hy2,<- ht1]; exact zn1 (RK1.out.2 j hj) (zn2 bl.size (zn2 (tch_at _ _ _ _).size (tch_at _ _ _ _).size))⟩)
   replace RO1:=hideN (show (RdV y2 (Value.slice o1a o1l o1c) _ /\ _) /\ (∀ j,(Value.slice o1a o1l o1c).ownBlock = some j -> j < y2.heap.size) from ⟨⟨by rw [<- hy2,<- ht1]; exact sb.keep (RO1.out.1.1.below bl) RO1.out.1.2,RO1.out.1.2⟩,fun j hj => by rw [<- hy2,<- ht1]; exact zn1 (RO1.out.2 j hj) (zn2 bl.size (zn2 (tch_at _ _ _ _).size (tch_at _ _ _ _).size))⟩)
   clear r1 r2 nw bl sb nk no c0 SA1
   have c0:=SA2.out.n.c3
   go_wp2_with fail
   refine (HCT3.out y2 m SA2.out.bl hmb).mono ?_
   rintro e x2 ⟨⟨v1,v2,rfl,r1,r2,nw⟩,bl⟩
   obtain ⟨k3a,k3c,ek⟩:=r1.long
   obtain ⟨o3a,o3c,eo⟩:=r2.long
   obtain ⟨k3l,hk3l⟩:=exH (((nums n.kd).take m).length)
   obtain ⟨o3l,ho3l⟩:=exH (((nums n.kd).drop m).length)
   rw [hk3l.out] at ek
   rw [ho3l.out] at eo
   subst ek eo
   have sb:=SA2.out.below bl
   have nk : Hid (∀ j,(Value.slice k3a k3l k3c).ownBlock = some j -> w.heap.size + 5 <= j):=fun j hj => zn2 SA2.out.zz (nw j (.inl hj)).1
   have no : Hid (∀ j,(Value.slice o3a o3l o3c).ownBlock = some j -> w.heap.size + 5 <= j):=fun j hj => zn2 SA2.out.zz (nw j (.inr hj)).1
   obtain ⟨t2,ht2⟩:=exN (x2.setCell ⟨p,3,none⟩ (.slice k3a k3l k3c))
   obtain ⟨y3,hy3⟩:=exN (t2.setCell ⟨q,3,none⟩ (.slice o3a o3l o3c))
   have q0:=sb.pk.c3
   have q1:=sb.pk.fz 3
   have q2 : t2.cell? ⟨q,3,none⟩ = some (.slice none 0 0):=by rw [<- ht2]; exact (sb.p3 _).qk.c3
   have q3 : t2.frozen? ⟨q,3,none⟩ = false:=by rw [<- ht2]; exact (sb.p3 _).qk.fz 3
   have SA3 : Hid (SpN W3 y3 w.heap.size p q lf lf lf (.slice a1 L1 c1) (.slice a2 L2 c2) (.slice a3 L3 c3) (.slice k1a k1l k1c) (.slice k2a k2l k2c) (.slice k3a k3l k3c) (.slice o1a o1l o1c) (.slice o2a o2l o2c) (.slice o3a o3l o3c)):=by rw [<- hy3,<- ht2]; exact (sb.p3 _).q3 _
   have RK3 : Hid ((RdV y3 (.slice k3a k3l k3c) ((nums n.kd).take m) /\ ∀ j,(Value.slice k3a k3l k3c).ownBlock = some j -> w.heap.size + 5 <= j) /\ ∀ j,(Value.slice k3a k3l k3c).ownBlock = some j -> j < y3.heap.size):=⟨⟨by rw [<- hy3,<- ht2]; exact sb.keep r1 nk.out,nk.out⟩,fun j hj => by rw [<- hy3,<- ht2]; exact zn1 (nw j (.inl hj)).2 (zn2 (tch_at _ _ _ _).size (tch_at _ _ _ _).size)⟩
   have RO3 : Hid ((RdV y3 (.slice o3a o3l o3c) ((nums n.kd).drop m) /\ ∀ j,(Value.slice o3a o3l o3c).ownBlock = some j -> w.heap.size + 5 <= j) /\ ∀ j,(Value.slice o3a o3l o3c).ownBlock = some j -> j < y3.heap.size):=⟨⟨by rw [<- hy3,<- ht2]; exact sb.keep r2 no.out,no.out⟩,fun j hj => by rw [<- hy3,<- ht2]; exact zn1 (nw j (.inr hj)).2 (zn2 (tch_at _ _ _ _).size (tch_at _ _ _ _).size)⟩
   replace RK1:=hideN (show (RdV y3 (Value.slice k1a k1l k1c) _ /\ _) /\ (∀ j,(Value.slice k1a k1l k1c).ownBlock = some j -> j < y3.heap.size) from ⟨⟨by rw [<- hy3,<- ht2]; exact sb.keep (RK1.out.1.1.below bl) RK1.out.1.2,RK1.out.1.2⟩,fun j hj => by rw [<- hy3,<- ht2]; exact zn1 (RK1.out.2 j hj) (zn2 bl.size (zn2 (tch_at _ _ _ _).size (tch_at _ _ _ _).size))⟩)
   replace RO1:=hideN (show (RdV y3 (Value.slice o1a o1l o1c) _ /\ _) /\ (∀ j,(Value.slice o1a o1l o1c).ownBlock = some j -> j < y3.heap.size) from ⟨⟨by rw [<- hy3,<- ht2]; exact sb.keep (RO1.out.1.1.below bl) RO1.out.1.2,RO1.out.1.2⟩,fun j hj => by rw [<- hy3,<- ht2]; exact zn1 (RO1.out.2 j hj) (zn2 bl.size (zn2 (tch_at _ _ _ _).size (tch_at _ _ _ _).size))⟩)
   replace RK2:=hideN (show (RdV y3 (Value.slice k2a k2l k2c) _ /\ _) /\ (∀ j,(Value.slice k2a k2l k2c).ownBlock = some j -> j < y3.heap.size) from ⟨⟨by rw [<- hy3,<- ht2]; exact sb.keep (RK2.out.1.1.below bl) RK2.out.1.2,RK2.out.1.2⟩,fun j hj => by rw [<- hy3,<- ht2]; exact zn1 (RK2.out.2 j hj) (zn2 bl.size (zn2 (tch_at _ _ _ _).size (tch_at _ _ _ _).size))⟩)
   replace RO2:=hideN (show (RdV y3 (Value.slice o2a o2l o2c) _ /\ _) /\ (∀ j,(Value.slice o2a o2l o2c).ownBlock = some j -> j < y3.heap.size) from ⟨⟨by rw [<- hy3,<- ht2]; exact sb.keep (RO2.out.1.1.below bl) RO2.out.1.2,RO2.out.1.2⟩,fun j hj => by rw [<- hy3,<- ht2]; exact zn1 (RO2.out.2 j hj) (zn2 bl.size (zn2 (tch_at _ _ _ _).size (tch_at _ _ _ _).size))⟩)
   clear r1 r2 nw bl sb nk no c0 SA2
   go_wp2_with fail
   try rw [hy3]
   clear q0 q1 q2 q3
   refine beginW (S:=fun w' => Nb w' 93 p lf (.slice k1a k1l k1c) (.slice k2a k2l k2c) (.slice k3a k3l k3c) /\ Nb w' 93 q lf (.slice o1a o1l o1c) (.slice o2a o2l o2c) (.slice o3a o3l o3c)) (t:=3) (by kernel_rfl) ?_
   have SD:=SA3.out.below ((Below.refl _ _).drew)
   have hS : Nb y3.drew 93 p lf (.slice k1a k1l k1c) (.slice k2a k2l k2c) (.slice k3a k3l k3c) /\ Nb y3.drew 93 q lf (.slice o1a o1l o1c) (.slice o2a o2l o2c) (.slice o3a o3l o3c):=⟨SD.pk,SD.qk⟩
   refine tkW 0 (some 50) (.load 93 (.tmp 4)) (nod lf (.slice k1a k1l k1c) (.slice k2a k2l k2c) (.slice k3a k3l k3c)) ?hy hS ?_
   case hy =>
    rintro o ho w' ⟨hA,hB⟩
    have q0:=hA.c0; have q1:=hA.c1; have q2:=hA.c2; have q3:=hA.c3
    unfold nod
    go_simp
   simp only [Act.put,qa,qb,qc]
   refine tkW 1 (some 51) (.load 93 (.tmp 5)) (nod lf (.slice o1a o1l o1c) (.slice o2a o2l o2c) (.slice o3a o3l o3c)) ?hy hS ?_
   case hy =>
    rintro o ho w' ⟨hA,hB⟩
    have q0:=hB.c0; have q1:=hB.c1; have q2:=hB.c2; have q3:=hB.c3
    unfold nod
    go_simp
   simp only [Act.put,qa,qb,qc]
   refine rdW 2 none (.store 93 (.tmp 2) (.tmp 50)) ?_
   rintro o K hd ho hg hK
   refine zu9 ho rfl rfl SD.r2 ?_
   rw [hd]
   have tA:=zg9 y3.drew (w.heap.size + 1) (.bool lf) (.slice k1a k1l k1c) (.slice k2a k2l k2c) (.slice k3a k3l k3c)
   have NA:=SD.r2.all lf (.slice k1a k1l k1c) (.slice k2a k2l k2c) (.slice k3a k3l k3c)
   have pA:=SD.pk.tch tA (by have:=SD.pl; omega)
   have qA:=SD.qk.tch tA (by have:=SD.ql; omega)
   have rA:=SD.r3.tch tA (by omega)
   refine hK _ _ (fun _ => ⟨pA,qA⟩) ?_
   clear ho hd hg hK
   simp only [Act.put,qa,qb,qc]
   refine rdW 3 none (.store 93 (.tmp 3) (.tmp 51)) ?_
   rintro o K hd ho hg hK
   refine zu9 ho rfl rfl rA ?_
   rw [hd]
   refine hK _ _ (fun e => absurd rfl e) ?_
   refine doneW (by kernel_rfl) ?_ _
   clear ho hd hg hK
   simp only [Act.put]
   generalize hWA : (((y3.drew.setCell ⟨w.heap.size + 1,0,none⟩ (.bool lf)).setCell ⟨w.heap.size + 1,1,none⟩ (.slice k1a k1l k1c)).setCell ⟨w.heap.size + 1,2,none⟩ (.slice k2a k2l k2c)).setCell ⟨w.heap.size + 1,3,none⟩ (.slice k3a k3l k3c) = WA at *
   have tB:=zg9 WA (w.heap.size + 2) (.bool lf) (.slice o1a o1l o1c) (.slice o2a o2l o2c) (.slice o3a o3l o3c)
   have NB:=rA.all lf (.slice o1a o1l o1c) (.slice o2a o2l o2c) (.slice o3a o3l o3c)
   have NC:=NA.tch tB (by omega)
   generalize hWB : (((WA.setCell ⟨w.heap.size + 2,0,none⟩ (.bool lf)).setCell ⟨w.heap.size + 2,1,none⟩ (.slice o1a o1l o1c)).setCell ⟨w.heap.size + 2,2,none⟩ (.slice o2a o2l o2c)).setCell ⟨w.heap.size + 2,3,none⟩ (.slice o3a o3l o3c) = WB at *
   have bD : Below y3.heap.size y3 y3.drew:=(Below.refl _ _).drew
   have kp : ∀ v xs,(RdV y3 v xs /\ ∀ j,v.ownBlock = some j -> w.heap.size + 5 <= j) -> RdV WB v xs:=fun v xs h => ((h.1.below bD).tch tA (fun j hj e => by have:=h.2 j hj; omega)).tch tB (fun j hj e => by have:=h.2 j hj; omega)
   have KK : Hid (Nn WB (takeN n m) (.slice k1a k1l k1c) (.slice k2a k2l k2c) (.slice k3a k3l k3c)):=⟨by have:=kp _ _ RK1.out.1; simpa [takeN,strs,List.map_take] using this,by have:=kp _ _ RK2.out.1; simpa [takeN,strs,List.map_take] using this,by have:=kp _ _ RK3.out.1; simpa [takeN,nums,List.map_take] using this⟩
   have OO : Hid (Nn WB (dropN n m) (.slice o1a o1l o1c) (.slice o2a o2l o2c) (.slice o3a o3l o3c)):=⟨by have:=kp _ _ RO1.out.1; simpa [dropN,strs,List.map_drop] using this,by have:=kp _ _ RO2.out.1; simpa [dropN,strs,List.map_drop] using this,by have:=kp _ _ RO3.out.1; simpa [dropN,nums,List.map_drop] using this⟩
   have BB : Hid (Below w.heap.size w WB):=by
    have h1 : Below w.heap.size w y3.drew:=BW3.out.trans (SD.bl.mono BW3.out.size)
    have h2 : Below w.heap.size w WA:=h1.trans (tA.below h1.size (fun j e => by omega))
    exact h2.trans (tB.below h2.size (fun j e => by omega))
   have FK : Hid (Fr3 w.heap.size (.slice k1a k1l k1c) (.slice k2a k2l k2c) (.slice k3a k3l k3c)):=fun j hj => by
    rcases hj with e | e | e
    ·have:=RK1.out.1.2 j e; omega
    ·have:=RK2.out.1.2 j e; omega
    ·have:=RK3.out.1.2 j e; omega
   have FO : Hid (Fr3 w.heap.size (.slice o1a o1l o1c) (.slice o2a o2l o2c) (.slice o3a o3l o3c)):=fun j hj => by
    rcases hj with e | e | e
    ·have:=RO1.out.1.2 j e; omega
    ·have:=RO2.out.1.2 j e; omega
    ·have:=RO3.out.1.2 j e; omega
   have UK : Hid (Ub3 WB (.slice k1a k1l k1c) (.slice k2a k2l k2c) (.slice k3a k3l k3c)):=fun j hj => by
    refine zn1 ?_ (zn2 bD.size (zn2 tA.size tB.size))
    rcases hj with e | e | e
    ·exact RK1.out.2 j e
    ·exact RK2.out.2 j e
    ·exact RK3.out.2 j e
   have UO : Hid (Ub3 WB (.slice o1a o1l o1c) (.slice o2a o2l o2c) (.slice o3a o3l o3c)):=fun j hj => by
    refine zn1 ?_ (zn2 bD.size (zn2 tA.size tB.size))
    rcases hj with e | e | e
    ·exact RO1.out.2 j e
    ·exact RO2.out.2 j e
    ·exact RO3.out.2 j e
   have LA:=hideN NC.load
   have LB:=hideN NB.load
   clear tA tB NA NB NC pA qA rA hWA hWB bD kp SD hS
   go_wp2_with fail
   refine bodyPost_ret (v:=.tuple #[nod lf (.slice k1a k1l k1c) (.slice k2a k2l k2c) (.slice k3a k3l k3c),nod lf (.slice o1a o1l o1c) (.slice o2a o2l o2c) (.slice o3a o3l o3c)]) (zcd9 (p:=2) (q:=3) (ty:=93) (tz:=93) rfl _ _ _ (w.heap.size + 1) (w.heap.size + 2) _ _ rfl rfl LA.out LB.out) rfl ?_
   exact ⟨⟨_,_,_,_,_,_,takeN n m,dropN n m,rfl,KK.out,OO.out,.inr ⟨by rw [hL1.out]; exact h2.out,m,HMR.out,rfl,rfl⟩,FK.out,FO.out,UK.out,UO.out⟩,BB.out⟩
end Go.Proofs.YtjhccpijpffahaaGreat
