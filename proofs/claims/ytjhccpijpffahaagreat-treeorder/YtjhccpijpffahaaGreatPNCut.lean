import Derived.Test.YtjhccpijpffahaaGreatPNSl
import Derived.Test.YtjhccpijpffahaaGreatPNReg
import Derived.Test.YtjhccpijpffahaaGreatPBReg
import Derived.Test.YtjhccpijpffahaaGreatPNPl
set_option maxRecDepth 100000
set_option linter.unusedVariables false
set_option linter.unusedSimpArgs false
set_option maxHeartbeats 8000000
namespace Go.Proofs.YtjhccpijpffahaaGreat
open Go.RowKit Pl
theorem zao9 {w : World} {a : Option Addr} {cap : Nat} {cs : List Value} (h : RdV w (.slice a cs.length cap) cs) (l m : Nat) (hl : l <= m) (hm : m <= cs.length) : RdV w (sliced a l m cap 1) ((cs.drop l).take (m - l)):=by
 obtain ⟨a',cap',e,h1,h2,h3,h4⟩:=h
 cases e
 have el : ((cs.drop l).take (m - l)).length = m - l:=by rw [List.length_take,List.length_drop]; omega
 unfold sliced
 rw [Nat.mul_one]
 by_cases hz : m - l = 0
 ·have hnil : (cs.drop l).take (m - l) = []:=by rw [hz]; rfl
  rw [hnil,hz]
  refine ⟨_,cap - l,rfl,zn7 _,by omega,fun e => ?_,.inl rfl⟩
  by_cases c : cap = l
  ·omega
  ·rw [if_neg c] at e
   have : a = none:=by simpa using e
   have:=h3 this
   omega
 ·rcases h4 with rfl | ⟨b,o,rfl,hc⟩
  ·simp at hm; omega
  ·rw [if_neg (by omega)]
   refine ⟨_,cap - l,by rw [el],by omega,by omega,fun e => (by cases e),.inr ⟨b,o + l,by simp [Addr.add],fun i c hi => ?_⟩⟩
   have:=(List.getElem?_eq_some_iff.1 hi).1
   rw [el] at this
   rw [List.getElem?_take,if_pos this,List.getElem?_drop] at hi
   have:=hc (l + i) c hi
   rw [Nat.add_assoc]
   exact this
theorem sizeSV (w : World) : (sizeOf (Tryz.prog.elem 91)).run Tryz.prog w = .ok 1 w:=by
 have h : (Tryz.prog.info? (Tryz.prog.elem 91)).map (·.size) = some 1:=by kernel_rfl
 obtain ⟨i,hi,hs⟩:=Option.map_eq_some_iff.1 h
 simp [sizeOf,typeInfo,hi,hs]
theorem zic9 : Tryz.prog.underlying 91 = some (.slice (Tryz.prog.elem 91)):=by
 have : Tryz.prog.elem 91 = 9:=by kernel_rfl
 rw [this]
 exact Tryz.underlying91
theorem fromSV (b : Option Addr) (L cap p : Nat) (h1 : p <= L) (h2 : L <= cap) (w : World) : (Instr.sliceAt 91 (.slice b L cap) (some (.int .i64 (p : Int))) none none).run Tryz.prog w = .ok (sliced b p L cap 1) w:=by
 rw [run_sliceAt_slice _ _ _ _ _ _ zic9,run_slice_l _ _ _ _ _ zic9 _ _ (by omega) (by omega),sizeSV]
 simp [Result.andThen]
theorem uptoSV (b : Option Addr) (L cap p : Nat) (h1 : p <= L) (h2 : L <= cap) (w : World) : (Instr.sliceAt 91 (.slice b L cap) none (some (.int .i64 (p : Int))) none).run Tryz.prog w = .ok (sliced b 0 p cap 1) w:=by
 rw [run_sliceAt_slice _ _ _ _ _ _ zic9,run_slice_h _ _ _ _ _ zic9 _ _ (by omega) (by omega),sizeSV]
 simp [Result.andThen]
theorem zfd9 (v : Value) (xs : List Value) (m : Nat) (w : World) (ha : RdV w v xs) (h1 : ∀ x ∈ xs,x.oneCell' = true) (h3 : xs.length * 16 <= 140737488355328) (hm : m <= 9007199254740992) :
  Calls Tryz.prog 176 #[v,.int .i64 (m : Int)] w fun e w' => (∃ v1 v2,e = .returned (.tuple #[v1,v2]) /\ RdV w' v1 (xs.take m) /\ RdV w' v2 (xs.drop m) /\ ∀ j,(v1.ownBlock = some j ∨ v2.ownBlock = some j) -> w.heap.size <= j /\ j < w'.heap.size) /\ Below w.heap.size w w':=by
 obtain ⟨p,hp⟩ : ∃ p,p = min m xs.length:=⟨_,rfl⟩
 have ht : xs.take m = xs.take p:=by rw [hp]; by_cases h : m <= xs.length; (· rw [Nat.min_eq_left h]); (· rw [Nat.min_eq_right (by omega),zn5 (by omega),zn5 (zn6 _)])
 have hd : xs.drop m = xs.drop p:=by rw [hp]; by_cases h : m <= xs.length; (· rw [Nat.min_eq_left h]); (· rw [Nat.min_eq_right (by omega),List.drop_of_length_le (by omega),List.drop_of_length_le (zn6 _)])
 rw [ht,hd]
 have hpl : p <= xs.length:=by omega
 obtain ⟨a,cap,rfl,l1,l2,hn0⟩:=ha.len
 have R1H:=hideN (zao9 ha 0 p (zn7 _) hpl)
 have R2H:=hideN (zao9 ha p xs.length hpl (zn6 _))
 rw [List.drop_zero,Nat.sub_zero] at R1H
 rw [show (xs.drop p).take (xs.length - p) = xs.drop p by rw [zn5]; rw [List.length_drop]; omega] at R2H
 have HC : Hid (∀ W v cs,Below w.heap.size w W -> RdV W v cs -> cs.length <= xs.length -> (∀ x ∈ cs,x.oneCell' = true) -> Calls Tryz.prog 190 #[v] W fun e w' => (∃ v',e = .returned v' /\ RdV w' v' cs /\ ∀ j,v'.ownBlock = some j -> W.heap.size <= j /\ j < w'.heap.size) /\ Below W.heap.size W w'):=fun W v cs _ hr hl h1 => zjl9 v cs W hr h1 (zn2 (Nat.mul_le_mul_right _ hl) h3)
 have HT : Hid ((xs.take p).length <= xs.length /\ ∀ x ∈ xs.take p,x.oneCell' = true):=⟨by rw [List.length_take]; omega,fun x hx => h1 x (List.mem_of_mem_take hx)⟩
 have HD : Hid ((xs.drop p).length <= xs.length /\ ∀ x ∈ xs.drop p,x.oneCell' = true):=⟨by rw [List.length_drop]; omega,fun x hx => h1 x (List.mem_of_mem_drop hx)⟩
 have hL : xs.length <= 9007199254740992:=by omega
 have U1:=hideN (uptoSV a xs.length cap p hpl l1)
 have U2:=hideN (fromSV a xs.length cap p hpl l1)
 obtain ⟨L,hLL⟩:=exH xs.length
 have HM : Hid (p = min m L):=by rw [<- hLL.out]; exact hp
 rw [hLL.out] at l1 R2H hpl hL U1 U2 ⊢
 have h0 : Below w.heap.size w w.drew:=(Below.refl _ _).drew
 clear ha h1 hp ht hd hn0 h3
 by_cases hmin : m <= L
 ·have hpm : p = m:=by have:=HM.out; omega
  have hmi : (m : Int) <= (L : Int):=by omega
  subst hpm
  clear HM
  go_enter Tryz.func176,Tryz.ntmps176
  go_wp2_with fail
  refine beginW (S:=fun _ => True) (t:=9) (by kernel_rfl) ?_
  refine tkW 0 (some 10) (.move (.tmp 0)) (Value.slice a L cap) ?hy trivial ?_
  case hy =>
   rintro o ho w' _
   first | (go_simp; done) | (go_simp; omega)
  simp only [Act.put,qa,qb,qc]
  refine tkW 1 (some 11) (.move (.tmp 1)) (Value.int .i64 (p : Int)) ?hy trivial ?_
  case hy =>
   rintro o ho w' _
   first | (go_simp; done) | (go_simp; omega)
  simp only [Act.put,qa,qb,qc]
  refine tkW 2 (some 12) (.slice 91 (.tmp 10) none (some (.tmp 11)) none) (sliced a 0 p cap 1) ?hy trivial ?_
  case hy =>
   rintro o ho w' _
   unfold execOp
   simp only [ho,Option.map_some,Option.map_none,Sem.run_bind]
   erw [U1.out w']
   rfl
  simp only [Act.put,qa,qb,qc]
  refine tkW 4 (some 14) (.move (.tmp 0)) (Value.slice a L cap) ?hy trivial ?_
  case hy =>
   rintro o ho w' _
   first | (go_simp; done) | (go_simp; omega)
  simp only [Act.put,qa,qb,qc]
  refine tkW 5 (some 15) (.move (.tmp 1)) (Value.int .i64 (p : Int)) ?hy trivial ?_
  case hy =>
   rintro o ho w' _
   first | (go_simp; done) | (go_simp; omega)
  simp only [Act.put,qa,qb,qc]
  refine tkW 6 (some 16) (.slice 91 (.tmp 14) (some (.tmp 15)) none none) (sliced a p L cap 1) ?hy trivial ?_
  case hy =>
   rintro o ho w' _
   unfold execOp
   simp only [ho,Option.map_some,Option.map_none,Sem.run_bind]
   erw [U2.out w']
   rfl
  simp only [Act.put,qa,qb,qc]
  refine rdW 3 (some 13) (.call { callee:=.value (.func 190),args:=#[.tmp 12],argTypes:=#[91] }) ?_
  rintro o K hd ho hg hK
  refine zf9 (enters_of Tryz.func190 (by kernel_rfl) rfl) ho (vs:=#[sliced a 0 p cap 1]) (by kernel_rfl) (HC.out _ _ _ h0 (R1H.out.below h0) HT.out.1 HT.out.2) ?_
  rintro e w2 ⟨⟨v2,rfl,hr2,hn2⟩,hb2⟩
  have B2 : Hid (Below w.heap.size w w2):=h0.trans (hb2.mono (zn6 _))
  have RR2:=hideN hr2
  have N2 : Hid (∀ j,v2.ownBlock = some j -> w.heap.size <= j /\ j < w2.heap.size):=hn2
  clear hr2 hn2 hb2
  refine ⟨_,rfl,?_⟩
  rw [hd]
  refine hK _ _ (fun _ => trivial) ?_
  clear ho hd hg hK
  simp only [Act.put,qa,qb,qc]
  refine rdW 7 (some 17) (.call { callee:=.value (.func 190),args:=#[.tmp 16],argTypes:=#[91] }) ?_
  rintro o K hd ho hg hK
  refine zf9 (enters_of Tryz.func190 (by kernel_rfl) rfl) ho (vs:=#[sliced a p L cap 1]) (by kernel_rfl) (HC.out _ _ _ B2.out (R2H.out.below B2.out) HD.out.1 HD.out.2) ?_
  rintro e w3 ⟨⟨v3,rfl,hr3,hn3⟩,hb3⟩
  have B3 : Hid (Below w.heap.size w w3):=B2.out.trans (hb3.mono B2.out.size)
  have RR3:=hideN hr3
  have RR4:=hideN (RR2.out.below hb3)
  have N3 : Hid (∀ j,v3.ownBlock = some j -> w.heap.size <= j /\ j < w3.heap.size):=fun j hj => ⟨zn2 B2.out.size (hn3 j hj).1,(hn3 j hj).2⟩
  have N4 : Hid (∀ j,v2.ownBlock = some j -> w.heap.size <= j /\ j < w3.heap.size):=fun j hj => ⟨(N2.out j hj).1,zn1 (N2.out j hj).2 hb3.size⟩
  clear hr3 hn3 hb3
  refine ⟨_,rfl,?_⟩
  rw [hd]
  refine hK _ _ (fun _ => trivial) ?_
  clear ho hd hg hK
  simp only [Act.put,qa,qb,qc]
  refine rdW 8 (some 4) (.assign (.tmp 13)) ?_
  rintro o K hd ho hg hK
  refine stepY (v:=v2) ?hy ?_
  case hy => go_simp
  rw [hd]
  refine hK _ _ (fun _ => trivial) ?_
  clear ho hd hg hK
  simp only [Act.put,qa,qb,qc]
  refine rdW 9 (some 5) (.assign (.tmp 17)) ?_
  rintro o K hd ho hg hK
  refine stepY (v:=v3) ?hy ?_
  case hy => go_simp
  rw [hd]
  refine hK _ _ (fun e => absurd rfl e) ?_
  clear ho hd hg hK
  simp only [Act.put,qa,qb,qc]
  refine doneW (by kernel_rfl) ?_ _
  go_wp2_with fail
  go_ret2
  exact ⟨⟨_,_,rfl,RR4.out,RR3.out,fun j hj => hj.elim (N4.out j) (N3.out j)⟩,B3.out⟩
 ·have hpm : p = L:=by have:=HM.out; omega
  have hmi : ¬ (m : Int) <= (L : Int):=by omega
  subst hpm
  clear HM
  go_enter Tryz.func176,Tryz.ntmps176
  go_wp2_with fail
  refine beginW (S:=fun _ => True) (t:=9) (by kernel_rfl) ?_
  refine tkW 0 (some 10) (.move (.tmp 0)) (Value.slice a p cap) ?hy trivial ?_
  case hy =>
   rintro o ho w' _
   first | (go_simp; done) | (go_simp; omega)
  simp only [Act.put,qa,qb,qc]
  refine tkW 1 (some 11) (.move (.tmp 1)) (Value.int .i64 (p : Int)) ?hy trivial ?_
  case hy =>
   rintro o ho w' _
   first | (go_simp; done) | (go_simp; omega)
  simp only [Act.put,qa,qb,qc]
  refine tkW 2 (some 12) (.slice 91 (.tmp 10) none (some (.tmp 11)) none) (sliced a 0 p cap 1) ?hy trivial ?_
  case hy =>
   rintro o ho w' _
   unfold execOp
   simp only [ho,Option.map_some,Option.map_none,Sem.run_bind]
   erw [U1.out w']
   rfl
  simp only [Act.put,qa,qb,qc]
  refine tkW 4 (some 14) (.move (.tmp 0)) (Value.slice a p cap) ?hy trivial ?_
  case hy =>
   rintro o ho w' _
   first | (go_simp; done) | (go_simp; omega)
  simp only [Act.put,qa,qb,qc]
  refine tkW 5 (some 15) (.move (.tmp 1)) (Value.int .i64 (p : Int)) ?hy trivial ?_
  case hy =>
   rintro o ho w' _
   first | (go_simp; done) | (go_simp; omega)
  simp only [Act.put,qa,qb,qc]
  refine tkW 6 (some 16) (.slice 91 (.tmp 14) (some (.tmp 15)) none none) (sliced a p p cap 1) ?hy trivial ?_
  case hy =>
   rintro o ho w' _
   unfold execOp
   simp only [ho,Option.map_some,Option.map_none,Sem.run_bind]
   erw [U2.out w']
   rfl
  simp only [Act.put,qa,qb,qc]
  refine rdW 3 (some 13) (.call { callee:=.value (.func 190),args:=#[.tmp 12],argTypes:=#[91] }) ?_
  rintro o K hd ho hg hK
  refine zf9 (enters_of Tryz.func190 (by kernel_rfl) rfl) ho (vs:=#[sliced a 0 p cap 1]) (by kernel_rfl) (HC.out _ _ _ h0 (R1H.out.below h0) HT.out.1 HT.out.2) ?_
  rintro e w2 ⟨⟨v2,rfl,hr2,hn2⟩,hb2⟩
  have B2 : Hid (Below w.heap.size w w2):=h0.trans (hb2.mono (zn6 _))
  have RR2:=hideN hr2
  have N2 : Hid (∀ j,v2.ownBlock = some j -> w.heap.size <= j /\ j < w2.heap.size):=hn2
  clear hr2 hn2 hb2
  refine ⟨_,rfl,?_⟩
  rw [hd]
  refine hK _ _ (fun _ => trivial) ?_
  clear ho hd hg hK
  simp only [Act.put,qa,qb,qc]
  refine rdW 7 (some 17) (.call { callee:=.value (.func 190),args:=#[.tmp 16],argTypes:=#[91] }) ?_
  rintro o K hd ho hg hK
  refine zf9 (enters_of Tryz.func190 (by kernel_rfl) rfl) ho (vs:=#[sliced a p p cap 1]) (by kernel_rfl) (HC.out _ _ _ B2.out (R2H.out.below B2.out) HD.out.1 HD.out.2) ?_
  rintro e w3 ⟨⟨v3,rfl,hr3,hn3⟩,hb3⟩
  have B3 : Hid (Below w.heap.size w w3):=B2.out.trans (hb3.mono B2.out.size)
  have RR3:=hideN hr3
  have RR4:=hideN (RR2.out.below hb3)
  have N3 : Hid (∀ j,v3.ownBlock = some j -> w.heap.size <= j /\ j < w3.heap.size):=fun j hj => ⟨zn2 B2.out.size (hn3 j hj).1,(hn3 j hj).2⟩
  have N4 : Hid (∀ j,v2.ownBlock = some j -> w.heap.size <= j /\ j < w3.heap.size):=fun j hj => ⟨(N2.out j hj).1,zn1 (N2.out j hj).2 hb3.size⟩
  clear hr3 hn3 hb3
  refine ⟨_,rfl,?_⟩
  rw [hd]
  refine hK _ _ (fun _ => trivial) ?_
  clear ho hd hg hK
  simp only [Act.put,qa,qb,qc]
  refine rdW 8 (some 4) (.assign (.tmp 13)) ?_
  rintro o K hd ho hg hK
  refine stepY (v:=v2) ?hy ?_
  case hy => go_simp
  rw [hd]
  refine hK _ _ (fun _ => trivial) ?_
  clear ho hd hg hK
  simp only [Act.put,qa,qb,qc]
  refine rdW 9 (some 5) (.assign (.tmp 17)) ?_
  rintro o K hd ho hg hK
  refine stepY (v:=v3) ?hy ?_
  case hy => go_simp
  rw [hd]
  refine hK _ _ (fun e => absurd rfl e) ?_
  clear ho hd hg hK
  simp only [Act.put,qa,qb,qc]
  refine doneW (by kernel_rfl) ?_ _
  go_wp2_with fail
  go_ret2
  exact ⟨⟨_,_,rfl,RR4.out,RR3.out,fun j hj => hj.elim (N4.out j) (N3.out j)⟩,B3.out⟩
theorem sizeIV (w : World) : (sizeOf (Tryz.prog.elem 56)).run Tryz.prog w = .ok 1 w:=by
 have h : (Tryz.prog.info? (Tryz.prog.elem 56)).map (·.size) = some 1:=by kernel_rfl
 obtain ⟨i,hi,hs⟩:=Option.map_eq_some_iff.1 h
 simp [sizeOf,typeInfo,hi,hs]
theorem zdx9 : Tryz.prog.underlying 56 = some (.slice (Tryz.prog.elem 56)):=by
 have : Tryz.prog.elem 56 = 3:=by kernel_rfl
 rw [this]
 exact Tryz.underlying56
theorem fromIV (b : Option Addr) (L cap p : Nat) (h1 : p <= L) (h2 : L <= cap) (w : World) : (Instr.sliceAt 56 (.slice b L cap) (some (.int .i64 (p : Int))) none none).run Tryz.prog w = .ok (sliced b p L cap 1) w:=by
 rw [run_sliceAt_slice _ _ _ _ _ _ zdx9,run_slice_l _ _ _ _ _ zdx9 _ _ (by omega) (by omega),sizeIV]
 simp [Result.andThen]
theorem uptoIV (b : Option Addr) (L cap p : Nat) (h1 : p <= L) (h2 : L <= cap) (w : World) : (Instr.sliceAt 56 (.slice b L cap) none (some (.int .i64 (p : Int))) none).run Tryz.prog w = .ok (sliced b 0 p cap 1) w:=by
 rw [run_sliceAt_slice _ _ _ _ _ _ zdx9,run_slice_h _ _ _ _ _ zdx9 _ _ (by omega) (by omega),sizeIV]
 simp [Result.andThen]
theorem zjm9 (v : Value) (xs : List Value) (m : Nat) (w : World) (ha : RdV w v xs) (h1 : ∀ x ∈ xs,x.oneCell' = true) (h3 : xs.length * 8 <= 140737488355328) (hm : m <= 9007199254740992) :
  Calls Tryz.prog 177 #[v,.int .i64 (m : Int)] w fun e w' => (∃ v1 v2,e = .returned (.tuple #[v1,v2]) /\ RdV w' v1 (xs.take m) /\ RdV w' v2 (xs.drop m) /\ ∀ j,(v1.ownBlock = some j ∨ v2.ownBlock = some j) -> w.heap.size <= j /\ j < w'.heap.size) /\ Below w.heap.size w w':=by
 obtain ⟨p,hp⟩ : ∃ p,p = min m xs.length:=⟨_,rfl⟩
 have ht : xs.take m = xs.take p:=by rw [hp]; by_cases h : m <= xs.length; (· rw [Nat.min_eq_left h]); (· rw [Nat.min_eq_right (by omega),zn5 (by omega),zn5 (zn6 _)])
 have hd : xs.drop m = xs.drop p:=by rw [hp]; by_cases h : m <= xs.length; (· rw [Nat.min_eq_left h]); (· rw [Nat.min_eq_right (by omega),List.drop_of_length_le (by omega),List.drop_of_length_le (zn6 _)])
 rw [ht,hd]
 have hpl : p <= xs.length:=by omega
 obtain ⟨a,cap,rfl,l1,l2,hn0⟩:=ha.len
 have R1H:=hideN (zao9 ha 0 p (zn7 _) hpl)
 have R2H:=hideN (zao9 ha p xs.length hpl (zn6 _))
 rw [List.drop_zero,Nat.sub_zero] at R1H
 rw [show (xs.drop p).take (xs.length - p) = xs.drop p by rw [zn5]; rw [List.length_drop]; omega] at R2H
 have HC : Hid (∀ W v cs,Below w.heap.size w W -> RdV W v cs -> cs.length <= xs.length -> (∀ x ∈ cs,x.oneCell' = true) -> Calls Tryz.prog 191 #[v] W fun e w' => (∃ v',e = .returned v' /\ RdV w' v' cs /\ ∀ j,v'.ownBlock = some j -> W.heap.size <= j /\ j < w'.heap.size) /\ Below W.heap.size W w'):=fun W v cs _ hr hl h1 => zjk9 v cs W hr h1 (zn2 (Nat.mul_le_mul_right _ hl) h3)
 have HT : Hid ((xs.take p).length <= xs.length /\ ∀ x ∈ xs.take p,x.oneCell' = true):=⟨by rw [List.length_take]; omega,fun x hx => h1 x (List.mem_of_mem_take hx)⟩
 have HD : Hid ((xs.drop p).length <= xs.length /\ ∀ x ∈ xs.drop p,x.oneCell' = true):=⟨by rw [List.length_drop]; omega,fun x hx => h1 x (List.mem_of_mem_drop hx)⟩
 have hL : xs.length <= 9007199254740992:=by omega
 have U1:=hideN (uptoIV a xs.length cap p hpl l1)
 have U2:=hideN (fromIV a xs.length cap p hpl l1)
 obtain ⟨L,hLL⟩:=exH xs.length
 have HM : Hid (p = min m L):=by rw [<- hLL.out]; exact hp
 rw [hLL.out] at l1 R2H hpl hL U1 U2 ⊢
 have h0 : Below w.heap.size w w.drew:=(Below.refl _ _).drew
 clear ha h1 hp ht hd hn0 h3
 by_cases hmin : m <= L
 ·have hpm : p = m:=by have:=HM.out; omega
  have hmi : (m : Int) <= (L : Int):=by omega
  subst hpm
  clear HM
  go_enter Tryz.func177,Tryz.ntmps177
  go_wp2_with fail
  refine beginW (S:=fun _ => True) (t:=9) (by kernel_rfl) ?_
  refine tkW 0 (some 10) (.move (.tmp 0)) (Value.slice a L cap) ?hy trivial ?_
  case hy =>
   rintro o ho w' _
   first | (go_simp; done) | (go_simp; omega)
  simp only [Act.put,qa,qb,qc]
  refine tkW 1 (some 11) (.move (.tmp 1)) (Value.int .i64 (p : Int)) ?hy trivial ?_
  case hy =>
   rintro o ho w' _
   first | (go_simp; done) | (go_simp; omega)
  simp only [Act.put,qa,qb,qc]
  refine tkW 2 (some 12) (.slice 56 (.tmp 10) none (some (.tmp 11)) none) (sliced a 0 p cap 1) ?hy trivial ?_
  case hy =>
   rintro o ho w' _
   unfold execOp
   simp only [ho,Option.map_some,Option.map_none,Sem.run_bind]
   erw [U1.out w']
   rfl
  simp only [Act.put,qa,qb,qc]
  refine tkW 4 (some 14) (.move (.tmp 0)) (Value.slice a L cap) ?hy trivial ?_
  case hy =>
   rintro o ho w' _
   first | (go_simp; done) | (go_simp; omega)
  simp only [Act.put,qa,qb,qc]
  refine tkW 5 (some 15) (.move (.tmp 1)) (Value.int .i64 (p : Int)) ?hy trivial ?_
  case hy =>
   rintro o ho w' _
   first | (go_simp; done) | (go_simp; omega)
  simp only [Act.put,qa,qb,qc]
  refine tkW 6 (some 16) (.slice 56 (.tmp 14) (some (.tmp 15)) none none) (sliced a p L cap 1) ?hy trivial ?_
  case hy =>
   rintro o ho w' _
   unfold execOp
   simp only [ho,Option.map_some,Option.map_none,Sem.run_bind]
   erw [U2.out w']
   rfl
  simp only [Act.put,qa,qb,qc]
  refine rdW 3 (some 13) (.call { callee:=.value (.func 191),args:=#[.tmp 12],argTypes:=#[56] }) ?_
  rintro o K hd ho hg hK
  refine zf9 (enters_of Tryz.func191 (by kernel_rfl) rfl) ho (vs:=#[sliced a 0 p cap 1]) (by kernel_rfl) (HC.out _ _ _ h0 (R1H.out.below h0) HT.out.1 HT.out.2) ?_
  rintro e w2 ⟨⟨v2,rfl,hr2,hn2⟩,hb2⟩
  have B2 : Hid (Below w.heap.size w w2):=h0.trans (hb2.mono (zn6 _))
  have RR2:=hideN hr2
  have N2 : Hid (∀ j,v2.ownBlock = some j -> w.heap.size <= j /\ j < w2.heap.size):=hn2
  clear hr2 hn2 hb2
  refine ⟨_,rfl,?_⟩
  rw [hd]
  refine hK _ _ (fun _ => trivial) ?_
  clear ho hd hg hK
  simp only [Act.put,qa,qb,qc]
  refine rdW 7 (some 17) (.call { callee:=.value (.func 191),args:=#[.tmp 16],argTypes:=#[56] }) ?_
  rintro o K hd ho hg hK
  refine zf9 (enters_of Tryz.func191 (by kernel_rfl) rfl) ho (vs:=#[sliced a p L cap 1]) (by kernel_rfl) (HC.out _ _ _ B2.out (R2H.out.below B2.out) HD.out.1 HD.out.2) ?_
  rintro e w3 ⟨⟨v3,rfl,hr3,hn3⟩,hb3⟩
  have B3 : Hid (Below w.heap.size w w3):=B2.out.trans (hb3.mono B2.out.size)
  have RR3:=hideN hr3
  have RR4:=hideN (RR2.out.below hb3)
  have N3 : Hid (∀ j,v3.ownBlock = some j -> w.heap.size <= j /\ j < w3.heap.size):=fun j hj => ⟨zn2 B2.out.size (hn3 j hj).1,(hn3 j hj).2⟩
  have N4 : Hid (∀ j,v2.ownBlock = some j -> w.heap.size <= j /\ j < w3.heap.size):=fun j hj => ⟨(N2.out j hj).1,zn1 (N2.out j hj).2 hb3.size⟩
  clear hr3 hn3 hb3
  refine ⟨_,rfl,?_⟩
  rw [hd]
  refine hK _ _ (fun _ => trivial) ?_
  clear ho hd hg hK
  simp only [Act.put,qa,qb,qc]
  refine rdW 8 (some 4) (.assign (.tmp 13)) ?_
  rintro o K hd ho hg hK
  refine stepY (v:=v2) ?hy ?_
  case hy => go_simp
  rw [hd]
  refine hK _ _ (fun _ => trivial) ?_
  clear ho hd hg hK
  simp only [Act.put,qa,qb,qc]
  refine rdW 9 (some 5) (.assign (.tmp 17)) ?_
  rintro o K hd ho hg hK
  refine stepY (v:=v3) ?hy ?_
  case hy => go_simp
  rw [hd]
  refine hK _ _ (fun e => absurd rfl e) ?_
  clear ho hd hg hK
  simp only [Act.put,qa,qb,qc]
  refine doneW (by kernel_rfl) ?_ _
  go_wp2_with fail
  go_ret2
  exact ⟨⟨_,_,rfl,RR4.out,RR3.out,fun j hj => hj.elim (N4.out j) (N3.out j)⟩,B3.out⟩
 ·have hpm : p = L:=by have:=HM.out; omega
  have hmi : ¬ (m : Int) <= (L : Int):=by omega
  subst hpm
  clear HM
  go_enter Tryz.func177,Tryz.ntmps177
  go_wp2_with fail
  refine beginW (S:=fun _ => True) (t:=9) (by kernel_rfl) ?_
  refine tkW 0 (some 10) (.move (.tmp 0)) (Value.slice a p cap) ?hy trivial ?_
  case hy =>
   rintro o ho w' _
   first | (go_simp; done) | (go_simp; omega)
  simp only [Act.put,qa,qb,qc]
  refine tkW 1 (some 11) (.move (.tmp 1)) (Value.int .i64 (p : Int)) ?hy trivial ?_
  case hy =>
   rintro o ho w' _
   first | (go_simp; done) | (go_simp; omega)
  simp only [Act.put,qa,qb,qc]
  refine tkW 2 (some 12) (.slice 56 (.tmp 10) none (some (.tmp 11)) none) (sliced a 0 p cap 1) ?hy trivial ?_
  case hy =>
   rintro o ho w' _
   unfold execOp
   simp only [ho,Option.map_some,Option.map_none,Sem.run_bind]
   erw [U1.out w']
   rfl
  simp only [Act.put,qa,qb,qc]
  refine tkW 4 (some 14) (.move (.tmp 0)) (Value.slice a p cap) ?hy trivial ?_
  case hy =>
   rintro o ho w' _
   first | (go_simp; done) | (go_simp; omega)
  simp only [Act.put,qa,qb,qc]
  refine tkW 5 (some 15) (.move (.tmp 1)) (Value.int .i64 (p : Int)) ?hy trivial ?_
  case hy =>
   rintro o ho w' _
   first | (go_simp; done) | (go_simp; omega)
  simp only [Act.put,qa,qb,qc]
  refine tkW 6 (some 16) (.slice 56 (.tmp 14) (some (.tmp 15)) none none) (sliced a p p cap 1) ?hy trivial ?_
  case hy =>
   rintro o ho w' _
   unfold execOp
   simp only [ho,Option.map_some,Option.map_none,Sem.run_bind]
   erw [U2.out w']
   rfl
  simp only [Act.put,qa,qb,qc]
  refine rdW 3 (some 13) (.call { callee:=.value (.func 191),args:=#[.tmp 12],argTypes:=#[56] }) ?_
  rintro o K hd ho hg hK
  refine zf9 (enters_of Tryz.func191 (by kernel_rfl) rfl) ho (vs:=#[sliced a 0 p cap 1]) (by kernel_rfl) (HC.out _ _ _ h0 (R1H.out.below h0) HT.out.1 HT.out.2) ?_
  rintro e w2 ⟨⟨v2,rfl,hr2,hn2⟩,hb2⟩
  have B2 : Hid (Below w.heap.size w w2):=h0.trans (hb2.mono (zn6 _))
  have RR2:=hideN hr2
  have N2 : Hid (∀ j,v2.ownBlock = some j -> w.heap.size <= j /\ j < w2.heap.size):=hn2
  clear hr2 hn2 hb2
  refine ⟨_,rfl,?_⟩
  rw [hd]
  refine hK _ _ (fun _ => trivial) ?_
  clear ho hd hg hK
  simp only [Act.put,qa,qb,qc]
  refine rdW 7 (some 17) (.call { callee:=.value (.func 191),args:=#[.tmp 16],argTypes:=#[56] }) ?_
  rintro o K hd ho hg hK
  refine zf9 (enters_of Tryz.func191 (by kernel_rfl) rfl) ho (vs:=#[sliced a p p cap 1]) (by kernel_rfl) (HC.out _ _ _ B2.out (R2H.out.below B2.out) HD.out.1 HD.out.2) ?_
  rintro e w3 ⟨⟨v3,rfl,hr3,hn3⟩,hb3⟩
  have B3 : Hid (Below w.heap.size w w3):=B2.out.trans (hb3.mono B2.out.size)
  have RR3:=hideN hr3
  have RR4:=hideN (RR2.out.below hb3)
  have N3 : Hid (∀ j,v3.ownBlock = some j -> w.heap.size <= j /\ j < w3.heap.size):=fun j hj => ⟨zn2 B2.out.size (hn3 j hj).1,(hn3 j hj).2⟩
  have N4 : Hid (∀ j,v2.ownBlock = some j -> w.heap.size <= j /\ j < w3.heap.size):=fun j hj => ⟨(N2.out j hj).1,zn1 (N2.out j hj).2 hb3.size⟩
  clear hr3 hn3 hb3
  refine ⟨_,rfl,?_⟩
  rw [hd]
  refine hK _ _ (fun _ => trivial) ?_
  clear ho hd hg hK
  simp only [Act.put,qa,qb,qc]
  refine rdW 8 (some 4) (.assign (.tmp 13)) ?_
  rintro o K hd ho hg hK
  refine stepY (v:=v2) ?hy ?_
  case hy => go_simp
  rw [hd]
  refine hK _ _ (fun _ => trivial) ?_
  clear ho hd hg hK
  simp only [Act.put,qa,qb,qc]
  refine rdW 9 (some 5) (.assign (.tmp 17)) ?_
  rintro o K hd ho hg hK
  refine stepY (v:=v3) ?hy ?_
  case hy => go_simp
  rw [hd]
  refine hK _ _ (fun e => absurd rfl e) ?_
  clear ho hd hg hK
  simp only [Act.put,qa,qb,qc]
  refine doneW (by kernel_rfl) ?_ _
  go_wp2_with fail
  go_ret2
  exact ⟨⟨_,_,rfl,RR4.out,RR3.out,fun j hj => hj.elim (N4.out j) (N3.out j)⟩,B3.out⟩
section
variable {P : Program} {md : Region.Mode} {ops : Array Oper} {Q : Exit -> Act -> World -> Prop} {S : World -> Prop} {t fuel : Nat} {listed : Array Bool} {a : Act} {w : World}
theorem zcw9 (i j : Nat) (d : Option Tmp) (x : Op) (d' : Option Tmp) (x' : Op) (hi : opIs ops i d x) (hj : opIs ops j d' x') (hr : Region.ready md ops listed = [i,j]) (h : StepW P md ops Q S t fuel listed a w i d x) (h' : StepW P md ops Q S t fuel listed a w j d' x') : walkT P md ops Q S t (fuel + 1) listed a w:=by
 refine ⟨fun h0 => (by rw [hr] at h0; cases h0),fun q hq => ?_⟩
 rw [hr] at hq
 have : q = i ∨ q = j:=by simpa using hq
 rcases this with rfl | rfl
 ·exact zby9 hi h
 ·exact zby9 hj h'
theorem zoq9 (i j k : Nat) (d : Option Tmp) (x : Op) (d' : Option Tmp) (x' : Op) (d'' : Option Tmp) (x'' : Op) (hi : opIs ops i d x) (hj : opIs ops j d' x') (hk : opIs ops k d'' x'') (hr : Region.ready md ops listed = [i,j,k]) (h : StepW P md ops Q S t fuel listed a w i d x) (h' : StepW P md ops Q S t fuel listed a w j d' x') (h'' : StepW P md ops Q S t fuel listed a w k d'' x'') : walkT P md ops Q S t (fuel + 1) listed a w:=by
 refine ⟨fun h0 => (by rw [hr] at h0; cases h0),fun q hq => ?_⟩
 rw [hr] at hq
 have : q = i ∨ q = j ∨ q = k:=by simpa using hq
 rcases this with rfl | rfl | rfl
 ·exact zby9 hi h
 ·exact zby9 hj h'
 ·exact zby9 hk h''
end
theorem zih9 {w w' : World} {g : Nat} {x y : Value} (h : w.cell? ⟨g,0,none⟩ = some x /\ w.cell? ⟨g,1,none⟩ = some y) (hb : Below w.heap.size w w') : w'.cell? ⟨g,0,none⟩ = some x /\ w'.cell? ⟨g,1,none⟩ = some y:=
 ⟨by rw [hb.cell (p:=⟨g,0,none⟩) (World.block_lt_of_cell? w ⟨g,0,none⟩ h.1)]; exact h.1,by rw [hb.cell (p:=⟨g,1,none⟩) (World.block_lt_of_cell? w ⟨g,1,none⟩ h.2)]; exact h.2⟩
theorem zac9 (w : World) (x y : Value) (e : TypeId) : (w.alloc (.cells #[x,y] e)).cell? ⟨w.heap.size,0,none⟩ = some x /\ (w.alloc (.cells #[x,y] e)).cell? ⟨w.heap.size,1,none⟩ = some y:=by
 constructor
 ·rw [cell_of_row _ w.heap.size 0 _ _ (0,0) (heap_alloc_new w _)]; rfl
 ·rw [cell_of_row _ w.heap.size 1 _ _ (0,0) (heap_alloc_new w _)]; rfl
section
variable {o : Oper} {a : Act} {w : World} {K : Act -> World -> Prop} {Q : Exit -> Act -> World -> Prop}
theorem zr9 (x y : Operand) (ho : o.op = Op.buildSlice 261 2 #[(0,x),(1,y)]) (p q : Value) (hx : a.eval x = p) (hy : a.eval y = q) (hp : p.cells = #[p]) (hq : q.cells = #[q])
  (h : K (a.put o.dst (.slice (some ⟨w.heap.size,0,none⟩) 2 2)) (w.alloc (.cells #[p,q] 91))) : Oper.wp Tryz.prog o a w K Q:=by
 have hrun : (Instr.buildSlice 261 2 #[(0,p),(1,q)]).run Tryz.prog w = .ok (.slice (some ⟨w.heap.size,0,none⟩) 2 2) (w.alloc (.cells #[p,q] 91)):=by
  obtain ⟨i,hi,hz,h1,hb⟩:=info_parts (P:=Tryz.prog) (e:=91) (z:=.slice none 0 0) (size:=1) (bytes:=24) (by kernel_rfl)
  refine run_buildSlice w _ 91 2 _ _ i _ Tryz.underlying261 hi hz (by rw [h1]; decide) (by rw [h1]; decide) ?_
  rw [h1]
  exact Go.Great.fill_flat [p,q] _ (fun u hu => by simp at hu; rcases hu with rfl | rfl <;> assumption) (by simp)
 unfold Oper.wp
 simp [execOp,ho,hx,hy,hrun,Result.andThen]
 exact h
theorem zai9 (x y : Operand) (ho : o.op = Op.buildSlice 263 2 #[(0,x),(1,y)]) (p q : Value) (hx : a.eval x = p) (hy : a.eval y = q) (hp : p.cells = #[p]) (hq : q.cells = #[q])
  (h : K (a.put o.dst (.slice (some ⟨w.heap.size,0,none⟩) 2 2)) (w.alloc (.cells #[p,q] 56))) : Oper.wp Tryz.prog o a w K Q:=by
 have hrun : (Instr.buildSlice 263 2 #[(0,p),(1,q)]).run Tryz.prog w = .ok (.slice (some ⟨w.heap.size,0,none⟩) 2 2) (w.alloc (.cells #[p,q] 56)):=by
  obtain ⟨i,hi,hz,h1,hb⟩:=info_parts (P:=Tryz.prog) (e:=56) (z:=.slice none 0 0) (size:=1) (bytes:=24) (by kernel_rfl)
  refine run_buildSlice w _ 56 2 _ _ i _ Tryz.underlying263 hi hz (by rw [h1]; decide) (by rw [h1]; decide) ?_
  rw [h1]
  exact Go.Great.fill_flat [p,q] _ (fun u hu => by simp at hu; rcases hu with rfl | rfl <;> assumption) (by simp)
 unfold Oper.wp
 simp [execOp,ho,hx,hy,hrun,Result.andThen]
 exact h
theorem zaf9 {x y : Operand} {b : Nat} {lf lf' : Bool} {b1 b2 b3 : Option Addr} {l1 l2 l3 c1 c2 c3 : Nat} {u1 u2 u3 : Value} (ho : o.op = .store 93 x y) (hx : a.eval x = .pointer (some ⟨b,0,none⟩)) (hy : a.eval y = nod lf (.slice b1 l1 c1) (.slice b2 l2 c2) (.slice b3 l3 c3)) (hN : Nb w 93 b lf' u1 u2 u3)
  (h : K (a.put o.dst undef) ((((w.setCell ⟨b,0,none⟩ (.bool lf)).setCell ⟨b,1,none⟩ (.slice b1 l1 c1)).setCell ⟨b,2,none⟩ (.slice b2 l2 c2)).setCell ⟨b,3,none⟩ (.slice b3 l3 c3))) : Oper.wp Tryz.prog o a w K Q:=by
 have hrun : (Instr.storeAt 93 (.pointer (some ⟨b,0,none⟩)) (nod lf (.slice b1 l1 c1) (.slice b2 l2 c2) (.slice b3 l3 c3))).run Tryz.prog w = .ok () ((((w.setCell ⟨b,0,none⟩ (.bool lf)).setCell ⟨b,1,none⟩ (.slice b1 l1 c1)).setCell ⟨b,2,none⟩ (.slice b2 l2 c2)).setCell ⟨b,3,none⟩ (.slice b3 l3 c3)):=by
  have p0:=hN.c0
  have p1:=hN.c1
  have p2:=hN.c2
  have p3:=hN.c3
  have f0:=hN.fz 0
  have f1:=hN.fz 1
  have f2:=hN.fz 2
  have f3:=hN.fz 3
  unfold nod
  go_simp
 unfold Oper.wp execOp
 simp only [ho,hx,hy,Sem.run_bind,Sem.run_pure,Result.andThen_ok,hrun]
 exact h
end
theorem zno9 {P : Program} {md : Region.Mode} {ops : Array Oper} {Q : Exit -> Act -> World -> Prop} {S : World -> Prop} {t fuel : Nat} {listed : Array Bool} {a : Act} {w : World} (h : ∀ G : Nat -> Array Bool -> Act -> World -> Prop,Hid (∀ f l a w,walkT P md ops Q S t f l a w ↔ G f l a w) -> G fuel listed a w) : walkT P md ops Q S t fuel listed a w:=h _ (fun _ _ _ _ => Iff.rfl)
def Js (b : Nat) (lf mf : Bool) (A1 A2 A3 B1 B2 B3 : Value) (X : World) : Prop:=Nb X 93 b lf A1 A2 A3 /\ Nb X 93 (b + 1) mf B1 B2 B3 /\ Nb X 93 (b + 2) false (.slice none 0 0) (.slice none 0 0) (.slice none 0 0)
theorem Js.below {b : Nat} {lf mf : Bool} {A1 A2 A3 B1 B2 B3 : Value} {X Y : World} (h : Js b lf mf A1 A2 A3 B1 B2 B3 X) (hb : Below X.heap.size X Y) : Js b lf mf A1 A2 A3 B1 B2 B3 Y:=⟨h.1.below hb,h.2.1.below hb,h.2.2.below hb⟩
def Je (X : World) (g : Nat) (A B : Value) : Prop:=X.cell? ⟨g,0,none⟩ = some A /\ X.cell? ⟨g,1,none⟩ = some B
theorem Je.below {X Y : World} {g : Nat} {A B : Value} (h : Je X g A B) (hb : Below X.heap.size X Y) : Je Y g A B:=zih9 h hb
def Jv (W X : World) (v : Value) (xs : List Value) : Prop:=RdV X v xs /\ ∀ q,v.ownBlock = some q -> W.heap.size <= q /\ q < X.heap.size
theorem Jv.below {W X Y : World} {v : Value} {xs : List Value} (h : Jv W X v xs) (hb : Below X.heap.size X Y) : Jv W Y v xs:=⟨h.1.below hb,fun q hq => ⟨(h.2 q hq).1,zn1 (h.2 q hq).2 hb.size⟩⟩
theorem Jv.fits {W X Y w : World} {v : Value} {xs : List Value} (h : Jv W X v xs) (h1 : w.heap.size <= W.heap.size) (h2 : X.heap.size <= Y.heap.size) : ∀ j,v.ownBlock = some j -> w.heap.size <= j /\ j < Y.heap.size:=fun j hj => ⟨zn2 h1 (h.2 j hj).1,zn1 (h.2 j hj).2 h2⟩
def jt (b : Nat) (lf mf : Bool) (A1 A2 A3 B1 B2 B3 x0 y0 x1 y1 x2 y2 : Value) : Act:={ tmps:=#[.agg #[.bool lf,A1,A2,A3],.agg #[.bool mf,B1,B2,B3],.pointer (some ⟨b,0,none⟩),.pointer (some ⟨b + 1,0,none⟩),.pointer (some ⟨b + 2,0,none⟩),.pointer (some ⟨b,0,none⟩),.bool lf,.pointer (some ⟨b,1,none⟩),A1,.pointer (some ⟨b + 1,1,none⟩),B1,x0,y0,.pointer (some ⟨b,2,none⟩),A2,.pointer (some ⟨b + 1,2,none⟩),B2,x1,y1,.pointer (some ⟨b,3,none⟩),A3,.pointer (some ⟨b + 1,3,none⟩),B3,x2,y2,undef],defers:=[] }
def joinN (n m : Nd) : Nd:={ lf:=n.lf,ks:=n.ks ++ m.ks,vs:=n.vs ++ m.vs,kd:=n.kd ++ m.kd }
theorem zmi9 (n m : Nd) (u1 u2 u3 v1 v2 v3 : Value) (w : World) (hn : Nn w n u1 u2 u3) (hm : Nn w m v1 v2 v3)
  (z1 : (n.ks.length + m.ks.length) * 16 <= 140737488355328) (z2 : (n.vs.length + m.vs.length) * 16 <= 140737488355328) (z3 : (n.kd.length + m.kd.length) * 8 <= 140737488355328) :
  Calls Tryz.prog 174 #[nod n.lf u1 u2 u3,nod m.lf v1 v2 v3] w fun e w' => (∃ x1 x2 x3,e = .returned (nod n.lf x1 x2 x3) /\ Nn w' (joinN n m) x1 x2 x3 /\ (∀ j,x1.ownBlock = some j -> w.heap.size <= j /\ j < w'.heap.size) /\ (∀ j,x2.ownBlock = some j -> w.heap.size <= j /\ j < w'.heap.size) /\ (∀ j,x3.ownBlock = some j -> w.heap.size <= j /\ j < w'.heap.size)) /\ Below w.heap.size w w':=by
 obtain ⟨a1,c1,a2,c2,a3,c3,rfl,rfl,rfl,_,_,_,_⟩:=hn.out
 obtain ⟨d1,f1,d2,f2,d3,f3,rfl,rfl,rfl,_,_,_,_⟩:=hm.out
 have HM:=hideN hm
 have HN:=hideN hn
 have HZ1:=hideN z1
 have HZ2:=hideN z2
 have HZ3:=hideN z3
 obtain ⟨L1,hL1⟩:=exH n.ks.length
 obtain ⟨L2,hL2⟩:=exH n.vs.length
 obtain ⟨L3,hL3⟩:=exH n.kd.length
 obtain ⟨M1,hM1⟩:=exH m.ks.length
 obtain ⟨M2,hM2⟩:=exH m.vs.length
 obtain ⟨M3,hM3⟩:=exH m.kd.length
 rw [hL1.out,hL2.out,hL3.out] at HN
 rw [hM1.out,hM2.out,hM3.out] at HM
 rw [hL1.out,hL2.out,hL3.out,hM1.out,hM2.out,hM3.out]
 obtain ⟨lf,hlf⟩:=exH n.lf
 obtain ⟨mf,hmf⟩:=exH m.lf
 rw [hlf.out,hmf.out]
 obtain ⟨W1,hW1⟩:=exN (w.alloc (.cells #[.bool lf,.slice a1 L1 c1,.slice a2 L2 c2,.slice a3 L3 c3] 93))
 obtain ⟨W2,hW2⟩:=exN (W1.alloc (.cells #[.bool mf,.slice d1 M1 f1,.slice d2 M2 f2,.slice d3 M3 f3] 93))
 obtain ⟨W3,hW3⟩:=exN (W2.alloc (.cells #[.bool false,.slice none 0 0,.slice none 0 0,.slice none 0 0] 93))
 have s1 : W1.heap.size = w.heap.size + 1:=by rw [<- hW1]; simp
 have s2 : W2.heap.size = w.heap.size + 2:=by rw [<- hW2]; simp [s1]
 have s3 : Hid (W3.heap.size = w.heap.size + 3):=by rw [<- hW3]; simp [s2,Hid]
 have b1 : Below w.heap.size w W1:=by rw [<- hW1]; exact za9 _ _
 have b2 : Below W1.heap.size W1 W2:=by rw [<- hW2]; exact za9 _ _
 have b3 : Below W2.heap.size W2 W3:=by rw [<- hW3]; exact za9 _ _
 have BW3 : Hid (Below w.heap.size w W3):=(b1.trans (b2.mono b1.size)).trans (b3.mono (b1.trans (b2.mono b1.size)).size)
 have X1 : Nb W1 93 w.heap.size lf (.slice a1 L1 c1) (.slice a2 L2 c2) (.slice a3 L3 c3):=by rw [<- hW1]; exact nb_new _ _ _ _ _ _
 have Y2 : Nb W2 93 (w.heap.size + 1) mf (.slice d1 M1 f1) (.slice d2 M2 f2) (.slice d3 M3 f3):=by rw [<- hW2,<- s1]; exact nb_new _ _ _ _ _ _
 have Z3 : Nb W3 93 (w.heap.size + 2) false (.slice none 0 0) (.slice none 0 0) (.slice none 0 0):=by rw [<- hW3,<- s2]; exact nb_new _ _ _ _ _ _
 have SS : Hid (Nb W3 93 w.heap.size lf (.slice a1 L1 c1) (.slice a2 L2 c2) (.slice a3 L3 c3) /\ Nb W3 93 (w.heap.size + 1) mf (.slice d1 M1 f1) (.slice d2 M2 f2) (.slice d3 M3 f3) /\ Nb W3 93 (w.heap.size + 2) false (.slice none 0 0) (.slice none 0 0) (.slice none 0 0)):=⟨(X1.below b2).below b3,Y2.below b3,Z3⟩
 have HC1 : Hid (∀ (g : Nat) (W : World),Below W3.heap.size W3 W -> (W.cell? ⟨g,0,none⟩ = some (.slice a1 L1 c1) /\ W.cell? ⟨g,1,none⟩ = some (.slice d1 M1 f1)) -> Calls Tryz.prog 188 #[.slice (some ⟨g,0,none⟩) 2 2] W fun e w' => (∃ v',e = .returned v' /\ OwnsV 9 w' v' (strs n.ks ++ strs m.ks) /\ ∀ j,v'.ownBlock = some j -> W.heap.size <= j) /\ Below W.heap.size W w'):=fun g W hb hc =>
  zdk9 g _ _ _ _ W ((HN.out.below BW3.out).below hb).k ((HM.out.below BW3.out).below hb).k (zam9 _) (zam9 _) (by rw [zi9,zi9]; exact HZ1.out) hc.1 hc.2
 have HC2 : Hid (∀ (g : Nat) (W : World),Below W3.heap.size W3 W -> (W.cell? ⟨g,0,none⟩ = some (.slice a2 L2 c2) /\ W.cell? ⟨g,1,none⟩ = some (.slice d2 M2 f2)) -> Calls Tryz.prog 188 #[.slice (some ⟨g,0,none⟩) 2 2] W fun e w' => (∃ v',e = .returned v' /\ OwnsV 9 w' v' (strs n.vs ++ strs m.vs) /\ ∀ j,v'.ownBlock = some j -> W.heap.size <= j) /\ Below W.heap.size W w'):=fun g W hb hc =>
  zdk9 g _ _ _ _ W ((HN.out.below BW3.out).below hb).v ((HM.out.below BW3.out).below hb).v (zam9 _) (zam9 _) (by rw [zi9,zi9]; exact HZ2.out) hc.1 hc.2
 have HC3 : Hid (∀ (g : Nat) (W : World),Below W3.heap.size W3 W -> (W.cell? ⟨g,0,none⟩ = some (.slice a3 L3 c3) /\ W.cell? ⟨g,1,none⟩ = some (.slice d3 M3 f3)) -> Calls Tryz.prog 189 #[.slice (some ⟨g,0,none⟩) 2 2] W fun e w' => (∃ v',e = .returned v' /\ OwnsV 3 w' v' (nums n.kd ++ nums m.kd) /\ ∀ j,v'.ownBlock = some j -> W.heap.size <= j) /\ Below W.heap.size W w'):=fun g W hb hc =>
  zii9 g _ _ _ _ W ((HN.out.below BW3.out).below hb).d ((HM.out.below BW3.out).below hb).d (zcq9 _) (zcq9 _) (by rw [zk9,zk9]; exact HZ3.out) hc.1 hc.2
 clear hn hm b1 b2 b3 X1 Y2 Z3 z1 z2 z3 HN HM HZ1 HZ2 HZ3
 unfold nod
 go_enter Tryz.func174,Tryz.ntmps174
 go_wp2_with fail
 refine beginW (S:=Js w.heap.size lf mf (.slice a1 L1 c1) (.slice a2 L2 c2) (.slice a3 L3 c3) (.slice d1 M1 f1) (.slice d2 M2 f2) (.slice d3 M3 f3)) (t:=21) (by kernel_rfl) ?_
 have B0 : Hid (Below W3.heap.size W3 W3.drew):=(Below.refl _ _).drew
 have S0 : Hid (Js w.heap.size lf mf (.slice a1 L1 c1) (.slice a2 L2 c2) (.slice a3 L3 c3) (.slice d1 M1 f1) (.slice d2 M2 f2) (.slice d3 M3 f3) W3.drew):=⟨SS.out.1.below B0.out,SS.out.2.1.below B0.out,SS.out.2.2.below B0.out⟩
 obtain ⟨X0,hX0⟩:=exN W3.drew
 rw [hX0] at B0 S0 ⊢
 refine zno9 fun G HG => ?_
 have T012_3 : Hid (∀ (f : Nat) (l : Array Bool) (X : World) (g0 : Nat) (g1 : Nat) (g2 : Nat) (v0 : Value) (v1 : Value) (v2 : Value),f = 2 -> l = #[true,true,true,true,true,true,true,true,true,true,true,true,true,true,true,true,true,true,true,true,false,false] -> Below W3.heap.size W3 X -> Js w.heap.size lf mf (.slice a1 L1 c1) (.slice a2 L2 c2) (.slice a3 L3 c3) (.slice d1 M1 f1) (.slice d2 M2 f2) (.slice d3 M3 f3) X -> Jv W3 X v0 (strs n.ks ++ strs m.ks) -> Jv W3 X v1 (strs n.vs ++ strs m.vs) -> Jv W3 X v2 (nums n.kd ++ nums m.kd) -> G f l (jt w.heap.size lf mf (.slice a1 L1 c1) (.slice a2 L2 c2) (.slice a3 L3 c3) (.slice d1 M1 f1) (.slice d2 M2 f2) (.slice d3 M3 f3) (.slice (some ⟨g0,0,none⟩) 2 2) v0 (.slice (some ⟨g1,0,none⟩) 2 2) v1 (.slice (some ⟨g2,0,none⟩) 2 2) v2) X):=by
  rintro f l X g0 g1 g2 v0 v1 v2 rfl rfl B S r0 r1 r2
  have B:=hideN B
  have S:=hideN S
  have r0:=hideN r0
  have r1:=hideN r1
  have r2:=hideN r2
  refine (HG.out _ _ _ _).1 ?_
  unfold jt
  obtain ⟨x0,y0,e0⟩:=r0.out.1.long
  obtain ⟨x1,y1,e1⟩:=r1.out.1.long
  obtain ⟨x2,y2,e2⟩:=r2.out.1.long
  obtain ⟨q0,hq0⟩:=exH ((strs n.ks ++ strs m.ks).length)
  obtain ⟨q1,hq1⟩:=exH ((strs n.vs ++ strs m.vs).length)
  obtain ⟨q2,hq2⟩:=exH ((nums n.kd ++ nums m.kd).length)
  rw [hq0.out] at e0
  rw [hq1.out] at e1
  rw [hq2.out] at e2
  subst e0 e1 e2
  refine rdW 20 (some 25) (.build 93 #[(0,.tmp 6),(1,.tmp 12),(2,.tmp 18),(3,.tmp 24)]) ?_
  rintro o K hd ho hg hK
  refine stepY (v:=nod lf (.slice x0 q0 y0) (.slice x1 q1 y1) (.slice x2 q2 y2)) ?hy ?_
  case hy => unfold nod; go_simp
  rw [hd]
  refine hK _ _ (fun _ => S.out) ?_
  clear ho hd hg hK
  simp only [Act.put,qa,qb,qc]
  refine rdW 21 none (.store 93 (.tmp 4) (.tmp 25)) ?_
  rintro o K hd ho hg hK
  refine zaf9 ho rfl rfl S.out.2.2 ?_
  rw [hd]
  refine hK _ _ (fun e => absurd rfl e) ?_
  refine doneW (by kernel_rfl) ?_ _
  clear ho hd hg hK
  simp only [Act.put]
  have YA:=S.out.2.2.all lf (.slice x0 q0 y0) (.slice x1 q1 y1) (.slice x2 q2 y2)
  have tA:=zp9 X (w.heap.size + 2) (.bool lf) (.slice x0 q0 y0) (.slice x1 q1 y1) (.slice x2 q2 y2)
  obtain ⟨XA,hXA⟩:=exH ((((X.setCell ⟨w.heap.size + 2,0,none⟩ (.bool lf)).setCell ⟨w.heap.size + 2,1,none⟩ (.slice x0 q0 y0)).setCell ⟨w.heap.size + 2,2,none⟩ (.slice x1 q1 y1)).setCell ⟨w.heap.size + 2,3,none⟩ (.slice x2 q2 y2))
  rw [hXA.out] at YA tA ⊢
  have LA:=hideN YA.load
  have NA : Hid (Nn XA (joinN n m) (.slice x0 q0 y0) (.slice x1 q1 y1) (.slice x2 q2 y2)):=by
   refine ⟨?_,?_,?_⟩
   ·have:=r0.out.1.tch tA (fun j hj e => by have:=(r0.out.2 j hj).1; have:=s3.out; omega)
    simpa [joinN,strs] using this
   ·have:=r1.out.1.tch tA (fun j hj e => by have:=(r1.out.2 j hj).1; have:=s3.out; omega)
    simpa [joinN,strs] using this
   ·have:=r2.out.1.tch tA (fun j hj e => by have:=(r2.out.2 j hj).1; have:=s3.out; omega)
    simpa [joinN,nums] using this
  have BA : Hid (Below w.heap.size w XA):=BW3.out.trans ((B.out.mono BW3.out.size).trans (tA.below (zn2 BW3.out.size B.out.size) (fun j e => by omega)))
  have UA : Hid (X.heap.size <= XA.heap.size):=tA.size
  clear YA tA hXA HG
  go_wp2_with fail
  refine bodyPost_ret (v:=nod lf (.slice x0 q0 y0) (.slice x1 q1 y1) (.slice x2 q2 y2)) (zbw9 (p:=4) (ty:=93) rfl _ _ _ (w.heap.size + 2) _ rfl LA.out) rfl ?_
  exact ⟨⟨_,_,_,rfl,NA.out,r0.out.fits BW3.out.size UA.out,r1.out.fits BW3.out.size UA.out,r2.out.fits BW3.out.size UA.out⟩,BA.out⟩
 have T012_2 : Hid (∀ (f : Nat) (l : Array Bool) (X : World) (g0 : Nat) (g1 : Nat) (g2 : Nat) (v0 : Value) (v1 : Value),f = 3 -> l = #[true,true,true,true,true,true,true,true,true,true,true,true,true,true,true,true,true,true,true,false,false,false] -> Below W3.heap.size W3 X -> Js w.heap.size lf mf (.slice a1 L1 c1) (.slice a2 L2 c2) (.slice a3 L3 c3) (.slice d1 M1 f1) (.slice d2 M2 f2) (.slice d3 M3 f3) X -> Je X g2 (.slice a3 L3 c3) (.slice d3 M3 f3) -> Jv W3 X v0 (strs n.ks ++ strs m.ks) -> Jv W3 X v1 (strs n.vs ++ strs m.vs) -> G f l (jt w.heap.size lf mf (.slice a1 L1 c1) (.slice a2 L2 c2) (.slice a3 L3 c3) (.slice d1 M1 f1) (.slice d2 M2 f2) (.slice d3 M3 f3) (.slice (some ⟨g0,0,none⟩) 2 2) v0 (.slice (some ⟨g1,0,none⟩) 2 2) v1 (.slice (some ⟨g2,0,none⟩) 2 2) undef) X):=by
  rintro f l X g0 g1 g2 v0 v1 rfl rfl B S e2 r0 r1
  have B:=hideN B
  have S:=hideN S
  have e2:=hideN e2
  have r0:=hideN r0
  have r1:=hideN r1
  refine (HG.out _ _ _ _).1 ?_
  unfold jt
  refine rdW 19 (some 24) (.call { callee:=.value (.func 189),args:=#[.tmp 23],argTypes:=#[263] }) ?_
  rintro o K hd ho - hK
  refine zf9 (enters_of Tryz.func189 (by kernel_rfl) rfl) ho (vs:=#[.slice (some ⟨g2,0,none⟩) 2 2]) (by kernel_rfl) (HC3.out _ _ B.out e2.out) ?_
  rintro e Y ⟨⟨v2,rfl,ro,ng⟩,bl⟩
  refine ⟨_,rfl,?_⟩
  rw [hd]
  refine hK _ _ (fun _ => S.out.below bl) ?_
  simp only [Act.put,qa,qb,qc]
  exact (HG.out _ _ _ _).2 (T012_3.out _ _ Y g0 g1 g2 v0 v1 v2 rfl (by kernel_rfl) (B.out.trans (bl.mono B.out.size)) (S.out.below bl) (r0.out.below bl) (r1.out.below bl) ⟨ro.rd,fun q hq => ⟨zn2 B.out.size (ng q hq),ro.lt q hq⟩⟩)
 have T012_1 : Hid (∀ (f : Nat) (l : Array Bool) (X : World) (g0 : Nat) (g1 : Nat) (g2 : Nat) (v0 : Value),f = 4 -> l = #[true,true,true,true,true,true,true,true,true,true,true,true,true,false,true,true,true,true,true,false,false,false] -> Below W3.heap.size W3 X -> Js w.heap.size lf mf (.slice a1 L1 c1) (.slice a2 L2 c2) (.slice a3 L3 c3) (.slice d1 M1 f1) (.slice d2 M2 f2) (.slice d3 M3 f3) X -> Je X g1 (.slice a2 L2 c2) (.slice d2 M2 f2) -> Je X g2 (.slice a3 L3 c3) (.slice d3 M3 f3) -> Jv W3 X v0 (strs n.ks ++ strs m.ks) -> G f l (jt w.heap.size lf mf (.slice a1 L1 c1) (.slice a2 L2 c2) (.slice a3 L3 c3) (.slice d1 M1 f1) (.slice d2 M2 f2) (.slice d3 M3 f3) (.slice (some ⟨g0,0,none⟩) 2 2) v0 (.slice (some ⟨g1,0,none⟩) 2 2) undef (.slice (some ⟨g2,0,none⟩) 2 2) undef) X):=by
  rintro f l X g0 g1 g2 v0 rfl rfl B S e1 e2 r0
  have B:=hideN B
  have S:=hideN S
  have e1:=hideN e1
  have e2:=hideN e2
  have r0:=hideN r0
  refine (HG.out _ _ _ _).1 ?_
  unfold jt
  refine rdW 13 (some 18) (.call { callee:=.value (.func 188),args:=#[.tmp 17],argTypes:=#[261] }) ?_
  rintro o K hd ho - hK
  refine zf9 (enters_of Tryz.func188 (by kernel_rfl) rfl) ho (vs:=#[.slice (some ⟨g1,0,none⟩) 2 2]) (by kernel_rfl) (HC2.out _ _ B.out e1.out) ?_
  rintro e Y ⟨⟨v1,rfl,ro,ng⟩,bl⟩
  refine ⟨_,rfl,?_⟩
  rw [hd]
  refine hK _ _ (fun _ => S.out.below bl) ?_
  simp only [Act.put,qa,qb,qc]
  exact (HG.out _ _ _ _).2 (T012_2.out _ _ Y g0 g1 g2 v0 v1 rfl (by kernel_rfl) (B.out.trans (bl.mono B.out.size)) (S.out.below bl) (e2.out.below bl) (r0.out.below bl) ⟨ro.rd,fun q hq => ⟨zn2 B.out.size (ng q hq),ro.lt q hq⟩⟩)
 have T01_2 : Hid (∀ (f : Nat) (l : Array Bool) (X : World) (g0 : Nat) (g1 : Nat) (v0 : Value) (v1 : Value),f = 4 -> l = #[true,true,true,true,true,true,true,true,true,true,true,true,true,true,true,true,true,true,false,false,false,false] -> Below W3.heap.size W3 X -> Js w.heap.size lf mf (.slice a1 L1 c1) (.slice a2 L2 c2) (.slice a3 L3 c3) (.slice d1 M1 f1) (.slice d2 M2 f2) (.slice d3 M3 f3) X -> Jv W3 X v0 (strs n.ks ++ strs m.ks) -> Jv W3 X v1 (strs n.vs ++ strs m.vs) -> G f l (jt w.heap.size lf mf (.slice a1 L1 c1) (.slice a2 L2 c2) (.slice a3 L3 c3) (.slice d1 M1 f1) (.slice d2 M2 f2) (.slice d3 M3 f3) (.slice (some ⟨g0,0,none⟩) 2 2) v0 (.slice (some ⟨g1,0,none⟩) 2 2) v1 undef undef) X):=by
  rintro f l X g0 g1 v0 v1 rfl rfl B S r0 r1
  have B:=hideN B
  have S:=hideN S
  have r0:=hideN r0
  have r1:=hideN r1
  refine (HG.out _ _ _ _).1 ?_
  unfold jt
  refine rdW 18 (some 23) (.buildSlice 263 2 #[(0,.tmp 20),(1,.tmp 22)]) ?_
  rintro o K hd ho - hK
  refine zai9 (.tmp 20) (.tmp 22) ho (.slice a3 L3 c3) (.slice d3 M3 f3) rfl rfl rfl rfl ?_
  rw [hd]
  obtain ⟨g2,hg⟩:=exN X.heap.size
  obtain ⟨Y,hX⟩:=exN (X.alloc (.cells #[.slice a3 L3 c3,.slice d3 M3 f3] 56))
  have bl : Below X.heap.size X Y:=by rw [<- hX]; exact za9 _ _
  rw [hX,hg]
  refine hK _ _ (fun _ => S.out.below bl) ?_
  simp only [Act.put,qa,qb,qc]
  exact (HG.out _ _ _ _).2 (T012_2.out _ _ Y g0 g1 g2 v0 v1 rfl (by kernel_rfl) (B.out.trans (bl.mono B.out.size)) (S.out.below bl) (by rw [<- hX,<- hg]; exact zac9 _ _ _ _) (r0.out.below bl) (r1.out.below bl))
 have T012_0 : Hid (∀ (f : Nat) (l : Array Bool) (X : World) (g0 : Nat) (g1 : Nat) (g2 : Nat),f = 5 -> l = #[true,true,true,true,true,true,true,false,true,true,true,true,true,false,true,true,true,true,true,false,false,false] -> Below W3.heap.size W3 X -> Js w.heap.size lf mf (.slice a1 L1 c1) (.slice a2 L2 c2) (.slice a3 L3 c3) (.slice d1 M1 f1) (.slice d2 M2 f2) (.slice d3 M3 f3) X -> Je X g0 (.slice a1 L1 c1) (.slice d1 M1 f1) -> Je X g1 (.slice a2 L2 c2) (.slice d2 M2 f2) -> Je X g2 (.slice a3 L3 c3) (.slice d3 M3 f3) -> G f l (jt w.heap.size lf mf (.slice a1 L1 c1) (.slice a2 L2 c2) (.slice a3 L3 c3) (.slice d1 M1 f1) (.slice d2 M2 f2) (.slice d3 M3 f3) (.slice (some ⟨g0,0,none⟩) 2 2) undef (.slice (some ⟨g1,0,none⟩) 2 2) undef (.slice (some ⟨g2,0,none⟩) 2 2) undef) X):=by
  rintro f l X g0 g1 g2 rfl rfl B S e0 e1 e2
  have B:=hideN B
  have S:=hideN S
  have e0:=hideN e0
  have e1:=hideN e1
  have e2:=hideN e2
  refine (HG.out _ _ _ _).1 ?_
  unfold jt
  refine rdW 7 (some 12) (.call { callee:=.value (.func 188),args:=#[.tmp 11],argTypes:=#[261] }) ?_
  rintro o K hd ho - hK
  refine zf9 (enters_of Tryz.func188 (by kernel_rfl) rfl) ho (vs:=#[.slice (some ⟨g0,0,none⟩) 2 2]) (by kernel_rfl) (HC1.out _ _ B.out e0.out) ?_
  rintro e Y ⟨⟨v0,rfl,ro,ng⟩,bl⟩
  refine ⟨_,rfl,?_⟩
  rw [hd]
  refine hK _ _ (fun _ => S.out.below bl) ?_
  simp only [Act.put,qa,qb,qc]
  exact (HG.out _ _ _ _).2 (T012_1.out _ _ Y g0 g1 g2 v0 rfl (by kernel_rfl) (B.out.trans (bl.mono B.out.size)) (S.out.below bl) (e1.out.below bl) (e2.out.below bl) ⟨ro.rd,fun q hq => ⟨zn2 B.out.size (ng q hq),ro.lt q hq⟩⟩)
 have T01_1 : Hid (∀ (f : Nat) (l : Array Bool) (X : World) (g0 : Nat) (g1 : Nat) (v0 : Value),f = 5 -> l = #[true,true,true,true,true,true,true,true,true,true,true,true,true,false,true,true,true,true,false,false,false,false] -> Below W3.heap.size W3 X -> Js w.heap.size lf mf (.slice a1 L1 c1) (.slice a2 L2 c2) (.slice a3 L3 c3) (.slice d1 M1 f1) (.slice d2 M2 f2) (.slice d3 M3 f3) X -> Je X g1 (.slice a2 L2 c2) (.slice d2 M2 f2) -> Jv W3 X v0 (strs n.ks ++ strs m.ks) -> G f l (jt w.heap.size lf mf (.slice a1 L1 c1) (.slice a2 L2 c2) (.slice a3 L3 c3) (.slice d1 M1 f1) (.slice d2 M2 f2) (.slice d3 M3 f3) (.slice (some ⟨g0,0,none⟩) 2 2) v0 (.slice (some ⟨g1,0,none⟩) 2 2) undef undef undef) X):=by
  rintro f l X g0 g1 v0 rfl rfl B S e1 r0
  have B:=hideN B
  have S:=hideN S
  have e1:=hideN e1
  have r0:=hideN r0
  refine (HG.out _ _ _ _).1 ?_
  unfold jt
  refine zcw9 13 18 (some 18) (.call { callee:=.value (.func 188),args:=#[.tmp 17],argTypes:=#[261] }) (some 23) (.buildSlice 263 2 #[(0,.tmp 20),(1,.tmp 22)]) rfl rfl (by kernel_rfl) ?_ ?_
  ·rintro o K hd ho - hK
   refine zf9 (enters_of Tryz.func188 (by kernel_rfl) rfl) ho (vs:=#[.slice (some ⟨g1,0,none⟩) 2 2]) (by kernel_rfl) (HC2.out _ _ B.out e1.out) ?_
   rintro e Y ⟨⟨v1,rfl,ro,ng⟩,bl⟩
   refine ⟨_,rfl,?_⟩
   rw [hd]
   refine hK _ _ (fun _ => S.out.below bl) ?_
   simp only [Act.put,qa,qb,qc]
   exact (HG.out _ _ _ _).2 (T01_2.out _ _ Y g0 g1 v0 v1 rfl (by kernel_rfl) (B.out.trans (bl.mono B.out.size)) (S.out.below bl) (r0.out.below bl) ⟨ro.rd,fun q hq => ⟨zn2 B.out.size (ng q hq),ro.lt q hq⟩⟩)
  ·rintro o K hd ho - hK
   refine zai9 (.tmp 20) (.tmp 22) ho (.slice a3 L3 c3) (.slice d3 M3 f3) rfl rfl rfl rfl ?_
   rw [hd]
   obtain ⟨g2,hg⟩:=exN X.heap.size
   obtain ⟨Y,hX⟩:=exN (X.alloc (.cells #[.slice a3 L3 c3,.slice d3 M3 f3] 56))
   have bl : Below X.heap.size X Y:=by rw [<- hX]; exact za9 _ _
   rw [hX,hg]
   refine hK _ _ (fun _ => S.out.below bl) ?_
   simp only [Act.put,qa,qb,qc]
   exact (HG.out _ _ _ _).2 (T012_1.out _ _ Y g0 g1 g2 v0 rfl (by kernel_rfl) (B.out.trans (bl.mono B.out.size)) (S.out.below bl) (e1.out.below bl) (by rw [<- hX,<- hg]; exact zac9 _ _ _ _) (r0.out.below bl))
 have T02_1 : Hid (∀ (f : Nat) (l : Array Bool) (X : World) (g0 : Nat) (g2 : Nat) (v0 : Value),f = 5 -> l = #[true,true,true,true,true,true,true,true,true,true,true,true,false,false,true,true,true,true,true,false,false,false] -> Below W3.heap.size W3 X -> Js w.heap.size lf mf (.slice a1 L1 c1) (.slice a2 L2 c2) (.slice a3 L3 c3) (.slice d1 M1 f1) (.slice d2 M2 f2) (.slice d3 M3 f3) X -> Je X g2 (.slice a3 L3 c3) (.slice d3 M3 f3) -> Jv W3 X v0 (strs n.ks ++ strs m.ks) -> G f l (jt w.heap.size lf mf (.slice a1 L1 c1) (.slice a2 L2 c2) (.slice a3 L3 c3) (.slice d1 M1 f1) (.slice d2 M2 f2) (.slice d3 M3 f3) (.slice (some ⟨g0,0,none⟩) 2 2) v0 undef undef (.slice (some ⟨g2,0,none⟩) 2 2) undef) X):=by
  rintro f l X g0 g2 v0 rfl rfl B S e2 r0
  have B:=hideN B
  have S:=hideN S
  have e2:=hideN e2
  have r0:=hideN r0
  refine (HG.out _ _ _ _).1 ?_
  unfold jt
  refine rdW 12 (some 17) (.buildSlice 261 2 #[(0,.tmp 14),(1,.tmp 16)]) ?_
  rintro o K hd ho - hK
  refine zr9 (.tmp 14) (.tmp 16) ho (.slice a2 L2 c2) (.slice d2 M2 f2) rfl rfl rfl rfl ?_
  rw [hd]
  obtain ⟨g1,hg⟩:=exN X.heap.size
  obtain ⟨Y,hX⟩:=exN (X.alloc (.cells #[.slice a2 L2 c2,.slice d2 M2 f2] 91))
  have bl : Below X.heap.size X Y:=by rw [<- hX]; exact za9 _ _
  rw [hX,hg]
  refine hK _ _ (fun _ => S.out.below bl) ?_
  simp only [Act.put,qa,qb,qc]
  exact (HG.out _ _ _ _).2 (T012_1.out _ _ Y g0 g1 g2 v0 rfl (by kernel_rfl) (B.out.trans (bl.mono B.out.size)) (S.out.below bl) (by rw [<- hX,<- hg]; exact zac9 _ _ _ _) (e2.out.below bl) (r0.out.below bl))
 have T01_0 : Hid (∀ (f : Nat) (l : Array Bool) (X : World) (g0 : Nat) (g1 : Nat),f = 6 -> l = #[true,true,true,true,true,true,true,false,true,true,true,true,true,false,true,true,true,true,false,false,false,false] -> Below W3.heap.size W3 X -> Js w.heap.size lf mf (.slice a1 L1 c1) (.slice a2 L2 c2) (.slice a3 L3 c3) (.slice d1 M1 f1) (.slice d2 M2 f2) (.slice d3 M3 f3) X -> Je X g0 (.slice a1 L1 c1) (.slice d1 M1 f1) -> Je X g1 (.slice a2 L2 c2) (.slice d2 M2 f2) -> G f l (jt w.heap.size lf mf (.slice a1 L1 c1) (.slice a2 L2 c2) (.slice a3 L3 c3) (.slice d1 M1 f1) (.slice d2 M2 f2) (.slice d3 M3 f3) (.slice (some ⟨g0,0,none⟩) 2 2) undef (.slice (some ⟨g1,0,none⟩) 2 2) undef undef undef) X):=by
  rintro f l X g0 g1 rfl rfl B S e0 e1
  have B:=hideN B
  have S:=hideN S
  have e0:=hideN e0
  have e1:=hideN e1
  refine (HG.out _ _ _ _).1 ?_
  unfold jt
  refine zcw9 7 18 (some 12) (.call { callee:=.value (.func 188),args:=#[.tmp 11],argTypes:=#[261] }) (some 23) (.buildSlice 263 2 #[(0,.tmp 20),(1,.tmp 22)]) rfl rfl (by kernel_rfl) ?_ ?_
  ·rintro o K hd ho - hK
   refine zf9 (enters_of Tryz.func188 (by kernel_rfl) rfl) ho (vs:=#[.slice (some ⟨g0,0,none⟩) 2 2]) (by kernel_rfl) (HC1.out _ _ B.out e0.out) ?_
   rintro e Y ⟨⟨v0,rfl,ro,ng⟩,bl⟩
   refine ⟨_,rfl,?_⟩
   rw [hd]
   refine hK _ _ (fun _ => S.out.below bl) ?_
   simp only [Act.put,qa,qb,qc]
   exact (HG.out _ _ _ _).2 (T01_1.out _ _ Y g0 g1 v0 rfl (by kernel_rfl) (B.out.trans (bl.mono B.out.size)) (S.out.below bl) (e1.out.below bl) ⟨ro.rd,fun q hq => ⟨zn2 B.out.size (ng q hq),ro.lt q hq⟩⟩)
  ·rintro o K hd ho - hK
   refine zai9 (.tmp 20) (.tmp 22) ho (.slice a3 L3 c3) (.slice d3 M3 f3) rfl rfl rfl rfl ?_
   rw [hd]
   obtain ⟨g2,hg⟩:=exN X.heap.size
   obtain ⟨Y,hX⟩:=exN (X.alloc (.cells #[.slice a3 L3 c3,.slice d3 M3 f3] 56))
   have bl : Below X.heap.size X Y:=by rw [<- hX]; exact za9 _ _
   rw [hX,hg]
   refine hK _ _ (fun _ => S.out.below bl) ?_
   simp only [Act.put,qa,qb,qc]
   exact (HG.out _ _ _ _).2 (T012_0.out _ _ Y g0 g1 g2 rfl (by kernel_rfl) (B.out.trans (bl.mono B.out.size)) (S.out.below bl) (e0.out.below bl) (e1.out.below bl) (by rw [<- hX,<- hg]; exact zac9 _ _ _ _))
 have T02_0 : Hid (∀ (f : Nat) (l : Array Bool) (X : World) (g0 : Nat) (g2 : Nat),f = 6 -> l = #[true,true,true,true,true,true,true,false,true,true,true,true,false,false,true,true,true,true,true,false,false,false] -> Below W3.heap.size W3 X -> Js w.heap.size lf mf (.slice a1 L1 c1) (.slice a2 L2 c2) (.slice a3 L3 c3) (.slice d1 M1 f1) (.slice d2 M2 f2) (.slice d3 M3 f3) X -> Je X g0 (.slice a1 L1 c1) (.slice d1 M1 f1) -> Je X g2 (.slice a3 L3 c3) (.slice d3 M3 f3) -> G f l (jt w.heap.size lf mf (.slice a1 L1 c1) (.slice a2 L2 c2) (.slice a3 L3 c3) (.slice d1 M1 f1) (.slice d2 M2 f2) (.slice d3 M3 f3) (.slice (some ⟨g0,0,none⟩) 2 2) undef undef undef (.slice (some ⟨g2,0,none⟩) 2 2) undef) X):=by
  rintro f l X g0 g2 rfl rfl B S e0 e2
  have B:=hideN B
  have S:=hideN S
  have e0:=hideN e0
  have e2:=hideN e2
  refine (HG.out _ _ _ _).1 ?_
  unfold jt
  refine zcw9 7 12 (some 12) (.call { callee:=.value (.func 188),args:=#[.tmp 11],argTypes:=#[261] }) (some 17) (.buildSlice 261 2 #[(0,.tmp 14),(1,.tmp 16)]) rfl rfl (by kernel_rfl) ?_ ?_
  ·rintro o K hd ho - hK
   refine zf9 (enters_of Tryz.func188 (by kernel_rfl) rfl) ho (vs:=#[.slice (some ⟨g0,0,none⟩) 2 2]) (by kernel_rfl) (HC1.out _ _ B.out e0.out) ?_
   rintro e Y ⟨⟨v0,rfl,ro,ng⟩,bl⟩
   refine ⟨_,rfl,?_⟩
   rw [hd]
   refine hK _ _ (fun _ => S.out.below bl) ?_
   simp only [Act.put,qa,qb,qc]
   exact (HG.out _ _ _ _).2 (T02_1.out _ _ Y g0 g2 v0 rfl (by kernel_rfl) (B.out.trans (bl.mono B.out.size)) (S.out.below bl) (e2.out.below bl) ⟨ro.rd,fun q hq => ⟨zn2 B.out.size (ng q hq),ro.lt q hq⟩⟩)
  ·rintro o K hd ho - hK
   refine zr9 (.tmp 14) (.tmp 16) ho (.slice a2 L2 c2) (.slice d2 M2 f2) rfl rfl rfl rfl ?_
   rw [hd]
   obtain ⟨g1,hg⟩:=exN X.heap.size
   obtain ⟨Y,hX⟩:=exN (X.alloc (.cells #[.slice a2 L2 c2,.slice d2 M2 f2] 91))
   have bl : Below X.heap.size X Y:=by rw [<- hX]; exact za9 _ _
   rw [hX,hg]
   refine hK _ _ (fun _ => S.out.below bl) ?_
   simp only [Act.put,qa,qb,qc]
   exact (HG.out _ _ _ _).2 (T012_0.out _ _ Y g0 g1 g2 rfl (by kernel_rfl) (B.out.trans (bl.mono B.out.size)) (S.out.below bl) (e0.out.below bl) (by rw [<- hX,<- hg]; exact zac9 _ _ _ _) (e2.out.below bl))
 have T12_0 : Hid (∀ (f : Nat) (l : Array Bool) (X : World) (g1 : Nat) (g2 : Nat),f = 6 -> l = #[true,true,true,true,true,true,false,false,true,true,true,true,true,false,true,true,true,true,true,false,false,false] -> Below W3.heap.size W3 X -> Js w.heap.size lf mf (.slice a1 L1 c1) (.slice a2 L2 c2) (.slice a3 L3 c3) (.slice d1 M1 f1) (.slice d2 M2 f2) (.slice d3 M3 f3) X -> Je X g1 (.slice a2 L2 c2) (.slice d2 M2 f2) -> Je X g2 (.slice a3 L3 c3) (.slice d3 M3 f3) -> G f l (jt w.heap.size lf mf (.slice a1 L1 c1) (.slice a2 L2 c2) (.slice a3 L3 c3) (.slice d1 M1 f1) (.slice d2 M2 f2) (.slice d3 M3 f3) undef undef (.slice (some ⟨g1,0,none⟩) 2 2) undef (.slice (some ⟨g2,0,none⟩) 2 2) undef) X):=by
  rintro f l X g1 g2 rfl rfl B S e1 e2
  have B:=hideN B
  have S:=hideN S
  have e1:=hideN e1
  have e2:=hideN e2
  refine (HG.out _ _ _ _).1 ?_
  unfold jt
  refine rdW 6 (some 11) (.buildSlice 261 2 #[(0,.tmp 8),(1,.tmp 10)]) ?_
  rintro o K hd ho - hK
  refine zr9 (.tmp 8) (.tmp 10) ho (.slice a1 L1 c1) (.slice d1 M1 f1) rfl rfl rfl rfl ?_
  rw [hd]
  obtain ⟨g0,hg⟩:=exN X.heap.size
  obtain ⟨Y,hX⟩:=exN (X.alloc (.cells #[.slice a1 L1 c1,.slice d1 M1 f1] 91))
  have bl : Below X.heap.size X Y:=by rw [<- hX]; exact za9 _ _
  rw [hX,hg]
  refine hK _ _ (fun _ => S.out.below bl) ?_
  simp only [Act.put,qa,qb,qc]
  exact (HG.out _ _ _ _).2 (T012_0.out _ _ Y g0 g1 g2 rfl (by kernel_rfl) (B.out.trans (bl.mono B.out.size)) (S.out.below bl) (by rw [<- hX,<- hg]; exact zac9 _ _ _ _) (e1.out.below bl) (e2.out.below bl))
 have T0_1 : Hid (∀ (f : Nat) (l : Array Bool) (X : World) (g0 : Nat) (v0 : Value),f = 6 -> l = #[true,true,true,true,true,true,true,true,true,true,true,true,false,false,true,true,true,true,false,false,false,false] -> Below W3.heap.size W3 X -> Js w.heap.size lf mf (.slice a1 L1 c1) (.slice a2 L2 c2) (.slice a3 L3 c3) (.slice d1 M1 f1) (.slice d2 M2 f2) (.slice d3 M3 f3) X -> Jv W3 X v0 (strs n.ks ++ strs m.ks) -> G f l (jt w.heap.size lf mf (.slice a1 L1 c1) (.slice a2 L2 c2) (.slice a3 L3 c3) (.slice d1 M1 f1) (.slice d2 M2 f2) (.slice d3 M3 f3) (.slice (some ⟨g0,0,none⟩) 2 2) v0 undef undef undef undef) X):=by
  rintro f l X g0 v0 rfl rfl B S r0
  have B:=hideN B
  have S:=hideN S
  have r0:=hideN r0
  refine (HG.out _ _ _ _).1 ?_
  unfold jt
  refine zcw9 12 18 (some 17) (.buildSlice 261 2 #[(0,.tmp 14),(1,.tmp 16)]) (some 23) (.buildSlice 263 2 #[(0,.tmp 20),(1,.tmp 22)]) rfl rfl (by kernel_rfl) ?_ ?_
  ·rintro o K hd ho - hK
   refine zr9 (.tmp 14) (.tmp 16) ho (.slice a2 L2 c2) (.slice d2 M2 f2) rfl rfl rfl rfl ?_
   rw [hd]
   obtain ⟨g1,hg⟩:=exN X.heap.size
   obtain ⟨Y,hX⟩:=exN (X.alloc (.cells #[.slice a2 L2 c2,.slice d2 M2 f2] 91))
   have bl : Below X.heap.size X Y:=by rw [<- hX]; exact za9 _ _
   rw [hX,hg]
   refine hK _ _ (fun _ => S.out.below bl) ?_
   simp only [Act.put,qa,qb,qc]
   exact (HG.out _ _ _ _).2 (T01_1.out _ _ Y g0 g1 v0 rfl (by kernel_rfl) (B.out.trans (bl.mono B.out.size)) (S.out.below bl) (by rw [<- hX,<- hg]; exact zac9 _ _ _ _) (r0.out.below bl))
  ·rintro o K hd ho - hK
   refine zai9 (.tmp 20) (.tmp 22) ho (.slice a3 L3 c3) (.slice d3 M3 f3) rfl rfl rfl rfl ?_
   rw [hd]
   obtain ⟨g2,hg⟩:=exN X.heap.size
   obtain ⟨Y,hX⟩:=exN (X.alloc (.cells #[.slice a3 L3 c3,.slice d3 M3 f3] 56))
   have bl : Below X.heap.size X Y:=by rw [<- hX]; exact za9 _ _
   rw [hX,hg]
   refine hK _ _ (fun _ => S.out.below bl) ?_
   simp only [Act.put,qa,qb,qc]
   exact (HG.out _ _ _ _).2 (T02_1.out _ _ Y g0 g2 v0 rfl (by kernel_rfl) (B.out.trans (bl.mono B.out.size)) (S.out.below bl) (by rw [<- hX,<- hg]; exact zac9 _ _ _ _) (r0.out.below bl))
 have T0_0 : Hid (∀ (f : Nat) (l : Array Bool) (X : World) (g0 : Nat),f = 7 -> l = #[true,true,true,true,true,true,true,false,true,true,true,true,false,false,true,true,true,true,false,false,false,false] -> Below W3.heap.size W3 X -> Js w.heap.size lf mf (.slice a1 L1 c1) (.slice a2 L2 c2) (.slice a3 L3 c3) (.slice d1 M1 f1) (.slice d2 M2 f2) (.slice d3 M3 f3) X -> Je X g0 (.slice a1 L1 c1) (.slice d1 M1 f1) -> G f l (jt w.heap.size lf mf (.slice a1 L1 c1) (.slice a2 L2 c2) (.slice a3 L3 c3) (.slice d1 M1 f1) (.slice d2 M2 f2) (.slice d3 M3 f3) (.slice (some ⟨g0,0,none⟩) 2 2) undef undef undef undef undef) X):=by
  rintro f l X g0 rfl rfl B S e0
  have B:=hideN B
  have S:=hideN S
  have e0:=hideN e0
  refine (HG.out _ _ _ _).1 ?_
  unfold jt
  refine zoq9 7 12 18 (some 12) (.call { callee:=.value (.func 188),args:=#[.tmp 11],argTypes:=#[261] }) (some 17) (.buildSlice 261 2 #[(0,.tmp 14),(1,.tmp 16)]) (some 23) (.buildSlice 263 2 #[(0,.tmp 20),(1,.tmp 22)]) rfl rfl rfl (by kernel_rfl) ?_ ?_ ?_
  ·rintro o K hd ho - hK
   refine zf9 (enters_of Tryz.func188 (by kernel_rfl) rfl) ho (vs:=#[.slice (some ⟨g0,0,none⟩) 2 2]) (by kernel_rfl) (HC1.out _ _ B.out e0.out) ?_
   rintro e Y ⟨⟨v0,rfl,ro,ng⟩,bl⟩
   refine ⟨_,rfl,?_⟩
   rw [hd]
   refine hK _ _ (fun _ => S.out.below bl) ?_
   simp only [Act.put,qa,qb,qc]
   exact (HG.out _ _ _ _).2 (T0_1.out _ _ Y g0 v0 rfl (by kernel_rfl) (B.out.trans (bl.mono B.out.size)) (S.out.below bl) ⟨ro.rd,fun q hq => ⟨zn2 B.out.size (ng q hq),ro.lt q hq⟩⟩)
  ·rintro o K hd ho - hK
   refine zr9 (.tmp 14) (.tmp 16) ho (.slice a2 L2 c2) (.slice d2 M2 f2) rfl rfl rfl rfl ?_
   rw [hd]
   obtain ⟨g1,hg⟩:=exN X.heap.size
   obtain ⟨Y,hX⟩:=exN (X.alloc (.cells #[.slice a2 L2 c2,.slice d2 M2 f2] 91))
   have bl : Below X.heap.size X Y:=by rw [<- hX]; exact za9 _ _
   rw [hX,hg]
   refine hK _ _ (fun _ => S.out.below bl) ?_
   simp only [Act.put,qa,qb,qc]
   exact (HG.out _ _ _ _).2 (T01_0.out _ _ Y g0 g1 rfl (by kernel_rfl) (B.out.trans (bl.mono B.out.size)) (S.out.below bl) (e0.out.below bl) (by rw [<- hX,<- hg]; exact zac9 _ _ _ _))
  ·rintro o K hd ho - hK
   refine zai9 (.tmp 20) (.tmp 22) ho (.slice a3 L3 c3) (.slice d3 M3 f3) rfl rfl rfl rfl ?_
   rw [hd]
   obtain ⟨g2,hg⟩:=exN X.heap.size
   obtain ⟨Y,hX⟩:=exN (X.alloc (.cells #[.slice a3 L3 c3,.slice d3 M3 f3] 56))
   have bl : Below X.heap.size X Y:=by rw [<- hX]; exact za9 _ _
   rw [hX,hg]
   refine hK _ _ (fun _ => S.out.below bl) ?_
   simp only [Act.put,qa,qb,qc]
   exact (HG.out _ _ _ _).2 (T02_0.out _ _ Y g0 g2 rfl (by kernel_rfl) (B.out.trans (bl.mono B.out.size)) (S.out.below bl) (e0.out.below bl) (by rw [<- hX,<- hg]; exact zac9 _ _ _ _))
 have T1_0 : Hid (∀ (f : Nat) (l : Array Bool) (X : World) (g1 : Nat),f = 7 -> l = #[true,true,true,true,true,true,false,false,true,true,true,true,true,false,true,true,true,true,false,false,false,false] -> Below W3.heap.size W3 X -> Js w.heap.size lf mf (.slice a1 L1 c1) (.slice a2 L2 c2) (.slice a3 L3 c3) (.slice d1 M1 f1) (.slice d2 M2 f2) (.slice d3 M3 f3) X -> Je X g1 (.slice a2 L2 c2) (.slice d2 M2 f2) -> G f l (jt w.heap.size lf mf (.slice a1 L1 c1) (.slice a2 L2 c2) (.slice a3 L3 c3) (.slice d1 M1 f1) (.slice d2 M2 f2) (.slice d3 M3 f3) undef undef (.slice (some ⟨g1,0,none⟩) 2 2) undef undef undef) X):=by
  rintro f l X g1 rfl rfl B S e1
  have B:=hideN B
  have S:=hideN S
  have e1:=hideN e1
  refine (HG.out _ _ _ _).1 ?_
  unfold jt
  refine zcw9 6 18 (some 11) (.buildSlice 261 2 #[(0,.tmp 8),(1,.tmp 10)]) (some 23) (.buildSlice 263 2 #[(0,.tmp 20),(1,.tmp 22)]) rfl rfl (by kernel_rfl) ?_ ?_
  ·rintro o K hd ho - hK
   refine zr9 (.tmp 8) (.tmp 10) ho (.slice a1 L1 c1) (.slice d1 M1 f1) rfl rfl rfl rfl ?_
   rw [hd]
   obtain ⟨g0,hg⟩:=exN X.heap.size
   obtain ⟨Y,hX⟩:=exN (X.alloc (.cells #[.slice a1 L1 c1,.slice d1 M1 f1] 91))
   have bl : Below X.heap.size X Y:=by rw [<- hX]; exact za9 _ _
   rw [hX,hg]
   refine hK _ _ (fun _ => S.out.below bl) ?_
   simp only [Act.put,qa,qb,qc]
   exact (HG.out _ _ _ _).2 (T01_0.out _ _ Y g0 g1 rfl (by kernel_rfl) (B.out.trans (bl.mono B.out.size)) (S.out.below bl) (by rw [<- hX,<- hg]; exact zac9 _ _ _ _) (e1.out.below bl))
  ·rintro o K hd ho - hK
   refine zai9 (.tmp 20) (.tmp 22) ho (.slice a3 L3 c3) (.slice d3 M3 f3) rfl rfl rfl rfl ?_
   rw [hd]
   obtain ⟨g2,hg⟩:=exN X.heap.size
   obtain ⟨Y,hX⟩:=exN (X.alloc (.cells #[.slice a3 L3 c3,.slice d3 M3 f3] 56))
   have bl : Below X.heap.size X Y:=by rw [<- hX]; exact za9 _ _
   rw [hX,hg]
   refine hK _ _ (fun _ => S.out.below bl) ?_
   simp only [Act.put,qa,qb,qc]
   exact (HG.out _ _ _ _).2 (T12_0.out _ _ Y g1 g2 rfl (by kernel_rfl) (B.out.trans (bl.mono B.out.size)) (S.out.below bl) (e1.out.below bl) (by rw [<- hX,<- hg]; exact zac9 _ _ _ _))
 have T2_0 : Hid (∀ (f : Nat) (l : Array Bool) (X : World) (g2 : Nat),f = 7 -> l = #[true,true,true,true,true,true,false,false,true,true,true,true,false,false,true,true,true,true,true,false,false,false] -> Below W3.heap.size W3 X -> Js w.heap.size lf mf (.slice a1 L1 c1) (.slice a2 L2 c2) (.slice a3 L3 c3) (.slice d1 M1 f1) (.slice d2 M2 f2) (.slice d3 M3 f3) X -> Je X g2 (.slice a3 L3 c3) (.slice d3 M3 f3) -> G f l (jt w.heap.size lf mf (.slice a1 L1 c1) (.slice a2 L2 c2) (.slice a3 L3 c3) (.slice d1 M1 f1) (.slice d2 M2 f2) (.slice d3 M3 f3) undef undef undef undef (.slice (some ⟨g2,0,none⟩) 2 2) undef) X):=by
  rintro f l X g2 rfl rfl B S e2
  have B:=hideN B
  have S:=hideN S
  have e2:=hideN e2
  refine (HG.out _ _ _ _).1 ?_
  unfold jt
  refine zcw9 6 12 (some 11) (.buildSlice 261 2 #[(0,.tmp 8),(1,.tmp 10)]) (some 17) (.buildSlice 261 2 #[(0,.tmp 14),(1,.tmp 16)]) rfl rfl (by kernel_rfl) ?_ ?_
  ·rintro o K hd ho - hK
   refine zr9 (.tmp 8) (.tmp 10) ho (.slice a1 L1 c1) (.slice d1 M1 f1) rfl rfl rfl rfl ?_
   rw [hd]
   obtain ⟨g0,hg⟩:=exN X.heap.size
   obtain ⟨Y,hX⟩:=exN (X.alloc (.cells #[.slice a1 L1 c1,.slice d1 M1 f1] 91))
   have bl : Below X.heap.size X Y:=by rw [<- hX]; exact za9 _ _
   rw [hX,hg]
   refine hK _ _ (fun _ => S.out.below bl) ?_
   simp only [Act.put,qa,qb,qc]
   exact (HG.out _ _ _ _).2 (T02_0.out _ _ Y g0 g2 rfl (by kernel_rfl) (B.out.trans (bl.mono B.out.size)) (S.out.below bl) (by rw [<- hX,<- hg]; exact zac9 _ _ _ _) (e2.out.below bl))
  ·rintro o K hd ho - hK
   refine zr9 (.tmp 14) (.tmp 16) ho (.slice a2 L2 c2) (.slice d2 M2 f2) rfl rfl rfl rfl ?_
   rw [hd]
   obtain ⟨g1,hg⟩:=exN X.heap.size
   obtain ⟨Y,hX⟩:=exN (X.alloc (.cells #[.slice a2 L2 c2,.slice d2 M2 f2] 91))
   have bl : Below X.heap.size X Y:=by rw [<- hX]; exact za9 _ _
   rw [hX,hg]
   refine hK _ _ (fun _ => S.out.below bl) ?_
   simp only [Act.put,qa,qb,qc]
   exact (HG.out _ _ _ _).2 (T12_0.out _ _ Y g1 g2 rfl (by kernel_rfl) (B.out.trans (bl.mono B.out.size)) (S.out.below bl) (by rw [<- hX,<- hg]; exact zac9 _ _ _ _) (e2.out.below bl))
 have T_0 : Hid (∀ (f : Nat) (l : Array Bool) (X : World) ,f = 8 -> l = #[true,true,true,true,true,true,false,false,true,true,true,true,false,false,true,true,true,true,false,false,false,false] -> Below W3.heap.size W3 X -> Js w.heap.size lf mf (.slice a1 L1 c1) (.slice a2 L2 c2) (.slice a3 L3 c3) (.slice d1 M1 f1) (.slice d2 M2 f2) (.slice d3 M3 f3) X -> G f l (jt w.heap.size lf mf (.slice a1 L1 c1) (.slice a2 L2 c2) (.slice a3 L3 c3) (.slice d1 M1 f1) (.slice d2 M2 f2) (.slice d3 M3 f3) undef undef undef undef undef undef) X):=by
  rintro f l X  rfl rfl B S
  have B:=hideN B
  have S:=hideN S
  refine (HG.out _ _ _ _).1 ?_
  unfold jt
  refine zoq9 6 12 18 (some 11) (.buildSlice 261 2 #[(0,.tmp 8),(1,.tmp 10)]) (some 17) (.buildSlice 261 2 #[(0,.tmp 14),(1,.tmp 16)]) (some 23) (.buildSlice 263 2 #[(0,.tmp 20),(1,.tmp 22)]) rfl rfl rfl (by kernel_rfl) ?_ ?_ ?_
  ·rintro o K hd ho - hK
   refine zr9 (.tmp 8) (.tmp 10) ho (.slice a1 L1 c1) (.slice d1 M1 f1) rfl rfl rfl rfl ?_
   rw [hd]
   obtain ⟨g0,hg⟩:=exN X.heap.size
   obtain ⟨Y,hX⟩:=exN (X.alloc (.cells #[.slice a1 L1 c1,.slice d1 M1 f1] 91))
   have bl : Below X.heap.size X Y:=by rw [<- hX]; exact za9 _ _
   rw [hX,hg]
   refine hK _ _ (fun _ => S.out.below bl) ?_
   simp only [Act.put,qa,qb,qc]
   exact (HG.out _ _ _ _).2 (T0_0.out _ _ Y g0 rfl (by kernel_rfl) (B.out.trans (bl.mono B.out.size)) (S.out.below bl) (by rw [<- hX,<- hg]; exact zac9 _ _ _ _))
  ·rintro o K hd ho - hK
   refine zr9 (.tmp 14) (.tmp 16) ho (.slice a2 L2 c2) (.slice d2 M2 f2) rfl rfl rfl rfl ?_
   rw [hd]
   obtain ⟨g1,hg⟩:=exN X.heap.size
   obtain ⟨Y,hX⟩:=exN (X.alloc (.cells #[.slice a2 L2 c2,.slice d2 M2 f2] 91))
   have bl : Below X.heap.size X Y:=by rw [<- hX]; exact za9 _ _
   rw [hX,hg]
   refine hK _ _ (fun _ => S.out.below bl) ?_
   simp only [Act.put,qa,qb,qc]
   exact (HG.out _ _ _ _).2 (T1_0.out _ _ Y g1 rfl (by kernel_rfl) (B.out.trans (bl.mono B.out.size)) (S.out.below bl) (by rw [<- hX,<- hg]; exact zac9 _ _ _ _))
  ·rintro o K hd ho - hK
   refine zai9 (.tmp 20) (.tmp 22) ho (.slice a3 L3 c3) (.slice d3 M3 f3) rfl rfl rfl rfl ?_
   rw [hd]
   obtain ⟨g2,hg⟩:=exN X.heap.size
   obtain ⟨Y,hX⟩:=exN (X.alloc (.cells #[.slice a3 L3 c3,.slice d3 M3 f3] 56))
   have bl : Below X.heap.size X Y:=by rw [<- hX]; exact za9 _ _
   rw [hX,hg]
   refine hK _ _ (fun _ => S.out.below bl) ?_
   simp only [Act.put,qa,qb,qc]
   exact (HG.out _ _ _ _).2 (T2_0.out _ _ Y g2 rfl (by kernel_rfl) (B.out.trans (bl.mono B.out.size)) (S.out.below bl) (by rw [<- hX,<- hg]; exact zac9 _ _ _ _))
 refine (HG.out _ _ _ _).1 ?_
 have hS:=S0.out
 refine tkW 0 (some 5) (.fieldAddr 93 (.tmp 2) 0) (Value.pointer (some ⟨w.heap.size,0,none⟩)) (by rintro o ho w' _; go_simp) hS ?_
 simp only [Act.put,qa,qb,qc]
 refine tkW 1 (some 6) (.load 4 (.tmp 5)) (Value.bool lf) ?hy hS ?_
 case hy =>
  rintro o ho w' ⟨hA,hB,hC⟩
  have q:=hA.c0
  go_simp
 simp only [Act.put,qa,qb,qc]
 refine tkW 2 (some 7) (.fieldAddr 93 (.tmp 2) 1) (Value.pointer (some ⟨w.heap.size,1,none⟩)) (by rintro o ho w' _; go_simp) hS ?_
 simp only [Act.put,qa,qb,qc]
 refine tkW 3 (some 8) (.load 91 (.tmp 7)) (Value.slice a1 L1 c1) ?hy hS ?_
 case hy =>
  rintro o ho w' ⟨hA,hB,hC⟩
  have q:=hA.c1
  go_simp
 simp only [Act.put,qa,qb,qc]
 refine tkW 4 (some 9) (.fieldAddr 93 (.tmp 3) 1) (Value.pointer (some ⟨w.heap.size + 1,1,none⟩)) (by rintro o ho w' _; go_simp) hS ?_
 simp only [Act.put,qa,qb,qc]
 refine tkW 5 (some 10) (.load 91 (.tmp 9)) (Value.slice d1 M1 f1) ?hy hS ?_
 case hy =>
  rintro o ho w' ⟨hA,hB,hC⟩
  have q:=hB.c1
  go_simp
 simp only [Act.put,qa,qb,qc]
 refine tkW 8 (some 13) (.fieldAddr 93 (.tmp 2) 2) (Value.pointer (some ⟨w.heap.size,2,none⟩)) (by rintro o ho w' _; go_simp) hS ?_
 simp only [Act.put,qa,qb,qc]
 refine tkW 9 (some 14) (.load 91 (.tmp 13)) (Value.slice a2 L2 c2) ?hy hS ?_
 case hy =>
  rintro o ho w' ⟨hA,hB,hC⟩
  have q:=hA.c2
  go_simp
 simp only [Act.put,qa,qb,qc]
 refine tkW 10 (some 15) (.fieldAddr 93 (.tmp 3) 2) (Value.pointer (some ⟨w.heap.size + 1,2,none⟩)) (by rintro o ho w' _; go_simp) hS ?_
 simp only [Act.put,qa,qb,qc]
 refine tkW 11 (some 16) (.load 91 (.tmp 15)) (Value.slice d2 M2 f2) ?hy hS ?_
 case hy =>
  rintro o ho w' ⟨hA,hB,hC⟩
  have q:=hB.c2
  go_simp
 simp only [Act.put,qa,qb,qc]
 refine tkW 14 (some 19) (.fieldAddr 93 (.tmp 2) 3) (Value.pointer (some ⟨w.heap.size,3,none⟩)) (by rintro o ho w' _; go_simp) hS ?_
 simp only [Act.put,qa,qb,qc]
 refine tkW 15 (some 20) (.load 56 (.tmp 19)) (Value.slice a3 L3 c3) ?hy hS ?_
 case hy =>
  rintro o ho w' ⟨hA,hB,hC⟩
  have q:=hA.c3
  go_simp
 simp only [Act.put,qa,qb,qc]
 refine tkW 16 (some 21) (.fieldAddr 93 (.tmp 3) 3) (Value.pointer (some ⟨w.heap.size + 1,3,none⟩)) (by rintro o ho w' _; go_simp) hS ?_
 simp only [Act.put,qa,qb,qc]
 refine tkW 17 (some 22) (.load 56 (.tmp 21)) (Value.slice d3 M3 f3) ?hy hS ?_
 case hy =>
  rintro o ho w' ⟨hA,hB,hC⟩
  have q:=hB.c3
  go_simp
 simp only [Act.put,qa,qb,qc]
 exact (HG.out _ _ _ _).2 (T_0.out _ _ X0  rfl (by kernel_rfl) B0.out S0.out)
end Go.Proofs.YtjhccpijpffahaaGreat
