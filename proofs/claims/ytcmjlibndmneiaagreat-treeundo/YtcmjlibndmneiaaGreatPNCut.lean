import Derived.Test.YtcmjlibndmneiaaGreatPNSl
import Derived.Test.YtcmjlibndmneiaaGreatPNReg
import Derived.Test.YtcmjlibndmneiaaGreatPBReg
set_option maxRecDepth 100000
set_option linter.all false
set_option maxHeartbeats 8000000
namespace Go.Proofs.YtcmjlibndmneiaaGreat
open Go.RowKit Pl
def zan9{w:World}{a:Option Addr}{cap:Nat}{u:List Value}(h:RdV w (.slice a u.length cap) u)(l m:Nat)(hl:l<=m)(Q:m<=u.length):RdV w (sliced a l m cap 1) ((u.drop l).take (m-l)):=by
 obtain⟨Y,a0,e,h1,h2,I,K⟩:=h
 cases e
 have E:((u.drop l).take (m-l)).length=m-l:=by rw[zg0,zj0];omega
 unfold sliced
 rw[Nat.mul_one]
 by_cases H:m-l=0
 .have T:(u.drop l).take (m-l)=[]:=by rw[H];rfl
  rw[T,H]
  refine⟨_,cap-l,rfl,zn7 _,by omega,λ e=>?_,.inl rfl⟩
  by_cases c:cap=l
  .omega
  .rw[if_neg c]at e
   have:a=none:=by simpa using e
   have:=I this
   omega
 .rcases K with rfl|⟨b,o,rfl,O⟩
  .simp at Q;omega
  .rw[if_neg (by omega)]
   refine⟨_,cap-l,by rw[E],by omega,by omega,λ e=>(by cases e),.inr ⟨b,o+l,by simp[Addr.add],λ i c A=>?_⟩⟩
   have:=(List.getElem?_eq_some_iff.1 A).1
   rw[E]at this
   rw[zu0,if_pos this,zt0]at A
   have:=O (l+i) c A
   rw[Nat.add_assoc]
   exact this
def sizeSV(w:World):(sizeOf (Tryz.prog.elem 91)).run Tryz.prog w=.ok 1 w:=by
 have h:(Tryz.prog.info? (Tryz.prog.elem 91)).map (·.size)=some 1:=by kernel_rfl
 obtain⟨i,u,A⟩:=Option.map_eq_some_iff.1 h
 simp[sizeOf,typeInfo,u,A]
def zjv9:Tryz.prog.underlying 91=some (.slice (Tryz.prog.elem 91)):=by
 have:Tryz.prog.elem 91=9:=by kernel_rfl
 rw[this]
 exact Tryz.underlying91
def fromSV(b:Option Addr)(L cap p:Nat)(u:p<=L)(A:L<=cap)(w:World):(Instr.sliceAt 91 (.slice b L cap) (some (.int .i64 (p:Int))) none none).run Tryz.prog w=.ok (sliced b p L cap 1) w:=by
 rw[run_sliceAt_slice _ _ _ _ _ _ zjv9,run_slice_l _ _ _ _ _ zjv9 _ _ (by omega) (by omega),sizeSV]
 simp[Result.andThen]
def uptoSV(b:Option Addr)(L cap p:Nat)(u:p<=L)(A:L<=cap)(w:World):(Instr.sliceAt 91 (.slice b L cap) none (some (.int .i64 (p:Int))) none).run Tryz.prog w=.ok (sliced b 0 p cap 1) w:=by
 rw[run_sliceAt_slice _ _ _ _ _ _ zjv9,run_slice_h _ _ _ _ _ zjv9 _ _ (by omega) (by omega),sizeSV]
 simp[Result.andThen]
def zgl9(v:Value)(xs:List Value)(m:Nat)(w:World)(ha:RdV w v xs)(h1:∀x∈xs,x.oneCell'=true)(h3:xs.length*16<=140737488355328)(hm:m<=9007199254740992):
 Calls Tryz.prog 176 #[v,.int .i64 (m:Int)] w λ e w'=>(∃v1 Q,e=.returned (.tuple #[v1,Q])/\RdV w' v1 (xs.take m)/\RdV w' Q (xs.drop m)/\∀j,(v1.ownBlock=some j\/Q.ownBlock=some j)->w.heap.size<=j/\j<w'.heap.size)/\Below w.heap.size w w':=by
 obtain⟨p,hp⟩:∃p,p=min m xs.length:=⟨_,rfl⟩
 have ht:xs.take m=xs.take p:=by rw[hp];by_cases h:m<=xs.length;(· rw[Nat.min_eq_left h]);(· rw[Nat.min_eq_right (by omega),zn5 (by omega),zn5 (zn6 _)])
 have A:xs.drop m=xs.drop p:=by rw[hp];by_cases h:m<=xs.length;(· rw[Nat.min_eq_left h]);(· rw[Nat.min_eq_right (by omega),List.drop_of_length_le (by omega),List.drop_of_length_le (zn6 _)])
 rw[ht,A]
 have a2:p<=xs.length:=by omega
 obtain⟨a,cap,rfl,l1,l2,af⟩:=ha.len
 have a6:=za0 (zan9 ha 0 p (zn7 _) a2)
 have a4:=za0 (zan9 ha p xs.length a2 (zn6 _))
 rw[List.drop_zero,Nat.sub_zero]at a6
 rw[show(xs.drop p).take (xs.length-p)=xs.drop p by rw[zn5];rw[zj0];omega]at a4
 have HC:Hid (∀W v T,Below w.heap.size w W->RdV W v T->T.length<=xs.length->(∀x∈T,x.oneCell'=true)->Calls Tryz.prog 190 #[v] W λ e w'=>(∃v',e=.returned v'/\RdV w' v' T/\∀j,v'.ownBlock=some j->W.heap.size<=j/\j<w'.heap.size)/\Below W.heap.size W w'):=λ W v T _ hr hl h1=>zlq9 v T W hr h1 (zn2 (Nat.mul_le_mul_right _ hl) h3)
 have HT:Hid ((xs.take p).length<=xs.length/\∀x∈xs.take p,x.oneCell'=true):=⟨by rw[zg0];omega,λ x hx=>h1 x (zx0 hx)⟩
 have HD:Hid ((xs.drop p).length<=xs.length/\∀x∈xs.drop p,x.oneCell'=true):=⟨by rw[zj0];omega,λ x hx=>h1 x (zy0 hx)⟩
 have hL:xs.length<=9007199254740992:=by omega
 have U1:=za0 (uptoSV a xs.length cap p a2 l1)
 have U2:=za0 (fromSV a xs.length cap p a2 l1)
 obtain⟨L,aa⟩:=exH xs.length
 have HM:Hid (p=min m L):=by rw[<-aa.o];exact hp
 rw[aa.o]at l1 a4 a2 hL U1 U2 |-
 have Y:Below w.heap.size w w.drew:=(Below.refl _ _).drew
 clear ha h1 hp ht A af h3
 by_cases ag:m<=L
 focus
  have a8:p=m:=by have:=HM.o;omega
  have ae:(m:Int)<=(L:Int):=by omega
  subst a8
  clear HM
  go_enter Tryz.func176,Tryz.ntmps176
  go_wp2_with fail
  refine beginW (S:=λ _=>True) (t:=9) (by kernel_rfl) ?_
  refine tkW 0 (some 10) (.move (.tmp 0)) (Value.slice a L cap) ?hy trivial ?_
  case hy=>
   rintro o u w' _
   first|(go_simp;done)|(go_simp;omega)
  simp only[zw]
  refine tkW 1 (some 11) (.move (.tmp 1)) (Value.int .i64 (p:Int)) ?hy trivial ?_
  case hy=>
   rintro o u w' _
   first|(go_simp;done)|(go_simp;omega)
  simp only[zw]
  refine tkW 2 (some 12) (.slice 91 (.tmp 10) none (some (.tmp 11)) none) (sliced a 0 p cap 1) ?hy trivial ?_
  case hy=>
   rintro o u w' _
   unfold execOp
   simp only[u,Option.map_some,Option.map_none,Sem.run_bind]
   erw [U1.o w']
   rfl
  simp only[zw]
  refine tkW 4 (some 14) (.move (.tmp 0)) (Value.slice a L cap) ?hy trivial ?_
  case hy=>
   rintro o u w' _
   first|(go_simp;done)|(go_simp;omega)
  simp only[zw]
  refine tkW 5 (some 15) (.move (.tmp 1)) (Value.int .i64 (p:Int)) ?hy trivial ?_
  case hy=>
   rintro o u w' _
   first|(go_simp;done)|(go_simp;omega)
  simp only[zw]
  refine tkW 6 (some 16) (.slice 91 (.tmp 14) (some (.tmp 15)) none none) (sliced a p L cap 1) ?hy trivial ?_
  case hy=>
   rintro o u w' _
   unfold execOp
   simp only[u,Option.map_some,Option.map_none,Sem.run_bind]
   erw [U2.o w']
   rfl
  simp only[zw]
  refine rdW 3 (some 13) (.call { callee:=.value (.func 190),args:=#[.tmp 12],argTypes:=#[91] }) ?_
  rintro o K A u H E
  refine zg9 (enters_of Tryz.func190 (by kernel_rfl) rfl) u (vs:=#[sliced a 0 p cap 1]) (by kernel_rfl) (HC.o _ _ _ Y (a6.o.below Y) HT.o.1 HT.o.2) ?_
  rintro e w2 ⟨⟨Q,rfl,a3,a1⟩,a0⟩
  have I:=za0 (Y.trans (a0.mono (zn6 _)))
  have a9:=za0 a3
  have N2:=za0 a1
  clear a3 a1 a0
  refine⟨_,rfl,?_⟩
  rw[A]
  refine E _ _ (λ _=>trivial) ?_
  clear u A H E
  simp only[zw]
  refine rdW 7 (some 17) (.call { callee:=.value (.func 190),args:=#[.tmp 16],argTypes:=#[91] }) ?_
  rintro o K A u H E
  refine zg9 (enters_of Tryz.func190 (by kernel_rfl) rfl) u (vs:=#[sliced a p L cap 1]) (by kernel_rfl) (HC.o _ _ _ I.o (a4.o.below I.o) HD.o.1 HD.o.2) ?_
 rotate_right
 focus
  have a8:p=L:=by have:=HM.o;omega
  have ae:¬(m:Int)<=(L:Int):=by omega
  subst a8
  clear HM
  go_enter Tryz.func176,Tryz.ntmps176
  go_wp2_with fail
  refine beginW (S:=λ _=>True) (t:=9) (by kernel_rfl) ?_
  refine tkW 0 (some 10) (.move (.tmp 0)) (Value.slice a p cap) ?hy trivial ?_
  case hy=>
   rintro o u w' _
   first|(go_simp;done)|(go_simp;omega)
  simp only[zw]
  refine tkW 1 (some 11) (.move (.tmp 1)) (Value.int .i64 (p:Int)) ?hy trivial ?_
  case hy=>
   rintro o u w' _
   first|(go_simp;done)|(go_simp;omega)
  simp only[zw]
  refine tkW 2 (some 12) (.slice 91 (.tmp 10) none (some (.tmp 11)) none) (sliced a 0 p cap 1) ?hy trivial ?_
  case hy=>
   rintro o u w' _
   unfold execOp
   simp only[u,Option.map_some,Option.map_none,Sem.run_bind]
   erw [U1.o w']
   rfl
  simp only[zw]
  refine tkW 4 (some 14) (.move (.tmp 0)) (Value.slice a p cap) ?hy trivial ?_
  case hy=>
   rintro o u w' _
   first|(go_simp;done)|(go_simp;omega)
  simp only[zw]
  refine tkW 5 (some 15) (.move (.tmp 1)) (Value.int .i64 (p:Int)) ?hy trivial ?_
  case hy=>
   rintro o u w' _
   first|(go_simp;done)|(go_simp;omega)
  simp only[zw]
  refine tkW 6 (some 16) (.slice 91 (.tmp 14) (some (.tmp 15)) none none) (sliced a p p cap 1) ?hy trivial ?_
  case hy=>
   rintro o u w' _
   unfold execOp
   simp only[u,Option.map_some,Option.map_none,Sem.run_bind]
   erw [U2.o w']
   rfl
  simp only[zw]
  refine rdW 3 (some 13) (.call { callee:=.value (.func 190),args:=#[.tmp 12],argTypes:=#[91] }) ?_
  rintro o K A u H E
  refine zg9 (enters_of Tryz.func190 (by kernel_rfl) rfl) u (vs:=#[sliced a 0 p cap 1]) (by kernel_rfl) (HC.o _ _ _ Y (a6.o.below Y) HT.o.1 HT.o.2) ?_
  rintro e w2 ⟨⟨Q,rfl,a3,a1⟩,a0⟩
  have I:=za0 (Y.trans (a0.mono (zn6 _)))
  have a9:=za0 a3
  have N2:=za0 a1
  clear a3 a1 a0
  refine⟨_,rfl,?_⟩
  rw[A]
  refine E _ _ (λ _=>trivial) ?_
  clear u A H E
  simp only[zw]
  refine rdW 7 (some 17) (.call { callee:=.value (.func 190),args:=#[.tmp 16],argTypes:=#[91] }) ?_
  rintro o K A u H E
  refine zg9 (enters_of Tryz.func190 (by kernel_rfl) rfl) u (vs:=#[sliced a p p cap 1]) (by kernel_rfl) (HC.o _ _ _ I.o (a4.o.below I.o) HD.o.1 HD.o.2) ?_
 all_goals
  rintro e w3 ⟨⟨v3,rfl,ab,a7⟩,a5⟩
  have B3:=za0 (I.o.trans (a5.mono I.o.size))
  have ac:=za0 ab
  have ad:=za0 (a9.o.below a5)
  have N3:Hid (∀j,v3.ownBlock=some j->w.heap.size<=j/\j<w3.heap.size):=λ j O=>⟨zn2 I.o.size (a7 j O).1,(a7 j O).2⟩
  have N4:Hid (∀j,Q.ownBlock=some j->w.heap.size<=j/\j<w3.heap.size):=λ j O=>⟨(N2.o j O).1,zn1 (N2.o j O).2 a5.size⟩
  clear ab a7 a5
  refine⟨_,rfl,?_⟩
  rw[A]
  refine E _ _ (λ _=>trivial) ?_
  clear u A H E
  simp only[zw]
  refine rdW 8 (some 4) (.assign (.tmp 13)) ?_
  rintro o K A u H E
  refine stepY (v:=Q) ?hy ?_
  case hy=>go_simp
  rw[A]
  refine E _ _ (λ _=>trivial) ?_
  clear u A H E
  simp only[zw]
  refine rdW 9 (some 5) (.assign (.tmp 17)) ?_
  rintro o K A u H E
  refine stepY (v:=v3) ?hy ?_
  case hy=>go_simp
  rw[A]
  refine E _ _ (λ e=>absurd rfl e) ?_
  clear u A H E
  simp only[zw]
  refine doneW (by kernel_rfl) ?_ _
  go_wp2_with fail
  go_ret2
  exact⟨⟨_,_,rfl,ad.o,ac.o,λ j O=>O.elim (N4.o j) (N3.o j)⟩,B3.o⟩
def sizeIV(w:World):(sizeOf (Tryz.prog.elem 56)).run Tryz.prog w=.ok 1 w:=by
 have h:(Tryz.prog.info? (Tryz.prog.elem 56)).map (·.size)=some 1:=by kernel_rfl
 obtain⟨i,u,A⟩:=Option.map_eq_some_iff.1 h
 simp[sizeOf,typeInfo,u,A]
def zfc9:Tryz.prog.underlying 56=some (.slice (Tryz.prog.elem 56)):=by
 have:Tryz.prog.elem 56=3:=by kernel_rfl
 rw[this]
 exact Tryz.underlying56
def fromIV(b:Option Addr)(L cap p:Nat)(u:p<=L)(A:L<=cap)(w:World):(Instr.sliceAt 56 (.slice b L cap) (some (.int .i64 (p:Int))) none none).run Tryz.prog w=.ok (sliced b p L cap 1) w:=by
 rw[run_sliceAt_slice _ _ _ _ _ _ zfc9,run_slice_l _ _ _ _ _ zfc9 _ _ (by omega) (by omega),sizeIV]
 simp[Result.andThen]
def uptoIV(b:Option Addr)(L cap p:Nat)(u:p<=L)(A:L<=cap)(w:World):(Instr.sliceAt 56 (.slice b L cap) none (some (.int .i64 (p:Int))) none).run Tryz.prog w=.ok (sliced b 0 p cap 1) w:=by
 rw[run_sliceAt_slice _ _ _ _ _ _ zfc9,run_slice_h _ _ _ _ _ zfc9 _ _ (by omega) (by omega),sizeIV]
 simp[Result.andThen]
def zlr9(v:Value)(xs:List Value)(m:Nat)(w:World)(ha:RdV w v xs)(h1:∀x∈xs,x.oneCell'=true)(h3:xs.length*8<=140737488355328)(hm:m<=9007199254740992):
 Calls Tryz.prog 177 #[v,.int .i64 (m:Int)] w λ e w'=>(∃v1 T,e=.returned (.tuple #[v1,T])/\RdV w' v1 (xs.take m)/\RdV w' T (xs.drop m)/\∀j,(v1.ownBlock=some j\/T.ownBlock=some j)->w.heap.size<=j/\j<w'.heap.size)/\Below w.heap.size w w':=by
 obtain⟨p,hp⟩:∃p,p=min m xs.length:=⟨_,rfl⟩
 have ht:xs.take m=xs.take p:=by rw[hp];by_cases h:m<=xs.length;(· rw[Nat.min_eq_left h]);(· rw[Nat.min_eq_right (by omega),zn5 (by omega),zn5 (zn6 _)])
 have A:xs.drop m=xs.drop p:=by rw[hp];by_cases h:m<=xs.length;(· rw[Nat.min_eq_left h]);(· rw[Nat.min_eq_right (by omega),List.drop_of_length_le (by omega),List.drop_of_length_le (zn6 _)])
 rw[ht,A]
 have a2:p<=xs.length:=by omega
 obtain⟨a,cap,rfl,l1,l2,ad⟩:=ha.len
 have a6:=za0 (zan9 ha 0 p (zn7 _) a2)
 have a5:=za0 (zan9 ha p xs.length a2 (zn6 _))
 rw[List.drop_zero,Nat.sub_zero]at a6
 rw[show(xs.drop p).take (xs.length-p)=xs.drop p by rw[zn5];rw[zj0];omega]at a5
 have HC:Hid (∀W v cs,Below w.heap.size w W->RdV W v cs->cs.length<=xs.length->(∀x∈cs,x.oneCell'=true)->Calls Tryz.prog 191 #[v] W λ e w'=>(∃v',e=.returned v'/\RdV w' v' cs/\∀j,v'.ownBlock=some j->W.heap.size<=j/\j<w'.heap.size)/\Below W.heap.size W w'):=λ W v cs _ hr hl h1=>zlp9 v cs W hr h1 (zn2 (Nat.mul_le_mul_right _ hl) h3)
 have HT:Hid ((xs.take p).length<=xs.length/\∀x∈xs.take p,x.oneCell'=true):=⟨by rw[zg0];omega,λ x hx=>h1 x (zx0 hx)⟩
 have HD:Hid ((xs.drop p).length<=xs.length/\∀x∈xs.drop p,x.oneCell'=true):=⟨by rw[zj0];omega,λ x hx=>h1 x (zy0 hx)⟩
 have hL:xs.length<=9007199254740992:=by omega
 have U1:=za0 (uptoIV a xs.length cap p a2 l1)
 have U2:=za0 (fromIV a xs.length cap p a2 l1)
 obtain⟨L,ab⟩:=exH xs.length
 have HM:Hid (p=min m L):=by rw[<-ab.o];exact hp
 rw[ab.o]at l1 a5 a2 hL U1 U2 |-
 have h0:Below w.heap.size w w.drew:=(Below.refl _ _).drew
 clear ha h1 hp ht A ad h3
 by_cases ae:m<=L
 .have aa:p=m:=by have:=HM.o;omega
  have ac:(m:Int)<=(L:Int):=by omega
  subst aa
  clear HM
  go_enter Tryz.func177,Tryz.ntmps177
  go_wp2_with fail
  refine beginW (S:=λ _=>True) (t:=9) (by kernel_rfl) ?_
  refine tkW 0 (some 10) (.move (.tmp 0)) (Value.slice a L cap) ?hy trivial ?_
  case hy=>
   rintro o u w' _
   first|(go_simp;done)|(go_simp;omega)
  simp only[zw]
  refine tkW 1 (some 11) (.move (.tmp 1)) (Value.int .i64 (p:Int)) ?hy trivial ?_
  case hy=>
   rintro o u w' _
   first|(go_simp;done)|(go_simp;omega)
  simp only[zw]
  refine tkW 2 (some 12) (.slice 56 (.tmp 10) none (some (.tmp 11)) none) (sliced a 0 p cap 1) ?hy trivial ?_
  case hy=>
   rintro o u w' _
   unfold execOp
   simp only[u,Option.map_some,Option.map_none,Sem.run_bind]
   erw [U1.o w']
   rfl
  simp only[zw]
  refine tkW 4 (some 14) (.move (.tmp 0)) (Value.slice a L cap) ?hy trivial ?_
  case hy=>
   rintro o u w' _
   first|(go_simp;done)|(go_simp;omega)
  simp only[zw]
  refine tkW 5 (some 15) (.move (.tmp 1)) (Value.int .i64 (p:Int)) ?hy trivial ?_
  case hy=>
   rintro o u w' _
   first|(go_simp;done)|(go_simp;omega)
  simp only[zw]
  refine tkW 6 (some 16) (.slice 56 (.tmp 14) (some (.tmp 15)) none none) (sliced a p L cap 1) ?hy trivial ?_
  case hy=>
   rintro o u w' _
   unfold execOp
   simp only[u,Option.map_some,Option.map_none,Sem.run_bind]
   erw [U2.o w']
   rfl
  simp only[zw]
  refine rdW 3 (some 13) (.call { callee:=.value (.func 191),args:=#[.tmp 12],argTypes:=#[56] }) ?_
  rintro o K A u H E
  refine zg9 (enters_of Tryz.func191 (by kernel_rfl) rfl) u (vs:=#[sliced a 0 p cap 1]) (by kernel_rfl) (HC.o _ _ _ h0 (a6.o.below h0) HT.o.1 HT.o.2) ?_
  rintro e w2 ⟨⟨T,rfl,a3,a1⟩,a0⟩
  have O:=za0 (h0.trans (a0.mono (zn6 _)))
  have a7:=za0 a3
  have N2:=za0 a1
  clear a3 a1 a0
  refine⟨_,rfl,?_⟩
  rw[A]
  refine E _ _ (λ _=>trivial) ?_
  clear u A H E
  simp only[zw]
  refine rdW 7 (some 17) (.call { callee:=.value (.func 191),args:=#[.tmp 16],argTypes:=#[56] }) ?_
  rintro o K A u H E
  refine zg9 (enters_of Tryz.func191 (by kernel_rfl) rfl) u (vs:=#[sliced a p L cap 1]) (by kernel_rfl) (HC.o _ _ _ O.o (a5.o.below O.o) HD.o.1 HD.o.2) ?_
  rintro e w3 ⟨⟨v3,rfl,a4,Y⟩,Q⟩
  have B3:=za0 (O.o.trans (Q.mono O.o.size))
  have a8:=za0 a4
  have a9:=za0 (a7.o.below Q)
  have N3:Hid (∀j,v3.ownBlock=some j->w.heap.size<=j/\j<w3.heap.size):=λ j I=>⟨zn2 O.o.size (Y j I).1,(Y j I).2⟩
  have N4:Hid (∀j,T.ownBlock=some j->w.heap.size<=j/\j<w3.heap.size):=λ j I=>⟨(N2.o j I).1,zn1 (N2.o j I).2 Q.size⟩
  clear a4 Y Q
  refine⟨_,rfl,?_⟩
  rw[A]
  refine E _ _ (λ _=>trivial) ?_
  clear u A H E
  simp only[zw]
  refine rdW 8 (some 4) (.assign (.tmp 13)) ?_
  rintro o K A u H E
  refine stepY (v:=T) ?hy ?_
  case hy=>go_simp
  rw[A]
  refine E _ _ (λ _=>trivial) ?_
  clear u A H E
  simp only[zw]
  refine rdW 9 (some 5) (.assign (.tmp 17)) ?_
  rintro o K A u H E
  refine stepY (v:=v3) ?hy ?_
  case hy=>go_simp
  rw[A]
  refine E _ _ (λ e=>absurd rfl e) ?_
  clear u A H E
  simp only[zw]
  refine doneW (by kernel_rfl) ?_ _
  go_wp2_with fail
  go_ret2
  exact⟨⟨_,_,rfl,a9.o,a8.o,λ j I=>I.elim (N4.o j) (N3.o j)⟩,B3.o⟩
 .have aa:p=L:=by have:=HM.o;omega
  have ac:¬(m:Int)<=(L:Int):=by omega
  subst aa
  clear HM
  go_enter Tryz.func177,Tryz.ntmps177
  go_wp2_with fail
  refine beginW (S:=λ _=>True) (t:=9) (by kernel_rfl) ?_
  refine tkW 0 (some 10) (.move (.tmp 0)) (Value.slice a p cap) ?hy trivial ?_
  case hy=>
   rintro o u w' _
   first|(go_simp;done)|(go_simp;omega)
  simp only[zw]
  refine tkW 1 (some 11) (.move (.tmp 1)) (Value.int .i64 (p:Int)) ?hy trivial ?_
  case hy=>
   rintro o u w' _
   first|(go_simp;done)|(go_simp;omega)
  simp only[zw]
  refine tkW 2 (some 12) (.slice 56 (.tmp 10) none (some (.tmp 11)) none) (sliced a 0 p cap 1) ?hy trivial ?_
  case hy=>
   rintro o u w' _
   unfold execOp
   simp only[u,Option.map_some,Option.map_none,Sem.run_bind]
   erw [U1.o w']
   rfl
  simp only[zw]
  refine tkW 4 (some 14) (.move (.tmp 0)) (Value.slice a p cap) ?hy trivial ?_
  case hy=>
   rintro o u w' _
   first|(go_simp;done)|(go_simp;omega)
  simp only[zw]
  refine tkW 5 (some 15) (.move (.tmp 1)) (Value.int .i64 (p:Int)) ?hy trivial ?_
  case hy=>
   rintro o u w' _
   first|(go_simp;done)|(go_simp;omega)
  simp only[zw]
  refine tkW 6 (some 16) (.slice 56 (.tmp 14) (some (.tmp 15)) none none) (sliced a p p cap 1) ?hy trivial ?_
  case hy=>
   rintro o u w' _
   unfold execOp
   simp only[u,Option.map_some,Option.map_none,Sem.run_bind]
   erw [U2.o w']
   rfl
  simp only[zw]
  refine rdW 3 (some 13) (.call { callee:=.value (.func 191),args:=#[.tmp 12],argTypes:=#[56] }) ?_
  rintro o K A u H E
  refine zg9 (enters_of Tryz.func191 (by kernel_rfl) rfl) u (vs:=#[sliced a 0 p cap 1]) (by kernel_rfl) (HC.o _ _ _ h0 (a6.o.below h0) HT.o.1 HT.o.2) ?_
  rintro e w2 ⟨⟨T,rfl,a3,a1⟩,a0⟩
  have O:=za0 (h0.trans (a0.mono (zn6 _)))
  have a7:=za0 a3
  have N2:=za0 a1
  clear a3 a1 a0
  refine⟨_,rfl,?_⟩
  rw[A]
  refine E _ _ (λ _=>trivial) ?_
  clear u A H E
  simp only[zw]
  refine rdW 7 (some 17) (.call { callee:=.value (.func 191),args:=#[.tmp 16],argTypes:=#[56] }) ?_
  rintro o K A u H E
  refine zg9 (enters_of Tryz.func191 (by kernel_rfl) rfl) u (vs:=#[sliced a p p cap 1]) (by kernel_rfl) (HC.o _ _ _ O.o (a5.o.below O.o) HD.o.1 HD.o.2) ?_
  rintro e w3 ⟨⟨v3,rfl,a4,Y⟩,Q⟩
  have B3:=za0 (O.o.trans (Q.mono O.o.size))
  have a8:=za0 a4
  have a9:=za0 (a7.o.below Q)
  have N3:Hid (∀j,v3.ownBlock=some j->w.heap.size<=j/\j<w3.heap.size):=λ j I=>⟨zn2 O.o.size (Y j I).1,(Y j I).2⟩
  have N4:Hid (∀j,T.ownBlock=some j->w.heap.size<=j/\j<w3.heap.size):=λ j I=>⟨(N2.o j I).1,zn1 (N2.o j I).2 Q.size⟩
  clear a4 Y Q
  refine⟨_,rfl,?_⟩
  rw[A]
  refine E _ _ (λ _=>trivial) ?_
  clear u A H E
  simp only[zw]
  refine rdW 8 (some 4) (.assign (.tmp 13)) ?_
  rintro o K A u H E
  refine stepY (v:=T) ?hy ?_
  case hy=>go_simp
  rw[A]
  refine E _ _ (λ _=>trivial) ?_
  clear u A H E
  simp only[zw]
  refine rdW 9 (some 5) (.assign (.tmp 17)) ?_
  rintro o K A u H E
  refine stepY (v:=v3) ?hy ?_
  case hy=>go_simp
  rw[A]
  refine E _ _ (λ e=>absurd rfl e) ?_
  clear u A H E
  simp only[zw]
  refine doneW (by kernel_rfl) ?_ _
  go_wp2_with fail
  go_ret2
  exact⟨⟨_,_,rfl,a9.o,a8.o,λ j I=>I.elim (N4.o j) (N3.o j)⟩,B3.o⟩
section
variable {P:Program} {md:Region.Mode} {ops:Array Oper} {Q:Exit->Act->World->Prop} {S:World->Prop} {t fuel:Nat} {listed:Array Bool} {a:Act} {w:World}
def zcq9(i j:Nat)(d:Option Tmp)(x:Op)(u:Option Tmp)(H:Op)(hi:opIs ops i d x)(hj:opIs ops j u H)(hr:Region.ready md ops listed=[i,j])(h:StepW P md ops Q S t fuel listed a w i d x)(I:StepW P md ops Q S t fuel listed a w j u H):walkT P md ops Q S t (fuel+1) listed a w:=by
 refine⟨λ A=>(by rw[hr]at A;cases A),λ q E=>?_⟩
 rw[hr]at E
 have:q=i\/q=j:=by simpa using E
 rcases this with rfl|rfl
 .exact zck9 hi h
 .exact zck9 hj I
def zsl9(i j k:Nat)(d:Option Tmp)(x:Op)(u:Option Tmp)(I:Op)(A:Option Tmp)(K:Op)(hi:opIs ops i d x)(hj:opIs ops j u I)(Y:opIs ops k A K)(hr:Region.ready md ops listed=[i,j,k])(h:StepW P md ops Q S t fuel listed a w i d x)(O:StepW P md ops Q S t fuel listed a w j u I)(T:StepW P md ops Q S t fuel listed a w k A K):walkT P md ops Q S t (fuel+1) listed a w:=by
 refine⟨λ E=>(by rw[hr]at E;cases E),λ q H=>?_⟩
 rw[hr]at H
 have:q=i\/q=j\/q=k:=by simpa using H
 rcases this with rfl|rfl|rfl
 .exact zck9 hi h
 .exact zck9 hj O
 .exact zck9 Y T
end
def zka9{w w':World}{g:Nat}{x y:Value}(h:w.cell? ⟨g,0,none⟩=some x/\w.cell? ⟨g,1,none⟩=some y)(u:Below w.heap.size w w'):w'.cell? ⟨g,0,none⟩=some x/\w'.cell? ⟨g,1,none⟩=some y:=
 ⟨by rw[u.cell (p:=⟨g,0,none⟩) (ze0 w ⟨g,0,none⟩ h.1)];exact h.1,by rw[u.cell (p:=⟨g,1,none⟩) (ze0 w ⟨g,1,none⟩ h.2)];exact h.2⟩
def zah9(w:World)(x y:Value)(e:TypeId):(w.alloc (.cells #[x,y] e)).cell? ⟨w.heap.size,0,none⟩=some x/\(w.alloc (.cells #[x,y] e)).cell? ⟨w.heap.size,1,none⟩=some y:=by
 constructor
 .rw[cell_of_row _ w.heap.size 0 _ _ (0,0) (heap_alloc_new w _)];rfl
 .rw[cell_of_row _ w.heap.size 1 _ _ (0,0) (heap_alloc_new w _)];rfl
section
variable {o:Oper} {a:Act} {w:World} {K:Act->World->Prop} {Q:Exit->Act->World->Prop}
def zs9(x y:Operand)(I:o.op=Op.buildSlice 261 2 #[(0,x),(1,y)])(p q:Value)(T:a.eval x=p)(Y:a.eval y=q)(hp:p.cells=#[p])(hq:q.cells=#[q])
 (h:K (a.put o.dst (.slice (some ⟨w.heap.size,0,none⟩) 2 2)) (w.alloc (.cells #[p,q] 91))):Oper.wp Tryz.prog o a w K Q:=by
 have O:(Instr.buildSlice 261 2 #[(0,p),(1,q)]).run Tryz.prog w=.ok (.slice (some ⟨w.heap.size,0,none⟩) 2 2) (w.alloc (.cells #[p,q] 91)):=by
  obtain⟨i,H,hz,A,hb⟩:=info_parts (P:=Tryz.prog) (e:=91) (z:=.slice none 0 0) (size:=1) (bytes:=24) (by kernel_rfl)
  refine run_buildSlice w _ 91 2 _ _ i _ Tryz.underlying261 H hz (by rw[A];decide) (by rw[A];decide) ?_
  rw[A]
  exact Go.Great.fill_flat [p,q] _ (λ u E=>by simp at E;rcases E with rfl|rfl<;>assumption) (by simp)
 unfold Oper.wp
 simp[execOp,I,T,Y,O,Result.andThen]
 exact h
def zar9(x y:Operand)(I:o.op=Op.buildSlice 263 2 #[(0,x),(1,y)])(p q:Value)(T:a.eval x=p)(Y:a.eval y=q)(hp:p.cells=#[p])(hq:q.cells=#[q])
 (h:K (a.put o.dst (.slice (some ⟨w.heap.size,0,none⟩) 2 2)) (w.alloc (.cells #[p,q] 56))):Oper.wp Tryz.prog o a w K Q:=by
 have O:(Instr.buildSlice 263 2 #[(0,p),(1,q)]).run Tryz.prog w=.ok (.slice (some ⟨w.heap.size,0,none⟩) 2 2) (w.alloc (.cells #[p,q] 56)):=by
  obtain⟨i,H,hz,A,hb⟩:=info_parts (P:=Tryz.prog) (e:=56) (z:=.slice none 0 0) (size:=1) (bytes:=24) (by kernel_rfl)
  refine run_buildSlice w _ 56 2 _ _ i _ Tryz.underlying263 H hz (by rw[A];decide) (by rw[A];decide) ?_
  rw[A]
  exact Go.Great.fill_flat [p,q] _ (λ u E=>by simp at E;rcases E with rfl|rfl<;>assumption) (by simp)
 unfold Oper.wp
 simp[execOp,I,T,Y,O,Result.andThen]
 exact h
def zau9{x y:Operand}{b:Nat}{lf a1:Bool}{A E H:Option Addr}{T Y l3 c1 I O:Nat}{u1 u2 u3:Value}(ho:o.op=.store 93 x y)(hx:a.eval x=.pointer (some ⟨b,0,none⟩))(hy:a.eval y=nod lf (.slice A T c1) (.slice E Y I) (.slice H l3 O))(u:Nb w 93 b a1 u1 u2 u3)
 (h:K (a.put o.dst undef) ((((w.setCell ⟨b,0,none⟩ (.bool lf)).setCell ⟨b,1,none⟩ (.slice A T c1)).setCell ⟨b,2,none⟩ (.slice E Y I)).setCell ⟨b,3,none⟩ (.slice H l3 O))):Oper.wp Tryz.prog o a w K Q:=by
 have a0:(Instr.storeAt 93 (.pointer (some ⟨b,0,none⟩)) (nod lf (.slice A T c1) (.slice E Y I) (.slice H l3 O))).run Tryz.prog w=.ok () ((((w.setCell ⟨b,0,none⟩ (.bool lf)).setCell ⟨b,1,none⟩ (.slice A T c1)).setCell ⟨b,2,none⟩ (.slice E Y I)).setCell ⟨b,3,none⟩ (.slice H l3 O)):=by
  have p0:=u.c0
  have p1:=u.c1
  have p2:=u.c2
  have p3:=u.c3
  have f0:=u.fz 0
  have f1:=u.fz 1
  have f2:=u.fz 2
  have f3:=u.fz 3
  unfold nod
  go_simp
 unfold Oper.wp execOp
 simp only[ho,hx,hy,Sem.run_bind,Sem.run_pure,Result.andThen_ok,a0]
 exact h
end
def zre9{P:Program}{md:Region.Mode}{ops:Array Oper}{Q:Exit->Act->World->Prop}{S:World->Prop}{t fuel:Nat}{listed:Array Bool}{a:Act}{w:World}(h:∀G:Nat->Array Bool->Act->World->Prop,Hid (∀f l a w,walkT P md ops Q S t f l a w↔G f l a w)->G fuel listed a w):walkT P md ops Q S t fuel listed a w:=h _ (λ _ _ _ _=>Iff.rfl)
def Js(b:Nat)(lf mf:Bool)(A1 A2 A3 B1 B2 B3:Value)(X:World):Prop:=Nb X 93 b lf A1 A2 A3/\Nb X 93 (b+1) mf B1 B2 B3/\Nb X 93 (b+2) false (.slice none 0 0) (.slice none 0 0) (.slice none 0 0)
def Js.below{b:Nat}{Q T:Bool}{A E H I K O:Value}{X Y:World}(h:Js b Q T A E H I K O X)(u:Below X.heap.size X Y):Js b Q T A E H I K O Y:=⟨h.1.below u,h.2.1.below u,h.2.2.below u⟩
def Je(X:World)(g:Nat)(A B:Value):Prop:=X.cell? ⟨g,0,none⟩=some A/\X.cell? ⟨g,1,none⟩=some B
def Je.below{X Y:World}{g:Nat}{A B:Value}(h:Je X g A B)(u:Below X.heap.size X Y):Je Y g A B:=zka9 h u
def Jv(W X:World)(v:Value)(xs:List Value):Prop:=RdV X v xs/\∀q,v.ownBlock=some q->W.heap.size<=q/\q<X.heap.size
def Jv.below{W X Y:World}{v:Value}{xs:List Value}(h:Jv W X v xs)(u:Below X.heap.size X Y):Jv W Y v xs:=⟨h.1.below u,λ q A=>⟨(h.2 q A).1,zn1 (h.2 q A).2 u.size⟩⟩
def Jv.fits{W X Y w:World}{v:Value}{xs:List Value}(h:Jv W X v xs)(A:w.heap.size<=W.heap.size)(E:X.heap.size<=Y.heap.size):∀j,v.ownBlock=some j->w.heap.size<=j/\j<Y.heap.size:=λ j u=>⟨zn2 A (h.2 j u).1,zn1 (h.2 j u).2 E⟩
def jt(b:Nat)(lf mf:Bool)(A1 A2 A3 B1 B2 B3 x0 y0 x1 y1 x2 y2:Value):Act:={ tmps:=#[.agg #[.bool lf,A1,A2,A3],.agg #[.bool mf,B1,B2,B3],.pointer (some ⟨b,0,none⟩),.pointer (some ⟨b+1,0,none⟩),.pointer (some ⟨b+2,0,none⟩),.pointer (some ⟨b,0,none⟩),.bool lf,.pointer (some ⟨b,1,none⟩),A1,.pointer (some ⟨b+1,1,none⟩),B1,x0,y0,.pointer (some ⟨b,2,none⟩),A2,.pointer (some ⟨b+1,2,none⟩),B2,x1,y1,.pointer (some ⟨b,3,none⟩),A3,.pointer (some ⟨b+1,3,none⟩),B3,x2,y2,undef],defers:=[] }
def joinN(n m:Nd):Nd:={ lf:=n.lf,ks:=n.ks++m.ks,vs:=n.vs++m.vs,kd:=n.kd++m.kd }
def zfo9(n m:Nd)(u1 u2 u3 v1 v2 v3:Value)(w:World)(hn:Nn w n u1 u2 u3)(hm:Nn w m v1 v2 v3)
 (z1:(n.ks.length+m.ks.length)*16<=140737488355328) (z2:(n.vs.length+m.vs.length)*16<=140737488355328) (z3:(n.kd.length+m.kd.length)*8<=140737488355328):
 Calls Tryz.prog 174 #[nod n.lf u1 u2 u3,nod m.lf v1 v2 v3] w λ e w'=>(∃x1 x2 x3,e=.returned (nod n.lf x1 x2 x3)/\Nn w' (joinN n m) x1 x2 x3/\(∀j,x1.ownBlock=some j->w.heap.size<=j/\j<w'.heap.size)/\(∀j,x2.ownBlock=some j->w.heap.size<=j/\j<w'.heap.size)/\(∀j,x3.ownBlock=some j->w.heap.size<=j/\j<w'.heap.size))/\Below w.heap.size w w':=by
 obtain⟨a1,c1,a2,c2,T,c3,rfl,rfl,rfl,_,_,_,_⟩:=hn.o
 obtain⟨d1,f1,d2,f2,d3,f3,rfl,rfl,rfl,_,_,_,_⟩:=hm.o
 have HM:=za0 hm
 have HN:=za0 hn
 have aa:=za0 z1
 have ab:=za0 z2
 have ac:=za0 z3
 obtain⟨L1,aj⟩:=exH n.ks.length
 obtain⟨L2,ak⟩:=exH n.vs.length
 obtain⟨O,al⟩:=exH n.kd.length
 obtain⟨M1,am⟩:=exH m.ks.length
 obtain⟨M2,an⟩:=exH m.vs.length
 obtain⟨Q,ao⟩:=exH m.kd.length
 rw[aj.o,ak.o,al.o]at HN
 rw[am.o,an.o,ao.o]at HM
 rw[aj.o,ak.o,al.o,am.o,an.o,ao.o]
 obtain⟨lf,b4⟩:=exH n.lf
 obtain⟨mf,b5⟩:=exH m.lf
 rw[b4.o,b5.o]
 obtain⟨W1,a6⟩:=exN (w.alloc (.cells #[.bool lf,.slice a1 L1 c1,.slice a2 L2 c2,.slice T O c3] 93))
 obtain⟨W2,a7⟩:=exN (W1.alloc (.cells #[.bool mf,.slice d1 M1 f1,.slice d2 M2 f2,.slice d3 Q f3] 93))
 obtain⟨I,a8⟩:=exN (W2.alloc (.cells #[.bool false,.slice none 0 0,.slice none 0 0,.slice none 0 0] 93))
 have s1:W1.heap.size=w.heap.size+1:=by rw[<-a6];simp
 have s2:W2.heap.size=w.heap.size+2:=by rw[<-a7];simp[s1]
 have s3:Hid (I.heap.size=w.heap.size+3):=by rw[<-a8];simp[s2,Hid]
 have b1:Below w.heap.size w W1:=by rw[<-a6];exact za9 _ _
 have b2:Below W1.heap.size W1 W2:=by rw[<-a7];exact za9 _ _
 have b3:Below W2.heap.size W2 I:=by rw[<-a8];exact za9 _ _
 have a0:Hid (Below w.heap.size w I):=(b1.trans (b2.mono b1.size)).trans (b3.mono (b1.trans (b2.mono b1.size)).size)
 have X1:Nb W1 93 w.heap.size lf (.slice a1 L1 c1) (.slice a2 L2 c2) (.slice T O c3):=by rw[<-a6];exact nb_new _ _ _ _ _ _
 have Y2:Nb W2 93 (w.heap.size+1) mf (.slice d1 M1 f1) (.slice d2 M2 f2) (.slice d3 Q f3):=by rw[<-a7,<-s1];exact nb_new _ _ _ _ _ _
 have Z3:Nb I 93 (w.heap.size+2) false (.slice none 0 0) (.slice none 0 0) (.slice none 0 0):=by rw[<-a8,<-s2];exact nb_new _ _ _ _ _ _
 have SS:Hid (Nb I 93 w.heap.size lf (.slice a1 L1 c1) (.slice a2 L2 c2) (.slice T O c3)/\Nb I 93 (w.heap.size+1) mf (.slice d1 M1 f1) (.slice d2 M2 f2) (.slice d3 Q f3)/\Nb I 93 (w.heap.size+2) false (.slice none 0 0) (.slice none 0 0) (.slice none 0 0)):=⟨(X1.below b2).below b3,Y2.below b3,Z3⟩
 have a3:Hid (∀(g:Nat)(W:World),Below I.heap.size I W->(W.cell? ⟨g,0,none⟩=some (.slice a1 L1 c1)/\W.cell? ⟨g,1,none⟩=some (.slice d1 M1 f1))->Calls Tryz.prog 188 #[.slice (some ⟨g,0,none⟩) 2 2] W λ e w'=>(∃v',e=.returned v'/\OwnsV 9 w' v' (strs n.ks++strs m.ks)/\∀j,v'.ownBlock=some j->W.heap.size<=j)/\Below W.heap.size W w'):=λ g W hb hc=>
  zel9 g _ _ _ _ W ((HN.o.below a0.o).below hb).k ((HM.o.below a0.o).below hb).k (zaw9 _) (zaw9 _) (by rw[zi9,zi9];exact aa.o) hc.1 hc.2
 have a9:Hid (∀(g:Nat)(W:World),Below I.heap.size I W->(W.cell? ⟨g,0,none⟩=some (.slice a2 L2 c2)/\W.cell? ⟨g,1,none⟩=some (.slice d2 M2 f2))->Calls Tryz.prog 188 #[.slice (some ⟨g,0,none⟩) 2 2] W λ e w'=>(∃v',e=.returned v'/\OwnsV 9 w' v' (strs n.vs++strs m.vs)/\∀j,v'.ownBlock=some j->W.heap.size<=j)/\Below W.heap.size W w'):=λ g W hb hc=>
  zel9 g _ _ _ _ W ((HN.o.below a0.o).below hb).v ((HM.o.below a0.o).below hb).v (zaw9 _) (zaw9 _) (by rw[zi9,zi9];exact ab.o) hc.1 hc.2
 have aq:Hid (∀(g:Nat)(W:World),Below I.heap.size I W->(W.cell? ⟨g,0,none⟩=some (.slice T O c3)/\W.cell? ⟨g,1,none⟩=some (.slice d3 Q f3))->Calls Tryz.prog 189 #[.slice (some ⟨g,0,none⟩) 2 2] W λ e w'=>(∃v',e=.returned v'/\OwnsV 3 w' v' (nums n.kd++nums m.kd)/\∀j,v'.ownBlock=some j->W.heap.size<=j)/\Below W.heap.size W w'):=λ g W hb hc=>
  zkc9 g _ _ _ _ W ((HN.o.below a0.o).below hb).d ((HM.o.below a0.o).below hb).d (zcg9 _) (zcg9 _) (by rw[ze9,ze9];exact ac.o) hc.1 hc.2
 clear hn hm b1 b2 b3 X1 Y2 Z3 z1 z2 z3 HN HM aa ab ac
 unfold nod
 go_enter Tryz.func174,Tryz.ntmps174
 go_wp2_with fail
 refine beginW (S:=Js w.heap.size lf mf (.slice a1 L1 c1) (.slice a2 L2 c2) (.slice T O c3) (.slice d1 M1 f1) (.slice d2 M2 f2) (.slice d3 Q f3)) (t:=21) (by kernel_rfl) ?_
 have B0:Hid (Below I.heap.size I I.drew):=(Below.refl _ _).drew
 have S0:Hid (Js w.heap.size lf mf (.slice a1 L1 c1) (.slice a2 L2 c2) (.slice T O c3) (.slice d1 M1 f1) (.slice d2 M2 f2) (.slice d3 Q f3) I.drew):=⟨SS.o.1.below B0.o,SS.o.2.1.below B0.o,SS.o.2.2.below B0.o⟩
 obtain⟨X0,b0⟩:=exN I.drew
 rw[b0]at B0 S0 |-
 refine zre9 λ G HG=>?_
 have ar:Hid (∀(f:Nat)(l:Array Bool)(X:World)(H:Nat)(g1:Nat)(g2:Nat)(v0:Value) (v1:Value) (v2:Value),f=2->l=#[true,true,true,true,true,true,true,true,true,true,true,true,true,true,true,true,true,true,true,true,false,false]->Below I.heap.size I X->Js w.heap.size lf mf (.slice a1 L1 c1) (.slice a2 L2 c2) (.slice T O c3) (.slice d1 M1 f1) (.slice d2 M2 f2) (.slice d3 Q f3) X->Jv I X v0 (strs n.ks++strs m.ks)->Jv I X v1 (strs n.vs++strs m.vs)->Jv I X v2 (nums n.kd++nums m.kd)->G f l (jt w.heap.size lf mf (.slice a1 L1 c1) (.slice a2 L2 c2) (.slice T O c3) (.slice d1 M1 f1) (.slice d2 M2 f2) (.slice d3 Q f3) (.slice (some ⟨H,0,none⟩) 2 2) v0 (.slice (some ⟨g1,0,none⟩) 2 2) v1 (.slice (some ⟨g2,0,none⟩) 2 2) v2) X):=by
  rintro f l X H g1 g2 v0 v1 v2 rfl rfl B S r0 r1 r2
  have B:=za0 B
  have S:=za0 S
  have r0:=za0 r0
  have r1:=za0 r1
  have r2:=za0 r2
  refine(HG.o _ _ _ _).1 ?_
  unfold jt
  obtain⟨x0,y0,e0⟩:=r0.o.1.long
  obtain⟨x1,y1,e1⟩:=r1.o.1.long
  obtain⟨x2,y2,e2⟩:=r2.o.1.long
  obtain⟨q0,b6⟩:=exH ((strs n.ks++strs m.ks).length)
  obtain⟨q1,b7⟩:=exH ((strs n.vs++strs m.vs).length)
  obtain⟨q2,b8⟩:=exH ((nums n.kd++nums m.kd).length)
  rw[b6.o]at e0
  rw[b7.o]at e1
  rw[b8.o]at e2
  subst e0 e1 e2
  refine rdW 20 (some 25) (.build 93 #[(0,.tmp 6),(1,.tmp 12),(2,.tmp 18),(3,.tmp 24)]) ?_
  rintro o K hd E hg hK
  refine stepY (v:=nod lf (.slice x0 q0 y0) (.slice x1 q1 y1) (.slice x2 q2 y2)) ?hy ?_
  case hy=>unfold nod;go_simp
  rw[hd]
  refine hK _ _ (λ _=>S.o) ?_
  clear E hd hg hK
  simp only[zw]
  refine rdW 21 none (.store 93 (.tmp 4) (.tmp 25)) ?_
  rintro o K hd E hg hK
  refine zau9 E rfl rfl S.o.2.2 ?_
  rw[hd]
  refine hK _ _ (λ e=>absurd rfl e) ?_
  refine doneW (by kernel_rfl) ?_ _
  clear E hd hg hK
  simp only[Act.put]
  have YA:=S.o.2.2.all lf (.slice x0 q0 y0) (.slice x1 q1 y1) (.slice x2 q2 y2)
  have tA:=zl9 X (w.heap.size+2) (.bool lf) (.slice x0 q0 y0) (.slice x1 q1 y1) (.slice x2 q2 y2)
  obtain⟨XA,ap⟩:=exH ((((X.setCell ⟨w.heap.size+2,0,none⟩ (.bool lf)).setCell ⟨w.heap.size+2,1,none⟩ (.slice x0 q0 y0)).setCell ⟨w.heap.size+2,2,none⟩ (.slice x1 q1 y1)).setCell ⟨w.heap.size+2,3,none⟩ (.slice x2 q2 y2))
  rw[ap.o]at YA tA |-
  have LA:=za0 YA.load
  have NA:Hid (Nn XA (joinN n m) (.slice x0 q0 y0) (.slice x1 q1 y1) (.slice x2 q2 y2)):=by
   refine⟨?_,?_,?_⟩
   .have:=r0.o.1.tch tA (λ j hj e=>by have:=(r0.o.2 j hj).1;have:=s3.o;omega)
    simpa[joinN,strs]using this
   .have:=r1.o.1.tch tA (λ j hj e=>by have:=(r1.o.2 j hj).1;have:=s3.o;omega)
    simpa[joinN,strs]using this
   .have:=r2.o.1.tch tA (λ j hj e=>by have:=(r2.o.2 j hj).1;have:=s3.o;omega)
    simpa[joinN,nums]using this
  have BA:Hid (Below w.heap.size w XA):=a0.o.trans ((B.o.mono a0.o.size).trans (tA.below (zn2 a0.o.size B.o.size) (λ j e=>by omega)))
  have UA:Hid (X.heap.size<=XA.heap.size):=tA.size
  clear YA tA ap HG
  go_wp2_with fail
  refine bodyPost_ret (v:=nod lf (.slice x0 q0 y0) (.slice x1 q1 y1) (.slice x2 q2 y2)) (zba9 (p:=4) (ty:=93) rfl _ _ _ (w.heap.size+2) _ rfl LA.o) rfl ?_
  exact⟨⟨_,_,_,rfl,NA.o,r0.o.fits a0.o.size UA.o,r1.o.fits a0.o.size UA.o,r2.o.fits a0.o.size UA.o⟩,BA.o⟩
 have ad:Hid (∀(f:Nat)(l:Array Bool)(X:World)(H:Nat)(g1:Nat)(g2:Nat)(v0:Value) (v1:Value),f=3->l=#[true,true,true,true,true,true,true,true,true,true,true,true,true,true,true,true,true,true,true,false,false,false]->Below I.heap.size I X->Js w.heap.size lf mf (.slice a1 L1 c1) (.slice a2 L2 c2) (.slice T O c3) (.slice d1 M1 f1) (.slice d2 M2 f2) (.slice d3 Q f3) X->Je X g2 (.slice T O c3) (.slice d3 Q f3)->Jv I X v0 (strs n.ks++strs m.ks)->Jv I X v1 (strs n.vs++strs m.vs)->G f l (jt w.heap.size lf mf (.slice a1 L1 c1) (.slice a2 L2 c2) (.slice T O c3) (.slice d1 M1 f1) (.slice d2 M2 f2) (.slice d3 Q f3) (.slice (some ⟨H,0,none⟩) 2 2) v0 (.slice (some ⟨g1,0,none⟩) 2 2) v1 (.slice (some ⟨g2,0,none⟩) 2 2) undef) X):=by
  rintro f l X H g1 g2 v0 v1 rfl rfl B S e2 r0 r1
  have B:=za0 B
  have S:=za0 S
  have e2:=za0 e2
  have r0:=za0 r0
  have r1:=za0 r1
  refine(HG.o _ _ _ _).1 ?_
  unfold jt
  refine rdW 19 (some 24) (.call { callee:=.value (.func 189),args:=#[.tmp 23],argTypes:=#[263] }) ?_
  rintro o K hd E-hK
  refine zg9 (enters_of Tryz.func189 (by kernel_rfl) rfl) E (vs:=#[.slice (some ⟨g2,0,none⟩) 2 2]) (by kernel_rfl) (aq.o _ _ B.o e2.o) ?_
  rintro e Y ⟨⟨v2,rfl,ro,ng⟩,u⟩
  refine⟨_,rfl,?_⟩
  rw[hd]
  refine hK _ _ (λ _=>S.o.below u) ?_
  simp only[zw]
  exact(HG.o _ _ _ _).2 (ar.o _ _ Y H g1 g2 v0 v1 v2 rfl (by kernel_rfl) (B.o.trans (u.mono B.o.size)) (S.o.below u) (r0.o.below u) (r1.o.below u) ⟨ro.rd,λ q hq=>⟨zn2 B.o.size (ng q hq),ro.lt q hq⟩⟩)
 have a5:Hid (∀(f:Nat)(l:Array Bool)(X:World)(H:Nat)(g1:Nat)(g2:Nat)(v0:Value),f=4->l=#[true,true,true,true,true,true,true,true,true,true,true,true,true,false,true,true,true,true,true,false,false,false]->Below I.heap.size I X->Js w.heap.size lf mf (.slice a1 L1 c1) (.slice a2 L2 c2) (.slice T O c3) (.slice d1 M1 f1) (.slice d2 M2 f2) (.slice d3 Q f3) X->Je X g1 (.slice a2 L2 c2) (.slice d2 M2 f2)->Je X g2 (.slice T O c3) (.slice d3 Q f3)->Jv I X v0 (strs n.ks++strs m.ks)->G f l (jt w.heap.size lf mf (.slice a1 L1 c1) (.slice a2 L2 c2) (.slice T O c3) (.slice d1 M1 f1) (.slice d2 M2 f2) (.slice d3 Q f3) (.slice (some ⟨H,0,none⟩) 2 2) v0 (.slice (some ⟨g1,0,none⟩) 2 2) undef (.slice (some ⟨g2,0,none⟩) 2 2) undef) X):=by
  rintro f l X H g1 g2 v0 rfl rfl B S e1 e2 r0
  have B:=za0 B
  have S:=za0 S
  have e1:=za0 e1
  have e2:=za0 e2
  have r0:=za0 r0
  refine(HG.o _ _ _ _).1 ?_
  unfold jt
  refine rdW 13 (some 18) (.call { callee:=.value (.func 188),args:=#[.tmp 17],argTypes:=#[261] }) ?_
  rintro o K hd E-hK
  refine zg9 (enters_of Tryz.func188 (by kernel_rfl) rfl) E (vs:=#[.slice (some ⟨g1,0,none⟩) 2 2]) (by kernel_rfl) (a9.o _ _ B.o e1.o) ?_
  rintro e Y ⟨⟨v1,rfl,ro,ng⟩,u⟩
  refine⟨_,rfl,?_⟩
  rw[hd]
  refine hK _ _ (λ _=>S.o.below u) ?_
  simp only[zw]
  exact(HG.o _ _ _ _).2 (ad.o _ _ Y H g1 g2 v0 v1 rfl (by kernel_rfl) (B.o.trans (u.mono B.o.size)) (S.o.below u) (e2.o.below u) (r0.o.below u) ⟨ro.rd,λ q hq=>⟨zn2 B.o.size (ng q hq),ro.lt q hq⟩⟩)
 have au:Hid (∀(f:Nat)(l:Array Bool)(X:World)(H:Nat)(g1:Nat)(v0:Value)(v1:Value),f=4->l=#[true,true,true,true,true,true,true,true,true,true,true,true,true,true,true,true,true,true,false,false,false,false]->Below I.heap.size I X->Js w.heap.size lf mf (.slice a1 L1 c1) (.slice a2 L2 c2) (.slice T O c3) (.slice d1 M1 f1) (.slice d2 M2 f2) (.slice d3 Q f3) X->Jv I X v0 (strs n.ks++strs m.ks)->Jv I X v1 (strs n.vs++strs m.vs)->G f l (jt w.heap.size lf mf (.slice a1 L1 c1) (.slice a2 L2 c2) (.slice T O c3) (.slice d1 M1 f1) (.slice d2 M2 f2) (.slice d3 Q f3) (.slice (some ⟨H,0,none⟩) 2 2) v0 (.slice (some ⟨g1,0,none⟩) 2 2) v1 undef undef) X):=by
  rintro f l X H g1 v0 v1 rfl rfl B S r0 r1
  have B:=za0 B
  have S:=za0 S
  have r0:=za0 r0
  have r1:=za0 r1
  refine(HG.o _ _ _ _).1 ?_
  unfold jt
  refine rdW 18 (some 23) (.buildSlice 263 2 #[(0,.tmp 20),(1,.tmp 22)]) ?_
  rintro o K hd E-hK
  refine zar9 (.tmp 20) (.tmp 22) E (.slice T O c3) (.slice d3 Q f3) rfl rfl rfl rfl ?_
  rw[hd]
  obtain⟨g2,hg⟩:=exN X.heap.size
  obtain⟨Y,A⟩:=exN (X.alloc (.cells #[.slice T O c3,.slice d3 Q f3] 56))
  have u:Below X.heap.size X Y:=by rw[<-A];exact za9 _ _
  rw[A,hg]
  refine hK _ _ (λ _=>S.o.below u) ?_
  simp only[zw]
  exact(HG.o _ _ _ _).2 (ad.o _ _ Y H g1 g2 v0 v1 rfl (by kernel_rfl) (B.o.trans (u.mono B.o.size)) (S.o.below u) (by rw[<-A,<-hg];exact zah9 _ _ _ _) (r0.o.below u) (r1.o.below u))
 have a4:Hid (∀(f:Nat)(l:Array Bool)(X:World)(H:Nat)(g1:Nat)(g2:Nat),f=5->l=#[true,true,true,true,true,true,true,false,true,true,true,true,true,false,true,true,true,true,true,false,false,false]->Below I.heap.size I X->Js w.heap.size lf mf (.slice a1 L1 c1) (.slice a2 L2 c2) (.slice T O c3) (.slice d1 M1 f1) (.slice d2 M2 f2) (.slice d3 Q f3) X->Je X H (.slice a1 L1 c1) (.slice d1 M1 f1)->Je X g1 (.slice a2 L2 c2) (.slice d2 M2 f2)->Je X g2 (.slice T O c3) (.slice d3 Q f3)->G f l (jt w.heap.size lf mf (.slice a1 L1 c1) (.slice a2 L2 c2) (.slice T O c3) (.slice d1 M1 f1) (.slice d2 M2 f2) (.slice d3 Q f3) (.slice (some ⟨H,0,none⟩) 2 2) undef (.slice (some ⟨g1,0,none⟩) 2 2) undef (.slice (some ⟨g2,0,none⟩) 2 2) undef) X):=by
  rintro f l X H g1 g2 rfl rfl B S e0 e1 e2
  have B:=za0 B
  have S:=za0 S
  have e0:=za0 e0
  have e1:=za0 e1
  have e2:=za0 e2
  refine(HG.o _ _ _ _).1 ?_
  unfold jt
  refine rdW 7 (some 12) (.call { callee:=.value (.func 188),args:=#[.tmp 11],argTypes:=#[261] }) ?_
  rintro o K hd E-hK
  refine zg9 (enters_of Tryz.func188 (by kernel_rfl) rfl) E (vs:=#[.slice (some ⟨H,0,none⟩) 2 2]) (by kernel_rfl) (a3.o _ _ B.o e0.o) ?_
  rintro e Y ⟨⟨v0,rfl,ro,ng⟩,u⟩
  refine⟨_,rfl,?_⟩
  rw[hd]
  refine hK _ _ (λ _=>S.o.below u) ?_
  simp only[zw]
  exact(HG.o _ _ _ _).2 (a5.o _ _ Y H g1 g2 v0 rfl (by kernel_rfl) (B.o.trans (u.mono B.o.size)) (S.o.below u) (e1.o.below u) (e2.o.below u) ⟨ro.rd,λ q hq=>⟨zn2 B.o.size (ng q hq),ro.lt q hq⟩⟩)
 have af:Hid (∀(f:Nat)(l:Array Bool)(X:World)(H:Nat)(g1:Nat)(v0:Value),f=5->l=#[true,true,true,true,true,true,true,true,true,true,true,true,true,false,true,true,true,true,false,false,false,false]->Below I.heap.size I X->Js w.heap.size lf mf (.slice a1 L1 c1) (.slice a2 L2 c2) (.slice T O c3) (.slice d1 M1 f1) (.slice d2 M2 f2) (.slice d3 Q f3) X->Je X g1 (.slice a2 L2 c2) (.slice d2 M2 f2)->Jv I X v0 (strs n.ks++strs m.ks)->G f l (jt w.heap.size lf mf (.slice a1 L1 c1) (.slice a2 L2 c2) (.slice T O c3) (.slice d1 M1 f1) (.slice d2 M2 f2) (.slice d3 Q f3) (.slice (some ⟨H,0,none⟩) 2 2) v0 (.slice (some ⟨g1,0,none⟩) 2 2) undef undef undef) X):=by
  rintro f l X H g1 v0 rfl rfl B S e1 r0
  have B:=za0 B
  have S:=za0 S
  have e1:=za0 e1
  have r0:=za0 r0
  refine(HG.o _ _ _ _).1 ?_
  unfold jt
  refine zcq9 13 18 (some 18) (.call { callee:=.value (.func 188),args:=#[.tmp 17],argTypes:=#[261] }) (some 23) (.buildSlice 263 2 #[(0,.tmp 20),(1,.tmp 22)]) rfl rfl (by kernel_rfl) ?_ ?_
  .rintro o K hd E-hK
   refine zg9 (enters_of Tryz.func188 (by kernel_rfl) rfl) E (vs:=#[.slice (some ⟨g1,0,none⟩) 2 2]) (by kernel_rfl) (a9.o _ _ B.o e1.o) ?_
   rintro e Y ⟨⟨v1,rfl,ro,ng⟩,u⟩
   refine⟨_,rfl,?_⟩
   rw[hd]
   refine hK _ _ (λ _=>S.o.below u) ?_
   simp only[zw]
   exact(HG.o _ _ _ _).2 (au.o _ _ Y H g1 v0 v1 rfl (by kernel_rfl) (B.o.trans (u.mono B.o.size)) (S.o.below u) (r0.o.below u) ⟨ro.rd,λ q hq=>⟨zn2 B.o.size (ng q hq),ro.lt q hq⟩⟩)
  .rintro o K hd E-hK
   refine zar9 (.tmp 20) (.tmp 22) E (.slice T O c3) (.slice d3 Q f3) rfl rfl rfl rfl ?_
   rw[hd]
   obtain⟨g2,hg⟩:=exN X.heap.size
   obtain⟨Y,A⟩:=exN (X.alloc (.cells #[.slice T O c3,.slice d3 Q f3] 56))
   have u:Below X.heap.size X Y:=by rw[<-A];exact za9 _ _
   rw[A,hg]
   refine hK _ _ (λ _=>S.o.below u) ?_
   simp only[zw]
   exact(HG.o _ _ _ _).2 (a5.o _ _ Y H g1 g2 v0 rfl (by kernel_rfl) (B.o.trans (u.mono B.o.size)) (S.o.below u) (e1.o.below u) (by rw[<-A,<-hg];exact zah9 _ _ _ _) (r0.o.below u))
 have ah:Hid (∀(f:Nat)(l:Array Bool)(X:World)(H:Nat)(g2:Nat)(v0:Value),f=5->l=#[true,true,true,true,true,true,true,true,true,true,true,true,false,false,true,true,true,true,true,false,false,false]->Below I.heap.size I X->Js w.heap.size lf mf (.slice a1 L1 c1) (.slice a2 L2 c2) (.slice T O c3) (.slice d1 M1 f1) (.slice d2 M2 f2) (.slice d3 Q f3) X->Je X g2 (.slice T O c3) (.slice d3 Q f3)->Jv I X v0 (strs n.ks++strs m.ks)->G f l (jt w.heap.size lf mf (.slice a1 L1 c1) (.slice a2 L2 c2) (.slice T O c3) (.slice d1 M1 f1) (.slice d2 M2 f2) (.slice d3 Q f3) (.slice (some ⟨H,0,none⟩) 2 2) v0 undef undef (.slice (some ⟨g2,0,none⟩) 2 2) undef) X):=by
  rintro f l X H g2 v0 rfl rfl B S e2 r0
  have B:=za0 B
  have S:=za0 S
  have e2:=za0 e2
  have r0:=za0 r0
  refine(HG.o _ _ _ _).1 ?_
  unfold jt
  refine rdW 12 (some 17) (.buildSlice 261 2 #[(0,.tmp 14),(1,.tmp 16)]) ?_
  rintro o K hd E-hK
  refine zs9 (.tmp 14) (.tmp 16) E (.slice a2 L2 c2) (.slice d2 M2 f2) rfl rfl rfl rfl ?_
  rw[hd]
  obtain⟨g1,hg⟩:=exN X.heap.size
  obtain⟨Y,A⟩:=exN (X.alloc (.cells #[.slice a2 L2 c2,.slice d2 M2 f2] 91))
  have u:Below X.heap.size X Y:=by rw[<-A];exact za9 _ _
  rw[A,hg]
  refine hK _ _ (λ _=>S.o.below u) ?_
  simp only[zw]
  exact(HG.o _ _ _ _).2 (a5.o _ _ Y H g1 g2 v0 rfl (by kernel_rfl) (B.o.trans (u.mono B.o.size)) (S.o.below u) (by rw[<-A,<-hg];exact zah9 _ _ _ _) (e2.o.below u) (r0.o.below u))
 have ae:Hid (∀(f:Nat)(l:Array Bool)(X:World)(H:Nat)(g1:Nat),f=6->l=#[true,true,true,true,true,true,true,false,true,true,true,true,true,false,true,true,true,true,false,false,false,false]->Below I.heap.size I X->Js w.heap.size lf mf (.slice a1 L1 c1) (.slice a2 L2 c2) (.slice T O c3) (.slice d1 M1 f1) (.slice d2 M2 f2) (.slice d3 Q f3) X->Je X H (.slice a1 L1 c1) (.slice d1 M1 f1)->Je X g1 (.slice a2 L2 c2) (.slice d2 M2 f2)->G f l (jt w.heap.size lf mf (.slice a1 L1 c1) (.slice a2 L2 c2) (.slice T O c3) (.slice d1 M1 f1) (.slice d2 M2 f2) (.slice d3 Q f3) (.slice (some ⟨H,0,none⟩) 2 2) undef (.slice (some ⟨g1,0,none⟩) 2 2) undef undef undef) X):=by
  rintro f l X H g1 rfl rfl B S e0 e1
  have B:=za0 B
  have S:=za0 S
  have e0:=za0 e0
  have e1:=za0 e1
  refine(HG.o _ _ _ _).1 ?_
  unfold jt
  refine zcq9 7 18 (some 12) (.call { callee:=.value (.func 188),args:=#[.tmp 11],argTypes:=#[261] }) (some 23) (.buildSlice 263 2 #[(0,.tmp 20),(1,.tmp 22)]) rfl rfl (by kernel_rfl) ?_ ?_
  .rintro o K hd E-hK
   refine zg9 (enters_of Tryz.func188 (by kernel_rfl) rfl) E (vs:=#[.slice (some ⟨H,0,none⟩) 2 2]) (by kernel_rfl) (a3.o _ _ B.o e0.o) ?_
   rintro e Y ⟨⟨v0,rfl,ro,ng⟩,u⟩
   refine⟨_,rfl,?_⟩
   rw[hd]
   refine hK _ _ (λ _=>S.o.below u) ?_
   simp only[zw]
   exact(HG.o _ _ _ _).2 (af.o _ _ Y H g1 v0 rfl (by kernel_rfl) (B.o.trans (u.mono B.o.size)) (S.o.below u) (e1.o.below u) ⟨ro.rd,λ q hq=>⟨zn2 B.o.size (ng q hq),ro.lt q hq⟩⟩)
  .rintro o K hd E-hK
   refine zar9 (.tmp 20) (.tmp 22) E (.slice T O c3) (.slice d3 Q f3) rfl rfl rfl rfl ?_
   rw[hd]
   obtain⟨g2,hg⟩:=exN X.heap.size
   obtain⟨Y,A⟩:=exN (X.alloc (.cells #[.slice T O c3,.slice d3 Q f3] 56))
   have u:Below X.heap.size X Y:=by rw[<-A];exact za9 _ _
   rw[A,hg]
   refine hK _ _ (λ _=>S.o.below u) ?_
   simp only[zw]
   exact(HG.o _ _ _ _).2 (a4.o _ _ Y H g1 g2 rfl (by kernel_rfl) (B.o.trans (u.mono B.o.size)) (S.o.below u) (e0.o.below u) (e1.o.below u) (by rw[<-A,<-hg];exact zah9 _ _ _ _))
 have ag:Hid (∀(f:Nat)(l:Array Bool)(X:World)(H:Nat)(g2:Nat),f=6->l=#[true,true,true,true,true,true,true,false,true,true,true,true,false,false,true,true,true,true,true,false,false,false]->Below I.heap.size I X->Js w.heap.size lf mf (.slice a1 L1 c1) (.slice a2 L2 c2) (.slice T O c3) (.slice d1 M1 f1) (.slice d2 M2 f2) (.slice d3 Q f3) X->Je X H (.slice a1 L1 c1) (.slice d1 M1 f1)->Je X g2 (.slice T O c3) (.slice d3 Q f3)->G f l (jt w.heap.size lf mf (.slice a1 L1 c1) (.slice a2 L2 c2) (.slice T O c3) (.slice d1 M1 f1) (.slice d2 M2 f2) (.slice d3 Q f3) (.slice (some ⟨H,0,none⟩) 2 2) undef undef undef (.slice (some ⟨g2,0,none⟩) 2 2) undef) X):=by
  rintro f l X H g2 rfl rfl B S e0 e2
  have B:=za0 B
  have S:=za0 S
  have e0:=za0 e0
  have e2:=za0 e2
  refine(HG.o _ _ _ _).1 ?_
  unfold jt
  refine zcq9 7 12 (some 12) (.call { callee:=.value (.func 188),args:=#[.tmp 11],argTypes:=#[261] }) (some 17) (.buildSlice 261 2 #[(0,.tmp 14),(1,.tmp 16)]) rfl rfl (by kernel_rfl) ?_ ?_
  .rintro o K hd E-hK
   refine zg9 (enters_of Tryz.func188 (by kernel_rfl) rfl) E (vs:=#[.slice (some ⟨H,0,none⟩) 2 2]) (by kernel_rfl) (a3.o _ _ B.o e0.o) ?_
   rintro e Y ⟨⟨v0,rfl,ro,ng⟩,u⟩
   refine⟨_,rfl,?_⟩
   rw[hd]
   refine hK _ _ (λ _=>S.o.below u) ?_
   simp only[zw]
   exact(HG.o _ _ _ _).2 (ah.o _ _ Y H g2 v0 rfl (by kernel_rfl) (B.o.trans (u.mono B.o.size)) (S.o.below u) (e2.o.below u) ⟨ro.rd,λ q hq=>⟨zn2 B.o.size (ng q hq),ro.lt q hq⟩⟩)
  .rintro o K hd E-hK
   refine zs9 (.tmp 14) (.tmp 16) E (.slice a2 L2 c2) (.slice d2 M2 f2) rfl rfl rfl rfl ?_
   rw[hd]
   obtain⟨g1,hg⟩:=exN X.heap.size
   obtain⟨Y,A⟩:=exN (X.alloc (.cells #[.slice a2 L2 c2,.slice d2 M2 f2] 91))
   have u:Below X.heap.size X Y:=by rw[<-A];exact za9 _ _
   rw[A,hg]
   refine hK _ _ (λ _=>S.o.below u) ?_
   simp only[zw]
   exact(HG.o _ _ _ _).2 (a4.o _ _ Y H g1 g2 rfl (by kernel_rfl) (B.o.trans (u.mono B.o.size)) (S.o.below u) (e0.o.below u) (by rw[<-A,<-hg];exact zah9 _ _ _ _) (e2.o.below u))
 have ai:Hid (∀(f:Nat)(l:Array Bool)(X:World)(g1:Nat)(g2:Nat),f=6->l=#[true,true,true,true,true,true,false,false,true,true,true,true,true,false,true,true,true,true,true,false,false,false]->Below I.heap.size I X->Js w.heap.size lf mf (.slice a1 L1 c1) (.slice a2 L2 c2) (.slice T O c3) (.slice d1 M1 f1) (.slice d2 M2 f2) (.slice d3 Q f3) X->Je X g1 (.slice a2 L2 c2) (.slice d2 M2 f2)->Je X g2 (.slice T O c3) (.slice d3 Q f3)->G f l (jt w.heap.size lf mf (.slice a1 L1 c1) (.slice a2 L2 c2) (.slice T O c3) (.slice d1 M1 f1) (.slice d2 M2 f2) (.slice d3 Q f3) undef undef (.slice (some ⟨g1,0,none⟩) 2 2) undef (.slice (some ⟨g2,0,none⟩) 2 2) undef) X):=by
  rintro f l X g1 g2 rfl rfl B S e1 e2
  have B:=za0 B
  have S:=za0 S
  have e1:=za0 e1
  have e2:=za0 e2
  refine(HG.o _ _ _ _).1 ?_
  unfold jt
  refine rdW 6 (some 11) (.buildSlice 261 2 #[(0,.tmp 8),(1,.tmp 10)]) ?_
  rintro o K hd E-hK
  refine zs9 (.tmp 8) (.tmp 10) E (.slice a1 L1 c1) (.slice d1 M1 f1) rfl rfl rfl rfl ?_
  rw[hd]
  obtain⟨H,hg⟩:=exN X.heap.size
  obtain⟨Y,A⟩:=exN (X.alloc (.cells #[.slice a1 L1 c1,.slice d1 M1 f1] 91))
  have u:Below X.heap.size X Y:=by rw[<-A];exact za9 _ _
  rw[A,hg]
  refine hK _ _ (λ _=>S.o.below u) ?_
  simp only[zw]
  exact(HG.o _ _ _ _).2 (a4.o _ _ Y H g1 g2 rfl (by kernel_rfl) (B.o.trans (u.mono B.o.size)) (S.o.below u) (by rw[<-A,<-hg];exact zah9 _ _ _ _) (e1.o.below u) (e2.o.below u))
 have aw:Hid (∀(f:Nat)(l:Array Bool)(X:World)(H:Nat)(v0:Value),f=6->l=#[true,true,true,true,true,true,true,true,true,true,true,true,false,false,true,true,true,true,false,false,false,false]->Below I.heap.size I X->Js w.heap.size lf mf (.slice a1 L1 c1) (.slice a2 L2 c2) (.slice T O c3) (.slice d1 M1 f1) (.slice d2 M2 f2) (.slice d3 Q f3) X->Jv I X v0 (strs n.ks++strs m.ks)->G f l (jt w.heap.size lf mf (.slice a1 L1 c1) (.slice a2 L2 c2) (.slice T O c3) (.slice d1 M1 f1) (.slice d2 M2 f2) (.slice d3 Q f3) (.slice (some ⟨H,0,none⟩) 2 2) v0 undef undef undef undef) X):=by
  rintro f l X H v0 rfl rfl B S r0
  have B:=za0 B
  have S:=za0 S
  have r0:=za0 r0
  refine(HG.o _ _ _ _).1 ?_
  unfold jt
  refine zcq9 12 18 (some 17) (.buildSlice 261 2 #[(0,.tmp 14),(1,.tmp 16)]) (some 23) (.buildSlice 263 2 #[(0,.tmp 20),(1,.tmp 22)]) rfl rfl (by kernel_rfl) ?_ ?_
  .rintro o K hd E-hK
   refine zs9 (.tmp 14) (.tmp 16) E (.slice a2 L2 c2) (.slice d2 M2 f2) rfl rfl rfl rfl ?_
   rw[hd]
   obtain⟨g1,hg⟩:=exN X.heap.size
   obtain⟨Y,A⟩:=exN (X.alloc (.cells #[.slice a2 L2 c2,.slice d2 M2 f2] 91))
   have u:Below X.heap.size X Y:=by rw[<-A];exact za9 _ _
   rw[A,hg]
   refine hK _ _ (λ _=>S.o.below u) ?_
   simp only[zw]
   exact(HG.o _ _ _ _).2 (af.o _ _ Y H g1 v0 rfl (by kernel_rfl) (B.o.trans (u.mono B.o.size)) (S.o.below u) (by rw[<-A,<-hg];exact zah9 _ _ _ _) (r0.o.below u))
  .rintro o K hd E-hK
   refine zar9 (.tmp 20) (.tmp 22) E (.slice T O c3) (.slice d3 Q f3) rfl rfl rfl rfl ?_
   rw[hd]
   obtain⟨g2,hg⟩:=exN X.heap.size
   obtain⟨Y,A⟩:=exN (X.alloc (.cells #[.slice T O c3,.slice d3 Q f3] 56))
   have u:Below X.heap.size X Y:=by rw[<-A];exact za9 _ _
   rw[A,hg]
   refine hK _ _ (λ _=>S.o.below u) ?_
   simp only[zw]
   exact(HG.o _ _ _ _).2 (ah.o _ _ Y H g2 v0 rfl (by kernel_rfl) (B.o.trans (u.mono B.o.size)) (S.o.below u) (by rw[<-A,<-hg];exact zah9 _ _ _ _) (r0.o.below u))
 have av:Hid (∀(f:Nat)(l:Array Bool)(X:World)(H:Nat),f=7->l=#[true,true,true,true,true,true,true,false,true,true,true,true,false,false,true,true,true,true,false,false,false,false]->Below I.heap.size I X->Js w.heap.size lf mf (.slice a1 L1 c1) (.slice a2 L2 c2) (.slice T O c3) (.slice d1 M1 f1) (.slice d2 M2 f2) (.slice d3 Q f3) X->Je X H (.slice a1 L1 c1) (.slice d1 M1 f1)->G f l (jt w.heap.size lf mf (.slice a1 L1 c1) (.slice a2 L2 c2) (.slice T O c3) (.slice d1 M1 f1) (.slice d2 M2 f2) (.slice d3 Q f3) (.slice (some ⟨H,0,none⟩) 2 2) undef undef undef undef undef) X):=by
  rintro f l X H rfl rfl B S e0
  have B:=za0 B
  have S:=za0 S
  have e0:=za0 e0
  refine(HG.o _ _ _ _).1 ?_
  unfold jt
  refine zsl9 7 12 18 (some 12) (.call { callee:=.value (.func 188),args:=#[.tmp 11],argTypes:=#[261] }) (some 17) (.buildSlice 261 2 #[(0,.tmp 14),(1,.tmp 16)]) (some 23) (.buildSlice 263 2 #[(0,.tmp 20),(1,.tmp 22)]) rfl rfl rfl (by kernel_rfl) ?_ ?_ ?_
  .rintro o K hd E-hK
   refine zg9 (enters_of Tryz.func188 (by kernel_rfl) rfl) E (vs:=#[.slice (some ⟨H,0,none⟩) 2 2]) (by kernel_rfl) (a3.o _ _ B.o e0.o) ?_
   rintro e Y ⟨⟨v0,rfl,ro,ng⟩,u⟩
   refine⟨_,rfl,?_⟩
   rw[hd]
   refine hK _ _ (λ _=>S.o.below u) ?_
   simp only[zw]
   exact(HG.o _ _ _ _).2 (aw.o _ _ Y H v0 rfl (by kernel_rfl) (B.o.trans (u.mono B.o.size)) (S.o.below u) ⟨ro.rd,λ q hq=>⟨zn2 B.o.size (ng q hq),ro.lt q hq⟩⟩)
  .rintro o K hd E-hK
   refine zs9 (.tmp 14) (.tmp 16) E (.slice a2 L2 c2) (.slice d2 M2 f2) rfl rfl rfl rfl ?_
   rw[hd]
   obtain⟨g1,hg⟩:=exN X.heap.size
   obtain⟨Y,A⟩:=exN (X.alloc (.cells #[.slice a2 L2 c2,.slice d2 M2 f2] 91))
   have u:Below X.heap.size X Y:=by rw[<-A];exact za9 _ _
   rw[A,hg]
   refine hK _ _ (λ _=>S.o.below u) ?_
   simp only[zw]
   exact(HG.o _ _ _ _).2 (ae.o _ _ Y H g1 rfl (by kernel_rfl) (B.o.trans (u.mono B.o.size)) (S.o.below u) (e0.o.below u) (by rw[<-A,<-hg];exact zah9 _ _ _ _))
  .rintro o K hd E-hK
   refine zar9 (.tmp 20) (.tmp 22) E (.slice T O c3) (.slice d3 Q f3) rfl rfl rfl rfl ?_
   rw[hd]
   obtain⟨g2,hg⟩:=exN X.heap.size
   obtain⟨Y,A⟩:=exN (X.alloc (.cells #[.slice T O c3,.slice d3 Q f3] 56))
   have u:Below X.heap.size X Y:=by rw[<-A];exact za9 _ _
   rw[A,hg]
   refine hK _ _ (λ _=>S.o.below u) ?_
   simp only[zw]
   exact(HG.o _ _ _ _).2 (ag.o _ _ Y H g2 rfl (by kernel_rfl) (B.o.trans (u.mono B.o.size)) (S.o.below u) (e0.o.below u) (by rw[<-A,<-hg];exact zah9 _ _ _ _))
 have ax:Hid (∀(f:Nat)(l:Array Bool)(X:World)(g1:Nat),f=7->l=#[true,true,true,true,true,true,false,false,true,true,true,true,true,false,true,true,true,true,false,false,false,false]->Below I.heap.size I X->Js w.heap.size lf mf (.slice a1 L1 c1) (.slice a2 L2 c2) (.slice T O c3) (.slice d1 M1 f1) (.slice d2 M2 f2) (.slice d3 Q f3) X->Je X g1 (.slice a2 L2 c2) (.slice d2 M2 f2)->G f l (jt w.heap.size lf mf (.slice a1 L1 c1) (.slice a2 L2 c2) (.slice T O c3) (.slice d1 M1 f1) (.slice d2 M2 f2) (.slice d3 Q f3) undef undef (.slice (some ⟨g1,0,none⟩) 2 2) undef undef undef) X):=by
  rintro f l X g1 rfl rfl B S e1
  have B:=za0 B
  have S:=za0 S
  have e1:=za0 e1
  refine(HG.o _ _ _ _).1 ?_
  unfold jt
  refine zcq9 6 18 (some 11) (.buildSlice 261 2 #[(0,.tmp 8),(1,.tmp 10)]) (some 23) (.buildSlice 263 2 #[(0,.tmp 20),(1,.tmp 22)]) rfl rfl (by kernel_rfl) ?_ ?_
  .rintro o K hd E-hK
   refine zs9 (.tmp 8) (.tmp 10) E (.slice a1 L1 c1) (.slice d1 M1 f1) rfl rfl rfl rfl ?_
   rw[hd]
   obtain⟨H,hg⟩:=exN X.heap.size
   obtain⟨Y,A⟩:=exN (X.alloc (.cells #[.slice a1 L1 c1,.slice d1 M1 f1] 91))
   have u:Below X.heap.size X Y:=by rw[<-A];exact za9 _ _
   rw[A,hg]
   refine hK _ _ (λ _=>S.o.below u) ?_
   simp only[zw]
   exact(HG.o _ _ _ _).2 (ae.o _ _ Y H g1 rfl (by kernel_rfl) (B.o.trans (u.mono B.o.size)) (S.o.below u) (by rw[<-A,<-hg];exact zah9 _ _ _ _) (e1.o.below u))
  .rintro o K hd E-hK
   refine zar9 (.tmp 20) (.tmp 22) E (.slice T O c3) (.slice d3 Q f3) rfl rfl rfl rfl ?_
   rw[hd]
   obtain⟨g2,hg⟩:=exN X.heap.size
   obtain⟨Y,A⟩:=exN (X.alloc (.cells #[.slice T O c3,.slice d3 Q f3] 56))
   have u:Below X.heap.size X Y:=by rw[<-A];exact za9 _ _
   rw[A,hg]
   refine hK _ _ (λ _=>S.o.below u) ?_
   simp only[zw]
   exact(HG.o _ _ _ _).2 (ai.o _ _ Y g1 g2 rfl (by kernel_rfl) (B.o.trans (u.mono B.o.size)) (S.o.below u) (e1.o.below u) (by rw[<-A,<-hg];exact zah9 _ _ _ _))
 have ay:Hid (∀(f:Nat)(l:Array Bool)(X:World)(g2:Nat),f=7->l=#[true,true,true,true,true,true,false,false,true,true,true,true,false,false,true,true,true,true,true,false,false,false]->Below I.heap.size I X->Js w.heap.size lf mf (.slice a1 L1 c1) (.slice a2 L2 c2) (.slice T O c3) (.slice d1 M1 f1) (.slice d2 M2 f2) (.slice d3 Q f3) X->Je X g2 (.slice T O c3) (.slice d3 Q f3)->G f l (jt w.heap.size lf mf (.slice a1 L1 c1) (.slice a2 L2 c2) (.slice T O c3) (.slice d1 M1 f1) (.slice d2 M2 f2) (.slice d3 Q f3) undef undef undef undef (.slice (some ⟨g2,0,none⟩) 2 2) undef) X):=by
  rintro f l X g2 rfl rfl B S e2
  have B:=za0 B
  have S:=za0 S
  have e2:=za0 e2
  refine(HG.o _ _ _ _).1 ?_
  unfold jt
  refine zcq9 6 12 (some 11) (.buildSlice 261 2 #[(0,.tmp 8),(1,.tmp 10)]) (some 17) (.buildSlice 261 2 #[(0,.tmp 14),(1,.tmp 16)]) rfl rfl (by kernel_rfl) ?_ ?_
  .rintro o K hd E-hK
   refine zs9 (.tmp 8) (.tmp 10) E (.slice a1 L1 c1) (.slice d1 M1 f1) rfl rfl rfl rfl ?_
   rw[hd]
   obtain⟨H,hg⟩:=exN X.heap.size
   obtain⟨Y,A⟩:=exN (X.alloc (.cells #[.slice a1 L1 c1,.slice d1 M1 f1] 91))
   have u:Below X.heap.size X Y:=by rw[<-A];exact za9 _ _
   rw[A,hg]
   refine hK _ _ (λ _=>S.o.below u) ?_
   simp only[zw]
   exact(HG.o _ _ _ _).2 (ag.o _ _ Y H g2 rfl (by kernel_rfl) (B.o.trans (u.mono B.o.size)) (S.o.below u) (by rw[<-A,<-hg];exact zah9 _ _ _ _) (e2.o.below u))
  .rintro o K hd E-hK
   refine zs9 (.tmp 14) (.tmp 16) E (.slice a2 L2 c2) (.slice d2 M2 f2) rfl rfl rfl rfl ?_
   rw[hd]
   obtain⟨g1,hg⟩:=exN X.heap.size
   obtain⟨Y,A⟩:=exN (X.alloc (.cells #[.slice a2 L2 c2,.slice d2 M2 f2] 91))
   have u:Below X.heap.size X Y:=by rw[<-A];exact za9 _ _
   rw[A,hg]
   refine hK _ _ (λ _=>S.o.below u) ?_
   simp only[zw]
   exact(HG.o _ _ _ _).2 (ai.o _ _ Y g1 g2 rfl (by kernel_rfl) (B.o.trans (u.mono B.o.size)) (S.o.below u) (by rw[<-A,<-hg];exact zah9 _ _ _ _) (e2.o.below u))
 have az:Hid (∀(f:Nat)(l:Array Bool)(X:World) ,f=8->l=#[true,true,true,true,true,true,false,false,true,true,true,true,false,false,true,true,true,true,false,false,false,false]->Below I.heap.size I X->Js w.heap.size lf mf (.slice a1 L1 c1) (.slice a2 L2 c2) (.slice T O c3) (.slice d1 M1 f1) (.slice d2 M2 f2) (.slice d3 Q f3) X->G f l (jt w.heap.size lf mf (.slice a1 L1 c1) (.slice a2 L2 c2) (.slice T O c3) (.slice d1 M1 f1) (.slice d2 M2 f2) (.slice d3 Q f3) undef undef undef undef undef undef) X):=by
  rintro f l X  rfl rfl B S
  have B:=za0 B
  have S:=za0 S
  refine(HG.o _ _ _ _).1 ?_
  unfold jt
  refine zsl9 6 12 18 (some 11) (.buildSlice 261 2 #[(0,.tmp 8),(1,.tmp 10)]) (some 17) (.buildSlice 261 2 #[(0,.tmp 14),(1,.tmp 16)]) (some 23) (.buildSlice 263 2 #[(0,.tmp 20),(1,.tmp 22)]) rfl rfl rfl (by kernel_rfl) ?_ ?_ ?_
  .rintro o K hd E-hK
   refine zs9 (.tmp 8) (.tmp 10) E (.slice a1 L1 c1) (.slice d1 M1 f1) rfl rfl rfl rfl ?_
   rw[hd]
   obtain⟨H,hg⟩:=exN X.heap.size
   obtain⟨Y,A⟩:=exN (X.alloc (.cells #[.slice a1 L1 c1,.slice d1 M1 f1] 91))
   have u:Below X.heap.size X Y:=by rw[<-A];exact za9 _ _
   rw[A,hg]
   refine hK _ _ (λ _=>S.o.below u) ?_
   simp only[zw]
   exact(HG.o _ _ _ _).2 (av.o _ _ Y H rfl (by kernel_rfl) (B.o.trans (u.mono B.o.size)) (S.o.below u) (by rw[<-A,<-hg];exact zah9 _ _ _ _))
  .rintro o K hd E-hK
   refine zs9 (.tmp 14) (.tmp 16) E (.slice a2 L2 c2) (.slice d2 M2 f2) rfl rfl rfl rfl ?_
   rw[hd]
   obtain⟨g1,hg⟩:=exN X.heap.size
   obtain⟨Y,A⟩:=exN (X.alloc (.cells #[.slice a2 L2 c2,.slice d2 M2 f2] 91))
   have u:Below X.heap.size X Y:=by rw[<-A];exact za9 _ _
   rw[A,hg]
   refine hK _ _ (λ _=>S.o.below u) ?_
   simp only[zw]
   exact(HG.o _ _ _ _).2 (ax.o _ _ Y g1 rfl (by kernel_rfl) (B.o.trans (u.mono B.o.size)) (S.o.below u) (by rw[<-A,<-hg];exact zah9 _ _ _ _))
  .rintro o K hd E-hK
   refine zar9 (.tmp 20) (.tmp 22) E (.slice T O c3) (.slice d3 Q f3) rfl rfl rfl rfl ?_
   rw[hd]
   obtain⟨g2,hg⟩:=exN X.heap.size
   obtain⟨Y,A⟩:=exN (X.alloc (.cells #[.slice T O c3,.slice d3 Q f3] 56))
   have u:Below X.heap.size X Y:=by rw[<-A];exact za9 _ _
   rw[A,hg]
   refine hK _ _ (λ _=>S.o.below u) ?_
   simp only[zw]
   exact(HG.o _ _ _ _).2 (ay.o _ _ Y g2 rfl (by kernel_rfl) (B.o.trans (u.mono B.o.size)) (S.o.below u) (by rw[<-A,<-hg];exact zah9 _ _ _ _))
 refine(HG.o _ _ _ _).1 ?_
 have hS:=S0.o
 refine tkW 0 (some 5) (.fieldAddr 93 (.tmp 2) 0) (Value.pointer (some ⟨w.heap.size,0,none⟩)) (by rintro o E w' _;go_simp) hS ?_
 simp only[zw]
 refine tkW 1 (some 6) (.load 4 (.tmp 5)) (Value.bool lf) ?hy hS ?_
 case hy=>
  rintro o E w' ⟨hA,hB,hC⟩
  have q:=hA.c0
  go_simp
 simp only[zw]
 refine tkW 2 (some 7) (.fieldAddr 93 (.tmp 2) 1) (Value.pointer (some ⟨w.heap.size,1,none⟩)) (by rintro o E w' _;go_simp) hS ?_
 simp only[zw]
 refine tkW 3 (some 8) (.load 91 (.tmp 7)) (Value.slice a1 L1 c1) ?hy hS ?_
 case hy=>
  rintro o E w' ⟨hA,hB,hC⟩
  have q:=hA.c1
  go_simp
 simp only[zw]
 refine tkW 4 (some 9) (.fieldAddr 93 (.tmp 3) 1) (Value.pointer (some ⟨w.heap.size+1,1,none⟩)) (by rintro o E w' _;go_simp) hS ?_
 simp only[zw]
 refine tkW 5 (some 10) (.load 91 (.tmp 9)) (Value.slice d1 M1 f1) ?hy hS ?_
 case hy=>
  rintro o E w' ⟨hA,hB,hC⟩
  have q:=hB.c1
  go_simp
 simp only[zw]
 refine tkW 8 (some 13) (.fieldAddr 93 (.tmp 2) 2) (Value.pointer (some ⟨w.heap.size,2,none⟩)) (by rintro o E w' _;go_simp) hS ?_
 simp only[zw]
 refine tkW 9 (some 14) (.load 91 (.tmp 13)) (Value.slice a2 L2 c2) ?hy hS ?_
 case hy=>
  rintro o E w' ⟨hA,hB,hC⟩
  have q:=hA.c2
  go_simp
 simp only[zw]
 refine tkW 10 (some 15) (.fieldAddr 93 (.tmp 3) 2) (Value.pointer (some ⟨w.heap.size+1,2,none⟩)) (by rintro o E w' _;go_simp) hS ?_
 simp only[zw]
 refine tkW 11 (some 16) (.load 91 (.tmp 15)) (Value.slice d2 M2 f2) ?hy hS ?_
 case hy=>
  rintro o E w' ⟨hA,hB,hC⟩
  have q:=hB.c2
  go_simp
 simp only[zw]
 refine tkW 14 (some 19) (.fieldAddr 93 (.tmp 2) 3) (Value.pointer (some ⟨w.heap.size,3,none⟩)) (by rintro o E w' _;go_simp) hS ?_
 simp only[zw]
 refine tkW 15 (some 20) (.load 56 (.tmp 19)) (Value.slice T O c3) ?hy hS ?_
 case hy=>
  rintro o E w' ⟨hA,hB,hC⟩
  have q:=hA.c3
  go_simp
 simp only[zw]
 refine tkW 16 (some 21) (.fieldAddr 93 (.tmp 3) 3) (Value.pointer (some ⟨w.heap.size+1,3,none⟩)) (by rintro o E w' _;go_simp) hS ?_
 simp only[zw]
 refine tkW 17 (some 22) (.load 56 (.tmp 21)) (Value.slice d3 Q f3) ?hy hS ?_
 case hy=>
  rintro o E w' ⟨hA,hB,hC⟩
  have q:=hB.c3
  go_simp
 simp only[zw]
 exact(HG.o _ _ _ _).2 (az.o _ _ X0  rfl (by kernel_rfl) B0.o S0.o)
