import Derived.Test.YtjhccpijpffahaaGreatPNVar
import Derived.Test.YtjhccpijpffahaaGreatPDRegT
import Derived.Great.BuildSlice
set_option maxRecDepth 100000
set_option linter.unusedVariables false
set_option linter.unusedSimpArgs false
set_option maxHeartbeats 8000000
namespace Go.Proofs.YtjhccpijpffahaaGreat
open Go.RowKit Pl
def OwV (B : Nat) (e : TypeId) (w : World) (v : Value) (cs : List Value) : Prop:=w.ownsRow B e 1 v cs.length cs
section
variable {B : Nat} {e : TypeId} {w w' : World} {v : Value} {cs : List Value}
theorem zal9 (B : Nat) (e : TypeId) (w : World) : OwV B e w (.slice none 0 0) []:=World.ownsRow_nil _ _ _ _
theorem OwV.owns (h : OwV B e w v cs) : OwnsV e w v cs:=by
 refine ⟨h.1,?_⟩
 rcases h.2 with h0 | ⟨g,cap,cur,rfl,hb,rest⟩
 ·exact .inl h0
 ·exact .inr ⟨g,cap,cur,rfl,zn7 _,rest⟩
theorem OwV.rd (h : OwV B e w v cs) : RdV w v cs:=h.owns.rd
theorem OwV.ge (h : OwV B e w v cs) : ∀ j,v.ownBlock = some j -> B <= j:=fun j hj => (World.ownsRow.lt h j hj).1
theorem OwV.tch {S : Nat -> Prop} (h : OwV B e w v cs) (ht : Tch S w w') (hn : ∀ j,v.ownBlock = some j -> ¬ S j) : OwV B e w' v cs:=by
 refine ⟨h.1,?_⟩
 rcases h.2 with h0 | ⟨g,cap,cur,rfl,hb,hg,rest⟩
 ·exact .inl h0
 ·refine .inr ⟨g,cap,cur,rfl,hb,?_,rest⟩
  rw [ht.block g (Array.getElem?_eq_some_iff.1 hg).1 (hn g rfl)]
  exact hg
theorem OwV.below (h : OwV B e w v cs) (hb : Below w.heap.size w w') : OwV B e w' v cs:=h.tch (S:=fun _ => False) (Tch.of_below hb) (fun _ _ e => e)
theorem OwV.long (h : OwV B e w v cs) : ∃ a cap,v = .slice a cs.length cap:=h.rd.long
theorem OwV.ne (h : OwV B e w v cs) {b : Nat} {C : Array Value} {T : TypeId} (hb : w.heap[b]? = some (.cells C T (0,0))) (hT : e ≠ T) : v.ownBlock ≠ some b:=h.owns.ne hb hT
theorem Gb.belowV (h : Gb B w w' v) (ho : OwV B e w v cs) (hB : B <= w.heap.size) : Below B w w':=h.tch.below hB (fun k e => ho.ge k e)
theorem OwV.apart {e2 : TypeId} {v2 : Value} {cs2 : List Value} {B2 : Nat} (h : OwV B e w v cs) (h2 : OwV B2 e2 w v2 cs2) (hT : e ≠ e2) {j : Nat} (hj : v.ownBlock = some j) : v2.ownBlock ≠ some j:=fun hj2 => by
 rcases h2.2 with ⟨rfl,_⟩ | ⟨g,cap,cur,rfl,_,hg,_⟩
 ·cases hj2
 ·simp only [Value.ownBlock,Option.some.injEq] at hj2
  subst hj2
  exact h.ne hg hT hj
end
structure Ow3 (B : Nat) (w : World) (n : Nd) (v1 v2 v3 : Value) : Prop where
 k : OwV B 9 w v1 (strs n.ks)
 v : OwV B 9 w v2 (strs n.vs)
 d : OwV B 3 w v3 (nums n.kd)
 ap : ∀ j,v1.ownBlock = some j -> v2.ownBlock ≠ some j
section
variable {B : Nat} {w w' : World} {n : Nd} {v1 v2 v3 : Value}
theorem Ow3.nn (h : Ow3 B w n v1 v2 v3) : Nn w n v1 v2 v3:=⟨h.k.rd,h.v.rd,h.d.rd⟩
theorem Ow3.fr (h : Ow3 B w n v1 v2 v3) : Fr3 B v1 v2 v3:=fun j hj => by
 rcases hj with e | e | e
 ·exact h.k.ge j e
 ·exact h.v.ge j e
 ·exact h.d.ge j e
theorem Ow3.tch {S : Nat -> Prop} (h : Ow3 B w n v1 v2 v3) (ht : Tch S w w') (hn : ∀ j,(v1.ownBlock = some j ∨ v2.ownBlock = some j ∨ v3.ownBlock = some j) -> ¬ S j) : Ow3 B w' n v1 v2 v3:=
 ⟨h.k.tch ht (fun j e => hn j (.inl e)),h.v.tch ht (fun j e => hn j (.inr (.inl e))),h.d.tch ht (fun j e => hn j (.inr (.inr e))),h.ap⟩
theorem Ow3.below (h : Ow3 B w n v1 v2 v3) (hb : Below w.heap.size w w') : Ow3 B w' n v1 v2 v3:=⟨h.k.below hb,h.v.below hb,h.d.below hb,h.ap⟩
theorem OwV.less {e : TypeId} {v : Value} {cs : List Value} (h : OwV B e w v cs) {C : Nat} (hC : C <= B) : OwV C e w v cs:=by
 refine ⟨h.1,?_⟩
 rcases h.2 with h0 | ⟨g,cap,cur,rfl,hb,rest⟩
 ·exact .inl h0
 ·exact .inr ⟨g,cap,cur,rfl,zn2 hC hb,rest⟩
theorem Ow3.less (h : Ow3 B w n v1 v2 v3) {C : Nat} (hC : C <= B) : Ow3 C w n v1 v2 v3:=⟨h.k.less hC,h.v.less hC,h.d.less hC,h.ap⟩
end
section
variable {P : Program}
theorem OwV.of {B : Nat} {e : TypeId} {w : World} {v : Value} {cs : List Value} (h : w.ownsRow 0 e 1 v cs.length cs) (hg : ∀ j,v.ownBlock = some j -> B <= j) : OwV B e w v cs:=by
 refine ⟨h.1,?_⟩
 rcases h.2 with h0 | ⟨g,cap,cur,rfl,hb,rest⟩
 ·exact .inl h0
 ·exact .inr ⟨g,cap,cur,rfl,hg g rfl,rest⟩
def Fsh (w : World) (v v' : Value) : Prop:=∀ k,v'.ownBlock = some k -> v.ownBlock = some k ∨ w.heap.size <= k
theorem zhs9 (B : Nat) (w : World) (t e ty : TypeId) (z : Value) (bytes : Nat) (E : ElemV P t e z bytes) (v : Value) (xs : List Value) (hown : OwV B e w v xs) (g : Nat) (y : Value) (hy1 : y.oneCell' = true) (hg : w.cell? ⟨g,0,none⟩ = some y)
  (h63 : xs.length + 1 <= 9223372036854775807) (hl : (xs.length + 1) * bytes <= 140737488355328) (hB : B <= w.heap.size) :
  ∃ v' w',(Builtin.append_ #[t,t] ty #[v,.slice (some ⟨g,0,none⟩) 1 1]).run P w = .ok v' w' /\ OwV B e w' v' (xs ++ [y]) /\ Gb B w w' v /\ Fsh w v v':=by
 obtain ⟨ht,⟨i,hi,hz,h1,hb⟩,hone⟩:=E
 have hsrc : Src w (.slice (some ⟨g,0,none⟩) 1 1) [y]:=by
  refine ⟨_,1,rfl,fun u hu => by simp at hu; subst hu; exact hy1,(fun e => by cases e),fun ad ha j u hu => ?_⟩
  obtain rfl:=Option.some.inj ha
  match j,hu with
  | 0,hu => simp at hu; subst hu; simpa [Addr.add] using hg
 obtain ⟨v',w',hr,ho,hgr,hf⟩:=zpc9 (P:=P) w t ty e i z bytes ht hi hz h1 hb hone v xs hown.owns _ [y] hsrc (by unfold maxLen; exact h63) hl
 refine ⟨v',w',hr,OwV.of ho (fun j hj => ?_),⟨(Tch.refl _ w).grown hgr (fun _ _ e => e)⟩,hf⟩
 rcases hf j hj with e | e
 ·exact hown.ge j e
 ·omega
theorem zlj9 (w : World) (t e : TypeId) (z : Value) (bytes : Nat) (E : ElemV P t e z bytes) (v : Value) (hv : v.cells = #[v]) :
  (Instr.buildSlice t 1 #[(0,v)]).run P w = .ok (.slice (some ⟨w.heap.size,0,none⟩) 1 1) (w.alloc (.cells #[v] e)):=by
 obtain ⟨ht,⟨i,hi,hzz,h1,hb⟩,hone⟩:=E
 refine run_buildSlice w _ e 1 _ _ i _ ht hi hzz (by rw [h1]; decide) (by rw [h1]; decide) ?_
 rw [h1]
 exact Go.Great.fill_flat [v] _ (fun u hu => by simp at hu; subst hu; exact hv) (by simp)
variable {o : Oper} {a : Act} {w : World} {K : Act -> World -> Prop} {Q : Exit -> Act -> World -> Prop}
theorem zez9 (t e : TypeId) (z : Value) (bytes : Nat) (E : ElemV P t e z bytes) (x : Operand) (ho : o.op = Op.buildSlice t 1 #[(0,x)]) (v : Value) (hx : a.eval x = v) (hv : v.cells = #[v])
  (h : K (a.put o.dst (.slice (some ⟨w.heap.size,0,none⟩) 1 1)) (w.alloc (.cells #[v] e))) : Oper.wp P o a w K Q:=by
 have hrun:=zlj9 w t e z bytes E v hv
 unfold Oper.wp
 simp [execOp,ho,hx,hrun,Result.andThen]
 exact h
theorem zgt9 (t e : TypeId) (z : Value) (bytes : Nat) (E : ElemV P t e z bytes) (s x : Operand) (ho : o.op = .call { callee:=.builtin .append,args:=#[s,x],argTypes:=#[t,t] })
  (B : Nat) (v : Value) (xs : List Value) (hs : a.eval s = v) (hown : OwV B e w v xs) (g : Nat) (y : Value) (hx : a.eval x = .slice (some ⟨g,0,none⟩) 1 1) (hy1 : y.oneCell' = true) (hg : w.cell? ⟨g,0,none⟩ = some y)
  (h63 : xs.length + 1 <= 9223372036854775807) (hl : (xs.length + 1) * bytes <= 140737488355328) (hB : B <= w.heap.size)
  (h : ∀ v' w',OwV B e w' v' (xs ++ [y]) -> Gb B w w' v -> Fsh w v v' -> K (a.put o.dst v') w') : Oper.wp P o a w K Q:=by
 obtain ⟨v',w',hr,h2,h3,h4⟩:=zhs9 B w t e o.type z bytes E v xs hown g y hy1 hg h63 hl hB
 unfold Oper.wp
 simp [execOp,ho,resolve,invoke,builtin,hs,hx,hr,Result.andThen]
 exact h v' w' h2 h3 h4
theorem zaa9 (t e : TypeId) (z : Value) (bytes : Nat) (E : ElemV P t e z bytes) (w : World) {ops : Array Oper} {rest : List Oper} (hgd : o.guard = none) (s x : Operand) (ho : o.op = .call { callee:=.builtin .append,args:=#[s,x],argTypes:=#[t,t] })
  (B : Nat) (v : Value) (xs : List Value) (hs : a.eval s = v) (hown : OwV B e w v xs) (g : Nat) (y : Value) (hx : a.eval x = .slice (some ⟨g,0,none⟩) 1 1) (hy1 : y.oneCell' = true) (hg : w.cell? ⟨g,0,none⟩ = some y)
  (h63 : xs.length + 1 <= 9223372036854775807) (hl : (xs.length + 1) * bytes <= 140737488355328) (hB : B <= w.heap.size)
  (h : ∀ v' w',OwV B e w' v' (xs ++ [y]) -> Gb B w w' v -> Fsh w v v' -> wpList P ops Q rest (a.put o.dst v') w') : wpList P ops Q (o :: rest) a w:=by
 obtain ⟨v',w',hr,h2,h3,h4⟩:=zhs9 B w t e o.type z bytes E v xs hown g y hy1 hg h63 hl hB
 refine wpList_plain hgd fun K hK => ?_
 unfold Oper.wp
 simp [execOp,ho,resolve,invoke,builtin,hs,hx,hr,Result.andThen]
 exact hK _ _ (h v' w' h2 h3 h4)
end
section
variable {o : Oper} {a : Act} {w : World} {K : Act -> World -> Prop} {Q : Exit -> Act -> World -> Prop}
theorem zia9 {x y : Operand} {p : Addr} {b : Option Addr} {l c : Nat} {u : Value} (ho : o.op = .store 91 x y) (hx : a.eval x = .pointer (some p)) (hy : a.eval y = .slice b l c) (hc : w.cell? p = some u) (hf : w.frozen? p = false)
  (h : K (a.put o.dst undef) (w.setCell p (.slice b l c))) : Oper.wp Tryz.prog o a w K Q:=by
 have hrun : (Instr.storeAt 91 (.pointer (some p)) (.slice b l c)).run Tryz.prog w = .ok () (w.setCell p (.slice b l c)):=by
  go_simp
 unfold Oper.wp execOp
 simp only [ho,hx,hy,Sem.run_bind,Sem.run_pure,Result.andThen_ok,hrun]
 exact h
theorem zoa9 {x y : Operand} {p : Addr} {b : Option Addr} {l c : Nat} {u : Value} (ho : o.op = .store 56 x y) (hx : a.eval x = .pointer (some p)) (hy : a.eval y = .slice b l c) (hc : w.cell? p = some u) (hf : w.frozen? p = false)
  (h : K (a.put o.dst undef) (w.setCell p (.slice b l c))) : Oper.wp Tryz.prog o a w K Q:=by
 have hrun : (Instr.storeAt 56 (.pointer (some p)) (.slice b l c)).run Tryz.prog w = .ok () (w.setCell p (.slice b l c)):=by
  go_simp
 unfold Oper.wp execOp
 simp only [ho,hx,hy,Sem.run_bind,Sem.run_pure,Result.andThen_ok,hrun]
 exact h
end
theorem zky9 (w : World) (v : Value) (e : TypeId) : (w.alloc (.cells #[v] e)).cell? ⟨w.heap.size,0,none⟩ = some v:=by
 rw [cell_of_row _ w.heap.size 0 _ _ (0,0) (heap_alloc_new w _)]
 rfl
structure Pz where
 n : Nd
 t : List Int × Bool
def pzStep (p : Pz) : Pz:=
 if p.n.lf = true then ⟨{ p.n with ks:=p.n.ks ++ [(txtZ p.t).1],vs:=p.n.vs ++ [(txtZ (txtZ p.t).2).1] },(txtZ (txtZ p.t).2).2⟩
 else ⟨{ p.n with ks:=p.n.ks ++ [(txtZ p.t).1],kd:=p.n.kd ++ [(numZ (txtZ p.t).2).1 + (numZ (numZ (txtZ p.t).2).2).1 * 256] },(numZ (numZ (txtZ p.t).2).2).2⟩
def pzN (lf : Bool) (t : List Int × Bool) : Nat -> Pz
 | 0 => ⟨⟨lf,[],[],[]⟩,t⟩
 | k + 1 => pzStep (pzN lf t k)
theorem pzN_lf (lf : Bool) (t : List Int × Bool) (k : Nat) : (pzN lf t k).n.lf = lf:=by
 induction k with
 | zero => rfl
 | succ k ih => simp only [pzN,pzStep]; split <;> exact ih
theorem zpa9 (lf : Bool) (t : List Int × Bool) (k : Nat) : (pzN lf t k).n.ks.length = k /\ (pzN lf t k).n.vs.length <= k /\ (pzN lf t k).n.kd.length <= k:=by
 induction k with
 | zero => exact ⟨rfl,zn6 _,zn6 _⟩
 | succ k ih =>
  simp only [pzN,pzStep]
  split
  ·simp only [List.length_append,List.length_cons,List.length_nil]; omega
  ·simp only [List.length_append,List.length_cons,List.length_nil]; omega
theorem OwV.lt {B : Nat} {e : TypeId} {w : World} {v : Value} {cs : List Value} (h : OwV B e w v cs) : ∀ j,v.ownBlock = some j -> j < w.heap.size:=h.owns.lt
structure Rs (B n0 : Nat) (w : World) (g nb : Nat) (v1 v2 v3 : Value) (p : Pz) : Prop where
 src : SzX n0 w g p.t
 nv : Nb w 93 nb p.n.lf v1 v2 v3
 k : OwV B 9 w v1 (strs p.n.ks)
 v : OwV B 9 w v2 (strs p.n.vs)
 d : OwV B 3 w v3 (nums p.n.kd)
 ap : ∀ j,v1.ownBlock = some j -> v2.ownBlock ≠ some j
 gn : g ≠ nb
 gB : g < B
 nB : nb < B
 n0 : n0 <= nb
 wB : B <= w.heap.size
theorem zmf9 {B n0 : Nat} {w w1 cw' w6 : World} {g nb : Nat} {v1 v2 v3 v6 : Value} {p : Pz} {t' : List Int × Bool} {y : ByteArray} (h : Rs B n0 w g nb v1 v2 v3 p) (ht : Tch (fun k => k = g) w w1) (hx : SzX n0 w1 g t') (hb : Below w1.heap.size w1 cw')
  (g6 : Gb B cw' w6 v1) (o6 : OwV B 9 w6 v6 (strs p.n.ks ++ [.string y])) (hf : Fsh cw' v1 v6) :
  (w6.cell? ⟨nb,1,none⟩ = some v1 /\ w6.frozen? ⟨nb,1,none⟩ = false) /\ Rs B n0 (w6.setCell ⟨nb,1,none⟩ v6) g nb v6 v2 v3 ⟨{ p.n with ks:=p.n.ks ++ [y] },t'⟩ /\ Below n0 w (w6.setCell ⟨nb,1,none⟩ v6):=by
 have g:=g6
 have n1 : Nb w1 93 nb p.n.lf v1 v2 v3:=h.nv.tch ht (fun e => h.gn e.symm)
 have n2 : Nb cw' 93 nb p.n.lf v1 v2 v3:=n1.below hb
 have hB1 : B <= w1.heap.size:=zn2 h.wB ht.size
 have hB2 : B <= cw'.heap.size:=zn2 hB1 hb.size
 have oi : OwV B 9 cw' v1 (strs p.n.ks):=(h.k.tch ht (fun x hx e => by have:=h.k.ge x hx; have:=h.gB; omega)).below hb
 have n6 : Nb w6 93 nb p.n.lf v1 v2 v3:=n2.tch g.tch (fun e => by have:=oi.ge _ e; have:=h.nB; omega)
 have t7:=tch_at w6 nb 1 v6
 have P1a : OwV B 9 cw' v2 _:=(h.v.tch ht (fun x hx e => by have:=h.v.ge x hx; have:=h.gB; omega)).below hb
 have P1b : OwV B 9 w6 v2 _:=P1a.tch g.tch (fun x hx e => h.ap x e hx)
 have P1 : OwV B 9 (w6.setCell ⟨nb,1,none⟩ v6) v2 _:=P1b.tch t7 (fun x hx e => by have:=h.v.ge x hx; have:=h.nB; omega)
 have P2a : OwV B 3 cw' v3 _:=(h.d.tch ht (fun x hx e => by have:=h.d.ge x hx; have:=h.gB; omega)).below hb
 have P2b : OwV B 3 w6 v3 _:=P2a.tch g.tch (fun x hx e => (h.d.apart h.k (by decide) hx) e)
 have P2 : OwV B 3 (w6.setCell ⟨nb,1,none⟩ v6) v3 _:=P2b.tch t7 (fun x hx e => by have:=h.d.ge x hx; have:=h.nB; omega)
 have O7 : OwV B 9 (w6.setCell ⟨nb,1,none⟩ v6) v6 (strs p.n.ks ++ [.string y]):=o6.tch t7 (fun x hx e => by have:=o6.ge x hx; have:=h.nB; omega)
 have x2 : SzX n0 cw' _ t':=hx.below hb
 have b6 : Below B cw' w6:=g.belowV oi hB2
 have x6 : SzX n0 w6 _ t':=x2.tch g.tch (fun e => by have:=oi.ge _ e; have:=h.gB; omega) (fun k e => by have:=oi.ge _ e; have:=h.nB; have:=h.n0; omega) (by have:=h.n0; have:=h.nB; omega)
 have x7 : SzX n0 (w6.setCell ⟨nb,1,none⟩ v6) _ t':=x6.tch t7 (fun e => h.gn e) (fun k e => by rw [e]; exact h.n0) (by have:=h.n0; have:=h.nB; have:=b6.size; omega)
 have z1 : Below n0 w w1:=ht.below (by have:=h.n0; have:=h.nB; have:=h.wB; omega) (fun k e => by rw [e]; exact h.src.new)
 have z2 : Below n0 w w6:=(z1.trans (hb.mono (by have:=h.n0; have:=h.nB; omega))).trans (b6.mono (by have:=h.n0; have:=h.nB; omega))
 have z7 : Below n0 w (w6.setCell ⟨nb,1,none⟩ v6):=z2.trans (t7.below (by have:=h.n0; have:=h.nB; have:=b6.size; omega) (fun k e => by rw [e]; exact h.n0))
 have hsz : B <= (w6.setCell ⟨nb,1,none⟩ v6).heap.size:=zn2 hB2 (zn2 b6.size t7.size)
 have O7' : OwV B 9 (w6.setCell ⟨nb,1,none⟩ v6) v6 (strs (p.n.ks ++ [y])):=by unfold strs; rw [List.map_append]; exact O7
 refine ⟨⟨n6.c1,n6.fz 1⟩,⟨x7,n6.s1 v6,O7',P1,P2,fun x hx => by
  rcases hf x hx with e | e
  ·exact h.ap x e
  ·exact fun e2 => by have h3:=h.v.lt x e2; have h4:=ht.size; have h5:=hb.size; omega,h.gn,h.gB,h.nB,h.n0,hsz⟩,z7⟩
theorem zmh9 {B n0 : Nat} {w w1 cw' w6 : World} {g nb : Nat} {v1 v2 v3 v6 : Value} {p : Pz} {t' : List Int × Bool} {y : ByteArray} (h : Rs B n0 w g nb v1 v2 v3 p) (ht : Tch (fun k => k = g) w w1) (hx : SzX n0 w1 g t') (hb : Below w1.heap.size w1 cw')
  (g6 : Gb B cw' w6 v2) (o6 : OwV B 9 w6 v6 (strs p.n.vs ++ [.string y])) (hf : Fsh cw' v2 v6) :
  (w6.cell? ⟨nb,2,none⟩ = some v2 /\ w6.frozen? ⟨nb,2,none⟩ = false) /\ Rs B n0 (w6.setCell ⟨nb,2,none⟩ v6) g nb v1 v6 v3 ⟨{ p.n with vs:=p.n.vs ++ [y] },t'⟩ /\ Below n0 w (w6.setCell ⟨nb,2,none⟩ v6):=by
 have g:=g6
 have n1 : Nb w1 93 nb p.n.lf v1 v2 v3:=h.nv.tch ht (fun e => h.gn e.symm)
 have n2 : Nb cw' 93 nb p.n.lf v1 v2 v3:=n1.below hb
 have hB1 : B <= w1.heap.size:=zn2 h.wB ht.size
 have hB2 : B <= cw'.heap.size:=zn2 hB1 hb.size
 have oi : OwV B 9 cw' v2 (strs p.n.vs):=(h.v.tch ht (fun x hx e => by have:=h.v.ge x hx; have:=h.gB; omega)).below hb
 have n6 : Nb w6 93 nb p.n.lf v1 v2 v3:=n2.tch g.tch (fun e => by have:=oi.ge _ e; have:=h.nB; omega)
 have t7:=tch_at w6 nb 2 v6
 have P0a : OwV B 9 cw' v1 _:=(h.k.tch ht (fun x hx e => by have:=h.k.ge x hx; have:=h.gB; omega)).below hb
 have P0b : OwV B 9 w6 v1 _:=P0a.tch g.tch (fun x hx e => h.ap x hx e)
 have P0 : OwV B 9 (w6.setCell ⟨nb,2,none⟩ v6) v1 _:=P0b.tch t7 (fun x hx e => by have:=h.k.ge x hx; have:=h.nB; omega)
 have P2a : OwV B 3 cw' v3 _:=(h.d.tch ht (fun x hx e => by have:=h.d.ge x hx; have:=h.gB; omega)).below hb
 have P2b : OwV B 3 w6 v3 _:=P2a.tch g.tch (fun x hx e => (h.d.apart h.v (by decide) hx) e)
 have P2 : OwV B 3 (w6.setCell ⟨nb,2,none⟩ v6) v3 _:=P2b.tch t7 (fun x hx e => by have:=h.d.ge x hx; have:=h.nB; omega)
 have O7 : OwV B 9 (w6.setCell ⟨nb,2,none⟩ v6) v6 (strs p.n.vs ++ [.string y]):=o6.tch t7 (fun x hx e => by have:=o6.ge x hx; have:=h.nB; omega)
 have x2 : SzX n0 cw' _ t':=hx.below hb
 have b6 : Below B cw' w6:=g.belowV oi hB2
 have x6 : SzX n0 w6 _ t':=x2.tch g.tch (fun e => by have:=oi.ge _ e; have:=h.gB; omega) (fun k e => by have:=oi.ge _ e; have:=h.nB; have:=h.n0; omega) (by have:=h.n0; have:=h.nB; omega)
 have x7 : SzX n0 (w6.setCell ⟨nb,2,none⟩ v6) _ t':=x6.tch t7 (fun e => h.gn e) (fun k e => by rw [e]; exact h.n0) (by have:=h.n0; have:=h.nB; have:=b6.size; omega)
 have z1 : Below n0 w w1:=ht.below (by have:=h.n0; have:=h.nB; have:=h.wB; omega) (fun k e => by rw [e]; exact h.src.new)
 have z2 : Below n0 w w6:=(z1.trans (hb.mono (by have:=h.n0; have:=h.nB; omega))).trans (b6.mono (by have:=h.n0; have:=h.nB; omega))
 have z7 : Below n0 w (w6.setCell ⟨nb,2,none⟩ v6):=z2.trans (t7.below (by have:=h.n0; have:=h.nB; have:=b6.size; omega) (fun k e => by rw [e]; exact h.n0))
 have hsz : B <= (w6.setCell ⟨nb,2,none⟩ v6).heap.size:=zn2 hB2 (zn2 b6.size t7.size)
 have O7' : OwV B 9 (w6.setCell ⟨nb,2,none⟩ v6) v6 (strs (p.n.vs ++ [y])):=by unfold strs; rw [List.map_append]; exact O7
 refine ⟨⟨n6.c2,n6.fz 2⟩,⟨x7,n6.s2 v6,P0,O7',P2,fun x hx e2 => by
  rcases hf x e2 with e | e
  ·exact h.ap x hx e
  ·have h3:=h.k.lt x hx; have h4:=ht.size; have h5:=hb.size; omega,h.gn,h.gB,h.nB,h.n0,hsz⟩,z7⟩
theorem zmg9 {B n0 : Nat} {w w1 cw' w6 : World} {g nb : Nat} {v1 v2 v3 v6 : Value} {p : Pz} {t' : List Int × Bool} {y : Int} (h : Rs B n0 w g nb v1 v2 v3 p) (ht : Tch (fun k => k = g) w w1) (hx : SzX n0 w1 g t') (hb : Below w1.heap.size w1 cw')
  (g6 : Gb B cw' w6 v3) (o6 : OwV B 3 w6 v6 (nums p.n.kd ++ [.int .i64 y])) (hf : Fsh cw' v3 v6) :
  (w6.cell? ⟨nb,3,none⟩ = some v3 /\ w6.frozen? ⟨nb,3,none⟩ = false) /\ Rs B n0 (w6.setCell ⟨nb,3,none⟩ v6) g nb v1 v2 v6 ⟨{ p.n with kd:=p.n.kd ++ [y] },t'⟩ /\ Below n0 w (w6.setCell ⟨nb,3,none⟩ v6):=by
 have g:=g6
 have n1 : Nb w1 93 nb p.n.lf v1 v2 v3:=h.nv.tch ht (fun e => h.gn e.symm)
 have n2 : Nb cw' 93 nb p.n.lf v1 v2 v3:=n1.below hb
 have hB1 : B <= w1.heap.size:=zn2 h.wB ht.size
 have hB2 : B <= cw'.heap.size:=zn2 hB1 hb.size
 have oi : OwV B 3 cw' v3 (nums p.n.kd):=(h.d.tch ht (fun x hx e => by have:=h.d.ge x hx; have:=h.gB; omega)).below hb
 have n6 : Nb w6 93 nb p.n.lf v1 v2 v3:=n2.tch g.tch (fun e => by have:=oi.ge _ e; have:=h.nB; omega)
 have t7:=tch_at w6 nb 3 v6
 have P0a : OwV B 9 cw' v1 _:=(h.k.tch ht (fun x hx e => by have:=h.k.ge x hx; have:=h.gB; omega)).below hb
 have P0b : OwV B 9 w6 v1 _:=P0a.tch g.tch (fun x hx e => (h.k.apart h.d (by decide) hx) e)
 have P0 : OwV B 9 (w6.setCell ⟨nb,3,none⟩ v6) v1 _:=P0b.tch t7 (fun x hx e => by have:=h.k.ge x hx; have:=h.nB; omega)
 have P1a : OwV B 9 cw' v2 _:=(h.v.tch ht (fun x hx e => by have:=h.v.ge x hx; have:=h.gB; omega)).below hb
 have P1b : OwV B 9 w6 v2 _:=P1a.tch g.tch (fun x hx e => (h.v.apart h.d (by decide) hx) e)
 have P1 : OwV B 9 (w6.setCell ⟨nb,3,none⟩ v6) v2 _:=P1b.tch t7 (fun x hx e => by have:=h.v.ge x hx; have:=h.nB; omega)
 have O7 : OwV B 3 (w6.setCell ⟨nb,3,none⟩ v6) v6 (nums p.n.kd ++ [.int .i64 y]):=o6.tch t7 (fun x hx e => by have:=o6.ge x hx; have:=h.nB; omega)
 have x2 : SzX n0 cw' _ t':=hx.below hb
 have b6 : Below B cw' w6:=g.belowV oi hB2
 have x6 : SzX n0 w6 _ t':=x2.tch g.tch (fun e => by have:=oi.ge _ e; have:=h.gB; omega) (fun k e => by have:=oi.ge _ e; have:=h.nB; have:=h.n0; omega) (by have:=h.n0; have:=h.nB; omega)
 have x7 : SzX n0 (w6.setCell ⟨nb,3,none⟩ v6) _ t':=x6.tch t7 (fun e => h.gn e) (fun k e => by rw [e]; exact h.n0) (by have:=h.n0; have:=h.nB; have:=b6.size; omega)
 have z1 : Below n0 w w1:=ht.below (by have:=h.n0; have:=h.nB; have:=h.wB; omega) (fun k e => by rw [e]; exact h.src.new)
 have z2 : Below n0 w w6:=(z1.trans (hb.mono (by have:=h.n0; have:=h.nB; omega))).trans (b6.mono (by have:=h.n0; have:=h.nB; omega))
 have z7 : Below n0 w (w6.setCell ⟨nb,3,none⟩ v6):=z2.trans (t7.below (by have:=h.n0; have:=h.nB; have:=b6.size; omega) (fun k e => by rw [e]; exact h.n0))
 have hsz : B <= (w6.setCell ⟨nb,3,none⟩ v6).heap.size:=zn2 hB2 (zn2 b6.size t7.size)
 have O7' : OwV B 3 (w6.setCell ⟨nb,3,none⟩ v6) v6 (nums (p.n.kd ++ [y])):=by unfold nums; rw [List.map_append]; exact O7
 refine ⟨⟨n6.c3,n6.fz 3⟩,⟨x7,n6.s3 v6,P0,P1,O7',h.ap,h.gn,h.gB,h.nB,h.n0,hsz⟩,z7⟩
end Go.Proofs.YtjhccpijpffahaaGreat
