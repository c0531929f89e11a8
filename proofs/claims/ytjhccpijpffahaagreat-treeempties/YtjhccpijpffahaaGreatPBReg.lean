import Derived.Test.YtjhccpijpffahaaGreatPDReg
import Derived.Shelf.Abstract
set_option maxRecDepth 100000
set_option linter.unusedVariables false
set_option linter.unusedSimpArgs false
set_option maxHeartbeats 8000000
namespace Go.Proofs.YtjhccpijpffahaaGreat
open Go.RowKit
def opIsG (ops : Array Oper) (i : Nat) (t : Option Tmp) (x : Op) (gd : Option (Nat × Bool)) : Prop:=(ops[i]?).map (fun o => (o.dst,o.op,o.guard)) = some (t,x,gd)
section
variable {P : Program} {md : Region.Mode} {ops : Array Oper} {Q : Exit -> Act -> World -> Prop} {S : World -> Prop} {fuel : Nat} {listed : Array Bool} {a : Act} {w : World}
theorem opIsG.get {i : Nat} {t : Option Tmp} {x : Op} {gd : Option (Nat × Bool)} (h : opIsG ops i t x gd) : ∃ o,ops[i]? = some o /\ o.dst = t /\ o.op = x /\ o.guard = gd:=by
 unfold opIsG at h
 cases e : ops[i]? with
 | none => rw [e] at h; cases h
 | some o =>
  rw [e] at h
  simp only [Option.map_some,Option.some.injEq,Prod.mk.injEq] at h
  exact ⟨o,rfl,h.1,h.2.1,h.2.2⟩
theorem zdh9 {o : Oper} {j : Nat} {b : Bool} {ys : Nat -> Option Bool} (hg : o.guard = some (j,b)) (h : ys j = some b) : Region.wanted o ys = true:=by simp [Region.wanted,hg,h]
theorem znz9 {o : Oper} {j : Nat} {b c : Bool} {ys : Nat -> Option Bool} (hg : o.guard = some (j,b)) (h : ys j = some c) (hc : c ≠ b) : Region.wanted o ys = false:=by
 simp [Region.wanted,hg,h,hc]
theorem takeG (i : Nat) (t : Option Tmp) (x : Op) (j : Nat) (b : Bool) (v : Value) (hi : opIsG ops i t x (some (j,b))) (hs : Region.noSelect ops = true) (hf : Region.free md ops listed i = true) (hr : (Region.ready md ops listed).contains i = true)
  (hQ : ∀ c a w,Q (.panic c) (a.put t v) w -> Q (.panic c) a w) (hw : yielded ops a.tmps j = some b) (hy : ∀ o : Oper,o.op = x -> ∀ w',S w' -> (execOp a.eval o).run P w' = .ok (Next.value v) w') (hS : S w)
  (h : wpAnyH P md ops Q S fuel (listed.setIfInBounds i true) (a.put t v) w) : wpAnyH P md ops Q S (fuel + 1) listed a w:=by
 obtain ⟨o,ho,rfl,rfl,hg⟩:=hi.get
 exact wpAnyH_take ho hs hf hr hQ (.inl ⟨zdh9 hg hw,fun w' hw' => hy o rfl w' hw'⟩) hS h
theorem skipG (i : Nat) (t : Option Tmp) (x : Op) (j : Nat) (b c : Bool) (hi : opIsG ops i t x (some (j,b))) (hs : Region.noSelect ops = true) (hf : Region.free md ops listed i = true) (hr : (Region.ready md ops listed).contains i = true)
  (hQ : ∀ c a w,Q (.panic c) (a.put t undef) w -> Q (.panic c) a w) (hw : yielded ops a.tmps j = some c) (hc : c ≠ b) (hS : S w)
  (h : wpAnyH P md ops Q S fuel (listed.setIfInBounds i true) (a.put t undef) w) : wpAnyH P md ops Q S (fuel + 1) listed a w:=by
 obtain ⟨o,ho,rfl,rfl,hg⟩:=hi.get
 exact wpAnyH_take ho hs hf hr hQ (.inr ⟨znz9 hg hw hc,rfl⟩) hS h
theorem zma9 (i : Nat) (t : Option Tmp) (ty : TypeId) (y : Operand) (j : Nat) (b' : Bool) (b off : Nat) (cs : List Value) (d : TypeDesc) (hi : opIsG ops i t (.load ty y) (some (j,b'))) (hs : Region.noSelect ops = true) (hf : Region.free md ops listed i = true) (hr : (Region.ready md ops listed).contains i = true)
  (hQ : ∀ c a w,Q (.panic c) (a.put t (.agg cs.toArray)) w -> Q (.panic c) a w) (hw : yielded ops a.tmps j = some b') (hx : a.eval y = .pointer (some ⟨b,off,none⟩)) (hc : ∀ w',S w' -> w'.rangeAt b off cs) (hu : P.underlying ty = some d) (hd : d.isRow = true) (hn : (P.info? ty).map (·.size) = some cs.length) (hS : S w)
  (h : wpAnyH P md ops Q S fuel (listed.setIfInBounds i true) (a.put t (.agg cs.toArray)) w) : wpAnyH P md ops Q S (fuel + 1) listed a w:=by
 obtain ⟨o,ho,rfl,h2,hg⟩:=hi.get
 exact wpAnyH_take ho hs hf hr hQ (yieldsIf_load_mid (zdh9 hg hw) ty y h2 b off hx cs d hc hu hd hn) hS h
theorem readyG (i : Nat) (t : Option Tmp) (x : Op) (j : Nat) (b : Bool) (hi : opIsG ops i t x (some (j,b))) (hr : Region.ready md ops listed = [i]) (hw : yielded ops a.tmps j = some b)
  (h : ∀ (o : Oper) (K : Act -> World -> Prop),o.dst = t -> o.op = x -> (∀ a' w',S w' -> wpAnyH P md ops Q S fuel (listed.setIfInBounds i true) a' w' -> K a' w') -> Oper.wp P o a w K Q) : wpAnyH P md ops Q S (fuel + 1) listed a w:=by
 obtain ⟨o,ho,h1,h2,hg⟩:=hi.get
 refine wpAnyH_ready hr (by simp) (AllReadyH.cons ho (fun K hK => ?_) AllReadyH.nil)
 rw [if_pos (zdh9 hg hw)]
 exact h o K h1 h2 (fun a' w' hS hW => hK.out a' w' hS (fun _ => hW))
theorem zd9 {o : Oper} {K : Act -> World -> Prop} {f : FuncId} {xs : Array Operand} {ts : Array TypeId} (hf : Enters P f)
  (ho : o.op = .call { callee:=.value (.func f),args:=xs,argTypes:=ts }) {vs : Array Value} (hv : xs.map a.eval = vs) {R : Ending -> World -> Prop} (hc : Calls P f vs w R)
  (h : ∀ e w',R e w' -> ∃ v,e = .returned v /\ K (a.put o.dst v) w') : Oper.wp P o a w K Q:=by
 have hrun : (execOp a.eval o).run P w = .ok (.enter f vs) w:=by
  have h1:=hf vs w
  simp [execOp,ho,resolve,invoke,hv,Act.eval,Deferred.ofValue,h1]
 unfold Oper.wp
 rw [hrun]
 refine hc.mono ?_
 intro e w' hR
 obtain ⟨v,rfl,hk⟩:=h e w' hR
 exact hk
end
end Go.Proofs.YtjhccpijpffahaaGreat
