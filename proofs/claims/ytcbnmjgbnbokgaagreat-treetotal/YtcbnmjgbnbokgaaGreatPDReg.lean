import Derived.Test.YtcbnmjgbnbokgaaGreatPRow0
import Derived.Deep.MidRow
import Derived.Deep.RegionHeld3
set_option maxRecDepth 100000
set_option linter.unusedVariables false
set_option linter.unusedSimpArgs false
set_option maxHeartbeats 8000000
namespace Go.Proofs.YtcbnmjgbnbokgaaGreat
open Go.RowKit
def opIs (ops : Array Oper) (i : Nat) (t : Option Tmp) (x : Op) : Prop:=(ops[i]?).map (fun o => (o.dst,o.op,o.guard)) = some (t,x,none)
section
variable {P : Program} {md : Region.Mode} {ops : Array Oper} {Q : Exit -> Act -> World -> Prop} {S : World -> Prop} {fuel : Nat} {listed : Array Bool} {a : Act} {w : World}
theorem opIs.get {i : Nat} {t : Option Tmp} {x : Op} (h : opIs ops i t x) : ∃ o,ops[i]? = some o /\ o.dst = t /\ o.op = x /\ o.guard = none:=by
 unfold opIs at h
 cases e : ops[i]? with
 | none => rw [e] at h; cases h
 | some o =>
  rw [e] at h
  simp only [Option.map_some,Option.some.injEq,Prod.mk.injEq] at h
  exact ⟨o,rfl,h.1,h.2.1,h.2.2⟩
theorem takeT (i : Nat) (t : Option Tmp) (x : Op) (v : Value) (hi : opIs ops i t x) (hs : Region.noSelect ops = true) (hf : Region.free md ops listed i = true) (hr : (Region.ready md ops listed).contains i = true)
  (hQ : ∀ c a w,Q (.panic c) (a.put t v) w -> Q (.panic c) a w) (hy : ∀ o : Oper,o.op = x -> ∀ w',S w' -> (execOp a.eval o).run P w' = .ok (Next.value v) w') (hS : S w)
  (h : wpAnyH P md ops Q S fuel (listed.setIfInBounds i true) (a.put t v) w) : wpAnyH P md ops Q S (fuel + 1) listed a w:=by
 obtain ⟨o,ho,rfl,rfl,hg⟩:=hi.get
 exact wpAnyH_take ho hs hf hr hQ (.inl ⟨by simp [Region.wanted,hg],fun w' hw' => hy o rfl w' hw'⟩) hS h
theorem tkT (i : Nat) (t : Option Tmp) (x : Op) (v : Value) (hy : ∀ o : Oper,o.op = x -> ∀ w',S w' -> (execOp a.eval o).run P w' = .ok (Next.value v) w') (hS : S w) (h : wpAnyH P md ops Q S fuel (listed.setIfInBounds i true) (a.put t v) w) (hi : opIs ops i t x:=by rfl) (hs : Region.noSelect ops = true:=by kernel_rfl) (hf : Region.free md ops listed i = true:=by kernel_rfl) (hr : (Region.ready md ops listed).contains i = true:=by kernel_rfl) (hQ : ∀ c a w,Q (.panic c) (a.put t v) w -> Q (.panic c) a w:=by exact fun _ _ _ h => h) : wpAnyH P md ops Q S (fuel + 1) listed a w:=takeT i t x v hi hs hf hr hQ hy hS h
theorem zcc9 (i : Nat) (t : Option Tmp) (ty : TypeId) (y : Operand) (b off : Nat) (cs : List Value) (d : TypeDesc) (hi : opIs ops i t (.load ty y)) (hs : Region.noSelect ops = true) (hf : Region.free md ops listed i = true) (hr : (Region.ready md ops listed).contains i = true)
  (hQ : ∀ c a w,Q (.panic c) (a.put t (.agg cs.toArray)) w -> Q (.panic c) a w) (hx : a.eval y = .pointer (some ⟨b,off,none⟩)) (hc : ∀ w',S w' -> w'.rangeAt b off cs) (hu : P.underlying ty = some d) (hd : d.isRow = true) (hn : (P.info? ty).map (·.size) = some cs.length) (hS : S w)
  (h : wpAnyH P md ops Q S fuel (listed.setIfInBounds i true) (a.put t (.agg cs.toArray)) w) : wpAnyH P md ops Q S (fuel + 1) listed a w:=by
 obtain ⟨o,ho,rfl,h2,hg⟩:=hi.get
 exact wpAnyH_take ho hs hf hr hQ (yieldsIf_load_mid (by simp [Region.wanted,hg]) ty y h2 b off hx cs d hc hu hd hn) hS h
def StepT (P : Program) (md : Region.Mode) (ops : Array Oper) (Q : Exit -> Act -> World -> Prop) (S : World -> Prop) (fuel : Nat) (listed : Array Bool) (a : Act) (w : World) (i : Nat) (t : Option Tmp) (x : Op) : Prop:=
 ∀ (o : Oper) (K : Act -> World -> Prop),o.dst = t -> o.op = x -> o.guard = none -> (∀ a' w',S w' -> wpAnyH P md ops Q S fuel (listed.setIfInBounds i true) a' w' -> K a' w') -> Oper.wp P o a w K Q
theorem zim9 {i : Nat} {t : Option Tmp} {x : Op} (hi : opIs ops i t x) (h : StepT P md ops Q S fuel listed a w i t x) {rs : List Nat} (hs : AllReadyH P md ops Q S fuel listed a w rs) : AllReadyH P md ops Q S fuel listed a w (i :: rs):=by
 obtain ⟨o,ho,h1,h2,hg⟩:=hi.get
 refine AllReadyH.cons ho (fun K hK => ?_) hs
 rw [if_pos (by simp [Region.wanted,hg])]
 exact h o K h1 h2 hg (fun a' w' hS hW => hK.out a' w' hS (fun _ => hW))
theorem readyT (i : Nat) (t : Option Tmp) (x : Op) (hi : opIs ops i t x) (hr : Region.ready md ops listed = [i]) (h : StepT P md ops Q S fuel listed a w i t x) : wpAnyH P md ops Q S (fuel + 1) listed a w:=
 wpAnyH_ready hr (by simp) (zim9 hi h AllReadyH.nil)
theorem rdT (i : Nat) (t : Option Tmp) (x : Op) (h : StepT P md ops Q S fuel listed a w i t x) (hi : opIs ops i t x:=by rfl) (hr : Region.ready md ops listed = [i]:=by kernel_rfl) : wpAnyH P md ops Q S (fuel + 1) listed a w:=readyT i t x hi hr h
end
end Go.Proofs.YtcbnmjgbnbokgaaGreat
