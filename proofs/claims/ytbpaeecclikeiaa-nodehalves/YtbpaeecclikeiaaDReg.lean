/-
  A region that draws its order, operation by operation; of an operation only what it does is named.
-/
import Derived.Test.YtbpaeecclikeiaaRow0
import Derived.Deep.MidRow
import Derived.Deep.RegionHeld3
namespace Go.Proofs.Ytbpaeecclikeiaa
open Go.RowKit
set_option linter.unusedVariables false

/-- Where an operation puts what it yields, and what it does. -/
def opIs (ops : Array Oper) (i : Nat) (t : Option Tmp) (x : Op) : Prop := (ops[i]?).map (fun o => (o.dst, o.op, o.guard)) = some (t, x, none)

section
variable {P : Program} {md : Region.Mode} {ops : Array Oper} {Q : Exit → Act → World → Prop} {S : World → Prop} {fuel : Nat} {listed : Array Bool} {a : Act} {w : World}

theorem opIs.get {i : Nat} {t : Option Tmp} {x : Op} (h : opIs ops i t x) : ∃ o, ops[i]? = some o ∧ o.dst = t ∧ o.op = x ∧ o.guard = none := by
  unfold opIs at h
  cases e : ops[i]? with
  | none => rw [e] at h; cases h
  | some o =>
    rw [e] at h
    simp only [Option.map_some, Option.some.injEq, Prod.mk.injEq] at h
    exact ⟨o, rfl, h.1, h.2.1, h.2.2⟩

/-- It is taken first. -/
theorem takeT (i : Nat) (t : Option Tmp) (x : Op) (v : Value) (hi : opIs ops i t x) (hs : Region.noSelect ops = true) (hf : Region.free md ops listed i = true) (hr : (Region.ready md ops listed).contains i = true)
    (hQ : ∀ c a w, Q (.panic c) (a.put t v) w → Q (.panic c) a w) (hy : ∀ o : Oper, o.op = x → ∀ w', S w' → (execOp a.eval o).run P w' = .ok (Next.value v) w') (hS : S w)
    (h : wpAnyH P md ops Q S fuel (listed.setIfInBounds i true) (a.put t v) w) : wpAnyH P md ops Q S (fuel + 1) listed a w := by
  obtain ⟨o, ho, rfl, rfl, hg⟩ := hi.get
  exact wpAnyH_take ho hs hf hr hQ (.inl ⟨by simp [Region.wanted, hg], fun w' hw' => hy o rfl w' hw'⟩) hS h

/-- The load of a whole array is taken first. -/
theorem takeArr (i : Nat) (t : Option Tmp) (ty : TypeId) (y : Operand) (b off : Nat) (cs : List Value) (d : TypeDesc) (hi : opIs ops i t (.load ty y)) (hs : Region.noSelect ops = true) (hf : Region.free md ops listed i = true) (hr : (Region.ready md ops listed).contains i = true)
    (hQ : ∀ c a w, Q (.panic c) (a.put t (.agg cs.toArray)) w → Q (.panic c) a w) (hx : a.eval y = .pointer (some ⟨b, off, none⟩)) (hc : ∀ w', S w' → w'.rangeAt b off cs) (hu : P.underlying ty = some d) (hd : d.isRow = true) (hn : (P.info? ty).map (·.size) = some cs.length) (hS : S w)
    (h : wpAnyH P md ops Q S fuel (listed.setIfInBounds i true) (a.put t (.agg cs.toArray)) w) : wpAnyH P md ops Q S (fuel + 1) listed a w := by
  obtain ⟨o, ho, rfl, h2, hg⟩ := hi.get
  exact wpAnyH_take ho hs hf hr hQ (yieldsIf_load_mid (by simp [Region.wanted, hg]) ty y h2 b off hx cs d hc hu hd hn) hS h

/-- The step of one that comes up. -/
def StepT (P : Program) (md : Region.Mode) (ops : Array Oper) (Q : Exit → Act → World → Prop) (S : World → Prop) (fuel : Nat) (listed : Array Bool) (a : Act) (w : World) (i : Nat) (t : Option Tmp) (x : Op) : Prop :=
  ∀ (o : Oper) (K : Act → World → Prop), o.dst = t → o.op = x → o.guard = none → (∀ a' w', S w' → wpAnyH P md ops Q S fuel (listed.setIfInBounds i true) a' w' → K a' w') → Oper.wp P o a w K Q

theorem stepT_ready {i : Nat} {t : Option Tmp} {x : Op} (hi : opIs ops i t x) (h : StepT P md ops Q S fuel listed a w i t x) {rs : List Nat} (hs : AllReadyH P md ops Q S fuel listed a w rs) : AllReadyH P md ops Q S fuel listed a w (i :: rs) := by
  obtain ⟨o, ho, h1, h2, hg⟩ := hi.get
  refine AllReadyH.cons ho (fun K hK => ?_) hs
  rw [if_pos (by simp [Region.wanted, hg])]
  exact h o K h1 h2 hg (fun a' w' hS hW => hK.out a' w' hS (fun _ => hW))

theorem readyT (i : Nat) (t : Option Tmp) (x : Op) (hi : opIs ops i t x) (hr : Region.ready md ops listed = [i]) (h : StepT P md ops Q S fuel listed a w i t x) : wpAnyH P md ops Q S (fuel + 1) listed a w :=
  wpAnyH_ready hr (by simp) (stepT_ready hi h AllReadyH.nil)

theorem readyT2 (i j : Nat) (t u : Option Tmp) (x y : Op) (hi : opIs ops i t x) (hj : opIs ops j u y) (hr : Region.ready md ops listed = [i, j]) (h : StepT P md ops Q S fuel listed a w i t x) (h2 : StepT P md ops Q S fuel listed a w j u y) : wpAnyH P md ops Q S (fuel + 1) listed a w :=
  wpAnyH_ready hr (by simp) (stepT_ready hi h (stepT_ready hj h2 AllReadyH.nil))
end
end Go.Proofs.Ytbpaeecclikeiaa
