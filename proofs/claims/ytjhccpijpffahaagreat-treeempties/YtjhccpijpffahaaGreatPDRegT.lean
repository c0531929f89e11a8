import Derived.Test.YtjhccpijpffahaaGreatPDReg
import Derived.StillTail
set_option maxRecDepth 100000
set_option linter.unusedVariables false
set_option linter.unusedSimpArgs false
set_option maxHeartbeats 8000000
namespace Go.Proofs.YtjhccpijpffahaaGreat
open Go.RowKit
def walkT (P : Program) (md : Region.Mode) (ops : Array Oper) (Q : Exit -> Act -> World -> Prop) (S : World -> Prop) (t : Nat) : Nat -> Array Bool -> Act -> World -> Prop
 | 0,listed,a,w => Region.ready md ops listed = [] /\ Q .normal a w
 | fuel + 1,listed,a,w => (Region.ready md ops listed = [] -> Q .normal a w) ∧
   ∀ i ∈ Region.ready md ops listed,wpOp P ops Q i (fun a' w' => (i ≠ t -> S w') /\ walkT P md ops Q S t fuel (listed.setIfInBounds i true) a' w') a w
section
variable {P : Program} {md : Region.Mode} {ops : Array Oper} {Q : Exit -> Act -> World -> Prop} {S : World -> Prop} {t : Nat} {fuel : Nat} {listed : Array Bool} {a : Act} {w : World}
theorem zhz9 : ∀ (fuel : Nat) (listed : Array Bool) (a : Act) (w : World),walkT P md ops Q S t fuel listed a w -> wpAny P md ops Q fuel listed a w
 | 0,_,_,_,h => h
 | fuel + 1,_,_,_,h => ⟨h.1,fun i hi => wpOp_mono (fun a' w' h' => zhz9 fuel _ a' w' h'.2) (h.2 i hi)⟩
theorem ziv9 {i : Nat} {oi : Oper} {v : Value} (hi : ops[i]? = some oi) (hsel : ∀ (j : Nat) (o : Oper) cs b,ops[j]? = some o -> o.op ≠ .select cs b) (hit : i ≠ t) (hwt : Region.waitsFor md ops t i = true)
  (hQ : ∀ c a w,Q (.panic c) (a.put oi.dst v) w -> Q (.panic c) a w) :
  ∀ (fuel : Nat) (listed : Array Bool) (a : Act) (w : World),
   (∀ j oj,ops[j]? = some oj -> j ≠ i -> listed.getD j true = false -> (∀ e ∈ oj.after,Region.binds md e = true -> e.on ≠ i) -> oi.apart ops oj = true) →
   i ∈ Region.ready md ops listed -> YieldsIf P ops S oi v a -> S w →
   walkT P md ops Q S t fuel (listed.setIfInBounds i true) (a.put oi.dst v) w -> walkT P md ops Q S t (fuel + 1) listed a w:=by
 intro fuel
 induction fuel with
 | zero =>
  intro listed a w _ hr hy hS H
  refine ⟨fun h => (by rw [h] at hr; cases hr),fun j hj => ?_⟩
  by_cases hji : j = i
  ·subst hji; exact hy.wpOp hi hS ⟨fun _ => hS,H⟩
  ·have:=ready_mono hj hji
   rw [H.1] at this
   cases this
 | succ fuel ih =>
  intro listed a w hfree hr hy hS H
  refine ⟨fun h => (by rw [h] at hr; cases hr),fun j hj => ?_⟩
  by_cases hji : j = i
  ·subst hji; exact hy.wpOp hi hS ⟨fun _ => hS,H⟩
  ·have h1:=H.2 j (ready_mono hj hji)
   obtain ⟨hjun,oj,hoj,hall⟩:=mem_ready.1 hj
   have hnot : ∀ e ∈ oj.after,Region.binds md e = true -> e.on ≠ i:=fun e he hb heq => by
    have h1:=hall e he hb
    have h0:=(mem_ready.1 hr).1
    rw [heq] at h1
    rcases Nat.lt_or_ge i listed.size with h' | h'
    ·simp [h'] at h0 h1; rw [h0] at h1; cases h1
    ·simp [Array.getElem?_eq_none h'] at h1
   have hjt : j ≠ t:=fun e => by
    subst e
    obtain ⟨o2,ho2,e,he,hb,ho⟩:=Region.waitsFor_spec hwt
    rw [hoj] at ho2
    cases ho2
    exact hnot e he hb ho
   have h2:=wpOp_putIf hoj (hfree j oj hoj hji hjun hnot) (fun cs b => hsel i oi cs b hi) (fun cs b => hsel j oj cs b hoj) hQ hy h1
   have hfree' : ∀ k ok,ops[k]? = some ok -> k ≠ i -> (listed.setIfInBounds j true).getD k true = false -> (∀ e ∈ ok.after,Region.binds md e = true -> e.on ≠ i) -> oi.apart ops ok = true:=fun k ok hk hki hun hno => by
    refine hfree k ok hk hki ?_ hno
    by_cases hjk : j = k
    ·subst hjk; exact hjun
    ·rw [getD_set_ne true hjk] at hun; exact hun
   refine wpOp_mono (fun a' w' h3 => ⟨h3.2.1,ih (listed.setIfInBounds j true) a' w' hfree' (ready_mono hr (Ne.symm hji)) h3.1 (h3.2.1 hjt) ?_⟩) h2
   rw [Array.setIfInBounds_comm _ _ hji]
   exact h3.2.2
theorem takeW (i : Nat) (d : Option Tmp) (x : Op) (v : Value) (hi : opIs ops i d x) (hit : (i == t) = false) (hwt : Region.waitsFor md ops t i = true) (hs : Region.noSelect ops = true) (hf : Region.free md ops listed i = true) (hr : (Region.ready md ops listed).contains i = true)
  (hQ : ∀ c a w,Q (.panic c) (a.put d v) w -> Q (.panic c) a w) (hy : ∀ o : Oper,o.op = x -> ∀ w',S w' -> (execOp a.eval o).run P w' = .ok (Next.value v) w') (hS : S w)
  (h : walkT P md ops Q S t fuel (listed.setIfInBounds i true) (a.put d v) w) : walkT P md ops Q S t (fuel + 1) listed a w:=by
 obtain ⟨o,ho,rfl,rfl,hg⟩:=hi.get
 exact ziv9 ho (Region.noSelect_spec hs) (by simpa using hit) hwt hQ fuel listed a w (Region.free_spec ho hf) (by simpa using hr) (.inl ⟨by simp [Region.wanted,hg],fun w' hw' => hy o rfl w' hw'⟩) hS h
theorem tkW (i : Nat) (d : Option Tmp) (x : Op) (v : Value) (hy : ∀ o : Oper,o.op = x -> ∀ w',S w' -> (execOp a.eval o).run P w' = .ok (Next.value v) w') (hS : S w) (h : walkT P md ops Q S t fuel (listed.setIfInBounds i true) (a.put d v) w) (hi : opIs ops i d x:=by rfl) (hit : (i == t) = false:=by rfl) (hwt : Region.waitsFor md ops t i = true:=by kernel_rfl) (hs : Region.noSelect ops = true:=by kernel_rfl) (hf : Region.free md ops listed i = true:=by kernel_rfl) (hr : (Region.ready md ops listed).contains i = true:=by kernel_rfl) (hQ : ∀ c a w,Q (.panic c) (a.put d v) w -> Q (.panic c) a w:=by exact fun _ _ _ h => h) : walkT P md ops Q S t (fuel + 1) listed a w:=takeW i d x v hi hit hwt hs hf hr hQ hy hS h
def StepW (P : Program) (md : Region.Mode) (ops : Array Oper) (Q : Exit -> Act -> World -> Prop) (S : World -> Prop) (t : Nat) (fuel : Nat) (listed : Array Bool) (a : Act) (w : World) (i : Nat) (d : Option Tmp) (x : Op) : Prop:=
 ∀ (o : Oper) (K : Act -> World -> Prop),o.dst = d -> o.op = x -> o.guard = none -> (∀ a' w',(i ≠ t -> S w') -> walkT P md ops Q S t fuel (listed.setIfInBounds i true) a' w' -> K a' w') -> Oper.wp P o a w K Q
theorem zcf9 {i : Nat} {d : Option Tmp} {x : Op} (hi : opIs ops i d x) (h : StepW P md ops Q S t fuel listed a w i d x) :
  wpOp P ops Q i (fun a' w' => (i ≠ t -> S w') /\ walkT P md ops Q S t fuel (listed.setIfInBounds i true) a' w') a w:=by
 obtain ⟨o,ho,h1,h2,hg⟩:=hi.get
 refine wpOp_step ho (fun K hK => ?_)
 rw [if_pos (by simp [Region.wanted,hg])]
 exact h o K h1 h2 hg (fun a' w' hS hW => hK a' w' ⟨hS,hW⟩)
theorem readyW (i : Nat) (d : Option Tmp) (x : Op) (hi : opIs ops i d x) (hr : Region.ready md ops listed = [i]) (h : StepW P md ops Q S t fuel listed a w i d x) : walkT P md ops Q S t (fuel + 1) listed a w:=by
 refine ⟨fun h0 => (by rw [hr] at h0; cases h0),fun j hj => ?_⟩
 rw [hr] at hj
 obtain rfl : j = i:=by simpa using hj
 exact zcf9 hi h
theorem rdW (i : Nat) (d : Option Tmp) (x : Op) (h : StepW P md ops Q S t fuel listed a w i d x) (hi : opIs ops i d x:=by rfl) (hr : Region.ready md ops listed = [i]:=by kernel_rfl) : walkT P md ops Q S t (fuel + 1) listed a w:=readyW i d x hi hr h
theorem stepY {o : Oper} {K : Act -> World -> Prop} {v : Value} (hy : (execOp a.eval o).run P w = .ok (Next.value v) w) (h : K (a.put o.dst v) w) : Oper.wp P o a w K Q:=by
 unfold Oper.wp
 simp only [hy,Oper.upon]
 exact h
theorem doneW (hr : Region.ready md ops listed = []) (h : Q .normal a w) : ∀ fuel,walkT P md ops Q S t fuel listed a w
 | 0 => ⟨hr,h⟩
 | _ + 1 => ⟨fun _ => h,by rw [hr]; simp⟩
theorem beginW {id : Nat} (hm : P.follows .mixedOrders = true) (h : walkT P .any ops Q S t ops.size (Array.replicate ops.size false) a w.drew) : (Code.region id ops true).wp P Q a w:=
 wp_region_any hm (zhz9 _ _ _ _ h)
end
end Go.Proofs.YtjhccpijpffahaaGreat
