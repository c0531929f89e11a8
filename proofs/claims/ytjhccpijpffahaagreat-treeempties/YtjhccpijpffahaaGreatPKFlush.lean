import Derived.Test.YtjhccpijpffahaaGreatPKOwn
import Derived.Test.YtjhccpijpffahaaGreatPKMem
import Derived.Test.YtjhccpijpffahaaGreatPDDirty
set_option maxRecDepth 100000
set_option linter.unusedVariables false
set_option linter.unusedSimpArgs false
set_option maxHeartbeats 8000000
namespace Go.Proofs.YtjhccpijpffahaaGreat
open Go.RowKit Go.Maps
structure Cz (X S : Nat -> Prop) (w : World) (c d N : Nat) (s : CS) (D : DS) : Prop where
 ch : Ch X w c d N s
 dk : Dk S w d D
 len : D.L.length = N
 ap : ∀ k,X k -> ¬ S k
def CzTo (X S : Nat -> Prop) (w w' : World) (c d N : Nat) (s : CS) (D : DS) : Prop:=
 ∃ X' S',Cz X' S' w' c d N s D /\ Tch (fun k => X k ∨ S k) w w' /\ (∀ k,X' k -> X k ∨ w.heap.size <= k) /\ (∀ k,S' k -> S k ∨ w.heap.size <= k)
section
variable {X S : Nat -> Prop} {w w' : World} {c d N : Nat} {s s' : CS} {D D' : DS}
theorem Cz.tch (h : Cz X S w c d N s D) {R : Nat -> Prop} (ht : Tch R w w') (hX : ∀ k,X k -> ¬ R k) (hS : ∀ k,S k -> ¬ R k) : Cz X S w' c d N s D:=⟨h.ch.tch ht hX,h.dk.tch ht hS,h.len,h.ap⟩
theorem Cz.below (h : Cz X S w c d N s D) (hb : Below w.heap.size w w') : Cz X S w' c d N s D:=h.tch (R:=fun _ => False) (Tch.of_below hb) (fun _ _ e => e) (fun _ _ e => e)
theorem Cz.chTo (h : Cz X S w c d N s D) (hc : ChTo X w w' c d N s') : CzTo X S w w' c d N s' D:=by
 obtain ⟨X',h1,h2,h3⟩:=hc
 refine ⟨X',S,⟨h1,h.dk.tch h2 (fun k hk e => h.ap k e hk),h.len,fun k hk hs => ?_⟩,h2.mono (fun k _ e => .inl e),h3,fun k e => .inl e⟩
 rcases h3 k hk with e | e
 ·exact h.ap k e hs
 ·have:=h.dk.slt k hs; omega
end
end Go.Proofs.YtjhccpijpffahaaGreat
