import Derived.Test.YtjhccpijpffahaaGreatPDMap
import Derived.Test.YtjhccpijpffahaaGreatPDReg
import Derived.Great.BuildSlice
import Derived.Maps.AppendAt
import Derived.Laws.CopyOwn
set_option maxRecDepth 100000
set_option linter.unusedVariables false
set_option linter.unusedSimpArgs false
set_option maxHeartbeats 8000000
namespace Go.Proofs.YtjhccpijpffahaaGreat
open Go.RowKit Go.Maps
section
variable {o : Oper} {a : Act} {w : World} {K : Act -> World -> Prop} {Q : Exit -> Act -> World -> Prop}
end
theorem Tch.of_grown {w w' : World} {row : Option Nat} (hg : w.grownBy w' row) : Tch (fun k => row = some k) w w':=(Tch.refl _ w).grown hg (fun _ _ e => e)
def dco (s : DS) (at_ : Int) : Int:=if at_ < 0 ∨ (s.L.length : Int) <= at_ then 2 else 0
def dhs (s : DS) (at_ : Int) : List Int:=if at_ < 0 ∨ (s.L.length : Int) <= at_ then [] else s.has at_.toNat
section
variable {S : Nat -> Prop} {d : Nat} {s : DS}
def Wz (w : World) (v : Value) (xs : List Int) : Prop:=(v = .slice none 0 0 /\ xs = []) ∨ Wb w v xs
theorem Wz.rd {w : World} {v : Value} {xs : List Int} (h : Wz w v xs) : Rd .u8 w v xs:=by
 rcases h with ⟨rfl,rfl⟩ | h
 ·exact (zda9 .u8 5 w).rd
 ·exact h.rd
theorem zra9 (at_ : Int) (w : World) (h : Dk S w d s) :
  Calls Tryz.prog 109 #[dp d,.int .i64 at_] w fun e w' => ∃ v,e = .returned (.tuple #[v,.int .i64 (dco s at_)]) /\ Wz w' v (dhs s at_) /\ Below w.heap.size w w' /\ ∀ k,v.ownBlock = some k -> w.heap.size <= k:=by
 unfold dco dhs
 by_cases hb : at_ < 0 ∨ (s.L.length : Int) <= at_
 ·rw [if_pos hb,if_pos hb]
  refine (zrb9 at_ w h hb).mono ?_
  rintro e w' ⟨rfl,rfl⟩
  exact ⟨_,rfl,.inl ⟨rfl,rfl⟩,Below.refl _ _,fun k hk => by cases hk⟩
 ·rw [if_neg hb,if_neg hb]
  obtain ⟨i,rfl⟩ : ∃ i : Nat,at_ = (i : Int):=⟨at_.toNat,by omega⟩
  refine (ztn9 i w h (by omega)).mono ?_
  rintro e w' ⟨v,rfl,h1,h2,h3⟩
  exact ⟨v,rfl,.inr h1,h2,h3⟩
end
theorem DS.has_ok {S : Nat -> Prop} {w : World} {d : Nat} {s : DS} {lb vb lc : Nat} {g : Nat -> Option Value} (h : DkAt S w d s lb vb lc g) {i : Nat} (hi : i < s.L.length) : (s.has i).length = 256 /\ By (s.has i):=by
 unfold DS.has
 by_cases e : s.V i = []
 ·rw [e]; exact h.lies.1.get hi
 ·cases e2 : g i with
  | none => exact absurd (h.no i e2) e
  | some v => exact (h.yes i v e2).2.2.1.1.last e _
end Go.Proofs.YtjhccpijpffahaaGreat
