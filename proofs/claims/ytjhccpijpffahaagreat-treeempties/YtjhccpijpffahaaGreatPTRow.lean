import Derived.Test.YtjhccpijpffahaaGreatPNReg
import Derived.Laws.IdiomCopy
import Derived.Lib.SliceRun
import Derived.Lib.AppendZerosOnto
set_option maxRecDepth 100000
set_option linter.unusedVariables false
set_option linter.unusedSimpArgs false
set_option maxHeartbeats 8000000
namespace Go.Proofs.YtjhccpijpffahaaGreat
open Go.RowKit Pl
def Rw (e : TypeId) (w : World) (g : Nat) (cur : List Value) : Prop:=w.heap[g]? = some (.cells cur.toArray e (0,0))
section
variable {B : Nat} {e : TypeId} {w w' : World} {v : Value} {cs : List Value} {g cap n : Nat} {cur : List Value}
theorem OwV.rows (h : OwV B e w v cs) : (v = .slice none 0 0 /\ cs = []) ∨ ∃ g cap cur,v = .slice (some ⟨g,0,none⟩) cs.length cap /\ B <= g /\ Rw e w g cur /\ cs.length <= cap /\ cap <= maxLen /\ cur.length = cap /\ cur.take cs.length = cs:=by
 rcases h.2 with ⟨h0,h1⟩ | ⟨g,cap,cur,rfl,hb,hg,h1,h2,h3,h4⟩
 ·exact .inl ⟨h0,List.eq_nil_of_length_eq_zero h1⟩
 ·refine .inr ⟨g,cap,cur.toList,rfl,hb,by unfold Rw; rw [Array.toArray_toList]; exact hg,h1,h2,by rw [Array.length_toList]; omega,by rw [Nat.mul_one] at h4; exact h4⟩
theorem Rw.owV (hg : Rw e w g cur) (hB : B <= g) (hc : cur.length = cap) (hm : cap <= maxLen) (hn : n <= cap) (ht : cur.take n = cs) : OwV B e w (.slice (some ⟨g,0,none⟩) n cap) cs:=by
 have hl : cs.length = n:=by rw [<- ht,List.length_take]; omega
 subst hl
 exact ⟨by simp,.inr ⟨g,cap,cur.toArray,rfl,hB,hg,hn,hm,by simp; exact hc,by rw [Nat.mul_one]; exact ht⟩⟩
theorem Rw.cell (hg : Rw e w g cur) (j : Nat) : w.cell? ⟨g,j,none⟩ = cur[j]?:=by rw [cell_of_row w g j _ _ (0,0) hg,List.getElem?_toArray]
theorem Rw.there (hg : Rw e w g cur) {j : Nat} (hj : j < cur.length) : (w.cell? ⟨g,j,none⟩).isSome = true:=by rw [hg.cell,List.getElem?_eq_getElem hj]; rfl
theorem Rw.fz (hg : Rw e w g cur) (j : Nat) : w.frozen? ⟨g,j,none⟩ = false:=frozen_of_row w g j _ _ hg
theorem Rw.shape (hg : Rw e w g cur) : w.shape? g = some (e,cur.length):=by unfold World.shape?; rw [hg]; simp
theorem Rw.lt (hg : Rw e w g cur) : g < w.heap.size:=(Array.getElem?_eq_some_iff.1 hg).1
theorem Rw.set (hg : Rw e w g cur) {o : Nat} {vs : List Value} (hl : o + vs.length <= cur.length) : Rw e (w.setCells g o vs) g (cur.take o ++ (vs ++ cur.drop (o + vs.length))):=by
 have:=zk9 vs o w cur.toArray hg (by simpa using hl)
 unfold Rw
 rw [this,List.append_assoc]
theorem Rw.drew (hg : Rw e w g cur) : Rw e w.drew g cur:=hg
theorem Rw.tch {S : Nat -> Prop} (hg : Rw e w g cur) (ht : Tch S w w') (hn : ¬ S g) : Rw e w' g cur:=by unfold Rw; rw [ht.block g hg.lt hn]; exact hg
theorem Rw.new (w : World) (e : TypeId) (cur : List Value) : Rw e (w.alloc (.cells cur.toArray e)) w.heap.size cur:=heap_alloc_new w _
end
structure Trn (B : Nat) (e : TypeId) (w w' : World) (v v' : Value) (cs : List Value) : Prop where
 ow : OwV B e w' v' cs
 tc : Tch (fun k => v.ownBlock = some k) w w'
 fs : Fsh w v v'
theorem zp9 (S : Nat -> Prop) (w : World) : Tch S w w.drew:=⟨rfl,rfl,rfl,zn6 _,fun _ _ _ => rfl⟩
theorem zbg9 (S : Nat -> Prop) (w : World) (o : Obj) : Tch S w (w.alloc o):=Tch.of_below (za9 w o)
theorem zm9 {z : Value} (hz : z.cells = #[z]) (k : Nat) : (Builtin.zeroCells z.cells k).toList = List.replicate k z:=by
 rw [hz]
 simp [Builtin.zeroCells]
 apply List.ext_getElem
 ·simp
 ·intro i h1 h2
  simp [Nat.mod_one]
theorem zs9 {x : Int} {t : Nat} (h : x = (t : Int)) (ht : t <= 4611686018427387904) : wrap64 x = (t : Int):=by unfold wrap64; omega
theorem wk_nat {x : Int} {t : Nat} (h : x = (t : Int)) (ht : t <= 4611686018427387904) : IntKind.i64.wrap x = (t : Int):=by rw [IntKind.wrap_i64]; omega
theorem zbf9 {x : Int} (h : -4611686018427387904 <= x) (ht : x <= 4611686018427387904) : IntKind.i64.wrap x = x:=by rw [IntKind.wrap_i64]; omega
theorem zl9 {α : Type} {a b : List α} {n : Nat} (h : a.length = n) : (a ++ b).take n = a:=by rw [List.take_append_of_le_length (by omega),zn5 (by omega)]
theorem zjq9 {α : Type} {a b : List α} {n : Nat} (h : a.length = n) : (a ++ b).drop n = b:=by rw [List.drop_append_of_le_length (by omega),List.drop_of_length_le (by omega),List.nil_append]
end Go.Proofs.YtjhccpijpffahaaGreat
