import Derived.Test.YtjhccpijpffahaaGreatPNReg
import Derived.Test.YtjhccpijpffahaaGreatPDWr
import Derived.Maps.AppendAt
set_option maxRecDepth 100000
set_option linter.unusedVariables false
set_option linter.unusedSimpArgs false
set_option maxHeartbeats 8000000
namespace Go.Proofs.YtjhccpijpffahaaGreat
open Go.RowKit Pl
abbrev En:=ByteArray × ByteArray
def ecells (ps : List En) : List Value:=ps.flatMap fun p => [Value.string p.1,Value.string p.2]
theorem zch9 (ps : List En) : (ecells ps).length = ps.length * 2:=by
 induction ps with
 | nil => rfl
 | cons p ps ih => simp only [ecells,List.flatMap_cons,List.length_append,List.length_cons,List.length_nil] at *; omega
theorem zcg9 (ps qs : List En) : ecells (ps ++ qs) = ecells ps ++ ecells qs:=by simp [ecells]
def eZ : En:=(⟨#[]⟩,⟨#[]⟩)
theorem zct9 (ps : List En) (i : Nat) (h : i < ps.length) : (ecells ps)[i * 2]? = some (.string (ps.getD i eZ).1) /\ (ecells ps)[i * 2 + 1]? = some (.string (ps.getD i eZ).2):=by
 induction ps generalizing i with
 | nil => simp at h
 | cons p ps ih =>
  have e : ecells (p :: ps) = [Value.string p.1,Value.string p.2] ++ ecells ps:=by simp [ecells]
  rw [e]
  cases i with
  | zero => exact ⟨rfl,rfl⟩
  | succ i =>
   have:=ih i (by simpa using h)
   rw [show (i + 1) * 2 = i * 2 + 2 by omega]
   simp only [List.getD_cons_succ]
   exact ⟨by simpa using this.1,by simpa using this.2⟩
def RdE (w : World) (v : Value) (ps : List En) : Prop:=
 ∃ a cap,v = .slice a ps.length cap /\ ps.length <= cap /\ cap <= maxLen /\ (a = none -> cap = 0) ∧
  (ps = [] ∨ ∃ b o,a = some ⟨b,o,none⟩ /\ ∀ i,i < ps.length -> w.cell? ⟨b,o + i * 2,none⟩ = some (.string (ps.getD i eZ).1) /\ w.cell? ⟨b,o + i * 2 + 1,none⟩ = some (.string (ps.getD i eZ).2))
def OwE (B : Nat) (w : World) (v : Value) (ps : List En) : Prop:=w.ownsRow B 72 2 v ps.length (ecells ps)
section
variable {B : Nat} {w w' : World} {v : Value} {ps : List En}
theorem owE_nil (B : Nat) (w : World) : OwE B w (.slice none 0 0) []:=World.ownsRow_nil _ _ _ _
theorem OwE.rd (h : OwE B w v ps) : RdE w v ps:=by
 have h' : w.ownsRow B 72 2 v ps.length (ecells ps):=h
 rcases h'.2 with ⟨rfl,h0⟩ | ⟨g,cap,cur,rfl,_,hg,hnc,hcm,_⟩
 ·have hx : ps = []:=List.eq_nil_of_length_eq_zero h0
  subst hx
  exact ⟨none,0,rfl,zn6 _,by unfold maxLen; omega,fun _ => rfl,.inl rfl⟩
 ·refine ⟨some ⟨g,0,none⟩,cap,rfl,hnc,hcm,fun e => (by cases e),.inr ⟨g,0,rfl,fun i hi => ?_⟩⟩
  have:=zct9 ps i hi
  rw [Nat.zero_add,h'.cellAt (i * 2) (by omega),h'.cellAt (i * 2 + 1) (by omega)]
  exact this
theorem OwE.lt (h : OwE B w v ps) : ∀ j,v.ownBlock = some j -> j < w.heap.size:=fun j hj => (World.ownsRow.lt h j hj).2
theorem OwE.ge (h : OwE B w v ps) : ∀ j,v.ownBlock = some j -> B <= j:=fun j hj => (World.ownsRow.lt h j hj).1
theorem OwE.tch {S : Nat -> Prop} (h : OwE B w v ps) (ht : Tch S w w') (hn : ∀ j,v.ownBlock = some j -> ¬ S j) : OwE B w' v ps:=by
 rcases h with ⟨h1,h2⟩
 refine ⟨h1,?_⟩
 rcases h2 with h0 | ⟨g,cap,cur,rfl,hb,hg,rest⟩
 ·exact .inl h0
 ·exact .inr ⟨g,cap,cur,rfl,hb,by rw [ht.block g (Array.getElem?_eq_some_iff.1 hg).1 (hn g rfl)]; exact hg,rest⟩
theorem OwE.below (h : OwE B w v ps) (hb : Below w.heap.size w w') : OwE B w' v ps:=h.tch (S:=fun _ => False) (Tch.of_below hb) (fun _ _ e => e)
theorem OwE.long (h : OwE B w v ps) : ∃ a cap,v = .slice a ps.length cap:=by obtain ⟨a,cap,e,_⟩:=h.rd; exact ⟨a,cap,e⟩
theorem RdE.tch {S : Nat -> Prop} (h : RdE w v ps) (ht : Tch S w w') (hn : ∀ j,v.ownBlock = some j -> ¬ S j) : RdE w' v ps:=by
 obtain ⟨a,cap,rfl,hl,hm,h0,h⟩:=h
 refine ⟨a,cap,rfl,hl,hm,h0,?_⟩
 rcases h with h | ⟨b,o,rfl,hc⟩
 ·exact .inl h
 ·refine .inr ⟨b,o,rfl,fun i hi => ?_⟩
  obtain ⟨h1,h2⟩:=hc i hi
  rw [ht.cell (p:=⟨b,o + i * 2,none⟩) (World.block_lt_of_cell? w ⟨b,o + i * 2,none⟩ h1) (hn b rfl),ht.cell (p:=⟨b,o + i * 2 + 1,none⟩) (World.block_lt_of_cell? w ⟨b,o + i * 2 + 1,none⟩ h2) (hn b rfl)]
  exact ⟨h1,h2⟩
theorem RdE.below (h : RdE w v ps) (hb : Below w.heap.size w w') : RdE w' v ps:=h.tch (S:=fun _ => False) (Tch.of_below hb) (fun _ _ e => e)
theorem RdE.len (h : RdE w v ps) : ∃ a cap,v = .slice a ps.length cap /\ ps.length <= cap /\ cap <= 9223372036854775807 /\ (a = none -> cap = 0):=by
 obtain ⟨a,cap,rfl,hl,hm,h0,h⟩:=h
 exact ⟨a,cap,rfl,hl,by unfold maxLen at hm; omega,h0⟩
theorem RdE.at {a : Option Addr} {l cap : Nat} (h : RdE w (.slice a l cap) ps) {i : Nat} (hi : i < ps.length) : ∃ b o,a = some ⟨b,o,none⟩ /\ w.cell? ⟨b,o + i * 2,none⟩ = some (.string (ps.getD i eZ).1) /\ w.cell? ⟨b,o + i * 2 + 1,none⟩ = some (.string (ps.getD i eZ).2):=by
 obtain ⟨a',cap',e,hl,hm,h0,h⟩:=h
 cases e
 rcases h with h | ⟨b,o,rfl,hc⟩
 ·rw [h] at hi; cases hi
 ·exact ⟨b,o,rfl,hc i hi⟩
end
theorem infoE : (Tryz.prog.info? 72).map (fun i => (i.zero,i.size,i.bytes)) = some (some (.agg #[.string ⟨#[]⟩,.string ⟨#[]⟩]),2,32):=by kernel_rfl
theorem znr9 (B : Nat) (w : World) (ty : TypeId) (v : Value) (ps : List En) (hown : OwE B w v ps) (g : Nat) (p : En) (h0 : w.cell? ⟨g,0,none⟩ = some (.string p.1)) (h1 : w.cell? ⟨g,1,none⟩ = some (.string p.2)) (hl : ps.length <= 1000000000) (hB : B <= w.heap.size) :
  ∃ v' w',(Builtin.append_ #[35,35] ty #[v,.slice (some ⟨g,0,none⟩) 1 1]).run Tryz.prog w = .ok v' w' /\ OwE B w' v' (ps ++ [p]) /\ Tch (fun k => v.ownBlock = some k) w w' /\ Fsh w v v':=by
 obtain ⟨i0,hi,hz0,hz1,hz2⟩:=info_parts infoE
 obtain ⟨v',w',hr,h2,h3,_,h5⟩:=run_append_own_at w B 35 ty 72 i0 _ 2 32 Tryz.underlying35 hi hz0 hz1 hz2 rfl (by decide) v ps.length (ecells ps) hown ⟨g,0,none⟩ 1 1 [.string p.1,.string p.2] rfl (fun j u hj => by
  match j,hj with
  | 0,hj => simp at hj; subst hj; simpa [Addr.add] using h0
  | 1,hj => simp at hj; subst hj; simpa [Addr.add] using h1) (fun u hu => by simp at hu; rcases hu with rfl | rfl <;> rfl) (by unfold maxLen; omega) (by omega) hB
 refine ⟨v',w',hr,?_,Tch.of_grown h3,fun k hk => ?_⟩
 ·unfold OwE
  rw [zcg9,List.length_append]
  simpa [ecells] using h2
 ·rcases h5 with e | e
  ·exact .inl (by rw [<- e]; exact hk)
  ·rw [hk] at e
   simp at e
   exact .inr (by omega)
section
variable {o : Oper} {a : Act} {w : World} {K : Act -> World -> Prop} {Q : Exit -> Act -> World -> Prop}
theorem zrn9 (s x : Operand) (ho : o.op = .call { callee:=.builtin .append,args:=#[s,x],argTypes:=#[35,35] })
  (B : Nat) (v : Value) (ps : List En) (hs : a.eval s = v) (hown : OwE B w v ps) (g : Nat) (p : En) (hx : a.eval x = .slice (some ⟨g,0,none⟩) 1 1) (h0 : w.cell? ⟨g,0,none⟩ = some (.string p.1)) (h1 : w.cell? ⟨g,1,none⟩ = some (.string p.2)) (hl : ps.length <= 1000000000) (hB : B <= w.heap.size)
  (h : ∀ v' w',OwE B w' v' (ps ++ [p]) -> Tch (fun k => v.ownBlock = some k) w w' -> Fsh w v v' -> K (a.put o.dst v') w') : Oper.wp Tryz.prog o a w K Q:=by
 obtain ⟨v',w',hr,h2,h3,h4⟩:=znr9 B w o.type v ps hown g p h0 h1 hl hB
 unfold Oper.wp
 simp [execOp,ho,resolve,invoke,builtin,hs,hx,hr,Result.andThen]
 exact h v' w' h2 h3 h4
end
end Go.Proofs.YtjhccpijpffahaaGreat
