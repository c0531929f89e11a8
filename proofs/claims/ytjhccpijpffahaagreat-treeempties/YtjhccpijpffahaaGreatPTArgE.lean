import Derived.Test.YtjhccpijpffahaaGreatPTEnt
import Derived.SizedLaws
import Derived.Deep.Slices
import Derived.OpenShut
import Derived.ShutString
import Derived.ChangeOld
set_option maxRecDepth 100000
set_option linter.unusedVariables false
set_option linter.unusedSimpArgs false
set_option maxHeartbeats 8000000
namespace Go.Proofs.YtjhccpijpffahaaGreat
open Go.RowKit Go.ChangeShapes Go.WideShapes
theorem len2E {α : Type} {l : List α} (h : l.length = 2) : ∃ a b,l = [a,b]:=by
 match l,h with
 | [a,b],_ => exact ⟨a,b,rfl⟩
theorem zdi9 {P : Program} {H : Type} {e : TypeId} {d : DataW H} {l : List (DataW H)} (h : d ∈ l) : ∀ n ∈ d.weights P e,n ∈ DataW.weightsAll P e l:=by
 induction l with
 | nil => cases h
 | cons x r ih =>
  intro n hn
  simp only [DataW.weightsAll,List.mem_append]
  rcases List.mem_cons.1 h with rfl | h
  ·exact .inl hn
  ·exact .inr (ih h n hn)
section
variable {H : Type} {enc : TypeId × Value -> H} {W : World} {base : Nat} {spare : Nat -> Bool} {held : Bool}
theorem zpv9 {fuel : Nat} {cs : List Value} {x : DataW H × List MemPlace} (h : DataW.trod enc Tryz.prog W base spare held fuel 72 cs = some x) :
  ∃ (p : ByteArray × ByteArray),cs = [.string p.1,.string p.2] /\ x.1 = .agg [.lit (.string p.1.data.toList),.lit (.string p.2.data.toList)]:=by
 obtain ⟨xs,n,_,hx,hl,hxl,hf⟩:=DataW.trod_struct Tryz.underlying72 h
 have hl3 : cs.length = 2:=by rw [hl]; kernel_rfl
 have hx3 : xs.length = 2:=by rw [hxl]; rfl
 clear hl hxl
 obtain ⟨y0,y1,rfl⟩:=len2E hx3
 obtain ⟨v0,v1,rfl⟩:=len2E hl3
 have k1 : Tryz.prog.cellsOf 9 = 1:=by kernel_rfl
 have g0 : DataW.trod enc Tryz.prog W base spare held n 9 (([v0,v1].drop 0).take (Tryz.prog.cellsOf 9)) = some y0:=hf 0 _ rfl
 have g1 : DataW.trod enc Tryz.prog W base spare held n 9 (([v0,v1].drop 1).take (Tryz.prog.cellsOf 9)) = some y1:=hf 1 _ rfl
 rw [k1] at g0 g1
 obtain ⟨s1,e1,q1,_⟩:=DataW.trod_string Tryz.underlying9 g0
 obtain ⟨s2,e2,q2,_⟩:=DataW.trod_string Tryz.underlying9 g1
 simp only [List.drop_succ_cons,List.drop_zero,List.take_succ_cons,List.take_zero,List.cons.injEq,and_true] at e1 e2
 subst e1 e2 q1 q2
 exact ⟨(s1,s2),rfl,by rw [hx]; rfl⟩
theorem tents_open {fuel : Nat} {cs : List Value} {x : DataW H × List MemPlace} (h : DataW.trod enc Tryz.prog W base spare held fuel 35 cs = some x) :
  (cs = [.slice none 0 0] /\ x.1 = .nil) ∨ ∃ (a : Addr) (len cap : Nat) (ps : List (ByteArray × ByteArray)) (es fs : List (DataW H)),cs = [.slice (some a) len cap] /\ ps.length = len /\ RdE W (.slice (some a) len cap) ps /\ x.1 = .slice es fs /\ es.length = len ∧
   ((∀ n ∈ x.1.weights Tryz.prog 35,n <= reachBytes) -> ∀ e ∈ ps,e.1.size <= 140737488351232 /\ e.2.size <= 140737488351232):=by
 rcases Go.Deep.open_slice Tryz.underlying35 h with ⟨h1,h2⟩ | ⟨a,len,cap,m,n,D,Pl,rfl,hb,hl,hm,hmm,rfl,hx⟩
 ·exact .inl ⟨h1,by rw [h2]⟩
 ·right
  have c4 : Tryz.prog.cellsOf 72 = 2:=by kernel_rfl
  have hlm : len <= m:=by rw [hmm]; split <;> omega
  have each : ∀ i,i < len -> ∃ d : ByteArray × ByteArray,W.cell? (a.add (i * 2)) = some (.string d.1) /\ W.cell? (a.add (i * 2 + 1)) = some (.string d.2) /\ D i = .agg [.lit (.string d.1.data.toList),.lit (.string d.2.data.toList)]:=by
   intro i hi
   obtain ⟨cs',h1,h2⟩:=hx i (by omega)
   rw [c4] at h1
   obtain ⟨_,hlen,hcell⟩:=World.cells?_some h1
   obtain ⟨p,rfl,hd⟩:=zpv9 h2
   have e0:=hcell 0 (by omega)
   have e1:=hcell 1 (by omega)
   rw [Go.Deep.add_add] at e0 e1
   exact ⟨p,by simpa using e0,by simpa using e1,hd⟩
  have hinh : Inhabited (ByteArray × ByteArray):=⟨eZ⟩
  obtain ⟨f,hf⟩:=Go.Deep.choose_lt (α:=ByteArray × ByteArray) each
  refine ⟨a,len,cap,(List.range len).map f,_,_,rfl,by simp,?_,rfl,by simp,?_⟩
  ·refine ⟨some a,cap,by simp,by simpa using hl,hm,(fun e => by cases e),?_⟩
   by_cases h0 : len = 0
   ·left; rw [h0]; rfl
   ·right
    obtain ⟨b,off,spot⟩:=a
    have hspot : spot = none:=by simpa [Addr.add] using World.cell?_spot (hf 0 (by omega)).1
    subst hspot
    refine ⟨b,off,rfl,fun i hi => ?_⟩
    have hil : i < len:=by simpa using hi
    have hg : ((List.range len).map f).getD i eZ = f i:=by rw [zn3,List.getElem?_map,List.getElem?_range hil]; rfl
    rw [hg]
    obtain ⟨c0,c1,_⟩:=hf i hil
    rw [Addr.add_lit] at c0 c1
    exact ⟨c0,by rw [Nat.add_assoc]; exact c1⟩
  ·intro hw e he
   obtain ⟨i,hi,rfl⟩:=List.mem_map.1 he
   have hil : i < len:=by simpa using hi
   obtain ⟨_,_,hd⟩:=hf i hil
   have hmem : D i ∈ (List.range len).map D:=List.mem_map.2 ⟨i,hi,rfl⟩
   have q : ∀ n ∈ (D i).weights Tryz.prog 72,n <= reachBytes:=fun n hn => hw n (by
    simp only [DataW.weights,Tryz.underlying35,List.mem_cons,List.mem_append]
    exact .inr (.inl (zdi9 hmem n hn)))
   rw [hd] at q
   have h1:=q (f i).1.data.toList.length (by simp [DataW.weights,DataW.weightsEach,Tryz.underlying72])
   have h2:=q (f i).2.data.toList.length (by simp [DataW.weights,DataW.weightsEach,Tryz.underlying72])
   unfold reachBytes at h1 h2
   rw [Array.length_toList] at h1 h2
   exact ⟨h1,h2⟩
end
end Go.Proofs.YtjhccpijpffahaaGreat
