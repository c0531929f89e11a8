import Derived.Test.YtcbnmjgbnbokgaaGreatPRow0
import Derived.Deep.Slices
import Derived.ChangeSame
import Derived.SizedLaws
set_option maxRecDepth 100000
set_option linter.unusedVariables false
set_option linter.unusedSimpArgs false
set_option maxHeartbeats 8000000
namespace Go.Proofs.YtcbnmjgbnbokgaaGreat
open Go.RowKit Pl Go.ChangeShapes Go.WideShapes
theorem len2B {α : Type} {l : List α} (h : l.length = 2) : ∃ a b,l = [a,b]:=by
 match l,h with
 | [a,b],_ => exact ⟨a,b,rfl⟩
section
variable {H : Type} {enc : TypeId × Value -> H} {W : World} {base : Nat} {spare : Nat -> Bool} {held : Bool}
theorem block_open {fuel : Nat} {cs : List Value} {x : DataW H × List MemPlace} (h : DataW.trod enc Tryz.prog W base spare held fuel 71 cs = some x) :
  ∃ (k : Int) (u1 : Value) (y0 y1 : DataW H × List MemPlace) (m : Nat),cs = [.int .i64 k,u1] /\ DataW.trod enc Tryz.prog W base spare held m 69 [u1] = some y1 /\ x.1 = .agg [y0.1,y1.1]:=by
 obtain ⟨xs,n,_,hx,hl,hxl,hf⟩:=DataW.trod_struct Tryz.underlying71 h
 have hl2 : cs.length = 2:=by rw [hl]; kernel_rfl
 have hx2 : xs.length = 2:=by rw [hxl]; rfl
 clear hl hxl
 obtain ⟨y0,y1,rfl⟩:=len2B hx2
 obtain ⟨v0,v1,rfl⟩:=len2B hl2
 have k0 : Tryz.prog.cellsOf 3 = 1:=by kernel_rfl
 have k1 : Tryz.prog.cellsOf 69 = 1:=by kernel_rfl
 have g0 : DataW.trod enc Tryz.prog W base spare held n 3 (([v0,v1].drop 0).take (Tryz.prog.cellsOf 3)) = some y0:=hf 0 _ rfl
 have g1 : DataW.trod enc Tryz.prog W base spare held n 69 (([v0,v1].drop 1).take (Tryz.prog.cellsOf 69)) = some y1:=hf 1 _ rfl
 rw [k0] at g0
 rw [k1] at g1
 obtain ⟨n1,e1,_,_⟩:=DataW.trod_int Tryz.underlying3 g0
 cases e1
 exact ⟨n1,v1,y0,y1,n,rfl,g1,by rw [hx]; rfl⟩
end
end Go.Proofs.YtcbnmjgbnbokgaaGreat
