import Derived.Test.YtcbnmjgbnbokgaaGreatPBArg
import Derived.Test.YtcbnmjgbnbokgaaGreatPRow0
import Derived.Test.YtcbnmjgbnbokgaaGreatPTBlk
import Derived.Deep.Slices
set_option maxRecDepth 100000
set_option linter.unusedVariables false
set_option linter.unusedSimpArgs false
set_option maxHeartbeats 8000000
namespace Go.Proofs.YtcbnmjgbnbokgaaGreat
open Go.RowKit Go.ChangeShapes Go.WideShapes
theorem len3T {α : Type} {l : List α} (h : l.length = 3) : ∃ a b c,l = [a,b,c]:=by
 match l,h with
 | [a,b,c],_ => exact ⟨a,b,c,rfl⟩
section
variable {H : Type} {enc : TypeId × Value -> H} {W : World} {base : Nat} {spare : Nat -> Bool} {held : Bool}
theorem zpv9 {fuel : Nat} {cs : List Value} {x : DataW H × List MemPlace} (h : DataW.trod enc Tryz.prog W base spare held fuel 69 cs = some x) :
  ∃ (u : Value) (ys : List Int),cs = [u] /\ Rd .u8 W u ys /\ By ys:=by
 rcases open_ints Tryz.underlying69 Tryz.underlying5 (by kernel_rfl) h with ⟨hcs,_⟩ | ⟨a,l,c,zs,hcs,_,hl',hm,hz,hxx,hcell,hwz⟩
 ·exact ⟨.slice none 0 0,[],hcs,⟨none,0,rfl,zn6 _,by unfold maxLen; omega,fun _ => rfl,.inl rfl⟩,zaj9 (by simp)⟩
 ·have hlz : l <= zs.length:=by rw [hz]; split <;> omega
  have e : (zs.take l).length = l:=by rw [List.length_take]; omega
  refine ⟨.slice (some a) l c,zs.take l,hcs,⟨some a,c,by rw [e],by rw [e]; exact hl',hm,(fun e => by cases e),?_⟩,zov9 (fun n hn => hwz n (List.mem_of_mem_take hn))⟩
  by_cases h0 : l = 0
  ·left; rw [h0]; rfl
  ·right
   obtain ⟨b,off,spot⟩:=a
   have hc:=hcell 0 (by omega)
   have hspot : spot = none:=by simpa [Addr.add] using World.cell?_spot hc
   subst hspot
   refine ⟨b,off,rfl,fun i hi0 => ?_⟩
   have hi : i < l:=by have h2 : i < (zs.take l).length:=hi0; rw [e] at h2; exact h2
   have:=hcell i (by omega)
   rw [Addr.add_lit] at this
   rw [this,zn3,zn3,List.getElem?_take,if_pos (by omega)]
theorem zqj9 {v : Value} {ys : List Int} (h : Rd .u8 W v ys) (h0 : ys ≠ []) {k : Nat} (hk : v.ownBlock = some k) : k < W.heap.size:=(zhe9 h).blk_lt (by simpa using h0) k hk
theorem tblks_open {fuel : Nat} {cs : List Value} {x : DataW H × List MemPlace} (h : DataW.trod enc Tryz.prog W base spare held fuel 67 cs = some x) :
  (cs = [.slice none 0 0] /\ x.1 = .nil) ∨ ∃ (a : Addr) (len cap : Nat) (ps : List (Int × Value)) (es fs : List (DataW H)),cs = [.slice (some a) len cap] /\ ps.length = len /\ RdBk W (.slice (some a) len cap) ps /\ x.1 = .slice es fs /\ es.length = len:=by
 rcases Go.Deep.open_slice Tryz.underlying67 h with ⟨h1,h2⟩ | ⟨a,len,cap,m,n,D,Pl,rfl,hb,hl,hm,hmm,rfl,hx⟩
 ·exact .inl ⟨h1,by rw [h2]⟩
 ·right
  have c4 : Tryz.prog.cellsOf 71 = 2:=by kernel_rfl
  have hlm : len <= m:=by rw [hmm]; split <;> omega
  have each : ∀ i,i < len -> ∃ d : Int × Value,W.cell? (a.add (i * 2)) = some (.int .i64 d.1) /\ W.cell? (a.add (i * 2 + 1)) = some d.2 /\ ∃ ys,Rd .u8 W d.2 ys /\ By ys:=by
   intro i hi
   obtain ⟨cs',h1,h2⟩:=hx i (by omega)
   rw [c4] at h1
   obtain ⟨_,hlen,hcell⟩:=World.cells?_some h1
   obtain ⟨k,u1,y0,y1,mm,rfl,hb,_⟩:=block_open h2
   obtain ⟨u,ys,e,r1,r2⟩:=zpv9 hb
   cases e
   have e0:=hcell 0 (by omega)
   have e1:=hcell 1 (by omega)
   rw [Go.Deep.add_add] at e0 e1
   exact ⟨(k,u1),by simpa using e0,by simpa using e1,ys,r1,r2⟩
  have hinh : Inhabited (Int × Value):=⟨(0,undef)⟩
  obtain ⟨f,hf⟩:=Go.Deep.choose_lt (α:=Int × Value) each
  refine ⟨a,len,cap,(List.range len).map f,_,_,rfl,by simp,?_,rfl,by simp⟩
  refine ⟨some a,cap,by simp,by simpa using hl,hm,?_⟩
  by_cases h0 : len = 0
  ·left; rw [h0]; rfl
  ·right
   obtain ⟨b,off,spot⟩:=a
   have hspot : spot = none:=by simpa [Addr.add] using World.cell?_spot (hf 0 (by omega)).1
   subst hspot
   refine ⟨b,off,rfl,fun i hi => ?_⟩
   have hil : i < len:=by simpa using hi
   have hg : ((List.range len).map f).getD i (0,undef) = f i:=by rw [zn3,List.getElem?_map,List.getElem?_range hil]; rfl
   rw [hg]
   obtain ⟨c0,c1,ys,r1,r2⟩:=hf i hil
   rw [Addr.add_lit] at c0 c1
   exact ⟨c0,by rw [Nat.add_assoc]; exact c1,ys,r1,r2,fun k hk h0 => zqj9 r1 h0 hk⟩
theorem tdeed_open {fuel : Nat} {cs : List Value} {x : DataW H × List MemPlace} (h : DataW.trod enc Tryz.prog W base spare held fuel 28 cs = some x) (hw : ∀ n ∈ x.1.weights Tryz.prog 28,n <= reachBytes) :
  ∃ (kd : Int) (key val : ByteArray),cs = [.int .i64 kd,.string key,.string val] /\ (Lit.int .i64 kd).wf = true /\ key.size <= 140737488351232 /\ val.size <= 140737488351232:=by
 obtain ⟨xs,n,_,hx,hl,hxl,hf⟩:=DataW.trod_struct Tryz.underlying28 h
 have hl3 : cs.length = 3:=by rw [hl]; kernel_rfl
 have hx3 : xs.length = 3:=by rw [hxl]; rfl
 clear hl hxl
 obtain ⟨y0,y1,y2,rfl⟩:=len3T hx3
 obtain ⟨v0,v1,v2,rfl⟩:=len3T hl3
 have k0 : Tryz.prog.cellsOf 3 = 1:=by kernel_rfl
 have k1 : Tryz.prog.cellsOf 9 = 1:=by kernel_rfl
 have g0 : DataW.trod enc Tryz.prog W base spare held n 3 (([v0,v1,v2].drop 0).take (Tryz.prog.cellsOf 3)) = some y0:=hf 0 _ rfl
 have g1 : DataW.trod enc Tryz.prog W base spare held n 9 (([v0,v1,v2].drop 1).take (Tryz.prog.cellsOf 9)) = some y1:=hf 1 _ rfl
 have g2 : DataW.trod enc Tryz.prog W base spare held n 9 (([v0,v1,v2].drop 2).take (Tryz.prog.cellsOf 9)) = some y2:=hf 2 _ rfl
 rw [k0] at g0
 rw [k1] at g1 g2
 obtain ⟨n0,e0,_,w0⟩:=DataW.trod_int Tryz.underlying3 g0
 obtain ⟨s1,e1,q1,_⟩:=DataW.trod_string Tryz.underlying9 g1
 obtain ⟨s2,e2,q2,_⟩:=DataW.trod_string Tryz.underlying9 g2
 simp only [List.drop_succ_cons,List.drop_zero,List.take_succ_cons,List.take_zero,List.cons.injEq,and_true] at e0 e1 e2
 subst e0 e1 e2 q1 q2
 have hx' : x.1 = .agg [y0.1,.lit (.string s1.data.toList),.lit (.string s2.data.toList)]:=by rw [hx]; rfl
 rw [hx'] at hw
 have h1:=hw s1.data.toList.length (by simp [DataW.weights,DataW.weightsEach,Tryz.underlying28])
 have h2:=hw s2.data.toList.length (by simp [DataW.weights,DataW.weightsEach,Tryz.underlying28])
 unfold reachBytes at h1 h2
 rw [Array.length_toList] at h1 h2
 exact ⟨n0,s1,s2,rfl,w0,h1,h2⟩
end
end Go.Proofs.YtcbnmjgbnbokgaaGreat
