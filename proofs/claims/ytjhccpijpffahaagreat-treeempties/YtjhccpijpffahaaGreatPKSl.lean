import Derived.Test.YtjhccpijpffahaaGreatPKLay
import Derived.Test.YtjhccpijpffahaaGreatPDBs
import Derived.Laws.IdiomCopy
import Derived.Lib.SlBuf
set_option maxRecDepth 100000
set_option linter.unusedVariables false
set_option linter.unusedSimpArgs false
set_option maxHeartbeats 8000000
namespace Go.Proofs.YtjhccpijpffahaaGreat
open Go.RowKit Go.Sort Go.Shelf
abbrev OwnsK (w : World) (v : Value) (xs : List Int) : Prop:=Owns .i64 3 w v xs
theorem zni9 {w : World} {g n cap : Nat} {xs ys : List Int} (q : Nat) (h : OwnsK w (.slice (some ⟨g,0,none⟩) n cap) xs) (hl : ys.length = xs.length) {m : Nat} (hm : m <= ys.length) :
  OwnsK ((w.drewN q).setCells g 0 (ys.map (Value.int .i64))) (.slice (some ⟨g,0,none⟩) m cap) (ys.take m) /\ Tch (fun k => k = g) w ((w.drewN q).setCells g 0 (ys.map (Value.int .i64))):=by
 have h' : w.ownsRow 0 3 1 (.slice (some ⟨g,0,none⟩) n cap) xs.length (xs.map (Value.int .i64)):=h
 have t0 : Tch (fun k => k = g) w (w.drewN q):=⟨rfl,rfl,rfl,zn6 _,fun _ _ _ => rfl⟩
 refine ⟨?_,t0.trans (zb9 g _ 0 _) (fun _ _ e => e)⟩
 rcases h'.2 with ⟨e,_⟩ | ⟨g',c,cur,e,_,hg,h1,h2,h3,h4⟩
 ·cases e
 ·simp only [Value.slice.injEq,Option.some.injEq,Addr.mk.injEq,and_true] at e
  obtain ⟨rfl,rfl,rfl⟩:=e
  have hs:=zk9 (ys.map (Value.int .i64)) 0 (w.drewN q) cur hg (by rw [List.length_map]; omega)
  have hl2 : (ys.take m).length = m:=by rw [List.length_take]; omega
  refine ⟨by simp,.inr ⟨g,cap,_,by rw [hl2],zn7 _,hs,by omega,h2,?_,?_⟩⟩
  ·simp only [List.size_toArray,List.length_append,List.length_take,List.length_drop,List.length_map,Array.length_toList]
   omega
  ·rw [hl2]
   simp only [List.take_zero,List.nil_append,List.length_map,Nat.zero_add,Nat.mul_one]
   rw [List.take_append_of_le_length (by rw [List.length_map]; omega),List.map_take]
theorem zsa9 (v : Value) (xs : List Int) (i : Nat) (w : World) (h : OwnsK w v xs) (hi : i < xs.length) :
  Calls Tryz.prog 93 #[v,.int .i64 (i : Int),.int .i64 ((i : Int) + 1)] w fun e w' => ∃ v',e = .returned v' /\ OwnsK w' v' (xs.eraseIdx i) /\ v'.ownBlock = v.ownBlock /\ Tch (fun k => v.ownBlock = some k) w w':=by
 obtain ⟨g,cap,rfl,hg,hc1,hc2,hc,hf⟩:=h.shape (by omega)
 have H:=AnyG.slices_Delete_int_cells Tryz.delA g 0 xs.length cap i (i + 1) xs w (zn6 _) hc1 (by unfold maxLen at hc2; omega) (by omega) (by omega) (fun j hj => by rw [Nat.zero_add]; exact hc j hj) (fun j _ => by rw [Nat.zero_add]; exact hf j)
 refine H.mono ?_
 rintro e w' ⟨rfl,q,rfl⟩
 have e1 : (List.take xs.length xs).take i ++ (List.take xs.length xs).drop (i + 1) ++ List.replicate (i + 1 - i) 0 = xs.eraseIdx i ++ [0]:=by
  rw [zn5 (zn6 _),List.eraseIdx_eq_take_drop_succ,show i + 1 - i = 1 by omega]
  rfl
 rw [e1]
 have hle : (xs.eraseIdx i).length = xs.length - 1:=by rw [List.length_eraseIdx,if_pos hi]
 have:=zni9 q h (ys:=xs.eraseIdx i ++ [0]) (by rw [List.length_append,hle,List.length_singleton]; omega) (m:=xs.length - (i + 1 - i)) (by rw [List.length_append,hle]; omega)
 rw [List.take_append_of_le_length (by omega),zn5 (by omega)] at this
 exact ⟨_,rfl,this.1,rfl,this.2.mono (fun k _ e => by rw [e]; rfl)⟩
def Fst (p : Int -> Bool) (xs : List Int) (z : Int) : Prop:=
 (z = -1 /\ ∀ j,j < xs.length -> p (xs.getD j 0) = false) ∨ ∃ k,k < xs.length /\ z = (k : Int) /\ p (xs.getD k 0) = true /\ ∀ j,j < k -> p (xs.getD j 0) = false
theorem zsp9 (g : Nat) (lb : Array Value) (p : Int -> Bool) (v : Value) (xs : List Int) (w : World) (h : OwnsK w v xs) (eg : ∀ args w,(callFunc g args).run Tryz.prog w = .ok (.enter g args) w) (hp : PredAt Tryz.prog g lb (Value.int .i64) p w) :
  Calls Tryz.prog 91 #[v,.func (.func g) #[] lb] w fun e w' => ∃ z,e = .returned (.int .i64 z) /\ Fst p xs z /\ ∃ q,w' = w.drewN q:=by
 by_cases h0 : xs.length = 0
 ·have hx : xs = []:=List.eq_nil_of_length_eq_zero h0
  subst hx
  obtain ⟨a,cap,rfl,_⟩:=h.rd
  refine (AnyE.slices_IndexFunc_empty Tryz.idxA a cap _ w).mono ?_
  rintro e w' ⟨rfl,rfl⟩
  exact ⟨-1,rfl,.inl ⟨rfl,fun j hj => by simp at hj⟩,0,rfl⟩
 ·obtain ⟨b,cap,rfl,hg,hc1,hc2,hc,hf⟩:=h.shape (by omega)
  have H:=AnyE.slices_IndexFunc (α:=Int) Tryz.idxA (Value.int .i64) p g lb eg b 0 xs.length cap xs w hp (zn6 _) (by unfold maxLen at hc2; omega) (fun j hj => by
   rw [Nat.zero_add,hc j hj,zn3,List.getElem?_eq_getElem hj,getElem!_pos xs j hj]
   rfl)
  refine H.mono ?_
  rintro e w' ⟨rfl,q,rfl⟩
  rw [zn5 (zn6 _)]
  have gd : ∀ j,j < xs.length -> xs[j]! = xs.getD j 0:=fun j hj => by rw [zn3,List.getElem?_eq_getElem hj,getElem!_pos xs j hj]; rfl
  refine ⟨_,rfl,?_,q,rfl⟩
  rcases idxByFrom_spec (fun _ y => p y) (default : Int) xs 0 with ⟨e1,ha⟩ | ⟨k,hk,e1,ht,ha⟩
  ·exact .inl ⟨e1,fun j hj => by rw [<- gd j hj]; exact ha j hj⟩
  ·exact .inr ⟨k,hk,by unfold Lib.idxBy; rw [e1]; simp,by rw [<- gd k hk]; exact ht,fun j hj => by rw [<- gd j (by omega)]; exact ha j hj⟩
end Go.Proofs.YtjhccpijpffahaaGreat
