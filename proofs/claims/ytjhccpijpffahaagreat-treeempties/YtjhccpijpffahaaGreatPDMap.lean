import Derived.Test.YtjhccpijpffahaaGreatPDBs
import Derived.Maps.Own
import Derived.Maps.OwnSet
import Derived.Maps.RangeWalk
import Derived.Maps.Views
import Derived.Maps.Ext
import Derived.Test.YtjhccpijpffahaaGreatPRow0
set_option maxRecDepth 100000
set_option linter.unusedVariables false
set_option linter.unusedSimpArgs false
set_option maxHeartbeats 8000000
namespace Go.Proofs.YtjhccpijpffahaaGreat
open Go.RowKit Go.Maps
def Rv (v : Value) : Option (DataW Value × List MemPlace):=some (.held v,[])
def ents (n : Nat) (g : Nat -> Option Value) : List (Lit × DataW Value):=(List.range n).filterMap fun i => (g i).map fun v => (Lit.int .i64 (i : Int),DataW.held v)
def Dm (n : Nat) (g : Nat -> Option Value) : DataW Value:=.map (ents n g)
theorem zcb9 {n : Nat} {g : Nat -> Option Value} {p : Lit × DataW Value} : p ∈ ents n g ↔ ∃ i v,i < n /\ g i = some v /\ p = (Lit.int .i64 (i : Int),DataW.held v):=by
 unfold ents
 rw [List.mem_filterMap]
 constructor
 ·rintro ⟨i,hi,h⟩
  cases e : g i with
  | none => rw [e] at h; cases h
  | some v => rw [e] at h; simp at h hi; exact ⟨i,v,hi,e,h.symm⟩
 ·rintro ⟨i,v,hi,e,rfl⟩
  exact ⟨i,by simpa using hi,by rw [e]; rfl⟩
theorem zif9 (n : Nat) (g : Nat -> Option Value) : (ents n g).Pairwise (fun p q => p.1.before q.1 = true):=by
 unfold ents
 rw [List.pairwise_filterMap]
 refine List.Pairwise.imp ?_ List.pairwise_lt_range
 intro i j hij p hp q hq
 cases e : g i with
 | none => rw [e] at hp; cases hp
 | some v =>
  cases e2 : g j with
  | none => rw [e2] at hq; cases hq
  | some u =>
   rw [e] at hp
   rw [e2] at hq
   simp at hp hq
   subst hp
   subst hq
   simp [Lit.before]
   exact hij
theorem zjo9 (n : Nat) (g : Nat -> Option Value) : Canon (Dm n g):=⟨_,rfl,zif9 n g,fun p hp => by
 obtain ⟨i,v,_,_,rfl⟩:=zcb9.1 hp
 trivial⟩
theorem dm_has {n : Nat} {g : Nat -> Option Value} {kl : Lit} : Maps.has (Dm n g) kl = true ↔ ∃ i v,i < n /\ g i = some v /\ kl = Lit.int .i64 (i : Int):=by
 unfold Dm
 rw [has_eq,List.any_eq_true]
 constructor
 ·rintro ⟨p,hp,hs⟩
  obtain ⟨i,v,hi,hg,rfl⟩:=zcb9.1 hp
  exact ⟨i,v,hi,hg,(WideAt.sameKey_eq hs).symm⟩
 ·rintro ⟨i,v,hi,hg,rfl⟩
  exact ⟨_,zcb9.2 ⟨i,v,hi,hg,rfl⟩,by simp [Lit.sameKey]⟩
theorem dm_at {n : Nat} {g : Nat -> Option Value} {i : Nat} {v : Value} (hi : i < n) (hg : g i = some v) (z : DataW Value) : (Dm n g).atKey (Lit.int .i64 (i : Int)) z = .held v:=by
 unfold Dm DataW.atKey
 cases e : (ents n g).find? (fun p => p.1.sameKey (Lit.int .i64 (i : Int))) with
 | none =>
  have h:=List.find?_eq_none.1 e _ (zcb9.2 ⟨i,v,hi,hg,rfl⟩)
  simp [Lit.sameKey] at h
 | some p =>
  have h1:=List.find?_some e
  have h2:=List.mem_of_find?_eq_some e
  obtain ⟨j,u,_,hu,rfl⟩:=zcb9.1 h2
  have h3:=WideAt.sameKey_eq h1
  simp at h3
  have h3 : j = i:=by omega
  subst h3
  rw [hg] at hu
  cases hu
  simp only [e]
theorem dm_not {n : Nat} {g : Nat -> Option Value} {i : Nat} (hg : g i = none) (z : DataW Value) : (Dm n g).atKey (Lit.int .i64 (i : Int)) z = z:=by
 refine atKey_of_not_has ?_ z
 rw [Bool.eq_false_iff]
 intro h
 obtain ⟨j,v,_,hj,e⟩:=dm_has.1 h
 simp at e
 have e : i = j:=by omega
 subst e
 rw [hg] at hj
 cases hj
def gput (g : Nat -> Option Value) (i : Nat) (v : Option Value) (j : Nat) : Option Value:=if j = i then v else g j
theorem dm_ext {D : DataW Value} {n : Nat} {g : Nat -> Option Value} (hc : Canon D) (hh : ∀ k,Maps.has D k = true ↔ Maps.has (Dm n g) k = true) (ha : ∀ i v,i < n -> g i = some v -> ∀ z,D.atKey (Lit.int .i64 (i : Int)) z = .held v) : D = Dm n g:=by
 refine Maps.ext hc (zjo9 n g) (fun k => by rw [Bool.eq_iff_iff]; exact hh k) (fun k z h => ?_)
 obtain ⟨i,v,hi,hg,rfl⟩:=dm_has.1 ((hh k).1 h)
 rw [ha i v hi hg z,dm_at hi hg z]
theorem dm_put {n : Nat} {g : Nat -> Option Value} {i : Nat} (hi : i < n) (v : Value) (hc : Canon ((Dm n g).put (Lit.int .i64 (i : Int)) (.held v))) : (Dm n g).put (Lit.int .i64 (i : Int)) (.held v) = Dm n (gput g i (some v)):=by
 have hm : IsMap (Dm n g):=⟨_,rfl⟩
 have hk : WideAt.IsKeyLit (Lit.int .i64 (i : Int)):=trivial
 refine dm_ext hc (fun k => ?_) (fun j u hj hu z => ?_)
 ·by_cases e : k = Lit.int .i64 (i : Int)
  ·subst e
   rw [has_put_same hm hk]
   exact ⟨fun _ => dm_has.2 ⟨i,v,hi,by simp [gput],rfl⟩,fun _ => rfl⟩
  ·rw [has_put_other e,dm_has,dm_has]
   constructor
   ·rintro ⟨j,u,hj,hu,rfl⟩
    have : j ≠ i:=fun h => e (by rw [h])
    exact ⟨j,u,hj,by simp [gput,this,hu],rfl⟩
   ·rintro ⟨j,u,hj,hu,rfl⟩
    have : j ≠ i:=fun h => e (by rw [h])
    simp [gput,this] at hu
    exact ⟨j,u,hj,hu,rfl⟩
 ·by_cases e : j = i
  ·subst e
   simp [gput] at hu
   subst hu
   exact atKey_put_same hm hk _ _
  ·simp [gput,e] at hu
   rw [atKey_put_other (by simp; omega),dm_at hj hu]
theorem zoh9 (n : Nat) (g : Nat -> Option Value) : Maps.size (Dm n g) <= n:=by
 unfold Dm
 rw [size_eq]
 have:=List.length_filterMap_le (fun i => (g i).map fun v => (Lit.int .i64 (i : Int),DataW.held v)) (List.range n)
 simpa [ents] using this
theorem zeh9 {n : Nat} {g : Nat -> Option Value} (h : ∀ i,i < n -> g i = none) : Dm n g = .map []:=by
 unfold Dm
 congr 1
 rw [List.eq_nil_iff_forall_not_mem]
 intro p hp
 obtain ⟨i,v,hi,hg,_⟩:=zcb9.1 hp
 rw [h i hi] at hg
 cases hg
theorem keyed3 : Keyed Tryz.prog 3:=int_keyed Tryz.underlying3
theorem key3 {i : Nat} (hi : i < 9223372036854775808) : keyOf Tryz.prog 3 (.int .i64 (i : Int)) = some (Lit.int .i64 (i : Int)):=
 keyOf_int_mk Tryz.underlying3 (by simp [Lit.wf,IntKind.min,IntKind.max,IntKind.signed,IntKind.bits]; omega)
def Mp (w : World) (b n : Nat) (g : Nat -> Option Value) : Prop:=w.ownsMap Tryz.prog 3 Rv b n (Dm n g)
section
variable {w w' : World} {b n : Nat} {g : Nat -> Option Value}
theorem mp_of {m : Nat} {D : DataW Value} (h : w.ownsMap Tryz.prog 3 Rv b m D) (e : D = Dm n g) : Mp w b n g:=by
 subst e
 obtain ⟨es,clock,h1,h2,h3,h4⟩:=h
 refine ⟨es,clock,h1,h2,?_,h4⟩
 have:=zoh9 n g
 rw [h4,size_eq,length_read] at this
 exact this
theorem Mp.lt (h : Mp w b n g) : b < w.heap.size:=World.ownsMap.lt h
theorem Mp.tch {S : Nat -> Prop} (h : Mp w b n g) (ht : Tch S w w') (hb : ¬ S b) : Mp w' b n g:=by
 have hlt:=h.lt
 obtain ⟨es,clock,q1,q2⟩:=h
 exact ⟨es,clock,by rw [ht.block b hlt hb]; exact q1,q2⟩
theorem Mp.notCells (h : Mp w b n g) {C : Array Value} {t : TypeId} {fr : Nat × Nat} : w.heap[b]? ≠ some (.cells C t fr):=by
 obtain ⟨es,clock,q1,q2⟩:=h
 rw [q1]
 intro e
 cases e
theorem Mp.congr (h : Mp w b n g) {g' : Nat -> Option Value} (e : ∀ i,i < n -> g i = g' i) : Mp w b n g':=by
 have : Dm n g = Dm n g':=by
  refine dm_ext (zjo9 n g) (fun k => ?_) (fun i v hi hg z => dm_at hi ((e i hi).trans hg) z)
  rw [dm_has,dm_has]
  exact ⟨fun ⟨i,v,hi,hg,hk⟩ => ⟨i,v,hi,(e i hi).symm.trans hg,hk⟩,fun ⟨i,v,hi,hg,hk⟩ => ⟨i,v,hi,(e i hi).trans hg,hk⟩⟩
 unfold Mp
 rw [<- this]
 exact h
end
theorem zero61 (w : World) : (zeroValue 133).run Tryz.prog w = .ok (.slice none 0 0) w:=by kernel_rfl
def gv (g : Nat -> Option Value) (i : Nat) : Value:=(g i).getD (.slice none 0 0)
theorem Mp.look {w : World} {b n : Nat} {g : Nat -> Option Value} (h : Mp w b n g) {i : Nat} (hi : i < n) (hn : n <= 4096) :
  (Instr.lookup 134 (.map (some b)) (.int .i64 (i : Int)) false).run Tryz.prog w = .ok (gv g i) w:=by
 obtain ⟨v,ps,hr,hv⟩:=World.ownsMap.lookup h keyed3 Tryz.underlying134 (zero61 w) (zd:=.held (.slice none 0 0)) (zp:=[]) rfl (key3 (i:=i) (by omega))
 rw [hr]
 unfold gv
 cases e : g i with
 | none =>
  rw [dm_not e] at hv
  simp only [Rv,Option.some.injEq,Prod.mk.injEq,DataW.held.injEq] at hv
  rw [hv.1]
  rfl
 | some u =>
  rw [dm_at hi e] at hv
  simp only [Rv,Option.some.injEq,Prod.mk.injEq,DataW.held.injEq] at hv
  rw [hv.1]
  rfl
structure DS where
 L : List (List Int)
 V : Nat -> List (List Int)
 c : Bool
 l : Nat
def DS.has (s : DS) (i : Nat) : List Int:=(s.V i).getLastD (s.L.getD i [])
theorem zy9 (w : World) (b i : Nat) (v : Value) : Tch (fun k => k = b) w (w.setCell ⟨b,i,none⟩ v):=Tch.setCell (Tch.refl (fun k => k = b) w) (p:=⟨b,i,none⟩) (fun _ => rfl) v
structure DkAt (S : Nat -> Prop) (w : World) (d : Nat) (s : DS) (lb vb lc : Nat) (g : Nat -> Option Value) : Prop where
 n1 : 1 <= s.L.length
 n2 : s.L.length <= 4096
 l30 : s.l <= 1073741824
 box : w.heap[d]? = some (.cells #[.slice (some ⟨lb,0,none⟩) s.L.length lc,.map (some vb),.bool s.c,.int .i64 (s.l : Int)] 136 (0,0))
 lies : SecR w (.slice (some ⟨lb,0,none⟩) s.L.length lc) s.L
 map : Mp w vb s.L.length g
 no : ∀ i,g i = none -> s.V i = []
 yes : ∀ i v,g i = some v -> i < s.L.length /\ s.V i ≠ [] /\ SecR w v (s.V i) /\ v.ownBlock ≠ some lb
 apart : ∀ i j v u,g i = some v -> g j = some u -> i ≠ j -> v.ownBlock ≠ u.ownBlock
 sd : S d
 sl : S lb
 sv : S vb
 sg : ∀ i v k,g i = some v -> v.ownBlock = some k -> S k
 slt : ∀ k,S k -> k < w.heap.size
def Dk (S : Nat -> Prop) (w : World) (d : Nat) (s : DS) : Prop:=∃ lb vb lc g,DkAt S w d s lb vb lc g
section
variable {S : Nat -> Prop} {w w' : World} {d : Nat} {s : DS} {lb vb lc : Nat} {g : Nat -> Option Value}
theorem DkAt.c0 (h : DkAt S w d s lb vb lc g) : w.cell? ⟨d,0,none⟩ = some (.slice (some ⟨lb,0,none⟩) s.L.length lc):=by rw [cell_of_row w d 0 _ _ (0,0) h.box]; rfl
theorem DkAt.c1 (h : DkAt S w d s lb vb lc g) : w.cell? ⟨d,1,none⟩ = some (.map (some vb)):=by rw [cell_of_row w d 1 _ _ (0,0) h.box]; rfl
theorem DkAt.lt (h : DkAt S w d s lb vb lc g) : d < w.heap.size:=(Array.getElem?_eq_some_iff.1 h.box).1
theorem DkAt.own (h : DkAt S w d s lb vb lc g) {i : Nat} {v : Value} (hv : g i = some v) : ∃ b cap,v = .slice (some ⟨b,0,none⟩) (s.V i).length cap /\ b ≠ d /\ b ≠ vb /\ b ≠ lb /\ S b /\ 0 < (s.V i).length:=by
 obtain ⟨_,h2,h3,h4⟩:=h.yes i v hv
 obtain ⟨b,cap,cur,rfl,hb,_⟩:=h3.shape h2
 refine ⟨b,cap,rfl,fun e => ?_,fun e => ?_,fun e => h4 (by rw [e]; rfl),h.sg i _ b hv rfl,?_⟩
 ·rw [e,h.box] at hb; simp at hb
 ·exact h.map.notCells (by rw [<- e]; exact hb)
 ·exact Nat.pos_of_ne_zero (fun e => h2 (List.eq_nil_of_length_eq_zero e))
theorem DkAt.tch (h : DkAt S w d s lb vb lc g) {R : Nat -> Prop} (ht : Tch R w w') (hn : ∀ k,S k -> ¬ R k) : DkAt S w' d s lb vb lc g where
 n1:=h.n1
 n2:=h.n2
 l30:=h.l30
 box:=by rw [ht.block d h.lt (hn d h.sd)]; exact h.box
 lies:=h.lies.tch ht (fun j e => by cases e; exact hn _ h.sl)
 map:=h.map.tch ht (hn _ h.sv)
 no:=h.no
 yes:=fun i v hv => ⟨(h.yes i v hv).1,(h.yes i v hv).2.1,(h.yes i v hv).2.2.1.tch ht (fun j e => hn j (h.sg i v j hv e)),(h.yes i v hv).2.2.2⟩
 apart:=h.apart
 sd:=h.sd
 sl:=h.sl
 sv:=h.sv
 sg:=h.sg
 slt:=fun k hk => zn1 (h.slt k hk) ht.size
theorem Dk.tch {R : Nat -> Prop} (h : Dk S w d s) (ht : Tch R w w') (hn : ∀ k,S k -> ¬ R k) : Dk S w' d s:=by
 obtain ⟨lb,vb,lc,g,h⟩:=h
 exact ⟨lb,vb,lc,g,h.tch ht hn⟩
theorem Dk.below (h : Dk S w d s) (hb : Below w.heap.size w w') : Dk S w' d s:=h.tch (R:=fun _ => False) (Tch.of_below hb) (fun _ _ e => e)
theorem Dk.slt (h : Dk S w d s) : ∀ k,S k -> k < w.heap.size:=by obtain ⟨_,_,_,_,h⟩:=h; exact h.slt
end
abbrev dp (d : Nat) : Value:=.pointer (some ⟨d,0,none⟩)
theorem zdq9 {S : Nat -> Prop} {d : Nat} {s : DS} {lb vb lc : Nat} {g : Nat -> Option Value} (at_ : Int) (w : World) (h : DkAt S w d s lb vb lc g) :
  Calls Tryz.prog 134 #[dp d,.int .i64 at_] w fun e w' => e = .returned (.bool (decide (0 <= at_) && decide (at_ < (s.L.length : Int)))) /\ w' = w:=by
 have c0:=h.c0
 obtain ⟨n,hn⟩:=exH s.L.length
 rw [hn.out] at c0 ⊢
 clear h
 by_cases h0 : 0 <= at_
 ·by_cases h1 : at_ < (n : Int)
  ·go_enter Tryz.func134,Tryz.ntmps134
   go_wp2_with fail
   go_ret
   exact ⟨by simp [h0,h1],rfl⟩
  ·go_enter Tryz.func134,Tryz.ntmps134
   go_wp2_with fail
   go_ret
   exact ⟨by simp [h0,h1],rfl⟩
 ·go_enter Tryz.func134,Tryz.ntmps134
  go_wp2_with fail
  go_ret
  exact ⟨by rw [decide_eq_false (show ¬ 0 <= at_ by omega)]; rfl,rfl⟩
theorem zrh9 {S : Nat -> Prop} {d : Nat} {s : DS} (w : World) (h : Dk S w d s) :
  Calls Tryz.prog 88 #[dp d] w fun e w' => e = .returned (.int .i64 (s.L.length : Int)) /\ w' = w:=by
 obtain ⟨lb,vb,lc,g,h⟩:=h
 have c0:=h.c0
 obtain ⟨n,hn⟩:=exH s.L.length
 rw [hn.out] at c0 ⊢
 clear h
 go_enter Tryz.func88,Tryz.ntmps88
 go_wp2_with fail
 go_ret
 exact ⟨rfl,rfl⟩
def DS.new (n : Nat) : DS:=⟨List.replicate n zz,fun _ => [],false,0⟩
theorem zlo9 (n : Nat) : SOk (List.replicate n zz):=fun x hx => by
 rw [List.mem_replicate] at hx
 rw [hx.2]
 exact ⟨zz_len,zz_by⟩
theorem zqq9 (n : Nat) : (madeCells (bcs zz).toArray (n * 256)).toList = bcs (List.replicate n zz).flatten:=by
 have hL:=zjs9 (zlo9 n)
 rw [List.length_replicate] at hL
 apply List.ext_getElem?
 intro i
 by_cases hi : i < n * 256
 ·have h0 : i % 256 < 256:=Nat.mod_lt _ (by decide)
  have h1 : i / 256 < n:=by omega
  have e : (List.replicate n zz).flatten[i]? = some 0:=by
   have:=zfw9 (zlo9 n) (i:=i / 256) (by rw [List.length_replicate]; exact h1) h0
   rw [show i / 256 * 256 + i % 256 = i by omega] at this
   rw [this,zn3,List.getElem?_replicate,if_pos h1]
   exact zz_get h0
  have hz : (bcs zz)[i % 256]? = some (.int .u8 0):=by rw [bcs,List.getElem?_map,zz_get h0]; rfl
  have hr : (bcs (List.replicate n zz).flatten)[i]? = some (.int .u8 0):=by rw [bcs,List.getElem?_map,e]; rfl
  rw [hr]
  unfold madeCells
  simp only [Array.toList_map,List.getElem?_map,Array.toList_range]
  rw [List.getElem?_range hi]
  simp only [Option.map_some,List.size_toArray,zf9,zz_len]
  rw [getElem!_def,List.getElem?_toArray,hz]
 ·rw [List.getElem?_eq_none (by rw [Array.length_toList,size_madeCells]; omega),List.getElem?_eq_none (by rw [zf9,hL]; omega)]
theorem new_ok (n : Nat) (w : World) (h1 : 1 <= n) (h2 : n <= 4096) : Calls Tryz.prog 33 #[.int .i64 (n : Int)] w fun e w' =>
  ∃ d S,e = .returned (.tuple #[dp d,.int .i64 0]) /\ Dk S w' d (DS.new n) /\ Below w.heap.size w w' /\ ∀ k,S k -> w.heap.size <= k:=by
 obtain ⟨j0,hj,hy0,hy1,hy2⟩:=info_parts zqh9
 have hmm:=@run_makeMap Tryz.prog
 have ha : ¬ (n : Int) < 1:=by omega
 have hb : ¬ (n : Int) > 4096:=by omega
 go_enter Tryz.func33,Tryz.ntmps33
 go_wp2_with (at_make; refine wpList_make_full _ rfl (.tmp 10) (.tmp 10) 133 rfl 0 140 j0 _ 256 Tryz.underlying133 hj hy0 hy1 .i64 .i64 _ _ n rfl rfl rfl rfl (by rw [hy2]; omega) (by unfold maxLen; omega) (zn7 _) ?_)
 intro w1 ho hg
 rw [zqq9] at ho
 have O1 : Hid (SecR w1 (.slice (some ⟨w.heap.size,0,none⟩) n n) (List.replicate n zz)):=⟨zlo9 n,by rw [List.length_replicate]; exact ho⟩
 have B1 : Hid (Below w.heap.size w w1):=⟨hg.os,hg.tape,hg.output,hg.size,fun k hk => hg.block k hk (by simp)⟩
 have hs : Hid (w.heap.size < w1.heap.size):=O1.out.lt _ rfl
 clear ho hg hj hy0 hy1 hy2
 go_wp2_with fail
 go_ret2
 have M1 : Mp (w1.alloc (.map #[] 0)) w1.heap.size n (fun _ => none):=mp_of (World.ownsMap_made w1 _ _ _) (by rw [zeh9 (fun _ _ => rfl)])
 refine ⟨w1.heap.size + 1,fun k => w.heap.size <= k /\ k < w1.heap.size + 2,by first | rfl | simp,⟨w.heap.size,w1.heap.size,n,fun _ => none,?_⟩,?_,fun k hk => hk.1⟩
 ·have hsz : (w1.alloc (.map #[] 0)).heap.size = w1.heap.size + 1:=by simp
  have hbx : ∀ o,((w1.alloc (.map #[] 0)).alloc o).heap[w1.heap.size + 1]? = some o:=fun o => by rw [<- hsz]; exact heap_alloc_new _ _
  exact {
   n1:=by simp [DS.new]; exact h1
   n2:=by simp [DS.new]; exact h2
   l30:=by simp [DS.new]
   box:=by rw [hbx]; simp [DS.new]
   lies:=by
    simp only [DS.new,List.length_replicate]
    exact (O1.out.below ((Below.refl _ _).alloc (zn6 _) _)).below ((Below.refl _ _).alloc (zn6 _) _)
   map:=by
    simp only [DS.new,List.length_replicate]
    exact M1.tch (S:=fun _ => False) (Tch.of_below ((Below.refl _ _).alloc (zn6 _) _)) (fun e => e)
   no:=fun _ _ => rfl
   yes:=fun _ _ e => by cases e
   apart:=fun _ _ _ _ e => by cases e
   sd:=⟨by have:=hs.out; omega,by omega⟩
   sl:=⟨zn6 _,by have:=hs.out; omega⟩
   sv:=⟨by have:=hs.out; omega,by omega⟩
   sg:=fun _ _ _ e => by cases e
   slt:=fun k hk => by simp; exact hk.2 }
 ·exact (B1.out.alloc B1.out.size _).alloc (by simp; have:=B1.out.size; omega) _
theorem znt9 (g : Nat) (w : World) : (Instr.sliceAt 140 (.pointer (some ⟨g,0,none⟩)) none none none).run Tryz.prog w = .ok (.slice (some ⟨g,0,none⟩) 256 256) w:=by
 have hL : Tryz.prog.arrayLen 140 = 256:=by kernel_rfl
 have hE : Tryz.prog.elem 140 = 5:=by kernel_rfl
 have ht : Tryz.prog.underlying 140 = some (.array (Tryz.prog.arrayLen 140) (Tryz.prog.elem 140)):=by rw [hL,hE]; exact Tryz.underlying140
 rw [run_sliceAt_array_all w 140 _ ht,hL,hE]
 simp [slicedAt,go_sem]
theorem zrb9 {S : Nat -> Prop} {d : Nat} {s : DS} (at_ : Int) (w : World) (h : Dk S w d s) (hb : at_ < 0 ∨ (s.L.length : Int) <= at_) :
  Calls Tryz.prog 109 #[dp d,.int .i64 at_] w fun e w' => e = .returned (.tuple #[.slice none 0 0,.int .i64 2]) /\ w' = w:=by
 obtain ⟨lb,vb,lc,g,h⟩:=h
 have hf : (decide (0 <= at_) && decide (at_ < (s.L.length : Int))) = false:=by
  rw [Bool.and_eq_false_iff,zn4,zn4]; omega
 have H:=zdq9 at_ w h
 rw [hf] at H
 have H:=hideP H
 clear h hb
 go_enter Tryz.func109,Tryz.ntmps109
 go_wp2_with fail
 refine H.out.mono ?_
 rintro e w ⟨rfl,rfl⟩
 go_wp2_with fail
 go_ret2
 exact ⟨rfl,rfl⟩
theorem ztn9 {S : Nat -> Prop} {d : Nat} {s : DS} (i : Nat) (w : World) (h : Dk S w d s) (hi : i < s.L.length) :
  Calls Tryz.prog 109 #[dp d,.int .i64 (i : Int)] w fun e w' => ∃ v,e = .returned (.tuple #[v,.int .i64 0]) /\ Wb w' v (s.has i) /\ Below w.heap.size w w' /\ ∀ k,v.ownBlock = some k -> w.heap.size <= k:=by
 obtain ⟨lb,vb,lc,g,h⟩:=h
 have hf : (decide (0 <= (i : Int)) && decide ((i : Int) < (s.L.length : Int))) = true:=by
  rw [Bool.and_eq_true,decide_eq_true_eq,decide_eq_true_eq]; omega
 have H:=zdq9 i w h
 rw [hf] at H
 have H:=hideP H
 have c0:=h.c0
 have c1:=h.c1
 obtain ⟨hv74,hi74⟩:=zero_of_info zmu9
 have LD : Hid (w.rangeAt lb (i * 256) (bcs (s.L.getD i []))):=h.lies.load hi
 have LL:=h.lies.1.get hi
 have HS : Hid (s.has i = (s.V i).getLastD (s.L.getD i [])):=rfl
 have HD : Hid (DkAt S w d s lb vb lc g):=h
 have n2:=h.n2
 obtain ⟨n,hn⟩:=exN s.L.length
 have HN : Hid (s.L.length = n):=hn
 rw [hn] at hi c0 n2
 obtain ⟨x,hx⟩:=exN (s.L.getD i [])
 rw [hx] at LD LL HS
 obtain ⟨hx1,hx2⟩:=LL
 have HX1 : Hid (x.length = 256):=hx1
 have hsz : Hid ((bcs x).toArray.size = 256):=by show _ = _; rw [List.size_toArray,zf9,hx1]
 have HI : Hid ((Tryz.prog.info? 140).map (·.size) = some 256):=hi74
 obtain ⟨W,hW⟩:=exN (w.alloc (.cells (bcs x).toArray 140))
 have HB : Hid (Below w.heap.size w W):=by rw [<- hW]; exact (Below.refl _ _).alloc (zn6 _) _
 have HDW : Hid (DkAt S W d s lb vb lc g):=h.tch (R:=fun _ => False) (Tch.of_below HB.out) (fun _ _ e => e)
 have c1:=HDW.out.c1
 have LKW:=HDW.out.map.look (by rw [hn]; exact hi) (by rw [hn]; exact n2)
 have HWB : Hid (Wb W (.slice (some ⟨w.heap.size,0,none⟩) 256 256) x):=by
  have:=wb_new w x 140 (by unfold maxLen; omega)
  rw [hW,hx1] at this
  exact this
 have HQ : Hid (W.heap[w.heap.size]? = some (.cells (bcs x).toArray 140 (0,0))):=by show _ = _; rw [<- hW]; exact heap_alloc_new w _
 have HW : Hid (w.alloc (.cells (bcs x).toArray 140) = W):=hW
 clear h hf hx hx1 hx2 hn hi74 hW
 have hi0 : (i : Int) < (n : Int):=by omega
 obtain ⟨Z,hZ⟩:=exH ((bcs zz).toArray)
 have HZ : Hid (Z.size = 256):=by show _ = _; rw [<- hZ.out,List.size_toArray,zf9,zz_len]
 rw [hZ.out] at hv74
 have HSL:=znt9
 obtain ⟨q,hq⟩:=exN w.heap.size
 have HQE : Hid (w.heap.size = q):=hq
 clear hq
 cases hg : g i with
 | none =>
  have HV : Hid (s.V i = []):=HDW.out.no i hg
  rw [show gv g i = .slice none 0 0 by simp [gv,hg]] at LKW
  clear hg
  go_enter Tryz.func109,Tryz.ntmps109
  go_wp2_with fail
  refine H.out.mono ?_
  rintro e w ⟨rfl,rfl⟩
  clear H
  go_wp2_with (first
   | (with_reducible (show wpList _ _ _ (Oper.mk _ (Op.load _ _) _ _ _ _ :: _) _ _); refine wpList_load_mid rfl 140 (.tmp 17) rfl lb (i * 256) rfl _ _ LD.out Tryz.underlying140 rfl (by rw [HI.out,zf9,HX1.out]) ?_)
   | (with_reducible (show wpList _ _ _ (Oper.mk _ (Op.store _ _ _) _ _ _ _ :: _) _ _); refine zc9 _ rfl 140 (.tmp 6) (.tmp 18) rfl Z (bcs x).toArray rfl rfl (by rw [HI.out,hsz.out]) (by rw [HZ.out,hsz.out]) (zay9 x) ?_; rw [HW.out]))
  go_ret2
  refine ⟨_,rfl,?_,HB.out,fun k hk => by cases hk; exact zn6 _⟩
  rw [HS.out,HV.out]
  exact HWB.out
 | some v =>
  obtain ⟨_,hv2,hv3,_⟩:=HDW.out.yes i v hg
  obtain ⟨b,cap,rfl,_,_,_,_,hk0⟩:=HDW.out.own hg
  rw [show gv g i = .slice (some ⟨b,0,none⟩) (s.V i).length cap by simp [gv,hg]] at LKW
  have LV : Hid (W.rangeAt b (((s.V i).length - 1) * 256) (bcs ((s.V i).getD ((s.V i).length - 1) []))):=hv3.load (by omega)
  have LY:=hv3.1.get (i:=(s.V i).length - 1) (by omega)
  have HY : Hid ((s.V i).getLastD x = (s.V i).getD ((s.V i).length - 1) []):=by
   show _ = _
   rw [List.getLastD_eq_getLast?,List.getLast?_eq_getElem?,zn3,List.getElem?_eq_getElem (by omega)]
   rfl
  obtain ⟨y,hy⟩:=exN ((s.V i).getD ((s.V i).length - 1) [])
  rw [hy] at LV LY HY
  obtain ⟨hy1,_⟩:=LY
  have HY1 : Hid (y.length = 256):=hy1
  have hszy : Hid ((bcs y).toArray.size = 256):=by show _ = _; rw [List.size_toArray,zf9,hy1]
  have hcap : (s.V i).length <= cap /\ cap <= maxLen:=by obtain ⟨_,_,_,h1,h2,_⟩:=hv3.blk; exact ⟨h1,h2⟩
  obtain ⟨k,hk⟩ : ∃ k,(s.V i).length = k + 1:=⟨(s.V i).length - 1,by omega⟩
  rw [hk] at LKW LV hcap
  rw [Nat.add_sub_cancel] at LV
  have hc1 : (k : Int) + 1 <= 9223372036854775807:=by have:=hcap.1; have:=hcap.2; unfold maxLen at this; omega
  have hkk : ((k + 1 : Nat) : Int) = (k : Int) + 1:=by omega
  have TH : Hid (W.there q 0 256):=fun j hj => by
   rw [Nat.zero_add,<- HQE.out]
   refine ⟨?_,frozen_of_row W _ j _ _ HQ.out⟩
   rw [cell_of_row W _ j _ _ (0,0) HQ.out]
   simp [hj,hsz.out,zf9,HX1.out]
  clear hg hv2 hv3 hk0 hy hy1 hcap hk
  go_enter Tryz.func109,Tryz.ntmps109
  go_wp2_with fail
  refine H.out.mono ?_
  rintro e w ⟨rfl,rfl⟩
  clear H
  go_wp2_with (first
   | (with_reducible (show wpList _ _ _ (Oper.mk _ (Op.load _ _) _ _ _ _ :: _) _ _); refine wpList_load_mid rfl 140 (.tmp 17) rfl lb (i * 256) rfl _ _ LD.out Tryz.underlying140 rfl (by rw [HI.out,zf9,HX1.out]) ?_)
   | (with_reducible (show wpList _ _ _ (Oper.mk _ (Op.store _ _ _) _ _ _ _ :: _) _ _); refine zc9 _ rfl 140 (.tmp 6) (.tmp 18) rfl Z (bcs x).toArray rfl rfl (by rw [HI.out,hsz.out]) (by rw [HZ.out,hsz.out]) (zay9 x) ?_; rw [HW.out])
   | (with_reducible (show wpList _ _ _ (Oper.mk _ (Op.load _ _) _ _ _ _ :: _) _ _); refine wpList_load_mid rfl 140 (.tmp 32) rfl b (k * 256) rfl _ _ LV.out Tryz.underlying140 rfl (by rw [HI.out,zf9,HY1.out]) ?_)
   | (with_reducible (show wpList _ _ _ (Oper.mk _ (Op.store _ _ _) _ _ _ _ :: _) _ _); rw [HQE.out]; refine wpList_store_mid rfl 140 (.tmp 6) (.tmp 33) rfl q 0 (bcs y).toArray rfl rfl (by rw [hszy.out]; exact TH.out) (by rw [HI.out,hszy.out]) (zay9 y) ?_))
  go_ret2
  refine ⟨_,rfl,?_,HB.out.trans ((zb9 q (bcs y) 0 W).below HB.out.size (fun k e => by rw [e,<- HQE.out]; exact zn6 _)),fun k hk => by cases hk; exact Nat.le_of_eq HQE.out⟩
  have HQ2:=HQ.out
  rw [HQE.out] at HQ2
  have h1:=zk9 (bcs y) 0 W _ HQ2 (by rw [hsz.out,zf9,HY1.out]; decide)
  refine ⟨q,256,_,_,?_,?_,by unfold maxLen; omega,h1,?_⟩
  ·rw [HS.out,HY.out,HY1.out]; rfl
  ·rw [HS.out,HY.out,HY1.out]; exact zn6 _
  ·rw [HS.out,HY.out,HY1.out]
   simp [zf9,HY1.out,HX1.out]
end Go.Proofs.YtjhccpijpffahaaGreat
namespace Go.Proofs.YtjhccpijpffahaaGreat
open Go.RowKit
structure CS where
 rm : Nat
 B : Nat -> Int × List Int
 d : List Nat
 c : List Nat
def bput (B : Nat -> Int × List Int) (n : Nat) (x : Int × List Int) (m : Nat) : Int × List Int:=if m = n then x else B m
def kwo (l : List Nat) (n : Int) : List Nat:=l.filter fun m => decide ((m : Int) ≠ n)
def kask (rm : Nat) (l : List Nat) (n : Nat) : List Nat:=if rm < (kwo l n).length + 1 then (kwo l n ++ [n]).tail else kwo l n ++ [n]
def kins (l : List Nat) (n : Nat) : List Nat:=l.filter (fun m => decide (m < n)) ++ n :: l.filter (fun m => decide (n < m))
structure COk (N : Nat) (s : CS) : Prop where
 r1 : 1 <= s.rm
 r2 : s.rm <= 1024
 dr : s.d.Pairwise (fun a b => a < b)
 cn : s.c.Nodup
 ap : ∀ n,n ∈ s.d -> n ∉ s.c
 dl : ∀ n,n ∈ s.d -> 50 <= n /\ n < N
 cl : ∀ n,n ∈ s.c -> 50 <= n /\ n < N
 may : ∀ n,n ∈ s.d ∨ n ∈ s.c -> mayK (n : Int) (s.B n).1 (s.B n).2.length = true /\ By (s.B n).2
def kthere (N : Nat) (n : Int) : Bool:=decide (50 <= n) && decide (n < (N : Int))
theorem zo9 {N : Nat} {n : Int} : kthere N n = true ↔ 50 <= n /\ n < (N : Int):=by simp [kthere]
def CS.keep (s : CS) (n : Nat) (x : Int × List Int) : CS:={ s with B:=bput s.B n x,d:=kwo s.d n,c:=kask s.rm s.c n }
def CS.forget (s : CS) (n : Int) : CS:={ s with d:=kwo s.d n,c:=kwo s.c n }
def CS.lay (s : CS) (n : Nat) (x : Int × List Int) : CS:={ s with B:=bput s.B n x,d:=kins s.d n,c:=kwo s.c n }
def CS.getE (s : CS) (D : DS) (n : Int) : Int:=if kthere D.L.length n then (if n.toNat ∈ s.d ∨ n.toNat ∈ s.c then 0 else Go.Proofs.YtjhccpijpffahaaGreat.getE n (D.has n.toNat)) else 2
def CS.getB (s : CS) (D : DS) (n : Int) : Int × List Int:=if kthere D.L.length n then (if n.toNat ∈ s.d ∨ n.toNat ∈ s.c then s.B n.toNat else Go.Proofs.YtjhccpijpffahaaGreat.getB n (D.has n.toNat)) else (0,[])
def CS.getS (s : CS) (D : DS) (n : Int) : CS:=if s.getE D n = 0 /\ n.toNat ∉ s.d then s.keep n.toNat (s.getB D n) else s
def CS.putE (s : CS) (N : Nat) (n k : Int) (ys : List Int) : Int:=if kthere N n then (if mayK n k ys.length then 0 else 1) else 2
def CS.putS (s : CS) (N : Nat) (n k : Int) (ys : List Int) : CS:=if s.putE N n k ys = 0 then s.lay n.toNat (k,ys) else s
theorem zi9 {l : List Nat} {n : Int} {m : Nat} : m ∈ kwo l n ↔ m ∈ l /\ (m : Int) ≠ n:=by simp [kwo]
theorem zta9 (l : List Nat) (n : Int) : (kwo l n).length <= l.length:=List.length_filter_le _ _
theorem zem9 {l : List Nat} (n : Int) (h : l.Nodup) : (kwo l n).Nodup:=h.filter _
theorem zfj9 {l : List Nat} (n : Int) (h : l.Pairwise (fun a b => a < b)) : (kwo l n).Pairwise (fun a b => a < b):=h.filter _
theorem zhg9 {l : List Nat} {n : Int} (h : ∀ m ∈ l,(m : Int) ≠ n) : kwo l n = l:=by
 unfold kwo
 rw [List.filter_eq_self]
 intro m hm
 simpa using h m hm
theorem zop9 {l : List Nat} {n : Int} (hn : l.Nodup) {i : Nat} (hi : i < l.length) (he : ((l.getD i 0 : Nat) : Int) = n) : kwo l n = l.eraseIdx i:=by
 induction l generalizing i with
 | nil => simp at hi
 | cons a r ih =>
  rw [List.nodup_cons] at hn
  cases i with
  | zero =>
   simp at he
   subst he
   show List.filter _ (a :: r) = r
   rw [List.filter_cons_of_neg (by simp)]
   exact zhg9 (fun m hm e => hn.1 (by have : m = a:=(by omega); rw [<- this]; exact hm))
  | succ i =>
   simp at he hi
   have ha : (a : Int) ≠ n:=fun e => by
    have : a = r[i]?.getD 0:=by omega
    rw [List.getElem?_eq_getElem hi] at this
    exact hn.1 (by rw [this]; exact List.getElem_mem hi)
   show List.filter _ (a :: r) = _
   rw [List.filter_cons_of_pos (by simpa using ha)]
   exact congrArg _ (ih hn.2 hi (by rw [zn3]; exact he))
theorem zcl9 (B : Nat -> Int × List Int) (n : Nat) (x : Int × List Int) : bput B n x n = x:=by simp [bput]
theorem zbh9 (B : Nat -> Int × List Int) {n m : Nat} (x : Int × List Int) (h : m ≠ n) : bput B n x m = B m:=by simp [bput,h]
theorem zqk9 {rm : Nat} {l : List Nat} {n m : Nat} (h : m ∈ kask rm l n) : m = n ∨ (m ∈ l /\ m ≠ n):=by
 unfold kask at h
 have : m ∈ kwo l n ++ [n]:=by
  split at h
  ·exact List.mem_of_mem_tail h
  ·exact h
 rcases List.mem_append.1 this with e | e
 ·exact .inr ⟨(zi9.1 e).1,fun e2 => (zi9.1 e).2 (by omega)⟩
 ·exact .inl (by simpa using e)
theorem zgu9 {l : List Nat} {n : Nat} (h : l.Nodup) : (kwo l n ++ [n]).Nodup:=by
 rw [List.nodup_append]
 refine ⟨zem9 _ h,by simp,fun a ha b hb e => ?_⟩
 simp at hb
 exact (zi9.1 ha).2 (by omega)
theorem zbo9 {l : List Nat} {n m : Nat} : m ∈ kins l n ↔ m = n ∨ m ∈ l:=by
 unfold kins
 simp only [List.mem_append,List.mem_cons,List.mem_filter,decide_eq_true_eq]
 constructor
 ·rintro (⟨h,_⟩ | h | ⟨h,_⟩)
  ·exact .inr h
  ·exact .inl h
  ·exact .inr h
 ·rintro (h | h)
  ·exact .inr (.inl h)
  ·rcases Nat.lt_trichotomy m n with e | e | e
   ·exact .inl ⟨h,e⟩
   ·exact .inr (.inl e)
   ·exact .inr (.inr ⟨h,e⟩)
theorem zik9 {l : List Nat} {n : Nat} (h : l.Pairwise (fun a b => a < b)) : (kins l n).Pairwise (fun a b => a < b):=by
 unfold kins
 rw [List.pairwise_append,List.pairwise_cons]
 refine ⟨h.filter _,⟨fun a ha => by simp at ha; exact ha.2,h.filter _⟩,fun a ha b hb => ?_⟩
 simp at ha hb
 rcases hb with e | e <;> omega
theorem znd9 {l : List Nat} {N : Nat} (hn : l.Nodup) (h : ∀ n,n ∈ l -> n < N) : l.length <= N:=by
 have:=List.Nodup.length_le_of_subset (l₁:=l) (l₂:=List.range N) hn (fun n hm => by simpa using h n hm)
 simpa using this
theorem zmw9 {rm : Nat} {l : List Nat} {n : Nat} (h : l.Nodup) (hr : rm < (kwo l n).length + 1) (h1 : 1 <= rm) : ∃ m : Nat,(kwo l n ++ [n]).head? = some m /\ m ≠ n /\ kask rm l n = kwo (kwo l n ++ [n]) m:=by
 have hd:=zgu9 (n:=n) h
 cases e : kwo l n with
 | nil => rw [e] at hr; simp at hr; omega
 | cons a r =>
  refine ⟨a,by simp,fun e2 => ?_,?_⟩
  ·have : a ∈ kwo l n:=by rw [e]; simp
   exact (zi9.1 this).2 (by omega)
  ·unfold kask
   rw [if_pos hr,e]
   rw [e] at hd
   have:=zop9 (l:=a :: r ++ [n]) (n:=(a : Int)) hd (i:=0) (by simp) (by simp)
   rw [this]
   simp
section
variable {N : Nat} {s : CS}
theorem COk.cle (h : COk N s) : s.c.length <= N:=znd9 h.cn (fun n hn => (h.cl n hn).2)
theorem COk.forget (h : COk N s) (n : Int) : COk N (s.forget n) where
 r1:=h.r1
 r2:=h.r2
 dr:=zfj9 _ h.dr
 cn:=zem9 _ h.cn
 ap:=fun m hm hc => h.ap m (zi9.1 hm).1 (zi9.1 hc).1
 dl:=fun m hm => h.dl m (zi9.1 hm).1
 cl:=fun m hm => h.cl m (zi9.1 hm).1
 may:=fun m hm => h.may m (hm.imp (fun e => (zi9.1 e).1) (fun e => (zi9.1 e).1))
theorem COk.lay (h : COk N s) {n : Nat} {x : Int × List Int} (hn : 50 <= n /\ n < N) (hm : mayK (n : Int) x.1 x.2.length = true) (hb : By x.2) : COk N (s.lay n x) where
 r1:=h.r1
 r2:=h.r2
 dr:=zik9 h.dr
 cn:=zem9 _ h.cn
 ap:=fun m hm hc => by
  rcases zbo9.1 hm with e | e
  ·exact (zi9.1 hc).2 (by omega)
  ·exact h.ap m e (zi9.1 hc).1
 dl:=fun m hm => by
  rcases zbo9.1 hm with e | e
  ·rw [e]; exact hn
  ·exact h.dl m e
 cl:=fun m hm => h.cl m (zi9.1 hm).1
 may:=fun m hm' => by
  show mayK (m : Int) (bput s.B n x m).1 (bput s.B n x m).2.length = true /\ By (bput s.B n x m).2
  by_cases e : m = n
  ·subst e; rw [zcl9]; exact ⟨hm,hb⟩
  ·rw [zbh9 _ _ e]
   refine h.may m (hm'.imp (fun e2 => ?_) (fun e2 => (zi9.1 e2).1))
   rcases zbo9.1 e2 with e3 | e3
   ·exact absurd e3 e
   ·exact e3
end
end Go.Proofs.YtjhccpijpffahaaGreat
