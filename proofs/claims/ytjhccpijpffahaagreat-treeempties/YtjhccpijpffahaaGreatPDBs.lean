import Derived.Test.YtjhccpijpffahaaGreatPRow0
import Derived.Deep.MidRow
import Derived.Deep.WholeRow
import Derived.Laws.ResultCell
set_option maxRecDepth 100000
set_option linter.unusedVariables false
set_option linter.unusedSimpArgs false
set_option maxHeartbeats 8000000
namespace Go.Proofs.YtjhccpijpffahaaGreat
open Go.RowKit
theorem hideP {p : Prop} (h : p) : Hid p:=h
theorem zk9 {b : Nat} {t : TypeId} : ∀ (vs : List Value) (o : Nat) (w : World) (C : Array Value),w.heap[b]? = some (.cells C t (0,0)) -> o + vs.length <= C.size →
  (w.setCells b o vs).heap[b]? = some (.cells (C.toList.take o ++ vs ++ C.toList.drop (o + vs.length)).toArray t (0,0))
 | [],o,w,C,h,hl => by
  simp only [World.setCells,List.append_nil,List.length_nil,Nat.add_zero,List.take_append_drop,Array.toArray_toList]
  exact h
 | v :: r,o,w,C,h,hl => by
  simp only [List.length_cons] at hl
  have h1:=heap_setCell_same w b o C t v h
  have h2:=zk9 r (o + 1) _ _ h1 (by simp; omega)
  rw [World.setCells,h2]
  refine congrArg (fun l => some (Obj.cells (List.toArray l) t (0,0))) ?_
  simp only [Array.toList_setIfInBounds,List.length_cons]
  rw [List.take_set,List.drop_set,if_pos (by omega)]
  have e1 : (List.take (o + 1) C.toList).set o v = List.take o C.toList ++ [v]:=by
   rw [List.take_add_one,List.getElem?_eq_getElem (by simpa using (show o < C.size by omega))]
   rw [List.set_append_right _ _ (by simp; omega)]
   simp only [List.length_take,Array.length_toList,Option.toList_some]
   rw [Nat.min_eq_left (by omega),Nat.sub_self]
   rfl
  rw [e1,show o + 1 + r.length = o + (r.length + 1) by omega]
  simp
theorem zb9 (b : Nat) : ∀ (vs : List Value) (o : Nat) (w : World),Tch (fun k => k = b) w (w.setCells b o vs)
 | [],_,w => Tch.refl _ w
 | v :: r,o,w => by
  have h1 : Tch (fun k => k = b) w (w.setCell ⟨b,o,none⟩ v):=Tch.setCell (Tch.refl (fun k => k = b) w) (p:=⟨b,o,none⟩) (fun _ => rfl) v
  have h2:=zb9 b r (o + 1) (w.setCell ⟨b,o,none⟩ v)
  exact h1.trans h2 (fun _ _ e => e)
def bcs (xs : List Int) : List Value:=xs.map (Value.int .u8)
theorem zf9 (xs : List Int) : (bcs xs).length = xs.length:=by simp [bcs]
theorem zjf9 (xs : List Int) : ∀ v ∈ bcs xs,v.oneCell' = true:=fun v hv => by
 obtain ⟨x,_,rfl⟩:=List.mem_map.1 hv
 rfl
theorem zay9 (xs : List Int) : (bcs xs).toArray.all (·.oneCell') = true:=all_oneCell_toArray (zjf9 xs)
def zz : List Int:=List.replicate 256 0
theorem zz_len : zz.length = 256:=by simp only [zz,List.length_replicate]
theorem zz_by : By zz:=fun i => by
 unfold zz
 rw [zn3,List.getElem?_replicate]
 split <;> exact ⟨by decide,by decide⟩
theorem zz_get {i : Nat} (h : i < 256) : zz[i]? = some 0:=by
 unfold zz
 rw [List.getElem?_replicate,if_pos h]
theorem By.set {x : List Int} (h : By x) (j : Nat) {y : Int} (h0 : 0 <= y) (h1 : y <= 255) : By (x.set j y):=fun i => by
 rw [zn3,List.getElem?_set]
 split
 ·split
  ·exact ⟨h0,h1⟩
  ·simp
 ·rw [<- zn3]; exact h i
section
variable {P : Program}
theorem zc9 (w : World) {ops : Array Oper} {rest : List Oper} {op : Oper} {a : Act} {Q : Exit -> Act -> World -> Prop} (hgd : op.guard = none) (ty : TypeId) (x y : Operand) (ho : op.op = .store ty x y)
  (c c' : Array Value) (hx : a.eval x = .pointer (some ⟨w.heap.size,0,none⟩)) (hy : a.eval y = .agg c') (hi : (P.info? ty).map (·.size) = some c'.size) (hs : c.size = c'.size) (h1 : c'.all (·.oneCell') = true)
  (h : wpList P ops Q rest (a.put op.dst undef) (w.alloc (.cells c' ty))) : wpList P ops Q (op :: rest) a (w.alloc (.cells c ty)):=by
 refine wpList_plain hgd fun K hK => ?_
 have hrun:=run_storeAt_new (P:=P) w ty c c' hi hs h1
 unfold Oper.wp execOp
 simp only [ho,hx,hy,Sem.run_bind,Sem.run_pure,Result.andThen_ok,hrun]
 exact hK _ _ h
end
def Wb (w : World) (v : Value) (xs : List Int) : Prop:=∃ b cap t C,v = .slice (some ⟨b,0,none⟩) xs.length cap /\ xs.length <= cap /\ cap <= maxLen /\ w.heap[b]? = some (.cells C t (0,0)) /\ C.toList.take xs.length = bcs xs
section
variable {w w' : World} {v : Value} {xs : List Int}
theorem Wb.rd (h : Wb w v xs) : Rd .u8 w v xs:=by
 obtain ⟨b,cap,t,C,rfl,h1,h2,h3,h4⟩:=h
 refine ⟨_,cap,rfl,h1,h2,(fun e => by cases e),.inr ⟨b,0,rfl,fun i hi => ?_⟩⟩
 rw [Nat.zero_add,cell_of_row w b i C t (0,0) h3]
 have e : (C.toList.take xs.length)[i]? = C.toList[i]?:=by rw [List.getElem?_take,if_pos hi]
 rw [<- Array.getElem?_toList,<- e,h4,bcs,List.getElem?_map,zn3,List.getElem?_eq_getElem hi]
 rfl
theorem Wb.tch {S : Nat -> Prop} (h : Wb w v xs) (ht : Tch S w w') (hn : ∀ j,v.ownBlock = some j -> ¬ S j) : Wb w' v xs:=by
 obtain ⟨b,cap,t,C,rfl,h1,h2,h3,h4⟩:=h
 exact ⟨b,cap,t,C,rfl,h1,h2,by rw [ht.block b (Array.getElem?_eq_some_iff.1 h3).1 (hn b rfl)]; exact h3,h4⟩
theorem Wb.below (h : Wb w v xs) (hb : Below w.heap.size w w') : Wb w' v xs:=h.tch (S:=fun _ => False) (Tch.of_below hb) (fun _ _ e => e)
theorem wb_new (w : World) (xs : List Int) (t : TypeId) (h : xs.length <= maxLen) : Wb (w.alloc (.cells (bcs xs).toArray t)) (.slice (some ⟨w.heap.size,0,none⟩) xs.length xs.length) xs:=
 ⟨w.heap.size,xs.length,t,(bcs xs).toArray,rfl,zn6 _,h,heap_alloc_new w _,by rw [List.toList_toArray,zn5 (by rw [zf9]; exact zn6 _)]⟩
end
def SOk (rows : List (List Int)) : Prop:=∀ x ∈ rows,x.length = 256 /\ By x
theorem SOk.cons {a : List Int} {r : List (List Int)} (h : SOk (a :: r)) : SOk r:=fun x hx => h x (List.mem_cons_of_mem _ hx)
theorem SOk.get {a : List (List Int)} (h : SOk a) {i : Nat} (hi : i < a.length) : (a.getD i []).length = 256 /\ By (a.getD i []):=by
 rw [zn3,List.getElem?_eq_getElem hi]
 exact h _ (List.getElem_mem hi)
theorem SOk.last {a : List (List Int)} (h : SOk a) (h0 : a ≠ []) (d : List Int) : (a.getLastD d).length = 256 /\ By (a.getLastD d):=by
 rw [List.getLastD_eq_getLast?,List.getLast?_eq_some_getLast h0]
 exact h _ (List.getLast_mem h0)
theorem zjs9 : ∀ {rows : List (List Int)},SOk rows -> rows.flatten.length = rows.length * 256
 | [],_ => rfl
 | a :: r,h => by
  have:=zjs9 h.cons
  have:=(h a (List.mem_cons_self)).1
  simp only [List.flatten_cons,List.length_append,List.length_cons]
  omega
theorem zfw9 : ∀ {rows : List (List Int)},SOk rows -> ∀ {i : Nat},i < rows.length -> ∀ {j : Nat},j < 256 -> rows.flatten[i * 256 + j]? = (rows.getD i [])[j]?
 | [],_,i,hi,_,_ => by simp at hi
 | a :: r,h,0,_,j,hj => by
  have:=(h a (List.mem_cons_self)).1
  simp only [List.flatten_cons,Nat.zero_mul,Nat.zero_add,List.getD_cons_zero]
  rw [List.getElem?_append_left (by omega)]
 | a :: r,h,i + 1,hi,j,hj => by
  have ha:=(h a (List.mem_cons_self)).1
  simp only [List.flatten_cons,List.getD_cons_succ]
  rw [List.getElem?_append_right (by omega),<- zfw9 h.cons (i:=i) (by simpa using hi) hj]
  congr 1
  omega
def SecR (w : World) (v : Value) (rows : List (List Int)) : Prop:=SOk rows /\ w.ownsRow 0 140 256 v rows.length (bcs rows.flatten)
section
variable {w w' : World} {v : Value} {rows : List (List Int)} {b k cap : Nat}
theorem SecR.tch {S : Nat -> Prop} (h : SecR w v rows) (ht : Tch S w w') (hn : ∀ j,v.ownBlock = some j -> ¬ S j) : SecR w' v rows:=⟨h.1,ht.owns h.2 hn⟩
theorem SecR.below (h : SecR w v rows) (hb : Below w.heap.size w w') : SecR w' v rows:=h.tch (S:=fun _ => False) (Tch.of_below hb) (fun _ _ e => e)
theorem SecR.lt (h : SecR w v rows) : ∀ j,v.ownBlock = some j -> j < w.heap.size:=fun j hj => (World.ownsRow.lt h.2 j hj).2
theorem SecR.shape (h : SecR w v rows) (h0 : rows ≠ []) : ∃ g cap cur,v = .slice (some ⟨g,0,none⟩) rows.length cap /\ w.heap[g]? = some (.cells cur 140 (0,0)) /\ rows.length <= cap /\ cap <= maxLen /\ cur.size = cap * 256 /\ cur.toList.take (rows.length * 256) = bcs rows.flatten:=by
 rcases h.2.2 with ⟨_,e⟩ | ⟨g,cap,cur,e,_,hg,h1,h2,h3,h4⟩
 ·exact absurd (List.eq_nil_of_length_eq_zero e) h0
 ·exact ⟨g,cap,cur,e,hg,h1,h2,h3,h4⟩
theorem SecR.blk (h : SecR w (.slice (some ⟨b,0,none⟩) k cap) rows) : ∃ cur,k = rows.length /\ w.heap[b]? = some (.cells cur 140 (0,0)) /\ rows.length <= cap /\ cap <= maxLen /\ cur.size = cap * 256 /\ cur.toList.take (rows.length * 256) = bcs rows.flatten:=by
 rcases h.2.2 with ⟨e,_⟩ | ⟨g,c,cur,e,_,hg,h1,h2,h3,h4⟩
 ·cases e
 ·simp only [Value.slice.injEq,Option.some.injEq,Addr.mk.injEq,and_true] at e
  obtain ⟨rfl,rfl,rfl⟩:=e
  exact ⟨cur,rfl,hg,h1,h2,h3,h4⟩
theorem SecR.load (h : SecR w (.slice (some ⟨b,0,none⟩) k cap) rows) {i : Nat} (hi : i < rows.length) : w.rangeAt b (i * 256) (bcs (rows.getD i [])):=fun j u hu => by
 obtain ⟨cur,rfl,hg,h1,h2,h3,h4⟩:=h.blk
 have hl:=(h.1.get hi).1
 have hj : j < 256:=by have:=(List.getElem?_eq_some_iff.1 hu).1; rw [zf9,hl] at this; exact this
 rw [cell_of_row w b (i * 256 + j) cur _ (0,0) hg]
 have e : (cur.toList.take (rows.length * 256))[i * 256 + j]? = cur.toList[i * 256 + j]?:=by rw [List.getElem?_take,if_pos (by omega)]
 rw [<- Array.getElem?_toList,<- e,h4,bcs,List.getElem?_map,zfw9 h.1 hi hj,<- List.getElem?_map]
 exact hu
end
theorem zqh9 : (Tryz.prog.info? 140).map (fun i => (i.zero,i.size,i.bytes)) = some (some (.agg (bcs zz).toArray),256,256):=by kernel_rfl
theorem zmu9 : (Tryz.prog.info? 140).map (fun i => (i.zero,i.size)) = some (some (.agg (bcs zz).toArray),256):=by kernel_rfl
end Go.Proofs.YtjhccpijpffahaaGreat
namespace Go.Proofs.YtjhccpijpffahaaGreat
open Go.RowKit Pl
theorem zbn9 : (Tryz.prog.info? 156).map (fun i => (i.zero,i.size)) = some (some (.agg (bcs zz).toArray),256):=by kernel_rfl
theorem zgv9 : Tryz.prog.arrayLen 156 = 256:=by kernel_rfl
theorem arr_el : Tryz.prog.elem 156 = 5:=by kernel_rfl
theorem zod9 : Tryz.prog.underlying 156 = some (.array (Tryz.prog.arrayLen 156) (Tryz.prog.elem 156)):=by rw [zgv9,arr_el]; exact Tryz.underlying156
theorem zns9 (g : Nat) (w : World) : (Instr.sliceAt 156 (.pointer (some ⟨g,0,none⟩)) none none none).run Tryz.prog w = .ok (.slice (some ⟨g,0,none⟩) 256 256) w:=by
 rw [run_sliceAt_array_all w 156 _ zod9,zgv9,arr_el]
 simp [slicedAt,go_sem]
def Fv (w : World) (g : Nat) (xs : List Int) : Prop:=w.heap[g]? = some (.cells (bcs xs).toArray 156 (0,0)) /\ xs.length = 256 /\ By xs
section
variable {w w' : World} {g : Nat} {xs : List Int}
theorem Fv.lt (h : Fv w g xs) : g < w.heap.size:=(Array.getElem?_eq_some_iff.1 h.1).1
theorem Fv.tch {S : Nat -> Prop} (h : Fv w g xs) (ht : Tch S w w') (hg : ¬ S g) : Fv w' g xs:=⟨by rw [ht.block g h.lt hg]; exact h.1,h.2⟩
theorem Fv.below (h : Fv w g xs) (hb : Below w.heap.size w w') : Fv w' g xs:=h.tch (S:=fun _ => False) (Tch.of_below hb) (fun e => e)
theorem Fv.wb (h : Fv w g xs) : Wb w (.slice (some ⟨g,0,none⟩) 256 256) xs:=
 ⟨g,256,_,_,by rw [h.2.1],by rw [h.2.1]; exact zn6 _,by unfold maxLen; omega,h.1,by rw [h.2.1,List.toList_toArray,zn5 (by rw [zf9,h.2.1]; exact zn6 _)]⟩
theorem Fv.cell (h : Fv w g xs) {i : Nat} (hi : i < 256) : w.cell? ⟨g,i,none⟩ = some (.int .u8 (xs.getD i 0)):=by
 rw [cell_of_row w g i _ _ (0,0) h.1,List.getElem?_toArray,bcs,List.getElem?_map,zn3,List.getElem?_eq_getElem (by rw [h.2.1]; exact hi)]
 rfl
theorem Fv.fz (h : Fv w g xs) (i : Nat) : w.frozen? ⟨g,i,none⟩ = false:=frozen_of_row w g i _ _ h.1
theorem Fv.range (h : Fv w g xs) : w.rangeAt g 0 (bcs xs):=fun j u hu => by
 have hj : j < 256:=by have:=(List.getElem?_eq_some_iff.1 hu).1; rw [zf9,h.2.1] at this; exact this
 rw [Nat.zero_add,cell_of_row w g j _ _ (0,0) h.1,List.getElem?_toArray]
 exact hu
theorem Fv.there (h : Fv w g xs) : w.there g 0 256:=fun j hj => by
 rw [Nat.zero_add]
 exact ⟨by rw [h.cell hj]; rfl,h.fz j⟩
theorem fv_new (w : World) (hl : xs.length = 256) (hb : By xs) : Fv (w.alloc (.cells (bcs xs).toArray 156)) w.heap.size xs:=⟨heap_alloc_new w _,hl,hb⟩
end
theorem zfl9 {fn : Func} {p : Tmp} {ty : TypeId} (h : fn.results = #[.cell p ty]) (tmps : Array Value) (P : Program) (w : World) :
  (results fn tmps).run P w = ((asAddr (tmps.getD p undef)).run P w).andThen fun a w₁ => (loadVar ty a).run P w₁:=by
 simp only [results,h]
 simp [Sem.run_bind,Result.andThen]
theorem zbj9 {fn : Func} {p : Tmp} {ty : TypeId} (h : fn.results = #[.cell p ty]) (tmps : Array Value) (P : Program) (w : World) (b : Nat) (v : Value) (ha : tmps.getD p undef = .pointer (some ⟨b,0,none⟩))
  (hl : (loadVar ty ⟨b,0,none⟩).run P w = .ok v w) : (results fn tmps).run P w = .ok v w:=by
 rw [zfl9 h,ha]
 simp [asAddr,Result.andThen,hl]
theorem zss9 : (Tryz.prog.info? 156).map (·.size) = some 256:=(zero_of_info zbn9).2
theorem zbm9 {xs : List Int} (h : xs.length = 256) : (bcs xs).toArray.size = 256:=by rw [List.size_toArray,zf9,h]
theorem Fv.put {w : World} {g : Nat} {xs ys : List Int} (h : Fv w g xs) (hl : ys.length = 256) (hb : By ys) : Fv (w.setCells g 0 (bcs ys)) g ys:=by
 refine ⟨?_,hl,hb⟩
 have:=zk9 (bcs ys) 0 w _ h.1 (by rw [zf9,zbm9 h.2.1,hl]; exact zn6 _)
 rw [this,List.toList_toArray,List.take_zero,List.nil_append,List.drop_of_length_le (by rw [zf9,zf9,hl,h.2.1]; exact zn6 _),List.append_nil]
theorem Fv.load {w : World} {g : Nat} {xs : List Int} (h : Fv w g xs) : (loadVar 156 ⟨g,0,none⟩).run Tryz.prog w = .ok (.agg (bcs xs).toArray) w:=
 run_loadVar_mid (P:=Tryz.prog) w g 0 156 (bcs xs) _ h.range Tryz.underlying156 rfl (by rw [zf9,h.2.1]; exact zss9)
theorem zek9 : (Tryz.prog.info? 156).map (fun i => (i.zero,i.size)) = some (some (.agg (bcs zz).toArray),256):=by kernel_rfl
theorem zed9 : Tryz.prog.arrayLen 156 = 256:=by kernel_rfl
theorem zjd9 : Tryz.prog.elem 156 = 5:=by kernel_rfl
theorem zje9 : Tryz.prog.underlying 156 = some (.array (Tryz.prog.arrayLen 156) (Tryz.prog.elem 156)):=by rw [zed9,zjd9]; exact Tryz.underlying156
theorem zll9 (g : Nat) (w : World) : (Instr.sliceAt 156 (.pointer (some ⟨g,0,none⟩)) none none none).run Tryz.prog w = .ok (.slice (some ⟨g,0,none⟩) 256 256) w:=by
 rw [run_sliceAt_array_all w 156 _ zje9,zed9,zjd9]
 simp [slicedAt,go_sem]
theorem zgh9 (g : Nat) (w : World) : (Instr.sliceAt 156 (.pointer (some ⟨g,0,none⟩)) none (some (.int .i64 252)) none).run Tryz.prog w = .ok (.slice (some ⟨g,0,none⟩) 252 256) w:=by
 have:=run_sliceAt_array_h w 156 ⟨g,0,none⟩ zje9 .i64 252 (by omega) (by rw [zed9]; omega)
 rw [zed9,zjd9] at this
 rw [this]
 simp [slicedAt,go_sem]
def Fu (w : World) (g : Nat) (xs : List Int) : Prop:=w.heap[g]? = some (.cells (bcs xs).toArray 156 (0,0)) /\ xs.length = 256 /\ By xs
section
variable {w w' : World} {g : Nat} {xs : List Int}
theorem Fu.lt (h : Fu w g xs) : g < w.heap.size:=(Array.getElem?_eq_some_iff.1 h.1).1
theorem Fu.tch {S : Nat -> Prop} (h : Fu w g xs) (ht : Tch S w w') (hg : ¬ S g) : Fu w' g xs:=⟨by rw [ht.block g h.lt hg]; exact h.1,h.2⟩
theorem Fu.below (h : Fu w g xs) (hb : Below w.heap.size w w') : Fu w' g xs:=h.tch (S:=fun _ => False) (Tch.of_below hb) (fun e => e)
theorem Fu.cell (h : Fu w g xs) {i : Nat} (hi : i < 256) : w.cell? ⟨g,i,none⟩ = some (.int .u8 (xs.getD i 0)):=by
 rw [cell_of_row w g i _ _ (0,0) h.1,List.getElem?_toArray,bcs,List.getElem?_map,zn3,List.getElem?_eq_getElem (by rw [h.2.1]; exact hi)]
 rfl
theorem Fu.fz (h : Fu w g xs) (i : Nat) : w.frozen? ⟨g,i,none⟩ = false:=frozen_of_row w g i _ _ h.1
theorem Fu.rdTo (h : Fu w g xs) (m : Nat) (hm : m <= 256) : Rd .u8 w (.slice (some ⟨g,0,none⟩) m 256) (xs.take m):=
 ztm9 m (by rw [h.2.1]; exact hm) (by rw [h.2.1]; exact zn6 _) (by unfold maxLen; omega) (fun i hi => by rw [Nat.zero_add]; exact h.cell (by rw [<- h.2.1]; exact hi))
theorem Fu.range (h : Fu w g xs) : w.rangeAt g 0 (bcs xs):=fun j u hu => by
 have hj : j < 256:=by have:=(List.getElem?_eq_some_iff.1 hu).1; rw [zf9,h.2.1] at this; exact this
 rw [Nat.zero_add,cell_of_row w g j _ _ (0,0) h.1,List.getElem?_toArray]
 exact hu
theorem Fu.there (h : Fu w g xs) : w.there g 0 256:=fun j hj => by
 rw [Nat.zero_add]
 exact ⟨by rw [h.cell hj]; rfl,h.fz j⟩
theorem Fu.set (h : Fu w g xs) (i : Nat) {y : Int} (h0 : 0 <= y) (h1 : y <= 255) : Fu (w.setCell ⟨g,i,none⟩ (.int .u8 y)) g (xs.set i y):=by
 refine ⟨?_,by rw [List.length_set]; exact h.2.1,h.2.2.set i h0 h1⟩
 have:=heap_setCell_same w g i _ _ (.int .u8 y) h.1
 rw [this,bcs,bcs,List.map_set]
 simp
theorem zhb9 (w : World) (hl : xs.length = 256) (hb : By xs) : Fu (w.alloc (.cells (bcs xs).toArray 156)) w.heap.size xs:=⟨heap_alloc_new w _,hl,hb⟩
end
theorem zfn9 {fn : Func} {p : Tmp} {ty : TypeId} (h : fn.results = #[.cell p ty]) (tmps : Array Value) (P : Program) (w : World) :
  (results fn tmps).run P w = ((asAddr (tmps.getD p undef)).run P w).andThen fun a w₁ => (loadVar ty a).run P w₁:=by
 simp only [results,h]
 simp [Sem.run_bind,Result.andThen]
theorem zdt9 {fn : Func} {p : Tmp} {ty : TypeId} (h : fn.results = #[.cell p ty]) (tmps : Array Value) (P : Program) (w : World) (b : Nat) (v : Value) (ha : tmps.getD p undef = .pointer (some ⟨b,0,none⟩))
  (hl : (loadVar ty ⟨b,0,none⟩).run P w = .ok v w) : (results fn tmps).run P w = .ok v w:=by
 rw [zfn9 h,ha]
 simp [asAddr,Result.andThen,hl]
theorem zqg9 : (Tryz.prog.info? 156).map (·.size) = some 256:=(zero_of_info zek9).2
theorem zee9 {xs : List Int} (h : xs.length = 256) : (bcs xs).toArray.size = 256:=by rw [List.size_toArray,zf9,h]
theorem Fu.put {w : World} {g : Nat} {xs ys : List Int} (h : Fu w g xs) (hl : ys.length = 256) (hb : By ys) : Fu (w.setCells g 0 (bcs ys)) g ys:=by
 refine ⟨?_,hl,hb⟩
 have:=zk9 (bcs ys) 0 w _ h.1 (by rw [zf9,zee9 h.2.1,hl]; exact zn6 _)
 rw [this,List.toList_toArray,List.take_zero,List.nil_append,List.drop_of_length_le (by rw [zf9,zf9,hl,h.2.1]; exact zn6 _),List.append_nil]
theorem Fu.load {w : World} {g : Nat} {xs : List Int} (h : Fu w g xs) : (loadVar 156 ⟨g,0,none⟩).run Tryz.prog w = .ok (.agg (bcs xs).toArray) w:=
 run_loadVar_mid (P:=Tryz.prog) w g 0 156 (bcs xs) _ h.range Tryz.underlying156 rfl (by rw [zf9,h.2.1]; exact zqg9)
end Go.Proofs.YtjhccpijpffahaaGreat
