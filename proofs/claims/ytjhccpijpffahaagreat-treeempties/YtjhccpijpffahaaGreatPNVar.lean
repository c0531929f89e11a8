import Derived.Test.YtjhccpijpffahaaGreatPNPl
import Derived.Test.YtjhccpijpffahaaGreatPDBs
import Derived.Laws.ResultCell
import Derived.Test.YtjhccpijpffahaaGreatPRow0
set_option maxRecDepth 100000
set_option linter.unusedVariables false
set_option linter.unusedSimpArgs false
set_option maxHeartbeats 8000000
namespace Go.Proofs.YtjhccpijpffahaaGreat
open Go.RowKit Pl
theorem tch_at (w : World) (b i : Nat) (v : Value) : Tch (fun j => j = b) w (w.setCell ⟨b,i,none⟩ v):=(Tch.refl (fun j => j = b) w).setCell (p:=⟨b,i,none⟩) (fun _ => rfl) _
theorem zon9 : (Tryz.prog.info? 93).map (·.size) = some 4:=by kernel_rfl
section
variable {w w' : World} {T : TypeId} {b : Nat} {lf : Bool} {u1 u2 u3 : Value}
theorem Nb.range (h : Nb w T b lf u1 u2 u3) : w.rangeAt b 0 [.bool lf,u1,u2,u3]:=fun j u hu => by
 rw [Nat.zero_add,cell_of_row w b j _ _ (0,0) h,List.getElem?_toArray]
 exact hu
theorem Nb.load (h : Nb w 93 b lf u1 u2 u3) : (loadVar 93 ⟨b,0,none⟩).run Tryz.prog w = .ok (nod lf u1 u2 u3) w:=
 run_loadVar_mid (P:=Tryz.prog) w b 0 93 [.bool lf,u1,u2,u3] _ h.range Tryz.underlying93 rfl zon9
theorem Nb.s0 (h : Nb w T b lf u1 u2 u3) (x : Bool) : Nb (w.setCell ⟨b,0,none⟩ (.bool x)) T b x u1 u2 u3:=heap_setCell_same w b 0 _ _ (.bool x) h
theorem Nb.s1 (h : Nb w T b lf u1 u2 u3) (x : Value) : Nb (w.setCell ⟨b,1,none⟩ x) T b lf x u2 u3:=heap_setCell_same w b 1 _ _ x h
theorem Nb.s2 (h : Nb w T b lf u1 u2 u3) (x : Value) : Nb (w.setCell ⟨b,2,none⟩ x) T b lf u1 x u3:=heap_setCell_same w b 2 _ _ x h
theorem Nb.s3 (h : Nb w T b lf u1 u2 u3) (x : Value) : Nb (w.setCell ⟨b,3,none⟩ x) T b lf u1 u2 x:=heap_setCell_same w b 3 _ _ x h
theorem Nb.all (h : Nb w T b lf u1 u2 u3) (x : Bool) (x1 x2 x3 : Value) : Nb ((((w.setCell ⟨b,0,none⟩ (.bool x)).setCell ⟨b,1,none⟩ x1).setCell ⟨b,2,none⟩ x2).setCell ⟨b,3,none⟩ x3) T b x x1 x2 x3:=(((h.s0 x).s1 x1).s2 x2).s3 x3
theorem zg9 (w : World) (b : Nat) (x0 x1 x2 x3 : Value) : Tch (fun j => j = b) w ((((w.setCell ⟨b,0,none⟩ x0).setCell ⟨b,1,none⟩ x1).setCell ⟨b,2,none⟩ x2).setCell ⟨b,3,none⟩ x3):=
 (((tch_at w b 0 x0).trans (tch_at _ b 1 x1) (fun _ _ e => e)).trans (tch_at _ b 2 x2) (fun _ _ e => e)).trans (tch_at _ b 3 x3) (fun _ _ e => e)
end
theorem Nn.tch {S : Nat -> Prop} {w w' : World} {n : Nd} {u1 u2 u3 : Value} (h : Nn w n u1 u2 u3) (ht : Tch S w w') (h1 : ∀ b,u1.ownBlock = some b -> ¬ S b) (h2 : ∀ b,u2.ownBlock = some b -> ¬ S b) (h3 : ∀ b,u3.ownBlock = some b -> ¬ S b) : Nn w' n u1 u2 u3:=
 ⟨h.k.tch ht h1,h.v.tch ht h2,h.d.tch ht h3⟩
theorem zfm9 {fn : Func} {p : Tmp} {ty : TypeId} (h : fn.results = #[.cell p ty]) (tmps : Array Value) (P : Program) (w : World) :
  (results fn tmps).run P w = ((asAddr (tmps.getD p undef)).run P w).andThen fun a w₁ => (loadVar ty a).run P w₁:=by
 simp only [results,h]
 simp [Sem.run_bind,Result.andThen]
theorem zat9 {fn : Func} {p : Tmp} {ty : TypeId} (h : fn.results = #[.cell p ty]) (tmps : Array Value) (P : Program) (w : World) (b : Nat) (v : Value) (ha : tmps.getD p undef = .pointer (some ⟨b,0,none⟩))
  (hl : (loadVar ty ⟨b,0,none⟩).run P w = .ok v w) : (results fn tmps).run P w = .ok v w:=by
 rw [zfm9 h,ha]
 simp [asAddr,Result.andThen,hl]
theorem ze9 {fn : Func} {p u : Tmp} {ty : TypeId} (h : fn.results = #[.cell p ty,.tmp u]) (tmps : Array Value) (P : Program) (w : World) (b : Nat) (v x : Value) (ha : tmps.getD p undef = .pointer (some ⟨b,0,none⟩))
  (hl : (loadVar ty ⟨b,0,none⟩).run P w = .ok v w) (hx : tmps.getD u undef = x) : (results fn tmps).run P w = .ok (.tuple #[v,x]) w:=by
 rw [results_cell_tmp h,ha]
 simp [asAddr,Result.andThen,hl,hx]
theorem OwnsV.ne {e : TypeId} {w : World} {v : Value} {cs : List Value} (h : OwnsV e w v cs) {b : Nat} {C : Array Value} {T : TypeId} (hb : w.heap[b]? = some (.cells C T (0,0))) (hT : e ≠ T) : v.ownBlock ≠ some b:=by
 intro hv
 have h' : w.ownsRow 0 e 1 v cs.length cs:=h
 rcases h'.2 with ⟨rfl,_⟩ | ⟨g,cap,cur,rfl,_,hg,_⟩
 ·cases hv
 ·simp only [Value.ownBlock,Option.some.injEq] at hv
  subst hv
  rw [hb] at hg
  simp only [Option.some.injEq,Obj.cells.injEq] at hg
  exact hT hg.2.1.symm
theorem RdV.long {w : World} {v : Value} {cs : List Value} (h : RdV w v cs) : ∃ a cap,v = .slice a cs.length cap:=by
 obtain ⟨a,cap,e,_⟩:=h
 exact ⟨a,cap,e⟩
def OwB (B : Nat) (w : World) (v : Value) (xs : List Int) : Prop:=w.ownsRow B 5 1 v xs.length (xs.map (Value.int .u8))
theorem OwB.owns {B : Nat} {w : World} {v : Value} {xs : List Int} (h : OwB B w v xs) : Owns .u8 5 w v xs:=by
 refine ⟨h.1,?_⟩
 rcases h.2 with h0 | ⟨g,cap,cur,rfl,hb,rest⟩
 ·exact .inl h0
 ·exact .inr ⟨g,cap,cur,rfl,zn7 _,rest⟩
theorem OwB.rd {B : Nat} {w : World} {v : Value} {xs : List Int} (h : OwB B w v xs) : Rd .u8 w v xs:=h.owns.rd
theorem OwB.ge {B : Nat} {w : World} {v : Value} {xs : List Int} (h : OwB B w v xs) : ∀ j,v.ownBlock = some j -> B <= j:=fun j hj => (World.ownsRow.lt h j hj).1
theorem OwB.tch {S : Nat -> Prop} {B : Nat} {w w' : World} {v : Value} {xs : List Int} (h : OwB B w v xs) (ht : Tch S w w') (hn : ∀ j,v.ownBlock = some j -> ¬ S j) : OwB B w' v xs:=by
 refine ⟨h.1,?_⟩
 rcases h.2 with h0 | ⟨g,cap,cur,rfl,hb,hg,rest⟩
 ·exact .inl h0
 ·refine .inr ⟨g,cap,cur,rfl,hb,?_,rest⟩
  rw [ht.block g (Array.getElem?_eq_some_iff.1 hg).1 (hn g rfl)]
  exact hg
theorem OwB.below {B : Nat} {w w' : World} {v : Value} {xs : List Int} (h : OwB B w v xs) (hb : Below w.heap.size w w') : OwB B w' v xs:=h.tch (S:=fun _ => False) (Tch.of_below hb) (fun _ _ e => e)
theorem OwB.long {B : Nat} {w : World} {v : Value} {xs : List Int} (h : OwB B w v xs) : ∃ a cap,v = .slice a xs.length cap:=by
 obtain ⟨a,cap,e,_⟩:=h.rd
 exact ⟨a,cap,e⟩
theorem OwB.ne {B : Nat} {w : World} {v : Value} {xs : List Int} (h : OwB B w v xs) {b : Nat} {C : Array Value} {T : TypeId} (hb : w.heap[b]? = some (.cells C T (0,0))) (hT : 5 ≠ T) : v.ownBlock ≠ some b:=
 (OwnsV.ints h.owns).ne hb hT
theorem OwB.mono {B B' : Nat} {w : World} {v : Value} {xs : List Int} (h : OwB B w v xs) (hb : B' <= B) : OwB B' w v xs:=by
 refine ⟨h.1,?_⟩
 rcases h.2 with h0 | ⟨g,cap,cur,rfl,hg,rest⟩
 ·exact .inl h0
 ·exact .inr ⟨g,cap,cur,rfl,zn2 hb hg,rest⟩
structure Gb (B : Nat) (w w' : World) (v : Value) : Prop where
 tch : Tch (fun k => v.ownBlock = some k) w w'
theorem Gb.below {B : Nat} {w w' : World} {v : Value} {xs : List Int} (h : Gb B w w' v) (ho : OwB B w v xs) (hB : B <= w.heap.size) : Below B w w':=h.tch.below hB (fun k e => ho.ge k e)
theorem zkf9 : ∃ i,Tryz.prog.info? 5 = some i /\ i.zero = some (.int .u8 0) /\ i.size = 1 /\ i.bytes = 1:=info_parts (z:=.int .u8 0) (size:=1) (bytes:=1) (by kernel_rfl)
theorem zhr9 (B : Nat) (w : World) (ty : TypeId) (v : Value) (xs : List Int) (hown : OwB B w v xs) (g : Nat) (ys : List Int) (hg : ∀ j u,(ys.map (Value.int .u8))[j]? = some u -> w.cell? ⟨g,j,none⟩ = some u) (hl : xs.length + ys.length <= 100000) (hB : B <= w.heap.size) :
  ∃ v' w',(Builtin.append_ #[61,61] ty #[v,.slice (some ⟨g,0,none⟩) ys.length ys.length]).run Tryz.prog w = .ok v' w' /\ OwB B w' v' (xs ++ ys) /\ Gb B w w' v:=by
 obtain ⟨i,hi,hz,h1,hb⟩:=zkf9
 obtain ⟨v',w',hr,ho,hgr,_⟩:=run_append_own (P:=Tryz.prog) w B 61 ty 5 i (.int .u8 0) 1 1 Tryz.underlying61 hi hz h1 hb rfl (by decide) v xs.length (xs.map (Value.int .u8)) hown ⟨g,0,none⟩ ys.length ys.length (ys.map (Value.int .u8)) (by simp)
  (fun j u hu => by rw [Addr.add_lit,Nat.zero_add]; exact hg j u hu) (fun u hu => by obtain ⟨x,_,rfl⟩:=List.mem_map.1 hu; rfl) (by unfold maxLen; omega) (by omega) hB
 refine ⟨v',w',hr,?_,⟨(Tch.refl _ w).grown hgr (fun _ _ e => e)⟩⟩
 unfold OwB
 rw [List.length_append,List.map_append]
 exact ho
theorem zrg9 (B : Nat) (w : World) (ty : TypeId) (v : Value) (xs : List Int) (hown : OwB B w v xs) (s : ByteArray) (hl : xs.length + s.size <= 100000) (hB : B <= w.heap.size) :
  ∃ v' w',(Builtin.append_ #[61,9] ty #[v,.string s]).run Tryz.prog w = .ok v' w' /\ OwB B w' v' (xs ++ bts s) /\ Gb B w w' v:=by
 obtain ⟨i,hi,hz,h1,hb⟩:=zkf9
 obtain ⟨v',w',hr,ho,hgr,_⟩:=Lib.run_append_own_string (P:=Tryz.prog) w B 61 9 ty 5 i Tryz.underlying61 Tryz.underlying9 hi hz h1 hb v xs.length (xs.map (Value.int .u8)) hown s (by unfold maxLen; omega) (by omega) hB
 refine ⟨v',w',hr,?_,⟨(Tch.refl _ w).grown hgr (fun _ _ e => e)⟩⟩
 unfold OwB
 rw [List.length_append,List.map_append,zfb9,<- zmk9]
 exact ho
section
variable {ops : Array Oper} {rest : List Oper} {o : Oper} {a : Act} {Q : Exit -> Act -> World -> Prop}
theorem zdk9 (w : World) (hgd : o.guard = none) (s x : Operand) (ho : o.op = .call { callee:=.builtin .append,args:=#[s,x],argTypes:=#[61,61] })
  (B : Nat) (v : Value) (xs : List Int) (hs : a.eval s = v) (hown : OwB B w v xs) (g : Nat) (ys : List Int) (hx : a.eval x = .slice (some ⟨g,0,none⟩) ys.length ys.length) (hg : ∀ j u,(ys.map (Value.int .u8))[j]? = some u -> w.cell? ⟨g,j,none⟩ = some u)
  (hl : xs.length + ys.length <= 100000) (hB : B <= w.heap.size)
  (h : ∀ v' w',OwB B w' v' (xs ++ ys) -> Gb B w w' v -> wpList Tryz.prog ops Q rest (a.put o.dst v') w') : wpList Tryz.prog ops Q (o :: rest) a w:=by
 obtain ⟨v',w',hr,h2,h3⟩:=zhr9 B w o.type v xs hown g ys hg hl hB
 refine wpList_plain hgd fun K hK => ?_
 unfold Oper.wp
 simp [execOp,ho,resolve,invoke,builtin,hs,hx,hr,Result.andThen]
 exact hK _ _ (h v' w' h2 h3)
theorem zja9 (w : World) (hgd : o.guard = none) (s x : Operand) (ho : o.op = .call { callee:=.builtin .append,args:=#[s,x],argTypes:=#[61,9] })
  (B : Nat) (v : Value) (xs : List Int) (hs : a.eval s = v) (hown : OwB B w v xs) (st : ByteArray) (hx : a.eval x = .string st)
  (hl : xs.length + st.size <= 100000) (hB : B <= w.heap.size)
  (h : ∀ v' w',OwB B w' v' (xs ++ bts st) -> Gb B w w' v -> wpList Tryz.prog ops Q rest (a.put o.dst v') w') : wpList Tryz.prog ops Q (o :: rest) a w:=by
 obtain ⟨v',w',hr,h2,h3⟩:=zrg9 B w o.type v xs hown st hl hB
 refine wpList_plain hgd fun K hK => ?_
 unfold Oper.wp
 simp [execOp,ho,resolve,invoke,builtin,hs,hx,hr,Result.andThen]
 exact hK _ _ (h v' w' h2 h3)
theorem zlr9 {w : World} {K : Act -> World -> Prop} {E : Prop} (hgd : o.guard = none) (s x : Operand) (ho : o.op = .call { callee:=.builtin .append,args:=#[s,x],argTypes:=#[61,61] })
  (B : Nat) (v : Value) (xs : List Int) (hs : a.eval s = v) (hown : OwB B w v xs) (g : Nat) (ys : List Int) (hx : a.eval x = .slice (some ⟨g,0,none⟩) ys.length ys.length) (hg : ∀ j u,(ys.map (Value.int .u8))[j]? = some u -> w.cell? ⟨g,j,none⟩ = some u)
  (hl : xs.length + ys.length <= 100000) (hB : B <= w.heap.size)
  (h : ∀ v' w',OwB B w' v' (xs ++ ys) -> Gb B w w' v -> K (a.put o.dst v') w') :
  if Region.wanted o (yielded ops a.tmps) = true then Oper.wp Tryz.prog o a w K Q else E:=by
 have hw : Region.wanted o (yielded ops a.tmps) = true:=by simp [Region.wanted,hgd]
 rw [if_pos hw]
 obtain ⟨v',w',hr,h2,h3⟩:=zhr9 B w o.type v xs hown g ys hg hl hB
 unfold Oper.wp
 simp [execOp,ho,resolve,invoke,builtin,hs,hx,hr,Result.andThen]
 exact h v' w' h2 h3
end
theorem zeg9 (w : World) (ys : List Int) (j : Nat) (u : Value) (h : (ys.map (Value.int .u8))[j]? = some u) : (w.alloc (.cells (ys.map (Value.int .u8)).toArray 5)).cell? ⟨w.heap.size,j,none⟩ = some u:=by
 rw [cell_of_row _ w.heap.size j _ _ (0,0) (heap_alloc_new w _),List.getElem?_toArray]
 exact h
def blN (k : Int) (v : Value) : Value:=.agg #[.int .i64 k,v]
theorem zsq9 : (Tryz.prog.info? 63).map (·.size) = some 2:=by kernel_rfl
def Kb (w : World) (b : Nat) (K : Int) (v : Value) : Prop:=w.heap[b]? = some (.cells #[.int .i64 K,v] 63 (0,0))
section
variable {w w' : World} {b : Nat} {K : Int} {v : Value}
theorem Kb.range (h : Kb w b K v) : w.rangeAt b 0 [.int .i64 K,v]:=fun j u hu => by
 rw [Nat.zero_add,cell_of_row w b j _ _ (0,0) h,List.getElem?_toArray]
 exact hu
theorem Kb.load (h : Kb w b K v) : (loadVar 63 ⟨b,0,none⟩).run Tryz.prog w = .ok (blN K v) w:=
 run_loadVar_mid (P:=Tryz.prog) w b 0 63 [.int .i64 K,v] _ h.range Tryz.underlying63 rfl zsq9
theorem Kb.c0 (h : Kb w b K v) : w.cell? ⟨b,0,none⟩ = some (.int .i64 K):=by rw [cell_of_row w b 0 _ _ (0,0) h]; rfl
theorem Kb.c1 (h : Kb w b K v) : w.cell? ⟨b,1,none⟩ = some v:=by rw [cell_of_row w b 1 _ _ (0,0) h]; rfl
theorem Kb.fz (h : Kb w b K v) (i : Nat) : w.frozen? ⟨b,i,none⟩ = false:=frozen_of_row w b i _ _ h
theorem Kb.lt (h : Kb w b K v) : b < w.heap.size:=(Array.getElem?_eq_some_iff.1 h).1
theorem Kb.tch {S : Nat -> Prop} (h : Kb w b K v) (ht : Tch S w w') (hb : ¬ S b) : Kb w' b K v:=by unfold Kb; rw [ht.block b h.lt hb]; exact h
theorem Kb.below (h : Kb w b K v) (hb : Below w.heap.size w w') : Kb w' b K v:=h.tch (S:=fun _ => False) (Tch.of_below hb) (fun e => e)
theorem Kb.put (h : Kb w b K v) (J : Int) (u : Value) : Kb ((w.setCell ⟨b,0,none⟩ (.int .i64 J)).setCell ⟨b,1,none⟩ u) b J u:=by
 have h1:=heap_setCell_same w b 0 _ _ (.int .i64 J) h
 have h2:=heap_setCell_same _ b 1 _ _ u h1
 exact h2
theorem kb_new (w : World) (K : Int) (v : Value) : Kb (w.alloc (.cells #[.int .i64 K,v] 63)) w.heap.size K v:=heap_alloc_new w _
theorem zmc9 (w : World) (b : Nat) (x0 x1 : Value) : Tch (fun j => j = b) w ((w.setCell ⟨b,0,none⟩ x0).setCell ⟨b,1,none⟩ x1):=
 (tch_at w b 0 x0).trans (tch_at _ b 1 x1) (fun _ _ e => e)
end
def kdN (lf : Bool) : Int:=if lf = true then 1 else 2
def RdS (n0 : Nat) (w : World) (v : Value) (xs : List Int) : Prop:=∀ w',Below n0 w w' -> Rd .u8 w' v xs
theorem RdS.rd {n0 : Nat} {w : World} {v : Value} {xs : List Int} (h : RdS n0 w v xs) : Rd .u8 w v xs:=h w (Below.refl _ _)
theorem RdS.below {n0 : Nat} {w w' : World} {v : Value} {xs : List Int} (h : RdS n0 w v xs) (hb : Below n0 w w') : RdS n0 w' v xs:=fun w2 h2 => h w2 (hb.trans h2)
theorem rdS_of {w : World} {v : Value} {xs : List Int} (h : Rd .u8 w v xs) : RdS w.heap.size w v xs:=fun w' hb => h.below hb
theorem ztl9 (w : World) : Rd .u8 w (.slice none 0 0) []:=⟨none,0,rfl,zn6 _,by unfold maxLen; omega,fun _ => rfl,.inl rfl⟩
structure Sz (n0 : Nat) (w : World) (g : Nat) (lv : Value) (t : List Int × Bool) : Prop where
 blk : w.heap[g]? = some (.cells #[lv,.bool t.2] 235 (0,0))
 rs : RdS n0 w lv t.1
 bys : By t.1
 new : n0 <= g
def SzX (n0 : Nat) (w : World) (g : Nat) (t : List Int × Bool) : Prop:=∃ lv,Sz n0 w g lv t
section
variable {n0 : Nat} {w w' : World} {g : Nat} {lv : Value} {t : List Int × Bool}
theorem Sz.c0 (h : Sz n0 w g lv t) : w.cell? ⟨g,0,none⟩ = some lv:=by rw [cell_of_row w g 0 _ _ (0,0) h.blk]; rfl
theorem Sz.c1 (h : Sz n0 w g lv t) : w.cell? ⟨g,1,none⟩ = some (.bool t.2):=by rw [cell_of_row w g 1 _ _ (0,0) h.blk]; rfl
theorem Sz.fz (h : Sz n0 w g lv t) (j : Nat) : w.frozen? ⟨g,j,none⟩ = false:=frozen_of_row w g j _ _ h.blk
theorem Sz.lt (h : Sz n0 w g lv t) : g < w.heap.size:=(Array.getElem?_eq_some_iff.1 h.blk).1
theorem Sz.tch {S : Nat -> Prop} (h : Sz n0 w g lv t) (ht : Tch S w w') (hg : ¬ S g) (ho : ∀ k,S k -> n0 <= k) (hn : n0 <= w.heap.size) : Sz n0 w' g lv t:=
 ⟨by rw [ht.block g h.lt hg]; exact h.blk,h.rs.below (ht.below hn ho),h.bys,h.new⟩
theorem SzX.tch {S : Nat -> Prop} (h : SzX n0 w g t) (ht : Tch S w w') (hg : ¬ S g) (ho : ∀ k,S k -> n0 <= k) (hn : n0 <= w.heap.size) : SzX n0 w' g t:=by obtain ⟨lv,h⟩:=h; exact ⟨lv,h.tch ht hg ho hn⟩
theorem SzX.lt (h : SzX n0 w g t) : g < w.heap.size:=by obtain ⟨lv,h⟩:=h; exact h.lt
theorem SzX.new (h : SzX n0 w g t) : n0 <= g:=by obtain ⟨lv,h⟩:=h; exact h.new
theorem SzX.below (h : SzX n0 w g t) (hb : Below w.heap.size w w') : SzX n0 w' g t:=h.tch (S:=fun _ => False) (Tch.of_below hb) (fun e => e) (fun _ e => e.elim) (zn2 h.new (Nat.le_of_lt h.lt))
end
def takeZ (t : List Int × Bool) (m : Nat) : List Int × (List Int × Bool):=if t.2 = true ∨ t.1.length < m then ([],(t.1,true)) else (t.1.take m,(t.1.drop m,false))
section
variable {ops : Array Oper} {rest : List Oper} {o : Oper} {a : Act} {Q : Exit -> Act -> World -> Prop}
theorem zgs9 (w : World) (hgd : o.guard = none) (x l : Operand) (ho : o.op = .slice 61 x none (some l) none) (v : Value) (xs : List Int) (hv : a.eval x = v) (hr : Rd .u8 w v xs) (m : Nat) (hl : a.eval l = .int .i64 (m : Int)) (hm : m <= xs.length)
  (h : ∀ v',(∀ w0,Rd .u8 w0 v xs -> Rd .u8 w0 v' (xs.take m)) -> wpList Tryz.prog ops Q rest (a.put o.dst v') w) : wpList Tryz.prog ops Q (o :: rest) a w:=by
 obtain ⟨b,cap,hb,hcap,_⟩:=id hr
 refine wpList_plain hgd fun K hK => ?_
 have hrun : (Instr.sliceAt 61 (.slice b xs.length cap) none (some (.int .i64 (m : Int))) none).run Tryz.prog w = .ok (sliced b 0 m cap 1) w:=by
  rw [run_sliceAt_slice _ _ _ _ _ _ under8,run_slice_h _ _ _ _ _ under8 _ _ (by omega) (by omega),size8]
  simp [Result.andThen]
 unfold Oper.wp execOp
 simp only [ho,hv,hl,hb,Option.map_some,Option.map_none,Sem.run_bind,hrun,Result.andThen_ok]
 refine hK _ _ (h _ fun w0 h0 => ?_)
 rw [hb] at h0
 have h2:=zhn9 h0 0 m (zn7 _) hm
 rw [List.drop_zero,Nat.sub_zero] at h2
 exact h2
theorem zgr9 (w : World) (hgd : o.guard = none) (x l : Operand) (ho : o.op = .slice 61 x (some l) none none) (v : Value) (xs : List Int) (hv : a.eval x = v) (hr : Rd .u8 w v xs) (m : Nat) (hl : a.eval l = .int .i64 (m : Int)) (hm : m <= xs.length)
  (h : ∀ v',(∀ w0,Rd .u8 w0 v xs -> Rd .u8 w0 v' (xs.drop m)) -> wpList Tryz.prog ops Q rest (a.put o.dst v') w) : wpList Tryz.prog ops Q (o :: rest) a w:=by
 obtain ⟨b,cap,hb,_⟩:=id hr
 refine wpList_plain hgd fun K hK => ?_
 have hrun : (Instr.sliceAt 61 (.slice b xs.length cap) (some (.int .i64 (m : Int))) none none).run Tryz.prog w = .ok (sliced b m xs.length cap 1) w:=by
  rw [run_sliceAt_slice _ _ _ _ _ _ under8,run_slice_l _ _ _ _ _ under8 _ _ (by omega) (by omega),size8]
  simp [Result.andThen]
 unfold Oper.wp execOp
 simp only [ho,hv,hl,hb,Option.map_some,Option.map_none,Sem.run_bind,hrun,Result.andThen_ok]
 refine hK _ _ (h _ fun w0 h0 => ?_)
 rw [hb] at h0
 have h2:=zhn9 h0 m xs.length hm (zn6 _)
 rw [show (xs.drop m).take (xs.length - m) = xs.drop m by rw [zn5]; rw [List.length_drop]; omega] at h2
 exact h2
end
theorem By.dropN {xs : List Int} (h : By xs) (m : Nat) : By (xs.drop m):=by
 intro i
 rw [zn3,List.getElem?_drop,<- zn3]
 exact h _
theorem zdw9 (n0 g : Nat) (t : List Int × Bool) (m : Nat) (w : World) (h : SzX n0 w g t) (hm : m <= 9007199254740992) :
  Calls Tryz.prog 186 #[.pointer (some ⟨g,0,none⟩),.int .i64 (m : Int)] w fun e w' => ∃ rv,e = .returned rv /\ RdS n0 w' rv (takeZ t m).1 /\ SzX n0 w' g (takeZ t m).2 /\ Tch (fun k => k = g) w w':=by
 obtain ⟨lv,h⟩:=h
 have H:=hideN h
 obtain ⟨a,cap,hv,hcl,hcm,_,_⟩:=h.rs.rd
 have c0:=h.c0
 have c1:=h.c1
 have f0:=h.fz 0
 have f1:=h.fz 1
 obtain ⟨xs,sh⟩:=t
 obtain ⟨L,hL⟩:=exH xs.length
 simp only at hv hcl c0 c1
 rw [hL.out] at hv hcl
 subst hv
 have hL9 : L <= 9223372036854775807:=by unfold maxLen at hcm; omega
 have HT : Hid (takeZ (xs,sh) m = if sh = true ∨ xs.length < m then ([],(xs,true)) else (xs.take m,(xs.drop m,false))):=rfl
 rw [hL.out] at HT
 have HNG : Hid (∀ w',Tch (fun k => k = g) w w' -> Below n0 w w'):=fun w' ht => ht.below (zn2 H.out.new (Nat.le_of_lt H.out.lt)) (fun k e => by rw [e]; exact H.out.new)
 have HBAD : Hid (takeZ (xs,sh) m = ([],(xs,true)) -> ∃ rv,Ending.returned (Value.slice none 0 0) = .returned rv /\ RdS n0 (w.setCell ⟨g,1,none⟩ (.bool true)) rv (takeZ (xs,sh) m).1 /\ SzX n0 (w.setCell ⟨g,1,none⟩ (.bool true)) g (takeZ (xs,sh) m).2 /\ Tch (fun k => k = g) w (w.setCell ⟨g,1,none⟩ (.bool true))):=fun e => by
  have ht:=tch_at w g 1 (.bool true)
  rw [e]
  exact ⟨_,rfl,fun w' _ => ztl9 w',⟨_,heap_setCell_same w g 1 _ _ (.bool true) H.out.blk,H.out.rs.below (HNG.out _ ht),H.out.bys,H.out.new⟩,ht⟩
 clear h hcm
 cases sh with
 | true =>
  have HB:=hideN (HBAD.out (by rw [HT.out,if_pos (.inl rfl)]))
  clear HBAD HT
  go_enter Tryz.func186,Tryz.ntmps186
  go_wp2_with fail
  go_ret
  exact HB.out
 | false =>
  by_cases hlt : L < m
  ·have hlt' : (L : Int) < (m : Int):=by omega
   have HB:=hideN (HBAD.out (by rw [HT.out,if_pos (.inr hlt)]))
   clear HBAD HT
   go_enter Tryz.func186,Tryz.ntmps186
   go_wp2_with fail
   go_ret
   exact HB.out
  ·have hlt' : (m : Int) <= (L : Int):=by omega
   have hdl : decide ((L : Int) < (m : Int)) = false:=by rw [zn4]; omega
   have HTO : Hid (takeZ (xs,false) m = (xs.take m,(xs.drop m,false))):=by show _ = _; rw [HT.out,if_neg (by simp; omega)]
   have HML : Hid (m <= xs.length):=by show _ <= _; rw [hL.out]; omega
   have HRR : Hid (Rd .u8 w (.slice a L cap) xs):=H.out.rs.rd
   clear HBAD HT
   go_enter Tryz.func186,Tryz.ntmps186
   go_wp2_with (with_reducible (show wpList _ _ _ (Oper.mk _ (Op.slice _ _ none _ _) _ _ _ _ :: _) _ _); refine zgs9 _ rfl (.tmp 25) (.tmp 26) rfl (.slice a L cap) xs ?h1 HRR.out m ?h2 HML.out ?_; (case h1 => kernel_rfl); (case h2 => kernel_rfl))
   intro v1 h1
   have H1:=hideN h1
   clear h1
   go_wp2_with (with_reducible (show wpList _ _ _ (Oper.mk _ (Op.slice _ _ (some _) _ _) _ _ _ _ :: _) _ _); refine zgr9 _ rfl (.tmp 32) (.tmp 33) rfl (.slice a L cap) xs ?h1 HRR.out m ?h2 HML.out ?_; (case h1 => kernel_rfl); (case h2 => kernel_rfl))
   intro v2 h2
   obtain ⟨a2,cap2,e2,_⟩:=h2 w HRR.out
   obtain ⟨L2,hL2⟩:=exH ((xs.drop m).length)
   have H2:=hideN h2
   rw [hL2.out] at e2
   subst e2
   have HF : Hid (∃ rv,Ending.returned v1 = .returned rv /\ RdS n0 (w.setCell ⟨g,0,none⟩ (.slice a2 L2 cap2)) rv (takeZ (xs,false) m).1 /\ SzX n0 (w.setCell ⟨g,0,none⟩ (.slice a2 L2 cap2)) g (takeZ (xs,false) m).2 /\ Tch (fun k => k = g) w (w.setCell ⟨g,0,none⟩ (.slice a2 L2 cap2))):=by
    have ht:=tch_at w g 0 (.slice a2 L2 cap2)
    show ∃ _,_
    rw [HTO.out]
    have hb:=HNG.out _ ht
    exact ⟨_,rfl,fun w' hb' => H1.out w' (H.out.rs w' (hb.trans hb')),⟨_,heap_setCell_same w g 0 _ _ (.slice a2 L2 cap2) H.out.blk,fun w' hb' => H2.out w' (H.out.rs w' (hb.trans hb')),H.out.bys.dropN m,H.out.new⟩,ht⟩
   clear h2
   go_wp2_with fail
   go_ret
   exact HF.out
def numZ (t : List Int × Bool) : Int × (List Int × Bool):=((takeZ t 1).1.getD 0 0,(takeZ t 1).2)
theorem zhx9 (t : List Int × Bool) (m : Nat) : (takeZ t m).1.length = 0 ∨ (takeZ t m).1.length = m:=by
 unfold takeZ
 split
 ·exact .inl rfl
 ·rename_i h; right; simp only [List.length_take]; omega
theorem zmb9 {t : List Int × Bool} (h : By t.1) (m : Nat) : By (takeZ t m).1:=by
 unfold takeZ
 split
 ·intro i; simp
 ·exact h.take m
theorem zby9 (n0 g : Nat) (t : List Int × Bool) (w : World) (h : SzX n0 w g t) :
  Calls Tryz.prog 166 #[.pointer (some ⟨g,0,none⟩)] w fun e w' => e = .returned (.int .i64 (numZ t).1) /\ (0 <= (numZ t).1 /\ (numZ t).1 <= 255) /\ SzX n0 w' g (numZ t).2 /\ Tch (fun k => k = g) w w':=by
 have H:=hideN h
 have HBY : Hid (By t.1):=by obtain ⟨lv,h⟩:=h; exact h.bys
 have HTB:=hideN (zmb9 HBY.out 1 0)
 obtain ⟨r,hr⟩:=exH ((numZ t).1)
 have HRB : Hid (0 <= r /\ r <= 255):=by rw [<- hr.out]; exact HTB.out
 rw [hr.out]
 clear h
 go_enter Tryz.func166,Tryz.ntmps166
 go_wp2_with fail
 refine (zdw9 n0 g t 1 w H.out (by omega)).mono ?_
 rintro e w1 ⟨rv,rfl,hrs,hx,ht⟩
 obtain ⟨a,cap,e1,h1,h2,h3,h4⟩:=hrs.rd
 have HX : Hid (SzX n0 w1 g (numZ t).2):=hx
 have HT:=hideN ht
 rcases zhx9 t 1 with h0 | h0
 ·rw [h0] at e1
  subst e1
  have : (takeZ t 1).1 = []:=List.eq_nil_of_length_eq_zero h0
  obtain rfl : r = 0:=by rw [<- hr.out]; unfold numZ; rw [this]; rfl
  clear hrs hx ht h1 h2 h3 h4 this
  go_wp2_with fail
  go_ret
  exact ⟨rfl,HRB.out,HX.out,HT.out⟩
 ·rw [h0] at e1 h1
  subst e1
  rcases h4 with h4 | ⟨b,o,rfl,hc⟩
  ·rw [h4] at h0; cases h0
  have cc : w1.cell? ⟨b,o,none⟩ = some (.int .u8 r):=by have:=hc 0 (by omega); rw [<- hr.out]; exact this
  have hr0:=HRB.out.1
  have hr1:=HRB.out.2
  clear hrs hx ht h2 h3 hc
  go_wp2_with fail
  go_ret
  exact ⟨rfl,HRB.out,HX.out,HT.out⟩
theorem zto9 (w : World) (v : Value) (xs : List Int) (h : Rd .u8 w v xs) : (convert 61 9 v).run Tryz.prog w = .ok (.string (strOfNums xs)) w:=by
 obtain ⟨a,cap,rfl,hl,hm,h0,h4⟩:=h
 cases a with
 | none =>
  have:=h0 rfl
  have hx : xs = []:=List.eq_nil_of_length_eq_zero (by omega)
  subst hx
  exact run_convert_bytes_nil w 61 5 Tryz.underlying61 Tryz.underlying5 _ _ _ Tryz.underlying9
 | some x =>
  rcases h4 with rfl | ⟨b,o,e,hc⟩
  ·rw [run_convert_bytes_string w 61 9 5 _ _ _ Tryz.underlying61 Tryz.underlying5 Tryz.underlying9]
   exact run_bytesToString w x 0 cap [] (run_loadCells_list (P:=Tryz.prog) w x [] (fun j u hu => by cases hu))
  ·cases e
   exact run_convert_bytes_arg w 61 5 Tryz.underlying61 Tryz.underlying5 b o _ cap xs rfl hc _ Tryz.underlying9
def txtZ (t : List Int × Bool) : ByteArray × (List Int × Bool):=(strOfNums (takeZ (numZ t).2 (numZ t).1.toNat).1,(takeZ (numZ t).2 (numZ t).1.toNat).2)
theorem zdx9 (n0 g : Nat) (t : List Int × Bool) (w : World) (h : SzX n0 w g t) :
  Calls Tryz.prog 167 #[.pointer (some ⟨g,0,none⟩)] w fun e w' => e = .returned (.string (txtZ t).1) /\ SzX n0 w' g (txtZ t).2 /\ Tch (fun k => k = g) w w':=by
 have H:=hideN h
 clear h
 obtain ⟨s,hs⟩:=exH ((txtZ t).1)
 rw [hs.out]
 go_enter Tryz.func167,Tryz.ntmps167
 go_wp2_with fail
 refine (zby9 n0 g t w H.out).mono ?_
 rintro e w1 ⟨rfl,hb,hx,ht⟩
 obtain ⟨m,hm⟩ : ∃ m : Nat,(numZ t).1 = (m : Int):=⟨(numZ t).1.toNat,by omega⟩
 have HTX : Hid (txtZ t = (strOfNums (takeZ (numZ t).2 m).1,(takeZ (numZ t).2 m).2)):=by show _ = _; unfold txtZ; rw [hm]; rfl
 have HM : Hid (m <= 255):=by show _ <= _; omega
 have X1:=hideN hx
 have T1:=hideN ht
 rw [hm]
 clear hb hx ht hm
 go_wp2_with fail
 refine (zdw9 n0 g (numZ t).2 m w1 X1.out (by have:=HM.out; omega)).mono ?_
 rintro e w2 ⟨rv,rfl,hrs,hx,ht⟩
 have hrun:=zto9 w2 rv _ hrs.rd
 have es : strOfNums (takeZ (numZ t).2 m).1 = s:=by rw [<- hs.out,HTX.out]
 rw [es] at hrun
 obtain ⟨a,cap,e1,_⟩:=hrs.rd
 obtain ⟨LL,hLL⟩:=exH ((takeZ (numZ t).2 m).1.length)
 rw [hLL.out] at e1
 subst e1
 have HX : Hid (SzX n0 w2 g (txtZ t).2):=by rw [HTX.out]; exact hx
 have HT : Hid (Tch (fun k => k = g) w w2):=T1.out.trans ht (fun _ _ e => e)
 clear hrs hx ht es
 go_wp2_with fail
 go_ret
 exact ⟨rfl,HX.out,HT.out⟩
theorem zds9 (B : Nat) (v : Value) (xs : List Int) (s : ByteArray) (w : World) (h : OwB B w v xs) (hl : xs.length <= 90000) (hs : s.size <= 24) (hB : B <= w.heap.size) :
  Calls Tryz.prog 179 #[v,.string s] w fun e w' => (∃ v',e = .returned v' /\ OwB B w' v' (xs ++ ((s.size : Int) :: bts s))) /\ Below B w w':=by
 have H:=hideN h
 have hs' : (s.size : Int) <= 24:=by omega
 have hs2 : (0 : Int) <= (s.size : Int):=by omega
 obtain ⟨a,cap,rfl⟩:=h.long
 have HL : Hid (xs.length + [(s.size : Int)].length <= 100000):=by show _ <= _; simp; omega
 have HL2 : Hid ((xs ++ [(s.size : Int)]).length + s.size <= 100000):=by show _ <= _; simp; omega
 have HB:=hideN hB
 obtain ⟨L,hLL⟩:=exH xs.length
 rw [hLL.out] at H ⊢
 clear h hl hB
 go_enter Tryz.func179,Tryz.ntmps179
 go_wp2_with (at_builtin; refine zdk9 _ rfl (.tmp 5) (.tmp 9) rfl B _ xs rfl (H.out.below (za9 _ _)) w.heap.size [(s.size : Int)] rfl (zeg9 w [(s.size : Int)]) HL.out (by have:=HB.out; simp; omega) ?_)
 intro v2 w2 o2 g2
 have O2:=hideN o2
 have B2 : Hid (Below B w w2):=((za9 w _).mono HB.out).trans (g2.below (H.out.below (za9 _ _)) (by have:=HB.out; simp; omega))
 have HB2 : Hid (B <= w2.heap.size):=by have:=HB.out; have h2:=B2.out.size; show _ <= _; omega
 clear o2 g2
 go_wp2_with (at_builtin; refine zja9 _ rfl (.tmp 11) (.tmp 12) rfl B _ _ rfl O2.out s rfl HL2.out HB2.out ?_)
 intro v3 w3 o3 g3
 have O3 : Hid (OwB B w3 v3 (xs ++ ((s.size : Int) :: bts s))):=by first | exact o3 | (have:=o3; rw [List.append_assoc] at this; exact this)
 have B3 : Hid (Below B w w3):=B2.out.trans (g3.below O2.out HB2.out)
 clear o3 g3
 go_wp2_with fail
 go_ret
 exact ⟨⟨_,rfl,O3.out⟩,B3.out⟩
end Go.Proofs.YtjhccpijpffahaaGreat
