import Derived.Test.YtjhccpijpffahaaGreatPRow0
import Derived.Laws.BytesArg
import Derived.Lib.AppendStr
import Derived.Laws.Cover1
set_option maxRecDepth 100000
set_option linter.unusedVariables false
set_option linter.unusedSimpArgs false
set_option maxHeartbeats 8000000
namespace Go.Proofs.YtjhccpijpffahaaGreat
open Go.RowKit Pl
structure Nd where
 lf : Bool
 ks : List ByteArray
 vs : List ByteArray
 kd : List Int
def eS : ByteArray:=⟨#[]⟩
def kA (n : Nd) (i : Nat) : ByteArray:=n.ks.getD i eS
def vA (n : Nd) (i : Nat) : ByteArray:=n.vs.getD i eS
def dA (n : Nd) (i : Nat) : Int:=n.kd.getD i 0
def szA (n : Nd) (i : Nat) : Nat:=1 + (kA n i).size + (if n.lf = true then 1 + (vA n i).size else if i < n.kd.length then 2 else 0)
def szN (n : Nd) : Nat -> Nat
 | 0 => 1
 | k + 1 => szN n k + szA n k
def W (x : Nat) : Int:=wrap64 (x : Int)
theorem zcq9 (a b : Int) : wrap64 (wrap64 a + b) = wrap64 (a + b):=by unfold wrap64; omega
theorem zax9 {x : Nat} (h : x < 4611686018427387904) : W x = (x : Int):=by unfold W wrap64; omega
theorem W_add (x y : Nat) : wrap64 (W x + (y : Int)) = W (x + y):=by
 unfold W; rw [zcq9]; congr 1
theorem W_in (x : Nat) : -9223372036854775808 <= W x /\ W x <= 9223372036854775807:=by unfold W wrap64; omega
theorem u8_low (d : Int) : IntKind.u8.wrap d = d % 256:=by simp [IntKind.wrap,IntKind.signed,IntKind.bits]
theorem zty9 {d : Int} (h0 : 0 <= d) (h1 : d <= 65535) : IntKind.u8.wrap (d / 256) = d / 256:=by rw [u8_low]; omega
structure Sm (n : Nd) : Prop where
 ks : ∀ i,(kA n i).size <= 140737488351232
 vs : ∀ i,(vA n i).size <= 140737488351232
 kl : n.ks.length <= 8796093021952
 vl : n.vs.length <= 8796093021952
 dl : n.kd.length <= 17592186043904
def lts (a b : ByteArray) : Bool:=Op.bytesLess a.toList b.toList
def eqs (a b : ByteArray) : Bool:=a.toList == b.toList
def kOk (n : Nd) (i : Nat) : Prop:=(kA n i).size <= 24 /\ (0 < i -> lts (kA n (i - 1)) (kA n i) = true) /\ (n.lf = true -> eqs (kA n i) eS = false)
def MayP (n : Nd) : Prop:=1 <= n.ks.length /\ W (szN n n.ks.length) <= 240 /\ (∀ i,i < n.ks.length -> kOk n i) ∧
 (if n.lf = true then (∀ i,i < n.vs.length -> (vA n i).size <= 24) /\ n.vs.length = n.ks.length /\ n.kd.length = 0
  else (∀ i,i < n.kd.length -> 0 <= dA n i /\ dA n i <= 65535) /\ n.kd.length = n.ks.length /\ n.vs.length = 0)
open Classical in
noncomputable def mayN (n : Nd) : Bool:=decide (MayP n)
theorem zw9 {n : Nd} : mayN n = true ↔ MayP n:=by unfold mayN; exact @decide_eq_true_iff _ (Classical.propDecidable _)
def bts (s : ByteArray) : List Int:=s.data.toList.map fun b => (b.toNat : Int)
theorem zfb9 (s : ByteArray) : (bts s).length = s.size:=by unfold bts; rw [List.length_map]; exact Array.length_toList
theorem bts_by (s : ByteArray) : By (bts s):=by
 intro i
 rw [zn3]
 cases e : (bts s)[i]? with
 | none => simp
 | some x =>
  unfold bts at e
  rw [List.getElem?_map] at e
  cases e2 : s.data.toList[i]? with
  | none => rw [e2] at e; cases e
  | some b =>
   rw [e2] at e
   simp only [Option.map_some,Option.some.injEq] at e
   have:=b.toNat_lt
   simp only [Option.getD_some]
   omega
theorem zmk9 (s : ByteArray) : Lib.strCells s = (bts s).map (Value.int .u8):=by
 unfold Lib.strCells bts
 rw [List.map_map]
 rfl
theorem ztu9 (s : ByteArray) : strOfNums (bts s) = s:=by
 obtain ⟨d⟩:=s
 unfold strOfNums bts
 congr 1
 rw [List.map_map]
 have : (fun n : Int => UInt8.ofNat n.toNat) ∘ (fun b : UInt8 => (b.toNat : Int)) = id:=by
  funext b
  simp
 rw [this]
 simp
def itm (n : Nd) (i : Nat) : List Int:=((kA n i).size : Int) :: (bts (kA n i) ++ (if n.lf = true then ((vA n i).size : Int) :: bts (vA n i) else [dA n i % 256,dA n i / 256]))
def encN (n : Nd) : Nat -> List Int
 | 0 => [(n.ks.length : Int)]
 | k + 1 => encN n k ++ itm n k
def plc (n : Nd) (key : ByteArray) : Nat -> Nat
 | 0 => 0
 | k + 1 => if n.lf = true then (if lts (kA n k) key = true then k + 1 else plc n key k) else (if (lts (kA n k) key || eqs (kA n k) key) = true then k else plc n key k)
theorem plc_le (n : Nd) (key : ByteArray) (k : Nat) : plc n key k <= k:=by
 induction k with
 | zero => exact zn6 _
 | succ k ih => simp only [plc]; split <;> split <;> omega
def RdV (w : World) (v : Value) (cs : List Value) : Prop:=
 ∃ a cap,v = .slice a cs.length cap /\ cs.length <= cap /\ cap <= maxLen /\ (a = none -> cap = 0) ∧
  (cs = [] ∨ ∃ b o,a = some ⟨b,o,none⟩ /\ ∀ i c,cs[i]? = some c -> w.cell? ⟨b,o + i,none⟩ = some c)
theorem zam9 (w : World) : RdV w (.slice none 0 0) []:=⟨none,0,rfl,zn6 _,by unfold maxLen; omega,fun _ => rfl,.inl rfl⟩
theorem RdV.tch {S : Nat -> Prop} {w w' : World} {v : Value} {cs : List Value} (h : RdV w v cs) (ht : Tch S w w') (hn : ∀ b,v.ownBlock = some b -> ¬ S b) : RdV w' v cs:=by
 obtain ⟨a,cap,rfl,hl,hm,h0,h⟩:=h
 refine ⟨a,cap,rfl,hl,hm,h0,?_⟩
 rcases h with h | ⟨b,o,rfl,hc⟩
 ·exact .inl h
 ·refine .inr ⟨b,o,rfl,fun i c hi => ?_⟩
  have h1:=hc i c hi
  rw [ht.cell (p:=⟨b,o + i,none⟩) (World.block_lt_of_cell? w ⟨b,o + i,none⟩ h1) (hn b rfl)]
  exact h1
theorem RdV.below {w w' : World} {v : Value} {cs : List Value} (h : RdV w v cs) (hb : Below w.heap.size w w') : RdV w' v cs:=
 h.tch (S:=fun _ => False) (Tch.of_below hb) (fun _ _ e => e)
theorem RdV.at {w : World} {a : Option Addr} {l cap : Nat} {cs : List Value} (h : RdV w (.slice a l cap) cs) {i : Nat} {c : Value} (hi : cs[i]? = some c) :
  ∃ b o,a = some ⟨b,o,none⟩ /\ w.cell? ⟨b,o + i,none⟩ = some c:=by
 obtain ⟨a',cap',e,hl,hm,h0,h⟩:=h
 cases e
 rcases h with h | ⟨b,o,rfl,hc⟩
 ·rw [h] at hi; cases hi
 ·exact ⟨b,o,rfl,hc i c hi⟩
theorem RdV.len {w : World} {v : Value} {cs : List Value} (h : RdV w v cs) : ∃ a cap,v = .slice a cs.length cap /\ cs.length <= cap /\ cap <= 9223372036854775807 /\ (a = none -> cap = 0):=by
 obtain ⟨a,cap,rfl,hl,hm,h0,h⟩:=h
 exact ⟨a,cap,rfl,hl,by unfold maxLen at hm; omega,h0⟩
theorem RdV.blk_lt {w : World} {v : Value} {cs : List Value} (h : RdV w v cs) (h0 : cs ≠ []) : ∀ k,v.ownBlock = some k -> k < w.heap.size:=by
 intro k hk
 obtain ⟨a,cap,rfl,hl,hm,h1,h⟩:=h
 rcases h with h | ⟨b,o,rfl,hc⟩
 ·exact absurd h h0
 ·cases cs with
  | nil => exact absurd rfl h0
  | cons c cs =>
   have h2 : b < w.heap.size:=World.block_lt_of_cell? w ⟨b,o + 0,none⟩ (hc 0 c rfl)
   simp only [Value.ownBlock,Option.some.injEq] at hk
   omega
theorem RdV.src {w : World} {v : Value} {cs : List Value} (h : RdV w v cs) (ho : ∀ x ∈ cs,x.oneCell' = true) : Src w v cs:=by
 obtain ⟨a,cap,rfl,hl,hm,h0,h⟩:=h
 refine ⟨a,cap,rfl,ho,fun ha => ?_,fun ad ha j x hx => ?_⟩
 ·have:=h0 ha
  subst this
  exact ⟨List.eq_nil_of_length_eq_zero (by omega),rfl⟩
 ·rcases h with rfl | ⟨b,o,rfl,hc⟩
  ·cases hx
  ·obtain rfl:=Option.some.inj ha
   rw [Addr.add_lit]
   exact hc j x hx
def OwnsV (e : TypeId) (w : World) (v : Value) (cs : List Value) : Prop:=w.ownsRow 0 e 1 v cs.length cs
theorem zhl9 (e : TypeId) (w : World) : OwnsV e w (.slice none 0 0) []:=World.ownsRow_nil _ _ _ _
theorem OwnsV.rd {e : TypeId} {w : World} {v : Value} {cs : List Value} (h : OwnsV e w v cs) : RdV w v cs:=by
 have h' : w.ownsRow 0 e 1 v cs.length cs:=h
 rcases h'.2 with ⟨rfl,h0⟩ | ⟨g,cap,cur,rfl,_,hg,hnc,hcm,hcs,htake⟩
 ·have hx : cs = []:=List.eq_nil_of_length_eq_zero h0
  subst hx
  exact zam9 w
 ·refine ⟨some ⟨g,0,none⟩,cap,rfl,hnc,hcm,(fun e => by cases e),.inr ⟨g,0,rfl,fun i c hi => ?_⟩⟩
  have hj:=(List.getElem?_eq_some_iff.1 hi).1
  rw [Nat.zero_add,h'.cellAt i (by omega)]
  exact hi
theorem OwnsV.lt {e : TypeId} {w : World} {v : Value} {cs : List Value} (h : OwnsV e w v cs) : ∀ j,v.ownBlock = some j -> j < w.heap.size:=fun j hj => (World.ownsRow.lt h j hj).2
theorem OwnsV.ints {e : TypeId} {k : IntKind} {w : World} {v : Value} {xs : List Int} (h : Owns k e w v xs) : OwnsV e w v (xs.map (Value.int k)):=by
 unfold OwnsV; rw [List.length_map]; exact h
structure ElemV (P : Program) (t e : TypeId) (z : Value) (bytes : Nat) : Prop where
 ht : P.underlying t = some (.slice e)
 info : ∃ i,P.info? e = some i /\ i.zero = some z /\ i.size = 1 /\ i.bytes = bytes
 one : z.cells.size = 1
section
variable {P : Program}
theorem zz9 (w : World) {ops : Array Oper} {rest : List Oper} {o : Oper} {a : Act} {Q : Exit -> Act -> World -> Prop} (hgd : o.guard = none) (s x : Operand) (t : TypeId)
  (ho : o.op = .call { callee:=.builtin .append,args:=#[s,x],argTypes:=#[t,t] }) (e : TypeId) (z : Value) (bytes : Nat) (E : ElemV P t e z bytes)
  (v : Value) (xs : List Value) (hs : a.eval s = v) (hown : OwnsV e w v xs) (u : Value) (ys : List Value) (hx : a.eval x = u) (hu : RdV w u ys) (h1 : ∀ y ∈ ys,y.oneCell' = true)
  (h63 : xs.length + ys.length <= 9223372036854775807) (hbytes : (xs.length + ys.length) * bytes <= 140737488355328)
  (h : ∀ v' w',OwnsV e w' v' (xs ++ ys) -> Grew w w' v v' -> wpList P ops Q rest (a.put o.dst v') w') : wpList P ops Q (o :: rest) a w:=by
 obtain ⟨ht,⟨i,hi,hz,hsz,hb⟩,hone⟩:=E
 refine zdj9 w hgd s x t ho e i z bytes ht hi hz hsz hb hone v xs hs hown u ys hx (hu.src h1) (by unfold maxLen; exact h63) hbytes ?_
 intro v' w' h2 h3 h4
 exact h v' w' h2 ⟨(Tch.refl _ w).grown h3 (fun _ _ e => e),h4⟩
end
def strs (ss : List ByteArray) : List Value:=ss.map Value.string
def nums (ds : List Int) : List Value:=ds.map (Value.int .i64)
theorem zao9 (ss : List ByteArray) : ∀ x ∈ strs ss,x.oneCell' = true:=fun x hx => by
 obtain ⟨s,_,rfl⟩:=List.mem_map.1 hx
 rfl
theorem zcz9 (ds : List Int) : ∀ x ∈ nums ds,x.oneCell' = true:=fun x hx => by
 obtain ⟨s,_,rfl⟩:=List.mem_map.1 hx
 rfl
theorem zh9 (ss : List ByteArray) : (strs ss).length = ss.length:=List.length_map ..
theorem zn9 (ds : List Int) : (nums ds).length = ds.length:=List.length_map ..
theorem elemS : ElemV Tryz.prog 91 9 (.string ⟨#[]⟩) 16:=⟨Tryz.underlying91,info_parts (z:=.string ⟨#[]⟩) (size:=1) (bytes:=16) (by kernel_rfl),rfl⟩
theorem elemIN : ElemV Tryz.prog 56 3 (.int .i64 0) 8:=⟨Tryz.underlying56,info_parts (z:=.int .i64 0) (size:=1) (bytes:=8) (by kernel_rfl),rfl⟩
def nod (lf : Bool) (u1 u2 u3 : Value) : Value:=.agg #[.bool lf,u1,u2,u3]
structure Nn (w : World) (n : Nd) (u1 u2 u3 : Value) : Prop where
 k : RdV w u1 (strs n.ks)
 v : RdV w u2 (strs n.vs)
 d : RdV w u3 (nums n.kd)
theorem Nn.below {w w' : World} {n : Nd} {u1 u2 u3 : Value} (h : Nn w n u1 u2 u3) (hb : Below w.heap.size w w') : Nn w' n u1 u2 u3:=⟨h.k.below hb,h.v.below hb,h.d.below hb⟩
theorem Nn.key {w : World} {n : Nd} {a : Option Addr} {l c : Nat} {u2 u3 : Value} (h : Nn w n (.slice a l c) u2 u3) {i : Nat} (hi : i < n.ks.length) : ∃ b o,a = some ⟨b,o,none⟩ /\ w.cell? ⟨b,o + i,none⟩ = some (.string (kA n i)):=
 h.k.at (by rw [strs,List.getElem?_map,List.getElem?_eq_getElem hi]; simp [kA,zn3,hi])
theorem Nn.val {w : World} {n : Nd} {a : Option Addr} {l c : Nat} {u1 u3 : Value} (h : Nn w n u1 (.slice a l c) u3) {i : Nat} (hi : i < n.vs.length) : ∃ b o,a = some ⟨b,o,none⟩ /\ w.cell? ⟨b,o + i,none⟩ = some (.string (vA n i)):=
 h.v.at (by rw [strs,List.getElem?_map,List.getElem?_eq_getElem hi]; simp [vA,zn3,hi])
theorem Nn.kid {w : World} {n : Nd} {a : Option Addr} {l c : Nat} {u1 u2 : Value} (h : Nn w n u1 u2 (.slice a l c)) {i : Nat} (hi : i < n.kd.length) : ∃ b o,a = some ⟨b,o,none⟩ /\ w.cell? ⟨b,o + i,none⟩ = some (.int .i64 (dA n i)):=
 h.d.at (by rw [nums,List.getElem?_map,List.getElem?_eq_getElem hi]; simp [dA,zn3,hi])
theorem Nn.out {w : World} {n : Nd} {u1 u2 u3 : Value} (h : Nn w n u1 u2 u3) : ∃ a1 c1 a2 c2 a3 c3,u1 = .slice a1 n.ks.length c1 /\ u2 = .slice a2 n.vs.length c2 /\ u3 = .slice a3 n.kd.length c3 ∧
  (n.ks.length <= c1 /\ c1 <= 9223372036854775807 /\ n.vs.length <= c2 /\ c2 <= 9223372036854775807 /\ n.kd.length <= c3 /\ c3 <= 9223372036854775807) /\ (a1 = none -> c1 = 0) /\ (a2 = none -> c2 = 0) /\ (a3 = none -> c3 = 0):=by
 obtain ⟨a1,c1,rfl,h1,h2,h3⟩:=h.k.len
 obtain ⟨a2,c2,rfl,h4,h5,h6⟩:=h.v.len
 obtain ⟨a3,c3,rfl,h7,h8,h9⟩:=h.d.len
 simp only [zh9,zn9] at *
 exact ⟨a1,c1,a2,c2,a3,c3,rfl,rfl,rfl,⟨h1,h2,h4,h5,h7,h8⟩,h3,h6,h9⟩
def Nb (w : World) (T : TypeId) (b : Nat) (lf : Bool) (u1 u2 u3 : Value) : Prop:=w.heap[b]? = some (.cells #[.bool lf,u1,u2,u3] T (0,0))
section
variable {w w' : World} {T : TypeId} {b : Nat} {lf : Bool} {u1 u2 u3 : Value}
theorem Nb.c0 (h : Nb w T b lf u1 u2 u3) : w.cell? ⟨b,0,none⟩ = some (.bool lf):=by rw [cell_of_row w b 0 _ _ (0,0) h]; rfl
theorem Nb.c1 (h : Nb w T b lf u1 u2 u3) : w.cell? ⟨b,1,none⟩ = some u1:=by rw [cell_of_row w b 1 _ _ (0,0) h]; rfl
theorem Nb.c2 (h : Nb w T b lf u1 u2 u3) : w.cell? ⟨b,2,none⟩ = some u2:=by rw [cell_of_row w b 2 _ _ (0,0) h]; rfl
theorem Nb.c3 (h : Nb w T b lf u1 u2 u3) : w.cell? ⟨b,3,none⟩ = some u3:=by rw [cell_of_row w b 3 _ _ (0,0) h]; rfl
theorem Nb.fz (h : Nb w T b lf u1 u2 u3) (i : Nat) : w.frozen? ⟨b,i,none⟩ = false:=frozen_of_row w b i _ _ h
theorem Nb.lt (h : Nb w T b lf u1 u2 u3) : b < w.heap.size:=(Array.getElem?_eq_some_iff.1 h).1
theorem Nb.tch {S : Nat -> Prop} (h : Nb w T b lf u1 u2 u3) (ht : Tch S w w') (hb : ¬ S b) : Nb w' T b lf u1 u2 u3:=by unfold Nb; rw [ht.block b h.lt hb]; exact h
theorem Nb.below (h : Nb w T b lf u1 u2 u3) (hb : Below w.heap.size w w') : Nb w' T b lf u1 u2 u3:=h.tch (S:=fun _ => False) (Tch.of_below hb) (fun e => e)
theorem nb_new (w : World) (T : TypeId) (lf : Bool) (u1 u2 u3 : Value) : Nb (w.alloc (.cells #[.bool lf,u1,u2,u3] T)) T w.heap.size lf u1 u2 u3:=heap_alloc_new w _
end
def Fr3 (m : Nat) (v1 v2 v3 : Value) : Prop:=∀ j,(v1.ownBlock = some j ∨ v2.ownBlock = some j ∨ v3.ownBlock = some j) -> m <= j
theorem hideN {p : Prop} (h : p) : Hid p:=h
theorem za9 (w : World) (o : Obj) : Below w.heap.size w (w.alloc o):=(Below.refl _ _).alloc (zn6 _) _
theorem zua9 {n : Nd} {k : Nat} (h : ¬ k < n.vs.length) : (vA n k).size = 0:=by
 unfold vA
 rw [zn3,List.getElem?_eq_none (by omega)]
 rfl
theorem zfo9 (n : Nd) (u1 u2 u3 : Value) (k : Nat) (w : World) (h : Nn w n u1 u2 u3) (hs : Sm n) (hk : k < n.ks.length) :
  Calls Tryz.prog 173 #[nod n.lf u1 u2 u3,.int .i64 (k : Int)] w fun e w' => e = .returned (.int .i64 (szA n k : Int)) /\ Below w.heap.size w w':=by
 obtain ⟨a1,c1,a2,c2,a3,c3,rfl,rfl,rfl,⟨l1,l2,l3,l4,l5,l6⟩,_,_,_⟩:=h.out
 have H:=hideN h
 have HS:=hideN hs
 have hks:=hs.ks k
 have hvs:=hs.vs k
 obtain ⟨L1,hL1⟩:=exH n.ks.length
 obtain ⟨L2,hL2⟩:=exH n.vs.length
 obtain ⟨L3,hL3⟩:=exH n.kd.length
 rw [hL1.out] at H l1 hk ⊢
 rw [hL2.out] at H l3 ⊢
 rw [hL3.out] at H l5 ⊢
 obtain ⟨lf,hlf⟩:=exH n.lf
 rw [hlf.out]
 unfold nod
 obtain ⟨W1,hW1⟩:=exN (w.alloc (.cells #[.bool lf,.slice a1 L1 c1,.slice a2 L2 c2,.slice a3 L3 c3] 93))
 have B1 : Hid (Below w.heap.size w W1):=by rw [<- hW1]; exact za9 _ _
 have V1 : Hid (Nb W1 93 w.heap.size lf (.slice a1 L1 c1) (.slice a2 L2 c2) (.slice a3 L3 c3)):=by rw [<- hW1]; exact nb_new _ _ _ _ _ _
 have H1 : Hid (Nn W1 n (.slice a1 L1 c1) (.slice a2 L2 c2) (.slice a3 L3 c3)):=H.out.below B1.out
 have p0:=V1.out.c0
 have p1:=V1.out.c1
 have p2:=V1.out.c2
 have p3:=V1.out.c3
 clear h hs H
 obtain ⟨b,o,rfl,ck⟩:=H1.out.key (i:=k) (by rw [hL1.out]; exact hk)
 obtain ⟨key,hkey⟩:=exH (kA n k)
 obtain ⟨r,hr⟩:=exH (szA n k)
 rw [hr.out]
 rw [hkey.out] at ck hks
 have HKS:=hideN hks
 have HVS:=hideN hvs
 clear hks hvs
 cases lf with
 | true =>
  by_cases hv : k < L2
  ·obtain ⟨b2,o2,rfl,cv⟩:=H1.out.val (i:=k) (by rw [hL2.out]; exact hv)
   obtain ⟨val,hval⟩:=exH (vA n k)
   rw [hval.out] at cv HVS
   go_enter Tryz.func173,Tryz.ntmps173
   go_wp2_with fail
   go_ret
   refine ⟨congrArg (fun x => Ending.returned (.int .i64 x)) (?_ : wrap64 (wrap64 (wrap64 (1 + ↑key.size) + 1) + ↑val.size) = (r : Int)),B1.out⟩
   rw [<- hr.out,szA,if_pos hlf.out,hkey.out,hval.out]
   simp only [zcq9]
   have h1:=HKS.out
   have h2:=HVS.out
   unfold wrap64
   omega
  ·go_enter Tryz.func173,Tryz.ntmps173
   go_wp2_with fail
   go_ret
   refine ⟨congrArg (fun x => Ending.returned (.int .i64 x)) (?_ : wrap64 (wrap64 (1 + ↑key.size) + 1) = (r : Int)),B1.out⟩
   rw [<- hr.out,szA,if_pos hlf.out,hkey.out,zua9 (by rw [hL2.out]; exact hv)]
   simp only [zcq9]
   have h1:=HKS.out
   unfold wrap64
   omega
 | false =>
  have hlf' : ¬ n.lf = true:=by rw [hlf.out]; decide
  have HLF:=hideN hlf'
  clear hlf'
  by_cases hv : k < L3
  ·go_enter Tryz.func173,Tryz.ntmps173
   go_wp2_with fail
   go_ret
   refine ⟨congrArg (fun x => Ending.returned (.int .i64 x)) (?_ : wrap64 (wrap64 (1 + ↑key.size) + 2) = (r : Int)),B1.out⟩
   rw [<- hr.out,szA,if_neg HLF.out,if_pos (by rw [hL3.out]; exact hv),hkey.out]
   simp only [zcq9]
   have h1:=HKS.out
   unfold wrap64
   omega
  ·go_enter Tryz.func173,Tryz.ntmps173
   go_wp2_with fail
   go_ret
   refine ⟨congrArg (fun x => Ending.returned (.int .i64 x)) (?_ : wrap64 (1 + ↑key.size) = (r : Int)),B1.out⟩
   rw [<- hr.out,szA,if_neg HLF.out,if_neg (by rw [hL3.out]; exact hv),hkey.out]
   have h1:=HKS.out
   unfold wrap64
   omega
theorem zbx9 (n : Nd) (u1 u2 u3 : Value) (w : World) (h : Nn w n u1 u2 u3) (hs : Sm n) :
  Calls Tryz.prog 157 #[nod n.lf u1 u2 u3] w fun e w' => e = .returned (.int .i64 (W (szN n n.ks.length))) /\ Below w.heap.size w w':=by
 obtain ⟨a1,c1,a2,c2,a3,c3,rfl,rfl,rfl,⟨l1,l2,l3,l4,l5,l6⟩,_,_,_⟩:=h.out
 have H:=hideN h
 have HS:=hideN hs
 obtain ⟨L1,hL1⟩:=exH n.ks.length
 obtain ⟨L2,hL2⟩:=exH n.vs.length
 obtain ⟨L3,hL3⟩:=exH n.kd.length
 rw [hL1.out] at H l1 ⊢
 rw [hL2.out] at H l3 ⊢
 rw [hL3.out] at H l5 ⊢
 obtain ⟨lf,hlf⟩:=exH n.lf
 rw [hlf.out]
 unfold nod
 obtain ⟨W1,hW1⟩:=exN (w.alloc (.cells #[.bool lf,.slice a1 L1 c1,.slice a2 L2 c2,.slice a3 L3 c3] 93))
 have B1 : Hid (Below w.heap.size w W1):=by rw [<- hW1]; exact za9 _ _
 have V1 : Hid (Nb W1 93 w.heap.size lf (.slice a1 L1 c1) (.slice a2 L2 c2) (.slice a3 L3 c3)):=by rw [<- hW1]; exact nb_new _ _ _ _ _ _
 have H1 : Hid (Nn W1 n (.slice a1 L1 c1) (.slice a2 L2 c2) (.slice a3 L3 c3)):=H.out.below B1.out
 have HC : Hid (∀ (W : World) (k : Nat),Below W1.heap.size W1 W -> k < L1 -> Calls Tryz.prog 173 #[.agg #[.bool lf,.slice a1 L1 c1,.slice a2 L2 c2,.slice a3 L3 c3],.int .i64 (k : Int)] W fun e w' => e = .returned (.int .i64 (szA n k : Int)) /\ Below W.heap.size W w'):=fun W k hb hk => by
  have:=zfo9 n _ _ _ k W (H1.out.below hb) HS.out (by rw [hL1.out]; exact hk)
  rw [hlf.out] at this
  exact this
 have p1:=V1.out.c1
 clear h hs H
 go_enter Tryz.func157,Tryz.ntmps157
 go_wp2_with fail
 clear p1 hW1
 go_loopw [3,8] (fun s i wr => ∃ (k : Nat) (z : Int),k <= L1 /\ i = .int .i64 k /\ s = .int .i64 z /\ Hid (z = W (szN n k)) /\ Hid (Below W1.heap.size W1 wr)) (fun _ i _ => L1 - (intOf i).toNat)
 case atStart => exact ⟨0,1,zn7 _,rfl,rfl,by show (1 : Int) = W 1; rw [zax9 (by omega)]; rfl,Below.refl _ _⟩
 case round =>
  obtain ⟨k,z,hk,rfl,rfl,hz,BR⟩:=hrel
  by_cases hlt : k < L1
  ·have V2 : Hid (Nb wr 93 w.heap.size lf (.slice a1 L1 c1) (.slice a2 L2 c2) (.slice a3 L3 c3)):=V1.out.below BR.out
   have p0:=V2.out.c0
   have p1:=V2.out.c1
   have p2:=V2.out.c2
   have p3:=V2.out.c3
   go_wp2_with fail
   refine (HC.out wr k BR.out hlt).mono ?_
   rintro e w2 ⟨rfl,b2⟩
   have B2 : Hid (Below W1.heap.size W1 w2):=BR.out.trans (b2.mono BR.out.size)
   obtain ⟨r,hr⟩:=exH (szA n k)
   rw [hr.out]
   clear b2 BR V2 p0 p1 p2 p3
   go_wp2_with fail
   go_roundw
   case rel => exact ⟨k + 1,_,by omega,by go_num,rfl,by
    show _ = _
    rw [hz.out,W_add,szN,hr.out],B2⟩
   case measure => simp [intOf]; omega
  ·have hkl : k = L1:=by omega
   rw [hkl] at hz
   obtain rfl : z = W (szN n L1):=hz.out
   go_wp2_with fail
   go_ret
   exact ⟨rfl,B1.out.trans (BR.out.mono B1.out.size)⟩
theorem tdiv2 (z : Int) : (0 <= z /\ z.tdiv 2 = z / 2) ∨ (z < 0 /\ z.tdiv 2 = -((-z) / 2)):=by
 by_cases h : 0 <= z
 ·exact .inl ⟨h,Int.tdiv_eq_ediv_of_nonneg h⟩
 ·refine .inr ⟨by omega,?_⟩
  have : (-(-z)).tdiv 2 = -((-z).tdiv 2):=Int.neg_tdiv _ _
  rw [Int.neg_neg] at this
  rw [this,Int.tdiv_eq_ediv_of_nonneg (by omega)]
def hlfN (n : Nd) : Int:=(W (szN n n.ks.length)).tdiv 2
structure MidR (n : Nd) (m : Nat) : Prop where
 one : 1 <= m
 lt : m + 1 <= n.ks.length
 no : ∀ k,1 <= k -> k < m -> W (szN n k) < hlfN n
 yes : m + 1 = n.ks.length ∨ hlfN n <= W (szN n m)
theorem MidR.same {n : Nd} {m m' : Nat} (h : MidR n m) (h' : MidR n m') : m = m':=by
 rcases Nat.lt_trichotomy m m' with c | c | c
 ·have:=h'.no m h.one c
  have:=h'.lt
  rcases h.yes with e | e
  ·omega
  ·omega
 ·exact c
 ·have:=h.no m' h'.one c
  have:=h.lt
  rcases h'.yes with e | e
  ·omega
  ·omega
theorem zkw9 (n : Nd) (u1 u2 u3 : Value) (w : World) (h : Nn w n u1 u2 u3) (hs : Sm n) (h2 : 2 <= n.ks.length) :
  Calls Tryz.prog 175 #[nod n.lf u1 u2 u3] w fun e w' => (∃ m : Nat,e = .returned (.int .i64 (m : Int)) /\ MidR n m) /\ Below w.heap.size w w':=by
 obtain ⟨a1,c1,a2,c2,a3,c3,rfl,rfl,rfl,⟨l1,l2,l3,l4,l5,l6⟩,_,_,_⟩:=h.out
 have H:=hideN h
 have HS:=hideN hs
 obtain ⟨L1,hL1⟩:=exH n.ks.length
 obtain ⟨L2,hL2⟩:=exH n.vs.length
 obtain ⟨L3,hL3⟩:=exH n.kd.length
 rw [hL1.out] at H l1 h2 ⊢
 rw [hL2.out] at H l3 ⊢
 rw [hL3.out] at H l5 ⊢
 obtain ⟨lf,hlf⟩:=exH n.lf
 rw [hlf.out]
 unfold nod
 obtain ⟨W1,hW1⟩:=exN (w.alloc (.cells #[.bool lf,.slice a1 L1 c1,.slice a2 L2 c2,.slice a3 L3 c3] 93))
 have B1 : Hid (Below w.heap.size w W1):=by rw [<- hW1]; exact za9 _ _
 have V1 : Hid (Nb W1 93 w.heap.size lf (.slice a1 L1 c1) (.slice a2 L2 c2) (.slice a3 L3 c3)):=by rw [<- hW1]; exact nb_new _ _ _ _ _ _
 have H1 : Hid (Nn W1 n (.slice a1 L1 c1) (.slice a2 L2 c2) (.slice a3 L3 c3)):=H.out.below B1.out
 have HC : Hid (∀ (W : World) (k : Nat),Below W1.heap.size W1 W -> k < L1 -> Calls Tryz.prog 173 #[.agg #[.bool lf,.slice a1 L1 c1,.slice a2 L2 c2,.slice a3 L3 c3],.int .i64 (k : Int)] W fun e w' => e = .returned (.int .i64 (szA n k : Int)) /\ Below W.heap.size W w'):=fun W k hb hk => by
  have:=zfo9 n _ _ _ k W (H1.out.below hb) HS.out (by rw [hL1.out]; exact hk)
  rw [hlf.out] at this
  exact this
 obtain ⟨z,hz⟩ : ∃ z : Int,Hid (W (szN n L1) = z):=⟨_,rfl⟩
 have HZ : Hid (∀ (W : World),Below W1.heap.size W1 W -> Calls Tryz.prog 157 #[.agg #[.bool lf,.slice a1 L1 c1,.slice a2 L2 c2,.slice a3 L3 c3]] W fun e w' => e = .returned (.int .i64 z) /\ Below W.heap.size W w'):=fun W hb => by
  have:=zbx9 n _ _ _ W (H1.out.below hb) HS.out
  rw [hlf.out,hL1.out,hz.out] at this
  exact this
 have hzi : -9223372036854775808 <= z /\ z <= 9223372036854775807:=by rw [<- hz.out]; exact W_in _
 obtain ⟨y,hy⟩ : ∃ y : Int,Hid (z.tdiv 2 = y):=⟨_,rfl⟩
 have hyi : IntKind.i64.wrap (z.tdiv 2) = y:=by
  have:=tdiv2 z
  rw [IntKind.wrap_i64,<- hy.out]
  omega
 have HY : Hid (hlfN n = y):=by show _ = _; unfold hlfN; rw [hL1.out,hz.out,hy.out]
 have hl1 : IntKind.i64.wrap ((L1 : Int) - 1) = ((L1 - 1 : Nat) : Int):=by rw [IntKind.wrap_i64]; omega
 obtain ⟨Q,hQ⟩:=exN (L1 - 1)
 rw [hQ] at hl1
 have hQL : Hid (Q + 1 = L1):=by show _ = _; omega
 have hQ1 : 1 <= Q:=by omega
 have hQb : Q <= 9223372036854775806:=by omega
 have p0:=V1.out.c0
 have p1:=V1.out.c1
 have p2:=V1.out.c2
 have p3:=V1.out.c3
 clear h hs H h2 hQ
 go_enter Tryz.func175,Tryz.ntmps175
 go_wp2_with fail
 refine (HZ.out _ (Below.refl _ _)).mono ?_
 rintro e w0 ⟨rfl,b0⟩
 have B0:=hideN b0
 clear b0 p0 p1 p2 p3 hW1
 go_wp2_with fail
 go_loopw [5,15] (fun s i wr => ∃ (k : Nat) (z : Int),k <= Q /\ i = .int .i64 k /\ s = .int .i64 z /\ Hid (z = W (szN n k)) /\ Hid (∀ j,1 <= j -> j <= k -> W (szN n j) < y) /\ Hid (Below W1.heap.size W1 wr)) (fun _ i _ => Q - (intOf i).toNat)
 case atStart => exact ⟨0,1,zn7 _,rfl,rfl,by show (1 : Int) = W 1; rw [zax9 (by omega)]; rfl,fun j h1 h2 => by omega,B0⟩
 case round =>
  clear B0
  obtain ⟨k,z',hk,rfl,rfl,hz',HN,BR⟩:=hrel
  by_cases hlt : k < Q
  ·have V2 : Hid (Nb wr 93 w.heap.size lf (.slice a1 L1 c1) (.slice a2 L2 c2) (.slice a3 L3 c3)):=V1.out.below BR.out
   have p0:=V2.out.c0
   have p1:=V2.out.c1
   have p2:=V2.out.c2
   have p3:=V2.out.c3
   go_wp2_with fail
   refine (HC.out wr k BR.out (by have:=hQL.out; omega)).mono ?_
   rintro e w2 ⟨rfl,b2⟩
   have B2 : Hid (Below W1.heap.size W1 w2):=BR.out.trans (b2.mono BR.out.size)
   obtain ⟨r,hr⟩:=exH (szA n k)
   rw [hr.out]
   obtain ⟨s,hs⟩ : ∃ s : Int,Hid (W (szN n (k + 1)) = s):=⟨_,rfl⟩
   have hsw : IntKind.i64.wrap (z' + (r : Int)) = s:=by rw [show IntKind.i64.wrap (z' + (r : Int)) = wrap64 (z' + (r : Int)) from (by first | rfl | simp | (rw [IntKind.wrap_i64]; unfold wrap64; omega)),hz'.out,W_add,<- hr.out]; exact hs.out
   clear b2 BR V2 p0 p1 p2 p3
   by_cases hge : y <= s
   ·go_wp2_with fail
    go_ret
    refine ⟨⟨k + 1,by first | rfl | go_num,by omega,by rw [hL1.out]; have:=hQL.out; omega,fun j h1 h2 => ?_,.inr ?_⟩,B1.out.trans (B2.out.mono B1.out.size)⟩
    ·rw [HY.out]; exact HN.out j h1 (by omega)
    ·rw [HY.out,hs.out]; exact hge
   ·go_wp2_with fail
    go_roundw
    case rel => exact ⟨k + 1,s,by omega,by go_num,rfl,hs.out.symm,fun j h1 h2 => by
     by_cases c : j = k + 1
     ·rw [c,hs.out]; omega
     ·exact HN.out j h1 (by omega),B2⟩
    case measure => simp [intOf]; omega
  ·have hkl : k = Q:=by omega
   subst hkl
   go_wp2_with fail
   go_ret
   refine ⟨⟨k,rfl,hQ1,by rw [hL1.out]; have:=hQL.out; omega,fun j h1 h2 => ?_,.inl ?_⟩,B1.out.trans (BR.out.mono B1.out.size)⟩
   ·rw [HY.out]; exact HN.out j h1 (by omega)
   ·rw [hL1.out]; exact hQL.out
theorem zse9 (s : ByteArray) : eqs s eS = (s.toList == []):=by unfold eqs eS; simp
def KeysP (n : Nd) : Prop:=∀ i,i < n.ks.length -> kOk n i
open Classical in
noncomputable def keysN (n : Nd) : Bool:=decide (KeysP n)
theorem zcm9 {n : Nd} : keysN n = true ↔ ∀ i,i < n.ks.length -> kOk n i:=by unfold keysN; exact @decide_eq_true_iff _ (Classical.propDecidable _)
theorem zmx9 {n : Nd} {i : Nat} (hi : i < n.ks.length) (h : ¬ kOk n i) : keysN n = false:=by
 cases e : keysN n with
 | false => rfl
 | true => exact absurd (zcm9.1 e i hi) h
theorem zii9 (n : Nd) (u1 u2 u3 : Value) (w : World) (h : Nn w n u1 u2 u3) (hs : Sm n) :
  Calls Tryz.prog 168 #[nod n.lf u1 u2 u3] w fun e w' => e = .returned (.bool (keysN n)) /\ Below w.heap.size w w':=by
 obtain ⟨a1,c1,a2,c2,a3,c3,rfl,rfl,rfl,⟨l1,l2,l3,l4,l5,l6⟩,_,_,_⟩:=h.out
 have H:=hideN h
 have HS:=hideN hs
 obtain ⟨L1,hL1⟩:=exH n.ks.length
 obtain ⟨L2,hL2⟩:=exH n.vs.length
 obtain ⟨L3,hL3⟩:=exH n.kd.length
 rw [hL1.out] at H l1 ⊢
 rw [hL2.out] at H l3 ⊢
 rw [hL3.out] at H l5 ⊢
 obtain ⟨lf,hlf⟩:=exH n.lf
 rw [hlf.out]
 unfold nod
 obtain ⟨W1,hW1⟩:=exN (w.alloc (.cells #[.bool lf,.slice a1 L1 c1,.slice a2 L2 c2,.slice a3 L3 c3] 93))
 have B1 : Hid (Below w.heap.size w W1):=by rw [<- hW1]; exact za9 _ _
 have V1 : Hid (Nb W1 93 w.heap.size lf (.slice a1 L1 c1) (.slice a2 L2 c2) (.slice a3 L3 c3)):=by rw [<- hW1]; exact nb_new _ _ _ _ _ _
 have H1 : Hid (Nn W1 n (.slice a1 L1 c1) (.slice a2 L2 c2) (.slice a3 L3 c3)):=H.out.below B1.out
 obtain ⟨kn,hkn⟩:=exH (keysN n)
 rw [hkn.out]
 have p0:=V1.out.c0
 have p1:=V1.out.c1
 clear h hs H
 go_enter Tryz.func168,Tryz.ntmps168
 go_wp2_with fail
 go_loop [8] (fun i => ∃ (k : Nat),k <= L1 /\ i = .int .i64 k /\ Hid (∀ j,j < k -> kOk n j)) (fun i => L1 - (intOf i).toNat)
 case atStart => exact ⟨0,zn7 _,rfl,fun j hj => by omega⟩
 case round =>
  obtain ⟨k,hk,rfl,hz⟩:=hrel
  by_cases hlt : k < L1
  ·obtain ⟨b,o,rfl,ck⟩:=H1.out.key (i:=k) (by rw [hL1.out]; exact hlt)
   have HB : Hid (¬ kOk n k -> kn = false):=fun hb => by rw [<- hkn.out]; exact zmx9 (by rw [hL1.out]; exact hlt) hb
   have HO : Hid (kOk n k -> ∀ j,j < k + 1 -> kOk n j):=fun ho j hj => by
    by_cases e : j < k
    ·exact hz.out j e
    ·have : j = k:=by omega
     subst this
     exact ho
   have HD : Hid (kOk n k = ((kA n k).size <= 24 /\ (0 < k -> lts (kA n (k - 1)) (kA n k) = true) /\ (n.lf = true -> eqs (kA n k) eS = false))):=rfl
   rw [hlf.out] at HD
   have HP : Hid (0 < k -> W1.cell? ⟨b,o + (k - 1),none⟩ = some (.string (kA n (k - 1)))):=fun h0 => by
    obtain ⟨b',o',e,c⟩:=H1.out.key (i:=k - 1) (by rw [hL1.out]; omega)
    cases e
    exact c
   obtain ⟨key,hkey⟩:=exH (kA n k)
   obtain ⟨prv,hprv⟩:=exH (kA n (k - 1))
   rw [hkey.out] at ck HD
   rw [hprv.out] at HP HD
   have HE : Hid (eqs key eS = (key.toList == [])):=zse9 key
   by_cases h24 : (key.size : Int) <= 24
   ·have hd24 : decide (24 < (key.size : Int)) = false:=by rw [zn4]; omega
    have H24 : Hid (key.size <= 24):=by show _ <= _; omega
    cases lf with
    | true =>
     cases hemp : (key.toList == []) with
     | true =>
      have hF : kn = false:=HB.out (by rw [HD.out]; intro h; have:=h.2.2 rfl; rw [HE.out,hemp] at this; cases this)
      subst hF
      clear HB HO HD HP HE
      go_wp2_with fail
      go_ret
      exact ⟨rfl,B1.out⟩
     | false =>
      by_cases h0 : 0 < k
      ·have h0' : (0 : Int) < (k : Int):=by omega
       have hd0 : decide ((0 : Int) < (k : Int)) = true:=by rw [decide_eq_true_iff]; omega
       have cp:=HP.out h0
       cases hlt2 : Op.bytesLess prv.toList key.toList with
       | true =>
        have HK : Hid (∀ j,j < k + 1 -> kOk n j):=HO.out (by rw [HD.out]; exact ⟨H24.out,fun _ => hlt2,fun _ => by rw [HE.out]; exact hemp⟩)
        have hg : (!Op.bytesLess prv.toList key.toList) = false:=by rw [hlt2]; rfl
        clear HB HO HD HP HE
        go_wp2_with fail
        go_round
        case rel => exact ⟨k + 1,by omega,by go_num,HK⟩
        case measure => simp [intOf]; omega
       | false =>
        have hF : kn = false:=HB.out (by rw [HD.out]; intro h; have:=h.2.1 h0; unfold lts at this; rw [hlt2] at this; cases this)
        have hg : (!Op.bytesLess prv.toList key.toList) = true:=by rw [hlt2]; rfl
        subst hF
        clear HB HO HD HP HE
        go_wp2_with fail
        go_ret
        exact ⟨rfl,B1.out⟩
      ·have hd0 : decide ((0 : Int) < (k : Int)) = false:=by rw [zn4]; omega
       have HK : Hid (∀ j,j < k + 1 -> kOk n j):=HO.out (by rw [HD.out]; exact ⟨H24.out,fun e => absurd e h0,fun _ => by rw [HE.out]; exact hemp⟩)
       clear HB HO HD HP HE
       go_wp2_with fail
       go_round
       case rel => exact ⟨k + 1,by omega,by go_num,HK⟩
       case measure => simp [intOf]; omega
    | false =>
     by_cases h0 : 0 < k
     ·have h0' : (0 : Int) < (k : Int):=by omega
      have hd0 : decide ((0 : Int) < (k : Int)) = true:=by rw [decide_eq_true_iff]; omega
      have cp:=HP.out h0
      cases hlt2 : Op.bytesLess prv.toList key.toList with
      | true =>
       have HK : Hid (∀ j,j < k + 1 -> kOk n j):=HO.out (by rw [HD.out]; exact ⟨H24.out,fun _ => hlt2,fun e => by cases e⟩)
       have hg : (!Op.bytesLess prv.toList key.toList) = false:=by rw [hlt2]; rfl
       clear HB HO HD HP HE
       go_wp2_with fail
       go_round
       case rel => exact ⟨k + 1,by omega,by go_num,HK⟩
       case measure => simp [intOf]; omega
      | false =>
       have hF : kn = false:=HB.out (by rw [HD.out]; intro h; have:=h.2.1 h0; unfold lts at this; rw [hlt2] at this; cases this)
       have hg : (!Op.bytesLess prv.toList key.toList) = true:=by rw [hlt2]; rfl
       subst hF
       clear HB HO HD HP HE
       go_wp2_with fail
       go_ret
       exact ⟨rfl,B1.out⟩
     ·have hd0 : decide ((0 : Int) < (k : Int)) = false:=by rw [zn4]; omega
      have HK : Hid (∀ j,j < k + 1 -> kOk n j):=HO.out (by rw [HD.out]; exact ⟨H24.out,fun e => absurd e h0,fun e => by cases e⟩)
      clear HB HO HD HP HE
      go_wp2_with fail
      go_round
      case rel => exact ⟨k + 1,by omega,by go_num,HK⟩
      case measure => simp [intOf]; omega
   ·have hd24 : decide (24 < (key.size : Int)) = true:=by rw [decide_eq_true_iff]; omega
    have hF : kn = false:=HB.out (by rw [HD.out]; intro h; exact h24 (by omega))
    subst hF
    clear HB HO HD HP HE
    go_wp2_with fail
    go_ret
    exact ⟨rfl,B1.out⟩
  ·have hT : kn = true:=by rw [<- hkn.out,zcm9]; intro i hi; rw [hL1.out] at hi; exact hz.out i (by omega)
   subst hT
   go_wp2_with fail
   go_ret
   exact ⟨rfl,B1.out⟩
def PredR (g : Prop) (w : World) (e : Ending) (w' : World) : Prop:=∃ t : Bool,e = .returned (.bool t) /\ ((t = true -> ¬ g) /\ (t = false -> g)) /\ Below w.heap.size w w'
theorem zlb9 {g : Prop} {w : World} (h : ¬ g) : PredR g w (.returned (.bool true)) w:=⟨true,rfl,⟨fun _ => h,fun e => by cases e⟩,Below.refl _ _⟩
theorem zox9 {g : Prop} {w : World} (h : g) : PredR g w (.returned (.bool false)) w:=⟨false,rfl,⟨fun e => by (cases e),fun _ => h⟩,Below.refl _ _⟩
def AllS (xs : List ByteArray) : Prop:=∀ i,i < xs.length -> (xs.getD i eS).size <= 24
open Classical in
noncomputable def allS (xs : List ByteArray) : Bool:=decide (AllS xs)
theorem zfu9 {xs : List ByteArray} : allS xs = true ↔ AllS xs:=by unfold allS; exact @decide_eq_true_iff _ (Classical.propDecidable _)
theorem zpl9 {xs : List ByteArray} {i : Nat} (hi : i < xs.length) (h : ¬ ((xs.getD i eS).size <= 24)) : allS xs = false:=by
 cases e : allS xs with
 | false => rfl
 | true => exact absurd (zfu9.1 e i hi) h
theorem znm9 (x : ByteArray) (w : World) :
  Calls Tryz.prog 170 #[.string x] w fun e w' => PredR (x.size <= 24) w e w':=by
 by_cases h : (x.size : Int) <= 24
 ·have hd : decide (24 < (x.size : Int)) = false:=by rw [zn4]; omega
  go_enter Tryz.func170,Tryz.ntmps170
  go_wp2_with fail
  go_ret
  exact zox9 (by omega)
 ·have hd : 24 < (x.size : Int):=by omega
  go_enter Tryz.func170,Tryz.ntmps170
  go_wp2_with fail
  go_ret
  exact zlb9 (by omega)
theorem zke9 (v : Value) (xs : List ByteArray) (w : World) (h : RdV w v (strs xs)) (hl : xs.length <= 9223372036854775807) :
  Calls Tryz.prog 187 #[v,.func (.func 170) #[] #[]] w fun e w' => (∃ r : Int,e = .returned (.int .i64 r) /\ -1 <= r /\ (r = -1 ↔ allS xs = true)) /\ Below w.heap.size w w':=by
 obtain ⟨a,cap,rfl,l1,l2,_⟩:=h.len
 have H:=hideN h
 rw [zh9] at H l1 ⊢
 obtain ⟨L,hL⟩:=exH xs.length
 rw [hL.out] at H l1 hl ⊢
 have HP : Hid (∀ r : Int,0 <= r -> ¬ (allS xs = true) -> (∃ r' : Int,Ending.returned (.int .i64 r) = .returned (.int .i64 r') /\ -1 <= r' /\ (r' = -1 ↔ allS xs = true))):=fun r h0 ha => ⟨r,rfl,by omega,⟨fun e => by omega,fun e => absurd e ha⟩⟩
 clear h
 go_enter Tryz.func187,Tryz.ntmps187
 go_wp2_with fail
 go_loopw [8] (fun i wr => ∃ (k : Nat),k <= L /\ i = .int .i64 k /\ Hid (∀ i,i < k -> (xs.getD i eS).size <= 24) /\ Hid (Below w.heap.size w wr)) (fun i _ => L - (intOf i).toNat)
 case atStart => exact ⟨0,zn7 _,rfl,fun j hj => by omega,Below.refl _ _⟩
 case round =>
  obtain ⟨k,hk,rfl,hz,BR⟩:=hrel
  by_cases hlt : k < L
  ·obtain ⟨b,o,rfl,ck⟩:=(H.out.below BR.out).at (i:=k) (c:=.string (xs.getD k eS)) (by rw [strs,List.getElem?_map,List.getElem?_eq_getElem (by rw [hL.out]; exact hlt)]; simp [zn3,show k < xs.length by rw [hL.out]; exact hlt])
   have HO : Hid (∀ (i : Nat),i = k -> ((xs.getD i eS).size <= 24) -> ∀ i,i < k + 1 -> (xs.getD i eS).size <= 24):=fun i0 e0 h0 i hi => by
    by_cases e : i < k
    ·exact hz.out i e
    ·have : i = i0:=by omega
     rw [this]; exact h0
   have HB : Hid (∀ (i : Nat),i = k -> ¬ ((xs.getD i eS).size <= 24) -> ¬ (allS xs = true)):=fun i e h0 ha => by rw [zpl9 (i:=i) (by rw [hL.out]; omega) h0] at ha; cases ha
   obtain ⟨x,hx⟩:=exH (xs.getD k eS)
   rw [hx.out] at ck
   go_wp2_with fail
   refine (znm9 x wr).mono ?_
   rintro e w2 ⟨t,rfl,ht,b2⟩
   have B2 : Hid (Below w.heap.size w w2):=BR.out.trans (b2.mono BR.out.size)
   have HT:=hideN ht
   clear b2 ht BR
   cases t with
   | true =>
    have HN : Hid (¬ (allS xs = true)):=HB.out k rfl (by rw [hx.out]; exact HT.out.1 rfl)
    go_wp2_with fail
    go_ret
    exact ⟨HP.out _ (by omega) HN.out,B2.out⟩
   | false =>
    have HK : Hid (∀ i,i < k + 1 -> (xs.getD i eS).size <= 24):=HO.out k rfl (by rw [hx.out]; exact HT.out.2 rfl)
    go_wp2_with fail
    go_roundw
    case rel => exact ⟨k + 1,by omega,by go_num,HK,B2⟩
    case measure => simp [intOf]; omega
  ·have HA : Hid (allS xs = true):=by show _ = _; rw [zfu9]; intro i hi; exact hz.out i (by rw [hL.out] at hi; omega)
   go_wp2_with fail
   go_ret
   exact ⟨⟨-1,rfl,by omega,fun _ => HA.out,fun _ => rfl⟩,BR.out⟩
theorem zfd9 (v : Value) (xs : List ByteArray) (w : World) (h : RdV w v (strs xs)) (hl : xs.length <= 9223372036854775807) :
  Calls Tryz.prog 169 #[v,.func (.func 170) #[] #[]] w fun e w' => e = .returned (.bool (!allS xs)) /\ Below w.heap.size w w':=by
 have HC:=hideN (zke9 v xs w h hl)
 obtain ⟨a,cap,rfl,l1,l2,_⟩:=h.len
 obtain ⟨al,hal⟩:=exH (allS xs)
 rw [hal.out] at HC ⊢
 obtain ⟨nal,hnal⟩:=exH ((!al))
 rw [hnal.out]
 clear h
 go_enter Tryz.func169,Tryz.ntmps169
 go_wp2_with fail
 refine HC.out.mono ?_
 rintro e w2 ⟨⟨r,rfl,h1,h2⟩,b2⟩
 have B2:=hideN b2
 clear b2 HC
 by_cases hr : r = -1
 ·have ha : nal = false:=by rw [<- hnal.out,h2.1 hr]; rfl
  subst ha
  have hd : decide (0 <= r) = false:=by rw [zn4]; omega
  clear h2 h1
  subst hr
  go_wp2_with fail
  go_ret
  exact ⟨rfl,B2.out⟩
 ·have ha : nal = true:=by
   rw [<- hnal.out]
   cases al with
   | false => rfl
   | true => exact absurd (h2.2 rfl) hr
  subst ha
  have h0 : 0 <= r:=by omega
  clear h2 h1 hr
  go_wp2_with fail
  go_ret
  exact ⟨rfl,B2.out⟩
def AllI (xs : List Int) : Prop:=∀ i,i < xs.length -> 0 <= xs.getD i 0 /\ xs.getD i 0 <= 65535
open Classical in
noncomputable def allI (xs : List Int) : Bool:=decide (AllI xs)
theorem zft9 {xs : List Int} : allI xs = true ↔ AllI xs:=by unfold allI; exact @decide_eq_true_iff _ (Classical.propDecidable _)
theorem zpk9 {xs : List Int} {i : Nat} (hi : i < xs.length) (h : ¬ (0 <= xs.getD i 0 /\ xs.getD i 0 <= 65535)) : allI xs = false:=by
 cases e : allI xs with
 | false => rfl
 | true => exact absurd (zft9.1 e i hi) h
theorem znl9 (x : Int) (w : World) :
  Calls Tryz.prog 172 #[.int .i64 x] w fun e w' => PredR (0 <= x /\ x <= 65535) w e w':=by
 by_cases h0 : 0 <= x
 ·by_cases h : x <= 65535
  ·have hd : decide (65535 < x) = false:=by rw [zn4]; omega
   have he : decide (x < 0) = false:=by rw [zn4]; omega
   go_enter Tryz.func172,Tryz.ntmps172
   go_wp2_with fail
   go_ret
   exact zox9 (by omega)
  ·have hd : 65535 < x:=by omega
   have he : decide (x < 0) = false:=by rw [zn4]; omega
   go_enter Tryz.func172,Tryz.ntmps172
   go_wp2_with fail
   go_ret
   exact zlb9 (by omega)
 ·have hd : x < 0:=by omega
  go_enter Tryz.func172,Tryz.ntmps172
  go_wp2_with fail
  go_ret
  exact zlb9 (by omega)
theorem zkd9 (v : Value) (xs : List Int) (w : World) (h : RdV w v (nums xs)) (hl : xs.length <= 9223372036854775807) :
  Calls Tryz.prog 91 #[v,.func (.func 172) #[] #[]] w fun e w' => (∃ r : Int,e = .returned (.int .i64 r) /\ -1 <= r /\ (r = -1 ↔ allI xs = true)) /\ Below w.heap.size w w':=by
 obtain ⟨a,cap,rfl,l1,l2,_⟩:=h.len
 have H:=hideN h
 rw [zn9] at H l1 ⊢
 obtain ⟨L,hL⟩:=exH xs.length
 rw [hL.out] at H l1 hl ⊢
 have HP : Hid (∀ r : Int,0 <= r -> ¬ (allI xs = true) -> (∃ r' : Int,Ending.returned (.int .i64 r) = .returned (.int .i64 r') /\ -1 <= r' /\ (r' = -1 ↔ allI xs = true))):=fun r h0 ha => ⟨r,rfl,by omega,⟨fun e => by omega,fun e => absurd e ha⟩⟩
 clear h
 go_enter Tryz.func91,Tryz.ntmps91
 go_wp2_with fail
 go_loopw [8] (fun i wr => ∃ (k : Nat),k <= L /\ i = .int .i64 k /\ Hid (∀ i,i < k -> 0 <= xs.getD i 0 /\ xs.getD i 0 <= 65535) /\ Hid (Below w.heap.size w wr)) (fun i _ => L - (intOf i).toNat)
 case atStart => exact ⟨0,zn7 _,rfl,fun j hj => by omega,Below.refl _ _⟩
 case round =>
  obtain ⟨k,hk,rfl,hz,BR⟩:=hrel
  by_cases hlt : k < L
  ·obtain ⟨b,o,rfl,ck⟩:=(H.out.below BR.out).at (i:=k) (c:=.int .i64 (xs.getD k 0)) (by rw [nums,List.getElem?_map,List.getElem?_eq_getElem (by rw [hL.out]; exact hlt)]; simp [zn3,show k < xs.length by rw [hL.out]; exact hlt])
   have HO : Hid (∀ (i : Nat),i = k -> (0 <= xs.getD i 0 /\ xs.getD i 0 <= 65535) -> ∀ i,i < k + 1 -> 0 <= xs.getD i 0 /\ xs.getD i 0 <= 65535):=fun i0 e0 h0 i hi => by
    by_cases e : i < k
    ·exact hz.out i e
    ·have : i = i0:=by omega
     rw [this]; exact h0
   have HB : Hid (∀ (i : Nat),i = k -> ¬ (0 <= xs.getD i 0 /\ xs.getD i 0 <= 65535) -> ¬ (allI xs = true)):=fun i e h0 ha => by rw [zpk9 (i:=i) (by rw [hL.out]; omega) h0] at ha; cases ha
   obtain ⟨x,hx⟩:=exH (xs.getD k 0)
   rw [hx.out] at ck
   go_wp2_with fail
   refine (znl9 x wr).mono ?_
   rintro e w2 ⟨t,rfl,ht,b2⟩
   have B2 : Hid (Below w.heap.size w w2):=BR.out.trans (b2.mono BR.out.size)
   have HT:=hideN ht
   clear b2 ht BR
   cases t with
   | true =>
    have HN : Hid (¬ (allI xs = true)):=HB.out k rfl (by rw [hx.out]; exact HT.out.1 rfl)
    go_wp2_with fail
    go_ret
    exact ⟨HP.out _ (by omega) HN.out,B2.out⟩
   | false =>
    have HK : Hid (∀ i,i < k + 1 -> 0 <= xs.getD i 0 /\ xs.getD i 0 <= 65535):=HO.out k rfl (by rw [hx.out]; exact HT.out.2 rfl)
    go_wp2_with fail
    go_roundw
    case rel => exact ⟨k + 1,by omega,by go_num,HK,B2⟩
    case measure => simp [intOf]; omega
  ·have HA : Hid (allI xs = true):=by show _ = _; rw [zft9]; intro i hi; exact hz.out i (by rw [hL.out] at hi; omega)
   go_wp2_with fail
   go_ret
   exact ⟨⟨-1,rfl,by omega,fun _ => HA.out,fun _ => rfl⟩,BR.out⟩
theorem zfc9 (v : Value) (xs : List Int) (w : World) (h : RdV w v (nums xs)) (hl : xs.length <= 9223372036854775807) :
  Calls Tryz.prog 171 #[v,.func (.func 172) #[] #[]] w fun e w' => e = .returned (.bool (!allI xs)) /\ Below w.heap.size w w':=by
 have HC:=hideN (zkd9 v xs w h hl)
 obtain ⟨a,cap,rfl,l1,l2,_⟩:=h.len
 obtain ⟨al,hal⟩:=exH (allI xs)
 rw [hal.out] at HC ⊢
 obtain ⟨nal,hnal⟩:=exH ((!al))
 rw [hnal.out]
 clear h
 go_enter Tryz.func171,Tryz.ntmps171
 go_wp2_with fail
 refine HC.out.mono ?_
 rintro e w2 ⟨⟨r,rfl,h1,h2⟩,b2⟩
 have B2:=hideN b2
 clear b2 HC
 by_cases hr : r = -1
 ·have ha : nal = false:=by rw [<- hnal.out,h2.1 hr]; rfl
  subst ha
  have hd : decide (0 <= r) = false:=by rw [zn4]; omega
  clear h2 h1
  subst hr
  go_wp2_with fail
  go_ret
  exact ⟨rfl,B2.out⟩
 ·have ha : nal = true:=by
   rw [<- hnal.out]
   cases al with
   | false => rfl
   | true => exact absurd (h2.2 rfl) hr
  subst ha
  have h0 : 0 <= r:=by omega
  clear h2 h1 hr
  go_wp2_with fail
  go_ret
  exact ⟨rfl,B2.out⟩
theorem zqs9 {n : Nd} (h : n.lf = true) : MayP n ↔ 1 <= n.ks.length /\ W (szN n n.ks.length) <= 240 /\ keysN n = true /\ n.vs.length = n.ks.length /\ n.kd.length = 0 /\ allS n.vs = true:=by
 unfold MayP
 rw [if_pos h,zcm9,zfu9]
 exact ⟨fun ⟨a,b,c,d,e,f⟩ => ⟨a,b,c,e,f,d⟩,fun ⟨a,b,c,e,f,d⟩ => ⟨a,b,c,d,e,f⟩⟩
theorem znf9 {n : Nd} (h : n.lf = false) : MayP n ↔ 1 <= n.ks.length /\ W (szN n n.ks.length) <= 240 /\ keysN n = true /\ n.kd.length = n.ks.length /\ n.vs.length = 0 /\ allI n.kd = true:=by
 unfold MayP
 rw [if_neg (by rw [h]; decide),zcm9,zft9]
 exact ⟨fun ⟨a,b,c,d,e,f⟩ => ⟨a,b,c,e,f,d⟩,fun ⟨a,b,c,e,f,d⟩ => ⟨a,b,c,d,e,f⟩⟩
theorem zci9 (n : Nd) (u1 u2 u3 : Value) (w : World) (h : Nn w n u1 u2 u3) (hs : Sm n) :
  Calls Tryz.prog 155 #[nod n.lf u1 u2 u3] w fun e w' => e = .returned (.bool (mayN n)) /\ Below w.heap.size w w':=by
 obtain ⟨a1,c1,a2,c2,a3,c3,rfl,rfl,rfl,⟨l1,l2,l3,l4,l5,l6⟩,_,_,_⟩:=h.out
 have H:=hideN h
 have HS:=hideN hs
 obtain ⟨L1,hL1⟩:=exH n.ks.length
 obtain ⟨L2,hL2⟩:=exH n.vs.length
 obtain ⟨L3,hL3⟩:=exH n.kd.length
 rw [hL1.out] at H l1 ⊢
 rw [hL2.out] at H l3 ⊢
 rw [hL3.out] at H l5 ⊢
 obtain ⟨lf,hlf⟩:=exH n.lf
 rw [hlf.out]
 unfold nod
 obtain ⟨W1,hW1⟩:=exN (w.alloc (.cells #[.bool lf,.slice a1 L1 c1,.slice a2 L2 c2,.slice a3 L3 c3] 93))
 have B1 : Hid (Below w.heap.size w W1):=by rw [<- hW1]; exact za9 _ _
 have V1 : Hid (Nb W1 93 w.heap.size lf (.slice a1 L1 c1) (.slice a2 L2 c2) (.slice a3 L3 c3)):=by rw [<- hW1]; exact nb_new _ _ _ _ _ _
 have H1 : Hid (Nn W1 n (.slice a1 L1 c1) (.slice a2 L2 c2) (.slice a3 L3 c3)):=H.out.below B1.out
 obtain ⟨mn,hmn⟩:=exH (mayN n)
 rw [hmn.out]
 obtain ⟨kn,hkn⟩:=exH (keysN n)
 obtain ⟨z,hz⟩:=exH (W (szN n n.ks.length))
 obtain ⟨av,hav⟩:=exH (allS n.vs)
 obtain ⟨ad,had⟩:=exH (allI n.kd)
 have HL : Hid (lf = true -> (mn = true ↔ 1 <= L1 /\ z <= 240 /\ kn = true /\ L2 = L1 /\ L3 = 0 /\ av = true)):=fun e => by
  have:=zqs9 (n:=n) (by rw [hlf.out]; exact e)
  rw [<- zw9,hmn.out,hz.out,hkn.out,hav.out,hL1.out,hL2.out,hL3.out] at this
  exact this
 have HI : Hid (lf = false -> (mn = true ↔ 1 <= L1 /\ z <= 240 /\ kn = true /\ L3 = L1 /\ L2 = 0 /\ ad = true)):=fun e => by
  have:=znf9 (n:=n) (by rw [hlf.out]; exact e)
  rw [<- zw9,hmn.out,hz.out,hkn.out,had.out,hL1.out,hL2.out,hL3.out] at this
  exact this
 have HF : Hid (¬ (1 <= L1 /\ z <= 240 /\ kn = true) -> mn = false):=fun hh => by
  cases mn with
  | false => rfl
  | true =>
   cases lf with
   | true => exact absurd ((HL.out rfl).1 rfl) (fun ⟨x,y,q,_⟩ => hh ⟨x,y,q⟩)
   | false => exact absurd ((HI.out rfl).1 rfl) (fun ⟨x,y,q,_⟩ => hh ⟨x,y,q⟩)
 have HK1 : Hid (∀ W,Below W1.heap.size W1 W -> Calls Tryz.prog 168 #[.agg #[.bool lf,.slice a1 L1 c1,.slice a2 L2 c2,.slice a3 L3 c3]] W fun e w' => e = .returned (.bool kn) /\ Below W.heap.size W w'):=fun W hb => by
  have:=zii9 n _ _ _ W (H1.out.below hb) HS.out
  rw [hlf.out,hkn.out] at this
  exact this
 have HZ1 : Hid (∀ W,Below W1.heap.size W1 W -> Calls Tryz.prog 157 #[.agg #[.bool lf,.slice a1 L1 c1,.slice a2 L2 c2,.slice a3 L3 c3]] W fun e w' => e = .returned (.int .i64 z) /\ Below W.heap.size W w'):=fun W hb => by
  have:=zbx9 n _ _ _ W (H1.out.below hb) HS.out
  rw [hlf.out,hz.out] at this
  exact this
 have HV1 : Hid (∀ W,Below W1.heap.size W1 W -> Calls Tryz.prog 169 #[.slice a2 L2 c2,.func (.func 170) #[] #[]] W fun e w' => e = .returned (.bool (!av)) /\ Below W.heap.size W w'):=fun W hb => by
  have:=zfd9 _ n.vs W (H1.out.below hb).v (by have:=HS.out.vl; omega)
  rw [hav.out] at this
  exact this
 have HD1 : Hid (∀ W,Below W1.heap.size W1 W -> Calls Tryz.prog 171 #[.slice a3 L3 c3,.func (.func 172) #[] #[]] W fun e w' => e = .returned (.bool (!ad)) /\ Below W.heap.size W w'):=fun W hb => by
  have:=zfc9 _ n.kd W (H1.out.below hb).d (by have:=HS.out.dl; omega)
  rw [had.out] at this
  exact this
 have p0:=V1.out.c0
 have p1:=V1.out.c1
 have p2:=V1.out.c2
 have p3:=V1.out.c3
 clear h hs H HS hmn hkn hz hav had hlf hL1 hL2 hL3 H1
 by_cases h1 : 1 <= L1
 ·have e1 : ((L1 : Int) == 0) = false:=by rw [beq_eq_false_iff_ne]; omega
  go_enter Tryz.func155,Tryz.ntmps155
  go_wp2_with fail
  refine (HK1.out W1 (Below.refl _ _)).mono ?_
  rintro e w2 ⟨rfl,b2⟩
  have V2 : Hid (Nb w2 93 w.heap.size lf (.slice a1 L1 c1) (.slice a2 L2 c2) (.slice a3 L3 c3)):=V1.out.below b2
  have B2 : Hid (Below W1.heap.size W1 w2):=b2
  clear b2 p0 p1 p2 p3 hW1
  have p0:=V2.out.c0
  have p1:=V2.out.c1
  have p2:=V2.out.c2
  have p3:=V2.out.c3
  cases kn with
  | false =>
   obtain rfl : mn = false:=HF.out (fun h => by cases h.2.2)
   go_wp2_with fail
   go_ret
   exact ⟨rfl,B1.out.trans (B2.out.mono B1.out.size)⟩
  | true =>
   go_wp2_with fail
   refine (HZ1.out w2 B2.out).mono ?_
   rintro e w3 ⟨rfl,b3⟩
   have V3 : Hid (Nb w3 93 w.heap.size lf (.slice a1 L1 c1) (.slice a2 L2 c2) (.slice a3 L3 c3)):=V2.out.below b3
   have B3 : Hid (Below W1.heap.size W1 w3):=B2.out.trans (b3.mono B2.out.size)
   have BF : Hid (Below w.heap.size w w3):=B1.out.trans (B3.out.mono B1.out.size)
   clear b3 p0 p1 p2 p3
   have p0:=V3.out.c0
   have p1:=V3.out.c1
   have p2:=V3.out.c2
   have p3:=V3.out.c3
   by_cases h2 : z <= 240
   ·have e2 : decide (240 < z) = false:=by rw [zn4]; omega
    clear HF
    cases lf with
    | true =>
     have HX : Hid (mn = true ↔ 1 <= L1 /\ z <= 240 /\ L2 = L1 /\ L3 = 0 /\ av = true):=⟨fun e => (fun q => ⟨q.1,q.2.1,q.2.2.2⟩) ((HL.out rfl).1 e),fun q => (HL.out rfl).2 ⟨q.1,q.2.1,(by trivial),q.2.2⟩⟩
     have HN : Hid (¬ (L2 = L1 /\ L3 = 0 /\ av = true) -> mn = false):=fun hh => by
      cases mn with
      | false => rfl
      | true => exact absurd (HX.out.1 rfl) (fun x => hh x.2.2)
     clear HL HI
     by_cases h3 : L2 = L1
     ·have e3 : ((L2 : Int) == (L1 : Int)) = true:=by rw [beq_iff_eq]; omega
      by_cases h4 : L3 = 0
      ·have e4 : ((L3 : Int) == 0) = true:=by rw [beq_iff_eq]; omega
       have HQ : Hid (av = true -> mn = true):=fun e => HX.out.2 ⟨h1,h2,h3,h4,e⟩
       have HR : Hid (av = false -> mn = false):=fun e => HN.out (fun x => by rw [e] at x; cases x.2.2)
       clear h3 h4 HX HN
       go_wp2_with fail
       refine (HV1.out w3 B3.out).mono ?_
       rintro e w4 ⟨rfl,b4⟩
       have BG : Hid (Below w.heap.size w w4):=BF.out.trans (b4.mono BF.out.size)
       clear b4 p0 p1 p2 p3
       cases av with
       | true =>
        obtain rfl : mn = true:=HQ.out rfl
        go_wp2_with fail
        go_ret
        exact ⟨rfl,BG.out⟩
       | false =>
        obtain rfl : mn = false:=HR.out rfl
        go_wp2_with fail
        go_ret
        exact ⟨rfl,BG.out⟩
      ·have e4 : ((L3 : Int) == 0) = false:=by rw [beq_eq_false_iff_ne]; omega
       obtain rfl : mn = false:=HN.out (fun x => h4 x.2.1)
       clear h3 h4 HX HN
       go_wp2_with fail
       go_ret
       exact ⟨rfl,BF.out⟩
     ·have e3 : ((L2 : Int) == (L1 : Int)) = false:=by rw [beq_eq_false_iff_ne]; omega
      obtain rfl : mn = false:=HN.out (fun x => h3 x.1)
      clear h3 HX HN
      go_wp2_with fail
      go_ret
      exact ⟨rfl,BF.out⟩
    | false =>
     have HX : Hid (mn = true ↔ 1 <= L1 /\ z <= 240 /\ L3 = L1 /\ L2 = 0 /\ ad = true):=⟨fun e => (fun q => ⟨q.1,q.2.1,q.2.2.2⟩) ((HI.out rfl).1 e),fun q => (HI.out rfl).2 ⟨q.1,q.2.1,(by trivial),q.2.2⟩⟩
     have HN : Hid (¬ (L3 = L1 /\ L2 = 0 /\ ad = true) -> mn = false):=fun hh => by
      cases mn with
      | false => rfl
      | true => exact absurd (HX.out.1 rfl) (fun x => hh x.2.2)
     clear HL HI
     by_cases h3 : L3 = L1
     ·have e3 : ((L3 : Int) == (L1 : Int)) = true:=by rw [beq_iff_eq]; omega
      by_cases h4 : L2 = 0
      ·have e4 : ((L2 : Int) == 0) = true:=by rw [beq_iff_eq]; omega
       have HQ : Hid (ad = true -> mn = true):=fun e => HX.out.2 ⟨h1,h2,h3,h4,e⟩
       have HR : Hid (ad = false -> mn = false):=fun e => HN.out (fun x => by rw [e] at x; cases x.2.2)
       clear h3 h4 HX HN
       go_wp2_with fail
       refine (HD1.out w3 B3.out).mono ?_
       rintro e w4 ⟨rfl,b4⟩
       have BG : Hid (Below w.heap.size w w4):=BF.out.trans (b4.mono BF.out.size)
       clear b4 p0 p1 p2 p3
       cases ad with
       | true =>
        obtain rfl : mn = true:=HQ.out rfl
        go_wp2_with fail
        go_ret
        exact ⟨rfl,BG.out⟩
       | false =>
        obtain rfl : mn = false:=HR.out rfl
        go_wp2_with fail
        go_ret
        exact ⟨rfl,BG.out⟩
      ·have e4 : ((L2 : Int) == 0) = false:=by rw [beq_eq_false_iff_ne]; omega
       obtain rfl : mn = false:=HN.out (fun x => h4 x.2.1)
       clear h3 h4 HX HN
       go_wp2_with fail
       go_ret
       exact ⟨rfl,BF.out⟩
     ·have e3 : ((L3 : Int) == (L1 : Int)) = false:=by rw [beq_eq_false_iff_ne]; omega
      obtain rfl : mn = false:=HN.out (fun x => h3 x.1)
      clear h3 HX HN
      go_wp2_with fail
      go_ret
      exact ⟨rfl,BF.out⟩
   ·have e2 : 240 < z:=by omega
    obtain rfl : mn = false:=HF.out (fun h => h2 h.2.1)
    go_wp2_with fail
    go_ret
    exact ⟨rfl,BF.out⟩
 ·have e0 : L1 = 0:=by omega
  obtain rfl : mn = false:=HF.out (fun h => h1 h.1)
  subst e0
  clear h1
  go_enter Tryz.func155,Tryz.ntmps155
  go_wp2_with fail
  go_ret
  exact ⟨rfl,B1.out⟩
theorem szN_le {n : Nd} {m : Nat} (hk : ∀ i,i < m -> (kA n i).size <= 24) (hv : n.lf = true -> ∀ i,i < m -> (vA n i).size <= 24) (k : Nat) (h : k <= m) : szN n k <= 1 + k * 51:=by
 induction k with
 | zero => simp [szN]
 | succ k ih =>
  have h1:=ih (by omega)
  have h2:=hk k (by omega)
  have h3 : szA n k <= 51:=by
   unfold szA
   by_cases hl : n.lf = true
   ·have:=hv hl k (by omega)
    rw [if_pos hl]; omega
   ·rw [if_neg hl]; split <;> omega
  simp only [szN]
  omega
theorem szN_ge (n : Nd) (k : Nat) : 1 + k <= szN n k:=by
 induction k with
 | zero => simp [szN]
 | succ k ih => simp only [szN,szA]; omega
theorem zlv9 (n : Nd) {j k : Nat} (h : j <= k) : szN n j <= szN n k:=by
 induction k with
 | zero => have : j = 0 := by omega
           subst this; exact zn6 _
 | succ k ih =>
  by_cases e : j <= k
  ·have:=ih e; simp only [szN]; omega
  ·have : j = k + 1:=by omega
   subst this; exact zn6 _
structure Rl (n : Nd) : Prop where
 sz : szN n n.ks.length <= 240
 len : 1 <= n.ks.length /\ n.ks.length <= 239
 ks : ∀ i,i < n.ks.length -> (kA n i).size <= 24
 vs : n.lf = true -> n.vs.length = n.ks.length /\ n.kd.length = 0 /\ ∀ i,i < n.ks.length -> (vA n i).size <= 24
 kd : n.lf = false -> n.kd.length = n.ks.length /\ n.vs.length = 0 /\ ∀ i,i < n.ks.length -> 0 <= dA n i /\ dA n i <= 65535
theorem zep9 {n : Nd} (h : MayP n) (hl : n.ks.length <= 17592186043904) : Rl n:=by
 obtain ⟨h1,h2,h3,h4⟩:=h
 have hk : ∀ i,i < n.ks.length -> (kA n i).size <= 24:=fun i hi => (h3 i hi).1
 have hv : n.lf = true -> n.vs.length = n.ks.length /\ n.kd.length = 0 /\ ∀ i,i < n.ks.length -> (vA n i).size <= 24:=fun e => by
  rw [if_pos e] at h4
  exact ⟨h4.2.1,h4.2.2,fun i hi => h4.1 i (by rw [h4.2.1]; exact hi)⟩
 have hd : n.lf = false -> n.kd.length = n.ks.length /\ n.vs.length = 0 /\ ∀ i,i < n.ks.length -> 0 <= dA n i /\ dA n i <= 65535:=fun e => by
  rw [if_neg (by rw [e]; decide)] at h4
  exact ⟨h4.2.1,h4.2.2,fun i hi => h4.1 i (by rw [h4.2.1]; exact hi)⟩
 have h5:=szN_le hk (fun e => (hv e).2.2) n.ks.length (zn6 _)
 have h6 : W (szN n n.ks.length) = (szN n n.ks.length : Int):=zax9 (by omega)
 rw [h6] at h2
 have h7:=szN_ge n n.ks.length
 exact ⟨by omega,⟨h1,by omega⟩,hk,hv,hd⟩
theorem zsw9 {n : Nd} (h : Rl n) {k : Nat} (hk : k < n.ks.length) : (itm n k).length = szA n k:=by
 unfold itm szA
 cases e : n.lf with
 | true => simp only [if_true,List.length_cons,List.length_append,zfb9]; omega
 | false =>
  have:=(h.kd e).1
  simp only [Bool.false_eq_true,if_false,List.length_cons,List.length_append,zfb9,List.length_nil]
  rw [if_pos (by omega)]
  omega
theorem zjr9 {n : Nd} (h : Rl n) {k : Nat} (hk : k <= n.ks.length) : (encN n k).length = szN n k:=by
 induction k with
 | zero => rfl
 | succ k ih => simp only [encN,szN,List.length_append]; rw [ih (by omega),zsw9 h (by omega)]
theorem enc_le {n : Nd} (h : Rl n) {k : Nat} (hk : k <= n.ks.length) : (encN n k).length <= 240:=by
 rw [zjr9 h hk]
 exact zn2 (zlv9 n hk) h.sz
theorem zet9 (n : Nd) (u1 u2 u3 : Value) (key : ByteArray) (w : World) (h : Nn w n u1 u2 u3) (hs : Sm n) :
  Calls Tryz.prog 42 #[nod n.lf u1 u2 u3,.string key] w fun e w' => e = .returned (.int .i64 (plc n key n.ks.length : Int)) /\ Below w.heap.size w w':=by
 obtain ⟨a1,c1,a2,c2,a3,c3,rfl,rfl,rfl,⟨l1,l2,l3,l4,l5,l6⟩,_,_,_⟩:=h.out
 have H:=hideN h
 have HS:=hideN hs
 obtain ⟨L1,hL1⟩:=exH n.ks.length
 obtain ⟨L2,hL2⟩:=exH n.vs.length
 obtain ⟨L3,hL3⟩:=exH n.kd.length
 rw [hL1.out] at H l1 ⊢
 rw [hL2.out] at H l3 ⊢
 rw [hL3.out] at H l5 ⊢
 obtain ⟨lf,hlf⟩:=exH n.lf
 rw [hlf.out]
 unfold nod
 obtain ⟨W1,hW1⟩:=exN (w.alloc (.cells #[.bool lf,.slice a1 L1 c1,.slice a2 L2 c2,.slice a3 L3 c3] 93))
 have B1 : Hid (Below w.heap.size w W1):=by rw [<- hW1]; exact za9 _ _
 have V1 : Hid (Nb W1 93 w.heap.size lf (.slice a1 L1 c1) (.slice a2 L2 c2) (.slice a3 L3 c3)):=by rw [<- hW1]; exact nb_new _ _ _ _ _ _
 have H1 : Hid (Nn W1 n (.slice a1 L1 c1) (.slice a2 L2 c2) (.slice a3 L3 c3)):=H.out.below B1.out
 have p0:=V1.out.c0
 have p1:=V1.out.c1
 have hb1 : L1 <= 8796093021952:=by have:=HS.out.kl; rw [hL1.out] at this; exact this
 obtain ⟨r,hr⟩:=exH (plc n key L1)
 rw [hr.out]
 clear h hs H HS hL2 hL3
 go_enter Tryz.func42,Tryz.ntmps42
 go_wp2_with fail
 go_loop [5,10] (fun s i => ∃ (k p : Nat),k <= L1 /\ p <= k /\ i = .int .i64 k /\ s = .int .i64 p /\ Hid (p = plc n key k)) (fun _ i => L1 - (intOf i).toNat)
 case atStart => exact ⟨0,0,zn7 _,zn7 _,rfl,rfl,rfl⟩
 case round =>
  obtain ⟨k,p,hk,hpk,rfl,rfl,hz⟩:=hrel
  by_cases hlt : k < L1
  ·obtain ⟨b,o,rfl,ck⟩:=H1.out.key (i:=k) (by rw [hL1.out]; exact hlt)
   have HE : Hid (plc n key (k + 1) = if n.lf = true then (if lts (kA n k) key = true then k + 1 else p) else (if (lts (kA n k) key || eqs (kA n k) key) = true then k else p)):=by show _ = _; rw [hz.out]; rfl
   rw [hlf.out] at HE
   obtain ⟨ky,hky⟩:=exH (kA n k)
   rw [hky.out] at ck HE
   cases lf with
   | true =>
    cases hc : Op.bytesLess ky.toList key.toList with
    | true =>
     have HR : Hid (k + 1 = plc n key (k + 1)):=by show _ = _; rw [HE.out,if_pos rfl,if_pos (show lts ky key = true from hc)]
     clear HE
     go_wp2_with fail
     go_round
     case rel => exact ⟨k + 1,k + 1,by omega,by omega,by go_num,by go_num,HR⟩
     case measure => simp [intOf]; omega
    | false =>
     have HR : Hid (p = plc n key (k + 1)):=by show _ = _; rw [HE.out,if_pos rfl,if_neg (by unfold lts; rw [hc]; decide)]
     clear HE
     go_wp2_with fail
     go_round
     case rel => exact ⟨k + 1,p,by omega,by omega,by go_num,rfl,HR⟩
     case measure => simp [intOf]; omega
   | false =>
    cases hc : (Op.bytesLess ky.toList key.toList || ky.toList == key.toList) with
    | true =>
     have HR : Hid (k = plc n key (k + 1)):=by show _ = _; rw [HE.out,if_neg (by decide),if_pos (show (lts ky key || eqs ky key) = true from hc)]
     clear HE
     go_wp2_with fail
     go_round
     case rel => exact ⟨k + 1,k,by omega,by omega,by go_num,by first | rfl | go_num,HR⟩
     case measure => simp [intOf]; omega
    | false =>
     have HR : Hid (p = plc n key (k + 1)):=by show _ = _; rw [HE.out,if_neg (by decide),if_neg (by unfold lts eqs; rw [hc]; decide)]
     clear HE
     go_wp2_with fail
     go_round
     case rel => exact ⟨k + 1,p,by omega,by omega,by go_num,rfl,HR⟩
     case measure => simp [intOf]; omega
  ·have hkl : k = L1:=by omega
   obtain rfl : r = p:=by rw [<- hr.out,hz.out,hkl]
   go_wp2_with fail
   go_ret
   exact ⟨rfl,B1.out⟩
end Go.Proofs.YtjhccpijpffahaaGreat
