import Derived.Test.YtjhccpijpffahaaGreatProg
import Derived.Test.YtjhccpijpffahaaGreatPMem
import Derived.WalkKit
import Derived.WalkSpells
import Derived.BigRegion
import Derived.BigQuiet
import Derived.Deep.QuietTactic
import Derived.Laws.BitsAllLaws
import Derived.Test.YtjhccpijpffahaaGreatPPlain
set_option maxRecDepth 100000
set_option linter.unusedVariables false
set_option linter.unusedSimpArgs false
set_option maxHeartbeats 8000000
namespace Go.Proofs.YtjhccpijpffahaaGreat
open Go.RowKit
def Owns (k : IntKind) (e : TypeId) (w : World) (v : Value) (xs : List Int) : Prop:=w.ownsRow 0 e 1 v xs.length (xs.map (Value.int k))
structure Grew (w w' : World) (v v' : Value) : Prop where
 tch : Tch (fun k => v.ownBlock = some k) w w'
 fresh : ∀ k,v'.ownBlock = some k -> v.ownBlock = some k ∨ w.heap.size <= k
theorem Grew.onto {w0 w w' : World} {v v' : Value} (h : Grew w w' v v') (hb : Below w0.heap.size w0 w) (hn : ∀ k,v.ownBlock = some k -> w0.heap.size <= k) : Below w0.heap.size w0 w' /\ ∀ k,v'.ownBlock = some k -> w0.heap.size <= k:=
 ⟨hb.trans (h.tch.below hb.size (fun k e => hn k e)),fun k hk => by
  rcases h.fresh k hk with e | e
  ·exact hn k e
  ·have:=hb.size; omega⟩
theorem zda9 (k : IntKind) (e : TypeId) (w : World) : Owns k e w (.slice none 0 0) []:=World.ownsRow_nil _ _ _ _
theorem Owns.rd {k : IntKind} {e : TypeId} {w : World} {v : Value} {xs : List Int} (h : Owns k e w v xs) : Rd k w v xs:=zlf9 h
theorem Owns.tch {S : Nat -> Prop} {k : IntKind} {e : TypeId} {w w' : World} {v : Value} {xs : List Int} (h : Owns k e w v xs) (ht : Tch S w w') (hn : ∀ j,v.ownBlock = some j -> ¬ S j) : Owns k e w' v xs:=ht.owns h hn
theorem Owns.below {k : IntKind} {e : TypeId} {w w' : World} {v : Value} {xs : List Int} (h : Owns k e w v xs) (hb : Below w.heap.size w w') : Owns k e w' v xs:=
 h.tch (S:=fun _ => False) (Tch.of_below hb) (fun _ _ e => e)
theorem Owns.lt {k : IntKind} {e : TypeId} {w : World} {v : Value} {xs : List Int} (h : Owns k e w v xs) : ∀ j,v.ownBlock = some j -> j < w.heap.size:=fun j hj => (World.ownsRow.lt h j hj).2
theorem Owns.shape {k : IntKind} {e : TypeId} {w : World} {v : Value} {xs : List Int} (h : Owns k e w v xs) (h0 : 0 < xs.length) :
  ∃ g cap,v = .slice (some ⟨g,0,none⟩) xs.length cap /\ g < w.heap.size /\ xs.length <= cap /\ cap <= maxLen /\ (∀ i,i < xs.length -> w.cell? ⟨g,i,none⟩ = some (.int k (xs.getD i 0))) /\ ∀ i,w.frozen? ⟨g,i,none⟩ = false:=by
 have h' : w.ownsRow 0 e 1 v xs.length (xs.map (Value.int k)):=h
 rcases h'.2 with ⟨_,e⟩ | ⟨g,cap,cur,rfl,_,hg,hnc,hcm,_⟩
 ·omega
 ·refine ⟨g,cap,rfl,(Array.getElem?_eq_some_iff.1 hg).1,hnc,hcm,fun i hi => ?_,fun i => h'.frozenAt i⟩
  rw [h'.cellAt i (by omega)]
  simp [zn3,hi]
theorem Owns.set {k : IntKind} {e : TypeId} {w : World} {g n cap : Nat} {xs : List Int} (h : Owns k e w (.slice (some ⟨g,0,none⟩) n cap) xs) (j : Nat) (u : Int) :
  Owns k e (w.setCell ⟨g,j,none⟩ (.int k u)) (.slice (some ⟨g,0,none⟩) n cap) (xs.set j u):=by
 have h' : w.ownsRow 0 e 1 (.slice (some ⟨g,0,none⟩) n cap) xs.length (xs.map (Value.int k)):=h
 have hn : n = xs.length:=by
  rcases h'.2 with ⟨e,_⟩ | ⟨g',cap',cur,e,_⟩
  ·cases e
  ·simp only [Value.slice.injEq] at e; exact e.2.1
 subst hn
 have:=(h'.stored j (.int k u)).1
 unfold Owns
 rw [List.length_set,List.map_set]
 exact this
structure Elem (P : Program) (t e : TypeId) (k : IntKind) (bytes : Nat) : Prop where
 ht : P.underlying t = some (.slice e)
 info : ∃ i,P.info? e = some i /\ i.zero = some (.int k 0) /\ i.size = 1 /\ i.bytes = bytes
section
variable {P : Program}
theorem ziy9 (w : World) {ops : Array Oper} {rest : List Oper} {o : Oper} {a : Act} {Q : Exit -> Act -> World -> Prop} (hgd : o.guard = none) (s x : Operand) (t : TypeId)
  (ho : o.op = .call { callee:=.builtin .append,args:=#[s,x],argTypes:=#[t,t] }) (e : TypeId) (k : IntKind) (bytes : Nat) (E : Elem P t e k bytes)
  (v : Value) (xs : List Int) (hs : a.eval s = v) (hown : Owns k e w v xs) (u : Value) (ys : List Int) (hx : a.eval x = u) (hu : Rd k w u ys)
  (h63 : xs.length + ys.length <= 9223372036854775807) (hbytes : (xs.length + ys.length) * bytes <= 140737488355328)
  (h : ∀ v' w',Owns k e w' v' (xs ++ ys) -> Grew w w' v v' -> wpList P ops Q rest (a.put o.dst v') w') : wpList P ops Q (o :: rest) a w:=by
 obtain ⟨ht,i,hi,hz,h1,hb⟩:=E
 refine zdj9 w hgd s x t ho e i (.int k 0) bytes ht hi hz h1 hb rfl v (xs.map (Value.int k)) hs (by unfold Owns at hown; simpa using hown) u (ys.map (Value.int k)) hx (znv9 hu) (by unfold maxLen; simpa using h63) (by simpa using hbytes) ?_
 intro v' w' h2 h3 h4
 refine h v' w' (by unfold Owns; simpa using h2) ⟨(Tch.refl _ w).grown h3 (fun _ _ e => e),h4⟩
theorem zeb9 (w : World) {ops : Array Oper} {rest : List Oper} {o : Oper} {a : Act} {Q : Exit -> Act -> World -> Prop} (hgd : o.guard = none) (s x : Operand) (t : TypeId)
  (ho : o.op = .call { callee:=.builtin .append,args:=#[s,x],argTypes:=#[t,t] }) (e : TypeId) (k : IntKind) (bytes : Nat) (E : Elem P t e k bytes)
  (v : Value) (xs : List Int) (hs : a.eval s = v) (hown : Owns k e w v xs) (y : Int) (hx : a.eval x = .slice (some ⟨w.heap.size,0,none⟩) 1 1)
  (h63 : xs.length + 1 <= 9223372036854775807) (hbytes : (xs.length + 1) * bytes <= 140737488355328)
  (h : ∀ v' w',Owns k e w' v' (xs ++ [y]) -> Grew w w' v v' -> wpList P ops Q rest (a.put o.dst v') w') : wpList P ops Q (o :: rest) a (w.alloc (.cells #[.int k y] e)):=by
 obtain ⟨ht,i,hi,hz,h1,hb⟩:=E
 refine zdj9 (w.alloc (.cells #[.int k y] e)) hgd s x t ho e i (.int k 0) bytes ht hi hz h1 hb rfl v (xs.map (Value.int k)) hs (by unfold Owns at hown; simpa using hown.alloc _) _ [.int k y] hx (ztt9 w _ _ rfl) (by unfold maxLen; simpa using h63) (by simpa using hbytes) ?_
 intro v' w' h2 h3 h4
 refine h v' w' (by unfold Owns; simpa using h2) ⟨Tch.grown ((Tch.refl _ w).alloc _) h3 (fun _ _ e => e),fun k hk => ?_⟩
 rcases h4 k hk with e | e
 ·exact .inl e
 ·exact .inr (by simp at e; omega)
end
theorem elem8 : Elem Tryz.prog 61 5 .u8 1:=⟨Tryz.underlying61,info_parts (z:=.int .u8 0) (size:=1) (bytes:=1) (by kernel_rfl)⟩
end Go.Proofs.YtjhccpijpffahaaGreat
namespace Go.Proofs.YtjhccpijpffahaaGreat
open Go.RowKit Pl
theorem zhn9 {k : IntKind} {w : World} {a : Option Addr} {cap : Nat} {xs : List Int} (h : Rd k w (.slice a xs.length cap) xs) (l m : Nat) (hl : l <= m) (hm : m <= xs.length) : Rd k w (sliced a l m cap 1) ((xs.drop l).take (m - l)):=by
 obtain ⟨a',cap',e,h1,h2,h3,h4⟩:=h
 cases e
 have el : ((xs.drop l).take (m - l)).length = m - l:=by rw [List.length_take,List.length_drop]; omega
 unfold sliced
 rw [Nat.mul_one]
 by_cases hz : m - l = 0
 ·have hnil : (xs.drop l).take (m - l) = []:=by rw [hz]; rfl
  rw [hnil,hz]
  refine ⟨_,cap - l,rfl,zn7 _,by omega,fun e => ?_,.inl rfl⟩
  by_cases c : cap = l
  ·omega
  ·rw [if_neg c] at e
   have : a = none:=by simpa using e
   have:=h3 this
   omega
 ·rcases h4 with rfl | ⟨b,o,rfl,hc⟩
  ·simp at hm; omega
  ·rw [if_neg (by omega)]
   refine ⟨_,cap - l,by rw [el],by omega,by omega,fun e => (by cases e),.inr ⟨b,o + l,?_,fun i hi => ?_⟩⟩
   ·simp [Addr.add]
   ·rw [el] at hi
    rw [Nat.add_assoc,hc (l + i) (by omega),zn3,zn3,List.getElem?_take,if_pos hi,List.getElem?_drop]
theorem size8 (w : World) : (sizeOf (Tryz.prog.elem 61)).run Tryz.prog w = .ok 1 w:=by
 have h : (Tryz.prog.info? (Tryz.prog.elem 61)).map (·.size) = some 1:=by kernel_rfl
 obtain ⟨i,hi,hs⟩:=Option.map_eq_some_iff.1 h
 simp [sizeOf,typeInfo,hi,hs]
theorem under8 : Tryz.prog.underlying 61 = some (.slice (Tryz.prog.elem 61)):=by
 have : Tryz.prog.elem 61 = 5:=by kernel_rfl
 rw [this]
 exact Tryz.underlying61
def c1 (x : Nat) : Nat:=if x % 2 = 1 then x / 2 ^^^ 2197175160 else x / 2
def c8 : Nat -> Nat -> Nat
 | 0,x => x
 | k + 1,x => c1 (c8 k x)
def cR (xs : List Int) : Nat -> Nat
 | 0 => 4294967295
 | k + 1 => c8 8 (cR xs k ^^^ (xs.getD k 0).toNat)
def crc (xs : List Int) : Nat:=4294967295 - cR xs xs.length
theorem c1_lt {x : Nat} (h : x < 4294967296) : c1 x < 4294967296:=by
 unfold c1
 split
 ·exact Nat.xor_lt_two_pow (n:=32) (by omega) (by decide)
 ·omega
theorem zth9 (x : Nat) (h : x < 4294967296) : 4294967295 ^^^ x = 4294967295 - x:=by
 have h1 : (~~~ (BitVec.ofNat 32 x)).toNat = 4294967295 - x:=by rw [BitVec.toNat_not,BitVec.toNat_ofNat]; omega
 have h2 : (BitVec.allOnes 32 ^^^ BitVec.ofNat 32 x).toNat = 4294967295 ^^^ x:=by
  rw [BitVec.toNat_xor,BitVec.toNat_ofNat,BitVec.toNat_allOnes,Nat.mod_eq_of_lt (show x < 2 ^ 32 by omega)]
 rw [<- h1,<- h2,BitVec.not_def]
theorem zqx9 (x : Nat) (h : x < 4294967296) : Go.bits .xor .u32 IntKind.u32.max (x : Int) = ((4294967295 - x : Nat) : Int):=by
 have e : IntKind.u32.max = ((4294967295 : Nat) : Int):=by decide
 rw [e,u32_xor_nat _ _ (by decide) h,zth9 x h]
theorem zrt9 (x : Nat) (h : x < 4294967296) : Go.bits .xor .u32 ((x : Int) / 2) (2197175160 * Go.bits .and .u32 (x : Int) 1 % 4294967296) = (c1 x : Int):=by
 have e1 : Go.bits .and .u32 (x : Int) 1 = ((x % 2 : Nat) : Int):=by
  have:=u32_and_nat x 1 h (by decide)
  rw [nat_mask1] at this
  exact this
 rw [e1]
 have e2 : (x : Int) / 2 = ((x / 2 : Nat) : Int):=by omega
 rw [e2]
 unfold c1
 by_cases c : x % 2 = 1
 ·rw [if_pos c,c]
  have:=u32_xor_nat (x / 2) 2197175160 (by omega) (by decide)
  exact this
 ·have c0 : x % 2 = 0:=by omega
  rw [if_neg c,c0]
  have:=u32_xor_nat (x / 2) 0 (by omega) (by decide)
  simpa using this
def bN (xs : List Int) (j : Nat) : Nat:=(xs.getD j 0).toNat
theorem bN_lt {xs : List Int} (h : By xs) (j : Nat) : bN xs j < 256:=by have:=h j; unfold bN; omega
theorem bN_eq {xs : List Int} (h : By xs) (j : Nat) : xs.getD j 0 = (bN xs j : Int):=by have:=h j; unfold bN; omega
def vR (d : Nat -> Bool) (a : Nat) : Nat -> Nat
 | 0 => 0
 | m + 1 => vR d a m ^^^ (if d (a + m) then 2 ^ m else 0)
def dd (A mask N n p : Nat) : Bool:=decide (A <= p /\ p < A + n /\ p < N) && mask.testBit (p - A)
def le4 (s : Nat) : List Int:=[((s % 256 : Nat) : Int),((s / 256 % 256 : Nat) : Int),((s / 65536 % 256 : Nat) : Int),((s / 16777216 % 256 : Nat) : Int)]
def smd (xs : List Int) : List Int:=xs.take 252 ++ le4 (crc (xs.take 252))
def pre (n k : Int) (ys : List Int) : List Int:=[k,(ys.length : Int),n % 256,n / 256,0,0,0,0] ++ (ys ++ List.replicate (244 - ys.length) 0)
def sec (n k : Int) (ys : List Int) : List Int:=pre n k ys ++ le4 (crc (pre n k ys))
def mayK (n k : Int) (l : Nat) : Bool:=decide (0 <= n /\ n <= 65535 /\ 1 <= k /\ k <= 4 /\ l <= 240)
def bdy (xs : List Int) : List Int:=(xs.drop 8).take (min (bN xs 1) 244)
def getE (n : Int) (xs : List Int) : Int:=
 if xs.length ≠ 256 then 1 else if xs ≠ smd xs then 6 else if mayK n (xs.getD 0 0) (bdy xs).length = true /\ xs = sec n (xs.getD 0 0) (bdy xs) then 0 else 7
def getB (n : Int) (xs : List Int) : Int × List Int:=if getE n xs = 0 then (xs.getD 0 0,bdy xs) else (0,[])
theorem zoq9 (s : Nat) : (le4 s).length = 4:=rfl
theorem zaq9 {xs : List Int} (h : ∀ x ∈ xs,0 <= x /\ x <= 255) : By xs:=fun i => by
 rw [zn3]
 cases e : xs[i]? with
 | none => simp
 | some n => exact h n (List.mem_of_getElem? e)
theorem zeq9 {xs : List Int} (h : By xs) : ∀ x ∈ xs,0 <= x /\ x <= 255:=fun x hx => by
 obtain ⟨i,hi,rfl⟩:=List.getElem_of_mem hx
 have:=h i
 rw [zn3,List.getElem?_eq_getElem hi] at this
 exact this
theorem By.appendB {xs ys : List Int} (h : By xs) (k : By ys) : By (xs ++ ys):=zaq9 fun x hx => by
 rcases List.mem_append.1 hx with e | e
 ·exact zeq9 h x e
 ·exact zeq9 k x e
theorem By.dropB {xs : List Int} (h : By xs) (m : Nat) : By (xs.drop m):=zaq9 fun x hx => zeq9 h x (List.mem_of_mem_drop hx)
theorem le4_by (s : Nat) : By (le4 s):=zaq9 fun x hx => by
 simp only [le4,List.mem_cons,List.not_mem_nil,or_false] at hx
 rcases hx with rfl | rfl | rfl | rfl <;> omega
theorem zfp9 {xs : List Int} (h : xs.length = 256) : (smd xs).length = 256:=by simp only [smd,List.length_append,List.length_take,zoq9]; omega
theorem smd_by {xs : List Int} (h : By xs) : By (smd xs):=(h.take 252).appendB (le4_by _)
theorem zhm9 (n k : Int) {ys : List Int} (h : ys.length <= 244) : (pre n k ys).length = 252:=by
 simp only [pre,List.length_append,List.length_cons,List.length_nil,List.length_replicate]; omega
theorem zht9 (n k : Int) {ys : List Int} (h : ys.length <= 244) : (sec n k ys).length = 256:=by
 simp only [sec,List.length_append,zhm9 n k h,zoq9]
theorem zts9 (n k : Int) {ys zs : List Int} (h : ys.length <= 244) : smd (pre n k ys ++ zs) = sec n k ys:=by
 unfold smd
 rw [List.take_append_of_le_length (by rw [zhm9 n k h]; exact zn6 _),zn5 (by rw [zhm9 n k h]; exact zn6 _)]
 rfl
theorem pre_by {n k : Int} {ys : List Int} (hn : 0 <= n /\ n <= 65535) (hk : 1 <= k /\ k <= 4) (hy : By ys) (hl : ys.length <= 244) : By (pre n k ys):=by
 refine By.appendB (zaq9 fun x hx => ?_) (hy.appendB (zaq9 fun x hx => ?_))
 ·simp only [List.mem_cons,List.not_mem_nil,or_false] at hx
  rcases hx with rfl | rfl | rfl | rfl | rfl | rfl | rfl | rfl <;> omega
 ·rw [List.mem_replicate] at hx
  omega
theorem sec_by {n k : Int} {ys : List Int} (hn : 0 <= n /\ n <= 65535) (hk : 1 <= k /\ k <= 4) (hy : By ys) (hl : ys.length <= 244) : By (sec n k ys):=(pre_by hn hk hy hl).appendB (le4_by _)
theorem bdy_by {xs : List Int} (h : By xs) : By (bdy xs):=(h.dropB 8).take _
theorem zv9 {n k : Int} {l : Nat} : mayK n k l = true ↔ 0 <= n /\ n <= 65535 /\ 1 <= k /\ k <= 4 /\ l <= 240:=by unfold mayK; exact decide_eq_true_iff
end Go.Proofs.YtjhccpijpffahaaGreat
namespace Go.Proofs.YtjhccpijpffahaaGreat
open Go.RowKit
theorem Rd.tch0 {S : Nat -> Prop} {k : IntKind} {w w' : World} {v : Value} {xs : List Int} (h : Rd k w v xs) (ht : Tch S w w') (hn : ∀ b,v.ownBlock = some b -> xs ≠ [] -> ¬ S b) : Rd k w' v xs:=by
 by_cases e : xs = []
 ·subst e
  obtain ⟨a,c,rfl,h1,h2,h3,_⟩:=h
  exact ⟨a,c,rfl,h1,h2,h3,.inl rfl⟩
 ·exact h.tch ht (fun b hb => hn b hb e)
theorem Rd.blk_lt {k : IntKind} {w : World} {v : Value} {xs : List Int} (h : Rd k w v xs) (h0 : xs ≠ []) {b : Nat} (hb : v.ownBlock = some b) : b < w.heap.size:=by
 obtain ⟨a,c,rfl,h1,h2,h3,h4⟩:=h
 rcases h4 with e | ⟨b',o,rfl,hc⟩
 ·exact absurd e h0
 ·cases hb
  exact World.block_lt_of_cell? w ⟨b',o + 0,none⟩ (hc 0 (by cases xs with | nil => exact absurd rfl h0 | cons x r => simp))
end Go.Proofs.YtjhccpijpffahaaGreat
namespace Go.Proofs.YtjhccpijpffahaaGreat
open Go.RowKit Pl
set_option maxRecDepth 100000 in
theorem zrx9 (v : Value) (xs : List Int) (w : World) (hr : Rd .u8 w v xs) (hb : By xs) :
  Calls Tryz.prog 147 #[v] w fun e w' => e = .returned (.int .i64 (crc xs : Int)) /\ w' = w:=by
 obtain ⟨a,cap,rfl,hlc,hcm,_,hcc⟩:=hr
 have HC : Hid (xs = [] ∨ ∃ b o,a = some ⟨b,o,none⟩ /\ ∀ i,i < xs.length -> w.cell? ⟨b,o + i,none⟩ = some (.int .u8 (xs.getD i 0))):=hcc
 have HB : Hid (By xs):=hb
 have hm : xs.length <= 9223372036854775807:=by unfold maxLen at hcm; omega
 clear hcc hb hcm
 obtain ⟨R,hR⟩:=exH (crc xs)
 rw [hR.out]
 go_enter Tryz.func147,Tryz.ntmps147
 go_wp2_with fail
 go_loopw [3,9] (fun x i wr => ∃ (k X : Nat),k <= xs.length /\ i = .int .i64 k /\ x = .int .u32 X /\ X < 4294967296 /\ Hid (cR xs k = X) /\ wr = w) (fun _ i _ => xs.length - (intOf i).toNat)
 case atStart => exact ⟨0,4294967295,zn7 _,rfl,rfl,by decide,rfl,rfl⟩
 case round =>
  obtain ⟨k,X,hk,rfl,rfl,hX,HX,rfl⟩:=hrel
  by_cases hlt : k < xs.length
  ·obtain ⟨ab,ao,ha,hc⟩ : ∃ b o,a = some ⟨b,o,none⟩ /\ ∀ i,i < xs.length -> wr.cell? ⟨b,o + i,none⟩ = some (.int .u8 (xs.getD i 0)):=by
    rcases HC.out with rfl | h
    ·simp at hlt
    ·exact h
   subst ha
   obtain ⟨b,hb⟩ : ∃ b : Nat,Hid (xs.getD k 0 = (b : Int) /\ b < 256):=by
    have:=HB.out k
    exact ⟨(xs.getD k 0).toNat,by omega,by omega⟩
   have hb1:=hb.out.2
   have cx : wr.cell? ⟨ab,ao + k,none⟩ = some (.int .u8 (b : Int)):=by rw [hc k hlt,hb.out.1]
   have hx1 : Go.bits .xor .u32 (X : Int) (b : Int) = ((X ^^^ b : Nat) : Int):=u32_xor_nat X b hX (by omega)
   have hx2 : X ^^^ b < 4294967296:=Nat.xor_lt_two_pow (n:=32) hX (by omega)
   have HN : Hid (cR xs (k + 1) = c8 8 (X ^^^ b)):=by show _ = _; simp only [cR]; rw [HX.out,hb.out.1]; rfl
   obtain ⟨Y,hY⟩:=exN (X ^^^ b)
   rw [hY] at hx1 hx2 HN
   clear hc HX hY
   go_wp2_with fail
   go_loopw [3,17] (fun x i wr' => ∃ (j X : Nat),j <= 8 /\ i = .int .i64 j /\ x = .int .u32 X /\ X < 4294967296 /\ Hid (c8 j Y = X) /\ wr' = wr) (fun _ i _ => 8 - (intOf i).toNat)
   case atStart => exact ⟨0,Y,zn7 _,rfl,rfl,hx2,rfl,rfl⟩
   case round =>
    obtain ⟨j,Z,hj,rfl,rfl,hZ,HZ,rfl⟩:=hrel
    by_cases hjl : j < 8
    ·have hs:=zrt9 Z hZ
     have hs2:=c1_lt hZ
     have HZ2 : Hid (c8 (j + 1) Y = c1 Z):=by show _ = _; simp only [c8]; rw [HZ.out]
     go_wp2_with fail
     go_roundw
     case rel => exact ⟨j + 1,c1 Z,by omega,by go_num,by first | rfl | (rw [hs]),hs2,HZ2,trivial⟩
     case measure => simp [intOf]; omega
    ·obtain rfl : j = 8:=by omega
     rw [HZ.out] at HN
     go_wp2_with fail
     go_roundw
     case rel => exact ⟨k + 1,Z,by omega,by go_num,rfl,hZ,HN,trivial⟩
     case measure => simp [intOf]; omega
  ·obtain rfl : k = xs.length:=by omega
   have he : R = 4294967295 - X:=by rw [<- hR.out]; unfold crc; rw [HX.out]
   have hn:=zqx9 X hX
   have hn2 : wrap64 ((4294967295 - X : Nat) : Int) = (R : Int):=by rw [he,wrap64]; omega
   go_wp2_with fail
   go_ret
   exact ⟨rfl,rfl⟩
def leN (k : Nat) (n : Int) : List Int:=(List.range k).map fun i => n / 256 ^ i % 256
def vN : List Int -> Int
 | [] => 0
 | b :: r => b + 256 * vN r
def sl (xs : List Int) (a k : Nat) : List Int:=(xs.drop a).take k
theorem zor9 (k : Nat) (n : Int) : (leN k n).length = k:=by simp [leN]
theorem zql9 (k : Nat) (n : Int) : leN (k + 1) n = leN k n ++ [n / 256 ^ k % 256]:=by simp [leN,List.range_succ]
theorem zpj9 (b : Int) : ∀ xs : List Int,vN (xs ++ [b]) = vN xs + 256 ^ xs.length * b
 | [] => by simp [vN]
 | x :: xs => by
  show x + 256 * vN (xs ++ [b]) = x + 256 * vN xs + 256 ^ (xs.length + 1) * b
  rw [zpj9 b xs,Int.mul_add,Int.pow_succ,Int.mul_comm (256 ^ xs.length) 256,Int.mul_assoc,Int.add_assoc]
end Go.Proofs.YtjhccpijpffahaaGreat
namespace Go.Proofs.YtjhccpijpffahaaGreat
open Go.RowKit Ah
theorem elem64 : Elem Tryz.prog 56 3 .i64 8:=⟨Tryz.underlying56,info_parts (z:=.int .i64 0) (size:=1) (bytes:=8) (by kernel_rfl)⟩
abbrev OwnsI (w : World) (v : Value) (xs : List Int) : Prop:=Owns .i64 3 w v xs
structure Fb where
 b : Nat
 t : TypeId
 pre : List Value
 post : List Value
structure Fr (w : World) (F : Fb) (v u : Value) (L : Nat) (ns : List Int) : Prop where
 blk : w.heap[F.b]? = some (.cells (F.pre ++ v :: u :: F.post).toArray F.t (0,0))
 ht : F.t ≠ 3
 own : OwnsI w v ns
 pls : ∃ ps,ps.length = L /\ OwnsI w u ps /\ Pls ns ps
 ap : ∀ k,v.ownBlock = some k -> u.ownBlock ≠ some k
theorem zau9 {w : World} {e : TypeId} {size : Nat} {v : Value} {n : Nat} {xs : List Value} (h : w.ownsRow 0 e size v n xs) {k : Nat} (hk : v.ownBlock = some k) : ∃ cur,w.heap[k]? = some (.cells cur e (0,0)):=by
 rcases h.2 with ⟨rfl,_⟩ | ⟨g,cap,cur,rfl,_,hg,_⟩
 ·cases hk
 ·simp only [Value.ownBlock,Option.some.injEq] at hk
  subst hk
  exact ⟨cur,hg⟩
theorem zav9 {k : IntKind} {e : TypeId} {w : World} {v : Value} {xs : List Int} (h : Owns k e w v xs) {b : Nat} {cs : Array Value} {t : TypeId} (hb : w.heap[b]? = some (.cells cs t (0,0))) (ht : t ≠ e) {j : Nat} (hj : v.ownBlock = some j) : j ≠ b:=by
 intro e
 subst e
 obtain ⟨c1,h1⟩:=zau9 (w:=w) h hj
 rw [h1] at hb
 simp at hb
 exact ht hb.2.symm
section
variable {w : World} {F : Fb} {v u : Value} {L : Nat} {ns : List Int}
theorem Fr.c0 (H : Fr w F v u L ns) : w.cell? ⟨F.b,F.pre.length,none⟩ = some v:=by
 rw [cell_of_row w F.b F.pre.length _ _ (0,0) H.blk]; simp
theorem Fr.c1 (H : Fr w F v u L ns) : w.cell? ⟨F.b,F.pre.length + 1,none⟩ = some u:=by
 rw [cell_of_row w F.b (F.pre.length + 1) _ _ (0,0) H.blk]; simp
theorem Fr.fz (H : Fr w F v u L ns) (i : Nat) : w.frozen? ⟨F.b,i,none⟩ = false:=frozen_of_row w F.b i _ _ H.blk
theorem Fr.lt (H : Fr w F v u L ns) : F.b < w.heap.size:=(Array.getElem?_eq_some_iff.1 H.blk).1
theorem Fr.ne (H : Fr w F v u L ns) {k : Nat} (hk : v.ownBlock = some k) : k ≠ F.b:=zav9 H.own H.blk H.ht hk
theorem Fr.neu (H : Fr w F v u L ns) {k : Nat} (hk : u.ownBlock = some k) : k ≠ F.b:=by
 obtain ⟨ps,_,ho,_⟩:=H.pls
 exact zav9 ho H.blk H.ht hk
theorem Fr.tch {S : Nat -> Prop} {w' : World} (H : Fr w F v u L ns) (ht : Tch S w w') (hb : ¬ S F.b) (hv : ∀ k,v.ownBlock = some k -> ¬ S k) (hu : ∀ k,u.ownBlock = some k -> ¬ S k) : Fr w' F v u L ns:=by
 obtain ⟨ps,hl,ho,hp⟩:=H.pls
 exact ⟨by rw [ht.block F.b H.lt hb]; exact H.blk,H.ht,H.own.tch ht hv,⟨ps,hl,ho.tch ht hu,hp⟩,H.ap⟩
theorem Fr.still (H : Fr w F v u L ns) {w' : World} (ht : Tch (fun _ => False) w w') : Fr w' F v u L ns:=H.tch ht (fun e => e) (fun _ _ e => e) (fun _ _ e => e)
theorem Fr.len (H : Fr w F v u L ns) : ∃ a cap,v = .slice a ns.length cap:=by
 obtain ⟨a,cap,e,_⟩:=H.own.rd
 exact ⟨a,cap,e⟩
def Fs (F : Fb) (v u : Value) (k : Nat) : Prop:=k = F.b ∨ v.ownBlock = some k ∨ u.ownBlock = some k
end
abbrev fp (F : Fb) : Value:=.pointer (some ⟨F.b,F.pre.length,none⟩)
theorem zcu9 (b o : Nat) (a : Option Addr) (n cap : Nat) (w : World) (c0 : w.cell? ⟨b,o,none⟩ = some (.slice a n cap)) :
  Calls Tryz.prog 50 #[.pointer (some ⟨b,o,none⟩)] w fun e w' => e = .returned (.int .i64 n) /\ w' = w:=by
 go_enter Tryz.func50,Tryz.ntmps50
 go_wp2_with fail
 go_ret
 exact ⟨rfl,rfl⟩
theorem zab9 (F : Fb) (v u : Value) (L : Nat) (ns : List Int) (i j : Nat) (x y : Int) (b : Bool) (w : World) (H : Fr w F v u L ns) (hi : i < ns.length) (hj : j < ns.length) (hx : x = i) (hy : y = j) (hb : decide (G ns i < G ns j) = b) :
  Calls Tryz.prog 214 #[fp F,.int .i64 x,.int .i64 y] w fun e w' => e = .returned (.bool b) /\ Fr w' F v u L ns /\ Tch (fun _ => False) w w':=by
 subst hx; subst hy
 have HH : Hid (Fr w F v u L ns):=H
 obtain ⟨g,cap,rfl,_,hcap,hmax,hc,_⟩:=H.own.shape (by omega)
 have c0:=hc i hi
 have d0:=hc j hj
 have ch:=H.c0
 obtain ⟨X,hX⟩:=exH (ns.getD i 0)
 obtain ⟨Y,hY⟩:=exH (ns.getD j 0)
 obtain ⟨m,hm⟩:=exH ns.length
 have HB : Hid (decide (X < Y) = b):=by
  show _ = _
  rw [<- hb]
  exact decide_eq_decide.2 (by unfold G; rw [hX.out,hY.out])
 rw [hX.out] at c0
 rw [hY.out] at d0
 rw [hm.out] at hi hj hcap ch
 clear hb
 obtain ⟨fb,ft,fpre,fpost⟩:=F
 simp only [fp] at ch ⊢
 obtain ⟨o,ho⟩:=exH fpre.length
 rw [ho.out] at ch ⊢
 clear hc H
 unfold maxLen at hmax
 go_enter Tryz.func214,Tryz.ntmps214
 go_wp2_with fail
 go_quiet (fail)
 go_wp2_with fail
 go_ret
 exact ⟨by have:=HB.out; subst this; rfl,HH.out.still ⟨rfl,rfl,rfl,zn6 _,fun _ _ _ => rfl⟩,⟨rfl,rfl,rfl,zn6 _,fun _ _ _ => rfl⟩⟩
theorem Fr.swapped {w w' : World} {F : Fb} {g m cap q m2 cap2 L : Nat} {ns ps : List Int} {i j X Y : Nat} (H : Fr w F (.slice (some ⟨g,0,none⟩) m cap) (.slice (some ⟨q,0,none⟩) m2 cap2) L ns)
  (hpo : OwnsI w (.slice (some ⟨q,0,none⟩) m2 cap2) ps) (hpl : ps.length = L) (hpp : Pls ns ps) (hi : i < ns.length) (hj : j < ns.length) (hX : G ns i = X) (hY : G ns j = Y)
  (he : w'.heap = ((((w.setCell ⟨g,i,none⟩ (.int .i64 Y)).setCell ⟨g,j,none⟩ (.int .i64 X)).setCell ⟨q,Y,none⟩ (.int .i64 i)).setCell ⟨q,X,none⟩ (.int .i64 j)).heap) (ho : w'.os = w.os) (ht : w'.tape = w.tape) (hu : w'.output = w.output) :
  Fr w' F (.slice (some ⟨g,0,none⟩) m cap) (.slice (some ⟨q,0,none⟩) m2 cap2) L (swp ns i j) /\ Tch (fun k => (Value.slice (some ⟨g,0,none⟩) m cap).ownBlock = some k ∨ (Value.slice (some ⟨q,0,none⟩) m2 cap2).ownBlock = some k) w w':=by
 have gb : g ≠ F.b:=H.ne rfl
 have qb : q ≠ F.b:=H.neu rfl
 have gq : g ≠ q:=fun e => H.ap g rfl (by rw [e]; rfl)
 have T1 : Tch (fun k => k = g) w ((w.setCell ⟨g,i,none⟩ (.int .i64 Y)).setCell ⟨g,j,none⟩ (.int .i64 X)):=Tch.setCell (Tch.setCell (Tch.refl (fun k => k = g) w) (p:=⟨g,i,none⟩) (fun _ => rfl) _) (p:=⟨g,j,none⟩) (fun _ => rfl) _
 have O1 : OwnsI ((w.setCell ⟨g,i,none⟩ (.int .i64 Y)).setCell ⟨g,j,none⟩ (.int .i64 X)) (.slice (some ⟨g,0,none⟩) m cap) (swp ns i j):=by unfold swp; rw [hX,hY]; exact (H.own.set i Y).set j X
 have P1:=hpo.tch T1 (fun k hk e => gq (by cases hk; exact e.symm))
 generalize hW : (w.setCell ⟨g,i,none⟩ (.int .i64 Y)).setCell ⟨g,j,none⟩ (.int .i64 X) = W at *
 have T2 : Tch (fun k => k = q) W ((W.setCell ⟨q,Y,none⟩ (.int .i64 i)).setCell ⟨q,X,none⟩ (.int .i64 j)):=Tch.setCell (Tch.setCell (Tch.refl (fun k => k = q) W) (p:=⟨q,Y,none⟩) (fun _ => rfl) _) (p:=⟨q,X,none⟩) (fun _ => rfl) _
 have P2 : OwnsI ((W.setCell ⟨q,Y,none⟩ (.int .i64 i)).setCell ⟨q,X,none⟩ (.int .i64 j)) (.slice (some ⟨q,0,none⟩) m2 cap2) ((ps.set Y i).set X j):=(P1.set Y i).set X j
 have O2:=O1.tch T2 (fun k hk e => gq (by cases hk; exact e))
 have T : Tch (fun k => (Value.slice (some ⟨g,0,none⟩) m cap).ownBlock = some k ∨ (Value.slice (some ⟨q,0,none⟩) m2 cap2).ownBlock = some k) w ((W.setCell ⟨q,Y,none⟩ (.int .i64 i)).setCell ⟨q,X,none⟩ (.int .i64 j)):=
  (T1.mono (fun k _ e => .inl (by rw [e]; rfl))).trans T2 (fun k _ e => .inr (by rw [e]; rfl))
 have T' : Tch (fun k => (Value.slice (some ⟨g,0,none⟩) m cap).ownBlock = some k ∨ (Value.slice (some ⟨q,0,none⟩) m2 cap2).ownBlock = some k) w w':=
  ⟨ho,ht,hu,by rw [he]; exact T.size,fun k hk hn => by rw [he]; exact T.block k hk hn⟩
 have Z : Tch (fun _ => False) ((W.setCell ⟨q,Y,none⟩ (.int .i64 i)).setCell ⟨q,X,none⟩ (.int .i64 j)) w':=⟨by rw [ho]; exact T.os.symm,by rw [ht]; exact T.tape.symm,by rw [hu]; exact T.output.symm,by rw [he]; exact zn6 _,fun k _ _ => by rw [he]⟩
 refine ⟨⟨?_,H.ht,O2.tch Z (fun _ _ e => e),⟨_,by simpa using hpl,P2.tch Z (fun _ _ e => e),?_⟩,H.ap⟩,T'⟩
 ·rw [T'.block F.b H.lt (fun e => by rcases e with e | e <;> simp only [Value.ownBlock,Option.some.injEq] at e <;> omega)]
  exact H.blk
 ·have:=hpp.swap hi hj
  rw [hX,hY] at this
  exact this
theorem zbt9 (F : Fb) (v u : Value) (L : Nat) (ns : List Int) (i j : Nat) (x y : Int) (w : World) (H : Fr w F v u L ns) (hi : i < ns.length) (hj : j < ns.length) (hx : x = i) (hy : y = j) :
  Calls Tryz.prog 217 #[fp F,.int .i64 x,.int .i64 y] w fun e w' => e = .returned (.tuple #[]) /\ Fr w' F v u L (swp ns i j) /\ Tch (fun k => v.ownBlock = some k ∨ u.ownBlock = some k) w w':=by
 subst hx; subst hy
 have HH : Hid (Fr w F v u L ns):=H
 obtain ⟨ps,hpl,hpo,hpp⟩:=H.pls
 obtain ⟨i0,i1,i2⟩:=hpp i hi
 obtain ⟨j0,j1,j2⟩:=hpp j hj
 have HPO : Hid (OwnsI w u ps):=hpo
 have HPP : Hid (Pls ns ps):=hpp
 obtain ⟨g,cap,rfl,hg,hcap,hmax,hc,fz⟩:=H.own.shape (by omega)
 obtain ⟨q,cap2,rfl,hq,hcap2,hmax2,hc2,fz2⟩:=hpo.shape (by omega)
 have c0:=hc i hi
 have d0:=hc j hj
 have ch:=H.c0
 have ch1:=H.c1
 have gb : g ≠ F.b:=H.ne rfl
 have qb : q ≠ F.b:=H.neu rfl
 have gq : g ≠ q:=fun e => H.ap g rfl (by rw [e]; rfl)
 obtain ⟨X,hX⟩ : ∃ X : Nat,Hid ((ns.getD i 0).toNat = X):=⟨_,rfl⟩
 obtain ⟨Y,hY⟩ : ∃ Y : Nat,Hid ((ns.getD j 0).toNat = Y):=⟨_,rfl⟩
 have hX' : ns.getD i 0 = (X : Int):=by have:=hX.out; have : (0 : Int) <= ns.getD i 0:=i0; omega
 have hY' : ns.getD j 0 = (Y : Int):=by have:=hY.out; have : (0 : Int) <= ns.getD j 0:=j0; omega
 have hXl : X < ps.length:=by rw [<- hX.out]; exact i1
 have hYl : Y < ps.length:=by rw [<- hY.out]; exact j1
 have cX:=hc2 X hXl
 have cY:=hc2 Y hYl
 obtain ⟨x0,hx0⟩:=exH (ps.getD X 0)
 obtain ⟨y0,hy0⟩:=exH (ps.getD Y 0)
 rw [hx0.out] at cX
 rw [hy0.out] at cY
 have fi:=fz i
 have fj:=fz j
 have fX:=fz2 X
 have fY:=fz2 Y
 rw [hX'] at c0
 rw [hY'] at d0
 have HX : Hid (G ns i = X):=hX'
 have HY : Hid (G ns j = Y):=hY'
 obtain ⟨m,hm⟩:=exH ns.length
 obtain ⟨m2,hm2⟩:=exH ps.length
 have hi':=hi
 have hj':=hj
 rw [hm.out] at hi' hj' hcap ch
 rw [hm2.out] at hXl hYl hcap2 ch1
 have HI : Hid (i < ns.length /\ j < ns.length):=⟨hi,hj⟩
 have HL : Hid (ps.length = L):=hpl
 obtain ⟨fb,ft,fpre,fpost⟩:=F
 simp only [fp] at ch ch1 gb qb ⊢
 obtain ⟨o,ho⟩:=exH fpre.length
 rw [ho.out] at ch ch1 ⊢
 unfold maxLen at hmax hmax2
 clear hc hc2 fz fz2 H hpp hpo hX' hY' i0 i1 i2 j0 j1 j2 hX hY hi hj hpl
 by_cases hij : i = j
 ·subst hij
  have e : Y = X:=by have:=HX.out.symm.trans HY.out; omega
  subst e
  clear hj' d0 fj fX hXl cX
  go_enter Tryz.func217,Tryz.ntmps217
  go_wp2_with fail
  go_quiet (fail)
  go_wp2_with fail
  go_region
  go_wp2_with fail
  go_region
  go_wp2_with fail
  go_end0
  exact ⟨rfl,HH.out.swapped HPO.out HL.out HPP.out HI.out.1 HI.out.2 HX.out HY.out rfl rfl rfl rfl⟩
 ·have hXY : X ≠ Y:=fun e => hij (HPP.out.inj HI.out.1 HI.out.2 (by rw [HX.out,HY.out,e]))
  go_enter Tryz.func217,Tryz.ntmps217
  go_wp2_with fail
  go_quiet (fail)
  go_wp2_with fail
  go_region
  go_wp2_with fail
  go_region
  go_wp2_with fail
  go_end0
  exact ⟨rfl,HH.out.swapped HPO.out HL.out HPP.out HI.out.1 HI.out.2 HX.out HY.out rfl rfl rfl rfl⟩
abbrev hv (F : Fb) : Value:=.iface 151 (fp F)
theorem zkv9 (a : Addr) (w : World) : (method 379 151 (.pointer (some a)) "Len").run Tryz.prog w = .ok (50,.pointer (some a)) w:=by kernel_rfl
theorem zac9 (a : Addr) (w : World) : (method 379 151 (.pointer (some a)) "Less").run Tryz.prog w = .ok (214,.pointer (some a)) w:=by kernel_rfl
theorem zbw9 (a : Addr) (w : World) : (method 379 151 (.pointer (some a)) "Swap").run Tryz.prog w = .ok (217,.pointer (some a)) w:=by kernel_rfl
theorem zqu9 (a : Addr) (w : World) : (method 379 151 (.pointer (some a)) "Pop").run Tryz.prog w = .ok (215,.pointer (some a)) w:=by kernel_rfl
theorem zng9 (a : Addr) (w : World) : (method 379 151 (.pointer (some a)) "Push").run Tryz.prog w = .ok (216,.pointer (some a)) w:=by kernel_rfl
def DnR (e : Ending) (qs : List Int) (n i0 : Nat) : Prop:=(e = .returned (.bool true) /\ Heap qs n) ∨ (e = .returned (.bool false) /\ Ux qs n i0)
theorem dnR_of {ps qs : List Int} {n i0 k : Nat} {b : Bool} (h : Dn ps qs n i0 k) (hc : ∀ c,Ch k c -> c < n -> G qs k <= G qs c) (hb : b = decide (i0 < k)) : DnR (.returned (.bool b)) qs n i0:=by
 obtain ⟨h1,h2⟩:=h.stop hc
 subst hb
 by_cases e : i0 < k
 ·left; exact ⟨by simp [e],h1 e⟩
 ·right; exact ⟨by simp [e],h2 e⟩
theorem Ah.lt_of_dec {a b : Int} (h : decide (a < b) = true) : a < b:=of_decide_eq_true h
theorem Ah.le_of_dec {a b : Int} (h : decide (a < b) = false) : b <= a:=by have:=of_decide_eq_false h; omega
theorem zpu9 (F : Fb) (v u : Value) (L : Nat) (ps : List Int) (i0 n : Nat) (w : World) (H : Fr w F v u L ps) (hn : n <= ps.length) (hl : ps.length <= 100000) (hi : i0 <= n) (hh : Hx ps n i0) :
  Calls Tryz.prog 119 #[hv F,.int .i64 i0,.int .i64 n] w fun e w' => ∃ qs,DnR e qs n i0 /\ Fr w' F v u L qs /\ qs.Perm ps /\ (∀ k,n <= k -> G qs k = G ps k) /\ Tch (fun k => v.ownBlock = some k ∨ u.ownBlock = some k) w w':=by
 have HH : Hid (Fr w F v u L ps):=H
 have HD : Hid (Dn ps ps n i0 i0):=Dn.start hh hn
 clear H hh
 go_enter Tryz.func119,Tryz.ntmps119
 go_wp2_with fail
 go_loopw [7] (fun i wr => ∃ (k : Nat) (qs : List Int),k <= n /\ i0 <= k /\ i = .int .i64 k /\ Hid (Fr wr F v u L qs) /\ Hid (Dn ps qs n i0 k) /\ Hid (Tch (fun k => v.ownBlock = some k ∨ u.ownBlock = some k) w wr)) (fun i _ => n - (intOf i).toNat)
 case atStart => exact ⟨i0,ps,hi,zn6 _,rfl,HH,HD,Tch.refl _ _⟩
 case round =>
  obtain ⟨k,qs,hk,hk0,rfl,HP,HD2,HT⟩:=hrel
  clear HH HD
  have hql : qs.length = ps.length:=HD2.out.perm.length_eq
  have HQL : Hid (qs.length = ps.length):=hql
  clear hql
  by_cases h1 : 2 * k + 1 < n
  ·by_cases h2 : 2 * k + 2 < n
   ·cases hb1 : decide (G qs (2 * k + 2) < G qs (2 * k + 1)) with
    | false =>
     have HB1 : Hid (decide (G qs (2 * k + 2) < G qs (2 * k + 1)) = false):=hb1
     clear hb1
     have HM : Hid (∀ c,Ch k c -> c < n -> G qs (2 * k + 1) <= G qs c):=fun c hc hcn => by rcases hc with rfl | rfl; (· exact Int.le_refl _); (· exact Ah.le_of_dec HB1.out)
     have hm:=zac9 ⟨F.b,F.pre.length,none⟩ wr
     go_wp2_with fail
     refine (zab9 F v u L qs (2 * k + 2) (2 * k + 1) _ _ false wr HP.out (by rw [HQL.out]; omega) (by rw [HQL.out]; omega) (by omega) (by omega) HB1.out).mono ?_
     rintro e w1 ⟨rfl,hp,ht⟩
     have HP1 : Hid (Fr w1 F v u L qs):=hp
     have HT1 : Hid (Tch (fun k => v.ownBlock = some k ∨ u.ownBlock = some k) w w1):=HT.out.trans (S':=fun _ => False) ht (fun _ _ e => e.elim)
     clear hp ht hm HP HT
     cases hb2 : decide (G qs (2 * k + 1) < G qs k) with
     | false =>
      have HB2 : Hid (decide (G qs (2 * k + 1) < G qs k) = false):=hb2
      clear hb2
      have hm:=zac9 ⟨F.b,F.pre.length,none⟩ w1
      go_wp2_with fail
      refine (zab9 F v u L qs (2 * k + 1) (k) _ _ false w1 HP1.out (by rw [HQL.out]; omega) (by rw [HQL.out]; omega) (by omega) (by omega) HB2.out).mono ?_
      rintro e w2 ⟨rfl,hp,ht⟩
      have HP2 : Hid (Fr w2 F v u L qs):=hp
      have HT2 : Hid (Tch (fun k => v.ownBlock = some k ∨ u.ownBlock = some k) w w2):=HT1.out.trans (S':=fun _ => False) ht (fun _ _ e => e.elim)
      clear hp ht hm HP1 HT1
      have HF : Hid (∀ c,Ch k c -> c < n -> G qs k <= G qs c):=fun c hc hcn => Int.le_trans (Ah.le_of_dec HB2.out) (HM.out c hc hcn)
      go_wp2_with fail
      go_ret
      exact ⟨qs,dnR_of HD2.out HF.out (by simp),HP2.out,HD2.out.perm,HD2.out.rest,HT2.out⟩
     | true =>
      have HB2 : Hid (decide (G qs (2 * k + 1) < G qs k) = true):=hb2
      clear hb2
      have hm:=zac9 ⟨F.b,F.pre.length,none⟩ w1
      go_wp2_with fail
      refine (zab9 F v u L qs (2 * k + 1) (k) _ _ true w1 HP1.out (by rw [HQL.out]; omega) (by rw [HQL.out]; omega) (by omega) (by omega) HB2.out).mono ?_
      rintro e w2 ⟨rfl,hp,ht⟩
      have HP2 : Hid (Fr w2 F v u L qs):=hp
      have HT2 : Hid (Tch (fun k => v.ownBlock = some k ∨ u.ownBlock = some k) w w2):=HT1.out.trans (S':=fun _ => False) ht (fun _ _ e => e.elim)
      clear hp ht hm HP1 HT1
      have hm:=zbw9 ⟨F.b,F.pre.length,none⟩ w2
      go_wp2_with fail
      refine (zbt9 F v u L qs k (2 * k + 1) _ _ w2 HP2.out (by rw [HQL.out]; omega) (by rw [HQL.out]; omega) (by omega) (by omega)).mono ?_
      rintro e w3 ⟨rfl,hp3,ht3⟩
      have HP3 : Hid (Fr w3 F v u L (swp qs k (2 * k + 1))):=hp3
      have HT3 : Hid (Tch (fun k => v.ownBlock = some k ∨ u.ownBlock = some k) w w3):=HT2.out.trans ht3 (fun _ _ e => e)
      have HD3 : Hid (Dn ps (swp qs k (2 * k + 1)) n i0 (2 * k + 1)):=HD2.out.sink (by unfold Ch; omega) (by omega) HM.out (Ah.lt_of_dec HB2.out)
      clear hp3 ht3 hm HP2 HT2 HD2
      go_wp2_with fail
      go_roundw
      case rel => exact ⟨2 * k + 1,swp qs k (2 * k + 1),by omega,by omega,by go_num,HP3,HD3,HT3⟩
      case measure => simp [intOf]; omega
    | true =>
     have HB1 : Hid (decide (G qs (2 * k + 2) < G qs (2 * k + 1)) = true):=hb1
     clear hb1
     have HM : Hid (∀ c,Ch k c -> c < n -> G qs (2 * k + 2) <= G qs c):=fun c hc hcn => by rcases hc with rfl | rfl; (· exact Int.le_of_lt (Ah.lt_of_dec HB1.out)); (· exact Int.le_refl _)
     have hm:=zac9 ⟨F.b,F.pre.length,none⟩ wr
     go_wp2_with fail
     refine (zab9 F v u L qs (2 * k + 2) (2 * k + 1) _ _ true wr HP.out (by rw [HQL.out]; omega) (by rw [HQL.out]; omega) (by omega) (by omega) HB1.out).mono ?_
     rintro e w1 ⟨rfl,hp,ht⟩
     have HP1 : Hid (Fr w1 F v u L qs):=hp
     have HT1 : Hid (Tch (fun k => v.ownBlock = some k ∨ u.ownBlock = some k) w w1):=HT.out.trans (S':=fun _ => False) ht (fun _ _ e => e.elim)
     clear hp ht hm HP HT
     cases hb2 : decide (G qs (2 * k + 2) < G qs k) with
     | false =>
      have HB2 : Hid (decide (G qs (2 * k + 2) < G qs k) = false):=hb2
      clear hb2
      have hm:=zac9 ⟨F.b,F.pre.length,none⟩ w1
      go_wp2_with fail
      refine (zab9 F v u L qs (2 * k + 2) (k) _ _ false w1 HP1.out (by rw [HQL.out]; omega) (by rw [HQL.out]; omega) (by omega) (by omega) HB2.out).mono ?_
      rintro e w2 ⟨rfl,hp,ht⟩
      have HP2 : Hid (Fr w2 F v u L qs):=hp
      have HT2 : Hid (Tch (fun k => v.ownBlock = some k ∨ u.ownBlock = some k) w w2):=HT1.out.trans (S':=fun _ => False) ht (fun _ _ e => e.elim)
      clear hp ht hm HP1 HT1
      have HF : Hid (∀ c,Ch k c -> c < n -> G qs k <= G qs c):=fun c hc hcn => Int.le_trans (Ah.le_of_dec HB2.out) (HM.out c hc hcn)
      go_wp2_with fail
      go_ret
      exact ⟨qs,dnR_of HD2.out HF.out (by simp),HP2.out,HD2.out.perm,HD2.out.rest,HT2.out⟩
     | true =>
      have HB2 : Hid (decide (G qs (2 * k + 2) < G qs k) = true):=hb2
      clear hb2
      have hm:=zac9 ⟨F.b,F.pre.length,none⟩ w1
      go_wp2_with fail
      refine (zab9 F v u L qs (2 * k + 2) (k) _ _ true w1 HP1.out (by rw [HQL.out]; omega) (by rw [HQL.out]; omega) (by omega) (by omega) HB2.out).mono ?_
      rintro e w2 ⟨rfl,hp,ht⟩
      have HP2 : Hid (Fr w2 F v u L qs):=hp
      have HT2 : Hid (Tch (fun k => v.ownBlock = some k ∨ u.ownBlock = some k) w w2):=HT1.out.trans (S':=fun _ => False) ht (fun _ _ e => e.elim)
      clear hp ht hm HP1 HT1
      have hm:=zbw9 ⟨F.b,F.pre.length,none⟩ w2
      go_wp2_with fail
      refine (zbt9 F v u L qs k (2 * k + 2) _ _ w2 HP2.out (by rw [HQL.out]; omega) (by rw [HQL.out]; omega) (by omega) (by omega)).mono ?_
      rintro e w3 ⟨rfl,hp3,ht3⟩
      have HP3 : Hid (Fr w3 F v u L (swp qs k (2 * k + 2))):=hp3
      have HT3 : Hid (Tch (fun k => v.ownBlock = some k ∨ u.ownBlock = some k) w w3):=HT2.out.trans ht3 (fun _ _ e => e)
      have HD3 : Hid (Dn ps (swp qs k (2 * k + 2)) n i0 (2 * k + 2)):=HD2.out.sink (by unfold Ch; omega) (by omega) HM.out (Ah.lt_of_dec HB2.out)
      clear hp3 ht3 hm HP2 HT2 HD2
      go_wp2_with fail
      go_roundw
      case rel => exact ⟨2 * k + 2,swp qs k (2 * k + 2),by omega,by omega,by go_num,HP3,HD3,HT3⟩
      case measure => simp [intOf]; omega
   ·have HM : Hid (∀ c,Ch k c -> c < n -> G qs (2 * k + 1) <= G qs c):=fun c hc hcn => by rcases hc with rfl | rfl; (· exact Int.le_refl _); (· omega)
    cases hb2 : decide (G qs (2 * k + 1) < G qs k) with
    | false =>
     have HB2 : Hid (decide (G qs (2 * k + 1) < G qs k) = false):=hb2
     clear hb2
     have hm:=zac9 ⟨F.b,F.pre.length,none⟩ wr
     go_wp2_with fail
     refine (zab9 F v u L qs (2 * k + 1) (k) _ _ false wr HP.out (by rw [HQL.out]; omega) (by rw [HQL.out]; omega) (by omega) (by omega) HB2.out).mono ?_
     rintro e w2 ⟨rfl,hp,ht⟩
     have HP2 : Hid (Fr w2 F v u L qs):=hp
     have HT2 : Hid (Tch (fun k => v.ownBlock = some k ∨ u.ownBlock = some k) w w2):=HT.out.trans (S':=fun _ => False) ht (fun _ _ e => e.elim)
     clear hp ht hm HP HT
     have HF : Hid (∀ c,Ch k c -> c < n -> G qs k <= G qs c):=fun c hc hcn => Int.le_trans (Ah.le_of_dec HB2.out) (HM.out c hc hcn)
     go_wp2_with fail
     go_ret
     exact ⟨qs,dnR_of HD2.out HF.out (by simp),HP2.out,HD2.out.perm,HD2.out.rest,HT2.out⟩
    | true =>
     have HB2 : Hid (decide (G qs (2 * k + 1) < G qs k) = true):=hb2
     clear hb2
     have hm:=zac9 ⟨F.b,F.pre.length,none⟩ wr
     go_wp2_with fail
     refine (zab9 F v u L qs (2 * k + 1) (k) _ _ true wr HP.out (by rw [HQL.out]; omega) (by rw [HQL.out]; omega) (by omega) (by omega) HB2.out).mono ?_
     rintro e w2 ⟨rfl,hp,ht⟩
     have HP2 : Hid (Fr w2 F v u L qs):=hp
     have HT2 : Hid (Tch (fun k => v.ownBlock = some k ∨ u.ownBlock = some k) w w2):=HT.out.trans (S':=fun _ => False) ht (fun _ _ e => e.elim)
     clear hp ht hm HP HT
     have hm:=zbw9 ⟨F.b,F.pre.length,none⟩ w2
     go_wp2_with fail
     refine (zbt9 F v u L qs k (2 * k + 1) _ _ w2 HP2.out (by rw [HQL.out]; omega) (by rw [HQL.out]; omega) (by omega) (by omega)).mono ?_
     rintro e w3 ⟨rfl,hp3,ht3⟩
     have HP3 : Hid (Fr w3 F v u L (swp qs k (2 * k + 1))):=hp3
     have HT3 : Hid (Tch (fun k => v.ownBlock = some k ∨ u.ownBlock = some k) w w3):=HT2.out.trans ht3 (fun _ _ e => e)
     have HD3 : Hid (Dn ps (swp qs k (2 * k + 1)) n i0 (2 * k + 1)):=HD2.out.sink (by unfold Ch; omega) (by omega) HM.out (Ah.lt_of_dec HB2.out)
     clear hp3 ht3 hm HP2 HT2 HD2
     go_wp2_with fail
     go_roundw
     case rel => exact ⟨2 * k + 1,swp qs k (2 * k + 1),by omega,by omega,by go_num,HP3,HD3,HT3⟩
     case measure => simp [intOf]; omega
  ·have HF : Hid (∀ c,Ch k c -> c < n -> G qs k <= G qs c):=fun c hc hcn => by unfold Ch at hc; omega
   go_wp2_with fail
   go_ret
   exact ⟨qs,dnR_of HD2.out HF.out (by simp),HP.out,HD2.out.perm,HD2.out.rest,HT.out⟩
theorem up_any (F : Fb) (v u : Value) (L : Nat) (ps : List Int) (n j0 : Nat) (w : World) (H : Fr w F v u L ps) (hl : ps.length <= 100000) (hh : Up ps ps n j0) :
  Calls Tryz.prog 120 #[hv F,.int .i64 j0] w fun e w' => e = .returned (.tuple #[]) /\ ∃ qs,Fr w' F v u L qs /\ qs.Perm ps /\ (∀ k,n <= k -> G qs k = G ps k) /\ Heap qs n /\ Tch (fun k => v.ownBlock = some k ∨ u.ownBlock = some k) w w':=by
 have HH : Hid (Fr w F v u L ps):=H
 have HD : Hid (Up ps ps n j0):=hh
 have hj0 : j0 <= n:=by rcases hh.jn with e | e <;> omega
 have hnl:=hh.nl
 clear H hh
 go_enter Tryz.func120,Tryz.ntmps120
 go_wp2_with fail
 go_loopw [1] (fun i wr => ∃ (k : Nat) (qs : List Int),k <= n /\ i = .int .i64 k /\ Hid (Fr wr F v u L qs) /\ Hid (Up ps qs n k) /\ Hid (Tch (fun k => v.ownBlock = some k ∨ u.ownBlock = some k) w wr)) (fun i _ => (intOf i).toNat)
 case atStart => exact ⟨j0,ps,hj0,rfl,HH,HD,Tch.refl _ _⟩
 case round =>
  obtain ⟨k,qs,hk,rfl,HP,HU,HT⟩:=hrel
  clear HH HD
  have HQL : Hid (qs.length = ps.length):=HU.out.perm.length_eq
  by_cases h0 : k = 0
  ·subst h0
   have HF : Hid (Heap qs n):=HU.out.top
   go_wp2_with fail
   go_end0
   exact ⟨rfl,qs,HP.out,HU.out.perm,HU.out.rest,HF.out,HT.out⟩
  ·have hkn : k < n:=by rcases HU.out.jn with e | e <;> omega
   obtain ⟨p,hp,hpe⟩ : ∃ p : Nat,Ch p k /\ ((k : Int) - 1).tdiv 2 = p:=⟨(k - 1) / 2,by unfold Ch; omega,by rw [show ((k : Int) - 1) = ((k - 1 : Nat) : Int) by omega]; exact (Int.ofNat_tdiv _ _).symm⟩
   have HC : Hid (Ch p k):=hp
   have hpk : p < k:=by unfold Ch at hp; omega
   have hne : ((p : Int) == (k : Int)) = false:=by simp; omega
   clear hp
   cases hb : decide (G qs k < G qs p) with
   | false =>
    have HB : Hid (decide (G qs k < G qs p) = false):=hb
    clear hb
    have hm:=zac9 ⟨F.b,F.pre.length,none⟩ wr
    go_wp2_with fail
    refine (zab9 F v u L qs k p _ _ false wr HP.out (by rw [HQL.out]; omega) (by rw [HQL.out]; omega) (by omega) (by omega) HB.out).mono ?_
    rintro e w2 ⟨rfl,hp2,ht2⟩
    have HP2 : Hid (Fr w2 F v u L qs):=hp2
    have HT2 : Hid (Tch (fun k => v.ownBlock = some k ∨ u.ownBlock = some k) w w2):=HT.out.trans (S':=fun _ => False) ht2 (fun _ _ e => e.elim)
    clear hp2 ht2 hm HP HT
    have HF : Hid (Heap qs n):=HU.out.stop HC.out (of_decide_eq_false HB.out)
    go_wp2_with fail
    go_end0
    exact ⟨rfl,qs,HP2.out,HU.out.perm,HU.out.rest,HF.out,HT2.out⟩
   | true =>
    have HB : Hid (decide (G qs k < G qs p) = true):=hb
    clear hb
    have hm:=zac9 ⟨F.b,F.pre.length,none⟩ wr
    go_wp2_with fail
    refine (zab9 F v u L qs k p _ _ true wr HP.out (by rw [HQL.out]; omega) (by rw [HQL.out]; omega) (by omega) (by omega) HB.out).mono ?_
    rintro e w2 ⟨rfl,hp2,ht2⟩
    have HP2 : Hid (Fr w2 F v u L qs):=hp2
    have HT2 : Hid (Tch (fun k => v.ownBlock = some k ∨ u.ownBlock = some k) w w2):=HT.out.trans (S':=fun _ => False) ht2 (fun _ _ e => e.elim)
    clear hp2 ht2 hm HP HT
    have hm:=zbw9 ⟨F.b,F.pre.length,none⟩ w2
    go_wp2_with fail
    refine (zbt9 F v u L qs p k _ _ w2 HP2.out (by rw [HQL.out]; omega) (by rw [HQL.out]; omega) (by omega) (by omega)).mono ?_
    rintro e w3 ⟨rfl,hp3,ht3⟩
    have HP3 : Hid (Fr w3 F v u L (swp qs p k)):=hp3
    have HT3 : Hid (Tch (fun k => v.ownBlock = some k ∨ u.ownBlock = some k) w w3):=HT2.out.trans ht3 (fun _ _ e => e)
    have HD3 : Hid (Up ps (swp qs p k) n p):=HU.out.rise HC.out (of_decide_eq_true HB.out)
    clear hp3 ht3 hm HP2 HT2 HU
    go_wp2_with fail
    go_roundw
    case rel => exact ⟨p,swp qs p k,by omega,by first | rfl | go_num,HP3,HD3,HT3⟩
    case measure => simp [intOf]; omega
theorem ztq9 (pre post : List Value) (v u x : Value) : ((pre ++ v :: u :: post).toArray).setIfInBounds pre.length x = (pre ++ x :: u :: post).toArray:=by
 simp
theorem Fr.put {w : World} {F : Fb} {v v' u : Value} {L : Nat} {ns ns' ps : List Int} (hb : w.heap[F.b]? = some (.cells (F.pre ++ v :: u :: F.post).toArray F.t (0,0))) (ht : F.t ≠ 3)
  (ho : OwnsI w v' ns') (hl : ps.length = L) (hp : OwnsI w u ps) (hpp : Pls ns' ps) (ap : ∀ k,v'.ownBlock = some k -> u.ownBlock ≠ some k) : Fr (w.setCell ⟨F.b,F.pre.length,none⟩ v') F v' u L ns':=by
 have T : Tch (fun k => k = F.b) w (w.setCell ⟨F.b,F.pre.length,none⟩ v'):=Tch.setCell (Tch.refl (fun k => k = F.b) w) (p:=⟨F.b,F.pre.length,none⟩) (fun _ => rfl) _
 refine ⟨?_,ht,ho.tch T (fun k hk e => zav9 ho hb ht hk e),⟨ps,hl,hp.tch T (fun k hk e => zav9 hp hb ht hk e),hpp⟩,ap⟩
 rw [heap_setCell_same w F.b F.pre.length _ _ _ hb,ztq9]
theorem zmm9 (F : Fb) (v u : Value) (L : Nat) (ns : List Int) (n : Nat) (w : World) (H : Fr w F v u L ns) (hn : n < L) (hm : (n : Int) ∉ ns) (hl : ns.length <= 100000) :
  Calls Tryz.prog 216 #[fp F,.iface 3 (.int .i64 n)] w fun e w' => e = .returned (.tuple #[]) ∧
   ∃ v',Fr w' F v' u L (ns ++ [(n : Int)]) /\ (∀ k,v'.ownBlock = some k -> v.ownBlock = some k ∨ w.heap.size <= k) /\ Tch (Fs F v u) w w':=by
 have HH : Hid (Fr w F v u L ns):=H
 obtain ⟨ps,hpl,hpo,hpp⟩:=H.pls
 subst hpl
 have HPO : Hid (OwnsI w u ps):=hpo
 have HPP : Hid (Pls (ns ++ [(n : Int)]) (ps.set n ns.length)):=hpp.push hn hm
 obtain ⟨q,cap2,rfl,hq,hcap2,hmax2,hc2,fz2⟩:=hpo.shape (by omega)
 obtain ⟨a,cap,rfl⟩:=H.len
 have cX:=hc2 n hn
 obtain ⟨x0,hx0⟩:=exH (ps.getD n 0)
 rw [hx0.out] at cX
 have fX:=fz2 n
 have ch:=H.c0
 have ch1:=H.c1
 have fo:=H.fz F.pre.length
 have qb : q ≠ F.b:=H.neu rfl
 have hlt:=H.lt
 obtain ⟨m,hm'⟩ : ∃ m,Hid (ns.length = m):=⟨_,rfl⟩
 obtain ⟨m2,hm2⟩:=exH ps.length
 have ta : ∀ (w : World) (x : Int),(Instr.typeAssert (.iface 3 (.int .i64 x)) 20 3 false).run Tryz.prog w = .ok (.int .i64 x) w:=fun _ _ => by kernel_rfl
 have hn2:=hn
 rw [hm'.out] at ch hl
 rw [hm2.out] at ch1 hcap2 hn2
 have HN : Hid (n < ps.length):=hn
 obtain ⟨fb,ft,fpre,fpost⟩:=F
 simp only [fp] at ch ch1 fo qb hlt ⊢
 obtain ⟨o,ho⟩:=exH fpre.length
 rw [ho.out] at ch ch1 fo ⊢
 unfold maxLen at hmax2
 clear hc2 fz2 H hpp hpo hn hm
 go_enter Tryz.func216,Tryz.ntmps216
 go_wp2_with fail
 go_region
 obtain ⟨W1,HW1⟩:=exH ((w.setCell ⟨q,n,none⟩ (.int .i64 m)).drew)
 rw [HW1.out]
 have T1 : Hid (Tch (fun k => k = q) w W1):=by
  rw [<- HW1.out]
  exact Tch.drew (Tch.setCell (Tch.refl (fun k => k = q) w) (p:=⟨q,n,none⟩) (fun _ => rfl) _)
 have P1 : Hid (OwnsI W1 (.slice (some ⟨q,0,none⟩) m2 cap2) (ps.set n m)):=by
  rw [<- HW1.out]
  have:=HPO.out.set n m
  rw [hm2.out] at this
  exact this
 have O1 : Hid (OwnsI W1 (.slice a m cap) ns):=by
  have:=HH.out.own.tch T1.out (fun k hk e => HH.out.ap k hk (by rw [e]; rfl))
  rw [hm'.out] at this
  exact this
 have B1 : Hid (W1.heap[fb]? = some (.cells (fpre ++ (.slice a m cap) :: (.slice (some ⟨q,0,none⟩) m2 cap2) :: fpost).toArray ft (0,0))):=by
  rw [T1.out.block fb hlt (fun e => qb e.symm)]
  have:=HH.out.blk
  rw [hm'.out,hm2.out] at this
  exact this
 have ch' : W1.cell? ⟨fb,o,none⟩ = some (.slice a m cap):=by rw [T1.out.cell (p:=⟨fb,o,none⟩) hlt (fun e => qb e.symm)]; exact ch
 have fo' : W1.frozen? ⟨fb,o,none⟩ = false:=by rw [T1.out.frozen (p:=⟨fb,o,none⟩) hlt (fun e => qb e.symm)]; exact fo
 have hlt' : fb < W1.heap.size:=zn1 hlt T1.out.size
 have HG : Hid (∀ v' w',OwnsI w' v' (ns ++ [(n : Int)]) -> Grew W1 w' (.slice a m cap) v' -> w'.cell? ⟨fb,o,none⟩ = some (.slice a m cap) /\ w'.frozen? ⟨fb,o,none⟩ = false):=by
  intro v' w' _ hg
  have hne : ¬ (Value.slice a m cap).ownBlock = some fb:=fun e => by
   have:=HH.out.ne (k:=fb) (by rw [hm'.out]; exact e)
   exact this rfl
  exact ⟨by rw [hg.tch.cell (p:=⟨fb,o,none⟩) hlt' hne]; exact ch',by rw [hg.tch.frozen (p:=⟨fb,o,none⟩) hlt' hne]; exact fo'⟩
 clear ch ch1 fo cX fX
 go_wp2_with (at_builtin; refine zeb9 _ rfl (.tmp 22) (.tmp 24) 56 rfl 3 .i64 8 elem64 _ ns rfl O1.out (n : Int) rfl (by rw [hm'.out]; omega) (by rw [hm'.out]; omega) ?_)
 intro v' w' ho' hg'
 obtain ⟨c',f'⟩:=HG.out v' w' ho' hg'
 have OV : Hid (OwnsI w' v' (ns ++ [(n : Int)])):=ho'
 have GV : Hid (Grew W1 w' (.slice a m cap) v'):=hg'
 obtain ⟨a',cap',hv',_⟩:=ho'.rd
 have hlen : (ns ++ [(n : Int)]).length = m + 1:=by simp [hm'.out]
 rw [hlen] at hv'
 subst hv'
 clear ho' hg' ch' fo' hlen
 go_wp2_with fail
 go_end0
 have hne : ¬ (Value.slice a m cap).ownBlock = some fb:=fun e => by
  have:=HH.out.ne (k:=fb) (by rw [hm'.out]; exact e)
  exact this rfl
 have hqv : ¬ (Value.slice a m cap).ownBlock = some q:=fun e => by
  have:=HH.out.ap q (by rw [hm'.out]; exact e)
  exact this rfl
 have B2 : w'.heap[fb]? = some (.cells (fpre ++ (.slice a m cap) :: (.slice (some ⟨q,0,none⟩) m2 cap2) :: fpost).toArray ft (0,0)):=by
  rw [GV.out.tch.block fb hlt' hne]; exact B1.out
 have P2 : OwnsI w' (.slice (some ⟨q,0,none⟩) m2 cap2) (ps.set n ns.length):=by
  rw [hm'.out]
  exact P1.out.tch GV.out.tch (fun k hk e => hqv (by cases hk; exact e))
 have hq1 : q < W1.heap.size:=zn1 hq T1.out.size
 have hfr : ∀ k,(Value.slice a' (m + 1) cap').ownBlock = some k -> (Value.slice a m cap).ownBlock = some k ∨ w.heap.size <= k:=fun k hk => by
  rcases GV.out.fresh k hk with e | e
  ·exact .inl e
  ·exact .inr (zn2 T1.out.size e)
 have hap : ∀ k,(Value.slice a' (m + 1) cap').ownBlock = some k -> (Value.slice (some ⟨q,0,none⟩) m2 cap2).ownBlock ≠ some k:=fun k hk e => by
  cases e
  rcases hfr _ hk with e | e
  ·exact hqv e
  ·exact absurd (show w.heap.size <= q from e) (by omega)
 refine ⟨rfl,.slice a' (m + 1) cap',?_,?_,?_⟩
 ·rw [<- ho.out,hm2.out]
  exact Fr.put (F:=⟨fb,ft,fpre,fpost⟩) (ns:=ns) (v:=.slice a m cap) B2 HH.out.ht OV.out (by simp [hm2.out]) P2 HPP.out hap
 ·rw [hm'.out]
  exact hfr
 ·refine Tch.setCell ((T1.out.mono (fun k _ e => ?_)).trans GV.out.tch (fun k _ e => ?_)) (p:=⟨fb,o,none⟩) (fun _ => .inl rfl) _
  ·exact .inr (.inr (by rw [e]; rfl))
  ·exact .inr (.inl (by rw [hm'.out]; exact e))
theorem Owns.shrink {k : IntKind} {e : TypeId} {w : World} {g m cap : Nat} {xs : List Int} (h : Owns k e w (.slice (some ⟨g,0,none⟩) m cap) xs) (n : Nat) (hn : n <= xs.length) : Owns k e w (.slice (some ⟨g,0,none⟩) n cap) (xs.take n):=by
 have h' : w.ownsRow 0 e 1 (.slice (some ⟨g,0,none⟩) m cap) xs.length (xs.map (Value.int k)):=h
 have hl : (xs.take n).length = n:=by rw [List.length_take]; omega
 unfold Owns
 rw [hl]
 refine ⟨by simp; omega,?_⟩
 rcases h'.2 with ⟨e,_⟩ | ⟨g',cap',cur,e,hb,hg,hnc,hcm,hcs,htake⟩
 ·cases e
 ·simp only [Value.slice.injEq,Option.some.injEq,Addr.mk.injEq,and_true] at e
  obtain ⟨rfl,rfl,rfl⟩:=e
  refine .inr ⟨g,cap,cur,rfl,hb,hg,by omega,hcm,hcs,?_⟩
  rw [List.map_take,<- htake,List.take_take]
  congr 1
  omega
theorem zpw9 (F : Fb) (v u : Value) (L : Nat) (ns : List Int) (n : Nat) (w : World) (H : Fr w F v u L ns) (hn : ns.length = n + 1) :
  Calls Tryz.prog 215 #[fp F] w fun e w' => e = .returned (.iface 3 (.int .i64 (G ns n))) ∧
   ∃ v',Fr w' F v' u L (ns.take n) /\ v'.ownBlock = v.ownBlock /\ Tch (fun k => k = F.b) w w':=by
 have HH : Hid (Fr w F v u L ns):=H
 obtain ⟨g,cap,rfl,hg,hcap,hmax,hc,fz⟩:=H.own.shape (by omega)
 have c0:=hc n (by omega)
 have ch:=H.c0
 have fh:=H.fz F.pre.length
 have gb : g ≠ F.b:=H.ne rfl
 obtain ⟨X,hX⟩:=exH (ns.getD n 0)
 simp only [G]
 rw [hX.out] at c0 ⊢
 have HN : Hid (ns.length = n + 1):=hn
 rw [hn] at ch hcap
 obtain ⟨fb,ft,fpre,fpost⟩:=F
 simp only [fp] at ch fh gb ⊢
 obtain ⟨o,ho⟩:=exH fpre.length
 rw [ho.out] at ch fh ⊢
 unfold maxLen at hmax
 clear hc fz H hn
 go_enter Tryz.func215,Tryz.ntmps215
 go_wp2_with fail
 go_ret
 obtain ⟨ps,hpl,hpo,hpp⟩:=HH.out.pls
 refine ⟨rfl,.slice (some ⟨g,0,none⟩) n cap,?_,rfl,Tch.setCell (Tch.refl (fun k => k = fb) w) (p:=⟨fb,o,none⟩) (fun _ => rfl) _⟩
 rw [<- ho.out]
 exact Fr.put (F:=⟨fb,ft,fpre,fpost⟩) (ns:=ns) (ps:=ps) HH.out.blk HH.out.ht (HH.out.own.shrink n (by rw [HN.out]; omega)) hpl hpo (hpp.take n) (fun k hk => HH.out.ap k hk)
theorem Fs.of {F : Fb} {v u : Value} {k : Nat} (h : v.ownBlock = some k ∨ u.ownBlock = some k) : Fs F v u k:=.inr h
theorem zqf9 (F : Fb) (v u : Value) (L : Nat) (ns : List Int) (n : Nat) (w : World) (H : Fr w F v u L ns) (hn : ns.length = n + 1) (hl : ns.length <= 100000) (hh : Heap ns ns.length) :
  Calls Tryz.prog 180 #[hv F] w fun e w' => e = .returned (.iface 3 (.int .i64 (G ns 0))) ∧
   ∃ v' qs,Fr w' F v' u L qs /\ Heap qs qs.length /\ ns.Perm (G ns 0 :: qs) /\ v'.ownBlock = v.ownBlock /\ Tch (Fs F v u) w w':=by
 have HH : Hid (Fr w F v u L ns):=H
 have HP0 : Hid (Heap ns ns.length):=hh
 obtain ⟨X,HX⟩:=exH (G ns 0)
 rw [HX.out]
 obtain ⟨a,cap,hv⟩:=H.len
 have m0:=zkv9 ⟨F.b,F.pre.length,none⟩ w
 have m1:=zbw9 ⟨F.b,F.pre.length,none⟩ w
 have ch:=H.c0
 rw [hn] at hv
 subst hv
 have HCH : Hid (w.cell? ⟨F.b,F.pre.length,none⟩ = some (.slice a (n + 1) cap)):=ch
 clear H hh ch
 go_enter Tryz.func180,Tryz.ntmps180
 go_wp2_with fail
 refine (zcu9 _ _ a (n + 1) cap w HCH.out).mono ?_
 rintro e w1 ⟨rfl,rfl⟩
 go_wp2_with fail
 refine (zbt9 F _ u L ns 0 n _ _ w1 HH.out (by omega) (by omega) (by omega) (by omega)).mono ?_
 rintro e w2 ⟨rfl,hp2,ht2⟩
 have HP2 : Hid (Fr w2 F (.slice a (n + 1) cap) u L (swp ns 0 n)):=hp2
 have HT2 : Hid (Tch (fun k => (Value.slice a (n + 1) cap).ownBlock = some k ∨ u.ownBlock = some k) w1 w2):=ht2
 have HF : Hid (Hx (swp ns 0 n) n 0):=Hx.swap HP0.out hn (zn7 _)
 have hsl : (swp ns 0 n).length = n + 1:=by rw [zbc9,hn]
 have HSL : Hid ((swp ns 0 n).length = n + 1):=hsl
 clear hp2 ht2 m0 m1 hsl HCH
 go_wp2_with fail
 refine (zpu9 F _ u L (swp ns 0 n) 0 n w2 HP2.out (by rw [HSL.out]; omega) (by rw [HSL.out]; omega) (zn7 _) HF.out).mono ?_
 rintro e w3 ⟨qs,hdn,hp3,hperm,hrest,ht3⟩
 have hpp:=znw9 hn (zn7 _) hperm hrest
 have hql : qs.length = n + 1:=by rw [hperm.length_eq,HSL.out]
 have hheap : Heap qs n:=by
  rcases hdn with ⟨_,h⟩ | ⟨_,h⟩
  ·exact h
  ·exact fun x c h2 h3 => h.1 x c (by unfold Ch at h2; omega) h2 h3
 obtain ⟨bb,rfl⟩ : ∃ bb,e = .returned (.bool bb):=by rcases hdn with ⟨e,_⟩ | ⟨e,_⟩ <;> exact ⟨_,e⟩
 have HP3 : Hid (Fr w3 F (.slice a (n + 1) cap) u L qs):=hp3
 have HPP : Hid (G qs n = G ns 0 /\ ns.Perm (G ns 0 :: qs.take n)):=hpp
 have HT3 : Hid (Tch (fun k => (Value.slice a (n + 1) cap).ownBlock = some k ∨ u.ownBlock = some k) w1 w3):=HT2.out.trans ht3 (fun _ _ e => e)
 have HH3 : Hid (Heap qs n):=hheap
 have HQL : Hid (qs.length = n + 1):=hql
 have m2:=zqu9 ⟨F.b,F.pre.length,none⟩ w3
 clear hp3 hperm hrest hheap ht3 hpp hql HP2 HT2 hdn
 go_wp2_with fail
 refine (zpw9 F _ u L qs n w3 HP3.out HQL.out).mono ?_
 rintro e w4 ⟨rfl,v',hp4,hv4,ht4⟩
 have hQ : G qs n = X:=HPP.out.1.trans HX.out
 rw [hQ]
 clear hQ
 go_wp2_with fail
 go_ret
 refine ⟨rfl,v',qs.take n,hp4,?_,by have:=HPP.out.2; rw [HX.out] at this; exact this,hv4,(HT3.out.mono (fun _ _ e => Fs.of e)).trans ht4 (fun _ _ e => .inl e)⟩
 have e : (qs.take n).length = n:=by rw [List.length_take,HQL.out]; omega
 rw [e]
 exact HH3.out.take
theorem zmt9 (F : Fb) (v u : Value) (L : Nat) (ns : List Int) (n : Nat) (w : World) (H : Fr w F v u L ns) (hn : n < L) (hm : (n : Int) ∉ ns) (hl : ns.length < 100000) (hh : Heap ns ns.length) :
  Calls Tryz.prog 132 #[hv F,.iface 3 (.int .i64 n)] w fun e w' => e = .returned (.tuple #[]) ∧
   ∃ v' qs,Fr w' F v' u L qs /\ Heap qs qs.length /\ qs.Perm (ns ++ [(n : Int)]) /\ (∀ k,v'.ownBlock = some k -> v.ownBlock = some k ∨ w.heap.size <= k) /\ Tch (Fs F v u) w w':=by
 have HH : Hid (Fr w F v u L ns):=H
 have HP0 : Hid (Heap ns ns.length):=hh
 have HM : Hid ((n : Int) ∉ ns):=hm
 have m0:=zng9 ⟨F.b,F.pre.length,none⟩ w
 clear H hh hm
 go_enter Tryz.func132,Tryz.ntmps132
 go_wp2_with fail
 refine (zmm9 F v u L ns n w HH.out hn HM.out (by omega)).mono ?_
 rintro e w1 ⟨rfl,v1,hp1,hf1,ht1⟩
 have HP1 : Hid (Fr w1 F v1 u L (ns ++ [(n : Int)])):=hp1
 have HF1 : Hid (∀ k,v1.ownBlock = some k -> v.ownBlock = some k ∨ w.heap.size <= k):=hf1
 have HT1 : Hid (Tch (Fs F v u) w w1):=ht1
 obtain ⟨a,cap,hv⟩:=hp1.len
 have hl1 : (ns ++ [(n : Int)]).length = ns.length + 1:=by simp
 rw [hl1] at hv
 subst hv
 have m1:=zkv9 ⟨F.b,F.pre.length,none⟩ w1
 have HCH : Hid (w1.cell? ⟨F.b,F.pre.length,none⟩ = some (.slice a (ns.length + 1) cap)):=hp1.c0
 clear hp1 hf1 ht1 m0 hl1
 go_wp2_with fail
 refine (zcu9 _ _ a (ns.length + 1) cap w1 HCH.out).mono ?_
 rintro e w2 ⟨rfl,rfl⟩
 go_wp2_with fail
 refine (up_any F _ u L (ns ++ [(n : Int)]) (ns.length + 1) ns.length _ HP1.out (by simp; omega) (Up.push HP0.out)).mono ?_
 rintro e w3 ⟨rfl,qs,hp3,hperm,_,hheap,ht3⟩
 go_wp2_with fail
 go_end0
 have e : qs.length = ns.length + 1:=by rw [hperm.length_eq]; simp
 refine ⟨rfl,_,qs,hp3,by rw [e]; exact hheap,hperm,HF1.out,HT1.out.trans ht3 (fun i hi e => ?_)⟩
 rcases e with e | e
 ·rcases HF1.out i e with e | e
  ·exact .inr (.inl e)
  ·omega
 ·exact .inr (.inr e)
theorem zoc9 (F : Fb) (v u : Value) (L : Nat) (ns : List Int) (n : Nat) (w : World) (H : Fr w F v u L ns) (hn : n < L) (hm : (n : Int) ∉ ns) (hl : ns.length < 100000) (hh : Heap ns ns.length) :
  Calls Tryz.prog 98 #[fp F,.int .i64 n] w fun e w' => e = .returned (.tuple #[]) ∧
   ∃ v' qs,Fr w' F v' u L qs /\ Heap qs qs.length /\ qs.Perm (ns ++ [(n : Int)]) /\ (∀ k,v'.ownBlock = some k -> v.ownBlock = some k ∨ w.heap.size <= k) /\ Tch (Fs F v u) w w':=by
 have HH : Hid (Fr w F v u L ns):=H
 have HP0 : Hid (Heap ns ns.length):=hh
 have HM : Hid ((n : Int) ∉ ns):=hm
 clear H hh hm
 go_enter Tryz.func98,Tryz.ntmps98
 go_wp2_with fail
 refine (zmt9 F v u L ns n w HH.out hn HM.out hl HP0.out).mono ?_
 rintro e w1 ⟨rfl,v1,qs,hp1,hh1,hq1,hf1,ht1⟩
 go_wp2_with fail
 go_end0
 exact ⟨rfl,v1,qs,hp1,hh1,hq1,hf1,ht1⟩
theorem zfr9 (F : Fb) (v u : Value) (L : Nat) (ns : List Int) (n : Nat) (w : World) (H : Fr w F v u L ns) (hn : ns.length = n + 1) (hl : ns.length <= 100000) (hh : Heap ns ns.length) :
  Calls Tryz.prog 162 #[fp F] w fun e w' => e = .returned (.int .i64 (G ns 0)) ∧
   ∃ v' qs,Fr w' F v' u L qs /\ Heap qs qs.length /\ ns.Perm (G ns 0 :: qs) /\ v'.ownBlock = v.ownBlock /\ Tch (Fs F v u) w w':=by
 have HH : Hid (Fr w F v u L ns):=H
 have HP0 : Hid (Heap ns ns.length):=hh
 have HN : Hid (ns.length = n + 1):=hn
 have ta : ∀ (w : World) (x : Int),(Instr.typeAssert (.iface 3 (.int .i64 x)) 20 3 false).run Tryz.prog w = .ok (.int .i64 x) w:=fun _ _ => by kernel_rfl
 clear H hh hn
 obtain ⟨X,HX⟩:=exH (G ns 0)
 rw [HX.out]
 go_enter Tryz.func162,Tryz.ntmps162
 go_wp2_with fail
 refine (zqf9 F v u L ns n w HH.out HN.out hl HP0.out).mono ?_
 rintro e w1 ⟨rfl,v1,qs,hp1,hh1,hq1,hf1,ht1⟩
 rw [HX.out] at hq1 ⊢
 have R : Hid (∃ v' qs,Fr w1 F v' u L qs /\ Heap qs qs.length /\ ns.Perm (X :: qs) /\ v'.ownBlock = v.ownBlock /\ Tch (Fs F v u) w w1):=⟨v1,qs,hp1,hh1,hq1,hf1,ht1⟩
 clear hp1 hh1 hq1 hf1 ht1
 go_wp2_with fail
 go_ret
 exact ⟨rfl,R.out⟩
abbrev OwnsS (w : World) (v : Value) (xs : List Int) : Prop:=Owns .u8 131 w v xs
structure Pf (w : World) (M : Nat) (s : St) (vs v u : Value) (post : List Value) (ns : List Int) : Prop where
 fr : Fr w ⟨M,109,[vs],post⟩ v u (s.lo + s.L.length) ns
 st : OwnsS w vs (sts s.lo s.L)
 heap : Heap ns ns.length
 ks : Ks 0 s ns
 top : s.lo + s.L.length <= 65536
structure PmAt (w : World) (M : Nat) (s : St) (vs v u vb : Value) (ns bk : List Int) : Prop where
 pf : Pf w M s vs v u [vb,.int .i64 s.as] ns
 bo : OwnsI w vb bk
 kb : Ks 2 s bk
 a1 : ∀ k,vb.ownBlock = some k -> v.ownBlock ≠ some k
 a2 : ∀ k,vb.ownBlock = some k -> u.ownBlock ≠ some k
 ok : Sok s
def Px (M : Nat) (vs v u vb : Value) (k : Nat) : Prop:=k = M ∨ vs.ownBlock = some k ∨ v.ownBlock = some k ∨ u.ownBlock = some k ∨ vb.ownBlock = some k
def Pm (w : World) (M : Nat) (s : St) (X : Nat -> Prop) : Prop:=
 ∃ vs v u vb ns bk,PmAt w M s vs v u vb ns bk /\ (∀ k,Px M vs v u vb k -> X k) /\ ∀ k,X k -> k < w.heap.size
def ext (w w' : World) (X : Nat -> Prop) (k : Nat) : Prop:=X k ∨ (w.heap.size <= k /\ k < w'.heap.size)
theorem zx9 {k1 k2 : IntKind} {e1 e2 : TypeId} {w : World} {v u : Value} {xs ys : List Int} (h : Owns k1 e1 w v xs) (h2 : Owns k2 e2 w u ys) (hne : e1 ≠ e2) {k : Nat} (hk : v.ownBlock = some k) : u.ownBlock ≠ some k:=by
 intro e
 obtain ⟨c1,h1⟩:=zau9 (w:=w) h hk
 obtain ⟨c2,h2⟩:=zau9 (w:=w) h2 e
 rw [h1] at h2
 simp at h2
 exact hne h2.2
section
variable {w : World} {M : Nat} {s : St} {vs v u vb : Value} {post : List Value} {ns bk : List Int} {X : Nat -> Prop}
theorem Pf.c0 (H : Pf w M s vs v u post ns) : w.cell? ⟨M,0,none⟩ = some vs:=by
 rw [cell_of_row w M 0 _ _ (0,0) H.fr.blk]; rfl
theorem Pf.c1 (H : Pf w M s vs v u post ns) : w.cell? ⟨M,1,none⟩ = some v:=H.fr.c0
theorem PmAt.c4 (H : PmAt w M s vs v u vb ns bk) : w.cell? ⟨M,4,none⟩ = some (.int .i64 s.as):=by
 rw [cell_of_row w M 4 _ _ (0,0) H.pf.fr.blk]; rfl
theorem Pf.neS (H : Pf w M s vs v u post ns) {k : Nat} (hk : vs.ownBlock = some k) : k ≠ M:=zav9 H.st H.fr.blk (show (109 : TypeId) ≠ 131 by decide) hk
theorem Pf.sv (H : Pf w M s vs v u post ns) {k : Nat} (hk : vs.ownBlock = some k) : v.ownBlock ≠ some k:=zx9 H.st H.fr.own (by decide) hk
theorem Pf.su (H : Pf w M s vs v u post ns) {k : Nat} (hk : vs.ownBlock = some k) : u.ownBlock ≠ some k:=by
 obtain ⟨ps,_,ho,_⟩:=H.fr.pls
 exact zx9 H.st ho (by decide) hk
theorem PmAt.sb (H : PmAt w M s vs v u vb ns bk) {k : Nat} (hk : vs.ownBlock = some k) : vb.ownBlock ≠ some k:=zx9 H.pf.st H.bo (by decide) hk
theorem PmAt.neB (H : PmAt w M s vs v u vb ns bk) {k : Nat} (hk : vb.ownBlock = some k) : k ≠ M:=zav9 H.bo H.pf.fr.blk (show (109 : TypeId) ≠ 3 by decide) hk
theorem Pf.tch {S : Nat -> Prop} {w' : World} (H : Pf w M s vs v u post ns) (ht : Tch S w w') (hM : ¬ S M) (hs : ∀ k,vs.ownBlock = some k -> ¬ S k) (hv : ∀ k,v.ownBlock = some k -> ¬ S k) (hu : ∀ k,u.ownBlock = some k -> ¬ S k) : Pf w' M s vs v u post ns:=
 ⟨H.fr.tch ht hM hv hu,H.st.tch ht hs,H.heap,H.ks,H.top⟩
theorem PmAt.tch {S : Nat -> Prop} {w' : World} (H : PmAt w M s vs v u vb ns bk) (ht : Tch S w w') (hn : ∀ k,Px M vs v u vb k -> ¬ S k) : PmAt w' M s vs v u vb ns bk:=
 ⟨H.pf.tch ht (hn M (.inl rfl)) (fun k h => hn k (.inr (.inl h))) (fun k h => hn k (.inr (.inr (.inl h)))) (fun k h => hn k (.inr (.inr (.inr (.inl h))))),H.bo.tch ht (fun k h => hn k (.inr (.inr (.inr (.inr h))))),H.kb,H.a1,H.a2,H.ok⟩
theorem Pm.tch {S : Nat -> Prop} {w' : World} (H : Pm w M s X) (ht : Tch S w w') (hn : ∀ k,X k -> ¬ S k) : Pm w' M s X:=by
 obtain ⟨vs,v,u,vb,ns,bk,h,hx,hl⟩:=H
 exact ⟨vs,v,u,vb,ns,bk,h.tch ht (fun k hk => hn k (hx k hk)),hx,fun k hk => zn1 (hl k hk) ht.size⟩
theorem Pm.lt (H : Pm w M s X) : ∀ k,X k -> k < w.heap.size:=by obtain ⟨_,_,_,_,_,_,_,_,h⟩:=H; exact h
theorem Pm.made {w' : World} {s' : St} {v' vb' : Value} {ns' bk' : List Int} (hx : ∀ k,Px M vs v u vb k -> X k) (hl : ∀ k,X k -> k < w.heap.size) (H : PmAt w' M s' vs v' u vb' ns' bk') (hv : ∀ k,v'.ownBlock = some k -> v.ownBlock = some k ∨ w.heap.size <= k) (hb : ∀ k,vb'.ownBlock = some k -> vb.ownBlock = some k ∨ w.heap.size <= k)
  (ht : Tch (Px M vs v u vb) w w') : Pm w' M s' (ext w w' X) /\ Tch X w w':=by
 refine ⟨⟨vs,v',u,vb',ns',bk',H,fun k hk => ?_,fun k hk => ?_⟩,ht.mono (fun k _ e => hx k e)⟩
 ·rcases hk with e | e | e | e | e
  ·exact .inl (hx k (.inl e))
  ·exact .inl (hx k (.inr (.inl e)))
  ·rcases hv k e with e2 | e2
   ·exact .inl (hx k (.inr (.inr (.inl e2))))
   ·exact .inr ⟨e2,H.pf.fr.own.lt k e⟩
  ·exact .inl (hx k (.inr (.inr (.inr (.inl e)))))
  ·rcases hb k e with e2 | e2
   ·exact .inl (hx k (.inr (.inr (.inr (.inr e2)))))
   ·exact .inr ⟨e2,H.bo.lt k e⟩
 ·rcases hk with e | ⟨_,e⟩
  ·exact zn1 (hl k e) ht.size
  ·exact e
end
theorem zdy9 (M : Nat) (s : St) (vs v u : Value) (post : List Value) (ns : List Int) (n : Int) (w : World) (H : Pf w M s vs v u post ns) :
  Calls Tryz.prog 63 #[.pointer (some ⟨M,0,none⟩),.int .i64 n] w fun e w' => e = .returned (.int .u8 (stv s n + 1)) /\ w' = w:=by
 have c0:=H.c0
 have hst:=H.st
 have htop:=H.top
 obtain ⟨a,cap,hvs,hcap,hmax,_⟩:=hst.rd
 have hlen:=zde9 s.lo s.L
 by_cases h0 : n < 0
 ·have e : stv s n = -1:=zlu9 (.inl (by omega))
  rw [e]
  rw [hvs] at c0
  clear hvs hst hcap hlen H e htop
  go_enter Tryz.func63,Tryz.ntmps63
  go_wp2_with fail
  go_ret
  exact ⟨rfl,rfl⟩
 ·obtain ⟨t,rfl⟩ : ∃ t : Nat,n = t:=⟨n.toNat,by omega⟩
  by_cases h1 : t < s.lo + s.L.length
  ·obtain ⟨g,cap',rfl,hg,hcap',hmax',hc,_⟩:=hst.shape (by rw [hlen]; omega)
   have ct:=hc t (by rw [hlen]; omega)
   have e : (sts s.lo s.L).getD t 0 = stv s t + 1:=sts_at s t h1
   rw [e] at ct
   rw [hlen] at c0 hcap'
   obtain ⟨m,hm⟩:=exH (s.lo + s.L.length)
   obtain ⟨z,hz⟩:=exH (stv s t + 1)
   rw [hm.out] at c0 hcap' h1
   rw [hz.out] at ct ⊢
   have h1' : decide (m <= t) = false:=by simp; omega
   unfold maxLen at hmax'
   clear hvs hst hcap hlen H e hmax hc htop h0
   go_enter Tryz.func63,Tryz.ntmps63
   go_wp2_with fail
   go_ret
   exact ⟨rfl,rfl⟩
  ·have e : stv s t = -1:=zlu9 (.inr (by omega))
   rw [e]
   rw [hvs,hlen] at c0
   obtain ⟨m,hm⟩:=exH (s.lo + s.L.length)
   rw [hm.out] at c0 h1
   have h1' : decide (m <= t) = true:=by simp; omega
   clear hvs hst hcap hlen H e hmax htop h0
   go_enter Tryz.func63,Tryz.ntmps63
   go_wp2_with fail
   go_ret
   exact ⟨rfl,rfl⟩
theorem zil9 (M : Nat) (s : St) (vs v u : Value) (post : List Value) (ns : List Int) (i : Nat) (w : World) (H : Pf w M s vs v u post ns) (hi : i < s.L.length) (h0 : G s.L i ≠ 0) :
  Calls Tryz.prog 105 #[.pointer (some ⟨M,0,none⟩),.int .i64 ((s.lo + i : Nat) : Int)] w fun e w' => e = .returned (.tuple #[]) ∧
   ∃ v' ns',Pf w' M (put s i 0) vs v' u post ns' /\ (∀ k,v'.ownBlock = some k -> v.ownBlock = some k ∨ w.heap.size <= k) /\ Tch (fun k => k = M ∨ vs.ownBlock = some k ∨ v.ownBlock = some k ∨ u.ownBlock = some k) w w':=by
 have HH : Hid (Pf w M s vs v u post ns):=H
 have c0:=H.c0
 have hlen:=zde9 s.lo s.L
 obtain ⟨g,cap,rfl,hg,hcap,hmax,hc,fz⟩:=H.st.shape (by rw [hlen]; omega)
 obtain ⟨t,ht⟩:=exH (s.lo + i)
 obtain ⟨m,hm⟩:=exH (s.lo + s.L.length)
 have htm : t < m:=by rw [<- ht.out,<- hm.out]; omega
 have ct:=hc t (by rw [hlen,hm.out]; exact htm)
 obtain ⟨z,hz⟩:=exH ((sts s.lo s.L).getD t 0)
 rw [hz.out] at ct
 rw [hlen,hm.out] at c0 hcap
 have ft:=fz t
 have gM : g ≠ M:=H.neS rfl
 have HI : Hid (i < s.L.length /\ G s.L i ≠ 0):=⟨hi,h0⟩
 have HT : Hid (Tch (fun k => k = g) w (w.setCell ⟨g,t,none⟩ (.int .u8 1))):=Tch.setCell (Tch.refl (fun k => k = g) w) (p:=⟨g,t,none⟩) (fun _ => rfl) _
 have HF : Hid (Fr (w.setCell ⟨g,t,none⟩ (.int .u8 1)) ⟨M,109,[.slice (some ⟨g,0,none⟩) (sts s.lo s.L).length cap],post⟩ v u m ns):=by
  rw [<- hm.out]
  exact H.fr.tch HT.out (fun e => gM e.symm) (fun k hk e => H.sv (k:=g) rfl (by rw [<- e]; exact hk)) (fun k hk e => H.su (k:=g) rfl (by rw [<- e]; exact hk))
 have HS : Hid (OwnsS (w.setCell ⟨g,t,none⟩ (.int .u8 1)) (.slice (some ⟨g,0,none⟩) (sts s.lo s.L).length cap) (sts s.lo (s.L.set i 0))):=by
  have:=H.st.set t 1
  rw [<- ht.out] at this ⊢
  rw [<- zpf9]
  exact this
 have HN : Hid ((t : Int) ∉ ns):=by
  intro e
  have:=(H.ks.mem _).1 e
  rw [<- ht.out,stv_in hi] at this
  exact h0 this
 have HL : Hid (ns.length < 100000):=by
  show _ < _
  have h1:=H.ks.len
  have h2:=List.count_le_length (a:=(0 : Int)) (l:=s.L)
  have:=H.top
  omega
 rw [ht.out]
 unfold maxLen at hmax
 clear hc fz H hi h0 hlen
 go_enter Tryz.func105,Tryz.ntmps105
 go_wp2_with fail
 refine (zoc9 _ v u m ns t _ HF.out htm HN.out HL.out HH.out.heap).mono ?_
 rintro e w1 ⟨rfl,v1,qs,hp1,hh1,hq1,hf1,ht1⟩
 have hsz : (w.setCell ⟨g,t,none⟩ (.int .u8 1)).heap.size = w.heap.size:=by simp [World.setCell]
 rw [hsz] at hf1
 rw [<- ht.out] at hq1
 have R : Hid (∃ v' ns',Pf w1 M (put s i 0) (.slice (some ⟨g,0,none⟩) (sts s.lo s.L).length cap) v' u post ns' /\ (∀ k,v'.ownBlock = some k -> v.ownBlock = some k ∨ w.heap.size <= k) /\ Tch (fun k => k = M ∨ (Value.slice (some ⟨g,0,none⟩) (sts s.lo s.L).length cap).ownBlock = some k ∨ v.ownBlock = some k ∨ u.ownBlock = some k) w w1):=by
  refine ⟨v1,qs,⟨?_,?_,hh1,?_,?_⟩,hf1,?_⟩
  ·have e : (put s i 0).lo + (put s i 0).L.length = m:=by simp [put,hm.out]
   rw [e]; exact hp1
  ·refine HS.out.tch ht1 (fun k hk e => ?_)
   rcases e with e | e | e
   ·cases hk; exact gM e
   ·exact HH.out.sv hk e
   ·exact HH.out.su hk e
  ·exact HH.out.ks.add HI.out.1 HI.out.2 hq1
  ·simp only [put,List.length_set]; exact HH.out.top
  ·refine (HT.out.mono (fun k _ e => .inr (.inl (by rw [e]; rfl)))).trans ht1 (fun k _ e => ?_)
   rcases e with e | e | e
   ·exact .inl e
   ·exact .inr (.inr (.inl e))
   ·exact .inr (.inr (.inr e))
 clear hp1 hh1 hq1 hf1 ht1 hsz
 go_wp2_with fail
 go_end0
 exact ⟨rfl,R.out⟩
abbrev mp (M : Nat) : Value:=.pointer (some ⟨M,0,none⟩)
theorem zsg9 (M : Nat) (s : St) (vs v u vb : Value) (ns bk : List Int) (w : World) (H : PmAt w M s vs v u vb ns bk) :
  Calls Tryz.prog 21 #[mp M] w fun e w' => e = .returned (.int .i64 (fre s)) /\ ∃ q,w' = w.drewN q:=by
 have c1:=H.pf.c1
 have c4:=H.c4
 obtain ⟨a,cap,rfl⟩:=H.pf.fr.len
 have hl:=H.pf.ks.len
 have h2:=List.count_le_length (a:=(0 : Int)) (l:=s.L)
 have h3:=H.pf.top
 have h4:=H.ok.aside
 have HF : Hid ((ns.length : Int) - s.as = fre s):=by show _ = _; unfold fre; omega
 obtain ⟨m,hm⟩:=exH ns.length
 obtain ⟨b,hb⟩:=exH s.as
 rw [hm.out] at hl c1 HF
 rw [hb.out] at c4 h4 HF
 have hbm : b <= m:=by omega
 have hm9 : m <= 65536:=by omega
 rw [<- HF.out]
 clear hl h2 h3 h4 H HF
 go_enter Tryz.func21,Tryz.ntmps21
 go_wp2_with fail
 go_quiet ((go_at_call 50; exact Calls.quiet_of_same (zcu9 M 1 a m cap _ c1)))
 go_wp2_with fail
 go_ret
 exact ⟨rfl,_,rfl⟩
theorem zpx9 (M : Nat) (s : St) (X : Nat -> Prop) (w : World) (H : Pm w M s X) :
  Calls Tryz.prog 21 #[mp M] w fun e w' => e = .returned (.int .i64 (fre s)) /\ ∃ q,w' = w.drewN q:=by
 obtain ⟨vs,v,u,vb,ns,bk,h,_⟩:=H
 exact zsg9 M s vs v u vb ns bk w h
theorem Pf.post {w : World} {M : Nat} {s : St} {vs v u : Value} {post : List Value} {ns : List Int} (H : Pf w M s vs v u post ns) (j : Nat) (x : Value) : Pf (w.setCell ⟨M,3 + j,none⟩ x) M s vs v u (post.set j x) ns:=by
 have T : Tch (fun k => k = M) w (w.setCell ⟨M,3 + j,none⟩ x):=Tch.setCell (Tch.refl (fun k => k = M) w) (p:=⟨M,3 + j,none⟩) (fun _ => rfl) _
 obtain ⟨ps,hl,ho,hp⟩:=H.fr.pls
 refine ⟨⟨?_,H.fr.ht,H.fr.own.tch T (fun k hk e => H.fr.ne hk e),⟨ps,hl,ho.tch T (fun k hk e => H.fr.neu hk e),hp⟩,H.fr.ap⟩,H.st.tch T (fun k hk e => H.neS hk e),H.heap,H.ks,H.top⟩
 rw [heap_setCell_same w M (3 + j) _ _ _ H.fr.blk]
 congr 2
 rw [Nat.add_comm 3 j]
 simp
theorem PmAt.after {w w' : World} {M : Nat} {s s' : St} {vs v v' u vb : Value} {ns ns' bk : List Int} (H : PmAt w M s vs v u vb ns bk) (P : Pf w' M s' vs v' u [vb,.int .i64 s.as] ns') (hv : ∀ k,v'.ownBlock = some k -> v.ownBlock = some k ∨ w.heap.size <= k)
  (ht : Tch (fun k => k = M ∨ vs.ownBlock = some k ∨ v.ownBlock = some k ∨ u.ownBlock = some k) w w') (hk : Ks 2 s' bk) (ok : Sok s') (ha : s'.as = s.as) : PmAt w' M s' vs v' u vb ns' bk:=by
 refine ⟨by rw [ha]; exact P,H.bo.tch ht (fun k hk e => ?_),hk,fun k hk e => ?_,H.a2,ok⟩
 ·rcases e with e | e | e | e
  ·exact H.neB hk e
  ·exact H.sb e hk
  ·exact H.a1 k hk e
  ·exact H.a2 k hk e
 ·rcases hv k e with e2 | e2
  ·exact H.a1 k hk e2
  ·have:=H.bo.lt k hk
   omega
theorem tch_P {w w' : World} {M : Nat} {vs v u vb : Value} (ht : Tch (fun k => k = M ∨ vs.ownBlock = some k ∨ v.ownBlock = some k ∨ u.ownBlock = some k) w w') : Tch (Px M vs v u vb) w w':=ht.mono (fun k _ e => by
 rcases e with e | e | e | e
 ·exact .inl e
 ·exact .inr (.inl e)
 ·exact .inr (.inr (.inl e))
 ·exact .inr (.inr (.inr (.inl e))))
theorem zpm9 (M : Nat) (s : St) (X : Nat -> Prop) (n : Int) (w : World) (H : Pm w M s X) :
  Calls Tryz.prog 75 #[mp M,.int .i64 n] w fun e w' => e = .returned (.bool (back n s).1) /\ Pm w' M (back n s).2 (ext w w' X) /\ Tch X w w':=by
 obtain ⟨vs,v,u,vb,ns,bk,h,hx,hl⟩:=H
 have HH : Hid (PmAt w M s vs v u vb ns bk):=h
 have HX : Hid (∀ k,Px M vs v u vb k -> X k):=hx
 have HL : Hid (∀ k,X k -> k < w.heap.size):=hl
 obtain ⟨z,hz⟩:=exH (stv s n + 1)
 clear h hx hl
 by_cases h1 : stv s n = 1
 ·have ok:=zrq9 HH.out.ok n
  obtain ⟨i,hi,rfl,e⟩:=zdz9 (s:=s) (n:=n) (by omega)
  have e2 : back ((s.lo + i : Nat) : Int) s = (true,put s i 0):=by
   unfold back
   rw [if_neg (by omega),show (((s.lo + i : Nat) : Int) - s.lo).toNat = i by omega]
  rw [e2] at ok ⊢
  have HOK : Hid (Sok (put s i 0)):=ok
  have HI : Hid (i < s.L.length /\ G s.L i = 1):=⟨hi,by omega⟩
  have hz2 : (z != 2) = false:=by have:=hz.out; simp; omega
  obtain ⟨t,ht⟩:=exH (s.lo + i)
  rw [ht.out] at hz ⊢
  clear ok hi e e2 h1
  simp only
  go_enter Tryz.func75,Tryz.ntmps75
  go_wp2_with fail
  refine (zdy9 M s vs v u _ ns t w HH.out.pf).mono ?_
  rintro e w1 ⟨rfl,rfl⟩
  rw [hz.out]
  go_wp2_with fail
  rw [<- ht.out]
  refine (zil9 M s vs v u _ ns i w1 HH.out.pf HI.out.1 (by rw [HI.out.2]; omega)).mono ?_
  rintro e w2 ⟨rfl,v2,ns2,hp2,hf2,ht2⟩
  have R : Hid (Pm w2 M (put s i 0) (ext w1 w2 X) /\ Tch X w1 w2):=
   Pm.made HX.out HL.out (HH.out.after hp2 hf2 ht2 (HH.out.kb.other HI.out.1 (by rw [HI.out.2]; omega) (by omega)) HOK.out rfl) hf2 (fun _ e => .inl e) (tch_P ht2)
  clear hp2 hf2 ht2
  go_wp2_with fail
  go_ret
  exact ⟨rfl,R.out⟩
 ·have e2 : back n s = (false,s):=by unfold back; rw [if_pos h1]
  rw [e2]
  have hz2 : (z != 2) = true:=by have:=hz.out; simp; omega
  clear h1 e2
  simp only
  go_enter Tryz.func75,Tryz.ntmps75
  go_wp2_with fail
  refine (zdy9 M s vs v u _ ns n w HH.out.pf).mono ?_
  rintro e w1 ⟨rfl,rfl⟩
  rw [hz.out]
  go_wp2_with fail
  go_ret
  exact ⟨rfl,Pm.made HX.out HL.out HH.out (fun _ e => .inl e) (fun _ e => .inl e) (Tch.refl _ _)⟩
theorem zri9 {w : World} {M : Nat} {post : List Value} {g m cap : Nat} {v u : Value} {Lp lo : Nat} {ns L : List Int} (F : Fr w ⟨M,109,[.slice (some ⟨g,0,none⟩) m cap],post⟩ v u Lp ns) (O : OwnsS w (.slice (some ⟨g,0,none⟩) m cap) (sts lo L)) (i : Nat) (y x : Int) (hx : x = y + 1) :
  Fr (w.setCell ⟨g,lo + i,none⟩ (.int .u8 x)) ⟨M,109,[.slice (some ⟨g,0,none⟩) m cap],post⟩ v u Lp ns /\ OwnsS (w.setCell ⟨g,lo + i,none⟩ (.int .u8 x)) (.slice (some ⟨g,0,none⟩) m cap) (sts lo (L.set i y)) /\ Tch (fun k => k = g) w (w.setCell ⟨g,lo + i,none⟩ (.int .u8 x)):=by
 subst hx
 have T : Tch (fun k => k = g) w (w.setCell ⟨g,lo + i,none⟩ (.int .u8 (y + 1))):=Tch.setCell (Tch.refl (fun k => k = g) w) (p:=⟨g,lo + i,none⟩) (fun _ => rfl) _
 have gM : g ≠ M:=zav9 O F.blk (show (109 : TypeId) ≠ 131 by decide) rfl
 obtain ⟨ps,_,ho,_⟩:=F.pls
 refine ⟨F.tch T (fun e => gM e.symm) (fun k hk e => zx9 O F.own (by decide) (k:=g) rfl (by rw [<- e]; exact hk)) (fun k hk e => zx9 O ho (by decide) (k:=g) rfl (by rw [<- e]; exact hk)),?_,T⟩
 rw [<- zpf9]
 exact O.set (lo + i) (y + 1)
theorem ns_le {w : World} {M : Nat} {s : St} {vs v u : Value} {post : List Value} {ns : List Int} (H : Pf w M s vs v u post ns) : ns.length <= 65536:=by
 have h1:=H.ks.len
 have h2:=List.count_le_length (a:=(0 : Int)) (l:=s.L)
 have:=H.top
 omega
theorem zqn9 {s : St} {ns : List Int} (k : Ks 0 s ns) (h : Heap ns ns.length) (h0 : s.L.count 0 ≠ 0) : G ns 0 = ((s.lo + s.L.idxOf 0 : Nat) : Int):=by
 obtain ⟨hl,hz,hf⟩:=first0 h0
 have hn : 0 < ns.length:=by rw [k.len]; omega
 obtain ⟨i,hi,e,h1⟩:=k.idx (Int.le_refl _) (G_mem hn)
 have hm : ((s.lo + s.L.idxOf 0 : Nat) : Int) ∈ ns:=(k.mem _).2 (by rw [stv_in hl]; exact hz)
 obtain ⟨j,hj,e2⟩:=mem_G hm
 have:=h.least j hj
 rw [e2,e] at this
 have : ¬ i < s.L.idxOf 0:=fun hlt => hf i hlt h1
 omega
theorem zrl9 (M : Nat) (s : St) (X : Nat -> Prop) (w : World) (H : Pm w M s X) :
  Calls Tryz.prog 145 #[mp M] w fun e w' => e = .returned (.tuple #[.int .i64 (take s).1,.bool (take s).2.1]) /\ Pm w' M (take s).2.2 (ext w w' X) /\ Tch X w w':=by
 obtain ⟨vs,v,u,vb,ns,bk,h,hx,hl⟩:=H
 have HH : Hid (PmAt w M s vs v u vb ns bk):=h
 have HX : Hid (∀ k,Px M vs v u vb k -> X k):=hx
 have HL : Hid (∀ k,X k -> k < w.heap.size):=hl
 obtain ⟨av,capv,hve⟩:=h.pf.fr.len
 have HC1 : Hid (w.cell? ⟨M,1,none⟩ = some (.slice av ns.length capv)):=by rw [<- hve]; exact h.pf.c1
 have hnl:=h.pf.ks.len
 clear hve
 by_cases h0 : s.L.count 0 = 0
 ·have e2 : take s = (0,false,s):=by unfold take; rw [if_pos h0]
  rw [e2]
  have HN : Hid (ns.length = 0):=by show _ = _; omega
  clear h0 e2 h hx hl hnl
  simp only
  rw [HN.out] at HC1
  go_enter Tryz.func145,Tryz.ntmps145
  go_wp2_with fail
  refine (zcu9 M 1 av 0 capv w HC1.out).mono ?_
  rintro e w1 ⟨rfl,rfl⟩
  go_wp2_with fail
  go_ret2
  exact ⟨rfl,Pm.made HX.out HL.out HH.out (fun _ e => .inl e) (fun _ e => .inl e) (Tch.refl _ _)⟩
 ·have ok:=ztw9 h.ok
  have hli:=zqn9 h.pf.ks h.pf.heap h0
  obtain ⟨hi,hgz,_⟩:=first0 h0
  obtain ⟨i,hid⟩:=exH (s.L.idxOf 0)
  have e2 : take s = (((s.lo + i : Nat) : Int),true,⟨s.lo,s.L.set i 1,s.as - 1⟩):=by unfold take; rw [if_neg h0,hid.out]
  rw [e2] at ok ⊢
  rw [hid.out] at hli hi hgz
  have HOK : Hid (Sok ⟨s.lo,s.L.set i 1,s.as - 1⟩):=ok
  have HI : Hid (i < s.L.length /\ G s.L i = 0):=⟨hi,hgz⟩
  have hlen:=zde9 s.lo s.L
  obtain ⟨g,cap,rfl,hg,hcap,hmax,hc,fz⟩:=h.pf.st.shape (by rw [hlen]; omega)
  obtain ⟨t,ht⟩:=exH (s.lo + i)
  obtain ⟨m,hm⟩:=exH ((sts s.lo s.L).length)
  have htm : t < m:=by rw [<- ht.out,<- hm.out,hlen]; omega
  have HLI : Hid (G ns 0 = t):=by rw [<- ht.out]; exact hli
  obtain ⟨mn,hmn⟩ : ∃ mn,ns.length = mn + 1:=⟨ns.length - 1,by omega⟩
  have HMN : Hid (ns.length = mn + 1):=hmn
  have h65:=ns_le h.pf
  rw [hmn] at HC1 h65
  rw [ht.out]
  rw [hm.out] at hcap HH HX
  have gM : g ≠ M:=h.pf.neS rfl
  obtain ⟨az,has⟩:=exH s.as
  have ha9 : az <= 65536:=by
   have h2:=List.count_le_length (a:=(0 : Int)) (l:=s.L)
   have:=h.pf.top
   have:=h.ok.aside
   have:=has.out
   omega
  unfold maxLen at hmax
  clear ok hi e2 h0 h hx hl hc fz hlen hli hgz hnl hmn
  simp only
  go_enter Tryz.func145,Tryz.ntmps145
  go_wp2_with fail
  refine (zcu9 M 1 av (mn + 1) capv w HC1.out).mono ?_
  rintro e w1 ⟨rfl,rfl⟩
  have hnz : (((mn + 1 : Nat) : Int) == 0) = false:=by simp; omega
  go_wp2_with fail
  refine (zfr9 ⟨M,109,[.slice (some ⟨g,0,none⟩) m cap],[vb,.int .i64 s.as]⟩ v u (s.lo + s.L.length) ns mn w1 HH.out.pf.fr HMN.out (by rw [HMN.out]; omega) HH.out.pf.heap).mono ?_
  rintro e w3 ⟨rfl,v3,qs,hp3,hh3,hq3,hv3,ht3⟩
  rw [HLI.out] at hq3 ⊢
  have O3 : OwnsS w3 (.slice (some ⟨g,0,none⟩) m cap) (sts s.lo s.L):=HH.out.pf.st.tch ht3 (fun k hk e => by
   rcases e with e | e | e
   ·exact HH.out.pf.neS hk e
   ·exact HH.out.pf.sv hk e
   ·exact HH.out.pf.su hk e)
  obtain ⟨g',cap',he,hg3,hcap3,_,hc3,fz3⟩:=O3.shape (by rw [hm.out]; omega)
  simp only [Value.slice.injEq,Option.some.injEq,Addr.mk.injEq,and_true] at he
  obtain ⟨rfl,_,rfl⟩:=he
  have ct:=hc3 t (by rw [hm.out]; exact htm)
  have ft:=fz3 t
  obtain ⟨y0,hy0⟩:=exH ((sts s.lo s.L).getD t 0)
  rw [hy0.out] at ct
  have c0 : w3.cell? ⟨M,0,none⟩ = some (.slice (some ⟨g,0,none⟩) m cap):=by rw [cell_of_row w3 M 0 _ _ (0,0) hp3.blk]; rfl
  have c4 : w3.cell? ⟨M,4,none⟩ = some (.int .i64 az):=by rw [cell_of_row w3 M 4 _ _ (0,0) hp3.blk,<- has.out]; rfl
  have f4 : w3.frozen? ⟨M,4,none⟩ = false:=hp3.fz 4
  have HS : Hid (Fr (w3.setCell ⟨g,t,none⟩ (.int .u8 2)) ⟨M,109,[.slice (some ⟨g,0,none⟩) m cap],[vb,.int .i64 s.as]⟩ v3 u (s.lo + s.L.length) qs /\ OwnsS (w3.setCell ⟨g,t,none⟩ (.int .u8 2)) (.slice (some ⟨g,0,none⟩) m cap) (sts s.lo (s.L.set i 1)) /\ Tch (fun k => k = g) w3 (w3.setCell ⟨g,t,none⟩ (.int .u8 2))):=by
   have:=zri9 hp3 O3 i 1 2 rfl
   rw [ht.out] at this
   exact this
  have hq:=hq3
  rw [<- ht.out] at hq
  obtain ⟨W4,HW4⟩:=exH (w3.setCell ⟨g,t,none⟩ (.int .u8 2))
  have hW:=HW4.out
  rw [HW4.out] at HS
  obtain ⟨F4,O4,T4⟩:=HS.out
  have P4 : Pf W4 M ⟨s.lo,s.L.set i 1,s.as - 1⟩ (.slice (some ⟨g,0,none⟩) m cap) v3 u [vb,.int .i64 s.as] qs:=by
   refine ⟨?_,O4,hh3,(HH.out.pf.ks.sub HI.out.1 HI.out.2 (y:=1) (by omega) hq).aside _,by simp only [List.length_set]; exact HH.out.pf.top⟩
   simp only [List.length_set]; exact F4
  have T : Tch (fun k => k = M ∨ (Value.slice (some ⟨g,0,none⟩) m cap).ownBlock = some k ∨ v.ownBlock = some k ∨ u.ownBlock = some k) w1 W4:=by
   refine ((ht3.mono (fun k _ e => ?_)).trans T4 (fun k _ e => .inr (.inl (by rw [e]; rfl))))
   rcases e with e | e | e
   ·exact .inl e
   ·exact .inr (.inr (.inl e))
   ·exact .inr (.inr (.inr e))
  have HP4 : Hid (Pf W4 M ⟨s.lo,s.L.set i 1,s.as - 1⟩ (.slice (some ⟨g,0,none⟩) m cap) v3 u [vb,.int .i64 s.as] qs):=P4
  have HT : Hid (Tch (fun k => k = M ∨ (Value.slice (some ⟨g,0,none⟩) m cap).ownBlock = some k ∨ v.ownBlock = some k ∨ u.ownBlock = some k) w1 W4):=T
  have HV3 : Hid (v3.ownBlock = v.ownBlock):=hv3
  have HKB : Hid (Ks 2 ⟨s.lo,s.L.set i 1,s.as - 1⟩ bk):=(HH.out.kb.other HI.out.1 (by rw [HI.out.2]; omega) (y:=1) (by omega)).aside _
  have c4' : W4.cell? ⟨M,4,none⟩ = some (.int .i64 az):=by rw [T4.cell (p:=⟨M,4,none⟩) hp3.lt (fun e => gM e.symm)]; exact c4
  have f4' : W4.frozen? ⟨M,4,none⟩ = false:=by rw [T4.frozen (p:=⟨M,4,none⟩) hp3.lt (fun e => gM e.symm)]; exact f4
  have hbo : OwnsI W4 vb bk:=HH.out.bo.tch T (fun k hk e => by
   rcases e with e | e | e | e
   ·exact HH.out.neB hk e
   ·exact HH.out.sb e hk
   ·exact HH.out.a1 k hk e
   ·exact HH.out.a2 k hk e)
  have HBO : Hid (OwnsI W4 vb bk):=hbo
  have HA1 : Hid (∀ k,vb.ownBlock = some k -> v3.ownBlock ≠ some k):=fun k hk e => HH.out.a1 k hk (by rw [<- hv3]; exact e)
  clear hp3 hh3 hq3 hv3 ht3 O3 hg3 hcap3 hc3 fz3 HS F4 O4 T4 P4 T hbo hq c4 f4
  by_cases ha0 : az = 0
  ·subst ha0
   go_wp2_with fail
   go_ret2
   have P : PmAt W4 M ⟨s.lo,s.L.set i 1,s.as - 1⟩ (.slice (some ⟨g,0,none⟩) m cap) v3 u vb qs bk:=by
    refine ⟨?_,HBO.out,HKB.out,HA1.out,HH.out.a2,HOK.out⟩
    have:=HP4.out
    rw [has.out] at this ⊢
    exact this
   exact ⟨rfl,Pm.made HX.out HL.out P (fun k hk => .inl (by rw [<- HV3.out]; exact hk)) (fun _ e => .inl e) (tch_P HT.out)⟩
  ·have hap : (0 : Int) < (az : Int):=by omega
   have hw9 : (az : Int) - 1 = ((az - 1 : Nat) : Int):=by omega
   go_wp2_with fail
   go_ret2
   have e9 : (.int .i64 ((az - 1 : Nat) : Int) : Value) = .int .i64 ((s.as - 1 : Nat) : Int):=by rw [has.out]
   have T9 : Tch (fun k => k = M) W4 (W4.setCell ⟨M,4,none⟩ (.int .i64 ((az - 1 : Nat) : Int))):=Tch.setCell (Tch.refl (fun k => k = M) W4) (p:=⟨M,4,none⟩) (fun _ => rfl) _
   have P : PmAt (W4.setCell ⟨M,4,none⟩ (.int .i64 ((az - 1 : Nat) : Int))) M ⟨s.lo,s.L.set i 1,s.as - 1⟩ (.slice (some ⟨g,0,none⟩) m cap) v3 u vb qs bk:=by
    refine ⟨?_,HBO.out.tch T9 (fun k hk e => HH.out.neB hk e),HKB.out,HA1.out,HH.out.a2,HOK.out⟩
    have:=HP4.out.post 1 (.int .i64 ((az - 1 : Nat) : Int))
    rw [e9] at this ⊢
    exact this
   refine ⟨rfl,Pm.made HX.out HL.out P (fun k hk => .inl (by rw [<- HV3.out]; exact hk)) (fun _ e => .inl e) ?_⟩
   exact (tch_P HT.out).trans T9 (fun k _ e => .inl e)
end Go.Proofs.YtjhccpijpffahaaGreat
