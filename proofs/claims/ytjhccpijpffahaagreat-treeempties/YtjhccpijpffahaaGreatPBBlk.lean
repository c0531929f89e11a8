import Derived.Test.YtjhccpijpffahaaGreatPDBs
import Derived.Laws.CopyOwn
set_option maxRecDepth 100000
set_option linter.unusedVariables false
set_option linter.unusedSimpArgs false
set_option maxHeartbeats 8000000
namespace Go.Proofs.YtjhccpijpffahaaGreat
open Go.RowKit Pl
def blk (k : Int) (v : Value) : Value:=.agg #[.int .i64 k,v]
theorem zcn9 (n k : Int) (a : Option Addr) (l cap : Nat) (w : World) (hl : l <= 9223372036854775807) :
  Calls Tryz.prog 89 #[.int .i64 n,blk k (.slice a l cap)] w fun e w' => e = .returned (.bool (mayK n k l)) /\ Below w.heap.size w w':=by
 unfold blk
 have HB : Hid (∀ o,Below w.heap.size w (w.alloc o)):=fun o => (Below.refl _ _).alloc (zn6 _) _
 have he : ∀ b : Bool,mayK n k l = b -> mayK n k l = b:=fun _ e => e
 by_cases h1 : 0 <= n
 ·by_cases h2 : n <= 65535
  ·by_cases h3 : 1 <= k
   ·by_cases h4 : k <= 4
    ·by_cases h5 : l <= 240
     ·have h6 : (l : Int) <= 240:=by omega
      have e : mayK n k l = true:=zv9.2 ⟨h1,h2,h3,h4,h5⟩
      rw [e]
      clear e he
      go_enter Tryz.func89,Tryz.ntmps89
      go_wp2_with fail
      go_ret
      exact ⟨rfl,HB.out _⟩
     ·have h6 : decide ((l : Int) <= 240) = false:=by rw [zn4]; omega
      have e : mayK n k l = false:=by rw [Bool.eq_false_iff,ne_eq,zv9]; omega
      rw [e]
      clear e he
      go_enter Tryz.func89,Tryz.ntmps89
      go_wp2_with fail
      go_ret
      exact ⟨rfl,HB.out _⟩
    ·have h6 : decide (k <= 4) = false:=by rw [zn4]; omega
     have e : mayK n k l = false:=by rw [Bool.eq_false_iff,ne_eq,zv9]; omega
     rw [e]
     clear e he
     go_enter Tryz.func89,Tryz.ntmps89
     go_wp2_with fail
     go_ret
     exact ⟨rfl,HB.out _⟩
   ·have h6 : decide (1 <= k) = false:=by rw [zn4]; omega
    have h7 : decide (k ≥ 1) = false:=by rw [zn4]; omega
    have e : mayK n k l = false:=by rw [Bool.eq_false_iff,ne_eq,zv9]; omega
    rw [e]
    clear e he
    go_enter Tryz.func89,Tryz.ntmps89
    go_wp2_with fail
    go_ret
    exact ⟨rfl,HB.out _⟩
  ·have h6 : decide (n <= 65535) = false:=by rw [zn4]; omega
   have e : mayK n k l = false:=by rw [Bool.eq_false_iff,ne_eq,zv9]; omega
   rw [e]
   clear e he
   go_enter Tryz.func89,Tryz.ntmps89
   go_wp2_with fail
   go_ret
   exact ⟨rfl,HB.out _⟩
 ·have h6 : decide (0 <= n) = false:=by rw [zn4]; omega
  have h7 : decide (n ≥ 0) = false:=by rw [zn4]; omega
  have e : mayK n k l = false:=by rw [Bool.eq_false_iff,ne_eq,zv9]; omega
  rw [e]
  clear e he
  go_enter Tryz.func89,Tryz.ntmps89
  go_wp2_with fail
  go_ret
  exact ⟨rfl,HB.out _⟩
theorem zjg9 (L cs : List Int) (off : Nat) : splice (bcs L) off (bcs cs) = bcs (splice L off cs):=by
 unfold splice bcs
 simp only [List.map_append,List.map_take,List.map_drop,List.length_map]
theorem inf_u8 : (Tryz.prog.info? 5).map (·.size) = some 1:=by kernel_rfl
theorem zbr9 (w : World) {ops : Array Oper} {rest : List Oper} {o : Oper} {a : Act} {Q : Exit -> Act -> World -> Prop} (hgd : o.guard = none) (d s : Operand)
  (ho : o.op = .call { callee:=.builtin .copy,args:=#[d,s],argTypes:=#[61,61] }) (g off dLen dCap : Nat) (hd : a.eval d = .slice (some ⟨g,off,none⟩) dLen dCap)
  (cur : List Int) (t : TypeId) (hg : w.heap[g]? = some (.cells (bcs cur).toArray t (0,0))) (v : Value) (xs : List Int) (hs : a.eval s = v) (hr : Rd .u8 w v xs) (hfit : off + min xs.length dLen <= cur.length)
  (B : Nat) (w0 : World) (hB : Below B w0 w) (hBg : B <= g)
  (h : ∀ w',Hid (w'.heap[g]? = some (.cells (bcs (splice cur off (xs.take dLen))).toArray t (0,0))) -> Hid (Below B w0 w') -> wpList Tryz.prog ops Q rest (a.put o.dst (goInt (xs.take dLen).length)) w') : wpList Tryz.prog ops Q (o :: rest) a w:=by
 obtain ⟨sp,cap,rfl,h1,h2,h3,h4⟩:=hr
 refine wpList_copy_splice hgd d s 61 61 ho 5 Tryz.underlying61 inf_u8 (some ⟨g,off,none⟩) sp dLen dCap xs.length cap hd hs g off (bcs cur) t hg (bcs (xs.take dLen)) ?_ ?_ ?_ (zjf9 _) B w0 hB hBg ?_
 ·rw [zf9,List.length_take]; exact Nat.min_comm _ _
 ·intro hp
  refine ⟨rfl,?_⟩
  rw [zf9,List.length_take] at hp
  rcases h4 with rfl | ⟨b,o,rfl,hc⟩
  ·simp at hp
  ·refine ⟨_,rfl,fun j u hu => ?_⟩
   have hjl : j < (bcs (xs.take dLen)).length:=(List.getElem?_eq_some_iff.1 hu).1
   rw [zf9,List.length_take] at hjl
   rw [Addr.add_lit,hc j (by omega)]
   rw [bcs,List.getElem?_map,List.getElem?_take,if_pos (by omega),List.getElem?_eq_getElem (by omega)] at hu
   simp only [Option.map_some,Option.some.injEq] at hu
   rw [<- hu,zn3,List.getElem?_eq_getElem (by omega)]
   rfl
 ·rw [zf9,zf9,List.length_take]; omega
 ·intro w' hh hb'
  have hh':=hh.out
  rw [zjg9] at hh'
  rw [zf9]
  exact h w' hh' hb'
def zr (n : Nat) : List Int:=List.replicate n 0
theorem zr_len (n : Nat) : (zr n).length = n:=by unfold zr; exact List.length_replicate
theorem zks9 {w : World} {e : TypeId} {g n : Nat} (h : w.ownsRow 0 e 1 (.slice (some ⟨g,0,none⟩) n n) n (List.replicate n (.int .u8 0))) : w.heap[g]? = some (.cells (bcs (zr n)).toArray e (0,0)):=by
 rcases h.2 with ⟨h0,_⟩ | ⟨g',cap,cur,hv,_,hg,hnc,hcm,hcs,htake⟩
 ·cases h0
 ·cases hv
  rw [hg]
  have e1 : cur.toList = bcs (zr n):=by
   have : cur.toList.take (n * 1) = cur.toList:=zn5 (by rw [Array.length_toList,hcs]; omega)
   rw [<- this,htake,bcs,zr,List.map_replicate]
  rw [<- e1]
theorem zdd9 (g : Nat) (w : World) : (Instr.sliceAt 156 (.pointer (some ⟨g,0,none⟩)) (some (.int .i64 8)) (some (.int .i64 252)) none).run Tryz.prog w = .ok (.slice (some ⟨g,8,none⟩) 244 248) w:=by
 have:=run_sliceAt_array_lh w 156 ⟨g,0,none⟩ zod9 .i64 .i64 8 252 (by omega) (by omega) (by rw [zgv9]; omega)
 rw [zgv9,arr_el] at this
 rw [this]
 simp [slicedAt,go_sem]
theorem Fv.rdMid {w : World} {g : Nat} {xs : List Int} (h : Fv w g xs) : Rd .u8 w (.slice (some ⟨g,8,none⟩) 244 248) ((xs.drop 8).take 244):=by
 have hl:=h.2.1
 have e : ((xs.drop 8).take 244).length = 244:=by rw [List.length_take,List.length_drop]; omega
 refine ⟨_,248,by rw [e],by omega,by unfold maxLen; omega,(fun e => by cases e),.inr ⟨g,8,rfl,fun i hi => ?_⟩⟩
 rw [e] at hi
 rw [h.cell (by omega),zn3,zn3,List.getElem?_take,if_pos hi,List.getElem?_drop]
theorem zqi9 : (Tryz.prog.info? 5).map (fun i => (i.zero,i.size,i.bytes)) = some (some (.int .u8 0),1,1):=by kernel_rfl
theorem zsr9 : (Tryz.prog.info? 63).map (·.size) = some 2:=by kernel_rfl
def Bkv (w : World) (b : Nat) (K : Int) (v : Value) : Prop:=w.heap[b]? = some (.cells #[.int .i64 K,v] 63 (0,0))
section
variable {w w' : World} {b : Nat} {K : Int} {v : Value}
theorem Bkv.range (h : Bkv w b K v) : w.rangeAt b 0 [.int .i64 K,v]:=fun j u hu => by
 rw [Nat.zero_add,cell_of_row w b j _ _ (0,0) h,List.getElem?_toArray]
 exact hu
theorem Bkv.load (h : Bkv w b K v) : (loadVar 63 ⟨b,0,none⟩).run Tryz.prog w = .ok (blk K v) w:=
 run_loadVar_mid (P:=Tryz.prog) w b 0 63 [.int .i64 K,v] _ h.range Tryz.underlying63 rfl zsr9
theorem Bkv.c0 (h : Bkv w b K v) : w.cell? ⟨b,0,none⟩ = some (.int .i64 K):=by rw [cell_of_row w b 0 _ _ (0,0) h]; rfl
theorem Bkv.c1 (h : Bkv w b K v) : w.cell? ⟨b,1,none⟩ = some v:=by rw [cell_of_row w b 1 _ _ (0,0) h]; rfl
theorem Bkv.fz (h : Bkv w b K v) (i : Nat) : w.frozen? ⟨b,i,none⟩ = false:=frozen_of_row w b i _ _ h
theorem Bkv.lt (h : Bkv w b K v) : b < w.heap.size:=(Array.getElem?_eq_some_iff.1 h).1
theorem Bkv.tch {S : Nat -> Prop} (h : Bkv w b K v) (ht : Tch S w w') (hb : ¬ S b) : Bkv w' b K v:=by unfold Bkv; rw [ht.block b h.lt hb]; exact h
theorem Bkv.below (h : Bkv w b K v) (hb : Below w.heap.size w w') : Bkv w' b K v:=h.tch (S:=fun _ => False) (Tch.of_below hb) (fun e => e)
theorem Bkv.put (h : Bkv w b K v) (J : Int) (u : Value) : Bkv ((w.setCell ⟨b,0,none⟩ (.int .i64 J)).setCell ⟨b,1,none⟩ u) b J u:=by
 have h1:=heap_setCell_same w b 0 _ _ (.int .i64 J) h
 have h2:=heap_setCell_same _ b 1 _ _ u h1
 exact h2
theorem zr9 (w : World) (K : Int) (v : Value) : Bkv (w.alloc (.cells #[.int .i64 K,v] 63)) w.heap.size K v:=heap_alloc_new w _
end
end Go.Proofs.YtjhccpijpffahaaGreat
