import Derived.Test.YtjhccpijpffahaaGreatPUSet
import Derived.ChangeKeysEq
import Derived.Deep.RegionHeld3
set_option maxRecDepth 100000
set_option linter.unusedVariables false
set_option linter.unusedSimpArgs false
set_option maxHeartbeats 8000000
namespace Go.Proofs.YtjhccpijpffahaaGreat
open Go.RowKit Pl
theorem zru9 : Tryz.prog.cellsOf 5 = 1:=by kernel_rfl
theorem zdp9 (w : World) (d : Nat) (xs ys : List Int) (hx : xs.length = 256) (hy : ys.length = 256) : ∀ is : List Nat,(∀ i ∈ is,i < 256) →
  (Op.eqItems (d + 1) 5 1 (bcs xs).toArray (bcs ys).toArray is).run Tryz.prog w = .ok (is.all fun i => decide (xs.getD i 0 = ys.getD i 0)) w
 | [],_ => by simp [Op.eqItems]
 | i :: is,h => by
  have hi:=h i (by simp)
  have hp : ∀ zs : List Int,zs.length = 256 -> (part 5 (bcs zs).toArray (i * 1)).run Tryz.prog w = .ok (.int .u8 (zs.getD i 0)) w:=fun zs hz => run_part_plain w (by kernel_rfl) (by
   rw [Nat.mul_one,List.getElem?_toArray,bcs,List.getElem?_map,List.getElem?_eq_getElem (by omega),zn3,List.getElem?_eq_getElem (by omega)]
   rfl)
  have he : (Op.equalIn (d + 1) 5 (.int .u8 (xs.getD i 0)) (.int .u8 (ys.getD i 0))).run Tryz.prog w = .ok (decide (xs.getD i 0 = ys.getD i 0)) w:=by
   have:=run_equalIn_int (P:=Tryz.prog) w d 5 .u8 .u8 (xs.getD i 0) (ys.getD i 0) Tryz.underlying5
   rw [this]
   congr 1
  simp only [Op.eqItems,Sem.run_bind,hp xs hx,hp ys hy,he,Result.andThen_ok]
  have ih:=zdp9 w d xs ys hx hy is (fun j hj => h j (by simp [hj]))
  by_cases c : xs.getD i 0 = ys.getD i 0
  ·simp only [c,decide_true,if_true,List.all_cons,Bool.true_and]
   simpa using ih
  ·rw [zn3,zn3] at c
   simp [c]
theorem eq_frm (w : World) (xs ys : List Int) (hx : xs.length = 256) (hy : ys.length = 256) : (Op.equalIn 10000 156 (.agg (bcs xs).toArray) (.agg (bcs ys).toArray)).run Tryz.prog w = .ok (decide (xs = ys)) w:=by
 obtain ⟨i,hi,_⟩:=elem8.info
 rw [run_equalIn_array w 9999 _ _ Tryz.underlying156 hi,zru9]
 have:=zdp9 w 9998 xs ys hx hy (List.range 256) (fun i hi => by simpa using hi)
 rw [this]
 congr 1
 by_cases c : xs = ys
 ·subst c; simp
 ·rw [decide_eq_false c,List.all_eq_false]
  apply Classical.byContradiction
  intro hno
  apply c
  apply List.ext_getElem (by omega)
  intro j h1 h2
  apply Classical.byContradiction
  intro hne
  refine hno ⟨j,by simp; omega,?_⟩
  simp only [zn3,List.getElem?_eq_getElem h1,List.getElem?_eq_getElem h2,Option.getD_some]
  simpa using hne
def GetR (n : Int) (xs : List Int) (w : World) (e : Ending) (w' : World) : Prop:=
 ∃ v,e = .returned (.tuple #[blk (getB n xs).1 v,.int .i64 (getE n xs)]) /\ Rd .u8 w' v (getB n xs).2 /\ Below w.heap.size w w' /\ ∀ j,v.ownBlock = some j -> w.heap.size <= j
theorem zei9 {n : Int} {xs : List Int} {w w' : World} {c : Int} (hc : getE n xs = c) (h0 : c ≠ 0) (hb : Below w.heap.size w w') : GetR n xs w (.returned (.tuple #[blk 0 (.slice none 0 0),.int .i64 c])) w':=by
 have e : getB n xs = (0,[]):=by unfold getB; rw [if_neg (by rw [hc]; exact h0)]
 refine ⟨.slice none 0 0,by rw [e,hc],?_,hb,fun j e => by cases e⟩
 rw [e]
 exact ⟨none,0,rfl,zn6 _,by unfold maxLen; omega,fun _ => rfl,.inl rfl⟩
theorem zj9 {fn : Func} {p u : Tmp} {ty : TypeId} (h : fn.results = #[.cell p ty,.tmp u]) (tmps : Array Value) (P : Program) (w : World) (b : Nat) (v x : Value) (ha : tmps.getD p undef = .pointer (some ⟨b,0,none⟩))
  (hl : (loadVar ty ⟨b,0,none⟩).run P w = .ok v w) (hx : tmps.getD u undef = x) : (results fn tmps).run P w = .ok (.tuple #[v,x]) w:=by
 rw [results_cell_tmp h,ha]
 simp [asAddr,Result.andThen,hl,hx]
theorem zsk9 (n : Int) (v : Value) (xs : List Int) (w : World) (hr : Rd .u8 w v xs) (hl : xs.length ≠ 256) :
  Calls Tryz.prog 110 #[.int .i64 n,v] w fun e w' => GetR n xs w e w':=by
 obtain ⟨a,cap,rfl,h1,h2,_⟩:=id hr
 have HE : Hid (getE n xs = 1):=by show _ = _; unfold getE; rw [if_pos hl]
 have hl9 : xs.length <= 9223372036854775807:=by unfold maxLen at h2; omega
 obtain ⟨W1,hW1⟩:=exN (w.alloc (.cells #[.int .i64 0,.slice none 0 0] 63))
 have b1 : Hid (Below w.heap.size w W1):=by rw [<- hW1]; exact (Below.refl _ _).alloc (zn6 _) _
 have Q1 : Hid (Bkv W1 w.heap.size 0 (.slice none 0 0)):=by rw [<- hW1]; exact zr9 w _ _
 have q0:=Q1.out.c0
 have q1:=Q1.out.c1
 have f0:=Q1.out.fz 0
 have f1:=Q1.out.fz 1
 have HLD:=hideP (Q1.out.put 0 (.slice none 0 0)).load
 have HB : Hid (Below w.heap.size w ((W1.setCell ⟨w.heap.size,0,none⟩ (.int .i64 0)).setCell ⟨w.heap.size,1,none⟩ (.slice none 0 0))):=(b1.out.setCell (zn6 _) _).setCell (zn6 _) _
 have HN : Hid (xs.length ≠ 256):=hl
 have hne : ((xs.length : Int) == 256) = false:=by rw [beq_eq_false_iff_ne]; omega
 generalize xs.length = l at *
 clear hl hr h2
 go_enter Tryz.func110,Tryz.ntmps110
 go_wp2_with fail
 refine bodyPost_ret (v:=.tuple #[blk 0 (.slice none 0 0),.int .i64 1]) (zj9 (p:=4) (ty:=63) rfl _ _ _ w.heap.size _ _ rfl HLD.out rfl) rfl ?_
 exact zei9 HE.out (by decide) HB.out
end Go.Proofs.YtjhccpijpffahaaGreat
