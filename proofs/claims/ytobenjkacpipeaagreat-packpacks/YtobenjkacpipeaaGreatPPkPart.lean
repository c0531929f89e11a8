import Derived.Test.YtobenjkacpipeaaGreatPPkStep
import Derived.Test.YtobenjkacpipeaaGreatPLen8
import Derived.Test.YtobenjkacpipeaaGreatPPkSnk
import Derived.Test.YtobenjkacpipeaaGreatPFCat
import Derived.Test.YtobenjkacpipeaaGreatPFFill
import Derived.Test.YtobenjkacpipeaaGreatPFEnc2
import Derived.Laws.EntriesVeiled
set_option maxRecDepth 100000
set_option linter.unusedVariables false
set_option linter.unusedSimpArgs false
set_option maxHeartbeats 8000000
namespace Go.Proofs.YtobenjkacpipeaaGreat
open Go.RowKit Pl
def vOf (i : Nat) (x : Sq) : Int := if i = 0 then x.1 else if i = 1 then x.2.1 - 4 else x.2.2 - 1
def cOf (v : Int) : Nat := Lib.bitLen v.toNat
def pFn (i : Nat) : Nat := if i = 0 then 86 else if i = 1 then 87 else 88
theorem part0 (x y z : Int) (w : World) : Calls Tryz.prog 86 #[.agg #[.int .i64 x, .int .i64 y, .int .i64 z]] w fun e w' => e = .returned (.int .i64 x) /\ Below w.heap.size w w' := by
 have HB : Hid (Below w.heap.size w (w.alloc (.cells #[.int .i64 x, .int .i64 y, .int .i64 z] 55))) := (Below.refl _ _).alloc (Nat.le_refl _) _
 go_enter Tryz.func86, Tryz.ntmps86
 go_wp2_with fail
 go_ret
 exact ⟨rfl, HB.out⟩
theorem part1 (x y z : Int) (w : World) (h : -4611686018427387904 <= y /\ y <= 4611686018427387904) : Calls Tryz.prog 87 #[.agg #[.int .i64 x, .int .i64 y, .int .i64 z]] w fun e w' => e = .returned (.int .i64 (y - 4)) /\ Below w.heap.size w w' := by
 have HB : Hid (Below w.heap.size w (w.alloc (.cells #[.int .i64 x, .int .i64 y, .int .i64 z] 55))) := (Below.refl _ _).alloc (Nat.le_refl _) _
 go_enter Tryz.func87, Tryz.ntmps87
 go_wp2_with fail
 go_ret
 exact ⟨rfl, HB.out⟩
theorem part2 (x y z : Int) (w : World) (h : -4611686018427387904 <= z /\ z <= 4611686018427387904) : Calls Tryz.prog 88 #[.agg #[.int .i64 x, .int .i64 y, .int .i64 z]] w fun e w' => e = .returned (.int .i64 (z - 1)) /\ Below w.heap.size w w' := by
 have HB : Hid (Below w.heap.size w (w.alloc (.cells #[.int .i64 x, .int .i64 y, .int .i64 z] 55))) := (Below.refl _ _).alloc (Nat.le_refl _) _
 go_enter Tryz.func88, Tryz.ntmps88
 go_wp2_with fail
 go_ret
 exact ⟨rfl, HB.out⟩
def SqOk (x : Sq) : Prop := ∀ i, i < 3 -> 0 <= vOf i x /\ vOf i x <= 65535
theorem znl9 (i : Nat) (hi : i < 3) (x : Sq) (hx : SqOk x) (w : World) : Calls Tryz.prog (pFn i) #[.agg #[.int .i64 x.1, .int .i64 x.2.1, .int .i64 x.2.2]] w fun e w' => e = .returned (.int .i64 (vOf i x)) /\ Below w.heap.size w w' := by
 have h1 := hx 1 (by omega)
 have h2 := hx 2 (by omega)
 simp only [vOf] at h1 h2
 match i, hi with
 | 0, _ => exact part0 _ _ _ w
 | 1, _ => exact part1 _ _ _ w (by simp at h1; omega)
 | 2, _ => exact part2 _ _ _ w (by simp at h2; omega)
theorem zia9 (v : Int) (w : World) (h : 0 <= v /\ v <= 65535) : Calls Tryz.prog 89 #[.int .i64 v] w fun e w' => e = .returned (.int .i64 (cOf v : Int)) /\ w' = w := by
 have hv : v % 18446744073709551616 = v := by omega
 go_enter Tryz.func89, Tryz.ntmps89
 go_wp2_with fail
 refine (zqf9 v w h.1 h.2).mono ?_
 rintro e w1 ⟨rfl, rfl⟩
 go_wp2_with fail
 go_ret
 exact ⟨rfl, rfl⟩
theorem cOf_le {v : Int} (h : 0 <= v /\ v <= 65535) : cOf v <= 16 := by
 have e : 2 ^ 16 = 65536 := by decide
 exact Lib.bitLen_le v.toNat 16 (by omega) (by omega)
def pArr : Array Value := #[.func (.func 86) #[] #[], .func (.func 87) #[] #[], .func (.func 88) #[] #[]]
theorem zqu9 : pArr.all (·.oneCell') = true := by kernel_rfl
theorem zgc9 (w : World) : Calls Tryz.prog 53 #[] w fun e w' => e = .returned (.agg pArr) /\ Below w.heap.size w w' := by
 have HB : Hid (Below w.heap.size w (w.alloc (.cells pArr 81))) := (Below.refl _ _).alloc (Nat.le_refl _) _
 have HL : Hid ((loadVar 81 ⟨w.heap.size, 0, none⟩).run Tryz.prog (w.alloc (.cells pArr 81)) = .ok (.agg pArr) (w.alloc (.cells pArr 81))) := by
  have hb := heap_alloc_new w (.cells pArr 81)
  exact run_loadVar_mid (P := Tryz.prog) _ w.heap.size 0 81 pArr.toList _ (fun j v hv => by
   rw [Nat.zero_add, cell_of_row _ w.heap.size j _ _ (0, 0) hb]
   simpa using hv) Tryz.underlying81 rfl (by kernel_rfl)
 go_enter Tryz.func53, Tryz.ntmps53
 go_wp2_with (refine zl9 w rfl 81 (.tmp 0) (.tmp 1) rfl #[.nilFunc, .nilFunc, .nilFunc] pArr rfl rfl (by kernel_rfl) rfl zqu9 ?_)
 refine bodyPost_ret (v := .agg pArr) ?_ rfl ⟨rfl, HB.out⟩
 exact zbo9 (p := 0) (ty := 81) rfl _ _ _ w.heap.size _ rfl HL.out
def cods (i : Nat) (ps : List Sq) : List Int := ps.map fun x => (cOf (vOf i x) : Int)
def cts17 (cs : List Int) : List Int := (List.range 17).map (ctN cs cs.length)
def strR (cs : List Int) : List Int :=
 (putR (shR (cts17 cs) 6).2 6).2 ++ digits (encR (shR (cts17 cs) 6).2 6 cs).2.length ++ (encR (shR (cts17 cs) 6).2 6 cs).2
theorem zex9 (cs : List Int) : (cts17 cs).length = 17 := by simp [cts17]
theorem zek9 (cs : List Int) (c : Nat) (hc : c < 17) : (cts17 cs).getD c 0 = ctN cs cs.length c := by simp [cts17, List.getD_eq_getElem?_getD, hc]
theorem zyb9 (c : List Int) (i k : Nat) (hi : i < k) (h : 0 < c.getD i 0) : 0 < std c k := by
 have h1 : 0 < std c (i + 1) := by simp only [std]; rw [if_pos h]; omega
 exact Nat.lt_of_lt_of_le h1 (zou9 c (show i + 1 <= k from hi))
structure CodOk (cs : List Int) : Prop where
 le : cs.length <= 65536
 some : 1 <= cs.length
 each : ∀ i, 0 <= cs.getD i 0 /\ cs.getD i 0 <= 16
theorem CodOk.may {cs : List Int} (h : CodOk cs) : mayCF (cts17 cs) 6 = true := by
 have hst : std (cts17 cs) 17 <= 17 := std_le (cts17 cs) 17
 obtain ⟨c, hc⟩ := Int.eq_ofNat_of_zero_le (h.each 0).1
 have hb := (h.each 0).2
 have hp := zil9 cs 0 (by have := h.some; omega) c hc
 have hs := zyb9 (cts17 cs) c 17 (by omega) (by rw [zek9 cs c (by omega)]; exact hp)
 unfold mayCF
 rw [decide_eq_true_eq, zex9]
 refine ⟨by omega, by omega, by omega, fun i hi => ?_, hs, ?_⟩
 ·rw [zek9 cs i hi]
  have h1 := ctN_bd cs cs.length i
  have h2 := h.le
  omega
 ·have e : (2 : Nat) ^ (6 : Int).toNat = 64 := by decide
  omega
theorem zaal9 : (Tryz.prog.info? 113).map (fun i => (i.zero, i.size)) = some (some (.agg (ics 17 (fun _ => 0)).toArray), 17) := by kernel_rfl
theorem zyc9 (g : Nat) (w : World) : (Instr.sliceAt 113 (.pointer (some ⟨g, 0, none⟩)) none none none).run Tryz.prog w = .ok (.slice (some ⟨g, 0, none⟩) 17 17) w := by
 have hL : Tryz.prog.arrayLen 113 = 17 := by kernel_rfl
 have hE : Tryz.prog.elem 113 = 3 := by kernel_rfl
 have ht : Tryz.prog.underlying 113 = some (.array (Tryz.prog.arrayLen 113) (Tryz.prog.elem 113)) := by rw [hL, hE]; exact Tryz.underlying113
 rw [run_sliceAt_array_all w 113 _ ht, hL, hE]
 simp [slicedAt, go_sem]
structure Pm (w W : World) (C Y n : Nat) (cs : List Int) (k : Nat) : Prop where
 iv : Iv W C 113 17 (ctN cs k)
 sy : Owns .i64 3 W (.slice (some ⟨Y, 0, none⟩) n n) (cs.take k ++ List.replicate (n - k) 0)
 bel : Below w.heap.size w W
 cn : w.heap.size <= C
 yn : w.heap.size <= Y
 ne : C ≠ Y
section
variable {w W W' : World} {C Y n : Nat} {cs : List Int} {k : Nat}
theorem Pm.blw (h : Pm w W C Y n cs k) (hb : Below W.heap.size W W') : Pm w W' C Y n cs k := ⟨h.iv.below hb, h.sy.below hb, h.bel.trans (hb.mono h.bel.size), h.cn, h.yn, h.ne⟩
theorem Pm.next (h : Pm w W C Y n cs k) (hk : k < n) (hn : cs.length = n) (c : Nat) (hc : cs.getD k 0 = (c : Int)) (hc16 : c <= 16) :
  Pm w ((W.setCell ⟨Y, k, none⟩ (.int .i64 (c : Int))).setCell ⟨C, c, none⟩ (.int .i64 (ctN cs k c + 1))) C Y n cs (k + 1) := by
 have t1 : Tch (fun j => j = Y) W (W.setCell ⟨Y, k, none⟩ (.int .i64 (c : Int))) := (Tch.refl (fun j => j = Y) W).setCell (p := ⟨Y, k, none⟩) (fun _ => rfl) _
 have t2 : Tch (fun j => j = C) (W.setCell ⟨Y, k, none⟩ (.int .i64 (c : Int))) ((W.setCell ⟨Y, k, none⟩ (.int .i64 (c : Int))).setCell ⟨C, c, none⟩ (.int .i64 (ctN cs k c + 1))) := (Tch.refl (fun j => j = C) _).setCell (p := ⟨C, c, none⟩) (fun _ => rfl) _
 have i1 : Iv (W.setCell ⟨Y, k, none⟩ (.int .i64 (c : Int))) C 113 17 (ctN cs k) := h.iv.tch t1 (fun e => h.ne e)
 have s1 := h.sy.set k (c : Int)
 have b1 : Below w.heap.size w (W.setCell ⟨Y, k, none⟩ (.int .i64 (c : Int))) := h.bel.trans (t1.below h.bel.size (fun j e => by rw [e]; exact h.yn))
 refine ⟨(i1.set c (by omega) (ctN cs k c + 1)).congr (fun i hi => ?_), ?_, b1.trans (t2.below b1.size (fun j e => by rw [e]; exact h.cn)), h.cn, h.yn, h.ne⟩
 ·unfold upd
  simp only [ctN]
  rw [hc]
  by_cases e : i = c
  ·subst e; rw [if_pos rfl, if_pos rfl]
  ·rw [if_neg e, if_neg (by omega)]; omega
 ·have e : (cs.take k ++ List.replicate (n - k) 0).set k (c : Int) = cs.take (k + 1) ++ List.replicate (n - (k + 1)) 0 := by
   have hl : (cs.take k).length = k := by rw [List.length_take]; omega
   rw [List.set_append_right _ _ (by omega), hl, Nat.sub_self, show n - k = (n - (k + 1)) + 1 by omega, List.replicate_succ, List.set_cons_zero]
   rw [show cs.take (k + 1) = cs.take k ++ [cs.getD k 0] by rw [List.take_succ_eq_append_getElem (by omega), List.getD_eq_getElem?_getD, List.getElem?_eq_getElem (by omega)]; rfl, hc, List.append_assoc]
   rfl
  rw [e] at s1
  exact s1.tch t2 (fun j hj e => by simp only [Value.ownBlock, Option.some.injEq] at hj; exact h.ne (by omega))
end
theorem zqx9 (n : Nat) : (madeCells (Value.int .i64 0).cells (n * 1)).toList = (List.replicate n (0 : Int)).map (Value.int .i64) := by
 apply List.ext_getElem?
 intro i
 by_cases hi : i < n
 ·simp [madeCells, Value.cells, List.getElem?_range, hi, Nat.mod_one]
 ·rw [List.getElem?_eq_none (by rw [Array.length_toList, size_madeCells]; omega), List.getElem?_eq_none (by simp; omega)]
end Go.Proofs.YtobenjkacpipeaaGreat
