import Derived.Test.YtobenjkacpipeaaGreatPMem
import Derived.Deep.WholeRow
import Derived.Deep.MidRow
import Derived.Laws.ResultCell
import Derived.Test.YtobenjkacpipeaaGreatPFPl
set_option maxRecDepth 100000
set_option linter.unusedVariables false
set_option linter.unusedSimpArgs false
set_option maxHeartbeats 8000000
namespace Go.Proofs.YtobenjkacpipeaaGreat
open Go.RowKit Pl
def ics (n : Nat) (c : Nat -> Int) : List Value := (List.range n).map fun i => .int .i64 (c i)
theorem zp9 (n : Nat) (c : Nat -> Int) : (ics n c).length = n := by simp [ics]
theorem zcs9 (n : Nat) (c : Nat -> Int) : (ics n c).toArray.size = n := by simp [ics]
theorem zdv9 (n : Nat) (c : Nat -> Int) : (ics n c).toArray.all (·.oneCell') = true := by
 refine all_oneCell_toArray (fun v hv => ?_)
 simp only [ics, List.mem_map] at hv
 obtain ⟨i, _, rfl⟩ := hv
 rfl
theorem zfg9 (n : Nat) (c : Nat -> Int) (i : Nat) (h : i < n) : (ics n c)[i]? = some (.int .i64 (c i)) := by simp [ics, h]
theorem zli9 {n : Nat} {c d : Nat -> Int} (h : ∀ i, i < n -> c i = d i) : ics n c = ics n d := by
 unfold ics
 refine List.map_congr_left fun i hi => ?_
 rw [h i (by simpa using hi)]
def upd (c : Nat -> Int) (i : Nat) (v : Int) (j : Nat) : Int := if j = i then v else c j
theorem zun9 (n : Nat) (c : Nat -> Int) (i : Nat) (v : Int) (h : i < n) : (ics n c).set i (.int .i64 v) = ics n (upd c i v) := by
 apply List.ext_getElem?
 intro j
 rw [List.getElem?_set]
 by_cases e : i = j
 ·subst e
  rw [if_pos rfl, if_pos (by rw [zp9]; exact h), zfg9 _ _ _ h]
  simp [upd]
 ·rw [if_neg e]
  by_cases hj : j < n
  ·rw [zfg9 _ _ _ hj, zfg9 _ _ _ hj]
   simp only [upd]
   rw [if_neg (fun h => e h.symm)]
  ·rw [List.getElem?_eq_none (by rw [zp9]; omega), List.getElem?_eq_none (by rw [zp9]; omega)]
def Iv (w : World) (g : Nat) (t : TypeId) (n : Nat) (c : Nat -> Int) : Prop := w.heap[g]? = some (.cells (ics n c).toArray t (0, 0))
section
variable {w : World} {g : Nat} {t : TypeId} {n : Nat} {c : Nat -> Int}
theorem Iv.at_ (h : Iv w g t n c) (i : Nat) (hi : i < n) : w.cell? ⟨g, i, none⟩ = some (.int .i64 (c i)) := by
 rw [cell_of_row w g i _ _ (0, 0) h]
 simp [ics, hi]
theorem Iv.fz (h : Iv w g t n c) (i : Nat) : w.frozen? ⟨g, i, none⟩ = false := frozen_of_row w g i _ _ h
theorem Iv.lt (h : Iv w g t n c) : g < w.heap.size := (Array.getElem?_eq_some_iff.1 h).1
theorem Iv.tch {S : Nat -> Prop} {w' : World} (h : Iv w g t n c) (ht : Tch S w w') (hg : ¬ S g) : Iv w' g t n c := by
 unfold Iv; rw [ht.block g h.lt hg]; exact h
theorem Iv.below {w' : World} (h : Iv w g t n c) (hb : Below w.heap.size w w') : Iv w' g t n c := h.tch (S := fun _ => False) (Tch.of_below hb) (fun e => e)
theorem Iv.set (h : Iv w g t n c) (i : Nat) (hi : i < n) (v : Int) : Iv (w.setCell ⟨g, i, none⟩ (.int .i64 v)) g t n (upd c i v) := by
 unfold Iv
 have h1 := heap_setCell_same w g i _ _ (.int .i64 v) h
 rw [h1, <- zun9 n c i v hi]
 simp
theorem Iv.congr {d : Nat -> Int} (h : Iv w g t n c) (e : ∀ i, i < n -> c i = d i) : Iv w g t n d := by
 unfold Iv; rw [<- zli9 e]; exact h
theorem Iv.range (h : Iv w g t n c) : w.rangeAt g 0 (ics n c) := fun j v hv => by
 rw [Nat.zero_add, cell_of_row w g j _ _ (0, 0) h]
 simpa using hv
theorem iv_new (w : World) (t : TypeId) (n : Nat) (c : Nat -> Int) : Iv (w.alloc (.cells (ics n c).toArray t)) w.heap.size t n c := heap_alloc_new w _
end
theorem zbi9 {w : World} {b : Nat} {C : Array Value} {t : TypeId} {n : Nat} (h : w.heap[b]? = some (.cells C t (0, 0))) (hn : C.size = n) : w.there b 0 n := fun j hj => by
 rw [Nat.zero_add]
 refine ⟨?_, frozen_of_row w b j _ _ h⟩
 rw [cell_of_row w b j _ _ (0, 0) h]
 simp [hn, hj]
theorem zim9 {fn : Func} {p : Tmp} {ty : TypeId} (h : fn.results = #[.cell p ty]) (tmps : Array Value) (P : Program) (w : World) :
  (results fn tmps).run P w = ((asAddr (tmps.getD p undef)).run P w).andThen fun a w₁ => (loadVar ty a).run P w₁ := by
 simp only [results, h]
 simp [Sem.run_bind, Result.andThen]
theorem zbo9 {fn : Func} {p : Tmp} {ty : TypeId} (h : fn.results = #[.cell p ty]) (tmps : Array Value) (P : Program) (w : World) (b : Nat) (v : Value) (ha : tmps.getD p undef = .pointer (some ⟨b, 0, none⟩))
  (hl : (loadVar ty ⟨b, 0, none⟩).run P w = .ok v w) : (results fn tmps).run P w = .ok v w := by
 rw [zim9 h, ha]
 simp [asAddr, Result.andThen, hl]
theorem zbe9 (b : Nat) : ∀ (vs : List Value) (o : Nat) (w : World), Tch (fun k => k = b) w (w.setCells b o vs)
 | [], _, w => Tch.refl _ w
 | v :: r, o, w => by
  have h1 : Tch (fun k => k = b) w (w.setCell ⟨b, o, none⟩ v) := Tch.setCell (Tch.refl (fun k => k = b) w) (p := ⟨b, o, none⟩) (fun _ => rfl) v
  have h2 := zbe9 b r (o + 1) (w.setCell ⟨b, o, none⟩ v)
  exact h1.trans h2 (fun _ _ e => e)
section
variable {P : Program}
theorem zl9 (w : World) {ops : Array Oper} {rest : List Oper} {op : Oper} {a : Act} {Q : Exit -> Act -> World -> Prop} (hgd : op.guard = none) (ty : TypeId) (x y : Operand) (ho : op.op = .store ty x y)
  (c c' : Array Value) (hx : a.eval x = .pointer (some ⟨w.heap.size, 0, none⟩)) (hy : a.eval y = .agg c') (hi : (P.info? ty).map (·.size) = some c'.size) (hs : c.size = c'.size) (h1 : c'.all (·.oneCell') = true)
  (h : wpList P ops Q rest (a.put op.dst undef) (w.alloc (.cells c' ty))) : wpList P ops Q (op :: rest) a (w.alloc (.cells c ty)) := by
 refine wpList_plain hgd fun K hK => ?_
 have hrun := run_storeAt_new (P := P) w ty c c' hi hs h1
 unfold Oper.wp execOp
 simp only [ho, hx, hy, Sem.run_bind, Sem.run_pure, Result.andThen_ok, hrun]
 exact hK _ _ h
end
theorem zhe9 : (Tryz.prog.info? 179).map (fun i => (i.zero, i.size)) = some (some (.agg (ics 1536 (fun _ => 0)).toArray), 1536) := by kernel_rfl
theorem zqn9 : (Tryz.prog.info? 145).map (fun i => (i.zero, i.size)) = some (some (.agg (ics 64 (fun _ => 0)).toArray), 64) := by kernel_rfl
theorem zih9 : (Tryz.prog.info? 148).map (fun i => (i.zero, i.size)) = some (some (.agg (ics 576 (fun _ => 0)).toArray), 576) := by kernel_rfl
theorem zta9 (g z : Nat) (hz : z <= 512) (w : World) : (Instr.sliceAt 179 (.pointer (some ⟨g, 0, none⟩)) none (some (.int .i64 (z : Int))) none).run Tryz.prog w = .ok (.slice (some ⟨g, 0, none⟩) z 512) w := by
 have hL : Tryz.prog.arrayLen 179 = 512 := by kernel_rfl
 have hE : Tryz.prog.elem 179 = 177 := by kernel_rfl
 have ht : Tryz.prog.underlying 179 = some (.array (Tryz.prog.arrayLen 179) (Tryz.prog.elem 179)) := by rw [hL, hE]; exact Tryz.underlying179
 rw [run_sliceAt_array_h w 179 _ ht .i64 z (by omega) (by rw [hL]; omega), hL, hE]
 simp [slicedAt, go_sem]
def tc (f : Nat -> Nat) (L z j i : Nat) : Int := if i % 3 = 0 /\ i / 3 < z then (tj f L z j (i / 3) : Int) else 0
theorem zyj9 (f : Nat -> Nat) (L z i : Nat) : tc f L z 0 i = 0 := by unfold tc; rw [zrc9]; split <;> rfl
theorem tc_at (f : Nat -> Nat) (L z j p : Nat) (hp : p < z) : tc f L z j (p * 3) = (tj f L z j p : Int) := by
 unfold tc; rw [if_pos ⟨by omega, by omega⟩, show p * 3 / 3 = p by omega]
theorem zzi9 {z : Nat} (hz : Zok z) (f : Nat -> Nat) (L j k : Nat) (hj : j < z) (hk : k < L) (h1 : cu f k <= j) (h2 : j < cu f (k + 1)) (i : Nat) :
  upd (tc f L z j) ((j * stp z) % z * 3) (k : Int) i = tc f L z (j + 1) i := by
 unfold upd tc
 have hm : (j * stp z) % z < z := Nat.mod_lt _ (by omega)
 by_cases e : i = (j * stp z) % z * 3
 ·rw [if_pos e, if_pos ⟨by omega, by omega⟩, zlm9 hz f L j (i / 3) k hj (by omega) hk h1 h2, if_pos (by omega)]
 ·rw [if_neg e]
  by_cases c : i % 3 = 0 /\ i / 3 < z
  ·rw [if_pos c, if_pos c, zlm9 hz f L j (i / 3) k hj c.2 hk h1 h2, if_neg (by omega)]
  ·rw [if_neg c, if_neg c]
theorem zui9 (j st z : Nat) : ((j * st) % z + st) % z = ((j + 1) * st) % z := by
 rw [Nat.add_mod, Nat.mod_mod, <- Nat.add_mod, Nat.succ_mul]
set_option maxRecDepth 100000 in
theorem zga9 (v : Value) (s : List Int) (lg z : Nat) (w : World) (hr : Rd .i64 w v s) (hk : Sok s lg) (hz : 2 ^ lg = z) :
  Calls Tryz.prog 144 #[v, .int .i64 z] w fun e w' => e = .returned (.agg (ics 1536 (tc (nn s) s.length z z)).toArray) /\ Below w.heap.size w w' := by
 obtain ⟨a, cap, rfl, hlc, hcm, _, hcc⟩ := hr
 have HC : Hid (s = [] ∨ ∃ b o, a = some ⟨b, o, none⟩ /\ ∀ i, i < s.length -> w.cell? ⟨b, o + i, none⟩ = some (.int .i64 (s.getD i 0))) := hcc
 have HK : Hid (Sok s lg) := hk
 have HZ : Hid (2 ^ lg = z) := hz
 have HZK : Hid (Zok z) := by show Zok z; rw [<- hz]; exact hk.fok.zok
 have hz1 := HZK.out.pos
 have hlen := hk.len
 have HS : Hid (cu (nn s) s.length = z) := by show _ = _; rw [hk.fok.sum, hz]
 obtain ⟨hv37, hi37⟩ := zero_of_info zhe9
 have HI37 : Hid ((Tryz.prog.info? 179).map (·.size) = some 1536) := hi37
 obtain ⟨st, hst⟩ : ∃ st, Hid (stp z = st) := ⟨_, rfl⟩
 have hst1 : (z : Int) / 2 + (z : Int) / 8 + 3 = (st : Int) := by rw [<- hst.out]; unfold stp; omega
 have hst2 : 0 < st /\ st <= 400 := by rw [<- hst.out]; unfold stp; omega
 clear hcc hi37 hk hz
 obtain ⟨Z, hZ⟩ : ∃ Z, Hid ((ics 1536 (fun _ => 0)).toArray = Z) := ⟨_, rfl⟩
 rw [hZ.out] at hv37
 obtain ⟨F, hF⟩ : ∃ F, Hid (ics 1536 (tc (nn s) s.length z z) = F) := ⟨_, rfl⟩
 rw [hF.out]
 go_enter Tryz.func144, Tryz.ntmps144
 go_wp2_with fail
 obtain ⟨g, hg⟩ : ∃ g, w.heap.size + 1 = g := ⟨_, rfl⟩
 have C0 : Hid (Iv ((w.alloc (.cells Z 179)).alloc (.cells Z 179)) g 179 1536 (tc (nn s) s.length z 0)) := by
  have h0 := iv_new (w.alloc (.cells Z 179)) 179 1536 (fun _ => 0)
  rw [hZ.out] at h0
  rw [<- hg]
  have h1 := h0.congr (d := tc (nn s) s.length z 0) (fun i _ => (zyj9 _ _ _ i).symm)
  rw [World.size_alloc] at h1
  exact h1
 have B0 : Hid (Below w.heap.size w ((w.alloc (.cells Z 179)).alloc (.cells Z 179))) := ((Below.refl _ _).alloc (Nat.le_refl _) _).alloc (by simp) _
 have R0 : Hid (((w.alloc (.cells Z 179)).alloc (.cells Z 179)).heap[w.heap.size]? = some (.cells Z 179 (0, 0))) := by
  show _ = _
  rw [Below.heap_alloc _ _ _ (by simp)]
  exact heap_alloc_new w _
 have HZL : Hid (Z.size = 1536) := by show _ = _; rw [<- hZ.out, zcs9]
 obtain ⟨W0, hW0⟩ : ∃ W0, Hid ((w.alloc (.cells Z 179)).alloc (.cells Z 179) = W0) := ⟨_, rfl⟩
 rw [hW0.out] at C0 B0 R0 ⊢
 clear hv37
 rw [hg]
 go_loopw [7, 18] (fun x i wr => ∃ (k A : Nat), k <= s.length /\ i = .int .i64 k /\ x = .int .i64 A /\ A < z /\ Hid (A = (cu (nn s) k * st) % z) /\ Hid (Iv wr g 179 1536 (tc (nn s) s.length z (cu (nn s) k))) /\ Hid (Tch (fun k => k = g) W0 wr)) (fun _ i _ => s.length - (intOf i).toNat)
 case atStart => exact ⟨0, 0, Nat.zero_le _, rfl, rfl, by omega, by show _ = _; simp [cu], C0, Tch.refl _ _⟩
 case round =>
  obtain ⟨k, A, hk, rfl, rfl, hA, HA, CV, T⟩ := hrel
  by_cases hlt : k < s.length
  ·obtain ⟨ab, ao, ha, hc⟩ : ∃ b o, a = some ⟨b, o, none⟩ /\ ∀ i, i < s.length -> w.cell? ⟨b, o + i, none⟩ = some (.int .i64 (s.getD i 0)) := by
    rcases HC.out with rfl | h
    ·simp at hlt
    ·exact h
   subst ha
   obtain ⟨m, hm⟩ : ∃ m, Hid (nn s k = m) := ⟨_, rfl⟩
   have cx : wr.cell? ⟨ab, ao + k, none⟩ = some (.int .i64 (m : Int)) := by
    have h0 := hc k hlt
    have hl0 := World.block_lt_of_cell? w ⟨ab, ao + k, none⟩ h0
    have h1 := B0.out.cell (p := ⟨ab, ao + k, none⟩) hl0
    rw [T.out.cell (p := ⟨ab, ao + k, none⟩) (by have := B0.out.size; simp only at hl0 ⊢; omega) (fun e => by simp only at hl0 e; omega), h1, h0, (HK.out.le k).1, hm.out]
   have hm1 : m <= 512 := by have h1 := (HK.out.le k).2; have h2 := HK.out.z; rw [hm.out] at h1; omega
   have HM : Hid (cu (nn s) (k + 1) = cu (nn s) k + m) := by show _ = _; simp only [cu]; rw [hm.out]
   have HLE : Hid (cu (nn s) k + m <= z) := by show _ <= _; rw [<- HM.out, <- HS.out]; exact zbj9 _ hlt
   clear hc
   go_wp2_with fail
   go_loopw [7, 24] (fun x i wr => ∃ (j A : Nat), j <= m /\ i = .int .i64 j /\ x = .int .i64 A /\ A < z /\ Hid (A = ((cu (nn s) k + j) * st) % z) /\ Hid (Iv wr g 179 1536 (tc (nn s) s.length z (cu (nn s) k + j))) /\ Hid (Tch (fun k => k = g) W0 wr)) (fun _ i _ => m - (intOf i).toNat)
   case atStart => exact ⟨0, A, Nat.zero_le _, rfl, rfl, hA, HA, CV, T⟩
   case round =>
    clear cx HA CV T hA
    obtain ⟨j, A, hj, rfl, rfl, hA, HA, CV, T⟩ := hrel
    by_cases hjl : j < m
    ·have c0 := CV.out.at_ (A * 3) (by omega)
     have f0 := CV.out.fz (A * 3)
     have CV2 : Hid (Iv (wr.setCell ⟨g, A * 3, none⟩ (.int .i64 (k : Int))) g 179 1536 (tc (nn s) s.length z (cu (nn s) k + (j + 1)))) := by
      refine (CV.out.set (A * 3) (by omega) (k : Int)).congr (fun i _ => ?_)
      have := zzi9 HZK.out (nn s) s.length (cu (nn s) k + j) k (by have := HLE.out; omega) hlt (by omega) (by rw [HM.out]; omega) i
      rw [hst.out, <- HA.out] at this
      exact this
     have T2 : Hid (Tch (fun k => k = g) W0 (wr.setCell ⟨g, A * 3, none⟩ (.int .i64 (k : Int)))) := Tch.setCell T.out (p := ⟨g, A * 3, none⟩) (fun _ => rfl) _
     obtain ⟨B, hB⟩ : ∃ B, Hid ((A + st) % z = B) := ⟨_, rfl⟩
     have hB1 : B < z := by rw [<- hB.out]; exact Nat.mod_lt _ (by omega)
     have HB : Hid (B = ((cu (nn s) k + (j + 1)) * st) % z) := by show _ = _; rw [<- hB.out, HA.out, zui9]; rfl
     have hBI : ((A : Int) + (st : Int)) % (z : Int) = (B : Int) := by rw [<- hB.out]; push_cast; rfl
     have hi0 : (0 : Int) <= (A : Int) := by omega
     have hi1 : (A : Int) < 512 := by omega
     have hi2 : (A : Int) <= 511 := by omega
     clear HA CV T
     go_wp2_with fail
     go_roundw
     case rel => exact ⟨j + 1, B, by omega, by go_num, by first | rfl | go_num, hB1, HB, CV2, T2⟩
     case measure => simp [intOf]; omega
    ·obtain rfl : j = m := by omega
     rw [<- HM.out] at HA CV
     go_wp2_with fail
     go_roundw
     case rel => exact ⟨k + 1, A, by omega, by go_num, rfl, hA, HA, CV, T⟩
     case measure => simp [intOf]; omega
  ·obtain rfl : k = s.length := by omega
   rw [HS.out] at CV
   have RR : Hid (wr.there w.heap.size 0 1536) := by
    refine zbi9 (C := Z) (t := 179) ?_ HZL.out
    rw [T.out.block w.heap.size (Array.getElem?_eq_some_iff.1 R0.out).1 (fun e => by omega)]
    exact R0.out
   have HRG : Hid (wr.rangeAt g 0 F) := by rw [<- hF.out]; exact CV.out.range
   have HPL : Hid (F.length = 1536) := by show _ = _; rw [<- hF.out, zp9]
   have HSZ : Hid (F.toArray.size = 1536) := by show _ = _; rw [List.size_toArray]; exact HPL.out
   have HON : Hid (F.toArray.all (·.oneCell') = true) := by show _ = _; rw [<- hF.out]; exact zdv9 _ _
   go_wp2_with (first | (refine wpList_load_mid rfl 179 (.tmp 5) rfl g 0 rfl F _ HRG.out Tryz.underlying179 rfl (by rw [HPL.out]; exact HI37.out) ?_) | (refine wpList_store_mid rfl 179 (.tmp 4) (.tmp 37) rfl w.heap.size 0 F.toArray rfl rfl (by rw [HSZ.out]; exact RR.out) (by rw [HSZ.out]; exact HI37.out) HON.out ?_))
   have hld := run_loadVar_mid (P := Tryz.prog) (wr.setCells w.heap.size 0 F.toArray.toList) w.heap.size 0 179 F _ (by
    have := World.rangeAt_setCells_same wr w.heap.size 0 F.toArray.toList (by rw [Array.length_toList, HSZ.out]; exact RR.out)
    simpa using this) Tryz.underlying179 rfl (by rw [HPL.out]; exact HI37.out)
   refine bodyPost_ret (v := .agg F.toArray) ?_ rfl ⟨rfl, ?_⟩
   ·exact zbo9 (p := 4) (ty := 179) rfl _ _ _ w.heap.size _ rfl hld
   ·have h1 := B0.out.trans (T.out.below B0.out.size (fun k e => by rw [e, <- hg]; omega))
    exact h1.trans ((zbe9 w.heap.size _ 0 wr).below h1.size (fun k e => by rw [e]; exact Nat.le_refl _))
def fs (f : Nat -> Nat) (k i : Nat) : Int := if i < k then (cu f i : Int) else 0
def sp (f : Nat -> Nat) (L z p i : Nat) : Int := if i < 64 then fs f L i else (pl f L z p (i - 64) : Int)
def nxF (f : Nat -> Nat) (L z p i : Nat) : Int := if i < L then ((cu f i + ah f L z i p : Nat) : Int) else 0
theorem zzt9 (f : Nat -> Nat) (k i : Nat) : upd (fs f k) k (cu f k : Int) i = fs f (k + 1) i := by
 unfold upd fs
 by_cases e : i = k
 ·subst e; rw [if_pos rfl, if_pos (by omega)]
 ·rw [if_neg e]
  by_cases c : i < k
  ·rw [if_pos c, if_pos (by omega)]
  ·rw [if_neg c, if_neg (by omega)]
theorem zwk9 (f : Nat -> Nat) (L z i : Nat) (hL : L <= 64) : fs f L i = sp f L z 0 i := by
 unfold sp
 split
 ·rfl
 ·unfold fs; rw [if_neg (by omega)]; rfl
theorem zaam9 (f : Nat -> Nat) (L z p i : Nat) : upd (sp f L z p) (64 + ix f L z p) (p : Int) i = sp f L z (p + 1) i := by
 unfold upd sp
 by_cases e : i = 64 + ix f L z p
 ·rw [if_pos e, if_neg (by omega)]
  simp only [pl]
  rw [if_pos (by omega)]
 ·rw [if_neg e]
  by_cases c : i < 64
  ·rw [if_pos c, if_pos c]
  ·rw [if_neg c, if_neg c]
   simp only [pl]
   rw [if_neg (by omega)]
theorem zwq9 (f : Nat -> Nat) (L z i : Nat) : fs f L i = nxF f L z 0 i := by
 unfold nxF fs; simp [ah]
theorem nx_at {f : Nat -> Nat} {L z : Nat} (h : Fok f L z) (p : Nat) : nxF f L z p (tb f L z p) = (ix f L z p : Int) := by
 unfold nxF; rw [if_pos (h.tb_lt p)]; rfl
theorem zaba9 {f : Nat -> Nat} {L z : Nat} (h : Fok f L z) (p i : Nat) : upd (nxF f L z p) (tb f L z p) ((ix f L z p : Int) + 1) i = nxF f L z (p + 1) i := by
 have hl := h.tb_lt p
 unfold upd nxF
 by_cases e : i = tb f L z p
 ·subst e
  rw [if_pos rfl, if_pos hl]
  simp only [ah, if_true, ix]
  omega
 ·rw [if_neg e]
  by_cases c : i < L
  ·rw [if_pos c, if_pos c]
   simp only [ah]
   rw [if_neg (fun h => e h.symm)]
   rfl
  ·rw [if_neg c, if_neg c]
structure SpW (W0 wr : World) (gs gn gt : Nat) (f : Nat -> Nat) (L z p : Nat) : Prop where
 s : Iv wr gs 148 576 (sp f L z p)
 n : Iv wr gn 145 64 (nxF f L z p)
 t : Iv wr gt 179 1536 (tc f L z z)
 ne : gs ≠ gn /\ gs ≠ gt /\ gn ≠ gt
 tch : Tch (fun k => k = gs ∨ k = gn) W0 wr
theorem SpW.alloc {W0 wr : World} {gs gn gt : Nat} {f : Nat -> Nat} {L z p : Nat} (h : SpW W0 wr gs gn gt f L z p) (o : Obj) : SpW W0 (wr.alloc o) gs gn gt f L z p := by
 have hb : Below wr.heap.size wr (wr.alloc o) := (Below.refl _ _).alloc (Nat.le_refl _) _
 exact ⟨h.s.below hb, h.n.below hb, h.t.below hb, h.ne, h.tch.alloc o⟩
theorem SpW.step {W0 wr : World} {gs gn gt : Nat} {f : Nat -> Nat} {L z p : Nat} (h : SpW W0 wr gs gn gt f L z p) (hk : Fok f L z) (hL : L <= 64) (hp : p < z) :
  SpW W0 ((wr.setCell ⟨gs, 64 + ix f L z p, none⟩ (.int .i64 (p : Int))).setCell ⟨gn, tb f L z p, none⟩ (.int .i64 ((ix f L z p : Int) + 1))) gs gn gt f L z (p + 1) := by
 have hz := hk.zok.pos
 have hi := hk.ix_lt hp
 have ht := hk.tb_lt p
 have s1 := h.s.set (64 + ix f L z p) (by omega) (p : Int)
 have t1 : Tch (fun k => k = gs) wr (wr.setCell ⟨gs, 64 + ix f L z p, none⟩ (.int .i64 (p : Int))) := Tch.setCell (Tch.refl (fun k => k = gs) wr) (p := ⟨gs, 64 + ix f L z p, none⟩) (fun _ => rfl) _
 have t2 : Tch (fun k => k = gn) (wr.setCell ⟨gs, 64 + ix f L z p, none⟩ (.int .i64 (p : Int))) ((wr.setCell ⟨gs, 64 + ix f L z p, none⟩ (.int .i64 (p : Int))).setCell ⟨gn, tb f L z p, none⟩ (.int .i64 ((ix f L z p : Int) + 1))) :=
  Tch.setCell (Tch.refl (fun k => k = gn) _) (p := ⟨gn, tb f L z p, none⟩) (fun _ => rfl) _
 have n1 := (h.n.tch t1 (fun e => h.ne.1 e.symm)).set (tb f L z p) (by omega) ((ix f L z p : Int) + 1)
 refine ⟨(s1.tch t2 h.ne.1).congr (fun i _ => zaam9 f L z p i), n1.congr (fun i _ => zaba9 hk p i), (h.t.tch t1 (fun e => h.ne.2.1 e.symm)).tch t2 (fun e => h.ne.2.2 e.symm), h.ne, ?_⟩
 exact (h.tch.trans t1 (fun _ _ e => .inl e)).trans t2 (fun _ _ e => .inr e)
set_option maxRecDepth 100000 in
theorem zmi9 (v : Value) (s : List Int) (lg z : Nat) (w : World) (hr : Rd .i64 w v s) (hk : Sok s lg) (hz : 2 ^ lg = z) :
  Calls Tryz.prog 122 #[v, .int .i64 z] w fun e w' => e = .returned (.agg (ics 576 (sp (nn s) s.length z z)).toArray) /\ Below w.heap.size w w' := by
 have HR : Hid (Rd .i64 w v s) := hr
 obtain ⟨a, cap, rfl, hlc, hcm, _, hcc⟩ := hr
 have HC : Hid (s = [] ∨ ∃ b o, a = some ⟨b, o, none⟩ /\ ∀ i, i < s.length -> w.cell? ⟨b, o + i, none⟩ = some (.int .i64 (s.getD i 0))) := hcc
 have HK : Hid (Sok s lg) := hk
 have HZ : Hid (2 ^ lg = z) := hz
 have HF : Hid (Fok (nn s) s.length z) := by show Fok _ _ _; rw [<- hz]; exact hk.fok
 have hz1 := HF.out.zok.pos
 have hlen := hk.len
 obtain ⟨hvT, hiT⟩ := zero_of_info zhe9
 have HIT : Hid ((Tryz.prog.info? 179).map (·.size) = some 1536) := hiT
 obtain ⟨hvN, hiN⟩ := zero_of_info zqn9
 have HIN : Hid ((Tryz.prog.info? 145).map (·.size) = some 64) := hiN
 obtain ⟨hvS, hiS⟩ := zero_of_info zih9
 have HIS : Hid ((Tryz.prog.info? 148).map (·.size) = some 576) := hiS
 clear hcc hiT hiN hiS hk hz
 obtain ⟨ZT, hZT⟩ : ∃ Z, Hid ((ics 1536 (fun _ => 0)).toArray = Z) := ⟨_, rfl⟩
 obtain ⟨ZN, hZN⟩ : ∃ Z, Hid ((ics 64 (fun _ => 0)).toArray = Z) := ⟨_, rfl⟩
 obtain ⟨ZS, hZS⟩ : ∃ Z, Hid ((ics 576 (fun _ => 0)).toArray = Z) := ⟨_, rfl⟩
 rw [hZT.out] at hvT
 rw [hZN.out] at hvN
 rw [hZS.out] at hvS
 have HVT : Hid (∀ (w : World), Sem.run Tryz.prog (zeroValue 179) w = Result.ok (Value.agg ZT) w) := hvT
 have HVN : Hid (∀ (w : World), Sem.run Tryz.prog (zeroValue 145) w = Result.ok (Value.agg ZN) w) := hvN
 have HZTL : Hid (ZT.size = 1536) := by show _ = _; rw [<- hZT.out, zcs9]
 have HZNL : Hid (ZN.size = 64) := by show _ = _; rw [<- hZN.out, zcs9]
 have HZSL : Hid (ZS.size = 576) := by show _ = _; rw [<- hZS.out, zcs9]
 clear hvT hvN
 obtain ⟨F, hF⟩ : ∃ F, Hid (ics 576 (sp (nn s) s.length z z) = F) := ⟨_, rfl⟩
 rw [hF.out]
 go_enter Tryz.func122, Tryz.ntmps122
 go_wp2_with fail
 obtain ⟨g, hg⟩ : ∃ g, w.heap.size + 1 = g := ⟨_, rfl⟩
 have C0 : Hid (Iv ((w.alloc (.cells ZS 148)).alloc (.cells ZS 148)) g 148 576 (fs (nn s) 0)) := by
  have h0 := iv_new (w.alloc (.cells ZS 148)) 148 576 (fun _ => 0)
  rw [hZS.out] at h0
  rw [<- hg]
  have h1 := h0.congr (d := fs (nn s) 0) (fun i _ => by simp [fs])
  rw [World.size_alloc] at h1
  exact h1
 have B0 : Hid (Below w.heap.size w ((w.alloc (.cells ZS 148)).alloc (.cells ZS 148))) := ((Below.refl _ _).alloc (Nat.le_refl _) _).alloc (by simp) _
 have R0 : Hid (((w.alloc (.cells ZS 148)).alloc (.cells ZS 148)).heap[w.heap.size]? = some (.cells ZS 148 (0, 0))) := by
  show _ = _
  rw [Below.heap_alloc _ _ _ (by simp)]
  exact heap_alloc_new w _
 obtain ⟨W0, hW0⟩ : ∃ W0, Hid ((w.alloc (.cells ZS 148)).alloc (.cells ZS 148) = W0) := ⟨_, rfl⟩
 rw [hW0.out] at C0 B0 R0 ⊢
 clear hvS
 rw [hg]
 go_loopw [6, 15] (fun x i wr => ∃ (k A : Nat), k <= s.length /\ i = .int .i64 k /\ x = .int .i64 A /\ A <= 512 /\ Hid (A = cu (nn s) k) /\ Hid (Iv wr g 148 576 (fs (nn s) k)) /\ Hid (Tch (fun k => k = g) W0 wr)) (fun _ i _ => s.length - (intOf i).toNat)
 case atStart => exact ⟨0, 0, Nat.zero_le _, rfl, rfl, by omega, rfl, C0, Tch.refl _ _⟩
 case round =>
  obtain ⟨k, A, hk, rfl, rfl, hA, HA, CV, T⟩ := hrel
  by_cases hlt : k < s.length
  ·obtain ⟨ab, ao, ha, hc⟩ : ∃ b o, a = some ⟨b, o, none⟩ /\ ∀ i, i < s.length -> w.cell? ⟨b, o + i, none⟩ = some (.int .i64 (s.getD i 0)) := by
    rcases HC.out with rfl | h
    ·simp at hlt
    ·exact h
   subst ha
   obtain ⟨m, hm⟩ : ∃ m, Hid (nn s k = m) := ⟨_, rfl⟩
   have cx : wr.cell? ⟨ab, ao + k, none⟩ = some (.int .i64 (m : Int)) := by
    have h0 := hc k hlt
    have hl0 := World.block_lt_of_cell? w ⟨ab, ao + k, none⟩ h0
    have h1 := B0.out.cell (p := ⟨ab, ao + k, none⟩) hl0
    rw [T.out.cell (p := ⟨ab, ao + k, none⟩) (by have := B0.out.size; simp only at hl0 ⊢; omega) (fun e => by simp only at hl0 e; omega), h1, h0, (HK.out.le k).1, hm.out]
   have HM : Hid (A + m = cu (nn s) (k + 1)) := by show _ = _; simp only [cu]; rw [hm.out, HA.out]
   have hAm : A + m <= 512 := by
    have h1 := zbj9 (nn s) (show k + 1 <= s.length from hlt)
    have h2 := HF.out.sum
    rw [<- HM.out] at h1
    omega
   have c0 := CV.out.at_ k (by omega)
   have f0 := CV.out.fz k
   have CV2 : Hid (Iv (wr.setCell ⟨g, k, none⟩ (.int .i64 (A : Int))) g 148 576 (fs (nn s) (k + 1))) := by
    refine (CV.out.set k (by omega) (A : Int)).congr (fun i _ => ?_)
    rw [HA.out]; exact zzt9 _ _ _
   have T2 : Hid (Tch (fun k => k = g) W0 (wr.setCell ⟨g, k, none⟩ (.int .i64 (A : Int)))) := Tch.setCell T.out (p := ⟨g, k, none⟩) (fun _ => rfl) _
   have hi0 : (0 : Int) <= (k : Int) := by omega
   have hi1 : (k : Int) < 64 := by omega
   have hi2 : (k : Int) <= 63 := by omega
   clear hc CV T
   go_wp2_with fail
   go_roundw
   case rel => exact ⟨k + 1, A + m, by omega, by go_num, by go_num, hAm, HM, CV2, T2⟩
   case measure => simp [intOf]; omega
  ·obtain rfl : k = s.length := by omega
   clear HA
   obtain ⟨FN, hFN⟩ : ∃ FN, Hid (ics 64 (fs (nn s) s.length) = FN) := ⟨_, rfl⟩
   have HRG : Hid (wr.rangeAt g 0 FN) := by
    rw [<- hFN.out]
    intro j x hx
    have hj : j < 64 := by have := (List.getElem?_eq_some_iff.1 hx).1; rw [zp9] at this; exact this
    rw [zfg9 _ _ _ hj] at hx
    rw [Nat.zero_add, CV.out.at_ j (by omega)]
    exact hx
   have HNL : Hid (FN.length = 64) := by show _ = _; rw [<- hFN.out, zp9]
   have HNS : Hid (FN.toArray.size = 64) := by show _ = _; rw [List.size_toArray]; exact HNL.out
   have HNO : Hid (FN.toArray.all (·.oneCell') = true) := by show _ = _; rw [<- hFN.out]; exact zdv9 _ _
   have hvN := HVN.out
   go_wp2_with (first | (refine wpList_load_mid rfl 145 (.tmp 28) rfl g 0 rfl FN _ HRG.out Tryz.underlying145 rfl (by rw [HNL.out]; exact HIN.out) ?_) | (refine zl9 wr rfl 145 (.tmp 9) (.tmp 29) rfl ZN FN.toArray rfl rfl (by rw [HNS.out]; exact HIN.out) (by rw [HNS.out, HZNL.out]) HNO.out ?_))
   clear hvN
   have HB1 : Hid (Below w.heap.size w wr) := B0.out.trans (T.out.below B0.out.size (fun k e => by rw [e, <- hg]; omega))
   have HB2 : Hid (Below w.heap.size w (wr.alloc (.cells FN.toArray 145))) := HB1.out.alloc HB1.out.size _
   have NV : Hid (Iv (wr.alloc (.cells FN.toArray 145)) wr.heap.size 145 64 (nxF (nn s) s.length z 0)) := by
    have h := iv_new wr 145 64 (fs (nn s) s.length)
    rw [hFN.out] at h
    exact h.congr (fun i _ => zwq9 _ _ _ i)
   have SV : Hid (Iv (wr.alloc (.cells FN.toArray 145)) g 148 576 (sp (nn s) s.length z 0)) :=
    (CV.out.below ((Below.refl _ _).alloc (Nat.le_refl _) _)).congr (fun i _ => zwk9 _ _ _ i hlen)
   have hgw : g < wr.heap.size := CV.out.lt
   refine (zga9 _ s lg z _ (HR.out.below HB2.out) HK.out HZ.out).mono ?_
   rintro e w2 ⟨rfl, hb2⟩
   have HBW : Hid (Below (wr.alloc (.cells FN.toArray 145)).heap.size (wr.alloc (.cells FN.toArray 145)) w2) := hb2
   have hn2 : wr.heap.size < w2.heap.size := by have := hb2.size; simp at this; omega
   clear hb2
   obtain ⟨FT, hFT⟩ : ∃ FT, Hid (ics 1536 (tc (nn s) s.length z z) = FT) := ⟨_, rfl⟩
   have HTS : Hid (FT.toArray.size = 1536) := by show _ = _; rw [List.size_toArray, <- hFT.out, zp9]
   have HTO : Hid (FT.toArray.all (·.oneCell') = true) := by show _ = _; rw [<- hFT.out]; exact zdv9 _ _
   rw [hFT.out]
   have hvT := HVT.out
   go_wp2_with (refine zl9 w2 rfl 179 (.tmp 10) (.tmp 32) rfl ZT FT.toArray rfl rfl (by rw [HTS.out]; exact HIT.out) (by rw [HTS.out, HZTL.out]) HTO.out ?_)
   clear hvT
   have S0 : Hid (SpW (w2.alloc (.cells FT.toArray 179)) (w2.alloc (.cells FT.toArray 179)) g wr.heap.size w2.heap.size (nn s) s.length z 0) := by
    have hb : Below w2.heap.size w2 (w2.alloc (.cells FT.toArray 179)) := (Below.refl _ _).alloc (Nat.le_refl _) _
    have ht := iv_new w2 179 1536 (tc (nn s) s.length z z)
    rw [hFT.out] at ht
    exact ⟨(SV.out.below HBW.out).below hb, (NV.out.below HBW.out).below hb, ht, ⟨by omega, by omega, by omega⟩, Tch.refl _ _⟩
   have HB3 : Hid (Below w.heap.size w (w2.alloc (.cells FT.toArray 179))) := by
    have h1 := HB2.out.trans (HBW.out.mono HB2.out.size)
    exact h1.alloc h1.size _
   have R3 : Hid ((w2.alloc (.cells FT.toArray 179)).heap[w.heap.size]? = some (.cells ZS 148 (0, 0))) := by
    show _ = _
    have hlt0 := (Array.getElem?_eq_some_iff.1 R0.out).1
    rw [Below.heap_alloc _ _ _ (by omega), HBW.out.block w.heap.size (by simp; omega), Below.heap_alloc _ _ _ (by omega), T.out.block w.heap.size hlt0 (fun e => by omega)]
    exact R0.out
   obtain ⟨gn, hgn⟩ : ∃ gn, wr.heap.size = gn := ⟨_, rfl⟩
   obtain ⟨gt, hgt⟩ : ∃ gt, w2.heap.size = gt := ⟨_, rfl⟩
   obtain ⟨W3, hW3⟩ : ∃ W3, Hid (w2.alloc (.cells FT.toArray 179) = W3) := ⟨_, rfl⟩
   have hwg : w.heap.size < gn := by omega
   rw [hW3.out, hgn, hgt] at S0
   rw [hW3.out] at HB3 R3 ⊢
   rw [hgn, hgt]
   clear SV NV CV T HBW HB1 HB2 hgn hgt hn2 hgw HRG
   have hzI0 : (0 : Int) <= (z : Int) := by omega
   have hzI1 : (z : Int) <= 512 := by omega
   go_wp2_with fail
   rw [zta9 gt z (by omega)]
   go_wp2_with fail
   go_loopw [36] (fun i wr => ∃ p : Nat, p <= z /\ i = .int .i64 p /\ Hid (SpW W3 wr g gn gt (nn s) s.length z p)) (fun i _ => z - (intOf i).toNat)
   case atStart => exact ⟨0, Nat.zero_le _, rfl, S0⟩
   case round =>
    clear S0
    obtain ⟨p, hp, rfl, SW⟩ := hrel
    by_cases hlt : p < z
    ·have SWA := fun o => SW.out.alloc o
     obtain ⟨q, hq⟩ : ∃ q, Hid (tb (nn s) s.length z p = q) := ⟨_, rfl⟩
     obtain ⟨I, hI⟩ : ∃ I, Hid (ix (nn s) s.length z p = I) := ⟨_, rfl⟩
     have hq1 : q < s.length := by rw [<- hq.out]; exact HF.out.tb_lt p
     have hI1 : I < z := by rw [<- hI.out]; exact HF.out.ix_lt hlt
     have t0 : wr.cell? ⟨gt, p * 3, none⟩ = some (.int .i64 (q : Int)) := by
      rw [SW.out.t.at_ (p * 3) (by omega), tc_at _ _ _ _ _ hlt, tj_end _ _ _ _ (by omega), hq.out]
     have t1 : wr.cell? ⟨gt, p * 3 + 1, none⟩ = some (.int .i64 0) := by
      rw [SW.out.t.at_ (p * 3 + 1) (by omega)]; unfold tc; rw [if_neg (by omega)]
     have t2 : wr.cell? ⟨gt, p * 3 + 2, none⟩ = some (.int .i64 0) := by
      rw [SW.out.t.at_ (p * 3 + 2) (by omega)]; unfold tc; rw [if_neg (by omega)]
     have hgtl : gt < wr.heap.size := SW.out.t.lt
     have hgnl : gn < wr.heap.size := SW.out.n.lt
     have hgsl : g < wr.heap.size := SW.out.s.lt
     have hne := SW.out.ne
     have n0 : wr.cell? ⟨gn, q, none⟩ = some (.int .i64 (I : Int)) := by
      rw [SW.out.n.at_ q (by omega), <- hq.out, nx_at HF.out p, hI.out]
     have n1 := SW.out.n.fz q
     obtain ⟨y, hy⟩ : ∃ y, Hid (sp (nn s) s.length z p (64 + I) = y) := ⟨_, rfl⟩
     have s0 : wr.cell? ⟨g, 64 + I, none⟩ = some (.int .i64 y) := by rw [SW.out.s.at_ (64 + I) (by omega), hy.out]
     have s1 := SW.out.s.fz (64 + I)
     have HSW : Hid (∀ o, SpW W3 (((wr.setCell ⟨g, 64 + I, none⟩ (.int .i64 (p : Int))).setCell ⟨gn, q, none⟩ (.int .i64 ((I : Int) + 1))).alloc o) g gn gt (nn s) s.length z (p + 1)) := fun o => by
      have h := SW.out.step HF.out hlen hlt
      rw [hq.out, hI.out] at h
      exact h.alloc o
     have hi0 : (0 : Int) <= (p : Int) := by omega
     have hi1 : (p : Int) < 512 := by omega
     have hi2 : (p : Int) <= 511 := by omega
     have hj0 : (0 : Int) <= (q : Int) := by omega
     have hj1 : (q : Int) < 64 := by omega
     have hj2 : (q : Int) <= 63 := by omega
     have hk0 : (0 : Int) <= (I : Int) := by omega
     have hk1 : (I : Int) < 512 := by omega
     have hk2 : (I : Int) <= 511 := by omega
     clear SWA SW
     go_wp2_with fail
     go_roundw
     case rel => exact ⟨p + 1, by omega, by go_num, HSW.out _⟩
     case measure => simp [intOf]; omega
    ·obtain rfl : p = z := by omega
     have RR : Hid (wr.there w.heap.size 0 576) := by
      refine zbi9 (C := ZS) (t := 148) ?_ HZSL.out
      rw [SW.out.tch.block w.heap.size (Array.getElem?_eq_some_iff.1 R3.out).1 (fun e => by rcases e with e | e <;> omega)]
      exact R3.out
     have HRG : Hid (wr.rangeAt g 0 F) := by rw [<- hF.out]; exact SW.out.s.range
     have HPL : Hid (F.length = 576) := by show _ = _; rw [<- hF.out, zp9]
     have HSZ : Hid (F.toArray.size = 576) := by show _ = _; rw [List.size_toArray]; exact HPL.out
     have HON : Hid (F.toArray.all (·.oneCell') = true) := by show _ = _; rw [<- hF.out]; exact zdv9 _ _
     go_wp2_with (first | (refine wpList_load_mid rfl 148 (.tmp 5) rfl g 0 rfl F _ HRG.out Tryz.underlying148 rfl (by rw [HPL.out]; exact HIS.out) ?_) | (refine wpList_store_mid rfl 148 (.tmp 4) (.tmp 55) rfl w.heap.size 0 F.toArray rfl rfl (by rw [HSZ.out]; exact RR.out) (by rw [HSZ.out]; exact HIS.out) HON.out ?_))
     have hld := run_loadVar_mid (P := Tryz.prog) (wr.setCells w.heap.size 0 F.toArray.toList) w.heap.size 0 148 F _ (by
      have := World.rangeAt_setCells_same wr w.heap.size 0 F.toArray.toList (by rw [Array.length_toList, HSZ.out]; exact RR.out)
      simpa using this) Tryz.underlying148 rfl (by rw [HPL.out]; exact HIS.out)
     refine bodyPost_ret (v := .agg F.toArray) ?_ rfl ⟨rfl, ?_⟩
     ·exact zbo9 (p := 4) (ty := 148) rfl _ _ _ w.heap.size _ rfl hld
     ·have h1 := HB3.out.trans (SW.out.tch.below HB3.out.size (fun k e => by rcases e with e | e <;> omega))
      exact h1.trans ((zbe9 w.heap.size _ 0 wr).below h1.size (fun k e => by rw [e]; exact Nat.le_refl _))
end Go.Proofs.YtobenjkacpipeaaGreat
