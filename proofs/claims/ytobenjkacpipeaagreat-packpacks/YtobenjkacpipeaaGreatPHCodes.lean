import Derived.Test.YtobenjkacpipeaaGreatPHMayP
import Derived.Test.YtobenjkacpipeaaGreatPHMeth
import Derived.Deep.WholeRow
import Derived.Deep.MidRow
import Derived.Laws.ResultCell
import Derived.Test.YtobenjkacpipeaaGreatPNum
import Derived.Deep.RegionHeld3
import Derived.Test.YtobenjkacpipeaaGreatPMem
import Derived.Test.YtobenjkacpipeaaGreatPE64
import Derived.Maps.AppendAt
import Derived.Test.YtobenjkacpipeaaGreatPRefPutNum
set_option maxRecDepth 100000
set_option linter.unusedVariables false
set_option linter.unusedSimpArgs false
set_option maxHeartbeats 8000000
namespace Go.Proofs.YtobenjkacpipeaaGreat
open Go.RowKit Pl
def ccs (ps : List (Int × Int)) : Array Value := (pcells ps).toArray
theorem zgx9 (ps : List (Int × Int)) : (ccs ps).size = ps.length * 2 := by simp [ccs, zaq9]
theorem zue9 (ps : List (Int × Int)) : (ccs ps).all (·.oneCell') = true := by
 refine all_oneCell_toArray (fun v hv => ?_)
 simp only [pcells, List.mem_flatMap] at hv
 obtain ⟨p, _, hp⟩ := hv
 simp at hp
 rcases hp with rfl | rfl <;> rfl
theorem info37 : (Tryz.prog.info? 137).map (fun i => (i.zero, i.size)) = some (some (.agg (ccs (List.replicate 256 (0, 0)))), 512) := by kernel_rfl
structure Cv (w : World) (g : Nat) (ps : List (Int × Int)) : Prop where
 blk : w.heap[g]? = some (.cells (ccs ps) 137 (0, 0))
 len : ps.length = 256
theorem Cv.at2 {w : World} {g : Nat} {ps : List (Int × Int)} (h : Cv w g ps) (b : Nat) (hb : b < 256) : w.cell? ⟨g, b * 2, none⟩ = some (.int .i64 (ps.getD b (0, 0)).1) /\ w.cell? ⟨g, b * 2 + 1, none⟩ = some (.int .i64 (ps.getD b (0, 0)).2) /\ w.frozen? ⟨g, b * 2, none⟩ = false /\ w.frozen? ⟨g, b * 2 + 1, none⟩ = false := by
 have := zcx9 ps b (by rw [h.len]; exact hb)
 refine ⟨?_, ?_, frozen_of_row w g _ _ _ h.blk, frozen_of_row w g _ _ _ h.blk⟩
 ·rw [cell_of_row w g (b * 2) _ _ (0, 0) h.blk]
  simpa [ccs] using this.1
 ·rw [cell_of_row w g (b * 2 + 1) _ _ (0, 0) h.blk]
  simpa [ccs] using this.2
theorem Cv.lt {w : World} {g : Nat} {ps : List (Int × Int)} (h : Cv w g ps) : g < w.heap.size := (Array.getElem?_eq_some_iff.1 h.blk).1
theorem Cv.tch {S : Nat -> Prop} {w w' : World} {g : Nat} {ps : List (Int × Int)} (h : Cv w g ps) (ht : Tch S w w') (hg : ¬ S g) : Cv w' g ps := ⟨by rw [ht.block g h.lt hg]; exact h.blk, h.len⟩
theorem Cv.below {w w' : World} {g : Nat} {ps : List (Int × Int)} (h : Cv w g ps) (hb : Below w.heap.size w w') : Cv w' g ps := h.tch (S := fun _ => False) (Tch.of_below hb) (fun e => e)
theorem Cv.set {w : World} {g : Nat} {ps : List (Int × Int)} (h : Cv w g ps) (b : Nat) (hb : b < 256) (p : Int × Int) : Cv ((w.setCell ⟨g, b * 2, none⟩ (.int .i64 p.1)).setCell ⟨g, b * 2 + 1, none⟩ (.int .i64 p.2)) g (ps.set b p) := by
 refine ⟨?_, by rw [List.length_set]; exact h.len⟩
 have h1 := heap_setCell_same w g (b * 2) _ _ (.int .i64 p.1) h.blk
 have h2 := heap_setCell_same _ g (b * 2 + 1) _ _ (.int .i64 p.2) h1
 rw [h2]
 have hl := zaq9 ps
 have e := zhr9 ps b p (by rw [h.len]; exact hb)
 unfold ccs
 rw [<- e]
 simp
theorem Cv.range {w : World} {g : Nat} {ps : List (Int × Int)} (h : Cv w g ps) : w.rangeAt g 0 (pcells ps) := fun j v hv => by
 rw [Nat.zero_add, cell_of_row w g j _ _ (0, 0) h.blk]
 simpa [ccs] using hv
theorem zgk9 {w : World} {b : Nat} {C : Array Value} {t : TypeId} {n : Nat} (h : w.heap[b]? = some (.cells C t (0, 0))) (hn : C.size = n) : w.there b 0 n := fun j hj => by
 rw [Nat.zero_add]
 refine ⟨?_, frozen_of_row w b j _ _ h⟩
 rw [cell_of_row w b j _ _ (0, 0) h]
 simp [hn, hj]
theorem zkv9 {fn : Func} {p : Tmp} {ty : TypeId} (h : fn.results = #[.cell p ty]) (tmps : Array Value) (P : Program) (w : World) :
  (results fn tmps).run P w = ((asAddr (tmps.getD p undef)).run P w).andThen fun a w₁ => (loadVar ty a).run P w₁ := by
 simp only [results, h]
 simp [Sem.run_bind, Result.andThen]
theorem zet9 (b : Nat) : ∀ (vs : List Value) (o : Nat) (w : World), Tch (fun k => k = b) w (w.setCells b o vs)
 | [], _, w => Tch.refl _ w
 | v :: r, o, w => by
  have h1 : Tch (fun k => k = b) w (w.setCell ⟨b, o, none⟩ v) := Tch.setCell (Tch.refl (fun k => k = b) w) (p := ⟨b, o, none⟩) (fun _ => rfl) v
  have h2 := zet9 b r (o + 1) (w.setCell ⟨b, o, none⟩ v)
  exact h1.trans h2 (fun _ _ e => e)
theorem zfr9 (v : Value) (ls : List Int) (w : World) (hr : Rd .i64 w v ls) (hk : LOk ls) :
  Calls Tryz.prog 113 #[v] w fun e w' => e = .returned (.agg (ccs (cdl ls))) /\ Below w.heap.size w w' := by
 obtain ⟨a, cap, rfl, hlc, hcm, _, hcc⟩ := hr
 have HC : Hid (ls = [] ∨ ∃ b o, a = some ⟨b, o, none⟩ /\ ∀ i, i < ls.length -> w.cell? ⟨b, o + i, none⟩ = some (.int .i64 (ls.getD i 0))) := hcc
 have HK : Hid (LOk ls) := hk
 have h256 := hk.most
 obtain ⟨hv37, hi37⟩ := zero_of_info info37
 have HI37 : Hid ((Tryz.prog.info? 137).map (·.size) = some 512) := hi37
 clear hcc hi37 hk
 obtain ⟨Z, hZ⟩ : ∃ Z, Hid (ccs (List.replicate 256 (0, 0)) = Z) := ⟨_, rfl⟩
 rw [hZ.out] at hv37
 go_enter Tryz.func113, Tryz.ntmps113
 go_wp2_with fail
 obtain ⟨g, hg⟩ : ∃ g, w.heap.size + 1 = g := ⟨_, rfl⟩
 have C0 : Hid (Cv ((w.alloc (.cells Z 137)).alloc (.cells Z 137)) g (cdT ls 1 0)) := by
  refine ⟨?_, by rw [zar9]⟩
  rw [ztl9, hZ.out, <- hg]
  have := heap_alloc_new (w.alloc (.cells Z 137)) (.cells Z 137)
  simpa using this
 have B0 : Hid (Below w.heap.size w ((w.alloc (.cells Z 137)).alloc (.cells Z 137))) := ((Below.refl _ _).alloc (Nat.le_refl _) _).alloc (by simp) _
 have R0 : Hid (((w.alloc (.cells Z 137)).alloc (.cells Z 137)).heap[w.heap.size]? = some (.cells Z 137 (0, 0))) := by
  show _ = _
  rw [Below.heap_alloc _ _ _ (by simp)]
  exact heap_alloc_new w _
 have HZL : Hid (Z.size = 512) := by show _ = _; rw [<- hZ.out, zgx9, List.length_replicate]
 obtain ⟨W0, hW0⟩ : ∃ W0, Hid ((w.alloc (.cells Z 137)).alloc (.cells Z 137) = W0) := ⟨_, rfl⟩
 rw [hW0.out] at C0 B0 R0 ⊢
 clear hv37
 rw [hg]
 go_loopw [4, 5] (fun x z wr => ∃ s : Nat, s <= 11 /\ x = .int .i64 (nxE ls s) /\ z = .int .i64 ((s : Int) + 1) /\ Hid (Cv wr g (cdT ls (s + 1) 0)) /\ Hid (Tch (fun k => k = g) W0 wr)) (fun _ z _ => 13 - (intOf z).toNat)
 case atStart => exact ⟨0, by omega, rfl, rfl, C0, Tch.refl _ _⟩
 case round =>
  obtain ⟨s, hs, rfl, rfl, CV, T⟩ := hrel
  have hnl := (HK.out.nxE_le hs).2
  have hpw := LOk.pow hs
  have hn1 : nxE ls s <= 2048 := by omega
  clear hnl hpw
  by_cases h11 : s < 11
  ·have h12 : (s : Int) + 1 <= 11 := by omega
   have e2 : wrap64 ((nxE ls s : Int) * 2 ^ 1) = ((2 * nxE ls s : Nat) : Int) := by rw [IntWalk.wrap64_in _ ⟨by omega, by omega⟩]; omega
   have e3 : wrap64 ((nxE ls s : Int) * 2) = ((2 * nxE ls s : Nat) : Int) := by rw [IntWalk.wrap64_in _ ⟨by omega, by omega⟩]; omega
   go_wp2_with fail
   go_loopw [4, 16] (fun x i wr => ∃ b : Nat, b <= ls.length /\ i = .int .i64 b /\ x = .int .i64 (nx ls s b) /\ Hid (Cv wr g (cdT ls (s + 1) b)) /\ Hid (Tch (fun k => k = g) W0 wr)) (fun _ i _ => ls.length - (intOf i).toNat)
   case atStart => exact ⟨0, Nat.zero_le _, rfl, by simp [nx, cnt]; omega, CV, T⟩
   case round =>
    obtain ⟨b, hb, rfl, rfl, CV2, T2⟩ := hrel
    by_cases hlt : b < ls.length
    ·obtain ⟨ab, ao, ha, hc⟩ : ∃ b o, a = some ⟨b, o, none⟩ /\ ∀ i, i < ls.length -> w.cell? ⟨b, o + i, none⟩ = some (.int .i64 (ls.getD i 0)) := by
      rcases HC.out with rfl | h
      ·simp at hlt
      ·exact h
     subst ha
     obtain ⟨x, hx⟩ : ∃ x, Hid (ls.getD b 0 = x) := ⟨_, rfl⟩
     have cx : wr.cell? ⟨ab, ao + b, none⟩ = some (.int .i64 x) := by
      have h0 := hc b hlt
      have hl0 := World.block_lt_of_cell? w ⟨ab, ao + b, none⟩ h0
      have h1 := B0.out.cell (p := ⟨ab, ao + b, none⟩) hl0
      rw [T2.out.cell (p := ⟨ab, ao + b, none⟩) (by have := B0.out.size; simp only at hl0 ⊢; omega) (fun e => by simp only at hl0 e; omega), h1, h0, hx.out]
     clear hc
     have hnx : nx ls s b <= 4096 := by
      have h1 := (HK.out.nxE_le (show s + 1 <= 11 by omega)).2
      have h2 := LOk.pow (show s + 1 <= 11 by omega)
      have h3 := zpj9 ls (s + 1) hb
      simp only [nxE] at h1
      simp only [nx]
      omega
     by_cases he : x = (s : Int) + 1
     ·have hbe : (x == (s : Int) + 1) = true := by simp [he]
      have HE : Hid (ls.getD b 0 = ((s + 1 : Nat) : Int)) := by show _ = _; rw [hx.out, he]; omega
      have HNX : Hid (nx ls s (b + 1) = nx ls s b + 1) := by show 2 * nxE ls s + cnt ls (s + 1) (b + 1) = _; simp only [cnt]; rw [if_pos HE.out]; simp only [nx]; omega
      obtain ⟨c0, c1, f0, f1⟩ := CV2.out.at2 b (by omega)
      obtain ⟨X, hX⟩ : ∃ X, Hid (nx ls s b = X) := ⟨_, rfl⟩
      have CV3 : Hid (Cv ((wr.setCell ⟨g, b * 2, none⟩ (.int .i64 ((s : Int) + 1))).setCell ⟨g, b * 2 + 1, none⟩ (.int .i64 (X : Int))) g (cdT ls (s + 1) (b + 1))) := by
       show Cv _ _ _
       rw [zyx9 ls s b (by omega) HE.out]
       have := CV2.out.set b (by omega) (((s + 1 : Nat) : Int), (nx ls s b : Int))
       rw [hX.out] at this
       rw [hX.out]
       simpa using this
      have T3 : Hid (Tch (fun k => k = g) W0 ((wr.setCell ⟨g, b * 2, none⟩ (.int .i64 ((s : Int) + 1))).setCell ⟨g, b * 2 + 1, none⟩ (.int .i64 (X : Int)))) := Tch.setCell (Tch.setCell T2.out (p := ⟨g, b * 2, none⟩) (fun _ => rfl) _) (p := ⟨g, b * 2 + 1, none⟩) (fun _ => rfl) _
      rw [hX.out] at hnx HNX ⊢
      clear he CV2 T2
      go_wp2_with fail
      go_roundw
      case rel => exact ⟨b + 1, by omega, by go_num, by rw [HNX.out]; go_num, CV3, T3⟩
      case measure => simp [intOf]; omega
     ·have hbe : (x == (s : Int) + 1) = false := by simp [he]
      have HNE : Hid (ls.getD b 0 ≠ ((s + 1 : Nat) : Int)) := by show _ ≠ _; rw [hx.out]; omega
      have HNX : Hid (nx ls s (b + 1) = nx ls s b) := by show 2 * nxE ls s + cnt ls (s + 1) (b + 1) = _; simp only [cnt]; rw [if_neg HNE.out]; simp only [nx]; omega
      have CV3 : Hid (Cv wr g (cdT ls (s + 1) (b + 1))) := by show Cv _ _ _; rw [zvv9 ls (s + 1) b HNE.out]; exact CV2.out
      obtain ⟨X, hX⟩ : ∃ X, Hid (nx ls s b = X) := ⟨_, rfl⟩
      rw [hX.out] at hnx HNX ⊢
      clear he CV2
      go_wp2_with fail
      go_roundw
      case rel => exact ⟨b + 1, by omega, by go_num, by rw [HNX.out], CV3, T2⟩
      case measure => simp [intOf]; omega
    ·obtain rfl : b = ls.length := by omega
     have CV3 : Hid (Cv wr g (cdT ls (s + 1 + 1) 0)) := by show Cv _ _ _; rw [<- zxc9 ls (s + 1) h256]; exact CV2.out
     have HNX : Hid (nx ls s ls.length = nxE ls (s + 1)) := rfl
     rw [HNX.out]
     clear CV2
     go_wp2_with fail
     go_roundw
     case rel => exact ⟨s + 1, by omega, rfl, by go_num, CV3, T2⟩
     case measure => simp [intOf]; omega
  ·obtain rfl : s = 11 := by omega
   have CE : Hid (Cv wr g (cdl ls)) := by
    show Cv _ _ _
    have := CV.out
    rw [zaag9 HK.out] at this
    exact this
   have RR : Hid (wr.there w.heap.size 0 512) := by
    refine zgk9 (C := Z) (t := 137) ?_ HZL.out
    rw [T.out.block w.heap.size (Array.getElem?_eq_some_iff.1 R0.out).1 (fun e => by omega)]
    exact R0.out
   have HSZ : Hid ((ccs (cdl ls)).size = 512) := by show _ = _; rw [zgx9, zbu9]
   have HPL : Hid ((pcells (cdl ls)).length = 512) := by show _ = _; rw [zaq9, zbu9]
   have HRG : Hid (wr.rangeAt g 0 (pcells (cdl ls))) := CE.out.range
   go_wp2_with (first | (refine wpList_load_mid rfl 137 (.tmp 3) rfl g 0 rfl (pcells (cdl ls)) _ HRG.out Tryz.underlying137 rfl (by rw [HPL.out]; exact HI37.out) ?_) | (refine wpList_store_mid rfl 137 (.tmp 2) (.tmp 32) rfl w.heap.size 0 (ccs (cdl ls)) rfl rfl (by rw [HSZ.out]; exact RR.out) (by rw [HSZ.out]; exact HI37.out) (zue9 _) ?_))
   have hld := run_loadVar_mid (P := Tryz.prog) (wr.setCells w.heap.size 0 (ccs (cdl ls)).toList) w.heap.size 0 137 (pcells (cdl ls)) _ (by
    have := World.rangeAt_setCells_same wr w.heap.size 0 (ccs (cdl ls)).toList (by rw [Array.length_toList, HSZ.out]; exact RR.out)
    simpa [ccs] using this) Tryz.underlying137 rfl (by rw [HPL.out]; exact HI37.out)
   refine bodyPost_ret (v := .agg (ccs (cdl ls))) ?_ rfl ⟨rfl, ?_⟩
   ·rw [zkv9 (p := 2) (ty := 137) rfl]
    have e2 : ∀ X Y : Value, (({ tmps := #[Value.slice a ls.length cap, undef, Value.pointer (some { block := w.heap.size, off := 0 })], defers := [] } : Act).tmps.getD 2 undef) = Value.pointer (some { block := w.heap.size, off := 0 }) := fun _ _ => rfl
    show ((asAddr (Value.pointer (some { block := w.heap.size, off := 0 }))).run Tryz.prog _).andThen _ = _
    simp [asAddr, Result.andThen, hld]
    rfl
   ·have h1 := B0.out.trans (T.out.below B0.out.size (fun k e => by rw [e, <- hg]; omega))
    exact h1.trans ((zet9 w.heap.size _ 0 wr).below h1.size (fun k e => by rw [e]; exact Nat.le_refl _))
def cb (ls : List Int) (c : Nat) : List Int := cbits (cd ls c).2 (cd ls c).1.toNat
def enc (ls : List Int) : List Int -> List Int
 | [] => []
 | x :: r => cb ls x.toNat ++ enc ls r
theorem zpo9 (ls xs ys : List Int) : enc ls (xs ++ ys) = enc ls xs ++ enc ls ys := by
 induction xs with
 | nil => rfl
 | cons x r ih => simp [enc, ih]
theorem zrs9 (ls : List Int) (c : Nat) : (cb ls c).length = (cd ls c).1.toNat := by simp [cb, cbits]
section
variable {P : Program}
theorem zfb9 (w : World) {ops : Array Oper} {rest : List Oper} {op : Oper} {a : Act} {Q : Exit -> Act -> World -> Prop} (hgd : op.guard = none) (ty : TypeId) (x y : Operand) (ho : op.op = .store ty x y)
  (c c' : Array Value) (hx : a.eval x = .pointer (some ⟨w.heap.size, 0, none⟩)) (hy : a.eval y = .agg c') (hi : (P.info? ty).map (·.size) = some c'.size) (hs : c.size = c'.size) (h1 : c'.all (·.oneCell') = true)
  (h : wpList P ops Q rest (a.put op.dst undef) (w.alloc (.cells c' ty))) : wpList P ops Q (op :: rest) a (w.alloc (.cells c ty)) := by
 refine wpList_plain hgd fun K hK => ?_
 have hrun := run_storeAt_new (P := P) w ty c c' hi hs h1
 unfold Oper.wp execOp
 simp only [ho, hx, hy, Sem.run_bind, Sem.run_pure, Result.andThen_ok, hrun]
 exact hK _ _ h
end
structure En (w W : World) (g b : Nat) (rv : Value) (ps : List (Int × Int)) (bs : List Int) : Prop where
 wr : Wr W b rv bs
 cv : Cv W g ps
 bel : Below w.heap.size w W
 bn : w.heap.size <= b
 rn : ∀ k, rv.ownBlock = some k -> w.heap.size <= k
theorem En.blw {w W W' : World} {g b : Nat} {rv : Value} {ps : List (Int × Int)} {bs : List Int} (h : En w W g b rv ps bs) (hb : Below W.heap.size W W') : En w W' g b rv ps bs :=
 ⟨h.wr.tch (S := fun _ => False) (Tch.of_below hb) (fun e => e) (fun _ _ e => e), h.cv.below hb, h.bel.trans (hb.mono h.bel.size), h.bn, h.rn⟩
theorem En.blw2 {w W0 W W' : World} {g b : Nat} {rv : Value} {ps : List (Int × Int)} {bs : List Int} (h : En w W0 g b rv ps bs) (hb : Below W.heap.size W W') (hd : Below W0.heap.size W0 W) : En w W' g b rv ps bs :=
 (h.blw hd).blw hb
theorem En.put {w W W' : World} {g b : Nat} {rv rv' : Value} {ps : List (Int × Int)} {bs xs : List Int} (h : En w W g b rv ps bs) (hp : WrTo W b rv W' rv' xs) : En w W' g b rv' ps xs := by
 refine ⟨hp.wr, h.cv.tch hp.tch ?_, h.bel.trans (hp.tch.below h.bel.size (fun k hk => ?_)), h.bn, fun k hk => ?_⟩
 ·rintro (e | e)
  ·have h1 := h.cv.blk
   have h2 := h.wr.blk
   rw [e, h2] at h1
   simp at h1
  ·obtain ⟨c1, h1⟩ := zag9 h.wr.own e
   rw [h.cv.blk] at h1
   simp at h1
 ·rcases hk with e | e
  ·rw [e]; exact h.bn
  ·exact h.rn k e
 ·rcases hp.fresh k hk with e | e
  ·exact h.rn k e
  ·have := h.bel.size; omega
def EPost (ls ds : List Int) (w : World) (e : Ending) (w' : World) : Prop :=
 ∃ rv E, e = .returned (.tuple #[rv, .int .i64 E]) /\ Below w.heap.size w w' /\ (∀ k, rv.ownBlock = some k -> w.heap.size <= k) ∧
  ((E = 4 /\ rv = .slice none 0 0 /\ (mayC ls = false ∨ ∃ i, i < ds.length /\ ls.getD (ds.getD i 0).toNat 0 <= 0)) ∨
   (E = 0 /\ mayC ls = true /\ (∀ i, i < ds.length -> 0 < ls.getD (ds.getD i 0).toNat 0) /\ Owns .u8 5 w' rv (pack (enc ls ds))))
theorem EPost.bad {ls ds : List Int} {w w' : World} (hb : Below w.heap.size w w') (h : mayC ls = false ∨ ∃ i, i < ds.length /\ ls.getD (ds.getD i 0).toNat 0 <= 0) : EPost ls ds w (.returned (.tuple #[.slice none 0 0, .int .i64 4])) w' :=
 ⟨_, 4, rfl, hb, (fun k e => by cases e), .inl ⟨rfl, rfl, h⟩⟩
theorem zob9 (ls ds : List Int) (k : Nat) (h : k < ds.length) : enc ls (ds.take (k + 1)) = enc ls (ds.take k) ++ cb ls (ds.getD k 0).toNat := by
 rw [take_snoc' ds k h, zpo9]
 simp [enc]
theorem enc_le {ls : List Int} (hk : LOk ls) (ds : List Int) : (enc ls ds).length <= 11 * ds.length := by
 induction ds with
 | nil => simp [enc]
 | cons x r ih =>
  simp only [enc, List.length_append, List.length_cons, zrs9]
  have : (cd ls x.toNat).1.toNat <= 11 := by
   unfold cd
   split
   ·by_cases hl : x.toNat < ls.length
    ·have := (hk.each _ hl).2
     simp only
     omega
    ·simp [List.getD_eq_getElem?_getD, List.getElem?_eq_none (by omega : ls.length <= x.toNat)]
   ·simp
  omega
theorem LOk.code {ls : List Int} (hk : LOk ls) {c : Nat} (hc : 0 < ls.getD c 0) : ∃ s v : Nat, 1 <= s /\ s <= 11 /\ v < 2 ^ s /\ cd ls c = ((s : Int), (v : Int)) /\ cb ls c = cbits v s /\ ls.getD c 0 = (s : Int) /\ v = nx ls (s - 1) c /\ c < ls.length := by
 have hl : c < ls.length := by
  by_cases h : c < ls.length
  ·exact h
  ·simp [List.getD_eq_getElem?_getD, List.getElem?_eq_none (by omega : ls.length <= c)] at hc
 obtain ⟨s, hs⟩ := Int.eq_ofNat_of_zero_le (Int.le_of_lt hc)
 have h11 := (hk.each c hl).2
 have e : cd ls c = ((s : Int), ((nx ls (s - 1) c : Nat) : Int)) := by unfold cd; rw [if_pos hc, hs, Int.toNat_natCast]
 have hfit := hk.fits (s := s - 1) (b := c) (by omega) hl (by rw [hs]; omega)
 rw [show s - 1 + 1 = s by omega] at hfit
 refine ⟨s, nx ls (s - 1) c, by omega, by omega, hfit, e, ?_, hs, rfl, hl⟩
 unfold cb
 rw [e, Int.toNat_natCast]
theorem zqp9 (lv dv : Value) (ls ds : List Int) (w : World) (hr : Rd .i64 w lv ls) (hd : Rd .u8 w dv ds) (hy : By ds) (hl : ds.length <= 8796093022208) :
  Calls Tryz.prog 85 #[lv, dv] w fun e w' => EPost ls ds w e w' := by
 have HR : Hid (Rd .i64 w lv ls) := hr
 have HY : Hid (By ds) := hy
 obtain ⟨a, cap, rfl, hlc, hcm, _, hcc⟩ := hd
 have HC : Hid (ds = [] ∨ ∃ b o, a = some ⟨b, o, none⟩ /\ ∀ i, i < ds.length -> w.cell? ⟨b, o + i, none⟩ = some (.int .u8 (ds.getD i 0))) := hcc
 obtain ⟨hv37, hi37⟩ := zero_of_info info37
 have HI37 : Hid ((Tryz.prog.info? 137).map (·.size) = some 512) := hi37
 obtain ⟨Z, hZ⟩ : ∃ Z, Hid (ccs (List.replicate 256 (0, 0)) = Z) := ⟨_, rfl⟩
 rw [hZ.out] at hv37
 have HZL : Hid (Z.size = 512) := by show _ = _; rw [<- hZ.out, zgx9, List.length_replicate]
 clear hr hy hcc hi37
 cases hm : mayC ls with
 | false =>
  have HM : Hid (mayC ls = false) := hm
  clear hm
  go_enter Tryz.func85, Tryz.ntmps85
  go_wp2_with fail
  refine (zbx9 lv ls w HR.out).mono ?_
  rintro e w1 ⟨rfl, rfl⟩
  rw [HM.out]
  go_wp2_with fail
  go_ret2
  exact EPost.bad (Below.refl _ _) (.inl HM.out)
 | true =>
  have HM : Hid (mayC ls = true) := hm
  have HK : Hid (LOk ls) := LOk.of hm
  clear hm
  go_enter Tryz.func85, Tryz.ntmps85
  go_wp2_with fail
  refine (zbx9 lv ls w HR.out).mono ?_
  rintro e w1 ⟨rfl, rfl⟩
  rw [HM.out]
  go_wp2_with fail
  refine (zfr9 lv ls w1 HR.out HK.out).mono ?_
  rintro e w2 ⟨rfl, hb2⟩
  obtain ⟨CC, hCC⟩ : ∃ CC, Hid (ccs (cdl ls) = CC) := ⟨_, rfl⟩
  rw [hCC.out]
  have HB2 : Hid (Below w1.heap.size w1 w2) := hb2
  have HSZ : Hid (CC.size = 512) := by show _ = _; rw [<- hCC.out, zgx9, zbu9]
  have HON : Hid (CC.all (·.oneCell') = true) := by show _ = _; rw [<- hCC.out]; exact zue9 _
  clear hb2
  go_wp2_with (refine zfb9 w2 rfl 137 (.tmp 6) (.tmp 14) rfl Z CC rfl rfl (by rw [HSZ.out]; exact HI37.out) (by rw [HSZ.out, HZL.out]) HON.out ?_)
  have CV3 : Hid (Cv (w2.alloc (.cells CC 137)) w2.heap.size (cdl ls)) := ⟨by rw [hCC.out]; exact heap_alloc_new w2 _, zbu9 ls⟩
  have HB3 : Hid (Below w1.heap.size w1 (w2.alloc (.cells CC 137))) := HB2.out.alloc HB2.out.size _
  refine (zbd9 _).mono ?_
  rintro e w4 ⟨rfl, hw4, hb4⟩
  obtain ⟨g, hg⟩ : ∃ g, w2.heap.size = g := ⟨_, rfl⟩
  obtain ⟨b, hb⟩ : ∃ b, (w2.alloc (.cells CC 137)).heap.size = b := ⟨_, rfl⟩
  have E4 : Hid (En w1 w4 g b (.slice none 0 0) (cdl ls) (enc ls (ds.take 0))) := by
   rw [hb] at hw4 hb4
   refine ⟨by simpa [enc] using hw4, ?_, HB3.out.trans ?_, ?_, (fun k e => by cases e)⟩
   ·rw [<- hg]
    refine CV3.out.below ?_
    rw [hb]; exact hb4
   ·rw [<- hb] at hb4
    exact hb4.mono HB3.out.size
   ·rw [<- hb]; exact HB3.out.size
  rw [hb, hg]
  clear hw4 hb4 hb hg CV3 HB2 HB3 hv37
  go_wp2_with fail
  go_loopw [18] (fun i wr => ∃ (k : Nat) (rv : Value), k <= ds.length /\ i = .int .i64 k /\ Hid (En w1 wr g b rv (cdl ls) (enc ls (ds.take k))) /\ Hid (∀ i, i < k -> 0 < ls.getD (ds.getD i 0).toNat 0)) (fun i _ => ds.length - (intOf i).toNat)
  case atStart => exact ⟨0, _, Nat.zero_le _, rfl, E4, fun i hi => by omega⟩
  case round =>
   obtain ⟨k, rv, hk, rfl, E5, HA⟩ := hrel
   clear E4
   by_cases hlt : k < ds.length
   ·obtain ⟨ab, ao, ha, hc⟩ : ∃ b o, a = some ⟨b, o, none⟩ /\ ∀ i, i < ds.length -> w1.cell? ⟨b, o + i, none⟩ = some (.int .u8 (ds.getD i 0)) := by
     rcases HC.out with rfl | h
     ·simp at hlt
     ·exact h
    subst ha
    have hyk := HY.out k
    obtain ⟨c, hx⟩ := Int.eq_ofNat_of_zero_le hyk.1
    have hc256 : c < 256 := by omega
    have HX : Hid (ds.getD k 0 = (c : Int)) := hx
    have cx : wr.cell? ⟨ab, ao + k, none⟩ = some (.int .u8 (c : Int)) := by
     have h0 := hc k hlt
     rw [E5.out.bel.cell (p := ⟨ab, ao + k, none⟩) (World.block_lt_of_cell? w1 ⟨ab, ao + k, none⟩ h0), h0, HX.out]
    obtain ⟨c0, c1, _, _⟩ := E5.out.cv.at2 c hc256
    have hgl : g < wr.heap.size := E5.out.cv.lt
    clear hc hyk hx
    have e0 : (cdl ls).getD c (0, 0) = cd ls c := by unfold cdl; exact zaj9 _ _ c hc256
    rw [e0] at c0 c1
    by_cases hz : 0 < ls.getD c 0
    ·obtain ⟨s, v, hs1, hs2, hv, ecd, ecb, hq1, hq2, hq3⟩ := HK.out.code hz
     clear hq1 hq2 hq3
     rw [ecd] at c0 c1
     simp only at c0 c1
     have HCC : Hid (∀ W' : World, Cv W' g (cdl ls) -> W'.cell? ⟨g, c * 2, none⟩ = some (.int .i64 (s : Int)) /\ W'.cell? ⟨g, c * 2 + 1, none⟩ = some (.int .i64 (v : Int))) := fun W' hW' => by
      obtain ⟨d0, d1, _, _⟩ := hW'.at2 c hc256
      rw [e0, ecd] at d0 d1
      exact ⟨d0, d1⟩
     have hs0 : ((s : Int) == 0) = false := by rw [beq_eq_false_iff_ne]; omega
     have HV : Hid (v < 2 ^ s) := hv
     have HS2 : Hid (s <= 11) := hs2
     obtain ⟨_, _, ht1, ht2, ht3⟩ := trn_ok s v hs2 hv
     have HT : Hid (0 <= trn s v /\ trn s v < 2 ^ s /\ bitsOf (trn s v) s = cbits v s) := ⟨ht1, ht2, ht3⟩
     have HEL : Hid ((enc ls (ds.take k)).length <= 1125899906841900) := by
      have := enc_le HK.out (ds.take k)
      rw [List.length_take] at this
      show _ <= _
      omega
     have HEN : Hid (enc ls (ds.take (k + 1)) = enc ls (ds.take k) ++ bitsOf (trn s v) s) := by
      show _ = _
      rw [zob9 ls ds k hlt, HX.out, Int.toNat_natCast, ecb, ht3]
     have HA2 : Hid (∀ i, i < k + 1 -> 0 < ls.getD (ds.getD i 0).toNat 0) := fun i hi => by
      by_cases e : i < k
      ·exact HA.out i e
      ·have : i = k := by omega
       subst this
       rw [HX.out, Int.toNat_natCast]; exact hz
     obtain ⟨tv, htv⟩ : ∃ tv, Hid (trn s v = tv) := ⟨_, rfl⟩
     rw [htv.out] at HT HEN
     have TC : ∀ W : World, Calls Tryz.prog 114 #[.agg #[.int .i64 s, .int .i64 v]] W fun e w' => e = .returned (.int .i64 tv) /\ Below W.heap.size W w' := fun W => by rw [<- htv.out]; exact zqo9 s v W HS2.out HV.out
     have HTC : Hid (∀ W : World, Calls Tryz.prog 114 #[.agg #[.int .i64 s, .int .i64 v]] W fun e w' => e = .returned (.int .i64 tv) /\ Below W.heap.size W w') := TC
     clear ht1 ht2 ht3 hv ecd ecb e0 hz TC HA
     go_wp2_with fail
     have hi0 : (0 : Int) <= (c : Int) := by omega
     have hi1 : (c : Int) < 256 := by omega
     have hi2 : (c : Int) <= 255 := by omega
     go_region_held3 (fun w' => w'.cell? ⟨g, c * 2, none⟩ = some (.int .i64 s) /\ w'.cell? ⟨g, c * 2 + 1, none⟩ = some (.int .i64 v)) (go_keep)
      (first
       | (go_at_call 114; refine (HTC.out _).mono ?_; rintro e w5 ⟨rfl, hb5⟩; have E6 := E5.out.blw2 hb5 (by repeat (first | exact Below.refl _ _ | apply Below.drew)); have HE6 : Hid (En w1 w5 g b rv (cdl ls) (enc ls (ds.take k))) := E6; clear E6; obtain ⟨d0, d1⟩ := HCC.out _ HE6.out.cv)
       | (go_at_call 95; refine (put_ok b rv s tv _ _ (HE6.out.blw (by repeat (first | exact Below.refl _ _ | apply Below.drew))).wr HEL.out (by omega) HT.out.1 HT.out.2.1).mono ?_; rintro e w7 ⟨rfl, rv7, h7⟩; have E7 := (HE6.out.blw (by repeat (first | exact Below.refl _ _ | apply Below.drew))).put h7; have HE7 : Hid (En w1 w7 g b rv7 (cdl ls) (enc ls (ds.take k) ++ bitsOf tv s)) := E7; clear E7 h7; obtain ⟨d2, d3⟩ := HCC.out _ HE7.out.cv))
     rw [<- HEN.out] at HE7
     clear HE6 HEN c0 c1 d0 d1 d2 d3 cx
     go_wp2_with fail
     go_roundw
     case rel => exact ⟨k + 1, rv7, by omega, by go_num, by first | exact HE7 | exact HE7.out.blw (by repeat (first | exact Below.refl _ _ | apply Below.drew)), HA2⟩
     case measure => simp [intOf]; omega
    ·have HB : Hid (mayC ls = false ∨ ∃ i, i < ds.length /\ ls.getD (ds.getD i 0).toNat 0 <= 0) := .inr ⟨k, hlt, by rw [HX.out, Int.toNat_natCast]; omega⟩
     have HBL : Hid (Below w1.heap.size w1 wr) := E5.out.bel
     have ecd : cd ls c = (0, 0) := by unfold cd; rw [if_neg hz]
     rw [ecd] at c0 c1
     clear E5 e0 ecd hz
     go_wp2_with fail
     go_ret2
     exact EPost.bad HBL.out HB.out
   ·obtain rfl : k = ds.length := by omega
    rw [List.take_length] at E5
    have HEL : Hid ((enc ls ds).length <= 1125899906842000) := by
     have := enc_le HK.out ds
     show _ <= _
     omega
    go_wp2_with fail
    refine (zgn9 b rv (enc ls ds) wr E5.out.wr HEL.out).mono ?_
    rintro e w6 ⟨v6, rfl, ho6, hb6, hf6⟩
    go_wp2_with fail
    go_ret2
    exact ⟨v6, 0, rfl, E5.out.bel.trans (hb6.mono E5.out.bel.size), fun k hk => Nat.le_trans E5.out.bel.size (hf6 k hk), .inr ⟨rfl, HM.out, HA.out, ho6⟩⟩
abbrev Tg := Int × Int × Value
def tg0 : Tg := (0, 0, .slice none 0 0)
def gcells (ps : List Tg) : List Value := ps.flatMap fun p => [Value.int .i64 p.1, Value.int .i64 p.2.1, p.2.2]
theorem zik9 (ps qs : List Tg) : gcells (ps ++ qs) = gcells ps ++ gcells qs := by simp [gcells]
theorem zos9 (ps : List Tg) (i : Nat) (h : i < ps.length) : (gcells ps)[i * 3]? = some (.int .i64 (ps.getD i tg0).1) /\ (gcells ps)[i * 3 + 1]? = some (.int .i64 (ps.getD i tg0).2.1) /\ (gcells ps)[i * 3 + 2]? = some (ps.getD i tg0).2.2 := by
 induction ps generalizing i with
 | nil => simp at h
 | cons p ps ih =>
  have e : gcells (p :: ps) = [Value.int .i64 p.1, Value.int .i64 p.2.1, p.2.2] ++ gcells ps := by simp [gcells]
  rw [e]
  cases i with
  | zero => exact ⟨rfl, rfl, rfl⟩
  | succ i =>
   have := ih i (by simpa using h)
   rw [show (i + 1) * 3 = i * 3 + 3 by omega]
   simp only [List.getD_cons_succ]
   exact ⟨by simpa using this.1, by simpa using this.2.1, by simpa using this.2.2⟩
def OwnsG (w : World) (v : Value) (ps : List Tg) : Prop := w.ownsRow 0 120 3 v ps.length (gcells ps)
theorem zle9 (w : World) : OwnsG w (.slice none 0 0) [] := World.ownsRow_nil _ _ _ _
theorem OwnsG.shape {w : World} {v : Value} {ps : List Tg} (h : OwnsG w v ps) (h0 : 0 < ps.length) :
  ∃ g cap, v = .slice (some ⟨g, 0, none⟩) ps.length cap /\ g < w.heap.size /\ ps.length <= cap /\ cap <= maxLen ∧
   ∀ i, i < ps.length -> w.cell? ⟨g, i * 3, none⟩ = some (.int .i64 (ps.getD i tg0).1) /\ w.cell? ⟨g, i * 3 + 1, none⟩ = some (.int .i64 (ps.getD i tg0).2.1) /\ w.cell? ⟨g, i * 3 + 2, none⟩ = some (ps.getD i tg0).2.2 := by
 have h' : w.ownsRow 0 120 3 v ps.length (gcells ps) := h
 rcases h'.2 with ⟨rfl, e⟩ | ⟨g, cap, cur, rfl, _, hg, hnc, hcm, _⟩
 ·omega
 ·refine ⟨g, cap, rfl, (Array.getElem?_eq_some_iff.1 hg).1, hnc, hcm, fun i hi => ?_⟩
  have := zos9 ps i hi
  rw [h'.cellAt (i * 3) (by omega), h'.cellAt (i * 3 + 1) (by omega), h'.cellAt (i * 3 + 2) (by omega)]
  exact this
theorem OwnsG.len {w : World} {v : Value} {ps : List Tg} (h : OwnsG w v ps) : ∃ a cap, v = .slice a ps.length cap /\ ps.length <= cap /\ cap <= maxLen := by
 have h' : w.ownsRow 0 120 3 v ps.length (gcells ps) := h
 rcases h'.2 with ⟨rfl, e⟩ | ⟨g, cap, cur, rfl, _, hg, hnc, hcm, _⟩
 ·exact ⟨none, 0, by rw [e], by omega, by unfold maxLen; omega⟩
 ·exact ⟨_, cap, rfl, hnc, hcm⟩
theorem OwnsG.tch {S : Nat -> Prop} {w w' : World} {v : Value} {ps : List Tg} (h : OwnsG w v ps) (ht : Tch S w w') (hn : ∀ j, v.ownBlock = some j -> ¬ S j) : OwnsG w' v ps := ht.owns h hn
theorem OwnsG.below {w w' : World} {v : Value} {ps : List Tg} (h : OwnsG w v ps) (hb : Below w.heap.size w w') : OwnsG w' v ps :=
 h.tch (S := fun _ => False) (Tch.of_below hb) (fun _ _ e => e)
theorem zai9 {w : World} {e : TypeId} {size : Nat} {v : Value} {n : Nat} {xs : List Value} (h : w.ownsRow 0 e size v n xs) {k : Nat} (hk : v.ownBlock = some k) : ∃ cur, w.heap[k]? = some (.cells cur e (0, 0)) := by
 rcases h.2 with ⟨rfl, _⟩ | ⟨g, cap, cur, rfl, _, hg, _⟩
 ·cases hk
 ·simp only [Value.ownBlock, Option.some.injEq] at hk
  subst hk
  exact ⟨cur, hg⟩
theorem OwnsG.ne_ints {w : World} {v u : Value} {ps : List Tg} {xs : List Int} (h : OwnsG w v ps) (hu : Owns .i64 3 w u xs) {k : Nat} (hk : v.ownBlock = some k) : u.ownBlock ≠ some k := by
 intro e
 obtain ⟨c1, h1⟩ := zai9 (w := w) h hk
 obtain ⟨c2, h2⟩ := zai9 (w := w) hu e
 rw [h1] at h2
 simp at h2
theorem zxb9 (w : World) (x : Int) : Owns .i64 3 (w.alloc (.cells #[.int .i64 x] 3)) (.slice (some ⟨w.heap.size, 0, none⟩) 1 1) [x] := by
 refine ⟨by simp, .inr ⟨w.heap.size, 1, #[.int .i64 x], rfl, Nat.zero_le _, heap_alloc_new w _, Nat.le_refl _, by unfold maxLen; decide, rfl, rfl⟩⟩
theorem infoG : (Tryz.prog.info? 120).map (fun i => (i.zero, i.size, i.bytes)) = some (some (.agg #[.int .i64 0, .int .i64 0, .slice none 0 0]), 3, 40) := by kernel_rfl
theorem zcn9 (w : World) {ops : Array Oper} {rest : List Oper} {o : Oper} {a : Act} {Q : Exit -> Act -> World -> Prop} (hgd : o.guard = none) (s x : Operand)
  (ho : o.op = .call { callee := .builtin .append, args := #[s, x], argTypes := #[118, 118] })
  (v : Value) (ps : List Tg) (hs : a.eval s = v) (hown : OwnsG w v ps) (p1 p2 : Int) (p3 : Value) (h3s : ∃ a l c, p3 = .slice a l c) (hx : a.eval x = .slice (some ⟨w.heap.size, 0, none⟩) 1 1)
  (hbytes : (ps.length + 1) * 40 <= 140737488355328)
  (h : ∀ v' w', OwnsG w' v' (ps ++ [(p1, p2, p3)]) -> Grew w w' v v' -> wpList Tryz.prog ops Q rest (a.put o.dst v') w') : wpList Tryz.prog ops Q (o :: rest) a (w.alloc (.cells #[.int .i64 p1, .int .i64 p2, p3] 120)) := by
 obtain ⟨i0, hi, hz0, hz1, hz2⟩ := info_parts infoG
 obtain ⟨sa, sl, sc, rfl⟩ := h3s
 refine wpList_append_own_at (w.alloc (.cells #[.int .i64 p1, .int .i64 p2, .slice sa sl sc] 120)) hgd s x 118 ho 0 120 i0 _ 3 40 Tryz.underlying118 hi hz0 hz1 hz2 rfl (by decide) v ps.length (gcells ps) hs (World.ownsRow.alloc hown _)
  ⟨w.heap.size, 0, none⟩ 1 1 [.int .i64 p1, .int .i64 p2, .slice sa sl sc] hx rfl ?_ ?_ (by unfold maxLen; omega) hbytes (Nat.zero_le _) ?_
 ·intro j u hj
  match j, hj with
  | 0, hj => simp at hj; subst hj; simp [Addr.add]
  | 1, hj => simp at hj; subst hj; simp [Addr.add]
  | 2, hj => simp at hj; subst hj; simp [Addr.add]
 ·intro u hu
  simp at hu
  rcases hu with rfl | rfl | rfl <;> rfl
 ·intro v' w' h2 h3 _ h5
  refine h v' w' ?_ ⟨Tch.grown ((Tch.refl _ w).alloc _) h3 (fun _ _ e => e), fun k hk => ?_⟩
  ·unfold OwnsG
   rw [zik9]
   simpa [gcells] using h2
  ·rcases h5 with e | e
   ·exact .inl (by rw [<- e]; exact hk)
   ·rw [hk] at e
    simp at e
    exact .inr (by omega)
def wo {α : Type} (d : α) (ps : List α) (at_ : Nat) : Nat -> List α
 | 0 => []
 | k + 1 => if k = at_ then wo d ps at_ k else wo d ps at_ k ++ [ps.getD k d]
theorem wo_map {α β : Type} (f : α -> β) (d : α) (ps : List α) (at_ k : Nat) : (wo d ps at_ k).map f = wo (f d) (ps.map f) at_ k := by
 induction k with
 | zero => rfl
 | succ k ih =>
  simp only [wo]
  by_cases h : k = at_
  ·rw [if_pos h, if_pos h]; exact ih
  ·rw [if_neg h, if_neg h, List.map_append, ih]
   congr 1
   simp only [List.map_cons, List.map_nil, List.getD_eq_getElem?_getD, List.getElem?_map]
   cases ps[k]? <;> rfl
theorem zzs9 {α : Type} (d : α) (ps : List α) (at_ k : Nat) (hk : k <= ps.length) : (ps.take k).Perm (if at_ < k then ps.getD at_ d :: wo d ps at_ k else wo d ps at_ k) := by
 induction k with
 | zero => simp [wo]
 | succ k ih =>
  have h1 := ih (by omega)
  have e : ps.take (k + 1) = ps.take k ++ [ps.getD k d] := by
   rw [List.take_succ_eq_append_getElem (by omega)]
   simp [List.getD_eq_getElem?_getD, show k < ps.length by omega]
  rw [e]
  simp only [wo]
  by_cases h : k = at_
  ·subst h
   rw [if_neg (Nat.lt_irrefl k)] at h1
   rw [if_pos (Nat.lt_succ_self k), if_pos rfl]
   exact (h1.append_right _).trans (List.perm_append_comm)
  ·rw [if_neg h]
   by_cases h2 : at_ < k
   ·rw [if_pos h2] at h1
    rw [if_pos (by omega)]
    exact h1.append_right _
   ·rw [if_neg h2] at h1
    rw [if_neg (by omega)]
    exact h1.append_right _
theorem wo_all {α : Type} (d : α) (ps : List α) (at_ : Nat) (h : at_ < ps.length) : ps.Perm (ps.getD at_ d :: wo d ps at_ ps.length) := by
 have := zzs9 d ps at_ ps.length (Nat.le_refl _)
 rw [if_pos h, List.take_length] at this
 exact this
theorem wo_le {α : Type} (d : α) (ps : List α) (at_ k : Nat) : (wo d ps at_ k).length <= k := by
 induction k with
 | zero => exact Nat.le_refl _
 | succ k ih => simp only [wo]; split; (· omega); (· rw [List.length_append]; simp; omega)
def Sls (ps : List Tg) : Prop := ∀ i, i < ps.length -> ∃ a l c, (ps.getD i tg0).2.2 = .slice a l c
set_option maxRecDepth 100000 in
theorem zfz9 (v : Value) (ps : List Tg) (at_ : Nat) (w : World) (hv : OwnsG w v ps) (h0 : 0 < ps.length) (hl : ps.length <= 1000) (hs : Sls ps) :
  Calls Tryz.prog 98 #[v, .int .i64 (at_ : Int)] w fun e w' => (∃ v', e = .returned v' /\ OwnsG w' v' (wo tg0 ps at_ ps.length) /\ ∀ j, v'.ownBlock = some j -> w.heap.size <= j) /\ Below w.heap.size w w' := by
 obtain ⟨g, cap, hve, hgl, hlc, hcm, hcell⟩ := hv.shape h0
 subst hve
 have HC : Hid (∀ i, i < ps.length -> w.cell? ⟨g, i * 3, none⟩ = some (.int .i64 (ps.getD i tg0).1) /\ w.cell? ⟨g, i * 3 + 1, none⟩ = some (.int .i64 (ps.getD i tg0).2.1) /\ w.cell? ⟨g, i * 3 + 2, none⟩ = some (ps.getD i tg0).2.2) := hcell
 have HGL : Hid (g < w.heap.size) := hgl
 have HSL : Hid (Sls ps) := hs
 have hcm2 : cap <= 9223372036854775807 := by unfold maxLen at hcm; omega
 clear hcell hgl hs hv hcm
 go_enter Tryz.func98, Tryz.ntmps98
 go_wp2_with fail
 go_loopw [5, 6] (fun o i wr => ∃ (k : Nat) (o0 : Value), k <= ps.length /\ i = .int .i64 k /\ o0 = o /\ Hid (OwnsG wr o0 (wo tg0 ps at_ k)) /\ Hid (∀ j, o0.ownBlock = some j -> w.heap.size <= j) /\ Hid (Below w.heap.size w wr)) (fun _ i _ => ps.length - (intOf i).toNat)
 case atStart => exact ⟨0, _, Nat.zero_le _, rfl, rfl, zle9 _, (fun j e => by cases e), Below.refl _ _⟩
 case round =>
  obtain ⟨k, o0, hk, rfl, rfl, OO, HN, BW⟩ := hrel
  by_cases hlt : k < ps.length
  ·have hi1 : (k : Int) < (ps.length : Int) := by omega
   by_cases he : k = at_
   ·have h1 : ((k : Int) != (at_ : Int)) = false := by simp [he]
    have O2 : Hid (OwnsG wr o0 (wo tg0 ps at_ (k + 1))) := by show OwnsG _ _ _; simp only [wo]; rw [if_pos he]; exact OO.out
    clear he OO
    go_wp2_with fail
    first
     | exact ⟨⟨k + 1, _, by omega, by go_num, rfl, O2, HN, BW⟩, by simp [intOf]; omega⟩
     | (go_roundw
        case rel => exact ⟨k + 1, _, by omega, by go_num, rfl, O2, HN, BW⟩
        case measure => simp [intOf]; omega)
   ·have h1 : ((k : Int) != (at_ : Int)) = true := by simp; omega
    obtain ⟨q1, q2, q3⟩ := HC.out k hlt
    have c1 : wr.cell? ⟨g, k * 3, none⟩ = some (.int .i64 (ps.getD k tg0).1) := by rw [BW.out.cell (p := ⟨g, k * 3, none⟩) HGL.out]; exact q1
    have c2 : wr.cell? ⟨g, k * 3 + 1, none⟩ = some (.int .i64 (ps.getD k tg0).2.1) := by rw [BW.out.cell (p := ⟨g, k * 3 + 1, none⟩) HGL.out]; exact q2
    have c3 : wr.cell? ⟨g, k * 3 + 2, none⟩ = some (ps.getD k tg0).2.2 := by rw [BW.out.cell (p := ⟨g, k * 3 + 2, none⟩) HGL.out]; exact q3
    have HS3 := HSL.out k hlt
    have HWO : Hid (wo tg0 ps at_ (k + 1) = wo tg0 ps at_ k ++ [((ps.getD k tg0).1, (ps.getD k tg0).2.1, (ps.getD k tg0).2.2)]) := by show _ = _; simp only [wo]; rw [if_neg he]
    generalize (ps.getD k tg0).1 = x1 at *
    generalize (ps.getD k tg0).2.1 = x2 at *
    generalize (ps.getD k tg0).2.2 = x3 at *
    obtain ⟨sa, sl, sc, hx3⟩ := HS3
    subst hx3
    have HLE : Hid ((wo tg0 ps at_ k).length <= 1000) := Nat.le_trans (wo_le _ _ _ _) (by omega)
    clear q1 q2 q3 he
    go_wp2_with (at_builtin; refine zcn9 _ rfl (.tmp 16) (.tmp 21) rfl _ (wo tg0 ps at_ k) rfl OO.out x1 x2 (.slice sa sl sc) ⟨sa, sl, sc, rfl⟩ rfl (by have := HLE.out; omega) ?_)
    intro o2 w3 ho3 hg3
    rw [<- HWO.out] at ho3
    have O3 : Hid (OwnsG w3 o2 (wo tg0 ps at_ (k + 1))) := ho3
    have h3 := hg3.onto BW.out HN.out
    have B3 : Hid (Below w.heap.size w w3) := h3.1
    have N3 : Hid (∀ j, o2.ownBlock = some j -> w.heap.size <= j) := h3.2
    clear ho3 hg3 h3 OO BW HN c1 c2 c3
    go_wp2_with fail
    go_roundw
    case rel => exact ⟨k + 1, _, by omega, by go_num, rfl, O3, N3, B3⟩
    case measure => simp [intOf]; omega
  ·have hk0 : k = ps.length := by omega
   rw [hk0] at OO
   have hkn : ¬ (k : Int) < (ps.length : Int) := by omega
   go_wp2_with fail
   go_ret
   exact ⟨⟨_, rfl, OO.out, HN.out⟩, BW.out⟩
def CdI (ls : List Int) (s b : Nat) (code : Int) (had : Nat) : Prop := (had = 0 /\ nx ls s b = 0) ∨ (1 <= had /\ had <= s + 1 /\ ∃ c : Nat, code = (c : Int) /\ nx ls s b = (c + 1) * 2 ^ (s + 1 - had))
theorem CdI.start (ls : List Int) (code : Int) : CdI ls 0 0 code 0 := .inl ⟨rfl, by simp [nx, nxE, cnt]⟩
theorem zzx9 (ls : List Int) (s b : Nat) (h : ls.getD b 0 ≠ ((s + 1 : Nat) : Int)) : nx ls s (b + 1) = nx ls s b := by
 unfold nx; simp only [cnt]; rw [if_neg h]; omega
theorem nx_hit (ls : List Int) (s b : Nat) (h : ls.getD b 0 = ((s + 1 : Nat) : Int)) : nx ls s (b + 1) = nx ls s b + 1 := by
 unfold nx; simp only [cnt]; rw [if_pos h]; omega
theorem CdI.miss {ls : List Int} {s b : Nat} {code : Int} {had : Nat} (h : CdI ls s b code had) (hm : ls.getD b 0 ≠ ((s + 1 : Nat) : Int)) : CdI ls s (b + 1) code had := by
 unfold CdI at h ⊢
 rw [zzx9 ls s b hm]
 exact h
theorem CdI.hit (ls : List Int) (s b : Nat) (hm : ls.getD b 0 = ((s + 1 : Nat) : Int)) : CdI ls s (b + 1) (nx ls s b : Int) (s + 1) := by
 refine .inr ⟨by omega, Nat.le_refl _, nx ls s b, rfl, ?_⟩
 rw [nx_hit ls s b hm, Nat.sub_self]
 simp
theorem CdI.next {ls : List Int} {s : Nat} {code : Int} {had : Nat} (h : CdI ls s ls.length code had) : CdI ls (s + 1) 0 code had := by
 have e : nx ls (s + 1) 0 = 2 * nx ls s ls.length := by simp [nx, nxE, cnt]
 rcases h with ⟨h1, h2⟩ | ⟨h1, h2, c, rfl, h3⟩
 ·exact .inl ⟨h1, by rw [e, h2]⟩
 ·refine .inr ⟨h1, by omega, c, rfl, ?_⟩
  rw [e, h3, show s + 1 + 1 - had = (s + 1 - had) + 1 by omega, Nat.pow_succ]
  rw [Nat.mul_left_comm, Nat.mul_comm 2 (2 ^ (s + 1 - had))]
theorem zae9 (v : Int) (s : Nat) : (cbits v s).length = s := by simp [cbits]
theorem zip9 (v : Int) (s t : Nat) (h : t < s) : (cbits v s).take (t + 1) = (cbits v s).take t ++ [v / 2 ^ (s - 1 - t) % 2] := by
 have hl : t < (cbits v s).length := by rw [zae9]; exact h
 rw [List.take_succ_eq_append_getElem hl]
 congr 2
 simp [cbits]
def RV (w : World) (go L : Nat) (B : Nat -> Value) : Prop := w.ownsRow 0 56 1 (.slice (some ⟨go, 0, none⟩) L L) L ((List.range L).map B)
theorem RV.at_ {w : World} {go L : Nat} {B : Nat -> Value} (h : RV w go L B) (i : Nat) (hi : i < L) : w.cell? ⟨go, i, none⟩ = some (B i) := by
 rw [World.ownsRow.cellAt (xs := (List.range L).map B) h i (by omega)]
 simp [hi]
theorem RV.fz {w : World} {go L : Nat} {B : Nat -> Value} (h : RV w go L B) (i : Nat) : w.frozen? ⟨go, i, none⟩ = false := World.ownsRow.frozenAt (xs := (List.range L).map B) h i
theorem RV.set {w : World} {go L : Nat} {B : Nat -> Value} (h : RV w go L B) (i : Nat) (hi : i < L) (v : Value) : RV (w.setCell ⟨go, i, none⟩ v) go L (fun j => if j = i then v else B j) := by
 have := (World.ownsRow.stored (xs := (List.range L).map B) h i v).1
 have e : ((List.range L).map B).set i v = (List.range L).map (fun j => if j = i then v else B j) := by
  apply List.ext_getElem?
  intro j
  rw [List.getElem?_set]
  by_cases hj : i = j
  ·subst hj
   simp [hi]
  ·rw [if_neg hj]
   by_cases c : j < L
   ·simp only [List.getElem?_map, List.getElem?_range c, Option.map_some]
    rw [if_neg (fun h2 : j = i => hj (Eq.symm h2))]
   ·rw [List.getElem?_eq_none (by simp; omega), List.getElem?_eq_none (by simp; omega)]
 rw [e] at this
 exact this
theorem RV.tch {S : Nat -> Prop} {w w' : World} {go L : Nat} {B : Nat -> Value} (h : RV w go L B) (ht : Tch S w w') (hn : ¬ S go) : RV w' go L B :=
 ht.owns h (fun j hj e => by simp [Value.ownBlock] at hj; subst hj; exact hn e)
theorem RV.below {w w' : World} {go L : Nat} {B : Nat -> Value} (h : RV w go L B) (hb : Below w.heap.size w w') : RV w' go L B := h.tch (S := fun _ => False) (Tch.of_below hb) (fun e => e)
theorem RV.ne {w : World} {go L : Nat} {B : Nat -> Value} (h : RV w go L B) {u : Value} {xs : List Int} (hu : Owns .i64 3 w u xs) : u.ownBlock ≠ some go := by
 intro e
 obtain ⟨c1, h1⟩ := zai9 (w := w) h (k := go) rfl
 obtain ⟨c2, h2⟩ := zai9 (w := w) hu e
 rw [h1] at h2
 simp at h2
def CB (w : World) (ls : List Int) (B : Nat -> Value) (s b : Nat) : Prop := ∀ c, c < ls.length -> 0 < ls.getD c 0 -> (ls.getD c 0 < ((s + 1 : Nat) : Int) ∨ (ls.getD c 0 = ((s + 1 : Nat) : Int) /\ c < b)) -> Owns .i64 3 w (B c) (cb ls c)
theorem CB.next {w : World} {ls : List Int} {B : Nat -> Value} {s : Nat} (h : CB w ls B s ls.length) : CB w ls B (s + 1) 0 := fun c hc h0 h1 => by
 refine h c hc h0 ?_
 rcases h1 with h1 | ⟨_, h2⟩
 ·by_cases e : ls.getD c 0 = ((s + 1 : Nat) : Int)
  ·exact .inr ⟨e, hc⟩
  ·exact .inl (by omega)
 ·omega
theorem CB.miss {w : World} {ls : List Int} {B : Nat -> Value} {s b : Nat} (h : CB w ls B s b) (hm : ls.getD b 0 ≠ ((s + 1 : Nat) : Int)) : CB w ls B s (b + 1) := fun c hc h0 h1 => by
 refine h c hc h0 ?_
 rcases h1 with h1 | ⟨h1, h2⟩
 ·exact .inl h1
 ·by_cases e : c = b
  ·subst e; exact absurd h1 hm
  ·exact .inr ⟨h1, by omega⟩
theorem cb_at {ls : List Int} {s b : Nat} (h : ls.getD b 0 = ((s + 1 : Nat) : Int)) : cb ls b = cbits (nx ls s b : Int) (s + 1) := by
 unfold cb cd
 rw [if_pos (by omega), h]
 simp
theorem infoSl : (Tryz.prog.info? 56).map (fun i => (i.zero, i.size, i.bytes)) = some (some (.slice none 0 0), 1, 24) := by kernel_rfl
theorem CB.below {w w' : World} {ls : List Int} {B : Nat -> Value} {s b : Nat} (h : CB w ls B s b) (hb : Below w.heap.size w w') : CB w' ls B s b := fun c hc h0 h1 => (h c hc h0 h1).below hb
set_option maxRecDepth 100000 in
theorem zjv9 (v : Value) (ls : List Int) (w : World) (hr : Rd .i64 w v ls) (h1 : 1 <= ls.length) (hk : LOk ls) :
  Calls Tryz.prog 62 #[v] w fun e w' => ∃ go B, e = .returned (.slice (some ⟨go, 0, none⟩) ls.length ls.length) /\ RV w' go ls.length B /\ (∀ c, c < ls.length -> 0 < ls.getD c 0 -> Owns .i64 3 w' (B c) (cb ls c)) /\ w.heap.size <= go /\ Below w.heap.size w w' := by
 obtain ⟨a, cap, hv, hlc, hcm, _, hcc⟩ := id hr
 subst hv
 obtain ⟨lb, lo, ha, hcl⟩ : ∃ b o, a = some ⟨b, o, none⟩ /\ ∀ i, i < ls.length -> w.cell? ⟨b, o + i, none⟩ = some (.int .i64 (ls.getD i 0)) := by
  rcases hcc with h | h
  ·rw [h] at h1; simp at h1
  ·exact h
 subst ha
 have HC : Hid (∀ i, i < ls.length -> w.cell? ⟨lb, lo + i, none⟩ = some (.int .i64 (ls.getD i 0))) := hcl
 have HLB : Hid (lb < w.heap.size) := World.block_lt_of_cell? w ⟨lb, lo + 0, none⟩ (hcl 0 h1)
 have HK : Hid (LOk ls) := hk
 have hl2 := hk.most
 have hcm2 : cap <= 9223372036854775807 := by unfold maxLen at hcm; omega
 obtain ⟨j0, hj, hy0, hy1, hy2⟩ := info_parts infoSl
 clear hcc hcl hcm hr hk
 go_enter Tryz.func62, Tryz.ntmps62
 go_wp2_with (at_make; refine wpList_make_full _ rfl (.tmp 11) (.tmp 11) 92 rfl 0 56 j0 _ 1 Tryz.underlying92 hj hy0 hy1 .i64 .i64 _ _ ls.length rfl rfl rfl rfl (by rw [hy2]; omega) (by unfold maxLen; omega) (Nat.zero_le _) ?_)
 intro w2 ho2 hg2
 have b2 : Below w.heap.size w w2 := (Below.refl _ _).grown hg2 (Nat.le_refl _) (fun k e => by cases e)
 obtain ⟨go, hgo⟩ : ∃ go, w.heap.size = go := ⟨_, rfl⟩
 have V2 : Hid (RV w2 go ls.length (fun _ => .slice none 0 0)) := by
  show w2.ownsRow _ _ _ _ _ _
  rw [toList_madeCells_one, hgo] at ho2
  have e : (List.range ls.length).map (fun _ => (Value.slice none 0 0)) = List.replicate ls.length (.slice none 0 0) := by simp [List.map_const']
  rw [e]
  exact ho2
 have B2 : Hid (Below w.heap.size w w2) := b2
 rw [hgo]
 clear ho2 hg2 b2 hj hy0 hy1 hy2
 go_wp2_with fail
 go_loopw [4, 5, 6] (fun cd_ hd_ k_ wr => ∃ (s had : Nat) (code : Int) (B : Nat -> Value), s <= 11 /\ k_ = .int .i64 ((s : Int) + 1) /\ hd_ = .int .i64 had /\ cd_ = .int .i64 code /\ -1 <= code /\ code <= 4096 /\ Hid (CdI ls s 0 code had) /\ Hid (RV wr go ls.length B) /\ Hid (CB wr ls B s 0) /\ Hid (Below w.heap.size w wr)) (fun _ _ k_ _ => 13 - (intOf k_).toNat)
 case atStart => exact ⟨0, 0, -1, _, by decide, rfl, rfl, rfl, by omega, by omega, CdI.start _ _, V2, (fun c hc h0 h1 => by rcases h1 with h1 | h1 <;> omega), B2⟩
 case round =>
  clear V2 B2
  obtain ⟨s, had, code, B, hs, rfl, rfl, rfl, hc1, hc2, HI, HV, HB, BW⟩ := hrel
  by_cases hs11 : s < 11
  ·have hk1 : (s : Int) + 1 <= 11 := by omega
   go_wp2_with fail
   go_loopw [4, 5, 7] (fun cd_ hd_ b_ wr => ∃ (b had : Nat) (code : Int) (B : Nat -> Value), b <= ls.length /\ b_ = .int .i64 b /\ hd_ = .int .i64 had /\ cd_ = .int .i64 code /\ -1 <= code /\ code <= 4096 /\ Hid (CdI ls s b code had) /\ Hid (RV wr go ls.length B) /\ Hid (CB wr ls B s b) /\ Hid (Below w.heap.size w wr)) (fun _ _ b_ _ => ls.length - (intOf b_).toNat)
   case atStart => exact ⟨0, had, code, B, Nat.zero_le _, rfl, rfl, rfl, hc1, hc2, HI, HV, HB, BW⟩
   case round =>
    clear HI HV HB BW hc1 hc2
    obtain ⟨b, had, code, B, hb, rfl, rfl, rfl, hc1, hc2, HI, HV, HB, BW⟩ := hrel
    by_cases hlt : b < ls.length
    ·have hi1 : (b : Int) < (ls.length : Int) := by omega
     have cx : wr.cell? ⟨lb, lo + b, none⟩ = some (.int .i64 (ls.getD b 0)) := by rw [BW.out.cell (p := ⟨lb, lo + b, none⟩) HLB.out]; exact HC.out b hlt
     by_cases hm : ls.getD b 0 = ((s + 1 : Nat) : Int)
     ·rw [hm] at cx
      have cx' : wr.cell? ⟨lb, lo + b, none⟩ = some (.int .i64 ((s : Int) + 1)) := cx
      have HI2 : Hid (CdI ls s (b + 1) (nx ls s b : Int) (s + 1)) := CdI.hit ls s b hm
      have HFT : Hid (nx ls s b < 2 ^ (s + 1)) := HK.out.fits (by omega) hlt hm
      have hp11 : 2 ^ (s + 1) <= 2048 := LOk.pow (by omega)
      have HCB : Hid (cb ls b = cbits (nx ls s b : Int) (s + 1)) := cb_at hm
      have HMM : Hid (ls.getD b 0 = ((s + 1 : Nat) : Int)) := hm
      have HII := HI.out
      obtain ⟨X, hX⟩ : ∃ X, nx ls s b = X := ⟨_, rfl⟩
      have hXb : X < 2048 := by have := HFT.out; omega
      rw [hX] at HI2 HCB
      have hsame : (((s : Int) + 1) != ((s : Int) + 1)) = false := by simp
      have HS : Hid ((had = 0 /\ X = 0) ∨ (1 <= had /\ had <= s + 1 /\ ∃ c : Nat, code = (c : Int) /\ X = (c + 1) * 2 ^ (s + 1 - had))) := by
       unfold CdI at HII
       rw [hX] at HII
       exact HII
      clear cx HII HI hX HFT hp11 hm
      rcases HS.out with ⟨rfl, hX0⟩ | ⟨g1, g2, c, rfl, hXe⟩
      ·have HX0 : Hid (X = 0) := hX0
       clear hX0
       obtain ⟨wy, hwy⟩ : ∃ wy : World, wy = wr := ⟨_, rfl⟩
       go_wp2_with fail
       rw [<- hwy] at HV HB BW
       go_loopw [8, 9] (fun bv_ i_ wr2 => ∃ (t : Nat) (z : Int) (bv : Value), t <= s + 1 /\ z = (s : Int) - (t : Int) /\ i_ = .int .i64 z /\ bv = bv_ /\ Hid (Owns .i64 3 wr2 bv ((cbits (X : Int) (s + 1)).take t)) /\ Hid (∀ j, bv.ownBlock = some j -> wy.heap.size <= j) /\ Hid (Below wy.heap.size wy wr2)) (fun _ i_ _ => (intOf i_ + 1).toNat)
       case atStart => exact ⟨0, (s : Int), _, Nat.zero_le _, by omega, rfl, rfl, zf9 _ _ _, (fun j e => by cases e), by rw [hwy]; exact Below.refl _ _⟩
       case round =>
        clear hwy
        obtain ⟨t, z, bv, ht, hz, rfl, rfl, HBV, HNB, BB⟩ := hrel
        by_cases htl : t < s + 1
        ·obtain ⟨e, he⟩ : ∃ e : Nat, s - t = e := ⟨_, rfl⟩
         have hze : z = (e : Int) := by omega
         subst hze
         have HZ : Hid ((e : Int) = (s : Int) - (t : Int)) := hz
         obtain ⟨Y, hY⟩ : ∃ Y, X / 2 ^ e = Y := ⟨_, rfl⟩
         have hYX : Y <= X := by rw [<- hY]; exact Nat.div_le_self _ _
         have hYI0 : (X : Int) / 2 ^ e = (Y : Int) := by rw [<- hY, Int.natCast_ediv, Int.natCast_pow]; rfl
         have hYI : (0 : Int) / 2 ^ e = (Y : Int) := by rw [HX0.out] at hYI0; exact hYI0
         obtain ⟨d, hd⟩ : ∃ d, Y % 2 = d := ⟨_, rfl⟩
         have hdI : (Y : Int) % 2 = (d : Int) := by omega
         have hdT : (Y : Int).tmod 2 = (d : Int) := by rw [Int.tmod_eq_emod_of_nonneg (by omega)]; exact hdI
         have HTK : Hid ((cbits (X : Int) (s + 1)).take (t + 1) = (cbits (X : Int) (s + 1)).take t ++ [(d : Int)]) := by
          show _ = _
          rw [zip9 _ _ _ htl, show s + 1 - 1 - t = e by omega]
          have h : (X : Int) / 2 ^ e = (Y : Int) := by rw [<- hY, Int.natCast_ediv, Int.natCast_pow]; rfl
          rw [h, hdI]
         have HLL : Hid (((cbits (X : Int) (s + 1)).take t).length <= 12) := by show _ <= _; rw [List.length_take, zae9]; omega
         have he0 : (0 : Int) <= (e : Int) := by omega
         have he1 : (e : Int) <= 11 := by omega
         clear hz hY hd he
         go_wp2_with (at_builtin; refine zd9 _ rfl (.tmp 44) (.tmp 49) 56 rfl 3 .i64 8 elem64 _ ((cbits (X : Int) (s + 1)).take t) rfl HBV.out (d : Int) rfl (by have := HLL.out; omega) (by have := HLL.out; omega) ?_)
         intro bv3 w3 ho3 hg3
         rw [<- HTK.out] at ho3
         have O3 : Hid (Owns .i64 3 w3 bv3 ((cbits (X : Int) (s + 1)).take (t + 1))) := ho3
         have h3 := hg3.onto BB.out HNB.out
         have B3 : Hid (Below wy.heap.size wy w3) := h3.1
         have N3 : Hid (∀ j, bv3.ownBlock = some j -> wy.heap.size <= j) := h3.2
         clear ho3 hg3 h3 HBV HNB BB
         go_wp2_with fail
         go_roundw
         case rel => exact ⟨t + 1, _, bv3, by omega, by have := HZ.out; omega, rfl, rfl, O3, N3, B3⟩
         case measure => simp [intOf] <;> omega
        ·have hts : t = s + 1 := by omega
         have hzn : z < 0 := by omega
         have hzn2 : ¬ 0 <= z := by omega
         rw [hts] at HBV
         have OB : Hid (Owns .i64 3 wr bv (cb ls b)) := by
          have h := HBV.out
          rw [List.take_of_length_le (by rw [zae9]; exact Nat.le_refl _), <- HCB.out] at h
          exact h
         obtain ⟨bg, bc, hbv, _⟩ := OB.out.shape (by rw [HCB.out, zae9]; omega)
         rw [HCB.out, zae9] at hbv
         subst hbv
         have V2 : Hid (RV wr go ls.length B) := HV.out.below BB.out
         have cg := V2.out.at_ b hlt
         have fg := V2.out.fz b
         have V3 : Hid (RV (wr.setCell ⟨go, b, none⟩ (.slice (some ⟨bg, 0, none⟩) (s + 1) bc)) go ls.length (fun j => if j = b then .slice (some ⟨bg, 0, none⟩) (s + 1) bc else B j)) := V2.out.set b hlt _
         have T3 : Tch (fun k => k = go) wr (wr.setCell ⟨go, b, none⟩ (.slice (some ⟨bg, 0, none⟩) (s + 1) bc)) := Tch.setCell (Tch.refl (fun k => k = go) wr) (p := ⟨go, b, none⟩) (fun _ => rfl) _
         have C3 : Hid (CB (wr.setCell ⟨go, b, none⟩ (.slice (some ⟨bg, 0, none⟩) (s + 1) bc)) ls (fun j => if j = b then .slice (some ⟨bg, 0, none⟩) (s + 1) bc else B j) s (b + 1)) := fun c hc h0 h1 => by
          by_cases ec : c = b
          ·subst ec
           simp only [if_true]
           exact OB.out.tch T3 (fun j hj e => V2.out.ne OB.out (by rw [hj, e]))
          ·simp only [ec, if_false]
           have ho := (HB.out.below BB.out) c hc h0 (by rcases h1 with h1 | ⟨h1, h2⟩; (· exact .inl h1); (· exact .inr ⟨h1, by omega⟩))
           exact ho.tch T3 (fun j hj e => V2.out.ne ho (by rw [hj, e]))
         have B3 : Hid (Below w.heap.size w (wr.setCell ⟨go, b, none⟩ (.slice (some ⟨bg, 0, none⟩) (s + 1) bc))) := by
          have h1 := BW.out.trans (BB.out.mono BW.out.size)
          exact h1.trans (T3.below h1.size (fun k e => by rw [e]; omega))
         generalize B b = Bb at cg
         clear T3 V2 HV HB OB HBV BB BW hts hz
         go_wp2_with fail
         go_roundw
         case rel => exact ⟨b + 1, s + 1, (X : Int), _, by omega, by go_num, by go_num, by rw [HX0.out]; rfl, by omega, by omega, HI2, V3, C3, B3⟩
         case measure => simp [intOf] <;> omega
      ·obtain ⟨d0, hd0⟩ : ∃ d, s + 1 - had = d := ⟨_, rfl⟩
       rw [hd0] at hXe
       have hdI0 : (s : Int) + 1 - (had : Int) = (d0 : Int) := by omega
       have hXI : ((c : Int) + 1) * 2 ^ d0 = (X : Int) := by rw [hXe, Int.natCast_mul, Int.natCast_pow]; rfl
       have hh0 : ((had : Int) == 0) = false := by rw [beq_eq_false_iff_ne]; omega
       have hd00 : (0 : Int) <= (d0 : Int) := by omega
       have hd11 : (d0 : Int) <= 11 := by omega
       clear hd0 hXe
       obtain ⟨wy, hwy⟩ : ∃ wy : World, wy = wr := ⟨_, rfl⟩
       go_wp2_with fail
       rw [<- hwy] at HV HB BW
       go_loopw [8, 9] (fun bv_ i_ wr2 => ∃ (t : Nat) (z : Int) (bv : Value), t <= s + 1 /\ z = (s : Int) - (t : Int) /\ i_ = .int .i64 z /\ bv = bv_ /\ Hid (Owns .i64 3 wr2 bv ((cbits (X : Int) (s + 1)).take t)) /\ Hid (∀ j, bv.ownBlock = some j -> wy.heap.size <= j) /\ Hid (Below wy.heap.size wy wr2)) (fun _ i_ _ => (intOf i_ + 1).toNat)
       case atStart => exact ⟨0, (s : Int), _, Nat.zero_le _, by omega, rfl, rfl, zf9 _ _ _, (fun j e => by cases e), by rw [hwy]; exact Below.refl _ _⟩
       case round =>
        clear hwy
        obtain ⟨t, z, bv, ht, hz, rfl, rfl, HBV, HNB, BB⟩ := hrel
        by_cases htl : t < s + 1
        ·obtain ⟨e, he⟩ : ∃ e : Nat, s - t = e := ⟨_, rfl⟩
         have hze : z = (e : Int) := by omega
         subst hze
         have HZ : Hid ((e : Int) = (s : Int) - (t : Int)) := hz
         obtain ⟨Y, hY⟩ : ∃ Y, X / 2 ^ e = Y := ⟨_, rfl⟩
         have hYX : Y <= X := by rw [<- hY]; exact Nat.div_le_self _ _
         have hYI0 : (X : Int) / 2 ^ e = (Y : Int) := by rw [<- hY, Int.natCast_ediv, Int.natCast_pow]; rfl
         have hYI : (X : Int) / 2 ^ e = (Y : Int) := by exact hYI0
         obtain ⟨d, hd⟩ : ∃ d, Y % 2 = d := ⟨_, rfl⟩
         have hdI : (Y : Int) % 2 = (d : Int) := by omega
         have hdT : (Y : Int).tmod 2 = (d : Int) := by rw [Int.tmod_eq_emod_of_nonneg (by omega)]; exact hdI
         have HTK : Hid ((cbits (X : Int) (s + 1)).take (t + 1) = (cbits (X : Int) (s + 1)).take t ++ [(d : Int)]) := by
          show _ = _
          rw [zip9 _ _ _ htl, show s + 1 - 1 - t = e by omega]
          have h : (X : Int) / 2 ^ e = (Y : Int) := by rw [<- hY, Int.natCast_ediv, Int.natCast_pow]; rfl
          rw [h, hdI]
         have HLL : Hid (((cbits (X : Int) (s + 1)).take t).length <= 12) := by show _ <= _; rw [List.length_take, zae9]; omega
         have he0 : (0 : Int) <= (e : Int) := by omega
         have he1 : (e : Int) <= 11 := by omega
         clear hz hY hd he
         go_wp2_with (at_builtin; refine zd9 _ rfl (.tmp 44) (.tmp 49) 56 rfl 3 .i64 8 elem64 _ ((cbits (X : Int) (s + 1)).take t) rfl HBV.out (d : Int) rfl (by have := HLL.out; omega) (by have := HLL.out; omega) ?_)
         intro bv3 w3 ho3 hg3
         rw [<- HTK.out] at ho3
         have O3 : Hid (Owns .i64 3 w3 bv3 ((cbits (X : Int) (s + 1)).take (t + 1))) := ho3
         have h3 := hg3.onto BB.out HNB.out
         have B3 : Hid (Below wy.heap.size wy w3) := h3.1
         have N3 : Hid (∀ j, bv3.ownBlock = some j -> wy.heap.size <= j) := h3.2
         clear ho3 hg3 h3 HBV HNB BB
         go_wp2_with fail
         go_roundw
         case rel => exact ⟨t + 1, _, bv3, by omega, by have := HZ.out; omega, rfl, rfl, O3, N3, B3⟩
         case measure => simp [intOf] <;> omega
        ·have hts : t = s + 1 := by omega
         have hzn : z < 0 := by omega
         have hzn2 : ¬ 0 <= z := by omega
         rw [hts] at HBV
         have OB : Hid (Owns .i64 3 wr bv (cb ls b)) := by
          have h := HBV.out
          rw [List.take_of_length_le (by rw [zae9]; exact Nat.le_refl _), <- HCB.out] at h
          exact h
         obtain ⟨bg, bc, hbv, _⟩ := OB.out.shape (by rw [HCB.out, zae9]; omega)
         rw [HCB.out, zae9] at hbv
         subst hbv
         have V2 : Hid (RV wr go ls.length B) := HV.out.below BB.out
         have cg := V2.out.at_ b hlt
         have fg := V2.out.fz b
         have V3 : Hid (RV (wr.setCell ⟨go, b, none⟩ (.slice (some ⟨bg, 0, none⟩) (s + 1) bc)) go ls.length (fun j => if j = b then .slice (some ⟨bg, 0, none⟩) (s + 1) bc else B j)) := V2.out.set b hlt _
         have T3 : Tch (fun k => k = go) wr (wr.setCell ⟨go, b, none⟩ (.slice (some ⟨bg, 0, none⟩) (s + 1) bc)) := Tch.setCell (Tch.refl (fun k => k = go) wr) (p := ⟨go, b, none⟩) (fun _ => rfl) _
         have C3 : Hid (CB (wr.setCell ⟨go, b, none⟩ (.slice (some ⟨bg, 0, none⟩) (s + 1) bc)) ls (fun j => if j = b then .slice (some ⟨bg, 0, none⟩) (s + 1) bc else B j) s (b + 1)) := fun c hc h0 h1 => by
          by_cases ec : c = b
          ·subst ec
           simp only [if_true]
           exact OB.out.tch T3 (fun j hj e => V2.out.ne OB.out (by rw [hj, e]))
          ·simp only [ec, if_false]
           have ho := (HB.out.below BB.out) c hc h0 (by rcases h1 with h1 | ⟨h1, h2⟩; (· exact .inl h1); (· exact .inr ⟨h1, by omega⟩))
           exact ho.tch T3 (fun j hj e => V2.out.ne ho (by rw [hj, e]))
         have B3 : Hid (Below w.heap.size w (wr.setCell ⟨go, b, none⟩ (.slice (some ⟨bg, 0, none⟩) (s + 1) bc))) := by
          have h1 := BW.out.trans (BB.out.mono BW.out.size)
          exact h1.trans (T3.below h1.size (fun k e => by rw [e]; omega))
         generalize B b = Bb at cg
         clear T3 V2 HV HB OB HBV BB BW hts hz
         go_wp2_with fail
         go_roundw
         case rel => exact ⟨b + 1, s + 1, (X : Int), _, by omega, by go_num, by go_num, rfl, by omega, by omega, HI2, V3, C3, B3⟩
         case measure => simp [intOf] <;> omega
     ·have hne : (ls.getD b 0 != ((s : Int) + 1)) = true := by simp only [bne_iff_ne]; exact hm
      have HI2 : Hid (CdI ls s (b + 1) code had) := HI.out.miss hm
      have HB2 : Hid (CB wr ls B s (b + 1)) := HB.out.miss hm
      generalize ls.getD b 0 = x at *
      clear hm HI HB
      go_wp2_with fail
      first
       | exact ⟨⟨b + 1, had, code, B, by omega, by go_num, rfl, rfl, hc1, hc2, HI2, HV, HB2, BW⟩, by simp [intOf]; omega⟩
       | (go_roundw
          case rel => exact ⟨b + 1, had, code, B, by omega, by go_num, rfl, rfl, hc1, hc2, HI2, HV, HB2, BW⟩
          case measure => simp [intOf]; omega)
    ·have hbl : b = ls.length := by omega
     have hbn : ¬ (b : Int) < (ls.length : Int) := by omega
     rw [hbl] at HI HB
     have HI2 : Hid (CdI ls (s + 1) 0 code had) := HI.out.next
     have HB2 : Hid (CB wr ls B (s + 1) 0) := HB.out.next
     clear hbl HI HB
     go_wp2_with fail
     first
      | exact ⟨⟨s + 1, had, code, B, by omega, by go_num, rfl, rfl, hc1, hc2, HI2, HV, HB2, BW⟩, by simp [intOf]; omega⟩
      | (go_roundw
         case rel => exact ⟨s + 1, had, code, B, by omega, by go_num, rfl, rfl, hc1, hc2, HI2, HV, HB2, BW⟩
         case measure => simp [intOf]; omega)
  ·have hkn : ¬ (s : Int) + 1 <= 11 := by omega
   have HA : Hid (∀ c, c < ls.length -> 0 < ls.getD c 0 -> Owns .i64 3 wr (B c) (cb ls c)) := fun c hc h0 => HB.out c hc h0 (.inl (by have := (HK.out.each c hc).2; omega))
   go_wp2_with fail
   go_ret
   first
    | exact ⟨go, B, rfl, HV.out, HA.out, by omega, BW.out⟩
    | exact ⟨go, rfl, B, HV.out, HA.out, by first | omega | exact Nat.le_refl _, by first | exact BW.out | (rw [<- hgo]; exact BW.out)⟩
theorem zgr9 {xs ys : List Int} (h1 : Bits xs) (h2 : Bits ys) : Bits (xs ++ ys) := by
 intro i
 by_cases h : i < xs.length
 ·rw [List.getD_eq_getElem?_getD, List.getElem?_append_left h, <- List.getD_eq_getElem?_getD]; exact h1 i
 ·rw [List.getD_eq_getElem?_getD, List.getElem?_append_right (by omega), <- List.getD_eq_getElem?_getD]; exact h2 _
theorem zyk9 (v : Int) (s : Nat) : Bits (cbits v s) := by
 intro i
 by_cases h : i < s
 ·simp [cbits, List.getD_eq_getElem?_getD, h]
  omega
 ·simp [cbits, List.getD_eq_getElem?_getD, h]
theorem zsw9 (ls ds : List Int) : Bits (enc ls ds) := by
 induction ds with
 | nil => intro i; simp [enc]
 | cons x r ih => exact zgr9 (zyk9 _ _) ih
set_option maxRecDepth 100000 in
theorem zjz9 (v dv : Value) (ls ds : List Int) (w : World) (hr : Rd .i64 w v ls) (hm : mayB ls = true) (hd : Rd .u8 w dv ds) (h1 : 1 <= ds.length) (hdl : ds.length <= 65536) (hy : By ds)
  (hp : ∀ i, i < ds.length -> 0 < ls.getD (ds.getD i 0).toNat 0) :
  Calls Tryz.prog 35 #[v, dv] w fun e w' => ∃ v', e = .returned (.tuple #[v', .int .i64 0]) /\ Owns .u8 5 w' v' (pack (enc ls ds)) /\ Below w.heap.size w w' /\ ∀ k, v'.ownBlock = some k -> w.heap.size <= k := by
 have HM : Hid (Calls Tryz.prog 60 #[v] w fun e w' => e = .returned (.bool true) /\ w' = w) := by have := may_rd v ls w hr; rw [hm] at this; exact this
 have hk : LOk ls := LOk.of (zcm9 hm)
 unfold mayB at hm
 rw [decide_eq_true_eq] at hm
 obtain ⟨m1, m2, m3, m4, m5⟩ := hm
 clear m3 m4 m5
 have HK : Hid (LOk ls) := hk
 have HCO := zjv9 v ls w hr m1 hk
 obtain ⟨a, cap, rfl, hlc, hcm, hnil, hcc⟩ := hr
 clear hnil
 obtain ⟨lb, lo, rfl, hc⟩ : ∃ b o, a = some ⟨b, o, none⟩ /\ ∀ i, i < ls.length -> w.cell? ⟨b, o + i, none⟩ = some (.int .i64 (ls.getD i 0)) := by
  rcases hcc with h | h
  ·rw [h] at m1; simp at m1
  ·exact h
 have HC : Hid (∀ i, i < ls.length -> w.cell? ⟨lb, lo + i, none⟩ = some (.int .i64 (ls.getD i 0))) := hc
 obtain ⟨a2, cap2, rfl, hlc2, hcm2, hnil2, hcc2⟩ := hd
 clear hnil2
 obtain ⟨db, dO, rfl, hc2⟩ : ∃ b o, a2 = some ⟨b, o, none⟩ /\ ∀ i, i < ds.length -> w.cell? ⟨b, o + i, none⟩ = some (.int .u8 (ds.getD i 0)) := by
  rcases hcc2 with h | h
  ·rw [h] at h1; simp at h1
  ·exact h
 have HD : Hid (∀ i, i < ds.length -> w.cell? ⟨db, dO + i, none⟩ = some (.int .u8 (ds.getD i 0))) := hc2
 have HP : Hid (∀ i, i < ds.length -> 0 < ls.getD (ds.getD i 0).toNat 0) := hp
 have HY : Hid (By ds) := hy
 obtain ⟨n, hn⟩ : ∃ n, ls.length = n := ⟨_, rfl⟩
 have HN : Hid (ls.length = n) := hn
 obtain ⟨q, hq⟩ : ∃ q, ds.length = q := ⟨_, rfl⟩
 have HQ : Hid (ds.length = q) := hq
 rw [hn] at m1 m2 hlc HM HC HCO ⊢
 rw [hq] at h1 hdl hlc2 HD HP ⊢
 have HCO2 : Hid (Calls Tryz.prog 62 #[.slice (some ⟨lb, lo, none⟩) n cap] w fun e w' => ∃ go B, e = .returned (.slice (some ⟨go, 0, none⟩) n n) /\ RV w' go n B /\ (∀ c, c < n -> 0 < ls.getD c 0 -> Owns .i64 3 w' (B c) (cb ls c)) /\ w.heap.size <= go /\ Below w.heap.size w w') := HCO
 clear hc hcc hc2 hcc2 hk hn hq hp hy HCO
 have hcm3 : cap <= 9223372036854775807 := by unfold maxLen at hcm; omega
 have hcm4 : cap2 <= 9223372036854775807 := by unfold maxLen at hcm2; omega
 clear hcm hcm2
 go_enter Tryz.func35, Tryz.ntmps35
 go_wp2_with fail
 refine HM.out.mono ?_
 clear HM
 rintro e w1 ⟨rfl, rfl⟩
 go_wp2_with fail
 refine HCO2.out.mono ?_
 clear HCO2
 rintro e w2 ⟨go, B, rfl, hv2, ho2, hg2, hb2⟩
 have V2 : Hid (RV w2 go n B) := hv2
 have O2 : Hid (∀ c, c < n -> 0 < ls.getD c 0 -> Owns .i64 3 w2 (B c) (cb ls c)) := ho2
 have HB2 : Hid (Below w1.heap.size w1 w2) := hb2
 have C2 : Hid (∀ i, i < n -> w2.cell? ⟨lb, lo + i, none⟩ = some (.int .i64 (ls.getD i 0))) := fun i hi => by
  have h0 := HC.out i hi
  rw [HB2.out.cell (p := ⟨lb, lo + i, none⟩) (World.block_lt_of_cell? w1 ⟨lb, lo + i, none⟩ h0)]; exact h0
 have D2 : Hid (∀ i, i < q -> w2.cell? ⟨db, dO + i, none⟩ = some (.int .u8 (ds.getD i 0))) := fun i hi => by
  have h0 := HD.out i hi
  rw [HB2.out.cell (p := ⟨db, dO + i, none⟩) (World.block_lt_of_cell? w1 ⟨db, dO + i, none⟩ h0)]; exact h0
 clear hv2 ho2 hg2 hb2 HC HD
 go_wp2_with fail
 go_loopw [8, 9] (fun r i wr => ∃ (k : Nat) (rv : Value), k <= q /\ i = .int .i64 k /\ rv = r /\ Hid (Owns .i64 3 wr rv (enc ls (ds.take k))) /\ Hid (∀ j, rv.ownBlock = some j -> w2.heap.size <= j) /\ Hid (Below w2.heap.size w2 wr)) (fun _ i _ => q - (intOf i).toNat)
 case atStart => exact ⟨0, _, Nat.zero_le _, rfl, rfl, zf9 _ _ _, (fun j e => by cases e), Below.refl _ _⟩
 case round =>
  obtain ⟨k, rv, hk, rfl, rfl, OR, NR, BR⟩ := hrel
  by_cases hlt : k < q
  ·have hki : (k : Int) < (q : Int) := by omega
   have cd0 : wr.cell? ⟨db, dO + k, none⟩ = some (.int .u8 (ds.getD k 0)) := by
    have h0 := D2.out k hlt
    rw [BR.out.cell (p := ⟨db, dO + k, none⟩) (World.block_lt_of_cell? w2 ⟨db, dO + k, none⟩ h0)]; exact h0
   obtain ⟨c, hcx⟩ : ∃ c : Nat, ds.getD k 0 = (c : Int) := ⟨(ds.getD k 0).toNat, by have := (HY.out k).1; omega⟩
   have HX : Hid (ds.getD k 0 = (c : Int)) := hcx
   have hc255 : c <= 255 := by have := (HY.out k).2; omega
   have hpos : Hid (0 < ls.getD c 0) := by have := HP.out k hlt; rw [hcx, Int.toNat_natCast] at this; exact this
   obtain ⟨s, x, hs1, hs2, hxs, hcd, hcb, hls, _, hcl⟩ := HK.out.code hpos.out
   have hcn : c < n := by have := HN.out; omega
   have hcI : (c : Int) < (n : Int) := by omega
   rw [hcx] at cd0
   have cl0 : wr.cell? ⟨lb, lo + c, none⟩ = some (.int .i64 (s : Int)) := by
    have h0 := C2.out c hcn
    rw [BR.out.cell (p := ⟨lb, lo + c, none⟩) (World.block_lt_of_cell? w2 ⟨lb, lo + c, none⟩ h0), h0, hls]
   have hsb : ((s : Int) == 0) = false := by rw [beq_eq_false_iff_ne]; omega
   have cg : wr.cell? ⟨go, c, none⟩ = some (B c) := (V2.out.below BR.out).at_ c hcn
   have OB : Hid (Owns .i64 3 wr (B c) (cb ls c)) := (O2.out c hcn hpos.out).below BR.out
   have HCL : Hid ((cb ls c).length <= 11) := by show _ <= _; rw [hcb, zae9]; exact hs2
   have HEL : Hid ((enc ls (ds.take k)).length <= 11 * 65536) := by
    show _ <= _
    have h := enc_le HK.out (ds.take k)
    rw [List.length_take] at h
    have : min k ds.length <= 65536 := by omega
    omega
   have HET : Hid (enc ls (ds.take (k + 1)) = enc ls (ds.take k) ++ cb ls c) := by
    show _ = _
    rw [zob9 ls ds k (by have := HQ.out; omega), hcx, Int.toNat_natCast]
   obtain ⟨bg, bc, hbv, _⟩ := OB.out.shape (by rw [hcb, zae9]; omega)
   rw [hcb, zae9] at hbv
   rw [hbv] at cg
   have OB2 : Hid (Owns .i64 3 wr (.slice (some ⟨bg, 0, none⟩) s bc) (cb ls c)) := by rw [<- hbv]; exact OB.out
   clear OB hcd hcb hls hxs hbv hcx hcl
   go_wp2_with (at_builtin; refine zb9 _ rfl (.tmp 39) (.tmp 43) 56 rfl 3 .i64 8 elem64 rv (enc ls (ds.take k)) rfl OR.out (.slice (some ⟨bg, 0, none⟩) s bc) (cb ls c) rfl OB2.out.rd ?a1 ?a2 ?_; (case a1 => have := HCL.out; have := HEL.out; omega); (case a2 => have := HCL.out; have := HEL.out; omega))
   intro v3 w3 ho3 hg3
   rw [<- HET.out] at ho3
   have O3 : Hid (Owns .i64 3 w3 v3 (enc ls (ds.take (k + 1)))) := ho3
   have h3 := hg3.onto BR.out NR.out
   have B3 : Hid (Below w2.heap.size w2 w3) := h3.1
   have N3 : Hid (∀ j, v3.ownBlock = some j -> w2.heap.size <= j) := h3.2
   clear ho3 hg3 h3 OR NR BR OB2 cg cd0 cl0
   go_wp2_with fail
   go_roundw
   case rel => exact ⟨k + 1, v3, by omega, by go_num, rfl, O3, N3, B3⟩
   case measure => simp [intOf]; omega
  ·have hkq : k = q := by omega
   have hkn : ¬ (k : Int) < (q : Int) := by omega
   have OE : Hid (Owns .i64 3 wr rv (enc ls ds)) := by
    have h := OR.out
    rw [List.take_of_length_le (by have := HQ.out; omega)] at h
    exact h
   have HEL : Hid ((enc ls ds).length <= 1099511627776) := by
    show _ <= _
    have h := enc_le HK.out ds
    have := HQ.out
    omega
   have BW : Hid (Below w1.heap.size w1 wr) := HB2.out.trans (BR.out.mono HB2.out.size)
   clear OR NR BR
   have HKQ : Hid (k = q) := hkq
   clear hkq
   go_wp2_with fail
   refine (zlf9 rv (enc ls ds) wr OE.out.rd (zsw9 _ _) HEL.out).mono ?_
   rintro e w5 ⟨v5, rfl, ho5, hg5⟩
   have O5 : Hid (Owns .u8 5 w5 v5 (pack (enc ls ds))) := ho5
   have h5 := hg5.onto BW.out (fun j e => by cases e)
   have B5 : Hid (Below w1.heap.size w1 w5) := h5.1
   have N5 : Hid (∀ j, v5.ownBlock = some j -> w1.heap.size <= j) := h5.2
   clear ho5 hg5 h5
   go_wp2_with fail
   go_ret2
   exact ⟨v5, rfl, O5.out, B5.out, N5.out⟩
end Go.Proofs.YtobenjkacpipeaaGreat
