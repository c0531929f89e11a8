/-
  The program's codes of lengths.
-/
import Derived.Test.YtcmnhgefeffcpaaHCode
import Derived.Test.YtcmnhgefeffcpaaHThing
import Derived.Deep.WholeRow
import Derived.Deep.MidRow
import Derived.Laws.ResultCell
namespace Go.Proofs.Ytcmnhgefeffcpaa
open Go.RowKit Pl
set_option linter.unusedVariables false
set_option maxRecDepth 100000

/-- The cells of codes. -/
def ccs (ps : List (Int × Int)) : Array Value := (pcells ps).toArray

theorem ccs_size (ps : List (Int × Int)) : (ccs ps).size = ps.length * 2 := by simp [ccs, pcells_length]
theorem ccs_one (ps : List (Int × Int)) : (ccs ps).all (·.oneCell') = true := by
  refine all_oneCell_toArray (fun v hv => ?_)
  simp only [pcells, List.mem_flatMap] at hv
  obtain ⟨p, _, hp⟩ := hv
  simp at hp
  rcases hp with rfl | rfl <;> rfl

theorem info37 : (Try.prog.info? 85).map (fun i => (i.zero, i.size)) = some (some (.agg (ccs (List.replicate 256 (0, 0)))), 512) := by kernel_rfl

/-- A variable of codes at block g. -/
structure Cv (w : World) (g : Nat) (ps : List (Int × Int)) : Prop where
  blk : w.heap[g]? = some (.cells (ccs ps) 85 (0, 0))
  len : ps.length = 256

theorem Cv.at2 {w : World} {g : Nat} {ps : List (Int × Int)} (h : Cv w g ps) (b : Nat) (hb : b < 256) : w.cell? ⟨g, b * 2, none⟩ = some (.int .i64 (ps.getD b (0, 0)).1) ∧ w.cell? ⟨g, b * 2 + 1, none⟩ = some (.int .i64 (ps.getD b (0, 0)).2) ∧ w.frozen? ⟨g, b * 2, none⟩ = false ∧ w.frozen? ⟨g, b * 2 + 1, none⟩ = false := by
  have := pcells_get ps b (by rw [h.len]; exact hb)
  refine ⟨?_, ?_, frozen_of_row w g _ _ _ h.blk, frozen_of_row w g _ _ _ h.blk⟩
  · rw [cell_of_row w g (b * 2) _ _ (0, 0) h.blk]
    simpa [ccs] using this.1
  · rw [cell_of_row w g (b * 2 + 1) _ _ (0, 0) h.blk]
    simpa [ccs] using this.2
theorem Cv.lt {w : World} {g : Nat} {ps : List (Int × Int)} (h : Cv w g ps) : g < w.heap.size := (Array.getElem?_eq_some_iff.1 h.blk).1
theorem Cv.tch {S : Nat → Prop} {w w' : World} {g : Nat} {ps : List (Int × Int)} (h : Cv w g ps) (ht : Tch S w w') (hg : ¬ S g) : Cv w' g ps := ⟨by rw [ht.block g h.lt hg]; exact h.blk, h.len⟩
theorem Cv.below {w w' : World} {g : Nat} {ps : List (Int × Int)} (h : Cv w g ps) (hb : Below w.heap.size w w') : Cv w' g ps := h.tch (S := fun _ => False) (Tch.of_below hb) (fun e => e)
theorem Cv.set {w : World} {g : Nat} {ps : List (Int × Int)} (h : Cv w g ps) (b : Nat) (hb : b < 256) (p : Int × Int) : Cv ((w.setCell ⟨g, b * 2, none⟩ (.int .i64 p.1)).setCell ⟨g, b * 2 + 1, none⟩ (.int .i64 p.2)) g (ps.set b p) := by
  refine ⟨?_, by rw [List.length_set]; exact h.len⟩
  have h1 := heap_setCell_same w g (b * 2) _ _ (.int .i64 p.1) h.blk
  have h2 := heap_setCell_same _ g (b * 2 + 1) _ _ (.int .i64 p.2) h1
  rw [h2]
  have hl := pcells_length ps
  have e := pcells_set ps b p (by rw [h.len]; exact hb)
  unfold ccs
  rw [← e]
  simp

theorem Cv.range {w : World} {g : Nat} {ps : List (Int × Int)} (h : Cv w g ps) : w.rangeAt g 0 (pcells ps) := fun j v hv => by
  rw [Nat.zero_add, cell_of_row w g j _ _ (0, 0) h.blk]
  simpa [ccs] using hv
theorem there_of_block {w : World} {b : Nat} {C : Array Value} {t : TypeId} {n : Nat} (h : w.heap[b]? = some (.cells C t (0, 0))) (hn : C.size = n) : w.there b 0 n := fun j hj => by
  rw [Nat.zero_add]
  refine ⟨?_, frozen_of_row w b j _ _ h⟩
  rw [cell_of_row w b j _ _ (0, 0) h]
  simp [hn, hj]

theorem results_cell {fn : Func} {p : Tmp} {ty : TypeId} (h : fn.results = #[.cell p ty]) (tmps : Array Value) (P : Program) (w : World) :
    (results fn tmps).run P w = ((asAddr (tmps.getD p undef)).run P w).andThen fun a w₁ => (loadVar ty a).run P w₁ := by
  simp only [results, h]
  simp [Sem.run_bind, Result.andThen]

theorem setCells_tch (b : Nat) : ∀ (vs : List Value) (o : Nat) (w : World), Tch (fun k => k = b) w (w.setCells b o vs)
  | [], _, w => Tch.refl _ w
  | v :: r, o, w => by
    have h1 : Tch (fun k => k = b) w (w.setCell ⟨b, o, none⟩ v) := Tch.setCell (Tch.refl (fun k => k = b) w) (p := ⟨b, o, none⟩) (fun _ => rfl) v
    have h2 := setCells_tch b r (o + 1) (w.setCell ⟨b, o, none⟩ v)
    exact h1.trans h2 (fun _ _ e => e)

set_option maxHeartbeats 4000000 in
theorem codesOf_any (v : Value) (ls : List Int) (w : World) (hr : Rd .i64 w v ls) (hk : LOk ls) :
    Calls Try.prog 44 #[v] w fun e w' => e = .returned (.agg (ccs (cdl ls))) ∧ Below w.heap.size w w' := by
  obtain ⟨a, cap, rfl, hlc, hcm, _, hcc⟩ := hr
  have HC : Hid (ls = [] ∨ ∃ b o, a = some ⟨b, o, none⟩ ∧ ∀ i, i < ls.length → w.cell? ⟨b, o + i, none⟩ = some (.int .i64 (ls.getD i 0))) := hcc
  have HK : Hid (LOk ls) := hk
  have h256 := hk.most
  obtain ⟨hv37, hi37⟩ := zero_of_info info37
  have HI37 : Hid ((Try.prog.info? 85).map (·.size) = some 512) := hi37
  clear hcc hi37 hk
  obtain ⟨Z, hZ⟩ : ∃ Z, Hid (ccs (List.replicate 256 (0, 0)) = Z) := ⟨_, rfl⟩
  rw [hZ.out] at hv37
  go_enter Try.func44, Try.ntmps44
  go_wp2_with fail
  obtain ⟨g, hg⟩ : ∃ g, w.heap.size + 1 = g := ⟨_, rfl⟩
  have C0 : Hid (Cv ((w.alloc (.cells Z 85)).alloc (.cells Z 85)) g (cdT ls 1 0)) := by
    refine ⟨?_, by rw [cdT_length]⟩
    rw [cdT_start, hZ.out, ← hg]
    have := heap_alloc_new (w.alloc (.cells Z 85)) (.cells Z 85)
    simpa using this
  have B0 : Hid (Below w.heap.size w ((w.alloc (.cells Z 85)).alloc (.cells Z 85))) := ((Below.refl _ _).alloc (Nat.le_refl _) _).alloc (by simp) _
  have R0 : Hid (((w.alloc (.cells Z 85)).alloc (.cells Z 85)).heap[w.heap.size]? = some (.cells Z 85 (0, 0))) := by
    show _ = _
    rw [Below.heap_alloc _ _ _ (by simp)]
    exact heap_alloc_new w _
  have HZL : Hid (Z.size = 512) := by show _ = _; rw [← hZ.out, ccs_size, List.length_replicate]
  obtain ⟨W0, hW0⟩ : ∃ W0, Hid ((w.alloc (.cells Z 85)).alloc (.cells Z 85) = W0) := ⟨_, rfl⟩
  rw [hW0.out] at C0 B0 R0 ⊢
  clear hv37
  rw [hg]
  go_loopw [4, 5] (fun x z wr => ∃ s : Nat, s ≤ 11 ∧ x = .int .i64 (nxE ls s) ∧ z = .int .i64 ((s : Int) + 1) ∧ Hid (Cv wr g (cdT ls (s + 1) 0)) ∧ Hid (Tch (fun k => k = g) W0 wr)) (fun _ z _ => 13 - (intOf z).toNat)
  case atStart => exact ⟨0, by omega, rfl, rfl, C0, Tch.refl _ _⟩
  case round =>
    obtain ⟨s, hs, rfl, rfl, CV, T⟩ := hrel
    have hnl := (HK.out.nxE_le hs).2
    have hpw := LOk.pow hs
    have hn1 : nxE ls s ≤ 2048 := by omega
    clear hnl hpw
    by_cases h11 : s < 11
    · have h12 : (s : Int) + 1 ≤ 11 := by omega
      have e2 : wrap64 ((nxE ls s : Int) * 2 ^ 1) = ((2 * nxE ls s : Nat) : Int) := by rw [IntWalk.wrap64_in _ ⟨by omega, by omega⟩]; omega
      have e3 : wrap64 ((nxE ls s : Int) * 2) = ((2 * nxE ls s : Nat) : Int) := by rw [IntWalk.wrap64_in _ ⟨by omega, by omega⟩]; omega
      go_wp2_with fail
      go_loopw [4, 16] (fun x i wr => ∃ b : Nat, b ≤ ls.length ∧ i = .int .i64 b ∧ x = .int .i64 (nx ls s b) ∧ Hid (Cv wr g (cdT ls (s + 1) b)) ∧ Hid (Tch (fun k => k = g) W0 wr)) (fun _ i _ => ls.length - (intOf i).toNat)
      case atStart => exact ⟨0, Nat.zero_le _, rfl, by simp [nx, cnt]; omega, CV, T⟩
      case round =>
        obtain ⟨b, hb, rfl, rfl, CV2, T2⟩ := hrel
        by_cases hlt : b < ls.length
        · obtain ⟨ab, ao, ha, hc⟩ : ∃ b o, a = some ⟨b, o, none⟩ ∧ ∀ i, i < ls.length → w.cell? ⟨b, o + i, none⟩ = some (.int .i64 (ls.getD i 0)) := by
            rcases HC.out with rfl | h
            · simp at hlt
            · exact h
          subst ha
          obtain ⟨x, hx⟩ : ∃ x, Hid (ls.getD b 0 = x) := ⟨_, rfl⟩
          have cx : wr.cell? ⟨ab, ao + b, none⟩ = some (.int .i64 x) := by
            have h0 := hc b hlt
            have hl0 := World.block_lt_of_cell? w ⟨ab, ao + b, none⟩ h0
            have h1 := B0.out.cell (p := ⟨ab, ao + b, none⟩) hl0
            rw [T2.out.cell (p := ⟨ab, ao + b, none⟩) (by have := B0.out.size; simp only at hl0 ⊢; omega) (fun e => by simp only at hl0 e; omega), h1, h0, hx.out]
          clear hc
          have hnx : nx ls s b ≤ 4096 := by
            have h1 := (HK.out.nxE_le (show s + 1 ≤ 11 by omega)).2
            have h2 := LOk.pow (show s + 1 ≤ 11 by omega)
            have h3 := cnt_mono ls (s + 1) hb
            simp only [nxE] at h1
            simp only [nx]
            omega
          by_cases he : x = (s : Int) + 1
          · have hbe : (x == (s : Int) + 1) = true := by simp [he]
            have HE : Hid (ls.getD b 0 = ((s + 1 : Nat) : Int)) := by show _ = _; rw [hx.out, he]; omega
            have HNX : Hid (nx ls s (b + 1) = nx ls s b + 1) := by show 2 * nxE ls s + cnt ls (s + 1) (b + 1) = _; simp only [cnt]; rw [if_pos HE.out]; simp only [nx]; omega
            obtain ⟨c0, c1, f0, f1⟩ := CV2.out.at2 b (by omega)
            obtain ⟨X, hX⟩ : ∃ X, Hid (nx ls s b = X) := ⟨_, rfl⟩
            have CV3 : Hid (Cv ((wr.setCell ⟨g, b * 2, none⟩ (.int .i64 ((s : Int) + 1))).setCell ⟨g, b * 2 + 1, none⟩ (.int .i64 (X : Int))) g (cdT ls (s + 1) (b + 1))) := by
              show Cv _ _ _
              rw [cdT_hit ls s b (by omega) HE.out]
              have := CV2.out.set b (by omega) (((s + 1 : Nat) : Int), (nx ls s b : Int))
              rw [hX.out] at this
              rw [hX.out]
              simpa using this
            have T3 : Hid (Tch (fun k => k = g) W0 ((wr.setCell ⟨g, b * 2, none⟩ (.int .i64 ((s : Int) + 1))).setCell ⟨g, b * 2 + 1, none⟩ (.int .i64 (X : Int)))) := Tch.setCell (Tch.setCell T2.out (p := ⟨g, b * 2, none⟩) (fun _ => rfl) _) (p := ⟨g, b * 2 + 1, none⟩) (fun _ => rfl) _
            rw [hX.out] at hnx HNX ⊢
            clear he CV2 T2
            go_wp2_with fail
            go_roundw
            case rel => exact ⟨b + 1, by omega, by go_num, by rw [HNX.out]; go_num, CV3, T3⟩
            case measure => simp [intOf]; omega
          · have hbe : (x == (s : Int) + 1) = false := by simp [he]
            have HNE : Hid (ls.getD b 0 ≠ ((s + 1 : Nat) : Int)) := by show _ ≠ _; rw [hx.out]; omega
            have HNX : Hid (nx ls s (b + 1) = nx ls s b) := by show 2 * nxE ls s + cnt ls (s + 1) (b + 1) = _; simp only [cnt]; rw [if_neg HNE.out]; simp only [nx]; omega
            have CV3 : Hid (Cv wr g (cdT ls (s + 1) (b + 1))) := by show Cv _ _ _; rw [cdT_miss ls (s + 1) b HNE.out]; exact CV2.out
            obtain ⟨X, hX⟩ : ∃ X, Hid (nx ls s b = X) := ⟨_, rfl⟩
            rw [hX.out] at hnx HNX ⊢
            clear he CV2
            go_wp2_with fail
            go_roundw
            case rel => exact ⟨b + 1, by omega, by go_num, by rw [HNX.out], CV3, T2⟩
            case measure => simp [intOf]; omega
        · obtain rfl : b = ls.length := by omega
          have CV3 : Hid (Cv wr g (cdT ls (s + 1 + 1) 0)) := by show Cv _ _ _; rw [← cdT_next ls (s + 1) h256]; exact CV2.out
          have HNX : Hid (nx ls s ls.length = nxE ls (s + 1)) := rfl
          rw [HNX.out]
          clear CV2
          go_wp2_with fail
          go_roundw
          case rel => exact ⟨s + 1, by omega, rfl, by go_num, CV3, T2⟩
          case measure => simp [intOf]; omega
    · obtain rfl : s = 11 := by omega
      have CE : Hid (Cv wr g (cdl ls)) := by
        show Cv _ _ _
        have := CV.out
        rw [cdT_end HK.out] at this
        exact this
      have RR : Hid (wr.there w.heap.size 0 512) := by
        refine there_of_block (C := Z) (t := 85) ?_ HZL.out
        rw [T.out.block w.heap.size (Array.getElem?_eq_some_iff.1 R0.out).1 (fun e => by omega)]
        exact R0.out
      have HSZ : Hid ((ccs (cdl ls)).size = 512) := by show _ = _; rw [ccs_size, cdl_length]
      have HPL : Hid ((pcells (cdl ls)).length = 512) := by show _ = _; rw [pcells_length, cdl_length]
      have HRG : Hid (wr.rangeAt g 0 (pcells (cdl ls))) := CE.out.range
      go_wp2_with (first | (refine wpList_load_mid rfl 85 (.tmp 3) rfl g 0 rfl (pcells (cdl ls)) _ HRG.out Try.underlying85 rfl (by rw [HPL.out]; exact HI37.out) ?_) | (refine wpList_store_mid rfl 85 (.tmp 2) (.tmp 32) rfl w.heap.size 0 (ccs (cdl ls)) rfl rfl (by rw [HSZ.out]; exact RR.out) (by rw [HSZ.out]; exact HI37.out) (ccs_one _) ?_))
      have hld := run_loadVar_mid (P := Try.prog) (wr.setCells w.heap.size 0 (ccs (cdl ls)).toList) w.heap.size 0 85 (pcells (cdl ls)) _ (by
        have := World.rangeAt_setCells_same wr w.heap.size 0 (ccs (cdl ls)).toList (by rw [Array.length_toList, HSZ.out]; exact RR.out)
        simpa [ccs] using this) Try.underlying85 rfl (by rw [HPL.out]; exact HI37.out)
      refine bodyPost_ret (v := .agg (ccs (cdl ls))) ?_ rfl ⟨rfl, ?_⟩
      · rw [results_cell (p := 2) (ty := 85) rfl]
        have e2 : ∀ X Y : Value, (({ tmps := #[Value.slice a ls.length cap, undef, Value.pointer (some { block := w.heap.size, off := 0 })], defers := [] } : Act).tmps.getD 2 undef) = Value.pointer (some { block := w.heap.size, off := 0 }) := fun _ _ => rfl
        show ((asAddr (Value.pointer (some { block := w.heap.size, off := 0 }))).run Try.prog _).andThen _ = _
        simp [asAddr, Result.andThen, hld]
        rfl
      · have h1 := B0.out.trans (T.out.below B0.out.size (fun k e => by rw [e, ← hg]; omega))
        exact h1.trans ((setCells_tch w.heap.size _ 0 wr).below h1.size (fun k e => by rw [e]; exact Nat.le_refl _))
end Go.Proofs.Ytcmnhgefeffcpaa
