/-
  The map from codes to bytes.
-/
import Derived.Test.YtcmnhgefeffcpaaHKey
namespace Go.Proofs.Ytcmnhgefeffcpaa
open Go.RowKit Pl Go.Maps Go.WideMaps
set_option linter.unusedVariables false
set_option maxRecDepth 100000

theorem aggC (w : World) : (isAgg 84).run Try.prog w = .ok true w := by kernel_rfl
theorem sizeC (w : World) : (sizeOf 84).run Try.prog w = .ok 2 w := by kernel_rfl

theorem ccs_part (ps : List (Int × Int)) (k : Nat) (hk : k < ps.length) : (ccs ps).extract (k * 2) (k * 2 + 2) = #[.int .i64 (ps.getD k (0, 0)).1, .int .i64 (ps.getD k (0, 0)).2] := by
  have h := pcells_get ps k hk
  have hl := pcells_length ps
  apply Array.ext_getElem?
  intro i
  rw [Array.getElem?_extract]
  simp only [ccs, List.size_toArray, hl, List.getElem?_toArray]
  match i with
  | 0 => rw [if_pos (by omega), Nat.add_zero, h.1]; rfl
  | 1 => rw [if_pos (by omega), h.2]; rfl
  | i + 2 => rw [if_neg (by omega)]; simp

theorem index_code (CC : Array Value) (ps : List (Int × Int)) (k : Nat) (w : World) (hC : ccs ps = CC) (hl : ps.length = 256) (hk : k < 256) :
    (Instr.index 85 (.agg CC) (.int .i64 (k : Int))).run Try.prog w = .ok (.agg #[.int .i64 (ps.getD k (0, 0)).1, .int .i64 (ps.getD k (0, 0)).2]) w := by
  subst hC
  have hb : (0 : Int) ≤ (k : Int) ∧ (k : Int) < ((256 : Nat) : Int) := by omega
  have hp := ccs_part ps k (by omega)
  have hu : ∀ w, (underlying 85).run Try.prog w = .ok (.array 256 84) w := fun w => by kernel_rfl
  unfold Instr.index
  simp only [Sem.run_bind, asIntOf, Sem.run_pure, Result.andThen_ok, hu]
  rw [if_pos hb]
  simp only [Sem.run_bind, Sem.run_pure, Result.andThen_ok, sizeC, part, aggC, Int.toNat_natCast, hp, if_true]

set_option maxHeartbeats 4000000 in
theorem known_any (lv : Value) (ls : List Int) (w : World) (hr : Rd .i64 w lv ls) (hk : LOk ls) :
    Calls Try.prog 47 #[lv] w fun e w' => ∃ b, e = .returned (.map (some b)) ∧ KM ls w' b 256 ∧ Below w.heap.size w w' ∧ w.heap.size ≤ b := by
  have HR : Hid (Rd .i64 w lv ls) := hr
  have HK : Hid (LOk ls) := hk
  clear hr hk
  have hmk : ∀ w : World, (Instr.makeMap 88 none).run Try.prog w = .ok (.map (some w.heap.size)) (w.alloc (.map #[] 0)) := fun w => by kernel_rfl
  go_enter Try.func47, Try.ntmps47
  go_wp2_with fail
  have hb1 : Below w.heap.size w (w.alloc (.map #[] 0)) := (Below.refl _ _).alloc (Nat.le_refl _) _
  refine (codesOf_any lv ls _ (HR.out.below hb1) HK.out).mono ?_
  rintro e w2 ⟨rfl, hb2⟩
  obtain ⟨CC, hCC⟩ : ∃ CC, Hid (ccs (cdl ls) = CC) := ⟨_, rfl⟩
  rw [hCC.out]
  have K2 : Hid (KM ls w2 w.heap.size 0) := (KM.start ls w).tch (S := fun _ => False) (Tch.of_below hb2) (fun e => e)
  have B2 : Hid (Below w.heap.size w w2) := hb1.trans (hb2.mono (by simp))
  obtain ⟨B, hB⟩ : ∃ B, Hid (w.heap.size = B) := ⟨_, rfl⟩
  rw [hB.out] at K2 ⊢
  clear hb1 hb2
  go_wp2_with fail
  go_loopw [9] (fun i wr => ∃ k : Nat, k ≤ 256 ∧ i = .int .i64 k ∧ Hid (KM ls wr B k) ∧ Hid (Below w.heap.size w wr)) (fun i _ => 256 - (intOf i).toNat)
  case atStart => exact ⟨0, Nat.zero_le _, rfl, K2, B2⟩
  case round =>
    obtain ⟨k, hk, rfl, K3, B3⟩ := hrel
    clear K2 B2
    by_cases hlt : k < 256
    · have e0 : (cdl ls).getD k (0, 0) = cd ls k := by unfold cdl; exact getD_rngP _ _ k hlt
      obtain ⟨x, y, hxy⟩ : ∃ x y, cd ls k = (x, y) := ⟨_, _, rfl⟩
      have hidx : ∀ w, (Instr.index 85 (.agg CC) (.int .i64 (k : Int))).run Try.prog w = .ok (.agg #[.int .i64 x, .int .i64 y]) w := fun w => by
        rw [index_code CC (cdl ls) k w hCC.out (cdl_length ls) hlt, e0, hxy]
      have HXY : Hid (cd ls k = (x, y)) := hxy
      clear e0 hxy
      have hi0 : (0 : Int) ≤ (k : Int) := by omega
      have hi1 : (k : Int) < 256 := by omega
      have hi2 : (k : Int) ≤ 255 := by omega
      have hk8 : (k : Int) % 256 = (k : Int) := by omega
      have hw8 : IntKind.u8.wrap (k : Int) = (k : Int) := wraps_u8 _ (by omega) (by omega)
      by_cases hz : 0 < ls.getD k 0
      · have hx : 0 < x := by have := HXY.out; unfold cd at this; rw [if_pos hz] at this; simp only [Prod.mk.injEq] at this; omega
        obtain ⟨D, n, hown, hn, hD, h4⟩ := K3.out
        obtain ⟨s, v, hs1, hs2, hv, ecd, _, _, _, _⟩ := HK.out.code hz
        have hpw := LOk.pow hs2
        have hxs : x = (s : Int) ∧ y = (v : Int) := by have := HXY.out.symm.trans ecd; simpa using this
        have hwx : (Lit.int .i64 x).wf = true := by simp [Lit.wf, IntKind.min, IntKind.max, IntKind.signed, IntKind.bits]; omega
        have hwy : (Lit.int .i64 y).wf = true := by simp [Lit.wf, IntKind.min, IntKind.max, IntKind.signed, IntKind.bits]; omega
        have hwk : (Lit.int .u8 (k : Int)).wf = true := by simp [Lit.wf, IntKind.min, IntKind.max, IntKind.signed, IntKind.bits]; omega
        obtain ⟨kl, hkl⟩ := key_ex x y hwx hwy
        have HKL : Hid (keyOf Try.prog 84 (.agg #[.int .i64 x, .int .i64 y]) = some kl) := hkl
        have HVAL : Hid (plainElem (H := Unit) Try.prog 5 (.int .u8 (k : Int)) = some (.lit (.int .u8 (k : Int)), [])) := plainElem_int Try.underlying5 hwk
        have HOWN : Hid (wr.ownsMap Try.prog 84 (plainElem Try.prog 5) B n D) := hown
        have HST := KM.hit hD hkl hz HXY.out h4
        have HH : Hid (∀ w' : World, w'.ownsMap Try.prog 84 (plainElem Try.prog 5) B (n + 1) (D.put kl (.lit (.int .u8 (k : Int)))) → KM ls w' B (k + 1)) := fun w' ho => ⟨_, n + 1, ho, by omega, by obtain ⟨es, rfl⟩ := hD; exact ⟨_, rfl⟩, HST⟩
        clear hs1 hs2 hv ecd hpw hxs hwx hwy hwk hkl hown hD h4 HST K3
        go_wp2_with (at_mapUpdate; refine wpList_mapUpdate_own _ rfl _ _ _ 88 rfl 84 5 keyedC Try.underlying88 _ B n D rfl (HOWN.out.alloc _) (by unfold maxLen; omega) _ _ kl rfl rfl HKL.out _ _ HVAL.out ?_; intro w4 ho4 hg4)
        have K4 : Hid (KM ls w4 B (k + 1)) := HH.out w4 ho4
        have B4 : Hid (Below w.heap.size w w4) := by
          have h1 : Below w.heap.size w (wr.alloc (.cells #[.int .i64 x, .int .i64 y] 84)) := B3.out.alloc B3.out.size _
          exact h1.grown hg4 h1.size (fun j e => by simp only [Option.some.injEq] at e; have := hB.out; omega)
        clear ho4 hg4 HOWN HH
        go_wp2_with fail
        go_roundw
        case rel => exact ⟨k + 1, by omega, by go_num, K4, B4⟩
        case measure => simp [intOf]; omega
      · have hx : x = 0 := by have := HXY.out; unfold cd at this; rw [if_neg hz] at this; simp only [Prod.mk.injEq] at this; omega
        subst hx
        have K4 : Hid (KM ls (wr.alloc (.cells #[.int .i64 0, .int .i64 y] 84)) B (k + 1)) := (K3.out.miss hz).tch (S := fun _ => False) (Tch.alloc (Tch.refl _ _) _) (fun e => e)
        have B4 : Hid (Below w.heap.size w (wr.alloc (.cells #[.int .i64 0, .int .i64 y] 84))) := B3.out.alloc B3.out.size _
        clear K3 hz
        go_wp2_with fail
        go_roundw
        case rel => exact ⟨k + 1, by omega, by go_num, K4, B4⟩
        case measure => simp [intOf]; omega
    · obtain rfl : k = 256 := by omega
      go_wp2_with fail
      go_ret
      exact ⟨B, rfl, K3.out, B3.out, by rw [hB.out]; exact Nat.le_refl _⟩
end Go.Proofs.Ytcmnhgefeffcpaa
