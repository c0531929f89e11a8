/-
  The program's table: symbols laid by a step.
-/
import Derived.Test.YtcmnhgefeffcpaaFMay
import Derived.Test.YtcmnhgefeffcpaaFArr
namespace Go.Proofs.Ytcmnhgefeffcpaa
open Go.RowKit Pl
set_option linter.unusedVariables false

/-- The cells of a table in which j symbols are laid. -/
def tc (f : Nat → Nat) (L z j i : Nat) : Int := if i % 3 = 0 ∧ i / 3 < z then (tj f L z j (i / 3) : Int) else 0

theorem tc_start (f : Nat → Nat) (L z i : Nat) : tc f L z 0 i = 0 := by unfold tc; rw [tj_start]; split <;> rfl
theorem tc_at (f : Nat → Nat) (L z j p : Nat) (hp : p < z) : tc f L z j (p * 3) = (tj f L z j p : Int) := by
  unfold tc; rw [if_pos ⟨by omega, by omega⟩, show p * 3 / 3 = p by omega]
theorem tc_step {z : Nat} (hz : Zok z) (f : Nat → Nat) (L j k : Nat) (hj : j < z) (hk : k < L) (h1 : cu f k ≤ j) (h2 : j < cu f (k + 1)) (i : Nat) :
    upd (tc f L z j) ((j * stp z) % z * 3) (k : Int) i = tc f L z (j + 1) i := by
  unfold upd tc
  have hm : (j * stp z) % z < z := Nat.mod_lt _ (by omega)
  by_cases e : i = (j * stp z) % z * 3
  · rw [if_pos e, if_pos ⟨by omega, by omega⟩, tj_step hz f L j (i / 3) k hj (by omega) hk h1 h2, if_pos (by omega)]
  · rw [if_neg e]
    by_cases c : i % 3 = 0 ∧ i / 3 < z
    · rw [if_pos c, if_pos c, tj_step hz f L j (i / 3) k hj c.2 hk h1 h2, if_neg (by omega)]
    · rw [if_neg c, if_neg c]

theorem at_step (j st z : Nat) : ((j * st) % z + st) % z = ((j + 1) * st) % z := by
  rw [Nat.add_mod, Nat.mod_mod, ← Nat.add_mod, Nat.succ_mul]

set_option maxRecDepth 100000 in
set_option maxHeartbeats 4000000 in
theorem spread_anyF (v : Value) (s : List Int) (lg z : Nat) (w : World) (hr : Rd .i64 w v s) (hk : Sok s lg) (hz : 2 ^ lg = z) :
    Calls Try.prog 53 #[v, .int .i64 z] w fun e w' => e = .returned (.agg (ics 1536 (tc (nn s) s.length z z)).toArray) ∧ Below w.heap.size w w' := by
  obtain ⟨a, cap, rfl, hlc, hcm, _, hcc⟩ := hr
  have HC : Hid (s = [] ∨ ∃ b o, a = some ⟨b, o, none⟩ ∧ ∀ i, i < s.length → w.cell? ⟨b, o + i, none⟩ = some (.int .i64 (s.getD i 0))) := hcc
  have HK : Hid (Sok s lg) := hk
  have HZ : Hid (2 ^ lg = z) := hz
  have HZK : Hid (Zok z) := by show Zok z; rw [← hz]; exact hk.fok.zok
  have hz1 := HZK.out.pos
  have hlen := hk.len
  have HS : Hid (cu (nn s) s.length = z) := by show _ = _; rw [hk.fok.sum, hz]
  obtain ⟨hv37, hi37⟩ := zero_of_info info_tab
  have HI37 : Hid ((Try.prog.info? 68).map (·.size) = some 1536) := hi37
  obtain ⟨st, hst⟩ : ∃ st, Hid (stp z = st) := ⟨_, rfl⟩
  have hst1 : (z : Int) / 2 + (z : Int) / 8 + 3 = (st : Int) := by rw [← hst.out]; unfold stp; omega
  have hst2 : 0 < st ∧ st ≤ 400 := by rw [← hst.out]; unfold stp; omega
  clear hcc hi37 hk hz
  obtain ⟨Z, hZ⟩ : ∃ Z, Hid ((ics 1536 (fun _ => 0)).toArray = Z) := ⟨_, rfl⟩
  rw [hZ.out] at hv37
  obtain ⟨F, hF⟩ : ∃ F, Hid (ics 1536 (tc (nn s) s.length z z) = F) := ⟨_, rfl⟩
  rw [hF.out]
  go_enter Try.func53, Try.ntmps53
  go_wp2_with fail
  obtain ⟨g, hg⟩ : ∃ g, w.heap.size + 1 = g := ⟨_, rfl⟩
  have C0 : Hid (Iv ((w.alloc (.cells Z 68)).alloc (.cells Z 68)) g 68 1536 (tc (nn s) s.length z 0)) := by
    have h0 := iv_new (w.alloc (.cells Z 68)) 68 1536 (fun _ => 0)
    rw [hZ.out] at h0
    rw [← hg]
    have h1 := h0.congr (d := tc (nn s) s.length z 0) (fun i _ => (tc_start _ _ _ i).symm)
    rw [World.size_alloc] at h1
    exact h1
  have B0 : Hid (Below w.heap.size w ((w.alloc (.cells Z 68)).alloc (.cells Z 68))) := ((Below.refl _ _).alloc (Nat.le_refl _) _).alloc (by simp) _
  have R0 : Hid (((w.alloc (.cells Z 68)).alloc (.cells Z 68)).heap[w.heap.size]? = some (.cells Z 68 (0, 0))) := by
    show _ = _
    rw [Below.heap_alloc _ _ _ (by simp)]
    exact heap_alloc_new w _
  have HZL : Hid (Z.size = 1536) := by show _ = _; rw [← hZ.out, ics_size]
  obtain ⟨W0, hW0⟩ : ∃ W0, Hid ((w.alloc (.cells Z 68)).alloc (.cells Z 68) = W0) := ⟨_, rfl⟩
  rw [hW0.out] at C0 B0 R0 ⊢
  clear hv37
  rw [hg]
  go_loopw [7, 18] (fun x i wr => ∃ (k A : Nat), k ≤ s.length ∧ i = .int .i64 k ∧ x = .int .i64 A ∧ A < z ∧ Hid (A = (cu (nn s) k * st) % z) ∧ Hid (Iv wr g 68 1536 (tc (nn s) s.length z (cu (nn s) k))) ∧ Hid (Tch (fun k => k = g) W0 wr)) (fun _ i _ => s.length - (intOf i).toNat)
  case atStart => exact ⟨0, 0, Nat.zero_le _, rfl, rfl, by omega, by show _ = _; simp [cu], C0, Tch.refl _ _⟩
  case round =>
    obtain ⟨k, A, hk, rfl, rfl, hA, HA, CV, T⟩ := hrel
    by_cases hlt : k < s.length
    · obtain ⟨ab, ao, ha, hc⟩ : ∃ b o, a = some ⟨b, o, none⟩ ∧ ∀ i, i < s.length → w.cell? ⟨b, o + i, none⟩ = some (.int .i64 (s.getD i 0)) := by
        rcases HC.out with rfl | h
        · simp at hlt
        · exact h
      subst ha
      obtain ⟨m, hm⟩ : ∃ m, Hid (nn s k = m) := ⟨_, rfl⟩
      have cx : wr.cell? ⟨ab, ao + k, none⟩ = some (.int .i64 (m : Int)) := by
        have h0 := hc k hlt
        have hl0 := World.block_lt_of_cell? w ⟨ab, ao + k, none⟩ h0
        have h1 := B0.out.cell (p := ⟨ab, ao + k, none⟩) hl0
        rw [T.out.cell (p := ⟨ab, ao + k, none⟩) (by have := B0.out.size; simp only at hl0 ⊢; omega) (fun e => by simp only at hl0 e; omega), h1, h0, (HK.out.le k).1, hm.out]
      have hm1 : m ≤ 512 := by have h1 := (HK.out.le k).2; have h2 := HK.out.z; rw [hm.out] at h1; omega
      have HM : Hid (cu (nn s) (k + 1) = cu (nn s) k + m) := by show _ = _; simp only [cu]; rw [hm.out]
      have HLE : Hid (cu (nn s) k + m ≤ z) := by show _ ≤ _; rw [← HM.out, ← HS.out]; exact cu_mono _ hlt
      clear hc
      go_wp2_with fail
      go_loopw [7, 24] (fun x i wr => ∃ (j A : Nat), j ≤ m ∧ i = .int .i64 j ∧ x = .int .i64 A ∧ A < z ∧ Hid (A = ((cu (nn s) k + j) * st) % z) ∧ Hid (Iv wr g 68 1536 (tc (nn s) s.length z (cu (nn s) k + j))) ∧ Hid (Tch (fun k => k = g) W0 wr)) (fun _ i _ => m - (intOf i).toNat)
      case atStart => exact ⟨0, A, Nat.zero_le _, rfl, rfl, hA, HA, CV, T⟩
      case round =>
        clear cx HA CV T hA
        obtain ⟨j, A, hj, rfl, rfl, hA, HA, CV, T⟩ := hrel
        by_cases hjl : j < m
        · have c0 := CV.out.at_ (A * 3) (by omega)
          have f0 := CV.out.fz (A * 3)
          have CV2 : Hid (Iv (wr.setCell ⟨g, A * 3, none⟩ (.int .i64 (k : Int))) g 68 1536 (tc (nn s) s.length z (cu (nn s) k + (j + 1)))) := by
            refine (CV.out.set (A * 3) (by omega) (k : Int)).congr (fun i _ => ?_)
            have := tc_step HZK.out (nn s) s.length (cu (nn s) k + j) k (by have := HLE.out; omega) hlt (by omega) (by rw [HM.out]; omega) i
            rw [hst.out, ← HA.out] at this
            exact this
          have T2 : Hid (Tch (fun k => k = g) W0 (wr.setCell ⟨g, A * 3, none⟩ (.int .i64 (k : Int)))) := Tch.setCell T.out (p := ⟨g, A * 3, none⟩) (fun _ => rfl) _
          obtain ⟨B, hB⟩ : ∃ B, Hid ((A + st) % z = B) := ⟨_, rfl⟩
          have hB1 : B < z := by rw [← hB.out]; exact Nat.mod_lt _ (by omega)
          have HB : Hid (B = ((cu (nn s) k + (j + 1)) * st) % z) := by show _ = _; rw [← hB.out, HA.out, at_step]; rfl
          have hBI : ((A : Int) + (st : Int)) % (z : Int) = (B : Int) := by rw [← hB.out]; push_cast; rfl
          have hi0 : (0 : Int) ≤ (A : Int) := by omega
          have hi1 : (A : Int) < 512 := by omega
          have hi2 : (A : Int) ≤ 511 := by omega
          clear HA CV T
          go_wp2_with fail
          go_roundw
          case rel => exact ⟨j + 1, B, by omega, by go_num, by first | rfl | go_num, hB1, HB, CV2, T2⟩
          case measure => simp [intOf]; omega
        · obtain rfl : j = m := by omega
          rw [← HM.out] at HA CV
          go_wp2_with fail
          go_roundw
          case rel => exact ⟨k + 1, A, by omega, by go_num, rfl, hA, HA, CV, T⟩
          case measure => simp [intOf]; omega
    · obtain rfl : k = s.length := by omega
      rw [HS.out] at CV
      have RR : Hid (wr.there w.heap.size 0 1536) := by
        refine there_of_blockF (C := Z) (t := 68) ?_ HZL.out
        rw [T.out.block w.heap.size (Array.getElem?_eq_some_iff.1 R0.out).1 (fun e => by omega)]
        exact R0.out
      have HRG : Hid (wr.rangeAt g 0 F) := by rw [← hF.out]; exact CV.out.range
      have HPL : Hid (F.length = 1536) := by show _ = _; rw [← hF.out, ics_length]
      have HSZ : Hid (F.toArray.size = 1536) := by show _ = _; rw [List.size_toArray]; exact HPL.out
      have HON : Hid (F.toArray.all (·.oneCell') = true) := by show _ = _; rw [← hF.out]; exact ics_one _ _
      go_wp2_with (first | (refine wpList_load_mid rfl 68 (.tmp 5) rfl g 0 rfl F _ HRG.out Try.underlying68 rfl (by rw [HPL.out]; exact HI37.out) ?_) | (refine wpList_store_mid rfl 68 (.tmp 4) (.tmp 37) rfl w.heap.size 0 F.toArray rfl rfl (by rw [HSZ.out]; exact RR.out) (by rw [HSZ.out]; exact HI37.out) HON.out ?_))
      have hld := run_loadVar_mid (P := Try.prog) (wr.setCells w.heap.size 0 F.toArray.toList) w.heap.size 0 68 F _ (by
        have := World.rangeAt_setCells_same wr w.heap.size 0 F.toArray.toList (by rw [Array.length_toList, HSZ.out]; exact RR.out)
        simpa using this) Try.underlying68 rfl (by rw [HPL.out]; exact HI37.out)
      refine bodyPost_ret (v := .agg F.toArray) ?_ rfl ⟨rfl, ?_⟩
      · exact results_atF (p := 4) (ty := 68) rfl _ _ _ w.heap.size _ rfl hld
      · have h1 := B0.out.trans (T.out.below B0.out.size (fun k e => by rw [e, ← hg]; omega))
        exact h1.trans ((setCells_tchF w.heap.size _ 0 wr).below h1.size (fun k e => by rw [e]; exact Nat.le_refl _))
end Go.Proofs.Ytcmnhgefeffcpaa
