/-
  Where the program says that a chunk might end.
-/
import Derived.Test.YtfdnlkhipjjnbaaCLen
namespace Go.Proofs.Ytfdnlkhipjjnbaa
open Go.RowKit Pl
set_option linter.unusedVariables false

theorem bN_mid (xs : List Int) (p m j : Nat) (h : j < m) : bN ((xs.drop p).take m) j = bN xs (p + j) := by
  unfold bN
  rw [List.getD_eq_getElem?_getD, List.getD_eq_getElem?_getD, List.getElem?_take, if_pos h, List.getElem?_drop]
theorem en_out (b : Nat → Nat) (L : Nat) (p : Int) (h : p < 7 ∨ (L : Int) < p) : En b L p = false := by
  unfold En
  have : ¬ (7 ≤ p ∧ p ≤ (L : Int)) := by omega
  simp [this]
theorem en_in (b : Nat → Nat) (L p : Nat) (h : p + 7 ≤ L) : En b L ((p : Int) + 7) = (mk (fun j => b (p + j)) 7 % 128 == 0) := by
  unfold En
  have e : (fun j => b (((p : Int) + 7).toNat - 7 + j)) = fun j => b (p + j) := by
    funext j
    congr 1
  have hd : (7 : Int) ≤ (p : Int) + 7 ∧ (p : Int) + 7 ≤ (L : Int) := by omega
  rw [e]
  simp [hd]

set_option maxRecDepth 100000 in
set_option maxHeartbeats 2000000 in
theorem ends_any (v : Value) (xs : List Int) (at_ : Int) (w : World) (hr : Rd .u8 w v xs) (hb : By xs) :
    Calls Try.prog 17 #[v, .int .i64 at_] w fun e w' => e = .returned (.bool (En (bN xs) xs.length at_)) ∧ Below w.heap.size w w' := by
  obtain ⟨a, cap, hv, hlc, hcm, _⟩ := id hr
  subst hv
  have hm : xs.length ≤ 9223372036854775807 := by unfold maxLen at hcm; omega
  have HR : Hid (Rd .u8 w (.slice a xs.length cap) xs) := hr
  have HB : Hid (By xs) := hb
  clear hr hb hcm
  by_cases h7 : at_ < 7
  · have HE : Hid (En (bN xs) xs.length at_ = false) := en_out _ _ _ (.inl h7)
    go_enter Try.func17, Try.ntmps17
    go_wp2_with fail
    go_ret
    exact ⟨by rw [HE.out]; rfl, Below.refl _ _⟩
  · by_cases hL : (xs.length : Int) < at_
    · have HE : Hid (En (bN xs) xs.length at_ = false) := en_out _ _ _ (.inr hL)
      go_enter Try.func17, Try.ntmps17
      go_wp2_with fail
      go_ret
      exact ⟨by rw [HE.out]; rfl, Below.refl _ _⟩
    · obtain ⟨p, hp⟩ : ∃ p : Nat, at_ = (p : Int) + 7 := ⟨at_.toNat - 7, by omega⟩
      subst hp
      have hpL : p + 7 ≤ xs.length := by omega
      have HE : Hid (En (bN xs) xs.length ((p : Int) + 7) = (mk (fun j => bN xs (p + j)) 7 % 128 == 0)) := en_in _ _ _ hpL
      obtain ⟨hvG, hiG⟩ := zero_of_info info_256
      have HIG : Hid ((Try.prog.info? 46).map (·.size) = some 256) := hiG
      obtain ⟨Z, hZ⟩ : ∃ Z, Hid ((ucs .u32 256 (fun _ => 0)).toArray = Z) := ⟨_, rfl⟩
      rw [hZ.out] at hvG
      have HZ : Hid (Z.size = 256) := by show _ = _; rw [← hZ.out]; exact ucs_size _ _ _
      obtain ⟨ys, hys⟩ : ∃ ys, Hid ((xs.drop p).take 7 = ys) := ⟨_, rfl⟩
      obtain ⟨F, hF⟩ : ∃ F, Hid (ucs .u32 256 (gs ys) = F) := ⟨_, rfl⟩
      have HSZ : Hid (F.toArray.size = 256) := by show _ = _; rw [← hF.out]; exact ucs_size _ _ _
      have HON : Hid (F.toArray.all (·.oneCell') = true) := by show _ = _; rw [← hF.out]; exact ucs_one _ _ _
      have HBY : Hid (By ys) := by rw [← hys.out]; exact by_take (by_drop HB.out p) 7
      have HYL : Hid (ys.length = 7) := by show _ = _; rw [← hys.out, List.length_take, List.length_drop]; omega
      have HMK : Hid (mk (fun j => bN xs (p + j)) 7 = mk (bN ys) 7) := by rw [← hys.out]; exact mk_congr 7 (fun j hj => (bN_mid xs p 7 j hj).symm)
      have hp0 : (0 : Int) ≤ (p : Int) := by omega
      have hpc : (p : Int) + 7 ≤ (xs.length : Int) := by omega
      have hw1 : IntKind.i64.wrap ((p : Int) + 7 - 7) = (p : Int) := by rw [IntKind.wrap_i64]; omega
      clear hiG
      go_enter Try.func17, Try.ntmps17
      go_wp2_with (with_reducible (show wpList _ _ _ (Oper.mk _ (Op.slice _ _ _ _ _) _ _ _ _ :: _) _ _); refine wpList_mid _ w rfl (.tmp 18) (.tmp 20) (.tmp 21) rfl _ xs ?h1 HR.out p 7 ?h2 ?h3 hpL ?_; (case h1 => kernel_rfl); (case h2 => first | kernel_rfl | (simp [Act.eval])); (case h3 => first | kernel_rfl | (simp [Act.eval])))
      intro v5 r5
      rw [hys.out] at r5
      obtain ⟨a5, c5, hv5, hlc5, hcm5, _, hcell⟩ := id r5
      rw [HYL.out] at hv5 hlc5 hcell
      obtain ⟨sb, so, ha5, hcl⟩ : ∃ b o, a5 = some ⟨b, o, none⟩ ∧ ∀ i, i < 7 → w.cell? ⟨b, o + i, none⟩ = some (.int .u8 (bN ys i : Int)) := by
        rcases hcell with h | ⟨b, o, e, h⟩
        · have := HYL.out; rw [h] at this; simp at this
        · exact ⟨b, o, e, fun i hi => by rw [h i hi, bN_eq HBY.out]⟩
      subst ha5
      subst hv5
      have R5 : Hid (Rd .u8 w (.slice (some ⟨sb, so, none⟩) 7 c5) ys) := r5
      have HCL : Hid (∀ i, i < 7 → w.cell? ⟨sb, so + i, none⟩ = some (.int .u8 (bN ys i : Int))) := hcl
      have hc5 : c5 ≤ 9223372036854775807 := by unfold maxLen at hcm5; omega
      have HGO := gearsOf_any _ ys w R5.out HBY.out
      rw [hF.out] at HGO
      clear r5 hcell hcl hcm5 hw1
      go_wp2_with fail
      refine HGO.mono ?_
      rintro e w1 ⟨rfl, b1⟩
      have B1 : Hid (Below w.heap.size w w1) := b1
      clear b1 HGO
      obtain ⟨W0, hW0⟩ : ∃ W0, Hid (w1.alloc (.cells F.toArray 46) = W0) := ⟨_, rfl⟩
      go_wp2_with (with_reducible (show wpList _ _ _ (Oper.mk _ (Op.store _ _ _) _ _ _ _ :: _) _ _); refine wpList_store_newS w1 rfl 46 (.tmp 6) (.tmp 24) rfl Z F.toArray ?h1 ?h2 (by rw [HSZ.out]; exact HIG.out) (by rw [HSZ.out, HZ.out]) HON.out ?_; (case h1 => kernel_rfl); (case h2 => kernel_rfl))
      obtain ⟨g, hg⟩ : ∃ g, w1.heap.size = g := ⟨_, rfl⟩
      have U0 : Hid (Uv .u32 W0 g 46 256 (gs ys)) := by
        have h0 := uv_new .u32 w1 46 256 (gs ys)
        rw [hF.out, hW0.out, hg] at h0
        exact h0
      have B0 : Hid (Below w.heap.size w W0) := by rw [← hW0.out]; exact B1.out.alloc B1.out.size _
      have HC0 : Hid (∀ i, i < 7 → W0.cell? ⟨sb, so + i, none⟩ = some (.int .u8 (bN ys i : Int))) := fun i hi => by
        have h0 := HCL.out i hi
        rw [B0.out.cell (p := ⟨sb, so + i, none⟩) (World.block_lt_of_cell? w ⟨sb, so + i, none⟩ h0)]
        exact h0
      have HGN : Hid (∀ (j m : Nat), j < 7 → mk (bN ys) j = m → Calls Try.prog 29 #[.pointer (some ⟨g, 0, none⟩), .int .u32 (m : Int), .int .u8 (bN ys j : Int)] W0 fun e w' => e = .returned (.int .u32 (mk (bN ys) (j + 1) : Int)) ∧ w' = W0) := fun j m hj hm => by
        have hgs := gs_at ys j (by rw [HYL.out]; exact hj)
        refine goOn_any g m (bN ys j) _ (gs ys) W0 U0.out (by rw [← hm]; exact mk_lt _ _) (bN_lt HBY.out j) (by rw [hgs]; exact gr_lt _) ?_
        rw [hgs, ← hm]; rfl
      rw [hW0.out, hg]
      clear hvG hW0 hg B1 HCL U0
      go_loopw [7, 27] (fun m i wr => ∃ (k X : Nat), k ≤ 7 ∧ i = .int .i64 k ∧ m = .int .u32 X ∧ X < 4294967296 ∧ Hid (mk (bN ys) k = X) ∧ Hid (wr = W0)) (fun _ i _ => 7 - (intOf i).toNat)
      case atStart => exact ⟨0, 0, Nat.zero_le _, rfl, rfl, by decide, rfl, rfl⟩
      case round =>
        obtain ⟨k, X, hk, rfl, rfl, hX, HX, HW⟩ := hrel
        obtain rfl : wr = W0 := HW.out
        by_cases hlt : k < 7
        · have cx := HC0.out k hlt
          have HCA := HGN.out k X hlt HX.out
          have HCB : Hid (Calls Try.prog 29 #[.pointer (some ⟨g, 0, none⟩), .int .u32 (X : Int), .int .u8 (bN ys k : Int)] wr fun e w' => e = .returned (.int .u32 (mk (bN ys) (k + 1) : Int)) ∧ w' = wr) := HCA
          obtain ⟨V, hV⟩ : ∃ V, mk (bN ys) (k + 1) = V := ⟨_, rfl⟩
          have hVl : V < 4294967296 := by rw [← hV]; exact mk_lt _ _
          rw [hV] at HCB
          have HV : Hid (mk (bN ys) (k + 1) = V) := hV
          have hi1 : (k : Int) < 7 := by omega
          generalize bN ys k = b at cx HCB
          clear HCA hV
          go_wp2_with (go_at_call 29; refine HCB.out.mono ?_; rintro _ _ ⟨rfl, rfl⟩)
          go_roundw
          case rel => exact ⟨k + 1, V, by omega, by go_num, rfl, hVl, HV, by first | exact rfl | exact trivial⟩
          case measure => simp [intOf]; omega
        · have hk7 : k = 7 := by omega
          rw [hk7] at HX
          have hkn : ¬ (k : Int) < 7 := by omega
          have HE2 : Hid (En (bN xs) xs.length ((p : Int) + 7) = (X % 128 == 0)) := by show _ = _; rw [HE.out, HMK.out, HX.out]
          by_cases hd : X % 128 = 0
          · have hd1 : (X : Int) % 128 = 0 := by omega
            have hd3 : (X % 128 == 0) = true := by simpa using hd
            rw [hd3] at HE2
            clear hd3 hlt hk7
            go_wp2_with fail
            go_ret
            exact ⟨by rw [HE2.out]; rfl, B0.out⟩
          · have hd1 : ¬ (X : Int) % 128 = 0 := by omega
            have hd3 : (X % 128 == 0) = false := by simpa using hd
            have hd4 : ((X : Int) % 128 == 0) = false := by simpa using hd1
            rw [hd3] at HE2
            clear hd3 hlt hk7
            go_wp2_with fail
            go_ret
            exact ⟨by rw [HE2.out]; rfl, B0.out⟩
end Go.Proofs.Ytfdnlkhipjjnbaa
