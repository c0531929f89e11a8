/-
  The length of the chunk that data begin with.
-/
import Derived.Test.YtfdnlkhipjjnbaaCGrs
namespace Go.Proofs.Ytfdnlkhipjjnbaa
open Go.RowKit Pl
set_option linter.unusedVariables false

set_option maxRecDepth 100000 in
set_option maxHeartbeats 2000000 in
theorem chunkLength_any (g : Nat) (c : Nat → Nat) (v : Value) (xs : List Int) (w : World) (hg : Uv .u32 w g 46 256 c) (hc : ∀ j, j < xs.length → c (bN xs j) = gr (bN xs j)) (hr : Rd .u8 w v xs) (hb : By xs) (h0 : 0 < xs.length) :
    Calls Try.prog 27 #[.pointer (some ⟨g, 0, none⟩), v] w fun e w' => (∃ n : Nat, e = .returned (.int .i64 (n : Int)) ∧ Cl (bN xs) (min xs.length 512) n) ∧ w' = w := by
  obtain ⟨a, cap, hv, hlc, hcm, _, hcc⟩ := hr
  subst hv
  obtain ⟨ab, ao, ha, hc0⟩ : ∃ b o, a = some ⟨b, o, none⟩ ∧ ∀ i, i < xs.length → w.cell? ⟨b, o + i, none⟩ = some (.int .u8 (xs.getD i 0)) := by
    rcases hcc with rfl | h
    · simp at h0
    · exact h
  subst ha
  have HC : Hid (∀ i, i < xs.length → w.cell? ⟨ab, ao + i, none⟩ = some (.int .u8 (bN xs i : Int))) := fun i hi => by rw [hc0 i hi, bN_eq hb]
  have HB : Hid (By xs) := hb
  have HGO : Hid (∀ (j m : Nat), j < xs.length → mk (bN xs) j = m → ∀ W, Uv .u32 W g 46 256 c → Calls Try.prog 29 #[.pointer (some ⟨g, 0, none⟩), .int .u32 (m : Int), .int .u8 (bN xs j : Int)] W fun e w' => e = .returned (.int .u32 (mk (bN xs) (j + 1) : Int)) ∧ w' = W) := fun j m hj hm W hW => by
    refine goOn_any g m (bN xs j) _ c W hW (by rw [← hm]; exact mk_lt _ _) (bN_lt hb j) (by rw [hc j hj]; exact gr_lt _) ?_
    rw [hc j hj, ← hm]; rfl
  have HU : Hid (Uv .u32 w g 46 256 c) := hg
  have hm : xs.length ≤ 9223372036854775807 := by unfold maxLen at hcm; omega
  have hcm2 : cap ≤ 9223372036854775807 := by unfold maxLen at hcm; omega
  clear hcc hcm hb hg hc0 hc
  by_cases hL : xs.length ≤ 512
  · have hL2 : ¬ (512 : Int) < (xs.length : Int) := by omega
    have hL3 : (xs.length : Int) ≤ 512 := by omega
    have hMc : (xs.length : Int) ≤ (cap : Int) := by omega
    have HML : Hid (xs.length ≤ xs.length) := by show _ ≤ _; omega
    go_enter Try.func27, Try.ntmps27
    go_wp2_with fail
    go_loopw [6, 16] (fun m i wr => ∃ (k X : Nat), k ≤ xs.length ∧ i = .int .i64 k ∧ m = .int .u32 X ∧ Hid (mk (bN xs) k = X) ∧ Hid (∀ j, 1 ≤ j → j ≤ k → ¬ Ht (bN xs) j) ∧ Hid (wr = w)) (fun _ i _ => xs.length - (intOf i).toNat)
    case atStart => exact ⟨0, 0, Nat.zero_le _, rfl, rfl, rfl, fun j h1 h2 => by omega, rfl⟩
    case round =>
      obtain ⟨k, X, hk, rfl, rfl, HX, HN, HW⟩ := hrel
      obtain rfl : wr = w := HW.out
      by_cases hlt : k < xs.length
      · have cx := HC.out k (Nat.lt_of_lt_of_le hlt HML.out)
        have HCA := HGO.out k X (Nat.lt_of_lt_of_le hlt HML.out) HX.out wr HU.out
        have HCB : Hid (Calls Try.prog 29 #[.pointer (some ⟨g, 0, none⟩), .int .u32 (X : Int), .int .u8 (bN xs k : Int)] wr fun e w' => e = .returned (.int .u32 (mk (bN xs) (k + 1) : Int)) ∧ w' = wr) := HCA
        obtain ⟨V, hV⟩ : ∃ V, mk (bN xs) (k + 1) = V := ⟨_, rfl⟩
        have hVl : V < 4294967296 := by rw [← hV]; exact mk_lt _ _
        rw [hV] at HCB
        have HV : Hid (mk (bN xs) (k + 1) = V) := hV
        have hi1 : (k : Int) < (xs.length : Int) := by omega
        have hi2 : (k : Int) < (cap : Int) := by omega
        generalize bN xs k = b at cx HCB
        clear HCA hV
        by_cases h64 : 64 ≤ k + 1
        · have h64a : (64 : Int) ≤ (k : Int) + 1 := by omega
          have h64b : ¬ (k : Int) + 1 < 64 := by omega
          by_cases hd : V % 128 = 0
          · have hd1 : (V : Int) % 128 = 0 := by omega
            have hd2 : (V : Int).tmod 128 = 0 := by rw [Int.tmod_eq_emod_of_nonneg (by omega)]; exact hd1
            go_wp2_with (go_at_call 29; refine HCB.out.mono ?_; rintro _ _ ⟨rfl, rfl⟩)
            go_ret
            exact ⟨⟨k + 1, by go_num, by omega, by omega, fun j h1 h2 => HN.out j h1 (by omega), .inr ⟨h64, by rw [HV.out]; exact hd⟩⟩, rfl⟩
          · have hd1 : ¬ (V : Int) % 128 = 0 := by omega
            have hd2 : ¬ (V : Int).tmod 128 = 0 := by rw [Int.tmod_eq_emod_of_nonneg (by omega)]; exact hd1
            have HN2 : Hid (∀ j, 1 ≤ j → j ≤ k + 1 → ¬ Ht (bN xs) j) := fun j h1 h2 => by
              by_cases e : j = k + 1
              · subst e; rintro ⟨_, h⟩; rw [HV.out] at h; exact hd h
              · exact HN.out j h1 (by omega)
            have hd3 : ((V : Int) % 128 == 0) = false := by simpa using hd1
            go_wp2_with (go_at_call 29; refine HCB.out.mono ?_; rintro _ _ ⟨rfl, rfl⟩)
            exact ⟨⟨k + 1, V, by omega, by go_num, rfl, HV, HN2, trivial⟩, by simp [intOf]; omega⟩
        · have h64a : ¬ (64 : Int) ≤ (k : Int) + 1 := by omega
          have h64b : (k : Int) + 1 < 64 := by omega
          have HN2 : Hid (∀ j, 1 ≤ j → j ≤ k + 1 → ¬ Ht (bN xs) j) := fun j h1 h2 => by
            rintro ⟨h, _⟩; omega
          go_wp2_with (go_at_call 29; refine HCB.out.mono ?_; rintro _ _ ⟨rfl, rfl⟩)
          exact ⟨⟨k + 1, V, by omega, by go_num, rfl, HV, HN2, trivial⟩, by simp [intOf]; omega⟩
      · have hkM : k = xs.length := by omega
        have hkn : ¬ (k : Int) < (xs.length : Int) := by omega
        go_wp2_with fail
        go_ret
        exact ⟨⟨xs.length, rfl, by omega, by omega, fun j h1 h2 => HN.out j h1 (by omega), .inl (by omega)⟩, rfl⟩
  · have hL1 : ¬ (xs.length : Int) < 512 := by omega
    have hL2 : (512 : Int) < (xs.length : Int) := by omega
    have hL3 : ¬ (xs.length : Int) ≤ 512 := by omega
    have hMc : (512 : Int) ≤ (cap : Int) := by omega
    have HML : Hid (512 ≤ xs.length) := by show _ ≤ _; omega
    go_enter Try.func27, Try.ntmps27
    go_wp2_with fail
    go_loopw [6, 16] (fun m i wr => ∃ (k X : Nat), k ≤ 512 ∧ i = .int .i64 k ∧ m = .int .u32 X ∧ Hid (mk (bN xs) k = X) ∧ Hid (∀ j, 1 ≤ j → j ≤ k → ¬ Ht (bN xs) j) ∧ Hid (wr = w)) (fun _ i _ => 512 - (intOf i).toNat)
    case atStart => exact ⟨0, 0, Nat.zero_le _, rfl, rfl, rfl, fun j h1 h2 => by omega, rfl⟩
    case round =>
      obtain ⟨k, X, hk, rfl, rfl, HX, HN, HW⟩ := hrel
      obtain rfl : wr = w := HW.out
      by_cases hlt : k < 512
      · have cx := HC.out k (Nat.lt_of_lt_of_le hlt HML.out)
        have HCA := HGO.out k X (Nat.lt_of_lt_of_le hlt HML.out) HX.out wr HU.out
        have HCB : Hid (Calls Try.prog 29 #[.pointer (some ⟨g, 0, none⟩), .int .u32 (X : Int), .int .u8 (bN xs k : Int)] wr fun e w' => e = .returned (.int .u32 (mk (bN xs) (k + 1) : Int)) ∧ w' = wr) := HCA
        obtain ⟨V, hV⟩ : ∃ V, mk (bN xs) (k + 1) = V := ⟨_, rfl⟩
        have hVl : V < 4294967296 := by rw [← hV]; exact mk_lt _ _
        rw [hV] at HCB
        have HV : Hid (mk (bN xs) (k + 1) = V) := hV
        have hi1 : (k : Int) < 512 := by omega
        have hi2 : (k : Int) < (cap : Int) := by omega
        generalize bN xs k = b at cx HCB
        clear HCA hV
        by_cases h64 : 64 ≤ k + 1
        · have h64a : (64 : Int) ≤ (k : Int) + 1 := by omega
          have h64b : ¬ (k : Int) + 1 < 64 := by omega
          by_cases hd : V % 128 = 0
          · have hd1 : (V : Int) % 128 = 0 := by omega
            have hd2 : (V : Int).tmod 128 = 0 := by rw [Int.tmod_eq_emod_of_nonneg (by omega)]; exact hd1
            go_wp2_with (go_at_call 29; refine HCB.out.mono ?_; rintro _ _ ⟨rfl, rfl⟩)
            go_ret
            exact ⟨⟨k + 1, by go_num, by omega, by omega, fun j h1 h2 => HN.out j h1 (by omega), .inr ⟨h64, by rw [HV.out]; exact hd⟩⟩, rfl⟩
          · have hd1 : ¬ (V : Int) % 128 = 0 := by omega
            have hd2 : ¬ (V : Int).tmod 128 = 0 := by rw [Int.tmod_eq_emod_of_nonneg (by omega)]; exact hd1
            have HN2 : Hid (∀ j, 1 ≤ j → j ≤ k + 1 → ¬ Ht (bN xs) j) := fun j h1 h2 => by
              by_cases e : j = k + 1
              · subst e; rintro ⟨_, h⟩; rw [HV.out] at h; exact hd h
              · exact HN.out j h1 (by omega)
            have hd3 : ((V : Int) % 128 == 0) = false := by simpa using hd1
            go_wp2_with (go_at_call 29; refine HCB.out.mono ?_; rintro _ _ ⟨rfl, rfl⟩)
            exact ⟨⟨k + 1, V, by omega, by go_num, rfl, HV, HN2, trivial⟩, by simp [intOf]; omega⟩
        · have h64a : ¬ (64 : Int) ≤ (k : Int) + 1 := by omega
          have h64b : (k : Int) + 1 < 64 := by omega
          have HN2 : Hid (∀ j, 1 ≤ j → j ≤ k + 1 → ¬ Ht (bN xs) j) := fun j h1 h2 => by
            rintro ⟨h, _⟩; omega
          go_wp2_with (go_at_call 29; refine HCB.out.mono ?_; rintro _ _ ⟨rfl, rfl⟩)
          exact ⟨⟨k + 1, V, by omega, by go_num, rfl, HV, HN2, trivial⟩, by simp [intOf]; omega⟩
      · have hkM : k = 512 := by omega
        have hkn : ¬ (k : Int) < 512 := by omega
        go_wp2_with fail
        go_ret
        exact ⟨⟨512, rfl, by omega, by omega, fun j h1 h2 => HN.out j h1 (by omega), .inl (by omega)⟩, rfl⟩
end Go.Proofs.Ytfdnlkhipjjnbaa
