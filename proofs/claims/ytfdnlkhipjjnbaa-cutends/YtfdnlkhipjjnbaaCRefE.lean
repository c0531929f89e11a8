/-
  Where the document says that a chunk might end.
-/
import Derived.Test.YtfdnlkhipjjnbaaCRef
namespace Go.Proofs.Ytfdnlkhipjjnbaa
open Go.RowKit Pl
set_option linter.unusedVariables false

set_option maxRecDepth 100000 in
set_option maxHeartbeats 2000000 in
theorem refEnds_any (v : Value) (xs : List Int) (at_ : Int) (w : World) (hr : Rd .u8 w v xs) (hb : By xs) :
    Calls Try.prog 18 #[v, .int .i64 at_] w fun e w' => e = .returned (.bool (En (bN xs) xs.length at_)) ∧ Below w.heap.size w w' := by
  obtain ⟨a, cap, hv, hlc, hcm, _, hcc⟩ := id hr
  subst hv
  have hm : xs.length ≤ 9223372036854775807 := by unfold maxLen at hcm; omega
  have HB : Hid (By xs) := hb
  have HCC : Hid (xs = [] ∨ ∃ b o, a = some ⟨b, o, none⟩ ∧ ∀ i, i < xs.length → w.cell? ⟨b, o + i, none⟩ = some (.int .u8 (xs.getD i 0))) := hcc
  clear hr hb hcm hcc
  by_cases h7 : at_ < 7
  · have HE : Hid (En (bN xs) xs.length at_ = false) := en_out _ _ _ (.inl h7)
    go_enter Try.func18, Try.ntmps18
    go_wp2_with fail
    go_ret
    exact ⟨by rw [HE.out]; rfl, Below.refl _ _⟩
  · by_cases hL : (xs.length : Int) < at_
    · have HE : Hid (En (bN xs) xs.length at_ = false) := en_out _ _ _ (.inr hL)
      go_enter Try.func18, Try.ntmps18
      go_wp2_with fail
      go_ret
      exact ⟨by rw [HE.out]; rfl, Below.refl _ _⟩
    · obtain ⟨p, hp⟩ : ∃ p : Nat, at_ = (p : Int) + 7 := ⟨at_.toNat - 7, by omega⟩
      subst hp
      have hpL : p + 7 ≤ xs.length := by omega
      have HE : Hid (En (bN xs) xs.length ((p : Int) + 7) = (mk (fun j => bN xs (p + j)) 7 % 128 == 0)) := en_in _ _ _ hpL
      obtain ⟨ab, ao, ha, hc0⟩ : ∃ b o, a = some ⟨b, o, none⟩ ∧ ∀ i, i < xs.length → w.cell? ⟨b, o + i, none⟩ = some (.int .u8 (xs.getD i 0)) := by
        rcases HCC.out with h | h
        · rw [h] at hpL; simp at hpL
        · exact h
      subst ha
      have HC : Hid (∀ i, i < xs.length → w.cell? ⟨ab, ao + i, none⟩ = some (.int .u8 (bN xs i : Int))) := fun i hi => by rw [hc0 i hi, bN_eq HB.out]
      have HAL : Hid (ab < w.heap.size) := World.block_lt_of_cell? w ⟨ab, ao + 0, none⟩ (hc0 0 (by omega))
      obtain ⟨b, hbf⟩ : ∃ b : Nat → Nat, Hid ((fun j => bN xs (p + j)) = b) := ⟨_, rfl⟩
      rw [hbf.out] at HE
      have hw1 : IntKind.i64.wrap ((p : Int) + 7 - 7) = (p : Int) := by rw [IntKind.wrap_i64]; omega
      clear hc0 HCC
      go_enter Try.func18, Try.ntmps18
      go_wp2_with fail
      go_loopw [5, 6] (fun m i wr => ∃ (k X : Nat), k ≤ 7 ∧ i = .int .i64 ((p : Int) + (k : Int)) ∧ m = .int .i64 X ∧ X < 4294967296 ∧ Hid (mk b k = X) ∧ Hid (Below w.heap.size w wr)) (fun _ i _ => (p + 7 : Nat) - (intOf i).toNat)
      case atStart => exact ⟨0, 0, Nat.zero_le _, by simp, rfl, by decide, rfl, Below.refl _ _⟩
      case round =>
        obtain ⟨k, X, hk, rfl, rfl, hX, HX, B1⟩ := hrel
        by_cases hlt : k < 7
        · obtain ⟨q, hq⟩ : ∃ q, p + k = q := ⟨_, rfl⟩
          have hq1 : (p : Int) + (k : Int) = (q : Int) := by omega
          have hq2 : (q : Int) < (p : Int) + 7 := by omega
          have hq3 : (q : Int) < (xs.length : Int) := by omega
          have cx : wr.cell? ⟨ab, ao + q, none⟩ = some (.int .u8 (bN xs q : Int)) := by
            rw [B1.out.cell (p := ⟨ab, ao + q, none⟩) HAL.out]; exact HC.out q (by omega)
          have hbq : bN xs q = b k := by rw [← hbf.out, ← hq]
          have hbl := bN_lt HB.out q
          have HGR : Hid (∀ W, Calls Try.prog 16 #[.int .u8 (bN xs q : Int)] W fun e w' => e = .returned (.int .i64 (gr (b k) : Int)) ∧ Below W.heap.size W w') := fun W => by
            have h := refGear_any (bN xs q) W hbl
            rw [hbq] at h ⊢
            exact h
          obtain ⟨V, hV⟩ : ∃ V, (2 * X + gr (b k)) % 4294967296 = V := ⟨_, rfl⟩
          have HV : Hid (mk b (k + 1) = V) := by show _ = _; rw [← hV, ← HX.out]; rfl
          have hG := gr_lt (b k)
          generalize gr (b k) = G at hG hV HGR
          generalize bN xs q = bb at cx HGR
          obtain ⟨Y, hY⟩ : ∃ Y, 2 * X + G = Y := ⟨_, rfl⟩
          obtain ⟨Y0, hY0⟩ : ∃ Y, 2 * X = Y := ⟨_, rfl⟩
          have y0 : 2 * (X : Int) = (Y0 : Int) := by omega
          have y1 : (Y0 : Int) + (G : Int) = (Y : Int) := by omega
          have y2 : (Y : Int) % 4294967296 = (V : Int) := by omega
          have y3 : (Y : Int).tmod 4294967296 = (V : Int) := by rw [Int.tmod_eq_emod_of_nonneg (by omega)]; exact y2
          have w1 : IntKind.i64.wrap (Y0 : Int) = (Y0 : Int) := by rw [IntKind.wrap_i64]; omega
          have w2 : IntKind.i64.wrap (Y : Int) = (Y : Int) := by rw [IntKind.wrap_i64]; omega
          have w3 : IntKind.i64.wrap (V : Int) = (V : Int) := by rw [IntKind.wrap_i64]; omega
          have hVl : V < 4294967296 := by omega
          have HQ : Hid (p + k = q) := hq
          rw [hq1]
          clear hY hY0 hV hbq hX HX hq hq1
          go_wp2_with fail
          refine (HGR.out _).mono ?_
          rintro e w2' ⟨rfl, b2⟩
          have B2 : Hid (Below w.heap.size w w2') := B1.out.trans (b2.mono B1.out.size)
          clear b2 B1 HGR
          go_wp2_with fail
          go_roundw
          case rel => exact ⟨k + 1, V, by omega, by have := HQ.out; go_num, rfl, hVl, HV, B2⟩
          case measure => have := HQ.out; simp [intOf]; omega
        · have hk7 : k = 7 := by omega
          rw [hk7] at HX
          have hkn : ¬ (p : Int) + (k : Int) < (p : Int) + 7 := by omega
          have hkn2 : (p : Int) + (k : Int) = (p : Int) + 7 := by omega
          rw [hkn2]
          have HE2 : Hid (En (bN xs) xs.length ((p : Int) + 7) = (X % 128 == 0)) := by show _ = _; rw [HE.out, HX.out]
          by_cases hd : X % 128 = 0
          · have hd1 : (X : Int) % 128 = 0 := by omega
            have hd3 : (X % 128 == 0) = true := by simpa using hd
            rw [hd3] at HE2
            clear hd3 hlt hk7
            go_wp2_with fail
            go_ret
            exact ⟨by rw [HE2.out]; rfl, B1.out⟩
          · have hd1 : ¬ (X : Int) % 128 = 0 := by omega
            have hd3 : (X % 128 == 0) = false := by simpa using hd
            have hd4 : ((X : Int) % 128 == 0) = false := by simpa using hd1
            rw [hd3] at HE2
            clear hd3 hlt hk7
            go_wp2_with fail
            go_ret
            exact ⟨by rw [HE2.out]; rfl, B1.out⟩
end Go.Proofs.Ytfdnlkhipjjnbaa
