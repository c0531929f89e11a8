/-
  MatchRound: what is found makes the bytes again, and not within a byte less: for every bytes and window the law answers true.
-/
import Derived.Test.YtghokdmfhifgjaaMRoundP
import Derived.Test.YtghokdmfhifgjaaLawMLit
namespace Go.Proofs.Ytghokdmfhifgjaa
open Go.RowKit Pl
set_option linter.unusedVariables false

set_option maxRecDepth 100000 in
set_option maxHeartbeats 2000000 in
theorem matchRound_walk (v1 : Value) (ds : List Int) (win : Int) (w : World) (h1 : Rd .u8 w v1 ds) (hy : By ds) :
    Calls Try.prog 6 #[v1, .int .i64 win] w fun e w' => e = .returned (.bool true) ∧ Below w.heap.size w w' := by
  have H1 : Hid (Rd .u8 w v1 ds) := h1
  have HY : Hid (By ds) := hy
  obtain ⟨la, lc, rfl, _, _, _, _⟩ := h1
  clear hy
  by_cases hb : 65536 < ds.length ∨ win < 1 ∨ 65536 < win
  · have HF : Hid (Calls Try.prog 9 #[.slice la ds.length lc, .int .i64 win] w fun e w' => FPost (1, []) w e w') := by
      have := find_any _ ds win w H1.out HY.out
      unfold findR at this
      rw [if_pos hb] at this
      exact this
    clear hb
    go_enter Try.func6, Try.ntmps6
    go_wp2_with fail
    refine HF.out.mono ?_
    clear HF
    intro e w2 hD
    obtain ⟨d, rfl, hb2, _, ho2⟩ := hD
    obtain ⟨da, dc, rfl⟩ : ∃ a c, d = .slice a 0 c := by obtain ⟨a, c, e, _⟩ := ho2.rd; exact ⟨a, c, e⟩
    have B2 : Hid (Below w.heap.size w w2) := hb2
    clear hb2 ho2
    go_wp2_with fail
    refine (lives_any _).mono ?_
    rintro e w9 ⟨rfl, hb9⟩
    go_wp2_with fail
    go_ret
    exact ⟨rfl, B2.out.trans (hb9.mono B2.out.size)⟩
  · obtain ⟨W, rfl⟩ := Int.eq_ofNat_of_zero_le (show 0 ≤ win by omega)
    have hn : ds.length ≤ 65536 := by omega
    obtain ⟨L, hL, hR, hR2, hLl⟩ := round_core ds W hn
    obtain ⟨ps, hps⟩ : ∃ ps, Hid (steps ds W = ps) := ⟨_, rfl⟩
    rw [hps.out] at hL hR hR2
    have HF : Hid (Calls Try.prog 9 #[.slice la ds.length lc, .int .i64 W] w fun e w' => FPost (0, ps) w e w') := by
      have := find_any _ ds W w H1.out HY.out
      unfold findR at this
      rw [if_neg hb, Int.toNat_natCast, hps.out] at this
      exact this
    have hpl : ps.length ≤ ds.length := by rw [← hps.out]; exact fst_len ds W ds.length
    have HL : Hid (litR ds ps = (0, L)) := hL
    have HR : Hid (runR L ps (ds.length : Int) = (0, ds)) := hR
    have HR2 : Hid (0 < ds.length → runR L ps ((ds.length : Int) - 1) = (11, [])) := hR2
    clear hb hL hR hR2
    go_enter Try.func6, Try.ntmps6
    go_wp2_with fail
    refine HF.out.mono ?_
    clear HF
    intro e w2 hD
    obtain ⟨d, rfl, hb2, _, ho2⟩ := hD
    have B2 : Hid (Below w.heap.size w w2) := hb2
    have O2 : Hid (OwnsS w2 d ps) := ho2
    have HLI : Hid (Calls Try.prog 16 #[.slice la ds.length lc, d] w2 fun e w' => BPost (0, L) w2 e w') := by
      have := literals_any _ _ ds ps w2 (H1.out.below hb2) (by omega) O2.out.rd (by omega)
      rw [HL.out] at this
      exact this
    clear hb2 ho2
    go_wp2_with fail
    refine HLI.out.mono ?_
    clear HLI
    intro e w3 hD
    obtain ⟨x, rfl, hb3, _, ho3⟩ := hD
    have B3 : Hid (Below w.heap.size w w3) := B2.out.trans (hb3.mono B2.out.size)
    have O3 : Hid (OwnsS w3 d ps) := O2.out.below hb3
    have X3 : Hid (Owns .u8 5 w3 x L) := ho3
    have HRU : Hid (Calls Try.prog 13 #[x, d, .int .i64 (ds.length : Int)] w3 fun e w' => BPost (0, ds) w3 e w') := by
      have := run_any _ _ L ps (ds.length : Int) w3 X3.out.rd (by omega) O3.out.rd (by omega)
      rw [HR.out] at this
      exact this
    clear hb3 ho3 B2 O2
    go_wp2_with fail
    refine HRU.out.mono ?_
    clear HRU
    intro e w4 hD
    obtain ⟨y, rfl, hb4, _, ho4⟩ := hD
    have B4 : Hid (Below w.heap.size w w4) := B3.out.trans (hb4.mono B3.out.size)
    have O4 : Hid (OwnsS w4 d ps) := O3.out.below hb4
    have X4 : Hid (Owns .u8 5 w4 x L) := X3.out.below hb4
    have Y4 : Hid (Owns .u8 5 w4 y ds) := ho4
    clear hb4 ho4 B3 O3 X3
    go_wp2_with fail
    refine (same_rd _ _ ds ds w4 Y4.out.rd (H1.out.below B4.out)).mono ?_
    rintro e w5 ⟨rfl, hb5⟩
    have hdec : decide (ds = ds) = true := by simp
    rw [hdec]
    have B5 : Hid (Below w.heap.size w w5) := B4.out.trans (hb5.mono B4.out.size)
    have O5 : Hid (OwnsS w5 d ps) := O4.out.below hb5
    have X5 : Hid (Owns .u8 5 w5 x L) := X4.out.below hb5
    clear hdec hb5 B4 O4 X4 Y4
    by_cases h0 : 0 < ds.length
    · have HRU : Hid (Calls Try.prog 13 #[x, d, .int .i64 ((ds.length : Int) - 1)] w5 fun e w' => BPost (11, []) w5 e w') := by
        have := run_any _ _ L ps ((ds.length : Int) - 1) w5 X5.out.rd (by omega) O5.out.rd (by omega)
        rw [HR2.out h0] at this
        exact this
      have h0I : (0 : Int) < (ds.length : Int) := by omega
      go_wp2_with fail
      refine HRU.out.mono ?_
      clear HRU
      intro e w6 hD
      obtain ⟨y6, rfl, hb6, _, _⟩ := hD
      have B6 : Hid (Below w.heap.size w w6) := B5.out.trans (hb6.mono B5.out.size)
      clear hb6
      go_wp2_with fail
      refine (lives_any _).mono ?_
      rintro e w9 ⟨rfl, hb9⟩
      go_wp2_with fail
      go_ret
      exact ⟨rfl, B6.out.trans (hb9.mono B6.out.size)⟩
    · have h0' : ds.length = 0 := by omega
      have g0 : decide (0 < ds.length) = false := by rw [decide_eq_false_iff_not]; omega
      clear h0 h0'
      go_wp2_with fail
      refine (lives_any _).mono ?_
      rintro e w9 ⟨rfl, hb9⟩
      go_wp2_with fail
      go_ret
      exact ⟨rfl, B5.out.trans (hb9.mono B5.out.size)⟩
end Go.Proofs.Ytghokdmfhifgjaa
