/-
  CutWhole: chunks are the data, each of a right length, each that is not the last one and shorter than 512 ends where one might, and none might end within it from its 64th byte on: for every bytes the law answers true.
-/
import Derived.Test.YtfdnlkhipjjnbaaCCut
import Derived.Test.YtfdnlkhipjjnbaaCEnds
import Derived.Test.YtfdnlkhipjjnbaaCLives
namespace Go.Proofs.Ytfdnlkhipjjnbaa
open Go.RowKit Pl
set_option linter.unusedVariables false

/-- The bytes of the first chunks. -/
def sm (ls : List Nat) (i : Nat) : Nat := (ls.take i).sum
theorem sm_zero (ls : List Nat) : sm ls 0 = 0 := by simp [sm]
theorem sm_cons (n : Nat) (ls : List Nat) (i : Nat) : sm (n :: ls) (i + 1) = n + sm ls i := by simp [sm]
theorem sm_succ : ∀ (ls : List Nat) (i : Nat), i < ls.length → sm ls (i + 1) = sm ls i + ls.getD i 0
  | [], i, h => by simp at h
  | n :: ls, 0, _ => by simp [sm]
  | n :: ls, i + 1, h => by
    rw [sm_cons, sm_cons, sm_succ ls i (by simpa using h)]
    simp [Nat.add_assoc]
theorem Cs.all_sm {b : Nat → Nat} {R : Nat} {ls : List Nat} (h : Cs b R ls) : sm ls ls.length = R := by
  induction ls generalizing b R with
  | nil => have : R = 0 := h; simp [sm, this]
  | cons n t ih =>
    have := h.1.le
    rw [List.length_cons, sm_cons, ih h.2]; omega
theorem Cs.part : ∀ {ls : List Nat} {b : Nat → Nat} {R : Nat} {i : Nat}, Cs b R ls → i < ls.length →
    Cl (fun j => b (sm ls i + j)) (min (R - sm ls i) 512) (ls.getD i 0) ∧ Cs (fun j => b (sm ls (i + 1) + j)) (R - sm ls (i + 1)) (ls.drop (i + 1))
  | [], b, R, i, _, h => by simp at h
  | n :: t, b, R, 0, h, _ => by
    refine ⟨?_, ?_⟩
    · simpa [sm] using h.1
    · simpa [sm] using h.2
  | n :: t, b, R, i + 1, h, hi => by
    obtain ⟨h1, h2⟩ := Cs.part (i := i) h.2 (by simpa using hi)
    rw [sm_cons, sm_cons]
    refine ⟨?_, ?_⟩
    · rw [show R - (n + sm t i) = R - n - sm t i by omega]
      have e : (fun j => b (n + sm t i + j)) = fun j => b (n + (sm t i + j)) := by funext j; rw [Nat.add_assoc]
      rw [e]
      simpa using h1
    · rw [show R - (n + sm t (i + 1)) = R - n - sm t (i + 1) by omega]
      have e : (fun j => b (n + sm t (i + 1) + j)) = fun j => b (n + (sm t (i + 1) + j)) := by funext j; rw [Nat.add_assoc]
      rw [e]
      simpa using h2
/-- What holds of one chunk. -/
theorem cw_of {b : Nat → Nat} {R : Nat} {ls : List Nat} (h : Cs b R ls) {k s : Nat} (hk : k < ls.length) (hs : sm ls k = s) :
    1 ≤ ls.getD k 0 ∧ ls.getD k 0 ≤ 512 ∧ s + ls.getD k 0 ≤ R ∧ (k + 1 < ls.length → 64 ≤ ls.getD k 0) ∧
    (∀ j, 64 ≤ j → j < ls.getD k 0 → En b R ((s + j : Nat) : Int) = false) ∧ (k + 1 < ls.length → ls.getD k 0 < 512 → En b R ((s + ls.getD k 0 : Nat) : Int) = true) := by
  obtain ⟨h1, h2⟩ := h.part hk
  rw [hs] at h1
  rw [sm_succ ls k hk, hs] at h2
  generalize ls.getD k 0 = n at *
  have hp := h1.pos
  have hl := h1.le
  have hmore : k + 1 < ls.length → 0 < R - (s + n) := fun hk1 => by
    match hd : ls.drop (k + 1), h2 with
    | [], _ => have := congrArg List.length hd; rw [List.length_drop] at this; simp at this; omega
    | m :: t, h2 => have := h2.1.pos; have := h2.1.le; omega
  refine ⟨hp, by omega, by omega, fun hk1 => ?_, fun j h64 hjn => ?_, fun hk1 h5 => ?_⟩
  · have := hmore hk1
    rcases h1.ends with e | e
    · omega
    · exact e.1
  · exact Bool.eq_false_iff.2 (fun e => h1.none j (by omega) hjn ((en_ht b R s j h64 (by omega)).1 e))
  · have := hmore hk1
    rcases h1.ends with e | e
    · omega
    · exact (en_ht b R s n e.1 (by omega)).2 e

set_option maxRecDepth 100000 in
set_option maxHeartbeats 8000000 in
theorem cutWhole_walk (v : Value) (xs : List Int) (w : World) (h1 : Rd .u8 w v xs) (hb : By xs) :
    Calls Try.prog 7 #[v] w fun e w' => e = .returned (.bool true) ∧ Below w.heap.size w w' := by
  obtain ⟨a, cap, hv, hlc, hcm, _⟩ := id h1
  subst hv
  have H1 : Hid (Rd .u8 w (.slice a xs.length cap) xs) := h1
  have HB : Hid (By xs) := hb
  have hm : xs.length ≤ 9223372036854775807 := by unfold maxLen at hcm; omega
  clear h1 hb hcm
  by_cases c : xs.length > 3000
  · have R1 : Hid (Rd .u8 w (.slice a 3000 cap) (xs.take 3000)) := rd_cut H1.out 3000 (by omega)
    have HB1 : Hid (By (xs.take 3000)) := by_take HB.out _
    have HXL : Hid ((xs.take 3000).length = 3000) := by show _ = _; rw [List.length_take]; omega
    have HL1 : Hid ((xs.take 3000).length ≤ 1000000) := by show _ ≤ _; rw [List.length_take]; omega
    have hc1 : (3000 : Int) < (xs.length : Int) := by omega
    have hcap : 3000 ≤ cap := by omega
    go_enter Try.func7, Try.ntmps7
    go_wp2_with fail
    refine (cut_any _ _ w R1.out HB1.out HL1.out).mono ?_
    rintro e w1 ⟨⟨v1, ls, rfl, o1, cs1, n1⟩, b1⟩
    have B1 : Hid (Below w.heap.size w w1) := b1
    have R2 : Hid (Rd .u8 w1 (.slice a 3000 cap) (xs.take 3000)) := R1.out.below b1
    have HC1 : Hid (Cs (bN (xs.take 3000)) 3000 ls) := by have h := cs1; rw [HXL.out] at h; exact h
    obtain ⟨a1, c1, hv1, hc1', hm1, _, hcell1⟩ := o1.rd
    rw [il_len] at hv1 hc1' hcell1
    obtain ⟨N, hN⟩ : ∃ N, ls.length = N := ⟨_, rfl⟩
    rw [hN] at hv1 hc1' hcell1
    have HNN : Hid (ls.length = N) := hN
    have HK1 : Hid (il ls = [] ∨ ∃ b o, a1 = some ⟨b, o, none⟩ ∧ ∀ i, i < N → w1.cell? ⟨b, o + i, none⟩ = some (.int .i64 ((il ls).getD i 0))) := hcell1
    have hNs : N ≤ 3000 := by have h := cs1.len; rw [HXL.out] at h; omega
    have k1 : c1 ≤ 9223372036854775807 := by unfold maxLen at hm1; omega
    have HSA : Hid (sm ls N = 3000) := by show _ = _; rw [← hN]; exact HC1.out.all_sm
    subst hv1
    clear hcell1 o1 cs1 n1 b1 hm1 hN
    go_wp2_with fail
    go_loopw [4, 5] (fun at_ i wr => ∃ (k s : Nat), k ≤ N ∧ i = .int .i64 k ∧ at_ = .int .i64 s ∧ Hid (sm ls k = s) ∧ Hid (Below w1.heap.size w1 wr)) (fun _ i _ => N - (intOf i).toNat)
    case atStart => exact ⟨0, 0, Nat.zero_le _, rfl, rfl, rfl, Below.refl _ _⟩
    case round =>
      obtain ⟨k, s, hk, rfl, rfl, HS, BW⟩ := hrel
      by_cases hlt : k < N
      · obtain ⟨x1, y1, ha1, hx1⟩ : ∃ b o, a1 = some ⟨b, o, none⟩ ∧ ∀ i, i < N → w1.cell? ⟨b, o + i, none⟩ = some (.int .i64 ((il ls).getD i 0)) := by
          rcases HK1.out with h | h
          · have h2 := HNN.out
            have h3 := il_len ls
            rw [h, h2] at h3
            simp at h3
            omega
          · exact h
        subst ha1
        have CW := cw_of (b := bN (xs.take 3000)) (R := 3000) HC1.out (k := k) (by rw [HNN.out]; exact hlt) HS.out
        rw [HNN.out] at CW
        have HX1 : Hid (x1 < w1.heap.size) := World.block_lt_of_cell? w1 ⟨x1, y1 + k, none⟩ (hx1 k hlt)
        have HD1 : Hid (w1.cell? ⟨x1, y1 + k, none⟩ = some (.int .i64 (ls.getD k 0 : Int))) := by
          have := hx1 k hlt
          rw [il_get] at this
          exact this
        have d1 : wr.cell? ⟨x1, y1 + k, none⟩ = some (.int .i64 (ls.getD k 0 : Int)) := by
          rw [BW.out.cell (p := ⟨x1, y1 + k, none⟩) HX1.out]; exact HD1.out
        have HS2 : Hid (sm ls (k + 1) = s + ls.getD k 0) := by show _ = _; rw [sm_succ _ _ (by rw [HNN.out]; exact hlt), HS.out]
        generalize ls.getD k 0 = n at *
        obtain ⟨n1, n2, n3, n4, HNE, HYE⟩ := CW
        have HNO : Hid (∀ j, 64 ≤ j → j < n → En (bN (xs.take 3000)) 3000 ((s + j : Nat) : Int) = false) := HNE
        have HYS : Hid (k + 1 < N → n < 512 → En (bN (xs.take 3000)) 3000 ((s + n : Nat) : Int) = true) := HYE
        have HEN : Hid (∀ (p : Nat) (W : World), Below w1.heap.size w1 W → Calls Try.prog 17 #[(.slice a 3000 cap), .int .i64 (p : Int)] W fun e w' => e = .returned (.bool (En (bN (xs.take 3000)) 3000 (p : Int))) ∧ Below W.heap.size W w') := fun p W hW => by
          have h := ends_any (.slice a 3000 cap) (xs.take 3000) (p : Int) W (R2.out.below hW) HB1.out
          rw [HXL.out] at h
          exact h
        have hi1 : (k : Int) < (N : Int) := by omega
        have f1 : ¬ (n : Int) < 1 := by omega
        have f2 : ¬ (512 : Int) < (n : Int) := by omega
        have f4 : ¬ (3000 : Int) - (s : Int) < (n : Int) := by omega
        have ws : IntKind.i64.wrap ((3000 : Int) - (s : Int)) = (3000 : Int) - (s : Int) := by rw [IntKind.wrap_i64]; omega
        clear hx1 HNE HYE
        by_cases hla : k + 1 = N
        · have g2 : ((k : Int) == (N : Int) - 1) = true := by rw [beq_iff_eq]; omega
          have HLA : Hid (k + 1 = N) := hla
          clear hla
          go_wp2_with fail
          go_loopw [7] (fun m wr => ∃ j : Nat, 64 ≤ j ∧ (j ≤ n ∨ j = 64) ∧ m = .int .i64 j ∧ Hid (Below w1.heap.size w1 wr)) (fun m _ => n - (intOf m).toNat)
          case atStart => exact ⟨64, Nat.le_refl _, .inr rfl, rfl, BW⟩
          case round =>
            clear BW d1
            obtain ⟨j, hj64, hjn, rfl, BW⟩ := hrel
            have d1 : wr.cell? ⟨x1, y1 + k, none⟩ = some (.int .i64 (n : Int)) := by
              rw [BW.out.cell (p := ⟨x1, y1 + k, none⟩) HX1.out]; exact HD1.out
            by_cases hjl : j < n
            · have hj1 : (j : Int) < (n : Int) := by omega
              obtain ⟨p, hp⟩ : ∃ p, s + j = p := ⟨_, rfl⟩
              have hp1 : (s : Int) + (j : Int) = (p : Int) := by omega
              have wp1 : IntKind.i64.wrap (p : Int) = (p : Int) := by rw [IntKind.wrap_i64]; omega
              have hc := HEN.out p wr BW.out
              have hf := HNO.out j hj64 hjl
              rw [hp] at hf
              rw [hf] at hc
              have HCC : Hid (Calls Try.prog 17 #[(.slice a 3000 cap), .int .i64 (p : Int)] wr fun e w' => e = .returned (.bool false) ∧ Below wr.heap.size wr w') := hc
              clear hc hf hp
              go_wp2_with fail
              refine HCC.out.mono ?_
              rintro e w5 ⟨rfl, b5⟩
              have B5 : Hid (Below w1.heap.size w1 w5) := BW.out.trans (b5.mono BW.out.size)
              clear b5 BW HCC
              go_wp2_with fail
              go_roundw
              case rel => exact ⟨j + 1, by omega, by omega, by go_num, B5⟩
              case measure => simp [intOf]; omega
            · have hj1 : ¬ (j : Int) < (n : Int) := by omega
              obtain ⟨p, hp⟩ : ∃ p, s + n = p := ⟨_, rfl⟩
              have hp1 : (s : Int) + (n : Int) = (p : Int) := by omega
              have wp1 : IntKind.i64.wrap (p : Int) = (p : Int) := by rw [IntKind.wrap_i64]; omega
              rw [hp] at HS2
              have HPE : Hid (s + n = p) := hp
              clear hjl
              clear hp
              go_wp2_with fail
              go_roundw
              case rel => exact ⟨k + 1, p, by omega, by go_num, rfl, HS2, BW⟩
              case measure => simp [intOf]; omega
        · have g1 : ¬ (k : Int) = (N : Int) - 1 := by omega
          have g2 : ((k : Int) == (N : Int) - 1) = false := by rw [beq_eq_false_iff_ne]; exact g1
          have f3 : ¬ (n : Int) < 64 := by have := n4 (by omega); omega
          have HLB : Hid (k + 1 < N) := by show _ < _; omega
          go_wp2_with fail
          go_loopw [7] (fun m wr => ∃ j : Nat, 64 ≤ j ∧ (j ≤ n ∨ j = 64) ∧ m = .int .i64 j ∧ Hid (Below w1.heap.size w1 wr)) (fun m _ => n - (intOf m).toNat)
          case atStart => exact ⟨64, Nat.le_refl _, .inr rfl, rfl, BW⟩
          case round =>
            clear BW d1
            obtain ⟨j, hj64, hjn, rfl, BW⟩ := hrel
            have d1 : wr.cell? ⟨x1, y1 + k, none⟩ = some (.int .i64 (n : Int)) := by
              rw [BW.out.cell (p := ⟨x1, y1 + k, none⟩) HX1.out]; exact HD1.out
            by_cases hjl : j < n
            · have hj1 : (j : Int) < (n : Int) := by omega
              obtain ⟨p, hp⟩ : ∃ p, s + j = p := ⟨_, rfl⟩
              have hp1 : (s : Int) + (j : Int) = (p : Int) := by omega
              have wp1 : IntKind.i64.wrap (p : Int) = (p : Int) := by rw [IntKind.wrap_i64]; omega
              have hc := HEN.out p wr BW.out
              have hf := HNO.out j hj64 hjl
              rw [hp] at hf
              rw [hf] at hc
              have HCC : Hid (Calls Try.prog 17 #[(.slice a 3000 cap), .int .i64 (p : Int)] wr fun e w' => e = .returned (.bool false) ∧ Below wr.heap.size wr w') := hc
              clear hc hf hp
              go_wp2_with fail
              refine HCC.out.mono ?_
              rintro e w5 ⟨rfl, b5⟩
              have B5 : Hid (Below w1.heap.size w1 w5) := BW.out.trans (b5.mono BW.out.size)
              clear b5 BW HCC
              go_wp2_with fail
              go_roundw
              case rel => exact ⟨j + 1, by omega, by omega, by go_num, B5⟩
              case measure => simp [intOf]; omega
            · have hj1 : ¬ (j : Int) < (n : Int) := by omega
              obtain ⟨p, hp⟩ : ∃ p, s + n = p := ⟨_, rfl⟩
              have hp1 : (s : Int) + (n : Int) = (p : Int) := by omega
              have wp1 : IntKind.i64.wrap (p : Int) = (p : Int) := by rw [IntKind.wrap_i64]; omega
              rw [hp] at HS2
              have HPE : Hid (s + n = p) := hp
              clear hjl
              by_cases h5 : n < 512
              · have h51 : (n : Int) < 512 := by omega
                have hc := HEN.out p wr BW.out
                have hf := HYS.out HLB.out h5
                rw [hp] at hf
                rw [hf] at hc
                have HCC : Hid (Calls Try.prog 17 #[(.slice a 3000 cap), .int .i64 (p : Int)] wr fun e w' => e = .returned (.bool true) ∧ Below wr.heap.size wr w') := hc
                clear hc hf hp
                go_wp2_with fail
                refine HCC.out.mono ?_
                rintro e w5 ⟨rfl, b5⟩
                have B5 : Hid (Below w1.heap.size w1 w5) := BW.out.trans (b5.mono BW.out.size)
                clear b5 BW HCC
                go_wp2_with fail
                go_roundw
                case rel => exact ⟨k + 1, p, by omega, by go_num, rfl, HS2, B5⟩
                case measure => simp [intOf]; omega
              · have h51 : ¬ (n : Int) < 512 := by omega
                clear hp
                go_wp2_with fail
                go_roundw
                case rel => exact ⟨k + 1, p, by omega, by go_num, rfl, HS2, BW⟩
                case measure => simp [intOf]; omega
      · have hkN : k = N := by omega
        have hkn : ¬ (k : Int) < (N : Int) := by omega
        rw [hkN] at HS
        have hsM : s = 3000 := by rw [← HS.out, HSA.out]
        have hsi : (s : Int) = (3000 : Int) := by omega
        clear HS
        rw [hsi]
        go_wp2_with fail
        refine (lives_anyC _).mono ?_
        rintro e w9 ⟨rfl, b9⟩
        go_wp2_with fail
        go_ret
        exact ⟨rfl, B1.out.trans ((BW.out.trans (b9.mono BW.out.size)).mono B1.out.size)⟩
  · have hc1 : ¬ (3000 : Int) < (xs.length : Int) := by omega
    have R1 := H1
    have HB1 := HB
    have HL1 : Hid (xs.length ≤ 1000000) := by show _ ≤ _; omega
    go_enter Try.func7, Try.ntmps7
    go_wp2_with fail
    refine (cut_any _ _ w R1.out HB1.out HL1.out).mono ?_
    rintro e w1 ⟨⟨v1, ls, rfl, o1, cs1, n1⟩, b1⟩
    have B1 : Hid (Below w.heap.size w w1) := b1
    have R2 : Hid (Rd .u8 w1 (.slice a xs.length cap) xs) := R1.out.below b1
    have HC1 : Hid (Cs (bN xs) xs.length ls) := by have h := cs1; skip; exact h
    obtain ⟨a1, c1, hv1, hc1', hm1, _, hcell1⟩ := o1.rd
    rw [il_len] at hv1 hc1' hcell1
    obtain ⟨N, hN⟩ : ∃ N, ls.length = N := ⟨_, rfl⟩
    rw [hN] at hv1 hc1' hcell1
    have HNN : Hid (ls.length = N) := hN
    have HK1 : Hid (il ls = [] ∨ ∃ b o, a1 = some ⟨b, o, none⟩ ∧ ∀ i, i < N → w1.cell? ⟨b, o + i, none⟩ = some (.int .i64 ((il ls).getD i 0))) := hcell1
    have hNs : N ≤ 3000 := by have h := cs1.len; skip; omega
    have k1 : c1 ≤ 9223372036854775807 := by unfold maxLen at hm1; omega
    have HSA : Hid (sm ls N = xs.length) := by show _ = _; rw [← hN]; exact HC1.out.all_sm
    subst hv1
    clear hcell1 o1 cs1 n1 b1 hm1 hN
    go_wp2_with fail
    go_loopw [4, 5] (fun at_ i wr => ∃ (k s : Nat), k ≤ N ∧ i = .int .i64 k ∧ at_ = .int .i64 s ∧ Hid (sm ls k = s) ∧ Hid (Below w1.heap.size w1 wr)) (fun _ i _ => N - (intOf i).toNat)
    case atStart => exact ⟨0, 0, Nat.zero_le _, rfl, rfl, rfl, Below.refl _ _⟩
    case round =>
      obtain ⟨k, s, hk, rfl, rfl, HS, BW⟩ := hrel
      by_cases hlt : k < N
      · obtain ⟨x1, y1, ha1, hx1⟩ : ∃ b o, a1 = some ⟨b, o, none⟩ ∧ ∀ i, i < N → w1.cell? ⟨b, o + i, none⟩ = some (.int .i64 ((il ls).getD i 0)) := by
          rcases HK1.out with h | h
          · have h2 := HNN.out
            have h3 := il_len ls
            rw [h, h2] at h3
            simp at h3
            omega
          · exact h
        subst ha1
        have CW := cw_of (b := bN xs) (R := xs.length) HC1.out (k := k) (by rw [HNN.out]; exact hlt) HS.out
        rw [HNN.out] at CW
        have HX1 : Hid (x1 < w1.heap.size) := World.block_lt_of_cell? w1 ⟨x1, y1 + k, none⟩ (hx1 k hlt)
        have HD1 : Hid (w1.cell? ⟨x1, y1 + k, none⟩ = some (.int .i64 (ls.getD k 0 : Int))) := by
          have := hx1 k hlt
          rw [il_get] at this
          exact this
        have d1 : wr.cell? ⟨x1, y1 + k, none⟩ = some (.int .i64 (ls.getD k 0 : Int)) := by
          rw [BW.out.cell (p := ⟨x1, y1 + k, none⟩) HX1.out]; exact HD1.out
        have HS2 : Hid (sm ls (k + 1) = s + ls.getD k 0) := by show _ = _; rw [sm_succ _ _ (by rw [HNN.out]; exact hlt), HS.out]
        generalize ls.getD k 0 = n at *
        obtain ⟨n1, n2, n3, n4, HNE, HYE⟩ := CW
        have HNO : Hid (∀ j, 64 ≤ j → j < n → En (bN xs) xs.length ((s + j : Nat) : Int) = false) := HNE
        have HYS : Hid (k + 1 < N → n < 512 → En (bN xs) xs.length ((s + n : Nat) : Int) = true) := HYE
        have HEN : Hid (∀ (p : Nat) (W : World), Below w1.heap.size w1 W → Calls Try.prog 17 #[(.slice a xs.length cap), .int .i64 (p : Int)] W fun e w' => e = .returned (.bool (En (bN xs) xs.length (p : Int))) ∧ Below W.heap.size W w') := fun p W hW => by
          have h := ends_any (.slice a xs.length cap) xs (p : Int) W (R2.out.below hW) HB1.out
          skip
          exact h
        have hi1 : (k : Int) < (N : Int) := by omega
        have f1 : ¬ (n : Int) < 1 := by omega
        have f2 : ¬ (512 : Int) < (n : Int) := by omega
        have f4 : ¬ (xs.length : Int) - (s : Int) < (n : Int) := by omega
        have ws : IntKind.i64.wrap ((xs.length : Int) - (s : Int)) = (xs.length : Int) - (s : Int) := by rw [IntKind.wrap_i64]; omega
        clear hx1 HNE HYE
        by_cases hla : k + 1 = N
        · have g2 : ((k : Int) == (N : Int) - 1) = true := by rw [beq_iff_eq]; omega
          have HLA : Hid (k + 1 = N) := hla
          clear hla
          go_wp2_with fail
          go_loopw [7] (fun m wr => ∃ j : Nat, 64 ≤ j ∧ (j ≤ n ∨ j = 64) ∧ m = .int .i64 j ∧ Hid (Below w1.heap.size w1 wr)) (fun m _ => n - (intOf m).toNat)
          case atStart => exact ⟨64, Nat.le_refl _, .inr rfl, rfl, BW⟩
          case round =>
            clear BW d1
            obtain ⟨j, hj64, hjn, rfl, BW⟩ := hrel
            have d1 : wr.cell? ⟨x1, y1 + k, none⟩ = some (.int .i64 (n : Int)) := by
              rw [BW.out.cell (p := ⟨x1, y1 + k, none⟩) HX1.out]; exact HD1.out
            by_cases hjl : j < n
            · have hj1 : (j : Int) < (n : Int) := by omega
              obtain ⟨p, hp⟩ : ∃ p, s + j = p := ⟨_, rfl⟩
              have hp1 : (s : Int) + (j : Int) = (p : Int) := by omega
              have wp1 : IntKind.i64.wrap (p : Int) = (p : Int) := by rw [IntKind.wrap_i64]; omega
              have hc := HEN.out p wr BW.out
              have hf := HNO.out j hj64 hjl
              rw [hp] at hf
              rw [hf] at hc
              have HCC : Hid (Calls Try.prog 17 #[(.slice a xs.length cap), .int .i64 (p : Int)] wr fun e w' => e = .returned (.bool false) ∧ Below wr.heap.size wr w') := hc
              clear hc hf hp
              go_wp2_with fail
              refine HCC.out.mono ?_
              rintro e w5 ⟨rfl, b5⟩
              have B5 : Hid (Below w1.heap.size w1 w5) := BW.out.trans (b5.mono BW.out.size)
              clear b5 BW HCC
              go_wp2_with fail
              go_roundw
              case rel => exact ⟨j + 1, by omega, by omega, by go_num, B5⟩
              case measure => simp [intOf]; omega
            · have hj1 : ¬ (j : Int) < (n : Int) := by omega
              obtain ⟨p, hp⟩ : ∃ p, s + n = p := ⟨_, rfl⟩
              have hp1 : (s : Int) + (n : Int) = (p : Int) := by omega
              have wp1 : IntKind.i64.wrap (p : Int) = (p : Int) := by rw [IntKind.wrap_i64]; omega
              rw [hp] at HS2
              have HPE : Hid (s + n = p) := hp
              clear hjl
              clear hp
              go_wp2_with fail
              go_roundw
              case rel => exact ⟨k + 1, p, by omega, by go_num, rfl, HS2, BW⟩
              case measure => simp [intOf]; omega
        · have g1 : ¬ (k : Int) = (N : Int) - 1 := by omega
          have g2 : ((k : Int) == (N : Int) - 1) = false := by rw [beq_eq_false_iff_ne]; exact g1
          have f3 : ¬ (n : Int) < 64 := by have := n4 (by omega); omega
          have HLB : Hid (k + 1 < N) := by show _ < _; omega
          go_wp2_with fail
          go_loopw [7] (fun m wr => ∃ j : Nat, 64 ≤ j ∧ (j ≤ n ∨ j = 64) ∧ m = .int .i64 j ∧ Hid (Below w1.heap.size w1 wr)) (fun m _ => n - (intOf m).toNat)
          case atStart => exact ⟨64, Nat.le_refl _, .inr rfl, rfl, BW⟩
          case round =>
            clear BW d1
            obtain ⟨j, hj64, hjn, rfl, BW⟩ := hrel
            have d1 : wr.cell? ⟨x1, y1 + k, none⟩ = some (.int .i64 (n : Int)) := by
              rw [BW.out.cell (p := ⟨x1, y1 + k, none⟩) HX1.out]; exact HD1.out
            by_cases hjl : j < n
            · have hj1 : (j : Int) < (n : Int) := by omega
              obtain ⟨p, hp⟩ : ∃ p, s + j = p := ⟨_, rfl⟩
              have hp1 : (s : Int) + (j : Int) = (p : Int) := by omega
              have wp1 : IntKind.i64.wrap (p : Int) = (p : Int) := by rw [IntKind.wrap_i64]; omega
              have hc := HEN.out p wr BW.out
              have hf := HNO.out j hj64 hjl
              rw [hp] at hf
              rw [hf] at hc
              have HCC : Hid (Calls Try.prog 17 #[(.slice a xs.length cap), .int .i64 (p : Int)] wr fun e w' => e = .returned (.bool false) ∧ Below wr.heap.size wr w') := hc
              clear hc hf hp
              go_wp2_with fail
              refine HCC.out.mono ?_
              rintro e w5 ⟨rfl, b5⟩
              have B5 : Hid (Below w1.heap.size w1 w5) := BW.out.trans (b5.mono BW.out.size)
              clear b5 BW HCC
              go_wp2_with fail
              go_roundw
              case rel => exact ⟨j + 1, by omega, by omega, by go_num, B5⟩
              case measure => simp [intOf]; omega
            · have hj1 : ¬ (j : Int) < (n : Int) := by omega
              obtain ⟨p, hp⟩ : ∃ p, s + n = p := ⟨_, rfl⟩
              have hp1 : (s : Int) + (n : Int) = (p : Int) := by omega
              have wp1 : IntKind.i64.wrap (p : Int) = (p : Int) := by rw [IntKind.wrap_i64]; omega
              rw [hp] at HS2
              have HPE : Hid (s + n = p) := hp
              clear hjl
              by_cases h5 : n < 512
              · have h51 : (n : Int) < 512 := by omega
                have hc := HEN.out p wr BW.out
                have hf := HYS.out HLB.out h5
                rw [hp] at hf
                rw [hf] at hc
                have HCC : Hid (Calls Try.prog 17 #[(.slice a xs.length cap), .int .i64 (p : Int)] wr fun e w' => e = .returned (.bool true) ∧ Below wr.heap.size wr w') := hc
                clear hc hf hp
                go_wp2_with fail
                refine HCC.out.mono ?_
                rintro e w5 ⟨rfl, b5⟩
                have B5 : Hid (Below w1.heap.size w1 w5) := BW.out.trans (b5.mono BW.out.size)
                clear b5 BW HCC
                go_wp2_with fail
                go_roundw
                case rel => exact ⟨k + 1, p, by omega, by go_num, rfl, HS2, B5⟩
                case measure => simp [intOf]; omega
              · have h51 : ¬ (n : Int) < 512 := by omega
                clear hp
                go_wp2_with fail
                go_roundw
                case rel => exact ⟨k + 1, p, by omega, by go_num, rfl, HS2, BW⟩
                case measure => simp [intOf]; omega
      · have hkN : k = N := by omega
        have hkn : ¬ (k : Int) < (N : Int) := by omega
        rw [hkN] at HS
        have hsM : s = xs.length := by rw [← HS.out, HSA.out]
        have hsi : (s : Int) = (xs.length : Int) := by omega
        clear HS
        rw [hsi]
        go_wp2_with fail
        refine (lives_anyC _).mono ?_
        rintro e w9 ⟨rfl, b9⟩
        go_wp2_with fail
        go_ret
        exact ⟨rfl, B1.out.trans ((BW.out.trans (b9.mono BW.out.size)).mono B1.out.size)⟩
end Go.Proofs.Ytfdnlkhipjjnbaa
