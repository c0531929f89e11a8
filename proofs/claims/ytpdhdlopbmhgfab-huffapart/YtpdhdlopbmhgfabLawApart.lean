/-
  HuffApart: no code begins another one: for every lengths and bytes the law answers true.
-/
import Derived.Test.YtpdhdlopbmhgfabHLives
import Derived.Test.YtpdhdlopbmhgfabRowX
namespace Go.Proofs.Ytpdhdlopbmhgfab
open Go.RowKit Pl Hf
set_option linter.unusedVariables false

theorem enc_one {ls : List Int} (hk : LOk ls) {c : Nat} (hc : 0 < ls.getD c 0) : ∃ s v : Nat, 1 ≤ s ∧ s ≤ 11 ∧ v < 2 ^ s ∧ enc ls [(c : Int)] = cbits v s ∧ ls.getD c 0 = (s : Int) ∧ v = nx ls (s - 1) c ∧ c < ls.length := by
  obtain ⟨s, v, h1, h2, h3, h4, h5, h6, h7, h8⟩ := hk.code hc
  exact ⟨s, v, h1, h2, h3, by simp [enc, h5], h6, h7, h8⟩

theorem bits_cbits (v s : Nat) : Bits (cbits v s) := by
  intro i
  by_cases h : i < s
  · have : (cbits v s).getD i 0 = (v : Int) / 2 ^ (s - 1 - i) % 2 := by simp [cbits, List.getD_eq_getElem?_getD, h]
    rw [this]
    omega
  · have : (cbits v s).getD i 0 = 0 := by simp [cbits, List.getD_eq_getElem?_getD, h]
    exact .inl this

/-- Two codes part at some place. -/
theorem codes_part {ls : List Int} (hk : LOk ls) {c d s t v u : Nat} (hne : c ≠ d) (hc : ls.getD c 0 = (s : Int)) (hd : ls.getD d 0 = (t : Int)) (hs : 1 ≤ s) (ht : 1 ≤ t) (hv : v < 2 ^ s) (hu : u < 2 ^ t) (ev : v = nx ls (s - 1) c) (eu : u = nx ls (t - 1) d) (hcl : c < ls.length) (hdl : d < ls.length) :
    ∃ i, i < s ∧ i < t ∧ (cbits v s).getD i 0 ≠ (cbits u t).getD i 0 := by
  refine Classical.byContradiction (fun hn => ?_)
  have hall : ∀ i, i < s → i < t → (cbits v s).getD i 0 = (cbits u t).getD i 0 := fun i h1 h2 => Classical.byContradiction (fun e => hn ⟨i, h1, h2, e⟩)
  rcases Nat.le_total s t with h | h
  · have e1 : vl (cbits v s) 0 s = vl (cbits u t) 0 s := vl_congr s (fun i hi => by rw [Nat.zero_add]; exact hall i hi (by omega))
    rw [vl_cbits v s s (Nat.le_refl _), vl_cbits u t s h] at e1
    have h1 : u / 2 ^ (t - s) < 2 ^ s := by
      rw [Nat.div_lt_iff_lt_mul (Nat.pow_pos (by decide)), ← Nat.pow_add, show s + (t - s) = t by omega]; exact hu
    simp only [Nat.sub_self, Nat.pow_zero, Nat.div_one, Nat.mod_eq_of_lt hv, Nat.mod_eq_of_lt h1] at e1
    by_cases e : s = t
    · subst e
      simp only [Nat.sub_self, Nat.pow_zero, Nat.div_one] at e1
      rcases Nat.lt_trichotomy c d with g | g | g
      · have := code_ne ls (s := s - 1) g (by rw [hc]; omega)
        omega
      · exact hne g
      · have := code_ne ls (s := s - 1) g (by rw [hd]; omega)
        omega
    · have := code_apart ls (s := s - 1) (t := t - 1) (b := c) (c := d) (by omega) hcl (by rw [hc]; omega)
      rw [show t - 1 - (s - 1) = t - s by omega, ← ev, ← eu] at this
      omega
  · have e1 : vl (cbits u t) 0 t = vl (cbits v s) 0 t := vl_congr t (fun i hi => by rw [Nat.zero_add]; exact (hall i (by omega) hi).symm)
    rw [vl_cbits u t t (Nat.le_refl _), vl_cbits v s t h] at e1
    have h1 : v / 2 ^ (s - t) < 2 ^ t := by
      rw [Nat.div_lt_iff_lt_mul (Nat.pow_pos (by decide)), ← Nat.pow_add, show t + (s - t) = s by omega]; exact hv
    simp only [Nat.sub_self, Nat.pow_zero, Nat.div_one, Nat.mod_eq_of_lt hu, Nat.mod_eq_of_lt h1] at e1
    by_cases e : t = s
    · subst e
      simp only [Nat.sub_self, Nat.pow_zero, Nat.div_one] at e1
      rcases Nat.lt_trichotomy c d with g | g | g
      · have := code_ne ls (s := t - 1) g (by rw [hc]; omega)
        omega
      · exact hne g
      · have := code_ne ls (s := t - 1) g (by rw [hd]; omega)
        omega
    · have := code_apart ls (s := t - 1) (t := s - 1) (b := d) (c := c) (by omega) hdl (by rw [hd]; omega)
      rw [show s - 1 - (t - 1) = s - t by omega, ← ev, ← eu] at this
      omega

theorem by_one (c : Nat) (h : c < 256) : By [(c : Int)] := by
  intro i
  match i with
  | 0 => simp; omega
  | n + 1 => simp

/-- One byte with a code, written. -/
theorem encode_one {ls : List Int} {c : Nat} {w w' : World} {e : Ending} (hm : mayC ls = true) (hc : 0 < ls.getD c 0) (h : EPost ls [(c : Int)] w e w') : ∃ rv, e = .returned (.tuple #[rv, .int .i64 0]) ∧ Below w.heap.size w w' ∧ Owns .u8 5 w' rv (pack (enc ls [(c : Int)])) := by
  obtain ⟨rv, E, rfl, hb, _, h⟩ := h
  rcases h with ⟨_, _, h⟩ | ⟨rfl, _, _, ho⟩
  · exfalso
    rcases h with h | ⟨i, hi, h⟩
    · rw [hm] at h; cases h
    · have : i = 0 := by simpa using hi
      subst this
      simp only [List.getD_cons_zero, Int.toNat_natCast] at h
      omega
  · exact ⟨rv, rfl, hb, ho⟩

set_option maxRecDepth 100000 in
set_option maxHeartbeats 8000000 in
theorem huffApart_walk (v1 : Value) (ls : List Int) (c d : Nat) (w : World) (h1 : Rd .i64 w v1 ls) (hc : c < 256) (hd : d < 256) :
    Calls Try.prog 3 #[v1, .int .u8 (c : Int), .int .u8 (d : Int)] w fun e w' => e = .returned (.bool true) ∧ Below w.heap.size w w' := by
  have H1 : Hid (Rd .i64 w v1 ls) := h1
  obtain ⟨a1, p1, e1, hlc, hcm, _, q1⟩ := h1
  subst e1
  have C1 : Hid (ls = [] ∨ ∃ b o, a1 = some ⟨b, o, none⟩ ∧ ∀ i, i < ls.length → w.cell? ⟨b, o + i, none⟩ = some (.int .i64 (ls.getD i 0))) := q1
  clear q1
  have wc : wrap64 (c : Int) = (c : Int) := IntWalk.wrap64_in _ ⟨by omega, by omega⟩
  have wd : wrap64 (d : Int) = (d : Int) := IntWalk.wrap64_in _ ⟨by omega, by omega⟩
  by_cases hgo : mayB ls = true ∧ c ≠ d ∧ c < ls.length ∧ d < ls.length ∧ ls.getD c 0 ≠ 0 ∧ ls.getD d 0 ≠ 0
  · obtain ⟨hm, hne, hcl, hdl, hcz, hdz⟩ := hgo
    have HM : Hid (mayB ls = true) := hm
    have HMC : Hid (mayC ls = true) := mayC_of_mayB hm
    have HK : Hid (LOk ls) := LOk.of HMC.out
    have hcp : 0 < ls.getD c 0 := by have := (HK.out.each c hcl).1; omega
    have hdp : 0 < ls.getD d 0 := by have := (HK.out.each d hdl).1; omega
    obtain ⟨s, v, s1, s2, s3, s4, s5, s6, _⟩ := enc_one HK.out hcp
    obtain ⟨t, u, t1, t2, t3, t4, t5, t6, _⟩ := enc_one HK.out hdp
    obtain ⟨i0, hi0, hi1, hi2⟩ := codes_part HK.out hne s5 t5 s1 t1 s3 t3 s6 t6 hcl hdl
    have HI : Hid ((cbits v s).getD i0 0 ≠ (cbits u t).getD i0 0) := hi2
    have HS : Hid (enc ls [(c : Int)] = cbits v s ∧ enc ls [(d : Int)] = cbits u t) := ⟨s4, t4⟩
    have HCP : Hid (0 < ls.getD c 0 ∧ 0 < ls.getD d 0) := ⟨hcp, hdp⟩
    obtain ⟨b, o, ha, hcell⟩ : ∃ b o, a1 = some ⟨b, o, none⟩ ∧ ∀ i, i < ls.length → w.cell? ⟨b, o + i, none⟩ = some (.int .i64 (ls.getD i 0)) := by
      rcases C1.out with rfl | h
      · simp at hcl
      · exact h
    subst ha
    have HCELL : Hid (∀ W : World, Below w.heap.size w W → W.cell? ⟨b, o + c, none⟩ = some (.int .i64 (s : Int)) ∧ W.cell? ⟨b, o + d, none⟩ = some (.int .i64 (t : Int))) := fun W hW => by
      have x1 := hcell c hcl
      have x2 := hcell d hdl
      rw [s5] at x1
      rw [t5] at x2
      exact ⟨by rw [hW.cell (p := ⟨b, o + c, none⟩) (World.block_lt_of_cell? w ⟨b, o + c, none⟩ x1), x1], by rw [hW.cell (p := ⟨b, o + d, none⟩) (World.block_lt_of_cell? w ⟨b, o + d, none⟩ x2), x2]⟩
    obtain ⟨cc, cd'⟩ := HCELL.out w (Below.refl _ _)
    have z1 : ((s : Int) == 0) = false := by rw [beq_eq_false_iff_ne]; omega
    have z2 : ((t : Int) == 0) = false := by rw [beq_eq_false_iff_ne]; omega
    have z3 : ((c : Int) == (d : Int)) = false := by rw [beq_eq_false_iff_ne]; omega
    have hcl' : (c : Int) < (ls.length : Int) := by omega
    have hdl' : (d : Int) < (ls.length : Int) := by omega
    clear hm hcell hcp hdp s3 t3 s4 t4 s5 t5 s6 t6 hi2 hcz hdz
    go_enter Try.func3, Try.ntmps3
    go_wp2_with fail
    refine (may_rd _ ls w H1.out).mono ?_
    rintro e w1 ⟨rfl, rfl⟩
    rw [HM.out]
    go_wp2_with fail
    have hbA : Below w1.heap.size w1 (w1.alloc (.cells #[.int .u8 (c : Int)] 5)) := (Below.refl _ _).alloc (Nat.le_refl _) _
    refine (encode_any _ _ ls [(c : Int)] _ (H1.out.below hbA) (rd_by1 w1 c) (by_one c hc) (by simp)).mono ?_
    intro e w2 h2
    obtain ⟨xv, rfl, hb2, ho2⟩ := encode_one HMC.out HCP.out.1 h2
    have B2 : Hid (Below w1.heap.size w1 w2) := hbA.trans (hb2.mono (by simp))
    have O2 : Hid (Owns .u8 5 w2 xv (pack (cbits v s))) := by show Owns _ _ _ _ _; rw [← HS.out.1]; exact ho2
    clear h2 hb2 ho2 hbA cc cd'
    go_wp2_with fail
    have hbB : Below w2.heap.size w2 (w2.alloc (.cells #[.int .u8 (d : Int)] 5)) := (Below.refl _ _).alloc (Nat.le_refl _) _
    refine (encode_any _ _ ls [(d : Int)] _ ((H1.out.below B2.out).below hbB) (rd_by1 w2 d) (by_one d hd) (by simp)).mono ?_
    intro e w3 h3
    obtain ⟨yv, rfl, hb3, ho3⟩ := encode_one HMC.out HCP.out.2 h3
    have B23 : Below w2.heap.size w2 w3 := hbB.trans (hb3.mono (by simp))
    have B3 : Hid (Below w1.heap.size w1 w3) := B2.out.trans (B23.mono B2.out.size)
    have O3 : Hid (Owns .u8 5 w3 xv (pack (cbits v s))) := O2.out.below B23
    have P3 : Hid (Owns .u8 5 w3 yv (pack (cbits u t))) := by show Owns _ _ _ _ _; rw [← HS.out.2]; exact ho3
    clear h3 hb3 ho3 hbB B23 O2 B2
    go_wp2_with fail
    have hpl : ∀ v s : Nat, s ≤ 11 → (pack (cbits v s)).length ≤ 1048576 := fun v s h => by rw [pack_length]; simp [cbits]; omega
    refine (row_rd xv (pack (cbits v s)) w3 O3.out.rd (fun i => pack_bd (bits_cbits v s) i) (hpl v s s2)).mono ?_
    rintro e w4 ⟨pv, rfl, ho4, hg4⟩
    have b4 := hg4.below.1
    have B4 : Hid (Below w1.heap.size w1 w4) := B3.out.trans (b4.mono B3.out.size)
    have O4 : Hid (Owns .i64 3 w4 pv (unpack (pack (cbits v s)))) := ho4
    have P4 : Hid (Owns .u8 5 w4 yv (pack (cbits u t))) := P3.out.below b4
    clear ho4 hg4 b4 O3 P3 B3
    go_wp2_with fail
    refine (row_rd yv (pack (cbits u t)) w4 P4.out.rd (fun i => pack_bd (bits_cbits u t) i) (hpl u t t2)).mono ?_
    rintro e w5 ⟨qv, rfl, ho5, hg5⟩
    have b5 := hg5.below.1
    have B5 : Hid (Below w1.heap.size w1 w5) := B4.out.trans (b5.mono B4.out.size)
    have O5 : Owns .i64 3 w5 pv (unpack (pack (cbits v s))) := O4.out.below b5
    have lp : ∀ v s : Nat, (unpack (pack (cbits v s))).length = 8 * ((s + 7) / 8) := fun v s => by rw [unpack_length, pack_length]; simp [cbits]
    obtain ⟨gp, pc, epv, _, _, _, hcp5, _⟩ := Owns.shape O5 (by rw [lp]; omega)
    obtain ⟨gq, qc, eqv, _, _, _, hcq5, _⟩ := Owns.shape ho5 (by rw [lp]; omega)
    rw [lp] at epv eqv hcp5 hcq5
    subst epv
    subst eqv
    obtain ⟨np, hnp⟩ : ∃ np, Hid (8 * ((s + 7) / 8) = np) := ⟨_, rfl⟩
    obtain ⟨nq, hnq⟩ : ∃ nq, Hid (8 * ((t + 7) / 8) = nq) := ⟨_, rfl⟩
    rw [hnp.out] at hcp5 ⊢
    rw [hnq.out] at hcq5 ⊢
    have hsp : s ≤ np := by have := hnp.out; omega
    have htq : t ≤ nq := by have := hnq.out; omega
    have HPC : Hid (∀ i, i < np → w5.cell? ⟨gp, i, none⟩ = some (.int .i64 ((cbits v s).getD i 0))) := fun i hi => by rw [hcp5 i hi, unpack_pack (bits_cbits v s)]
    have HQC : Hid (∀ i, i < nq → w5.cell? ⟨gq, i, none⟩ = some (.int .i64 ((cbits u t).getD i 0))) := fun i hi => by rw [hcq5 i hi, unpack_pack (bits_cbits u t)]
    obtain ⟨c5, d5⟩ := HCELL.out w5 B5.out
    clear hcp5 hcq5 O5 ho5 hg5 b5 O4 P4 B4 hpl lp
    have hs0 : ¬ (np : Int) < (s : Int) := by omega
    have ht0 : ¬ (nq : Int) < (t : Int) := by omega
    go_wp2_with fail
    go_loopw [14] (fun i wr => ∃ k : Nat, k ≤ i0 ∧ i = .int .i64 k ∧ Hid (Tch (fun _ => False) w5 wr)) (fun i _ => i0 - (intOf i).toNat)
    case atStart => exact ⟨0, Nat.zero_le _, rfl, Tch.refl _ _⟩
    case round =>
      obtain ⟨k, hk, rfl, T⟩ := hrel
      have HB : Hid (Below w1.heap.size w1 wr) := B5.out.trans (T.out.below B5.out.size (fun _ e => e.elim))
      obtain ⟨c6, d6⟩ := HCELL.out wr HB.out
      clear c5 d5
      obtain ⟨x, hx⟩ : ∃ x, Hid ((cbits v s).getD k 0 = x) := ⟨_, rfl⟩
      obtain ⟨y, hy⟩ : ∃ y, Hid ((cbits u t).getD k 0 = y) := ⟨_, rfl⟩
      have cx : wr.cell? ⟨gp, k, none⟩ = some (.int .i64 x) := by
        have h0 := HPC.out k (by omega)
        rw [T.out.cell (p := ⟨gp, k, none⟩) (World.block_lt_of_cell? w5 ⟨gp, k, none⟩ h0) (fun e => e), h0, hx.out]
      have cy : wr.cell? ⟨gq, k, none⟩ = some (.int .i64 y) := by
        have h0 := HQC.out k (by omega)
        rw [T.out.cell (p := ⟨gq, k, none⟩) (World.block_lt_of_cell? w5 ⟨gq, k, none⟩ h0) (fun e => e), h0, hy.out]
      have k1 : (k : Int) < (s : Int) := by omega
      have k2 : (k : Int) < (t : Int) := by omega
      by_cases hxy : x = y
      · have hb : (x != y) = false := by simp [hxy]
        have hki : k < i0 := by
          rcases Nat.lt_or_ge k i0 with h | h
          · exact h
          · exfalso
            have : k = i0 := by omega
            subst this
            exact HI.out (by rw [hx.out, hy.out]; exact hxy)
        clear hxy
        go_wp2_with fail
        go_quiet (fail)
        go_wp2_with fail
        go_roundw
        case rel => exact ⟨k + 1, by omega, by go_num, T.out.trans (S' := fun _ => False) ⟨rfl, rfl, rfl, Nat.le_refl _, fun _ _ _ => rfl⟩ (fun _ _ e => e)⟩
        case measure => simp [intOf]; omega
      · have hb : (x != y) = true := by simp [hxy]
        clear hxy
        go_wp2_with fail
        go_quiet (fail)
        go_wp2_with fail
        refine (lives_any _).mono ?_
        rintro e w6 ⟨rfl, hb6⟩
        go_wp2_with fail
        go_ret
        refine ⟨rfl, Below.trans ?_ (hb6.mono ?_)⟩
        · exact HB.out.trans (Below.of_drewN _ _ _)
        · exact (HB.out.trans (Below.of_drewN _ _ _)).size
  · have HG : Hid (¬ (mayB ls = true ∧ c ≠ d ∧ c < ls.length ∧ d < ls.length ∧ ls.getD c 0 ≠ 0 ∧ ls.getD d 0 ≠ 0)) := hgo
    clear hgo
    have HCELL : Hid (∀ i, i < ls.length → ∃ b o, a1 = some ⟨b, o, none⟩ ∧ w.cell? ⟨b, o + i, none⟩ = some (.int .i64 (ls.getD i 0))) := fun i hi => by
      rcases C1.out with rfl | ⟨b, o, h1, h2⟩
      · simp at hi
      · exact ⟨b, o, h1, h2 i hi⟩
    cases hm : mayB ls with
    | false =>
      have HM : Hid (mayB ls = false) := hm
      clear hm
      go_enter Try.func3, Try.ntmps3
      go_wp2_with fail
      refine (may_rd _ ls w H1.out).mono ?_
      rintro e w1 ⟨rfl, rfl⟩
      rw [HM.out]
      go_wp2_with fail
      refine (lives_any _).mono ?_
      rintro e w6 ⟨rfl, hb6⟩
      go_wp2_with fail
      go_ret
      exact ⟨rfl, hb6⟩
    | true =>
      have HM : Hid (mayB ls = true) := hm
      have HLK : Hid (LOk ls) := LOk.of (mayC_of_mayB hm)
      clear hm
      by_cases hcd : c = d
      · have z3 : ((c : Int) == (d : Int)) = true := by simp [hcd]
        clear hcd
        go_enter Try.func3, Try.ntmps3
        go_wp2_with fail
        refine (may_rd _ ls w H1.out).mono ?_
        rintro e w1 ⟨rfl, rfl⟩
        rw [HM.out]
        go_wp2_with fail
        refine (lives_any _).mono ?_
        rintro e w6 ⟨rfl, hb6⟩
        go_wp2_with fail
        go_ret
        exact ⟨rfl, hb6⟩
      · have z3 : ((c : Int) == (d : Int)) = false := by rw [beq_eq_false_iff_ne]; omega
        by_cases hcl : c < ls.length
        · have hcl' : (c : Int) < (ls.length : Int) := by omega
          by_cases hdl : d < ls.length
          · have hdl' : (d : Int) < (ls.length : Int) := by omega
            obtain ⟨b, o, ha, c0⟩ := HCELL.out c hcl
            subst ha
            obtain ⟨b', o', ha, d0⟩ := HCELL.out d hdl
            simp only [Option.some.injEq, Addr.mk.injEq, and_true] at ha
            obtain ⟨rfl, rfl⟩ := ha
            by_cases hcz : ls.getD c 0 = 0
            · rw [hcz] at c0
              clear hcz d0
              go_enter Try.func3, Try.ntmps3
              go_wp2_with fail
              refine (may_rd _ ls w H1.out).mono ?_
              rintro e w1 ⟨rfl, rfl⟩
              rw [HM.out]
              go_wp2_with fail
              refine (lives_any _).mono ?_
              rintro e w6 ⟨rfl, hb6⟩
              go_wp2_with fail
              go_ret
              exact ⟨rfl, hb6⟩
            · by_cases hdz : ls.getD d 0 = 0
              · obtain ⟨x, hx⟩ : ∃ x, Hid (ls.getD c 0 = x) := ⟨_, rfl⟩
                rw [hx.out] at c0 hcz
                rw [hdz] at d0
                have zx : (x == 0) = false := by simp [hcz]
                clear hcz hdz
                go_enter Try.func3, Try.ntmps3
                go_wp2_with fail
                refine (may_rd _ ls w H1.out).mono ?_
                rintro e w1 ⟨rfl, rfl⟩
                rw [HM.out]
                go_wp2_with fail
                refine (lives_any _).mono ?_
                rintro e w6 ⟨rfl, hb6⟩
                go_wp2_with fail
                go_ret
                exact ⟨rfl, hb6⟩
              · exact absurd ⟨HM.out, hcd, hcl, hdl, hcz, hdz⟩ HG.out
          · have hdl' : (ls.length : Int) ≤ (d : Int) := by omega
            clear hdl
            go_enter Try.func3, Try.ntmps3
            go_wp2_with fail
            refine (may_rd _ ls w H1.out).mono ?_
            rintro e w1 ⟨rfl, rfl⟩
            rw [HM.out]
            go_wp2_with fail
            refine (lives_any _).mono ?_
            rintro e w6 ⟨rfl, hb6⟩
            go_wp2_with fail
            go_ret
            exact ⟨rfl, hb6⟩
        · have hcl' : (ls.length : Int) ≤ (c : Int) := by omega
          clear hcl
          go_enter Try.func3, Try.ntmps3
          go_wp2_with fail
          refine (may_rd _ ls w H1.out).mono ?_
          rintro e w1 ⟨rfl, rfl⟩
          rw [HM.out]
          go_wp2_with fail
          refine (lives_any _).mono ?_
          rintro e w6 ⟨rfl, hb6⟩
          go_wp2_with fail
          go_ret
          exact ⟨rfl, hb6⟩
end Go.Proofs.Ytpdhdlopbmhgfab
