/-
  HuffBest: no lengths are better: for every counts and lengths the law answers true.
-/
import Derived.Test.YtpdhdlopbmhgfabHBestP
namespace Go.Proofs.Ytpdhdlopbmhgfab
open Go.RowKit Pl Hf
set_option linter.unusedVariables false

theorem sumP_bd {cs : List Int} (h : OkC cs) (k : Nat) (hk : k ≤ cs.length) : 0 ≤ sumP cs (fun i => cs.getD i 0) k ∧ sumP cs (fun i => cs.getD i 0) k ≤ 4294967295 * k := by
  induction k with
  | zero => simp [sumP]
  | succ k ih =>
    have := ih (by omega)
    have h1 := h.each k (by omega)
    simp only [sumP]
    split <;> omega

theorem shS_bd {cs ds : List Int} (hok : OkC cs) (h : ShS (wt cs cs.length) ds) : ∀ i, 0 ≤ ds.getD i 0 ∧ ds.getD i 0 ≤ 11 := by
  have hle := st_le cs cs.length
  have hmost := hok.most
  have hwl := wt_length cs cs.length
  intro i
  rcases h with ⟨_, rfl⟩ | ⟨h2, h3⟩
  · match i with
    | 0 => decide
    | n + 1 => simp
  · obtain ⟨vs, _, _, h5, rfl⟩ := h3.facts ⟨h2, by omega, fun i hi => wt_pos cs _ i hi⟩
    by_cases hi : i < vs.length
    · have := h5 i hi
      refine ⟨?_, this⟩
      rw [deps_getD vs i hi]
      omega
    · have : (deps vs).getD i 0 = 0 := by simp [List.getD_eq_getElem?_getD, List.getElem?_eq_none (show (deps vs).length ≤ i by rw [deps_length]; omega)]
      rw [this]; decide

theorem lens_bd {cs ds : List Int} (hok : OkC cs) (h : ShS (wt cs cs.length) ds) (i : Nat) : 0 ≤ (lens cs ds).getD i 0 ∧ (lens cs ds).getD i 0 ≤ 11 := by
  by_cases hi : i ≤ lastSt cs
  · rw [lensTo_getD cs ds _ i hi]
    split
    · exact shS_bd hok h _
    · decide
  · have : (lens cs ds).getD i 0 = 0 := by simp [List.getD_eq_getElem?_getD, List.getElem?_eq_none (show (lens cs ds).length ≤ i by rw [lensTo_length]; omega)]
    rw [this]; decide

theorem last_of {cs : List Int} {k : Nat} (hk : k < cs.length) (hp : 0 < cs.getD k 0) : k ≤ lastSt cs := by
  obtain ⟨h1, h2⟩ := st_get cs hk hp
  have := st_le_last cs h1
  rw [h2] at this
  exact this

set_option maxHeartbeats 8000000 in
theorem huffBest_walk (v1 v2 : Value) (cs other : List Int) (w : World) (h1 : Rd .i64 w v1 cs) (h2 : Rd .i64 w v2 other) :
    Calls Try.prog 4 #[v1, v2] w fun e w' => e = .returned (.bool true) ∧ Below w.heap.size w w' := by
  have H1 : Hid (Rd .i64 w v1 cs) := h1
  have H2 : Hid (Rd .i64 w v2 other) := h2
  obtain ⟨a1, p1, e1, _, _, _, q1⟩ := h1
  obtain ⟨a2, p2, e2, _, _, _, q2⟩ := h2
  subst e1
  subst e2
  have C1 : Hid (cs = [] ∨ ∃ b o, a1 = some ⟨b, o, none⟩ ∧ ∀ i, i < cs.length → w.cell? ⟨b, o + i, none⟩ = some (.int .i64 (cs.getD i 0))) := q1
  have C2 : Hid (other = [] ∨ ∃ b o, a2 = some ⟨b, o, none⟩ ∧ ∀ i, i < other.length → w.cell? ⟨b, o + i, none⟩ = some (.int .i64 (other.getD i 0))) := q2
  clear q1 q2
  go_enter Try.func4, Try.ntmps4
  go_wp2_with fail
  refine (lengths_any _ cs w H1.out).mono ?_
  intro e w1 hL
  obtain ⟨lv, E, rfl, hb1, _, hcase⟩ := hL
  have B1 : Hid (Below w.heap.size w w1) := hb1
  rcases hcase with ⟨rfl, _, _⟩ | ⟨rfl, hok, ds, ho, hsh⟩
  · clear hb1
    go_wp2_with fail
    refine (may_rd _ other w1 (H2.out.below B1.out)).mono ?_
    rintro e w2 ⟨rfl, rfl⟩
    go_wp2_with fail
    refine (lives_any _).mono ?_
    rintro e w3 ⟨rfl, hb3⟩
    go_wp2_with fail
    go_ret
    exact ⟨rfl, B1.out.trans (hb3.mono B1.out.size)⟩
  · have HOK : Hid (OkC cs) := hok
    have HSH : Hid (ShS (wt cs cs.length) ds) := hsh
    have HO : Hid (Owns .i64 3 w1 lv (lens cs ds)) := ho
    have hn256 := hok.most
    clear hb1 hok hsh ho
    cases hm : mayB other with
    | false =>
      have HM : Hid (mayB other = false) := hm
      clear hm
      go_wp2_with fail
      refine (may_rd _ other w1 (H2.out.below B1.out)).mono ?_
      rintro e w2 ⟨rfl, rfl⟩
      rw [HM.out]
      go_wp2_with fail
      refine (lives_any _).mono ?_
      rintro e w3 ⟨rfl, hb3⟩
      go_wp2_with fail
      go_ret
      exact ⟨rfl, B1.out.trans (hb3.mono B1.out.size)⟩
    | true =>
      have HM : Hid (mayB other = true) := hm
      have HK : Hid (LOk other) := LOk.of (mayC_of_mayB hm)
      clear hm
      go_wp2_with fail
      refine (may_rd _ other w1 (H2.out.below B1.out)).mono ?_
      rintro e w2 ⟨rfl, rfl⟩
      rw [HM.out]
      obtain ⟨gl, lc, hlv, _⟩ := Owns.shape HO.out (by rw [lensTo_length]; omega)
      rw [lensTo_length] at hlv
      obtain ⟨M, hM⟩ : ∃ M, Hid (lastSt cs = M) := ⟨_, rfl⟩
      rw [hM.out] at hlv
      subst hlv
      go_wp2_with fail
      go_loopw [8, 9, 10, 11] (fun x y z i wr => ∃ (k : Nat) (s m t : Int), k ≤ cs.length ∧ i = .int .i64 k ∧ x = .int .i64 s ∧ y = .int .i64 m ∧ z = .int .i64 t ∧ 0 ≤ s ∧ s ≤ 4294967295 * k ∧ 0 ≤ m ∧ m ≤ 3300 ∧ 0 ≤ t ∧ t ≤ 3300 ∧
        Hid (sumP cs (fun i => cs.getD i 0) k = s ∧ (s ≤ 300 → m ≤ 11 * s ∧ t ≤ 11 * s ∧ sumP cs (fun i => cs.getD i 0 * (lens cs ds).getD i 0) k = m ∧ sumP cs (fun i => cs.getD i 0 * other.getD i 0) k = t ∧ ∀ i, i < k → 0 < cs.getD i 0 → 0 < other.getD i 0)) ∧ Hid (Tch (fun _ => False) w2 wr)) (fun _ _ _ i _ => cs.length - (intOf i).toNat)
      case atStart => exact ⟨0, 0, 0, 0, Nat.zero_le _, rfl, rfl, rfl, rfl, by omega, by omega, by omega, by omega, by omega, by omega, ⟨rfl, fun _ => ⟨by omega, by omega, rfl, rfl, fun i hi => by omega⟩⟩, Tch.refl _ _⟩
      case round =>
        obtain ⟨k, s, m, t, hk, rfl, rfl, rfl, rfl, hs0, hs1, hm0, hm1, ht0, ht1, HI, T⟩ := hrel
        have TB : Hid (Below w.heap.size w wr) := B1.out.trans (T.out.below B1.out.size (fun _ e => e.elim))
        by_cases hlt : k < cs.length
        · obtain ⟨b, o, ha, hc⟩ : ∃ b o, a1 = some ⟨b, o, none⟩ ∧ ∀ i, i < cs.length → w.cell? ⟨b, o + i, none⟩ = some (.int .i64 (cs.getD i 0)) := by
            rcases C1.out with rfl | h
            · simp at hlt
            · exact h
          subst ha
          obtain ⟨x, hx⟩ : ∃ x, Hid (cs.getD k 0 = x) := ⟨_, rfl⟩
          have cx : wr.cell? ⟨b, o + k, none⟩ = some (.int .i64 x) := by
            have h0 := hc k hlt
            rw [TB.out.cell (p := ⟨b, o + k, none⟩) (World.block_lt_of_cell? w ⟨b, o + k, none⟩ h0), h0, hx.out]
          have hxb := HOK.out.each k hlt
          rw [hx.out] at hxb
          have HSP : Hid (∀ f : Nat → Int, sumP cs f (k + 1) = sumP cs f k + if 0 < x then f k else 0) := fun f => by rw [← hx.out]; rfl
          have hs2 : s + x ≤ 4294967295 * ((k + 1 : Nat) : Int) := by omega
          clear hc
          by_cases hskip : x = 0 ∨ 300 < s + x
          · have HI2 : Hid (sumP cs (fun i => cs.getD i 0) (k + 1) = s + x ∧ (s + x ≤ 300 → m ≤ 11 * (s + x) ∧ t ≤ 11 * (s + x) ∧ sumP cs (fun i => cs.getD i 0 * (lens cs ds).getD i 0) (k + 1) = m ∧ sumP cs (fun i => cs.getD i 0 * other.getD i 0) (k + 1) = t ∧ ∀ i, i < k + 1 → 0 < cs.getD i 0 → 0 < other.getD i 0)) := by
              refine ⟨?_, fun h300 => ?_⟩
              · rw [HSP.out, HI.out.1]
                simp only [hx.out]
                split <;> omega
              · have hx0 : x = 0 := by omega
                obtain ⟨i1, i2, i3, i4, i5⟩ := HI.out.2 (by omega)
                refine ⟨by omega, by omega, ?_, ?_, fun i hi hp => ?_⟩
                · rw [HSP.out, i3, if_neg (by omega)]; omega
                · rw [HSP.out, i4, if_neg (by omega)]; omega
                · by_cases e : i < k
                  · exact i5 i e hp
                  · have : i = k := by omega
                    subst this
                    rw [hx.out] at hp
                    omega
            clear HI
            by_cases hx0 : x = 0
            · have hxe : (x == 0) = true := by simp [hx0]
              clear hskip hx0
              go_wp2_with fail
              go_roundw
              case rel => exact ⟨k + 1, s + x, m, t, by omega, by go_num, by first | rfl | go_num, rfl, rfl, by omega, hs2, hm0, hm1, ht0, ht1, HI2, T⟩
              case measure => simp [intOf]; omega
            · have hxe : (x == 0) = false := by simp [hx0]
              have h300 : 300 < s + x := by omega
              clear hskip hx0
              go_wp2_with fail
              go_roundw
              case rel => exact ⟨k + 1, s + x, m, t, by omega, by go_num, by first | rfl | go_num, rfl, rfl, by omega, hs2, hm0, hm1, ht0, ht1, HI2, T⟩
              case measure => simp [intOf]; omega
          · have hx0 : 0 < x := by omega
            have hxe : (x == 0) = false := by rw [beq_eq_false_iff_ne]; omega
            have h300 : ¬ 300 < s + x := by omega
            have hkM : k ≤ M := by rw [← hM.out]; exact last_of hlt (by rw [hx.out]; exact hx0)
            obtain ⟨i1, i2, i3, i4, i5⟩ := HI.out.2 (by omega)
            have HI0 : Hid (sumP cs (fun i => cs.getD i 0) k = s ∧ m ≤ 11 * s ∧ t ≤ 11 * s ∧ sumP cs (fun i => cs.getD i 0 * (lens cs ds).getD i 0) k = m ∧ sumP cs (fun i => cs.getD i 0 * other.getD i 0) k = t ∧ ∀ i, i < k → 0 < cs.getD i 0 → 0 < other.getD i 0) := ⟨HI.out.1, i1, i2, i3, i4, i5⟩
            clear hskip HI i3 i4 i5
            by_cases hol : k < other.length
            · obtain ⟨b2, o2, ha2, hc2⟩ : ∃ b o, a2 = some ⟨b, o, none⟩ ∧ ∀ i, i < other.length → w.cell? ⟨b, o + i, none⟩ = some (.int .i64 (other.getD i 0)) := by
                rcases C2.out with rfl | h
                · simp at hol
                · exact h
              subst ha2
              obtain ⟨y, hy⟩ : ∃ y, Hid (other.getD k 0 = y) := ⟨_, rfl⟩
              have cy : wr.cell? ⟨b2, o2 + k, none⟩ = some (.int .i64 y) := by
                have h0 := hc2 k hol
                rw [TB.out.cell (p := ⟨b2, o2 + k, none⟩) (World.block_lt_of_cell? w ⟨b2, o2 + k, none⟩ h0), h0, hy.out]
              have hyb := HK.out.each k hol
              rw [hy.out] at hyb
              clear hc2
              by_cases hy0 : y = 0
              · have hye : (y == 0) = true := by simp [hy0]
                clear hy0
                go_wp2_with fail
                refine (lives_any _).mono ?_
                rintro e w3 ⟨rfl, hb3⟩
                go_wp2_with fail
                go_ret
                exact ⟨rfl, TB.out.trans (hb3.mono TB.out.size)⟩
              · have hye : (y == 0) = false := by simp [hy0]
                obtain ⟨z, hz⟩ : ∃ z, Hid ((lens cs ds).getD k 0 = z) := ⟨_, rfl⟩
                have hzb := lens_bd HOK.out HSH.out k
                rw [hz.out] at hzb
                have OW : Owns .i64 3 wr (.slice (some ⟨gl, 0, none⟩) (M + 1) lc) (lens cs ds) := HO.out.tch T.out (fun _ _ e => e)
                have cz : wr.cell? ⟨gl, k, none⟩ = some (.int .i64 z) := by
                  rw [(OW.at1 k (by rw [lensTo_length, hM.out]; omega)).1, hz.out]
                obtain ⟨xz, hxz⟩ : ∃ xz, x * z = xz := ⟨_, rfl⟩
                obtain ⟨xy, hxy⟩ : ∃ xy, x * y = xy := ⟨_, rfl⟩
                have bz : 0 ≤ xz ∧ xz ≤ x * 11 := by rw [← hxz]; exact ⟨Int.mul_nonneg (by omega) hzb.1, Int.mul_le_mul_of_nonneg_left hzb.2 (by omega)⟩
                have by' : 0 ≤ xy ∧ xy ≤ x * 11 := by rw [← hxy]; exact ⟨Int.mul_nonneg (by omega) hyb.1, Int.mul_le_mul_of_nonneg_left hyb.2 (by omega)⟩
                have HI2 : Hid (sumP cs (fun i => cs.getD i 0) (k + 1) = s + x ∧ (s + x ≤ 300 → m + xz ≤ 11 * (s + x) ∧ t + xy ≤ 11 * (s + x) ∧ sumP cs (fun i => cs.getD i 0 * (lens cs ds).getD i 0) (k + 1) = m + xz ∧ sumP cs (fun i => cs.getD i 0 * other.getD i 0) (k + 1) = t + xy ∧ ∀ i, i < k + 1 → 0 < cs.getD i 0 → 0 < other.getD i 0)) := by
                  obtain ⟨i0, _, _, i3, i4, i5⟩ := HI0.out
                  refine ⟨by rw [HSP.out, i0, if_pos hx0, hx.out], fun _ => ⟨by omega, by omega, by rw [HSP.out, i3, if_pos hx0, hx.out, hz.out, hxz], by rw [HSP.out, i4, if_pos hx0, hx.out, hy.out, hxy], fun i hi hp => ?_⟩⟩
                  by_cases e : i < k
                  · exact i5 i e hp
                  · have : i = k := by omega
                    subst this
                    rw [hy.out]
                    omega
                have q1 : 0 ≤ m + xz ∧ m + xz ≤ 3300 := by omega
                have q2 : 0 ≤ t + xy ∧ t + xy ≤ 3300 := by omega
                have w64 : IntKind.i64.wrap (x * z) = xz := by rw [hxz]; exact wraps_i64 _ (by omega) (by omega)
                have w64b : IntKind.i64.wrap (x * y) = xy := by rw [hxy]; exact wraps_i64 _ (by omega) (by omega)
                clear hy0 HI0 OW
                go_wp2_with fail
                go_quiet (fail)
                go_wp2_with fail
                go_quiet (fail)
                go_wp2_with fail
                go_roundw
                case rel => exact ⟨k + 1, s + x, m + xz, t + xy, by omega, by go_num, by first | rfl | go_num, by first | rfl | go_num, by first | rfl | go_num, by omega, hs2, q1.1, q1.2, q2.1, q2.2, HI2, T.out.trans (S' := fun _ => False) ⟨rfl, rfl, rfl, Nat.le_refl _, fun _ _ _ => rfl⟩ (fun _ _ e => e)⟩
                case measure => simp [intOf]; omega
            · go_wp2_with fail
              refine (lives_any _).mono ?_
              rintro e w3 ⟨rfl, hb3⟩
              go_wp2_with fail
              go_ret
              exact ⟨rfl, TB.out.trans (hb3.mono TB.out.size)⟩
        · obtain rfl : k = cs.length := by omega
          by_cases h300 : 300 < s
          · go_wp2_with fail
            refine (lives_any _).mono ?_
            rintro e w3 ⟨rfl, hb3⟩
            go_wp2_with fail
            go_ret
            exact ⟨rfl, TB.out.trans (hb3.mono TB.out.size)⟩
          · have hmt : m ≤ t := by
              obtain ⟨i1, i2, i3, i4, i5⟩ := HI.out.2 (by omega)
              have := best_core HOK.out HSH.out (by rw [HI.out.1]; omega) HM.out i5
              rw [i3, i4] at this
              exact this
            go_wp2_with fail
            refine (lives_any _).mono ?_
            rintro e w3 ⟨rfl, hb3⟩
            go_wp2_with fail
            go_ret
            exact ⟨rfl, TB.out.trans (hb3.mono TB.out.size)⟩
end Go.Proofs.Ytpdhdlopbmhgfab
