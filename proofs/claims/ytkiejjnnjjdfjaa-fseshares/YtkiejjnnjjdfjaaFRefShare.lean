/-
  The document's shares of counts are the program's.
-/
import Derived.Test.YtkiejjnnjjdfjaaFFil
namespace Go.Proofs.Ytkiejjnnjjdfjaa
open Go.RowKit Pl
set_option linter.unusedVariables false

set_option maxHeartbeats 1000000 in
theorem refGreatest_any (b o cap : Nat) (xs : List Int) (w : World) (h0 : 0 < xs.length) (h1 : xs.length ≤ 64)
    (hc : ∀ i, i < xs.length → w.cell? ⟨b, o + i, none⟩ = some (.int .i64 (xs.getD i 0))) :
    Calls Try.prog 26 #[.slice (some ⟨b, o, none⟩) xs.length cap] w fun e w' => e = .returned (.int .i64 (fg xs xs.length)) ∧ Below w.heap.size w w' := by
  have HC : Hid (∀ i, i < xs.length → w.cell? ⟨b, o + i, none⟩ = some (.int .i64 (xs.getD i 0))) := hc
  clear hc
  obtain ⟨R, hR⟩ : ∃ R, Hid (fg xs xs.length = R) := ⟨_, rfl⟩
  rw [hR.out]
  go_enter Try.func26, Try.ntmps26
  go_wp2_with fail
  go_loopw [3, 4] (fun t i wr => ∃ k f : Nat, k ≤ xs.length ∧ i = .int .i64 k ∧ t = .int .i64 f ∧ f < xs.length ∧ Hid (fg xs k = f) ∧ Hid (Below w.heap.size w wr)) (fun _ i _ => xs.length - (intOf i).toNat)
  case atStart => exact ⟨1, 0, h0, rfl, rfl, h0, by show _ = _; simp [fg], Below.refl _ _⟩
  case round =>
    obtain ⟨k, f, hk, rfl, rfl, hf, hI, HB⟩ := hrel
    by_cases hlt : k < xs.length
    · obtain ⟨x, hxe⟩ : ∃ x, Hid (xs.getD k 0 = x) := ⟨_, rfl⟩
      obtain ⟨y, hye⟩ : ∃ y, Hid (xs.getD f 0 = y) := ⟨_, rfl⟩
      have cx : wr.cell? ⟨b, o + k, none⟩ = some (.int .i64 x) := by
        have h := HC.out k hlt
        rw [HB.out.cell (p := ⟨b, o + k, none⟩) (World.block_lt_of_cell? w ⟨b, o + k, none⟩ h), h, hxe.out]
      have cy : wr.cell? ⟨b, o + f, none⟩ = some (.int .i64 y) := by
        have h := HC.out f hf
        rw [HB.out.cell (p := ⟨b, o + f, none⟩) (World.block_lt_of_cell? w ⟨b, o + f, none⟩ h), h, hye.out]
      by_cases hxy : y < x
      · have HI : Hid (fg xs (k + 1) = k) := by show _ = _; simp only [fg]; rw [hI.out, hxe.out, hye.out, if_pos hxy]
        go_wp2_with fail
        go_quiet (fail)
        go_wp2_with fail
        go_roundw
        case rel => exact ⟨k + 1, k, by omega, by go_num, rfl, hlt, HI, HB.out.trans (Below.of_drewN _ _ _)⟩
        case measure => simp [intOf]; omega
      · have HI : Hid (fg xs (k + 1) = f) := by show _ = _; simp only [fg]; rw [hI.out, hxe.out, hye.out, if_neg hxy]
        go_wp2_with fail
        go_quiet (fail)
        go_wp2_with fail
        go_roundw
        case rel => exact ⟨k + 1, f, by omega, by go_num, rfl, hf, HI, HB.out.trans (Below.of_drewN _ _ _)⟩
        case measure => simp [intOf]; omega
    · obtain rfl : k = xs.length := by omega
      have HE : Hid (f = R) := by show f = R; rw [← hI.out, hR.out]
      go_wp2_with fail
      go_ret
      exact ⟨by rw [HE.out]; rfl, HB.out⟩

/-- Behind the last of the first k that stands. -/
def lp (c : List Int) : Nat → Nat
  | 0 => 0
  | k + 1 => if 0 < c.getD k 0 then k + 1 else lp c k

theorem lp_le (c : List Int) (k : Nat) : lp c k ≤ k := by
  induction k with
  | zero => simp [lp]
  | succ k ih => simp only [lp]; split <;> omega

theorem lp_por {c : List Int} (z all : Int) (h : ∀ i, 0 ≤ c.getD i 0) : ∀ k, (por c z all k).length = lp c k
  | 0 => rfl
  | k + 1 => by
    have h0 := h k
    simp only [por, lp]
    by_cases e : c.getD k 0 = 0
    · rw [if_pos e, if_neg (by omega)]; exact lp_por z all h k
    · rw [if_neg e, if_pos (by omega)]
      have := por_len c z all k
      simp
      omega

/-- The first k of what comes to each count, the others none. -/
def qs (ps : List Int) : Nat → List Int
  | 0 => List.replicate ps.length 0
  | k + 1 => (qs ps k).set k (ps.getD k 0)

theorem qs_length (ps : List Int) (k : Nat) : (qs ps k).length = ps.length := by
  induction k with
  | zero => simp [qs]
  | succ k ih => simp only [qs, List.length_set, ih]

theorem rep0 (n i : Nat) : (List.replicate n (0 : Int)).getD i 0 = 0 := by
  rw [List.getD_eq_getElem?_getD, List.getElem?_replicate]
  split <;> rfl

theorem qs_getD (ps : List Int) : ∀ k, k ≤ ps.length → ∀ i, (qs ps k).getD i 0 = if i < k then ps.getD i 0 else 0
  | 0, _, i => by simp only [qs]; rw [rep0, if_neg (by omega)]
  | k + 1, hk, i => by
    simp only [qs]
    rw [gset _ _ _ _ (by rw [qs_length]; omega), qs_getD ps k (by omega) i]
    by_cases e : i = k
    · subst e; rw [if_pos rfl, if_pos (by omega)]
    · rw [if_neg e]
      by_cases e2 : i < k
      · rw [if_pos e2, if_pos (by omega)]
      · rw [if_neg e2, if_neg (by omega)]

theorem qs_all (ps : List Int) : qs ps ps.length = ps := by
  refine list_eq_of_getD (qs_length _ _) fun i hi => ?_
  rw [qs_length] at hi
  rw [qs_getD ps _ (Nat.le_refl _), if_pos hi]

theorem qs_skip (ps : List Int) (k : Nat) (hk : k < ps.length) (h : ps.getD k 0 = 0) : qs ps (k + 1) = qs ps k := by
  refine list_eq_of_getD (by rw [qs_length, qs_length]) fun i hi => ?_
  rw [qs_getD _ _ (by omega), qs_getD _ _ (by omega)]
  by_cases e : i = k
  · subst e; rw [if_pos (by omega), if_neg (by omega), h]
  · by_cases e2 : i < k
    · rw [if_pos (by omega), if_pos e2]
    · rw [if_neg (by omega), if_neg e2]

set_option maxRecDepth 100000 in
set_option maxHeartbeats 4000000 in
theorem refShare_any (v : Value) (c : List Int) (log : Int) (w : World) (h : Rd .i64 w v c) :
    Calls Try.prog 10 #[v, .int .i64 log] w fun e w' => DPost (shR c log) w e w' := by
  obtain ⟨a1, p1, e1, _, _, _, q1⟩ := h
  subst e1
  have C1 : Hid (c = [] ∨ ∃ b o, a1 = some ⟨b, o, none⟩ ∧ ∀ i, i < c.length → w.cell? ⟨b, o + i, none⟩ = some (.int .i64 (c.getD i 0))) := q1
  clear q1
  obtain ⟨R, hR⟩ : ∃ R, Hid (shR c log = R) := ⟨_, rfl⟩
  have HBAD : Hid (mayC c log = false → R = (1, [])) := fun hm => by rw [← hR.out]; unfold shR; rw [if_pos hm]
  rw [hR.out]
  by_cases h1 : log < 5
  · have HE : Hid (R = (1, [])) := HBAD.out (by unfold mayC; exact decide_eq_false (fun h => by omega))
    go_enter Try.func10, Try.ntmps10
    go_wp2_with fail
    go_ret2
    rw [HE.out]
    exact DPost.bad (Below.refl _ _)
  have g1 : decide (log < 5) = false := by rw [decide_eq_false_iff_not]; exact h1
  by_cases h2 : 9 < log
  · have HE : Hid (R = (1, [])) := HBAD.out (by unfold mayC; exact decide_eq_false (fun h => by omega))
    go_enter Try.func10, Try.ntmps10
    go_wp2_with fail
    go_ret2
    rw [HE.out]
    exact DPost.bad (Below.refl _ _)
  have g2 : decide (9 < log) = false := by rw [decide_eq_false_iff_not]; exact h2
  obtain ⟨lg, rfl⟩ := Int.eq_ofNat_of_zero_le (show 0 ≤ log by omega)
  by_cases h3 : 64 < c.length
  · have HE : Hid (R = (1, [])) := HBAD.out (by unfold mayC; exact decide_eq_false (fun h => by omega))
    have h3' : (64 : Int) < (c.length : Int) := by omega
    go_enter Try.func10, Try.ntmps10
    go_wp2_with fail
    go_ret2
    rw [HE.out]
    exact DPost.bad (Below.refl _ _)
  have g3 : decide (64 < (c.length : Int)) = false := by rw [decide_eq_false_iff_not]; omega
  have hl64 : c.length ≤ 64 := by omega
  have h5 : 5 ≤ lg := by omega
  have h9 : lg ≤ 9 := by omega
  obtain ⟨z, hz, hz1, hz2, hw, hpz⟩ := pow_z h5 h9
  have HPZ : Hid ((2 : Int) ^ lg = (z : Int)) := hpz
  clear h1 h2 h3 hpz
  go_enter Try.func10, Try.ntmps10
  go_wp2_with fail
  go_loop [7, 8, 9, 10] (fun t u l i => ∃ (k n q : Nat) (r : Int), k ≤ c.length ∧ i = .int .i64 k ∧ t = .int .i64 r ∧ u = .int .i64 n ∧ l = .int .i64 ((q : Int) - 1) ∧ 0 ≤ r ∧ r ≤ 274877906880 ∧ n ≤ 64 ∧ q ≤ 64 ∧ Hid (cumI c k = r ∧ std c k = n ∧ lp c k = q ∧ ∀ j, j < k → 0 ≤ c.getD j 0 ∧ c.getD j 0 ≤ 4294967295)) (fun _ _ _ i => c.length - (intOf i).toNat)
  case atStart => exact ⟨0, 0, 0, 0, Nat.zero_le _, rfl, rfl, rfl, rfl, by omega, by omega, by omega, by omega, rfl, rfl, rfl, fun j hj => by omega⟩
  case round =>
    obtain ⟨k, n, q, r, hk, rfl, rfl, rfl, rfl, hr0, hr1, hn, hq, hI⟩ := hrel
    by_cases hlt : k < c.length
    · obtain ⟨b, o, ha, hc⟩ : ∃ b o, a1 = some ⟨b, o, none⟩ ∧ ∀ i, i < c.length → w.cell? ⟨b, o + i, none⟩ = some (.int .i64 (c.getD i 0)) := by
        rcases C1.out with rfl | h
        · simp at hlt
        · exact h
      subst ha
      obtain ⟨x, hx⟩ : ∃ x, Hid (c.getD k 0 = x) := ⟨_, rfl⟩
      have cx : w.cell? ⟨b, o + k, none⟩ = some (.int .i64 x) := by rw [hc k hlt, hx.out]
      clear hc
      by_cases hb1 : x < 0
      · have HE : Hid (R = (1, [])) := HBAD.out (by unfold mayC; exact decide_eq_false (fun h => by have := h.2.2.2.1 k hlt; rw [hx.out] at this; omega))
        go_wp2_with fail
        go_ret2
        rw [HE.out]
        exact DPost.bad (Below.refl _ _)
      by_cases hb2 : 4294967295 < x
      · have HE : Hid (R = (1, [])) := HBAD.out (by unfold mayC; exact decide_eq_false (fun h => by have := h.2.2.2.1 k hlt; rw [hx.out] at this; omega))
        have hx0 : decide (x < 0) = false := by rw [decide_eq_false_iff_not]; omega
        go_wp2_with fail
        go_ret2
        rw [HE.out]
        exact DPost.bad (Below.refl _ _)
      have hx0 : decide (x < 0) = false := by rw [decide_eq_false_iff_not]; omega
      have hx1 : decide (4294967295 < x) = false := by rw [decide_eq_false_iff_not]; omega
      have HJ : Hid (∀ j, j < k + 1 → 0 ≤ c.getD j 0 ∧ c.getD j 0 ≤ 4294967295) := fun j hj => by
        by_cases e : j < k
        · exact hI.out.2.2.2 j e
        · obtain rfl : j = k := by omega
          rw [hx.out]; omega
      have HS : Hid (cumI c (k + 1) = r + x) := by show _ = _; simp only [cumI]; rw [hI.out.1, hx.out]
      have hrx : 0 ≤ r + x ∧ r + x ≤ 274877906880 := by
        have hbd : 0 ≤ cumI c (k + 1) ∧ cumI c (k + 1) ≤ 4294967295 * (k + 1 : Nat) := by
          have : ∀ m, m ≤ k + 1 → 0 ≤ cumI c m ∧ cumI c m ≤ 4294967295 * (m : Int) := by
            intro m
            induction m with
            | zero => intro _; simp [cumI]
            | succ m ih => intro hm; have h1 := ih (by omega); have h2 := HJ.out m (by omega); simp only [cumI]; push_cast; omega
          exact this (k + 1) (Nat.le_refl _)
        rw [HS.out] at hbd
        omega
      by_cases hp : 0 < x
      · have HI : Hid (std c (k + 1) = n + 1 ∧ lp c (k + 1) = k + 1) := ⟨by simp only [std]; rw [hI.out.2.1, hx.out, if_pos hp], by simp only [lp]; rw [hx.out, if_pos hp]⟩
        have hn2 : n + 1 ≤ 64 := by have := std_le c (k + 1); rw [HI.out.1] at this; omega
        clear hb1 hb2
        go_wp2_with fail
        go_round
        case rel => exact ⟨k + 1, n + 1, k + 1, r + x, by omega, by go_num, by first | rfl | go_num, by go_num, by go_num, hrx.1, hrx.2, hn2, by omega, HS.out, HI.out.1, HI.out.2, HJ.out⟩
        case measure => simp [intOf]; omega
      · have HI : Hid (std c (k + 1) = n ∧ lp c (k + 1) = q) := ⟨by simp only [std]; rw [hI.out.2.1, hx.out, if_neg hp]; rfl, by simp only [lp]; rw [hx.out, if_neg hp]; exact hI.out.2.2.1⟩
        clear hb1 hb2
        go_wp2_with fail
        go_round
        case rel => exact ⟨k + 1, n, q, r + x, by omega, by go_num, by first | rfl | go_num, rfl, rfl, hrx.1, hrx.2, hn, hq, HS.out, HI.out.1, HI.out.2, HJ.out⟩
        case measure => simp [intOf]; omega
    · obtain rfl : k = c.length := by omega
      by_cases hn0 : n = 0
      · have HE : Hid (R = (1, [])) := HBAD.out (by unfold mayC; exact decide_eq_false (fun h => by have := h.2.2.2.2.1; rw [hI.out.2.1] at this; omega))
        have g4 : ((n : Int) == 0) = true := by rw [beq_iff_eq]; omega
        clear hn0
        go_wp2_with fail
        go_ret2
        rw [HE.out]
        exact DPost.bad (Below.refl _ _)
      have g4 : ((n : Int) == 0) = false := by rw [beq_eq_false_iff_ne]; omega
      by_cases hn1 : z < 2 * n
      · have HE : Hid (R = (1, [])) := HBAD.out (by unfold mayC; exact decide_eq_false (fun h => by have := h.2.2.2.2.2; rw [hI.out.2.1, Int.toNat_natCast, hz.out] at this; omega))
        have hn1' : (z : Int) < 2 * (n : Int) := by omega
        clear hn0
        go_wp2_with fail
        go_ret2
        rw [HE.out]
        exact DPost.bad (Below.refl _ _)
      have g5 : decide ((z : Int) < 2 * (n : Int)) = false := by rw [decide_eq_false_iff_not]; omega
      have hm : mayC c lg = true := by
        unfold mayC
        rw [decide_eq_true_eq]
        refine ⟨by omega, by omega, hl64, hI.out.2.2.2, by rw [hI.out.2.1]; omega, by rw [hI.out.2.1, Int.toNat_natCast, hz.out]; omega⟩
      obtain ⟨lg', hlg', _, _, _, hsh, hok⟩ := ShOk.of hm
      obtain rfl : lg = lg' := by omega
      rw [HPZ.out, hI.out.1] at hsh hok
      obtain ⟨ps, hps⟩ : ∃ ps, Hid (por c z r c.length = ps) := ⟨_, rfl⟩
      rw [hps.out] at hsh hok
      have HRR : Hid (R = (0, fil ps z)) := by show R = _; rw [← hR.out]; exact hsh
      have HOK : Hid (ShOk c z r ps) := hok
      have hql : ps.length = q := by rw [← hps.out, lp_por z r hok.each, hI.out.2.2.1]
      have hq0 : 0 < q := by rw [← hql]; exact hok.len0
      have hqc : q ≤ c.length := by rw [← hql]; exact hok.len
      have HQL : Hid (ps.length = q) := hql
      have ha0 : 0 < r := hok.a0
      have HEACH : Hid (∀ j, j < c.length → 0 ≤ c.getD j 0 ∧ c.getD j 0 ≤ 4294967295) := hI.out.2.2.2
      obtain ⟨j0, hj, hy0, hy1, hy2⟩ := elem64.info
      have hqI : (q : Int) - 1 + 1 = (q : Int) := by omega
      clear hn0 hn1 hm hsh hok hql hI hlg' hlt hk
      go_wp2_with (at_make; refine wpList_make_full _ rfl (.tmp 68) (.tmp 68) 22 rfl 0 3 j0 _ 1 Try.underlying22 hj hy0 hy1 .i64 .i64 _ _ q rfl rfl (by first | rfl | omega) (by first | rfl | omega) (by rw [hy2]; omega) (by unfold maxLen; omega) (Nat.zero_le _) ?_)
      intro w2 ho2 hg2
      have b2 : Below w.heap.size w w2 := (Below.refl _ _).grown hg2 (Nat.le_refl _) (fun k e => by cases e)
      obtain ⟨g, hg⟩ : ∃ g, Hid (w.heap.size = g) := ⟨_, rfl⟩
      have hgw : w.heap.size ≤ g := by rw [hg.out]; exact Nat.le_refl _
      have OC2 : Hid (Owns .i64 3 w2 (.slice (some ⟨g, 0, none⟩) q q) (qs ps 0)) := by
        show w2.ownsRow _ _ _ _ _ _
        rw [toList_madeCells_one, hg.out] at ho2
        simp only [qs, List.length_replicate, List.map_replicate, HQL.out]
        simpa using ho2
      have B2 : Hid (Below w.heap.size w w2) := b2
      rw [hg.out]
      clear ho2 hg2 b2 hj hy0 hy1 hy2
      go_wp2_with fail
      go_loopw [12, 13] (fun t i wr => ∃ (k : Nat) (r2 : Int), k ≤ q ∧ i = .int .i64 k ∧ t = .int .i64 r2 ∧ 0 ≤ r2 ∧ r2 ≤ 274877906880 ∧ Hid (cumI ps k = r2) ∧ Hid (Owns .i64 3 wr (.slice (some ⟨g, 0, none⟩) q q) (qs ps k)) ∧ Hid (Below w.heap.size w wr)) (fun _ i _ => q - (intOf i).toNat)
      case atStart => exact ⟨0, 0, Nat.zero_le _, rfl, rfl, by omega, by omega, rfl, OC2, B2⟩
      case round =>
        clear OC2 B2
        obtain ⟨k, r2, hk, rfl, rfl, hr20, hr21, HS, OC, B3⟩ := hrel
        have hPB : ∀ i, 0 ≤ ps.getD i 0 ∧ ps.getD i 0 ≤ 512 := fun i => by
          have hx : ∀ x ∈ por c z r c.length, 0 ≤ x ∧ x ≤ 512 := por_bd (by omega) ha0 (fun i => by
            by_cases hi : i < c.length
            · rw [← HOK.out.tot]; exact cumI_le (fun j hj => (HEACH.out j hj).1) hi
            · rw [gout (by omega)]; omega) (fun i => HOK.out.each i) c.length
          rw [hps.out] at hx
          by_cases hi : i < ps.length
          · exact hx _ (by rw [List.getD_eq_getElem?_getD, List.getElem?_eq_getElem hi]; exact List.getElem_mem hi)
          · rw [gout (by omega)]; omega
        have HPB : Hid (∀ i, 0 ≤ ps.getD i 0 ∧ ps.getD i 0 ≤ 512) := hPB
        clear hPB
        by_cases hlt : k < q
        · obtain ⟨b, o, ha, hc⟩ : ∃ b o, a1 = some ⟨b, o, none⟩ ∧ ∀ i, i < c.length → w.cell? ⟨b, o + i, none⟩ = some (.int .i64 (c.getD i 0)) := by
            rcases C1.out with rfl | h
            · simp at hqc; omega
            · exact h
          subst ha
          obtain ⟨x, hx⟩ : ∃ x, Hid (c.getD k 0 = x) := ⟨_, rfl⟩
          have cx : wr.cell? ⟨b, o + k, none⟩ = some (.int .i64 x) := by
            have h0 := hc k (by omega)
            rw [B3.out.cell (p := ⟨b, o + k, none⟩) (World.block_lt_of_cell? w ⟨b, o + k, none⟩ h0), h0, hx.out]
          have hbg : b < g := by rw [← hg.out]; exact World.block_lt_of_cell? w ⟨b, o + k, none⟩ (hc k (by omega))
          clear hc
          have hxb := HEACH.out k (by omega)
          rw [hx.out] at hxb
          have hat := HOK.out.at_ k
          unfold pt at hat
          rw [hx.out] at hat
          by_cases hx0 : x = 0
          · have hxb0 : (x == 0) = true := by simp [hx0]
            rw [if_pos hx0] at hat
            have HQ : Hid (qs ps (k + 1) = qs ps k) := qs_skip ps k (by rw [HQL.out]; exact hlt) hat
            have HS2 : Hid (cumI ps (k + 1) = r2) := by show _ = _; simp only [cumI]; rw [HS.out, hat]; omega
            clear hx0 hat
            go_wp2_with fail
            go_roundw
            case rel => exact ⟨k + 1, r2, by omega, by go_num, rfl, hr20, hr21, HS2, by rw [HQ.out]; exact OC, B3⟩
            case measure => simp [intOf]; omega
          · have hxb0 : (x == 0) = false := by simp [hx0]
            rw [if_neg hx0] at hat
            have hq1 : 0 ≤ x * (z : Int) := Int.mul_nonneg hxb.1 (by omega)
            have hq2 : x * (z : Int) ≤ 4294967295 * 512 := Int.mul_le_mul hxb.2 (by omega) (by omega) (by omega)
            obtain ⟨m, hmm⟩ : ∃ m, Hid (x * z = m) := ⟨_, rfl⟩
            have hmI : x * (z : Int) = m := hmm.out
            rw [hmI] at hq1 hq2 hat
            obtain ⟨t, ht⟩ : ∃ t, Hid (m / r = t) := ⟨_, rfl⟩
            have ht1 : 0 ≤ t := by rw [← ht.out]; exact Int.ediv_nonneg hq1 (by omega)
            have ht2 : t ≤ m := by rw [← ht.out]; exact Int.ediv_le_self _ hq1
            have htI : m / r = t := ht.out
            rw [htI] at hat
            obtain ⟨_, _, e3, _, _, _, q3, f3⟩ := OC.out.shape (by rw [qs_length, HQL.out]; exact hq0)
            rw [qs_length, HQL.out] at e3
            cases e3
            have cc := q3 k (by rw [qs_length, HQL.out]; exact hlt)
            obtain ⟨y0, hy0⟩ : ∃ y0, (qs ps k).getD k 0 = y0 := ⟨_, rfl⟩
            rw [hy0] at cc
            have fc := f3 k
            clear q3 f3 hy0
            have hne : ¬ b = g := by omega
            have hi0 : (0 : Int) ≤ (k : Int) := by omega
            have hi1 : (k : Int) < (q : Int) := by omega
            have hsum : 0 ≤ cumI ps (k + 1) ∧ cumI ps (k + 1) ≤ 512 * ((k + 1 : Nat) : Int) := cumI_bd (M := 512) (by omega) (fun i _ => HPB.out i) (k + 1) (by rw [HQL.out]; omega)
            by_cases ht0 : t < 1
            · rw [Int.max_eq_left (by omega)] at hat
              have HS2 : Hid (cumI ps (k + 1) = r2 + 1) := by show _ = _; simp only [cumI]; rw [HS.out, hat]
              rw [HS2.out] at hsum
              have OC3 : Hid (Owns .i64 3 ((wr.setCell ⟨g, k, none⟩ (.int .i64 t)).setCell ⟨g, k, none⟩ (.int .i64 1)) (.slice (some ⟨g, 0, none⟩) q q) (qs ps (k + 1))) := by
                show Owns _ _ _ _ _
                have := (OC.out.set k t).set k 1
                rw [List.set_set] at this
                simp only [qs]
                rw [hat]
                exact this
              have B4 : Hid (Below w.heap.size w ((wr.setCell ⟨g, k, none⟩ (.int .i64 t)).setCell ⟨g, k, none⟩ (.int .i64 1))) := B3.out.trans ((Tch.setCell (Tch.setCell (Tch.refl (fun k => k = g) wr) (p := ⟨g, k, none⟩) (fun _ => rfl) _) (p := ⟨g, k, none⟩) (fun _ => rfl) _).below B3.out.size (fun j e => by rw [e]; exact hgw))
              clear hx0 hat OC hmm ht
              go_wp2_with fail
              go_roundw
              case rel => exact ⟨k + 1, r2 + 1, by omega, by go_num, by first | rfl | go_num, by omega, by omega, HS2, OC3, B4⟩
              case measure => simp [intOf]; omega
            · rw [Int.max_eq_right (by omega)] at hat
              have HS2 : Hid (cumI ps (k + 1) = r2 + t) := by show _ = _; simp only [cumI]; rw [HS.out, hat]
              rw [HS2.out] at hsum
              have OC3 : Hid (Owns .i64 3 (wr.setCell ⟨g, k, none⟩ (.int .i64 t)) (.slice (some ⟨g, 0, none⟩) q q) (qs ps (k + 1))) := by
                show Owns _ _ _ _ _
                have := OC.out.set k t
                simp only [qs]
                rw [hat]
                exact this
              have B4 : Hid (Below w.heap.size w (wr.setCell ⟨g, k, none⟩ (.int .i64 t))) := B3.out.trans ((Tch.setCell (Tch.refl (fun k => k = g) wr) (p := ⟨g, k, none⟩) (fun _ => rfl) _).below B3.out.size (fun j e => by rw [e]; exact hgw))
              clear hx0 hat OC hmm ht
              go_wp2_with fail
              go_roundw
              case rel => exact ⟨k + 1, r2 + t, by omega, by go_num, by first | rfl | go_num, by omega, by omega, HS2, OC3, B4⟩
              case measure => simp [intOf]; omega
        · obtain rfl : k = q := by omega
          obtain ⟨w1, hw1⟩ : ∃ w1, w1 = wr := ⟨_, rfl⟩
          subst hw1
          have B1 : Hid (Below w.heap.size w w1) := B3
          obtain ⟨xs, hxs⟩ : ∃ xs, Hid (ps = xs) := ⟨_, rfl⟩
          obtain ⟨len, hlenq⟩ : ∃ len, len = k := ⟨_, rfl⟩
          subst hlenq
          obtain ⟨cap, hcap⟩ : ∃ cap, Hid (len = cap) := ⟨_, rfl⟩
          have hlen : Hid (xs.length = len) := by show _ = _; rw [← hxs.out]; exact HQL.out
          have HB : Hid (∀ i, i < xs.length → 0 ≤ xs.getD i 0 ∧ xs.getD i 0 ≤ 4294967295) := fun i _ => by rw [← hxs.out]; have := HPB.out i; omega
          have HO : Hid (Owns .i64 3 w1 (.slice (some ⟨g, 0, none⟩) len len) xs) := by
            show Owns _ _ _ _ _
            have := OC.out
            have e : qs ps len = xs := by rw [← hxs.out, ← HQL.out]; exact qs_all ps
            rw [e] at this
            exact this
          obtain ⟨F, hF⟩ : ∃ F, Hid (fil ps z = F) := ⟨_, rfl⟩
          obtain ⟨A, hA⟩ : ∃ A, A = r2 := ⟨_, rfl⟩
          subst hA
          have HF : Hid (up ((z : Int) - A).toNat (dn (A - z).toNat xs) = F) := by
            show _ = _
            rw [← hF.out, ← hxs.out]
            unfold fil
            rw [HQL.out, HS.out]
          rw [hF.out] at HRR
          have hA2 : 0 ≤ A ∧ A ≤ 274877906880 := ⟨hr20, hr21⟩
          have h0 : 0 < len := hq0
          have h1 : len ≤ 64 := hq
          clear B3 OC HS HPB HOK HEACH C1 hcap hlt hk hqc
          go_wp2_with fail
          go_loopw [12] (fun t wr => ∃ (r : Int) (ys : List Int), t = .int .i64 r ∧ 0 ≤ r ∧ r ≤ 274877906880 ∧ Hid (ys.length = len) ∧ Hid (r ≤ A ∧ (r = A ∨ z ≤ r)) ∧ Hid (dn (r - z).toNat ys = dn (A - z).toNat xs) ∧ Hid (∀ i, i < len → -274877906880 ≤ ys.getD i 0 - r + A ∧ ys.getD i 0 ≤ 4294967295) ∧ Hid (Owns .i64 3 wr (.slice (some ⟨g, 0, none⟩) len len) ys) ∧ Hid (Tch (fun k => k = g) w1 wr)) (fun t _ => ((intOf t) - z).toNat)
          case atStart => exact ⟨A, xs, rfl, hA2.1, hA2.2, hlen, ⟨Int.le_refl _, .inl rfl⟩, rfl, fun i hi => by have := HB.out i (by rw [hlen.out]; exact hi); omega, HO, Tch.refl _ _⟩
          case round =>
            obtain ⟨r, ys, rfl, hr0, hr1, HL, HRA, HD, HBB, HO2, T⟩ := hrel
            obtain ⟨f, hf⟩ : ∃ f, Hid (fg ys len = f) := ⟨_, rfl⟩
            have hfl : f < len := by rw [← hf.out]; exact fg_lt _ _ h0
            obtain ⟨hxx, hcc, hfz⟩ := fill_cell HO2.out (by rw [HL.out]; exact h0)
            clear hxx
            rw [HL.out] at hcc
            obtain ⟨y, hy⟩ : ∃ y, Hid (ys.getD f 0 = y) := ⟨_, rfl⟩
            have cy : wr.cell? ⟨g, f, none⟩ = some (.int .i64 y) := by have := hcc f hfl; rw [Nat.zero_add] at this; rw [this, hy.out]
            have fy := hfz f
            have hgr := refGreatest_any g 0 len ys wr (by rw [HL.out]; exact h0) (by rw [HL.out]; exact h1) (by rw [HL.out]; exact hcc)
            rw [HL.out, hf.out] at hgr
            have HGR : Hid (Calls Try.prog 26 #[.slice (some ⟨g, 0, none⟩) len len] wr fun e w' => e = .returned (.int .i64 (f : Int)) ∧ Below wr.heap.size wr w') := hgr
            clear hgr
            have hyb := HBB.out f hfl
            rw [hy.out] at hyb
            clear hcc hfz
            by_cases hgt : (z : Int) < r
            · go_wp2_with fail
              refine HGR.out.mono ?_
              clear HGR cy fy
              rintro e w2 ⟨rfl, hb2⟩
              replace HO2 : Hid (Owns .i64 3 w2 (.slice (some ⟨g, 0, none⟩) len len) ys) := HO2.out.below hb2
              replace T : Hid (Tch (fun k => k = g) w1 w2) := T.out.trans (Tch.of_below (S := fun k => k = g) hb2) (fun _ _ h => h)
              obtain ⟨hxx, hcc, hfz⟩ := fill_cell HO2.out (by rw [HL.out]; exact h0)
              clear hxx hb2
              rw [HL.out] at hcc
              have cy : w2.cell? ⟨g, f, none⟩ = some (.int .i64 y) := by have := hcc f hfl; rw [Nat.zero_add] at this; rw [this, hy.out]
              have fy := hfz f
              clear hcc hfz
              have HO3 : Hid (Owns .i64 3 (w2.setCell ⟨g, f, none⟩ (.int .i64 (y - 1))) (.slice (some ⟨g, 0, none⟩) len len) (ys.set f (y - 1))) := HO2.out.set f (y - 1)
              have T3 : Hid (Tch (fun k => k = g) w1 (w2.setCell ⟨g, f, none⟩ (.int .i64 (y - 1)))) := Tch.setCell T.out (p := ⟨g, f, none⟩) (fun _ => rfl) _
              have HD3 : Hid (dn (r - 1 - z).toNat (ys.set f (y - 1)) = dn (A - z).toNat xs) := by
                show _ = _
                rw [← HD.out]
                have e : (r - z).toNat = (r - 1 - z).toNat + 1 := by omega
                rw [e]
                simp only [dn]
                rw [HL.out, hf.out, hy.out]
              have HL3 : Hid ((ys.set f (y - 1)).length = len) := by show _ = _; rw [List.length_set]; exact HL.out
              have HBB3 : Hid (∀ i, i < len → -274877906880 ≤ (ys.set f (y - 1)).getD i 0 - (r - 1) + A ∧ (ys.set f (y - 1)).getD i 0 ≤ 4294967295) := fun i hi => by
                have hb := HBB.out i hi
                rw [List.getD_eq_getElem?_getD, List.getElem?_set]
                by_cases e : f = i
                · subst e
                  rw [if_pos rfl, if_pos (by rw [HL.out]; exact hi)]
                  simp only [Option.getD_some]
                  omega
                · rw [if_neg e, ← List.getD_eq_getElem?_getD]
                  omega
              have hi0 : (0 : Int) ≤ (f : Int) := by omega
              have hi1 : (f : Int) < (len : Int) := by omega
              clear HO2 T HD HL HBB
              go_wp2_with fail
              go_roundw
              case rel => exact ⟨r - 1, _, by first | rfl | go_num, by omega, by omega, HL3, ⟨by have := HRA.out.1; omega, .inr (by omega)⟩, HD3, HBB3, HO3, T3⟩
              case measure => simp [intOf]; omega
            · have hle : r ≤ (z : Int) := by omega
              have HUP : Hid (up ((z : Int) - r).toNat ys = F) := by
                show _ = _
                have e0 : (r - (z : Int)).toNat = 0 := by omega
                have h2 := HD.out
                rw [e0] at h2
                simp only [dn] at h2
                rw [h2, ← HF.out]
                have e1 : ((z : Int) - r).toNat = ((z : Int) - A).toNat := by have := HRA.out; omega
                rw [e1]
              have HB2 : Hid (∀ i, i < len → -549755813760 ≤ ys.getD i 0 ∧ ys.getD i 0 ≤ 4294967295 + r) := fun i hi => by have := HBB.out i hi; have := HRA.out.1; omega
              clear HGR cy fy hyb HD HBB HRA HF hgt hf hy hfl
              go_wp2_with fail
              go_loopw [12] (fun t wr => ∃ (r : Int) (ys : List Int), t = .int .i64 r ∧ 0 ≤ r ∧ r ≤ (z : Int) ∧ Hid (ys.length = len) ∧ Hid (up ((z : Int) - r).toNat ys = F) ∧ Hid (∀ i, i < len → -549755813760 ≤ ys.getD i 0 ∧ ys.getD i 0 ≤ 4294967295 + r) ∧ Hid (Owns .i64 3 wr (.slice (some ⟨g, 0, none⟩) len len) ys) ∧ Hid (Tch (fun k => k = g) w1 wr)) (fun t _ => ((z : Int) - intOf t).toNat)
              case atStart => exact ⟨r, ys, rfl, hr0, hle, HL, HUP, HB2, HO2, T⟩
              case round =>
                clear HUP HB2 HO2 T HL hle hr0 hr1
                obtain ⟨r, ys, rfl, hr0, hr1, HL, HU, HBB, HO2, T⟩ := hrel
                obtain ⟨f, hf⟩ : ∃ f, Hid (fg ys len = f) := ⟨_, rfl⟩
                have hfl : f < len := by rw [← hf.out]; exact fg_lt _ _ h0
                obtain ⟨hxx, hcc, hfz⟩ := fill_cell HO2.out (by rw [HL.out]; exact h0)
                clear hxx
                rw [HL.out] at hcc
                obtain ⟨y, hy⟩ : ∃ y, Hid (ys.getD f 0 = y) := ⟨_, rfl⟩
                have cy : wr.cell? ⟨g, f, none⟩ = some (.int .i64 y) := by have := hcc f hfl; rw [Nat.zero_add] at this; rw [this, hy.out]
                have fy := hfz f
                have hgr := refGreatest_any g 0 len ys wr (by rw [HL.out]; exact h0) (by rw [HL.out]; exact h1) (by rw [HL.out]; exact hcc)
                rw [HL.out, hf.out] at hgr
                have HGR : Hid (Calls Try.prog 26 #[.slice (some ⟨g, 0, none⟩) len len] wr fun e w' => e = .returned (.int .i64 (f : Int)) ∧ Below wr.heap.size wr w') := hgr
                clear hgr
                have hyb := HBB.out f hfl
                rw [hy.out] at hyb
                clear hcc hfz
                by_cases hgt : r < (z : Int)
                · go_wp2_with fail
                  refine HGR.out.mono ?_
                  clear HGR cy fy
                  rintro e w2 ⟨rfl, hb2⟩
                  replace HO2 : Hid (Owns .i64 3 w2 (.slice (some ⟨g, 0, none⟩) len len) ys) := HO2.out.below hb2
                  replace T : Hid (Tch (fun k => k = g) w1 w2) := T.out.trans (Tch.of_below (S := fun k => k = g) hb2) (fun _ _ h => h)
                  obtain ⟨hxx, hcc, hfz⟩ := fill_cell HO2.out (by rw [HL.out]; exact h0)
                  clear hxx hb2
                  rw [HL.out] at hcc
                  have cy : w2.cell? ⟨g, f, none⟩ = some (.int .i64 y) := by have := hcc f hfl; rw [Nat.zero_add] at this; rw [this, hy.out]
                  have fy := hfz f
                  clear hcc hfz
                  have HO3 : Hid (Owns .i64 3 (w2.setCell ⟨g, f, none⟩ (.int .i64 (y + 1))) (.slice (some ⟨g, 0, none⟩) len len) (ys.set f (y + 1))) := HO2.out.set f (y + 1)
                  have T3 : Hid (Tch (fun k => k = g) w1 (w2.setCell ⟨g, f, none⟩ (.int .i64 (y + 1)))) := Tch.setCell T.out (p := ⟨g, f, none⟩) (fun _ => rfl) _
                  have HU3 : Hid (up ((z : Int) - (r + 1)).toNat (ys.set f (y + 1)) = F) := by
                    show _ = _
                    rw [← HU.out]
                    have e : ((z : Int) - r).toNat = ((z : Int) - (r + 1)).toNat + 1 := by omega
                    rw [e]
                    simp only [up]
                    rw [HL.out, hf.out, hy.out]
                  have HL3 : Hid ((ys.set f (y + 1)).length = len) := by show _ = _; rw [List.length_set]; exact HL.out
                  have HBB3 : Hid (∀ i, i < len → -549755813760 ≤ (ys.set f (y + 1)).getD i 0 ∧ (ys.set f (y + 1)).getD i 0 ≤ 4294967295 + (r + 1)) := fun i hi => by
                    have hb := HBB.out i hi
                    rw [List.getD_eq_getElem?_getD, List.getElem?_set]
                    by_cases e : f = i
                    · subst e
                      rw [if_pos rfl, if_pos (by rw [HL.out]; exact hi)]
                      simp only [Option.getD_some]
                      omega
                    · rw [if_neg e, ← List.getD_eq_getElem?_getD]
                      omega
                  have hi0 : (0 : Int) ≤ (f : Int) := by omega
                  have hi1 : (f : Int) < (len : Int) := by omega
                  clear HO2 T HU HL HBB
                  go_wp2_with fail
                  go_roundw
                  case rel => exact ⟨r + 1, _, by first | rfl | go_num, by omega, by omega, HL3, HU3, HBB3, HO3, T3⟩
                  case measure => simp [intOf]; omega
                · obtain rfl : r = (z : Int) := by omega
                  have HE : Hid (ys = F) := by show _ = _; rw [← HU.out]; simp [up]
                  clear HGR cy fy hyb
                  have BF : Hid (Below w.heap.size w wr) := B1.out.trans (T.out.below B1.out.size (fun k e => by rw [e]; exact hgw))
                  go_wp2_with fail
                  go_ret2
                  rw [HRR.out]
                  exact ⟨_, rfl, BF.out, fun k hk => by cases hk; exact hgw, by show Owns _ _ _ _ _; have := HO2.out; rw [HE.out] at this; exact this⟩
end Go.Proofs.Ytkiejjnnjjdfjaa
