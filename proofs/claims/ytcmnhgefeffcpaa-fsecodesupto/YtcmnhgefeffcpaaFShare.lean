/-
  What Share answers.
-/
import Derived.Test.YtcmnhgefeffcpaaFFill
import Derived.Test.YtcmnhgefeffcpaaFDec2
namespace Go.Proofs.Ytcmnhgefeffcpaa
open Go.RowKit Pl
set_option linter.unusedVariables false

theorem std_pos (c : List Int) : ∀ k, 0 < std c k → ∃ i, i < k ∧ 0 < c.getD i 0
  | 0, h => by simp [std] at h
  | k + 1, h => by
    by_cases e : 0 < c.getD k 0
    · exact ⟨k, by omega, e⟩
    · simp only [std] at h
      rw [if_neg e] at h
      obtain ⟨i, h1, h2⟩ := std_pos c k (by omega)
      exact ⟨i, by omega, h2⟩

theorem por_pos (c : List Int) (z all : Int) : ∀ k, 0 < std c k → 0 < (por c z all k).length
  | 0, h => by simp [std] at h
  | k + 1, h => by
    simp only [por]
    by_cases e : c.getD k 0 = 0
    · rw [if_pos e]
      simp only [std] at h
      rw [e] at h
      exact por_pos c z all k (by simpa using h)
    · rw [if_neg e]
      simp
      omega

theorem por_bd {c : List Int} {z all : Int} (hz : 1 ≤ z ∧ z ≤ 512) (ha : 0 < all) (hc : ∀ i, c.getD i 0 ≤ all) (hc0 : ∀ i, 0 ≤ c.getD i 0) : ∀ k, ∀ x ∈ por c z all k, 0 ≤ x ∧ x ≤ 512
  | 0, x, hx => by simp [por] at hx
  | k + 1, x, hx => by
    simp only [por] at hx
    split at hx
    · exact por_bd hz ha hc hc0 k x hx
    · rcases List.mem_append.1 hx with h | h
      · rcases List.mem_append.1 h with h | h
        · exact por_bd hz ha hc hc0 k x h
        · rw [List.eq_of_mem_replicate h]; omega
      · simp only [List.mem_singleton] at h
        have h1 : c.getD k 0 * z / all ≤ z := by
          refine Int.ediv_le_of_le_mul ha ?_
          rw [Int.mul_comm z all]
          exact Int.mul_le_mul_of_nonneg_right (hc k) (by omega)
        rw [h]
        omega

/-- Share's word and list. -/
def shR (c : List Int) (log : Int) : Int × List Int :=
  if mayCF c log = false then (1, []) else (0, fil (por c (2 ^ log.toNat) (cumI c c.length) c.length) (2 ^ log.toNat))

set_option maxHeartbeats 2000000 in
theorem share_any (v : Value) (c : List Int) (log : Int) (w : World) (h : Rd .i64 w v c) :
    Calls Try.prog 39 #[v, .int .i64 log] w fun e w' => DPostF (shR c log) w e w' := by
  have HR : Hid (Rd .i64 w v c) := h
  clear h
  obtain ⟨R, hR⟩ : ∃ R, Hid (shR c log = R) := ⟨_, rfl⟩
  rw [hR.out]
  cases hm : mayCF c log with
  | false =>
    have HM : Hid (mayCF c log = false) := hm
    have HE : Hid (R = (1, [])) := by show R = _; rw [← hR.out]; unfold shR; rw [if_pos hm]
    clear hm
    go_enter Try.func39, Try.ntmps39
    go_wp2_with fail
    refine (mayShare_rd v c log w HR.out).mono ?_
    rintro e w1 ⟨rfl, rfl⟩
    rw [HM.out]
    go_wp2_with fail
    go_ret2
    rw [HE.out]
    exact DPostF.bad (Below.refl _ _)
  | true =>
    have HM : Hid (mayCF c log = true) := hm
    have hmf : ¬ mayCF c log = false := by rw [hm]; simp
    have hm2 := hm
    unfold mayCF at hm2
    rw [decide_eq_true_eq] at hm2
    obtain ⟨g1, g2, g3, g4, g5, g6⟩ := hm2
    obtain ⟨lg, rfl⟩ := Int.eq_ofNat_of_zero_le (show 0 ≤ log by omega)
    obtain ⟨z, hz, hz1, hz2, hpw, hpz⟩ := pow_z (lg := lg) (by omega) (by omega)
    have HPZ : Hid ((2 : Int) ^ lg = (z : Int)) := hpz
    have HG4 : Hid (∀ i, i < c.length → 0 ≤ c.getD i 0 ∧ c.getD i 0 ≤ 4294967295) := g4
    have hc0 : ∀ i, 0 ≤ c.getD i 0 := fun i => by
      by_cases hi : i < c.length
      · exact (g4 i hi).1
      · simp [List.getD_eq_getElem?_getD, List.getElem?_eq_none (by omega : c.length ≤ i)]
    have hcb := cumI_bd (M := 4294967295) (by omega) g4 c.length (Nat.le_refl _)
    have hcall : ∀ i, c.getD i 0 ≤ cumI c c.length := fun i => by
      by_cases hi : i < c.length
      · exact cumI_le (fun j hj => (g4 j hj).1) hi
      · have : c.getD i 0 = 0 := by simp [List.getD_eq_getElem?_getD, List.getElem?_eq_none (by omega : c.length ≤ i)]
        omega
    have hall : 0 < cumI c c.length := by
      obtain ⟨i, h1, h2⟩ := std_pos c c.length g5
      have := hcall i
      omega
    obtain ⟨ps, hps⟩ : ∃ ps, Hid (por c z (cumI c c.length) c.length = ps) := ⟨_, rfl⟩
    have hp1 : 0 < ps.length := by rw [← hps.out]; exact por_pos c z _ _ g5
    have hp2 : ps.length ≤ 64 := by rw [← hps.out]; have := por_len c z (cumI c c.length) c.length; omega
    have HPB : Hid (∀ i, i < ps.length → 0 ≤ ps.getD i 0 ∧ ps.getD i 0 ≤ 4294967295) := fun i hi => by
      have hx : ps.getD i 0 ∈ por c z (cumI c c.length) c.length := by
        rw [hps.out, List.getD_eq_getElem?_getD, List.getElem?_eq_getElem hi]
        exact List.getElem_mem hi
      have := por_bd (by omega) hall hcall hc0 c.length _ hx
      omega
    have HE : Hid (R = (0, fil ps z)) := by
      show R = _
      rw [← hR.out]
      unfold shR
      rw [if_neg hmf]
      simp only [Int.toNat_natCast]
      rw [HPZ.out, hps.out]
    have HALL : Hid (0 < cumI c c.length) := hall
    obtain ⟨cb, co, cc, hv, hcc⟩ : ∃ b o cap, v = .slice (some ⟨b, o, none⟩) c.length cap ∧ ∀ i, i < c.length → w.cell? ⟨b, o + i, none⟩ = some (.int .i64 (c.getD i 0)) := by
      obtain ⟨a, cap, e, _, _, _, h⟩ := HR.out
      rcases h with h | ⟨b, o, rfl, hc⟩
      · rw [h] at g5; simp [std] at g5
      · exact ⟨b, o, cap, e, hc⟩
    subst hv
    have HCC : Hid (∀ i, i < c.length → w.cell? ⟨cb, co + i, none⟩ = some (.int .i64 (c.getD i 0))) := hcc
    clear hm hmf g4 g5 g6 hc0 hcb hcall hall hcc hpz
    go_enter Try.func39, Try.ntmps39
    go_wp2_with fail
    refine (mayShare_rd _ c lg w HR.out).mono ?_
    rintro e w1 ⟨rfl, rfl⟩
    rw [HM.out]
    go_wp2_with fail
    refine (portions_any cb co cc c z w1 g3 hz2 HG4.out HALL.out HCC.out).mono ?_
    rintro e w2 ⟨v2, rfl, ho2, hg2⟩
    rw [hps.out] at ho2
    obtain ⟨pg, pc, hv2, _, _, _, _, _⟩ := ho2.shape hp1
    subst hv2
    have O2 : Hid (Owns .i64 3 w2 (.slice (some ⟨pg, 0, none⟩) ps.length pc) ps) := ho2
    obtain ⟨b2, f2⟩ := hg2.below
    have B2 : Hid (Below w1.heap.size w1 w2) := b2
    have F2 : Hid (w1.heap.size ≤ pg) := f2 pg rfl
    clear ho2 hg2 b2 f2
    obtain ⟨pl, hpl⟩ : ∃ pl, Hid (ps.length = pl) := ⟨_, rfl⟩
    have hfill := fill_any pg pc ps z w2 O2.out hp1 hp2 hz2 HPB.out
    have HFL : Hid (Calls Try.prog 64 #[.slice (some ⟨pg, 0, none⟩) ps.length pc, .int .i64 z] w2 fun e w' => (∃ v, e = .returned v) ∧ Owns .i64 3 w' (.slice (some ⟨pg, 0, none⟩) ps.length pc) (fil ps z) ∧ Tch (fun k => k = pg) w2 w') := hfill
    clear hfill
    go_wp2_with fail
    refine HFL.out.mono ?_
    rintro e w3 ⟨⟨v3, rfl⟩, ho3, ht3⟩
    have O3 : Hid (Owns .i64 3 w3 (.slice (some ⟨pg, 0, none⟩) ps.length pc) (fil ps z)) := ho3
    have B3 : Hid (Below w1.heap.size w1 w3) := B2.out.trans (ht3.below B2.out.size (fun k e => by rw [e]; exact F2.out))
    clear ho3 ht3 HFL
    go_wp2_with fail
    go_ret2
    rw [HE.out]
    exact ⟨_, rfl, B3.out, fun k hk => by cases hk; exact F2.out, O3.out⟩
end Go.Proofs.Ytcmnhgefeffcpaa
