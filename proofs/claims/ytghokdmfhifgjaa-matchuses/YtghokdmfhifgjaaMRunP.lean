/-
  Steps done, and literals told, plainly; and whether a step may be run.
-/
import Derived.Test.YtghokdmfhifgjaaMSeq
import Derived.Test.YtghokdmfhifgjaaMCut
namespace Go.Proofs.Ytghokdmfhifgjaa
open Go.RowKit Pl
set_option linter.unusedVariables false

/-- A step's numbers may be: so many literals are left, so many bytes are there. -/
def okS (x : Sq) (left there : Nat) : Bool := decide (0 ≤ x.1 ∧ x.1 ≤ left ∧ 0 ≤ x.2.1 ∧ (x.2.1 = 0 → x.2.2 = 0) ∧ (0 < x.2.1 → 1 ≤ x.2.2 ∧ x.2.2 ≤ (there : Int) + x.1))

/-- So many bytes, each the one that stands d ahead of it. -/
def cpy (d : Nat) : Nat → List Int → List Int
  | 0, o => o
  | n + 1, o => cpy d n (o ++ [o.getD (o.length - d) 0])

theorem cpy_snoc (d : Nat) : ∀ n o, cpy d (n + 1) o = cpy d n o ++ [(cpy d n o).getD ((cpy d n o).length - d) 0]
  | 0, o => rfl
  | n + 1, o => by
    have := cpy_snoc d n (o ++ [o.getD (o.length - d) 0])
    rw [show cpy d (n + 1 + 1) o = cpy d (n + 1) (o ++ [o.getD (o.length - d) 0]) from rfl, this]
    rfl

theorem cpy_len (d : Nat) : ∀ n o, (cpy d n o).length = o.length + n
  | 0, o => rfl
  | n + 1, o => by rw [show cpy d (n + 1) o = cpy d n (o ++ [o.getD (o.length - d) 0]) from rfl, cpy_len d n]; simp; omega

/-- Behind k steps: a word, or the place among the literals and the bytes. -/
def rs (ls : List Int) (ps : List Sq) (most : Int) : Nat → Int × Nat × List Int
  | 0 => (0, 0, [])
  | k + 1 =>
    if (rs ls ps most k).1 ≠ 0 then rs ls ps most k
    else if okS (ps.getD k sq0) (ls.length - (rs ls ps most k).2.1) (rs ls ps most k).2.2.length = false then (5, 0, [])
    else if most < ((rs ls ps most k).2.2.length : Int) + (ps.getD k sq0).1 ∨ most - ((rs ls ps most k).2.2.length : Int) - (ps.getD k sq0).1 < (ps.getD k sq0).2.1 then (11, 0, [])
    else (0, (rs ls ps most k).2.1 + (ps.getD k sq0).1.toNat, cpy (ps.getD k sq0).2.2.toNat (ps.getD k sq0).2.1.toNat ((rs ls ps most k).2.2 ++ (ls.drop (rs ls ps most k).2.1).take (ps.getD k sq0).1.toNat))

def runR (ls : List Int) (ps : List Sq) (most : Int) : Int × List Int :=
  if most < 0 ∨ 65536 < most then (1, [])
  else if (rs ls ps most ps.length).1 ≠ 0 then ((rs ls ps most ps.length).1, [])
  else if most - ((rs ls ps most ps.length).2.2.length : Int) < (ls.length : Int) - ((rs ls ps most ps.length).2.1 : Int) then (11, [])
  else (0, (rs ls ps most ps.length).2.2 ++ ls.drop (rs ls ps most ps.length).2.1)

theorem rs_stop {ls : List Int} {ps : List Sq} {most : Int} {k n : Nat} (h : (rs ls ps most k).1 ≠ 0) (hkn : k ≤ n) : rs ls ps most n = rs ls ps most k := by
  induction n with
  | zero => obtain rfl : k = 0 := by omega
            rfl
  | succ n ih =>
    by_cases e : k = n + 1
    · rw [e]
    · have := ih (by omega)
      simp only [rs]
      rw [this, if_pos h]

theorem runR_err {ls : List Int} {ps : List Sq} {most : Int} {k : Nat} {E : Int} (hm : ¬ (most < 0 ∨ 65536 < most)) (hk : k < ps.length) (hE : E ≠ 0) (h : rs ls ps most (k + 1) = (E, 0, [])) : runR ls ps most = (E, []) := by
  have h1 : (rs ls ps most (k + 1)).1 ≠ 0 := by rw [h]; exact hE
  unfold runR
  rw [if_neg hm, rs_stop h1 hk, if_pos h1, h]

theorem rs_bd {ls : List Int} {ps : List Sq} {most : Int} : ∀ k, (rs ls ps most k).2.1 ≤ ls.length ∧ ((rs ls ps most k).2.2.length : Int) ≤ max most 0
  | 0 => by simp [rs]; omega
  | k + 1 => by
    have ih := @rs_bd ls ps most k
    simp only [rs]
    split
    · exact ih
    · split
      · simp; omega
      · rename_i h1 h2
        split
        · simp; omega
        · rename_i h3
          have h4 : okS (ps.getD k sq0) (ls.length - (rs ls ps most k).2.1) (rs ls ps most k).2.2.length = true := by cases e : okS (ps.getD k sq0) (ls.length - (rs ls ps most k).2.1) (rs ls ps most k).2.2.length with | true => rfl | false => exact absurd e h2
          unfold okS at h4
          rw [decide_eq_true_eq] at h4
          obtain ⟨a1, a2, a3, _, _⟩ := h4
          refine ⟨by simp only; omega, ?_⟩
          simp only
          rw [cpy_len, List.length_append, List.length_take, List.length_drop]
          omega

/-- Behind k steps: the place and the bytes that stand as they are, or none. -/
def lt_ (ds : List Int) (ps : List Sq) : Nat → Option (Nat × List Int)
  | 0 => some (0, [])
  | k + 1 => match lt_ ds ps k with
    | none => none
    | some t => if (ps.getD k sq0).1 < 0 ∨ (ps.getD k sq0).2.1 < 0 ∨ (ps.getD k sq0).2.2 < 0 ∨ (ds.length : Int) - (t.1 : Int) < (ps.getD k sq0).1 ∨ (ds.length : Int) - (t.1 : Int) - (ps.getD k sq0).1 < (ps.getD k sq0).2.1 then none
      else some (t.1 + (ps.getD k sq0).1.toNat + (ps.getD k sq0).2.1.toNat, t.2 ++ (ds.drop t.1).take (ps.getD k sq0).1.toNat)

def litR (ds : List Int) (ps : List Sq) : Int × List Int := match lt_ ds ps ps.length with
  | none => (5, [])
  | some t => (0, t.2 ++ ds.drop t.1)

theorem lt_stop {ds : List Int} {ps : List Sq} {k n : Nat} (h : lt_ ds ps k = none) (hkn : k ≤ n) : lt_ ds ps n = none := by
  induction n with
  | zero => obtain rfl : k = 0 := by omega
            exact h
  | succ n ih =>
    by_cases e : k = n + 1
    · rw [← e]; exact h
    · simp only [lt_]
      rw [ih (by omega)]

theorem lt_bd {ds : List Int} {ps : List Sq} : ∀ {k : Nat} {t : Nat × List Int}, lt_ ds ps k = some t → t.1 ≤ ds.length ∧ t.2.length ≤ t.1
  | 0, t, h => by simp [lt_] at h; subst h; simp
  | k + 1, t, h => by
    simp only [lt_] at h
    split at h
    · cases h
    · rename_i u hu
      split at h
      · cases h
      · rename_i hn
        have ih := lt_bd hu
        simp only [Option.some.injEq] at h
        subst h
        simp only [List.length_append, List.length_take, List.length_drop]
        omega

set_option maxHeartbeats 1000000 in
theorem mayRun_any (x y z : Int) (left there : Nat) (w : World) (hl : left ≤ 140737488355328) (ht : there ≤ 65536) :
    Calls Try.prog 21 #[.agg #[.int .i64 x, .int .i64 y, .int .i64 z], .int .i64 left, .int .i64 there] w fun e w' => e = .returned (.bool (okS (x, y, z) left there)) ∧ Below w.heap.size w w' := by
  obtain ⟨R, hR⟩ : ∃ R, Hid (okS (x, y, z) left there = R) := ⟨_, rfl⟩
  rw [hR.out]
  have HRR : Hid (R = decide (0 ≤ x ∧ x ≤ left ∧ 0 ≤ y ∧ (y = 0 → z = 0) ∧ (0 < y → 1 ≤ z ∧ z ≤ (there : Int) + x))) := by show R = _; rw [← hR.out]; rfl
  have HBL : Hid (Below w.heap.size w (w.alloc (.cells #[.int .i64 x, .int .i64 y, .int .i64 z] 37))) := (Below.refl _ _).alloc (Nat.le_refl _) _
  by_cases h1 : x < 0
  · have HE : Hid (R = false) := by show R = _; rw [HRR.out]; exact decide_eq_false (by omega)
    go_enter Try.func21, Try.ntmps21
    go_wp2_with fail
    go_ret
    exact ⟨by rw [HE.out]; rfl, HBL.out⟩
  have g1 : decide (x < 0) = false := by rw [decide_eq_false_iff_not]; omega
  by_cases h2 : (left : Int) < x
  · have HE : Hid (R = false) := by show R = _; rw [HRR.out]; exact decide_eq_false (by omega)
    go_enter Try.func21, Try.ntmps21
    go_wp2_with fail
    go_ret
    exact ⟨by rw [HE.out]; rfl, HBL.out⟩
  have g2 : decide ((left : Int) < x) = false := by rw [decide_eq_false_iff_not]; omega
  by_cases h3 : y < 0
  · have HE : Hid (R = false) := by show R = _; rw [HRR.out]; exact decide_eq_false (by omega)
    go_enter Try.func21, Try.ntmps21
    go_wp2_with fail
    go_ret
    exact ⟨by rw [HE.out]; rfl, HBL.out⟩
  have g3 : decide (y < 0) = false := by rw [decide_eq_false_iff_not]; omega
  by_cases h4 : y = 0
  · have g4 : (y == 0) = true := by simp [h4]
    have HE : Hid (R = (z == 0)) := by
      show R = _
      rw [HRR.out, Bool.eq_iff_iff, decide_eq_true_eq, beq_iff_eq]
      constructor
      · intro h; exact h.2.2.2.1 h4
      · intro h; exact ⟨by omega, by omega, by omega, fun _ => h, by omega⟩
    clear h1 h2 h3 h4
    go_enter Try.func21, Try.ntmps21
    go_wp2_with fail
    go_ret
    exact ⟨by rw [HE.out]; rfl, HBL.out⟩
  have g4 : (y == 0) = false := by simp [h4]
  by_cases h5 : 1 ≤ z
  · have HE : Hid (R = decide (z ≤ (there : Int) + x)) := by
      show R = _
      rw [HRR.out, decide_eq_decide]
      constructor
      · intro h; exact (h.2.2.2.2 (by omega)).2
      · intro h; exact ⟨by omega, by omega, by omega, fun e => absurd e h4, fun _ => ⟨h5, h⟩⟩
    have hx0 : 0 ≤ x := by omega
    have hx1 : x ≤ (left : Int) := by omega
    clear h1 h2 h3 h4
    go_enter Try.func21, Try.ntmps21
    go_wp2_with fail
    go_ret
    exact ⟨by rw [HE.out]; rfl, HBL.out⟩
  · have g5 : decide (1 ≤ z) = false := by rw [decide_eq_false_iff_not]; omega
    have HE : Hid (R = false) := by show R = _; rw [HRR.out]; exact decide_eq_false (by omega)
    clear h1 h2 h3 h4
    go_enter Try.func21, Try.ntmps21
    go_wp2_with fail
    go_ret
    exact ⟨by rw [HE.out]; rfl, HBL.out⟩
end Go.Proofs.Ytghokdmfhifgjaa
