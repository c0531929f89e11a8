/-
  The document's least thing: the place of the first that is less than all ahead and no greater than those behind.
-/
import Derived.Test.YtcmnhgefeffcpaaHeapP
import Derived.Test.YtcmnhgefeffcpaaRow
import Derived.Test.YtcmnhgefeffcpaaE64
namespace Go.Proofs.Ytcmnhgefeffcpaa
open Go.RowKit Pl Hf
set_option linter.unusedVariables false

/-- The place of the least of the first k + 1. -/
def lst (ps : List (Int × Int)) : Nat → Nat
  | 0 => 0
  | k + 1 => if ltB (G ps (k + 1)) (G ps (lst ps k)) then k + 1 else lst ps k

theorem lst_le (ps : List (Int × Int)) (k : Nat) : lst ps k ≤ k := by
  induction k with
  | zero => exact Nat.le_refl _
  | succ k ih => simp only [lst]; split <;> omega

theorem lst_least (ps : List (Int × Int)) (k : Nat) : ∀ i, i ≤ k → leP (G ps (lst ps k)) (G ps i) := by
  induction k with
  | zero => intro i hi; obtain rfl : i = 0 := by omega
            exact leP_refl _
  | succ k ih =>
    intro i hi
    simp only [lst]
    split
    · rename_i h
      by_cases e : i = k + 1
      · subst e; exact leP_refl _
      · exact leP_trans (leP_of_lt (ltB_iff.1 h)) (ih i (by omega))
    · rename_i h
      by_cases e : i = k + 1
      · subst e
        exact ltB_false.1 (by simpa using h)
      · exact ih i (by omega)

set_option maxRecDepth 100000 in
set_option maxHeartbeats 1000000 in
theorem least_any (b o cap : Nat) (ps : List (Int × Int)) (w : World) (h1 : 1 ≤ ps.length) (h2 : ps.length ≤ 100000)
    (hc : ∀ i, i < ps.length → w.cell? ⟨b, o + i * 3, none⟩ = some (.int .i64 (G ps i).1) ∧ w.cell? ⟨b, o + i * 3 + 1, none⟩ = some (.int .i64 (G ps i).2)) :
    Calls Try.prog 41 #[.slice (some ⟨b, o, none⟩) ps.length cap] w fun e w' => e = .returned (.int .i64 (lst ps (ps.length - 1))) ∧ Tch (fun _ => False) w w' := by
  have HC : Hid (∀ i, i < ps.length → w.cell? ⟨b, o + i * 3, none⟩ = some (.int .i64 (G ps i).1) ∧ w.cell? ⟨b, o + i * 3 + 1, none⟩ = some (.int .i64 (G ps i).2)) := hc
  clear hc
  go_enter Try.func41, Try.ntmps41
  go_wp2_with fail
  go_loopw [3, 4] (fun a i wr => ∃ k : Nat, k < ps.length ∧ i = .int .i64 ((k : Int) + 1) ∧ a = .int .i64 (lst ps k) ∧ Hid (Tch (fun _ => False) w wr)) (fun _ i _ => ps.length - (intOf i).toNat)
  case atStart => exact ⟨0, by omega, rfl, rfl, Tch.refl _ _⟩
  case round =>
    obtain ⟨k, hk, rfl, rfl, T⟩ := hrel
    by_cases hlt : k + 1 < ps.length
    · obtain ⟨a, ha⟩ : ∃ a, Hid (lst ps k = a) := ⟨_, rfl⟩
      have hal := lst_le ps k
      rw [ha.out] at hal ⊢
      obtain ⟨x1, x2, hx⟩ : ∃ x1 x2, G ps (k + 1) = (x1, x2) := ⟨_, _, rfl⟩
      obtain ⟨y1, y2, hy⟩ : ∃ y1 y2, G ps a = (y1, y2) := ⟨_, _, rfl⟩
      obtain ⟨c0, c1⟩ := HC.out (k + 1) hlt
      obtain ⟨d0, d1⟩ := HC.out a (by omega)
      rw [hx] at c0 c1
      rw [hy] at d0 d1
      simp only at c0 c1 d0 d1
      have g : ∀ p : Addr, ∀ v, w.cell? p = some v → wr.cell? p = some v := fun p v hv => by rw [T.out.cell (World.block_lt_of_cell? w p hv) (fun e => e)]; exact hv
      have C0 := g _ _ c0
      have C1 := g _ _ c1
      have D0 := g _ _ d0
      have D1 := g _ _ d1
      clear g c0 c1 d0 d1
      have i1 : (k : Int) + 1 = ((k + 1 : Nat) : Int) := by omega
      have HL : Hid (lst ps (k + 1) = if ltB (x1, x2) (y1, y2) then k + 1 else a) := by show _ = _; simp only [lst]; rw [ha.out, hx, hy]
      rw [i1]
      have hl1 : ((k + 1 : Nat) : Int) < (ps.length : Int) := by omega
      obtain ⟨m, hm⟩ : ∃ m, k + 1 = m := ⟨_, rfl⟩
      rw [hm] at C0 C1 hl1 ⊢
      clear i1 hx hy
      by_cases hlt1 : x1 < y1
      · have HN : Hid (lst ps (k + 1) = m) := by show _ = _; rw [HL.out, if_pos (ltB_iff.2 (by unfold ltP; simp only; omega))]; exact hm
        go_wp2_with fail
        go_quiet (fail)
        go_wp2_with fail
        go_roundw
        case rel => exact ⟨k + 1, by omega, by go_num, by rw [HN.out], T.out.trans (S' := fun _ => False) ⟨rfl, rfl, rfl, Nat.le_refl _, fun _ _ _ => rfl⟩ (fun _ _ e => e)⟩
        case measure => simp [intOf]; omega
      · have q1 : decide (x1 < y1) = false := by rw [decide_eq_false_iff_not]; exact hlt1
        by_cases he : x1 = y1
        · have q2 : (x1 == y1) = true := by simp [he]
          by_cases hlt2 : x2 < y2
          · have HN : Hid (lst ps (k + 1) = m) := by show _ = _; rw [HL.out, if_pos (ltB_iff.2 (by unfold ltP; simp only; omega))]; exact hm
            clear he hlt1
            go_wp2_with fail
            go_quiet (fail)
            go_wp2_with fail
            go_roundw
            case rel => exact ⟨k + 1, by omega, by go_num, by rw [HN.out], T.out.trans (S' := fun _ => False) ⟨rfl, rfl, rfl, Nat.le_refl _, fun _ _ _ => rfl⟩ (fun _ _ e => e)⟩
            case measure => simp [intOf]; omega
          · have HN : Hid (lst ps (k + 1) = a) := by show _ = _; rw [HL.out, if_neg (by rw [ltB_iff]; unfold ltP; simp only; omega)]
            have q3 : decide (x2 < y2) = false := by rw [decide_eq_false_iff_not]; exact hlt2
            clear he hlt1 hlt2
            go_wp2_with fail
            go_quiet (fail)
            go_wp2_with fail
            go_roundw
            case rel => exact ⟨k + 1, by omega, by go_num, by rw [HN.out], T.out.trans (S' := fun _ => False) ⟨rfl, rfl, rfl, Nat.le_refl _, fun _ _ _ => rfl⟩ (fun _ _ e => e)⟩
            case measure => simp [intOf]; omega
        · have q2 : (x1 == y1) = false := by simp [he]
          have HN : Hid (lst ps (k + 1) = a) := by show _ = _; rw [HL.out, if_neg (by rw [ltB_iff]; unfold ltP; simp only; omega)]
          clear he hlt1
          go_wp2_with fail
          go_quiet (fail)
          go_wp2_with fail
          go_roundw
          case rel => exact ⟨k + 1, by omega, by go_num, by rw [HN.out], T.out.trans (S' := fun _ => False) ⟨rfl, rfl, rfl, Nat.le_refl _, fun _ _ _ => rfl⟩ (fun _ _ e => e)⟩
          case measure => simp [intOf]; omega
    · have hk1 : ps.length - 1 = k := by omega
      have HK1 : Hid (ps.length - 1 = k) := hk1
      clear hk1
      have hl1 : ¬ (k : Int) + 1 < (ps.length : Int) := by omega
      go_wp2_with fail
      go_ret
      exact ⟨by rw [HK1.out]; rfl, T.out⟩
end Go.Proofs.Ytcmnhgefeffcpaa
