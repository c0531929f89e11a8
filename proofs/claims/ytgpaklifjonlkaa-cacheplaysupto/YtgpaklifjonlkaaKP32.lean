import Derived.Test.YtgpaklifjonlkaaKP03
import Derived.Deep.QuietTactic
/-
  Rows that are the same are the same.
-/
namespace Go.Proofs.Ytgpaklifjonlkaa
open Go.RowKit
set_option linter.unusedVariables false
set_option linter.unusedSimpArgs false
set_option maxRecDepth 100000

/-- Rows that are the same are the same. -/
theorem same_all (u v : Value) (xs : List Int) (w : World) (hu : Rd .u8 w u xs) (hv : Rd .u8 w v xs) : Calls Try.prog 51 #[u, v] w fun e w' => e = .returned (.bool true) ∧ Below w.heap.size w w' := by
  obtain ⟨a, ca, rfl, ha1, ha2, _, ha⟩ := hu
  obtain ⟨b, cb, rfl, hb1, hb2, _, hb⟩ := hv
  have h63 : xs.length ≤ 9223372036854775807 := by unfold maxLen at ha2; omega
  by_cases h0 : xs = []
  · subst h0
    simp only [List.length_nil]
    clear ha hb ha1 hb1 ha2 hb2 h63
    go_enter Try.func51, Try.ntmps51
    go_wp2
    go_loopw [5] (fun i wr => i = .int .i64 0 ∧ Below w.heap.size w wr) (fun _ _ => 0)
    case atStart => exact ⟨rfl, Below.refl _ _⟩
    case round =>
      obtain ⟨rfl, hB⟩ := hrel
      go_wp2
      go_ret
      exact ⟨rfl, hB⟩
  · rcases ha with e | ⟨ab, ao, rfl, ha⟩
    · exact absurd e h0
    rcases hb with e | ⟨bb, bo, rfl, hb⟩
    · exact absurd e h0
    have := same_any ab bb ao bo ca cb xs xs w rfl h63 ha hb
    simpa using this

end Go.Proofs.Ytgpaklifjonlkaa
/-
  Words of the laws: one of n, two lists compared.
-/
namespace Go.Proofs.Ytgpaklifjonlkaa
open Go.RowKit
set_option linter.unusedVariables false
set_option linter.unusedSimpArgs false
set_option maxRecDepth 100000

def pk (c : Int) (n : Nat) : Nat := (if c < 0 then (-(c + 1)).toNat else c.toNat) % n
theorem pk_lt (c : Int) {n : Nat} (h : 0 < n) : pk c n < n := Nat.mod_lt _ h

theorem pickK_any (c : Int) (n : Nat) (h0 : 0 < n) (hn : n < 1000000) (hc : (Lit.int .i64 c).wf = true) (w : World) :
    Calls Try.prog 19 #[.int .i64 c, .int .i64 (n : Int)] w fun e w' => e = .returned (.int .i64 (pk c n : Int)) ∧ w' = w := by
  have hw : -9223372036854775808 ≤ c ∧ c ≤ 9223372036854775807 := by simpa [Lit.wf, IntKind.min, IntKind.max, IntKind.signed, IntKind.bits] using hc
  have hb0 : ((n : Int) == 0) = false := by rw [beq_eq_false_iff_ne]; omega
  have hbm : ((n : Int) == -1) = false := by rw [beq_eq_false_iff_ne]; omega
  have hn0 : (0 : Int) < (n : Int) := by omega
  obtain ⟨h1, h2⟩ := hw
  clear hc
  by_cases h : c < 0
  · obtain ⟨x, hx⟩ : ∃ x : Nat, -(c + 1) = (x : Int) := ⟨(-(c + 1)).toNat, by omega⟩
    have HP : Hid (pk c n = x % n) := by show _ = _; unfold pk; rw [if_pos h, hx]; rfl
    have hc1 : c + 1 = -(x : Int) := by omega
    have HX : Hid ((x : Int).tmod (n : Int) = ((x % n : Nat) : Int)) := rfl
    have hm : ((x % n : Nat) : Int) < (n : Int) := by have := Nat.mod_lt x h0; omega
    have hx63 : (x : Int) ≤ 9223372036854775807 := by omega
    rw [HP.out]
    go_enter Try.func19, Try.ntmps19
    go_wp2_with fail
    go_ret
    exact ⟨by first | rfl | simp, rfl⟩
  · obtain ⟨x, hx⟩ : ∃ x : Nat, c = (x : Int) := ⟨c.toNat, by omega⟩
    subst hx
    have HP : Hid (pk (x : Int) n = x % n) := by show _ = _; unfold pk; rw [if_neg h]; rfl
    rw [HP.out]
    go_enter Try.func19, Try.ntmps19
    go_wp2_with fail
    go_ret
    exact ⟨by first | rfl | simp, rfl⟩

set_option maxHeartbeats 1000000 in
theorem numbersK_any (u v : Value) (xs : List Int) (w : World) (hu : Rd .i64 w u xs) (hv : Rd .i64 w v xs) : Calls Try.prog 12 #[u, v] w fun e w' => e = .returned (.bool true) ∧ Below w.heap.size w w' := by
  obtain ⟨a, ca, rfl, ha1, ha2, _, ha⟩ := hu
  obtain ⟨b, cb, rfl, hb1, hb2, _, hb⟩ := hv
  obtain ⟨m, hm⟩ : ∃ m, xs.length = m := ⟨_, rfl⟩
  have h63 : (m : Int) ≤ 9223372036854775807 := by unfold maxLen at ha2; omega
  have HC : Hid (∀ W, Below w.heap.size w W → ∀ k, k < m → ∃ ab ao bb bo x, a = some ⟨ab, ao, none⟩ ∧ b = some ⟨bb, bo, none⟩ ∧ W.cell? ⟨ab, ao + k, none⟩ = some (.int .i64 x) ∧ W.cell? ⟨bb, bo + k, none⟩ = some (.int .i64 x)) := fun W hW k hk => by
    have h0 : xs ≠ [] := fun e => by rw [e] at hm; simp at hm; omega
    rcases ha with e | ⟨ab, ao, rfl, ha⟩
    · exact absurd e h0
    rcases hb with e | ⟨bb, bo, rfl, hb⟩
    · exact absurd e h0
    have h1 := ha k (by omega)
    have h2 := hb k (by omega)
    refine ⟨ab, ao, bb, bo, xs.getD k 0, rfl, rfl, ?_, ?_⟩
    · rw [hW.cell (p := ⟨ab, ao + k, none⟩) (World.block_lt_of_cell? w ⟨ab, ao + k, none⟩ h1)]; exact h1
    · rw [hW.cell (p := ⟨bb, bo + k, none⟩) (World.block_lt_of_cell? w ⟨bb, bo + k, none⟩ h2)]; exact h2
  rw [hm]
  clear ha hb ha1 ha2 hb1 hb2 hm
  go_enter Try.func12, Try.ntmps12
  go_wp2_with fail
  go_loopw [5] (fun iv wr => ∃ k : Nat, k ≤ m ∧ iv = .int .i64 k ∧ Hid (Below w.heap.size w wr)) (fun iv _ => m - (intOf iv).toNat)
  case atStart => exact ⟨0, Nat.zero_le _, rfl, Below.refl _ _⟩
  case round =>
    obtain ⟨k, hk, rfl, B1⟩ := hrel
    by_cases hkm : k < m
    · have hki : (k : Int) < (m : Int) := by omega
      have hk0 : (0 : Int) ≤ (k : Int) := by omega
      obtain ⟨ab, ao, bb, bo, x, rfl, rfl, hc1, hc2⟩ := HC.out wr B1.out k hkm
      go_wp2_with fail
      go_quiet (fail)
      have B2 : Hid (Below w.heap.size w (wr.drewN nq)) := B1.out.trans ((show Tch (fun _ => False) wr (wr.drewN nq) from ⟨rfl, rfl, rfl, Nat.le_refl _, fun _ _ _ => rfl⟩).below B1.out.size (fun _ e => e.elim))
      go_wp2_with fail
      go_roundw
      case rel => exact ⟨k + 1, by omega, by go_num, B2⟩
      case measure => simp [intOf]; omega
    · have hki : ¬ (k : Int) < (m : Int) := by omega
      go_wp2_with fail
      go_ret
      exact ⟨rfl, B1.out⟩

end Go.Proofs.Ytgpaklifjonlkaa
