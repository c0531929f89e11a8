/-
  The document's words: a word turned, the words k.
-/
import Derived.Test.YtfdnlkhipjjnbaaSRefX
import Derived.Test.YtfdnlkhipjjnbaaSWd
import Derived.Test.YtfdnlkhipjjnbaaSFw
import Derived.Great.BuildSlice
namespace Go.Proofs.Ytfdnlkhipjjnbaa
open Go.RowKit Pl
set_option linter.unusedVariables false

set_option maxRecDepth 100000 in
set_option maxHeartbeats 1000000 in
theorem refTurn_any (x n : Nat) (w : World) (h0 : 0 < n) (hn : n < 32) (hx : x < 4294967296) :
    Calls Try.prog 33 #[.int .i64 x, .int .i64 (n : Int)] w fun e w' => e = .returned (.int .i64 (rot n x : Int)) ∧ ∃ m, w' = w.drewN m := by
  obtain ⟨m, hm⟩ : ∃ m, 32 - n = m := ⟨_, rfl⟩
  have hm1 : (32 : Int) - (n : Int) = (m : Int) := by omega
  have hR := rot_lt n x h0 hn hx
  obtain ⟨q, hq⟩ : ∃ q, x / 2 ^ n = q := ⟨_, rfl⟩
  obtain ⟨p, hp⟩ : ∃ p, 2 ^ n = p := ⟨_, rfl⟩
  obtain ⟨r, hr⟩ : ∃ r, x % p = r := ⟨_, rfl⟩
  obtain ⟨s, hs⟩ : ∃ s, r * 2 ^ m = s := ⟨_, rfl⟩
  have hT : rot n x = q + s := by unfold rot; rw [hq, hm, hp, hr, hs]
  rw [hT] at hR ⊢
  have hp1 : p < 4294967296 := by rw [← hp]; exact Nat.lt_of_lt_of_le (Nat.pow_lt_pow_right (by decide) hn) (by decide)
  have hp0 : 0 < p := by rw [← hp]; exact Nat.pow_pos (by decide)
  have e1 : (x : Int) / 2 ^ n = (q : Int) := by rw [← hq, Int.natCast_ediv, Int.natCast_pow]; rfl
  have e2 : (2 : Int) ^ n = (p : Int) := by rw [← hp, Int.natCast_pow]; rfl
  have e3 : (x : Int) % (p : Int) = (r : Int) := by omega
  have e3' : (x : Int).tmod (p : Int) = (r : Int) := by rw [Int.tmod_eq_emod_of_nonneg (by omega)]; exact e3
  have e4 : (r : Int) * 2 ^ m = (s : Int) := by rw [← hs, Int.natCast_mul, Int.natCast_pow]; rfl
  have hmm : (m : Int) ≤ 31 := by omega
  have hmm0 : (0 : Int) ≤ (m : Int) := by omega
  have hpz : ¬ (p : Int) = 0 := by omega
  have e1' : (x : Int) / (p : Int) = (q : Int) := by rw [← e2]; exact e1
  clear hT hq hp hr hs
  go_enter Try.func33, Try.ntmps33
  go_wp2_with fail
  go_quiet (fail)
  go_wp2_with fail
  go_ret
  exact ⟨by rw [Int.natCast_add]; rfl, nq, rfl⟩

theorem info_i64p : (Try.prog.info? 3).map (fun i => (i.zero, i.size)) = some (some (.int .i64 0), 1) := by kernel_rfl

set_option maxRecDepth 100000 in
set_option maxHeartbeats 1000000 in
theorem refWord_any (n : Nat) (w : World) (hn : n < 64) :
    Calls Try.prog 34 #[.int .i64 (n : Int)] w fun e w' => e = .returned (.int .i64 (kF n : Int)) ∧ Below w.heap.size w w' := by
  obtain ⟨j0, hj, hj2⟩ := Option.map_eq_some_iff.1 info_i64p
  simp only [Prod.mk.injEq] at hj2
  obtain ⟨hy0, hy1⟩ := hj2
  have u1 := uv_new .i64 w 3 64 kF
  have c1 := u1.at_ n hn
  obtain ⟨F, hF⟩ : ∃ F, Hid ((ucs .i64 64 kF).toArray = F) := ⟨_, rfl⟩
  rw [hF.out] at c1
  generalize kF n = V at *
  have hi1 : (n : Int) < 64 := by omega
  clear u1
  go_enter Try.func34, Try.ntmps34
  go_wp2_with (with_reducible (show wpList _ _ _ (Oper.mk _ (Op.buildSlice _ _ _) _ _ _ _ :: _) _ _); refine wpList_buildSlice rfl 27 3 64 _ rfl F j0 (.int .i64 0) Try.underlying27 hj hy0 (by rw [hy1]; decide) (by rw [hy1]; decide) ?h1 ?_; (case h1 => rw [hy1, ← hF.out]; kernel_rfl))
  go_ret
  exact ⟨rfl, (Below.refl _ _).alloc (Nat.le_refl _) _⟩
end Go.Proofs.Ytfdnlkhipjjnbaa
