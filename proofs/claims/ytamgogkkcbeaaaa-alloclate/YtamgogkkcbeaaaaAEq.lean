/-
  Two rows of runs compared; one of n; both maps side by side.
-/
import Derived.Test.YtamgogkkcbeaaaaARRun
namespace Go.Proofs.Ytamgogkkcbeaaaa
open Go.RowKit Ah
set_option linter.unusedVariables false
set_option linter.unusedSimpArgs false
set_option maxRecDepth 100000

theorem und_run : Try.prog.underlying 49 = some (.struct (Try.prog.fieldsOf 49)) := by kernel_rfl
theorem stood_run : Try.prog.stoodInHeld 49 = false := by kernel_rfl
theorem flds_run : ((Try.prog.fieldsOf 49).toList.map fun f => (decide (f.name = "_"), f.type, f.offset)) = [(false, 3, 0), (false, 3, 1)] := by kernel_rfl
theorem len2A {α : Type} {l : List α} (h : l.length = 2) : ∃ a b, l = [a, b] := by
  match l, h with
  | [a, b], _ => exact ⟨a, b, rfl⟩
theorem eqF_stepA {P : Program} (w : World) (d : Nat) (xs ys : Array Value) (f : Field) (fs : List Field) (a b : Value) (r : Bool) (hn : ¬ f.name = "_") (ha : (part f.type xs f.offset).run P w = .ok a w) (hb : (part f.type ys f.offset).run P w = .ok b w) (hr : (Op.equalIn d f.type a b).run P w = .ok r w) :
    (Op.eqFields d xs ys (f :: fs)).run P w = if r = true then (Op.eqFields d xs ys fs).run P w else .ok false w := by
  simp only [Op.eqFields, hn, ne_eq, not_false_eq_true, if_true, Sem.run_bind, ha, hb, hr, Result.andThen_ok]
  cases r <;> simp
theorem eqFldsA (w : World) (d : Nat) (x y : Int × Int) (fs : List Field) (h : (fs.map fun f => (decide (f.name = "_"), f.type, f.offset)) = [(false, 3, 0), (false, 3, 1)]) :
    (Op.eqFields (d + 1) #[.int .i64 x.1, .int .i64 x.2] #[.int .i64 y.1, .int .i64 y.2] fs).run Try.prog w = .ok (x.1 == y.1 && x.2 == y.2) w := by
  obtain ⟨f0, f1, rfl⟩ := len2A (l := fs) (by have := congrArg List.length h; simpa using this)
  simp only [List.map_cons, List.map_nil, List.cons.injEq, Prod.mk.injEq, and_true, decide_eq_false_iff_not] at h
  obtain ⟨⟨n0, t0, o0⟩, n1, t1, o1⟩ := h
  have e0 : ∀ a b : Int, (Op.equalIn (d + 1) 3 (.int .i64 a) (.int .i64 b)).run Try.prog w = .ok (a == b) w := fun a b => run_equalIn_int (P := Try.prog) w d 3 .i64 .i64 a b Try.underlying3
  rw [eqF_stepA w (d + 1) _ _ f0 _ (.int .i64 x.1) (.int .i64 y.1) (x.1 == y.1) n0 (by rw [t0, o0]; exact run_part_plain w (by kernel_rfl) rfl) (by rw [t0, o0]; exact run_part_plain w (by kernel_rfl) rfl) (by rw [t0]; exact e0 _ _)]
  rw [eqF_stepA w (d + 1) _ _ f1 _ (.int .i64 x.2) (.int .i64 y.2) (x.2 == y.2) n1 (by rw [t1, o1]; exact run_part_plain w (by kernel_rfl) rfl) (by rw [t1, o1]; exact run_part_plain w (by kernel_rfl) rfl) (by rw [t1]; exact e0 _ _)]
  generalize (x.1 == y.1) = b0
  generalize (x.2 == y.2) = b1
  cases b0 <;> cases b1 <;> simp [Op.eqFields]
theorem eq_run (w : World) (x y : Int × Int) : (Op.equalIn 10000 49 (.agg #[.int .i64 x.1, .int .i64 x.2]) (.agg #[.int .i64 y.1, .int .i64 y.2])).run Try.prog w = .ok (x.1 == y.1 && x.2 == y.2) w := by
  rw [run_equalIn_struct w 9999 49 _ _ und_run stood_run, eqFldsA w 9998 x y _ flds_run]

set_option maxHeartbeats 1000000 in
theorem runsSame_any (v u : Value) (ps : List (Int × Int)) (w : World) (hv : RdT w v ps) (hu : RdT w u ps) :
    Calls Try.prog 18 #[v, u] w fun e w' => e = .returned (.bool true) ∧ ∃ q, w' = w.drewN q := by
  obtain ⟨a, c, rfl, hc, hcm, ha⟩ := hv
  obtain ⟨b, d, rfl, hd, hdm, hb⟩ := hu
  have HA : Hid (ps = [] ∨ ∃ b o, a = some ⟨b, o, none⟩ ∧ ∀ i, i < ps.length → w.cell? ⟨b, o + i * 2, none⟩ = some (.int .i64 (ps.getD i (0, 0)).1) ∧ w.cell? ⟨b, o + i * 2 + 1, none⟩ = some (.int .i64 (ps.getD i (0, 0)).2)) := ha
  have HB : Hid (ps = [] ∨ ∃ b' o, b = some ⟨b', o, none⟩ ∧ ∀ i, i < ps.length → w.cell? ⟨b', o + i * 2, none⟩ = some (.int .i64 (ps.getD i (0, 0)).1) ∧ w.cell? ⟨b', o + i * 2 + 1, none⟩ = some (.int .i64 (ps.getD i (0, 0)).2)) := hb
  obtain ⟨m, hm⟩ : ∃ m, Hid (ps.length = m) := ⟨_, rfl⟩
  rw [hm.out] at hc hd ⊢
  unfold maxLen at hcm hdm
  clear ha hb
  go_enter Try.func18, Try.ntmps18
  go_wp2_with fail
  go_loopw [5] (fun i wr => ∃ (k q : Nat), k ≤ m ∧ i = .int .i64 k ∧ Hid (wr = w.drewN q)) (fun i _ => m - (intOf i).toNat)
  case atStart => exact ⟨0, 0, Nat.zero_le _, rfl, rfl⟩
  case round =>
    obtain ⟨k, q, hk, rfl, HW⟩ := hrel
    by_cases hlt : k < m
    · obtain ⟨ab, ao, rfl, hA⟩ : ∃ b o, a = some ⟨b, o, none⟩ ∧ ∀ i, i < ps.length → wr.cell? ⟨b, o + i * 2, none⟩ = some (.int .i64 (ps.getD i (0, 0)).1) ∧ wr.cell? ⟨b, o + i * 2 + 1, none⟩ = some (.int .i64 (ps.getD i (0, 0)).2) := by
        rcases HA.out with e | ⟨b, o, e1, e2⟩
        · have := hm.out; rw [e] at this; simp at this; omega
        · exact ⟨b, o, e1, fun i hi => by rw [HW.out]; exact e2 i hi⟩
      obtain ⟨bb, bo, rfl, hB⟩ : ∃ b' o, b = some ⟨b', o, none⟩ ∧ ∀ i, i < ps.length → wr.cell? ⟨b', o + i * 2, none⟩ = some (.int .i64 (ps.getD i (0, 0)).1) ∧ wr.cell? ⟨b', o + i * 2 + 1, none⟩ = some (.int .i64 (ps.getD i (0, 0)).2) := by
        rcases HB.out with e | ⟨b, o, e1, e2⟩
        · have := hm.out; rw [e] at this; simp at this; omega
        · exact ⟨b, o, e1, fun i hi => by rw [HW.out]; exact e2 i hi⟩
      obtain ⟨a0, a1⟩ := hA k (by rw [hm.out]; exact hlt)
      obtain ⟨b0, b1⟩ := hB k (by rw [hm.out]; exact hlt)
      obtain ⟨x, hx⟩ : ∃ x, Hid (ps.getD k (0, 0) = x) := ⟨_, rfl⟩
      rw [hx.out] at a0 a1 b0 b1
      have hq : ∀ W, (Op.equalIn 10000 49 (.agg #[.int .i64 x.1, .int .i64 x.2]) (.agg #[.int .i64 x.1, .int .i64 x.2])).run Try.prog W = .ok true W := fun W => by rw [eq_run W x x]; simp
      generalize x.1 = x1 at *
      generalize x.2 = x2 at *
      clear hA hB
      go_wp2_with fail
      go_quiet (fail)
      have HW4 : Hid (wr.drewN nq = w.drewN (q + nq)) := by show _ = _; rw [HW.out, World.drewN_drewN]
      go_wp2_with fail
      go_roundw
      case rel => exact ⟨k + 1, q + nq, by omega, by first | rfl | go_num, HW4⟩
      case measure => simp [intOf]; omega
    · have hd' : decide (k < m) = false := by simp; omega
      go_wp2_with fail
      go_ret
      exact ⟨rfl, q, HW.out⟩

namespace Ah
theorem pk_range (c n : Int) (hn : 0 < n) : 0 ≤ pk c n ∧ pk c n < n := by
  unfold pk
  split
  · rw [Int.tmod_eq_emod_of_nonneg (by omega)]
    exact ⟨Int.emod_nonneg _ (by omega), Int.emod_lt_of_pos _ hn⟩
  · rw [Int.tmod_eq_emod_of_nonneg (by omega)]
    exact ⟨Int.emod_nonneg _ (by omega), Int.emod_lt_of_pos _ hn⟩
end Ah

theorem pick_any (c n : Int) (hw : (Lit.int .i64 c).wf = true) (hn : 0 < n) (w : World) :
    Calls Try.prog 22 #[.int .i64 c, .int .i64 n] w fun e w' => e = .returned (.int .i64 (pk c n)) ∧ w' = w := by
  have hr := pk_range c n hn
  have hcb : -9223372036854775808 ≤ c ∧ c ≤ 9223372036854775807 := by
    simp [Lit.wf, IntKind.min, IntKind.max, IntKind.signed, IntKind.bits] at hw
    omega
  obtain ⟨z, hz⟩ : ∃ z, Hid (pk c n = z) := ⟨_, rfl⟩
  have hne : n ≠ 0 := by omega
  clear hw
  by_cases h0 : c < 0
  · have e : (-(c + 1)).tmod n = z := by rw [← hz.out]; unfold pk; rw [if_pos h0]
    have h1 : -(c + 1) ≤ 9223372036854775807 := by omega
    rw [hz.out] at hr ⊢
    go_enter Try.func22, Try.ntmps22
    go_wp2_with fail
    go_ret
    exact ⟨rfl, rfl⟩
  · have e : c.tmod n = z := by rw [← hz.out]; unfold pk; rw [if_neg h0]
    rw [hz.out] at hr ⊢
    go_enter Try.func22, Try.ntmps22
    go_wp2_with fail
    go_ret
    exact ⟨rfl, rfl⟩
end Go.Proofs.Ytamgogkkcbeaaaa
