/- 'Rows.TreeUndoSaid': for every input the law TreeUndo answers true, and its arguments read as they did. Conditions: none beyond the statement's own. -/
import Derived.Test.YtcmjlibndmneiaaGreatRows
import Derived.Test.YtcmjlibndmneiaaGreatPLawTUnd
import Derived.WalkKit
import Derived.ProofKit
import Derived.OpenShut
import Derived.ShutString
import Derived.ChangeOld
import Derived.Below
import Derived.SizedLaws
import Derived.Test.YtcmjlibndmneiaaGreatPTArgD
namespace Go.Proofs.YtcmjlibndmneiaaGreat.treeUndo
open Go.ChangeShapes Go.WideShapes Go.ChangeAt Go.RowKit
set_option linter.unusedVariables false

theorem own : ownKnob Tryz.prog.godebug = none := by kernel_rfl
theorem laidOut : laidOutB Tryz.prog = true := by kernel_rfl

/-- What is known of a slice of numbers that came in. -/
def IsRow (k : IntKind) (w : World) (a : Option Addr) (len cap : Nat) (zs : List Int) : Prop :=
  (a = none ∧ len = 0 ∧ cap = 0 ∧ zs = []) ∨
  ∃ x, a = some x ∧ len ≤ cap ∧ cap ≤ maxLen ∧ zs.length = cap ∧ (∀ i, i < zs.length → w.cell? (x.add i) = some (.int k (zs.getD i 0))) ∧ ∀ n ∈ zs, (Lit.int k n).wf = true

theorem walk (a0 : Option Addr) (len0 cap0 : Nat) (z0 : List Dt) (a1 : Option Addr) (len1 cap1 : Nat) (z1 : List Dt) (w : World) (w0 : RdDt w (.slice a0 len0 cap0) z0) (s0 : z0.length * 40 ≤ 140737488351232) (t0 : ∀ e ∈ z0, e.ok) (w1 : RdDt w (.slice a1 len1 cap1) z1) (s1 : z1.length * 40 ≤ 140737488351232) (t1 : ∀ e ∈ z1, e.ok) :
    Calls Tryz.prog 5 #[.slice a0 len0 cap0, .slice a1 len1 cap1] w fun e w' => e = .returned (.bool true) ∧ Below w.heap.size w w' := by
  exact treeUndo_walk _ z0 _ z1 w w0 (by omega) t0 w1 (by omega) t1

set_option maxRecDepth 100000 in
theorem lifted (os : Os) (started : os.Started) (H : Type) (enc : TypeId × Value → H) :
    ReturnsInHanded {} Tryz.checked os 5 .any (Rows.treeUndoSpec.pre6 enc Tryz.prog Tryz.f5 Rows.treeUndoRow.domain false) (Rows.treeUndoSpec.post enc Tryz.prog Tryz.f5 false true false false) := by
  refine returnsInHanded_of_change_sized (C := Tryz.checked) own started (by kernel_rfl) Tryz.func5
    (ChangeSpec.witness6 (enc := enc) (C := Tryz.checked) false ⟨#[], #[.slice none 0 0, .slice none 0 0], []⟩ 8 (by kernel_rfl) (by kernel_rfl) (by kernel_rfl) (by kernel_rfl)) ?_
  intro W base args ds gs before hval0 hW hcnd hsz _
  have hval : ∀ (j : Nat) t v, Tryz.f5.params[j]? = some t → args[j]? = some v → Value.okWide Tryz.prog W .any base t v := hval0
  have hW' := hW
  obtain ⟨p, q, hA0, hV, rfl, hfz, hnd⟩ := hW
  have hA : DataW.TrodAll enc Tryz.prog W 0 (fun _ => true) true Tryz.f5.params.toList args.toList ds p := hA0
  rw [Tryz.params5] at hA hval hsz
  obtain ⟨v0, vs0, d0, ds0, p0, q0, hargs, rfl, rfl, h0, r0⟩ := trodAll_cons hA
  obtain ⟨v1, vs1, d1, ds1, p1, q1, rfl, rfl, rfl, h1, r1⟩ := trodAll_cons r0
  obtain ⟨rfl, rfl, rfl⟩ := trodAll_nil r1
  obtain rfl : args = #[v0, v1] := by cases args; simp_all
  obtain ⟨rfl, rfl⟩ := trodVars_none hV
  obtain ⟨a0, len0, cap0, rfl⟩ := okWide_slice Tryz.underlying22 (hval 0 22 v0 rfl rfl)
  have k0 := h0
  have lt0 : ∀ x ∈ p0, x.block < W.heap.size := by obtain ⟨m, hm⟩ := k0; exact DataW.trod_lt m _ _ _ hm
  obtain ⟨z0, w0, s0, t0⟩ : ∃ zs : List Dt, RdDt W (.slice a0 len0 cap0) zs ∧ zs.length * 40 ≤ 140737488351232 ∧ ∀ e ∈ zs, e.ok := by
    obtain ⟨fuel, hf⟩ := h0
    rcases tdeeds_open hf with ⟨hcs, _⟩ | ⟨x, l, c, ps, es, fs, hcs, hpl, hr, hxx, hel, hsw⟩
    · simp [Value.cells] at hcs
      obtain ⟨rfl, rfl, rfl⟩ := hcs
      exact ⟨[], ⟨none, 0, rfl, Nat.le_refl _, by unfold maxLen; omega, fun _ => rfl, .inl rfl⟩, by simp, by simp⟩
    · simp [Value.cells] at hcs
      obtain ⟨rfl, rfl, rfl⟩ := hcs
      have hd : d0 = .slice es fs := hxx
      refine ⟨ps, hr, ?_, ?_⟩
      · have h1 := sized_slice hsz (j := 0) rfl (congrArg some hd) Tryz.underlying22
        have h2 : Tryz.checked.prog.bytesOf 28 = 40 := by kernel_rfl
        rw [h2] at h1
        unfold reachBytes at h1
        rw [hpl, ← hel]
        omega
      · have h5 : ∀ n ∈ d0.weights Tryz.prog 22, n ≤ reachBytes := fun n hn => of_decide_eq_true (List.all_eq_true.1 hsz n (DataW.weights_mem_each (j := 0) rfl rfl n hn))
        exact hsw h5
  obtain ⟨a1, len1, cap1, rfl⟩ := okWide_slice Tryz.underlying22 (hval 1 22 v1 rfl rfl)
  have k1 := h1
  have lt1 : ∀ x ∈ p1, x.block < W.heap.size := by obtain ⟨m, hm⟩ := k1; exact DataW.trod_lt m _ _ _ hm
  obtain ⟨z1, w1, s1, t1⟩ : ∃ zs : List Dt, RdDt W (.slice a1 len1 cap1) zs ∧ zs.length * 40 ≤ 140737488351232 ∧ ∀ e ∈ zs, e.ok := by
    obtain ⟨fuel, hf⟩ := h1
    rcases tdeeds_open hf with ⟨hcs, _⟩ | ⟨x, l, c, ps, es, fs, hcs, hpl, hr, hxx, hel, hsw⟩
    · simp [Value.cells] at hcs
      obtain ⟨rfl, rfl, rfl⟩ := hcs
      exact ⟨[], ⟨none, 0, rfl, Nat.le_refl _, by unfold maxLen; omega, fun _ => rfl, .inl rfl⟩, by simp, by simp⟩
    · simp [Value.cells] at hcs
      obtain ⟨rfl, rfl, rfl⟩ := hcs
      have hd : d1 = .slice es fs := hxx
      refine ⟨ps, hr, ?_, ?_⟩
      · have h1 := sized_slice hsz (j := 1) rfl (congrArg some hd) Tryz.underlying22
        have h2 : Tryz.checked.prog.bytesOf 28 = 40 := by kernel_rfl
        rw [h2] at h1
        unfold reachBytes at h1
        rw [hpl, ← hel]
        omega
      · have h5 : ∀ n ∈ d1.weights Tryz.prog 22, n ≤ reachBytes := fun n hn => of_decide_eq_true (List.all_eq_true.1 hsz n (DataW.weights_mem_each (j := 1) rfl rfl n hn))
        exact hsw h5
  clear hA0 hval0
  refine (walk a0 len0 cap0 z0 a1 len1 cap1 z1 W w0 s0 t0 w1 s1 t1).mono fun e W' ⟨he, bel⟩ => ?_
  subst he
  exact ⟨_, rfl, _, _, _, [], _, [], hW', trodAll_mk1 (shut_bool Tryz.underlying4 _), (trodAll_cons_mk (Below.trod laidOut (by kernel_rfl) (of_decide_eq_true (by kernel_rfl)) k0 bel lt0) (trodAll_cons_mk (Below.trod laidOut (by kernel_rfl) (of_decide_eq_true (by kernel_rfl)) k1 bel lt1) trodAll_mk0)), rfl, bel.frame _, fun h => by cases h⟩

theorem over : Rows.treeUndoRow.holds Tryz.pinned (OpenSpec.ofChange Rows.treeUndoSpec) :=
  OpenClaim.holds_of_wide 5 Tryz.f5 rfl rfl rfl rfl rfl rfl rfl ⟨rfl, rfl, rfl, rfl, rfl⟩ rfl rfl rfl rfl rfl (by kernel_rfl) Tryz.func5 (by kernel_rfl)
    (of_decide_eq_true (by kernel_rfl)) (by unfold Func.isWrapper; first | (rw [if_pos (by decide +kernel)]; kernel_rfl) | (rw [if_neg (by decide +kernel)]; exact ⟨rfl, rfl⟩))
    (fun os started H enc _ => lifted os started H enc)

theorem proved : Rows.TreeUndoSaid := over
end Go.Proofs.YtcmjlibndmneiaaGreat.treeUndo
