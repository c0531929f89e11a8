/- 'Rows.TreeTotalSaid': for every input the law TreeTotal answers true, and its arguments read as they did. Conditions: none beyond the statement's own. -/
import Derived.Test.YtcbnmjgbnbokgaaGreatRows
import Derived.Test.YtcbnmjgbnbokgaaGreatPTArg
import Derived.WalkKit
import Derived.ProofKit
import Derived.OpenShut
import Derived.ShutString
import Derived.ChangeOld
import Derived.Below
import Derived.SizedLaws
namespace Go.Proofs.YtcbnmjgbnbokgaaGreat.treeTotal
open Go.ChangeShapes Go.WideShapes Go.ChangeAt Go.RowKit
set_option linter.unusedVariables false

theorem own : ownKnob Tryz.prog.godebug = none := by kernel_rfl
theorem laidOut : laidOutB Tryz.prog = true := by kernel_rfl

/-- What is known of a slice of numbers that came in. -/
def IsRow (k : IntKind) (w : World) (a : Option Addr) (len cap : Nat) (zs : List Int) : Prop :=
  (a = none ∧ len = 0 ∧ cap = 0 ∧ zs = []) ∨
  ∃ x, a = some x ∧ len ≤ cap ∧ cap ≤ maxLen ∧ zs.length = cap ∧ (∀ i, i < zs.length → w.cell? (x.add i) = some (.int k (zs.getD i 0))) ∧ ∀ n ∈ zs, (Lit.int k n).wf = true

theorem walk (a0 : Option Addr) (len0 cap0 : Nat) (z0 : List (Int × Value)) (a1 : Int) (k2 : Int) (x2 y2 : ByteArray) (w : World) (w0 : RdBk w (.slice a0 len0 cap0) z0) (s0 : z0.length * 32 ≤ 140737488351232) (w1 : (Lit.int .i64 a1).wf = true) (w2 : (Lit.int .i64 k2).wf = true ∧ x2.size ≤ 140737488351232 ∧ y2.size ≤ 140737488351232) :
    Calls Tryz.prog 8 #[.slice a0 len0 cap0, .int .i64 a1, .agg #[.int .i64 k2, .string x2, .string y2]] w fun e w' => e = .returned (.bool true) ∧ Below w.heap.size w w' := by
  exact treeTotal_walk _ z0 a1 k2 x2 y2 w1 (by omega) (by omega) w w0 (by omega)

set_option maxRecDepth 100000 in
theorem lifted (os : Os) (started : os.Started) (H : Type) (enc : TypeId × Value → H) :
    ReturnsInHanded {} Tryz.checked os 8 .any (Rows.treeTotalSpec.pre6 enc Tryz.prog Tryz.f8 Rows.treeTotalRow.domain false) (Rows.treeTotalSpec.post enc Tryz.prog Tryz.f8 false true false false) := by
  refine returnsInHanded_of_change_sized (C := Tryz.checked) own started (by kernel_rfl) Tryz.func8
    (ChangeSpec.witness6 (enc := enc) (C := Tryz.checked) false ⟨#[], #[.slice none 0 0, .int .i64 0, .agg #[.int .i64 0, .string ⟨#[]⟩, .string ⟨#[]⟩]], []⟩ 8 (by kernel_rfl) (by kernel_rfl) (by kernel_rfl) (by kernel_rfl)) ?_
  intro W base args ds gs before hval0 hW hcnd hsz _
  have hval : ∀ (j : Nat) t v, Tryz.f8.params[j]? = some t → args[j]? = some v → Value.okWide Tryz.prog W .any base t v := hval0
  have hW' := hW
  obtain ⟨p, q, hA0, hV, rfl, hfz, hnd⟩ := hW
  have hA : DataW.TrodAll enc Tryz.prog W 0 (fun _ => true) true Tryz.f8.params.toList args.toList ds p := hA0
  rw [Tryz.params8] at hA hval hsz
  obtain ⟨v0, vs0, d0, ds0, p0, q0, hargs, rfl, rfl, h0, r0⟩ := trodAll_cons hA
  obtain ⟨v1, vs1, d1, ds1, p1, q1, rfl, rfl, rfl, h1, r1⟩ := trodAll_cons r0
  obtain ⟨v2, vs2, d2, ds2, p2, q2, rfl, rfl, rfl, h2, r2⟩ := trodAll_cons r1
  obtain ⟨rfl, rfl, rfl⟩ := trodAll_nil r2
  obtain rfl : args = #[v0, v1, v2] := by cases args; simp_all
  obtain ⟨rfl, rfl⟩ := trodVars_none hV
  obtain ⟨a0, len0, cap0, rfl⟩ := okWide_slice Tryz.underlying67 (hval 0 67 v0 rfl rfl)
  have k0 := h0
  have lt0 : ∀ x ∈ p0, x.block < W.heap.size := by obtain ⟨m, hm⟩ := k0; exact DataW.trod_lt m _ _ _ hm
  obtain ⟨z0, w0, s0⟩ : ∃ zs : List (Int × Value), RdBk W (.slice a0 len0 cap0) zs ∧ zs.length * 32 ≤ 140737488351232 := by
    obtain ⟨fuel, hf⟩ := h0
    rcases tblks_open hf with ⟨hcs, _⟩ | ⟨x, l, c, ps, es, fs, hcs, hpl, hr, hxx, hel⟩
    · simp [Value.cells] at hcs
      obtain ⟨rfl, rfl, rfl⟩ := hcs
      exact ⟨[], ⟨none, 0, rfl, Nat.le_refl _, by unfold maxLen; omega, .inl rfl⟩, by simp⟩
    · simp [Value.cells] at hcs
      obtain ⟨rfl, rfl, rfl⟩ := hcs
      have hd : d0 = .slice es fs := hxx
      refine ⟨ps, hr, ?_⟩
      have h1 := sized_slice hsz (j := 0) rfl (congrArg some hd) Tryz.underlying67
      have h2 : Tryz.checked.prog.bytesOf 71 = 32 := by kernel_rfl
      rw [h2] at h1
      unfold reachBytes at h1
      rw [hpl, ← hel]
      omega
  obtain ⟨a1, rfl, rfl, rfl, w1⟩ := open_int Tryz.underlying3 (hval 1 3 v1 rfl rfl) h1
  obtain ⟨cs2, rfl, hcz2⟩ := okWide_struct Tryz.underlying28 (hval 2 28 v2 rfl rfl)
  have kk2 := h2
  have lt2 : ∀ x ∈ p2, x.block < W.heap.size := by obtain ⟨m, hm⟩ := kk2; exact DataW.trod_lt m _ _ _ hm
  obtain ⟨k2, x2, y2, hcs2, w2⟩ : ∃ (kd : Int) (key val : ByteArray), cs2 = #[.int .i64 kd, .string key, .string val] ∧ ((Lit.int .i64 kd).wf = true ∧ key.size ≤ 140737488351232 ∧ val.size ≤ 140737488351232) := by
    obtain ⟨fuel, hf⟩ := h2
    have h5 : ∀ n ∈ d2.weights Tryz.prog 28, n ≤ reachBytes := fun n hn => of_decide_eq_true (List.all_eq_true.1 hsz n (DataW.weights_mem_each (j := 2) rfl rfl n hn))
    obtain ⟨kd, key, val, hcs, h1⟩ := tdeed_open hf h5
    refine ⟨kd, key, val, ?_, h1⟩
    have h : cs2.toList = [.int .i64 kd, .string key, .string val] := hcs
    rw [← Array.toArray_toList (xs := cs2), h]
  subst hcs2
  clear hA0 hval0
  refine (walk a0 len0 cap0 z0 a1 k2 x2 y2 W w0 s0 w1 w2).mono fun e W' ⟨he, bel⟩ => ?_
  subst he
  exact ⟨_, rfl, _, _, _, [], _, [], hW', trodAll_mk1 (shut_bool Tryz.underlying4 _), (trodAll_cons_mk (Below.trod laidOut (by kernel_rfl) (of_decide_eq_true (by kernel_rfl)) k0 bel lt0) (trodAll_cons_mk (shut_int Tryz.underlying3 w1) (trodAll_cons_mk (Below.trod laidOut (by kernel_rfl) (of_decide_eq_true (by kernel_rfl)) kk2 bel lt2) trodAll_mk0))), rfl, bel.frame _, fun h => by cases h⟩

theorem over : Rows.treeTotalRow.holds Tryz.pinned (OpenSpec.ofChange Rows.treeTotalSpec) :=
  OpenClaim.holds_of_wide 8 Tryz.f8 rfl rfl rfl rfl rfl rfl rfl ⟨rfl, rfl, rfl, rfl, rfl⟩ rfl rfl rfl rfl rfl (by kernel_rfl) Tryz.func8 (by kernel_rfl)
    (of_decide_eq_true (by kernel_rfl)) (by unfold Func.isWrapper; first | (rw [if_pos (by decide +kernel)]; kernel_rfl) | (rw [if_neg (by decide +kernel)]; exact ⟨rfl, rfl⟩))
    (fun os started H enc _ => lifted os started H enc)

theorem proved : Rows.TreeTotalSaid := over
end Go.Proofs.YtcbnmjgbnbokgaaGreat.treeTotal
