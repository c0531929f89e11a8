/- 'Rows.NodeGetsSaid': for every input the law NodeGets answers true, and its arguments read as they did. Conditions: none beyond the statement's own. -/
import Derived.Test.YtbpaeecclikeiaaRows
import Derived.Test.YtbpaeecclikeiaaLawNGets
import Derived.WalkKit
import Derived.ProofKit
import Derived.OpenShut
import Derived.ShutString
import Derived.ChangeOld
import Derived.Below
import Derived.SizedLaws
import Derived.Test.YtbpaeecclikeiaaBArg
namespace Go.Proofs.Ytbpaeecclikeiaa.nodeGets
open Go.ChangeShapes Go.WideShapes Go.ChangeAt Go.RowKit
set_option linter.unusedVariables false

theorem own : ownKnob Try.prog.godebug = none := by kernel_rfl
theorem laidOut : laidOutB Try.prog = true := by kernel_rfl

/-- What is known of a slice of numbers that came in. -/
def IsRow (k : IntKind) (w : World) (a : Option Addr) (len cap : Nat) (zs : List Int) : Prop :=
  (a = none ∧ len = 0 ∧ cap = 0 ∧ zs = []) ∨
  ∃ x, a = some x ∧ len ≤ cap ∧ cap ≤ maxLen ∧ zs.length = cap ∧ (∀ i, i < zs.length → w.cell? (x.add i) = some (.int k (zs.getD i 0))) ∧ ∀ n ∈ zs, (Lit.int k n).wf = true

theorem walk (k0 : Int) (a0 : Option Addr) (len0 cap0 : Nat) (z0 : List Int) (w : World) (w0 : IsRow .u8 w a0 len0 cap0 z0) (s0 : z0.length * 1 ≤ 140737488351232) :
    Calls Try.prog 4 #[.agg #[.int .i64 k0, .slice a0 len0 cap0]] w fun e w' => e = .returned (.bool true) ∧ Below w.heap.size w w' := by
  obtain ⟨h1, hw1⟩ := rd_of_row w0
  exact nodeGets_walk k0 _ _ w h1 (by_of_wf hw1) (by rw [List.length_take]; omega)

set_option maxRecDepth 100000 in
theorem lifted (os : Os) (started : os.Started) (H : Type) (enc : TypeId × Value → H) :
    ReturnsInHanded {} Try.checked os 4 .any (Rows.nodeGetsSpec.pre6 enc Try.prog Try.f4 Rows.nodeGetsRow.domain false) (Rows.nodeGetsSpec.post enc Try.prog Try.f4 false true false false) := by
  refine returnsInHanded_of_change_sized (C := Try.checked) own started (by kernel_rfl) Try.func4
    (ChangeSpec.witness6 (enc := enc) (C := Try.checked) false ⟨#[], #[.agg #[.int .i64 0, .slice none 0 0]], []⟩ 8 (by kernel_rfl) (by kernel_rfl) (by kernel_rfl) (by kernel_rfl)) ?_
  intro W base args ds gs before hval0 hW hcnd hsz _
  have hval : ∀ (j : Nat) t v, Try.f4.params[j]? = some t → args[j]? = some v → Value.okWide Try.prog W .any base t v := hval0
  have hW' := hW
  obtain ⟨p, q, hA0, hV, rfl, hfz, hnd⟩ := hW
  have hA : DataW.TrodAll enc Try.prog W 0 (fun _ => true) true Try.f4.params.toList args.toList ds p := hA0
  rw [Try.params4] at hA hval hsz
  obtain ⟨v0, vs0, d0, ds0, p0, q0, hargs, rfl, rfl, h0, r0⟩ := trodAll_cons hA
  obtain ⟨rfl, rfl, rfl⟩ := trodAll_nil r0
  obtain rfl : args = #[v0] := by cases args; simp_all
  obtain ⟨rfl, rfl⟩ := trodVars_none hV
  obtain ⟨cs0, rfl, hcz0⟩ := okWide_struct Try.underlying34 (hval 0 34 v0 rfl rfl)
  have q0 := h0
  have lt0 : ∀ x ∈ p0, x.block < W.heap.size := by obtain ⟨m, hm⟩ := q0; exact DataW.trod_lt m _ _ _ hm
  obtain ⟨k0, a0, len0, cap0, z0, hcs0, w0, s0⟩ : ∃ k a len cap zs, cs0 = #[.int .i64 k, .slice a len cap] ∧ IsRow .u8 W a len cap zs ∧ zs.length * 1 ≤ 140737488351232 := by
    obtain ⟨fuel, hf⟩ := h0
    obtain ⟨k, u1, y0, y1, m, hcs, t0', hd0⟩ := block_open hf
    have hcs : cs0 = #[.int .i64 k, u1] := by have h : cs0.toList = [.int .i64 k, u1] := hcs; rw [← Array.toArray_toList (xs := cs0), h]
    subst hcs
    clear hf
    rcases open_ints Try.underlying32 Try.underlying5 (by kernel_rfl) t0' with ⟨hcs, _⟩ | ⟨x, l, c, zs, hcs, _, hl', hm, hz, hxx, hcell, hwz⟩
    · simp only [List.cons.injEq, and_true] at hcs
      subst hcs
      exact ⟨k, none, 0, 0, [], rfl, .inl ⟨rfl, rfl, rfl, rfl⟩, by simp⟩
    · simp only [List.cons.injEq, and_true] at hcs
      subst hcs
      refine ⟨k, some x, l, c, zs, rfl, .inr ⟨_, rfl, hl', hm, by simpa using hz, hcell, hwz⟩, ?_⟩
      have hd0 : d0 = .agg [y0.1, y1.1] := hd0
      have hy1 : y1.1 = _ := congrArg Prod.fst hxx
      rw [hy1] at hd0
      have h3 := block_sized hsz (j := 0) rfl (congrArg some hd0)
      unfold reachBytes at h3
      simp only [lits, List.length_map, List.length_take, List.length_drop] at h3
      have h4 : zs.length = c := by simpa using hz
      omega
  subst hcs0
  clear hA0 hval0
  refine (walk k0 a0 len0 cap0 z0 W w0 s0).mono fun e W' ⟨he, bel⟩ => ?_
  subst he
  exact ⟨_, rfl, _, _, _, [], _, [], hW', trodAll_mk1 (shut_bool Try.underlying4 _), (trodAll_cons_mk (Below.trod laidOut (by kernel_rfl) (of_decide_eq_true (by kernel_rfl)) q0 bel lt0) trodAll_mk0), rfl, bel.frame _, fun h => by cases h⟩

theorem over : Rows.nodeGetsRow.holds Try.pinned (OpenSpec.ofChange Rows.nodeGetsSpec) :=
  OpenClaim.holds_of_wide 4 Try.f4 rfl rfl rfl rfl rfl rfl rfl ⟨rfl, rfl, rfl, rfl, rfl⟩ rfl rfl rfl rfl rfl (by kernel_rfl) Try.func4 (by kernel_rfl)
    (of_decide_eq_true (by kernel_rfl)) (by unfold Func.isWrapper; first | (rw [if_pos (by decide +kernel)]; kernel_rfl) | (rw [if_neg (by decide +kernel)]; exact ⟨rfl, rfl⟩))
    (fun os started H enc _ => lifted os started H enc)

theorem proved : Rows.NodeGetsSaid := over
end Go.Proofs.Ytbpaeecclikeiaa.nodeGets
