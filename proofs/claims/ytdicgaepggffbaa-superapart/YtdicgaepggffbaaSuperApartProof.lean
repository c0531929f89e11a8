/- 'Rows.SuperApartSaid': for every input the law SuperApart answers true, and its arguments read as they did. Conditions: none beyond the statement's own. -/
import Derived.Test.YtdicgaepggffbaaRows
import Derived.Test.YtdicgaepggffbaaLawUApart
import Derived.WalkKit
import Derived.ProofKit
import Derived.OpenShut
import Derived.ShutString
import Derived.ChangeOld
import Derived.Below
import Derived.SizedLaws
import Derived.Test.YtdicgaepggffbaaUArg
namespace Go.Proofs.Ytdicgaepggffbaa.superApart
open Go.ChangeShapes Go.WideShapes Go.ChangeAt Go.RowKit
set_option linter.unusedVariables false

theorem own : ownKnob Try.prog.godebug = none := by kernel_rfl
theorem laidOut : laidOutB Try.prog = true := by kernel_rfl

/-- What is known of a slice of numbers that came in. -/
def IsRow (k : IntKind) (w : World) (a : Option Addr) (len cap : Nat) (zs : List Int) : Prop :=
  (a = none ∧ len = 0 ∧ cap = 0 ∧ zs = []) ∨
  ∃ x, a = some x ∧ len ≤ cap ∧ cap ≤ maxLen ∧ zs.length = cap ∧ (∀ i, i < zs.length → w.cell? (x.add i) = some (.int k (zs.getD i 0))) ∧ ∀ n ∈ zs, (Lit.int k n).wf = true

theorem walk (x0 : Sp) (u0 : Value) (x1 : Sp) (u1 : Value) (w : World) (w0 : RdV w u0 x0.vs) (w1 : RdV w u1 x1.vs) :
    Calls Try.prog 7 #[.agg #[.int .i64 x0.gen, .int .i64 x0.sc, .int .i64 x0.nx, u0], .agg #[.int .i64 x1.gen, .int .i64 x1.sc, .int .i64 x1.nx, u1]] w fun e w' => e = .returned (.bool true) ∧ Below w.heap.size w w' := by
  exact superApart_walk x0 x1 _ _ w w0 w1

set_option maxRecDepth 100000 in
theorem lifted (os : Os) (started : os.Started) (H : Type) (enc : TypeId × Value → H) :
    ReturnsInHanded {} Try.checked os 7 .any (Rows.superApartSpec.pre6 enc Try.prog Try.f7 Rows.superApartRow.domain false) (Rows.superApartSpec.post enc Try.prog Try.f7 false true false false) := by
  refine returnsInHanded_of_change_sized (C := Try.checked) own started (by kernel_rfl) Try.func7
    (ChangeSpec.witness6 (enc := enc) (C := Try.checked) false ⟨#[], #[.agg #[.int .i64 0, .int .i64 0, .int .i64 0, .slice none 0 0], .agg #[.int .i64 0, .int .i64 0, .int .i64 0, .slice none 0 0]], []⟩ 8 (by kernel_rfl) (by kernel_rfl) (by kernel_rfl) (by kernel_rfl)) ?_
  intro W base args ds gs before hval0 hW hcnd hsz _
  have hval : ∀ (j : Nat) t v, Try.f7.params[j]? = some t → args[j]? = some v → Value.okWide Try.prog W .any base t v := hval0
  have hW' := hW
  obtain ⟨p, q, hA0, hV, rfl, hfz, hnd⟩ := hW
  have hA : DataW.TrodAll enc Try.prog W 0 (fun _ => true) true Try.f7.params.toList args.toList ds p := hA0
  rw [Try.params7] at hA hval hsz
  obtain ⟨v0, vs0, d0, ds0, p0, q0, hargs, rfl, rfl, h0, r0⟩ := trodAll_cons hA
  obtain ⟨v1, vs1, d1, ds1, p1, q1, rfl, rfl, rfl, h1, r1⟩ := trodAll_cons r0
  obtain ⟨rfl, rfl, rfl⟩ := trodAll_nil r1
  obtain rfl : args = #[v0, v1] := by cases args; simp_all
  obtain ⟨rfl, rfl⟩ := trodVars_none hV
  obtain ⟨cs0, rfl, hcz0⟩ := okWide_struct Try.underlying24 (hval 0 24 v0 rfl rfl)
  have k0 := h0
  have lt0 : ∀ x ∈ p0, x.block < W.heap.size := by obtain ⟨m, hm⟩ := k0; exact DataW.trod_lt m _ _ _ hm
  obtain ⟨x0, u0, hcs0, w0⟩ : ∃ (x : Sp) (u : Value), cs0 = #[.int .i64 x.gen, .int .i64 x.sc, .int .i64 x.nx, u] ∧ RdV W u x.vs := by
    obtain ⟨fuel, hf⟩ := h0
    obtain ⟨x, u, hcs, h1⟩ := one_super hf
    refine ⟨x, u, ?_, h1⟩
    have h : cs0.toList = [.int .i64 x.gen, .int .i64 x.sc, .int .i64 x.nx, u] := hcs
    rw [← Array.toArray_toList (xs := cs0), h]
  subst hcs0
  obtain ⟨cs1, rfl, hcz1⟩ := okWide_struct Try.underlying24 (hval 1 24 v1 rfl rfl)
  have k1 := h1
  have lt1 : ∀ x ∈ p1, x.block < W.heap.size := by obtain ⟨m, hm⟩ := k1; exact DataW.trod_lt m _ _ _ hm
  obtain ⟨x1, u1, hcs1, w1⟩ : ∃ (x : Sp) (u : Value), cs1 = #[.int .i64 x.gen, .int .i64 x.sc, .int .i64 x.nx, u] ∧ RdV W u x.vs := by
    obtain ⟨fuel, hf⟩ := h1
    obtain ⟨x, u, hcs, h1⟩ := one_super hf
    refine ⟨x, u, ?_, h1⟩
    have h : cs1.toList = [.int .i64 x.gen, .int .i64 x.sc, .int .i64 x.nx, u] := hcs
    rw [← Array.toArray_toList (xs := cs1), h]
  subst hcs1
  clear hA0 hval0
  refine (walk x0 u0 x1 u1 W w0 w1).mono fun e W' ⟨he, bel⟩ => ?_
  subst he
  exact ⟨_, rfl, _, _, _, [], _, [], hW', trodAll_mk1 (shut_bool Try.underlying4 _), (trodAll_cons_mk (Below.trod laidOut (by kernel_rfl) (of_decide_eq_true (by kernel_rfl)) k0 bel lt0) (trodAll_cons_mk (Below.trod laidOut (by kernel_rfl) (of_decide_eq_true (by kernel_rfl)) k1 bel lt1) trodAll_mk0)), rfl, bel.frame _, fun h => by cases h⟩

theorem over : Rows.superApartRow.holds Try.pinned (OpenSpec.ofChange Rows.superApartSpec) :=
  OpenClaim.holds_of_wide 7 Try.f7 rfl rfl rfl rfl rfl rfl rfl ⟨rfl, rfl, rfl, rfl, rfl⟩ rfl rfl rfl rfl rfl (by kernel_rfl) Try.func7 (by kernel_rfl)
    (of_decide_eq_true (by kernel_rfl)) (by unfold Func.isWrapper; first | (rw [if_pos (by decide +kernel)]; kernel_rfl) | (rw [if_neg (by decide +kernel)]; exact ⟨rfl, rfl⟩))
    (fun os started H enc _ => lifted os started H enc)

theorem proved : Rows.SuperApartSaid := over
end Go.Proofs.Ytdicgaepggffbaa.superApart
