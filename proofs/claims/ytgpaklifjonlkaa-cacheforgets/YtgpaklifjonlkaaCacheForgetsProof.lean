/- 'Rows.CacheForgetsSaid': for every input the law CacheForgets answers true, and its arguments read as they did. Conditions: none beyond the statement's own. -/
import Derived.Test.YtgpaklifjonlkaaRows
import Derived.Test.YtgpaklifjonlkaaKF29
import Derived.WalkKit
import Derived.ProofKit
import Derived.OpenShut
import Derived.ShutString
import Derived.ChangeOld
import Derived.Below
import Derived.SizedLaws
import Derived.Test.YtgpaklifjonlkaaKF04
namespace Go.Proofs.Ytgpaklifjonlkaa.cacheForgets
open Go.ChangeShapes Go.WideShapes Go.ChangeAt Go.RowKit
set_option linter.unusedVariables false

theorem own : ownKnob Try.prog.godebug = none := by kernel_rfl
theorem laidOut : laidOutB Try.prog = true := by kernel_rfl

/-- What is known of a slice of numbers that came in. -/
def IsRow (k : IntKind) (w : World) (a : Option Addr) (len cap : Nat) (zs : List Int) : Prop :=
  (a = none ∧ len = 0 ∧ cap = 0 ∧ zs = []) ∨
  ∃ x, a = some x ∧ len ≤ cap ∧ cap ≤ maxLen ∧ zs.length = cap ∧ (∀ i, i < zs.length → w.cell? (x.add i) = some (.int k (zs.getD i 0))) ∧ ∀ n ∈ zs, (Lit.int k n).wf = true

theorem walk (k0 : Int) (a0 : Option Addr) (len0 cap0 : Nat) (z0 : List Int) (k1 : Int) (a1 : Option Addr) (len1 cap1 : Nat) (z1 : List Int) (b2 : Bool) (w : World) (w0 : IsRow .u8 w a0 len0 cap0 z0) (s0 : z0.length * 1 ≤ 140737488351232) (w1 : IsRow .u8 w a1 len1 cap1 z1) (s1 : z1.length * 1 ≤ 140737488351232) :
    Calls Try.prog 7 #[.agg #[.int .i64 k0, .slice a0 len0 cap0], .agg #[.int .i64 k1, .slice a1 len1 cap1], .bool b2] w fun e w' => e = .returned (.bool true) ∧ Below w.heap.size w w' := by
  obtain ⟨h0, hw0⟩ := rd_of_row w0
  obtain ⟨h1, hw1⟩ := rd_of_row w1
  exact cacheForgets_walk k0 k1 _ _ _ _ b2 w h0 (by_of_wf hw0) h1 (by_of_wf hw1)

set_option maxRecDepth 100000 in
theorem lifted (os : Os) (started : os.Started) (H : Type) (enc : TypeId × Value → H) :
    ReturnsInHanded {} Try.checked os 7 .any (Rows.cacheForgetsSpec.pre6 enc Try.prog Try.f7 Rows.cacheForgetsRow.domain false) (Rows.cacheForgetsSpec.post enc Try.prog Try.f7 false true false false) := by
  refine returnsInHanded_of_change_sized (C := Try.checked) own started (by kernel_rfl) Try.func7
    (ChangeSpec.witness6 (enc := enc) (C := Try.checked) false ⟨#[], #[.agg #[.int .i64 0, .slice none 0 0], .agg #[.int .i64 0, .slice none 0 0], .bool false], []⟩ 8 (by kernel_rfl) (by kernel_rfl) (by kernel_rfl) (by kernel_rfl)) ?_
  intro W base args ds gs before hval0 hW hcnd hsz _
  have hval : ∀ (j : Nat) t v, Try.f7.params[j]? = some t → args[j]? = some v → Value.okWide Try.prog W .any base t v := hval0
  have hW' := hW
  obtain ⟨p, q, hA0, hV, rfl, hfz, hnd⟩ := hW
  have hA : DataW.TrodAll enc Try.prog W 0 (fun _ => true) true Try.f7.params.toList args.toList ds p := hA0
  rw [Try.params7] at hA hval hsz
  obtain ⟨v0, vs0, d0, ds0, p0, q0, hargs, rfl, rfl, h0, r0⟩ := trodAll_cons hA
  obtain ⟨v1, vs1, d1, ds1, p1, q1, rfl, rfl, rfl, h1, r1⟩ := trodAll_cons r0
  obtain ⟨v2, vs2, d2, ds2, p2, q2, rfl, rfl, rfl, h2, r2⟩ := trodAll_cons r1
  obtain ⟨rfl, rfl, rfl⟩ := trodAll_nil r2
  obtain rfl : args = #[v0, v1, v2] := by cases args; simp_all
  obtain ⟨rfl, rfl⟩ := trodVars_none hV
  obtain ⟨cs0, rfl, hcz0⟩ := okWide_struct Try.underlying40 (hval 0 40 v0 rfl rfl)
  have q0 := h0
  have lt0 : ∀ x ∈ p0, x.block < W.heap.size := by obtain ⟨m, hm⟩ := q0; exact DataW.trod_lt m _ _ _ hm
  obtain ⟨k0, a0, len0, cap0, z0, hcs0, w0, s0⟩ : ∃ k a len cap zs, cs0 = #[.int .i64 k, .slice a len cap] ∧ IsRow .u8 W a len cap zs ∧ zs.length * 1 ≤ 140737488351232 := by
    obtain ⟨fuel, hf⟩ := h0
    obtain ⟨k, u1, y0, y1, m, hcs, t0', hd0⟩ := block_open hf
    have hcs : cs0 = #[.int .i64 k, u1] := by have h : cs0.toList = [.int .i64 k, u1] := hcs; rw [← Array.toArray_toList (xs := cs0), h]
    subst hcs
    clear hf
    rcases open_ints Try.underlying38 Try.underlying5 (by kernel_rfl) t0' with ⟨hcs, _⟩ | ⟨x, l, c, zs, hcs, _, hl', hm, hz, hxx, hcell, hwz⟩
    · simp only [List.cons.injEq, and_true] at hcs
      subst hcs
      exact ⟨k, none, 0, 0, [], rfl, .inl ⟨rfl, rfl, rfl, rfl⟩, by simp⟩
    · simp only [List.cons.injEq, and_true] at hcs
      subst hcs
      refine ⟨k, some x, l, c, zs, rfl, .inr ⟨_, rfl, hl', hm, by simpa using hz, hcell, hwz⟩, ?_⟩
      have hd0 : d0 = .agg [y0.1, y1.1] := hd0
      have hy1 : y1.1 = _ := congrArg Prod.fst hxx
      rw [hy1] at hd0
      have h3 := block_sized hsz (j := 0) rfl (congrArg some hd0)
      unfold reachBytes at h3
      simp only [lits, List.length_map, List.length_take, List.length_drop] at h3
      have h4 : zs.length = c := by simpa using hz
      omega
  subst hcs0
  obtain ⟨cs1, rfl, hcz1⟩ := okWide_struct Try.underlying40 (hval 1 40 v1 rfl rfl)
  have q1 := h1
  have lt1 : ∀ x ∈ p1, x.block < W.heap.size := by obtain ⟨m, hm⟩ := q1; exact DataW.trod_lt m _ _ _ hm
  obtain ⟨k1, a1, len1, cap1, z1, hcs1, w1, s1⟩ : ∃ k a len cap zs, cs1 = #[.int .i64 k, .slice a len cap] ∧ IsRow .u8 W a len cap zs ∧ zs.length * 1 ≤ 140737488351232 := by
    obtain ⟨fuel, hf⟩ := h1
    obtain ⟨k, u1, y0, y1, m, hcs, t0', hd0⟩ := block_open hf
    have hcs : cs1 = #[.int .i64 k, u1] := by have h : cs1.toList = [.int .i64 k, u1] := hcs; rw [← Array.toArray_toList (xs := cs1), h]
    subst hcs
    clear hf
    rcases open_ints Try.underlying38 Try.underlying5 (by kernel_rfl) t0' with ⟨hcs, _⟩ | ⟨x, l, c, zs, hcs, _, hl', hm, hz, hxx, hcell, hwz⟩
    · simp only [List.cons.injEq, and_true] at hcs
      subst hcs
      exact ⟨k, none, 0, 0, [], rfl, .inl ⟨rfl, rfl, rfl, rfl⟩, by simp⟩
    · simp only [List.cons.injEq, and_true] at hcs
      subst hcs
      refine ⟨k, some x, l, c, zs, rfl, .inr ⟨_, rfl, hl', hm, by simpa using hz, hcell, hwz⟩, ?_⟩
      have hd0 : d1 = .agg [y0.1, y1.1] := hd0
      have hy1 : y1.1 = _ := congrArg Prod.fst hxx
      rw [hy1] at hd0
      have h3 := block_sized hsz (j := 1) rfl (congrArg some hd0)
      unfold reachBytes at h3
      simp only [lits, List.length_map, List.length_take, List.length_drop] at h3
      have h4 : zs.length = c := by simpa using hz
      omega
  subst hcs1
  obtain ⟨b2, rfl, rfl, rfl⟩ := open_bool Try.underlying4 (hval 2 4 v2 rfl rfl) h2
  clear hA0 hval0
  refine (walk k0 a0 len0 cap0 z0 k1 a1 len1 cap1 z1 b2 W w0 s0 w1 s1).mono fun e W' ⟨he, bel⟩ => ?_
  subst he
  exact ⟨_, rfl, _, _, _, [], _, [], hW', trodAll_mk1 (shut_bool Try.underlying4 _), (trodAll_cons_mk (Below.trod laidOut (by kernel_rfl) (of_decide_eq_true (by kernel_rfl)) q0 bel lt0) (trodAll_cons_mk (Below.trod laidOut (by kernel_rfl) (of_decide_eq_true (by kernel_rfl)) q1 bel lt1) (trodAll_cons_mk (shut_bool Try.underlying4 b2) trodAll_mk0))), rfl, bel.frame _, fun h => by cases h⟩

theorem over : Rows.cacheForgetsRow.holds Try.pinned (OpenSpec.ofChange Rows.cacheForgetsSpec) :=
  OpenClaim.holds_of_wide 7 Try.f7 rfl rfl rfl rfl rfl rfl rfl ⟨rfl, rfl, rfl, rfl, rfl⟩ rfl rfl rfl rfl rfl (by kernel_rfl) Try.func7 (by kernel_rfl)
    (of_decide_eq_true (by kernel_rfl)) (by unfold Func.isWrapper; first | (rw [if_pos (by decide +kernel)]; kernel_rfl) | (rw [if_neg (by decide +kernel)]; exact ⟨rfl, rfl⟩))
    (fun os started H enc _ => lifted os started H enc)

theorem proved : Rows.CacheForgetsSaid := over
end Go.Proofs.Ytgpaklifjonlkaa.cacheForgets
