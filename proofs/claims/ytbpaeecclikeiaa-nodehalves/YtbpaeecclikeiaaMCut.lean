/-
  Parts of what can be read: 'v[l:h]', 'v[l:]', 'v[:h]'.
-/
import Derived.Test.YtbpaeecclikeiaaRow
namespace Go.Proofs.Ytbpaeecclikeiaa
open Go.RowKit Pl
set_option linter.unusedVariables false

theorem rd_sliced {k : IntKind} {w : World} {a : Option Addr} {cap : Nat} {xs : List Int} (h : Rd k w (.slice a xs.length cap) xs) (l m : Nat) (hl : l ≤ m) (hm : m ≤ xs.length) : Rd k w (sliced a l m cap 1) ((xs.drop l).take (m - l)) := by
  obtain ⟨a', cap', e, h1, h2, h3, h4⟩ := h
  cases e
  have el : ((xs.drop l).take (m - l)).length = m - l := by rw [List.length_take, List.length_drop]; omega
  unfold sliced
  rw [Nat.mul_one]
  by_cases hz : m - l = 0
  · have hnil : (xs.drop l).take (m - l) = [] := by rw [hz]; rfl
    rw [hnil, hz]
    refine ⟨_, cap - l, rfl, Nat.zero_le _, by omega, fun e => ?_, .inl rfl⟩
    by_cases c : cap = l
    · omega
    · rw [if_neg c] at e
      have : a = none := by simpa using e
      have := h3 this
      omega
  · rcases h4 with rfl | ⟨b, o, rfl, hc⟩
    · simp at hm; omega
    · rw [if_neg (by omega)]
      refine ⟨_, cap - l, by rw [el], by omega, by omega, fun e => (by cases e), .inr ⟨b, o + l, ?_, fun i hi => ?_⟩⟩
      · simp [Addr.add]
      · rw [el] at hi
        rw [Nat.add_assoc, hc (l + i) (by omega), List.getD_eq_getElem?_getD, List.getD_eq_getElem?_getD, List.getElem?_take, if_pos hi, List.getElem?_drop]

theorem size8 (w : World) : (sizeOf (Try.prog.elem 32)).run Try.prog w = .ok 1 w := by
  have h : (Try.prog.info? (Try.prog.elem 32)).map (·.size) = some 1 := by kernel_rfl
  obtain ⟨i, hi, hs⟩ := Option.map_eq_some_iff.1 h
  simp [sizeOf, typeInfo, hi, hs]

theorem under8 : Try.prog.underlying 32 = some (.slice (Try.prog.elem 32)) := by
  have : Try.prog.elem 32 = 5 := by kernel_rfl
  rw [this]
  exact Try.underlying32

/-- 'v[l:]' -/
theorem wpList_from (w w0 : World) {ops : Array Oper} {rest : List Oper} {o : Oper} {a : Act} {Q : Exit → Act → World → Prop} (hgd : o.guard = none) (x l : Operand)
    (ho : o.op = .slice 32 x (some l) none none) (v : Value) (xs : List Int) (hv : a.eval x = v) (hr : Rd .u8 w0 v xs) (m : Nat) (hl : a.eval l = .int .i64 (m : Int)) (hm : m ≤ xs.length)
    (h : ∀ v', Rd .u8 w0 v' (xs.drop m) → wpList Try.prog ops Q rest (a.put o.dst v') w) : wpList Try.prog ops Q (o :: rest) a w := by
  obtain ⟨b, cap, hb, _⟩ := id hr
  rw [hb] at hr
  have h2 := rd_sliced hr m xs.length hm (Nat.le_refl _)
  rw [show (xs.drop m).take (xs.length - m) = xs.drop m by rw [List.take_of_length_le]; rw [List.length_drop]; omega] at h2
  refine wpList_plain hgd fun K hK => ?_
  have hrun : (Instr.sliceAt 32 (.slice b xs.length cap) (some (.int .i64 (m : Int))) none none).run Try.prog w = .ok (sliced b m xs.length cap 1) w := by
    rw [run_sliceAt_slice _ _ _ _ _ _ under8, run_slice_l _ _ _ _ _ under8 _ _ (by omega) (by omega), size8]
    simp [Result.andThen]
  unfold Oper.wp execOp
  simp only [ho, hv, hl, hb, Option.map_some, Option.map_none, Sem.run_bind, hrun, Result.andThen_ok]
  exact hK _ _ (h _ h2)

/-- 'v[:m]' -/
theorem wpList_upto (w w0 : World) {ops : Array Oper} {rest : List Oper} {o : Oper} {a : Act} {Q : Exit → Act → World → Prop} (hgd : o.guard = none) (x l : Operand)
    (ho : o.op = .slice 32 x none (some l) none) (v : Value) (xs : List Int) (hv : a.eval x = v) (hr : Rd .u8 w0 v xs) (m : Nat) (hl : a.eval l = .int .i64 (m : Int)) (hm : m ≤ xs.length)
    (h : ∀ v', Rd .u8 w0 v' (xs.take m) → wpList Try.prog ops Q rest (a.put o.dst v') w) : wpList Try.prog ops Q (o :: rest) a w := by
  obtain ⟨b, cap, hb, hcap, _⟩ := id hr
  rw [hb] at hr
  have h2 := rd_sliced hr 0 m (Nat.zero_le _) hm
  rw [List.drop_zero, Nat.sub_zero] at h2
  refine wpList_plain hgd fun K hK => ?_
  have hrun : (Instr.sliceAt 32 (.slice b xs.length cap) none (some (.int .i64 (m : Int))) none).run Try.prog w = .ok (sliced b 0 m cap 1) w := by
    rw [run_sliceAt_slice _ _ _ _ _ _ under8, run_slice_h _ _ _ _ _ under8 _ _ (by omega) (by omega), size8]
    simp [Result.andThen]
  unfold Oper.wp execOp
  simp only [ho, hv, hl, hb, Option.map_some, Option.map_none, Sem.run_bind, hrun, Result.andThen_ok]
  exact hK _ _ (h _ h2)

/-- 'v[l:m]' -/
theorem wpList_mid (w w0 : World) {ops : Array Oper} {rest : List Oper} {o : Oper} {a : Act} {Q : Exit → Act → World → Prop} (hgd : o.guard = none) (x l q : Operand)
    (ho : o.op = .slice 32 x (some l) (some q) none) (v : Value) (xs : List Int) (hv : a.eval x = v) (hr : Rd .u8 w0 v xs) (p m : Nat) (hl : a.eval l = .int .i64 (p : Int)) (hq : a.eval q = .int .i64 ((p : Int) + (m : Int))) (hm : p + m ≤ xs.length)
    (h : ∀ v', Rd .u8 w0 v' ((xs.drop p).take m) → wpList Try.prog ops Q rest (a.put o.dst v') w) : wpList Try.prog ops Q (o :: rest) a w := by
  obtain ⟨b, cap, hb, hcap, _⟩ := id hr
  rw [hb] at hr
  have h2 := rd_sliced hr p (p + m) (by omega) hm
  rw [show p + m - p = m by omega] at h2
  refine wpList_plain hgd fun K hK => ?_
  have hrun : (Instr.sliceAt 32 (.slice b xs.length cap) (some (.int .i64 (p : Int))) (some (.int .i64 ((p : Int) + (m : Int)))) none).run Try.prog w = .ok (sliced b p (p + m) cap 1) w := by
    rw [run_sliceAt_slice _ _ _ _ _ _ under8, run_slice_lh _ _ _ _ _ under8 _ _ _ _ (by omega) (by omega) (by omega), size8]
    have e : ((p : Int) + (m : Int)).toNat = p + m := by omega
    simp [Result.andThen, e]
  unfold Oper.wp execOp
  simp only [ho, hv, hl, hq, hb, Option.map_some, Option.map_none, Sem.run_bind, hrun, Result.andThen_ok]
  exact hK _ _ (h _ h2)
end Go.Proofs.Ytbpaeecclikeiaa
