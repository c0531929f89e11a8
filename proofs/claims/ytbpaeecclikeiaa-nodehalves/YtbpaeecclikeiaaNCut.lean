/-
  Parts of what can be read; the program's cutAt.
-/
import Derived.Test.YtbpaeecclikeiaaNSl
import Derived.Test.YtbpaeecclikeiaaNReg
import Derived.Test.YtbpaeecclikeiaaBReg
namespace Go.Proofs.Ytbpaeecclikeiaa
open Go.RowKit Pl
set_option linter.unusedVariables false
set_option linter.unusedSimpArgs false
set_option maxRecDepth 100000

theorem rdV_sliced {w : World} {a : Option Addr} {cap : Nat} {cs : List Value} (h : RdV w (.slice a cs.length cap) cs) (l m : Nat) (hl : l ≤ m) (hm : m ≤ cs.length) : RdV w (sliced a l m cap 1) ((cs.drop l).take (m - l)) := by
  obtain ⟨a', cap', e, h1, h2, h3, h4⟩ := h
  cases e
  have el : ((cs.drop l).take (m - l)).length = m - l := by rw [List.length_take, List.length_drop]; omega
  unfold sliced
  rw [Nat.mul_one]
  by_cases hz : m - l = 0
  · have hnil : (cs.drop l).take (m - l) = [] := by rw [hz]; rfl
    rw [hnil, hz]
    refine ⟨_, cap - l, rfl, Nat.zero_le _, by omega, fun e => ?_, .inl rfl⟩
    by_cases c : cap = l
    · omega
    · rw [if_neg c] at e
      have : a = none := by simpa using e
      have := h3 this
      omega
  · rcases h4 with rfl | ⟨b, o, rfl, hc⟩
    · simp at hm; omega
    · rw [if_neg (by omega)]
      refine ⟨_, cap - l, by rw [el], by omega, by omega, fun e => (by cases e), .inr ⟨b, o + l, by simp [Addr.add], fun i c hi => ?_⟩⟩
      have := (List.getElem?_eq_some_iff.1 hi).1
      rw [el] at this
      rw [List.getElem?_take, if_pos this, List.getElem?_drop] at hi
      have := hc (l + i) c hi
      rw [Nat.add_assoc]
      exact this

theorem sizeSV (w : World) : (sizeOf (Try.prog.elem 22)).run Try.prog w = .ok 1 w := by
  have h : (Try.prog.info? (Try.prog.elem 22)).map (·.size) = some 1 := by kernel_rfl
  obtain ⟨i, hi, hs⟩ := Option.map_eq_some_iff.1 h
  simp [sizeOf, typeInfo, hi, hs]
theorem underSV : Try.prog.underlying 22 = some (.slice (Try.prog.elem 22)) := by
  have : Try.prog.elem 22 = 9 := by kernel_rfl
  rw [this]
  exact Try.underlying22
theorem fromSV (b : Option Addr) (L cap p : Nat) (h1 : p ≤ L) (h2 : L ≤ cap) (w : World) : (Instr.sliceAt 22 (.slice b L cap) (some (.int .i64 (p : Int))) none none).run Try.prog w = .ok (sliced b p L cap 1) w := by
  rw [run_sliceAt_slice _ _ _ _ _ _ underSV, run_slice_l _ _ _ _ _ underSV _ _ (by omega) (by omega), sizeSV]
  simp [Result.andThen]
theorem uptoSV (b : Option Addr) (L cap p : Nat) (h1 : p ≤ L) (h2 : L ≤ cap) (w : World) : (Instr.sliceAt 22 (.slice b L cap) none (some (.int .i64 (p : Int))) none).run Try.prog w = .ok (sliced b 0 p cap 1) w := by
  rw [run_sliceAt_slice _ _ _ _ _ _ underSV, run_slice_h _ _ _ _ _ underSV _ _ (by omega) (by omega), sizeSV]
  simp [Result.andThen]
set_option maxHeartbeats 1000000 in
theorem cutAtS_any (v : Value) (xs : List Value) (m : Nat) (w : World) (ha : RdV w v xs) (h1 : ∀ x ∈ xs, x.oneCell' = true) (h3 : xs.length * 16 ≤ 140737488355328) (hm : m ≤ 9007199254740992) :
    Calls Try.prog 39 #[v, .int .i64 (m : Int)] w fun e w' => (∃ v1 v2, e = .returned (.tuple #[v1, v2]) ∧ RdV w' v1 (xs.take m) ∧ RdV w' v2 (xs.drop m) ∧ ∀ j, (v1.ownBlock = some j ∨ v2.ownBlock = some j) → w.heap.size ≤ j) ∧ Below w.heap.size w w' := by
  obtain ⟨p, hp⟩ : ∃ p, p = min m xs.length := ⟨_, rfl⟩
  have ht : xs.take m = xs.take p := by rw [hp]; by_cases h : m ≤ xs.length; (· rw [Nat.min_eq_left h]); (· rw [Nat.min_eq_right (by omega), List.take_of_length_le (by omega), List.take_of_length_le (Nat.le_refl _)])
  have hd : xs.drop m = xs.drop p := by rw [hp]; by_cases h : m ≤ xs.length; (· rw [Nat.min_eq_left h]); (· rw [Nat.min_eq_right (by omega), List.drop_of_length_le (by omega), List.drop_of_length_le (Nat.le_refl _)])
  rw [ht, hd]
  have hpl : p ≤ xs.length := by omega
  obtain ⟨a, cap, rfl, l1, l2, hn0⟩ := ha.len
  have R1H := hideN (rdV_sliced ha 0 p (Nat.zero_le _) hpl)
  have R2H := hideN (rdV_sliced ha p xs.length hpl (Nat.le_refl _))
  rw [List.drop_zero, Nat.sub_zero] at R1H
  rw [show (xs.drop p).take (xs.length - p) = xs.drop p by rw [List.take_of_length_le]; rw [List.length_drop]; omega] at R2H
  have HC : Hid (∀ W v cs, Below w.heap.size w W → RdV W v cs → cs.length ≤ xs.length → (∀ x ∈ cs, x.oneCell' = true) → Calls Try.prog 49 #[v] W fun e w' => (∃ v', e = .returned v' ∧ RdV w' v' cs ∧ ∀ j, v'.ownBlock = some j → W.heap.size ≤ j) ∧ Below W.heap.size W w') := fun W v cs _ hr hl h1 => cloneS_any v cs W hr h1 (Nat.le_trans (Nat.mul_le_mul_right _ hl) h3)
  have HT : Hid ((xs.take p).length ≤ xs.length ∧ ∀ x ∈ xs.take p, x.oneCell' = true) := ⟨by rw [List.length_take]; omega, fun x hx => h1 x (List.mem_of_mem_take hx)⟩
  have HD : Hid ((xs.drop p).length ≤ xs.length ∧ ∀ x ∈ xs.drop p, x.oneCell' = true) := ⟨by rw [List.length_drop]; omega, fun x hx => h1 x (List.mem_of_mem_drop hx)⟩
  have hL : xs.length ≤ 9007199254740992 := by omega
  have U1 := hideN (uptoSV a xs.length cap p hpl l1)
  have U2 := hideN (fromSV a xs.length cap p hpl l1)
  obtain ⟨L, hLL⟩ : ∃ L, Hid (xs.length = L) := ⟨_, rfl⟩
  have HM : Hid (p = min m L) := by rw [← hLL.out]; exact hp
  rw [hLL.out] at l1 R2H hpl hL U1 U2 ⊢
  have h0 : Below w.heap.size w w.drew := (Below.refl _ _).drew
  clear ha h1 hp ht hd hn0 h3
  by_cases hmin : m ≤ L
  · have hpm : p = m := by have := HM.out; omega
    have hmi : (m : Int) ≤ (L : Int) := by omega
    subst hpm
    clear HM
    go_enter Try.func39, Try.ntmps39
    go_wp2_with fail
    refine beginW (S := fun _ => True) (t := 9) (by kernel_rfl) ?_
    refine takeW 0 (some 10) (.move (.tmp 0)) (Value.slice a L cap) rfl rfl (by kernel_rfl) (by kernel_rfl) (by kernel_rfl) (by kernel_rfl) (fun _ _ _ h => h) ?hy trivial ?_
    case hy =>
      rintro o ho w' _
      first | (go_simp; done) | (go_simp; omega)
    simp only [Act.put, List.setIfInBounds_toArray, List.set_cons_zero, List.set_cons_succ]
    refine takeW 1 (some 11) (.move (.tmp 1)) (Value.int .i64 (p : Int)) rfl rfl (by kernel_rfl) (by kernel_rfl) (by kernel_rfl) (by kernel_rfl) (fun _ _ _ h => h) ?hy trivial ?_
    case hy =>
      rintro o ho w' _
      first | (go_simp; done) | (go_simp; omega)
    simp only [Act.put, List.setIfInBounds_toArray, List.set_cons_zero, List.set_cons_succ]
    refine takeW 2 (some 12) (.slice 22 (.tmp 10) none (some (.tmp 11)) none) (sliced a 0 p cap 1) rfl rfl (by kernel_rfl) (by kernel_rfl) (by kernel_rfl) (by kernel_rfl) (fun _ _ _ h => h) ?hy trivial ?_
    case hy =>
      rintro o ho w' _
      unfold execOp
      simp only [ho, Option.map_some, Option.map_none, Sem.run_bind]
      erw [U1.out w']
      rfl
    simp only [Act.put, List.setIfInBounds_toArray, List.set_cons_zero, List.set_cons_succ]
    refine takeW 4 (some 14) (.move (.tmp 0)) (Value.slice a L cap) rfl rfl (by kernel_rfl) (by kernel_rfl) (by kernel_rfl) (by kernel_rfl) (fun _ _ _ h => h) ?hy trivial ?_
    case hy =>
      rintro o ho w' _
      first | (go_simp; done) | (go_simp; omega)
    simp only [Act.put, List.setIfInBounds_toArray, List.set_cons_zero, List.set_cons_succ]
    refine takeW 5 (some 15) (.move (.tmp 1)) (Value.int .i64 (p : Int)) rfl rfl (by kernel_rfl) (by kernel_rfl) (by kernel_rfl) (by kernel_rfl) (fun _ _ _ h => h) ?hy trivial ?_
    case hy =>
      rintro o ho w' _
      first | (go_simp; done) | (go_simp; omega)
    simp only [Act.put, List.setIfInBounds_toArray, List.set_cons_zero, List.set_cons_succ]
    refine takeW 6 (some 16) (.slice 22 (.tmp 14) (some (.tmp 15)) none none) (sliced a p L cap 1) rfl rfl (by kernel_rfl) (by kernel_rfl) (by kernel_rfl) (by kernel_rfl) (fun _ _ _ h => h) ?hy trivial ?_
    case hy =>
      rintro o ho w' _
      unfold execOp
      simp only [ho, Option.map_some, Option.map_none, Sem.run_bind]
      erw [U2.out w']
      rfl
    simp only [Act.put, List.setIfInBounds_toArray, List.set_cons_zero, List.set_cons_succ]
    refine readyW 3 (some 13) (.call { callee := .value (.func 49), args := #[.tmp 12], argTypes := #[22] }) rfl (by kernel_rfl) ?_
    rintro o K hd ho hg hK
    refine step_call (enters_of Try.func49 (by kernel_rfl) rfl) ho (vs := #[sliced a 0 p cap 1]) (by kernel_rfl) (HC.out _ _ _ h0 (R1H.out.below h0) HT.out.1 HT.out.2) ?_
    rintro e w2 ⟨⟨v2, rfl, hr2, hn2⟩, hb2⟩
    have B2 : Hid (Below w.heap.size w w2) := h0.trans (hb2.mono (Nat.le_refl _))
    have RR2 := hideN hr2
    have N2 : Hid (∀ j, v2.ownBlock = some j → w.heap.size ≤ j) := hn2
    clear hr2 hn2 hb2
    refine ⟨_, rfl, ?_⟩
    rw [hd]
    refine hK _ _ (fun _ => trivial) ?_
    clear ho hd hg hK
    simp only [Act.put, List.setIfInBounds_toArray, List.set_cons_zero, List.set_cons_succ]
    refine readyW 7 (some 17) (.call { callee := .value (.func 49), args := #[.tmp 16], argTypes := #[22] }) rfl (by kernel_rfl) ?_
    rintro o K hd ho hg hK
    refine step_call (enters_of Try.func49 (by kernel_rfl) rfl) ho (vs := #[sliced a p L cap 1]) (by kernel_rfl) (HC.out _ _ _ B2.out (R2H.out.below B2.out) HD.out.1 HD.out.2) ?_
    rintro e w3 ⟨⟨v3, rfl, hr3, hn3⟩, hb3⟩
    have B3 : Hid (Below w.heap.size w w3) := B2.out.trans (hb3.mono B2.out.size)
    have RR3 := hideN hr3
    have RR4 := hideN (RR2.out.below hb3)
    have N3 : Hid (∀ j, v3.ownBlock = some j → w.heap.size ≤ j) := fun j hj => Nat.le_trans B2.out.size (hn3 j hj)
    clear hr3 hn3 hb3
    refine ⟨_, rfl, ?_⟩
    rw [hd]
    refine hK _ _ (fun _ => trivial) ?_
    clear ho hd hg hK
    simp only [Act.put, List.setIfInBounds_toArray, List.set_cons_zero, List.set_cons_succ]
    refine readyW 8 (some 4) (.assign (.tmp 13)) rfl (by kernel_rfl) ?_
    rintro o K hd ho hg hK
    refine stepY (v := v2) ?hy ?_
    case hy => go_simp
    rw [hd]
    refine hK _ _ (fun _ => trivial) ?_
    clear ho hd hg hK
    simp only [Act.put, List.setIfInBounds_toArray, List.set_cons_zero, List.set_cons_succ]
    refine readyW 9 (some 5) (.assign (.tmp 17)) rfl (by kernel_rfl) ?_
    rintro o K hd ho hg hK
    refine stepY (v := v3) ?hy ?_
    case hy => go_simp
    rw [hd]
    refine hK _ _ (fun e => absurd rfl e) ?_
    clear ho hd hg hK
    simp only [Act.put, List.setIfInBounds_toArray, List.set_cons_zero, List.set_cons_succ]
    refine doneW (by kernel_rfl) ?_ _
    go_wp2_with fail
    go_ret2
    exact ⟨⟨_, _, rfl, RR4.out, RR3.out, fun j hj => hj.elim (N2.out j) (N3.out j)⟩, B3.out⟩
  · have hpm : p = L := by have := HM.out; omega
    have hmi : ¬ (m : Int) ≤ (L : Int) := by omega
    subst hpm
    clear HM
    go_enter Try.func39, Try.ntmps39
    go_wp2_with fail
    refine beginW (S := fun _ => True) (t := 9) (by kernel_rfl) ?_
    refine takeW 0 (some 10) (.move (.tmp 0)) (Value.slice a p cap) rfl rfl (by kernel_rfl) (by kernel_rfl) (by kernel_rfl) (by kernel_rfl) (fun _ _ _ h => h) ?hy trivial ?_
    case hy =>
      rintro o ho w' _
      first | (go_simp; done) | (go_simp; omega)
    simp only [Act.put, List.setIfInBounds_toArray, List.set_cons_zero, List.set_cons_succ]
    refine takeW 1 (some 11) (.move (.tmp 1)) (Value.int .i64 (p : Int)) rfl rfl (by kernel_rfl) (by kernel_rfl) (by kernel_rfl) (by kernel_rfl) (fun _ _ _ h => h) ?hy trivial ?_
    case hy =>
      rintro o ho w' _
      first | (go_simp; done) | (go_simp; omega)
    simp only [Act.put, List.setIfInBounds_toArray, List.set_cons_zero, List.set_cons_succ]
    refine takeW 2 (some 12) (.slice 22 (.tmp 10) none (some (.tmp 11)) none) (sliced a 0 p cap 1) rfl rfl (by kernel_rfl) (by kernel_rfl) (by kernel_rfl) (by kernel_rfl) (fun _ _ _ h => h) ?hy trivial ?_
    case hy =>
      rintro o ho w' _
      unfold execOp
      simp only [ho, Option.map_some, Option.map_none, Sem.run_bind]
      erw [U1.out w']
      rfl
    simp only [Act.put, List.setIfInBounds_toArray, List.set_cons_zero, List.set_cons_succ]
    refine takeW 4 (some 14) (.move (.tmp 0)) (Value.slice a p cap) rfl rfl (by kernel_rfl) (by kernel_rfl) (by kernel_rfl) (by kernel_rfl) (fun _ _ _ h => h) ?hy trivial ?_
    case hy =>
      rintro o ho w' _
      first | (go_simp; done) | (go_simp; omega)
    simp only [Act.put, List.setIfInBounds_toArray, List.set_cons_zero, List.set_cons_succ]
    refine takeW 5 (some 15) (.move (.tmp 1)) (Value.int .i64 (p : Int)) rfl rfl (by kernel_rfl) (by kernel_rfl) (by kernel_rfl) (by kernel_rfl) (fun _ _ _ h => h) ?hy trivial ?_
    case hy =>
      rintro o ho w' _
      first | (go_simp; done) | (go_simp; omega)
    simp only [Act.put, List.setIfInBounds_toArray, List.set_cons_zero, List.set_cons_succ]
    refine takeW 6 (some 16) (.slice 22 (.tmp 14) (some (.tmp 15)) none none) (sliced a p p cap 1) rfl rfl (by kernel_rfl) (by kernel_rfl) (by kernel_rfl) (by kernel_rfl) (fun _ _ _ h => h) ?hy trivial ?_
    case hy =>
      rintro o ho w' _
      unfold execOp
      simp only [ho, Option.map_some, Option.map_none, Sem.run_bind]
      erw [U2.out w']
      rfl
    simp only [Act.put, List.setIfInBounds_toArray, List.set_cons_zero, List.set_cons_succ]
    refine readyW 3 (some 13) (.call { callee := .value (.func 49), args := #[.tmp 12], argTypes := #[22] }) rfl (by kernel_rfl) ?_
    rintro o K hd ho hg hK
    refine step_call (enters_of Try.func49 (by kernel_rfl) rfl) ho (vs := #[sliced a 0 p cap 1]) (by kernel_rfl) (HC.out _ _ _ h0 (R1H.out.below h0) HT.out.1 HT.out.2) ?_
    rintro e w2 ⟨⟨v2, rfl, hr2, hn2⟩, hb2⟩
    have B2 : Hid (Below w.heap.size w w2) := h0.trans (hb2.mono (Nat.le_refl _))
    have RR2 := hideN hr2
    have N2 : Hid (∀ j, v2.ownBlock = some j → w.heap.size ≤ j) := hn2
    clear hr2 hn2 hb2
    refine ⟨_, rfl, ?_⟩
    rw [hd]
    refine hK _ _ (fun _ => trivial) ?_
    clear ho hd hg hK
    simp only [Act.put, List.setIfInBounds_toArray, List.set_cons_zero, List.set_cons_succ]
    refine readyW 7 (some 17) (.call { callee := .value (.func 49), args := #[.tmp 16], argTypes := #[22] }) rfl (by kernel_rfl) ?_
    rintro o K hd ho hg hK
    refine step_call (enters_of Try.func49 (by kernel_rfl) rfl) ho (vs := #[sliced a p p cap 1]) (by kernel_rfl) (HC.out _ _ _ B2.out (R2H.out.below B2.out) HD.out.1 HD.out.2) ?_
    rintro e w3 ⟨⟨v3, rfl, hr3, hn3⟩, hb3⟩
    have B3 : Hid (Below w.heap.size w w3) := B2.out.trans (hb3.mono B2.out.size)
    have RR3 := hideN hr3
    have RR4 := hideN (RR2.out.below hb3)
    have N3 : Hid (∀ j, v3.ownBlock = some j → w.heap.size ≤ j) := fun j hj => Nat.le_trans B2.out.size (hn3 j hj)
    clear hr3 hn3 hb3
    refine ⟨_, rfl, ?_⟩
    rw [hd]
    refine hK _ _ (fun _ => trivial) ?_
    clear ho hd hg hK
    simp only [Act.put, List.setIfInBounds_toArray, List.set_cons_zero, List.set_cons_succ]
    refine readyW 8 (some 4) (.assign (.tmp 13)) rfl (by kernel_rfl) ?_
    rintro o K hd ho hg hK
    refine stepY (v := v2) ?hy ?_
    case hy => go_simp
    rw [hd]
    refine hK _ _ (fun _ => trivial) ?_
    clear ho hd hg hK
    simp only [Act.put, List.setIfInBounds_toArray, List.set_cons_zero, List.set_cons_succ]
    refine readyW 9 (some 5) (.assign (.tmp 17)) rfl (by kernel_rfl) ?_
    rintro o K hd ho hg hK
    refine stepY (v := v3) ?hy ?_
    case hy => go_simp
    rw [hd]
    refine hK _ _ (fun e => absurd rfl e) ?_
    clear ho hd hg hK
    simp only [Act.put, List.setIfInBounds_toArray, List.set_cons_zero, List.set_cons_succ]
    refine doneW (by kernel_rfl) ?_ _
    go_wp2_with fail
    go_ret2
    exact ⟨⟨_, _, rfl, RR4.out, RR3.out, fun j hj => hj.elim (N2.out j) (N3.out j)⟩, B3.out⟩

theorem sizeIV (w : World) : (sizeOf (Try.prog.elem 23)).run Try.prog w = .ok 1 w := by
  have h : (Try.prog.info? (Try.prog.elem 23)).map (·.size) = some 1 := by kernel_rfl
  obtain ⟨i, hi, hs⟩ := Option.map_eq_some_iff.1 h
  simp [sizeOf, typeInfo, hi, hs]
theorem underIV : Try.prog.underlying 23 = some (.slice (Try.prog.elem 23)) := by
  have : Try.prog.elem 23 = 3 := by kernel_rfl
  rw [this]
  exact Try.underlying23
theorem fromIV (b : Option Addr) (L cap p : Nat) (h1 : p ≤ L) (h2 : L ≤ cap) (w : World) : (Instr.sliceAt 23 (.slice b L cap) (some (.int .i64 (p : Int))) none none).run Try.prog w = .ok (sliced b p L cap 1) w := by
  rw [run_sliceAt_slice _ _ _ _ _ _ underIV, run_slice_l _ _ _ _ _ underIV _ _ (by omega) (by omega), sizeIV]
  simp [Result.andThen]
theorem uptoIV (b : Option Addr) (L cap p : Nat) (h1 : p ≤ L) (h2 : L ≤ cap) (w : World) : (Instr.sliceAt 23 (.slice b L cap) none (some (.int .i64 (p : Int))) none).run Try.prog w = .ok (sliced b 0 p cap 1) w := by
  rw [run_sliceAt_slice _ _ _ _ _ _ underIV, run_slice_h _ _ _ _ _ underIV _ _ (by omega) (by omega), sizeIV]
  simp [Result.andThen]
set_option maxHeartbeats 1000000 in
theorem cutAtI_any (v : Value) (xs : List Value) (m : Nat) (w : World) (ha : RdV w v xs) (h1 : ∀ x ∈ xs, x.oneCell' = true) (h3 : xs.length * 8 ≤ 140737488355328) (hm : m ≤ 9007199254740992) :
    Calls Try.prog 40 #[v, .int .i64 (m : Int)] w fun e w' => (∃ v1 v2, e = .returned (.tuple #[v1, v2]) ∧ RdV w' v1 (xs.take m) ∧ RdV w' v2 (xs.drop m) ∧ ∀ j, (v1.ownBlock = some j ∨ v2.ownBlock = some j) → w.heap.size ≤ j) ∧ Below w.heap.size w w' := by
  obtain ⟨p, hp⟩ : ∃ p, p = min m xs.length := ⟨_, rfl⟩
  have ht : xs.take m = xs.take p := by rw [hp]; by_cases h : m ≤ xs.length; (· rw [Nat.min_eq_left h]); (· rw [Nat.min_eq_right (by omega), List.take_of_length_le (by omega), List.take_of_length_le (Nat.le_refl _)])
  have hd : xs.drop m = xs.drop p := by rw [hp]; by_cases h : m ≤ xs.length; (· rw [Nat.min_eq_left h]); (· rw [Nat.min_eq_right (by omega), List.drop_of_length_le (by omega), List.drop_of_length_le (Nat.le_refl _)])
  rw [ht, hd]
  have hpl : p ≤ xs.length := by omega
  obtain ⟨a, cap, rfl, l1, l2, hn0⟩ := ha.len
  have R1H := hideN (rdV_sliced ha 0 p (Nat.zero_le _) hpl)
  have R2H := hideN (rdV_sliced ha p xs.length hpl (Nat.le_refl _))
  rw [List.drop_zero, Nat.sub_zero] at R1H
  rw [show (xs.drop p).take (xs.length - p) = xs.drop p by rw [List.take_of_length_le]; rw [List.length_drop]; omega] at R2H
  have HC : Hid (∀ W v cs, Below w.heap.size w W → RdV W v cs → cs.length ≤ xs.length → (∀ x ∈ cs, x.oneCell' = true) → Calls Try.prog 50 #[v] W fun e w' => (∃ v', e = .returned v' ∧ RdV w' v' cs ∧ ∀ j, v'.ownBlock = some j → W.heap.size ≤ j) ∧ Below W.heap.size W w') := fun W v cs _ hr hl h1 => cloneI_any v cs W hr h1 (Nat.le_trans (Nat.mul_le_mul_right _ hl) h3)
  have HT : Hid ((xs.take p).length ≤ xs.length ∧ ∀ x ∈ xs.take p, x.oneCell' = true) := ⟨by rw [List.length_take]; omega, fun x hx => h1 x (List.mem_of_mem_take hx)⟩
  have HD : Hid ((xs.drop p).length ≤ xs.length ∧ ∀ x ∈ xs.drop p, x.oneCell' = true) := ⟨by rw [List.length_drop]; omega, fun x hx => h1 x (List.mem_of_mem_drop hx)⟩
  have hL : xs.length ≤ 9007199254740992 := by omega
  have U1 := hideN (uptoIV a xs.length cap p hpl l1)
  have U2 := hideN (fromIV a xs.length cap p hpl l1)
  obtain ⟨L, hLL⟩ : ∃ L, Hid (xs.length = L) := ⟨_, rfl⟩
  have HM : Hid (p = min m L) := by rw [← hLL.out]; exact hp
  rw [hLL.out] at l1 R2H hpl hL U1 U2 ⊢
  have h0 : Below w.heap.size w w.drew := (Below.refl _ _).drew
  clear ha h1 hp ht hd hn0 h3
  by_cases hmin : m ≤ L
  · have hpm : p = m := by have := HM.out; omega
    have hmi : (m : Int) ≤ (L : Int) := by omega
    subst hpm
    clear HM
    go_enter Try.func40, Try.ntmps40
    go_wp2_with fail
    refine beginW (S := fun _ => True) (t := 9) (by kernel_rfl) ?_
    refine takeW 0 (some 10) (.move (.tmp 0)) (Value.slice a L cap) rfl rfl (by kernel_rfl) (by kernel_rfl) (by kernel_rfl) (by kernel_rfl) (fun _ _ _ h => h) ?hy trivial ?_
    case hy =>
      rintro o ho w' _
      first | (go_simp; done) | (go_simp; omega)
    simp only [Act.put, List.setIfInBounds_toArray, List.set_cons_zero, List.set_cons_succ]
    refine takeW 1 (some 11) (.move (.tmp 1)) (Value.int .i64 (p : Int)) rfl rfl (by kernel_rfl) (by kernel_rfl) (by kernel_rfl) (by kernel_rfl) (fun _ _ _ h => h) ?hy trivial ?_
    case hy =>
      rintro o ho w' _
      first | (go_simp; done) | (go_simp; omega)
    simp only [Act.put, List.setIfInBounds_toArray, List.set_cons_zero, List.set_cons_succ]
    refine takeW 2 (some 12) (.slice 23 (.tmp 10) none (some (.tmp 11)) none) (sliced a 0 p cap 1) rfl rfl (by kernel_rfl) (by kernel_rfl) (by kernel_rfl) (by kernel_rfl) (fun _ _ _ h => h) ?hy trivial ?_
    case hy =>
      rintro o ho w' _
      unfold execOp
      simp only [ho, Option.map_some, Option.map_none, Sem.run_bind]
      erw [U1.out w']
      rfl
    simp only [Act.put, List.setIfInBounds_toArray, List.set_cons_zero, List.set_cons_succ]
    refine takeW 4 (some 14) (.move (.tmp 0)) (Value.slice a L cap) rfl rfl (by kernel_rfl) (by kernel_rfl) (by kernel_rfl) (by kernel_rfl) (fun _ _ _ h => h) ?hy trivial ?_
    case hy =>
      rintro o ho w' _
      first | (go_simp; done) | (go_simp; omega)
    simp only [Act.put, List.setIfInBounds_toArray, List.set_cons_zero, List.set_cons_succ]
    refine takeW 5 (some 15) (.move (.tmp 1)) (Value.int .i64 (p : Int)) rfl rfl (by kernel_rfl) (by kernel_rfl) (by kernel_rfl) (by kernel_rfl) (fun _ _ _ h => h) ?hy trivial ?_
    case hy =>
      rintro o ho w' _
      first | (go_simp; done) | (go_simp; omega)
    simp only [Act.put, List.setIfInBounds_toArray, List.set_cons_zero, List.set_cons_succ]
    refine takeW 6 (some 16) (.slice 23 (.tmp 14) (some (.tmp 15)) none none) (sliced a p L cap 1) rfl rfl (by kernel_rfl) (by kernel_rfl) (by kernel_rfl) (by kernel_rfl) (fun _ _ _ h => h) ?hy trivial ?_
    case hy =>
      rintro o ho w' _
      unfold execOp
      simp only [ho, Option.map_some, Option.map_none, Sem.run_bind]
      erw [U2.out w']
      rfl
    simp only [Act.put, List.setIfInBounds_toArray, List.set_cons_zero, List.set_cons_succ]
    refine readyW 3 (some 13) (.call { callee := .value (.func 50), args := #[.tmp 12], argTypes := #[23] }) rfl (by kernel_rfl) ?_
    rintro o K hd ho hg hK
    refine step_call (enters_of Try.func50 (by kernel_rfl) rfl) ho (vs := #[sliced a 0 p cap 1]) (by kernel_rfl) (HC.out _ _ _ h0 (R1H.out.below h0) HT.out.1 HT.out.2) ?_
    rintro e w2 ⟨⟨v2, rfl, hr2, hn2⟩, hb2⟩
    have B2 : Hid (Below w.heap.size w w2) := h0.trans (hb2.mono (Nat.le_refl _))
    have RR2 := hideN hr2
    have N2 : Hid (∀ j, v2.ownBlock = some j → w.heap.size ≤ j) := hn2
    clear hr2 hn2 hb2
    refine ⟨_, rfl, ?_⟩
    rw [hd]
    refine hK _ _ (fun _ => trivial) ?_
    clear ho hd hg hK
    simp only [Act.put, List.setIfInBounds_toArray, List.set_cons_zero, List.set_cons_succ]
    refine readyW 7 (some 17) (.call { callee := .value (.func 50), args := #[.tmp 16], argTypes := #[23] }) rfl (by kernel_rfl) ?_
    rintro o K hd ho hg hK
    refine step_call (enters_of Try.func50 (by kernel_rfl) rfl) ho (vs := #[sliced a p L cap 1]) (by kernel_rfl) (HC.out _ _ _ B2.out (R2H.out.below B2.out) HD.out.1 HD.out.2) ?_
    rintro e w3 ⟨⟨v3, rfl, hr3, hn3⟩, hb3⟩
    have B3 : Hid (Below w.heap.size w w3) := B2.out.trans (hb3.mono B2.out.size)
    have RR3 := hideN hr3
    have RR4 := hideN (RR2.out.below hb3)
    have N3 : Hid (∀ j, v3.ownBlock = some j → w.heap.size ≤ j) := fun j hj => Nat.le_trans B2.out.size (hn3 j hj)
    clear hr3 hn3 hb3
    refine ⟨_, rfl, ?_⟩
    rw [hd]
    refine hK _ _ (fun _ => trivial) ?_
    clear ho hd hg hK
    simp only [Act.put, List.setIfInBounds_toArray, List.set_cons_zero, List.set_cons_succ]
    refine readyW 8 (some 4) (.assign (.tmp 13)) rfl (by kernel_rfl) ?_
    rintro o K hd ho hg hK
    refine stepY (v := v2) ?hy ?_
    case hy => go_simp
    rw [hd]
    refine hK _ _ (fun _ => trivial) ?_
    clear ho hd hg hK
    simp only [Act.put, List.setIfInBounds_toArray, List.set_cons_zero, List.set_cons_succ]
    refine readyW 9 (some 5) (.assign (.tmp 17)) rfl (by kernel_rfl) ?_
    rintro o K hd ho hg hK
    refine stepY (v := v3) ?hy ?_
    case hy => go_simp
    rw [hd]
    refine hK _ _ (fun e => absurd rfl e) ?_
    clear ho hd hg hK
    simp only [Act.put, List.setIfInBounds_toArray, List.set_cons_zero, List.set_cons_succ]
    refine doneW (by kernel_rfl) ?_ _
    go_wp2_with fail
    go_ret2
    exact ⟨⟨_, _, rfl, RR4.out, RR3.out, fun j hj => hj.elim (N2.out j) (N3.out j)⟩, B3.out⟩
  · have hpm : p = L := by have := HM.out; omega
    have hmi : ¬ (m : Int) ≤ (L : Int) := by omega
    subst hpm
    clear HM
    go_enter Try.func40, Try.ntmps40
    go_wp2_with fail
    refine beginW (S := fun _ => True) (t := 9) (by kernel_rfl) ?_
    refine takeW 0 (some 10) (.move (.tmp 0)) (Value.slice a p cap) rfl rfl (by kernel_rfl) (by kernel_rfl) (by kernel_rfl) (by kernel_rfl) (fun _ _ _ h => h) ?hy trivial ?_
    case hy =>
      rintro o ho w' _
      first | (go_simp; done) | (go_simp; omega)
    simp only [Act.put, List.setIfInBounds_toArray, List.set_cons_zero, List.set_cons_succ]
    refine takeW 1 (some 11) (.move (.tmp 1)) (Value.int .i64 (p : Int)) rfl rfl (by kernel_rfl) (by kernel_rfl) (by kernel_rfl) (by kernel_rfl) (fun _ _ _ h => h) ?hy trivial ?_
    case hy =>
      rintro o ho w' _
      first | (go_simp; done) | (go_simp; omega)
    simp only [Act.put, List.setIfInBounds_toArray, List.set_cons_zero, List.set_cons_succ]
    refine takeW 2 (some 12) (.slice 23 (.tmp 10) none (some (.tmp 11)) none) (sliced a 0 p cap 1) rfl rfl (by kernel_rfl) (by kernel_rfl) (by kernel_rfl) (by kernel_rfl) (fun _ _ _ h => h) ?hy trivial ?_
    case hy =>
      rintro o ho w' _
      unfold execOp
      simp only [ho, Option.map_some, Option.map_none, Sem.run_bind]
      erw [U1.out w']
      rfl
    simp only [Act.put, List.setIfInBounds_toArray, List.set_cons_zero, List.set_cons_succ]
    refine takeW 4 (some 14) (.move (.tmp 0)) (Value.slice a p cap) rfl rfl (by kernel_rfl) (by kernel_rfl) (by kernel_rfl) (by kernel_rfl) (fun _ _ _ h => h) ?hy trivial ?_
    case hy =>
      rintro o ho w' _
      first | (go_simp; done) | (go_simp; omega)
    simp only [Act.put, List.setIfInBounds_toArray, List.set_cons_zero, List.set_cons_succ]
    refine takeW 5 (some 15) (.move (.tmp 1)) (Value.int .i64 (p : Int)) rfl rfl (by kernel_rfl) (by kernel_rfl) (by kernel_rfl) (by kernel_rfl) (fun _ _ _ h => h) ?hy trivial ?_
    case hy =>
      rintro o ho w' _
      first | (go_simp; done) | (go_simp; omega)
    simp only [Act.put, List.setIfInBounds_toArray, List.set_cons_zero, List.set_cons_succ]
    refine takeW 6 (some 16) (.slice 23 (.tmp 14) (some (.tmp 15)) none none) (sliced a p p cap 1) rfl rfl (by kernel_rfl) (by kernel_rfl) (by kernel_rfl) (by kernel_rfl) (fun _ _ _ h => h) ?hy trivial ?_
    case hy =>
      rintro o ho w' _
      unfold execOp
      simp only [ho, Option.map_some, Option.map_none, Sem.run_bind]
      erw [U2.out w']
      rfl
    simp only [Act.put, List.setIfInBounds_toArray, List.set_cons_zero, List.set_cons_succ]
    refine readyW 3 (some 13) (.call { callee := .value (.func 50), args := #[.tmp 12], argTypes := #[23] }) rfl (by kernel_rfl) ?_
    rintro o K hd ho hg hK
    refine step_call (enters_of Try.func50 (by kernel_rfl) rfl) ho (vs := #[sliced a 0 p cap 1]) (by kernel_rfl) (HC.out _ _ _ h0 (R1H.out.below h0) HT.out.1 HT.out.2) ?_
    rintro e w2 ⟨⟨v2, rfl, hr2, hn2⟩, hb2⟩
    have B2 : Hid (Below w.heap.size w w2) := h0.trans (hb2.mono (Nat.le_refl _))
    have RR2 := hideN hr2
    have N2 : Hid (∀ j, v2.ownBlock = some j → w.heap.size ≤ j) := hn2
    clear hr2 hn2 hb2
    refine ⟨_, rfl, ?_⟩
    rw [hd]
    refine hK _ _ (fun _ => trivial) ?_
    clear ho hd hg hK
    simp only [Act.put, List.setIfInBounds_toArray, List.set_cons_zero, List.set_cons_succ]
    refine readyW 7 (some 17) (.call { callee := .value (.func 50), args := #[.tmp 16], argTypes := #[23] }) rfl (by kernel_rfl) ?_
    rintro o K hd ho hg hK
    refine step_call (enters_of Try.func50 (by kernel_rfl) rfl) ho (vs := #[sliced a p p cap 1]) (by kernel_rfl) (HC.out _ _ _ B2.out (R2H.out.below B2.out) HD.out.1 HD.out.2) ?_
    rintro e w3 ⟨⟨v3, rfl, hr3, hn3⟩, hb3⟩
    have B3 : Hid (Below w.heap.size w w3) := B2.out.trans (hb3.mono B2.out.size)
    have RR3 := hideN hr3
    have RR4 := hideN (RR2.out.below hb3)
    have N3 : Hid (∀ j, v3.ownBlock = some j → w.heap.size ≤ j) := fun j hj => Nat.le_trans B2.out.size (hn3 j hj)
    clear hr3 hn3 hb3
    refine ⟨_, rfl, ?_⟩
    rw [hd]
    refine hK _ _ (fun _ => trivial) ?_
    clear ho hd hg hK
    simp only [Act.put, List.setIfInBounds_toArray, List.set_cons_zero, List.set_cons_succ]
    refine readyW 8 (some 4) (.assign (.tmp 13)) rfl (by kernel_rfl) ?_
    rintro o K hd ho hg hK
    refine stepY (v := v2) ?hy ?_
    case hy => go_simp
    rw [hd]
    refine hK _ _ (fun _ => trivial) ?_
    clear ho hd hg hK
    simp only [Act.put, List.setIfInBounds_toArray, List.set_cons_zero, List.set_cons_succ]
    refine readyW 9 (some 5) (.assign (.tmp 17)) rfl (by kernel_rfl) ?_
    rintro o K hd ho hg hK
    refine stepY (v := v3) ?hy ?_
    case hy => go_simp
    rw [hd]
    refine hK _ _ (fun e => absurd rfl e) ?_
    clear ho hd hg hK
    simp only [Act.put, List.setIfInBounds_toArray, List.set_cons_zero, List.set_cons_succ]
    refine doneW (by kernel_rfl) ?_ _
    go_wp2_with fail
    go_ret2
    exact ⟨⟨_, _, rfl, RR4.out, RR3.out, fun j hj => hj.elim (N2.out j) (N3.out j)⟩, B3.out⟩
end Go.Proofs.Ytbpaeecclikeiaa
