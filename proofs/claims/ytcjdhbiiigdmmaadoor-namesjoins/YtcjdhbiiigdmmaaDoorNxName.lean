/-
  Which texts are names: the program's way (a rune after the other) and the document's.
-/
import Derived.Test.YtcjdhbiiigdmmaaDoorNxMem
import Derived.Test.YtcjdhbiiigdmmaaDoorWLay
namespace Go.Proofs.YtcjdhbiiigdmmaaDoor
open Go.RowKit Nx
set_option linter.unusedVariables false
set_option maxRecDepth 100000

/-- A rune that no name has. -/
def wr (r : Nat) : Bool := decide (r < 33 ∨ 126 < r ∨ r = 47)

theorem idx_none {s : ByteArray} : ∀ (f pos : Nat), s.size ≤ pos + f → pos ≤ s.size → (Lib.idxFuncFrom wr true s f pos = -1 ↔ ((bl s).drop pos).all okb = true)
  | 0, pos, h1, h2 => by
    have : (bl s).drop pos = [] := List.drop_eq_nil_of_le (by rw [bl_len]; omega)
    rw [this]
    simp [Lib.idxFuncFrom]
  | f + 1, pos, h1, h2 => by
    unfold Lib.idxFuncFrom
    by_cases hp : pos < s.size
    · have hd : (bl s).drop pos = s[pos] :: (bl s).drop (pos + 1) := by
        rw [List.drop_eq_getElem_cons (by rw [bl_len]; exact hp), bl_getElem hp]
      rw [if_pos hp, hd, List.all_cons]
      by_cases ha : s[pos].toNat < 128
      · rw [decode_ascii s pos hp ha]
        have hw : wr s[pos].toNat = !okb s[pos] := by
          by_cases e : okb s[pos] = true
          · rw [e]
            simp only [okb, decide_eq_true_eq] at e
            unfold wr
            rw [decide_eq_false (by omega)]
            rfl
          · have e2 : okb s[pos] = false := by simpa using e
            rw [e2]
            simp only [okb, decide_eq_false_iff_not] at e2
            unfold wr
            rw [decide_eq_true (by omega)]
            rfl
        by_cases e : okb s[pos] = true
        · rw [if_neg (by rw [hw, e]; simp), e, Bool.true_and]
          exact idx_none f (pos + 1) (by omega) (by omega)
        · have e2 : okb s[pos] = false := by simpa using e
          rw [if_pos (by rw [hw, e2]; rfl), e2]
          constructor
          · intro h; omega
          · intro h; cases h
      · have hh := decode_high s pos hp (by omega)
        have e2 : okb s[pos] = false := by
          simp only [okb, decide_eq_false_iff_not]
          omega
        rw [if_pos (by unfold wr; rw [decide_eq_true (by omega)]), e2]
        constructor
        · intro h; omega
        · intro h; cases h
    · have : (bl s).drop pos = [] := List.drop_eq_nil_of_le (by rw [bl_len]; omega)
      rw [if_neg hp, this]
      simp
theorem idx_neg (s : ByteArray) : (decide (0 ≤ Lib.idxFunc wr true s)) = !((bl s).all okb) := by
  have h := idx_none (s := s) s.size 0 (by omega) (by omega)
  rw [List.drop_zero] at h
  rcases Lib.idxFunc_range wr true s with e | ⟨e, _⟩
  · rw [e, h.1 e]; rfl
  · rw [decide_eq_true e]
    cases hq : (bl s).all okb with
    | false => rfl
    | true =>
      have := h.2 hq
      have h2 : Lib.idxFunc wr true s = -1 := this
      omega

/-- The function within Name. -/
theorem wrong_any (r : Nat) (w : World) : Calls Tryd.prog 21 #[.int .i32 (r : Int)] w fun e w' => e = .returned (.bool (wr r)) ∧ w' = w := by
  by_cases h1 : (r : Int) < 33
  · have e : wr r = true := by unfold wr; rw [decide_eq_true (by omega)]
    rw [e]
    go_enter Tryd.func21, Tryd.ntmps21
    go_wp2_with fail
    go_ret
    exact ⟨rfl, rfl⟩
  · by_cases h2 : (126 : Int) < (r : Int)
    · have e : wr r = true := by unfold wr; rw [decide_eq_true (by omega)]
      rw [e]
      go_enter Tryd.func21, Tryd.ntmps21
      go_wp2_with fail
      go_ret
      exact ⟨rfl, rfl⟩
    · by_cases h3 : (r : Int) = 47
      · have e : wr r = true := by unfold wr; rw [decide_eq_true (by omega)]
        rw [e, h3]
        go_enter Tryd.func21, Tryd.ntmps21
        go_wp2_with fail
        go_ret
        exact ⟨rfl, rfl⟩
      · have e : wr r = false := by unfold wr; rw [decide_eq_false (by omega)]
        rw [e]
        have h4 : ((r : Int) == 47) = false := beq_eq_false_iff_ne.2 h3
        go_enter Tryd.func21, Tryd.ntmps21
        go_wp2_with fail
        go_ret
        exact ⟨rfl, rfl⟩

theorem enters21 : ∀ args w, (callFunc 21 args).run Tryd.prog w = .ok (.enter 21 args) w := enters_of Tryd.func21 (by kernel_rfl) rfl
theorem idxR (s : ByteArray) (w : World) : Calls Tryd.prog 39 #[.string s, .func (.func 21) #[] #[], .bool true] w fun e w' => e = .returned (.int .i64 (Lib.idxFunc wr true s)) ∧ Below w.heap.size w w' :=
  Any.strings_indexFunc Tryd.idxF 21 #[] enters21 wr true s w (fun W x _ => (wrong_any x W).mono fun _ _ ⟨h1, h2⟩ => ⟨h1, 0, h2⟩)
theorem indexFunc_any (s : ByteArray) (w : World) : Calls Tryd.prog 31 #[.string s, .func (.func 21) #[] #[]] w fun e w' => e = .returned (.int .i64 (Lib.idxFunc wr true s)) ∧ Below w.heap.size w w' := by
  go_enter Tryd.func31, Tryd.ntmps31
  go_wp2_with (go_at_call 39; refine (idxR _ _).mono ?_; rintro e w' ⟨rfl, hb⟩)
  go_ret
  exact ⟨rfl, hb⟩
theorem containsFunc_any (s : ByteArray) (w : World) : Calls Tryd.prog 22 #[.string s, .func (.func 21) #[] #[]] w fun e w' => e = .returned (.bool (!((bl s).all okb))) ∧ Below w.heap.size w w' := by
  rw [← idx_neg]
  have c := indexFunc_any s w
  obtain ⟨I, hI⟩ : ∃ I, Lib.idxFunc wr true s = I := ⟨_, rfl⟩
  rw [hI] at c ⊢
  go_enter Tryd.func22, Tryd.ntmps22
  go_wp2_with (go_at_call 31; refine c.mono ?_; rintro e w' ⟨rfl, hb⟩)
  go_ret
  exact ⟨rfl, hb⟩

/-- The tests ahead. -/
def longB (s : ByteArray) : Bool := decide (s.size < 1 ∨ 16 < s.size)
theorem name_of {s : ByteArray} (h1 : 1 ≤ s.size) (h2 : s.size ≤ 16) (h3 : bl s ≠ [46]) (h4 : bl s ≠ [46, 46]) : nameL (bl s) = (bl s).all okb := by
  unfold nameL
  rw [decide_eq_true ⟨by rw [bl_len]; exact h1, by rw [bl_len]; exact h2, h3, h4⟩, Bool.true_and]
theorem name_not {s : ByteArray} (h : s.size < 1 ∨ 16 < s.size ∨ bl s = [46] ∨ bl s = [46, 46]) : nameL (bl s) = false := by
  unfold nameL
  rw [decide_eq_false, Bool.false_and]
  rw [bl_len]
  rintro ⟨a, b, c, d⟩
  rcases h with h | h | h | h
  · omega
  · omega
  · exact c h
  · exact d h

/-- Name, of the program. -/
theorem name_any (s : ByteArray) (w : World) : Calls Tryd.prog 13 #[.string s] w fun e w' => e = .returned (.bool (nameL (bl s))) ∧ Below w.heap.size w w' := by
  have hsz := bl_len s
  by_cases h1 : (s.size : Int) < 1
  · rw [name_not (.inl (by omega))]
    go_enter Tryd.func13, Tryd.ntmps13
    go_wp2_with fail
    go_ret
    exact ⟨rfl, Below.refl _ _⟩
  by_cases h2 : (16 : Int) < (s.size : Int)
  · rw [name_not (.inr (.inl (by omega)))]
    go_enter Tryd.func13, Tryd.ntmps13
    go_wp2_with fail
    go_ret
    exact ⟨rfl, Below.refl _ _⟩
  by_cases h3 : bl s = [46]
  · rw [name_not (.inr (.inr (.inl h3)))]
    have e : s = ⟨#[46]⟩ := bl_inj h3
    subst e
    clear h3 h1 h2 hsz
    go_enter Tryd.func13, Tryd.ntmps13
    go_wp2_with fail
    go_ret
    exact ⟨rfl, Below.refl _ _⟩
  by_cases h4 : bl s = [46, 46]
  · rw [name_not (.inr (.inr (.inr h4)))]
    have e : s = ⟨#[46, 46]⟩ := bl_inj h4
    subst e
    clear h4 h3 h1 h2 hsz
    go_enter Tryd.func13, Tryd.ntmps13
    go_wp2_with fail
    go_ret
    exact ⟨rfl, Below.refl _ _⟩
  · rw [name_of (by omega) (by omega) h3 h4]
    have c := containsFunc_any s
    have e3 : (s.toList == [46]) = false := by rw [toList_bl]; exact beq_eq_false_iff_ne.2 h3
    have e4 : (s.toList == [46, 46]) = false := by rw [toList_bl]; exact beq_eq_false_iff_ne.2 h4
    clear h3 h4 hsz
    obtain ⟨b, hb⟩ : ∃ b, (bl s).all okb = b := ⟨_, rfl⟩
    rw [hb] at c ⊢
    clear hb
    go_enter Tryd.func13, Tryd.ntmps13
    go_wp2_with (go_at_call 22; refine (c _).mono ?_; rintro e w' ⟨rfl, hb⟩)
    go_ret
    exact ⟨by simp, hb⟩
end Go.Proofs.YtcjdhbiiigdmmaaDoor
