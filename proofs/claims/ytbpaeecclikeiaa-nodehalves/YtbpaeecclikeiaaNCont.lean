/-
  slices.ContainsFunc over the values, and over the kids.
-/
import Derived.Test.YtbpaeecclikeiaaNMem
namespace Go.Proofs.Ytbpaeecclikeiaa
open Go.RowKit Pl
set_option linter.unusedVariables false
set_option linter.unusedSimpArgs false
set_option maxRecDepth 100000

/-- Whether one is not good. -/
def PredR (g : Prop) (w : World) (e : Ending) (w' : World) : Prop := ∃ t : Bool, e = .returned (.bool t) ∧ ((t = true → ¬ g) ∧ (t = false → g)) ∧ Below w.heap.size w w'
theorem predR_t {g : Prop} {w : World} (h : ¬ g) : PredR g w (.returned (.bool true)) w := ⟨true, rfl, ⟨fun _ => h, fun e => by cases e⟩, Below.refl _ _⟩
theorem predR_f {g : Prop} {w : World} (h : g) : PredR g w (.returned (.bool false)) w := ⟨false, rfl, ⟨fun e => by (cases e), fun _ => h⟩, Below.refl _ _⟩

/-- Each of them is good. -/
def AllS (xs : List ByteArray) : Prop := ∀ i, i < xs.length → (xs.getD i eS).size ≤ 24
open Classical in
noncomputable def allS (xs : List ByteArray) : Bool := decide (AllS xs)
theorem allS_iff {xs : List ByteArray} : allS xs = true ↔ AllS xs := by unfold allS; exact @decide_eq_true_iff _ (Classical.propDecidable _)
theorem allS_not {xs : List ByteArray} {i : Nat} (hi : i < xs.length) (h : ¬ ((xs.getD i eS).size ≤ 24)) : allS xs = false := by
  cases e : allS xs with
  | false => rfl
  | true => exact absurd (allS_iff.1 e i hi) h

theorem predS_any (x : ByteArray) (w : World) :
    Calls Try.prog 28 #[.string x] w fun e w' => PredR (x.size ≤ 24) w e w' := by
  by_cases h : (x.size : Int) ≤ 24
  · have hd : decide (24 < (x.size : Int)) = false := by rw [decide_eq_false_iff_not]; omega
    go_enter Try.func28, Try.ntmps28
    go_wp2_with fail
    go_ret
    exact predR_f (by omega)
  · have hd : 24 < (x.size : Int) := by omega
    go_enter Try.func28, Try.ntmps28
    go_wp2_with fail
    go_ret
    exact predR_t (by omega)

set_option maxHeartbeats 400000 in
theorem indexS_any (v : Value) (xs : List ByteArray) (w : World) (h : RdV w v (strs xs)) (hl : xs.length ≤ 9223372036854775807) :
    Calls Try.prog 44 #[v, .func (.func 28) #[] #[]] w fun e w' => (∃ r : Int, e = .returned (.int .i64 r) ∧ -1 ≤ r ∧ (r = -1 ↔ allS xs = true)) ∧ Below w.heap.size w w' := by
  obtain ⟨a, cap, rfl, l1, l2, _⟩ := h.len
  have H := hideN h
  rw [strs_len] at H l1 ⊢
  obtain ⟨L, hL⟩ : ∃ L, Hid (xs.length = L) := ⟨_, rfl⟩
  rw [hL.out] at H l1 hl ⊢
  have HP : Hid (∀ r : Int, 0 ≤ r → ¬ (allS xs = true) → (∃ r' : Int, Ending.returned (.int .i64 r) = .returned (.int .i64 r') ∧ -1 ≤ r' ∧ (r' = -1 ↔ allS xs = true))) := fun r h0 ha => ⟨r, rfl, by omega, ⟨fun e => by omega, fun e => absurd e ha⟩⟩
  clear h
  go_enter Try.func44, Try.ntmps44
  go_wp2_with fail
  go_loopw [8] (fun i wr => ∃ (k : Nat), k ≤ L ∧ i = .int .i64 k ∧ Hid (∀ i, i < k → (xs.getD i eS).size ≤ 24) ∧ Hid (Below w.heap.size w wr)) (fun i _ => L - (intOf i).toNat)
  case atStart => exact ⟨0, Nat.zero_le _, rfl, fun j hj => by omega, Below.refl _ _⟩
  case round =>
    obtain ⟨k, hk, rfl, hz, BR⟩ := hrel
    by_cases hlt : k < L
    · obtain ⟨b, o, rfl, ck⟩ := (H.out.below BR.out).at (i := k) (c := .string (xs.getD k eS)) (by rw [strs, List.getElem?_map, List.getElem?_eq_getElem (by rw [hL.out]; exact hlt)]; simp [List.getD_eq_getElem?_getD, show k < xs.length by rw [hL.out]; exact hlt])
      have HO : Hid (∀ (i : Nat), i = k → ((xs.getD i eS).size ≤ 24) → ∀ i, i < k + 1 → (xs.getD i eS).size ≤ 24) := fun i0 e0 h0 i hi => by
        by_cases e : i < k
        · exact hz.out i e
        · have : i = i0 := by omega
          rw [this]; exact h0
      have HB : Hid (∀ (i : Nat), i = k → ¬ ((xs.getD i eS).size ≤ 24) → ¬ (allS xs = true)) := fun i e h0 ha => by rw [allS_not (i := i) (by rw [hL.out]; omega) h0] at ha; cases ha
      obtain ⟨x, hx⟩ : ∃ x, Hid (xs.getD k eS = x) := ⟨_, rfl⟩
      rw [hx.out] at ck
      go_wp2_with fail
      refine (predS_any x wr).mono ?_
      rintro e w2 ⟨t, rfl, ht, b2⟩
      have B2 : Hid (Below w.heap.size w w2) := BR.out.trans (b2.mono BR.out.size)
      have HT := hideN ht
      clear b2 ht BR
      cases t with
      | true =>
        have HN : Hid (¬ (allS xs = true)) := HB.out k rfl (by rw [hx.out]; exact HT.out.1 rfl)
        go_wp2_with fail
        go_ret
        exact ⟨HP.out _ (by omega) HN.out, B2.out⟩
      | false =>
        have HK : Hid (∀ i, i < k + 1 → (xs.getD i eS).size ≤ 24) := HO.out k rfl (by rw [hx.out]; exact HT.out.2 rfl)
        go_wp2_with fail
        go_roundw
        case rel => exact ⟨k + 1, by omega, by go_num, HK, B2⟩
        case measure => simp [intOf]; omega
    · have HA : Hid (allS xs = true) := by show _ = _; rw [allS_iff]; intro i hi; exact hz.out i (by rw [hL.out] at hi; omega)
      go_wp2_with fail
      go_ret
      exact ⟨⟨-1, rfl, by omega, fun _ => HA.out, fun _ => rfl⟩, BR.out⟩

set_option maxHeartbeats 400000 in
theorem containsS_any (v : Value) (xs : List ByteArray) (w : World) (h : RdV w v (strs xs)) (hl : xs.length ≤ 9223372036854775807) :
    Calls Try.prog 27 #[v, .func (.func 28) #[] #[]] w fun e w' => e = .returned (.bool (!allS xs)) ∧ Below w.heap.size w w' := by
  have HC := hideN (indexS_any v xs w h hl)
  obtain ⟨a, cap, rfl, l1, l2, _⟩ := h.len
  obtain ⟨al, hal⟩ : ∃ b, Hid (allS xs = b) := ⟨_, rfl⟩
  rw [hal.out] at HC ⊢
  obtain ⟨nal, hnal⟩ : ∃ b, Hid ((!al) = b) := ⟨_, rfl⟩
  rw [hnal.out]
  clear h
  go_enter Try.func27, Try.ntmps27
  go_wp2_with fail
  refine HC.out.mono ?_
  rintro e w2 ⟨⟨r, rfl, h1, h2⟩, b2⟩
  have B2 := hideN b2
  clear b2 HC
  by_cases hr : r = -1
  · have ha : nal = false := by rw [← hnal.out, h2.1 hr]; rfl
    subst ha
    have hd : decide (0 ≤ r) = false := by rw [decide_eq_false_iff_not]; omega
    clear h2 h1
    subst hr
    go_wp2_with fail
    go_ret
    exact ⟨rfl, B2.out⟩
  · have ha : nal = true := by
      rw [← hnal.out]
      cases al with
      | false => rfl
      | true => exact absurd (h2.2 rfl) hr
    subst ha
    have h0 : 0 ≤ r := by omega
    clear h2 h1 hr
    go_wp2_with fail
    go_ret
    exact ⟨rfl, B2.out⟩

/-- Each of them is good. -/
def AllI (xs : List Int) : Prop := ∀ i, i < xs.length → 0 ≤ xs.getD i 0 ∧ xs.getD i 0 ≤ 65535
open Classical in
noncomputable def allI (xs : List Int) : Bool := decide (AllI xs)
theorem allI_iff {xs : List Int} : allI xs = true ↔ AllI xs := by unfold allI; exact @decide_eq_true_iff _ (Classical.propDecidable _)
theorem allI_not {xs : List Int} {i : Nat} (hi : i < xs.length) (h : ¬ (0 ≤ xs.getD i 0 ∧ xs.getD i 0 ≤ 65535)) : allI xs = false := by
  cases e : allI xs with
  | false => rfl
  | true => exact absurd (allI_iff.1 e i hi) h

theorem predI_any (x : Int) (w : World) :
    Calls Try.prog 30 #[.int .i64 x] w fun e w' => PredR (0 ≤ x ∧ x ≤ 65535) w e w' := by
  by_cases h0 : 0 ≤ x
  · by_cases h : x ≤ 65535
    · have hd : decide (65535 < x) = false := by rw [decide_eq_false_iff_not]; omega
      have he : decide (x < 0) = false := by rw [decide_eq_false_iff_not]; omega
      go_enter Try.func30, Try.ntmps30
      go_wp2_with fail
      go_ret
      exact predR_f (by omega)
    · have hd : 65535 < x := by omega
      have he : decide (x < 0) = false := by rw [decide_eq_false_iff_not]; omega
      go_enter Try.func30, Try.ntmps30
      go_wp2_with fail
      go_ret
      exact predR_t (by omega)
  · have hd : x < 0 := by omega
    go_enter Try.func30, Try.ntmps30
    go_wp2_with fail
    go_ret
    exact predR_t (by omega)

set_option maxHeartbeats 400000 in
theorem indexI_any (v : Value) (xs : List Int) (w : World) (h : RdV w v (nums xs)) (hl : xs.length ≤ 9223372036854775807) :
    Calls Try.prog 45 #[v, .func (.func 30) #[] #[]] w fun e w' => (∃ r : Int, e = .returned (.int .i64 r) ∧ -1 ≤ r ∧ (r = -1 ↔ allI xs = true)) ∧ Below w.heap.size w w' := by
  obtain ⟨a, cap, rfl, l1, l2, _⟩ := h.len
  have H := hideN h
  rw [nums_len] at H l1 ⊢
  obtain ⟨L, hL⟩ : ∃ L, Hid (xs.length = L) := ⟨_, rfl⟩
  rw [hL.out] at H l1 hl ⊢
  have HP : Hid (∀ r : Int, 0 ≤ r → ¬ (allI xs = true) → (∃ r' : Int, Ending.returned (.int .i64 r) = .returned (.int .i64 r') ∧ -1 ≤ r' ∧ (r' = -1 ↔ allI xs = true))) := fun r h0 ha => ⟨r, rfl, by omega, ⟨fun e => by omega, fun e => absurd e ha⟩⟩
  clear h
  go_enter Try.func45, Try.ntmps45
  go_wp2_with fail
  go_loopw [8] (fun i wr => ∃ (k : Nat), k ≤ L ∧ i = .int .i64 k ∧ Hid (∀ i, i < k → 0 ≤ xs.getD i 0 ∧ xs.getD i 0 ≤ 65535) ∧ Hid (Below w.heap.size w wr)) (fun i _ => L - (intOf i).toNat)
  case atStart => exact ⟨0, Nat.zero_le _, rfl, fun j hj => by omega, Below.refl _ _⟩
  case round =>
    obtain ⟨k, hk, rfl, hz, BR⟩ := hrel
    by_cases hlt : k < L
    · obtain ⟨b, o, rfl, ck⟩ := (H.out.below BR.out).at (i := k) (c := .int .i64 (xs.getD k 0)) (by rw [nums, List.getElem?_map, List.getElem?_eq_getElem (by rw [hL.out]; exact hlt)]; simp [List.getD_eq_getElem?_getD, show k < xs.length by rw [hL.out]; exact hlt])
      have HO : Hid (∀ (i : Nat), i = k → (0 ≤ xs.getD i 0 ∧ xs.getD i 0 ≤ 65535) → ∀ i, i < k + 1 → 0 ≤ xs.getD i 0 ∧ xs.getD i 0 ≤ 65535) := fun i0 e0 h0 i hi => by
        by_cases e : i < k
        · exact hz.out i e
        · have : i = i0 := by omega
          rw [this]; exact h0
      have HB : Hid (∀ (i : Nat), i = k → ¬ (0 ≤ xs.getD i 0 ∧ xs.getD i 0 ≤ 65535) → ¬ (allI xs = true)) := fun i e h0 ha => by rw [allI_not (i := i) (by rw [hL.out]; omega) h0] at ha; cases ha
      obtain ⟨x, hx⟩ : ∃ x, Hid (xs.getD k 0 = x) := ⟨_, rfl⟩
      rw [hx.out] at ck
      go_wp2_with fail
      refine (predI_any x wr).mono ?_
      rintro e w2 ⟨t, rfl, ht, b2⟩
      have B2 : Hid (Below w.heap.size w w2) := BR.out.trans (b2.mono BR.out.size)
      have HT := hideN ht
      clear b2 ht BR
      cases t with
      | true =>
        have HN : Hid (¬ (allI xs = true)) := HB.out k rfl (by rw [hx.out]; exact HT.out.1 rfl)
        go_wp2_with fail
        go_ret
        exact ⟨HP.out _ (by omega) HN.out, B2.out⟩
      | false =>
        have HK : Hid (∀ i, i < k + 1 → 0 ≤ xs.getD i 0 ∧ xs.getD i 0 ≤ 65535) := HO.out k rfl (by rw [hx.out]; exact HT.out.2 rfl)
        go_wp2_with fail
        go_roundw
        case rel => exact ⟨k + 1, by omega, by go_num, HK, B2⟩
        case measure => simp [intOf]; omega
    · have HA : Hid (allI xs = true) := by show _ = _; rw [allI_iff]; intro i hi; exact hz.out i (by rw [hL.out] at hi; omega)
      go_wp2_with fail
      go_ret
      exact ⟨⟨-1, rfl, by omega, fun _ => HA.out, fun _ => rfl⟩, BR.out⟩

set_option maxHeartbeats 400000 in
theorem containsI_any (v : Value) (xs : List Int) (w : World) (h : RdV w v (nums xs)) (hl : xs.length ≤ 9223372036854775807) :
    Calls Try.prog 29 #[v, .func (.func 30) #[] #[]] w fun e w' => e = .returned (.bool (!allI xs)) ∧ Below w.heap.size w w' := by
  have HC := hideN (indexI_any v xs w h hl)
  obtain ⟨a, cap, rfl, l1, l2, _⟩ := h.len
  obtain ⟨al, hal⟩ : ∃ b, Hid (allI xs = b) := ⟨_, rfl⟩
  rw [hal.out] at HC ⊢
  obtain ⟨nal, hnal⟩ : ∃ b, Hid ((!al) = b) := ⟨_, rfl⟩
  rw [hnal.out]
  clear h
  go_enter Try.func29, Try.ntmps29
  go_wp2_with fail
  refine HC.out.mono ?_
  rintro e w2 ⟨⟨r, rfl, h1, h2⟩, b2⟩
  have B2 := hideN b2
  clear b2 HC
  by_cases hr : r = -1
  · have ha : nal = false := by rw [← hnal.out, h2.1 hr]; rfl
    subst ha
    have hd : decide (0 ≤ r) = false := by rw [decide_eq_false_iff_not]; omega
    clear h2 h1
    subst hr
    go_wp2_with fail
    go_ret
    exact ⟨rfl, B2.out⟩
  · have ha : nal = true := by
      rw [← hnal.out]
      cases al with
      | false => rfl
      | true => exact absurd (h2.2 rfl) hr
    subst ha
    have h0 : 0 ≤ r := by omega
    clear h2 h1 hr
    go_wp2_with fail
    go_ret
    exact ⟨rfl, B2.out⟩
end Go.Proofs.Ytbpaeecclikeiaa
