/-
  Names and paths, plainly: over lists of bytes.
-/
import Derived.Shelf.GgClosure.StringsIndexFunc
import Derived.Laws.RangeAny
import Derived.Lib.Split
import Derived.Lib.Join
import Derived.Lib.Strings
namespace Go.Proofs.YtcjdhbiiigdmmaaDoor
namespace Nx
set_option linter.unusedVariables false

/-- A byte that a name may have. -/
def okb (b : UInt8) : Bool := decide (33 ≤ b.toNat ∧ b.toNat ≤ 126 ∧ b.toNat ≠ 47)
/-- A name. -/
def nameL (l : List UInt8) : Bool := decide (1 ≤ l.length ∧ l.length ≤ 16 ∧ l ≠ [46] ∧ l ≠ [46, 46]) && l.all okb
/-- The pieces between the slashes. -/
def pcs : List UInt8 → List (List UInt8)
  | [] => [[]]
  | b :: r => if b = 47 then [] :: pcs r else match pcs r with
    | [] => [[b]]
    | h :: t => (b :: h) :: t
/-- Each with a slash ahead. -/
def sl : List (List UInt8) → List UInt8
  | [] => []
  | x :: r => 47 :: (x ++ sl r)
def mayP (ps : List (List UInt8)) : Bool := decide (ps.length ≤ 6) && ps.all nameL
/-- The path of names. -/
def pth (ps : List (List UInt8)) : List UInt8 := if ps = [] then [47] else sl ps
/-- A path's names. -/
def sp : List UInt8 → Option (List (List UInt8))
  | [] => none
  | b :: l => if b = 47 then (if l = [] then some [] else if mayP (pcs l) then some (pcs l) else none) else none
def jo (ps : List (List UInt8)) : Option (List UInt8) := if mayP ps then some (pth ps) else none
def und (p q : List UInt8) : Bool := match sp p, sp q with
  | some x, some y => decide (x.length ≤ y.length ∧ x = y.take x.length)
  | _, _ => false

theorem okb_slash {b : UInt8} (h : okb b = true) : b ≠ 47 := by
  rintro rfl
  simp [okb] at h
theorem nameL_slash {l : List UInt8} (h : nameL l = true) : 47 ∉ l := by
  intro hm
  simp only [nameL, Bool.and_eq_true, List.all_eq_true] at h
  exact okb_slash (h.2 47 hm) rfl
theorem nameL_ne {l : List UInt8} (h : nameL l = true) : l ≠ [] := by
  rintro rfl
  simp [nameL] at h
theorem nameL_len {l : List UInt8} (h : nameL l = true) : l.length ≤ 16 := by
  simp only [nameL, Bool.and_eq_true, decide_eq_true_eq] at h
  exact h.1.2.1
theorem pcs_ne (l : List UInt8) : pcs l ≠ [] := by
  cases l with
  | nil => simp [pcs]
  | cons b r =>
    unfold pcs
    split
    · simp
    · split <;> simp
theorem pcs_miss {l : List UInt8} (h : 47 ∉ l) : pcs l = [l] := by
  induction l with
  | nil => rfl
  | cons b r ih =>
    have h1 : b ≠ 47 := fun e => h (by rw [e]; exact List.mem_cons_self ..)
    have h2 := ih (fun e => h (List.mem_cons_of_mem _ e))
    unfold pcs
    rw [if_neg h1, h2]
theorem pcs_hit {a : List UInt8} (h : 47 ∉ a) (r : List UInt8) : pcs (a ++ 47 :: r) = a :: pcs r := by
  induction a with
  | nil => simp [pcs]
  | cons b a ih =>
    have h1 : b ≠ 47 := fun e => h (by rw [e]; exact List.mem_cons_self ..)
    have h2 := ih (fun e => h (List.mem_cons_of_mem _ e))
    rw [List.cons_append]
    rw [pcs, if_neg h1, h2]
theorem pcs_len (l : List UInt8) : (pcs l).length ≤ l.length + 1 := by
  induction l with
  | nil => simp [pcs]
  | cons b r ih =>
    unfold pcs
    split
    · simp only [List.length_cons]; omega
    · split
      · simp
      · next h t e => rw [e] at ih; simp only [List.length_cons] at ih ⊢; omega
theorem sl_pcs (l : List UInt8) : sl (pcs l) = 47 :: l := by
  induction l with
  | nil => rfl
  | cons b r ih =>
    unfold pcs
    split
    · next e => subst e; simp only [sl, ih, List.nil_append]
    · split
      · next e => exact absurd e (pcs_ne r)
      · next h t e =>
        rw [e] at ih
        simp only [sl, List.cons.injEq, true_and] at ih
        simp only [sl, List.cons_append, ih]
theorem pcs_sl : ∀ {ps : List (List UInt8)} {l : List UInt8}, (∀ x ∈ ps, 47 ∉ x) → ps ≠ [] → sl ps = 47 :: l → pcs l = ps
  | [], _, _, h0, _ => absurd rfl h0
  | [x], l, h, _, e => by
    simp only [sl, List.append_nil, List.cons.injEq, true_and] at e
    rw [← e]
    exact pcs_miss (h x (List.mem_cons_self ..))
  | x :: y :: r, l, h, _, e => by
    rw [sl, List.cons.injEq] at e
    have e := e.2
    have h1 := h x (List.mem_cons_self ..)
    obtain ⟨l', hl'⟩ : ∃ l', sl (y :: r) = 47 :: l' := ⟨_, rfl⟩
    rw [hl'] at e
    rw [← e, pcs_hit h1, pcs_sl (fun z hz => h z (List.mem_cons_of_mem _ hz)) (by simp) hl']
theorem sl_len {ps : List (List UInt8)} (h : ∀ x ∈ ps, x.length ≤ 16) : (sl ps).length ≤ 17 * ps.length := by
  induction ps with
  | nil => simp [sl]
  | cons x r ih =>
    have h1 := h x (List.mem_cons_self ..)
    have h2 := ih (fun z hz => h z (List.mem_cons_of_mem _ hz))
    simp only [sl, List.length_cons, List.length_append]
    omega
theorem mayP_all {ps : List (List UInt8)} (h : mayP ps = true) : ps.length ≤ 6 ∧ ∀ x ∈ ps, nameL x = true := by
  simpa [mayP] using h
theorem mayP_no {ps : List (List UInt8)} {x : List UInt8} (hx : x ∈ ps) (h : nameL x = false) : mayP ps = false := by
  have : ps.all nameL = false := by
    rw [List.all_eq_false]
    exact ⟨x, hx, by rw [h]; simp⟩
  simp [mayP, this]
theorem mayP_many {ps : List (List UInt8)} (h : 6 < ps.length) : mayP ps = false := by
  unfold mayP
  rw [decide_eq_false (by omega)]
  rfl
theorem sp_cons (b : UInt8) (l : List UInt8) : sp (b :: l) = if b = 47 then (if l = [] then some [] else if mayP (pcs l) then some (pcs l) else none) else none := rfl
theorem sp_slash (l : List UInt8) (h : l ≠ []) : sp (47 :: l) = if mayP (pcs l) then some (pcs l) else none := by
  rw [sp_cons, if_pos rfl, if_neg h]
theorem sp_else {b : UInt8} (l : List UInt8) (h : b ≠ 47) : sp (b :: l) = none := by rw [sp_cons, if_neg h]
theorem sp_root : sp [47] = some [] := rfl
theorem jo_sp {p : List UInt8} {ps : List (List UInt8)} (h : sp p = some ps) : jo ps = some p := by
  cases p with
  | nil => cases h
  | cons b l =>
    rw [sp_cons] at h
    split at h
    · next e =>
      subst e
      split at h
      · next e => cases h; subst e; rfl
      · split at h
        · next e =>
          cases h
          unfold jo pth
          rw [if_pos e, if_neg (pcs_ne l), sl_pcs]
        · cases h
    · cases h
theorem sp_jo {p : List UInt8} {ps : List (List UInt8)} (h : jo ps = some p) : sp p = some ps := by
  unfold jo at h
  split at h
  · next e =>
    obtain ⟨h6, ha⟩ := mayP_all e
    unfold pth at h
    split at h
    · next e0 => cases h; subst e0; rfl
    · next e0 =>
      cases ps with
      | nil => exact absurd rfl e0
      | cons x r =>
        have e1 := Option.some.inj h
        have hx := nameL_ne (ha x (List.mem_cons_self ..))
        have e2 : p = 47 :: (x ++ sl r) := e1.symm
        rw [e2, sp_slash _ (by intro h3; exact hx (List.append_eq_nil_iff.1 h3).1)]
        rw [pcs_sl (ps := x :: r) (fun z hz => nameL_slash (ha z hz)) (by simp) rfl, if_pos e]
  · cases h
theorem sp_inj {p q : List UInt8} {ps : List (List UInt8)} (h : sp p = some ps) (h2 : sp q = some ps) : p = q :=
  Option.some.inj ((jo_sp h).symm.trans (jo_sp h2))
theorem sp_may {p : List UInt8} {ps : List (List UInt8)} (h : sp p = some ps) : mayP ps = true := by
  have := jo_sp h
  unfold jo at this
  split at this
  · assumption
  · cases this
theorem und_both {p q : List UInt8} (h : und p q = true) (h2 : und q p = true) : p = q := by
  unfold und at h h2
  cases e : sp p with
  | none => rw [e] at h; cases h
  | some x =>
    cases e2 : sp q with
    | none => rw [e, e2] at h; cases h
    | some y =>
      rw [e, e2] at h h2
      simp only [decide_eq_true_eq] at h h2
      have : x = y := by
        rw [h.2]
        exact List.take_of_length_le (by omega)
      subst this
      exact sp_inj e e2
theorem und_self (p : List UInt8) : und p p = (sp p).isSome := by
  unfold und
  cases e : sp p with
  | none => rfl
  | some x => simp

/-- The first pieces, at most so many cuts. -/
def sn : Nat → List UInt8 → List (List UInt8)
  | 0, l => [l]
  | k + 1, l => if 47 ∈ l then l.takeWhile (· != 47) :: sn k ((l.dropWhile (· != 47)).drop 1) else [l]
theorem cut_at {l : List UInt8} (h : 47 ∈ l) : 47 ∉ l.takeWhile (· != 47) ∧ l = l.takeWhile (· != 47) ++ 47 :: (l.dropWhile (· != 47)).drop 1 := by
  induction l with
  | nil => cases h
  | cons b r ih =>
    by_cases hb : b = 47
    · subst hb
      simp
    · have h1 : (47 : UInt8) ∈ r := by
        rcases List.mem_cons.1 h with e | e
        · exact absurd e.symm hb
        · exact e
      obtain ⟨i1, i2⟩ := ih h1
      have hb2 : (b != 47) = true := by simp [hb]
      rw [List.takeWhile_cons, List.dropWhile_cons, if_pos hb2, if_pos hb2]
      refine ⟨fun hm => ?_, ?_⟩
      · rcases List.mem_cons.1 hm with e | e
        · exact hb e.symm
        · exact i1 e
      · rw [List.cons_append, ← i2]
theorem sn_pcs : ∀ (k : Nat) (l : List UInt8), ((pcs l).length ≤ k + 1 → sn k l = pcs l) ∧ (k + 1 < (pcs l).length → (sn k l).length = k + 1)
  | 0, l => by
    by_cases h : 47 ∈ l
    · obtain ⟨h1, h2⟩ := cut_at h
      have e := pcs_hit h1 ((l.dropWhile (· != 47)).drop 1)
      rw [← h2] at e
      have := pcs_ne ((l.dropWhile (· != 47)).drop 1)
      have hl : (pcs ((l.dropWhile (· != 47)).drop 1)).length ≠ 0 := fun e => this (List.eq_nil_of_length_eq_zero e)
      rw [e]
      refine ⟨fun h3 => ?_, fun _ => rfl⟩
      simp only [List.length_cons] at h3
      omega
    · rw [pcs_miss h]
      exact ⟨fun _ => rfl, fun _ => rfl⟩
  | k + 1, l => by
    by_cases h : 47 ∈ l
    · obtain ⟨h1, h2⟩ := cut_at h
      have e := pcs_hit h1 ((l.dropWhile (· != 47)).drop 1)
      rw [← h2] at e
      obtain ⟨i1, i2⟩ := sn_pcs k ((l.dropWhile (· != 47)).drop 1)
      unfold sn
      rw [if_pos h, e]
      simp only [List.length_cons]
      refine ⟨fun h3 => ?_, fun h3 => ?_⟩
      · rw [i1 (by omega)]
      · rw [i2 (by omega)]
    · unfold sn
      rw [if_neg h, pcs_miss h]
      exact ⟨fun _ => rfl, fun h3 => by simp at h3⟩
/-- What the program asks of its pieces is what the document asks. -/
theorem sn_may {k : Nat} {l : List UInt8} (h : k = min 7 (l.length + 1) - 1) : mayP (sn k l) = mayP (pcs l) ∧ (mayP (pcs l) = true → sn k l = pcs l) := by
  obtain ⟨i1, i2⟩ := sn_pcs k l
  have hl := pcs_len l
  by_cases h7 : (pcs l).length ≤ k + 1
  · rw [i1 h7]; exact ⟨rfl, fun _ => rfl⟩
  · have h8 := i2 (by omega)
    have h9 : mayP (pcs l) = false := mayP_many (by omega)
    have h10 : mayP (sn k l) = false := mayP_many (by omega)
    rw [h9, h10]
    exact ⟨rfl, fun e => by cases e⟩

/-- The document's way: what was found, and where the next piece begins. -/
structure Wy (l : List UInt8) (out : List (List UInt8)) (f k : Nat) : Prop where
  le : f ≤ k
  may : mayP out = true
  is : (k ≤ l.length ∧ pcs l = out ++ pcs (l.drop f) ∧ 47 ∉ (l.drop f).take (k - f)) ∨ (k = l.length + 1 ∧ pcs l = out)
theorem Wy.zero (l : List UInt8) : Wy l [] 0 0 := ⟨Nat.le_refl _, rfl, .inl ⟨Nat.zero_le _, rfl, by simp⟩⟩
theorem Wy.next {l : List UInt8} {out : List (List UInt8)} {f k : Nat} (h : Wy l out f k) (hk : k < l.length) (h47 : l[k] ≠ 47) : Wy l out f (k + 1) := by
  obtain ⟨h1, h2, h3⟩ := h
  rcases h3 with ⟨a, b, c⟩ | ⟨a, _⟩
  · refine ⟨by omega, h2, .inl ⟨by omega, b, ?_⟩⟩
    have e : k + 1 - f = (k - f) + 1 := by omega
    rw [e, List.take_add_one, List.getElem?_drop, show f + (k - f) = k by omega, List.getElem?_eq_getElem hk]
    intro hm
    rcases List.mem_append.1 hm with m | m
    · exact c m
    · simp at m
      exact h47 m.symm
  · omega
theorem Wy.piece {l : List UInt8} {out : List (List UInt8)} {f k : Nat} (h : Wy l out f k) (hk : k ≤ l.length) (he : k = l.length ∨ l[k]? = some 47) :
    ∃ t, pcs l = out ++ (l.drop f).take (k - f) :: t ∧ ((k = l.length ∧ t = []) ∨ (k < l.length ∧ t = pcs (l.drop (k + 1)))) := by
  obtain ⟨h1, h2, h3⟩ := h
  rcases h3 with ⟨a, b, c⟩ | ⟨a, _⟩
  · by_cases hl : k = l.length
    · refine ⟨[], ?_, .inl ⟨hl, rfl⟩⟩
      have e : (l.drop f).take (k - f) = l.drop f := List.take_of_length_le (by rw [List.length_drop]; omega)
      rw [e] at c ⊢
      rw [b, pcs_miss c]
    · have h47 : l[k]? = some 47 := by
        rcases he with e | e
        · exact absurd e hl
        · exact e
      refine ⟨_, ?_, .inr ⟨by omega, rfl⟩⟩
      rw [b]
      congr 1
      rw [← pcs_hit c]
      congr 1
      have e1 : l.drop f = (l.drop f).take (k - f) ++ (l.drop f).drop (k - f) := (List.take_append_drop _ _).symm
      have e2 : (l.drop f).drop (k - f) = l.drop k := by rw [List.drop_drop]; congr 1; omega
      have e3 : l.drop k = 47 :: l.drop (k + 1) := by
        obtain ⟨hk, hv⟩ := List.getElem?_eq_some_iff.1 h47
        rw [List.drop_eq_getElem_cons hk, hv]
      rw [e2, e3] at e1
      exact e1
  · omega
theorem Wy.bad {l : List UInt8} {out : List (List UInt8)} {f k : Nat} (h : Wy l out f k) (hk : k ≤ l.length) (he : k = l.length ∨ l[k]? = some 47) (hb : nameL ((l.drop f).take (k - f)) = false ∨ out.length = 6) : mayP (pcs l) = false := by
  obtain ⟨t, e, _⟩ := h.piece hk he
  rw [e]
  rcases hb with b | b
  · exact mayP_no (by simp) b
  · exact mayP_many (by simp only [List.length_append, List.length_cons]; omega)
theorem Wy.more {l : List UInt8} {out : List (List UInt8)} {f k : Nat} (h : Wy l out f k) (hk : k ≤ l.length) (he : k = l.length ∨ l[k]? = some 47) (hn : nameL ((l.drop f).take (k - f)) = true) (h6 : ¬ out.length = 6) : Wy l (out ++ [(l.drop f).take (k - f)]) (k + 1) (k + 1) := by
  obtain ⟨t, e, ht⟩ := h.piece hk he
  obtain ⟨h1, h2⟩ := mayP_all h.may
  refine ⟨Nat.le_refl _, ?_, ?_⟩
  · simp only [mayP, Bool.and_eq_true, decide_eq_true_eq, List.all_eq_true, List.length_append, List.length_cons, List.length_nil]
    refine ⟨by omega, fun x hx => ?_⟩
    rcases List.mem_append.1 hx with m | m
    · exact h2 x m
    · simp only [List.mem_singleton] at m
      rw [m]; exact hn
  · rcases ht with ⟨a, b⟩ | ⟨a, b⟩
    · right
      exact ⟨by omega, by rw [e, b]⟩
    · left
      refine ⟨by omega, by rw [e, b, List.append_assoc]; rfl, by simp⟩
theorem Wy.fin {l : List UInt8} {out : List (List UInt8)} {f : Nat} (h : Wy l out f (l.length + 1)) : pcs l = out ∧ mayP (pcs l) = true := by
  rcases h.is with ⟨a, _⟩ | ⟨_, b⟩
  · omega
  · exact ⟨b, by rw [b]; exact h.may⟩

/-- The shelf's words. -/
theorem join_sl {x : List UInt8} {r : List (List UInt8)} : 47 :: Lib.join (x :: r) [47] = sl (x :: r) := by
  rw [Lib.join_cons, sl]
  congr 2
  unfold Lib.joinTail
  induction r with
  | nil => rfl
  | cons y r ih => rw [List.map_cons, List.flatten_cons, ih]; rfl
theorem pth_join (ps : List (List UInt8)) : pth ps = 47 :: Lib.join ps [47] := by
  cases ps with
  | nil => rfl
  | cons x r => unfold pth; rw [if_neg (by simp), join_sl]
end Nx
end Go.Proofs.YtcjdhbiiigdmmaaDoor
