/-
  Shares are read of bytes: the program's and the document's answer, in one plain form.
-/
import Derived.Test.YtkiejjnnjjdfjaaFRefMay
import Derived.Test.YtkiejjnnjjdfjaaNum
import Derived.Test.YtkiejjnnjjdfjaaRefNum
import Derived.Test.YtkiejjnnjjdfjaaRow
namespace Go.Proofs.Ytkiejjnnjjdfjaa
open Go.RowKit Pl
set_option linter.unusedVariables false

theorem numFrom_val {xs : List Int} (hx : By xs) : ∀ f k0 n k, numFrom xs f k0 = some (n, k) → 0 ≤ n ∧ n ≤ 4294967295
  | 0, k0, n, k, h => by simp [numFrom] at h
  | f + 1, k0, n, k, h => by
    simp only [numFrom] at h
    split at h
    · split at h
      · exact numFrom_val hx f (k0 + 1) n k h
      · split at h
        · cases h
        · rename_i h3
          simp only [Option.some.injEq, Prod.mk.injEq] at h
          have := numAt_bd xs hx (k0 + 1)
          omega
    · cases h
theorem numRes_val {xs : List Int} (hx : By xs) {n : Int} {k : Nat} (h : numRes xs = some (n, k)) : 0 ≤ n ∧ n ≤ 4294967295 := numFrom_val hx _ _ _ _ h

theorem By.drop {xs : List Int} (h : By xs) (m : Nat) : By (xs.drop m) := by
  intro i
  rw [List.getD_eq_getElem?_getD, List.getElem?_drop, ← List.getD_eq_getElem?_getD]
  exact h _

theorem rd_drop' {k : IntKind} {w : World} {b o cap : Nat} {xs : List Int} (m : Nat) (hm : m ≤ xs.length) (hl : xs.length ≤ cap) (hc : cap ≤ maxLen)
    (h : ∀ i, i < xs.length → w.cell? ⟨b, o + i, none⟩ = some (.int k (xs.getD i 0))) : Rd k w (.slice (some ⟨b, o + m, none⟩) (xs.length - m) (cap - m)) (xs.drop m) := by
  have e : (xs.drop m).length = xs.length - m := by rw [List.length_drop]
  refine ⟨_, cap - m, by rw [e], by omega, by omega, (fun e => by cases e), .inr ⟨b, o + m, rfl, fun i hi => ?_⟩⟩
  rw [Nat.add_assoc, h (m + i) (by omega), List.getD_eq_getElem?_getD, List.getD_eq_getElem?_getD, List.getElem?_drop]

/-- The first m short numbers with which bytes begin, and how many bytes they have. -/
def tkn (xs : List Int) : Nat → Option (List Int × Nat)
  | 0 => some ([], 0)
  | m + 1 => match tkn xs m with
    | none => none
    | some t => match numRes (xs.drop t.2) with
      | none => none
      | some r => some (t.1 ++ [r.1], t.2 + r.2)

theorem tkn_none {xs : List Int} {m n : Nat} (h : tkn xs m = none) (hmn : m ≤ n) : tkn xs n = none := by
  induction n with
  | zero => obtain rfl : m = 0 := by omega
            exact h
  | succ n ih =>
    by_cases e : m = n + 1
    · rw [← e]; exact h
    · simp only [tkn]; rw [ih (by omega)]

theorem tkn_le {xs : List Int} : ∀ {m : Nat} {l : List Int} {p : Nat}, tkn xs m = some (l, p) → l.length = m ∧ p ≤ xs.length
  | 0, l, p, h => by simp [tkn] at h; obtain ⟨rfl, rfl⟩ := h; exact ⟨rfl, Nat.zero_le _⟩
  | m + 1, l, p, h => by
    simp only [tkn] at h
    split at h
    · cases h
    · rename_i t ht
      split at h
      · cases h
      · rename_i r hr
        simp only [Option.some.injEq, Prod.mk.injEq] at h
        obtain ⟨rfl, rfl⟩ := h
        obtain ⟨h1, h2⟩ := tkn_le (l := t.1) (p := t.2) ht
        obtain ⟨_, h4, _, _⟩ := numRes_take (n := r.1) (k := r.2) hr
        rw [List.length_drop] at h4
        exact ⟨by simp [h1], by omega⟩

def tkW (r : Option (List Int × Nat)) : Int := match r with | some _ => 0 | none => 3
def tkP (r : Option (List Int × Nat)) : Nat := match r with | some t => t.2 | none => 0
def tkL (r : Option (List Int × Nat)) : List Int := match r with | some t => t.1 | none => []

set_option maxRecDepth 100000 in
set_option maxHeartbeats 2000000 in
theorem take_any (b o cap : Nat) (ys : List Int) (m : Nat) (w : World) (hy : By ys) (hl : ys.length ≤ cap) (hc0 : cap ≤ maxLen) (hm : m ≤ 64) (hc : ∀ i, i < ys.length → w.cell? ⟨b, o + i, none⟩ = some (.int .u8 (ys.getD i 0))) :
    Calls Try.prog 33 #[.slice (some ⟨b, o, none⟩) ys.length cap, .int .i64 m] w fun e w' => ∃ v', e = .returned (.tuple #[v', .int .i64 (tkP (tkn ys m) : Int), .int .i64 (tkW (tkn ys m))]) ∧ Owns .i64 3 w' v' (tkL (tkn ys m)) ∧ Grew w w' (.slice none 0 0) v' := by
  have HC : Hid (∀ i, i < ys.length → w.cell? ⟨b, o + i, none⟩ = some (.int .u8 (ys.getD i 0))) := hc
  have HY : Hid (By ys) := hy
  obtain ⟨R, hR⟩ : ∃ R, Hid (tkn ys m = R) := ⟨_, rfl⟩
  rw [hR.out]
  have hcm := hc0
  unfold maxLen at hcm
  clear hc hy
  obtain ⟨j0, hj, hy0, hy1, hy2⟩ := elem64.info
  go_enter Try.func33, Try.ntmps33
  go_wp2_with (at_make; refine wpList_make_own _ rfl (.const (.int .i64 0)) (.tmp 12) 22 rfl 0 3 j0 _ 1 Try.underlying22 hj hy0 hy1 .i64 .i64 _ m rfl rfl rfl (by rw [hy2]; omega) (by unfold maxLen; omega) (Nat.zero_le _) ?_)
  intro w1 ho1 hg1
  have O1 : Hid (Owns .i64 3 w1 (.slice (some ⟨w.heap.size, 0, none⟩) 0 m) []) := ho1
  have G1 : Hid (Grew w w1 (.slice none 0 0) (.slice (some ⟨w.heap.size, 0, none⟩) 0 m)) := by
    refine ⟨(Tch.refl _ _).grown hg1 (fun k _ e => by cases e), fun k e => .inr ?_⟩
    simp only [Value.ownBlock, Option.some.injEq] at e
    omega
  clear ho1 hg1 hj hy0 hy1 hy2
  go_wp2_with fail
  go_loopw [7, 8, 15] (fun r p i wr => ∃ (k q : Nat) (l : List Int), k ≤ m ∧ q ≤ ys.length ∧ i = .int .i64 k ∧ p = .int .i64 q ∧ Hid (tkn ys k = some (l, q)) ∧ Hid (Owns .i64 3 wr r l) ∧ Hid (Grew w wr (.slice none 0 0) r)) (fun _ _ i _ => m - (intOf i).toNat)
  case atStart => exact ⟨0, 0, [], Nat.zero_le _, Nat.zero_le _, rfl, rfl, rfl, O1, G1⟩
  case round =>
    clear O1 G1
    obtain ⟨k, q, l, hk, hq, rfl, rfl, HT, HO, HG⟩ := hrel
    by_cases hlt : k < m
    · by_cases hql : ys.length ≤ q
      · obtain rfl : q = ys.length := by omega
        have HE : Hid (R = none) := by
          show R = none
          rw [← hR.out]
          refine tkn_none (m := k + 1) ?_ hlt
          simp only [tkn]
          rw [HT.out]
          simp only [List.drop_length]
          rfl
        have HNM : Hid (∀ a c, Calls Try.prog 31 #[.slice a 0 c] wr fun e w' => e = .returned (.tuple #[.int .i64 0, .int .i64 0, .int .i64 3]) ∧ w' = wr) := fun a c => num_empty a c wr
        have h00 : ys.length - ys.length = 0 := by omega
        clear hql
        go_wp2_with fail
        all_goals
          try rw [h00]
          refine (HNM.out _ _).mono ?_
          rintro e w2 ⟨rfl, rfl⟩
          go_wp2_with fail
          go_ret3
          rw [HE.out]
          exact ⟨_, rfl, owns_nil _ _ _, (HG.out.below).1 |> fun b => ⟨Tch.of_below b, fun k e => by cases e⟩⟩
      have HRD : Hid (Rd .u8 wr (.slice (some ⟨b, o + q, none⟩) (ys.length - q) (cap - q)) (ys.drop q)) := rd_drop' q hq hl hc0 (fun i hi => by
        have h0 := HC.out i hi
        rw [HG.out.below.1.cell (p := ⟨b, o + i, none⟩) (World.block_lt_of_cell? w ⟨b, o + i, none⟩ h0), h0])
      have HNM : Hid (Calls Try.prog 31 #[.slice (some ⟨b, o + q, none⟩) (ys.length - q) (cap - q)] wr fun e w' => e = .returned (.tuple #[.int .i64 (resN (numRes (ys.drop q))), .int .i64 (resK (numRes (ys.drop q))), .int .i64 (resE (numRes (ys.drop q)))]) ∧ w' = wr) := num_rd _ _ _ HRD.out (HY.out.drop q)
      have hcq : q < cap := by omega
      have hql2 : q < ys.length := by omega
      clear hql
      go_wp2_with fail
      refine HNM.out.mono ?_
      clear HNM HRD
      rintro e w2 ⟨rfl, rfl⟩
      cases hn : numRes (ys.drop q) with
      | none =>
        have HE : Hid (R = none) := by
          show R = none
          rw [← hR.out]
          refine tkn_none (m := k + 1) ?_ hlt
          simp only [tkn]
          rw [HT.out]
          simp only [hn]
        simp only [resN, resK, resE]
        clear hn
        go_wp2_with fail
        go_ret3
        rw [HE.out]
        exact ⟨_, rfl, owns_nil _ _ _, (HG.out.below).1 |> fun b => ⟨Tch.of_below b, fun k e => by cases e⟩⟩
      | some r =>
        obtain ⟨x, j⟩ := r
        obtain ⟨j1, j2, j3, _⟩ := numRes_take hn
        rw [List.length_drop] at j2
        have hx := numRes_val (HY.out.drop q) hn
        have HT2 : Hid (tkn ys (k + 1) = some (l ++ [x], q + j)) := by
          show _ = _
          simp only [tkn]
          rw [HT.out]
          simp only [hn]
        have hll : l.length ≤ 64 := by have := (tkn_le HT.out).1; omega
        simp only [resN, resK, resE]
        clear hn
        go_wp2_with (at_builtin; refine wpList_push _ rfl (.tmp 28) (.tmp 30) 22 rfl 3 .i64 8 elem64 _ l rfl HO.out x rfl (by omega) (by omega) ?_)
        intro v3 w3 ho3 hg3
        have HO3 : Hid (Owns .i64 3 w3 v3 (l ++ [x])) := ho3
        have HG3 : Hid (Grew w w3 (.slice none 0 0) v3) := HG.out.trans hg3
        clear ho3 hg3 HO HG
        go_wp2_with fail
        go_roundw
        case rel => exact ⟨k + 1, q + j, l ++ [x], by omega, by omega, by go_num, by go_num, HT2, HO3, HG3⟩
        case measure => simp [intOf]; omega
    · obtain rfl : k = m := by omega
      have HE : Hid (R = some (l, q)) := by show R = _; rw [← hR.out]; exact HT.out
      go_wp2_with fail
      go_ret3
      rw [HE.out]
      exact ⟨_, rfl, HO.out, HG.out⟩
end Go.Proofs.Ytkiejjnnjjdfjaa
