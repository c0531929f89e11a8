/-
  What the law on short numbers that are written comes to: true, and nothing that was there is touched.
-/
import Derived.Test.YtbjpeomokgchnaaPutNum
import Derived.Test.YtbjpeomokgchnaaSame
namespace Go.Proofs.Ytbjpeomokgchnaa
open Go.RowKit Pl
set_option linter.unusedVariables false

/-- A last part of what can be read can be read. -/
theorem rd_drop {k : IntKind} {w : World} {b cap : Nat} {xs : List Int} (m c : Nat) (hm : m ≤ xs.length) (hl : xs.length - m ≤ c) (hc : c ≤ maxLen)
    (h : ∀ i, i < xs.length → w.cell? ⟨b, i, none⟩ = some (.int k (xs.getD i 0))) : Rd k w (.slice (some ⟨b, m, none⟩) (xs.length - m) c) (xs.drop m) := by
  have e : (xs.drop m).length = xs.length - m := by rw [List.length_drop]
  refine ⟨_, c, by rw [e], by omega, hc, (fun e => by cases e), .inr ⟨b, m, rfl, fun i hi => ?_⟩⟩
  rw [h (m + i) (by omega), List.getD_eq_getElem?_getD, List.getD_eq_getElem?_getD, List.getElem?_drop]

theorem By.append {xs ys : List Int} (hx : By xs) (hy : By ys) : By (xs ++ ys) := by
  intro i
  rw [List.getD_eq_getElem?_getD, List.getElem?_append]
  split
  · rw [← List.getD_eq_getElem?_getD]; exact hx i
  · rw [← List.getD_eq_getElem?_getD]; exact hy _

theorem by_of_mem {xs : List Int} (h : ∀ x ∈ xs, 0 ≤ x ∧ x ≤ 255) : By xs := by
  intro i
  rw [List.getD_eq_getElem?_getD]
  cases e : xs[i]? with
  | none => simp
  | some n => exact h n (List.mem_of_getElem? e)

set_option maxRecDepth 100000 in
set_option maxHeartbeats 1000000 in
theorem bitsNums_walk (v u : Value) (xs ys : List Int) (n : Int) (w : World) (hx : Rd .u8 w v xs) (hy : Rd .u8 w u ys) (by' : By ys) (bx : xs.length ≤ 140737488351232) (by2 : ys.length ≤ 140737488351232) :
    Calls Try.prog 7 #[v, .int .i64 n, u] w fun e w' => e = .returned (.bool true) ∧ Below w.heap.size w w' := by
  have HX : Hid (Rd .u8 w v xs) := hx
  have HY : Hid (Rd .u8 w u ys) := hy
  have HB : Hid (By ys) := by'
  clear hx hy by'
  by_cases hn : n < 0 ∨ 4294967295 < n
  · have HN : Hid (n < 0 ∨ 4294967295 < n) := hn
    clear hn
    go_enter Try.func7, Try.ntmps7
    go_wp2_with fail
    refine (putNum_bad v xs n w HX.out (by omega) HN.out).mono ?_
    rintro e w1 ⟨v1, rfl, ho1, hg1⟩
    obtain ⟨b1, f1⟩ := hg1.below
    have HO1 : Hid (Owns .u8 5 w1 v1 xs) := ho1
    have B1 : Hid (Below w.heap.size w w1) := b1
    clear ho1 hg1 b1 f1
    go_wp2_with fail
    refine (refPutNum_bad v xs n w1 (HX.out.below B1.out) (by omega) HN.out).mono ?_
    rintro e w2 ⟨v2, rfl, ho2, hg2⟩
    obtain ⟨b2, f2⟩ := hg2.below
    have HO2 : Hid (Owns .u8 5 w2 v2 xs) := ho2
    have HO1' : Hid (Owns .u8 5 w2 v1 xs) := HO1.out.below b2
    have B2 : Hid (Below w.heap.size w w2) := B1.out.trans (b2.mono B1.out.size)
    clear ho2 hg2 b2 f2
    go_wp2_with fail
    refine (same_rd v1 v2 xs xs w2 HO1'.out.rd HO2.out.rd).mono ?_
    rintro e w3 ⟨rfl, b3⟩
    have B3 : Hid (Below w.heap.size w w3) := B2.out.trans (b3.mono B2.out.size)
    have ed : decide (xs = xs) = true := by simp
    rw [ed]
    clear b3 ed
    go_wp2_with fail
    refine (lives_any _).mono ?_
    rintro e w4 ⟨rfl, b4⟩
    have B4 : Hid (Below w.heap.size w w4) := B3.out.trans (b4.mono B3.out.size)
    clear b4
    go_wp2_with fail
    go_ret
    exact ⟨rfl, B4.out⟩
  · have h0 : 0 ≤ n := by omega
    have h1 : n ≤ 4294967295 := by omega
    clear hn
    have hdl := digits_len n
    have HDB : Hid (By (digits n)) := by_of_mem (dig_by 4 n h0 (by have : (128 : Int) ^ (4 + 1) = 34359738368 := by decide
                                                                   omega))
    have HRES : Hid (numRes (digits n ++ ys) = some (n, (digits n).length)) := num_digits n ys h0 h1
    obtain ⟨D, HD⟩ : ∃ D, Hid (digits n = D) := ⟨_, rfl⟩
    rw [HD.out] at hdl HDB HRES
    obtain ⟨a0, c0, rfl, hl0, hm0, _, _⟩ := HX.out
    unfold maxLen at hm0
    go_enter Try.func7, Try.ntmps7
    go_wp2_with fail
    refine (putNum_ok _ xs n w HX.out (by omega) h0 h1).mono ?_
    rintro e w1 ⟨v1, rfl, ho1, hg1⟩
    rw [HD.out] at ho1
    obtain ⟨b1, f1⟩ := hg1.below
    have HO1 : Hid (Owns .u8 5 w1 v1 (xs ++ D)) := ho1
    have B1 : Hid (Below w.heap.size w w1) := b1
    clear ho1 hg1 b1 f1
    go_wp2_with fail
    refine (refPutNum_ok _ xs n w1 (HX.out.below B1.out) (by omega) h0 h1).mono ?_
    rintro e w2 ⟨v2, rfl, ho2, hg2⟩
    rw [HD.out] at ho2
    obtain ⟨b2, f2⟩ := hg2.below
    have HO2 : Hid (Owns .u8 5 w2 v2 (xs ++ D)) := ho2
    have HO1' : Hid (Owns .u8 5 w2 v1 (xs ++ D)) := HO1.out.below b2
    have B2 : Hid (Below w.heap.size w w2) := B1.out.trans (b2.mono B1.out.size)
    clear ho2 hg2 b2 f2
    go_wp2_with fail
    refine (same_rd v1 v2 (xs ++ D) (xs ++ D) w2 HO1'.out.rd HO2.out.rd).mono ?_
    rintro e w3 ⟨rfl, b3⟩
    have B3 : Hid (Below w.heap.size w w3) := B2.out.trans (b3.mono B2.out.size)
    have HO3 : Hid (Owns .u8 5 w3 v1 (xs ++ D)) := HO1'.out.below b3
    have ed : decide (xs ++ D = xs ++ D) = true := by simp
    rw [ed]
    clear b3 ed HO1 HO1' HO2 B1 B2
    obtain ⟨g, cap, rfl, hg, hlc, hcm, hcell, _⟩ := HO3.out.shape (by simp; omega)
    unfold maxLen at hcm
    have hne : ¬ cap = xs.length := by simp at hlc; omega
    have HR3 : Hid (Rd .u8 w3 (.slice (some ⟨g, xs.length, none⟩) D.length (cap - xs.length)) D) := by
      have := rd_drop (k := .u8) (cap := cap) xs.length (cap - xs.length) (by simp) (by simp at hlc ⊢; omega) (by unfold maxLen; omega) hcell
      simpa [Hid] using this
    have hlen : (xs ++ D).length = xs.length + D.length := by simp
    simp only [hlen] at hlc ⊢
    clear hcell hlen
    go_wp2_with (at_builtin; refine wpList_many _ rfl (.tmp 41) (.tmp 45) 33 rfl 5 .u8 1 elem8 _ [] rfl (owns_nil _ _ _) _ D rfl HR3.out ?a1 ?a2 ?_)
    case a1 => simp; omega
    case a2 => simp; omega
    intro v4 w4 ho4 hg4
    obtain ⟨b4, f4⟩ := hg4.below
    have HO4 : Hid (Owns .u8 5 w4 v4 D) := by simpa [Hid] using ho4
    have B4 : Hid (Below w.heap.size w w4) := B3.out.trans (b4.mono B3.out.size)
    have F4 : Hid (∀ k, v4.ownBlock = some k → w.heap.size ≤ k) := fun k hk => Nat.le_trans B3.out.size (f4 k hk)
    clear ho4 hg4 b4 f4 HO3 HR3
    go_wp2_with (at_builtin; refine wpList_many _ rfl (.tmp 47) (.tmp 48) 33 rfl 5 .u8 1 elem8 _ D rfl HO4.out _ ys rfl (HY.out.below B4.out) ?a3 ?a4 ?_)
    case a3 => omega
    case a4 => omega
    intro v5 w5 ho5 hg5
    obtain ⟨b5, _⟩ := hg5.onto B4.out F4.out
    have HO5 : Hid (Owns .u8 5 w5 v5 (D ++ ys)) := ho5
    have B5 : Hid (Below w.heap.size w w5) := b5
    clear ho5 hg5 b5
    go_wp2_with fail
    refine (num_rd v5 (D ++ ys) w5 HO5.out.rd (HDB.out.append HB.out)).mono ?_
    rintro e w6 ⟨rfl, rfl⟩
    rw [HRES.out]
    simp only [resN, resK, resE]
    clear HRES HO4 HO5 HY HB HX F4 B3 B4 HDB HD
    generalize D.length = d at *
    generalize xs.length = m at *
    have hs : ((m : Int) + (d : Int) - (m : Int)) = (d : Int) := by omega
    go_wp2_with fail
    refine (lives_any _).mono ?_
    rintro e w7 ⟨rfl, b7⟩
    have B7 : Hid (Below w.heap.size w w7) := B5.out.trans (b7.mono B5.out.size)
    clear b7
    go_wp2_with fail
    go_ret
    exact ⟨by simp, B7.out⟩
end Go.Proofs.Ytbjpeomokgchnaa
