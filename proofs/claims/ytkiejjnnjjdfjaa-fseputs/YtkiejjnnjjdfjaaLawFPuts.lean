/-
  FsePuts: shares are written as the document says, or refused, and read again, whatever stands behind: the law answers true.
-/
import Derived.Test.YtkiejjnnjjdfjaaFPut
import Derived.Test.YtkiejjnnjjdfjaaSame
import Derived.Test.YtkiejjnnjjdfjaaFNums
import Derived.Test.YtkiejjnnjjdfjaaFLives
namespace Go.Proofs.Ytkiejjnnjjdfjaa
open Go.RowKit Pl
set_option linter.unusedVariables false

theorem By.app {xs ys : List Int} (hx : By xs) (hy : By ys) : By (xs ++ ys) := by
  intro i
  rw [List.getD_eq_getElem?_getD, List.getElem?_append]
  split
  · rw [← List.getD_eq_getElem?_getD]; exact hx i
  · rw [← List.getD_eq_getElem?_getD]; exact hy _

theorem by_mem {xs : List Int} (h : ∀ x ∈ xs, 0 ≤ x ∧ x ≤ 255) : By xs := by
  intro i
  rw [List.getD_eq_getElem?_getD]
  cases e : xs[i]? with
  | none => simp
  | some n => exact h n (List.mem_of_getElem? e)

theorem pk_by {cs : List Int} (hb : ∀ i, 0 ≤ cs.getD i 0 ∧ cs.getD i 0 ≤ 4294967295) : ∀ k, By (pk cs k)
  | 0 => fun i => by simp [pk]
  | k + 1 => (pk_by hb k).app (by_mem (dig_by 4 _ (hb k).1 (by have := (hb k).2; omega)))

set_option maxRecDepth 100000 in
set_option maxHeartbeats 2000000 in
theorem fsePuts_walk (v1 v2 : Value) (s bh : List Int) (log : Int) (w : World) (h1 : Rd .i64 w v1 s) (h2 : Rd .u8 w v2 bh) (hy : By bh) (hbl : bh.length ≤ 140737488351232) :
    Calls Try.prog 5 #[v1, .int .i64 log, v2] w fun e w' => e = .returned (.bool true) ∧ Below w.heap.size w w' := by
  have H1 : Hid (Rd .i64 w v1 s) := h1
  have H2 : Hid (Rd .u8 w v2 bh) := h2
  have HY : Hid (By bh) := hy
  clear h1 h2 hy
  obtain ⟨r, hr⟩ : ∃ r, Hid (putR s log = r) := ⟨_, rfl⟩
  have HSH : Hid (Calls Try.prog 14 #[v1, .int .i64 log] w fun e w' => EPost r w e w') := by show Calls _ _ _ _ _; rw [← hr.out]; exact putShare_any _ s log w H1.out
  go_enter Try.func5, Try.ntmps5
  go_wp2_with fail
  refine HSH.out.mono ?_
  clear HSH
  intro e w2 hD
  obtain ⟨d, rfl, hb2, hf2, ho2⟩ := hD
  have F2 : Hid (∀ k, d.ownBlock = some k → w.heap.size ≤ k) := hf2
  have B2 : Hid (Below w.heap.size w w2) := hb2
  have O2 : Hid (Owns .u8 5 w2 d r.2) := ho2
  clear hb2 ho2 hf2
  have HS2 : Hid (Calls Try.prog 15 #[v1, .int .i64 log] w2 fun e w' => EPost r w2 e w') := by show Calls _ _ _ _ _; rw [← hr.out]; exact refPutShare_any _ s log w2 (H1.out.below B2.out)
  go_wp2_with fail
  refine HS2.out.mono ?_
  clear HS2
  intro e w3 hD
  obtain ⟨d2, rfl, hb3, hf3, ho3⟩ := hD
  have B3 : Hid (Below w.heap.size w w3) := B2.out.trans (hb3.mono B2.out.size)
  have O3 : Hid (Owns .u8 5 w3 d2 r.2) := ho3
  have O23 : Hid (Owns .u8 5 w3 d r.2) := O2.out.below hb3
  clear hb3 ho3 hf3 B2 O2
  go_wp2_with fail
  refine (same_rd _ _ r.2 r.2 w3 O23.out.rd O3.out.rd).mono ?_
  rintro e w4 ⟨rfl, hb4⟩
  have hdec : decide (r.2 = r.2) = true := by simp
  rw [hdec]
  have B4 : Hid (Below w.heap.size w w4) := B3.out.trans (hb4.mono B3.out.size)
  have O4 : Hid (Owns .u8 5 w4 d r.2) := O23.out.below hb4
  clear hdec hb4 B3 O3 O23
  cases hm : mayS s log with
  | false =>
    have HE : Hid (r = (4, [])) := by show r = _; rw [← hr.out]; unfold putR; rw [if_pos hm]
    rw [HE.out]
    clear hm
    go_wp2_with fail
    refine (lives_any _).mono ?_
    rintro e w9 ⟨rfl, hb9⟩
    go_wp2_with fail
    go_ret
    exact ⟨rfl, B4.out.trans (hb9.mono B4.out.size)⟩
  | true =>
    obtain ⟨lg, rfl, hsok⟩ := Sok.of hm
    obtain ⟨xs, hxs⟩ : ∃ xs, Hid ([(lg : Int)] ++ pk ((s.length : Int) :: s) (s.length + 1) = xs) := ⟨_, rfl⟩
    have HE : Hid (r = (0, xs)) := by show r = _; rw [← hr.out]; unfold putR; rw [if_neg (by rw [hm]; simp), hxs.out]
    have hxl : xs.length ≤ 400 := by
      rw [← hxs.out]
      have := pk_len ((s.length : Int) :: s) (s.length + 1)
      have := hsok.len
      rw [List.length_append]
      simp only [List.length_cons, List.length_nil]
      omega
    have HG : Hid (getR (xs ++ bh) = (0, s, (lg : Int), (xs.length : Int))) := by
      show _ = _
      rw [← hxs.out]
      exact get_put hm bh
    have HB : Hid (By (xs ++ bh)) := by
      refine By.app ?_ HY.out
      rw [← hxs.out]
      refine By.app (fun i => ?_) (pk_by (fun i => cs_bd hsok i) _)
      have := hsok.lo
      have := hsok.hi
      cases i with
      | zero => simp; omega
      | succ i => simp
    rw [HE.out] at O4 ⊢
    obtain ⟨da, dc, rfl⟩ : ∃ a c, d = .slice a xs.length c := by obtain ⟨a, c, e, _⟩ := O4.out.rd; exact ⟨a, c, e⟩
    have H24 : Hid (Rd .u8 w4 v2 bh) := H2.out.below B4.out
    clear hm hsok
    go_wp2_with (at_builtin; refine wpList_many _ rfl (.tmp 45) (.tmp 46) 29 rfl 5 .u8 1 elem8 _ xs rfl O4.out _ bh rfl H24.out ?a1 ?a2 ?_)
    case a1 => omega
    case a2 => omega
    intro v5 w5 ho5 hg5
    have B5 : Hid (Below w.heap.size w w5) := (hg5.onto B4.out F2.out).1
    have O5 : Hid (Owns .u8 5 w5 v5 (xs ++ bh)) := ho5
    have HGS : Hid (Calls Try.prog 17 #[v5] w5 fun e w' => GPost (0, s, (lg : Int), (xs.length : Int)) w5 e w') := by
      have := getShare_rd _ _ w5 O5.out.rd HB.out
      rw [HG.out] at this
      exact this
    clear ho5 hg5 B4 O4 F2 H24
    go_wp2_with fail
    refine HGS.out.mono ?_
    clear HGS
    intro e w6 hD
    obtain ⟨sv, rfl, hb6, _, ho6⟩ := hD
    have B6 : Hid (Below w.heap.size w w6) := B5.out.trans (hb6.mono B5.out.size)
    have O6 : Hid (Owns .i64 3 w6 sv s) := ho6
    clear hb6 ho6 B5 O5
    go_wp2_with fail
    refine (numbers_rd _ _ s s w6 O6.out.rd (H1.out.below B6.out)).mono ?_
    rintro e w7 ⟨rfl, hb7⟩
    have hdec : decide (s = s) = true := by simp
    rw [hdec]
    have B7 : Hid (Below w.heap.size w w7) := B6.out.trans (hb7.mono B6.out.size)
    have g1 : ((lg : Int) == (lg : Int)) = true := by simp
    have g2 : ((xs.length : Int) == (xs.length : Int)) = true := by simp
    clear hdec hb7 B6 O6
    go_wp2_with fail
    refine (lives_any _).mono ?_
    rintro e w9 ⟨rfl, hb9⟩
    go_wp2_with fail
    go_ret
    exact ⟨rfl, B7.out.trans (hb9.mono B7.out.size)⟩
end Go.Proofs.Ytkiejjnnjjdfjaa
