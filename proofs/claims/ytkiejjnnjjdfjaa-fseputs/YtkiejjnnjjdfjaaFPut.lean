/-
  Shares are written: the program's and the document's answer.
-/
import Derived.Test.YtkiejjnnjjdfjaaFCat
import Derived.Test.YtkiejjnnjjdfjaaFRefMay
import Derived.Test.YtkiejjnnjjdfjaaPutNum
import Derived.Test.YtkiejjnnjjdfjaaRefPutNum
import Derived.Test.YtkiejjnnjjdfjaaFEnc
import Derived.Test.YtkiejjnnjjdfjaaFGet
namespace Go.Proofs.Ytkiejjnnjjdfjaa
open Go.RowKit Pl
set_option linter.unusedVariables false

/-- The first k numbers, as short numbers. -/
def pk (cs : List Int) : Nat → List Int
  | 0 => []
  | k + 1 => pk cs k ++ digits (cs.getD k 0)

theorem pk_len (cs : List Int) (k : Nat) : (pk cs k).length ≤ 5 * k := by
  induction k with
  | zero => simp [pk]
  | succ k ih => simp only [pk, List.length_append]; have := (digits_len (cs.getD k 0)).2; omega

/-- What PutShare answers. -/
def putR (s : List Int) (log : Int) : Int × List Int := if mayS s log = false then (4, []) else (0, [log] ++ pk ((s.length : Int) :: s) (s.length + 1))

theorem cs_bd {s : List Int} {lg : Nat} (h : Sok s lg) (i : Nat) : 0 ≤ ((s.length : Int) :: s).getD i 0 ∧ ((s.length : Int) :: s).getD i 0 ≤ 4294967295 := by
  cases i with
  | zero => have := h.len; simp; omega
  | succ i =>
    have := h.le i
    have hz := h.z
    simp only [List.getD_cons_succ]
    omega

theorem own1 (w : World) (a : Int) : Owns .u8 5 (w.alloc (.cells #[.int .u8 a] 5)) (.slice (some ⟨w.heap.size, 0, none⟩) 1 1) [a] :=
  World.ownsRow_lit w #[.int .u8 a] 1 (Nat.zero_le _) (by unfold maxLen; omega) rfl
theorem own1i (w : World) (a : Int) : Owns .i64 3 (w.alloc (.cells #[.int .i64 a] 3)) (.slice (some ⟨w.heap.size, 0, none⟩) 1 1) [a] :=
  World.ownsRow_lit w #[.int .i64 a] 1 (Nat.zero_le _) (by unfold maxLen; omega) rfl

set_option maxRecDepth 100000 in
set_option maxHeartbeats 2000000 in
theorem putShare_any (v : Value) (s : List Int) (log : Int) (w : World) (h : Rd .i64 w v s) :
    Calls Try.prog 14 #[v, .int .i64 log] w fun e w' => EPost (putR s log) w e w' := by
  have HR : Hid (Rd .i64 w v s) := h
  obtain ⟨va, vc, rfl, _, _, _, _⟩ := h
  have HMB : Hid (Calls Try.prog 27 #[.slice va s.length vc, .int .i64 log] w fun e w' => e = .returned (.bool (mayS s log)) ∧ w' = w) := maybe_rd _ s log w HR.out
  go_enter Try.func14, Try.ntmps14
  go_wp2_with fail
  refine HMB.out.mono ?_
  clear HMB
  rintro e w1 ⟨rfl, rfl⟩
  cases hm : mayS s log with
  | false =>
    have HE : Hid (putR s log = (4, [])) := by show _ = _; unfold putR; rw [if_pos hm]
    clear hm
    go_wp2_with fail
    go_ret2
    rw [HE.out]
    exact EPost.bad (Below.refl _ _)
  | true =>
    obtain ⟨lg, rfl, hsok⟩ := Sok.of hm
    have HS : Hid (Sok s lg) := hsok
    have h5 := hsok.lo
    have h9 := hsok.hi
    have hl := hsok.len
    obtain ⟨cs, hcs⟩ : ∃ cs, Hid ((s.length : Int) :: s = cs) := ⟨_, rfl⟩
    have hcl : cs.length = s.length + 1 := by rw [← hcs.out]; rfl
    obtain ⟨N, hN⟩ : ∃ N, Hid (s.length + 1 = N) := ⟨_, rfl⟩
    have HCL : Hid (cs.length = N) := by show _ = _; rw [hcl, hN.out]
    have hN1 : 1 ≤ N ∧ N ≤ 65 := by rw [← hN.out]; omega
    have HE : Hid (putR s lg = (0, [(lg : Int)] ++ pk cs N)) := by show _ = _; unfold putR; rw [if_neg (by rw [hm]; simp), hcs.out, hN.out]
    have HCB : Hid (∀ i, 0 ≤ cs.getD i 0 ∧ cs.getD i 0 ≤ 4294967295) := fun i => by rw [← hcs.out]; exact cs_bd HS.out i
    obtain ⟨wa, hwa⟩ : ∃ wa, Hid (w1.alloc (.cells #[.int .u8 (lg : Int)] 5) = wa) := ⟨_, rfl⟩
    obtain ⟨wb, hwb⟩ : ∃ wb, Hid (wa.alloc (.cells #[.int .i64 (s.length : Int)] 3) = wb) := ⟨_, rfl⟩
    obtain ⟨wc, hwc⟩ : ∃ wc, Hid (wb.alloc (.cells #[.slice (some ⟨w1.heap.size + 1, 0, none⟩) 1 1, .slice va s.length vc] 22) = wc) := ⟨_, rfl⟩
    have sa : wa.heap.size = w1.heap.size + 1 := by rw [← hwa.out]; simp
    have sb : wb.heap.size = wa.heap.size + 1 := by rw [← hwb.out]; simp
    have b1a : Below w1.heap.size w1 wa := by rw [← hwa.out]; exact (Below.refl _ _).alloc (Nat.le_refl _) _
    have bab : Below wa.heap.size wa wb := by rw [← hwb.out]; exact (Below.refl _ _).alloc (Nat.le_refl _) _
    have bbc : Below wb.heap.size wb wc := by rw [← hwc.out]; exact (Below.refl _ _).alloc (Nat.le_refl _) _
    have bac : Below wa.heap.size wa wc := bab.trans (bbc.mono bab.size)
    have B1C : Hid (Below w1.heap.size w1 wc) := b1a.trans (bac.mono b1a.size)
    have OA : Hid (Owns .u8 5 wc (.slice (some ⟨w1.heap.size, 0, none⟩) 1 1) [(lg : Int)]) := by
      have := own1 w1 (lg : Int)
      rw [hwa.out] at this
      exact this.below bac
    have OB : Hid (Owns .i64 3 wc (.slice (some ⟨w1.heap.size + 1, 0, none⟩) 1 1) [(s.length : Int)]) := by
      have := own1i wa (s.length : Int)
      rw [hwb.out, sa] at this
      exact this.below bbc
    have hw' : wc.heap[w1.heap.size + 1 + 1]? = some (.cells #[.slice (some ⟨w1.heap.size + 1, 0, none⟩) 1 1, .slice va s.length vc] 22 (0, 0)) := by rw [← hwc.out]; have := heap_alloc_new wb (.cells #[.slice (some ⟨w1.heap.size + 1, 0, none⟩) 1 1, .slice va s.length vc] 22); rw [sb, sa] at this; exact this
    have d0 : wc.cell? ⟨w1.heap.size + 1 + 1, 0, none⟩ = some (.slice (some ⟨w1.heap.size + 1, 0, none⟩) 1 1) := by rw [cell_of_row _ _ 0 _ _ (0, 0) hw']; rfl
    have d1 : wc.cell? ⟨w1.heap.size + 1 + 1, 1, none⟩ = some (.slice va s.length vc) := by rw [cell_of_row _ _ 1 _ _ (0, 0) hw']; rfl
    have HCC : Hid (Calls Try.prog 28 #[.slice (some ⟨w1.heap.size + 1 + 1, 0, none⟩) 2 2] wc fun e w' => ∃ v', e = .returned v' ∧ Owns .i64 3 w' v' cs ∧ Grew wc w' (.slice none 0 0) v') := by
      have := concat_any (w1.heap.size + 1 + 1) _ _ [(s.length : Int)] s wc OB.out.rd (HR.out.below B1C.out) (by simp) (by simp) (by omega) d0 d1
      rw [List.singleton_append, hcs.out] at this
      exact this
    clear hm hsok b1a bab bbc bac OB hw' d0 d1 hcl
    go_wp2_with fail
    rw [hwa.out, hwb.out, hwc.out]
    refine HCC.out.mono ?_
    clear HCC
    rintro e w4 ⟨cv, rfl, ho4, hg4⟩
    obtain ⟨cb, cc, rfl, _, _, _, q4, _⟩ := ho4.shape (by rw [HCL.out]; omega)
    have HQ : Hid (∀ i, i < N → w4.cell? ⟨cb, i, none⟩ = some (.int .i64 (cs.getD i 0))) := fun i hi => q4 i (by rw [HCL.out]; exact hi)
    have BC4 : Below wc.heap.size wc w4 := hg4.below.1
    have B14 : Hid (Below w1.heap.size w1 w4) := B1C.out.trans (BC4.mono B1C.out.size)
    have OA4 : Hid (Owns .u8 5 w4 (.slice (some ⟨w1.heap.size, 0, none⟩) 1 1) [(lg : Int)]) := OA.out.below BC4
    rw [HCL.out]
    clear ho4 hg4 q4 BC4 OA B1C sa sb
    go_wp2_with fail
    go_loopw [6, 25] (fun r i wr => ∃ k : Nat, k ≤ N ∧ i = .int .i64 k ∧ Hid (Owns .u8 5 wr r ([(lg : Int)] ++ pk cs k)) ∧ Hid (∀ j, r.ownBlock = some j → w1.heap.size ≤ j) ∧ Hid (Below w4.heap.size w4 wr)) (fun _ i _ => N - (intOf i).toNat)
    case atStart => exact ⟨0, Nat.zero_le _, rfl, by show Owns _ _ _ _ _; simp only [pk, List.append_nil]; exact OA4.out, fun j e => by simp only [Value.ownBlock, Option.some.injEq] at e; omega, Below.refl _ _⟩
    case round =>
      clear OA4
      obtain ⟨k, hk, rfl, HO, HF, HBL⟩ := hrel
      by_cases hlt : k < N
      · obtain ⟨x, hx⟩ : ∃ x, Hid (cs.getD k 0 = x) := ⟨_, rfl⟩
        have cx : wr.cell? ⟨cb, k, none⟩ = some (.int .i64 x) := by
          have h0 := HQ.out k hlt
          rw [HBL.out.cell (p := ⟨cb, k, none⟩) (World.block_lt_of_cell? w4 ⟨cb, k, none⟩ h0), h0, hx.out]
        have hxb := HCB.out k
        rw [hx.out] at hxb
        have hpl := pk_len cs k
        have HPN : Hid (Calls Try.prog 29 #[u6, .int .i64 x] wr fun e w' => ∃ v', e = .returned (.tuple #[v', .int .i64 0]) ∧ Owns .u8 5 w' v' ([(lg : Int)] ++ pk cs (k + 1)) ∧ Grew wr w' (.slice none 0 0) v') := by
          have := putNum_ok u6 ([(lg : Int)] ++ pk cs k) x wr HO.out.rd (by simp; omega) hxb.1 hxb.2
          simp only [pk]
          rw [hx.out, ← List.append_assoc]
          exact this
        clear hpl
        go_wp2_with fail
        refine HPN.out.mono ?_
        clear HPN
        rintro e w5 ⟨v5, rfl, ho5, hg5⟩
        have HO5 : Hid (Owns .u8 5 w5 v5 ([(lg : Int)] ++ pk cs (k + 1))) := ho5
        have B5 : Hid (Below w4.heap.size w4 w5) := HBL.out.trans (hg5.below.1.mono HBL.out.size)
        have F5 : Hid (∀ j, v5.ownBlock = some j → w1.heap.size ≤ j) := fun j e => by
          have h1 := hg5.below.2 j e
          have h2 := HBL.out.size
          have h3 := B14.out.size
          omega
        clear ho5 hg5 HO HF HBL cx
        go_wp2_with fail
        go_roundw
        case rel => exact ⟨k + 1, by omega, by go_num, HO5, F5, B5⟩
        case measure => simp [intOf]; omega
      · obtain rfl : k = N := by omega
        have BF : Hid (Below w1.heap.size w1 wr) := B14.out.trans (HBL.out.mono B14.out.size)
        go_wp2_with fail
        go_ret2
        rw [HE.out]
        exact ⟨_, rfl, BF.out, HF.out, HO.out⟩
end Go.Proofs.Ytkiejjnnjjdfjaa

/-
  The document's PutShare; and what was written is read again, whatever stands behind.
-/
namespace Go.Proofs.Ytkiejjnnjjdfjaa
open Go.RowKit Pl
set_option linter.unusedVariables false

set_option maxRecDepth 100000 in
set_option maxHeartbeats 2000000 in
theorem refPutShare_any (v : Value) (s : List Int) (log : Int) (w : World) (h : Rd .i64 w v s) :
    Calls Try.prog 15 #[v, .int .i64 log] w fun e w' => EPost (putR s log) w e w' := by
  have HR : Hid (Rd .i64 w v s) := h
  obtain ⟨va, vc, rfl, _, _, _, q1⟩ := h
  have C1 : Hid (s = [] ∨ ∃ b o, va = some ⟨b, o, none⟩ ∧ ∀ i, i < s.length → w.cell? ⟨b, o + i, none⟩ = some (.int .i64 (s.getD i 0))) := q1
  clear q1
  have HMB : Hid (Calls Try.prog 13 #[.slice va s.length vc, .int .i64 log] w fun e w' => e = .returned (.bool (mayS s log)) ∧ w' = w) := refMay_rd _ s log w HR.out
  go_enter Try.func15, Try.ntmps15
  go_wp2_with fail
  refine HMB.out.mono ?_
  clear HMB
  rintro e w1 ⟨rfl, rfl⟩
  cases hm : mayS s log with
  | false =>
    have HE : Hid (putR s log = (4, [])) := by show _ = _; unfold putR; rw [if_pos hm]
    clear hm
    go_wp2_with fail
    go_ret2
    rw [HE.out]
    exact EPost.bad (Below.refl _ _)
  | true =>
    obtain ⟨lg, rfl, hsok⟩ := Sok.of hm
    have HS : Hid (Sok s lg) := hsok
    have h5 := hsok.lo
    have h9 := hsok.hi
    have hl := hsok.len
    obtain ⟨cs, hcs⟩ : ∃ cs, Hid ((s.length : Int) :: s = cs) := ⟨_, rfl⟩
    have HE : Hid (putR s lg = (0, [(lg : Int)] ++ pk cs (s.length + 1))) := by show _ = _; unfold putR; rw [if_neg (by rw [hm]; simp), hcs.out]
    have HCB : Hid (∀ i, 0 ≤ cs.getD i 0 ∧ cs.getD i 0 ≤ 4294967295) := fun i => by rw [← hcs.out]; exact cs_bd HS.out i
    obtain ⟨b, o, ha, hc⟩ : ∃ b o, va = some ⟨b, o, none⟩ ∧ ∀ i, i < s.length → w1.cell? ⟨b, o + i, none⟩ = some (.int .i64 (s.getD i 0)) := by
      rcases C1.out with h | h
      · have := hsok.pos; rw [h] at this; simp at this
      · exact h
    subst ha
    have HC : Hid (∀ i, i < s.length → w1.cell? ⟨b, o + i, none⟩ = some (.int .i64 (cs.getD (i + 1) 0))) := fun i hi => by rw [hc i hi, ← hcs.out]; rfl
    obtain ⟨wa, hwa⟩ : ∃ wa, Hid (w1.alloc (.cells #[.int .u8 (lg : Int)] 5) = wa) := ⟨_, rfl⟩
    have B1A : Hid (Below w1.heap.size w1 wa) := by show Below _ _ _; rw [← hwa.out]; exact (Below.refl _ _).alloc (Nat.le_refl _) _
    have OA : Hid (Owns .u8 5 wa (.slice (some ⟨w1.heap.size, 0, none⟩) 1 1) [(lg : Int)]) := by
      have := own1 w1 (lg : Int)
      rw [hwa.out] at this
      exact this
    have HP0 : Hid (Calls Try.prog 30 #[.slice (some ⟨w1.heap.size, 0, none⟩) 1 1, .int .i64 (s.length : Int)] wa fun e w' => ∃ v', e = .returned (.tuple #[v', .int .i64 0]) ∧ Owns .u8 5 w' v' ([(lg : Int)] ++ pk cs 1) ∧ Grew wa w' (.slice none 0 0) v') := by
      have := refPutNum_ok _ [(lg : Int)] (s.length : Int) wa OA.out.rd (by simp) (by omega) (by omega)
      simp only [pk, List.nil_append]
      rw [← hcs.out]
      exact this
    clear hm hsok hc C1 OA
    go_wp2_with fail
    rw [hwa.out]
    refine HP0.out.mono ?_
    clear HP0
    rintro e w4 ⟨v4, rfl, ho4, hg4⟩
    have B14 : Hid (Below w1.heap.size w1 w4) := B1A.out.trans (hg4.below.1.mono B1A.out.size)
    have O4 : Hid (Owns .u8 5 w4 v4 ([(lg : Int)] ++ pk cs 1)) := ho4
    have F4 : Hid (∀ j, v4.ownBlock = some j → w1.heap.size ≤ j) := fun j e => by
      have h1 := hg4.below.2 j e
      have h2 := B1A.out.size
      omega
    clear ho4 hg4 B1A
    go_wp2_with fail
    go_loopw [7, 8] (fun r i wr => ∃ k : Nat, k ≤ s.length ∧ i = .int .i64 k ∧ Hid (Owns .u8 5 wr r ([(lg : Int)] ++ pk cs (k + 1))) ∧ Hid (∀ j, r.ownBlock = some j → w1.heap.size ≤ j) ∧ Hid (Below w1.heap.size w1 wr)) (fun _ i _ => s.length - (intOf i).toNat)
    case atStart => exact ⟨0, Nat.zero_le _, rfl, O4, F4, B14⟩
    case round =>
      clear O4 F4 B14
      obtain ⟨k, hk, rfl, HO, HF, HBL⟩ := hrel
      by_cases hlt : k < s.length
      · obtain ⟨x, hx⟩ : ∃ x, Hid (cs.getD (k + 1) 0 = x) := ⟨_, rfl⟩
        have cx : wr.cell? ⟨b, o + k, none⟩ = some (.int .i64 x) := by
          have h0 := HC.out k hlt
          rw [HBL.out.cell (p := ⟨b, o + k, none⟩) (World.block_lt_of_cell? w1 ⟨b, o + k, none⟩ h0), h0, hx.out]
        have hxb := HCB.out (k + 1)
        rw [hx.out] at hxb
        have hpl := pk_len cs (k + 1)
        have HPN : Hid (Calls Try.prog 30 #[u7, .int .i64 x] wr fun e w' => ∃ v', e = .returned (.tuple #[v', .int .i64 0]) ∧ Owns .u8 5 w' v' ([(lg : Int)] ++ pk cs (k + 1 + 1)) ∧ Grew wr w' (.slice none 0 0) v') := by
          have := refPutNum_ok u7 ([(lg : Int)] ++ pk cs (k + 1)) x wr HO.out.rd (by rw [List.length_append]; simp only [List.length_cons, List.length_nil]; omega) hxb.1 hxb.2
          rw [show pk cs (k + 1 + 1) = pk cs (k + 1) ++ digits (cs.getD (k + 1) 0) from rfl]
          rw [hx.out, ← List.append_assoc]
          exact this
        clear hpl
        go_wp2_with fail
        refine HPN.out.mono ?_
        clear HPN
        rintro e w5 ⟨v5, rfl, ho5, hg5⟩
        have HO5 : Hid (Owns .u8 5 w5 v5 ([(lg : Int)] ++ pk cs (k + 1 + 1))) := ho5
        have B5 : Hid (Below w1.heap.size w1 w5) := HBL.out.trans (hg5.below.1.mono HBL.out.size)
        have F5 : Hid (∀ j, v5.ownBlock = some j → w1.heap.size ≤ j) := fun j e => by
          have h1 := hg5.below.2 j e
          have h2 := HBL.out.size
          omega
        clear ho5 hg5 HO HF HBL cx
        go_wp2_with fail
        go_roundw
        case rel => exact ⟨k + 1, by omega, by go_num, HO5, F5, B5⟩
        case measure => simp [intOf]; omega
      · obtain rfl : k = s.length := by omega
        go_wp2_with fail
        go_ret2
        rw [HE.out]
        exact ⟨_, rfl, HBL.out, HF.out, HO.out⟩

theorem pk_drop (cs behind : List Int) : ∀ n k, k ≤ n → ∃ more, pk cs n ++ behind = pk cs k ++ more ∧ (k < n → ∃ m2, more = digits (cs.getD k 0) ++ m2)
  | 0, k, h => by obtain rfl : k = 0 := by omega
                  exact ⟨behind, rfl, fun h => by omega⟩
  | n + 1, k, h => by
    by_cases e : k = n + 1
    · subst e; exact ⟨behind, rfl, fun h => by omega⟩
    · by_cases e2 : k = n
      · subst e2
        exact ⟨digits (cs.getD k 0) ++ behind, by simp only [pk, List.append_assoc], fun _ => ⟨behind, rfl⟩⟩
      · obtain ⟨more, h1, h2⟩ := pk_drop cs (digits (cs.getD n 0) ++ behind) n k (by omega)
        exact ⟨more, by rw [← h1]; simp only [pk, List.append_assoc], fun _ => h2 (by omega)⟩

/-- What was written is read again, number by number. -/
theorem tkn_pk (cs behind : List Int) (n : Nat) (hb : ∀ i, 0 ≤ cs.getD i 0 ∧ cs.getD i 0 ≤ 4294967295) (hn : n ≤ cs.length) : ∀ k, k ≤ n → tkn (pk cs n ++ behind) k = some (cs.take k, (pk cs k).length)
  | 0, _ => by simp [tkn, pk]
  | k + 1, hk => by
    have ih := tkn_pk cs behind n hb hn k (by omega)
    obtain ⟨more, h1, h2⟩ := pk_drop cs behind n k (by omega)
    obtain ⟨m2, h3⟩ := h2 (by omega)
    have hd : (pk cs n ++ behind).drop (pk cs k).length = digits (cs.getD k 0) ++ m2 := by rw [h1, List.drop_left, h3]
    simp only [tkn, ih, hd]
    rw [num_digits _ _ (hb k).1 (hb k).2]
    simp only [pk, List.length_append]
    rw [List.take_succ_eq_append_getElem (by omega), List.getD_eq_getElem?_getD, List.getElem?_eq_getElem (by omega)]
    rfl

theorem pk_cons (x : Int) (s : List Int) : ∀ k, pk (x :: s) (k + 1) = digits x ++ pk s k
  | 0 => by simp [pk]
  | k + 1 => by
    rw [show pk (x :: s) (k + 1 + 1) = pk (x :: s) (k + 1) ++ digits ((x :: s).getD (k + 1) 0) from rfl, pk_cons x s k]
    simp only [pk, List.getD_cons_succ, List.append_assoc]

/-- What PutShare wrote is read again by GetShare, whatever stands behind. -/
theorem get_put {s : List Int} {lg : Nat} (hm : mayS s lg = true) (behind : List Int) :
    getR ([(lg : Int)] ++ pk ((s.length : Int) :: s) (s.length + 1) ++ behind) = (0, s, (lg : Int), (([(lg : Int)] ++ pk ((s.length : Int) :: s) (s.length + 1)).length : Int)) := by
  obtain ⟨lg', e, hs⟩ := Sok.of hm
  obtain rfl : lg = lg' := by omega
  have h5 := hs.lo
  have h9 := hs.hi
  have hl := hs.len
  have hb : ∀ i, 0 ≤ s.getD i 0 ∧ s.getD i 0 ≤ 4294967295 := fun i => cs_bd hs (i + 1)
  rw [pk_cons]
  have hd1 : ([(lg : Int)] ++ (digits (s.length : Int) ++ pk s s.length) ++ behind).drop 1 = digits (s.length : Int) ++ (pk s s.length ++ behind) := by simp
  have h0 : ([(lg : Int)] ++ (digits (s.length : Int) ++ pk s s.length) ++ behind).length ≠ 0 := by simp
  have hg0 : ([(lg : Int)] ++ (digits (s.length : Int) ++ pk s s.length) ++ behind).getD 0 0 = (lg : Int) := rfl
  have hn : numRes (([(lg : Int)] ++ (digits (s.length : Int) ++ pk s s.length) ++ behind).drop 1) = some ((s.length : Int), (digits (s.length : Int)).length) := by
    rw [hd1]; exact num_digits _ _ (by omega) (by omega)
  have hdd : ([(lg : Int)] ++ (digits (s.length : Int) ++ pk s s.length) ++ behind).drop (1 + (digits (s.length : Int)).length) = pk s s.length ++ behind := by
    rw [← List.drop_drop, hd1, List.drop_left]
  have ht : tkn (([(lg : Int)] ++ (digits (s.length : Int) ++ pk s s.length) ++ behind).drop (1 + (digits (s.length : Int)).length)) ((s.length : Int)).toNat = some (s, (pk s s.length).length) := by
    rw [hdd, Int.toNat_natCast, tkn_pk s behind s.length hb (Nat.le_refl _) s.length (Nat.le_refl _), List.take_length]
  rw [getR_last h0 hn (by rw [hg0]; omega) ht, hg0, if_pos hm]
  simp only [List.length_append, List.length_cons, List.length_nil]
  congr 4
  omega
end Go.Proofs.Ytkiejjnnjjdfjaa
