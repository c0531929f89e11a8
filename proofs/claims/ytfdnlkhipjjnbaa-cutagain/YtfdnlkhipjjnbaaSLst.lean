/-
  The program's last pieces: what fills no piece, closed by the number of all bits.
-/
import Derived.Test.YtfdnlkhipjjnbaaSTk
import Derived.Laws.CopyOwn
namespace Go.Proofs.Ytfdnlkhipjjnbaa
open Go.RowKit Pl
set_option linter.unusedVariables false

/-- The bytes of the last pieces, R of them, of bytes xs of sz in all. -/
def lp0 (xs : List Int) (i : Nat) : Nat := if i < xs.length then bN xs i else 0
def lp1 (xs : List Int) (i : Nat) : Nat := if i < xs.length then bN xs i else if i = xs.length then 128 else 0
def lpS (xs : List Int) (sz R i : Nat) : Nat := if R - 8 ≤ i then 8 * sz / 2 ^ (8 * (R - 1 - i)) % 256 else lp1 xs i
def lpj (xs : List Int) (sz R j i : Nat) : Nat := if R - j ≤ i then 8 * sz / 2 ^ (8 * (R - 1 - i)) % 256 else lp1 xs i

theorem lp1_step (xs : List Int) (i : Nat) : updN (lp0 xs) xs.length 128 i = lp1 xs i := by
  unfold updN lp0 lp1
  by_cases e : i = xs.length
  · rw [if_pos e, if_neg (by omega), if_pos e]
  · rw [if_neg e]
    by_cases c : i < xs.length
    · rw [if_pos c, if_pos c]
    · rw [if_neg c, if_neg c, if_neg e]
theorem lpj_step (xs : List Int) (sz R j i : Nat) (hj : j < 8) (hR : 8 ≤ R) (hi : i < R) : updN (lpj xs sz R j) (R - 1 - j) (8 * sz / 2 ^ (8 * j) % 256) i = lpj xs sz R (j + 1) i := by
  unfold updN lpj
  by_cases e : i = R - 1 - j
  · rw [if_pos e, if_pos (by omega), show R - 1 - i = j by omega]
  · rw [if_neg e]
    by_cases c : R - j ≤ i
    · rw [if_pos c, if_pos (by omega)]
    · rw [if_neg c, if_neg (by omega)]

/-- A new row of zeros. -/
theorem uv_of_made {w : World} {e : TypeId} {g n : Nat} (hn : 0 < n) (h : w.ownsRow 0 e 1 (.slice (some ⟨g, 0, none⟩) n n) n (List.replicate n (.int .u8 0))) : Uv .u8 w g e n (fun _ => 0) := by
  rcases h.2 with ⟨h0, _⟩ | ⟨g', cap, cur, hv, _, hg, hnc, hcm, hcs, htake⟩
  · cases h0
  · cases hv
    unfold Uv
    rw [hg]
    have e1 : cur.toList = ucs .u8 n (fun _ => 0) := by
      have : cur.toList.take (n * 1) = cur.toList := List.take_of_length_le (by rw [Array.length_toList, hcs]; omega)
      rw [← this, htake]
      apply List.ext_getElem?
      intro i
      by_cases hi : i < n
      · simp [ucs, hi]
      · simp [ucs, hi]
    rw [← e1]

theorem splice_lp (xs : List Int) (hb : By xs) (R : Nat) (h : xs.length ≤ R) : splice (ucs .u8 R (fun _ => 0)) 0 (xs.map (Value.int .u8)) = ucs .u8 R (lp0 xs) := by
  apply List.ext_getElem?
  intro i
  unfold splice
  rw [List.take_zero, List.nil_append, Nat.zero_add, List.length_map]
  by_cases c : i < xs.length
  · rw [List.getElem?_append_left (by simpa using c), ucs_get _ _ _ _ (by omega)]
    simp only [lp0, if_pos c]
    rw [← bN_eq hb]
    simp [c, List.getD_eq_getElem?_getD]
  · rw [List.getElem?_append_right (by simpa using c), List.length_map, List.getElem?_drop, show xs.length + (i - xs.length) = i by omega]
    by_cases d : i < R
    · rw [ucs_get _ _ _ _ d, ucs_get _ _ _ _ d]
      simp [lp0, c]
    · rw [List.getElem?_eq_none (by rw [ucs_length]; omega), List.getElem?_eq_none (by rw [ucs_length]; omega)]

/-- Numbers by a function can be read. -/
theorem Uv.rd {w : World} {g : Nat} {t : TypeId} {n : Nat} {c : Nat → Nat} (h : Uv .u8 w g t n c) (hn : n ≤ maxLen) : Rd .u8 w (.slice (some ⟨g, 0, none⟩) n n) ((List.range n).map fun i => (c i : Int)) := by
  refine ⟨some ⟨g, 0, none⟩, n, by simp, by simp, hn, (fun e => by cases e), .inr ⟨g, 0, rfl, fun i hi => ?_⟩⟩
  have hi' : i < n := by simpa using hi
  rw [Nat.zero_add, h.at_ i hi']
  simp [List.getD_eq_getElem?_getD, hi']
theorem range_by {c : Nat → Nat} (n : Nat) (h : ∀ i, c i < 256) : By ((List.range n).map fun i => (c i : Int)) := fun i => by
  have := h i
  by_cases hi : i < n
  · simp [List.getD_eq_getElem?_getD, hi]; omega
  · simp [List.getD_eq_getElem?_getD, hi]
theorem range_bN (c : Nat → Nat) (n i : Nat) (h : i < n) : bN ((List.range n).map fun i => (c i : Int)) i = c i := by
  unfold bN
  simp [List.getD_eq_getElem?_getD, h]
theorem lp_lt {xs : List Int} (hb : By xs) (sz R i : Nat) : lpS xs sz R i < 256 := by
  unfold lpS lp1
  split
  · exact Nat.mod_lt _ (by decide)
  · split
    · exact bN_lt hb i
    · split <;> decide

theorem info_u8 : (Try.prog.info? 5).map (fun i => (i.zero, i.size, i.bytes)) = some (some (.int .u8 0), 1, 1) := by kernel_rfl

/-- Bytes copied into a new row. -/
theorem wpList_copy8 (w : World) {ops : Array Oper} {rest : List Oper} {o : Oper} {a : Act} {Q : Exit → Act → World → Prop} (hgd : o.guard = none) (d s : Operand)
    (ho : o.op = .call { callee := .builtin .copy, args := #[d, s], argTypes := #[22, 22] }) (g R : Nat) (hd : a.eval d = .slice (some ⟨g, 0, none⟩) R R) (hu : Uv .u8 w g 5 R (fun _ => 0))
    (v : Value) (xs : List Int) (hs : a.eval s = v) (hr : Rd .u8 w v xs) (hb : By xs) (hl : xs.length ≤ R) (B : Nat) (w0 : World) (hB : Below B w0 w) (hBg : B ≤ g)
    (h : ∀ w', Hid (Uv .u8 w' g 5 R (lp0 xs)) → Hid (Below B w0 w') → wpList Try.prog ops Q rest (a.put o.dst (goInt xs.length)) w') : wpList Try.prog ops Q (o :: rest) a w := by
  obtain ⟨sp, cap, rfl, h1, h2, h3, h4⟩ := hr
  have hi1 : (Try.prog.info? 5).map (·.size) = some 1 := by kernel_rfl
  refine wpList_copy_splice hgd d s 22 22 ho 5 Try.underlying22 hi1 (some ⟨g, 0, none⟩) sp R R xs.length cap hd hs g 0 (ucs .u8 R (fun _ => 0)) 5 hu (xs.map (Value.int .u8)) ?_ ?_ ?_ (ints_oneCell .u8 xs) B w0 hB hBg ?_
  · rw [List.length_map]; exact (Nat.min_eq_left hl).symm
  · intro hp
    refine ⟨rfl, ?_⟩
    rcases h4 with rfl | ⟨b, o, rfl, hc⟩
    · simp at hp
    · refine ⟨_, rfl, fun j v hv => ?_⟩
      have hjl : j < xs.length := by simpa using (List.getElem?_eq_some_iff.1 hv).1
      rw [Addr.add_lit, hc j hjl]
      simp [List.getD_eq_getElem?_getD, hjl] at hv ⊢
      exact hv
  · rw [List.length_map, ucs_length]; omega
  · intro w' hh hb'
    have hh' := hh.out
    rw [splice_lp xs hb R hl] at hh'
    rw [List.length_map]
    exact h w' hh' hb'

/-- What is told. -/
def LPostS (xs : List Int) (sz R : Nat) (w : World) (e : Ending) (w' : World) : Prop :=
  ∃ v, e = .returned v ∧ Rd .u8 w' v ((List.range R).map fun i => (lpS xs sz R i : Int)) ∧ Below w.heap.size w w'


set_option maxRecDepth 100000 in
set_option maxHeartbeats 2000000 in
theorem last64 (v : Value) (xs : List Int) (sz : Nat) (w : World) (hr : Rd .u8 w v xs) (hb : By xs) (hl : xs.length < 64) (hsz : sz ≤ 65536) (hR : xs.length + 9 ≤ 64) :
    Calls Try.prog 22 #[v, .int .i64 (sz : Int)] w fun e w' => LPostS xs sz 64 w e w' := by
  obtain ⟨a, cap, hv, _⟩ := id hr
  subst hv
  have HR : Hid (Rd .u8 w (.slice a xs.length cap) xs) := hr
  have HB : Hid (By xs) := hb
  clear hr hb
  obtain ⟨j0, hj, hj2⟩ := Option.map_eq_some_iff.1 info_u8
  simp only [Prod.mk.injEq] at hj2
  obtain ⟨hy0, hy1, hy2⟩ := hj2
  have HI1 : Hid ((Try.prog.info? 5).map (·.size) = some 1) := by show _ = _; rw [hj]; simp [hy1]
  obtain ⟨r, hre⟩ : ∃ r, xs.length = r := ⟨_, rfl⟩
  rw [hre] at HR hl hR ⊢
  have hcond : ¬ ((64 : Int) < (r : Int) + 1 + 8) := by omega
  go_enter Try.func22, Try.ntmps22
  go_wp2_with (at_make; refine wpList_make_full _ rfl (.tmp 14) (.tmp 14) 22 rfl 0 5 j0 _ 1 Try.underlying22 hj hy0 hy1 .i64 .i64 _ _ 64 rfl rfl rfl rfl (by rw [hy2]; omega) (by unfold maxLen; omega) (Nat.zero_le _) ?_)
  intro w2 ho2 hg2
  have b2 : Below w.heap.size w w2 := (Below.refl _ _).grown hg2 (Nat.le_refl _) (fun k e => by cases e)
  obtain ⟨g, hg⟩ : ∃ g, Hid (w.heap.size = g) := ⟨_, rfl⟩
  have U2 : Hid (Uv .u8 w2 g 5 64 (fun _ => 0)) := by
    refine uv_of_made (by decide) ?_
    have h3 := ho2
    rw [toList_madeCells_one, hg.out] at h3
    exact h3
  have B2 : Hid (Below w.heap.size w w2) := b2
  have R2 : Hid (Rd .u8 w2 (.slice a r cap) xs) := HR.out.below b2
  rw [hg.out]
  clear ho2 hg2 b2 hj hy0 hy1 hy2 HR
  have HBG : Hid (w.heap.size ≤ g) := by show _ ≤ _; rw [hg.out]; exact Nat.le_refl _
  have HXL : Hid (xs.length ≤ 64) := by show _ ≤ _; omega
  go_wp2_with (with_reducible (show wpList _ _ _ (Oper.mk _ (Op.call _) _ _ _ _ :: _) _ _); refine wpList_copy8 w2 rfl (.tmp 16) (.tmp 17) rfl g 64 ?h3 U2.out (.slice a r cap) xs ?h5 R2.out HB.out HXL.out w.heap.size w B2.out HBG.out ?_; (case h3 => kernel_rfl); (case h5 => kernel_rfl))
  intro w3 U3 B3
  have c3 := U3.out.at_ r (by omega)
  have f3 := U3.out.fz r
  have U4 : Hid (Uv .u8 (w3.setCell ⟨g, r, none⟩ (.int .u8 128)) g 5 64 (lpj xs sz 64 0)) := by
    refine (U3.out.set r (by omega) 128).congr (fun i hi => ?_)
    rw [← hre, lp1_step]
    unfold lpj
    rw [if_neg (by omega)]
  have B4 : Hid (Below w.heap.size w (w3.setCell ⟨g, r, none⟩ (.int .u8 128))) := B3.out.trans (Below.setCell (Below.refl _ _) (by show w.heap.size ≤ g; rw [hg.out]; exact Nat.le_refl _) _)
  have hr1 : (r : Int) < 64 := by omega
  generalize lp0 xs r = z3 at c3
  clear U2 B2 R2 U3 B3
  go_wp2_with fail
  generalize w3.setCell ⟨g, r, none⟩ (.int .u8 128) = w4 at *
  clear c3 f3
  go_loopw [26] (fun i wr => ∃ j : Nat, j ≤ 8 ∧ i = .int .i64 j ∧ Hid (Uv .u8 wr g 5 64 (lpj xs sz 64 j)) ∧ Hid (Below w.heap.size w wr)) (fun i _ => 8 - (intOf i).toNat)
  case atStart => exact ⟨0, Nat.zero_le _, rfl, U4, B4⟩
  case round =>
    clear U4 B4
    obtain ⟨j, hj, rfl, U5, B5⟩ := hrel
    by_cases hlt : j < 8
    · obtain ⟨p, hp⟩ : ∃ p, 64 - 1 - j = p := ⟨_, rfl⟩
      have c5 := U5.out.at_ p (by omega)
      have f5 := U5.out.fz p
      obtain ⟨y, hy⟩ : ∃ y, 8 * sz / 2 ^ (8 * j) % 256 = y := ⟨_, rfl⟩
      have U6 : Hid (Uv .u8 (wr.setCell ⟨g, p, none⟩ (.int .u8 (y : Int))) g 5 64 (lpj xs sz 64 (j + 1))) := by
        refine (U5.out.set p (by omega) y).congr (fun i hi => ?_)
        rw [← hp, ← hy]
        exact lpj_step xs sz 64 j i hlt (by omega) hi
      have B6 : Hid (Below w.heap.size w (wr.setCell ⟨g, p, none⟩ (.int .u8 (y : Int)))) := B5.out.setCell (by show w.heap.size ≤ g; rw [hg.out]; exact Nat.le_refl _) _
      generalize lpj xs sz 64 j p = z5 at c5
      obtain ⟨m, hm⟩ : ∃ m, 8 * j = m := ⟨_, rfl⟩
      rw [hm] at hy
      obtain ⟨N, hN⟩ : ∃ N, 8 * sz = N := ⟨_, rfl⟩
      rw [hN] at hy
      have hN1 : (sz : Int) * 8 = (N : Int) := by omega
      have hN2 : N ≤ 524288 := by omega
      have hm1 : 8 * (j : Int) = (m : Int) := by omega
      have hm2 : (m : Int) ≤ 56 := by omega
      have hp1 : (64 : Int) - 1 - (j : Int) = (p : Int) := by omega
      have hp2 : (63 : Int) - (j : Int) = (p : Int) := by omega
      have hp3 : (p : Int) < 64 := by omega
      have hy1 : (N : Int) / 2 ^ m % 256 = (y : Int) := by
        rw [← hy, Int.natCast_emod, Int.natCast_ediv, Int.natCast_pow]
        rfl
      clear U5 B5 hp hy hm hN
      go_wp2_with fail
      go_roundw
      case rel => exact ⟨j + 1, by omega, by go_num, U6, B6⟩
      case measure => simp [intOf]; omega
    · have hj8 : j = 8 := by omega
      rw [hj8] at U5
      have hnn : ¬ (j : Int) < 8 := by omega
      have U7 : Hid (Uv .u8 wr g 5 64 (lpS xs sz 64)) := U5
      clear hlt
      go_wp2_with fail
      go_ret
      exact ⟨_, rfl, U7.out.rd (by unfold maxLen; omega), B5.out⟩

set_option maxRecDepth 100000 in
set_option maxHeartbeats 2000000 in
theorem last128 (v : Value) (xs : List Int) (sz : Nat) (w : World) (hr : Rd .u8 w v xs) (hb : By xs) (hl : xs.length < 64) (hsz : sz ≤ 65536) (hR : 64 < xs.length + 9) :
    Calls Try.prog 22 #[v, .int .i64 (sz : Int)] w fun e w' => LPostS xs sz 128 w e w' := by
  obtain ⟨a, cap, hv, _⟩ := id hr
  subst hv
  have HR : Hid (Rd .u8 w (.slice a xs.length cap) xs) := hr
  have HB : Hid (By xs) := hb
  clear hr hb
  obtain ⟨j0, hj, hj2⟩ := Option.map_eq_some_iff.1 info_u8
  simp only [Prod.mk.injEq] at hj2
  obtain ⟨hy0, hy1, hy2⟩ := hj2
  have HI1 : Hid ((Try.prog.info? 5).map (·.size) = some 1) := by show _ = _; rw [hj]; simp [hy1]
  obtain ⟨r, hre⟩ : ∃ r, xs.length = r := ⟨_, rfl⟩
  rw [hre] at HR hl hR ⊢
  have hcond : (64 : Int) < (r : Int) + 1 + 8 := by omega
  go_enter Try.func22, Try.ntmps22
  go_wp2_with (at_make; refine wpList_make_full _ rfl (.tmp 14) (.tmp 14) 22 rfl 0 5 j0 _ 1 Try.underlying22 hj hy0 hy1 .i64 .i64 _ _ 128 rfl rfl rfl rfl (by rw [hy2]; omega) (by unfold maxLen; omega) (Nat.zero_le _) ?_)
  intro w2 ho2 hg2
  have b2 : Below w.heap.size w w2 := (Below.refl _ _).grown hg2 (Nat.le_refl _) (fun k e => by cases e)
  obtain ⟨g, hg⟩ : ∃ g, Hid (w.heap.size = g) := ⟨_, rfl⟩
  have U2 : Hid (Uv .u8 w2 g 5 128 (fun _ => 0)) := by
    refine uv_of_made (by decide) ?_
    have h3 := ho2
    rw [toList_madeCells_one, hg.out] at h3
    exact h3
  have B2 : Hid (Below w.heap.size w w2) := b2
  have R2 : Hid (Rd .u8 w2 (.slice a r cap) xs) := HR.out.below b2
  rw [hg.out]
  clear ho2 hg2 b2 hj hy0 hy1 hy2 HR
  have HBG : Hid (w.heap.size ≤ g) := by show _ ≤ _; rw [hg.out]; exact Nat.le_refl _
  have HXL : Hid (xs.length ≤ 128) := by show _ ≤ _; omega
  go_wp2_with (with_reducible (show wpList _ _ _ (Oper.mk _ (Op.call _) _ _ _ _ :: _) _ _); refine wpList_copy8 w2 rfl (.tmp 16) (.tmp 17) rfl g 128 ?h3 U2.out (.slice a r cap) xs ?h5 R2.out HB.out HXL.out w.heap.size w B2.out HBG.out ?_; (case h3 => kernel_rfl); (case h5 => kernel_rfl))
  intro w3 U3 B3
  have c3 := U3.out.at_ r (by omega)
  have f3 := U3.out.fz r
  have U4 : Hid (Uv .u8 (w3.setCell ⟨g, r, none⟩ (.int .u8 128)) g 5 128 (lpj xs sz 128 0)) := by
    refine (U3.out.set r (by omega) 128).congr (fun i hi => ?_)
    rw [← hre, lp1_step]
    unfold lpj
    rw [if_neg (by omega)]
  have B4 : Hid (Below w.heap.size w (w3.setCell ⟨g, r, none⟩ (.int .u8 128))) := B3.out.trans (Below.setCell (Below.refl _ _) (by show w.heap.size ≤ g; rw [hg.out]; exact Nat.le_refl _) _)
  have hr1 : (r : Int) < 128 := by omega
  generalize lp0 xs r = z3 at c3
  clear U2 B2 R2 U3 B3
  go_wp2_with fail
  generalize w3.setCell ⟨g, r, none⟩ (.int .u8 128) = w4 at *
  clear c3 f3
  go_loopw [26] (fun i wr => ∃ j : Nat, j ≤ 8 ∧ i = .int .i64 j ∧ Hid (Uv .u8 wr g 5 128 (lpj xs sz 128 j)) ∧ Hid (Below w.heap.size w wr)) (fun i _ => 8 - (intOf i).toNat)
  case atStart => exact ⟨0, Nat.zero_le _, rfl, U4, B4⟩
  case round =>
    clear U4 B4
    obtain ⟨j, hj, rfl, U5, B5⟩ := hrel
    by_cases hlt : j < 8
    · obtain ⟨p, hp⟩ : ∃ p, 128 - 1 - j = p := ⟨_, rfl⟩
      have c5 := U5.out.at_ p (by omega)
      have f5 := U5.out.fz p
      obtain ⟨y, hy⟩ : ∃ y, 8 * sz / 2 ^ (8 * j) % 256 = y := ⟨_, rfl⟩
      have U6 : Hid (Uv .u8 (wr.setCell ⟨g, p, none⟩ (.int .u8 (y : Int))) g 5 128 (lpj xs sz 128 (j + 1))) := by
        refine (U5.out.set p (by omega) y).congr (fun i hi => ?_)
        rw [← hp, ← hy]
        exact lpj_step xs sz 128 j i hlt (by omega) hi
      have B6 : Hid (Below w.heap.size w (wr.setCell ⟨g, p, none⟩ (.int .u8 (y : Int)))) := B5.out.setCell (by show w.heap.size ≤ g; rw [hg.out]; exact Nat.le_refl _) _
      generalize lpj xs sz 128 j p = z5 at c5
      obtain ⟨m, hm⟩ : ∃ m, 8 * j = m := ⟨_, rfl⟩
      rw [hm] at hy
      obtain ⟨N, hN⟩ : ∃ N, 8 * sz = N := ⟨_, rfl⟩
      rw [hN] at hy
      have hN1 : (sz : Int) * 8 = (N : Int) := by omega
      have hN2 : N ≤ 524288 := by omega
      have hm1 : 8 * (j : Int) = (m : Int) := by omega
      have hm2 : (m : Int) ≤ 56 := by omega
      have hp1 : (128 : Int) - 1 - (j : Int) = (p : Int) := by omega
      have hp2 : (127 : Int) - (j : Int) = (p : Int) := by omega
      have hp3 : (p : Int) < 128 := by omega
      have hy1 : (N : Int) / 2 ^ m % 256 = (y : Int) := by
        rw [← hy, Int.natCast_emod, Int.natCast_ediv, Int.natCast_pow]
        rfl
      clear U5 B5 hp hy hm hN
      go_wp2_with fail
      go_roundw
      case rel => exact ⟨j + 1, by omega, by go_num, U6, B6⟩
      case measure => simp [intOf]; omega
    · have hj8 : j = 8 := by omega
      rw [hj8] at U5
      have hnn : ¬ (j : Int) < 8 := by omega
      have U7 : Hid (Uv .u8 wr g 5 128 (lpS xs sz 128)) := U5
      clear hlt
      go_wp2_with fail
      go_ret
      exact ⟨_, rfl, U7.out.rd (by unfold maxLen; omega), B5.out⟩
end Go.Proofs.Ytfdnlkhipjjnbaa
