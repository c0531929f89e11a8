/-
  The law's own words: one of n, and what a deed writes.
-/
import Derived.Test.YtmohbkhdloggeaaDDk
namespace Go.Proofs.Ytmohbkhdloggeaa
open Go.RowKit Go.Maps
set_option linter.unusedVariables false
set_option linter.unusedSimpArgs false
set_option maxRecDepth 100000

/-- One of n. -/
def pk (c : Int) (n : Nat) : Nat := (if c < 0 then (-(c + 1)).toNat else c.toNat) % n
theorem pk_lt (c : Int) {n : Nat} (h : 0 < n) : pk c n < n := Nat.mod_lt _ h

theorem pick_any (c : Int) (n : Nat) (h0 : 0 < n) (hn : n < 1000000) (hc : (Lit.int .i64 c).wf = true) (w : World) :
    Calls Try.prog 18 #[.int .i64 c, .int .i64 (n : Int)] w fun e w' => e = .returned (.int .i64 (pk c n : Int)) ∧ w' = w := by
  have hw : -9223372036854775808 ≤ c ∧ c ≤ 9223372036854775807 := by simpa [Lit.wf, IntKind.min, IntKind.max, IntKind.signed, IntKind.bits] using hc
  have hb0 : ((n : Int) == 0) = false := by rw [beq_eq_false_iff_ne]; omega
  have hbm : ((n : Int) == -1) = false := by rw [beq_eq_false_iff_ne]; omega
  have hn0 : (0 : Int) < (n : Int) := by omega
  obtain ⟨h1, h2⟩ := hw
  clear hc
  by_cases h : c < 0
  · obtain ⟨x, hx⟩ : ∃ x : Nat, -(c + 1) = (x : Int) := ⟨(-(c + 1)).toNat, by omega⟩
    have HP : Hid (pk c n = x % n) := by show _ = _; unfold pk; rw [if_pos h, hx]; rfl
    have hc1 : c + 1 = -(x : Int) := by omega
    have HX : Hid ((x : Int).tmod (n : Int) = ((x % n : Nat) : Int)) := rfl
    have hm : ((x % n : Nat) : Int) < (n : Int) := by have := Nat.mod_lt x h0; omega
    have hx63 : (x : Int) ≤ 9223372036854775807 := by omega
    rw [HP.out]
    go_enter Try.func18, Try.ntmps18
    go_wp2_with fail
    go_ret
    exact ⟨by first | rfl | simp, rfl⟩
  · obtain ⟨x, hx⟩ : ∃ x : Nat, c = (x : Int) := ⟨c.toNat, by omega⟩
    subst hx
    have HP : Hid (pk (x : Int) n = x % n) := by show _ = _; unfold pk; rw [if_neg h]; rfl
    rw [HP.out]
    go_enter Try.func18, Try.ntmps18
    go_wp2_with fail
    go_ret
    exact ⟨by first | rfl | simp, rfl⟩

/-- A deed. -/
structure Dd where
  kind : Int
  at_ : Int
  fill : Int
  last : Int
  short : Bool
  pv : Value
  ps : List Int

structure DdOk (x : Dd) : Prop where
  k : (Lit.int .i64 x.kind).wf = true
  a : (Lit.int .i64 x.at_).wf = true
  f : 0 ≤ x.fill ∧ x.fill ≤ 255
  l : 0 ≤ x.last ∧ x.last ≤ 255

/-- The deed as a value. -/
def ddv (x : Dd) : Value := .agg #[.int .i64 x.kind, .int .i64 x.at_, .int .u8 x.fill, .int .u8 x.last, .bool x.short, x.pv]

/-- How many bytes it writes, and which. -/
def dlen (x : Dd) : Nat := if x.short then pk x.at_ 300 else 256
def dby (x : Dd) : List Int := (List.replicate (dlen x) x.fill).set (dlen x - 1) x.last
theorem dlen_le (x : Dd) : dlen x ≤ 300 := by
  unfold dlen
  split
  · have := pk_lt x.at_ (n := 300) (by decide); omega
  · decide
theorem dby_len (x : Dd) : (dby x).length = dlen x := by unfold dby; rw [List.length_set, List.length_replicate]
theorem dby_by {x : Dd} (h : DdOk x) : By (dby x) := fun i => by
  unfold dby
  rw [List.getD_eq_getElem?_getD, List.getElem?_set]
  split
  · split
    · exact h.l
    · simp
  · rw [List.getElem?_replicate]
    split
    · exact h.f
    · simp

/-- The first k are filled. -/
def flk (n : Nat) (f : Int) (k : Nat) : List Int := List.replicate k f ++ List.replicate (n - k) 0
theorem flk_len {n k : Nat} (f : Int) (h : k ≤ n) : (flk n f k).length = n := by simp [flk]; omega
theorem flk_set {n k : Nat} (f : Int) (h : k < n) : (flk n f k).set k f = flk n f (k + 1) := by
  unfold flk
  rw [List.set_append_right _ _ (by simp), List.length_replicate, Nat.sub_self]
  obtain ⟨m, hm⟩ : ∃ m, n - k = m + 1 := ⟨n - k - 1, by omega⟩
  rw [hm, show n - (k + 1) = m by omega, List.replicate_succ, List.set_cons_zero, List.replicate_succ']
  simp
theorem flk_full (n : Nat) (f : Int) : flk n f n = List.replicate n f := by simp [flk]
theorem flk_zero (n : Nat) (f : Int) : flk n f 0 = List.replicate n 0 := by simp [flk]

set_option maxHeartbeats 1000000 in
theorem deed_bytes (x : Dd) (hx : DdOk x) (w : World) :
    Calls Try.prog 19 #[ddv x] w fun e w' => ∃ v, e = .returned v ∧ Owns .u8 5 w' v (dby x) ∧ Below w.heap.size w w' ∧ ∀ k, v.ownBlock = some k → w.heap.size ≤ k := by
  obtain ⟨j0, hj, hy0, hy1, hy2⟩ := elem8.info
  have HDL : Hid (dlen x = if x.short then pk x.at_ 300 else 256) := rfl
  have HDB : Hid (dby x = (List.replicate (dlen x) x.fill).set (dlen x - 1) x.last) := rfl
  have hle := dlen_le x
  have HPK := fun w => pick_any x.at_ 300 (by decide) (by decide) hx.a w
  have HF : Hid (0 ≤ x.fill ∧ x.fill ≤ 255) := hx.f
  obtain ⟨n, hn⟩ : ∃ n, dlen x = n := ⟨_, rfl⟩
  rw [hn] at HDL HDB hle
  clear hx hn
  generalize dby x = ys at HDB ⊢
  obtain ⟨kind, at_, fill, last, short, pv, ps⟩ := x
  unfold ddv
  dsimp only at *
  have HPK := hideP HPK
  obtain ⟨B0, hB0⟩ : ∃ B0, w.alloc (.cells #[.int .i64 kind, .int .i64 at_, .int .u8 fill, .int .u8 last, .bool short, pv] 34) = B0 := ⟨_, rfl⟩
  have hq := heap_alloc_new w (.cells #[.int .i64 kind, .int .i64 at_, .int .u8 fill, .int .u8 last, .bool short, pv] 34)
  rw [hB0] at hq
  have cB1 : B0.cell? ⟨w.heap.size, 1, none⟩ = some (.int .i64 at_) := by rw [cell_of_row B0 _ 1 _ _ (0, 0) hq]; rfl
  have cB2 : B0.cell? ⟨w.heap.size, 2, none⟩ = some (.int .u8 fill) := by rw [cell_of_row B0 _ 2 _ _ (0, 0) hq]; rfl
  have cB3 : B0.cell? ⟨w.heap.size, 3, none⟩ = some (.int .u8 last) := by rw [cell_of_row B0 _ 3 _ _ (0, 0) hq]; rfl
  have cB4 : B0.cell? ⟨w.heap.size, 4, none⟩ = some (.bool short) := by rw [cell_of_row B0 _ 4 _ _ (0, 0) hq]; rfl
  have HBB : Hid (Below w.heap.size w B0) := by rw [← hB0]; exact (Below.refl _ _).alloc (Nat.le_refl _) _
  have HQL : Hid (w.heap.size < B0.heap.size) := (Array.getElem?_eq_some_iff.1 hq).1
  clear hq
  cases short with
  | false =>
    obtain rfl : n = 256 := HDL.out
    obtain ⟨n, hn⟩ : ∃ n : Nat, n = 256 := ⟨_, rfl⟩
    have hcast : (256 : Int) = (n : Int) := by omega
    rw [← hn] at HDB hle
    clear HDL
    go_enter Try.func19, Try.ntmps19
    rw [hcast]
    clear hn
    go_wp2_with (at_make; refine wpList_make_full _ rfl (.tmp 11) (.tmp 11) 41 rfl 0 5 j0 _ 1 Try.underlying41 hj hy0 hy1 .i64 .i64 _ _ n rfl rfl rfl rfl (by rw [hy2]; omega) (by unfold maxLen; omega) (Nat.zero_le _) ?_)
    intro w2 ho2 hg2
    have b2 : Below B0.heap.size B0 w2 := (Below.refl _ _).grown hg2 (Nat.le_refl _) (fun k e => by cases e)
    obtain ⟨g, hg⟩ : ∃ g, B0.heap.size = g := ⟨_, rfl⟩
    have O2 : Hid (Owns .u8 5 w2 (.slice (some ⟨g, 0, none⟩) n n) (flk n fill 0)) := by
      show w2.ownsRow _ _ _ _ _ _
      rw [toList_madeCells_one, hg] at ho2
      rw [flk_zero]
      simp only [List.length_replicate, List.map_replicate]
      exact ho2
    have T2 : Hid (Tch (fun k => k = g) B0 w2) := (Tch.of_below b2)
    have HG : Hid (B0.heap.size = g) := hg
    rw [hg]
    clear ho2 hg2 b2 hcast hj hy0 hy1 hy2
    go_wp2_with fail
    go_loopw [5] (fun iv wr => ∃ k : Nat, k ≤ n ∧ iv = .int .i64 k ∧ Hid (Owns .u8 5 wr (.slice (some ⟨g, 0, none⟩) n n) (flk n fill k)) ∧ Hid (Tch (fun k => k = g) B0 wr)) (fun iv _ => n - (intOf iv).toNat)
    case atStart => exact ⟨0, Nat.zero_le _, rfl, O2, T2⟩
    case round =>
      obtain ⟨k, hk, rfl, O1, T1⟩ := hrel
      have cr2 : wr.cell? ⟨w.heap.size, 2, none⟩ = some (.int .u8 fill) := by rw [T1.out.cell (p := ⟨w.heap.size, 2, none⟩) HQL.out (fun e => by have := HG.out; have := HQL.out; simp only at e; omega)]; exact cB2
      have cr3 : wr.cell? ⟨w.heap.size, 3, none⟩ = some (.int .u8 last) := by rw [T1.out.cell (p := ⟨w.heap.size, 3, none⟩) HQL.out (fun e => by have := HG.out; have := HQL.out; simp only at e; omega)]; exact cB3
      by_cases hlt : k < n
      · have hki : (k : Int) < (n : Int) := by omega
        obtain ⟨g', cap', e, hglt, _, _, hcell, hfz⟩ := O1.out.shape (by rw [flk_len _ (by omega)]; omega)
        simp only [Value.slice.injEq, Option.some.injEq, Addr.mk.injEq, and_true] at e
        obtain ⟨rfl, he1, he2⟩ := e
        clear he1 he2
        have ck : wr.cell? ⟨g, k, none⟩ = some (.int .u8 ((flk n fill k).getD k 0)) := hcell k (by rw [flk_len _ (by omega)]; exact hlt)
        have fk : wr.frozen? ⟨g, k, none⟩ = false := hfz k
        obtain ⟨z, hz⟩ : ∃ z, (flk n fill k).getD k 0 = z := ⟨_, rfl⟩
        rw [hz] at ck
        clear hz
        have O3 : Hid (Owns .u8 5 (wr.setCell ⟨g, k, none⟩ (.int .u8 fill)) (.slice (some ⟨g, 0, none⟩) n n) (flk n fill (k + 1))) := by
          have := O1.out.set k fill
          rw [flk_set fill hlt] at this
          exact this
        have T3 : Hid (Tch (fun k => k = g) B0 (wr.setCell ⟨g, k, none⟩ (.int .u8 fill))) := T1.out.setCell (p := ⟨g, k, none⟩) (fun _ => rfl) _
        clear hcell hfz hglt
        go_wp2_with fail
        go_roundw
        case rel => exact ⟨k + 1, by omega, by go_num, O3, T3⟩
        case measure => simp [intOf]; omega
      · have hki : ¬ (k : Int) < (n : Int) := by omega
        have hkn : k = n := by omega
        have O4 : Hid (Owns .u8 5 wr (.slice (some ⟨g, 0, none⟩) n n) (List.replicate n fill)) := by
          have := O1.out
          rw [hkn, flk_full] at this
          exact this
        clear hkn
        by_cases hn0 : 0 < n
        · have hnI : (n : Int) > 0 := by omega
          obtain ⟨j, hj⟩ : ∃ j, n = j + 1 := ⟨n - 1, by omega⟩
          have hnj : (n : Int) - 1 = (j : Int) := by omega
          have hjn : (j : Int) < (n : Int) := by omega
          have hj0 : (0 : Int) ≤ (j : Int) := by omega
          obtain ⟨g', cap', e, hglt, _, _, hcell, hfz⟩ := O4.out.shape (by rw [List.length_replicate]; exact hn0)
          simp only [Value.slice.injEq, Option.some.injEq, Addr.mk.injEq, and_true] at e
          obtain ⟨rfl, he1, he2⟩ := e
          clear he1 he2
          have ck : wr.cell? ⟨g, j, none⟩ = some (.int .u8 ((List.replicate n fill).getD j 0)) := hcell j (by rw [List.length_replicate]; omega)
          have fk : wr.frozen? ⟨g, j, none⟩ = false := hfz j
          obtain ⟨z, hz⟩ : ∃ z, (List.replicate n fill).getD j 0 = z := ⟨_, rfl⟩
          rw [hz] at ck
          clear hz
          have O5 : Hid (Owns .u8 5 (wr.setCell ⟨g, j, none⟩ (.int .u8 last)) (.slice (some ⟨g, 0, none⟩) n n) ((List.replicate n fill).set (n - 1) last)) := by
            rw [show n - 1 = j by omega]
            exact O4.out.set j last
          have T3 : Hid (Tch (fun k => k = g) B0 (wr.setCell ⟨g, j, none⟩ (.int .u8 last))) := T1.out.setCell (p := ⟨g, j, none⟩) (fun _ => rfl) _
          clear hcell hfz hglt hj
          go_wp2_with fail
          go_ret
          refine ⟨_, rfl, ?_, ?_, fun k hk => ?_⟩
          · rw [HDB.out]; exact O5.out
          · exact HBB.out.trans (T3.out.below HBB.out.size (fun k e => by rw [e, ← HG.out]; exact HBB.out.size))
          · cases hk; rw [← HG.out]; exact HBB.out.size
        · have hnI : ¬ (n : Int) > 0 := by omega
          have HNZ : Hid (n = 0) := by show _ = _; omega
          clear hn0
          go_wp2_with fail
          go_ret
          refine ⟨_, rfl, ?_, ?_, fun k hk => ?_⟩
          · rw [HDB.out, show (List.replicate n fill).set (n - 1) last = List.replicate n fill by rw [HNZ.out]; rfl]; exact O4.out
          · exact HBB.out.trans (T1.out.below HBB.out.size (fun k e => by rw [e, ← HG.out]; exact HBB.out.size))
          · cases hk; rw [← HG.out]; exact HBB.out.size
  | true =>
    have HN : Hid (n = pk at_ 300) := HDL.out
    clear HDL
    go_enter Try.func19, Try.ntmps19
    go_wp2_with fail
    refine (HPK.out _).mono ?_
    rintro e B0 ⟨rfl, rfl⟩
    rw [← HN.out]
    clear HPK HN
    go_wp2_with (at_make; refine wpList_make_full _ rfl (.tmp 11) (.tmp 11) 41 rfl 0 5 j0 _ 1 Try.underlying41 hj hy0 hy1 .i64 .i64 _ _ n rfl rfl rfl rfl (by rw [hy2]; omega) (by unfold maxLen; omega) (Nat.zero_le _) ?_)
    intro w2 ho2 hg2
    have b2 : Below B0.heap.size B0 w2 := (Below.refl _ _).grown hg2 (Nat.le_refl _) (fun k e => by cases e)
    obtain ⟨g, hg⟩ : ∃ g, B0.heap.size = g := ⟨_, rfl⟩
    have O2 : Hid (Owns .u8 5 w2 (.slice (some ⟨g, 0, none⟩) n n) (flk n fill 0)) := by
      show w2.ownsRow _ _ _ _ _ _
      rw [toList_madeCells_one, hg] at ho2
      rw [flk_zero]
      simp only [List.length_replicate, List.map_replicate]
      exact ho2
    have T2 : Hid (Tch (fun k => k = g) B0 w2) := (Tch.of_below b2)
    have HG : Hid (B0.heap.size = g) := hg
    rw [hg]
    clear ho2 hg2 b2 hj hy0 hy1 hy2
    go_wp2_with fail
    go_loopw [5] (fun iv wr => ∃ k : Nat, k ≤ n ∧ iv = .int .i64 k ∧ Hid (Owns .u8 5 wr (.slice (some ⟨g, 0, none⟩) n n) (flk n fill k)) ∧ Hid (Tch (fun k => k = g) B0 wr)) (fun iv _ => n - (intOf iv).toNat)
    case atStart => exact ⟨0, Nat.zero_le _, rfl, O2, T2⟩
    case round =>
      obtain ⟨k, hk, rfl, O1, T1⟩ := hrel
      have cr2 : wr.cell? ⟨w.heap.size, 2, none⟩ = some (.int .u8 fill) := by rw [T1.out.cell (p := ⟨w.heap.size, 2, none⟩) HQL.out (fun e => by have := HG.out; have := HQL.out; simp only at e; omega)]; exact cB2
      have cr3 : wr.cell? ⟨w.heap.size, 3, none⟩ = some (.int .u8 last) := by rw [T1.out.cell (p := ⟨w.heap.size, 3, none⟩) HQL.out (fun e => by have := HG.out; have := HQL.out; simp only at e; omega)]; exact cB3
      by_cases hlt : k < n
      · have hki : (k : Int) < (n : Int) := by omega
        obtain ⟨g', cap', e, hglt, _, _, hcell, hfz⟩ := O1.out.shape (by rw [flk_len _ (by omega)]; omega)
        simp only [Value.slice.injEq, Option.some.injEq, Addr.mk.injEq, and_true] at e
        obtain ⟨rfl, he1, he2⟩ := e
        clear he1 he2
        have ck : wr.cell? ⟨g, k, none⟩ = some (.int .u8 ((flk n fill k).getD k 0)) := hcell k (by rw [flk_len _ (by omega)]; exact hlt)
        have fk : wr.frozen? ⟨g, k, none⟩ = false := hfz k
        obtain ⟨z, hz⟩ : ∃ z, (flk n fill k).getD k 0 = z := ⟨_, rfl⟩
        rw [hz] at ck
        clear hz
        have O3 : Hid (Owns .u8 5 (wr.setCell ⟨g, k, none⟩ (.int .u8 fill)) (.slice (some ⟨g, 0, none⟩) n n) (flk n fill (k + 1))) := by
          have := O1.out.set k fill
          rw [flk_set fill hlt] at this
          exact this
        have T3 : Hid (Tch (fun k => k = g) B0 (wr.setCell ⟨g, k, none⟩ (.int .u8 fill))) := T1.out.setCell (p := ⟨g, k, none⟩) (fun _ => rfl) _
        clear hcell hfz hglt
        go_wp2_with fail
        go_roundw
        case rel => exact ⟨k + 1, by omega, by go_num, O3, T3⟩
        case measure => simp [intOf]; omega
      · have hki : ¬ (k : Int) < (n : Int) := by omega
        have hkn : k = n := by omega
        have O4 : Hid (Owns .u8 5 wr (.slice (some ⟨g, 0, none⟩) n n) (List.replicate n fill)) := by
          have := O1.out
          rw [hkn, flk_full] at this
          exact this
        clear hkn
        by_cases hn0 : 0 < n
        · have hnI : (n : Int) > 0 := by omega
          obtain ⟨j, hj⟩ : ∃ j, n = j + 1 := ⟨n - 1, by omega⟩
          have hnj : (n : Int) - 1 = (j : Int) := by omega
          have hjn : (j : Int) < (n : Int) := by omega
          have hj0 : (0 : Int) ≤ (j : Int) := by omega
          obtain ⟨g', cap', e, hglt, _, _, hcell, hfz⟩ := O4.out.shape (by rw [List.length_replicate]; exact hn0)
          simp only [Value.slice.injEq, Option.some.injEq, Addr.mk.injEq, and_true] at e
          obtain ⟨rfl, he1, he2⟩ := e
          clear he1 he2
          have ck : wr.cell? ⟨g, j, none⟩ = some (.int .u8 ((List.replicate n fill).getD j 0)) := hcell j (by rw [List.length_replicate]; omega)
          have fk : wr.frozen? ⟨g, j, none⟩ = false := hfz j
          obtain ⟨z, hz⟩ : ∃ z, (List.replicate n fill).getD j 0 = z := ⟨_, rfl⟩
          rw [hz] at ck
          clear hz
          have O5 : Hid (Owns .u8 5 (wr.setCell ⟨g, j, none⟩ (.int .u8 last)) (.slice (some ⟨g, 0, none⟩) n n) ((List.replicate n fill).set (n - 1) last)) := by
            rw [show n - 1 = j by omega]
            exact O4.out.set j last
          have T3 : Hid (Tch (fun k => k = g) B0 (wr.setCell ⟨g, j, none⟩ (.int .u8 last))) := T1.out.setCell (p := ⟨g, j, none⟩) (fun _ => rfl) _
          clear hcell hfz hglt hj
          go_wp2_with fail
          go_ret
          refine ⟨_, rfl, ?_, ?_, fun k hk => ?_⟩
          · rw [HDB.out]; exact O5.out
          · exact HBB.out.trans (T3.out.below HBB.out.size (fun k e => by rw [e, ← HG.out]; exact HBB.out.size))
          · cases hk; rw [← HG.out]; exact HBB.out.size
        · have hnI : ¬ (n : Int) > 0 := by omega
          have HNZ : Hid (n = 0) := by show _ = _; omega
          clear hn0
          go_wp2_with fail
          go_ret
          refine ⟨_, rfl, ?_, ?_, fun k hk => ?_⟩
          · rw [HDB.out, show (List.replicate n fill).set (n - 1) last = List.replicate n fill by rw [HNZ.out]; rfl]; exact O4.out
          · exact HBB.out.trans (T1.out.below HBB.out.size (fun k e => by rw [e, ← HG.out]; exact HBB.out.size))
          · cases hk; rw [← HG.out]; exact HBB.out.size
end Go.Proofs.Ytmohbkhdloggeaa
