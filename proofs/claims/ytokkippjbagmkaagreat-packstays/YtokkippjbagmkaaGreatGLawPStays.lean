import Derived.Test.YtokkippjbagmkaaGreatGPkLv
import Derived.Test.YtokkippjbagmkaaGreatGSame
/-
  PackStays: what is handed in stays, and what is told is new: for every bytes the law answers true.
-/
namespace Go.Proofs.YtokkippjbagmkaaGreat
open Go.RowKit Pl
set_option linter.unusedVariables false
set_option maxRecDepth 100000
set_option linter.unusedSimpArgs false

/-- Bytes that may be written, whatever they are. -/
structure Wt (n1 : Nat) (w : World) (b o n : Nat) : Prop where
  cell : ∀ i, i < n → ∃ x, w.cell? ⟨b, o + i, none⟩ = some (.int .u8 x)
  fz : ∀ i, i < n → w.frozen? ⟨b, o + i, none⟩ = false
  new : n1 ≤ b

theorem setCell_one (w : World) (b q : Nat) (v : Value) : w.setCell ⟨b, q, none⟩ v = w.setCells b q [v] := rfl

theorem Wt.set {n1 : Nat} {w : World} {b o n : Nat} (h : Wt n1 w b o n) (k : Nat) (hk : k < n) (x : Int) : Wt n1 (w.setCell ⟨b, o + k, none⟩ (.int .u8 x)) b o n := by
  refine ⟨fun i hi => ?_, fun i hi => ?_, h.new⟩
  · rw [setCell_one]
    by_cases e : i = k
    · subst e
      have := World.cell?_setCells_in b [.int .u8 x] (o + i) w (fun j hj => by
        have : j = 0 := by simp at hj; omega
        subst this
        obtain ⟨y, hy⟩ := h.cell i hi
        rw [Nat.add_zero, hy]; rfl) 0 (by simp)
      exact ⟨x, this⟩
    · rw [World.cell?_setCells_out b [.int .u8 x] (o + k) w ⟨b, o + i, none⟩ (fun _ _ => by simp; omega)]
      exact h.cell i hi
  · rw [setCell_one, World.frozen?_setCells]
    exact h.fz i hi

theorem Wt.tch {S : Nat → Prop} {n1 : Nat} {w w' : World} {b o n : Nat} (h : Wt n1 w b o n) (ht : Tch S w w') (hs : ¬ S b) : Wt n1 w' b o n := by
  refine ⟨fun i hi => ?_, fun i hi => ?_, h.new⟩
  · obtain ⟨x, hx⟩ := h.cell i hi
    exact ⟨x, by rw [ht.cell (p := ⟨b, o + i, none⟩) (World.block_lt_of_cell? w ⟨b, o + i, none⟩ hx) hs]; exact hx⟩
  · obtain ⟨x, hx⟩ := h.cell i hi
    have hl := World.block_lt_of_cell? w ⟨b, o + i, none⟩ hx
    have hb := ht.block b hl hs
    have := h.fz i hi
    unfold World.frozen? at this ⊢
    rw [hb]
    exact this

theorem Nw.wt {n1 : Nat} {w : World} {a : Option Addr} {n c : Nat} {xs : List Int} (h : Nw n1 w (.slice a n c) xs) (hn : xs.length = n) : ∀ k, k < n → ∃ b o, a = some ⟨b, o, none⟩ ∧ Wt n1 w b o n := by
  intro k hk
  obtain ⟨a', c', e, _, _, _, hc⟩ := h.rd
  cases e
  rcases hc with hc | ⟨b, o, rfl, hc⟩
  · rw [hc] at hk; simp at hk
  · refine ⟨b, o, rfl, fun i hi => ⟨_, hc i (by omega)⟩, fun i hi => h.fz b o _ _ rfl i (by omega), h.new b rfl⟩

theorem pack_nw (v : Value) (ds : List Int) (w : World) (hr : Rd .u8 w v ds) (hy : By ds) (hold : ∀ k, v.ownBlock = some k → k < w.heap.size) :
    Calls Tryz.prog 9 #[v] w fun e w' => ∃ rv E xs, e = .returned (.tuple #[rv, .int .i64 E]) ∧ Nw w.heap.size w' rv xs ∧ Below w.heap.size w w' := by
  by_cases h : ds.length ≤ 65536
  · refine (pack_any v ds w hr hy h hold).mono ?_
    rintro e w' ⟨ov, out, rfl, _, ho, hb, hf⟩
    exact ⟨ov, 0, out, rfl, Nw.of_owns ho hf, hb⟩
  · refine (pack_big v ds w hr (by omega)).mono ?_
    rintro e w' ⟨rfl, hb⟩
    exact ⟨_, 1, [], rfl, Nw.nil _ _, hb⟩

set_option maxHeartbeats 2000000 in
theorem packStays_walk (v1 : Value) (ds : List Int) (w : World) (h1 : Rd .u8 w v1 ds) (hy : By ds) (hl : ds.length ≤ 140737488351232) :
    Calls Tryz.prog 8 #[v1] w fun e w' => e = .returned (.bool true) ∧ Below w.heap.size w w' := by
  have H1 : Hid (Rd .u8 w v1 ds) := h1
  have HY : Hid (By ds) := hy
  clear h1 hy
  go_enter Tryz.func8, Tryz.ntmps8
  go_wp2_with (at_builtin; refine wpList_many _ rfl (.tmp 11) (.tmp 12) 22 rfl 5 .u8 1 elem8 (.slice none 0 0) [] rfl (owns_nil _ _ _) v1 ds rfl H1.out (by simp; omega) (by simp; omega) ?_)
  intro ov w2 ho2 hg2
  obtain ⟨b2, n2⟩ := hg2.below
  have O2 : Hid (Owns .u8 5 w2 ov ds) := ho2
  have B2 : Hid (Below w.heap.size w w2) := b2
  clear ho2 hg2 b2 n2
  go_wp2_with fail
  refine (pack_nw ov ds w2 O2.out.rd HY.out O2.out.lt).mono ?_
  rintro e w3 ⟨av, E3, as_, rfl, hn3, hb3⟩
  have O3 : Hid (Owns .u8 5 w3 ov ds) := O2.out.below hb3
  have A3 : Hid (Nw w2.heap.size w3 av as_) := hn3
  have B3 : Hid (Below w.heap.size w w3) := B2.out.trans (hb3.mono B2.out.size)
  have HNA : Hid (∀ j, w2.heap.size ≤ j → w.heap.size ≤ j ∧ ov.ownBlock ≠ some j) := fun j hj => ⟨Nat.le_trans B2.out.size hj, fun e => by have := O2.out.lt j e; omega⟩
  have HAB0 : Hid (∀ b o n c, av = .slice (some ⟨b, o, none⟩) n c → 0 < as_.length → b < w3.heap.size) := fun b o n c e h0 => by
    subst e
    obtain ⟨a', c', e, _, _, _, hc⟩ := A3.out.rd
    cases e
    rcases hc with hc | ⟨b', o', e, hc⟩
    · rw [hc] at h0; simp at h0
    · cases e
      exact World.block_lt_of_cell? w3 ⟨b, o + 0, none⟩ (hc 0 h0)
  clear hb3 hn3
  go_wp2_with fail
  refine (unpack_any ov ds 65536 w3 O3.out.rd HY.out (by omega) O3.out.lt).mono ?_
  rintro e w4 ⟨bv, rfl, hn4, hb4⟩
  obtain ⟨R, hR⟩ : ∃ R, unpS ds 65536 = R := ⟨_, rfl⟩
  rw [hR] at hn4 ⊢
  obtain ⟨E4, bs_⟩ := R
  have O4 : Hid (Owns .u8 5 w4 ov ds) := O3.out.below hb4
  have A4 : Hid (Nw w2.heap.size w4 av as_) := A3.out.below hb4
  have L4 : Hid (Nw w3.heap.size w4 bv bs_) := hn4
  have B4 : Hid (Below w.heap.size w w4) := B3.out.trans (hb4.mono B3.out.size)
  have HNB : Hid (∀ j, w3.heap.size ≤ j → w.heap.size ≤ j ∧ ov.ownBlock ≠ some j) := fun j hj => ⟨Nat.le_trans B3.out.size hj, fun e => by have := O3.out.lt j e; omega⟩
  simp only
  clear hb4 hn4 O3 A3 B3 hR O2 B2
  obtain ⟨aa, ac, rfl⟩ : ∃ a c, av = .slice a as_.length c := by obtain ⟨a, c, e, _⟩ := A4.out.rd; exact ⟨a, c, e⟩
  obtain ⟨ba, bc, rfl⟩ : ∃ a c, bv = .slice a bs_.length c := by obtain ⟨a, c, e, _⟩ := L4.out.rd; exact ⟨a, c, e⟩
  obtain ⟨na, hna⟩ : ∃ na, Hid (as_.length = na) := ⟨_, rfl⟩
  obtain ⟨nb, hnb⟩ : ∃ nb, Hid (bs_.length = nb) := ⟨_, rfl⟩
  rw [hna.out] at A4 ⊢
  rw [hnb.out] at L4 ⊢
  have hna2 : na ≤ 9223372036854775807 := by obtain ⟨a, c, e, h1, h2, _⟩ := A4.out.rd; unfold maxLen at h2; rw [hna.out] at h1; omega
  have hnb2 : nb ≤ 9223372036854775807 := by obtain ⟨a, c, e, h1, h2, _⟩ := L4.out.rd; unfold maxLen at h2; rw [hnb.out] at h1; omega
  have AW : Hid (∀ k, k < na → ∃ b o, aa = some ⟨b, o, none⟩ ∧ Wt w2.heap.size w4 b o na) := A4.out.wt hna.out
  have LW : Hid (∀ k, k < nb → ∃ b o, ba = some ⟨b, o, none⟩ ∧ Wt w3.heap.size w4 b o nb) := L4.out.wt hnb.out
  have HAB : Hid (∀ b o, aa = some ⟨b, o, none⟩ → 0 < na → b < w3.heap.size) := fun b o e h0 => HAB0.out b o _ _ (by rw [e]) (by rw [hna.out]; exact h0)
  clear A4 L4 hna hnb HAB0
  go_wp2_with fail
  go_loopw [8] (fun i wr => ∃ (k : Nat), k ≤ na ∧ i = .int .i64 k ∧ Hid (∀ k, k < na → ∃ b o, aa = some ⟨b, o, none⟩ ∧ Wt w2.heap.size wr b o na) ∧ Hid (∀ k, k < nb → ∃ b o, ba = some ⟨b, o, none⟩ ∧ Wt w3.heap.size wr b o nb) ∧ Hid (Owns .u8 5 wr ov ds) ∧ Hid (Below w.heap.size w wr)) (fun i _ => na - (intOf i).toNat)
  case atStart => exact ⟨0, Nat.zero_le _, rfl, AW, LW, O4, B4⟩
  case round =>
    clear AW LW O4 B4
    obtain ⟨k, hk, rfl, AW, LW, O5, B5⟩ := hrel
    by_cases hlt : k < na
    · obtain ⟨g, o, ha, W5⟩ := AW.out k hlt
      subst ha
      obtain ⟨x0, cq⟩ := W5.cell k hlt
      have fq := W5.fz k hlt
      have HW5 : Hid (Wt w2.heap.size wr g o na) := W5
      have hi1 : (k : Int) < (na : Int) := by omega
      clear W5 AW
      go_wp2_with fail
      go_roundw
      case rel =>
        refine ⟨k + 1, by omega, by go_num, fun j hj => ⟨g, o, rfl, HW5.out.set k hlt _⟩, fun j hj => ?_, ?_, ?_⟩
        · obtain ⟨b, o2, e, hw⟩ := LW.out j hj
          exact ⟨b, o2, e, hw.tch (Tch.setCell (Tch.refl (fun j => j = g) wr) (p := ⟨g, o + k, none⟩) (fun _ => rfl) _) (fun e2 => by have := HAB.out g o rfl (by omega); have := hw.new; omega)⟩
        · exact O5.out.tch (Tch.setCell (Tch.refl (fun j => j = g) wr) (p := ⟨g, o + k, none⟩) (fun _ => rfl) _) (fun j hj e => (HNA.out g HW5.out.new).2 (by rw [← e]; exact hj))
        · exact B5.out.trans ((Tch.setCell (Tch.refl (fun j => j = g) wr) (p := ⟨g, o + k, none⟩) (fun _ => rfl) _).below B5.out.size (fun j e => by rw [e]; exact (HNA.out g HW5.out.new).1))
      case measure => simp [intOf]; omega
    · clear AW
      go_wp2_with fail
      go_loopw [9] (fun i wr => ∃ (k : Nat), k ≤ nb ∧ i = .int .i64 k ∧ Hid (∀ k, k < nb → ∃ b o, ba = some ⟨b, o, none⟩ ∧ Wt w3.heap.size wr b o nb) ∧ Hid (Owns .u8 5 wr ov ds) ∧ Hid (Below w.heap.size w wr)) (fun i _ => nb - (intOf i).toNat)
      case atStart => exact ⟨0, Nat.zero_le _, rfl, LW, O5, B5⟩
      case round =>
        clear LW O5 B5
        obtain ⟨k, hk, rfl, LW, O5, B5⟩ := hrel
        by_cases hlt : k < nb
        · obtain ⟨g, o, ha, W5⟩ := LW.out k hlt
          subst ha
          obtain ⟨x0, cq⟩ := W5.cell k hlt
          have fq := W5.fz k hlt
          have HW5 : Hid (Wt w3.heap.size wr g o nb) := W5
          have hi1 : (k : Int) < (nb : Int) := by omega
          clear W5 LW
          go_wp2_with fail
          go_roundw
          case rel =>
            refine ⟨k + 1, by omega, by go_num, fun j hj => ⟨g, o, rfl, HW5.out.set k hlt _⟩, ?_, ?_⟩
            · exact O5.out.tch (Tch.setCell (Tch.refl (fun j => j = g) wr) (p := ⟨g, o + k, none⟩) (fun _ => rfl) _) (fun j hj e => (HNB.out g HW5.out.new).2 (by rw [← e]; exact hj))
            · exact B5.out.trans ((Tch.setCell (Tch.refl (fun j => j = g) wr) (p := ⟨g, o + k, none⟩) (fun _ => rfl) _).below B5.out.size (fun j e => by rw [e]; exact (HNB.out g HW5.out.new).1))
          case measure => simp [intOf]; omega
        · go_wp2_with fail
          refine (same_rd _ _ ds ds wr O5.out.rd (H1.out.below B5.out)).mono ?_
          rintro e w7 ⟨rfl, hb7⟩
          have hdec : decide (ds = ds) = true := by simp
          rw [hdec]
          have B7 : Hid (Below w.heap.size w w7) := B5.out.trans (hb7.mono B5.out.size)
          clear hdec hb7 B5 O5
          go_wp2_with fail
          refine (lives_anyP _).mono ?_
          rintro e w9 ⟨rfl, hb9⟩
          go_wp2_with fail
          go_ret
          exact ⟨rfl, B7.out.trans (hb9.mono B7.out.size)⟩
end Go.Proofs.YtokkippjbagmkaaGreat
