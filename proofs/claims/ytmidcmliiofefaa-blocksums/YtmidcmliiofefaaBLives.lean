/-
  The document's example holds.
-/
import Derived.Test.YtmidcmliiofefaaBPut
import Derived.Test.YtmidcmliiofefaaBGetA
import Derived.Lib.SlBytesConst
import Derived.Laws.BytesArg
namespace Go.Proofs.Ytmidcmliiofefaa
open Go.RowKit Pl
set_option linter.unusedVariables false
set_option linter.unusedSimpArgs false
set_option maxRecDepth 100000

/-- A literal's row, marked behind its last cell. -/
theorem rd_litB (w : World) (xs : List Int) (fz : Nat × Nat) (hm : xs.length ≤ maxLen) : Rd .u8 (w.alloc (.cells (xs.map (Value.int .u8)).toArray 5 fz)) (.slice (some ⟨w.heap.size, 0, none⟩) xs.length xs.length) xs := by
  refine ⟨_, xs.length, rfl, Nat.le_refl _, hm, fun e => (by cases e), .inr ⟨w.heap.size, 0, rfl, fun i hi => ?_⟩⟩
  have h : (w.alloc (.cells (xs.map (Value.int .u8)).toArray 5 fz)).heap[w.heap.size]? = some (.cells (xs.map (Value.int .u8)).toArray 5 fz) := heap_alloc_new w _
  rw [Nat.zero_add, cell_of_row _ _ i _ _ fz h]
  simp [List.getD_eq_getElem?_getD, hi]
def exAb : List Int := [97, 98]
theorem byAb : By exAb := by_of_memB (by decide)
theorem mayAb : mayK 258 3 exAb.length = true := by decide

set_option maxHeartbeats 2000000 in
theorem lives_anyB (w : World) : Calls Try.prog 12 #[] w fun e w' => e = .returned (.bool true) ∧ Below w.heap.size w w' := by
  have kc := fun (w : World) (C : Array Value) (n c : Nat) => Lib.run_convert_bytes_const (P := Try.prog) w 22 5 C n c Try.underlying22 Try.underlying5
  have HP : Hid (∀ W v, Rd .u8 W v exAb → Calls Try.prog 9 #[.int .i64 258, .agg #[.int .i64 3, v]] W fun e w' => PutR 258 3 exAb W e w') := fun W v h => put_any 258 3 v exAb W h byAb
  go_enter Try.func12, Try.ntmps12
  go_wp2_with fail
  have r0 : Rd .u8 (w.alloc (.cells #[.int .u8 97, .int .u8 98] 5 (2, 3))) (.slice (some ⟨w.heap.size, 0, none⟩) 2 2) exAb := rd_litB w exAb (2, 3) (by unfold maxLen; decide)
  refine (HP.out _ _ r0).mono ?_
  rintro e w1 ⟨v, c, rfl, b1, n1, h⟩
  rcases h with ⟨_, rfl, wb, g, rfl⟩ | ⟨hf, _⟩
  rotate_left
  · rw [mayAb] at hf; cases hf
  obtain ⟨T, hT⟩ : ∃ T, Hid (sec 258 3 exAb = T) := ⟨_, rfl⟩
  have B1 : Hid (Below w.heap.size w w1) := ((Below.refl _ w).alloc (Nat.le_refl _) _).trans (b1.mono (by simp))
  have e1 := getE_put mayAb
  have e2 := getE_else (m := 259) mayAb (by decide)
  have hTB : By (sec 258 3 exAb) := sec_by (by decide) (by decide) byAb (by decide)
  rw [hT.out] at wb e1 e2 hTB
  have t0 : T.getD 0 0 = 3 := by rw [← hT.out]; rfl
  have t1 : T.getD 1 0 = 2 := by rw [← hT.out]; rfl
  have t2 : T.getD 2 0 = 2 := by rw [← hT.out]; rfl
  have t3 : T.getD 3 0 = 1 := by rw [← hT.out]; rfl
  have t8 : T.getD 8 0 = 97 := by rw [← hT.out]; rfl
  have HTL : Hid (T.length = 256) := by rw [← hT.out]; exact sec_len 258 3 (by decide)
  have HT : Hid (T.getD 0 0 = 3 ∧ T.getD 1 0 = 2 ∧ T.getD 2 0 = 2 ∧ T.getD 3 0 = 1 ∧ T.getD 8 0 = 97) := ⟨t0, t1, t2, t3, t8⟩
  have R1 : Hid (Rd .u8 w1 (.slice (some ⟨g, 0, none⟩) 256 256) T) := wb.rd
  have HTB : Hid (By T) := hTB
  have E1 : Hid (getE 258 T = 0 ∧ getB 258 T = (3, exAb)) := e1
  have E2 : Hid (getE 259 T = 7) := e2
  clear r0 b1 n1 wb e1 e2 hTB t0 t1 t2 t3 t8 hT
  go_wp2_with fail
  refine (get_any 258 _ T w1 R1.out HTB.out).mono ?_
  rintro e w2 ⟨bv, rfl, rb, b2, n2⟩
  rw [E1.out.1, E1.out.2]
  rw [E1.out.2] at rb
  obtain ⟨ba, bc, hbv, hb1, hb2, hb3, hb4⟩ := id rb
  have hbl : exAb.length = 2 := rfl
  rw [hbl] at hbv
  subst hbv
  obtain ⟨bb, bo, rfl, hb5⟩ : ∃ b o, ba = some ⟨b, o, none⟩ ∧ ∀ i, i < 2 → w2.cell? ⟨b, o + i, none⟩ = some (.int .u8 (exAb.getD i 0)) := by
    rcases hb4 with h | h
    · cases h
    · exact h
  have B2 : Hid (Below w.heap.size w w2) := B1.out.trans (b2.mono B1.out.size)
  have R2 : Hid (Rd .u8 w2 (.slice (some ⟨g, 0, none⟩) 256 256) T) := R1.out.below b2
  obtain ⟨q, hqs⟩ : ∃ q, w2.heap.size = q := ⟨_, rfl⟩
  have HQS : Hid (w2.heap.size = q) := hqs
  obtain ⟨W3, hW3⟩ : ∃ W3, w2.alloc (.cells #[.int .i64 3, .slice (some ⟨bb, bo, none⟩) 2 bc] 24) = W3 := ⟨_, rfl⟩
  have b3 : Below w2.heap.size w2 W3 := by rw [← hW3]; exact (Below.refl _ _).alloc (Nat.le_refl _) _
  have V3 : Hid (Bkv W3 q 3 (.slice (some ⟨bb, bo, none⟩) 2 bc)) := by rw [← hW3, ← hqs]; exact bkv_new w2 _ _
  have R3 : Hid (Rd .u8 W3 (.slice (some ⟨g, 0, none⟩) 256 256) T) := R2.out.below b3
  have B3 : Hid (Below w.heap.size w W3) := B2.out.trans (b3.mono B2.out.size)
  have C3 : Hid (∀ W, Below W3.heap.size W3 W → ∀ i, i < 2 → W.cell? ⟨bb, bo + i, none⟩ = some (.int .u8 (exAb.getD i 0))) := fun W hW i hi => by
    have h0 := hb5 i hi
    have hlt := World.block_lt_of_cell? w2 ⟨bb, bo + i, none⟩ h0
    have h1 : W3.cell? ⟨bb, bo + i, none⟩ = some (.int .u8 (exAb.getD i 0)) := by rw [b3.cell (p := ⟨bb, bo + i, none⟩) hlt]; exact h0
    rw [hW.cell (p := ⟨bb, bo + i, none⟩) (World.block_lt_of_cell? W3 ⟨bb, bo + i, none⟩ h1)]
    exact h1
  have HBC : Hid (bc ≤ maxLen) := hb2
  clear rb b2 n2 hb1 hb2 hb3 hb4 hb5 B1 R1 b3 B2 R2 hbl
  unfold blk
  go_wp2_with fail
  refine (get_any 259 _ T W3 R3.out HTB.out).mono ?_
  rintro e w4 ⟨cv, rfl, rc, b4, _⟩
  have e4 : getB 259 T = (0, []) := by unfold getB; rw [if_neg (by rw [E2.out]; decide)]
  rw [E2.out, e4]
  rw [e4] at rc
  obtain ⟨ca, cc, rfl, _⟩ := rc
  rw [show ([] : List Int).length = 0 from rfl]
  obtain ⟨W5, hW5⟩ : ∃ W5, w4.alloc (.cells #[.int .i64 0, .slice ca 0 cc] 24) = W5 := ⟨_, rfl⟩
  have b5 : Below w4.heap.size w4 W5 := by rw [← hW5]; exact (Below.refl _ _).alloc (Nat.le_refl _) _
  have b35 : Below W3.heap.size W3 W5 := b4.trans (b5.mono b4.size)
  have V5 : Hid (Bkv W5 q 3 (.slice (some ⟨bb, bo, none⟩) 2 bc)) := V3.out.below b35
  have R5 : Hid (Rd .u8 W5 (.slice (some ⟨g, 0, none⟩) 256 256) T) := R3.out.below b35
  have B5 : Hid (Below w.heap.size w W5) := B3.out.trans (b35.mono B3.out.size)
  have kd := run_convert_bytes_arg (P := Try.prog) W5 22 5 Try.underlying22 Try.underlying5 bb bo 2 bc exAb rfl (C3.out W5 b35) 9 Try.underlying9
  have hst : strOfNums exAb = ⟨#[97, 98]⟩ := by decide
  rw [hst] at kd
  clear hst
  have hcl : ∀ i, i < 256 → W5.cell? ⟨g, i, none⟩ = some (.int .u8 (T.getD i 0)) := fun i hi => by
    obtain ⟨a, cp, hv, _, _, _, hc⟩ := R5.out
    rw [HTL.out] at hv
    cases hv
    rcases hc with h | ⟨b, o, hbo, hc⟩
    · rw [h] at HTL; have := HTL.out; simp at this
    · cases hbo
      have := hc i (by rw [HTL.out]; exact hi)
      rw [Nat.zero_add] at this
      exact this
  have z0 := hcl 0 (by decide)
  have z1 := hcl 1 (by decide)
  have z2 := hcl 2 (by decide)
  have z3 := hcl 3 (by decide)
  have z8 := hcl 8 (by decide)
  rw [HT.out.1] at z0
  rw [HT.out.2.1] at z1
  rw [HT.out.2.2.1] at z2
  rw [HT.out.2.2.2.1] at z3
  rw [HT.out.2.2.2.2] at z8
  have u0 := V5.out.c0
  have u1 := V5.out.c1
  have HW5 : Hid (w4.alloc (.cells #[.int .i64 0, .slice ca 0 cc] 24) = W5) := hW5
  clear b4 b5 b35 hcl R3 V3 B3 C3 hW3 hqs e4 kc
  unfold blk
  go_wp2_with fail
  go_ret
  exact ⟨rfl, B5.out⟩
end Go.Proofs.Ytmidcmliiofefaa
