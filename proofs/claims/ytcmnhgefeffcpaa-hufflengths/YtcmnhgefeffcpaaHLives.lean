/-
  The document's examples hold.
-/
import Derived.Test.YtcmnhgefeffcpaaHGood
import Derived.Laws.IdiomStrings
namespace Go.Proofs.Ytcmnhgefeffcpaa
open Go.RowKit Pl Hf
set_option linter.unusedVariables false

theorem ex_wt : wt [2, 1, 0, 1] 4 = [2, 1, 1] := by decide +kernel
theorem ex_deps : deps [2, 1, 1] = [1, 2, 2] := by decide +kernel
theorem ex_lens : lens [2, 1, 0, 1] [1, 2, 2] = [1, 2, 0, 2] := by decide +kernel
theorem ex_may : mayC [1, 2, 0, 2] = true := by decide +kernel
theorem ex_enc : pack (enc [1, 2, 0, 2] [0, 1, 3]) = [26] := by decide +kernel
theorem ex_bits : (unpack [26]).take 5 = enc [1, 2, 0, 2] [0, 1, 3] := by decide +kernel
theorem ex_rest : val (unpack [26]) 5 3 = 0 := by decide +kernel

theorem ex_ok : OkC [2, 1, 0, 1] := by
  refine ⟨by decide, fun i hi => ?_, by decide +kernel⟩
  match i, hi with
  | 0, _ => decide
  | 1, _ => decide
  | 2, _ => decide
  | 3, _ => decide

theorem ex_sh {ds : List Int} (h : ShS (wt [2, 1, 0, 1] 4) ds) : ds = [1, 2, 2] := by
  rw [ex_wt] at h
  rcases h with ⟨h1, _⟩ | ⟨_, h⟩
  · simp at h1
  · cases h with
    | now _ h => exact ex_deps
    | on _ _ h k =>
      exfalso
      apply h
      intro i hi
      rw [ex_deps]
      match i, hi with
      | 0, _ => decide
      | 1, _ => decide
      | 2, _ => decide

theorem ex_lengths {w w' : World} {e : Ending} (h : LPost [2, 1, 0, 1] w e w') : ∃ lv, e = .returned (.tuple #[lv, .int .i64 0]) ∧ Below w.heap.size w w' ∧ Owns .i64 3 w' lv [1, 2, 0, 2] := by
  obtain ⟨lv, E, rfl, hb, _, h⟩ := h
  rcases h with ⟨_, _, h⟩ | ⟨rfl, _, ds, ho, hs⟩
  · exact absurd ex_ok h
  · refine ⟨lv, rfl, hb, ?_⟩
    rw [ex_sh hs, ex_lens] at ho
    exact ho

theorem ex_has : ∀ i, i < ([0, 1, 3] : List Int).length → 0 < ([1, 2, 0, 2] : List Int).getD (([0, 1, 3] : List Int).getD i 0).toNat 0 := by
  intro i hi
  match i, hi with
  | 0, _ => decide
  | 1, _ => decide
  | 2, _ => decide

theorem ex_encode {w w' : World} {e : Ending} (h : EPost [1, 2, 0, 2] [0, 1, 3] w e w') : ∃ rv, e = .returned (.tuple #[rv, .int .i64 0]) ∧ Below w.heap.size w w' ∧ Owns .u8 5 w' rv [26] := by
  obtain ⟨rv, E, rfl, hb, _, h⟩ := h
  rcases h with ⟨_, _, h⟩ | ⟨rfl, _, _, ho⟩
  · rcases h with h | ⟨i, hi, h⟩
    · rw [ex_may] at h; cases h
    · have := ex_has i hi; omega
  · refine ⟨rv, rfl, hb, ?_⟩
    rw [ex_enc] at ho
    exact ho

theorem ex_by : By [0, 1, 3] := by
  intro i
  match i with
  | 0 => decide
  | 1 => decide
  | 2 => decide
  | n + 3 => simp

theorem ex_rn : Rn [1, 2, 0, 2] (unpack [26]) [0, 1, 3] 5 := by
  have h := rn_enc (LOk.of ex_may) [0, 1, 3] ex_by ex_has (unpack [26]) (fun i hi => by
    have e5 : (enc [1, 2, 0, 2] [0, 1, 3]).length = 5 := by decide +kernel
    rw [← ex_bits, List.getD_eq_getElem?_getD, List.getD_eq_getElem?_getD, List.getElem?_take, if_pos (by omega)]) 3 (by decide)
  have e5 : (enc [1, 2, 0, 2] (([0, 1, 3] : List Int).take 3)).length = 5 := by decide +kernel
  rw [e5] at h
  exact h

theorem ex_decode {w w' : World} {e : Ending} (h : DPost [1, 2, 0, 2] [26] 3 w e w') : ∃ rv, e = .returned (.tuple #[rv, .int .i64 0]) ∧ Below w.heap.size w w' ∧ Owns .u8 5 w' rv [0, 1, 3] := by
  obtain ⟨rv, h1, h2, _, h3⟩ := decode_good ex_may ex_rn (by decide) (by decide) (by decide) (by decide) ex_rest h
  exact ⟨rv, h1, h2, h3⟩

theorem rd_ints4 (w : World) (a b c d : Int) : Rd .i64 (w.alloc (.cells #[.int .i64 a, .int .i64 b, .int .i64 c, .int .i64 d] 3)) (.slice (some ⟨w.heap.size, 0, none⟩) 4 4) [a, b, c, d] :=
  rd_of_owns (e := 3) (World.ownsRow_lit w #[.int .i64 a, .int .i64 b, .int .i64 c, .int .i64 d] 4 (Nat.zero_le _) (by unfold maxLen; omega) rfl)
theorem rd_by3 (w : World) (a b c : Int) : Rd .u8 (w.alloc (.cells #[.int .u8 a, .int .u8 b, .int .u8 c] 5)) (.slice (some ⟨w.heap.size, 0, none⟩) 3 3) [a, b, c] :=
  rd_of_owns (e := 5) (World.ownsRow_lit w #[.int .u8 a, .int .u8 b, .int .u8 c] 3 (Nat.zero_le _) (by unfold maxLen; omega) rfl)
theorem rd_by1 (w : World) (a : Int) : Rd .u8 (w.alloc (.cells #[.int .u8 a] 5)) (.slice (some ⟨w.heap.size, 0, none⟩) 1 1) [a] :=
  rd_of_owns (e := 5) (World.ownsRow_lit w #[.int .u8 a] 1 (Nat.zero_le _) (by unfold maxLen; omega) rfl)

set_option maxHeartbeats 4000000 in
theorem lives_any (w : World) : Calls Try.prog 8 #[] w fun e w' => e = .returned (.bool true) ∧ Below w.heap.size w w' := by
  go_enter Try.func8, Try.ntmps8
  go_wp2_with fail
  refine (lengths_any _ [2, 1, 0, 1] _ (rd_ints4 w 2 1 0 1)).mono ?_
  intro e w1 h1
  obtain ⟨lv, rfl, hb1, ho1⟩ := ex_lengths h1
  have B1 : Hid (Below w.heap.size w w1) := ((Below.refl _ _).alloc (Nat.le_refl _) _).trans (hb1.mono (by simp))
  have O1 : Hid (Owns .i64 3 w1 lv [1, 2, 0, 2]) := ho1
  obtain ⟨g, cap, rfl, hg, hcap, hcm, hc, _⟩ := Owns.shape ho1 (by decide)
  have c0 : w1.cell? ⟨g, 0, none⟩ = some (.int .i64 1) := hc 0 (by decide)
  have c1 : w1.cell? ⟨g, 1, none⟩ = some (.int .i64 2) := hc 1 (by decide)
  have c2 : w1.cell? ⟨g, 2, none⟩ = some (.int .i64 0) := hc 2 (by decide)
  have c3 : w1.cell? ⟨g, 3, none⟩ = some (.int .i64 2) := hc 3 (by decide)
  have e4 : ([1, 2, 0, 2] : List Int).length = 4 := rfl
  rw [e4] at O1 hcap ⊢
  clear h1 hb1 ho1 hc e4
  go_wp2_with fail
  have hbA : Below w1.heap.size w1 (w1.alloc (.cells #[.int .u8 0, .int .u8 1, .int .u8 3] 5)) := (Below.refl _ _).alloc (Nat.le_refl _) _
  refine (encode_any _ _ [1, 2, 0, 2] [0, 1, 3] _ (O1.out.below hbA).rd (rd_by3 w1 0 1 3) ex_by (by decide)).mono ?_
  intro e w2 h2
  obtain ⟨bv, rfl, hb2, ho2⟩ := ex_encode h2
  have B12 : Below w1.heap.size w1 w2 := hbA.trans (hb2.mono (by simp))
  have B2 : Hid (Below w.heap.size w w2) := B1.out.trans (B12.mono B1.out.size)
  have O2 : Hid (Owns .i64 3 w2 (.slice (some ⟨g, 0, none⟩) 4 cap) [1, 2, 0, 2]) := O1.out.below B12
  have P2 : Hid (Owns .u8 5 w2 bv [26]) := ho2
  clear h2 hb2 ho2 hbA B12 c0 c1 c2 c3 O1 B1 hg
  go_wp2_with fail
  have hbB : Below w2.heap.size w2 (w2.alloc (.cells #[.int .u8 26] 5)) := (Below.refl _ _).alloc (Nat.le_refl _) _
  refine (decode_any _ _ [1, 2, 0, 2] [26] 3 _ (O2.out.below hbB).rd (rd_by1 w2 26) (by intro i; match i with | 0 => decide | n + 1 => simp) (by decide)).mono ?_
  intro e w3 h3
  obtain ⟨cv, rfl, hb3, ho3⟩ := ex_decode h3
  have B23 : Below w2.heap.size w2 w3 := hbB.trans (hb3.mono (by simp))
  have B3 : Hid (Below w.heap.size w w3) := B2.out.trans (B23.mono B2.out.size)
  have P3 : Owns .u8 5 w3 bv [26] := P2.out.below B23
  obtain ⟨gb, cb, rfl, hgb, _, _, hcb, _⟩ := Owns.shape P3 (by decide)
  have b0 : w3.cell? ⟨gb, 0, none⟩ = some (.int .u8 26) := hcb 0 (by decide)
  obtain ⟨gc, cc, rfl, hgc, _, _, hcc, _⟩ := Owns.shape ho3 (by decide)
  have d0 : w3.cell? ⟨gc, 0, none⟩ = some (.int .u8 0) := hcc 0 (by decide)
  have d1 : w3.cell? ⟨gc, 1, none⟩ = some (.int .u8 1) := hcc 1 (by decide)
  have d2 : w3.cell? ⟨gc, 2, none⟩ = some (.int .u8 3) := hcc 2 (by decide)
  have e1 : ([26] : List Int).length = 1 := rfl
  have e3 : ([0, 1, 3] : List Int).length = 3 := rfl
  rw [e1, e3]
  clear h3 hb3 ho3 hbB B23 P2 P3 O2 B2 hcb hcc e1 e3
  have hcv : (convert 31 9 (.slice (some ⟨gc, 0, none⟩) 3 cc)).run Try.prog w3 = .ok (.string ⟨([0, 1, 3] : List UInt8).toArray⟩) w3 := run_convert_bytes_back w3 31 9 5 ⟨gc, 0, none⟩ cc [0, 1, 3] Try.underlying31 Try.underlying5 Try.underlying9 (fun j hj => by
    match j, hj with
    | 0, _ => simpa [Addr.add] using d0
    | 1, _ => simpa [Addr.add] using d1
    | 2, _ => simpa [Addr.add] using d2)
  have hcv2 : (convert 31 9 (.slice (some ⟨w3.heap.size, 0, none⟩) 3 3)).run Try.prog (w3.alloc (.cells #[.int .u8 0, .int .u8 1, .int .u8 3] 5)) = .ok (.string ⟨([0, 1, 3] : List UInt8).toArray⟩) (w3.alloc (.cells #[.int .u8 0, .int .u8 1, .int .u8 3] 5)) := run_convert_bytes_back _ 31 9 5 ⟨w3.heap.size, 0, none⟩ 3 [0, 1, 3] Try.underlying31 Try.underlying5 Try.underlying9 (fun j hj => by
    match j, hj with
    | 0, _ => simp [Addr.add]
    | 1, _ => simp [Addr.add]
    | 2, _ => simp [Addr.add])
  go_wp2_with fail
  go_ret
  exact ⟨rfl, B3.out.alloc B3.out.size _⟩
end Go.Proofs.Ytcmnhgefeffcpaa
