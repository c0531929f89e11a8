/-
  FseCodes: symbols are written, and bytes are read, as the document says: for every share, log, number, symbols and bytes of the bound the law answers true.
-/
import Derived.Test.YtcmnhgefeffcpaaFRefEnc
import Derived.Test.YtcmnhgefeffcpaaFRefDec
import Derived.Test.YtcmnhgefeffcpaaFNums
import Derived.Test.YtcmnhgefeffcpaaSame
import Derived.Test.YtcmnhgefeffcpaaFLives
namespace Go.Proofs.Ytcmnhgefeffcpaa
open Go.RowKit Pl
set_option linter.unusedVariables false

set_option maxRecDepth 100000 in
set_option maxHeartbeats 4000000 in
theorem fseCodes_walk (sv dv pv : Value) (s ds ys : List Int) (log n : Int) (w : World) (h1 : Rd .i64 w sv s) (h2 : Rd .i64 w dv ds) (h3 : Rd .u8 w pv ys) (hy : By ys) (hl : ys.length ≤ 1048576) :
    Calls Try.prog 4 #[.agg #[sv, .int .i64 log, .int .i64 n], dv, pv] w fun e w' => e = .returned (.bool true) ∧ Below w.heap.size w w' := by
  have H1 : Hid (Rd .i64 w sv s) := h1
  have H2 : Hid (Rd .i64 w dv ds) := h2
  have H3 : Hid (Rd .u8 w pv ys) := h3
  have HY : Hid (By ys) := hy
  clear h1 h2 h3 hy
  obtain ⟨r, hr⟩ : ∃ r, Hid (encR s log ds = r) := ⟨_, rfl⟩
  obtain ⟨q, hq⟩ : ∃ q, Hid (decR s log ys n = q) := ⟨_, rfl⟩
  have CE : Hid (∀ W, Below w.heap.size w W → Calls Try.prog 9 #[sv, .int .i64 log, dv] W fun e w' => EPostF r W e w') := fun W hW => by rw [← hr.out]; exact encode_anyF _ _ s ds log W (H1.out.below hW) (H2.out.below hW)
  have CF : Hid (∀ W, Below w.heap.size w W → Calls Try.prog 10 #[sv, .int .i64 log, dv] W fun e w' => EPostF r W e w') := fun W hW => by rw [← hr.out]; exact refEncode_any _ _ s ds log W (H1.out.below hW) (H2.out.below hW)
  have CD : Hid (∀ W, Below w.heap.size w W → Calls Try.prog 12 #[sv, .int .i64 log, pv, .int .i64 n] W fun e w' => DPostF q W e w') := fun W hW => by rw [← hq.out]; exact decode_anyF _ _ s ys log n W (H1.out.below hW) (H3.out.below hW) HY.out (by omega)
  have CR : Hid (∀ W, Below w.heap.size w W → Calls Try.prog 13 #[sv, .int .i64 log, pv, .int .i64 n] W fun e w' => DPostF q W e w') := fun W hW => by rw [← hq.out]; exact refDecode_any _ _ s ys log n W (H1.out.below hW) (H3.out.below hW) HY.out hl
  have HBX : Hid (Below w.heap.size w (w.alloc (.cells #[sv, .int .i64 log, .int .i64 n] 30))) := (Below.refl _ _).alloc (Nat.le_refl _) _
  go_enter Try.func4, Try.ntmps4
  go_wp2_with fail
  refine (CE.out _ HBX.out).mono ?_
  obtain ⟨w0, hw0⟩ : ∃ w0, Hid (w.alloc (.cells #[sv, .int .i64 log, .int .i64 n] 30) = w0) := ⟨_, rfl⟩
  obtain ⟨g, hg⟩ : ∃ g, w.heap.size = g := ⟨_, rfl⟩
  have HBK : Hid (w0.heap[g]? = some (.cells #[sv, .int .i64 log, .int .i64 n] 30 (0, 0))) := by rw [← hw0.out, ← hg]; exact heap_alloc_new w _
  have HCC : Hid (∀ W, Below w0.heap.size w0 W → W.cell? ⟨g, 0, none⟩ = some sv ∧ W.cell? ⟨g, 1, none⟩ = some (.int .i64 log) ∧ W.cell? ⟨g, 2, none⟩ = some (.int .i64 n)) := fun W hW => by
    have hl : g < w0.heap.size := (Array.getElem?_eq_some_iff.1 HBK.out).1
    rw [hW.cell (p := ⟨g, 0, none⟩) hl, hW.cell (p := ⟨g, 1, none⟩) hl, hW.cell (p := ⟨g, 2, none⟩) hl, cell_of_row w0 g 0 _ _ (0, 0) HBK.out, cell_of_row w0 g 1 _ _ (0, 0) HBK.out, cell_of_row w0 g 2 _ _ (0, 0) HBK.out]
    exact ⟨rfl, rfl, rfl⟩
  rw [hw0.out] at HBX ⊢
  rintro e w1 ⟨d1, rfl, hb1, _, ho1⟩
  have B1 : Hid (Below w0.heap.size w0 w1) := hb1
  have O1 : Hid (Owns .u8 5 w1 d1 r.2) := ho1
  have A1 : Hid (Below w.heap.size w w1) := HBX.out.trans (hb1.mono HBX.out.size)
  obtain ⟨c0, c1, c2⟩ := HCC.out _ B1.out
  rw [hg]
  clear hb1 ho1
  go_wp2_with fail
  refine (CF.out _ A1.out).mono ?_
  rintro e w2 ⟨d2, rfl, hb2, _, ho2⟩
  have B2 : Hid (Below w0.heap.size w0 w2) := B1.out.trans (hb2.mono B1.out.size)
  have A2 : Hid (Below w.heap.size w w2) := A1.out.trans (hb2.mono A1.out.size)
  have O2 : Hid (Owns .u8 5 w2 d2 r.2) := ho2
  have O12 : Hid (Owns .u8 5 w2 d1 r.2) := O1.out.below hb2
  clear hb2 ho2 c0 c1 c2 O1
  go_wp2_with fail
  refine (same_rd _ _ r.2 r.2 w2 O12.out.rd O2.out.rd).mono ?_
  rintro e w3 ⟨rfl, hb3⟩
  have hdec : decide (r.2 = r.2) = true := by simp
  rw [hdec]
  have B3 : Hid (Below w0.heap.size w0 w3) := B2.out.trans (hb3.mono B2.out.size)
  have A3 : Hid (Below w.heap.size w w3) := A2.out.trans (hb3.mono A2.out.size)
  obtain ⟨c0, c1, c2⟩ := HCC.out _ B3.out
  clear hb3 hdec O12 O2
  go_wp2_with fail
  refine (CD.out _ A3.out).mono ?_
  rintro e w4 ⟨d4, rfl, hb4, _, ho4⟩
  have B4 : Hid (Below w0.heap.size w0 w4) := B3.out.trans (hb4.mono B3.out.size)
  have A4 : Hid (Below w.heap.size w w4) := A3.out.trans (hb4.mono A3.out.size)
  have O4 : Hid (Owns .i64 3 w4 d4 q.2) := ho4
  clear hb4 ho4 c0 c1 c2
  obtain ⟨c0, c1, c2⟩ := HCC.out _ B4.out
  go_wp2_with fail
  refine (CR.out _ A4.out).mono ?_
  rintro e w5 ⟨d5, rfl, hb5, _, ho5⟩
  have A5 : Hid (Below w.heap.size w w5) := A4.out.trans (hb5.mono A4.out.size)
  have O5 : Hid (Owns .i64 3 w5 d5 q.2) := ho5
  have O45 : Hid (Owns .i64 3 w5 d4 q.2) := O4.out.below hb5
  clear hb5 ho5 c0 c1 c2 O4
  go_wp2_with fail
  refine (numbers_rdF _ _ q.2 q.2 w5 O45.out.rd O5.out.rd).mono ?_
  rintro e w6 ⟨rfl, hb6⟩
  have hdec : decide (q.2 = q.2) = true := by simp
  rw [hdec]
  have A6 : Hid (Below w.heap.size w w6) := A5.out.trans (hb6.mono A5.out.size)
  obtain ⟨x, hx⟩ : ∃ x, Hid (r.1 = x) := ⟨_, rfl⟩
  obtain ⟨y, hyy⟩ : ∃ x, Hid (q.1 = x) := ⟨_, rfl⟩
  rw [hx.out, hyy.out]
  have hxx : (x == x) = true := by simp
  have hyy2 : (y == y) = true := by simp
  clear hb6 hdec O45 O5
  go_wp2_with fail
  refine (lives_anyF _).mono ?_
  rintro e w9 ⟨rfl, hb9⟩
  go_wp2_with fail
  go_ret
  exact ⟨rfl, A6.out.trans (hb9.mono A6.out.size)⟩
end Go.Proofs.Ytcmnhgefeffcpaa
