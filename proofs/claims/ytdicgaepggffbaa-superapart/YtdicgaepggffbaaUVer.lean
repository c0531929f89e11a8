/-
  A version laid into a sector, and read from there.
-/
import Derived.Test.YtdicgaepggffbaaFrOf
import Derived.Test.YtdicgaepggffbaaUMay
namespace Go.Proofs.Ytdicgaepggffbaa
open Go.RowKit Pl
set_option linter.unusedVariables false
set_option linter.unusedSimpArgs false
set_option maxRecDepth 100000

/-- A version's numbers. -/
structure VnOk (x : Vn) : Prop where
  i0 : 0 ≤ x.id
  i1 : x.id ≤ 4294967295
  r0 : 0 ≤ x.root
  r1 : x.root ≤ 4294967295
  n0 : 0 ≤ x.nx
  n1 : x.nx ≤ 4294967295
def verv (x : Vn) : Value := .agg #[.int .i64 x.id, .int .i64 x.root, .int .i64 x.nx, .bool x.fx]

set_option maxHeartbeats 400000 in
theorem setVersion_any (g at_ : Nat) (x : Vn) (xs : List Int) (w : World) (h : Fu w g xs) (hx : VnOk x) (ha : at_ + 11 ≤ 252) (hz : xs.getD (at_ + 10) 0 = 0) :
    Calls Try.prog 55 #[.pointer (some ⟨g, 0, none⟩), .int .i64 (at_ : Int), verv x] w fun e w' => e = .returned (.tuple #[]) ∧ Fu w' g (splice xs at_ (vby x)) ∧ Tch (fun j => j = g) w w' := by
  obtain ⟨i, r, n, f⟩ := x
  obtain ⟨i0, i1, r0, r1, n0, n1⟩ := hx
  dsimp only at i0 i1 r0 r1 n0 n1
  obtain ⟨I, rfl⟩ : ∃ I : Nat, i = (I : Int) := ⟨i.toNat, by omega⟩
  obtain ⟨R, rfl⟩ : ∃ I : Nat, r = (I : Int) := ⟨r.toNat, by omega⟩
  obtain ⟨N, rfl⟩ : ∃ I : Nat, n = (I : Int) := ⟨n.toNat, by omega⟩
  have hgl : g < w.heap.size := h.lt
  have HL : Hid (xs.length = 256) := h.2.1
  obtain ⟨W1, hW1⟩ : ∃ W1, w.alloc (.cells #[.int .i64 (I : Int), .int .i64 (R : Int), .int .i64 (N : Int), .bool f] 66) = W1 := ⟨_, rfl⟩
  have b1 : Below w.heap.size w W1 := by rw [← hW1]; exact (Below.refl _ _).alloc (Nat.le_refl _) _
  have F1 : Hid (Fu W1 g xs) := h.below b1
  have T1 : Hid (Tch (fun j => j = g) w W1) := Tch.of_below b1
  have V1 : Hid (Vv W1 w.heap.size ⟨(I : Int), (R : Int), (N : Int), f⟩) := by rw [← hW1]; exact vv_new w ⟨(I : Int), (R : Int), (N : Int), f⟩
  have HZ : Hid (xs.getD (at_ + 10) 0 = 0) := hz
  have c0 := V1.out.cells.c0
  have hne : Hid (w.heap.size ≠ g) := by show _ ≠ _; omega
  obtain ⟨q, hq⟩ : ∃ q, w.heap.size = q := ⟨_, rfl⟩
  have HQ : Hid (w.heap.size = q) := hq
  rw [hq] at V1 c0 hne
  obtain ⟨p4, h4⟩ : ∃ p, at_ + 4 = p := ⟨_, rfl⟩
  obtain ⟨p6, h6⟩ : ∃ p, at_ + 6 = p := ⟨_, rfl⟩
  obtain ⟨p10, h10⟩ : ∃ p, at_ + 10 = p := ⟨_, rfl⟩
  have H4 : Hid (at_ + 4 = p4) := h4
  have H6 : Hid (at_ + 6 = p6) := h6
  have H10 : Hid (at_ + 10 = p10) := h10
  have a4 : (at_ : Int) + 4 = (p4 : Int) := by omega
  have a6 : (at_ : Int) + 6 = (p6 : Int) := by omega
  have a10 : (at_ : Int) + 10 = (p10 : Int) := by omega
  have l10 : (p10 : Int) < 256 := by omega
  have l6 : (p6 : Int) < 256 := by omega
  have l4 : (p4 : Int) < 256 := by omega
  clear h4 h6 h10
  dsimp only at c0
  clear h hz b1
  unfold verv
  dsimp only
  go_enter Try.func55, Try.ntmps55
  go_wp2_with fail
  refine (setU_any g at_ 4 I xs W1 F1.out (by omega) (by omega) (by omega)).mono ?_
  rintro e w2 ⟨rfl, f2, t2⟩
  have F2 : Hid (Fu w2 g (splice xs at_ (leN 4 (I : Int)))) := f2
  have T2 : Hid (Tch (fun j => j = g) w w2) := T1.out.trans t2 (fun _ _ e => e)
  have V2 : Hid (Vv w2 q ⟨(I : Int), (R : Int), (N : Int), f⟩) := by
    have hb := t2.block q (Array.getElem?_eq_some_iff.1 V1.out).1 hne.out
    show _ = _
    rw [hb]
    exact V1.out
  have c1 := V2.out.cells.c1
  dsimp only at c1
  clear f2 t2 c0 hW1 F1 T1 V1
  go_wp2_with fail
  refine (setU_any g p4 2 R _ w2 F2.out (by omega) (by omega) (by have := H4.out; omega)).mono ?_
  rintro e w3 ⟨rfl, f3, t3⟩
  rw [splice_next (by rw [leN_len, H4.out]) (by rw [leN_len, HL.out]; have := H4.out; omega)] at f3
  have F3 : Hid (Fu w3 g (splice xs at_ (leN 4 (I : Int) ++ leN 2 (R : Int)))) := f3
  have T3 : Hid (Tch (fun j => j = g) w w3) := T2.out.trans t3 (fun _ _ e => e)
  have V3 : Hid (Vv w3 q ⟨(I : Int), (R : Int), (N : Int), f⟩) := by
    have hb := t3.block q (Array.getElem?_eq_some_iff.1 V2.out).1 hne.out
    show _ = _
    rw [hb]
    exact V2.out
  have c2 := V3.out.cells.c2
  dsimp only at c2
  clear f3 t3 c1 F2 T2 V2
  go_wp2_with fail
  refine (setU_any g p6 4 N _ w3 F3.out (by omega) (by omega) (by have := H6.out; omega)).mono ?_
  rintro e w4 ⟨rfl, f4, t4⟩
  rw [splice_next (by rw [List.length_append, leN_len, leN_len, ← H6.out]) (by rw [leN_len, HL.out]; have := H6.out; omega)] at f4
  have F4 : Hid (Fu w4 g (splice xs at_ ((leN 4 (I : Int) ++ leN 2 (R : Int)) ++ leN 4 (N : Int)))) := f4
  have T4 : Hid (Tch (fun j => j = g) w w4) := T3.out.trans t4 (fun _ _ e => e)
  have V4 : Hid (Vv w4 q ⟨(I : Int), (R : Int), (N : Int), f⟩) := by
    have hb := t4.block q (Array.getElem?_eq_some_iff.1 V3.out).1 hne.out
    show _ = _
    rw [hb]
    exact V3.out
  have c3 := V4.out.cells.c3
  dsimp only at c3
  clear f4 t4 c2 F3 T3 V3
  have hlen : Hid (((leN 4 (I : Int) ++ leN 2 (R : Int)) ++ leN 4 (N : Int)).length = 10) := by show _ = _; simp [leN_len]
  cases f with
  | false =>
    have F5 : Hid (Fu w4 g (splice xs at_ (vby ⟨(I : Int), (R : Int), (N : Int), false⟩))) := by
      have e : vby ⟨(I : Int), (R : Int), (N : Int), false⟩ = ((leN 4 (I : Int) ++ leN 2 (R : Int)) ++ leN 4 (N : Int)) ++ [0] := by simp [vby]
      rw [e, splice_same (b := at_ + 10) (by rw [hlen.out]) (by rw [HL.out]; omega) HZ.out]
      exact F4
    clear F4
    go_wp2_with fail
    go_end0
    exact ⟨rfl, F5.out, T4.out⟩
  | true =>
    go_wp2_with fail
    refine (setU_any g p10 1 1 _ w4 F4.out (by omega) (by omega) (by have := H10.out; omega)).mono ?_
    rintro e w5 ⟨rfl, f5, t5⟩
    rw [splice_next (by rw [hlen.out, H10.out]) (by rw [leN_len, HL.out]; have := H10.out; omega)] at f5
    have F5 : Hid (Fu w5 g (splice xs at_ (vby ⟨(I : Int), (R : Int), (N : Int), true⟩))) := by
      have e : vby ⟨(I : Int), (R : Int), (N : Int), true⟩ = ((leN 4 (I : Int) ++ leN 2 (R : Int)) ++ leN 4 (N : Int)) ++ leN 1 ((1 : Nat) : Int) := by simp [vby, leN]
      rw [e]
      exact f5
    have T5 : Hid (Tch (fun j => j = g) w w5) := T4.out.trans t5 (fun _ _ e => e)
    clear F4 f5 t5
    go_wp2_with fail
    go_end0
    exact ⟨rfl, F5.out, T5.out⟩

theorem inf_ver : (Try.prog.info? 66).map (·.size) = some 4 := by kernel_rfl
theorem Vv.range {w : World} {b : Nat} {x : Vn} (h : Vv w b x) : w.rangeAt b 0 [.int .i64 x.id, .int .i64 x.root, .int .i64 x.nx, .bool x.fx] := fun j u hu => by
  rw [Nat.zero_add, cell_of_row w b j _ _ (0, 0) h, List.getElem?_toArray]
  exact hu
theorem Vv.load {w : World} {b : Nat} {x : Vn} (h : Vv w b x) : (loadVar 66 ⟨b, 0, none⟩).run Try.prog w = .ok (verv x) w :=
  run_loadVar_mid (P := Try.prog) w b 0 66 [.int .i64 x.id, .int .i64 x.root, .int .i64 x.nx, .bool x.fx] _ h.range Try.underlying66 rfl inf_ver
theorem Vv.lt {w : World} {b : Nat} {x : Vn} (h : Vv w b x) : b < w.heap.size := (Array.getElem?_eq_some_iff.1 h).1
theorem Vv.tch {S : Nat → Prop} {w w' : World} {b : Nat} {x : Vn} (h : Vv w b x) (ht : Tch S w w') (hb : ¬ S b) : Vv w' b x := by unfold Vv; rw [ht.block b h.lt hb]; exact h
theorem Vv.below {w w' : World} {b : Nat} {x : Vn} (h : Vv w b x) (hb : Below w.heap.size w w') : Vv w' b x := h.tch (S := fun _ => False) (Tch.of_below hb) (fun e => e)
theorem Vv.fz {w : World} {b : Nat} {x : Vn} (h : Vv w b x) (i : Nat) : w.frozen? ⟨b, i, none⟩ = false := frozen_of_row w b i _ _ h
theorem Vv.put {w : World} {b : Nat} {x : Vn} (h : Vv w b x) (y : Vn) : Vv ((((w.setCell ⟨b, 0, none⟩ (.int .i64 y.id)).setCell ⟨b, 1, none⟩ (.int .i64 y.root)).setCell ⟨b, 2, none⟩ (.int .i64 y.nx)).setCell ⟨b, 3, none⟩ (.bool y.fx)) b y := by
  have h1 := heap_setCell_same w b 0 _ _ (.int .i64 y.id) h
  have h2 := heap_setCell_same _ b 1 _ _ (.int .i64 y.root) h1
  have h3 := heap_setCell_same _ b 2 _ _ (.int .i64 y.nx) h2
  exact heap_setCell_same _ b 3 _ _ (.bool y.fx) h3

def vn0 : Vn := ⟨0, 0, 0, false⟩
set_option maxHeartbeats 400000 in
theorem version_any (g at_ : Nat) (xs : List Int) (w : World) (h : Fu w g xs) (ha : at_ + 11 ≤ 256) :
    Calls Try.prog 59 #[.pointer (some ⟨g, 0, none⟩), .int .i64 (at_ : Int)] w fun e w' => e = .returned (verv (rdVn (fun x => x != 0) xs at_)) ∧ Below w.heap.size w w' := by
  have HL : Hid (xs.length = 256) := h.2.1
  have HBY : Hid (By xs) := h.2.2
  obtain ⟨W1, hW1⟩ : ∃ W1, w.alloc (.cells #[.int .i64 0, .int .i64 0, .int .i64 0, .bool false] 66) = W1 := ⟨_, rfl⟩
  have b1 : Below w.heap.size w W1 := by rw [← hW1]; exact (Below.refl _ _).alloc (Nat.le_refl _) _
  have F1 : Hid (Fu W1 g xs) := h.below b1
  have B1 : Hid (Below w.heap.size w W1) := b1
  have V1 : Hid (Vv W1 w.heap.size vn0) := by rw [← hW1]; exact vv_new w vn0
  obtain ⟨q, hq⟩ : ∃ q, w.heap.size = q := ⟨_, rfl⟩
  have HQ : Hid (w.heap.size = q) := hq
  rw [hq] at V1 B1
  obtain ⟨p4, h4⟩ : ∃ p, at_ + 4 = p := ⟨_, rfl⟩
  obtain ⟨p6, h6⟩ : ∃ p, at_ + 6 = p := ⟨_, rfl⟩
  obtain ⟨p10, h10⟩ : ∃ p, at_ + 10 = p := ⟨_, rfl⟩
  have H4 : Hid (at_ + 4 = p4) := h4
  have H6 : Hid (at_ + 6 = p6) := h6
  have H10 : Hid (at_ + 10 = p10) := h10
  have a4 : (at_ : Int) + 4 = (p4 : Int) := by omega
  have a6 : (at_ : Int) + 6 = (p6 : Int) := by omega
  have a10 : (at_ : Int) + 10 = (p10 : Int) := by omega
  have l10 : (p10 : Int) < 256 := by omega
  have l6 : (p6 : Int) < 256 := by omega
  have l4 : (p4 : Int) < 256 := by omega
  clear h4 h6 h10
  clear h b1
  go_enter Try.func59, Try.ntmps59
  go_wp2_with fail
  refine (numberU_any g at_ 4 xs W1 F1.out (by omega) (by omega)).mono ?_
  rintro e w2 ⟨rfl, b2⟩
  have F2 : Hid (Fu w2 g xs) := F1.out.below b2
  have V2 : Hid (Vv w2 q vn0) := V1.out.below b2
  have B2 : Hid (Below q w w2) := B1.out.trans (b2.mono (by have := V1.out.lt; omega))
  clear b2 F1 V1 B1 hW1
  go_wp2_with fail
  refine (numberU_any g p4 2 xs w2 F2.out (by omega) (by have := H4.out; omega)).mono ?_
  rintro e w3 ⟨rfl, b3⟩
  have F3 : Hid (Fu w3 g xs) := F2.out.below b3
  have V3 : Hid (Vv w3 q vn0) := V2.out.below b3
  have B3 : Hid (Below q w w3) := B2.out.trans (b3.mono (by have := V2.out.lt; omega))
  clear b3 F2 V2 B2
  go_wp2_with fail
  refine (numberU_any g p6 4 xs w3 F3.out (by omega) (by have := H6.out; omega)).mono ?_
  rintro e w4 ⟨rfl, b4⟩
  have F4 : Hid (Fu w4 g xs) := F3.out.below b4
  have V4 : Hid (Vv w4 q vn0) := V3.out.below b4
  have B4 : Hid (Below q w w4) := B3.out.trans (b4.mono (by have := V3.out.lt; omega))
  clear b4 F3 V3 B3
  go_wp2_with fail
  refine (numberU_any g p10 1 xs w4 F4.out (by omega) (by have := H10.out; omega)).mono ?_
  rintro e w5 ⟨rfl, b5⟩
  have V5 : Hid (Vv w5 q vn0) := V4.out.below b5
  have B5 : Hid (Below q w w5) := B4.out.trans (b5.mono (by have := V4.out.lt; omega))
  clear b5 V4 B4
  have e1 : vN (sl xs p10 1) = xs.getD p10 0 := by
    rw [sl_succ (by rw [HL.out]; omega)]
    simp [sl, vN]
  rw [e1]
  have HR : Hid (rdVn (fun x => x != 0) xs at_ = ⟨vN (sl xs at_ 4), vN (sl xs p4 2), vN (sl xs p6 4), xs.getD p10 0 != 0⟩) := by rw [← H4.out, ← H6.out, ← H10.out]; exact rfl
  generalize vN (sl xs at_ 4) = n1 at *
  generalize vN (sl xs p4 2) = n2 at *
  generalize vN (sl xs p6 4) = n3 at *
  generalize xs.getD p10 0 = n4 at *
  have c0 := V5.out.cells.c0
  have c1 := V5.out.cells.c1
  have c2 := V5.out.cells.c2
  have c3 := V5.out.cells.c3
  have f0 := V5.out.fz 0
  have f1 := V5.out.fz 1
  have f2 := V5.out.fz 2
  have f3 := V5.out.fz 3
  have HP : Hid (∀ f, Vv ((((w5.setCell ⟨q, 0, none⟩ (.int .i64 n1)).setCell ⟨q, 1, none⟩ (.int .i64 n2)).setCell ⟨q, 2, none⟩ (.int .i64 n3)).setCell ⟨q, 3, none⟩ (.bool f)) q ⟨n1, n2, n3, f⟩) := fun f => V5.out.put ⟨n1, n2, n3, f⟩
  have HBE : Hid (∀ f, Below q w ((((w5.setCell ⟨q, 0, none⟩ (.int .i64 n1)).setCell ⟨q, 1, none⟩ (.int .i64 n2)).setCell ⟨q, 2, none⟩ (.int .i64 n3)).setCell ⟨q, 3, none⟩ (.bool f))) := fun f => (((B5.out.setCell (Nat.le_refl _) _).setCell (Nat.le_refl _) _).setCell (Nat.le_refl _) _).setCell (Nat.le_refl _) _
  clear e1 F4
  go_wp2_with fail
  refine bodyPost_ret (v := verv ⟨n1, n2, n3, n4 != 0⟩) (results_atU (p := 4) (ty := 66) rfl _ _ _ q _ rfl (HP.out (n4 != 0)).load) rfl ?_
  exact ⟨by rw [HR.out], by rw [HQ.out]; exact HBE.out (n4 != 0)⟩
end Go.Proofs.Ytdicgaepggffbaa
