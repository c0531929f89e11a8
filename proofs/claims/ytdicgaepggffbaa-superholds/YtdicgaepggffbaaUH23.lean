import Derived.Test.YtdicgaepggffbaaUH21
import Derived.Test.YtdicgaepggffbaaUH22
import Derived.Laws.StructEq
import Derived.ChangeKeysEq
import Derived.Deep.QuietTactic
/-
  A version laid into a sector, and read from there.
-/
namespace Go.Proofs.Ytdicgaepggffbaa
open Go.RowKit Pl
set_option linter.unusedVariables false
set_option linter.unusedSimpArgs false
set_option maxRecDepth 100000

/-- A version's numbers. -/
structure VnOk (x : Vn) : Prop where
  i0 : 0 ≤ x.id
  i1 : x.id ≤ 4294967295
  r0 : 0 ≤ x.root
  r1 : x.root ≤ 4294967295
  n0 : 0 ≤ x.nx
  n1 : x.nx ≤ 4294967295
def verv (x : Vn) : Value := .agg #[.int .i64 x.id, .int .i64 x.root, .int .i64 x.nx, .bool x.fx]

set_option maxHeartbeats 400000 in
theorem setVersion_any (g at_ : Nat) (x : Vn) (xs : List Int) (w : World) (h : Fu w g xs) (hx : VnOk x) (ha : at_ + 11 ≤ 252) (hz : xs.getD (at_ + 10) 0 = 0) :
    Calls Try.prog 55 #[.pointer (some ⟨g, 0, none⟩), .int .i64 (at_ : Int), verv x] w fun e w' => e = .returned (.tuple #[]) ∧ Fu w' g (splice xs at_ (vby x)) ∧ Tch (fun j => j = g) w w' := by
  obtain ⟨i, r, n, f⟩ := x
  obtain ⟨i0, i1, r0, r1, n0, n1⟩ := hx
  dsimp only at i0 i1 r0 r1 n0 n1
  obtain ⟨I, rfl⟩ : ∃ I : Nat, i = (I : Int) := ⟨i.toNat, by omega⟩
  obtain ⟨R, rfl⟩ : ∃ I : Nat, r = (I : Int) := ⟨r.toNat, by omega⟩
  obtain ⟨N, rfl⟩ : ∃ I : Nat, n = (I : Int) := ⟨n.toNat, by omega⟩
  have hgl : g < w.heap.size := h.lt
  have HL : Hid (xs.length = 256) := h.2.1
  obtain ⟨W1, hW1⟩ : ∃ W1, w.alloc (.cells #[.int .i64 (I : Int), .int .i64 (R : Int), .int .i64 (N : Int), .bool f] 66) = W1 := ⟨_, rfl⟩
  have b1 : Below w.heap.size w W1 := by rw [← hW1]; exact (Below.refl _ _).alloc (Nat.le_refl _) _
  have F1 : Hid (Fu W1 g xs) := h.below b1
  have T1 : Hid (Tch (fun j => j = g) w W1) := Tch.of_below b1
  have V1 : Hid (Vv W1 w.heap.size ⟨(I : Int), (R : Int), (N : Int), f⟩) := by rw [← hW1]; exact vv_new w ⟨(I : Int), (R : Int), (N : Int), f⟩
  have HZ : Hid (xs.getD (at_ + 10) 0 = 0) := hz
  have c0 := V1.out.cells.c0
  have hne : Hid (w.heap.size ≠ g) := by show _ ≠ _; omega
  obtain ⟨q, hq⟩ : ∃ q, w.heap.size = q := ⟨_, rfl⟩
  have HQ : Hid (w.heap.size = q) := hq
  rw [hq] at V1 c0 hne
  obtain ⟨p4, h4⟩ : ∃ p, at_ + 4 = p := ⟨_, rfl⟩
  obtain ⟨p6, h6⟩ : ∃ p, at_ + 6 = p := ⟨_, rfl⟩
  obtain ⟨p10, h10⟩ : ∃ p, at_ + 10 = p := ⟨_, rfl⟩
  have H4 : Hid (at_ + 4 = p4) := h4
  have H6 : Hid (at_ + 6 = p6) := h6
  have H10 : Hid (at_ + 10 = p10) := h10
  have a4 : (at_ : Int) + 4 = (p4 : Int) := by omega
  have a6 : (at_ : Int) + 6 = (p6 : Int) := by omega
  have a10 : (at_ : Int) + 10 = (p10 : Int) := by omega
  have l10 : (p10 : Int) < 256 := by omega
  have l6 : (p6 : Int) < 256 := by omega
  have l4 : (p4 : Int) < 256 := by omega
  clear h4 h6 h10
  dsimp only at c0
  clear h hz b1
  unfold verv
  dsimp only
  go_enter Try.func55, Try.ntmps55
  go_wp2_with fail
  refine (setU_any g at_ 4 I xs W1 F1.out (by omega) (by omega) (by omega)).mono ?_
  rintro e w2 ⟨rfl, f2, t2⟩
  have F2 : Hid (Fu w2 g (splice xs at_ (leN 4 (I : Int)))) := f2
  have T2 : Hid (Tch (fun j => j = g) w w2) := T1.out.trans t2 (fun _ _ e => e)
  have V2 : Hid (Vv w2 q ⟨(I : Int), (R : Int), (N : Int), f⟩) := by
    have hb := t2.block q (Array.getElem?_eq_some_iff.1 V1.out).1 hne.out
    show _ = _
    rw [hb]
    exact V1.out
  have c1 := V2.out.cells.c1
  dsimp only at c1
  clear f2 t2 c0 hW1 F1 T1 V1
  go_wp2_with fail
  refine (setU_any g p4 2 R _ w2 F2.out (by omega) (by omega) (by have := H4.out; omega)).mono ?_
  rintro e w3 ⟨rfl, f3, t3⟩
  rw [splice_next (by rw [leN_len, H4.out]) (by rw [leN_len, HL.out]; have := H4.out; omega)] at f3
  have F3 : Hid (Fu w3 g (splice xs at_ (leN 4 (I : Int) ++ leN 2 (R : Int)))) := f3
  have T3 : Hid (Tch (fun j => j = g) w w3) := T2.out.trans t3 (fun _ _ e => e)
  have V3 : Hid (Vv w3 q ⟨(I : Int), (R : Int), (N : Int), f⟩) := by
    have hb := t3.block q (Array.getElem?_eq_some_iff.1 V2.out).1 hne.out
    show _ = _
    rw [hb]
    exact V2.out
  have c2 := V3.out.cells.c2
  dsimp only at c2
  clear f3 t3 c1 F2 T2 V2
  go_wp2_with fail
  refine (setU_any g p6 4 N _ w3 F3.out (by omega) (by omega) (by have := H6.out; omega)).mono ?_
  rintro e w4 ⟨rfl, f4, t4⟩
  rw [splice_next (by rw [List.length_append, leN_len, leN_len, ← H6.out]) (by rw [leN_len, HL.out]; have := H6.out; omega)] at f4
  have F4 : Hid (Fu w4 g (splice xs at_ ((leN 4 (I : Int) ++ leN 2 (R : Int)) ++ leN 4 (N : Int)))) := f4
  have T4 : Hid (Tch (fun j => j = g) w w4) := T3.out.trans t4 (fun _ _ e => e)
  have V4 : Hid (Vv w4 q ⟨(I : Int), (R : Int), (N : Int), f⟩) := by
    have hb := t4.block q (Array.getElem?_eq_some_iff.1 V3.out).1 hne.out
    show _ = _
    rw [hb]
    exact V3.out
  have c3 := V4.out.cells.c3
  dsimp only at c3
  clear f4 t4 c2 F3 T3 V3
  have hlen : Hid (((leN 4 (I : Int) ++ leN 2 (R : Int)) ++ leN 4 (N : Int)).length = 10) := by show _ = _; simp [leN_len]
  cases f with
  | false =>
    have F5 : Hid (Fu w4 g (splice xs at_ (vby ⟨(I : Int), (R : Int), (N : Int), false⟩))) := by
      have e : vby ⟨(I : Int), (R : Int), (N : Int), false⟩ = ((leN 4 (I : Int) ++ leN 2 (R : Int)) ++ leN 4 (N : Int)) ++ [0] := by simp [vby]
      rw [e, splice_same (b := at_ + 10) (by rw [hlen.out]) (by rw [HL.out]; omega) HZ.out]
      exact F4
    clear F4
    go_wp2_with fail
    go_end0
    exact ⟨rfl, F5.out, T4.out⟩
  | true =>
    go_wp2_with fail
    refine (setU_any g p10 1 1 _ w4 F4.out (by omega) (by omega) (by have := H10.out; omega)).mono ?_
    rintro e w5 ⟨rfl, f5, t5⟩
    rw [splice_next (by rw [hlen.out, H10.out]) (by rw [leN_len, HL.out]; have := H10.out; omega)] at f5
    have F5 : Hid (Fu w5 g (splice xs at_ (vby ⟨(I : Int), (R : Int), (N : Int), true⟩))) := by
      have e : vby ⟨(I : Int), (R : Int), (N : Int), true⟩ = ((leN 4 (I : Int) ++ leN 2 (R : Int)) ++ leN 4 (N : Int)) ++ leN 1 ((1 : Nat) : Int) := by simp [vby, leN]
      rw [e]
      exact f5
    have T5 : Hid (Tch (fun j => j = g) w w5) := T4.out.trans t5 (fun _ _ e => e)
    clear F4 f5 t5
    go_wp2_with fail
    go_end0
    exact ⟨rfl, F5.out, T5.out⟩

theorem inf_ver : (Try.prog.info? 66).map (·.size) = some 4 := by kernel_rfl
theorem Vv.range {w : World} {b : Nat} {x : Vn} (h : Vv w b x) : w.rangeAt b 0 [.int .i64 x.id, .int .i64 x.root, .int .i64 x.nx, .bool x.fx] := fun j u hu => by
  rw [Nat.zero_add, cell_of_row w b j _ _ (0, 0) h, List.getElem?_toArray]
  exact hu
theorem Vv.load {w : World} {b : Nat} {x : Vn} (h : Vv w b x) : (loadVar 66 ⟨b, 0, none⟩).run Try.prog w = .ok (verv x) w :=
  run_loadVar_mid (P := Try.prog) w b 0 66 [.int .i64 x.id, .int .i64 x.root, .int .i64 x.nx, .bool x.fx] _ h.range Try.underlying66 rfl inf_ver
theorem Vv.lt {w : World} {b : Nat} {x : Vn} (h : Vv w b x) : b < w.heap.size := (Array.getElem?_eq_some_iff.1 h).1
theorem Vv.tch {S : Nat → Prop} {w w' : World} {b : Nat} {x : Vn} (h : Vv w b x) (ht : Tch S w w') (hb : ¬ S b) : Vv w' b x := by unfold Vv; rw [ht.block b h.lt hb]; exact h
theorem Vv.below {w w' : World} {b : Nat} {x : Vn} (h : Vv w b x) (hb : Below w.heap.size w w') : Vv w' b x := h.tch (S := fun _ => False) (Tch.of_below hb) (fun e => e)
theorem Vv.fz {w : World} {b : Nat} {x : Vn} (h : Vv w b x) (i : Nat) : w.frozen? ⟨b, i, none⟩ = false := frozen_of_row w b i _ _ h
theorem Vv.put {w : World} {b : Nat} {x : Vn} (h : Vv w b x) (y : Vn) : Vv ((((w.setCell ⟨b, 0, none⟩ (.int .i64 y.id)).setCell ⟨b, 1, none⟩ (.int .i64 y.root)).setCell ⟨b, 2, none⟩ (.int .i64 y.nx)).setCell ⟨b, 3, none⟩ (.bool y.fx)) b y := by
  have h1 := heap_setCell_same w b 0 _ _ (.int .i64 y.id) h
  have h2 := heap_setCell_same _ b 1 _ _ (.int .i64 y.root) h1
  have h3 := heap_setCell_same _ b 2 _ _ (.int .i64 y.nx) h2
  exact heap_setCell_same _ b 3 _ _ (.bool y.fx) h3

def vn0 : Vn := ⟨0, 0, 0, false⟩
set_option maxHeartbeats 400000 in
theorem version_any (g at_ : Nat) (xs : List Int) (w : World) (h : Fu w g xs) (ha : at_ + 11 ≤ 256) :
    Calls Try.prog 59 #[.pointer (some ⟨g, 0, none⟩), .int .i64 (at_ : Int)] w fun e w' => e = .returned (verv (rdVn (fun x => x != 0) xs at_)) ∧ Below w.heap.size w w' := by
  have HL : Hid (xs.length = 256) := h.2.1
  have HBY : Hid (By xs) := h.2.2
  obtain ⟨W1, hW1⟩ : ∃ W1, w.alloc (.cells #[.int .i64 0, .int .i64 0, .int .i64 0, .bool false] 66) = W1 := ⟨_, rfl⟩
  have b1 : Below w.heap.size w W1 := by rw [← hW1]; exact (Below.refl _ _).alloc (Nat.le_refl _) _
  have F1 : Hid (Fu W1 g xs) := h.below b1
  have B1 : Hid (Below w.heap.size w W1) := b1
  have V1 : Hid (Vv W1 w.heap.size vn0) := by rw [← hW1]; exact vv_new w vn0
  obtain ⟨q, hq⟩ : ∃ q, w.heap.size = q := ⟨_, rfl⟩
  have HQ : Hid (w.heap.size = q) := hq
  rw [hq] at V1 B1
  obtain ⟨p4, h4⟩ : ∃ p, at_ + 4 = p := ⟨_, rfl⟩
  obtain ⟨p6, h6⟩ : ∃ p, at_ + 6 = p := ⟨_, rfl⟩
  obtain ⟨p10, h10⟩ : ∃ p, at_ + 10 = p := ⟨_, rfl⟩
  have H4 : Hid (at_ + 4 = p4) := h4
  have H6 : Hid (at_ + 6 = p6) := h6
  have H10 : Hid (at_ + 10 = p10) := h10
  have a4 : (at_ : Int) + 4 = (p4 : Int) := by omega
  have a6 : (at_ : Int) + 6 = (p6 : Int) := by omega
  have a10 : (at_ : Int) + 10 = (p10 : Int) := by omega
  have l10 : (p10 : Int) < 256 := by omega
  have l6 : (p6 : Int) < 256 := by omega
  have l4 : (p4 : Int) < 256 := by omega
  clear h4 h6 h10
  clear h b1
  go_enter Try.func59, Try.ntmps59
  go_wp2_with fail
  refine (numberU_any g at_ 4 xs W1 F1.out (by omega) (by omega)).mono ?_
  rintro e w2 ⟨rfl, b2⟩
  have F2 : Hid (Fu w2 g xs) := F1.out.below b2
  have V2 : Hid (Vv w2 q vn0) := V1.out.below b2
  have B2 : Hid (Below q w w2) := B1.out.trans (b2.mono (by have := V1.out.lt; omega))
  clear b2 F1 V1 B1 hW1
  go_wp2_with fail
  refine (numberU_any g p4 2 xs w2 F2.out (by omega) (by have := H4.out; omega)).mono ?_
  rintro e w3 ⟨rfl, b3⟩
  have F3 : Hid (Fu w3 g xs) := F2.out.below b3
  have V3 : Hid (Vv w3 q vn0) := V2.out.below b3
  have B3 : Hid (Below q w w3) := B2.out.trans (b3.mono (by have := V2.out.lt; omega))
  clear b3 F2 V2 B2
  go_wp2_with fail
  refine (numberU_any g p6 4 xs w3 F3.out (by omega) (by have := H6.out; omega)).mono ?_
  rintro e w4 ⟨rfl, b4⟩
  have F4 : Hid (Fu w4 g xs) := F3.out.below b4
  have V4 : Hid (Vv w4 q vn0) := V3.out.below b4
  have B4 : Hid (Below q w w4) := B3.out.trans (b4.mono (by have := V3.out.lt; omega))
  clear b4 F3 V3 B3
  go_wp2_with fail
  refine (numberU_any g p10 1 xs w4 F4.out (by omega) (by have := H10.out; omega)).mono ?_
  rintro e w5 ⟨rfl, b5⟩
  have V5 : Hid (Vv w5 q vn0) := V4.out.below b5
  have B5 : Hid (Below q w w5) := B4.out.trans (b5.mono (by have := V4.out.lt; omega))
  clear b5 V4 B4
  have e1 : vN (sl xs p10 1) = xs.getD p10 0 := by
    rw [sl_succ (by rw [HL.out]; omega)]
    simp [sl, vN]
  rw [e1]
  have HR : Hid (rdVn (fun x => x != 0) xs at_ = ⟨vN (sl xs at_ 4), vN (sl xs p4 2), vN (sl xs p6 4), xs.getD p10 0 != 0⟩) := by rw [← H4.out, ← H6.out, ← H10.out]; exact rfl
  generalize vN (sl xs at_ 4) = n1 at *
  generalize vN (sl xs p4 2) = n2 at *
  generalize vN (sl xs p6 4) = n3 at *
  generalize xs.getD p10 0 = n4 at *
  have c0 := V5.out.cells.c0
  have c1 := V5.out.cells.c1
  have c2 := V5.out.cells.c2
  have c3 := V5.out.cells.c3
  have f0 := V5.out.fz 0
  have f1 := V5.out.fz 1
  have f2 := V5.out.fz 2
  have f3 := V5.out.fz 3
  have HP : Hid (∀ f, Vv ((((w5.setCell ⟨q, 0, none⟩ (.int .i64 n1)).setCell ⟨q, 1, none⟩ (.int .i64 n2)).setCell ⟨q, 2, none⟩ (.int .i64 n3)).setCell ⟨q, 3, none⟩ (.bool f)) q ⟨n1, n2, n3, f⟩) := fun f => V5.out.put ⟨n1, n2, n3, f⟩
  have HBE : Hid (∀ f, Below q w ((((w5.setCell ⟨q, 0, none⟩ (.int .i64 n1)).setCell ⟨q, 1, none⟩ (.int .i64 n2)).setCell ⟨q, 2, none⟩ (.int .i64 n3)).setCell ⟨q, 3, none⟩ (.bool f))) := fun f => (((B5.out.setCell (Nat.le_refl _) _).setCell (Nat.le_refl _) _).setCell (Nat.le_refl _) _).setCell (Nat.le_refl _) _
  clear e1 F4
  go_wp2_with fail
  refine bodyPost_ret (v := verv ⟨n1, n2, n3, n4 != 0⟩) (results_atU (p := 4) (ty := 66) rfl _ _ _ q _ rfl (HP.out (n4 != 0)).load) rfl ?_
  exact ⟨by rw [HR.out], by rw [HQ.out]; exact HBE.out (n4 != 0)⟩
end Go.Proofs.Ytdicgaepggffbaa
/-
  What a sector says, be it so or not: the program's.
-/
namespace Go.Proofs.Ytdicgaepggffbaa
open Go.RowKit Pl
set_option linter.unusedVariables false
set_option linter.unusedSimpArgs false
set_option maxRecDepth 100000

theorem made_newV (n : Nat) : (madeCells #[.int .i64 0, .int .i64 0, .int .i64 0, .bool false] (n * 4)).toList = vcells (List.replicate n vn0) := by
  have hL := vcells_length (List.replicate n vn0)
  rw [List.length_replicate] at hL
  apply List.ext_getElem?
  intro i
  by_cases hi : i < n * 4
  · have h1 : i / 4 < n := by omega
    have hg := vcells_get (List.replicate n vn0) (i / 4) vn0 (by rw [List.getElem?_replicate, if_pos h1])
    have hr : (vcells (List.replicate n vn0))[i]? = #[Value.int .i64 0, .int .i64 0, .int .i64 0, .bool false][i % 4]? := by
      have h4 : i % 4 = 0 ∨ i % 4 = 1 ∨ i % 4 = 2 ∨ i % 4 = 3 := by omega
      rcases h4 with e | e | e | e
      · rw [e]; have := hg.1; rw [show i / 4 * 4 = i by omega] at this; exact this
      · rw [e]; have := hg.2.1; rw [show i / 4 * 4 + 1 = i by omega] at this; exact this
      · rw [e]; have := hg.2.2.1; rw [show i / 4 * 4 + 2 = i by omega] at this; exact this
      · rw [e]; have := hg.2.2.2; rw [show i / 4 * 4 + 3 = i by omega] at this; exact this
    rw [hr]
    unfold madeCells
    simp only [Array.toList_map, List.getElem?_map, Array.toList_range]
    rw [List.getElem?_range hi]
    simp only [Option.map_some]
    rw [getElem!_def]
    rw [show (#[Value.int .i64 0, .int .i64 0, .int .i64 0, .bool false] : Array Value).size = 4 from rfl]
    have h4 : i % 4 = 0 ∨ i % 4 = 1 ∨ i % 4 = 2 ∨ i % 4 = 3 := by omega
    rcases h4 with e | e | e | e <;> rw [e] <;> rfl
  · rw [List.getElem?_eq_none (by rw [Array.length_toList, size_madeCells]; omega), List.getElem?_eq_none (by omega)]

/-- The versions so far. -/
def vsFar (xs : List Int) (m k : Nat) : List Vn := rdVs (fun x => x != 0) xs k ++ List.replicate (m - k) vn0
theorem rdVs_len (f : Int → Bool) (xs : List Int) (k : Nat) : (rdVs f xs k).length = k := by simp [rdVs]
theorem vsFar_len {xs : List Int} {m k : Nat} (h : k ≤ m) : (vsFar xs m k).length = m := by unfold vsFar; rw [List.length_append, rdVs_len, List.length_replicate]; omega
theorem vsFar_step {xs : List Int} {m k : Nat} (h : k < m) : (vsFar xs m k).set k (rdVn (fun x => x != 0) xs (15 + 11 * k)) = vsFar xs m (k + 1) := by
  unfold vsFar
  have e : List.replicate (m - k) vn0 = vn0 :: List.replicate (m - (k + 1)) vn0 := by rw [show m - k = (m - (k + 1)) + 1 by omega, List.replicate_succ]
  rw [List.set_append_right _ _ (by rw [rdVs_len]; exact Nat.le_refl _), rdVs_len, Nat.sub_self, e, List.set_cons_zero]
  unfold rdVs
  rw [List.range_succ, List.map_append, List.append_assoc]
  rfl
theorem vsFar_end (xs : List Int) (m : Nat) : vsFar xs m m = rdVs (fun x => x != 0) xs m := by unfold vsFar; simp
theorem vsFar_zero (xs : List Int) (m : Nat) : vsFar xs m 0 = List.replicate m vn0 := by unfold vsFar rdVs; simp

theorem OwnsV.there {w : World} {g n cap : Nat} {ps : List Vn} (h : OwnsV w (.slice (some ⟨g, 0, none⟩) n cap) ps) {i : Nat} (hi : i < ps.length) : w.there g (i * 4) 4 := fun j hj => by
  have h' : w.ownsRow 0 66 4 (.slice (some ⟨g, 0, none⟩) n cap) ps.length (vcells ps) := h
  have hn : n = ps.length := by
    rcases h'.2 with ⟨e, _⟩ | ⟨g', cap', cur, e, _⟩
    · cases e
    · simp only [Value.slice.injEq] at e; exact e.2.1
  subst hn
  refine ⟨?_, h'.frozenAt _⟩
  rw [h'.cellAt _ (by omega), List.getElem?_eq_getElem (by rw [vcells_length]; omega)]
  rfl
/-- Versions lie in no block of another type. -/
theorem OwnsV.ne_blk {w : World} {v : Value} {ps : List Vn} {b : Nat} {cs : Array Value} {t : TypeId} (h : OwnsV w v ps) (hb : w.heap[b]? = some (.cells cs t (0, 0))) (ht : t ≠ 66) {k : Nat} (hk : v.ownBlock = some k) : k ≠ b := by
  intro e
  subst e
  have h' : w.ownsRow 0 66 4 v ps.length (vcells ps) := h
  rcases h'.2 with ⟨rfl, _⟩ | ⟨g, cap, cur, rfl, _, hg, _⟩
  · cases hk
  · cases hk
    rw [hg] at hb
    simp at hb
    exact ht hb.2.symm
theorem verv_cells (x : Vn) : (#[Value.int .i64 x.id, .int .i64 x.root, .int .i64 x.nx, .bool x.fx]).all (·.oneCell') = true := all_oneCell_toArray (cs := [.int .i64 x.id, .int .i64 x.root, .int .i64 x.nx, .bool x.fx]) (fun v hv => by
  simp only [List.mem_cons, List.not_mem_nil, or_false] at hv
  rcases hv with rfl | rfl | rfl | rfl <;> rfl)

/-- What the program reads. -/
def FrmR (g : Nat) (xs : List Int) (m : Nat) (w : World) (e : Ending) (w' : World) : Prop :=
  ∃ v, e = .returned (supv (rdS (fun x => x != 0) xs m) v) ∧ OwnsV w' v (rdVs (fun x => x != 0) xs m) ∧ Below w.heap.size w w' ∧ ∀ j, v.ownBlock = some j → w.heap.size ≤ j

set_option maxHeartbeats 1000000 in
theorem frm_any (L m : Nat) (xs : List Int) (w : World) (hlx : xs.length = 256) (hbx : By xs) (hL : xs.getD 14 0 = (L : Int)) (hm : m = min L 9) :
    Calls Try.prog 41 #[.agg (bcs xs).toArray] w fun e w' => FrmR 0 xs m w e w' := by
  obtain ⟨j0, hj, hy0, hy1, hy2⟩ := info_parts infoV
  have HLN : Hid (xs.length = 256) := hlx
  have HBY : Hid (By xs) := hbx
  have hL2 : L < 256 := by have := HBY.out 14; omega
  obtain ⟨W0, hW0⟩ : ∃ W0, w.alloc (.cells (bcs xs).toArray 62) = W0 := ⟨_, rfl⟩
  obtain ⟨W1, hW1⟩ : ∃ W1, W0.alloc (.cells #[.int .i64 0, .int .i64 0, .int .i64 0, .slice none 0 0] 24) = W1 := ⟨_, rfl⟩
  have b0 : Below w.heap.size w W0 := by rw [← hW0]; exact (Below.refl _ _).alloc (Nat.le_refl _) _
  have s0 : W0.heap.size = w.heap.size + 1 := by rw [← hW0]; simp
  have b1 : Below W0.heap.size W0 W1 := by rw [← hW1]; exact (Below.refl _ _).alloc (Nat.le_refl _) _
  have F0 : Fu W0 w.heap.size xs := by rw [← hW0]; exact fv_newU w hlx hbx
  obtain ⟨g, hg⟩ : ∃ g, w.heap.size = g := ⟨_, rfl⟩
  obtain ⟨q, hq⟩ : ∃ q, w.heap.size + 1 = q := ⟨_, rfl⟩
  have HQ : Hid (w.heap.size = g) := hg
  have HGQ : Hid (g < q) := by show _ < _; omega
  have F1 : Hid (Fu W1 g xs) := by rw [← hg]; exact F0.below b1
  have B1 : Hid (Below g w W1) := by rw [← hg]; exact b0.trans (b1.mono (by omega))
  have U1 : Hid (Uv W1 q sp0 (.slice none 0 0)) := by rw [← hW1, ← hq, ← s0]; exact uv_new W0 sp0 _
  have HSQ : Hid (w.heap.size + 1 = q) := hq
  obtain ⟨X, hX⟩ : ∃ X, Hid ((bcs xs).toArray = X) := ⟨_, rfl⟩
  rw [hX.out] at hW0 ⊢
  have HW1 : Hid ((w.alloc (.cells X 62)).alloc (.cells #[.int .i64 0, .int .i64 0, .int .i64 0, .slice none 0 0] 24) = W1) := by show _ = _; rw [hW0]; exact hW1
  clear b0 s0 F0 hq hg hW0 hW1
  have e1 : vN (sl xs 14 1) = (L : Int) := by
    rw [sl_succ (by rw [HLN.out]; omega), ← hL]
    simp [sl, vN]
  have HN1 := hideP (numberU_any g 14 1 xs W1 F1.out (by decide) (by decide))
  rw [e1] at HN1
  have HM : Hid (m = min L 9) := hm
  have hm9 : m ≤ 9 := by omega
  clear b1 hL e1 hlx hbx
  have HMK : Hid (m * 32 ≤ 140737488355328) := by show _ ≤ _; omega
  have HMX : Hid (m ≤ maxLen) := by show _ ≤ _; unfold maxLen; omega
  by_cases hc : (9 : Int) < (L : Int)
  · obtain rfl : m = 9 := by omega
    clear hm
    go_enter Try.func41, Try.ntmps41
    go_wp2_with fail
    rw [HW1.out, HQ.out]
    (try rw [HQ.out] at HSQ)
    rw [HSQ.out]
    refine HN1.out.mono ?_
    rintro e w2 ⟨rfl, b2⟩
    have F2 : Hid (Fu w2 g xs) := F1.out.below b2
    have U2 : Hid (Uv w2 q sp0 (.slice none 0 0)) := U1.out.below b2
    have B2 : Hid (Below g w w2) := B1.out.trans (b2.mono (by have := HGQ.out; have := U1.out.lt; omega))
    clear b2 F1 U1 B1 HN1 HW1
    go_wp2_with (at_make; refine wpList_make_full _ rfl (.tmp 8) (.tmp 8) 22 rfl 0 66 j0 _ 4 Try.underlying22 hj hy0 hy1 .i64 .i64 _ _ 9 rfl rfl rfl rfl (by rw [hy2]; have := HMK.out; omega) (by have := HMX.out; omega) (Nat.zero_le _) ?_)
    intro w3 ho3 hg3
    have b3 : Below w2.heap.size w2 w3 := (Below.refl _ _).grown hg3 (Nat.le_refl _) (fun k e => by cases e)
    obtain ⟨g2, hg2⟩ : ∃ g2, w2.heap.size = g2 := ⟨_, rfl⟩
    have O3 : Hid (OwnsV w3 (.slice (some ⟨g2, 0, none⟩) 9 9) (vsFar xs 9 0)) := by
      rw [vsFar_zero]
      show World.ownsRow _ _ _ _ _ _ _
      rw [List.length_replicate, ← hg2, ← made_newV]
      exact ho3
    have F3 : Hid (Fu w3 g xs) := F2.out.below b3
    have U3 : Hid (Uv w3 q sp0 (.slice none 0 0)) := U2.out.below b3
    have B3 : Hid (Below g w w3) := B2.out.trans (b3.mono (by have := HGQ.out; have := U2.out.lt; omega))
    have N3 : Hid (q < g2 ∧ g < g2) := by refine ⟨?_, ?_⟩ <;> (have := U2.out.lt; have := F2.out.lt; omega)
    rw [hg2]
    clear ho3 hg3 b3 F2 U2 B2 hj hy0 hy1 hy2 hg2
    go_wp2_with fail
    go_loopw [12] (fun i wr => ∃ k : Nat, k ≤ 9 ∧ i = .int .i64 k ∧ Hid (OwnsV wr (.slice (some ⟨g2, 0, none⟩) 9 9) (vsFar xs 9 k)) ∧ Hid (Fu wr g xs) ∧ Hid (Uv wr q sp0 (.slice none 0 0)) ∧ Hid (Below g w wr)) (fun i _ => 9 - (intOf i).toNat)
    case atStart => exact ⟨0, Nat.zero_le _, rfl, O3, F3, U3, B3⟩
    case round =>
      clear O3 F3 U3 B3
      obtain ⟨k, hk, rfl, O, F, U, B⟩ := hrel
      by_cases hlt : k < 9
      · have hkl : (k : Int) < (9 : Int) := by omega
        have hk9 : k ≤ 8 := by have := HM.out; omega
        obtain ⟨p1, hp⟩ : ∃ m, 11 * k = m := ⟨_, rfl⟩
        have hm1 : 11 * (k : Int) = (p1 : Int) := by omega
        obtain ⟨p, hpp⟩ : ∃ p, 15 + p1 = p := ⟨_, rfl⟩
        have hp1 : 15 + (p1 : Int) = (p : Int) := by omega
        have hp2 : p ≤ 103 := by omega
        have HPK : Hid (15 + 11 * k = p) := by show _ = _; omega
        have HV := hideP (version_any g p xs wr F.out (by omega))
        clear hp hpp
        go_wp2_with fail
        refine HV.out.mono ?_
        rintro e w4 ⟨rfl, b4⟩
        have O4 : Hid (OwnsV w4 (.slice (some ⟨g2, 0, none⟩) 9 9) (vsFar xs 9 k)) := O.out.below b4
        have F4 : Hid (Fu w4 g xs) := F.out.below b4
        have U4 : Hid (Uv w4 q sp0 (.slice none 0 0)) := U.out.below b4
        have B4 : Hid (Below g w w4) := B.out.trans (b4.mono (by have := HGQ.out; have := U.out.lt; omega))
        obtain ⟨x, hx⟩ : ∃ x, rdVn (fun x => x != 0) xs p = x := ⟨_, rfl⟩
        have HX : Hid ((vsFar xs 9 k).set k x = vsFar xs 9 (k + 1)) := by
          show _ = _
          rw [← hx, ← HPK.out]
          exact vsFar_step hlt
        rw [hx]
        have HT : Hid (w4.there g2 (k * 4) 4) := O4.out.there (by rw [vsFar_len (by omega)]; exact hlt)
        have hvl : k < (vsFar xs 9 k).length := by rw [vsFar_len (by omega)]; exact hlt
        obtain ⟨W5, hW5⟩ : ∃ W5, (((w4.setCell ⟨g2, k * 4, none⟩ (.int .i64 x.id)).setCell ⟨g2, k * 4 + 1, none⟩ (.int .i64 x.root)).setCell ⟨g2, k * 4 + 2, none⟩ (.int .i64 x.nx)).setCell ⟨g2, k * 4 + 3, none⟩ (.bool x.fx) = W5 := ⟨_, rfl⟩
        have e5 : w4.setCells g2 (k * 4) [.int .i64 x.id, .int .i64 x.root, .int .i64 x.nx, .bool x.fx] = W5 := by rw [← hW5]; rfl
        have O5 := O4.out.put (i := k) hvl x
        rw [HX.out, e5] at O5
        have T5 : Tch (fun j => j = g2) w4 W5 := by rw [← e5]; exact setCells_tchD g2 _ _ w4
        have F5 : Hid (Fu W5 g xs) := F4.out.tch T5 (by have := N3.out; omega)
        have U5 : Hid (Uv W5 q sp0 (.slice none 0 0)) := U4.out.tch T5 (by have := N3.out; omega)
        have B5 : Hid (Below g w W5) := B4.out.trans (T5.below (by have := HGQ.out; have := U4.out.lt; omega) (fun j e => by rw [e]; have := N3.out; omega))
        have O5 := hideP O5
        obtain ⟨z, hz⟩ : ∃ z, (vsFar xs 9 k)[k]? = some z := ⟨_, List.getElem?_eq_getElem hvl⟩
        obtain ⟨_, _, eb, ZC⟩ := O4.out.rd.at_ (Below.refl _ _) hz
        cases eb
        rw [Nat.zero_add] at ZC
        have z0 := ZC.c0
        have z1 := ZC.c1
        have z2 := ZC.c2
        have z3 := ZC.c3
        have y0 := (HT.out 0 (by decide)).2
        have y1 := (HT.out 1 (by decide)).2
        have y2 := (HT.out 2 (by decide)).2
        have y3 := (HT.out 3 (by decide)).2
        rw [Nat.add_zero] at y0
        obtain ⟨xi, hxi⟩ : ∃ n, x.id = n := ⟨_, rfl⟩
        obtain ⟨xr, hxr⟩ : ∃ n, x.root = n := ⟨_, rfl⟩
        obtain ⟨xn, hxn⟩ : ∃ n, x.nx = n := ⟨_, rfl⟩
        obtain ⟨xf, hxf⟩ : ∃ n, x.fx = n := ⟨_, rfl⟩
        unfold verv
        rw [hxi, hxr, hxn, hxf] at hW5
        rw [hxi, hxr, hxn, hxf]
        generalize z.id = zi at z0
        generalize z.root = zr at z1
        generalize z.nx = zn at z2
        generalize z.fx = zf at z3
        clear HX hx b4 O F U B O4 F4 U4 B4 T5 HV HPK HT ZC hz e5 hxi hxr hxn hxf hvl
        go_wp2_with fail
        go_roundw
        case rel => exact ⟨k + 1, by omega, by go_num, O5, F5, U5, B5⟩
        case measure => simp [intOf]; omega
      · have hkl : ¬ (k : Int) < (9 : Int) := by omega
        have hkm : k = 9 := by omega
        rw [hkm, vsFar_end] at O
        have HN4 := hideP (numberU_any g 4 4 xs wr F.out (by decide) (by decide))
        clear hkm hlt
        go_wp2_with fail
        refine HN4.out.mono ?_
        rintro e w4 ⟨rfl, b4⟩
        have O4 : Hid (OwnsV w4 (.slice (some ⟨g2, 0, none⟩) 9 9) (rdVs (fun x => x != 0) xs 9)) := O.out.below b4
        have F4 : Hid (Fu w4 g xs) := F.out.below b4
        have U4 : Hid (Uv w4 q sp0 (.slice none 0 0)) := U.out.below b4
        have B4 : Hid (Below g w w4) := B.out.trans (b4.mono (by have := HGQ.out; have := U.out.lt; omega))
        clear b4 O F U B HN4
        go_wp2_with fail
        refine (numberU_any g 8 2 xs w4 F4.out (by decide) (by decide)).mono ?_
        rintro e w5 ⟨rfl, b5⟩
        have O5 : Hid (OwnsV w5 (.slice (some ⟨g2, 0, none⟩) 9 9) (rdVs (fun x => x != 0) xs 9)) := O4.out.below b5
        have F5 : Hid (Fu w5 g xs) := F4.out.below b5
        have U5 : Hid (Uv w5 q sp0 (.slice none 0 0)) := U4.out.below b5
        have B5 : Hid (Below g w w5) := B4.out.trans (b5.mono (by have := HGQ.out; have := U4.out.lt; omega))
        clear b5 O4 F4 U4 B4
        go_wp2_with fail
        refine (numberU_any g 10 4 xs w5 F5.out (by decide) (by decide)).mono ?_
        rintro e w6 ⟨rfl, b6⟩
        have O6 : Hid (OwnsV w6 (.slice (some ⟨g2, 0, none⟩) 9 9) (rdVs (fun x => x != 0) xs 9)) := O5.out.below b6
        have U6 : Hid (Uv w6 q sp0 (.slice none 0 0)) := U5.out.below b6
        have B6 : Hid (Below g w w6) := B5.out.trans (b6.mono (by have := HGQ.out; have := U5.out.lt; omega))
        clear b6 O5 F5 U5 B5
        have HR : Hid (rdS (fun x => x != 0) xs 9 = ⟨vN (sl xs 4 4), vN (sl xs 8 2), vN (sl xs 10 4), rdVs (fun x => x != 0) xs 9⟩) := rfl
        obtain ⟨n1, hn1⟩ : ∃ n, Hid (vN (sl xs 4 4) = n) := ⟨_, rfl⟩
        obtain ⟨n2, hn2⟩ : ∃ n, Hid (vN (sl xs 8 2) = n) := ⟨_, rfl⟩
        obtain ⟨n3, hn3⟩ : ∃ n, Hid (vN (sl xs 10 4) = n) := ⟨_, rfl⟩
        rw [hn1.out, hn2.out, hn3.out] at HR
        rw [hn1.out, hn2.out, hn3.out]
        have c0 : w6.cell? ⟨q, 0, none⟩ = some (.int .i64 0) := U6.out.c0
        have c1 : w6.cell? ⟨q, 1, none⟩ = some (.int .i64 0) := U6.out.c1
        have c2 : w6.cell? ⟨q, 2, none⟩ = some (.int .i64 0) := U6.out.c2
        have c3 := U6.out.c3
        have f0 := U6.out.fz 0
        have f1 := U6.out.fz 1
        have f2 := U6.out.fz 2
        have f3 := U6.out.fz 3
        have HP := hideP (U6.out.put ⟨n1, n2, n3, rdVs (fun x => x != 0) xs 9⟩ (.slice (some ⟨g2, 0, none⟩) 9 9))
        have HT : Hid (Tch (fun j => j = q) w6 ((((w6.setCell ⟨q, 0, none⟩ (.int .i64 n1)).setCell ⟨q, 1, none⟩ (.int .i64 n2)).setCell ⟨q, 2, none⟩ (.int .i64 n3)).setCell ⟨q, 3, none⟩ (.slice (some ⟨g2, 0, none⟩) 9 9))) :=
          Tch.setCell (Tch.setCell (Tch.setCell (Tch.setCell (Tch.refl (fun j => j = q) w6) (p := ⟨q, 0, none⟩) (fun _ => rfl) _) (p := ⟨q, 1, none⟩) (fun _ => rfl) _) (p := ⟨q, 2, none⟩) (fun _ => rfl) _) (p := ⟨q, 3, none⟩) (fun _ => rfl) _
        go_wp2_with fail
        refine bodyPost_ret (v := supv ⟨n1, n2, n3, rdVs (fun x => x != 0) xs 9⟩ (.slice (some ⟨g2, 0, none⟩) 9 9)) (results_atU (p := 2) (ty := 24) rfl _ _ _ q _ rfl HP.out.load) rfl ?_
        refine ⟨_, by rw [HR.out], O6.out.tch HT.out (fun j hj e => by cases hj; have e2 : g2 = q := e; have := N3.out; omega), ?_, fun j hj => by cases hj; rw [HQ.out]; show g ≤ g2; have := N3.out; omega⟩
        rw [HQ.out]
        exact B6.out.trans (HT.out.below (by have := HGQ.out; have := U6.out.lt; omega) (fun j e => by rw [e]; have := HGQ.out; omega))
  · have hLm : m = L := by omega
    subst hLm
    clear hm
    go_enter Try.func41, Try.ntmps41
    go_wp2_with fail
    rw [HW1.out, HQ.out]
    (try rw [HQ.out] at HSQ)
    rw [HSQ.out]
    refine HN1.out.mono ?_
    rintro e w2 ⟨rfl, b2⟩
    have F2 : Hid (Fu w2 g xs) := F1.out.below b2
    have U2 : Hid (Uv w2 q sp0 (.slice none 0 0)) := U1.out.below b2
    have B2 : Hid (Below g w w2) := B1.out.trans (b2.mono (by have := HGQ.out; have := U1.out.lt; omega))
    clear b2 F1 U1 B1 HN1 HW1
    go_wp2_with (at_make; refine wpList_make_full _ rfl (.tmp 8) (.tmp 8) 22 rfl 0 66 j0 _ 4 Try.underlying22 hj hy0 hy1 .i64 .i64 _ _ m rfl rfl rfl rfl (by rw [hy2]; have := HMK.out; omega) (by have := HMX.out; omega) (Nat.zero_le _) ?_)
    intro w3 ho3 hg3
    have b3 : Below w2.heap.size w2 w3 := (Below.refl _ _).grown hg3 (Nat.le_refl _) (fun k e => by cases e)
    obtain ⟨g2, hg2⟩ : ∃ g2, w2.heap.size = g2 := ⟨_, rfl⟩
    have O3 : Hid (OwnsV w3 (.slice (some ⟨g2, 0, none⟩) m m) (vsFar xs m 0)) := by
      rw [vsFar_zero]
      show World.ownsRow _ _ _ _ _ _ _
      rw [List.length_replicate, ← hg2, ← made_newV]
      exact ho3
    have F3 : Hid (Fu w3 g xs) := F2.out.below b3
    have U3 : Hid (Uv w3 q sp0 (.slice none 0 0)) := U2.out.below b3
    have B3 : Hid (Below g w w3) := B2.out.trans (b3.mono (by have := HGQ.out; have := U2.out.lt; omega))
    have N3 : Hid (q < g2 ∧ g < g2) := by refine ⟨?_, ?_⟩ <;> (have := U2.out.lt; have := F2.out.lt; omega)
    rw [hg2]
    clear ho3 hg3 b3 F2 U2 B2 hj hy0 hy1 hy2 hg2
    go_wp2_with fail
    go_loopw [12] (fun i wr => ∃ k : Nat, k ≤ m ∧ i = .int .i64 k ∧ Hid (OwnsV wr (.slice (some ⟨g2, 0, none⟩) m m) (vsFar xs m k)) ∧ Hid (Fu wr g xs) ∧ Hid (Uv wr q sp0 (.slice none 0 0)) ∧ Hid (Below g w wr)) (fun i _ => m - (intOf i).toNat)
    case atStart => exact ⟨0, Nat.zero_le _, rfl, O3, F3, U3, B3⟩
    case round =>
      clear O3 F3 U3 B3
      obtain ⟨k, hk, rfl, O, F, U, B⟩ := hrel
      by_cases hlt : k < m
      · have hkl : (k : Int) < (m : Int) := by omega
        have hk9 : k ≤ 8 := by have := HM.out; omega
        obtain ⟨p1, hp⟩ : ∃ m, 11 * k = m := ⟨_, rfl⟩
        have hm1 : 11 * (k : Int) = (p1 : Int) := by omega
        obtain ⟨p, hpp⟩ : ∃ p, 15 + p1 = p := ⟨_, rfl⟩
        have hp1 : 15 + (p1 : Int) = (p : Int) := by omega
        have hp2 : p ≤ 103 := by omega
        have HPK : Hid (15 + 11 * k = p) := by show _ = _; omega
        have HV := hideP (version_any g p xs wr F.out (by omega))
        clear hp hpp
        go_wp2_with fail
        refine HV.out.mono ?_
        rintro e w4 ⟨rfl, b4⟩
        have O4 : Hid (OwnsV w4 (.slice (some ⟨g2, 0, none⟩) m m) (vsFar xs m k)) := O.out.below b4
        have F4 : Hid (Fu w4 g xs) := F.out.below b4
        have U4 : Hid (Uv w4 q sp0 (.slice none 0 0)) := U.out.below b4
        have B4 : Hid (Below g w w4) := B.out.trans (b4.mono (by have := HGQ.out; have := U.out.lt; omega))
        obtain ⟨x, hx⟩ : ∃ x, rdVn (fun x => x != 0) xs p = x := ⟨_, rfl⟩
        have HX : Hid ((vsFar xs m k).set k x = vsFar xs m (k + 1)) := by
          show _ = _
          rw [← hx, ← HPK.out]
          exact vsFar_step hlt
        rw [hx]
        have HT : Hid (w4.there g2 (k * 4) 4) := O4.out.there (by rw [vsFar_len (by omega)]; exact hlt)
        have hvl : k < (vsFar xs m k).length := by rw [vsFar_len (by omega)]; exact hlt
        obtain ⟨W5, hW5⟩ : ∃ W5, (((w4.setCell ⟨g2, k * 4, none⟩ (.int .i64 x.id)).setCell ⟨g2, k * 4 + 1, none⟩ (.int .i64 x.root)).setCell ⟨g2, k * 4 + 2, none⟩ (.int .i64 x.nx)).setCell ⟨g2, k * 4 + 3, none⟩ (.bool x.fx) = W5 := ⟨_, rfl⟩
        have e5 : w4.setCells g2 (k * 4) [.int .i64 x.id, .int .i64 x.root, .int .i64 x.nx, .bool x.fx] = W5 := by rw [← hW5]; rfl
        have O5 := O4.out.put (i := k) hvl x
        rw [HX.out, e5] at O5
        have T5 : Tch (fun j => j = g2) w4 W5 := by rw [← e5]; exact setCells_tchD g2 _ _ w4
        have F5 : Hid (Fu W5 g xs) := F4.out.tch T5 (by have := N3.out; omega)
        have U5 : Hid (Uv W5 q sp0 (.slice none 0 0)) := U4.out.tch T5 (by have := N3.out; omega)
        have B5 : Hid (Below g w W5) := B4.out.trans (T5.below (by have := HGQ.out; have := U4.out.lt; omega) (fun j e => by rw [e]; have := N3.out; omega))
        have O5 := hideP O5
        obtain ⟨z, hz⟩ : ∃ z, (vsFar xs m k)[k]? = some z := ⟨_, List.getElem?_eq_getElem hvl⟩
        obtain ⟨_, _, eb, ZC⟩ := O4.out.rd.at_ (Below.refl _ _) hz
        cases eb
        rw [Nat.zero_add] at ZC
        have z0 := ZC.c0
        have z1 := ZC.c1
        have z2 := ZC.c2
        have z3 := ZC.c3
        have y0 := (HT.out 0 (by decide)).2
        have y1 := (HT.out 1 (by decide)).2
        have y2 := (HT.out 2 (by decide)).2
        have y3 := (HT.out 3 (by decide)).2
        rw [Nat.add_zero] at y0
        obtain ⟨xi, hxi⟩ : ∃ n, x.id = n := ⟨_, rfl⟩
        obtain ⟨xr, hxr⟩ : ∃ n, x.root = n := ⟨_, rfl⟩
        obtain ⟨xn, hxn⟩ : ∃ n, x.nx = n := ⟨_, rfl⟩
        obtain ⟨xf, hxf⟩ : ∃ n, x.fx = n := ⟨_, rfl⟩
        unfold verv
        rw [hxi, hxr, hxn, hxf] at hW5
        rw [hxi, hxr, hxn, hxf]
        generalize z.id = zi at z0
        generalize z.root = zr at z1
        generalize z.nx = zn at z2
        generalize z.fx = zf at z3
        clear HX hx b4 O F U B O4 F4 U4 B4 T5 HV HPK HT ZC hz e5 hxi hxr hxn hxf hvl
        go_wp2_with fail
        go_roundw
        case rel => exact ⟨k + 1, by omega, by go_num, O5, F5, U5, B5⟩
        case measure => simp [intOf]; omega
      · have hkl : ¬ (k : Int) < (m : Int) := by omega
        have hkm : k = m := by omega
        rw [hkm, vsFar_end] at O
        have HN4 := hideP (numberU_any g 4 4 xs wr F.out (by decide) (by decide))
        clear hkm hlt
        go_wp2_with fail
        refine HN4.out.mono ?_
        rintro e w4 ⟨rfl, b4⟩
        have O4 : Hid (OwnsV w4 (.slice (some ⟨g2, 0, none⟩) m m) (rdVs (fun x => x != 0) xs m)) := O.out.below b4
        have F4 : Hid (Fu w4 g xs) := F.out.below b4
        have U4 : Hid (Uv w4 q sp0 (.slice none 0 0)) := U.out.below b4
        have B4 : Hid (Below g w w4) := B.out.trans (b4.mono (by have := HGQ.out; have := U.out.lt; omega))
        clear b4 O F U B HN4
        go_wp2_with fail
        refine (numberU_any g 8 2 xs w4 F4.out (by decide) (by decide)).mono ?_
        rintro e w5 ⟨rfl, b5⟩
        have O5 : Hid (OwnsV w5 (.slice (some ⟨g2, 0, none⟩) m m) (rdVs (fun x => x != 0) xs m)) := O4.out.below b5
        have F5 : Hid (Fu w5 g xs) := F4.out.below b5
        have U5 : Hid (Uv w5 q sp0 (.slice none 0 0)) := U4.out.below b5
        have B5 : Hid (Below g w w5) := B4.out.trans (b5.mono (by have := HGQ.out; have := U4.out.lt; omega))
        clear b5 O4 F4 U4 B4
        go_wp2_with fail
        refine (numberU_any g 10 4 xs w5 F5.out (by decide) (by decide)).mono ?_
        rintro e w6 ⟨rfl, b6⟩
        have O6 : Hid (OwnsV w6 (.slice (some ⟨g2, 0, none⟩) m m) (rdVs (fun x => x != 0) xs m)) := O5.out.below b6
        have U6 : Hid (Uv w6 q sp0 (.slice none 0 0)) := U5.out.below b6
        have B6 : Hid (Below g w w6) := B5.out.trans (b6.mono (by have := HGQ.out; have := U5.out.lt; omega))
        clear b6 O5 F5 U5 B5
        have HR : Hid (rdS (fun x => x != 0) xs m = ⟨vN (sl xs 4 4), vN (sl xs 8 2), vN (sl xs 10 4), rdVs (fun x => x != 0) xs m⟩) := rfl
        obtain ⟨n1, hn1⟩ : ∃ n, Hid (vN (sl xs 4 4) = n) := ⟨_, rfl⟩
        obtain ⟨n2, hn2⟩ : ∃ n, Hid (vN (sl xs 8 2) = n) := ⟨_, rfl⟩
        obtain ⟨n3, hn3⟩ : ∃ n, Hid (vN (sl xs 10 4) = n) := ⟨_, rfl⟩
        rw [hn1.out, hn2.out, hn3.out] at HR
        rw [hn1.out, hn2.out, hn3.out]
        have c0 : w6.cell? ⟨q, 0, none⟩ = some (.int .i64 0) := U6.out.c0
        have c1 : w6.cell? ⟨q, 1, none⟩ = some (.int .i64 0) := U6.out.c1
        have c2 : w6.cell? ⟨q, 2, none⟩ = some (.int .i64 0) := U6.out.c2
        have c3 := U6.out.c3
        have f0 := U6.out.fz 0
        have f1 := U6.out.fz 1
        have f2 := U6.out.fz 2
        have f3 := U6.out.fz 3
        have HP := hideP (U6.out.put ⟨n1, n2, n3, rdVs (fun x => x != 0) xs m⟩ (.slice (some ⟨g2, 0, none⟩) m m))
        have HT : Hid (Tch (fun j => j = q) w6 ((((w6.setCell ⟨q, 0, none⟩ (.int .i64 n1)).setCell ⟨q, 1, none⟩ (.int .i64 n2)).setCell ⟨q, 2, none⟩ (.int .i64 n3)).setCell ⟨q, 3, none⟩ (.slice (some ⟨g2, 0, none⟩) m m))) :=
          Tch.setCell (Tch.setCell (Tch.setCell (Tch.setCell (Tch.refl (fun j => j = q) w6) (p := ⟨q, 0, none⟩) (fun _ => rfl) _) (p := ⟨q, 1, none⟩) (fun _ => rfl) _) (p := ⟨q, 2, none⟩) (fun _ => rfl) _) (p := ⟨q, 3, none⟩) (fun _ => rfl) _
        go_wp2_with fail
        refine bodyPost_ret (v := supv ⟨n1, n2, n3, rdVs (fun x => x != 0) xs m⟩ (.slice (some ⟨g2, 0, none⟩) m m)) (results_atU (p := 2) (ty := 24) rfl _ _ _ q _ rfl HP.out.load) rfl ?_
        refine ⟨_, by rw [HR.out], O6.out.tch HT.out (fun j hj e => by cases hj; have e2 : g2 = q := e; have := N3.out; omega), ?_, fun j hj => by cases hj; rw [HQ.out]; show g ≤ g2; have := N3.out; omega⟩
        rw [HQ.out]
        exact B6.out.trans (HT.out.below (by have := HGQ.out; have := U6.out.lt; omega) (fun j e => by rw [e]; have := HGQ.out; omega))
end Go.Proofs.Ytdicgaepggffbaa
/-
  The document's Same of superblocks.
-/
namespace Go.Proofs.Ytdicgaepggffbaa
open Go.RowKit Pl
set_option linter.unusedVariables false
set_option linter.unusedSimpArgs false
set_option maxRecDepth 100000

theorem und_ver : Try.prog.underlying 66 = some (.struct (Try.prog.fieldsOf 66)) := by kernel_rfl
theorem stood_ver : Try.prog.stoodInHeld 66 = false := by kernel_rfl
theorem flds_ver : ((Try.prog.fieldsOf 66).toList.map fun f => (decide (f.name = "_"), f.type, f.offset)) = [(false, 3, 0), (false, 3, 1), (false, 3, 2), (false, 4, 3)] := by kernel_rfl
theorem len4U {α : Type} {l : List α} (h : l.length = 4) : ∃ a b c d, l = [a, b, c, d] := by
  match l, h with
  | [a, b, c, d], _ => exact ⟨a, b, c, d, rfl⟩
theorem eqF_step {P : Program} (w : World) (d : Nat) (xs ys : Array Value) (f : Field) (fs : List Field) (a b : Value) (r : Bool) (hn : ¬ f.name = "_") (ha : (part f.type xs f.offset).run P w = .ok a w) (hb : (part f.type ys f.offset).run P w = .ok b w) (hr : (Op.equalIn d f.type a b).run P w = .ok r w) :
    (Op.eqFields d xs ys (f :: fs)).run P w = if r = true then (Op.eqFields d xs ys fs).run P w else .ok false w := by
  simp only [Op.eqFields, hn, ne_eq, not_false_eq_true, if_true, Sem.run_bind, ha, hb, hr, Result.andThen_ok]
  cases r <;> simp
theorem eqFlds (w : World) (d : Nat) (x y : Vn) (fs : List Field) (h : (fs.map fun f => (decide (f.name = "_"), f.type, f.offset)) = [(false, 3, 0), (false, 3, 1), (false, 3, 2), (false, 4, 3)]) :
    (Op.eqFields (d + 1) #[.int .i64 x.id, .int .i64 x.root, .int .i64 x.nx, .bool x.fx] #[.int .i64 y.id, .int .i64 y.root, .int .i64 y.nx, .bool y.fx] fs).run Try.prog w = .ok (x.id == y.id && (x.root == y.root && (x.nx == y.nx && x.fx == y.fx))) w := by
  obtain ⟨f0, f1, f2, f3, rfl⟩ := len4U (l := fs) (by have := congrArg List.length h; simpa using this)
  simp only [List.map_cons, List.map_nil, List.cons.injEq, Prod.mk.injEq, and_true, decide_eq_false_iff_not] at h
  obtain ⟨⟨n0, t0, o0⟩, ⟨n1, t1, o1⟩, ⟨n2, t2, o2⟩, n3, t3, o3⟩ := h
  have e0 : ∀ a b : Int, (Op.equalIn (d + 1) 3 (.int .i64 a) (.int .i64 b)).run Try.prog w = .ok (a == b) w := fun a b => run_equalIn_int (P := Try.prog) w d 3 .i64 .i64 a b Try.underlying3
  have e3 : ∀ a b : Bool, (Op.equalIn (d + 1) 4 (.bool a) (.bool b)).run Try.prog w = .ok (a == b) w := fun a b => run_equalIn_bool (P := Try.prog) w d 4 a b Try.underlying4
  rw [eqF_step w (d + 1) _ _ f0 _ (.int .i64 x.id) (.int .i64 y.id) (x.id == y.id) n0 (by rw [t0, o0]; exact run_part_plain w (by kernel_rfl) rfl) (by rw [t0, o0]; exact run_part_plain w (by kernel_rfl) rfl) (by rw [t0]; exact e0 _ _)]
  rw [eqF_step w (d + 1) _ _ f1 _ (.int .i64 x.root) (.int .i64 y.root) (x.root == y.root) n1 (by rw [t1, o1]; exact run_part_plain w (by kernel_rfl) rfl) (by rw [t1, o1]; exact run_part_plain w (by kernel_rfl) rfl) (by rw [t1]; exact e0 _ _)]
  rw [eqF_step w (d + 1) _ _ f2 _ (.int .i64 x.nx) (.int .i64 y.nx) (x.nx == y.nx) n2 (by rw [t2, o2]; exact run_part_plain w (by kernel_rfl) rfl) (by rw [t2, o2]; exact run_part_plain w (by kernel_rfl) rfl) (by rw [t2]; exact e0 _ _)]
  rw [eqF_step w (d + 1) _ _ f3 _ (.bool x.fx) (.bool y.fx) (x.fx == y.fx) n3 (by rw [t3, o3]; exact run_part_plain w (by kernel_rfl) rfl) (by rw [t3, o3]; exact run_part_plain w (by kernel_rfl) rfl) (by rw [t3]; exact e3 _ _)]
  generalize (x.id == y.id) = b0
  generalize (x.root == y.root) = b1
  generalize (x.nx == y.nx) = b2
  generalize (x.fx == y.fx) = b3
  cases b0 <;> cases b1 <;> cases b2 <;> cases b3 <;> simp [Op.eqFields]
theorem eq_verU (w : World) (x y : Vn) : (Op.equalIn 10000 66 (verv x) (verv y)).run Try.prog w = .ok (decide (x = y)) w := by
  unfold verv
  rw [run_equalIn_struct w 9999 66 _ _ und_ver stood_ver, eqFlds w 9998 x y _ flds_ver]
  congr 1
  obtain ⟨a, b, c, d⟩ := x
  obtain ⟨a', b', c', d'⟩ := y
  rw [Bool.eq_iff_iff]
  simp

theorem take_same {vs us : List Vn} {k : Nat} {x y : Vn} (hx : vs[k]? = some x) (hy : us[k]? = some y) (h : vs.take k = us.take k) : vs.take (k + 1) = us.take (k + 1) ↔ x = y := by
  obtain ⟨h1, e1⟩ := List.getElem?_eq_some_iff.1 hx
  obtain ⟨h2, e2⟩ := List.getElem?_eq_some_iff.1 hy
  rw [List.take_succ_eq_append_getElem h1, List.take_succ_eq_append_getElem h2, e1, e2, h]
  simp

set_option maxHeartbeats 2000000 in
theorem refSameU_any (s t : Sp) (v u : Value) (w : World) (hv : RdV w v s.vs) (hu : RdV w u t.vs) :
    Calls Try.prog 15 #[supv s v, supv t u] w fun e w' => e = .returned (.bool (decide (s = t))) ∧ Below w.heap.size w w' := by
  obtain ⟨a, ca, rfl, ha1, ha2, _⟩ := id hv
  obtain ⟨b, cb, rfl, hb1, hb2, _⟩ := id hu
  have HV : Hid (RdV w (.slice a s.vs.length ca) s.vs) := hv
  have HU : Hid (RdV w (.slice b t.vs.length cb) t.vs) := hu
  have hl63 : s.vs.length ≤ 9223372036854775807 := by unfold maxLen at ha2; omega
  have hm63 : t.vs.length ≤ 9223372036854775807 := by unfold maxLen at hb2; omega
  obtain ⟨W1, hW1⟩ : ∃ W1, w.alloc (.cells #[.int .i64 s.gen, .int .i64 s.sc, .int .i64 s.nx, .slice a s.vs.length ca] 24) = W1 := ⟨_, rfl⟩
  obtain ⟨W2, hW2⟩ : ∃ W2, W1.alloc (.cells #[.int .i64 t.gen, .int .i64 t.sc, .int .i64 t.nx, .slice b t.vs.length cb] 24) = W2 := ⟨_, rfl⟩
  have s1 : W1.heap.size = w.heap.size + 1 := by rw [← hW1]; simp
  have b1 : Below w.heap.size w W1 := by rw [← hW1]; exact (Below.refl _ _).alloc (Nat.le_refl _) _
  have b2 : Below W1.heap.size W1 W2 := by rw [← hW2]; exact (Below.refl _ _).alloc (Nat.le_refl _) _
  have B2 : Hid (Below w.heap.size w W2) := b1.trans (b2.mono (by omega))
  have U1 : Uv W1 w.heap.size s (.slice a s.vs.length ca) := by rw [← hW1]; exact uv_new w s _
  have P2 : Hid (Uv W2 w.heap.size s (.slice a s.vs.length ca)) := U1.below b2
  have R2 : Hid (Uv W2 (w.heap.size + 1) t (.slice b t.vs.length cb)) := by rw [← hW2, ← s1]; exact uv_new W1 t _
  have p0 := P2.out.c0
  have p1 := P2.out.c1
  have p2 := P2.out.c2
  have p3 := P2.out.c3
  have r0 := R2.out.c0
  have r1 := R2.out.c1
  have r2 := R2.out.c2
  have r3 := R2.out.c3
  obtain ⟨M, hM⟩ : ∃ M, Hid (decide (s = t) = M) := ⟨_, rfl⟩
  rw [hM.out]
  have HM : Hid (M = true ↔ s.gen = t.gen ∧ s.sc = t.sc ∧ s.nx = t.nx ∧ s.vs = t.vs) := by
    rw [← hM.out]
    show decide (s = t) = true ↔ _
    rw [decide_eq_true_iff]
    obtain ⟨g1, g2, g3, g4⟩ := s
    obtain ⟨k1, k2, k3, k4⟩ := t
    simp
  unfold supv
  obtain ⟨l, hl⟩ : ∃ l, Hid (s.vs.length = l) := ⟨_, rfl⟩
  obtain ⟨ge, hge⟩ : ∃ l, Hid (s.gen = l) := ⟨_, rfl⟩
  obtain ⟨sc, hsc⟩ : ∃ l, Hid (s.sc = l) := ⟨_, rfl⟩
  obtain ⟨nx, hnx⟩ : ∃ l, Hid (s.nx = l) := ⟨_, rfl⟩
  obtain ⟨m, hm⟩ : ∃ l, Hid (t.vs.length = l) := ⟨_, rfl⟩
  obtain ⟨gf, hgf⟩ : ∃ l, Hid (t.gen = l) := ⟨_, rfl⟩
  obtain ⟨sd, hsd⟩ : ∃ l, Hid (t.sc = l) := ⟨_, rfl⟩
  obtain ⟨ny, hny⟩ : ∃ l, Hid (t.nx = l) := ⟨_, rfl⟩
  rw [hge.out, hsc.out, hnx.out, hgf.out, hsd.out, hny.out] at HM
  rw [hl.out, hge.out, hsc.out, hnx.out] at hW1
  rw [hm.out, hgf.out, hsd.out, hny.out] at hW2
  rw [hl.out] at p3 hl63 HV P2
  rw [hm.out] at r3 hm63 HU R2
  rw [hge.out] at p0
  rw [hsc.out] at p1
  rw [hnx.out] at p2
  rw [hgf.out] at r0
  rw [hsd.out] at r1
  rw [hny.out] at r2
  rw [hl.out, hge.out, hsc.out, hnx.out, hm.out, hgf.out, hsd.out, hny.out]
  have HF : Hid (¬ (ge = gf ∧ sc = sd ∧ nx = ny ∧ s.vs = t.vs) → false = M) := fun h => by
    cases M with
    | false => rfl
    | true => exact absurd (HM.out.1 rfl) h
  clear hv hu ha1 ha2 hb1 hb2 b1 b2 U1
  by_cases c1 : ge = gf
  rotate_left
  · have HE := hideP (HF.out (fun h => c1 h.1))
    have d1 : (ge != gf) = true := by simp [c1]
    clear HM HF c1
    go_enter Try.func15, Try.ntmps15
    go_wp2_with fail
    go_ret
    exact ⟨by rw [← HE.out]; rfl, B2.out⟩
  subst c1
  by_cases c2 : sc = sd
  rotate_left
  · have HE := hideP (HF.out (fun h => c2 h.2.1))
    have d2 : (sc != sd) = true := by simp [c2]
    clear HM HF c2
    go_enter Try.func15, Try.ntmps15
    go_wp2_with fail
    go_ret
    exact ⟨by rw [← HE.out]; rfl, B2.out⟩
  subst c2
  by_cases c3 : nx = ny
  rotate_left
  · have HE := hideP (HF.out (fun h => c3 h.2.2.1))
    have d3 : (nx != ny) = true := by simp [c3]
    clear HM HF c3
    go_enter Try.func15, Try.ntmps15
    go_wp2_with fail
    go_ret
    exact ⟨by rw [← HE.out]; rfl, B2.out⟩
  subst c3
  by_cases c4 : l = m
  rotate_left
  · have HE := hideP (HF.out (fun h => c4 (by rw [← hl.out, ← hm.out, h.2.2.2])))
    have d4 : ((l : Int) != (m : Int)) = true := by simp; omega
    have d5 : (l != m) = true := by simp [c4]
    clear HM HF c4
    go_enter Try.func15, Try.ntmps15
    go_wp2_with fail
    go_ret
    exact ⟨by rw [← HE.out]; rfl, B2.out⟩
  subst c4
  have HMV : Hid (M = true ↔ s.vs = t.vs) := by
    show _ ↔ _
    rw [HM.out]
    simp
  clear HM HF
  go_enter Try.func15, Try.ntmps15
  go_wp2_with fail
  clear hW1 hW2 p0 p1 p2 r0 r1 r2 p3 r3 s1
  obtain ⟨g, hg⟩ : ∃ g, Hid (w.heap.size = g) := ⟨_, rfl⟩
  rw [hg.out] at P2 R2 B2 ⊢
  go_loopw [5] (fun i wr => ∃ k : Nat, k ≤ l ∧ i = .int .i64 k ∧ Hid (s.vs.take k = t.vs.take k) ∧ Hid (Below g w wr) ∧ Hid (Uv wr g s (.slice a l ca)) ∧ Hid (Uv wr (g + 1) t (.slice b l cb))) (fun i _ => l - (intOf i).toNat)
  case atStart => exact ⟨0, Nat.zero_le _, rfl, rfl, B2, P2, R2⟩
  case round =>
    clear B2 P2 R2
    obtain ⟨k, hk, rfl, HK, B, P, R⟩ := hrel
    have p3 := P.out.c3
    have r3 := R.out.c3
    by_cases hlt : k < l
    · have hkl : (k : Int) < (l : Int) := by omega
      obtain ⟨x, hx⟩ : ∃ x, s.vs[k]? = some x := ⟨_, List.getElem?_eq_getElem (by rw [hl.out]; exact hlt)⟩
      obtain ⟨y, hy⟩ : ∃ y, t.vs[k]? = some y := ⟨_, List.getElem?_eq_getElem (by rw [hm.out]; exact hlt)⟩
      obtain ⟨ab, ao, rfl, XC⟩ := HV.out.at_ (hg.out ▸ B.out : Below w.heap.size w wr) hx
      obtain ⟨bb, bo, rfl, YC⟩ := HU.out.at_ (hg.out ▸ B.out : Below w.heap.size w wr) hy
      have x0 := XC.c0
      have x1 := XC.c1
      have x2 := XC.c2
      have x3 := XC.c3
      have y0 := YC.c0
      have y1 := YC.c1
      have y2 := YC.c2
      have y3 := YC.c3
      have HTS := take_same hx hy HK.out
      by_cases e : x = y
      · have hq : ∀ W, (Op.equalIn 10000 66 (verv x) (verv y)).run Try.prog W = .ok true W := fun W => by rw [eq_verU W x y, decide_eq_true e]
        have HN : Hid (s.vs.take (k + 1) = t.vs.take (k + 1)) := HTS.2 e
        unfold verv at hq
        clear XC YC HTS e hx hy HK
        generalize x.id = xi at *
        generalize x.root = xr at *
        generalize x.nx = xn at *
        generalize x.fx = xf at *
        generalize y.id = yi at *
        generalize y.root = yr at *
        generalize y.nx = yn at *
        generalize y.fx = yf at *
        go_wp2_with fail
        go_quiet (fail)
        have B4 : Hid (Below g w (wr.drewN nq)) := B.out.trans (Below.of_drewN _ _ _)
        have P4 : Hid (Uv (wr.drewN nq) g s (.slice (some ⟨ab, ao, none⟩) l ca)) := P
        have R4 : Hid (Uv (wr.drewN nq) (g + 1) t (.slice (some ⟨bb, bo, none⟩) l cb)) := R
        go_wp2_with fail
        go_roundw
        case rel => exact ⟨k + 1, by omega, by go_num, HN, B4, P4, R4⟩
        case measure => simp [intOf]; omega
      · have hq : ∀ W, (Op.equalIn 10000 66 (verv x) (verv y)).run Try.prog W = .ok false W := fun W => by rw [eq_verU W x y, decide_eq_false e]
        have HE : Hid (false = M) := by
          show false = M
          cases M with
          | false => rfl
          | true => exact absurd (HTS.1 (by rw [HMV.out.1 rfl])) e
        unfold verv at hq
        clear XC YC HTS e hx hy HK
        generalize x.id = xi at *
        generalize x.root = xr at *
        generalize x.nx = xn at *
        generalize x.fx = xf at *
        generalize y.id = yi at *
        generalize y.root = yr at *
        generalize y.nx = yn at *
        generalize y.fx = yf at *
        go_wp2_with fail
        go_quiet (fail)
        have B4 : Hid (Below g w (wr.drewN nq)) := B.out.trans (Below.of_drewN _ _ _)
        go_wp2_with fail
        go_ret
        exact ⟨by rw [← HE.out]; rfl, by rw [hg.out]; exact B4.out⟩
    · have hkl : ¬ (k : Int) < (l : Int) := by omega
      have HE : Hid (true = M) := by
        have h := HK.out
        rw [List.take_of_length_le (by rw [hl.out]; omega), List.take_of_length_le (by rw [hm.out]; omega)] at h
        exact (HMV.out.2 h).symm
      clear HK
      go_wp2_with fail
      go_ret
      exact ⟨by rw [← HE.out]; rfl, by rw [hg.out]; exact B.out⟩
end Go.Proofs.Ytdicgaepggffbaa
