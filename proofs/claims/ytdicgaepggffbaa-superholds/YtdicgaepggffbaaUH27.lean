import Derived.Test.YtdicgaepggffbaaUH26
import Derived.Test.YtdicgaepggffbaaUH17
import Derived.Deep.QuietTactic
import Derived.BigQuiet
import Derived.Test.YtdicgaepggffbaaUH12
import Derived.Test.YtdicgaepggffbaaUH22
/-
  The program's Load of superblocks: the two sectors, and the newer one that is whole.
-/
namespace Go.Proofs.Ytdicgaepggffbaa
open Go.RowKit Pl
set_option linter.unusedVariables false
set_option linter.unusedSimpArgs false
set_option maxRecDepth 100000

/-- What a sector that is looked at leaves as the newest. -/
def nb (n : Int) (o : Option Sp) (x : List Int) : Option Sp :=
  match getU x with
  | some t => if t.sc = n ∧ (o.getD sp0).gen < t.gen then some t else o
  | none => o
/-- What a disk's two sectors tell. -/
def loadU (s : DS) : Option Sp := nb (s.L.length : Int) (nb (s.L.length : Int) none (dhs s 0)) (dhs s 1)
/-- None, or one with a Gen. -/
def GenOk (o : Option Sp) : Prop := ∀ t, o = some t → 1 ≤ t.gen
theorem nb_ok {n : Int} {o : Option Sp} (h : GenOk o) (x : List Int) : GenOk (nb n o x) := by
  intro t ht
  unfold nb at ht
  split at ht
  · rename_i u hu
    split at ht
    · cases ht
      exact (mayU_iff.1 (getU_some.1 hu).1).1.1
    · exact h t ht
  · exact h t ht
theorem genOk_none : GenOk none := fun t e => by cases e
theorem genOk_zero {o : Option Sp} (h : GenOk o) : (o.getD sp0).gen = 0 ↔ o = none := by
  cases o with
  | none => simp [sp0]
  | some t => have := h t rfl; simp; omega

/-- A newest one is told. -/
def LoadR (o : Option Sp) (w : World) (e : Ending) (w' : World) : Prop :=
  ∃ a c, e = .returned (.tuple #[supv (o.getD sp0) (.slice a (o.getD sp0).vs.length c), .int .i64 (if o.isSome = true then 0 else 7)]) ∧ RdV w' (.slice a (o.getD sp0).vs.length c) (o.getD sp0).vs ∧ Below w.heap.size w w' ∧ ∀ j, (Value.slice a (o.getD sp0).vs.length c).ownBlock = some j → w.heap.size ≤ j

theorem inf_two : (Try.prog.info? 88).map (·.size) = some 2 := by kernel_rfl
def nil2 : List Value := [.slice none 0 0, .slice none 0 0]
theorem len2U {α : Type} {l : List α} (h : l.length = 2) : ∃ a b, l = [a, b] := by
  match l, h with
  | [a, b], _ => exact ⟨a, b, rfl⟩

set_option maxHeartbeats 1000000 in
theorem sectorsOf_any {S : Nat → Prop} {d : Nat} {s : DS} (w : World) (h : Dk S w d s) :
    Calls Try.prog 51 #[dp d] w fun e w' => ∃ v0 v1, e = .returned (.agg #[v0, v1]) ∧ Rd .u8 w' v0 (dhs s 0) ∧ Rd .u8 w' v1 (dhs s 1) ∧ Below w.heap.size w w' ∧ (∀ j, v0.ownBlock = some j → w.heap.size ≤ j) ∧ ∀ j, v1.ownBlock = some j → w.heap.size ≤ j := by
  have HD : Hid (Dk S w d s) := h
  have HI := hideP inf_two
  obtain ⟨W1, hW1⟩ : ∃ W1, w.alloc (.cells #[.slice none 0 0, .slice none 0 0] 88) = W1 := ⟨_, rfl⟩
  obtain ⟨W2, hW2⟩ : ∃ W2, W1.alloc (.cells #[.slice none 0 0, .slice none 0 0] 88) = W2 := ⟨_, rfl⟩
  have s1 : W1.heap.size = w.heap.size + 1 := by rw [← hW1]; simp
  have b1 : Below w.heap.size w W1 := by rw [← hW1]; exact (Below.refl _ _).alloc (Nat.le_refl _) _
  have b2 : Below W1.heap.size W1 W2 := by rw [← hW2]; exact (Below.refl _ _).alloc (Nat.le_refl _) _
  have B2 : Hid (Below w.heap.size w W2) := b1.trans (b2.mono (by omega))
  have M1 : W1.heap[w.heap.size]? = some (.cells nil2.toArray 88 (0, 0)) := by rw [← hW1]; exact heap_alloc_new w _
  have M2 : Hid (W2.heap[w.heap.size]? = some (.cells nil2.toArray 88 (0, 0))) := by show _ = _; rw [b2.block _ (by omega)]; exact M1
  have N2 : Hid (W2.heap[w.heap.size + 1]? = some (.cells nil2.toArray 88 (0, 0))) := by show _ = _; rw [← hW2, ← s1]; exact heap_alloc_new W1 _
  clear h b1 b2 M1
  go_enter Try.func51, Try.ntmps51
  go_wp2_with fail
  clear hW1 hW2 s1
  obtain ⟨g, hg⟩ : ∃ g, Hid (w.heap.size = g) := ⟨_, rfl⟩
  rw [hg.out] at B2 M2 N2 ⊢
  go_loopw [5] (fun i wr => ∃ (k : Nat) (L2 : List Value), k ≤ 2 ∧ i = .int .i64 k ∧ Hid (L2.length = 2 ∧ (∀ v ∈ L2, ∃ a n c, v = .slice a n c ∧ (∀ j, (Value.slice a n c).ownBlock = some j → g + 1 < j)) ∧ ∀ i, i < k → ∃ v, L2[i]? = some v ∧ Rd .u8 wr v (dhs s (i : Int))) ∧ Hid (wr.heap[g]? = some (.cells nil2.toArray 88 (0, 0))) ∧ Hid (wr.heap[g + 1]? = some (.cells L2.toArray 88 (0, 0))) ∧ Hid (Below g w wr)) (fun i _ => 2 - (intOf i).toNat)
  case atStart => exact ⟨0, nil2, by decide, rfl, ⟨rfl, fun v hv => ⟨none, 0, 0, by simp [nil2] at hv; exact hv, fun j hj => by cases hj⟩, fun i hi => by omega⟩, M2, N2, B2⟩
  case round =>
    clear B2 M2 N2
    obtain ⟨k, L2, hk, rfl, HL, M, N, B⟩ := hrel
    have hgs : g + 1 < wr.heap.size := (Array.getElem?_eq_some_iff.1 N.out).1
    by_cases hlt : k < 2
    · have hki : (k : Int) < 2 := by omega
      have HC := hideP (read_all (k : Int) wr (HD.out.below (hg.out ▸ B.out : Below w.heap.size w wr)))
      go_wp2_with fail
      refine HC.out.mono ?_
      rintro e w3 ⟨v, rfl, wz, b3, n3⟩
      have hrd := wz.rd
      obtain ⟨a, c, hv, _⟩ := id hrd
      subst hv
      have M3 : Hid (w3.heap[g]? = some (.cells nil2.toArray 88 (0, 0))) := by show _ = _; rw [b3.block g (by omega)]; exact M.out
      have N3 : w3.heap[g + 1]? = some (.cells L2.toArray 88 (0, 0)) := by rw [b3.block (g + 1) (by omega)]; exact N.out
      obtain ⟨x, hx⟩ : ∃ x, L2[k]? = some x := ⟨_, List.getElem?_eq_getElem (by rw [HL.out.1]; exact hlt)⟩
      have cx : w3.cell? ⟨g + 1, k, none⟩ = some x := by rw [cell_of_row w3 (g + 1) k _ _ (0, 0) N3, List.getElem?_toArray]; exact hx
      have fx : w3.frozen? ⟨g + 1, k, none⟩ = false := frozen_of_row w3 (g + 1) k _ _ N3
      obtain ⟨X, hX⟩ : ∃ X, Value.slice a (dhs s (k : Int)).length c = X := ⟨_, rfl⟩
      have T4 : Tch (fun j => j = g + 1) w3 (w3.setCell ⟨g + 1, k, none⟩ X) := Tch.setCell (Tch.refl (fun j => j = g + 1) w3) (p := ⟨g + 1, k, none⟩) (fun _ => rfl) _
      have N4 : Hid ((w3.setCell ⟨g + 1, k, none⟩ X).heap[g + 1]? = some (.cells (L2.set k X).toArray 88 (0, 0))) := by
        show _ = _
        rw [heap_setCell_same w3 (g + 1) k _ _ X N3]
        simp
      have M4 : Hid ((w3.setCell ⟨g + 1, k, none⟩ X).heap[g]? = some (.cells nil2.toArray 88 (0, 0))) := by
        show _ = _
        rw [T4.block g (Array.getElem?_eq_some_iff.1 M3.out).1 (by omega)]
        exact M3.out
      have B4 : Hid (Below g w (w3.setCell ⟨g + 1, k, none⟩ X)) := (B.out.trans (b3.mono (by omega))).setCell (by show g ≤ g + 1; omega) _
      have HL4 : Hid ((L2.set k X).length = 2 ∧ (∀ v ∈ L2.set k X, ∃ a n c, v = .slice a n c ∧ (∀ j, (Value.slice a n c).ownBlock = some j → g + 1 < j)) ∧ ∀ i, i < k + 1 → ∃ v, (L2.set k X)[i]? = some v ∧ Rd .u8 (w3.setCell ⟨g + 1, k, none⟩ X) v (dhs s (i : Int))) := by
        have hXn : ∀ j, X.ownBlock = some j → g + 1 < j := fun j hj => Nat.lt_of_lt_of_le hgs (n3 j (by rw [hX]; exact hj))
        refine ⟨by rw [List.length_set]; exact HL.out.1, fun v hv => ?_, fun i hi => ?_⟩
        · rcases List.mem_or_eq_of_mem_set hv with e | e
          · exact HL.out.2.1 v e
          · exact ⟨a, _, c, by rw [e, hX], by rw [hX]; exact hXn⟩
        · rw [List.getElem?_set]
          by_cases e : k = i
          · subst e
            refine ⟨X, by rw [if_pos rfl, if_pos (by rw [HL.out.1]; exact hlt)], ?_⟩
            rw [← hX]
            exact (by rw [hX] at hrd; rw [hX]; exact hrd.tch T4 (fun j hj e => by have := hXn j hj; have e2 : j = g + 1 := e; omega))
          · obtain ⟨v, h1, h2⟩ := HL.out.2.2 i (by omega)
            refine ⟨v, by rw [if_neg e]; exact h1, ?_⟩
            obtain ⟨va, vn, vc, rfl, hvn⟩ := HL.out.2.1 v (List.mem_of_getElem? h1)
            exact (h2.below b3).tch T4 (fun j hj e => by have := hvn j hj; have e2 : j = g + 1 := e; omega)
      subst hX
      clear wz hrd n3 b3 HL N M B HC N3 T4 hx M3
      go_wp2_with fail
      go_roundw
      case rel => exact ⟨k + 1, _, by omega, by go_num, HL4, M4, N4, B4⟩
      case measure => simp [intOf]; omega
    · have hki : ¬ (k : Int) < 2 := by omega
      obtain ⟨x0, x1, rfl⟩ := len2U HL.out.1
      obtain ⟨v0, e0, r0⟩ := HL.out.2.2 0 (by omega)
      obtain ⟨v1, e1, r1⟩ := HL.out.2.2 1 (by omega)
      simp at e0 e1
      subst e0
      subst e1
      obtain ⟨a0, n0, c0, hx0, h0⟩ := HL.out.2.1 x0 (by simp)
      obtain ⟨a1, n1, c1, hx1, h1⟩ := HL.out.2.1 x1 (by simp)
      have R0 := hideP r0
      have R1 := hideP r1
      have y0 : wr.cell? ⟨g + 1, 0, none⟩ = some x0 := by rw [cell_of_row wr (g + 1) 0 _ _ (0, 0) N.out]; rfl
      have y1 : wr.cell? ⟨g + 1, 1, none⟩ = some x1 := by rw [cell_of_row wr (g + 1) 1 _ _ (0, 0) N.out]; rfl
      have z0 : wr.cell? ⟨g, 0, none⟩ = some (.slice none 0 0) := by rw [cell_of_row wr g 0 _ _ (0, 0) M.out]; rfl
      have z1 : wr.cell? ⟨g, 1, none⟩ = some (.slice none 0 0) := by rw [cell_of_row wr g 1 _ _ (0, 0) M.out]; rfl
      have f0 := frozen_of_row wr g 0 _ _ M.out
      have f1 := frozen_of_row wr g 1 _ _ M.out
      have T4 : Tch (fun j => j = g) wr (wr.setCells g 0 [x0, x1]) := setCells_tchD g _ 0 wr
      have hs := heap_setCells_same [x0, x1] 0 wr _ M.out (by simp [nil2])
      have HLD : Hid ((loadVar 88 ⟨g, 0, none⟩).run Try.prog (wr.setCells g 0 [x0, x1]) = .ok (.agg #[x0, x1]) (wr.setCells g 0 [x0, x1])) := by
        refine run_loadVar_mid (P := Try.prog) _ g 0 88 [x0, x1] _ (fun j u hu => ?_) Try.underlying88 rfl inf_two
        rw [Nat.zero_add, cell_of_row _ g j _ _ (0, 0) hs]
        simp [nil2]
        exact hu
      have R0' := hideP (r0.tch T4 (fun j hj e => by rw [hx0] at hj; have := h0 j hj; have e2 : j = g := e; omega))
      have R1' := hideP (r1.tch T4 (fun j hj e => by rw [hx1] at hj; have := h1 j hj; have e2 : j = g := e; omega))
      have B4 : Hid (Below g w (wr.setCells g 0 [x0, x1])) := B.out.trans (T4.below (by omega) (fun j e => by omega))
      have e4 : wr.setCells g 0 [x0, x1] = (wr.setCell ⟨g, 0, none⟩ x0).setCell ⟨g, 1, none⟩ x1 := rfl
      rw [e4] at HLD R0' R1' B4
      have H0 := hideP h0
      have H1 := hideP h1
      clear r0 r1 h0 h1 HL M N B T4 hs hlt R0 R1 e4
      subst hx0
      subst hx1
      go_wp2_with fail
      refine bodyPost_ret (v := .agg #[.slice a0 n0 c0, .slice a1 n1 c1]) (results_atU (p := 2) (ty := 88) rfl _ _ _ g _ rfl HLD.out) rfl ?_
      exact ⟨_, _, rfl, R0'.out, R1'.out, by rw [hg.out]; exact B4.out, fun j hj => by have := H0.out j hj; rw [hg.out]; omega, fun j hj => by have := H1.out j hj; rw [hg.out]; omega⟩
end Go.Proofs.Ytdicgaepggffbaa
/-
  The program's Load of superblocks.
-/
namespace Go.Proofs.Ytdicgaepggffbaa
open Go.RowKit Pl
set_option linter.unusedVariables false
set_option linter.unusedSimpArgs false
set_option maxRecDepth 100000

/-- The newest of the first k. -/
def nbK (s : DS) : Nat → Option Sp
  | 0 => none
  | k + 1 => nb (s.L.length : Int) (nbK s k) (dhs s (k : Int))
theorem nbK_two (s : DS) : nbK s 2 = loadU s := rfl
theorem nbK_ok (s : DS) : ∀ k, GenOk (nbK s k)
  | 0 => genOk_none
  | k + 1 => nb_ok (nbK_ok s k) _

set_option maxHeartbeats 400000 in
theorem load_nilU (w : World) : Calls Try.prog 30 #[.pointer none] w fun e w' => e = .returned (.tuple #[supv sp0 (.slice none 0 0), .int .i64 1]) ∧ Below w.heap.size w w' := by
  obtain ⟨W1, hW1⟩ : ∃ W1, w.alloc (.cells #[.int .i64 0, .int .i64 0, .int .i64 0, .slice none 0 0] 24) = W1 := ⟨_, rfl⟩
  have b1 : Hid (Below w.heap.size w W1) := by rw [← hW1]; exact (Below.refl _ _).alloc (Nat.le_refl _) _
  have Q1 : Hid (Uv W1 w.heap.size sp0 (.slice none 0 0)) := by rw [← hW1]; exact uv_new w sp0 _
  have q0 : W1.cell? ⟨w.heap.size, 0, none⟩ = some (.int .i64 0) := Q1.out.c0
  have q1 : W1.cell? ⟨w.heap.size, 1, none⟩ = some (.int .i64 0) := Q1.out.c1
  have q2 : W1.cell? ⟨w.heap.size, 2, none⟩ = some (.int .i64 0) := Q1.out.c2
  have q3 := Q1.out.c3
  have f0 := Q1.out.fz 0
  have f1 := Q1.out.fz 1
  have f2 := Q1.out.fz 2
  have f3 := Q1.out.fz 3
  have HLD := hideP (Q1.out.put sp0 (.slice none 0 0)).load
  have HB : Hid (Below w.heap.size w ((((W1.setCell ⟨w.heap.size, 0, none⟩ (.int .i64 sp0.gen)).setCell ⟨w.heap.size, 1, none⟩ (.int .i64 sp0.sc)).setCell ⟨w.heap.size, 2, none⟩ (.int .i64 sp0.nx)).setCell ⟨w.heap.size, 3, none⟩ (.slice none 0 0))) := b1.out.trans ((Q1.out.tset sp0 _).below (by have := Q1.out.lt; omega) (fun k e => by omega))
  go_enter Try.func30, Try.ntmps30
  go_wp2_with fail
  refine bodyPost_ret (v := .tuple #[supv sp0 (.slice none 0 0), .int .i64 1]) (results_cellV (p := 2) (ty := 24) rfl _ _ _ w.heap.size _ _ rfl HLD.out rfl) rfl ?_
  exact ⟨rfl, HB.out⟩

theorem idx_0 (W : World) (a0 a1 : Option Addr) (l0 l1 c0 c1 : Nat) : (Instr.index 88 (.agg #[.slice a0 l0 c0, .slice a1 l1 c1]) (.int .i64 0)).run Try.prog W = .ok (.slice a0 l0 c0) W := by kernel_rfl
theorem idx_1 (W : World) (a0 a1 : Option Addr) (l0 l1 c0 c1 : Nat) : (Instr.index 88 (.agg #[.slice a0 l0 c0, .slice a1 l1 c1]) (.int .i64 1)).run Try.prog W = .ok (.slice a1 l1 c1) W := by kernel_rfl
theorem dhs_by {S : Nat → Prop} {w : World} {d : Nat} {s : DS} (h : Dk S w d s) (at_ : Int) : By (dhs s at_) := by
  obtain ⟨lb, vb, lc, g, h⟩ := h
  unfold dhs
  by_cases c : at_ < 0 ∨ (s.L.length : Int) ≤ at_
  · rw [if_pos c]; exact by_of_memB (by simp)
  · rw [if_neg c]; exact (DS.has_ok h (by omega)).2
theorem nb_none {n : Int} {o : Option Sp} {x : List Int} (h : getU x = none) : nb n o x = o := by unfold nb; rw [h]
theorem nb_skip {n : Int} {o : Option Sp} {x : List Int} {t : Sp} (h : getU x = some t) (c : ¬ (t.sc = n ∧ (o.getD sp0).gen < t.gen)) : nb n o x = o := by unfold nb; rw [h]; exact if_neg c
theorem nb_take {n : Int} {o : Option Sp} {x : List Int} {t : Sp} (h : getU x = some t) (c : t.sc = n ∧ (o.getD sp0).gen < t.gen) : nb n o x = some t := by unfold nb; rw [h]; exact if_pos c

set_option maxHeartbeats 1000000 in
theorem load_anyU {S : Nat → Prop} {d : Nat} {s : DS} (w : World) (h : Dk S w d s) :
    Calls Try.prog 30 #[dp d] w fun e w' => LoadR (loadU s) w e w' := by
  have HD : Hid (Dk S w d s) := h
  have hLn := h.len
  obtain ⟨W1, hW1⟩ : ∃ W1, w.alloc (.cells #[.int .i64 0, .int .i64 0, .int .i64 0, .slice none 0 0] 24) = W1 := ⟨_, rfl⟩
  obtain ⟨W2, hW2⟩ : ∃ W2, W1.alloc (.cells #[.int .i64 0, .int .i64 0, .int .i64 0, .slice none 0 0] 24) = W2 := ⟨_, rfl⟩
  have s1 : W1.heap.size = w.heap.size + 1 := by rw [← hW1]; simp
  have b1 : Below w.heap.size w W1 := by rw [← hW1]; exact (Below.refl _ _).alloc (Nat.le_refl _) _
  have b2 : Below W1.heap.size W1 W2 := by rw [← hW2]; exact (Below.refl _ _).alloc (Nat.le_refl _) _
  have B2 : Hid (Below w.heap.size w W2) := b1.trans (b2.mono (by omega))
  have U1 : Uv W1 w.heap.size sp0 (.slice none 0 0) := by rw [← hW1]; exact uv_new w sp0 _
  have Q2 : Hid (Uv W2 w.heap.size sp0 (.slice none 0 0)) := U1.below b2
  have U2 : Hid (Uv W2 (w.heap.size + 1) sp0 (.slice none 0 0)) := by rw [← hW2, ← s1]; exact uv_new W1 sp0 _
  have HC2 := hideP (sectorsOf_any W2 (HD.out.below B2.out))
  obtain ⟨n, hn⟩ : ∃ n, Hid (s.L.length = n) := ⟨_, rfl⟩
  rw [hn.out] at hLn
  obtain ⟨hn1, hn2⟩ := hLn
  clear h b1 b2 U1
  go_enter Try.func30, Try.ntmps30
  go_wp2_with fail
  refine HC2.out.mono ?_
  rintro e w3 ⟨v0, v1, rfl, r0, r1, b3, n0, n1⟩
  obtain ⟨g, hg⟩ : ∃ g, Hid (w.heap.size = g) := ⟨_, rfl⟩
  rw [hg.out] at Q2 U2 B2 ⊢
  have hg2 : g ≤ W2.heap.size := by have := B2.out.size; have := hg.out; omega
  have Q3 : Hid (Uv w3 g sp0 (.slice none 0 0)) := Q2.out.below b3
  have U3 : Hid (Uv w3 (g + 1) sp0 (.slice none 0 0)) := U2.out.below b3
  have B3 : Hid (Below g w w3) := B2.out.trans (b3.mono hg2)
  obtain ⟨a0, c0, hv0, _⟩ := id r0
  obtain ⟨a1, c1, hv1, _⟩ := id r1
  have R0 : Hid (Rd .u8 w3 v0 (dhs s 0)) := r0
  have R1 : Hid (Rd .u8 w3 v1 (dhs s 1)) := r1
  have N0 : Hid (∀ j, v0.ownBlock = some j → g + 1 < j) := fun j hj => by have := n0 j hj; have := U2.out.lt; omega
  have N1 : Hid (∀ j, v1.ownBlock = some j → g + 1 < j) := fun j hj => by have := n1 j hj; have := U2.out.lt; omega
  rw [hv0, hv1]
  rw [hv0] at R0 N0
  rw [hv1] at R1 N1
  generalize (dhs s 0).length = l0 at *
  generalize (dhs s 1).length = l1 at *
  clear r0 r1 b3 n0 n1 hW1 hW2 s1 Q2 U2 B2 HC2 hv0 hv1 hg2
  go_wp2_with fail
  go_loopw [14] (fun i wr => ∃ (k : Nat) (a : Option Addr) (c : Nat) (T : Sp), k ≤ 2 ∧ i = .int .i64 k ∧ Hid ((nbK s k).getD sp0 = T) ∧ Hid (Uv wr (g + 1) T (.slice a T.vs.length c)) ∧ Hid (RdV wr (.slice a T.vs.length c) T.vs) ∧ Hid (∀ j, (Value.slice a T.vs.length c).ownBlock = some j → g + 1 < j) ∧ Hid (Uv wr g sp0 (.slice none 0 0)) ∧ Hid (Below g w wr ∧ Rd .u8 wr (.slice a0 l0 c0) (dhs s 0) ∧ Rd .u8 wr (.slice a1 l1 c1) (dhs s 1))) (fun i _ => 2 - (intOf i).toNat)
  case atStart => exact ⟨0, none, 0, sp0, by decide, rfl, rfl, U3, rdV_nil _, (show Hid _ from fun j hj => by cases hj), Q3, ⟨B3.out, R0.out, R1.out⟩⟩
  case round =>
    clear U3 Q3
    obtain ⟨k, a, c, T, hk, rfl, HT, U, R, N, Q, B⟩ := hrel
    by_cases hlt : k < 2
    · have hki : (k : Int) < 2 := by omega
      obtain ⟨av, lv, cv, hidx, hrd⟩ : ∃ (av : Option Addr) (lv cv : Nat), (∀ W, (Instr.index 88 (.agg #[.slice a0 l0 c0, .slice a1 l1 c1]) (.int .i64 (k : Int))).run Try.prog W = .ok (.slice av lv cv) W) ∧ Rd .u8 wr (.slice av lv cv) (dhs s (k : Int)) := by
        have h01 : k = 0 ∨ k = 1 := by omega
        rcases h01 with rfl | rfl
        · exact ⟨a0, l0, c0, fun W => idx_0 W a0 a1 l0 l1 c0 c1, B.out.2.1⟩
        · exact ⟨a1, l1, c1, fun W => idx_1 W a0 a1 l0 l1 c0 c1, B.out.2.2⟩
      have HX : Hid (Rd .u8 wr (.slice av lv cv) (dhs s (k : Int))) := hrd
      have HXB : Hid (By (dhs s (k : Int))) := dhs_by HD.out _
      have hg1 : g + 1 < wr.heap.size := U.out.lt
      clear hrd
      go_wp2_with fail
      refine (getU_any _ _ wr HX.out HXB.out).mono ?_
      intro e w4 h
      obtain ⟨a4, c4, rfl, r4, b4, n4⟩ := getU_open h
      clear h hidx
      obtain ⟨G, hG⟩ : ∃ G, Hid (getU (dhs s (k : Int)) = G) := ⟨_, rfl⟩
      rw [hG.out] at r4 n4 ⊢
      obtain ⟨X, hX⟩ : ∃ X, Hid (G.getD sp0 = X) := ⟨_, rfl⟩
      rw [hX.out] at r4 n4 ⊢
      obtain ⟨q, hq⟩ : ∃ q, w4.heap.size = q := ⟨_, rfl⟩
      obtain ⟨W5, hW5⟩ : ∃ W5, w4.alloc (.cells #[.int .i64 X.gen, .int .i64 X.sc, .int .i64 X.nx, .slice a4 X.vs.length c4] 24) = W5 := ⟨_, rfl⟩
      have b5 : Below w4.heap.size w4 W5 := by rw [← hW5]; exact (Below.refl _ _).alloc (Nat.le_refl _) _
      have b45 : Below wr.heap.size wr W5 := b4.trans (b5.mono b4.size)
      have V5 : Hid (Uv W5 q X (.slice a4 X.vs.length c4)) := by rw [← hW5, ← hq]; exact uv_new w4 X _
      have Y5 : Hid (RdV W5 (.slice a4 X.vs.length c4) X.vs) := r4.below b5
      have U5 : Hid (Uv W5 (g + 1) T (.slice a T.vs.length c)) := U.out.below b45
      have R5 : Hid (RdV W5 (.slice a T.vs.length c) T.vs) := R.out.below b45
      have Q5 : Hid (Uv W5 g sp0 (.slice none 0 0)) := Q.out.below b45
      have B5 : Hid (Below g w W5 ∧ Rd .u8 W5 (.slice a0 l0 c0) (dhs s 0) ∧ Rd .u8 W5 (.slice a1 l1 c1) (dhs s 1)) := ⟨B.out.1.trans (b45.mono (by omega)), B.out.2.1.below b45, B.out.2.2.below b45⟩
      have NX : Hid (∀ j, (Value.slice a4 X.vs.length c4).ownBlock = some j → g + 1 < j) := fun j hj => by have := n4 j hj; omega
      have HQG : Hid (g + 1 < q) := by show _ < _; rw [← hq]; exact Nat.lt_of_lt_of_le hg1 b4.size
      have HSZ : Hid (∀ m, Calls Try.prog 43 #[dp d] (W5.drewN m) fun e w' => e = .returned (.int .i64 (n : Int)) ∧ w' = W5.drewN m) := fun m => by
        have hd : Dk S (W5.drewN m) d s := HD.out.below (by rw [hg.out]; exact B5.out.1.trans (Below.of_drewN _ _ _))
        have := size_any (W5.drewN m) hd
        rw [hn.out] at this
        exact this
      have v0 := V5.out.c0
      have v1 := V5.out.c1
      have v2 := V5.out.c2
      have v3 := V5.out.c3
      have t0 := U5.out.c0
      obtain ⟨m, hm⟩ : ∃ m, Hid (T.vs.length = m) := ⟨_, rfl⟩
      obtain ⟨tg, htg⟩ : ∃ m, Hid (T.gen = m) := ⟨_, rfl⟩
      obtain ⟨xm, hxm⟩ : ∃ m, Hid (X.vs.length = m) := ⟨_, rfl⟩
      obtain ⟨xg, hxg⟩ : ∃ m, Hid (X.gen = m) := ⟨_, rfl⟩
      obtain ⟨xc, hxc⟩ : ∃ m, Hid (X.sc = m) := ⟨_, rfl⟩
      obtain ⟨xn, hxn⟩ : ∃ m, Hid (X.nx = m) := ⟨_, rfl⟩
      unfold supv
      rw [hxm.out] at hW5 V5 Y5 NX v3 ⊢
      rw [hxg.out, hxc.out, hxn.out] at hW5 ⊢
      rw [hxg.out] at v0
      rw [hxc.out] at v1
      rw [hxn.out] at v2
      rw [hm.out] at U5 R5 N
      rw [htg.out] at t0
      clear r4 b4 n4 b5 b45 U R Q B HX hg1
      cases hGo : G with
      | none =>
        rw [hGo] at hG
        have HG : Hid (getU (dhs s (k : Int)) = none) := hG
        clear hGo hG hX
        simp only [Option.isSome_none]
        have HN : Hid ((nbK s (k + 1)).getD sp0 = T) := by
          show (nb _ (nbK s k) _).getD sp0 = T
          rw [nb_none HG.out]
          exact HT.out
        go_wp2_with fail
        go_quiet (fail)
        have U7 : Hid (Uv (W5.drewN nq) (g + 1) T (.slice a m c)) := U5
        have R7 : Hid (RdV (W5.drewN nq) (.slice a m c) T.vs) := R5.out.below (Below.of_drewN _ _ _)
        have Q7 : Hid (Uv (W5.drewN nq) g sp0 (.slice none 0 0)) := Q5
        have B7 : Hid (Below g w (W5.drewN nq) ∧ Rd .u8 (W5.drewN nq) (.slice a0 l0 c0) (dhs s 0) ∧ Rd .u8 (W5.drewN nq) (.slice a1 l1 c1) (dhs s 1)) := ⟨B5.out.1.trans (Below.of_drewN _ _ _), B5.out.2.1.below (Below.of_drewN _ _ _), B5.out.2.2.below (Below.of_drewN _ _ _)⟩
        rw [← hm.out] at U7 R7 N
        go_wp2_with fail
        exact ⟨⟨k + 1, a, c, T, by omega, by go_num, HN, U7, R7, N, Q7, B7⟩, by simp [intOf]; omega⟩
      | some t =>
        rw [hGo] at hG hX
        have HG : Hid (getU (dhs s (k : Int)) = some t) := hG
        obtain rfl : t = X := hX.out
        clear hGo hG hX
        simp only [Option.isSome_some]
        by_cases e1 : xc = (n : Int)
        · by_cases e2 : xg > tg
          · have e2b : tg < xg := e2
            have HN : Hid ((nbK s (k + 1)).getD sp0 = t) := by
              show (nb _ (nbK s k) _).getD sp0 = t
              rw [nb_take HG.out ⟨by rw [hxc.out, hn.out]; exact e1, by rw [HT.out, htg.out, hxg.out]; exact e2b⟩]
              rfl
            have e1b : (xc == (n : Int)) = true := by rw [beq_iff_eq]; exact e1
            have t1 := U5.out.c1
            have t2 := U5.out.c2
            have t3 := U5.out.c3
            generalize T.sc = tsc at t1
            generalize T.nx = tnx at t2
            subst e1
            go_wp2_with fail
            go_quiet (first | (go_at_call 43; exact Calls.quiet_of_same (HSZ.out _)))
            obtain ⟨W6, hW6⟩ : ∃ W6, Hid (W5.drewN nq = W6) := ⟨_, rfl⟩
            have U6 : Hid (Uv W6 (g + 1) T (.slice a m c)) := by rw [← hW6.out]; exact U5
            have V6 : Hid (Uv W6 q t (.slice a4 xm c4)) := by rw [← hW6.out]; exact V5
            have Y6 : Hid (RdV W6 (.slice a4 xm c4) t.vs) := by rw [← hW6.out]; exact Y5.out.below (Below.of_drewN _ _ _)
            have Q6 : Hid (Uv W6 g sp0 (.slice none 0 0)) := by rw [← hW6.out]; exact Q5
            have B6 : Hid (Below g w W6 ∧ Rd .u8 W6 (.slice a0 l0 c0) (dhs s 0) ∧ Rd .u8 W6 (.slice a1 l1 c1) (dhs s 1)) := by rw [← hW6.out]; exact ⟨B5.out.1.trans (Below.of_drewN _ _ _), B5.out.2.1.below (Below.of_drewN _ _ _), B5.out.2.2.below (Below.of_drewN _ _ _)⟩
            rw [hW6.out]
            clear v0 v1 v2 v3 t0 t1 t2 t3 U5 V5 Y5 Q5 B5 hW6 hW5 hq
            have v0 := V6.out.c0
            have v1 := V6.out.c1
            have v2 := V6.out.c2
            have v3 := V6.out.c3
            have t0 := U6.out.c0
            have t1 := U6.out.c1
            have t2 := U6.out.c2
            have t3 := U6.out.c3
            have f0 := U6.out.fz 0
            have f1 := U6.out.fz 1
            have f2 := U6.out.fz 2
            have f3 := U6.out.fz 3
            have HP := hideP (U6.out.put t (.slice a4 xm c4))
            have HTS := hideP (U6.out.tset t (.slice a4 xm c4))
            have Y8 := hideP (Y6.out.tch HTS.out (fun j hj e => by have := NX.out j hj; have e3 : j = g + 1 := e; omega))
            have Q8 := hideP (Q6.out.tch HTS.out (by omega))
            have B8 := hideP (And.intro (B6.out.1.trans (HTS.out.below (by have := Q6.out.lt; omega) (fun j e => by rw [e]; omega))) (And.intro (B6.out.2.1.tch HTS.out (fun j hj e => by have := N0.out j hj; have e3 : j = g + 1 := e; omega)) (B6.out.2.2.tch HTS.out (fun j hj e => by have := N1.out j hj; have e3 : j = g + 1 := e; omega))))
            rw [hxg.out, hxc.out, hxn.out] at HP HTS Y8 Q8 B8
            rw [hxg.out] at v0
            rw [hxc.out] at v1
            rw [hxn.out] at v2
            clear U6 V6 Y6 Q6 B6
            generalize T.gen = tg2 at t0
            generalize T.sc = tsc at t1
            generalize T.nx = tnx at t2
            go_wp2_with fail
            exact ⟨⟨k + 1, a4, c4, t, by omega, by go_num, HN, by rw [hxm.out]; exact HP, by rw [hxm.out]; exact Y8, by rw [hxm.out]; exact NX, Q8, B8⟩, by simp [intOf]; omega⟩
          · have e2d : decide (xg > tg) = false := decide_eq_false e2
            have e2f : decide (tg < xg) = false := decide_eq_false e2
            have e1b : (xc == (n : Int)) = true := by rw [beq_iff_eq]; exact e1
            have hcn : ¬ (t.sc = (s.L.length : Int) ∧ ((nbK s k).getD sp0).gen < t.gen) := fun h => e2 (by have := h.2; rw [HT.out, htg.out, hxg.out] at this; exact this)
            have HCN := hideP hcn
            clear hcn
            subst e1
            have HN : Hid ((nbK s (k + 1)).getD sp0 = T) := by
              show (nb _ (nbK s k) _).getD sp0 = T
              rw [nb_skip HG.out HCN.out]
              exact HT.out
            go_wp2_with fail
            go_quiet (first | (go_at_call 43; exact Calls.quiet_of_same (HSZ.out _)))
            have U7 : Hid (Uv (W5.drewN nq) (g + 1) T (.slice a m c)) := U5
            have R7 : Hid (RdV (W5.drewN nq) (.slice a m c) T.vs) := R5.out.below (Below.of_drewN _ _ _)
            have Q7 : Hid (Uv (W5.drewN nq) g sp0 (.slice none 0 0)) := Q5
            have B7 : Hid (Below g w (W5.drewN nq) ∧ Rd .u8 (W5.drewN nq) (.slice a0 l0 c0) (dhs s 0) ∧ Rd .u8 (W5.drewN nq) (.slice a1 l1 c1) (dhs s 1)) := ⟨B5.out.1.trans (Below.of_drewN _ _ _), B5.out.2.1.below (Below.of_drewN _ _ _), B5.out.2.2.below (Below.of_drewN _ _ _)⟩
            rw [← hm.out] at U7 R7 N
            go_wp2_with fail
            exact ⟨⟨k + 1, a, c, T, by omega, by go_num, HN, U7, R7, N, Q7, B7⟩, by simp [intOf]; omega⟩
        · have e1b : (xc == (n : Int)) = false := by rw [beq_eq_false_iff_ne]; exact e1
          have hcn : ¬ (t.sc = (s.L.length : Int) ∧ ((nbK s k).getD sp0).gen < t.gen) := fun h => e1 (by rw [← hxc.out, ← hn.out]; exact h.1)
          have HCN := hideP hcn
          clear hcn
          have HN : Hid ((nbK s (k + 1)).getD sp0 = T) := by
            show (nb _ (nbK s k) _).getD sp0 = T
            rw [nb_skip HG.out HCN.out]
            exact HT.out
          go_wp2_with fail
          go_quiet (first | (go_at_call 43; exact Calls.quiet_of_same (HSZ.out _)))
          have U7 : Hid (Uv (W5.drewN nq) (g + 1) T (.slice a m c)) := U5
          have R7 : Hid (RdV (W5.drewN nq) (.slice a m c) T.vs) := R5.out.below (Below.of_drewN _ _ _)
          have Q7 : Hid (Uv (W5.drewN nq) g sp0 (.slice none 0 0)) := Q5
          have B7 : Hid (Below g w (W5.drewN nq) ∧ Rd .u8 (W5.drewN nq) (.slice a0 l0 c0) (dhs s 0) ∧ Rd .u8 (W5.drewN nq) (.slice a1 l1 c1) (dhs s 1)) := ⟨B5.out.1.trans (Below.of_drewN _ _ _), B5.out.2.1.below (Below.of_drewN _ _ _), B5.out.2.2.below (Below.of_drewN _ _ _)⟩
          rw [← hm.out] at U7 R7 N
          go_wp2_with fail
          exact ⟨⟨k + 1, a, c, T, by omega, by go_num, HN, U7, R7, N, Q7, B7⟩, by simp [intOf]; omega⟩
    · have hki : ¬ (k : Int) < 2 := by omega
      obtain rfl : k = 2 := by omega
      rw [nbK_two] at HT
      have hok : GenOk (loadU s) := nbK_ok s 2
      obtain ⟨o, ho⟩ : ∃ o, Hid (loadU s = o) := ⟨_, rfl⟩
      rw [ho.out] at HT hok
      have t0 := U.out.c0
      have t1 := U.out.c1
      have t2 := U.out.c2
      have t3 := U.out.c3
      have q0 : wr.cell? ⟨g, 0, none⟩ = some (.int .i64 0) := Q.out.c0
      have q1 : wr.cell? ⟨g, 1, none⟩ = some (.int .i64 0) := Q.out.c1
      have q2 : wr.cell? ⟨g, 2, none⟩ = some (.int .i64 0) := Q.out.c2
      have q3 := Q.out.c3
      have f0 := Q.out.fz 0
      have f1 := Q.out.fz 1
      have f2 := Q.out.fz 2
      have f3 := Q.out.fz 3
      have HO : Hid (GenOk o) := hok
      clear hok
      cases o with
      | none =>
        obtain rfl : sp0 = T := HT.out
        have t0' : wr.cell? ⟨g + 1, 0, none⟩ = some (.int .i64 0) := t0
        have HLD := hideP (Q.out.put sp0 (.slice none 0 0)).load
        have HBE := hideP (B.out.1.trans ((Q.out.tset sp0 (.slice none 0 0)).below (by have := Q.out.lt; omega) (fun j e => by omega)))
        clear t0 t1 t2 t3
        go_wp2_with fail
        refine bodyPost_ret (v := .tuple #[supv sp0 (.slice none 0 0), .int .i64 7]) (results_cellV (p := 2) (ty := 24) rfl _ _ _ g _ _ rfl HLD.out rfl) rfl ?_
        rw [ho.out]
        exact ⟨none, 0, rfl, rdV_nil _, by rw [hg.out]; exact HBE.out, fun j hj => by cases hj⟩
      | some x =>
        obtain rfl : x = T := HT.out
        have hge := HO.out x rfl
        have HLD := hideP (Q.out.put x (.slice a x.vs.length c)).load
        have HTS := hideP (Q.out.tset x (.slice a x.vs.length c))
        have HBE := hideP (B.out.1.trans (HTS.out.below (by have := Q.out.lt; omega) (fun j e => by omega)))
        have HRE := hideP (R.out.tch HTS.out (fun j hj e => by have e2 : j = g := e; have := N.out j hj; omega))
        obtain ⟨l, hl⟩ : ∃ l, Hid (x.vs.length = l) := ⟨_, rfl⟩
        obtain ⟨xg, hxg⟩ : ∃ m, Hid (x.gen = m) := ⟨_, rfl⟩
        obtain ⟨xc, hxc⟩ : ∃ m, Hid (x.sc = m) := ⟨_, rfl⟩
        obtain ⟨xn, hxn⟩ : ∃ m, Hid (x.nx = m) := ⟨_, rfl⟩
        rw [hxg.out, hxc.out, hxn.out] at HLD HTS HBE HRE
        rw [hl.out] at HLD HTS HBE HRE t3 N
        rw [hxg.out] at t0 hge
        rw [hxc.out] at t1
        rw [hxn.out] at t2
        have hne : (xg == 0) = false := by rw [beq_eq_false_iff_ne]; omega
        clear U R Q B
        go_wp2_with fail
        refine bodyPost_ret (v := .tuple #[supv x (.slice a l c), .int .i64 0]) (results_cellV (p := 2) (ty := 24) rfl _ _ _ g _ _ rfl HLD.out rfl) rfl ?_
        rw [ho.out]
        refine ⟨a, c, by rw [← hl.out]; rfl, by show RdV _ (.slice a x.vs.length c) x.vs; rw [hl.out]; exact HRE.out, by rw [hg.out]; exact HBE.out, fun j hj => by rw [← hl.out] at N; have := N.out j hj; rw [hg.out]; omega⟩
end Go.Proofs.Ytdicgaepggffbaa
/-
  The program's Save of superblocks.
-/
namespace Go.Proofs.Ytdicgaepggffbaa
open Go.RowKit Pl
set_option linter.unusedVariables false
set_option linter.unusedSimpArgs false
set_option maxRecDepth 100000

/-- What a Save answers, and leaves. -/
def sco (s : DS) (t : Sp) : Int := if mayU t = true ∧ t.sc = (s.L.length : Int) then 0 else 1
def svv (s : DS) (t : Sp) : DS := if mayU t = true ∧ t.sc = (s.L.length : Int) then (wrr s (t.gen % 2) (usec t)).fl else s

theorem fl_len (s : DS) : s.fl.L.length = s.L.length := by
  unfold DS.fl
  split <;> simp

set_option maxHeartbeats 400000 in
theorem save_nilU (t : Sp) (v : Value) (w : World) (hr : RdV w v t.vs) : Calls Try.prog 20 #[.pointer none, supv t v] w fun e w' => e = .returned (.int .i64 1) ∧ Below w.heap.size w w' := by
  obtain ⟨a, cap, rfl, _⟩ := id hr
  obtain ⟨W1, hW1⟩ : ∃ W1, w.alloc (.cells #[.int .i64 t.gen, .int .i64 t.sc, .int .i64 t.nx, .slice a t.vs.length cap] 24) = W1 := ⟨_, rfl⟩
  have B1 : Hid (Below w.heap.size w W1) := by rw [← hW1]; exact (Below.refl _ _).alloc (Nat.le_refl _) _
  generalize t.vs.length = l at *
  unfold supv
  clear hr
  go_enter Try.func20, Try.ntmps20
  go_wp2_with fail
  go_quiet (fail)
  go_wp2_with fail
  go_ret
  exact ⟨rfl, B1.out.trans (Below.of_drewN _ _ _)⟩

set_option maxHeartbeats 1000000 in
theorem save_anyU {S : Nat → Prop} {d : Nat} {s : DS} (t : Sp) (v : Value) (w : World) (h : Dk S w d s) (hr : RdV w v t.vs) (hm : ∀ i, (s.V i).length < 274877906943) :
    Calls Try.prog 20 #[dp d, supv t v] w fun e w' => e = .returned (.int .i64 (sco s t)) ∧ DkTo S w w' d (svv s t) := by
  obtain ⟨a, cap, rfl, _⟩ := id hr
  have HD : Hid (Dk S w d s) := h
  have hLn := h.len
  have HR : Hid (RdV w (.slice a t.vs.length cap) t.vs) := hr
  have HV : Hid (∀ i, (s.V i).length < 274877906943) := hm
  obtain ⟨W1, hW1⟩ : ∃ W1, w.alloc (.cells #[.int .i64 t.gen, .int .i64 t.sc, .int .i64 t.nx, .slice a t.vs.length cap] 24) = W1 := ⟨_, rfl⟩
  have B1 : Hid (Below w.heap.size w W1) := by rw [← hW1]; exact (Below.refl _ _).alloc (Nat.le_refl _) _
  have U1 : Hid (Uv W1 w.heap.size t (.slice a t.vs.length cap)) := by rw [← hW1]; exact uv_new w t _
  have q1 := U1.out.c1
  obtain ⟨n, hn⟩ : ∃ n, Hid (s.L.length = n) := ⟨_, rfl⟩
  rw [hn.out] at hLn
  obtain ⟨hn1, hn2⟩ := hLn
  have HSZ : Hid (∀ m, Calls Try.prog 43 #[dp d] (W1.drewN m) fun e w' => e = .returned (.int .i64 (n : Int)) ∧ w' = W1.drewN m) := fun m => by
    have := size_any (W1.drewN m) (HD.out.below (B1.out.trans (Below.of_drewN _ _ _)))
    rw [hn.out] at this
    exact this
  have HPU : Hid (∀ W, Below w.heap.size w W → Calls Try.prog 8 #[supv t (.slice a t.vs.length cap)] W fun e w' => PutU t W e w') := fun W h => putU_any t _ W (HR.out.below h)
  unfold supv at HPU
  unfold supv
  obtain ⟨l, hl⟩ : ∃ l, Hid (t.vs.length = l) := ⟨_, rfl⟩
  obtain ⟨ge, hge⟩ : ∃ l, Hid (t.gen = l) := ⟨_, rfl⟩
  obtain ⟨sc, hsc⟩ : ∃ l, Hid (t.sc = l) := ⟨_, rfl⟩
  obtain ⟨nx, hnx⟩ : ∃ l, Hid (t.nx = l) := ⟨_, rfl⟩
  rw [hl.out, hge.out, hsc.out, hnx.out] at hW1 HPU ⊢
  rw [hsc.out] at q1
  rw [hl.out] at U1
  obtain ⟨cd, hcd⟩ : ∃ c, Hid (sco s t = c) := ⟨_, rfl⟩
  obtain ⟨fs, hfs⟩ : ∃ c, Hid (svv s t = c) := ⟨_, rfl⟩
  rw [hcd.out, hfs.out]
  clear h hr hm
  by_cases e1 : sc = (n : Int)
  rotate_left
  · have HC1 : Hid (cd = 1 ∧ fs = s) := by
      rw [← hcd.out, ← hfs.out]
      show sco s t = 1 ∧ svv s t = s
      unfold sco svv
      rw [if_neg (fun h => e1 (by rw [← hsc.out, ← hn.out]; exact h.2)), if_neg (fun h => e1 (by rw [← hsc.out, ← hn.out]; exact h.2))]
      exact ⟨rfl, rfl⟩
    have e1b : (sc != (n : Int)) = true := by simp [e1]
    clear e1
    go_enter Try.func20, Try.ntmps20
    go_wp2_with fail
    go_quiet (first | (go_at_call 43; exact Calls.quiet_of_same (HSZ.out _)))
    go_wp2_with fail
    go_ret
    exact ⟨by rw [HC1.out.1]; rfl, by rw [HC1.out.2]; exact HD.out.to_below (B1.out.trans (Below.of_drewN _ _ _))⟩
  · have e1b : (sc != (n : Int)) = false := by simp [e1]
    have HE1 : Hid (sc = (n : Int)) := e1
    subst e1
    go_enter Try.func20, Try.ntmps20
    go_wp2_with fail
    go_quiet (first | (go_at_call 43; exact Calls.quiet_of_same (HSZ.out _)))
    obtain ⟨W2, hW2⟩ : ∃ W2, Hid (W1.drewN nq = W2) := ⟨_, rfl⟩
    have U2 : Hid (Uv W2 w.heap.size t (.slice a l cap)) := by rw [← hW2.out]; exact U1
    have B2 : Hid (Below w.heap.size w W2) := by rw [← hW2.out]; exact B1.out.trans (Below.of_drewN _ _ _)
    rw [hW2.out]
    clear hW2 hW1 q1 U1 B1 HSZ
    have q0 := U2.out.c0
    have q1 := U2.out.c1
    have q2 := U2.out.c2
    have q3 := U2.out.c3
    rw [hge.out] at q0
    rw [hsc.out] at q1
    rw [hnx.out] at q2
    go_wp2_with fail
    refine (HPU.out W2 B2.out).mono ?_
    rintro e w3 ⟨v3, c3, rfl, b3, n3, h3⟩
    have U3 : Hid (Uv w3 w.heap.size t (.slice a l cap)) := U2.out.below b3
    have B3 : Hid (Below w.heap.size w w3) := B2.out.trans (b3.mono B2.out.size)
    clear q0 q1 q2 q3
    rcases h3 with ⟨hmt, rfl, wb3, g3, rfl⟩ | ⟨hmt, rfl, rfl⟩
    rotate_left
    · have HC1 : Hid (cd = 1 ∧ fs = s) := by
        rw [← hcd.out, ← hfs.out]
        show sco s t = 1 ∧ svv s t = s
        unfold sco svv
        rw [if_neg (fun h => by rw [hmt] at h; cases h.1), if_neg (fun h => by rw [hmt] at h; cases h.1)]
        exact ⟨rfl, rfl⟩
      clear hmt b3 n3
      go_wp2_with fail
      go_ret
      exact ⟨by rw [HC1.out.1]; rfl, by rw [HC1.out.2]; exact HD.out.to_below B3.out⟩
    · obtain ⟨hh, _⟩ := mayU_iff.1 hmt
      have hge1 : 1 ≤ ge := by rw [← hge.out]; exact hh.1
      have hge2 : ge ≤ 4294967295 := by rw [← hge.out]; exact hh.2.1
      have hn128 : 128 ≤ n := by have := hh.2.2.2.2.1; rw [hsc.out] at this; omega
      have HUL : Hid ((usec t).length = 256) := usec_len hh.2.2.2.2.2.2
      have hcond : mayU t = true ∧ t.sc = (s.L.length : Int) := ⟨hmt, by rw [hsc.out, hn.out]⟩
      have HC1 : Hid (cd = 0 ∧ fs = (wrr s (ge % 2) (usec t)).fl) := by
        rw [← hcd.out, ← hfs.out, ← hge.out]
        show sco s t = 0 ∧ svv s t = _
        unfold sco svv
        rw [if_pos hcond, if_pos hcond]
        exact ⟨rfl, rfl⟩
      have X3 : Rd .u8 w3 (.slice (some ⟨g3, 0, none⟩) 256 256) (usec t) := wb3.rd
      have D3 : Dk S w3 d s := HD.out.below B3.out
      have HSD := HD.out.slt
      have hwr := write_all (ge % 2) (.slice (some ⟨g3, 0, none⟩) 256 256) (usec t) w3 D3 X3 (usec_by t) (fun k hk hS => by have h1 := n3 k hk; have h2 := HSD k hS; have h3 := B2.out.size; omega) HV.out
      have hco : wco s (ge % 2) (usec t).length = 0 := by unfold wco; rw [if_neg (by rw [hn.out]; omega), if_pos HUL.out]
      rw [hco] at hwr
      have HW := hideP hwr
      obtain ⟨r, hrr⟩ : ∃ r, ge % 2 = r := ⟨_, rfl⟩
      have htm : ge.tmod 2 = r := by rw [Int.tmod_eq_emod_of_nonneg (by omega), hrr]
      rw [hrr] at HW HC1
      have p0 := U3.out.c0
      rw [hge.out] at p0
      clear hmt hh hcond X3 D3 HSD hwr hco wb3 b3 n3 hrr
      go_wp2_with fail
      refine HW.out.mono ?_
      rintro e w4 ⟨rfl, S4, d4, t4, n4⟩
      have HFL := hideP (flush_any w4 d4)
      have T4 := hideP t4
      have N4 := hideP n4
      have D4 := hideP d4
      clear d4 t4 n4 p0 HW
      go_wp2_with fail
      refine HFL.out.mono ?_
      rintro e w5 ⟨rfl, d5⟩
      have D5 := hideP d5
      clear d5 HFL
      go_wp2_with fail
      go_ret
      refine ⟨by rw [HC1.out.1]; rfl, ?_⟩
      rw [HC1.out.2]
      have h1 : DkTo S w3 w5 d (wrr s r (usec t)).fl := DkTo.trans D4.out T4.out N4.out D5.out
      exact DkTo.trans (HD.out.below B3.out) (Tch.of_below B3.out) (fun _ e => .inl e) h1
end Go.Proofs.Ytdicgaepggffbaa
/-
  What two sectors hold when the power goes, and when a bit rots.
-/
namespace Go.Proofs.Ytdicgaepggffbaa
open Go.RowKit Pl
set_option linter.unusedVariables false
set_option linter.unusedSimpArgs false
set_option maxRecDepth 100000

/-- A disk of 128 sectors that has nothing to flush. -/
structure Qt (s : DS) : Prop where
  len : s.L.length = 128
  V : ∀ i, s.V i = []
  c : s.c = false

theorem qt_new : Qt (DS.new 128) := ⟨by simp [DS.new], fun i => rfl, rfl⟩

theorem wrr_Vh {s : DS} (at_ : Int) (b : List Int) {k : Nat} (h : ∀ i, (s.V i).length ≤ k) : ∀ i, ((wrr s at_ b).V i).length ≤ k + 1 := by
  intro i
  have hi := h i
  unfold wrr
  split
  · omega
  · split
    · have := wr_V_le s at_.toNat b i; omega
    · omega

section
variable {s : DS}
theorem Qt.wrr (h : Qt s) {j : Nat} (hj : j < 128) {x : List Int} (hx : x.length = 256) : wrr s (j : Int) x = { s with V := vput s.V j [x], l := s.l } := by
  unfold Proofs.Ytdicgaepggffbaa.wrr
  rw [if_neg (by rw [h.len]; omega), if_pos hx]
  unfold DS.wr DS.can DS.tick
  rw [h.c, Int.toNat_natCast, h.V j]
  simp [h.c]

theorem pers_one {s : DS} {j : Nat} {x : List Int} {ds : List Nat} {ps : List Int} (hV : s.V j = [x]) (hd : ∀ k, k < ds.length → ds.getD k 0 = j) : ∀ k, k ≤ ds.length → ((s.pers ds ps k).V j = [x] ∨ (s.pers ds ps k).V j = []) ∧ ((s.pers ds ps k).L = s.L ∨ (s.pers ds ps k).L = s.L.set j x)
  | 0, _ => ⟨.inl hV, .inl rfl⟩
  | k + 1, hk => by
    obtain ⟨h1, h2⟩ := pers_one hV hd k (by omega)
    rw [DS.pers, hd k (by omega)]
    generalize s.pers ds ps k = p at h1 h2
    refine ⟨.inr (by unfold DS.per vput; simp), ?_⟩
    unfold DS.per
    dsimp only
    rcases h1 with h1 | h1
    · rw [h1]
      split
      · rename_i c
        have e : rem (ps.getD k 0) [x].length = 1 := by
          have : rem (ps.getD k 0) [x].length ≤ 1 := by unfold rem; simp; omega
          omega
        rw [e]
        right
        rcases h2 with h2 | h2
        · rw [h2]; rfl
        · rw [h2, List.set_set]; rfl
      · exact h2
    · rw [h1]
      have e : rem (ps.getD k 0) ([] : List (List Int)).length = 0 := by unfold rem; simp
      rw [e, if_neg (by decide)]
      exact h2

theorem Qt.cut (h : Qt s) {j : Nat} (hj : j < 128) {x : List Int} (hx : x.length = 256) (ps : List Int) : Qt ((Proofs.Ytdicgaepggffbaa.wrr s (j : Int) x).pw ps) ∧ (((Proofs.Ytdicgaepggffbaa.wrr s (j : Int) x).pw ps).L = s.L ∨ ((Proofs.Ytdicgaepggffbaa.wrr s (j : Int) x).pw ps).L = s.L.set j x) := by
  rw [h.wrr hj hx]
  generalize hs1 : ({ s with V := vput s.V j [x], l := s.l } : DS) = s1
  have hL : s1.L = s.L := by rw [← hs1]
  have hV : s1.V = vput s.V j [x] := by rw [← hs1]
  have hVj : s1.V j = [x] := by rw [hV]; simp [vput]
  have hVo : ∀ i, i ≠ j → s1.V i = [] := fun i hi => by rw [hV]; unfold vput; rw [if_neg hi]; exact h.V i
  have hd : ∀ k, k < s1.dirty.length → s1.dirty.getD k 0 = j := fun k hk => by
    have e : s1.dirty.getD k 0 = s1.dirty[k] := by rw [List.getD_eq_getElem?_getD, List.getElem?_eq_getElem hk]; rfl
    rw [e]
    have hm := (dirty_mem.1 (List.getElem_mem hk)).2
    apply Classical.byContradiction
    intro hn
    exact hm (hVo _ hn)
  refine ⟨⟨by rw [pw_len, hL]; exact h.len, fun i => pw_V s1 ps (fun i hi => hVo i (by rw [hL, h.len] at hi; omega)) i, rfl⟩, ?_⟩
  have := (pers_one (ps := ps) hVj hd s1.dirty.length (Nat.le_refl _)).2
  rw [hL] at this
  exact this

theorem Qt.flu (h : Qt s) {j : Nat} (hj : j < 128) {x : List Int} (hx : x.length = 256) : Qt (Proofs.Ytdicgaepggffbaa.wrr s (j : Int) x).fl ∧ (Proofs.Ytdicgaepggffbaa.wrr s (j : Int) x).fl.L = s.L.set j x := by
  rw [h.wrr hj hx]
  have hL : (({ s with V := vput s.V j [x], l := s.l } : DS).fl).L = s.L.set j x := by
    unfold DS.fl DS.can
    dsimp only
    rw [if_pos (by rw [h.c]; rfl)]
    dsimp only
    apply List.ext_getElem
    · simp
    · intro i h1 h2
      rw [List.getElem_map, List.getElem_range, List.getElem_set]
      unfold DS.has vput
      dsimp only
      have hi : i < s.L.length := by simpa using h1
      by_cases e : j = i
      · subst e; simp
      · rw [if_neg (fun h => e h.symm), if_neg e, h.V i, List.getLastD_nil, List.getD_eq_getElem?_getD, List.getElem?_eq_getElem hi]; rfl
  refine ⟨⟨by rw [hL, List.length_set]; exact h.len, fun i => ?_, ?_⟩, hL⟩
  · unfold DS.fl DS.can
    dsimp only
    rw [if_pos (by rw [h.c]; rfl)]
  · unfold DS.fl DS.can DS.tick
    dsimp only
    rw [if_pos (by rw [h.c]; rfl)]
    exact h.c

theorem Qt.pw (h : Qt s) (ps : List Int) : Qt (s.pw ps) ∧ (s.pw ps).L = s.L := by
  have e : s.dirty = [] := List.eq_nil_iff_forall_not_mem.2 fun i hi => (dirty_mem.1 hi).2 (h.V i)
  have e2 : s.pw ps = { s with c := false, l := 0 } := by unfold DS.pw; rw [e]; rfl
  rw [e2]
  exact ⟨⟨h.len, h.V, rfl⟩, rfl⟩
theorem Qt.cpy (h : Qt s) : Qt s.cpy := ⟨h.len, h.V, rfl⟩
theorem Qt.rtt (h : Qt s) {j p : Nat} (hj : j < 128) (hp : p < 2048) : Qt (Proofs.Ytdicgaepggffbaa.rtt s (2048 * (j : Int) + (p : Int))) ∧ (Proofs.Ytdicgaepggffbaa.rtt s (2048 * (j : Int) + (p : Int))).L = s.L.set j (trn p (s.L.getD j [])) := by
  unfold Proofs.Ytdicgaepggffbaa.rtt
  rw [if_neg (by rw [h.len]; omega)]
  have e : (2048 * (j : Int) + (p : Int)).toNat = 2048 * j + p := by omega
  rw [e]
  have e1 : (2048 * j + p) / 2048 = j := by omega
  have e2 : (2048 * j + p) % 2048 = p := by omega
  unfold DS.rot
  rw [e1, e2]
  refine ⟨⟨by dsimp only; rw [List.length_set]; exact h.len, fun i => ?_, h.c⟩, rfl⟩
  dsimp only
  unfold vput
  split
  · rw [h.V j]; rfl
  · exact h.V i
theorem Qt.load (h : Qt s) : loadU s = nb 128 (nb 128 none (s.L.getD 0 [])) (s.L.getD 1 []) := by
  unfold loadU
  rw [h.len]
  have e0 : dhs s 0 = s.L.getD 0 [] := by unfold dhs; rw [if_neg (by rw [h.len]; decide)]; exact has_of_nil (h.V 0)
  have e1 : dhs s 1 = s.L.getD 1 [] := by unfold dhs; rw [if_neg (by rw [h.len]; decide)]; exact has_of_nil (h.V 1)
  rw [e0, e1]
  rfl
end

/-- Whatever a sector tells is older. -/
def Old (x : List Int) (g : Int) : Prop := ∀ t, getU x = some t → t.gen < g
theorem old_none {x : List Int} {g : Int} (h : getU x = none) : Old x g := fun t ht => by rw [h] at ht; cases ht
theorem old_put {m : Sp} {g : Int} (hm : mayU m = true) (h : m.gen < g) : Old (usec m) g := fun t ht => by rw [getU_put hm] at ht; cases ht; exact h

theorem nb_first {x y : List Int} {m : Sp} (hm : mayU m = true) (hs : m.sc = 128) (hx : x = usec m) (hy : Old y m.gen) : nb 128 (nb 128 none x) y = some m := by
  have h1 : nb 128 none x = some m := nb_take (by rw [hx]; exact getU_put hm) ⟨hs, (mayU_iff.1 hm).1.1⟩
  rw [h1]
  cases e : getU y with
  | none => exact nb_none e
  | some t => exact nb_skip e (fun h => by have := h.2; have := hy t e; simp at *; omega)
theorem nb_second {x y : List Int} {m : Sp} (hm : mayU m = true) (hs : m.sc = 128) (hx : x = usec m) (hy : Old y m.gen) : nb 128 (nb 128 none y) x = some m := by
  have hg := (mayU_iff.1 hm).1.1
  refine nb_take (by rw [hx]; exact getU_put hm) ⟨hs, ?_⟩
  cases e : getU y with
  | none => rw [nb_none e]; exact hg
  | some t =>
    have := hy t e
    unfold nb
    rw [e]
    dsimp only
    split
    · exact this
    · exact hg
theorem Qt.tells {s : DS} (h : Qt s) {j : Nat} (hj : j < 2) {m : Sp} (hm : mayU m = true) (hs : m.sc = 128) (hx : s.L.getD j [] = usec m) (hy : Old (s.L.getD (1 - j) []) m.gen) : loadU s = some m := by
  rw [h.load]
  have : j = 0 ∨ j = 1 := by omega
  rcases this with rfl | rfl
  · exact nb_first hm hs hx hy
  · exact nb_second hm hs hx hy
theorem Qt.none {s : DS} (h : Qt s) (h0 : getU (s.L.getD 0 []) = .none) (h1 : getU (s.L.getD 1 []) = .none) : loadU s = .none := by
  rw [h.load, nb_none h0, nb_none h1]

theorem dd_one {p q : Nat} (hp : p < 2048) : dd p 1 2048 32 q = decide (q = p) := by
  unfold dd
  by_cases e : q = p
  · subst e
    simp
    omega
  · rw [decide_eq_false e]
    by_cases h : p ≤ q ∧ q < p + 32 ∧ q < 2048
    · rw [decide_eq_true h, Bool.true_and]
      have h1 : (2 ^ 0 : Nat).testBit (q - p) = false := Nat.testBit_two_pow_of_ne (by omega)
      exact h1
    · rw [decide_eq_false h, Bool.false_and]
/-- A rotten bit is told. -/
theorem getU_trn {m : Sp} (hm : mayU m = true) {p : Nat} (hp : p < 2048) : getU (trn p (usec m)) = none := by
  have h8 := (mayU_iff.1 hm).1.2.2.2.2.2.2
  have hl := usec_len h8
  obtain ⟨tl, tb⟩ := trn_ok hp hl (usec_by m)
  have := (sec_told (A := p) (mask := 1) hl tl (usec_by m) tb (usec_smd h8) (by omega) (fun j i hj hi => by
    rw [dd_one hp]
    unfold bN trn
    by_cases e : j = p / 8
    · subst e
      rw [List.getD_eq_getElem?_getD, List.getElem?_set_self (by rw [hl]; omega)]
      show (Int.toNat (((usec m).getD (p / 8) 0).toNat ^^^ 2 ^ (p % 8) : Nat)).testBit i = _
      rw [Int.toNat_natCast, Nat.testBit_xor, Nat.testBit_two_pow]
      congr 1
      by_cases e2 : p % 8 = i
      · rw [decide_eq_true e2, decide_eq_true (by omega)]
      · rw [decide_eq_false e2, decide_eq_false (by omega)]
    · rw [decide_eq_false (by omega), Bool.xor_false, List.getD_eq_getElem?_getD, List.getElem?_set_ne (fun h => e h.symm), ← List.getD_eq_getElem?_getD])).1 ⟨p, by rw [dd_one hp]; simp⟩
  exact getU_none fun s hs => this (by rw [hs.2]; exact usec_smd (mayU_iff.1 hs.1).1.2.2.2.2.2.2)

theorem getU_zz : getU zz = none := getU_none fun m hm => by
  have h := congrArg (fun l => List.getD l 0 0) hm.2
  revert h
  show zz.getD 0 0 = (usec m).getD 0 0 → False
  have e : (usec m).getD 0 0 = 75 := by simp [usec, upre, hdb]
  rw [e]
  decide

/-- What stands on the disk ahead of round i. -/
structure Iv (i : Nat) (s : DS) (last : Sp) : Prop where
  q : Qt s
  z : i = 0 → getU (s.L.getD 0 []) = none ∧ getU (s.L.getD 1 []) = none
  p : 0 < i → mayU last = true ∧ last.gen = (i : Int) ∧ last.sc = 128 ∧ s.L.getD (i % 2) [] = usec last ∧ Old (s.L.getD ((i + 1) % 2) []) (i : Int)
theorem iv_new : Iv 0 (DS.new 128) sp0 := ⟨qt_new, fun _ => ⟨getU_zz, getU_zz⟩, fun h => by omega⟩

/-- One that is made in round i. -/
def Md (i : Nat) (m : Sp) : Prop := mayU m = true ∧ m.gen = ((i + 1 : Nat) : Int) ∧ m.sc = 128

theorem getD_set_same {α : Type} {l : List α} {i : Nat} {x d : α} (h : i < l.length) : (l.set i x).getD i d = x := by simp [List.getD_eq_getElem?_getD, h]
theorem getD_set_ne {α : Type} {l : List α} {i j : Nat} {x d : α} (h : i ≠ j) : (l.set i x).getD j d = l.getD j d := by simp [List.getD_eq_getElem?_getD, List.getElem?_set, h]

section
variable {i : Nat} {s : DS} {last m : Sp}
theorem Md.len (h : Md i m) : (usec m).length = 256 := usec_len (mayU_iff.1 h.1).1.2.2.2.2.2.2
theorem Md.rem (h : Md i m) : m.gen % 2 = (((i + 1) % 2 : Nat) : Int) := by rw [h.2.1]; omega
/-- What the other sector tells is older. -/
theorem Iv.other (h : Iv i s last) (hm : Md i m) : Old (s.L.getD (1 - (i + 1) % 2) []) m.gen := by
  by_cases h0 : i = 0
  · subst h0
    exact old_none (h.z rfl).1
  · obtain ⟨h1, h2, h3, h4, h5⟩ := h.p (by omega)
    have e : 1 - (i + 1) % 2 = i % 2 := by omega
    rw [e, h4]
    exact old_put h1 (by rw [h2, hm.2.1]; omega)

/-- The power goes within. -/
theorem Iv.cut (h : Iv i s last) (hm : Md i m) (ps : List Int) : Qt ((wrr s (m.gen % 2) (usec m)).pw ps) ∧ (((wrr s (m.gen % 2) (usec m)).pw ps).L = s.L ∨ ((wrr s (m.gen % 2) (usec m)).pw ps).L = s.L.set ((i + 1) % 2) (usec m)) ∧
    (loadU ((wrr s (m.gen % 2) (usec m)).pw ps) = some m ∨ (0 < i ∧ loadU ((wrr s (m.gen % 2) (usec m)).pw ps) = some last) ∨ (i = 0 ∧ loadU ((wrr s (m.gen % 2) (usec m)).pw ps) = none)) := by
  rw [hm.rem]
  obtain ⟨hq, hL⟩ := h.q.cut (j := (i + 1) % 2) (by omega) hm.len ps
  refine ⟨hq, hL, ?_⟩
  generalize (wrr s (((i + 1) % 2 : Nat) : Int) (usec m)).pw ps = s2 at hq hL
  rcases hL with hL | hL
  · by_cases h0 : i = 0
    · exact .inr (.inr ⟨h0, hq.none (by rw [hL]; exact (h.z h0).1) (by rw [hL]; exact (h.z h0).2)⟩)
    · obtain ⟨h1, h2, h3, h4, h5⟩ := h.p (by omega)
      refine .inr (.inl ⟨by omega, hq.tells (j := i % 2) (by omega) h1 h3 (by rw [hL]; exact h4) ?_⟩)
      have e : 1 - i % 2 = (i + 1) % 2 := by omega
      rw [e, hL, h2]
      exact h5
  · refine .inl (hq.tells (j := (i + 1) % 2) (by omega) hm.1 hm.2.2 (by rw [hL]; exact getD_set_same (by rw [h.q.len]; omega)) ?_)
    rw [hL, getD_set_ne (by omega)]
    exact h.other hm

/-- It is saved, whatever the power left. -/
theorem Iv.saved (h : Iv i s last) (hm : Md i m) {s2 : DS} (hq : Qt s2) (hL : s2.L = s.L ∨ s2.L = s.L.set ((i + 1) % 2) (usec m)) (ps : List Int) : sco s2 m = 0 ∧ loadU ((svv s2 m).pw ps) = some m ∧ Iv (i + 1) ((svv s2 m).pw ps) m ∧ ((svv s2 m).pw ps).L = s.L.set ((i + 1) % 2) (usec m) := by
  have hc : mayU m = true ∧ m.sc = (s2.L.length : Int) := ⟨hm.1, by rw [hq.len, hm.2.2]; rfl⟩
  have hs : svv s2 m = (wrr s2 (((i + 1) % 2 : Nat) : Int) (usec m)).fl := by unfold svv; rw [if_pos hc, hm.rem]
  have hL2 : s2.L.set ((i + 1) % 2) (usec m) = s.L.set ((i + 1) % 2) (usec m) := by
    rcases hL with e | e
    · rw [e]
    · rw [e, List.set_set]
  obtain ⟨q3, L3⟩ := hq.flu (j := (i + 1) % 2) (by omega) hm.len
  rw [← hs, hL2] at L3
  rw [← hs] at q3
  obtain ⟨q4, L4⟩ := q3.pw ps
  rw [L3] at L4
  generalize (svv s2 m).pw ps = s4 at q4 L4
  have hx : s4.L.getD ((i + 1) % 2) [] = usec m := by rw [L4]; exact getD_set_same (by rw [h.q.len]; omega)
  have hy : Old (s4.L.getD (1 - (i + 1) % 2) []) m.gen := by rw [L4, getD_set_ne (by omega)]; exact h.other hm
  refine ⟨by unfold sco; rw [if_pos hc], q4.tells (j := (i + 1) % 2) (by omega) hm.1 hm.2.2 hx hy, ⟨q4, fun e => by omega, fun _ => ⟨hm.1, hm.2.1, hm.2.2, hx, ?_⟩⟩, L4⟩
  have e : (i + 1 + 1) % 2 = 1 - (i + 1) % 2 := by omega
  rw [e, ← hm.2.1]
  exact hy

/-- A bit of it rots. -/
theorem Iv.rots (h : Iv i s last) (hm : Md i m) {s4 : DS} (hq : Qt s4) (hL : s4.L = s.L.set ((i + 1) % 2) (usec m)) {p : Nat} (hp : p < 2048) : (0 < i → loadU (rtt s4.cpy (2048 * (m.gen % 2) + (p : Int))) = some last) := by
  intro h0
  rw [hm.rem]
  obtain ⟨q5, L5⟩ := hq.cpy.rtt (j := (i + 1) % 2) (by omega) hp
  generalize rtt s4.cpy (2048 * (((i + 1) % 2 : Nat) : Int) + (p : Int)) = s5 at q5 L5
  have e4 : s4.cpy.L = s.L.set ((i + 1) % 2) (usec m) := hL
  rw [e4, getD_set_same (by rw [h.q.len]; omega), List.set_set] at L5
  obtain ⟨h1, h2, h3, h4, h5⟩ := h.p h0
  have e : 1 - i % 2 = (i + 1) % 2 := by omega
  refine q5.tells (j := i % 2) (by omega) h1 h3 (by rw [L5, getD_set_ne (by omega)]; exact h4) ?_
  rw [e, L5, getD_set_same (by rw [h.q.len]; omega)]
  exact old_none (getU_trn hm.1 hp)
end
end Go.Proofs.Ytdicgaepggffbaa
/-
  The law's own word: a superblock that may be, with a Gen.
-/
namespace Go.Proofs.Ytdicgaepggffbaa
open Go.RowKit Pl
set_option linter.unusedVariables false
set_option linter.unusedSimpArgs false
set_option maxRecDepth 100000

theorem made_may {i : Nat} (h : i < 200) : mayU ⟨((i + 1 : Nat) : Int), 128, 2 + ((i + 1 : Nat) : Int) % 7, [vnOne]⟩ = true := by
  rw [mayU_iff]
  refine ⟨⟨by dsimp only; omega, by dsimp only; omega, by dsimp only; omega, by dsimp only; omega, by dsimp only; omega, by dsimp only; omega, by dsimp only [List.length]; omega⟩, ?_⟩
  dsimp only
  unfold vsOk vsOk vOk vnOne
  rw [Bool.and_true, decide_eq_true_iff]
  dsimp only
  omega

set_option maxHeartbeats 400000 in
theorem made_any (i : Nat) (hi : i < 200) (s : Sp) (v : Value) (w : World) (hr : RdV w v s.vs) :
    Calls Try.prog 33 #[supv s v, .int .i64 ((i + 1 : Nat) : Int)] w fun e w' => ∃ m a c, Md i m ∧ e = .returned (supv m (.slice a m.vs.length c)) ∧ RdV w' (.slice a m.vs.length c) m.vs ∧ Below w.heap.size w w' ∧ ((Value.slice a m.vs.length c = v ∧ m.vs = s.vs) ∨ ∀ j, (Value.slice a m.vs.length c).ownBlock = some j → w.heap.size ≤ j) := by
  obtain ⟨a, cap, rfl, -⟩ := id hr
  have HR : Hid (RdV w (.slice a s.vs.length cap) s.vs) := hr
  obtain ⟨ge, hge⟩ : ∃ g : Int, Hid (((i + 1 : Nat) : Int) = g) := ⟨_, rfl⟩
  have hg1 : 1 ≤ ge := by rw [← hge.out]; omega
  have hg2 : ge ≤ 200 := by rw [← hge.out]; omega
  rw [hge.out]
  obtain ⟨l, hl⟩ : ∃ l, Hid (s.vs.length = l) := ⟨_, rfl⟩
  rw [hl.out] at HR ⊢
  obtain ⟨sg, ss, sn, svs⟩ := s
  unfold supv
  dsimp only at *
  clear hr
  obtain ⟨g, hg⟩ : ∃ g, Hid (w.heap.size = g) := ⟨_, rfl⟩
  obtain ⟨W1, hW1⟩ : ∃ W1, w.alloc (.cells #[.int .i64 ge, .int .i64 128, .int .i64 sn, .slice a l cap] 24) = W1 := ⟨_, rfl⟩
  obtain ⟨W2, hW2⟩ : ∃ W2, W1.alloc (.cells #[.int .i64 0, .int .i64 0, .int .i64 0, .slice none 0 0] 24) = W2 := ⟨_, rfl⟩
  have s1 : W1.heap.size = w.heap.size + 1 := by rw [← hW1]; simp
  have b1 : Below w.heap.size w W1 := by rw [← hW1]; exact (Below.refl _ _).alloc (Nat.le_refl _) _
  have b2 : Below W1.heap.size W1 W2 := by rw [← hW2]; exact (Below.refl _ _).alloc (Nat.le_refl _) _
  have B2 : Hid (Below w.heap.size w W2) := b1.trans (b2.mono (by omega))
  have U1 : Uv W1 w.heap.size ⟨ge, 128, sn, svs⟩ (.slice a l cap) := by rw [← hW1]; exact uv_new w ⟨ge, 128, sn, svs⟩ _
  have U2 : Hid (Uv W2 g ⟨ge, 128, sn, svs⟩ (.slice a l cap)) := by rw [← hg.out]; exact U1.below b2
  have Q2 : Hid (Uv W2 (g + 1) sp0 (.slice none 0 0)) := by rw [← hW2, ← hg.out, ← s1]; exact uv_new W1 sp0 _
  have HW1 := hideP hW1
  have HW2 := hideP hW2
  have hmu := refMayU_any ⟨ge, 128, sn, svs⟩ (.slice a l cap) W2 (HR.out.below B2.out)
  unfold supv at hmu
  dsimp only at hmu
  have HMU := hideP hmu
  clear hW1 hW2 s1 b1 b2 U1 hmu
  go_enter Try.func33, Try.ntmps33
  go_wp2_with fail
  rw [HW1.out, HW2.out, hg.out]
  clear HW1 HW2
  refine HMU.out.mono ?_
  clear HMU
  rintro e w3 ⟨rfl, b3⟩
  have U3 : Hid (Uv w3 g ⟨ge, 128, sn, svs⟩ (.slice a l cap)) := U2.out.below b3
  have Q3 : Hid (Uv w3 (g + 1) sp0 (.slice none 0 0)) := Q2.out.below b3
  have B3 : Hid (Below w.heap.size w w3) := B2.out.trans (b3.mono B2.out.size)
  clear U2 Q2 B2 b3
  obtain ⟨bb, hbb⟩ : ∃ b, mayU ⟨ge, 128, sn, svs⟩ = b := ⟨_, rfl⟩
  rw [hbb]
  have q0 : w3.cell? ⟨g + 1, 0, none⟩ = some (.int .i64 0) := Q3.out.c0
  have q1 : w3.cell? ⟨g + 1, 1, none⟩ = some (.int .i64 0) := Q3.out.c1
  have q2 : w3.cell? ⟨g + 1, 2, none⟩ = some (.int .i64 0) := Q3.out.c2
  have q3 := Q3.out.c3
  have f0 := Q3.out.fz 0
  have f1 := Q3.out.fz 1
  have f2 := Q3.out.fz 2
  have f3 := Q3.out.fz 3
  have u0 := U3.out.c0
  have u1 := U3.out.c1
  have u2 := U3.out.c2
  have u3 := U3.out.c3
  dsimp only at u0 u1 u2 u3
  cases bb with
  | true =>
    have HM : Hid (Md i ⟨ge, 128, sn, svs⟩) := ⟨hbb, hge.out.symm, rfl⟩
    have HLD := hideP (Q3.out.put ⟨ge, 128, sn, svs⟩ (.slice a l cap)).load
    have HTS := hideP (Q3.out.tset ⟨ge, 128, sn, svs⟩ (.slice a l cap))
    have HBE := hideP (B3.out.trans (HTS.out.below B3.out.size (fun k e => by rw [hg.out, e]; exact Nat.le_succ _)))
    have HRE := hideP ((HR.out.below HBE.out))
    dsimp only at HLD HTS HBE HRE
    clear hbb
    go_wp2_with fail
    refine bodyPost_ret (v := supv ⟨ge, 128, sn, svs⟩ (.slice a l cap)) (results_atU (p := 4) (ty := 24) rfl _ _ _ (g + 1) _ rfl HLD.out) rfl ?_
    exact ⟨⟨ge, 128, sn, svs⟩, a, cap, HM.out, by dsimp only; rw [hl.out]; rfl, by dsimp only; rw [hl.out]; exact HRE.out, HBE.out, .inl ⟨by dsimp only; rw [hl.out], rfl⟩⟩
  | false =>
    clear hbb
    go_wp2_with fail
    refine (one_any w3).mono ?_
    rintro e w4 ⟨a4, k4, rfl, r4, b4, n4⟩
    have U4 : Hid (Uv w4 g ⟨ge, 128, sn, svs⟩ (.slice a l cap)) := U3.out.below b4
    have Q4 : Hid (Uv w4 (g + 1) sp0 (.slice none 0 0)) := Q3.out.below b4
    have B4 : Hid (Below w.heap.size w w4) := B3.out.trans (b4.mono B3.out.size)
    have R4 : Hid (RdV w4 (.slice a4 1 k4) [vnOne]) := r4
    have N4 : Hid (∀ j, (Value.slice a4 1 k4).ownBlock = some j → g + 1 < j) := fun j hj => by have := n4 j hj; have := Q3.out.lt; omega
    clear U3 Q3 B3 b4 r4 n4 q0 q1 q2 q3 f0 f1 f2 f3 u0 u1 u2 u3
    have u0 := U4.out.c0
    have u1 := U4.out.c1
    have u2 := U4.out.c2
    have u3 := U4.out.c3
    dsimp only at u0 u1 u2 u3
    have f0 := U4.out.fz 0
    have f1 := U4.out.fz 1
    have f2 := U4.out.fz 2
    have f3 := U4.out.fz 3
    have q0 : w4.cell? ⟨g + 1, 0, none⟩ = some (.int .i64 0) := Q4.out.c0
    have q1 : w4.cell? ⟨g + 1, 1, none⟩ = some (.int .i64 0) := Q4.out.c1
    have q2 : w4.cell? ⟨g + 1, 2, none⟩ = some (.int .i64 0) := Q4.out.c2
    have q3 := Q4.out.c3
    have p0 := Q4.out.fz 0
    have p1 := Q4.out.fz 1
    have p2 := Q4.out.fz 2
    have p3 := Q4.out.fz 3
    obtain ⟨z, hz⟩ : ∃ z, ge.tmod 7 = z := ⟨_, rfl⟩
    have hz1 : z = ge % 7 := by rw [← hz, Int.tmod_eq_emod_of_nonneg (by omega)]
    have hz0 : 0 ≤ z := by omega
    have hz7 : z ≤ 6 := by omega
    have HZ := hideP hz1
    clear hz1
    have e1 : supv spOne (.slice a4 spOne.vs.length k4) = .agg #[.int .i64 1, .int .i64 128, .int .i64 2, .slice a4 1 k4] := rfl
    rw [e1]
    clear e1
    dsimp only
    iterate 3 (first | go_values | go_skip | go_guarded | go_step | go_upon | go_back | (simp only [Int.not_lt, Int.not_le] at *; go_simp) | (go_values <;> (try go_simp)))
    obtain ⟨W5, hW5⟩ : ∃ W5, Hid ((((w4.setCell ⟨g, 0, none⟩ (.int .i64 1)).setCell ⟨g, 1, none⟩ (.int .i64 128)).setCell ⟨g, 2, none⟩ (.int .i64 2)).setCell ⟨g, 3, none⟩ (.slice a4 1 k4) = W5) := ⟨_, rfl⟩
    have U5 : Hid (Uv W5 g spOne (.slice a4 1 k4)) := by rw [← hW5.out]; exact U4.out.put spOne (.slice a4 1 k4)
    have T5 : Hid (Tch (fun j => j = g) w4 W5) := by rw [← hW5.out]; exact U4.out.tset spOne (.slice a4 1 k4)
    rw [hW5.out]
    clear hW5 u0 u1 u2 u3 f0 f1 f2 f3 q0 q1 q2 q3 p0 p1 p2 p3
    have u0 : W5.cell? ⟨g, 0, none⟩ = some (.int .i64 1) := U5.out.c0
    have u1 : W5.cell? ⟨g, 1, none⟩ = some (.int .i64 128) := U5.out.c1
    have u2 : W5.cell? ⟨g, 2, none⟩ = some (.int .i64 2) := U5.out.c2
    have u3 := U5.out.c3
    have f0 := U5.out.fz 0
    have f1 := U5.out.fz 1
    have f2 := U5.out.fz 2
    have f3 := U5.out.fz 3
    have Q5 : Hid (Uv W5 (g + 1) sp0 (.slice none 0 0)) := Q4.out.tch T5.out (by omega)
    have q0 : W5.cell? ⟨g + 1, 0, none⟩ = some (.int .i64 0) := Q5.out.c0
    have q1 : W5.cell? ⟨g + 1, 1, none⟩ = some (.int .i64 0) := Q5.out.c1
    have q2 : W5.cell? ⟨g + 1, 2, none⟩ = some (.int .i64 0) := Q5.out.c2
    have q3 := Q5.out.c3
    have p0 := Q5.out.fz 0
    have p1 := Q5.out.fz 1
    have p2 := Q5.out.fz 2
    have p3 := Q5.out.fz 3
    have T7 : Hid (Tch (fun j => j = g) W5 ((W5.setCell ⟨g, 0, none⟩ (.int .i64 ge)).setCell ⟨g, 2, none⟩ (.int .i64 (2 + z)))) := Tch.setCell (Tch.setCell (Tch.refl (fun j => j = g) W5) (p := ⟨g, 0, none⟩) (fun _ => rfl) _) (p := ⟨g, 2, none⟩) (fun _ => rfl) _
    have Q7 := hideP (Q5.out.tch T7.out (by omega))
    have HM : Hid (Md i ⟨ge, 128, 2 + z, [vnOne]⟩) := by
      rw [HZ.out, ← hge.out]
      exact ⟨made_may hi, rfl, rfl⟩
    have HLD := hideP (Q7.out.put ⟨ge, 128, 2 + z, [vnOne]⟩ (.slice a4 1 k4)).load
    have HTS := hideP (Q7.out.tset ⟨ge, 128, 2 + z, [vnOne]⟩ (.slice a4 1 k4))
    have HB5 := hideP (B4.out.trans (T5.out.below B4.out.size (fun k e => by rw [hg.out, e]; exact Nat.le_refl _)))
    have HB7 := hideP (HB5.out.trans (T7.out.below HB5.out.size (fun k e => by rw [hg.out, e]; exact Nat.le_refl _)))
    have HBE := hideP (HB7.out.trans (HTS.out.below HB7.out.size (fun k e => by rw [hg.out, e]; exact Nat.le_succ _)))
    have HRE := hideP (((R4.out.tch T5.out (fun j hj e => by have := N4.out j hj; have e2 : j = g := e; omega)).tch T7.out (fun j hj e => by have := N4.out j hj; have e2 : j = g := e; omega)).tch HTS.out (fun j hj e => by have := N4.out j hj; have e2 : j = g + 1 := e; omega))
    dsimp only at HLD HTS HBE HRE
    go_wp2_with fail
    refine bodyPost_ret (v := supv ⟨ge, 128, 2 + z, [vnOne]⟩ (.slice a4 1 k4)) (results_atU (p := 4) (ty := 24) rfl _ _ _ (g + 1) _ rfl HLD.out) rfl ?_
    exact ⟨⟨ge, 128, 2 + z, [vnOne]⟩, a4, k4, HM.out, rfl, HRE.out, HBE.out, .inr (fun j hj => by have := N4.out j hj; rw [hg.out]; omega)⟩
end Go.Proofs.Ytdicgaepggffbaa
/-
  A disk, and superblocks in memory beside it.
-/
namespace Go.Proofs.Ytdicgaepggffbaa
open Go.RowKit Pl
set_option linter.unusedVariables false
set_option linter.unusedSimpArgs false
set_option maxRecDepth 100000

/-- Versions that lie in none of S. -/
def Kp (S : Nat → Prop) (w : World) (v : Value) (vs : List Vn) : Prop := RdV w v vs ∧ (vs ≠ [] → ∀ j, v.ownBlock = some j → ¬ S j)

theorem RdV.blk {w : World} {v : Value} {vs : List Vn} (h : RdV w v vs) (h0 : vs ≠ []) : ∀ j, v.ownBlock = some j → j < w.heap.size := fun j hj => by
  obtain ⟨a, cap, rfl, _, _, hc⟩ := h
  rcases hc with e | ⟨b, o, rfl, hc⟩
  · exact absurd e h0
  · cases hj
    have hp : 0 < vs.length := List.length_pos_iff.2 h0
    exact World.block_lt_of_cell? w ⟨b, o + 0 * 4, none⟩ (hc 0 vs[0] (List.getElem?_eq_getElem hp)).c0
theorem RdV.emp {w w' : World} {v : Value} {vs : List Vn} (h : RdV w v vs) (h0 : vs = []) : RdV w' v vs := by
  obtain ⟨a, cap, rfl, h1, h2, _⟩ := h
  exact ⟨a, cap, rfl, h1, h2, .inl h0⟩
/-- A superblock's own cells hold no version. -/
theorem rdV_ne {w : World} {v u : Value} {vs : List Vn} {q : Nat} {m : Sp} {a : Option Addr} {n c : Nat} (h : RdV w v vs) (hu : Uv w q m u) (he : u = .slice a n c) (h0 : vs ≠ []) : v.ownBlock ≠ some q := by
  intro hk
  obtain ⟨a', cap, rfl, _, _, hc⟩ := h
  rcases hc with e | ⟨b, o, rfl, hc⟩
  · exact absurd e h0
  · cases hk
    have hp : 0 < vs.length := List.length_pos_iff.2 h0
    have h3 := (hc 0 vs[0] (List.getElem?_eq_getElem hp)).c3
    rw [cell_of_row w b (o + 0 * 4 + 3) _ _ (0, 0) hu] at h3
    by_cases ho : o = 0
    · subst ho
      rw [he] at h3
      simp at h3
    · rw [Array.getElem?_eq_none (by simp; omega)] at h3
      cases h3

section
variable {S S' : Nat → Prop} {w0 w w' : World} {d : Nat} {s s' : DS} {v : Value} {vs : List Vn}
theorem Kp.tch (h : Kp S w v vs) {T : Nat → Prop} (ht : Tch T w w') (hn : vs ≠ [] → ∀ j, v.ownBlock = some j → ¬ T j) (hs : ∀ k, S' k → S k ∨ w.heap.size ≤ k) : Kp S' w' v vs := by
  by_cases h0 : vs = []
  · exact ⟨h.1.emp h0, fun e => absurd h0 e⟩
  · refine ⟨h.1.tch ht (hn h0), fun _ j hj e => ?_⟩
    rcases hs j e with e | e
    · exact h.2 h0 j hj e
    · have := h.1.blk h0 j hj; omega
theorem Kp.below (h : Kp S w v vs) (hb : Below w.heap.size w w') : Kp S w' v vs := h.tch (T := fun _ => False) (Tch.of_below hb) (fun _ _ _ e => e) (fun _ e => .inl e)

theorem loadR_some {m : Sp} {e : Ending} (h : LoadR (some m) w e w') : ∃ a c, e = .returned (.tuple #[.agg #[.int .i64 m.gen, .int .i64 m.sc, .int .i64 m.nx, .slice a m.vs.length c], .int .i64 0]) ∧ RdV w' (.slice a m.vs.length c) m.vs ∧ Below w.heap.size w w' ∧ ∀ j, (Value.slice a m.vs.length c).ownBlock = some j → w.heap.size ≤ j := h

/-- A superblock's box. -/
structure Bx (S : Nat → Prop) (w0 w : World) (q : Nat) (m : Sp) (v : Value) : Prop where
  uv : Uv w q m v
  ns : ¬ S q
  q0 : w0.heap.size ≤ q
  kp : Kp S w v m.vs

variable {q : Nat} {m : Sp}
theorem Bx.below (h : Bx S w0 w q m v) (hb : Below w.heap.size w w') : Bx S w0 w' q m v := ⟨h.uv.below hb, h.ns, h.q0, h.kp.below hb⟩
theorem Bx.dk (h : Bx S w0 w q m v) (ht : Tch S w w') (hs : ∀ k, S' k → S k ∨ w.heap.size ≤ k) : Bx S' w0 w' q m v :=
  ⟨h.uv.tch ht h.ns, fun e => by rcases hs q e with e | e; exact h.ns e; have := h.uv.lt; omega, h.q0, h.kp.tch ht h.kp.2 hs⟩
theorem Kp.set {a : Option Addr} {n c : Nat} {t : Sp} {u : Value} (h : Kp S w v vs) (hu : Uv w q m (.slice a n c)) : Kp S ((((w.setCell ⟨q, 0, none⟩ (.int .i64 t.gen)).setCell ⟨q, 1, none⟩ (.int .i64 t.sc)).setCell ⟨q, 2, none⟩ (.int .i64 t.nx)).setCell ⟨q, 3, none⟩ u) v vs :=
  h.tch (hu.tset t u) (fun h0 j hj e => by have e2 : j = q := e; rw [e2] at hj; exact rdV_ne h.1 hu rfl h0 hj) (fun _ e => .inl e)
/-- Another box is written. -/
theorem Bx.set {q' : Nat} {m' t : Sp} {a : Option Addr} {n c : Nat} {u : Value} (h : Bx S w0 w q m v) (hu : Uv w q' m' (.slice a n c)) (hne : q ≠ q') : Bx S w0 ((((w.setCell ⟨q', 0, none⟩ (.int .i64 t.gen)).setCell ⟨q', 1, none⟩ (.int .i64 t.sc)).setCell ⟨q', 2, none⟩ (.int .i64 t.nx)).setCell ⟨q', 3, none⟩ u) q m v :=
  ⟨h.uv.tch (hu.tset t u) hne, h.ns, h.q0, h.kp.set hu⟩
/-- This box is written. -/
theorem Bx.put {t : Sp} {a : Option Addr} {n c : Nat} {u : Value} (h : Bx S w0 w q m (.slice a n c)) (hk : Kp S w u t.vs) : Bx S w0 ((((w.setCell ⟨q, 0, none⟩ (.int .i64 t.gen)).setCell ⟨q, 1, none⟩ (.int .i64 t.sc)).setCell ⟨q, 2, none⟩ (.int .i64 t.nx)).setCell ⟨q, 3, none⟩ u) q t u :=
  ⟨h.uv.put t u, h.ns, h.q0, hk.set h.uv⟩
theorem Dc.set (h : Dc S w0 w d s) {a : Option Addr} {n c : Nat} {t : Sp} {u : Value} (hb : Bx S w0 w q m (.slice a n c)) : Dc S w0 ((((w.setCell ⟨q, 0, none⟩ (.int .i64 t.gen)).setCell ⟨q, 1, none⟩ (.int .i64 t.sc)).setCell ⟨q, 2, none⟩ (.int .i64 t.nx)).setCell ⟨q, 3, none⟩ u) d s :=
  ⟨h.1.tch (hb.uv.tset t u) (fun k hk e => by have e2 : k = q := e; rw [e2] at hk; exact hb.ns hk), h.2.1.trans ((hb.uv.tset t u).below h.2.1.size (fun k e => by rw [show k = q from e]; exact hb.q0)), h.2.2⟩
/-- A new box. -/
theorem bx_new (h : Dc S w0 w d s) {v : Value} (hk : Kp S w v m.vs) : Bx S w0 (w.alloc (.cells #[.int .i64 m.gen, .int .i64 m.sc, .int .i64 m.nx, v] 24)) w.heap.size m v :=
  ⟨uv_new w m v, fun e => by have := h.1.slt _ e; omega, h.2.1.size, hk.below ((Below.refl _ _).alloc (Nat.le_refl _) _)⟩
/-- New versions. -/
theorem kp_new (h : Dk S w d s) (hb : Below w.heap.size w w') {v : Value} {vs : List Vn} (hr : RdV w' v vs) (hn : ∀ j, v.ownBlock = some j → w.heap.size ≤ j) : Kp S w' v vs :=
  ⟨hr, fun _ j hj e => by have := h.slt j e; have := hn j hj; omega⟩
/-- Versions that came in. -/
theorem kp_old (h : Dc S w0 w d s) (hb : Below w.heap.size w w') {v : Value} {vs : List Vn} (hr0 : RdV w0 v vs) (hr : RdV w' v vs) : Kp S w' v vs :=
  ⟨hr, fun h0 j hj e => by have := h.2.2 j e; have := hr0.blk h0 j hj; omega⟩
end
end Go.Proofs.Ytdicgaepggffbaa
