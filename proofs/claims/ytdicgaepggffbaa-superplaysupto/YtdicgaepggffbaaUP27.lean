import Derived.Test.YtdicgaepggffbaaUP26
import Derived.Test.YtdicgaepggffbaaUP17
import Derived.Deep.QuietTactic
import Derived.BigQuiet
/-
  The program's Load of superblocks: the two sectors, and the newer one that is whole.
-/
namespace Go.Proofs.Ytdicgaepggffbaa
open Go.RowKit Pl
set_option linter.unusedVariables false
set_option linter.unusedSimpArgs false
set_option maxRecDepth 100000

/-- What a sector that is looked at leaves as the newest. -/
def nb (n : Int) (o : Option Sp) (x : List Int) : Option Sp :=
  match getU x with
  | some t => if t.sc = n ∧ (o.getD sp0).gen < t.gen then some t else o
  | none => o
/-- What a disk's two sectors tell. -/
def loadU (s : DS) : Option Sp := nb (s.L.length : Int) (nb (s.L.length : Int) none (dhs s 0)) (dhs s 1)
/-- None, or one with a Gen. -/
def GenOk (o : Option Sp) : Prop := ∀ t, o = some t → 1 ≤ t.gen
theorem nb_ok {n : Int} {o : Option Sp} (h : GenOk o) (x : List Int) : GenOk (nb n o x) := by
  intro t ht
  unfold nb at ht
  split at ht
  · rename_i u hu
    split at ht
    · cases ht
      exact (mayU_iff.1 (getU_some.1 hu).1).1.1
    · exact h t ht
  · exact h t ht
theorem genOk_none : GenOk none := fun t e => by cases e
theorem genOk_zero {o : Option Sp} (h : GenOk o) : (o.getD sp0).gen = 0 ↔ o = none := by
  cases o with
  | none => simp [sp0]
  | some t => have := h t rfl; simp; omega

/-- A newest one is told. -/
def LoadR (o : Option Sp) (w : World) (e : Ending) (w' : World) : Prop :=
  ∃ a c, e = .returned (.tuple #[supv (o.getD sp0) (.slice a (o.getD sp0).vs.length c), .int .i64 (if o.isSome = true then 0 else 7)]) ∧ RdV w' (.slice a (o.getD sp0).vs.length c) (o.getD sp0).vs ∧ Below w.heap.size w w' ∧ ∀ j, (Value.slice a (o.getD sp0).vs.length c).ownBlock = some j → w.heap.size ≤ j

theorem inf_two : (Try.prog.info? 88).map (·.size) = some 2 := by kernel_rfl
def nil2 : List Value := [.slice none 0 0, .slice none 0 0]
theorem len2U {α : Type} {l : List α} (h : l.length = 2) : ∃ a b, l = [a, b] := by
  match l, h with
  | [a, b], _ => exact ⟨a, b, rfl⟩

set_option maxHeartbeats 1000000 in
theorem sectorsOf_any {S : Nat → Prop} {d : Nat} {s : DS} (w : World) (h : Dk S w d s) :
    Calls Try.prog 51 #[dp d] w fun e w' => ∃ v0 v1, e = .returned (.agg #[v0, v1]) ∧ Rd .u8 w' v0 (dhs s 0) ∧ Rd .u8 w' v1 (dhs s 1) ∧ Below w.heap.size w w' ∧ (∀ j, v0.ownBlock = some j → w.heap.size ≤ j) ∧ ∀ j, v1.ownBlock = some j → w.heap.size ≤ j := by
  have HD : Hid (Dk S w d s) := h
  have HI := hideP inf_two
  obtain ⟨W1, hW1⟩ : ∃ W1, w.alloc (.cells #[.slice none 0 0, .slice none 0 0] 88) = W1 := ⟨_, rfl⟩
  obtain ⟨W2, hW2⟩ : ∃ W2, W1.alloc (.cells #[.slice none 0 0, .slice none 0 0] 88) = W2 := ⟨_, rfl⟩
  have s1 : W1.heap.size = w.heap.size + 1 := by rw [← hW1]; simp
  have b1 : Below w.heap.size w W1 := by rw [← hW1]; exact (Below.refl _ _).alloc (Nat.le_refl _) _
  have b2 : Below W1.heap.size W1 W2 := by rw [← hW2]; exact (Below.refl _ _).alloc (Nat.le_refl _) _
  have B2 : Hid (Below w.heap.size w W2) := b1.trans (b2.mono (by omega))
  have M1 : W1.heap[w.heap.size]? = some (.cells nil2.toArray 88 (0, 0)) := by rw [← hW1]; exact heap_alloc_new w _
  have M2 : Hid (W2.heap[w.heap.size]? = some (.cells nil2.toArray 88 (0, 0))) := by show _ = _; rw [b2.block _ (by omega)]; exact M1
  have N2 : Hid (W2.heap[w.heap.size + 1]? = some (.cells nil2.toArray 88 (0, 0))) := by show _ = _; rw [← hW2, ← s1]; exact heap_alloc_new W1 _
  clear h b1 b2 M1
  go_enter Try.func51, Try.ntmps51
  go_wp2_with fail
  clear hW1 hW2 s1
  obtain ⟨g, hg⟩ : ∃ g, Hid (w.heap.size = g) := ⟨_, rfl⟩
  rw [hg.out] at B2 M2 N2 ⊢
  go_loopw [5] (fun i wr => ∃ (k : Nat) (L2 : List Value), k ≤ 2 ∧ i = .int .i64 k ∧ Hid (L2.length = 2 ∧ (∀ v ∈ L2, ∃ a n c, v = .slice a n c ∧ (∀ j, (Value.slice a n c).ownBlock = some j → g + 1 < j)) ∧ ∀ i, i < k → ∃ v, L2[i]? = some v ∧ Rd .u8 wr v (dhs s (i : Int))) ∧ Hid (wr.heap[g]? = some (.cells nil2.toArray 88 (0, 0))) ∧ Hid (wr.heap[g + 1]? = some (.cells L2.toArray 88 (0, 0))) ∧ Hid (Below g w wr)) (fun i _ => 2 - (intOf i).toNat)
  case atStart => exact ⟨0, nil2, by decide, rfl, ⟨rfl, fun v hv => ⟨none, 0, 0, by simp [nil2] at hv; exact hv, fun j hj => by cases hj⟩, fun i hi => by omega⟩, M2, N2, B2⟩
  case round =>
    clear B2 M2 N2
    obtain ⟨k, L2, hk, rfl, HL, M, N, B⟩ := hrel
    have hgs : g + 1 < wr.heap.size := (Array.getElem?_eq_some_iff.1 N.out).1
    by_cases hlt : k < 2
    · have hki : (k : Int) < 2 := by omega
      have HC := hideP (read_all (k : Int) wr (HD.out.below (hg.out ▸ B.out : Below w.heap.size w wr)))
      go_wp2_with fail
      refine HC.out.mono ?_
      rintro e w3 ⟨v, rfl, wz, b3, n3⟩
      have hrd := wz.rd
      obtain ⟨a, c, hv, _⟩ := id hrd
      subst hv
      have M3 : Hid (w3.heap[g]? = some (.cells nil2.toArray 88 (0, 0))) := by show _ = _; rw [b3.block g (by omega)]; exact M.out
      have N3 : w3.heap[g + 1]? = some (.cells L2.toArray 88 (0, 0)) := by rw [b3.block (g + 1) (by omega)]; exact N.out
      obtain ⟨x, hx⟩ : ∃ x, L2[k]? = some x := ⟨_, List.getElem?_eq_getElem (by rw [HL.out.1]; exact hlt)⟩
      have cx : w3.cell? ⟨g + 1, k, none⟩ = some x := by rw [cell_of_row w3 (g + 1) k _ _ (0, 0) N3, List.getElem?_toArray]; exact hx
      have fx : w3.frozen? ⟨g + 1, k, none⟩ = false := frozen_of_row w3 (g + 1) k _ _ N3
      obtain ⟨X, hX⟩ : ∃ X, Value.slice a (dhs s (k : Int)).length c = X := ⟨_, rfl⟩
      have T4 : Tch (fun j => j = g + 1) w3 (w3.setCell ⟨g + 1, k, none⟩ X) := Tch.setCell (Tch.refl (fun j => j = g + 1) w3) (p := ⟨g + 1, k, none⟩) (fun _ => rfl) _
      have N4 : Hid ((w3.setCell ⟨g + 1, k, none⟩ X).heap[g + 1]? = some (.cells (L2.set k X).toArray 88 (0, 0))) := by
        show _ = _
        rw [heap_setCell_same w3 (g + 1) k _ _ X N3]
        simp
      have M4 : Hid ((w3.setCell ⟨g + 1, k, none⟩ X).heap[g]? = some (.cells nil2.toArray 88 (0, 0))) := by
        show _ = _
        rw [T4.block g (Array.getElem?_eq_some_iff.1 M3.out).1 (by omega)]
        exact M3.out
      have B4 : Hid (Below g w (w3.setCell ⟨g + 1, k, none⟩ X)) := (B.out.trans (b3.mono (by omega))).setCell (by show g ≤ g + 1; omega) _
      have HL4 : Hid ((L2.set k X).length = 2 ∧ (∀ v ∈ L2.set k X, ∃ a n c, v = .slice a n c ∧ (∀ j, (Value.slice a n c).ownBlock = some j → g + 1 < j)) ∧ ∀ i, i < k + 1 → ∃ v, (L2.set k X)[i]? = some v ∧ Rd .u8 (w3.setCell ⟨g + 1, k, none⟩ X) v (dhs s (i : Int))) := by
        have hXn : ∀ j, X.ownBlock = some j → g + 1 < j := fun j hj => Nat.lt_of_lt_of_le hgs (n3 j (by rw [hX]; exact hj))
        refine ⟨by rw [List.length_set]; exact HL.out.1, fun v hv => ?_, fun i hi => ?_⟩
        · rcases List.mem_or_eq_of_mem_set hv with e | e
          · exact HL.out.2.1 v e
          · exact ⟨a, _, c, by rw [e, hX], by rw [hX]; exact hXn⟩
        · rw [List.getElem?_set]
          by_cases e : k = i
          · subst e
            refine ⟨X, by rw [if_pos rfl, if_pos (by rw [HL.out.1]; exact hlt)], ?_⟩
            rw [← hX]
            exact (by rw [hX] at hrd; rw [hX]; exact hrd.tch T4 (fun j hj e => by have := hXn j hj; have e2 : j = g + 1 := e; omega))
          · obtain ⟨v, h1, h2⟩ := HL.out.2.2 i (by omega)
            refine ⟨v, by rw [if_neg e]; exact h1, ?_⟩
            obtain ⟨va, vn, vc, rfl, hvn⟩ := HL.out.2.1 v (List.mem_of_getElem? h1)
            exact (h2.below b3).tch T4 (fun j hj e => by have := hvn j hj; have e2 : j = g + 1 := e; omega)
      subst hX
      clear wz hrd n3 b3 HL N M B HC N3 T4 hx M3
      go_wp2_with fail
      go_roundw
      case rel => exact ⟨k + 1, _, by omega, by go_num, HL4, M4, N4, B4⟩
      case measure => simp [intOf]; omega
    · have hki : ¬ (k : Int) < 2 := by omega
      obtain ⟨x0, x1, rfl⟩ := len2U HL.out.1
      obtain ⟨v0, e0, r0⟩ := HL.out.2.2 0 (by omega)
      obtain ⟨v1, e1, r1⟩ := HL.out.2.2 1 (by omega)
      simp at e0 e1
      subst e0
      subst e1
      obtain ⟨a0, n0, c0, hx0, h0⟩ := HL.out.2.1 x0 (by simp)
      obtain ⟨a1, n1, c1, hx1, h1⟩ := HL.out.2.1 x1 (by simp)
      have R0 := hideP r0
      have R1 := hideP r1
      have y0 : wr.cell? ⟨g + 1, 0, none⟩ = some x0 := by rw [cell_of_row wr (g + 1) 0 _ _ (0, 0) N.out]; rfl
      have y1 : wr.cell? ⟨g + 1, 1, none⟩ = some x1 := by rw [cell_of_row wr (g + 1) 1 _ _ (0, 0) N.out]; rfl
      have z0 : wr.cell? ⟨g, 0, none⟩ = some (.slice none 0 0) := by rw [cell_of_row wr g 0 _ _ (0, 0) M.out]; rfl
      have z1 : wr.cell? ⟨g, 1, none⟩ = some (.slice none 0 0) := by rw [cell_of_row wr g 1 _ _ (0, 0) M.out]; rfl
      have f0 := frozen_of_row wr g 0 _ _ M.out
      have f1 := frozen_of_row wr g 1 _ _ M.out
      have T4 : Tch (fun j => j = g) wr (wr.setCells g 0 [x0, x1]) := setCells_tchD g _ 0 wr
      have hs := heap_setCells_same [x0, x1] 0 wr _ M.out (by simp [nil2])
      have HLD : Hid ((loadVar 88 ⟨g, 0, none⟩).run Try.prog (wr.setCells g 0 [x0, x1]) = .ok (.agg #[x0, x1]) (wr.setCells g 0 [x0, x1])) := by
        refine run_loadVar_mid (P := Try.prog) _ g 0 88 [x0, x1] _ (fun j u hu => ?_) Try.underlying88 rfl inf_two
        rw [Nat.zero_add, cell_of_row _ g j _ _ (0, 0) hs]
        simp [nil2]
        exact hu
      have R0' := hideP (r0.tch T4 (fun j hj e => by rw [hx0] at hj; have := h0 j hj; have e2 : j = g := e; omega))
      have R1' := hideP (r1.tch T4 (fun j hj e => by rw [hx1] at hj; have := h1 j hj; have e2 : j = g := e; omega))
      have B4 : Hid (Below g w (wr.setCells g 0 [x0, x1])) := B.out.trans (T4.below (by omega) (fun j e => by omega))
      have e4 : wr.setCells g 0 [x0, x1] = (wr.setCell ⟨g, 0, none⟩ x0).setCell ⟨g, 1, none⟩ x1 := rfl
      rw [e4] at HLD R0' R1' B4
      have H0 := hideP h0
      have H1 := hideP h1
      clear r0 r1 h0 h1 HL M N B T4 hs hlt R0 R1 e4
      subst hx0
      subst hx1
      go_wp2_with fail
      refine bodyPost_ret (v := .agg #[.slice a0 n0 c0, .slice a1 n1 c1]) (results_atU (p := 2) (ty := 88) rfl _ _ _ g _ rfl HLD.out) rfl ?_
      exact ⟨_, _, rfl, R0'.out, R1'.out, by rw [hg.out]; exact B4.out, fun j hj => by have := H0.out j hj; rw [hg.out]; omega, fun j hj => by have := H1.out j hj; rw [hg.out]; omega⟩
end Go.Proofs.Ytdicgaepggffbaa
/-
  The program's Load of superblocks.
-/
namespace Go.Proofs.Ytdicgaepggffbaa
open Go.RowKit Pl
set_option linter.unusedVariables false
set_option linter.unusedSimpArgs false
set_option maxRecDepth 100000

/-- The newest of the first k. -/
def nbK (s : DS) : Nat → Option Sp
  | 0 => none
  | k + 1 => nb (s.L.length : Int) (nbK s k) (dhs s (k : Int))
theorem nbK_two (s : DS) : nbK s 2 = loadU s := rfl
theorem nbK_ok (s : DS) : ∀ k, GenOk (nbK s k)
  | 0 => genOk_none
  | k + 1 => nb_ok (nbK_ok s k) _

set_option maxHeartbeats 400000 in
theorem load_nilU (w : World) : Calls Try.prog 30 #[.pointer none] w fun e w' => e = .returned (.tuple #[supv sp0 (.slice none 0 0), .int .i64 1]) ∧ Below w.heap.size w w' := by
  obtain ⟨W1, hW1⟩ : ∃ W1, w.alloc (.cells #[.int .i64 0, .int .i64 0, .int .i64 0, .slice none 0 0] 24) = W1 := ⟨_, rfl⟩
  have b1 : Hid (Below w.heap.size w W1) := by rw [← hW1]; exact (Below.refl _ _).alloc (Nat.le_refl _) _
  have Q1 : Hid (Uv W1 w.heap.size sp0 (.slice none 0 0)) := by rw [← hW1]; exact uv_new w sp0 _
  have q0 : W1.cell? ⟨w.heap.size, 0, none⟩ = some (.int .i64 0) := Q1.out.c0
  have q1 : W1.cell? ⟨w.heap.size, 1, none⟩ = some (.int .i64 0) := Q1.out.c1
  have q2 : W1.cell? ⟨w.heap.size, 2, none⟩ = some (.int .i64 0) := Q1.out.c2
  have q3 := Q1.out.c3
  have f0 := Q1.out.fz 0
  have f1 := Q1.out.fz 1
  have f2 := Q1.out.fz 2
  have f3 := Q1.out.fz 3
  have HLD := hideP (Q1.out.put sp0 (.slice none 0 0)).load
  have HB : Hid (Below w.heap.size w ((((W1.setCell ⟨w.heap.size, 0, none⟩ (.int .i64 sp0.gen)).setCell ⟨w.heap.size, 1, none⟩ (.int .i64 sp0.sc)).setCell ⟨w.heap.size, 2, none⟩ (.int .i64 sp0.nx)).setCell ⟨w.heap.size, 3, none⟩ (.slice none 0 0))) := b1.out.trans ((Q1.out.tset sp0 _).below (by have := Q1.out.lt; omega) (fun k e => by omega))
  go_enter Try.func30, Try.ntmps30
  go_wp2_with fail
  refine bodyPost_ret (v := .tuple #[supv sp0 (.slice none 0 0), .int .i64 1]) (results_cellV (p := 2) (ty := 24) rfl _ _ _ w.heap.size _ _ rfl HLD.out rfl) rfl ?_
  exact ⟨rfl, HB.out⟩

theorem idx_0 (W : World) (a0 a1 : Option Addr) (l0 l1 c0 c1 : Nat) : (Instr.index 88 (.agg #[.slice a0 l0 c0, .slice a1 l1 c1]) (.int .i64 0)).run Try.prog W = .ok (.slice a0 l0 c0) W := by kernel_rfl
theorem idx_1 (W : World) (a0 a1 : Option Addr) (l0 l1 c0 c1 : Nat) : (Instr.index 88 (.agg #[.slice a0 l0 c0, .slice a1 l1 c1]) (.int .i64 1)).run Try.prog W = .ok (.slice a1 l1 c1) W := by kernel_rfl
theorem dhs_by {S : Nat → Prop} {w : World} {d : Nat} {s : DS} (h : Dk S w d s) (at_ : Int) : By (dhs s at_) := by
  obtain ⟨lb, vb, lc, g, h⟩ := h
  unfold dhs
  by_cases c : at_ < 0 ∨ (s.L.length : Int) ≤ at_
  · rw [if_pos c]; exact by_of_memB (by simp)
  · rw [if_neg c]; exact (DS.has_ok h (by omega)).2
theorem nb_none {n : Int} {o : Option Sp} {x : List Int} (h : getU x = none) : nb n o x = o := by unfold nb; rw [h]
theorem nb_skip {n : Int} {o : Option Sp} {x : List Int} {t : Sp} (h : getU x = some t) (c : ¬ (t.sc = n ∧ (o.getD sp0).gen < t.gen)) : nb n o x = o := by unfold nb; rw [h]; exact if_neg c
theorem nb_take {n : Int} {o : Option Sp} {x : List Int} {t : Sp} (h : getU x = some t) (c : t.sc = n ∧ (o.getD sp0).gen < t.gen) : nb n o x = some t := by unfold nb; rw [h]; exact if_pos c

set_option maxHeartbeats 1000000 in
theorem load_anyU {S : Nat → Prop} {d : Nat} {s : DS} (w : World) (h : Dk S w d s) :
    Calls Try.prog 30 #[dp d] w fun e w' => LoadR (loadU s) w e w' := by
  have HD : Hid (Dk S w d s) := h
  have hLn := h.len
  obtain ⟨W1, hW1⟩ : ∃ W1, w.alloc (.cells #[.int .i64 0, .int .i64 0, .int .i64 0, .slice none 0 0] 24) = W1 := ⟨_, rfl⟩
  obtain ⟨W2, hW2⟩ : ∃ W2, W1.alloc (.cells #[.int .i64 0, .int .i64 0, .int .i64 0, .slice none 0 0] 24) = W2 := ⟨_, rfl⟩
  have s1 : W1.heap.size = w.heap.size + 1 := by rw [← hW1]; simp
  have b1 : Below w.heap.size w W1 := by rw [← hW1]; exact (Below.refl _ _).alloc (Nat.le_refl _) _
  have b2 : Below W1.heap.size W1 W2 := by rw [← hW2]; exact (Below.refl _ _).alloc (Nat.le_refl _) _
  have B2 : Hid (Below w.heap.size w W2) := b1.trans (b2.mono (by omega))
  have U1 : Uv W1 w.heap.size sp0 (.slice none 0 0) := by rw [← hW1]; exact uv_new w sp0 _
  have Q2 : Hid (Uv W2 w.heap.size sp0 (.slice none 0 0)) := U1.below b2
  have U2 : Hid (Uv W2 (w.heap.size + 1) sp0 (.slice none 0 0)) := by rw [← hW2, ← s1]; exact uv_new W1 sp0 _
  have HC2 := hideP (sectorsOf_any W2 (HD.out.below B2.out))
  obtain ⟨n, hn⟩ : ∃ n, Hid (s.L.length = n) := ⟨_, rfl⟩
  rw [hn.out] at hLn
  obtain ⟨hn1, hn2⟩ := hLn
  clear h b1 b2 U1
  go_enter Try.func30, Try.ntmps30
  go_wp2_with fail
  refine HC2.out.mono ?_
  rintro e w3 ⟨v0, v1, rfl, r0, r1, b3, n0, n1⟩
  obtain ⟨g, hg⟩ : ∃ g, Hid (w.heap.size = g) := ⟨_, rfl⟩
  rw [hg.out] at Q2 U2 B2 ⊢
  have hg2 : g ≤ W2.heap.size := by have := B2.out.size; have := hg.out; omega
  have Q3 : Hid (Uv w3 g sp0 (.slice none 0 0)) := Q2.out.below b3
  have U3 : Hid (Uv w3 (g + 1) sp0 (.slice none 0 0)) := U2.out.below b3
  have B3 : Hid (Below g w w3) := B2.out.trans (b3.mono hg2)
  obtain ⟨a0, c0, hv0, _⟩ := id r0
  obtain ⟨a1, c1, hv1, _⟩ := id r1
  have R0 : Hid (Rd .u8 w3 v0 (dhs s 0)) := r0
  have R1 : Hid (Rd .u8 w3 v1 (dhs s 1)) := r1
  have N0 : Hid (∀ j, v0.ownBlock = some j → g + 1 < j) := fun j hj => by have := n0 j hj; have := U2.out.lt; omega
  have N1 : Hid (∀ j, v1.ownBlock = some j → g + 1 < j) := fun j hj => by have := n1 j hj; have := U2.out.lt; omega
  rw [hv0, hv1]
  rw [hv0] at R0 N0
  rw [hv1] at R1 N1
  generalize (dhs s 0).length = l0 at *
  generalize (dhs s 1).length = l1 at *
  clear r0 r1 b3 n0 n1 hW1 hW2 s1 Q2 U2 B2 HC2 hv0 hv1 hg2
  go_wp2_with fail
  go_loopw [14] (fun i wr => ∃ (k : Nat) (a : Option Addr) (c : Nat) (T : Sp), k ≤ 2 ∧ i = .int .i64 k ∧ Hid ((nbK s k).getD sp0 = T) ∧ Hid (Uv wr (g + 1) T (.slice a T.vs.length c)) ∧ Hid (RdV wr (.slice a T.vs.length c) T.vs) ∧ Hid (∀ j, (Value.slice a T.vs.length c).ownBlock = some j → g + 1 < j) ∧ Hid (Uv wr g sp0 (.slice none 0 0)) ∧ Hid (Below g w wr ∧ Rd .u8 wr (.slice a0 l0 c0) (dhs s 0) ∧ Rd .u8 wr (.slice a1 l1 c1) (dhs s 1))) (fun i _ => 2 - (intOf i).toNat)
  case atStart => exact ⟨0, none, 0, sp0, by decide, rfl, rfl, U3, rdV_nil _, (show Hid _ from fun j hj => by cases hj), Q3, ⟨B3.out, R0.out, R1.out⟩⟩
  case round =>
    clear U3 Q3
    obtain ⟨k, a, c, T, hk, rfl, HT, U, R, N, Q, B⟩ := hrel
    by_cases hlt : k < 2
    · have hki : (k : Int) < 2 := by omega
      obtain ⟨av, lv, cv, hidx, hrd⟩ : ∃ (av : Option Addr) (lv cv : Nat), (∀ W, (Instr.index 88 (.agg #[.slice a0 l0 c0, .slice a1 l1 c1]) (.int .i64 (k : Int))).run Try.prog W = .ok (.slice av lv cv) W) ∧ Rd .u8 wr (.slice av lv cv) (dhs s (k : Int)) := by
        have h01 : k = 0 ∨ k = 1 := by omega
        rcases h01 with rfl | rfl
        · exact ⟨a0, l0, c0, fun W => idx_0 W a0 a1 l0 l1 c0 c1, B.out.2.1⟩
        · exact ⟨a1, l1, c1, fun W => idx_1 W a0 a1 l0 l1 c0 c1, B.out.2.2⟩
      have HX : Hid (Rd .u8 wr (.slice av lv cv) (dhs s (k : Int))) := hrd
      have HXB : Hid (By (dhs s (k : Int))) := dhs_by HD.out _
      have hg1 : g + 1 < wr.heap.size := U.out.lt
      clear hrd
      go_wp2_with fail
      refine (getU_any _ _ wr HX.out HXB.out).mono ?_
      intro e w4 h
      obtain ⟨a4, c4, rfl, r4, b4, n4⟩ := getU_open h
      clear h hidx
      obtain ⟨G, hG⟩ : ∃ G, Hid (getU (dhs s (k : Int)) = G) := ⟨_, rfl⟩
      rw [hG.out] at r4 n4 ⊢
      obtain ⟨X, hX⟩ : ∃ X, Hid (G.getD sp0 = X) := ⟨_, rfl⟩
      rw [hX.out] at r4 n4 ⊢
      obtain ⟨q, hq⟩ : ∃ q, w4.heap.size = q := ⟨_, rfl⟩
      obtain ⟨W5, hW5⟩ : ∃ W5, w4.alloc (.cells #[.int .i64 X.gen, .int .i64 X.sc, .int .i64 X.nx, .slice a4 X.vs.length c4] 24) = W5 := ⟨_, rfl⟩
      have b5 : Below w4.heap.size w4 W5 := by rw [← hW5]; exact (Below.refl _ _).alloc (Nat.le_refl _) _
      have b45 : Below wr.heap.size wr W5 := b4.trans (b5.mono b4.size)
      have V5 : Hid (Uv W5 q X (.slice a4 X.vs.length c4)) := by rw [← hW5, ← hq]; exact uv_new w4 X _
      have Y5 : Hid (RdV W5 (.slice a4 X.vs.length c4) X.vs) := r4.below b5
      have U5 : Hid (Uv W5 (g + 1) T (.slice a T.vs.length c)) := U.out.below b45
      have R5 : Hid (RdV W5 (.slice a T.vs.length c) T.vs) := R.out.below b45
      have Q5 : Hid (Uv W5 g sp0 (.slice none 0 0)) := Q.out.below b45
      have B5 : Hid (Below g w W5 ∧ Rd .u8 W5 (.slice a0 l0 c0) (dhs s 0) ∧ Rd .u8 W5 (.slice a1 l1 c1) (dhs s 1)) := ⟨B.out.1.trans (b45.mono (by omega)), B.out.2.1.below b45, B.out.2.2.below b45⟩
      have NX : Hid (∀ j, (Value.slice a4 X.vs.length c4).ownBlock = some j → g + 1 < j) := fun j hj => by have := n4 j hj; omega
      have HQG : Hid (g + 1 < q) := by show _ < _; rw [← hq]; exact Nat.lt_of_lt_of_le hg1 b4.size
      have HSZ : Hid (∀ m, Calls Try.prog 43 #[dp d] (W5.drewN m) fun e w' => e = .returned (.int .i64 (n : Int)) ∧ w' = W5.drewN m) := fun m => by
        have hd : Dk S (W5.drewN m) d s := HD.out.below (by rw [hg.out]; exact B5.out.1.trans (Below.of_drewN _ _ _))
        have := size_any (W5.drewN m) hd
        rw [hn.out] at this
        exact this
      have v0 := V5.out.c0
      have v1 := V5.out.c1
      have v2 := V5.out.c2
      have v3 := V5.out.c3
      have t0 := U5.out.c0
      obtain ⟨m, hm⟩ : ∃ m, Hid (T.vs.length = m) := ⟨_, rfl⟩
      obtain ⟨tg, htg⟩ : ∃ m, Hid (T.gen = m) := ⟨_, rfl⟩
      obtain ⟨xm, hxm⟩ : ∃ m, Hid (X.vs.length = m) := ⟨_, rfl⟩
      obtain ⟨xg, hxg⟩ : ∃ m, Hid (X.gen = m) := ⟨_, rfl⟩
      obtain ⟨xc, hxc⟩ : ∃ m, Hid (X.sc = m) := ⟨_, rfl⟩
      obtain ⟨xn, hxn⟩ : ∃ m, Hid (X.nx = m) := ⟨_, rfl⟩
      unfold supv
      rw [hxm.out] at hW5 V5 Y5 NX v3 ⊢
      rw [hxg.out, hxc.out, hxn.out] at hW5 ⊢
      rw [hxg.out] at v0
      rw [hxc.out] at v1
      rw [hxn.out] at v2
      rw [hm.out] at U5 R5 N
      rw [htg.out] at t0
      clear r4 b4 n4 b5 b45 U R Q B HX hg1
      cases hGo : G with
      | none =>
        rw [hGo] at hG
        have HG : Hid (getU (dhs s (k : Int)) = none) := hG
        clear hGo hG hX
        simp only [Option.isSome_none]
        have HN : Hid ((nbK s (k + 1)).getD sp0 = T) := by
          show (nb _ (nbK s k) _).getD sp0 = T
          rw [nb_none HG.out]
          exact HT.out
        go_wp2_with fail
        go_quiet (fail)
        have U7 : Hid (Uv (W5.drewN nq) (g + 1) T (.slice a m c)) := U5
        have R7 : Hid (RdV (W5.drewN nq) (.slice a m c) T.vs) := R5.out.below (Below.of_drewN _ _ _)
        have Q7 : Hid (Uv (W5.drewN nq) g sp0 (.slice none 0 0)) := Q5
        have B7 : Hid (Below g w (W5.drewN nq) ∧ Rd .u8 (W5.drewN nq) (.slice a0 l0 c0) (dhs s 0) ∧ Rd .u8 (W5.drewN nq) (.slice a1 l1 c1) (dhs s 1)) := ⟨B5.out.1.trans (Below.of_drewN _ _ _), B5.out.2.1.below (Below.of_drewN _ _ _), B5.out.2.2.below (Below.of_drewN _ _ _)⟩
        rw [← hm.out] at U7 R7 N
        go_wp2_with fail
        exact ⟨⟨k + 1, a, c, T, by omega, by go_num, HN, U7, R7, N, Q7, B7⟩, by simp [intOf]; omega⟩
      | some t =>
        rw [hGo] at hG hX
        have HG : Hid (getU (dhs s (k : Int)) = some t) := hG
        obtain rfl : t = X := hX.out
        clear hGo hG hX
        simp only [Option.isSome_some]
        by_cases e1 : xc = (n : Int)
        · by_cases e2 : xg > tg
          · have e2b : tg < xg := e2
            have HN : Hid ((nbK s (k + 1)).getD sp0 = t) := by
              show (nb _ (nbK s k) _).getD sp0 = t
              rw [nb_take HG.out ⟨by rw [hxc.out, hn.out]; exact e1, by rw [HT.out, htg.out, hxg.out]; exact e2b⟩]
              rfl
            have e1b : (xc == (n : Int)) = true := by rw [beq_iff_eq]; exact e1
            have t1 := U5.out.c1
            have t2 := U5.out.c2
            have t3 := U5.out.c3
            generalize T.sc = tsc at t1
            generalize T.nx = tnx at t2
            subst e1
            go_wp2_with fail
            go_quiet (first | (go_at_call 43; exact Calls.quiet_of_same (HSZ.out _)))
            obtain ⟨W6, hW6⟩ : ∃ W6, Hid (W5.drewN nq = W6) := ⟨_, rfl⟩
            have U6 : Hid (Uv W6 (g + 1) T (.slice a m c)) := by rw [← hW6.out]; exact U5
            have V6 : Hid (Uv W6 q t (.slice a4 xm c4)) := by rw [← hW6.out]; exact V5
            have Y6 : Hid (RdV W6 (.slice a4 xm c4) t.vs) := by rw [← hW6.out]; exact Y5.out.below (Below.of_drewN _ _ _)
            have Q6 : Hid (Uv W6 g sp0 (.slice none 0 0)) := by rw [← hW6.out]; exact Q5
            have B6 : Hid (Below g w W6 ∧ Rd .u8 W6 (.slice a0 l0 c0) (dhs s 0) ∧ Rd .u8 W6 (.slice a1 l1 c1) (dhs s 1)) := by rw [← hW6.out]; exact ⟨B5.out.1.trans (Below.of_drewN _ _ _), B5.out.2.1.below (Below.of_drewN _ _ _), B5.out.2.2.below (Below.of_drewN _ _ _)⟩
            rw [hW6.out]
            clear v0 v1 v2 v3 t0 t1 t2 t3 U5 V5 Y5 Q5 B5 hW6 hW5 hq
            have v0 := V6.out.c0
            have v1 := V6.out.c1
            have v2 := V6.out.c2
            have v3 := V6.out.c3
            have t0 := U6.out.c0
            have t1 := U6.out.c1
            have t2 := U6.out.c2
            have t3 := U6.out.c3
            have f0 := U6.out.fz 0
            have f1 := U6.out.fz 1
            have f2 := U6.out.fz 2
            have f3 := U6.out.fz 3
            have HP := hideP (U6.out.put t (.slice a4 xm c4))
            have HTS := hideP (U6.out.tset t (.slice a4 xm c4))
            have Y8 := hideP (Y6.out.tch HTS.out (fun j hj e => by have := NX.out j hj; have e3 : j = g + 1 := e; omega))
            have Q8 := hideP (Q6.out.tch HTS.out (by omega))
            have B8 := hideP (And.intro (B6.out.1.trans (HTS.out.below (by have := Q6.out.lt; omega) (fun j e => by rw [e]; omega))) (And.intro (B6.out.2.1.tch HTS.out (fun j hj e => by have := N0.out j hj; have e3 : j = g + 1 := e; omega)) (B6.out.2.2.tch HTS.out (fun j hj e => by have := N1.out j hj; have e3 : j = g + 1 := e; omega))))
            rw [hxg.out, hxc.out, hxn.out] at HP HTS Y8 Q8 B8
            rw [hxg.out] at v0
            rw [hxc.out] at v1
            rw [hxn.out] at v2
            clear U6 V6 Y6 Q6 B6
            generalize T.gen = tg2 at t0
            generalize T.sc = tsc at t1
            generalize T.nx = tnx at t2
            go_wp2_with fail
            exact ⟨⟨k + 1, a4, c4, t, by omega, by go_num, HN, by rw [hxm.out]; exact HP, by rw [hxm.out]; exact Y8, by rw [hxm.out]; exact NX, Q8, B8⟩, by simp [intOf]; omega⟩
          · have e2d : decide (xg > tg) = false := decide_eq_false e2
            have e2f : decide (tg < xg) = false := decide_eq_false e2
            have e1b : (xc == (n : Int)) = true := by rw [beq_iff_eq]; exact e1
            have hcn : ¬ (t.sc = (s.L.length : Int) ∧ ((nbK s k).getD sp0).gen < t.gen) := fun h => e2 (by have := h.2; rw [HT.out, htg.out, hxg.out] at this; exact this)
            have HCN := hideP hcn
            clear hcn
            subst e1
            have HN : Hid ((nbK s (k + 1)).getD sp0 = T) := by
              show (nb _ (nbK s k) _).getD sp0 = T
              rw [nb_skip HG.out HCN.out]
              exact HT.out
            go_wp2_with fail
            go_quiet (first | (go_at_call 43; exact Calls.quiet_of_same (HSZ.out _)))
            have U7 : Hid (Uv (W5.drewN nq) (g + 1) T (.slice a m c)) := U5
            have R7 : Hid (RdV (W5.drewN nq) (.slice a m c) T.vs) := R5.out.below (Below.of_drewN _ _ _)
            have Q7 : Hid (Uv (W5.drewN nq) g sp0 (.slice none 0 0)) := Q5
            have B7 : Hid (Below g w (W5.drewN nq) ∧ Rd .u8 (W5.drewN nq) (.slice a0 l0 c0) (dhs s 0) ∧ Rd .u8 (W5.drewN nq) (.slice a1 l1 c1) (dhs s 1)) := ⟨B5.out.1.trans (Below.of_drewN _ _ _), B5.out.2.1.below (Below.of_drewN _ _ _), B5.out.2.2.below (Below.of_drewN _ _ _)⟩
            rw [← hm.out] at U7 R7 N
            go_wp2_with fail
            exact ⟨⟨k + 1, a, c, T, by omega, by go_num, HN, U7, R7, N, Q7, B7⟩, by simp [intOf]; omega⟩
        · have e1b : (xc == (n : Int)) = false := by rw [beq_eq_false_iff_ne]; exact e1
          have hcn : ¬ (t.sc = (s.L.length : Int) ∧ ((nbK s k).getD sp0).gen < t.gen) := fun h => e1 (by rw [← hxc.out, ← hn.out]; exact h.1)
          have HCN := hideP hcn
          clear hcn
          have HN : Hid ((nbK s (k + 1)).getD sp0 = T) := by
            show (nb _ (nbK s k) _).getD sp0 = T
            rw [nb_skip HG.out HCN.out]
            exact HT.out
          go_wp2_with fail
          go_quiet (first | (go_at_call 43; exact Calls.quiet_of_same (HSZ.out _)))
          have U7 : Hid (Uv (W5.drewN nq) (g + 1) T (.slice a m c)) := U5
          have R7 : Hid (RdV (W5.drewN nq) (.slice a m c) T.vs) := R5.out.below (Below.of_drewN _ _ _)
          have Q7 : Hid (Uv (W5.drewN nq) g sp0 (.slice none 0 0)) := Q5
          have B7 : Hid (Below g w (W5.drewN nq) ∧ Rd .u8 (W5.drewN nq) (.slice a0 l0 c0) (dhs s 0) ∧ Rd .u8 (W5.drewN nq) (.slice a1 l1 c1) (dhs s 1)) := ⟨B5.out.1.trans (Below.of_drewN _ _ _), B5.out.2.1.below (Below.of_drewN _ _ _), B5.out.2.2.below (Below.of_drewN _ _ _)⟩
          rw [← hm.out] at U7 R7 N
          go_wp2_with fail
          exact ⟨⟨k + 1, a, c, T, by omega, by go_num, HN, U7, R7, N, Q7, B7⟩, by simp [intOf]; omega⟩
    · have hki : ¬ (k : Int) < 2 := by omega
      obtain rfl : k = 2 := by omega
      rw [nbK_two] at HT
      have hok : GenOk (loadU s) := nbK_ok s 2
      obtain ⟨o, ho⟩ : ∃ o, Hid (loadU s = o) := ⟨_, rfl⟩
      rw [ho.out] at HT hok
      have t0 := U.out.c0
      have t1 := U.out.c1
      have t2 := U.out.c2
      have t3 := U.out.c3
      have q0 : wr.cell? ⟨g, 0, none⟩ = some (.int .i64 0) := Q.out.c0
      have q1 : wr.cell? ⟨g, 1, none⟩ = some (.int .i64 0) := Q.out.c1
      have q2 : wr.cell? ⟨g, 2, none⟩ = some (.int .i64 0) := Q.out.c2
      have q3 := Q.out.c3
      have f0 := Q.out.fz 0
      have f1 := Q.out.fz 1
      have f2 := Q.out.fz 2
      have f3 := Q.out.fz 3
      have HO : Hid (GenOk o) := hok
      clear hok
      cases o with
      | none =>
        obtain rfl : sp0 = T := HT.out
        have t0' : wr.cell? ⟨g + 1, 0, none⟩ = some (.int .i64 0) := t0
        have HLD := hideP (Q.out.put sp0 (.slice none 0 0)).load
        have HBE := hideP (B.out.1.trans ((Q.out.tset sp0 (.slice none 0 0)).below (by have := Q.out.lt; omega) (fun j e => by omega)))
        clear t0 t1 t2 t3
        go_wp2_with fail
        refine bodyPost_ret (v := .tuple #[supv sp0 (.slice none 0 0), .int .i64 7]) (results_cellV (p := 2) (ty := 24) rfl _ _ _ g _ _ rfl HLD.out rfl) rfl ?_
        rw [ho.out]
        exact ⟨none, 0, rfl, rdV_nil _, by rw [hg.out]; exact HBE.out, fun j hj => by cases hj⟩
      | some x =>
        obtain rfl : x = T := HT.out
        have hge := HO.out x rfl
        have HLD := hideP (Q.out.put x (.slice a x.vs.length c)).load
        have HTS := hideP (Q.out.tset x (.slice a x.vs.length c))
        have HBE := hideP (B.out.1.trans (HTS.out.below (by have := Q.out.lt; omega) (fun j e => by omega)))
        have HRE := hideP (R.out.tch HTS.out (fun j hj e => by have e2 : j = g := e; have := N.out j hj; omega))
        obtain ⟨l, hl⟩ : ∃ l, Hid (x.vs.length = l) := ⟨_, rfl⟩
        obtain ⟨xg, hxg⟩ : ∃ m, Hid (x.gen = m) := ⟨_, rfl⟩
        obtain ⟨xc, hxc⟩ : ∃ m, Hid (x.sc = m) := ⟨_, rfl⟩
        obtain ⟨xn, hxn⟩ : ∃ m, Hid (x.nx = m) := ⟨_, rfl⟩
        rw [hxg.out, hxc.out, hxn.out] at HLD HTS HBE HRE
        rw [hl.out] at HLD HTS HBE HRE t3 N
        rw [hxg.out] at t0 hge
        rw [hxc.out] at t1
        rw [hxn.out] at t2
        have hne : (xg == 0) = false := by rw [beq_eq_false_iff_ne]; omega
        clear U R Q B
        go_wp2_with fail
        refine bodyPost_ret (v := .tuple #[supv x (.slice a l c), .int .i64 0]) (results_cellV (p := 2) (ty := 24) rfl _ _ _ g _ _ rfl HLD.out rfl) rfl ?_
        rw [ho.out]
        refine ⟨a, c, by rw [← hl.out]; rfl, by show RdV _ (.slice a x.vs.length c) x.vs; rw [hl.out]; exact HRE.out, by rw [hg.out]; exact HBE.out, fun j hj => by rw [← hl.out] at N; have := N.out j hj; rw [hg.out]; omega⟩
end Go.Proofs.Ytdicgaepggffbaa
/-
  The program's Save of superblocks.
-/
namespace Go.Proofs.Ytdicgaepggffbaa
open Go.RowKit Pl
set_option linter.unusedVariables false
set_option linter.unusedSimpArgs false
set_option maxRecDepth 100000

/-- What a Save answers, and leaves. -/
def sco (s : DS) (t : Sp) : Int := if mayU t = true ∧ t.sc = (s.L.length : Int) then 0 else 1
def svv (s : DS) (t : Sp) : DS := if mayU t = true ∧ t.sc = (s.L.length : Int) then (wrr s (t.gen % 2) (usec t)).fl else s

theorem fl_len (s : DS) : s.fl.L.length = s.L.length := by
  unfold DS.fl
  split <;> simp

set_option maxHeartbeats 400000 in
theorem save_nilU (t : Sp) (v : Value) (w : World) (hr : RdV w v t.vs) : Calls Try.prog 20 #[.pointer none, supv t v] w fun e w' => e = .returned (.int .i64 1) ∧ Below w.heap.size w w' := by
  obtain ⟨a, cap, rfl, _⟩ := id hr
  obtain ⟨W1, hW1⟩ : ∃ W1, w.alloc (.cells #[.int .i64 t.gen, .int .i64 t.sc, .int .i64 t.nx, .slice a t.vs.length cap] 24) = W1 := ⟨_, rfl⟩
  have B1 : Hid (Below w.heap.size w W1) := by rw [← hW1]; exact (Below.refl _ _).alloc (Nat.le_refl _) _
  generalize t.vs.length = l at *
  unfold supv
  clear hr
  go_enter Try.func20, Try.ntmps20
  go_wp2_with fail
  go_quiet (fail)
  go_wp2_with fail
  go_ret
  exact ⟨rfl, B1.out.trans (Below.of_drewN _ _ _)⟩

set_option maxHeartbeats 1000000 in
theorem save_anyU {S : Nat → Prop} {d : Nat} {s : DS} (t : Sp) (v : Value) (w : World) (h : Dk S w d s) (hr : RdV w v t.vs) (hm : ∀ i, (s.V i).length < 274877906943) :
    Calls Try.prog 20 #[dp d, supv t v] w fun e w' => e = .returned (.int .i64 (sco s t)) ∧ DkTo S w w' d (svv s t) := by
  obtain ⟨a, cap, rfl, _⟩ := id hr
  have HD : Hid (Dk S w d s) := h
  have hLn := h.len
  have HR : Hid (RdV w (.slice a t.vs.length cap) t.vs) := hr
  have HV : Hid (∀ i, (s.V i).length < 274877906943) := hm
  obtain ⟨W1, hW1⟩ : ∃ W1, w.alloc (.cells #[.int .i64 t.gen, .int .i64 t.sc, .int .i64 t.nx, .slice a t.vs.length cap] 24) = W1 := ⟨_, rfl⟩
  have B1 : Hid (Below w.heap.size w W1) := by rw [← hW1]; exact (Below.refl _ _).alloc (Nat.le_refl _) _
  have U1 : Hid (Uv W1 w.heap.size t (.slice a t.vs.length cap)) := by rw [← hW1]; exact uv_new w t _
  have q1 := U1.out.c1
  obtain ⟨n, hn⟩ : ∃ n, Hid (s.L.length = n) := ⟨_, rfl⟩
  rw [hn.out] at hLn
  obtain ⟨hn1, hn2⟩ := hLn
  have HSZ : Hid (∀ m, Calls Try.prog 43 #[dp d] (W1.drewN m) fun e w' => e = .returned (.int .i64 (n : Int)) ∧ w' = W1.drewN m) := fun m => by
    have := size_any (W1.drewN m) (HD.out.below (B1.out.trans (Below.of_drewN _ _ _)))
    rw [hn.out] at this
    exact this
  have HPU : Hid (∀ W, Below w.heap.size w W → Calls Try.prog 8 #[supv t (.slice a t.vs.length cap)] W fun e w' => PutU t W e w') := fun W h => putU_any t _ W (HR.out.below h)
  unfold supv at HPU
  unfold supv
  obtain ⟨l, hl⟩ : ∃ l, Hid (t.vs.length = l) := ⟨_, rfl⟩
  obtain ⟨ge, hge⟩ : ∃ l, Hid (t.gen = l) := ⟨_, rfl⟩
  obtain ⟨sc, hsc⟩ : ∃ l, Hid (t.sc = l) := ⟨_, rfl⟩
  obtain ⟨nx, hnx⟩ : ∃ l, Hid (t.nx = l) := ⟨_, rfl⟩
  rw [hl.out, hge.out, hsc.out, hnx.out] at hW1 HPU ⊢
  rw [hsc.out] at q1
  rw [hl.out] at U1
  obtain ⟨cd, hcd⟩ : ∃ c, Hid (sco s t = c) := ⟨_, rfl⟩
  obtain ⟨fs, hfs⟩ : ∃ c, Hid (svv s t = c) := ⟨_, rfl⟩
  rw [hcd.out, hfs.out]
  clear h hr hm
  by_cases e1 : sc = (n : Int)
  rotate_left
  · have HC1 : Hid (cd = 1 ∧ fs = s) := by
      rw [← hcd.out, ← hfs.out]
      show sco s t = 1 ∧ svv s t = s
      unfold sco svv
      rw [if_neg (fun h => e1 (by rw [← hsc.out, ← hn.out]; exact h.2)), if_neg (fun h => e1 (by rw [← hsc.out, ← hn.out]; exact h.2))]
      exact ⟨rfl, rfl⟩
    have e1b : (sc != (n : Int)) = true := by simp [e1]
    clear e1
    go_enter Try.func20, Try.ntmps20
    go_wp2_with fail
    go_quiet (first | (go_at_call 43; exact Calls.quiet_of_same (HSZ.out _)))
    go_wp2_with fail
    go_ret
    exact ⟨by rw [HC1.out.1]; rfl, by rw [HC1.out.2]; exact HD.out.to_below (B1.out.trans (Below.of_drewN _ _ _))⟩
  · have e1b : (sc != (n : Int)) = false := by simp [e1]
    have HE1 : Hid (sc = (n : Int)) := e1
    subst e1
    go_enter Try.func20, Try.ntmps20
    go_wp2_with fail
    go_quiet (first | (go_at_call 43; exact Calls.quiet_of_same (HSZ.out _)))
    obtain ⟨W2, hW2⟩ : ∃ W2, Hid (W1.drewN nq = W2) := ⟨_, rfl⟩
    have U2 : Hid (Uv W2 w.heap.size t (.slice a l cap)) := by rw [← hW2.out]; exact U1
    have B2 : Hid (Below w.heap.size w W2) := by rw [← hW2.out]; exact B1.out.trans (Below.of_drewN _ _ _)
    rw [hW2.out]
    clear hW2 hW1 q1 U1 B1 HSZ
    have q0 := U2.out.c0
    have q1 := U2.out.c1
    have q2 := U2.out.c2
    have q3 := U2.out.c3
    rw [hge.out] at q0
    rw [hsc.out] at q1
    rw [hnx.out] at q2
    go_wp2_with fail
    refine (HPU.out W2 B2.out).mono ?_
    rintro e w3 ⟨v3, c3, rfl, b3, n3, h3⟩
    have U3 : Hid (Uv w3 w.heap.size t (.slice a l cap)) := U2.out.below b3
    have B3 : Hid (Below w.heap.size w w3) := B2.out.trans (b3.mono B2.out.size)
    clear q0 q1 q2 q3
    rcases h3 with ⟨hmt, rfl, wb3, g3, rfl⟩ | ⟨hmt, rfl, rfl⟩
    rotate_left
    · have HC1 : Hid (cd = 1 ∧ fs = s) := by
        rw [← hcd.out, ← hfs.out]
        show sco s t = 1 ∧ svv s t = s
        unfold sco svv
        rw [if_neg (fun h => by rw [hmt] at h; cases h.1), if_neg (fun h => by rw [hmt] at h; cases h.1)]
        exact ⟨rfl, rfl⟩
      clear hmt b3 n3
      go_wp2_with fail
      go_ret
      exact ⟨by rw [HC1.out.1]; rfl, by rw [HC1.out.2]; exact HD.out.to_below B3.out⟩
    · obtain ⟨hh, _⟩ := mayU_iff.1 hmt
      have hge1 : 1 ≤ ge := by rw [← hge.out]; exact hh.1
      have hge2 : ge ≤ 4294967295 := by rw [← hge.out]; exact hh.2.1
      have hn128 : 128 ≤ n := by have := hh.2.2.2.2.1; rw [hsc.out] at this; omega
      have HUL : Hid ((usec t).length = 256) := usec_len hh.2.2.2.2.2.2
      have hcond : mayU t = true ∧ t.sc = (s.L.length : Int) := ⟨hmt, by rw [hsc.out, hn.out]⟩
      have HC1 : Hid (cd = 0 ∧ fs = (wrr s (ge % 2) (usec t)).fl) := by
        rw [← hcd.out, ← hfs.out, ← hge.out]
        show sco s t = 0 ∧ svv s t = _
        unfold sco svv
        rw [if_pos hcond, if_pos hcond]
        exact ⟨rfl, rfl⟩
      have X3 : Rd .u8 w3 (.slice (some ⟨g3, 0, none⟩) 256 256) (usec t) := wb3.rd
      have D3 : Dk S w3 d s := HD.out.below B3.out
      have HSD := HD.out.slt
      have hwr := write_all (ge % 2) (.slice (some ⟨g3, 0, none⟩) 256 256) (usec t) w3 D3 X3 (usec_by t) (fun k hk hS => by have h1 := n3 k hk; have h2 := HSD k hS; have h3 := B2.out.size; omega) HV.out
      have hco : wco s (ge % 2) (usec t).length = 0 := by unfold wco; rw [if_neg (by rw [hn.out]; omega), if_pos HUL.out]
      rw [hco] at hwr
      have HW := hideP hwr
      obtain ⟨r, hrr⟩ : ∃ r, ge % 2 = r := ⟨_, rfl⟩
      have htm : ge.tmod 2 = r := by rw [Int.tmod_eq_emod_of_nonneg (by omega), hrr]
      rw [hrr] at HW HC1
      have p0 := U3.out.c0
      rw [hge.out] at p0
      clear hmt hh hcond X3 D3 HSD hwr hco wb3 b3 n3 hrr
      go_wp2_with fail
      refine HW.out.mono ?_
      rintro e w4 ⟨rfl, S4, d4, t4, n4⟩
      have HFL := hideP (flush_any w4 d4)
      have T4 := hideP t4
      have N4 := hideP n4
      have D4 := hideP d4
      clear d4 t4 n4 p0 HW
      go_wp2_with fail
      refine HFL.out.mono ?_
      rintro e w5 ⟨rfl, d5⟩
      have D5 := hideP d5
      clear d5 HFL
      go_wp2_with fail
      go_ret
      refine ⟨by rw [HC1.out.1]; rfl, ?_⟩
      rw [HC1.out.2]
      have h1 : DkTo S w3 w5 d (wrr s r (usec t)).fl := DkTo.trans D4.out T4.out N4.out D5.out
      exact DkTo.trans (HD.out.below B3.out) (Tch.of_below B3.out) (fun _ e => .inl e) h1
end Go.Proofs.Ytdicgaepggffbaa
