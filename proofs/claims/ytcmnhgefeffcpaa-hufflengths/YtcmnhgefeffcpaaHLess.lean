/-
  What a heap's own calls answer: how many, which is less, two change places.
-/
import Derived.Test.YtcmnhgefeffcpaaHThing
import Derived.Test.YtcmnhgefeffcpaaHeapP
import Derived.Test.YtcmnhgefeffcpaaHMeth
namespace Go.Proofs.Ytcmnhgefeffcpaa
open Go.RowKit Pl Hf
set_option linter.unusedVariables false
set_option maxRecDepth 100000

theorem tLen_any (a : Option Addr) (n cap : Nat) (w : World) :
    Calls Try.prog 75 #[.slice a n cap] w fun e w' => e = .returned (.int .i64 n) ∧ w' = w := by
  go_enter Try.func75, Try.ntmps75
  go_wp2
  go_ret
  exact ⟨rfl, rfl⟩

set_option maxHeartbeats 1000000 in
theorem tLess_any (v : Value) (ps : List (Int × Int)) (i j : Nat) (w : World) (h : OwnsT w v ps) (hi : i < ps.length) (hj : j < ps.length) :
    Calls Try.prog 98 #[v, .int .i64 i, .int .i64 j] w fun e w' => e = .returned (.bool (ltB (G ps i) (G ps j))) ∧ Tch (fun _ => False) w w' := by
  obtain ⟨g, cap, rfl, _, _, _, hc, _⟩ := h.shape (by omega)
  obtain ⟨c0, c1⟩ := hc i hi
  obtain ⟨d0, d1⟩ := hc j hj
  simp only [G]
  obtain ⟨x, hx⟩ : ∃ x, Hid (ps.getD i (0, 0) = x) := ⟨_, rfl⟩
  obtain ⟨y, hy⟩ : ∃ y, Hid (ps.getD j (0, 0) = y) := ⟨_, rfl⟩
  rw [hx.out] at c0 c1 ⊢
  rw [hy.out] at d0 d1 ⊢
  obtain ⟨x1, x2⟩ := x
  obtain ⟨y1, y2⟩ := y
  simp only at c0 c1 d0 d1
  clear hc h
  by_cases he : x1 = y1
  · have hne : (x1 != y1) = false := by simp [he]
    have HE : Hid (ltB (x1, x2) (y1, y2) = decide (x2 < y2)) := by
      show _ = _
      unfold ltB; rw [decide_eq_decide]; unfold ltP; simp only; omega
    rw [HE.out]
    clear he
    go_enter Try.func98, Try.ntmps98
    go_wp2_with fail
    go_quiet (fail)
    go_wp2_with fail
    go_quiet (fail)
    go_wp2_with fail
    go_ret
    exact ⟨rfl, ⟨rfl, rfl, rfl, Nat.le_refl _, fun _ _ _ => rfl⟩⟩
  · have hne : (x1 != y1) = true := by simp [he]
    have HE : Hid (ltB (x1, x2) (y1, y2) = decide (x1 < y1)) := by
      show _ = _
      unfold ltB; rw [decide_eq_decide]; unfold ltP; simp only; omega
    rw [HE.out]
    clear he
    go_enter Try.func98, Try.ntmps98
    go_wp2_with fail
    go_quiet (fail)
    go_wp2_with fail
    go_quiet (fail)
    go_wp2_with fail
    go_ret
    exact ⟨rfl, ⟨rfl, rfl, rfl, Nat.le_refl _, fun _ _ _ => rfl⟩⟩

/-- Two things of a row. -/
theorem OwnsT.at2 {w : World} {g n cap : Nat} {ps : List (Int × Int)} (h : OwnsT w (.slice (some ⟨g, 0, none⟩) n cap) ps) : ∀ i, i < ps.length → ∃ x1 x2, G ps i = (x1, x2) ∧ w.cell? ⟨g, i * 2, none⟩ = some (.int .i64 x1) ∧ w.cell? ⟨g, i * 2 + 1, none⟩ = some (.int .i64 x2) := by
  intro i hi
  obtain ⟨g', cap', e, _, _, _, hc, _⟩ := h.shape (by omega)
  simp only [Value.slice.injEq, Option.some.injEq, Addr.mk.injEq, and_true] at e
  obtain ⟨rfl, _, _⟩ := e
  exact ⟨_, _, rfl, hc i hi⟩

set_option maxHeartbeats 1000000 in
theorem tSwap_any (h : Nat) (v : Value) (ps : List (Int × Int)) (i j : Nat) (w : World) (H : Hp w h v ps) (hi : i < ps.length) (hj : j < ps.length) :
    Calls Try.prog 99 #[v, .int .i64 i, .int .i64 j] w fun e w' => e = .returned (.tuple #[]) ∧ Hp w' h v (swp ps i j) ∧ Tch (fun k => v.ownBlock = some k) w w' := by
  obtain ⟨g, cap, rfl, hg, hcap, hmax, hc, fz⟩ := H.own.shape (by omega)
  obtain ⟨x1, x2, hx, c0, c1⟩ := H.own.at2 i hi
  obtain ⟨y1, y2, hy, d0, d1⟩ := H.own.at2 j hj
  have HH : Hid (Hp w h (.slice (some ⟨g, 0, none⟩) ps.length cap) ps) := H
  have HX : Hid (G ps i = (x1, x2)) := hx
  have HY : Hid (G ps j = (y1, y2)) := hy
  have f0 := fz (i * 2)
  have f1 := fz (i * 2 + 1)
  have f2 := fz (j * 2)
  have f3 := fz (j * 2 + 1)
  clear hc fz H hx hy
  by_cases hij : i = j
  · subst hij
    have e : y1 = x1 ∧ y2 = x2 := by have := HX.out.symm.trans HY.out; simp only [Prod.mk.injEq] at this; exact ⟨this.1.symm, this.2.symm⟩
    obtain ⟨rfl, rfl⟩ := e
    clear d0 d1 f2 f3
    go_enter Try.func99, Try.ntmps99
    go_wp2_with fail
    go_region
    go_wp2_with fail
    go_end0
    refine ⟨rfl, ?_, ?_⟩
    · have h1 := (HH.out.own.set i hi (y1, y2)).set i (by simpa using hi) (y1, y2)
      refine ⟨?_, ?_⟩
      · have hne : g ≠ h := fun e => HH.out.ne (by rw [e]; rfl)
        show ((((w.setCell ⟨g, i * 2, none⟩ _).setCell ⟨g, i * 2 + 1, none⟩ _).setCell ⟨g, i * 2, none⟩ _).setCell ⟨g, i * 2 + 1, none⟩ _).heap[h]? = _
        rw [Below.heap_setCell _ _ _ _ (fun e => hne e.symm), Below.heap_setCell _ _ _ _ (fun e => hne e.symm), Below.heap_setCell _ _ _ _ (fun e => hne e.symm), Below.heap_setCell _ _ _ _ (fun e => hne e.symm)]
        exact HH.out.blk
      · unfold swp; rw [HX.out]; exact h1
    · exact (Tch.drew (Tch.setCell (Tch.setCell (Tch.setCell (Tch.setCell (Tch.refl (fun k => k = g) w) (p := ⟨g, _, none⟩) (fun _ => rfl) _) (p := ⟨g, _, none⟩) (fun _ => rfl) _) (p := ⟨g, _, none⟩) (fun _ => rfl) _) (p := ⟨g, _, none⟩) (fun _ => rfl) _)).mono (fun k _ e => by rw [e]; rfl)
  · go_enter Try.func99, Try.ntmps99
    go_wp2_with fail
    go_region
    go_wp2_with fail
    go_end0
    refine ⟨rfl, ?_, ?_⟩
    · have h1 := (HH.out.own.set i hi (y1, y2)).set j (by simpa using hj) (x1, x2)
      refine ⟨?_, ?_⟩
      · have hne : g ≠ h := fun e => HH.out.ne (by rw [e]; rfl)
        show ((((w.setCell ⟨g, i * 2, none⟩ _).setCell ⟨g, i * 2 + 1, none⟩ _).setCell ⟨g, j * 2, none⟩ _).setCell ⟨g, j * 2 + 1, none⟩ _).heap[h]? = _
        rw [Below.heap_setCell _ _ _ _ (fun e => hne e.symm), Below.heap_setCell _ _ _ _ (fun e => hne e.symm), Below.heap_setCell _ _ _ _ (fun e => hne e.symm), Below.heap_setCell _ _ _ _ (fun e => hne e.symm)]
        exact HH.out.blk
      · unfold swp; rw [HX.out, HY.out]; exact h1
    · exact (Tch.drew (Tch.setCell (Tch.setCell (Tch.setCell (Tch.setCell (Tch.refl (fun k => k = g) w) (p := ⟨g, _, none⟩) (fun _ => rfl) _) (p := ⟨g, _, none⟩) (fun _ => rfl) _) (p := ⟨g, _, none⟩) (fun _ => rfl) _) (p := ⟨g, _, none⟩) (fun _ => rfl) _)).mono (fun k _ e => by rw [e]; rfl)
end Go.Proofs.Ytcmnhgefeffcpaa
