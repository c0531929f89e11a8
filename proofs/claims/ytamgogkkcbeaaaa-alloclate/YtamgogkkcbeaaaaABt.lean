/-
  Both maps side by side, and what lies beside them.
-/
import Derived.Test.YtamgogkkcbeaaaaAEq
namespace Go.Proofs.Ytamgogkkcbeaaaa
open Go.RowKit Ah
set_option linter.unusedVariables false
set_option maxRecDepth 100000

/-- The program's map is s, the document's t; nothing older than w0 has turned; the blocks Z are as they were in wz. -/
def Bz (w0 wz w : World) (Z : Nat → Prop) (M R : Nat) (s t : St) : Prop :=
  ∃ X Y, Pm w M s X ∧ Rm w R t Y ∧ (∀ k, X k → ¬ Y k) ∧ (∀ k, X k → w0.heap.size ≤ k) ∧ (∀ k, Y k → w0.heap.size ≤ k) ∧ Below w0.heap.size w0 w ∧ wz.heap.size ≤ w.heap.size ∧
    ∀ k, Z k → k < wz.heap.size ∧ w.heap[k]? = wz.heap[k]? ∧ ¬ X k ∧ ¬ Y k

section
variable {w0 wz w w' : World} {Z : Nat → Prop} {M R : Nat} {s s' t t' : St}

theorem Bz.ok (H : Bz w0 wz w Z M R s t) : Sok s := by obtain ⟨X, Y, h, _⟩ := H; exact h.ok
theorem Bz.below0 (H : Bz w0 wz w Z M R s t) : Below w0.heap.size w0 w := by obtain ⟨X, Y, _, _, _, _, _, h, _⟩ := H; exact h
theorem Bz.keep (H : Bz w0 wz w Z M R s t) {k : Nat} (hk : Z k) : w.heap[k]? = wz.heap[k]? := by obtain ⟨X, Y, _, _, _, _, _, _, _, h⟩ := H; exact (h k hk).2.1

theorem Bz.stepP (H : Bz w0 wz w Z M R s t) (h : ∀ X, Pm w M s X → Pm w' M s' (ext w w' X) ∧ Tch X w w') : Bz w0 wz w' Z M R s' t := by
  obtain ⟨X, Y, hp, hr, hxy, hx0, hy0, hb, hz, hZ⟩ := H
  obtain ⟨hp', ht⟩ := h X hp
  have hsz := ht.size
  have hs0 := hb.size
  refine ⟨ext w w' X, Y, hp', hr.tch ht (fun k hk e => hxy k e hk), fun k hk hy => ?_, fun k hk => ?_, hy0, hb.trans (ht.below hb.size (fun k e => hx0 k e)), by omega, fun k hk => ?_⟩
  · rcases hk with e | ⟨e, _⟩
    · exact hxy k e hy
    · have := hr.lt k hy; omega
  · rcases hk with e | ⟨e, _⟩
    · exact hx0 k e
    · omega
  · obtain ⟨h1, h2, h3, h4⟩ := hZ k hk
    refine ⟨h1, ?_, fun e => ?_, h4⟩
    · rw [ht.block k (by omega) h3]; exact h2
    · rcases e with e | ⟨e, _⟩
      · exact h3 e
      · omega

theorem Bz.stepR (H : Bz w0 wz w Z M R s t) (h : ∀ Y, Rm w R t Y → Rm w' R t' Y ∧ Tch Y w w') : Bz w0 wz w' Z M R s t' := by
  obtain ⟨X, Y, hp, hr, hxy, hx0, hy0, hb, hz, hZ⟩ := H
  obtain ⟨hr', ht⟩ := h Y hr
  have hsz := ht.size
  refine ⟨X, Y, hp.tch ht (fun k hk e => hxy k hk e), hr', hxy, hx0, hy0, hb.trans (ht.below hb.size (fun k e => hy0 k e)), by omega, fun k hk => ?_⟩
  obtain ⟨h1, h2, h3, h4⟩ := hZ k hk
  exact ⟨h1, by rw [ht.block k (by omega) h4]; exact h2, h3, h4⟩

/-- What is new is beside them. -/
theorem Bz.enter (H : Bz w0 wz w Z M R s t) (hb : Below w.heap.size w w') (Z' : Nat → Prop) (hZ' : ∀ k, Z' k → w.heap.size ≤ k ∧ k < w'.heap.size) : Bz w0 w' w' Z' M R s t := by
  obtain ⟨X, Y, hp, hr, hxy, hx0, hy0, hb0, hz, hZ⟩ := H
  have hT := Tch.of_below (S := fun _ => False) hb
  refine ⟨X, Y, hp.tch hT (fun _ _ e => e), hr.tch hT (fun _ _ e => e), hxy, hx0, hy0, hb0.trans (hT.below hb0.size (fun k e => e.elim)), Nat.le_refl _, fun k hk => ⟨(hZ' k hk).2, rfl, fun e => ?_, fun e => ?_⟩⟩
  · have := hp.lt k e; have := (hZ' k hk).1; omega
  · have := hr.lt k e; have := (hZ' k hk).1; omega

/-- What is beside them is no matter. -/
theorem Bz.leave (H : Bz w0 wz w Z M R s t) : Bz w0 w0 w (fun _ => False) M R s t := by
  obtain ⟨X, Y, hp, hr, hxy, hx0, hy0, hb0, hz, hZ⟩ := H
  exact ⟨X, Y, hp, hr, hxy, hx0, hy0, hb0, hb0.size, fun k hk => hk.elim⟩

theorem Bz.still (H : Bz w0 wz w Z M R s t) (ht : Tch (fun _ => False) w w') : Bz w0 wz w' Z M R s t := by
  obtain ⟨X, Y, hp, hr, hxy, hx0, hy0, hb0, hz, hZ⟩ := H
  have hsz := ht.size
  refine ⟨X, Y, hp.tch ht (fun _ _ e => e), hr.tch ht (fun _ _ e => e), hxy, hx0, hy0, hb0.trans (ht.below hb0.size (fun k e => e.elim)), by omega, fun k hk => ?_⟩
  obtain ⟨h1, h2, h3, h4⟩ := hZ k hk
  exact ⟨h1, by rw [ht.block k (by omega) (fun e => e)]; exact h2, h3, h4⟩
theorem Bz.drew (H : Bz w0 wz w Z M R s t) (q : Nat) : Bz w0 wz (w.drewN q) Z M R s t := H.still (drew_tch _ w q)
theorem Bz.drew1 (H : Bz w0 wz w Z M R s t) : Bz w0 wz w.drew Z M R s t := H.still ⟨rfl, rfl, rfl, Nat.le_refl _, fun _ _ _ => rfl⟩
end

/-- A new pair. -/
theorem Bz.start {w0 w1 w2 : World} {M R : Nat} {s t : St} (hp : Pm w1 M s (fun k => w0.heap.size ≤ k ∧ k < w1.heap.size)) (hb : Below w0.heap.size w0 w1) (hr : Rm w2 R t (fun k => w1.heap.size ≤ k ∧ k < w2.heap.size)) (hb2 : Below w1.heap.size w1 w2) : Bz w0 w0 w2 (fun _ => False) M R s t := by
  have hs := hb.size
  have hs2 := hb2.size
  have hT := Tch.of_below (S := fun _ => False) hb2
  exact ⟨_, _, hp.tch hT (fun _ _ e => e), hr, fun k h1 h2 => by omega, fun k h1 => h1.1, fun k h1 => by omega, hb.trans (hT.below hs (fun k e => e.elim)), by omega, fun k hk => hk.elim⟩

theorem mono2 {f : FuncId} {args : Array Value} {w : World} {P Q : Ending → World → Prop} (h : Calls Try.prog f args w P) (k : ∀ e w', P e w' → Q e w') : Calls Try.prog f args w Q := h.mono k
section
variable {w0 wz w : World} {Z : Nat → Prop} {M R : Nat} {s t : St}
theorem takeB (H : Bz w0 wz w Z M R s t) : Calls Try.prog 25 #[mp M] w fun e w' => e = .returned (.tuple #[.int .i64 (take s).1, .bool (take s).2.1]) ∧ Bz w0 wz w' Z M R ((take s).2.2) t := by
  obtain ⟨X, Y, hp, hr, hxy, hx0, hy0, hb, hz, hZ⟩ := H
  refine (take_any M s X w hp).mono ?_
  rintro e w' ⟨rfl, hp', ht⟩
  have hsz := ht.size
  have hs0 := hb.size
  refine ⟨rfl, ext w w' X, Y, hp', hr.tch ht (fun k hk e => hxy k e hk), fun k hk hy => ?_, fun k hk => ?_, hy0, hb.trans (ht.below hb.size (fun k e => hx0 k e)), by omega, fun k hk => ?_⟩
  · rcases hk with e | ⟨e, _⟩
    · exact hxy k e hy
    · have := hr.lt k hy; omega
  · rcases hk with e | ⟨e, _⟩
    · exact hx0 k e
    · omega
  · obtain ⟨h1, h2, h3, h4⟩ := hZ k hk
    refine ⟨h1, ?_, fun e => ?_, h4⟩
    · rw [ht.block k (by omega) h3]; exact h2
    · rcases e with e | ⟨e, _⟩
      · exact h3 e
      · omega
theorem markB (n : Int) (H : Bz w0 wz w Z M R s t) : Calls Try.prog 24 #[mp M, .int .i64 n] w fun e w' => e = .returned (.bool (mrk n s).1) ∧ Bz w0 wz w' Z M R ((mrk n s).2) t := by
  obtain ⟨X, Y, hp, hr, hxy, hx0, hy0, hb, hz, hZ⟩ := H
  refine (mark_any M s X n w hp).mono ?_
  rintro e w' ⟨rfl, hp', ht⟩
  have hsz := ht.size
  have hs0 := hb.size
  refine ⟨rfl, ext w w' X, Y, hp', hr.tch ht (fun k hk e => hxy k e hk), fun k hk hy => ?_, fun k hk => ?_, hy0, hb.trans (ht.below hb.size (fun k e => hx0 k e)), by omega, fun k hk => ?_⟩
  · rcases hk with e | ⟨e, _⟩
    · exact hxy k e hy
    · have := hr.lt k hy; omega
  · rcases hk with e | ⟨e, _⟩
    · exact hx0 k e
    · omega
  · obtain ⟨h1, h2, h3, h4⟩ := hZ k hk
    refine ⟨h1, ?_, fun e => ?_, h4⟩
    · rw [ht.block k (by omega) h3]; exact h2
    · rcases e with e | ⟨e, _⟩
      · exact h3 e
      · omega
theorem backB (n : Int) (H : Bz w0 wz w Z M R s t) : Calls Try.prog 28 #[mp M, .int .i64 n] w fun e w' => e = .returned (.bool (back n s).1) ∧ Bz w0 wz w' Z M R ((back n s).2) t := by
  obtain ⟨X, Y, hp, hr, hxy, hx0, hy0, hb, hz, hZ⟩ := H
  refine (back_any M s X n w hp).mono ?_
  rintro e w' ⟨rfl, hp', ht⟩
  have hsz := ht.size
  have hs0 := hb.size
  refine ⟨rfl, ext w w' X, Y, hp', hr.tch ht (fun k hk e => hxy k e hk), fun k hk hy => ?_, fun k hk => ?_, hy0, hb.trans (ht.below hb.size (fun k e => hx0 k e)), by omega, fun k hk => ?_⟩
  · rcases hk with e | ⟨e, _⟩
    · exact hxy k e hy
    · have := hr.lt k hy; omega
  · rcases hk with e | ⟨e, _⟩
    · exact hx0 k e
    · omega
  · obtain ⟨h1, h2, h3, h4⟩ := hZ k hk
    refine ⟨h1, ?_, fun e => ?_, h4⟩
    · rw [ht.block k (by omega) h3]; exact h2
    · rcases e with e | ⟨e, _⟩
      · exact h3 e
      · omega
theorem dropB (n : Int) (H : Bz w0 wz w Z M R s t) : Calls Try.prog 30 #[mp M, .int .i64 n] w fun e w' => e = .returned (.bool (drop n s).1) ∧ Bz w0 wz w' Z M R ((drop n s).2) t := by
  obtain ⟨X, Y, hp, hr, hxy, hx0, hy0, hb, hz, hZ⟩ := H
  refine (drop_any M s X n w hp).mono ?_
  rintro e w' ⟨rfl, hp', ht⟩
  have hsz := ht.size
  have hs0 := hb.size
  refine ⟨rfl, ext w w' X, Y, hp', hr.tch ht (fun k hk e => hxy k e hk), fun k hk hy => ?_, fun k hk => ?_, hy0, hb.trans (ht.below hb.size (fun k e => hx0 k e)), by omega, fun k hk => ?_⟩
  · rcases hk with e | ⟨e, _⟩
    · exact hxy k e hy
    · have := hr.lt k hy; omega
  · rcases hk with e | ⟨e, _⟩
    · exact hx0 k e
    · omega
  · obtain ⟨h1, h2, h3, h4⟩ := hZ k hk
    refine ⟨h1, ?_, fun e => ?_, h4⟩
    · rw [ht.block k (by omega) h3]; exact h2
    · rcases e with e | ⟨e, _⟩
      · exact h3 e
      · omega
theorem settleB (H : Bz w0 wz w Z M R s t) : Calls Try.prog 26 #[mp M] w fun e w' => e = .returned (.tuple #[]) ∧ Bz w0 wz w' Z M R (stl s) t := by
  obtain ⟨X, Y, hp, hr, hxy, hx0, hy0, hb, hz, hZ⟩ := H
  refine (settle_any M s X w hp).mono ?_
  rintro e w' ⟨rfl, hp', ht⟩
  have hsz := ht.size
  have hs0 := hb.size
  refine ⟨rfl, ext w w' X, Y, hp', hr.tch ht (fun k hk e => hxy k e hk), fun k hk hy => ?_, fun k hk => ?_, hy0, hb.trans (ht.below hb.size (fun k e => hx0 k e)), by omega, fun k hk => ?_⟩
  · rcases hk with e | ⟨e, _⟩
    · exact hxy k e hy
    · have := hr.lt k hy; omega
  · rcases hk with e | ⟨e, _⟩
    · exact hx0 k e
    · omega
  · obtain ⟨h1, h2, h3, h4⟩ := hZ k hk
    refine ⟨h1, ?_, fun e => ?_, h4⟩
    · rw [ht.block k (by omega) h3]; exact h2
    · rcases e with e | ⟨e, _⟩
      · exact h3 e
      · omega
theorem reserveB (n : Int) (hn : (Lit.int .i64 n).wf = true) (H : Bz w0 wz w Z M R s t) : Calls Try.prog 23 #[mp M, .int .i64 n] w fun e w' => e = .returned (.bool (rsv n s).1) ∧ Bz w0 wz w' Z M R ((rsv n s).2) t := by
  obtain ⟨X, Y, hp, hr, hxy, hx0, hy0, hb, hz, hZ⟩ := H
  refine (reserve_any M s X n hn w hp).mono ?_
  rintro e w' ⟨rfl, hp', ht⟩
  have hsz := ht.size
  have hs0 := hb.size
  refine ⟨rfl, ext w w' X, Y, hp', hr.tch ht (fun k hk e => hxy k e hk), fun k hk hy => ?_, fun k hk => ?_, hy0, hb.trans (ht.below hb.size (fun k e => hx0 k e)), by omega, fun k hk => ?_⟩
  · rcases hk with e | ⟨e, _⟩
    · exact hxy k e hy
    · have := hr.lt k hy; omega
  · rcases hk with e | ⟨e, _⟩
    · exact hx0 k e
    · omega
  · obtain ⟨h1, h2, h3, h4⟩ := hZ k hk
    refine ⟨h1, ?_, fun e => ?_, h4⟩
    · rw [ht.block k (by omega) h3]; exact h2
    · rcases e with e | ⟨e, _⟩
      · exact h3 e
      · omega
theorem releaseB (H : Bz w0 wz w Z M R s t) : Calls Try.prog 21 #[mp M] w fun e w' => e = .returned (.tuple #[]) ∧ Bz w0 wz w' Z M R (rls s) t := by
  obtain ⟨X, Y, hp, hr, hxy, hx0, hy0, hb, hz, hZ⟩ := H
  refine (release_any M s X w hp).mono ?_
  rintro e w' ⟨rfl, hp', ht⟩
  have hsz := ht.size
  have hs0 := hb.size
  refine ⟨rfl, ext w w' X, Y, hp', hr.tch ht (fun k hk e => hxy k e hk), fun k hk hy => ?_, fun k hk => ?_, hy0, hb.trans (ht.below hb.size (fun k e => hx0 k e)), by omega, fun k hk => ?_⟩
  · rcases hk with e | ⟨e, _⟩
    · exact hxy k e hy
    · have := hr.lt k hy; omega
  · rcases hk with e | ⟨e, _⟩
    · exact hx0 k e
    · omega
  · obtain ⟨h1, h2, h3, h4⟩ := hZ k hk
    refine ⟨h1, ?_, fun e => ?_, h4⟩
    · rw [ht.block k (by omega) h3]; exact h2
    · rcases e with e | ⟨e, _⟩
      · exact h3 e
      · omega
theorem rtakeB (H : Bz w0 wz w Z M R s t) : Calls Try.prog 27 #[rp R] w fun e w' => e = .returned (.tuple #[.int .i64 (take t).1, .bool (take t).2.1]) ∧ Bz w0 wz w' Z M R s ((take t).2.2) := by
  obtain ⟨X, Y, hp, hr, hxy, hx0, hy0, hb, hz, hZ⟩ := H
  refine (rtake_any R t Y w hr).mono ?_
  rintro e w' ⟨rfl, hr', ht⟩
  have hsz := ht.size
  refine ⟨rfl, X, Y, hp.tch ht (fun k hk e => hxy k hk e), hr', hxy, hx0, hy0, hb.trans (ht.below hb.size (fun k e => hy0 k e)), by omega, fun k hk => ?_⟩
  obtain ⟨h1, h2, h3, h4⟩ := hZ k hk
  exact ⟨h1, by rw [ht.block k (by omega) h4]; exact h2, h3, h4⟩
theorem rmarkB (n : Int) (hn : (Lit.int .i64 n).wf = true) (H : Bz w0 wz w Z M R s t) : Calls Try.prog 32 #[rp R, .int .i64 n] w fun e w' => e = .returned (.bool (mrk n t).1) ∧ Bz w0 wz w' Z M R s ((mrk n t).2) := by
  obtain ⟨X, Y, hp, hr, hxy, hx0, hy0, hb, hz, hZ⟩ := H
  refine (rmark_any R t Y n hn w hr).mono ?_
  rintro e w' ⟨rfl, hr', ht⟩
  have hsz := ht.size
  refine ⟨rfl, X, Y, hp.tch ht (fun k hk e => hxy k hk e), hr', hxy, hx0, hy0, hb.trans (ht.below hb.size (fun k e => hy0 k e)), by omega, fun k hk => ?_⟩
  obtain ⟨h1, h2, h3, h4⟩ := hZ k hk
  exact ⟨h1, by rw [ht.block k (by omega) h4]; exact h2, h3, h4⟩
theorem rbackB (n : Int) (hn : (Lit.int .i64 n).wf = true) (H : Bz w0 wz w Z M R s t) : Calls Try.prog 29 #[rp R, .int .i64 n] w fun e w' => e = .returned (.bool (back n t).1) ∧ Bz w0 wz w' Z M R s ((back n t).2) := by
  obtain ⟨X, Y, hp, hr, hxy, hx0, hy0, hb, hz, hZ⟩ := H
  refine (rback_any R t Y n hn w hr).mono ?_
  rintro e w' ⟨rfl, hr', ht⟩
  have hsz := ht.size
  refine ⟨rfl, X, Y, hp.tch ht (fun k hk e => hxy k hk e), hr', hxy, hx0, hy0, hb.trans (ht.below hb.size (fun k e => hy0 k e)), by omega, fun k hk => ?_⟩
  obtain ⟨h1, h2, h3, h4⟩ := hZ k hk
  exact ⟨h1, by rw [ht.block k (by omega) h4]; exact h2, h3, h4⟩
theorem rdropB (n : Int) (hn : (Lit.int .i64 n).wf = true) (H : Bz w0 wz w Z M R s t) : Calls Try.prog 33 #[rp R, .int .i64 n] w fun e w' => e = .returned (.bool (drop n t).1) ∧ Bz w0 wz w' Z M R s ((drop n t).2) := by
  obtain ⟨X, Y, hp, hr, hxy, hx0, hy0, hb, hz, hZ⟩ := H
  refine (rdrop_any R t Y n hn w hr).mono ?_
  rintro e w' ⟨rfl, hr', ht⟩
  have hsz := ht.size
  refine ⟨rfl, X, Y, hp.tch ht (fun k hk e => hxy k hk e), hr', hxy, hx0, hy0, hb.trans (ht.below hb.size (fun k e => hy0 k e)), by omega, fun k hk => ?_⟩
  obtain ⟨h1, h2, h3, h4⟩ := hZ k hk
  exact ⟨h1, by rw [ht.block k (by omega) h4]; exact h2, h3, h4⟩
theorem rsettleB (H : Bz w0 wz w Z M R s t) : Calls Try.prog 34 #[rp R] w fun e w' => e = .returned (.tuple #[]) ∧ Bz w0 wz w' Z M R s (stl t) := by
  obtain ⟨X, Y, hp, hr, hxy, hx0, hy0, hb, hz, hZ⟩ := H
  refine (rsettle_any R t Y w hr).mono ?_
  rintro e w' ⟨rfl, hr', ht⟩
  have hsz := ht.size
  refine ⟨rfl, X, Y, hp.tch ht (fun k hk e => hxy k hk e), hr', hxy, hx0, hy0, hb.trans (ht.below hb.size (fun k e => hy0 k e)), by omega, fun k hk => ?_⟩
  obtain ⟨h1, h2, h3, h4⟩ := hZ k hk
  exact ⟨h1, by rw [ht.block k (by omega) h4]; exact h2, h3, h4⟩
theorem rreserveB (n : Int) (H : Bz w0 wz w Z M R s t) : Calls Try.prog 35 #[rp R, .int .i64 n] w fun e w' => e = .returned (.bool (rsv n t).1) ∧ Bz w0 wz w' Z M R s ((rsv n t).2) := by
  obtain ⟨X, Y, hp, hr, hxy, hx0, hy0, hb, hz, hZ⟩ := H
  refine (rreserve_any R t Y n w hr).mono ?_
  rintro e w' ⟨rfl, hr', ht⟩
  have hsz := ht.size
  refine ⟨rfl, X, Y, hp.tch ht (fun k hk e => hxy k hk e), hr', hxy, hx0, hy0, hb.trans (ht.below hb.size (fun k e => hy0 k e)), by omega, fun k hk => ?_⟩
  obtain ⟨h1, h2, h3, h4⟩ := hZ k hk
  exact ⟨h1, by rw [ht.block k (by omega) h4]; exact h2, h3, h4⟩
theorem freeB (H : Bz w0 wz w Z M R s t) : Calls Try.prog 12 #[mp M] w fun e w' => e = .returned (.int .i64 (fre s)) ∧ Bz w0 wz w' Z M R s t := by
  obtain ⟨X, Y, hp, hr, _⟩ := id H
  refine (free_any M s X w hp).mono ?_
  rintro e w' ⟨rfl, q, rfl⟩
  exact ⟨rfl, H.drew q⟩
theorem droppedB (H : Bz w0 wz w Z M R s t) : Calls Try.prog 14 #[mp M] w fun e w' => e = .returned (.int .i64 (s.L.count 2)) ∧ Bz w0 wz w' Z M R s t := by
  obtain ⟨X, Y, hp, hr, _⟩ := id H
  refine (dropped_any M s X w hp).mono ?_
  rintro e w' ⟨rfl, rfl⟩
  exact ⟨rfl, H⟩
theorem takenB (n : Int) (H : Bz w0 wz w Z M R s t) : Calls Try.prog 16 #[mp M, .int .i64 n] w fun e w' => e = .returned (.bool (decide (0 < stv s n))) ∧ Bz w0 wz w' Z M R s t := by
  obtain ⟨X, Y, hp, hr, _⟩ := id H
  refine (taken_any M s X n w hp).mono ?_
  rintro e w' ⟨rfl, rfl⟩
  exact ⟨rfl, H⟩
theorem rfreeB (H : Bz w0 wz w Z M R s t) : Calls Try.prog 13 #[rp R] w fun e w' => e = .returned (.int .i64 (fre t)) ∧ Bz w0 wz w' Z M R s t := by
  obtain ⟨X, Y, hp, hr, _⟩ := id H
  refine (rfree_any R t Y w hr).mono ?_
  rintro e w' ⟨rfl, q, rfl⟩
  exact ⟨rfl, H.drew q⟩
theorem rcountB (x : Int) (H : Bz w0 wz w Z M R s t) : Calls Try.prog 15 #[rp R, .int .i64 x] w fun e w' => e = .returned (.int .i64 (t.L.count x)) ∧ Bz w0 wz w' Z M R s t := by
  obtain ⟨X, Y, hp, hr, _⟩ := id H
  refine (rcount_any R t Y x w hr).mono ?_
  rintro e w' ⟨rfl, rfl⟩
  exact ⟨rfl, H⟩
theorem rtakenB (n : Int) (hn : (Lit.int .i64 n).wf = true) (H : Bz w0 wz w Z M R s t) : Calls Try.prog 17 #[rp R, .int .i64 n] w fun e w' => e = .returned (.bool (decide (0 < stv t n))) ∧ Bz w0 wz w' Z M R s t := by
  obtain ⟨X, Y, hp, hr, _⟩ := id H
  refine (rtaken_any R t Y n hn w hr).mono ?_
  rintro e w' ⟨rfl, q, rfl⟩
  exact ⟨rfl, H.drew q⟩
/-- Its runs, in a row of their own. -/
theorem runsB (H : Bz w0 wz w Z M R s t) : Calls Try.prog 19 #[mp M] w fun e w' => RunR w (rr s.lo s.L s.L.length) e w' := by
  obtain ⟨X, Y, hp, hr, _⟩ := id H
  exact runs_any M s X w hp
theorem rrunsB (H : Bz w0 wz w Z M R s t) : Calls Try.prog 20 #[rp R] w fun e w' => RunR w (rr t.lo t.L t.L.length) e w' := by
  obtain ⟨X, Y, hp, hr, _⟩ := id H
  exact rruns_any R t Y w hr
/-- The document's is released: its number of those set aside is written. -/
theorem Bz.rls (H : Bz w0 wz w Z M R s t) : w.cell? ⟨R, 2, none⟩ = some (.int .i64 t.as) ∧ w.frozen? ⟨R, 2, none⟩ = false ∧ Bz w0 wz (w.setCell ⟨R, 2, none⟩ (.int .i64 0)) Z M R s (rls t) := by
  obtain ⟨X, Y, hp, ⟨vr, h, hy, hl⟩, r⟩ := id H
  refine ⟨h.c2, h.fz 2, ?_⟩
  obtain ⟨hxy, hx0, hy0, hb, hz, hZ⟩ := r
  have P := h.aside 0 (Nat.zero_le _)
  rw [show ((0 : Nat) : Int) = 0 from rfl] at P
  obtain ⟨hr', ht⟩ := Rm.made hy hl P.1 P.2
  have hsz := ht.size
  refine ⟨X, Y, hp.tch ht (fun k hk e => hxy k hk e), hr', hxy, hx0, hy0, hb.trans (ht.below hb.size (fun k e => hy0 k e)), by omega, fun k hk => ?_⟩
  obtain ⟨h1, h2, h3, h4⟩ := hZ k hk
  exact ⟨h1, by rw [ht.block k (by omega) h4]; exact h2, h3, h4⟩
end
end Go.Proofs.Ytamgogkkcbeaaaa
