/-
  The document's map: its calls that turn it.
-/
import Derived.Test.YtamgogkkcbeaaaaARef
import Derived.StillTailTactics
namespace Go.Proofs.Ytamgogkkcbeaaaa
open Go.RowKit Ah
set_option linter.unusedVariables false
set_option maxRecDepth 100000

theorem RmAt.drew {w : World} {R : Nat} {s : St} {vr : Value} (H : RmAt w R s vr) (q : Nat) : RmAt (w.drewN q) R s vr := H.tch (drew_tch (fun _ => False) w q) (fun e => e) (fun _ _ e => e)

theorem rfree_at (R : Nat) (s : St) (vr : Value) (w : World) (H : RmAt w R s vr) :
    Calls Try.prog 13 #[rp R] w fun e w' => e = .returned (.int .i64 (fre s)) ∧ ∃ q, w' = w.drewN q := by
  have HH : Hid (RmAt w R s vr) := H
  have c2 := H.c2
  have h2 := List.count_le_length (a := (0 : Int)) (l := s.L)
  have h3 := H.ok.top
  have h4 := H.ok.aside
  have HC : Hid (∀ q, Calls Try.prog 15 #[rp R, .int .i64 0] (w.drewN q) fun e w' => e = .returned (.int .i64 (s.L.count 0)) ∧ w' = w.drewN q) := fun q => count_at R s vr 0 _ (H.drew q)
  unfold fre
  obtain ⟨m, hm⟩ : ∃ m, Hid (s.L.count 0 = m) := ⟨_, rfl⟩
  obtain ⟨b, hb⟩ : ∃ b, Hid (s.as = b) := ⟨_, rfl⟩
  rw [hm.out] at h2 h4 HC ⊢
  rw [hb.out] at c2 h4 ⊢
  have hm9 : m ≤ 65536 := by omega
  clear H h2 h3
  go_enter Try.func13, Try.ntmps13
  go_wp2_with fail
  go_quiet ((go_at_call 15; exact Calls.quiet_of_same (HC.out _)))
  go_wp2_with fail
  go_ret
  exact ⟨rfl, _, rfl⟩

theorem Rm.drew {w : World} {R : Nat} {s : St} {Y : Nat → Prop} (H : Rm w R s Y) (q : Nat) : Rm (w.drewN q) R s Y := H.tch (drew_tch (fun _ => False) w q) (fun _ _ e => e)

theorem rfree_any (R : Nat) (s : St) (Y : Nat → Prop) (w : World) (H : Rm w R s Y) :
    Calls Try.prog 13 #[rp R] w fun e w' => e = .returned (.int .i64 (fre s)) ∧ ∃ q, w' = w.drewN q := by
  obtain ⟨vr, h, _⟩ := H
  exact rfree_at R s vr w h
theorem rcount_any (R : Nat) (s : St) (Y : Nat → Prop) (x : Int) (w : World) (H : Rm w R s Y) :
    Calls Try.prog 15 #[rp R, .int .i64 x] w fun e w' => e = .returned (.int .i64 (s.L.count x)) ∧ w' = w := by
  obtain ⟨vr, h, _⟩ := H
  exact count_at R s vr x w h

theorem rtaken_any (R : Nat) (s : St) (Y : Nat → Prop) (n : Int) (hn : (Lit.int .i64 n).wf = true) (w : World) (H : Rm w R s Y) :
    Calls Try.prog 17 #[rp R, .int .i64 n] w fun e w' => e = .returned (.bool (decide (0 < stv s n))) ∧ ∃ q, w' = w.drewN q := by
  obtain ⟨vr, h, _⟩ := H
  have HH : Hid (RmAt w R s vr) := h
  have HN : Hid ((Lit.int .i64 n).wf = true) := hn
  clear h hn
  go_enter Try.func17, Try.ntmps17
  go_wp2_with fail
  refine (state_at R s vr n HN.out w HH.out).mono ?_
  rintro e w1 ⟨rfl, q, rfl⟩
  obtain ⟨z, hz⟩ : ∃ z, Hid (stv s n = z) := ⟨_, rfl⟩
  rw [hz.out]
  go_wp2_with fail
  go_ret
  have hz2 := hz.out
  exact ⟨by subst hz2; rfl, q, rfl⟩

/-- A state is written. -/
theorem RmAt.put {w : World} {R : Nat} {s : St} {g m cap : Nat} (H : RmAt w R s (.slice (some ⟨g, 0, none⟩) m cap)) (i : Nat) (y : Int) (ok : Sok (put s i y)) :
    RmAt (w.setCell ⟨g, i, none⟩ (.int .i64 y)) R (put s i y) (.slice (some ⟨g, 0, none⟩) m cap) ∧ Tch (fun k => k = R ∨ (Value.slice (some ⟨g, 0, none⟩) m cap).ownBlock = some k) w (w.setCell ⟨g, i, none⟩ (.int .i64 y)) := by
  have T : Tch (fun k => k = g) w (w.setCell ⟨g, i, none⟩ (.int .i64 y)) := Tch.setCell (Tch.refl (fun k => k = g) w) (p := ⟨g, i, none⟩) (fun _ => rfl) _
  refine ⟨⟨?_, H.own.set i y, ok⟩, T.mono (fun k _ e => .inr (by rw [e]; rfl))⟩
  rw [T.block R H.lt (fun e => H.ne rfl e.symm)]
  exact H.blk

theorem RmAt.aside {w : World} {R : Nat} {s : St} {vr : Value} (H : RmAt w R s vr) (a : Nat) (ha : a ≤ s.L.count 0) :
    RmAt (w.setCell ⟨R, 2, none⟩ (.int .i64 a)) R ⟨s.lo, s.L, a⟩ vr ∧ Tch (fun k => k = R ∨ vr.ownBlock = some k) w (w.setCell ⟨R, 2, none⟩ (.int .i64 a)) := by
  have T : Tch (fun k => k = R) w (w.setCell ⟨R, 2, none⟩ (.int .i64 a)) := Tch.setCell (Tch.refl (fun k => k = R) w) (p := ⟨R, 2, none⟩) (fun _ => rfl) _
  exact ⟨⟨by rw [heap_setCell_same w R 2 _ _ _ H.blk]; rfl, H.own.tch T (fun k hk e => H.ne hk e), ⟨H.ok.top, H.ok.val, ha⟩⟩, T.mono (fun k _ e => .inl e)⟩

set_option maxHeartbeats 1000000 in
theorem rreserve_any (R : Nat) (s : St) (Y : Nat → Prop) (n : Int) (w : World) (H : Rm w R s Y) :
    Calls Try.prog 35 #[rp R, .int .i64 n] w fun e w' => e = .returned (.bool (rsv n s).1) ∧ Rm w' R (rsv n s).2 Y ∧ Tch Y w w' := by
  obtain ⟨vr, h, hy, hl⟩ := H
  have HH : Hid (RmAt w R s vr) := h
  have HY : Hid (∀ k, k = R ∨ vr.ownBlock = some k → Y k) := hy
  have HL : Hid (∀ k, Y k → k < w.heap.size) := hl
  have h2 := List.count_le_length (a := (0 : Int)) (l := s.L)
  have h3 := h.ok.top
  have h4 := h.ok.aside
  clear h hy hl
  by_cases h0 : n < 0
  · have e : rsv n s = (false, s) := by unfold rsv; rw [if_pos (.inl h0)]
    rw [e]
    clear e h2 h3 h4
    simp only
    go_enter Try.func35, Try.ntmps35
    go_wp2_with fail
    go_ret
    exact ⟨rfl, Rm.made HY.out HL.out HH.out (Tch.refl _ _)⟩
  · obtain ⟨t, rfl⟩ : ∃ t : Nat, n = t := ⟨n.toNat, by omega⟩
    obtain ⟨f, hf⟩ : ∃ f : Nat, Hid (fre s = f) := ⟨(fre s).toNat, by show _ = _; unfold fre; omega⟩
    by_cases h1 : f < t
    · have e : rsv t s = (false, s) := by unfold rsv; rw [if_pos (.inr (by rw [hf.out]; omega))]
      rw [e]
      clear e h2 h3 h4 h0
      simp only
      go_enter Try.func35, Try.ntmps35
      go_wp2_with fail
      refine (rfree_at R s vr w HH.out).mono ?_
      rintro e w1 ⟨rfl, q, rfl⟩
      rw [hf.out]
      go_wp2_with fail
      go_ret
      exact ⟨rfl, Rm.made HY.out HL.out (HH.out.drew q) (drew_tch _ _ _)⟩
    · have e : rsv t s = (true, ⟨s.lo, s.L, s.as + t⟩) := by unfold rsv; rw [if_neg (by rw [hf.out]; omega)]; simp
      rw [e]
      have h1' : decide (f < t) = false := by simp; omega
      have HLE : Hid (s.as + t ≤ s.L.count 0) := by
        show _ ≤ _
        have := hf.out
        unfold fre at this
        omega
      have hs9 : s.as + t ≤ 65536 := by have := HLE.out; omega
      have HC : Hid (∀ q, (w.drewN q).cell? ⟨R, 2, none⟩ = some (.int .i64 s.as) ∧ (w.drewN q).frozen? ⟨R, 2, none⟩ = false) := fun q => ⟨HH.out.c2, HH.out.fz 2⟩
      clear e h2 h3 h4 h0 h1
      simp only
      go_enter Try.func35, Try.ntmps35
      go_wp2_with fail
      refine (rfree_at R s vr w HH.out).mono ?_
      rintro e w1 ⟨rfl, q, rfl⟩
      rw [hf.out]
      obtain ⟨c4, f4⟩ := HC.out q
      go_wp2_with fail
      go_ret
      have P := (HH.out.drew q).aside (s.as + t) HLE.out
      exact ⟨rfl, Rm.made HY.out HL.out P.1 ((drew_tch _ w q).trans P.2 (fun _ _ e => e))⟩

set_option maxHeartbeats 1000000 in
theorem rback_any (R : Nat) (s : St) (Y : Nat → Prop) (n : Int) (hn : (Lit.int .i64 n).wf = true) (w : World) (H : Rm w R s Y) :
    Calls Try.prog 29 #[rp R, .int .i64 n] w fun e w' => e = .returned (.bool (back n s).1) ∧ Rm w' R (back n s).2 Y ∧ Tch Y w w' := by
  obtain ⟨vr, h, hy, hl⟩ := H
  have HH : Hid (RmAt w R s vr) := h
  have HY : Hid (∀ k, k = R ∨ vr.ownBlock = some k → Y k) := hy
  have HL : Hid (∀ k, Y k → k < w.heap.size) := hl
  have HN : Hid ((Lit.int .i64 n).wf = true) := hn
  obtain ⟨z, hz⟩ : ∃ z, Hid (stv s n = z) := ⟨_, rfl⟩
  by_cases h1 : stv s n = 1
  · have ok := back_ok h.ok n
    obtain ⟨i, hi, rfl, e⟩ := stv_idx (s := s) (n := n) (by omega)
    have e2 : back ((s.lo + i : Nat) : Int) s = (true, put s i 0) := by
      unfold back
      rw [if_neg (by omega), show (((s.lo + i : Nat) : Int) - s.lo).toNat = i by omega]
    rw [e2] at ok ⊢
    have HOK : Hid (Sok (put s i 0)) := ok
    have hz2 : (z != 1) = false := by have := hz.out; simp; omega
    have htop := h.ok.top
    obtain ⟨g, cap, rfl, hg, hcap, hmax, hc, fz⟩ := h.own.shape (by omega)
    obtain ⟨m, hm⟩ : ∃ m, Hid (s.L.length = m) := ⟨_, rfl⟩
    obtain ⟨l, hl2⟩ : ∃ l, Hid (s.lo = l) := ⟨_, rfl⟩
    obtain ⟨t, ht⟩ : ∃ t, Hid (s.lo + i = t) := ⟨_, rfl⟩
    have HC : Hid (∀ q, (w.drewN q).cell? ⟨R, 0, none⟩ = some (.int .i64 l) ∧ (w.drewN q).cell? ⟨R, 1, none⟩ = some (.slice (some ⟨g, 0, none⟩) m cap) ∧ (w.drewN q).cell? ⟨g, i, none⟩ = some (.int .i64 (s.L.getD i 0)) ∧ (w.drewN q).frozen? ⟨g, i, none⟩ = false) := fun q => ⟨by rw [← hl2.out]; exact h.c0, by rw [← hm.out]; exact h.c1, hc i hi, fz i⟩
    have hts : (t : Int) - (l : Int) = (i : Int) := by have := ht.out; have := hl2.out; omega
    have hi2 := hi
    rw [hm.out] at hi2 hcap
    have ht9 : t ≤ 65536 := by have := ht.out; omega
    have hl9 : l ≤ t := by have := ht.out; have := hl2.out; omega
    rw [ht.out] at HN hz ⊢
    unfold maxLen at hmax
    clear ok hi e e2 h1 h hy hl hn hc fz htop
    simp only
    go_enter Try.func29, Try.ntmps29
    go_wp2_with fail
    refine (state_at R s _ t HN.out w HH.out).mono ?_
    rintro e w1 ⟨rfl, q, rfl⟩
    rw [hz.out]
    obtain ⟨c0, c1, ci, fi⟩ := HC.out q
    obtain ⟨y, hy⟩ : ∃ y, Hid (s.L.getD i 0 = y) := ⟨_, rfl⟩
    rw [hy.out] at ci
    obtain ⟨W, HW⟩ : ∃ W, Hid (w.drewN q = W) := ⟨_, rfl⟩
    rw [HW.out] at c0 c1 ci fi ⊢
    go_wp2_with fail
    go_region
    go_wp2_with fail
    go_ret
    have P := (HH.out.drew q).put i 0 HOK.out
    rw [HW.out] at P
    have T0 : Tch (fun k => k = R ∨ (Value.slice (some ⟨g, 0, none⟩) s.L.length cap).ownBlock = some k) w W := by rw [← HW.out]; exact drew_tch _ _ _
    exact ⟨rfl, Rm.made HY.out HL.out (P.1.tch (S := fun _ => False) ⟨rfl, rfl, rfl, Nat.le_refl _, fun _ _ _ => rfl⟩ (fun e => e) (fun _ _ e => e)) (T0.trans P.2 (fun _ _ e => e)).drew⟩
  · have e2 : back n s = (false, s) := by unfold back; rw [if_pos h1]
    rw [e2]
    have hz2 : (z != 1) = true := by have := hz.out; simp; omega
    clear h1 e2 h hy hl hn
    simp only
    go_enter Try.func29, Try.ntmps29
    go_wp2_with fail
    refine (state_at R s vr n HN.out w HH.out).mono ?_
    rintro e w1 ⟨rfl, q, rfl⟩
    rw [hz.out]
    go_wp2_with fail
    go_ret
    exact ⟨rfl, Rm.made HY.out HL.out (HH.out.drew q) (drew_tch _ _ _)⟩
set_option maxHeartbeats 1000000 in
theorem rdrop_any (R : Nat) (s : St) (Y : Nat → Prop) (n : Int) (hn : (Lit.int .i64 n).wf = true) (w : World) (H : Rm w R s Y) :
    Calls Try.prog 33 #[rp R, .int .i64 n] w fun e w' => e = .returned (.bool (drop n s).1) ∧ Rm w' R (drop n s).2 Y ∧ Tch Y w w' := by
  obtain ⟨vr, h, hy, hl⟩ := H
  have HH : Hid (RmAt w R s vr) := h
  have HY : Hid (∀ k, k = R ∨ vr.ownBlock = some k → Y k) := hy
  have HL : Hid (∀ k, Y k → k < w.heap.size) := hl
  have HN : Hid ((Lit.int .i64 n).wf = true) := hn
  obtain ⟨z, hz⟩ : ∃ z, Hid (stv s n = z) := ⟨_, rfl⟩
  by_cases h1 : stv s n = 1
  · have ok := drop_ok h.ok n
    obtain ⟨i, hi, rfl, e⟩ := stv_idx (s := s) (n := n) (by omega)
    have e2 : drop ((s.lo + i : Nat) : Int) s = (true, put s i 2) := by
      unfold drop
      rw [if_neg (by omega), show (((s.lo + i : Nat) : Int) - s.lo).toNat = i by omega]
    rw [e2] at ok ⊢
    have HOK : Hid (Sok (put s i 2)) := ok
    have hz2 : (z != 1) = false := by have := hz.out; simp; omega
    have htop := h.ok.top
    obtain ⟨g, cap, rfl, hg, hcap, hmax, hc, fz⟩ := h.own.shape (by omega)
    obtain ⟨m, hm⟩ : ∃ m, Hid (s.L.length = m) := ⟨_, rfl⟩
    obtain ⟨l, hl2⟩ : ∃ l, Hid (s.lo = l) := ⟨_, rfl⟩
    obtain ⟨t, ht⟩ : ∃ t, Hid (s.lo + i = t) := ⟨_, rfl⟩
    have HC : Hid (∀ q, (w.drewN q).cell? ⟨R, 0, none⟩ = some (.int .i64 l) ∧ (w.drewN q).cell? ⟨R, 1, none⟩ = some (.slice (some ⟨g, 0, none⟩) m cap) ∧ (w.drewN q).cell? ⟨g, i, none⟩ = some (.int .i64 (s.L.getD i 0)) ∧ (w.drewN q).frozen? ⟨g, i, none⟩ = false) := fun q => ⟨by rw [← hl2.out]; exact h.c0, by rw [← hm.out]; exact h.c1, hc i hi, fz i⟩
    have hts : (t : Int) - (l : Int) = (i : Int) := by have := ht.out; have := hl2.out; omega
    have hi2 := hi
    rw [hm.out] at hi2 hcap
    have ht9 : t ≤ 65536 := by have := ht.out; omega
    have hl9 : l ≤ t := by have := ht.out; have := hl2.out; omega
    rw [ht.out] at HN hz ⊢
    unfold maxLen at hmax
    clear ok hi e e2 h1 h hy hl hn hc fz htop
    simp only
    go_enter Try.func33, Try.ntmps33
    go_wp2_with fail
    refine (state_at R s _ t HN.out w HH.out).mono ?_
    rintro e w1 ⟨rfl, q, rfl⟩
    rw [hz.out]
    obtain ⟨c0, c1, ci, fi⟩ := HC.out q
    obtain ⟨y, hy⟩ : ∃ y, Hid (s.L.getD i 0 = y) := ⟨_, rfl⟩
    rw [hy.out] at ci
    obtain ⟨W, HW⟩ : ∃ W, Hid (w.drewN q = W) := ⟨_, rfl⟩
    rw [HW.out] at c0 c1 ci fi ⊢
    go_wp2_with fail
    go_region
    go_wp2_with fail
    go_ret
    have P := (HH.out.drew q).put i 2 HOK.out
    rw [HW.out] at P
    have T0 : Tch (fun k => k = R ∨ (Value.slice (some ⟨g, 0, none⟩) s.L.length cap).ownBlock = some k) w W := by rw [← HW.out]; exact drew_tch _ _ _
    exact ⟨rfl, Rm.made HY.out HL.out (P.1.tch (S := fun _ => False) ⟨rfl, rfl, rfl, Nat.le_refl _, fun _ _ _ => rfl⟩ (fun e => e) (fun _ _ e => e)) (T0.trans P.2 (fun _ _ e => e)).drew⟩
  · have e2 : drop n s = (false, s) := by unfold drop; rw [if_pos h1]
    rw [e2]
    have hz2 : (z != 1) = true := by have := hz.out; simp; omega
    clear h1 e2 h hy hl hn
    simp only
    go_enter Try.func33, Try.ntmps33
    go_wp2_with fail
    refine (state_at R s vr n HN.out w HH.out).mono ?_
    rintro e w1 ⟨rfl, q, rfl⟩
    rw [hz.out]
    go_wp2_with fail
    go_ret
    exact ⟨rfl, Rm.made HY.out HL.out (HH.out.drew q) (drew_tch _ _ _)⟩

set_option maxHeartbeats 1000000 in
theorem rmark_any (R : Nat) (s : St) (Y : Nat → Prop) (n : Int) (hn : (Lit.int .i64 n).wf = true) (w : World) (H : Rm w R s Y) :
    Calls Try.prog 32 #[rp R, .int .i64 n] w fun e w' => e = .returned (.bool (mrk n s).1) ∧ Rm w' R (mrk n s).2 Y ∧ Tch Y w w' := by
  obtain ⟨vr, h, hy, hl⟩ := H
  have HH : Hid (RmAt w R s vr) := h
  have HY : Hid (∀ k, k = R ∨ vr.ownBlock = some k → Y k) := hy
  have HL : Hid (∀ k, Y k → k < w.heap.size) := hl
  have HN : Hid ((Lit.int .i64 n).wf = true) := hn
  obtain ⟨z, hz⟩ : ∃ z, Hid (stv s n = z) := ⟨_, rfl⟩
  by_cases h1 : stv s n = 0
  · obtain ⟨f, hf⟩ : ∃ f : Nat, Hid (fre s = f) := ⟨(fre s).toNat, by show _ = _; have := h.ok.aside; unfold fre; omega⟩
    by_cases hf0 : f = 0
    · have e2 : mrk n s = (false, s) := by unfold mrk; rw [if_pos (.inr (by rw [hf.out]; omega))]
      rw [e2]
      subst hf0
      have hz2 : (z != 0) = false := by have := hz.out; simp; omega
      clear h1 e2 h hy hl hn
      simp only
      go_enter Try.func32, Try.ntmps32
      go_wp2_with fail
      refine (state_at R s vr n HN.out w HH.out).mono ?_
      rintro e w1 ⟨rfl, q, rfl⟩
      rw [hz.out]
      go_wp2_with fail
      refine (rfree_at R s _ _ (HH.out.drew q)).mono ?_
      rintro e w2 ⟨rfl, q2, rfl⟩
      rw [hf.out, World.drewN_drewN]
      go_wp2_with fail
      go_ret
      exact ⟨rfl, Rm.made HY.out HL.out (HH.out.drew _) (drew_tch _ _ _)⟩
    · have ok := mark_ok h.ok n
      obtain ⟨i, hi, rfl, e⟩ := stv_idx (s := s) (n := n) (by omega)
      have e2 : mrk ((s.lo + i : Nat) : Int) s = (true, put s i 1) := by
        unfold mrk
        rw [if_neg (by rw [hf.out]; omega), show (((s.lo + i : Nat) : Int) - s.lo).toNat = i by omega]
      rw [e2] at ok ⊢
      have HOK : Hid (Sok (put s i 1)) := ok
      have hf1 : decide ((f : Int) < 1) = false := by simp; omega
      have hz2 : (z != 0) = false := by have := hz.out; simp; omega
      have htop := h.ok.top
      obtain ⟨g, cap, rfl, hg, hcap, hmax, hc, fz⟩ := h.own.shape (by omega)
      obtain ⟨m, hm⟩ : ∃ m, Hid (s.L.length = m) := ⟨_, rfl⟩
      obtain ⟨l, hl2⟩ : ∃ l, Hid (s.lo = l) := ⟨_, rfl⟩
      obtain ⟨t, ht⟩ : ∃ t, Hid (s.lo + i = t) := ⟨_, rfl⟩
      have HC : Hid (∀ q, (w.drewN q).cell? ⟨R, 0, none⟩ = some (.int .i64 l) ∧ (w.drewN q).cell? ⟨R, 1, none⟩ = some (.slice (some ⟨g, 0, none⟩) m cap) ∧ (w.drewN q).cell? ⟨g, i, none⟩ = some (.int .i64 (s.L.getD i 0)) ∧ (w.drewN q).frozen? ⟨g, i, none⟩ = false) := fun q => ⟨by rw [← hl2.out]; exact h.c0, by rw [← hm.out]; exact h.c1, hc i hi, fz i⟩
      have hts : (t : Int) - (l : Int) = (i : Int) := by have := ht.out; have := hl2.out; omega
      have hi2 := hi
      rw [hm.out] at hi2 hcap
      have ht9 : t ≤ 65536 := by have := ht.out; omega
      have hl9 : l ≤ t := by have := ht.out; have := hl2.out; omega
      rw [ht.out] at HN hz ⊢
      unfold maxLen at hmax
      clear ok hi e e2 h1 h hy hl hn hc fz htop
      simp only
      go_enter Try.func32, Try.ntmps32
      go_wp2_with fail
      refine (state_at R s _ t HN.out w HH.out).mono ?_
      rintro e w1 ⟨rfl, q, rfl⟩
      rw [hz.out]
      go_wp2_with fail
      refine (rfree_at R s _ _ (HH.out.drew q)).mono ?_
      rintro e w2 ⟨rfl, q2, rfl⟩
      rw [hf.out]
      rw [World.drewN_drewN]
      generalize q + q2 = q3
      obtain ⟨c0, c1, ci, fi⟩ := HC.out q3
      obtain ⟨y, hy⟩ : ∃ y, Hid (s.L.getD i 0 = y) := ⟨_, rfl⟩
      rw [hy.out] at ci
      obtain ⟨W, HW⟩ : ∃ W, Hid (w.drewN q3 = W) := ⟨_, rfl⟩
      rw [HW.out] at c0 c1 ci fi ⊢
      go_wp2_with fail
      go_region
      go_wp2_with fail
      go_ret
      have P := (HH.out.drew q3).put i 1 HOK.out
      rw [HW.out] at P
      have T0 : Tch (fun k => k = R ∨ (Value.slice (some ⟨g, 0, none⟩) s.L.length cap).ownBlock = some k) w W := by rw [← HW.out]; exact drew_tch _ _ _
      exact ⟨rfl, Rm.made HY.out HL.out (P.1.tch (S := fun _ => False) ⟨rfl, rfl, rfl, Nat.le_refl _, fun _ _ _ => rfl⟩ (fun e => e) (fun _ _ e => e)) (T0.trans P.2 (fun _ _ e => e)).drew⟩
  · have e2 : mrk n s = (false, s) := by unfold mrk; rw [if_pos (.inl h1)]
    rw [e2]
    have hz2 : (z != 0) = true := by have := hz.out; simp; omega
    clear h1 e2 h hy hl hn
    simp only
    go_enter Try.func32, Try.ntmps32
    go_wp2_with fail
    refine (state_at R s vr n HN.out w HH.out).mono ?_
    rintro e w1 ⟨rfl, q, rfl⟩
    rw [hz.out]
    go_wp2_with fail
    go_ret
    exact ⟨rfl, Rm.made HY.out HL.out (HH.out.drew q) (drew_tch _ _ _)⟩
end Go.Proofs.Ytamgogkkcbeaaaa
