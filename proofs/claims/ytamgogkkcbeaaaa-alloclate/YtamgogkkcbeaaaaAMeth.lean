/-
  The map's calls that turn little: Free, Taken, Dropped, Release, Reserve, Back, Drop, Mark.
-/
import Derived.Test.YtamgogkkcbeaaaaAMap
namespace Go.Proofs.Ytamgogkkcbeaaaa
open Go.RowKit Ah
set_option linter.unusedVariables false
set_option maxRecDepth 100000

abbrev mp (M : Nat) : Value := .pointer (some ⟨M, 0, none⟩)

theorem free_at (M : Nat) (s : St) (vs v u vb : Value) (ns bk : List Int) (w : World) (H : PmAt w M s vs v u vb ns bk) :
    Calls Try.prog 12 #[mp M] w fun e w' => e = .returned (.int .i64 (fre s)) ∧ ∃ q, w' = w.drewN q := by
  have c1 := H.pf.c1
  have c4 := H.c4
  obtain ⟨a, cap, rfl⟩ := H.pf.fr.len
  have hl := H.pf.ks.len
  have h2 := List.count_le_length (a := (0 : Int)) (l := s.L)
  have h3 := H.pf.top
  have h4 := H.ok.aside
  have HF : Hid ((ns.length : Int) - s.as = fre s) := by show _ = _; unfold fre; omega
  obtain ⟨m, hm⟩ : ∃ m, Hid (ns.length = m) := ⟨_, rfl⟩
  obtain ⟨b, hb⟩ : ∃ b, Hid (s.as = b) := ⟨_, rfl⟩
  rw [hm.out] at hl c1 HF
  rw [hb.out] at c4 h4 HF
  have hbm : b ≤ m := by omega
  have hm9 : m ≤ 65536 := by omega
  rw [← HF.out]
  clear hl h2 h3 h4 H HF
  go_enter Try.func12, Try.ntmps12
  go_wp2_with fail
  go_quiet ((go_at_call 36; exact Calls.quiet_of_same (fLen_any M 1 a m cap _ c1)))
  go_wp2_with fail
  go_ret
  exact ⟨rfl, _, rfl⟩

theorem Pm.drew {w : World} {M : Nat} {s : St} {X : Nat → Prop} (H : Pm w M s X) (q : Nat) : Pm (w.drewN q) M s X := H.tch (S := fun _ => False) ⟨rfl, rfl, rfl, Nat.le_refl _, fun _ _ _ => rfl⟩ (fun _ _ e => e)

/-- How many are free. -/
theorem free_any (M : Nat) (s : St) (X : Nat → Prop) (w : World) (H : Pm w M s X) :
    Calls Try.prog 12 #[mp M] w fun e w' => e = .returned (.int .i64 (fre s)) ∧ ∃ q, w' = w.drewN q := by
  obtain ⟨vs, v, u, vb, ns, bk, h, _⟩ := H
  exact free_at M s vs v u vb ns bk w h

theorem dropped_any (M : Nat) (s : St) (X : Nat → Prop) (w : World) (H : Pm w M s X) :
    Calls Try.prog 14 #[mp M] w fun e w' => e = .returned (.int .i64 (s.L.count 2)) ∧ w' = w := by
  obtain ⟨vs, v, u, vb, ns, bk, h, _⟩ := H
  have c3 := h.c3
  obtain ⟨a, cap, e, _⟩ := h.bo.rd
  rw [e] at c3
  rw [h.kb.len] at c3
  obtain ⟨m, hm⟩ : ∃ m, Hid (s.L.count 2 = m) := ⟨_, rfl⟩
  rw [hm.out] at c3 ⊢
  clear h e
  go_enter Try.func14, Try.ntmps14
  go_wp2_with fail
  go_ret
  exact ⟨rfl, rfl⟩

theorem taken_any (M : Nat) (s : St) (X : Nat → Prop) (n : Int) (w : World) (H : Pm w M s X) :
    Calls Try.prog 16 #[mp M, .int .i64 n] w fun e w' => e = .returned (.bool (decide (0 < stv s n))) ∧ w' = w := by
  obtain ⟨vs, v, u, vb, ns, bk, h, _⟩ := H
  have HP : Hid (Pf w M s vs v u [vb, .int .i64 s.as] ns) := h.pf
  have hr := stv_ge h.ok n
  obtain ⟨z, hz⟩ : ∃ z, Hid (stv s n + 1 = z) := ⟨_, rfl⟩
  have HB : Hid (decide (0 < stv s n) = decide (1 < z)) := by show _ = _; rw [decide_eq_decide]; have := hz.out; omega
  rw [HB.out]
  have h0 : 0 ≤ z ∧ z ≤ 3 := by have := hz.out; omega
  clear h hr HB
  have hcs : z = 0 ∨ z = 1 ∨ z = 2 ∨ z = 3 := by omega
  clear h0
  go_enter Try.func16, Try.ntmps16
  go_wp2_with fail
  refine (stateOf_any M s vs v u _ ns n w HP.out).mono ?_
  rintro e w1 ⟨rfl, rfl⟩
  rw [hz.out]
  clear hz HP
  rcases hcs with rfl | rfl | rfl | rfl
  all_goals
    go_wp2_with fail
    go_ret
    exact ⟨rfl, rfl⟩

/-- What stands behind the free numbers is written. -/
theorem Pf.post {w : World} {M : Nat} {s : St} {vs v u : Value} {post : List Value} {ns : List Int} (H : Pf w M s vs v u post ns) (j : Nat) (x : Value) : Pf (w.setCell ⟨M, 3 + j, none⟩ x) M s vs v u (post.set j x) ns := by
  have T : Tch (fun k => k = M) w (w.setCell ⟨M, 3 + j, none⟩ x) := Tch.setCell (Tch.refl (fun k => k = M) w) (p := ⟨M, 3 + j, none⟩) (fun _ => rfl) _
  obtain ⟨ps, hl, ho, hp⟩ := H.fr.pls
  refine ⟨⟨?_, H.fr.ht, H.fr.own.tch T (fun k hk e => H.fr.ne hk e), ⟨ps, hl, ho.tch T (fun k hk e => H.fr.neu hk e), hp⟩, H.fr.ap⟩, H.st.tch T (fun k hk e => H.neS hk e), H.heap, H.ks, H.top⟩
  rw [heap_setCell_same w M (3 + j) _ _ _ H.fr.blk]
  congr 2
  rw [Nat.add_comm 3 j]
  simp

theorem PmAt.aside {w : World} {M : Nat} {s : St} {vs v u vb : Value} {ns bk : List Int} (H : PmAt w M s vs v u vb ns bk) (a : Nat) (ha : a ≤ s.L.count 0) : PmAt (w.setCell ⟨M, 4, none⟩ (.int .i64 a)) M ⟨s.lo, s.L, a⟩ vs v u vb ns bk := by
  have T : Tch (fun k => k = M) w (w.setCell ⟨M, 4, none⟩ (.int .i64 a)) := Tch.setCell (Tch.refl (fun k => k = M) w) (p := ⟨M, 4, none⟩) (fun _ => rfl) _
  have P := H.pf.post 1 (.int .i64 a)
  exact ⟨⟨P.fr, P.st, P.heap, P.ks.aside a, P.top⟩, H.bo.tch T (fun k hk e => H.neB hk e), H.kb.aside a, H.a1, H.a2, ⟨H.ok.top, H.ok.val, ha⟩⟩

theorem tch_M {M : Nat} {vs v u vb : Value} {w : World} {i : Nat} (x : Value) : Tch (Px M vs v u vb) w (w.setCell ⟨M, i, none⟩ x) := Tch.setCell (Tch.refl _ w) (p := ⟨M, i, none⟩) (fun _ => .inl rfl) _

theorem release_any (M : Nat) (s : St) (X : Nat → Prop) (w : World) (H : Pm w M s X) :
    Calls Try.prog 21 #[mp M] w fun e w' => e = .returned (.tuple #[]) ∧ Pm w' M (rls s) (ext w w' X) ∧ Tch X w w' := by
  obtain ⟨vs, v, u, vb, ns, bk, h, hx, hl⟩ := H
  have HH : Hid (PmAt w M s vs v u vb ns bk) := h
  have HX : Hid (∀ k, Px M vs v u vb k → X k) := hx
  have HL : Hid (∀ k, X k → k < w.heap.size) := hl
  have c4 := h.c4
  have f4 := h.pf.fz 4
  clear h hx hl
  go_enter Try.func21, Try.ntmps21
  go_wp2_with fail
  go_end0
  exact ⟨rfl, Pm.made HX.out HL.out (HH.out.aside 0 (Nat.zero_le _)) (fun _ e => .inl e) (fun _ e => .inl e) (tch_M _)⟩

set_option maxHeartbeats 1000000 in
theorem reserve_any (M : Nat) (s : St) (X : Nat → Prop) (n : Int) (hn : (Lit.int .i64 n).wf = true) (w : World) (H : Pm w M s X) :
    Calls Try.prog 23 #[mp M, .int .i64 n] w fun e w' => e = .returned (.bool (rsv n s).1) ∧ Pm w' M (rsv n s).2 (ext w w' X) ∧ Tch X w w' := by
  obtain ⟨vs, v, u, vb, ns, bk, h, hx, hl⟩ := H
  have HH : Hid (PmAt w M s vs v u vb ns bk) := h
  have HX : Hid (∀ k, Px M vs v u vb k → X k) := hx
  have HL : Hid (∀ k, X k → k < w.heap.size) := hl
  have h2 := List.count_le_length (a := (0 : Int)) (l := s.L)
  have h3 := h.pf.top
  have h4 := h.ok.aside
  clear h hx hl
  by_cases h0 : n < 0
  · have e : rsv n s = (false, s) := by unfold rsv; rw [if_pos (.inl h0)]
    rw [e]
    clear e h2 h3 h4 hn
    simp only
    go_enter Try.func23, Try.ntmps23
    go_wp2_with fail
    go_ret
    exact ⟨rfl, Pm.made HX.out HL.out HH.out (fun _ e => .inl e) (fun _ e => .inl e) (Tch.refl _ _)⟩
  · obtain ⟨t, rfl⟩ : ∃ t : Nat, n = t := ⟨n.toNat, by omega⟩
    obtain ⟨f, hf⟩ : ∃ f : Nat, Hid (fre s = f) := ⟨(fre s).toNat, by show _ = _; unfold fre; omega⟩
    by_cases h1 : f < t
    · have e : rsv t s = (false, s) := by unfold rsv; rw [if_pos (.inr (by rw [hf.out]; omega))]
      rw [e]
      clear e h2 h3 h4 hn h0
      simp only
      go_enter Try.func23, Try.ntmps23
      go_wp2_with fail
      refine (free_at M s vs v u vb ns bk w HH.out).mono ?_
      rintro e w1 ⟨rfl, q, rfl⟩
      rw [hf.out]
      go_wp2_with fail
      go_ret
      exact ⟨rfl, Pm.made HX.out HL.out (HH.out.tch (S := fun _ => False) ⟨rfl, rfl, rfl, Nat.le_refl _, fun _ _ _ => rfl⟩ (fun _ _ e => e)) (fun _ e => .inl e) (fun _ e => .inl e) ⟨rfl, rfl, rfl, Nat.le_refl _, fun _ _ _ => rfl⟩⟩
    · have e : rsv t s = (true, ⟨s.lo, s.L, s.as + t⟩) := by unfold rsv; rw [if_neg (by rw [hf.out]; omega)]; simp
      rw [e]
      have h1' : decide (f < t) = false := by simp; omega
      have HLE : Hid (s.as + t ≤ s.L.count 0) := by
        show _ ≤ _
        have := hf.out
        unfold fre at this
        omega
      have hs9 : s.as + t ≤ 65536 := by have := HLE.out; omega
      have HC : Hid (∀ q, (w.drewN q).cell? ⟨M, 4, none⟩ = some (.int .i64 s.as) ∧ (w.drewN q).frozen? ⟨M, 4, none⟩ = false) := fun q => ⟨HH.out.c4, HH.out.pf.fz 4⟩
      clear e h2 h3 h4 hn h0 h1
      simp only
      go_enter Try.func23, Try.ntmps23
      go_wp2_with fail
      refine (free_at M s vs v u vb ns bk w HH.out).mono ?_
      rintro e w1 ⟨rfl, q, rfl⟩
      rw [hf.out]
      obtain ⟨c4, f4⟩ := HC.out q
      go_wp2_with fail
      go_ret
      have P := (HH.out.tch (w' := w.drewN q) (S := fun _ => False) ⟨rfl, rfl, rfl, Nat.le_refl _, fun _ _ _ => rfl⟩ (fun _ _ e => e)).aside (s.as + t) HLE.out
      refine ⟨rfl, Pm.made HX.out HL.out P (fun _ e => .inl e) (fun _ e => .inl e) ?_⟩
      exact Tch.setCell (p := ⟨M, 4, none⟩) (⟨rfl, rfl, rfl, Nat.le_refl _, fun _ _ _ => rfl⟩ : Tch (Px M vs v u vb) w (w.drewN q)) (fun _ => .inl rfl) _
end Go.Proofs.Ytamgogkkcbeaaaa
