/-
  The document's examples; a deed, of both maps.
-/
import Derived.Test.YtamgogkkcbeaaaaABt
namespace Go.Proofs.Ytamgogkkcbeaaaa
open Go.RowKit Ah
set_option linter.unusedVariables false
set_option maxRecDepth 100000

theorem new_at (lo hi : Nat) (x y : Int) (hx : x = lo) (hy : y = hi) (h : lo ≤ hi) (h2 : hi ≤ 65536) (w : World) :
    Calls Try.prog 8 #[.int .i64 x, .int .i64 y] w fun e w' => ∃ M, e = .returned (.tuple #[mp M, .int .i64 0]) ∧ Pm w' M (new lo hi) (fun k => w.heap.size ≤ k ∧ k < w'.heap.size) ∧ Below w.heap.size w w' := by
  subst hx; subst hy; exact new_any lo hi h h2 w
theorem rnew_at (lo hi : Nat) (x y : Int) (hx : x = lo) (hy : y = hi) (h : lo ≤ hi) (h2 : hi ≤ 65536) (w : World) :
    Calls Try.prog 9 #[.int .i64 x, .int .i64 y] w fun e w' => ∃ R, e = .returned (.tuple #[rp R, .int .i64 0]) ∧ Rm w' R (new lo hi) (fun k => w.heap.size ≤ k ∧ k < w'.heap.size) ∧ Below w.heap.size w w' := by
  subst hx; subst hy; exact rnew_any lo hi h h2 w

/-- One map alone, all of it new. -/
def Pn (w0 w : World) (M : Nat) (s : St) : Prop := ∃ X, Pm w M s X ∧ (∀ k, X k → w0.heap.size ≤ k) ∧ Below w0.heap.size w0 w
section
variable {w0 w : World} {M : Nat} {s : St}
theorem Pn.step {w' : World} {s' : St} {X : Nat → Prop} (hx : ∀ k, X k → w0.heap.size ≤ k) (hb : Below w0.heap.size w0 w) (hp : Pm w' M s' (ext w w' X)) (ht : Tch X w w') : Pn w0 w' M s' := by
  have := hb.size
  refine ⟨ext w w' X, hp, fun k hk => ?_, hb.trans (ht.below hb.size (fun k e => hx k e))⟩
  rcases hk with e | ⟨e, _⟩
  · exact hx k e
  · omega
theorem takeN (H : Pn w0 w M s) : Calls Try.prog 25 #[mp M] w fun e w' => e = .returned (.tuple #[.int .i64 (take s).1, .bool (take s).2.1]) ∧ Pn w0 w' M (take s).2.2 := by
  obtain ⟨X, hp, hx, hb⟩ := H
  refine (take_any M s X w hp).mono ?_
  rintro e w' ⟨rfl, hp', ht⟩
  exact ⟨rfl, Pn.step hx hb hp' ht⟩
theorem dropN (n : Int) (H : Pn w0 w M s) : Calls Try.prog 30 #[mp M, .int .i64 n] w fun e w' => e = .returned (.bool (drop n s).1) ∧ Pn w0 w' M (drop n s).2 := by
  obtain ⟨X, hp, hx, hb⟩ := H
  refine (drop_any M s X n w hp).mono ?_
  rintro e w' ⟨rfl, hp', ht⟩
  exact ⟨rfl, Pn.step hx hb hp' ht⟩
theorem freeN (H : Pn w0 w M s) : Calls Try.prog 12 #[mp M] w fun e w' => e = .returned (.int .i64 (fre s)) ∧ Pn w0 w' M s := by
  obtain ⟨X, hp, hx, hb⟩ := H
  refine (free_any M s X w hp).mono ?_
  rintro e w' ⟨rfl, q, rfl⟩
  exact ⟨rfl, X, hp.drew q, hx, hb.trans (Below.of_drewN _ _ _)⟩
theorem droppedN (H : Pn w0 w M s) : Calls Try.prog 14 #[mp M] w fun e w' => e = .returned (.int .i64 (s.L.count 2)) ∧ Pn w0 w' M s := by
  obtain ⟨X, hp, hx, hb⟩ := H
  refine (dropped_any M s X w hp).mono ?_
  rintro e w' ⟨rfl, rfl⟩
  exact ⟨rfl, X, hp, hx, hb⟩
theorem takenN (n : Int) (H : Pn w0 w M s) : Calls Try.prog 16 #[mp M, .int .i64 n] w fun e w' => e = .returned (.bool (decide (0 < stv s n))) ∧ Pn w0 w' M s := by
  obtain ⟨X, hp, hx, hb⟩ := H
  refine (taken_any M s X n w hp).mono ?_
  rintro e w' ⟨rfl, rfl⟩
  exact ⟨rfl, X, hp, hx, hb⟩
end

set_option maxHeartbeats 1000000 in
theorem lives_any (w : World) : Calls Try.prog 10 #[] w fun e w' => e = .returned (.bool true) ∧ Below w.heap.size w w' := by
  obtain ⟨s0, h0⟩ : ∃ s, Hid (new 50 54 = s) := ⟨_, rfl⟩
  obtain ⟨s1, h1⟩ : ∃ s, Hid (take (new 50 54) = ((50 : Int), true, s)) := ⟨(take (new 50 54)).2.2, Prod.ext (by decide) (Prod.ext (by decide) rfl)⟩
  obtain ⟨s2, h2⟩ : ∃ s, Hid (take s1 = ((51 : Int), true, s)) := ⟨(take s1).2.2, by
    have : s1 = (take (new 50 54)).2.2 := by rw [h1.out]
    show _ = _
    rw [this]; exact Prod.ext (by decide) (Prod.ext (by decide) rfl)⟩
  have e2 : s2 = (take (take (new 50 54)).2.2).2.2 := by
    have : s1 = (take (new 50 54)).2.2 := by rw [h1.out]
    rw [← this, h2.out]
  have HF : Hid (fre s2 = 2) := by show _ = _; rw [e2]; decide
  obtain ⟨s3, h3⟩ : ∃ s, Hid (drop 50 s2 = (true, s)) := ⟨(drop 50 s2).2, by show _ = _; rw [e2]; exact Prod.ext (by decide) rfl⟩
  have e3 : s3 = (drop 50 s2).2 := by rw [h3.out]
  have HD : Hid ((s3.L.count 2 : Int) = 1) := by show _ = _; rw [e3, e2]; decide
  have HT : Hid (decide (0 < stv s3 50) = true) := by show _ = _; rw [e3, e2]; decide
  clear e2 e3
  go_enter Try.func10, Try.ntmps10
  go_wp2_with fail
  refine (new_at 50 54 50 54 rfl rfl (by decide) (by decide) w).mono ?_
  rintro e w1 ⟨M, rfl, hp1, hb1⟩
  rw [h0.out] at hp1 h1
  have P1 : Hid (Pn w w1 M s0) := ⟨_, hp1, fun k hk => hk.1, hb1⟩
  clear hp1 hb1 h0
  go_wp2_with fail
  refine (takeN P1.out).mono ?_
  rintro e w2 ⟨rfl, hp2⟩
  rw [h1.out] at hp2 ⊢
  have P2 : Hid (Pn w w2 M s1) := hp2
  clear hp2 P1 h1
  go_wp2_with fail
  refine (takeN P2.out).mono ?_
  rintro e w3 ⟨rfl, hp3⟩
  rw [h2.out] at hp3 ⊢
  have P3 : Hid (Pn w w3 M s2) := hp3
  clear hp3 P2 h2
  go_wp2_with fail
  refine (freeN P3.out).mono ?_
  rintro e w4 ⟨rfl, hp4⟩
  rw [HF.out]
  have P4 : Hid (Pn w w4 M s2) := hp4
  clear hp4 P3 HF
  go_wp2_with fail
  refine (dropN 50 P4.out).mono ?_
  rintro e w5 ⟨rfl, hp5⟩
  rw [h3.out] at hp5 ⊢
  have P5 : Hid (Pn w w5 M s3) := hp5
  clear hp5 P4 h3
  go_wp2_with fail
  refine (droppedN P5.out).mono ?_
  rintro e w6 ⟨rfl, hp6⟩
  rw [HD.out]
  have P6 : Hid (Pn w w6 M s3) := hp6
  clear hp6 P5 HD
  go_wp2_with fail
  refine (takenN 50 P6.out).mono ?_
  rintro e w7 ⟨rfl, hp7⟩
  rw [HT.out]
  have HB : Hid (Below w.heap.size w w7) := by obtain ⟨_, _, _, h⟩ := hp7; exact h
  clear hp7 P6 HT
  go_wp2_with fail
  go_ret
  exact ⟨rfl, HB.out⟩

set_option maxHeartbeats 4000000 in
theorem does_any (w0 w : World) (M R : Nat) (s : St) (kind n : Int) (hk : (Lit.int .i64 kind).wf = true) (hn : (Lit.int .i64 n).wf = true) (H : Bz w0 w0 w (fun _ => False) M R s s) :
    Calls Try.prog 11 #[mp M, rp R, .agg #[.int .i64 kind, .int .i64 n]] w fun e w' => e = .returned (.bool true) ∧ Bz w0 w0 w' (fun _ => False) M R (stp (pk kind 7) n s) (stp (pk kind 7) n s) := by
  obtain ⟨q, hq⟩ : ∃ q, w.heap.size = q := ⟨_, rfl⟩
  obtain ⟨W1, hW1⟩ : ∃ W1, w.alloc (.cells #[.int .i64 kind, .int .i64 n] 33) = W1 := ⟨_, rfl⟩
  have hblk : W1.heap[q]? = some (.cells #[.int .i64 kind, .int .i64 n] 33 (0, 0)) := by rw [← hW1, ← hq]; exact heap_alloc_new w _
  have hlt : q < W1.heap.size := (Array.getElem?_eq_some_iff.1 hblk).1
  have B1 : Hid (Bz w0 W1 W1 (fun k => k = q) M R s s) := H.enter (by rw [← hW1]; exact (Below.refl _ _).alloc (Nat.le_refl _) _) _ (fun k e => by rw [e]; exact ⟨by omega, hlt⟩)
  have HQ : Hid (∀ {w' : World} {s' t' : St}, Bz w0 W1 w' (fun k => k = q) M R s' t' → w'.cell? ⟨q, 0, none⟩ = some (.int .i64 kind) ∧ w'.cell? ⟨q, 1, none⟩ = some (.int .i64 n)) := by
    intro w' s' t' h
    have hb := h.keep (k := q) rfl
    rw [hblk] at hb
    exact ⟨cell_of_row w' q 0 _ _ (0, 0) hb, cell_of_row w' q 1 _ _ (0, 0) hb⟩
  have HN : Hid ((Lit.int .i64 n).wf = true) := hn
  have HP := fun W => pick_any kind 7 hk (by decide) W
  have hr := pk_range kind 7 (by decide)
  obtain ⟨c0, c1⟩ := HQ.out B1.out
  have HPK : Hid (∀ W, Calls Try.prog 22 #[.int .i64 kind, .int .i64 7] W fun e w' => e = .returned (.int .i64 (pk kind 7)) ∧ w' = W) := HP
  generalize pk kind 7 = kk at *
  have HW1 : Hid (w.alloc (.cells #[.int .i64 kind, .int .i64 n] 33) = W1) := hW1
  have HQQ : Hid (w.heap.size = q) := hq
  clear HP H hblk hlt hk hn hW1 hq
  have HCA : kk = 0 ∨ kk = 1 ∨ kk = 2 ∨ kk = 3 ∨ kk = 4 ∨ kk = 5 ∨ kk = 6 := by omega
  clear hr
  rcases HCA with rfl | rfl | rfl | rfl | rfl | rfl | rfl
  · have HST : Hid (stp 0 n s = (take s).2.2) := rfl
    rw [HST.out]
    go_enter Try.func11, Try.ntmps11
    go_wp2_with fail
    rw [HW1.out, HQQ.out]
    clear HW1 HQQ
    refine (HPK.out _).mono ?_
    rintro e W1 ⟨rfl, rfl⟩
    clear HPK
    go_wp2_with fail
    refine (takeB B1.out).mono ?_
    rintro e w2 ⟨rfl, hb2⟩
    have B2 : Hid (Bz w0 W1 w2 (fun k => k = q) M R (take s).2.2 s) := hb2
    obtain ⟨x, hx⟩ : ∃ x, Hid ((take s).1 = x) := ⟨_, rfl⟩
    obtain ⟨y, hy⟩ : ∃ y, Hid ((take s).2.1 = y) := ⟨_, rfl⟩
    rw [hx.out, hy.out]
    clear hb2 B1 c0 c1
    go_wp2_with fail
    refine (rtakeB B2.out).mono ?_
    rintro e w3 ⟨rfl, hb3⟩
    rw [hx.out, hy.out]
    have B3 : Hid (Bz w0 W1 w3 (fun k => k = q) M R (take s).2.2 (take s).2.2) := hb3
    clear hb3 B2
    cases y with
    | false =>
      go_wp2_with fail
      go_ret
      exact ⟨by first | rfl | simp, B3.out.leave⟩
    | true =>
      go_wp2_with fail
      go_ret
      exact ⟨by first | rfl | simp, B3.out.leave⟩
  · have HST : Hid (stp 1 n s = (mrk n s).2) := rfl
    rw [HST.out]
    obtain ⟨y, hy⟩ : ∃ y, Hid ((mrk n s).1 = y) := ⟨_, rfl⟩
    go_enter Try.func11, Try.ntmps11
    go_wp2_with fail
    rw [HW1.out, HQQ.out]
    clear HW1 HQQ
    refine (HPK.out _).mono ?_
    rintro e W1 ⟨rfl, rfl⟩
    clear HPK
    clear c0
    go_wp2_with fail
    go_region_held3 (fun w' => w'.cell? ⟨q, 1, none⟩ = some (.int .i64 n)) (go_keep)
      (first
        | (go_at_call 24; refine (markB n (by first | exact B1.out | exact B1.out.drew1)).mono ?_; rintro e w2 ⟨rfl, hb2⟩; have B2 : Hid (Bz w0 W1 w2 (fun k => k = q) M R (mrk n s).2 s) := hb2; rw [hy.out]; clear hb2; obtain ⟨_, c2⟩ := HQ.out B2.out)
        | (go_at_call 32; refine (rmarkB n HN.out (by first | exact B2.out | exact B2.out.drew1)).mono ?_; rintro e w3 ⟨rfl, hb3⟩; have B3 : Hid (Bz w0 W1 w3 (fun k => k = q) M R (mrk n s).2 (mrk n s).2) := hb3; rw [hy.out]; clear hb3; obtain ⟨_, c3⟩ := HQ.out B3.out))
    go_wp2_with fail
    go_ret
    exact ⟨by cases y <;> first | rfl | simp, B3.out.leave⟩
  · have HST : Hid (stp 2 n s = (back n s).2) := rfl
    rw [HST.out]
    obtain ⟨y, hy⟩ : ∃ y, Hid ((back n s).1 = y) := ⟨_, rfl⟩
    go_enter Try.func11, Try.ntmps11
    go_wp2_with fail
    rw [HW1.out, HQQ.out]
    clear HW1 HQQ
    refine (HPK.out _).mono ?_
    rintro e W1 ⟨rfl, rfl⟩
    clear HPK
    clear c0
    go_wp2_with fail
    go_region_held3 (fun w' => w'.cell? ⟨q, 1, none⟩ = some (.int .i64 n)) (go_keep)
      (first
        | (go_at_call 28; refine (backB n (by first | exact B1.out | exact B1.out.drew1)).mono ?_; rintro e w2 ⟨rfl, hb2⟩; have B2 : Hid (Bz w0 W1 w2 (fun k => k = q) M R (back n s).2 s) := hb2; rw [hy.out]; clear hb2; obtain ⟨_, c2⟩ := HQ.out B2.out)
        | (go_at_call 29; refine (rbackB n HN.out (by first | exact B2.out | exact B2.out.drew1)).mono ?_; rintro e w3 ⟨rfl, hb3⟩; have B3 : Hid (Bz w0 W1 w3 (fun k => k = q) M R (back n s).2 (back n s).2) := hb3; rw [hy.out]; clear hb3; obtain ⟨_, c3⟩ := HQ.out B3.out))
    go_wp2_with fail
    go_ret
    exact ⟨by cases y <;> first | rfl | simp, B3.out.leave⟩
  · have HST : Hid (stp 3 n s = (drop n s).2) := rfl
    rw [HST.out]
    obtain ⟨y, hy⟩ : ∃ y, Hid ((drop n s).1 = y) := ⟨_, rfl⟩
    go_enter Try.func11, Try.ntmps11
    go_wp2_with fail
    rw [HW1.out, HQQ.out]
    clear HW1 HQQ
    refine (HPK.out _).mono ?_
    rintro e W1 ⟨rfl, rfl⟩
    clear HPK
    clear c0
    go_wp2_with fail
    go_region_held3 (fun w' => w'.cell? ⟨q, 1, none⟩ = some (.int .i64 n)) (go_keep)
      (first
        | (go_at_call 30; refine (dropB n (by first | exact B1.out | exact B1.out.drew1)).mono ?_; rintro e w2 ⟨rfl, hb2⟩; have B2 : Hid (Bz w0 W1 w2 (fun k => k = q) M R (drop n s).2 s) := hb2; rw [hy.out]; clear hb2; obtain ⟨_, c2⟩ := HQ.out B2.out)
        | (go_at_call 33; refine (rdropB n HN.out (by first | exact B2.out | exact B2.out.drew1)).mono ?_; rintro e w3 ⟨rfl, hb3⟩; have B3 : Hid (Bz w0 W1 w3 (fun k => k = q) M R (drop n s).2 (drop n s).2) := hb3; rw [hy.out]; clear hb3; obtain ⟨_, c3⟩ := HQ.out B3.out))
    go_wp2_with fail
    go_ret
    exact ⟨by cases y <;> first | rfl | simp, B3.out.leave⟩
  · have HST : Hid (stp 4 n s = stl s) := rfl
    rw [HST.out]
    go_enter Try.func11, Try.ntmps11
    go_wp2_with fail
    rw [HW1.out, HQQ.out]
    clear HW1 HQQ
    refine (HPK.out _).mono ?_
    rintro e W1 ⟨rfl, rfl⟩
    clear HPK
    clear c0 c1
    go_wp2_with fail
    refine (settleB B1.out).mono ?_
    rintro e w2 ⟨rfl, hb2⟩
    have B2 : Hid (Bz w0 W1 w2 (fun k => k = q) M R (stl s) s) := hb2
    clear hb2 B1
    go_wp2_with fail
    refine (rsettleB B2.out).mono ?_
    rintro e w3 ⟨rfl, hb3⟩
    have B3 : Hid (Bz w0 W1 w3 (fun k => k = q) M R (stl s) (stl s)) := hb3
    clear hb3 B2
    go_wp2_with fail
    go_ret
    exact ⟨rfl, B3.out.leave⟩
  · have HST : Hid (stp 5 n s = (rsv n s).2) := rfl
    rw [HST.out]
    obtain ⟨y, hy⟩ : ∃ y, Hid ((rsv n s).1 = y) := ⟨_, rfl⟩
    go_enter Try.func11, Try.ntmps11
    go_wp2_with fail
    rw [HW1.out, HQQ.out]
    clear HW1 HQQ
    refine (HPK.out _).mono ?_
    rintro e W1 ⟨rfl, rfl⟩
    clear HPK
    clear c0
    go_wp2_with fail
    go_region_held3 (fun w' => w'.cell? ⟨q, 1, none⟩ = some (.int .i64 n)) (go_keep)
      (first
        | (go_at_call 23; refine (reserveB n HN.out (by first | exact B1.out | exact B1.out.drew1)).mono ?_; rintro e w2 ⟨rfl, hb2⟩; have B2 : Hid (Bz w0 W1 w2 (fun k => k = q) M R (rsv n s).2 s) := hb2; rw [hy.out]; clear hb2; obtain ⟨_, c2⟩ := HQ.out B2.out)
        | (go_at_call 35; refine (rreserveB n (by first | exact B2.out | exact B2.out.drew1)).mono ?_; rintro e w3 ⟨rfl, hb3⟩; have B3 : Hid (Bz w0 W1 w3 (fun k => k = q) M R (rsv n s).2 (rsv n s).2) := hb3; rw [hy.out]; clear hb3; obtain ⟨_, c3⟩ := HQ.out B3.out))
    go_wp2_with fail
    go_ret
    exact ⟨by cases y <;> first | rfl | simp, B3.out.leave⟩
  · have HST : Hid (stp 6 n s = rls s) := rfl
    rw [HST.out]
    go_enter Try.func11, Try.ntmps11
    go_wp2_with fail
    rw [HW1.out, HQQ.out]
    clear HW1 HQQ
    refine (HPK.out _).mono ?_
    rintro e W1 ⟨rfl, rfl⟩
    clear HPK
    clear c0 c1
    go_wp2_with fail
    refine (releaseB B1.out).mono ?_
    rintro e w2 ⟨rfl, hb2⟩
    obtain ⟨d, f, hb3⟩ := hb2.rls
    have B3 : Hid (Bz w0 W1 (w2.setCell ⟨R, 2, none⟩ (.int .i64 0)) (fun k => k = q) M R (rls s) (rls s)) := hb3
    clear hb2 hb3 B1
    go_wp2_with fail
    go_ret
    exact ⟨rfl, B3.out.leave⟩
end Go.Proofs.Ytamgogkkcbeaaaa
