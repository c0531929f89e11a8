/-
  The last of a row is taken off, one is laid behind it: the heap's own two calls.
-/
import Derived.Test.YtcmnhgefeffcpaaHUp
import Derived.Deep.RegionLaw
import Derived.Deep.AppendLies
namespace Go.Proofs.Ytcmnhgefeffcpaa
open Go.RowKit Pl Hf
set_option linter.unusedVariables false
set_option maxRecDepth 100000

theorem pcells_take (ps : List (Int × Int)) (n : Nat) : (pcells ps).take (n * 2) = pcells (ps.take n) := by
  induction ps generalizing n with
  | nil => simp [pcells]
  | cons q r ih =>
    match n with
    | 0 => simp [pcells]
    | n + 1 =>
      have := ih n
      rw [show (n + 1) * 2 = n * 2 + 1 + 1 by omega]
      simpa [pcells] using this

theorem OwnsT.shrink {w : World} {g m cap : Nat} {ps : List (Int × Int)} (h : OwnsT w (.slice (some ⟨g, 0, none⟩) m cap) ps) (n : Nat) (hn : n ≤ ps.length) : OwnsT w (.slice (some ⟨g, 0, none⟩) n cap) (ps.take n) := by
  have h' : w.ownsRow 0 128 2 (.slice (some ⟨g, 0, none⟩) m cap) ps.length (pcells ps) := h
  have hl : (ps.take n).length = n := by rw [List.length_take]; omega
  unfold OwnsT
  rw [hl]
  refine ⟨by rw [pcells_length, hl], ?_⟩
  rcases h'.2 with ⟨e, _⟩ | ⟨g', cap', cur, e, hb, hg, hnc, hcm, hcs, htake⟩
  · cases e
  · simp only [Value.slice.injEq, Option.some.injEq, Addr.mk.injEq, and_true] at e
    obtain ⟨rfl, rfl, rfl⟩ := e
    refine .inr ⟨g, cap, cur, rfl, hb, hg, by omega, hcm, hcs, ?_⟩
    rw [← pcells_take, ← htake, List.take_take]
    congr 1
    omega

set_option maxHeartbeats 2000000 in
theorem tPop_any (h : Nat) (v : Value) (ps : List (Int × Int)) (n : Nat) (w : World) (H : Hp w h v ps) (hn : ps.length = n + 1) :
    Calls Try.prog 100 #[.pointer (some ⟨h, 0, none⟩)] w fun e w' => e = .returned (.iface 128 (.agg #[.int .i64 (G ps n).1, .int .i64 (G ps n).2])) ∧
      ∃ v', Hp w' h v' (ps.take n) ∧ v'.ownBlock = v.ownBlock ∧ Tch (fun k => k = h) w w' := by
  obtain ⟨g, cap, rfl, hg, hcap, hmax, hc, fz⟩ := H.own.shape (by omega)
  obtain ⟨x1, x2, hx, c0, c1⟩ := H.own.at2 n (by omega)
  have HH : Hid (Hp w h (.slice (some ⟨g, 0, none⟩) ps.length cap) ps) := H
  have ch := H.c0
  have fh := H.fz
  have hlt := H.lt
  have hne : g ≠ h := fun e => H.ne (by rw [e]; rfl)
  rw [hx]
  simp only
  rw [hn] at ch hcap ⊢
  unfold maxLen at hmax
  clear hc fz H hx
  go_enter Try.func100, Try.ntmps100
  go_wp2_with fail
  go_ret
  have T : Tch (fun k => k = h) w ((w.setCell ⟨h, 0, none⟩ (.slice (some ⟨g, 0, none⟩) n cap)).alloc (.cells #[.int .i64 x1, .int .i64 x2] 128)) := Tch.alloc (Tch.setCell (Tch.refl (fun k => k = h) w) (p := ⟨h, 0, none⟩) (fun _ => rfl) _) _
  refine ⟨rfl, _, ⟨?_, (HH.out.own.shrink n (by omega)).tch T (fun j hj e => ?_)⟩, rfl, T⟩
  · rw [Below.heap_alloc _ _ _ (by simpa [World.setCell] using hlt), heap_setCell_same w h 0 _ _ _ HH.out.blk]
    simp
  · simp only [Value.ownBlock, Option.some.injEq] at hj
    omega

set_option maxHeartbeats 2000000 in
theorem tPush_any (h : Nat) (v : Value) (ps : List (Int × Int)) (p : Int × Int) (w : World) (H : Hp w h v ps) (hl : ps.length ≤ 100000) :
    Calls Try.prog 101 #[.pointer (some ⟨h, 0, none⟩), .iface 128 (.agg #[.int .i64 p.1, .int .i64 p.2])] w fun e w' => e = .returned (.tuple #[]) ∧
      ∃ v', Hp w' h v' (ps ++ [p]) ∧ (∀ k, v'.ownBlock = some k → v.ownBlock = some k ∨ w.heap.size ≤ k) ∧ Tch (fun k => k = h ∨ v.ownBlock = some k) w w' := by
  have HH : Hid (Hp w h v ps) := H
  have ch := H.c0
  have fh := H.fz
  have hlt := H.lt
  clear H
  obtain ⟨i0, hi, hz0, hz1, hz2⟩ := info_parts infoT
  obtain ⟨p1, p2⟩ := p
  have ta : ∀ (w : World) (x y : Int), (Instr.typeAssert (.iface 128 (.agg #[.int .i64 x, .int .i64 y])) 20 128 false).run Try.prog w = .ok (.agg #[.int .i64 x, .int .i64 y]) w := fun _ _ _ => by kernel_rfl
  have HO : Hid (∀ o, (w.alloc o).ownsRow 0 128 2 v ps.length (pcells ps)) := fun o => World.ownsRow.alloc HH.out.own o
  have HN : Hid (∀ j u, [Value.int .i64 p1, .int .i64 p2][j]? = some u → (w.alloc (.cells #[.int .i64 p1, .int .i64 p2] 128)).cell? ((⟨w.heap.size, 0, none⟩ : Addr).add j) = some u) := World.news_of_block (cs := #[.int .i64 p1, .int .i64 p2]) (heap_alloc_new w _)
  have H1 : Hid (∀ u ∈ [Value.int .i64 p1, .int .i64 p2], u.oneCell' = true) := fun u hu => by simp at hu; rcases hu with rfl | rfl <;> rfl
  have HM : Hid (ps.length + 1 ≤ maxLen) := by show _ ≤ _; unfold maxLen; omega
  have HC : Hid (∀ w0 w1 : World, w0.grownBy w1 v.ownBlock → w0.heap = (w.alloc (.cells #[.int .i64 p1, .int .i64 p2] 128)).heap → w1.cell? ⟨h, 0, none⟩ = some v ∧ w1.frozen? ⟨h, 0, none⟩ = false) := fun w0 w1 hg he => by
    have hb := hg.block h (by rw [he]; simp; omega) (fun e => HH.out.ne e.symm)
    rw [he, Below.heap_alloc _ _ _ hlt] at hb
    exact ⟨(World.cell?_of_block (w := w) hb).trans ch, (World.frozen?_of_block (w := w) hb).trans fh⟩
  simp only
  go_enter Try.func101, Try.ntmps101
  go_wp2_with fail
  go_region_law (refine step_append_lies _ rfl (.tmp 7) (.tmp 10) 126 rfl 0 128 i0 _ 2 16 Try.underlying126 hi hz0 hz1 hz2 rfl (by decide) v ps.length (pcells ps) (by simp [Act.eval]) (by exact HO.out _) ⟨w.heap.size, 0, none⟩ 1 1 [.int .i64 p1, .int .i64 p2] (by simp [Act.eval]) rfl (by exact HN.out) (by exact H1.out) (by decide) (by exact HM.out) (by omega) (Nat.zero_le _) (w.heap.size + 1) (by simp) ?_; intro g cap w1 hown1 hgrow hor hlt1; obtain ⟨ch1, fh1⟩ := HC.out _ w1 hgrow rfl)
  all_goals
    go_end0
    have hb1 : w1.heap[h]? = some (.cells #[v] 126 (0, 0)) := by
      have hb := hgrow.block h (by simp; omega) (fun e => HH.out.ne e.symm)
      rw [hb]
      show (w.alloc _).heap[h]? = _
      rw [Below.heap_alloc _ _ _ hlt]
      exact HH.out.blk
    have ho1 : OwnsT w1 (.slice (some ⟨g, 0, none⟩) (ps.length + 1) cap) (ps ++ [(p1, p2)]) := by
      unfold OwnsT
      rw [pcells_append]
      simpa [pcells] using hown1
    have T : Tch (fun k => k = h ∨ v.ownBlock = some k) w (w1.setCell ⟨h, 0, none⟩ (.slice (some ⟨g, 0, none⟩) (ps.length + 1) cap)) :=
      Tch.setCell (Tch.grown (by first | exact Tch.drew ((Tch.refl _ w).alloc _) | exact (Tch.drew (Tch.refl _ w)).alloc _) hgrow (fun k _ e => .inr e)) (p := ⟨h, 0, none⟩) (fun _ => .inl rfl) _
    have hgh : g ≠ h := ho1.ne_blk hb1 (by decide) rfl
    refine ⟨rfl, _, ⟨?_, ho1.tch (S := fun k => k = h) (Tch.setCell (Tch.refl (fun k => k = h) w1) (p := ⟨h, 0, none⟩) (fun _ => rfl) _) (fun j hj e => ?_)⟩, fun k hk => ?_, T⟩
    · rw [heap_setCell_same w1 h 0 _ _ _ hb1]
      simp
    · simp only [Value.ownBlock, Option.some.injEq] at hj
      omega
    · simp only [Value.ownBlock, Option.some.injEq] at hk
      subst hk
      rcases hor with e | e
      · exact .inl e
      · exact .inr (by omega)

/-- The least is taken. -/
theorem hPop_any (h : Nat) (v : Value) (ps : List (Int × Int)) (n : Nat) (w : World) (H : Hp w h v ps) (hn : ps.length = n + 1) (hl : ps.length ≤ 100000) (hh : Heap ps ps.length 0) :
    Calls Try.prog 76 #[hv h] w fun e w' => e = .returned (.iface 128 (.agg #[.int .i64 (G ps 0).1, .int .i64 (G ps 0).2])) ∧
      ∃ v' qs, Hp w' h v' qs ∧ Heap qs qs.length 0 ∧ ps.Perm (G ps 0 :: qs) ∧ v'.ownBlock = v.ownBlock ∧ Tch (fun k => k = h ∨ v.ownBlock = some k) w w' := by
  have HH : Hid (Hp w h v ps) := H
  have HP0 : Hid (Heap ps ps.length 0) := hh
  obtain ⟨X, HX⟩ : ∃ X, Hid (G ps 0 = X) := ⟨_, rfl⟩
  rw [HX.out]
  obtain ⟨a, cap, hv⟩ := H.len
  have m0 := meth_len ⟨h, 0, none⟩ v w H.c0
  have m1 := meth_swap ⟨h, 0, none⟩ v w H.c0
  rw [hn] at hv
  subst hv
  clear H hh
  go_enter Try.func76, Try.ntmps76
  go_wp2_with fail
  refine (tLen_any a (n + 1) cap w).mono ?_
  rintro e w1 ⟨rfl, rfl⟩
  go_wp2_with fail
  refine (tSwap_at h _ ps 0 n _ _ w1 HH.out (by omega) (by omega) (by omega) (by omega)).mono ?_
  rintro e w2 ⟨rfl, hp2, ht2⟩
  have HP2 : Hid (Hp w2 h (.slice a (n + 1) cap) (swp ps 0 n)) := hp2
  have HT2 : Hid (Tch (fun k => (Value.slice a (n + 1) cap).ownBlock = some k) w1 w2) := ht2
  have HF : Hid (Heap (swp ps 0 n) n (0 + 1)) := by
    intro x c h1 h2 h3
    have h2' := h2
    unfold Ch at h2'
    rw [swp_getD ps (by omega) (by omega) x, swp_getD ps (by omega) (by omega) c, if_neg (by omega), if_neg (by omega), if_neg (by omega), if_neg (by omega)]
    exact HP0.out x c (Nat.zero_le _) h2 (by omega)
  have hsl : (swp ps 0 n).length = n + 1 := by rw [swp_length, hn]
  have HSL : Hid ((swp ps 0 n).length = n + 1) := hsl
  clear hp2 ht2 m0 m1 hsl
  go_wp2_with fail
  refine (down_any h _ (swp ps 0 n) 0 n w2 HP2.out (by rw [HSL.out]; omega) (by rw [HSL.out]; omega) (Nat.zero_le _) HF.out).mono ?_
  rintro e w3 ⟨⟨u, rfl⟩, qs, hp3, hperm, hrest, hheap, ht3⟩
  have hpp := pop_perm hn hperm hrest
  have hql : qs.length = n + 1 := by rw [hperm.length_eq, HSL.out]
  have HP3 : Hid (Hp w3 h (.slice a (n + 1) cap) qs) := hp3
  have HPP : Hid (G qs n = G ps 0 ∧ ps.Perm (G ps 0 :: qs.take n)) := hpp
  have HT3 : Hid (Tch (fun k => (Value.slice a (n + 1) cap).ownBlock = some k) w1 w3) := HT2.out.trans ht3 (fun _ _ e => e)
  have HH3 : Hid (Heap qs n 0) := hheap
  have HQL : Hid (qs.length = n + 1) := hql
  have m2 := meth_pop ⟨h, 0, none⟩ w3
  clear hp3 hperm hrest hheap ht3 hpp hql HP2 HT2
  go_wp2_with fail
  refine (tPop_any h _ qs n w3 HP3.out HQL.out).mono ?_
  rintro e w4 ⟨rfl, v', hp4, hv4, ht4⟩
  have hQ : G qs n = X := HPP.out.1.trans HX.out
  rw [hQ]
  clear hQ
  go_wp2_with fail
  go_ret
  refine ⟨rfl, v', qs.take n, hp4, ?_, by have := HPP.out.2; rw [HX.out] at this; exact this, hv4, (HT3.out.mono (fun _ _ e => .inr e)).trans ht4 (fun _ _ e => .inl e)⟩
  have e : (qs.take n).length = n := by rw [List.length_take, HQL.out]; omega
  rw [e]
  exact HH3.out.take

/-- One is added. -/
theorem hPush_any (h : Nat) (v : Value) (ps : List (Int × Int)) (p : Int × Int) (w : World) (H : Hp w h v ps) (hl : ps.length < 100000) (hh : Heap ps ps.length 0) :
    Calls Try.prog 77 #[hv h, .iface 128 (.agg #[.int .i64 p.1, .int .i64 p.2])] w fun e w' => e = .returned (.tuple #[]) ∧
      ∃ v' qs, Hp w' h v' qs ∧ Heap qs qs.length 0 ∧ qs.Perm (ps ++ [p]) ∧ (∀ k, v'.ownBlock = some k → v.ownBlock = some k ∨ w.heap.size ≤ k) ∧ Tch (fun k => k = h ∨ v.ownBlock = some k) w w' := by
  have HH : Hid (Hp w h v ps) := H
  have HP0 : Hid (Heap ps ps.length 0) := hh
  have m0 := meth_push ⟨h, 0, none⟩ w
  clear H hh
  go_enter Try.func77, Try.ntmps77
  go_wp2_with fail
  refine (tPush_any h v ps p w HH.out (by omega)).mono ?_
  rintro e w1 ⟨rfl, v1, hp1, hf1, ht1⟩
  have HP1 : Hid (Hp w1 h v1 (ps ++ [p])) := hp1
  have HF1 : Hid (∀ k, v1.ownBlock = some k → v.ownBlock = some k ∨ w.heap.size ≤ k) := hf1
  have HT1 : Hid (Tch (fun k => k = h ∨ v.ownBlock = some k) w w1) := ht1
  obtain ⟨a, cap, hv⟩ := hp1.len
  have hl1 : (ps ++ [p]).length = ps.length + 1 := by simp
  rw [hl1] at hv
  subst hv
  have m1 := meth_len ⟨h, 0, none⟩ _ w1 hp1.c0
  clear hp1 hf1 ht1 m0 hl1
  go_wp2_with fail
  refine (tLen_any a (ps.length + 1) cap w1).mono ?_
  rintro e w2 ⟨rfl, rfl⟩
  go_wp2_with fail
  refine (up_any h _ (ps ++ [p]) (ps.length + 1) ps.length _ HP1.out (by simp; omega) (Up.start HP0.out)).mono ?_
  rintro e w3 ⟨rfl, qs, hp3, hperm, hheap, ht3⟩
  go_wp2_with fail
  go_end0
  have e : qs.length = ps.length + 1 := by rw [hperm.length_eq]; simp
  refine ⟨rfl, _, qs, hp3, by rw [e]; exact hheap, hperm, HF1.out, HT1.out.trans ht3 (fun i hi e => ?_)⟩
  rcases HF1.out i e with e | e
  · exact .inr e
  · omega
end Go.Proofs.Ytcmnhgefeffcpaa
