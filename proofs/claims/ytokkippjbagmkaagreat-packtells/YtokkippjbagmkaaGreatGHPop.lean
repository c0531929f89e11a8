import Derived.Test.YtokkippjbagmkaaGreatGHMeth
import Derived.Deep.RegionLaw
import Derived.Deep.AppendLies
import Derived.Test.YtokkippjbagmkaaGreatGHeapP
set_option maxRecDepth 100000
/-
  The last of a row is taken off, one is laid behind it: the heap's own two calls.
-/
namespace Go.Proofs.YtokkippjbagmkaaGreat
open Go.RowKit Pl Hf
set_option linter.unusedVariables false
set_option maxRecDepth 100000

theorem pcells_take (ps : List (Int × Int)) (n : Nat) : (pcells ps).take (n * 2) = pcells (ps.take n) := by
  induction ps generalizing n with
  | nil => simp [pcells]
  | cons q r ih =>
    match n with
    | 0 => simp [pcells]
    | n + 1 =>
      have := ih n
      rw [show (n + 1) * 2 = n * 2 + 1 + 1 by omega]
      simpa [pcells] using this

theorem OwnsT.shrink {w : World} {g m cap : Nat} {ps : List (Int × Int)} (h : OwnsT w (.slice (some ⟨g, 0, none⟩) m cap) ps) (n : Nat) (hn : n ≤ ps.length) : OwnsT w (.slice (some ⟨g, 0, none⟩) n cap) (ps.take n) := by
  have h' : w.ownsRow 0 218 2 (.slice (some ⟨g, 0, none⟩) m cap) ps.length (pcells ps) := h
  have hl : (ps.take n).length = n := by rw [List.length_take]; omega
  unfold OwnsT
  rw [hl]
  refine ⟨by rw [pcells_length, hl], ?_⟩
  rcases h'.2 with ⟨e, _⟩ | ⟨g', cap', cur, e, hb, hg, hnc, hcm, hcs, htake⟩
  · cases e
  · simp only [Value.slice.injEq, Option.some.injEq, Addr.mk.injEq, and_true] at e
    obtain ⟨rfl, rfl, rfl⟩ := e
    refine .inr ⟨g, cap, cur, rfl, hb, hg, by omega, hcm, hcs, ?_⟩
    rw [← pcells_take, ← htake, List.take_take]
    congr 1
    omega

set_option maxHeartbeats 2000000 in
theorem tPop_any (h : Nat) (v : Value) (ps : List (Int × Int)) (n : Nat) (w : World) (H : Hp w h v ps) (hn : ps.length = n + 1) :
    Calls Tryz.prog 210 #[.pointer (some ⟨h, 0, none⟩)] w fun e w' => e = .returned (.iface 218 (.agg #[.int .i64 (G ps n).1, .int .i64 (G ps n).2])) ∧
      ∃ v', Hp w' h v' (ps.take n) ∧ v'.ownBlock = v.ownBlock ∧ Tch (fun k => k = h) w w' := by
  obtain ⟨g, cap, rfl, hg, hcap, hmax, hc, fz⟩ := H.own.shape (by omega)
  obtain ⟨x1, x2, hx, c0, c1⟩ := H.own.at2 n (by omega)
  have HH : Hid (Hp w h (.slice (some ⟨g, 0, none⟩) ps.length cap) ps) := H
  have ch := H.c0
  have fh := H.fz
  have hlt := H.lt
  have hne : g ≠ h := fun e => H.ne (by rw [e]; rfl)
  rw [hx]
  simp only
  rw [hn] at ch hcap ⊢
  unfold maxLen at hmax
  clear hc fz H hx
  go_enter Tryz.func210, Tryz.ntmps210
  go_wp2_with fail
  go_ret
  have T : Tch (fun k => k = h) w ((w.setCell ⟨h, 0, none⟩ (.slice (some ⟨g, 0, none⟩) n cap)).alloc (.cells #[.int .i64 x1, .int .i64 x2] 218)) := Tch.alloc (Tch.setCell (Tch.refl (fun k => k = h) w) (p := ⟨h, 0, none⟩) (fun _ => rfl) _) _
  refine ⟨rfl, _, ⟨?_, (HH.out.own.shrink n (by omega)).tch T (fun j hj e => ?_)⟩, rfl, T⟩
  · rw [Below.heap_alloc _ _ _ (by simpa [World.setCell] using hlt), heap_setCell_same w h 0 _ _ _ HH.out.blk]
    simp
  · simp only [Value.ownBlock, Option.some.injEq] at hj
    omega

set_option maxHeartbeats 2000000 in
theorem tPush_any (h : Nat) (v : Value) (ps : List (Int × Int)) (p : Int × Int) (w : World) (H : Hp w h v ps) (hl : ps.length ≤ 100000) :
    Calls Tryz.prog 211 #[.pointer (some ⟨h, 0, none⟩), .iface 218 (.agg #[.int .i64 p.1, .int .i64 p.2])] w fun e w' => e = .returned (.tuple #[]) ∧
      ∃ v', Hp w' h v' (ps ++ [p]) ∧ (∀ k, v'.ownBlock = some k → v.ownBlock = some k ∨ w.heap.size ≤ k) ∧ Tch (fun k => k = h ∨ v.ownBlock = some k) w w' := by
  have HH : Hid (Hp w h v ps) := H
  have ch := H.c0
  have fh := H.fz
  have hlt := H.lt
  clear H
  obtain ⟨i0, hi, hz0, hz1, hz2⟩ := info_parts infoT
  obtain ⟨p1, p2⟩ := p
  have ta : ∀ (w : World) (x y : Int), (Instr.typeAssert (.iface 218 (.agg #[.int .i64 x, .int .i64 y])) 20 218 false).run Tryz.prog w = .ok (.agg #[.int .i64 x, .int .i64 y]) w := fun _ _ _ => by kernel_rfl
  have HO : Hid (∀ o, (w.alloc o).ownsRow 0 218 2 v ps.length (pcells ps)) := fun o => World.ownsRow.alloc HH.out.own o
  have HN : Hid (∀ j u, [Value.int .i64 p1, .int .i64 p2][j]? = some u → (w.alloc (.cells #[.int .i64 p1, .int .i64 p2] 218)).cell? ((⟨w.heap.size, 0, none⟩ : Addr).add j) = some u) := World.news_of_block (cs := #[.int .i64 p1, .int .i64 p2]) (heap_alloc_new w _)
  have H1 : Hid (∀ u ∈ [Value.int .i64 p1, .int .i64 p2], u.oneCell' = true) := fun u hu => by simp at hu; rcases hu with rfl | rfl <;> rfl
  have HM : Hid (ps.length + 1 ≤ maxLen) := by show _ ≤ _; unfold maxLen; omega
  have HC : Hid (∀ w0 w1 : World, w0.grownBy w1 v.ownBlock → w0.heap = (w.alloc (.cells #[.int .i64 p1, .int .i64 p2] 218)).heap → w1.cell? ⟨h, 0, none⟩ = some v ∧ w1.frozen? ⟨h, 0, none⟩ = false) := fun w0 w1 hg he => by
    have hb := hg.block h (by rw [he]; simp; omega) (fun e => HH.out.ne e.symm)
    rw [he, Below.heap_alloc _ _ _ hlt] at hb
    exact ⟨(World.cell?_of_block (w := w) hb).trans ch, (World.frozen?_of_block (w := w) hb).trans fh⟩
  simp only
  go_enter Tryz.func211, Tryz.ntmps211
  go_wp2_with fail
  go_region_law (refine step_append_lies _ rfl (.tmp 7) (.tmp 10) 216 rfl 0 218 i0 _ 2 16 Tryz.underlying216 hi hz0 hz1 hz2 rfl (by decide) v ps.length (pcells ps) (by simp [Act.eval]) (by exact HO.out _) ⟨w.heap.size, 0, none⟩ 1 1 [.int .i64 p1, .int .i64 p2] (by simp [Act.eval]) rfl (by exact HN.out) (by exact H1.out) (by decide) (by exact HM.out) (by omega) (Nat.zero_le _) (w.heap.size + 1) (by simp) ?_; intro g cap w1 hown1 hgrow hor hlt1; obtain ⟨ch1, fh1⟩ := HC.out _ w1 hgrow rfl)
  all_goals
    go_end0
    have hb1 : w1.heap[h]? = some (.cells #[v] 216 (0, 0)) := by
      have hb := hgrow.block h (by simp; omega) (fun e => HH.out.ne e.symm)
      rw [hb]
      show (w.alloc _).heap[h]? = _
      rw [Below.heap_alloc _ _ _ hlt]
      exact HH.out.blk
    have ho1 : OwnsT w1 (.slice (some ⟨g, 0, none⟩) (ps.length + 1) cap) (ps ++ [(p1, p2)]) := by
      unfold OwnsT
      rw [pcells_append]
      simpa [pcells] using hown1
    have T : Tch (fun k => k = h ∨ v.ownBlock = some k) w (w1.setCell ⟨h, 0, none⟩ (.slice (some ⟨g, 0, none⟩) (ps.length + 1) cap)) :=
      Tch.setCell (Tch.grown (by first | exact Tch.drew ((Tch.refl _ w).alloc _) | exact (Tch.drew (Tch.refl _ w)).alloc _) hgrow (fun k _ e => .inr e)) (p := ⟨h, 0, none⟩) (fun _ => .inl rfl) _
    have hgh : g ≠ h := ho1.ne_blk hb1 (by decide) rfl
    refine ⟨rfl, _, ⟨?_, ho1.tch (S := fun k => k = h) (Tch.setCell (Tch.refl (fun k => k = h) w1) (p := ⟨h, 0, none⟩) (fun _ => rfl) _) (fun j hj e => ?_)⟩, fun k hk => ?_, T⟩
    · rw [heap_setCell_same w1 h 0 _ _ _ hb1]
      simp
    · simp only [Value.ownBlock, Option.some.injEq] at hj
      omega
    · simp only [Value.ownBlock, Option.some.injEq] at hk
      subst hk
      rcases hor with e | e
      · exact .inl e
      · exact .inr (by omega)

/-- The least is taken. -/
theorem hPop_any (h : Nat) (v : Value) (ps : List (Int × Int)) (n : Nat) (w : World) (H : Hp w h v ps) (hn : ps.length = n + 1) (hl : ps.length ≤ 100000) (hh : Heap ps ps.length 0) :
    Calls Tryz.prog 186 #[hv h] w fun e w' => e = .returned (.iface 218 (.agg #[.int .i64 (G ps 0).1, .int .i64 (G ps 0).2])) ∧
      ∃ v' qs, Hp w' h v' qs ∧ Heap qs qs.length 0 ∧ ps.Perm (G ps 0 :: qs) ∧ v'.ownBlock = v.ownBlock ∧ Tch (fun k => k = h ∨ v.ownBlock = some k) w w' := by
  have HH : Hid (Hp w h v ps) := H
  have HP0 : Hid (Heap ps ps.length 0) := hh
  obtain ⟨X, HX⟩ : ∃ X, Hid (G ps 0 = X) := ⟨_, rfl⟩
  rw [HX.out]
  obtain ⟨a, cap, hv⟩ := H.len
  have m0 := meth_len ⟨h, 0, none⟩ v w H.c0
  have m1 := meth_swap ⟨h, 0, none⟩ v w H.c0
  rw [hn] at hv
  subst hv
  clear H hh
  go_enter Tryz.func186, Tryz.ntmps186
  go_wp2_with fail
  refine (tLen_any a (n + 1) cap w).mono ?_
  rintro e w1 ⟨rfl, rfl⟩
  go_wp2_with fail
  refine (tSwap_at h _ ps 0 n _ _ w1 HH.out (by omega) (by omega) (by omega) (by omega)).mono ?_
  rintro e w2 ⟨rfl, hp2, ht2⟩
  have HP2 : Hid (Hp w2 h (.slice a (n + 1) cap) (swp ps 0 n)) := hp2
  have HT2 : Hid (Tch (fun k => (Value.slice a (n + 1) cap).ownBlock = some k) w1 w2) := ht2
  have HF : Hid (Heap (swp ps 0 n) n (0 + 1)) := by
    intro x c h1 h2 h3
    have h2' := h2
    unfold Ch at h2'
    rw [swp_getD ps (by omega) (by omega) x, swp_getD ps (by omega) (by omega) c, if_neg (by omega), if_neg (by omega), if_neg (by omega), if_neg (by omega)]
    exact HP0.out x c (Nat.zero_le _) h2 (by omega)
  have hsl : (swp ps 0 n).length = n + 1 := by rw [swp_length, hn]
  have HSL : Hid ((swp ps 0 n).length = n + 1) := hsl
  clear hp2 ht2 m0 m1 hsl
  go_wp2_with fail
  refine (down_any h _ (swp ps 0 n) 0 n w2 HP2.out (by rw [HSL.out]; omega) (by rw [HSL.out]; omega) (Nat.zero_le _) HF.out).mono ?_
  rintro e w3 ⟨⟨u, rfl⟩, qs, hp3, hperm, hrest, hheap, ht3⟩
  have hpp := pop_perm hn hperm hrest
  have hql : qs.length = n + 1 := by rw [hperm.length_eq, HSL.out]
  have HP3 : Hid (Hp w3 h (.slice a (n + 1) cap) qs) := hp3
  have HPP : Hid (G qs n = G ps 0 ∧ ps.Perm (G ps 0 :: qs.take n)) := hpp
  have HT3 : Hid (Tch (fun k => (Value.slice a (n + 1) cap).ownBlock = some k) w1 w3) := HT2.out.trans ht3 (fun _ _ e => e)
  have HH3 : Hid (Heap qs n 0) := hheap
  have HQL : Hid (qs.length = n + 1) := hql
  have m2 := meth_pop ⟨h, 0, none⟩ w3
  clear hp3 hperm hrest hheap ht3 hpp hql HP2 HT2
  go_wp2_with fail
  refine (tPop_any h _ qs n w3 HP3.out HQL.out).mono ?_
  rintro e w4 ⟨rfl, v', hp4, hv4, ht4⟩
  have hQ : G qs n = X := HPP.out.1.trans HX.out
  rw [hQ]
  clear hQ
  go_wp2_with fail
  go_ret
  refine ⟨rfl, v', qs.take n, hp4, ?_, by have := HPP.out.2; rw [HX.out] at this; exact this, hv4, (HT3.out.mono (fun _ _ e => .inr e)).trans ht4 (fun _ _ e => .inl e)⟩
  have e : (qs.take n).length = n := by rw [List.length_take, HQL.out]; omega
  rw [e]
  exact HH3.out.take

/-- One is added. -/
theorem hPush_any (h : Nat) (v : Value) (ps : List (Int × Int)) (p : Int × Int) (w : World) (H : Hp w h v ps) (hl : ps.length < 100000) (hh : Heap ps ps.length 0) :
    Calls Tryz.prog 187 #[hv h, .iface 218 (.agg #[.int .i64 p.1, .int .i64 p.2])] w fun e w' => e = .returned (.tuple #[]) ∧
      ∃ v' qs, Hp w' h v' qs ∧ Heap qs qs.length 0 ∧ qs.Perm (ps ++ [p]) ∧ (∀ k, v'.ownBlock = some k → v.ownBlock = some k ∨ w.heap.size ≤ k) ∧ Tch (fun k => k = h ∨ v.ownBlock = some k) w w' := by
  have HH : Hid (Hp w h v ps) := H
  have HP0 : Hid (Heap ps ps.length 0) := hh
  have m0 := meth_push ⟨h, 0, none⟩ w
  clear H hh
  go_enter Tryz.func187, Tryz.ntmps187
  go_wp2_with fail
  refine (tPush_any h v ps p w HH.out (by omega)).mono ?_
  rintro e w1 ⟨rfl, v1, hp1, hf1, ht1⟩
  have HP1 : Hid (Hp w1 h v1 (ps ++ [p])) := hp1
  have HF1 : Hid (∀ k, v1.ownBlock = some k → v.ownBlock = some k ∨ w.heap.size ≤ k) := hf1
  have HT1 : Hid (Tch (fun k => k = h ∨ v.ownBlock = some k) w w1) := ht1
  obtain ⟨a, cap, hv⟩ := hp1.len
  have hl1 : (ps ++ [p]).length = ps.length + 1 := by simp
  rw [hl1] at hv
  subst hv
  have m1 := meth_len ⟨h, 0, none⟩ _ w1 hp1.c0
  clear hp1 hf1 ht1 m0 hl1
  go_wp2_with fail
  refine (tLen_any a (ps.length + 1) cap w1).mono ?_
  rintro e w2 ⟨rfl, rfl⟩
  go_wp2_with fail
  refine (up_any h _ (ps ++ [p]) (ps.length + 1) ps.length _ HP1.out (by simp; omega) (Up.start HP0.out)).mono ?_
  rintro e w3 ⟨rfl, qs, hp3, hperm, hheap, ht3⟩
  go_wp2_with fail
  go_end0
  have e : qs.length = ps.length + 1 := by rw [hperm.length_eq]; simp
  refine ⟨rfl, _, qs, hp3, by rw [e]; exact hheap, hperm, HF1.out, HT1.out.trans ht3 (fun i hi e => ?_)⟩
  rcases HF1.out i e with e | e
  · exact .inr e
  · omega
end Go.Proofs.YtokkippjbagmkaaGreat

/-
  Things become a heap.
-/
namespace Go.Proofs.YtokkippjbagmkaaGreat
open Go.RowKit Pl Hf
set_option linter.unusedVariables false
set_option maxRecDepth 100000

set_option maxHeartbeats 1000000 in
theorem hInit_any (h : Nat) (v : Value) (ps : List (Int × Int)) (w : World) (H : Hp w h v ps) (hl : ps.length ≤ 100000) :
    Calls Tryz.prog 184 #[hv h] w fun e w' => e = .returned (.tuple #[]) ∧ ∃ qs, Hp w' h v qs ∧ Heap qs qs.length 0 ∧ qs.Perm ps ∧ Tch (fun k => v.ownBlock = some k) w w' := by
  have HH : Hid (Hp w h v ps) := H
  obtain ⟨a, cap, hve⟩ := H.len
  have m0 := meth_len ⟨h, 0, none⟩ v w H.c0
  clear H
  go_enter Tryz.func184, Tryz.ntmps184
  go_wp2_with fail
  refine (tLen_any a ps.length cap w).mono ?_
  rintro e w1 ⟨rfl, rfl⟩
  have hq : ((ps.length : Int)).tdiv 2 = ((ps.length / 2 : Nat) : Int) := (Int.ofNat_tdiv _ _).symm
  clear m0
  go_wp2_with fail
  go_loopw [3] (fun i wr => ∃ (k : Nat) (qs : List (Int × Int)), k ≤ ps.length ∧ i = .int .i64 ((k : Int) - 1) ∧ Hid (Hp wr h v qs) ∧ Hid (Heap qs ps.length k) ∧ Hid (qs.Perm ps) ∧ Hid (Tch (fun k => v.ownBlock = some k) w1 wr)) (fun i _ => (intOf i + 1).toNat)
  case atStart => exact ⟨ps.length / 2, ps, by omega, by first | rfl | go_num, HH, (fun x c h1 h2 h3 => by unfold Ch at h2; omega), List.Perm.refl _, Tch.refl _ _⟩
  case round =>
    obtain ⟨k, qs, hk, rfl, HP, HF, HQ, HT⟩ := hrel
    clear HH
    by_cases h0 : k = 0
    · subst h0
      have e1 : ((0 : Nat) : Int) - 1 = -1 := by omega
      rw [e1]
      go_wp2_with fail
      go_end0
      exact ⟨rfl, qs, HP.out, by rw [HQ.out.length_eq]; exact HF.out, HQ.out, HT.out⟩
    · obtain ⟨m, rfl⟩ : ∃ m, k = m + 1 := ⟨k - 1, by omega⟩
      have e1 : ((m + 1 : Nat) : Int) - 1 = (m : Int) := by omega
      rw [e1]
      go_wp2_with fail
      refine (down_any h v qs m ps.length wr HP.out (by rw [HQ.out.length_eq]; omega) (by rw [HQ.out.length_eq]; omega) (by omega) HF.out).mono ?_
      rintro e w2 ⟨⟨u, rfl⟩, q2, hp2, hperm, _, hheap, ht2⟩
      have HP2 : Hid (Hp w2 h v q2) := hp2
      have HF2 : Hid (Heap q2 ps.length m) := hheap
      have HQ2 : Hid (q2.Perm ps) := hperm.trans HQ.out
      have HT2 : Hid (Tch (fun k => v.ownBlock = some k) w1 w2) := HT.out.trans ht2 (fun _ _ e => e)
      clear hp2 hperm hheap ht2 HP HF HQ HT
      go_wp2_with fail
      go_roundw
      case rel => exact ⟨m, q2, by omega, by first | rfl | go_num, HP2, HF2, HQ2, HT2⟩
      case measure => simp [intOf]
end Go.Proofs.YtokkippjbagmkaaGreat

/-
  Numbered things: the two least become one, which is told as what each became part of; and how deep a leaf stands then.
-/
namespace Go.Proofs.YtokkippjbagmkaaGreat.Hf

structure NT where
  w : Nat
  num : Nat
  ls : List (Nat × Nat)

def insN (x : NT) : List NT → List NT
  | [] => [x]
  | y :: r => if y.w ≤ x.w then y :: insN x r else x :: y :: r

def fg (t : NT) : Nat × List (Nat × Nat) := (t.w, t.ls)
def key (t : NT) : Int × Int := ((t.w : Int), (t.num : Int))
def jn (a b : NT) (N : Nat) : NT := ⟨a.w + b.w, N, bump (a.ls ++ b.ls)⟩

theorem insN_fg (x : NT) (l : List NT) : (insN x l).map fg = insT (fg x) (l.map fg) := by
  induction l with
  | nil => rfl
  | cons y r ih =>
    simp only [insN, List.map_cons, insT]
    show _ = if y.w ≤ x.w then _ else _
    split <;> simp [ih]

theorem insN_perm (x : NT) (l : List NT) : (insN x l).Perm (x :: l) := by
  induction l with
  | nil => exact List.Perm.refl _
  | cons y r ih =>
    simp only [insN]
    split
    · exact (List.Perm.cons y ih).trans (List.Perm.swap x y r)
    · exact List.Perm.refl _

theorem mem_insN {x z : NT} {l : List NT} : z ∈ insN x l ↔ z = x ∨ z ∈ l := by
  rw [(insN_perm x l).mem_iff]; simp

def Lex (l : List NT) : Prop := l.Pairwise fun a b => ltP (key a) (key b)

theorem insN_lex {x : NT} {l : List NT} (h : Lex l) (hx : ∀ t ∈ l, t.num < x.num) : Lex (insN x l) := by
  induction l with
  | nil => simp [insN, Lex]
  | cons y r ih =>
    unfold Lex at h ih
    rw [List.pairwise_cons] at h
    simp only [insN]
    split
    · rename_i hle
      unfold Lex
      rw [List.pairwise_cons]
      refine ⟨fun z hz => ?_, ih h.2 (fun t ht => hx t (by simp [ht]))⟩
      rcases mem_insN.1 hz with rfl | hz
      · have := hx y (by simp)
        unfold ltP key
        simp only
        omega
      · exact h.1 z hz
    · rename_i hle
      unfold Lex
      rw [List.pairwise_cons, List.pairwise_cons]
      refine ⟨fun z hz => ?_, h.1, h.2⟩
      rcases List.mem_cons.1 hz with rfl | hz
      · unfold ltP key; simp only; omega
      · have := h.1 z hz
        unfold ltP key at this ⊢
        simp only at this ⊢
        omega

/-- A heap's first is the head of the same things in their order. -/
theorem heap_head {qs : List (Int × Int)} {t : NT} {r : List NT} (hq : qs.Perm ((t :: r).map key)) (hh : Heap qs qs.length 0) (hl : Lex (t :: r)) : G qs 0 = key t := by
  have hlen : qs.length = r.length + 1 := by rw [hq.length_eq]; simp
  have h1 : leP (G qs 0) (key t) := by
    have : key t ∈ qs := hq.mem_iff.2 (by simp)
    obtain ⟨k, hk, e⟩ := mem_G this
    rw [← e]
    exact hh.least k hk
  have h2 : leP (key t) (G qs 0) := by
    have : G qs 0 ∈ (t :: r).map key := hq.mem_iff.1 (G_mem (by omega))
    simp only [List.map_cons, List.mem_cons, List.mem_map] at this
    rcases this with e | ⟨z, hz, e⟩
    · rw [e]; exact leP_refl _
    · rw [← e]
      unfold Lex at hl
      rw [List.pairwise_cons] at hl
      exact leP_of_lt (hl.1 z hz)
  exact leP_antisymm h1 h2

/-- From i, d times to what it became part of, is k. -/
def Pth (P : Nat → Nat) (Q : Nat → Prop) (i : Nat) : Nat → Nat → Prop
  | 0, k => i = k
  | d + 1, k => ∃ j, Pth P Q i d j ∧ Q j ∧ P j = k

theorem Pth.mono {P P' : Nat → Nat} {Q Q' : Nat → Prop} {i : Nat} (h : ∀ j, Q j → Q' j ∧ P' j = P j) : ∀ {d k : Nat}, Pth P Q i d k → Pth P' Q' i d k
  | 0, _, e => e
  | _ + 1, _, ⟨j, h1, h2, h3⟩ => ⟨j, h1.mono h, (h j h2).1, (h j h2).2.trans h3⟩

theorem Pth.depth {P D : Nat → Nat} {Q : Nat → Prop} {i : Nat} (h : ∀ j, Q j → D j = D (P j) + 1) : ∀ {d k : Nat}, Pth P Q i d k → D i = D k + d
  | 0, _, e => by rw [show i = _ from e]; rfl
  | d + 1, k, ⟨j, h1, h2, h3⟩ => by
    have e1 := h1.depth h
    have e2 := h j h2
    rw [h3] at e2
    omega

abbrev pf (P : List Int) (j : Nat) : Nat := (P.getD j 0).toNat

/-- The state of joining: things L are left, N comes next, P tells what each became part of. -/
structure JS (P : List Int) (N n : Nat) (L : List NT) (T : List (Nat × Nat)) (S f : Nat) : Prop where
  lex : Lex L
  lt : ∀ t ∈ L, t.num < N
  tree : hgo f (L.map fg) = T
  fuel : L.length ≤ f + 1
  cnt : N + L.length = 2 * n
  pth : ∀ t ∈ L, ∀ p ∈ t.ls, Pth (pf P) (fun j => j < N ∧ ∀ t ∈ L, t.num ≠ j) p.1 p.2 t.num
  plen : P.length = 2 * n - 2
  ret : ∀ j, j < N → (∀ t ∈ L, t.num ≠ j) → j < pf P j ∧ pf P j < N
  nn : ∀ j, 0 ≤ P.getD j 0
  sum : (L.map (·.w)).sum = S
  nd : (L.map (·.num)).Nodup
  kid : ∀ j, n ≤ j → j < N → ∃ k, (k < N ∧ ∀ t ∈ L, t.num ≠ k) ∧ pf P k = j

theorem getD_set (P : List Int) (a : Nat) (x : Int) (j : Nat) : (P.set a x).getD j 0 = if j = a ∧ a < P.length then x else P.getD j 0 := by
  simp only [List.getD_eq_getElem?_getD, List.getElem?_set]
  by_cases h : a = j
  · subst h
    by_cases hl : a < P.length
    · simp [hl]
    · simp [hl]
  · rw [if_neg h, if_neg (fun e => h e.1.symm)]

theorem JS.step {P : List Int} {N n : Nat} {a b : NT} {r : List NT} {T : List (Nat × Nat)} {S f : Nat} (h : JS P N n (a :: b :: r) T S (f + 1)) (ha : a.num < P.length) (hb : b.num < P.length) :
    JS ((P.set a.num (N : Int)).set b.num (N : Int)) (N + 1) n (insN (jn a b N) r) T S f := by
  have hlex := h.lex
  unfold Lex at hlex
  rw [List.pairwise_cons, List.pairwise_cons] at hlex
  have hnd := h.nd
  simp only [List.map_cons, List.nodup_cons, List.mem_cons, not_or, List.mem_map, not_exists, not_and] at hnd
  have hal := h.lt a (by simp)
  have hbl := h.lt b (by simp)
  have hg : ∀ j, pf ((P.set a.num (N : Int)).set b.num (N : Int)) j = if j = a.num ∨ j = b.num then N else pf P j := by
    intro j
    unfold pf
    rw [getD_set, getD_set, List.length_set]
    by_cases e1 : j = b.num
    · rw [if_pos ⟨e1, hb⟩, if_pos (.inr e1)]; simp
    · rw [if_neg (fun e => e1 e.1)]
      by_cases e2 : j = a.num
      · rw [if_pos ⟨e2, ha⟩, if_pos (.inl e2)]; simp
      · rw [if_neg (fun e => e2 e.1), if_neg (by rintro (e | e); (· exact e2 e); (· exact e1 e))]
  have hP : ∀ j, (j < N ∧ ∀ t ∈ a :: b :: r, t.num ≠ j) → (j < N + 1 ∧ ∀ t ∈ insN (jn a b N) r, t.num ≠ j) ∧ pf ((P.set a.num (N : Int)).set b.num (N : Int)) j = pf P j := by
    rintro j ⟨h1, h2⟩
    refine ⟨⟨by omega, fun t ht => ?_⟩, ?_⟩
    · rcases mem_insN.1 ht with rfl | ht
      · show N ≠ j; omega
      · exact h2 t (by simp [ht])
    · rw [hg, if_neg]
      rintro (e | e)
      · exact h2 a (by simp) e.symm
      · exact h2 b (by simp) e.symm
  have hQ : ∀ x ∈ [a, b], (x.num < N + 1 ∧ ∀ t ∈ insN (jn a b N) r, t.num ≠ x.num) ∧ pf ((P.set a.num (N : Int)).set b.num (N : Int)) x.num = N := by
    intro x hx
    have hxN : x.num < N := by simp at hx; rcases hx with rfl | rfl <;> assumption
    refine ⟨⟨by omega, fun t ht => ?_⟩, ?_⟩
    · rcases mem_insN.1 ht with rfl | ht2
      · show N ≠ x.num; omega
      · simp at hx
        rcases hx with rfl | rfl
        · exact hnd.1.2 t ht2
        · exact hnd.2.1 t ht2
    · rw [hg, if_pos]
      simp at hx
      rcases hx with rfl | rfl
      · exact .inl rfl
      · exact .inr rfl
  refine ⟨insN_lex hlex.2.2 (fun t ht => h.lt t (by simp [ht])), fun t ht => ?_, ?_, ?_, ?_, ?_, by simp [h.plen], ?_, ?_, ?_, ?_, ?_⟩
  · rcases mem_insN.1 ht with rfl | ht
    · show N < N + 1; omega
    · have := h.lt t (by simp [ht]); omega
  · rw [insN_fg]
    have := h.tree
    simp only [List.map_cons, hgo] at this
    exact this
  · rw [(insN_perm _ _).length_eq]
    have := h.fuel
    simp at this ⊢
    omega
  · rw [(insN_perm _ _).length_eq]
    have := h.cnt
    simp at this ⊢
    omega
  · intro t ht p hp
    rcases mem_insN.1 ht with rfl | ht
    · simp only [jn, bump, List.mem_map, List.mem_append] at hp
      obtain ⟨q, hq, rfl⟩ := hp
      show ∃ j, _
      rcases hq with hq | hq
      · exact ⟨a.num, (h.pth a (by simp) q hq).mono hP, (hQ a (by simp)).1, (hQ a (by simp)).2⟩
      · exact ⟨b.num, (h.pth b (by simp) q hq).mono hP, (hQ b (by simp)).1, (hQ b (by simp)).2⟩
    · exact (h.pth t (by simp [ht]) p hp).mono hP
  · intro j hj hn
    rw [hg]
    by_cases e : j = a.num ∨ j = b.num
    · rw [if_pos e]
      rcases e with e | e <;> omega
    · rw [if_neg e]
      have hjN : j ≠ N := fun e2 => hn (jn a b N) (mem_insN.2 (.inl rfl)) e2.symm
      have := h.ret j (by omega) (fun t ht => by
        simp only [List.mem_cons] at ht
        rcases ht with rfl | rfl | ht
        · exact fun e2 => e (.inl e2.symm)
        · exact fun e2 => e (.inr e2.symm)
        · exact hn t (mem_insN.2 (.inr ht)))
      omega
  · intro j
    rw [getD_set, getD_set]
    split
    · omega
    · split
      · omega
      · exact h.nn j
  · rw [((insN_perm _ _).map _).sum_nat]
    have := h.sum
    simp [jn] at this ⊢
    omega
  · rw [((insN_perm _ _).map _).nodup_iff]
    simp only [List.map_cons, List.nodup_cons]
    refine ⟨fun hm => ?_, hnd.2.2⟩
    obtain ⟨t, ht, e⟩ := List.mem_map.1 hm
    have := h.lt t (by simp [ht])
    simp [jn] at e
    omega
  · intro j h1 h2
    by_cases e : j = N
    · subst e
      exact ⟨a.num, (hQ a (by simp)).1, (hQ a (by simp)).2⟩
    · obtain ⟨k, hk, e2⟩ := h.kid j h1 (by omega)
      exact ⟨k, (hP k hk).1, (hP k hk).2.trans e2⟩

/-- The things that come first: a leaf each. -/
def L0 (c : Nat → Nat) : Nat → List NT
  | 0 => []
  | k + 1 => insN ⟨c k, k, [(k, 0)]⟩ (L0 c k)

theorem L0_facts (c : Nat → Nat) (n : Nat) : Lex (L0 c n) ∧ (∀ t ∈ L0 c n, t.num < n ∧ t.ls = [(t.num, 0)]) ∧ (L0 c n).length = n ∧ ((L0 c n).map (·.num)).Perm (List.range n) ∧
    (L0 c n).map fg = (sortB c (List.range n)).map (leaf c) ∧ ((L0 c n).map key).Perm ((List.range n).map fun i => ((c i : Int), (i : Int))) ∧ ((L0 c n).map (·.w)).sum = ((List.range n).map c).sum := by
  induction n with
  | zero => simp [L0, Lex, sortB]
  | succ n ih =>
    obtain ⟨h1, h2, h3, h4, h5, h6, h7⟩ := ih
    refine ⟨insN_lex h1 (fun t ht => (h2 t ht).1), fun t ht => ?_, ?_, ?_, ?_, ?_, ?_⟩
    · rcases mem_insN.1 ht with rfl | ht
      · exact ⟨Nat.lt_succ_self _, rfl⟩
      · exact ⟨by have := (h2 t ht).1; omega, (h2 t ht).2⟩
    · show (insN _ _).length = _
      rw [(insN_perm _ _).length_eq]; simp [h3]
    · rw [List.range_succ]
      refine ((insN_perm _ _).map _).trans ?_
      simp only [List.map_cons]
      exact (List.Perm.cons n h4).trans (List.perm_append_comm (l₁ := [n]))
    · show (insN _ _).map fg = _
      rw [insN_fg, h5, List.range_succ]
      unfold sortB
      rw [List.foldl_append]
      simp only [List.foldl_cons, List.foldl_nil]
      rw [insB_leaf]
      rfl
    · rw [List.range_succ, List.map_append]
      refine ((insN_perm _ _).map _).trans ?_
      simp only [List.map_cons, List.map_nil]
      exact (List.Perm.cons _ h6).trans (List.perm_append_comm (l₁ := [_]))
    · show ((insN _ _).map _).sum = _
      rw [((insN_perm _ _).map _).sum_nat, List.range_succ, List.map_append]
      simp [h7]
      omega

theorem stand_all (c : Nat → Nat) (n : Nat) (h : ∀ i, i < n → 0 < c i) : stand c n = List.range n := by
  unfold stand
  rw [List.filter_eq_self]
  intro a ha
  simpa using h a (by simpa using ha)

theorem JS.start (c : Nat → Nat) (n : Nat) (hp : ∀ i, i < n → 0 < c i) : JS (List.replicate (2 * n - 2) 0) n n (L0 c n) (treeOf c n) ((List.range n).map c).sum n := by
  obtain ⟨h1, h2, h3, h4, h5, h6, h7⟩ := L0_facts c n
  refine ⟨h1, fun t ht => (h2 t ht).1, ?_, by omega, by omega, fun t ht p hp => ?_, by simp, fun j hj hn => ?_, fun j => ?_, h7, h4.nodup_iff.2 List.nodup_range, fun j h1 h2 => by omega⟩
  · unfold treeOf
    rw [stand_all c n hp, h5, List.length_range]
  · rw [(h2 t ht).2] at hp
    simp at hp
    subst hp
    rfl
  · exfalso
    have : j ∈ (L0 c n).map (·.num) := h4.mem_iff.2 (by simpa using hj)
    obtain ⟨t, ht, e⟩ := List.mem_map.1 this
    exact hn t ht e
  · simp only [List.getD_eq_getElem?_getD, List.getElem?_replicate]
    split <;> simp

/-- One is left: how deep each leaf stands. -/
theorem JS.done {P : List Int} {N n : Nat} {t : NT} {T : List (Nat × Nat)} {S f : Nat} (h : JS P N n [t] T S f) (hn : 1 ≤ n) :
    (∀ j, j < 2 * n - 2 → j < pf P j ∧ pf P j ≤ 2 * n - 2) ∧ ∀ D : Nat → Nat, D (2 * n - 2) = 0 → (∀ j, j < 2 * n - 2 → D j = D (pf P j) + 1) → (∀ p ∈ T, D p.1 = p.2) ∧ ∀ M, (∀ i, i < n → D i ≤ M) → ∀ j, j ≤ 2 * n - 2 → D j ≤ M := by
  have hc := h.cnt
  simp at hc
  have ht : t.num = 2 * n - 2 := by
    have h1 := h.lt t (by simp)
    by_cases e : t.num = 2 * n - 2
    · exact e
    · have := h.ret (2 * n - 2) (by omega) (fun u hu => by simp at hu; subst hu; exact e)
      omega
  have hT : T = t.ls := by
    have := h.tree
    simp only [List.map_cons, List.map_nil] at this
    cases f <;> simp only [hgo] at this <;> exact this.symm
  have hr : ∀ j, j < 2 * n - 2 → j < pf P j ∧ pf P j ≤ 2 * n - 2 := fun j hj => by
    have := h.ret j (by omega) (fun u hu => by simp at hu; subst hu; omega)
    omega
  refine ⟨hr, fun D h0 hD => ⟨fun p hp => ?_, fun M hM j => ?_⟩⟩
  · rw [hT] at hp
    have hpt := h.pth t (by simp) p hp
    have := hpt.depth (D := D) (fun j hj => hD j (by
      have h1 := hj.1
      have h2 := hj.2 t (by simp)
      omega))
    rw [ht, h0] at this
    omega
  · induction j using Nat.strongRecOn with
    | ind j ih =>
      intro hj
      by_cases hjn : j < n
      · exact hM j hjn
      · obtain ⟨k, ⟨hk1, hk2⟩, e⟩ := h.kid j (by omega) (by omega)
        have hk3 := hk2 t (by simp)
        have hkl : k < 2 * n - 2 := by omega
        have hkj := (hr k hkl).1
        have h1 := hD k hkl
        have h2 := ih k (by omega) (by omega)
        rw [e] at h1
        omega
end Go.Proofs.YtokkippjbagmkaaGreat.Hf
