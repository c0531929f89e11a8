import Derived.Test.YtobenjkacpipeaaGreatPHMeth
import Derived.Deep.RegionLaw
import Derived.Deep.AppendLies
import Derived.Test.YtobenjkacpipeaaGreatPHeapP
import Derived.OwnWalk
import Derived.Laws.OwnMore
set_option maxRecDepth 100000
set_option linter.unusedVariables false
set_option linter.unusedSimpArgs false
set_option maxHeartbeats 8000000
namespace Go.Proofs.YtobenjkacpipeaaGreat
open Go.RowKit Pl Hf
theorem zmv9 (ps : List (Int × Int)) (n : Nat) : (pcells ps).take (n * 2) = pcells (ps.take n) := by
 induction ps generalizing n with
 | nil => simp [pcells]
 | cons q r ih =>
  match n with
  | 0 => simp [pcells]
  | n + 1 =>
   have := ih n
   rw [show (n + 1) * 2 = n * 2 + 1 + 1 by omega]
   simpa [pcells] using this
theorem OwnsT.shrink {w : World} {g m cap : Nat} {ps : List (Int × Int)} (h : OwnsT w (.slice (some ⟨g, 0, none⟩) m cap) ps) (n : Nat) (hn : n <= ps.length) : OwnsT w (.slice (some ⟨g, 0, none⟩) n cap) (ps.take n) := by
 have h' : w.ownsRow 0 204 2 (.slice (some ⟨g, 0, none⟩) m cap) ps.length (pcells ps) := h
 have hl : (ps.take n).length = n := by rw [List.length_take]; omega
 unfold OwnsT
 rw [hl]
 refine ⟨by rw [zaq9, hl], ?_⟩
 rcases h'.2 with ⟨e, _⟩ | ⟨g', cap', cur, e, hb, hg, hnc, hcm, hcs, htake⟩
 ·cases e
 ·simp only [Value.slice.injEq, Option.some.injEq, Addr.mk.injEq, and_true] at e
  obtain ⟨rfl, rfl, rfl⟩ := e
  refine .inr ⟨g, cap, cur, rfl, hb, hg, by omega, hcm, hcs, ?_⟩
  rw [<- zmv9, <- htake, List.take_take]
  congr 1
  omega
theorem zyf9 (h : Nat) (v : Value) (ps : List (Int × Int)) (n : Nat) (w : World) (H : Hp w h v ps) (hn : ps.length = n + 1) :
  Calls Tryz.prog 187 #[.pointer (some ⟨h, 0, none⟩)] w fun e w' => e = .returned (.iface 204 (.agg #[.int .i64 (G ps n).1, .int .i64 (G ps n).2])) ∧
   ∃ v', Hp w' h v' (ps.take n) /\ v'.ownBlock = v.ownBlock /\ Tch (fun k => k = h) w w' := by
 obtain ⟨g, cap, rfl, hg, hcap, hmax, hc, fz⟩ := H.own.shape (by omega)
 obtain ⟨x1, x2, hx, c0, c1⟩ := H.own.at2 n (by omega)
 have HH : Hid (Hp w h (.slice (some ⟨g, 0, none⟩) ps.length cap) ps) := H
 have ch := H.c0
 have fh := H.fz
 have hlt := H.lt
 have hne : g ≠ h := fun e => H.ne (by rw [e]; rfl)
 rw [hx]
 simp only
 rw [hn] at ch hcap ⊢
 unfold maxLen at hmax
 clear hc fz H hx
 go_enter Tryz.func187, Tryz.ntmps187
 go_wp2_with fail
 go_ret
 have T : Tch (fun k => k = h) w ((w.setCell ⟨h, 0, none⟩ (.slice (some ⟨g, 0, none⟩) n cap)).alloc (.cells #[.int .i64 x1, .int .i64 x2] 204)) := Tch.alloc (Tch.setCell (Tch.refl (fun k => k = h) w) (p := ⟨h, 0, none⟩) (fun _ => rfl) _) _
 refine ⟨rfl, _, ⟨?_, (HH.out.own.shrink n (by omega)).tch T (fun j hj e => ?_)⟩, rfl, T⟩
 ·rw [Below.heap_alloc _ _ _ (by simpa [World.setCell] using hlt), heap_setCell_same w h 0 _ _ _ HH.out.blk]
  simp
 ·simp only [Value.ownBlock, Option.some.injEq] at hj
  omega
theorem zrw9 (h : Nat) (v : Value) (ps : List (Int × Int)) (p : Int × Int) (w : World) (H : Hp w h v ps) (hl : ps.length <= 100000) :
  Calls Tryz.prog 188 #[.pointer (some ⟨h, 0, none⟩), .iface 204 (.agg #[.int .i64 p.1, .int .i64 p.2])] w fun e w' => e = .returned (.tuple #[]) ∧
   ∃ v', Hp w' h v' (ps ++ [p]) /\ (∀ k, v'.ownBlock = some k -> v.ownBlock = some k ∨ w.heap.size <= k) /\ Tch (fun k => k = h ∨ v.ownBlock = some k) w w' := by
 have HH : Hid (Hp w h v ps) := H
 have ch := H.c0
 have fh := H.fz
 have hlt := H.lt
 clear H
 obtain ⟨i0, hi, hz0, hz1, hz2⟩ := info_parts infoT
 obtain ⟨p1, p2⟩ := p
 have ta : ∀ (w : World) (x y : Int), (Instr.typeAssert (.iface 204 (.agg #[.int .i64 x, .int .i64 y])) 20 204 false).run Tryz.prog w = .ok (.agg #[.int .i64 x, .int .i64 y]) w := fun _ _ _ => by kernel_rfl
 have HO : Hid (∀ o, (w.alloc o).ownsRow 0 204 2 v ps.length (pcells ps)) := fun o => World.ownsRow.alloc HH.out.own o
 have HN : Hid (∀ j u, [Value.int .i64 p1, .int .i64 p2][j]? = some u -> (w.alloc (.cells #[.int .i64 p1, .int .i64 p2] 204)).cell? ((⟨w.heap.size, 0, none⟩ : Addr).add j) = some u) := World.news_of_block (cs := #[.int .i64 p1, .int .i64 p2]) (heap_alloc_new w _)
 have H1 : Hid (∀ u ∈ [Value.int .i64 p1, .int .i64 p2], u.oneCell' = true) := fun u hu => by simp at hu; rcases hu with rfl | rfl <;> rfl
 have HM : Hid (ps.length + 1 <= maxLen) := by show _ <= _; unfold maxLen; omega
 have HC : Hid (∀ w0 w1 : World, w0.grownBy w1 v.ownBlock -> w0.heap = (w.alloc (.cells #[.int .i64 p1, .int .i64 p2] 204)).heap -> w1.cell? ⟨h, 0, none⟩ = some v /\ w1.frozen? ⟨h, 0, none⟩ = false) := fun w0 w1 hg he => by
  have hb := hg.block h (by rw [he]; simp; omega) (fun e => HH.out.ne e.symm)
  rw [he, Below.heap_alloc _ _ _ hlt] at hb
  exact ⟨(World.cell?_of_block (w := w) hb).trans ch, (World.frozen?_of_block (w := w) hb).trans fh⟩
 simp only
 go_enter Tryz.func188, Tryz.ntmps188
 go_wp2_with fail
 go_region_law (refine step_append_lies _ rfl (.tmp 7) (.tmp 10) 202 rfl 0 204 i0 _ 2 16 Tryz.underlying202 hi hz0 hz1 hz2 rfl (by decide) v ps.length (pcells ps) (by simp [Act.eval]) (by exact HO.out _) ⟨w.heap.size, 0, none⟩ 1 1 [.int .i64 p1, .int .i64 p2] (by simp [Act.eval]) rfl (by exact HN.out) (by exact H1.out) (by decide) (by exact HM.out) (by omega) (Nat.zero_le _) (w.heap.size + 1) (by simp) ?_; intro g cap w1 hown1 hgrow hor hlt1; obtain ⟨ch1, fh1⟩ := HC.out _ w1 hgrow rfl)
 all_goals
  go_end0
  have hb1 : w1.heap[h]? = some (.cells #[v] 202 (0, 0)) := by
   have hb := hgrow.block h (by simp; omega) (fun e => HH.out.ne e.symm)
   rw [hb]
   show (w.alloc _).heap[h]? = _
   rw [Below.heap_alloc _ _ _ hlt]
   exact HH.out.blk
  have ho1 : OwnsT w1 (.slice (some ⟨g, 0, none⟩) (ps.length + 1) cap) (ps ++ [(p1, p2)]) := by
   unfold OwnsT
   rw [zdw9]
   simpa [pcells] using hown1
  have T : Tch (fun k => k = h ∨ v.ownBlock = some k) w (w1.setCell ⟨h, 0, none⟩ (.slice (some ⟨g, 0, none⟩) (ps.length + 1) cap)) :=
   Tch.setCell (Tch.grown (by first | exact Tch.drew ((Tch.refl _ w).alloc _) | exact (Tch.drew (Tch.refl _ w)).alloc _) hgrow (fun k _ e => .inr e)) (p := ⟨h, 0, none⟩) (fun _ => .inl rfl) _
  have hgh : g ≠ h := ho1.ne_blk hb1 (by decide) rfl
  refine ⟨rfl, _, ⟨?_, ho1.tch (S := fun k => k = h) (Tch.setCell (Tch.refl (fun k => k = h) w1) (p := ⟨h, 0, none⟩) (fun _ => rfl) _) (fun j hj e => ?_)⟩, fun k hk => ?_, T⟩
  ·rw [heap_setCell_same w1 h 0 _ _ _ hb1]
   simp
  ·simp only [Value.ownBlock, Option.some.injEq] at hj
   omega
  ·simp only [Value.ownBlock, Option.some.injEq] at hk
   subst hk
   rcases hor with e | e
   ·exact .inl e
   ·exact .inr (by omega)
theorem zpa9 (h : Nat) (v : Value) (ps : List (Int × Int)) (n : Nat) (w : World) (H : Hp w h v ps) (hn : ps.length = n + 1) (hl : ps.length <= 100000) (hh : Heap ps ps.length 0) :
  Calls Tryz.prog 163 #[hv h] w fun e w' => e = .returned (.iface 204 (.agg #[.int .i64 (G ps 0).1, .int .i64 (G ps 0).2])) ∧
   ∃ v' qs, Hp w' h v' qs /\ Heap qs qs.length 0 /\ ps.Perm (G ps 0 :: qs) /\ v'.ownBlock = v.ownBlock /\ Tch (fun k => k = h ∨ v.ownBlock = some k) w w' := by
 have HH : Hid (Hp w h v ps) := H
 have HP0 : Hid (Heap ps ps.length 0) := hh
 obtain ⟨X, HX⟩ : ∃ X, Hid (G ps 0 = X) := ⟨_, rfl⟩
 rw [HX.out]
 obtain ⟨a, cap, hv⟩ := H.len
 have m0 := zkz9 ⟨h, 0, none⟩ v w H.c0
 have m1 := zda9 ⟨h, 0, none⟩ v w H.c0
 rw [hn] at hv
 subst hv
 clear H hh
 go_enter Tryz.func163, Tryz.ntmps163
 go_wp2_with fail
 refine (zff9 a (n + 1) cap w).mono ?_
 rintro e w1 ⟨rfl, rfl⟩
 go_wp2_with fail
 refine (zfm9 h _ ps 0 n _ _ w1 HH.out (by omega) (by omega) (by omega) (by omega)).mono ?_
 rintro e w2 ⟨rfl, hp2, ht2⟩
 have HP2 : Hid (Hp w2 h (.slice a (n + 1) cap) (swp ps 0 n)) := hp2
 have HT2 : Hid (Tch (fun k => (Value.slice a (n + 1) cap).ownBlock = some k) w1 w2) := ht2
 have HF : Hid (Heap (swp ps 0 n) n (0 + 1)) := by
  intro x c h1 h2 h3
  have h2' := h2
  unfold Ch at h2'
  rw [zep9 ps (by omega) (by omega) x, zep9 ps (by omega) (by omega) c, if_neg (by omega), if_neg (by omega), if_neg (by omega), if_neg (by omega)]
  exact HP0.out x c (Nat.zero_le _) h2 (by omega)
 have hsl : (swp ps 0 n).length = n + 1 := by rw [zdf9, hn]
 have HSL : Hid ((swp ps 0 n).length = n + 1) := hsl
 clear hp2 ht2 m0 m1 hsl
 go_wp2_with fail
 refine (zof9 h _ (swp ps 0 n) 0 n w2 HP2.out (by rw [HSL.out]; omega) (by rw [HSL.out]; omega) (Nat.zero_le _) HF.out).mono ?_
 rintro e w3 ⟨⟨u, rfl⟩, qs, hp3, hperm, hrest, hheap, ht3⟩
 have hpp := zwd9 hn hperm hrest
 have hql : qs.length = n + 1 := by rw [hperm.length_eq, HSL.out]
 have HP3 : Hid (Hp w3 h (.slice a (n + 1) cap) qs) := hp3
 have HPP : Hid (G qs n = G ps 0 /\ ps.Perm (G ps 0 :: qs.take n)) := hpp
 have HT3 : Hid (Tch (fun k => (Value.slice a (n + 1) cap).ownBlock = some k) w1 w3) := HT2.out.trans ht3 (fun _ _ e => e)
 have HH3 : Hid (Heap qs n 0) := hheap
 have HQL : Hid (qs.length = n + 1) := hql
 have m2 := zyi9 ⟨h, 0, none⟩ w3
 clear hp3 hperm hrest hheap ht3 hpp hql HP2 HT2
 go_wp2_with fail
 refine (zyf9 h _ qs n w3 HP3.out HQL.out).mono ?_
 rintro e w4 ⟨rfl, v', hp4, hv4, ht4⟩
 have hQ : G qs n = X := HPP.out.1.trans HX.out
 rw [hQ]
 clear hQ
 go_wp2_with fail
 go_ret
 refine ⟨rfl, v', qs.take n, hp4, ?_, by have := HPP.out.2; rw [HX.out] at this; exact this, hv4, (HT3.out.mono (fun _ _ e => .inr e)).trans ht4 (fun _ _ e => .inl e)⟩
 have e : (qs.take n).length = n := by rw [List.length_take, HQL.out]; omega
 rw [e]
 exact HH3.out.take
theorem zsh9 (h : Nat) (v : Value) (ps : List (Int × Int)) (p : Int × Int) (w : World) (H : Hp w h v ps) (hl : ps.length < 100000) (hh : Heap ps ps.length 0) :
  Calls Tryz.prog 164 #[hv h, .iface 204 (.agg #[.int .i64 p.1, .int .i64 p.2])] w fun e w' => e = .returned (.tuple #[]) ∧
   ∃ v' qs, Hp w' h v' qs /\ Heap qs qs.length 0 /\ qs.Perm (ps ++ [p]) /\ (∀ k, v'.ownBlock = some k -> v.ownBlock = some k ∨ w.heap.size <= k) /\ Tch (fun k => k = h ∨ v.ownBlock = some k) w w' := by
 have HH : Hid (Hp w h v ps) := H
 have HP0 : Hid (Heap ps ps.length 0) := hh
 have m0 := zsl9 ⟨h, 0, none⟩ w
 clear H hh
 go_enter Tryz.func164, Tryz.ntmps164
 go_wp2_with fail
 refine (zrw9 h v ps p w HH.out (by omega)).mono ?_
 rintro e w1 ⟨rfl, v1, hp1, hf1, ht1⟩
 have HP1 : Hid (Hp w1 h v1 (ps ++ [p])) := hp1
 have HF1 : Hid (∀ k, v1.ownBlock = some k -> v.ownBlock = some k ∨ w.heap.size <= k) := hf1
 have HT1 : Hid (Tch (fun k => k = h ∨ v.ownBlock = some k) w w1) := ht1
 obtain ⟨a, cap, hv⟩ := hp1.len
 have hl1 : (ps ++ [p]).length = ps.length + 1 := by simp
 rw [hl1] at hv
 subst hv
 have m1 := zkz9 ⟨h, 0, none⟩ _ w1 hp1.c0
 clear hp1 hf1 ht1 m0 hl1
 go_wp2_with fail
 refine (zff9 a (ps.length + 1) cap w1).mono ?_
 rintro e w2 ⟨rfl, rfl⟩
 go_wp2_with fail
 refine (up_any h _ (ps ++ [p]) (ps.length + 1) ps.length _ HP1.out (by simp; omega) (Up.start HP0.out)).mono ?_
 rintro e w3 ⟨rfl, qs, hp3, hperm, hheap, ht3⟩
 go_wp2_with fail
 go_end0
 have e : qs.length = ps.length + 1 := by rw [hperm.length_eq]; simp
 refine ⟨rfl, _, qs, hp3, by rw [e]; exact hheap, hperm, HF1.out, HT1.out.trans ht3 (fun i hi e => ?_)⟩
 rcases HF1.out i e with e | e
 ·exact .inr e
 ·omega
theorem zro9 (h : Nat) (v : Value) (ps : List (Int × Int)) (w : World) (H : Hp w h v ps) (hl : ps.length <= 100000) :
  Calls Tryz.prog 161 #[hv h] w fun e w' => e = .returned (.tuple #[]) /\ ∃ qs, Hp w' h v qs /\ Heap qs qs.length 0 /\ qs.Perm ps /\ Tch (fun k => v.ownBlock = some k) w w' := by
 have HH : Hid (Hp w h v ps) := H
 obtain ⟨a, cap, hve⟩ := H.len
 have m0 := zkz9 ⟨h, 0, none⟩ v w H.c0
 clear H
 go_enter Tryz.func161, Tryz.ntmps161
 go_wp2_with fail
 refine (zff9 a ps.length cap w).mono ?_
 rintro e w1 ⟨rfl, rfl⟩
 have hq : ((ps.length : Int)).tdiv 2 = ((ps.length / 2 : Nat) : Int) := (Int.ofNat_tdiv _ _).symm
 clear m0
 go_wp2_with fail
 go_loopw [3] (fun i wr => ∃ (k : Nat) (qs : List (Int × Int)), k <= ps.length /\ i = .int .i64 ((k : Int) - 1) /\ Hid (Hp wr h v qs) /\ Hid (Heap qs ps.length k) /\ Hid (qs.Perm ps) /\ Hid (Tch (fun k => v.ownBlock = some k) w1 wr)) (fun i _ => (intOf i + 1).toNat)
 case atStart => exact ⟨ps.length / 2, ps, by omega, by first | rfl | go_num, HH, (fun x c h1 h2 h3 => by unfold Ch at h2; omega), List.Perm.refl _, Tch.refl _ _⟩
 case round =>
  obtain ⟨k, qs, hk, rfl, HP, HF, HQ, HT⟩ := hrel
  clear HH
  by_cases h0 : k = 0
  ·subst h0
   have e1 : ((0 : Nat) : Int) - 1 = -1 := by omega
   rw [e1]
   go_wp2_with fail
   go_end0
   exact ⟨rfl, qs, HP.out, by rw [HQ.out.length_eq]; exact HF.out, HQ.out, HT.out⟩
  ·obtain ⟨m, rfl⟩ : ∃ m, k = m + 1 := ⟨k - 1, by omega⟩
   have e1 : ((m + 1 : Nat) : Int) - 1 = (m : Int) := by omega
   rw [e1]
   go_wp2_with fail
   refine (zof9 h v qs m ps.length wr HP.out (by rw [HQ.out.length_eq]; omega) (by rw [HQ.out.length_eq]; omega) (by omega) HF.out).mono ?_
   rintro e w2 ⟨⟨u, rfl⟩, q2, hp2, hperm, _, hheap, ht2⟩
   have HP2 : Hid (Hp w2 h v q2) := hp2
   have HF2 : Hid (Heap q2 ps.length m) := hheap
   have HQ2 : Hid (q2.Perm ps) := hperm.trans HQ.out
   have HT2 : Hid (Tch (fun k => v.ownBlock = some k) w1 w2) := HT.out.trans ht2 (fun _ _ e => e)
   clear hp2 hperm hheap ht2 HP HF HQ HT
   go_wp2_with fail
   go_roundw
   case rel => exact ⟨m, q2, by omega, by first | rfl | go_num, HP2, HF2, HQ2, HT2⟩
   case measure => simp [intOf]
end Go.Proofs.YtobenjkacpipeaaGreat
namespace Go.Proofs.YtobenjkacpipeaaGreat.Hf
structure NT where
 w : Nat
 num : Nat
 ls : List (Nat × Nat)
def insN (x : NT) : List NT -> List NT
 | [] => [x]
 | y :: r => if y.w <= x.w then y :: insN x r else x :: y :: r
def fg (t : NT) : Nat × List (Nat × Nat) := (t.w, t.ls)
def key (t : NT) : Int × Int := ((t.w : Int), (t.num : Int))
def jn (a b : NT) (N : Nat) : NT := ⟨a.w + b.w, N, bump (a.ls ++ b.ls)⟩
theorem zug9 (x : NT) (l : List NT) : (insN x l).map fg = insT (fg x) (l.map fg) := by
 induction l with
 | nil => rfl
 | cons y r ih =>
  simp only [insN, List.map_cons, insT]
  show _ = if y.w <= x.w then _ else _
  split <;> simp [ih]
theorem zx9 (x : NT) (l : List NT) : (insN x l).Perm (x :: l) := by
 induction l with
 | nil => exact List.Perm.refl _
 | cons y r ih =>
  simp only [insN]
  split
  ·exact (List.Perm.cons y ih).trans (List.Perm.swap x y r)
  ·exact List.Perm.refl _
theorem zbg9 {x z : NT} {l : List NT} : z ∈ insN x l ↔ z = x ∨ z ∈ l := by
 rw [(zx9 x l).mem_iff]; simp
def Lex (l : List NT) : Prop := l.Pairwise fun a b => ltP (key a) (key b)
theorem zok9 {x : NT} {l : List NT} (h : Lex l) (hx : ∀ t ∈ l, t.num < x.num) : Lex (insN x l) := by
 induction l with
 | nil => simp [insN, Lex]
 | cons y r ih =>
  unfold Lex at h ih
  rw [List.pairwise_cons] at h
  simp only [insN]
  split
  ·rename_i hle
   unfold Lex
   rw [List.pairwise_cons]
   refine ⟨fun z hz => ?_, ih h.2 (fun t ht => hx t (by simp [ht]))⟩
   rcases zbg9.1 hz with rfl | hz
   ·have := hx y (by simp)
    unfold ltP key
    simp only
    omega
   ·exact h.1 z hz
  ·rename_i hle
   unfold Lex
   rw [List.pairwise_cons, List.pairwise_cons]
   refine ⟨fun z hz => ?_, h.1, h.2⟩
   rcases List.mem_cons.1 hz with rfl | hz
   ·unfold ltP key; simp only; omega
   ·have := h.1 z hz
    unfold ltP key at this ⊢
    simp only at this ⊢
    omega
theorem zma9 {qs : List (Int × Int)} {t : NT} {r : List NT} (hq : qs.Perm ((t :: r).map key)) (hh : Heap qs qs.length 0) (hl : Lex (t :: r)) : G qs 0 = key t := by
 have hlen : qs.length = r.length + 1 := by rw [hq.length_eq]; simp
 have h1 : leP (G qs 0) (key t) := by
  have : key t ∈ qs := hq.mem_iff.2 (by simp)
  obtain ⟨k, hk, e⟩ := mem_G this
  rw [<- e]
  exact hh.least k hk
 have h2 : leP (key t) (G qs 0) := by
  have : G qs 0 ∈ (t :: r).map key := hq.mem_iff.1 (G_mem (by omega))
  simp only [List.map_cons, List.mem_cons, List.mem_map] at this
  rcases this with e | ⟨z, hz, e⟩
  ·rw [e]; exact zcp9 _
  ·rw [<- e]
   unfold Lex at hl
   rw [List.pairwise_cons] at hl
   exact zce9 (hl.1 z hz)
 exact zka9 h1 h2
def Pth (P : Nat -> Nat) (Q : Nat -> Prop) (i : Nat) : Nat -> Nat -> Prop
 | 0, k => i = k
 | d + 1, k => ∃ j, Pth P Q i d j /\ Q j /\ P j = k
theorem Pth.mono {P P' : Nat -> Nat} {Q Q' : Nat -> Prop} {i : Nat} (h : ∀ j, Q j -> Q' j /\ P' j = P j) : ∀ {d k : Nat}, Pth P Q i d k -> Pth P' Q' i d k
 | 0, _, e => e
 | _ + 1, _, ⟨j, h1, h2, h3⟩ => ⟨j, h1.mono h, (h j h2).1, (h j h2).2.trans h3⟩
theorem Pth.depth {P D : Nat -> Nat} {Q : Nat -> Prop} {i : Nat} (h : ∀ j, Q j -> D j = D (P j) + 1) : ∀ {d k : Nat}, Pth P Q i d k -> D i = D k + d
 | 0, _, e => by rw [show i = _ from e]; rfl
 | d + 1, k, ⟨j, h1, h2, h3⟩ => by
  have e1 := h1.depth h
  have e2 := h j h2
  rw [h3] at e2
  omega
abbrev pf (P : List Int) (j : Nat) : Nat := (P.getD j 0).toNat
structure JS (P : List Int) (N n : Nat) (L : List NT) (T : List (Nat × Nat)) (S f : Nat) : Prop where
 lex : Lex L
 lt : ∀ t ∈ L, t.num < N
 tree : hgo f (L.map fg) = T
 fuel : L.length <= f + 1
 cnt : N + L.length = 2 * n
 pth : ∀ t ∈ L, ∀ p ∈ t.ls, Pth (pf P) (fun j => j < N /\ ∀ t ∈ L, t.num ≠ j) p.1 p.2 t.num
 plen : P.length = 2 * n - 2
 ret : ∀ j, j < N -> (∀ t ∈ L, t.num ≠ j) -> j < pf P j /\ pf P j < N
 nn : ∀ j, 0 <= P.getD j 0
 sum : (L.map (·.w)).sum = S
 nd : (L.map (·.num)).Nodup
 kid : ∀ j, n <= j -> j < N -> ∃ k, (k < N /\ ∀ t ∈ L, t.num ≠ k) /\ pf P k = j
theorem zax9 (P : List Int) (a : Nat) (x : Int) (j : Nat) : (P.set a x).getD j 0 = if j = a /\ a < P.length then x else P.getD j 0 := by
 simp only [List.getD_eq_getElem?_getD, List.getElem?_set]
 by_cases h : a = j
 ·subst h
  by_cases hl : a < P.length
  ·simp [hl]
  ·simp [hl]
 ·rw [if_neg h, if_neg (fun e => h e.1.symm)]
theorem JS.step {P : List Int} {N n : Nat} {a b : NT} {r : List NT} {T : List (Nat × Nat)} {S f : Nat} (h : JS P N n (a :: b :: r) T S (f + 1)) (ha : a.num < P.length) (hb : b.num < P.length) :
  JS ((P.set a.num (N : Int)).set b.num (N : Int)) (N + 1) n (insN (jn a b N) r) T S f := by
 have hlex := h.lex
 unfold Lex at hlex
 rw [List.pairwise_cons, List.pairwise_cons] at hlex
 have hnd := h.nd
 simp only [List.map_cons, List.nodup_cons, List.mem_cons, not_or, List.mem_map, not_exists, not_and] at hnd
 have hal := h.lt a (by simp)
 have hbl := h.lt b (by simp)
 have hg : ∀ j, pf ((P.set a.num (N : Int)).set b.num (N : Int)) j = if j = a.num ∨ j = b.num then N else pf P j := by
  intro j
  unfold pf
  rw [zax9, zax9, List.length_set]
  by_cases e1 : j = b.num
  ·rw [if_pos ⟨e1, hb⟩, if_pos (.inr e1)]; simp
  ·rw [if_neg (fun e => e1 e.1)]
   by_cases e2 : j = a.num
   ·rw [if_pos ⟨e2, ha⟩, if_pos (.inl e2)]; simp
   ·rw [if_neg (fun e => e2 e.1), if_neg (by rintro (e | e); (· exact e2 e); (· exact e1 e))]
 have hP : ∀ j, (j < N /\ ∀ t ∈ a :: b :: r, t.num ≠ j) -> (j < N + 1 /\ ∀ t ∈ insN (jn a b N) r, t.num ≠ j) /\ pf ((P.set a.num (N : Int)).set b.num (N : Int)) j = pf P j := by
  rintro j ⟨h1, h2⟩
  refine ⟨⟨by omega, fun t ht => ?_⟩, ?_⟩
  ·rcases zbg9.1 ht with rfl | ht
   ·show N ≠ j; omega
   ·exact h2 t (by simp [ht])
  ·rw [hg, if_neg]
   rintro (e | e)
   ·exact h2 a (by simp) e.symm
   ·exact h2 b (by simp) e.symm
 have hQ : ∀ x ∈ [a, b], (x.num < N + 1 /\ ∀ t ∈ insN (jn a b N) r, t.num ≠ x.num) /\ pf ((P.set a.num (N : Int)).set b.num (N : Int)) x.num = N := by
  intro x hx
  have hxN : x.num < N := by simp at hx; rcases hx with rfl | rfl <;> assumption
  refine ⟨⟨by omega, fun t ht => ?_⟩, ?_⟩
  ·rcases zbg9.1 ht with rfl | ht2
   ·show N ≠ x.num; omega
   ·simp at hx
    rcases hx with rfl | rfl
    ·exact hnd.1.2 t ht2
    ·exact hnd.2.1 t ht2
  ·rw [hg, if_pos]
   simp at hx
   rcases hx with rfl | rfl
   ·exact .inl rfl
   ·exact .inr rfl
 refine ⟨zok9 hlex.2.2 (fun t ht => h.lt t (by simp [ht])), fun t ht => ?_, ?_, ?_, ?_, ?_, by simp [h.plen], ?_, ?_, ?_, ?_, ?_⟩
 ·rcases zbg9.1 ht with rfl | ht
  ·show N < N + 1; omega
  ·have := h.lt t (by simp [ht]); omega
 ·rw [zug9]
  have := h.tree
  simp only [List.map_cons, hgo] at this
  exact this
 ·rw [(zx9 _ _).length_eq]
  have := h.fuel
  simp at this ⊢
  omega
 ·rw [(zx9 _ _).length_eq]
  have := h.cnt
  simp at this ⊢
  omega
 ·intro t ht p hp
  rcases zbg9.1 ht with rfl | ht
  ·simp only [jn, bump, List.mem_map, List.mem_append] at hp
   obtain ⟨q, hq, rfl⟩ := hp
   show ∃ j, _
   rcases hq with hq | hq
   ·exact ⟨a.num, (h.pth a (by simp) q hq).mono hP, (hQ a (by simp)).1, (hQ a (by simp)).2⟩
   ·exact ⟨b.num, (h.pth b (by simp) q hq).mono hP, (hQ b (by simp)).1, (hQ b (by simp)).2⟩
  ·exact (h.pth t (by simp [ht]) p hp).mono hP
 ·intro j hj hn
  rw [hg]
  by_cases e : j = a.num ∨ j = b.num
  ·rw [if_pos e]
   rcases e with e | e <;> omega
  ·rw [if_neg e]
   have hjN : j ≠ N := fun e2 => hn (jn a b N) (zbg9.2 (.inl rfl)) e2.symm
   have := h.ret j (by omega) (fun t ht => by
    simp only [List.mem_cons] at ht
    rcases ht with rfl | rfl | ht
    ·exact fun e2 => e (.inl e2.symm)
    ·exact fun e2 => e (.inr e2.symm)
    ·exact hn t (zbg9.2 (.inr ht)))
   omega
 ·intro j
  rw [zax9, zax9]
  split
  ·omega
  ·split
   ·omega
   ·exact h.nn j
 ·rw [((zx9 _ _).map _).sum_nat]
  have := h.sum
  simp [jn] at this ⊢
  omega
 ·rw [((zx9 _ _).map _).nodup_iff]
  simp only [List.map_cons, List.nodup_cons]
  refine ⟨fun hm => ?_, hnd.2.2⟩
  obtain ⟨t, ht, e⟩ := List.mem_map.1 hm
  have := h.lt t (by simp [ht])
  simp [jn] at e
  omega
 ·intro j h1 h2
  by_cases e : j = N
  ·subst e
   exact ⟨a.num, (hQ a (by simp)).1, (hQ a (by simp)).2⟩
  ·obtain ⟨k, hk, e2⟩ := h.kid j h1 (by omega)
   exact ⟨k, (hP k hk).1, (hP k hk).2.trans e2⟩
def L0 (c : Nat -> Nat) : Nat -> List NT
 | 0 => []
 | k + 1 => insN ⟨c k, k, [(k, 0)]⟩ (L0 c k)
theorem zen9 (c : Nat -> Nat) (n : Nat) : Lex (L0 c n) /\ (∀ t ∈ L0 c n, t.num < n /\ t.ls = [(t.num, 0)]) /\ (L0 c n).length = n /\ ((L0 c n).map (·.num)).Perm (List.range n) ∧
  (L0 c n).map fg = (sortB c (List.range n)).map (leaf c) /\ ((L0 c n).map key).Perm ((List.range n).map fun i => ((c i : Int), (i : Int))) /\ ((L0 c n).map (·.w)).sum = ((List.range n).map c).sum := by
 induction n with
 | zero => simp [L0, Lex, sortB]
 | succ n ih =>
  obtain ⟨h1, h2, h3, h4, h5, h6, h7⟩ := ih
  refine ⟨zok9 h1 (fun t ht => (h2 t ht).1), fun t ht => ?_, ?_, ?_, ?_, ?_, ?_⟩
  ·rcases zbg9.1 ht with rfl | ht
   ·exact ⟨Nat.lt_succ_self _, rfl⟩
   ·exact ⟨by have := (h2 t ht).1; omega, (h2 t ht).2⟩
  ·show (insN _ _).length = _
   rw [(zx9 _ _).length_eq]; simp [h3]
  ·rw [List.range_succ]
   refine ((zx9 _ _).map _).trans ?_
   simp only [List.map_cons]
   exact (List.Perm.cons n h4).trans (List.perm_append_comm (l₁ := [n]))
  ·show (insN _ _).map fg = _
   rw [zug9, h5, List.range_succ]
   unfold sortB
   rw [List.foldl_append]
   simp only [List.foldl_cons, List.foldl_nil]
   rw [zse9]
   rfl
  ·rw [List.range_succ, List.map_append]
   refine ((zx9 _ _).map _).trans ?_
   simp only [List.map_cons, List.map_nil]
   exact (List.Perm.cons _ h6).trans (List.perm_append_comm (l₁ := [_]))
  ·show ((insN _ _).map _).sum = _
   rw [((zx9 _ _).map _).sum_nat, List.range_succ, List.map_append]
   simp [h7]
   omega
theorem zec9 (c : Nat -> Nat) (n : Nat) (h : ∀ i, i < n -> 0 < c i) : stand c n = List.range n := by
 unfold stand
 rw [List.filter_eq_self]
 intro a ha
 simpa using h a (by simpa using ha)
theorem JS.start (c : Nat -> Nat) (n : Nat) (hp : ∀ i, i < n -> 0 < c i) : JS (List.replicate (2 * n - 2) 0) n n (L0 c n) (treeOf c n) ((List.range n).map c).sum n := by
 obtain ⟨h1, h2, h3, h4, h5, h6, h7⟩ := zen9 c n
 refine ⟨h1, fun t ht => (h2 t ht).1, ?_, by omega, by omega, fun t ht p hp => ?_, by simp, fun j hj hn => ?_, fun j => ?_, h7, h4.nodup_iff.2 List.nodup_range, fun j h1 h2 => by omega⟩
 ·unfold treeOf
  rw [zec9 c n hp, h5, List.length_range]
 ·rw [(h2 t ht).2] at hp
  simp at hp
  subst hp
  rfl
 ·exfalso
  have : j ∈ (L0 c n).map (·.num) := h4.mem_iff.2 (by simpa using hj)
  obtain ⟨t, ht, e⟩ := List.mem_map.1 this
  exact hn t ht e
 ·simp only [List.getD_eq_getElem?_getD, List.getElem?_replicate]
  split <;> simp
theorem JS.done {P : List Int} {N n : Nat} {t : NT} {T : List (Nat × Nat)} {S f : Nat} (h : JS P N n [t] T S f) (hn : 1 <= n) :
  (∀ j, j < 2 * n - 2 -> j < pf P j /\ pf P j <= 2 * n - 2) /\ ∀ D : Nat -> Nat, D (2 * n - 2) = 0 -> (∀ j, j < 2 * n - 2 -> D j = D (pf P j) + 1) -> (∀ p ∈ T, D p.1 = p.2) /\ ∀ M, (∀ i, i < n -> D i <= M) -> ∀ j, j <= 2 * n - 2 -> D j <= M := by
 have hc := h.cnt
 simp at hc
 have ht : t.num = 2 * n - 2 := by
  have h1 := h.lt t (by simp)
  by_cases e : t.num = 2 * n - 2
  ·exact e
  ·have := h.ret (2 * n - 2) (by omega) (fun u hu => by simp at hu; subst hu; exact e)
   omega
 have hT : T = t.ls := by
  have := h.tree
  simp only [List.map_cons, List.map_nil] at this
  cases f <;> simp only [hgo] at this <;> exact this.symm
 have hr : ∀ j, j < 2 * n - 2 -> j < pf P j /\ pf P j <= 2 * n - 2 := fun j hj => by
  have := h.ret j (by omega) (fun u hu => by simp at hu; subst hu; omega)
  omega
 refine ⟨hr, fun D h0 hD => ⟨fun p hp => ?_, fun M hM j => ?_⟩⟩
 ·rw [hT] at hp
  have hpt := h.pth t (by simp) p hp
  have := hpt.depth (D := D) (fun j hj => hD j (by
   have h1 := hj.1
   have h2 := hj.2 t (by simp)
   omega))
  rw [ht, h0] at this
  omega
 ·induction j using Nat.strongRecOn with
  | ind j ih =>
   intro hj
   by_cases hjn : j < n
   ·exact hM j hjn
   ·obtain ⟨k, ⟨hk1, hk2⟩, e⟩ := h.kid j (by omega) (by omega)
    have hk3 := hk2 t (by simp)
    have hkl : k < 2 * n - 2 := by omega
    have hkj := (hr k hkl).1
    have h1 := hD k hkl
    have h2 := ih k (by omega) (by omega)
    rw [e] at h1
    omega
end Go.Proofs.YtobenjkacpipeaaGreat.Hf
namespace Go.Proofs.YtobenjkacpipeaaGreat
open Go.RowKit Pl Hf
def tk (ws : List Int) (k : Nat) : List (Int × Int) := (List.range k).map fun i => (ws.getD i 0, (i : Int))
theorem zaaw9 (ws : List Int) (k : Nat) : tk ws (k + 1) = tk ws k ++ [(ws.getD k 0, (k : Int))] := by
 unfold tk; rw [List.range_succ, List.map_append]; rfl
theorem zll9 (ws : List Int) (k : Nat) : (tk ws k).length = k := by simp [tk]
theorem ziv9 {l : List Nat} {x : Nat} (h : x ∈ l) : x <= l.sum := by
 induction l with
 | nil => simp at h
 | cons y r ih =>
  simp only [List.sum_cons]
  rcases List.mem_cons.1 h with e | e
  ·omega
  ·have := ih e; omega
structure Own0 (w0 w : World) (h : Nat) (v : Value) (ps : List (Int × Int)) : Prop where
 hp : Hp w h v ps
 bel : Below w0.heap.size w0 w
 hn : w0.heap.size <= h
 vn : ∀ k, v.ownBlock = some k -> w0.heap.size <= k
theorem Hp.push {w w1 : World} {h : Nat} {v v' : Value} {ps qs : List (Int × Int)} (H : Hp w h v ps) (ho : OwnsT w1 v' qs) (hg : Grew w w1 v v') :
  w1.cell? ⟨h, 0, none⟩ = some v /\ w1.frozen? ⟨h, 0, none⟩ = false /\ Hid (Hp (w1.setCell ⟨h, 0, none⟩ v') h v' qs /\ Tch (fun k => k = h ∨ v.ownBlock = some k) w (w1.setCell ⟨h, 0, none⟩ v')) := by
 have hb1 : w1.heap[h]? = some (.cells #[v] 202 (0, 0)) := by
  rw [hg.tch.block h H.lt (fun e => H.ne e)]
  exact H.blk
 refine ⟨by rw [cell_of_row w1 h 0 _ _ (0, 0) hb1]; rfl, frozen_of_row w1 h 0 _ _ hb1, ⟨?_, ho.tch (S := fun k => k = h) (Tch.setCell (Tch.refl (fun k => k = h) w1) (p := ⟨h, 0, none⟩) (fun _ => rfl) _) (fun j hj e => ho.ne_blk hb1 (by decide) hj e)⟩, ?_⟩
 ·rw [heap_setCell_same w1 h 0 _ _ _ hb1]
  simp
 ·exact Tch.setCell (hg.tch.mono (fun _ _ e => .inr e)) (p := ⟨h, 0, none⟩) (fun _ => .inl rfl) _
theorem Own0.step {w0 w w' : World} {h : Nat} {v v' : Value} {ps qs : List (Int × Int)} (H : Own0 w0 w h v ps) (hp : Hp w' h v' qs) (ht : Tch (fun k => k = h ∨ v.ownBlock = some k) w w') (hf : ∀ k, v'.ownBlock = some k -> v.ownBlock = some k ∨ w.heap.size <= k) : Own0 w0 w' h v' qs := by
 refine ⟨hp, H.bel.trans (ht.below H.bel.size (fun k e => by rcases e with e | e; (· rw [e]; exact H.hn); (· exact H.vn k e))), H.hn, fun k hk => ?_⟩
 rcases hf k hk with e | e
 ·exact H.vn k e
 ·have := H.bel.size; omega
theorem Own0.tch {S : Nat -> Prop} {w0 w w' : World} {h : Nat} {v : Value} {ps : List (Int × Int)} (H : Own0 w0 w h v ps) (ht : Tch S w w') (hS : ∀ k, S k -> w0.heap.size <= k) (hb : ¬ S h) (hr : ∀ k, v.ownBlock = some k -> ¬ S k) : Own0 w0 w' h v ps :=
 ⟨H.hp.tch ht hb hr, H.bel.trans (ht.below H.bel.size hS), H.hn, H.vn⟩
theorem Own0.below {w0 w w' : World} {h : Nat} {v : Value} {ps : List (Int × Int)} (H : Own0 w0 w h v ps) (hb : Below w.heap.size w w') : Own0 w0 w' h v ps :=
 H.tch (S := fun _ => False) (Tch.of_below hb) (fun _ e => e.elim) (fun e => e) (fun _ _ e => e)
theorem Hp.apart {w : World} {h : Nat} {v pv : Value} {ps : List (Int × Int)} {P : List Int} (H : Hp w h v ps) (O : Owns .i64 3 w pv P) : ∀ j, pv.ownBlock = some j -> ¬ (j = h ∨ v.ownBlock = some j) := by
 intro j hj
 obtain ⟨c1, h1⟩ := zag9 (show w.ownsRow 0 3 1 pv P.length (P.map (Value.int .i64)) from O) hj
 rintro (e | e)
 ·subst e
  rw [H.blk] at h1
  simp at h1
 ·obtain ⟨c2, h2⟩ := zag9 (show w.ownsRow 0 204 2 v ps.length (pcells ps) from H.own) e
  rw [h1] at h2
  simp at h2
theorem Owns.at1 {w : World} {g n cap : Nat} {xs : List Int} (h : Owns .i64 3 w (.slice (some ⟨g, 0, none⟩) n cap) xs) (i : Nat) (hi : i < xs.length) : w.cell? ⟨g, i, none⟩ = some (.int .i64 (xs.getD i 0)) /\ w.frozen? ⟨g, i, none⟩ = false /\ g < w.heap.size := by
 obtain ⟨g', cap', e, hlt, _, _, hc, hf⟩ := Owns.shape h (by omega)
 simp only [Value.slice.injEq, Option.some.injEq, Addr.mk.injEq, and_true] at e
 obtain ⟨rfl, _, _⟩ := e
 exact ⟨hc i hi, hf i, hlt⟩
theorem zvs9 (v : Value) (ws : List Int) (w : World) (hr : Rd .i64 w v ws) (h2 : 2 <= ws.length) (h3 : ws.length <= 256) (hpos : ∀ i, i < ws.length -> 0 < ws.getD i 0) (S : Nat) (hS : ((List.range ws.length).map fun i => (ws.getD i 0).toNat).sum = S) (hS2 : S <= 1000000000000000) :
  Calls Tryz.prog 157 #[v] w fun e w' => ∃ pv P t N f, e = .returned pv /\ Owns .i64 3 w' pv P /\ JS P N ws.length [t] (treeOf (fun i => (ws.getD i 0).toNat) ws.length) S f /\ Below w.heap.size w w' /\ ∀ k, pv.ownBlock = some k -> w.heap.size <= k := by
 have HR : Hid (Rd .i64 w v ws) := hr
 obtain ⟨i0, hi, hz0, hz1, hz2⟩ := info_parts infoT
 obtain ⟨a, cap, rfl, hlc, hcm, _, hcc⟩ := hr
 obtain ⟨b, o, rfl, hc⟩ : ∃ b o, a = some ⟨b, o, none⟩ /\ ∀ i, i < ws.length -> w.cell? ⟨b, o + i, none⟩ = some (.int .i64 (ws.getD i 0)) := by
  rcases hcc with rfl | h
  ·simp at h2
  ·exact h
 have HC : Hid (∀ i, i < ws.length -> w.cell? ⟨b, o + i, none⟩ = some (.int .i64 (ws.getD i 0))) := hc
 clear hcc hc
 have HPOS : Hid (∀ i, i < ws.length -> 0 < ws.getD i 0) := hpos
 have HS : Hid (((List.range ws.length).map fun i => (ws.getD i 0).toNat).sum = S) := hS
 clear hpos hS
 have HW : Hid (∀ i, i < ws.length -> ws.getD i 0 <= 1000000000000000) := fun i hi => by
  have : (ws.getD i 0).toNat <= ((List.range ws.length).map fun i => (ws.getD i 0).toNat).sum := ziv9 (List.mem_map.2 ⟨i, by simpa using hi, rfl⟩)
  rw [HS.out] at this
  omega
 go_enter Tryz.func157, Tryz.ntmps157
 go_wp2_with (at_make; refine wpList_make_own _ rfl (.const (.int .i64 0)) (.tmp 11) 202 rfl 0 204 i0 _ 2 Tryz.underlying202 hi hz0 hz1 .i64 .i64 _ ws.length rfl rfl rfl (by rw [hz2]; omega) (by unfold maxLen; omega) (Nat.zero_le _) ?_)
 intro w1 ho1 hg1
 have O1 : Hid (Own0 w (w1.alloc (.cells #[.slice (some ⟨w.heap.size, 0, none⟩) 0 ws.length] 202)) w1.heap.size (.slice (some ⟨w.heap.size, 0, none⟩) 0 ws.length) (tk ws 0)) := by
  have b1 : Below w.heap.size w w1 := (Below.refl _ _).grown hg1 (Nat.le_refl _) (fun k e => by cases e)
  refine ⟨⟨heap_alloc_new w1 _, OwnsT.below (show OwnsT w1 _ [] from ho1) ((Below.refl _ _).alloc (Nat.le_refl _) _)⟩, b1.alloc b1.size _, b1.size, fun k hk => ?_⟩
  simp only [Value.ownBlock, Option.some.injEq] at hk
  omega
 clear ho1 hg1
 obtain ⟨h, hh⟩ : ∃ h, w1.heap.size = h := ⟨_, rfl⟩
 rw [hh] at O1
 have HHH : Hid (w1.heap.size = h) := hh
 go_wp2_with fail
 clear hh
 go_loopw [15] (fun i wr => ∃ (k : Nat) (u : Value), k <= ws.length /\ i = .int .i64 k /\ Hid (Own0 w wr h u (tk ws k))) (fun i _ => ws.length - (intOf i).toNat)
 case atStart => exact ⟨0, _, Nat.zero_le _, rfl, O1⟩
 case round =>
  obtain ⟨k, u, hk, rfl, O2⟩ := hrel
  clear O1
  by_cases hlt : k < ws.length
  ·obtain ⟨x, hxe⟩ : ∃ x, Hid (ws.getD k 0 = x) := ⟨_, rfl⟩
   have cx : wr.cell? ⟨b, o + k, none⟩ = some (.int .i64 x) := by
    have h0 := HC.out k hlt
    rw [O2.out.bel.cell (p := ⟨b, o + k, none⟩) (World.block_lt_of_cell? w ⟨b, o + k, none⟩ h0), h0, hxe.out]
   have ch := O2.out.hp.c0
   have HTK : Hid ((tk ws k).length = k) := zll9 ws k
   go_wp2_with (at_builtin; refine zkk9 _ rfl (.tmp 20) (.tmp 24) rfl u (tk ws k) rfl O2.out.hp.own (x, (k : Int)) rfl (by rw [HTK.out]; omega) ?_)
   intro v' w2 ho2 hg2
   obtain ⟨a2, c2, hv2⟩ : ∃ a c, v' = .slice a (k + 1) c := by obtain ⟨a, c, e, _⟩ := ho2.rd; rw [List.length_append, HTK.out] at e; exact ⟨a, c, e⟩
   subst hv2
   obtain ⟨ch2, fh2, HP2⟩ := O2.out.hp.push ho2 hg2
   have O3 : Hid (Own0 w (w2.setCell ⟨h, 0, none⟩ (.slice a2 (k + 1) c2)) h (.slice a2 (k + 1) c2) (tk ws (k + 1))) := by
    show Own0 _ _ _ _ _
    rw [zaaw9, hxe.out]
    exact O2.out.step HP2.out.1 HP2.out.2 hg2.fresh
   clear ho2 hg2 HP2 O2 ch cx
   go_wp2_with fail
   go_roundw
   case rel => exact ⟨k + 1, _, by omega, by go_num, O3⟩
   case measure => simp [intOf]; omega
  ·obtain rfl : k = ws.length := by omega
   clear HC
   go_wp2_with fail
   refine (zro9 h u (tk ws ws.length) wr O2.out.hp (by rw [zll9]; omega)).mono ?_
   rintro e w3 ⟨rfl, qs, hp3, hh3, hq3, ht3⟩
   have O3 : Hid (Own0 w w3 h u qs) := O2.out.step hp3 (ht3.mono (fun _ _ e => .inr e)) (fun k hk => .inl hk)
   have HH3 : Hid (Heap qs qs.length 0) := hh3
   have HQ3 : Hid (qs.Perm ((L0 (fun i => (ws.getD i 0).toNat) ws.length).map key)) := by
    refine hq3.trans ?_
    obtain ⟨_, _, _, _, _, h6, _⟩ := zen9 (fun i => (ws.getD i 0).toNat) ws.length
    refine List.Perm.trans ?_ h6.symm
    unfold tk
    refine List.Perm.of_eq (List.map_congr_left (fun i hi => ?_))
    have := HPOS.out i (by simpa using hi)
    simp only [Prod.mk.injEq, and_true]
    omega
   have HJ : Hid (JS (List.replicate (2 * ws.length - 2) 0) ws.length ws.length (L0 (fun i => (ws.getD i 0).toNat) ws.length) (treeOf (fun i => (ws.getD i 0).toNat) ws.length) S ws.length) := by
    have := JS.start (fun i => (ws.getD i 0).toNat) ws.length (fun i hi => by have := HPOS.out i hi; omega)
    rw [HS.out] at this
    exact this
   obtain ⟨j0, hj, hy0, hy1, hy2⟩ := elem64.info
   have e2 : 2 * (ws.length : Int) - 2 = ((2 * ws.length - 2 : Nat) : Int) := by omega
   clear hp3 hh3 hq3 ht3 O2
   go_wp2_with (at_make; refine wpList_make_full _ rfl (.tmp 32) (.tmp 32) 56 rfl 0 3 j0 _ 1 Tryz.underlying56 hj hy0 hy1 .i64 .i64 _ _ (2 * ws.length - 2) rfl rfl rfl rfl (by rw [hy2]; omega) (by unfold maxLen; omega) (Nat.zero_le _) ?_)
   intro w4 ho4 hg4
   have b4 : Below w3.heap.size w3 w4 := (Below.refl _ _).grown hg4 (Nat.le_refl _) (fun k e => by cases e)
   have OP4 : Hid (Owns .i64 3 w4 (.slice (some ⟨w3.heap.size, 0, none⟩) (2 * ws.length - 2) (2 * ws.length - 2)) (List.replicate (2 * ws.length - 2) 0)) := by
    show w4.ownsRow _ _ _ _ _ _
    rw [toList_madeCells_one] at ho4
    simpa using ho4
   have O4 : Hid (Own0 w w4 h u qs) := ⟨O3.out.hp.below b4, O3.out.bel.trans (b4.mono O3.out.bel.size), O3.out.hn, O3.out.vn⟩
   have HGP : Hid (w.heap.size <= w3.heap.size) := O3.out.bel.size
   obtain ⟨gp, hgp⟩ : ∃ gp, Hid (w3.heap.size = gp) := ⟨_, rfl⟩
   rw [hgp.out] at OP4 HGP ⊢
   clear ho4 hg4 b4 O3 hj hy0 hy1 hy2 e2
   go_wp2_with fail
   go_loopw [7] (fun i wr => ∃ (N f : Nat) (L : List NT) (P : List Int) (u : Value) (qs : List (Int × Int)), i = .int .i64 N /\ N <= 512 /\ 1 <= L.length /\ N + L.length = 2 * ws.length /\ L.length <= f + 1 ∧
    Hid (Own0 w wr h u qs) /\ Hid (Heap qs qs.length 0) /\ Hid (qs.Perm (L.map key)) /\ Hid (JS P N ws.length L (treeOf (fun i => (ws.getD i 0).toNat) ws.length) S f) ∧
    Hid (Owns .i64 3 wr (.slice (some ⟨gp, 0, none⟩) (2 * ws.length - 2) (2 * ws.length - 2)) P)) (fun i _ => 1024 - (intOf i).toNat)
   case atStart =>
    obtain ⟨_, _, l3, _⟩ := zen9 (fun i => (ws.getD i 0).toNat) ws.length
    exact ⟨ws.length, ws.length, _, _, u, qs, rfl, by omega, by omega, by omega, by omega, O4, HH3, HQ3, HJ, OP4⟩
   case round =>
    obtain ⟨N, f, L, P, u', qs', rfl, hN, hL1, hNL, hf, O5, HH5, HQ5, J5, OP5⟩ := hrel
    clear O4 HH3 HQ3 HJ OP4
    have hql : qs'.length = L.length := by rw [HQ5.out.length_eq]; simp
    have HQL : Hid (qs'.length = L.length) := hql
    clear hql
    obtain ⟨la, lc, hu'⟩ := O5.out.hp.len
    rw [HQL.out] at hu'
    subst hu'
    have ch := O5.out.hp.c0
    by_cases hl : 1 < L.length
    ·match L, hL1, hNL, hf, HQ5, J5, HQL, hl, O5, ch with
     | [], hL1, _, _, _, _, _, _, _, _ => simp at hL1
     | [_], _, _, _, _, _, _, hl, _, _ => simp at hl
     | x :: y :: r, hL1, hNL, hf, HQ5, J5, HQL, hl, O5, ch =>
      have hpl := J5.out.plen
      have hx1 := J5.out.lt x (by simp)
      have hy1 := J5.out.lt y (by simp)
      have hnd := J5.out.nd
      have hsm := J5.out.sum
      have hhd := zma9 HQ5.out HH5.out J5.out.lex
      have hlex := J5.out.lex
      simp only [List.map_cons, List.nodup_cons, List.mem_cons, not_or] at hnd
      have hxy : x.num ≠ y.num := hnd.1.1
      simp only [List.map_cons, List.sum_cons] at hsm
      have hsxy : x.w + y.w <= 1000000000000000 := by omega
      simp only [List.length_cons] at hNL HQL
      have hxb : x.num < 2 * ws.length - 2 := by omega
      have hyb : y.num < 2 * ws.length - 2 := by omega
      have ta : ∀ (w : World) (x y : Int), (Instr.typeAssert (.iface 204 (.agg #[.int .i64 x, .int .i64 y])) 20 204 false).run Tryz.prog w = .ok (.agg #[.int .i64 x, .int .i64 y]) w := fun _ _ _ => by kernel_rfl
      have HPL : Hid (P.length = 2 * ws.length - 2) := hpl
      have HHD : Hid (G qs' 0 = key x) := hhd
      have HLX : Hid (Lex (x :: y :: r)) := hlex
      clear hpl hnd hsm hhd hlex
      go_wp2_with fail
      refine (zff9 la _ lc wr).mono ?_
      rintro e wr' ⟨rfl, rfl⟩
      go_wp2_with fail
      refine (zpa9 h _ qs' (r.length + 1) wr' O5.out.hp HQL.out (by rw [HQL.out]; omega) HH5.out).mono ?_
      rintro e w6 ⟨rfl, v6, q6, hp6, hh6, hq6, hv6, ht6⟩
      rw [HHD.out] at hq6 ⊢
      simp only [key]
      have HQ6 : Hid (q6.Perm ((y :: r).map key)) := ((List.Perm.cons_inv (HQ5.out.symm.trans hq6))).symm
      have HH6 : Hid (Heap q6 q6.length 0) := hh6
      have O6 : Hid (Own0 w w6 h v6 q6) := O5.out.step hp6 ht6 (fun k hk => .inl (hv6 ▸ hk))
      have OP6 : Hid (Owns .i64 3 w6 (.slice (some ⟨gp, 0, none⟩) (2 * ws.length - 2) (2 * ws.length - 2)) P) := OP5.out.tch ht6 (fun j hj e => O5.out.hp.apart OP5.out j hj e)
      have HL6 : Hid (q6.length = r.length + 1) := by show _ = _; rw [HQ6.out.length_eq]; simp
      clear hp6 hh6 hq6 hv6 ht6 ch O5 OP5 HH5 HQ5
      have b6 : Below w6.heap.size w6 (w6.alloc (.cells #[.int .i64 x.w, .int .i64 x.num] 204)) := (Below.refl _ _).alloc (Nat.le_refl _) _
      have O6a : Hid (Own0 w (w6.alloc (.cells #[.int .i64 x.w, .int .i64 x.num] 204)) h v6 q6) := O6.out.below b6
      have OP6a : Hid (Owns .i64 3 (w6.alloc (.cells #[.int .i64 x.w, .int .i64 x.num] 204)) (.slice (some ⟨gp, 0, none⟩) (2 * ws.length - 2) (2 * ws.length - 2)) P) := OP6.out.below b6
      have hgl6 : gp < w6.heap.size := OP6.out.lt gp rfl
      have hhl6 : h < w6.heap.size := O6.out.hp.lt
      have HVL6 : Hid (∀ k, v6.ownBlock = some k -> k < w6.heap.size) := fun k hk => (World.ownsRow.lt O6.out.hp.own k hk).2
      clear b6
      go_wp2_with fail
      refine (zpa9 h v6 q6 r.length _ O6a.out.hp HL6.out (by rw [HL6.out]; omega) HH6.out).mono ?_
      rintro e w7 ⟨rfl, v7, q7, hp7, hh7, hq7, hv7, ht7⟩
      have hhd : G q6 0 = key y := zma9 HQ6.out HH6.out (by have := HLX.out; unfold Lex at this ⊢; rw [List.pairwise_cons] at this; exact this.2)
      rw [hhd] at hq7 ⊢
      simp only [key]
      have HQ7 : Hid (q7.Perm (r.map key)) := ((List.Perm.cons_inv (HQ6.out.symm.trans hq7))).symm
      have HH7 : Hid (Heap q7 q7.length 0) := hh7
      have O7 : Hid (Own0 w w7 h v7 q7) := O6a.out.step hp7 ht7 (fun k hk => .inl (hv7 ▸ hk))
      have OP7 : Hid (Owns .i64 3 w7 (.slice (some ⟨gp, 0, none⟩) (2 * ws.length - 2) (2 * ws.length - 2)) P) := OP6a.out.tch ht7 (fun j hj e => O6a.out.hp.apart OP6a.out j hj e)
      have HL7 : Hid (q7.length = r.length) := by show _ = _; rw [HQ7.out.length_eq]; simp
      have hb7 : w7.heap[w6.heap.size]? = some (.cells #[.int .i64 x.w, .int .i64 x.num] 204) := by
       rw [ht7.block w6.heap.size (by simp) (fun e => by rcases e with e | e; (· omega); (· have := HVL6.out _ e; omega))]
       exact heap_alloc_new w6 _
      have c80 : w7.cell? ⟨w6.heap.size, 0, none⟩ = some (.int .i64 x.w) := by rw [cell_of_row w7 w6.heap.size 0 _ _ _ hb7]; rfl
      have c81 : w7.cell? ⟨w6.heap.size, 1, none⟩ = some (.int .i64 x.num) := by rw [cell_of_row w7 w6.heap.size 1 _ _ _ hb7]; rfl
      have hl87 : w6.heap.size < w7.heap.size := (Array.getElem?_eq_some_iff.1 hb7).1
      obtain ⟨cp1, fp1, hgl7⟩ := OP7.out.at1 x.num (by rw [HPL.out]; omega)
      obtain ⟨cp2, fp2, _⟩ := OP7.out.at1 y.num (by rw [HPL.out]; omega)
      obtain ⟨B8, hB8⟩ : ∃ B8, w6.heap.size = B8 := ⟨_, rfl⟩
      rw [hB8] at c80 c81 hl87 hgl6 hhl6 ⊢
      have HVL7 : Hid (∀ k, v7.ownBlock = some k -> k < B8) := fun k hk => by rw [<- hB8]; exact HVL6.out k (hv7 ▸ hk)
      clear hp7 hh7 hq7 hv7 ht7 hhd hb7 hB8 HVL6 O6 O6a OP6 OP6a HH6 HQ6
      go_wp2_with fail
      go_region
      go_wp2_with fail
      have T8 : Tch (fun k => k = gp) w7 (((w7.setCell ⟨gp, x.num, none⟩ (.int .i64 N)).setCell ⟨gp, y.num, none⟩ (.int .i64 N)).alloc (.cells #[.int .i64 y.w, .int .i64 y.num] 204)).drew :=
       Tch.drew (Tch.alloc (Tch.setCell (Tch.setCell (Tch.refl (fun k => k = gp) w7) (p := ⟨gp, x.num, none⟩) (fun _ => rfl) _) (p := ⟨gp, y.num, none⟩) (fun _ => rfl) _) _)
      have hap := O7.out.hp.apart OP7.out gp rfl
      have O8 : Hid (Own0 w (((w7.setCell ⟨gp, x.num, none⟩ (.int .i64 N)).setCell ⟨gp, y.num, none⟩ (.int .i64 N)).alloc (.cells #[.int .i64 y.w, .int .i64 y.num] 204)).drew h v7 q7) :=
       O7.out.tch T8 (fun k e => by rw [e]; exact HGP.out) (fun e => hap (.inl e.symm)) (fun k hk e => hap (.inr (by rw [<- e]; exact hk)))
      have OP8 : Hid (Owns .i64 3 (((w7.setCell ⟨gp, x.num, none⟩ (.int .i64 N)).setCell ⟨gp, y.num, none⟩ (.int .i64 N)).alloc (.cells #[.int .i64 y.w, .int .i64 y.num] 204)).drew (.slice (some ⟨gp, 0, none⟩) (2 * ws.length - 2) (2 * ws.length - 2)) ((P.set x.num (N : Int)).set y.num (N : Int))) :=
       ((OP7.out.set x.num (N : Int)).set y.num (N : Int)).below (((Below.refl _ _).alloc (Nat.le_refl _) _).drew)
      obtain ⟨f', rfl⟩ : ∃ f', f = f' + 1 := ⟨f - 1, by simp only [List.length_cons] at hf; omega⟩
      have J8 : Hid (JS ((P.set x.num (N : Int)).set y.num (N : Int)) (N + 1) ws.length (insN (jn x y N) r) (treeOf (fun i => (ws.getD i 0).toNat) ws.length) S f') := J5.out.step (by rw [HPL.out]; omega) (by rw [HPL.out]; omega)
      have HLN : Hid ((insN (jn x y N) r).length = r.length + 1) := by show _ = _; rw [(zx9 _ _).length_eq]; simp
      refine (zsh9 h v7 q7 ((x.w : Int) + y.w, (N : Int)) _ O8.out.hp (by rw [HL7.out]; omega) HH7.out).mono ?_
      rintro e w9 ⟨rfl, v9, q9, hp9, hh9, hq9, hf9, ht9⟩
      have O9 : Hid (Own0 w w9 h v9 q9) := O8.out.step hp9 ht9 hf9
      have OP9 : Hid (Owns .i64 3 w9 (.slice (some ⟨gp, 0, none⟩) (2 * ws.length - 2) (2 * ws.length - 2)) ((P.set x.num (N : Int)).set y.num (N : Int))) := OP8.out.tch ht9 (fun j hj e => O8.out.hp.apart OP8.out j hj e)
      have HH9 : Hid (Heap q9 q9.length 0) := hh9
      have HQ9 : Hid (q9.Perm ((insN (jn x y N) r).map key)) := by
       refine hq9.trans ((List.perm_append_comm).trans ?_)
       refine List.Perm.trans ?_ ((zx9 (jn x y N) r).map key).symm
       simp only [List.map_cons, List.singleton_append]
       have ek : key (jn x y N) = ((x.w : Int) + y.w, (N : Int)) := by simp [key, jn]
       rw [ek]
       exact List.Perm.cons _ HQ7.out
      simp only [List.length_cons] at hf
      clear hp9 hh9 hq9 hf9 ht9 O8 OP8 T8 hap O7 OP7 HQ7 HH7 c80 c81 cp1 cp2 fp1 fp2
      go_wp2_with fail
      go_roundw
      case rel => exact ⟨N + 1, f', insN (jn x y N) r, _, v9, q9, by go_num, by omega, by rw [HLN.out]; omega, by rw [HLN.out]; omega, by rw [HLN.out]; omega, O9, HH9, HQ9, J8, OP9⟩
      case measure => simp [intOf]; omega
    ·match L, hL1, hNL, hf, HQ5, J5, HQL, hl, O5, ch with
     | [], hL1, _, _, _, _, _, _, _, _ => simp at hL1
     | x :: y :: r, _, _, _, _, _, _, hl, _, _ => simp at hl
     | [t], hL1, hNL, hf, HQ5, J5, HQL, hl, O5, ch =>
      go_wp2_with fail
      refine (zff9 la _ lc wr).mono ?_
      rintro e w6 ⟨rfl, rfl⟩
      go_wp2_with fail
      go_ret
      refine ⟨_, P, t, N, f, rfl, OP5.out, J5.out, O5.out.bel, fun k hk => ?_⟩
      have hk' : (Value.slice (some (⟨gp, 0, none⟩ : Addr)) (2 * ws.length - 2) (2 * ws.length - 2)).ownBlock = some k := hk
      simp only [Value.ownBlock, Option.some.injEq] at hk'
      have := HGP.out
      omega
abbrev cw (ws : List Int) (i : Nat) : Nat := (ws.getD i 0).toNat
def deps (ws : List Int) : List Int := (List.range ws.length).map fun i => (zby9 (treeOf (cw ws) ws.length) i : Int)
theorem zdm9 (ws : List Int) : (deps ws).length = ws.length := by simp [deps]
theorem zat9 (ws : List Int) (i : Nat) (hi : i < ws.length) : (deps ws).getD i 0 = (zby9 (treeOf (cw ws) ws.length) i : Int) := by
 simp [deps, List.getD_eq_getElem?_getD, hi]
structure DS (P DD : List Int) (R k : Nat) (m : Int) : Prop where
 len : DD.length = R + 1
 root : DD.getD R 0 = 0
 rel : ∀ j, k <= j -> j < R -> DD.getD j 0 = DD.getD (pf P j) 0 + 1
 bd : ∀ j, k <= j -> j <= R -> 0 <= DD.getD j 0 /\ DD.getD j 0 <= R - j
 top : ∀ j, k <= j -> j <= R -> DD.getD j 0 <= m
 got : m = 0 ∨ ∃ j, k <= j /\ j < R /\ DD.getD j 0 = m
theorem DS.step {P DD : List Int} {R k : Nat} {m : Int} (h : DS P DD R (k + 1) m) (hk : k < R) (hp : k < pf P k /\ pf P k <= R) (hr : ∀ j, j < R -> j < pf P j /\ pf P j <= R) :
  DS P (DD.set k (DD.getD (pf P k) 0 + 1)) R k (max m (DD.getD (pf P k) 0 + 1)) := by
 have hl := h.len
 have g : ∀ j, (DD.set k (DD.getD (pf P k) 0 + 1)).getD j 0 = if j = k then DD.getD (pf P k) 0 + 1 else DD.getD j 0 := fun j => by
  rw [zax9]
  by_cases e : j = k
  ·rw [if_pos ⟨e, by omega⟩, if_pos e]
  ·rw [if_neg (fun x => e x.1), if_neg e]
 have hb := h.bd (pf P k) (by omega) hp.2
 refine ⟨by simp [hl], by rw [g, if_neg (by omega)]; exact h.root, fun j h1 h2 => ?_, fun j h1 h2 => ?_, fun j h1 h2 => ?_, ?_⟩
 ·rw [g j, g (pf P j)]
  by_cases e : j = k
  ·subst e
   rw [if_pos rfl, if_neg (by omega)]
  ·have := hr j h2
   rw [if_neg e, if_neg (by omega)]
   exact h.rel j (by omega) h2
 ·rw [g j]
  by_cases e : j = k
  ·rw [if_pos e]; omega
  ·rw [if_neg e]; exact h.bd j (by omega) h2
 ·rw [g j]
  by_cases e : j = k
  ·rw [if_pos e]; omega
  ·rw [if_neg e]; have := h.top j (by omega) h2; omega
 ·rcases h.got with e | ⟨j, h1, h2, h3⟩
  ·right
   refine ⟨k, by omega, hk, ?_⟩
   rw [g, if_pos rfl]
   omega
  ·by_cases hm : m <= DD.getD (pf P k) 0 + 1
   ·right
    refine ⟨k, by omega, hk, ?_⟩
    rw [g, if_pos rfl]
    omega
   ·right
    refine ⟨j, by omega, h2, ?_⟩
    rw [g, if_neg (by omega), h3]
    omega
theorem DS.start (P : List Int) (R : Nat) : DS P (List.replicate (R + 1) 0) R R 0 := by
 have g : ∀ j, (List.replicate (R + 1) (0 : Int)).getD j 0 = 0 := fun j => by
  simp only [List.getD_eq_getElem?_getD, List.getElem?_replicate]
  split <;> simp
 exact ⟨by simp, g _, fun j h1 h2 => by omega, fun j h1 h2 => by rw [g]; omega, fun j h1 h2 => by rw [g]; omega, .inl rfl⟩
theorem DS.done {P DD ws : List Int} {m : Int} {N S f : Nat} {t : NT} (h : DS P DD (2 * ws.length - 2) 0 m) (J : JS P N ws.length [t] (treeOf (cw ws) ws.length) S f) (hn : 1 <= ws.length) (hpos : ∀ i, i < ws.length -> 0 < ws.getD i 0) :
  DD.take ws.length = deps ws /\ 0 <= m /\ m <= 2 * ws.length /\ (m <= 11 ↔ ∀ i, i < ws.length -> (deps ws).getD i 0 <= 11) := by
 obtain ⟨hr, hD⟩ := J.done hn
 have hlen := h.len
 obtain ⟨hT, hM⟩ := hD (fun j => (DD.getD j 0).toNat) (by rw [h.root]; rfl) (fun j hj => by
  have h1 := h.rel j (Nat.zero_le _) hj
  have h2 := h.bd (pf P j) (Nat.zero_le _) (hr j hj).2
  omega)
 have hst := zec9 (cw ws) ws.length (fun i hi => by have := hpos i hi; simp only [cw]; omega)
 have hdep : ∀ i, i < ws.length -> DD.getD i 0 = (zby9 (treeOf (cw ws) ws.length) i : Int) := fun i hi => by
  have hb := zcl9 (cw ws) ws.length (by rw [hst, List.length_range]; omega)
  have hb2 : ((treeOf (cw ws) ws.length).map (·.1)).Perm (List.range ws.length) := by
   refine hb.trans ?_
   rw [hst]
   exact zac9 _ _
  have hm : i ∈ (treeOf (cw ws) ws.length).map (·.1) := hb2.mem_iff.2 (by simpa using hi)
  obtain ⟨p, hp, rfl⟩ := List.mem_map.1 hm
  rw [zch9 (hb2.nodup_iff.2 List.nodup_range) hp]
  have h1 := hT p hp
  have h2 := h.bd p.1 (Nat.zero_le _) (by omega)
  omega
 have e : DD.take ws.length = deps ws := by
  refine zg9 (by rw [List.length_take, zdm9]; omega) (fun i hi => ?_)
  rw [List.length_take] at hi
  rw [zat9 ws i (by omega), <- hdep i (by omega), List.getD_eq_getElem?_getD, List.getElem?_take, if_pos (by omega), <- List.getD_eq_getElem?_getD]
 have hm0 : 0 <= m /\ m <= 2 * ws.length := by
  rcases h.got with e | ⟨j, _, h2, h3⟩
  ·omega
  ·have := h.bd j (Nat.zero_le _) (by omega)
   omega
 refine ⟨e, hm0.1, hm0.2, fun h1 i hi => ?_, fun h1 => ?_⟩
 ·rw [zat9 ws i hi, <- hdep i hi]
  have := h.top i (Nat.zero_le _) (by omega)
  omega
 ·rcases h.got with e | ⟨j, _, h2, h3⟩
  ·omega
  ·have h4 := hM 11 (fun i hi => by
    have := h1 i hi
    rw [zat9 ws i hi, <- hdep i hi] at this
    omega) j (by omega)
   have := h.bd j (Nat.zero_le _) (by omega)
   omega
theorem zaak9 {P : List Int} {n N S f : Nat} {L : List NT} {T : List (Nat × Nat)} (J : JS P N n L T S f) (j : Nat) : P.getD j 0 = (pf P j : Int) := by
 have := J.nn j
 unfold pf
 omega
theorem znn9 (v : Value) (ws : List Int) (w : World) (hr : Rd .i64 w v ws) (h2 : 2 <= ws.length) (h3 : ws.length <= 256) (hpos : ∀ i, i < ws.length -> 0 < ws.getD i 0) (S : Nat) (hS : ((List.range ws.length).map (cw ws)).sum = S) (hS2 : S <= 1000000000000000) :
  Calls Tryz.prog 136 #[v] w fun e w' => ∃ dv m, e = .returned (.tuple #[dv, .int .i64 m]) /\ Rd .i64 w' dv (deps ws) /\ 0 <= m /\ m <= 512 /\ (m <= 11 ↔ ∀ i, i < ws.length -> (deps ws).getD i 0 <= 11) /\ Below w.heap.size w w' /\ ∀ k, dv.ownBlock = some k -> w.heap.size <= k := by
 have HR : Hid (Rd .i64 w v ws) := hr
 have HPOS : Hid (∀ i, i < ws.length -> 0 < ws.getD i 0) := hpos
 have HS : Hid (((List.range ws.length).map (cw ws)).sum = S) := hS
 obtain ⟨a, cap, rfl, hlc, hcm, _, hcc⟩ := hr
 clear hcc hpos hS
 obtain ⟨j0, hj, hy0, hy1, hy2⟩ := elem64.info
 go_enter Tryz.func136, Tryz.ntmps136
 go_wp2_with fail
 refine (zvs9 _ ws w HR.out h2 h3 HPOS.out S HS.out hS2).mono ?_
 rintro e w1 ⟨pv, P, t, N, f, rfl, hop, hJ, hb, hfr⟩
 have HJ : Hid (JS P N ws.length [t] (treeOf (cw ws) ws.length) S f) := hJ
 have hpl : P.length = 2 * ws.length - 2 := hJ.plen
 obtain ⟨gp, pc, hpv, _⟩ := Owns.shape hop (by omega)
 rw [hpl] at hpv
 subst hpv
 have OP1 : Hid (Owns .i64 3 w1 (.slice (some ⟨gp, 0, none⟩) (2 * ws.length - 2) pc) P) := hop
 have HB1 : Hid (Below w.heap.size w w1) := hb
 have HPL : Hid (P.length = 2 * ws.length - 2) := hpl
 have HRT : Hid (∀ j, j < 2 * ws.length - 2 -> j < pf P j /\ pf P j <= 2 * ws.length - 2) := (hJ.done (by omega)).1
 clear hop hJ hb hfr hpl
 go_wp2_with (at_make; refine wpList_make_full _ rfl (.tmp 16) (.tmp 16) 56 rfl 0 3 j0 _ 1 Tryz.underlying56 hj hy0 hy1 .i64 .i64 _ _ (2 * ws.length - 2 + 1) rfl rfl (by omega) (by omega) (by rw [hy2]; omega) (by unfold maxLen; omega) (Nat.zero_le _) ?_)
 intro w2 ho2 hg2
 have b2 : Below w1.heap.size w1 w2 := (Below.refl _ _).grown hg2 (Nat.le_refl _) (fun k e => by cases e)
 obtain ⟨gd, hgd⟩ : ∃ gd, Hid (w1.heap.size = gd) := ⟨_, rfl⟩
 have OD2 : Hid (Owns .i64 3 w2 (.slice (some ⟨gd, 0, none⟩) (2 * ws.length - 2 + 1) (2 * ws.length - 2 + 1)) (List.replicate (2 * ws.length - 2 + 1) 0)) := by
  show w2.ownsRow _ _ _ _ _ _
  rw [toList_madeCells_one, hgd.out] at ho2
  simpa using ho2
 have OP2 : Hid (Owns .i64 3 w2 (.slice (some ⟨gp, 0, none⟩) (2 * ws.length - 2) pc) P) := OP1.out.below b2
 have hgpd : gp ≠ gd := by have := OP1.out.lt gp rfl; rw [hgd.out] at this; omega
 have HB2 : Hid (Below w.heap.size w w2) := HB1.out.trans (b2.mono HB1.out.size)
 have HGD : Hid (w.heap.size <= gd) := by show _ <= _; rw [<- hgd.out]; exact HB1.out.size
 rw [hgd.out]
 clear ho2 hg2 b2 hj hy0 hy1 hy2 OP1 HB1
 go_wp2_with fail
 go_loopw [7, 8] (fun q i wr => ∃ (k : Nat) (m : Int) (DD : List Int), k <= 2 * ws.length - 2 /\ i = .int .i64 ((k : Int) - 1) /\ q = .int .i64 m /\ 0 <= m /\ m <= 512 /\ Hid (DS P DD (2 * ws.length - 2) k m) /\ Hid (Owns .i64 3 wr (.slice (some ⟨gd, 0, none⟩) (2 * ws.length - 2 + 1) (2 * ws.length - 2 + 1)) DD) /\ Hid (Owns .i64 3 wr (.slice (some ⟨gp, 0, none⟩) (2 * ws.length - 2) pc) P) /\ Hid (Below w.heap.size w wr)) (fun _ i _ => (intOf i + 1).toNat)
 case atStart => exact ⟨2 * ws.length - 2, 0, _, Nat.le_refl _, by first | rfl | go_num, rfl, by omega, by omega, DS.start P _, OD2, OP2, HB2⟩
 case round =>
  obtain ⟨k, m, DD, hk, rfl, rfl, hm0, hm1, HD, OD, OP, HB⟩ := hrel
  clear OD2 OP2 HB2
  by_cases h0 : k = 0
  ·subst h0
   have hdone := HD.out.done HJ.out (by omega) HPOS.out
   have HDN : Hid (DD.take ws.length = deps ws /\ 0 <= m /\ m <= 2 * ws.length /\ (m <= 11 ↔ ∀ i, i < ws.length -> (deps ws).getD i 0 <= 11)) := hdone
   have HLD : Hid (DD.length = 2 * ws.length - 2 + 1) := HD.out.len
   have e1 : ((0 : Nat) : Int) - 1 = -1 := by omega
   rw [e1]
   clear hdone HD
   go_wp2_with fail
   go_ret2
   refine ⟨.slice (some ⟨gd, 0, none⟩) ws.length (2 * ws.length - 2 + 1), m, rfl, ?_, HDN.out.2.1, by omega, HDN.out.2.2.2, HB.out, fun k hk => by simp only [Value.ownBlock, Option.some.injEq] at hk; have := HGD.out; omega⟩
   rw [<- HDN.out.1]
   have hc : ∀ i, i < DD.length -> wr.cell? ⟨gd, 0 + i, none⟩ = some (.int .i64 (DD.getD i 0)) := fun i hi => by rw [Nat.zero_add]; exact (OD.out.at1 i hi).1
   exact zvj9 ws.length (by rw [HLD.out]; omega) (by rw [HLD.out]; exact Nat.le_refl _) (by unfold maxLen; omega) hc
  ·obtain ⟨j, rfl⟩ : ∃ j, k = j + 1 := ⟨k - 1, by omega⟩
   have e1 : ((j + 1 : Nat) : Int) - 1 = (j : Int) := by omega
   rw [e1]
   have hrt := HRT.out j (by omega)
   have hlen := HD.out.len
   obtain ⟨q, hq⟩ : ∃ q, Hid (pf P j = q) := ⟨_, rfl⟩
   rw [hq.out] at hrt
   have cp : wr.cell? ⟨gp, j, none⟩ = some (.int .i64 (q : Int)) := by rw [(OP.out.at1 j (by rw [HPL.out]; omega)).1, zaak9 HJ.out, hq.out]
   obtain ⟨x, hx⟩ : ∃ x, Hid (DD.getD q 0 = x) := ⟨_, rfl⟩
   have cq : wr.cell? ⟨gd, q, none⟩ = some (.int .i64 x) := by rw [(OD.out.at1 q (by omega)).1, hx.out]
   obtain ⟨y, hy⟩ : ∃ y, Hid (DD.getD j 0 = y) := ⟨_, rfl⟩
   obtain ⟨cj0, fj, _⟩ := OD.out.at1 j (by omega)
   have cj : wr.cell? ⟨gd, j, none⟩ = some (.int .i64 y) := by rw [cj0, hy.out]
   have hbd := HD.out.bd q (by omega) (by omega)
   rw [hx.out] at hbd
   have HD2 : Hid (DS P (DD.set j (x + 1)) (2 * ws.length - 2) j (max m (x + 1))) := by
    have := HD.out.step (by omega) (HRT.out j (by omega)) HRT.out
    rw [hq.out, hx.out] at this
    exact this
   have hx0 : 0 <= x /\ x <= 510 := by omega
   have emx : max m (x + 1) = if m < x + 1 then x + 1 else m := by split <;> omega
   rw [emx] at HD2
   have OD3 : Hid (Owns .i64 3 (wr.setCell ⟨gd, j, none⟩ (.int .i64 (x + 1))) (.slice (some ⟨gd, 0, none⟩) (2 * ws.length - 2 + 1) (2 * ws.length - 2 + 1)) (DD.set j (x + 1))) := OD.out.set j (x + 1)
   have T3 : Tch (fun k => k = gd) wr (wr.setCell ⟨gd, j, none⟩ (.int .i64 (x + 1))) := Tch.setCell (Tch.refl (fun k => k = gd) wr) (p := ⟨gd, j, none⟩) (fun _ => rfl) _
   have OP3 : Hid (Owns .i64 3 (wr.setCell ⟨gd, j, none⟩ (.int .i64 (x + 1))) (.slice (some ⟨gp, 0, none⟩) (2 * ws.length - 2) pc) P) := OP.out.tch T3 (fun k hk e => by simp only [Value.ownBlock, Option.some.injEq] at hk; omega)
   have HB3 : Hid (Below w.heap.size w (wr.setCell ⟨gd, j, none⟩ (.int .i64 (x + 1)))) := HB.out.trans (T3.below HB.out.size (fun k e => by rw [e]; exact HGD.out))
   clear hbd hlen cj0 emx T3
   go_wp2_with fail
   go_roundw
   case rel => exact ⟨j, _, _, by omega, rfl, rfl, by split <;> omega, by split <;> omega, HD2, OD3, OP3, HB3⟩
   case measure => simp [intOf]
def halve (ws : List Int) : List Int := ws.map fun x => x / 2 + 1
def All11 (ws : List Int) : Prop := ∀ i, i < ws.length -> (deps ws).getD i 0 <= 11
inductive Sh : List Int -> List Int -> Prop
 | now (ws : List Int) (h : All11 ws) : Sh ws (deps ws)
 | on (ws ds : List Int) (h : ¬ All11 ws) (k : Sh (halve ws) ds) : Sh ws ds
structure Wts (ws : List Int) : Prop where
 two : 2 <= ws.length
 most : ws.length <= 256
 pos : ∀ i, i < ws.length -> 0 < ws.getD i 0
theorem zq9 (ws : List Int) : (halve ws).length = ws.length := by simp [halve]
theorem zdd9 (ws : List Int) (i : Nat) (hi : i < ws.length) : (halve ws).getD i 0 = ws.getD i 0 / 2 + 1 := by
 simp [halve, List.getD_eq_getElem?_getD, hi]
theorem Wts.halve {ws : List Int} (h : Wts ws) : Wts (halve ws) := by
 refine ⟨by rw [zq9]; exact h.two, by rw [zq9]; exact h.most, fun i hi => ?_⟩
 rw [zq9] at hi
 rw [zdd9 ws i hi]
 have := h.pos i hi
 omega
theorem Wts.stand {ws : List Int} (h : Wts ws) : stand (cw ws) ws.length = List.range ws.length := zec9 _ _ (fun i hi => by have := h.pos i hi; simp only [cw]; omega)
theorem Wts.tr {ws : List Int} (h : Wts ws) : Tr (cw ws) (zby9 (treeOf (cw ws) ws.length)) (sortB (cw ws) (List.range ws.length)) := by
 have := tr_of (cw ws) ws.length (by rw [h.stand, List.length_range]; exact h.two)
 rw [h.stand] at this
 exact this
theorem zed9 {c : Nat -> Nat} {n b : Nat} : b ∈ sortB c (List.range n) ↔ b < n := by rw [(zac9 c _).mem_iff]; simp
theorem Wts.big {ws : List Int} (h : Wts ws) (hn : ¬ All11 ws) : ∃ i, i < ws.length /\ 2 < ws.getD i 0 := by
 refine Classical.byContradiction (fun hc => hn (fun i hi => ?_))
 have := h.tr.shallow (fun b hb => by
  have hb' := zed9.1 hb
  have h1 := h.pos b hb'
  have h2 : ¬ 2 < ws.getD b 0 := fun e => hc ⟨b, hb', e⟩
  simp only [cw]
  omega) (by rw [(zac9 _ _).length_eq, List.length_range]; exact h.most) i (zed9.2 hi)
 rw [zat9 ws i hi]
 omega
def wsum (ws : List Int) : Nat := ((List.range ws.length).map (cw ws)).sum
theorem sum_lt {n : Nat} {f g : Nat -> Nat} (hle : ∀ i, i < n -> f i <= g i) (hlt : ∃ i, i < n /\ f i < g i) : ((List.range n).map f).sum < ((List.range n).map g).sum := by
 induction n with
 | zero => obtain ⟨i, h, _⟩ := hlt; omega
 | succ n ih =>
  rw [List.range_succ, List.map_append, List.map_append, List.sum_append, List.sum_append]
  simp only [List.map_cons, List.map_nil, List.sum_cons, List.sum_nil, Nat.add_zero]
  have hle2 : ((List.range n).map f).sum <= ((List.range n).map g).sum := by
   clear ih hlt
   induction n with
   | zero => simp
   | succ n ih =>
    rw [List.range_succ, List.map_append, List.map_append, List.sum_append, List.sum_append]
    have := ih (fun i hi => hle i (by omega))
    have := hle n (by omega)
    simp
    omega
  obtain ⟨i, h1, h2⟩ := hlt
  have hn := hle n (by omega)
  by_cases e : i = n
  ·subst e; omega
  ·have := ih (fun i hi => hle i (by omega)) ⟨i, by omega, h2⟩
   omega
theorem Wts.less {ws : List Int} (h : Wts ws) (hn : ¬ All11 ws) : wsum (Go.Proofs.YtobenjkacpipeaaGreat.halve ws) < wsum ws := by
 obtain ⟨i, hi, hb⟩ := h.big hn
 unfold wsum
 rw [zq9]
 refine sum_lt (fun j hj => ?_) ⟨i, hi, ?_⟩
 ·have := h.pos j hj
  simp only [cw]
  rw [zdd9 ws j hj]
  omega
 ·simp only [cw]
  rw [zdd9 ws i hi]
  omega
def msr (w : World) (g n : Nat) : Nat := ((List.range n).map fun i => match w.cell? ⟨g, i, none⟩ with | some (.int _ x) => x.toNat | _ => 0).sum
theorem zgw9 {w : World} {g n cap : Nat} {ws : List Int} (h : Owns .i64 3 w (.slice (some ⟨g, 0, none⟩) n cap) ws) : msr w g ws.length = wsum ws := by
 unfold msr wsum
 congr 1
 refine List.map_congr_left (fun i hi => ?_)
 rw [(h.at1 i (by simpa using hi)).1]
theorem Sh.facts {ws ds : List Int} (h : Sh ws ds) (hw : Wts ws) : ∃ vs, Wts vs /\ vs.length = ws.length /\ All11 vs /\ ds = deps vs := by
 induction h with
 | now ws h => exact ⟨ws, hw, rfl, h, rfl⟩
 | on ws ds h k ih =>
  obtain ⟨vs, h1, h2, h3, h4⟩ := ih hw.halve
  exact ⟨vs, h1, by rw [h2, zq9], h3, h4⟩
def halfTo (ws : List Int) (k : Nat) : List Int := (halve ws).take k ++ ws.drop k
theorem zbc9 (ws : List Int) (k : Nat) : (halfTo ws k).length = ws.length := by simp [halfTo, zq9]; omega
theorem zmk9 (ws : List Int) : halfTo ws 0 = ws := by simp [halfTo]
theorem zot9 (ws : List Int) : halfTo ws ws.length = halve ws := by
 unfold halfTo
 rw [List.drop_length, List.append_nil, <- zq9 ws, List.take_length]
theorem zdp9 (ws : List Int) (k i : Nat) (hi : i < ws.length) : (halfTo ws k).getD i 0 = if i < k then ws.getD i 0 / 2 + 1 else ws.getD i 0 := by
 unfold halfTo
 rw [zal9]
 simp only [List.length_take, zq9]
 by_cases e : i < k
 ·rw [if_pos (by omega), if_pos e, List.getD_eq_getElem?_getD, List.getElem?_take, if_pos e, <- List.getD_eq_getElem?_getD, zdd9 ws i hi]
 ·rw [if_neg (by omega), if_neg e, List.getD_eq_getElem?_getD, List.getElem?_drop, List.getD_eq_getElem?_getD]
  congr 2
  omega
theorem zmy9 (ws : List Int) (k : Nat) (hk : k < ws.length) : halfTo ws (k + 1) = (halfTo ws k).set k (ws.getD k 0 / 2 + 1) := by
 refine zg9 (by simp [zbc9]) (fun i hi => ?_)
 rw [zbc9] at hi
 rw [zax9, zdp9 ws _ i hi, zdp9 ws _ i hi, zbc9]
 by_cases e : i = k
 ·subst e; simp [hk]
 ·have hne : ¬ (i = k /\ k < ws.length) := fun x => e x.1
  rw [if_neg hne]
  by_cases e2 : i < k
  ·rw [if_pos (show i < k + 1 by omega), if_pos e2]
  ·rw [if_neg (show ¬ i < k + 1 by omega), if_neg e2]
theorem zmh9 (g cap : Nat) (w : World) :
  Calls Tryz.prog 110 #[.slice (some ⟨g, 0, none⟩) 1 cap] w fun e w' => ∃ dv, e = .returned dv /\ Rd .i64 w' dv [1] /\ Below w.heap.size w w' /\ ∀ k, dv.ownBlock = some k -> w.heap.size <= k := by
 go_enter Tryz.func110, Tryz.ntmps110
 go_wp2_with fail
 go_ret
 refine ⟨.slice (some ⟨w.heap.size, 0, none⟩) 1 1, rfl, ?_, (Below.refl _ _).alloc (Nat.le_refl _) _, fun k hk => by simp only [Value.ownBlock, Option.some.injEq] at hk; omega⟩
 refine ⟨some ⟨w.heap.size, 0, none⟩, 1, rfl, Nat.le_refl _, by unfold maxLen; omega, (fun e => by cases e), .inr ⟨w.heap.size, 0, rfl, fun i hi => ?_⟩⟩
 have : i = 0 := by simpa using hi
 subst this
 simp
theorem zmq9 (g cap : Nat) (ws : List Int) (w : World) (ho : Owns .i64 3 w (.slice (some ⟨g, 0, none⟩) ws.length cap) ws) (hw : Wts ws) (hS2 : wsum ws <= 1000000000000000) :
  Calls Tryz.prog 110 #[.slice (some ⟨g, 0, none⟩) ws.length cap] w fun e w' => ∃ dv ds, e = .returned dv /\ Rd .i64 w' dv ds /\ Sh ws ds /\ Tch (fun k => k = g) w w' /\ ∀ k, dv.ownBlock = some k -> w.heap.size <= k := by
 have HO : Hid (Owns .i64 3 w (.slice (some ⟨g, 0, none⟩) ws.length cap) ws) := ho
 have HW : Hid (Wts ws) := hw
 have hw2 := hw.two
 have hw3 := hw.most
 have hne : ((ws.length : Int) == 1) = false := by simp; omega
 clear ho hw
 go_enter Tryz.func110, Tryz.ntmps110
 go_wp2_with fail
 refine (znn9 _ ws w HO.out.rd hw2 hw3 HW.out.pos _ rfl hS2).mono ?_
 rintro e w1 ⟨dv, m, rfl, hd1, hm0, hm1, hm2, hb1, hf1⟩
 have HF1 : Hid (∀ k, dv.ownBlock = some k -> w.heap.size <= k) := hf1
 clear hf1
 have HD1 : Hid (Rd .i64 w1 dv (deps ws)) := hd1
 have HM1 : Hid (m <= 11 ↔ All11 ws) := hm2
 have HO1 : Hid (Owns .i64 3 w1 (.slice (some ⟨g, 0, none⟩) ws.length cap) ws) := HO.out.below hb1
 have HT1 : Hid (Tch (fun k => k = g) w w1) := Tch.of_below hb1
 clear hd1 hm2 hb1
 go_wp2_with fail
 go_loopw [3, 4] (fun d q wr => ∃ (m : Int) (vs : List Int), q = .int .i64 m /\ 0 <= m /\ m <= 512 /\ Hid (Rd .i64 wr d (deps vs)) /\ Hid (m <= 11 ↔ All11 vs) /\ Hid (Wts vs) /\ Hid (vs.length = ws.length) /\ Hid (wsum vs <= 1000000000000000) ∧
  Hid (Owns .i64 3 wr (.slice (some ⟨g, 0, none⟩) ws.length cap) vs) /\ Hid (∀ ds, Sh vs ds -> Sh ws ds) /\ Hid (Tch (fun k => k = g) w wr) /\ Hid (∀ k, d.ownBlock = some k -> w.heap.size <= k)) (fun _ _ wr => msr wr g ws.length)
 case atStart => exact ⟨m, ws, rfl, hm0, hm1, HD1, HM1, HW, rfl, hS2, HO1, fun ds h => h, HT1, HF1⟩
 case round =>
  obtain ⟨m, vs, rfl, hm0, hm1, HD, HM, HW2, HL, HS, HO2, HK, HT, HFR⟩ := hrel
  clear HD1 HM1 HO1 HT1
  by_cases h11 : m <= 11
  ·have HF : Hid (Sh ws (deps vs)) := HK.out _ (Sh.now vs (HM.out.1 h11))
   go_wp2_with fail
   go_ret
   exact ⟨_, deps vs, rfl, HD.out, HF.out, HT.out, HFR.out⟩
  ·have HNA : Hid (¬ All11 vs) := fun e => h11 (HM.out.2 e)
   have HMS : Hid (msr wr g ws.length = wsum vs) := by show _ = _; rw [<- HL.out]; exact zgw9 HO2.out
   go_wp2_with fail
   go_loopw [19] (fun i wr2 => ∃ k : Nat, k <= ws.length /\ i = .int .i64 k /\ Hid (Owns .i64 3 wr2 (.slice (some ⟨g, 0, none⟩) ws.length cap) (halfTo vs k)) /\ Hid (Tch (fun k => k = g) w wr2)) (fun i _ => ws.length - (intOf i).toNat)
   case atStart => exact ⟨0, Nat.zero_le _, rfl, by rw [zmk9]; exact HO2, HT⟩
   case round =>
    obtain ⟨k, hk, rfl, HO3, HT3⟩ := hrel
    by_cases hlt : k < ws.length
    ·obtain ⟨x, hx⟩ : ∃ x, Hid (vs.getD k 0 = x) := ⟨_, rfl⟩
     have hlk : k < (halfTo vs k).length := by rw [zbc9, HL.out]; exact hlt
     obtain ⟨c0, f0, _⟩ := HO3.out.at1 k hlk
     have cx : wr.cell? ⟨g, k, none⟩ = some (.int .i64 x) := by rw [c0, zdp9 vs k k (by rw [HL.out]; exact hlt), if_neg (by omega), hx.out]
     have hxb : 0 < x /\ x <= 1000000000000000 := by
      rw [<- hx.out]
      refine ⟨HW2.out.pos k (by rw [HL.out]; exact hlt), ?_⟩
      have : cw vs k <= wsum vs := ziv9 (List.mem_map.2 ⟨k, by rw [HL.out]; simpa using hlt, rfl⟩)
      have h2 := HS.out
      simp only [cw] at this
      omega
     have hdv : x.tdiv 2 = x / 2 := Int.tdiv_eq_ediv_of_nonneg (by omega)
     have HO4 : Hid (Owns .i64 3 (wr.setCell ⟨g, k, none⟩ (.int .i64 (x / 2 + 1))) (.slice (some ⟨g, 0, none⟩) ws.length cap) (halfTo vs (k + 1))) := by
      show Owns _ _ _ _ _
      rw [zmy9 vs k (by rw [HL.out]; exact hlt), hx.out]
      exact HO3.out.set k (x / 2 + 1)
     have HT4 : Hid (Tch (fun k => k = g) w (wr.setCell ⟨g, k, none⟩ (.int .i64 (x / 2 + 1)))) := Tch.setCell HT3.out (p := ⟨g, k, none⟩) (fun _ => rfl) _
     clear c0 hlk HO3 HT3
     go_wp2_with fail
     go_roundw
     case rel => exact ⟨k + 1, by omega, by go_num, HO4, HT4⟩
     case measure => simp [intOf]; omega
    ·obtain rfl : k = ws.length := by omega
     have e0 : halfTo vs ws.length = halve vs := by rw [<- HL.out]; exact zot9 vs
     rw [e0] at HO3
     have HW4 : Hid (Wts (halve vs)) := HW2.out.halve
     have HL4 : Hid ((halve vs).length = ws.length) := by show _ = _; rw [zq9]; exact HL.out
     have HLT : Hid (wsum (halve vs) < wsum vs) := HW2.out.less HNA.out
     have HS4 : Hid (wsum (halve vs) <= 1000000000000000) := by have := HLT.out; have := HS.out; show _ <= _; omega
     have HK4 : Hid (∀ ds, Sh (halve vs) ds -> Sh ws ds) := fun ds h => HK.out ds (Sh.on vs ds HNA.out h)
     clear e0 HW2 HNA HD HM HO2 HK HT
     go_wp2_with fail
     refine (znn9 _ (halve vs) wr HO3.out.rd (by rw [HL4.out]; exact hw2) (by rw [HL4.out]; exact hw3) HW4.out.pos _ rfl HS4.out).mono ?_
     rintro e w5 ⟨dv5, m5, rfl, hd5, hm50, hm51, hm52, hb5, hf5⟩
     have HF5 : Hid (∀ k, dv5.ownBlock = some k -> w.heap.size <= k) := fun k hk => Nat.le_trans HT3.out.size (hf5 k hk)
     clear hf5
     have HD5 : Hid (Rd .i64 w5 dv5 (deps (halve vs))) := hd5
     have HM5 : Hid (m5 <= 11 ↔ All11 (halve vs)) := hm52
     have HO5 : Hid (Owns .i64 3 w5 (.slice (some ⟨g, 0, none⟩) ws.length cap) (halve vs)) := HO3.out.below hb5
     have HT5 : Hid (Tch (fun k => k = g) w w5) := HT3.out.trans (S' := fun _ => False) (Tch.of_below hb5) (fun _ _ e => e.elim)
     have HMS5 : Hid (msr w5 g ws.length = wsum (halve vs)) := by show _ = _; rw [<- HL4.out]; exact zgw9 HO5.out
     clear hd5 hm52 hb5 HO3 HT3
     go_wp2_with fail
     go_roundw
     case rel => exact ⟨m5, halve vs, rfl, hm50, hm51, HD5, HM5, HW4, HL4, HS4, HO5, HK4, HT5, HF5⟩
     case measure => rw [HMS.out, HMS5.out]; exact HLT.out
theorem zyl9 (f : Nat -> Int) (n b : Nat) (h : b < n) : ((List.range n).map f).getD b 0 = f b := by simp [List.getD_eq_getElem?_getD, h]
theorem zey9 (n i : Nat) : (List.replicate n (0 : Int)).getD i 0 = 0 := by
 simp only [List.getD_eq_getElem?_getD, List.getElem?_replicate]
 split <;> simp
def st (cs : List Int) (k : Nat) : List Nat := (List.range k).filter fun i => 0 < cs.getD i 0
def stI (cs : List Int) (k : Nat) : List Int := (st cs k).map fun (i : Nat) => (i : Int)
def wt (cs : List Int) (k : Nat) : List Int := (st cs k).map fun i => cs.getD i 0
theorem zay9 (cs : List Int) (k : Nat) : st cs (k + 1) = if 0 < cs.getD k 0 then st cs k ++ [k] else st cs k := by
 unfold st
 rw [List.range_succ, List.filter_append]
 by_cases h : 0 < cs.getD k 0
 ·rw [if_pos h]; simp only [List.filter_cons, List.filter_nil, h, decide_true, if_true]
 ·rw [if_neg h]; simp only [List.filter_cons, List.filter_nil, h, decide_false]; simp
theorem mem_st {cs : List Int} {k i : Nat} : i ∈ st cs k ↔ i < k /\ 0 < cs.getD i 0 := by simp [st]
theorem st_le (cs : List Int) (k : Nat) : (st cs k).length <= k := by
 have := List.length_filter_le (fun i => decide (0 < cs.getD i 0)) (List.range k)
 simpa [st] using this
theorem zbw9 (cs : List Int) (k : Nat) : (stI cs k).length = (st cs k).length := by simp [stI]
theorem zk9 (cs : List Int) (k : Nat) : (wt cs k).length = (st cs k).length := by simp [wt]
abbrev rk (cs : List Int) (b : Nat) : Nat := (st cs b).length
theorem zre9 (cs : List Int) {b k : Nat} (h : b <= k) : (st cs k).take (rk cs b) = st cs b := by
 induction k with
 | zero => obtain rfl : b = 0 := by omega
           simp [st]
 | succ k ih =>
  by_cases e : b = k + 1
  ·subst e; exact List.take_length
  ·have := ih (by omega)
   rw [zay9]
   split
   ·have hle : (st cs b).length <= (st cs k).length := by
     have h2 := congrArg List.length this
     rw [List.length_take] at h2
     have h3 : min (st cs b).length (st cs k).length = (st cs b).length := h2
     omega
    rw [List.take_append_of_le_length hle]
    exact this
   ·exact this
theorem st_get (cs : List Int) {b k : Nat} (hb : b < k) (hp : 0 < cs.getD b 0) : rk cs b < (st cs k).length /\ (st cs k).getD (rk cs b) 0 = b := by
 have h1 := zre9 cs (b := b + 1) (k := k) (by omega)
 have h2 : st cs (b + 1) = st cs b ++ [b] := by rw [zay9, if_pos hp]
 have h3 : rk cs (b + 1) = rk cs b + 1 := by unfold rk; rw [h2]; simp
 have h4 : rk cs (b + 1) <= (st cs k).length := by
  have := congrArg List.length h1
  rw [List.length_take] at this
  have h5 : min (rk cs (b + 1)) (st cs k).length = rk cs (b + 1) := this
  omega
 refine ⟨by omega, ?_⟩
 have : ((st cs k).take (rk cs (b + 1))).getD (rk cs b) 0 = b := by
  rw [h1, h2]
  simp [List.getD_eq_getElem?_getD, rk]
 rw [List.getD_eq_getElem?_getD, List.getElem?_take, if_pos (by omega), <- List.getD_eq_getElem?_getD] at this
 exact this
theorem rk_st (cs : List Int) {k i : Nat} (hi : i < (st cs k).length) : rk cs ((st cs k).getD i 0) = i /\ (st cs k).getD i 0 < k /\ 0 < cs.getD ((st cs k).getD i 0) 0 := by
 induction k with
 | zero => simp [st] at hi
 | succ k ih =>
  rw [zay9] at hi ⊢
  split at hi
  ·rename_i hp
   rw [if_pos hp]
   by_cases e : i < (st cs k).length
   ·have := ih e
    have eg : (st cs k ++ [k]).getD i 0 = (st cs k).getD i 0 := by simp [List.getD_eq_getElem?_getD, List.getElem?_append_left e]
    rw [eg]
    exact ⟨this.1, by omega, this.2.2⟩
   ·simp at hi
    have ei : i = (st cs k).length := by omega
    subst ei
    have eg : (st cs k ++ [k]).getD (st cs k).length 0 = k := by simp [List.getD_eq_getElem?_getD]
    rw [eg]
    exact ⟨rfl, by omega, hp⟩
  ·rename_i hp
   rw [if_neg hp]
   have := ih hi
   exact ⟨this.1, by omega, this.2.2⟩
abbrev lastSt (cs : List Int) : Nat := (st cs cs.length).getD ((st cs cs.length).length - 1) 0
def lensTo (cs ds : List Int) (k : Nat) : List Int := (List.range (lastSt cs + 1)).map fun b => if 0 < cs.getD b 0 /\ rk cs b < k then ds.getD (rk cs b) 0 else 0
abbrev lens (cs ds : List Int) : List Int := lensTo cs ds (st cs cs.length).length
theorem zj9 (cs ds : List Int) (k : Nat) : (lensTo cs ds k).length = lastSt cs + 1 := by simp [lensTo]
theorem zu9 (cs ds : List Int) (k b : Nat) (hb : b <= lastSt cs) : (lensTo cs ds k).getD b 0 = if 0 < cs.getD b 0 /\ rk cs b < k then ds.getD (rk cs b) 0 else 0 := by
 unfold lensTo
 rw [zyl9 _ _ b (by omega)]
theorem zgj9 (cs ds : List Int) : lensTo cs ds 0 = List.replicate (lastSt cs + 1) 0 := by
 refine zg9 (by simp [zj9]) (fun i hi => ?_)
 rw [zj9] at hi
 rw [zu9 cs ds 0 i (by omega), if_neg (by omega)]
 rw [zey9]
theorem zca9 (cs : List Int) {i : Nat} (hi : i < (st cs cs.length).length) : (st cs cs.length).getD i 0 <= lastSt cs := by
 obtain ⟨h1, h2, h3⟩ := rk_st cs hi
 obtain ⟨g1, g2, g3⟩ := rk_st cs (k := cs.length) (i := (st cs cs.length).length - 1) (by omega)
 by_cases e : (st cs cs.length).getD i 0 <= lastSt cs
 ·exact e
 ·exfalso
  have hle : lastSt cs + 1 <= (st cs cs.length).getD i 0 := by omega
  have hm : (st cs (lastSt cs + 1)).length <= (st cs ((st cs cs.length).getD i 0)).length := by
   have := congrArg List.length (zre9 cs hle)
   rw [List.length_take] at this
   have h3 : min (st cs (lastSt cs + 1)).length (st cs ((st cs cs.length).getD i 0)).length = (st cs (lastSt cs + 1)).length := this
   omega
  have hs : (st cs (lastSt cs + 1)).length = (st cs (lastSt cs)).length + 1 := by
   rw [zay9, if_pos g3]; simp
  have g1' : (st cs (lastSt cs)).length = (st cs cs.length).length - 1 := g1
  have h1' : (st cs ((st cs cs.length).getD i 0)).length = i := h1
  omega
theorem zgg9 (cs ds : List Int) (k : Nat) (hk : k < (st cs cs.length).length) : lensTo cs ds (k + 1) = (lensTo cs ds k).set ((st cs cs.length).getD k 0) (ds.getD k 0) := by
 have hl := zca9 cs hk
 obtain ⟨h1, h2, h3⟩ := rk_st cs hk
 refine zg9 (by simp [zj9]) (fun b hb => ?_)
 rw [zj9] at hb
 rw [zax9, zu9 cs ds _ b (by omega), zu9 cs ds _ b (by omega), zj9]
 by_cases e : b = (st cs cs.length).getD k 0
 ·rw [if_pos (show b = _ /\ _ from ⟨e, by omega⟩), if_pos ⟨by rw [e]; exact h3, by rw [e, h1]; omega⟩, e, h1]
 ·have hne : ¬ (b = (st cs cs.length).getD k 0 /\ (st cs cs.length).getD k 0 < lastSt cs + 1) := fun x => e x.1
  rw [if_neg hne]
  by_cases hp : 0 < cs.getD b 0
  ·have hr : rk cs b ≠ k := by
    intro er
    by_cases hbl : b < cs.length
    ·have := (st_get cs hbl hp).2
     rw [er] at this
     exact e this.symm
    ·simp only [List.getD_eq_getElem?_getD, List.getElem?_eq_none (by omega : cs.length <= b), Option.getD_none] at hp
     omega
   by_cases hlt : rk cs b < k
   ·rw [if_pos ⟨hp, by omega⟩, if_pos ⟨hp, hlt⟩]
   ·rw [if_neg (fun x => by have := x.2; omega), if_neg (fun x => hlt x.2)]
  ·rw [if_neg (fun x => hp x.1), if_neg (fun x => hp x.1)]
structure OkC (cs : List Int) : Prop where
 most : cs.length <= 256
 each : ∀ i, i < cs.length -> 0 <= cs.getD i 0 /\ cs.getD i 0 <= 4294967295
 some : 0 < (st cs cs.length).length
def ShS (ws ds : List Int) : Prop := (ws.length = 1 /\ ds = [1]) ∨ (2 <= ws.length /\ Sh ws ds)
theorem zrd9 (cs : List Int) (k i : Nat) (hi : i < (st cs k).length) : (wt cs k).getD i 0 = cs.getD ((st cs k).getD i 0) 0 := by
 simp [wt, List.getD_eq_getElem?_getD, hi]
theorem zqk9 (cs : List Int) (k i : Nat) (hi : i < (st cs k).length) : (stI cs k).getD i 0 = ((st cs k).getD i 0 : Int) := by
 simp [stI, List.getD_eq_getElem?_getD, hi]
theorem wt_pos (cs : List Int) (k i : Nat) (hi : i < (wt cs k).length) : 0 < (wt cs k).getD i 0 := by
 rw [zk9] at hi
 rw [zrd9 cs k i hi]
 exact (rk_st cs hi).2.2
theorem OkC.wsum {cs : List Int} (h : OkC cs) : wsum (wt cs cs.length) <= 256 * 4294967295 := by
 have hl := st_le cs cs.length
 have hm := h.most
 have h1 : sumOn (List.range (wt cs cs.length).length) (cw (wt cs cs.length)) <= (List.range (wt cs cs.length).length).length * 4294967295 := znv9 (fun b hb => by
  have hb' : b < (st cs cs.length).length := by rw [<- zk9]; simpa using hb
  simp only [cw]
  rw [zrd9 cs _ b hb']
  have := h.each _ (rk_st cs hb').2.1
  omega)
 rw [List.length_range, zk9] at h1
 have h2 : (st cs cs.length).length * 4294967295 <= 256 * 4294967295 := Nat.mul_le_mul_right _ (by omega)
 have h3 : Go.Proofs.YtobenjkacpipeaaGreat.wsum (wt cs cs.length) = sumOn (List.range (st cs cs.length).length) (cw (wt cs cs.length)) := by unfold Go.Proofs.YtobenjkacpipeaaGreat.wsum sumOn; rw [zk9]
 omega
theorem ShS.len {ws ds : List Int} (h : ShS ws ds) (hp : ∀ i, i < ws.length -> 0 < ws.getD i 0) (hm : ws.length <= 256) : ds.length = ws.length := by
 rcases h with ⟨h1, rfl⟩ | ⟨h1, h2⟩
 ·simp [h1]
 ·obtain ⟨vs, _, h3, _, rfl⟩ := h2.facts ⟨h1, hm, hp⟩
  rw [zdm9, h3]
theorem zmj9 (g cap : Nat) (ws : List Int) (w : World) (ho : Owns .i64 3 w (.slice (some ⟨g, 0, none⟩) ws.length cap) ws) (h1 : 1 <= ws.length) (hm : ws.length <= 256) (hp : ∀ i, i < ws.length -> 0 < ws.getD i 0) (hS2 : wsum ws <= 1000000000000000) :
  Calls Tryz.prog 110 #[.slice (some ⟨g, 0, none⟩) ws.length cap] w fun e w' => ∃ dv ds, e = .returned dv /\ Rd .i64 w' dv ds /\ ShS ws ds /\ Tch (fun k => k = g) w w' /\ ∀ k, dv.ownBlock = some k -> w.heap.size <= k := by
 by_cases e : ws.length = 1
 ·rw [e]
  refine (zmh9 g cap w).mono ?_
  rintro e1 w' ⟨dv, rfl, h2, h3, h4⟩
  exact ⟨dv, [1], rfl, h2, .inl ⟨e, rfl⟩, Tch.of_below h3, h4⟩
 ·refine (zmq9 g cap ws w ho ⟨by omega, hm, hp⟩ hS2).mono ?_
  rintro e1 w' ⟨dv, ds, rfl, h2, h3, h4, h5⟩
  exact ⟨dv, ds, rfl, h2, .inr ⟨by omega, h3⟩, h4, h5⟩
def LPost (cs : List Int) (w : World) (e : Ending) (w' : World) : Prop :=
 ∃ lv E, e = .returned (.tuple #[lv, .int .i64 E]) /\ Below w.heap.size w w' /\ (∀ k, lv.ownBlock = some k -> w.heap.size <= k) ∧
  ((E = 1 /\ lv = .slice none 0 0 /\ ¬ OkC cs) ∨ (E = 0 /\ OkC cs /\ ∃ ds, Owns .i64 3 w' lv (lens cs ds) /\ ShS (wt cs cs.length) ds))
theorem LPost.bad {cs : List Int} {w w' : World} (hb : Below w.heap.size w w') (h : ¬ OkC cs) : LPost cs w (.returned (.tuple #[.slice none 0 0, .int .i64 1])) w' :=
 ⟨_, 1, rfl, hb, (fun k e => by cases e), .inl ⟨rfl, rfl, h⟩⟩
structure Two (w0 w : World) (sv wv : Value) (ss ws : List Int) : Prop where
 so : Owns .i64 3 w sv ss
 wo : Owns .i64 3 w wv ws
 ne : ∀ k, sv.ownBlock = some k -> wv.ownBlock ≠ some k
 sn : ∀ k, sv.ownBlock = some k -> w0.heap.size <= k
 wn : ∀ k, wv.ownBlock = some k -> w0.heap.size <= k
 bel : Below w0.heap.size w0 w
theorem Two.left {w0 w w' : World} {sv wv sv' : Value} {ss ws ss' : List Int} (h : Two w0 w sv wv ss ws) (ho : Owns .i64 3 w' sv' ss') (hg : Grew w w' sv sv') : Two w0 w' sv' wv ss' ws := by
 have hb := hg.onto h.bel h.sn
 refine ⟨ho, h.wo.tch hg.tch (fun j hj e => h.ne j e hj), fun k hk e => ?_, hb.2, h.wn, hb.1⟩
 rcases hg.fresh k hk with e2 | e2
 ·exact h.ne k e2 e
 ·have := h.wo.lt k e; omega
theorem Two.right {w0 w w' : World} {sv wv wv' : Value} {ss ws ws' : List Int} (h : Two w0 w sv wv ss ws) (ho : Owns .i64 3 w' wv' ws') (hg : Grew w w' wv wv') : Two w0 w' sv wv' ss ws' := by
 have hb := hg.onto h.bel h.wn
 refine ⟨h.so.tch hg.tch (fun j hj e => h.ne j hj e), ho, fun k hk e => ?_, h.sn, hb.2, hb.1⟩
 rcases hg.fresh k e with e2 | e2
 ·exact h.ne k hk e2
 ·have := h.so.lt k hk; omega
theorem zkc9 (a : Option Addr) (n cap : Nat) (cs : List Int) (w : World) (hn : cs.length = n) (h : 256 < n) :
  Calls Tryz.prog 83 #[.slice a n cap] w fun e w' => LPost cs w e w' := by
 have h' : (256 : Int) < (n : Int) := by omega
 have HB : Hid (¬ OkC cs) := fun e => by have := e.most; omega
 go_enter Tryz.func83, Tryz.ntmps83
 go_wp2
 go_ret2
 exact LPost.bad (Below.refl _ _) HB.out
theorem st_st (cs : List Int) (k : Nat) (x : Int) (hx : cs.getD k 0 = x) (h : 0 < x) : stI cs (k + 1) = stI cs k ++ [(k : Int)] /\ wt cs (k + 1) = wt cs k ++ [x] := by
 subst hx
 unfold stI wt
 rw [zay9, if_pos h]
 simp
theorem st_st0 (cs : List Int) (k : Nat) (x : Int) (hx : cs.getD k 0 = x) (h : ¬ 0 < x) : stI cs (k + 1) = stI cs k /\ wt cs (k + 1) = wt cs k := by
 subst hx
 unfold stI wt
 rw [zay9, if_neg h]
 exact ⟨rfl, rfl⟩
theorem zmg9 (v : Value) (cs : List Int) (w : World) (hr : Rd .i64 w v cs) : Calls Tryz.prog 83 #[v] w fun e w' => LPost cs w e w' := by
 obtain ⟨a, cap, rfl, hlc, hcm, _, hcc⟩ := hr
 by_cases h256 : 256 < cs.length
 ·exact zkc9 a _ cap cs w rfl h256
 have HC : Hid (cs = [] ∨ ∃ b o, a = some ⟨b, o, none⟩ /\ ∀ i, i < cs.length -> w.cell? ⟨b, o + i, none⟩ = some (.int .i64 (cs.getD i 0))) := hcc
 clear hcc
 obtain ⟨j0, hj, hy0, hy1, hy2⟩ := elem64.info
 go_enter Tryz.func83, Tryz.ntmps83
 go_wp2_with fail
 go_loopw [4, 5, 16] (fun s q i wr => ∃ k : Nat, k <= cs.length /\ i = .int .i64 k /\ Hid (Two w wr s q (stI cs k) (wt cs k)) /\ Hid (∀ j, j < k -> 0 <= cs.getD j 0 /\ cs.getD j 0 <= 4294967295)) (fun _ _ i _ => cs.length - (intOf i).toNat)
 case atStart => exact ⟨0, Nat.zero_le _, rfl, ⟨zf9 _ _ _, zf9 _ _ _, (fun k e => by cases e), (fun k e => by cases e), (fun k e => by cases e), Below.refl _ _⟩, fun j hj => by omega⟩
 case round =>
  obtain ⟨k, hk, rfl, T, HE⟩ := hrel
  by_cases hlt : k < cs.length
  ·obtain ⟨b, o, ha, hc⟩ : ∃ b o, a = some ⟨b, o, none⟩ /\ ∀ i, i < cs.length -> w.cell? ⟨b, o + i, none⟩ = some (.int .i64 (cs.getD i 0)) := by
    rcases HC.out with rfl | h
    ·simp at hlt
    ·exact h
   subst ha
   obtain ⟨x, hxe⟩ : ∃ x, Hid (cs.getD k 0 = x) := ⟨_, rfl⟩
   have cx : wr.cell? ⟨b, o + k, none⟩ = some (.int .i64 x) := by
    have h0 := hc k hlt
    rw [T.out.bel.cell (p := ⟨b, o + k, none⟩) (World.block_lt_of_cell? w ⟨b, o + k, none⟩ h0), h0, hxe.out]
   clear hc
   by_cases hbad : x < 0 ∨ 4294967295 < x
   ·have HB : Hid (¬ OkC cs) := fun e => by have := e.each k hlt; rw [hxe.out] at this; omega
    have HBL : Hid (Below w.heap.size w wr) := T.out.bel
    clear T
    rcases hbad with hbad | hbad
    all_goals
     go_wp2_with fail
     go_ret2
     exact LPost.bad HBL.out HB.out
   ·have HE2 : Hid (∀ j, j < k + 1 -> 0 <= cs.getD j 0 /\ cs.getD j 0 <= 4294967295) := fun j hj => by
     by_cases e : j < k
     ·exact HE.out j e
     ·have : j = k := by omega
      subst this
      rw [hxe.out]; omega
    have hx0 : 0 <= x := by omega
    have hx1 : x <= 4294967295 := by omega
    clear hbad
    have HL : Hid ((stI cs k).length <= 256 /\ (wt cs k).length <= 256) := by
     have := st_le cs k
     exact ⟨by rw [zbw9]; omega, by rw [zk9]; omega⟩
    by_cases hp : 0 < x
    ·go_wp2_with (at_builtin; refine zd9 _ rfl (.tmp 29) (.tmp 31) 56 rfl 3 .i64 8 elem64 _ (stI cs k) rfl T.out.so (k : Int) rfl (by have := HL.out.1; omega) (by have := HL.out.1; omega) ?_)
     intro s2 w2 ho2 hg2
     have T2 : Hid (Two w w2 s2 _ (stI cs k ++ [(k : Int)]) (wt cs k)) := T.out.left ho2 hg2
     clear ho2 hg2 T cx
     go_wp2_with (at_builtin; refine zd9 _ rfl (.tmp 33) (.tmp 35) 56 rfl 3 .i64 8 elem64 _ (wt cs k) rfl T2.out.wo x rfl (by have := HL.out.2; omega) (by have := HL.out.2; omega) ?_)
     intro q3 w3 ho3 hg3
     have T3 : Hid (Two w w3 s2 q3 (stI cs (k + 1)) (wt cs (k + 1))) := by
      show Two _ _ _ _ _ _
      rw [(st_st cs k x hxe.out hp).1, (st_st cs k x hxe.out hp).2]
      exact T2.out.right ho3 hg3
     clear ho3 hg3 T2
     go_wp2_with fail
     go_roundw
     case rel => exact ⟨k + 1, by omega, by go_num, T3, HE2⟩
     case measure => simp [intOf]; omega
    ·have T3 : Hid (Two w wr u4 u5 (stI cs (k + 1)) (wt cs (k + 1))) := by
      show Two _ _ _ _ _ _
      rw [(st_st0 cs k x hxe.out hp).1, (st_st0 cs k x hxe.out hp).2]
      exact T.out
     clear T
     go_wp2_with fail
     go_roundw
     case rel => exact ⟨k + 1, by omega, by go_num, T3, HE2⟩
     case measure => simp [intOf]; omega
  ·obtain rfl : k = cs.length := by omega
   have hstl := st_le cs cs.length
   obtain ⟨sa, sc, hs4⟩ : ∃ a c, u4 = .slice a (st cs cs.length).length c := by obtain ⟨a, c, e, _⟩ := T.out.so.rd; rw [zbw9] at e; exact ⟨a, c, e⟩
   subst hs4
   by_cases h0 : (st cs cs.length).length = 0
   ·have HB : Hid (¬ OkC cs) := fun e => by have := e.some; omega
    have HBL : Hid (Below w.heap.size w wr) := T.out.bel
    have h0' : (((st cs cs.length).length : Int) == 0) = true := by simp [h0]
    clear T
    go_wp2_with fail
    go_ret2
    exact LPost.bad HBL.out HB.out
   ·have HOK : Hid (OkC cs) := ⟨by omega, HE.out, by omega⟩
    have h0' : (((st cs cs.length).length : Int) == 0) = false := by
     rw [beq_eq_false_iff_ne]
     omega
    obtain ⟨n, hn⟩ : ∃ n, (st cs cs.length).length = n + 1 := ⟨(st cs cs.length).length - 1, by omega⟩
    have hT := T.out
    obtain ⟨gs, sc', es, _⟩ := Owns.shape hT.so (by rw [zbw9]; omega)
    simp only [Value.slice.injEq] at es
    obtain ⟨rfl, _, rfl⟩ := es
    obtain ⟨gw, wc, ew, _⟩ := Owns.shape hT.wo (by rw [zk9]; omega)
    rw [zk9] at ew
    subst ew
    rw [hn] at T hstl h0' ⊢
    obtain ⟨M, hM⟩ : ∃ M, Hid (lastSt cs = M) := ⟨_, rfl⟩
    have hMl : M < cs.length := by
     rw [<- hM.out]
     exact (rk_st cs (k := cs.length) (i := (st cs cs.length).length - 1) (by omega)).2.1
    have cM : wr.cell? ⟨gs, n, none⟩ = some (.int .i64 (M : Int)) := by
     have h1 := (hT.so.at1 n (by rw [zbw9]; omega)).1
     rw [zqk9 cs _ n (by omega)] at h1
     rw [h1, <- hM.out]
     simp only [lastSt, hn, Nat.add_sub_cancel]
    have hgw : gs ≠ gw := fun e => hT.ne gs rfl (by rw [e]; rfl)
    clear hT h0 HE
    go_wp2_with (at_make; refine wpList_make_full _ rfl (.tmp 47) (.tmp 47) 56 rfl 0 3 j0 _ 1 Tryz.underlying56 hj hy0 hy1 .i64 .i64 _ _ (M + 1) rfl rfl (by omega) (by omega) (by rw [hy2]; omega) (by unfold maxLen; omega) (Nat.zero_le _) ?_)
    intro w2 ho2 hg2
    have b2 : Below wr.heap.size wr w2 := (Below.refl _ _).grown hg2 (Nat.le_refl _) (fun k e => by cases e)
    obtain ⟨gl, hgl⟩ : ∃ gl, Hid (wr.heap.size = gl) := ⟨_, rfl⟩
    have OL2 : Hid (Owns .i64 3 w2 (.slice (some ⟨gl, 0, none⟩) (M + 1) (M + 1)) (List.replicate (M + 1) 0)) := by
     show w2.ownsRow _ _ _ _ _ _
     rw [toList_madeCells_one, hgl.out] at ho2
     simpa using ho2
    have OS2 : Hid (Owns .i64 3 w2 (.slice (some ⟨gs, 0, none⟩) (n + 1) sc) (stI cs cs.length)) := T.out.so.below b2
    have OW2 : Hid (Owns .i64 3 w2 (.slice (some ⟨gw, 0, none⟩) (n + 1) wc) (wt cs cs.length)) := T.out.wo.below b2
    have HB2 : Hid (Below w.heap.size w w2) := T.out.bel.trans (b2.mono T.out.bel.size)
    have hgs : gs < gl := by rw [<- hgl.out]; exact T.out.so.lt gs rfl
    have hgw2 : gw < gl := by rw [<- hgl.out]; exact T.out.wo.lt gw rfl
    have HGL : Hid (w.heap.size <= gl /\ w.heap.size <= gw) := ⟨by rw [<- hgl.out]; exact T.out.bel.size, T.out.wn gw rfl⟩
    have hgl2 : gl < w2.heap.size := OL2.out.lt gl rfl
    rw [hgl.out]
    clear ho2 hg2 b2 T cM hj hy0 hy1 hy2
    have HN : Hid ((wt cs cs.length).length = n + 1) := by show _ = _; rw [zk9, hn]
    have hsh := zmj9 gw wc (wt cs cs.length) w2 (by rw [HN.out]; exact OW2.out) (by rw [HN.out]; omega) (by rw [HN.out]; omega) (fun i hi => wt_pos cs _ i hi) (by have := HOK.out.wsum; omega)
    rw [HN.out] at hsh
    go_wp2_with fail
    refine hsh.mono ?_
    clear hsh
    rintro e w3 ⟨dv, ds, rfl, hd3, hs3, ht3, hf3⟩
    have hdl : ds.length = n + 1 := by rw [hs3.len (fun i hi => wt_pos cs _ i hi) (by rw [HN.out]; omega), HN.out]
    have HDL : Hid (ds.length = n + 1) := hdl
    have OL3 : Hid (Owns .i64 3 w3 (.slice (some ⟨gl, 0, none⟩) (M + 1) (M + 1)) (lensTo cs ds 0)) := by
     show Owns _ _ _ _ _
     rw [zgj9, hM.out]
     exact OL2.out.tch ht3 (fun j hj e => by simp only [Value.ownBlock, Option.some.injEq] at hj; omega)
    have OS3 : Hid (Owns .i64 3 w3 (.slice (some ⟨gs, 0, none⟩) (n + 1) sc) (stI cs cs.length)) := OS2.out.tch ht3 (fun j hj e => by simp only [Value.ownBlock, Option.some.injEq] at hj; omega)
    have HB3 : Hid (Below w.heap.size w w3) := HB2.out.trans (ht3.below HB2.out.size (fun k e => by rw [e]; exact HGL.out.2))
    have HSH : Hid (ShS (wt cs cs.length) ds) := hs3
    obtain ⟨da, dc, rfl, _, _, _, hdc⟩ := hd3
    obtain ⟨db, dof, rfl, hdc2⟩ : ∃ b o, da = some ⟨b, o, none⟩ /\ ∀ i, i < ds.length -> w3.cell? ⟨b, o + i, none⟩ = some (.int .i64 (ds.getD i 0)) := by
     rcases hdc with e | h
     ·rw [e] at hdl; simp at hdl
     ·exact h
    have hdb : gl ≠ db := by have := hf3 db rfl; omega
    have HDC : Hid (∀ i, i < ds.length -> w3.cell? ⟨db, dof + i, none⟩ = some (.int .i64 (ds.getD i 0))) := hdc2
    rw [hdl]
    clear hs3 ht3 hf3 hdc hdc2 hdl OL2 OS2 OW2 HB2
    go_wp2_with fail
    go_loopw [52] (fun i wr => ∃ k : Nat, k <= n + 1 /\ i = .int .i64 k /\ Hid (Owns .i64 3 wr (.slice (some ⟨gl, 0, none⟩) (M + 1) (M + 1)) (lensTo cs ds k)) /\ Hid (Tch (fun k => k = gl) w3 wr)) (fun i _ => n + 1 - (intOf i).toNat)
    case atStart => exact ⟨0, Nat.zero_le _, rfl, OL3, Tch.refl _ _⟩
    case round =>
     obtain ⟨k, hk, rfl, OL, T⟩ := hrel
     by_cases hlt : k < n + 1
     ·obtain ⟨x, hx⟩ : ∃ x, Hid (ds.getD k 0 = x) := ⟨_, rfl⟩
      obtain ⟨y, hy⟩ : ∃ y, Hid ((st cs cs.length).getD k 0 = y) := ⟨_, rfl⟩
      have hyM : y <= M := by rw [<- hM.out, <- hy.out]; exact zca9 cs (by rw [hn]; exact hlt)
      have h3c := HDC.out k (by rw [HDL.out]; exact hlt)
      have cx : wr.cell? ⟨db, dof + k, none⟩ = some (.int .i64 x) := by
       rw [T.out.cell (p := ⟨db, dof + k, none⟩) (World.block_lt_of_cell? w3 ⟨db, dof + k, none⟩ h3c) (fun e => hdb e.symm), h3c, hx.out]
      have cs3 := (OS3.out.at1 k (by rw [zbw9, hn]; exact hlt))
      have cy : wr.cell? ⟨gs, k, none⟩ = some (.int .i64 (y : Int)) := by
       rw [T.out.cell (p := ⟨gs, k, none⟩) cs3.2.2 (fun e => by simp only at e; omega), cs3.1, zqk9 cs _ k (by rw [hn]; exact hlt), hy.out]
      obtain ⟨cl, fl, _⟩ := OL.out.at1 y (by rw [zj9, hM.out]; omega)
      have OL5 : Hid (Owns .i64 3 (wr.setCell ⟨gl, y, none⟩ (.int .i64 x)) (.slice (some ⟨gl, 0, none⟩) (M + 1) (M + 1)) (lensTo cs ds (k + 1))) := by
       show Owns _ _ _ _ _
       rw [zgg9 cs ds k (by rw [hn]; exact hlt), hy.out, hx.out]
       exact OL.out.set y x
      have T5 : Hid (Tch (fun k => k = gl) w3 (wr.setCell ⟨gl, y, none⟩ (.int .i64 x))) := Tch.setCell T.out (p := ⟨gl, y, none⟩) (fun _ => rfl) _
      clear h3c cs3 OL T
      go_wp2_with fail
      go_roundw
      case rel => exact ⟨k + 1, by omega, by go_num, OL5, T5⟩
      case measure => simp [intOf]; omega
     ·obtain rfl : k = n + 1 := by omega
      go_wp2_with fail
      go_ret2
      refine ⟨.slice (some ⟨gl, 0, none⟩) (M + 1) (M + 1), 0, rfl, HB3.out.trans (T.out.below HB3.out.size (fun k e => by rw [e]; exact HGL.out.1)), fun k hk => ?_, .inr ⟨rfl, HOK.out, ds, ?_, HSH.out⟩⟩
      ·simp only [Value.ownBlock, Option.some.injEq] at hk
       have := HGL.out.1
       omega
      ·unfold lens
       rw [hn]
       exact OL.out
end Go.Proofs.YtobenjkacpipeaaGreat
