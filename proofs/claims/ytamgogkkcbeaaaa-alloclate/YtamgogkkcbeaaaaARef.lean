/-
  The document's map: a row of states, counted and read.
-/
import Derived.Test.YtamgogkkcbeaaaaANew
namespace Go.Proofs.Ytamgogkkcbeaaaa
open Go.RowKit Ah
set_option linter.unusedVariables false
set_option maxRecDepth 100000

theorem new_bad (lo hi : Int) (hb : lo < 0 ∨ 65536 < hi ∨ hi < lo) (w : World) :
    Calls Try.prog 8 #[.int .i64 lo, .int .i64 hi] w fun e w' => e = .returned (.tuple #[.pointer none, .int .i64 1]) ∧ w' = w := by
  by_cases h1 : lo < 0
  · clear hb
    go_enter Try.func8, Try.ntmps8
    go_wp2_with fail
    all_goals first | (go_ret2; exact ⟨rfl, rfl⟩) | omega
  · by_cases h2 : 65536 < hi
    · clear hb
      go_enter Try.func8, Try.ntmps8
      go_wp2_with fail
      all_goals first | (go_ret2; exact ⟨rfl, rfl⟩) | omega
    · have h3 : hi < lo := by omega
      clear hb
      go_enter Try.func8, Try.ntmps8
      go_wp2_with fail
      all_goals first | (go_ret2; exact ⟨rfl, rfl⟩) | omega

structure RmAt (w : World) (R : Nat) (s : St) (vr : Value) : Prop where
  blk : w.heap[R]? = some (.cells #[.int .i64 s.lo, vr, .int .i64 s.as] 58 (0, 0))
  own : OwnsI w vr s.L
  ok : Sok s

/-- The document's map at block R, whose blocks are among Y. -/
def Rm (w : World) (R : Nat) (s : St) (Y : Nat → Prop) : Prop := ∃ vr, RmAt w R s vr ∧ (∀ k, k = R ∨ vr.ownBlock = some k → Y k) ∧ ∀ k, Y k → k < w.heap.size

section
variable {w : World} {R : Nat} {s : St} {vr : Value} {Y : Nat → Prop}
theorem RmAt.c0 (H : RmAt w R s vr) : w.cell? ⟨R, 0, none⟩ = some (.int .i64 s.lo) := by rw [cell_of_row w R 0 _ _ (0, 0) H.blk]; rfl
theorem RmAt.c1 (H : RmAt w R s vr) : w.cell? ⟨R, 1, none⟩ = some vr := by rw [cell_of_row w R 1 _ _ (0, 0) H.blk]; rfl
theorem RmAt.c2 (H : RmAt w R s vr) : w.cell? ⟨R, 2, none⟩ = some (.int .i64 s.as) := by rw [cell_of_row w R 2 _ _ (0, 0) H.blk]; rfl
theorem RmAt.fz (H : RmAt w R s vr) (i : Nat) : w.frozen? ⟨R, i, none⟩ = false := frozen_of_row w R i _ _ H.blk
theorem RmAt.lt (H : RmAt w R s vr) : R < w.heap.size := (Array.getElem?_eq_some_iff.1 H.blk).1
theorem RmAt.ne (H : RmAt w R s vr) {k : Nat} (hk : vr.ownBlock = some k) : k ≠ R := owns_neA H.own H.blk (show (58 : TypeId) ≠ 3 by decide) hk
theorem RmAt.tch {S : Nat → Prop} {w' : World} (H : RmAt w R s vr) (ht : Tch S w w') (h1 : ¬ S R) (h2 : ∀ k, vr.ownBlock = some k → ¬ S k) : RmAt w' R s vr :=
  ⟨by rw [ht.block R H.lt h1]; exact H.blk, H.own.tch ht h2, H.ok⟩
theorem Rm.tch {S : Nat → Prop} {w' : World} (H : Rm w R s Y) (ht : Tch S w w') (hn : ∀ k, Y k → ¬ S k) : Rm w' R s Y := by
  obtain ⟨vr, h, hy, hl⟩ := H
  exact ⟨vr, h.tch ht (hn R (hy R (.inl rfl))) (fun k hk => hn k (hy k (.inr hk))), hy, fun k hk => Nat.lt_of_lt_of_le (hl k hk) ht.size⟩
theorem Rm.ok (H : Rm w R s Y) : Sok s := by obtain ⟨_, h, _⟩ := H; exact h.ok
theorem Rm.lt (H : Rm w R s Y) : ∀ k, Y k → k < w.heap.size := by obtain ⟨_, _, _, h⟩ := H; exact h
/-- It has turned, in its own blocks. -/
theorem Rm.made {w' : World} {s' : St} (hy : ∀ k, k = R ∨ vr.ownBlock = some k → Y k) (hl : ∀ k, Y k → k < w.heap.size) (H : RmAt w' R s' vr) (ht : Tch (fun k => k = R ∨ vr.ownBlock = some k) w w') : Rm w' R s' Y ∧ Tch Y w w' :=
  ⟨⟨vr, H, hy, fun k hk => Nat.lt_of_lt_of_le (hl k hk) ht.size⟩, ht.mono (fun k _ e => hy k e)⟩
end

abbrev rp (R : Nat) : Value := .pointer (some ⟨R, 0, none⟩)

theorem cnt_take (L : List Int) (k : Nat) (h : k < L.length) (x : Int) : (L.take (k + 1)).count x = (L.take k).count x + if G L k = x then 1 else 0 := by
  rw [List.take_succ_eq_append_getElem h, List.count_append]
  congr 1
  have e : L[k] = G L k := by simp [G, List.getD_eq_getElem?_getD, h]
  rw [e]
  simp only [List.count_cons, List.count_nil, beq_iff_eq, Nat.zero_add]

set_option maxHeartbeats 1000000 in
theorem count_at (R : Nat) (s : St) (vr : Value) (x : Int) (w : World) (H : RmAt w R s vr) :
    Calls Try.prog 15 #[rp R, .int .i64 x] w fun e w' => e = .returned (.int .i64 (s.L.count x)) ∧ w' = w := by
  have HH : Hid (RmAt w R s vr) := H
  have c1 := H.c1
  obtain ⟨a, cap, rfl, hcap, hmax, _, hcells⟩ := H.own.rd
  have htop := H.ok.top
  obtain ⟨m, hm⟩ : ∃ m, Hid (s.L.length = m) := ⟨_, rfl⟩
  have HC : Hid (s.L = [] ∨ ∃ b o, a = some ⟨b, o, none⟩ ∧ ∀ i, i < s.L.length → w.cell? ⟨b, o + i, none⟩ = some (.int .i64 (s.L.getD i 0))) := hcells
  rw [hm.out] at c1 hcap htop
  have hm9 : m ≤ 65536 := by omega
  unfold maxLen at hmax
  clear H hcells htop
  go_enter Try.func15, Try.ntmps15
  go_wp2_with fail
  go_loopw [5, 6] (fun n i wr => ∃ (k c : Nat), k ≤ m ∧ c ≤ k ∧ i = .int .i64 k ∧ n = .int .i64 c ∧ Hid ((s.L.take k).count x = c) ∧ wr = w) (fun _ i _ => m - (intOf i).toNat)
  case atStart => exact ⟨0, 0, Nat.zero_le _, Nat.le_refl _, rfl, rfl, by simp [Hid], rfl⟩
  case round =>
    obtain ⟨k, c, hk, hck, rfl, rfl, HCN, rfl⟩ := hrel
    by_cases hlt : k < m
    · obtain ⟨b, o, rfl, hcl⟩ : ∃ b o, a = some ⟨b, o, none⟩ ∧ ∀ i, i < s.L.length → wr.cell? ⟨b, o + i, none⟩ = some (.int .i64 (s.L.getD i 0)) := by
        rcases HC.out with e | e
        · have := hm.out; rw [e] at this; simp at this; omega
        · exact e
      have ck := hcl k (by rw [hm.out]; exact hlt)
      obtain ⟨y, hy⟩ : ∃ y, Hid (s.L.getD k 0 = y) := ⟨_, rfl⟩
      rw [hy.out] at ck
      have HN : Hid ((s.L.take (k + 1)).count x = c + if y = x then 1 else 0) := by
        show _ = _
        rw [cnt_take s.L k (by rw [hm.out]; exact hlt), HCN.out]
        have : G s.L k = y := hy.out
        rw [this]
      clear hcl
      by_cases hyx : y = x
      · have hyx' : (y == x) = true := by simp [hyx]
        have HN2 : Hid ((s.L.take (k + 1)).count x = c + 1) := by have := HN.out; rw [if_pos hyx] at this; exact this
        clear hyx
        go_wp2_with fail
        go_roundw
        case rel => exact ⟨k + 1, c + 1, by omega, by omega, by first | rfl | go_num, by first | rfl | go_num, HN2, by first | rfl | trivial⟩
        case measure => simp [intOf]; omega
      · have hyx' : (y == x) = false := by simp [hyx]
        have HN2 : Hid ((s.L.take (k + 1)).count x = c) := by have := HN.out; rw [if_neg hyx] at this; exact this
        clear hyx
        go_wp2_with fail
        go_roundw
        case rel => exact ⟨k + 1, c, by omega, by omega, by first | rfl | go_num, rfl, HN2, by first | rfl | trivial⟩
        case measure => simp [intOf]; omega
    · have hkm : k = m := by omega
      have HF : Hid ((c : Int) = s.L.count x) := by
        show _ = _
        rw [← HCN.out, hkm, ← hm.out, List.take_length]
      have hd : decide (k < m) = false := by simp; omega
      clear hkm
      go_wp2_with fail
      go_ret
      exact ⟨by have := HF.out; simp only [Array.getD, ← this]; rfl, rfl⟩

set_option maxHeartbeats 1000000 in
theorem state_at (R : Nat) (s : St) (vr : Value) (n : Int) (hn : (Lit.int .i64 n).wf = true) (w : World) (H : RmAt w R s vr) :
    Calls Try.prog 38 #[rp R, .int .i64 n] w fun e w' => e = .returned (.int .i64 (stv s n)) ∧ ∃ q, w' = w.drewN q := by
  have c0 := H.c0
  have c1 := H.c1
  have htop := H.ok.top
  obtain ⟨a, cap, hv, hcap, hmax, _⟩ := H.own.rd
  obtain ⟨m, hm⟩ : ∃ m, Hid (s.L.length = m) := ⟨_, rfl⟩
  obtain ⟨l, hl⟩ : ∃ l, Hid (s.lo = l) := ⟨_, rfl⟩
  by_cases h0 : n < s.lo
  · have e : stv s n = -1 := stv_out (.inl h0)
    rw [e]
    rw [hl.out] at c0 h0 htop
    rw [hm.out] at htop
    have hd : decide (n < (l : Int)) = true := by simp; omega
    clear H hv hcap hmax e hn
    go_enter Try.func38, Try.ntmps38
    go_wp2_with fail
    go_quiet (fail)
    go_wp2_with fail
    go_ret
    exact ⟨rfl, _, rfl⟩
  · obtain ⟨t, rfl⟩ : ∃ t : Nat, n = t := ⟨n.toNat, by omega⟩
    by_cases h1 : t < s.lo + s.L.length
    · obtain ⟨g, cap', rfl, hg, hcap', hmax', hc, _⟩ := H.own.shape (by omega)
      obtain ⟨i, hi, e1, e2⟩ := stv_idx (s := s) (n := (t : Int)) (by unfold stv; rw [if_pos (by omega)]; have := H.ok.val (((t : Int) - s.lo).toNat) (by omega); omega)
      have ct := hc i hi
      rw [e2]
      obtain ⟨y, hy⟩ : ∃ y, Hid (G s.L i = y) := ⟨_, rfl⟩
      have hy2 : s.L.getD i 0 = y := hy.out
      rw [hy2] at ct
      rw [hy.out]
      have e1b : t = s.lo + i := by omega
      rw [hl.out] at c0 htop e1b h1
      rw [hm.out] at c1 htop hcap' hi h1
      have hd0 : decide (t < l) = false := by simp; omega
      have hd1 : decide (l + m ≤ t) = false := by simp; omega
      have hs1 : (t : Int) - (l : Int) = (i : Int) := by omega
      unfold maxLen at hmax'
      clear H hv hcap hmax hn hc hy2 h0 e2 e1 e1b
      go_enter Try.func38, Try.ntmps38
      go_wp2_with fail
      go_quiet (fail)
      go_wp2_with fail
      go_quiet (fail)
      go_wp2_with fail
      go_ret
      exact ⟨rfl, _, World.drewN_drewN _ _ _⟩
    · have e : stv s t = -1 := stv_out (.inr (by omega))
      rw [e]
      subst hv
      rw [hl.out] at c0 h0 htop h1
      rw [hm.out] at c1 htop h1
      have hd0 : decide (t < l) = false := by simp; omega
      have hd1 : decide (l + m ≤ t) = true := by simp; omega
      clear H hcap hmax e hn
      go_enter Try.func38, Try.ntmps38
      go_wp2_with fail
      go_quiet (fail)
      go_wp2_with fail
      go_ret
      exact ⟨rfl, _, rfl⟩
end Go.Proofs.Ytamgogkkcbeaaaa
