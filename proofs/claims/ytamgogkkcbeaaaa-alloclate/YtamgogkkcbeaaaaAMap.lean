/-
  The map in memory: its states, its free numbers, those that are given back, how many are set aside.
-/
import Derived.Test.YtamgogkkcbeaaaaAFree
namespace Go.Proofs.Ytamgogkkcbeaaaa
open Go.RowKit Ah
set_option linter.unusedVariables false
set_option maxRecDepth 100000

abbrev OwnsS (w : World) (v : Value) (xs : List Int) : Prop := Owns .u8 56 w v xs

/-- States and free numbers of a map at block M. -/
structure Pf (w : World) (M : Nat) (s : St) (vs v u : Value) (post : List Value) (ns : List Int) : Prop where
  fr : Fr w ⟨M, 55, [vs], post⟩ v u (s.lo + s.L.length) ns
  st : OwnsS w vs (sts s.lo s.L)
  heap : Heap ns ns.length
  ks : Ks 0 s ns
  top : s.lo + s.L.length ≤ 65536

structure PmAt (w : World) (M : Nat) (s : St) (vs v u vb : Value) (ns bk : List Int) : Prop where
  pf : Pf w M s vs v u [vb, .int .i64 s.as] ns
  bo : OwnsI w vb bk
  kb : Ks 2 s bk
  a1 : ∀ k, vb.ownBlock = some k → v.ownBlock ≠ some k
  a2 : ∀ k, vb.ownBlock = some k → u.ownBlock ≠ some k
  ok : Sok s

def Px (M : Nat) (vs v u vb : Value) (k : Nat) : Prop := k = M ∨ vs.ownBlock = some k ∨ v.ownBlock = some k ∨ u.ownBlock = some k ∨ vb.ownBlock = some k

/-- A map at block M, whose blocks are among X. -/
def Pm (w : World) (M : Nat) (s : St) (X : Nat → Prop) : Prop :=
  ∃ vs v u vb ns bk, PmAt w M s vs v u vb ns bk ∧ (∀ k, Px M vs v u vb k → X k) ∧ ∀ k, X k → k < w.heap.size

/-- X and what is new. -/
def ext (w w' : World) (X : Nat → Prop) (k : Nat) : Prop := X k ∨ (w.heap.size ≤ k ∧ k < w'.heap.size)

theorem owns_apart {k1 k2 : IntKind} {e1 e2 : TypeId} {w : World} {v u : Value} {xs ys : List Int} (h : Owns k1 e1 w v xs) (h2 : Owns k2 e2 w u ys) (hne : e1 ≠ e2) {k : Nat} (hk : v.ownBlock = some k) : u.ownBlock ≠ some k := by
  intro e
  obtain ⟨c1, h1⟩ := block_of_ownsA (w := w) h hk
  obtain ⟨c2, h2⟩ := block_of_ownsA (w := w) h2 e
  rw [h1] at h2
  simp at h2
  exact hne h2.2

section
variable {w : World} {M : Nat} {s : St} {vs v u vb : Value} {post : List Value} {ns bk : List Int} {X : Nat → Prop}

theorem Pf.c0 (H : Pf w M s vs v u post ns) : w.cell? ⟨M, 0, none⟩ = some vs := by
  rw [cell_of_row w M 0 _ _ (0, 0) H.fr.blk]; rfl
theorem Pf.c1 (H : Pf w M s vs v u post ns) : w.cell? ⟨M, 1, none⟩ = some v := H.fr.c0
theorem PmAt.c3 (H : PmAt w M s vs v u vb ns bk) : w.cell? ⟨M, 3, none⟩ = some vb := by
  rw [cell_of_row w M 3 _ _ (0, 0) H.pf.fr.blk]; rfl
theorem PmAt.c4 (H : PmAt w M s vs v u vb ns bk) : w.cell? ⟨M, 4, none⟩ = some (.int .i64 s.as) := by
  rw [cell_of_row w M 4 _ _ (0, 0) H.pf.fr.blk]; rfl
theorem Pf.fz (H : Pf w M s vs v u post ns) (i : Nat) : w.frozen? ⟨M, i, none⟩ = false := H.fr.fz i
theorem Pf.lt (H : Pf w M s vs v u post ns) : M < w.heap.size := H.fr.lt
theorem Pf.neS (H : Pf w M s vs v u post ns) {k : Nat} (hk : vs.ownBlock = some k) : k ≠ M := owns_neA H.st H.fr.blk (show (55 : TypeId) ≠ 56 by decide) hk
theorem Pf.sv (H : Pf w M s vs v u post ns) {k : Nat} (hk : vs.ownBlock = some k) : v.ownBlock ≠ some k := owns_apart H.st H.fr.own (by decide) hk
theorem Pf.su (H : Pf w M s vs v u post ns) {k : Nat} (hk : vs.ownBlock = some k) : u.ownBlock ≠ some k := by
  obtain ⟨ps, _, ho, _⟩ := H.fr.pls
  exact owns_apart H.st ho (by decide) hk
theorem PmAt.sb (H : PmAt w M s vs v u vb ns bk) {k : Nat} (hk : vs.ownBlock = some k) : vb.ownBlock ≠ some k := owns_apart H.pf.st H.bo (by decide) hk
theorem PmAt.neB (H : PmAt w M s vs v u vb ns bk) {k : Nat} (hk : vb.ownBlock = some k) : k ≠ M := owns_neA H.bo H.pf.fr.blk (show (55 : TypeId) ≠ 3 by decide) hk
theorem Pf.ltU (H : Pf w M s vs v u post ns) {k : Nat} (hk : u.ownBlock = some k) : k < w.heap.size := by
  obtain ⟨ps, _, ho, _⟩ := H.fr.pls
  exact ho.lt k hk
theorem Pf.tch {S : Nat → Prop} {w' : World} (H : Pf w M s vs v u post ns) (ht : Tch S w w') (hM : ¬ S M) (hs : ∀ k, vs.ownBlock = some k → ¬ S k) (hv : ∀ k, v.ownBlock = some k → ¬ S k) (hu : ∀ k, u.ownBlock = some k → ¬ S k) : Pf w' M s vs v u post ns :=
  ⟨H.fr.tch ht hM hv hu, H.st.tch ht hs, H.heap, H.ks, H.top⟩
theorem PmAt.tch {S : Nat → Prop} {w' : World} (H : PmAt w M s vs v u vb ns bk) (ht : Tch S w w') (hn : ∀ k, Px M vs v u vb k → ¬ S k) : PmAt w' M s vs v u vb ns bk :=
  ⟨H.pf.tch ht (hn M (.inl rfl)) (fun k h => hn k (.inr (.inl h))) (fun k h => hn k (.inr (.inr (.inl h)))) (fun k h => hn k (.inr (.inr (.inr (.inl h))))), H.bo.tch ht (fun k h => hn k (.inr (.inr (.inr (.inr h))))), H.kb, H.a1, H.a2, H.ok⟩
/-- What is not touched stays. -/
theorem Pm.tch {S : Nat → Prop} {w' : World} (H : Pm w M s X) (ht : Tch S w w') (hn : ∀ k, X k → ¬ S k) : Pm w' M s X := by
  obtain ⟨vs, v, u, vb, ns, bk, h, hx, hl⟩ := H
  exact ⟨vs, v, u, vb, ns, bk, h.tch ht (fun k hk => hn k (hx k hk)), hx, fun k hk => Nat.lt_of_lt_of_le (hl k hk) ht.size⟩
theorem Pm.ok (H : Pm w M s X) : Sok s := by obtain ⟨_, _, _, _, _, _, h, _⟩ := H; exact h.ok
theorem Pm.lt (H : Pm w M s X) : ∀ k, X k → k < w.heap.size := by obtain ⟨_, _, _, _, _, _, _, _, h⟩ := H; exact h
theorem Pm.memM (H : Pm w M s X) : X M := by obtain ⟨_, _, _, _, _, _, _, h, _⟩ := H; exact h M (.inl rfl)

/-- A map that has turned. -/
theorem Pm.made {w' : World} {s' : St} {v' vb' : Value} {ns' bk' : List Int} (hx : ∀ k, Px M vs v u vb k → X k) (hl : ∀ k, X k → k < w.heap.size) (H : PmAt w' M s' vs v' u vb' ns' bk') (hv : ∀ k, v'.ownBlock = some k → v.ownBlock = some k ∨ w.heap.size ≤ k) (hb : ∀ k, vb'.ownBlock = some k → vb.ownBlock = some k ∨ w.heap.size ≤ k)
    (ht : Tch (Px M vs v u vb) w w') : Pm w' M s' (ext w w' X) ∧ Tch X w w' := by
  refine ⟨⟨vs, v', u, vb', ns', bk', H, fun k hk => ?_, fun k hk => ?_⟩, ht.mono (fun k _ e => hx k e)⟩
  · rcases hk with e | e | e | e | e
    · exact .inl (hx k (.inl e))
    · exact .inl (hx k (.inr (.inl e)))
    · rcases hv k e with e2 | e2
      · exact .inl (hx k (.inr (.inr (.inl e2))))
      · exact .inr ⟨e2, H.pf.fr.own.lt k e⟩
    · exact .inl (hx k (.inr (.inr (.inr (.inl e)))))
    · rcases hb k e with e2 | e2
      · exact .inl (hx k (.inr (.inr (.inr (.inr e2)))))
      · exact .inr ⟨e2, H.bo.lt k e⟩
  · rcases hk with e | ⟨_, e⟩
    · exact Nat.lt_of_lt_of_le (hl k e) ht.size
    · exact e
end

/-- A number's state. -/
theorem stateOf_any (M : Nat) (s : St) (vs v u : Value) (post : List Value) (ns : List Int) (n : Int) (w : World) (H : Pf w M s vs v u post ns) :
    Calls Try.prog 37 #[.pointer (some ⟨M, 0, none⟩), .int .i64 n] w fun e w' => e = .returned (.int .u8 (stv s n + 1)) ∧ w' = w := by
  have c0 := H.c0
  have hst := H.st
  have htop := H.top
  obtain ⟨a, cap, hvs, hcap, hmax, _⟩ := hst.rd
  have hlen := sts_length s.lo s.L
  by_cases h0 : n < 0
  · have e : stv s n = -1 := stv_out (.inl (by omega))
    rw [e]
    rw [hvs] at c0
    clear hvs hst hcap hlen H e htop
    go_enter Try.func37, Try.ntmps37
    go_wp2_with fail
    go_ret
    exact ⟨rfl, rfl⟩
  · obtain ⟨t, rfl⟩ : ∃ t : Nat, n = t := ⟨n.toNat, by omega⟩
    by_cases h1 : t < s.lo + s.L.length
    · obtain ⟨g, cap', rfl, hg, hcap', hmax', hc, _⟩ := hst.shape (by rw [hlen]; omega)
      have ct := hc t (by rw [hlen]; omega)
      have e : (sts s.lo s.L).getD t 0 = stv s t + 1 := sts_at s t h1
      rw [e] at ct
      rw [hlen] at c0 hcap'
      obtain ⟨m, hm⟩ : ∃ m, Hid (s.lo + s.L.length = m) := ⟨_, rfl⟩
      obtain ⟨z, hz⟩ : ∃ z, Hid (stv s t + 1 = z) := ⟨_, rfl⟩
      rw [hm.out] at c0 hcap' h1
      rw [hz.out] at ct ⊢
      have h1' : decide (m ≤ t) = false := by simp; omega
      unfold maxLen at hmax'
      clear hvs hst hcap hlen H e hmax hc htop h0
      go_enter Try.func37, Try.ntmps37
      go_wp2_with fail
      go_ret
      exact ⟨rfl, rfl⟩
    · have e : stv s t = -1 := stv_out (.inr (by omega))
      rw [e]
      rw [hvs, hlen] at c0
      obtain ⟨m, hm⟩ : ∃ m, Hid (s.lo + s.L.length = m) := ⟨_, rfl⟩
      rw [hm.out] at c0 h1
      have h1' : decide (m ≤ t) = true := by simp; omega
      clear hvs hst hcap hlen H e hmax htop h0
      go_enter Try.func37, Try.ntmps37
      go_wp2_with fail
      go_ret
      exact ⟨rfl, rfl⟩

set_option maxHeartbeats 1000000 in
/-- One is free again. -/
theorem letFree_any (M : Nat) (s : St) (vs v u : Value) (post : List Value) (ns : List Int) (i : Nat) (w : World) (H : Pf w M s vs v u post ns) (hi : i < s.L.length) (h0 : G s.L i ≠ 0) :
    Calls Try.prog 41 #[.pointer (some ⟨M, 0, none⟩), .int .i64 ((s.lo + i : Nat) : Int)] w fun e w' => e = .returned (.tuple #[]) ∧
      ∃ v' ns', Pf w' M (put s i 0) vs v' u post ns' ∧ (∀ k, v'.ownBlock = some k → v.ownBlock = some k ∨ w.heap.size ≤ k) ∧ Tch (fun k => k = M ∨ vs.ownBlock = some k ∨ v.ownBlock = some k ∨ u.ownBlock = some k) w w' := by
  have HH : Hid (Pf w M s vs v u post ns) := H
  have c0 := H.c0
  have hlen := sts_length s.lo s.L
  obtain ⟨g, cap, rfl, hg, hcap, hmax, hc, fz⟩ := H.st.shape (by rw [hlen]; omega)
  obtain ⟨t, ht⟩ : ∃ t, Hid (s.lo + i = t) := ⟨_, rfl⟩
  obtain ⟨m, hm⟩ : ∃ m, Hid (s.lo + s.L.length = m) := ⟨_, rfl⟩
  have htm : t < m := by rw [← ht.out, ← hm.out]; omega
  have ct := hc t (by rw [hlen, hm.out]; exact htm)
  obtain ⟨z, hz⟩ : ∃ z, Hid ((sts s.lo s.L).getD t 0 = z) := ⟨_, rfl⟩
  rw [hz.out] at ct
  rw [hlen, hm.out] at c0 hcap
  have ft := fz t
  have gM : g ≠ M := H.neS rfl
  have HI : Hid (i < s.L.length ∧ G s.L i ≠ 0) := ⟨hi, h0⟩
  have HT : Hid (Tch (fun k => k = g) w (w.setCell ⟨g, t, none⟩ (.int .u8 1))) := Tch.setCell (Tch.refl (fun k => k = g) w) (p := ⟨g, t, none⟩) (fun _ => rfl) _
  have HF : Hid (Fr (w.setCell ⟨g, t, none⟩ (.int .u8 1)) ⟨M, 55, [.slice (some ⟨g, 0, none⟩) (sts s.lo s.L).length cap], post⟩ v u m ns) := by
    rw [← hm.out]
    exact H.fr.tch HT.out (fun e => gM e.symm) (fun k hk e => H.sv (k := g) rfl (by rw [← e]; exact hk)) (fun k hk e => H.su (k := g) rfl (by rw [← e]; exact hk))
  have HS : Hid (OwnsS (w.setCell ⟨g, t, none⟩ (.int .u8 1)) (.slice (some ⟨g, 0, none⟩) (sts s.lo s.L).length cap) (sts s.lo (s.L.set i 0))) := by
    have := H.st.set t 1
    rw [← ht.out] at this ⊢
    rw [← sts_set]
    exact this
  have HN : Hid ((t : Int) ∉ ns) := by
    intro e
    have := (H.ks.mem _).1 e
    rw [← ht.out, stv_in hi] at this
    exact h0 this
  have HL : Hid (ns.length < 100000) := by
    show _ < _
    have h1 := H.ks.len
    have h2 := List.count_le_length (a := (0 : Int)) (l := s.L)
    have := H.top
    omega
  rw [ht.out]
  unfold maxLen at hmax
  clear hc fz H hi h0 hlen
  go_enter Try.func41, Try.ntmps41
  go_wp2_with fail
  refine (add_any _ v u m ns t _ HF.out htm HN.out HL.out HH.out.heap).mono ?_
  rintro e w1 ⟨rfl, v1, qs, hp1, hh1, hq1, hf1, ht1⟩
  have hsz : (w.setCell ⟨g, t, none⟩ (.int .u8 1)).heap.size = w.heap.size := by simp [World.setCell]
  rw [hsz] at hf1
  rw [← ht.out] at hq1
  have R : Hid (∃ v' ns', Pf w1 M (put s i 0) (.slice (some ⟨g, 0, none⟩) (sts s.lo s.L).length cap) v' u post ns' ∧ (∀ k, v'.ownBlock = some k → v.ownBlock = some k ∨ w.heap.size ≤ k) ∧ Tch (fun k => k = M ∨ (Value.slice (some ⟨g, 0, none⟩) (sts s.lo s.L).length cap).ownBlock = some k ∨ v.ownBlock = some k ∨ u.ownBlock = some k) w w1) := by
    refine ⟨v1, qs, ⟨?_, ?_, hh1, ?_, ?_⟩, hf1, ?_⟩
    · have e : (put s i 0).lo + (put s i 0).L.length = m := by simp [put, hm.out]
      rw [e]; exact hp1
    · refine HS.out.tch ht1 (fun k hk e => ?_)
      rcases e with e | e | e
      · cases hk; exact gM e
      · exact HH.out.sv hk e
      · exact HH.out.su hk e
    · exact HH.out.ks.add HI.out.1 HI.out.2 hq1
    · simp only [put, List.length_set]; exact HH.out.top
    · refine (HT.out.mono (fun k _ e => .inr (.inl (by rw [e]; rfl)))).trans ht1 (fun k _ e => ?_)
      rcases e with e | e | e
      · exact .inl e
      · exact .inr (.inr (.inl e))
      · exact .inr (.inr (.inr e))
  clear hp1 hh1 hq1 hf1 ht1 hsz
  go_wp2_with fail
  go_end0
  exact ⟨rfl, R.out⟩
end Go.Proofs.Ytamgogkkcbeaaaa
