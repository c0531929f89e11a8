/-
  The map's calls that turn a number's state: Back, Drop, Mark, Take.
-/
import Derived.Test.YtamgogkkcbeaaaaAMeth
namespace Go.Proofs.Ytamgogkkcbeaaaa
open Go.RowKit Ah
set_option linter.unusedVariables false
set_option maxRecDepth 100000

/-- A map behind a call that turned its states and its free numbers alone. -/
theorem PmAt.after {w w' : World} {M : Nat} {s s' : St} {vs v v' u vb : Value} {ns ns' bk : List Int} (H : PmAt w M s vs v u vb ns bk) (P : Pf w' M s' vs v' u [vb, .int .i64 s.as] ns') (hv : ∀ k, v'.ownBlock = some k → v.ownBlock = some k ∨ w.heap.size ≤ k)
    (ht : Tch (fun k => k = M ∨ vs.ownBlock = some k ∨ v.ownBlock = some k ∨ u.ownBlock = some k) w w') (hk : Ks 2 s' bk) (ok : Sok s') (ha : s'.as = s.as) : PmAt w' M s' vs v' u vb ns' bk := by
  refine ⟨by rw [ha]; exact P, H.bo.tch ht (fun k hk e => ?_), hk, fun k hk e => ?_, H.a2, ok⟩
  · rcases e with e | e | e | e
    · exact H.neB hk e
    · exact H.sb e hk
    · exact H.a1 k hk e
    · exact H.a2 k hk e
  · rcases hv k e with e2 | e2
    · exact H.a1 k hk e2
    · have := H.bo.lt k hk
      omega

theorem tch_P {w w' : World} {M : Nat} {vs v u vb : Value} (ht : Tch (fun k => k = M ∨ vs.ownBlock = some k ∨ v.ownBlock = some k ∨ u.ownBlock = some k) w w') : Tch (Px M vs v u vb) w w' := ht.mono (fun k _ e => by
  rcases e with e | e | e | e
  · exact .inl e
  · exact .inr (.inl e)
  · exact .inr (.inr (.inl e))
  · exact .inr (.inr (.inr (.inl e))))

theorem back_any (M : Nat) (s : St) (X : Nat → Prop) (n : Int) (w : World) (H : Pm w M s X) :
    Calls Try.prog 28 #[mp M, .int .i64 n] w fun e w' => e = .returned (.bool (back n s).1) ∧ Pm w' M (back n s).2 (ext w w' X) ∧ Tch X w w' := by
  obtain ⟨vs, v, u, vb, ns, bk, h, hx, hl⟩ := H
  have HH : Hid (PmAt w M s vs v u vb ns bk) := h
  have HX : Hid (∀ k, Px M vs v u vb k → X k) := hx
  have HL : Hid (∀ k, X k → k < w.heap.size) := hl
  obtain ⟨z, hz⟩ : ∃ z, Hid (stv s n + 1 = z) := ⟨_, rfl⟩
  clear h hx hl
  by_cases h1 : stv s n = 1
  · have ok := back_ok HH.out.ok n
    obtain ⟨i, hi, rfl, e⟩ := stv_idx (s := s) (n := n) (by omega)
    have e2 : back ((s.lo + i : Nat) : Int) s = (true, put s i 0) := by
      unfold back
      rw [if_neg (by omega), show (((s.lo + i : Nat) : Int) - s.lo).toNat = i by omega]
    rw [e2] at ok ⊢
    have HOK : Hid (Sok (put s i 0)) := ok
    have HI : Hid (i < s.L.length ∧ G s.L i = 1) := ⟨hi, by omega⟩
    have hz2 : (z != 2) = false := by have := hz.out; simp; omega
    obtain ⟨t, ht⟩ : ∃ t, Hid (s.lo + i = t) := ⟨_, rfl⟩
    rw [ht.out] at hz ⊢
    clear ok hi e e2 h1
    simp only
    go_enter Try.func28, Try.ntmps28
    go_wp2_with fail
    refine (stateOf_any M s vs v u _ ns t w HH.out.pf).mono ?_
    rintro e w1 ⟨rfl, rfl⟩
    rw [hz.out]
    go_wp2_with fail
    rw [← ht.out]
    refine (letFree_any M s vs v u _ ns i w1 HH.out.pf HI.out.1 (by rw [HI.out.2]; omega)).mono ?_
    rintro e w2 ⟨rfl, v2, ns2, hp2, hf2, ht2⟩
    have R : Hid (Pm w2 M (put s i 0) (ext w1 w2 X) ∧ Tch X w1 w2) :=
      Pm.made HX.out HL.out (HH.out.after hp2 hf2 ht2 (HH.out.kb.other HI.out.1 (by rw [HI.out.2]; omega) (by omega)) HOK.out rfl) hf2 (fun _ e => .inl e) (tch_P ht2)
    clear hp2 hf2 ht2
    go_wp2_with fail
    go_ret
    exact ⟨rfl, R.out⟩
  · have e2 : back n s = (false, s) := by unfold back; rw [if_pos h1]
    rw [e2]
    have hz2 : (z != 2) = true := by have := hz.out; simp; omega
    clear h1 e2
    simp only
    go_enter Try.func28, Try.ntmps28
    go_wp2_with fail
    refine (stateOf_any M s vs v u _ ns n w HH.out.pf).mono ?_
    rintro e w1 ⟨rfl, rfl⟩
    rw [hz.out]
    go_wp2_with fail
    go_ret
    exact ⟨rfl, Pm.made HX.out HL.out HH.out (fun _ e => .inl e) (fun _ e => .inl e) (Tch.refl _ _)⟩

/-- A state is written. -/
theorem st_store {w : World} {M : Nat} {post : List Value} {g m cap : Nat} {v u : Value} {Lp lo : Nat} {ns L : List Int} (F : Fr w ⟨M, 55, [.slice (some ⟨g, 0, none⟩) m cap], post⟩ v u Lp ns) (O : OwnsS w (.slice (some ⟨g, 0, none⟩) m cap) (sts lo L)) (i : Nat) (y x : Int) (hx : x = y + 1) :
    Fr (w.setCell ⟨g, lo + i, none⟩ (.int .u8 x)) ⟨M, 55, [.slice (some ⟨g, 0, none⟩) m cap], post⟩ v u Lp ns ∧ OwnsS (w.setCell ⟨g, lo + i, none⟩ (.int .u8 x)) (.slice (some ⟨g, 0, none⟩) m cap) (sts lo (L.set i y)) ∧ Tch (fun k => k = g) w (w.setCell ⟨g, lo + i, none⟩ (.int .u8 x)) := by
  subst hx
  have T : Tch (fun k => k = g) w (w.setCell ⟨g, lo + i, none⟩ (.int .u8 (y + 1))) := Tch.setCell (Tch.refl (fun k => k = g) w) (p := ⟨g, lo + i, none⟩) (fun _ => rfl) _
  have gM : g ≠ M := owns_neA O F.blk (show (55 : TypeId) ≠ 56 by decide) rfl
  obtain ⟨ps, _, ho, _⟩ := F.pls
  refine ⟨F.tch T (fun e => gM e.symm) (fun k hk e => owns_apart O F.own (by decide) (k := g) rfl (by rw [← e]; exact hk)) (fun k hk e => owns_apart O ho (by decide) (k := g) rfl (by rw [← e]; exact hk)), ?_, T⟩
  rw [← sts_set]
  exact O.set (lo + i) (y + 1)

set_option maxHeartbeats 1000000 in
theorem drop_any (M : Nat) (s : St) (X : Nat → Prop) (n : Int) (w : World) (H : Pm w M s X) :
    Calls Try.prog 30 #[mp M, .int .i64 n] w fun e w' => e = .returned (.bool (drop n s).1) ∧ Pm w' M (drop n s).2 (ext w w' X) ∧ Tch X w w' := by
  obtain ⟨vs, v, u, vb, ns, bk, h, hx, hl⟩ := H
  have HH : Hid (PmAt w M s vs v u vb ns bk) := h
  have HX : Hid (∀ k, Px M vs v u vb k → X k) := hx
  have HL : Hid (∀ k, X k → k < w.heap.size) := hl
  obtain ⟨z, hz⟩ : ∃ z, Hid (stv s n + 1 = z) := ⟨_, rfl⟩
  by_cases h1 : stv s n = 1
  · have ok := drop_ok h.ok n
    obtain ⟨i, hi, rfl, e⟩ := stv_idx (s := s) (n := n) (by omega)
    have e2 : drop ((s.lo + i : Nat) : Int) s = (true, put s i 2) := by
      unfold drop
      rw [if_neg (by omega), show (((s.lo + i : Nat) : Int) - s.lo).toNat = i by omega]
    rw [e2] at ok ⊢
    have HOK : Hid (Sok (put s i 2)) := ok
    have HI : Hid (i < s.L.length ∧ G s.L i = 1) := ⟨hi, by omega⟩
    have hz2 : (z != 2) = false := by have := hz.out; simp; omega
    have htop := h.pf.top
    have hlen := sts_length s.lo s.L
    have c0 := h.pf.c0
    have c3 := h.c3
    have f3 := h.pf.fz 3
    obtain ⟨g, cap, rfl, hg, hcap, hmax, hc, fz⟩ := h.pf.st.shape (by rw [hlen]; omega)
    have ct := hc (s.lo + i) (by rw [hlen]; omega)
    have ft := fz (s.lo + i)
    obtain ⟨y0, hy0⟩ : ∃ y0, Hid ((sts s.lo s.L).getD (s.lo + i) 0 = y0) := ⟨_, rfl⟩
    rw [hy0.out] at ct
    have gM : g ≠ M := h.pf.neS rfl
    obtain ⟨ab, capb, rfl, _⟩ := h.bo.rd
    have hbl : bk.length ≤ 65536 := by
      have h1 := h.kb.len
      have h2 := List.count_le_length (a := (2 : Int)) (l := s.L)
      omega
    obtain ⟨t, ht⟩ : ∃ t, Hid (s.lo + i = t) := ⟨_, rfl⟩
    obtain ⟨m, hm⟩ : ∃ m, Hid ((sts s.lo s.L).length = m) := ⟨_, rfl⟩
    obtain ⟨mb, hmb⟩ : ∃ m, Hid (bk.length = m) := ⟨_, rfl⟩
    have htm : t < m := by rw [← ht.out, ← hm.out, hlen]; omega
    rw [ht.out] at hz ct ft ⊢
    rw [hm.out] at c0 hcap
    rw [hmb.out] at c3 hbl
    have HS : Hid (Fr (w.setCell ⟨g, t, none⟩ (.int .u8 3)) ⟨M, 55, [.slice (some ⟨g, 0, none⟩) m cap], [.slice ab mb capb, .int .i64 s.as]⟩ v u (s.lo + s.L.length) ns ∧ OwnsS (w.setCell ⟨g, t, none⟩ (.int .u8 3)) (.slice (some ⟨g, 0, none⟩) m cap) (sts s.lo (s.L.set i 2)) ∧ Tch (fun k => k = g) w (w.setCell ⟨g, t, none⟩ (.int .u8 3))) := by
      have := st_store h.pf.fr h.pf.st i 2 3 rfl
      rw [ht.out, hm.out, hmb.out] at this
      exact this
    rw [hm.out, hmb.out] at HH
    rw [hm.out, hmb.out] at HX
    unfold maxLen at hmax
    clear ok hi e e2 h1 h hx hl hc fz hlen htop
    simp only
    go_enter Try.func30, Try.ntmps30
    go_wp2_with fail
    refine (stateOf_any M s _ v u _ ns t w HH.out.pf).mono ?_
    rintro e w1 ⟨rfl, rfl⟩
    rw [hz.out]
    obtain ⟨W1, HW1⟩ : ∃ W1, Hid (w1.setCell ⟨g, t, none⟩ (.int .u8 3) = W1) := ⟨_, rfl⟩
    rw [HW1.out] at HS
    have c3' : W1.cell? ⟨M, 3, none⟩ = some (.slice ab mb capb) := by rw [HS.out.2.2.cell (p := ⟨M, 3, none⟩) HH.out.pf.lt (fun e => gM e.symm)]; exact c3
    have f3' : W1.frozen? ⟨M, 3, none⟩ = false := by rw [HS.out.2.2.frozen (p := ⟨M, 3, none⟩) HH.out.pf.lt (fun e => gM e.symm)]; exact f3
    have HBO : Hid (OwnsI W1 (.slice ab mb capb) bk) := HH.out.bo.tch HS.out.2.2 (fun k hk e => HH.out.sb (k := g) rfl (by rw [← e]; exact hk))
    have HG : Hid (∀ v' w', Grew W1 w' (.slice ab mb capb) v' → w'.cell? ⟨M, 3, none⟩ = some (.slice ab mb capb) ∧ w'.frozen? ⟨M, 3, none⟩ = false) := by
      intro v' w' hg
      have hlt : M < W1.heap.size := HS.out.1.lt
      have hne : ¬ (Value.slice ab mb capb).ownBlock = some M := fun e => HH.out.neB e rfl
      exact ⟨by rw [hg.tch.cell (p := ⟨M, 3, none⟩) hlt hne]; exact c3', by rw [hg.tch.frozen (p := ⟨M, 3, none⟩) hlt hne]; exact f3'⟩
    have hW := HW1.out
    clear c3 f3
    go_wp2_with (at_builtin; refine wpList_push _ rfl (.tmp 19) (.tmp 21) 41 rfl 3 .i64 8 elem64 _ bk rfl HBO.out (t : Int) rfl (by rw [hmb.out]; omega) (by rw [hmb.out]; omega) ?_)
    intro v' w' ho' hg'
    obtain ⟨c', f'⟩ := HG.out v' w' hg'
    have OV : Hid (OwnsI w' v' (bk ++ [(t : Int)])) := ho'
    have GV : Hid (Grew W1 w' (.slice ab mb capb) v') := hg'
    obtain ⟨a', cap', hv', _⟩ := ho'.rd
    have hlen : (bk ++ [(t : Int)]).length = mb + 1 := by simp [hmb.out]
    rw [hlen] at hv'
    subst hv'
    clear ho' hg' c3' f3' hlen hW
    go_wp2_with fail
    go_ret
    obtain ⟨F1, O1, T1⟩ := HS.out
    have hbn : ∀ k, (Value.slice ab mb capb).ownBlock = some k → k ≠ M := fun k hk => HH.out.neB hk
    have F2 := F1.tch GV.out.tch (fun e => hbn _ e rfl) (fun k hk e => HH.out.a1 k e hk) (fun k hk e => HH.out.a2 k e hk)
    have O2 := O1.tch GV.out.tch (fun k hk e => HH.out.sb hk e)
    have P2 : Pf w' M (put s i 2) (.slice (some ⟨g, 0, none⟩) m cap) v u [.slice ab mb capb, .int .i64 s.as] ns := by
      refine ⟨?_, O2, HH.out.pf.heap, HH.out.pf.ks.other HI.out.1 (by rw [HI.out.2]; omega) (by omega), by simp only [put, List.length_set]; exact HH.out.pf.top⟩
      simp only [put, List.length_set]; exact F2
    have P3 := P2.post 0 (.slice a' (mb + 1) cap')
    have T3 : Tch (fun k => k = M) w' (w'.setCell ⟨M, 3, none⟩ (.slice a' (mb + 1) cap')) := Tch.setCell (Tch.refl (fun k => k = M) w') (p := ⟨M, 3, none⟩) (fun _ => rfl) _
    have hsz := T1.size
    have hfr : ∀ k, (Value.slice a' (mb + 1) cap').ownBlock = some k → (Value.slice ab mb capb).ownBlock = some k ∨ w1.heap.size ≤ k := fun k hk => by
      rcases GV.out.fresh k hk with e | e
      · exact .inl e
      · exact .inr (by omega)
    have B2 : w'.heap[M]? = some _ := P2.fr.blk
    refine ⟨rfl, Pm.made HX.out HL.out (ns' := ns) (bk' := bk ++ [(t : Int)]) ⟨P3, OV.out.tch T3 (fun k hk e => owns_neA OV.out B2 (show (55 : TypeId) ≠ 3 by decide) hk e), ?_, fun k hk e => ?_, fun k hk e => ?_, HOK.out⟩ (fun _ e => .inl e) hfr ?_⟩
    · exact HH.out.kb.add HI.out.1 (by rw [HI.out.2]; omega) (by rw [ht.out])
    · rcases hfr k hk with e2 | e2
      · exact HH.out.a1 k e2 e
      · have := HH.out.pf.fr.own.lt k e; omega
    · rcases hfr k hk with e2 | e2
      · exact HH.out.a2 k e2 e
      · have := HH.out.pf.ltU e; omega
    · refine Tch.setCell ((T1.mono (fun k _ e => ?_)).trans GV.out.tch (fun k _ e => ?_)) (p := ⟨M, 3, none⟩) (fun _ => .inl rfl) _
      · exact .inr (.inl (by rw [e]; rfl))
      · exact .inr (.inr (.inr (.inr e)))
  · have e2 : drop n s = (false, s) := by unfold drop; rw [if_pos h1]
    rw [e2]
    have hz2 : (z != 2) = true := by have := hz.out; simp; omega
    clear h1 e2 h hx hl
    simp only
    go_enter Try.func30, Try.ntmps30
    go_wp2_with fail
    refine (stateOf_any M s vs v u _ ns n w HH.out.pf).mono ?_
    rintro e w1 ⟨rfl, rfl⟩
    rw [hz.out]
    go_wp2_with fail
    go_ret
    exact ⟨rfl, Pm.made HX.out HL.out HH.out (fun _ e => .inl e) (fun _ e => .inl e) (Tch.refl _ _)⟩
end Go.Proofs.Ytamgogkkcbeaaaa
