/-
  The free numbers' Push and Pop, and what container/heap makes of them: one is added, the least is taken, any is taken out.
-/
import Derived.Test.YtamgogkkcbeaaaaADown
namespace Go.Proofs.Ytamgogkkcbeaaaa
open Go.RowKit Ah
set_option linter.unusedVariables false
set_option maxRecDepth 100000

theorem set_pre (pre post : List Value) (v u x : Value) : ((pre ++ v :: u :: post).toArray).setIfInBounds pre.length x = (pre ++ x :: u :: post).toArray := by
  simp

/-- The numbers' field is written. -/
theorem Fr.put {w : World} {F : Fb} {v v' u : Value} {L : Nat} {ns ns' ps : List Int} (hb : w.heap[F.b]? = some (.cells (F.pre ++ v :: u :: F.post).toArray F.t (0, 0))) (ht : F.t ≠ 3)
    (ho : OwnsI w v' ns') (hl : ps.length = L) (hp : OwnsI w u ps) (hpp : Pls ns' ps) (ap : ∀ k, v'.ownBlock = some k → u.ownBlock ≠ some k) : Fr (w.setCell ⟨F.b, F.pre.length, none⟩ v') F v' u L ns' := by
  have T : Tch (fun k => k = F.b) w (w.setCell ⟨F.b, F.pre.length, none⟩ v') := Tch.setCell (Tch.refl (fun k => k = F.b) w) (p := ⟨F.b, F.pre.length, none⟩) (fun _ => rfl) _
  refine ⟨?_, ht, ho.tch T (fun k hk e => owns_neA ho hb ht hk e), ⟨ps, hl, hp.tch T (fun k hk e => owns_neA hp hb ht hk e), hpp⟩, ap⟩
  rw [heap_setCell_same w F.b F.pre.length _ _ _ hb, set_pre]

set_option maxHeartbeats 2000000 in
theorem fPush_any (F : Fb) (v u : Value) (L : Nat) (ns : List Int) (n : Nat) (w : World) (H : Fr w F v u L ns) (hn : n < L) (hm : (n : Int) ∉ ns) (hl : ns.length ≤ 100000) :
    Calls Try.prog 67 #[fp F, .iface 3 (.int .i64 n)] w fun e w' => e = .returned (.tuple #[]) ∧
      ∃ v', Fr w' F v' u L (ns ++ [(n : Int)]) ∧ (∀ k, v'.ownBlock = some k → v.ownBlock = some k ∨ w.heap.size ≤ k) ∧ Tch (Fs F v u) w w' := by
  have HH : Hid (Fr w F v u L ns) := H
  obtain ⟨ps, hpl, hpo, hpp⟩ := H.pls
  subst hpl
  have HPO : Hid (OwnsI w u ps) := hpo
  have HPP : Hid (Pls (ns ++ [(n : Int)]) (ps.set n ns.length)) := hpp.push hn hm
  obtain ⟨q, cap2, rfl, hq, hcap2, hmax2, hc2, fz2⟩ := hpo.shape (by omega)
  obtain ⟨a, cap, rfl⟩ := H.len
  have cX := hc2 n hn
  obtain ⟨x0, hx0⟩ : ∃ x0, Hid (ps.getD n 0 = x0) := ⟨_, rfl⟩
  rw [hx0.out] at cX
  have fX := fz2 n
  have ch := H.c0
  have ch1 := H.c1
  have fo := H.fz F.pre.length
  have qb : q ≠ F.b := H.neu rfl
  have hlt := H.lt
  obtain ⟨m, hm'⟩ : ∃ m, Hid (ns.length = m) := ⟨_, rfl⟩
  obtain ⟨m2, hm2⟩ : ∃ m, Hid (ps.length = m) := ⟨_, rfl⟩
  have ta : ∀ (w : World) (x : Int), (Instr.typeAssert (.iface 3 (.int .i64 x)) 20 3 false).run Try.prog w = .ok (.int .i64 x) w := fun _ _ => by kernel_rfl
  have hn2 := hn
  rw [hm'.out] at ch hl
  rw [hm2.out] at ch1 hcap2 hn2
  have HN : Hid (n < ps.length) := hn
  obtain ⟨fb, ft, fpre, fpost⟩ := F
  simp only [fp] at ch ch1 fo qb hlt ⊢
  obtain ⟨o, ho⟩ : ∃ o, Hid (fpre.length = o) := ⟨_, rfl⟩
  rw [ho.out] at ch ch1 fo ⊢
  unfold maxLen at hmax2
  clear hc2 fz2 H hpp hpo hn hm
  go_enter Try.func67, Try.ntmps67
  go_wp2_with fail
  go_region
  obtain ⟨W1, HW1⟩ : ∃ W1, Hid ((w.setCell ⟨q, n, none⟩ (.int .i64 m)).drew = W1) := ⟨_, rfl⟩
  rw [HW1.out]
  have T1 : Hid (Tch (fun k => k = q) w W1) := by
    rw [← HW1.out]
    exact Tch.drew (Tch.setCell (Tch.refl (fun k => k = q) w) (p := ⟨q, n, none⟩) (fun _ => rfl) _)
  have P1 : Hid (OwnsI W1 (.slice (some ⟨q, 0, none⟩) m2 cap2) (ps.set n m)) := by
    rw [← HW1.out]
    have := HPO.out.set n m
    rw [hm2.out] at this
    exact this
  have O1 : Hid (OwnsI W1 (.slice a m cap) ns) := by
    have := HH.out.own.tch T1.out (fun k hk e => HH.out.ap k hk (by rw [e]; rfl))
    rw [hm'.out] at this
    exact this
  have B1 : Hid (W1.heap[fb]? = some (.cells (fpre ++ (.slice a m cap) :: (.slice (some ⟨q, 0, none⟩) m2 cap2) :: fpost).toArray ft (0, 0))) := by
    rw [T1.out.block fb hlt (fun e => qb e.symm)]
    have := HH.out.blk
    rw [hm'.out, hm2.out] at this
    exact this
  have ch' : W1.cell? ⟨fb, o, none⟩ = some (.slice a m cap) := by rw [T1.out.cell (p := ⟨fb, o, none⟩) hlt (fun e => qb e.symm)]; exact ch
  have fo' : W1.frozen? ⟨fb, o, none⟩ = false := by rw [T1.out.frozen (p := ⟨fb, o, none⟩) hlt (fun e => qb e.symm)]; exact fo
  have hlt' : fb < W1.heap.size := Nat.lt_of_lt_of_le hlt T1.out.size
  have HG : Hid (∀ v' w', OwnsI w' v' (ns ++ [(n : Int)]) → Grew W1 w' (.slice a m cap) v' → w'.cell? ⟨fb, o, none⟩ = some (.slice a m cap) ∧ w'.frozen? ⟨fb, o, none⟩ = false) := by
    intro v' w' _ hg
    have hne : ¬ (Value.slice a m cap).ownBlock = some fb := fun e => by
      have := HH.out.ne (k := fb) (by rw [hm'.out]; exact e)
      exact this rfl
    exact ⟨by rw [hg.tch.cell (p := ⟨fb, o, none⟩) hlt' hne]; exact ch', by rw [hg.tch.frozen (p := ⟨fb, o, none⟩) hlt' hne]; exact fo'⟩
  clear ch ch1 fo cX fX
  go_wp2_with (at_builtin; refine wpList_push _ rfl (.tmp 22) (.tmp 24) 41 rfl 3 .i64 8 elem64 _ ns rfl O1.out (n : Int) rfl (by rw [hm'.out]; omega) (by rw [hm'.out]; omega) ?_)
  intro v' w' ho' hg'
  obtain ⟨c', f'⟩ := HG.out v' w' ho' hg'
  have OV : Hid (OwnsI w' v' (ns ++ [(n : Int)])) := ho'
  have GV : Hid (Grew W1 w' (.slice a m cap) v') := hg'
  obtain ⟨a', cap', hv', _⟩ := ho'.rd
  have hlen : (ns ++ [(n : Int)]).length = m + 1 := by simp [hm'.out]
  rw [hlen] at hv'
  subst hv'
  clear ho' hg' ch' fo' hlen
  go_wp2_with fail
  go_end0
  have hne : ¬ (Value.slice a m cap).ownBlock = some fb := fun e => by
    have := HH.out.ne (k := fb) (by rw [hm'.out]; exact e)
    exact this rfl
  have hqv : ¬ (Value.slice a m cap).ownBlock = some q := fun e => by
    have := HH.out.ap q (by rw [hm'.out]; exact e)
    exact this rfl
  have B2 : w'.heap[fb]? = some (.cells (fpre ++ (.slice a m cap) :: (.slice (some ⟨q, 0, none⟩) m2 cap2) :: fpost).toArray ft (0, 0)) := by
    rw [GV.out.tch.block fb hlt' hne]; exact B1.out
  have P2 : OwnsI w' (.slice (some ⟨q, 0, none⟩) m2 cap2) (ps.set n ns.length) := by
    rw [hm'.out]
    exact P1.out.tch GV.out.tch (fun k hk e => hqv (by cases hk; exact e))
  have hq1 : q < W1.heap.size := Nat.lt_of_lt_of_le hq T1.out.size
  have hfr : ∀ k, (Value.slice a' (m + 1) cap').ownBlock = some k → (Value.slice a m cap).ownBlock = some k ∨ w.heap.size ≤ k := fun k hk => by
    rcases GV.out.fresh k hk with e | e
    · exact .inl e
    · exact .inr (Nat.le_trans T1.out.size e)
  have hap : ∀ k, (Value.slice a' (m + 1) cap').ownBlock = some k → (Value.slice (some ⟨q, 0, none⟩) m2 cap2).ownBlock ≠ some k := fun k hk e => by
    cases e
    rcases hfr _ hk with e | e
    · exact hqv e
    · exact absurd (show w.heap.size ≤ q from e) (by omega)
  refine ⟨rfl, .slice a' (m + 1) cap', ?_, ?_, ?_⟩
  · rw [← ho.out, hm2.out]
    exact Fr.put (F := ⟨fb, ft, fpre, fpost⟩) (ns := ns) (v := .slice a m cap) B2 HH.out.ht OV.out (by simp [hm2.out]) P2 HPP.out hap
  · rw [hm'.out]
    exact hfr
  · refine Tch.setCell ((T1.out.mono (fun k _ e => ?_)).trans GV.out.tch (fun k _ e => ?_)) (p := ⟨fb, o, none⟩) (fun _ => .inl rfl) _
    · exact .inr (.inr (by rw [e]; rfl))
    · exact .inr (.inl (by rw [hm'.out]; exact e))

theorem Owns.shrink {k : IntKind} {e : TypeId} {w : World} {g m cap : Nat} {xs : List Int} (h : Owns k e w (.slice (some ⟨g, 0, none⟩) m cap) xs) (n : Nat) (hn : n ≤ xs.length) : Owns k e w (.slice (some ⟨g, 0, none⟩) n cap) (xs.take n) := by
  have h' : w.ownsRow 0 e 1 (.slice (some ⟨g, 0, none⟩) m cap) xs.length (xs.map (Value.int k)) := h
  have hl : (xs.take n).length = n := by rw [List.length_take]; omega
  unfold Owns
  rw [hl]
  refine ⟨by simp; omega, ?_⟩
  rcases h'.2 with ⟨e, _⟩ | ⟨g', cap', cur, e, hb, hg, hnc, hcm, hcs, htake⟩
  · cases e
  · simp only [Value.slice.injEq, Option.some.injEq, Addr.mk.injEq, and_true] at e
    obtain ⟨rfl, rfl, rfl⟩ := e
    refine .inr ⟨g, cap, cur, rfl, hb, hg, by omega, hcm, hcs, ?_⟩
    rw [List.map_take, ← htake, List.take_take]
    congr 1
    omega

set_option maxHeartbeats 2000000 in
theorem fPop_any (F : Fb) (v u : Value) (L : Nat) (ns : List Int) (n : Nat) (w : World) (H : Fr w F v u L ns) (hn : ns.length = n + 1) :
    Calls Try.prog 66 #[fp F] w fun e w' => e = .returned (.iface 3 (.int .i64 (G ns n))) ∧
      ∃ v', Fr w' F v' u L (ns.take n) ∧ v'.ownBlock = v.ownBlock ∧ Tch (fun k => k = F.b) w w' := by
  have HH : Hid (Fr w F v u L ns) := H
  obtain ⟨g, cap, rfl, hg, hcap, hmax, hc, fz⟩ := H.own.shape (by omega)
  have c0 := hc n (by omega)
  have ch := H.c0
  have fh := H.fz F.pre.length
  have gb : g ≠ F.b := H.ne rfl
  obtain ⟨X, hX⟩ : ∃ X, Hid (ns.getD n 0 = X) := ⟨_, rfl⟩
  simp only [G]
  rw [hX.out] at c0 ⊢
  have HN : Hid (ns.length = n + 1) := hn
  rw [hn] at ch hcap
  obtain ⟨fb, ft, fpre, fpost⟩ := F
  simp only [fp] at ch fh gb ⊢
  obtain ⟨o, ho⟩ : ∃ o, Hid (fpre.length = o) := ⟨_, rfl⟩
  rw [ho.out] at ch fh ⊢
  unfold maxLen at hmax
  clear hc fz H hn
  go_enter Try.func66, Try.ntmps66
  go_wp2_with fail
  go_ret
  obtain ⟨ps, hpl, hpo, hpp⟩ := HH.out.pls
  refine ⟨rfl, .slice (some ⟨g, 0, none⟩) n cap, ?_, rfl, Tch.setCell (Tch.refl (fun k => k = fb) w) (p := ⟨fb, o, none⟩) (fun _ => rfl) _⟩
  rw [← ho.out]
  exact Fr.put (F := ⟨fb, ft, fpre, fpost⟩) (ns := ns) (ps := ps) HH.out.blk HH.out.ht (HH.out.own.shrink n (by rw [HN.out]; omega)) hpl hpo (hpp.take n) (fun k hk => HH.out.ap k hk)

theorem Fs.of {F : Fb} {v u : Value} {k : Nat} (h : v.ownBlock = some k ∨ u.ownBlock = some k) : Fs F v u k := .inr h

/-- The least is taken. -/
theorem hPop_any (F : Fb) (v u : Value) (L : Nat) (ns : List Int) (n : Nat) (w : World) (H : Fr w F v u L ns) (hn : ns.length = n + 1) (hl : ns.length ≤ 100000) (hh : Heap ns ns.length) :
    Calls Try.prog 44 #[hv F] w fun e w' => e = .returned (.iface 3 (.int .i64 (G ns 0))) ∧
      ∃ v' qs, Fr w' F v' u L qs ∧ Heap qs qs.length ∧ ns.Perm (G ns 0 :: qs) ∧ v'.ownBlock = v.ownBlock ∧ Tch (Fs F v u) w w' := by
  have HH : Hid (Fr w F v u L ns) := H
  have HP0 : Hid (Heap ns ns.length) := hh
  obtain ⟨X, HX⟩ : ∃ X, Hid (G ns 0 = X) := ⟨_, rfl⟩
  rw [HX.out]
  obtain ⟨a, cap, hv⟩ := H.len
  have m0 := meth_len ⟨F.b, F.pre.length, none⟩ w
  have m1 := meth_swap ⟨F.b, F.pre.length, none⟩ w
  have ch := H.c0
  rw [hn] at hv
  subst hv
  have HCH : Hid (w.cell? ⟨F.b, F.pre.length, none⟩ = some (.slice a (n + 1) cap)) := ch
  clear H hh ch
  go_enter Try.func44, Try.ntmps44
  go_wp2_with fail
  refine (fLen_any _ _ a (n + 1) cap w HCH.out).mono ?_
  rintro e w1 ⟨rfl, rfl⟩
  go_wp2_with fail
  refine (fSwap_any F _ u L ns 0 n _ _ w1 HH.out (by omega) (by omega) (by omega) (by omega)).mono ?_
  rintro e w2 ⟨rfl, hp2, ht2⟩
  have HP2 : Hid (Fr w2 F (.slice a (n + 1) cap) u L (swp ns 0 n)) := hp2
  have HT2 : Hid (Tch (fun k => (Value.slice a (n + 1) cap).ownBlock = some k ∨ u.ownBlock = some k) w1 w2) := ht2
  have HF : Hid (Hx (swp ns 0 n) n 0) := Hx.swap HP0.out hn (Nat.zero_le _)
  have hsl : (swp ns 0 n).length = n + 1 := by rw [swp_length, hn]
  have HSL : Hid ((swp ns 0 n).length = n + 1) := hsl
  clear hp2 ht2 m0 m1 hsl HCH
  go_wp2_with fail
  refine (down_any F _ u L (swp ns 0 n) 0 n w2 HP2.out (by rw [HSL.out]; omega) (by rw [HSL.out]; omega) (Nat.zero_le _) HF.out).mono ?_
  rintro e w3 ⟨qs, hdn, hp3, hperm, hrest, ht3⟩
  have hpp := take_perm hn (Nat.zero_le _) hperm hrest
  have hql : qs.length = n + 1 := by rw [hperm.length_eq, HSL.out]
  have hheap : Heap qs n := by
    rcases hdn with ⟨_, h⟩ | ⟨_, h⟩
    · exact h
    · exact fun x c h2 h3 => h.1 x c (by unfold Ch at h2; omega) h2 h3
  obtain ⟨bb, rfl⟩ : ∃ bb, e = .returned (.bool bb) := by rcases hdn with ⟨e, _⟩ | ⟨e, _⟩ <;> exact ⟨_, e⟩
  have HP3 : Hid (Fr w3 F (.slice a (n + 1) cap) u L qs) := hp3
  have HPP : Hid (G qs n = G ns 0 ∧ ns.Perm (G ns 0 :: qs.take n)) := hpp
  have HT3 : Hid (Tch (fun k => (Value.slice a (n + 1) cap).ownBlock = some k ∨ u.ownBlock = some k) w1 w3) := HT2.out.trans ht3 (fun _ _ e => e)
  have HH3 : Hid (Heap qs n) := hheap
  have HQL : Hid (qs.length = n + 1) := hql
  have m2 := meth_pop ⟨F.b, F.pre.length, none⟩ w3
  clear hp3 hperm hrest hheap ht3 hpp hql HP2 HT2 hdn
  go_wp2_with fail
  refine (fPop_any F _ u L qs n w3 HP3.out HQL.out).mono ?_
  rintro e w4 ⟨rfl, v', hp4, hv4, ht4⟩
  have hQ : G qs n = X := HPP.out.1.trans HX.out
  rw [hQ]
  clear hQ
  go_wp2_with fail
  go_ret
  refine ⟨rfl, v', qs.take n, hp4, ?_, by have := HPP.out.2; rw [HX.out] at this; exact this, hv4, (HT3.out.mono (fun _ _ e => Fs.of e)).trans ht4 (fun _ _ e => .inl e)⟩
  have e : (qs.take n).length = n := by rw [List.length_take, HQL.out]; omega
  rw [e]
  exact HH3.out.take

/-- One is added. -/
theorem hPush_any (F : Fb) (v u : Value) (L : Nat) (ns : List Int) (n : Nat) (w : World) (H : Fr w F v u L ns) (hn : n < L) (hm : (n : Int) ∉ ns) (hl : ns.length < 100000) (hh : Heap ns ns.length) :
    Calls Try.prog 45 #[hv F, .iface 3 (.int .i64 n)] w fun e w' => e = .returned (.tuple #[]) ∧
      ∃ v' qs, Fr w' F v' u L qs ∧ Heap qs qs.length ∧ qs.Perm (ns ++ [(n : Int)]) ∧ (∀ k, v'.ownBlock = some k → v.ownBlock = some k ∨ w.heap.size ≤ k) ∧ Tch (Fs F v u) w w' := by
  have HH : Hid (Fr w F v u L ns) := H
  have HP0 : Hid (Heap ns ns.length) := hh
  have HM : Hid ((n : Int) ∉ ns) := hm
  have m0 := meth_push ⟨F.b, F.pre.length, none⟩ w
  clear H hh hm
  go_enter Try.func45, Try.ntmps45
  go_wp2_with fail
  refine (fPush_any F v u L ns n w HH.out hn HM.out (by omega)).mono ?_
  rintro e w1 ⟨rfl, v1, hp1, hf1, ht1⟩
  have HP1 : Hid (Fr w1 F v1 u L (ns ++ [(n : Int)])) := hp1
  have HF1 : Hid (∀ k, v1.ownBlock = some k → v.ownBlock = some k ∨ w.heap.size ≤ k) := hf1
  have HT1 : Hid (Tch (Fs F v u) w w1) := ht1
  obtain ⟨a, cap, hv⟩ := hp1.len
  have hl1 : (ns ++ [(n : Int)]).length = ns.length + 1 := by simp
  rw [hl1] at hv
  subst hv
  have m1 := meth_len ⟨F.b, F.pre.length, none⟩ w1
  have HCH : Hid (w1.cell? ⟨F.b, F.pre.length, none⟩ = some (.slice a (ns.length + 1) cap)) := hp1.c0
  clear hp1 hf1 ht1 m0 hl1
  go_wp2_with fail
  refine (fLen_any _ _ a (ns.length + 1) cap w1 HCH.out).mono ?_
  rintro e w2 ⟨rfl, rfl⟩
  go_wp2_with fail
  refine (up_any F _ u L (ns ++ [(n : Int)]) (ns.length + 1) ns.length _ HP1.out (by simp; omega) (Up.push HP0.out)).mono ?_
  rintro e w3 ⟨rfl, qs, hp3, hperm, _, hheap, ht3⟩
  go_wp2_with fail
  go_end0
  have e : qs.length = ns.length + 1 := by rw [hperm.length_eq]; simp
  refine ⟨rfl, _, qs, hp3, by rw [e]; exact hheap, hperm, HF1.out, HT1.out.trans ht3 (fun i hi e => ?_)⟩
  rcases e with e | e
  · rcases HF1.out i e with e | e
    · exact .inr (.inl e)
    · omega
  · exact .inr (.inr e)

set_option maxHeartbeats 2000000 in
/-- The one at i is taken out. -/
theorem hRemove_any (F : Fb) (v u : Value) (L : Nat) (ns : List Int) (n i : Nat) (w : World) (H : Fr w F v u L ns) (hn : ns.length = n + 1) (hl : ns.length ≤ 100000) (hh : Heap ns ns.length) (hi : i ≤ n) :
    Calls Try.prog 43 #[hv F, .int .i64 i] w fun e w' => e = .returned (.iface 3 (.int .i64 (G ns i))) ∧
      ∃ v' qs, Fr w' F v' u L qs ∧ Heap qs qs.length ∧ ns.Perm (G ns i :: qs) ∧ v'.ownBlock = v.ownBlock ∧ Tch (Fs F v u) w w' := by
  have HH : Hid (Fr w F v u L ns) := H
  have HP0 : Hid (Heap ns ns.length) := hh
  obtain ⟨X, HX⟩ : ∃ X, Hid (G ns i = X) := ⟨_, rfl⟩
  rw [HX.out]
  obtain ⟨a, cap, hv⟩ := H.len
  have m0 := meth_len ⟨F.b, F.pre.length, none⟩ w
  have m1 := meth_swap ⟨F.b, F.pre.length, none⟩ w
  have ch := H.c0
  have HN : Hid (ns.length = n + 1) := hn
  have HL : Hid (ns.length ≤ 100000) := hl
  have hn9 : n < 100000 := by omega
  rw [hn] at hv
  subst hv
  have HCH : Hid (w.cell? ⟨F.b, F.pre.length, none⟩ = some (.slice a (n + 1) cap)) := ch
  clear H hh ch hn hl
  by_cases hin : i = n
  · subst hin
    have hne : ((i : Int) != (i : Int)) = false := by simp
    have m2 := meth_pop ⟨F.b, F.pre.length, none⟩ w
    go_enter Try.func43, Try.ntmps43
    go_wp2_with fail
    refine (fLen_any _ _ a (i + 1) cap w HCH.out).mono ?_
    rintro e w1 ⟨rfl, rfl⟩
    go_wp2_with fail
    refine (fPop_any F _ u L ns i w1 HH.out HN.out).mono ?_
    rintro e w4 ⟨rfl, v', hp4, hv4, ht4⟩
    rw [HX.out]
    go_wp2_with fail
    go_ret
    refine ⟨rfl, v', ns.take i, hp4, ?_, ?_, hv4, ht4.mono (fun _ _ e => .inl e)⟩
    · have e : (ns.take i).length = i := by rw [List.length_take, HN.out]; omega
      rw [e]
      have h1 : Heap ns i := fun x c h2 h3 => HP0.out x c h2 (by rw [HN.out]; omega)
      exact h1.take
    · have := (take_perm (ps := ns) (qs := swp ns i i) HN.out (Nat.le_refl _) (List.Perm.refl _) (fun _ _ => rfl)).2
      have e : swp ns i i = ns := by
        apply List.ext_getElem?
        intro k
        have hik : i < ns.length := by rw [HN.out]; omega
        simp only [swp, G, List.getElem?_set, List.length_set, List.getD_eq_getElem?_getD]
        by_cases hk : i = k
        · subst hk; simp [hik]
        · simp [hk]
      rw [e, HX.out] at this
      exact this
  · have hne : ((n : Int) != (i : Int)) = true := by simp; omega
    have hilt : i < n := by omega
    go_enter Try.func43, Try.ntmps43
    go_wp2_with fail
    refine (fLen_any _ _ a (n + 1) cap w HCH.out).mono ?_
    rintro e w1 ⟨rfl, rfl⟩
    go_wp2_with fail
    refine (fSwap_any F _ u L ns i n _ _ w1 HH.out (by rw [HN.out]; omega) (by rw [HN.out]; omega) (by omega) (by omega)).mono ?_
    rintro e w2 ⟨rfl, hp2, ht2⟩
    have HP2 : Hid (Fr w2 F (.slice a (n + 1) cap) u L (swp ns i n)) := hp2
    have HT2 : Hid (Tch (fun k => (Value.slice a (n + 1) cap).ownBlock = some k ∨ u.ownBlock = some k) w1 w2) := ht2
    have HF : Hid (Hx (swp ns i n) n i) := Hx.swap HP0.out HN.out hi
    have HSL : Hid ((swp ns i n).length = n + 1) := by show _ = _; rw [swp_length, HN.out]
    clear hp2 ht2 m0 m1 HCH
    go_wp2_with fail
    refine (down_any F _ u L (swp ns i n) i n w2 HP2.out (by rw [HSL.out]; omega) (by rw [HSL.out]; omega) hi HF.out).mono ?_
    rintro e w3 ⟨qs, hdn, hp3, hperm, hrest, ht3⟩
    have HP3 : Hid (Fr w3 F (.slice a (n + 1) cap) u L qs) := hp3
    have HPM : Hid (qs.Perm (swp ns i n)) := hperm
    have HRS : Hid (∀ k, n ≤ k → G qs k = G (swp ns i n) k) := hrest
    have HT3 : Hid (Tch (fun k => (Value.slice a (n + 1) cap).ownBlock = some k ∨ u.ownBlock = some k) w1 w3) := HT2.out.trans ht3 (fun _ _ e => e)
    have HQL : Hid (qs.length = n + 1) := by show _ = _; rw [hperm.length_eq, HSL.out]
    clear hp3 hperm hrest ht3 HP2 HT2
    rcases hdn with ⟨rfl, hh⟩ | ⟨rfl, hh⟩
    · have HH3 : Hid (Heap qs n) := hh
      have HPP : Hid (G qs n = G ns i ∧ ns.Perm (G ns i :: qs.take n)) := take_perm HN.out hi HPM.out HRS.out
      have m2 := meth_pop ⟨F.b, F.pre.length, none⟩ w3
      clear hh
      go_wp2_with fail
      refine (fPop_any F _ u L qs n w3 HP3.out HQL.out).mono ?_
      rintro e w4 ⟨rfl, v', hp4, hv4, ht4⟩
      have hQ : G qs n = X := HPP.out.1.trans HX.out
      rw [hQ]
      clear hQ
      go_wp2_with fail
      go_ret
      refine ⟨rfl, v', qs.take n, hp4, ?_, by have := HPP.out.2; rw [HX.out] at this; exact this, hv4, (HT3.out.mono (fun _ _ e => Fs.of e)).trans ht4 (fun _ _ e => .inl e)⟩
      have e : (qs.take n).length = n := by rw [List.length_take, HQL.out]; omega
      rw [e]
      exact HH3.out.take
    · have HU : Hid (Up qs qs n i) := ⟨List.Perm.refl _, fun _ _ => rfl, .inr hilt, by rw [HQL.out]; omega, hh⟩
      clear hh
      go_wp2_with fail
      refine (up_any F _ u L qs n i w3 HP3.out (by rw [HQL.out]; omega) HU.out).mono ?_
      rintro e w5 ⟨rfl, rs, hp5, hperm5, hrest5, hheap5, ht5⟩
      have HP5 : Hid (Fr w5 F (.slice a (n + 1) cap) u L rs) := hp5
      have HPP : Hid (G rs n = G ns i ∧ ns.Perm (G ns i :: rs.take n)) := take_perm HN.out hi (hperm5.trans HPM.out) (fun k hk => (hrest5 k hk).trans (HRS.out k hk))
      have HH3 : Hid (Heap rs n) := hheap5
      have HRL : Hid (rs.length = n + 1) := by show _ = _; rw [hperm5.length_eq, HQL.out]
      have HT5 : Hid (Tch (fun k => (Value.slice a (n + 1) cap).ownBlock = some k ∨ u.ownBlock = some k) w1 w5) := HT3.out.trans ht5 (fun _ _ e => e)
      have m2 := meth_pop ⟨F.b, F.pre.length, none⟩ w5
      clear hp5 hperm5 hrest5 hheap5 ht5 HP3 HT3 HU
      go_wp2_with fail
      refine (fPop_any F _ u L rs n w5 HP5.out HRL.out).mono ?_
      rintro e w4 ⟨rfl, v', hp4, hv4, ht4⟩
      have hQ : G rs n = X := HPP.out.1.trans HX.out
      rw [hQ]
      clear hQ
      go_wp2_with fail
      go_ret
      refine ⟨rfl, v', rs.take n, hp4, ?_, by have := HPP.out.2; rw [HX.out] at this; exact this, hv4, (HT5.out.mono (fun _ _ e => Fs.of e)).trans ht4 (fun _ _ e => .inl e)⟩
      have e : (rs.take n).length = n := by rw [List.length_take, HRL.out]; omega
      rw [e]
      exact HH3.out.take
end Go.Proofs.Ytamgogkkcbeaaaa
