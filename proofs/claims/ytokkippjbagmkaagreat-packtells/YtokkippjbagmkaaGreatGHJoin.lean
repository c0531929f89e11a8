import Derived.Test.YtokkippjbagmkaaGreatGHPop
import Derived.OwnWalk
import Derived.Laws.OwnMore
set_option maxRecDepth 100000
/-
  Things are joined: which one each became part of.
-/
namespace Go.Proofs.YtokkippjbagmkaaGreat
open Go.RowKit Pl Hf
set_option linter.unusedVariables false
set_option maxRecDepth 100000

/-- The things of the first k weights. -/
def tk (ws : List Int) (k : Nat) : List (Int × Int) := (List.range k).map fun i => (ws.getD i 0, (i : Int))

theorem tk_succ (ws : List Int) (k : Nat) : tk ws (k + 1) = tk ws k ++ [(ws.getD k 0, (k : Int))] := by
  unfold tk; rw [List.range_succ, List.map_append]; rfl
theorem tk_length (ws : List Int) (k : Nat) : (tk ws k).length = k := by simp [tk]

theorem le_sum_mem {l : List Nat} {x : Nat} (h : x ∈ l) : x ≤ l.sum := by
  induction l with
  | nil => simp at h
  | cons y r ih =>
    simp only [List.sum_cons]
    rcases List.mem_cons.1 h with e | e
    · omega
    · have := ih e; omega

/-- A heap that a call made for itself: nothing of w0 has turned. -/
structure Own0 (w0 w : World) (h : Nat) (v : Value) (ps : List (Int × Int)) : Prop where
  hp : Hp w h v ps
  bel : Below w0.heap.size w0 w
  hn : w0.heap.size ≤ h
  vn : ∀ k, v.ownBlock = some k → w0.heap.size ≤ k

/-- What an append and a store into the variable make. -/
theorem Hp.push {w w1 : World} {h : Nat} {v v' : Value} {ps qs : List (Int × Int)} (H : Hp w h v ps) (ho : OwnsT w1 v' qs) (hg : Grew w w1 v v') :
    w1.cell? ⟨h, 0, none⟩ = some v ∧ w1.frozen? ⟨h, 0, none⟩ = false ∧ Hid (Hp (w1.setCell ⟨h, 0, none⟩ v') h v' qs ∧ Tch (fun k => k = h ∨ v.ownBlock = some k) w (w1.setCell ⟨h, 0, none⟩ v')) := by
  have hb1 : w1.heap[h]? = some (.cells #[v] 216 (0, 0)) := by
    rw [hg.tch.block h H.lt (fun e => H.ne e)]
    exact H.blk
  refine ⟨by rw [cell_of_row w1 h 0 _ _ (0, 0) hb1]; rfl, frozen_of_row w1 h 0 _ _ hb1, ⟨?_, ho.tch (S := fun k => k = h) (Tch.setCell (Tch.refl (fun k => k = h) w1) (p := ⟨h, 0, none⟩) (fun _ => rfl) _) (fun j hj e => ho.ne_blk hb1 (by decide) hj e)⟩, ?_⟩
  · rw [heap_setCell_same w1 h 0 _ _ _ hb1]
    simp
  · exact Tch.setCell (hg.tch.mono (fun _ _ e => .inr e)) (p := ⟨h, 0, none⟩) (fun _ => .inl rfl) _

theorem Own0.step {w0 w w' : World} {h : Nat} {v v' : Value} {ps qs : List (Int × Int)} (H : Own0 w0 w h v ps) (hp : Hp w' h v' qs) (ht : Tch (fun k => k = h ∨ v.ownBlock = some k) w w') (hf : ∀ k, v'.ownBlock = some k → v.ownBlock = some k ∨ w.heap.size ≤ k) : Own0 w0 w' h v' qs := by
  refine ⟨hp, H.bel.trans (ht.below H.bel.size (fun k e => by rcases e with e | e; (· rw [e]; exact H.hn); (· exact H.vn k e))), H.hn, fun k hk => ?_⟩
  rcases hf k hk with e | e
  · exact H.vn k e
  · have := H.bel.size; omega

theorem Own0.tch {S : Nat → Prop} {w0 w w' : World} {h : Nat} {v : Value} {ps : List (Int × Int)} (H : Own0 w0 w h v ps) (ht : Tch S w w') (hS : ∀ k, S k → w0.heap.size ≤ k) (hb : ¬ S h) (hr : ∀ k, v.ownBlock = some k → ¬ S k) : Own0 w0 w' h v ps :=
  ⟨H.hp.tch ht hb hr, H.bel.trans (ht.below H.bel.size hS), H.hn, H.vn⟩
theorem Own0.below {w0 w w' : World} {h : Nat} {v : Value} {ps : List (Int × Int)} (H : Own0 w0 w h v ps) (hb : Below w.heap.size w w') : Own0 w0 w' h v ps :=
  H.tch (S := fun _ => False) (Tch.of_below hb) (fun _ e => e.elim) (fun e => e) (fun _ _ e => e)

/-- Numbers lie in no block of a heap's. -/
theorem Hp.apart {w : World} {h : Nat} {v pv : Value} {ps : List (Int × Int)} {P : List Int} (H : Hp w h v ps) (O : Owns .i64 3 w pv P) : ∀ j, pv.ownBlock = some j → ¬ (j = h ∨ v.ownBlock = some j) := by
  intro j hj
  obtain ⟨c1, h1⟩ := block_of_owns (show w.ownsRow 0 3 1 pv P.length (P.map (Value.int .i64)) from O) hj
  rintro (e | e)
  · subst e
    rw [H.blk] at h1
    simp at h1
  · obtain ⟨c2, h2⟩ := block_of_owns (show w.ownsRow 0 218 2 v ps.length (pcells ps) from H.own) e
    rw [h1] at h2
    simp at h2

theorem Owns.at1 {w : World} {g n cap : Nat} {xs : List Int} (h : Owns .i64 3 w (.slice (some ⟨g, 0, none⟩) n cap) xs) (i : Nat) (hi : i < xs.length) : w.cell? ⟨g, i, none⟩ = some (.int .i64 (xs.getD i 0)) ∧ w.frozen? ⟨g, i, none⟩ = false ∧ g < w.heap.size := by
  obtain ⟨g', cap', e, hlt, _, _, hc, hf⟩ := Owns.shape h (by omega)
  simp only [Value.slice.injEq, Option.some.injEq, Addr.mk.injEq, and_true] at e
  obtain ⟨rfl, _, _⟩ := e
  exact ⟨hc i hi, hf i, hlt⟩

set_option maxHeartbeats 8000000 in
theorem join_any (v : Value) (ws : List Int) (w : World) (hr : Rd .i64 w v ws) (h2 : 2 ≤ ws.length) (h3 : ws.length ≤ 256) (hpos : ∀ i, i < ws.length → 0 < ws.getD i 0) (S : Nat) (hS : ((List.range ws.length).map fun i => (ws.getD i 0).toNat).sum = S) (hS2 : S ≤ 1000000000000000) :
    Calls Tryz.prog 183 #[v] w fun e w' => ∃ pv P t N f, e = .returned pv ∧ Owns .i64 3 w' pv P ∧ JS P N ws.length [t] (treeOf (fun i => (ws.getD i 0).toNat) ws.length) S f ∧ Below w.heap.size w w' ∧ ∀ k, pv.ownBlock = some k → w.heap.size ≤ k := by
  have HR : Hid (Rd .i64 w v ws) := hr
  obtain ⟨i0, hi, hz0, hz1, hz2⟩ := info_parts infoT
  obtain ⟨a, cap, rfl, hlc, hcm, _, hcc⟩ := hr
  obtain ⟨b, o, rfl, hc⟩ : ∃ b o, a = some ⟨b, o, none⟩ ∧ ∀ i, i < ws.length → w.cell? ⟨b, o + i, none⟩ = some (.int .i64 (ws.getD i 0)) := by
    rcases hcc with rfl | h
    · simp at h2
    · exact h
  have HC : Hid (∀ i, i < ws.length → w.cell? ⟨b, o + i, none⟩ = some (.int .i64 (ws.getD i 0))) := hc
  clear hcc hc
  have HPOS : Hid (∀ i, i < ws.length → 0 < ws.getD i 0) := hpos
  have HS : Hid (((List.range ws.length).map fun i => (ws.getD i 0).toNat).sum = S) := hS
  clear hpos hS
  have HW : Hid (∀ i, i < ws.length → ws.getD i 0 ≤ 1000000000000000) := fun i hi => by
    have : (ws.getD i 0).toNat ≤ ((List.range ws.length).map fun i => (ws.getD i 0).toNat).sum := le_sum_mem (List.mem_map.2 ⟨i, by simpa using hi, rfl⟩)
    rw [HS.out] at this
    omega
  go_enter Tryz.func183, Tryz.ntmps183
  go_wp2_with (at_make; refine wpList_make_own _ rfl (.const (.int .i64 0)) (.tmp 11) 216 rfl 0 218 i0 _ 2 Tryz.underlying216 hi hz0 hz1 .i64 .i64 _ ws.length rfl rfl rfl (by rw [hz2]; omega) (by unfold maxLen; omega) (Nat.zero_le _) ?_)
  intro w1 ho1 hg1
  have O1 : Hid (Own0 w (w1.alloc (.cells #[.slice (some ⟨w.heap.size, 0, none⟩) 0 ws.length] 216)) w1.heap.size (.slice (some ⟨w.heap.size, 0, none⟩) 0 ws.length) (tk ws 0)) := by
    have b1 : Below w.heap.size w w1 := (Below.refl _ _).grown hg1 (Nat.le_refl _) (fun k e => by cases e)
    refine ⟨⟨heap_alloc_new w1 _, OwnsT.below (show OwnsT w1 _ [] from ho1) ((Below.refl _ _).alloc (Nat.le_refl _) _)⟩, b1.alloc b1.size _, b1.size, fun k hk => ?_⟩
    simp only [Value.ownBlock, Option.some.injEq] at hk
    omega
  clear ho1 hg1
  obtain ⟨h, hh⟩ : ∃ h, w1.heap.size = h := ⟨_, rfl⟩
  rw [hh] at O1
  have HHH : Hid (w1.heap.size = h) := hh
  go_wp2_with fail
  clear hh
  go_loopw [15] (fun i wr => ∃ (k : Nat) (u : Value), k ≤ ws.length ∧ i = .int .i64 k ∧ Hid (Own0 w wr h u (tk ws k))) (fun i _ => ws.length - (intOf i).toNat)
  case atStart => exact ⟨0, _, Nat.zero_le _, rfl, O1⟩
  case round =>
    obtain ⟨k, u, hk, rfl, O2⟩ := hrel
    clear O1
    by_cases hlt : k < ws.length
    · obtain ⟨x, hxe⟩ : ∃ x, Hid (ws.getD k 0 = x) := ⟨_, rfl⟩
      have cx : wr.cell? ⟨b, o + k, none⟩ = some (.int .i64 x) := by
        have h0 := HC.out k hlt
        rw [O2.out.bel.cell (p := ⟨b, o + k, none⟩) (World.block_lt_of_cell? w ⟨b, o + k, none⟩ h0), h0, hxe.out]
      have ch := O2.out.hp.c0
      have HTK : Hid ((tk ws k).length = k) := tk_length ws k
      go_wp2_with (at_builtin; refine wpList_pushT _ rfl (.tmp 20) (.tmp 24) rfl u (tk ws k) rfl O2.out.hp.own (x, (k : Int)) rfl (by rw [HTK.out]; omega) ?_)
      intro v' w2 ho2 hg2
      obtain ⟨a2, c2, hv2⟩ : ∃ a c, v' = .slice a (k + 1) c := by obtain ⟨a, c, e, _⟩ := ho2.rd; rw [List.length_append, HTK.out] at e; exact ⟨a, c, e⟩
      subst hv2
      obtain ⟨ch2, fh2, HP2⟩ := O2.out.hp.push ho2 hg2
      have O3 : Hid (Own0 w (w2.setCell ⟨h, 0, none⟩ (.slice a2 (k + 1) c2)) h (.slice a2 (k + 1) c2) (tk ws (k + 1))) := by
        show Own0 _ _ _ _ _
        rw [tk_succ, hxe.out]
        exact O2.out.step HP2.out.1 HP2.out.2 hg2.fresh
      clear ho2 hg2 HP2 O2 ch cx
      go_wp2_with fail
      go_roundw
      case rel => exact ⟨k + 1, _, by omega, by go_num, O3⟩
      case measure => simp [intOf]; omega
    · obtain rfl : k = ws.length := by omega
      clear HC
      go_wp2_with fail
      refine (hInit_any h u (tk ws ws.length) wr O2.out.hp (by rw [tk_length]; omega)).mono ?_
      rintro e w3 ⟨rfl, qs, hp3, hh3, hq3, ht3⟩
      have O3 : Hid (Own0 w w3 h u qs) := O2.out.step hp3 (ht3.mono (fun _ _ e => .inr e)) (fun k hk => .inl hk)
      have HH3 : Hid (Heap qs qs.length 0) := hh3
      have HQ3 : Hid (qs.Perm ((L0 (fun i => (ws.getD i 0).toNat) ws.length).map key)) := by
        refine hq3.trans ?_
        obtain ⟨_, _, _, _, _, h6, _⟩ := L0_facts (fun i => (ws.getD i 0).toNat) ws.length
        refine List.Perm.trans ?_ h6.symm
        unfold tk
        refine List.Perm.of_eq (List.map_congr_left (fun i hi => ?_))
        have := HPOS.out i (by simpa using hi)
        simp only [Prod.mk.injEq, and_true]
        omega
      have HJ : Hid (JS (List.replicate (2 * ws.length - 2) 0) ws.length ws.length (L0 (fun i => (ws.getD i 0).toNat) ws.length) (treeOf (fun i => (ws.getD i 0).toNat) ws.length) S ws.length) := by
        have := JS.start (fun i => (ws.getD i 0).toNat) ws.length (fun i hi => by have := HPOS.out i hi; omega)
        rw [HS.out] at this
        exact this
      obtain ⟨j0, hj, hy0, hy1, hy2⟩ := elem64.info
      have e2 : 2 * (ws.length : Int) - 2 = ((2 * ws.length - 2 : Nat) : Int) := by omega
      clear hp3 hh3 hq3 ht3 O2
      go_wp2_with (at_make; refine wpList_make_full _ rfl (.tmp 32) (.tmp 32) 73 rfl 0 3 j0 _ 1 Tryz.underlying73 hj hy0 hy1 .i64 .i64 _ _ (2 * ws.length - 2) rfl rfl rfl rfl (by rw [hy2]; omega) (by unfold maxLen; omega) (Nat.zero_le _) ?_)
      intro w4 ho4 hg4
      have b4 : Below w3.heap.size w3 w4 := (Below.refl _ _).grown hg4 (Nat.le_refl _) (fun k e => by cases e)
      have OP4 : Hid (Owns .i64 3 w4 (.slice (some ⟨w3.heap.size, 0, none⟩) (2 * ws.length - 2) (2 * ws.length - 2)) (List.replicate (2 * ws.length - 2) 0)) := by
        show w4.ownsRow _ _ _ _ _ _
        rw [toList_madeCells_one] at ho4
        simpa using ho4
      have O4 : Hid (Own0 w w4 h u qs) := ⟨O3.out.hp.below b4, O3.out.bel.trans (b4.mono O3.out.bel.size), O3.out.hn, O3.out.vn⟩
      have HGP : Hid (w.heap.size ≤ w3.heap.size) := O3.out.bel.size
      obtain ⟨gp, hgp⟩ : ∃ gp, Hid (w3.heap.size = gp) := ⟨_, rfl⟩
      rw [hgp.out] at OP4 HGP ⊢
      clear ho4 hg4 b4 O3 hj hy0 hy1 hy2 e2
      go_wp2_with fail
      go_loopw [7] (fun i wr => ∃ (N f : Nat) (L : List NT) (P : List Int) (u : Value) (qs : List (Int × Int)), i = .int .i64 N ∧ N ≤ 512 ∧ 1 ≤ L.length ∧ N + L.length = 2 * ws.length ∧ L.length ≤ f + 1 ∧
        Hid (Own0 w wr h u qs) ∧ Hid (Heap qs qs.length 0) ∧ Hid (qs.Perm (L.map key)) ∧ Hid (JS P N ws.length L (treeOf (fun i => (ws.getD i 0).toNat) ws.length) S f) ∧
        Hid (Owns .i64 3 wr (.slice (some ⟨gp, 0, none⟩) (2 * ws.length - 2) (2 * ws.length - 2)) P)) (fun i _ => 1024 - (intOf i).toNat)
      case atStart =>
        obtain ⟨_, _, l3, _⟩ := L0_facts (fun i => (ws.getD i 0).toNat) ws.length
        exact ⟨ws.length, ws.length, _, _, u, qs, rfl, by omega, by omega, by omega, by omega, O4, HH3, HQ3, HJ, OP4⟩
      case round =>
        obtain ⟨N, f, L, P, u', qs', rfl, hN, hL1, hNL, hf, O5, HH5, HQ5, J5, OP5⟩ := hrel
        clear O4 HH3 HQ3 HJ OP4
        have hql : qs'.length = L.length := by rw [HQ5.out.length_eq]; simp
        have HQL : Hid (qs'.length = L.length) := hql
        clear hql
        obtain ⟨la, lc, hu'⟩ := O5.out.hp.len
        rw [HQL.out] at hu'
        subst hu'
        have ch := O5.out.hp.c0
        by_cases hl : 1 < L.length
        · match L, hL1, hNL, hf, HQ5, J5, HQL, hl, O5, ch with
          | [], hL1, _, _, _, _, _, _, _, _ => simp at hL1
          | [_], _, _, _, _, _, _, hl, _, _ => simp at hl
          | x :: y :: r, hL1, hNL, hf, HQ5, J5, HQL, hl, O5, ch =>
            have hpl := J5.out.plen
            have hx1 := J5.out.lt x (by simp)
            have hy1 := J5.out.lt y (by simp)
            have hnd := J5.out.nd
            have hsm := J5.out.sum
            have hhd := heap_head HQ5.out HH5.out J5.out.lex
            have hlex := J5.out.lex
            simp only [List.map_cons, List.nodup_cons, List.mem_cons, not_or] at hnd
            have hxy : x.num ≠ y.num := hnd.1.1
            simp only [List.map_cons, List.sum_cons] at hsm
            have hsxy : x.w + y.w ≤ 1000000000000000 := by omega
            simp only [List.length_cons] at hNL HQL
            have hxb : x.num < 2 * ws.length - 2 := by omega
            have hyb : y.num < 2 * ws.length - 2 := by omega
            have ta : ∀ (w : World) (x y : Int), (Instr.typeAssert (.iface 218 (.agg #[.int .i64 x, .int .i64 y])) 20 218 false).run Tryz.prog w = .ok (.agg #[.int .i64 x, .int .i64 y]) w := fun _ _ _ => by kernel_rfl
            have HPL : Hid (P.length = 2 * ws.length - 2) := hpl
            have HHD : Hid (G qs' 0 = key x) := hhd
            have HLX : Hid (Lex (x :: y :: r)) := hlex
            clear hpl hnd hsm hhd hlex
            go_wp2_with fail
            refine (tLen_any la _ lc wr).mono ?_
            rintro e wr' ⟨rfl, rfl⟩
            go_wp2_with fail
            refine (hPop_any h _ qs' (r.length + 1) wr' O5.out.hp HQL.out (by rw [HQL.out]; omega) HH5.out).mono ?_
            rintro e w6 ⟨rfl, v6, q6, hp6, hh6, hq6, hv6, ht6⟩
            rw [HHD.out] at hq6 ⊢
            simp only [key]
            have HQ6 : Hid (q6.Perm ((y :: r).map key)) := ((List.Perm.cons_inv (HQ5.out.symm.trans hq6))).symm
            have HH6 : Hid (Heap q6 q6.length 0) := hh6
            have O6 : Hid (Own0 w w6 h v6 q6) := O5.out.step hp6 ht6 (fun k hk => .inl (hv6 ▸ hk))
            have OP6 : Hid (Owns .i64 3 w6 (.slice (some ⟨gp, 0, none⟩) (2 * ws.length - 2) (2 * ws.length - 2)) P) := OP5.out.tch ht6 (fun j hj e => O5.out.hp.apart OP5.out j hj e)
            have HL6 : Hid (q6.length = r.length + 1) := by show _ = _; rw [HQ6.out.length_eq]; simp
            clear hp6 hh6 hq6 hv6 ht6 ch O5 OP5 HH5 HQ5
            have b6 : Below w6.heap.size w6 (w6.alloc (.cells #[.int .i64 x.w, .int .i64 x.num] 218)) := (Below.refl _ _).alloc (Nat.le_refl _) _
            have O6a : Hid (Own0 w (w6.alloc (.cells #[.int .i64 x.w, .int .i64 x.num] 218)) h v6 q6) := O6.out.below b6
            have OP6a : Hid (Owns .i64 3 (w6.alloc (.cells #[.int .i64 x.w, .int .i64 x.num] 218)) (.slice (some ⟨gp, 0, none⟩) (2 * ws.length - 2) (2 * ws.length - 2)) P) := OP6.out.below b6
            have hgl6 : gp < w6.heap.size := OP6.out.lt gp rfl
            have hhl6 : h < w6.heap.size := O6.out.hp.lt
            have HVL6 : Hid (∀ k, v6.ownBlock = some k → k < w6.heap.size) := fun k hk => (World.ownsRow.lt O6.out.hp.own k hk).2
            clear b6
            go_wp2_with fail
            refine (hPop_any h v6 q6 r.length _ O6a.out.hp HL6.out (by rw [HL6.out]; omega) HH6.out).mono ?_
            rintro e w7 ⟨rfl, v7, q7, hp7, hh7, hq7, hv7, ht7⟩
            have hhd : G q6 0 = key y := heap_head HQ6.out HH6.out (by have := HLX.out; unfold Lex at this ⊢; rw [List.pairwise_cons] at this; exact this.2)
            rw [hhd] at hq7 ⊢
            simp only [key]
            have HQ7 : Hid (q7.Perm (r.map key)) := ((List.Perm.cons_inv (HQ6.out.symm.trans hq7))).symm
            have HH7 : Hid (Heap q7 q7.length 0) := hh7
            have O7 : Hid (Own0 w w7 h v7 q7) := O6a.out.step hp7 ht7 (fun k hk => .inl (hv7 ▸ hk))
            have OP7 : Hid (Owns .i64 3 w7 (.slice (some ⟨gp, 0, none⟩) (2 * ws.length - 2) (2 * ws.length - 2)) P) := OP6a.out.tch ht7 (fun j hj e => O6a.out.hp.apart OP6a.out j hj e)
            have HL7 : Hid (q7.length = r.length) := by show _ = _; rw [HQ7.out.length_eq]; simp
            have hb7 : w7.heap[w6.heap.size]? = some (.cells #[.int .i64 x.w, .int .i64 x.num] 218) := by
              rw [ht7.block w6.heap.size (by simp) (fun e => by rcases e with e | e; (· omega); (· have := HVL6.out _ e; omega))]
              exact heap_alloc_new w6 _
            have c80 : w7.cell? ⟨w6.heap.size, 0, none⟩ = some (.int .i64 x.w) := by rw [cell_of_row w7 w6.heap.size 0 _ _ _ hb7]; rfl
            have c81 : w7.cell? ⟨w6.heap.size, 1, none⟩ = some (.int .i64 x.num) := by rw [cell_of_row w7 w6.heap.size 1 _ _ _ hb7]; rfl
            have hl87 : w6.heap.size < w7.heap.size := (Array.getElem?_eq_some_iff.1 hb7).1
            obtain ⟨cp1, fp1, hgl7⟩ := OP7.out.at1 x.num (by rw [HPL.out]; omega)
            obtain ⟨cp2, fp2, _⟩ := OP7.out.at1 y.num (by rw [HPL.out]; omega)
            obtain ⟨B8, hB8⟩ : ∃ B8, w6.heap.size = B8 := ⟨_, rfl⟩
            rw [hB8] at c80 c81 hl87 hgl6 hhl6 ⊢
            have HVL7 : Hid (∀ k, v7.ownBlock = some k → k < B8) := fun k hk => by rw [← hB8]; exact HVL6.out k (hv7 ▸ hk)
            clear hp7 hh7 hq7 hv7 ht7 hhd hb7 hB8 HVL6 O6 O6a OP6 OP6a HH6 HQ6
            go_wp2_with fail
            go_region
            go_wp2_with fail
            have T8 : Tch (fun k => k = gp) w7 (((w7.setCell ⟨gp, x.num, none⟩ (.int .i64 N)).setCell ⟨gp, y.num, none⟩ (.int .i64 N)).alloc (.cells #[.int .i64 y.w, .int .i64 y.num] 218)).drew :=
              Tch.drew (Tch.alloc (Tch.setCell (Tch.setCell (Tch.refl (fun k => k = gp) w7) (p := ⟨gp, x.num, none⟩) (fun _ => rfl) _) (p := ⟨gp, y.num, none⟩) (fun _ => rfl) _) _)
            have hap := O7.out.hp.apart OP7.out gp rfl
            have O8 : Hid (Own0 w (((w7.setCell ⟨gp, x.num, none⟩ (.int .i64 N)).setCell ⟨gp, y.num, none⟩ (.int .i64 N)).alloc (.cells #[.int .i64 y.w, .int .i64 y.num] 218)).drew h v7 q7) :=
              O7.out.tch T8 (fun k e => by rw [e]; exact HGP.out) (fun e => hap (.inl e.symm)) (fun k hk e => hap (.inr (by rw [← e]; exact hk)))
            have OP8 : Hid (Owns .i64 3 (((w7.setCell ⟨gp, x.num, none⟩ (.int .i64 N)).setCell ⟨gp, y.num, none⟩ (.int .i64 N)).alloc (.cells #[.int .i64 y.w, .int .i64 y.num] 218)).drew (.slice (some ⟨gp, 0, none⟩) (2 * ws.length - 2) (2 * ws.length - 2)) ((P.set x.num (N : Int)).set y.num (N : Int))) :=
              ((OP7.out.set x.num (N : Int)).set y.num (N : Int)).below (((Below.refl _ _).alloc (Nat.le_refl _) _).drew)
            obtain ⟨f', rfl⟩ : ∃ f', f = f' + 1 := ⟨f - 1, by simp only [List.length_cons] at hf; omega⟩
            have J8 : Hid (JS ((P.set x.num (N : Int)).set y.num (N : Int)) (N + 1) ws.length (insN (jn x y N) r) (treeOf (fun i => (ws.getD i 0).toNat) ws.length) S f') := J5.out.step (by rw [HPL.out]; omega) (by rw [HPL.out]; omega)
            have HLN : Hid ((insN (jn x y N) r).length = r.length + 1) := by show _ = _; rw [(insN_perm _ _).length_eq]; simp
            refine (hPush_any h v7 q7 ((x.w : Int) + y.w, (N : Int)) _ O8.out.hp (by rw [HL7.out]; omega) HH7.out).mono ?_
            rintro e w9 ⟨rfl, v9, q9, hp9, hh9, hq9, hf9, ht9⟩
            have O9 : Hid (Own0 w w9 h v9 q9) := O8.out.step hp9 ht9 hf9
            have OP9 : Hid (Owns .i64 3 w9 (.slice (some ⟨gp, 0, none⟩) (2 * ws.length - 2) (2 * ws.length - 2)) ((P.set x.num (N : Int)).set y.num (N : Int))) := OP8.out.tch ht9 (fun j hj e => O8.out.hp.apart OP8.out j hj e)
            have HH9 : Hid (Heap q9 q9.length 0) := hh9
            have HQ9 : Hid (q9.Perm ((insN (jn x y N) r).map key)) := by
              refine hq9.trans ((List.perm_append_comm).trans ?_)
              refine List.Perm.trans ?_ ((insN_perm (jn x y N) r).map key).symm
              simp only [List.map_cons, List.singleton_append]
              have ek : key (jn x y N) = ((x.w : Int) + y.w, (N : Int)) := by simp [key, jn]
              rw [ek]
              exact List.Perm.cons _ HQ7.out
            simp only [List.length_cons] at hf
            clear hp9 hh9 hq9 hf9 ht9 O8 OP8 T8 hap O7 OP7 HQ7 HH7 c80 c81 cp1 cp2 fp1 fp2
            go_wp2_with fail
            go_roundw
            case rel => exact ⟨N + 1, f', insN (jn x y N) r, _, v9, q9, by go_num, by omega, by rw [HLN.out]; omega, by rw [HLN.out]; omega, by rw [HLN.out]; omega, O9, HH9, HQ9, J8, OP9⟩
            case measure => simp [intOf]; omega
        · match L, hL1, hNL, hf, HQ5, J5, HQL, hl, O5, ch with
          | [], hL1, _, _, _, _, _, _, _, _ => simp at hL1
          | x :: y :: r, _, _, _, _, _, _, hl, _, _ => simp at hl
          | [t], hL1, hNL, hf, HQ5, J5, HQL, hl, O5, ch =>
            go_wp2_with fail
            refine (tLen_any la _ lc wr).mono ?_
            rintro e w6 ⟨rfl, rfl⟩
            go_wp2_with fail
            go_ret
            refine ⟨_, P, t, N, f, rfl, OP5.out, J5.out, O5.out.bel, fun k hk => ?_⟩
            have hk' : (Value.slice (some (⟨gp, 0, none⟩ : Addr)) (2 * ws.length - 2) (2 * ws.length - 2)).ownBlock = some k := hk
            simp only [Value.ownBlock, Option.some.injEq] at hk'
            have := HGP.out
            omega
end Go.Proofs.YtokkippjbagmkaaGreat

/-
  How deep each weight stands in the tree.
-/
namespace Go.Proofs.YtokkippjbagmkaaGreat
open Go.RowKit Pl Hf
set_option linter.unusedVariables false
set_option maxRecDepth 100000

abbrev cw (ws : List Int) (i : Nat) : Nat := (ws.getD i 0).toNat

/-- The depths of the tree over weights. -/
def deps (ws : List Int) : List Int := (List.range ws.length).map fun i => (depthOf (treeOf (cw ws) ws.length) i : Int)

theorem deps_length (ws : List Int) : (deps ws).length = ws.length := by simp [deps]
theorem deps_getD (ws : List Int) (i : Nat) (hi : i < ws.length) : (deps ws).getD i 0 = (depthOf (treeOf (cw ws) ws.length) i : Int) := by
  simp [deps, List.getD_eq_getElem?_getD, hi]

/-- What the loop over numbers, from the last one down to k, has made. -/
structure DS (P DD : List Int) (R k : Nat) (m : Int) : Prop where
  len : DD.length = R + 1
  root : DD.getD R 0 = 0
  rel : ∀ j, k ≤ j → j < R → DD.getD j 0 = DD.getD (pf P j) 0 + 1
  bd : ∀ j, k ≤ j → j ≤ R → 0 ≤ DD.getD j 0 ∧ DD.getD j 0 ≤ R - j
  top : ∀ j, k ≤ j → j ≤ R → DD.getD j 0 ≤ m
  got : m = 0 ∨ ∃ j, k ≤ j ∧ j < R ∧ DD.getD j 0 = m

theorem DS.step {P DD : List Int} {R k : Nat} {m : Int} (h : DS P DD R (k + 1) m) (hk : k < R) (hp : k < pf P k ∧ pf P k ≤ R) (hr : ∀ j, j < R → j < pf P j ∧ pf P j ≤ R) :
    DS P (DD.set k (DD.getD (pf P k) 0 + 1)) R k (max m (DD.getD (pf P k) 0 + 1)) := by
  have hl := h.len
  have g : ∀ j, (DD.set k (DD.getD (pf P k) 0 + 1)).getD j 0 = if j = k then DD.getD (pf P k) 0 + 1 else DD.getD j 0 := fun j => by
    rw [getD_set]
    by_cases e : j = k
    · rw [if_pos ⟨e, by omega⟩, if_pos e]
    · rw [if_neg (fun x => e x.1), if_neg e]
  have hb := h.bd (pf P k) (by omega) hp.2
  refine ⟨by simp [hl], by rw [g, if_neg (by omega)]; exact h.root, fun j h1 h2 => ?_, fun j h1 h2 => ?_, fun j h1 h2 => ?_, ?_⟩
  · rw [g j, g (pf P j)]
    by_cases e : j = k
    · subst e
      rw [if_pos rfl, if_neg (by omega)]
    · have := hr j h2
      rw [if_neg e, if_neg (by omega)]
      exact h.rel j (by omega) h2
  · rw [g j]
    by_cases e : j = k
    · rw [if_pos e]; omega
    · rw [if_neg e]; exact h.bd j (by omega) h2
  · rw [g j]
    by_cases e : j = k
    · rw [if_pos e]; omega
    · rw [if_neg e]; have := h.top j (by omega) h2; omega
  · rcases h.got with e | ⟨j, h1, h2, h3⟩
    · right
      refine ⟨k, by omega, hk, ?_⟩
      rw [g, if_pos rfl]
      omega
    · by_cases hm : m ≤ DD.getD (pf P k) 0 + 1
      · right
        refine ⟨k, by omega, hk, ?_⟩
        rw [g, if_pos rfl]
        omega
      · right
        refine ⟨j, by omega, h2, ?_⟩
        rw [g, if_neg (by omega), h3]
        omega

theorem DS.start (P : List Int) (R : Nat) : DS P (List.replicate (R + 1) 0) R R 0 := by
  have g : ∀ j, (List.replicate (R + 1) (0 : Int)).getD j 0 = 0 := fun j => by
    simp only [List.getD_eq_getElem?_getD, List.getElem?_replicate]
    split <;> simp
  exact ⟨by simp, g _, fun j h1 h2 => by omega, fun j h1 h2 => by rw [g]; omega, fun j h1 h2 => by rw [g]; omega, .inl rfl⟩

theorem DS.done {P DD ws : List Int} {m : Int} {N S f : Nat} {t : NT} (h : DS P DD (2 * ws.length - 2) 0 m) (J : JS P N ws.length [t] (treeOf (cw ws) ws.length) S f) (hn : 1 ≤ ws.length) (hpos : ∀ i, i < ws.length → 0 < ws.getD i 0) :
    DD.take ws.length = deps ws ∧ 0 ≤ m ∧ m ≤ 2 * ws.length ∧ (m ≤ 11 ↔ ∀ i, i < ws.length → (deps ws).getD i 0 ≤ 11) := by
  obtain ⟨hr, hD⟩ := J.done hn
  have hlen := h.len
  obtain ⟨hT, hM⟩ := hD (fun j => (DD.getD j 0).toNat) (by rw [h.root]; rfl) (fun j hj => by
    have h1 := h.rel j (Nat.zero_le _) hj
    have h2 := h.bd (pf P j) (Nat.zero_le _) (hr j hj).2
    omega)
  have hst := stand_all (cw ws) ws.length (fun i hi => by have := hpos i hi; simp only [cw]; omega)
  have hdep : ∀ i, i < ws.length → DD.getD i 0 = (depthOf (treeOf (cw ws) ws.length) i : Int) := fun i hi => by
    have hb := treeOf_bytes (cw ws) ws.length (by rw [hst, List.length_range]; omega)
    have hb2 : ((treeOf (cw ws) ws.length).map (·.1)).Perm (List.range ws.length) := by
      refine hb.trans ?_
      rw [hst]
      exact sortB_perm _ _
    have hm : i ∈ (treeOf (cw ws) ws.length).map (·.1) := hb2.mem_iff.2 (by simpa using hi)
    obtain ⟨p, hp, rfl⟩ := List.mem_map.1 hm
    rw [depthOf_mem (hb2.nodup_iff.2 List.nodup_range) hp]
    have h1 := hT p hp
    have h2 := h.bd p.1 (Nat.zero_le _) (by omega)
    omega
  have e : DD.take ws.length = deps ws := by
    refine list_eq_of_getD (by rw [List.length_take, deps_length]; omega) (fun i hi => ?_)
    rw [List.length_take] at hi
    rw [deps_getD ws i (by omega), ← hdep i (by omega), List.getD_eq_getElem?_getD, List.getElem?_take, if_pos (by omega), ← List.getD_eq_getElem?_getD]
  have hm0 : 0 ≤ m ∧ m ≤ 2 * ws.length := by
    rcases h.got with e | ⟨j, _, h2, h3⟩
    · omega
    · have := h.bd j (Nat.zero_le _) (by omega)
      omega
  refine ⟨e, hm0.1, hm0.2, fun h1 i hi => ?_, fun h1 => ?_⟩
  · rw [deps_getD ws i hi, ← hdep i hi]
    have := h.top i (Nat.zero_le _) (by omega)
    omega
  · rcases h.got with e | ⟨j, _, h2, h3⟩
    · omega
    · have h4 := hM 11 (fun i hi => by
        have := h1 i hi
        rw [deps_getD ws i hi, ← hdep i hi] at this
        omega) j (by omega)
      have := h.bd j (Nat.zero_le _) (by omega)
      omega

theorem pf_cell {P : List Int} {n N S f : Nat} {L : List NT} {T : List (Nat × Nat)} (J : JS P N n L T S f) (j : Nat) : P.getD j 0 = (pf P j : Int) := by
  have := J.nn j
  unfold pf
  omega

set_option maxHeartbeats 4000000 in
theorem grow_any (v : Value) (ws : List Int) (w : World) (hr : Rd .i64 w v ws) (h2 : 2 ≤ ws.length) (h3 : ws.length ≤ 256) (hpos : ∀ i, i < ws.length → 0 < ws.getD i 0) (S : Nat) (hS : ((List.range ws.length).map (cw ws)).sum = S) (hS2 : S ≤ 1000000000000000) :
    Calls Tryz.prog 171 #[v] w fun e w' => ∃ dv m, e = .returned (.tuple #[dv, .int .i64 m]) ∧ Rd .i64 w' dv (deps ws) ∧ 0 ≤ m ∧ m ≤ 512 ∧ (m ≤ 11 ↔ ∀ i, i < ws.length → (deps ws).getD i 0 ≤ 11) ∧ Below w.heap.size w w' ∧ ∀ k, dv.ownBlock = some k → w.heap.size ≤ k := by
  have HR : Hid (Rd .i64 w v ws) := hr
  have HPOS : Hid (∀ i, i < ws.length → 0 < ws.getD i 0) := hpos
  have HS : Hid (((List.range ws.length).map (cw ws)).sum = S) := hS
  obtain ⟨a, cap, rfl, hlc, hcm, _, hcc⟩ := hr
  clear hcc hpos hS
  obtain ⟨j0, hj, hy0, hy1, hy2⟩ := elem64.info
  go_enter Tryz.func171, Tryz.ntmps171
  go_wp2_with fail
  refine (join_any _ ws w HR.out h2 h3 HPOS.out S HS.out hS2).mono ?_
  rintro e w1 ⟨pv, P, t, N, f, rfl, hop, hJ, hb, hfr⟩
  have HJ : Hid (JS P N ws.length [t] (treeOf (cw ws) ws.length) S f) := hJ
  have hpl : P.length = 2 * ws.length - 2 := hJ.plen
  obtain ⟨gp, pc, hpv, _⟩ := Owns.shape hop (by omega)
  rw [hpl] at hpv
  subst hpv
  have OP1 : Hid (Owns .i64 3 w1 (.slice (some ⟨gp, 0, none⟩) (2 * ws.length - 2) pc) P) := hop
  have HB1 : Hid (Below w.heap.size w w1) := hb
  have HPL : Hid (P.length = 2 * ws.length - 2) := hpl
  have HRT : Hid (∀ j, j < 2 * ws.length - 2 → j < pf P j ∧ pf P j ≤ 2 * ws.length - 2) := (hJ.done (by omega)).1
  clear hop hJ hb hfr hpl
  go_wp2_with (at_make; refine wpList_make_full _ rfl (.tmp 16) (.tmp 16) 73 rfl 0 3 j0 _ 1 Tryz.underlying73 hj hy0 hy1 .i64 .i64 _ _ (2 * ws.length - 2 + 1) rfl rfl (by omega) (by omega) (by rw [hy2]; omega) (by unfold maxLen; omega) (Nat.zero_le _) ?_)
  intro w2 ho2 hg2
  have b2 : Below w1.heap.size w1 w2 := (Below.refl _ _).grown hg2 (Nat.le_refl _) (fun k e => by cases e)
  obtain ⟨gd, hgd⟩ : ∃ gd, Hid (w1.heap.size = gd) := ⟨_, rfl⟩
  have OD2 : Hid (Owns .i64 3 w2 (.slice (some ⟨gd, 0, none⟩) (2 * ws.length - 2 + 1) (2 * ws.length - 2 + 1)) (List.replicate (2 * ws.length - 2 + 1) 0)) := by
    show w2.ownsRow _ _ _ _ _ _
    rw [toList_madeCells_one, hgd.out] at ho2
    simpa using ho2
  have OP2 : Hid (Owns .i64 3 w2 (.slice (some ⟨gp, 0, none⟩) (2 * ws.length - 2) pc) P) := OP1.out.below b2
  have hgpd : gp ≠ gd := by have := OP1.out.lt gp rfl; rw [hgd.out] at this; omega
  have HB2 : Hid (Below w.heap.size w w2) := HB1.out.trans (b2.mono HB1.out.size)
  have HGD : Hid (w.heap.size ≤ gd) := by show _ ≤ _; rw [← hgd.out]; exact HB1.out.size
  rw [hgd.out]
  clear ho2 hg2 b2 hj hy0 hy1 hy2 OP1 HB1
  go_wp2_with fail
  go_loopw [7, 8] (fun q i wr => ∃ (k : Nat) (m : Int) (DD : List Int), k ≤ 2 * ws.length - 2 ∧ i = .int .i64 ((k : Int) - 1) ∧ q = .int .i64 m ∧ 0 ≤ m ∧ m ≤ 512 ∧ Hid (DS P DD (2 * ws.length - 2) k m) ∧ Hid (Owns .i64 3 wr (.slice (some ⟨gd, 0, none⟩) (2 * ws.length - 2 + 1) (2 * ws.length - 2 + 1)) DD) ∧ Hid (Owns .i64 3 wr (.slice (some ⟨gp, 0, none⟩) (2 * ws.length - 2) pc) P) ∧ Hid (Below w.heap.size w wr)) (fun _ i _ => (intOf i + 1).toNat)
  case atStart => exact ⟨2 * ws.length - 2, 0, _, Nat.le_refl _, by first | rfl | go_num, rfl, by omega, by omega, DS.start P _, OD2, OP2, HB2⟩
  case round =>
    obtain ⟨k, m, DD, hk, rfl, rfl, hm0, hm1, HD, OD, OP, HB⟩ := hrel
    clear OD2 OP2 HB2
    by_cases h0 : k = 0
    · subst h0
      have hdone := HD.out.done HJ.out (by omega) HPOS.out
      have HDN : Hid (DD.take ws.length = deps ws ∧ 0 ≤ m ∧ m ≤ 2 * ws.length ∧ (m ≤ 11 ↔ ∀ i, i < ws.length → (deps ws).getD i 0 ≤ 11)) := hdone
      have HLD : Hid (DD.length = 2 * ws.length - 2 + 1) := HD.out.len
      have e1 : ((0 : Nat) : Int) - 1 = -1 := by omega
      rw [e1]
      clear hdone HD
      go_wp2_with fail
      go_ret2
      refine ⟨.slice (some ⟨gd, 0, none⟩) ws.length (2 * ws.length - 2 + 1), m, rfl, ?_, HDN.out.2.1, by omega, HDN.out.2.2.2, HB.out, fun k hk => by simp only [Value.ownBlock, Option.some.injEq] at hk; have := HGD.out; omega⟩
      rw [← HDN.out.1]
      have hc : ∀ i, i < DD.length → wr.cell? ⟨gd, 0 + i, none⟩ = some (.int .i64 (DD.getD i 0)) := fun i hi => by rw [Nat.zero_add]; exact (OD.out.at1 i hi).1
      exact rd_take ws.length (by rw [HLD.out]; omega) (by rw [HLD.out]; exact Nat.le_refl _) (by unfold maxLen; omega) hc
    · obtain ⟨j, rfl⟩ : ∃ j, k = j + 1 := ⟨k - 1, by omega⟩
      have e1 : ((j + 1 : Nat) : Int) - 1 = (j : Int) := by omega
      rw [e1]
      have hrt := HRT.out j (by omega)
      have hlen := HD.out.len
      obtain ⟨q, hq⟩ : ∃ q, Hid (pf P j = q) := ⟨_, rfl⟩
      rw [hq.out] at hrt
      have cp : wr.cell? ⟨gp, j, none⟩ = some (.int .i64 (q : Int)) := by rw [(OP.out.at1 j (by rw [HPL.out]; omega)).1, pf_cell HJ.out, hq.out]
      obtain ⟨x, hx⟩ : ∃ x, Hid (DD.getD q 0 = x) := ⟨_, rfl⟩
      have cq : wr.cell? ⟨gd, q, none⟩ = some (.int .i64 x) := by rw [(OD.out.at1 q (by omega)).1, hx.out]
      obtain ⟨y, hy⟩ : ∃ y, Hid (DD.getD j 0 = y) := ⟨_, rfl⟩
      obtain ⟨cj0, fj, _⟩ := OD.out.at1 j (by omega)
      have cj : wr.cell? ⟨gd, j, none⟩ = some (.int .i64 y) := by rw [cj0, hy.out]
      have hbd := HD.out.bd q (by omega) (by omega)
      rw [hx.out] at hbd
      have HD2 : Hid (DS P (DD.set j (x + 1)) (2 * ws.length - 2) j (max m (x + 1))) := by
        have := HD.out.step (by omega) (HRT.out j (by omega)) HRT.out
        rw [hq.out, hx.out] at this
        exact this
      have hx0 : 0 ≤ x ∧ x ≤ 510 := by omega
      have emx : max m (x + 1) = if m < x + 1 then x + 1 else m := by split <;> omega
      rw [emx] at HD2
      have OD3 : Hid (Owns .i64 3 (wr.setCell ⟨gd, j, none⟩ (.int .i64 (x + 1))) (.slice (some ⟨gd, 0, none⟩) (2 * ws.length - 2 + 1) (2 * ws.length - 2 + 1)) (DD.set j (x + 1))) := OD.out.set j (x + 1)
      have T3 : Tch (fun k => k = gd) wr (wr.setCell ⟨gd, j, none⟩ (.int .i64 (x + 1))) := Tch.setCell (Tch.refl (fun k => k = gd) wr) (p := ⟨gd, j, none⟩) (fun _ => rfl) _
      have OP3 : Hid (Owns .i64 3 (wr.setCell ⟨gd, j, none⟩ (.int .i64 (x + 1))) (.slice (some ⟨gp, 0, none⟩) (2 * ws.length - 2) pc) P) := OP.out.tch T3 (fun k hk e => by simp only [Value.ownBlock, Option.some.injEq] at hk; omega)
      have HB3 : Hid (Below w.heap.size w (wr.setCell ⟨gd, j, none⟩ (.int .i64 (x + 1)))) := HB.out.trans (T3.below HB.out.size (fun k e => by rw [e]; exact HGD.out))
      clear hbd hlen cj0 emx T3
      go_wp2_with fail
      go_roundw
      case rel => exact ⟨j, _, _, by omega, rfl, rfl, by split <;> omega, by split <;> omega, HD2, OD3, OP3, HB3⟩
      case measure => simp [intOf]
end Go.Proofs.YtokkippjbagmkaaGreat
