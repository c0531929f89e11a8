/-
  Things are joined: which one each became part of.
-/
import Derived.Test.YtcmnhgefeffcpaaHInit
import Derived.Test.YtcmnhgefeffcpaaHJoinP
import Derived.OwnWalk
import Derived.Laws.OwnMore
namespace Go.Proofs.Ytcmnhgefeffcpaa
open Go.RowKit Pl Hf
set_option linter.unusedVariables false
set_option maxRecDepth 100000

/-- The things of the first k weights. -/
def tk (ws : List Int) (k : Nat) : List (Int × Int) := (List.range k).map fun i => (ws.getD i 0, (i : Int))

theorem tk_succ (ws : List Int) (k : Nat) : tk ws (k + 1) = tk ws k ++ [(ws.getD k 0, (k : Int))] := by
  unfold tk; rw [List.range_succ, List.map_append]; rfl
theorem tk_length (ws : List Int) (k : Nat) : (tk ws k).length = k := by simp [tk]

theorem le_sum_mem {l : List Nat} {x : Nat} (h : x ∈ l) : x ≤ l.sum := by
  induction l with
  | nil => simp at h
  | cons y r ih =>
    simp only [List.sum_cons]
    rcases List.mem_cons.1 h with e | e
    · omega
    · have := ih e; omega

/-- A heap that a call made for itself: nothing of w0 has turned. -/
structure Own0 (w0 w : World) (h : Nat) (v : Value) (ps : List (Int × Int)) : Prop where
  hp : Hp w h v ps
  bel : Below w0.heap.size w0 w
  hn : w0.heap.size ≤ h
  vn : ∀ k, v.ownBlock = some k → w0.heap.size ≤ k

/-- What an append and a store into the variable make. -/
theorem Hp.push {w w1 : World} {h : Nat} {v v' : Value} {ps qs : List (Int × Int)} (H : Hp w h v ps) (ho : OwnsT w1 v' qs) (hg : Grew w w1 v v') :
    w1.cell? ⟨h, 0, none⟩ = some v ∧ w1.frozen? ⟨h, 0, none⟩ = false ∧ Hid (Hp (w1.setCell ⟨h, 0, none⟩ v') h v' qs ∧ Tch (fun k => k = h ∨ v.ownBlock = some k) w (w1.setCell ⟨h, 0, none⟩ v')) := by
  have hb1 : w1.heap[h]? = some (.cells #[v] 126 (0, 0)) := by
    rw [hg.tch.block h H.lt (fun e => H.ne e)]
    exact H.blk
  refine ⟨by rw [cell_of_row w1 h 0 _ _ (0, 0) hb1]; rfl, frozen_of_row w1 h 0 _ _ hb1, ⟨?_, ho.tch (S := fun k => k = h) (Tch.setCell (Tch.refl (fun k => k = h) w1) (p := ⟨h, 0, none⟩) (fun _ => rfl) _) (fun j hj e => ho.ne_blk hb1 (by decide) hj e)⟩, ?_⟩
  · rw [heap_setCell_same w1 h 0 _ _ _ hb1]
    simp
  · exact Tch.setCell (hg.tch.mono (fun _ _ e => .inr e)) (p := ⟨h, 0, none⟩) (fun _ => .inl rfl) _

theorem Own0.step {w0 w w' : World} {h : Nat} {v v' : Value} {ps qs : List (Int × Int)} (H : Own0 w0 w h v ps) (hp : Hp w' h v' qs) (ht : Tch (fun k => k = h ∨ v.ownBlock = some k) w w') (hf : ∀ k, v'.ownBlock = some k → v.ownBlock = some k ∨ w.heap.size ≤ k) : Own0 w0 w' h v' qs := by
  refine ⟨hp, H.bel.trans (ht.below H.bel.size (fun k e => by rcases e with e | e; (· rw [e]; exact H.hn); (· exact H.vn k e))), H.hn, fun k hk => ?_⟩
  rcases hf k hk with e | e
  · exact H.vn k e
  · have := H.bel.size; omega

theorem Own0.tch {S : Nat → Prop} {w0 w w' : World} {h : Nat} {v : Value} {ps : List (Int × Int)} (H : Own0 w0 w h v ps) (ht : Tch S w w') (hS : ∀ k, S k → w0.heap.size ≤ k) (hb : ¬ S h) (hr : ∀ k, v.ownBlock = some k → ¬ S k) : Own0 w0 w' h v ps :=
  ⟨H.hp.tch ht hb hr, H.bel.trans (ht.below H.bel.size hS), H.hn, H.vn⟩
theorem Own0.below {w0 w w' : World} {h : Nat} {v : Value} {ps : List (Int × Int)} (H : Own0 w0 w h v ps) (hb : Below w.heap.size w w') : Own0 w0 w' h v ps :=
  H.tch (S := fun _ => False) (Tch.of_below hb) (fun _ e => e.elim) (fun e => e) (fun _ _ e => e)

/-- Numbers lie in no block of a heap's. -/
theorem Hp.apart {w : World} {h : Nat} {v pv : Value} {ps : List (Int × Int)} {P : List Int} (H : Hp w h v ps) (O : Owns .i64 3 w pv P) : ∀ j, pv.ownBlock = some j → ¬ (j = h ∨ v.ownBlock = some j) := by
  intro j hj
  obtain ⟨c1, h1⟩ := block_of_owns (show w.ownsRow 0 3 1 pv P.length (P.map (Value.int .i64)) from O) hj
  rintro (e | e)
  · subst e
    rw [H.blk] at h1
    simp at h1
  · obtain ⟨c2, h2⟩ := block_of_owns (show w.ownsRow 0 128 2 v ps.length (pcells ps) from H.own) e
    rw [h1] at h2
    simp at h2

theorem Owns.at1 {w : World} {g n cap : Nat} {xs : List Int} (h : Owns .i64 3 w (.slice (some ⟨g, 0, none⟩) n cap) xs) (i : Nat) (hi : i < xs.length) : w.cell? ⟨g, i, none⟩ = some (.int .i64 (xs.getD i 0)) ∧ w.frozen? ⟨g, i, none⟩ = false ∧ g < w.heap.size := by
  obtain ⟨g', cap', e, hlt, _, _, hc, hf⟩ := Owns.shape h (by omega)
  simp only [Value.slice.injEq, Option.some.injEq, Addr.mk.injEq, and_true] at e
  obtain ⟨rfl, _, _⟩ := e
  exact ⟨hc i hi, hf i, hlt⟩

set_option maxHeartbeats 8000000 in
theorem join_any (v : Value) (ws : List Int) (w : World) (hr : Rd .i64 w v ws) (h2 : 2 ≤ ws.length) (h3 : ws.length ≤ 256) (hpos : ∀ i, i < ws.length → 0 < ws.getD i 0) (S : Nat) (hS : ((List.range ws.length).map fun i => (ws.getD i 0).toNat).sum = S) (hS2 : S ≤ 1000000000000000) :
    Calls Try.prog 65 #[v] w fun e w' => ∃ pv P t N f, e = .returned pv ∧ Owns .i64 3 w' pv P ∧ JS P N ws.length [t] (treeOf (fun i => (ws.getD i 0).toNat) ws.length) S f ∧ Below w.heap.size w w' ∧ ∀ k, pv.ownBlock = some k → w.heap.size ≤ k := by
  have HR : Hid (Rd .i64 w v ws) := hr
  obtain ⟨i0, hi, hz0, hz1, hz2⟩ := info_parts infoT
  obtain ⟨a, cap, rfl, hlc, hcm, _, hcc⟩ := hr
  obtain ⟨b, o, rfl, hc⟩ : ∃ b o, a = some ⟨b, o, none⟩ ∧ ∀ i, i < ws.length → w.cell? ⟨b, o + i, none⟩ = some (.int .i64 (ws.getD i 0)) := by
    rcases hcc with rfl | h
    · simp at h2
    · exact h
  have HC : Hid (∀ i, i < ws.length → w.cell? ⟨b, o + i, none⟩ = some (.int .i64 (ws.getD i 0))) := hc
  clear hcc hc
  have HPOS : Hid (∀ i, i < ws.length → 0 < ws.getD i 0) := hpos
  have HS : Hid (((List.range ws.length).map fun i => (ws.getD i 0).toNat).sum = S) := hS
  clear hpos hS
  have HW : Hid (∀ i, i < ws.length → ws.getD i 0 ≤ 1000000000000000) := fun i hi => by
    have : (ws.getD i 0).toNat ≤ ((List.range ws.length).map fun i => (ws.getD i 0).toNat).sum := le_sum_mem (List.mem_map.2 ⟨i, by simpa using hi, rfl⟩)
    rw [HS.out] at this
    omega
  go_enter Try.func65, Try.ntmps65
  go_wp2_with (at_make; refine wpList_make_own _ rfl (.const (.int .i64 0)) (.tmp 11) 126 rfl 0 128 i0 _ 2 Try.underlying126 hi hz0 hz1 .i64 .i64 _ ws.length rfl rfl rfl (by rw [hz2]; omega) (by unfold maxLen; omega) (Nat.zero_le _) ?_)
  intro w1 ho1 hg1
  have O1 : Hid (Own0 w (w1.alloc (.cells #[.slice (some ⟨w.heap.size, 0, none⟩) 0 ws.length] 126)) w1.heap.size (.slice (some ⟨w.heap.size, 0, none⟩) 0 ws.length) (tk ws 0)) := by
    have b1 : Below w.heap.size w w1 := (Below.refl _ _).grown hg1 (Nat.le_refl _) (fun k e => by cases e)
    refine ⟨⟨heap_alloc_new w1 _, OwnsT.below (show OwnsT w1 _ [] from ho1) ((Below.refl _ _).alloc (Nat.le_refl _) _)⟩, b1.alloc b1.size _, b1.size, fun k hk => ?_⟩
    simp only [Value.ownBlock, Option.some.injEq] at hk
    omega
  clear ho1 hg1
  obtain ⟨h, hh⟩ : ∃ h, w1.heap.size = h := ⟨_, rfl⟩
  rw [hh] at O1
  have HHH : Hid (w1.heap.size = h) := hh
  go_wp2_with fail
  clear hh
  go_loopw [15] (fun i wr => ∃ (k : Nat) (u : Value), k ≤ ws.length ∧ i = .int .i64 k ∧ Hid (Own0 w wr h u (tk ws k))) (fun i _ => ws.length - (intOf i).toNat)
  case atStart => exact ⟨0, _, Nat.zero_le _, rfl, O1⟩
  case round =>
    obtain ⟨k, u, hk, rfl, O2⟩ := hrel
    clear O1
    by_cases hlt : k < ws.length
    · obtain ⟨x, hxe⟩ : ∃ x, Hid (ws.getD k 0 = x) := ⟨_, rfl⟩
      have cx : wr.cell? ⟨b, o + k, none⟩ = some (.int .i64 x) := by
        have h0 := HC.out k hlt
        rw [O2.out.bel.cell (p := ⟨b, o + k, none⟩) (World.block_lt_of_cell? w ⟨b, o + k, none⟩ h0), h0, hxe.out]
      have ch := O2.out.hp.c0
      have HTK : Hid ((tk ws k).length = k) := tk_length ws k
      go_wp2_with (at_builtin; refine wpList_pushT _ rfl (.tmp 20) (.tmp 24) rfl u (tk ws k) rfl O2.out.hp.own (x, (k : Int)) rfl (by rw [HTK.out]; omega) ?_)
      intro v' w2 ho2 hg2
      obtain ⟨a2, c2, hv2⟩ : ∃ a c, v' = .slice a (k + 1) c := by obtain ⟨a, c, e, _⟩ := ho2.rd; rw [List.length_append, HTK.out] at e; exact ⟨a, c, e⟩
      subst hv2
      obtain ⟨ch2, fh2, HP2⟩ := O2.out.hp.push ho2 hg2
      have O3 : Hid (Own0 w (w2.setCell ⟨h, 0, none⟩ (.slice a2 (k + 1) c2)) h (.slice a2 (k + 1) c2) (tk ws (k + 1))) := by
        show Own0 _ _ _ _ _
        rw [tk_succ, hxe.out]
        exact O2.out.step HP2.out.1 HP2.out.2 hg2.fresh
      clear ho2 hg2 HP2 O2 ch cx
      go_wp2_with fail
      go_roundw
      case rel => exact ⟨k + 1, _, by omega, by go_num, O3⟩
      case measure => simp [intOf]; omega
    · obtain rfl : k = ws.length := by omega
      clear HC
      go_wp2_with fail
      refine (hInit_any h u (tk ws ws.length) wr O2.out.hp (by rw [tk_length]; omega)).mono ?_
      rintro e w3 ⟨rfl, qs, hp3, hh3, hq3, ht3⟩
      have O3 : Hid (Own0 w w3 h u qs) := O2.out.step hp3 (ht3.mono (fun _ _ e => .inr e)) (fun k hk => .inl hk)
      have HH3 : Hid (Heap qs qs.length 0) := hh3
      have HQ3 : Hid (qs.Perm ((L0 (fun i => (ws.getD i 0).toNat) ws.length).map key)) := by
        refine hq3.trans ?_
        obtain ⟨_, _, _, _, _, h6, _⟩ := L0_facts (fun i => (ws.getD i 0).toNat) ws.length
        refine List.Perm.trans ?_ h6.symm
        unfold tk
        refine List.Perm.of_eq (List.map_congr_left (fun i hi => ?_))
        have := HPOS.out i (by simpa using hi)
        simp only [Prod.mk.injEq, and_true]
        omega
      have HJ : Hid (JS (List.replicate (2 * ws.length - 2) 0) ws.length ws.length (L0 (fun i => (ws.getD i 0).toNat) ws.length) (treeOf (fun i => (ws.getD i 0).toNat) ws.length) S ws.length) := by
        have := JS.start (fun i => (ws.getD i 0).toNat) ws.length (fun i hi => by have := HPOS.out i hi; omega)
        rw [HS.out] at this
        exact this
      obtain ⟨j0, hj, hy0, hy1, hy2⟩ := elem64.info
      have e2 : 2 * (ws.length : Int) - 2 = ((2 * ws.length - 2 : Nat) : Int) := by omega
      clear hp3 hh3 hq3 ht3 O2
      go_wp2_with (at_make; refine wpList_make_full _ rfl (.tmp 32) (.tmp 32) 22 rfl 0 3 j0 _ 1 Try.underlying22 hj hy0 hy1 .i64 .i64 _ _ (2 * ws.length - 2) rfl rfl rfl rfl (by rw [hy2]; omega) (by unfold maxLen; omega) (Nat.zero_le _) ?_)
      intro w4 ho4 hg4
      have b4 : Below w3.heap.size w3 w4 := (Below.refl _ _).grown hg4 (Nat.le_refl _) (fun k e => by cases e)
      have OP4 : Hid (Owns .i64 3 w4 (.slice (some ⟨w3.heap.size, 0, none⟩) (2 * ws.length - 2) (2 * ws.length - 2)) (List.replicate (2 * ws.length - 2) 0)) := by
        show w4.ownsRow _ _ _ _ _ _
        rw [toList_madeCells_one] at ho4
        simpa using ho4
      have O4 : Hid (Own0 w w4 h u qs) := ⟨O3.out.hp.below b4, O3.out.bel.trans (b4.mono O3.out.bel.size), O3.out.hn, O3.out.vn⟩
      have HGP : Hid (w.heap.size ≤ w3.heap.size) := O3.out.bel.size
      obtain ⟨gp, hgp⟩ : ∃ gp, Hid (w3.heap.size = gp) := ⟨_, rfl⟩
      rw [hgp.out] at OP4 HGP ⊢
      clear ho4 hg4 b4 O3 hj hy0 hy1 hy2 e2
      go_wp2_with fail
      go_loopw [7] (fun i wr => ∃ (N f : Nat) (L : List NT) (P : List Int) (u : Value) (qs : List (Int × Int)), i = .int .i64 N ∧ N ≤ 512 ∧ 1 ≤ L.length ∧ N + L.length = 2 * ws.length ∧ L.length ≤ f + 1 ∧
        Hid (Own0 w wr h u qs) ∧ Hid (Heap qs qs.length 0) ∧ Hid (qs.Perm (L.map key)) ∧ Hid (JS P N ws.length L (treeOf (fun i => (ws.getD i 0).toNat) ws.length) S f) ∧
        Hid (Owns .i64 3 wr (.slice (some ⟨gp, 0, none⟩) (2 * ws.length - 2) (2 * ws.length - 2)) P)) (fun i _ => 1024 - (intOf i).toNat)
      case atStart =>
        obtain ⟨_, _, l3, _⟩ := L0_facts (fun i => (ws.getD i 0).toNat) ws.length
        exact ⟨ws.length, ws.length, _, _, u, qs, rfl, by omega, by omega, by omega, by omega, O4, HH3, HQ3, HJ, OP4⟩
      case round =>
        obtain ⟨N, f, L, P, u', qs', rfl, hN, hL1, hNL, hf, O5, HH5, HQ5, J5, OP5⟩ := hrel
        clear O4 HH3 HQ3 HJ OP4
        have hql : qs'.length = L.length := by rw [HQ5.out.length_eq]; simp
        have HQL : Hid (qs'.length = L.length) := hql
        clear hql
        obtain ⟨la, lc, hu'⟩ := O5.out.hp.len
        rw [HQL.out] at hu'
        subst hu'
        have ch := O5.out.hp.c0
        by_cases hl : 1 < L.length
        · match L, hL1, hNL, hf, HQ5, J5, HQL, hl, O5, ch with
          | [], hL1, _, _, _, _, _, _, _, _ => simp at hL1
          | [_], _, _, _, _, _, _, hl, _, _ => simp at hl
          | x :: y :: r, hL1, hNL, hf, HQ5, J5, HQL, hl, O5, ch =>
            have hpl := J5.out.plen
            have hx1 := J5.out.lt x (by simp)
            have hy1 := J5.out.lt y (by simp)
            have hnd := J5.out.nd
            have hsm := J5.out.sum
            have hhd := heap_head HQ5.out HH5.out J5.out.lex
            have hlex := J5.out.lex
            simp only [List.map_cons, List.nodup_cons, List.mem_cons, not_or] at hnd
            have hxy : x.num ≠ y.num := hnd.1.1
            simp only [List.map_cons, List.sum_cons] at hsm
            have hsxy : x.w + y.w ≤ 1000000000000000 := by omega
            simp only [List.length_cons] at hNL HQL
            have hxb : x.num < 2 * ws.length - 2 := by omega
            have hyb : y.num < 2 * ws.length - 2 := by omega
            have ta : ∀ (w : World) (x y : Int), (Instr.typeAssert (.iface 128 (.agg #[.int .i64 x, .int .i64 y])) 20 128 false).run Try.prog w = .ok (.agg #[.int .i64 x, .int .i64 y]) w := fun _ _ _ => by kernel_rfl
            have HPL : Hid (P.length = 2 * ws.length - 2) := hpl
            have HHD : Hid (G qs' 0 = key x) := hhd
            have HLX : Hid (Lex (x :: y :: r)) := hlex
            clear hpl hnd hsm hhd hlex
            go_wp2_with fail
            refine (tLen_any la _ lc wr).mono ?_
            rintro e wr' ⟨rfl, rfl⟩
            go_wp2_with fail
            refine (hPop_any h _ qs' (r.length + 1) wr' O5.out.hp HQL.out (by rw [HQL.out]; omega) HH5.out).mono ?_
            rintro e w6 ⟨rfl, v6, q6, hp6, hh6, hq6, hv6, ht6⟩
            rw [HHD.out] at hq6 ⊢
            simp only [key]
            have HQ6 : Hid (q6.Perm ((y :: r).map key)) := ((List.Perm.cons_inv (HQ5.out.symm.trans hq6))).symm
            have HH6 : Hid (Heap q6 q6.length 0) := hh6
            have O6 : Hid (Own0 w w6 h v6 q6) := O5.out.step hp6 ht6 (fun k hk => .inl (hv6 ▸ hk))
            have OP6 : Hid (Owns .i64 3 w6 (.slice (some ⟨gp, 0, none⟩) (2 * ws.length - 2) (2 * ws.length - 2)) P) := OP5.out.tch ht6 (fun j hj e => O5.out.hp.apart OP5.out j hj e)
            have HL6 : Hid (q6.length = r.length + 1) := by show _ = _; rw [HQ6.out.length_eq]; simp
            clear hp6 hh6 hq6 hv6 ht6 ch O5 OP5 HH5 HQ5
            have b6 : Below w6.heap.size w6 (w6.alloc (.cells #[.int .i64 x.w, .int .i64 x.num] 128)) := (Below.refl _ _).alloc (Nat.le_refl _) _
            have O6a : Hid (Own0 w (w6.alloc (.cells #[.int .i64 x.w, .int .i64 x.num] 128)) h v6 q6) := O6.out.below b6
            have OP6a : Hid (Owns .i64 3 (w6.alloc (.cells #[.int .i64 x.w, .int .i64 x.num] 128)) (.slice (some ⟨gp, 0, none⟩) (2 * ws.length - 2) (2 * ws.length - 2)) P) := OP6.out.below b6
            have hgl6 : gp < w6.heap.size := OP6.out.lt gp rfl
            have hhl6 : h < w6.heap.size := O6.out.hp.lt
            have HVL6 : Hid (∀ k, v6.ownBlock = some k → k < w6.heap.size) := fun k hk => (World.ownsRow.lt O6.out.hp.own k hk).2
            clear b6
            go_wp2_with fail
            refine (hPop_any h v6 q6 r.length _ O6a.out.hp HL6.out (by rw [HL6.out]; omega) HH6.out).mono ?_
            rintro e w7 ⟨rfl, v7, q7, hp7, hh7, hq7, hv7, ht7⟩
            have hhd : G q6 0 = key y := heap_head HQ6.out HH6.out (by have := HLX.out; unfold Lex at this ⊢; rw [List.pairwise_cons] at this; exact this.2)
            rw [hhd] at hq7 ⊢
            simp only [key]
            have HQ7 : Hid (q7.Perm (r.map key)) := ((List.Perm.cons_inv (HQ6.out.symm.trans hq7))).symm
            have HH7 : Hid (Heap q7 q7.length 0) := hh7
            have O7 : Hid (Own0 w w7 h v7 q7) := O6a.out.step hp7 ht7 (fun k hk => .inl (hv7 ▸ hk))
            have OP7 : Hid (Owns .i64 3 w7 (.slice (some ⟨gp, 0, none⟩) (2 * ws.length - 2) (2 * ws.length - 2)) P) := OP6a.out.tch ht7 (fun j hj e => O6a.out.hp.apart OP6a.out j hj e)
            have HL7 : Hid (q7.length = r.length) := by show _ = _; rw [HQ7.out.length_eq]; simp
            have hb7 : w7.heap[w6.heap.size]? = some (.cells #[.int .i64 x.w, .int .i64 x.num] 128) := by
              rw [ht7.block w6.heap.size (by simp) (fun e => by rcases e with e | e; (· omega); (· have := HVL6.out _ e; omega))]
              exact heap_alloc_new w6 _
            have c80 : w7.cell? ⟨w6.heap.size, 0, none⟩ = some (.int .i64 x.w) := by rw [cell_of_row w7 w6.heap.size 0 _ _ _ hb7]; rfl
            have c81 : w7.cell? ⟨w6.heap.size, 1, none⟩ = some (.int .i64 x.num) := by rw [cell_of_row w7 w6.heap.size 1 _ _ _ hb7]; rfl
            have hl87 : w6.heap.size < w7.heap.size := (Array.getElem?_eq_some_iff.1 hb7).1
            obtain ⟨cp1, fp1, hgl7⟩ := OP7.out.at1 x.num (by rw [HPL.out]; omega)
            obtain ⟨cp2, fp2, _⟩ := OP7.out.at1 y.num (by rw [HPL.out]; omega)
            obtain ⟨B8, hB8⟩ : ∃ B8, w6.heap.size = B8 := ⟨_, rfl⟩
            rw [hB8] at c80 c81 hl87 hgl6 hhl6 ⊢
            have HVL7 : Hid (∀ k, v7.ownBlock = some k → k < B8) := fun k hk => by rw [← hB8]; exact HVL6.out k (hv7 ▸ hk)
            clear hp7 hh7 hq7 hv7 ht7 hhd hb7 hB8 HVL6 O6 O6a OP6 OP6a HH6 HQ6
            go_wp2_with fail
            go_region
            go_wp2_with fail
            have T8 : Tch (fun k => k = gp) w7 (((w7.setCell ⟨gp, x.num, none⟩ (.int .i64 N)).setCell ⟨gp, y.num, none⟩ (.int .i64 N)).alloc (.cells #[.int .i64 y.w, .int .i64 y.num] 128)).drew :=
              Tch.drew (Tch.alloc (Tch.setCell (Tch.setCell (Tch.refl (fun k => k = gp) w7) (p := ⟨gp, x.num, none⟩) (fun _ => rfl) _) (p := ⟨gp, y.num, none⟩) (fun _ => rfl) _) _)
            have hap := O7.out.hp.apart OP7.out gp rfl
            have O8 : Hid (Own0 w (((w7.setCell ⟨gp, x.num, none⟩ (.int .i64 N)).setCell ⟨gp, y.num, none⟩ (.int .i64 N)).alloc (.cells #[.int .i64 y.w, .int .i64 y.num] 128)).drew h v7 q7) :=
              O7.out.tch T8 (fun k e => by rw [e]; exact HGP.out) (fun e => hap (.inl e.symm)) (fun k hk e => hap (.inr (by rw [← e]; exact hk)))
            have OP8 : Hid (Owns .i64 3 (((w7.setCell ⟨gp, x.num, none⟩ (.int .i64 N)).setCell ⟨gp, y.num, none⟩ (.int .i64 N)).alloc (.cells #[.int .i64 y.w, .int .i64 y.num] 128)).drew (.slice (some ⟨gp, 0, none⟩) (2 * ws.length - 2) (2 * ws.length - 2)) ((P.set x.num (N : Int)).set y.num (N : Int))) :=
              ((OP7.out.set x.num (N : Int)).set y.num (N : Int)).below (((Below.refl _ _).alloc (Nat.le_refl _) _).drew)
            obtain ⟨f', rfl⟩ : ∃ f', f = f' + 1 := ⟨f - 1, by simp only [List.length_cons] at hf; omega⟩
            have J8 : Hid (JS ((P.set x.num (N : Int)).set y.num (N : Int)) (N + 1) ws.length (insN (jn x y N) r) (treeOf (fun i => (ws.getD i 0).toNat) ws.length) S f') := J5.out.step (by rw [HPL.out]; omega) (by rw [HPL.out]; omega)
            have HLN : Hid ((insN (jn x y N) r).length = r.length + 1) := by show _ = _; rw [(insN_perm _ _).length_eq]; simp
            refine (hPush_any h v7 q7 ((x.w : Int) + y.w, (N : Int)) _ O8.out.hp (by rw [HL7.out]; omega) HH7.out).mono ?_
            rintro e w9 ⟨rfl, v9, q9, hp9, hh9, hq9, hf9, ht9⟩
            have O9 : Hid (Own0 w w9 h v9 q9) := O8.out.step hp9 ht9 hf9
            have OP9 : Hid (Owns .i64 3 w9 (.slice (some ⟨gp, 0, none⟩) (2 * ws.length - 2) (2 * ws.length - 2)) ((P.set x.num (N : Int)).set y.num (N : Int))) := OP8.out.tch ht9 (fun j hj e => O8.out.hp.apart OP8.out j hj e)
            have HH9 : Hid (Heap q9 q9.length 0) := hh9
            have HQ9 : Hid (q9.Perm ((insN (jn x y N) r).map key)) := by
              refine hq9.trans ((List.perm_append_comm).trans ?_)
              refine List.Perm.trans ?_ ((insN_perm (jn x y N) r).map key).symm
              simp only [List.map_cons, List.singleton_append]
              have ek : key (jn x y N) = ((x.w : Int) + y.w, (N : Int)) := by simp [key, jn]
              rw [ek]
              exact List.Perm.cons _ HQ7.out
            simp only [List.length_cons] at hf
            clear hp9 hh9 hq9 hf9 ht9 O8 OP8 T8 hap O7 OP7 HQ7 HH7 c80 c81 cp1 cp2 fp1 fp2
            go_wp2_with fail
            go_roundw
            case rel => exact ⟨N + 1, f', insN (jn x y N) r, _, v9, q9, by go_num, by omega, by rw [HLN.out]; omega, by rw [HLN.out]; omega, by rw [HLN.out]; omega, O9, HH9, HQ9, J8, OP9⟩
            case measure => simp [intOf]; omega
        · match L, hL1, hNL, hf, HQ5, J5, HQL, hl, O5, ch with
          | [], hL1, _, _, _, _, _, _, _, _ => simp at hL1
          | x :: y :: r, _, _, _, _, _, _, hl, _, _ => simp at hl
          | [t], hL1, hNL, hf, HQ5, J5, HQL, hl, O5, ch =>
            go_wp2_with fail
            refine (tLen_any la _ lc wr).mono ?_
            rintro e w6 ⟨rfl, rfl⟩
            go_wp2_with fail
            go_ret
            refine ⟨_, P, t, N, f, rfl, OP5.out, J5.out, O5.out.bel, fun k hk => ?_⟩
            have hk' : (Value.slice (some (⟨gp, 0, none⟩ : Addr)) (2 * ws.length - 2) (2 * ws.length - 2)).ownBlock = some k := hk
            simp only [Value.ownBlock, Option.some.injEq] at hk'
            have := HGP.out
            omega
end Go.Proofs.Ytcmnhgefeffcpaa
