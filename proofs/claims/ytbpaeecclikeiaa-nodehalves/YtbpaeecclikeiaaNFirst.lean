/-
  A node's first keys, by the document.
-/
import Derived.Test.YtbpaeecclikeiaaNSplit
import Derived.Test.YtbpaeecclikeiaaNRq
namespace Go.Proofs.Ytbpaeecclikeiaa
open Go.RowKit Pl
set_option linter.unusedVariables false
set_option linter.unusedSimpArgs false
set_option maxRecDepth 100000

theorem take_at {α : Type} {l : List α} {d : α} {k : Nat} (h : k < l.length) : l.take (k + 1) = l.take k ++ [l.getD k d] := by
  rw [List.take_add_one, List.getD_eq_getElem?_getD, List.getElem?_eq_getElem h]
  rfl
theorem take_no {α : Type} {l : List α} {k : Nat} (h : ¬ k < l.length) : l.take (k + 1) = l.take k := by
  rw [List.take_of_length_le (by omega), List.take_of_length_le (by omega)]
theorem take_step (n : Nd) (k : Nat) (h : k < n.ks.length) : takeN n (k + 1) = { lf := n.lf, ks := n.ks.take k ++ [kA n k], vs := if k < n.vs.length then n.vs.take k ++ [vA n k] else n.vs.take k, kd := if k < n.kd.length then n.kd.take k ++ [dA n k] else n.kd.take k } := by
  unfold takeN
  rw [take_at (d := eS) h]
  congr 1
  · split
    · rename_i c; rw [take_at (d := eS) c]; rfl
    · rename_i c; rw [take_no c]
  · split
    · rename_i c; rw [take_at (d := 0) c]; rfl
    · rename_i c; rw [take_no c]
set_option maxHeartbeats 4000000 in
theorem first_any (n : Nd) (u1 u2 u3 : Value) (many : Nat) (w : World) (h : Nn w n u1 u2 u3) (hs : Sm n) (hmy : many ≤ n.ks.length) :
    Calls Try.prog 41 #[nod n.lf u1 u2 u3, .int .i64 (many : Int)] w fun e w' => (∃ x1 x2 x3, e = .returned (nod n.lf x1 x2 x3) ∧ Nn w' (takeN n many) x1 x2 x3) ∧ Below w.heap.size w w' := by
  obtain ⟨a1, c1, a2, c2, a3, c3, rfl, rfl, rfl, ⟨l1, l2, l3, l4, l5, l6⟩, _, _, _⟩ := h.out
  have H := hideN h
  have HS := hideN hs
  obtain ⟨L1, hL1⟩ : ∃ L, Hid (n.ks.length = L) := ⟨_, rfl⟩
  obtain ⟨L2, hL2⟩ : ∃ L, Hid (n.vs.length = L) := ⟨_, rfl⟩
  obtain ⟨L3, hL3⟩ : ∃ L, Hid (n.kd.length = L) := ⟨_, rfl⟩
  rw [hL1.out] at H l1 hmy ⊢
  rw [hL2.out] at H l3 ⊢
  rw [hL3.out] at H l5 ⊢
  obtain ⟨lf, hlf⟩ : ∃ lf, Hid (n.lf = lf) := ⟨_, rfl⟩
  rw [hlf.out]
  unfold nod
  obtain ⟨W1, hW1⟩ : ∃ W1, w.alloc (.cells #[.bool lf, .slice a1 L1 c1, .slice a2 L2 c2, .slice a3 L3 c3] 25) = W1 := ⟨_, rfl⟩
  have B1 : Hid (Below w.heap.size w W1) := by rw [← hW1]; exact below_alloc _ _
  have V1 : Hid (Nb W1 25 w.heap.size lf (.slice a1 L1 c1) (.slice a2 L2 c2) (.slice a3 L3 c3)) := by rw [← hW1]; exact nb_new _ _ _ _ _ _
  have H1 : Hid (Nn W1 n (.slice a1 L1 c1) (.slice a2 L2 c2) (.slice a3 L3 c3)) := H.out.below B1.out
  obtain ⟨W2, hW2⟩ : ∃ W2, W1.alloc (.cells #[.bool false, .slice none 0 0, .slice none 0 0, .slice none 0 0] 25) = W2 := ⟨_, rfl⟩
  obtain ⟨W3, hW3⟩ : ∃ W3, W2.alloc (.cells #[.bool lf, .slice none 0 0, .slice none 0 0, .slice none 0 0] 25) = W3 := ⟨_, rfl⟩
  have s1 : W1.heap.size = w.heap.size + 1 := by rw [← hW1]; simp
  have s2 : W2.heap.size = w.heap.size + 2 := by rw [← hW2]; simp [s1]
  have s3 : W3.heap.size = w.heap.size + 3 := by rw [← hW3]; simp [s2]
  have b2 : Below W1.heap.size W1 W2 := by rw [← hW2]; exact below_alloc _ _
  have b3 : Below W2.heap.size W2 W3 := by rw [← hW3]; exact below_alloc _ _
  have BW3 : Hid (Below w.heap.size w W3) := (B1.out.trans (b2.mono B1.out.size)).trans (b3.mono (B1.out.trans (b2.mono B1.out.size)).size)
  obtain ⟨nb, hnb⟩ : ∃ nb, W2.heap.size = nb := ⟨_, rfl⟩
  obtain ⟨B, hB⟩ : ∃ B, nb + 1 = B := ⟨_, rfl⟩
  have HNB : Hid (w.heap.size ≤ nb) := by show _ ≤ _; omega
  have Y2 : Nb W2 25 W1.heap.size false (.slice none 0 0) (.slice none 0 0) (.slice none 0 0) := by rw [← hW2]; exact nb_new _ _ _ _ _ _
  have HR1 : Hid (w.heap.size < W1.heap.size ∧ W1.heap.size < nb) := by show _ ∧ _; omega
  have Z3 : Nb W3 25 nb lf (.slice none 0 0) (.slice none 0 0) (.slice none 0 0) := by rw [← hW3, ← hnb]; exact nb_new _ _ _ _ _ _
  have BOX : Hid (∀ W, Below nb W3 W → Nb W 25 w.heap.size lf (.slice a1 L1 c1) (.slice a2 L2 c2) (.slice a3 L3 c3)) := fun W hb => by
    have := (V1.out.below b2).below b3
    unfold Nb
    rw [hb.block w.heap.size (by omega)]
    exact this
  have RES : Hid (∀ W, Below nb W3 W → Nb W 25 W1.heap.size false (.slice none 0 0) (.slice none 0 0) (.slice none 0 0)) := fun W hb => by
    have := Y2.below b3
    unfold Nb
    rw [hb.block W1.heap.size (by omega)]
    exact this
  have RS0 : Hid (Rq B nb W3 nb (.slice none 0 0) (.slice none 0 0) (.slice none 0 0) (takeN n 0)) := ⟨by show Nb W3 _ nb n.lf _ _ _; rw [hlf.out]; exact Z3, by simp only [takeN, List.take_zero]; exact owV_nil _ _ _, by simp only [takeN, List.take_zero]; exact owV_nil _ _ _, by simp only [takeN, List.take_zero]; exact owV_nil _ _ _, (fun j hj => by cases hj), by omega, Nat.le_refl _, by omega⟩
  have HCL1 : Hid (∀ k, k < L1 → ∀ W, Below nb W3 W → ∃ bb bo, a1 = some ⟨bb, bo, none⟩ ∧ W.cell? ⟨bb, bo + k, none⟩ = some (Value.string (kA n k))) := fun k hk W hb => by
    obtain ⟨bb, bo, e, hc⟩ := (H.out.below BW3.out).key (i := k) (by rw [hL1.out]; exact hk)
    obtain ⟨bb', bo', e', hc'⟩ := H.out.key (i := k) (by rw [hL1.out]; exact hk)
    rw [e] at e'
    cases e'
    refine ⟨bb, bo, e, ?_⟩
    rw [hb.cell (p := ⟨bb, bo + k, none⟩) (Nat.lt_of_lt_of_le (World.block_lt_of_cell? w ⟨bb, bo + k, none⟩ hc') HNB.out)]
    exact hc
  have HLEN1 : Hid (∀ k, (strs (takeN n k).ks).length + 1 ≤ 9223372036854775807 ∧ ((strs (takeN n k).ks).length + 1) * 16 ≤ 140737488355328) := fun k => by
    rw [strs_len]
    have h1 : (takeN n k).ks.length ≤ n.ks.length := by simp only [takeN, List.length_take]; omega
    have := HS.out.kl
    omega
  have HCL2 : Hid (∀ k, k < L2 → ∀ W, Below nb W3 W → ∃ bb bo, a2 = some ⟨bb, bo, none⟩ ∧ W.cell? ⟨bb, bo + k, none⟩ = some (Value.string (vA n k))) := fun k hk W hb => by
    obtain ⟨bb, bo, e, hc⟩ := (H.out.below BW3.out).val (i := k) (by rw [hL2.out]; exact hk)
    obtain ⟨bb', bo', e', hc'⟩ := H.out.val (i := k) (by rw [hL2.out]; exact hk)
    rw [e] at e'
    cases e'
    refine ⟨bb, bo, e, ?_⟩
    rw [hb.cell (p := ⟨bb, bo + k, none⟩) (Nat.lt_of_lt_of_le (World.block_lt_of_cell? w ⟨bb, bo + k, none⟩ hc') HNB.out)]
    exact hc
  have HLEN2 : Hid (∀ k, (strs (takeN n k).vs).length + 1 ≤ 9223372036854775807 ∧ ((strs (takeN n k).vs).length + 1) * 16 ≤ 140737488355328) := fun k => by
    rw [strs_len]
    have h1 : (takeN n k).vs.length ≤ n.vs.length := by simp only [takeN, List.length_take]; omega
    have := HS.out.vl
    omega
  have HCL3 : Hid (∀ k, k < L3 → ∀ W, Below nb W3 W → ∃ bb bo, a3 = some ⟨bb, bo, none⟩ ∧ W.cell? ⟨bb, bo + k, none⟩ = some (Value.int .i64 (dA n k))) := fun k hk W hb => by
    obtain ⟨bb, bo, e, hc⟩ := (H.out.below BW3.out).kid (i := k) (by rw [hL3.out]; exact hk)
    obtain ⟨bb', bo', e', hc'⟩ := H.out.kid (i := k) (by rw [hL3.out]; exact hk)
    rw [e] at e'
    cases e'
    refine ⟨bb, bo, e, ?_⟩
    rw [hb.cell (p := ⟨bb, bo + k, none⟩) (Nat.lt_of_lt_of_le (World.block_lt_of_cell? w ⟨bb, bo + k, none⟩ hc') HNB.out)]
    exact hc
  have HLEN3 : Hid (∀ k, (nums (takeN n k).kd).length + 1 ≤ 9223372036854775807 ∧ ((nums (takeN n k).kd).length + 1) * 8 ≤ 140737488355328) := fun k => by
    rw [nums_len]
    have h1 : (takeN n k).kd.length ≤ n.kd.length := by simp only [takeN, List.length_take]; omega
    have := HS.out.dl
    omega
  have HNS : Hid (nb = w.heap.size + 2) := by show _ = _; omega
  have p0 : W2.cell? ⟨w.heap.size, 0, none⟩ = some (.bool lf) := (V1.out.below b2).c0
  have HW3 := hideN hW3
  clear h hs b2 b3 Y2 Z3 s1 s2 s3 hB hW3
  subst hnb
  go_enter Try.func41, Try.ntmps41
  go_wp2_with (refine wpList_store_newD _ rfl 25 (.tmp 5) (.tmp 9) rfl _ #[.bool lf, .slice none 0 0, .slice none 0 0, .slice none 0 0] ?h1 ?h2 inf_ref rfl rfl ?_; (case h1 => rfl); (case h2 => rfl); skip)
  rw [HW3.out]
  clear p0 HW3 V1 B1 H1
  generalize W2.heap.size = nb at *
  go_loopw [6] (fun i wr => ∃ (k : Nat) (v1 v2 v3 : Value), k ≤ many ∧ i = .int .i64 k ∧ Hid (Rq B nb wr nb v1 v2 v3 (takeN n k)) ∧ Hid (Below nb W3 wr)) (fun i _ => many - (intOf i).toNat)
  case atStart => exact ⟨0, _, _, _, Nat.zero_le _, rfl, RS0, Below.refl _ _⟩
  case round =>
    clear RS0
    obtain ⟨k, v1, v2, v3, hk, rfl, RS, BRS⟩ := hrel
    by_cases hlm : k < many
    · have hlt : k < L1 := by omega
      have hk0 : (0 : Int) ≤ (k : Int) := by omega
      have hk1 : (k : Int) < (L1 : Int) := by omega
      have hkm : (k : Int) < (many : Int) := by omega
      have HST := hideN (take_step n k (by rw [hL1.out]; exact hlt))
      rw [hL2.out, hL3.out] at HST
      obtain ⟨v1a, v1l, v1c, e1⟩ : ∃ a l c, v1 = .slice a l c := by obtain ⟨a, c, e⟩ := RS.out.k.long; exact ⟨a, _, c, e⟩
      subst e1
      obtain ⟨bb, bo, ea, hcell⟩ := HCL1.out k hlt wr BRS.out
      subst ea
      have hS : wr.drew.cell? ⟨nb, 1, none⟩ = some (.slice v1a v1l v1c) ∧ wr.drew.cell? ⟨w.heap.size, 1, none⟩ = some (.slice (some ⟨bb, bo, none⟩) L1 c1) ∧ wr.drew.cell? ⟨bb, bo + k, none⟩ = some (Value.string (kA n k)) := ⟨RS.out.nv.c1, BOX.out wr BRS.out |>.c1, hcell⟩
      have HLX : Hid ((strs (takeN n k).ks).length + 1 ≤ 9223372036854775807 ∧ ((strs (takeN n k).ks).length + 1) * 16 ≤ 140737488355328) := HLEN1.out k
      have HON : Hid (OwV B 9 (wr.drew.alloc (.cells #[Value.string (kA n k)] 9)) (.slice v1a v1l v1c) (strs (takeN n k).ks)) := (RS.out.k.below ((Below.refl _ _).drew)).below (below_alloc _ _)
      have HBN : Hid (B ≤ (wr.drew.alloc (.cells #[Value.string (kA n k)] 9)).heap.size) := Nat.le_trans RS.out.wB (below_alloc wr.drew _).size
      have hSb : (wr.drew.alloc (.cells #[Value.string (kA n k)] 9)).cell? ⟨nb, 1, none⟩ = some (.slice v1a v1l v1c) ∧ (wr.drew.alloc (.cells #[Value.string (kA n k)] 9)).cell? ⟨w.heap.size, 1, none⟩ = some (.slice (some ⟨bb, bo, none⟩) L1 c1) ∧ (wr.drew.alloc (.cells #[Value.string (kA n k)] 9)).cell? ⟨bb, bo + k, none⟩ = some (Value.string (kA n k)) := by
        have b2 := below_alloc wr.drew (.cells #[Value.string (kA n k)] 9)
        exact ⟨by rw [b2.cell (p := ⟨nb, 1, none⟩) (World.block_lt_of_cell? _ ⟨nb, 1, none⟩ hS.1)]; exact hS.1, by rw [b2.cell (p := ⟨w.heap.size, 1, none⟩) (World.block_lt_of_cell? _ ⟨w.heap.size, 1, none⟩ hS.2.1)]; exact hS.2.1, by rw [b2.cell (p := ⟨bb, bo + k, none⟩) (World.block_lt_of_cell? _ ⟨bb, bo + k, none⟩ hS.2.2)]; exact hS.2.2⟩
      go_wp2_with fail
      refine beginW (S := fun w' => w'.cell? ⟨nb, 1, none⟩ = some (.slice v1a v1l v1c) ∧ w'.cell? ⟨w.heap.size, 1, none⟩ = some (.slice (some ⟨bb, bo, none⟩) L1 c1) ∧ w'.cell? ⟨bb, bo + k, none⟩ = some (Value.string (kA n k))) (t := 10) (by kernel_rfl) ?_
      refine takeW 0 (some 15) (.fieldAddr 25 (.tmp 5) 1) (Value.pointer (some ⟨nb, 1, none⟩)) rfl rfl (by kernel_rfl) (by kernel_rfl) (by kernel_rfl) (by kernel_rfl) (fun _ _ _ h => h) ?hy hS ?_
      case hy =>
        rintro o ho w' _
        go_simp
      simp only [Act.put, List.setIfInBounds_toArray, List.set_cons_zero, List.set_cons_succ]
      refine takeW 1 (some 16) (.load 22 (.tmp 15)) (Value.slice v1a v1l v1c) rfl rfl (by kernel_rfl) (by kernel_rfl) (by kernel_rfl) (by kernel_rfl) (fun _ _ _ h => h) ?hy hS ?_
      case hy =>
        rintro o ho w' ⟨hA, hB, hC⟩
        go_simp
      simp only [Act.put, List.setIfInBounds_toArray, List.set_cons_zero, List.set_cons_succ]
      refine takeW 2 (some 17) (.fieldAddr 25 (.tmp 2) 1) (Value.pointer (some ⟨w.heap.size, 1, none⟩)) rfl rfl (by kernel_rfl) (by kernel_rfl) (by kernel_rfl) (by kernel_rfl) (fun _ _ _ h => h) ?hy hS ?_
      case hy =>
        rintro o ho w' _
        go_simp
      simp only [Act.put, List.setIfInBounds_toArray, List.set_cons_zero, List.set_cons_succ]
      refine takeW 3 (some 18) (.load 22 (.tmp 17)) (Value.slice (some ⟨bb, bo, none⟩) L1 c1) rfl rfl (by kernel_rfl) (by kernel_rfl) (by kernel_rfl) (by kernel_rfl) (fun _ _ _ h => h) ?hy hS ?_
      case hy =>
        rintro o ho w' ⟨hA, hB, hC⟩
        go_simp
      simp only [Act.put, List.setIfInBounds_toArray, List.set_cons_zero, List.set_cons_succ]
      refine takeW 4 (some 19) (.move (.tmp 6)) (Value.int .i64 (k : Int)) rfl rfl (by kernel_rfl) (by kernel_rfl) (by kernel_rfl) (by kernel_rfl) (fun _ _ _ h => h) ?hy hS ?_
      case hy =>
        rintro o ho w' _
        go_simp
      simp only [Act.put, List.setIfInBounds_toArray, List.set_cons_zero, List.set_cons_succ]
      refine takeW 5 (some 20) (.indexAddr 22 (.tmp 18) (.tmp 19)) (Value.pointer (some ⟨bb, bo + k, none⟩)) rfl rfl (by kernel_rfl) (by kernel_rfl) (by kernel_rfl) (by kernel_rfl) (fun _ _ _ h => h) ?hy hS ?_
      case hy =>
        rintro o ho w' _
        go_simp
      simp only [Act.put, List.setIfInBounds_toArray, List.set_cons_zero, List.set_cons_succ]
      refine takeW 6 (some 21) (.load 9 (.tmp 20)) (Value.string (kA n k)) rfl rfl (by kernel_rfl) (by kernel_rfl) (by kernel_rfl) (by kernel_rfl) (fun _ _ _ h => h) ?hy hS ?_
      case hy =>
        rintro o ho w' ⟨hA, hB, hC⟩
        go_simp
      simp only [Act.put, List.setIfInBounds_toArray, List.set_cons_zero, List.set_cons_succ]
      refine readyW 7 (some 22) (.buildSlice 22 1 #[(0, .tmp 21)]) rfl (by kernel_rfl) ?_
      rintro o K hd ho hg hK
      refine wp_buildV _ _ _ _ elemS (.tmp 21) ho (Value.string (kA n k)) rfl rfl ?_
      rw [hd]
      refine hK _ _ (fun _ => hSb) ?_
      clear ho hd hg hK
      simp only [Act.put, List.setIfInBounds_toArray, List.set_cons_zero, List.set_cons_succ]
      refine readyW 8 (some 23) (.call { callee := .builtin .append, args := #[.tmp 16, .tmp 22], argTypes := #[22, 22] }) rfl (by kernel_rfl) ?_
      rintro o K hd ho hg hK
      refine wp_moreV _ _ _ _ elemS (w := (wr.drew.alloc (.cells #[Value.string (kA n k)] 9))) (.tmp 16) (.tmp 22) ho B _ (strs (takeN n k).ks) rfl HON.out wr.drew.heap.size (Value.string (kA n k)) rfl rfl (one_new _ _ _) HLX.out.1 HLX.out.2 HBN.out ?_
      intro v6 w6 o6 g6 f6
      obtain ⟨na, nc, e6⟩ := o6.long
      obtain ⟨nl, hnl⟩ : ∃ l, Hid ((strs (takeN n k).ks ++ [Value.string (kA n k)]).length = l) := ⟨_, rfl⟩
      rw [hnl.out] at e6
      subst e6
      obtain ⟨⟨q6, r6⟩, rs7, b7, b6⟩ := grow_key RS.out (((Below.refl _ _).drew).alloc (Nat.le_refl _) _) g6 o6 f6
      have bw6 : Below nb W3 w6 := BRS.out.trans b6
      have hS6 : w6.cell? ⟨nb, 1, none⟩ = some (.slice v1a v1l v1c) ∧ w6.cell? ⟨w.heap.size, 1, none⟩ = some (.slice (some ⟨bb, bo, none⟩) L1 c1) ∧ w6.cell? ⟨bb, bo + k, none⟩ = some (Value.string (kA n k)) := by
        obtain ⟨bb', bo', ea', hc'⟩ := HCL1.out k hlt w6 bw6
        cases ea'
        exact ⟨q6, (BOX.out w6 bw6).c1, hc'⟩
      rw [hd]
      refine hK _ _ (fun _ => hS6) ?_
      clear ho hd hg hK o6 g6 f6
      simp only [Act.put, List.setIfInBounds_toArray, List.set_cons_zero, List.set_cons_succ]
      refine readyW 9 (some 24) (.fieldAddr 25 (.tmp 5) 1) rfl (by kernel_rfl) ?_
      rintro o K hd ho hg hK
      refine stepY (v := Value.pointer (some ⟨nb, 1, none⟩)) ?hy ?_
      case hy => go_simp
      rw [hd]
      refine hK _ _ (fun _ => hS6) ?_
      clear ho hd hg hK
      simp only [Act.put, List.setIfInBounds_toArray, List.set_cons_zero, List.set_cons_succ]
      refine readyW 10 none (.store 22 (.tmp 24) (.tmp 23)) rfl (by kernel_rfl) ?_
      rintro o K hd ho hg hK
      refine wp_storeS ho rfl rfl q6 r6 ?_
      rw [hd]
      refine hK _ _ (fun e => absurd rfl e) ?_
      refine doneW (by kernel_rfl) ?_ _
      clear ho hd hg hK hnl
      simp only [Act.put]
      obtain ⟨RTw, hRTw⟩ : ∃ W, w6.setCell ⟨nb, 1, none⟩ (.slice na nl nc) = W := ⟨_, rfl⟩
      rw [hRTw] at rs7 b7 ⊢
      have BRT : Hid (Below nb W3 RTw) := BRS.out.trans b7
      have RT := hideN rs7
      clear rs7 b7 b6 bw6 q6 r6 hS hSb hS6 HLX HON HBN hRTw hcell BRS RS
      have cb := (BOX.out RTw BRT.out).c2
      by_cases hv : k < L2
      · have hk2 : (k : Int) < (L2 : Int) := by omega
        rw [if_pos hv] at HST
        obtain ⟨v2a, v2l, v2c, e2⟩ : ∃ a l c, v2 = .slice a l c := by obtain ⟨a, c, e⟩ := RT.out.v.long; exact ⟨a, _, c, e⟩
        subst e2
        obtain ⟨bb, bo, ea, hcell⟩ := HCL2.out k hv RTw BRT.out
        subst ea
        have hS : RTw.drew.cell? ⟨nb, 2, none⟩ = some (.slice v2a v2l v2c) ∧ RTw.drew.cell? ⟨w.heap.size, 2, none⟩ = some (.slice (some ⟨bb, bo, none⟩) L2 c2) ∧ RTw.drew.cell? ⟨bb, bo + k, none⟩ = some (Value.string (vA n k)) := ⟨RT.out.nv.c2, BOX.out RTw BRT.out |>.c2, hcell⟩
        have HLX : Hid ((strs (takeN n k).vs).length + 1 ≤ 9223372036854775807 ∧ ((strs (takeN n k).vs).length + 1) * 16 ≤ 140737488355328) := HLEN2.out k
        have HON : Hid (OwV B 9 (RTw.drew.alloc (.cells #[Value.string (vA n k)] 9)) (.slice v2a v2l v2c) (strs (takeN n k).vs)) := (RT.out.v.below ((Below.refl _ _).drew)).below (below_alloc _ _)
        have HBN : Hid (B ≤ (RTw.drew.alloc (.cells #[Value.string (vA n k)] 9)).heap.size) := Nat.le_trans RT.out.wB (below_alloc RTw.drew _).size
        have hSb : (RTw.drew.alloc (.cells #[Value.string (vA n k)] 9)).cell? ⟨nb, 2, none⟩ = some (.slice v2a v2l v2c) ∧ (RTw.drew.alloc (.cells #[Value.string (vA n k)] 9)).cell? ⟨w.heap.size, 2, none⟩ = some (.slice (some ⟨bb, bo, none⟩) L2 c2) ∧ (RTw.drew.alloc (.cells #[Value.string (vA n k)] 9)).cell? ⟨bb, bo + k, none⟩ = some (Value.string (vA n k)) := by
          have b2 := below_alloc RTw.drew (.cells #[Value.string (vA n k)] 9)
          exact ⟨by rw [b2.cell (p := ⟨nb, 2, none⟩) (World.block_lt_of_cell? _ ⟨nb, 2, none⟩ hS.1)]; exact hS.1, by rw [b2.cell (p := ⟨w.heap.size, 2, none⟩) (World.block_lt_of_cell? _ ⟨w.heap.size, 2, none⟩ hS.2.1)]; exact hS.2.1, by rw [b2.cell (p := ⟨bb, bo + k, none⟩) (World.block_lt_of_cell? _ ⟨bb, bo + k, none⟩ hS.2.2)]; exact hS.2.2⟩
        go_wp2_with fail
        refine beginW (S := fun w' => w'.cell? ⟨nb, 2, none⟩ = some (.slice v2a v2l v2c) ∧ w'.cell? ⟨w.heap.size, 2, none⟩ = some (.slice (some ⟨bb, bo, none⟩) L2 c2) ∧ w'.cell? ⟨bb, bo + k, none⟩ = some (Value.string (vA n k))) (t := 10) (by kernel_rfl) ?_
        refine takeW 0 (some 30) (.fieldAddr 25 (.tmp 5) 2) (Value.pointer (some ⟨nb, 2, none⟩)) rfl rfl (by kernel_rfl) (by kernel_rfl) (by kernel_rfl) (by kernel_rfl) (fun _ _ _ h => h) ?hy hS ?_
        case hy =>
          rintro o ho w' _
          go_simp
        simp only [Act.put, List.setIfInBounds_toArray, List.set_cons_zero, List.set_cons_succ]
        refine takeW 1 (some 31) (.load 22 (.tmp 30)) (Value.slice v2a v2l v2c) rfl rfl (by kernel_rfl) (by kernel_rfl) (by kernel_rfl) (by kernel_rfl) (fun _ _ _ h => h) ?hy hS ?_
        case hy =>
          rintro o ho w' ⟨hA, hB, hC⟩
          go_simp
        simp only [Act.put, List.setIfInBounds_toArray, List.set_cons_zero, List.set_cons_succ]
        refine takeW 2 (some 32) (.fieldAddr 25 (.tmp 2) 2) (Value.pointer (some ⟨w.heap.size, 2, none⟩)) rfl rfl (by kernel_rfl) (by kernel_rfl) (by kernel_rfl) (by kernel_rfl) (fun _ _ _ h => h) ?hy hS ?_
        case hy =>
          rintro o ho w' _
          go_simp
        simp only [Act.put, List.setIfInBounds_toArray, List.set_cons_zero, List.set_cons_succ]
        refine takeW 3 (some 33) (.load 22 (.tmp 32)) (Value.slice (some ⟨bb, bo, none⟩) L2 c2) rfl rfl (by kernel_rfl) (by kernel_rfl) (by kernel_rfl) (by kernel_rfl) (fun _ _ _ h => h) ?hy hS ?_
        case hy =>
          rintro o ho w' ⟨hA, hB, hC⟩
          go_simp
        simp only [Act.put, List.setIfInBounds_toArray, List.set_cons_zero, List.set_cons_succ]
        refine takeW 4 (some 34) (.move (.tmp 6)) (Value.int .i64 (k : Int)) rfl rfl (by kernel_rfl) (by kernel_rfl) (by kernel_rfl) (by kernel_rfl) (fun _ _ _ h => h) ?hy hS ?_
        case hy =>
          rintro o ho w' _
          go_simp
        simp only [Act.put, List.setIfInBounds_toArray, List.set_cons_zero, List.set_cons_succ]
        refine takeW 5 (some 35) (.indexAddr 22 (.tmp 33) (.tmp 34)) (Value.pointer (some ⟨bb, bo + k, none⟩)) rfl rfl (by kernel_rfl) (by kernel_rfl) (by kernel_rfl) (by kernel_rfl) (fun _ _ _ h => h) ?hy hS ?_
        case hy =>
          rintro o ho w' _
          go_simp
        simp only [Act.put, List.setIfInBounds_toArray, List.set_cons_zero, List.set_cons_succ]
        refine takeW 6 (some 36) (.load 9 (.tmp 35)) (Value.string (vA n k)) rfl rfl (by kernel_rfl) (by kernel_rfl) (by kernel_rfl) (by kernel_rfl) (fun _ _ _ h => h) ?hy hS ?_
        case hy =>
          rintro o ho w' ⟨hA, hB, hC⟩
          go_simp
        simp only [Act.put, List.setIfInBounds_toArray, List.set_cons_zero, List.set_cons_succ]
        refine readyW 7 (some 37) (.buildSlice 22 1 #[(0, .tmp 36)]) rfl (by kernel_rfl) ?_
        rintro o K hd ho hg hK
        refine wp_buildV _ _ _ _ elemS (.tmp 36) ho (Value.string (vA n k)) rfl rfl ?_
        rw [hd]
        refine hK _ _ (fun _ => hSb) ?_
        clear ho hd hg hK
        simp only [Act.put, List.setIfInBounds_toArray, List.set_cons_zero, List.set_cons_succ]
        refine readyW 8 (some 38) (.call { callee := .builtin .append, args := #[.tmp 31, .tmp 37], argTypes := #[22, 22] }) rfl (by kernel_rfl) ?_
        rintro o K hd ho hg hK
        refine wp_moreV _ _ _ _ elemS (w := (RTw.drew.alloc (.cells #[Value.string (vA n k)] 9))) (.tmp 31) (.tmp 37) ho B _ (strs (takeN n k).vs) rfl HON.out RTw.drew.heap.size (Value.string (vA n k)) rfl rfl (one_new _ _ _) HLX.out.1 HLX.out.2 HBN.out ?_
        intro v6 w6 o6 g6 f6
        obtain ⟨na, nc, e6⟩ := o6.long
        obtain ⟨nl, hnl⟩ : ∃ l, Hid ((strs (takeN n k).vs ++ [Value.string (vA n k)]).length = l) := ⟨_, rfl⟩
        rw [hnl.out] at e6
        subst e6
        obtain ⟨⟨q6, r6⟩, rs7, b7, b6⟩ := grow_val RT.out (((Below.refl _ _).drew).alloc (Nat.le_refl _) _) g6 o6 f6
        have bw6 : Below nb W3 w6 := BRT.out.trans b6
        have hS6 : w6.cell? ⟨nb, 2, none⟩ = some (.slice v2a v2l v2c) ∧ w6.cell? ⟨w.heap.size, 2, none⟩ = some (.slice (some ⟨bb, bo, none⟩) L2 c2) ∧ w6.cell? ⟨bb, bo + k, none⟩ = some (Value.string (vA n k)) := by
          obtain ⟨bb', bo', ea', hc'⟩ := HCL2.out k hv w6 bw6
          cases ea'
          exact ⟨q6, (BOX.out w6 bw6).c2, hc'⟩
        rw [hd]
        refine hK _ _ (fun _ => hS6) ?_
        clear ho hd hg hK o6 g6 f6
        simp only [Act.put, List.setIfInBounds_toArray, List.set_cons_zero, List.set_cons_succ]
        refine readyW 9 (some 39) (.fieldAddr 25 (.tmp 5) 2) rfl (by kernel_rfl) ?_
        rintro o K hd ho hg hK
        refine stepY (v := Value.pointer (some ⟨nb, 2, none⟩)) ?hy ?_
        case hy => go_simp
        rw [hd]
        refine hK _ _ (fun _ => hS6) ?_
        clear ho hd hg hK
        simp only [Act.put, List.setIfInBounds_toArray, List.set_cons_zero, List.set_cons_succ]
        refine readyW 10 none (.store 22 (.tmp 39) (.tmp 38)) rfl (by kernel_rfl) ?_
        rintro o K hd ho hg hK
        refine wp_storeS ho rfl rfl q6 r6 ?_
        rw [hd]
        refine hK _ _ (fun e => absurd rfl e) ?_
        refine doneW (by kernel_rfl) ?_ _
        clear ho hd hg hK hnl
        simp only [Act.put]
        obtain ⟨RUw, hRUw⟩ : ∃ W, w6.setCell ⟨nb, 2, none⟩ (.slice na nl nc) = W := ⟨_, rfl⟩
        rw [hRUw] at rs7 b7 ⊢
        have BRU : Hid (Below nb W3 RUw) := BRT.out.trans b7
        have RU := hideN rs7
        clear rs7 b7 b6 bw6 q6 r6 hS hSb hS6 HLX HON HBN hRUw hcell BRT RT
        have cb3 := (BOX.out RUw BRU.out).c3
        by_cases hd3 : k < L3
        · have hk3 : (k : Int) < (L3 : Int) := by omega
          rw [if_pos hd3] at HST
          obtain ⟨v3a, v3l, v3c, e3⟩ : ∃ a l c, v3 = .slice a l c := by obtain ⟨a, c, e⟩ := RU.out.d.long; exact ⟨a, _, c, e⟩
          subst e3
          obtain ⟨bb, bo, ea, hcell⟩ := HCL3.out k hd3 RUw BRU.out
          subst ea
          have hS : RUw.drew.cell? ⟨nb, 3, none⟩ = some (.slice v3a v3l v3c) ∧ RUw.drew.cell? ⟨w.heap.size, 3, none⟩ = some (.slice (some ⟨bb, bo, none⟩) L3 c3) ∧ RUw.drew.cell? ⟨bb, bo + k, none⟩ = some (Value.int .i64 (dA n k)) := ⟨RU.out.nv.c3, BOX.out RUw BRU.out |>.c3, hcell⟩
          have HLX : Hid ((nums (takeN n k).kd).length + 1 ≤ 9223372036854775807 ∧ ((nums (takeN n k).kd).length + 1) * 8 ≤ 140737488355328) := HLEN3.out k
          have HON : Hid (OwV B 3 (RUw.drew.alloc (.cells #[Value.int .i64 (dA n k)] 3)) (.slice v3a v3l v3c) (nums (takeN n k).kd)) := (RU.out.d.below ((Below.refl _ _).drew)).below (below_alloc _ _)
          have HBN : Hid (B ≤ (RUw.drew.alloc (.cells #[Value.int .i64 (dA n k)] 3)).heap.size) := Nat.le_trans RU.out.wB (below_alloc RUw.drew _).size
          have hSb : (RUw.drew.alloc (.cells #[Value.int .i64 (dA n k)] 3)).cell? ⟨nb, 3, none⟩ = some (.slice v3a v3l v3c) ∧ (RUw.drew.alloc (.cells #[Value.int .i64 (dA n k)] 3)).cell? ⟨w.heap.size, 3, none⟩ = some (.slice (some ⟨bb, bo, none⟩) L3 c3) ∧ (RUw.drew.alloc (.cells #[Value.int .i64 (dA n k)] 3)).cell? ⟨bb, bo + k, none⟩ = some (Value.int .i64 (dA n k)) := by
            have b2 := below_alloc RUw.drew (.cells #[Value.int .i64 (dA n k)] 3)
            exact ⟨by rw [b2.cell (p := ⟨nb, 3, none⟩) (World.block_lt_of_cell? _ ⟨nb, 3, none⟩ hS.1)]; exact hS.1, by rw [b2.cell (p := ⟨w.heap.size, 3, none⟩) (World.block_lt_of_cell? _ ⟨w.heap.size, 3, none⟩ hS.2.1)]; exact hS.2.1, by rw [b2.cell (p := ⟨bb, bo + k, none⟩) (World.block_lt_of_cell? _ ⟨bb, bo + k, none⟩ hS.2.2)]; exact hS.2.2⟩
          go_wp2_with fail
          refine beginW (S := fun w' => w'.cell? ⟨nb, 3, none⟩ = some (.slice v3a v3l v3c) ∧ w'.cell? ⟨w.heap.size, 3, none⟩ = some (.slice (some ⟨bb, bo, none⟩) L3 c3) ∧ w'.cell? ⟨bb, bo + k, none⟩ = some (Value.int .i64 (dA n k))) (t := 10) (by kernel_rfl) ?_
          refine takeW 0 (some 45) (.fieldAddr 25 (.tmp 5) 3) (Value.pointer (some ⟨nb, 3, none⟩)) rfl rfl (by kernel_rfl) (by kernel_rfl) (by kernel_rfl) (by kernel_rfl) (fun _ _ _ h => h) ?hy hS ?_
          case hy =>
            rintro o ho w' _
            go_simp
          simp only [Act.put, List.setIfInBounds_toArray, List.set_cons_zero, List.set_cons_succ]
          refine takeW 1 (some 46) (.load 23 (.tmp 45)) (Value.slice v3a v3l v3c) rfl rfl (by kernel_rfl) (by kernel_rfl) (by kernel_rfl) (by kernel_rfl) (fun _ _ _ h => h) ?hy hS ?_
          case hy =>
            rintro o ho w' ⟨hA, hB, hC⟩
            go_simp
          simp only [Act.put, List.setIfInBounds_toArray, List.set_cons_zero, List.set_cons_succ]
          refine takeW 2 (some 47) (.fieldAddr 25 (.tmp 2) 3) (Value.pointer (some ⟨w.heap.size, 3, none⟩)) rfl rfl (by kernel_rfl) (by kernel_rfl) (by kernel_rfl) (by kernel_rfl) (fun _ _ _ h => h) ?hy hS ?_
          case hy =>
            rintro o ho w' _
            go_simp
          simp only [Act.put, List.setIfInBounds_toArray, List.set_cons_zero, List.set_cons_succ]
          refine takeW 3 (some 48) (.load 23 (.tmp 47)) (Value.slice (some ⟨bb, bo, none⟩) L3 c3) rfl rfl (by kernel_rfl) (by kernel_rfl) (by kernel_rfl) (by kernel_rfl) (fun _ _ _ h => h) ?hy hS ?_
          case hy =>
            rintro o ho w' ⟨hA, hB, hC⟩
            go_simp
          simp only [Act.put, List.setIfInBounds_toArray, List.set_cons_zero, List.set_cons_succ]
          refine takeW 4 (some 49) (.move (.tmp 6)) (Value.int .i64 (k : Int)) rfl rfl (by kernel_rfl) (by kernel_rfl) (by kernel_rfl) (by kernel_rfl) (fun _ _ _ h => h) ?hy hS ?_
          case hy =>
            rintro o ho w' _
            go_simp
          simp only [Act.put, List.setIfInBounds_toArray, List.set_cons_zero, List.set_cons_succ]
          refine takeW 5 (some 50) (.indexAddr 23 (.tmp 48) (.tmp 49)) (Value.pointer (some ⟨bb, bo + k, none⟩)) rfl rfl (by kernel_rfl) (by kernel_rfl) (by kernel_rfl) (by kernel_rfl) (fun _ _ _ h => h) ?hy hS ?_
          case hy =>
            rintro o ho w' _
            go_simp
          simp only [Act.put, List.setIfInBounds_toArray, List.set_cons_zero, List.set_cons_succ]
          refine takeW 6 (some 51) (.load 3 (.tmp 50)) (Value.int .i64 (dA n k)) rfl rfl (by kernel_rfl) (by kernel_rfl) (by kernel_rfl) (by kernel_rfl) (fun _ _ _ h => h) ?hy hS ?_
          case hy =>
            rintro o ho w' ⟨hA, hB, hC⟩
            go_simp
          simp only [Act.put, List.setIfInBounds_toArray, List.set_cons_zero, List.set_cons_succ]
          refine readyW 7 (some 52) (.buildSlice 23 1 #[(0, .tmp 51)]) rfl (by kernel_rfl) ?_
          rintro o K hd ho hg hK
          refine wp_buildV _ _ _ _ elemI (.tmp 51) ho (Value.int .i64 (dA n k)) rfl rfl ?_
          rw [hd]
          refine hK _ _ (fun _ => hSb) ?_
          clear ho hd hg hK
          simp only [Act.put, List.setIfInBounds_toArray, List.set_cons_zero, List.set_cons_succ]
          refine readyW 8 (some 53) (.call { callee := .builtin .append, args := #[.tmp 46, .tmp 52], argTypes := #[23, 23] }) rfl (by kernel_rfl) ?_
          rintro o K hd ho hg hK
          refine wp_moreV _ _ _ _ elemI (w := (RUw.drew.alloc (.cells #[Value.int .i64 (dA n k)] 3))) (.tmp 46) (.tmp 52) ho B _ (nums (takeN n k).kd) rfl HON.out RUw.drew.heap.size (Value.int .i64 (dA n k)) rfl rfl (one_new _ _ _) HLX.out.1 HLX.out.2 HBN.out ?_
          intro v6 w6 o6 g6 f6
          obtain ⟨na, nc, e6⟩ := o6.long
          obtain ⟨nl, hnl⟩ : ∃ l, Hid ((nums (takeN n k).kd ++ [Value.int .i64 (dA n k)]).length = l) := ⟨_, rfl⟩
          rw [hnl.out] at e6
          subst e6
          obtain ⟨⟨q6, r6⟩, rs7, b7, b6⟩ := grow_kid RU.out (((Below.refl _ _).drew).alloc (Nat.le_refl _) _) g6 o6 f6
          have bw6 : Below nb W3 w6 := BRU.out.trans b6
          have hS6 : w6.cell? ⟨nb, 3, none⟩ = some (.slice v3a v3l v3c) ∧ w6.cell? ⟨w.heap.size, 3, none⟩ = some (.slice (some ⟨bb, bo, none⟩) L3 c3) ∧ w6.cell? ⟨bb, bo + k, none⟩ = some (Value.int .i64 (dA n k)) := by
            obtain ⟨bb', bo', ea', hc'⟩ := HCL3.out k hd3 w6 bw6
            cases ea'
            exact ⟨q6, (BOX.out w6 bw6).c3, hc'⟩
          rw [hd]
          refine hK _ _ (fun _ => hS6) ?_
          clear ho hd hg hK o6 g6 f6
          simp only [Act.put, List.setIfInBounds_toArray, List.set_cons_zero, List.set_cons_succ]
          refine readyW 9 (some 54) (.fieldAddr 25 (.tmp 5) 3) rfl (by kernel_rfl) ?_
          rintro o K hd ho hg hK
          refine stepY (v := Value.pointer (some ⟨nb, 3, none⟩)) ?hy ?_
          case hy => go_simp
          rw [hd]
          refine hK _ _ (fun _ => hS6) ?_
          clear ho hd hg hK
          simp only [Act.put, List.setIfInBounds_toArray, List.set_cons_zero, List.set_cons_succ]
          refine readyW 10 none (.store 23 (.tmp 54) (.tmp 53)) rfl (by kernel_rfl) ?_
          rintro o K hd ho hg hK
          refine wp_storeI ho rfl rfl q6 r6 ?_
          rw [hd]
          refine hK _ _ (fun e => absurd rfl e) ?_
          refine doneW (by kernel_rfl) ?_ _
          clear ho hd hg hK hnl
          simp only [Act.put]
          obtain ⟨RXw, hRXw⟩ : ∃ W, w6.setCell ⟨nb, 3, none⟩ (.slice na nl nc) = W := ⟨_, rfl⟩
          rw [hRXw] at rs7 b7 ⊢
          have BRX : Hid (Below nb W3 RXw) := BRU.out.trans b7
          have RX := hideN rs7
          clear rs7 b7 b6 bw6 q6 r6 hS hSb hS6 HLX HON HBN hRXw hcell BRU RU
          go_wp2_with fail
          go_roundw
          case rel => exact ⟨k + 1, _, _, _, by omega, by go_num, by rw [HST.out]; exact RX, BRX⟩
          case measure => simp [intOf]; omega
        · have hk3 : ¬ (k : Int) < (L3 : Int) := by omega
          rw [if_neg hd3] at HST
          go_wp2_with fail
          go_roundw
          case rel => exact ⟨k + 1, _, _, _, by omega, by go_num, by rw [HST.out]; exact RU, BRU⟩
          case measure => simp [intOf]; omega
      · have hk2 : ¬ (k : Int) < (L2 : Int) := by omega
        rw [if_neg hv] at HST
        have cb3 := (BOX.out RTw BRT.out).c3
        by_cases hd3 : k < L3
        · have hk3 : (k : Int) < (L3 : Int) := by omega
          rw [if_pos hd3] at HST
          obtain ⟨v3a, v3l, v3c, e3⟩ : ∃ a l c, v3 = .slice a l c := by obtain ⟨a, c, e⟩ := RT.out.d.long; exact ⟨a, _, c, e⟩
          subst e3
          obtain ⟨bb, bo, ea, hcell⟩ := HCL3.out k hd3 RTw BRT.out
          subst ea
          have hS : RTw.drew.cell? ⟨nb, 3, none⟩ = some (.slice v3a v3l v3c) ∧ RTw.drew.cell? ⟨w.heap.size, 3, none⟩ = some (.slice (some ⟨bb, bo, none⟩) L3 c3) ∧ RTw.drew.cell? ⟨bb, bo + k, none⟩ = some (Value.int .i64 (dA n k)) := ⟨RT.out.nv.c3, BOX.out RTw BRT.out |>.c3, hcell⟩
          have HLX : Hid ((nums (takeN n k).kd).length + 1 ≤ 9223372036854775807 ∧ ((nums (takeN n k).kd).length + 1) * 8 ≤ 140737488355328) := HLEN3.out k
          have HON : Hid (OwV B 3 (RTw.drew.alloc (.cells #[Value.int .i64 (dA n k)] 3)) (.slice v3a v3l v3c) (nums (takeN n k).kd)) := (RT.out.d.below ((Below.refl _ _).drew)).below (below_alloc _ _)
          have HBN : Hid (B ≤ (RTw.drew.alloc (.cells #[Value.int .i64 (dA n k)] 3)).heap.size) := Nat.le_trans RT.out.wB (below_alloc RTw.drew _).size
          have hSb : (RTw.drew.alloc (.cells #[Value.int .i64 (dA n k)] 3)).cell? ⟨nb, 3, none⟩ = some (.slice v3a v3l v3c) ∧ (RTw.drew.alloc (.cells #[Value.int .i64 (dA n k)] 3)).cell? ⟨w.heap.size, 3, none⟩ = some (.slice (some ⟨bb, bo, none⟩) L3 c3) ∧ (RTw.drew.alloc (.cells #[Value.int .i64 (dA n k)] 3)).cell? ⟨bb, bo + k, none⟩ = some (Value.int .i64 (dA n k)) := by
            have b2 := below_alloc RTw.drew (.cells #[Value.int .i64 (dA n k)] 3)
            exact ⟨by rw [b2.cell (p := ⟨nb, 3, none⟩) (World.block_lt_of_cell? _ ⟨nb, 3, none⟩ hS.1)]; exact hS.1, by rw [b2.cell (p := ⟨w.heap.size, 3, none⟩) (World.block_lt_of_cell? _ ⟨w.heap.size, 3, none⟩ hS.2.1)]; exact hS.2.1, by rw [b2.cell (p := ⟨bb, bo + k, none⟩) (World.block_lt_of_cell? _ ⟨bb, bo + k, none⟩ hS.2.2)]; exact hS.2.2⟩
          go_wp2_with fail
          refine beginW (S := fun w' => w'.cell? ⟨nb, 3, none⟩ = some (.slice v3a v3l v3c) ∧ w'.cell? ⟨w.heap.size, 3, none⟩ = some (.slice (some ⟨bb, bo, none⟩) L3 c3) ∧ w'.cell? ⟨bb, bo + k, none⟩ = some (Value.int .i64 (dA n k))) (t := 10) (by kernel_rfl) ?_
          refine takeW 0 (some 45) (.fieldAddr 25 (.tmp 5) 3) (Value.pointer (some ⟨nb, 3, none⟩)) rfl rfl (by kernel_rfl) (by kernel_rfl) (by kernel_rfl) (by kernel_rfl) (fun _ _ _ h => h) ?hy hS ?_
          case hy =>
            rintro o ho w' _
            go_simp
          simp only [Act.put, List.setIfInBounds_toArray, List.set_cons_zero, List.set_cons_succ]
          refine takeW 1 (some 46) (.load 23 (.tmp 45)) (Value.slice v3a v3l v3c) rfl rfl (by kernel_rfl) (by kernel_rfl) (by kernel_rfl) (by kernel_rfl) (fun _ _ _ h => h) ?hy hS ?_
          case hy =>
            rintro o ho w' ⟨hA, hB, hC⟩
            go_simp
          simp only [Act.put, List.setIfInBounds_toArray, List.set_cons_zero, List.set_cons_succ]
          refine takeW 2 (some 47) (.fieldAddr 25 (.tmp 2) 3) (Value.pointer (some ⟨w.heap.size, 3, none⟩)) rfl rfl (by kernel_rfl) (by kernel_rfl) (by kernel_rfl) (by kernel_rfl) (fun _ _ _ h => h) ?hy hS ?_
          case hy =>
            rintro o ho w' _
            go_simp
          simp only [Act.put, List.setIfInBounds_toArray, List.set_cons_zero, List.set_cons_succ]
          refine takeW 3 (some 48) (.load 23 (.tmp 47)) (Value.slice (some ⟨bb, bo, none⟩) L3 c3) rfl rfl (by kernel_rfl) (by kernel_rfl) (by kernel_rfl) (by kernel_rfl) (fun _ _ _ h => h) ?hy hS ?_
          case hy =>
            rintro o ho w' ⟨hA, hB, hC⟩
            go_simp
          simp only [Act.put, List.setIfInBounds_toArray, List.set_cons_zero, List.set_cons_succ]
          refine takeW 4 (some 49) (.move (.tmp 6)) (Value.int .i64 (k : Int)) rfl rfl (by kernel_rfl) (by kernel_rfl) (by kernel_rfl) (by kernel_rfl) (fun _ _ _ h => h) ?hy hS ?_
          case hy =>
            rintro o ho w' _
            go_simp
          simp only [Act.put, List.setIfInBounds_toArray, List.set_cons_zero, List.set_cons_succ]
          refine takeW 5 (some 50) (.indexAddr 23 (.tmp 48) (.tmp 49)) (Value.pointer (some ⟨bb, bo + k, none⟩)) rfl rfl (by kernel_rfl) (by kernel_rfl) (by kernel_rfl) (by kernel_rfl) (fun _ _ _ h => h) ?hy hS ?_
          case hy =>
            rintro o ho w' _
            go_simp
          simp only [Act.put, List.setIfInBounds_toArray, List.set_cons_zero, List.set_cons_succ]
          refine takeW 6 (some 51) (.load 3 (.tmp 50)) (Value.int .i64 (dA n k)) rfl rfl (by kernel_rfl) (by kernel_rfl) (by kernel_rfl) (by kernel_rfl) (fun _ _ _ h => h) ?hy hS ?_
          case hy =>
            rintro o ho w' ⟨hA, hB, hC⟩
            go_simp
          simp only [Act.put, List.setIfInBounds_toArray, List.set_cons_zero, List.set_cons_succ]
          refine readyW 7 (some 52) (.buildSlice 23 1 #[(0, .tmp 51)]) rfl (by kernel_rfl) ?_
          rintro o K hd ho hg hK
          refine wp_buildV _ _ _ _ elemI (.tmp 51) ho (Value.int .i64 (dA n k)) rfl rfl ?_
          rw [hd]
          refine hK _ _ (fun _ => hSb) ?_
          clear ho hd hg hK
          simp only [Act.put, List.setIfInBounds_toArray, List.set_cons_zero, List.set_cons_succ]
          refine readyW 8 (some 53) (.call { callee := .builtin .append, args := #[.tmp 46, .tmp 52], argTypes := #[23, 23] }) rfl (by kernel_rfl) ?_
          rintro o K hd ho hg hK
          refine wp_moreV _ _ _ _ elemI (w := (RTw.drew.alloc (.cells #[Value.int .i64 (dA n k)] 3))) (.tmp 46) (.tmp 52) ho B _ (nums (takeN n k).kd) rfl HON.out RTw.drew.heap.size (Value.int .i64 (dA n k)) rfl rfl (one_new _ _ _) HLX.out.1 HLX.out.2 HBN.out ?_
          intro v6 w6 o6 g6 f6
          obtain ⟨na, nc, e6⟩ := o6.long
          obtain ⟨nl, hnl⟩ : ∃ l, Hid ((nums (takeN n k).kd ++ [Value.int .i64 (dA n k)]).length = l) := ⟨_, rfl⟩
          rw [hnl.out] at e6
          subst e6
          obtain ⟨⟨q6, r6⟩, rs7, b7, b6⟩ := grow_kid RT.out (((Below.refl _ _).drew).alloc (Nat.le_refl _) _) g6 o6 f6
          have bw6 : Below nb W3 w6 := BRT.out.trans b6
          have hS6 : w6.cell? ⟨nb, 3, none⟩ = some (.slice v3a v3l v3c) ∧ w6.cell? ⟨w.heap.size, 3, none⟩ = some (.slice (some ⟨bb, bo, none⟩) L3 c3) ∧ w6.cell? ⟨bb, bo + k, none⟩ = some (Value.int .i64 (dA n k)) := by
            obtain ⟨bb', bo', ea', hc'⟩ := HCL3.out k hd3 w6 bw6
            cases ea'
            exact ⟨q6, (BOX.out w6 bw6).c3, hc'⟩
          rw [hd]
          refine hK _ _ (fun _ => hS6) ?_
          clear ho hd hg hK o6 g6 f6
          simp only [Act.put, List.setIfInBounds_toArray, List.set_cons_zero, List.set_cons_succ]
          refine readyW 9 (some 54) (.fieldAddr 25 (.tmp 5) 3) rfl (by kernel_rfl) ?_
          rintro o K hd ho hg hK
          refine stepY (v := Value.pointer (some ⟨nb, 3, none⟩)) ?hy ?_
          case hy => go_simp
          rw [hd]
          refine hK _ _ (fun _ => hS6) ?_
          clear ho hd hg hK
          simp only [Act.put, List.setIfInBounds_toArray, List.set_cons_zero, List.set_cons_succ]
          refine readyW 10 none (.store 23 (.tmp 54) (.tmp 53)) rfl (by kernel_rfl) ?_
          rintro o K hd ho hg hK
          refine wp_storeI ho rfl rfl q6 r6 ?_
          rw [hd]
          refine hK _ _ (fun e => absurd rfl e) ?_
          refine doneW (by kernel_rfl) ?_ _
          clear ho hd hg hK hnl
          simp only [Act.put]
          obtain ⟨RXw, hRXw⟩ : ∃ W, w6.setCell ⟨nb, 3, none⟩ (.slice na nl nc) = W := ⟨_, rfl⟩
          rw [hRXw] at rs7 b7 ⊢
          have BRX : Hid (Below nb W3 RXw) := BRT.out.trans b7
          have RX := hideN rs7
          clear rs7 b7 b6 bw6 q6 r6 hS hSb hS6 HLX HON HBN hRXw hcell BRT RT
          go_wp2_with fail
          go_roundw
          case rel => exact ⟨k + 1, _, _, _, by omega, by go_num, by rw [HST.out]; exact RX, BRX⟩
          case measure => simp [intOf]; omega
        · have hk3 : ¬ (k : Int) < (L3 : Int) := by omega
          rw [if_neg hd3] at HST
          go_wp2_with fail
          go_roundw
          case rel => exact ⟨k + 1, _, _, _, by omega, by go_num, by rw [HST.out]; exact RT, BRT⟩
          case measure => simp [intOf]; omega
    · have hkl : k = many := by omega
      subst hkl
      obtain ⟨x0, y0, e0⟩ := RS.out.k.long
      obtain ⟨x1, y1, e1⟩ := RS.out.v.long
      obtain ⟨x2, y2, e2⟩ := RS.out.d.long
      obtain ⟨q0, hq0⟩ : ∃ q, Hid ((strs (takeN n k).ks).length = q) := ⟨_, rfl⟩
      obtain ⟨q1, hq1⟩ : ∃ q, Hid ((strs (takeN n k).vs).length = q) := ⟨_, rfl⟩
      obtain ⟨q2, hq2⟩ : ∃ q, Hid ((nums (takeN n k).kd).length = q) := ⟨_, rfl⟩
      rw [hq0.out] at e0
      rw [hq1.out] at e1
      rw [hq2.out] at e2
      subst e0 e1 e2
      have nv : Nb wr 25 nb lf (.slice x0 q0 y0) (.slice x1 q1 y1) (.slice x2 q2 y2) := by have := RS.out.nv; rw [show (takeN n k).lf = lf from hlf.out] at this; exact this
      have rr := RES.out wr BRS.out
      have s0 := nv.c0
      have s1 := nv.c1
      have s2 := nv.c2
      have s3 := nv.c3
      have r0 := rr.c0
      have r1 := rr.c1
      have r2 := rr.c2
      have r3 := rr.c3
      have f0 := rr.fz 0
      have g1 := rr.fz 1
      have g2 := rr.fz 2
      have g3 := rr.fz 3
      have tA := tch_all wr W1.heap.size (.bool lf) (.slice x0 q0 y0) (.slice x1 q1 y1) (.slice x2 q2 y2)
      have NA := rr.all lf (.slice x0 q0 y0) (.slice x1 q1 y1) (.slice x2 q2 y2)
      obtain ⟨WA, hWA⟩ : ∃ WA, Hid ((((wr.setCell ⟨W1.heap.size, 0, none⟩ (.bool lf)).setCell ⟨W1.heap.size, 1, none⟩ (.slice x0 q0 y0)).setCell ⟨W1.heap.size, 2, none⟩ (.slice x1 q1 y1)).setCell ⟨W1.heap.size, 3, none⟩ (.slice x2 q2 y2) = WA) := ⟨_, rfl⟩
      rw [hWA.out] at tA NA
      have LA := hideN NA.loadR
      have KK : Hid (Nn WA (takeN n k) (.slice x0 q0 y0) (.slice x1 q1 y1) (.slice x2 q2 y2)) := RS.out.nn.tch tA (fun j hj e => by have := RS.out.k.ge j hj; have := RS.out.nB; have := HR1.out; omega) (fun j hj e => by have := RS.out.v.ge j hj; have := RS.out.nB; have := HR1.out; omega) (fun j hj e => by have := RS.out.d.ge j hj; have := RS.out.nB; have := HR1.out; omega)
      have BB : Hid (Below w.heap.size w WA) := by
        have h1 : Below w.heap.size w wr := BW3.out.trans (BRS.out.mono HNB.out)
        exact h1.trans (tA.below h1.size (fun j e => by have := HR1.out; omega))
      clear tA NA nv rr RS BRS
      go_wp2_with fail
      rw [hWA.out]
      refine bodyPost_ret (v := nod lf (.slice x0 q0 y0) (.slice x1 q1 y1) (.slice x2 q2 y2)) (results_atN (p := 4) (ty := 25) rfl _ _ _ W1.heap.size _ rfl LA.out) rfl ?_
      exact ⟨⟨_, _, _, rfl, KK.out⟩, BB.out⟩
end Go.Proofs.Ytbpaeecclikeiaa
