/-
  The program's read.
-/
import Derived.Test.YtbpaeecclikeiaaNRs
import Derived.Test.YtbpaeecclikeiaaBReg
namespace Go.Proofs.Ytbpaeecclikeiaa
open Go.RowKit Pl
set_option linter.unusedVariables false
set_option linter.unusedSimpArgs false
set_option maxRecDepth 100000

theorem inf_src : (Try.prog.info? 79).map (·.size) = some 2 := by kernel_rfl
/-- Rows that are no older than m. -/
def Fr3 (m : Nat) (v1 v2 v3 : Value) : Prop := ∀ j, (v1.ownBlock = some j ∨ v2.ownBlock = some j ∨ v3.ownBlock = some j) → m ≤ j
/-- What was read: the node, and whether it is all. -/
def rdN (lf : Bool) (xs : List Int) : Pz := pzN lf (numZ (xs, false)).2 (numZ (xs, false)).1.toNat
def rdOk (p : Pz) : Bool := !p.t.2 && decide (p.t.1.length = 0)
theorem Rs.num {B n0 : Nat} {w w1 : World} {g nb : Nat} {v1 v2 v3 : Value} {p : Pz} {t' : List Int × Bool} (h : Rs B n0 w g nb v1 v2 v3 p) (ht : Tch (fun k => k = g) w w1) (hx : SzX n0 w1 g t') : Rs B n0 w1 g nb v1 v2 v3 ⟨p.n, t'⟩ ∧ Below n0 w w1 :=
  ⟨⟨hx, h.nv.tch ht (fun e => h.gn e.symm), h.k.tch ht (fun x hx e => by have := h.k.ge x hx; have := h.gB; omega), h.v.tch ht (fun x hx e => by have := h.v.ge x hx; have := h.gB; omega), h.d.tch ht (fun x hx e => by have := h.d.ge x hx; have := h.gB; omega), h.ap, h.gn, h.gB, h.nB, h.n0, Nat.le_trans h.wB ht.size⟩,
    ht.below (by have := h.n0; have := h.nB; have := h.wB; omega) (fun k e => by rw [e]; exact h.src.new)⟩

set_option maxHeartbeats 4000000 in
theorem read_any (lf : Bool) (v : Value) (xs : List Int) (w : World) (hr : Rd .u8 w v xs) (hb : By xs) :
    Calls Try.prog 36 #[.bool lf, v] w fun e w' => (∃ v1 v2 v3, e = .returned (.tuple #[nod lf v1 v2 v3, .bool (rdOk (rdN lf xs))]) ∧ Nn w' (rdN lf xs).n v1 v2 v3 ∧ Fr3 w.heap.size v1 v2 v3) ∧ Below w.heap.size w w' := by
  obtain ⟨a, cap, rfl, h1, h2, _⟩ := id hr
  have HR := hideN hr
  have HY := hideN hb
  obtain ⟨L, hL⟩ : ∃ L, Hid (xs.length = L) := ⟨_, rfl⟩
  rw [hL.out] at HR h1 ⊢
  obtain ⟨W1, hW1⟩ : ∃ W1, w.alloc (.cells #[.bool false, .slice none 0 0, .slice none 0 0, .slice none 0 0] 26) = W1 := ⟨_, rfl⟩
  have b1 : Below w.heap.size w W1 := by rw [← hW1]; exact below_alloc _ _
  have X1 : Hid (Nb W1 26 w.heap.size false (.slice none 0 0) (.slice none 0 0) (.slice none 0 0)) := by rw [← hW1]; exact nb_new _ _ _ _ _ _
  have B1 := hideN b1
  have RS1 : Hid (RdS W1.heap.size W1 (.slice a L cap) xs) := rdS_of (HR.out.below b1)
  obtain ⟨p9, hp9⟩ : ∃ p, Hid (rdN lf xs = p) := ⟨_, rfl⟩
  obtain ⟨ok, hok⟩ : ∃ b, Hid (rdOk p9 = b) := ⟨_, rfl⟩
  rw [hp9.out, hok.out]
  obtain ⟨t1, ht1⟩ : ∃ t, Hid ((numZ (xs, false)).2 = t) := ⟨_, rfl⟩
  have HP9 : Hid (p9 = pzN lf t1 (numZ (xs, false)).1.toNat) := by rw [← hp9.out, ← ht1.out]; rfl
  clear hr hb h2 b1
  unfold nod
  go_enter Try.func36, Try.ntmps36
  go_wp2_with (first | (refine wpList_store_newD _ rfl 79 (.tmp 6) (.tmp 10) rfl _ #[.slice a L cap, .bool false] ?h1 ?h2 inf_src rfl rfl ?_; (case h1 => rfl); (case h2 => rfl); skip) | (refine wpList_store_newD _ rfl 26 (.tmp 7) (.tmp 12) rfl _ #[.bool lf, .slice none 0 0, .slice none 0 0, .slice none 0 0] ?h1 ?h2 inf_nod rfl rfl ?_; (case h1 => rfl); (case h2 => rfl); skip))
  obtain ⟨W2, hW2⟩ : ∃ W2, W1.alloc (.cells #[.slice a L cap, .bool false] 79) = W2 := ⟨_, rfl⟩
  rw [hW2]
  obtain ⟨W3, hW3⟩ : ∃ W3, W2.alloc (.cells #[.bool lf, .slice none 0 0, .slice none 0 0, .slice none 0 0] 26) = W3 := ⟨_, rfl⟩
  rw [hW3]
  have b2 : Below W1.heap.size W1 W2 := by rw [← hW2]; exact below_alloc _ _
  have b3 : Below W2.heap.size W2 W3 := by rw [← hW3]; exact below_alloc _ _
  have z2 : W2.heap.size = W1.heap.size + 1 := by rw [← hW2]; simp
  have z3 : W3.heap.size = W2.heap.size + 1 := by rw [← hW3]; simp
  have s2 : W2.heap[W1.heap.size]? = some (.cells #[.slice a L cap, .bool false] 79 (0, 0)) := by rw [← hW2]; exact heap_alloc_new W1 _
  have s3 : W3.heap[W1.heap.size]? = some (.cells #[.slice a L cap, .bool false] 79 (0, 0)) := by rw [b3.block _ (Array.getElem?_eq_some_iff.1 s2).1]; exact s2
  have B3 : Hid (Below W1.heap.size W1 W3) := b2.trans (b3.mono b2.size)
  have SX3 : Hid (SzX W1.heap.size W3 W1.heap.size (xs, false)) := ⟨_, s3, RS1.out.below B3.out, HY.out, Nat.le_refl _⟩
  have NV3 : Hid (Nb W3 26 W2.heap.size lf (.slice none 0 0) (.slice none 0 0) (.slice none 0 0)) := by rw [← hW3]; exact nb_new _ _ _ _ _ _
  have HZZ : Hid (W2.heap.size = W1.heap.size + 1 ∧ W3.heap.size = W1.heap.size + 2) := ⟨z2, by omega⟩
  clear b2 b3 s2 s3 z2 z3 hW1 hW2 hW3
  obtain ⟨n0, hn0⟩ : ∃ x, W1.heap.size = x := ⟨_, rfl⟩
  obtain ⟨nb, hnb⟩ : ∃ x, W2.heap.size = x := ⟨_, rfl⟩
  obtain ⟨B, hB⟩ : ∃ x, W3.heap.size = x := ⟨_, rfl⟩
  rw [hn0] at SX3 HZZ RS1 B3
  rw [hnb] at NV3 HZZ
  rw [hB] at HZZ
  rw [hn0]
  rw [show n0 + 1 = nb from HZZ.out.1.symm]
  have HN0 : Hid (w.heap.size < n0) := by rw [← hn0]; exact X1.out.lt
  have HB3 := hideN hB
  have HN1 := hideN hn0
  obtain ⟨g, hg⟩ : ∃ g, Hid (n0 = g) := ⟨_, rfl⟩
  have SX3' : Hid (SzX n0 W3 g (xs, false)) := by rw [← hg.out]; exact SX3.out
  clear hn0 hnb hB SX3
  rw [hg.out]
  refine (srcNum_any n0 g (xs, false) W3 SX3'.out).mono ?_
  rintro e w4 ⟨rfl, ⟨q0, q1⟩, hx4, ht4⟩
  obtain ⟨c, hc⟩ : ∃ c : Nat, (numZ (xs, false)).1 = (c : Int) := ⟨(numZ (xs, false)).1.toNat, by omega⟩
  rw [hc] at HP9 q1
  rw [ht1.out] at hx4
  have HP : Hid (p9 = pzN lf t1 c) := HP9.out
  have hc255 : c ≤ 255 := by omega
  have R4 : Hid (Rs B n0 w4 g nb (.slice none 0 0) (.slice none 0 0) (.slice none 0 0) (pzN lf t1 0)) := by
    have hgB : g < B := by rw [← hg.out]; have := HZZ.out; omega
    have hgn : g ≠ nb := by rw [← hg.out]; have := HZZ.out; omega
    exact ⟨hx4, NV3.out.tch ht4 (fun e => hgn e.symm), owV_nil _ _ _, owV_nil _ _ _, owV_nil _ _ _, (fun j e => by cases e), hgn, hgB, by have := HZZ.out; omega, by have := HZZ.out; omega, by rw [← HB3.out]; exact ht4.size⟩
  have BB4 : Hid (Below n0 W1 w4) := B3.out.trans (ht4.below (by rw [HB3.out]; have := HZZ.out; omega) (fun k e => by rw [e, ← hg.out]; exact Nat.le_refl _))
  rw [hc]
  clear hx4 ht4 q0 q1 hc HP9 SX3' NV3 RS1 B3
  go_wp2_with fail
  go_loopw [14] (fun i wr => ∃ (k : Nat) (v1 v2 v3 : Value), k ≤ c ∧ i = .int .i64 k ∧ Hid (Rs B n0 wr g nb v1 v2 v3 (pzN lf t1 k)) ∧ Hid (Below n0 W1 wr)) (fun i _ => c - (intOf i).toNat)
  case atStart => exact ⟨0, _, _, _, Nat.zero_le _, rfl, R4, BB4⟩
  case round =>
    clear R4 BB4
    obtain ⟨k, v1, v2, v3, hk, rfl, RA, BA⟩ := hrel
    obtain ⟨cw, rfl⟩ : ∃ cw, cw = wr := ⟨_, rfl⟩
    by_cases hlt : k < c
    · have HSTEP : Hid (pzN lf t1 (k + 1) = pzStep (pzN lf t1 k)) := rfl
      have HLF : Hid ((pzN lf t1 k).n.lf = lf) := pzN_lf lf t1 k
      have HLEN : Hid ((pzN lf t1 k).n.ks.length ≤ 255 ∧ (pzN lf t1 k).n.vs.length ≤ 255 ∧ (pzN lf t1 k).n.kd.length ≤ 255) := by have := pzN_len lf t1 k; show _ ∧ _; omega
      obtain ⟨pk, hpk⟩ : ∃ p, Hid (pzN lf t1 k = p) := ⟨_, rfl⟩
      rw [hpk.out] at RA HSTEP HLF HLEN
      obtain ⟨v1a, v1l, v1c, e1⟩ : ∃ a l c, v1 = .slice a l c := by obtain ⟨a, c, e⟩ := RA.out.k.long; exact ⟨a, _, c, e⟩
      subst e1
      have hS : cw.drew.cell? ⟨nb, 1, none⟩ = some (.slice v1a v1l v1c) := RA.out.nv.c1
      have HTC : Hid (SzX n0 cw.drew g (pk).t) := RA.out.src.below ((Below.refl _ _).drew)
      have HTX := hideN (srcText_any n0 g (pk).t cw.drew HTC.out)
      obtain ⟨sx, hsx⟩ : ∃ s, Hid ((txtZ (pk).t).1 = s) := ⟨_, rfl⟩
      obtain ⟨tx, htx⟩ : ∃ t, Hid ((txtZ (pk).t).2 = t) := ⟨_, rfl⟩
      rw [hsx.out, htx.out] at HTX
      have HLX : Hid ((strs (pk).n.ks).length + 1 ≤ 9223372036854775807 ∧ ((strs (pk).n.ks).length + 1) * 16 ≤ 140737488355328) := by show _ ∧ _; rw [strs_len]; have := HLEN.out; omega
      go_wp2_with fail
      refine beginW (S := fun w' => w'.cell? ⟨nb, 1, none⟩ = some (.slice v1a v1l v1c)) (t := 6) (by kernel_rfl) ?_
      refine takeW 0 (some 16) (.fieldAddr 26 (.tmp 7) 1) (Value.pointer (some ⟨nb, 1, none⟩)) rfl rfl (by kernel_rfl) (by kernel_rfl) (by kernel_rfl) (by kernel_rfl) (fun _ _ _ h => h) ?hy hS ?_
      case hy =>
        rintro o ho w' hS1
        go_simp
      simp only [Act.put, List.setIfInBounds_toArray, List.set_cons_zero, List.set_cons_succ]
      refine takeW 1 (some 17) (.load 22 (.tmp 16)) (Value.slice v1a v1l v1c) rfl rfl (by kernel_rfl) (by kernel_rfl) (by kernel_rfl) (by kernel_rfl) (fun _ _ _ h => h) ?hy hS ?_
      case hy =>
        rintro o ho w' hS1
        go_simp
      simp only [Act.put, List.setIfInBounds_toArray, List.set_cons_zero, List.set_cons_succ]
      refine readyW 2 (some 18) (.call { callee := .value (.func 48), args := #[.tmp 6], argTypes := #[79] }) rfl (by kernel_rfl) ?_
      rintro o K hd ho hg hK
      refine step_call (enters_of Try.func48 (by kernel_rfl) rfl) ho (vs := #[.pointer (some ⟨g, 0, none⟩)]) (by kernel_rfl) HTX.out ?_
      rintro e w1 ⟨rfl, hx1, ht1⟩
      refine ⟨_, rfl, ?_⟩
      rw [hd]
      have HT1 : Hid (Tch (fun k => k = g) cw w1) := (Tch.refl _ cw).drew.trans ht1 (fun _ _ e => e)
      have hS1 : w1.cell? ⟨nb, 1, none⟩ = some (.slice v1a v1l v1c) := (RA.out.nv.tch HT1.out (fun e => RA.out.gn e.symm)).c1
      have HX1 := hideN hx1
      have hSb : (w1.alloc (.cells #[.string sx] 9)).cell? ⟨nb, 1, none⟩ = some (.slice v1a v1l v1c) := ((RA.out.nv.tch HT1.out (fun e => RA.out.gn e.symm)).below (below_alloc _ _)).c1
      have HON : Hid (OwV B 9 (w1.alloc (.cells #[.string sx] 9)) (.slice v1a v1l v1c) (strs (pk).n.ks)) := (RA.out.k.tch HT1.out (fun x hx e => by have := RA.out.k.ge x hx; have := RA.out.gB; omega)).below (below_alloc _ _)
      have HBN : Hid (B ≤ (w1.alloc (.cells #[.string sx] 9)).heap.size) := Nat.le_trans RA.out.wB (Nat.le_trans HT1.out.size (below_alloc w1 _).size)
      refine hK _ _ (fun _ => hS1) ?_
      clear ho hd hg hK hx1 ht1
      simp only [Act.put, List.setIfInBounds_toArray, List.set_cons_zero, List.set_cons_succ]
      refine readyW 3 (some 19) (.buildSlice 22 1 #[(0, .tmp 18)]) rfl (by kernel_rfl) ?_
      rintro o K hd ho hg hK
      refine wp_buildV _ _ _ _ elemS (.tmp 18) ho (.string sx) rfl rfl ?_
      rw [hd]
      refine hK _ _ (fun _ => hSb) ?_
      clear ho hd hg hK
      simp only [Act.put, List.setIfInBounds_toArray, List.set_cons_zero, List.set_cons_succ]
      refine readyW 4 (some 20) (.call { callee := .builtin .append, args := #[.tmp 17, .tmp 19], argTypes := #[22, 22] }) rfl (by kernel_rfl) ?_
      rintro o K hd ho hg hK
      refine wp_moreV _ _ _ _ elemS (w := w1.alloc (.cells #[.string sx] 9)) (.tmp 17) (.tmp 19) ho B _ (strs (pk).n.ks) rfl HON.out w1.heap.size (.string sx) rfl rfl (one_new _ _ _) HLX.out.1 HLX.out.2 HBN.out ?_
      intro v6 w6 o6 g6 f6
      obtain ⟨na, nc, e6⟩ := o6.long
      obtain ⟨nl, hnl⟩ : ∃ l, Hid ((strs (pk).n.ks ++ [Value.string sx]).length = l) := ⟨_, rfl⟩
      rw [hnl.out] at e6
      subst e6
      obtain ⟨⟨q6, r6⟩, rs7, b7⟩ := after_key RA.out HT1.out HX1.out (below_alloc _ _) g6 o6 f6
      rw [hd]
      refine hK _ _ (fun _ => q6) ?_
      clear ho hd hg hK o6 g6 f6
      simp only [Act.put, List.setIfInBounds_toArray, List.set_cons_zero, List.set_cons_succ]
      refine readyW 5 (some 21) (.fieldAddr 26 (.tmp 7) 1) rfl (by kernel_rfl) ?_
      rintro o K hd ho hg hK
      refine stepY (v := Value.pointer (some ⟨nb, 1, none⟩)) ?hy ?_
      case hy => go_simp
      rw [hd]
      refine hK _ _ (fun _ => q6) ?_
      clear ho hd hg hK
      simp only [Act.put, List.setIfInBounds_toArray, List.set_cons_zero, List.set_cons_succ]
      refine readyW 6 none (.store 22 (.tmp 21) (.tmp 20)) rfl (by kernel_rfl) ?_
      rintro o K hd ho hg hK
      refine wp_storeS ho rfl rfl q6 r6 ?_
      rw [hd]
      refine hK _ _ (fun e => absurd rfl e) ?_
      refine doneW (by kernel_rfl) ?_ _
      clear ho hd hg hK hnl
      simp only [Act.put]
      have RB := hideN rs7
      have BRB := hideN b7
      clear rs7 b7 q6 r6 hS hS1 hSb HTC HTX HLX HT1 HX1 HON HBN
      obtain ⟨c5, hc5⟩ : ∃ W, Hid (w6.setCell ⟨nb, 1, none⟩ (.slice na nl nc) = W) := ⟨_, rfl⟩
      rw [hc5.out] at RB BRB
      rw [hc5.out]
      have BB : Hid (Below n0 W1 c5) := BA.out.trans BRB.out
      obtain ⟨p5, hp5⟩ : ∃ p : Pz, Hid ((⟨{ pk.n with ks := pk.n.ks ++ [sx] }, tx⟩ : Pz) = p) := ⟨_, rfl⟩
      have HLEN5 : Hid (p5.n.vs.length ≤ 255 ∧ p5.n.kd.length ≤ 255) := by rw [← hp5.out]; exact HLEN.out.2
      rw [hp5.out] at RB
      clear BRB hc5 BA RA HLEN
      cases lf with
      | true =>
        have HLEN : Hid (p5.n.vs.length ≤ 255) := HLEN5.out.1
        obtain ⟨v2a, v2l, v2c, e2⟩ : ∃ a l c, v2 = .slice a l c := by obtain ⟨a, c, e⟩ := RB.out.v.long; exact ⟨a, _, c, e⟩
        subst e2
        have hS : c5.drew.cell? ⟨nb, 2, none⟩ = some (.slice v2a v2l v2c) := RB.out.nv.c2
        have HTC : Hid (SzX n0 c5.drew g (p5).t) := RB.out.src.below ((Below.refl _ _).drew)
        have HTX := hideN (srcText_any n0 g (p5).t c5.drew HTC.out)
        obtain ⟨sx', hsx'⟩ : ∃ s, Hid ((txtZ (p5).t).1 = s) := ⟨_, rfl⟩
        obtain ⟨tx', htx'⟩ : ∃ t, Hid ((txtZ (p5).t).2 = t) := ⟨_, rfl⟩
        rw [hsx'.out, htx'.out] at HTX
        have HLX : Hid ((strs (p5).n.vs).length + 1 ≤ 9223372036854775807 ∧ ((strs (p5).n.vs).length + 1) * 16 ≤ 140737488355328) := by show _ ∧ _; rw [strs_len]; have := HLEN.out; omega
        go_wp2_with fail
        refine beginW (S := fun w' => w'.cell? ⟨nb, 2, none⟩ = some (.slice v2a v2l v2c)) (t := 6) (by kernel_rfl) ?_
        refine takeW 0 (some 23) (.fieldAddr 26 (.tmp 7) 2) (Value.pointer (some ⟨nb, 2, none⟩)) rfl rfl (by kernel_rfl) (by kernel_rfl) (by kernel_rfl) (by kernel_rfl) (fun _ _ _ h => h) ?hy hS ?_
        case hy =>
          rintro o ho w' hS1
          go_simp
        simp only [Act.put, List.setIfInBounds_toArray, List.set_cons_zero, List.set_cons_succ]
        refine takeW 1 (some 24) (.load 22 (.tmp 23)) (Value.slice v2a v2l v2c) rfl rfl (by kernel_rfl) (by kernel_rfl) (by kernel_rfl) (by kernel_rfl) (fun _ _ _ h => h) ?hy hS ?_
        case hy =>
          rintro o ho w' hS1
          go_simp
        simp only [Act.put, List.setIfInBounds_toArray, List.set_cons_zero, List.set_cons_succ]
        refine readyW 2 (some 25) (.call { callee := .value (.func 48), args := #[.tmp 6], argTypes := #[79] }) rfl (by kernel_rfl) ?_
        rintro o K hd ho hg hK
        refine step_call (enters_of Try.func48 (by kernel_rfl) rfl) ho (vs := #[.pointer (some ⟨g, 0, none⟩)]) (by kernel_rfl) HTX.out ?_
        rintro e w1 ⟨rfl, hx1, ht1⟩
        refine ⟨_, rfl, ?_⟩
        rw [hd]
        have HT1 : Hid (Tch (fun k => k = g) c5 w1) := (Tch.refl _ c5).drew.trans ht1 (fun _ _ e => e)
        have hS1 : w1.cell? ⟨nb, 2, none⟩ = some (.slice v2a v2l v2c) := (RB.out.nv.tch HT1.out (fun e => RB.out.gn e.symm)).c2
        have HX1 := hideN hx1
        have hSb : (w1.alloc (.cells #[.string sx'] 9)).cell? ⟨nb, 2, none⟩ = some (.slice v2a v2l v2c) := ((RB.out.nv.tch HT1.out (fun e => RB.out.gn e.symm)).below (below_alloc _ _)).c2
        have HON : Hid (OwV B 9 (w1.alloc (.cells #[.string sx'] 9)) (.slice v2a v2l v2c) (strs (p5).n.vs)) := (RB.out.v.tch HT1.out (fun x hx e => by have := RB.out.v.ge x hx; have := RB.out.gB; omega)).below (below_alloc _ _)
        have HBN : Hid (B ≤ (w1.alloc (.cells #[.string sx'] 9)).heap.size) := Nat.le_trans RB.out.wB (Nat.le_trans HT1.out.size (below_alloc w1 _).size)
        refine hK _ _ (fun _ => hS1) ?_
        clear ho hd hg hK hx1 ht1
        simp only [Act.put, List.setIfInBounds_toArray, List.set_cons_zero, List.set_cons_succ]
        refine readyW 3 (some 26) (.buildSlice 22 1 #[(0, .tmp 25)]) rfl (by kernel_rfl) ?_
        rintro o K hd ho hg hK
        refine wp_buildV _ _ _ _ elemS (.tmp 25) ho (.string sx') rfl rfl ?_
        rw [hd]
        refine hK _ _ (fun _ => hSb) ?_
        clear ho hd hg hK
        simp only [Act.put, List.setIfInBounds_toArray, List.set_cons_zero, List.set_cons_succ]
        refine readyW 4 (some 27) (.call { callee := .builtin .append, args := #[.tmp 24, .tmp 26], argTypes := #[22, 22] }) rfl (by kernel_rfl) ?_
        rintro o K hd ho hg hK
        refine wp_moreV _ _ _ _ elemS (w := w1.alloc (.cells #[.string sx'] 9)) (.tmp 24) (.tmp 26) ho B _ (strs (p5).n.vs) rfl HON.out w1.heap.size (.string sx') rfl rfl (one_new _ _ _) HLX.out.1 HLX.out.2 HBN.out ?_
        intro v6 w6' o6 g6 f6
        obtain ⟨na', nc', e6⟩ := o6.long
        obtain ⟨nl', hnl⟩ : ∃ l, Hid ((strs (p5).n.vs ++ [Value.string sx']).length = l) := ⟨_, rfl⟩
        rw [hnl.out] at e6
        subst e6
        obtain ⟨⟨q6, r6⟩, rs7, b7⟩ := after_val RB.out HT1.out HX1.out (below_alloc _ _) g6 o6 f6
        rw [hd]
        refine hK _ _ (fun _ => q6) ?_
        clear ho hd hg hK o6 g6 f6
        simp only [Act.put, List.setIfInBounds_toArray, List.set_cons_zero, List.set_cons_succ]
        refine readyW 5 (some 28) (.fieldAddr 26 (.tmp 7) 2) rfl (by kernel_rfl) ?_
        rintro o K hd ho hg hK
        refine stepY (v := Value.pointer (some ⟨nb, 2, none⟩)) ?hy ?_
        case hy => go_simp
        rw [hd]
        refine hK _ _ (fun _ => q6) ?_
        clear ho hd hg hK
        simp only [Act.put, List.setIfInBounds_toArray, List.set_cons_zero, List.set_cons_succ]
        refine readyW 6 none (.store 22 (.tmp 28) (.tmp 27)) rfl (by kernel_rfl) ?_
        rintro o K hd ho hg hK
        refine wp_storeS ho rfl rfl q6 r6 ?_
        rw [hd]
        refine hK _ _ (fun e => absurd rfl e) ?_
        refine doneW (by kernel_rfl) ?_ _
        clear ho hd hg hK hnl
        simp only [Act.put]
        have RC := hideN rs7
        have BRC := hideN b7
        clear rs7 b7 q6 r6 hS hS1 hSb HTC HTX HLX HT1 HX1 HON HBN
        obtain ⟨c7, hc7⟩ : ∃ W, Hid (w6'.setCell ⟨nb, 2, none⟩ (.slice na' nl' nc') = W) := ⟨_, rfl⟩
        rw [hc7.out] at RC BRC
        rw [hc7.out]
        have BE : Hid (Below n0 W1 c7) := BB.out.trans BRC.out
        have RE : Hid (Rs B n0 c7 g nb (.slice na nl nc) (.slice na' nl' nc') v3 (pzN true t1 (k + 1))) := by
          rw [HSTEP.out]
          unfold pzStep
          rw [if_pos HLF.out, hsx.out, htx.out]
          have h5 : p5.t = tx ∧ p5.n = { pk.n with ks := pk.n.ks ++ [sx] } := by rw [← hp5.out]; exact ⟨rfl, rfl⟩
          rw [h5.1] at hsx' htx'
          rw [hsx'.out, htx'.out]
          have := RC.out
          rw [h5.2] at this
          exact this
        clear RC BRC hc7 RB BB
        go_wp2_with fail
        go_roundw
        case rel => exact ⟨k + 1, _, _, _, by omega, by go_num, RE, BE⟩
        case measure => simp [intOf]; omega
      | false =>
        go_wp2_with fail
        refine (srcNum_any n0 g p5.t c5 RB.out.src).mono ?_
        rintro e w8 ⟨rfl, ⟨lo0, lo1⟩, hx8, ht8⟩
        obtain ⟨lo, hlo⟩ : ∃ s, Hid ((numZ p5.t).1 = s) := ⟨_, rfl⟩
        obtain ⟨t8, ht8'⟩ : ∃ t, Hid ((numZ p5.t).2 = t) := ⟨_, rfl⟩
        rw [ht8'.out] at hx8
        rw [hlo.out] at lo0 lo1
        rw [hlo.out]
        obtain ⟨rs8, b8⟩ := RB.out.num ht8 hx8
        obtain ⟨p8, hp8⟩ : ∃ p : Pz, Hid ((⟨p5.n, t8⟩ : Pz) = p) := ⟨_, rfl⟩
        have HLEN : Hid (p8.n.kd.length ≤ 255) := by rw [← hp8.out]; exact HLEN5.out.2
        rw [hp8.out] at rs8
        have RD := hideN rs8
        have BD : Hid (Below n0 W1 w8) := BB.out.trans b8
        clear hx8 ht8 rs8 b8 RB BB
        obtain ⟨v3a, v3l, v3c, e3⟩ : ∃ a l c, v3 = .slice a l c := by obtain ⟨a, c, e⟩ := RD.out.d.long; exact ⟨a, _, c, e⟩
        subst e3
        have hS : w8.drew.cell? ⟨nb, 3, none⟩ = some (.slice v3a v3l v3c) := RD.out.nv.c3
        have HTC : Hid (SzX n0 w8.drew g (p8).t) := RD.out.src.below ((Below.refl _ _).drew)
        have HTX := hideN (srcNum_any n0 g (p8).t w8.drew HTC.out)
        obtain ⟨hi, hhi⟩ : ∃ s, Hid ((numZ (p8).t).1 = s) := ⟨_, rfl⟩
        obtain ⟨tx', htx'⟩ : ∃ t, Hid ((numZ (p8).t).2 = t) := ⟨_, rfl⟩
        rw [hhi.out, htx'.out] at HTX
        have HLX : Hid ((nums (p8).n.kd).length + 1 ≤ 9223372036854775807 ∧ ((nums (p8).n.kd).length + 1) * 8 ≤ 140737488355328) := by show _ ∧ _; rw [nums_len]; have := HLEN.out; omega
        go_wp2_with fail
        refine beginW (S := fun w' => w'.cell? ⟨nb, 3, none⟩ = some (.slice v3a v3l v3c)) (t := 9) (by kernel_rfl) ?_
        refine takeW 0 (some 30) (.fieldAddr 26 (.tmp 7) 3) (Value.pointer (some ⟨nb, 3, none⟩)) rfl rfl (by kernel_rfl) (by kernel_rfl) (by kernel_rfl) (by kernel_rfl) (fun _ _ _ h => h) ?hy hS ?_
        case hy =>
          rintro o ho w' hS1
          go_simp
        simp only [Act.put, List.setIfInBounds_toArray, List.set_cons_zero, List.set_cons_succ]
        refine takeW 1 (some 31) (.load 23 (.tmp 30)) (Value.slice v3a v3l v3c) rfl rfl (by kernel_rfl) (by kernel_rfl) (by kernel_rfl) (by kernel_rfl) (fun _ _ _ h => h) ?hy hS ?_
        case hy =>
          rintro o ho w' hS1
          go_simp
        simp only [Act.put, List.setIfInBounds_toArray, List.set_cons_zero, List.set_cons_succ]
        refine takeW 2 (some 32) (.move (.tmp 8)) (Value.int .i64 lo) rfl rfl (by kernel_rfl) (by kernel_rfl) (by kernel_rfl) (by kernel_rfl) (fun _ _ _ h => h) ?hy hS ?_
        case hy =>
          rintro o ho w' hS1
          go_simp
        simp only [Act.put, List.setIfInBounds_toArray, List.set_cons_zero, List.set_cons_succ]
        refine readyW 3 (some 33) (.call { callee := .value (.func 47), args := #[.tmp 6], argTypes := #[79] }) rfl (by kernel_rfl) ?_
        rintro o K hd ho hg hK
        refine step_call (enters_of Try.func47 (by kernel_rfl) rfl) ho (vs := #[.pointer (some ⟨g, 0, none⟩)]) (by kernel_rfl) HTX.out ?_
        rintro e w1 ⟨rfl, ⟨hi0, hi1⟩, hx1, ht1⟩
        refine ⟨_, rfl, ?_⟩
        rw [hd]
        have HT1 : Hid (Tch (fun k => k = g) w8 w1) := (Tch.refl _ w8).drew.trans ht1 (fun _ _ e => e)
        have hS1 : w1.cell? ⟨nb, 3, none⟩ = some (.slice v3a v3l v3c) := (RD.out.nv.tch HT1.out (fun e => RD.out.gn e.symm)).c3
        have HX1 := hideN hx1
        have hSb : (w1.alloc (.cells #[.int .i64 (lo + hi * 256)] 3)).cell? ⟨nb, 3, none⟩ = some (.slice v3a v3l v3c) := ((RD.out.nv.tch HT1.out (fun e => RD.out.gn e.symm)).below (below_alloc _ _)).c3
        have HON : Hid (OwV B 3 (w1.alloc (.cells #[.int .i64 (lo + hi * 256)] 3)) (.slice v3a v3l v3c) (nums (p8).n.kd)) := (RD.out.d.tch HT1.out (fun x hx e => by have := RD.out.d.ge x hx; have := RD.out.gB; omega)).below (below_alloc _ _)
        have HBN : Hid (B ≤ (w1.alloc (.cells #[.int .i64 (lo + hi * 256)] 3)).heap.size) := Nat.le_trans RD.out.wB (Nat.le_trans HT1.out.size (below_alloc w1 _).size)
        have m1 : IntKind.i64.wrap (hi * 256) = hi * 256 := by rw [IntKind.wrap_i64]; omega
        have m2 : IntKind.i64.wrap (lo + hi * 256) = lo + hi * 256 := by rw [IntKind.wrap_i64]; omega
        refine hK _ _ (fun _ => hS1) ?_
        clear ho hd hg hK hx1 ht1
        simp only [Act.put, List.setIfInBounds_toArray, List.set_cons_zero, List.set_cons_succ]
        refine readyW 4 (some 34) (.binOp .shl 3 (.tmp 33) (.const (.int .u64 8)) 77) rfl (by kernel_rfl) ?_
        rintro o K hd ho hg hK
        refine stepY (v := Value.int .i64 (hi * 256)) ?hy ?_
        case hy => go_simp
        rw [hd]
        refine hK _ _ (fun _ => hS1) ?_
        clear ho hd hg hK
        simp only [Act.put, List.setIfInBounds_toArray, List.set_cons_zero, List.set_cons_succ]
        refine readyW 5 (some 35) (.binOp .add 3 (.tmp 32) (.tmp 34) 3) rfl (by kernel_rfl) ?_
        rintro o K hd ho hg hK
        refine stepY (v := Value.int .i64 (lo + hi * 256)) ?hy ?_
        case hy => go_simp
        rw [hd]
        refine hK _ _ (fun _ => hS1) ?_
        clear ho hd hg hK
        simp only [Act.put, List.setIfInBounds_toArray, List.set_cons_zero, List.set_cons_succ]
        refine readyW 6 (some 36) (.buildSlice 23 1 #[(0, .tmp 35)]) rfl (by kernel_rfl) ?_
        rintro o K hd ho hg hK
        refine wp_buildV _ _ _ _ elemI (.tmp 35) ho (.int .i64 (lo + hi * 256)) rfl rfl ?_
        rw [hd]
        refine hK _ _ (fun _ => hSb) ?_
        clear ho hd hg hK
        simp only [Act.put, List.setIfInBounds_toArray, List.set_cons_zero, List.set_cons_succ]
        refine readyW 7 (some 37) (.call { callee := .builtin .append, args := #[.tmp 31, .tmp 36], argTypes := #[23, 23] }) rfl (by kernel_rfl) ?_
        rintro o K hd ho hg hK
        refine wp_moreV _ _ _ _ elemI (w := w1.alloc (.cells #[.int .i64 (lo + hi * 256)] 3)) (.tmp 31) (.tmp 36) ho B _ (nums (p8).n.kd) rfl HON.out w1.heap.size (.int .i64 (lo + hi * 256)) rfl rfl (one_new _ _ _) HLX.out.1 HLX.out.2 HBN.out ?_
        intro v6 w6' o6 g6 f6
        obtain ⟨na', nc', e6⟩ := o6.long
        obtain ⟨nl', hnl⟩ : ∃ l, Hid ((nums (p8).n.kd ++ [Value.int .i64 (lo + hi * 256)]).length = l) := ⟨_, rfl⟩
        rw [hnl.out] at e6
        subst e6
        obtain ⟨⟨q6, r6⟩, rs7, b7⟩ := after_kid RD.out HT1.out HX1.out (below_alloc _ _) g6 o6 f6
        rw [hd]
        refine hK _ _ (fun _ => q6) ?_
        clear ho hd hg hK o6 g6 f6
        simp only [Act.put, List.setIfInBounds_toArray, List.set_cons_zero, List.set_cons_succ]
        refine readyW 8 (some 38) (.fieldAddr 26 (.tmp 7) 3) rfl (by kernel_rfl) ?_
        rintro o K hd ho hg hK
        refine stepY (v := Value.pointer (some ⟨nb, 3, none⟩)) ?hy ?_
        case hy => go_simp
        rw [hd]
        refine hK _ _ (fun _ => q6) ?_
        clear ho hd hg hK
        simp only [Act.put, List.setIfInBounds_toArray, List.set_cons_zero, List.set_cons_succ]
        refine readyW 9 none (.store 23 (.tmp 38) (.tmp 37)) rfl (by kernel_rfl) ?_
        rintro o K hd ho hg hK
        refine wp_storeI ho rfl rfl q6 r6 ?_
        rw [hd]
        refine hK _ _ (fun e => absurd rfl e) ?_
        refine doneW (by kernel_rfl) ?_ _
        clear ho hd hg hK hnl
        simp only [Act.put]
        have RC := hideN rs7
        have BRC := hideN b7
        clear rs7 b7 q6 r6 hS hS1 hSb HTC HTX HLX HT1 HX1 HON HBN m1 m2
        obtain ⟨c7, hc7⟩ : ∃ W, Hid (w6'.setCell ⟨nb, 3, none⟩ (.slice na' nl' nc') = W) := ⟨_, rfl⟩
        rw [hc7.out] at RC BRC
        rw [hc7.out]
        have BE : Hid (Below n0 W1 c7) := BD.out.trans BRC.out
        have RE : Hid (Rs B n0 c7 g nb (.slice na nl nc) v2 (.slice na' nl' nc') (pzN false t1 (k + 1))) := by
          rw [HSTEP.out]
          unfold pzStep
          rw [if_neg (by rw [HLF.out]; decide), hsx.out, htx.out]
          have h5 : p5.t = tx ∧ p5.n = { pk.n with ks := pk.n.ks ++ [sx] } := by rw [← hp5.out]; exact ⟨rfl, rfl⟩
          have h8 : p8.t = t8 ∧ p8.n = p5.n := by rw [← hp8.out]; exact ⟨rfl, rfl⟩
          rw [h5.1] at hlo ht8'
          rw [h8.1] at hhi htx'
          rw [hlo.out, ht8'.out, hhi.out, htx'.out]
          have := RC.out
          rw [h8.2, h5.2] at this
          exact this
        clear RC BRC hc7 RD BD
        go_wp2_with fail
        go_roundw
        case rel => exact ⟨k + 1, _, _, _, by omega, by go_num, RE, BE⟩
        case measure => simp [intOf]; omega
    · have hkc : k = c := by omega
      rw [hkc, ← HP.out] at RA
      obtain ⟨lv, hsz⟩ := RA.out.src
      have hlf9 : p9.n.lf = lf := by rw [HP.out]; exact pzN_lf lf t1 c
      have hnv := RA.out.nv
      rw [hlf9] at hnv
      have NV9 := hideN hnv
      obtain ⟨lva, lvc, elv, _⟩ := hsz.rs.rd
      have SZ9 := hideN hsz
      obtain ⟨rest, sh⟩ : ∃ t, Hid (p9.t = t) := ⟨_, rfl⟩
      obtain ⟨rx, sb⟩ := rest
      rw [sh.out] at elv SZ9
      simp only at elv
      obtain ⟨R, hR⟩ : ∃ l, Hid (rx.length = l) := ⟨_, rfl⟩
      rw [hR.out] at elv
      subst elv
      have HOK : Hid (ok = (!sb && decide (R = 0))) := by show _ = _; rw [← hok.out]; unfold rdOk; rw [sh.out, ← hR.out]
      have X9 := hideN (X1.out.below (BA.out.mono (by rw [HN1.out]; exact Nat.le_refl _)))
      obtain ⟨v1a, v1l, v1c, e1⟩ : ∃ a l c, v1 = .slice a l c := by obtain ⟨a, c, e⟩ := RA.out.k.long; exact ⟨a, _, c, e⟩
      obtain ⟨v2a, v2l, v2c, e2⟩ : ∃ a l c, v2 = .slice a l c := by obtain ⟨a, c, e⟩ := RA.out.v.long; exact ⟨a, _, c, e⟩
      obtain ⟨v3a, v3l, v3c, e3⟩ : ∃ a l c, v3 = .slice a l c := by obtain ⟨a, c, e⟩ := RA.out.d.long; exact ⟨a, _, c, e⟩
      subst e1 e2 e3
      obtain ⟨WA, hWA⟩ : ∃ WA, Hid (((((cw.setCell ⟨w.heap.size, 0, none⟩ (.bool lf)).setCell ⟨w.heap.size, 1, none⟩ (.slice v1a v1l v1c)).setCell ⟨w.heap.size, 2, none⟩ (.slice v2a v2l v2c)).setCell ⟨w.heap.size, 3, none⟩ (.slice v3a v3l v3c)).drew = WA) := ⟨_, rfl⟩
      have hgw : ¬ w.heap.size = g := by rw [← hg.out]; have := HN0.out; omega
      have hgw2 : ¬ g = w.heap.size := by rw [← hg.out]; have := HN0.out; omega
      have hnw : ¬ nb = w.heap.size := by have := HN0.out; have := RA.out.n0; omega
      have hnw2 : ¬ w.heap.size = nb := by have := HN0.out; have := RA.out.n0; omega
      have YA : Hid (Nb WA 26 w.heap.size lf (.slice v1a v1l v1c) (.slice v2a v2l v2c) (.slice v3a v3l v3c)) := by rw [← hWA.out]; exact (X9.out.all _ _ _ _).below (Below.refl _ _).drew
      have tA : Tch (fun j => j = w.heap.size) cw WA := by rw [← hWA.out]; exact (tch_all cw _ _ _ _ _).drew
      have NA : Hid (Nn WA p9.n (.slice v1a v1l v1c) (.slice v2a v2l v2c) (.slice v3a v3l v3c)) := ⟨RA.out.k.rd.tch tA (fun j hj e => by have := RA.out.k.ge j hj; have := HN0.out; have := RA.out.n0; have := RA.out.nB; omega), RA.out.v.rd.tch tA (fun j hj e => by have := RA.out.v.ge j hj; have := HN0.out; have := RA.out.n0; have := RA.out.nB; omega), RA.out.d.rd.tch tA (fun j hj e => by have := RA.out.d.ge j hj; have := HN0.out; have := RA.out.n0; have := RA.out.nB; omega)⟩
      have FA : Hid (Fr3 w.heap.size (.slice v1a v1l v1c) (.slice v2a v2l v2c) (.slice v3a v3l v3c)) := fun j hj => by
        have h1 := HN0.out
        have h2 := RA.out.n0
        have h3 := RA.out.nB
        rcases hj with e | e | e
        · have := RA.out.k.ge j e; omega
        · have := RA.out.v.ge j e; omega
        · have := RA.out.d.ge j e; omega
      have bA : Below w.heap.size w cw := B1.out.trans (BA.out.mono (Nat.le_of_lt HN0.out))
      have BF : Hid (Below w.heap.size w WA) := bA.trans (tA.below bA.size (fun j e => by omega))
      have y0 := NV9.out.c0
      have y1 := NV9.out.c1
      have y2 := NV9.out.c2
      have y3 := NV9.out.c3
      have u0 := SZ9.out.c0
      have u1 := SZ9.out.c1
      have x0 := X9.out.c0
      have x1 := X9.out.c1
      have x2 := X9.out.c2
      have x3 := X9.out.c3
      have f0 := X9.out.fz 0
      have f1 := X9.out.fz 1
      have f2 := X9.out.fz 2
      have f3 := X9.out.fz 3
      simp only at u1
      clear hsz hnv hlf9 tA bA RA BA
      cases sb with
      | true =>
        obtain rfl : ok = false := HOK.out
        clear HOK
        go_wp2_with fail
        go_region
        go_wp2_with fail
        rw [hWA.out]
        refine bodyPost_ret (v := .tuple #[nod lf (.slice v1a v1l v1c) (.slice v2a v2l v2c) (.slice v3a v3l v3c), .bool false]) (results_twoN (p := 4) (ty := 26) rfl _ _ _ w.heap.size _ _ rfl YA.out.load rfl) rfl ?_
        exact ⟨⟨_, _, _, rfl, NA.out, FA.out⟩, BF.out⟩
      | false =>
        by_cases hR0 : R = 0
        · have e0 : ((R : Int) == 0) = true := by rw [beq_iff_eq]; omega
          obtain rfl : ok = true := by rw [HOK.out]; simp [hR0]
          clear HOK hR0
          go_wp2_with fail
          go_region
          go_wp2_with fail
          rw [hWA.out]
          refine bodyPost_ret (v := .tuple #[nod lf (.slice v1a v1l v1c) (.slice v2a v2l v2c) (.slice v3a v3l v3c), .bool true]) (results_twoN (p := 4) (ty := 26) rfl _ _ _ w.heap.size _ _ rfl YA.out.load rfl) rfl ?_
          exact ⟨⟨_, _, _, rfl, NA.out, FA.out⟩, BF.out⟩
        · have e0 : ((R : Int) == 0) = false := by rw [beq_eq_false_iff_ne]; omega
          obtain rfl : ok = false := by rw [HOK.out]; simp [hR0]
          clear HOK hR0
          go_wp2_with fail
          go_region
          go_wp2_with fail
          rw [hWA.out]
          refine bodyPost_ret (v := .tuple #[nod lf (.slice v1a v1l v1c) (.slice v2a v2l v2c) (.slice v3a v3l v3c), .bool false]) (results_twoN (p := 4) (ty := 26) rfl _ _ _ w.heap.size _ _ rfl YA.out.load rfl) rfl ?_
          exact ⟨⟨_, _, _, rfl, NA.out, FA.out⟩, BF.out⟩
end Go.Proofs.Ytbpaeecclikeiaa
