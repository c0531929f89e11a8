/-
  The document's Put.
-/
import Derived.Test.YtbpaeecclikeiaaNRMay
import Derived.Test.YtbpaeecclikeiaaNReal
import Derived.Test.YtbpaeecclikeiaaNReg
namespace Go.Proofs.Ytbpaeecclikeiaa
open Go.RowKit Pl
set_option linter.unusedVariables false
set_option linter.unusedSimpArgs false
set_option maxRecDepth 100000

set_option maxHeartbeats 1000000 in
theorem refPut_bad (n : Nd) (u1 u2 u3 : Value) (w : World) (h : Nn w n u1 u2 u3) (hs : Sm n) (hm : mayN n = false) :
    Calls Try.prog 15 #[nod n.lf u1 u2 u3] w fun e w' => e = .returned (.tuple #[blN 0 (.slice none 0 0), .int .i64 1]) ∧ Below w.heap.size w w' := by
  obtain ⟨a1, c1, a2, c2, a3, c3, rfl, rfl, rfl, ⟨l1, l2, l3, l4, l5, l6⟩, _, _, _⟩ := h.out
  have H := hideN h
  have HS := hideN hs
  obtain ⟨L1, hL1⟩ : ∃ L, Hid (n.ks.length = L) := ⟨_, rfl⟩
  obtain ⟨L2, hL2⟩ : ∃ L, Hid (n.vs.length = L) := ⟨_, rfl⟩
  obtain ⟨L3, hL3⟩ : ∃ L, Hid (n.kd.length = L) := ⟨_, rfl⟩
  rw [hL1.out] at H l1 ⊢
  rw [hL2.out] at H l3 ⊢
  rw [hL3.out] at H l5 ⊢
  obtain ⟨lf, hlf⟩ : ∃ lf, Hid (n.lf = lf) := ⟨_, rfl⟩
  rw [hlf.out]
  unfold nod
  obtain ⟨W1, hW1⟩ : ∃ W1, w.alloc (.cells #[.bool lf, .slice a1 L1 c1, .slice a2 L2 c2, .slice a3 L3 c3] 25) = W1 := ⟨_, rfl⟩
  have B1 : Hid (Below w.heap.size w W1) := by rw [← hW1]; exact below_alloc _ _
  have V1 : Hid (Nb W1 25 w.heap.size lf (.slice a1 L1 c1) (.slice a2 L2 c2) (.slice a3 L3 c3)) := by rw [← hW1]; exact nb_new _ _ _ _ _ _
  have H1 : Hid (Nn W1 n (.slice a1 L1 c1) (.slice a2 L2 c2) (.slice a3 L3 c3)) := H.out.below B1.out
  obtain ⟨W2, hW2⟩ : ∃ W2, W1.alloc (.cells #[.int .i64 0, .slice none 0 0] 34) = W2 := ⟨_, rfl⟩
  have b2 : Below W1.heap.size W1 W2 := by rw [← hW2]; exact below_alloc _ _
  have V2 : Hid (Nb W2 25 w.heap.size lf (.slice a1 L1 c1) (.slice a2 L2 c2) (.slice a3 L3 c3)) := V1.out.below b2
  have K2 : Hid (Kb W2 W1.heap.size 0 (.slice none 0 0)) := by rw [← hW2]; exact kb_new _ _ _
  have B2 : Hid (Below w.heap.size w W2) := B1.out.trans (b2.mono B1.out.size)
  have H2 : Hid (Nn W2 n (.slice a1 L1 c1) (.slice a2 L2 c2) (.slice a3 L3 c3)) := H1.out.below b2
  have HW1 : Hid (w.heap.size < W1.heap.size) := V1.out.lt
  have HM1 : Hid (∀ W, Below W2.heap.size W2 W → Calls Try.prog 10 #[.agg #[.bool lf, .slice a1 L1 c1, .slice a2 L2 c2, .slice a3 L3 c3]] W fun e w' => e = .returned (.bool false) ∧ Below W.heap.size W w') := fun W hb => by
    have := refMay_any n _ _ _ W (H2.out.below hb) HS.out
    rw [hlf.out, hm] at this
    exact this
  have p0 := V2.out.c0
  have p1 := V2.out.c1
  have p2 := V2.out.c2
  have p3 := V2.out.c3
  clear h hs H hm b2
  go_enter Try.func15, Try.ntmps15
  go_wp2_with fail
  refine (HM1.out W2 (Below.refl _ _)).mono ?_
  rintro e w4 ⟨rfl, B4⟩
  have K4 : Kb w4 W1.heap.size 0 (.slice none 0 0) := K2.out.below B4
  obtain ⟨W5, hW5⟩ : ∃ W5, Hid ((w4.setCell ⟨W1.heap.size, 0, none⟩ (.int .i64 0)).setCell ⟨W1.heap.size, 1, none⟩ (.slice none 0 0) = W5) := ⟨_, rfl⟩
  have K5 : Hid (Kb W5 W1.heap.size 0 (.slice none 0 0)) := by rw [← hW5.out]; exact K4.put _ _
  have t5 : Tch (fun j => j = W1.heap.size) w4 W5 := by rw [← hW5.out]; exact tch_two _ _ _ _
  have B4' : Below w.heap.size w w4 := B2.out.trans (B4.mono B2.out.size)
  have B5 : Hid (Below w.heap.size w W5) := B4'.trans (t5.below B4'.size (fun j e => by have := HW1.out; omega))
  have s0 := K4.c0
  have s1 := K4.c1
  have g0 := K4.fz 0
  have g1 := K4.fz 1
  clear B4 K4 t5 B4' p0 p1 p2 p3 HM1 hW1 hW2
  go_wp2_with fail
  rw [hW5.out]
  refine bodyPost_ret (v := .tuple #[blN 0 (.slice none 0 0), .int .i64 1]) (results_twoN (p := 2) (ty := 34) rfl _ _ _ W1.heap.size _ _ rfl K5.out.load rfl) rfl ?_
  exact ⟨rfl, B5.out⟩

set_option maxHeartbeats 4000000 in
theorem refPut_ok (n : Nd) (u1 u2 u3 : Value) (w : World) (h : Nn w n u1 u2 u3) (hs : Sm n) (hm : mayN n = true) :
    Calls Try.prog 15 #[nod n.lf u1 u2 u3] w fun e w' => (∃ v, e = .returned (.tuple #[blN (kdN n.lf) v, .int .i64 0]) ∧ Rd .u8 w' v (encN n n.ks.length)) ∧ Below w.heap.size w w' := by
  obtain ⟨a1, c1, a2, c2, a3, c3, rfl, rfl, rfl, ⟨l1, l2, l3, l4, l5, l6⟩, _, _, _⟩ := h.out
  have H := hideN h
  have HS := hideN hs
  obtain ⟨L1, hL1⟩ : ∃ L, Hid (n.ks.length = L) := ⟨_, rfl⟩
  obtain ⟨L2, hL2⟩ : ∃ L, Hid (n.vs.length = L) := ⟨_, rfl⟩
  obtain ⟨L3, hL3⟩ : ∃ L, Hid (n.kd.length = L) := ⟨_, rfl⟩
  rw [hL1.out] at H l1 ⊢
  rw [hL2.out] at H l3 ⊢
  rw [hL3.out] at H l5 ⊢
  obtain ⟨lf, hlf⟩ : ∃ lf, Hid (n.lf = lf) := ⟨_, rfl⟩
  rw [hlf.out]
  unfold nod
  obtain ⟨W1, hW1⟩ : ∃ W1, w.alloc (.cells #[.bool lf, .slice a1 L1 c1, .slice a2 L2 c2, .slice a3 L3 c3] 25) = W1 := ⟨_, rfl⟩
  have B1 : Hid (Below w.heap.size w W1) := by rw [← hW1]; exact below_alloc _ _
  have V1 : Hid (Nb W1 25 w.heap.size lf (.slice a1 L1 c1) (.slice a2 L2 c2) (.slice a3 L3 c3)) := by rw [← hW1]; exact nb_new _ _ _ _ _ _
  have H1 : Hid (Nn W1 n (.slice a1 L1 c1) (.slice a2 L2 c2) (.slice a3 L3 c3)) := H.out.below B1.out
  obtain ⟨W2, hW2⟩ : ∃ W2, W1.alloc (.cells #[.int .i64 0, .slice none 0 0] 34) = W2 := ⟨_, rfl⟩
  have b2 : Below W1.heap.size W1 W2 := by rw [← hW2]; exact below_alloc _ _
  have V2 : Hid (Nb W2 25 w.heap.size lf (.slice a1 L1 c1) (.slice a2 L2 c2) (.slice a3 L3 c3)) := V1.out.below b2
  have K2 : Hid (Kb W2 W1.heap.size 0 (.slice none 0 0)) := by rw [← hW2]; exact kb_new _ _ _
  have B2 : Hid (Below w.heap.size w W2) := B1.out.trans (b2.mono B1.out.size)
  have H2 : Hid (Nn W2 n (.slice a1 L1 c1) (.slice a2 L2 c2) (.slice a3 L3 c3)) := H1.out.below b2
  have HW1 : Hid (w.heap.size < W1.heap.size) := V1.out.lt
  have HM1 : Hid (∀ W, Below W2.heap.size W2 W → Calls Try.prog 10 #[.agg #[.bool lf, .slice a1 L1 c1, .slice a2 L2 c2, .slice a3 L3 c3]] W fun e w' => e = .returned (.bool true) ∧ Below W.heap.size W w') := fun W hb => by
    have := refMay_any n _ _ _ W (H2.out.below hb) HS.out
    rw [hlf.out, hm] at this
    exact this
  have p0 := V2.out.c0
  have p1 := V2.out.c1
  have p2 := V2.out.c2
  have p3 := V2.out.c3
  have HR : Hid (Rl n) := may_real (mayN_iff.1 hm) (by have := HS.out.kl; omega)
  have hl1 : L1 ≤ 239 := by have := HR.out.len.2; rw [hL1.out] at this; exact this
  have HE0 : Hid (encN n 0 = [(L1 : Int)]) := by show _ = _; unfold encN; rw [hL1.out]
  obtain ⟨T, hT⟩ : ∃ T, Hid (encN n L1 = T) := ⟨_, rfl⟩
  rw [hT.out]
  have HW2 : Hid (w.heap.size < W2.heap.size) := V2.out.lt
  have HZ2 : Hid (W1.heap.size < W2.heap.size) := K2.out.lt
  have HK : Hid (kdN lf = kdN lf) := rfl
  clear h hs H hm b2
  go_enter Try.func15, Try.ntmps15
  go_wp2_with fail
  refine (HM1.out W2 (Below.refl _ _)).mono ?_
  rintro e w3 ⟨rfl, b3⟩
  have V3 : Hid (Nb w3 25 w.heap.size lf (.slice a1 L1 c1) (.slice a2 L2 c2) (.slice a3 L3 c3)) := V2.out.below b3
  have B3 := hideN b3
  clear b3 p0 p1 p2 p3 hW1 hW2 HM1
  have p1 := V3.out.c1
  obtain ⟨W4, hW4⟩ : ∃ W4, w3.alloc (.cells #[.int .u8 (L1 : Int)] 5) = W4 := ⟨_, rfl⟩
  have b4 : Below w3.heap.size w3 W4 := by rw [← hW4]; exact below_alloc _ _
  have O4 : Hid (OwB W2.heap.size W4 (.slice (some ⟨w3.heap.size, 0, none⟩) 1 1) [(L1 : Int)]) := by
    rw [← hW4]
    exact ⟨by simp, .inr ⟨w3.heap.size, 1, #[.int .u8 (L1 : Int)], rfl, B3.out.size, heap_alloc_new w3 _, Nat.le_refl _, by unfold maxLen; decide, rfl, rfl⟩⟩
  have q0 : (W4.alloc (.cells #[.int .i64 2, .slice (some ⟨w3.heap.size, 0, none⟩) 1 1] 34)).cell? ⟨w.heap.size, 0, none⟩ = some (.bool lf) := ((V3.out.below b4).below (below_alloc _ _)).c0
  have B4 : Hid (Below W2.heap.size W2 W4) := B3.out.trans (b4.mono B3.out.size)
  have HQ4 : Hid (W2.heap.size ≤ W4.heap.size) := B4.out.size
  clear b4
  obtain ⟨q, hq⟩ : ∃ q, Hid (W4.heap.size = q) := ⟨_, rfl⟩
  have HB2 := B2
  have HLOOP : Hid (∀ (wr : World) (v0 : Value), True) := fun _ _ => trivial
  cases lf with
  | true =>
    obtain ⟨W6, hW6⟩ : ∃ W6, Hid (W4.alloc (.cells #[.int .i64 1, .slice (some ⟨w3.heap.size, 0, none⟩) 1 1] 34) = W6) := ⟨_, rfl⟩
    have K6 : Hid (Kb W6 W4.heap.size 1 (.slice (some ⟨w3.heap.size, 0, none⟩) 1 1)) := by rw [← hW6.out]; exact kb_new _ _ _
    have b6 : Below W4.heap.size W4 W6 := by rw [← hW6.out]; exact below_alloc _ _
    have O6 : Hid (OwB W2.heap.size W6 (.slice (some ⟨w3.heap.size, 0, none⟩) 1 1) (encN n 0)) := by rw [HE0.out]; exact O4.out.below b6
    have B6 : Hid (Below W2.heap.size W2 W6) := B4.out.trans (b6.mono B4.out.size)
    clear b6
    go_wp2_with (refine wpList_store_newD _ rfl 34 (.tmp 5) (.tmp 17) rfl _ #[.int .i64 2, .slice (some ⟨w3.heap.size, 0, none⟩) 1 1] ?h1 ?h2 inf_blN rfl rfl ?_; (case h1 => rfl); (case h2 => rfl); skip)
    rw [hW6.out]
    rw [hq.out]
    rw [hq.out] at K6
    have HQB : Hid (W2.heap.size ≤ q) := by rw [← hq.out]; exact HQ4.out
    clear p1 q0 hW4 hW6 HQ4 hq O4 B4 V3
    go_loopw [6] (fun i wr => ∃ (k : Nat) (v0 : Value), k ≤ L1 ∧ i = .int .i64 k ∧ Hid (Kb wr q 1 v0) ∧ Hid (OwB W2.heap.size wr v0 (encN n k)) ∧ Hid (Below W2.heap.size W2 wr)) (fun i _ => L1 - (intOf i).toNat)
    case atStart => exact ⟨0, _, Nat.zero_le _, rfl, K6, O6, B6⟩
    case round =>
      clear K6 O6 B6 HE0
      obtain ⟨k, v0, hk, rfl, KQ0, OV0, BC0⟩ := hrel
      obtain ⟨cw0, rfl⟩ : ∃ cw, cw = wr := ⟨_, rfl⟩
      by_cases hlt : k < L1
      · have HKL : Hid (k < n.ks.length) := by rw [hL1.out]; exact hlt
        obtain ⟨b, oa, rfl, ck⟩ := H2.out.key (i := k) HKL.out
        have CK := hideN ck
        have HBL : Hid (b < W2.heap.size) := World.block_lt_of_cell? W2 ⟨b, oa + k, none⟩ ck
        have HIT : Hid (encN n (k + 1) = encN n k ++ itm n k) := rfl
        have hks := HR.out.ks k HKL.out
        have HDF : Hid (itm n k = ((kA n k).size : Int) :: (bts (kA n k) ++ (if n.lf = true then ((vA n k).size : Int) :: bts (vA n k) else [dA n k % 256, dA n k / 256]))) := rfl
        obtain ⟨key, hkey⟩ : ∃ s, Hid (kA n k = s) := ⟨_, rfl⟩
        rw [hkey.out] at CK hks HDF
        have HTX : Hid (key.size ≤ 24) := hks
        have hel := enc_le HR.out (k := k) (by rw [hL1.out]; omega)
        obtain ⟨X0, hX0⟩ : ∃ X, Hid (encN n k = X) := ⟨_, rfl⟩
        rw [hX0.out] at OV0 hel HIT
        have HXL0 : Hid (X0.length ≤ 1000) := by show _ ≤ _; omega
        have p1 := (V2.out.below BC0.out).c1
        obtain ⟨va0, vl0, vc0, hv0⟩ : ∃ a l c, v0 = .slice a l c := by obtain ⟨a, c, e⟩ := OV0.out.long; exact ⟨a, _, c, e⟩
        subst hv0
        clear hks hel ck
        have VB : Hid (Nb cw0 25 w.heap.size true (.slice (some ⟨b, oa, none⟩) L1 c1) (.slice a2 L2 c2) (.slice a3 L3 c3)) := V2.out.below BC0.out
        have HBW : Hid (W2.heap.size ≤ cw0.heap.size) := BC0.out.size
        have HSK : Hid (∀ w', Below W2.heap.size cw0 w' → Kb w' q 1 (.slice va0 vl0 vc0) → w'.cell? ⟨q, 1, none⟩ = some (.slice va0 vl0 vc0) ∧ w'.cell? ⟨w.heap.size, 1, none⟩ = some (.slice (some ⟨b, oa, none⟩) L1 c1) ∧ w'.cell? ⟨b, oa + k, none⟩ = some (.string key)) := fun w' hb hk =>
          ⟨hk.c1, by rw [hb.cell (p := ⟨w.heap.size, 1, none⟩) HW2.out]; exact VB.out.c1, by rw [hb.cell (p := ⟨b, oa + k, none⟩) HBL.out, BC0.out.cell (p := ⟨b, oa + k, none⟩) HBL.out]; exact CK.out⟩
        have hS : cw0.drew.cell? ⟨q, 1, none⟩ = some (.slice va0 vl0 vc0) ∧ cw0.drew.cell? ⟨w.heap.size, 1, none⟩ = some (.slice (some ⟨b, oa, none⟩) L1 c1) ∧ cw0.drew.cell? ⟨b, oa + k, none⟩ = some (.string key) := HSK.out cw0 (Below.refl _ _) KQ0.out
        have HCW : Hid (Below cw0.heap.size cw0 (cw0.drew.alloc (.cells #[.int .u8 (key.size : Int)] 5))) := (Below.refl _ _).drew.alloc (Nat.le_refl _) _
        have HON : Hid (OwB W2.heap.size (cw0.drew.alloc (.cells #[.int .u8 (key.size : Int)] 5)) (.slice va0 vl0 vc0) X0) := OV0.out.below HCW.out
        have HBN : Hid (W2.heap.size ≤ (cw0.drew.alloc (.cells #[.int .u8 (key.size : Int)] 5)).heap.size) := Nat.le_trans HBW.out HCW.out.size
        have HLN : Hid (X0.length + [(key.size : Int)].length ≤ 100000) := by show _ ≤ _; have := HXL0.out; have := HTX.out; simp; omega
        have hsz : (key.size : Int) ≤ 24 := by have := HTX.out; omega
        have hsz0 : (0 : Int) ≤ (key.size : Int) := by omega
        have hu8 : IntKind.u8.wrap (key.size : Int) = (key.size : Int) := by rw [u8_low]; omega
        have hSb : (cw0.drew.alloc (.cells #[.int .u8 (key.size : Int)] 5)).cell? ⟨q, 1, none⟩ = some (.slice va0 vl0 vc0) ∧ (cw0.drew.alloc (.cells #[.int .u8 (key.size : Int)] 5)).cell? ⟨w.heap.size, 1, none⟩ = some (.slice (some ⟨b, oa, none⟩) L1 c1) ∧ (cw0.drew.alloc (.cells #[.int .u8 (key.size : Int)] 5)).cell? ⟨b, oa + k, none⟩ = some (.string key) := HSK.out _ (HCW.out.mono HBW.out) (KQ0.out.below HCW.out)
        have HCN : Hid (∀ j u, (List.map (Value.int .u8) [(key.size : Int)])[j]? = some u → (cw0.drew.alloc (.cells #[.int .u8 (key.size : Int)] 5)).cell? ⟨cw0.heap.size, j, none⟩ = some u) := cells_new cw0.drew [(key.size : Int)]
        go_wp2_with fail
        refine beginW (S := fun w' => w'.cell? ⟨q, 1, none⟩ = some (.slice va0 vl0 vc0) ∧ w'.cell? ⟨w.heap.size, 1, none⟩ = some (.slice (some ⟨b, oa, none⟩) L1 c1) ∧ w'.cell? ⟨b, oa + k, none⟩ = some (.string key)) (t := 12) (by kernel_rfl) ?_
        refine takeW 0 (some 28) (.fieldAddr 34 (.tmp 5) 1) (Value.pointer (some ⟨q, 1, none⟩)) rfl rfl (by kernel_rfl) (by kernel_rfl) (by kernel_rfl) (by kernel_rfl) (fun _ _ _ h => h) ?hy hS ?_
        case hy =>
          rintro o ho w' ⟨hS1, hS2, hS3⟩
          go_simp
        simp only [Act.put, List.setIfInBounds_toArray, List.set_cons_zero, List.set_cons_succ]
        refine takeW 1 (some 29) (.load 32 (.tmp 28)) (Value.slice va0 vl0 vc0) rfl rfl (by kernel_rfl) (by kernel_rfl) (by kernel_rfl) (by kernel_rfl) (fun _ _ _ h => h) ?hy hS ?_
        case hy =>
          rintro o ho w' ⟨hS1, hS2, hS3⟩
          go_simp
        simp only [Act.put, List.setIfInBounds_toArray, List.set_cons_zero, List.set_cons_succ]
        refine takeW 2 (some 30) (.fieldAddr 25 (.tmp 1) 1) (Value.pointer (some ⟨w.heap.size, 1, none⟩)) rfl rfl (by kernel_rfl) (by kernel_rfl) (by kernel_rfl) (by kernel_rfl) (fun _ _ _ h => h) ?hy hS ?_
        case hy =>
          rintro o ho w' ⟨hS1, hS2, hS3⟩
          go_simp
        simp only [Act.put, List.setIfInBounds_toArray, List.set_cons_zero, List.set_cons_succ]
        refine takeW 3 (some 31) (.load 22 (.tmp 30)) (Value.slice (some ⟨b, oa, none⟩) L1 c1) rfl rfl (by kernel_rfl) (by kernel_rfl) (by kernel_rfl) (by kernel_rfl) (fun _ _ _ h => h) ?hy hS ?_
        case hy =>
          rintro o ho w' ⟨hS1, hS2, hS3⟩
          go_simp
        simp only [Act.put, List.setIfInBounds_toArray, List.set_cons_zero, List.set_cons_succ]
        refine takeW 4 (some 32) (.move (.tmp 6)) (Value.int .i64 (k : Int)) rfl rfl (by kernel_rfl) (by kernel_rfl) (by kernel_rfl) (by kernel_rfl) (fun _ _ _ h => h) ?hy hS ?_
        case hy =>
          rintro o ho w' ⟨hS1, hS2, hS3⟩
          go_simp
        simp only [Act.put, List.setIfInBounds_toArray, List.set_cons_zero, List.set_cons_succ]
        refine takeW 5 (some 33) (.indexAddr 22 (.tmp 31) (.tmp 32)) (Value.pointer (some ⟨b, oa + k, none⟩)) rfl rfl (by kernel_rfl) (by kernel_rfl) (by kernel_rfl) (by kernel_rfl) (fun _ _ _ h => h) ?hy hS ?_
        case hy =>
          rintro o ho w' ⟨hS1, hS2, hS3⟩
          go_simp
        simp only [Act.put, List.setIfInBounds_toArray, List.set_cons_zero, List.set_cons_succ]
        refine takeW 6 (some 34) (.load 9 (.tmp 33)) (Value.string key) rfl rfl (by kernel_rfl) (by kernel_rfl) (by kernel_rfl) (by kernel_rfl) (fun _ _ _ h => h) ?hy hS ?_
        case hy =>
          rintro o ho w' ⟨hS1, hS2, hS3⟩
          go_simp
        simp only [Act.put, List.setIfInBounds_toArray, List.set_cons_zero, List.set_cons_succ]
        refine takeW 7 (some 35) (.call { callee := .builtin .len, args := #[.tmp 34], argTypes := #[9] }) (Value.int .i64 (key.size : Int)) rfl rfl (by kernel_rfl) (by kernel_rfl) (by kernel_rfl) (by kernel_rfl) (fun _ _ _ h => h) ?hy hS ?_
        case hy =>
          rintro o ho w' ⟨hS1, hS2, hS3⟩
          go_simp
        simp only [Act.put, List.setIfInBounds_toArray, List.set_cons_zero, List.set_cons_succ]
        refine takeW 8 (some 36) (.convert 3 5 (.tmp 35)) (Value.int .u8 (key.size : Int)) rfl rfl (by kernel_rfl) (by kernel_rfl) (by kernel_rfl) (by kernel_rfl) (fun _ _ _ h => h) ?hy hS ?_
        case hy =>
          rintro o ho w' ⟨hS1, hS2, hS3⟩
          go_simp
        simp only [Act.put, List.setIfInBounds_toArray, List.set_cons_zero, List.set_cons_succ]
        refine readyW 9 (some 37) (.buildSlice 32 1 #[(0, .tmp 36)]) rfl (by kernel_rfl) ?_
        rintro o K hd ho hg hK
        refine wp_buildV _ _ _ _ elemB (.tmp 36) ho (.int .u8 (key.size : Int)) rfl rfl ?_
        rw [hd]
        refine hK _ _ (fun _ => hSb) ?_
        clear ho hd hg hK
        simp only [Act.put, List.setIfInBounds_toArray, List.set_cons_zero, List.set_cons_succ]
        refine readyW 10 (some 38) (.call { callee := .builtin .append, args := #[.tmp 29, .tmp 37], argTypes := #[32, 32] }) rfl (by kernel_rfl) ?_
        rintro o K hd ho hg hK
        refine wp_moreB (w := (cw0.drew.alloc (.cells #[.int .u8 (key.size : Int)] 5))) (.tmp 29) (.tmp 37) ho W2.heap.size _ X0 rfl HON.out cw0.heap.size [(key.size : Int)] rfl HCN.out HLN.out HBN.out ?_
        intro v6 w6 o6 g6
        obtain ⟨X1, hX1⟩ : ∃ X, Hid (X0 ++ [(key.size : Int)] = X) := ⟨_, rfl⟩
        rw [hX1.out] at o6
        obtain ⟨k6, b6, k7, o7, b7⟩ := after_more KQ0.out HCW.out OV0.out HQB.out HBW.out g6 o6
        obtain ⟨va1, vc1, e6⟩ := o6.long
        obtain ⟨vl1, hnl⟩ : ∃ l, Hid (X1.length = l) := ⟨_, rfl⟩
        rw [hnl.out] at e6
        subst e6
        have hS6 := HSK.out w6 b6 k6
        have f6 := k6.fz 1
        have K7 := hideN k7
        have O7 := hideN o7
        have B7 := hideN b7
        have HXL1 : Hid (X1.length ≤ 1100) := by show _ ≤ _; rw [← hX1.out]; have := HXL0.out; have := HTX.out; simp [bts_len]; omega
        rw [hd]
        refine hK _ _ (fun _ => hS6) ?_
        clear ho hd hg hK o6 g6 b6 k7 o7 b7 hnl
        simp only [Act.put, List.setIfInBounds_toArray, List.set_cons_zero, List.set_cons_succ]
        refine readyW 11 (some 39) (.fieldAddr 34 (.tmp 5) 1) rfl (by kernel_rfl) ?_
        rintro o K hd ho hg hK
        refine stepY (v := Value.pointer (some ⟨q, 1, none⟩)) ?hy ?_
        case hy => go_simp
        rw [hd]
        refine hK _ _ (fun _ => hS6) ?_
        clear ho hd hg hK
        simp only [Act.put, List.setIfInBounds_toArray, List.set_cons_zero, List.set_cons_succ]
        refine readyW 12 none (.store 32 (.tmp 39) (.tmp 38)) rfl (by kernel_rfl) ?_
        rintro o K hd ho hg hK
        refine wp_storeB ho rfl rfl hS6.1 f6 ?_
        rw [hd]
        refine hK _ _ (fun e => absurd rfl e) ?_
        refine doneW (by kernel_rfl) ?_ _
        clear ho hd hg hK hS hS6 f6 k6
        simp only [Act.put]
        obtain ⟨cw1, hW7⟩ : ∃ W7, Hid (w6.setCell ⟨q, 1, none⟩ (.slice va1 vl1 vc1) = W7) := ⟨_, rfl⟩
        rw [hW7.out] at K7 O7 B7
        rw [hW7.out]
        have KQ1 := K7
        have OV1 := O7
        have BC1 : Hid (Below W2.heap.size W2 cw1) := BC0.out.trans B7.out
        clear HSK HCW HON HBN HLN HBW VB KQ0 OV0 BC0 K7 O7 B7 hW7 HXL0
        clear hSb HCN hsz hsz0 hu8
        have VB : Hid (Nb cw1 25 w.heap.size true (.slice (some ⟨b, oa, none⟩) L1 c1) (.slice a2 L2 c2) (.slice a3 L3 c3)) := V2.out.below BC1.out
        have HBW : Hid (W2.heap.size ≤ cw1.heap.size) := BC1.out.size
        have HSK : Hid (∀ w', Below W2.heap.size cw1 w' → Kb w' q 1 (.slice va1 vl1 vc1) → w'.cell? ⟨q, 1, none⟩ = some (.slice va1 vl1 vc1) ∧ w'.cell? ⟨w.heap.size, 1, none⟩ = some (.slice (some ⟨b, oa, none⟩) L1 c1) ∧ w'.cell? ⟨b, oa + k, none⟩ = some (.string key)) := fun w' hb hk =>
          ⟨hk.c1, by rw [hb.cell (p := ⟨w.heap.size, 1, none⟩) HW2.out]; exact VB.out.c1, by rw [hb.cell (p := ⟨b, oa + k, none⟩) HBL.out, BC1.out.cell (p := ⟨b, oa + k, none⟩) HBL.out]; exact CK.out⟩
        have hS : cw1.drew.cell? ⟨q, 1, none⟩ = some (.slice va1 vl1 vc1) ∧ cw1.drew.cell? ⟨w.heap.size, 1, none⟩ = some (.slice (some ⟨b, oa, none⟩) L1 c1) ∧ cw1.drew.cell? ⟨b, oa + k, none⟩ = some (.string key) := HSK.out cw1 (Below.refl _ _) KQ1.out
        have HCW : Hid (Below cw1.heap.size cw1 cw1.drew) := (Below.refl _ _).drew
        have HON : Hid (OwB W2.heap.size cw1.drew (.slice va1 vl1 vc1) X1) := OV1.out.below HCW.out
        have HBN : Hid (W2.heap.size ≤ cw1.drew.heap.size) := Nat.le_trans HBW.out HCW.out.size
        have HLN : Hid (X1.length + key.size ≤ 100000) := by show _ ≤ _; have := HXL1.out; have := HTX.out; simp; omega
        go_wp2_with fail
        refine beginW (S := fun w' => w'.cell? ⟨q, 1, none⟩ = some (.slice va1 vl1 vc1) ∧ w'.cell? ⟨w.heap.size, 1, none⟩ = some (.slice (some ⟨b, oa, none⟩) L1 c1) ∧ w'.cell? ⟨b, oa + k, none⟩ = some (.string key)) (t := 9) (by kernel_rfl) ?_
        refine takeW 0 (some 40) (.fieldAddr 34 (.tmp 5) 1) (Value.pointer (some ⟨q, 1, none⟩)) rfl rfl (by kernel_rfl) (by kernel_rfl) (by kernel_rfl) (by kernel_rfl) (fun _ _ _ h => h) ?hy hS ?_
        case hy =>
          rintro o ho w' ⟨hS1, hS2, hS3⟩
          go_simp
        simp only [Act.put, List.setIfInBounds_toArray, List.set_cons_zero, List.set_cons_succ]
        refine takeW 1 (some 41) (.load 32 (.tmp 40)) (Value.slice va1 vl1 vc1) rfl rfl (by kernel_rfl) (by kernel_rfl) (by kernel_rfl) (by kernel_rfl) (fun _ _ _ h => h) ?hy hS ?_
        case hy =>
          rintro o ho w' ⟨hS1, hS2, hS3⟩
          go_simp
        simp only [Act.put, List.setIfInBounds_toArray, List.set_cons_zero, List.set_cons_succ]
        refine takeW 2 (some 42) (.fieldAddr 25 (.tmp 1) 1) (Value.pointer (some ⟨w.heap.size, 1, none⟩)) rfl rfl (by kernel_rfl) (by kernel_rfl) (by kernel_rfl) (by kernel_rfl) (fun _ _ _ h => h) ?hy hS ?_
        case hy =>
          rintro o ho w' ⟨hS1, hS2, hS3⟩
          go_simp
        simp only [Act.put, List.setIfInBounds_toArray, List.set_cons_zero, List.set_cons_succ]
        refine takeW 3 (some 43) (.load 22 (.tmp 42)) (Value.slice (some ⟨b, oa, none⟩) L1 c1) rfl rfl (by kernel_rfl) (by kernel_rfl) (by kernel_rfl) (by kernel_rfl) (fun _ _ _ h => h) ?hy hS ?_
        case hy =>
          rintro o ho w' ⟨hS1, hS2, hS3⟩
          go_simp
        simp only [Act.put, List.setIfInBounds_toArray, List.set_cons_zero, List.set_cons_succ]
        refine takeW 4 (some 44) (.move (.tmp 6)) (Value.int .i64 (k : Int)) rfl rfl (by kernel_rfl) (by kernel_rfl) (by kernel_rfl) (by kernel_rfl) (fun _ _ _ h => h) ?hy hS ?_
        case hy =>
          rintro o ho w' ⟨hS1, hS2, hS3⟩
          go_simp
        simp only [Act.put, List.setIfInBounds_toArray, List.set_cons_zero, List.set_cons_succ]
        refine takeW 5 (some 45) (.indexAddr 22 (.tmp 43) (.tmp 44)) (Value.pointer (some ⟨b, oa + k, none⟩)) rfl rfl (by kernel_rfl) (by kernel_rfl) (by kernel_rfl) (by kernel_rfl) (fun _ _ _ h => h) ?hy hS ?_
        case hy =>
          rintro o ho w' ⟨hS1, hS2, hS3⟩
          go_simp
        simp only [Act.put, List.setIfInBounds_toArray, List.set_cons_zero, List.set_cons_succ]
        refine takeW 6 (some 46) (.load 9 (.tmp 45)) (Value.string key) rfl rfl (by kernel_rfl) (by kernel_rfl) (by kernel_rfl) (by kernel_rfl) (fun _ _ _ h => h) ?hy hS ?_
        case hy =>
          rintro o ho w' ⟨hS1, hS2, hS3⟩
          go_simp
        simp only [Act.put, List.setIfInBounds_toArray, List.set_cons_zero, List.set_cons_succ]
        refine readyW 7 (some 47) (.call { callee := .builtin .append, args := #[.tmp 41, .tmp 46], argTypes := #[32, 9] }) rfl (by kernel_rfl) ?_
        rintro o K hd ho hg hK
        refine wp_strB (w := cw1.drew) (.tmp 41) (.tmp 46) ho W2.heap.size _ X1 rfl HON.out key rfl HLN.out HBN.out ?_
        intro v6 w6 o6 g6
        obtain ⟨X2, hX2⟩ : ∃ X, Hid (X1 ++ bts key = X) := ⟨_, rfl⟩
        rw [hX2.out] at o6
        obtain ⟨k6, b6, k7, o7, b7⟩ := after_more KQ1.out HCW.out OV1.out HQB.out HBW.out g6 o6
        obtain ⟨va2, vc2, e6⟩ := o6.long
        obtain ⟨vl2, hnl⟩ : ∃ l, Hid (X2.length = l) := ⟨_, rfl⟩
        rw [hnl.out] at e6
        subst e6
        have hS6 := HSK.out w6 b6 k6
        have f6 := k6.fz 1
        have K7 := hideN k7
        have O7 := hideN o7
        have B7 := hideN b7
        have HXL2 : Hid (X2.length ≤ 1200) := by show _ ≤ _; rw [← hX2.out]; have := HXL1.out; have := HTX.out; simp [bts_len]; omega
        rw [hd]
        refine hK _ _ (fun _ => hS6) ?_
        clear ho hd hg hK o6 g6 b6 k7 o7 b7 hnl
        simp only [Act.put, List.setIfInBounds_toArray, List.set_cons_zero, List.set_cons_succ]
        refine readyW 8 (some 48) (.fieldAddr 34 (.tmp 5) 1) rfl (by kernel_rfl) ?_
        rintro o K hd ho hg hK
        refine stepY (v := Value.pointer (some ⟨q, 1, none⟩)) ?hy ?_
        case hy => go_simp
        rw [hd]
        refine hK _ _ (fun _ => hS6) ?_
        clear ho hd hg hK
        simp only [Act.put, List.setIfInBounds_toArray, List.set_cons_zero, List.set_cons_succ]
        refine readyW 9 none (.store 32 (.tmp 48) (.tmp 47)) rfl (by kernel_rfl) ?_
        rintro o K hd ho hg hK
        refine wp_storeB ho rfl rfl hS6.1 f6 ?_
        rw [hd]
        refine hK _ _ (fun e => absurd rfl e) ?_
        refine doneW (by kernel_rfl) ?_ _
        clear ho hd hg hK hS hS6 f6 k6
        simp only [Act.put]
        obtain ⟨cw2, hW7⟩ : ∃ W7, Hid (w6.setCell ⟨q, 1, none⟩ (.slice va2 vl2 vc2) = W7) := ⟨_, rfl⟩
        rw [hW7.out] at K7 O7 B7
        rw [hW7.out]
        have KQ2 := K7
        have OV2 := O7
        have BC2 : Hid (Below W2.heap.size W2 cw2) := BC1.out.trans B7.out
        clear HSK HCW HON HBN HLN HBW VB KQ1 OV1 BC1 K7 O7 B7 hW7 HXL1
        obtain ⟨b2, o2, rfl, cv⟩ := H2.out.val (i := k) (by rw [(HR.out.vs hlf.out).1]; exact HKL.out)
        have CV := hideN cv
        have HBL2 : Hid (b2 < W2.heap.size) := World.block_lt_of_cell? W2 ⟨b2, o2 + k, none⟩ cv
        have hl2 : L2 = L1 := by rw [← hL1.out, ← hL2.out]; exact (HR.out.vs hlf.out).1
        have hk2 : k < L2 := by omega
        have hvs := (HR.out.vs hlf.out).2.2 k HKL.out
        obtain ⟨val, hval⟩ : ∃ s, Hid (vA n k = s) := ⟨_, rfl⟩
        rw [if_pos hlf.out] at HDF
        rw [hval.out] at CV hvs HDF
        have HTY : Hid (val.size ≤ 24) := hvs
        clear hvs hl2 cv
        have p0 := (V2.out.below BC2.out).c0
        have VB : Hid (Nb cw2 25 w.heap.size true (.slice (some ⟨b, oa, none⟩) L1 c1) (.slice (some ⟨b2, o2, none⟩) L2 c2) (.slice a3 L3 c3)) := V2.out.below BC2.out
        have HBW : Hid (W2.heap.size ≤ cw2.heap.size) := BC2.out.size
        have HSK : Hid (∀ w', Below W2.heap.size cw2 w' → Kb w' q 1 (.slice va2 vl2 vc2) → w'.cell? ⟨q, 1, none⟩ = some (.slice va2 vl2 vc2) ∧ w'.cell? ⟨w.heap.size, 2, none⟩ = some (.slice (some ⟨b2, o2, none⟩) L2 c2) ∧ w'.cell? ⟨b2, o2 + k, none⟩ = some (.string val)) := fun w' hb hk =>
          ⟨hk.c1, by rw [hb.cell (p := ⟨w.heap.size, 2, none⟩) HW2.out]; exact VB.out.c2, by rw [hb.cell (p := ⟨b2, o2 + k, none⟩) HBL2.out, BC2.out.cell (p := ⟨b2, o2 + k, none⟩) HBL2.out]; exact CV.out⟩
        have hS : cw2.drew.cell? ⟨q, 1, none⟩ = some (.slice va2 vl2 vc2) ∧ cw2.drew.cell? ⟨w.heap.size, 2, none⟩ = some (.slice (some ⟨b2, o2, none⟩) L2 c2) ∧ cw2.drew.cell? ⟨b2, o2 + k, none⟩ = some (.string val) := HSK.out cw2 (Below.refl _ _) KQ2.out
        have HCW : Hid (Below cw2.heap.size cw2 (cw2.drew.alloc (.cells #[.int .u8 (val.size : Int)] 5))) := (Below.refl _ _).drew.alloc (Nat.le_refl _) _
        have HON : Hid (OwB W2.heap.size (cw2.drew.alloc (.cells #[.int .u8 (val.size : Int)] 5)) (.slice va2 vl2 vc2) X2) := OV2.out.below HCW.out
        have HBN : Hid (W2.heap.size ≤ (cw2.drew.alloc (.cells #[.int .u8 (val.size : Int)] 5)).heap.size) := Nat.le_trans HBW.out HCW.out.size
        have HLN : Hid (X2.length + [(val.size : Int)].length ≤ 100000) := by show _ ≤ _; have := HXL2.out; have := HTY.out; simp; omega
        have hsz : (val.size : Int) ≤ 24 := by have := HTY.out; omega
        have hsz0 : (0 : Int) ≤ (val.size : Int) := by omega
        have hu8 : IntKind.u8.wrap (val.size : Int) = (val.size : Int) := by rw [u8_low]; omega
        have hSb : (cw2.drew.alloc (.cells #[.int .u8 (val.size : Int)] 5)).cell? ⟨q, 1, none⟩ = some (.slice va2 vl2 vc2) ∧ (cw2.drew.alloc (.cells #[.int .u8 (val.size : Int)] 5)).cell? ⟨w.heap.size, 2, none⟩ = some (.slice (some ⟨b2, o2, none⟩) L2 c2) ∧ (cw2.drew.alloc (.cells #[.int .u8 (val.size : Int)] 5)).cell? ⟨b2, o2 + k, none⟩ = some (.string val) := HSK.out _ (HCW.out.mono HBW.out) (KQ2.out.below HCW.out)
        have HCN : Hid (∀ j u, (List.map (Value.int .u8) [(val.size : Int)])[j]? = some u → (cw2.drew.alloc (.cells #[.int .u8 (val.size : Int)] 5)).cell? ⟨cw2.heap.size, j, none⟩ = some u) := cells_new cw2.drew [(val.size : Int)]
        go_wp2_with fail
        refine beginW (S := fun w' => w'.cell? ⟨q, 1, none⟩ = some (.slice va2 vl2 vc2) ∧ w'.cell? ⟨w.heap.size, 2, none⟩ = some (.slice (some ⟨b2, o2, none⟩) L2 c2) ∧ w'.cell? ⟨b2, o2 + k, none⟩ = some (.string val)) (t := 12) (by kernel_rfl) ?_
        refine takeW 0 (some 51) (.fieldAddr 34 (.tmp 5) 1) (Value.pointer (some ⟨q, 1, none⟩)) rfl rfl (by kernel_rfl) (by kernel_rfl) (by kernel_rfl) (by kernel_rfl) (fun _ _ _ h => h) ?hy hS ?_
        case hy =>
          rintro o ho w' ⟨hS1, hS2, hS3⟩
          go_simp
        simp only [Act.put, List.setIfInBounds_toArray, List.set_cons_zero, List.set_cons_succ]
        refine takeW 1 (some 52) (.load 32 (.tmp 51)) (Value.slice va2 vl2 vc2) rfl rfl (by kernel_rfl) (by kernel_rfl) (by kernel_rfl) (by kernel_rfl) (fun _ _ _ h => h) ?hy hS ?_
        case hy =>
          rintro o ho w' ⟨hS1, hS2, hS3⟩
          go_simp
        simp only [Act.put, List.setIfInBounds_toArray, List.set_cons_zero, List.set_cons_succ]
        refine takeW 2 (some 53) (.fieldAddr 25 (.tmp 1) 2) (Value.pointer (some ⟨w.heap.size, 2, none⟩)) rfl rfl (by kernel_rfl) (by kernel_rfl) (by kernel_rfl) (by kernel_rfl) (fun _ _ _ h => h) ?hy hS ?_
        case hy =>
          rintro o ho w' ⟨hS1, hS2, hS3⟩
          go_simp
        simp only [Act.put, List.setIfInBounds_toArray, List.set_cons_zero, List.set_cons_succ]
        refine takeW 3 (some 54) (.load 22 (.tmp 53)) (Value.slice (some ⟨b2, o2, none⟩) L2 c2) rfl rfl (by kernel_rfl) (by kernel_rfl) (by kernel_rfl) (by kernel_rfl) (fun _ _ _ h => h) ?hy hS ?_
        case hy =>
          rintro o ho w' ⟨hS1, hS2, hS3⟩
          go_simp
        simp only [Act.put, List.setIfInBounds_toArray, List.set_cons_zero, List.set_cons_succ]
        refine takeW 4 (some 55) (.move (.tmp 6)) (Value.int .i64 (k : Int)) rfl rfl (by kernel_rfl) (by kernel_rfl) (by kernel_rfl) (by kernel_rfl) (fun _ _ _ h => h) ?hy hS ?_
        case hy =>
          rintro o ho w' ⟨hS1, hS2, hS3⟩
          go_simp
        simp only [Act.put, List.setIfInBounds_toArray, List.set_cons_zero, List.set_cons_succ]
        refine takeW 5 (some 56) (.indexAddr 22 (.tmp 54) (.tmp 55)) (Value.pointer (some ⟨b2, o2 + k, none⟩)) rfl rfl (by kernel_rfl) (by kernel_rfl) (by kernel_rfl) (by kernel_rfl) (fun _ _ _ h => h) ?hy hS ?_
        case hy =>
          rintro o ho w' ⟨hS1, hS2, hS3⟩
          go_simp
        simp only [Act.put, List.setIfInBounds_toArray, List.set_cons_zero, List.set_cons_succ]
        refine takeW 6 (some 57) (.load 9 (.tmp 56)) (Value.string val) rfl rfl (by kernel_rfl) (by kernel_rfl) (by kernel_rfl) (by kernel_rfl) (fun _ _ _ h => h) ?hy hS ?_
        case hy =>
          rintro o ho w' ⟨hS1, hS2, hS3⟩
          go_simp
        simp only [Act.put, List.setIfInBounds_toArray, List.set_cons_zero, List.set_cons_succ]
        refine takeW 7 (some 58) (.call { callee := .builtin .len, args := #[.tmp 57], argTypes := #[9] }) (Value.int .i64 (val.size : Int)) rfl rfl (by kernel_rfl) (by kernel_rfl) (by kernel_rfl) (by kernel_rfl) (fun _ _ _ h => h) ?hy hS ?_
        case hy =>
          rintro o ho w' ⟨hS1, hS2, hS3⟩
          go_simp
        simp only [Act.put, List.setIfInBounds_toArray, List.set_cons_zero, List.set_cons_succ]
        refine takeW 8 (some 59) (.convert 3 5 (.tmp 58)) (Value.int .u8 (val.size : Int)) rfl rfl (by kernel_rfl) (by kernel_rfl) (by kernel_rfl) (by kernel_rfl) (fun _ _ _ h => h) ?hy hS ?_
        case hy =>
          rintro o ho w' ⟨hS1, hS2, hS3⟩
          go_simp
        simp only [Act.put, List.setIfInBounds_toArray, List.set_cons_zero, List.set_cons_succ]
        refine readyW 9 (some 60) (.buildSlice 32 1 #[(0, .tmp 59)]) rfl (by kernel_rfl) ?_
        rintro o K hd ho hg hK
        refine wp_buildV _ _ _ _ elemB (.tmp 59) ho (.int .u8 (val.size : Int)) rfl rfl ?_
        rw [hd]
        refine hK _ _ (fun _ => hSb) ?_
        clear ho hd hg hK
        simp only [Act.put, List.setIfInBounds_toArray, List.set_cons_zero, List.set_cons_succ]
        refine readyW 10 (some 61) (.call { callee := .builtin .append, args := #[.tmp 52, .tmp 60], argTypes := #[32, 32] }) rfl (by kernel_rfl) ?_
        rintro o K hd ho hg hK
        refine wp_moreB (w := (cw2.drew.alloc (.cells #[.int .u8 (val.size : Int)] 5))) (.tmp 52) (.tmp 60) ho W2.heap.size _ X2 rfl HON.out cw2.heap.size [(val.size : Int)] rfl HCN.out HLN.out HBN.out ?_
        intro v6 w6 o6 g6
        obtain ⟨X3, hX3⟩ : ∃ X, Hid (X2 ++ [(val.size : Int)] = X) := ⟨_, rfl⟩
        rw [hX3.out] at o6
        obtain ⟨k6, b6, k7, o7, b7⟩ := after_more KQ2.out HCW.out OV2.out HQB.out HBW.out g6 o6
        obtain ⟨va3, vc3, e6⟩ := o6.long
        obtain ⟨vl3, hnl⟩ : ∃ l, Hid (X3.length = l) := ⟨_, rfl⟩
        rw [hnl.out] at e6
        subst e6
        have hS6 := HSK.out w6 b6 k6
        have f6 := k6.fz 1
        have K7 := hideN k7
        have O7 := hideN o7
        have B7 := hideN b7
        have HXL3 : Hid (X3.length ≤ 1300) := by show _ ≤ _; rw [← hX3.out]; have := HXL2.out; have := HTY.out; simp [bts_len]; omega
        rw [hd]
        refine hK _ _ (fun _ => hS6) ?_
        clear ho hd hg hK o6 g6 b6 k7 o7 b7 hnl
        simp only [Act.put, List.setIfInBounds_toArray, List.set_cons_zero, List.set_cons_succ]
        refine readyW 11 (some 62) (.fieldAddr 34 (.tmp 5) 1) rfl (by kernel_rfl) ?_
        rintro o K hd ho hg hK
        refine stepY (v := Value.pointer (some ⟨q, 1, none⟩)) ?hy ?_
        case hy => go_simp
        rw [hd]
        refine hK _ _ (fun _ => hS6) ?_
        clear ho hd hg hK
        simp only [Act.put, List.setIfInBounds_toArray, List.set_cons_zero, List.set_cons_succ]
        refine readyW 12 none (.store 32 (.tmp 62) (.tmp 61)) rfl (by kernel_rfl) ?_
        rintro o K hd ho hg hK
        refine wp_storeB ho rfl rfl hS6.1 f6 ?_
        rw [hd]
        refine hK _ _ (fun e => absurd rfl e) ?_
        refine doneW (by kernel_rfl) ?_ _
        clear ho hd hg hK hS hS6 f6 k6
        simp only [Act.put]
        obtain ⟨cw3, hW7⟩ : ∃ W7, Hid (w6.setCell ⟨q, 1, none⟩ (.slice va3 vl3 vc3) = W7) := ⟨_, rfl⟩
        rw [hW7.out] at K7 O7 B7
        rw [hW7.out]
        have KQ3 := K7
        have OV3 := O7
        have BC3 : Hid (Below W2.heap.size W2 cw3) := BC2.out.trans B7.out
        clear HSK HCW HON HBN HLN HBW VB KQ2 OV2 BC2 K7 O7 B7 hW7 HXL2
        clear hSb HCN hsz hsz0 hu8
        clear p0
        have VB : Hid (Nb cw3 25 w.heap.size true (.slice (some ⟨b, oa, none⟩) L1 c1) (.slice (some ⟨b2, o2, none⟩) L2 c2) (.slice a3 L3 c3)) := V2.out.below BC3.out
        have HBW : Hid (W2.heap.size ≤ cw3.heap.size) := BC3.out.size
        have HSK : Hid (∀ w', Below W2.heap.size cw3 w' → Kb w' q 1 (.slice va3 vl3 vc3) → w'.cell? ⟨q, 1, none⟩ = some (.slice va3 vl3 vc3) ∧ w'.cell? ⟨w.heap.size, 2, none⟩ = some (.slice (some ⟨b2, o2, none⟩) L2 c2) ∧ w'.cell? ⟨b2, o2 + k, none⟩ = some (.string val)) := fun w' hb hk =>
          ⟨hk.c1, by rw [hb.cell (p := ⟨w.heap.size, 2, none⟩) HW2.out]; exact VB.out.c2, by rw [hb.cell (p := ⟨b2, o2 + k, none⟩) HBL2.out, BC3.out.cell (p := ⟨b2, o2 + k, none⟩) HBL2.out]; exact CV.out⟩
        have hS : cw3.drew.cell? ⟨q, 1, none⟩ = some (.slice va3 vl3 vc3) ∧ cw3.drew.cell? ⟨w.heap.size, 2, none⟩ = some (.slice (some ⟨b2, o2, none⟩) L2 c2) ∧ cw3.drew.cell? ⟨b2, o2 + k, none⟩ = some (.string val) := HSK.out cw3 (Below.refl _ _) KQ3.out
        have HCW : Hid (Below cw3.heap.size cw3 cw3.drew) := (Below.refl _ _).drew
        have HON : Hid (OwB W2.heap.size cw3.drew (.slice va3 vl3 vc3) X3) := OV3.out.below HCW.out
        have HBN : Hid (W2.heap.size ≤ cw3.drew.heap.size) := Nat.le_trans HBW.out HCW.out.size
        have HLN : Hid (X3.length + val.size ≤ 100000) := by show _ ≤ _; have := HXL3.out; have := HTY.out; simp; omega
        go_wp2_with fail
        refine beginW (S := fun w' => w'.cell? ⟨q, 1, none⟩ = some (.slice va3 vl3 vc3) ∧ w'.cell? ⟨w.heap.size, 2, none⟩ = some (.slice (some ⟨b2, o2, none⟩) L2 c2) ∧ w'.cell? ⟨b2, o2 + k, none⟩ = some (.string val)) (t := 9) (by kernel_rfl) ?_
        refine takeW 0 (some 63) (.fieldAddr 34 (.tmp 5) 1) (Value.pointer (some ⟨q, 1, none⟩)) rfl rfl (by kernel_rfl) (by kernel_rfl) (by kernel_rfl) (by kernel_rfl) (fun _ _ _ h => h) ?hy hS ?_
        case hy =>
          rintro o ho w' ⟨hS1, hS2, hS3⟩
          go_simp
        simp only [Act.put, List.setIfInBounds_toArray, List.set_cons_zero, List.set_cons_succ]
        refine takeW 1 (some 64) (.load 32 (.tmp 63)) (Value.slice va3 vl3 vc3) rfl rfl (by kernel_rfl) (by kernel_rfl) (by kernel_rfl) (by kernel_rfl) (fun _ _ _ h => h) ?hy hS ?_
        case hy =>
          rintro o ho w' ⟨hS1, hS2, hS3⟩
          go_simp
        simp only [Act.put, List.setIfInBounds_toArray, List.set_cons_zero, List.set_cons_succ]
        refine takeW 2 (some 65) (.fieldAddr 25 (.tmp 1) 2) (Value.pointer (some ⟨w.heap.size, 2, none⟩)) rfl rfl (by kernel_rfl) (by kernel_rfl) (by kernel_rfl) (by kernel_rfl) (fun _ _ _ h => h) ?hy hS ?_
        case hy =>
          rintro o ho w' ⟨hS1, hS2, hS3⟩
          go_simp
        simp only [Act.put, List.setIfInBounds_toArray, List.set_cons_zero, List.set_cons_succ]
        refine takeW 3 (some 66) (.load 22 (.tmp 65)) (Value.slice (some ⟨b2, o2, none⟩) L2 c2) rfl rfl (by kernel_rfl) (by kernel_rfl) (by kernel_rfl) (by kernel_rfl) (fun _ _ _ h => h) ?hy hS ?_
        case hy =>
          rintro o ho w' ⟨hS1, hS2, hS3⟩
          go_simp
        simp only [Act.put, List.setIfInBounds_toArray, List.set_cons_zero, List.set_cons_succ]
        refine takeW 4 (some 67) (.move (.tmp 6)) (Value.int .i64 (k : Int)) rfl rfl (by kernel_rfl) (by kernel_rfl) (by kernel_rfl) (by kernel_rfl) (fun _ _ _ h => h) ?hy hS ?_
        case hy =>
          rintro o ho w' ⟨hS1, hS2, hS3⟩
          go_simp
        simp only [Act.put, List.setIfInBounds_toArray, List.set_cons_zero, List.set_cons_succ]
        refine takeW 5 (some 68) (.indexAddr 22 (.tmp 66) (.tmp 67)) (Value.pointer (some ⟨b2, o2 + k, none⟩)) rfl rfl (by kernel_rfl) (by kernel_rfl) (by kernel_rfl) (by kernel_rfl) (fun _ _ _ h => h) ?hy hS ?_
        case hy =>
          rintro o ho w' ⟨hS1, hS2, hS3⟩
          go_simp
        simp only [Act.put, List.setIfInBounds_toArray, List.set_cons_zero, List.set_cons_succ]
        refine takeW 6 (some 69) (.load 9 (.tmp 68)) (Value.string val) rfl rfl (by kernel_rfl) (by kernel_rfl) (by kernel_rfl) (by kernel_rfl) (fun _ _ _ h => h) ?hy hS ?_
        case hy =>
          rintro o ho w' ⟨hS1, hS2, hS3⟩
          go_simp
        simp only [Act.put, List.setIfInBounds_toArray, List.set_cons_zero, List.set_cons_succ]
        refine readyW 7 (some 70) (.call { callee := .builtin .append, args := #[.tmp 64, .tmp 69], argTypes := #[32, 9] }) rfl (by kernel_rfl) ?_
        rintro o K hd ho hg hK
        refine wp_strB (w := cw3.drew) (.tmp 64) (.tmp 69) ho W2.heap.size _ X3 rfl HON.out val rfl HLN.out HBN.out ?_
        intro v6 w6 o6 g6
        obtain ⟨X4, hX4⟩ : ∃ X, Hid (X3 ++ bts val = X) := ⟨_, rfl⟩
        rw [hX4.out] at o6
        obtain ⟨k6, b6, k7, o7, b7⟩ := after_more KQ3.out HCW.out OV3.out HQB.out HBW.out g6 o6
        obtain ⟨va4, vc4, e6⟩ := o6.long
        obtain ⟨vl4, hnl⟩ : ∃ l, Hid (X4.length = l) := ⟨_, rfl⟩
        rw [hnl.out] at e6
        subst e6
        have hS6 := HSK.out w6 b6 k6
        have f6 := k6.fz 1
        have K7 := hideN k7
        have O7 := hideN o7
        have B7 := hideN b7
        have HXL4 : Hid (X4.length ≤ 1400) := by show _ ≤ _; rw [← hX4.out]; have := HXL3.out; have := HTY.out; simp [bts_len]; omega
        rw [hd]
        refine hK _ _ (fun _ => hS6) ?_
        clear ho hd hg hK o6 g6 b6 k7 o7 b7 hnl
        simp only [Act.put, List.setIfInBounds_toArray, List.set_cons_zero, List.set_cons_succ]
        refine readyW 8 (some 71) (.fieldAddr 34 (.tmp 5) 1) rfl (by kernel_rfl) ?_
        rintro o K hd ho hg hK
        refine stepY (v := Value.pointer (some ⟨q, 1, none⟩)) ?hy ?_
        case hy => go_simp
        rw [hd]
        refine hK _ _ (fun _ => hS6) ?_
        clear ho hd hg hK
        simp only [Act.put, List.setIfInBounds_toArray, List.set_cons_zero, List.set_cons_succ]
        refine readyW 9 none (.store 32 (.tmp 71) (.tmp 70)) rfl (by kernel_rfl) ?_
        rintro o K hd ho hg hK
        refine wp_storeB ho rfl rfl hS6.1 f6 ?_
        rw [hd]
        refine hK _ _ (fun e => absurd rfl e) ?_
        refine doneW (by kernel_rfl) ?_ _
        clear ho hd hg hK hS hS6 f6 k6
        simp only [Act.put]
        obtain ⟨cw4, hW7⟩ : ∃ W7, Hid (w6.setCell ⟨q, 1, none⟩ (.slice va4 vl4 vc4) = W7) := ⟨_, rfl⟩
        rw [hW7.out] at K7 O7 B7
        rw [hW7.out]
        have KQ4 := K7
        have OV4 := O7
        have BC4 : Hid (Below W2.heap.size W2 cw4) := BC3.out.trans B7.out
        clear HSK HCW HON HBN HLN HBW VB KQ3 OV3 BC3 K7 O7 B7 hW7 HXL3
        have O9 : Hid (OwB W2.heap.size cw4 (.slice va4 vl4 vc4) (encN n (k + 1))) := by
          rw [HIT.out, HDF.out]
          have := OV4.out
          rw [← hX4.out, ← hX3.out, ← hX2.out, ← hX1.out] at this
          show OwB _ _ _ _
          simpa using this
        go_wp2_with fail
        go_roundw
        case rel => exact ⟨k + 1, _, by omega, by go_num, KQ4, O9, BC4⟩
        case measure => simp [intOf]; omega
      · have hkl : k = L1 := by omega
        rw [hkl, hT.out] at OV0
        have V9 := V2.out.below BC0.out
        have K9 : Kb cw0 W1.heap.size 0 (.slice none 0 0) := K2.out.below BC0.out
        obtain ⟨va0, vc0, hv0⟩ := OV0.out.long
        obtain ⟨vl0, hvl⟩ : ∃ l, Hid (T.length = l) := ⟨_, rfl⟩
        rw [hvl.out] at hv0
        subst hv0
        have p1 := V9.c1
        have y0 := KQ0.out.c0
        have y1 := KQ0.out.c1
        have s0 := K9.c0
        have s1 := K9.c1
        have g0 := K9.fz 0
        have g1 := K9.fz 1
        obtain ⟨WA, hWA⟩ : ∃ WA, Hid ((cw0.setCell ⟨W1.heap.size, 0, none⟩ (.int .i64 1)).setCell ⟨W1.heap.size, 1, none⟩ (.slice va0 vl0 vc0) = WA) := ⟨_, rfl⟩
        have KA : Hid (Kb WA W1.heap.size 1 (.slice va0 vl0 vc0)) := by rw [← hWA.out]; exact K9.put _ _
        have tA : Tch (fun j => j = W1.heap.size) cw0 WA := by rw [← hWA.out]; exact tch_two _ _ _ _
        have RA : Hid (Rd .u8 WA (.slice va0 vl0 vc0) T) := (OV0.out.tch tA (fun j hj e => OV0.out.ne K9 (by decide) (by rw [hj, e]))).rd
        have b9 : Below w.heap.size w cw0 := B2.out.trans (BC0.out.mono B2.out.size)
        have BA : Hid (Below w.heap.size w WA) := b9.trans (tA.below b9.size (fun j e => by have := HW1.out; omega))
        clear V9 K9 tA b9 KQ0 OV0 BC0
        go_wp2_with fail
        rw [hWA.out]
        refine bodyPost_ret (v := .tuple #[blN 1 (.slice va0 vl0 vc0), .int .i64 0]) (results_twoN (p := 2) (ty := 34) rfl _ _ _ W1.heap.size _ _ rfl KA.out.load rfl) rfl ?_
        exact ⟨⟨_, rfl, RA.out⟩, BA.out⟩
  | false =>
    obtain ⟨W6, hW6⟩ : ∃ W6, Hid (W4.alloc (.cells #[.int .i64 2, .slice (some ⟨w3.heap.size, 0, none⟩) 1 1] 34) = W6) := ⟨_, rfl⟩
    have K6 : Hid (Kb W6 W4.heap.size 2 (.slice (some ⟨w3.heap.size, 0, none⟩) 1 1)) := by rw [← hW6.out]; exact kb_new _ _ _
    have b6 : Below W4.heap.size W4 W6 := by rw [← hW6.out]; exact below_alloc _ _
    have O6 : Hid (OwB W2.heap.size W6 (.slice (some ⟨w3.heap.size, 0, none⟩) 1 1) (encN n 0)) := by rw [HE0.out]; exact O4.out.below b6
    have B6 : Hid (Below W2.heap.size W2 W6) := B4.out.trans (b6.mono B4.out.size)
    clear b6
    go_wp2_with (refine wpList_store_newD _ rfl 34 (.tmp 5) (.tmp 17) rfl _ #[.int .i64 2, .slice (some ⟨w3.heap.size, 0, none⟩) 1 1] ?h1 ?h2 inf_blN rfl rfl ?_; (case h1 => rfl); (case h2 => rfl); skip)
    rw [hW6.out]
    rw [hq.out]
    rw [hq.out] at K6
    have HQB : Hid (W2.heap.size ≤ q) := by rw [← hq.out]; exact HQ4.out
    clear p1 q0 hW4 hW6 HQ4 hq O4 B4 V3
    go_loopw [6] (fun i wr => ∃ (k : Nat) (v0 : Value), k ≤ L1 ∧ i = .int .i64 k ∧ Hid (Kb wr q 2 v0) ∧ Hid (OwB W2.heap.size wr v0 (encN n k)) ∧ Hid (Below W2.heap.size W2 wr)) (fun i _ => L1 - (intOf i).toNat)
    case atStart => exact ⟨0, _, Nat.zero_le _, rfl, K6, O6, B6⟩
    case round =>
      clear K6 O6 B6 HE0
      obtain ⟨k, v0, hk, rfl, KQ0, OV0, BC0⟩ := hrel
      obtain ⟨cw0, rfl⟩ : ∃ cw, cw = wr := ⟨_, rfl⟩
      by_cases hlt : k < L1
      · have HKL : Hid (k < n.ks.length) := by rw [hL1.out]; exact hlt
        obtain ⟨b, oa, rfl, ck⟩ := H2.out.key (i := k) HKL.out
        have CK := hideN ck
        have HBL : Hid (b < W2.heap.size) := World.block_lt_of_cell? W2 ⟨b, oa + k, none⟩ ck
        have HIT : Hid (encN n (k + 1) = encN n k ++ itm n k) := rfl
        have hks := HR.out.ks k HKL.out
        have HDF : Hid (itm n k = ((kA n k).size : Int) :: (bts (kA n k) ++ (if n.lf = true then ((vA n k).size : Int) :: bts (vA n k) else [dA n k % 256, dA n k / 256]))) := rfl
        obtain ⟨key, hkey⟩ : ∃ s, Hid (kA n k = s) := ⟨_, rfl⟩
        rw [hkey.out] at CK hks HDF
        have HTX : Hid (key.size ≤ 24) := hks
        have hel := enc_le HR.out (k := k) (by rw [hL1.out]; omega)
        obtain ⟨X0, hX0⟩ : ∃ X, Hid (encN n k = X) := ⟨_, rfl⟩
        rw [hX0.out] at OV0 hel HIT
        have HXL0 : Hid (X0.length ≤ 1000) := by show _ ≤ _; omega
        have p1 := (V2.out.below BC0.out).c1
        obtain ⟨va0, vl0, vc0, hv0⟩ : ∃ a l c, v0 = .slice a l c := by obtain ⟨a, c, e⟩ := OV0.out.long; exact ⟨a, _, c, e⟩
        subst hv0
        clear hks hel ck
        have VB : Hid (Nb cw0 25 w.heap.size false (.slice (some ⟨b, oa, none⟩) L1 c1) (.slice a2 L2 c2) (.slice a3 L3 c3)) := V2.out.below BC0.out
        have HBW : Hid (W2.heap.size ≤ cw0.heap.size) := BC0.out.size
        have HSK : Hid (∀ w', Below W2.heap.size cw0 w' → Kb w' q 2 (.slice va0 vl0 vc0) → w'.cell? ⟨q, 1, none⟩ = some (.slice va0 vl0 vc0) ∧ w'.cell? ⟨w.heap.size, 1, none⟩ = some (.slice (some ⟨b, oa, none⟩) L1 c1) ∧ w'.cell? ⟨b, oa + k, none⟩ = some (.string key)) := fun w' hb hk =>
          ⟨hk.c1, by rw [hb.cell (p := ⟨w.heap.size, 1, none⟩) HW2.out]; exact VB.out.c1, by rw [hb.cell (p := ⟨b, oa + k, none⟩) HBL.out, BC0.out.cell (p := ⟨b, oa + k, none⟩) HBL.out]; exact CK.out⟩
        have hS : cw0.drew.cell? ⟨q, 1, none⟩ = some (.slice va0 vl0 vc0) ∧ cw0.drew.cell? ⟨w.heap.size, 1, none⟩ = some (.slice (some ⟨b, oa, none⟩) L1 c1) ∧ cw0.drew.cell? ⟨b, oa + k, none⟩ = some (.string key) := HSK.out cw0 (Below.refl _ _) KQ0.out
        have HCW : Hid (Below cw0.heap.size cw0 (cw0.drew.alloc (.cells #[.int .u8 (key.size : Int)] 5))) := (Below.refl _ _).drew.alloc (Nat.le_refl _) _
        have HON : Hid (OwB W2.heap.size (cw0.drew.alloc (.cells #[.int .u8 (key.size : Int)] 5)) (.slice va0 vl0 vc0) X0) := OV0.out.below HCW.out
        have HBN : Hid (W2.heap.size ≤ (cw0.drew.alloc (.cells #[.int .u8 (key.size : Int)] 5)).heap.size) := Nat.le_trans HBW.out HCW.out.size
        have HLN : Hid (X0.length + [(key.size : Int)].length ≤ 100000) := by show _ ≤ _; have := HXL0.out; have := HTX.out; simp; omega
        have hsz : (key.size : Int) ≤ 24 := by have := HTX.out; omega
        have hsz0 : (0 : Int) ≤ (key.size : Int) := by omega
        have hu8 : IntKind.u8.wrap (key.size : Int) = (key.size : Int) := by rw [u8_low]; omega
        have hSb : (cw0.drew.alloc (.cells #[.int .u8 (key.size : Int)] 5)).cell? ⟨q, 1, none⟩ = some (.slice va0 vl0 vc0) ∧ (cw0.drew.alloc (.cells #[.int .u8 (key.size : Int)] 5)).cell? ⟨w.heap.size, 1, none⟩ = some (.slice (some ⟨b, oa, none⟩) L1 c1) ∧ (cw0.drew.alloc (.cells #[.int .u8 (key.size : Int)] 5)).cell? ⟨b, oa + k, none⟩ = some (.string key) := HSK.out _ (HCW.out.mono HBW.out) (KQ0.out.below HCW.out)
        have HCN : Hid (∀ j u, (List.map (Value.int .u8) [(key.size : Int)])[j]? = some u → (cw0.drew.alloc (.cells #[.int .u8 (key.size : Int)] 5)).cell? ⟨cw0.heap.size, j, none⟩ = some u) := cells_new cw0.drew [(key.size : Int)]
        go_wp2_with fail
        refine beginW (S := fun w' => w'.cell? ⟨q, 1, none⟩ = some (.slice va0 vl0 vc0) ∧ w'.cell? ⟨w.heap.size, 1, none⟩ = some (.slice (some ⟨b, oa, none⟩) L1 c1) ∧ w'.cell? ⟨b, oa + k, none⟩ = some (.string key)) (t := 12) (by kernel_rfl) ?_
        refine takeW 0 (some 28) (.fieldAddr 34 (.tmp 5) 1) (Value.pointer (some ⟨q, 1, none⟩)) rfl rfl (by kernel_rfl) (by kernel_rfl) (by kernel_rfl) (by kernel_rfl) (fun _ _ _ h => h) ?hy hS ?_
        case hy =>
          rintro o ho w' ⟨hS1, hS2, hS3⟩
          go_simp
        simp only [Act.put, List.setIfInBounds_toArray, List.set_cons_zero, List.set_cons_succ]
        refine takeW 1 (some 29) (.load 32 (.tmp 28)) (Value.slice va0 vl0 vc0) rfl rfl (by kernel_rfl) (by kernel_rfl) (by kernel_rfl) (by kernel_rfl) (fun _ _ _ h => h) ?hy hS ?_
        case hy =>
          rintro o ho w' ⟨hS1, hS2, hS3⟩
          go_simp
        simp only [Act.put, List.setIfInBounds_toArray, List.set_cons_zero, List.set_cons_succ]
        refine takeW 2 (some 30) (.fieldAddr 25 (.tmp 1) 1) (Value.pointer (some ⟨w.heap.size, 1, none⟩)) rfl rfl (by kernel_rfl) (by kernel_rfl) (by kernel_rfl) (by kernel_rfl) (fun _ _ _ h => h) ?hy hS ?_
        case hy =>
          rintro o ho w' ⟨hS1, hS2, hS3⟩
          go_simp
        simp only [Act.put, List.setIfInBounds_toArray, List.set_cons_zero, List.set_cons_succ]
        refine takeW 3 (some 31) (.load 22 (.tmp 30)) (Value.slice (some ⟨b, oa, none⟩) L1 c1) rfl rfl (by kernel_rfl) (by kernel_rfl) (by kernel_rfl) (by kernel_rfl) (fun _ _ _ h => h) ?hy hS ?_
        case hy =>
          rintro o ho w' ⟨hS1, hS2, hS3⟩
          go_simp
        simp only [Act.put, List.setIfInBounds_toArray, List.set_cons_zero, List.set_cons_succ]
        refine takeW 4 (some 32) (.move (.tmp 6)) (Value.int .i64 (k : Int)) rfl rfl (by kernel_rfl) (by kernel_rfl) (by kernel_rfl) (by kernel_rfl) (fun _ _ _ h => h) ?hy hS ?_
        case hy =>
          rintro o ho w' ⟨hS1, hS2, hS3⟩
          go_simp
        simp only [Act.put, List.setIfInBounds_toArray, List.set_cons_zero, List.set_cons_succ]
        refine takeW 5 (some 33) (.indexAddr 22 (.tmp 31) (.tmp 32)) (Value.pointer (some ⟨b, oa + k, none⟩)) rfl rfl (by kernel_rfl) (by kernel_rfl) (by kernel_rfl) (by kernel_rfl) (fun _ _ _ h => h) ?hy hS ?_
        case hy =>
          rintro o ho w' ⟨hS1, hS2, hS3⟩
          go_simp
        simp only [Act.put, List.setIfInBounds_toArray, List.set_cons_zero, List.set_cons_succ]
        refine takeW 6 (some 34) (.load 9 (.tmp 33)) (Value.string key) rfl rfl (by kernel_rfl) (by kernel_rfl) (by kernel_rfl) (by kernel_rfl) (fun _ _ _ h => h) ?hy hS ?_
        case hy =>
          rintro o ho w' ⟨hS1, hS2, hS3⟩
          go_simp
        simp only [Act.put, List.setIfInBounds_toArray, List.set_cons_zero, List.set_cons_succ]
        refine takeW 7 (some 35) (.call { callee := .builtin .len, args := #[.tmp 34], argTypes := #[9] }) (Value.int .i64 (key.size : Int)) rfl rfl (by kernel_rfl) (by kernel_rfl) (by kernel_rfl) (by kernel_rfl) (fun _ _ _ h => h) ?hy hS ?_
        case hy =>
          rintro o ho w' ⟨hS1, hS2, hS3⟩
          go_simp
        simp only [Act.put, List.setIfInBounds_toArray, List.set_cons_zero, List.set_cons_succ]
        refine takeW 8 (some 36) (.convert 3 5 (.tmp 35)) (Value.int .u8 (key.size : Int)) rfl rfl (by kernel_rfl) (by kernel_rfl) (by kernel_rfl) (by kernel_rfl) (fun _ _ _ h => h) ?hy hS ?_
        case hy =>
          rintro o ho w' ⟨hS1, hS2, hS3⟩
          go_simp
        simp only [Act.put, List.setIfInBounds_toArray, List.set_cons_zero, List.set_cons_succ]
        refine readyW 9 (some 37) (.buildSlice 32 1 #[(0, .tmp 36)]) rfl (by kernel_rfl) ?_
        rintro o K hd ho hg hK
        refine wp_buildV _ _ _ _ elemB (.tmp 36) ho (.int .u8 (key.size : Int)) rfl rfl ?_
        rw [hd]
        refine hK _ _ (fun _ => hSb) ?_
        clear ho hd hg hK
        simp only [Act.put, List.setIfInBounds_toArray, List.set_cons_zero, List.set_cons_succ]
        refine readyW 10 (some 38) (.call { callee := .builtin .append, args := #[.tmp 29, .tmp 37], argTypes := #[32, 32] }) rfl (by kernel_rfl) ?_
        rintro o K hd ho hg hK
        refine wp_moreB (w := (cw0.drew.alloc (.cells #[.int .u8 (key.size : Int)] 5))) (.tmp 29) (.tmp 37) ho W2.heap.size _ X0 rfl HON.out cw0.heap.size [(key.size : Int)] rfl HCN.out HLN.out HBN.out ?_
        intro v6 w6 o6 g6
        obtain ⟨X1, hX1⟩ : ∃ X, Hid (X0 ++ [(key.size : Int)] = X) := ⟨_, rfl⟩
        rw [hX1.out] at o6
        obtain ⟨k6, b6, k7, o7, b7⟩ := after_more KQ0.out HCW.out OV0.out HQB.out HBW.out g6 o6
        obtain ⟨va1, vc1, e6⟩ := o6.long
        obtain ⟨vl1, hnl⟩ : ∃ l, Hid (X1.length = l) := ⟨_, rfl⟩
        rw [hnl.out] at e6
        subst e6
        have hS6 := HSK.out w6 b6 k6
        have f6 := k6.fz 1
        have K7 := hideN k7
        have O7 := hideN o7
        have B7 := hideN b7
        have HXL1 : Hid (X1.length ≤ 1100) := by show _ ≤ _; rw [← hX1.out]; have := HXL0.out; have := HTX.out; simp [bts_len]; omega
        rw [hd]
        refine hK _ _ (fun _ => hS6) ?_
        clear ho hd hg hK o6 g6 b6 k7 o7 b7 hnl
        simp only [Act.put, List.setIfInBounds_toArray, List.set_cons_zero, List.set_cons_succ]
        refine readyW 11 (some 39) (.fieldAddr 34 (.tmp 5) 1) rfl (by kernel_rfl) ?_
        rintro o K hd ho hg hK
        refine stepY (v := Value.pointer (some ⟨q, 1, none⟩)) ?hy ?_
        case hy => go_simp
        rw [hd]
        refine hK _ _ (fun _ => hS6) ?_
        clear ho hd hg hK
        simp only [Act.put, List.setIfInBounds_toArray, List.set_cons_zero, List.set_cons_succ]
        refine readyW 12 none (.store 32 (.tmp 39) (.tmp 38)) rfl (by kernel_rfl) ?_
        rintro o K hd ho hg hK
        refine wp_storeB ho rfl rfl hS6.1 f6 ?_
        rw [hd]
        refine hK _ _ (fun e => absurd rfl e) ?_
        refine doneW (by kernel_rfl) ?_ _
        clear ho hd hg hK hS hS6 f6 k6
        simp only [Act.put]
        obtain ⟨cw1, hW7⟩ : ∃ W7, Hid (w6.setCell ⟨q, 1, none⟩ (.slice va1 vl1 vc1) = W7) := ⟨_, rfl⟩
        rw [hW7.out] at K7 O7 B7
        rw [hW7.out]
        have KQ1 := K7
        have OV1 := O7
        have BC1 : Hid (Below W2.heap.size W2 cw1) := BC0.out.trans B7.out
        clear HSK HCW HON HBN HLN HBW VB KQ0 OV0 BC0 K7 O7 B7 hW7 HXL0
        clear hSb HCN hsz hsz0 hu8
        have VB : Hid (Nb cw1 25 w.heap.size false (.slice (some ⟨b, oa, none⟩) L1 c1) (.slice a2 L2 c2) (.slice a3 L3 c3)) := V2.out.below BC1.out
        have HBW : Hid (W2.heap.size ≤ cw1.heap.size) := BC1.out.size
        have HSK : Hid (∀ w', Below W2.heap.size cw1 w' → Kb w' q 2 (.slice va1 vl1 vc1) → w'.cell? ⟨q, 1, none⟩ = some (.slice va1 vl1 vc1) ∧ w'.cell? ⟨w.heap.size, 1, none⟩ = some (.slice (some ⟨b, oa, none⟩) L1 c1) ∧ w'.cell? ⟨b, oa + k, none⟩ = some (.string key)) := fun w' hb hk =>
          ⟨hk.c1, by rw [hb.cell (p := ⟨w.heap.size, 1, none⟩) HW2.out]; exact VB.out.c1, by rw [hb.cell (p := ⟨b, oa + k, none⟩) HBL.out, BC1.out.cell (p := ⟨b, oa + k, none⟩) HBL.out]; exact CK.out⟩
        have hS : cw1.drew.cell? ⟨q, 1, none⟩ = some (.slice va1 vl1 vc1) ∧ cw1.drew.cell? ⟨w.heap.size, 1, none⟩ = some (.slice (some ⟨b, oa, none⟩) L1 c1) ∧ cw1.drew.cell? ⟨b, oa + k, none⟩ = some (.string key) := HSK.out cw1 (Below.refl _ _) KQ1.out
        have HCW : Hid (Below cw1.heap.size cw1 cw1.drew) := (Below.refl _ _).drew
        have HON : Hid (OwB W2.heap.size cw1.drew (.slice va1 vl1 vc1) X1) := OV1.out.below HCW.out
        have HBN : Hid (W2.heap.size ≤ cw1.drew.heap.size) := Nat.le_trans HBW.out HCW.out.size
        have HLN : Hid (X1.length + key.size ≤ 100000) := by show _ ≤ _; have := HXL1.out; have := HTX.out; simp; omega
        go_wp2_with fail
        refine beginW (S := fun w' => w'.cell? ⟨q, 1, none⟩ = some (.slice va1 vl1 vc1) ∧ w'.cell? ⟨w.heap.size, 1, none⟩ = some (.slice (some ⟨b, oa, none⟩) L1 c1) ∧ w'.cell? ⟨b, oa + k, none⟩ = some (.string key)) (t := 9) (by kernel_rfl) ?_
        refine takeW 0 (some 40) (.fieldAddr 34 (.tmp 5) 1) (Value.pointer (some ⟨q, 1, none⟩)) rfl rfl (by kernel_rfl) (by kernel_rfl) (by kernel_rfl) (by kernel_rfl) (fun _ _ _ h => h) ?hy hS ?_
        case hy =>
          rintro o ho w' ⟨hS1, hS2, hS3⟩
          go_simp
        simp only [Act.put, List.setIfInBounds_toArray, List.set_cons_zero, List.set_cons_succ]
        refine takeW 1 (some 41) (.load 32 (.tmp 40)) (Value.slice va1 vl1 vc1) rfl rfl (by kernel_rfl) (by kernel_rfl) (by kernel_rfl) (by kernel_rfl) (fun _ _ _ h => h) ?hy hS ?_
        case hy =>
          rintro o ho w' ⟨hS1, hS2, hS3⟩
          go_simp
        simp only [Act.put, List.setIfInBounds_toArray, List.set_cons_zero, List.set_cons_succ]
        refine takeW 2 (some 42) (.fieldAddr 25 (.tmp 1) 1) (Value.pointer (some ⟨w.heap.size, 1, none⟩)) rfl rfl (by kernel_rfl) (by kernel_rfl) (by kernel_rfl) (by kernel_rfl) (fun _ _ _ h => h) ?hy hS ?_
        case hy =>
          rintro o ho w' ⟨hS1, hS2, hS3⟩
          go_simp
        simp only [Act.put, List.setIfInBounds_toArray, List.set_cons_zero, List.set_cons_succ]
        refine takeW 3 (some 43) (.load 22 (.tmp 42)) (Value.slice (some ⟨b, oa, none⟩) L1 c1) rfl rfl (by kernel_rfl) (by kernel_rfl) (by kernel_rfl) (by kernel_rfl) (fun _ _ _ h => h) ?hy hS ?_
        case hy =>
          rintro o ho w' ⟨hS1, hS2, hS3⟩
          go_simp
        simp only [Act.put, List.setIfInBounds_toArray, List.set_cons_zero, List.set_cons_succ]
        refine takeW 4 (some 44) (.move (.tmp 6)) (Value.int .i64 (k : Int)) rfl rfl (by kernel_rfl) (by kernel_rfl) (by kernel_rfl) (by kernel_rfl) (fun _ _ _ h => h) ?hy hS ?_
        case hy =>
          rintro o ho w' ⟨hS1, hS2, hS3⟩
          go_simp
        simp only [Act.put, List.setIfInBounds_toArray, List.set_cons_zero, List.set_cons_succ]
        refine takeW 5 (some 45) (.indexAddr 22 (.tmp 43) (.tmp 44)) (Value.pointer (some ⟨b, oa + k, none⟩)) rfl rfl (by kernel_rfl) (by kernel_rfl) (by kernel_rfl) (by kernel_rfl) (fun _ _ _ h => h) ?hy hS ?_
        case hy =>
          rintro o ho w' ⟨hS1, hS2, hS3⟩
          go_simp
        simp only [Act.put, List.setIfInBounds_toArray, List.set_cons_zero, List.set_cons_succ]
        refine takeW 6 (some 46) (.load 9 (.tmp 45)) (Value.string key) rfl rfl (by kernel_rfl) (by kernel_rfl) (by kernel_rfl) (by kernel_rfl) (fun _ _ _ h => h) ?hy hS ?_
        case hy =>
          rintro o ho w' ⟨hS1, hS2, hS3⟩
          go_simp
        simp only [Act.put, List.setIfInBounds_toArray, List.set_cons_zero, List.set_cons_succ]
        refine readyW 7 (some 47) (.call { callee := .builtin .append, args := #[.tmp 41, .tmp 46], argTypes := #[32, 9] }) rfl (by kernel_rfl) ?_
        rintro o K hd ho hg hK
        refine wp_strB (w := cw1.drew) (.tmp 41) (.tmp 46) ho W2.heap.size _ X1 rfl HON.out key rfl HLN.out HBN.out ?_
        intro v6 w6 o6 g6
        obtain ⟨X2, hX2⟩ : ∃ X, Hid (X1 ++ bts key = X) := ⟨_, rfl⟩
        rw [hX2.out] at o6
        obtain ⟨k6, b6, k7, o7, b7⟩ := after_more KQ1.out HCW.out OV1.out HQB.out HBW.out g6 o6
        obtain ⟨va2, vc2, e6⟩ := o6.long
        obtain ⟨vl2, hnl⟩ : ∃ l, Hid (X2.length = l) := ⟨_, rfl⟩
        rw [hnl.out] at e6
        subst e6
        have hS6 := HSK.out w6 b6 k6
        have f6 := k6.fz 1
        have K7 := hideN k7
        have O7 := hideN o7
        have B7 := hideN b7
        have HXL2 : Hid (X2.length ≤ 1200) := by show _ ≤ _; rw [← hX2.out]; have := HXL1.out; have := HTX.out; simp [bts_len]; omega
        rw [hd]
        refine hK _ _ (fun _ => hS6) ?_
        clear ho hd hg hK o6 g6 b6 k7 o7 b7 hnl
        simp only [Act.put, List.setIfInBounds_toArray, List.set_cons_zero, List.set_cons_succ]
        refine readyW 8 (some 48) (.fieldAddr 34 (.tmp 5) 1) rfl (by kernel_rfl) ?_
        rintro o K hd ho hg hK
        refine stepY (v := Value.pointer (some ⟨q, 1, none⟩)) ?hy ?_
        case hy => go_simp
        rw [hd]
        refine hK _ _ (fun _ => hS6) ?_
        clear ho hd hg hK
        simp only [Act.put, List.setIfInBounds_toArray, List.set_cons_zero, List.set_cons_succ]
        refine readyW 9 none (.store 32 (.tmp 48) (.tmp 47)) rfl (by kernel_rfl) ?_
        rintro o K hd ho hg hK
        refine wp_storeB ho rfl rfl hS6.1 f6 ?_
        rw [hd]
        refine hK _ _ (fun e => absurd rfl e) ?_
        refine doneW (by kernel_rfl) ?_ _
        clear ho hd hg hK hS hS6 f6 k6
        simp only [Act.put]
        obtain ⟨cw2, hW7⟩ : ∃ W7, Hid (w6.setCell ⟨q, 1, none⟩ (.slice va2 vl2 vc2) = W7) := ⟨_, rfl⟩
        rw [hW7.out] at K7 O7 B7
        rw [hW7.out]
        have KQ2 := K7
        have OV2 := O7
        have BC2 : Hid (Below W2.heap.size W2 cw2) := BC1.out.trans B7.out
        clear HSK HCW HON HBN HLN HBW VB KQ1 OV1 BC1 K7 O7 B7 hW7 HXL1
        have hkd := HR.out.kd hlf.out
        obtain ⟨b2, o2, rfl, cv⟩ := H2.out.kid (i := k) (by rw [hkd.1]; exact HKL.out)
        have CV := hideN cv
        have HBL2 : Hid (b2 < W2.heap.size) := World.block_lt_of_cell? W2 ⟨b2, o2 + k, none⟩ cv
        have hl3 : L3 = L1 := by rw [← hL1.out, ← hL3.out]; exact hkd.1
        have hk3 : k < L3 := by omega
        have hds := hkd.2.2 k HKL.out
        obtain ⟨d, hdd⟩ : ∃ s, Hid (dA n k = s) := ⟨_, rfl⟩
        rw [if_neg (by rw [hlf.out]; decide)] at HDF
        rw [hdd.out] at CV hds HDF
        obtain ⟨hd0, hd1⟩ := hds
        clear hl3 hkd cv
        have p0 := (V2.out.below BC2.out).c0
        have VB : Hid (Nb cw2 25 w.heap.size false (.slice (some ⟨b, oa, none⟩) L1 c1) (.slice a2 L2 c2) (.slice (some ⟨b2, o2, none⟩) L3 c3)) := V2.out.below BC2.out
        have HBW : Hid (W2.heap.size ≤ cw2.heap.size) := BC2.out.size
        have HSK : Hid (∀ w', Below W2.heap.size cw2 w' → Kb w' q 2 (.slice va2 vl2 vc2) → w'.cell? ⟨q, 1, none⟩ = some (.slice va2 vl2 vc2) ∧ w'.cell? ⟨w.heap.size, 3, none⟩ = some (.slice (some ⟨b2, o2, none⟩) L3 c3) ∧ w'.cell? ⟨b2, o2 + k, none⟩ = some (.int .i64 d)) := fun w' hb hk =>
          ⟨hk.c1, by rw [hb.cell (p := ⟨w.heap.size, 3, none⟩) HW2.out]; exact VB.out.c3, by rw [hb.cell (p := ⟨b2, o2 + k, none⟩) HBL2.out, BC2.out.cell (p := ⟨b2, o2 + k, none⟩) HBL2.out]; exact CV.out⟩
        have hS : cw2.drew.cell? ⟨q, 1, none⟩ = some (.slice va2 vl2 vc2) ∧ cw2.drew.cell? ⟨w.heap.size, 3, none⟩ = some (.slice (some ⟨b2, o2, none⟩) L3 c3) ∧ cw2.drew.cell? ⟨b2, o2 + k, none⟩ = some (.int .i64 d) := HSK.out cw2 (Below.refl _ _) KQ2.out
        have HCW : Hid (Below cw2.heap.size cw2 (cw2.drew.alloc (.cells #[.int .u8 (d % 256), .int .u8 (d / 256)] 5))) := (Below.refl _ _).drew.alloc (Nat.le_refl _) _
        have HON : Hid (OwB W2.heap.size (cw2.drew.alloc (.cells #[.int .u8 (d % 256), .int .u8 (d / 256)] 5)) (.slice va2 vl2 vc2) X2) := OV2.out.below HCW.out
        have HBN : Hid (W2.heap.size ≤ (cw2.drew.alloc (.cells #[.int .u8 (d % 256), .int .u8 (d / 256)] 5)).heap.size) := Nat.le_trans HBW.out HCW.out.size
        have HLN : Hid (X2.length + [d % 256, d / 256].length ≤ 100000) := by show _ ≤ _; have := HXL2.out; have := hd0; simp; omega
        have u1 : d.tmod 256 = d % 256 := Int.tmod_eq_emod_of_nonneg hd0
        have u2 : d.tdiv 256 = d / 256 := Int.tdiv_eq_ediv_of_nonneg hd0
        have m1 : 0 ≤ d % 256 := by omega
        have m2 : d % 256 ≤ 255 := by omega
        have m3 : 0 ≤ d / 256 := by omega
        have m4 : d / 256 ≤ 255 := by omega
        have m5 : IntKind.u8.wrap (d % 256) = d % 256 := by rw [u8_low]; omega
        have m6 : IntKind.u8.wrap (d / 256) = d / 256 := by rw [u8_low]; omega
        have m7 : IntKind.i64.wrap (d / 256) = d / 256 := by rw [IntKind.wrap_i64]; omega
        have hSb : (cw2.drew.alloc (.cells #[.int .u8 (d % 256), .int .u8 (d / 256)] 5)).cell? ⟨q, 1, none⟩ = some (.slice va2 vl2 vc2) ∧ (cw2.drew.alloc (.cells #[.int .u8 (d % 256), .int .u8 (d / 256)] 5)).cell? ⟨w.heap.size, 3, none⟩ = some (.slice (some ⟨b2, o2, none⟩) L3 c3) ∧ (cw2.drew.alloc (.cells #[.int .u8 (d % 256), .int .u8 (d / 256)] 5)).cell? ⟨b2, o2 + k, none⟩ = some (.int .i64 d) := HSK.out _ (HCW.out.mono HBW.out) (KQ2.out.below HCW.out)
        have HCN : Hid (∀ j u, (List.map (Value.int .u8) [d % 256, d / 256])[j]? = some u → (cw2.drew.alloc (.cells #[.int .u8 (d % 256), .int .u8 (d / 256)] 5)).cell? ⟨cw2.heap.size, j, none⟩ = some u) := cells_new cw2.drew [d % 256, d / 256]
        go_wp2_with fail
        refine beginW (S := fun w' => w'.cell? ⟨q, 1, none⟩ = some (.slice va2 vl2 vc2) ∧ w'.cell? ⟨w.heap.size, 3, none⟩ = some (.slice (some ⟨b2, o2, none⟩) L3 c3) ∧ w'.cell? ⟨b2, o2 + k, none⟩ = some (.int .i64 d)) (t := 19) (by kernel_rfl) ?_
        refine takeW 0 (some 72) (.fieldAddr 34 (.tmp 5) 1) (Value.pointer (some ⟨q, 1, none⟩)) rfl rfl (by kernel_rfl) (by kernel_rfl) (by kernel_rfl) (by kernel_rfl) (fun _ _ _ h => h) ?hy hS ?_
        case hy =>
          rintro o ho w' ⟨hS1, hS2, hS3⟩
          go_simp
        simp only [Act.put, List.setIfInBounds_toArray, List.set_cons_zero, List.set_cons_succ]
        refine takeW 1 (some 73) (.load 32 (.tmp 72)) (Value.slice va2 vl2 vc2) rfl rfl (by kernel_rfl) (by kernel_rfl) (by kernel_rfl) (by kernel_rfl) (fun _ _ _ h => h) ?hy hS ?_
        case hy =>
          rintro o ho w' ⟨hS1, hS2, hS3⟩
          go_simp
        simp only [Act.put, List.setIfInBounds_toArray, List.set_cons_zero, List.set_cons_succ]
        refine takeW 2 (some 74) (.fieldAddr 25 (.tmp 1) 3) (Value.pointer (some ⟨w.heap.size, 3, none⟩)) rfl rfl (by kernel_rfl) (by kernel_rfl) (by kernel_rfl) (by kernel_rfl) (fun _ _ _ h => h) ?hy hS ?_
        case hy =>
          rintro o ho w' ⟨hS1, hS2, hS3⟩
          go_simp
        simp only [Act.put, List.setIfInBounds_toArray, List.set_cons_zero, List.set_cons_succ]
        refine takeW 3 (some 75) (.load 23 (.tmp 74)) (Value.slice (some ⟨b2, o2, none⟩) L3 c3) rfl rfl (by kernel_rfl) (by kernel_rfl) (by kernel_rfl) (by kernel_rfl) (fun _ _ _ h => h) ?hy hS ?_
        case hy =>
          rintro o ho w' ⟨hS1, hS2, hS3⟩
          go_simp
        simp only [Act.put, List.setIfInBounds_toArray, List.set_cons_zero, List.set_cons_succ]
        refine takeW 4 (some 76) (.move (.tmp 6)) (Value.int .i64 (k : Int)) rfl rfl (by kernel_rfl) (by kernel_rfl) (by kernel_rfl) (by kernel_rfl) (fun _ _ _ h => h) ?hy hS ?_
        case hy =>
          rintro o ho w' ⟨hS1, hS2, hS3⟩
          go_simp
        simp only [Act.put, List.setIfInBounds_toArray, List.set_cons_zero, List.set_cons_succ]
        refine takeW 5 (some 77) (.indexAddr 23 (.tmp 75) (.tmp 76)) (Value.pointer (some ⟨b2, o2 + k, none⟩)) rfl rfl (by kernel_rfl) (by kernel_rfl) (by kernel_rfl) (by kernel_rfl) (fun _ _ _ h => h) ?hy hS ?_
        case hy =>
          rintro o ho w' ⟨hS1, hS2, hS3⟩
          go_simp
        simp only [Act.put, List.setIfInBounds_toArray, List.set_cons_zero, List.set_cons_succ]
        refine takeW 6 (some 78) (.load 3 (.tmp 77)) (Value.int .i64 d) rfl rfl (by kernel_rfl) (by kernel_rfl) (by kernel_rfl) (by kernel_rfl) (fun _ _ _ h => h) ?hy hS ?_
        case hy =>
          rintro o ho w' ⟨hS1, hS2, hS3⟩
          go_simp
        simp only [Act.put, List.setIfInBounds_toArray, List.set_cons_zero, List.set_cons_succ]
        refine takeW 7 (some 79) (.binOp .rem 3 (.tmp 78) (.const (.int .i64 256)) 3) (Value.int .i64 (d % 256)) rfl rfl (by kernel_rfl) (by kernel_rfl) (by kernel_rfl) (by kernel_rfl) (fun _ _ _ h => h) ?hy hS ?_
        case hy =>
          rintro o ho w' ⟨hS1, hS2, hS3⟩
          go_simp
        simp only [Act.put, List.setIfInBounds_toArray, List.set_cons_zero, List.set_cons_succ]
        refine takeW 8 (some 80) (.convert 3 5 (.tmp 79)) (Value.int .u8 (d % 256)) rfl rfl (by kernel_rfl) (by kernel_rfl) (by kernel_rfl) (by kernel_rfl) (fun _ _ _ h => h) ?hy hS ?_
        case hy =>
          rintro o ho w' ⟨hS1, hS2, hS3⟩
          go_simp
        simp only [Act.put, List.setIfInBounds_toArray, List.set_cons_zero, List.set_cons_succ]
        refine takeW 9 (some 81) (.fieldAddr 25 (.tmp 1) 3) (Value.pointer (some ⟨w.heap.size, 3, none⟩)) rfl rfl (by kernel_rfl) (by kernel_rfl) (by kernel_rfl) (by kernel_rfl) (fun _ _ _ h => h) ?hy hS ?_
        case hy =>
          rintro o ho w' ⟨hS1, hS2, hS3⟩
          go_simp
        simp only [Act.put, List.setIfInBounds_toArray, List.set_cons_zero, List.set_cons_succ]
        refine takeW 10 (some 82) (.load 23 (.tmp 81)) (Value.slice (some ⟨b2, o2, none⟩) L3 c3) rfl rfl (by kernel_rfl) (by kernel_rfl) (by kernel_rfl) (by kernel_rfl) (fun _ _ _ h => h) ?hy hS ?_
        case hy =>
          rintro o ho w' ⟨hS1, hS2, hS3⟩
          go_simp
        simp only [Act.put, List.setIfInBounds_toArray, List.set_cons_zero, List.set_cons_succ]
        refine takeW 11 (some 83) (.move (.tmp 6)) (Value.int .i64 (k : Int)) rfl rfl (by kernel_rfl) (by kernel_rfl) (by kernel_rfl) (by kernel_rfl) (fun _ _ _ h => h) ?hy hS ?_
        case hy =>
          rintro o ho w' ⟨hS1, hS2, hS3⟩
          go_simp
        simp only [Act.put, List.setIfInBounds_toArray, List.set_cons_zero, List.set_cons_succ]
        refine takeW 12 (some 84) (.indexAddr 23 (.tmp 82) (.tmp 83)) (Value.pointer (some ⟨b2, o2 + k, none⟩)) rfl rfl (by kernel_rfl) (by kernel_rfl) (by kernel_rfl) (by kernel_rfl) (fun _ _ _ h => h) ?hy hS ?_
        case hy =>
          rintro o ho w' ⟨hS1, hS2, hS3⟩
          go_simp
        simp only [Act.put, List.setIfInBounds_toArray, List.set_cons_zero, List.set_cons_succ]
        refine takeW 13 (some 85) (.load 3 (.tmp 84)) (Value.int .i64 d) rfl rfl (by kernel_rfl) (by kernel_rfl) (by kernel_rfl) (by kernel_rfl) (fun _ _ _ h => h) ?hy hS ?_
        case hy =>
          rintro o ho w' ⟨hS1, hS2, hS3⟩
          go_simp
        simp only [Act.put, List.setIfInBounds_toArray, List.set_cons_zero, List.set_cons_succ]
        refine takeW 14 (some 86) (.binOp .quo 3 (.tmp 85) (.const (.int .i64 256)) 3) (Value.int .i64 (d / 256)) rfl rfl (by kernel_rfl) (by kernel_rfl) (by kernel_rfl) (by kernel_rfl) (fun _ _ _ h => h) ?hy hS ?_
        case hy =>
          rintro o ho w' ⟨hS1, hS2, hS3⟩
          go_simp
        simp only [Act.put, List.setIfInBounds_toArray, List.set_cons_zero, List.set_cons_succ]
        refine takeW 15 (some 87) (.convert 3 5 (.tmp 86)) (Value.int .u8 (d / 256)) rfl rfl (by kernel_rfl) (by kernel_rfl) (by kernel_rfl) (by kernel_rfl) (fun _ _ _ h => h) ?hy hS ?_
        case hy =>
          rintro o ho w' ⟨hS1, hS2, hS3⟩
          go_simp
        simp only [Act.put, List.setIfInBounds_toArray, List.set_cons_zero, List.set_cons_succ]
        refine readyW 16 (some 88) (.buildSlice 32 2 #[(0, .tmp 80), (1, .tmp 87)]) rfl (by kernel_rfl) ?_
        rintro o K hd ho hg hK
        refine wp_build2B (.tmp 80) (.tmp 87) ho (d % 256) (d / 256) rfl rfl ?_
        rw [hd]
        refine hK _ _ (fun _ => hSb) ?_
        clear ho hd hg hK
        simp only [Act.put, List.setIfInBounds_toArray, List.set_cons_zero, List.set_cons_succ]
        refine readyW 17 (some 89) (.call { callee := .builtin .append, args := #[.tmp 73, .tmp 88], argTypes := #[32, 32] }) rfl (by kernel_rfl) ?_
        rintro o K hd ho hg hK
        refine wp_moreB (w := (cw2.drew.alloc (.cells #[.int .u8 (d % 256), .int .u8 (d / 256)] 5))) (.tmp 73) (.tmp 88) ho W2.heap.size _ X2 rfl HON.out cw2.heap.size [d % 256, d / 256] rfl HCN.out HLN.out HBN.out ?_
        intro v6 w6 o6 g6
        obtain ⟨X3, hX3⟩ : ∃ X, Hid (X2 ++ [d % 256, d / 256] = X) := ⟨_, rfl⟩
        rw [hX3.out] at o6
        obtain ⟨k6, b6, k7, o7, b7⟩ := after_more KQ2.out HCW.out OV2.out HQB.out HBW.out g6 o6
        obtain ⟨va3, vc3, e6⟩ := o6.long
        obtain ⟨vl3, hnl⟩ : ∃ l, Hid (X3.length = l) := ⟨_, rfl⟩
        rw [hnl.out] at e6
        subst e6
        have hS6 := HSK.out w6 b6 k6
        have f6 := k6.fz 1
        have K7 := hideN k7
        have O7 := hideN o7
        have B7 := hideN b7
        have HXL3 : Hid (X3.length ≤ 1300) := by show _ ≤ _; rw [← hX3.out]; have := HXL2.out; have := hd0; simp [bts_len]; omega
        rw [hd]
        refine hK _ _ (fun _ => hS6) ?_
        clear ho hd hg hK o6 g6 b6 k7 o7 b7 hnl
        simp only [Act.put, List.setIfInBounds_toArray, List.set_cons_zero, List.set_cons_succ]
        refine readyW 18 (some 90) (.fieldAddr 34 (.tmp 5) 1) rfl (by kernel_rfl) ?_
        rintro o K hd ho hg hK
        refine stepY (v := Value.pointer (some ⟨q, 1, none⟩)) ?hy ?_
        case hy => go_simp
        rw [hd]
        refine hK _ _ (fun _ => hS6) ?_
        clear ho hd hg hK
        simp only [Act.put, List.setIfInBounds_toArray, List.set_cons_zero, List.set_cons_succ]
        refine readyW 19 none (.store 32 (.tmp 90) (.tmp 89)) rfl (by kernel_rfl) ?_
        rintro o K hd ho hg hK
        refine wp_storeB ho rfl rfl hS6.1 f6 ?_
        rw [hd]
        refine hK _ _ (fun e => absurd rfl e) ?_
        refine doneW (by kernel_rfl) ?_ _
        clear ho hd hg hK hS hS6 f6 k6
        simp only [Act.put]
        obtain ⟨cw3, hW7⟩ : ∃ W7, Hid (w6.setCell ⟨q, 1, none⟩ (.slice va3 vl3 vc3) = W7) := ⟨_, rfl⟩
        rw [hW7.out] at K7 O7 B7
        rw [hW7.out]
        have KQ3 := K7
        have OV3 := O7
        have BC3 : Hid (Below W2.heap.size W2 cw3) := BC2.out.trans B7.out
        clear HSK HCW HON HBN HLN HBW VB KQ2 OV2 BC2 K7 O7 B7 hW7 HXL2
        clear hSb HCN u1 u2 m1 m2 m3 m4 m5 m6 m7
        clear p0
        have O9 : Hid (OwB W2.heap.size cw3 (.slice va3 vl3 vc3) (encN n (k + 1))) := by
          rw [HIT.out, HDF.out]
          have := OV3.out
          rw [← hX3.out, ← hX2.out, ← hX1.out] at this
          show OwB _ _ _ _
          simpa using this
        go_wp2_with fail
        go_roundw
        case rel => exact ⟨k + 1, _, by omega, by go_num, KQ3, O9, BC3⟩
        case measure => simp [intOf]; omega
      · have hkl : k = L1 := by omega
        rw [hkl, hT.out] at OV0
        have V9 := V2.out.below BC0.out
        have K9 : Kb cw0 W1.heap.size 0 (.slice none 0 0) := K2.out.below BC0.out
        obtain ⟨va0, vc0, hv0⟩ := OV0.out.long
        obtain ⟨vl0, hvl⟩ : ∃ l, Hid (T.length = l) := ⟨_, rfl⟩
        rw [hvl.out] at hv0
        subst hv0
        have p1 := V9.c1
        have y0 := KQ0.out.c0
        have y1 := KQ0.out.c1
        have s0 := K9.c0
        have s1 := K9.c1
        have g0 := K9.fz 0
        have g1 := K9.fz 1
        obtain ⟨WA, hWA⟩ : ∃ WA, Hid ((cw0.setCell ⟨W1.heap.size, 0, none⟩ (.int .i64 2)).setCell ⟨W1.heap.size, 1, none⟩ (.slice va0 vl0 vc0) = WA) := ⟨_, rfl⟩
        have KA : Hid (Kb WA W1.heap.size 2 (.slice va0 vl0 vc0)) := by rw [← hWA.out]; exact K9.put _ _
        have tA : Tch (fun j => j = W1.heap.size) cw0 WA := by rw [← hWA.out]; exact tch_two _ _ _ _
        have RA : Hid (Rd .u8 WA (.slice va0 vl0 vc0) T) := (OV0.out.tch tA (fun j hj e => OV0.out.ne K9 (by decide) (by rw [hj, e]))).rd
        have b9 : Below w.heap.size w cw0 := B2.out.trans (BC0.out.mono B2.out.size)
        have BA : Hid (Below w.heap.size w WA) := b9.trans (tA.below b9.size (fun j e => by have := HW1.out; omega))
        clear V9 K9 tA b9 KQ0 OV0 BC0
        go_wp2_with fail
        rw [hWA.out]
        refine bodyPost_ret (v := .tuple #[blN 2 (.slice va0 vl0 vc0), .int .i64 0]) (results_twoN (p := 2) (ty := 34) rfl _ _ _ W1.heap.size _ _ rfl KA.out.load rfl) rfl ?_
        exact ⟨⟨_, rfl, RA.out⟩, BA.out⟩
end Go.Proofs.Ytbpaeecclikeiaa
