/-
  The bytes of a node that may be: the program's written.
-/
import Derived.Test.YtbpaeecclikeiaaNPutT
import Derived.Test.YtbpaeecclikeiaaNReal
import Derived.Deep.RegionHeld3
namespace Go.Proofs.Ytbpaeecclikeiaa
open Go.RowKit Pl
set_option linter.unusedVariables false
set_option linter.unusedSimpArgs false
set_option maxRecDepth 100000

set_option maxHeartbeats 1000000 in
theorem written_any (n : Nd) (u1 u2 u3 : Value) (w : World) (h : Nn w n u1 u2 u3) (hs : Sm n) (hr : Rl n) :
    Calls Try.prog 32 #[nod n.lf u1 u2 u3] w fun e w' => (∃ v, e = .returned v ∧ OwB w.heap.size w' v (encN n n.ks.length)) ∧ Below w.heap.size w w' := by
  obtain ⟨a1, c1, a2, c2, a3, c3, rfl, rfl, rfl, ⟨l1, l2, l3, l4, l5, l6⟩, _, _, _⟩ := h.out
  have H := hideN h
  have HS := hideN hs
  obtain ⟨L1, hL1⟩ : ∃ L, Hid (n.ks.length = L) := ⟨_, rfl⟩
  obtain ⟨L2, hL2⟩ : ∃ L, Hid (n.vs.length = L) := ⟨_, rfl⟩
  obtain ⟨L3, hL3⟩ : ∃ L, Hid (n.kd.length = L) := ⟨_, rfl⟩
  rw [hL1.out] at H l1 ⊢
  rw [hL2.out] at H l3 ⊢
  rw [hL3.out] at H l5 ⊢
  obtain ⟨lf, hlf⟩ : ∃ lf, Hid (n.lf = lf) := ⟨_, rfl⟩
  rw [hlf.out]
  unfold nod
  obtain ⟨W1, hW1⟩ : ∃ W1, w.alloc (.cells #[.bool lf, .slice a1 L1 c1, .slice a2 L2 c2, .slice a3 L3 c3] 26) = W1 := ⟨_, rfl⟩
  have B1 : Hid (Below w.heap.size w W1) := by rw [← hW1]; exact below_alloc _ _
  have V1 : Hid (Nb W1 26 w.heap.size lf (.slice a1 L1 c1) (.slice a2 L2 c2) (.slice a3 L3 c3)) := by rw [← hW1]; exact nb_new _ _ _ _ _ _
  have H1 : Hid (Nn W1 n (.slice a1 L1 c1) (.slice a2 L2 c2) (.slice a3 L3 c3)) := H.out.below B1.out
  have HR := hideN hr
  have hl1 : L1 ≤ 239 := by have := hr.len.2; rw [hL1.out] at this; exact this
  obtain ⟨z, hz⟩ : ∃ z : Nat, Hid (szN n n.ks.length = z) := ⟨_, rfl⟩
  have hz1 : z ≤ 240 := by have := hr.sz; rw [hz.out] at this; exact this
  have HZ1 : Hid (∀ W, Below W1.heap.size W1 W → Calls Try.prog 13 #[.agg #[.bool lf, .slice a1 L1 c1, .slice a2 L2 c2, .slice a3 L3 c3]] W fun e w' => e = .returned (.int .i64 (z : Int)) ∧ Below W.heap.size W w') := fun W hb => by
    have := size_any n _ _ _ W (H1.out.below hb) HS.out
    rw [hlf.out, W_small (by rw [hz.out]; omega), hz.out] at this
    exact this
  have p0 := V1.out.c0
  have p1 := V1.out.c1
  have p2 := V1.out.c2
  have p3 := V1.out.c3
  obtain ⟨i0, hi, hy0, hy1, hy2⟩ := inf_u8
  obtain ⟨T, hT⟩ : ∃ T, Hid (encN n L1 = T) := ⟨_, rfl⟩
  rw [hT.out]
  clear h hs H hr
  go_enter Try.func32, Try.ntmps32
  go_wp2_with fail
  refine (HZ1.out W1 (Below.refl _ _)).mono ?_
  rintro e w2 ⟨rfl, b2⟩
  have B2 := hideN b2
  have hB2 : W1.heap.size ≤ w2.heap.size := b2.size
  clear b2 p0 p1 p2 p3 hW1 HZ1
  go_wp2_with (at_make; refine wpList_make_own _ rfl (.const (.int .i64 0)) (.tmp 6) 32 rfl W1.heap.size 5 i0 _ 1 Try.underlying32 hi hy0 hy1 .i64 .i64 _ z rfl rfl rfl (by rw [hy2]; omega) (by unfold maxLen; omega) hB2 ?_)
  intro w3 ho3 hg3
  have b3 : Below w2.heap.size w2 w3 := (Below.refl _ _).grown hg3 (Nat.le_refl _) (fun k e => by cases e)
  have O3 : Hid (OwB W1.heap.size w3 (.slice (some ⟨w2.heap.size, 0, none⟩) 0 z) []) := ho3
  have B3 : Hid (Below W1.heap.size W1 w3) := B2.out.trans (b3.mono B2.out.size)
  have p1 := (V1.out.below B3.out).c1
  have HB3 : Hid (W1.heap.size ≤ w3.heap.size) := B3.out.size
  have HE0 : Hid (encN n 0 = [(L1 : Int)]) := by show _ = _; unfold encN; rw [hL1.out]
  clear ho3 hg3 b3 B2 hi hy0 hy1 hy2 hB2
  go_wp2_with (at_builtin; refine wpList_moreB _ rfl (.tmp 8) (.tmp 13) rfl W1.heap.size _ [] rfl (O3.out.below (below_alloc _ _)) w3.heap.size [(L1 : Int)] rfl (cells_new w3 [(L1 : Int)]) (by simp) (by have := HB3.out; simp; omega) ?_)
  intro v4 w4 o4 g4
  have b4 : Below W1.heap.size w3 w4 := ((below_alloc w3 _).mono HB3.out).trans (g4.below (O3.out.below (below_alloc _ _)) (by have := HB3.out; simp; omega))
  have B4 : Hid (Below W1.heap.size W1 w4) := B3.out.trans b4
  have O4 : Hid (OwB W1.heap.size w4 v4 (encN n 0)) := by rw [HE0.out]; exact o4
  clear o4 g4 b4 O3 B3 p1 HB3
  have p1 := (V1.out.below B4.out).c1
  go_wp2_with fail
  go_loopw [3, 18] (fun v i wr => ∃ (k : Nat) (v0 : Value), k ≤ L1 ∧ i = .int .i64 k ∧ v0 = v ∧ Hid (OwB W1.heap.size wr v0 (encN n k)) ∧ Hid (Below W1.heap.size W1 wr)) (fun _ i _ => L1 - (intOf i).toNat)
  case atStart => exact ⟨0, v4, Nat.zero_le _, rfl, rfl, O4, B4⟩
  case round =>
    clear O4 B4 p1 HE0
    obtain ⟨k, v0, hk, rfl, rfl, OR, BR⟩ := hrel
    by_cases hlt : k < L1
    · have V2 : Hid (Nb wr 26 w.heap.size lf (.slice a1 L1 c1) (.slice a2 L2 c2) (.slice a3 L3 c3)) := V1.out.below BR.out
      have HKL : Hid (k < n.ks.length) := by rw [hL1.out]; exact hlt
      obtain ⟨b, o, rfl, ck⟩ := (H1.out.below BR.out).key (i := k) HKL.out
      have HIT : Hid (encN n (k + 1) = encN n k ++ itm n k ∧ (encN n k).length ≤ 240) := ⟨rfl, enc_le HR.out (by rw [hL1.out]; omega)⟩
      have hks := HR.out.ks k HKL.out
      have HDF : Hid (itm n k = ((kA n k).size : Int) :: (bts (kA n k) ++ (if n.lf = true then ((vA n k).size : Int) :: bts (vA n k) else [dA n k % 256, dA n k / 256]))) := rfl
      obtain ⟨key, hkey⟩ : ∃ s, Hid (kA n k = s) := ⟨_, rfl⟩
      rw [hkey.out] at ck hks HDF
      have p0 := V2.out.c0
      have p1 := V2.out.c1
      have HC1 := hideN (putText_any W1.heap.size v0 (encN n k) key wr OR.out (by have := HIT.out.2; omega) hks BR.out.size)
      have HKS := hideN hks
      clear hks
      go_wp2_with fail
      refine HC1.out.mono ?_
      rintro e w5 ⟨⟨v5, rfl, o5⟩, b5⟩
      have B5 : Hid (Below W1.heap.size W1 w5) := BR.out.trans b5
      have O5 := hideN o5
      have V5 : Hid (Nb w5 26 w.heap.size lf (.slice (some ⟨b, o, none⟩) L1 c1) (.slice a2 L2 c2) (.slice a3 L3 c3)) := V1.out.below B5.out
      have HL5 : Hid ((encN n k ++ ((key.size : Int) :: bts key)).length ≤ 1000) := by show _ ≤ _; have := HIT.out.2; have := HKS.out; rw [List.length_append, List.length_cons, bts_len]; omega
      clear b5 o5 p0 p1 ck HC1 OR
      have p0 := V5.out.c0
      cases lf with
      | true =>
        obtain ⟨b', o', rfl, cv⟩ := (H1.out.below B5.out).val (i := k) (by rw [(HR.out.vs hlf.out).1]; exact HKL.out)
        have hl2 : L2 = L1 := by rw [← hL1.out, ← hL2.out]; exact (HR.out.vs hlf.out).1
        have hk2 : k < L2 := by omega
        have hvs := (HR.out.vs hlf.out).2.2 k HKL.out
        obtain ⟨val, hval⟩ : ∃ s, Hid (vA n k = s) := ⟨_, rfl⟩
        rw [if_pos hlf.out] at HDF
        rw [hval.out] at cv hvs HDF
        have HC2 := hideN (putText_any W1.heap.size v5 _ val w5 O5.out (by have := HL5.out; omega) hvs B5.out.size)
        have p2 := V5.out.c2
        clear hvs hl2
        go_wp2_with fail
        refine HC2.out.mono ?_
        rintro e w6 ⟨⟨v6, rfl, o6⟩, b6⟩
        have B6 : Hid (Below W1.heap.size W1 w6) := B5.out.trans b6
        have O6 : Hid (OwB W1.heap.size w6 v6 (encN n (k + 1))) := by
          rw [HIT.out.1, HDF.out]
          have := o6
          rw [List.append_assoc, List.cons_append] at this
          exact this
        clear o6 b6 HC2 cv p0 p2 O5 B5
        go_wp2_with fail
        go_roundw
        case rel => exact ⟨k + 1, v6, by omega, by go_num, rfl, O6, B6⟩
        case measure => simp [intOf]; omega
      | false =>
        have hkd := HR.out.kd hlf.out
        obtain ⟨b', o', rfl, cv⟩ := (H1.out.below B5.out).kid (i := k) (by rw [hkd.1]; exact HKL.out)
        have hl3 : L3 = L1 := by rw [← hL1.out, ← hL3.out]; exact hkd.1
        have hk3 : k < L3 := by omega
        have hds := hkd.2.2 k HKL.out
        obtain ⟨d, hd⟩ : ∃ s, Hid (dA n k = s) := ⟨_, rfl⟩
        rw [if_neg (by rw [hlf.out]; decide)] at HDF
        rw [hd.out] at cv hds HDF
        obtain ⟨hd0, hd1⟩ := hds
        have p3 := V5.out.c3
        clear hl3 hkd
        obtain ⟨X5, hX5⟩ : ∃ X, Hid (encN n k ++ ((key.size : Int) :: bts key) = X) := ⟨_, rfl⟩
        rw [hX5.out] at O5 HL5
        have HL6 : Hid (X5.length + [d % 256, d / 256].length ≤ 100000) := by show _ ≤ _; have := HL5.out; simp; omega
        have HB5 : Hid (W1.heap.size ≤ w5.heap.size) := B5.out.size
        have HU : Hid (IntKind.u8.wrap d = d % 256 ∧ IntKind.u8.wrap (d / 256) = d / 256) := ⟨u8_low d, u8_high hd0 hd1⟩
        have bA : Below w5.heap.size w5 (w5.alloc (.cells #[.int .u8 (IntKind.u8.wrap d), .int .u8 (IntKind.u8.wrap (d / 256))] 5)).drew := (below_alloc w5 _).drew
        have HO : Hid (OwB W1.heap.size (w5.alloc (.cells #[.int .u8 (IntKind.u8.wrap d), .int .u8 (IntKind.u8.wrap (d / 256))] 5)).drew v5 X5) := O5.out.below bA
        have HBB : Hid (W1.heap.size ≤ (w5.alloc (.cells #[.int .u8 (IntKind.u8.wrap d), .int .u8 (IntKind.u8.wrap (d / 256))] 5)).drew.heap.size) := Nat.le_trans HB5.out bA.size
        have HG : Hid (∀ j u, (List.map (Value.int .u8) [d % 256, d / 256])[j]? = some u → (w5.alloc (.cells #[.int .u8 (IntKind.u8.wrap d), .int .u8 (IntKind.u8.wrap (d / 256))] 5)).drew.cell? ⟨w5.heap.size, j, none⟩ = some u) := fun j u hu => by
          rw [HU.out.1, HU.out.2]
          exact cells_new w5 [d % 256, d / 256] j u hu
        have HBL : Hid (∀ w', Gb W1.heap.size (w5.alloc (.cells #[.int .u8 (IntKind.u8.wrap d), .int .u8 (IntKind.u8.wrap (d / 256))] 5)).drew w' v5 → Below W1.heap.size w5 w') := fun w' g => (bA.mono HB5.out).trans (g.below HO.out HBB.out)
        have hb' : b' < W1.heap.size := by
          obtain ⟨b2, o2, e, c⟩ := H1.out.kid (i := k) (by rw [(HR.out.kd hlf.out).1]; exact HKL.out)
          cases e
          exact World.block_lt_of_cell? W1 ⟨b', o' + k, none⟩ c
        have hw1 : w.heap.size < W1.heap.size := V1.out.lt
        have HKP : Hid (∀ w', Below W1.heap.size w5 w' → w'.cell? ⟨w.heap.size, 3, none⟩ = some (.slice (some ⟨b', o', none⟩) L3 c3) ∧ w'.cell? ⟨b', o' + k, none⟩ = some (.int .i64 d)) := fun w' hb =>
          ⟨by rw [hb.cell (p := ⟨w.heap.size, 3, none⟩) hw1]; exact p3, by rw [hb.cell (p := ⟨b', o' + k, none⟩) hb']; exact cv⟩
        clear bA hb' hw1
        go_wp2_with fail
        go_region_held3 (fun w' => w'.cell? ⟨w.heap.size, 3, none⟩ = some (.slice (some ⟨b', o', none⟩) L3 c3) ∧ w'.cell? ⟨b', o' + k, none⟩ = some (.int .i64 d)) (first | go_keep | exact hS6)
          (first
            | (refine step_moreB rfl (.tmp 37) (.tmp 51) rfl W1.heap.size v5 X5 ?h1 HO.out w5.heap.size [d % 256, d / 256] ?h3 HG.out HL6.out HBB.out ?_; (case h1 => kernel_rfl); (case h3 => kernel_rfl); intro v6 w6 o6 g6; have b6 := HBL.out w6 g6; have hS6 := HKP.out w6 b6))
        have B6 : Hid (Below W1.heap.size W1 w6) := B5.out.trans b6
        have O6 : Hid (OwB W1.heap.size w6 v6 (encN n (k + 1))) := by
          rw [HIT.out.1, HDF.out]
          have := o6
          rw [← hX5.out, List.append_assoc, List.cons_append] at this
          exact this
        clear o6 b6 g6 hS6 cv p0 p3 O5 B5 HO HBB HG HBL HKP HU
        go_wp2_with fail
        go_roundw
        case rel => exact ⟨k + 1, v6, by omega, by go_num, rfl, O6, B6⟩
        case measure => simp [intOf]; omega
    · have hkl : k = L1 := by omega
      rw [hkl, hT.out] at OR
      have hB : w.heap.size ≤ W1.heap.size := B1.out.size
      have OF : Hid (OwB w.heap.size wr v0 T) := OR.out.mono hB
      clear hB
      go_wp2_with fail
      go_ret
      exact ⟨⟨_, rfl, OF.out⟩, B1.out.trans (BR.out.mono B1.out.size)⟩
end Go.Proofs.Ytbpaeecclikeiaa
