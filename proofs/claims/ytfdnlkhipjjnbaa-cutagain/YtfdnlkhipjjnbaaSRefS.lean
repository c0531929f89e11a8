/-
  The document's digest.
-/
import Derived.Test.YtfdnlkhipjjnbaaSRefB
import Derived.Test.YtfdnlkhipjjnbaaSSha
namespace Go.Proofs.Ytfdnlkhipjjnbaa
open Go.RowKit Pl
set_option linter.unusedVariables false

theorem pm_ge (xs : List Int) : xs.length + 9 ≤ 64 * np xs.length ∧ 64 * np xs.length ≤ xs.length + 72 := by unfold np; omega
theorem pm_data {xs : List Int} (hb : By xs) : xs = wl (pm xs) xs.length := by
  refine List.ext_getElem (by rw [wl_len]) (fun i h1 h2 => ?_)
  have h3 := bN_eq hb i
  have h4 : (wl (pm xs) xs.length)[i] = (pm xs i : Int) := by simp [wl]
  rw [h4]
  unfold pm
  rw [if_pos h1, ← h3, List.getD_eq_getElem?_getD, List.getElem?_eq_getElem h1]
  rfl
theorem pm_mark (xs : List Int) : pm xs xs.length = 128 := by unfold pm; rw [if_neg (by omega), if_pos rfl]
theorem pm_zero (xs : List Int) (i : Nat) (h1 : xs.length < i) (h2 : i < 64 * np xs.length - 8) : pm xs i = 0 := by
  unfold pm; rw [if_neg (by omega), if_neg (by omega), if_neg (by omega)]
theorem pm_size (xs : List Int) (t : Nat) (h : t < 8) : pm xs (64 * np xs.length - 8 + t) = 8 * xs.length / 2 ^ (56 - 8 * t) % 256 := by
  have := pm_ge xs
  unfold pm
  rw [if_neg (by omega), if_neg (by omega), if_pos (by omega), show 8 * (64 * np xs.length - 1 - (64 * np xs.length - 8 + t)) = 56 - 8 * t by omega]
theorem pm_lt {xs : List Int} (hb : By xs) (i : Nat) : pm xs i < 256 := by
  unfold pm
  split
  · exact bN_lt hb i
  · split
    · decide
    · split
      · exact Nat.mod_lt _ (by decide)
      · decide
theorem wl_by {f : Nat → Nat} (h : ∀ i, f i < 256) (k : Nat) : By (wl f k) := fun i => by
  by_cases c : i < k
  · rw [wl_get f k i c]; have := h i; omega
  · rw [List.getD_eq_getElem?_getD, List.getElem?_eq_none (by rw [wl_len]; omega)]; simp
theorem wl_cut (f : Nat → Nat) (p n j : Nat) (h : 64 * p + 64 ≤ n) (hj : j < 64) : bN (((wl f n).drop (64 * p)).take 64) j = f (64 * p + j) := by
  unfold bN
  rw [List.getD_eq_getElem?_getD, List.getElem?_take, if_pos hj, List.getElem?_drop, ← List.getD_eq_getElem?_getD, wl_get f n _ (by omega)]
  rfl
theorem wl_block {f : Nat → Nat} (s : St) (p n : Nat) (h : 64 * p + 64 ≤ n) : mixS kF (wF (wd (bN (((wl f n).drop (64 * p)).take 64)))) s = mixS kF (wF (wd fun j => f (64 * p + j))) s := by
  refine mixS_congr _ (fun _ _ => rfl) (fun i _ => wF_congr (fun j hj => ?_) i)
  simp only [wd]
  rw [wl_cut f p n _ h (by omega), wl_cut f p n _ h (by omega), wl_cut f p n _ h (by omega), wl_cut f p n _ h (by omega)]

set_option maxRecDepth 100000 in
set_option maxHeartbeats 4000000 in
theorem refSha_any (v : Value) (xs : List Int) (w : World) (hr : Rd .u8 w v xs) (hb : By xs) (hL : xs.length ≤ 65536) :
    Calls Try.prog 10 #[v] w fun e w' => e = .returned (.agg (ucs .u8 32 (sha xs)).toArray) ∧ Below w.heap.size w w' := by
  obtain ⟨a, cap, hv, _⟩ := id hr
  subst hv
  have HR : Hid (Rd .u8 w (.slice a xs.length cap) xs) := hr
  have HB : Hid (By xs) := hb
  clear hr hb
  obtain ⟨hv32, hi32⟩ := zero_of_info info_32
  have HI32 : Hid ((Try.prog.info? 23).map (·.size) = some 32) := hi32
  clear hi32
  obtain ⟨Z, hZ⟩ : ∃ Z, Hid ((ucs .u8 32 (fun _ => 0)).toArray = Z) := ⟨_, rfl⟩
  rw [hZ.out] at hv32
  obtain ⟨f, hf⟩ : ∃ f, Hid (sha xs = f) := ⟨_, rfl⟩
  rw [hf.out]
  obtain ⟨F, hF⟩ : ∃ F, Hid (ucs .u8 32 f = F) := ⟨_, rfl⟩
  rw [hF.out]
  obtain ⟨q, hq⟩ : ∃ q, Hid (pm xs = q) := ⟨_, rfl⟩
  obtain ⟨n, hn⟩ : ∃ n, np xs.length = n := ⟨_, rfl⟩
  have HD : Hid (xs = wl q xs.length) := by rw [← hq.out]; exact pm_data HB.out
  have hge := pm_ge xs
  rw [hn] at hge
  have HM : Hid (q xs.length = 128) := by show _ = _; rw [← hq.out]; exact pm_mark xs
  have HZR : Hid (∀ i, xs.length < i → i < 64 * n - 8 → q i = 0) := fun i h1 h2 => by rw [← hq.out]; exact pm_zero xs i h1 (by rw [hn]; exact h2)
  have HSZ : Hid (∀ t, t < 8 → q (64 * n - 8 + t) = 8 * xs.length / 2 ^ (56 - 8 * t) % 256) := fun t h => by rw [← hq.out, ← hn]; exact pm_size xs t h
  have HQ : Hid (∀ i, q i < 256) := fun i => by rw [← hq.out]; exact pm_lt HB.out i
  have HDG : Hid (dgB (dg q n) = f) := by rw [← hf.out, ← hq.out, ← hn]; rfl
  obtain ⟨L, hLe⟩ : ∃ L, xs.length = L := ⟨_, rfl⟩
  rw [hLe] at HR HM HZR HSZ hL hge HD ⊢
  clear hq hn hf
  go_enter Try.func10, Try.ntmps10
  have B0 : Hid (Below w.heap.size w (w.alloc (.cells Z 23))) := (Below.refl _ _).alloc (Nat.le_refl _) _
  have R0 : Hid (Rd .u8 (w.alloc (.cells Z 23)) (.slice a L cap) xs) := HR.out.below B0.out
  have U0 : Hid (Uv .u8 (w.alloc (.cells Z 23)) w.heap.size 23 32 (fun _ => 0)) := by
    have h0 := uv_new .u8 w 23 32 (fun _ => 0)
    rw [hZ.out] at h0
    exact h0
  go_wp2_with (at_builtin; refine wpList_many _ rfl (.tmp 10) (.tmp 11) 22 rfl 5 .u8 1 elem8 (.slice none 0 0) [] rfl (owns_nil _ _ _) _ xs rfl R0.out (by simp; omega) (by simp; omega) ?_)
  intro v1 w1 o1 g1
  have GB := g1.below
  rw [HD.out] at o1
  have O1 : Hid (Owns .u8 5 w1 v1 (wl q L)) := o1
  have B1 : Hid (Below w.heap.size w w1) := B0.out.trans (GB.1.mono B0.out.size)
  have U1 : Hid (Uv .u8 w1 w.heap.size 23 32 (fun _ => 0)) := U0.out.below GB.1
  have N1 : Hid (∀ j, v1.ownBlock = some j → w.heap.size < j) := fun j hj => by
    have := GB.2 j hj
    simp at this
    omega
  clear GB o1 g1 B0 R0 U0 HR hv32
  have HLN : Hid ((wl q L).length = L) := wl_len _ _
  go_wp2_with (at_builtin; refine wpList_push _ rfl (.tmp 13) (.tmp 14) 22 rfl 5 .u8 1 elem8 v1 (wl q L) rfl O1.out 128 rfl (by rw [HLN.out]; omega) (by rw [HLN.out]; omega) ?_)
  intro v2 w2 o2 g2
  have e2 : wl q L ++ [128] = wl q (L + 1) := by rw [wl_snoc, HM.out]; rfl
  rw [e2] at o2
  have O2 : Hid (Owns .u8 5 w2 v2 (wl q (L + 1))) := o2
  have hne : ∀ j, v1.ownBlock = some j → ¬ j = w.heap.size := fun j hj e => by have := N1.out j hj; omega
  have U2 : Hid (Uv .u8 w2 w.heap.size 23 32 (fun _ => 0)) := U1.out.tch g2.tch (fun e => by have := N1.out _ e; omega)
  have B2 : Hid (Below w.heap.size w w2) := (g2.onto B1.out (fun k e => Nat.le_of_lt (N1.out k e))).1
  have N2 : Hid (∀ j, v2.ownBlock = some j → w.heap.size < j) := fun j hj => by
    rcases g2.fresh j hj with e | e
    · exact N1.out j e
    · have := U1.out.lt; omega
  clear o2 g2 O1 U1 B1 N1 hne e2 HLN
  -- zeros
  go_wp2_with fail
  go_loopw [3] (fun v wr => ∃ (m : Nat) (v0 : Value), L + 1 ≤ m ∧ m ≤ 64 * n - 8 ∧ v0 = v ∧ Hid (Owns .u8 5 wr v0 (wl q m)) ∧ Hid (Uv .u8 wr w.heap.size 23 32 (fun _ => 0)) ∧ Hid (Below w.heap.size w wr) ∧ Hid (∀ j, v0.ownBlock = some j → w.heap.size < j)) (fun v _ => 64 * n - (match v with | .slice _ l _ => l | _ => 0))
  case atStart => exact ⟨L + 1, v2, Nat.le_refl _, by omega, rfl, O2, U2, B2, N2⟩
  case round =>
    clear O2 U2 B2 N2
    obtain ⟨m, v0, hm1, hm2, rfl, O1, U1, B1, N1⟩ := hrel
    obtain ⟨g, cp, hv, hgl, hcp1, hcp2, _⟩ := O1.out.shape (by rw [wl_len]; omega)
    rw [wl_len] at hv hcp1
    subst hv
    have hcp3 : cp ≤ 9223372036854775807 := by unfold maxLen at hcp2; omega
    by_cases hlt : m < 64 * n - 8
    · have hm56 : ¬ m % 64 = 56 := by omega
      have hm57 : ¬ (m : Int) % 64 = 56 := by omega
      have hm58 : ¬ (m : Int).tmod 64 = 56 := by rw [Int.tmod_eq_emod_of_nonneg (by omega)]; exact hm57
      have HLN : Hid ((wl q m).length = m) := wl_len _ _
      go_wp2_with (at_builtin; refine wpList_push _ rfl (.tmp 20) (.tmp 21) 22 rfl 5 .u8 1 elem8 _ (wl q m) rfl O1.out 0 rfl (by rw [HLN.out]; omega) (by rw [HLN.out]; omega) ?_)
      intro v2 w2 o2 g2
      have e2 : wl q m ++ [0] = wl q (m + 1) := by rw [wl_snoc, HZR.out m (by omega) hlt]; rfl
      rw [e2] at o2
      have O2 : Hid (Owns .u8 5 w2 v2 (wl q (m + 1))) := o2
      have U2 : Hid (Uv .u8 w2 w.heap.size 23 32 (fun _ => 0)) := U1.out.tch g2.tch (fun e => by have := N1.out _ e; omega)
      have B2 : Hid (Below w.heap.size w w2) := (g2.onto B1.out (fun k e => Nat.le_of_lt (N1.out k e))).1
      have N2 : Hid (∀ j, v2.ownBlock = some j → w.heap.size < j) := fun j hj => by
        rcases g2.fresh j hj with e | e
        · exact N1.out j e
        · have := U1.out.lt; omega
      obtain ⟨g', cp', hv', _⟩ := O2.out.shape (by rw [wl_len]; omega)
      rw [wl_len] at hv'
      subst hv'
      clear o2 g2 O1 U1 B1 N1 e2 HLN
      go_wp2_with fail
      go_roundw
      case rel => exact ⟨m + 1, _, by omega, by omega, rfl, O2, U2, B2, N2⟩
      case measure => simp; omega
    · have hm56 : m % 64 = 56 := by omega
      have hm57 : (m : Int) % 64 = 56 := by omega
      have hm58 : (m : Int).tmod 64 = 56 := by rw [Int.tmod_eq_emod_of_nonneg (by omega)]; exact hm57
      have hm0 : m = 64 * n - 8 + 0 := by omega
      obtain ⟨N, hN⟩ : ∃ N, 8 * L = N := ⟨_, rfl⟩
      have hN1 : 8 * (L : Int) = (N : Int) := by omega
      have hNl : N ≤ 524288 := by omega
      have O2 : Hid (Owns .u8 5 wr (.slice (some ⟨g, 0, none⟩) m cp) (wl q (64 * n - 8 + 0))) := by rw [← hm0]; exact O1
      have hm9 : ((m : Int) % 64 != 56) = false := by rw [hm57]; rfl
      clear O1 hm0 hm1 hm2 hlt
      go_wp2_with fail
      clear hm56 hm57 hm58
      go_loopw [3, 5] (fun v k wr => ∃ (t : Nat) (z : Int) (v0 : Value), t ≤ 8 ∧ z = 56 - 8 * (t : Int) ∧ k = .int .i64 z ∧ v0 = v ∧ Hid (Owns .u8 5 wr v0 (wl q (64 * n - 8 + t))) ∧ Hid (Uv .u8 wr w.heap.size 23 32 (fun _ => 0)) ∧ Hid (Below w.heap.size w wr) ∧ Hid (∀ j, v0.ownBlock = some j → w.heap.size < j)) (fun _ k _ => (64 + intOf k).toNat)
      case atStart => exact ⟨0, 56, _, by decide, rfl, rfl, rfl, O2, U1, B1, N1⟩
      case round =>
        clear O2 U1 B1 N1 hgl hcp1 hcp2 hcp3
        obtain ⟨t, z, v0, ht, hz, rfl, rfl, O1, U1, B1, N1⟩ := hrel
        obtain ⟨g, cp, hv, hgl, hcp1, hcp2, _⟩ := O1.out.shape (by rw [wl_len]; omega)
        rw [wl_len] at hv hcp1
        subst hv
        have hcp3 : cp ≤ 9223372036854775807 := by unfold maxLen at hcp2; omega
        by_cases hlt : t < 8
        · obtain ⟨kk, hkk⟩ : ∃ kk : Nat, kk = 56 - 8 * t := ⟨_, rfl⟩
          have hz2 : z = (kk : Int) := by omega
          subst hz2
          have hz0 : (0 : Int) ≤ (kk : Int) := by omega
          have hz1 : (kk : Int) ≤ 56 := by omega
          have hz3 : ¬ (kk : Int) < 0 := by omega
          obtain ⟨Y, hY⟩ : ∃ Y, N / 2 ^ kk = Y := ⟨_, rfl⟩
          have hYN : Y ≤ N := by rw [← hY]; exact Nat.div_le_self _ _
          have y1 : (N : Int) / 2 ^ kk = (Y : Int) := by rw [← hY, Int.natCast_ediv, Int.natCast_pow]; rfl
          obtain ⟨b, hb⟩ : ∃ b, Y % 256 = b := ⟨_, rfl⟩
          have y2 : IntKind.u8.wrap (Y : Int) = (b : Int) := by rw [IntKind.wrap_u8']; omega
          have y3 : (Y : Int) % 256 = (b : Int) := by omega
          have y4 : IntKind.i64.wrap (Y : Int) = (Y : Int) := by rw [IntKind.wrap_i64]; omega
          have hqt : q (64 * n - 8 + t) = b := by rw [HSZ.out t hlt, hN, ← hkk, hY, hb]
          have HLN : Hid ((wl q (64 * n - 8 + t)).length = 64 * n - 8 + t) := wl_len _ _
          have hsm : 64 * n - 8 + t < 1000000 := by omega
          have HKK : Hid ((kk : Int) = 56 - 8 * (t : Int)) := hz
          clear hY hb hkk hz
          go_wp2_with (at_builtin; refine wpList_push _ rfl (.tmp 30) (.tmp 35) 22 rfl 5 .u8 1 elem8 _ (wl q (64 * n - 8 + t)) rfl O1.out (b : Int) rfl (by rw [HLN.out]; omega) (by rw [HLN.out]; omega) ?_)
          intro v2 w2 o2 g2
          have e2 : wl q (64 * n - 8 + t) ++ [(b : Int)] = wl q (64 * n - 8 + (t + 1)) := by rw [← Nat.add_assoc, wl_snoc, hqt]
          rw [e2] at o2
          have O2 : Hid (Owns .u8 5 w2 v2 (wl q (64 * n - 8 + (t + 1)))) := o2
          have U2 : Hid (Uv .u8 w2 w.heap.size 23 32 (fun _ => 0)) := U1.out.tch g2.tch (fun e => by have := N1.out _ e; omega)
          have B2 : Hid (Below w.heap.size w w2) := (g2.onto B1.out (fun k e => Nat.le_of_lt (N1.out k e))).1
          have N2 : Hid (∀ j, v2.ownBlock = some j → w.heap.size < j) := fun j hj => by
            rcases g2.fresh j hj with e | e
            · exact N1.out j e
            · have := U1.out.lt; omega
          clear o2 g2 O1 U1 B1 N1 e2 HLN
          go_wp2_with fail
          go_roundw
          case rel => first | exact ⟨t + 1, _, _, by omega, by have := HKK.out; omega, rfl, rfl, O2, U2, B2, N2⟩ | exact ⟨t + 1, by omega, by have := HKK.out; omega, _, rfl, O2, U2, B2, N2⟩
          case measure => simp [intOf]; omega
        · have ht8 : t = 8 := by omega
          have hz1 : z < 0 := by omega
          have hz2 : ¬ 0 ≤ z := by omega
          have hln : 64 * n - 8 + t = 64 * n := by omega
          rw [hln] at O1 hcp1
          rw [hln]
          obtain ⟨RN, hRN⟩ : ∃ R, 64 * n = R := ⟨_, rfl⟩
          rw [hRN] at O1 hcp1
          rw [hRN]
          clear hlt hln
          have X0 : ∀ W : World, X8 (W.alloc (.cells #[.int .i64 1779033703, .int .i64 3144134277, .int .i64 1013904242, .int .i64 2773480762, .int .i64 1359893119, .int .i64 2600822924, .int .i64 528734635, .int .i64 1541459225] 3)) (.slice (some ⟨W.heap.size, 0, none⟩) 8 8) st0 := fun W => x8_new W st0
          go_wp2_with fail
          clear hz1 hz2 hz ht8
          obtain ⟨W0, hW0⟩ : ∃ W0, Hid (wr.alloc (.cells #[.int .i64 1779033703, .int .i64 3144134277, .int .i64 1013904242, .int .i64 2773480762, .int .i64 1359893119, .int .i64 2600822924, .int .i64 528734635, .int .i64 1541459225] 3) = W0) := ⟨_, rfl⟩
          have b0 : Below wr.heap.size wr W0 := by rw [← hW0.out]; exact (Below.refl _ _).alloc (Nat.le_refl _) _
          have XS : Hid (X8 W0 (.slice (some ⟨wr.heap.size, 0, none⟩) 8 8) st0) := by have := X0 wr; rw [hW0.out] at this; exact this
          have O2 : Hid (Rd .u8 W0 (.slice (some ⟨g, 0, none⟩) RN cp) (wl q RN)) := (O1.out.below b0).rd
          have U2 : Hid (Uv .u8 W0 w.heap.size 23 32 (fun _ => 0)) := U1.out.below b0
          have B2 : Hid (Below w.heap.size w W0) := B1.out.trans (b0.mono B1.out.size)
          rw [hW0.out]
          obtain ⟨sx, hsx⟩ : ∃ sx : Value, sx = .slice (some ⟨wr.heap.size, 0, none⟩) 8 8 := ⟨_, rfl⟩
          rw [← hsx] at XS ⊢
          have HBY : Hid (By (wl q RN)) := wl_by HQ.out RN
          have hRNs : RN ≤ 1000000 := by omega
          clear hsx hW0 X0 O1 U1 B1 N1 b0 hcp2
          go_loopw [6, 7] (fun v i wr => ∃ (p z : Nat) (v0 : Value), p ≤ n ∧ 64 * p = z ∧ i = .int .i64 (z : Int) ∧ v0 = v ∧ Hid (X8 wr v0 (dg q p)) ∧ Hid (Below W0.heap.size W0 wr)) (fun _ i _ => 64 * n - (intOf i).toNat)
          case atStart => exact ⟨0, 0, sx, Nat.zero_le _, rfl, rfl, rfl, XS, Below.refl _ _⟩
          case round =>
            clear XS
            obtain ⟨p, z, v0, hp, hz, rfl, rfl, XS, B1⟩ := hrel
            by_cases hlt : p < n
            · have hz1 : (z : Int) < (RN : Int) := by omega
              have hz2 : (z : Int) + 64 ≤ (RN : Int) := by omega
              have HZC : Hid (z + 64 ≤ (wl q RN).length) := by show _ ≤ _; rw [wl_len]; omega
              have RD : Hid (Rd .u8 wr (.slice (some ⟨g, 0, none⟩) RN cp) (wl q RN)) := O2.out.below B1.out
              have HXR : Hid (Rd .i64 wr v0 (stL (dg q p))) := by
                obtain ⟨g, c, e, h1, h2, h3, h4⟩ := XS.out
                exact ⟨_, c, e, h1, h2, fun e => (by cases e), .inr ⟨g, 0, rfl, fun i hi => by rw [Nat.zero_add, h4 i hi, stL_get _ i hi]⟩⟩
              have HMX : Hid (mixS kF (wF (wd (bN (((wl q RN).drop z).take 64)))) (dg q p) = dg q (p + 1)) := by
                show _ = _
                rw [← hz, wl_block (dg q p) p RN (by omega)]
                rfl
              go_wp2_with (with_reducible (show wpList _ _ _ (Oper.mk _ (Op.slice _ _ _ _ _) _ _ _ _ :: _) _ _); refine wpList_mid _ wr rfl (.tmp 45) (.tmp 46) (.tmp 48) rfl _ (wl q RN) ?h1 RD.out z 64 ?h2 ?h3 HZC.out ?_; (case h1 => kernel_rfl); (case h2 => kernel_rfl); (case h3 => kernel_rfl))
              intro v5 r5
              have R5 : Hid (Rd .u8 wr v5 (((wl q RN).drop z).take 64)) := r5
              clear r5
              go_wp2_with fail
              refine (refBlock_any v0 v5 (dg q p) (((wl q RN).drop z).take 64) _ HXR.out (dg_ok _ _) R5.out (by_take (by_drop HBY.out z) 64) (by rw [List.length_take, List.length_drop]; have := HZC.out; omega)).mono ?_
              rintro e w2 ⟨⟨v6, rfl, o6, n6⟩, b6⟩
              rw [HMX.out] at o6
              have X6 : Hid (X8 w2 v6 (dg q (p + 1))) := x8_owns o6
              have B6 : Hid (Below W0.heap.size W0 w2) := B1.out.trans (b6.mono B1.out.size)
              clear o6 n6 b6 R5 RD HXR HMX XS B1 HZC
              go_wp2_with fail
              go_roundw
              case rel => exact ⟨p + 1, z + 64, v6, by omega, by omega, by go_num, rfl, X6, B6⟩
              case measure => simp [intOf]; omega
            · have hpn : p = n := by omega
              rw [hpn] at XS
              have hz1 : ¬ (z : Int) < (RN : Int) := by omega
              obtain ⟨s, hs⟩ : ∃ s, Hid (dg q n = s) := ⟨_, rfl⟩
              have HOK : Hid (s.ok) := by rw [← hs.out]; exact dg_ok _ _
              rw [hs.out] at XS
              have HDG2 : Hid (dgB s = f) := by rw [← hs.out]; exact HDG
              obtain ⟨sg, sc, hsv, hsc1, hsc2, hsl, hscell⟩ := XS.out
              subst hsv
              have hsc3 : sc ≤ 9223372036854775807 := by unfold maxLen at hsc2; omega
              have HSC : Hid (∀ i, i < 8 → wr.cell? ⟨sg, i, none⟩ = some (.int .i64 (s.at_ i : Int))) := hscell
              have HSL : Hid (sg < wr.heap.size) := hsl
              obtain ⟨W1, hW1⟩ : ∃ W1, Hid (wr.alloc (.cells Z 23) = W1) := ⟨_, rfl⟩
              have b1 : Below wr.heap.size wr W1 := by rw [← hW1.out]; exact (Below.refl _ _).alloc (Nat.le_refl _) _
              obtain ⟨og, hog⟩ : ∃ og, wr.heap.size = og := ⟨_, rfl⟩
              have C0 : Hid (Uv .u8 W1 og 23 32 (sofar f 0)) := by
                have h0 := uv_new .u8 wr 23 32 (fun _ => 0)
                rw [hZ.out, hW1.out, hog] at h0
                exact h0.congr (d := sofar f 0) (fun i _ => by simp [sofar])
              have HSC1 : Hid (∀ i, i < 8 → W1.cell? ⟨sg, i, none⟩ = some (.int .i64 (s.at_ i : Int))) := fun i hi => by rw [b1.cell (p := ⟨sg, i, none⟩) HSL.out]; exact HSC.out i hi
              have HSO : Hid (sg ≠ og ∧ sg < W1.heap.size) := by
                have := HSL.out; have := b1.size
                exact ⟨by omega, by omega⟩
              have B3 : Hid (Below w.heap.size w W1) := B2.out.trans ((B1.out.trans (b1.mono B1.out.size)).mono B2.out.size)
              have R3 : Hid (Uv .u8 W1 w.heap.size 23 32 (fun _ => 0)) := (U2.out.below B1.out).below b1
              have HWO : Hid (w.heap.size ≠ og ∧ w.heap.size ≤ og) := by
                have h1 := (U2.out.below B1.out).lt
                exact ⟨by omega, by omega⟩
              obtain ⟨hv32, _⟩ := zero_of_info info_32
              rw [hZ.out] at hv32
              clear hscell hsl hsc2 HSC HSL B1 B2 U2 O2 XS hlt HDG hpn
              go_wp2_with fail
              rw [hW1.out]
              clear hv32 hog b1 hW1
              go_loopw [9] (fun i wr => ∃ k : Nat, k ≤ 32 ∧ i = .int .i64 k ∧ Hid (Uv .u8 wr og 23 32 (sofar f k)) ∧ Hid (Tch (fun b => b = og) W1 wr)) (fun i _ => 32 - (intOf i).toNat)
              case atStart => exact ⟨0, Nat.zero_le _, rfl, C0, Tch.refl _ _⟩
              case round =>
                clear C0
                obtain ⟨k, hk, rfl, CV, T⟩ := hrel
                by_cases hlt : k < 32
                · obtain ⟨k4, hk4⟩ : ∃ j, k / 4 = j := ⟨_, rfl⟩
                  obtain ⟨r4, hr4⟩ : ∃ j, k % 4 = j := ⟨_, rfl⟩
                  obtain ⟨sh, hsh⟩ : ∃ j, 24 - 8 * r4 = j := ⟨_, rfl⟩
                  have c1 : wr.cell? ⟨sg, k4, none⟩ = some (.int .i64 (s.at_ k4 : Int)) := by
                    rw [T.out.cell (p := ⟨sg, k4, none⟩) HSO.out.2 (fun e => HSO.out.1 e)]
                    exact HSC1.out k4 (by omega)
                  have h1 := HOK.out.at_ k4
                  have hfk : f k = s.at_ k4 / 2 ^ sh % 256 := by rw [← HDG2.out]; unfold dgB; rw [hk4, hr4, hsh]
                  have cv := CV.out.at_ k hlt
                  have fv := CV.out.fz k
                  obtain ⟨V, hV⟩ : ∃ V, f k = V := ⟨_, rfl⟩
                  have C2 : Hid (Uv .u8 (wr.setCell ⟨og, k, none⟩ (.int .u8 (V : Int))) og 23 32 (sofar f (k + 1))) := (CV.out.set k hlt V).congr (fun i _ => by rw [← hV]; exact sofar_step f k i)
                  have T2 : Hid (Tch (fun b => b = og) W1 (wr.setCell ⟨og, k, none⟩ (.int .u8 (V : Int)))) := Tch.setCell T.out (p := ⟨og, k, none⟩) (fun _ => rfl) _
                  generalize sofar f k k = zz at cv
                  generalize s.at_ k4 = P at *
                  obtain ⟨Y, hY⟩ : ∃ Y, P / 2 ^ sh = Y := ⟨_, rfl⟩
                  rw [hV, hY] at hfk
                  have hYP : Y ≤ P := by rw [← hY]; exact Nat.div_le_self _ _
                  have y1 : (P : Int) / 2 ^ sh = (Y : Int) := by rw [← hY, Int.natCast_ediv, Int.natCast_pow]; rfl
                  have y2 : IntKind.u8.wrap (Y : Int) = (V : Int) := by rw [IntKind.wrap_u8']; omega
                  have y3 : (Y : Int) % 256 = (V : Int) := by omega
                  have y4 : IntKind.i64.wrap (Y : Int) = (Y : Int) := by rw [IntKind.wrap_i64]; omega
                  have e1 : (k : Int) / 4 = (k4 : Int) := by omega
                  have e2 : (k : Int) % 4 = (r4 : Int) := by omega
                  have e3 : (24 : Int) - 8 * (r4 : Int) = (sh : Int) := by omega
                  have e4 : (sh : Int) ≤ 24 := by omega
                  have e5 : (k : Int) < 32 := by omega
                  have e6 : (k4 : Int) < 8 := by omega
                  have e7 : (0 : Int) ≤ (sh : Int) := by omega
                  clear hk4 hr4 hsh hV hY hfk CV T
                  go_wp2_with fail
                  go_roundw
                  case rel => exact ⟨k + 1, by omega, by go_num, C2, T2⟩
                  case measure => simp [intOf]; omega
                · have hk0 : k = 32 := by omega
                  rw [hk0] at CV
                  have hkn : ¬ (k : Int) < 32 := by omega
                  have RR : Hid (wr.there w.heap.size 0 32) := (R3.out.tch T.out (fun e => HWO.out.1 e)).there
                  have HRG : Hid (wr.rangeAt og 0 F) := by
                    rw [← hF.out]
                    exact (CV.out.congr (d := f) (fun i hi => by unfold sofar; rw [if_pos hi])).range
                  have HPL : Hid (F.length = 32) := by show _ = _; rw [← hF.out, ucs_length]
                  have HSZ2 : Hid (F.toArray.size = 32) := by show _ = _; rw [List.size_toArray]; exact HPL.out
                  have HON : Hid (F.toArray.all (·.oneCell') = true) := by show _ = _; rw [← hF.out]; exact ucs_one _ _ _
                  clear hlt hk0
                  go_wp2_with (first | (refine wpList_load_mid rfl 23 (.tmp 8) rfl og 0 rfl F _ HRG.out Try.underlying23 rfl (by rw [HPL.out]; exact HI32.out) ?_) | (refine wpList_store_mid rfl 23 (.tmp 2) (.tmp 68) rfl w.heap.size 0 F.toArray rfl rfl (by rw [HSZ2.out]; exact RR.out) (by rw [HSZ2.out]; exact HI32.out) HON.out ?_))
                  have hld := run_loadVar_mid (P := Try.prog) (wr.setCells w.heap.size 0 F.toArray.toList) w.heap.size 0 23 F _ (by
                    have := World.rangeAt_setCells_same wr w.heap.size 0 F.toArray.toList (by rw [Array.length_toList, HSZ2.out]; exact RR.out)
                    simpa using this) Try.underlying23 rfl (by rw [HPL.out]; exact HI32.out)
                  refine bodyPost_ret (v := .agg F.toArray) ?_ rfl ⟨rfl, ?_⟩
                  · exact results_atS (p := 2) (ty := 23) rfl _ _ _ w.heap.size _ rfl hld
                  · have h1 := B3.out.trans (T.out.below B3.out.size (fun k e => by rw [e]; exact HWO.out.2))
                    exact h1.trans ((setCells_tchS w.heap.size _ 0 wr).below h1.size (fun k e => by rw [e]; exact Nat.le_refl _))
end Go.Proofs.Ytfdnlkhipjjnbaa
