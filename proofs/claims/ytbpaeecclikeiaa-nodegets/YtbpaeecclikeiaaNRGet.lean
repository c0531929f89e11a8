/-
  The document's Get.
-/
import Derived.Test.YtbpaeecclikeiaaNRTxt
import Derived.Test.YtbpaeecclikeiaaNRq
import Derived.Test.YtbpaeecclikeiaaLawNPuts
import Derived.Test.YtbpaeecclikeiaaSame
namespace Go.Proofs.Ytbpaeecclikeiaa
open Go.RowKit Pl
set_option linter.unusedVariables false
set_option linter.unusedSimpArgs false
set_option maxRecDepth 100000

theorem pz_sm (lf : Bool) {r : List Int} (h : By r) {k : Nat} (hk : k ≤ 255) : Sm (pzN lf (r, false) k).n := by
  have h2 := pzN_small lf (t := (r, false)) h k
  have h3 := pzN_len lf (r, false) k
  exact ⟨fun i => Nat.le_trans (getD_size h2.2.1 i) (by omega), fun i => Nat.le_trans (getD_size h2.2.2 i) (by omega), by omega, by omega, by omega⟩
theorem get_nil (kd : Int) : getN kd [] = none := by
  unfold getN
  split
  · rw [if_neg]
    have : (rdN (decide (kd = 1)) []).t.2 = true := by
      unfold rdN
      have h0 : (numZ (([] : List Int), false)).2.2 = true := by unfold numZ takeZ; rw [if_pos (.inr (by simp))]
      exact pzN_short (k := 0) h0 _ (Nat.zero_le _)
    unfold rdOk
    rw [this]
    simp
  · rfl
theorem get_short {kd c : Int} {r : List Int} {k : Nat} (hk : k ≤ c.toNat) (h : (pzN (decide (kd = 1)) (r, false) k).t.2 = true) : getN kd (c :: r) = none := by
  unfold getN
  split
  · rw [if_neg]
    have : (rdN (decide (kd = 1)) (c :: r)).t.2 = true := by
      unfold rdN
      rw [numZ_cons]
      exact pzN_short h _ hk
    unfold rdOk
    rw [this]
    simp
  · rfl
theorem pz_txt {lf : Bool} {t : List Int × Bool} {k : Nat} (h : (txtZ (pzN lf t k).t).2.2 = true) : (pzN lf t (k + 1)).t.2 = true := by
  simp only [pzN, pzStep]
  split
  · exact txtZ_short h
  · exact takeZ_short 1 (takeZ_short 1 h)
theorem num_at {xs : List Int} {a : Nat} (h : a < xs.length) : numZ (xs.drop a, false) = (xs.getD a 0, (xs.drop (a + 1), false)) := by rw [drop_at h, numZ_cons]
theorem num_no {xs : List Int} {a : Nat} (h : ¬ a < xs.length) : (numZ (xs.drop a, false)).2.2 = true := by
  rw [List.drop_of_length_le (by omega)]
  unfold numZ takeZ
  rw [if_pos (.inr (by simp))]

set_option maxHeartbeats 4000000 in
theorem refGet_any (kd : Int) (v : Value) (xs : List Int) (w : World) (hr : Rd .u8 w v xs) (hb : By xs) (hl : xs.length ≤ 140737488351232) :
    Calls Try.prog 20 #[blN kd v] w fun e w' => GetR kd xs w e w' := by
  obtain ⟨a, cap, rfl, h1, h2, _, h4⟩ := id hr
  have HR := hideN hr
  have HY := hideN hb
  obtain ⟨L, hL⟩ : ∃ L, Hid (xs.length = L) := ⟨_, rfl⟩
  rw [hL.out] at HR h1 hl ⊢
  have hcap : cap ≤ 9223372036854775807 := by unfold maxLen at h2; omega
  obtain ⟨W1, hW1⟩ : ∃ W1, w.alloc (.cells #[.int .i64 kd, .slice a L cap] 34) = W1 := ⟨_, rfl⟩
  obtain ⟨W2, hW2⟩ : ∃ W2, W1.alloc (.cells #[.bool false, .slice none 0 0, .slice none 0 0, .slice none 0 0] 25) = W2 := ⟨_, rfl⟩
  have b1 : Below w.heap.size w W1 := by rw [← hW1]; exact below_alloc _ _
  have b2 : Below W1.heap.size W1 W2 := by rw [← hW2]; exact below_alloc _ _
  have K1 : Kb W1 w.heap.size kd (.slice a L cap) := by rw [← hW1]; exact kb_new _ _ _
  have HLT : Hid (w.heap.size < W1.heap.size) := K1.lt
  have K2 : Hid (Kb W2 w.heap.size kd (.slice a L cap)) := K1.below b2
  have X2 : Hid (Nb W2 25 W1.heap.size false (.slice none 0 0) (.slice none 0 0) (.slice none 0 0)) := by rw [← hW2]; exact nb_new _ _ _ _ _ _
  have B2 : Hid (Below w.heap.size w W2) := b1.trans (b2.mono b1.size)
  have R2 : Hid (Rd .u8 W2 (.slice a L cap) xs) := HR.out.below B2.out
  have HBAD : Hid (∀ (W : World), getN kd xs = none → Below W2.heap.size W2 W → ∃ WA, ((((W.setCell ⟨W1.heap.size, 0, none⟩ (.bool false)).setCell ⟨W1.heap.size, 1, none⟩ (.slice none 0 0)).setCell ⟨W1.heap.size, 2, none⟩ (.slice none 0 0)).setCell ⟨W1.heap.size, 3, none⟩ (.slice none 0 0) = WA) ∧ Nb WA 25 W1.heap.size false (.slice none 0 0) (.slice none 0 0) (.slice none 0 0) ∧ GetR kd xs w (.returned (.tuple #[nod false (.slice none 0 0) (.slice none 0 0) (.slice none 0 0), .int .i64 7])) WA) := fun W hn hb => by
    have hx := X2.out.below hb
    have t := tch_all W W1.heap.size (.bool false) (.slice none 0 0) (.slice none 0 0) (.slice none 0 0)
    have bw : Below w.heap.size w W := B2.out.trans (hb.mono B2.out.size)
    exact ⟨_, rfl, hx.all _ _ _ _, .inr ⟨hn, rfl⟩, bw.trans (t.below bw.size (fun j e => by have := HLT.out; omega))⟩
  have XB : Hid (∀ W, Below W2.heap.size W2 W → Nb W 25 W1.heap.size false (.slice none 0 0) (.slice none 0 0) (.slice none 0 0)) := fun W hb => X2.out.below hb
  have KB2 : Hid (∀ W, Below W2.heap.size W2 W → Kb W w.heap.size kd (.slice a L cap)) := fun W hb => K2.out.below hb
  have q0 := K2.out.c0
  have q1 := K2.out.c1
  clear hr hb h2 b1 b2 K1
  unfold blN
  by_cases h12 : kd = 1 ∨ kd = 2
  · by_cases hL1 : 1 ≤ L
    · have hdL : decide ((L : Int) < 1) = false := by rw [decide_eq_false_iff_not]; omega
      rcases h4 with h4 | ⟨bb, bo, rfl, hc⟩
      · have := hL.out; rw [h4] at this; simp at this; omega
      have HC := hideN hc
      obtain ⟨c0, r, hxs⟩ : ∃ c r, xs = c :: r := by
        cases xs with
        | nil => have := hL.out; simp at this; omega
        | cons c r => exact ⟨c, r, rfl⟩
      have hc0 : 0 ≤ c0 ∧ c0 ≤ 255 := by have := HY.out 0; rw [hxs] at this; simpa using this
      obtain ⟨c, hcc⟩ : ∃ c : Nat, c0 = (c : Int) := ⟨c0.toNat, by omega⟩
      subst hcc
      have hc255 : c ≤ 255 := by omega
      have HXS := hideN hxs
      have HBR : Hid (By r) := fun i => by have := HY.out (i + 1); rw [hxs] at this; simpa using this
      have CB : Hid (∀ i, i < L → ∀ W, Below W2.heap.size W2 W → W.cell? ⟨bb, bo + i, none⟩ = some (.int .u8 (xs.getD i 0))) := fun i hi W hb => by
        have h := HC.out i (by rw [hL.out]; exact hi)
        have hw : W2.cell? ⟨bb, bo + i, none⟩ = some (.int .u8 (xs.getD i 0)) := by rw [B2.out.cell (p := ⟨bb, bo + i, none⟩) (World.block_lt_of_cell? w ⟨bb, bo + i, none⟩ h)]; exact h
        rw [hb.cell (p := ⟨bb, bo + i, none⟩) (World.block_lt_of_cell? W2 ⟨bb, bo + i, none⟩ hw)]
        exact hw
      have HTX : Hid (∀ W (a : Nat), Below W2.heap.size W2 W → a ≤ L → Calls Try.prog 37 #[(.slice (some ⟨bb, bo, none⟩) L cap), .int .i64 (a : Int)] W fun e w' => ((∃ nx : Nat, e = .returned (.tuple #[.string (txtZ (xs.drop a, false)).1, .int .i64 (nx : Int), .bool true]) ∧ (txtZ (xs.drop a, false)).2 = (xs.drop nx, false) ∧ nx ≤ xs.length) ∨ (e = .returned (.tuple #[.string ⟨#[]⟩, .int .i64 0, .bool false]) ∧ (txtZ (xs.drop a, false)).2.2 = true)) ∧ w' = W) := fun W a hb ha => text_any _ xs a W (R2.out.below hb) HY.out (by omega)
      clear hc hc0 hxs
      rcases h12 with rfl | rfl
      · obtain ⟨W3, hW3⟩ : ∃ W3, Hid (W2.alloc (.cells #[.bool true, .slice none 0 0, .slice none 0 0, .slice none 0 0] 25) = W3) := ⟨_, rfl⟩
        have b3 : Below W2.heap.size W2 W3 := by rw [← hW3.out]; exact below_alloc _ _
        have z3 : W3.heap.size = W2.heap.size + 1 := by rw [← hW3.out]; simp
        have NV3 : Nb W3 25 W2.heap.size true (.slice none 0 0) (.slice none 0 0) (.slice none 0 0) := by rw [← hW3.out]; exact nb_new _ _ _ _ _ _
        have R3 : Hid (Rq W3.heap.size W2.heap.size W3 W2.heap.size (.slice none 0 0) (.slice none 0 0) (.slice none 0 0) (pzN true (r, false) 0).n) := ⟨NV3, owV_nil _ _ _, owV_nil _ _ _, owV_nil _ _ _, (fun j e => by cases e), by omega, Nat.le_refl _, Nat.le_refl _⟩
        have B3 := hideN b3
        have HT0 : Hid ((pzN true (r, false) 0).t = (xs.drop 1, false)) := by show _ = _; rw [HXS.out]; rfl
        have HGS : Hid (∀ k, k ≤ c → (pzN true (r, false) k).t.2 = true → getN 1 xs = none) := fun k hk h => by rw [HXS.out]; exact get_short (kd := 1) (c := (c : Int)) (by simpa using hk) h
        have HGI : Hid ((pzN true (r, false) c).t.2 = false → getN 1 xs = if (mayN (pzN true (r, false) c).n && decide (encN (pzN true (r, false) c).n (pzN true (r, false) c).n.ks.length = xs)) = true then some (pzN true (r, false) c).n else none) := fun h => by
          have hg := get_iff (lf := true) (c := (c : Int)) HXS.out HY.out (by simpa using h)
          simp only [Int.toNat_natCast] at hg
          unfold getN
          rw [if_pos (by decide), show decide ((1 : Int) = 1) = true by decide, hg]
          have : rdN true xs = pzN true (r, false) c := by unfold rdN; rw [HXS.out, numZ_cons]; rfl
          rw [this]
        obtain ⟨B, hB⟩ : ∃ B, Hid (W3.heap.size = B) := ⟨_, rfl⟩
        obtain ⟨nb, hnb⟩ : ∃ n, Hid (W2.heap.size = n) := ⟨_, rfl⟩
        rw [hB.out, hnb.out] at R3
        have CB2 : Hid (∀ i, i < L → ∀ W, Below nb W2 W → W.cell? ⟨bb, bo + i, none⟩ = some (.int .u8 (xs.getD i 0))) := by rw [← hnb.out]; exact CB.out
        rw [hnb.out] at HTX HBAD B3 XB KB2
        clear b3 z3 NV3
        go_enter Try.func20, Try.ntmps20
        go_wp2_with (refine wpList_store_newD _ rfl 25 (.tmp 4) (.tmp 34) rfl _ #[.bool true, .slice none 0 0, .slice none 0 0, .slice none 0 0] ?h1 ?h2 inf_ref rfl rfl ?_; (case h1 => rfl); (case h2 => rfl); skip)
        rw [hW3.out, hnb.out]
        clear q0 q1 hW1 hW2 hW3
        go_loopw [5, 6] (fun at_ i wr => ∃ (k a : Nat) (v1 v2 v3 : Value), k ≤ c ∧ a ≤ L ∧ i = .int .i64 k ∧ at_ = .int .i64 a ∧ Hid (Rq B nb wr nb v1 v2 v3 (pzN true (r, false) k).n) ∧ Hid ((pzN true (r, false) k).t = (xs.drop a, false)) ∧ Hid (Below nb W2 wr)) (fun _ i _ => c - (intOf i).toNat)
        case atStart => exact ⟨0, 1, _, _, _, Nat.zero_le _, hL1, rfl, rfl, R3, HT0, B3⟩
        case round =>
          clear R3 HT0 B3
          obtain ⟨k, a, v1, v2, v3, hk, ha, rfl, rfl, RA, HTA, BA⟩ := hrel
          obtain ⟨cw, rfl⟩ : ∃ cw, cw = wr := ⟨_, rfl⟩
          have KA := KB2.out cw BA.out
          have q0 := KA.c0
          have q1 := KA.c1
          have c0 : cw.cell? ⟨bb, bo, none⟩ = some (.int .u8 (c : Int)) := by have := CB2.out 0 (by omega) cw BA.out; rw [HXS.out] at this; exact this
          clear KA
          by_cases hlt : k < c
          · have HSTEP : Hid (pzN true (r, false) (k + 1) = pzStep (pzN true (r, false) k)) := rfl
            have HLF : Hid ((pzN true (r, false) k).n.lf = true) := pzN_lf true (r, false) k
            have HLEN0 : Hid ((pzN true (r, false) k).n.ks.length ≤ 255 ∧ (pzN true (r, false) k).n.vs.length ≤ 255 ∧ (pzN true (r, false) k).n.kd.length ≤ 255) := by have := pzN_len true (r, false) k; show _ ∧ _; omega
            have HLEN : Hid ((pzN true (r, false) k).n.ks.length ≤ 255) := HLEN0.out.1
            have HSH : Hid ((txtZ (pzN true (r, false) k).t).2.2 = true → getN 1 xs = none) := fun h => HGS.out (k + 1) (by omega) (pz_txt h)
            have HSH2 : Hid ((pzN true (r, false) (k + 1)).t.2 = true → getN 1 xs = none) := fun h => HGS.out (k + 1) (by omega) h
            obtain ⟨pk, hpk⟩ : ∃ p, Hid (pzN true (r, false) k = p) := ⟨_, rfl⟩
            rw [hpk.out] at RA HTA HSTEP HLF HLEN HLEN0 HSH
            rw [HSTEP.out] at HSH2
            go_wp2_with fail
            refine (HTX.out cw a BA.out ha).mono ?_
            rintro e cw ⟨h5, rfl⟩
            rcases h5 with ⟨nx, rfl, hnx, hnl⟩ | ⟨rfl, hsh⟩
            · rw [hL.out] at hnl
              obtain ⟨sx, hsx⟩ : ∃ s, Hid ((txtZ pk.t).1 = s) := ⟨_, rfl⟩
              have HNX : Hid ((txtZ pk.t).2 = (xs.drop nx, false)) := by rw [HTA.out]; exact hnx
              have hsx2 : (txtZ (xs.drop a, false)).1 = sx := by rw [← hsx.out, HTA.out]
              rw [hsx2]
              clear hnx hsx2
              obtain ⟨v1a, v1l, v1c, e1⟩ : ∃ a l c, v1 = .slice a l c := by obtain ⟨a, c, e⟩ := RA.out.k.long; exact ⟨a, _, c, e⟩
              subst e1
              have r1 := RA.out.nv.c1
              have HLX : Hid ((strs (pk.n).ks).length + 1 ≤ 9223372036854775807 ∧ ((strs (pk.n).ks).length + 1) * 16 ≤ 140737488355328) := by show _ ∧ _; rw [strs_len]; have := HLEN.out; omega
              have HBN : Hid (B ≤ (cw.alloc (.cells #[.string sx] 9)).heap.size) := Nat.le_trans RA.out.wB (below_alloc cw _).size
              go_wp2_with (at_builtin; refine wpList_moreV _ _ _ _ elemS _ rfl (.tmp 57) (.tmp 59) rfl B _ (strs (pk.n).ks) ?h1 (RA.out.k.below (below_alloc _ _)) cw.heap.size (.string sx) ?h2 rfl (one_new _ _ _) HLX.out.1 HLX.out.2 HBN.out ?_; (case h1 => kernel_rfl); (case h2 => kernel_rfl))
              intro v6 w6 o6 g6 f6
              obtain ⟨na', nc', e6⟩ := o6.long
              obtain ⟨nl', hnl⟩ : ∃ l, Hid ((strs (pk.n).ks ++ [Value.string sx]).length = l) := ⟨_, rfl⟩
              rw [hnl.out] at e6
              subst e6
              obtain ⟨⟨q6, r6⟩, rs7, b7, b6⟩ := grow_key RA.out (below_alloc _ _) g6 o6 f6
              obtain ⟨RBw, hc5⟩ : ∃ W, w6.setCell ⟨nb, 1, none⟩ (.slice na' nl' nc') = W := ⟨_, rfl⟩
              rw [hc5] at rs7 b7
              have RB := hideN rs7
              have BRB := hideN b7
              clear o6 g6 f6 rs7 b7 b6 HLX HBN r1 hnl
              have HLEN2 : Hid (pk.n.vs.length ≤ 255) := HLEN0.out.2.1
              obtain ⟨n5, hn5⟩ : ∃ n : Nd, Hid ({ pk.n with ks := pk.n.ks ++ [sx] } = n) := ⟨_, rfl⟩
              rw [hn5.out] at RB
              have HLEN : Hid (n5.vs.length ≤ 255) := by rw [← hn5.out]; exact HLEN2.out
              have hlf5 : n5.lf = true := by rw [← hn5.out]; exact HLF.out
              have BB : Hid (Below nb W2 RBw) := BA.out.trans BRB.out
              have K5 := KB2.out RBw BB.out
              have nv5 := RB.out.nv
              rw [hlf5] at nv5
              clear q0 q1 c0 BRB
              have q0 := K5.c0
              have q1 := K5.c1
              have p0 := nv5.c0
              clear K5 nv5 hlf5
              go_wp2_with fail
              refine (HTX.out RBw nx BB.out hnl).mono ?_
              rintro e RBw ⟨h7, rfl⟩
              rcases h7 with ⟨ny, rfl, hny, hnyl⟩ | ⟨rfl, hsh⟩
              · rw [hL.out] at hnyl
                obtain ⟨sy, hsy⟩ : ∃ s, Hid ((txtZ (txtZ pk.t).2).1 = s) := ⟨_, rfl⟩
                have HNY : Hid ((txtZ (txtZ pk.t).2).2 = (xs.drop ny, false)) := by rw [HNX.out]; exact hny
                have hsy2 : (txtZ (xs.drop nx, false)).1 = sy := by rw [← hsy.out, HNX.out]
                rw [hsy2]
                clear hny hsy2 q6 r6 hc5
                obtain ⟨v2a, v2l, v2c, e2⟩ : ∃ a l c, v2 = .slice a l c := by obtain ⟨a, c, e⟩ := RB.out.v.long; exact ⟨a, _, c, e⟩
                subst e2
                have r2 := RB.out.nv.c2
                have HLX : Hid ((strs (n5).vs).length + 1 ≤ 9223372036854775807 ∧ ((strs (n5).vs).length + 1) * 16 ≤ 140737488355328) := by show _ ∧ _; rw [strs_len]; have := HLEN.out; omega
                have HBN : Hid (B ≤ (RBw.alloc (.cells #[.string sy] 9)).heap.size) := Nat.le_trans RB.out.wB (below_alloc RBw _).size
                go_wp2_with (at_builtin; refine wpList_moreV _ _ _ _ elemS _ rfl (.tmp 77) (.tmp 79) rfl B _ (strs (n5).vs) ?h1 (RB.out.v.below (below_alloc _ _)) RBw.heap.size (.string sy) ?h2 rfl (one_new _ _ _) HLX.out.1 HLX.out.2 HBN.out ?_; (case h1 => kernel_rfl); (case h2 => kernel_rfl))
                intro v6 w6 o6 g6 f6
                obtain ⟨na, nc, e6⟩ := o6.long
                obtain ⟨nl, hnl⟩ : ∃ l, Hid ((strs (n5).vs ++ [Value.string sy]).length = l) := ⟨_, rfl⟩
                rw [hnl.out] at e6
                subst e6
                obtain ⟨⟨q6, r6⟩, rs7, b7, b6⟩ := grow_val RB.out (below_alloc _ _) g6 o6 f6
                obtain ⟨RCw, hc7⟩ : ∃ W, w6.setCell ⟨nb, 2, none⟩ (.slice na nl nc) = W := ⟨_, rfl⟩
                rw [hc7] at rs7 b7
                have RC := hideN rs7
                have BRC := hideN b7
                clear o6 g6 f6 rs7 b7 b6 HLX HBN r2 hnl
                have BC : Hid (Below nb W2 RCw) := BB.out.trans BRC.out
                have RE : Hid (Rq B nb RCw nb (.slice na' nl' nc') (.slice na nl nc) v3 (pzN true (r, false) (k + 1)).n) := by
                  rw [HSTEP.out]
                  unfold pzStep
                  rw [if_pos HLF.out]
                  have := RC.out
                  rw [← hn5.out] at this
                  rw [hsx.out, hsy.out]
                  exact this
                have HTE : Hid ((pzN true (r, false) (k + 1)).t = (xs.drop ny, false)) := by
                  show _ = _
                  rw [HSTEP.out]
                  unfold pzStep
                  rw [if_pos HLF.out]
                  exact HNY.out
                clear RC BRC RB BB HSH HSH2
                go_wp2_with fail
                go_roundw
                case rel => exact ⟨k + 1, ny, _, _, _, by omega, hnyl, by go_num, rfl, RE, HTE, BC⟩
                case measure => simp [intOf]; omega
              · have HN : Hid (getN 1 xs = none) := HSH2.out (by unfold pzStep; rw [if_pos HLF.out]; show (txtZ (txtZ pk.t).2).2.2 = true; rw [HNX.out]; exact hsh)
                clear hsh HSH HSH2 HGS HGI RB q6 r6 hc5
                obtain ⟨WX, hWX, hx, hf⟩ := HBAD.out RBw HN.out BB.out
                have HX := hideN hx
                have HF := hideN hf
                have HWX := hideN hWX
                have xx := XB.out RBw BB.out
                have s0 := xx.c0
                have s1 := xx.c1
                have s2 := xx.c2
                have s3 := xx.c3
                have f0 := xx.fz 0
                have f1 := xx.fz 1
                have f2 := xx.fz 2
                have f3 := xx.fz 3
                clear hWX hx hf xx
                go_wp2_with fail
                rw [HWX.out]
                refine bodyPost_ret (v := .tuple #[nod false (.slice none 0 0) (.slice none 0 0) (.slice none 0 0), .int .i64 7]) (results_twoN (p := 2) (ty := 25) rfl _ _ _ W1.heap.size _ _ rfl HX.out.loadR rfl) rfl ?_
                exact HF.out
            · have HN : Hid (getN 1 xs = none) := HSH.out (by rw [HTA.out]; exact hsh)
              clear hsh HSH HSH2 HGS HGI RA
              obtain ⟨WX, hWX, hx, hf⟩ := HBAD.out cw HN.out BA.out
              have HX := hideN hx
              have HF := hideN hf
              have HWX := hideN hWX
              have xx := XB.out cw BA.out
              have s0 := xx.c0
              have s1 := xx.c1
              have s2 := xx.c2
              have s3 := xx.c3
              have f0 := xx.fz 0
              have f1 := xx.fz 1
              have f2 := xx.fz 2
              have f3 := xx.fz 3
              clear hWX hx hf xx
              go_wp2_with fail
              rw [HWX.out]
              refine bodyPost_ret (v := .tuple #[nod false (.slice none 0 0) (.slice none 0 0) (.slice none 0 0), .int .i64 7]) (results_twoN (p := 2) (ty := 25) rfl _ _ _ W1.heap.size _ _ rfl HX.out.loadR rfl) rfl ?_
              exact HF.out
          · have hkc : k = c := by omega
            rw [hkc] at RA HTA
            have HGF := hideN (HGI.out (by rw [HTA.out]))
            have HSM : Hid (Sm (pzN true (r, false) c).n) := pz_sm true HBR.out hc255
            have HLF : Hid ((pzN true (r, false) c).n.lf = true) := pzN_lf true (r, false) c
            obtain ⟨n, hn⟩ : ∃ n, Hid ((pzN true (r, false) c).n = n) := ⟨_, rfl⟩
            rw [hn.out] at RA HGF HSM HLF
            have hnv := RA.out.nv
            rw [HLF.out] at hnv
            obtain ⟨v1a, v1l, v1c, e1⟩ : ∃ a l c, v1 = .slice a l c := by obtain ⟨a, c, e⟩ := RA.out.k.long; exact ⟨a, _, c, e⟩
            obtain ⟨v2a, v2l, v2c, e2⟩ : ∃ a l c, v2 = .slice a l c := by obtain ⟨a, c, e⟩ := RA.out.v.long; exact ⟨a, _, c, e⟩
            obtain ⟨v3a, v3l, v3c, e3⟩ : ∃ a l c, v3 = .slice a l c := by obtain ⟨a, c, e⟩ := RA.out.d.long; exact ⟨a, _, c, e⟩
            subst e1 e2 e3
            have NV := hideN hnv
            have p0 := hnv.c0
            have p1 := hnv.c1
            have p2 := hnv.c2
            have p3 := hnv.c3
            have HPT : Hid (Calls Try.prog 15 #[.agg #[.bool true, .slice v1a v1l v1c, .slice v2a v2l v2c, .slice v3a v3l v3c]] cw fun e w' => PutW n cw e w') := by
              have := refPut_all n _ _ _ cw RA.out.nn HSM.out
              rw [HLF.out] at this
              exact this
            have HNW : Hid (∀ j, ((Value.slice v1a v1l v1c).ownBlock = some j ∨ (Value.slice v2a v2l v2c).ownBlock = some j ∨ (Value.slice v3a v3l v3c).ownBlock = some j) → nb ≤ j) := fun j hj => by
              have h3 := RA.out.nB
              rcases hj with e | e | e
              · have := RA.out.k.ge j e; omega
              · have := RA.out.v.ge j e; omega
              · have := RA.out.d.ge j e; omega
            have NN := hideN RA.out.nn
            have HXL : Hid (W1.heap.size < nb) := by rw [← hnb.out]; exact X2.out.lt
            clear hnv HGI HGS HTA RA
            go_wp2_with fail
            refine HPT.out.mono ?_
            rintro e w6 ⟨KK, y1, E1, ys, rfl, r6, b6, h6⟩
            obtain ⟨ya, yc, ey, _⟩ := id r6
            obtain ⟨yl, hyl⟩ : ∃ l, Hid (ys.length = l) := ⟨_, rfl⟩
            rw [hyl.out] at ey
            subst ey
            obtain ⟨W7, hW7⟩ : ∃ W7, w6.alloc (.cells #[.int .i64 KK, .slice ya yl yc] 34) = W7 := ⟨_, rfl⟩
            have b7 : Below w6.heap.size w6 W7 := by rw [← hW7]; exact below_alloc _ _
            have b67 : Below cw.heap.size cw W7 := b6.trans (b7.mono b6.size)
            have nbw : nb ≤ cw.heap.size := by have := NV.out.lt; omega
            have B7 : Hid (Below nb W2 W7) := BA.out.trans (b67.mono nbw)
            have Q7 : Hid (Kb W7 w6.heap.size KK (.slice ya yl yc)) := by rw [← hW7]; exact kb_new _ _ _
            have S7 := hideN (r6.below b7)
            have NV7 := hideN (NV.out.below b67)
            have NN7 := hideN (NN.out.below b67)
            have R7 : Hid (Rd .u8 W7 (.slice (some ⟨bb, bo, none⟩) L cap) xs) := R2.out.below (by rw [hnb.out]; exact B7.out)
            have HSB := hideN (same_rd _ _ ys xs W7 S7.out R7.out)
            have K7 := KB2.out W7 B7.out
            clear q0 q1 p0 p1 p2 p3
            have q0 := Q7.out.c0
            have q1 := Q7.out.c1
            have q2 := K7.c0
            have q3 := K7.c1
            have H6 := hideN h6
            clear K7 r6 b6 b7 b67 nbw h6 HPT
            go_wp2_with fail
            refine HSB.out.mono ?_
            rintro e w8 ⟨rfl, b8⟩
            have B8 : Hid (Below nb W2 w8) := B7.out.trans (b8.mono (by have := NV7.out.lt; omega))
            have NV8 := hideN (NV7.out.below b8)
            have NN8 := hideN (NN7.out.below b8)
            clear b8 q0 q1 q2 q3 hW7
            rcases H6.out with ⟨m1, k1, rfl, x1⟩ | ⟨m1, k1, rfl, x1⟩
            · rw [m1, ← x1] at HGF
              by_cases hsame : ys = xs
              · have HSO : Hid (getN 1 xs = some n) := by show _ = _; rw [HGF.out, if_pos (by simp [hsame])]
                rw [decide_eq_true hsame]
                have xx := XB.out w8 B8.out
                have y0 := NV8.out.c0
                have y1 := NV8.out.c1
                have y2 := NV8.out.c2
                have y3 := NV8.out.c3
                have s0 := xx.c0
                have s1 := xx.c1
                have s2 := xx.c2
                have s3 := xx.c3
                have f0 := xx.fz 0
                have f1 := xx.fz 1
                have f2 := xx.fz 2
                have f3 := xx.fz 3
                obtain ⟨WA, hWA⟩ : ∃ WA, Hid ((((w8.setCell ⟨W1.heap.size, 0, none⟩ (.bool true)).setCell ⟨W1.heap.size, 1, none⟩ (.slice v1a v1l v1c)).setCell ⟨W1.heap.size, 2, none⟩ (.slice v2a v2l v2c)).setCell ⟨W1.heap.size, 3, none⟩ (.slice v3a v3l v3c) = WA) := ⟨_, rfl⟩
                have YA : Hid (Nb WA 25 W1.heap.size true (.slice v1a v1l v1c) (.slice v2a v2l v2c) (.slice v3a v3l v3c)) := by rw [← hWA.out]; exact xx.all _ _ _ _
                have tA : Tch (fun j => j = W1.heap.size) w8 WA := by rw [← hWA.out]; exact tch_all _ _ _ _ _ _
                have NA : Hid (Nn WA n (.slice v1a v1l v1c) (.slice v2a v2l v2c) (.slice v3a v3l v3c)) := NN8.out.tch tA (fun j hj e => by have := HNW.out j (.inl hj); have := HXL.out; omega) (fun j hj e => by have := HNW.out j (.inr (.inl hj)); have := HXL.out; omega) (fun j hj e => by have := HNW.out j (.inr (.inr hj)); have := HXL.out; omega)
                have bw : Below w.heap.size w w8 := B2.out.trans (B8.out.mono (by have := HLT.out; have := HXL.out; omega))
                have BF : Hid (Below w.heap.size w WA) := bw.trans (tA.below bw.size (fun j e => by have := HLT.out; omega))
                clear xx tA bw m1 k1 x1 hsame HGF H6
                go_wp2_with fail
                rw [hWA.out]
                refine bodyPost_ret (v := .tuple #[nod true (.slice v1a v1l v1c) (.slice v2a v2l v2c) (.slice v3a v3l v3c), .int .i64 0]) (results_twoN (p := 2) (ty := 25) rfl _ _ _ W1.heap.size _ _ rfl YA.out.loadR rfl) rfl ?_
                exact ⟨.inl ⟨n, _, _, _, HSO.out, by rw [HLF.out], NA.out⟩, BF.out⟩
              · have HN : Hid (getN 1 xs = none) := by show _ = _; rw [HGF.out, if_neg (by simp [hsame])]
                rw [decide_eq_false hsame]
                clear m1 k1 x1 hsame HGF H6
                obtain ⟨WX, hWX, hx, hf⟩ := HBAD.out w8 HN.out B8.out
                have HX := hideN hx
                have HF := hideN hf
                have HWX := hideN hWX
                have xx := XB.out w8 B8.out
                have s0 := xx.c0
                have s1 := xx.c1
                have s2 := xx.c2
                have s3 := xx.c3
                have f0 := xx.fz 0
                have f1 := xx.fz 1
                have f2 := xx.fz 2
                have f3 := xx.fz 3
                clear hWX hx hf xx
                go_wp2_with fail
                rw [HWX.out]
                refine bodyPost_ret (v := .tuple #[nod false (.slice none 0 0) (.slice none 0 0) (.slice none 0 0), .int .i64 7]) (results_twoN (p := 2) (ty := 25) rfl _ _ _ W1.heap.size _ _ rfl HX.out.loadR rfl) rfl ?_
                exact HF.out
            · have HN : Hid (getN 1 xs = none) := by show _ = _; rw [HGF.out, m1, if_neg (by simp)]
              generalize decide (ys = xs) = sm
              clear m1 k1 x1 HGF H6
              obtain ⟨WX, hWX, hx, hf⟩ := HBAD.out w8 HN.out B8.out
              have HX := hideN hx
              have HF := hideN hf
              have HWX := hideN hWX
              have xx := XB.out w8 B8.out
              have s0 := xx.c0
              have s1 := xx.c1
              have s2 := xx.c2
              have s3 := xx.c3
              have f0 := xx.fz 0
              have f1 := xx.fz 1
              have f2 := xx.fz 2
              have f3 := xx.fz 3
              clear hWX hx hf xx
              go_wp2_with fail
              rw [HWX.out]
              refine bodyPost_ret (v := .tuple #[nod false (.slice none 0 0) (.slice none 0 0) (.slice none 0 0), .int .i64 7]) (results_twoN (p := 2) (ty := 25) rfl _ _ _ W1.heap.size _ _ rfl HX.out.loadR rfl) rfl ?_
              exact HF.out
      · obtain ⟨W3, hW3⟩ : ∃ W3, Hid (W2.alloc (.cells #[.bool false, .slice none 0 0, .slice none 0 0, .slice none 0 0] 25) = W3) := ⟨_, rfl⟩
        have b3 : Below W2.heap.size W2 W3 := by rw [← hW3.out]; exact below_alloc _ _
        have z3 : W3.heap.size = W2.heap.size + 1 := by rw [← hW3.out]; simp
        have NV3 : Nb W3 25 W2.heap.size false (.slice none 0 0) (.slice none 0 0) (.slice none 0 0) := by rw [← hW3.out]; exact nb_new _ _ _ _ _ _
        have R3 : Hid (Rq W3.heap.size W2.heap.size W3 W2.heap.size (.slice none 0 0) (.slice none 0 0) (.slice none 0 0) (pzN false (r, false) 0).n) := ⟨NV3, owV_nil _ _ _, owV_nil _ _ _, owV_nil _ _ _, (fun j e => by cases e), by omega, Nat.le_refl _, Nat.le_refl _⟩
        have B3 := hideN b3
        have HT0 : Hid ((pzN false (r, false) 0).t = (xs.drop 1, false)) := by show _ = _; rw [HXS.out]; rfl
        have HGS : Hid (∀ k, k ≤ c → (pzN false (r, false) k).t.2 = true → getN 2 xs = none) := fun k hk h => by rw [HXS.out]; exact get_short (kd := 2) (c := (c : Int)) (by simpa using hk) h
        have HGI : Hid ((pzN false (r, false) c).t.2 = false → getN 2 xs = if (mayN (pzN false (r, false) c).n && decide (encN (pzN false (r, false) c).n (pzN false (r, false) c).n.ks.length = xs)) = true then some (pzN false (r, false) c).n else none) := fun h => by
          have hg := get_iff (lf := false) (c := (c : Int)) HXS.out HY.out (by simpa using h)
          simp only [Int.toNat_natCast] at hg
          unfold getN
          rw [if_pos (by decide), show decide ((2 : Int) = 1) = false by decide, hg]
          have : rdN false xs = pzN false (r, false) c := by unfold rdN; rw [HXS.out, numZ_cons]; rfl
          rw [this]
        obtain ⟨B, hB⟩ : ∃ B, Hid (W3.heap.size = B) := ⟨_, rfl⟩
        obtain ⟨nb, hnb⟩ : ∃ n, Hid (W2.heap.size = n) := ⟨_, rfl⟩
        rw [hB.out, hnb.out] at R3
        have CB2 : Hid (∀ i, i < L → ∀ W, Below nb W2 W → W.cell? ⟨bb, bo + i, none⟩ = some (.int .u8 (xs.getD i 0))) := by rw [← hnb.out]; exact CB.out
        rw [hnb.out] at HTX HBAD B3 XB KB2
        clear b3 z3 NV3
        go_enter Try.func20, Try.ntmps20
        go_wp2_with (refine wpList_store_newD _ rfl 25 (.tmp 4) (.tmp 34) rfl _ #[.bool false, .slice none 0 0, .slice none 0 0, .slice none 0 0] ?h1 ?h2 inf_ref rfl rfl ?_; (case h1 => rfl); (case h2 => rfl); skip)
        rw [hW3.out, hnb.out]
        clear q0 q1 hW1 hW2 hW3
        go_loopw [5, 6] (fun at_ i wr => ∃ (k a : Nat) (v1 v2 v3 : Value), k ≤ c ∧ a ≤ L ∧ i = .int .i64 k ∧ at_ = .int .i64 a ∧ Hid (Rq B nb wr nb v1 v2 v3 (pzN false (r, false) k).n) ∧ Hid ((pzN false (r, false) k).t = (xs.drop a, false)) ∧ Hid (Below nb W2 wr)) (fun _ i _ => c - (intOf i).toNat)
        case atStart => exact ⟨0, 1, _, _, _, Nat.zero_le _, hL1, rfl, rfl, R3, HT0, B3⟩
        case round =>
          clear R3 HT0 B3
          obtain ⟨k, a, v1, v2, v3, hk, ha, rfl, rfl, RA, HTA, BA⟩ := hrel
          obtain ⟨cw, rfl⟩ : ∃ cw, cw = wr := ⟨_, rfl⟩
          have KA := KB2.out cw BA.out
          have q0 := KA.c0
          have q1 := KA.c1
          have c0 : cw.cell? ⟨bb, bo, none⟩ = some (.int .u8 (c : Int)) := by have := CB2.out 0 (by omega) cw BA.out; rw [HXS.out] at this; exact this
          clear KA
          by_cases hlt : k < c
          · have HSTEP : Hid (pzN false (r, false) (k + 1) = pzStep (pzN false (r, false) k)) := rfl
            have HLF : Hid ((pzN false (r, false) k).n.lf = false) := pzN_lf false (r, false) k
            have HLEN0 : Hid ((pzN false (r, false) k).n.ks.length ≤ 255 ∧ (pzN false (r, false) k).n.vs.length ≤ 255 ∧ (pzN false (r, false) k).n.kd.length ≤ 255) := by have := pzN_len false (r, false) k; show _ ∧ _; omega
            have HLEN : Hid ((pzN false (r, false) k).n.ks.length ≤ 255) := HLEN0.out.1
            have HSH : Hid ((txtZ (pzN false (r, false) k).t).2.2 = true → getN 2 xs = none) := fun h => HGS.out (k + 1) (by omega) (pz_txt h)
            have HSH2 : Hid ((pzN false (r, false) (k + 1)).t.2 = true → getN 2 xs = none) := fun h => HGS.out (k + 1) (by omega) h
            obtain ⟨pk, hpk⟩ : ∃ p, Hid (pzN false (r, false) k = p) := ⟨_, rfl⟩
            rw [hpk.out] at RA HTA HSTEP HLF HLEN HLEN0 HSH
            rw [HSTEP.out] at HSH2
            go_wp2_with fail
            refine (HTX.out cw a BA.out ha).mono ?_
            rintro e cw ⟨h5, rfl⟩
            rcases h5 with ⟨nx, rfl, hnx, hnl⟩ | ⟨rfl, hsh⟩
            · rw [hL.out] at hnl
              obtain ⟨sx, hsx⟩ : ∃ s, Hid ((txtZ pk.t).1 = s) := ⟨_, rfl⟩
              have HNX : Hid ((txtZ pk.t).2 = (xs.drop nx, false)) := by rw [HTA.out]; exact hnx
              have hsx2 : (txtZ (xs.drop a, false)).1 = sx := by rw [← hsx.out, HTA.out]
              rw [hsx2]
              clear hnx hsx2
              obtain ⟨v1a, v1l, v1c, e1⟩ : ∃ a l c, v1 = .slice a l c := by obtain ⟨a, c, e⟩ := RA.out.k.long; exact ⟨a, _, c, e⟩
              subst e1
              have r1 := RA.out.nv.c1
              have HLX : Hid ((strs (pk.n).ks).length + 1 ≤ 9223372036854775807 ∧ ((strs (pk.n).ks).length + 1) * 16 ≤ 140737488355328) := by show _ ∧ _; rw [strs_len]; have := HLEN.out; omega
              have HBN : Hid (B ≤ (cw.alloc (.cells #[.string sx] 9)).heap.size) := Nat.le_trans RA.out.wB (below_alloc cw _).size
              go_wp2_with (at_builtin; refine wpList_moreV _ _ _ _ elemS _ rfl (.tmp 57) (.tmp 59) rfl B _ (strs (pk.n).ks) ?h1 (RA.out.k.below (below_alloc _ _)) cw.heap.size (.string sx) ?h2 rfl (one_new _ _ _) HLX.out.1 HLX.out.2 HBN.out ?_; (case h1 => kernel_rfl); (case h2 => kernel_rfl))
              intro v6 w6 o6 g6 f6
              obtain ⟨na, nc, e6⟩ := o6.long
              obtain ⟨nl, hnl⟩ : ∃ l, Hid ((strs (pk.n).ks ++ [Value.string sx]).length = l) := ⟨_, rfl⟩
              rw [hnl.out] at e6
              subst e6
              obtain ⟨⟨q6, r6⟩, rs7, b7, b6⟩ := grow_key RA.out (below_alloc _ _) g6 o6 f6
              obtain ⟨RBw, hc5⟩ : ∃ W, w6.setCell ⟨nb, 1, none⟩ (.slice na nl nc) = W := ⟨_, rfl⟩
              rw [hc5] at rs7 b7
              have RB := hideN rs7
              have BRB := hideN b7
              clear o6 g6 f6 rs7 b7 b6 HLX HBN r1 hnl
              have HLEN2 : Hid (pk.n.kd.length ≤ 255) := HLEN0.out.2.2
              obtain ⟨n5, hn5⟩ : ∃ n : Nd, Hid ({ pk.n with ks := pk.n.ks ++ [sx] } = n) := ⟨_, rfl⟩
              rw [hn5.out] at RB
              have hlf5 : n5.lf = false := by rw [← hn5.out]; exact HLF.out
              have BB : Hid (Below nb W2 RBw) := BA.out.trans BRB.out
              have K5 := KB2.out RBw BB.out
              have nv5 := RB.out.nv
              rw [hlf5] at nv5
              clear q0 q1 c0 BRB
              have q0 := K5.c0
              have q1 := K5.c1
              have p0 := nv5.c0
              clear nv5 hlf5
              by_cases hfit : nx + 2 ≤ L
              · have hd2 : decide ((L : Int) < (nx : Int) + 2) = false := by rw [decide_eq_false_iff_not]; omega
                have d1 := CB2.out nx (by omega) RBw BB.out
                have d2 := CB2.out (nx + 1) (by omega) RBw BB.out
                have l1 := HY.out nx
                have l2 := HY.out (nx + 1)
                have hz1 := num_at (xs := xs) (a := nx) (by rw [hL.out]; omega)
                have hz2 := num_at (xs := xs) (a := nx + 1) (by rw [hL.out]; omega)
                obtain ⟨lo, hlo⟩ : ∃ x, Hid (xs.getD nx 0 = x) := ⟨_, rfl⟩
                obtain ⟨hi, hhi⟩ : ∃ x, Hid (xs.getD (nx + 1) 0 = x) := ⟨_, rfl⟩
                rw [hlo.out] at d1 l1 hz1
                rw [hhi.out] at d2 l2 hz2
                have HZ1 := hideN hz1
                have HZ2 := hideN hz2
                obtain ⟨v3a, v3l, v3c, e3⟩ : ∃ a l c, v3 = .slice a l c := by obtain ⟨a, c, e⟩ := RB.out.d.long; exact ⟨a, _, c, e⟩
                subst e3
                have hbb : bb < nb := by
                  have h0 := R2.out
                  obtain ⟨a', cap', e', _, _, _, h4'⟩ := h0
                  have := World.block_lt_of_cell? W2 ⟨bb, bo + nx, none⟩ (CB2.out nx (by omega) W2 (Below.refl _ _))
                  rw [← hnb.out]
                  exact this
                have hwn : w.heap.size < nb := by rw [← hnb.out]; have := HLT.out; have := X2.out.lt; omega
                have HSK : Hid (∀ w', Below nb RBw w' → w'.cell? ⟨nb, 3, none⟩ = some (.slice v3a v3l v3c) → w'.cell? ⟨nb, 3, none⟩ = some (.slice v3a v3l v3c) ∧ w'.cell? ⟨w.heap.size, 1, none⟩ = some (.slice (some ⟨bb, bo, none⟩) L cap) ∧ w'.cell? ⟨bb, bo + nx, none⟩ = some (.int .u8 lo) ∧ w'.cell? ⟨bb, bo + (nx + 1), none⟩ = some (.int .u8 hi)) := fun w' hb h0 => ⟨h0, by rw [hb.cell (p := ⟨w.heap.size, 1, none⟩) hwn]; exact K5.c1, by rw [hb.cell (p := ⟨bb, bo + nx, none⟩) hbb]; exact d1, by rw [hb.cell (p := ⟨bb, bo + (nx + 1), none⟩) hbb]; exact d2⟩
                have hS : RBw.drew.cell? ⟨nb, 3, none⟩ = some (.slice v3a v3l v3c) ∧ RBw.drew.cell? ⟨w.heap.size, 1, none⟩ = some (.slice (some ⟨bb, bo, none⟩) L cap) ∧ RBw.drew.cell? ⟨bb, bo + nx, none⟩ = some (.int .u8 lo) ∧ RBw.drew.cell? ⟨bb, bo + (nx + 1), none⟩ = some (.int .u8 hi) := HSK.out RBw (Below.refl _ _) RB.out.nv.c3
                have HCW : Hid (Below RBw.heap.size RBw (RBw.drew.alloc (.cells #[.int .i64 (lo + 256 * hi)] 3))) := (Below.refl _ _).drew.alloc (Nat.le_refl _) _
                have hSb : (RBw.drew.alloc (.cells #[.int .i64 (lo + 256 * hi)] 3)).cell? ⟨nb, 3, none⟩ = some (.slice v3a v3l v3c) ∧ (RBw.drew.alloc (.cells #[.int .i64 (lo + 256 * hi)] 3)).cell? ⟨w.heap.size, 1, none⟩ = some (.slice (some ⟨bb, bo, none⟩) L cap) ∧ (RBw.drew.alloc (.cells #[.int .i64 (lo + 256 * hi)] 3)).cell? ⟨bb, bo + nx, none⟩ = some (.int .u8 lo) ∧ (RBw.drew.alloc (.cells #[.int .i64 (lo + 256 * hi)] 3)).cell? ⟨bb, bo + (nx + 1), none⟩ = some (.int .u8 hi) := HSK.out _ (HCW.out.mono (by have := RB.out.nB; have := RB.out.wB; omega)) (RB.out.nv.below HCW.out).c3
                have HLX : Hid ((nums n5.kd).length + 1 ≤ 9223372036854775807 ∧ ((nums n5.kd).length + 1) * 8 ≤ 140737488355328) := by show _ ∧ _; rw [nums_len, ← hn5.out]; have := HLEN2.out; show pk.n.kd.length + 1 ≤ _ ∧ (pk.n.kd.length + 1) * 8 ≤ _; omega
                have HBN : Hid (B ≤ (RBw.drew.alloc (.cells #[.int .i64 (lo + 256 * hi)] 3)).heap.size) := Nat.le_trans RB.out.wB HCW.out.size
                have HON : Hid (OwV B 3 (RBw.drew.alloc (.cells #[.int .i64 (lo + 256 * hi)] 3)) (.slice v3a v3l v3c) (nums n5.kd)) := RB.out.d.below HCW.out
                obtain ⟨lo0, lo1⟩ := l1
                obtain ⟨hi0, hi1⟩ := l2
                have m1 : IntKind.i64.wrap (256 * hi) = 256 * hi := by rw [IntKind.wrap_i64]; omega
                have m2 : IntKind.i64.wrap (lo + 256 * hi) = lo + 256 * hi := by rw [IntKind.wrap_i64]; omega
                have m3 : IntKind.i64.wrap ((nx : Int) + 1) = (nx : Int) + 1 := by rw [IntKind.wrap_i64]; omega
                have m4 : ((nx : Int) + 1).toNat = nx + 1 := by omega
                have m5 : IntKind.i64.wrap lo = lo := by rw [IntKind.wrap_i64]; omega
                have m6 : IntKind.i64.wrap hi = hi := by rw [IntKind.wrap_i64]; omega
                clear hz1 hz2 d1 d2 K5
                go_wp2_with fail
                clear q6 r6 hc5
                refine beginW (S := fun w' => w'.cell? ⟨nb, 3, none⟩ = some (.slice v3a v3l v3c) ∧ w'.cell? ⟨w.heap.size, 1, none⟩ = some (.slice (some ⟨bb, bo, none⟩) L cap) ∧ w'.cell? ⟨bb, bo + nx, none⟩ = some (.int .u8 lo) ∧ w'.cell? ⟨bb, bo + (nx + 1), none⟩ = some (.int .u8 hi)) (t := 20) (by kernel_rfl) ?_
                refine takeW 0 (some 89) (.fieldAddr 25 (.tmp 4) 3) (Value.pointer (some ⟨nb, 3, none⟩)) rfl rfl (by kernel_rfl) (by kernel_rfl) (by kernel_rfl) (by kernel_rfl) (fun _ _ _ h => h) ?hy hS ?_
                case hy =>
                  rintro o ho w' ⟨hS1, hS2, hS3, hS4⟩
                  go_simp
                simp only [Act.put, List.setIfInBounds_toArray, List.set_cons_zero, List.set_cons_succ]
                refine takeW 1 (some 90) (.load 23 (.tmp 89)) (Value.slice v3a v3l v3c) rfl rfl (by kernel_rfl) (by kernel_rfl) (by kernel_rfl) (by kernel_rfl) (fun _ _ _ h => h) ?hy hS ?_
                case hy =>
                  rintro o ho w' ⟨hS1, hS2, hS3, hS4⟩
                  go_simp
                simp only [Act.put, List.setIfInBounds_toArray, List.set_cons_zero, List.set_cons_succ]
                refine takeW 2 (some 91) (.fieldAddr 34 (.tmp 1) 1) (Value.pointer (some ⟨w.heap.size, 1, none⟩)) rfl rfl (by kernel_rfl) (by kernel_rfl) (by kernel_rfl) (by kernel_rfl) (fun _ _ _ h => h) ?hy hS ?_
                case hy =>
                  rintro o ho w' ⟨hS1, hS2, hS3, hS4⟩
                  go_simp
                simp only [Act.put, List.setIfInBounds_toArray, List.set_cons_zero, List.set_cons_succ]
                refine takeW 3 (some 92) (.load 32 (.tmp 91)) (Value.slice (some ⟨bb, bo, none⟩) L cap) rfl rfl (by kernel_rfl) (by kernel_rfl) (by kernel_rfl) (by kernel_rfl) (fun _ _ _ h => h) ?hy hS ?_
                case hy =>
                  rintro o ho w' ⟨hS1, hS2, hS3, hS4⟩
                  go_simp
                simp only [Act.put, List.setIfInBounds_toArray, List.set_cons_zero, List.set_cons_succ]
                refine takeW 4 (some 93) (.move (.tmp 5)) (Value.int .i64 (nx : Int)) rfl rfl (by kernel_rfl) (by kernel_rfl) (by kernel_rfl) (by kernel_rfl) (fun _ _ _ h => h) ?hy hS ?_
                case hy =>
                  rintro o ho w' ⟨hS1, hS2, hS3, hS4⟩
                  go_simp
                simp only [Act.put, List.setIfInBounds_toArray, List.set_cons_zero, List.set_cons_succ]
                refine takeW 5 (some 94) (.indexAddr 32 (.tmp 92) (.tmp 93)) (Value.pointer (some ⟨bb, bo + nx, none⟩)) rfl rfl (by kernel_rfl) (by kernel_rfl) (by kernel_rfl) (by kernel_rfl) (fun _ _ _ h => h) ?hy hS ?_
                case hy =>
                  rintro o ho w' ⟨hS1, hS2, hS3, hS4⟩
                  go_simp
                  intro h; omega
                simp only [Act.put, List.setIfInBounds_toArray, List.set_cons_zero, List.set_cons_succ]
                refine takeW 6 (some 95) (.load 5 (.tmp 94)) (Value.int .u8 lo) rfl rfl (by kernel_rfl) (by kernel_rfl) (by kernel_rfl) (by kernel_rfl) (fun _ _ _ h => h) ?hy hS ?_
                case hy =>
                  rintro o ho w' ⟨hS1, hS2, hS3, hS4⟩
                  go_simp
                simp only [Act.put, List.setIfInBounds_toArray, List.set_cons_zero, List.set_cons_succ]
                refine takeW 7 (some 96) (.convert 5 3 (.tmp 95)) (Value.int .i64 lo) rfl rfl (by kernel_rfl) (by kernel_rfl) (by kernel_rfl) (by kernel_rfl) (fun _ _ _ h => h) ?hy hS ?_
                case hy =>
                  rintro o ho w' ⟨hS1, hS2, hS3, hS4⟩
                  go_simp
                simp only [Act.put, List.setIfInBounds_toArray, List.set_cons_zero, List.set_cons_succ]
                refine takeW 8 (some 97) (.fieldAddr 34 (.tmp 1) 1) (Value.pointer (some ⟨w.heap.size, 1, none⟩)) rfl rfl (by kernel_rfl) (by kernel_rfl) (by kernel_rfl) (by kernel_rfl) (fun _ _ _ h => h) ?hy hS ?_
                case hy =>
                  rintro o ho w' ⟨hS1, hS2, hS3, hS4⟩
                  go_simp
                simp only [Act.put, List.setIfInBounds_toArray, List.set_cons_zero, List.set_cons_succ]
                refine takeW 9 (some 98) (.load 32 (.tmp 97)) (Value.slice (some ⟨bb, bo, none⟩) L cap) rfl rfl (by kernel_rfl) (by kernel_rfl) (by kernel_rfl) (by kernel_rfl) (fun _ _ _ h => h) ?hy hS ?_
                case hy =>
                  rintro o ho w' ⟨hS1, hS2, hS3, hS4⟩
                  go_simp
                simp only [Act.put, List.setIfInBounds_toArray, List.set_cons_zero, List.set_cons_succ]
                refine takeW 10 (some 99) (.move (.tmp 5)) (Value.int .i64 (nx : Int)) rfl rfl (by kernel_rfl) (by kernel_rfl) (by kernel_rfl) (by kernel_rfl) (fun _ _ _ h => h) ?hy hS ?_
                case hy =>
                  rintro o ho w' ⟨hS1, hS2, hS3, hS4⟩
                  go_simp
                simp only [Act.put, List.setIfInBounds_toArray, List.set_cons_zero, List.set_cons_succ]
                refine takeW 11 (some 100) (.binOp .add 3 (.tmp 99) (.const (.int .i64 1)) 3) (Value.int .i64 ((nx : Int) + 1)) rfl rfl (by kernel_rfl) (by kernel_rfl) (by kernel_rfl) (by kernel_rfl) (fun _ _ _ h => h) ?hy hS ?_
                case hy =>
                  rintro o ho w' ⟨hS1, hS2, hS3, hS4⟩
                  go_simp
                simp only [Act.put, List.setIfInBounds_toArray, List.set_cons_zero, List.set_cons_succ]
                refine takeW 12 (some 101) (.indexAddr 32 (.tmp 98) (.tmp 100)) (Value.pointer (some ⟨bb, bo + (nx + 1), none⟩)) rfl rfl (by kernel_rfl) (by kernel_rfl) (by kernel_rfl) (by kernel_rfl) (fun _ _ _ h => h) ?hy hS ?_
                case hy =>
                  rintro o ho w' ⟨hS1, hS2, hS3, hS4⟩
                  go_simp
                  intro h; exact absurd (h (by omega)) (by omega)
                simp only [Act.put, List.setIfInBounds_toArray, List.set_cons_zero, List.set_cons_succ]
                refine takeW 13 (some 102) (.load 5 (.tmp 101)) (Value.int .u8 hi) rfl rfl (by kernel_rfl) (by kernel_rfl) (by kernel_rfl) (by kernel_rfl) (fun _ _ _ h => h) ?hy hS ?_
                case hy =>
                  rintro o ho w' ⟨hS1, hS2, hS3, hS4⟩
                  go_simp
                simp only [Act.put, List.setIfInBounds_toArray, List.set_cons_zero, List.set_cons_succ]
                refine takeW 14 (some 103) (.convert 5 3 (.tmp 102)) (Value.int .i64 hi) rfl rfl (by kernel_rfl) (by kernel_rfl) (by kernel_rfl) (by kernel_rfl) (fun _ _ _ h => h) ?hy hS ?_
                case hy =>
                  rintro o ho w' ⟨hS1, hS2, hS3, hS4⟩
                  go_simp
                simp only [Act.put, List.setIfInBounds_toArray, List.set_cons_zero, List.set_cons_succ]
                refine takeW 15 (some 104) (.binOp .mul 3 (.const (.int .i64 256)) (.tmp 103) 3) (Value.int .i64 (256 * hi)) rfl rfl (by kernel_rfl) (by kernel_rfl) (by kernel_rfl) (by kernel_rfl) (fun _ _ _ h => h) ?hy hS ?_
                case hy =>
                  rintro o ho w' ⟨hS1, hS2, hS3, hS4⟩
                  go_simp
                simp only [Act.put, List.setIfInBounds_toArray, List.set_cons_zero, List.set_cons_succ]
                refine takeW 16 (some 105) (.binOp .add 3 (.tmp 96) (.tmp 104) 3) (Value.int .i64 (lo + 256 * hi)) rfl rfl (by kernel_rfl) (by kernel_rfl) (by kernel_rfl) (by kernel_rfl) (fun _ _ _ h => h) ?hy hS ?_
                case hy =>
                  rintro o ho w' ⟨hS1, hS2, hS3, hS4⟩
                  go_simp
                simp only [Act.put, List.setIfInBounds_toArray, List.set_cons_zero, List.set_cons_succ]
                refine readyW 17 (some 106) (.buildSlice 23 1 #[(0, .tmp 105)]) rfl (by kernel_rfl) ?_
                rintro o K hd ho hg hK
                refine wp_buildV _ _ _ _ elemI (.tmp 105) ho (.int .i64 (lo + 256 * hi)) rfl rfl ?_
                rw [hd]
                refine hK _ _ (fun _ => hSb) ?_
                clear ho hd hg hK
                simp only [Act.put, List.setIfInBounds_toArray, List.set_cons_zero, List.set_cons_succ]
                refine readyW 18 (some 107) (.call { callee := .builtin .append, args := #[.tmp 90, .tmp 106], argTypes := #[23, 23] }) rfl (by kernel_rfl) ?_
                rintro o K hd ho hg hK
                refine wp_moreV _ _ _ _ elemI (w := (RBw.drew.alloc (.cells #[.int .i64 (lo + 256 * hi)] 3))) (.tmp 90) (.tmp 106) ho B _ (nums n5.kd) rfl HON.out RBw.heap.size (.int .i64 (lo + 256 * hi)) rfl rfl (one_new _ _ _) HLX.out.1 HLX.out.2 HBN.out ?_
                intro v6 w6 o6 g6 f6
                obtain ⟨ma, mc, e6⟩ := o6.long
                obtain ⟨ml, hml⟩ : ∃ l, Hid ((nums n5.kd ++ [Value.int .i64 (lo + 256 * hi)]).length = l) := ⟨_, rfl⟩
                rw [hml.out] at e6
                subst e6
                obtain ⟨⟨q6, r6⟩, rs7, b7, b6⟩ := grow_kid (y := (lo + 256 * hi)) RB.out HCW.out g6 o6 f6
                have hS6 := HSK.out w6 b6 q6
                rw [hd]
                refine hK _ _ (fun _ => hS6) ?_
                clear ho hd hg hK o6 g6 f6 b6
                simp only [Act.put, List.setIfInBounds_toArray, List.set_cons_zero, List.set_cons_succ]
                refine readyW 19 (some 108) (.fieldAddr 25 (.tmp 4) 3) rfl (by kernel_rfl) ?_
                rintro o K hd ho hg hK
                refine stepY (v := Value.pointer (some ⟨nb, 3, none⟩)) ?hy ?_
                case hy => go_simp
                rw [hd]
                refine hK _ _ (fun _ => hS6) ?_
                clear ho hd hg hK
                simp only [Act.put, List.setIfInBounds_toArray, List.set_cons_zero, List.set_cons_succ]
                refine readyW 20 none (.store 23 (.tmp 108) (.tmp 107)) rfl (by kernel_rfl) ?_
                rintro o K hd ho hg hK
                refine wp_storeI ho rfl rfl q6 r6 ?_
                rw [hd]
                refine hK _ _ (fun e => absurd rfl e) ?_
                refine doneW (by kernel_rfl) ?_ _
                clear ho hd hg hK hml
                simp only [Act.put]
                obtain ⟨RCw, hc7⟩ : ∃ W, Hid (w6.setCell ⟨nb, 3, none⟩ (.slice ma ml mc) = W) := ⟨_, rfl⟩
                rw [hc7.out] at rs7 b7
                rw [hc7.out]
                have BC : Hid (Below nb W2 RCw) := BB.out.trans b7
                have RE : Hid (Rq B nb RCw nb (.slice na nl nc) v2 (.slice ma ml mc) (pzN false (r, false) (k + 1)).n) := by
                  rw [HSTEP.out]
                  unfold pzStep
                  rw [if_neg (by rw [HLF.out]; decide)]
                  have h7 := rs7
                  rw [← hn5.out] at h7
                  rw [hsx.out, HNX.out, HZ1.out]
                  simp only
                  rw [HZ2.out]
                  simp only
                  rw [show lo + hi * 256 = lo + 256 * hi by omega]
                  exact h7
                have HTE : Hid ((pzN false (r, false) (k + 1)).t = (xs.drop (nx + 2), false)) := by
                  show _ = _
                  rw [HSTEP.out]
                  unfold pzStep
                  rw [if_neg (by rw [HLF.out]; decide), HNX.out, HZ1.out]
                  simp only
                  rw [HZ2.out]
                clear rs7 b7 RB BB HSH HSH2 hS hSb hS6 HSK HCW HLX HBN HON m1 m2 m3 m4 m5 m6 q6 r6
                go_wp2_with fail
                go_roundw
                case rel => exact ⟨k + 1, nx + 2, _, _, _, by omega, hfit, by go_num, by go_num, RE, HTE, BC⟩
                case measure => simp [intOf]; omega
              · have hd2 : (L : Int) < (nx : Int) + 2 := by omega
                have HN : Hid (getN 2 xs = none) := HSH2.out (by
                  unfold pzStep
                  rw [if_neg (by rw [HLF.out]; decide)]
                  show (numZ (numZ (txtZ pk.t).2).2).2.2 = true
                  rw [HNX.out]
                  by_cases h1 : nx < xs.length
                  · rw [num_at h1]
                    exact num_no (by rw [hL.out]; omega)
                  · exact takeZ_short 1 (num_no h1))
                clear HSH HSH2 HGS HGI RB K5
                obtain ⟨WX, hWX, hx, hf⟩ := HBAD.out RBw HN.out BB.out
                have HX := hideN hx
                have HF := hideN hf
                have HWX := hideN hWX
                have xx := XB.out RBw BB.out
                have s0 := xx.c0
                have s1 := xx.c1
                have s2 := xx.c2
                have s3 := xx.c3
                have f0 := xx.fz 0
                have f1 := xx.fz 1
                have f2 := xx.fz 2
                have f3 := xx.fz 3
                clear hWX hx hf xx
                go_wp2_with fail
                rw [HWX.out]
                refine bodyPost_ret (v := .tuple #[nod false (.slice none 0 0) (.slice none 0 0) (.slice none 0 0), .int .i64 7]) (results_twoN (p := 2) (ty := 25) rfl _ _ _ W1.heap.size _ _ rfl HX.out.loadR rfl) rfl ?_
                exact HF.out
            · have HN : Hid (getN 2 xs = none) := HSH.out (by rw [HTA.out]; exact hsh)
              clear hsh HSH HSH2 HGS HGI RA
              obtain ⟨WX, hWX, hx, hf⟩ := HBAD.out cw HN.out BA.out
              have HX := hideN hx
              have HF := hideN hf
              have HWX := hideN hWX
              have xx := XB.out cw BA.out
              have s0 := xx.c0
              have s1 := xx.c1
              have s2 := xx.c2
              have s3 := xx.c3
              have f0 := xx.fz 0
              have f1 := xx.fz 1
              have f2 := xx.fz 2
              have f3 := xx.fz 3
              clear hWX hx hf xx
              go_wp2_with fail
              rw [HWX.out]
              refine bodyPost_ret (v := .tuple #[nod false (.slice none 0 0) (.slice none 0 0) (.slice none 0 0), .int .i64 7]) (results_twoN (p := 2) (ty := 25) rfl _ _ _ W1.heap.size _ _ rfl HX.out.loadR rfl) rfl ?_
              exact HF.out
          · have hkc : k = c := by omega
            rw [hkc] at RA HTA
            have HGF := hideN (HGI.out (by rw [HTA.out]))
            have HSM : Hid (Sm (pzN false (r, false) c).n) := pz_sm false HBR.out hc255
            have HLF : Hid ((pzN false (r, false) c).n.lf = false) := pzN_lf false (r, false) c
            obtain ⟨n, hn⟩ : ∃ n, Hid ((pzN false (r, false) c).n = n) := ⟨_, rfl⟩
            rw [hn.out] at RA HGF HSM HLF
            have hnv := RA.out.nv
            rw [HLF.out] at hnv
            obtain ⟨v1a, v1l, v1c, e1⟩ : ∃ a l c, v1 = .slice a l c := by obtain ⟨a, c, e⟩ := RA.out.k.long; exact ⟨a, _, c, e⟩
            obtain ⟨v2a, v2l, v2c, e2⟩ : ∃ a l c, v2 = .slice a l c := by obtain ⟨a, c, e⟩ := RA.out.v.long; exact ⟨a, _, c, e⟩
            obtain ⟨v3a, v3l, v3c, e3⟩ : ∃ a l c, v3 = .slice a l c := by obtain ⟨a, c, e⟩ := RA.out.d.long; exact ⟨a, _, c, e⟩
            subst e1 e2 e3
            have NV := hideN hnv
            have p0 := hnv.c0
            have p1 := hnv.c1
            have p2 := hnv.c2
            have p3 := hnv.c3
            have HPT : Hid (Calls Try.prog 15 #[.agg #[.bool false, .slice v1a v1l v1c, .slice v2a v2l v2c, .slice v3a v3l v3c]] cw fun e w' => PutW n cw e w') := by
              have := refPut_all n _ _ _ cw RA.out.nn HSM.out
              rw [HLF.out] at this
              exact this
            have HNW : Hid (∀ j, ((Value.slice v1a v1l v1c).ownBlock = some j ∨ (Value.slice v2a v2l v2c).ownBlock = some j ∨ (Value.slice v3a v3l v3c).ownBlock = some j) → nb ≤ j) := fun j hj => by
              have h3 := RA.out.nB
              rcases hj with e | e | e
              · have := RA.out.k.ge j e; omega
              · have := RA.out.v.ge j e; omega
              · have := RA.out.d.ge j e; omega
            have NN := hideN RA.out.nn
            have HXL : Hid (W1.heap.size < nb) := by rw [← hnb.out]; exact X2.out.lt
            clear hnv HGI HGS HTA RA
            go_wp2_with fail
            refine HPT.out.mono ?_
            rintro e w6 ⟨KK, y1, E1, ys, rfl, r6, b6, h6⟩
            obtain ⟨ya, yc, ey, _⟩ := id r6
            obtain ⟨yl, hyl⟩ : ∃ l, Hid (ys.length = l) := ⟨_, rfl⟩
            rw [hyl.out] at ey
            subst ey
            obtain ⟨W7, hW7⟩ : ∃ W7, w6.alloc (.cells #[.int .i64 KK, .slice ya yl yc] 34) = W7 := ⟨_, rfl⟩
            have b7 : Below w6.heap.size w6 W7 := by rw [← hW7]; exact below_alloc _ _
            have b67 : Below cw.heap.size cw W7 := b6.trans (b7.mono b6.size)
            have nbw : nb ≤ cw.heap.size := by have := NV.out.lt; omega
            have B7 : Hid (Below nb W2 W7) := BA.out.trans (b67.mono nbw)
            have Q7 : Hid (Kb W7 w6.heap.size KK (.slice ya yl yc)) := by rw [← hW7]; exact kb_new _ _ _
            have S7 := hideN (r6.below b7)
            have NV7 := hideN (NV.out.below b67)
            have NN7 := hideN (NN.out.below b67)
            have R7 : Hid (Rd .u8 W7 (.slice (some ⟨bb, bo, none⟩) L cap) xs) := R2.out.below (by rw [hnb.out]; exact B7.out)
            have HSB := hideN (same_rd _ _ ys xs W7 S7.out R7.out)
            have K7 := KB2.out W7 B7.out
            clear q0 q1 p0 p1 p2 p3
            have q0 := Q7.out.c0
            have q1 := Q7.out.c1
            have q2 := K7.c0
            have q3 := K7.c1
            have H6 := hideN h6
            clear K7 r6 b6 b7 b67 nbw h6 HPT
            go_wp2_with fail
            refine HSB.out.mono ?_
            rintro e w8 ⟨rfl, b8⟩
            have B8 : Hid (Below nb W2 w8) := B7.out.trans (b8.mono (by have := NV7.out.lt; omega))
            have NV8 := hideN (NV7.out.below b8)
            have NN8 := hideN (NN7.out.below b8)
            clear b8 q0 q1 q2 q3 hW7
            rcases H6.out with ⟨m1, k1, rfl, x1⟩ | ⟨m1, k1, rfl, x1⟩
            · rw [m1, ← x1] at HGF
              by_cases hsame : ys = xs
              · have HSO : Hid (getN 2 xs = some n) := by show _ = _; rw [HGF.out, if_pos (by simp [hsame])]
                rw [decide_eq_true hsame]
                have xx := XB.out w8 B8.out
                have y0 := NV8.out.c0
                have y1 := NV8.out.c1
                have y2 := NV8.out.c2
                have y3 := NV8.out.c3
                have s0 := xx.c0
                have s1 := xx.c1
                have s2 := xx.c2
                have s3 := xx.c3
                have f0 := xx.fz 0
                have f1 := xx.fz 1
                have f2 := xx.fz 2
                have f3 := xx.fz 3
                obtain ⟨WA, hWA⟩ : ∃ WA, Hid ((((w8.setCell ⟨W1.heap.size, 0, none⟩ (.bool false)).setCell ⟨W1.heap.size, 1, none⟩ (.slice v1a v1l v1c)).setCell ⟨W1.heap.size, 2, none⟩ (.slice v2a v2l v2c)).setCell ⟨W1.heap.size, 3, none⟩ (.slice v3a v3l v3c) = WA) := ⟨_, rfl⟩
                have YA : Hid (Nb WA 25 W1.heap.size false (.slice v1a v1l v1c) (.slice v2a v2l v2c) (.slice v3a v3l v3c)) := by rw [← hWA.out]; exact xx.all _ _ _ _
                have tA : Tch (fun j => j = W1.heap.size) w8 WA := by rw [← hWA.out]; exact tch_all _ _ _ _ _ _
                have NA : Hid (Nn WA n (.slice v1a v1l v1c) (.slice v2a v2l v2c) (.slice v3a v3l v3c)) := NN8.out.tch tA (fun j hj e => by have := HNW.out j (.inl hj); have := HXL.out; omega) (fun j hj e => by have := HNW.out j (.inr (.inl hj)); have := HXL.out; omega) (fun j hj e => by have := HNW.out j (.inr (.inr hj)); have := HXL.out; omega)
                have bw : Below w.heap.size w w8 := B2.out.trans (B8.out.mono (by have := HLT.out; have := HXL.out; omega))
                have BF : Hid (Below w.heap.size w WA) := bw.trans (tA.below bw.size (fun j e => by have := HLT.out; omega))
                clear xx tA bw m1 k1 x1 hsame HGF H6
                go_wp2_with fail
                rw [hWA.out]
                refine bodyPost_ret (v := .tuple #[nod false (.slice v1a v1l v1c) (.slice v2a v2l v2c) (.slice v3a v3l v3c), .int .i64 0]) (results_twoN (p := 2) (ty := 25) rfl _ _ _ W1.heap.size _ _ rfl YA.out.loadR rfl) rfl ?_
                exact ⟨.inl ⟨n, _, _, _, HSO.out, by rw [HLF.out], NA.out⟩, BF.out⟩
              · have HN : Hid (getN 2 xs = none) := by show _ = _; rw [HGF.out, if_neg (by simp [hsame])]
                rw [decide_eq_false hsame]
                clear m1 k1 x1 hsame HGF H6
                obtain ⟨WX, hWX, hx, hf⟩ := HBAD.out w8 HN.out B8.out
                have HX := hideN hx
                have HF := hideN hf
                have HWX := hideN hWX
                have xx := XB.out w8 B8.out
                have s0 := xx.c0
                have s1 := xx.c1
                have s2 := xx.c2
                have s3 := xx.c3
                have f0 := xx.fz 0
                have f1 := xx.fz 1
                have f2 := xx.fz 2
                have f3 := xx.fz 3
                clear hWX hx hf xx
                go_wp2_with fail
                rw [HWX.out]
                refine bodyPost_ret (v := .tuple #[nod false (.slice none 0 0) (.slice none 0 0) (.slice none 0 0), .int .i64 7]) (results_twoN (p := 2) (ty := 25) rfl _ _ _ W1.heap.size _ _ rfl HX.out.loadR rfl) rfl ?_
                exact HF.out
            · have HN : Hid (getN 2 xs = none) := by show _ = _; rw [HGF.out, m1, if_neg (by simp)]
              generalize decide (ys = xs) = sm
              clear m1 k1 x1 HGF H6
              obtain ⟨WX, hWX, hx, hf⟩ := HBAD.out w8 HN.out B8.out
              have HX := hideN hx
              have HF := hideN hf
              have HWX := hideN hWX
              have xx := XB.out w8 B8.out
              have s0 := xx.c0
              have s1 := xx.c1
              have s2 := xx.c2
              have s3 := xx.c3
              have f0 := xx.fz 0
              have f1 := xx.fz 1
              have f2 := xx.fz 2
              have f3 := xx.fz 3
              clear hWX hx hf xx
              go_wp2_with fail
              rw [HWX.out]
              refine bodyPost_ret (v := .tuple #[nod false (.slice none 0 0) (.slice none 0 0) (.slice none 0 0), .int .i64 7]) (results_twoN (p := 2) (ty := 25) rfl _ _ _ W1.heap.size _ _ rfl HX.out.loadR rfl) rfl ?_
              exact HF.out
    · have hL0 : L = 0 := by omega
      have hn : getN kd xs = none := by have : xs = [] := List.eq_nil_of_length_eq_zero (by rw [hL.out]; exact hL0); rw [this]; exact get_nil kd
      have HN := hideN hn
      subst hL0
      clear hn hL1 h4
      rcases h12 with rfl | rfl
      · go_enter Try.func20, Try.ntmps20
        obtain ⟨WX, hWX, hx, hf⟩ := HBAD.out W2 HN.out (Below.refl _ _)
        have HX := hideN hx
        have HF := hideN hf
        have HWX := hideN hWX
        have xx := XB.out W2 (Below.refl _ _)
        have s0 := xx.c0
        have s1 := xx.c1
        have s2 := xx.c2
        have s3 := xx.c3
        have f0 := xx.fz 0
        have f1 := xx.fz 1
        have f2 := xx.fz 2
        have f3 := xx.fz 3
        clear hWX hx hf xx
        go_wp2_with fail
        rw [HWX.out]
        refine bodyPost_ret (v := .tuple #[nod false (.slice none 0 0) (.slice none 0 0) (.slice none 0 0), .int .i64 7]) (results_twoN (p := 2) (ty := 25) rfl _ _ _ W1.heap.size _ _ rfl HX.out.loadR rfl) rfl ?_
        exact HF.out
      · go_enter Try.func20, Try.ntmps20
        obtain ⟨WX, hWX, hx, hf⟩ := HBAD.out W2 HN.out (Below.refl _ _)
        have HX := hideN hx
        have HF := hideN hf
        have HWX := hideN hWX
        have xx := XB.out W2 (Below.refl _ _)
        have s0 := xx.c0
        have s1 := xx.c1
        have s2 := xx.c2
        have s3 := xx.c3
        have f0 := xx.fz 0
        have f1 := xx.fz 1
        have f2 := xx.fz 2
        have f3 := xx.fz 3
        clear hWX hx hf xx
        go_wp2_with fail
        rw [HWX.out]
        refine bodyPost_ret (v := .tuple #[nod false (.slice none 0 0) (.slice none 0 0) (.slice none 0 0), .int .i64 7]) (results_twoN (p := 2) (ty := 25) rfl _ _ _ W1.heap.size _ _ rfl HX.out.loadR rfl) rfl ?_
        exact HF.out
  · have n1 : (kd != 1) = true := by simp; omega
    have n2 : (kd != 2) = true := by simp; omega
    have hn : getN kd xs = none := by unfold getN; rw [if_neg h12]
    have HN := hideN hn
    clear h12 hn h4
    go_enter Try.func20, Try.ntmps20
    obtain ⟨WX, hWX, hx, hf⟩ := HBAD.out W2 HN.out (Below.refl _ _)
    have HX := hideN hx
    have HF := hideN hf
    have HWX := hideN hWX
    have xx := XB.out W2 (Below.refl _ _)
    have s0 := xx.c0
    have s1 := xx.c1
    have s2 := xx.c2
    have s3 := xx.c3
    have f0 := xx.fz 0
    have f1 := xx.fz 1
    have f2 := xx.fz 2
    have f3 := xx.fz 3
    clear hWX hx hf xx
    go_wp2_with fail
    rw [HWX.out]
    refine bodyPost_ret (v := .tuple #[nod false (.slice none 0 0) (.slice none 0 0) (.slice none 0 0), .int .i64 7]) (results_twoN (p := 2) (ty := 25) rfl _ _ _ W1.heap.size _ _ rfl HX.out.loadR rfl) rfl ?_
    exact HF.out
end Go.Proofs.Ytbpaeecclikeiaa
