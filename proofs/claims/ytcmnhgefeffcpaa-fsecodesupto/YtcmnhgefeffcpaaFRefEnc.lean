/-
  The document's Encode.
-/
import Derived.Test.YtcmnhgefeffcpaaFRefTab
import Derived.Test.YtcmnhgefeffcpaaFRefMay
import Derived.Test.YtcmnhgefeffcpaaRefPut
import Derived.Test.YtcmnhgefeffcpaaFRt
namespace Go.Proofs.Ytcmnhgefeffcpaa
open Go.RowKit Pl
set_option linter.unusedVariables false

theorem place_of {f : Nat → Nat} {L z : Nat} (h : Fok f L z) {p q : Nat} (hp : p < z) (hq : q < z) (h1 : tb f L z p = tb f L z q) (h2 : xs_ f L z p = xs_ f L z q) : p = q := by
  refine h.ix_inj hp hq ?_
  unfold xs_ at h2
  unfold ix
  rw [h1] at h2 ⊢
  omega

theorem nxs_place {f : Nat → Nat} {L lg : Nat} (h : Fok f L (2 ^ lg)) (hl : lg ≤ 9) {σ k : Nat} (h1 : 2 ^ lg ≤ σ) (h2 : σ < 2 * 2 ^ lg) (hk : k < L) (hf : 1 ≤ f k) :
    ∃ q, q < 2 ^ lg ∧ nxs f L (2 ^ lg) σ k = 2 ^ lg + q ∧ tb f L (2 ^ lg) q = k ∧ xs_ f L (2 ^ lg) q = σ / 2 ^ nb σ (f k) := by
  obtain ⟨a1, a2, _, a4, _, _⟩ := step_back h hl h1 h2 hk hf
  refine ⟨_, a1, ?_, a2, a4⟩
  have : 2 ^ lg ≤ nxs f L (2 ^ lg) σ k := by unfold nxs; omega
  omega

set_option maxRecDepth 100000 in
set_option maxHeartbeats 4000000 in
theorem refEncode_any (sv dv : Value) (s ds : List Int) (log : Int) (w : World) (hr : Rd .i64 w sv s) (hd : Rd .i64 w dv ds) :
    Calls Try.prog 10 #[sv, .int .i64 log, dv] w fun e w' => EPostF (encR s log ds) w e w' := by
  have HR : Hid (Rd .i64 w sv s) := hr
  have HD : Hid (Rd .i64 w dv ds) := hd
  obtain ⟨sa, sc, rfl, _, _, _, q1⟩ := hr
  obtain ⟨da, dc, rfl, _, _, _, q2⟩ := hd
  have CS : Hid (s = [] ∨ ∃ b o, sa = some ⟨b, o, none⟩ ∧ ∀ i, i < s.length → w.cell? ⟨b, o + i, none⟩ = some (.int .i64 (s.getD i 0))) := q1
  have CD : Hid (ds = [] ∨ ∃ b o, da = some ⟨b, o, none⟩ ∧ ∀ i, i < ds.length → w.cell? ⟨b, o + i, none⟩ = some (.int .i64 (ds.getD i 0))) := q2
  clear q1 q2
  obtain ⟨R, hR⟩ : ∃ R, Hid (encR s log ds = R) := ⟨_, rfl⟩
  rw [hR.out]
  have HMB : Hid (Calls Try.prog 29 #[.slice sa s.length sc, .int .i64 log] w fun e w' => e = .returned (.bool (mayS s log)) ∧ w' = w) := refMay_rd _ s log w HR.out
  go_enter Try.func10, Try.ntmps10
  go_wp2_with fail
  refine HMB.out.mono ?_
  clear HMB
  rintro e w1 ⟨rfl, rfl⟩
  cases hm : mayS s log with
  | false =>
    have HE : Hid (R = (4, [])) := by show R = _; rw [← hR.out]; unfold encR; rw [if_pos hm]
    clear hm
    go_wp2_with fail
    go_ret2
    rw [HE.out]
    exact EPostF.bad (Below.refl _ _)
  | true =>
  obtain ⟨lg, rfl, hsok⟩ := Sok.of hm
  have HMS : Hid (mayS s lg = true) := hm
  have HS : Hid (Sok s lg) := hsok
  have hsp := hsok.pos
  have hsl := hsok.len
  obtain ⟨sb, so, hsa, hsc⟩ : ∃ b o, sa = some ⟨b, o, none⟩ ∧ ∀ i, i < s.length → w1.cell? ⟨b, o + i, none⟩ = some (.int .i64 (s.getD i 0)) := by
    rcases CS.out with h | h
    · rw [h] at hsp; simp at hsp
    · exact h
  subst hsa
  have HSC : Hid (∀ i, i < s.length → w1.cell? ⟨sb, so + i, none⟩ = some (.int .i64 (s.getD i 0))) := hsc
  clear hm hsok hsc CS
  by_cases hbig : 65536 < ds.length
  · have hbI : (65536 : Int) < (ds.length : Int) := by omega
    have HE : Hid (R = (1, [])) := by show R = _; rw [← hR.out]; unfold encR; rw [if_neg (by rw [HMS.out]; simp), if_pos (.inl hbig)]
    go_wp2_with fail
    go_ret2
    rw [HE.out]
    exact EPostF.bad (Below.refl _ _)
  have hdl : ds.length ≤ 65536 := by omega
  clear hbig
  go_wp2_with fail
  go_loop [9] (fun i => ∃ k : Nat, k ≤ ds.length ∧ i = .int .i64 k ∧ Hid (∀ j, j < k → 0 ≤ ds.getD j 0 ∧ (ds.getD j 0).toNat < s.length ∧ s.getD (ds.getD j 0).toNat 0 ≠ 0)) (fun i => ds.length - (intOf i).toNat)
  case atStart => exact ⟨0, Nat.zero_le _, rfl, fun j hj => by omega⟩
  case round =>
    obtain ⟨k, hk, rfl, HA⟩ := hrel
    by_cases hlt : k < ds.length
    · obtain ⟨b, o, hab, hc⟩ : ∃ b o, da = some ⟨b, o, none⟩ ∧ ∀ i, i < ds.length → w1.cell? ⟨b, o + i, none⟩ = some (.int .i64 (ds.getD i 0)) := by
        rcases CD.out with h | h
        · rw [h] at hlt; simp at hlt
        · exact h
      subst hab
      obtain ⟨x, hx⟩ : ∃ x, Hid (ds.getD k 0 = x) := ⟨_, rfl⟩
      have cx : w1.cell? ⟨b, o + k, none⟩ = some (.int .i64 x) := by rw [hc k hlt, hx.out]
      have HBAD : Hid (¬ (0 ≤ x ∧ x.toNat < s.length ∧ s.getD x.toNat 0 ≠ 0) → R = (1, [])) := fun h => by
        have ha : allS s ds = false := by
          unfold allS
          refine decide_eq_false (fun h2 => h ?_)
          have := h2 k hlt
          rw [hx.out] at this
          exact this
        rw [← hR.out]
        unfold encR
        rw [if_neg (by rw [HMS.out]; simp), if_pos (.inr ha)]
      clear hc
      by_cases h1 : x < 0
      · have HE : Hid (R = (1, [])) := HBAD.out (by omega)
        go_wp2_with fail
        go_ret2
        rw [HE.out]
        exact EPostF.bad (Below.refl _ _)
      obtain ⟨X, rfl⟩ := Int.eq_ofNat_of_zero_le (show 0 ≤ x by omega)
      have g1 : decide ((X : Int) < 0) = false := by rw [decide_eq_false_iff_not]; omega
      by_cases h2 : s.length ≤ X
      · have HE : Hid (R = (1, [])) := HBAD.out (by rw [Int.toNat_natCast]; omega)
        have g2 : (s.length : Int) ≤ (X : Int) := by omega
        clear h1
        go_wp2_with fail
        go_ret2
        rw [HE.out]
        exact EPostF.bad (Below.refl _ _)
      have g2 : decide (s.length ≤ X) = false := by rw [decide_eq_false_iff_not]; exact h2
      have hXl : X < s.length := by omega
      have hXI : (X : Int) < (s.length : Int) := by omega
      obtain ⟨y, hy⟩ : ∃ y, Hid (s.getD X 0 = y) := ⟨_, rfl⟩
      have cy : w1.cell? ⟨sb, so + X, none⟩ = some (.int .i64 y) := by rw [HSC.out X hXl, hy.out]
      clear h1 h2
      by_cases h3 : y = 0
      · have HE : Hid (R = (1, [])) := HBAD.out (by rw [Int.toNat_natCast, hy.out]; exact fun h => h.2.2 h3)
        have g3 : (y == 0) = true := by simp [h3]
        clear h3
        go_wp2_with fail
        go_ret2
        rw [HE.out]
        exact EPostF.bad (Below.refl _ _)
      have g3 : (y == 0) = false := by simp [h3]
      have HA2 : Hid (∀ j, j < k + 1 → 0 ≤ ds.getD j 0 ∧ (ds.getD j 0).toNat < s.length ∧ s.getD (ds.getD j 0).toNat 0 ≠ 0) := fun j hj => by
        by_cases e : j = k
        · rw [e, hx.out, Int.toNat_natCast, hy.out]; exact ⟨by omega, hXl, h3⟩
        · exact HA.out j (by omega)
      clear h3
      go_wp2_with fail
      go_round
      case rel => exact ⟨k + 1, by omega, by go_num, HA2⟩
      case measure => simp [intOf]; omega
    · obtain rfl : k = ds.length := by omega
      have HALL : Hid (allS s ds = true) := by show _ = _; unfold allS; rw [decide_eq_true_eq]; exact HA.out
      obtain ⟨z, hz, hz1, hz2, hw, hpz⟩ := pow_z (lg := lg) HS.out.lo HS.out.hi
      have HE : Hid (R = (0, pack (eRow (nn s) s.length z lg ds ++ [1]))) := by
        show R = _
        rw [← hR.out]
        unfold encR
        rw [if_neg (by rw [HMS.out]; simp), if_neg (by rw [HALL.out]; simp; omega), Int.toNat_natCast, hz.out]
      have HF : Hid (Fok (nn s) s.length z) := by show Fok _ _ _; rw [← hz.out]; exact HS.out.fok
      have HTB : Hid (Calls Try.prog 30 #[.slice (some ⟨sb, so, none⟩) s.length sc, .int .i64 lg] w1 fun e w' => ∃ g, e = .returned (.slice (some ⟨g, 0, none⟩) z z) ∧ Pv w' g z (tf (nn s) s.length z) ∧ Below w1.heap.size w1 w' ∧ w1.heap.size ≤ g) := refTable_any _ s lg z w1 HR.out HS.out hz.out
      have hlg : lg ≤ 9 := HS.out.hi
      clear hlt hpz
      go_wp2_with fail
      try rw [hw]
      refine HTB.out.mono ?_
      clear HTB
      rintro e w2 ⟨g, rfl, hpv, hb2, hg2⟩
      have PV2 : Hid (Pv w2 g z (tf (nn s) s.length z)) := hpv
      have B2 : Hid (Below w1.heap.size w1 w2) := hb2
      clear hpv hb2
      go_wp2_with fail
      go_loopw [12, 13, 14] (fun rv st i wr => ∃ (k σ : Nat) (bs : List Int), k ≤ ds.length ∧ i = .int .i64 ((k : Int) - 1) ∧ st = .int .i64 σ ∧ z ≤ σ ∧ σ < 2 * z ∧ bs.length ≤ 655360 ∧ Hid (en (nn s) s.length z (ds.drop k) = (σ, bs)) ∧ Hid (Owns .i64 3 wr rv bs) ∧ Hid (Pv wr g z (tf (nn s) s.length z)) ∧ Hid (Below w1.heap.size w1 wr) ∧ Hid (∀ j, rv.ownBlock = some j → w1.heap.size ≤ j)) (fun _ _ i _ => (intOf i + 1).toNat)
      case atStart =>
        refine ⟨ds.length, z, [], Nat.le_refl _, rfl, rfl, Nat.le_refl _, by omega, Nat.zero_le _, ?_, owns_nil _ _ _, PV2, B2, fun j e => by cases e⟩
        show _ = _
        rw [List.drop_length]
        rfl
      case round =>
        clear PV2 B2
        obtain ⟨k, σ, bs, hk, rfl, rfl, hσ1, hσ2, hbl, HEN, HO, PV, HB, HN⟩ := hrel
        by_cases hk0 : k = 0
        · subst hk0
          rw [List.drop_zero] at HEN
          have hx0 : 0 ≤ (σ : Int) - (z : Int) := by omega
          have hx1 : (σ : Int) - (z : Int) < 2 ^ lg := by
            have e : ((2 : Int) ^ lg) = ((2 ^ lg : Nat) : Int) := by push_cast; rfl
            rw [e, hz.out]
            omega
          have HPT : Hid (Calls Try.prog 31 #[u12, .int .i64 lg, .int .i64 ((σ : Int) - (z : Int))] wr fun e w' => ∃ v', e = .returned (.tuple #[v', .int .i64 0]) ∧ Owns .i64 3 w' v' (bs ++ bitsOf ((σ : Int) - (z : Int)) lg) ∧ Grew wr w' (.slice none 0 0) v') := refPut_ok u12 bs lg _ wr HO.out.rd (by omega) (by omega) hx0 hx1
          have HROW : Hid (bs ++ bitsOf ((σ : Int) - (z : Int)) lg = eRow (nn s) s.length z lg ds) := by show _ = _; unfold eRow; rw [HEN.out]
          clear hx1
          go_wp2_with fail
          refine HPT.out.mono ?_
          clear HPT
          rintro e w4 ⟨v4, rfl, ho4, hg4⟩
          rw [HROW.out] at ho4
          obtain ⟨b4, n4⟩ := hg4.below
          have B4 : Hid (Below w1.heap.size w1 w4) := HB.out.trans (b4.mono HB.out.size)
          have O4 : Hid (Owns .i64 3 w4 v4 (eRow (nn s) s.length z lg ds)) := ho4
          have N4 : Hid (∀ j, v4.ownBlock = some j → w1.heap.size ≤ j) := fun j e => Nat.le_trans HB.out.size (n4 j e)
          have HLN : Hid ((eRow (nn s) s.length z lg ds).length ≤ 655370) := by show _ ≤ _; rw [← HROW.out, List.length_append, bitsOf_length]; omega
          clear ho4 hg4 b4 n4 HO HB HN
          go_wp2_with (at_builtin; refine wpList_push _ rfl (.tmp 121) (.tmp 122) 22 rfl 3 .i64 8 elem64 v4 (eRow (nn s) s.length z lg ds) rfl O4.out 1 rfl (by have := HLN.out; omega) (by have := HLN.out; omega) ?_)
          intro v5 w5 ho5 hg5
          obtain ⟨b5, n5⟩ := hg5.onto B4.out N4.out
          have B5 : Hid (Below w1.heap.size w1 w5) := b5
          have O5 : Hid (Owns .i64 3 w5 v5 (eRow (nn s) s.length z lg ds ++ [1])) := ho5
          have HPK : Hid (Calls Try.prog 32 #[v5] w5 fun e w' => ∃ v', e = .returned v' ∧ Owns .u8 5 w' v' (pack (eRow (nn s) s.length z lg ds ++ [1])) ∧ Grew w5 w' (.slice none 0 0) v') := pack_rd v5 _ w5 O5.out.rd ((row_bits _ _ _ _ _).snoc (.inr rfl)) (by rw [List.length_append]; have := HLN.out; simp only [List.length_cons, List.length_nil]; omega)
          clear ho5 hg5 b5 n5 O4 B4 N4
          go_wp2_with fail
          refine HPK.out.mono ?_
          clear HPK
          rintro e w6 ⟨v6, rfl, ho6, hg6⟩
          obtain ⟨b6, n6⟩ := hg6.below
          have B6 : Hid (Below w1.heap.size w1 w6) := B5.out.trans (b6.mono B5.out.size)
          have O6 : Hid (Owns .u8 5 w6 v6 (pack (eRow (nn s) s.length z lg ds ++ [1]))) := ho6
          have N6 : Hid (∀ j, v6.ownBlock = some j → w1.heap.size ≤ j) := fun j e => Nat.le_trans B5.out.size (n6 j e)
          clear ho6 hg6 b6 n6
          go_wp2_with fail
          go_ret2
          rw [HE.out]
          exact ⟨_, rfl, B6.out, N6.out, O6.out⟩
        · obtain ⟨K, rfl⟩ : ∃ K, k = K + 1 := ⟨k - 1, by omega⟩
          have hKI : ((K + 1 : Nat) : Int) - 1 = (K : Int) := by omega
          rw [hKI]
          have HKI : Hid (((K + 1 : Nat) : Int) - 1 = (K : Int)) := hKI
          have hKl : K < ds.length := by omega
          obtain ⟨b, o, hab, hc⟩ : ∃ b o, da = some ⟨b, o, none⟩ ∧ ∀ i, i < ds.length → w1.cell? ⟨b, o + i, none⟩ = some (.int .i64 (ds.getD i 0)) := by
            rcases CD.out with h | h
            · rw [h] at hKl; simp at hKl
            · exact h
          subst hab
          obtain ⟨a1, a2, a3⟩ := HA.out K hKl
          obtain ⟨x, hx⟩ := Int.eq_ofNat_of_zero_le a1
          rw [hx, Int.toNat_natCast] at a2 a3
          have C0 : Hid (w1.cell? ⟨b, o + K, none⟩ = some (.int .i64 (x : Int))) := by show _ = _; rw [hc K hKl, hx]
          obtain ⟨sh, hsh⟩ : ∃ sh, Hid (nn s x = sh) := ⟨_, rfl⟩
          have CS0 : Hid (w1.cell? ⟨sb, so + x, none⟩ = some (.int .i64 (sh : Int))) := by show _ = _; rw [HSC.out x a2, (HS.out.le x).1, hsh.out]
          have hsh1 : 1 ≤ sh ∧ sh ≤ z := by
            have h1 := HS.out.le x
            rw [hsh.out, hz.out] at h1
            refine ⟨?_, h1.2⟩
            rcases Nat.eq_zero_or_pos sh with e | e
            · rw [e] at h1; exact absurd h1.1 a3
            · exact e
          obtain ⟨N, hN⟩ : ∃ N, Hid (nb σ sh = N) := ⟨_, rfl⟩
          have hns := nb_spec hsh1.1 (show σ < 1024 by omega)
          rw [hN.out] at hns
          have HNS : Hid (σ / 2 ^ N < 2 * sh ∧ (∀ m, m < N → 2 * sh ≤ σ / 2 ^ m) ∧ N ≤ 10) := hns
          have hN10 : N ≤ 10 := hns.2.2
          obtain ⟨q, q1, q2, q3, q4⟩ := nxs_place (f := nn s) (L := s.length) (lg := lg) (σ := σ) (k := x) HS.out.fok HS.out.hi (by rw [hz.out]; exact hσ1) (by rw [hz.out]; exact hσ2) a2 (by rw [hsh.out]; exact hsh1.1)
          rw [hz.out] at q1 q2 q3 q4
          rw [hsh.out, hN.out] at q4
          have HEN2 : Hid (en (nn s) s.length z (ds.drop K) = (z + q, bs ++ bitsOf (σ : Int) N)) := by
            show _ = _
            have hdd : ds.drop K = (x : Int) :: ds.drop (K + 1) := by
              rw [List.drop_eq_getElem_cons hKl]
              congr 1
              rw [← hx, List.getD_eq_getElem?_getD, List.getElem?_eq_getElem hKl]
              rfl
            rw [hdd]
            simp only [en]
            rw [HEN.out]
            simp only [Int.toNat_natCast]
            rw [q2, hsh.out, hN.out]
          have HQ : Hid (tb (nn s) s.length z q = x ∧ xs_ (nn s) s.length z q = σ / 2 ^ N) := ⟨q3, q4⟩
          have HBL2 : Hid ((bs ++ bitsOf (σ : Int) N).length ≤ 655360) := by
            have h1 := en_len (nn s) s.length z (ds.drop K)
            rw [HEN2.out] at h1
            rw [List.length_drop] at h1
            exact Nat.le_trans h1 (by omega)
          have hxI : (x : Int) < (s.length : Int) := by omega
          have d0 : wr.cell? ⟨b, o + K, none⟩ = some (.int .i64 (x : Int)) := by rw [HB.out.cell (p := ⟨b, o + K, none⟩) (World.block_lt_of_cell? w1 _ C0.out)]; exact C0.out
          clear hc hx a1 a3 hns q2 q3 q4 hk0 hKI
          go_wp2_with fail
          go_loopw [12, 16] (fun rv y wr => ∃ (j V : Nat), j ≤ N ∧ y = .int .i64 V ∧ V ≤ σ ∧ Hid (σ / 2 ^ j = V) ∧ Hid (Owns .i64 3 wr rv (bs ++ bitsOf (σ : Int) j)) ∧ Hid (Pv wr g z (tf (nn s) s.length z)) ∧ Hid (Below w1.heap.size w1 wr) ∧ Hid (∀ j, rv.ownBlock = some j → w1.heap.size ≤ j)) (fun _ y _ => (intOf y).toNat)
          case atStart => exact ⟨0, σ, Nat.zero_le _, rfl, Nat.le_refl _, by show _ = _; simp, by show Owns _ _ _ _ _; simp only [bitsOf, List.append_nil]; exact HO.out, PV, HB, HN⟩
          case round =>
            clear HO PV HB HN d0
            obtain ⟨j, V, hj, rfl, hVσ, HV, HO, PV, HB, HN⟩ := hrel
            have e0 : wr.cell? ⟨sb, so + x, none⟩ = some (.int .i64 (sh : Int)) := by rw [HB.out.cell (p := ⟨sb, so + x, none⟩) (World.block_lt_of_cell? w1 _ CS0.out)]; exact CS0.out
            by_cases hjN : j < N
            · have hge : 2 * sh ≤ V := by rw [← HV.out]; exact HNS.out.2.1 j hjN
              have hgeI : 2 * (sh : Int) ≤ (V : Int) := by omega
              have HLJ : Hid ((bs ++ bitsOf (σ : Int) j).length ≤ 655370) := by show _ ≤ _; rw [List.length_append, bitsOf_length]; omega
              have HV2 : Hid (σ / 2 ^ (j + 1) = V / 2) := by show _ = _; rw [Nat.pow_succ, ← Nat.div_div_eq_div_mul, HV.out]
              have HBT : Hid (bs ++ (bitsOf (σ : Int) j ++ [(V : Int) % 2]) = bs ++ bitsOf (σ : Int) (j + 1)) := by
                show _ = _
                have e : (σ : Int) / 2 ^ j = (V : Int) := by
                  rw [← HV.out]
                  push_cast
                  rfl
                simp only [bitsOf]
                rw [e]
              go_wp2_with (at_builtin; refine wpList_push _ rfl (.tmp 81) (.tmp 84) 22 rfl 3 .i64 8 elem64 _ (bs ++ bitsOf (σ : Int) j) rfl HO.out ((V : Int) % 2) rfl (by have := HLJ.out; omega) (by have := HLJ.out; omega) ?_)
              intro v5 w5 ho5 hg5
              try rw [List.append_assoc] at ho5
              rw [HBT.out] at ho5
              obtain ⟨b5, n5⟩ := hg5.onto HB.out HN.out
              have O5 : Hid (Owns .i64 3 w5 v5 (bs ++ bitsOf (σ : Int) (j + 1))) := ho5
              have B5 : Hid (Below w1.heap.size w1 w5) := b5
              have N5 : Hid (∀ j, v5.ownBlock = some j → w1.heap.size ≤ j) := n5
              have P5 : Hid (Pv w5 g z (tf (nn s) s.length z)) := by
                refine Tch.owns hg5.tch PV.out (fun k hk e => ?_)
                rcases World.ownsRow.lt HO.out k e with _
                have h1 : w5.heap.size = w5.heap.size := rfl
                rcases PV.out.2 with ⟨e1, _⟩ | ⟨g', cap', cur, e1, _, hgb, _⟩
                · cases e1
                · cases e1
                  have hk' : g = k := by simpa [Value.ownBlock] using hk
                  subst hk'
                  rcases HO.out.2 with ⟨e2, _⟩ | ⟨g2, cap2, cur2, e2, _, hg2', _⟩
                  · rw [e2] at e; cases e
                  · rw [e2] at e
                    have : g2 = g := by simpa [Value.ownBlock] using e
                    subst this
                    rw [hgb] at hg2'
                    simp at hg2'
              clear ho5 hg5 b5 n5 HO PV HB HN e0
              go_wp2_with fail
              go_roundw
              case rel => exact ⟨j + 1, V / 2, by omega, by first | rfl | (push_cast; rfl), by omega, HV2, O5, P5, B5, N5⟩
              case measure => simp [intOf]; omega
            · obtain rfl : j = N := by omega
              have hltV : V < 2 * sh := by rw [← HV.out]; exact HNS.out.1
              have hltI : (V : Int) < 2 * (sh : Int) := by omega
              have g0 : decide (2 * (sh : Int) ≤ (V : Int)) = false := by rw [decide_eq_false_iff_not]; omega
              go_wp2_with fail
              go_loop [13, 17] (fun st i => ∃ (p τ : Nat), p ≤ z ∧ i = .int .i64 p ∧ st = .int .i64 τ ∧ τ < 2 * z ∧ Hid (τ = if q < p then z + q else σ)) (fun _ i => z - (intOf i).toNat)
              case atStart => exact ⟨0, σ, Nat.zero_le _, rfl, rfl, hσ2, by show _ = _; rw [if_neg (by omega)]⟩
              case round =>
                obtain ⟨p, τ, hp, rfl, rfl, hτ, HT⟩ := hrel
                by_cases hpz : p < z
                · have cp0 : wr.cell? ⟨g, p * 2, none⟩ = some (.int .i64 (tb (nn s) s.length z p : Int)) := by
                    rw [PV.out.at_ (p * 2) (by omega)]
                    unfold tf
                    rw [if_pos (by omega), show p * 2 / 2 = p by omega]
                  have cp1 : wr.cell? ⟨g, p * 2 + 1, none⟩ = some (.int .i64 (xs_ (nn s) s.length z p : Int)) := by
                    rw [PV.out.at_ (p * 2 + 1) (by omega)]
                    unfold tf
                    rw [if_neg (by omega), show (p * 2 + 1) / 2 = p by omega]
                  obtain ⟨t0, ht0⟩ : ∃ t0, Hid (tb (nn s) s.length z p = t0) := ⟨_, rfl⟩
                  obtain ⟨t1, ht1⟩ : ∃ t1, Hid (xs_ (nn s) s.length z p = t1) := ⟨_, rfl⟩
                  rw [ht0.out] at cp0
                  rw [ht1.out] at cp1
                  have hpI : (p : Int) < (z : Int) := by omega
                  by_cases hpq : p = q
                  · subst hpq
                    have g1 : ((t0 : Int) == (x : Int)) = true := by rw [beq_iff_eq]; have := HQ.out.1; rw [ht0.out] at this; omega
                    have g2 : ((t1 : Int) == (V : Int)) = true := by rw [beq_iff_eq]; have := HQ.out.2; rw [ht1.out, HV.out] at this; omega
                    have HT2 : Hid (z + p = if p < p + 1 then z + p else σ) := by show _ = _; rw [if_pos (by omega)]
                    go_wp2_with fail
                    go_round
                    case rel => exact ⟨p + 1, z + p, by omega, by go_num, by first | rfl | (push_cast; rfl), by omega, HT2⟩
                    case measure => simp [intOf]; omega
                  · have HT2 : Hid (τ = if q < p + 1 then z + q else σ) := by
                      show _ = _
                      rw [HT.out]
                      by_cases c : q < p
                      · rw [if_pos c, if_pos (by omega)]
                      · rw [if_neg c, if_neg (by omega)]
                    by_cases h0 : t0 = x
                    · have g1 : ((t0 : Int) == (x : Int)) = true := by rw [beq_iff_eq]; omega
                      have g2 : ((t1 : Int) == (V : Int)) = false := by
                        rw [beq_eq_false_iff_ne]
                        intro e
                        refine hpq (place_of HF.out hpz q1 ?_ ?_)
                        · rw [ht0.out, HQ.out.1]; exact h0
                        · rw [ht1.out, HQ.out.2, HV.out]; omega
                      clear h0 hpq
                      go_wp2_with fail
                      go_round
                      case rel => exact ⟨p + 1, τ, by omega, by go_num, rfl, hτ, HT2⟩
                      case measure => simp [intOf]; omega
                    · have g1 : ((t0 : Int) == (x : Int)) = false := by rw [beq_eq_false_iff_ne]; omega
                      clear h0 hpq
                      go_wp2_with fail
                      go_round
                      case rel => exact ⟨p + 1, τ, by omega, by go_num, rfl, hτ, HT2⟩
                      case measure => simp [intOf]; omega
                · obtain rfl : p = z := by omega
                  have hτq : τ = p + q := by rw [HT.out, if_pos q1]
                  have HEN3 : Hid (en (nn s) s.length p (ds.drop K) = (τ, bs ++ bitsOf (σ : Int) j)) := by show _ = _; rw [HEN2.out, hτq]
                  have hτ1 : p ≤ τ := by rw [hτq]; exact Nat.le_add_right _ _
                  clear hτq
                  go_wp2_with fail
                  go_roundw
                  case rel => exact ⟨K, τ, _, by omega, by first | rfl | go_num, rfl, hτ1, hτ, HBL2.out, HEN3, HO, PV, HB, HN⟩
                  case measure => simp [intOf]
end Go.Proofs.Ytcmnhgefeffcpaa
