/-
  The document's Decode.
-/
import Derived.Test.YtcmnhgefeffcpaaFRefTab
import Derived.Test.YtcmnhgefeffcpaaFRefMay
import Derived.Test.YtcmnhgefeffcpaaRefMk
import Derived.Test.YtcmnhgefeffcpaaRefBk
import Derived.Test.YtcmnhgefeffcpaaFDec2
namespace Go.Proofs.Ytcmnhgefeffcpaa
open Go.RowKit Pl
set_option linter.unusedVariables false

def drM (o : Option (List Int × Nat × Nat)) : Option (List Int × Nat) := match o with
  | none => none
  | some t => if t.2.1 = 0 then some (t.1, t.2.2) else none
theorem dc_more {f : Nat → Nat} {L z lg : Nat} {B : List Int} {a p k : Nat} {l : List Int} {a' p' : Nat} (h : dc f L z lg B a p k = some (l, a', p')) :
    dc f L z lg B a p (k + 1) = if p' < bt lg (xs_ f L z a') then none else some (l ++ [(tb f L z a' : Int)], xs_ f L z a' * 2 ^ bt lg (xs_ f L z a') - z + (val B (p' - bt lg (xs_ f L z a')) (bt lg (xs_ f L z a'))).toNat, p' - bt lg (xs_ f L z a')) := by
  simp only [dc]; rw [h]
theorem dc_none_more {f : Nat → Nat} {L z lg : Nat} {B : List Int} {a p k : Nat} (h : dc f L z lg B a p k = none) (j : Nat) : dc f L z lg B a p (k + j) = none := by
  induction j with
  | zero => exact h
  | succ j ih => rw [← Nat.add_assoc]; simp only [dc]; rw [ih]
theorem take_good {bs : List Int} {p m : Nat} (h : m ≤ p) (h32 : m ≤ 32) : tkE p (m : Int) = 0 ∧ tkN p (m : Int) = m ∧ ∀ q, tkV bs p q (m : Int) = val bs q m := by
  unfold tkE tkN tkV
  refine ⟨by rw [if_neg (by omega), if_neg (by omega)], by rw [if_neg (by omega), if_neg (by omega)]; simp, fun q => by rw [if_neg (by omega), if_neg (by omega)]; simp⟩
theorem take_bad {bs : List Int} {p m : Nat} (h : p < m) (h32 : m ≤ 32) : tkE p (m : Int) = 3 := by
  unfold tkE
  rw [if_neg (by omega), if_pos (by omega)]

/-- The document's take of m bits from the end of the first p, where there are so many. -/
theorem back_good (v : Value) (bs : List Int) (p m : Nat) (w : World) (h : Rd .i64 w v (bs.take p)) (hx : Bits bs) (hp : p ≤ bs.length) (hs : bs.length ≤ 4611686018427387904) (hm : m ≤ p) (h32 : m ≤ 32) :
    Calls Try.prog 38 #[v, .int .i64 (m : Int)] w fun e w' => ∃ v', e = .returned (.tuple #[.int .i64 (val bs (p - m) m), v', .int .i64 0]) ∧
      Rd .i64 w' v' (bs.take (p - m)) ∧ (∀ k, v'.ownBlock = some k → v.ownBlock = some k) ∧ ∃ q, w' = w.drewN q := by
  have hl : (bs.take p).length = p := by rw [List.length_take]; omega
  have hbt : Bits (bs.take p) := fun i => by
    have := hx i
    rw [List.getD_eq_getElem?_getD] at this ⊢
    rw [List.getElem?_take]
    split
    · exact this
    · simp
  refine (refBack_rd v (m : Int) (bs.take p) w h hbt (by omega)).mono ?_
  rintro e w' ⟨v', rfl, h1, h2, h3⟩
  rw [hl] at h1 ⊢
  obtain ⟨g1, g2, g3⟩ := take_good (bs := bs.take p) hm h32
  rw [g1, g2, g3, val_take _ _ _ _ (by omega)]
  rw [g2, List.take_take, Nat.min_eq_left (by omega)] at h1
  exact ⟨v', rfl, h1, h2, h3⟩
theorem back_none (v : Value) (bs : List Int) (p m : Nat) (w : World) (h : Rd .i64 w v (bs.take p)) (hx : Bits bs) (hp : p ≤ bs.length) (hs : bs.length ≤ 4611686018427387904) (hm : p < m) (h32 : m ≤ 32) :
    Calls Try.prog 38 #[v, .int .i64 (m : Int)] w fun e w' => ∃ x v', e = .returned (.tuple #[.int .i64 x, v', .int .i64 3]) ∧ ∃ q, w' = w.drewN q := by
  have hl : (bs.take p).length = p := by rw [List.length_take]; omega
  have hbt : Bits (bs.take p) := fun i => by
    have := hx i
    rw [List.getD_eq_getElem?_getD] at this ⊢
    rw [List.getElem?_take]
    split
    · exact this
    · simp
  refine (refBack_rd v (m : Int) (bs.take p) w h hbt (by omega)).mono ?_
  rintro e w' ⟨v', rfl, h1, h2, h3⟩
  rw [hl]
  rw [take_bad (bs := bs.take p) hm h32]
  exact ⟨_, v', rfl, h3⟩

set_option maxRecDepth 100000 in
set_option maxHeartbeats 4000000 in
theorem refDecode_any (sv dv : Value) (s ys : List Int) (log n : Int) (w : World) (hr : Rd .i64 w sv s) (hd : Rd .u8 w dv ys) (hy : By ys) (hl : ys.length ≤ 1048576) :
    Calls Try.prog 13 #[sv, .int .i64 log, dv, .int .i64 n] w fun e w' => DPostF (decR s log ys n) w e w' := by
  have HR : Hid (Rd .i64 w sv s) := hr
  have HD : Hid (Rd .u8 w dv ys) := hd
  have HY : Hid (By ys) := hy
  clear hr hd hy
  obtain ⟨R, hR⟩ : ∃ R, Hid (decR s log ys n = R) := ⟨_, rfl⟩
  rw [hR.out]
  cases hm : mayS s log with
  | false =>
    have HM : Hid (mayS s log = false) := hm
    have HE : Hid (R = (4, [])) := by show R = _; rw [← hR.out]; unfold decR; rw [if_pos hm]
    clear hm
    go_enter Try.func13, Try.ntmps13
    go_wp2_with fail
    refine (refMay_rd sv s log w HR.out).mono ?_
    rintro e w1 ⟨rfl, rfl⟩
    rw [HM.out]
    go_wp2_with fail
    go_ret2
    rw [HE.out]
    exact DPostF.bad (Below.refl _ _)
  | true =>
    have HM : Hid (mayS s log = true) := hm
    obtain ⟨lg, rfl, hk⟩ := Sok.of hm
    have HK : Hid (Sok s lg) := hk
    have hl5 := hk.lo
    have hl9 := hk.hi
    have hmf : ¬ mayS s lg = false := by rw [hm]; simp
    clear hm hk
    by_cases hn : n < 0 ∨ 65536 < n
    · have HE : Hid (R = (1, [])) := by show R = _; rw [← hR.out]; unfold decR; rw [if_neg hmf, if_pos hn]
      clear hmf
      rcases hn with hn | hn
      all_goals
        go_enter Try.func13, Try.ntmps13
        go_wp2_with fail
        refine (refMay_rd sv s lg w HR.out).mono ?_
        rintro e w1 ⟨rfl, rfl⟩
        rw [HM.out]
        go_wp2_with fail
        go_ret2
        rw [HE.out]
        exact DPostF.bad (Below.refl _ _)
    · obtain ⟨m, rfl⟩ := Int.eq_ofNat_of_zero_le (show 0 ≤ n by omega)
      have hm1 : m ≤ 65536 := by omega
      have hg1 : decide ((m : Int) < 0) = false := by rw [decide_eq_false_iff_not]; omega
      have hg2 : decide ((65536 : Int) < (m : Int)) = false := by rw [decide_eq_false_iff_not]; omega
      have HRR : Hid (R = if 0 < ys.length ∧ ys.getD (ys.length - 1) 0 ≠ 0 then
          drE (dr (nn s) s.length (2 ^ lg) lg (unpack ys) (markAt ys) m)
        else (3, [])) := by
        show R = _
        rw [← hR.out]; unfold decR; rw [if_neg hmf, if_neg hn]; rfl
      clear hn hmf
      go_enter Try.func13, Try.ntmps13
      go_wp2_with fail
      refine (refMay_rd sv s lg w HR.out).mono ?_
      rintro e w1 ⟨rfl, rfl⟩
      rw [HM.out]
      go_wp2_with fail
      refine (marked_rd dv ys w1 HD.out HY.out hl).mono ?_
      rintro e w2 (⟨hmk, rv, rfl, hr2, hB2, hn2⟩ | ⟨hmk, rfl, rfl⟩)
      · have R2 : Hid (Rd .i64 w2 rv ((unpack ys).take (markAt ys))) := hr2
        have L2 : Hid (Below w1.heap.size w1 w2) := hB2
        have HBT : Hid (Bits (unpack ys)) := bits_unpack ys
        have HUL : Hid ((unpack ys).length ≤ 8388608) := by show _ ≤ _; rw [unpack_length]; omega
        have HPL : Hid (markAt ys ≤ (unpack ys).length) := by show _ ≤ _; rw [unpack_length]; have := (mark_lt HY.out hmk).1; omega
        obtain ⟨Q, hQ⟩ : ∃ Q, Hid (dr (nn s) s.length (2 ^ lg) lg (unpack ys) (markAt ys) m = Q) := ⟨_, rfl⟩
        have HE : Hid (R = drE Q) := by show R = _; unfold HasMark at hmk; rw [HRR.out, if_pos hmk, hQ.out]
        clear hr2 hB2 hn2 hmk HRR
        obtain ⟨z, hz, hz1, hz2, hw, hpz⟩ := pow_z (lg := lg) hl5 hl9
        rw [hz.out] at hQ
        generalize markAt ys = p0 at *
        generalize unpack ys = bs at *
        go_wp2_with fail
        have HF : Hid (Fok (nn s) s.length z) := by show Fok _ _ _; rw [← hz.out]; exact HK.out.fok
        refine (refTable_any sv s lg z w2 (HR.out.below L2.out) HK.out hz.out).mono ?_
        rintro e w3 ⟨g, rfl, hpv, hb3, hg3⟩
        have P3 : Hid (Pv w3 g z (tf (nn s) s.length z)) := hpv
        have L3 : Hid (Below w1.heap.size w1 w3) := L2.out.trans (hb3.mono L2.out.size)
        have R3 : Hid (Rd .i64 w3 rv (bs.take p0)) := R2.out.below hb3
        clear hpv hb3 hg3 R2 L2
        by_cases hp : p0 < lg
        · have HE2 : Hid (R = (3, [])) := by show R = _; rw [HE.out, ← hQ.out]; unfold dr; rw [if_pos hp]; rfl
          go_wp2_with fail
          refine (back_none rv bs p0 lg w3 R3.out HBT.out HPL.out (by have := HUL.out; omega) hp (by omega)).mono ?_
          rintro e w4 ⟨x4, v4, rfl, q4, rfl⟩
          have L4 : Hid (Below w1.heap.size w1 (w3.drewN q4)) := L3.out.trans (Below.of_drewN _ _ _)
          go_wp2_with fail
          go_ret2
          rw [HE2.out]
          exact DPostF.bad L4.out
        · obtain ⟨A, hA⟩ : ∃ A, (val bs (p0 - lg) lg).toNat = A := ⟨_, rfl⟩
          have hvb := val_bd HBT.out (p0 - lg) lg
          rw [hpz] at hvb
          have hvA : val bs (p0 - lg) lg = (A : Int) := by omega
          have hAz : A < z := by omega
          have HQ : Hid (Q = drM (dc (nn s) s.length z lg bs A (p0 - lg) m)) := by show Q = _; rw [← hQ.out]; unfold dr; rw [if_neg hp, hA]; rfl
          obtain ⟨p1, hp1⟩ : ∃ p1, p0 - lg = p1 := ⟨_, rfl⟩
          rw [hp1] at HQ hvA
          have hp1l : p1 ≤ p0 := by omega
          have HCB : Hid (Calls Try.prog 38 #[rv, .int .i64 (lg : Int)] w3 fun e w' => ∃ v', e = .returned (.tuple #[.int .i64 (A : Int), v', .int .i64 0]) ∧
              Rd .i64 w' v' (bs.take p1) ∧ (∀ k, v'.ownBlock = some k → rv.ownBlock = some k) ∧ ∃ q, w' = w3.drewN q) := by
            have h := back_good rv bs p0 lg w3 R3.out HBT.out HPL.out (by have := HUL.out; omega) (by omega) (by omega)
            rw [hp1, hvA] at h
            exact h
          have HDL : Hid (∀ k l a p, dc (nn s) s.length z lg bs A p1 k = some (l, a, p) → a < z ∧ p ≤ p1 ∧ l.length = k) := fun k l a p h => by
            have := dc_lt (lg := lg) (f := nn s) (L := s.length) (by rw [hz.out]; exact HF.out) hl9 HBT.out (a := A) (p := p1) (k := k) (by rw [hz.out]; exact hAz) (by rw [hz.out]; exact h)
            rw [hz.out] at this
            exact this
          have HPZ : Hid ((2 : Int) ^ lg = (z : Int)) := hpz
          clear hp hvb hA hvA hQ hpz hw
          go_wp2_with fail
          refine HCB.out.mono ?_
          rintro e w4' ⟨v4, rfl, hr4, ho4, q4, rfl⟩
          obtain ⟨w4, hw4⟩ : ∃ w4, w3.drewN q4 = w4 := ⟨_, rfl⟩
          have b34 : Below w3.heap.size w3 w4 := by rw [← hw4]; exact Below.of_drewN _ _ _
          rw [hw4] at hr4 ⊢
          have R4 : Hid (Rd .i64 w4 v4 (bs.take p1)) := hr4
          have P4 : Hid (Pv w4 g z (tf (nn s) s.length z)) := P3.out.below b34
          have L4 : Hid (Below w1.heap.size w1 w4) := L3.out.trans (b34.mono L3.out.size)
          have HB4 : Hid (bs.take p1 ≠ [] → ∀ k, v4.ownBlock = some k → k < w4.heap.size) := fun hne k hk => by
            obtain ⟨a, c, e, _, _, _, h⟩ := R4.out
            rcases h with h | ⟨b, o, e2, h⟩
            · exact absurd h hne
            · have h0 := h 0 (List.length_pos_iff.2 hne)
              have := World.block_lt_of_cell? w4 ⟨b, o + 0, none⟩ h0
              rw [e, e2] at hk
              simp [Value.ownBlock] at hk
              rw [← hk]; exact this
          clear hr4 ho4 b34 hw4 R3 P3 L3 HCB HR HD
          go_wp2_with fail
          go_loopw [11, 15, 17, 18] (fun rw_ at_ ov i wr => ∃ (k a p : Nat) (l : List Int) (r0 o0 : Value), k ≤ m ∧ i = .int .i64 k ∧ at_ = .int .i64 a ∧ a < z ∧ p ≤ p1 ∧ l.length = k ∧ r0 = rw_ ∧ o0 = ov ∧ Hid (dc (nn s) s.length z lg bs A p1 k = some (l, a, p)) ∧ Hid (Rd .i64 wr r0 (bs.take p)) ∧ Hid (bs.take p ≠ [] → ∀ k, r0.ownBlock = some k → k < w4.heap.size) ∧ Hid (Owns .i64 3 wr o0 l) ∧ Hid (∀ j, o0.ownBlock = some j → w4.heap.size ≤ j) ∧ Hid (Below w4.heap.size w4 wr)) (fun _ _ _ i _ => m - (intOf i).toNat)
          case atStart => exact ⟨0, A, p1, [], _, _, Nat.zero_le _, rfl, rfl, hAz, Nat.le_refl _, rfl, rfl, rfl, rfl, R4, HB4, owns_nil _ _ _, (fun j e => by cases e), Below.refl _ _⟩
          case round =>
            clear R4 HB4
            obtain ⟨k, a, p, l, r0, o0, hk, rfl, rfl, haz, hpp, hll, rfl, rfl, HDC, RR, HRB, OO, NO, BW⟩ := hrel
            by_cases hlt : k < m
            · obtain ⟨X, hX⟩ : ∃ X, xs_ (nn s) s.length z a = X := ⟨_, rfl⟩
              have hxb := xs_bd HF.out haz
              rw [hX] at hxb
              obtain ⟨bt_, hbt⟩ : ∃ b, bt lg X = b := ⟨_, rfl⟩
              have hbs := bt_spec (lg := lg) (x := X) hxb.1 hl9 (by rw [hz.out]; exact hxb.2)
              rw [hbt, hz.out] at hbs
              have HLE : Hid (∀ j, j < bt_ → X * 2 ^ j < z) := fun j hj => by
                have := bt_least (lg := lg) (x := X) hxb.1 hl9 (by rw [hz.out]; exact hxb.2) (b := j) (by rw [hbt]; exact hj)
                rw [hz.out] at this
                exact this
              have HGE : Hid (z ≤ X * 2 ^ bt_) := hbs.1
              have hb9 : bt_ ≤ 9 := by omega
              have hX1 : X < 1024 := by omega
              have PW := P4.out.below BW.out
              have cs := PW.at_ (a * 2) (by omega)
              have cxx := PW.at_ (a * 2 + 1) (by omega)
              have e0 : tf (nn s) s.length z (a * 2) = (tb (nn s) s.length z a : Int) := by unfold tf; rw [if_pos (by omega), show a * 2 / 2 = a by omega]
              have e1 : tf (nn s) s.length z (a * 2 + 1) = (X : Int) := by unfold tf; rw [if_neg (by omega), show (a * 2 + 1) / 2 = a by omega, hX]
              rw [e0] at cs
              rw [e1] at cxx
              have HMO := dc_more HDC.out
              rw [hX, hbt] at HMO
              have HTB : Hid (tb (nn s) s.length z a < s.length) := HF.out.tb_lt a
              obtain ⟨SY, hSY⟩ : ∃ Y, tb (nn s) s.length z a = Y := ⟨_, rfl⟩
              rw [hSY] at cs HMO
              have HM2 : Hid (dc (nn s) s.length z lg bs A p1 (k + 1) = if p < bt_ then none else some (l ++ [(SY : Int)], X * 2 ^ bt_ - z + (val bs (p - bt_) bt_).toNat, p - bt_)) := HMO
              have HCS : Hid (wr.cell? ⟨g, a * 2, none⟩ = some (.int .i64 (SY : Int))) := cs
              have ha1 : (a : Int) < (z : Int) := by omega
              have hk1 : (k : Int) < (m : Int) := by omega
              clear hX hbt hbs e0 e1 HMO hSY PW cs
              go_wp2_with fail
              go_loop [20] (fun b => ∃ j : Nat, j ≤ bt_ ∧ b = .int .i64 j) (fun b => bt_ - (intOf b).toNat)
              case atStart => exact ⟨0, Nat.zero_le _, rfl⟩
              case round =>
                obtain ⟨j, hj, rfl⟩ := hrel
                obtain ⟨Y, hY⟩ : ∃ Y, X * 2 ^ j = Y := ⟨_, rfl⟩
                have hYI : (X : Int) * 2 ^ j = (Y : Int) := by rw [← hY, Int.natCast_mul, Int.natCast_pow]; rfl
                have hYb : Y < 1048576 := by
                  rw [← hY]
                  have h2 : 2 ^ j ≤ 2 ^ 9 := Nat.pow_le_pow_right (by decide) (by omega)
                  have h3 : X * 2 ^ j ≤ 1023 * 2 ^ 9 := Nat.mul_le_mul (by omega) h2
                  omega
                have hj9 : (j : Int) ≤ 9 := by omega
                have hj0 : (0 : Int) ≤ (j : Int) := by omega
                by_cases hjl : j < bt_
                · have hYz : (Y : Int) < (z : Int) := by have := HLE.out j hjl; rw [hY] at this; omega
                  clear hY
                  go_wp2_with fail
                  first
                    | exact ⟨⟨j + 1, by omega, by go_num⟩, by simp [intOf]; omega⟩
                    | (go_round
                       case rel => exact ⟨j + 1, by omega, by go_num⟩
                       case measure => simp [intOf]; omega)
                · obtain rfl : j = bt_ := by omega
                  have hYz0 : z ≤ Y := by have := HGE.out; rw [hY] at this; exact this
                  have hYz : ¬ (Y : Int) < (z : Int) := by omega
                  rw [hY] at HM2
                  by_cases hpb : p < j
                  · rw [if_pos hpb] at HM2
                    have HE2 : Hid (R = (3, [])) := by
                      show R = _
                      have h := dc_none_more HM2.out (m - (k + 1))
                      rw [show k + 1 + (m - (k + 1)) = m by omega] at h
                      rw [HE.out, HQ.out, h]; rfl
                    have L5 : Hid (Below w1.heap.size w1 wr) := L4.out.trans (BW.out.mono L4.out.size)
                    have HCN := back_none r0 bs p j wr RR.out HBT.out (by have := HPL.out; omega) (by have := HUL.out; omega) hpb (by omega)
                    have HCN2 : Hid (Calls Try.prog 38 #[r0, .int .i64 (j : Int)] wr fun e w' => ∃ x v', e = .returned (.tuple #[.int .i64 x, v', .int .i64 3]) ∧ ∃ q, w' = wr.drewN q) := HCN
                    clear HCN hY
                    go_wp2_with fail
                    refine HCN2.out.mono ?_
                    rintro e w5 ⟨x5, v5, rfl, q5, rfl⟩
                    have L6 : Hid (Below w1.heap.size w1 (wr.drewN q5)) := L5.out.trans (Below.of_drewN _ _ _)
                    go_wp2_with fail
                    go_ret2
                    rw [HE2.out]
                    exact DPostF.bad L6.out
                  · rw [if_neg hpb] at HM2
                    have hvb := val_bd HBT.out (p - j) j
                    obtain ⟨V, hV⟩ : ∃ V, (val bs (p - j) j).toNat = V := ⟨_, rfl⟩
                    have hvV : val bs (p - j) j = (V : Int) := by omega
                    rw [hV] at HM2
                    obtain ⟨p2, hp2⟩ : ∃ p2, p - j = p2 := ⟨_, rfl⟩
                    have HCG : Hid (Calls Try.prog 38 #[r0, .int .i64 (j : Int)] wr fun e w' => ∃ v', e = .returned (.tuple #[.int .i64 (V : Int), v', .int .i64 0]) ∧
                        Rd .i64 w' v' (bs.take p2) ∧ (∀ k, v'.ownBlock = some k → r0.ownBlock = some k) ∧ ∃ q, w' = wr.drewN q) := by
                      have h := back_good r0 bs p j wr RR.out HBT.out (by have := HPL.out; omega) (by have := HUL.out; omega) (by omega) (by omega)
                      rw [hvV, hp2] at h
                      exact h
                    rw [hp2] at HM2
                    obtain ⟨a2, ha2⟩ : ∃ a2, Y - z + V = a2 := ⟨_, rfl⟩
                    rw [ha2] at HM2
                    obtain ⟨h1z, h2z, h3z⟩ := HDL.out _ _ _ _ HM2.out
                    obtain ⟨D, hD⟩ : ∃ D, Y - z = D := ⟨_, rfl⟩
                    have i1 : (Y : Int) - (z : Int) = (D : Int) := by omega
                    have i2 : (D : Int) + (V : Int) = (a2 : Int) := by omega
                    have i4 : IntKind.i64.wrap (a2 : Int) = (a2 : Int) := by rw [IntKind.wrap_i64]; omega
                    have i5 : IntKind.i64.wrap (D : Int) = (D : Int) := by rw [IntKind.wrap_i64]; omega
                    have HPP : Hid (bs.take p2 ≠ [] → bs.take p ≠ []) := fun h e => h (by
                      have : (bs.take p).length = 0 := by rw [e]; rfl
                      rw [List.length_take] at this
                      apply List.eq_nil_of_length_eq_zero
                      rw [List.length_take]; omega)
                    clear hY hvb hV hvV hp2 ha2 hD hpb
                    go_wp2_with fail
                    refine HCG.out.mono ?_
                    rintro e w5' ⟨v5, rfl, hr5, ho5, q5, rfl⟩
                    obtain ⟨w5, hw5⟩ : ∃ w5, wr.drewN q5 = w5 := ⟨_, rfl⟩
                    have b5 : Below wr.heap.size wr w5 := by rw [← hw5]; exact Below.of_drewN _ _ _
                    rw [hw5] at hr5 ⊢
                    have R5 : Hid (Rd .i64 w5 v5 (bs.take p2)) := hr5
                    have HRB5 : Hid (bs.take p2 ≠ [] → ∀ k, v5.ownBlock = some k → k < w4.heap.size) := fun h k hk => HRB.out (HPP.out h) k (ho5 k hk)
                    have B5 : Hid (Below w4.heap.size w4 w5) := BW.out.trans (b5.mono BW.out.size)
                    have O5 : Hid (Owns .i64 3 w5 o0 l) := OO.out.below b5
                    have c5 : w5.cell? ⟨g, a * 2, none⟩ = some (.int .i64 (SY : Int)) := by rw [← hw5]; exact HCS.out
                    have HLL : Hid (l.length ≤ 65536) := by show _ ≤ _; omega
                    clear hr5 ho5 b5 hw5 HCG HRB RR OO BW HPP HCS
                    go_wp2_with (at_builtin; refine wpList_push _ rfl (.tmp 80) (.tmp 86) 22 rfl 3 .i64 8 elem64 _ l rfl O5.out (SY : Int) rfl (by have := HLL.out; omega) (by have := HLL.out; omega) ?_)
                    intro o6 w6 ho6 hg6
                    have O6 : Hid (Owns .i64 3 w6 o6 (l ++ [(SY : Int)])) := ho6
                    have h6 := hg6.onto B5.out NO.out
                    have B6 : Hid (Below w4.heap.size w4 w6) := h6.1
                    have N6 : Hid (∀ j, o6.ownBlock = some j → w4.heap.size ≤ j) := h6.2
                    have R6 : Hid (Rd .i64 w6 v5 (bs.take p2)) := by
                      by_cases hne : bs.take p2 = []
                      · obtain ⟨a', c', e', x1, x2, x3, _⟩ := R5.out
                        exact ⟨a', c', e', x1, x2, x3, .inl hne⟩
                      · exact R5.out.tch hg6.tch (fun b hb e => by have := HRB5.out hne b hb; have := NO.out b e; omega)
                    clear ho6 hg6 h6 O5 B5 NO R5 c5
                    go_wp2_with fail
                    go_roundw
                    case rel => exact ⟨k + 1, a2, p2, l ++ [(SY : Int)], _, _, by omega, by go_num, rfl, h1z, h2z, h3z, rfl, rfl, HM2, R6, HRB5, O6, N6, B6⟩
                    case measure => simp [intOf]; omega
            · have hkm : k = m := by omega
              rw [hkm] at HDC
              have HE2 : Hid (R = drE (if a = 0 then some (l, p) else none)) := by show R = _; rw [HE.out, HQ.out, HDC.out]; rfl
              have hkn : ¬ (k : Int) < (m : Int) := by omega
              obtain ⟨ra, rc, hrv, hrc, hrm, _⟩ := id RR.out
              have htl : (bs.take p).length = p := by rw [List.length_take]; have := HPL.out; omega
              rw [htl] at hrv
              subst hrv
              have L5 : Hid (Below w1.heap.size w1 wr) := L4.out.trans (BW.out.mono L4.out.size)
              clear htl hrc hrm
              by_cases ha0 : a = 0
              · have z1 : ((a : Int) == 0) = true := by rw [beq_iff_eq]; omega
                have z2 : (a : Int) = 0 := by omega
                rw [if_pos ha0] at HE2
                by_cases hp0 : 0 < p
                · have hp1' : (0 : Int) < (p : Int) := by omega
                  have HE3 : Hid (R = (3, [])) := by show R = _; rw [HE2.out]; show (if 0 < p then ((3 : Int), ([] : List Int)) else (0, l)) = _; rw [if_pos hp0]
                  clear ha0 hkm
                  go_wp2_with fail
                  go_ret2
                  rw [HE3.out]
                  exact DPostF.bad L5.out
                · have hp1' : ¬ (0 : Int) < (p : Int) := by omega
                  have HE3 : Hid (R = (0, l)) := by show R = _; rw [HE2.out]; show (if 0 < p then ((3 : Int), ([] : List Int)) else (0, l)) = _; rw [if_neg hp0]
                  clear ha0 hkm
                  go_wp2_with fail
                  go_ret2
                  rw [HE3.out]
                  exact ⟨_, rfl, L5.out, fun j hj => Nat.le_trans L4.out.size (NO.out j hj), OO.out⟩
              · have z1 : ((a : Int) == 0) = false := by rw [beq_eq_false_iff_ne]; omega
                have z2 : ¬ (a : Int) = 0 := by omega
                rw [if_neg ha0] at HE2
                have HE3 : Hid (R = (3, [])) := HE2
                go_wp2_with fail
                go_ret2
                rw [HE3.out]
                exact DPostF.bad L5.out
      · have HE : Hid (R = (3, [])) := by show R = _; unfold HasMark at hmk; rw [HRR.out, if_neg hmk]
        clear hmk
        go_wp2_with fail
        go_ret2
        rw [HE.out]
        exact DPostF.bad (Below.refl _ _)
end Go.Proofs.Ytcmnhgefeffcpaa
