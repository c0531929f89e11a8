/-
  FseRound: what is written is read again, and not as one symbol less: for every symbols and log the law answers true.
-/
import Derived.Test.YtkiejjnnjjdfjaaFFil
import Derived.Test.YtkiejjnnjjdfjaaFNums
import Derived.Test.YtkiejjnnjjdfjaaFLives
namespace Go.Proofs.Ytkiejjnnjjdfjaa
open Go.RowKit Pl
set_option linter.unusedVariables false

/-- How often each symbol stands among the first k. -/
def ct (ds : List Int) : Nat → List Int
  | 0 => List.replicate 64 0
  | k + 1 => (ct ds k).set (ds.getD k 0).toNat ((ct ds k).getD (ds.getD k 0).toNat 0 + 1)

theorem ct_length (ds : List Int) (k : Nat) : (ct ds k).length = 64 := by
  induction k with
  | zero => simp only [ct, List.length_replicate]
  | succ k ih => simp only [ct, List.length_set, ih]

theorem getD_rep0 (n i : Nat) : (List.replicate n (0 : Int)).getD i 0 = 0 := by
  rw [List.getD_eq_getElem?_getD, List.getElem?_replicate]
  split <;> rfl

theorem gset' (xs : List Int) (f i : Nat) (v : Int) : (xs.set f v).getD i 0 = if i = f ∧ f < xs.length then v else xs.getD i 0 := by
  by_cases hf : f < xs.length
  · rw [gset _ _ _ _ hf]
    by_cases e : i = f
    · rw [if_pos e, if_pos ⟨e, hf⟩]
    · rw [if_neg e, if_neg (fun h => e h.1)]
  · rw [if_neg (fun h => hf h.2), List.set_eq_of_length_le (by omega)]

theorem ct_bd (ds : List Int) (k c : Nat) : 0 ≤ (ct ds k).getD c 0 ∧ (ct ds k).getD c 0 ≤ k := by
  induction k generalizing c with
  | zero => simp only [ct]; rw [getD_rep0]; omega
  | succ k ih =>
    simp only [ct]
    rw [gset']
    have h1 := ih c
    have h2 := ih (ds.getD k 0).toNat
    split <;> omega

theorem ct_pos (ds : List Int) (k : Nat) (hy : ∀ i, i < k → 0 ≤ ds.getD i 0 ∧ ds.getD i 0 ≤ 63) (i : Nat) (hi : i < k) : 0 < (ct ds k).getD (ds.getD i 0).toNat 0 := by
  induction k with
  | zero => omega
  | succ k ih =>
    simp only [ct]
    rw [gset', ct_length]
    have hb := hy i hi
    have h2 := ct_bd ds k (ds.getD k 0).toNat
    by_cases e : i = k
    · subst e
      rw [if_pos ⟨rfl, by omega⟩]
      omega
    · have := ih (fun j hj => hy j (by omega)) (by omega)
      split <;> omega

theorem share_good {ds s : List Int} {k : Nat} (hk : k = ds.length) (hy : ∀ i, i < k → 0 ≤ ds.getD i 0 ∧ ds.getD i 0 ≤ 63) (hp : ∀ i, 0 < s.getD i 0 ↔ 0 < (ct ds k).getD i 0) : allS s ds = true ∧ Good (nn s) s.length ds := by
  have h : ∀ i, i < ds.length → 0 ≤ ds.getD i 0 ∧ (ds.getD i 0).toNat < s.length ∧ 0 < s.getD (ds.getD i 0).toNat 0 := fun i hi => by
    have h1 := hy i (by omega)
    have h2 := (hp _).2 (ct_pos ds k hy i (by omega))
    refine ⟨h1.1, ?_, h2⟩
    by_cases c : (ds.getD i 0).toNat < s.length
    · exact c
    · rw [gout (by omega)] at h2; omega
  refine ⟨?_, fun i hi => ⟨(h i hi).1, (h i hi).2.1, by unfold nn; have := (h i hi).2.2; omega⟩⟩
  unfold allS
  rw [decide_eq_true_eq]
  exact fun i hi => ⟨(h i hi).1, (h i hi).2.1, by have := (h i hi).2.2; omega⟩

theorem lt_z {y : Int} {z : Nat} (h : y < (z : Int)) (hz : 32 ≤ z) : y.toNat < z := by omega

set_option maxRecDepth 100000 in
set_option maxHeartbeats 2000000 in
theorem fseRound_walk (v1 : Value) (ds : List Int) (log : Int) (w : World) (h1 : Rd .i64 w v1 ds) :
    Calls Try.prog 8 #[v1, .int .i64 log] w fun e w' => e = .returned (.bool true) ∧ Below w.heap.size w w' := by
  have H1 : Hid (Rd .i64 w v1 ds) := h1
  obtain ⟨a1, p1, e1, _, _, _, q1⟩ := h1
  subst e1
  have C1 : Hid (ds = [] ∨ ∃ b o, a1 = some ⟨b, o, none⟩ ∧ ∀ i, i < ds.length → w.cell? ⟨b, o + i, none⟩ = some (.int .i64 (ds.getD i 0))) := q1
  clear q1
  by_cases hbig : 32768 < ds.length
  · have hb : (32768 : Int) < (ds.length : Int) := by omega
    go_enter Try.func8, Try.ntmps8
    go_wp2_with fail
    refine (lives_any _).mono ?_
    rintro e w6 ⟨rfl, hb6⟩
    go_wp2_with fail
    go_ret
    exact ⟨rfl, hb6⟩
  · have hn2 : ds.length ≤ 32768 := by omega
    clear hbig
    obtain ⟨j0, hj, hy0, hy1, hy2⟩ := elem64.info
    go_enter Try.func8, Try.ntmps8
    go_wp2_with (at_make; refine wpList_make_full _ rfl (.const (.int .i64 64)) (.const (.int .i64 64)) 22 rfl 0 3 j0 _ 1 Try.underlying22 hj hy0 hy1 .i64 .i64 _ _ 64 rfl rfl rfl rfl (by rw [hy2]; omega) (by unfold maxLen; omega) (Nat.zero_le _) ?_)
    intro w2 ho2 hg2
    have b2 : Below w.heap.size w w2 := (Below.refl _ _).grown hg2 (Nat.le_refl _) (fun k e => by cases e)
    obtain ⟨gc, hgc⟩ : ∃ gc, Hid (w.heap.size = gc) := ⟨_, rfl⟩
    have OC2 : Hid (Owns .i64 3 w2 (.slice (some ⟨gc, 0, none⟩) 64 64) (ct ds 0)) := by
      show w2.ownsRow _ _ _ _ _ _
      rw [toList_madeCells_one, hgc.out] at ho2
      simp only [ct, List.length_replicate, List.map_replicate]
      exact ho2
    have B2 : Hid (Below w.heap.size w w2) := b2
    rw [hgc.out]
    clear ho2 hg2 b2 hj hy0 hy1 hy2
    go_wp2_with fail
    go_loopw [6] (fun i wr => ∃ k : Nat, k ≤ ds.length ∧ i = .int .i64 k ∧ Hid (∀ i, i < k → 0 ≤ ds.getD i 0 ∧ ds.getD i 0 ≤ 63) ∧ Hid (Owns .i64 3 wr (.slice (some ⟨gc, 0, none⟩) 64 64) (ct ds k)) ∧ Hid (Below w.heap.size w wr)) (fun i _ => ds.length - (intOf i).toNat)
    case atStart => exact ⟨0, Nat.zero_le _, rfl, fun i hi => by omega, OC2, B2⟩
    case round =>
      obtain ⟨k, hk, rfl, HY, OC, B3⟩ := hrel
      clear OC2 B2
      by_cases hlt : k < ds.length
      · obtain ⟨b, o, ha, hc⟩ : ∃ b o, a1 = some ⟨b, o, none⟩ ∧ ∀ i, i < ds.length → w.cell? ⟨b, o + i, none⟩ = some (.int .i64 (ds.getD i 0)) := by
          rcases C1.out with rfl | h
          · simp at hlt
          · exact h
        subst ha
        obtain ⟨x, hx⟩ : ∃ x, Hid (ds.getD k 0 = x) := ⟨_, rfl⟩
        have cx : wr.cell? ⟨b, o + k, none⟩ = some (.int .i64 x) := by
          have h0 := hc k hlt
          rw [B3.out.cell (p := ⟨b, o + k, none⟩) (World.block_lt_of_cell? w ⟨b, o + k, none⟩ h0), h0, hx.out]
        clear hc
        by_cases hbad : x < 0 ∨ 63 < x
        · rcases hbad with hbad | hbad
          · go_wp2_with fail
            refine (lives_any _).mono ?_
            rintro e w6 ⟨rfl, hb6⟩
            go_wp2_with fail
            go_ret
            exact ⟨rfl, B3.out.trans (hb6.mono B3.out.size)⟩
          · have hx0 : decide (x < 0) = false := by rw [decide_eq_false_iff_not]; omega
            go_wp2_with fail
            refine (lives_any _).mono ?_
            rintro e w6 ⟨rfl, hb6⟩
            go_wp2_with fail
            go_ret
            exact ⟨rfl, B3.out.trans (hb6.mono B3.out.size)⟩
        · obtain ⟨c, rfl⟩ := Int.eq_ofNat_of_zero_le (show 0 ≤ x by omega)
          have hc64 : c < 64 := by omega
          clear hbad
          have hx0 : decide ((c : Int) < 0) = false := by rw [decide_eq_false_iff_not]; omega
          have hx1 : decide (63 < (c : Int)) = false := by rw [decide_eq_false_iff_not]; omega
          obtain ⟨y, hy⟩ : ∃ y, Hid ((ct ds k).getD c 0 = y) := ⟨_, rfl⟩
          have hyb := ct_bd ds k c
          rw [hy.out] at hyb
          obtain ⟨_, _, e3, _, _, _, q3, f3⟩ := OC.out.shape (by rw [ct_length]; omega)
          rw [ct_length] at e3
          cases e3
          have cc := q3 c (by rw [ct_length]; exact hc64)
          rw [hy.out] at cc
          have fc := f3 c
          have OC3 : Hid (Owns .i64 3 (wr.setCell ⟨gc, c, none⟩ (.int .i64 (y + 1))) (.slice (some ⟨gc, 0, none⟩) 64 64) (ct ds (k + 1))) := by
            show Owns _ _ _ _ _
            have e : ct ds (k + 1) = (ct ds k).set c (y + 1) := by simp only [ct]; rw [hx.out, Int.toNat_natCast, hy.out]
            rw [e]
            exact OC.out.set c (y + 1)
          have B4 : Hid (Below w.heap.size w (wr.setCell ⟨gc, c, none⟩ (.int .i64 (y + 1)))) := B3.out.trans ((Tch.setCell (Tch.refl (fun k => k = gc) wr) (p := ⟨gc, c, none⟩) (fun _ => rfl) _).below B3.out.size (fun j e => by rw [e, ← hgc.out]; exact Nat.le_refl _))
          have HY2 : Hid (∀ i, i < k + 1 → 0 ≤ ds.getD i 0 ∧ ds.getD i 0 ≤ 63) := fun i hi => by
            by_cases e : i = k
            · subst e; rw [hx.out]; omega
            · exact HY.out i (by omega)
          have hi1 : (c : Int) < 64 := by omega
          have hi2 : (c : Int) ≤ 63 := by omega
          have hi0 : (0 : Int) ≤ (c : Int) := by omega
          clear OC q3 f3
          go_wp2_with fail
          go_roundw
          case rel => exact ⟨k + 1, by omega, by go_num, HY2, OC3, B4⟩
          case measure => simp [intOf]; omega
      · have hke : k = ds.length := by omega
        have HKE : Hid (k = ds.length) := hke
        clear hke
        have HSH : Hid (Calls Try.prog 9 #[.slice (some ⟨gc, 0, none⟩) 64 64, .int .i64 log] wr fun e w' => DPost (shR (ct ds k) log) wr e w') := share_any _ (ct ds k) log wr OC.out.rd
        clear OC
        go_wp2_with fail
        refine HSH.out.mono ?_
        clear HSH
        cases hm : mayC (ct ds k) log with
        | false =>
          intro e w4 hD
          have he : shR (ct ds k) log = (1, []) := by unfold shR; rw [if_pos hm]
          rw [he] at hD
          obtain ⟨d, rfl, hb4, _, _⟩ := hD
          have B4 : Hid (Below w.heap.size w w4) := B3.out.trans (hb4.mono B3.out.size)
          clear hb4 he hm
          go_wp2_with fail
          refine (lives_any _).mono ?_
          rintro e w6 ⟨rfl, hb6⟩
          go_wp2_with fail
          go_ret
          exact ⟨rfl, B4.out.trans (hb6.mono B4.out.size)⟩
        | true =>
          obtain ⟨s, he, hms, hsl, hsp⟩ := share_may hm
          have h0 : 0 < ds.length := by
            by_cases c : 0 < ds.length
            · exact c
            · exfalso
              have hk0 : k = 0 := by omega
              subst hk0
              obtain ⟨lg, _, _, _, _, _, hsk⟩ := ShOk.of hm
              obtain ⟨i, _, hi⟩ := std_pos _ _ hsk.some_
              simp only [ct] at hi
              rw [getD_rep0] at hi
              omega
          obtain ⟨hall, hgood⟩ := share_good HKE.out HY.out hsp
          obtain ⟨lg, rfl, hsok⟩ := Sok.of hms
          have HALL : Hid (allS s ds = true) := hall
          have HGOOD : Hid (Good (nn s) s.length ds) := hgood
          have HSOK : Hid (Sok s lg) := hsok
          have HMS : Hid (mayS s lg = true) := hms
          intro e w4 hD
          rw [he] at hD
          obtain ⟨sv, rfl, hb4, _, ho4⟩ := hD
          have B4 : Hid (Below w.heap.size w w4) := B3.out.trans (hb4.mono B3.out.size)
          have O4 : Hid (Owns .i64 3 w4 sv s) := ho4
          obtain ⟨sb, sc, rfl, _, _, _, _, _⟩ := ho4.shape hsok.pos
          clear hb4 ho4 he hm hms hsl hsp hall hgood B3 HY hsok
          obtain ⟨bs, hbs⟩ : ∃ bs, Hid (pack (eRow (nn s) s.length (2 ^ lg) lg ds ++ [1]) = bs) := ⟨pack (eRow (nn s) s.length (2 ^ lg) lg ds ++ [1]), by show _ = _; rfl⟩
          have HER : Hid (encR s lg ds = (0, bs)) := by
            show _ = _
            unfold encR
            rw [if_neg (by rw [HMS.out]; simp), if_neg (by rw [HALL.out]; simp; omega), Int.toNat_natCast, hbs.out]
          have HBY : Hid (By bs) := fun i => by rw [← hbs.out]; exact pack_bd ((row_bits _ _ _ _ _).snoc (.inr rfl)) i
          have hbl : bs.length ≤ 140737488355328 := by
            rw [← hbs.out, pack_length]
            have h1 := en_len (nn s) s.length (2 ^ lg) ds
            have h2 := HSOK.out.hi
            unfold eRow
            simp [bitsOf_length]
            omega
          have HDW : Hid (decR s lg bs ds.length = (0, ds)) := by
            show _ = _
            rw [← hbs.out]
            exact decR_whole HSOK.out HMS.out (by omega) HGOOD.out
          have HENC : Hid (Calls Try.prog 19 #[.slice (some ⟨sb, 0, none⟩) s.length sc, .int .i64 lg, .slice a1 ds.length p1] w4 fun e w' => EPost (0, bs) w4 e w') := by
            have := encode_any _ _ s ds lg w4 O4.out.rd (H1.out.below B4.out)
            rw [HER.out] at this
            exact this
          clear HER
          go_wp2_with fail
          refine HENC.out.mono ?_
          clear HENC
          intro e w5 hE
          obtain ⟨bv, rfl, hb5, _, ho5⟩ := hE
          have B5 : Hid (Below w.heap.size w w5) := B4.out.trans (hb5.mono B4.out.size)
          have O5 : Hid (Owns .i64 3 w5 (.slice (some ⟨sb, 0, none⟩) s.length sc) s) := O4.out.below hb5
          have P5 : Hid (Owns .u8 5 w5 bv bs) := ho5
          clear hb5 ho5 B4 O4
          have HDEC : Hid (Calls Try.prog 21 #[.slice (some ⟨sb, 0, none⟩) s.length sc, .int .i64 lg, bv, .int .i64 ds.length] w5 fun e w' => DPost (0, ds) w5 e w') := by
            have := decode_any _ _ s bs lg ds.length w5 O5.out.rd P5.out.rd HBY.out hbl
            rw [HDW.out] at this
            exact this
          clear HDW
          go_wp2_with fail
          refine HDEC.out.mono ?_
          clear HDEC
          intro e w6 hD
          obtain ⟨cv, rfl, hb6, _, ho6⟩ := hD
          have B6 : Hid (Below w.heap.size w w6) := B5.out.trans (hb6.mono B5.out.size)
          have O6 : Hid (Owns .i64 3 w6 (.slice (some ⟨sb, 0, none⟩) s.length sc) s) := O5.out.below hb6
          have P6 : Hid (Owns .u8 5 w6 bv bs) := P5.out.below hb6
          have Q6 : Hid (Owns .i64 3 w6 cv ds) := ho6
          clear hb6 ho6 B5 O5 P5
          go_wp2_with fail
          refine (numbers_rd _ _ ds ds w6 Q6.out.rd (H1.out.below B6.out)).mono ?_
          rintro e w7 ⟨rfl, hb7⟩
          have hdec : decide (ds = ds) = true := by simp
          rw [hdec]
          have B7 : Hid (Below w.heap.size w w7) := B6.out.trans (hb7.mono B6.out.size)
          have O7 : Hid (Owns .i64 3 w7 (.slice (some ⟨sb, 0, none⟩) s.length sc) s) := O6.out.below hb7
          have P7 : Hid (Owns .u8 5 w7 bv bs) := P6.out.below hb7
          clear hdec hb7 B6 O6 P6 Q6
          -- the last symbol, and its share
          obtain ⟨b, o, ha, hc⟩ : ∃ b o, a1 = some ⟨b, o, none⟩ ∧ ∀ i, i < ds.length → w.cell? ⟨b, o + i, none⟩ = some (.int .i64 (ds.getD i 0)) := by
            rcases C1.out with rfl | h
            · simp at h0
            · exact h
          subst ha
          obtain ⟨m, hm⟩ : ∃ m, Hid (ds.length - 1 = m) := ⟨_, rfl⟩
          have hmI : (ds.length : Int) - 1 = (m : Int) := by rw [← hm.out]; omega
          have hml : m < ds.length := by rw [← hm.out]; omega
          obtain ⟨x, hx⟩ := Int.eq_ofNat_of_zero_le (HGOOD.out m hml).1
          have HX : Hid (ds.getD m 0 = (x : Int)) := hx
          have hxl : x < s.length := by have := (HGOOD.out m hml).2.1; rw [hx, Int.toNat_natCast] at this; exact this
          have cx : w7.cell? ⟨b, o + m, none⟩ = some (.int .i64 (x : Int)) := by
            have h0 := hc m hml
            rw [B7.out.cell (p := ⟨b, o + m, none⟩) (World.block_lt_of_cell? w ⟨b, o + m, none⟩ h0), h0, HX.out]
          obtain ⟨_, _, e3, _, _, _, q3, _⟩ := O7.out.shape HSOK.out.pos
          cases e3
          obtain ⟨y, hy⟩ : ∃ y, Hid (s.getD x 0 = y) := ⟨_, rfl⟩
          have cy := q3 x hxl
          rw [hy.out] at cy
          obtain ⟨z, hz, hz1, hz2, hw, hpz⟩ := pow_z (lg := lg) HSOK.out.lo HSOK.out.hi
          have HPZ : Hid ((2 : Int) ^ lg = (z : Int)) := hpz
          have hlg : lg ≤ 9 := HSOK.out.hi
          have hg0 : decide ((0 : Int) < (ds.length : Int)) = true := by rw [decide_eq_true_eq]; omega
          have hi1 : (x : Int) < (s.length : Int) := by omega
          have hi2 : (m : Int) < (ds.length : Int) := by omega
          clear q3 hc hx hpz
          by_cases hyz : y < (z : Int)
          · have hd : decide (y < (z : Int)) = true := by rw [decide_eq_true_eq]; exact hyz
            have HDL : Hid ((decR s lg bs m).1 = 3) := by
              show _ = _
              rw [← hbs.out]
              have := decR_less HSOK.out HMS.out (by omega) HGOOD.out h0 (by
                rw [hm.out, HX.out, Int.toNat_natCast]
                unfold nn
                rw [hy.out, hz.out]
                exact lt_z hyz hz1)
              rw [hm.out] at this
              exact this
            go_wp2_with fail
            go_quiet (fail)
            go_wp2_with fail
            have HD7 : Hid (∀ n, Below w7.heap.size w7 (w7.drewN n)) := fun n => Below.of_drewN _ _ _
            refine (decode_any _ _ s bs lg m _ (O7.out.rd.below (HD7.out _)) (P7.out.rd.below (HD7.out _)) HBY.out hbl).mono ?_
            intro e w8 hD
            obtain ⟨cv2, rfl, hb8, _, _⟩ := hD
            rw [HDL.out]
            have b8 := (HD7.out _).trans (hb8.mono (HD7.out _).size)
            have B8 : Hid (Below w.heap.size w w8) := B7.out.trans (b8.mono B7.out.size)
            clear hb8 b8 HD7
            go_wp2_with fail
            refine (lives_any _).mono ?_
            rintro e w9 ⟨rfl, hb9⟩
            go_wp2_with fail
            go_ret
            exact ⟨rfl, B8.out.trans (hb9.mono B8.out.size)⟩
          · have hd : decide (y < (z : Int)) = false := by rw [decide_eq_false_iff_not]; exact hyz
            go_wp2_with fail
            go_quiet (fail)
            go_wp2_with fail
            refine (lives_any _).mono ?_
            rintro e w9 ⟨rfl, hb9⟩
            have b9 := (Below.of_drewN w7.heap.size w7 _).trans (hb9.mono (Below.of_drewN w7.heap.size w7 _).size)
            have B9 : Hid (Below w.heap.size w w9) := B7.out.trans (b9.mono B7.out.size)
            clear hb9 b9
            go_wp2_with fail
            go_ret
            exact ⟨rfl, B9.out⟩
end Go.Proofs.Ytkiejjnnjjdfjaa
