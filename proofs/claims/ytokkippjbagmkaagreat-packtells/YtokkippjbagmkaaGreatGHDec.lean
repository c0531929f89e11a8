import Derived.Test.YtokkippjbagmkaaGreatGHKey
import Derived.OwnWalk
import Derived.Test.YtokkippjbagmkaaGreatGE64
import Derived.Test.YtokkippjbagmkaaGreatGHShal
set_option maxRecDepth 100000
/-
  What Decode answers.
-/
namespace Go.Proofs.YtokkippjbagmkaaGreat
open Go.RowKit Pl Go.Maps Go.WideMaps
set_option linter.unusedVariables false
set_option maxRecDepth 100000

/-- Bytes whose codes the bits begin with, and where these end. -/
inductive Rn (ls bs : List Int) : List Int → Nat → Prop
  | nil : Rn ls bs [] 0
  | snoc (out : List Int) (q t c : Nat) (h : Rn ls bs out q) (hh : Hit ls bs q t c) : Rn ls bs (out ++ [(c : Int)]) (q + t)

theorem zeros_any (rb : Nat) (rv : Value) (ys : List Int) (p : Nat) (w : World) (hr : Rr w rb rv ys p) :
    Calls Tryz.prog 160 #[.pointer (some ⟨rb, 0, none⟩)] w fun e w' => e = .returned (.bool (val (unpack ys) p ((8 * ys.length - p) % 8) == 0)) ∧ Tch (fun k => k = rb) w w' := by
  have HR : Hid (Rr w rb rv ys p) := hr
  obtain ⟨L, hL⟩ : ∃ L : Nat, 8 * ys.length - p = L := ⟨_, rfl⟩
  have hsm := hr.small
  have hLb : L ≤ 1125899906842624 := by omega
  have HL : Hid (8 * ys.length - p = L) := hL
  obtain ⟨z, hz⟩ : ∃ z, Hid (val (unpack ys) p (L % 8) = z) := ⟨_, rfl⟩
  rw [hL, hz.out]
  clear hr hL hsm
  have htk : tkE L ((L % 8 : Nat) : Int) = 0 ∧ tkV (unpack ys) L p ((L % 8 : Nat) : Int) = val (unpack ys) p (L % 8) ∧ tkN L ((L % 8 : Nat) : Int) = L % 8 := by
    unfold tkE tkV tkN
    rw [if_neg (by omega), if_neg (by omega), if_neg (by omega), if_neg (by omega), if_neg (by omega), if_neg (by omega)]
    exact ⟨rfl, rfl, rfl⟩
  have HTK : Hid (tkE L ((L % 8 : Nat) : Int) = 0 ∧ tkV (unpack ys) L p ((L % 8 : Nat) : Int) = z) := ⟨htk.1, by rw [htk.2.1, hz.out]⟩
  clear htk
  have hrem : ((L : Int)).tmod 8 = ((L % 8 : Nat) : Int) := by rw [Int.tmod_eq_emod_of_nonneg (by omega)]; omega
  go_enter Tryz.func160, Tryz.ntmps160
  go_wp2_with fail
  refine (left_any rb rv ys p w HR.out).mono ?_
  rintro e w1 ⟨rfl, q, hw1⟩
  rw [HL.out]
  have H1 : Hid (Rr w1 rb rv ys p) := by rw [hw1]; exact HR.out.tch (Tch.of_drewN (fun _ => False) w q) (fun e => e) (fun _ _ e => e)
  have T1 : Hid (Tch (fun k => k = rb) w w1) := by rw [hw1]; exact Tch.of_drewN _ w q
  clear hw1
  have hTA := take_any rb rv ys p ((L % 8 : Nat) : Int) w1 H1.out
  rw [HL.out, HTK.out.1, HTK.out.2] at hTA
  go_wp2_with fail
  refine hTA.mono ?_
  clear hTA
  rintro e w2 ⟨rfl, _, ht2⟩
  have T2 : Hid (Tch (fun k => k = rb) w w2) := T1.out.trans ht2 (fun _ _ e => e)
  clear ht2
  go_wp2_with fail
  go_ret
  exact ⟨rfl, T2.out⟩

/-- What Decode answers. -/
def DPost (ls ys : List Int) (n : Int) (w : World) (e : Ending) (w' : World) : Prop :=
  ∃ rv E, e = .returned (.tuple #[rv, .int .i64 E]) ∧ Below w.heap.size w w' ∧ (∀ k, rv.ownBlock = some k → w.heap.size ≤ k) ∧
    ((E ≠ 0 ∧ rv = .slice none 0 0 ∧ ((E = 4 ∧ mayC ls = false) ∨ (E = 1 ∧ mayC ls = true ∧ (n < 0 ∨ 65536 < n)) ∨
        (E = 3 ∧ mayC ls = true ∧ 0 ≤ n ∧ n ≤ 65536 ∧ ((∃ out q, Rn ls (unpack ys) out q ∧ (out.length : Int) < n ∧ ∀ t, t ≤ 11 → q + t ≤ 8 * ys.length → ¬ ∃ c, Hit ls (unpack ys) q t c) ∨
          ∃ out q, Rn ls (unpack ys) out q ∧ (out.length : Int) = n ∧ (8 ≤ 8 * ys.length - q ∨ val (unpack ys) q ((8 * ys.length - q) % 8) ≠ 0))))) ∨
      (E = 0 ∧ mayC ls = true ∧ 0 ≤ n ∧ n ≤ 65536 ∧ ∃ out q, Rn ls (unpack ys) out q ∧ (out.length : Int) = n ∧ q ≤ 8 * ys.length ∧ 8 * ys.length - q < 8 ∧ val (unpack ys) q ((8 * ys.length - q) % 8) = 0 ∧ Owns .u8 5 w' rv out))

/-- The state of reading. -/
structure Ds (ls : List Int) (w W : World) (B rb : Nat) (rv d : Value) (ys out : List Int) (q : Nat) : Prop where
  rr : Rr W rb rv ys q
  km : KM ls W B 256
  own : Owns .u8 5 W d out
  rn : Rn ls (unpack ys) out q
  bel : Below w.heap.size w W
  rbn : w.heap.size ≤ rb
  dn : ∀ k, d.ownBlock = some k → w.heap.size ≤ k
  ne : ∀ k, rv.ownBlock = some k → d.ownBlock ≠ some k

theorem Ds.ner {ls : List Int} {w W : World} {B rb : Nat} {rv d : Value} {ys out : List Int} {q : Nat} (h : Ds ls w W B rb rv d ys out q) : ∀ k, d.ownBlock = some k → k ≠ rb := by
  intro k hk e
  obtain ⟨c1, h1⟩ := block_of_owns (show W.ownsRow 0 5 1 d out.length (out.map (Value.int .u8)) from h.own) hk
  rw [e, h.rr.blk] at h1
  simp at h1

theorem Ds.moved {ls : List Int} {w W W' : World} {B rb : Nat} {rv d : Value} {ys out : List Int} {q : Nat} (h : Ds ls w W B rb rv d ys out q) (ht : Tch (fun k => k = rb) W W') :
    Owns .u8 5 W' d out ∧ Below w.heap.size w W' := ⟨h.own.tch ht (fun k hk e => h.ner k hk e), h.bel.trans (ht.below h.bel.size (fun k e => by rw [e]; exact h.rbn))⟩

theorem Ds.next {ls : List Int} {w W W6 W7 : World} {B rb : Nat} {rv d d' : Value} {ys out out' : List Int} {q q6 : Nat} (h : Ds ls w W B rb rv d ys out q) (ht : Tch (fun k => k = rb) W W6) (hr6 : Rr W6 rb rv ys q6) (hk6 : KM ls W6 B 256)
    (ho : Owns .u8 5 W7 d' out') (hg : Grew W6 W7 d d') (hr : Rn ls (unpack ys) out' q6) : Ds ls w W7 B rb rv d' ys out' q6 := by
  obtain ⟨o6, b6⟩ := h.moved ht
  have hb := hg.onto b6 h.dn
  refine ⟨hr6.tch hg.tch (fun e => h.ner rb e rfl) (fun k hk e => h.ne k hk e), hk6.tch hg.tch (fun e => ?_), ho, hr, hb.1, h.rbn, hb.2, fun k hk e => ?_⟩
  · obtain ⟨c1, h1⟩ := block_of_owns (show W6.ownsRow 0 5 1 d out.length (out.map (Value.int .u8)) from o6) e
    exact hk6.ne_blk h1 rfl
  · rcases hg.fresh k e with e2 | e2
    · exact h.ne k hk e2
    · have := hr6.own.lt k hk; omega

set_option maxHeartbeats 4000000 in
theorem decode_any (lv dv : Value) (ls ys : List Int) (n : Int) (w : World) (hr : Rd .i64 w lv ls) (hd : Rd .u8 w dv ys) (hy : By ys) (hl : ys.length ≤ 140737488355328) :
    Calls Tryz.prog 132 #[lv, dv, .int .i64 n] w fun e w' => DPost ls ys n w e w' := by
  have HR : Hid (Rd .i64 w lv ls) := hr
  have HD : Hid (Rd .u8 w dv ys) := hd
  have HY : Hid (By ys) := hy
  clear hr hd hy
  cases hm : mayC ls with
  | false =>
    have HM : Hid (mayC ls = false) := hm
    clear hm
    go_enter Tryz.func132, Tryz.ntmps132
    go_wp2_with fail
    refine (maybe_rd lv ls w HR.out).mono ?_
    rintro e w1 ⟨rfl, rfl⟩
    rw [HM.out]
    go_wp2_with fail
    go_ret2
    exact ⟨_, 4, rfl, Below.refl _ _, (fun k e => by cases e), .inl ⟨by decide, rfl, .inl ⟨rfl, HM.out⟩⟩⟩
  | true =>
    have HM : Hid (mayC ls = true) := hm
    have HK : Hid (LOk ls) := LOk.of hm
    clear hm
    by_cases hn : n < 0 ∨ 65536 < n
    · have HN : Hid (n < 0 ∨ 65536 < n) := hn
      rcases hn with hn | hn
      all_goals
        go_enter Tryz.func132, Tryz.ntmps132
        go_wp2_with fail
        refine (maybe_rd lv ls w HR.out).mono ?_
        rintro e w1 ⟨rfl, rfl⟩
        rw [HM.out]
        go_wp2_with fail
        go_ret2
        exact ⟨_, 1, rfl, Below.refl _ _, (fun k e => by cases e), .inl ⟨by decide, rfl, .inr (.inl ⟨rfl, HM.out, HN.out⟩)⟩⟩
    · obtain ⟨m, rfl⟩ := Int.eq_ofNat_of_zero_le (show 0 ≤ n by omega)
      have hm1 : m ≤ 65536 := by omega
      clear hn
      obtain ⟨i0, hi, hz0, hz1, hz2⟩ := elem8.info
      go_enter Tryz.func132, Tryz.ntmps132
      go_wp2_with fail
      refine (maybe_rd lv ls w HR.out).mono ?_
      rintro e w1 ⟨rfl, rfl⟩
      rw [HM.out]
      go_wp2_with fail
      refine (known_any lv ls w1 HR.out HK.out).mono ?_
      rintro e w2 ⟨B, rfl, hk2, hb2, hB2⟩
      have K2 : Hid (KM ls w2 B 256) := hk2
      have B2 : Hid (Below w1.heap.size w1 w2) := hb2
      clear hk2 hb2 hB2
      go_wp2_with fail
      refine (newReader_any dv ys w2 (HD.out.below B2.out) HY.out hl).mono ?_
      rintro e w3 ⟨rb, rv, rfl, hr3, hb3, hrb3, hrv3⟩
      have K3 : Hid (KM ls w3 B 256) := K2.out.tch (S := fun _ => False) (Tch.of_below hb3) (fun e => e)
      have B3 : Hid (Below w1.heap.size w1 w3) := B2.out.trans (hb3.mono B2.out.size)
      have R3 : Hid (Rr w3 rb rv ys 0) := hr3
      have N3 : Hid (w1.heap.size ≤ rb) := Nat.le_trans B2.out.size hrb3
      clear hr3 hb3 hrb3 hrv3 K2 B2
      go_wp2_with (at_make; refine wpList_make_own _ rfl (.const (.int .i64 0)) (.tmp 26) 22 rfl 0 5 i0 _ 1 Tryz.underlying22 hi hz0 hz1 .i64 .i64 _ m rfl rfl rfl (by rw [hz2]; omega) (by unfold maxLen; omega) (Nat.zero_le _) ?_)
      intro w4 ho4 hg4
      have D4 : Hid (Ds ls w1 w4 B rb rv (.slice (some ⟨w3.heap.size, 0, none⟩) 0 m) ys [] 0) := by
        have b4 : Below w3.heap.size w3 w4 := (Below.refl _ _).grown hg4 (Nat.le_refl _) (fun k e => by cases e)
        refine ⟨R3.out.below b4, K3.out.tch (S := fun _ => False) (Tch.of_below b4) (fun e => e), ho4, Rn.nil, B3.out.trans (b4.mono B3.out.size), N3.out, fun k hk => ?_, fun k hk e => ?_⟩
        · simp only [Value.ownBlock, Option.some.injEq] at hk
          have := B3.out.size
          omega
        · simp only [Value.ownBlock, Option.some.injEq] at e
          have := R3.out.own.lt k hk
          omega
      clear ho4 hg4 K3 B3 R3 N3 hi hz0 hz1 hz2
      go_wp2_with fail
      go_loopw [10, 29] (fun d i wr => ∃ (k q : Nat) (out : List Int), k ≤ m ∧ i = .int .i64 k ∧ out.length = k ∧ Hid (Ds ls w1 wr B rb rv d ys out q)) (fun _ i _ => m - (intOf i).toNat)
      case atStart => exact ⟨0, 0, [], Nat.zero_le _, rfl, rfl, D4⟩
      case round =>
        obtain ⟨k, q, out, hk, rfl, hol, D5⟩ := hrel
        clear D4
        by_cases hlt : k < m
        · go_wp2_with fail
          refine (takeByte_any ls rb B rv ys q wr D5.out.rr D5.out.km).mono ?_
          rintro e w6 ⟨hk6, ht6, q6, hr6, hq6, hcase⟩
          obtain ⟨ho6, hb6⟩ := D5.out.moved ht6
          rcases hcase with ⟨c, t, rfl, rfl, hh⟩ | ⟨rfl, hno⟩
          · have HO6 : Hid (Owns .u8 5 w6 u10 out) := ho6
            have HNX : Hid (∀ (W7 : World) (d' : Value), Owns .u8 5 W7 d' (out ++ [(c : Int)]) → Grew w6 W7 u10 d' → Ds ls w1 W7 B rb rv d' ys (out ++ [(c : Int)]) (q + t)) := fun W7 d' h1 h2 => D5.out.next ht6 hr6 hk6 h1 h2 (Rn.snoc out q t c D5.out.rn hh)
            clear hk6 ht6 hr6 hq6 ho6 hb6 hh D5
            go_wp2_with (at_builtin; refine wpList_push _ rfl (.tmp 40) (.tmp 42) 22 rfl 5 .u8 1 elem8 _ out rfl HO6.out (c : Int) rfl (by omega) (by omega) ?_)
            intro d7 w7 ho7 hg7
            have D7 : Hid (Ds ls w1 w7 B rb rv d7 ys (out ++ [(c : Int)]) (q + t)) := HNX.out w7 d7 ho7 hg7
            clear ho7 hg7 HO6 HNX
            go_wp2_with fail
            go_roundw
            case rel => exact ⟨k + 1, q + t, out ++ [(c : Int)], by omega, by go_num, by simp; omega, D7⟩
            case measure => simp [intOf]; omega
          · have HP : Hid (Below w1.heap.size w1 w6) := hb6
            have HF : Hid (∃ out q, Rn ls (unpack ys) out q ∧ (out.length : Int) < (m : Int) ∧ ∀ t, t ≤ 11 → q + t ≤ 8 * ys.length → ¬ ∃ c, Hit ls (unpack ys) q t c) := ⟨out, q, D5.out.rn, by omega, hno⟩
            clear hk6 ht6 hr6 hq6 hno ho6 hb6 D5
            go_wp2_with fail
            go_ret2
            exact ⟨_, 3, rfl, HP.out, (fun k e => by cases e), .inl ⟨by decide, rfl, .inr (.inr ⟨rfl, HM.out, by omega, by omega, .inl HF.out⟩)⟩⟩
        · obtain rfl : k = m := by omega
          have hqle := D5.out.rr.le
          obtain ⟨L, hL⟩ : ∃ L : Nat, 8 * ys.length - q = L := ⟨_, rfl⟩
          have HL : Hid (8 * ys.length - q = L) := hL
          clear hL
          go_wp2_with fail
          refine (left_any rb rv ys q wr D5.out.rr).mono ?_
          rintro e w6 ⟨rfl, dq, hw6⟩
          rw [HL.out]
          have R6 : Hid (Rr w6 rb rv ys q) := by rw [hw6]; exact D5.out.rr.tch (Tch.of_drewN (fun _ => False) wr dq) (fun e => e) (fun _ _ e => e)
          have O6 : Hid (Owns .u8 5 w6 u10 out ∧ Below w1.heap.size w1 w6) := by rw [hw6]; exact D5.out.moved (Tch.of_drewN _ wr dq)
          have HRN : Hid (Rn ls (unpack ys) out q) := D5.out.rn
          have HDN : Hid (∀ k, u10.ownBlock = some k → w1.heap.size ≤ k) := D5.out.dn
          have HNR : Hid (∀ k, u10.ownBlock = some k → k ≠ rb) := D5.out.ner
          have HRB : Hid (w1.heap.size ≤ rb) := D5.out.rbn
          clear hw6 D5
          by_cases hL8 : 8 ≤ L
          · have hL8' : (8 : Int) ≤ (L : Int) := by omega
            go_wp2_with fail
            go_ret2
            exact ⟨_, 3, rfl, O6.out.2, (fun k e => by cases e), .inl ⟨by decide, rfl, .inr (.inr ⟨rfl, HM.out, by omega, by omega, .inr ⟨out, q, HRN.out, by omega, .inl (by have := HL.out; omega)⟩⟩)⟩⟩
          · have hL8' : ¬ (8 : Int) ≤ (L : Int) := by omega
            have hZ := zeros_any rb rv ys q w6 R6.out
            rw [HL.out] at hZ
            obtain ⟨z, hz⟩ : ∃ z, Hid (val (unpack ys) q (L % 8) = z) := ⟨_, rfl⟩
            rw [hz.out] at hZ
            by_cases hz0 : z = 0
            · have hzb : (z == 0) = true := by simp [hz0]
              rw [hzb] at hZ
              have HZ0 : Hid (z = 0) := hz0
              clear hz0 hzb
              go_wp2_with fail
              refine hZ.mono ?_
              clear hZ
              rintro e w7 ⟨rfl, ht7⟩
              have O7 : Hid (Owns .u8 5 w7 u10 out ∧ Below w1.heap.size w1 w7) := ⟨O6.out.1.tch ht7 (fun k hk e => HNR.out k hk e), O6.out.2.trans (ht7.below O6.out.2.size (fun k e => by rw [e]; exact HRB.out))⟩
              clear ht7 O6 R6
              go_wp2_with fail
              go_ret2
              refine ⟨u10, 0, rfl, O7.out.2, HDN.out, .inr ⟨rfl, HM.out, by omega, by omega, out, q, HRN.out, by omega, hqle, by have := HL.out; omega, ?_, O7.out.1⟩⟩
              rw [HL.out, hz.out]; exact HZ0.out
            · have hzb : (z == 0) = false := by simp [hz0]
              rw [hzb] at hZ
              have HZ0 : Hid (z ≠ 0) := hz0
              clear hz0 hzb
              go_wp2_with fail
              refine hZ.mono ?_
              clear hZ
              rintro e w7 ⟨rfl, ht7⟩
              have B7 : Hid (Below w1.heap.size w1 w7) := O6.out.2.trans (ht7.below O6.out.2.size (fun k e => by rw [e]; exact HRB.out))
              clear ht7 O6 R6
              go_wp2_with fail
              go_ret2
              exact ⟨_, 3, rfl, B7.out, (fun k e => by cases e), .inl ⟨by decide, rfl, .inr (.inr ⟨rfl, HM.out, by omega, by omega, .inr ⟨out, q, HRN.out, by omega, .inr (by rw [HL.out, hz.out]; exact HZ0.out)⟩⟩)⟩⟩
end Go.Proofs.YtokkippjbagmkaaGreat

/-
  Bits are the codes of one row of bytes only; what was written is such a row.
-/
namespace Go.Proofs.YtokkippjbagmkaaGreat
open Go.RowKit Pl
set_option linter.unusedVariables false
set_option maxRecDepth 100000

theorem vl_div {bs : List Int} (h : Bits bs) (p t d : Nat) : vl bs p (t + d) / 2 ^ d = vl bs p t := by
  induction d with
  | zero => simp
  | succ d ih =>
    rw [show t + (d + 1) = t + d + 1 by omega]
    simp only [vl]
    have hb := h (p + (t + d))
    have e : (2 : Int) ^ (d + 1) = 2 * 2 ^ d := by rw [Int.pow_succ, Int.mul_comm]
    rw [e, ← Int.ediv_ediv_of_nonneg (by decide), show (2 * vl bs p (t + d) + bs.getD (p + (t + d)) 0) / 2 = vl bs p (t + d) by omega, ih]

theorem hit_code {ls bs : List Int} (hk : LOk ls) {p t c : Nat} (h : Hit ls bs p t c) : 1 ≤ t ∧ t ≤ 11 ∧ vl bs p t = (nx ls (t - 1) c : Int) ∧ ls.getD c 0 = (t : Int) ∧ c < ls.length := by
  obtain ⟨s, v, h1, h2, h3, h4, h5, h6, h7, h8⟩ := hk.code h.2.1
  have := h.2.2.symm.trans h4
  simp only [Prod.mk.injEq] at this
  have e : t = s := by omega
  subst e
  exact ⟨h1, h2, by rw [this.2, h7], h6, h8⟩

theorem hit_unique {ls bs : List Int} (hk : LOk ls) (hb : Bits bs) {p t c t' c' : Nat} (h : Hit ls bs p t c) (h' : Hit ls bs p t' c') : t = t' ∧ c = c' := by
  obtain ⟨a1, a2, a3, a4, a5⟩ := hit_code hk h
  obtain ⟨b1, b2, b3, b4, b5⟩ := hit_code hk h'
  rcases Nat.lt_trichotomy t t' with e | e | e
  · exfalso
    have h1 := code_apart ls (s := t - 1) (t := t' - 1) (b := c) (c := c') (by omega) a5 (by rw [a4]; omega)
    have h2 := vl_div hb p t (t' - t)
    rw [show t + (t' - t) = t' by omega, a3, b3] at h2
    rw [show t' - 1 - (t - 1) = t' - t by omega] at h1
    have h3 : ((nx ls (t' - 1) c' / 2 ^ (t' - t) : Nat) : Int) = (nx ls (t - 1) c : Int) := by push_cast; exact h2
    omega
  · subst e
    exact ⟨rfl, code_inj h.2.1 h'.2.1 (h.2.2.trans h'.2.2.symm)⟩
  · exfalso
    have h1 := code_apart ls (s := t' - 1) (t := t - 1) (b := c') (c := c) (by omega) b5 (by rw [b4]; omega)
    have h2 := vl_div hb p t' (t - t')
    rw [show t' + (t - t') = t by omega, a3, b3] at h2
    rw [show t - 1 - (t' - 1) = t - t' by omega] at h1
    have h3 : ((nx ls (t - 1) c / 2 ^ (t - t') : Nat) : Int) = (nx ls (t' - 1) c' : Int) := by push_cast; exact h2
    omega

theorem rn_det {ls bs : List Int} (hk : LOk ls) (hb : Bits bs) {out : List Int} {q : Nat} (h : Rn ls bs out q) : ∀ {out' : List Int} {q' : Nat}, Rn ls bs out' q' → out.length = out'.length → out = out' ∧ q = q' := by
  induction h with
  | nil =>
    intro out' q' h' hl
    cases h' with
    | nil => exact ⟨rfl, rfl⟩
    | snoc o q t c h hh => simp at hl
  | snoc o q t c h hh ih =>
    intro out' q' h' hl
    cases h' with
    | nil => simp at hl
    | snoc o' q2 t2 c2 h2 hh2 =>
      obtain ⟨rfl, rfl⟩ := ih h2 (by simpa using hl)
      obtain ⟨rfl, rfl⟩ := hit_unique hk hb hh hh2
      exact ⟨rfl, rfl⟩

/-- The bytes ahead of a place, and the code there. -/
theorem rn_split {ls bs : List Int} (hk : LOk ls) {out : List Int} {Q : Nat} (h : Rn ls bs out Q) : ∀ k, k < out.length → ∃ q t c, Rn ls bs (out.take k) q ∧ Hit ls bs q t c ∧ q + t ≤ Q ∧ t ≤ 11 := by
  induction h with
  | nil => intro k hk; simp at hk
  | snoc o q t c h hh ih =>
    intro k hkl
    simp at hkl
    by_cases e : k = o.length
    · subst e
      exact ⟨q, t, c, by rw [List.take_left']; (· exact h); (· rfl), hh, Nat.le_refl _, (hit_code hk hh).2.1⟩
    · obtain ⟨q1, t1, c1, h1, h2, h3, h4⟩ := ih k (by omega)
      refine ⟨q1, t1, c1, ?_, h2, by omega, h4⟩
      rw [List.take_append_of_le_length (by omega)]
      exact h1

theorem rn_len {ls bs : List Int} (hk : LOk ls) {out : List Int} {q : Nat} (h : Rn ls bs out q) : out.length ≤ q := by
  induction h with
  | nil => simp
  | snoc o q t c h hh ih => have := (hit_code hk hh).1; simp; omega

theorem vl_congr {bs cs : List Int} {p q : Nat} : ∀ t, (∀ i, i < t → bs.getD (p + i) 0 = cs.getD (q + i) 0) → vl bs p t = vl cs q t
  | 0, _ => rfl
  | t + 1, h => by
    simp only [vl]
    rw [vl_congr t (fun i hi => h i (by omega)), h t (by omega)]

theorem vl_cbits (v s : Nat) : ∀ t, t ≤ s → vl (cbits v s) 0 t = ((v / 2 ^ (s - t) % 2 ^ t : Nat) : Int)
  | 0, _ => by simp [vl, Nat.mod_one]
  | t + 1, h => by
    simp only [vl]
    rw [vl_cbits v s t (by omega)]
    have e : (cbits v s).getD (0 + t) 0 = ((v / 2 ^ (s - (t + 1)) % 2 : Nat) : Int) := by
      have : (cbits v s).getD t 0 = (v : Int) / 2 ^ (s - 1 - t) % 2 := by simp [cbits, List.getD_eq_getElem?_getD, show t < s by omega]
      rw [Nat.zero_add, this, show s - 1 - t = s - (t + 1) by omega]
      push_cast
      rfl
    rw [e]
    have e2 : s - t = (s - (t + 1)) + 1 := by omega
    have e3 : v / 2 ^ (s - t) = v / 2 ^ (s - (t + 1)) / 2 := by rw [e2, Nat.pow_succ, Nat.div_div_eq_div_mul]
    rw [e3]
    obtain ⟨x, hx⟩ : ∃ x, v / 2 ^ (s - (t + 1)) = x := ⟨_, rfl⟩
    rw [hx]
    have h4 : x % 2 ^ (t + 1) = 2 * (x / 2 % 2 ^ t) + x % 2 := by
      rw [Nat.pow_succ, Nat.mul_comm (2 ^ t) 2, Nat.mod_mul]
      omega
    rw [h4]
    push_cast
    omega

/-- What was written is such a row of bytes. -/
theorem rn_enc {ls : List Int} (hk : LOk ls) (ds : List Int) (hy : By ds) (hc : ∀ i, i < ds.length → 0 < ls.getD (ds.getD i 0).toNat 0) (bs : List Int) (hb : ∀ i, i < (enc ls ds).length → bs.getD i 0 = (enc ls ds).getD i 0) :
    ∀ k, k ≤ ds.length → Rn ls bs (ds.take k) (enc ls (ds.take k)).length
  | 0, _ => by simpa [enc] using Rn.nil
  | k + 1, h => by
    have ih := rn_enc hk ds hy hc bs hb k (by omega)
    obtain ⟨c, hcx⟩ := Int.eq_ofNat_of_zero_le (hy k).1
    have hpos := hc k (by omega)
    rw [hcx, Int.toNat_natCast] at hpos
    obtain ⟨s, v, h1, h2, h3, h4, h5, h6, h7, h8⟩ := hk.code hpos
    have et := enc_take ls ds k (by omega)
    rw [hcx, Int.toNat_natCast] at et
    have hl : (cb ls c).length = s := by rw [cb_length, h4]; simp
    have hsplit : enc ls ds = enc ls (ds.take k) ++ cb ls c ++ enc ls (ds.drop (k + 1)) := by
      rw [← et, ← enc_append, List.take_append_drop]
    have hhit : Hit ls bs (enc ls (ds.take k)).length s c := by
      refine ⟨by have := (hy k).2; omega, hpos, ?_⟩
      rw [h4]
      simp only [Prod.mk.injEq, true_and]
      have e1 : vl bs (enc ls (ds.take k)).length s = vl (cbits v s) 0 s := vl_congr s (fun i hi => by
        rw [hb _ (by rw [hsplit]; simp [hl]; omega), hsplit, List.append_assoc, getD_append, if_neg (by omega), getD_append, if_pos (by rw [hl]; omega), h5]
        congr 1
        omega)
      rw [e1, vl_cbits v s s (Nat.le_refl _)]
      simp [Nat.mod_eq_of_lt h3]
    rw [take_snoc' ds k (by omega), hcx, enc_append]
    simp only [enc, List.append_nil, List.length_append, Int.toNat_natCast]
    rw [hl]
    exact Rn.snoc _ _ s c ih hhit
end Go.Proofs.YtokkippjbagmkaaGreat

/-
  Of bits that are such a row of bytes just these bytes are told.
-/
namespace Go.Proofs.YtokkippjbagmkaaGreat
open Go.RowKit Pl Hf
set_option linter.unusedVariables false

/-- Of bits that are such a row of bytes, with nothing behind them, just these bytes are told. -/
theorem decode_good {ls ys out : List Int} {q : Nat} {n : Int} {w w' : World} {e : Ending} (hm : mayC ls = true) (hr : Rn ls (unpack ys) out q) (hn : (out.length : Int) = n) (hn2 : n ≤ 65536) (hq : q ≤ 8 * ys.length) (hL : 8 * ys.length - q < 8) (hz : val (unpack ys) q ((8 * ys.length - q) % 8) = 0)
    (h : DPost ls ys n w e w') : ∃ rv, e = .returned (.tuple #[rv, .int .i64 0]) ∧ Below w.heap.size w w' ∧ (∀ k, rv.ownBlock = some k → w.heap.size ≤ k) ∧ Owns .u8 5 w' rv out := by
  have hk := LOk.of hm
  have hbits := bits_unpack ys
  obtain ⟨rv, E, rfl, hb, hf, h⟩ := h
  rcases h with ⟨_, _, h⟩ | ⟨rfl, _, _, _, out', q', h1, h2, _, _, _, ho⟩
  · exfalso
    rcases h with ⟨_, h⟩ | ⟨_, _, h⟩ | ⟨_, _, _, _, h⟩
    · rw [hm] at h; cases h
    · omega
    · rcases h with ⟨o, p, h1, h2, h3⟩ | ⟨o, p, h1, h2, h3⟩
      · obtain ⟨q1, t, c, g1, g2, g3, g4⟩ := rn_split hk hr o.length (by omega)
        obtain ⟨_, rfl⟩ := rn_det hk hbits h1 g1 (by rw [List.length_take]; omega)
        exact h3 t g4 (by omega) ⟨c, g2⟩
      · obtain ⟨_, rfl⟩ := rn_det hk hbits h1 hr (by omega)
        rcases h3 with h3 | h3
        · omega
        · exact h3 hz
  · obtain ⟨rfl, rfl⟩ := rn_det hk hbits h1 hr (by omega)
    exact ⟨rv, rfl, hb, hf, ho⟩
end Go.Proofs.YtokkippjbagmkaaGreat
