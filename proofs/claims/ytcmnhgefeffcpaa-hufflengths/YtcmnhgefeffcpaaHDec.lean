/-
  What Decode answers.
-/
import Derived.Test.YtcmnhgefeffcpaaHTakeB
import Derived.OwnWalk
namespace Go.Proofs.Ytcmnhgefeffcpaa
open Go.RowKit Pl Go.Maps Go.WideMaps
set_option linter.unusedVariables false
set_option maxRecDepth 100000

/-- Bytes whose codes the bits begin with, and where these end. -/
inductive Rn (ls bs : List Int) : List Int → Nat → Prop
  | nil : Rn ls bs [] 0
  | snoc (out : List Int) (q t c : Nat) (h : Rn ls bs out q) (hh : Hit ls bs q t c) : Rn ls bs (out ++ [(c : Int)]) (q + t)

theorem zeros_any (rb : Nat) (rv : Value) (ys : List Int) (p : Nat) (w : World) (hr : Rr w rb rv ys p) :
    Calls Try.prog 51 #[.pointer (some ⟨rb, 0, none⟩)] w fun e w' => e = .returned (.bool (val (unpack ys) p ((8 * ys.length - p) % 8) == 0)) ∧ Tch (fun k => k = rb) w w' := by
  have HR : Hid (Rr w rb rv ys p) := hr
  obtain ⟨L, hL⟩ : ∃ L : Nat, 8 * ys.length - p = L := ⟨_, rfl⟩
  have hsm := hr.small
  have hLb : L ≤ 1125899906842624 := by omega
  have HL : Hid (8 * ys.length - p = L) := hL
  obtain ⟨z, hz⟩ : ∃ z, Hid (val (unpack ys) p (L % 8) = z) := ⟨_, rfl⟩
  rw [hL, hz.out]
  clear hr hL hsm
  have htk : tkE L ((L % 8 : Nat) : Int) = 0 ∧ tkV (unpack ys) L p ((L % 8 : Nat) : Int) = val (unpack ys) p (L % 8) ∧ tkN L ((L % 8 : Nat) : Int) = L % 8 := by
    unfold tkE tkV tkN
    rw [if_neg (by omega), if_neg (by omega), if_neg (by omega), if_neg (by omega), if_neg (by omega), if_neg (by omega)]
    exact ⟨rfl, rfl, rfl⟩
  have HTK : Hid (tkE L ((L % 8 : Nat) : Int) = 0 ∧ tkV (unpack ys) L p ((L % 8 : Nat) : Int) = z) := ⟨htk.1, by rw [htk.2.1, hz.out]⟩
  clear htk
  have hrem : ((L : Int)).tmod 8 = ((L % 8 : Nat) : Int) := by rw [Int.tmod_eq_emod_of_nonneg (by omega)]; omega
  go_enter Try.func51, Try.ntmps51
  go_wp2_with fail
  refine (left_any rb rv ys p w HR.out).mono ?_
  rintro e w1 ⟨rfl, q, hw1⟩
  rw [HL.out]
  have H1 : Hid (Rr w1 rb rv ys p) := by rw [hw1]; exact HR.out.tch (Tch.of_drewN (fun _ => False) w q) (fun e => e) (fun _ _ e => e)
  have T1 : Hid (Tch (fun k => k = rb) w w1) := by rw [hw1]; exact Tch.of_drewN _ w q
  clear hw1
  have hTA := take_any rb rv ys p ((L % 8 : Nat) : Int) w1 H1.out
  rw [HL.out, HTK.out.1, HTK.out.2] at hTA
  go_wp2_with fail
  refine hTA.mono ?_
  clear hTA
  rintro e w2 ⟨rfl, _, ht2⟩
  have T2 : Hid (Tch (fun k => k = rb) w w2) := T1.out.trans ht2 (fun _ _ e => e)
  clear ht2
  go_wp2_with fail
  go_ret
  exact ⟨rfl, T2.out⟩

/-- What Decode answers. -/
def DPost (ls ys : List Int) (n : Int) (w : World) (e : Ending) (w' : World) : Prop :=
  ∃ rv E, e = .returned (.tuple #[rv, .int .i64 E]) ∧ Below w.heap.size w w' ∧ (∀ k, rv.ownBlock = some k → w.heap.size ≤ k) ∧
    ((E ≠ 0 ∧ rv = .slice none 0 0 ∧ ((E = 4 ∧ mayC ls = false) ∨ (E = 1 ∧ mayC ls = true ∧ (n < 0 ∨ 65536 < n)) ∨
        (E = 3 ∧ mayC ls = true ∧ 0 ≤ n ∧ n ≤ 65536 ∧ ((∃ out q, Rn ls (unpack ys) out q ∧ (out.length : Int) < n ∧ ∀ t, t ≤ 11 → q + t ≤ 8 * ys.length → ¬ ∃ c, Hit ls (unpack ys) q t c) ∨
          ∃ out q, Rn ls (unpack ys) out q ∧ (out.length : Int) = n ∧ (8 ≤ 8 * ys.length - q ∨ val (unpack ys) q ((8 * ys.length - q) % 8) ≠ 0))))) ∨
      (E = 0 ∧ mayC ls = true ∧ 0 ≤ n ∧ n ≤ 65536 ∧ ∃ out q, Rn ls (unpack ys) out q ∧ (out.length : Int) = n ∧ q ≤ 8 * ys.length ∧ 8 * ys.length - q < 8 ∧ val (unpack ys) q ((8 * ys.length - q) % 8) = 0 ∧ Owns .u8 5 w' rv out))

/-- The state of reading. -/
structure Ds (ls : List Int) (w W : World) (B rb : Nat) (rv d : Value) (ys out : List Int) (q : Nat) : Prop where
  rr : Rr W rb rv ys q
  km : KM ls W B 256
  own : Owns .u8 5 W d out
  rn : Rn ls (unpack ys) out q
  bel : Below w.heap.size w W
  rbn : w.heap.size ≤ rb
  dn : ∀ k, d.ownBlock = some k → w.heap.size ≤ k
  ne : ∀ k, rv.ownBlock = some k → d.ownBlock ≠ some k

theorem Ds.ner {ls : List Int} {w W : World} {B rb : Nat} {rv d : Value} {ys out : List Int} {q : Nat} (h : Ds ls w W B rb rv d ys out q) : ∀ k, d.ownBlock = some k → k ≠ rb := by
  intro k hk e
  obtain ⟨c1, h1⟩ := block_of_owns (show W.ownsRow 0 5 1 d out.length (out.map (Value.int .u8)) from h.own) hk
  rw [e, h.rr.blk] at h1
  simp at h1

theorem Ds.moved {ls : List Int} {w W W' : World} {B rb : Nat} {rv d : Value} {ys out : List Int} {q : Nat} (h : Ds ls w W B rb rv d ys out q) (ht : Tch (fun k => k = rb) W W') :
    Owns .u8 5 W' d out ∧ Below w.heap.size w W' := ⟨h.own.tch ht (fun k hk e => h.ner k hk e), h.bel.trans (ht.below h.bel.size (fun k e => by rw [e]; exact h.rbn))⟩

theorem Ds.next {ls : List Int} {w W W6 W7 : World} {B rb : Nat} {rv d d' : Value} {ys out out' : List Int} {q q6 : Nat} (h : Ds ls w W B rb rv d ys out q) (ht : Tch (fun k => k = rb) W W6) (hr6 : Rr W6 rb rv ys q6) (hk6 : KM ls W6 B 256)
    (ho : Owns .u8 5 W7 d' out') (hg : Grew W6 W7 d d') (hr : Rn ls (unpack ys) out' q6) : Ds ls w W7 B rb rv d' ys out' q6 := by
  obtain ⟨o6, b6⟩ := h.moved ht
  have hb := hg.onto b6 h.dn
  refine ⟨hr6.tch hg.tch (fun e => h.ner rb e rfl) (fun k hk e => h.ne k hk e), hk6.tch hg.tch (fun e => ?_), ho, hr, hb.1, h.rbn, hb.2, fun k hk e => ?_⟩
  · obtain ⟨c1, h1⟩ := block_of_owns (show W6.ownsRow 0 5 1 d out.length (out.map (Value.int .u8)) from o6) e
    exact hk6.ne_blk h1 rfl
  · rcases hg.fresh k e with e2 | e2
    · exact h.ne k hk e2
    · have := hr6.own.lt k hk; omega

set_option maxHeartbeats 4000000 in
theorem decode_any (lv dv : Value) (ls ys : List Int) (n : Int) (w : World) (hr : Rd .i64 w lv ls) (hd : Rd .u8 w dv ys) (hy : By ys) (hl : ys.length ≤ 140737488355328) :
    Calls Try.prog 19 #[lv, dv, .int .i64 n] w fun e w' => DPost ls ys n w e w' := by
  have HR : Hid (Rd .i64 w lv ls) := hr
  have HD : Hid (Rd .u8 w dv ys) := hd
  have HY : Hid (By ys) := hy
  clear hr hd hy
  cases hm : mayC ls with
  | false =>
    have HM : Hid (mayC ls = false) := hm
    clear hm
    go_enter Try.func19, Try.ntmps19
    go_wp2_with fail
    refine (maybe_rd lv ls w HR.out).mono ?_
    rintro e w1 ⟨rfl, rfl⟩
    rw [HM.out]
    go_wp2_with fail
    go_ret2
    exact ⟨_, 4, rfl, Below.refl _ _, (fun k e => by cases e), .inl ⟨by decide, rfl, .inl ⟨rfl, HM.out⟩⟩⟩
  | true =>
    have HM : Hid (mayC ls = true) := hm
    have HK : Hid (LOk ls) := LOk.of hm
    clear hm
    by_cases hn : n < 0 ∨ 65536 < n
    · have HN : Hid (n < 0 ∨ 65536 < n) := hn
      rcases hn with hn | hn
      all_goals
        go_enter Try.func19, Try.ntmps19
        go_wp2_with fail
        refine (maybe_rd lv ls w HR.out).mono ?_
        rintro e w1 ⟨rfl, rfl⟩
        rw [HM.out]
        go_wp2_with fail
        go_ret2
        exact ⟨_, 1, rfl, Below.refl _ _, (fun k e => by cases e), .inl ⟨by decide, rfl, .inr (.inl ⟨rfl, HM.out, HN.out⟩)⟩⟩
    · obtain ⟨m, rfl⟩ := Int.eq_ofNat_of_zero_le (show 0 ≤ n by omega)
      have hm1 : m ≤ 65536 := by omega
      clear hn
      obtain ⟨i0, hi, hz0, hz1, hz2⟩ := elem8.info
      go_enter Try.func19, Try.ntmps19
      go_wp2_with fail
      refine (maybe_rd lv ls w HR.out).mono ?_
      rintro e w1 ⟨rfl, rfl⟩
      rw [HM.out]
      go_wp2_with fail
      refine (known_any lv ls w1 HR.out HK.out).mono ?_
      rintro e w2 ⟨B, rfl, hk2, hb2, hB2⟩
      have K2 : Hid (KM ls w2 B 256) := hk2
      have B2 : Hid (Below w1.heap.size w1 w2) := hb2
      clear hk2 hb2 hB2
      go_wp2_with fail
      refine (newReader_any dv ys w2 (HD.out.below B2.out) HY.out hl).mono ?_
      rintro e w3 ⟨rb, rv, rfl, hr3, hb3, hrb3, hrv3⟩
      have K3 : Hid (KM ls w3 B 256) := K2.out.tch (S := fun _ => False) (Tch.of_below hb3) (fun e => e)
      have B3 : Hid (Below w1.heap.size w1 w3) := B2.out.trans (hb3.mono B2.out.size)
      have R3 : Hid (Rr w3 rb rv ys 0) := hr3
      have N3 : Hid (w1.heap.size ≤ rb) := Nat.le_trans B2.out.size hrb3
      clear hr3 hb3 hrb3 hrv3 K2 B2
      go_wp2_with (at_make; refine wpList_make_own _ rfl (.const (.int .i64 0)) (.tmp 26) 31 rfl 0 5 i0 _ 1 Try.underlying31 hi hz0 hz1 .i64 .i64 _ m rfl rfl rfl (by rw [hz2]; omega) (by unfold maxLen; omega) (Nat.zero_le _) ?_)
      intro w4 ho4 hg4
      have D4 : Hid (Ds ls w1 w4 B rb rv (.slice (some ⟨w3.heap.size, 0, none⟩) 0 m) ys [] 0) := by
        have b4 : Below w3.heap.size w3 w4 := (Below.refl _ _).grown hg4 (Nat.le_refl _) (fun k e => by cases e)
        refine ⟨R3.out.below b4, K3.out.tch (S := fun _ => False) (Tch.of_below b4) (fun e => e), ho4, Rn.nil, B3.out.trans (b4.mono B3.out.size), N3.out, fun k hk => ?_, fun k hk e => ?_⟩
        · simp only [Value.ownBlock, Option.some.injEq] at hk
          have := B3.out.size
          omega
        · simp only [Value.ownBlock, Option.some.injEq] at e
          have := R3.out.own.lt k hk
          omega
      clear ho4 hg4 K3 B3 R3 N3 hi hz0 hz1 hz2
      go_wp2_with fail
      go_loopw [10, 29] (fun d i wr => ∃ (k q : Nat) (out : List Int), k ≤ m ∧ i = .int .i64 k ∧ out.length = k ∧ Hid (Ds ls w1 wr B rb rv d ys out q)) (fun _ i _ => m - (intOf i).toNat)
      case atStart => exact ⟨0, 0, [], Nat.zero_le _, rfl, rfl, D4⟩
      case round =>
        obtain ⟨k, q, out, hk, rfl, hol, D5⟩ := hrel
        clear D4
        by_cases hlt : k < m
        · go_wp2_with fail
          refine (takeByte_any ls rb B rv ys q wr D5.out.rr D5.out.km).mono ?_
          rintro e w6 ⟨hk6, ht6, q6, hr6, hq6, hcase⟩
          obtain ⟨ho6, hb6⟩ := D5.out.moved ht6
          rcases hcase with ⟨c, t, rfl, rfl, hh⟩ | ⟨rfl, hno⟩
          · have HO6 : Hid (Owns .u8 5 w6 u10 out) := ho6
            have HNX : Hid (∀ (W7 : World) (d' : Value), Owns .u8 5 W7 d' (out ++ [(c : Int)]) → Grew w6 W7 u10 d' → Ds ls w1 W7 B rb rv d' ys (out ++ [(c : Int)]) (q + t)) := fun W7 d' h1 h2 => D5.out.next ht6 hr6 hk6 h1 h2 (Rn.snoc out q t c D5.out.rn hh)
            clear hk6 ht6 hr6 hq6 ho6 hb6 hh D5
            go_wp2_with (at_builtin; refine wpList_push _ rfl (.tmp 40) (.tmp 42) 31 rfl 5 .u8 1 elem8 _ out rfl HO6.out (c : Int) rfl (by omega) (by omega) ?_)
            intro d7 w7 ho7 hg7
            have D7 : Hid (Ds ls w1 w7 B rb rv d7 ys (out ++ [(c : Int)]) (q + t)) := HNX.out w7 d7 ho7 hg7
            clear ho7 hg7 HO6 HNX
            go_wp2_with fail
            go_roundw
            case rel => exact ⟨k + 1, q + t, out ++ [(c : Int)], by omega, by go_num, by simp; omega, D7⟩
            case measure => simp [intOf]; omega
          · have HP : Hid (Below w1.heap.size w1 w6) := hb6
            have HF : Hid (∃ out q, Rn ls (unpack ys) out q ∧ (out.length : Int) < (m : Int) ∧ ∀ t, t ≤ 11 → q + t ≤ 8 * ys.length → ¬ ∃ c, Hit ls (unpack ys) q t c) := ⟨out, q, D5.out.rn, by omega, hno⟩
            clear hk6 ht6 hr6 hq6 hno ho6 hb6 D5
            go_wp2_with fail
            go_ret2
            exact ⟨_, 3, rfl, HP.out, (fun k e => by cases e), .inl ⟨by decide, rfl, .inr (.inr ⟨rfl, HM.out, by omega, by omega, .inl HF.out⟩)⟩⟩
        · obtain rfl : k = m := by omega
          have hqle := D5.out.rr.le
          obtain ⟨L, hL⟩ : ∃ L : Nat, 8 * ys.length - q = L := ⟨_, rfl⟩
          have HL : Hid (8 * ys.length - q = L) := hL
          clear hL
          go_wp2_with fail
          refine (left_any rb rv ys q wr D5.out.rr).mono ?_
          rintro e w6 ⟨rfl, dq, hw6⟩
          rw [HL.out]
          have R6 : Hid (Rr w6 rb rv ys q) := by rw [hw6]; exact D5.out.rr.tch (Tch.of_drewN (fun _ => False) wr dq) (fun e => e) (fun _ _ e => e)
          have O6 : Hid (Owns .u8 5 w6 u10 out ∧ Below w1.heap.size w1 w6) := by rw [hw6]; exact D5.out.moved (Tch.of_drewN _ wr dq)
          have HRN : Hid (Rn ls (unpack ys) out q) := D5.out.rn
          have HDN : Hid (∀ k, u10.ownBlock = some k → w1.heap.size ≤ k) := D5.out.dn
          have HNR : Hid (∀ k, u10.ownBlock = some k → k ≠ rb) := D5.out.ner
          have HRB : Hid (w1.heap.size ≤ rb) := D5.out.rbn
          clear hw6 D5
          by_cases hL8 : 8 ≤ L
          · have hL8' : (8 : Int) ≤ (L : Int) := by omega
            go_wp2_with fail
            go_ret2
            exact ⟨_, 3, rfl, O6.out.2, (fun k e => by cases e), .inl ⟨by decide, rfl, .inr (.inr ⟨rfl, HM.out, by omega, by omega, .inr ⟨out, q, HRN.out, by omega, .inl (by have := HL.out; omega)⟩⟩)⟩⟩
          · have hL8' : ¬ (8 : Int) ≤ (L : Int) := by omega
            have hZ := zeros_any rb rv ys q w6 R6.out
            rw [HL.out] at hZ
            obtain ⟨z, hz⟩ : ∃ z, Hid (val (unpack ys) q (L % 8) = z) := ⟨_, rfl⟩
            rw [hz.out] at hZ
            by_cases hz0 : z = 0
            · have hzb : (z == 0) = true := by simp [hz0]
              rw [hzb] at hZ
              have HZ0 : Hid (z = 0) := hz0
              clear hz0 hzb
              go_wp2_with fail
              refine hZ.mono ?_
              clear hZ
              rintro e w7 ⟨rfl, ht7⟩
              have O7 : Hid (Owns .u8 5 w7 u10 out ∧ Below w1.heap.size w1 w7) := ⟨O6.out.1.tch ht7 (fun k hk e => HNR.out k hk e), O6.out.2.trans (ht7.below O6.out.2.size (fun k e => by rw [e]; exact HRB.out))⟩
              clear ht7 O6 R6
              go_wp2_with fail
              go_ret2
              refine ⟨u10, 0, rfl, O7.out.2, HDN.out, .inr ⟨rfl, HM.out, by omega, by omega, out, q, HRN.out, by omega, hqle, by have := HL.out; omega, ?_, O7.out.1⟩⟩
              rw [HL.out, hz.out]; exact HZ0.out
            · have hzb : (z == 0) = false := by simp [hz0]
              rw [hzb] at hZ
              have HZ0 : Hid (z ≠ 0) := hz0
              clear hz0 hzb
              go_wp2_with fail
              refine hZ.mono ?_
              clear hZ
              rintro e w7 ⟨rfl, ht7⟩
              have B7 : Hid (Below w1.heap.size w1 w7) := O6.out.2.trans (ht7.below O6.out.2.size (fun k e => by rw [e]; exact HRB.out))
              clear ht7 O6 R6
              go_wp2_with fail
              go_ret2
              exact ⟨_, 3, rfl, B7.out, (fun k e => by cases e), .inl ⟨by decide, rfl, .inr (.inr ⟨rfl, HM.out, by omega, by omega, .inr ⟨out, q, HRN.out, by omega, .inr (by rw [HL.out, hz.out]; exact HZ0.out)⟩⟩)⟩⟩
end Go.Proofs.Ytcmnhgefeffcpaa
