/-
  What the law on what is put and taken again comes to: true, and nothing that was there is touched.
-/
import Derived.Test.YtbjpeomokgchnaaWMark
import Derived.Test.YtbjpeomokgchnaaPieceArg
import Derived.Test.YtbjpeomokgchnaaRnd
import Derived.Test.YtbjpeomokgchnaaBack2
import Derived.Deep.RegionHeld3
namespace Go.Proofs.Ytbjpeomokgchnaa
open Go.RowKit Pl
set_option linter.unusedVariables false

theorem backLeft_any (b : Nat) (rv : Value) (ys : List Int) (p : Nat) (w : World) (h : Bk w b rv ys p) :
    Calls Try.prog 27 #[.pointer (some ⟨b, 0, none⟩)] w fun e w' => e = .returned (.int .i64 p) ∧ w' = w := by
  have c1 := h.c1
  clear h
  go_enter Try.func27, Try.ntmps27
  go_wp2
  go_ret
  exact ⟨rfl, rfl⟩

/-- The mark behind a row stands where the row ends. -/
theorem mark_of (bs : List Int) (h : Bits bs) : HasMark (pack (bs ++ [1])) ∧ markAt (pack (bs ++ [1])) = bs.length := by
  have hb : Bits (bs ++ [1]) := h.snoc (.inr rfl)
  have hl : (pack (bs ++ [1])).length = bs.length / 8 + 1 := by rw [pack_length]; simp; omega
  have h1 : (unpack (pack (bs ++ [1]))).getD bs.length 0 = 1 := by rw [unpack_pack hb, getD_snoc, if_pos rfl]; simp
  have h0 : ∀ p, bs.length < p → (unpack (pack (bs ++ [1]))).getD p 0 = 0 := by
    intro p hp
    rw [unpack_pack hb, getD_snoc, if_neg (by omega)]
    simp [List.getD_eq_getElem?_getD, List.getElem?_eq_none (show bs.length ≤ p by omega)]
  have hm : HasMark (pack (bs ++ [1])) := by
    refine ⟨by omega, fun e => ?_⟩
    rw [unpack_getD] at h1
    rw [hl, show bs.length / 8 + 1 - 1 = bs.length / 8 by omega] at e
    rw [e] at h1
    simp at h1
  obtain ⟨a, b, c⟩ := mark_lt (fun i => pack_bd hb i) hm
  refine ⟨hm, ?_⟩
  rcases Nat.lt_trichotomy (markAt (pack (bs ++ [1]))) bs.length with e | e | e
  · have := c bs.length e (by rw [hl]; omega)
    rw [h1] at this
    cases this
  · exact e
  · have := h0 _ e
    rw [b] at this
    cases this

theorem OwnsP.cells {W : World} {a : Option Addr} {n cap : Nat} {ps : List (Int × Int)} (h : OwnsP W (.slice a n cap) ps) (h0 : 0 < ps.length) :
    ∃ g o, a = some ⟨g, o, none⟩ ∧ ∀ i, i < ps.length → W.cell? ⟨g, o + i * 2, none⟩ = some (.int .i64 (ps.getD i (0, 0)).1) ∧ W.cell? ⟨g, o + i * 2 + 1, none⟩ = some (.int .i64 (ps.getD i (0, 0)).2) := by
  obtain ⟨a', cap', e, _, _, hc⟩ := h.rd
  simp only [Value.slice.injEq] at e
  obtain ⟨rfl, _, _⟩ := e
  rcases hc with rfl | ⟨g, o, rfl, hc⟩
  · simp at h0
  · exact ⟨g, o, rfl, hc⟩

theorem OwnsP.cellsAt {W : World} {g o n cap : Nat} {ps : List (Int × Int)} (h : OwnsP W (.slice (some ⟨g, o, none⟩) n cap) ps) (h0 : 0 < ps.length) :
    ∀ i, i < ps.length → W.cell? ⟨g, o + i * 2, none⟩ = some (.int .i64 (ps.getD i (0, 0)).1) ∧ W.cell? ⟨g, o + i * 2 + 1, none⟩ = some (.int .i64 (ps.getD i (0, 0)).2) := by
  obtain ⟨g', o', e, hc⟩ := h.cells h0
  simp only [Option.some.injEq, Addr.mk.injEq, and_true] at e
  obtain ⟨rfl, rfl⟩ := e
  exact hc

theorem okp_nat {p : Int × Int} (h : OkP p) : ∃ (m : Nat) (x : Int), p = ((m : Int), x) ∧ m ≤ 32 ∧ 0 ≤ x ∧ x < 2 ^ m := by
  obtain ⟨n, x⟩ := p
  obtain ⟨h0, h1, h2, h3⟩ := h
  simp only at h0 h1 h2 h3
  obtain ⟨m, rfl⟩ := Int.eq_ofNat_of_zero_le h0
  exact ⟨m, x, rfl, by omega, h2, h3⟩

theorem tk_nat {left m : Nat} (bs : List Int) (p : Nat) (h32 : m ≤ 32) (h : m ≤ left) : tkE left m = 0 ∧ tkV bs left p m = val bs p m ∧ tkN left m = m := by
  have e : tkE left m = 0 := by unfold tkE; rw [if_neg (by omega), if_neg (by omega)]
  obtain ⟨m', e', _, _, eV, eN⟩ := tk_good bs p e
  obtain rfl : m = m' := by omega
  exact ⟨e, eV, eN⟩

theorem blk_ne {W : World} {a b : Nat} {c1 c2 : Array Value} {t1 t2 : TypeId} (h1 : W.heap[a]? = some (.cells c1 t1 (0, 0))) (h2 : W.heap[b]? = some (.cells c2 t2 (0, 0))) (ht : t1 ≠ t2) : a ≠ b := by
  intro e
  subst e
  rw [h1] at h2
  simp at h2
  exact ht h2.2

/-- The writer and the pieces beside it: nothing that was there is touched. -/
structure St (w : World) (W : World) (b : Nat) (rv o : Value) (ps : List (Int × Int)) : Prop where
  wr : Wr W b rv (putAll ps)
  own : OwnsP W o ps
  ok : ∀ i, i < ps.length → OkP (ps.getD i (0, 0))
  bel : Below w.heap.size w W
  bn : w.heap.size ≤ b
  rn : ∀ k, rv.ownBlock = some k → w.heap.size ≤ k
  on : ∀ k, o.ownBlock = some k → w.heap.size ≤ k

theorem St.blw {w W W' : World} {b : Nat} {rv o : Value} {ps : List (Int × Int)} (h : St w W b rv o ps) (hb : Below W.heap.size W W') : St w W' b rv o ps :=
  ⟨h.wr.tch (S := fun _ => False) (Tch.of_below hb) (fun e => e) (fun _ _ e => e), h.own.below hb, h.ok, h.bel.trans (hb.mono h.bel.size), h.bn, h.rn, h.on⟩

theorem St.put {w W W' : World} {b : Nat} {rv rv' o : Value} {ps : List (Int × Int)} (h : St w W b rv o ps) {xs : List Int} (hp : WrTo W b rv W' rv' xs) : Wr W' b rv' xs ∧ OwnsP W' o ps ∧ Below w.heap.size w W' ∧ ∀ k, rv'.ownBlock = some k → w.heap.size ≤ k := by
  refine ⟨hp.wr, h.own.tch hp.tch (fun j hj e => ?_), h.bel.trans (hp.tch.below h.bel.size (fun k hk => ?_)), fun k hk => ?_⟩
  · rcases e with e | e
    · exact h.own.ne_blk h.wr.blk (by decide) hj e
    · exact h.own.ne_bytes h.wr.own hj e
  · rcases hk with e | e
    · rw [e]; exact h.bn
    · exact h.rn k e
  · rcases hp.fresh k hk with e | e
    · exact h.rn k e
    · have := h.bel.size; omega

set_option maxRecDepth 100000 in
set_option maxHeartbeats 4000000 in
theorem bitsRound_walk (v : Value) (ps : List (Int × Int)) (w : World) (hx : RdP w v ps) (h1 : ps.length * 16 ≤ 140737488351232) (h64 : ∀ i, (ps.getD i (0, 0)).2 < 9223372036854775808) :
    Calls Try.prog 6 #[v] w fun e w' => e = .returned (.bool true) ∧ Below w.heap.size w w' := by
  obtain ⟨ta, tc, rfl, _, _, htc⟩ := hx
  have HTC : Hid (ps = [] ∨ ∃ b o, ta = some ⟨b, o, none⟩ ∧ ∀ i, i < ps.length → w.cell? ⟨b, o + i * 2, none⟩ = some (.int .i64 (ps.getD i (0, 0)).1) ∧ w.cell? ⟨b, o + i * 2 + 1, none⟩ = some (.int .i64 (ps.getD i (0, 0)).2)) := htc
  have H64 : Hid (∀ i, (ps.getD i (0, 0)).2 < 9223372036854775808) := h64
  clear htc h64
  go_enter Try.func6, Try.ntmps6
  go_wp2_with fail
  refine (newWriter_any w).mono ?_
  rintro e w1 ⟨rfl, hw1, hb1⟩
  obtain ⟨b, HBE⟩ : ∃ b, Hid (w.heap.size = b) := ⟨_, rfl⟩
  rw [HBE.out] at hw1 ⊢
  have S1 : Hid (St w w1 b (.slice none 0 0) (.slice none 0 0) []) := ⟨hw1, ownsP_nil _, fun i hi => by simp at hi, hb1, Nat.le_of_eq HBE.out, fun k e => (by cases e), fun k e => (by cases e)⟩
  clear hw1 hb1
  go_wp2_with fail
  go_loopw [4, 5] (fun o i wr => ∃ (k : Nat) (rv : Value) (qs : List (Int × Int)), k ≤ ps.length ∧ i = .int .i64 k ∧ qs.length ≤ k ∧ Hid (St w wr b rv o qs)) (fun _ i _ => ps.length - (intOf i).toNat)
  case atStart => exact ⟨0, _, [], Nat.zero_le _, rfl, Nat.le_refl _, S1⟩
  case round =>
    obtain ⟨k, rv, qs, hk, rfl, hqk, hS⟩ := hrel
    clear S1
    by_cases hlt : k < ps.length
    · obtain ⟨tb, to', rfl, hc⟩ : ∃ b o, ta = some ⟨b, o, none⟩ ∧ ∀ i, i < ps.length → w.cell? ⟨b, o + i * 2, none⟩ = some (.int .i64 (ps.getD i (0, 0)).1) ∧ w.cell? ⟨b, o + i * 2 + 1, none⟩ = some (.int .i64 (ps.getD i (0, 0)).2) := by
        rcases HTC.out with rfl | h
        · simp at hlt
        · exact h
      obtain ⟨n, hne⟩ : ∃ n, Hid ((ps.getD k (0, 0)).1 = n) := ⟨_, rfl⟩
      obtain ⟨x, hxe⟩ : ∃ x, Hid ((ps.getD k (0, 0)).2 = x) := ⟨_, rfl⟩
      have hc0 := hc k hlt
      rw [hne.out, hxe.out] at hc0
      have htb : tb < w.heap.size := World.block_lt_of_cell? w ⟨tb, to' + k * 2, none⟩ hc0.1
      have CN0 : Hid (∀ W : World, Below w.heap.size w W → W.cell? ⟨tb, to' + k * 2, none⟩ = some (.int .i64 n) ∧ W.cell? ⟨tb, to' + k * 2 + 1, none⟩ = some (.int .i64 x)) := fun W hW =>
        ⟨by rw [hW.cell (p := ⟨tb, to' + k * 2, none⟩) htb]; exact hc0.1, by rw [hW.cell (p := ⟨tb, to' + k * 2 + 1, none⟩) htb]; exact hc0.2⟩
      obtain ⟨cn, cx⟩ := CN0.out wr hS.out.bel
      clear hc hc0 htb
      have HPL : Hid ((putAll qs).length ≤ 32 * qs.length) := putAll_le qs hS.out.ok
      have hbd : (putAll qs).length ≤ 1125899906841900 := by have := HPL.out; omega
      by_cases hok : OkP (n, x)
      · obtain ⟨hn0, hn32, hx0, hx1⟩ := hok
        obtain ⟨m, hm⟩ := Int.eq_ofNat_of_zero_le hn0
        simp only at hm hn32 hx0 hx1
        subst hm
        have hm32 : m ≤ 32 := by omega
        have HX1 : Hid (x < 2 ^ m) := hx1
        have HBD : Hid ((putAll qs).length ≤ 1125899906841900) := hbd
        clear hx1 hn0 hn32 hbd
        go_wp2_with fail
        go_region_held3 (fun w' => w'.cell? ⟨tb, to' + k * 2, none⟩ = some (.int .i64 (m : Int)) ∧ w'.cell? ⟨tb, to' + k * 2 + 1, none⟩ = some (.int .i64 x)) (go_keep)
          ((go_at_call 11; refine (put_ok b rv m x (putAll qs) _ (by exact (hS.out.blw (by repeat (first | exact Below.refl _ _ | apply Below.drew))).wr) HBD.out hm32 hx0 HX1.out).mono ?_; rintro e w2 ⟨rfl, rv2, h2⟩; have hP := St.put (hS.out.blw (by repeat (first | exact Below.refl _ _ | apply Below.drew))) h2; obtain ⟨cn2, cx2⟩ := CN0.out w2 hP.2.2.1))
        have HP : Hid (Wr w2 b rv2 (putAll qs ++ bitsOf x m) ∧ OwnsP w2 u4 qs ∧ Below w.heap.size w w2 ∧ ∀ k, rv2.ownBlock = some k → w.heap.size ≤ k) := hP
        clear h2 hP cn cx
        go_wp2_with (at_builtin; refine wpList_pushP _ rfl (.tmp 37) (.tmp 42) rfl _ qs rfl HP.out.2.1 ((m : Int), x) rfl (by omega) ?_)
        intro o3 w3 ho3 hg3
        have HS3 : Hid (St w w3 b rv2 o3 (qs ++ [((m : Int), x)])) := by
          obtain ⟨q1, q2, q3, q4⟩ := HP.out
          refine ⟨?_, ho3, fun i hi => ?_, ?_, hS.out.bn, q4, fun k hk => ?_⟩
          · rw [putAll_snoc]
            exact q1.tch hg3.tch (fun e => q2.ne_blk q1.blk (by decide) e rfl) (fun j hj e => q2.ne_bytes q1.own e hj)
          · rw [getD_append_ps]
            split
            · exact hS.out.ok i (by assumption)
            · simp at hi
              have : i - qs.length = 0 := by omega
              rw [this]
              exact ⟨by simp, by simp; omega, hx0, HX1.out⟩
          · exact q3.trans (hg3.tch.below q3.size (fun k e => hS.out.on k e))
          · rcases hg3.fresh k hk with e | e
            · exact hS.out.on k e
            · have := q3.size; omega
        clear ho3 hg3 HP hS cn2 cx2
        go_wp2_with fail
        go_roundw
        case rel => exact ⟨k + 1, rv2, qs ++ [((m : Int), x)], by omega, by go_num, by simp; omega, HS3⟩
        case measure => simp [intOf]; omega
      · have HBAD : Hid (n < 0 ∨ 32 < n ∨ x < 0 ∨ 2 ^ n.toNat ≤ x) := by
          show _ ∨ _
          unfold OkP at hok
          simp only at hok
          by_cases a1 : n < 0
          · exact .inl a1
          · by_cases a2 : 32 < n
            · exact .inr (.inl a2)
            · by_cases a3 : x < 0
              · exact .inr (.inr (.inl a3))
              · refine .inr (.inr (.inr ?_))
                rcases Int.lt_or_le x (2 ^ n.toNat) with a4 | a4
                · exact absurd ⟨by omega, by omega, by omega, a4⟩ hok
                · exact a4
        have HX64 : Hid (x < 9223372036854775808) := by show x < _; rw [← hxe.out]; exact H64.out k
        clear hok hbd
        go_wp2_with fail
        go_region_held3 (fun w' => w'.cell? ⟨tb, to' + k * 2, none⟩ = some (.int .i64 n) ∧ w'.cell? ⟨tb, to' + k * 2 + 1, none⟩ = some (.int .i64 x)) (go_keep)
          ((go_at_call 11; refine (put_bad _ n x _ HX64.out HBAD.out).mono ?_; rintro e w2 ⟨rfl, rfl⟩))
        go_wp2_with fail
        go_roundw
        case rel => exact ⟨k + 1, rv, qs, by omega, by go_num, by omega, hS.out.blw ((Below.refl _ _).drew)⟩
        case measure => simp [intOf]; omega
    · have HPL : Hid ((putAll qs).length ≤ 32 * qs.length) := putAll_le qs hS.out.ok
      have hbd : (putAll qs).length ≤ 281474976710656 := by have := HPL.out; omega
      obtain ⟨bs, hbs⟩ : ∃ bs, Hid (putAll qs = bs) := ⟨_, rfl⟩
      have hWr := hS.out.wr
      rw [hbs.out] at hbd hWr
      have W2 : Hid (Wr wr b rv bs) := hWr
      have O2 : Hid (OwnsP wr u4 qs) := hS.out.own
      have B2 : Hid (Below w.heap.size w wr) := hS.out.bel
      have OK : Hid (∀ i, i < qs.length → OkP (qs.getD i (0, 0))) := hS.out.ok
      clear hWr hS HTC H64
      obtain ⟨oa, oc, hu⟩ : ∃ a cap, u4 = .slice a qs.length cap := by obtain ⟨a, cap, e, _⟩ := O2.out.rd; exact ⟨a, cap, e⟩
      subst hu
      go_wp2_with fail
      refine (bytes_any b rv bs wr W2.out (by omega)).mono ?_
      rintro e w3 ⟨v3, rfl, h3, b3, _⟩
      have V3 : Hid (Owns .u8 5 w3 v3 (pack bs)) := h3
      have W3 : Hid (Wr w3 b rv bs) := W2.out.tch (S := fun _ => False) (Tch.of_below b3) (fun e => e) (fun _ _ e => e)
      have O3 : Hid (OwnsP w3 (.slice oa qs.length oc) qs) := O2.out.below b3
      have B3 : Hid (Below w.heap.size w w3) := B2.out.trans (b3.mono B2.out.size)
      have hpl : (pack bs).length ≤ 140737488355000 := by rw [pack_length]; omega
      have HPL2 : Hid ((pack bs).length ≤ 140737488355000) := hpl
      clear h3 b3 hpl W2 O2 B2
      go_wp2_with fail
      refine (newReader_any v3 (pack bs) w3 V3.out.rd (fun i => pack_bd W3.out.bits i) (by have := HPL2.out; omega)).mono ?_
      rintro e w4 ⟨b1, rv1, rfl, hr4, b4, hb4, hf4⟩
      have R4 : Hid (Rr w4 b1 rv1 (pack bs) 0) := hr4
      have W4 : Hid (Wr w4 b rv bs) := W3.out.tch (S := fun _ => False) (Tch.of_below b4) (fun e => e) (fun _ _ e => e)
      have O4 : Hid (OwnsP w4 (.slice oa qs.length oc) qs) := O3.out.below b4
      have B4 : Hid (Below w.heap.size w w4) := B3.out.trans (b4.mono B3.out.size)
      have N1 : Hid (w.heap.size ≤ b1) := Nat.le_trans B3.out.size hb4
      clear hr4 b4 hb4 hf4 W3 O3 B3 V3
      go_wp2_with fail
      refine (wmarked_any b rv bs w4 W4.out (by omega)).mono ?_
      rintro e w5 ⟨v5, rfl, h5, b5, _⟩
      have V5 : Hid (Owns .u8 5 w5 v5 (pack (bs ++ [1]))) := h5
      have R5 : Hid (Rr w5 b1 rv1 (pack bs) 0) := R4.out.below b5
      have W5 : Hid (Wr w5 b rv bs) := W4.out.tch (S := fun _ => False) (Tch.of_below b5) (fun e => e) (fun _ _ e => e)
      have O5 : Hid (OwnsP w5 (.slice oa qs.length oc) qs) := O4.out.below b5
      have B5 : Hid (Below w.heap.size w w5) := B4.out.trans (b5.mono B4.out.size)
      clear h5 b5 R4 W4 O4 B4
      go_wp2_with fail
      refine (newBack_rd v5 (pack (bs ++ [1])) w5 V5.out.rd (fun i => pack_bd (W5.out.bits.snoc (.inr rfl)) i) (by rw [pack_length]; simp; omega)).mono ?_
      rintro e w6 (⟨hM, b2, rv2, rfl, hk6, b6, hb6, hf6⟩ | ⟨hM, _, _⟩)
      rotate_left
      · exact absurd (mark_of bs W5.out.bits).1 hM
      rw [(mark_of bs W5.out.bits).2] at hk6
      have K6 : Hid (Bk w6 b2 rv2 (pack (bs ++ [1])) bs.length) := hk6
      have R6 : Hid (Rr w6 b1 rv1 (pack bs) 0) := R5.out.below b6
      have W6 : Hid (Wr w6 b rv bs) := W5.out.tch (S := fun _ => False) (Tch.of_below b6) (fun e => e) (fun _ _ e => e)
      have O6 : Hid (OwnsP w6 (.slice oa qs.length oc) qs) := O5.out.below b6
      have B6 : Hid (Below w.heap.size w w6) := B5.out.trans (b6.mono B5.out.size)
      have N2 : Hid (w.heap.size ≤ b2) := Nat.le_trans B5.out.size hb6
      have BB : Hid (Bits bs) := W5.out.bits
      clear hk6 b6 hb6 hf6 hM R5 W5 O5 B5 V5
      go_wp2_with fail
      refine (backLeft_any b2 rv2 _ bs.length w6 K6.out).mono ?_
      rintro e w7 ⟨rfl, rfl⟩
      go_wp2_with fail
      refine (len_any b rv bs _ W6.out).mono ?_
      rintro e w8 ⟨rfl, rfl⟩
      clear W6
      go_wp2_with fail
      go_loopw [9] (fun i wr => ∃ k : Nat, k ≤ qs.length ∧ i = .int .i64 k ∧ Hid (Rr wr b1 rv1 (pack bs) (putAll (qs.take k)).length) ∧ Hid (Bk wr b2 rv2 (pack (bs ++ [1])) bs.length) ∧ Hid (OwnsP wr (.slice oa qs.length oc) qs) ∧ Hid (Below w.heap.size w wr)) (fun i _ => qs.length - (intOf i).toNat)
      case atStart => exact ⟨0, Nat.zero_le _, rfl, R6, K6, O6, B6⟩
      case round =>
        obtain ⟨j, hj, rfl, R7, K7, O7, B7⟩ := hrel
        clear R6 K6 O6 B6
        by_cases hjl : j < qs.length
        · obtain ⟨g, go', hoa, hcell⟩ := O7.out.cells (by omega)
          subst hoa
          obtain ⟨m, x, hmx, hm32, hx0, hx1⟩ := okp_nat (OK.out j hjl)
          have HMX : Hid (qs.getD j (0, 0) = ((m : Int), x)) := hmx
          obtain ⟨cn, cx⟩ := hcell j hjl
          rw [hmx] at cn cx
          simp only at cn cx
          obtain ⟨eB, eL⟩ := putAll_split qs j hjl
          rw [hmx] at eB eL
          simp only [Int.toNat_natCast] at eB eL
          obtain ⟨p, hp⟩ : ∃ p, Hid ((putAll (qs.take j)).length = p) := ⟨_, rfl⟩
          have hV : val bs p m = x := by
            have := val_putAll qs j hjl (OK.out j hjl)
            rw [hmx] at this
            simp only [Int.toNat_natCast] at this
            rw [← hbs.out, ← hp.out]; exact this
          rw [hp.out] at R7 eL
          have hle : p + m ≤ bs.length := by
            rw [← hbs.out, eB]; simp only [List.length_append, bitsOf_length]; rw [hp.out]; omega
          have hleft : m ≤ 8 * (pack bs).length - p := by rw [pack_length]; omega
          obtain ⟨tE, tV, tN⟩ := tk_nat (unpack (pack bs)) p hm32 hleft
          have HE : Hid (tkE (8 * (pack bs).length - p) m = 0) := tE
          have HV : Hid (tkV (unpack (pack bs)) (8 * (pack bs).length - p) p m = x) := by show _ = _; rw [tV, val_pack BB.out, hV]
          have HN : Hid (p + tkN (8 * (pack bs).length - p) m = (putAll (qs.take (j + 1))).length) := by show _ = _; rw [tN, eL]
          clear hcell eB eL hV hle hleft tE tV tN hmx hx0 hx1
          go_wp2_with fail
          refine (take_any b1 rv1 (pack bs) p m wr R7.out).mono ?_
          rintro e w9 ⟨rfl, hr9, ht9⟩
          rw [HE.out, HV.out]
          rw [HN.out] at hr9
          have R9 : Hid (Rr w9 b1 rv1 (pack bs) (putAll (qs.take (j + 1))).length) := hr9
          have K9 : Hid (Bk w9 b2 rv2 (pack (bs ++ [1])) bs.length) := K7.out.tch ht9 (fun e => blk_ne R7.out.blk K7.out.blk (by decide) e.symm) (fun i hi e => by
            obtain ⟨c, hc⟩ := block_of_owns K7.out.own hi
            exact blk_ne R7.out.blk hc (by decide) e.symm)
          have O9 : Hid (OwnsP w9 (.slice (some ⟨g, go', none⟩) qs.length oc) qs) := O7.out.tch ht9 (fun i hi e => O7.out.ne_blk R7.out.blk (by decide) hi e)
          have B9 : Hid (Below w.heap.size w w9) := B7.out.trans (ht9.below B7.out.size (fun i e => by rw [e]; exact N1.out))
          have cx9 : w9.cell? ⟨g, go' + j * 2 + 1, none⟩ = some (.int .i64 x) := by
            have := O9.out.cellsAt (by omega) j hjl
            rw [HMX.out] at this
            exact this.2
          clear hr9 ht9 R7 K7 O7 B7 cn cx
          go_wp2_with fail
          go_roundw
          case rel => exact ⟨j + 1, by omega, by go_num, R9, K9, O9, B9⟩
          case measure => simp [intOf]; omega
        · have ej : qs.take j = qs := List.take_of_length_le (by omega)
          rw [ej, hbs.out] at R7
          clear ej
          go_wp2_with fail
          go_loopw [12] (fun i wr => ∃ k : Nat, k ≤ qs.length ∧ i = .int .i64 ((k : Int) - 1) ∧ Hid (Rr wr b1 rv1 (pack bs) bs.length) ∧ Hid (Bk wr b2 rv2 (pack (bs ++ [1])) (putAll (qs.take k)).length) ∧ Hid (OwnsP wr (.slice oa qs.length oc) qs) ∧ Hid (Below w.heap.size w wr)) (fun i _ => (intOf i + 1).toNat)
          case atStart => exact ⟨qs.length, Nat.le_refl _, by go_num, R7, by rw [List.take_length, hbs.out]; exact K7, O7, B7⟩
          case round =>
            obtain ⟨i, hi, rfl, R8, K8, O8, B8⟩ := hrel
            clear R7 K7 O7 B7
            by_cases hi0 : 0 < i
            · obtain ⟨l, rfl⟩ : ∃ l, i = l + 1 := ⟨i - 1, by omega⟩
              have hll : l < qs.length := by omega
              obtain ⟨g, go', hoa, hcell⟩ := O8.out.cells (by omega)
              subst hoa
              obtain ⟨m, x, hmx, hm32, hx0, hx1⟩ := okp_nat (OK.out l hll)
              have HMX : Hid (qs.getD l (0, 0) = ((m : Int), x)) := hmx
              obtain ⟨cn, cx⟩ := hcell l hll
              rw [hmx] at cn cx
              simp only at cn cx
              obtain ⟨eB, eL⟩ := putAll_split qs l hll
              rw [hmx] at eB eL
              simp only [Int.toNat_natCast] at eB eL
              obtain ⟨p, hp⟩ : ∃ p, Hid ((putAll (qs.take l)).length = p) := ⟨_, rfl⟩
              have hV : val bs p m = x := by
                have := val_putAll qs l hll (OK.out l hll)
                rw [hmx] at this
                simp only [Int.toNat_natCast] at this
                rw [← hbs.out, ← hp.out]; exact this
              rw [hp.out] at eL
              have hle : p + m ≤ bs.length := by
                rw [← hbs.out, eB]; simp only [List.length_append, bitsOf_length]; rw [hp.out]; omega
              rw [eL] at K8
              obtain ⟨tE, _, tN⟩ := tk_nat (unpack (pack (bs ++ [1]))) 0 hm32 (show m ≤ p + m by omega)
              have HE : Hid (tkE (p + m) m = 0) := tE
              have HV : Hid (tkV (unpack (pack (bs ++ [1]))) (p + m) (p + m - tkN (p + m) m) m = x) := by
                obtain ⟨_, tV, _⟩ := tk_nat (unpack (pack (bs ++ [1]))) (p + m - tkN (p + m) m) hm32 (show m ≤ p + m by omega)
                show _ = _
                rw [tV, tN, val_pack (BB.out.snoc (.inr rfl)), show p + m - m = p by omega, val_snoc, if_neg (by omega), hV, Int.add_zero]
              have HN : Hid (p + m - tkN (p + m) m = (putAll (qs.take l)).length) := by show _ = _; rw [tN, hp.out]; omega
              have e1 : ((l + 1 : Nat) : Int) - 1 = (l : Int) := by omega
              rw [e1]
              clear hcell eB eL hV hle tE tN hmx hx0 hx1 e1
              go_wp2_with fail
              refine (backTake_any b2 rv2 (pack (bs ++ [1])) (p + m) m wr K8.out).mono ?_
              rintro e w9 ⟨rfl, hk9, ht9⟩
              rw [HE.out, HV.out]
              rw [HN.out] at hk9
              have K9 : Hid (Bk w9 b2 rv2 (pack (bs ++ [1])) (putAll (qs.take l)).length) := hk9
              have R9 : Hid (Rr w9 b1 rv1 (pack bs) bs.length) := R8.out.tch ht9 (fun e => blk_ne R8.out.blk K8.out.blk (by decide) e) (fun i hi e => by
                obtain ⟨c, hc⟩ := block_of_owns R8.out.own hi
                exact blk_ne K8.out.blk hc (by decide) e.symm)
              have O9 : Hid (OwnsP w9 (.slice (some ⟨g, go', none⟩) qs.length oc) qs) := O8.out.tch ht9 (fun i hi e => O8.out.ne_blk K8.out.blk (by decide) hi e)
              have B9 : Hid (Below w.heap.size w w9) := B8.out.trans (ht9.below B8.out.size (fun i e => by rw [e]; exact N2.out))
              have cx9 : w9.cell? ⟨g, go' + l * 2 + 1, none⟩ = some (.int .i64 x) := by
                have := O9.out.cellsAt (by omega) l hll
                rw [HMX.out] at this
                exact this.2
              clear hk9 ht9 R8 K8 O8 B8 cn cx
              go_wp2_with fail
              go_roundw
              case rel => exact ⟨l, by omega, by go_num, R9, K9, O9, B9⟩
              case measure => simp [intOf]
            · obtain rfl : i = 0 := by omega
              simp only [List.take_zero, putAll, List.length_nil] at K8
              have e1 : ((0 : Nat) : Int) - 1 = -1 := by omega
              rw [e1]
              clear e1
              go_wp2_with fail
              refine (backLeft_any b2 rv2 _ 0 wr K8.out).mono ?_
              rintro e w9 ⟨rfl, rfl⟩
              go_wp2_with fail
              refine (left_any b1 rv1 (pack bs) bs.length _ R8.out).mono ?_
              rintro e w10 ⟨rfl, q, hw10⟩
              have B10 : Hid (Below w.heap.size w w10) := by rw [hw10]; exact B8.out.trans (Below.of_drewN _ _ _)
              have hL : 8 * (pack bs).length - bs.length < 8 := by rw [pack_length]; omega
              obtain ⟨L, hLe⟩ : ∃ L : Nat, Hid (8 * (pack bs).length - bs.length = L) := ⟨_, rfl⟩
              rw [hLe.out] at hL ⊢
              clear hw10
              go_wp2_with fail
              refine (lives_any _).mono ?_
              rintro e w11 ⟨rfl, b11⟩
              have B11 : Hid (Below w.heap.size w w11) := B10.out.trans (b11.mono B10.out.size)
              clear b11
              go_wp2_with fail
              go_ret
              exact ⟨by simp, B11.out⟩
end Go.Proofs.Ytbjpeomokgchnaa
