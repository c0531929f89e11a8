/-
  A byte is taken: bits till they are a code.
-/
import Derived.Test.YtcmnhgefeffcpaaHKnown
import Derived.Test.YtcmnhgefeffcpaaTakeX
namespace Go.Proofs.Ytcmnhgefeffcpaa
open Go.RowKit Pl Go.Maps Go.WideMaps
set_option linter.unusedVariables false
set_option maxRecDepth 100000

/-- The number of t bits from place p on, the highest first. -/
def vl (bs : List Int) (p : Nat) : Nat → Int
  | 0 => 0
  | t + 1 => 2 * vl bs p t + bs.getD (p + t) 0

theorem vl_bd {bs : List Int} (h : Bits bs) (p t : Nat) : 0 ≤ vl bs p t ∧ vl bs p t < 2 ^ t := by
  induction t with
  | zero => simp [vl]
  | succ t ih =>
    simp only [vl]
    have hb := h (p + t)
    have e : (2 : Int) ^ (t + 1) = 2 * 2 ^ t := by rw [Int.pow_succ, Int.mul_comm]
    omega

/-- These t bits are the code of byte c. -/
def Hit (ls bs : List Int) (p t c : Nat) : Prop := c < 256 ∧ 0 < ls.getD c 0 ∧ cd ls c = ((t : Int), vl bs p t)

theorem or_low (V b : Int) (hV : 0 ≤ V) (hV1 : V ≤ 65536) (hb : b = 0 ∨ b = 1) : Go.bits BinOp.or IntKind.i64 (2 * V) b = 2 * V + b := by
  obtain ⟨n, rfl⟩ := Int.eq_ofNat_of_zero_le hV
  obtain ⟨d, rfl, hd⟩ : ∃ d : Nat, b = (d : Int) ∧ d ≤ 1 := by
    rcases hb with rfl | rfl
    · exact ⟨0, rfl, by omega⟩
    · exact ⟨1, rfl, by omega⟩
  have e : (2 * (n : Int)) = ((n * 2 ^ 1 : Nat) : Int) := by omega
  rw [e, (bits_nat .i64 62 (by decide) wraps_i64 _ _ (by omega) (by omega)).2, Nat.or_comm, or_shift d n 1 (by omega)]
  omega

theorem tk1 (bs : List Int) (left p : Nat) : (left = 0 → tkE left 1 = 3 ∧ tkV bs left p 1 = 0 ∧ tkN left 1 = 0) ∧ (0 < left → tkE left 1 = 0 ∧ tkV bs left p 1 = bs.getD p 0 ∧ tkN left 1 = 1) := by
  unfold tkE tkV tkN
  refine ⟨fun h => ?_, fun h => ?_⟩
  · subst h
    rw [if_neg (by omega), if_pos (by omega), if_neg (by omega), if_pos (by omega), if_neg (by omega), if_pos (by omega)]
    exact ⟨rfl, rfl, rfl⟩
  · rw [if_neg (by omega), if_neg (by omega), if_neg (by omega), if_neg (by omega), if_neg (by omega), if_neg (by omega)]
    refine ⟨rfl, ?_, rfl⟩
    show val bs p 1 = _
    simp [val, bv]

theorem KM.ne_blk {ls : List Int} {w : World} {b k g : Nat} {cs : Array Value} {t : TypeId} {fr : Nat × Nat} (h : KM ls w b k) (hg : w.heap[g]? = some (.cells cs t fr)) : b ≠ g := by
  intro e
  subst e
  obtain ⟨D, n, ⟨es, clock, h1, _⟩, _⟩ := h
  rw [h1] at hg
  cases hg

/-- The state of taking a byte. -/
structure TS (ls : List Int) (w W : World) (rb : Nat) (rv : Value) (ys : List Int) (B gc p t : Nat) : Prop where
  rr : Rr W rb rv ys (p + t)
  km : KM ls W B 256
  cc : W.heap[gc]? = some (.cells #[.int .i64 (t : Int), .int .i64 (vl (unpack ys) p t)] 84 (0, 0))
  tch : Tch (fun k => k = rb) w W
  no : ∀ s, s ≤ t → ¬ ∃ c, Hit ls (unpack ys) p s c
  gcn : w.heap.size ≤ gc

/-- What is answered: a byte whose code these bits are, or that there is none. -/
def TPost (ls : List Int) (w : World) (rb : Nat) (rv : Value) (ys : List Int) (B p : Nat) (e : Ending) (w' : World) : Prop :=
  KM ls w' B 256 ∧ Tch (fun k => k = rb) w w' ∧ ∃ q, Rr w' rb rv ys q ∧ p ≤ q ∧
    ((∃ (c t : Nat), q = p + t ∧ e = .returned (.tuple #[.int .u8 (c : Int), .int .i64 0]) ∧ Hit ls (unpack ys) p t c) ∨
      (e = .returned (.tuple #[.int .u8 0, .int .i64 3]) ∧ ∀ t, t ≤ 11 → p + t ≤ 8 * ys.length → ¬ ∃ c, Hit ls (unpack ys) p t c))

theorem zero8 (w : World) : (zeroValue 5).run Try.prog w = .ok (.int .u8 0) w := by kernel_rfl

theorem hit_pos {ls bs : List Int} {p c : Nat} : ¬ Hit ls bs p 0 c := by
  rintro ⟨_, h1, h2⟩
  unfold cd at h2
  rw [if_pos h1] at h2
  simp only [Prod.mk.injEq] at h2
  omega

set_option maxHeartbeats 4000000 in
theorem takeByte_any (ls : List Int) (rb B : Nat) (rv : Value) (ys : List Int) (p : Nat) (w : World) (hr : Rr w rb rv ys p) (hk : KM ls w B 256) :
    Calls Try.prog 49 #[.pointer (some ⟨rb, 0, none⟩), .map (some B)] w fun e w' => TPost ls w rb rv ys B p e w' := by
  have HR : Hid (Rr w rb rv ys p) := hr
  have HK : Hid (KM ls w B 256) := hk
  have hrb := hr.lt
  have hle := hr.le
  have HBT : Hid (Bits (unpack ys)) := bits_unpack ys
  clear hr hk
  go_enter Try.func49, Try.ntmps49
  go_wp2_with fail
  obtain ⟨gc, hgc⟩ : ∃ gc, w.heap.size = gc := ⟨_, rfl⟩
  have T0 : Hid (TS ls w (w.alloc (.cells #[.int .i64 0, .int .i64 0] 84)) rb rv ys B gc p 0) := by
    have hb : Below w.heap.size w (w.alloc (.cells #[.int .i64 0, .int .i64 0] 84)) := (Below.refl _ _).alloc (Nat.le_refl _) _
    refine ⟨HR.out.below hb, HK.out.tch (S := fun _ => False) (Tch.of_below hb) (fun e => e), ?_, Tch.of_below hb, fun s hs => ?_, by omega⟩
    · rw [← hgc]; exact heap_alloc_new w _
    · obtain rfl : s = 0 := by omega
      rintro ⟨c, hc⟩
      exact hit_pos hc
  rw [hgc]
  have HGC : Hid (w.heap.size = gc) := hgc
  clear hgc
  go_loopw [11] (fun i wr => ∃ t : Nat, t ≤ 11 ∧ i = .int .i64 t ∧ Hid (TS ls w wr rb rv ys B gc p t)) (fun i _ => 11 - (intOf i).toNat)
  case atStart => exact ⟨0, Nat.zero_le _, rfl, T0⟩
  case round =>
    obtain ⟨t, ht, rfl, T⟩ := hrel
    clear T0
    by_cases h11 : t < 11
    · have hi1 : (t : Int) < 11 := by omega
      by_cases hleft : p + t < 8 * ys.length
      · obtain ⟨hE, hV, hN⟩ := (tk1 (unpack ys) (8 * ys.length - (p + t)) (p + t)).2 (by omega)
        have HE : Hid (tkE (8 * ys.length - (p + t)) 1 = 0 ∧ tkV (unpack ys) (8 * ys.length - (p + t)) (p + t) 1 = (unpack ys).getD (p + t) 0 ∧ tkN (8 * ys.length - (p + t)) 1 = 1) := ⟨hE, hV, hN⟩
        clear hE hV hN
        go_wp2_with fail
        refine (take_any rb rv ys (p + t) 1 wr T.out.rr).mono ?_
        rintro e w2 ⟨rfl, hr2, ht2⟩
        rw [HE.out.1, HE.out.2.1]
        rw [HE.out.2.2] at hr2
        obtain ⟨bit, hbit⟩ : ∃ bit, Hid ((unpack ys).getD (p + t) 0 = bit) := ⟨_, rfl⟩
        have hb01 : bit = 0 ∨ bit = 1 := by rw [← hbit.out]; exact HBT.out _
        rw [hbit.out]
        obtain ⟨V, hV⟩ : ∃ V, Hid (vl (unpack ys) p t = V) := ⟨_, rfl⟩
        have hVb := vl_bd HBT.out p t
        rw [hV.out] at hVb
        have hV2 : V < 2048 := by
          have : (2 : Int) ^ t ≤ 2 ^ 11 := two_pow_le (by omega)
          have e : (2 : Int) ^ 11 = 2048 := by decide
          omega
        have hgr : gc ≠ rb := by have := HGC.out; omega
        have cc2 : w2.heap[gc]? = some (.cells #[.int .i64 (t : Int), .int .i64 V] 84 (0, 0)) := by
          rw [ht2.block gc (Array.getElem?_eq_some_iff.1 T.out.cc).1 hgr, T.out.cc, hV.out]
        have c0 : w2.cell? ⟨gc, 0, none⟩ = some (.int .i64 (t : Int)) := by rw [cell_of_row w2 gc 0 _ _ (0, 0) cc2]; rfl
        have c1 : w2.cell? ⟨gc, 1, none⟩ = some (.int .i64 V) := by rw [cell_of_row w2 gc 1 _ _ (0, 0) cc2]; rfl
        have f0 : w2.frozen? ⟨gc, 0, none⟩ = false := frozen_of_row w2 gc 0 _ _ cc2
        have f1 : w2.frozen? ⟨gc, 1, none⟩ = false := frozen_of_row w2 gc 1 _ _ cc2
        have HN : Hid (vl (unpack ys) p (t + 1) = 2 * V + bit) := by show _ = _; simp only [vl]; rw [hV.out, hbit.out]
        have hor : Go.bits BinOp.or IntKind.i64 (2 * V) bit = 2 * V + bit := or_low V bit hVb.1 (by omega) hb01
        have hor2 : Go.bits BinOp.or IntKind.i64 (V * 2) bit = 2 * V + bit := by rw [Int.mul_comm V 2]; exact hor
        have hw1 : wrap64 (V * 2 ^ 1) = 2 * V := by rw [IntWalk.wrap64_in _ ⟨by omega, by omega⟩]; omega
        have hw2 : wrap64 (V * 2) = 2 * V := by rw [IntWalk.wrap64_in _ ⟨by omega, by omega⟩]; omega
        have hbb : 0 ≤ bit ∧ bit ≤ 1 := by omega
        have K2 : KM ls w2 B 256 := T.out.km.tch ht2 (fun e => T.out.km.ne_blk T.out.rr.blk e)
        obtain ⟨D, n, hown, hn, hD, h4⟩ := K2
        have hwx : (Lit.int .i64 ((t : Int) + 1)).wf = true := by simp [Lit.wf, IntKind.min, IntKind.max, IntKind.signed, IntKind.bits]; omega
        have hwy : (Lit.int .i64 (2 * V + bit)).wf = true := by simp [Lit.wf, IntKind.min, IntKind.max, IntKind.signed, IntKind.bits]; omega
        obtain ⟨kl, hkl⟩ := key_ex ((t : Int) + 1) (2 * V + bit) hwx hwy
        have HKL : Hid (keyOf Try.prog 84 (.agg #[.int .i64 ((t : Int) + 1), .int .i64 (2 * V + bit)]) = some kl) := hkl
        obtain ⟨g1, g2⟩ := h4 _ _ kl hkl
        have HG : Hid ((Maps.has D kl = true ↔ ∃ c, c < 256 ∧ 0 < ls.getD c 0 ∧ cd ls c = ((t : Int) + 1, 2 * V + bit)) ∧ ∀ c, c < 256 → 0 < ls.getD c 0 → cd ls c = ((t : Int) + 1, 2 * V + bit) → D.atKey kl (.lit (.int .u8 0)) = .lit (.int .u8 (c : Int))) := ⟨g1, g2⟩
        have T2 : Tch (fun k => k = gc) w2 ((w2.setCell ⟨gc, 0, none⟩ (.int .i64 ((t : Int) + 1))).setCell ⟨gc, 1, none⟩ (.int .i64 (2 * V + bit))) := Tch.setCell (Tch.setCell (Tch.refl (fun k => k = gc) w2) (p := ⟨gc, 0, none⟩) (fun _ => rfl) _) (p := ⟨gc, 1, none⟩) (fun _ => rfl) _
        have HOWN : Hid (((w2.setCell ⟨gc, 0, none⟩ (.int .i64 ((t : Int) + 1))).setCell ⟨gc, 1, none⟩ (.int .i64 (2 * V + bit))).ownsMap Try.prog 84 (plainElem Try.prog 5) B n D) := by
          have hlt := hown.lt
          obtain ⟨es, clock, q1, q2⟩ := hown
          refine ⟨es, clock, ?_, q2⟩
          rw [T2.block B hlt (fun e => by rw [e, cc2] at q1; cases q1)]
          exact q1
        have HP : Hid (KM ls ((w2.setCell ⟨gc, 0, none⟩ (.int .i64 ((t : Int) + 1))).setCell ⟨gc, 1, none⟩ (.int .i64 (2 * V + bit))) B 256 ∧ Tch (fun k => k = rb) w ((w2.setCell ⟨gc, 0, none⟩ (.int .i64 ((t : Int) + 1))).setCell ⟨gc, 1, none⟩ (.int .i64 (2 * V + bit))) ∧ Rr ((w2.setCell ⟨gc, 0, none⟩ (.int .i64 ((t : Int) + 1))).setCell ⟨gc, 1, none⟩ (.int .i64 (2 * V + bit))) rb rv ys (p + (t + 1)) ∧
            ((w2.setCell ⟨gc, 0, none⟩ (.int .i64 ((t : Int) + 1))).setCell ⟨gc, 1, none⟩ (.int .i64 (2 * V + bit))).heap[gc]? = some (.cells #[.int .i64 ((t + 1 : Nat) : Int), .int .i64 (vl (unpack ys) p (t + 1))] 84 (0, 0))) := by
          refine ⟨⟨D, n, HOWN.out, hn, hD, h4⟩, ?_, ?_, ?_⟩
          · exact (T.out.tch.trans ht2 (fun _ _ e => e)).trans T2 (fun i hi e => by have := HGC.out; omega)
          · rw [show p + (t + 1) = p + t + 1 by omega]
            exact hr2.tch T2 (fun e => hgr e.symm) (fun k hk e => by
              obtain ⟨cur, hcur⟩ : ∃ cur, w2.heap[k]? = some (.cells cur 5 (0, 0)) := by
                rcases hr2.own.2 with ⟨rfl, _⟩ | ⟨g, cap, cur, rfl, _, hg, _⟩
                · cases hk
                · simp only [Value.ownBlock, Option.some.injEq] at hk; subst hk; exact ⟨cur, hg⟩
              rw [e, cc2] at hcur
              simp at hcur)
          · have q1 := heap_setCell_same w2 gc 0 _ _ (.int .i64 ((t : Int) + 1)) cc2
            have q2 := heap_setCell_same _ gc 1 _ _ (.int .i64 (2 * V + bit)) q1
            rw [q2, HN.out]
            simp
        have HNO := T.out.no
        have HNo : Hid (∀ s, s ≤ t → ¬ ∃ c, Hit ls (unpack ys) p s c) := HNO
        clear hkl g1 g2 h4 hown hD hn T2 hr2 ht2 HNO T cc2 hwx hwy
        by_cases hhit : ∃ c, Hit ls (unpack ys) p (t + 1) c
        · obtain ⟨c, hc⟩ := hhit
          have hc2 : cd ls c = ((t : Int) + 1, 2 * V + bit) := by rw [hc.2.2, HN.out]; simp
          have hhas : Maps.has D kl = true := HG.out.1.2 ⟨c, hc.1, hc.2.1, hc2⟩
          have HAT : Hid (D.atKey kl (.lit (.int .u8 0)) = .lit (.int .u8 (c : Int))) := HG.out.2 c hc.1 hc.2.1 hc2
          have HC : Hid (Hit ls (unpack ys) p (t + 1) c) := hc
          clear hc hc2
          go_wp2_with (at_lookup; refine wpList_lookup_own_ok_int _ rfl _ _ 88 rfl 84 5 .u8 keyedC Try.underlying88 Try.underlying5 (zero8 _) B n D rfl HOWN.out _ kl rfl HKL.out ?_; intro c' hat hwc)
          have ec : c' = (c : Int) := by rw [HAT.out] at hat; simp at hat; exact hat.symm
          subst ec
          clear hat hwc
          go_wp2_with fail
          go_ret2
          exact ⟨HP.out.1, HP.out.2.1, p + (t + 1), HP.out.2.2.1, by omega, .inl ⟨c, t + 1, rfl, rfl, HC.out⟩⟩
        · have hhas : Maps.has D kl = false := by
            rw [Bool.eq_false_iff]
            intro e
            obtain ⟨c, h1, h2, h3⟩ := HG.out.1.1 e
            exact hhit ⟨c, h1, h2, by rw [h3, HN.out]; simp⟩
          have TN : Hid (TS ls w ((w2.setCell ⟨gc, 0, none⟩ (.int .i64 ((t : Int) + 1))).setCell ⟨gc, 1, none⟩ (.int .i64 (2 * V + bit))) rb rv ys B gc p (t + 1)) := by
            refine ⟨HP.out.2.2.1, HP.out.1, HP.out.2.2.2, HP.out.2.1, fun s hs => ?_, by have := HGC.out; omega⟩
            by_cases e : s ≤ t
            · exact HNo.out s e
            · have : s = t + 1 := by omega
              subst this
              exact hhit
          clear hhit HP
          go_wp2_with (at_lookup; refine wpList_lookup_own_ok_int _ rfl _ _ 88 rfl 84 5 .u8 keyedC Try.underlying88 Try.underlying5 (zero8 _) B n D rfl HOWN.out _ kl rfl HKL.out ?_; intro c' hat hwc)
          clear hat hwc HOWN
          go_wp2_with fail
          go_roundw
          case rel => exact ⟨t + 1, by omega, by go_num, TN⟩
          case measure => simp [intOf]; omega
      · obtain ⟨hE, hV, hN⟩ := (tk1 (unpack ys) (8 * ys.length - (p + t)) (p + t)).1 (by omega)
        have HE : Hid (tkE (8 * ys.length - (p + t)) 1 = 3 ∧ tkV (unpack ys) (8 * ys.length - (p + t)) (p + t) 1 = 0 ∧ tkN (8 * ys.length - (p + t)) 1 = 0) := ⟨hE, hV, hN⟩
        clear hE hV hN
        go_wp2_with fail
        refine (take_any rb rv ys (p + t) 1 wr T.out.rr).mono ?_
        rintro e w2 ⟨rfl, hr2, ht2⟩
        rw [HE.out.1, HE.out.2.1]
        rw [HE.out.2.2] at hr2
        have HP : Hid (KM ls w2 B 256 ∧ Tch (fun k => k = rb) w w2 ∧ Rr w2 rb rv ys (p + t + 0)) := ⟨T.out.km.tch ht2 (fun e => T.out.km.ne_blk T.out.rr.blk e), T.out.tch.trans ht2 (fun _ _ e => e), hr2⟩
        have HNo : Hid (∀ s, s ≤ t → ¬ ∃ c, Hit ls (unpack ys) p s c) := T.out.no
        clear hr2 ht2 T
        go_wp2_with fail
        go_ret2
        exact ⟨HP.out.1, HP.out.2.1, p + t + 0, HP.out.2.2, by omega, .inr ⟨rfl, fun s h1 h2 => HNo.out s (by omega)⟩⟩
    · obtain rfl : t = 11 := by omega
      go_wp2_with fail
      go_ret2
      exact ⟨T.out.km, T.out.tch, p + 11, T.out.rr, by omega, .inr ⟨rfl, fun s h1 _ => T.out.no s h1⟩⟩
end Go.Proofs.Ytcmnhgefeffcpaa
