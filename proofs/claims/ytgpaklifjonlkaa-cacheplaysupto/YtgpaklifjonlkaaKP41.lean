import Derived.Test.YtgpaklifjonlkaaKP29
import Derived.Test.YtgpaklifjonlkaaKP40
import Derived.Test.YtgpaklifjonlkaaKP35
/-
  Both caches play alike.
-/
namespace Go.Proofs.Ytgpaklifjonlkaa
open Go.RowKit Go.Maps
set_option linter.unusedVariables false
set_option linter.unusedSimpArgs false
set_option maxRecDepth 100000

/-- Both, new. -/
theorem Dz.start {w0 w1 w2 w3 w4 : World} {c d r : Nat} {S X R : Nat → Prop} {room : Nat} (hd : Dk S w1 d (DS.new 60)) (hb1 : Below w0.heap.size w0 w1) (hs : ∀ k, S k → w0.heap.size ≤ k) (hr : Rf R w2 r (DS.new 60)) (hb2 : Below w1.heap.size w1 w2) (hR : ∀ k, R k → w1.heap.size ≤ k) (hc : Ch X w3 c d 60 (CS.new room)) (hb3 : Below w2.heap.size w2 w3) (hx : ∀ k, X k → w2.heap.size ≤ k)
    (h4 : w3.alloc (.cells #[.pointer (some ⟨r, 0, none⟩), .int .i64 (room : Int), .slice none 0 0, .slice none 0 0] 36) = w4) (hr1 : 1 ≤ room) (hr2 : room ≤ 1024) : Dz w0 w0 w4 (fun _ => False) c d w3.heap.size r (CS.new room) (DS.new 60) (CS.new room) (DS.new 60) := by
  have b4 : Below w3.heap.size w3 w4 := by rw [← h4]; exact (Below.refl _ _).alloc (Nat.le_refl _) _
  have s4 : w4.heap.size = w3.heap.size + 1 := by rw [← h4]; simp
  have b24 : Below w2.heap.size w2 w4 := hb3.trans (b4.mono hb3.size)
  have b14 : Below w1.heap.size w1 w4 := hb2.trans (b24.mono hb2.size)
  have b04 : Below w0.heap.size w0 w4 := hb1.trans (b14.mono hb1.size)
  have z1 := hb1.size
  have z2 := hb2.size
  have z3 := hb3.size
  have n0 : ∀ k, (Value.slice none 0 0).ownBlock = some k → False := fun k e => by cases e
  refine ⟨X, S, fun k => k = w3.heap.size, R, ⟨hc.tch (R := fun _ => False) (Tch.of_below b4) (fun _ _ e => e), hd.below b14, by simp [DS.new], fun k hk e => ?_⟩, ⟨⟨.slice none 0 0, .slice none 0 0, fun _ => .slice none 0 0, ?_⟩, hr.below b24, by simp [DS.new], fun k hk e => ?_⟩, ?_⟩
  · have := hx k hk; have := hd.slt k e; omega
  · exact {
      box := by rw [← h4]; exact heap_alloc_new w3 _
      dr := rdH_nil _
      cr := rdH_nil _
      bod := fun n hn => by rcases hn with e | e <;> cases e
      dq := fun k e => (n0 k e).elim
      cq := fun k e => (n0 k e).elim
      bq := fun n hn => by rcases hn with e | e <;> cases e
      rm1 := Nat.zero_le _
      rm2 := hr2
      rm3 := hr1
      dl := Nat.zero_le _
      yq := rfl
      ylt := fun k e => by omega }
  · have := hr.rlt k e; omega
  · exact {
      p0 := fun k hk => by
        rcases hk with e | e
        · have := hx k e; omega
        · exact hs k e
      q0 := fun k hk => by
        rcases hk with e | e
        · omega
        · have := hR k e; omega
      plt := fun k hk => by
        rcases hk with e | e
        · have := hc.lt k e; omega
        · have := hd.slt k e; omega
      qlt := fun k hk => by
        rcases hk with e | e
        · omega
        · have := hr.rlt k e; omega
      ap := fun k hk hq => by
        rcases hk with e | e
        · have h1 := hx k e
          have h2 := hc.lt k e
          rcases hq with h | h
          · omega
          · have := hr.rlt k h; omega
        · have h1 := hd.slt k e
          rcases hq with h | h
          · omega
          · have := hR k h; omega
      be := b04
      bz := Below.refl _ _
      z0 := b04.size
      zz := fun k hk => hk.elim }

set_option maxHeartbeats 4000000 in
theorem cachePlays_walk (room : Int) (a : Option Addr) (len cap : Nat) (xs : List Kq) (w : World) (hwr : (Lit.int .i64 room).wf = true) (hr : RdK w (.slice a len cap) xs) (hl : xs.length ≤ 1048576) (hbl : ∀ x ∈ xs, x.body.length ≤ 1048576) :
    Calls Try.prog 3 #[.int .i64 room, .slice a len cap] w fun e w' => e = .returned (.bool true) ∧ Below w.heap.size w w' := by
  have HR : Hid (RdK w (.slice a len cap) xs) := hr
  have HBL : Hid (∀ x ∈ xs, x.body.length ≤ 1048576) := hbl
  have hlen : len = xs.length := by obtain ⟨_, _, e, _⟩ := hr; simp only [Value.slice.injEq] at e; exact e.2.1
  have HNL : Hid (xs.length = len) := hlen.symm
  have hl2 : len ≤ 1048576 := by omega
  have hc9 : cap ≤ 9223372036854775807 := by obtain ⟨_, _, e, _, h, _⟩ := hr; cases e; unfold maxLen at h; exact h
  have hlc : len ≤ cap := by obtain ⟨_, _, e, h, _⟩ := hr; cases e; omega
  have HLV : Hid (∀ W, Calls Try.prog 18 #[] W fun e w' => e = .returned (.bool true) ∧ Below W.heap.size W w') := fun W => lives_anyK W
  have HN := hideP (new_ok 60 w (by decide) (by decide))
  have HNR : Hid (∀ W, Calls Try.prog 9 #[.int .i64 60] W fun e w' => ∃ r R, e = .returned (.tuple #[dp r, .int .i64 0]) ∧ Rf R w' r (DS.new 60) ∧ Below W.heap.size W w' ∧ ∀ k, R k → W.heap.size ≤ k) := fun W => refNew_ok 60 W (by decide) (by decide)
  clear hwr hr hl hlen hbl
  go_enter Try.func3, Try.ntmps3
  go_wp2_with fail
  refine HN.out.mono ?_
  rintro e w1 ⟨d, S, rfl, hd, hb1, hs⟩
  have H1 : Hid (Dk S w1 d (DS.new 60) ∧ Below w.heap.size w w1 ∧ ∀ k, S k → w.heap.size ≤ k) := ⟨hd, hb1, hs⟩
  clear hd hb1 hs HN
  go_wp2_with fail
  refine (HNR.out w1).mono ?_
  rintro e w2 ⟨r, R, rfl, hrf, hb2, hR⟩
  have H2 : Hid (Rf R w2 r (DS.new 60) ∧ Below w1.heap.size w1 w2 ∧ ∀ k, R k → w1.heap.size ≤ k) := ⟨hrf, hb2, hR⟩
  clear hrf hb2 hR HNR
  by_cases hroom : room < 1 ∨ 1024 < room
  · have HC := hideP (newK_bad d room w2 hroom)
    have HB2 : Hid (Below w.heap.size w w2) := H1.out.2.1.trans (H2.out.2.1.mono H1.out.2.1.size)
    by_cases h1 : room < 1
    · clear hroom
      go_wp2_with fail
      refine HC.out.mono ?_
      rintro e w3 ⟨rfl, rfl⟩
      clear HC H1 H2
      obtain ⟨W4, hW4⟩ : ∃ W4, w3.alloc (.cells #[.pointer (some ⟨r, 0, none⟩), .int .i64 room, .slice none 0 0, .slice none 0 0] 36) = W4 := ⟨_, rfl⟩
      have B4 : Hid (Below w.heap.size w W4) := HB2.out.trans (by rw [← hW4]; exact (Below.refl _ _).alloc HB2.out.size _)
      go_wp2_with fail
      go_loopw [12] (fun iv wr => iv = .int .i64 0 ∧ Hid (Below w.heap.size w wr)) (fun iv _ => 0)
      case atStart => exact ⟨rfl, B4⟩
      case round =>
        obtain ⟨rfl, BR⟩ := hrel
        clear B4 hW4
        by_cases hlt : 0 < len
        · have hki : (0 : Int) < (len : Int) := by omega
          go_wp2_with fail
          refine (HLV.out _).mono ?_
          rintro e wA ⟨rfl, hbA⟩
          have BA : Hid (Below w.heap.size w wA) := BR.out.trans (hbA.mono BR.out.size)
          clear hbA
          go_wp2_with fail
          go_ret
          exact ⟨rfl, BA.out⟩
        · have hl0 : len = 0 := by omega
          subst hl0
          go_wp2_with fail
          refine (HLV.out _).mono ?_
          rintro e wA ⟨rfl, hbA⟩
          have BA : Hid (Below w.heap.size w wA) := BR.out.trans (hbA.mono BR.out.size)
          clear hbA
          go_wp2_with fail
          go_ret
          exact ⟨rfl, BA.out⟩
    · have h2 : room > 1024 := by omega
      have h3 : decide (room < 1) = false := by rw [decide_eq_false_iff_not]; exact h1
      clear hroom
      go_wp2_with fail
      refine HC.out.mono ?_
      rintro e w3 ⟨rfl, rfl⟩
      clear HC H1 H2
      obtain ⟨W4, hW4⟩ : ∃ W4, w3.alloc (.cells #[.pointer (some ⟨r, 0, none⟩), .int .i64 room, .slice none 0 0, .slice none 0 0] 36) = W4 := ⟨_, rfl⟩
      have B4 : Hid (Below w.heap.size w W4) := HB2.out.trans (by rw [← hW4]; exact (Below.refl _ _).alloc HB2.out.size _)
      go_wp2_with fail
      go_loopw [12] (fun iv wr => iv = .int .i64 0 ∧ Hid (Below w.heap.size w wr)) (fun iv _ => 0)
      case atStart => exact ⟨rfl, B4⟩
      case round =>
        obtain ⟨rfl, BR⟩ := hrel
        clear B4 hW4
        by_cases hlt : 0 < len
        · have hki : (0 : Int) < (len : Int) := by omega
          go_wp2_with fail
          refine (HLV.out _).mono ?_
          rintro e wA ⟨rfl, hbA⟩
          have BA : Hid (Below w.heap.size w wA) := BR.out.trans (hbA.mono BR.out.size)
          clear hbA
          go_wp2_with fail
          go_ret
          exact ⟨rfl, BA.out⟩
        · have hl0 : len = 0 := by omega
          subst hl0
          go_wp2_with fail
          refine (HLV.out _).mono ?_
          rintro e wA ⟨rfl, hbA⟩
          have BA : Hid (Below w.heap.size w wA) := BR.out.trans (hbA.mono BR.out.size)
          clear hbA
          go_wp2_with fail
          go_ret
          exact ⟨rfl, BA.out⟩
  · have hR1 : 1 ≤ room ∧ room ≤ 1024 := by omega
    obtain ⟨R0, rfl⟩ : ∃ R0 : Nat, room = (R0 : Int) := ⟨room.toNat, by omega⟩
    have hR2 : 1 ≤ R0 := by omega
    have hR3 : R0 ≤ 1024 := by omega
    have f1 : decide ((R0 : Int) < 1) = false := by rw [decide_eq_false_iff_not]; omega
    have f2 : decide ((R0 : Int) > 1024) = false := by rw [decide_eq_false_iff_not]; omega
    have f3 : decide (1024 < (R0 : Int)) = false := by rw [decide_eq_false_iff_not]; omega
    have f4 : decide (1024 < R0) = false := by rw [decide_eq_false_iff_not]; omega
    have f5 : decide (R0 < 1) = false := by rw [decide_eq_false_iff_not]; omega
    have HC := hideP (newK_ok d 60 R0 w2 hR2 hR3 (by decide))
    clear hroom hR1
    go_wp2_with fail
    refine HC.out.mono ?_
    rintro e w3 ⟨c, X, rfl, hc, hb3, hx⟩
    obtain ⟨W4, hW4⟩ : ∃ W4, w3.alloc (.cells #[.pointer (some ⟨r, 0, none⟩), .int .i64 (R0 : Int), .slice none 0 0, .slice none 0 0] 36) = W4 := ⟨_, rfl⟩
    obtain ⟨q, hq⟩ : ∃ q, w3.heap.size = q := ⟨_, rfl⟩
    have P4 : Hid (Dz w w W4 (fun _ => False) c d q r (CS.new R0) (DS.new 60) (CS.new R0) (DS.new 60)) := by
      rw [← hq]
      exact Dz.start H1.out.1 H1.out.2.1 H1.out.2.2 H2.out.1 H2.out.2.1 H2.out.2.2 hc hb3 hx hW4 hR2 hR3
    clear hc hb3 hx HC H1 H2
    go_wp2_with fail
    have HQ : Hid (w3.heap.size = q) := hq
    go_loopw [12] (fun iv wr => ∃ (k : Nat) (s : CS) (D : DS), k ≤ len ∧ iv = .int .i64 k ∧ Hid (Few D k) ∧ Hid (Dz w w wr (fun _ => False) c d q r s D s D)) (fun iv _ => len - (intOf iv).toNat)
    case atStart => exact ⟨0, _, _, Nat.zero_le _, rfl, few_new 0, P4⟩
    case round =>
      obtain ⟨k, s0, D0, hk, rfl, HFW, P⟩ := hrel
      clear P4 hq hW4
      by_cases hlt : k < len
      · have hki : (k : Int) < (len : Int) := by omega
        obtain ⟨x, hx⟩ : ∃ x, xs[k]? = some x := ⟨_, List.getElem?_eq_getElem (by rw [HNL.out]; exact hlt)⟩
        obtain ⟨lb, lo, rfl, XC, XO⟩ := HR.out.at_ P.out.below0 hx
        have hxl := HBL.out x (List.mem_of_getElem? hx)
        obtain ⟨kind, xn, bk, bv, body, pv, ps⟩ := x
        have c0 := XC.c0
        have c1 := XC.c1
        have c2 := XC.c2
        have c3 := XC.c3
        have c4 := XC.c4
        dsimp only at c0 c1 c2 c3 c4
        have HDO := hideP (does_any kind xn bk bv pv body ps wr P.out HFW.out (by omega) XO hxl)
        obtain ⟨da, dl, dc, rfl⟩ : ∃ a m cap, bv = .slice a m cap := by obtain ⟨a, c, e, _⟩ := XO.rd; exact ⟨_, _, _, e⟩
        obtain ⟨pa, pl, pc, rfl⟩ : ∃ a m cap, pv = .slice a m cap := by obtain ⟨a, c, e, _⟩ := XO.rp; exact ⟨_, _, _, e⟩
        clear XC XO hx hxl
        go_wp2_with fail
        refine HDO.out.mono ?_
        rintro e w5 ⟨rfl, s, D, p5, f5'⟩
        have P5 := hideP p5
        have HF5 := hideP f5'
        clear p5 f5' HDO c0 c1 c2 c3 c4 P HFW
        have HVV : Hid (∀ i, (D.V i).length < 274877906944) := fun i => by have := HF5.out i; omega
        obtain ⟨da, dm, dc, ca, cm, cc, l2, l3, hls⟩ := P5.out.lists
        have HLS := hideP hls
        have k10 : w5.drew.cell? ⟨q, 2, none⟩ = some (.slice da dm dc) := l2
        have HDY := hideP (dirtyDz P5.out.drew1)
        clear hls l2 l3
        go_wp2_with fail
        go_region_held3 (fun w' => w'.cell? ⟨q, 2, none⟩ = some (.slice da dm dc)) (first | exact k10 | exact k11 | exact k12 | exact k13 | go_keep)
          (first
            | (go_at_call 13; refine HDY.out.mono ?_; rintro e w1a ⟨va, rfl, ra, ba⟩; have BA : Hid (Below w5.heap.size w5 w1a) := (Below.refl _ _).drew.trans ba; have RA := hideP ra; have k11 := (HLS.out w1a BA.out).1; clear ra ba)
            | (go_at_call 14; refine (HLS.out w1a BA.out).2.2.1.mono ?_; rintro e w1b ⟨vb, rfl, rb, bb⟩; have BB : Hid (Below w5.heap.size w5 w1b) := BA.out.trans (bb.mono BA.out.size); have HNM := hideP (numbersK_any va vb _ w1b (RA.out.below bb) rb); have k12 := (HLS.out w1b BB.out).1; clear rb bb)
            | (go_at_call 12; refine HNM.out.mono ?_; rintro e w6 ⟨rfl, bc⟩; have BC : Hid (Below w5.heap.size w5 w6) := BB.out.trans (bc.mono BB.out.size); have k13 := (HLS.out w6 BC.out).1; clear bc))
        have P6 : Hid (Dz w w w6 (fun _ => False) c d q r s D s D) := P5.out.below BC.out
        rename_i hHeld
        clear hHeld HLS k10 k11 k12 k13 HDY HNM RA BA BB BC P5
        obtain ⟨da, dm, dc, ca, cm, cc, l2, l3, hls⟩ := P6.out.lists
        have HLS := hideP hls
        have k20 : w6.drew.cell? ⟨q, 3, none⟩ = some (.slice ca cm cc) := l3
        have HDY := hideP (cleanDz P6.out.drew1)
        clear hls l2 l3
        go_wp2_with fail
        go_region_held3 (fun w' => w'.cell? ⟨q, 3, none⟩ = some (.slice ca cm cc)) (first | exact k20 | exact k21 | exact k22 | exact k23 | go_keep)
          (first
            | (go_at_call 15; refine HDY.out.mono ?_; rintro e w2a ⟨va, rfl, ra, ba⟩; have BA : Hid (Below w6.heap.size w6 w2a) := (Below.refl _ _).drew.trans ba; have RA := hideP ra; have k21 := (HLS.out w2a BA.out).2.1; clear ra ba)
            | (go_at_call 14; refine (HLS.out w2a BA.out).2.2.2.mono ?_; rintro e w2b ⟨vb, rfl, rb, bb⟩; have BB : Hid (Below w6.heap.size w6 w2b) := BA.out.trans (bb.mono BA.out.size); have HNM := hideP (numbersK_any va vb _ w2b (RA.out.below bb) rb); have k22 := (HLS.out w2b BB.out).2.1; clear rb bb)
            | (go_at_call 12; refine HNM.out.mono ?_; rintro e w7 ⟨rfl, bc⟩; have BC : Hid (Below w6.heap.size w6 w7) := BB.out.trans (bc.mono BB.out.size); have k23 := (HLS.out w7 BC.out).2.1; clear bc))
        have P7 : Hid (Dz w w w7 (fun _ => False) c d q r s D s D) := P6.out.below BC.out
        rename_i hHeld
        clear hHeld HLS k20 k21 k22 k23 HDY HNM RA BA BB BC P6
        have HD7 := hideP (ddirtyDz P7.out)
        go_wp2_with fail
        refine HD7.out.mono ?_
        rintro e w8 ⟨v8, rfl, r8, b8⟩
        have R8 := hideP r8
        have P8 := hideP (P7.out.below b8)
        have HD8 := hideP (rddirtyDz P8.out HVV.out)
        clear r8 b8 HD7 P7
        go_wp2_with fail
        refine HD8.out.mono ?_
        rintro e w9 ⟨v9, rfl, r9, b9⟩
        have HNM := hideP (numbersK_any v8 v9 _ w9 (R8.out.below b9) r9)
        have P9 := hideP (P8.out.below b9)
        clear r9 b9 HD8 P8 R8
        go_wp2_with fail
        refine HNM.out.mono ?_
        rintro e w10 ⟨rfl, b10⟩
        have P10 := hideP (P9.out.below b10)
        clear b10 HNM P9
        go_wp2_with fail
        go_roundw
        case rel => exact ⟨k + 1, _, _, by omega, by first | rfl | go_num, HF5, P10⟩
        case measure => simp [intOf]; omega
      · have hki : ¬ (k : Int) < (len : Int) := by omega
        have hkd : decide (k < len) = false := by simp; omega
        go_wp2_with fail
        refine (HLV.out _).mono ?_
        rintro e wA ⟨rfl, hbA⟩
        have BA : Hid (Below w.heap.size w wA) := P.out.below0.trans (hbA.mono P.out.below0.size)
        clear hbA
        go_wp2_with fail
        go_ret
        exact ⟨rfl, BA.out⟩
end Go.Proofs.Ytgpaklifjonlkaa
