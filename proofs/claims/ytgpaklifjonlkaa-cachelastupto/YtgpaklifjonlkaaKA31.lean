import Derived.Test.YtgpaklifjonlkaaKA29
import Derived.Test.YtgpaklifjonlkaaKA26
import Derived.Test.YtgpaklifjonlkaaKA04
import Derived.Test.YtgpaklifjonlkaaKA30
import Derived.Test.YtgpaklifjonlkaaKA09
/-
  A block is read as it was put last.
-/
namespace Go.Proofs.Ytgpaklifjonlkaa
open Go.RowKit Go.Maps
set_option linter.unusedVariables false
set_option linter.unusedSimpArgs false
set_option maxRecDepth 100000

/-- Each of the ten is as it was put last. -/
def LstI (w : World) (s : CS) (D : DS) (F : Nat → Int × Value) (Y : Nat → List Int) : Prop := ∀ i, i < 10 → Rd .u8 w (F i).2 (Y i) ∧ Lst s D (50 + i) ((F i).1, Y i)
theorem lstI_new (w : World) (R : Nat) : LstI w (CS.new R) (DS.new 60) (fun _ => (0, .slice none 0 0)) (fun _ => []) := fun i hi => ⟨(owns_nil .u8 5 w).rd, .inl ⟨rfl, by simp [CS.new], by simp [CS.new], new_hasK (by omega)⟩⟩

set_option maxHeartbeats 4000000 in
theorem cacheLast_walk (room : Int) (a : Option Addr) (len cap : Nat) (xs : List Kq) (w : World) (hwr : (Lit.int .i64 room).wf = true) (hr : RdK w (.slice a len cap) xs) (hl : xs.length ≤ 1048576) :
    Calls Try.prog 4 #[.int .i64 room, .slice a len cap] w fun e w' => e = .returned (.bool true) ∧ Below w.heap.size w w' := by
  have HR : Hid (RdK w (.slice a len cap) xs) := hr
  have hlen : len = xs.length := by obtain ⟨_, _, e, _⟩ := hr; simp only [Value.slice.injEq] at e; exact e.2.1
  have HNL : Hid (xs.length = len) := hlen.symm
  have hl2 : len ≤ 1048576 := by omega
  have hc9 : cap ≤ 9223372036854775807 := by obtain ⟨_, _, e, _, h, _⟩ := hr; cases e; unfold maxLen at h; exact h
  have hlc : len ≤ cap := by obtain ⟨_, _, e, h, _⟩ := hr; cases e; omega
  have HLV : Hid (∀ W, Calls Try.prog 18 #[] W fun e w' => e = .returned (.bool true) ∧ Below W.heap.size W w') := fun W => lives_anyK W
  have HN := hideP (new_ok 60 w (by decide) (by decide))
  have HPR : Hid (∀ W, Calls Try.prog 19 #[.int .i64 room, .int .i64 12] W fun e w' => e = .returned (.int .i64 (pk room 12 : Int)) ∧ w' = W) := fun W => pickK_any room 12 (by decide) (by decide) hwr W
  obtain ⟨p, hp⟩ : ∃ p, Hid (pk room 12 = p) := ⟨_, rfl⟩
  have hp6 : p < 12 := by rw [← hp.out]; exact pk_lt room (by decide)
  rw [hp.out] at HPR
  obtain ⟨R, hR⟩ : ∃ R : Nat, 1 + (p : Int) = (R : Int) := ⟨p + 1, by omega⟩
  have hR1 : R ≤ 12 := by omega
  have hR2 : 1 ≤ R := by omega
  clear hwr hr hl hlen
  go_enter Try.func4, Try.ntmps4
  go_wp2_with fail
  refine HN.out.mono ?_
  rintro e w1 ⟨d, S, rfl, hd, hb1, hs⟩
  have H1 : Hid (Dk S w1 d (DS.new 60) ∧ Below w.heap.size w w1 ∧ ∀ k, S k → w.heap.size ≤ k) := ⟨hd, hb1, hs⟩
  clear hd hb1 hs HN
  go_wp2_with fail
  refine (HPR.out _).mono ?_
  rintro e w1 ⟨rfl, rfl⟩
  have HC := hideP (newK_ok d 60 R w1 hR2 (by omega) (by decide))
  clear HPR
  go_wp2_with fail
  refine HC.out.mono ?_
  rintro e w2 ⟨c, X, rfl, hc, hb2, hx⟩
  have P2 : Hid (Pz w w w2 (fun _ => False) c d (CS.new R) (DS.new 60)) := Pz.start H1.out.1 H1.out.2.1 H1.out.2.2 hc hb2 hx
  clear hc hb2 hx HC H1
  obtain ⟨W3, hW3⟩ : ∃ W3, w2.alloc (.cells (lcs (fun _ => (0, .slice none 0 0))).toArray 50) = W3 := ⟨_, rfl⟩
  obtain ⟨g, hg⟩ : ∃ g, w2.heap.size = g := ⟨_, rfl⟩
  have L3 : Hid (Lv W3 g (fun _ => (0, .slice none 0 0))) := by rw [← hW3, ← hg]; exact heap_alloc_new w2 _
  have hW3' : w2.alloc (.cells #[.int .i64 0, .slice none 0 0, .int .i64 0, .slice none 0 0, .int .i64 0, .slice none 0 0, .int .i64 0, .slice none 0 0, .int .i64 0, .slice none 0 0, .int .i64 0, .slice none 0 0, .int .i64 0, .slice none 0 0, .int .i64 0, .slice none 0 0, .int .i64 0, .slice none 0 0, .int .i64 0, .slice none 0 0] 50) = W3 := hW3
  have HGW : Hid (w.heap.size ≤ g ∧ g < W3.heap.size) := ⟨by rw [← hg]; exact P2.out.below0.size, L3.out.lt⟩
  have P3 : Hid (Pz w W3 W3 (fun k => False ∨ k = g) c d (CS.new R) (DS.new 60)) := P2.out.enter (by rw [← hW3]; exact (Below.refl _ _).alloc (Nat.le_refl _) _) (fun k => k = g) (fun k hk => by rw [hk, ← hg]; exact ⟨Nat.le_refl _, by rw [← hW3]; simp⟩)
  clear P2 hW3
  go_wp2_with fail
  go_loopw [10] (fun iv wr => ∃ (k : Nat) (s : CS) (D : DS) (F : Nat → Int × Value) (Y : Nat → List Int), k ≤ len ∧ iv = .int .i64 k ∧ Hid (Few D k ∧ D.c = false) ∧ Hid (Lv wr g F) ∧ Hid (LstI w s D F Y) ∧ Hid (Pz w wr wr (fun k => False ∨ k = g) c d s D)) (fun iv _ => len - (intOf iv).toNat)
  case atStart => exact ⟨0, _, _, _, fun _ => [], Nat.zero_le _, rfl, ⟨few_new 0, rfl⟩, L3, lstI_new w R, P3⟩
  case round =>
    obtain ⟨k, s, D, F, Y, hk, rfl, HFW, HLV0, HLI, P⟩ := hrel
    clear P3 L3
    by_cases hlt : k < len
    · have hki : (k : Int) < (len : Int) := by omega
      obtain ⟨x, hx⟩ : ∃ x, xs[k]? = some x := ⟨_, List.getElem?_eq_getElem (by rw [HNL.out]; exact hlt)⟩
      obtain ⟨lb, lo, rfl, XC, XO⟩ := HR.out.at_ P.out.below0 hx
      obtain ⟨kind, xn, bk, bv, body, pv, ps⟩ := x
      have c0 := XC.c0
      have c1 := XC.c1
      have c2 := XC.c2
      have c3 := XC.c3
      have c4 := XC.c4
      dsimp only at c0 c1 c2 c3 c4
      have HRD : Hid (Rd .u8 w bv body) := XO.rd
      have HBD : Hid (By body) := XO.by_
      have HWK : Hid ((Lit.int .i64 kind).wf = true) := XO.wk
      have XON := XO.wn
      obtain ⟨da, dl, dc, rfl⟩ : ∃ a m cap, bv = .slice a m cap := by obtain ⟨a, c, e, _⟩ := XO.rd; exact ⟨_, _, _, e⟩
      obtain ⟨pa, pl, pc, rfl⟩ : ∃ a m cap, pv = .slice a m cap := by obtain ⟨a, c, e, _⟩ := XO.rp; exact ⟨_, _, _, e⟩
      clear XC XO hx
      obtain ⟨W1, hW1⟩ : ∃ W1, wr.alloc (.cells #[.int .i64 kind, .int .i64 xn, .int .i64 bk, .slice da dl dc, .slice pa pl pc] 43) = W1 := ⟨_, rfl⟩
      have b01 : Below wr.heap.size wr W1 := by rw [← hW1]; exact (Below.refl _ _).alloc (Nat.le_refl _) _
      have P1 : Hid (Pz w wr W1 (fun k => False ∨ k = g) c d s D) := P.out.below b01
      have BX : Hid (Box W1 wr.heap.size #[.int .i64 kind, .int .i64 xn, .int .i64 bk, .slice da dl dc, .slice pa pl pc] 43) := by rw [← hW1]; exact box_new wr _ _
      have R1 : Hid (Rd .u8 W1 (.slice da dl dc) body) := HRD.out.below P1.out.below0
      have L1 : Hid (Lv W1 g F) := HLV0.out.below b01
      have PQ : Hid (Pz w W1 W1 (fun k => False ∨ k = g ∨ k = wr.heap.size) c d s D) := (P.out.enter b01 (fun k => k = wr.heap.size) (fun k hk => by rw [hk]; exact ⟨Nat.le_refl _, by rw [← hW1]; simp⟩)).less (fun k hk => by rcases hk with e | e | e; (· exact .inl (.inl e)); (· exact .inl (.inr e)); (· exact .inr e))
      have HWN : Hid ((Lit.int .i64 xn).wf = true) := XON
      have HPN := hideP (pickK_any xn 10 (by decide) (by decide) HWN.out W1)
      obtain ⟨nn, hnn⟩ : ∃ p, Hid (pk xn 10 = p) := ⟨_, rfl⟩
      have hn10 : nn < 10 := by rw [← hnn.out]; exact pk_lt xn (by decide)
      rw [hnn.out] at HPN
      obtain ⟨M, hM⟩ : ∃ M : Nat, 50 + (nn : Int) = (M : Int) := ⟨50 + nn, by omega⟩
      have HM : Hid (M = 50 + nn) := by show _ = _; omega
      have hM60 : (M : Int) < 60 := by omega
      have HPK := hideP (pickK_any kind 3 (by decide) (by decide) HWK.out W1)
      obtain ⟨pp, hpp⟩ : ∃ p, Hid (pk kind 3 = p) := ⟨_, rfl⟩
      have hp3 : pp < 3 := by rw [← hpp.out]; exact pk_lt kind (by decide)
      rw [hpp.out] at HPK
      have q0 := BX.out.cell 0
      have q1 := BX.out.cell 1
      have q2 := BX.out.cell 2
      have q3 := BX.out.cell 3
      have q4 := BX.out.cell 4
      simp only [List.getElem?_toArray, List.getElem?_cons_zero, List.getElem?_cons_succ] at q0 q1 q2 q3 q4
      have HOP : Hid (∀ j, (Value.slice da dl dc).ownBlock = some j → body ≠ [] → j < w.heap.size ∨ (False ∨ j = g)) := fun j hj h0 => .inl (HRD.out.blk_lt h0 hj)
      clear b01 hpp hnn XON
      go_wp2_with fail
      refine HPN.out.mono ?_
      rintro e W1' ⟨rfl, rfl⟩
      clear HPN hW1 c0 c1 c2 c3 c4
      go_wp2_with fail
      refine HPK.out.mono ?_
      rintro e W1'' ⟨rfl, rfl⟩
      clear HPK
      have hcase : pp = 0 ∨ pp = 1 ∨ pp = 2 := by omega
      rcases hcase with rfl | rfl | rfl
      · skip
        obtain ⟨s3, D3, F3, Y3, LI3, P3, L3, FW3⟩ : ∃ s3 D3 F3 Y3, LstI w s3 D3 F3 Y3 ∧ Hid (Pz w wr W1'' (fun k => False ∨ k = g) c d s3 D3) ∧ Hid (Lv W1'' g F3) ∧ Hid (Few D3 (k + 1) ∧ D3.c = false) := ⟨s, D, F, Y, HLI.out, P1, L1, ⟨HFW.out.1.more, HFW.out.2⟩⟩
        clear HLI P1 L1 HFW P HLV0
        have FZ : Hid (LstI w s3 D3 F3 Y3) := LI3
        have HG := hideP (getP P3.out.now (M : Int))
        have HTE : Hid ((((F3 nn).1 = 0 ∧ s3.getE D3 (M : Int) = 6) ∨ (0 < (F3 nn).1 ∧ s3.getE D3 (M : Int) = 0 ∧ s3.getB D3 (M : Int) = ((F3 nn).1, Y3 nn)))) := by
          have h1 := (FZ.out nn hn10).2
          rw [← HM.out] at h1
          exact h1.tells (by omega) P3.out.len
        have LI5 : Hid (LstI w (s3.getS D3 (M : Int)) D3 F3 Y3) := fun i hi => ⟨(FZ.out i hi).1, (FZ.out i hi).2.get (by omega) P3.out.len⟩
        obtain ⟨ec, hec⟩ : ∃ ec, s3.getE D3 (M : Int) = ec := ⟨_, rfl⟩
        obtain ⟨s5, hs5⟩ : ∃ s5, s3.getS D3 (M : Int) = s5 := ⟨_, rfl⟩
        obtain ⟨⟨kB, yB⟩, hB⟩ : ∃ x, s3.getB D3 (M : Int) = x := ⟨_, rfl⟩
        rw [hec, hs5, hB] at HG
        rw [hec, hB] at HTE
        rw [hs5] at LI5
        clear hec hs5 hB q0 q1 q2 q3 q4 BX R1 HRD HOP LI3 FZ
        go_wp2_with fail
        refine HG.out.mono ?_
        rintro e w4 ⟨u, rfl, hn4, p4, _⟩
        have L4 : Hid (Lv w4 g F3) := L3.out.of (p4.keep (.inr rfl))
        have P4 : Hid (Pz w w4 w4 (fun k => False ∨ k = g) c d s5 D3) := p4.now
        have U4 : Hid (Rd .u8 w4 u yB) := hn4.rd
        obtain ⟨ua, um, uc, rfl⟩ : ∃ a m cap, u = .slice a m cap := by obtain ⟨a, c, e, _⟩ := hn4.rd; exact ⟨_, _, _, e⟩
        obtain ⟨kF, hkF⟩ : ∃ kF, (F3 nn).1 = kF := ⟨_, rfl⟩
        obtain ⟨vF, hvF⟩ : ∃ vF, (F3 nn).2 = vF := ⟨_, rfl⟩
        obtain ⟨yF, hyF⟩ : ∃ yF, Y3 nn = yF := ⟨_, rfl⟩
        have VF : Hid (Rd .u8 w vF yF) := by have := (LI5.out nn hn10).1; rw [hvF, hyF] at this; exact this
        rw [hkF, hyF] at HTE
        obtain ⟨fa, fm, fc, rfl⟩ : ∃ a m cap, vF = .slice a m cap := by obtain ⟨a, c, e, _⟩ := VF.out; exact ⟨_, _, _, e⟩
        obtain ⟨W5, hW5⟩ : ∃ W5, w4.alloc (.cells #[.int .i64 kB, .slice ua um uc] 40) = W5 := ⟨_, rfl⟩
        have b45 : Below w4.heap.size w4 W5 := by rw [← hW5]; exact (Below.refl _ _).alloc (Nat.le_refl _) _
        have P5 : Hid (Pz w w4 W5 (fun k => False ∨ k = g) c d s5 D3) := P4.out.below b45
        have L5 : Hid (Lv W5 g F3) := L4.out.below b45
        have Q5 : Hid (Bkv W5 w4.heap.size kB (.slice ua um uc)) := by rw [← hW5]; exact bkv_new w4 _ _
        have e0 := L5.out.c0 hn10
        have e1 := L5.out.c1 hn10
        rw [hkF] at e0
        rw [hvF] at e1
        have z0 := Q5.out.c0
        have z1 := Q5.out.c1
        have HSM := hideP (same2_any kB kF (.slice ua um uc) (.slice fa fm fc) yB yF W5.drew ((U4.out.below b45).below (Below.refl _ _).drew) (VF.out.below (P5.out.below0.drew)))
        have HST : Hid (∀ W6, Below W5.drew.heap.size W5.drew W6 → ((W6.cell? ⟨w4.heap.size, 0, none⟩ = some (.int .i64 kB) ∧ W6.cell? ⟨w4.heap.size, 1, none⟩ = some (.slice ua um uc)) ∧ (W6.cell? ⟨g, nn * 2, none⟩ = some (.int .i64 kF) ∧ W6.cell? ⟨g, nn * 2 + 1, none⟩ = some (.slice fa fm fc))) ∧ Hid (Lv W6 g F3) ∧ Hid (Pz w W6 W6 (fun k => False ∨ k = g) c d s5 D3)) := fun W6 hb => by
          have hb' : Below W5.heap.size W5 W6 := (Below.refl _ _).drew.trans hb
          have q := Q5.out.below hb'
          have l := L5.out.below hb'
          refine ⟨⟨⟨q.c0, q.c1⟩, ?_, ?_⟩, l, (P5.out.below hb').now⟩
          · have := l.c0 hn10; rw [hkF] at this; exact this
          · have := l.c1 hn10; rw [hvF] at this; exact this
        have hS5 : (W5.drew.cell? ⟨w4.heap.size, 0, none⟩ = some (.int .i64 kB) ∧ W5.drew.cell? ⟨w4.heap.size, 1, none⟩ = some (.slice ua um uc)) ∧ (W5.drew.cell? ⟨g, nn * 2, none⟩ = some (.int .i64 kF) ∧ W5.drew.cell? ⟨g, nn * 2 + 1, none⟩ = some (.slice fa fm fc)) := ⟨⟨z0, z1⟩, e0, e1⟩
        obtain ⟨sm, hsm⟩ : ∃ sm, (decide (kB = kF) && decide (yB = yF)) = sm := ⟨_, rfl⟩
        rw [hsm] at HSM
        have HSM2 : Hid ((decide (kB = kF) && decide (yB = yF)) = sm) := hsm
        unfold blk at HSM ⊢
        clear hn4 p4 b45 HG P3 L3 P4 L4 U4 hkF hvF hyF P5 L5 Q5 hsm
        have hnn2 : (nn : Int) < 10 := by omega
        have hnn0 : (0 : Int) ≤ (nn : Int) := by omega
        go_wp2_with fail
        go_region_held3 (fun w' => (w'.cell? ⟨w4.heap.size, 0, none⟩ = some (.int .i64 kB) ∧ w'.cell? ⟨w4.heap.size, 1, none⟩ = some (.slice ua um uc)) ∧ (w'.cell? ⟨g, nn * 2, none⟩ = some (.int .i64 kF) ∧ w'.cell? ⟨g, nn * 2 + 1, none⟩ = some (.slice fa fm fc))) (first | go_keep | exact hS6)
          (first
            | (go_at_call 23; refine HSM.out.mono ?_; rintro e W6 ⟨rfl, hB6⟩; obtain ⟨hS6, L6, P6⟩ := HST.out W6 hB6; clear hB6))
        clear HST HSM hS5
        obtain ⟨_, f0, f1⟩ := hS6
        rcases HTE.out with ⟨hk0, he⟩ | ⟨hk0, he, hbx⟩
        · subst hk0
          rw [he]
          clear he HTE e0 e1 z0 z1
          go_wp2_with fail
          all_goals exact ⟨⟨k + 1, _, _, _, _, by omega, by first | rfl | go_num, FW3, L6, LI5, P6⟩, by simp [intOf]; omega⟩
        · have hs1 : sm = true := by
            rw [← HSM2.out]
            simp only [Prod.mk.injEq] at hbx
            rw [decide_eq_true hbx.1, decide_eq_true hbx.2]
            rfl
          rw [hs1, he]
          have hk1 : (kF == 0) = false := by rw [beq_eq_false_iff_ne]; omega
          clear hs1 he hbx HTE e0 e1 z0 z1 HSM2
          go_wp2_with fail
          all_goals exact ⟨⟨k + 1, _, _, _, _, by omega, by first | rfl | go_num, FW3, L6, LI5, P6⟩, by simp [intOf]; omega⟩
      · skip
        obtain ⟨pe, hpe⟩ : ∃ pe, s.putE 60 (M : Int) bk body = pe := ⟨_, rfl⟩
        have HG := hideP (putP PQ.out (M : Int) bk (.slice da dl dc) body R1.out HBD.out (fun j hj h0 => .inl (HRD.out.blk_lt h0 hj)))
        rw [hpe] at HG
        unfold blk at HG
        go_wp2_with fail
        refine HG.out.mono ?_
        rintro e w3 ⟨rfl, p3⟩
        have P3 : Hid (Pz w w3 w3 (fun k => False ∨ k = g) c d (s.putS 60 (M : Int) bk body) D) := (p3.less (fun k hk => hk.imp id .inl)).now
        have LZ : Hid (Lv w3 g F) := L1.out.of (p3.keep (.inr (.inl rfl)))
        have BX3 : Hid (Box w3 wr.heap.size #[.int .i64 kind, .int .i64 xn, .int .i64 bk, .slice da dl dc, .slice pa pl pc] 43) := by unfold Box; rw [p3.keep (.inr (.inr rfl))]; exact BX.out
        have y2 := BX3.out.cell 2
        have y3 := BX3.out.cell 3
        simp only [List.getElem?_toArray, List.getElem?_cons_zero, List.getElem?_cons_succ] at y2 y3
        clear HG p3
        by_cases h0 : pe = 0
        · subst h0
          have f0 := LZ.out.fz (nn * 2)
          have f1 := LZ.out.fz (nn * 2 + 1)
          have l0 := LZ.out.c0 hn10
          have l1 := LZ.out.c1 hn10
          obtain ⟨W4, hW4⟩ : ∃ W4, (w3.setCell ⟨g, nn * 2, none⟩ (.int .i64 bk)).setCell ⟨g, nn * 2 + 1, none⟩ (.slice da dl dc) = W4 := ⟨_, rfl⟩
          have T4 : Tch (fun k => k = g) w3 W4 := by rw [← hW4]; exact (tch_set w3 _ _ _).trans (tch_set _ _ _ _) (fun _ _ e => e)
          obtain ⟨s3, D3, F3, Y3, LI3, PW, LW, FW3⟩ : ∃ s3 D3 F3 Y3, LstI w s3 D3 F3 Y3 ∧ Hid (Pz w W4 W4 (fun k => False ∨ k = g) c d s3 D3) ∧ Hid (Lv W4 g F3) ∧ Hid (Few D3 (k + 1) ∧ D3.c = false) := by
            refine ⟨s.putS 60 (M : Int) bk body, D, fput F nn (bk, .slice da dl dc), fun i => if i = nn then body else Y i, fun i hi => ?_, P3.out.side T4 (fun k hk => .inr hk) (fun k hk => by rw [hk]; exact HGW.out.1), by rw [← hW4]; exact LZ.out.put hn10 bk _, ⟨HFW.out.1.more, HFW.out.2⟩⟩
            unfold fput
            by_cases e : i = nn
            · subst e
              simp only [if_true]
              rw [← HM.out]
              exact ⟨HRD.out, Lst.put_same hpe⟩
            · simp only [if_neg e]
              exact ⟨(HLI.out i hi).1, (HLI.out i hi).2.put_else (.inl (by have := HM.out; omega))⟩
          clear HLI P1 L1 HFW P HLV0 LZ hpe BX3 P3 T4
          go_wp2_with fail
          have P3 := PW
          have L3 := LW
          clear PW LW
          have FZ : Hid (LstI w s3 D3 F3 Y3) := LI3
          have HG := hideP (getP P3.out.now (M : Int))
          have HTE : Hid ((((F3 nn).1 = 0 ∧ s3.getE D3 (M : Int) = 6) ∨ (0 < (F3 nn).1 ∧ s3.getE D3 (M : Int) = 0 ∧ s3.getB D3 (M : Int) = ((F3 nn).1, Y3 nn)))) := by
            have h1 := (FZ.out nn hn10).2
            rw [← HM.out] at h1
            exact h1.tells (by omega) P3.out.len
          have LI5 : Hid (LstI w (s3.getS D3 (M : Int)) D3 F3 Y3) := fun i hi => ⟨(FZ.out i hi).1, (FZ.out i hi).2.get (by omega) P3.out.len⟩
          obtain ⟨ec, hec⟩ : ∃ ec, s3.getE D3 (M : Int) = ec := ⟨_, rfl⟩
          obtain ⟨s5, hs5⟩ : ∃ s5, s3.getS D3 (M : Int) = s5 := ⟨_, rfl⟩
          obtain ⟨⟨kB, yB⟩, hB⟩ : ∃ x, s3.getB D3 (M : Int) = x := ⟨_, rfl⟩
          rw [hec, hs5, hB] at HG
          rw [hec, hB] at HTE
          rw [hs5] at LI5
          clear hec hs5 hB f0 f1 l0 l1 y2 y3 hW4 q0 q1 q2 q3 q4 BX R1 HRD HOP LI3 FZ
          go_wp2_with fail
          refine HG.out.mono ?_
          rintro e w4 ⟨u, rfl, hn4, p4, _⟩
          have L4 : Hid (Lv w4 g F3) := L3.out.of (p4.keep (.inr rfl))
          have P4 : Hid (Pz w w4 w4 (fun k => False ∨ k = g) c d s5 D3) := p4.now
          have U4 : Hid (Rd .u8 w4 u yB) := hn4.rd
          obtain ⟨ua, um, uc, rfl⟩ : ∃ a m cap, u = .slice a m cap := by obtain ⟨a, c, e, _⟩ := hn4.rd; exact ⟨_, _, _, e⟩
          obtain ⟨kF, hkF⟩ : ∃ kF, (F3 nn).1 = kF := ⟨_, rfl⟩
          obtain ⟨vF, hvF⟩ : ∃ vF, (F3 nn).2 = vF := ⟨_, rfl⟩
          obtain ⟨yF, hyF⟩ : ∃ yF, Y3 nn = yF := ⟨_, rfl⟩
          have VF : Hid (Rd .u8 w vF yF) := by have := (LI5.out nn hn10).1; rw [hvF, hyF] at this; exact this
          rw [hkF, hyF] at HTE
          obtain ⟨fa, fm, fc, rfl⟩ : ∃ a m cap, vF = .slice a m cap := by obtain ⟨a, c, e, _⟩ := VF.out; exact ⟨_, _, _, e⟩
          obtain ⟨W5, hW5⟩ : ∃ W5, w4.alloc (.cells #[.int .i64 kB, .slice ua um uc] 40) = W5 := ⟨_, rfl⟩
          have b45 : Below w4.heap.size w4 W5 := by rw [← hW5]; exact (Below.refl _ _).alloc (Nat.le_refl _) _
          have P5 : Hid (Pz w w4 W5 (fun k => False ∨ k = g) c d s5 D3) := P4.out.below b45
          have L5 : Hid (Lv W5 g F3) := L4.out.below b45
          have Q5 : Hid (Bkv W5 w4.heap.size kB (.slice ua um uc)) := by rw [← hW5]; exact bkv_new w4 _ _
          have e0 := L5.out.c0 hn10
          have e1 := L5.out.c1 hn10
          rw [hkF] at e0
          rw [hvF] at e1
          have z0 := Q5.out.c0
          have z1 := Q5.out.c1
          have HSM := hideP (same2_any kB kF (.slice ua um uc) (.slice fa fm fc) yB yF W5.drew ((U4.out.below b45).below (Below.refl _ _).drew) (VF.out.below (P5.out.below0.drew)))
          have HST : Hid (∀ W6, Below W5.drew.heap.size W5.drew W6 → ((W6.cell? ⟨w4.heap.size, 0, none⟩ = some (.int .i64 kB) ∧ W6.cell? ⟨w4.heap.size, 1, none⟩ = some (.slice ua um uc)) ∧ (W6.cell? ⟨g, nn * 2, none⟩ = some (.int .i64 kF) ∧ W6.cell? ⟨g, nn * 2 + 1, none⟩ = some (.slice fa fm fc))) ∧ Hid (Lv W6 g F3) ∧ Hid (Pz w W6 W6 (fun k => False ∨ k = g) c d s5 D3)) := fun W6 hb => by
            have hb' : Below W5.heap.size W5 W6 := (Below.refl _ _).drew.trans hb
            have q := Q5.out.below hb'
            have l := L5.out.below hb'
            refine ⟨⟨⟨q.c0, q.c1⟩, ?_, ?_⟩, l, (P5.out.below hb').now⟩
            · have := l.c0 hn10; rw [hkF] at this; exact this
            · have := l.c1 hn10; rw [hvF] at this; exact this
          have hS5 : (W5.drew.cell? ⟨w4.heap.size, 0, none⟩ = some (.int .i64 kB) ∧ W5.drew.cell? ⟨w4.heap.size, 1, none⟩ = some (.slice ua um uc)) ∧ (W5.drew.cell? ⟨g, nn * 2, none⟩ = some (.int .i64 kF) ∧ W5.drew.cell? ⟨g, nn * 2 + 1, none⟩ = some (.slice fa fm fc)) := ⟨⟨z0, z1⟩, e0, e1⟩
          obtain ⟨sm, hsm⟩ : ∃ sm, (decide (kB = kF) && decide (yB = yF)) = sm := ⟨_, rfl⟩
          rw [hsm] at HSM
          have HSM2 : Hid ((decide (kB = kF) && decide (yB = yF)) = sm) := hsm
          unfold blk at HSM ⊢
          clear hn4 p4 b45 HG P3 L3 P4 L4 U4 hkF hvF hyF P5 L5 Q5 hsm
          have hnn2 : (nn : Int) < 10 := by omega
          have hnn0 : (0 : Int) ≤ (nn : Int) := by omega
          go_wp2_with fail
          go_region_held3 (fun w' => (w'.cell? ⟨w4.heap.size, 0, none⟩ = some (.int .i64 kB) ∧ w'.cell? ⟨w4.heap.size, 1, none⟩ = some (.slice ua um uc)) ∧ (w'.cell? ⟨g, nn * 2, none⟩ = some (.int .i64 kF) ∧ w'.cell? ⟨g, nn * 2 + 1, none⟩ = some (.slice fa fm fc))) (first | go_keep | exact hS6)
            (first
              | (go_at_call 23; refine HSM.out.mono ?_; rintro e W6 ⟨rfl, hB6⟩; obtain ⟨hS6, L6, P6⟩ := HST.out W6 hB6; clear hB6))
          clear HST HSM hS5
          obtain ⟨_, f0, f1⟩ := hS6
          rcases HTE.out with ⟨hk0, he⟩ | ⟨hk0, he, hbx⟩
          · subst hk0
            rw [he]
            clear he HTE e0 e1 z0 z1
            go_wp2_with fail
            all_goals exact ⟨⟨k + 1, _, _, _, _, by omega, by first | rfl | go_num, FW3, L6, LI5, P6⟩, by simp [intOf]; omega⟩
          · have hs1 : sm = true := by
              rw [← HSM2.out]
              simp only [Prod.mk.injEq] at hbx
              rw [decide_eq_true hbx.1, decide_eq_true hbx.2]
              rfl
            rw [hs1, he]
            have hk1 : (kF == 0) = false := by rw [beq_eq_false_iff_ne]; omega
            clear hs1 he hbx HTE e0 e1 z0 z1 HSM2
            go_wp2_with fail
            all_goals exact ⟨⟨k + 1, _, _, _, _, by omega, by first | rfl | go_num, FW3, L6, LI5, P6⟩, by simp [intOf]; omega⟩
        · have h01 : (pe == 0) = false := by rw [beq_eq_false_iff_ne]; exact h0
          obtain ⟨s3, D3, F3, Y3, LI3, P3, L3, FW3⟩ : ∃ s3 D3 F3 Y3, LstI w s3 D3 F3 Y3 ∧ Hid (Pz w w3 w3 (fun k => False ∨ k = g) c d s3 D3) ∧ Hid (Lv w3 g F3) ∧ Hid (Few D3 (k + 1) ∧ D3.c = false) :=
            ⟨s.putS 60 (M : Int) bk body, D, F, Y, fun i hi => ⟨(HLI.out i hi).1, (HLI.out i hi).2.put_else (.inr (by rw [hpe]; exact h0))⟩, P3, LZ, ⟨HFW.out.1.more, HFW.out.2⟩⟩
          clear HLI P1 L1 HFW P HLV0 LZ hpe BX3 y2 y3
          have FZ : Hid (LstI w s3 D3 F3 Y3) := LI3
          have HG := hideP (getP P3.out.now (M : Int))
          have HTE : Hid ((((F3 nn).1 = 0 ∧ s3.getE D3 (M : Int) = 6) ∨ (0 < (F3 nn).1 ∧ s3.getE D3 (M : Int) = 0 ∧ s3.getB D3 (M : Int) = ((F3 nn).1, Y3 nn)))) := by
            have h1 := (FZ.out nn hn10).2
            rw [← HM.out] at h1
            exact h1.tells (by omega) P3.out.len
          have LI5 : Hid (LstI w (s3.getS D3 (M : Int)) D3 F3 Y3) := fun i hi => ⟨(FZ.out i hi).1, (FZ.out i hi).2.get (by omega) P3.out.len⟩
          obtain ⟨ec, hec⟩ : ∃ ec, s3.getE D3 (M : Int) = ec := ⟨_, rfl⟩
          obtain ⟨s5, hs5⟩ : ∃ s5, s3.getS D3 (M : Int) = s5 := ⟨_, rfl⟩
          obtain ⟨⟨kB, yB⟩, hB⟩ : ∃ x, s3.getB D3 (M : Int) = x := ⟨_, rfl⟩
          rw [hec, hs5, hB] at HG
          rw [hec, hB] at HTE
          rw [hs5] at LI5
          clear hec hs5 hB q0 q1 q2 q3 q4 BX R1 HRD HOP LI3 FZ
          go_wp2_with fail
          refine HG.out.mono ?_
          rintro e w4 ⟨u, rfl, hn4, p4, _⟩
          have L4 : Hid (Lv w4 g F3) := L3.out.of (p4.keep (.inr rfl))
          have P4 : Hid (Pz w w4 w4 (fun k => False ∨ k = g) c d s5 D3) := p4.now
          have U4 : Hid (Rd .u8 w4 u yB) := hn4.rd
          obtain ⟨ua, um, uc, rfl⟩ : ∃ a m cap, u = .slice a m cap := by obtain ⟨a, c, e, _⟩ := hn4.rd; exact ⟨_, _, _, e⟩
          obtain ⟨kF, hkF⟩ : ∃ kF, (F3 nn).1 = kF := ⟨_, rfl⟩
          obtain ⟨vF, hvF⟩ : ∃ vF, (F3 nn).2 = vF := ⟨_, rfl⟩
          obtain ⟨yF, hyF⟩ : ∃ yF, Y3 nn = yF := ⟨_, rfl⟩
          have VF : Hid (Rd .u8 w vF yF) := by have := (LI5.out nn hn10).1; rw [hvF, hyF] at this; exact this
          rw [hkF, hyF] at HTE
          obtain ⟨fa, fm, fc, rfl⟩ : ∃ a m cap, vF = .slice a m cap := by obtain ⟨a, c, e, _⟩ := VF.out; exact ⟨_, _, _, e⟩
          obtain ⟨W5, hW5⟩ : ∃ W5, w4.alloc (.cells #[.int .i64 kB, .slice ua um uc] 40) = W5 := ⟨_, rfl⟩
          have b45 : Below w4.heap.size w4 W5 := by rw [← hW5]; exact (Below.refl _ _).alloc (Nat.le_refl _) _
          have P5 : Hid (Pz w w4 W5 (fun k => False ∨ k = g) c d s5 D3) := P4.out.below b45
          have L5 : Hid (Lv W5 g F3) := L4.out.below b45
          have Q5 : Hid (Bkv W5 w4.heap.size kB (.slice ua um uc)) := by rw [← hW5]; exact bkv_new w4 _ _
          have e0 := L5.out.c0 hn10
          have e1 := L5.out.c1 hn10
          rw [hkF] at e0
          rw [hvF] at e1
          have z0 := Q5.out.c0
          have z1 := Q5.out.c1
          have HSM := hideP (same2_any kB kF (.slice ua um uc) (.slice fa fm fc) yB yF W5.drew ((U4.out.below b45).below (Below.refl _ _).drew) (VF.out.below (P5.out.below0.drew)))
          have HST : Hid (∀ W6, Below W5.drew.heap.size W5.drew W6 → ((W6.cell? ⟨w4.heap.size, 0, none⟩ = some (.int .i64 kB) ∧ W6.cell? ⟨w4.heap.size, 1, none⟩ = some (.slice ua um uc)) ∧ (W6.cell? ⟨g, nn * 2, none⟩ = some (.int .i64 kF) ∧ W6.cell? ⟨g, nn * 2 + 1, none⟩ = some (.slice fa fm fc))) ∧ Hid (Lv W6 g F3) ∧ Hid (Pz w W6 W6 (fun k => False ∨ k = g) c d s5 D3)) := fun W6 hb => by
            have hb' : Below W5.heap.size W5 W6 := (Below.refl _ _).drew.trans hb
            have q := Q5.out.below hb'
            have l := L5.out.below hb'
            refine ⟨⟨⟨q.c0, q.c1⟩, ?_, ?_⟩, l, (P5.out.below hb').now⟩
            · have := l.c0 hn10; rw [hkF] at this; exact this
            · have := l.c1 hn10; rw [hvF] at this; exact this
          have hS5 : (W5.drew.cell? ⟨w4.heap.size, 0, none⟩ = some (.int .i64 kB) ∧ W5.drew.cell? ⟨w4.heap.size, 1, none⟩ = some (.slice ua um uc)) ∧ (W5.drew.cell? ⟨g, nn * 2, none⟩ = some (.int .i64 kF) ∧ W5.drew.cell? ⟨g, nn * 2 + 1, none⟩ = some (.slice fa fm fc)) := ⟨⟨z0, z1⟩, e0, e1⟩
          obtain ⟨sm, hsm⟩ : ∃ sm, (decide (kB = kF) && decide (yB = yF)) = sm := ⟨_, rfl⟩
          rw [hsm] at HSM
          have HSM2 : Hid ((decide (kB = kF) && decide (yB = yF)) = sm) := hsm
          unfold blk at HSM ⊢
          clear hn4 p4 b45 HG P3 L3 P4 L4 U4 hkF hvF hyF P5 L5 Q5 hsm
          have hnn2 : (nn : Int) < 10 := by omega
          have hnn0 : (0 : Int) ≤ (nn : Int) := by omega
          go_wp2_with fail
          go_region_held3 (fun w' => (w'.cell? ⟨w4.heap.size, 0, none⟩ = some (.int .i64 kB) ∧ w'.cell? ⟨w4.heap.size, 1, none⟩ = some (.slice ua um uc)) ∧ (w'.cell? ⟨g, nn * 2, none⟩ = some (.int .i64 kF) ∧ w'.cell? ⟨g, nn * 2 + 1, none⟩ = some (.slice fa fm fc))) (first | go_keep | exact hS6)
            (first
              | (go_at_call 23; refine HSM.out.mono ?_; rintro e W6 ⟨rfl, hB6⟩; obtain ⟨hS6, L6, P6⟩ := HST.out W6 hB6; clear hB6))
          clear HST HSM hS5
          obtain ⟨_, f0, f1⟩ := hS6
          rcases HTE.out with ⟨hk0, he⟩ | ⟨hk0, he, hbx⟩
          · subst hk0
            rw [he]
            clear he HTE e0 e1 z0 z1
            go_wp2_with fail
            all_goals exact ⟨⟨k + 1, _, _, _, _, by omega, by first | rfl | go_num, FW3, L6, LI5, P6⟩, by simp [intOf]; omega⟩
          · have hs1 : sm = true := by
              rw [← HSM2.out]
              simp only [Prod.mk.injEq] at hbx
              rw [decide_eq_true hbx.1, decide_eq_true hbx.2]
              rfl
            rw [hs1, he]
            have hk1 : (kF == 0) = false := by rw [beq_eq_false_iff_ne]; omega
            clear hs1 he hbx HTE e0 e1 z0 z1 HSM2
            go_wp2_with fail
            all_goals exact ⟨⟨k + 1, _, _, _, _, by omega, by first | rfl | go_num, FW3, L6, LI5, P6⟩, by simp [intOf]; omega⟩
      · skip
        have HG := hideP (flushP P1.out (fun i => by have := HFW.out.1 i; omega))
        go_wp2_with fail
        refine HG.out.mono ?_
        rintro e w3 ⟨rfl, p3⟩
        obtain ⟨s3, D3, F3, Y3, LI3, P3, L3, FW3⟩ : ∃ s3 D3 F3 Y3, LstI w s3 D3 F3 Y3 ∧ Hid (Pz w wr w3 (fun k => False ∨ k = g) c d s3 D3) ∧ Hid (Lv w3 g F3) ∧ Hid (Few D3 (k + 1) ∧ D3.c = false) :=
          ⟨s.flush, s.flushD D, F, Y, fun i hi => ⟨(HLI.out i hi).1, (HLI.out i hi).2.flush HFW.out.2⟩, p3, L1.out.of (by rw [p3.keep (.inr rfl)]; exact (P1.out.keep (.inr rfl)).symm), ⟨HFW.out.1.flush P1.out.ok, flush_c HFW.out.2⟩⟩
        clear HLI P1 L1 HFW P HLV0 HG p3
        have FZ : Hid (LstI w s3 D3 F3 Y3) := LI3
        have HG := hideP (getP P3.out.now (M : Int))
        have HTE : Hid ((((F3 nn).1 = 0 ∧ s3.getE D3 (M : Int) = 6) ∨ (0 < (F3 nn).1 ∧ s3.getE D3 (M : Int) = 0 ∧ s3.getB D3 (M : Int) = ((F3 nn).1, Y3 nn)))) := by
          have h1 := (FZ.out nn hn10).2
          rw [← HM.out] at h1
          exact h1.tells (by omega) P3.out.len
        have LI5 : Hid (LstI w (s3.getS D3 (M : Int)) D3 F3 Y3) := fun i hi => ⟨(FZ.out i hi).1, (FZ.out i hi).2.get (by omega) P3.out.len⟩
        obtain ⟨ec, hec⟩ : ∃ ec, s3.getE D3 (M : Int) = ec := ⟨_, rfl⟩
        obtain ⟨s5, hs5⟩ : ∃ s5, s3.getS D3 (M : Int) = s5 := ⟨_, rfl⟩
        obtain ⟨⟨kB, yB⟩, hB⟩ : ∃ x, s3.getB D3 (M : Int) = x := ⟨_, rfl⟩
        rw [hec, hs5, hB] at HG
        rw [hec, hB] at HTE
        rw [hs5] at LI5
        clear hec hs5 hB q0 q1 q2 q3 q4 BX R1 HRD HOP LI3 FZ
        go_wp2_with fail
        refine HG.out.mono ?_
        rintro e w4 ⟨u, rfl, hn4, p4, _⟩
        have L4 : Hid (Lv w4 g F3) := L3.out.of (p4.keep (.inr rfl))
        have P4 : Hid (Pz w w4 w4 (fun k => False ∨ k = g) c d s5 D3) := p4.now
        have U4 : Hid (Rd .u8 w4 u yB) := hn4.rd
        obtain ⟨ua, um, uc, rfl⟩ : ∃ a m cap, u = .slice a m cap := by obtain ⟨a, c, e, _⟩ := hn4.rd; exact ⟨_, _, _, e⟩
        obtain ⟨kF, hkF⟩ : ∃ kF, (F3 nn).1 = kF := ⟨_, rfl⟩
        obtain ⟨vF, hvF⟩ : ∃ vF, (F3 nn).2 = vF := ⟨_, rfl⟩
        obtain ⟨yF, hyF⟩ : ∃ yF, Y3 nn = yF := ⟨_, rfl⟩
        have VF : Hid (Rd .u8 w vF yF) := by have := (LI5.out nn hn10).1; rw [hvF, hyF] at this; exact this
        rw [hkF, hyF] at HTE
        obtain ⟨fa, fm, fc, rfl⟩ : ∃ a m cap, vF = .slice a m cap := by obtain ⟨a, c, e, _⟩ := VF.out; exact ⟨_, _, _, e⟩
        obtain ⟨W5, hW5⟩ : ∃ W5, w4.alloc (.cells #[.int .i64 kB, .slice ua um uc] 40) = W5 := ⟨_, rfl⟩
        have b45 : Below w4.heap.size w4 W5 := by rw [← hW5]; exact (Below.refl _ _).alloc (Nat.le_refl _) _
        have P5 : Hid (Pz w w4 W5 (fun k => False ∨ k = g) c d s5 D3) := P4.out.below b45
        have L5 : Hid (Lv W5 g F3) := L4.out.below b45
        have Q5 : Hid (Bkv W5 w4.heap.size kB (.slice ua um uc)) := by rw [← hW5]; exact bkv_new w4 _ _
        have e0 := L5.out.c0 hn10
        have e1 := L5.out.c1 hn10
        rw [hkF] at e0
        rw [hvF] at e1
        have z0 := Q5.out.c0
        have z1 := Q5.out.c1
        have HSM := hideP (same2_any kB kF (.slice ua um uc) (.slice fa fm fc) yB yF W5.drew ((U4.out.below b45).below (Below.refl _ _).drew) (VF.out.below (P5.out.below0.drew)))
        have HST : Hid (∀ W6, Below W5.drew.heap.size W5.drew W6 → ((W6.cell? ⟨w4.heap.size, 0, none⟩ = some (.int .i64 kB) ∧ W6.cell? ⟨w4.heap.size, 1, none⟩ = some (.slice ua um uc)) ∧ (W6.cell? ⟨g, nn * 2, none⟩ = some (.int .i64 kF) ∧ W6.cell? ⟨g, nn * 2 + 1, none⟩ = some (.slice fa fm fc))) ∧ Hid (Lv W6 g F3) ∧ Hid (Pz w W6 W6 (fun k => False ∨ k = g) c d s5 D3)) := fun W6 hb => by
          have hb' : Below W5.heap.size W5 W6 := (Below.refl _ _).drew.trans hb
          have q := Q5.out.below hb'
          have l := L5.out.below hb'
          refine ⟨⟨⟨q.c0, q.c1⟩, ?_, ?_⟩, l, (P5.out.below hb').now⟩
          · have := l.c0 hn10; rw [hkF] at this; exact this
          · have := l.c1 hn10; rw [hvF] at this; exact this
        have hS5 : (W5.drew.cell? ⟨w4.heap.size, 0, none⟩ = some (.int .i64 kB) ∧ W5.drew.cell? ⟨w4.heap.size, 1, none⟩ = some (.slice ua um uc)) ∧ (W5.drew.cell? ⟨g, nn * 2, none⟩ = some (.int .i64 kF) ∧ W5.drew.cell? ⟨g, nn * 2 + 1, none⟩ = some (.slice fa fm fc)) := ⟨⟨z0, z1⟩, e0, e1⟩
        obtain ⟨sm, hsm⟩ : ∃ sm, (decide (kB = kF) && decide (yB = yF)) = sm := ⟨_, rfl⟩
        rw [hsm] at HSM
        have HSM2 : Hid ((decide (kB = kF) && decide (yB = yF)) = sm) := hsm
        unfold blk at HSM ⊢
        clear hn4 p4 b45 HG P3 L3 P4 L4 U4 hkF hvF hyF P5 L5 Q5 hsm
        have hnn2 : (nn : Int) < 10 := by omega
        have hnn0 : (0 : Int) ≤ (nn : Int) := by omega
        go_wp2_with fail
        go_region_held3 (fun w' => (w'.cell? ⟨w4.heap.size, 0, none⟩ = some (.int .i64 kB) ∧ w'.cell? ⟨w4.heap.size, 1, none⟩ = some (.slice ua um uc)) ∧ (w'.cell? ⟨g, nn * 2, none⟩ = some (.int .i64 kF) ∧ w'.cell? ⟨g, nn * 2 + 1, none⟩ = some (.slice fa fm fc))) (first | go_keep | exact hS6)
          (first
            | (go_at_call 23; refine HSM.out.mono ?_; rintro e W6 ⟨rfl, hB6⟩; obtain ⟨hS6, L6, P6⟩ := HST.out W6 hB6; clear hB6))
        clear HST HSM hS5
        obtain ⟨_, f0, f1⟩ := hS6
        rcases HTE.out with ⟨hk0, he⟩ | ⟨hk0, he, hbx⟩
        · subst hk0
          rw [he]
          clear he HTE e0 e1 z0 z1
          go_wp2_with fail
          all_goals exact ⟨⟨k + 1, _, _, _, _, by omega, by first | rfl | go_num, FW3, L6, LI5, P6⟩, by simp [intOf]; omega⟩
        · have hs1 : sm = true := by
            rw [← HSM2.out]
            simp only [Prod.mk.injEq] at hbx
            rw [decide_eq_true hbx.1, decide_eq_true hbx.2]
            rfl
          rw [hs1, he]
          have hk1 : (kF == 0) = false := by rw [beq_eq_false_iff_ne]; omega
          clear hs1 he hbx HTE e0 e1 z0 z1 HSM2
          go_wp2_with fail
          all_goals exact ⟨⟨k + 1, _, _, _, _, by omega, by first | rfl | go_num, FW3, L6, LI5, P6⟩, by simp [intOf]; omega⟩
    · have hki : ¬ (k : Int) < (len : Int) := by omega
      have hkd : decide (k < len) = false := by simp; omega
      go_wp2_with fail
      refine (HLV.out _).mono ?_
      rintro e wA ⟨rfl, hbA⟩
      have BA : Hid (Below w.heap.size w wA) := P.out.below0.trans (hbA.mono P.out.below0.size)
      clear hbA
      go_wp2_with fail
      go_ret
      exact ⟨rfl, BA.out⟩
end Go.Proofs.Ytgpaklifjonlkaa
