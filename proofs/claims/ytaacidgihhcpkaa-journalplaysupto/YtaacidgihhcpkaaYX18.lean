import Derived.Test.YtaacidgihhcpkaaYX17
import Derived.Test.YtaacidgihhcpkaaYX05
import Derived.Test.YtaacidgihhcpkaaYX06
import Derived.Test.YtaacidgihhcpkaaYX08
import Derived.Deep.LoopGhost
import Derived.WalkMore
import Derived.Test.YtaacidgihhcpkaaYX16
import Derived.Test.YtaacidgihhcpkaaYX12
/-
  The program's Open: the records that the sectors tell.
-/
namespace Go.Proofs.Ytaacidgihhcpkaa
open Go.RowKit Go.Maps Pl
set_option linter.unusedVariables false
set_option linter.unusedSimpArgs false
set_option maxRecDepth 100000

theorem jdat_len (f : Nat → List Int) (a : Nat) : ∀ m, (jdat f a m).length ≤ 240 * m
  | 0 => by simp [jdat]
  | m + 1 => by
    have h1 := jdat_len f a m
    have h2 := rdP_len (f (a + m))
    rw [jdat_succ, List.length_append]
    omega
theorem isP_mn {X : List Int} {i m g n : Nat} (h : IsP X i m g n) : i < m := by
  have := (mayP_iff.1 h.1).1
  rw [h.2.2.1, h.2.2.2.1] at this
  exact this
/-- A first part of a record stands; what comes next. -/
def Bg (f : Nat → List Int) (g n a i m : Nat) : Prop := ((i = 0 ∧ m = 1) ∨ (0 < i ∧ i ≤ m ∧ m = jmn f a ∧ a + m ≤ 50)) ∧ ∀ j, j < i → IsP (f (a + j)) j (jmn f a) g n
theorem Bg.place {f : Nat → List Int} {g n a i m : Nat} (h : Bg f g n a i m) (hi : i < m) (ha : a < 50) : a + i < 50 := by
  rcases h.1 with h | h <;> omega
theorem Bg.next {f : Nat → List Int} {g n a i m m' : Nat} (h : Bg f g n a i m) (hi : i < m) (hm : m' = if i = 0 then jmn f a else m) (hp : IsP (f (a + i)) i m' g n) (hl : a + m' ≤ 50) : Bg f g n a (i + 1) m' := by
  have hmm : m' = jmn f a := by
    rcases h.1 with c | c
    · rw [hm, if_pos c.1]
    · rw [hm, if_neg (by omega), c.2.2.1]
  have := isP_mn hp
  refine ⟨.inr ⟨by omega, by omega, hmm, hl⟩, fun j hj => ?_⟩
  by_cases e : j = i
  · rw [e, ← hmm]; exact hp
  · exact h.2 j (by omega)
theorem Bg.bad {f : Nat → List Int} {g n a i m m' : Nat} (h : Bg f g n a i m) (hi : i < m) (hm : m' = if i = 0 then jmn f a else m) (hp : ¬ (IsP (f (a + i)) i m' g n ∧ a + m' ≤ 50)) : ¬ (a < 50 ∧ JGood f g n a) := by
  rintro ⟨_, h1, h2, h3⟩
  have hmm : m' = jmn f a := by
    rcases h.1 with c | c
    · rw [hm, if_pos c.1]
    · rw [hm, if_neg (by omega), c.2.2.1]
  rw [hmm] at hp
  refine hp ⟨h3 i ?_, h2⟩
  rcases h.1 with c | c
  · omega
  · omega
theorem Bg.good {f : Nat → List Int} {g n a i m : Nat} (h : Bg f g n a i m) (hi : ¬ i < m) : JGood f g n a ∧ i = jmn f a ∧ m = jmn f a := by
  rcases h.1 with c | ⟨c1, c2, c3, c4⟩
  · omega
  · have e : i = m := by omega
    exact ⟨⟨by omega, by omega, fun j hj => h.2 j (by omega)⟩, by omega, c3⟩

set_option maxHeartbeats 4000000 in
theorem open_any {S : Nat → Prop} {d : Nat} {s : DS} (g : Nat) (w : World) (h : Dk S w d s) (h50 : 50 ≤ s.L.length) (hg1 : 1 ≤ g) (hg2 : g ≤ 4294967295) :
    Calls Try.prog 24 #[dp d, .int .i64 (g : Int)] w fun e w' => ∃ v, e = .returned (.tuple #[v, .int .i64 0]) ∧ RdL w' v (jopen s.has g) ∧ Below w.heap.size w w' := by
  have HR := hideP (hasRoom_any w h h50)
  have HG := hideP (mayBeGen_any (g : Int) w)
  rw [show okG (g : Int) = true from okG_iff.2 ⟨by omega, by omega⟩] at HG
  have HPA : Hid (∀ (i : Nat) (W : World), Below w.heap.size w W → i < 50 → Calls Try.prog 45 #[dp d, .int .i64 (i : Int)] W fun e w' => AtR (s.has i) W e w') := fun i W hW hi => pieceAt_any i W (h.below hW) (by omega)
  have HXO : Hid (∀ i, i < 50 → (s.has i).length = 256 ∧ By (s.has i)) := fun i hi => h.has_ok (by omega)
  obtain ⟨f, hf⟩ : ∃ f, Hid (s.has = f) := ⟨_, rfl⟩
  rw [hf.out] at HPA HXO ⊢
  obtain ⟨R, hR⟩ : ∃ R, Hid (jopen f g = R) := ⟨_, rfl⟩
  rw [hR.out]
  have HB0 : Hid (Below w.heap.size w w) := Below.refl _ _
  have HST : Hid (([] : List (List Int)) ++ jrun f g 48 ((([] : List (List Int))).length + 1) 2 = R) := hR
  clear h h50 hf
  unfold dp at HR HPA ⊢
  go_enter Try.func24, Try.ntmps24
  go_wp2_with fail
  go_step3
  go_wp2_with fail
  refine HR.out.mono ?_
  rintro e w' ⟨rfl, rfl⟩
  go_wp2_with fail
  refine HG.out.mono ?_
  rintro e w ⟨rfl, rfl⟩
  clear HR HG
  go_wp2_with fail
  go_step3
  go_wp2_with fail
  go_loopg [6, 7] 48 (fun kk rv av wr => ∃ (a : Nat) (rows : List (List Int)), av = .int .i64 (a : Int) ∧ 2 ≤ a ∧ a ≤ 50 ∧ 50 - a ≤ kk ∧ Hid (OwL (fun _ => True) wr rv rows) ∧ Hid (rows.length + 2 ≤ a) ∧ Hid (rows ++ jrun f g kk (rows.length + 1) a = R) ∧ Hid (Below w.heap.size w wr) ∧ Hid (∀ j, rv.ownBlock = some j → w.heap.size ≤ j))
  case atStart => exact ⟨2, [], rfl, by decide, by decide, by decide, owL_nil _ _, by show _ ≤ _; decide, HST, HB0, fun j hj => by cases hj⟩
  case round =>
    obtain ⟨wo, rfl⟩ : ∃ wo, wo = wr := ⟨_, rfl⟩
    obtain ⟨gO, rfl⟩ : ∃ gO, gO = gk := ⟨_, rfl⟩
    obtain ⟨a, rows, rfl, ha2, ha5, hak, OL, HRL, HRN, BW, NW⟩ := hrel
    obtain ⟨ra, rc, rfl, hrc, hrm⟩ := OL.out.len
    have hrc9 : rc ≤ 9223372036854775807 := by unfold maxLen at hrm; omega
    obtain ⟨n, hn⟩ : ∃ n, Hid (rows.length = n) := ⟨_, rfl⟩
    rw [hn.out] at OL NW HRL HRN hrc ⊢
    have hn50 : n ≤ 48 := by have := HRL.out; omega
    clear hrm
    by_cases hlt : a < 50
    · have hlt1 : (a : Int) < 50 := by omega
      obtain ⟨q, hq⟩ : ∃ q, Hid (wo.heap.size = q) := ⟨_, rfl⟩
      have hn1 : (n : Int) + 1 = ((n + 1 : Nat) : Int) := by omega
      obtain ⟨W1, hW1⟩ : ∃ W1, wo.alloc (.cells #[.int .i64 0, .int .i64 1, .int .i64 (g : Int), .int .i64 ((n + 1 : Nat) : Int)] 77) = W1 := ⟨_, rfl⟩
      have b1 : Hid (Below q wo W1) := by rw [← hW1, ← hq.out]; exact (Below.refl _ _).alloc (Nat.le_refl _) _
      have Q1 : Hid (Bo W1 q 77 [.int .i64 0, .int .i64 1, .int .i64 (g : Int), .int .i64 ((n + 1 : Nat) : Int)]) := by rw [← hW1, ← hq.out]; exact bo_new wo _ _
      have HW1 : Hid (wo.alloc (.cells #[.int .i64 0, .int .i64 1, .int .i64 (g : Int), .int .i64 ((n + 1 : Nat) : Int)] 77) = W1) := hW1
      obtain ⟨n1, hnn⟩ : ∃ n1, Hid (n + 1 = n1) := ⟨_, rfl⟩
      rw [hnn.out] at Q1 hn1 hW1 HW1 HRN
      clear hW1
      go_wp2_with fail
      rw [HW1.out, hq.out]
      go_loopg [8] 50 (fun kj rec wj => ∃ (i m : Nat), i + kj = 50 ∧ m ≤ 255 ∧ Hid (Bo wj q 77 [.int .i64 (i : Int), .int .i64 (m : Int), .int .i64 (g : Int), .int .i64 (n1 : Int)]) ∧ Hid (Bg f g n1 a i m) ∧ Hid (Owns .u8 5 wj rec (jdat f a i)) ∧ Hid (∀ j, rec.ownBlock = some j → q < j) ∧ Hid (Below q wo wj))
      case atStart => exact ⟨0, 1, rfl, by decide, Q1, ⟨.inl ⟨rfl, rfl⟩, fun j hj => by omega⟩, owns_nil _ _ _, (fun j hj => by cases hj), b1⟩
      case round =>
        clear Q1 b1 HW1
        obtain ⟨wj, rfl⟩ : ∃ wj, wj = wr := ⟨_, rfl⟩
        obtain ⟨i, m, hik, hm5, Q, BG, OW, NR, BJ⟩ := hrel
        have c0 := Q.out.cell (i := 0) rfl
        have c1 := Q.out.cell (i := 1) rfl
        have g0 := Q.out.fz 0
        have g1 := Q.out.fz 1
        obtain ⟨ea, ec, rfl, hec1, hec2, _⟩ := id OW.out.rd
        have hec9 : ec ≤ 9223372036854775807 := by unfold maxLen at hec2; omega
        have HJD := hideP (jdat_len f a i)
        obtain ⟨el, hel⟩ : ∃ el, Hid ((jdat f a i).length = el) := ⟨_, rfl⟩
        rw [hel.out] at OW NR HJD hec1 ⊢
        have BWJ : Hid (Below w.heap.size w wj) := BW.out.trans (BJ.out.mono (by rw [← hq.out]; exact BW.out.size))
        by_cases hit : i < m
        · have hit1 : (i : Int) < (m : Int) := by omega
          have hai : a + i < 50 := BG.out.place hit hlt
          have HP := hideP (HPA.out (a + i) wj BWJ.out hai)
          have HX := hideP (HXO.out (a + i) hai)
          obtain ⟨p, hp⟩ : ∃ p, a + i = p := ⟨_, rfl⟩
          have hp1 : (a : Int) + (i : Int) = (p : Int) := by omega
          have HPE : Hid (a + i = p) := hp
          rw [hp] at HP HX
          clear hp
          go_wp2_with fail
          refine HP.out.mono ?_
          clear HP
          rintro e w3 ⟨v, rfl, r3, b3, n3⟩
          obtain ⟨X, hX⟩ : ∃ X, Hid (f p = X) := ⟨_, rfl⟩
          rw [hX.out] at r3 HX ⊢
          have HPK : Hid (OkR (rdP X)) := rdP_ok HX.out.2 HX.out.1
          have HMN : Hid (i = 0 → jmn f a = (rdP X).mn) := fun e => by rw [← hX.out, ← HPE.out, e]; rfl
          have HDS : Hid (jdat f a (i + 1) = jdat f a i ++ (rdP X).ys) := by show _ = _; rw [jdat_succ, HPE.out, hX.out]
          have hpl : (rdP X).pl < 256 := HPK.out.pl
          have hpm : (rdP X).mn < 256 := HPK.out.mn
          have hyl : (rdP X).ys.length ≤ 240 := HPK.out.len
          have HIS : ∀ m', IsP X i m' g n1 ↔ okP X = true ∧ (rdP X).pl = i ∧ (rdP X).mn = m' ∧ (rdP X).gen = g ∧ (rdP X).num = n1 := fun m' => isP_iff
          have HISP := hideP HIS
          clear HIS HPK
          generalize hpc : rdP X = pc at *
          clear hpc
          obtain ⟨va, vc, rfl, v1, v2, _⟩ := id r3
          have hvc9 : vc ≤ 9223372036854775807 := by unfold maxLen at v2; omega
          obtain ⟨P, M, G, N, ys⟩ := pc
          dsimp only at *
          unfold pcv
          dsimp only
          obtain ⟨yl, hyl2⟩ : ∃ yl, Hid (ys.length = yl) := ⟨_, rfl⟩
          rw [hyl2.out] at r3 n3 v1 hyl ⊢
          obtain ⟨pb, hpb⟩ : ∃ pb, Hid (w3.heap.size = pb) := ⟨_, rfl⟩
          obtain ⟨W4, hW4⟩ : ∃ W4, w3.alloc (.cells #[.int .i64 (P : Int), .int .i64 (M : Int), .int .i64 (G : Int), .int .i64 (N : Int), .slice va yl vc] 82) = W4 := ⟨_, rfl⟩
          have b4 : Below w3.heap.size w3 W4 := by rw [← hW4]; exact (Below.refl _ _).alloc (Nat.le_refl _) _
          have P4 : Hid (Bo W4 pb 82 [.int .i64 (P : Int), .int .i64 (M : Int), .int .i64 (G : Int), .int .i64 (N : Int), .slice va yl vc]) := by rw [← hW4, ← hpb.out]; exact bo_new w3 _ _
          have Q4 := hideP ((Q.out.below b3).below b4)
          have OW4 := hideP ((OW.out.below b3).below b4)
          have R4 := hideP (r3.below b4)
          have HQP : Hid (q < pb) := by show _ < _; rw [← hpb.out]; have := (Q.out.below b3).lt; exact this
          have BJ4 : Hid (Below q wo W4) := BJ.out.trans ((b3.trans (b4.mono b3.size)).mono (Nat.le_of_lt Q.out.lt))
          have HVN : Hid (∀ k, (Value.slice va yl vc).ownBlock = some k → q < k ∧ (Value.slice ea el ec).ownBlock ≠ some k) := fun k hk => by
            have h1 := n3 k hk
            have h2 := Q.out.lt
            refine ⟨by omega, fun e => ?_⟩
            have := OW.out.lt k e
            omega
          have HW4 : Hid (w3.alloc (.cells #[.int .i64 (P : Int), .int .i64 (M : Int), .int .i64 (G : Int), .int .i64 (N : Int), .slice va yl vc] 82) = W4) := hW4
          have hpb2 : w3.heap.size = pb := hpb.out
          clear b3 b4 n3 r3 v1 v2 HW4 c0 c1 g0 g1 Q OW BJ BWJ
          have c0 := Q4.out.cell (i := 0) rfl
          have c1 := Q4.out.cell (i := 1) rfl
          have c2 := Q4.out.cell (i := 2) rfl
          have c3 := Q4.out.cell (i := 3) rfl
          have g0 := Q4.out.fz 0
          have g1 := Q4.out.fz 1
          have k0 := P4.out.cell (i := 0) rfl
          have k1 := P4.out.cell (i := 1) rfl
          have k2 := P4.out.cell (i := 2) rfl
          have k3 := P4.out.cell (i := 3) rfl
          have k4 := P4.out.cell (i := 4) rfl
          have hqn : q ≠ pb := Nat.ne_of_lt HQP.out
          have hqn2 : pb ≠ q := fun e => hqn e.symm
          obtain ⟨ok, hok⟩ : ∃ ok, Hid (okP X = ok) := ⟨_, rfl⟩
          rw [hok.out]
          have HOK := hok
          by_cases hz : i = 0
          · have HZ : Hid (i = 0) := hz
            have hz1 : ((i : Int) == 0) = true := by simp [hz]
            clear hz
            obtain ⟨W5, hW5⟩ : ∃ W5, W4.setCell ⟨q, 1, none⟩ (.int .i64 (M : Int)) = W5 := ⟨_, rfl⟩
            have t5 : Tch (fun k => k = q) W4 W5 := by rw [← hW5]; exact tch_set W4 q 1 _
            have Q5 : Hid (Bo W5 q 77 [.int .i64 (i : Int), .int .i64 (M : Int), .int .i64 (g : Int), .int .i64 (n1 : Int)]) := by rw [← hW5]; exact Q4.out.set 1 (.int .i64 (M : Int))
            have P5 := hideP (P4.out.tch t5 hqn2)
            have OW5 := hideP (OW4.out.tch t5 (fun k hk e => by have e2 : k = q := e; have := NR.out k hk; omega))
            have R5 := hideP (R4.out.tch t5 (fun k hk e => by have e2 : k = q := e; have := (HVN.out k hk).1; omega))
            have BJ5 : Hid (Below q wo W5) := BJ4.out.trans (t5.below (Nat.le_of_lt Q4.out.lt) (fun k e => by rw [e]; exact Nat.le_refl _))
            clear t5 Q4 P4 OW4 R4 BJ4
            have y0 := Q5.out.cell (i := 0) rfl
            have y1 := Q5.out.cell (i := 1) rfl
            have y2 := Q5.out.cell (i := 2) rfl
            have y3 := Q5.out.cell (i := 3) rfl
            have yg := Q5.out.fz 0
            have z0 := P5.out.cell (i := 0) rfl
            have z1 := P5.out.cell (i := 1) rfl
            have z2 := P5.out.cell (i := 2) rfl
            have z3 := P5.out.cell (i := 3) rfl
            have z4 := P5.out.cell (i := 4) rfl
            cases ok with
            | false =>
              have HBAD : Hid (¬ (a < 50 ∧ JGood f g n1 a)) := BG.out.bad (m' := M) hit (by rw [if_pos HZ.out, HMN.out HZ.out]) (by rw [HPE.out, hX.out, HISP.out M]; intro hh; rw [HOK.out] at hh; exact absurd hh.1.1 (by decide))
              have HE : Hid (rows = R) := by
                show _ = _
                have := HRN.out
                rw [jrun_end f g _ _ a HBAD.out, List.append_nil] at this
                exact this
              have HRD : Hid (RdL W5 (.slice ra n rc) R) := by
                have := (OL.out.tch (S := fun k => q ≤ k) ⟨BJ5.out.os, BJ5.out.tape, BJ5.out.output, BJ5.out.size, fun k hk hn => BJ5.out.block k (Nat.lt_of_not_le hn)⟩ (fun k hk e => by have := OL.out.lt k hk; have e2 : q ≤ k := e; have := hq.out; omega) (fun k _ hk e => by have e2 : q ≤ k := e; have := hq.out; omega)).rd
                rw [HE.out] at this
                exact this
              have HBE : Hid (Below w.heap.size w W5) := BW.out.trans (BJ5.out.mono (by rw [← hq.out]; exact BW.out.size))
              go_wp2_with fail
              try rw [Exit.noGoto_ret]
              go_ret2
              exact ⟨_, rfl, HRD.out, HBE.out⟩
            | true =>
              by_cases hmk : (P : Int) = (i : Int) ∧ (M : Int) = (M : Int) ∧ (G : Int) = (g : Int) ∧ (N : Int) = (n1 : Int)
              · have hq2 : ∀ W, (Op.equalIn 10000 77 (.agg #[.int .i64 (P : Int), .int .i64 (M : Int), .int .i64 (G : Int), .int .i64 (N : Int)]) (.agg #[.int .i64 (i : Int), .int .i64 (M : Int), .int .i64 (g : Int), .int .i64 (n1 : Int)])).run Try.prog W = .ok true W := fun W => by rw [eq_mk W, decide_eq_true hmk]
                have HMK := hideP hmk
                clear hmk
                by_cases hl5 : a + M ≤ 50
                · have hl6 : ¬ (50 : Int) < (a : Int) + (M : Int) := by omega
                  have HIP : Hid (IsP X i M g n1) := by
                    show IsP _ _ _ _ _
                    rw [HISP.out]
                    have hh := HMK.out
                    exact ⟨HOK.out, by omega, by omega, by omega, by omega⟩
                  have BG2 : Hid (Bg f g n1 a (i + 1) M) := BG.out.next hit (by rw [if_pos HZ.out, HMN.out HZ.out]) (by rw [HPE.out, hX.out]; exact HIP.out) hl5
                  have HYE : Hid (el + ys.length ≤ 100000) := by show _ ≤ _; have := HJD.out; rw [hyl2.out]; omega
                  have HOL : Hid ((jdat f a i).length + ys.length ≤ 9223372036854775807) := by show _ ≤ _; rw [hel.out]; have := HYE.out; omega
                  have HOL2 : Hid (((jdat f a i).length + ys.length) * 1 ≤ 140737488355328) := by show _ ≤ _; rw [hel.out]; have := HYE.out; omega
                  have ORE : Hid (Owns .u8 5 W5 (.slice ea el ec) (jdat f a i)) := OW5
                  have RRE : Hid (Rd .u8 W5 (.slice va yl vc) ys) := R5
                  have hi1 : (i : Int) + 1 = ((i + 1 : Nat) : Int) := by omega
                  obtain ⟨i1, hii⟩ : ∃ i1, Hid (i + 1 = i1) := ⟨_, rfl⟩
                  rw [hii.out] at hi1 BG2 HDS
                  clear HIP HISP HMK HOK
                  go_wp2_with (at_builtin; refine wpList_many _ rfl (.tmp 67) (.tmp 69) 36 rfl 5 .u8 1 elem8 (.slice ea el ec) (jdat f a i) rfl ORE.out (.slice va yl vc) ys rfl RRE.out HOL.out HOL2.out ?_)
                  intro rec2 w6 OW6 GR6
                  rw [← HDS.out] at OW6
                  have OW6 := hideP OW6
                  have Q6 := hideP (Q5.out.tch GR6.tch (fun e => by have := NR.out q e; omega))
                  have B6 : Hid (Below q wo w6) := BJ5.out.trans (GR6.tch.below (Nat.le_of_lt Q5.out.lt) (fun k e => Nat.le_of_lt (NR.out k e)))
                  have N6 : Hid (∀ j, rec2.ownBlock = some j → q < j) := fun j hj => by
                    rcases GR6.fresh j hj with e | e
                    · exact NR.out j e
                    · exact Nat.lt_of_lt_of_le Q5.out.lt e
                  have x0 := Q6.out.cell (i := 0) rfl
                  have xg := Q6.out.fz 0
                  have Q7 : Hid (Bo (w6.setCell ⟨q, 0, none⟩ (.int .i64 (i1 : Int))) q 77 [.int .i64 (i1 : Int), .int .i64 (M : Int), .int .i64 (g : Int), .int .i64 (n1 : Int)]) := Q6.out.set 0 (.int .i64 (i1 : Int))
                  have OW7 : Hid (Owns .u8 5 (w6.setCell ⟨q, 0, none⟩ (.int .i64 (i1 : Int))) rec2 (jdat f a i1)) := OW6.out.tch (tch_set w6 q 0 _) (fun k hk e => by have e2 : k = q := e; have := N6.out k hk; omega)
                  have B7 : Hid (Below q wo (w6.setCell ⟨q, 0, none⟩ (.int .i64 (i1 : Int)))) := B6.out.setCell (Nat.le_refl _) _
                  clear GR6 OW6 B6 Q6 hq2 hW4 hpb2 hW5 y0 y1 y2 y3 z0 z1 z2 z3 z4
                  go_wp2_with fail
                  go_roundg (gk - 1)
                  case measure => omega
                  case rel => exact ⟨i1, M, by rw [← hii.out]; omega, by omega, Q7, BG2, OW7, N6, B7⟩
                · have hl6 : (50 : Int) < (a : Int) + (M : Int) := by omega
                  have HBAD : Hid (¬ (a < 50 ∧ JGood f g n1 a)) := BG.out.bad (m' := M) hit (by rw [if_pos HZ.out, HMN.out HZ.out]) (by rw [HPE.out, hX.out, HISP.out M]; intro hh; exact hl5 hh.2)
                  have HE : Hid (rows = R) := by
                    show _ = _
                    have := HRN.out
                    rw [jrun_end f g _ _ a HBAD.out, List.append_nil] at this
                    exact this
                  have HRD : Hid (RdL W5 (.slice ra n rc) R) := by
                    have := (OL.out.tch (S := fun k => q ≤ k) ⟨BJ5.out.os, BJ5.out.tape, BJ5.out.output, BJ5.out.size, fun k hk hn => BJ5.out.block k (Nat.lt_of_not_le hn)⟩ (fun k hk e => by have := OL.out.lt k hk; have e2 : q ≤ k := e; have := hq.out; omega) (fun k _ hk e => by have e2 : q ≤ k := e; have := hq.out; omega)).rd
                    rw [HE.out] at this
                    exact this
                  have HBE : Hid (Below w.heap.size w W5) := BW.out.trans (BJ5.out.mono (by rw [← hq.out]; exact BW.out.size))
                  go_wp2_with fail
                  try rw [Exit.noGoto_ret]
                  go_ret2
                  exact ⟨_, rfl, HRD.out, HBE.out⟩
              · have hq2 : ∀ W, (Op.equalIn 10000 77 (.agg #[.int .i64 (P : Int), .int .i64 (M : Int), .int .i64 (G : Int), .int .i64 (N : Int)]) (.agg #[.int .i64 (i : Int), .int .i64 (M : Int), .int .i64 (g : Int), .int .i64 (n1 : Int)])).run Try.prog W = .ok false W := fun W => by rw [eq_mk W, decide_eq_false hmk]
                have HMK := hideP hmk
                clear hmk
                have HBAD : Hid (¬ (a < 50 ∧ JGood f g n1 a)) := BG.out.bad (m' := M) hit (by rw [if_pos HZ.out, HMN.out HZ.out]) (by rw [HPE.out, hX.out, HISP.out M]; intro hh; exact HMK.out ⟨by omega, by omega, by omega, by omega⟩)
                have HE : Hid (rows = R) := by
                  show _ = _
                  have := HRN.out
                  rw [jrun_end f g _ _ a HBAD.out, List.append_nil] at this
                  exact this
                have HRD : Hid (RdL W5 (.slice ra n rc) R) := by
                  have := (OL.out.tch (S := fun k => q ≤ k) ⟨BJ5.out.os, BJ5.out.tape, BJ5.out.output, BJ5.out.size, fun k hk hn => BJ5.out.block k (Nat.lt_of_not_le hn)⟩ (fun k hk e => by have := OL.out.lt k hk; have e2 : q ≤ k := e; have := hq.out; omega) (fun k _ hk e => by have e2 : q ≤ k := e; have := hq.out; omega)).rd
                  rw [HE.out] at this
                  exact this
                have HBE : Hid (Below w.heap.size w W5) := BW.out.trans (BJ5.out.mono (by rw [← hq.out]; exact BW.out.size))
                go_wp2_with fail
                try rw [Exit.noGoto_ret]
                go_ret2
                exact ⟨_, rfl, HRD.out, HBE.out⟩
          · have HZ : Hid (¬ i = 0) := hz
            have hz1 : ((i : Int) == 0) = false := by simp [hz]
            clear hz
            cases ok with
            | false =>
              have HBAD : Hid (¬ (a < 50 ∧ JGood f g n1 a)) := BG.out.bad (m' := m) hit (by rw [if_neg HZ.out]) (by rw [HPE.out, hX.out, HISP.out m]; intro hh; rw [HOK.out] at hh; exact absurd hh.1.1 (by decide))
              have HE : Hid (rows = R) := by
                show _ = _
                have := HRN.out
                rw [jrun_end f g _ _ a HBAD.out, List.append_nil] at this
                exact this
              have HRD : Hid (RdL W4 (.slice ra n rc) R) := by
                have := (OL.out.tch (S := fun k => q ≤ k) ⟨BJ4.out.os, BJ4.out.tape, BJ4.out.output, BJ4.out.size, fun k hk hn => BJ4.out.block k (Nat.lt_of_not_le hn)⟩ (fun k hk e => by have := OL.out.lt k hk; have e2 : q ≤ k := e; have := hq.out; omega) (fun k _ hk e => by have e2 : q ≤ k := e; have := hq.out; omega)).rd
                rw [HE.out] at this
                exact this
              have HBE : Hid (Below w.heap.size w W4) := BW.out.trans (BJ4.out.mono (by rw [← hq.out]; exact BW.out.size))
              go_wp2_with fail
              try rw [Exit.noGoto_ret]
              go_ret2
              exact ⟨_, rfl, HRD.out, HBE.out⟩
            | true =>
              by_cases hmk : (P : Int) = (i : Int) ∧ (M : Int) = (m : Int) ∧ (G : Int) = (g : Int) ∧ (N : Int) = (n1 : Int)
              · have hq2 : ∀ W, (Op.equalIn 10000 77 (.agg #[.int .i64 (P : Int), .int .i64 (M : Int), .int .i64 (G : Int), .int .i64 (N : Int)]) (.agg #[.int .i64 (i : Int), .int .i64 (m : Int), .int .i64 (g : Int), .int .i64 (n1 : Int)])).run Try.prog W = .ok true W := fun W => by rw [eq_mk W, decide_eq_true hmk]
                have HMK := hideP hmk
                clear hmk
                by_cases hl5 : a + m ≤ 50
                · have hl6 : ¬ (50 : Int) < (a : Int) + (m : Int) := by omega
                  have HIP : Hid (IsP X i m g n1) := by
                    show IsP _ _ _ _ _
                    rw [HISP.out]
                    have hh := HMK.out
                    exact ⟨HOK.out, by omega, by omega, by omega, by omega⟩
                  have BG2 : Hid (Bg f g n1 a (i + 1) m) := BG.out.next hit (by rw [if_neg HZ.out]) (by rw [HPE.out, hX.out]; exact HIP.out) hl5
                  have HYE : Hid (el + ys.length ≤ 100000) := by show _ ≤ _; have := HJD.out; rw [hyl2.out]; omega
                  have HOL : Hid ((jdat f a i).length + ys.length ≤ 9223372036854775807) := by show _ ≤ _; rw [hel.out]; have := HYE.out; omega
                  have HOL2 : Hid (((jdat f a i).length + ys.length) * 1 ≤ 140737488355328) := by show _ ≤ _; rw [hel.out]; have := HYE.out; omega
                  have ORE : Hid (Owns .u8 5 W4 (.slice ea el ec) (jdat f a i)) := OW4
                  have RRE : Hid (Rd .u8 W4 (.slice va yl vc) ys) := R4
                  have hi1 : (i : Int) + 1 = ((i + 1 : Nat) : Int) := by omega
                  obtain ⟨i1, hii⟩ : ∃ i1, Hid (i + 1 = i1) := ⟨_, rfl⟩
                  rw [hii.out] at hi1 BG2 HDS
                  clear HIP HISP HMK HOK
                  go_wp2_with (at_builtin; refine wpList_many _ rfl (.tmp 67) (.tmp 69) 36 rfl 5 .u8 1 elem8 (.slice ea el ec) (jdat f a i) rfl ORE.out (.slice va yl vc) ys rfl RRE.out HOL.out HOL2.out ?_)
                  intro rec2 w6 OW6 GR6
                  rw [← HDS.out] at OW6
                  have OW6 := hideP OW6
                  have Q6 := hideP (Q4.out.tch GR6.tch (fun e => by have := NR.out q e; omega))
                  have B6 : Hid (Below q wo w6) := BJ4.out.trans (GR6.tch.below (Nat.le_of_lt Q4.out.lt) (fun k e => Nat.le_of_lt (NR.out k e)))
                  have N6 : Hid (∀ j, rec2.ownBlock = some j → q < j) := fun j hj => by
                    rcases GR6.fresh j hj with e | e
                    · exact NR.out j e
                    · exact Nat.lt_of_lt_of_le Q4.out.lt e
                  have x0 := Q6.out.cell (i := 0) rfl
                  have xg := Q6.out.fz 0
                  have Q7 : Hid (Bo (w6.setCell ⟨q, 0, none⟩ (.int .i64 (i1 : Int))) q 77 [.int .i64 (i1 : Int), .int .i64 (m : Int), .int .i64 (g : Int), .int .i64 (n1 : Int)]) := Q6.out.set 0 (.int .i64 (i1 : Int))
                  have OW7 : Hid (Owns .u8 5 (w6.setCell ⟨q, 0, none⟩ (.int .i64 (i1 : Int))) rec2 (jdat f a i1)) := OW6.out.tch (tch_set w6 q 0 _) (fun k hk e => by have e2 : k = q := e; have := N6.out k hk; omega)
                  have B7 : Hid (Below q wo (w6.setCell ⟨q, 0, none⟩ (.int .i64 (i1 : Int)))) := B6.out.setCell (Nat.le_refl _) _
                  clear GR6 OW6 B6 Q6 hq2 hW4 hpb2
                  go_wp2_with fail
                  go_roundg (gk - 1)
                  case measure => omega
                  case rel => exact ⟨i1, m, by rw [← hii.out]; omega, by omega, Q7, BG2, OW7, N6, B7⟩
                · have hl6 : (50 : Int) < (a : Int) + (m : Int) := by omega
                  have HBAD : Hid (¬ (a < 50 ∧ JGood f g n1 a)) := BG.out.bad (m' := m) hit (by rw [if_neg HZ.out]) (by rw [HPE.out, hX.out, HISP.out m]; intro hh; exact hl5 hh.2)
                  have HE : Hid (rows = R) := by
                    show _ = _
                    have := HRN.out
                    rw [jrun_end f g _ _ a HBAD.out, List.append_nil] at this
                    exact this
                  have HRD : Hid (RdL W4 (.slice ra n rc) R) := by
                    have := (OL.out.tch (S := fun k => q ≤ k) ⟨BJ4.out.os, BJ4.out.tape, BJ4.out.output, BJ4.out.size, fun k hk hn => BJ4.out.block k (Nat.lt_of_not_le hn)⟩ (fun k hk e => by have := OL.out.lt k hk; have e2 : q ≤ k := e; have := hq.out; omega) (fun k _ hk e => by have e2 : q ≤ k := e; have := hq.out; omega)).rd
                    rw [HE.out] at this
                    exact this
                  have HBE : Hid (Below w.heap.size w W4) := BW.out.trans (BJ4.out.mono (by rw [← hq.out]; exact BW.out.size))
                  go_wp2_with fail
                  try rw [Exit.noGoto_ret]
                  go_ret2
                  exact ⟨_, rfl, HRD.out, HBE.out⟩
              · have hq2 : ∀ W, (Op.equalIn 10000 77 (.agg #[.int .i64 (P : Int), .int .i64 (M : Int), .int .i64 (G : Int), .int .i64 (N : Int)]) (.agg #[.int .i64 (i : Int), .int .i64 (m : Int), .int .i64 (g : Int), .int .i64 (n1 : Int)])).run Try.prog W = .ok false W := fun W => by rw [eq_mk W, decide_eq_false hmk]
                have HMK := hideP hmk
                clear hmk
                have HBAD : Hid (¬ (a < 50 ∧ JGood f g n1 a)) := BG.out.bad (m' := m) hit (by rw [if_neg HZ.out]) (by rw [HPE.out, hX.out, HISP.out m]; intro hh; exact HMK.out ⟨by omega, by omega, by omega, by omega⟩)
                have HE : Hid (rows = R) := by
                  show _ = _
                  have := HRN.out
                  rw [jrun_end f g _ _ a HBAD.out, List.append_nil] at this
                  exact this
                have HRD : Hid (RdL W4 (.slice ra n rc) R) := by
                  have := (OL.out.tch (S := fun k => q ≤ k) ⟨BJ4.out.os, BJ4.out.tape, BJ4.out.output, BJ4.out.size, fun k hk hn => BJ4.out.block k (Nat.lt_of_not_le hn)⟩ (fun k hk e => by have := OL.out.lt k hk; have e2 : q ≤ k := e; have := hq.out; omega) (fun k _ hk e => by have e2 : q ≤ k := e; have := hq.out; omega)).rd
                  rw [HE.out] at this
                  exact this
                have HBE : Hid (Below w.heap.size w W4) := BW.out.trans (BJ4.out.mono (by rw [← hq.out]; exact BW.out.size))
                go_wp2_with fail
                try rw [Exit.noGoto_ret]
                go_ret2
                exact ⟨_, rfl, HRD.out, HBE.out⟩
        · have hit1 : ¬ (i : Int) < (m : Int) := by omega
          obtain ⟨JG, hi2, hm2⟩ := BG.out.good hit
          have HJG := hideP JG
          have HMM : Hid (m = jmn f a) := hm2
          have hmA : a + m ≤ 50 := by rw [hm2]; exact JG.2.1
          have hmp : 1 ≤ m := by rw [hm2]; exact JG.1
          have HII : Hid (i = jmn f a) := hi2
          clear JG hi2 hm2
          have OLJ : Hid (OwL (fun _ => True) wj (.slice ra n rc) rows) := OL.out.tch (S := fun k => q ≤ k) ⟨BJ.out.os, BJ.out.tape, BJ.out.output, BJ.out.size, fun k hk hn => BJ.out.block k (Nat.lt_of_not_le hn)⟩ (fun k hk e => by have := OL.out.lt k hk; have e2 : q ≤ k := e; have := hq.out; omega) (fun k _ hk e => by have e2 : q ≤ k := e; have := hq.out; omega)
          have HUE : Hid (∀ k, (Value.slice ea el ec).ownBlock = some k → jdat f a i ≠ [] → True ∧ k < wj.heap.size ∧ (Value.slice ra n rc).ownBlock ≠ some k) := fun k hk _ => ⟨trivial, OW.out.lt k hk, fun e => by have := OL.out.lt k e; have := NR.out k hk; have := hq.out; omega⟩
          obtain ⟨aM, haM⟩ : ∃ x, a + m = x := ⟨_, rfl⟩
          have hmA1 : (a : Int) + (m : Int) = (aM : Int) := by omega
          have haM5 : aM ≤ 50 := by omega
          have HAM : Hid (a + m = aM) := haM
          clear haM
          have HRL2 : Hid (rows.length + 1 ≤ 2000000000000) := by show _ ≤ _; rw [hn.out]; omega
          have ORD := hideP OW.out.rd
          have c1k := c1
          go_wp2_with (at_builtin; refine wpList_pushL wj rfl (.tmp 71) (.tmp 73) rfl (.slice ra n rc) rows rfl OLJ.out (.slice ea el ec) (jdat f a i) ORD.out HUE.out rfl HRL2.out ?_)
          intro rv2 w5 OL5 GR5
          have OL5 := hideP OL5
          have Q5 : Hid (Bo w5 q 77 [.int .i64 (i : Int), .int .i64 (m : Int), .int .i64 (g : Int), .int .i64 (n1 : Int)]) := Q.out.tch GR5.tch (fun e => by have := OL.out.lt q e; have := hq.out; omega)
          have B5 : Hid (Below w.heap.size w w5) := BWJ.out.trans (GR5.tch.below BWJ.out.size (fun k e => NW.out k e))
          have N5 : Hid (∀ j, rv2.ownBlock = some j → w.heap.size ≤ j) := fun j hj => by
            rcases GR5.fresh j hj with e | e
            · exact NW.out j e
            · exact Nat.le_trans BWJ.out.size e
          have d1 := Q5.out.cell (i := 1) rfl
          obtain ⟨gj, hgj⟩ : ∃ gj, gO = gj + 1 := ⟨gO - 1, by omega⟩
          have HRN5 : Hid ((rows ++ [jdat f a i]) ++ jrun f g gj ((rows ++ [jdat f a i]).length + 1) aM = R) := by
            show _ = _
            rw [← HRN.out, hgj, ← hnn.out, ← hn.out, jrun_go hlt (by rw [hn.out, hnn.out]; exact HJG.out), ← HAM.out, HMM.out, HII.out]
            simp
          obtain ⟨va5, vc5, hv5, _, _⟩ := OL5.out.len
          subst hv5
          clear GR5 c0 c1 c1k g0 g1 Q OW OLJ HUE ORD BJ
          go_wp2_with fail
          go_roundg gj
          case measure => omega
          case rel => exact ⟨aM, rows ++ [jdat f a i], by go_num, by have := HAM.out; omega, by omega, by have := HAM.out; omega, OL5, by show _ ≤ _; rw [List.length_append, hn.out]; have := HRL.out; have := HAM.out; simp; omega, HRN5, B5, N5⟩
    · have hnl : ¬ (a : Int) < 50 := by omega
      have HE : Hid (rows = R) := by
        show _ = _
        have := HRN.out
        rw [jrun_end f g _ _ a (by omega), List.append_nil] at this
        exact this
      have HRD := hideP OL.out.rd
      rw [HE.out] at HRD
      go_wp2_with fail
      go_ret2
      exact ⟨_, rfl, HRD.out, BW.out⟩
end Go.Proofs.Ytaacidgihhcpkaa
/-
  A journal over a disk, both new since w0.
-/
namespace Go.Proofs.Ytaacidgihhcpkaa
open Go.RowKit Go.Maps Pl
set_option linter.unusedVariables false
set_option linter.unusedSimpArgs false
set_option maxRecDepth 100000

structure Jd (S : Nat → Prop) (w0 w : World) (d : Nat) (s : DS) (j g m a : Nat) : Prop where
  dk : Dk S w d s
  be : Below w0.heap.size w0 w
  s0 : ∀ k, S k → w0.heap.size ≤ k
  jb : Jb w j d g m a
  nj : ¬ S j
  j0 : w0.heap.size ≤ j
  a2 : 2 ≤ a
  a5 : a ≤ 50
  l5 : 50 ≤ s.L.length
  g1 : 1 ≤ g
  g2 : g ≤ 4294967295
  m2 : m ≤ 48
section
variable {S : Nat → Prop} {w0 w w' : World} {d : Nat} {s : DS} {j g m a : Nat} {v : Value}
theorem Jd.below (h : Jd S w0 w d s j g m a) (hb : Below w.heap.size w w') : Jd S w0 w' d s j g m a :=
  { h with dk := h.dk.below hb, be := h.be.trans (hb.mono h.be.size), jb := Bo.below h.jb hb }
theorem Jd.dkTo (h : Jd S w0 w d s j g m a) {s' : DS} (hd : DkTo S w w' d s') (hL : s'.L.length = s.L.length) : ∃ S', Jd S' w0 w' d s' j g m a := by
  obtain ⟨S', h1, h2, h3⟩ := hd
  refine ⟨S', { h with dk := h1, be := h.be.trans (h2.below h.be.size h.s0), s0 := fun k hk => ?_, jb := Bo.tch h.jb h2 h.nj, nj := fun e => ?_, l5 := by rw [hL]; exact h.l5 }⟩
  · rcases h3 k hk with e | e
    · exact h.s0 k e
    · exact Nat.le_trans h.be.size e
  · rcases h3 j e with e | e
    · exact h.nj e
    · have := Bo.lt h.jb; omega
theorem Jd.dkTo2 (h : Jd S w0 w d s j g m a) {s' : DS} (hd : DkTo S w w' d s') (hL : s'.L.length = s.L.length) : ∃ S', Jd S' w0 w' d s' j g m a ∧ Tch S w w' ∧ ∀ k, S' k → S k ∨ w.heap.size ≤ k := by
  obtain ⟨S', h1, h2, h3⟩ := hd
  refine ⟨S', { h with dk := h1, be := h.be.trans (h2.below h.be.size h.s0), s0 := fun k hk => ?_, jb := Bo.tch h.jb h2 h.nj, nj := fun e => ?_, l5 := by rw [hL]; exact h.l5 }, h2, h3⟩
  · rcases h3 k hk with e | e
    · exact h.s0 k e
    · exact Nat.le_trans h.be.size e
  · rcases h3 j e with e | e
    · exact h.nj e
    · have := Bo.lt h.jb; omega
/-- A value of one's own, beside disk and journal. -/
def Ap (S : Nat → Prop) (w0 w : World) (j : Nat) (v : Value) : Prop := ∀ k, v.ownBlock = some k → w0.heap.size ≤ k ∧ ¬ S k ∧ k ≠ j ∧ k < w.heap.size
theorem Ap.app {S S' : Nat → Prop} {w0 w w' : World} {j : Nat} {v : Value} (h : Ap S w0 w j v) (ht : w.heap.size ≤ w'.heap.size) (hn : ∀ k, S' k → S k ∨ w.heap.size ≤ k) : Ap S' w0 w' j v := fun k hk => by
  obtain ⟨h1, h2, h3, h4⟩ := h k hk
  refine ⟨h1, fun e => ?_, h3, Nat.lt_of_lt_of_le h4 ht⟩
  rcases hn k e with e | e
  · exact h2 e
  · omega
theorem Ap.not (h : Ap S w0 w j v) : ∀ k, v.ownBlock = some k → ¬ (S k ∨ k = j) := fun k hk e => by
  obtain ⟨h1, h2, h3, h4⟩ := h k hk
  rcases e with e | e
  · exact h2 e
  · exact h3 e
theorem Ap.below (h : Ap S w0 w j v) (hb : Below w.heap.size w w') : Ap S w0 w' j v := fun k hk => ⟨(h k hk).1, (h k hk).2.1, (h k hk).2.2.1, Nat.lt_of_lt_of_le (h k hk).2.2.2 hb.size⟩
/-- One's own value grows. -/
theorem Jd.grew (h : Jd S w0 w d s j g m a) {v v' : Value} (hg : Grew w w' v v') (hv : Ap S w0 w j v) : Jd S w0 w' d s j g m a :=
  { h with dk := h.dk.tch hg.tch (fun k hk e => (hv k e).2.1 hk), be := h.be.trans (hg.tch.below h.be.size (fun k e => (hv k e).1)), jb := Bo.tch h.jb hg.tch (fun e => (hv j e).2.2.1 rfl) }
theorem Ap.grew {S : Nat → Prop} {w0 w w' : World} {j d : Nat} {s : DS} {g m a : Nat} (hj : Jd S w0 w d s j g m a) {v v' : Value} (hg : Grew w w' v v') (hv : Ap S w0 w j v) (hl : ∀ k, v'.ownBlock = some k → k < w'.heap.size) : Ap S w0 w' j v' := fun k hk => by
  rcases hg.fresh k hk with e | e
  · exact ⟨(hv k e).1, (hv k e).2.1, (hv k e).2.2.1, hl k hk⟩
  · exact ⟨Nat.le_trans hj.be.size e, fun hS => by have := hj.dk.slt k hS; omega, fun ej => by have := Bo.lt hj.jb; omega, hl k hk⟩
theorem Jd.arg (h : Jd S w0 w d s j g m a) {v : Value} {ys : List Int} (hr : Rd .u8 w0 v ys) : Rd .u8 w v ys ∧ ∀ k, v.ownBlock = some k → ys ≠ [] → ¬ S k :=
  ⟨hr.below h.be, fun k hk h0 e => by have := hr.blk_lt h0 hk; have := h.s0 k e; omega⟩

/-- What an Append does. -/
def ApJ (S : Nat → Prop) (w0 w : World) (d : Nat) (s : DS) (j g m a : Nat) (ys : List Int) (e : Ending) (w' : World) : Prop :=
  (npc ys.length ≤ 50 - a ∧ e = .returned (.int .i64 0) ∧ ∃ S', Jd S' w0 w' d (jap s g (m + 1) a ys (npc ys.length)) j g (m + 1) (a + npc ys.length) ∧ Tch (fun k => S k ∨ k = j) w w' ∧ ∀ k, S' k → S k ∨ w.heap.size ≤ k) ∨ (¬ npc ys.length ≤ 50 - a ∧ e = .returned (.int .i64 11) ∧ w' = w)
theorem appJ (h : Jd S w0 w d s j g m a) (hm : m + 2 ≤ a) (v : Value) (ys : List Int) (hr : Rd .u8 w v ys) (hb : By ys) (hv : ∀ k, v.ownBlock = some k → ys ≠ [] → ¬ S k) (hV : ∀ i, (s.V i).length < 274877906000) :
    Calls Try.prog 13 #[.pointer (some ⟨j, 0, none⟩), v] w fun e w' => ApJ S w0 w d s j g m a ys e w' := by
  refine (append_any j g m a v ys w h.dk h.jb h.nj hr hb hv h.l5 h.a2 h.a5 (by have := h.g2; omega) (by have := h.m2; omega) hV).mono ?_
  rintro e w' (⟨h1, rfl, S', d1, j1, t1, n1⟩ | ⟨h1, rfl, rfl⟩)
  · have hp := npc_pos ys.length
    have := h.a5
    refine .inl ⟨h1, rfl, S', ⟨d1, h.be.trans (t1.below h.be.size (fun k e => ?_)), fun k hk => ?_, j1, fun e => ?_, h.j0, by have := h.a2; omega, by omega, by rw [jap_L]; exact h.l5, h.g1, h.g2, by omega⟩, t1, n1⟩
    · rcases e with e | e
      · exact h.s0 k e
      · rw [e]; exact h.j0
    · rcases n1 k hk with e | e
      · exact h.s0 k e
      · exact Nat.le_trans h.be.size e
    · rcases n1 j e with e | e
      · exact h.nj e
      · have := Bo.lt h.jb; omega
  · exact .inr ⟨h1, rfl, rfl⟩
/-- A journal begins over the same disk. -/
theorem Jd.again (h : Jd S w0 w d s j g m a) {g' : Nat} (hg1 : 1 ≤ g') (hg2 : g' ≤ 4294967295) (hj : Jb w' w.heap.size d g' 0 2) (hb : Below w.heap.size w w') : Jd S w0 w' d s w.heap.size g' 0 2 :=
  ⟨h.dk.below hb, h.be.trans (hb.mono h.be.size), h.s0, hj, fun e => by have := h.dk.slt _ e; omega, h.be.size, by omega, by omega, h.l5, hg1, hg2, by omega⟩
end
theorem jd_new {S : Nat → Prop} {w0 w w' : World} {d : Nat} {s : DS} (h : Dk S w d s) (be : Below w0.heap.size w0 w) (s0 : ∀ k, S k → w0.heap.size ≤ k) (l5 : 50 ≤ s.L.length) {g : Nat} (hg1 : 1 ≤ g) (hg2 : g ≤ 4294967295) (hj : Jb w' w.heap.size d g 0 2) (hb : Below w.heap.size w w') : Jd S w0 w' d s w.heap.size g 0 2 :=
  ⟨h.below hb, be.trans (hb.mono be.size), s0, hj, fun e => by have := h.slt _ e; omega, be.size, by omega, by omega, l5, hg1, hg2, by omega⟩
theorem new_V (n i : Nat) : (DS.new n).V i = [] := rfl
theorem new_has {n i : Nat} (h : i < n) : (DS.new n).has i = zz := by
  unfold DS.has DS.new
  simp [List.getD_eq_getElem?_getD, h]
end Go.Proofs.Ytaacidgihhcpkaa
/-
  A journal with its records, beside rows of what was appended.
-/
namespace Go.Proofs.Ytaacidgihhcpkaa
open Go.RowKit Go.Maps Pl
set_option linter.unusedVariables false
set_option linter.unusedSimpArgs false
set_option maxRecDepth 100000

theorem sizeL (w : World) : (sizeOf (Try.prog.elem 46)).run Try.prog w = .ok 1 w := by
  have h : (Try.prog.info? (Try.prog.elem 46)).map (·.size) = some 1 := by kernel_rfl
  obtain ⟨i, hi, hs⟩ := Option.map_eq_some_iff.1 h
  simp [sizeOf, typeInfo, hi, hs]
theorem underL : Try.prog.underlying 46 = some (.slice (Try.prog.elem 46)) := by
  have : Try.prog.elem 46 = 36 := by kernel_rfl
  rw [this]
  exact Try.underlying46
/-- 'v[:m]' of rows. -/
theorem slice_rows (a : Option Addr) (n cap m : Nat) (hm : m ≤ n) (hn : n ≤ cap) (w : World) : (Instr.sliceAt 46 (.slice a n cap) none (some (.int .i64 (m : Int))) none).run Try.prog w = .ok (.slice a m cap) w := by
  rw [run_sliceAt_slice _ _ _ _ _ _ underL, run_slice_h _ _ _ _ _ underL _ _ (by omega) (by omega), sizeL]
  simp [Result.andThen, sliced]
  intro _
  cases a <;> simp [Addr.add]
theorem elemI : Elem Try.prog 37 3 .i64 8 := ⟨Try.underlying37, info_parts (z := .int .i64 0) (size := 1) (bytes := 8) (by kernel_rfl)⟩

/-- What the loop holds. -/
structure Ro (E S : Nat → Prop) (w wr : World) (d : Nat) (s : DS) (j g : Nat) (rows : List (List Int)) (av : Value) : Prop where
  jd : Jd S w wr d s j g rows.length (stt rows rows.length)
  al : OwL E wr av rows
  aa : Ap S w wr j av
  cu : ∀ r, r < rows.length → CurAt s.has g (r + 1) (stt rows r) (rows.getD r [])
  vi : VI s (stt rows rows.length)
  c0 : s.c = false
  l6 : s.L.length = 60
  by_ : ∀ y ∈ rows, By y
theorem Ro.len {E S : Nat → Prop} {w wr : World} {d : Nat} {s : DS} {j g : Nat} {rows : List (List Int)} {av : Value} (h : Ro E S w wr d s j g rows av) : rows.length + 2 ≤ stt rows rows.length := by
  have := stt_mono (rows := rows) (r := 0) (q := rows.length) (by omega) (Nat.le_refl _)
  rw [stt_0] at this
  omega

theorem OwL.mono {E E' : Nat → Prop} {w : World} {v : Value} {rows : List (List Int)} (h : OwL E w v rows) (hE : ∀ k, k < w.heap.size → E k → E' k) : OwL E' w v rows := by
  obtain ⟨us, h1, h2, h3⟩ := h
  exact ⟨us, h1, h2, fun i u hu => ⟨(h3 i u hu).1, fun k hk h0 => ⟨hE k ((h3 i u hu).2 k hk h0).2.1 ((h3 i u hu).2 k hk h0).1, ((h3 i u hu).2 k hk h0).2⟩⟩⟩
end Go.Proofs.Ytaacidgihhcpkaa
