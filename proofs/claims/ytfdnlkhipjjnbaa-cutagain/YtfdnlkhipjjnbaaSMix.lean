/-
  The program's rounds: a piece is added to the eight words.
-/
import Derived.Test.YtfdnlkhipjjnbaaSWd
import Derived.Test.YtfdnlkhipjjnbaaSArr
import Derived.StillTailTactics
namespace Go.Proofs.Ytfdnlkhipjjnbaa
open Go.RowKit Pl
set_option linter.unusedVariables false

theorem run_index8 (w : World) (C : Array Value) (n : Nat) (v : Value) (hn : n < 8) (hv : C[n]? = some v) : (Instr.index 34 (.agg C) (.int .i64 (n : Int))).run Try.prog w = .ok v w := by
  have hu : Try.prog.underlying 34 = some (.array 8 33) := Try.underlying34
  have hs : (Try.prog.info? 33).map (·.size) = some 1 := by kernel_rfl
  obtain ⟨i, hi, hsz⟩ := Option.map_eq_some_iff.1 hs
  have hsi : (sizeOf 33).run Try.prog w = .ok 1 w := by simp [sizeOf, typeInfo, hi, hsz]
  have hag : (isAgg 33).run Try.prog w = .ok false w := by
    unfold isAgg
    rw [Sem.run_bind, run_underlying Try.underlying33 w]
    rfl
  have hc : (0 : Int) ≤ (n : Int) ∧ (n : Int) < ((8 : Nat) : Int) := ⟨by omega, by omega⟩
  simp only [Instr.index, asIntOf, Sem.run_bind, Sem.run_pure, Result.andThen_ok, run_underlying hu w, if_pos hc, hsi, part, hag, Int.toNat_natCast, Nat.mul_one, hv]
  rfl

theorem wpList_index8 (w : World) {ops : Array Oper} {rest : List Oper} {o : Oper} {a : Act} {Q : Exit → Act → World → Prop} (hgd : o.guard = none) (x i : Operand)
    (ho : o.op = .index 34 x i) (C : Array Value) (n : Nat) (v : Value) (hx : a.eval x = .agg C) (hi : a.eval i = .int .i64 (n : Int)) (hn : n < 8) (hv : C[n]? = some v)
    (h : wpList Try.prog ops Q rest (a.put o.dst v) w) : wpList Try.prog ops Q (o :: rest) a w := by
  refine wpList_plain hgd fun K hK => ?_
  have hrun := run_index8 w C n v hn hv
  unfold Oper.wp execOp
  simp only [ho, hx, hi, Sem.run_bind, hrun, Result.andThen_ok, Sem.run_pure]
  exact hK _ _ h

/-- The eight words, those below n already added. -/
def half (s r : St) (n i : Nat) : Nat := if i < n then (s.at_ i + r.at_ i) % 4294967296 else s.at_ i
theorem half_step (s r : St) (n i : Nat) : updN (half s r n) n ((s.at_ n + r.at_ n) % 4294967296) i = half s r (n + 1) i := by
  unfold updN half
  by_cases e : i = n
  · subst e; rw [if_pos rfl, if_pos (by omega)]
  · rw [if_neg e]
    by_cases c : i < n
    · rw [if_pos c, if_pos (by omega)]
    · rw [if_neg c, if_neg (by omega)]

set_option maxRecDepth 100000 in
set_option maxHeartbeats 4000000 in
theorem mix_any (sg kg wg : Nat) (s : St) (k w : Nat → Nat) (W : World) (hs : Uv .u32 W sg 35 8 s.at_) (hk : Uv .u32 W kg 37 64 k) (hw : Uv .u32 W wg 37 64 w)
    (ho : s.ok) (hkl : ∀ i, k i < 4294967296) (hwl : ∀ i, w i < 4294967296) :
    Calls Try.prog 31 #[.pointer (some ⟨sg, 0, none⟩), .pointer (some ⟨kg, 0, none⟩), .pointer (some ⟨wg, 0, none⟩)] W fun e w' => e = .returned (.tuple #[]) ∧ Uv .u32 w' sg 35 8 (mixS k w s).at_ ∧ Tch (fun b => b = sg) W w' := by
  have HS : Hid (Uv .u32 W sg 35 8 s.at_) := hs
  have HK : Hid (Uv .u32 W kg 37 64 k) := hk
  have HW : Hid (Uv .u32 W wg 37 64 w) := hw
  have HO : Hid s.ok := ho
  have HKL : Hid (∀ i, k i < 4294967296) := hkl
  have HWL : Hid (∀ i, w i < 4294967296) := hwl
  have c0 : W.cell? ⟨sg, 0, none⟩ = some (.int .u32 (s.a : Int)) := hs.at_ 0 (by decide)
  have c1 : W.cell? ⟨sg, 1, none⟩ = some (.int .u32 (s.b : Int)) := hs.at_ 1 (by decide)
  have c2 : W.cell? ⟨sg, 2, none⟩ = some (.int .u32 (s.c : Int)) := hs.at_ 2 (by decide)
  have c3 : W.cell? ⟨sg, 3, none⟩ = some (.int .u32 (s.d : Int)) := hs.at_ 3 (by decide)
  have c4 : W.cell? ⟨sg, 4, none⟩ = some (.int .u32 (s.e : Int)) := hs.at_ 4 (by decide)
  have c5 : W.cell? ⟨sg, 5, none⟩ = some (.int .u32 (s.f : Int)) := hs.at_ 5 (by decide)
  have c6 : W.cell? ⟨sg, 6, none⟩ = some (.int .u32 (s.g : Int)) := hs.at_ 6 (by decide)
  have c7 : W.cell? ⟨sg, 7, none⟩ = some (.int .u32 (s.h : Int)) := hs.at_ 7 (by decide)
  clear hs hk hw ho hkl hwl
  go_enter Try.func31, Try.ntmps31
  go_wp2_with fail
  go_quiet (fail)
  go_wp2_with fail
  clear c0 c1 c2 c3 c4 c5 c6 c7
  go_loopw [6, 7, 8, 9, 10, 11, 12, 13, 51] (fun xa xb xc xd xe xf xg xh i wr => ∃ (n : Nat) (r : St), n ≤ 64 ∧ i = .int .i64 n ∧ xa = .int .u32 r.a ∧ xb = .int .u32 r.b ∧ xc = .int .u32 r.c ∧ xd = .int .u32 r.d ∧ xe = .int .u32 r.e ∧ xf = .int .u32 r.f ∧ xg = .int .u32 r.g ∧ xh = .int .u32 r.h ∧ Hid (rns k w s n = r) ∧ Hid (Tch (fun _ => False) W wr)) (fun _ _ _ _ _ _ _ _ i _ => 64 - (intOf i).toNat)
  case atStart => exact ⟨0, s, Nat.zero_le _, rfl, rfl, rfl, rfl, rfl, rfl, rfl, rfl, rfl, rfl, ⟨rfl, rfl, rfl, Nat.le_refl _, fun _ _ _ => rfl⟩⟩
  case round =>
    obtain ⟨n, r, hn, rfl, rfl, rfl, rfl, rfl, rfl, rfl, rfl, rfl, HR, T⟩ := hrel
    by_cases hlt : n < 64
    · have hr : r.ok := by rw [← HR.out]; exact rns_ok HO.out k w n
      have HN : Hid (rns k w s (n + 1) = rnd r (k n) (w n)) := by show _ = _; simp only [rns]; rw [HR.out]
      have ck := (HK.out.tch T.out (fun e => e)).at_ n hlt
      have cw := (HW.out.tch T.out (fun e => e)).at_ n hlt
      have lk := HKL.out n
      have lw := HWL.out n
      obtain ⟨K, hK⟩ : ∃ V, k n = V := ⟨_, rfl⟩
      obtain ⟨V, hV⟩ : ∃ V, w n = V := ⟨_, rfl⟩
      rw [hK] at ck lk HN
      rw [hV] at cw lw HN
      clear hK hV HR
      obtain ⟨a, b, c, d, e, f, g, h⟩ := r
      obtain ⟨ha, hb, hc, hd, he, hf, hg, hh⟩ := hr
      simp only at ha hb hc hd he hf hg hh ⊢
      have t6 : ∀ W, Calls Try.prog 35 #[.int .u32 e, .int .i64 6] W fun x w' => x = .returned (.int .u32 (rot 6 e : Int)) ∧ w' = W := fun W => turn_any e 6 W (by decide) (by decide) he
      have t11 : ∀ W, Calls Try.prog 35 #[.int .u32 e, .int .i64 11] W fun x w' => x = .returned (.int .u32 (rot 11 e : Int)) ∧ w' = W := fun W => turn_any e 11 W (by decide) (by decide) he
      have t25 : ∀ W, Calls Try.prog 35 #[.int .u32 e, .int .i64 25] W fun x w' => x = .returned (.int .u32 (rot 25 e : Int)) ∧ w' = W := fun W => turn_any e 25 W (by decide) (by decide) he
      have t2 : ∀ W, Calls Try.prog 35 #[.int .u32 a, .int .i64 2] W fun x w' => x = .returned (.int .u32 (rot 2 a : Int)) ∧ w' = W := fun W => turn_any a 2 W (by decide) (by decide) ha
      have t13 : ∀ W, Calls Try.prog 35 #[.int .u32 a, .int .i64 13] W fun x w' => x = .returned (.int .u32 (rot 13 a : Int)) ∧ w' = W := fun W => turn_any a 13 W (by decide) (by decide) ha
      have t22 : ∀ W, Calls Try.prog 35 #[.int .u32 a, .int .i64 22] W fun x w' => x = .returned (.int .u32 (rot 22 a : Int)) ∧ w' = W := fun W => turn_any a 22 W (by decide) (by decide) ha
      have r6 := rot_lt 6 e (by decide) (by decide) he
      have r11 := rot_lt 11 e (by decide) (by decide) he
      have r25 := rot_lt 25 e (by decide) (by decide) he
      have r2 := rot_lt 2 a (by decide) (by decide) ha
      have r13 := rot_lt 13 a (by decide) (by decide) ha
      have r22 := rot_lt 22 a (by decide) (by decide) ha
      have x1 := u32_xor_nat _ _ r6 r11
      have x2 : Go.bits .xor .u32 ((rot 6 e ^^^ rot 11 e : Nat) : Int) (rot 25 e : Int) = (s1 e : Int) := u32_xor_nat _ _ (xor_lt r6 r11) r25
      have x3 := u32_xor_nat _ _ r2 r13
      have x4 : Go.bits .xor .u32 ((rot 2 a ^^^ rot 13 a : Nat) : Int) (rot 22 a : Int) = (s0 a : Int) := u32_xor_nat _ _ (xor_lt r2 r13) r22
      have n1 := not_prog e he
      have n1' : Go.bits .xor .u32 (if IntKind.u32.signed = true then -1 else IntKind.u32.max) (e : Int) = ((4294967295 - e : Nat) : Int) := not_prog e he
      have n2 := u32_and_nat e f he hf
      have n3 := u32_and_nat (4294967295 - e) g (by omega) hg
      have n4 : Go.bits .xor .u32 ((e &&& f : Nat) : Int) (((4294967295 - e) &&& g : Nat) : Int) = (ch e f g : Int) := u32_xor_nat _ _ (and_lt _ hf) (and_lt _ hg)
      have m1 := u32_and_nat a b ha hb
      have m2 := u32_and_nat a c ha hc
      have m3 := u32_and_nat b c hb hc
      have m4 := u32_xor_nat _ _ (and_lt a hb) (and_lt a hc)
      have m5 : Go.bits .xor .u32 (((a &&& b) ^^^ (a &&& c) : Nat) : Int) ((b &&& c : Nat) : Int) = (mj a b c : Int) := u32_xor_nat _ _ (xor_lt (and_lt _ hb) (and_lt _ hc)) (and_lt _ hc)
      have l1 := s1_lt he
      have l2 := s0_lt ha
      have l3 := ch_lt (e := e) hf hg
      have l4 := mj_lt (a := a) hb hc
      simp only [rnd, tt, uu] at HN
      generalize s1 e = S1 at *
      generalize s0 a = S0 at *
      generalize ch e f g = CH at *
      generalize mj a b c = MJ at *
      generalize rot 6 e = R6 at *
      generalize rot 11 e = R11 at *
      generalize rot 25 e = R25 at *
      generalize rot 2 a = R2 at *
      generalize rot 13 a = R13 at *
      generalize rot 22 a = R22 at *
      generalize R6 ^^^ R11 = X6 at *
      generalize R2 ^^^ R13 = X2 at *
      generalize (4294967295 - e) &&& g = NG at *
      generalize e &&& f = EF at *
      generalize (a &&& b) ^^^ (a &&& c) = AA at *
      generalize a &&& b = AB at *
      generalize a &&& c = AC at *
      generalize b &&& c = BC at *
      obtain ⟨NE, hNE⟩ : ∃ N, 4294967295 - e = N := ⟨_, rfl⟩
      rw [hNE] at n1 n1' n3
      obtain ⟨T1, hT1⟩ : ∃ Y, (h + S1) % 4294967296 = Y := ⟨_, rfl⟩
      obtain ⟨T2, hT2⟩ : ∃ Y, (T1 + CH) % 4294967296 = Y := ⟨_, rfl⟩
      obtain ⟨T3, hT3⟩ : ∃ Y, (T2 + K) % 4294967296 = Y := ⟨_, rfl⟩
      obtain ⟨T4, hT4⟩ : ∃ Y, (h + S1 + CH + K + V) % 4294967296 = Y := ⟨_, rfl⟩
      obtain ⟨U, hU⟩ : ∃ Y, (S0 + MJ) % 4294967296 = Y := ⟨_, rfl⟩
      rw [hT4, hU] at HN
      obtain ⟨A', hA'⟩ : ∃ Y, (T4 + U) % 4294967296 = Y := ⟨_, rfl⟩
      obtain ⟨D', hD'⟩ : ∃ Y, (d + T4) % 4294967296 = Y := ⟨_, rfl⟩
      rw [hA', hD'] at HN
      have y1 : ((h : Int) + (S1 : Int)) % 4294967296 = (T1 : Int) := by omega
      have y2 : ((T1 : Int) + (CH : Int)) % 4294967296 = (T2 : Int) := by omega
      have y3 : ((T2 : Int) + (K : Int)) % 4294967296 = (T3 : Int) := by omega
      have y4 : ((T3 : Int) + (V : Int)) % 4294967296 = (T4 : Int) := by omega
      have y5 : ((S0 : Int) + (MJ : Int)) % 4294967296 = (U : Int) := by omega
      have y6 : ((T4 : Int) + (U : Int)) % 4294967296 = (A' : Int) := by omega
      have y7 : ((d : Int) + (T4 : Int)) % 4294967296 = (D' : Int) := by omega
      have hi0 : (n : Int) < 64 := by omega
      clear hNE hT1 hT2 hT3 hT4 hU hA' hD' r6 r11 r25 r2 r13 r22 l1 l2 l3 l4 ha hb hc hd he hf hg hh lk lw
      go_wp2_with fail
      go_quiet (first | (go_at_call 35; exact Calls.quiet_of_same (t6 _)) | (go_at_call 35; exact Calls.quiet_of_same (t11 _)) | (go_at_call 35; exact Calls.quiet_of_same (t25 _)))
      have T5 : Hid (Tch (fun _ => False) W (wr.drewN nq)) := ⟨T.out.os, T.out.tape, T.out.output, T.out.size, T.out.block⟩
      obtain ⟨W1, hW1⟩ : ∃ W1, Hid (wr.drewN nq = W1) := ⟨_, rfl⟩
      rw [hW1.out] at T5 ⊢
      clear T ck cw hW1 t6 t11 t25 x1 x2 n1 n1' n2 n3 n4
      go_wp2_with (first | (go_at_call 35; refine (t2 _).mono ?_; rintro _ _ ⟨rfl, rfl⟩) | (go_at_call 35; refine (t13 _).mono ?_; rintro _ _ ⟨rfl, rfl⟩) | (go_at_call 35; refine (t22 _).mono ?_; rintro _ _ ⟨rfl, rfl⟩))
      go_roundw
      case rel => exact ⟨n + 1, ⟨A', a, b, c, D', e, f, g⟩, by omega, by go_num, by first | rfl | rw [y6], rfl, rfl, rfl, by first | rfl | rw [y7], rfl, rfl, rfl, HN, T5⟩
      case measure => simp [intOf]; omega
    · have hn0 : n = 64 := by omega
      rw [hn0] at HR
      have hnn : ¬ (n : Int) < 64 := by omega
      have HAG : Hid (∀ m, m < 8 → (#[.int .u32 (r.a : Int), .int .u32 (r.b : Int), .int .u32 (r.c : Int), .int .u32 (r.d : Int), .int .u32 (r.e : Int), .int .u32 (r.f : Int), .int .u32 (r.g : Int), .int .u32 (r.h : Int)] : Array Value)[m]? = some (.int .u32 (r.at_ m : Int))) := fun m hm => by
        match m, hm with
        | 0, _ => rfl | 1, _ => rfl | 2, _ => rfl | 3, _ => rfl | 4, _ => rfl | 5, _ => rfl | 6, _ => rfl | 7, _ => rfl
      have hr : r.ok := by rw [← HR.out]; exact rns_ok HO.out k w 64
      have HRO : Hid r.ok := hr
      have H0 : Hid (Uv .u32 wr sg 35 8 (half s r 0)) := (HS.out.tch T.out (fun e => e)).congr (fun i _ => by simp [half])
      have T0 : Hid (Tch (fun b => b = sg) W wr) := T.out.mono (fun _ _ e => e.elim)
      clear hlt hr
      go_wp2_with fail
      clear hn hnn hn0 T
      go_loopw [127] (fun i wr => ∃ m : Nat, m ≤ 8 ∧ i = .int .i64 m ∧ Hid (Uv .u32 wr sg 35 8 (half s r m)) ∧ Hid (Tch (fun b => b = sg) W wr)) (fun i _ => 8 - (intOf i).toNat)
      case atStart => exact ⟨0, Nat.zero_le _, rfl, H0, T0⟩
      case round =>
        clear H0 T0
        obtain ⟨m, hm, rfl, H1, T1⟩ := hrel
        by_cases hlt : m < 8
        · have cm := H1.out.at_ m hlt
          have fm := H1.out.fz m
          have hhm : half s r m m = s.at_ m := by unfold half; rw [if_neg (by omega)]
          rw [hhm] at cm
          have hP := HO.out.at_ m
          have hQ := HRO.out.at_ m
          obtain ⟨Y, hY⟩ : ∃ Y, (s.at_ m + r.at_ m) % 4294967296 = Y := ⟨_, rfl⟩
          have H2 : Hid (Uv .u32 (wr.setCell ⟨sg, m, none⟩ (.int .u32 (Y : Int))) sg 35 8 (half s r (m + 1))) := by
            rw [← hY]
            exact (H1.out.set m hlt _).congr (fun i _ => half_step s r m i)
          have T2 : Hid (Tch (fun b => b = sg) W (wr.setCell ⟨sg, m, none⟩ (.int .u32 (Y : Int)))) := Tch.setCell T1.out (p := ⟨sg, m, none⟩) (fun _ => rfl) _
          obtain ⟨P, hPe⟩ : ∃ P, s.at_ m = P := ⟨_, rfl⟩
          obtain ⟨Q, hQe⟩ : ∃ Q, r.at_ m = Q := ⟨_, rfl⟩
          have hag := HAG.out m hlt
          rw [hPe] at cm hP hY
          rw [hQe] at hag hQ hY
          have y1 : ((P : Int) + (Q : Int)) % 4294967296 = (Y : Int) := by omega
          have wy1 : IntKind.u32.wrap ((P : Int) + (Q : Int)) = (Y : Int) := by rw [IntKind.wrap_u32']; exact y1
          have hi1 : (m : Int) < 8 := by omega
          have HX : Hid ((#[.int .u32 (r.a : Int), .int .u32 (r.b : Int), .int .u32 (r.c : Int), .int .u32 (r.d : Int), .int .u32 (r.e : Int), .int .u32 (r.f : Int), .int .u32 (r.g : Int), .int .u32 (r.h : Int)] : Array Value)[m]? = some (.int .u32 (Q : Int))) := hag
          clear hY hPe hQe hhm H1 T1 hP hQ hag
          go_wp2_with (refine wpList_index8 _ rfl (.tmp 126) (.tmp 127) rfl _ m (.int .u32 (Q : Int)) rfl rfl hlt HX.out ?_)
          go_still_tail 9, (by kernel_rfl)
          go_wp2_with fail
          go_roundw
          case rel => exact ⟨m + 1, by omega, by go_num, H2, T2.out.drew⟩
          case measure => simp [intOf]; omega
        · have hm0 : m = 8 := by omega
          rw [hm0] at H1
          have hnn : ¬ (m : Int) < 8 := by omega
          have HE : Hid (Uv .u32 wr sg 35 8 (mixS k w s).at_) := H1.out.congr (fun i hi => by
            unfold mixS half
            rw [add_at _ _ _ hi, if_pos hi, HR.out])
          clear hlt
          go_wp2_with fail
          go_end0
          exact ⟨rfl, HE.out, T1.out⟩
end Go.Proofs.Ytfdnlkhipjjnbaa
