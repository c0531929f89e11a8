/-
  What Decode answers.
-/
import Derived.Test.YtcmnhgefeffcpaaFTab
import Derived.Test.YtcmnhgefeffcpaaBack2
namespace Go.Proofs.Ytcmnhgefeffcpaa
open Go.RowKit Pl
set_option linter.unusedVariables false

theorem backTake_ok (b : Nat) (rv : Value) (ys : List Int) (p m : Nat) (w : World) (h : Bk w b rv ys p) (h32 : m ≤ 32) (hm : m ≤ p) :
    Calls Try.prog 59 #[.pointer (some ⟨b, 0, none⟩), .int .i64 m] w fun e w' =>
      e = .returned (.tuple #[.int .i64 (val (unpack ys) (p - m) m), .int .i64 0]) ∧ Bk w' b rv ys (p - m) ∧ Tch (fun k => k = b) w w' := by
  have hE : tkE p (m : Int) = 0 := by unfold tkE; rw [if_neg (by omega), if_neg (by omega)]
  have hN : tkN p (m : Int) = m := by unfold tkN; rw [if_neg (by omega), if_neg (by omega)]; rfl
  have hV : tkV (unpack ys) p (p - m) (m : Int) = val (unpack ys) (p - m) m := by unfold tkV; rw [if_neg (by omega), if_neg (by omega)]; rfl
  have := backTake_any b rv ys p m w h
  rw [hE, hN, hV] at this
  exact this

theorem backTake_short (b : Nat) (rv : Value) (ys : List Int) (p m : Nat) (w : World) (h : Bk w b rv ys p) (h32 : m ≤ 32) (hm : p < m) :
    Calls Try.prog 59 #[.pointer (some ⟨b, 0, none⟩), .int .i64 m] w fun e w' =>
      e = .returned (.tuple #[.int .i64 0, .int .i64 3]) ∧ Bk w' b rv ys p ∧ Tch (fun k => k = b) w w' := by
  have hE : tkE p (m : Int) = 3 := by unfold tkE; rw [if_neg (by omega), if_pos (by omega)]
  have hN : tkN p (m : Int) = 0 := by unfold tkN; rw [if_neg (by omega), if_pos (by omega)]
  have hV : tkV (unpack ys) p p (m : Int) = 0 := by unfold tkV; rw [if_neg (by omega), if_pos (by omega)]
  have := backTake_any b rv ys p m w h
  rw [hE, hN, Nat.sub_zero, hV] at this
  exact this

theorem backLeft_any (b : Nat) (rv : Value) (ys : List Int) (p : Nat) (w : World) (h : Bk w b rv ys p) :
    Calls Try.prog 36 #[.pointer (some ⟨b, 0, none⟩)] w fun e w' => e = .returned (.int .i64 p) ∧ w' = w := by
  have c1 := h.c1
  clear h
  go_enter Try.func36, Try.ntmps36
  go_wp2
  go_ret
  exact ⟨rfl, rfl⟩

/-- What is read of the bits B ahead of p: the symbols, and how many bits are left. -/
def dr (f : Nat → Nat) (L z lg : Nat) (B : List Int) (p n : Nat) : Option (List Int × Nat) :=
  if p < lg then none else match dc f L z lg B (val B (p - lg) lg).toNat (p - lg) n with
    | none => none
    | some t => if t.2.1 = 0 then some (t.1, t.2.2) else none

/-- The state of reading. -/
structure Dw (w W : World) (b gt : Nat) (rv d : Value) (ys : List Int) (f : Nat → Nat) (L z lg : Nat) (l : List Int) (p : Nat) : Prop where
  bk : Bk W b rv ys p
  tab : Iv W gt 68 1536 (t2 f L z lg z)
  own : Owns .i64 3 W d l
  tch : Tch (fun k => k = b) w W
  dn : ∀ k, d.ownBlock = some k → w.heap.size ≤ k
  bl : b < w.heap.size
  gl : gt < w.heap.size
  rl : ∀ k, rv.ownBlock = some k → k < w.heap.size
  ne : gt ≠ b

theorem Dw.took {w W W1 : World} {b gt : Nat} {rv d : Value} {ys : List Int} {f : Nat → Nat} {L z lg : Nat} {l : List Int} {p q : Nat} {o : Obj} (h : Dw w W b gt rv d ys f L z lg l p)
    (ht : Tch (fun k => k = b) (W.alloc o) W1) (hb : Bk W1 b rv ys q) : Dw w W1 b gt rv d ys f L z lg l q := by
  have h0 : Below W.heap.size W (W.alloc o) := (Below.refl _ _).alloc (Nat.le_refl _) _
  have hbl := h.bl
  refine ⟨hb, (h.tab.below h0).tch ht h.ne, (h.own.below h0).tch ht (fun k hk e => by have := h.dn k hk; omega), (h.tch.alloc o).trans ht (fun _ _ e => e), h.dn, h.bl, h.gl, h.rl, h.ne⟩

theorem Dw.push {w W W1 : World} {b gt : Nat} {rv d d' : Value} {ys : List Int} {f : Nat → Nat} {L z lg : Nat} {l l' : List Int} {p : Nat} (h : Dw w W b gt rv d ys f L z lg l p)
    (ho : Owns .i64 3 W1 d' l') (hg : Grew W W1 d d') : Dw w W1 b gt rv d' ys f L z lg l' p := by
  have hbl := h.bl
  have hgl := h.gl
  refine ⟨h.bk.tch hg.tch (fun e => by have := h.dn _ e; omega) (fun k hk e => by have := h.dn _ e; have := h.rl k hk; omega), h.tab.tch hg.tch (fun e => by have := h.dn _ e; omega), ho,
    h.tch.trans hg.tch (fun i hi e => by have := h.dn _ e; omega), fun k hk => ?_, h.bl, h.gl, h.rl, h.ne⟩
  rcases hg.fresh k hk with e | e
  · exact h.dn k e
  · have := h.tch.size; omega

/-- What takeSymbols answers. -/
def TPostF (b : Nat) (rv : Value) (ys : List Int) (f : Nat → Nat) (L z lg p n : Nat) (w : World) (e : Ending) (w' : World) : Prop :=
  ∃ d E, e = .returned (.tuple #[d, .int .i64 E]) ∧ Tch (fun k => k = b) w w' ∧
    ((E = 3 ∧ d = .slice none 0 0 ∧ dr f L z lg (unpack ys) p n = none) ∨
      (E = 0 ∧ ∃ l q, dr f L z lg (unpack ys) p n = some (l, q) ∧ Owns .i64 3 w' d l ∧ (∀ k, d.ownBlock = some k → w.heap.size ≤ k) ∧ Bk w' b rv ys q))

set_option maxRecDepth 100000 in
set_option maxHeartbeats 4000000 in
theorem takeSymbols_any (b gt : Nat) (rv : Value) (ys : List Int) (f : Nat → Nat) (L z lg p n : Nat) (w : World) (hb : Bk w b rv ys p) (ht : Iv w gt 68 1536 (t2 f L z lg z)) (hne : gt ≠ b)
    (hf : Fok f L z) (hz : 2 ^ lg = z) (h5 : 5 ≤ lg) (h9 : lg ≤ 9) (hL : L ≤ 64) (hn : n ≤ 65536) :
    Calls Try.prog 35 #[.pointer (some ⟨b, 0, none⟩), .pointer (some ⟨gt, 0, none⟩), .int .i64 lg, .int .i64 n] w fun e w' => TPostF b rv ys f L z lg p n w e w' := by
  have HB : Hid (Bk w b rv ys p) := hb
  have HT : Hid (Iv w gt 68 1536 (t2 f L z lg z)) := ht
  have HF : Hid (Fok f L z) := hf
  have HZ : Hid (2 ^ lg = z) := hz
  have hz1 := hf.zok.pos
  have HNE : Hid (gt ≠ b) := hne
  clear hb ht hf hz hne
  by_cases hp : p < lg
  · have HD : Hid (dr f L z lg (unpack ys) p n = none) := by show _ = _; unfold dr; rw [if_pos hp]
    go_enter Try.func35, Try.ntmps35
    go_wp2_with fail
    refine (backTake_short b rv ys p lg w HB.out (by omega) hp).mono ?_
    rintro e w1 ⟨rfl, _, ht1⟩
    have T1 : Hid (Tch (fun k => k = b) w w1) := ht1
    clear ht1
    go_wp2_with fail
    go_ret2
    exact ⟨_, 3, rfl, T1.out, .inl ⟨rfl, rfl, HD.out⟩⟩
  · obtain ⟨a0, ha0⟩ : ∃ a0, Hid ((val (unpack ys) (p - lg) lg).toNat = a0) := ⟨_, rfl⟩
    have hv := val_bd (bits_unpack ys) (p - lg) lg
    have e2 : ((2 : Int) ^ lg) = (z : Int) := by rw [← HZ.out]; push_cast; rfl
    rw [e2] at hv
    have HV : Hid (val (unpack ys) (p - lg) lg = (a0 : Int)) := by show _ = _; rw [← ha0.out]; omega
    have ha1 : a0 < z := by rw [← ha0.out]; omega
    have HD : Hid (dr f L z lg (unpack ys) p n = match dc f L z lg (unpack ys) a0 (p - lg) n with
        | none => none
        | some t => if t.2.1 = 0 then some (t.1, t.2.2) else none) := by show _ = _; unfold dr; rw [if_neg hp, ha0.out]
    clear hv e2
    obtain ⟨i0, hi, hz0, hz1', hz2⟩ := elem64.info
    go_enter Try.func35, Try.ntmps35
    go_wp2_with fail
    refine (backTake_ok b rv ys p lg w HB.out (by omega) (by omega)).mono ?_
    rintro e w1 ⟨rfl, hb1, ht1⟩
    rw [HV.out]
    have B1 : Hid (Bk w1 b rv ys (p - lg)) := hb1
    have T1 : Hid (Tch (fun k => k = b) w w1) := ht1
    clear hb1 ht1
    go_wp2_with (at_make; refine wpList_make_own _ rfl (.const (.int .i64 0)) (.tmp 25) 22 rfl 0 3 i0 _ 1 Try.underlying22 hi hz0 hz1' .i64 .i64 _ n rfl rfl rfl (by rw [hz2]; omega) (by unfold maxLen; omega) (Nat.zero_le _) ?_)
    intro w4 ho4 hg4
    have D4 : Hid (Dw w w4 b gt rv (.slice (some ⟨w1.heap.size, 0, none⟩) 0 n) ys f L z lg [] (p - lg)) := by
      have b4 : Below w1.heap.size w1 w4 := (Below.refl _ _).grown hg4 (Nat.le_refl _) (fun k e => by cases e)
      refine ⟨B1.out.below b4, (HT.out.tch T1.out HNE.out).below b4, ho4, T1.out.trans (Tch.of_below (S := fun k => k = b) b4) (fun _ _ e => e), fun k hk => ?_, HB.out.lt, HT.out.lt, HB.out.own.lt, HNE.out⟩
      simp only [Value.ownBlock, Option.some.injEq] at hk
      have := T1.out.size
      omega
    clear ho4 hg4 B1 T1 hi hz0 hz1' hz2
    go_wp2_with fail
    go_loopw [10, 12, 28] (fun x d i wr => ∃ (k a q : Nat) (l : List Int), k ≤ n ∧ i = .int .i64 k ∧ x = .int .i64 a ∧ a < z ∧ Hid (dc f L z lg (unpack ys) a0 (p - lg) k = some (l, a, q)) ∧ Hid (Dw w wr b gt rv d ys f L z lg l q)) (fun _ _ i _ => n - (intOf i).toNat)
    case atStart => exact ⟨0, a0, p - lg, [], Nat.zero_le _, rfl, rfl, ha1, rfl, D4⟩
    case round =>
      obtain ⟨k, a, q, l, hk, rfl, rfl, ha, HQ, D5⟩ := hrel
      clear D4
      by_cases hlt : k < n
      · obtain ⟨s, hs⟩ : ∃ s, Hid (tb f L z a = s) := ⟨_, rfl⟩
        obtain ⟨X, hX⟩ : ∃ X, Hid (xs_ f L z a = X) := ⟨_, rfl⟩
        obtain ⟨m, hm⟩ : ∃ m, Hid (bt lg X = m) := ⟨_, rfl⟩
        obtain ⟨c, hc⟩ : ∃ c, Hid (X * 2 ^ m - z = c) := ⟨_, rfl⟩
        have hX1 := xs_bd HF.out ha
        rw [hX.out] at hX1
        have hbs := bt_spec (lg := lg) hX1.1 h9 (by rw [HZ.out]; exact hX1.2)
        rw [hm.out, HZ.out, Nat.add_mul] at hbs
        have hm9 : m ≤ 9 := by omega
        have HBS : Hid (z ≤ X * 2 ^ m ∧ X * 2 ^ m + 2 ^ m ≤ 2 * z) := by show _ ∧ _; omega
        have hc1 : c ≤ 512 := by rw [← hc.out]; omega
        have t0 : wr.cell? ⟨gt, a * 3, none⟩ = some (.int .i64 (s : Int)) := by rw [D5.out.tab.at_ (a * 3) (by omega), t2_sym _ _ _ _ _ _ ha, hs.out]
        have t1 : wr.cell? ⟨gt, a * 3 + 1, none⟩ = some (.int .i64 (m : Int)) := by rw [D5.out.tab.at_ (a * 3 + 1) (by omega), t2_bits _ _ _ _ _ ha, hX.out, hm.out]
        have t3 : wr.cell? ⟨gt, a * 3 + 2, none⟩ = some (.int .i64 (c : Int)) := by rw [D5.out.tab.at_ (a * 3 + 2) (by omega), t2_base _ _ _ _ _ ha, hX.out, hm.out, hc.out]
        have hs64 : s ≤ 64 := by rw [← hs.out]; have := HF.out.tb_lt a; omega
        have hi0 : (0 : Int) ≤ (a : Int) := by omega
        have hi1 : (a : Int) < 512 := by omega
        have hi2 : (a : Int) ≤ 511 := by omega
        have hll : l.length = k := by
          have := HQ.out
          rw [← HZ.out] at this
          exact (dc_lt (by rw [HZ.out]; exact HF.out) h9 (bits_unpack ys) (by rw [HZ.out]; exact ha1) this).2.2
        have HLL : Hid (l.length = k) := hll
        have hgl : gt < wr.heap.size := D5.out.tab.lt
        clear hX1 hbs hll
        by_cases hq : q < m
        · have HN : Hid (dc f L z lg (unpack ys) a0 (p - lg) (k + 1) = none) := by
            show _ = _
            simp only [dc, HQ.out]
            rw [hX.out, hm.out, if_pos hq]
          go_wp2_with fail
          have h0 : Below wr.heap.size wr (wr.alloc (.cells #[.int .i64 (s : Int), .int .i64 (m : Int), .int .i64 (c : Int)] 66)) := (Below.refl _ _).alloc (Nat.le_refl _) _
          refine (backTake_short b rv ys q m _ (D5.out.bk.below h0) (by omega) hq).mono ?_
          rintro e w6 ⟨rfl, hb6, ht6⟩
          have D6 : Hid (Dw w w6 b gt rv u12 ys f L z lg l q) := D5.out.took ht6 hb6
          clear hb6 ht6 h0 D5
          go_wp2_with fail
          go_ret2
          refine ⟨_, 3, rfl, D6.out.tch, .inl ⟨rfl, rfl, ?_⟩⟩
          rw [HD.out]
          have hnone : ∀ j, k + 1 ≤ j → dc f L z lg (unpack ys) a0 (p - lg) j = none := by
            intro j hj
            induction j with
            | zero => omega
            | succ j ih =>
              by_cases e : k = j
              · subst e; exact HN.out
              · simp only [dc]; rw [ih (by omega)]
          rw [hnone n (by omega)]
        · obtain ⟨v, hv⟩ : ∃ v, Hid ((val (unpack ys) (q - m) m).toNat = v) := ⟨_, rfl⟩
          have hvb := val_bd (bits_unpack ys) (q - m) m
          have e2 : ((2 : Int) ^ m) = ((2 ^ m : Nat) : Int) := by push_cast; rfl
          rw [e2] at hvb
          have HV2 : Hid (val (unpack ys) (q - m) m = (v : Int)) := by show _ = _; rw [← hv.out]; omega
          have hav : c + v < z := by have := HBS.out; rw [← hv.out, ← hc.out]; omega
          have HQ2 : Hid (dc f L z lg (unpack ys) a0 (p - lg) (k + 1) = some (l ++ [(s : Int)], c + v, q - m)) := by
            show _ = _
            simp only [dc, HQ.out]
            rw [hX.out, hm.out, if_neg hq, hs.out, hc.out, hv.out]
          clear hvb e2 HBS
          go_wp2_with fail
          have h0 : Below wr.heap.size wr (wr.alloc (.cells #[.int .i64 (s : Int), .int .i64 (m : Int), .int .i64 (c : Int)] 66)) := (Below.refl _ _).alloc (Nat.le_refl _) _
          refine (backTake_ok b rv ys q m _ (D5.out.bk.below h0) (by omega) (by omega)).mono ?_
          rintro e w6 ⟨rfl, hb6, ht6⟩
          rw [HV2.out]
          have D6 : Hid (Dw w w6 b gt rv u12 ys f L z lg l (q - m)) := D5.out.took ht6 hb6
          have hbne : wr.heap.size ≠ b := by have h1 := D5.out.bl; have h2 := D5.out.tch.size; omega
          have hcell : ∀ j, w6.cell? ⟨wr.heap.size, j, none⟩ = (wr.alloc (.cells #[.int .i64 (s : Int), .int .i64 (m : Int), .int .i64 (c : Int)] 66)).cell? ⟨wr.heap.size, j, none⟩ := fun j =>
            ht6.cell (p := ⟨wr.heap.size, j, none⟩) (by simp) hbne
          have hnew := heap_alloc_new wr (.cells #[.int .i64 (s : Int), .int .i64 (m : Int), .int .i64 (c : Int)] 66)
          have p0 : w6.cell? ⟨wr.heap.size, 0, none⟩ = some (.int .i64 (s : Int)) := by rw [hcell, cell_of_row _ _ 0 _ _ (0, 0) hnew]; rfl
          have p2 : w6.cell? ⟨wr.heap.size, 2, none⟩ = some (.int .i64 (c : Int)) := by rw [hcell, cell_of_row _ _ 2 _ _ (0, 0) hnew]; rfl
          have hlt6 : wr.heap.size < w6.heap.size := by have := ht6.size; simp at this; omega
          obtain ⟨g, hg⟩ : ∃ g, wr.heap.size = g := ⟨_, rfl⟩
          rw [hg] at p0 p2 hlt6 ⊢
          have HG : Hid (w.heap.size ≤ g) := by show _ ≤ _; rw [← hg]; exact D5.out.tch.size
          have HGW : Hid (∀ k, u12.ownBlock = some k → k ≠ g) := fun k hk e => by have := D5.out.own.lt k hk; omega
          clear hb6 ht6 h0 D5 hcell hnew hbne hg t0 t1 t3 hgl
          go_wp2_with (at_builtin; refine wpList_push _ rfl (.tmp 45) (.tmp 48) 22 rfl 3 .i64 8 elem64 _ l rfl D6.out.own (s : Int) rfl (by have := HLL.out; omega) (by have := HLL.out; omega) ?_)
          intro d7 w7 ho7 hg7
          have D7 : Hid (Dw w w7 b gt rv d7 ys f L z lg (l ++ [(s : Int)]) (q - m)) := D6.out.push ho7 hg7
          have p3 : w7.cell? ⟨g, 2, none⟩ = some (.int .i64 (c : Int)) := by
            rw [hg7.tch.cell (p := ⟨g, 2, none⟩) hlt6 (fun e => HGW.out g e rfl)]; exact p2
          clear ho7 hg7 D6 p0 p2
          go_wp2_with fail
          go_roundw
          case rel => exact ⟨k + 1, c + v, q - m, l ++ [(s : Int)], by omega, by go_num, by go_num, hav, HQ2, D7⟩
          case measure => simp [intOf]; omega
      · obtain rfl : k = n := by omega
        by_cases haz : a = 0
        · have hae : ((a : Int) != 0) = false := by simp [haz]
          have HE : Hid (dr f L z lg (unpack ys) p k = some (l, q)) := by show _ = _; rw [HD.out, HQ.out]; simp [haz]
          clear haz
          go_wp2_with fail
          go_ret2
          exact ⟨u12, 0, rfl, D5.out.tch, .inr ⟨rfl, l, q, HE.out, D5.out.own, D5.out.dn, D5.out.bk⟩⟩
        · have hae : ((a : Int) != 0) = true := by simp; omega
          have HE : Hid (dr f L z lg (unpack ys) p k = none) := by show _ = _; rw [HD.out, HQ.out]; simp [haz]
          clear haz
          go_wp2_with fail
          go_ret2
          exact ⟨_, 3, rfl, D5.out.tch, .inl ⟨rfl, rfl, HE.out⟩⟩
end Go.Proofs.Ytcmnhgefeffcpaa
