/-
  MatchUses: no match is left out for a literal, but for a longer one a place later: for every bytes and window the law answers true.
-/
import Derived.Test.YtghokdmfhifgjaaMRefFind
import Derived.Test.YtghokdmfhifgjaaMRoundP
import Derived.Test.YtghokdmfhifgjaaLawMLit
namespace Go.Proofs.Ytghokdmfhifgjaa
open Go.RowKit Pl
set_option linter.unusedVariables false

/-- Literals from a place to another are right. -/
def LP (ds : List Int) (W a b : Nat) : Prop := ∀ t, a ≤ t → t < b → (best ds W t).1 = 0 ∨ (best ds W t).1 < (best ds W (t + 1)).1

/-- Where the steps stand. -/
def pos (ps : List Sq) : Nat → Nat
  | 0 => 0
  | j + 1 => pos ps j + (ps.getD j sq0).1.toNat + (ps.getD j sq0).2.1.toNat

theorem pos_pre (ps qs : List Sq) : ∀ k, k ≤ ps.length → pos (ps ++ qs) k = pos ps k
  | 0, _ => rfl
  | k + 1, h => by
    simp only [pos]
    rw [pos_pre ps qs k (by omega), getD_pre (by omega)]

/-- A step is a best match, and the literals ahead of it are right. -/
def StOk (ds : List Int) (W p : Nat) (x : Sq) : Prop := ∃ l : Nat, x = ((l : Int), ((best ds W (p + l)).1 : Int), ((best ds W (p + l)).2 : Int)) ∧ 0 < (best ds W (p + l)).1 ∧ LP ds W p (p + l)

theorem fst_uses (ds : List Int) (W : Nat) : ∀ k, (fst_ ds W k).2.1 ≤ (fst_ ds W k).1 ∧ (fst_ ds W k).1 ≤ ds.length ∧ pos (fst_ ds W k).2.2 (fst_ ds W k).2.2.length = (fst_ ds W k).1 - (fst_ ds W k).2.1 ∧ LP ds W ((fst_ ds W k).1 - (fst_ ds W k).2.1) (fst_ ds W k).1 ∧ ∀ j, j < (fst_ ds W k).2.2.length → StOk ds W (pos (fst_ ds W k).2.2 j) ((fst_ ds W k).2.2.getD j sq0)
  | 0 => ⟨Nat.le_refl _, Nat.zero_le _, rfl, fun t _ h => by simp [fst_] at h, fun j h => by simp [fst_] at h⟩
  | k + 1 => by
    obtain ⟨h1, h2, h3, h4, h5⟩ := fst_uses ds W k
    simp only [fst_]
    split
    · rename_i hlt
      split
      · rename_i hl
        have e : (fst_ ds W k).1 + 1 - ((fst_ ds W k).2.1 + 1) = (fst_ ds W k).1 - (fst_ ds W k).2.1 := by omega
        refine ⟨by simp only; omega, by simp only; omega, by simp only; rw [e]; exact h3, ?_, h5⟩
        simp only
        rw [e]
        intro t ht1 ht2
        by_cases c : t = (fst_ ds W k).1
        · rw [c]; exact hl
        · exact h4 t ht1 (by omega)
      · rename_i hn
        have hb := best_le ds W (fst_ ds W k).1
        obtain ⟨P, hP⟩ : ∃ P, (fst_ ds W k).2.2 = P := ⟨_, rfl⟩
        obtain ⟨A, hA⟩ : ∃ A, (fst_ ds W k).1 = A := ⟨_, rfl⟩
        obtain ⟨B, hB⟩ : ∃ B, (fst_ ds W k).2.1 = B := ⟨_, rfl⟩
        rw [hP] at h3 h5
        rw [hA, hB] at h1 h3 h4
        rw [hA] at h2 hlt hn hb
        simp only [hP, hA, hB]
        have e : A - B + B = A := by omega
        refine ⟨Nat.zero_le _, by omega, ?_, fun t ht1 ht2 => by omega, fun j hj => ?_⟩
        · rw [List.length_append, List.length_cons, List.length_nil, Nat.zero_add]
          simp only [pos]
          rw [pos_pre P _ _ (Nat.le_refl _), h3, getD_mid']
          simp only [Int.toNat_natCast]
          omega
        · rw [List.length_append, List.length_cons, List.length_nil, Nat.zero_add] at hj
          by_cases c : j < P.length
          · rw [pos_pre P _ j (by omega), getD_pre c]
            exact h5 j c
          · obtain rfl : j = P.length := by omega
            rw [pos_pre P _ _ (Nat.le_refl _), h3, getD_mid']
            exact ⟨B, by rw [e], by rw [e]; omega, by rw [e]; exact h4⟩
    · exact ⟨h1, h2, h3, h4, h5⟩

theorem fst_done (ds : List Int) (W : Nat) : ∀ k, k ≤ (fst_ ds W k).1 ∨ ds.length ≤ (fst_ ds W k).1
  | 0 => .inl (Nat.zero_le _)
  | k + 1 => by
    have ih := fst_done ds W k
    simp only [fst_]
    split
    · split
      · simp only; omega
      · rename_i hn; simp only; omega
    · omega

/-- What is known of the steps of bytes. -/
theorem uses_core (ds : List Int) (W : Nat) : pos (steps ds W) (steps ds W).length ≤ ds.length ∧ LP ds W (pos (steps ds W) (steps ds W).length) ds.length ∧ ∀ j, j < (steps ds W).length → StOk ds W (pos (steps ds W) j) ((steps ds W).getD j sq0) := by
  obtain ⟨h1, h2, h3, h4, h5⟩ := fst_uses ds W ds.length
  have h6 : (fst_ ds W ds.length).1 = ds.length := by have := fst_done ds W ds.length; omega
  unfold steps
  refine ⟨by rw [h3]; omega, ?_, h5⟩
  rw [h3]
  rw [h6] at h4 ⊢
  exact h4

theorem rd_dt {w : World} {a : Option Addr} {c : Nat} {xs : List Int} (h : Rd .u8 w (.slice a xs.length c) xs) (hy : By xs) (h0 : 0 < xs.length) : ∃ b o, a = some ⟨b, o, none⟩ ∧ Dt w b o xs.length xs := by
  obtain ⟨a', c', e, _, _, _, h⟩ := h
  cases e
  rcases h with h | ⟨b, o, rfl, hc⟩
  · rw [h] at h0; simp at h0
  · exact ⟨b, o, rfl, rfl, hy, hc⟩

set_option maxRecDepth 100000 in
set_option maxHeartbeats 4000000 in
theorem matchUses_walk (v1 : Value) (ds : List Int) (win : Int) (w : World) (h1 : Rd .u8 w v1 ds) (hy : By ds) :
    Calls Try.prog 7 #[v1, .int .i64 win] w fun e w' => e = .returned (.bool true) ∧ Below w.heap.size w w' := by
  have H1 : Hid (Rd .u8 w v1 ds) := h1
  obtain ⟨la, lc, rfl, _, _, _, _⟩ := h1
  have HY : Hid (By ds) := hy
  clear hy
  by_cases hbig : 2000 < ds.length
  · have hbI : (2000 : Int) < (ds.length : Int) := by omega
    go_enter Try.func7, Try.ntmps7
    go_wp2_with (with_reducible (show wpList _ _ _ (Oper.mk _ (Op.slice _ _ _ _ _) _ _ _ _ :: _) _ _); refine wpList_upto _ w rfl (.tmp 20) (.const (.int .i64 2000)) rfl (.slice la ds.length lc) ds rfl H1.out 2000 rfl (by omega) ?_)
    intro v5 hv5
    obtain ⟨xs, hxs⟩ : ∃ xs, Hid (ds.take 2000 = xs) := ⟨_, rfl⟩
    have hxl : xs.length ≤ 2000 := by rw [← hxs.out, List.length_take]; omega
    rw [hxs.out] at hv5
    have HX : Hid (Rd .u8 w v5 xs) := hv5
    have HXY : Hid (By xs) := by show By xs; rw [← hxs.out]; exact HY.out.take 2000
    obtain ⟨xa, xc, rfl⟩ : ∃ a c, v5 = .slice a xs.length c := by obtain ⟨a, c, e, _⟩ := hv5; exact ⟨a, c, e⟩
    clear hv5 hbig hbI
    by_cases hb : win < 1 ∨ 65536 < win
    · have HF : Hid (Calls Try.prog 9 #[.slice xa xs.length xc, .int .i64 win] w fun e w' => FPost (1, []) w e w') := by
        have := find_any _ xs win w HX.out HXY.out
        unfold findR at this
        rw [if_pos (.inr hb)] at this
        exact this
      clear hb
      go_wp2_with fail
      refine HF.out.mono ?_
      clear HF
      intro e w2 hD
      obtain ⟨d, rfl, hb2, _, ho2⟩ := hD
      have B2 : Hid (Below w.heap.size w w2) := hb2
      clear hb2 ho2
      go_wp2_with fail
      refine (lives_any _).mono ?_
      rintro e w9 ⟨rfl, hb9⟩
      go_wp2_with fail
      go_ret
      exact ⟨rfl, B2.out.trans (hb9.mono B2.out.size)⟩
    obtain ⟨W, rfl⟩ := Int.eq_ofNat_of_zero_le (show 0 ≤ win by omega)
    have hW1 : 1 ≤ W := by omega
    have hW2 : W ≤ 65536 := by omega
    obtain ⟨u1, u2, u3⟩ := uses_core xs W
    have hpl : (steps xs W).length ≤ xs.length := fst_len xs W xs.length
    obtain ⟨ps, hps⟩ : ∃ ps, Hid (steps xs W = ps) := ⟨_, rfl⟩
    rw [hps.out] at u1 u2 u3 hpl
    have HF : Hid (Calls Try.prog 9 #[.slice xa xs.length xc, .int .i64 W] w fun e w' => FPost (0, ps) w e w') := by
      have := find_any _ xs W w HX.out HXY.out
      unfold findR at this
      rw [if_neg (by omega), Int.toNat_natCast, hps.out] at this
      exact this
    have U1 : Hid (pos ps ps.length ≤ xs.length) := u1
    have U2 : Hid (LP xs W (pos ps ps.length) xs.length) := u2
    have U3 : Hid (∀ j, j < ps.length → StOk xs W (pos ps j) (ps.getD j sq0)) := u3
    clear hb u1 u2 u3
    go_wp2_with fail
    refine HF.out.mono ?_
    clear HF
    intro e w2 hD
    obtain ⟨d, rfl, hb2, _, ho2⟩ := hD
    have B2 : Hid (Below w.heap.size w w2) := hb2
    obtain ⟨da, dc, hda, _, _, q2⟩ := ho2.rd
    subst hda
    have C2 : Hid (ps = [] ∨ ∃ b o, da = some ⟨b, o, none⟩ ∧ ∀ i, i < ps.length → w2.cell? ⟨b, o + i * 3, none⟩ = some (.int .i64 (ps.getD i sq0).1) ∧ w2.cell? ⟨b, o + i * 3 + 1, none⟩ = some (.int .i64 (ps.getD i sq0).2.1) ∧ w2.cell? ⟨b, o + i * 3 + 2, none⟩ = some (.int .i64 (ps.getD i sq0).2.2)) := q2
    clear q2
    have HBEST : Hid (∀ (wr : World) (i : Nat), Below w.heap.size w wr → 0 < xs.length → i ≤ xs.length → Calls Try.prog 18 #[.slice xa xs.length xc, .int .i64 W, .int .i64 (i : Int)] wr fun e w' => e = .returned (.tuple #[.int .i64 ((best xs W i).1 : Int), .int .i64 ((best xs W i).2 : Int)]) ∧ Below wr.heap.size wr w') := fun wr i hw h0 hi => by
      obtain ⟨b, o, rfl, D⟩ := rd_dt HX.out HXY.out h0
      exact refBest_any xs.length b o xc i W xs wr (D.below hw) (by omega) hi hW2
    obtain ⟨n, hn⟩ : ∃ n, Hid (xs.length = n) := ⟨_, rfl⟩
    obtain ⟨L, hL⟩ : ∃ L, Hid (ps.length = L) := ⟨_, rfl⟩
    rw [hn.out] at hxl hpl HBEST U1 U2 ⊢
    rw [hL.out] at hpl C2 U1 U2 U3 ⊢
    try rw [hn.out] at hbI
    clear hb2 ho2
    go_wp2_with fail
    go_loopw [7, 8] (fun a i wr => ∃ (k at_ : Nat), ((k ≤ L ∧ Hid (at_ = pos ps k)) ∨ (k = L + 1 ∧ at_ = n)) ∧ at_ ≤ n ∧ i = .int .i64 k ∧ a = .int .i64 at_ ∧ Hid (Below w2.heap.size w2 wr)) (fun _ i _ => L + 1 - (intOf i).toNat)
    case atStart => exact ⟨0, 0, .inl ⟨Nat.zero_le _, rfl⟩, Nat.zero_le _, rfl, rfl, Below.refl _ _⟩
    case round =>
      obtain ⟨k, at_, hcs, hat, rfl, rfl, HB⟩ := hrel
      rcases hcs with ⟨hk, HP⟩ | ⟨rfl, rfl⟩
      · have q0 : (k : Int) ≤ (L : Int) := by omega
        by_cases hlt : k < L
        · have q1 : (k : Int) < (L : Int) := by omega
          obtain ⟨l, hX, hpos, hLP⟩ := U3.out k hlt
          rw [← HP.out] at hX hpos hLP
          obtain ⟨m, hm⟩ : ∃ m, Hid ((best xs W (at_ + l)).1 = m) := ⟨_, rfl⟩
          obtain ⟨t, ht⟩ : ∃ t, Hid ((best xs W (at_ + l)).2 = t) := ⟨_, rfl⟩
          rw [hm.out, ht.out] at hX
          rw [hm.out] at hpos
          have hbs := best_spec (ds := xs) (W := W) (i := at_ + l) (by rw [hm.out]; exact hpos)
          rw [hm.out, ht.out, hn.out] at hbs
          have hend : at_ + l + m ≤ n := hbs.2.2.2.2.1
          have htW : t ≤ W := hbs.2.2.1
          have hn0 : 0 < n := by omega
          have HLP : Hid (LP xs W at_ (at_ + l)) := hLP
          have HPN : Hid (pos ps (k + 1) = at_ + l + m) := by show _ = _; simp only [pos]; rw [hX, ← HP.out]; simp only [Int.toNat_natCast]
          rcases C2.out with h | ⟨b, o, hab, hc⟩
          · rw [h] at hL; have := hL.out; simp at this; omega
          subst hab
          obtain ⟨c0, c1, c2⟩ := hc k hlt
          have C0 : Hid (w2.cell? ⟨b, o + k * 3, none⟩ = some (.int .i64 (l : Int))) := by rw [hX] at c0; exact c0
          have C1' : Hid (w2.cell? ⟨b, o + k * 3 + 1, none⟩ = some (.int .i64 (m : Int))) := by rw [hX] at c1; exact c1
          have C2' : Hid (w2.cell? ⟨b, o + k * 3 + 2, none⟩ = some (.int .i64 (t : Int))) := by rw [hX] at c2; exact c2
          have d0 : wr.cell? ⟨b, o + k * 3, none⟩ = some (.int .i64 (l : Int)) := by rw [HB.out.cell (p := ⟨b, o + k * 3, none⟩) (World.block_lt_of_cell? w2 _ C0.out)]; exact C0.out
          clear c0 c1 c2 hc hX hbs hLP
          go_wp2_with fail
          go_loopw [10] (fun x wr => ∃ j : Nat, j ≤ l ∧ x = .int .i64 j ∧ Hid (Below w2.heap.size w2 wr)) (fun x _ => l - (intOf x).toNat)
          case atStart => exact ⟨0, Nat.zero_le _, rfl, HB⟩
          case round =>
            clear HB d0
            obtain ⟨j, hj, rfl, HB⟩ := hrel
            have HBW : Hid (Below w.heap.size w wr) := B2.out.trans (HB.out.mono B2.out.size)
            by_cases hjl : j < l
            · obtain ⟨x, hx⟩ : ∃ x : Nat, Hid ((best xs W (at_ + j)).1 = x) := ⟨_, rfl⟩
              obtain ⟨y, hy⟩ : ∃ y : Nat, Hid ((best xs W (at_ + j)).2 = y) := ⟨_, rfl⟩
              obtain ⟨x2, hx2⟩ : ∃ x : Nat, Hid ((best xs W (at_ + j + 1)).1 = x) := ⟨_, rfl⟩
              obtain ⟨y2, hy2⟩ : ∃ y : Nat, Hid ((best xs W (at_ + j + 1)).2 = y) := ⟨_, rfl⟩
              have hxx : x = 0 ∨ x < x2 := by
                have := HLP.out (at_ + j) (by omega) (by omega)
                rw [hx.out, hx2.out] at this
                exact this
              have HB1 : Hid (Calls Try.prog 18 #[.slice xa n xc, .int .i64 W, .int .i64 ((at_ : Int) + (j : Int))] wr fun e w' => e = .returned (.tuple #[.int .i64 (x : Int), .int .i64 (y : Int)]) ∧ Below wr.heap.size wr w') := by
                have := HBEST.out wr (at_ + j) HBW.out (by omega) (by omega)
                rw [hx.out, hy.out] at this
                push_cast at this
                exact this
              have HXX : Hid (x = 0 ∨ x < x2) := hxx
              clear hxx
              go_wp2_with fail
              refine HB1.out.mono ?_
              clear HB1
              rintro e w4 ⟨rfl, hb4⟩
              have B4 : Hid (Below w2.heap.size w2 w4) := HB.out.trans (hb4.mono HB.out.size)
              have BW4 : Hid (Below w.heap.size w w4) := B2.out.trans (B4.out.mono B2.out.size)
              have HB3 : Hid (Calls Try.prog 18 #[.slice xa n xc, .int .i64 W, .int .i64 ((at_ : Int) + (j : Int) + 1)] w4 fun e w' => e = .returned (.tuple #[.int .i64 (x2 : Int), .int .i64 (y2 : Int)]) ∧ Below w4.heap.size w4 w') := by
                have := HBEST.out w4 (at_ + j + 1) BW4.out (by omega) (by omega)
                rw [hx2.out, hy2.out] at this
                push_cast at this
                exact this
              clear hb4 HB HBW
              go_wp2_with fail
              refine HB3.out.mono ?_
              clear HB3
              rintro e w5 ⟨rfl, hb5⟩
              have B5 : Hid (Below w2.heap.size w2 w5) := B4.out.trans (hb5.mono B4.out.size)
              clear hb5 B4 BW4
              by_cases hx0 : x = 0
              · have g1 : decide (0 < x) = false := by rw [decide_eq_false_iff_not]; omega
                have g2 : x ≤ 0 := by omega
                clear hx0
                go_wp2_with fail
                go_roundw
                case rel => exact ⟨j + 1, by omega, by go_num, B5⟩
                case measure => simp [intOf]; omega
              · have g1 : 0 < x := by omega
                have g2 : decide (x2 ≤ x) = false := by rw [decide_eq_false_iff_not]; have := HXX.out; omega
                have g3 : x < x2 := by have := HXX.out; omega
                clear hx0
                go_wp2_with fail
                go_roundw
                case rel => exact ⟨j + 1, by omega, by go_num, B5⟩
                case measure => simp [intOf]; omega
            · obtain rfl : j = l := by omega
              have HB1 : Hid (Calls Try.prog 18 #[.slice xa n xc, .int .i64 W, .int .i64 ((at_ : Int) + (j : Int))] wr fun e w' => e = .returned (.tuple #[.int .i64 (m : Int), .int .i64 (t : Int)]) ∧ Below wr.heap.size wr w') := by
                have := HBEST.out wr (at_ + j) HBW.out hn0 (by omega)
                rw [hm.out, ht.out] at this
                push_cast at this
                exact this
              go_wp2_with fail
              refine HB1.out.mono ?_
              clear HB1
              rintro e w4 ⟨rfl, hb4⟩
              have B4 : Hid (Below w2.heap.size w2 w4) := HB.out.trans (hb4.mono HB.out.size)
              have hb0 := World.block_lt_of_cell? w2 _ C0.out
              have d1 : w4.cell? ⟨b, o + k * 3 + 1, none⟩ = some (.int .i64 (m : Int)) := by rw [B4.out.cell (p := ⟨b, o + k * 3 + 1, none⟩) hb0]; exact C1'.out
              have d2 : w4.cell? ⟨b, o + k * 3 + 2, none⟩ = some (.int .i64 (t : Int)) := by rw [B4.out.cell (p := ⟨b, o + k * 3 + 2, none⟩) hb0]; exact C2'.out
              have g1 : ((m : Int) != (m : Int)) = false := by simp
              have g2 : ((t : Int) != (t : Int)) = false := by simp
              have g3 : decide (W < t) = false := by rw [decide_eq_false_iff_not]; omega
              clear hb4 hb0 HB HBW
              go_wp2_with fail
              go_roundw
              case rel => exact ⟨k + 1, at_ + j + m, .inl ⟨by omega, HPN.out.symm⟩, by omega, by go_num, by push_cast; rfl, B4⟩
              case measure => simp [intOf]; omega
        · obtain rfl : k = L := by omega
          obtain ⟨q, hq⟩ : ∃ q, Hid (n - at_ = q) := ⟨_, rfl⟩
          have hqI : (n : Int) - (at_ : Int) = (q : Int) := by rw [← hq.out]; omega
          have hq2 : at_ + q = n := by rw [← hq.out]; omega
          have hq3 : (at_ : Int) + (q : Int) = (n : Int) := by omega
          have HLP : Hid (LP xs W at_ (at_ + q)) := by show LP _ _ _ _; rw [hq2, HP.out]; exact U2.out
          go_wp2_with fail
          go_loopw [10] (fun x wr => ∃ j : Nat, j ≤ q ∧ x = .int .i64 j ∧ Hid (Below w2.heap.size w2 wr)) (fun x _ => q - (intOf x).toNat)
          case atStart => exact ⟨0, Nat.zero_le _, rfl, HB⟩
          case round =>
            clear HB
            obtain ⟨j, hj, rfl, HB⟩ := hrel
            have HBW : Hid (Below w.heap.size w wr) := B2.out.trans (HB.out.mono B2.out.size)
            by_cases hjl : j < q
            · obtain ⟨x, hx⟩ : ∃ x : Nat, Hid ((best xs W (at_ + j)).1 = x) := ⟨_, rfl⟩
              obtain ⟨y, hy⟩ : ∃ y : Nat, Hid ((best xs W (at_ + j)).2 = y) := ⟨_, rfl⟩
              obtain ⟨x2, hx2⟩ : ∃ x : Nat, Hid ((best xs W (at_ + j + 1)).1 = x) := ⟨_, rfl⟩
              obtain ⟨y2, hy2⟩ : ∃ y : Nat, Hid ((best xs W (at_ + j + 1)).2 = y) := ⟨_, rfl⟩
              have hxx : x = 0 ∨ x < x2 := by
                have := HLP.out (at_ + j) (by omega) (by omega)
                rw [hx.out, hx2.out] at this
                exact this
              have HB1 : Hid (Calls Try.prog 18 #[.slice xa n xc, .int .i64 W, .int .i64 ((at_ : Int) + (j : Int))] wr fun e w' => e = .returned (.tuple #[.int .i64 (x : Int), .int .i64 (y : Int)]) ∧ Below wr.heap.size wr w') := by
                have := HBEST.out wr (at_ + j) HBW.out (by omega) (by omega)
                rw [hx.out, hy.out] at this
                push_cast at this
                exact this
              have HXX : Hid (x = 0 ∨ x < x2) := hxx
              clear hxx
              go_wp2_with fail
              refine HB1.out.mono ?_
              clear HB1
              rintro e w4 ⟨rfl, hb4⟩
              have B4 : Hid (Below w2.heap.size w2 w4) := HB.out.trans (hb4.mono HB.out.size)
              have BW4 : Hid (Below w.heap.size w w4) := B2.out.trans (B4.out.mono B2.out.size)
              have HB3 : Hid (Calls Try.prog 18 #[.slice xa n xc, .int .i64 W, .int .i64 ((at_ : Int) + (j : Int) + 1)] w4 fun e w' => e = .returned (.tuple #[.int .i64 (x2 : Int), .int .i64 (y2 : Int)]) ∧ Below w4.heap.size w4 w') := by
                have := HBEST.out w4 (at_ + j + 1) BW4.out (by omega) (by omega)
                rw [hx2.out, hy2.out] at this
                push_cast at this
                exact this
              clear hb4 HB HBW
              go_wp2_with fail
              refine HB3.out.mono ?_
              clear HB3
              rintro e w5 ⟨rfl, hb5⟩
              have B5 : Hid (Below w2.heap.size w2 w5) := B4.out.trans (hb5.mono B4.out.size)
              clear hb5 B4 BW4
              by_cases hx0 : x = 0
              · have g1 : decide (0 < x) = false := by rw [decide_eq_false_iff_not]; omega
                have g2 : x ≤ 0 := by omega
                clear hx0
                go_wp2_with fail
                go_roundw
                case rel => exact ⟨j + 1, by omega, by go_num, B5⟩
                case measure => simp [intOf]; omega
              · have g1 : 0 < x := by omega
                have g2 : decide (x2 ≤ x) = false := by rw [decide_eq_false_iff_not]; have := HXX.out; omega
                have g3 : x < x2 := by have := HXX.out; omega
                clear hx0
                go_wp2_with fail
                go_roundw
                case rel => exact ⟨j + 1, by omega, by go_num, B5⟩
                case measure => simp [intOf]; omega
            · obtain rfl : j = q := by omega
              go_wp2_with fail
              go_roundw
              case rel => exact ⟨k + 1, n, .inr ⟨by omega, rfl⟩, Nat.le_refl _, by go_num, by first | rfl | go_num, HB⟩
              case measure => simp [intOf]
      · have g1 : ((at_ : Int) == (at_ : Int)) = true := by simp
        have HBW : Hid (Below w.heap.size w wr) := B2.out.trans (HB.out.mono B2.out.size)
        go_wp2_with fail
        refine (lives_any _).mono ?_
        rintro e w9 ⟨rfl, hb9⟩
        go_wp2_with fail
        go_ret
        exact ⟨rfl, HBW.out.trans (hb9.mono HBW.out.size)⟩
  · have hbI : (ds.length : Int) ≤ 2000 := by omega
    obtain ⟨xs, hxs⟩ : ∃ xs, Hid (ds = xs) := ⟨_, rfl⟩
    have hxl : xs.length ≤ 2000 := by rw [← hxs.out]; omega
    have HX : Hid (Rd .u8 w (.slice la xs.length lc) xs) := by show Rd _ _ _ _; rw [← hxs.out]; exact H1.out
    have HXY : Hid (By xs) := by show By xs; rw [← hxs.out]; exact HY.out
    rw [hxs.out] at hbI ⊢
    obtain ⟨xa, hxa⟩ : ∃ xa, xa = la := ⟨_, rfl⟩
    subst hxa
    obtain ⟨xc, hxc⟩ : ∃ xc, xc = lc := ⟨_, rfl⟩
    subst hxc
    clear hbig
    go_enter Try.func7, Try.ntmps7
    go_wp2_with fail
    by_cases hb : win < 1 ∨ 65536 < win
    · have HF : Hid (Calls Try.prog 9 #[.slice xa xs.length xc, .int .i64 win] w fun e w' => FPost (1, []) w e w') := by
        have := find_any _ xs win w HX.out HXY.out
        unfold findR at this
        rw [if_pos (.inr hb)] at this
        exact this
      clear hb
      refine HF.out.mono ?_
      clear HF
      intro e w2 hD
      obtain ⟨d, rfl, hb2, _, ho2⟩ := hD
      have B2 : Hid (Below w.heap.size w w2) := hb2
      clear hb2 ho2
      go_wp2_with fail
      refine (lives_any _).mono ?_
      rintro e w9 ⟨rfl, hb9⟩
      go_wp2_with fail
      go_ret
      exact ⟨rfl, B2.out.trans (hb9.mono B2.out.size)⟩
    obtain ⟨W, rfl⟩ := Int.eq_ofNat_of_zero_le (show 0 ≤ win by omega)
    have hW1 : 1 ≤ W := by omega
    have hW2 : W ≤ 65536 := by omega
    obtain ⟨u1, u2, u3⟩ := uses_core xs W
    have hpl : (steps xs W).length ≤ xs.length := fst_len xs W xs.length
    obtain ⟨ps, hps⟩ : ∃ ps, Hid (steps xs W = ps) := ⟨_, rfl⟩
    rw [hps.out] at u1 u2 u3 hpl
    have HF : Hid (Calls Try.prog 9 #[.slice xa xs.length xc, .int .i64 W] w fun e w' => FPost (0, ps) w e w') := by
      have := find_any _ xs W w HX.out HXY.out
      unfold findR at this
      rw [if_neg (by omega), Int.toNat_natCast, hps.out] at this
      exact this
    have U1 : Hid (pos ps ps.length ≤ xs.length) := u1
    have U2 : Hid (LP xs W (pos ps ps.length) xs.length) := u2
    have U3 : Hid (∀ j, j < ps.length → StOk xs W (pos ps j) (ps.getD j sq0)) := u3
    clear hb u1 u2 u3
    refine HF.out.mono ?_
    clear HF
    intro e w2 hD
    obtain ⟨d, rfl, hb2, _, ho2⟩ := hD
    have B2 : Hid (Below w.heap.size w w2) := hb2
    obtain ⟨da, dc, hda, _, _, q2⟩ := ho2.rd
    subst hda
    have C2 : Hid (ps = [] ∨ ∃ b o, da = some ⟨b, o, none⟩ ∧ ∀ i, i < ps.length → w2.cell? ⟨b, o + i * 3, none⟩ = some (.int .i64 (ps.getD i sq0).1) ∧ w2.cell? ⟨b, o + i * 3 + 1, none⟩ = some (.int .i64 (ps.getD i sq0).2.1) ∧ w2.cell? ⟨b, o + i * 3 + 2, none⟩ = some (.int .i64 (ps.getD i sq0).2.2)) := q2
    clear q2
    have HBEST : Hid (∀ (wr : World) (i : Nat), Below w.heap.size w wr → 0 < xs.length → i ≤ xs.length → Calls Try.prog 18 #[.slice xa xs.length xc, .int .i64 W, .int .i64 (i : Int)] wr fun e w' => e = .returned (.tuple #[.int .i64 ((best xs W i).1 : Int), .int .i64 ((best xs W i).2 : Int)]) ∧ Below wr.heap.size wr w') := fun wr i hw h0 hi => by
      obtain ⟨b, o, rfl, D⟩ := rd_dt HX.out HXY.out h0
      exact refBest_any xs.length b o xc i W xs wr (D.below hw) (by omega) hi hW2
    obtain ⟨n, hn⟩ : ∃ n, Hid (xs.length = n) := ⟨_, rfl⟩
    obtain ⟨L, hL⟩ : ∃ L, Hid (ps.length = L) := ⟨_, rfl⟩
    rw [hn.out] at hxl hpl HBEST U1 U2 ⊢
    rw [hL.out] at hpl C2 U1 U2 U3 ⊢
    try rw [hn.out] at hbI
    clear hb2 ho2
    go_wp2_with fail
    go_loopw [7, 8] (fun a i wr => ∃ (k at_ : Nat), ((k ≤ L ∧ Hid (at_ = pos ps k)) ∨ (k = L + 1 ∧ at_ = n)) ∧ at_ ≤ n ∧ i = .int .i64 k ∧ a = .int .i64 at_ ∧ Hid (Below w2.heap.size w2 wr)) (fun _ i _ => L + 1 - (intOf i).toNat)
    case atStart => exact ⟨0, 0, .inl ⟨Nat.zero_le _, rfl⟩, Nat.zero_le _, rfl, rfl, Below.refl _ _⟩
    case round =>
      obtain ⟨k, at_, hcs, hat, rfl, rfl, HB⟩ := hrel
      rcases hcs with ⟨hk, HP⟩ | ⟨rfl, rfl⟩
      · have q0 : (k : Int) ≤ (L : Int) := by omega
        by_cases hlt : k < L
        · have q1 : (k : Int) < (L : Int) := by omega
          obtain ⟨l, hX, hpos, hLP⟩ := U3.out k hlt
          rw [← HP.out] at hX hpos hLP
          obtain ⟨m, hm⟩ : ∃ m, Hid ((best xs W (at_ + l)).1 = m) := ⟨_, rfl⟩
          obtain ⟨t, ht⟩ : ∃ t, Hid ((best xs W (at_ + l)).2 = t) := ⟨_, rfl⟩
          rw [hm.out, ht.out] at hX
          rw [hm.out] at hpos
          have hbs := best_spec (ds := xs) (W := W) (i := at_ + l) (by rw [hm.out]; exact hpos)
          rw [hm.out, ht.out, hn.out] at hbs
          have hend : at_ + l + m ≤ n := hbs.2.2.2.2.1
          have htW : t ≤ W := hbs.2.2.1
          have hn0 : 0 < n := by omega
          have HLP : Hid (LP xs W at_ (at_ + l)) := hLP
          have HPN : Hid (pos ps (k + 1) = at_ + l + m) := by show _ = _; simp only [pos]; rw [hX, ← HP.out]; simp only [Int.toNat_natCast]
          rcases C2.out with h | ⟨b, o, hab, hc⟩
          · rw [h] at hL; have := hL.out; simp at this; omega
          subst hab
          obtain ⟨c0, c1, c2⟩ := hc k hlt
          have C0 : Hid (w2.cell? ⟨b, o + k * 3, none⟩ = some (.int .i64 (l : Int))) := by rw [hX] at c0; exact c0
          have C1' : Hid (w2.cell? ⟨b, o + k * 3 + 1, none⟩ = some (.int .i64 (m : Int))) := by rw [hX] at c1; exact c1
          have C2' : Hid (w2.cell? ⟨b, o + k * 3 + 2, none⟩ = some (.int .i64 (t : Int))) := by rw [hX] at c2; exact c2
          have d0 : wr.cell? ⟨b, o + k * 3, none⟩ = some (.int .i64 (l : Int)) := by rw [HB.out.cell (p := ⟨b, o + k * 3, none⟩) (World.block_lt_of_cell? w2 _ C0.out)]; exact C0.out
          clear c0 c1 c2 hc hX hbs hLP
          go_wp2_with fail
          go_loopw [10] (fun x wr => ∃ j : Nat, j ≤ l ∧ x = .int .i64 j ∧ Hid (Below w2.heap.size w2 wr)) (fun x _ => l - (intOf x).toNat)
          case atStart => exact ⟨0, Nat.zero_le _, rfl, HB⟩
          case round =>
            clear HB d0
            obtain ⟨j, hj, rfl, HB⟩ := hrel
            have HBW : Hid (Below w.heap.size w wr) := B2.out.trans (HB.out.mono B2.out.size)
            by_cases hjl : j < l
            · obtain ⟨x, hx⟩ : ∃ x : Nat, Hid ((best xs W (at_ + j)).1 = x) := ⟨_, rfl⟩
              obtain ⟨y, hy⟩ : ∃ y : Nat, Hid ((best xs W (at_ + j)).2 = y) := ⟨_, rfl⟩
              obtain ⟨x2, hx2⟩ : ∃ x : Nat, Hid ((best xs W (at_ + j + 1)).1 = x) := ⟨_, rfl⟩
              obtain ⟨y2, hy2⟩ : ∃ y : Nat, Hid ((best xs W (at_ + j + 1)).2 = y) := ⟨_, rfl⟩
              have hxx : x = 0 ∨ x < x2 := by
                have := HLP.out (at_ + j) (by omega) (by omega)
                rw [hx.out, hx2.out] at this
                exact this
              have HB1 : Hid (Calls Try.prog 18 #[.slice xa n xc, .int .i64 W, .int .i64 ((at_ : Int) + (j : Int))] wr fun e w' => e = .returned (.tuple #[.int .i64 (x : Int), .int .i64 (y : Int)]) ∧ Below wr.heap.size wr w') := by
                have := HBEST.out wr (at_ + j) HBW.out (by omega) (by omega)
                rw [hx.out, hy.out] at this
                push_cast at this
                exact this
              have HXX : Hid (x = 0 ∨ x < x2) := hxx
              clear hxx
              go_wp2_with fail
              refine HB1.out.mono ?_
              clear HB1
              rintro e w4 ⟨rfl, hb4⟩
              have B4 : Hid (Below w2.heap.size w2 w4) := HB.out.trans (hb4.mono HB.out.size)
              have BW4 : Hid (Below w.heap.size w w4) := B2.out.trans (B4.out.mono B2.out.size)
              have HB3 : Hid (Calls Try.prog 18 #[.slice xa n xc, .int .i64 W, .int .i64 ((at_ : Int) + (j : Int) + 1)] w4 fun e w' => e = .returned (.tuple #[.int .i64 (x2 : Int), .int .i64 (y2 : Int)]) ∧ Below w4.heap.size w4 w') := by
                have := HBEST.out w4 (at_ + j + 1) BW4.out (by omega) (by omega)
                rw [hx2.out, hy2.out] at this
                push_cast at this
                exact this
              clear hb4 HB HBW
              go_wp2_with fail
              refine HB3.out.mono ?_
              clear HB3
              rintro e w5 ⟨rfl, hb5⟩
              have B5 : Hid (Below w2.heap.size w2 w5) := B4.out.trans (hb5.mono B4.out.size)
              clear hb5 B4 BW4
              by_cases hx0 : x = 0
              · have g1 : decide (0 < x) = false := by rw [decide_eq_false_iff_not]; omega
                have g2 : x ≤ 0 := by omega
                clear hx0
                go_wp2_with fail
                go_roundw
                case rel => exact ⟨j + 1, by omega, by go_num, B5⟩
                case measure => simp [intOf]; omega
              · have g1 : 0 < x := by omega
                have g2 : decide (x2 ≤ x) = false := by rw [decide_eq_false_iff_not]; have := HXX.out; omega
                have g3 : x < x2 := by have := HXX.out; omega
                clear hx0
                go_wp2_with fail
                go_roundw
                case rel => exact ⟨j + 1, by omega, by go_num, B5⟩
                case measure => simp [intOf]; omega
            · obtain rfl : j = l := by omega
              have HB1 : Hid (Calls Try.prog 18 #[.slice xa n xc, .int .i64 W, .int .i64 ((at_ : Int) + (j : Int))] wr fun e w' => e = .returned (.tuple #[.int .i64 (m : Int), .int .i64 (t : Int)]) ∧ Below wr.heap.size wr w') := by
                have := HBEST.out wr (at_ + j) HBW.out hn0 (by omega)
                rw [hm.out, ht.out] at this
                push_cast at this
                exact this
              go_wp2_with fail
              refine HB1.out.mono ?_
              clear HB1
              rintro e w4 ⟨rfl, hb4⟩
              have B4 : Hid (Below w2.heap.size w2 w4) := HB.out.trans (hb4.mono HB.out.size)
              have hb0 := World.block_lt_of_cell? w2 _ C0.out
              have d1 : w4.cell? ⟨b, o + k * 3 + 1, none⟩ = some (.int .i64 (m : Int)) := by rw [B4.out.cell (p := ⟨b, o + k * 3 + 1, none⟩) hb0]; exact C1'.out
              have d2 : w4.cell? ⟨b, o + k * 3 + 2, none⟩ = some (.int .i64 (t : Int)) := by rw [B4.out.cell (p := ⟨b, o + k * 3 + 2, none⟩) hb0]; exact C2'.out
              have g1 : ((m : Int) != (m : Int)) = false := by simp
              have g2 : ((t : Int) != (t : Int)) = false := by simp
              have g3 : decide (W < t) = false := by rw [decide_eq_false_iff_not]; omega
              clear hb4 hb0 HB HBW
              go_wp2_with fail
              go_roundw
              case rel => exact ⟨k + 1, at_ + j + m, .inl ⟨by omega, HPN.out.symm⟩, by omega, by go_num, by push_cast; rfl, B4⟩
              case measure => simp [intOf]; omega
        · obtain rfl : k = L := by omega
          obtain ⟨q, hq⟩ : ∃ q, Hid (n - at_ = q) := ⟨_, rfl⟩
          have hqI : (n : Int) - (at_ : Int) = (q : Int) := by rw [← hq.out]; omega
          have hq2 : at_ + q = n := by rw [← hq.out]; omega
          have hq3 : (at_ : Int) + (q : Int) = (n : Int) := by omega
          have HLP : Hid (LP xs W at_ (at_ + q)) := by show LP _ _ _ _; rw [hq2, HP.out]; exact U2.out
          go_wp2_with fail
          go_loopw [10] (fun x wr => ∃ j : Nat, j ≤ q ∧ x = .int .i64 j ∧ Hid (Below w2.heap.size w2 wr)) (fun x _ => q - (intOf x).toNat)
          case atStart => exact ⟨0, Nat.zero_le _, rfl, HB⟩
          case round =>
            clear HB
            obtain ⟨j, hj, rfl, HB⟩ := hrel
            have HBW : Hid (Below w.heap.size w wr) := B2.out.trans (HB.out.mono B2.out.size)
            by_cases hjl : j < q
            · obtain ⟨x, hx⟩ : ∃ x : Nat, Hid ((best xs W (at_ + j)).1 = x) := ⟨_, rfl⟩
              obtain ⟨y, hy⟩ : ∃ y : Nat, Hid ((best xs W (at_ + j)).2 = y) := ⟨_, rfl⟩
              obtain ⟨x2, hx2⟩ : ∃ x : Nat, Hid ((best xs W (at_ + j + 1)).1 = x) := ⟨_, rfl⟩
              obtain ⟨y2, hy2⟩ : ∃ y : Nat, Hid ((best xs W (at_ + j + 1)).2 = y) := ⟨_, rfl⟩
              have hxx : x = 0 ∨ x < x2 := by
                have := HLP.out (at_ + j) (by omega) (by omega)
                rw [hx.out, hx2.out] at this
                exact this
              have HB1 : Hid (Calls Try.prog 18 #[.slice xa n xc, .int .i64 W, .int .i64 ((at_ : Int) + (j : Int))] wr fun e w' => e = .returned (.tuple #[.int .i64 (x : Int), .int .i64 (y : Int)]) ∧ Below wr.heap.size wr w') := by
                have := HBEST.out wr (at_ + j) HBW.out (by omega) (by omega)
                rw [hx.out, hy.out] at this
                push_cast at this
                exact this
              have HXX : Hid (x = 0 ∨ x < x2) := hxx
              clear hxx
              go_wp2_with fail
              refine HB1.out.mono ?_
              clear HB1
              rintro e w4 ⟨rfl, hb4⟩
              have B4 : Hid (Below w2.heap.size w2 w4) := HB.out.trans (hb4.mono HB.out.size)
              have BW4 : Hid (Below w.heap.size w w4) := B2.out.trans (B4.out.mono B2.out.size)
              have HB3 : Hid (Calls Try.prog 18 #[.slice xa n xc, .int .i64 W, .int .i64 ((at_ : Int) + (j : Int) + 1)] w4 fun e w' => e = .returned (.tuple #[.int .i64 (x2 : Int), .int .i64 (y2 : Int)]) ∧ Below w4.heap.size w4 w') := by
                have := HBEST.out w4 (at_ + j + 1) BW4.out (by omega) (by omega)
                rw [hx2.out, hy2.out] at this
                push_cast at this
                exact this
              clear hb4 HB HBW
              go_wp2_with fail
              refine HB3.out.mono ?_
              clear HB3
              rintro e w5 ⟨rfl, hb5⟩
              have B5 : Hid (Below w2.heap.size w2 w5) := B4.out.trans (hb5.mono B4.out.size)
              clear hb5 B4 BW4
              by_cases hx0 : x = 0
              · have g1 : decide (0 < x) = false := by rw [decide_eq_false_iff_not]; omega
                have g2 : x ≤ 0 := by omega
                clear hx0
                go_wp2_with fail
                go_roundw
                case rel => exact ⟨j + 1, by omega, by go_num, B5⟩
                case measure => simp [intOf]; omega
              · have g1 : 0 < x := by omega
                have g2 : decide (x2 ≤ x) = false := by rw [decide_eq_false_iff_not]; have := HXX.out; omega
                have g3 : x < x2 := by have := HXX.out; omega
                clear hx0
                go_wp2_with fail
                go_roundw
                case rel => exact ⟨j + 1, by omega, by go_num, B5⟩
                case measure => simp [intOf]; omega
            · obtain rfl : j = q := by omega
              go_wp2_with fail
              go_roundw
              case rel => exact ⟨k + 1, n, .inr ⟨by omega, rfl⟩, Nat.le_refl _, by go_num, by first | rfl | go_num, HB⟩
              case measure => simp [intOf]
      · have g1 : ((at_ : Int) == (at_ : Int)) = true := by simp
        have HBW : Hid (Below w.heap.size w wr) := B2.out.trans (HB.out.mono B2.out.size)
        go_wp2_with fail
        refine (lives_any _).mono ?_
        rintro e w9 ⟨rfl, hb9⟩
        go_wp2_with fail
        go_ret
        exact ⟨rfl, HBW.out.trans (hb9.mono HBW.out.size)⟩
end Go.Proofs.Ytghokdmfhifgjaa
