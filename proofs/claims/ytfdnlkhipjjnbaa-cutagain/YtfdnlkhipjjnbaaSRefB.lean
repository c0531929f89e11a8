/-
  The document's block: the eight words behind 64 bytes.
-/
import Derived.Test.YtfdnlkhipjjnbaaSRefT
import Derived.Test.YtfdnlkhipjjnbaaSPush
import Derived.Test.YtfdnlkhipjjnbaaE64
import Derived.StillTailTactics
import Derived.Deep.QuietTactic
import Derived.BigQuiet
namespace Go.Proofs.Ytfdnlkhipjjnbaa
open Go.RowKit Pl
set_option linter.unusedVariables false

/-- Eight words as a row. -/
def stL (s : St) : List Int := [s.a, s.b, s.c, s.d, s.e, s.f, s.g, s.h]
/-- The first words of a piece as a row. -/
def wl (f : Nat → Nat) (k : Nat) : List Int := (List.range k).map fun i => (f i : Int)
theorem wl_len (f : Nat → Nat) (k : Nat) : (wl f k).length = k := by simp [wl]
theorem wl_snoc (f : Nat → Nat) (k : Nat) : wl f (k + 1) = wl f k ++ [(f k : Int)] := by simp [wl, List.range_succ]
theorem wl_get (f : Nat → Nat) (k i : Nat) (h : i < k) : (wl f k).getD i 0 = (f i : Int) := by simp [wl, List.getD_eq_getElem?_getD, h]


/-- Eight words that lie together. -/
def X8 (w : World) (v : Value) (s : St) : Prop := ∃ g cp, v = .slice (some ⟨g, 0, none⟩) 8 cp ∧ 8 ≤ cp ∧ cp ≤ maxLen ∧ g < w.heap.size ∧ ∀ i, i < 8 → w.cell? ⟨g, i, none⟩ = some (.int .i64 (s.at_ i : Int))
theorem stL_get (s : St) (i : Nat) (h : i < 8) : (stL s).getD i 0 = (s.at_ i : Int) := by
  match i, h with
  | 0, _ => rfl | 1, _ => rfl | 2, _ => rfl | 3, _ => rfl | 4, _ => rfl | 5, _ => rfl | 6, _ => rfl | 7, _ => rfl
theorem x8_owns {w : World} {v : Value} {s : St} (h : Owns .i64 3 w v (stL s)) : X8 w v s := by
  obtain ⟨g, cap, e, h1, h2, h3, h4, _⟩ := h.shape (by simp [stL])
  exact ⟨g, cap, e, h2, h3, h1, fun i hi => by rw [h4 i hi, stL_get s i hi]⟩
theorem X8.below {w w' : World} {v : Value} {s : St} (h : X8 w v s) (hb : Below w.heap.size w w') : X8 w' v s := by
  obtain ⟨g, cp, e, h1, h2, h3, h4⟩ := h
  exact ⟨g, cp, e, h1, h2, Nat.lt_of_lt_of_le h3 hb.size, fun i hi => by rw [hb.cell (p := ⟨g, i, none⟩) h3, h4 i hi]⟩
theorem x8_new (W : World) (s : St) : X8 ((W.alloc (.cells #[.int .i64 (s.a : Int), .int .i64 (s.b : Int), .int .i64 (s.c : Int), .int .i64 (s.d : Int), .int .i64 (s.e : Int), .int .i64 (s.f : Int), .int .i64 (s.g : Int), .int .i64 (s.h : Int)] 3)).drew) (.slice (some ⟨W.heap.size, 0, none⟩) 8 8) s := by
  refine ⟨_, 8, rfl, Nat.le_refl _, by unfold maxLen; decide, by simp, fun i hi => ?_⟩
  have h := (uv_new .i64 W 3 8 s.at_).at_ i hi
  exact h
theorem rns_snoc (k w : Nat → Nat) (s : St) (i : Nat) : rns k w s (i + 1) = rnd (rns k w s i) (k i) (w i) := rfl

set_option maxRecDepth 100000 in
set_option maxHeartbeats 8000000 in
theorem refBlock_any (sv bv : Value) (s : St) (xs : List Int) (w : World) (hs : Rd .i64 w sv (stL s)) (hok : s.ok) (hr : Rd .u8 w bv xs) (hb : By xs) (hl : xs.length = 64) :
    Calls Try.prog 24 #[sv, bv] w fun e w' => (∃ v, e = .returned v ∧ Owns .i64 3 w' v (stL (mixS kF (wF (wd (bN xs))) s)) ∧ ∀ j, v.ownBlock = some j → w.heap.size ≤ j) ∧ Below w.heap.size w w' := by
  obtain ⟨ba, bc, hbv, _⟩ := id hr
  rw [hl] at hbv
  obtain ⟨ab, ao, rfl, hcc⟩ : ∃ b o, ba = some ⟨b, o, none⟩ ∧ ∀ i, i < 64 → w.cell? ⟨b, o + i, none⟩ = some (.int .u8 (bN xs i : Int)) := by
    obtain ⟨a', cap', e', _, _, _, h⟩ := hr
    rw [hl, hbv] at e'
    cases e'
    rcases h with h | ⟨b, o, e, h⟩
    · rw [h] at hl; simp at hl
    · exact ⟨b, o, e, fun i hi => by rw [h i (by omega), bN_eq hb]⟩
  have HC : Hid (∀ i, i < 64 → w.cell? ⟨ab, ao + i, none⟩ = some (.int .u8 (bN xs i : Int))) := hcc
  have HB : Hid (By xs) := hb
  have HS : Hid (Rd .i64 w sv (stL s)) := hs
  have HO : Hid s.ok := hok
  clear hcc hb hs hok hr
  subst hbv
  obtain ⟨f, hf⟩ : ∃ f, Hid (wF (wd (bN xs)) = f) := ⟨_, rfl⟩
  have HFL : Hid (∀ i, f i < 4294967296) := fun i => by rw [← hf.out]; exact wF_lt (wd_lt (bN_lt HB.out)) i
  rw [hf.out]
  have HABL : Hid (ab < w.heap.size) := World.block_lt_of_cell? w ⟨ab, ao + 0, none⟩ (HC.out 0 (by decide))
  go_enter Try.func24, Try.ntmps24
  go_wp2_with fail
  go_loopw [5, 6] (fun v i wr => ∃ (k : Nat) (v0 : Value), k ≤ 16 ∧ i = .int .i64 k ∧ v0 = v ∧ Hid (Owns .i64 3 wr v0 (wl f k)) ∧ Hid (Below w.heap.size w wr) ∧ Hid (∀ j, v0.ownBlock = some j → w.heap.size ≤ j)) (fun _ i _ => 16 - (intOf i).toNat)
  case atStart => exact ⟨0, _, Nat.zero_le _, rfl, rfl, owns_nil _ _ _, Below.refl _ _, fun j e => by cases e⟩
  case round =>
    obtain ⟨k, v0, hk, rfl, rfl, O1, B1, N1⟩ := hrel
    by_cases hlt : k < 16
    · obtain ⟨m, hm⟩ : ∃ m, 4 * k = m := ⟨_, rfl⟩
      have HCX : Hid (∀ j, j < 4 → ∃ b : Nat, b < 256 ∧ bN xs (m + j) = b ∧ wr.cell? ⟨ab, ao + (m + j), none⟩ = some (.int .u8 (b : Int))) := fun j hj => by
        have h0 := HC.out (m + j) (by omega)
        refine ⟨bN xs (m + j), bN_lt HB.out _, rfl, ?_⟩
        rw [B1.out.cell (p := ⟨ab, ao + (m + j), none⟩) HABL.out, h0]
      obtain ⟨b0, hb0, e0, c0⟩ := HCX.out 0 (by decide)
      obtain ⟨b1, hb1, e1, c1⟩ := HCX.out 1 (by decide)
      obtain ⟨b2, hb2, e2, c2⟩ := HCX.out 2 (by decide)
      obtain ⟨b3, hb3, e3, c3⟩ := HCX.out 3 (by decide)
      rw [Nat.add_zero] at c0 e0
      obtain ⟨V, hV⟩ : ∃ V, f k = V := ⟨_, rfl⟩
      have HW : V = b0 * 16777216 + b1 * 65536 + b2 * 256 + b3 := by rw [← hV, ← hf.out, wF_lo _ _ hlt]; unfold wd; rw [hm, e0, e1, e2, e3]
      have HSN : Hid (wl f (k + 1) = wl f k ++ [(V : Int)]) := by show _ = _; rw [wl_snoc, hV]
      obtain ⟨z0, hz0⟩ : ∃ z, b0 * 16777216 = z := ⟨_, rfl⟩
      obtain ⟨z1, hz1⟩ : ∃ z, b1 * 65536 = z := ⟨_, rfl⟩
      obtain ⟨z2, hz2⟩ : ∃ z, b2 * 256 = z := ⟨_, rfl⟩
      obtain ⟨s1', hs1⟩ : ∃ z, z0 + z1 = z := ⟨_, rfl⟩
      obtain ⟨s2', hs2⟩ : ∃ z, s1' + z2 = z := ⟨_, rfl⟩
      obtain ⟨p1, hp1⟩ : ∃ p, m + 1 = p := ⟨_, rfl⟩
      obtain ⟨p2, hp2⟩ : ∃ p, m + 2 = p := ⟨_, rfl⟩
      obtain ⟨p3, hp3⟩ : ∃ p, m + 3 = p := ⟨_, rfl⟩
      rw [hp1] at c1; rw [hp2] at c2; rw [hp3] at c3
      have y0 : (b0 : Int) * 16777216 = (z0 : Int) := by omega
      have y1 : (b1 : Int) * 65536 = (z1 : Int) := by omega
      have y2 : (b2 : Int) * 256 = (z2 : Int) := by omega
      have y3 : (z0 : Int) + (z1 : Int) = (s1' : Int) := by omega
      have y4 : (s1' : Int) + (z2 : Int) = (s2' : Int) := by omega
      have y5 : (s2' : Int) + (b3 : Int) = (V : Int) := by omega
      have m0 : 4 * (k : Int) = (m : Int) := by omega
      have m1 : (m : Int) + 1 = (p1 : Int) := by omega
      have m2 : (m : Int) + 2 = (p2 : Int) := by omega
      have m3 : (m : Int) + 3 = (p3 : Int) := by omega
      have i0 : (m : Int) < 64 := by omega
      have i1 : (p1 : Int) < 64 := by omega
      have i2 : (p2 : Int) < 64 := by omega
      have i3 : (p3 : Int) < 64 := by omega
      have wr_ : ∀ n : Nat, n < 4611686018427387904 → IntKind.i64.wrap (n : Int) = (n : Int) := fun n h => by rw [IntKind.wrap_i64]; omega
      have w0 := wr_ m (by omega)
      have w1 := wr_ p1 (by omega)
      have w2 := wr_ p2 (by omega)
      have w3 := wr_ p3 (by omega)
      have w4 := wr_ z0 (by omega)
      have w5 := wr_ z1 (by omega)
      have w6 := wr_ z2 (by omega)
      have w7 := wr_ s1' (by omega)
      have w8 := wr_ s2' (by omega)
      have w9 := wr_ V (by omega)
      have wb0 := wr_ b0 (by omega)
      have wb1 := wr_ b1 (by omega)
      have wb2 := wr_ b2 (by omega)
      have wb3 := wr_ b3 (by omega)
      have HAB : Hid (v0.ownBlock = some ab → False) := fun e => by have := N1.out _ e; have := HABL.out; omega
      have HK1 : Hid ((wl f k).length + 1 ≤ maxLen) := by show _ ≤ _; rw [wl_len]; unfold maxLen; omega
      have HK2 : Hid (((wl f k).length + 1) * 8 ≤ 140737488355328) := by show _ ≤ _; rw [wl_len]; omega
      clear HCX e0 e1 e2 e3 hV hm HW hz0 hz1 hz2 hs1 hs2 hp1 hp2 hp3 wr_
      go_wp2_with fail
      go_region_held3 (fun w' => w'.cell? ⟨ab, ao + m, none⟩ = some (.int .u8 (b0 : Int)) ∧ w'.cell? ⟨ab, ao + p1, none⟩ = some (.int .u8 (b1 : Int)) ∧ w'.cell? ⟨ab, ao + p2, none⟩ = some (.int .u8 (b2 : Int)) ∧ w'.cell? ⟨ab, ao + p3, none⟩ = some (.int .u8 (b3 : Int))) (go_keep)
        (first
          | (refine step_push rfl (.tmp 27) (.tmp 61) 27 rfl 3 .i64 8 elem64 v0 (wl f k) ?h1 ?h2 (V : Int) wr.heap.size ?h3 ?h4 HK1.out HK2.out ?_; (case h1 => kernel_rfl); (case h2 => first | exact O1.out.below (((Below.refl _ _).alloc (Nat.le_refl _) _).drew) | exact O1.out.below ((Below.refl _ _).drew.alloc (Nat.le_refl _) _)); (case h3 => kernel_rfl); (case h4 => simp); intro v5 w5 ho5 hg5 hp5; have k0 := hp5 ab (ao + m) (.int .u8 (b0 : Int)) (by go_keep) (fun e => (HAB.out e).elim); have k1 := hp5 ab (ao + p1) (.int .u8 (b1 : Int)) (by go_keep) (fun e => (HAB.out e).elim); have k2 := hp5 ab (ao + p2) (.int .u8 (b2 : Int)) (by go_keep) (fun e => (HAB.out e).elim); have k3 := hp5 ab (ao + p3) (.int .u8 (b3 : Int)) (by go_keep) (fun e => (HAB.out e).elim)))
      rw [← HSN.out] at ho5
      have O5 : Hid (Owns .i64 3 w5 v5 (wl f (k + 1))) := ho5
      have N5 : Hid (∀ j, v5.ownBlock = some j → w.heap.size ≤ j) := fun j hj => by
        rcases hg5.fresh j hj with e | e
        · exact N1.out j e
        · have := B1.out.size
          simp at e
          omega
      have B5 : Hid (Below w.heap.size w w5) := by
        have h1 : Below w.heap.size w (wr.alloc (.cells #[.int .i64 (V : Int)] 3)).drew := (B1.out.alloc B1.out.size _).drew
        have h2 := hg5.tch.below (B := w.heap.size) (by have := B1.out.size; simp; omega) (fun j e => N1.out j e)
        exact h1.trans h2
      clear ho5 hg5 hp5 k0 k1 k2 k3 O1 B1 N1 HAB c0 c1 c2 c3
      go_wp2_with fail
      go_roundw
      case rel => exact ⟨k + 1, v5, by omega, by go_num, rfl, O5, B5, N5⟩
      case measure => simp [intOf]; omega
    · have hk0 : k = 16 := by omega
      rw [hk0] at O1
      have hkn : ¬ (k : Int) < 16 := by omega
      clear hlt
      go_wp2_with fail
      clear hk hkn hk0
      go_loopw [5, 7] (fun v i wr => ∃ (k : Nat) (v0 : Value), 16 ≤ k ∧ k ≤ 64 ∧ i = .int .i64 k ∧ v0 = v ∧ Hid (Owns .i64 3 wr v0 (wl f k)) ∧ Hid (Below w.heap.size w wr) ∧ Hid (∀ j, v0.ownBlock = some j → w.heap.size ≤ j)) (fun _ i _ => 64 - (intOf i).toNat)
      case atStart => exact ⟨16, v0, Nat.le_refl _, by decide, rfl, rfl, O1, B1, N1⟩
      case round =>
        clear O1 B1 N1
        obtain ⟨k, v0, hk16, hk, rfl, rfl, O1, B1, N1⟩ := hrel
        by_cases hlt : k < 64
        · obtain ⟨p, hp⟩ : ∃ p, k = p + 16 := ⟨k - 16, by omega⟩
          obtain ⟨g, cp, hv, hgl, hcp1, hcp2, hcell, _⟩ := O1.out.shape (by rw [wl_len]; omega)
          rw [wl_len] at hv hcp1
          subst hv
          have HCX : Hid (∀ j, j < k → wr.cell? ⟨g, j, none⟩ = some (.int .i64 (f j : Int))) := fun j hj => by
            have := hcell j (by rw [wl_len]; exact hj)
            rw [wl_get _ _ _ hj] at this
            exact this
          have HW : f k = (f p + g0 (f (p + 1)) + f (p + 9) + g1 (f (p + 14))) % 4294967296 := by rw [hp, ← hf.out, wF_hi]
          obtain ⟨q1, hq1⟩ : ∃ q, p + 1 = q := ⟨_, rfl⟩
          obtain ⟨q9, hq9⟩ : ∃ q, p + 9 = q := ⟨_, rfl⟩
          obtain ⟨q14, hq14⟩ : ∃ q, p + 14 = q := ⟨_, rfl⟩
          rw [hq1, hq9, hq14] at HW
          have cp0 := HCX.out p (by omega)
          have c1 := HCX.out q1 (by omega)
          have c9 := HCX.out q9 (by omega)
          have c14 := HCX.out q14 (by omega)
          have lpS := HFL.out p
          have l9 := HFL.out q9
          have hx := HFL.out q1
          have hy := HFL.out q14
          obtain ⟨V, hV⟩ : ∃ V, f k = V := ⟨_, rfl⟩
          obtain ⟨P0, hP0⟩ : ∃ V, f p = V := ⟨_, rfl⟩
          obtain ⟨P9, hP9⟩ : ∃ V, f q9 = V := ⟨_, rfl⟩
          obtain ⟨x, hxe⟩ : ∃ V, f q1 = V := ⟨_, rfl⟩
          obtain ⟨y, hye⟩ : ∃ V, f q14 = V := ⟨_, rfl⟩
          have HSN : Hid (wl f (k + 1) = wl f k ++ [(V : Int)]) := by show _ = _; rw [wl_snoc, hV]
          rw [hP0] at cp0 lpS HW
          rw [hP9] at c9 l9 HW
          rw [hxe] at c1 hx HW
          rw [hye] at c14 hy HW
          rw [hV] at HW
          have t7 : ∀ W, Calls Try.prog 33 #[.int .i64 x, .int .i64 7] W fun e w' => e = .returned (.int .i64 (rot 7 x : Int)) ∧ ∃ m, w' = W.drewN m := fun W => refTurn_any x 7 W (by decide) (by decide) hx
          have t18 : ∀ W, Calls Try.prog 33 #[.int .i64 x, .int .i64 18] W fun e w' => e = .returned (.int .i64 (rot 18 x : Int)) ∧ ∃ m, w' = W.drewN m := fun W => refTurn_any x 18 W (by decide) (by decide) hx
          have t17 : ∀ W, Calls Try.prog 33 #[.int .i64 y, .int .i64 17] W fun e w' => e = .returned (.int .i64 (rot 17 y : Int)) ∧ ∃ m, w' = W.drewN m := fun W => refTurn_any y 17 W (by decide) (by decide) hy
          have t19 : ∀ W, Calls Try.prog 33 #[.int .i64 y, .int .i64 19] W fun e w' => e = .returned (.int .i64 (rot 19 y : Int)) ∧ ∃ m, w' = W.drewN m := fun W => refTurn_any y 19 W (by decide) (by decide) hy
          have r7 := rot_lt 7 x (by decide) (by decide) hx
          have r18 := rot_lt 18 x (by decide) (by decide) hx
          have r17 := rot_lt 17 y (by decide) (by decide) hy
          have r19 := rot_lt 19 y (by decide) (by decide) hy
          have x1 := fun W => xor_any (rot 7 x) (rot 18 x) W r7 r18
          obtain ⟨xs3, hxs3⟩ : ∃ z, x / 8 = z := ⟨_, rfl⟩
          obtain ⟨ys3, hys3⟩ : ∃ z, y / 1024 = z := ⟨_, rfl⟩
          have x2 : ∀ W, Calls Try.prog 32 #[.int .i64 ((rot 7 x ^^^ rot 18 x : Nat) : Int), .int .i64 (xs3 : Int)] W fun e w' => e = .returned (.int .i64 (g0 x : Int)) ∧ w' = W := fun W => by
            have h := xor_any (rot 7 x ^^^ rot 18 x) xs3 W (xor_lt r7 r18) (by omega)
            rw [← hxs3] at h ⊢
            exact h
          have x3 := fun W => xor_any (rot 17 y) (rot 19 y) W r17 r19
          have x4 : ∀ W, Calls Try.prog 32 #[.int .i64 ((rot 17 y ^^^ rot 19 y : Nat) : Int), .int .i64 (ys3 : Int)] W fun e w' => e = .returned (.int .i64 (g1 y : Int)) ∧ w' = W := fun W => by
            have h := xor_any (rot 17 y ^^^ rot 19 y) ys3 W (xor_lt r17 r19) (by omega)
            rw [← hys3] at h ⊢
            exact h
          have lg0 := g0_lt hx
          have lg1 := g1_lt hy
          generalize g0 x = G0 at *
          generalize g1 y = G1 at *
          generalize rot 7 x = R7 at *
          generalize rot 18 x = R18 at *
          generalize rot 17 y = R17 at *
          generalize rot 19 y = R19 at *
          generalize R7 ^^^ R18 = X7 at *
          generalize R17 ^^^ R19 = X17 at *
          obtain ⟨Y1, hY1⟩ : ∃ Y, P0 + G0 = Y := ⟨_, rfl⟩
          obtain ⟨Y2, hY2⟩ : ∃ Y, Y1 + P9 = Y := ⟨_, rfl⟩
          obtain ⟨Y3, hY3⟩ : ∃ Y, Y2 + G1 = Y := ⟨_, rfl⟩
          have y1 : (P0 : Int) + (G0 : Int) = (Y1 : Int) := by omega
          have y2 : (Y1 : Int) + (P9 : Int) = (Y2 : Int) := by omega
          have y3 : (Y2 : Int) + (G1 : Int) = (Y3 : Int) := by omega
          have y4 : (Y3 : Int) % 4294967296 = (V : Int) := by omega
          have y5 : (Y3 : Int).tmod 4294967296 = (V : Int) := by rw [Int.tmod_eq_emod_of_nonneg (by omega)]; exact y4
          have e8 : (x : Int) / 8 = (xs3 : Int) := by omega
          have e10 : (y : Int) / 1024 = (ys3 : Int) := by omega
          have i16 : (k : Int) - 16 = (p : Int) := by omega
          have i15 : (k : Int) - 15 = (q1 : Int) := by omega
          have i7 : (k : Int) - 7 = (q9 : Int) := by omega
          have i2 : (k : Int) - 2 = (q14 : Int) := by omega
          have hp1 : (p : Int) < (k : Int) := by omega
          have hp2 : (q1 : Int) < (k : Int) := by omega
          have hp3 : (q9 : Int) < (k : Int) := by omega
          have hp4 : (q14 : Int) < (k : Int) := by omega
          have wr_ : ∀ n : Nat, n < 4611686018427387904 → IntKind.i64.wrap (n : Int) = (n : Int) := fun n h => by rw [IntKind.wrap_i64]; omega
          have w0 := wr_ p (by omega)
          have w1 := wr_ q9 (by omega)
          have w4 := wr_ Y1 (by omega)
          have w5 := wr_ Y2 (by omega)
          have w6 := wr_ Y3 (by omega)
          have w7 := wr_ V (by omega)
          have hcp3 : cp ≤ 9223372036854775807 := by unfold maxLen at hcp2; omega
          have hgk : p < k ∧ q9 < k := by omega
          have HK1 : Hid ((wl f k).length + 1 ≤ maxLen) := by show _ ≤ _; rw [wl_len]; unfold maxLen; omega
          have HK2 : Hid (((wl f k).length + 1) * 8 ≤ 140737488355328) := by show _ ≤ _; rw [wl_len]; omega
          clear HCX HW hY1 hY2 hY3 hP0 hP9 hxe hye hV lg0 lg1 hp hq1 hq9 hq14 hcell hcp2 wr_ hxs3 hys3 r7 r18 r17 r19
          have HYS : Hid (((P0 : Int) + (G0 : Int) = (Y1 : Int)) ∧ ((Y1 : Int) + (P9 : Int) = (Y2 : Int)) ∧ ((Y2 : Int) + (G1 : Int) = (Y3 : Int)) ∧ ((Y3 : Int) % 4294967296 = (V : Int)) ∧ ((Y3 : Int).tmod 4294967296 = (V : Int))) := ⟨y1, y2, y3, y4, y5⟩
          have HWS : Hid (IntKind.i64.wrap (p : Int) = (p : Int) ∧ IntKind.i64.wrap (q9 : Int) = (q9 : Int) ∧ IntKind.i64.wrap (Y1 : Int) = (Y1 : Int) ∧ IntKind.i64.wrap (Y2 : Int) = (Y2 : Int) ∧ IntKind.i64.wrap (Y3 : Int) = (Y3 : Int) ∧ IntKind.i64.wrap (V : Int) = (V : Int)) := ⟨w0, w1, w4, w5, w6, w7⟩
          clear w0 w1 w4 w5 w6 w7 y1 y2 y3 y4 y5
          go_wp2_with fail
          refine (t7 _).mono ?_
          rintro _ _ ⟨rfl, n_t7, rfl⟩
          go_wp2_with fail
          refine (t18 _).mono ?_
          rintro _ _ ⟨rfl, n_t18, rfl⟩
          go_wp2_with fail
          refine (x1 _).mono ?_
          rintro _ _ ⟨rfl, rfl⟩
          go_wp2_with fail
          refine (x2 _).mono ?_
          rintro _ _ ⟨rfl, rfl⟩
          go_wp2_with fail
          refine (t17 _).mono ?_
          rintro _ _ ⟨rfl, n_t17, rfl⟩
          go_wp2_with fail
          refine (t19 _).mono ?_
          rintro _ _ ⟨rfl, n_t19, rfl⟩
          go_wp2_with fail
          refine (x3 _).mono ?_
          rintro _ _ ⟨rfl, rfl⟩
          go_wp2_with fail
          refine (x4 _).mono ?_
          rintro _ _ ⟨rfl, rfl⟩
          go_wp2_with fail
          obtain ⟨y1, y2, y3, y4, y5⟩ := HYS.out
          obtain ⟨w0, w1, w4, w5, w6, w7⟩ := HWS.out
          obtain ⟨W1, hW1⟩ : ∃ W1, Hid (wr.drewN (n_t7 + n_t18 + n_t17 + n_t19) = W1) := ⟨_, rfl⟩
          have dp : W1.cell? ⟨g, p, none⟩ = some (.int .i64 (P0 : Int)) := by rw [← hW1.out]; exact cp0
          have d9 : W1.cell? ⟨g, q9, none⟩ = some (.int .i64 (P9 : Int)) := by rw [← hW1.out]; exact c9
          have B2 : Hid (Below wr.heap.size wr W1) := by rw [← hW1.out]; exact ⟨rfl, rfl, rfl, Nat.le_refl _, fun _ _ => rfl⟩
          have O2 : Hid (Owns .i64 3 W1 (.slice (some ⟨g, 0, none⟩) k cp) (wl f k)) := O1.out.below B2.out
          have HLS : Hid ((.slice (some ⟨g, 0, none⟩) k cp : Value).ownBlock = some g → p < (wl f k).length ∧ q9 < (wl f k).length) := fun _ => by rw [wl_len]; exact hgk
          rw [hW1.out]
          clear cp0 c1 c9 c14 hW1 t7 t18 t17 t19 x1 x2 x3 x4 HYS HWS
          go_region_held3 (fun w' => w'.cell? ⟨g, p, none⟩ = some (.int .i64 (P0 : Int)) ∧ w'.cell? ⟨g, q9, none⟩ = some (.int .i64 (P9 : Int))) (go_keep)
            (first
              | (refine step_push rfl (.tmp 93) (.tmp 110) 27 rfl 3 .i64 8 elem64 (.slice (some ⟨g, 0, none⟩) k cp) (wl f k) ?h1 ?h2 (V : Int) W1.heap.size ?h3 ?h4 HK1.out HK2.out ?_; (case h1 => kernel_rfl); (case h2 => first | exact O2.out.below (((Below.refl _ _).alloc (Nat.le_refl _) _).drew) | exact O2.out.below ((Below.refl _ _).drew.alloc (Nat.le_refl _) _)); (case h3 => kernel_rfl); (case h4 => simp); intro v5 w5' ho5 hg5 hp5; have k0 := hp5 g p (.int .i64 (P0 : Int)) (by go_keep) (fun e => (HLS.out e).1); have k1 := hp5 g q9 (.int .i64 (P9 : Int)) (by go_keep) (fun e => (HLS.out e).2)))
          rw [← HSN.out] at ho5
          have O5 : Hid (Owns .i64 3 w5' v5 (wl f (k + 1))) := ho5
          have B3 : Hid (Below w.heap.size w W1) := B1.out.trans (B2.out.mono B1.out.size)
          have N5 : Hid (∀ j, v5.ownBlock = some j → w.heap.size ≤ j) := fun j hj => by
            rcases hg5.fresh j hj with e | e
            · exact N1.out j e
            · have := B3.out.size
              simp at e
              omega
          have B5 : Hid (Below w.heap.size w w5') := by
            have h1 : Below w.heap.size w (W1.alloc (.cells #[.int .i64 (V : Int)] 3)).drew := (B3.out.alloc B3.out.size _).drew
            have h2 := hg5.tch.below (B := w.heap.size) (by have := B3.out.size; simp; omega) (fun j e => N1.out j e)
            exact h1.trans h2
          clear ho5 hg5 hp5 k0 k1 O1 O2 B1 B2 B3 N1 HLS dp d9
          go_wp2_with fail
          go_roundw
          case rel => exact ⟨k + 1, v5, by omega, by omega, by go_num, rfl, O5, B5, N5⟩
          case measure => simp [intOf]; omega
        · have hk0 : k = 64 := by omega
          rw [hk0] at O1
          have hkn : ¬ (k : Int) < 64 := by omega
          have S1 : Hid (Rd .i64 wr sv (stL s)) := HS.out.below B1.out
          clear hlt
          go_wp2_with (at_builtin; refine wpList_many _ rfl (.tmp 112) (.tmp 113) 27 rfl 3 .i64 8 elem64 (.slice none 0 0) [] rfl (owns_nil _ _ _) sv (stL s) rfl S1.out (by simp [stL]) (by simp [stL]) ?_)
          intro vx wx ox gx
          have GB := gx.below
          have BX : Hid (Below w.heap.size w wx) := B1.out.trans (GB.1.mono B1.out.size)
          have WX : Hid (Rd .i64 wx v0 (wl f 64)) := O1.out.rd.below GB.1
          have SX : Hid (Rd .i64 wx sv (stL s)) := S1.out.below GB.1
          have XX : Hid (X8 wx vx s) := x8_owns ox
          clear GB ox gx O1 B1 N1 S1 hk16 hk hk0 hkn HS
          obtain ⟨wa, wc, hwv, hwc, hwm, _, hwcell⟩ := id WX.out
          rw [wl_len] at hwv hwc hwcell
          obtain ⟨wb, wo, hwa, hwcl⟩ : ∃ b o, wa = some ⟨b, o, none⟩ ∧ ∀ i, i < 64 → wx.cell? ⟨b, o + i, none⟩ = some (.int .i64 (f i : Int)) := by
            rcases hwcell with h | ⟨b, o, e, h⟩
            · have := congrArg List.length h; rw [wl_len] at this; simp at this
            · exact ⟨b, o, e, fun i hi => by rw [h i hi, wl_get _ _ _ hi]⟩
          subst hwa
          subst hwv
          have HWC : Hid (∀ i, i < 64 → wx.cell? ⟨wb, wo + i, none⟩ = some (.int .i64 (f i : Int))) := hwcl
          have HWL : Hid (wb < wx.heap.size) := World.block_lt_of_cell? wx ⟨wb, wo + 0, none⟩ (hwcl 0 (by decide))
          have hwc3 : wc ≤ 9223372036854775807 := by unfold maxLen at hwm; omega
          clear hwcell hwcl WX hwm
          go_wp2_with fail
          go_loopw [12, 13] (fun v i wr => ∃ (k : Nat) (v1 : Value) (s1 : St), k ≤ 64 ∧ i = .int .i64 k ∧ v1 = v ∧ Hid (rns kF f s k = s1) ∧ Hid (s1.ok) ∧ Hid (X8 wr v1 s1) ∧ Hid (Below wx.heap.size wx wr)) (fun _ i _ => 64 - (intOf i).toNat)
          case atStart => exact ⟨0, vx, s, Nat.zero_le _, rfl, rfl, rfl, HO, XX, Below.refl _ _⟩
          case round =>
            clear XX
            obtain ⟨k, v1, s1_, hk, rfl, rfl, HRN, HOK, XX, B1⟩ := hrel
            by_cases hlt : k < 64
            · obtain ⟨g, cp, hv, hcp1, hcp2, hgl, hcell⟩ := XX.out
              subst hv
              obtain ⟨A, Bb, Cc, D, E, F, G, H⟩ := s1_
              have c0 : wr.cell? ⟨g, 0, none⟩ = some (.int .i64 (A : Int)) := hcell 0 (by decide)
              have c1 : wr.cell? ⟨g, 1, none⟩ = some (.int .i64 (Bb : Int)) := hcell 1 (by decide)
              have c2 : wr.cell? ⟨g, 2, none⟩ = some (.int .i64 (Cc : Int)) := hcell 2 (by decide)
              have c3 : wr.cell? ⟨g, 3, none⟩ = some (.int .i64 (D : Int)) := hcell 3 (by decide)
              have c4 : wr.cell? ⟨g, 4, none⟩ = some (.int .i64 (E : Int)) := hcell 4 (by decide)
              have c5 : wr.cell? ⟨g, 5, none⟩ = some (.int .i64 (F : Int)) := hcell 5 (by decide)
              have c6 : wr.cell? ⟨g, 6, none⟩ = some (.int .i64 (G : Int)) := hcell 6 (by decide)
              have c7 : wr.cell? ⟨g, 7, none⟩ = some (.int .i64 (H : Int)) := hcell 7 (by decide)
              obtain ⟨hA, hB, hC, hD, hE, hF, hG, hH⟩ := HOK.out
              dsimp only at hA hB hC hD hE hF hG hH
              have cw : wr.cell? ⟨wb, wo + k, none⟩ = some (.int .i64 (f k : Int)) := by rw [B1.out.cell (p := ⟨wb, wo + k, none⟩) HWL.out]; exact HWC.out k hlt
              have hW := HFL.out k
              have HNX : Hid (rns kF f s (k + 1) = rnd ⟨A, Bb, Cc, D, E, F, G, H⟩ (kF k) (f k)) := by show _ = _; rw [rns_snoc, HRN.out]
              have hK := kF_lt k
              have HWD : Hid (∀ W, Calls Try.prog 34 #[.int .i64 (k : Int)] W fun e w' => e = .returned (.int .i64 (kF k : Int)) ∧ Below W.heap.size W w') := fun W => refWord_any k W hlt
              obtain ⟨KK, hKK⟩ : ∃ K, kF k = K := ⟨_, rfl⟩
              obtain ⟨WW, hWW⟩ : ∃ K, f k = K := ⟨_, rfl⟩
              rw [hKK] at hK HNX HWD
              rw [hWW] at hW HNX cw
              have hcp3 : cp ≤ 9223372036854775807 := by unfold maxLen at hcp2; omega
              clear hcell hKK hWW hcp2 XX HRN
              -- the words
              have r6 := rot_lt 6 E (by decide) (by decide) hE
              have r11 := rot_lt 11 E (by decide) (by decide) hE
              have r25 := rot_lt 25 E (by decide) (by decide) hE
              have r2 := rot_lt 2 A (by decide) (by decide) hA
              have r13 := rot_lt 13 A (by decide) (by decide) hA
              have r22 := rot_lt 22 A (by decide) (by decide) hA
              have T6 : Hid (∀ W, Calls Try.prog 33 #[.int .i64 E, .int .i64 6] W fun e w' => e = .returned (.int .i64 (rot 6 E : Int)) ∧ ∃ m, w' = W.drewN m) := fun W => refTurn_any E 6 W (by decide) (by decide) hE
              have T11 : Hid (∀ W, Calls Try.prog 33 #[.int .i64 E, .int .i64 11] W fun e w' => e = .returned (.int .i64 (rot 11 E : Int)) ∧ ∃ m, w' = W.drewN m) := fun W => refTurn_any E 11 W (by decide) (by decide) hE
              have T25 : Hid (∀ W, Calls Try.prog 33 #[.int .i64 E, .int .i64 25] W fun e w' => e = .returned (.int .i64 (rot 25 E : Int)) ∧ ∃ m, w' = W.drewN m) := fun W => refTurn_any E 25 W (by decide) (by decide) hE
              have T2 : Hid (∀ W, Calls Try.prog 33 #[.int .i64 A, .int .i64 2] W fun e w' => e = .returned (.int .i64 (rot 2 A : Int)) ∧ ∃ m, w' = W.drewN m) := fun W => refTurn_any A 2 W (by decide) (by decide) hA
              have T13 : Hid (∀ W, Calls Try.prog 33 #[.int .i64 A, .int .i64 13] W fun e w' => e = .returned (.int .i64 (rot 13 A : Int)) ∧ ∃ m, w' = W.drewN m) := fun W => refTurn_any A 13 W (by decide) (by decide) hA
              have T22 : Hid (∀ W, Calls Try.prog 33 #[.int .i64 A, .int .i64 22] W fun e w' => e = .returned (.int .i64 (rot 22 A : Int)) ∧ ∃ m, w' = W.drewN m) := fun W => refTurn_any A 22 W (by decide) (by decide) hA
              obtain ⟨NE, hNE⟩ : ∃ N, 4294967295 - E = N := ⟨_, rfl⟩
              have X1 : Hid (∀ W, Calls Try.prog 32 #[.int .i64 (rot 6 E : Int), .int .i64 (rot 11 E : Int)] W fun e w' => e = .returned (.int .i64 ((rot 6 E ^^^ rot 11 E : Nat) : Int)) ∧ w' = W) := fun W => xor_any _ _ W r6 r11
              have X2 : Hid (∀ W, Calls Try.prog 32 #[.int .i64 ((rot 6 E ^^^ rot 11 E : Nat) : Int), .int .i64 (rot 25 E : Int)] W fun e w' => e = .returned (.int .i64 (s1 E : Int)) ∧ w' = W) := fun W => xor_any _ _ W (xor_lt r6 r11) r25
              have X3 : Hid (∀ W, Calls Try.prog 32 #[.int .i64 ((E &&& F : Nat) : Int), .int .i64 ((NE &&& G : Nat) : Int)] W fun e w' => e = .returned (.int .i64 (ch E F G : Int)) ∧ w' = W) := fun W => by
                have := xor_any (E &&& F) (NE &&& G) W (and_lt _ hF) (and_lt _ hG)
                rw [← hNE] at this ⊢
                exact this
              have X4 : Hid (∀ W, Calls Try.prog 32 #[.int .i64 (rot 2 A : Int), .int .i64 (rot 13 A : Int)] W fun e w' => e = .returned (.int .i64 ((rot 2 A ^^^ rot 13 A : Nat) : Int)) ∧ w' = W) := fun W => xor_any _ _ W r2 r13
              have X5 : Hid (∀ W, Calls Try.prog 32 #[.int .i64 ((rot 2 A ^^^ rot 13 A : Nat) : Int), .int .i64 (rot 22 A : Int)] W fun e w' => e = .returned (.int .i64 (s0 A : Int)) ∧ w' = W) := fun W => xor_any _ _ W (xor_lt r2 r13) r22
              have X6 : Hid (∀ W, Calls Try.prog 32 #[.int .i64 ((A &&& Bb : Nat) : Int), .int .i64 ((A &&& Cc : Nat) : Int)] W fun e w' => e = .returned (.int .i64 (((A &&& Bb) ^^^ (A &&& Cc) : Nat) : Int)) ∧ w' = W) := fun W => xor_any _ _ W (and_lt _ hB) (and_lt _ hC)
              have X7 : Hid (∀ W, Calls Try.prog 32 #[.int .i64 (((A &&& Bb) ^^^ (A &&& Cc) : Nat) : Int), .int .i64 ((Bb &&& Cc : Nat) : Int)] W fun e w' => e = .returned (.int .i64 (mj A Bb Cc : Int)) ∧ w' = W) := fun W => xor_any _ _ W (xor_lt (and_lt _ hB) (and_lt _ hC)) (and_lt _ hC)
              have a1 := i64_and E F hE hF
              have a2 := i64_and NE G (by omega) hG
              have a3 := i64_and A Bb hA hB
              have a4 := i64_and A Cc hA hC
              have a5 := i64_and Bb Cc hB hC
              have HNX2 : Hid (rns kF f s (k + 1) = ⟨((H + s1 E + ch E F G + KK + WW) % 4294967296 + (s0 A + mj A Bb Cc) % 4294967296) % 4294967296, A, Bb, Cc, (D + (H + s1 E + ch E F G + KK + WW) % 4294967296) % 4294967296, E, F, G⟩) := HNX
              have q1 := s1_lt hE
              have q2 := s0_lt hA
              have q3 := ch_lt (e := E) hF hG
              have q4 := mj_lt (a := A) hB hC
              have z1 := and_lt E hF
              have z2 := and_lt NE hG
              have z3 := and_lt A hB
              have z4 := and_lt A hC
              have z5 := and_lt Bb hC
              generalize s1 E = P at *
              generalize s0 A = Q at *
              generalize ch E F G = C at *
              generalize mj A Bb Cc = M at *
              generalize rot 6 E = R6 at *
              generalize rot 11 E = R11 at *
              generalize rot 25 E = R25 at *
              generalize rot 2 A = R2 at *
              generalize rot 13 A = R13 at *
              generalize rot 22 A = R22 at *
              generalize R6 ^^^ R11 = Z6 at *
              generalize R2 ^^^ R13 = Z2 at *
              generalize E &&& F = N1 at *
              generalize NE &&& G = N2 at *
              generalize A &&& Bb = N3 at *
              generalize A &&& Cc = N4 at *
              generalize Bb &&& Cc = N5 at *
              generalize N3 ^^^ N4 = N6 at *
              obtain ⟨Y1, hY1⟩ : ∃ Y, H + P = Y := ⟨_, rfl⟩
              obtain ⟨Y2, hY2⟩ : ∃ Y, Y1 + C = Y := ⟨_, rfl⟩
              obtain ⟨Y3, hY3⟩ : ∃ Y, Y2 + KK = Y := ⟨_, rfl⟩
              obtain ⟨Y4, hY4⟩ : ∃ Y, Y3 + WW = Y := ⟨_, rfl⟩
              obtain ⟨T, hT⟩ : ∃ Y, Y4 % 4294967296 = Y := ⟨_, rfl⟩
              obtain ⟨V1, hV1⟩ : ∃ Y, T + Q = Y := ⟨_, rfl⟩
              obtain ⟨V2, hV2⟩ : ∃ Y, V1 + M = Y := ⟨_, rfl⟩
              obtain ⟨NA, hNA⟩ : ∃ Y, V2 % 4294967296 = Y := ⟨_, rfl⟩
              obtain ⟨V3, hV3⟩ : ∃ Y, D + T = Y := ⟨_, rfl⟩
              obtain ⟨NF, hNF⟩ : ∃ Y, V3 % 4294967296 = Y := ⟨_, rfl⟩
              have HN3 : Hid (rns kF f s (k + 1) = ⟨NA, A, Bb, Cc, NF, E, F, G⟩) := by
                have e1 : H + P + C + KK + WW = Y4 := by omega
                have e2 : (T + (Q + M) % 4294967296) % 4294967296 = NA := by omega
                have := HNX2.out
                rw [e1, hT, e2, hV3, hNF] at this
                exact this
              have hT0 : T < 4294967296 := by omega
              have hNA0 : NA < 4294967296 := by omega
              have hNF0 : NF < 4294967296 := by omega
              have HOK2 : Hid (St.ok ⟨NA, A, Bb, Cc, NF, E, F, G⟩) := ⟨hNA0, hA, hB, hC, hNF0, hE, hF, hG⟩
              have n1 : (4294967295 : Int) - (E : Int) = (NE : Int) := by omega
              have HYS : Hid (((H : Int) + (P : Int) = (Y1 : Int)) ∧ ((Y1 : Int) + (C : Int) = (Y2 : Int)) ∧ ((Y2 : Int) + (KK : Int) = (Y3 : Int)) ∧ ((Y3 : Int) + (WW : Int) = (Y4 : Int)) ∧ ((Y4 : Int) % 4294967296 = (T : Int)) ∧ ((Y4 : Int).tmod 4294967296 = (T : Int)) ∧ IntKind.i64.wrap (Y1 : Int) = (Y1 : Int) ∧ IntKind.i64.wrap (Y2 : Int) = (Y2 : Int) ∧ IntKind.i64.wrap (Y3 : Int) = (Y3 : Int) ∧ IntKind.i64.wrap (Y4 : Int) = (Y4 : Int) ∧ IntKind.i64.wrap (T : Int) = (T : Int)) := ⟨by omega, by omega, by omega, by omega, by omega, by rw [Int.tmod_eq_emod_of_nonneg (by omega)]; omega, by rw [IntKind.wrap_i64]; omega, by rw [IntKind.wrap_i64]; omega, by rw [IntKind.wrap_i64]; omega, by rw [IntKind.wrap_i64]; omega, by rw [IntKind.wrap_i64]; omega⟩
              have HVS : Hid (((T : Int) + (Q : Int) = (V1 : Int)) ∧ ((V1 : Int) + (M : Int) = (V2 : Int)) ∧ ((V2 : Int) % 4294967296 = (NA : Int)) ∧ ((V2 : Int).tmod 4294967296 = (NA : Int)) ∧ ((D : Int) + (T : Int) = (V3 : Int)) ∧ ((V3 : Int) % 4294967296 = (NF : Int)) ∧ ((V3 : Int).tmod 4294967296 = (NF : Int)) ∧ IntKind.i64.wrap (V1 : Int) = (V1 : Int) ∧ IntKind.i64.wrap (V2 : Int) = (V2 : Int) ∧ IntKind.i64.wrap (V3 : Int) = (V3 : Int) ∧ IntKind.i64.wrap (NA : Int) = (NA : Int) ∧ IntKind.i64.wrap (NF : Int) = (NF : Int)) := ⟨by omega, by omega, by omega, by rw [Int.tmod_eq_emod_of_nonneg (by omega)]; omega, by omega, by omega, by rw [Int.tmod_eq_emod_of_nonneg (by omega)]; omega, by rw [IntKind.wrap_i64]; omega, by rw [IntKind.wrap_i64]; omega, by rw [IntKind.wrap_i64]; omega, by rw [IntKind.wrap_i64]; omega, by rw [IntKind.wrap_i64]; omega⟩
              have HA3 : Hid (Go.bits .and .i64 (A : Int) (Bb : Int) = (N3 : Int) ∧ Go.bits .and .i64 (A : Int) (Cc : Int) = (N4 : Int) ∧ Go.bits .and .i64 (Bb : Int) (Cc : Int) = (N5 : Int) ∧ N3 < 4294967296 ∧ N4 < 4294967296 ∧ N5 < 4294967296) := ⟨a3, a4, a5, z3, z4, z5⟩
              have HGL : Hid (g < wr.heap.size) := hgl
              have HWB : Hid (wb < wr.heap.size) := Nat.lt_of_lt_of_le HWL.out B1.out.size
              have HC : Hid (wr.cell? ⟨g, 1, none⟩ = some (.int .i64 (Bb : Int)) ∧ wr.cell? ⟨g, 2, none⟩ = some (.int .i64 (Cc : Int)) ∧ wr.cell? ⟨g, 3, none⟩ = some (.int .i64 (D : Int)) ∧ wr.cell? ⟨g, 5, none⟩ = some (.int .i64 (F : Int)) ∧ wr.cell? ⟨g, 6, none⟩ = some (.int .i64 (G : Int))) := ⟨c1, c2, c3, c5, c6⟩
              have HC7 : Hid (wr.cell? ⟨g, 7, none⟩ = some (.int .i64 (H : Int)) ∧ wr.cell? ⟨wb, wo + k, none⟩ = some (.int .i64 (WW : Int))) := ⟨c7, cw⟩
              clear HNX HNX2 hY1 hY2 hY3 hY4 hT hV1 hV2 hNA hV3 hNF hNE r6 r11 r25 r2 r13 r22 q1 q2 q3 q4 a3 a4 a5 z3 z4 z5 hA hB hC hD hE hF hG hH hW hK c1 c2 c3 c5 c6 c7 cw hgl
              go_wp2_with fail
              refine (T6.out _).mono ?_
              rintro _ _ ⟨rfl, n6, rfl⟩
              go_wp2_with fail
              refine (T11.out _).mono ?_
              rintro _ _ ⟨rfl, n11, rfl⟩
              go_wp2_with fail
              refine (X1.out _).mono ?_
              rintro _ _ ⟨rfl, rfl⟩
              go_wp2_with fail
              refine (T25.out _).mono ?_
              rintro _ _ ⟨rfl, n25, rfl⟩
              go_wp2_with fail
              refine (X2.out _).mono ?_
              rintro _ _ ⟨rfl, rfl⟩
              go_wp2_with fail
              clear T6 T11 T25 X1 X2
              obtain ⟨W1, hW1⟩ : ∃ W1, Hid (wr.drewN (n6 + n11 + n25) = W1) := ⟨_, rfl⟩
              have BW1 : Hid (Below wr.heap.size wr W1) := by rw [← hW1.out]; exact ⟨rfl, rfl, rfl, Nat.le_refl _, fun _ _ => rfl⟩
              rw [hW1.out]
              obtain ⟨c1, c2, c3, c5, c6⟩ := HC.out
              have d5 : W1.cell? ⟨g, 5, none⟩ = some (.int .i64 (F : Int)) := by rw [BW1.out.cell (p := ⟨g, 5, none⟩) HGL.out]; exact c5
              have d6 : W1.cell? ⟨g, 6, none⟩ = some (.int .i64 (G : Int)) := by rw [BW1.out.cell (p := ⟨g, 6, none⟩) HGL.out]; exact c6
              clear hW1 c0 c1 c2 c3 c4 c5 c6
              go_quiet (first | (go_at_call 32; exact Calls.quiet_of_same (X3.out _)))
              go_wp2_with fail
              clear X3 d5 d6 a1 a2 n1 z1 z2
              obtain ⟨W2, hW2⟩ : ∃ W2, Hid (W1.drewN nq = W2) := ⟨_, rfl⟩
              have BW2 : Hid (Below wr.heap.size wr W2) := by rw [← hW2.out]; exact BW1.out.trans ⟨rfl, rfl, rfl, Nat.le_refl _, fun _ _ => rfl⟩
              rw [hW2.out]
              have HE7 : Hid (∀ W', Below wr.heap.size wr W' → W'.cell? ⟨g, 7, none⟩ = some (.int .i64 (H : Int)) ∧ W'.cell? ⟨wb, wo + k, none⟩ = some (.int .i64 (WW : Int))) := fun W' h => by
                rw [h.cell (p := ⟨g, 7, none⟩) HGL.out, h.cell (p := ⟨wb, wo + k, none⟩) HWB.out]; exact HC7.out
              obtain ⟨d7, dw⟩ := HE7.out _ BW2.out
              obtain ⟨y1, y2, y3, y4, y5, y6, w1, w2, w3, w4, w5⟩ := HYS.out
              have hi0 : (k : Int) < 64 := by omega
              clear hW2 BW1 HC7 HYS
              go_region_held3 (fun w' => w'.cell? ⟨g, 7, none⟩ = some (.int .i64 (H : Int)) ∧ w'.cell? ⟨wb, wo + k, none⟩ = some (.int .i64 (WW : Int))) (go_keep)
                (first
                  | (go_at_call 34; refine (HWD.out _).mono ?_; rintro e W3 ⟨rfl, hb3⟩; have BW3 : Hid (Below wr.heap.size wr W3) := (Below.trans (by first | exact BW2.out | exact BW2.out.drew) (hb3.mono (by first | exact BW2.out.size | exact BW2.out.drew.size))); clear hb3; obtain ⟨e7, ew⟩ := HE7.out _ BW3.out))
              clear e7 ew d7 dw y1 y2 y3 y4 y5 y6 w1 w2 w3 w4 w5 HE7 BW2
              go_wp2_with fail
              refine (T2.out _).mono ?_
              rintro _ _ ⟨rfl, n2, rfl⟩
              go_wp2_with fail
              refine (T13.out _).mono ?_
              rintro _ _ ⟨rfl, n13, rfl⟩
              go_wp2_with fail
              refine (X4.out _).mono ?_
              rintro _ _ ⟨rfl, rfl⟩
              go_wp2_with fail
              refine (T22.out _).mono ?_
              rintro _ _ ⟨rfl, n22, rfl⟩
              go_wp2_with fail
              refine (X5.out _).mono ?_
              rintro _ _ ⟨rfl, rfl⟩
              go_wp2_with fail
              clear T2 T13 T22 X4 X5
              obtain ⟨W4, hW4⟩ : ∃ W4, Hid (W3.drewN (n2 + n13 + n22) = W4) := ⟨_, rfl⟩
              have BW4 : Hid (Below wr.heap.size wr W4) := by rw [← hW4.out]; exact BW3.out.trans ⟨rfl, rfl, rfl, Nat.le_refl _, fun _ _ => rfl⟩
              rw [hW4.out]
              have HCS : Hid (∀ W', Below wr.heap.size wr W' → W'.cell? ⟨g, 1, none⟩ = some (.int .i64 (Bb : Int)) ∧ W'.cell? ⟨g, 2, none⟩ = some (.int .i64 (Cc : Int)) ∧ W'.cell? ⟨g, 3, none⟩ = some (.int .i64 (D : Int)) ∧ W'.cell? ⟨g, 5, none⟩ = some (.int .i64 (F : Int)) ∧ W'.cell? ⟨g, 6, none⟩ = some (.int .i64 (G : Int))) := fun W' h => by
                rw [h.cell (p := ⟨g, 1, none⟩) HGL.out, h.cell (p := ⟨g, 2, none⟩) HGL.out, h.cell (p := ⟨g, 3, none⟩) HGL.out, h.cell (p := ⟨g, 5, none⟩) HGL.out, h.cell (p := ⟨g, 6, none⟩) HGL.out]; exact HC.out
              obtain ⟨d1, d2, _, _, _⟩ := HCS.out _ BW4.out
              obtain ⟨a3, a4, a5, z3, z4, z5⟩ := HA3.out
              clear hW4 BW3 HC HA3
              go_quiet (first | (go_at_call 32; exact Calls.quiet_of_same (X6.out _)) | (go_at_call 32; exact Calls.quiet_of_same (X7.out _)))
              go_wp2_with fail
              clear X6 X7 d1 d2 a3 a4 a5 z3 z4 z5
              obtain ⟨W5, hW5⟩ : ∃ W5, Hid (W4.drewN nq = W5) := ⟨_, rfl⟩
              have BW5 : Hid (Below wr.heap.size wr W5) := by rw [← hW5.out]; exact BW4.out.trans ⟨rfl, rfl, rfl, Nat.le_refl _, fun _ _ => rfl⟩
              rw [hW5.out]
              obtain ⟨d1, d2, d3, d5, d6⟩ := HCS.out _ BW5.out
              obtain ⟨v1, v2, v3, v4, v5, v6, v7, w1, w2, w3, w4, w5⟩ := HVS.out
              clear hW5 BW4 HVS HCS
              refine wp_region_still_tail 26 (by kernel_rfl) (by kernel_rfl) ?_
              simp only [List.take_succ_cons, List.take_zero, List.drop_succ_cons, List.drop_zero]
              repeat still_step
              refine wpStill_nil ?_
              go_wp2_with fail
              have B6 : Hid (Below wx.heap.size wx W5) := B1.out.trans (BW5.out.mono B1.out.size)
              exact ⟨⟨k + 1, _, _, by omega, by go_num, rfl, HN3, HOK2, x8_new W5 ⟨NA, A, Bb, Cc, NF, E, F, G⟩, (B6.out.alloc B6.out.size _).drew⟩, by simp [intOf]; omega⟩
            · have hk0 : k = 64 := by omega -- three
              rw [hk0] at HRN
              have hkn : ¬ (k : Int) < 64 := by omega
              obtain ⟨g, cp, hv, hcp1, hcp2, hgl, hcell⟩ := XX.out
              subst hv
              have HXC : Hid (∀ i, i < 8 → wr.cell? ⟨g, i, none⟩ = some (.int .i64 (s1_.at_ i : Int))) := hcell
              have hcp3 : cp ≤ 9223372036854775807 := by unfold maxLen at hcp2; omega
              obtain ⟨sa, sc, hsv, hsc, hsm, _, hscell⟩ := id SX.out
              rw [show (stL s).length = 8 from rfl] at hsv hsc hscell
              obtain ⟨sb, so, hsa, hscl⟩ : ∃ b o, sa = some ⟨b, o, none⟩ ∧ ∀ i, i < 8 → wx.cell? ⟨b, o + i, none⟩ = some (.int .i64 (s.at_ i : Int)) := by
                rcases hscell with h | ⟨b, o, e, h⟩
                · simp [stL] at h
                · exact ⟨b, o, e, fun i hi => by rw [h i hi, stL_get s i hi]⟩
              subst hsa
              subst hsv
              have hsc3 : sc ≤ 9223372036854775807 := by unfold maxLen at hsm; omega
              have HSL : Hid (sb < wr.heap.size) := Nat.lt_of_lt_of_le (World.block_lt_of_cell? wx ⟨sb, so + 0, none⟩ (hscl 0 (by decide))) B1.out.size
              have HSC : Hid (∀ i, i < 8 → wr.cell? ⟨sb, so + i, none⟩ = some (.int .i64 (s.at_ i : Int))) := fun i hi => by
                rw [B1.out.cell (p := ⟨sb, so + i, none⟩) (World.block_lt_of_cell? wx ⟨sb, so + 0, none⟩ (hscl 0 (by decide)))]; exact hscl i hi
              have HGL : Hid (g < wr.heap.size) := hgl
              have BR : Hid (Below w.heap.size w wr) := BX.out.trans (B1.out.mono BX.out.size)
              obtain ⟨wy, hwy⟩ : ∃ wy : World, wy = wr := ⟨_, rfl⟩
              have HM : Hid (mixS kF f s = s.add s1_) := by show _ = _; unfold mixS; rw [HRN.out]
              clear hscell hscl hsm hcell hcp2 hgl hlt hk hk0 SX XX B1 BX HRN
              go_wp2_with fail
              rw [← hwy] at HXC HSC HSL HGL BR
              go_loopw [21, 22] (fun v i wr => ∃ (k : Nat) (v1 : Value), k ≤ 8 ∧ i = .int .i64 k ∧ v1 = v ∧ Hid (Owns .i64 3 wr v1 (wl (s.add s1_).at_ k)) ∧ Hid (Below wy.heap.size wy wr) ∧ Hid (∀ j, v1.ownBlock = some j → wy.heap.size ≤ j)) (fun _ i _ => 8 - (intOf i).toNat)
              case atStart => exact ⟨0, _, Nat.zero_le _, rfl, rfl, owns_nil _ _ _, by rw [hwy]; exact Below.refl _ _, fun j e => by cases e⟩
              case round =>
                clear hwy hkn
                obtain ⟨k, v1, hk, rfl, rfl, O1, B1, N1⟩ := hrel
                by_cases hlt : k < 8
                · have c1 : wr.cell? ⟨sb, so + k, none⟩ = some (.int .i64 (s.at_ k : Int)) := by rw [B1.out.cell (p := ⟨sb, so + k, none⟩) HSL.out]; exact HSC.out k hlt
                  have c2 : wr.cell? ⟨g, k, none⟩ = some (.int .i64 (s1_.at_ k : Int)) := by rw [B1.out.cell (p := ⟨g, k, none⟩) HGL.out]; exact HXC.out k hlt
                  have h1 := HO.out.at_ k
                  have h2 := HOK.out.at_ k
                  have h3 := add_at s s1_ k hlt
                  have HSN : Hid (wl (s.add s1_).at_ (k + 1) = wl (s.add s1_).at_ k ++ [((s.add s1_).at_ k : Int)]) := wl_snoc _ _
                  have HK1 : Hid ((wl (s.add s1_).at_ k).length + 1 ≤ maxLen) := by show _ ≤ _; rw [wl_len]; unfold maxLen; omega
                  have HK2 : Hid (((wl (s.add s1_).at_ k).length + 1) * 8 ≤ 140737488355328) := by show _ ≤ _; rw [wl_len]; omega
                  obtain ⟨FF, hFF⟩ : ∃ F, wl (s.add s1_).at_ k = F := ⟨_, rfl⟩
                  obtain ⟨P, hP⟩ : ∃ P, s.at_ k = P := ⟨_, rfl⟩
                  obtain ⟨Q, hQ⟩ : ∃ P, s1_.at_ k = P := ⟨_, rfl⟩
                  obtain ⟨V, hV⟩ : ∃ P, (s.add s1_).at_ k = P := ⟨_, rfl⟩
                  rw [hFF] at O1 HSN HK1 HK2
                  rw [hV] at HSN
                  rw [hP, hQ, hV] at h3
                  rw [hP] at h1 c1
                  rw [hQ] at h2 c2
                  obtain ⟨Y, hY⟩ : ∃ Y, P + Q = Y := ⟨_, rfl⟩
                  have y1 : (P : Int) + (Q : Int) = (Y : Int) := by omega
                  have y2 : (Y : Int) % 4294967296 = (V : Int) := by omega
                  have y3 : (Y : Int).tmod 4294967296 = (V : Int) := by rw [Int.tmod_eq_emod_of_nonneg (by omega)]; exact y2
                  have w1 : IntKind.i64.wrap (Y : Int) = (Y : Int) := by rw [IntKind.wrap_i64]; omega
                  have w2 : IntKind.i64.wrap (V : Int) = (V : Int) := by rw [IntKind.wrap_i64]; omega
                  have i1 : (k : Int) < 8 := by omega
                  have i2 : (k : Int) < (cp : Int) := by omega
                  have HAB : Hid (v1.ownBlock = some sb → False) := fun e => by have := N1.out _ e; have := HSL.out; omega
                  have HAG : Hid (v1.ownBlock = some g → False) := fun e => by have := N1.out _ e; have := HGL.out; omega
                  clear h1 h2 h3 hY hP hQ hV hFF
                  go_wp2_with fail
                  go_region_held3 (fun w' => w'.cell? ⟨sb, so + k, none⟩ = some (.int .i64 (P : Int)) ∧ w'.cell? ⟨g, k, none⟩ = some (.int .i64 (Q : Int))) (go_keep)
                    (first
                      | (refine step_push rfl (.tmp 219) (.tmp 230) 27 rfl 3 .i64 8 elem64 v1 FF ?h1 ?h2 (V : Int) wr.heap.size ?h3 ?h4 HK1.out HK2.out ?_; (case h1 => kernel_rfl); (case h2 => first | exact O1.out.below (((Below.refl _ _).alloc (Nat.le_refl _) _).drew) | exact O1.out.below ((Below.refl _ _).drew.alloc (Nat.le_refl _) _)); (case h3 => kernel_rfl); (case h4 => simp); intro v5 w5 ho5 hg5 hp5; have k0 := hp5 sb (so + k) (.int .i64 (P : Int)) (by go_keep) (fun e => (HAB.out e).elim); have k1 := hp5 g k (.int .i64 (Q : Int)) (by go_keep) (fun e => (HAG.out e).elim)))
                  rw [← HSN.out] at ho5
                  have O5 : Hid (Owns .i64 3 w5 v5 (wl (s.add s1_).at_ (k + 1))) := ho5
                  have N5 : Hid (∀ j, v5.ownBlock = some j → wy.heap.size ≤ j) := fun j hj => by
                    rcases hg5.fresh j hj with e | e
                    · exact N1.out j e
                    · have := B1.out.size
                      simp at e
                      omega
                  have B5 : Hid (Below wy.heap.size wy w5) := by
                    have h1 : Below wy.heap.size wy (wr.alloc (.cells #[.int .i64 (V : Int)] 3)).drew := (B1.out.alloc B1.out.size _).drew
                    have h2 := hg5.tch.below (B := wy.heap.size) (by have := B1.out.size; simp; omega) (fun j e => N1.out j e)
                    exact h1.trans h2
                  clear ho5 hg5 hp5 k0 k1 O1 B1 N1 HAB HAG c1 c2
                  go_wp2_with fail
                  go_roundw
                  case rel => exact ⟨k + 1, v5, by omega, by go_num, rfl, O5, B5, N5⟩
                  case measure => simp [intOf]; omega
                · have hk8 : k = 8 := by omega
                  rw [hk8] at O1
                  have O2 : Hid (Owns .i64 3 wr v1 (stL (s.add s1_))) := O1
                  have hkn : ¬ (k : Int) < 8 := by omega
                  go_wp2_with fail
                  go_ret
                  exact ⟨⟨_, rfl, by rw [HM.out]; exact O2.out, fun j hj => Nat.le_trans BR.out.size (N1.out j hj)⟩, BR.out.trans (B1.out.mono BR.out.size)⟩
end Go.Proofs.Ytfdnlkhipjjnbaa
