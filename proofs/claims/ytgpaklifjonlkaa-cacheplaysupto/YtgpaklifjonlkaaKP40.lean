import Derived.Test.YtgpaklifjonlkaaKP39
/-
  A deed, of both: Put; what was handed in is written over.
-/
namespace Go.Proofs.Ytgpaklifjonlkaa
open Go.RowKit Go.Maps
set_option linter.unusedVariables false
set_option linter.unusedSimpArgs false
set_option maxRecDepth 100000

set_option maxHeartbeats 2000000 in
theorem does_put {w0 : World} {c d q r : Nat} {s : CS} {D : DS} {K : Nat} (kind xn bk : Int) (bv pv : Value) (body ps : List Int) (w : World) (H : Dz w0 w0 w (fun _ => False) c d q r s D s D) (hF : Few D K) (hK : K ≤ 1048576) (hx : KqOk w0 ⟨kind, xn, bk, bv, body, pv, ps⟩) (hl : body.length ≤ 1048576) (hp : pk kind 7 = 1) :
    Calls Try.prog 11 #[dp d, cp c, dp r, cp q, .agg #[.int .i64 kind, .int .i64 xn, .int .i64 bk, bv, pv]] w fun e w' => e = .returned (.bool true) ∧ DoesR w0 c d q r K w' := by
  have HF : Hid (Few D K) := hF
  have HRD : Hid (Rd .u8 w0 bv body) := hx.rd
  have HBD : Hid (By body) := hx.by_
  have HRP : Hid (Rd .i64 w0 pv ps) := hx.rp
  have HWN : Hid ((Lit.int .i64 xn).wf = true) := hx.wn
  have HBL : Hid (body.length ≤ 1048576) := hl
  have HVN : Hid (∀ i, (D.V i).length + 4096 < 274877906943) := fun i => by have := hF i; omega
  obtain ⟨ba, bl, bc, rfl⟩ : ∃ a m cap, bv = .slice a m cap := by obtain ⟨a, c, e, _⟩ := hx.rd; exact ⟨_, _, _, e⟩
  obtain ⟨pa, pl, pc, rfl⟩ : ∃ a m cap, pv = .slice a m cap := by obtain ⟨a, c, e, _⟩ := hx.rp; exact ⟨_, _, _, e⟩
  have HP0 : Hid (Dz w0 w0 w (fun _ => False) c d q r s D s D) := H
  obtain ⟨W1, hW1⟩ : ∃ W1, w.alloc (.cells #[.int .i64 kind, .int .i64 xn, .int .i64 bk, .slice ba bl bc, .slice pa pl pc] 43) = W1 := ⟨_, rfl⟩
  have BX : Hid (Box W1 w.heap.size #[.int .i64 kind, .int .i64 xn, .int .i64 bk, .slice ba bl bc, .slice pa pl pc] 43) := by rw [← hW1]; exact box_new w _ _
  have B1 : Hid (Below w.heap.size w W1) := by rw [← hW1]; exact (Below.refl _ _).alloc (Nat.le_refl _) _
  have P1 : Hid (Dz w0 W1 W1 (fun k => k = w.heap.size) c d q r s D s D) := H.enter B1.out _ (fun k e => .inr ⟨by omega, by rw [e, ← hW1]; simp⟩)
  have HPK := hideP (pickK_any kind 7 (by decide) (by decide) hx.wk W1)
  rw [hp] at HPK
  obtain ⟨q0, q1, q2, q3, q4⟩ := deed_cells BX.out
  clear hF hx hl hp H
  go_enter Try.func11, Try.ntmps11
  go_wp2_with fail
  refine HPK.out.mono ?_
  rintro e W1 ⟨rfl, rfl⟩
  clear HPK hW1
  have R1 : Hid (Rd .u8 W1 (.slice ba bl bc) body) := HRD.out.below P1.out.below0
  go_wp2_with (at_builtin; refine wpList_many _ rfl (.tmp 61) (.tmp 64) 38 rfl 5 .u8 1 elem8 (.slice none 0 0) [] rfl (owns_nil _ _ _) _ body rfl R1.out (by have := HBL.out; simp; omega) (by have := HBL.out; simp; omega) ?_)
  intro u w2 o2 g2
  obtain ⟨be2, nu2⟩ := g2.below
  obtain ⟨m, hm⟩ : ∃ m, body.length = m := ⟨_, rfl⟩
  have HM : Hid (body.length = m) := hm
  have hn2 : Nw W1.heap.size w2 u body := Nw.of_owns o2 nu2
  obtain ⟨Z, hZ⟩ : ∃ Z : Nat → Prop, Z = fun k => k = w.heap.size ∨ (u.ownBlock = some k ∧ body ≠ []) := ⟨_, rfl⟩
  have HZ : Hid (Z = fun k => k = w.heap.size ∨ (u.ownBlock = some k ∧ body ≠ [])) := hZ
  have P2 : Hid (Dz w0 w2 w2 Z c d q r s D s D) := by
    refine P1.out.enter be2 _ (fun k e => ?_)
    rw [hZ] at e
    rcases e with e | e
    · exact .inl e
    · exact .inr ⟨nu2 k e.1, hn2.rd.blk_lt e.2 e.1⟩
  have BX2 : Hid (Box w2 w.heap.size #[.int .i64 kind, .int .i64 xn, .int .i64 bk, .slice ba bl bc, .slice pa pl pc] 43) := by
    show _ = _
    rw [be2.block _ (Array.getElem?_eq_some_iff.1 BX.out).1]
    exact BX.out
  have HNZ : Hid (∀ j, u.ownBlock = some j → W1.heap.size ≤ j ∧ (m ≠ 0 → Z j)) := fun j hj => ⟨nu2 j hj, fun h0 => by rw [hZ]; exact .inr ⟨hj, fun e => h0 (by rw [← hm, e]; rfl)⟩⟩
  have HW01 : Hid (w0.heap.size ≤ W1.heap.size) := P1.out.below0.size
  have HWL : Hid (w.heap.size < W1.heap.size) := (Array.getElem?_eq_some_iff.1 BX.out).1
  obtain ⟨ua, uc, rfl⟩ : ∃ a cap, u = .slice a m cap := by obtain ⟨a, c, e, _⟩ := hn2.rd; rw [hm] at e; exact ⟨_, _, e⟩
  obtain ⟨pe, hpe⟩ : ∃ pe, s.putE 60 xn bk body = pe := ⟨_, rfl⟩
  obtain ⟨s2, hs2⟩ : ∃ s2, s.putS 60 xn bk body = s2 := ⟨_, rfl⟩
  have HPE : Hid (s.putE 60 xn bk body = pe ∧ s.putS 60 xn bk body = s2) := ⟨hpe, hs2⟩
  have HA := hideP (putDz P2.out xn bk (.slice ua m uc) body hn2.rd HBD.out (fun j hj h0 => .inr (by rw [hZ]; exact .inr ⟨hj, h0⟩)))
  rw [hpe, hs2] at HA
  have W2t : Hid (Wt w2 (.slice ua m uc) m) := by have h1 := hn2.wt; rw [hm] at h1; exact h1
  obtain ⟨_, _, eu, hmc, hc9⟩ := W2t.out.len
  simp only [Value.slice.injEq, true_and] at eu
  obtain ⟨rfl, rfl⟩ := eu
  unfold blk at HA
  clear q0 q1 q2 q3 q4 o2 g2 be2 nu2 hn2 hZ hm hpe hs2
  obtain ⟨q0, q1, q2, q3, q4⟩ := deed_cells BX2.out
  go_wp2_with fail
  refine HA.out.mono ?_
  rintro e w3 ⟨rfl, p3⟩
  have P3 : Hid (Dz w0 w3 w3 Z c d q r s2 D s D) := p3.enter (Below.refl _ _) _ (fun k e => .inl e)
  have BX3 : Hid (Box w3 w.heap.size #[.int .i64 kind, .int .i64 xn, .int .i64 bk, .slice ba bl bc, .slice pa pl pc] 43) := p3.box (by rw [HZ.out]; exact .inl rfl) BX2.out
  have W3t : Hid (Wt w3 (.slice ua m uc) m) := W2t.out.tch p3.tz (fun k hk h0 e => e ((HNZ.out k hk).2 h0))
  clear q0 q1 q2 q3 q4 p3 HA W2t BX2 P2
  go_wp2_with fail
  go_loopw [19] (fun iv wr => ∃ (k : Nat), k ≤ m ∧ iv = .int .i64 k ∧ Hid (Dz w0 wr wr Z c d q r s2 D s D) ∧ Hid (Box wr w.heap.size #[.int .i64 kind, .int .i64 xn, .int .i64 bk, .slice ba bl bc, .slice pa pl pc] 43) ∧ Hid (Wt wr (.slice ua m uc) m)) (fun iv _ => m - (intOf iv).toNat)
  case atStart => exact ⟨0, Nat.zero_le _, rfl, P3, BX3, W3t⟩
  case round =>
    obtain ⟨k, hk, rfl, PK, BK, WK⟩ := hrel
    clear P3 BX3 W3t
    by_cases hkm : k < m
    · have hki : (k : Int) < (m : Int) := by omega
      obtain ⟨ub, uo, uc', x, eu, _, _, hcx, hfx, hset⟩ := WK.out.at_ hkm
      simp only [Value.slice.injEq, true_and] at eu
      obtain ⟨rfl, rfl⟩ := eu
      obtain ⟨WN, hWN⟩ : ∃ WN, wr.setCell ⟨ub, uo + k, none⟩ (.int .u8 98) = WN := ⟨_, rfl⟩
      have hz := HNZ.out ub rfl
      have TN : Tch (fun j => j = ub) wr WN := by rw [← hWN]; exact tch_set wr ub (uo + k) _
      have PN : Hid (Dz w0 WN WN Z c d q r s2 D s D) := PK.out.side TN (fun j e => by rw [e]; exact hz.2 (by omega)) (fun j e => by have := HW01.out; have := hz.1; omega) _ (fun j e => .inl e)
      have WK2 : Hid (Wt WN (.slice (some ⟨ub, uo, none⟩) m uc) m) := by rw [← hWN]; exact hset 98
      have BN : Hid (Box WN w.heap.size #[.int .i64 kind, .int .i64 xn, .int .i64 bk, .slice ba bl bc, .slice pa pl pc] 43) := by
        show _ = _
        rw [TN.block _ (Array.getElem?_eq_some_iff.1 BK.out).1 (fun e => by have h1 := hz.1; have h2 := HWL.out; omega)]
        exact BK.out
      clear hset TN hz PK BK WK
      go_wp2_with fail
      go_roundw
      case rel => exact ⟨k + 1, by omega, by first | rfl | go_num, PN, BN, WK2⟩
      case measure => simp [intOf]; omega
    · have hki : ¬ (k : Int) < (m : Int) := by omega
      have hkd : decide (k < m) = false := by rw [decide_eq_false_iff_not]; omega
      obtain ⟨q0, q1, q2, q3, q4⟩ := deed_cells BK.out
      have HB := hideP (rputDz PK.out HP0.out.ok xn bk (.slice ba bl bc) body (HRD.out.below PK.out.below0) HBD.out (fun j hj h0 => .inl (HRD.out.blk_lt h0 hj)))
      rw [HPE.out.1, HPE.out.2] at HB
      unfold blk at HB
      go_wp2_with fail
      refine HB.out.mono ?_
      rintro e w4 ⟨rfl, p4⟩
      have P4 := hideP p4
      clear p4 HB q0 q1 q2 q3 q4 PK BK WK
      go_wp2_with fail
      go_ret
      exact ⟨rfl, _, _, P4.out.leave, HF.out.more⟩

set_option maxHeartbeats 2000000 in
theorem does_any {w0 : World} {c d q r : Nat} {s : CS} {D : DS} {K : Nat} (kind xn bk : Int) (bv pv : Value) (body ps : List Int) (w : World) (H : Dz w0 w0 w (fun _ => False) c d q r s D s D) (hF : Few D K) (hK : K ≤ 1048576) (hx : KqOk w0 ⟨kind, xn, bk, bv, body, pv, ps⟩) (hl : body.length ≤ 1048576) :
    Calls Try.prog 11 #[dp d, cp c, dp r, cp q, .agg #[.int .i64 kind, .int .i64 xn, .int .i64 bk, bv, pv]] w fun e w' => e = .returned (.bool true) ∧ DoesR w0 c d q r K w' := by
  have h7 : pk kind 7 < 7 := pk_lt kind (by decide)
  have hcase : pk kind 7 = 0 ∨ pk kind 7 = 1 ∨ pk kind 7 = 2 ∨ pk kind 7 = 3 ∨ pk kind 7 = 4 ∨ pk kind 7 = 5 ∨ pk kind 7 = 6 := by omega
  rcases hcase with h | h | h | h | h | h | h
  · exact does_get kind xn bk bv pv body ps w H hF hK hx hl h
  · exact does_put kind xn bk bv pv body ps w H hF hK hx hl h
  · exact does_forget kind xn bk bv pv body ps w H hF hK hx hl h
  · exact does_flush kind xn bk bv pv body ps w H hF hK hx hl h
  · exact does_power kind xn bk bv pv body ps w H hF hK hx hl h
  · exact does_rot kind xn bk bv pv body ps w H hF hK hx hl h
  · exact does_sync kind xn bk bv pv body ps w H hF hK hx hl h
end Go.Proofs.Ytgpaklifjonlkaa
