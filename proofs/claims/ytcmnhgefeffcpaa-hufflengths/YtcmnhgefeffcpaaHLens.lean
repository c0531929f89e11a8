/-
  What Lengths answers, for any counts.
-/
import Derived.Test.YtcmnhgefeffcpaaHLen
namespace Go.Proofs.Ytcmnhgefeffcpaa
open Go.RowKit Pl Hf
set_option linter.unusedVariables false
set_option maxRecDepth 100000

/-- Counts that may be. -/
structure OkC (cs : List Int) : Prop where
  most : cs.length ≤ 256
  each : ∀ i, i < cs.length → 0 ≤ cs.getD i 0 ∧ cs.getD i 0 ≤ 4294967295
  some : 0 < (st cs cs.length).length

/-- The depths of one weight, or of several. -/
def ShS (ws ds : List Int) : Prop := (ws.length = 1 ∧ ds = [1]) ∨ (2 ≤ ws.length ∧ Sh ws ds)

theorem wt_getD (cs : List Int) (k i : Nat) (hi : i < (st cs k).length) : (wt cs k).getD i 0 = cs.getD ((st cs k).getD i 0) 0 := by
  simp [wt, List.getD_eq_getElem?_getD, hi]
theorem stI_getD (cs : List Int) (k i : Nat) (hi : i < (st cs k).length) : (stI cs k).getD i 0 = ((st cs k).getD i 0 : Int) := by
  simp [stI, List.getD_eq_getElem?_getD, hi]

theorem wt_pos (cs : List Int) (k i : Nat) (hi : i < (wt cs k).length) : 0 < (wt cs k).getD i 0 := by
  rw [wt_length] at hi
  rw [wt_getD cs k i hi]
  exact (rk_st cs hi).2.2

theorem OkC.wsum {cs : List Int} (h : OkC cs) : wsum (wt cs cs.length) ≤ 256 * 4294967295 := by
  have hl := st_le cs cs.length
  have hm := h.most
  have h1 : sumOn (List.range (wt cs cs.length).length) (cw (wt cs cs.length)) ≤ (List.range (wt cs cs.length).length).length * 4294967295 := sumOn_le (fun b hb => by
    have hb' : b < (st cs cs.length).length := by rw [← wt_length]; simpa using hb
    simp only [cw]
    rw [wt_getD cs _ b hb']
    have := h.each _ (rk_st cs hb').2.1
    omega)
  rw [List.length_range, wt_length] at h1
  have h2 : (st cs cs.length).length * 4294967295 ≤ 256 * 4294967295 := Nat.mul_le_mul_right _ (by omega)
  have h3 : Go.Proofs.Ytcmnhgefeffcpaa.wsum (wt cs cs.length) = sumOn (List.range (st cs cs.length).length) (cw (wt cs cs.length)) := by unfold Go.Proofs.Ytcmnhgefeffcpaa.wsum sumOn; rw [wt_length]
  omega

theorem ShS.len {ws ds : List Int} (h : ShS ws ds) (hp : ∀ i, i < ws.length → 0 < ws.getD i 0) (hm : ws.length ≤ 256) : ds.length = ws.length := by
  rcases h with ⟨h1, rfl⟩ | ⟨h1, h2⟩
  · simp [h1]
  · obtain ⟨vs, _, h3, _, rfl⟩ := h2.facts ⟨h1, hm, hp⟩
    rw [deps_length, h3]

theorem shallow_all (g cap : Nat) (ws : List Int) (w : World) (ho : Owns .i64 3 w (.slice (some ⟨g, 0, none⟩) ws.length cap) ws) (h1 : 1 ≤ ws.length) (hm : ws.length ≤ 256) (hp : ∀ i, i < ws.length → 0 < ws.getD i 0) (hS2 : wsum ws ≤ 1000000000000000) :
    Calls Try.prog 16 #[.slice (some ⟨g, 0, none⟩) ws.length cap] w fun e w' => ∃ dv ds, e = .returned dv ∧ Rd .i64 w' dv ds ∧ ShS ws ds ∧ Tch (fun k => k = g) w w' ∧ ∀ k, dv.ownBlock = some k → w.heap.size ≤ k := by
  by_cases e : ws.length = 1
  · rw [e]
    refine (shallow_one g cap w).mono ?_
    rintro e1 w' ⟨dv, rfl, h2, h3, h4⟩
    exact ⟨dv, [1], rfl, h2, .inl ⟨e, rfl⟩, Tch.of_below h3, h4⟩
  · refine (shallow_any g cap ws w ho ⟨by omega, hm, hp⟩ hS2).mono ?_
    rintro e1 w' ⟨dv, ds, rfl, h2, h3, h4, h5⟩
    exact ⟨dv, ds, rfl, h2, .inr ⟨by omega, h3⟩, h4, h5⟩

/-- What Lengths answers. -/
def LPost (cs : List Int) (w : World) (e : Ending) (w' : World) : Prop :=
  ∃ lv E, e = .returned (.tuple #[lv, .int .i64 E]) ∧ Below w.heap.size w w' ∧ (∀ k, lv.ownBlock = some k → w.heap.size ≤ k) ∧
    ((E = 1 ∧ lv = .slice none 0 0 ∧ ¬ OkC cs) ∨ (E = 0 ∧ OkC cs ∧ ∃ ds, Owns .i64 3 w' lv (lens cs ds) ∧ ShS (wt cs cs.length) ds))

theorem LPost.bad {cs : List Int} {w w' : World} (hb : Below w.heap.size w w') (h : ¬ OkC cs) : LPost cs w (.returned (.tuple #[.slice none 0 0, .int .i64 1])) w' :=
  ⟨_, 1, rfl, hb, (fun k e => by cases e), .inl ⟨rfl, rfl, h⟩⟩

/-- Two rows of numbers, each of its own. -/
structure Two (w0 w : World) (sv wv : Value) (ss ws : List Int) : Prop where
  so : Owns .i64 3 w sv ss
  wo : Owns .i64 3 w wv ws
  ne : ∀ k, sv.ownBlock = some k → wv.ownBlock ≠ some k
  sn : ∀ k, sv.ownBlock = some k → w0.heap.size ≤ k
  wn : ∀ k, wv.ownBlock = some k → w0.heap.size ≤ k
  bel : Below w0.heap.size w0 w

theorem Two.left {w0 w w' : World} {sv wv sv' : Value} {ss ws ss' : List Int} (h : Two w0 w sv wv ss ws) (ho : Owns .i64 3 w' sv' ss') (hg : Grew w w' sv sv') : Two w0 w' sv' wv ss' ws := by
  have hb := hg.onto h.bel h.sn
  refine ⟨ho, h.wo.tch hg.tch (fun j hj e => h.ne j e hj), fun k hk e => ?_, hb.2, h.wn, hb.1⟩
  rcases hg.fresh k hk with e2 | e2
  · exact h.ne k e2 e
  · have := h.wo.lt k e; omega
theorem Two.right {w0 w w' : World} {sv wv wv' : Value} {ss ws ws' : List Int} (h : Two w0 w sv wv ss ws) (ho : Owns .i64 3 w' wv' ws') (hg : Grew w w' wv wv') : Two w0 w' sv wv' ss ws' := by
  have hb := hg.onto h.bel h.wn
  refine ⟨h.so.tch hg.tch (fun j hj e => h.ne j hj e), ho, fun k hk e => ?_, h.sn, hb.2, hb.1⟩
  rcases hg.fresh k e with e2 | e2
  · exact h.ne k hk e2
  · have := h.so.lt k hk; omega

theorem lengths_long (a : Option Addr) (n cap : Nat) (cs : List Int) (w : World) (hn : cs.length = n) (h : 256 < n) :
    Calls Try.prog 5 #[.slice a n cap] w fun e w' => LPost cs w e w' := by
  have h' : (256 : Int) < (n : Int) := by omega
  have HB : Hid (¬ OkC cs) := fun e => by have := e.most; omega
  go_enter Try.func5, Try.ntmps5
  go_wp2
  go_ret2
  exact LPost.bad (Below.refl _ _) HB.out

theorem st_st (cs : List Int) (k : Nat) (x : Int) (hx : cs.getD k 0 = x) (h : 0 < x) : stI cs (k + 1) = stI cs k ++ [(k : Int)] ∧ wt cs (k + 1) = wt cs k ++ [x] := by
  subst hx
  unfold stI wt
  rw [st_succ, if_pos h]
  simp
theorem st_st0 (cs : List Int) (k : Nat) (x : Int) (hx : cs.getD k 0 = x) (h : ¬ 0 < x) : stI cs (k + 1) = stI cs k ∧ wt cs (k + 1) = wt cs k := by
  subst hx
  unfold stI wt
  rw [st_succ, if_neg h]
  exact ⟨rfl, rfl⟩

set_option maxHeartbeats 4000000 in
theorem lengths_any (v : Value) (cs : List Int) (w : World) (hr : Rd .i64 w v cs) : Calls Try.prog 5 #[v] w fun e w' => LPost cs w e w' := by
  obtain ⟨a, cap, rfl, hlc, hcm, _, hcc⟩ := hr
  by_cases h256 : 256 < cs.length
  · exact lengths_long a _ cap cs w rfl h256
  have HC : Hid (cs = [] ∨ ∃ b o, a = some ⟨b, o, none⟩ ∧ ∀ i, i < cs.length → w.cell? ⟨b, o + i, none⟩ = some (.int .i64 (cs.getD i 0))) := hcc
  clear hcc
  obtain ⟨j0, hj, hy0, hy1, hy2⟩ := elem64.info
  go_enter Try.func5, Try.ntmps5
  go_wp2_with fail
  go_loopw [4, 5, 16] (fun s q i wr => ∃ k : Nat, k ≤ cs.length ∧ i = .int .i64 k ∧ Hid (Two w wr s q (stI cs k) (wt cs k)) ∧ Hid (∀ j, j < k → 0 ≤ cs.getD j 0 ∧ cs.getD j 0 ≤ 4294967295)) (fun _ _ i _ => cs.length - (intOf i).toNat)
  case atStart => exact ⟨0, Nat.zero_le _, rfl, ⟨owns_nil _ _ _, owns_nil _ _ _, (fun k e => by cases e), (fun k e => by cases e), (fun k e => by cases e), Below.refl _ _⟩, fun j hj => by omega⟩
  case round =>
    obtain ⟨k, hk, rfl, T, HE⟩ := hrel
    by_cases hlt : k < cs.length
    · obtain ⟨b, o, ha, hc⟩ : ∃ b o, a = some ⟨b, o, none⟩ ∧ ∀ i, i < cs.length → w.cell? ⟨b, o + i, none⟩ = some (.int .i64 (cs.getD i 0)) := by
        rcases HC.out with rfl | h
        · simp at hlt
        · exact h
      subst ha
      obtain ⟨x, hxe⟩ : ∃ x, Hid (cs.getD k 0 = x) := ⟨_, rfl⟩
      have cx : wr.cell? ⟨b, o + k, none⟩ = some (.int .i64 x) := by
        have h0 := hc k hlt
        rw [T.out.bel.cell (p := ⟨b, o + k, none⟩) (World.block_lt_of_cell? w ⟨b, o + k, none⟩ h0), h0, hxe.out]
      clear hc
      by_cases hbad : x < 0 ∨ 4294967295 < x
      · have HB : Hid (¬ OkC cs) := fun e => by have := e.each k hlt; rw [hxe.out] at this; omega
        have HBL : Hid (Below w.heap.size w wr) := T.out.bel
        clear T
        rcases hbad with hbad | hbad
        all_goals
          go_wp2_with fail
          go_ret2
          exact LPost.bad HBL.out HB.out
      · have HE2 : Hid (∀ j, j < k + 1 → 0 ≤ cs.getD j 0 ∧ cs.getD j 0 ≤ 4294967295) := fun j hj => by
          by_cases e : j < k
          · exact HE.out j e
          · have : j = k := by omega
            subst this
            rw [hxe.out]; omega
        have hx0 : 0 ≤ x := by omega
        have hx1 : x ≤ 4294967295 := by omega
        clear hbad
        have HL : Hid ((stI cs k).length ≤ 256 ∧ (wt cs k).length ≤ 256) := by
          have := st_le cs k
          exact ⟨by rw [stI_length]; omega, by rw [wt_length]; omega⟩
        by_cases hp : 0 < x
        · go_wp2_with (at_builtin; refine wpList_push _ rfl (.tmp 29) (.tmp 31) 22 rfl 3 .i64 8 elem64 _ (stI cs k) rfl T.out.so (k : Int) rfl (by have := HL.out.1; omega) (by have := HL.out.1; omega) ?_)
          intro s2 w2 ho2 hg2
          have T2 : Hid (Two w w2 s2 _ (stI cs k ++ [(k : Int)]) (wt cs k)) := T.out.left ho2 hg2
          clear ho2 hg2 T cx
          go_wp2_with (at_builtin; refine wpList_push _ rfl (.tmp 33) (.tmp 35) 22 rfl 3 .i64 8 elem64 _ (wt cs k) rfl T2.out.wo x rfl (by have := HL.out.2; omega) (by have := HL.out.2; omega) ?_)
          intro q3 w3 ho3 hg3
          have T3 : Hid (Two w w3 s2 q3 (stI cs (k + 1)) (wt cs (k + 1))) := by
            show Two _ _ _ _ _ _
            rw [(st_st cs k x hxe.out hp).1, (st_st cs k x hxe.out hp).2]
            exact T2.out.right ho3 hg3
          clear ho3 hg3 T2
          go_wp2_with fail
          go_roundw
          case rel => exact ⟨k + 1, by omega, by go_num, T3, HE2⟩
          case measure => simp [intOf]; omega
        · have T3 : Hid (Two w wr u4 u5 (stI cs (k + 1)) (wt cs (k + 1))) := by
            show Two _ _ _ _ _ _
            rw [(st_st0 cs k x hxe.out hp).1, (st_st0 cs k x hxe.out hp).2]
            exact T.out
          clear T
          go_wp2_with fail
          go_roundw
          case rel => exact ⟨k + 1, by omega, by go_num, T3, HE2⟩
          case measure => simp [intOf]; omega
    · obtain rfl : k = cs.length := by omega
      have hstl := st_le cs cs.length
      obtain ⟨sa, sc, hs4⟩ : ∃ a c, u4 = .slice a (st cs cs.length).length c := by obtain ⟨a, c, e, _⟩ := T.out.so.rd; rw [stI_length] at e; exact ⟨a, c, e⟩
      subst hs4
      by_cases h0 : (st cs cs.length).length = 0
      · have HB : Hid (¬ OkC cs) := fun e => by have := e.some; omega
        have HBL : Hid (Below w.heap.size w wr) := T.out.bel
        have h0' : (((st cs cs.length).length : Int) == 0) = true := by simp [h0]
        clear T
        go_wp2_with fail
        go_ret2
        exact LPost.bad HBL.out HB.out
      · have HOK : Hid (OkC cs) := ⟨by omega, HE.out, by omega⟩
        have h0' : (((st cs cs.length).length : Int) == 0) = false := by
          rw [beq_eq_false_iff_ne]
          omega
        obtain ⟨n, hn⟩ : ∃ n, (st cs cs.length).length = n + 1 := ⟨(st cs cs.length).length - 1, by omega⟩
        have hT := T.out
        obtain ⟨gs, sc', es, _⟩ := Owns.shape hT.so (by rw [stI_length]; omega)
        simp only [Value.slice.injEq] at es
        obtain ⟨rfl, _, rfl⟩ := es
        obtain ⟨gw, wc, ew, _⟩ := Owns.shape hT.wo (by rw [wt_length]; omega)
        rw [wt_length] at ew
        subst ew
        rw [hn] at T hstl h0' ⊢
        obtain ⟨M, hM⟩ : ∃ M, Hid (lastSt cs = M) := ⟨_, rfl⟩
        have hMl : M < cs.length := by
          rw [← hM.out]
          exact (rk_st cs (k := cs.length) (i := (st cs cs.length).length - 1) (by omega)).2.1
        have cM : wr.cell? ⟨gs, n, none⟩ = some (.int .i64 (M : Int)) := by
          have h1 := (hT.so.at1 n (by rw [stI_length]; omega)).1
          rw [stI_getD cs _ n (by omega)] at h1
          rw [h1, ← hM.out]
          simp only [lastSt, hn, Nat.add_sub_cancel]
        have hgw : gs ≠ gw := fun e => hT.ne gs rfl (by rw [e]; rfl)
        clear hT h0 HE
        go_wp2_with (at_make; refine wpList_make_full _ rfl (.tmp 47) (.tmp 47) 22 rfl 0 3 j0 _ 1 Try.underlying22 hj hy0 hy1 .i64 .i64 _ _ (M + 1) rfl rfl (by omega) (by omega) (by rw [hy2]; omega) (by unfold maxLen; omega) (Nat.zero_le _) ?_)
        intro w2 ho2 hg2
        have b2 : Below wr.heap.size wr w2 := (Below.refl _ _).grown hg2 (Nat.le_refl _) (fun k e => by cases e)
        obtain ⟨gl, hgl⟩ : ∃ gl, Hid (wr.heap.size = gl) := ⟨_, rfl⟩
        have OL2 : Hid (Owns .i64 3 w2 (.slice (some ⟨gl, 0, none⟩) (M + 1) (M + 1)) (List.replicate (M + 1) 0)) := by
          show w2.ownsRow _ _ _ _ _ _
          rw [toList_madeCells_one, hgl.out] at ho2
          simpa using ho2
        have OS2 : Hid (Owns .i64 3 w2 (.slice (some ⟨gs, 0, none⟩) (n + 1) sc) (stI cs cs.length)) := T.out.so.below b2
        have OW2 : Hid (Owns .i64 3 w2 (.slice (some ⟨gw, 0, none⟩) (n + 1) wc) (wt cs cs.length)) := T.out.wo.below b2
        have HB2 : Hid (Below w.heap.size w w2) := T.out.bel.trans (b2.mono T.out.bel.size)
        have hgs : gs < gl := by rw [← hgl.out]; exact T.out.so.lt gs rfl
        have hgw2 : gw < gl := by rw [← hgl.out]; exact T.out.wo.lt gw rfl
        have HGL : Hid (w.heap.size ≤ gl ∧ w.heap.size ≤ gw) := ⟨by rw [← hgl.out]; exact T.out.bel.size, T.out.wn gw rfl⟩
        have hgl2 : gl < w2.heap.size := OL2.out.lt gl rfl
        rw [hgl.out]
        clear ho2 hg2 b2 T cM hj hy0 hy1 hy2
        have HN : Hid ((wt cs cs.length).length = n + 1) := by show _ = _; rw [wt_length, hn]
        have hsh := shallow_all gw wc (wt cs cs.length) w2 (by rw [HN.out]; exact OW2.out) (by rw [HN.out]; omega) (by rw [HN.out]; omega) (fun i hi => wt_pos cs _ i hi) (by have := HOK.out.wsum; omega)
        rw [HN.out] at hsh
        go_wp2_with fail
        refine hsh.mono ?_
        clear hsh
        rintro e w3 ⟨dv, ds, rfl, hd3, hs3, ht3, hf3⟩
        have hdl : ds.length = n + 1 := by rw [hs3.len (fun i hi => wt_pos cs _ i hi) (by rw [HN.out]; omega), HN.out]
        have HDL : Hid (ds.length = n + 1) := hdl
        have OL3 : Hid (Owns .i64 3 w3 (.slice (some ⟨gl, 0, none⟩) (M + 1) (M + 1)) (lensTo cs ds 0)) := by
          show Owns _ _ _ _ _
          rw [lensTo_zero, hM.out]
          exact OL2.out.tch ht3 (fun j hj e => by simp only [Value.ownBlock, Option.some.injEq] at hj; omega)
        have OS3 : Hid (Owns .i64 3 w3 (.slice (some ⟨gs, 0, none⟩) (n + 1) sc) (stI cs cs.length)) := OS2.out.tch ht3 (fun j hj e => by simp only [Value.ownBlock, Option.some.injEq] at hj; omega)
        have HB3 : Hid (Below w.heap.size w w3) := HB2.out.trans (ht3.below HB2.out.size (fun k e => by rw [e]; exact HGL.out.2))
        have HSH : Hid (ShS (wt cs cs.length) ds) := hs3
        obtain ⟨da, dc, rfl, _, _, _, hdc⟩ := hd3
        obtain ⟨db, dof, rfl, hdc2⟩ : ∃ b o, da = some ⟨b, o, none⟩ ∧ ∀ i, i < ds.length → w3.cell? ⟨b, o + i, none⟩ = some (.int .i64 (ds.getD i 0)) := by
          rcases hdc with e | h
          · rw [e] at hdl; simp at hdl
          · exact h
        have hdb : gl ≠ db := by have := hf3 db rfl; omega
        have HDC : Hid (∀ i, i < ds.length → w3.cell? ⟨db, dof + i, none⟩ = some (.int .i64 (ds.getD i 0))) := hdc2
        rw [hdl]
        clear hs3 ht3 hf3 hdc hdc2 hdl OL2 OS2 OW2 HB2
        go_wp2_with fail
        go_loopw [52] (fun i wr => ∃ k : Nat, k ≤ n + 1 ∧ i = .int .i64 k ∧ Hid (Owns .i64 3 wr (.slice (some ⟨gl, 0, none⟩) (M + 1) (M + 1)) (lensTo cs ds k)) ∧ Hid (Tch (fun k => k = gl) w3 wr)) (fun i _ => n + 1 - (intOf i).toNat)
        case atStart => exact ⟨0, Nat.zero_le _, rfl, OL3, Tch.refl _ _⟩
        case round =>
          obtain ⟨k, hk, rfl, OL, T⟩ := hrel
          by_cases hlt : k < n + 1
          · obtain ⟨x, hx⟩ : ∃ x, Hid (ds.getD k 0 = x) := ⟨_, rfl⟩
            obtain ⟨y, hy⟩ : ∃ y, Hid ((st cs cs.length).getD k 0 = y) := ⟨_, rfl⟩
            have hyM : y ≤ M := by rw [← hM.out, ← hy.out]; exact st_le_last cs (by rw [hn]; exact hlt)
            have h3c := HDC.out k (by rw [HDL.out]; exact hlt)
            have cx : wr.cell? ⟨db, dof + k, none⟩ = some (.int .i64 x) := by
              rw [T.out.cell (p := ⟨db, dof + k, none⟩) (World.block_lt_of_cell? w3 ⟨db, dof + k, none⟩ h3c) (fun e => hdb e.symm), h3c, hx.out]
            have cs3 := (OS3.out.at1 k (by rw [stI_length, hn]; exact hlt))
            have cy : wr.cell? ⟨gs, k, none⟩ = some (.int .i64 (y : Int)) := by
              rw [T.out.cell (p := ⟨gs, k, none⟩) cs3.2.2 (fun e => by simp only at e; omega), cs3.1, stI_getD cs _ k (by rw [hn]; exact hlt), hy.out]
            obtain ⟨cl, fl, _⟩ := OL.out.at1 y (by rw [lensTo_length, hM.out]; omega)
            have OL5 : Hid (Owns .i64 3 (wr.setCell ⟨gl, y, none⟩ (.int .i64 x)) (.slice (some ⟨gl, 0, none⟩) (M + 1) (M + 1)) (lensTo cs ds (k + 1))) := by
              show Owns _ _ _ _ _
              rw [lensTo_succ cs ds k (by rw [hn]; exact hlt), hy.out, hx.out]
              exact OL.out.set y x
            have T5 : Hid (Tch (fun k => k = gl) w3 (wr.setCell ⟨gl, y, none⟩ (.int .i64 x))) := Tch.setCell T.out (p := ⟨gl, y, none⟩) (fun _ => rfl) _
            clear h3c cs3 OL T
            go_wp2_with fail
            go_roundw
            case rel => exact ⟨k + 1, by omega, by go_num, OL5, T5⟩
            case measure => simp [intOf]; omega
          · obtain rfl : k = n + 1 := by omega
            go_wp2_with fail
            go_ret2
            refine ⟨.slice (some ⟨gl, 0, none⟩) (M + 1) (M + 1), 0, rfl, HB3.out.trans (T.out.below HB3.out.size (fun k e => by rw [e]; exact HGL.out.1)), fun k hk => ?_, .inr ⟨rfl, HOK.out, ds, ?_, HSH.out⟩⟩
            · simp only [Value.ownBlock, Option.some.injEq] at hk
              have := HGL.out.1
              omega
            · unfold lens
              rw [hn]
              exact OL.out
end Go.Proofs.Ytcmnhgefeffcpaa
