/-
  HuffRound: what is written is read again: for every bytes the law answers true.
-/
import Derived.Test.YtpdhdlopbmhgfaaHMayL
import Derived.Test.YtpdhdlopbmhgfaaSame
namespace Go.Proofs.Ytpdhdlopbmhgfaa
open Go.RowKit Pl Hf
set_option linter.unusedVariables false

/-- How often each byte stands among the first k. -/
def cl (ds : List Int) : Nat → List Int
  | 0 => List.replicate 256 0
  | k + 1 => (cl ds k).set (ds.getD k 0).toNat ((cl ds k).getD (ds.getD k 0).toNat 0 + 1)

theorem cl_length (ds : List Int) (k : Nat) : (cl ds k).length = 256 := by
  induction k with
  | zero => simp only [cl, List.length_replicate]
  | succ k ih => simp only [cl, List.length_set, ih]

theorem cl_bd (ds : List Int) (k c : Nat) : 0 ≤ (cl ds k).getD c 0 ∧ (cl ds k).getD c 0 ≤ k := by
  induction k generalizing c with
  | zero => simp only [cl]; rw [getD_rep]; omega
  | succ k ih =>
    simp only [cl]
    rw [getD_set]
    have h1 := ih c
    have h2 := ih (ds.getD k 0).toNat
    split <;> omega

theorem cl_pos (ds : List Int) (hy : By ds) (k i : Nat) (hi : i < k) : 0 < (cl ds k).getD (ds.getD i 0).toNat 0 := by
  induction k with
  | zero => omega
  | succ k ih =>
    simp only [cl]
    rw [getD_set, cl_length]
    have hb := hy i
    have h2 := cl_bd ds k (ds.getD k 0).toNat
    by_cases e : i = k
    · subst e
      rw [if_pos ⟨rfl, by omega⟩]
      omega
    · have := ih (by omega)
      split <;> omega

theorem cl_ok (ds : List Int) (hy : By ds) (h1 : 1 ≤ ds.length) (h2 : ds.length ≤ 65536) : OkC (cl ds ds.length) := by
  refine ⟨by rw [cl_length]; omega, fun i hi => ?_, ?_⟩
  · have := cl_bd ds ds.length i
    omega
  · have hp := cl_pos ds hy ds.length 0 (by omega)
    have hb := hy 0
    have hm : (ds.getD 0 0).toNat ∈ st (cl ds ds.length) (cl ds ds.length).length := mem_st.2 ⟨by rw [cl_length]; omega, hp⟩
    exact List.length_pos_of_mem hm

theorem lens_has {ds sd : List Int} (hy : By ds) (h1 : 1 ≤ ds.length) (h2 : ds.length ≤ 65536) (hs : ShS (wt (cl ds ds.length) (cl ds ds.length).length) sd) : ∀ i, i < ds.length → 0 < (lens (cl ds ds.length) sd).getD (ds.getD i 0).toNat 0 := by
  intro i hi
  have hok := cl_ok ds hy h1 h2
  have hp := cl_pos ds hy ds.length i hi
  have hb := hy i
  exact (lens_pos hok hs _ (last_of' (by rw [cl_length]; omega) hp)).2 hp

theorem bits_append {a b : List Int} (ha : Bits a) (hb : Bits b) : Bits (a ++ b) := by
  intro i
  rw [getD_append]
  split
  · exact ha _
  · exact hb _

theorem bits_cb (v : Int) (s : Nat) : Bits (cbits v s) := by
  intro i
  by_cases h : i < s
  · have : (cbits v s).getD i 0 = v / 2 ^ (s - 1 - i) % 2 := by simp [cbits, List.getD_eq_getElem?_getD, h]
    rw [this]
    omega
  · have : (cbits v s).getD i 0 = 0 := by simp [cbits, List.getD_eq_getElem?_getD, h]
    exact .inl this

theorem bits_enc (ls ds : List Int) : Bits (enc ls ds) := by
  induction ds with
  | nil => exact Bits.nil
  | cons x r ih => exact bits_append (bits_cb _ _) ih

theorem rn_prefix {ls bs : List Int} (hk : LOk ls) {out : List Int} {Q : Nat} (h : Rn ls bs out Q) : ∀ k, k ≤ out.length → ∃ q, Rn ls bs (out.take k) q ∧ q + (out.length - k) ≤ Q := by
  induction h with
  | nil => intro k hk; exact ⟨0, by simpa using Rn.nil, by simp⟩
  | snoc o q t c h hh ih =>
    intro k hkl
    simp at hkl
    have ht := (hit_code hk hh).1
    by_cases e : k = o.length + 1
    · subst e
      refine ⟨q + t, ?_, by simp⟩
      rw [List.take_of_length_le (by simp)]
      exact Rn.snoc o q t c h hh
    · obtain ⟨q1, h1, h2⟩ := ih k (by omega)
      refine ⟨q1, by rw [List.take_append_of_le_length (by omega)]; exact h1, ?_⟩
      simp only [List.length_append, List.length_cons, List.length_nil]
      omega

set_option maxRecDepth 100000 in
set_option maxHeartbeats 1000000 in
theorem huffRound_walk (v1 : Value) (ds : List Int) (w : World) (h1 : Rd .u8 w v1 ds) (hy : By ds) :
    Calls Try.prog 4 #[v1] w fun e w' => e = .returned (.bool true) ∧ Below w.heap.size w w' := by
  have H1 : Hid (Rd .u8 w v1 ds) := h1
  have HY : Hid (By ds) := hy
  obtain ⟨a1, p1, e1, _, _, _, q1⟩ := h1
  subst e1
  have C1 : Hid (ds = [] ∨ ∃ b o, a1 = some ⟨b, o, none⟩ ∧ ∀ i, i < ds.length → w.cell? ⟨b, o + i, none⟩ = some (.int .u8 (ds.getD i 0))) := q1
  clear q1 hy
  by_cases hgo : 1 ≤ ds.length ∧ ds.length ≤ 65536
  · obtain ⟨hn1, hn2⟩ := hgo
    obtain ⟨b, o, ha, hc⟩ : ∃ b o, a1 = some ⟨b, o, none⟩ ∧ ∀ i, i < ds.length → w.cell? ⟨b, o + i, none⟩ = some (.int .u8 (ds.getD i 0)) := by
      rcases C1.out with rfl | h
      · simp at hn1
      · exact h
    subst ha
    have HC : Hid (∀ i, i < ds.length → w.cell? ⟨b, o + i, none⟩ = some (.int .u8 (ds.getD i 0))) := hc
    clear hc C1
    obtain ⟨j0, hj, hy0, hy1, hy2⟩ := elem64.info
    have z0 : ((ds.length : Int) == 0) = false := by rw [beq_eq_false_iff_ne]; omega
    go_enter Try.func4, Try.ntmps4
    go_wp2_with (at_make; refine wpList_make_full _ rfl (.const (.int .i64 256)) (.const (.int .i64 256)) 22 rfl 0 3 j0 _ 1 Try.underlying22 hj hy0 hy1 .i64 .i64 _ _ 256 rfl rfl rfl rfl (by rw [hy2]; omega) (by unfold maxLen; omega) (Nat.zero_le _) ?_)
    intro w2 ho2 hg2
    have b2 : Below w.heap.size w w2 := (Below.refl _ _).grown hg2 (Nat.le_refl _) (fun k e => by cases e)
    obtain ⟨gc, hgc⟩ : ∃ gc, Hid (w.heap.size = gc) := ⟨_, rfl⟩
    have OC2 : Hid (Owns .i64 3 w2 (.slice (some ⟨gc, 0, none⟩) 256 256) (cl ds 0)) := by
      show w2.ownsRow _ _ _ _ _ _
      rw [toList_madeCells_one, hgc.out] at ho2
      simp only [cl, List.length_replicate, List.map_replicate]
      exact ho2
    have B2 : Hid (Below w.heap.size w w2) := b2
    rw [hgc.out]
    clear ho2 hg2 b2 hj hy0 hy1 hy2
    go_wp2_with fail
    go_loopw [4] (fun i wr => ∃ k : Nat, k ≤ ds.length ∧ i = .int .i64 k ∧ Hid (Owns .i64 3 wr (.slice (some ⟨gc, 0, none⟩) 256 256) (cl ds k)) ∧ Hid (Below w.heap.size w wr)) (fun i _ => ds.length - (intOf i).toNat)
    case atStart => exact ⟨0, Nat.zero_le _, rfl, OC2, B2⟩
    case round =>
      obtain ⟨k, hk, rfl, OC, B3⟩ := hrel
      clear OC2 B2
      by_cases hlt : k < ds.length
      · obtain ⟨c, hcx⟩ := Int.eq_ofNat_of_zero_le (HY.out k).1
        have hc256 : c < 256 := by have := (HY.out k).2; omega
        have HCX : Hid (ds.getD k 0 = (c : Int)) := hcx
        have cx : wr.cell? ⟨b, o + k, none⟩ = some (.int .u8 (c : Int)) := by
          have h0 := HC.out k hlt
          rw [B3.out.cell (p := ⟨b, o + k, none⟩) (World.block_lt_of_cell? w ⟨b, o + k, none⟩ h0), h0, HCX.out]
        obtain ⟨x, hx⟩ : ∃ x, Hid ((cl ds k).getD c 0 = x) := ⟨_, rfl⟩
        have hxb := cl_bd ds k c
        rw [hx.out] at hxb
        obtain ⟨cc, fc, _⟩ := OC.out.at1 c (by rw [cl_length]; exact hc256)
        rw [hx.out] at cc
        have OC3 : Hid (Owns .i64 3 (wr.setCell ⟨gc, c, none⟩ (.int .i64 (x + 1))) (.slice (some ⟨gc, 0, none⟩) 256 256) (cl ds (k + 1))) := by
          show Owns _ _ _ _ _
          have e : cl ds (k + 1) = (cl ds k).set c (x + 1) := by simp only [cl]; rw [HCX.out, Int.toNat_natCast, hx.out]
          rw [e]
          exact OC.out.set c (x + 1)
        have B4 : Hid (Below w.heap.size w (wr.setCell ⟨gc, c, none⟩ (.int .i64 (x + 1)))) := B3.out.trans ((Tch.setCell (Tch.refl (fun k => k = gc) wr) (p := ⟨gc, c, none⟩) (fun _ => rfl) _).below B3.out.size (fun j e => by rw [e, ← hgc.out]; exact Nat.le_refl _))
        have hi1 : (c : Int) < 256 := by omega
        have hi2 : (c : Int) ≤ 255 := by omega
        have hi0 : (0 : Int) ≤ (c : Int) := by omega
        clear hcx OC
        go_wp2_with fail
        go_roundw
        case rel => exact ⟨k + 1, by omega, by go_num, OC3, B4⟩
        case measure => simp [intOf]; omega
      · obtain rfl : k = ds.length := by omega
        have HOK : Hid (OkC (cl ds ds.length)) := cl_ok ds HY.out hn1 hn2
        go_wp2_with fail
        refine (lengths_any _ (cl ds ds.length) wr OC.out.rd).mono ?_
        intro e w4 hL
        obtain ⟨lv, E, rfl, hb4, _, hcase⟩ := hL
        rcases hcase with ⟨_, _, hno⟩ | ⟨rfl, _, sd, ho4, hs4⟩
        · exact absurd HOK.out hno
        · obtain ⟨ls, hls⟩ : ∃ ls, Hid (lens (cl ds ds.length) sd = ls) := ⟨_, rfl⟩
          have B4 : Hid (Below w.heap.size w w4) := B3.out.trans (hb4.mono B3.out.size)
          have O4 : Hid (Owns .i64 3 w4 lv ls) := by show Owns _ _ _ _ _; rw [← hls.out]; exact ho4
          have HAS : Hid (∀ i, i < ds.length → 0 < ls.getD (ds.getD i 0).toNat 0) := by show ∀ i, _; rw [← hls.out]; exact lens_has HY.out hn1 hn2 hs4
          have HMC : Hid (mayC ls = true) := by show _ = _; rw [← hls.out]; exact mayC_of_mayB (may_lens HOK.out hs4)
          have HK : Hid (LOk ls) := LOk.of HMC.out
          clear hb4 ho4 hs4 OC B3
          obtain ⟨bs, hbs⟩ : ∃ bs, Hid (enc ls ds = bs) := ⟨_, rfl⟩
          have HBB : Hid (Bits bs) := by show Bits bs; rw [← hbs.out]; exact bits_enc ls ds
          have hbl : bs.length ≤ 11 * ds.length := by rw [← hbs.out]; exact enc_le HK.out ds
          have HRN : Hid (Rn ls (unpack (pack bs)) ds bs.length) := by
            have := rn_enc HK.out ds HY.out HAS.out (unpack (pack bs)) (fun i hi => by rw [unpack_pack HBB.out, hbs.out]) ds.length (Nat.le_refl _)
            rw [List.take_length, hbs.out] at this
            exact this
          have HPL : Hid ((pack bs).length = (bs.length + 7) / 8) := pack_length bs
          go_wp2_with fail
          refine (encode_any _ _ ls ds w4 O4.out.rd (H1.out.below B4.out) HY.out (by omega)).mono ?_
          intro e w5 hE
          obtain ⟨bv, E, rfl, hb5, _, hcase⟩ := hE
          rcases hcase with ⟨_, _, hno⟩ | ⟨rfl, _, _, ho5⟩
          · exfalso
            rcases hno with hno | ⟨i, hi, hno⟩
            · rw [HMC.out] at hno; cases hno
            · have := HAS.out i hi; omega
          · have B5 : Hid (Below w.heap.size w w5) := B4.out.trans (hb5.mono B4.out.size)
            have O5 : Hid (Owns .i64 3 w5 lv ls) := O4.out.below hb5
            have P5 : Hid (Owns .u8 5 w5 bv (pack bs)) := by show Owns _ _ _ _ _; rw [← hbs.out]; exact ho5
            clear hb5 ho5 B4 O4
            obtain ⟨ba, bc, hbv⟩ : ∃ a c, bv = .slice a (pack bs).length c := by obtain ⟨a, c, e, _⟩ := P5.out.rd; exact ⟨a, c, e⟩
            subst hbv
            have HPB : Hid (By (pack bs)) := fun i => pack_bd HBB.out i
            go_wp2_with fail
            refine (decode_any _ _ ls (pack bs) ds.length w5 O5.out.rd P5.out.rd HPB.out (by have := HPL.out; omega)).mono ?_
            intro e w6 hD
            obtain ⟨cv, rfl, hb6, _, ho6⟩ := decode_good HMC.out HRN.out rfl (by omega) (by have := HPL.out; omega) (by have := HPL.out; omega) (by rw [val_pack HBB.out, val_past bs _ _ (Nat.le_refl _)]) hD
            have B6 : Hid (Below w.heap.size w w6) := B5.out.trans (hb6.mono B5.out.size)
            have O6 : Hid (Owns .i64 3 w6 lv ls) := O5.out.below hb6
            have P6 : Hid (Owns .u8 5 w6 (.slice ba (pack bs).length bc) (pack bs)) := P5.out.below hb6
            have Q6 : Hid (Owns .u8 5 w6 cv ds) := ho6
            clear hD hb6 ho6 B5 O5 P5
            go_wp2_with fail
            refine (same_rd _ _ ds ds w6 Q6.out.rd (H1.out.below B6.out)).mono ?_
            rintro e w7 ⟨rfl, hb7⟩
            have hdec : decide (ds = ds) = true := by simp
            rw [hdec]
            have B7 : Hid (Below w.heap.size w w7) := B6.out.trans (hb7.mono B6.out.size)
            have O7 : Hid (Owns .i64 3 w7 lv ls) := O6.out.below hb7
            have P7 : Hid (Owns .u8 5 w7 (.slice ba (pack bs).length bc) (pack bs)) := P6.out.below hb7
            clear hdec hb7 B6 O6 P6 Q6
            go_wp2_with fail
            refine (decode_any _ _ ls (pack bs) ((ds.length : Int) + 9) w7 O7.out.rd P7.out.rd HPB.out (by have := HPL.out; omega)).mono ?_
            intro e w8 hD2
            obtain ⟨cv2, E, rfl, hb8, _, hcase⟩ := hD2
            have hE : E ≠ 0 := by
              rcases hcase with ⟨h, _⟩ | ⟨_, _, _, _, out, q, g1, g2, g3, _⟩
              · exact h
              · exfalso
                obtain ⟨q1, f1, f2⟩ := rn_prefix HK.out g1 ds.length (by omega)
                obtain ⟨_, rfl⟩ := rn_det HK.out (bits_unpack _) f1 HRN.out (by rw [List.length_take]; omega)
                have := HPL.out
                omega
            have hne : (E != 0) = true := by simp [hE]
            have B8 : Hid (Below w.heap.size w w8) := B7.out.trans (hb8.mono B7.out.size)
            have hle2 : ((pack bs).length : Int) ≤ 2 * (ds.length : Int) := by have := HPL.out; omega
            obtain ⟨np, hnp⟩ : ∃ np, Hid ((pack bs).length = np) := ⟨_, rfl⟩
            rw [hnp.out] at hle2 ⊢
            clear hcase hb8 hE B7 O7 P7
            go_wp2_with fail
            refine (lives_any _).mono ?_
            rintro e w9 ⟨rfl, hb9⟩
            go_wp2_with fail
            go_ret
            exact ⟨rfl, B8.out.trans (hb9.mono B8.out.size)⟩
  · have HG : Hid (¬ (1 ≤ ds.length ∧ ds.length ≤ 65536)) := hgo
    by_cases hz : ds.length = 0
    · have z0 : ((ds.length : Int) == 0) = true := by simp [hz]
      clear hgo hz
      go_enter Try.func4, Try.ntmps4
      go_wp2_with fail
      refine (lives_any _).mono ?_
      rintro e w6 ⟨rfl, hb6⟩
      go_wp2_with fail
      go_ret
      exact ⟨rfl, hb6⟩
    · have z0 : ((ds.length : Int) == 0) = false := by rw [beq_eq_false_iff_ne]; omega
      have z1 : (65536 : Int) < (ds.length : Int) := by omega
      clear hgo hz
      go_enter Try.func4, Try.ntmps4
      go_wp2_with fail
      refine (lives_any _).mono ?_
      rintro e w6 ⟨rfl, hb6⟩
      go_wp2_with fail
      go_ret
      exact ⟨rfl, hb6⟩
end Go.Proofs.Ytpdhdlopbmhgfaa
