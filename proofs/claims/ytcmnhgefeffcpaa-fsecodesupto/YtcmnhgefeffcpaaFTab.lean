/-
  The table of a share: at each place its symbol, its bits and its base.
-/
import Derived.Test.YtcmnhgefeffcpaaFSmall
import Derived.Test.YtcmnhgefeffcpaaFLen
import Derived.Laws.CopyOwn
namespace Go.Proofs.Ytcmnhgefeffcpaa
open Go.RowKit Pl
set_option linter.unusedVariables false

/-- The cells of the table when p places are told. -/
def t2 (f : Nat → Nat) (L z lg p i : Nat) : Int :=
  if i / 3 < z then (if i % 3 = 0 then (tb f L z (i / 3) : Int) else if i / 3 < p then (if i % 3 = 1 then (bt lg (xs_ f L z (i / 3)) : Int) else ((xs_ f L z (i / 3) * 2 ^ bt lg (xs_ f L z (i / 3)) - z : Nat) : Int)) else 0) else 0
/-- The next x of each symbol. -/
def nt (f : Nat → Nat) (L z p i : Nat) : Int := if i < L then ((f i + ah f L z i p : Nat) : Int) else 0

theorem t2_sym (f : Nat → Nat) (L z lg p q : Nat) (hq : q < z) : t2 f L z lg p (q * 3) = (tb f L z q : Int) := by
  have h1 : q * 3 / 3 = q := by omega
  have h2 : q * 3 % 3 = 0 := by omega
  unfold t2
  rw [h1, h2, if_pos hq, if_pos rfl]
theorem t2_bits (f : Nat → Nat) (L z lg q : Nat) (hq : q < z) : t2 f L z lg z (q * 3 + 1) = (bt lg (xs_ f L z q) : Int) := by
  have h1 : (q * 3 + 1) / 3 = q := by omega
  have h2 : (q * 3 + 1) % 3 = 1 := by omega
  unfold t2
  rw [h1, h2, if_pos hq, if_neg (by omega), if_pos hq, if_pos rfl]
theorem t2_base (f : Nat → Nat) (L z lg q : Nat) (hq : q < z) : t2 f L z lg z (q * 3 + 2) = ((xs_ f L z q * 2 ^ bt lg (xs_ f L z q) - z : Nat) : Int) := by
  have h1 : (q * 3 + 2) / 3 = q := by omega
  have h2 : (q * 3 + 2) % 3 = 2 := by omega
  unfold t2
  rw [h1, h2, if_pos hq, if_neg (by omega), if_pos hq, if_neg (by omega)]
theorem t2_start (f : Nat → Nat) (L z lg i : Nat) (hz : 0 < z) : tc f L z z i = t2 f L z lg 0 i := by
  unfold tc t2
  by_cases c : i / 3 < z
  · by_cases d : i % 3 = 0
    · rw [if_pos ⟨d, c⟩, if_pos c, if_pos d, tj_end _ _ _ _ hz]
    · rw [if_neg (fun h => d h.1), if_pos c, if_neg d, if_neg (by omega)]
  · rw [if_neg (fun h => c h.2), if_neg c]
theorem t2_step (f : Nat → Nat) (L z lg p i : Nat) (hp : p < z) :
    upd (upd (t2 f L z lg p) (p * 3 + 1) (bt lg (xs_ f L z p) : Int)) (p * 3 + 2) ((xs_ f L z p * 2 ^ bt lg (xs_ f L z p) - z : Nat) : Int) i = t2 f L z lg (p + 1) i := by
  unfold upd
  by_cases e2 : i = p * 3 + 2
  · subst e2
    rw [if_pos rfl]
    unfold t2
    have h1 : (p * 3 + 2) / 3 = p := by omega
    have h2 : (p * 3 + 2) % 3 = 2 := by omega
    rw [h1, h2, if_pos hp, if_neg (by omega), if_pos (by omega), if_neg (by omega)]
  · rw [if_neg e2]
    by_cases e1 : i = p * 3 + 1
    · subst e1
      rw [if_pos rfl]
      unfold t2
      have h1 : (p * 3 + 1) / 3 = p := by omega
      have h2 : (p * 3 + 1) % 3 = 1 := by omega
      rw [h1, h2, if_pos hp, if_neg (by omega), if_pos (by omega), if_pos rfl]
    · rw [if_neg e1]
      unfold t2
      by_cases c : i / 3 < z
      · rw [if_pos c, if_pos c]
        by_cases d : i % 3 = 0
        · rw [if_pos d, if_pos d]
        · rw [if_neg d, if_neg d]
          by_cases h : i / 3 < p
          · simp only [if_pos h, if_pos (show i / 3 < p + 1 by omega)]
          · simp only [if_neg h, if_neg (show ¬ i / 3 < p + 1 by omega)]
      · rw [if_neg c, if_neg c]
theorem nt_start (s : List Int) (z i : Nat) (h : ∀ k, k < s.length → 0 ≤ s.getD k 0) (hi : i < 64) (hl : s.length ≤ 64) :
    (splice (ics 64 (fun _ => 0)) 0 (s.map (Value.int .i64)))[i]? = some (.int .i64 (nt (nn s) s.length z 0 i)) := by
  unfold splice
  simp only [List.take_zero, List.nil_append, Nat.zero_add, List.length_map]
  rw [List.getElem?_append]
  by_cases c : i < s.length
  · rw [if_pos (by simpa using c)]
    have h0 := h i c
    simp only [List.getElem?_map, nt, if_pos c, ah, nn]
    rw [List.getD_eq_getElem?_getD] at h0 ⊢
    rw [List.getElem?_eq_getElem c] at h0 ⊢
    simp at h0 ⊢
    omega
  · rw [if_neg (by simpa using c), List.getElem?_drop]
    simp only [List.length_map]
    rw [show s.length + (i - s.length) = i by omega, ics_get _ _ _ hi]
    unfold nt
    rw [if_neg c]
theorem nt_at {f : Nat → Nat} {L z : Nat} (h : Fok f L z) (p : Nat) : nt f L z p (tb f L z p) = (xs_ f L z p : Int) := by
  unfold nt; rw [if_pos (h.tb_lt p)]; rfl
theorem nt_step {f : Nat → Nat} {L z : Nat} (h : Fok f L z) (p i : Nat) : upd (nt f L z p) (tb f L z p) ((xs_ f L z p : Int) + 1) i = nt f L z (p + 1) i := by
  have hl := h.tb_lt p
  unfold upd nt
  by_cases e : i = tb f L z p
  · subst e
    rw [if_pos rfl, if_pos hl]
    simp only [ah, if_true, xs_]
    omega
  · rw [if_neg e]
    by_cases c : i < L
    · rw [if_pos c, if_pos c]
      simp only [ah]
      rw [if_neg (fun h => e h.symm)]
      rfl
    · rw [if_neg c, if_neg c]

/-- The world of the loop. -/
structure TbW (W0 wr : World) (gt gn : Nat) (f : Nat → Nat) (L z lg p : Nat) : Prop where
  t : Iv wr gt 68 1536 (t2 f L z lg p)
  n : Iv wr gn 43 64 (nt f L z p)
  ne : gt ≠ gn
  tch : Tch (fun k => k = gt ∨ k = gn) W0 wr

theorem TbW.step {W0 wr : World} {gt gn : Nat} {f : Nat → Nat} {L z lg p : Nat} (h : TbW W0 wr gt gn f L z lg p) (hk : Fok f L z) (hL : L ≤ 64) (hp : p < z) :
    TbW W0 (((wr.setCell ⟨gn, tb f L z p, none⟩ (.int .i64 ((xs_ f L z p : Int) + 1))).setCell ⟨gt, p * 3 + 1, none⟩ (.int .i64 (bt lg (xs_ f L z p) : Int))).setCell ⟨gt, p * 3 + 2, none⟩ (.int .i64 ((xs_ f L z p * 2 ^ bt lg (xs_ f L z p) - z : Nat) : Int))) gt gn f L z lg (p + 1) := by
  have hz := hk.zok.pos
  have ht := hk.tb_lt p
  have t1 : Tch (fun k => k = gn) wr (wr.setCell ⟨gn, tb f L z p, none⟩ (.int .i64 ((xs_ f L z p : Int) + 1))) := Tch.setCell (Tch.refl (fun k => k = gn) wr) (p := ⟨gn, tb f L z p, none⟩) (fun _ => rfl) _
  obtain ⟨w1, hw1⟩ : ∃ w1, w1 = wr.setCell ⟨gn, tb f L z p, none⟩ (.int .i64 ((xs_ f L z p : Int) + 1)) := ⟨_, rfl⟩
  have n1 := h.n.set (tb f L z p) (by omega) ((xs_ f L z p : Int) + 1)
  rw [← hw1] at t1 n1 ⊢
  have t1' := (h.t.tch t1 h.ne).set (p * 3 + 1) (by omega) (bt lg (xs_ f L z p) : Int)
  have t2' := t1'.set (p * 3 + 2) (by omega) ((xs_ f L z p * 2 ^ bt lg (xs_ f L z p) - z : Nat) : Int)
  have tt : Tch (fun k => k = gt) w1 ((w1.setCell ⟨gt, p * 3 + 1, none⟩ (.int .i64 (bt lg (xs_ f L z p) : Int))).setCell ⟨gt, p * 3 + 2, none⟩ (.int .i64 ((xs_ f L z p * 2 ^ bt lg (xs_ f L z p) - z : Nat) : Int))) :=
    Tch.setCell (Tch.setCell (Tch.refl (fun k => k = gt) w1) (p := ⟨gt, p * 3 + 1, none⟩) (fun _ => rfl) _) (p := ⟨gt, p * 3 + 2, none⟩) (fun _ => rfl) _
  refine ⟨t2'.congr (fun i _ => t2_step f L z lg p i hp), (n1.tch tt (fun e => h.ne e.symm)).congr (fun i _ => nt_step hk p i), h.ne, ?_⟩
  exact (h.tch.trans t1 (fun _ _ e => .inr e)).trans tt (fun _ _ e => .inl e)

set_option maxRecDepth 100000 in
set_option maxHeartbeats 4000000 in
theorem tableOf_any (v : Value) (s : List Int) (lg z : Nat) (w : World) (hr : Rd .i64 w v s) (hk : Sok s lg) (hz : 2 ^ lg = z) :
    Calls Try.prog 34 #[v, .int .i64 lg] w fun e w' => e = .returned (.agg (ics 1536 (t2 (nn s) s.length z lg z)).toArray) ∧ Below w.heap.size w w' := by
  have HR : Hid (Rd .i64 w v s) := hr
  obtain ⟨a, cap, rfl, hlc, hcm, _, hcc⟩ := hr
  have HC : Hid (s = [] ∨ ∃ b o, a = some ⟨b, o, none⟩ ∧ ∀ i, i < s.length → w.cell? ⟨b, o + i, none⟩ = some (.int .i64 (s.getD i 0))) := hcc
  have HK : Hid (Sok s lg) := hk
  have HZ : Hid (2 ^ lg = z) := hz
  have HF : Hid (Fok (nn s) s.length z) := by show Fok _ _ _; rw [← hz]; exact hk.fok
  have hz1 := HF.out.zok.pos
  have hlen := hk.len
  have hl5 := hk.lo
  have hl9 := hk.hi
  have hpz : wrap64 (2 ^ lg) = (z : Int) := by
    have e : ((2 : Int) ^ lg) = ((2 ^ lg : Nat) : Int) := by push_cast; rfl
    rw [e, hz]
    exact IntWalk.wrap64_in _ ⟨by omega, by omega⟩
  obtain ⟨hvT, hiT⟩ := zero_of_info info_tab
  have HIT : Hid ((Try.prog.info? 68).map (·.size) = some 1536) := hiT
  obtain ⟨hvN, hiN⟩ := zero_of_info info_i64
  clear hcc hiT hiN hk hz
  obtain ⟨ZT, hZT⟩ : ∃ Z, Hid ((ics 1536 (fun _ => 0)).toArray = Z) := ⟨_, rfl⟩
  obtain ⟨ZL, hZL⟩ : ∃ Z, Hid (ics 64 (fun _ => 0) = Z) := ⟨_, rfl⟩
  rw [hZT.out] at hvT
  rw [hZL.out] at hvN
  have HVN : Hid (∀ (w : World), Sem.run Try.prog (zeroValue 43) w = Result.ok (Value.agg ZL.toArray) w) := hvN
  have HZTL : Hid (ZT.size = 1536) := by show _ = _; rw [← hZT.out, ics_size]
  have HZLL : Hid (ZL.length = 64) := by show _ = _; rw [← hZL.out, ics_length]
  clear hvN
  obtain ⟨F, hF⟩ : ∃ F, Hid (ics 1536 (t2 (nn s) s.length z lg z) = F) := ⟨_, rfl⟩
  rw [hF.out]
  go_enter Try.func34, Try.ntmps34
  go_wp2_with fail
  have HB0 : Hid (Below w.heap.size w (w.alloc (.cells ZT 68))) := (Below.refl _ _).alloc (Nat.le_refl _) _
  have R0 : Hid ((w.alloc (.cells ZT 68)).heap[w.heap.size]? = some (.cells ZT 68 (0, 0))) := heap_alloc_new w _
  refine (spread_anyF _ s lg z _ (HR.out.below HB0.out) HK.out HZ.out).mono ?_
  rintro e w2 ⟨rfl, hb2⟩
  have HBW : Hid (Below (w.alloc (.cells ZT 68)).heap.size (w.alloc (.cells ZT 68)) w2) := hb2
  have hn2 : w.heap.size < w2.heap.size := by have := hb2.size; simp at this; omega
  clear hb2
  obtain ⟨FT, hFT⟩ : ∃ FT, Hid (ics 1536 (tc (nn s) s.length z z) = FT) := ⟨_, rfl⟩
  have HTS : Hid (FT.toArray.size = 1536) := by show _ = _; rw [List.size_toArray, ← hFT.out, ics_length]
  have HTO : Hid (FT.toArray.all (·.oneCell') = true) := by show _ = _; rw [← hFT.out]; exact ics_one _ _
  rw [hFT.out]
  obtain ⟨X1, hX1⟩ : ∃ X1, Hid (s.map (Value.int .i64) = X1) := ⟨_, rfl⟩
  have HX1 : Hid (X1.length = s.length) := by show _ = _; rw [← hX1.out, List.length_map]
  have HX2 : Hid (∀ v ∈ X1, v.oneCell' = true) := by rw [← hX1.out]; exact ints_oneCell _ _
  have HX3 : Hid (0 < X1.length → ∃ ad, a = some ad ∧ ∀ j v, X1[j]? = some v → w.cell? (ad.add j) = some v ∧ (ad.add j).block < w.heap.size) := fun h => by
    rcases HC.out with rfl | ⟨b, o, rfl, hc⟩
    · rw [HX1.out] at h; simp at h
    · refine ⟨_, rfl, fun j x hx => ?_⟩
      have hj : j < s.length := by have := (List.getElem?_eq_some_iff.1 hx).1; rw [HX1.out] at this; exact this
      rw [← hX1.out, List.getElem?_map, List.getElem?_eq_getElem hj] at hx
      simp at hx
      have h0 := hc j hj
      rw [List.getD_eq_getElem?_getD, List.getElem?_eq_getElem hj] at h0
      simp at h0
      rw [Addr.add_lit]
      refine ⟨?_, World.block_lt_of_cell? w ⟨b, o + j, none⟩ h0⟩
      rw [h0, ← hx]
  have HIE : Hid ((Try.prog.info? 3).map (·.size) = some 1) := by show _ = _; kernel_rfl
  have hvN := HVN.out
  go_wp2_with (refine wpList_store_newF w2 rfl 68 (.tmp 6) (.tmp 15) rfl ZT FT.toArray rfl rfl (by rw [HTS.out]; exact HIT.out) (by rw [HTS.out, HZTL.out]) HTO.out ?_)
  obtain ⟨ad, ha, hsrc⟩ := HX3.out (by rw [HX1.out]; exact HK.out.pos)
  subst ha
  have hgN : ((w2.alloc (.cells FT.toArray 68)).alloc (.cells ZL.toArray 43)).heap[w2.heap.size + 1]? = some (.cells ZL.toArray 43 (0, 0)) := by
    have := heap_alloc_new (w2.alloc (.cells FT.toArray 68)) (.cells ZL.toArray 43)
    simpa using this
  have hcp := run_copy_row (P := Try.prog) ((w2.alloc (.cells FT.toArray 68)).alloc (.cells ZL.toArray 43)) 22 22 3 3 (w2.heap.size + 1) 0 64 64 ad s.length cap ZL.toArray 43 X1
    Try.underlying22 HIE.out hgN (by rw [HX1.out]; exact (Nat.min_eq_left hlen).symm) (fun j x hx => by
      obtain ⟨h1, h2⟩ := hsrc j x hx
      have hbl : (ad.add j).block < w.heap.size := h2
      have hB : Below w.heap.size w ((w2.alloc (.cells FT.toArray 68)).alloc (.cells ZL.toArray 43)) := by
        have h3 := HB0.out.trans (HBW.out.mono HB0.out.size)
        exact (h3.alloc h3.size _).alloc (by simp; omega) _
      rw [hB.cell (p := ad.add j) hbl]
      exact h1) (by rw [List.size_toArray, HX1.out, HZLL.out]; omega) HX2.out
  rw [hcp]
  have hg3 : Hid ((((w2.alloc (.cells FT.toArray 68)).alloc (.cells ZL.toArray 43)).setRow (w2.heap.size + 1) (ZL.toArray.toList.take 0 ++ X1 ++ ZL.toArray.toList.drop (0 + X1.length)).toArray).heap[w2.heap.size + 1]? = some (.cells (splice ZL 0 X1).toArray 43 (0, 0))) := by
    show _ = _
    rw [setRow_heap _ _ _ _ _ _ hgN]
    simp [splice]
  have hb3 : Below (w2.heap.size + 1) ((w2.alloc (.cells FT.toArray 68)).alloc (.cells ZL.toArray 43)) (((w2.alloc (.cells FT.toArray 68)).alloc (.cells ZL.toArray 43)).setRow (w2.heap.size + 1) (ZL.toArray.toList.take 0 ++ X1 ++ ZL.toArray.toList.drop (0 + X1.length)).toArray) :=
    below_setRow (Below.refl _ _) (Nat.le_refl _) _
  obtain ⟨w3, hw3⟩ : ∃ w3, Hid (((w2.alloc (.cells FT.toArray 68)).alloc (.cells ZL.toArray 43)).setRow (w2.heap.size + 1) (ZL.toArray.toList.take 0 ++ X1 ++ ZL.toArray.toList.drop (0 + X1.length)).toArray = w3) := ⟨_, rfl⟩
  rw [hw3.out] at hg3 hb3 ⊢
  clear hvN hvT hcp hsrc hgN hw3
  have T0 : Hid (TbW w3 w3 w2.heap.size (w2.heap.size + 1) (nn s) s.length z lg 0) := by
    refine ⟨?_, ?_, by omega, Tch.refl _ _⟩
    · have ht := iv_new w2 68 1536 (tc (nn s) s.length z z)
      rw [hFT.out] at ht
      have h1 : Iv w3 w2.heap.size 68 1536 (tc (nn s) s.length z z) := by
        unfold Iv
        rw [hb3.block w2.heap.size (by omega), Below.heap_alloc _ _ _ (by simp)]
        exact ht
      exact h1.congr (fun i _ => t2_start _ _ _ _ i (by omega))
    · have he : splice ZL 0 X1 = ics 64 (nt (nn s) s.length z 0) := by
        apply List.ext_getElem?
        intro i
        by_cases hi : i < 64
        · rw [ics_get _ _ _ hi, ← hZL.out, ← hX1.out]
          exact nt_start s z i HK.out.each hi hlen
        · rw [List.getElem?_eq_none (by rw [length_splice _ _ _ (by rw [HX1.out, HZLL.out]; omega), HZLL.out]; omega), List.getElem?_eq_none (by rw [ics_length]; omega)]
      unfold Iv
      rw [← he]
      exact hg3.out
  have HB3 : Hid (Below w.heap.size w w3) := by
    have h3 := HB0.out.trans (HBW.out.mono HB0.out.size)
    have h4 := (h3.alloc h3.size (.cells FT.toArray 68)).alloc (by simp; omega) (.cells ZL.toArray 43)
    exact h4.trans (hb3.mono (by omega))
  have R3 : Hid (w3.heap[w.heap.size]? = some (.cells ZT 68 (0, 0))) := by
    show _ = _
    rw [hb3.block w.heap.size (by omega), Below.heap_alloc _ _ _ (by simp; omega), Below.heap_alloc _ _ _ (by omega), HBW.out.block w.heap.size (by simp)]
    exact R0.out
  obtain ⟨gt, hgt⟩ : ∃ gt, w2.heap.size = gt := ⟨_, rfl⟩
  obtain ⟨gn, hgn⟩ : ∃ gn, w2.heap.size + 1 = gn := ⟨_, rfl⟩
  rw [hgn, hgt] at T0
  rw [hgn, hgt]
  have hwg : w.heap.size < gt ∧ w.heap.size < gn := by omega
  clear hg3 hb3 HBW HB0 HX1 HX2 HX3 hX1 hgt hgn hn2
  go_wp2_with fail
  go_loopw [20] (fun i wr => ∃ p : Nat, p ≤ z ∧ i = .int .i64 p ∧ Hid (TbW w3 wr gt gn (nn s) s.length z lg p)) (fun i _ => z - (intOf i).toNat)
  case atStart => exact ⟨0, Nat.zero_le _, rfl, T0⟩
  case round =>
    clear T0
    obtain ⟨p, hp, rfl, TW⟩ := hrel
    by_cases hlt : p < z
    · obtain ⟨q, hq⟩ : ∃ q, Hid (tb (nn s) s.length z p = q) := ⟨_, rfl⟩
      obtain ⟨X, hX⟩ : ∃ X, Hid (xs_ (nn s) s.length z p = X) := ⟨_, rfl⟩
      obtain ⟨b, hb⟩ : ∃ b, Hid (bt lg X = b) := ⟨_, rfl⟩
      obtain ⟨Y, hY⟩ : ∃ Y, Hid (X * 2 ^ b = Y) := ⟨_, rfl⟩
      have hq1 : q < s.length := by rw [← hq.out]; exact HF.out.tb_lt p
      have hX1 := xs_bd HF.out hlt
      rw [hX.out] at hX1
      have hbs := bt_spec (lg := lg) hX1.1 hl9 (by rw [HZ.out]; exact hX1.2)
      have hble := bl_le (lg := lg) hX1.1 hl9 (by rw [HZ.out]; exact hX1.2)
      rw [hb.out, HZ.out] at hbs
      rw [Nat.add_mul, hY.out] at hbs
      obtain ⟨BL, hBL⟩ : ∃ BL, Hid (Lib.bitLen X = BL) := ⟨_, rfl⟩
      rw [hBL.out] at hble
      have hbe := hb.out
      unfold bt at hbe
      rw [hBL.out] at hbe
      have hbI : (lg : Int) + 1 - (BL : Int) = (b : Int) := by omega
      clear hbe
      have hbl10 : BL ≤ 10 := by omega
      have hY1 : z ≤ Y ∧ Y ≤ 1024 := by omega
      obtain ⟨D, hD⟩ : ∃ D, Hid (Y - z = D) := ⟨_, rfl⟩
      have hYD : Hid (wrap64 ((Y : Int) - (z : Int)) = (D : Int)) := by
        show _ = _
        rw [IntWalk.wrap64_in _ ⟨by omega, by omega⟩, ← hD.out]; omega
      have hb9 : b ≤ 9 := by omega
      have t0 : wr.cell? ⟨gt, p * 3, none⟩ = some (.int .i64 (q : Int)) := by
        rw [TW.out.t.at_ (p * 3) (by omega), t2_sym _ _ _ _ _ _ hlt, hq.out]
      have t1 := TW.out.t.at_ (p * 3 + 1) (by omega)
      have t3 := TW.out.t.at_ (p * 3 + 2) (by omega)
      have f1 := TW.out.t.fz (p * 3 + 1)
      have f2 := TW.out.t.fz (p * 3 + 2)
      have n0 : wr.cell? ⟨gn, q, none⟩ = some (.int .i64 (X : Int)) := by
        rw [TW.out.n.at_ q (by omega), ← hq.out, nt_at HF.out p, hX.out]
      have n1 := TW.out.n.fz q
      have hne := TW.out.ne
      have HTW : Hid (TbW w3 (((wr.setCell ⟨gn, q, none⟩ (.int .i64 ((X : Int) + 1))).setCell ⟨gt, p * 3 + 1, none⟩ (.int .i64 (b : Int))).setCell ⟨gt, p * 3 + 2, none⟩ (.int .i64 (D : Int))) gt gn (nn s) s.length z lg (p + 1)) := by
        have h := TW.out.step HF.out hlen hlt
        rw [hX.out, hq.out, hb.out, hY.out, hD.out] at h
        exact h
      obtain ⟨y1, hy1⟩ : ∃ y, Hid (t2 (nn s) s.length z lg p (p * 3 + 1) = y) := ⟨_, rfl⟩
      obtain ⟨y2, hy2⟩ : ∃ y, Hid (t2 (nn s) s.length z lg p (p * 3 + 2) = y) := ⟨_, rfl⟩
      rw [hy1.out] at t1
      rw [hy2.out] at t3
      have hX3 : X ≤ 1023 := by omega
      have hi0 : (0 : Int) ≤ (p : Int) := by omega
      have hi1 : (p : Int) < 512 := by omega
      have hi2 : (p : Int) ≤ 511 := by omega
      have hj0 : (0 : Int) ≤ (q : Int) := by omega
      have hj1 : (q : Int) < 64 := by omega
      have hj2 : (q : Int) ≤ 63 := by omega
      clear TW hbs hble
      have hYI : Hid (wrap64 ((X : Int) * 2 ^ b) = (Y : Int)) := by
        show _ = _
        have e : ((X : Int) * 2 ^ b) = ((X * 2 ^ b : Nat) : Int) := by push_cast; rfl
        rw [e, hY.out]
        exact IntWalk.wrap64_in _ ⟨by omega, by omega⟩
      go_wp2_with fail
      refine (len_any_ (X : Int) _ (by omega) (by omega)).mono ?_
      rintro e w5 ⟨rfl, rfl⟩
      rw [Int.toNat_natCast, hBL.out]
      go_wp2_with fail
      go_roundw
      case rel => exact ⟨p + 1, by omega, by go_num, by rw [hYI.out, hYD.out]; exact HTW⟩
      case measure => simp [intOf]; omega
    · obtain rfl : p = z := by omega
      have RR : Hid (wr.there w.heap.size 0 1536) := by
        refine there_of_blockF (C := ZT) (t := 68) ?_ HZTL.out
        rw [TW.out.tch.block w.heap.size (Array.getElem?_eq_some_iff.1 R3.out).1 (fun e => by rcases e with e | e <;> omega)]
        exact R3.out
      have HRG : Hid (wr.rangeAt gt 0 F) := by rw [← hF.out]; exact TW.out.t.range
      have HPL : Hid (F.length = 1536) := by show _ = _; rw [← hF.out, ics_length]
      have HSZ : Hid (F.toArray.size = 1536) := by show _ = _; rw [List.size_toArray]; exact HPL.out
      have HON : Hid (F.toArray.all (·.oneCell') = true) := by show _ = _; rw [← hF.out]; exact ics_one _ _
      go_wp2_with (first | (refine wpList_load_mid rfl 68 (.tmp 6) rfl gt 0 rfl F _ HRG.out Try.underlying68 rfl (by rw [HPL.out]; exact HIT.out) ?_) | (refine wpList_store_mid rfl 68 (.tmp 4) (.tmp 56) rfl w.heap.size 0 F.toArray rfl rfl (by rw [HSZ.out]; exact RR.out) (by rw [HSZ.out]; exact HIT.out) HON.out ?_))
      have hld := run_loadVar_mid (P := Try.prog) (wr.setCells w.heap.size 0 F.toArray.toList) w.heap.size 0 68 F _ (by
        have := World.rangeAt_setCells_same wr w.heap.size 0 F.toArray.toList (by rw [Array.length_toList, HSZ.out]; exact RR.out)
        simpa using this) Try.underlying68 rfl (by rw [HPL.out]; exact HIT.out)
      refine bodyPost_ret (v := .agg F.toArray) ?_ rfl ⟨rfl, ?_⟩
      · exact results_atF (p := 4) (ty := 68) rfl _ _ _ w.heap.size _ rfl hld
      · have h1 := HB3.out.trans (TW.out.tch.below HB3.out.size (fun k e => by rcases e with e | e <;> omega))
        exact h1.trans ((setCells_tchF w.heap.size _ 0 wr).below h1.size (fun k e => by rw [e]; exact Nat.le_refl _))
end Go.Proofs.Ytcmnhgefeffcpaa
