/-
  What Encode answers.
-/
import Derived.Test.YtcmnhgefeffcpaaHCodes
import Derived.Test.YtcmnhgefeffcpaaWrX
import Derived.Deep.RegionHeld3
namespace Go.Proofs.Ytcmnhgefeffcpaa
open Go.RowKit Pl
set_option linter.unusedVariables false
set_option maxRecDepth 100000

/-- A byte's code, as bits. -/
def cb (ls : List Int) (c : Nat) : List Int := cbits (cd ls c).2 (cd ls c).1.toNat
def enc (ls : List Int) : List Int → List Int
  | [] => []
  | x :: r => cb ls x.toNat ++ enc ls r

theorem enc_append (ls xs ys : List Int) : enc ls (xs ++ ys) = enc ls xs ++ enc ls ys := by
  induction xs with
  | nil => rfl
  | cons x r ih => simp [enc, ih]

theorem cb_length (ls : List Int) (c : Nat) : (cb ls c).length = (cd ls c).1.toNat := by simp [cb, cbits]

section
variable {P : Program}
/-- A whole array into the block that was made last, at the list of a region's operations. -/
theorem wpList_store_new (w : World) {ops : Array Oper} {rest : List Oper} {op : Oper} {a : Act} {Q : Exit → Act → World → Prop} (hgd : op.guard = none) (ty : TypeId) (x y : Operand) (ho : op.op = .store ty x y)
    (c c' : Array Value) (hx : a.eval x = .pointer (some ⟨w.heap.size, 0, none⟩)) (hy : a.eval y = .agg c') (hi : (P.info? ty).map (·.size) = some c'.size) (hs : c.size = c'.size) (h1 : c'.all (·.oneCell') = true)
    (h : wpList P ops Q rest (a.put op.dst undef) (w.alloc (.cells c' ty))) : wpList P ops Q (op :: rest) a (w.alloc (.cells c ty)) := by
  refine wpList_plain hgd fun K hK => ?_
  have hrun := run_storeAt_new (P := P) w ty c c' hi hs h1
  unfold Oper.wp execOp
  simp only [ho, hx, hy, Sem.run_bind, Sem.run_pure, Result.andThen_ok, hrun]
  exact hK _ _ h
end

/-- The writer beside the codes. -/
structure En (w W : World) (g b : Nat) (rv : Value) (ps : List (Int × Int)) (bs : List Int) : Prop where
  wr : Wr W b rv bs
  cv : Cv W g ps
  bel : Below w.heap.size w W
  bn : w.heap.size ≤ b
  rn : ∀ k, rv.ownBlock = some k → w.heap.size ≤ k

theorem En.blw {w W W' : World} {g b : Nat} {rv : Value} {ps : List (Int × Int)} {bs : List Int} (h : En w W g b rv ps bs) (hb : Below W.heap.size W W') : En w W' g b rv ps bs :=
  ⟨h.wr.tch (S := fun _ => False) (Tch.of_below hb) (fun e => e) (fun _ _ e => e), h.cv.below hb, h.bel.trans (hb.mono h.bel.size), h.bn, h.rn⟩

theorem En.blw2 {w W0 W W' : World} {g b : Nat} {rv : Value} {ps : List (Int × Int)} {bs : List Int} (h : En w W0 g b rv ps bs) (hb : Below W.heap.size W W') (hd : Below W0.heap.size W0 W) : En w W' g b rv ps bs :=
  (h.blw hd).blw hb

theorem En.put {w W W' : World} {g b : Nat} {rv rv' : Value} {ps : List (Int × Int)} {bs xs : List Int} (h : En w W g b rv ps bs) (hp : WrTo W b rv W' rv' xs) : En w W' g b rv' ps xs := by
  refine ⟨hp.wr, h.cv.tch hp.tch ?_, h.bel.trans (hp.tch.below h.bel.size (fun k hk => ?_)), h.bn, fun k hk => ?_⟩
  · rintro (e | e)
    · have h1 := h.cv.blk
      have h2 := h.wr.blk
      rw [e, h2] at h1
      simp at h1
    · obtain ⟨c1, h1⟩ := block_of_owns h.wr.own e
      rw [h.cv.blk] at h1
      simp at h1
  · rcases hk with e | e
    · rw [e]; exact h.bn
    · exact h.rn k e
  · rcases hp.fresh k hk with e | e
    · exact h.rn k e
    · have := h.bel.size; omega

/-- What Encode answers. -/
def EPost (ls ds : List Int) (w : World) (e : Ending) (w' : World) : Prop :=
  ∃ rv E, e = .returned (.tuple #[rv, .int .i64 E]) ∧ Below w.heap.size w w' ∧ (∀ k, rv.ownBlock = some k → w.heap.size ≤ k) ∧
    ((E = 4 ∧ rv = .slice none 0 0 ∧ (mayC ls = false ∨ ∃ i, i < ds.length ∧ ls.getD (ds.getD i 0).toNat 0 ≤ 0)) ∨
      (E = 0 ∧ mayC ls = true ∧ (∀ i, i < ds.length → 0 < ls.getD (ds.getD i 0).toNat 0) ∧ Owns .u8 5 w' rv (pack (enc ls ds))))

theorem EPost.bad {ls ds : List Int} {w w' : World} (hb : Below w.heap.size w w') (h : mayC ls = false ∨ ∃ i, i < ds.length ∧ ls.getD (ds.getD i 0).toNat 0 ≤ 0) : EPost ls ds w (.returned (.tuple #[.slice none 0 0, .int .i64 4])) w' :=
  ⟨_, 4, rfl, hb, (fun k e => by cases e), .inl ⟨rfl, rfl, h⟩⟩

theorem enc_take (ls ds : List Int) (k : Nat) (h : k < ds.length) : enc ls (ds.take (k + 1)) = enc ls (ds.take k) ++ cb ls (ds.getD k 0).toNat := by
  rw [take_snoc' ds k h, enc_append]
  simp [enc]

theorem enc_le {ls : List Int} (hk : LOk ls) (ds : List Int) : (enc ls ds).length ≤ 11 * ds.length := by
  induction ds with
  | nil => simp [enc]
  | cons x r ih =>
    simp only [enc, List.length_append, List.length_cons, cb_length]
    have : (cd ls x.toNat).1.toNat ≤ 11 := by
      unfold cd
      split
      · by_cases hl : x.toNat < ls.length
        · have := (hk.each _ hl).2
          simp only
          omega
        · simp [List.getD_eq_getElem?_getD, List.getElem?_eq_none (by omega : ls.length ≤ x.toNat)]
      · simp
    omega

/-- A byte with a code: how many bits, the number, and that it fits. -/
theorem LOk.code {ls : List Int} (hk : LOk ls) {c : Nat} (hc : 0 < ls.getD c 0) : ∃ s v : Nat, 1 ≤ s ∧ s ≤ 11 ∧ v < 2 ^ s ∧ cd ls c = ((s : Int), (v : Int)) ∧ cb ls c = cbits v s ∧ ls.getD c 0 = (s : Int) ∧ v = nx ls (s - 1) c ∧ c < ls.length := by
  have hl : c < ls.length := by
    by_cases h : c < ls.length
    · exact h
    · simp [List.getD_eq_getElem?_getD, List.getElem?_eq_none (by omega : ls.length ≤ c)] at hc
  obtain ⟨s, hs⟩ := Int.eq_ofNat_of_zero_le (Int.le_of_lt hc)
  have h11 := (hk.each c hl).2
  have e : cd ls c = ((s : Int), ((nx ls (s - 1) c : Nat) : Int)) := by unfold cd; rw [if_pos hc, hs, Int.toNat_natCast]
  have hfit := hk.fits (s := s - 1) (b := c) (by omega) hl (by rw [hs]; omega)
  rw [show s - 1 + 1 = s by omega] at hfit
  refine ⟨s, nx ls (s - 1) c, by omega, by omega, hfit, e, ?_, hs, rfl, hl⟩
  unfold cb
  rw [e, Int.toNat_natCast]

set_option maxHeartbeats 4000000 in
theorem encode_any (lv dv : Value) (ls ds : List Int) (w : World) (hr : Rd .i64 w lv ls) (hd : Rd .u8 w dv ds) (hy : By ds) (hl : ds.length ≤ 8796093022208) :
    Calls Try.prog 18 #[lv, dv] w fun e w' => EPost ls ds w e w' := by
  have HR : Hid (Rd .i64 w lv ls) := hr
  have HY : Hid (By ds) := hy
  obtain ⟨a, cap, rfl, hlc, hcm, _, hcc⟩ := hd
  have HC : Hid (ds = [] ∨ ∃ b o, a = some ⟨b, o, none⟩ ∧ ∀ i, i < ds.length → w.cell? ⟨b, o + i, none⟩ = some (.int .u8 (ds.getD i 0))) := hcc
  obtain ⟨hv37, hi37⟩ := zero_of_info info37
  have HI37 : Hid ((Try.prog.info? 85).map (·.size) = some 512) := hi37
  obtain ⟨Z, hZ⟩ : ∃ Z, Hid (ccs (List.replicate 256 (0, 0)) = Z) := ⟨_, rfl⟩
  rw [hZ.out] at hv37
  have HZL : Hid (Z.size = 512) := by show _ = _; rw [← hZ.out, ccs_size, List.length_replicate]
  clear hr hy hcc hi37
  cases hm : mayC ls with
  | false =>
    have HM : Hid (mayC ls = false) := hm
    clear hm
    go_enter Try.func18, Try.ntmps18
    go_wp2_with fail
    refine (maybe_rd lv ls w HR.out).mono ?_
    rintro e w1 ⟨rfl, rfl⟩
    rw [HM.out]
    go_wp2_with fail
    go_ret2
    exact EPost.bad (Below.refl _ _) (.inl HM.out)
  | true =>
    have HM : Hid (mayC ls = true) := hm
    have HK : Hid (LOk ls) := LOk.of hm
    clear hm
    go_enter Try.func18, Try.ntmps18
    go_wp2_with fail
    refine (maybe_rd lv ls w HR.out).mono ?_
    rintro e w1 ⟨rfl, rfl⟩
    rw [HM.out]
    go_wp2_with fail
    refine (codesOf_any lv ls w1 HR.out HK.out).mono ?_
    rintro e w2 ⟨rfl, hb2⟩
    obtain ⟨CC, hCC⟩ : ∃ CC, Hid (ccs (cdl ls) = CC) := ⟨_, rfl⟩
    rw [hCC.out]
    have HB2 : Hid (Below w1.heap.size w1 w2) := hb2
    have HSZ : Hid (CC.size = 512) := by show _ = _; rw [← hCC.out, ccs_size, cdl_length]
    have HON : Hid (CC.all (·.oneCell') = true) := by show _ = _; rw [← hCC.out]; exact ccs_one _
    clear hb2
    go_wp2_with (refine wpList_store_new w2 rfl 85 (.tmp 6) (.tmp 14) rfl Z CC rfl rfl (by rw [HSZ.out]; exact HI37.out) (by rw [HSZ.out, HZL.out]) HON.out ?_)
    have CV3 : Hid (Cv (w2.alloc (.cells CC 85)) w2.heap.size (cdl ls)) := ⟨by rw [hCC.out]; exact heap_alloc_new w2 _, cdl_length ls⟩
    have HB3 : Hid (Below w1.heap.size w1 (w2.alloc (.cells CC 85))) := HB2.out.alloc HB2.out.size _
    refine (newWriter_any _).mono ?_
    rintro e w4 ⟨rfl, hw4, hb4⟩
    obtain ⟨g, hg⟩ : ∃ g, w2.heap.size = g := ⟨_, rfl⟩
    obtain ⟨b, hb⟩ : ∃ b, (w2.alloc (.cells CC 85)).heap.size = b := ⟨_, rfl⟩
    have E4 : Hid (En w1 w4 g b (.slice none 0 0) (cdl ls) (enc ls (ds.take 0))) := by
      rw [hb] at hw4 hb4
      refine ⟨by simpa [enc] using hw4, ?_, HB3.out.trans ?_, ?_, (fun k e => by cases e)⟩
      · rw [← hg]
        refine CV3.out.below ?_
        rw [hb]; exact hb4
      · rw [← hb] at hb4
        exact hb4.mono HB3.out.size
      · rw [← hb]; exact HB3.out.size
    rw [hb, hg]
    clear hw4 hb4 hb hg CV3 HB2 HB3 hv37
    go_wp2_with fail
    go_loopw [18] (fun i wr => ∃ (k : Nat) (rv : Value), k ≤ ds.length ∧ i = .int .i64 k ∧ Hid (En w1 wr g b rv (cdl ls) (enc ls (ds.take k))) ∧ Hid (∀ i, i < k → 0 < ls.getD (ds.getD i 0).toNat 0)) (fun i _ => ds.length - (intOf i).toNat)
    case atStart => exact ⟨0, _, Nat.zero_le _, rfl, E4, fun i hi => by omega⟩
    case round =>
      obtain ⟨k, rv, hk, rfl, E5, HA⟩ := hrel
      clear E4
      by_cases hlt : k < ds.length
      · obtain ⟨ab, ao, ha, hc⟩ : ∃ b o, a = some ⟨b, o, none⟩ ∧ ∀ i, i < ds.length → w1.cell? ⟨b, o + i, none⟩ = some (.int .u8 (ds.getD i 0)) := by
          rcases HC.out with rfl | h
          · simp at hlt
          · exact h
        subst ha
        have hyk := HY.out k
        obtain ⟨c, hx⟩ := Int.eq_ofNat_of_zero_le hyk.1
        have hc256 : c < 256 := by omega
        have HX : Hid (ds.getD k 0 = (c : Int)) := hx
        have cx : wr.cell? ⟨ab, ao + k, none⟩ = some (.int .u8 (c : Int)) := by
          have h0 := hc k hlt
          rw [E5.out.bel.cell (p := ⟨ab, ao + k, none⟩) (World.block_lt_of_cell? w1 ⟨ab, ao + k, none⟩ h0), h0, HX.out]
        obtain ⟨c0, c1, _, _⟩ := E5.out.cv.at2 c hc256
        have hgl : g < wr.heap.size := E5.out.cv.lt
        clear hc hyk hx
        have e0 : (cdl ls).getD c (0, 0) = cd ls c := by unfold cdl; exact getD_rngP _ _ c hc256
        rw [e0] at c0 c1
        by_cases hz : 0 < ls.getD c 0
        · obtain ⟨s, v, hs1, hs2, hv, ecd, ecb, hq1, hq2, hq3⟩ := HK.out.code hz
          clear hq1 hq2 hq3
          rw [ecd] at c0 c1
          simp only at c0 c1
          have HCC : Hid (∀ W' : World, Cv W' g (cdl ls) → W'.cell? ⟨g, c * 2, none⟩ = some (.int .i64 (s : Int)) ∧ W'.cell? ⟨g, c * 2 + 1, none⟩ = some (.int .i64 (v : Int))) := fun W' hW' => by
            obtain ⟨d0, d1, _, _⟩ := hW'.at2 c hc256
            rw [e0, ecd] at d0 d1
            exact ⟨d0, d1⟩
          have hs0 : ((s : Int) == 0) = false := by rw [beq_eq_false_iff_ne]; omega
          have HV : Hid (v < 2 ^ s) := hv
          have HS2 : Hid (s ≤ 11) := hs2
          obtain ⟨_, _, ht1, ht2, ht3⟩ := trn_ok s v hs2 hv
          have HT : Hid (0 ≤ trn s v ∧ trn s v < 2 ^ s ∧ bitsOf (trn s v) s = cbits v s) := ⟨ht1, ht2, ht3⟩
          have HEL : Hid ((enc ls (ds.take k)).length ≤ 1125899906841900) := by
            have := enc_le HK.out (ds.take k)
            rw [List.length_take] at this
            show _ ≤ _
            omega
          have HEN : Hid (enc ls (ds.take (k + 1)) = enc ls (ds.take k) ++ bitsOf (trn s v) s) := by
            show _ = _
            rw [enc_take ls ds k hlt, HX.out, Int.toNat_natCast, ecb, ht3]
          have HA2 : Hid (∀ i, i < k + 1 → 0 < ls.getD (ds.getD i 0).toNat 0) := fun i hi => by
            by_cases e : i < k
            · exact HA.out i e
            · have : i = k := by omega
              subst this
              rw [HX.out, Int.toNat_natCast]; exact hz
          obtain ⟨tv, htv⟩ : ∃ tv, Hid (trn s v = tv) := ⟨_, rfl⟩
          rw [htv.out] at HT HEN
          have TC : ∀ W : World, Calls Try.prog 45 #[.agg #[.int .i64 s, .int .i64 v]] W fun e w' => e = .returned (.int .i64 tv) ∧ Below W.heap.size W w' := fun W => by rw [← htv.out]; exact turned_any s v W HS2.out HV.out
          have HTC : Hid (∀ W : World, Calls Try.prog 45 #[.agg #[.int .i64 s, .int .i64 v]] W fun e w' => e = .returned (.int .i64 tv) ∧ Below W.heap.size W w') := TC
          clear ht1 ht2 ht3 hv ecd ecb e0 hz TC HA
          go_wp2_with fail
          have hi0 : (0 : Int) ≤ (c : Int) := by omega
          have hi1 : (c : Int) < 256 := by omega
          have hi2 : (c : Int) ≤ 255 := by omega
          go_region_held3 (fun w' => w'.cell? ⟨g, c * 2, none⟩ = some (.int .i64 s) ∧ w'.cell? ⟨g, c * 2 + 1, none⟩ = some (.int .i64 v)) (go_keep)
            (first
              | (go_at_call 45; refine (HTC.out _).mono ?_; rintro e w5 ⟨rfl, hb5⟩; have E6 := E5.out.blw2 hb5 (by repeat (first | exact Below.refl _ _ | apply Below.drew)); have HE6 : Hid (En w1 w5 g b rv (cdl ls) (enc ls (ds.take k))) := E6; clear E6; obtain ⟨d0, d1⟩ := HCC.out _ HE6.out.cv)
              | (go_at_call 26; refine (put_ok b rv s tv _ _ (HE6.out.blw (by repeat (first | exact Below.refl _ _ | apply Below.drew))).wr HEL.out (by omega) HT.out.1 HT.out.2.1).mono ?_; rintro e w7 ⟨rfl, rv7, h7⟩; have E7 := (HE6.out.blw (by repeat (first | exact Below.refl _ _ | apply Below.drew))).put h7; have HE7 : Hid (En w1 w7 g b rv7 (cdl ls) (enc ls (ds.take k) ++ bitsOf tv s)) := E7; clear E7 h7; obtain ⟨d2, d3⟩ := HCC.out _ HE7.out.cv))
          rw [← HEN.out] at HE7
          clear HE6 HEN c0 c1 d0 d1 d2 d3 cx
          go_wp2_with fail
          go_roundw
          case rel => exact ⟨k + 1, rv7, by omega, by go_num, by first | exact HE7 | exact HE7.out.blw (by repeat (first | exact Below.refl _ _ | apply Below.drew)), HA2⟩
          case measure => simp [intOf]; omega
        · have HB : Hid (mayC ls = false ∨ ∃ i, i < ds.length ∧ ls.getD (ds.getD i 0).toNat 0 ≤ 0) := .inr ⟨k, hlt, by rw [HX.out, Int.toNat_natCast]; omega⟩
          have HBL : Hid (Below w1.heap.size w1 wr) := E5.out.bel
          have ecd : cd ls c = (0, 0) := by unfold cd; rw [if_neg hz]
          rw [ecd] at c0 c1
          clear E5 e0 ecd hz
          go_wp2_with fail
          go_ret2
          exact EPost.bad HBL.out HB.out
      · obtain rfl : k = ds.length := by omega
        rw [List.take_length] at E5
        have HEL : Hid ((enc ls ds).length ≤ 1125899906842000) := by
          have := enc_le HK.out ds
          show _ ≤ _
          omega
        go_wp2_with fail
        refine (bytes_any b rv (enc ls ds) wr E5.out.wr HEL.out).mono ?_
        rintro e w6 ⟨v6, rfl, ho6, hb6, hf6⟩
        go_wp2_with fail
        go_ret2
        exact ⟨v6, 0, rfl, E5.out.bel.trans (hb6.mono E5.out.bel.size), fun k hk => Nat.le_trans E5.out.bel.size (hf6 k hk), .inr ⟨rfl, HM.out, HA.out, ho6⟩⟩
end Go.Proofs.Ytcmnhgefeffcpaa
