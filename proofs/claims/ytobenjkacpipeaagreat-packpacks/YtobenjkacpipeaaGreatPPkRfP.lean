import Derived.Test.YtobenjkacpipeaaGreatPPkRfL
import Derived.Test.YtobenjkacpipeaaGreatPPkPk3
import Derived.Test.YtobenjkacpipeaaGreatPMRefBest
set_option maxRecDepth 100000
set_option linter.unusedVariables false
set_option linter.unusedSimpArgs false
set_option maxHeartbeats 8000000
namespace Go.Proofs.YtobenjkacpipeaaGreat
open Go.RowKit Pl Hf
theorem hideP {p : Prop} (h : p) : Hid p := h
theorem zhv9 (sv : Value) (w : World) (hr : RdS w sv []) :
  Calls Tryz.prog 20 #[sv] w fun e w' => ∃ v', e = .returned v' /\ Owns .u8 5 w' v' (stpB []) /\ Below w.heap.size w w' /\ ∀ k, v'.ownBlock = some k -> w.heap.size <= k := by
 obtain ⟨a, cap, rfl, _⟩ := hr
 have HE : Hid (stpB [] = digits ((0 : Nat) : Int)) := rfl
 rw [HE.out]
 simp only [List.length_nil]
 go_enter Tryz.func20, Tryz.ntmps20
 go_wp2_with fail
 refine (zam9 _ [] 0 w ⟨none, 0, rfl, Nat.le_refl _, by unfold maxLen; omega, fun _ => rfl, .inl rfl⟩ (by simp) (by omega)).mono ?_
 rintro e w1 ⟨v1, rfl, ho1, hb1, hf1⟩
 rw [List.nil_append] at ho1
 have O1 : Hid (Owns .u8 5 w1 v1 (digits ((0 : Nat) : Int))) := ho1
 have B1 : Hid (Below w.heap.size w w1) := hb1
 have N1 : Hid (∀ k, v1.ownBlock = some k -> w.heap.size <= k) := hf1
 clear ho1 hb1 hf1
 go_wp2_with fail
 go_ret
 exact ⟨v1, rfl, O1.out, B1.out, N1.out⟩
theorem zco9 (sv : Value) (ps : List Sq) (w : World) (hr : RdS w sv ps) (hok : ∀ x ∈ ps, SqOk x) (h2 : ps.length <= 16384) :
  Calls Tryz.prog 20 #[sv] w fun e w' => ∃ v', e = .returned v' /\ Owns .u8 5 w' v' (stpB ps) /\ Below w.heap.size w w' /\ ∀ k, v'.ownBlock = some k -> w.heap.size <= k := by
 cases ps with
 | nil => exact zhv9 sv w hr
 | cons x r => exact zkh9 sv _ w hr hok (by simp) h2
theorem ztb9 {ps : List Sq} (hok : ∀ x ∈ ps, SqOk x) (h2 : ps.length <= 16384) : (stpB ps).length <= 2000000 := by
 unfold stpB
 have := ze9 (ps.length : Int)
 split
 ·omega
 ·have h3 := zhi9 hok (by omega) h2 3 (by omega)
  have h4 := zdl9 hok ps.length (Nat.le_refl _)
  have h5 := ze9 ((pack (rsts ps ps.length)).length : Int)
  rw [List.length_append, List.length_append, List.length_append, zc9] at *
  omega
theorem zhj9 {ls bs : List Int} (h : LitR ls bs) (hl : ls.length <= 65536) : bs.length <= 70000 := by
 obtain ⟨cb, _, rfl⟩ := h
 have := ze9 (ls.length : Int)
 rw [List.length_append]
 split <;> simp <;> omega
theorem LitR.det {ls us bs : List Int} (h1 : LitR ls us) (h2 : LitR ls bs) : us = bs := by
 obtain ⟨ca, ⟨d1, s1, _, _, rfl⟩, rfl⟩ := h1
 obtain ⟨cb, ⟨d2, s2, _, _, rfl⟩, rfl⟩ := h2
 rw [s1.det s2]
theorem PkdR.det {ds us bs : List Int} (h1 : PkdR ds us) (h2 : PkdR ds bs) : us = bs := by
 obtain ⟨L1, l1, e1, _, r1, _, rfl⟩ := h1
 obtain ⟨L2, l2, e2, _, r2, _, rfl⟩ := h2
 rw [e1] at e2
 simp only [Prod.mk.injEq, true_and] at e2
 subst e2
 rw [r1.det r2]
theorem PackR.det {ds us bs : List Int} (h1 : PackR ds us) (h2 : PackR ds bs) : us = bs := by
 obtain ⟨b1, rfl, h1⟩ := h1
 obtain ⟨b2, rfl, h2⟩ := h2
 rcases h1 with ⟨e1, rfl⟩ | ⟨e1, p1, q1, rfl⟩
 ·rcases h2 with ⟨e2, rfl⟩ | ⟨e2, p2, q2, rfl⟩
  ·rfl
  ·omega
 ·rcases h2 with ⟨e2, rfl⟩ | ⟨e2, p2, q2, rfl⟩
  ·omega
  ·rw [q1.det q2]
theorem zfd9 (xs ys s : List Int) : shr xs ys ++ s = if (ys ++ s).length < (xs ++ s).length then ys ++ s else xs ++ s := by
 unfold shr
 rw [List.length_append, List.length_append]
 by_cases h : ys.length < xs.length
 ·rw [if_pos h, if_pos (by omega)]
 ·rw [if_neg h, if_neg (by omega)]
def alk (ds : List Int) (k : Nat) : Bool := decide (∀ i, i < k -> ds.getD i 0 = ds.getD 0 0)
theorem zxm9 (ds : List Int) : alk ds 0 = true := by unfold alk; rw [decide_eq_true_eq]; intro i hi; omega
theorem zwm9 (ds : List Int) (k : Nat) : alk ds (k + 1) = (alk ds k && (ds.getD k 0 == ds.getD 0 0)) := by
 unfold alk
 rw [Bool.eq_iff_iff, Bool.and_eq_true, decide_eq_true_eq, decide_eq_true_eq, beq_iff_eq]
 constructor
 ·intro h
  exact ⟨fun i hi => h i (by omega), h k (by omega)⟩
 ·rintro ⟨h1, h2⟩ i hi
  by_cases e : i = k
  ·rw [e]; exact h2
  ·exact h1 i (by omega)
theorem zaas9 {ds : List Int} (h : 0 < ds.length) : alk ds ds.length = alike ds := by
 unfold alk alike
 rw [Bool.eq_iff_iff, decide_eq_true_eq, decide_eq_true_eq]
 exact ⟨fun e => ⟨h, e⟩, fun e => e.2⟩
theorem zkb9 (v : Value) (w : World) (hr : Rd .u8 w v []) :
  Calls Tryz.prog 5 #[v] w fun e w' => ∃ ov out, e = .returned (.tuple #[ov, .int .i64 0]) /\ PackR [] out /\ Owns .u8 5 w' ov out /\ Below w.heap.size w w' /\ ∀ k, ov.ownBlock = some k -> w.heap.size <= k := by
 have HF := zbn9 0 v v [] [] w hr hr (fun i => by simp) (by simp) (by simp)
 obtain ⟨a, cap, rfl, _⟩ := hr
 simp only [List.length_nil] at HF ⊢
 have HF2 : Hid (Calls Tryz.prog 16 #[.int .u8 0, .slice a 0 cap, .slice a 0 cap] w fun e w' => ∃ v', e = .returned v' /\ Owns .u8 5 w' v' ([0] ++ digits ((0 : Nat) : Int) ++ [] ++ sumB (crc [])) /\ Below w.heap.size w w' /\ ∀ k, v'.ownBlock = some k -> w.heap.size <= k) := HF
 clear HF
 go_enter Tryz.func5, Tryz.ntmps5
 go_wp2_with fail
 refine HF2.out.mono ?_
 clear HF2
 rintro e w1 ⟨v1, rfl, ho1, hb1, hf1⟩
 obtain ⟨X, hX⟩ : ∃ X : List Int, [0] ++ digits ((0 : Nat) : Int) ++ [] ++ sumB (crc []) = X := ⟨_, rfl⟩
 have HX : Hid ([0] ++ digits ((0 : Nat) : Int) ++ [] ++ sumB (crc []) = X) := hX
 rw [hX] at ho1
 have O1 : Hid (Owns .u8 5 w1 v1 X) := ho1
 have B1 : Hid (Below w.heap.size w w1) := hb1
 have N1 : Hid (∀ k, v1.ownBlock = some k -> w.heap.size <= k) := hf1
 clear ho1 hb1 hf1 hX
 go_wp2_with fail
 go_ret2
 exact ⟨v1, X, rfl, ⟨rawB [], by rw [<- HX.out]; rfl, .inl ⟨rfl, rfl⟩⟩, O1.out, B1.out, N1.out⟩
theorem zju9 (v : Value) (ds : List Int) (w : World) (hr : Rd .u8 w v ds) (hy : By ds) (h0 : 0 < ds.length) (hn : ds.length <= 65536) :
  Calls Tryz.prog 5 #[v] w fun e w' => ∃ ov out, e = .returned (.tuple #[ov, .int .i64 0]) /\ PackR ds out /\ Owns .u8 5 w' ov out /\ Below w.heap.size w w' /\ ∀ k, ov.ownBlock = some k -> w.heap.size <= k := by
 have HR : Hid (Rd .u8 w v ds) := hr
 have HY : Hid (By ds) := hy
 obtain ⟨L, hL1, _, _, hL4⟩ := zfa9 ds 65536 hn
 have hLs := zly9 hn h0 hL1
 have HLS : Hid (1 <= L.length /\ L.length <= ds.length) := ⟨hLs, hL4⟩
 have HLB : Hid (By L) := zuu9 hy hL1
 obtain ⟨sk1, sk2, _⟩ := znt9 ds hn
 have HSK : Hid (∀ x ∈ steps ds 65536, SqOk x) := sk1
 have HFR : Hid (findR ds 65536 = (0, steps ds 65536)) := by show _ = _; unfold findR; rw [if_neg (by omega)]; rfl
 have HLR : Hid (litR ds (steps ds 65536) = (0, L)) := hL1
 obtain ⟨s, hs⟩ : ∃ s, Hid (sumB (crc ds) = s) := ⟨_, rfl⟩
 have HSL : Hid (s.length <= 4) := by show _ <= _; rw [<- hs.out]; simp [sumB]
 have HPK : Hid (∀ lb, LitR L lb -> PackR ds (shr (best1 ds) ([2] ++ digits (ds.length : Int) ++ (lb ++ stpB (steps ds 65536))) ++ s)) := fun lb hlb => ⟨_, by rw [hs.out], .inr ⟨h0, _, ⟨L, lb, hL1, hL4, hlb, zhj9 hlb (by omega), rfl⟩, rfl⟩⟩
 have HRAW : Hid (rawB ds ++ s = [0] ++ digits (ds.length : Int) ++ ds ++ s) := rfl
 have HRUN : Hid (runB ds ++ s = [1] ++ digits (ds.length : Int) ++ [ds.getD 0 0] ++ s) := rfl
 have HBT : Hid (alike ds = true -> best1 ds = shr (rawB ds) (runB ds)) := fun h => by unfold best1; rw [if_pos h]
 have HBF : Hid (alike ds = false -> best1 ds = rawB ds) := fun h => by unfold best1; rw [if_neg (by rw [h]; decide)]
 have HBL : Hid ((best1 ds).length <= ds.length + 6) := zjx9 ds
 have HSB : Hid ((stpB (steps ds 65536)).length <= 2000000) := ztb9 sk1 sk2
 obtain ⟨ps, hps⟩ : ∃ ps, Hid (steps ds 65536 = ps) := ⟨_, rfl⟩
 rw [hps.out] at HSK HFR HLR HPK HSB sk2
 have HPS : Hid (ps.length <= 16384) := sk2
 have HF0 := zbn9 0 v v ds ds w hr hr hy (by omega) (by omega)
 have HT1 : Hid (ds.take 1 = [ds.getD 0 0]) := by
  show _ = _
  cases ds with
  | nil => simp at h0
  | cons x r => rfl
 obtain ⟨a, cap, rfl, hlc, hcm, hnil, hcc⟩ := hr
 obtain ⟨db, dO, rfl, hcell⟩ : ∃ b o, a = some ⟨b, o, none⟩ /\ ∀ i, i < ds.length -> w.cell? ⟨b, o + i, none⟩ = some (.int .u8 (ds.getD i 0)) := by
  rcases hcc with h | h
  ·rw [h] at h0; simp at h0
  ·exact h
 have HCELL : Hid (∀ i, i < ds.length -> w.cell? ⟨db, dO + i, none⟩ = some (.int .u8 (ds.getD i 0))) := hcell
 have HAE : Hid (alk ds ds.length = alike ds) := zaas9 h0
 obtain ⟨n, hq⟩ : ∃ n, ds.length = n := ⟨_, rfl⟩
 have HQ : Hid (ds.length = n) := hq
 rw [hs.out, hq] at HF0
 rw [hq] at h0 hn hlc HR HCELL HLS HPK HRAW HRUN HBL HAE ⊢
 have HF : Hid (Calls Tryz.prog 16 #[.int .u8 0, .slice (some ⟨db, dO, none⟩) n cap, .slice (some ⟨db, dO, none⟩) n cap] w fun e w' => ∃ v', e = .returned v' /\ Owns .u8 5 w' v' ([0] ++ digits (n : Int) ++ ds ++ s) /\ Below w.heap.size w w' /\ ∀ k, v'.ownBlock = some k -> w.heap.size <= k) := HF0
 have hcm2 : cap <= 9223372036854775807 := by unfold maxLen at hcm; omega
 clear hcc hnil hcell hq HF0 hy hL1 hLs hL4 sk1 sk2 hcm hps
 have hnb : ((n : Int) == 0) = false := by rw [beq_eq_false_iff_ne]; omega
 have hnl : ¬ (n : Int) > 65536 := by omega
 go_enter Tryz.func5, Tryz.ntmps5
 go_wp2_with fail
 refine HF.out.mono ?_
 clear HF
 rintro e w1 ⟨v1, rfl, ho1, hb1, hf1⟩
 rw [<- HRAW.out] at ho1
 have HWL : Hid ((rawB ds ++ s).length <= 66000) := by show _ <= _; rw [List.length_append]; have := zlv9 ds; have := HSL.out; have := HQ.out; omega
 obtain ⟨W, hW⟩ : ∃ W, Hid (rawB ds ++ s = W) := ⟨_, rfl⟩
 rw [hW.out] at ho1 HWL
 have O1 : Hid (Owns .u8 5 w1 v1 W) := ho1
 have B1 : Hid (Below w.heap.size w w1) := hb1
 have N1 : Hid (∀ k, v1.ownBlock = some k -> w.heap.size <= k) := hf1
 clear ho1 hb1 hf1
 go_wp2_with fail
 go_loopw [5, 6] (fun al i wr => ∃ (k : Nat) (b : Bool), k <= n /\ i = .int .i64 k /\ al = .bool b /\ Hid (alk ds k = b) /\ Hid (Below w1.heap.size w1 wr)) (fun _ i _ => n - (intOf i).toNat)
 case atStart => exact ⟨0, true, Nat.zero_le _, rfl, rfl, zxm9 ds, Below.refl _ _⟩
 case round =>
  obtain ⟨k, b, hk, rfl, rfl, HA, BC⟩ := hrel
  by_cases hlt : k < n
  ·have hki : (k : Int) < (n : Int) := by omega
   have BWR : Hid (Below w.heap.size w wr) := B1.out.trans (BC.out.mono B1.out.size)
   have ck : wr.cell? ⟨db, dO + k, none⟩ = some (.int .u8 (ds.getD k 0)) := by
    have h0 := HCELL.out k hlt
    rw [BWR.out.cell (p := ⟨db, dO + k, none⟩) (World.block_lt_of_cell? w ⟨db, dO + k, none⟩ h0), h0]
   have c0 : wr.cell? ⟨db, dO, none⟩ = some (.int .u8 (ds.getD 0 0)) := by
    have h0 := HCELL.out 0 (by omega)
    rw [Nat.add_zero] at h0
    rw [BWR.out.cell (p := ⟨db, dO, none⟩) (World.block_lt_of_cell? w ⟨db, dO, none⟩ h0), h0]
   obtain ⟨x, hx⟩ : ∃ x, Hid (ds.getD k 0 = x) := ⟨_, rfl⟩
   obtain ⟨y, hy⟩ : ∃ y, Hid (ds.getD 0 0 = y) := ⟨_, rfl⟩
   rw [hx.out] at ck
   rw [hy.out] at c0
   have HAN : Hid (alk ds (k + 1) = (b && (x == y))) := by show _ = _; rw [zwm9, HA.out, hx.out, hy.out]
   have hn0 : (0 : Int) < (n : Int) := by omega
   clear BWR
   cases b with
   | true =>
    by_cases hxy : (x == y) = true
    ·have HA2 : Hid (alk ds (k + 1) = true) := by show _ = _; rw [HAN.out, hxy]; rfl
     go_wp2_with fail
     go_quiet (fail)
     go_wp2_with fail
     go_roundw
     case rel => exact ⟨k + 1, true, by omega, by go_num, by first | rfl | (rw [hxy]; rfl), HA2, BC.out.trans (Below.of_drewN _ _ _)⟩
     case measure => simp [intOf]; omega
    ·have hxy2 : (x == y) = false := by simpa using hxy
     have HA2 : Hid (alk ds (k + 1) = false) := by show _ = _; rw [HAN.out, hxy2]; rfl
     go_wp2_with fail
     go_quiet (fail)
     go_wp2_with fail
     go_roundw
     case rel => exact ⟨k + 1, false, by omega, by go_num, by first | rfl | (rw [hxy2]; rfl), HA2, BC.out.trans (Below.of_drewN _ _ _)⟩
     case measure => simp [intOf]; omega
   | false =>
    have HA2 : Hid (alk ds (k + 1) = false) := by show _ = _; rw [HAN.out]; rfl
    go_wp2_with fail
    go_quiet (fail)
    go_wp2_with fail
    go_roundw
    case rel => exact ⟨k + 1, false, by omega, by go_num, rfl, HA2, BC.out.trans (Below.of_drewN _ _ _)⟩
    case measure => simp [intOf]; omega
  ·have hki : ¬ (k : Int) < (n : Int) := by omega
   have HAL : Hid (alike ds = b) := by show _ = _; rw [<- HAE.out, <- HA.out, show k = n by omega]
   have BW : Hid (Below w.heap.size w wr) := B1.out.trans (BC.out.mono B1.out.size)
   have O2 : Hid (Owns .u8 5 wr v1 W) := O1.out.below BC.out
   clear O1 BC HA
   cases b with
   | true =>
    have HBE := HBT.out HAL.out
    have RR : Hid (Rd .u8 wr (.slice (some ⟨db, dO, none⟩) n cap) ds) := HR.out.below BW.out
    go_wp2_with (with_reducible (show wpList _ _ _ (Oper.mk _ (Op.slice _ _ _ _ _) _ _ _ _ :: _) _ _); refine zbs9 sl8 _ wr rfl (.tmp 43) (.const (.int .i64 1)) rfl _ ds rfl RR.out 1 rfl (by have := HQ.out; omega) ?_)
    intro v2 hr2 _
    rw [HT1.out] at hr2
    have R2 : Hid (Rd .u8 wr v2 [ds.getD 0 0]) := hr2
    clear hr2
    have HF1 := zbn9 1 _ v2 ds [ds.getD 0 0] wr RR.out R2.out HY.out (by have := HQ.out; omega) (by simp)
    rw [hs.out, HQ.out, <- HRUN.out] at HF1
    have HF2 := hideP HF1
    clear HF1
    go_wp2_with fail
    refine HF2.out.mono ?_
    clear HF2
    rintro e w3 ⟨v3, rfl, ho3, hb3, hf3⟩
    obtain ⟨U, hU⟩ : ∃ U, Hid (runB ds ++ s = U) := ⟨_, rfl⟩
    rw [hU.out] at ho3
    have O3 : Hid (Owns .u8 5 w3 v3 U) := ho3
    have W3 : Hid (Owns .u8 5 w3 v1 W) := O2.out.below hb3
    have B3 : Hid (Below w.heap.size w w3) := BW.out.trans (hb3.mono BW.out.size)
    have N3 : Hid (∀ k, v3.ownBlock = some k -> w.heap.size <= k) := fun k hk => by have := hf3 k hk; have := BW.out.size; omega
    have HBS : Hid (best1 ds ++ s = if U.length < W.length then U else W) := by show _ = _; rw [HBE, zfd9, hU.out, hW.out]
    obtain ⟨ua, uc, rfl, _⟩ := O3.out.rd
    obtain ⟨wa, wc, rfl, _⟩ := W3.out.rd
    obtain ⟨ul, hul⟩ : ∃ ul, U.length = ul := ⟨_, rfl⟩
    obtain ⟨wl, hwl⟩ : ∃ wl, W.length = wl := ⟨_, rfl⟩
    have HUL : Hid (U.length = ul) := hul
    have HWE : Hid (W.length = wl) := hwl
    rw [hul, hwl] at HBS
    rw [hul] at O3 N3
    rw [hwl] at W3 N1
    rw [hul, hwl]
    have hwl2 : wl <= 66000 := by rw [<- hwl]; exact HWL.out
    have hul2 : ul <= 66000 := by
     rw [<- hul, <- hU.out, List.length_append]
     have := ze9 (n : Int)
     have := HSL.out
     unfold runB
     rw [HQ.out]
     simp
     omega
    clear ho3 hb3 hf3 hul hwl BW O2 HBE
    by_cases hsh : ul < wl
    ·have hshI : (ul : Int) < (wl : Int) := by omega
     have HB1 : Hid (best1 ds ++ s = U) := by show _ = _; rw [HBS.out, if_pos hsh]
     have RT : Hid (Rd .u8 w3 (.slice (some ⟨db, dO, none⟩) n cap) ds) := HR.out.below B3.out
     have H1 := zdn9 _ ds 65536 w3 RT.out HY.out
     rw [HFR.out] at H1
     have H1 := hideP H1
     go_wp2_with fail
     refine H1.out.mono ?_
     clear H1
     rintro e x1 ⟨sv, rfl, hb1, hf1, ho1⟩
     have S1 : Hid (OwnsS x1 sv ps) := ho1
     have BB1 : Hid (Below w3.heap.size w3 x1) := hb1
     have RT1 : Hid (Rd .u8 x1 (.slice (some ⟨db, dO, none⟩) n cap) ds) := RT.out.below hb1
     clear hb1 hf1 ho1 RT
     have H2 := zbh9 _ sv ds ps x1 RT1.out (by have := HQ.out; omega) S1.out.rd (by have := HPS.out; omega)
     rw [HLR.out] at H2
     have H2 := hideP H2
     go_wp2_with fail
     refine H2.out.mono ?_
     clear H2
     rintro e x2 ⟨lv, rfl, hb2, hf2, ho2⟩
     have L2 : Hid (Owns .u8 5 x2 lv L) := ho2
     have S2 : Hid (OwnsS x2 sv ps) := S1.out.below hb2
     have BB2 : Hid (Below w3.heap.size w3 x2) := BB1.out.trans (hb2.mono BB1.out.size)
     clear hb2 hf2 ho2 S1 BB1 RT1
     go_wp2_with fail
     refine (zdh9 lv L x2 L2.out.rd HLB.out HLS.out.1 (by have := HLS.out.2; omega)).mono ?_
     rintro e x3 ⟨v3, lb, rfl, hlr, ho3, hb3, hf3⟩
     have HLB2 : Hid (LitR L lb) := hlr
     have HLL : Hid (lb.length <= 70000) := zhj9 hlr (by have := HLS.out.2; omega)
     have P3 : Hid (Owns .u8 5 x3 v3 lb) := ho3
     have S3 : Hid (OwnsS x3 sv ps) := S2.out.below hb3
     have BB3 : Hid (Below w3.heap.size w3 x3) := BB2.out.trans (hb3.mono BB2.out.size)
     clear hlr ho3 hb3 hf3 S2 BB2 L2
     go_wp2_with (at_builtin; refine zb9 x3 rfl (.tmp 63) (.tmp 65) 22 rfl 5 .u8 1 elem8 (.slice none 0 0) [] rfl (zf9 _ _ _) v3 lb rfl P3.out.rd (by have := HLL.out; simp; omega) (by have := HLL.out; simp; omega) ?_)
     intro v4 x4 ho4 hg4
     have P4 : Hid (Owns .u8 5 x4 v4 lb) := ho4
     have S4 : Hid (OwnsS x4 sv ps) := S3.out.below hg4.below.1
     have BB4 : Hid (Below w3.heap.size w3 x4) := BB3.out.trans (hg4.below.1.mono BB3.out.size)
     have N4 : Hid (∀ k, v4.ownBlock = some k -> w3.heap.size <= k) := fun k hk => by have := hg4.below.2 k hk; have := BB3.out.size; omega
     clear ho4 hg4 S3 BB3 P3
     go_wp2_with fail
     refine (zco9 sv ps x4 S4.out.rd HSK.out HPS.out).mono ?_
     rintro e x5 ⟨v5, rfl, ho5, hb5, hf5⟩
     obtain ⟨T, hT⟩ : ∃ T, Hid (stpB ps = T) := ⟨_, rfl⟩
     rw [hT.out] at ho5 HSB HPK
     have P5 : Hid (Owns .u8 5 x5 v4 lb) := P4.out.below hb5
     have T5 : Hid (Owns .u8 5 x5 v5 T) := ho5
     have BB5 : Hid (Below w3.heap.size w3 x5) := BB4.out.trans (hb5.mono BB4.out.size)
     clear ho5 hb5 hf5 S4 BB4 P4
     go_wp2_with (at_builtin; refine zb9 x5 rfl (.tmp 67) (.tmp 69) 22 rfl 5 .u8 1 elem8 v4 lb rfl P5.out v5 T rfl T5.out.rd (by have := HLL.out; have := HSB.out; omega) (by have := HLL.out; have := HSB.out; omega) ?_)
     intro v6 x6 ho6 hg6
     have h6 := hg6.onto BB5.out N4.out
     have HBN : Hid ((lb ++ T).length <= 3000000) := by show _ <= _; rw [List.length_append]; have := HLL.out; have := HSB.out; omega
     have HPK2 := HPK.out lb HLB2.out
     obtain ⟨Z, hZ⟩ : ∃ Z : List Int, lb ++ T = Z := ⟨_, rfl⟩
     rw [hZ] at ho6 HBN HPK2
     have P6 : Hid (Owns .u8 5 x6 v6 Z) := ho6
     have BB6 : Hid (Below w3.heap.size w3 x6) := h6.1
     have RT6 : Hid (Rd .u8 x6 (.slice (some ⟨db, dO, none⟩) n cap) ds) := HR.out.below (B3.out.trans (BB6.out.mono B3.out.size))
     have HF3 := zbn9 2 _ v6 ds Z x6 RT6.out P6.out.rd HY.out (by have := HQ.out; omega) (by have := HBN.out; omega)
     rw [hs.out, HQ.out] at HF3
     have HF3 := hideP HF3
     have HPK3 : Hid (PackR ds (shr (best1 ds) ([2] ++ digits (n : Int) ++ Z) ++ s)) := HPK2
     clear ho6 hg6 h6 hZ P5 T5 BB5 N4 HPK2 HPK
     go_wp2_with fail
     refine HF3.out.mono ?_
     clear HF3
     rintro e x7 ⟨v7, rfl, ho7, hb7, hf7⟩
     obtain ⟨X, hX⟩ : ∃ X : List Int, [2] ++ digits (n : Int) ++ Z ++ s = X := ⟨_, rfl⟩
     have HX : Hid ([2] ++ digits (n : Int) ++ Z ++ s = X) := hX
     rw [hX] at ho7
     have P7 : Hid (Owns .u8 5 x7 v7 X) := ho7
     have BB7 : Hid (Below w3.heap.size w3 x7) := BB6.out.trans (hb7.mono BB6.out.size)
     have BW7 : Hid (Below w.heap.size w x7) := B3.out.trans (BB7.out.mono B3.out.size)
     have N7 : Hid (∀ k, v7.ownBlock = some k -> w.heap.size <= k) := fun k hk => by have := hf7 k hk; have := BB6.out.size; have := B3.out.size; omega
     have Q7 : Hid (Owns .u8 5 x7 (.slice ua ul uc) U) := O3.out.below BB7.out
     have HXB : Hid (X.length <= 3100000) := by
      show _ <= _
      rw [<- hX]
      have := ze9 (n : Int)
      have := HBN.out
      have := HSL.out
      simp
      omega
     obtain ⟨xa, xc, rfl, _⟩ := P7.out.rd
     obtain ⟨xl, hxl⟩ : ∃ xl, X.length = xl := ⟨_, rfl⟩
     have HXL : Hid (X.length = xl) := hxl
     have hxl2 : xl <= 3100000 := by rw [<- hxl]; exact HXB.out
     rw [hxl] at P7 N7
     rw [hxl]
     clear ho7 hb7 hf7 hX hxl P6 BB6 RT6
     by_cases hsx : xl < ul
     ·have hsxI : (xl : Int) < (ul : Int) := by omega
      have HFIN : Hid (PackR ds X) := by
       have h := HPK3.out
       rw [zfd9, HX.out, HB1.out, HXL.out, HUL.out, if_pos hsx] at h
       exact h
      go_wp2_with fail
      go_ret2
      exact ⟨_, X, rfl, HFIN.out, P7.out, BW7.out, N7.out⟩
     ·have hsxI : ¬ (xl : Int) < (ul : Int) := by omega
      have HFIN : Hid (PackR ds U) := by
       have h := HPK3.out
       rw [zfd9, HX.out, HB1.out, HXL.out, HUL.out, if_neg hsx] at h
       exact h
      go_wp2_with fail
      go_ret2
      exact ⟨_, U, rfl, HFIN.out, Q7.out, BW7.out, N3.out⟩
    ·have hshI : ¬ (ul : Int) < (wl : Int) := by omega
     have HB1 : Hid (best1 ds ++ s = W) := by show _ = _; rw [HBS.out, if_neg hsh]
     have RT : Hid (Rd .u8 w3 (.slice (some ⟨db, dO, none⟩) n cap) ds) := HR.out.below B3.out
     have H1 := zdn9 _ ds 65536 w3 RT.out HY.out
     rw [HFR.out] at H1
     have H1 := hideP H1
     go_wp2_with fail
     refine H1.out.mono ?_
     clear H1
     rintro e x1 ⟨sv, rfl, hb1, hf1, ho1⟩
     have S1 : Hid (OwnsS x1 sv ps) := ho1
     have BB1 : Hid (Below w3.heap.size w3 x1) := hb1
     have RT1 : Hid (Rd .u8 x1 (.slice (some ⟨db, dO, none⟩) n cap) ds) := RT.out.below hb1
     clear hb1 hf1 ho1 RT
     have H2 := zbh9 _ sv ds ps x1 RT1.out (by have := HQ.out; omega) S1.out.rd (by have := HPS.out; omega)
     rw [HLR.out] at H2
     have H2 := hideP H2
     go_wp2_with fail
     refine H2.out.mono ?_
     clear H2
     rintro e x2 ⟨lv, rfl, hb2, hf2, ho2⟩
     have L2 : Hid (Owns .u8 5 x2 lv L) := ho2
     have S2 : Hid (OwnsS x2 sv ps) := S1.out.below hb2
     have BB2 : Hid (Below w3.heap.size w3 x2) := BB1.out.trans (hb2.mono BB1.out.size)
     clear hb2 hf2 ho2 S1 BB1 RT1
     go_wp2_with fail
     refine (zdh9 lv L x2 L2.out.rd HLB.out HLS.out.1 (by have := HLS.out.2; omega)).mono ?_
     rintro e x3 ⟨v3, lb, rfl, hlr, ho3, hb3, hf3⟩
     have HLB2 : Hid (LitR L lb) := hlr
     have HLL : Hid (lb.length <= 70000) := zhj9 hlr (by have := HLS.out.2; omega)
     have P3 : Hid (Owns .u8 5 x3 v3 lb) := ho3
     have S3 : Hid (OwnsS x3 sv ps) := S2.out.below hb3
     have BB3 : Hid (Below w3.heap.size w3 x3) := BB2.out.trans (hb3.mono BB2.out.size)
     clear hlr ho3 hb3 hf3 S2 BB2 L2
     go_wp2_with (at_builtin; refine zb9 x3 rfl (.tmp 63) (.tmp 65) 22 rfl 5 .u8 1 elem8 (.slice none 0 0) [] rfl (zf9 _ _ _) v3 lb rfl P3.out.rd (by have := HLL.out; simp; omega) (by have := HLL.out; simp; omega) ?_)
     intro v4 x4 ho4 hg4
     have P4 : Hid (Owns .u8 5 x4 v4 lb) := ho4
     have S4 : Hid (OwnsS x4 sv ps) := S3.out.below hg4.below.1
     have BB4 : Hid (Below w3.heap.size w3 x4) := BB3.out.trans (hg4.below.1.mono BB3.out.size)
     have N4 : Hid (∀ k, v4.ownBlock = some k -> w3.heap.size <= k) := fun k hk => by have := hg4.below.2 k hk; have := BB3.out.size; omega
     clear ho4 hg4 S3 BB3 P3
     go_wp2_with fail
     refine (zco9 sv ps x4 S4.out.rd HSK.out HPS.out).mono ?_
     rintro e x5 ⟨v5, rfl, ho5, hb5, hf5⟩
     obtain ⟨T, hT⟩ : ∃ T, Hid (stpB ps = T) := ⟨_, rfl⟩
     rw [hT.out] at ho5 HSB HPK
     have P5 : Hid (Owns .u8 5 x5 v4 lb) := P4.out.below hb5
     have T5 : Hid (Owns .u8 5 x5 v5 T) := ho5
     have BB5 : Hid (Below w3.heap.size w3 x5) := BB4.out.trans (hb5.mono BB4.out.size)
     clear ho5 hb5 hf5 S4 BB4 P4
     go_wp2_with (at_builtin; refine zb9 x5 rfl (.tmp 67) (.tmp 69) 22 rfl 5 .u8 1 elem8 v4 lb rfl P5.out v5 T rfl T5.out.rd (by have := HLL.out; have := HSB.out; omega) (by have := HLL.out; have := HSB.out; omega) ?_)
     intro v6 x6 ho6 hg6
     have h6 := hg6.onto BB5.out N4.out
     have HBN : Hid ((lb ++ T).length <= 3000000) := by show _ <= _; rw [List.length_append]; have := HLL.out; have := HSB.out; omega
     have HPK2 := HPK.out lb HLB2.out
     obtain ⟨Z, hZ⟩ : ∃ Z : List Int, lb ++ T = Z := ⟨_, rfl⟩
     rw [hZ] at ho6 HBN HPK2
     have P6 : Hid (Owns .u8 5 x6 v6 Z) := ho6
     have BB6 : Hid (Below w3.heap.size w3 x6) := h6.1
     have RT6 : Hid (Rd .u8 x6 (.slice (some ⟨db, dO, none⟩) n cap) ds) := HR.out.below (B3.out.trans (BB6.out.mono B3.out.size))
     have HF3 := zbn9 2 _ v6 ds Z x6 RT6.out P6.out.rd HY.out (by have := HQ.out; omega) (by have := HBN.out; omega)
     rw [hs.out, HQ.out] at HF3
     have HF3 := hideP HF3
     have HPK3 : Hid (PackR ds (shr (best1 ds) ([2] ++ digits (n : Int) ++ Z) ++ s)) := HPK2
     clear ho6 hg6 h6 hZ P5 T5 BB5 N4 HPK2 HPK
     go_wp2_with fail
     refine HF3.out.mono ?_
     clear HF3
     rintro e x7 ⟨v7, rfl, ho7, hb7, hf7⟩
     obtain ⟨X, hX⟩ : ∃ X : List Int, [2] ++ digits (n : Int) ++ Z ++ s = X := ⟨_, rfl⟩
     have HX : Hid ([2] ++ digits (n : Int) ++ Z ++ s = X) := hX
     rw [hX] at ho7
     have P7 : Hid (Owns .u8 5 x7 v7 X) := ho7
     have BB7 : Hid (Below w3.heap.size w3 x7) := BB6.out.trans (hb7.mono BB6.out.size)
     have BW7 : Hid (Below w.heap.size w x7) := B3.out.trans (BB7.out.mono B3.out.size)
     have N7 : Hid (∀ k, v7.ownBlock = some k -> w.heap.size <= k) := fun k hk => by have := hf7 k hk; have := BB6.out.size; have := B3.out.size; omega
     have Q7 : Hid (Owns .u8 5 x7 (.slice wa wl wc) W) := W3.out.below BB7.out
     have HXB : Hid (X.length <= 3100000) := by
      show _ <= _
      rw [<- hX]
      have := ze9 (n : Int)
      have := HBN.out
      have := HSL.out
      simp
      omega
     obtain ⟨xa, xc, rfl, _⟩ := P7.out.rd
     obtain ⟨xl, hxl⟩ : ∃ xl, X.length = xl := ⟨_, rfl⟩
     have HXL : Hid (X.length = xl) := hxl
     have hxl2 : xl <= 3100000 := by rw [<- hxl]; exact HXB.out
     rw [hxl] at P7 N7
     rw [hxl]
     clear ho7 hb7 hf7 hX hxl P6 BB6 RT6
     by_cases hsx : xl < wl
     ·have hsxI : (xl : Int) < (wl : Int) := by omega
      have HFIN : Hid (PackR ds X) := by
       have h := HPK3.out
       rw [zfd9, HX.out, HB1.out, HXL.out, HWE.out, if_pos hsx] at h
       exact h
      go_wp2_with fail
      go_ret2
      exact ⟨_, X, rfl, HFIN.out, P7.out, BW7.out, N7.out⟩
     ·have hsxI : ¬ (xl : Int) < (wl : Int) := by omega
      have HFIN : Hid (PackR ds W) := by
       have h := HPK3.out
       rw [zfd9, HX.out, HB1.out, HXL.out, HWE.out, if_neg hsx] at h
       exact h
      go_wp2_with fail
      go_ret2
      exact ⟨_, W, rfl, HFIN.out, Q7.out, BW7.out, N1.out⟩
   | false =>
    have HB1 : Hid (best1 ds ++ s = W) := by show _ = _; rw [HBF.out HAL.out, hW.out]
    obtain ⟨wa, wc, rfl, _⟩ := O2.out.rd
    obtain ⟨wl, hwl⟩ : ∃ wl, W.length = wl := ⟨_, rfl⟩
    have HWE : Hid (W.length = wl) := hwl
    have hwl2 : wl <= 66000 := by rw [<- hwl]; exact HWL.out
    rw [hwl] at O2 N1
    rw [hwl]
    clear hwl
    have RT : Hid (Rd .u8 wr (.slice (some ⟨db, dO, none⟩) n cap) ds) := HR.out.below BW.out
    have H1 := zdn9 _ ds 65536 wr RT.out HY.out
    rw [HFR.out] at H1
    have H1 := hideP H1
    go_wp2_with fail
    refine H1.out.mono ?_
    clear H1
    rintro e x1 ⟨sv, rfl, hb1, hf1, ho1⟩
    have S1 : Hid (OwnsS x1 sv ps) := ho1
    have BB1 : Hid (Below wr.heap.size wr x1) := hb1
    have RT1 : Hid (Rd .u8 x1 (.slice (some ⟨db, dO, none⟩) n cap) ds) := RT.out.below hb1
    clear hb1 hf1 ho1 RT
    have H2 := zbh9 _ sv ds ps x1 RT1.out (by have := HQ.out; omega) S1.out.rd (by have := HPS.out; omega)
    rw [HLR.out] at H2
    have H2 := hideP H2
    go_wp2_with fail
    refine H2.out.mono ?_
    clear H2
    rintro e x2 ⟨lv, rfl, hb2, hf2, ho2⟩
    have L2 : Hid (Owns .u8 5 x2 lv L) := ho2
    have S2 : Hid (OwnsS x2 sv ps) := S1.out.below hb2
    have BB2 : Hid (Below wr.heap.size wr x2) := BB1.out.trans (hb2.mono BB1.out.size)
    clear hb2 hf2 ho2 S1 BB1 RT1
    go_wp2_with fail
    refine (zdh9 lv L x2 L2.out.rd HLB.out HLS.out.1 (by have := HLS.out.2; omega)).mono ?_
    rintro e x3 ⟨v3, lb, rfl, hlr, ho3, hb3, hf3⟩
    have HLB2 : Hid (LitR L lb) := hlr
    have HLL : Hid (lb.length <= 70000) := zhj9 hlr (by have := HLS.out.2; omega)
    have P3 : Hid (Owns .u8 5 x3 v3 lb) := ho3
    have S3 : Hid (OwnsS x3 sv ps) := S2.out.below hb3
    have BB3 : Hid (Below wr.heap.size wr x3) := BB2.out.trans (hb3.mono BB2.out.size)
    clear hlr ho3 hb3 hf3 S2 BB2 L2
    go_wp2_with (at_builtin; refine zb9 x3 rfl (.tmp 63) (.tmp 65) 22 rfl 5 .u8 1 elem8 (.slice none 0 0) [] rfl (zf9 _ _ _) v3 lb rfl P3.out.rd (by have := HLL.out; simp; omega) (by have := HLL.out; simp; omega) ?_)
    intro v4 x4 ho4 hg4
    have P4 : Hid (Owns .u8 5 x4 v4 lb) := ho4
    have S4 : Hid (OwnsS x4 sv ps) := S3.out.below hg4.below.1
    have BB4 : Hid (Below wr.heap.size wr x4) := BB3.out.trans (hg4.below.1.mono BB3.out.size)
    have N4 : Hid (∀ k, v4.ownBlock = some k -> wr.heap.size <= k) := fun k hk => by have := hg4.below.2 k hk; have := BB3.out.size; omega
    clear ho4 hg4 S3 BB3 P3
    go_wp2_with fail
    refine (zco9 sv ps x4 S4.out.rd HSK.out HPS.out).mono ?_
    rintro e x5 ⟨v5, rfl, ho5, hb5, hf5⟩
    obtain ⟨T, hT⟩ : ∃ T, Hid (stpB ps = T) := ⟨_, rfl⟩
    rw [hT.out] at ho5 HSB HPK
    have P5 : Hid (Owns .u8 5 x5 v4 lb) := P4.out.below hb5
    have T5 : Hid (Owns .u8 5 x5 v5 T) := ho5
    have BB5 : Hid (Below wr.heap.size wr x5) := BB4.out.trans (hb5.mono BB4.out.size)
    clear ho5 hb5 hf5 S4 BB4 P4
    go_wp2_with (at_builtin; refine zb9 x5 rfl (.tmp 67) (.tmp 69) 22 rfl 5 .u8 1 elem8 v4 lb rfl P5.out v5 T rfl T5.out.rd (by have := HLL.out; have := HSB.out; omega) (by have := HLL.out; have := HSB.out; omega) ?_)
    intro v6 x6 ho6 hg6
    have h6 := hg6.onto BB5.out N4.out
    have HBN : Hid ((lb ++ T).length <= 3000000) := by show _ <= _; rw [List.length_append]; have := HLL.out; have := HSB.out; omega
    have HPK2 := HPK.out lb HLB2.out
    obtain ⟨Z, hZ⟩ : ∃ Z : List Int, lb ++ T = Z := ⟨_, rfl⟩
    rw [hZ] at ho6 HBN HPK2
    have P6 : Hid (Owns .u8 5 x6 v6 Z) := ho6
    have BB6 : Hid (Below wr.heap.size wr x6) := h6.1
    have RT6 : Hid (Rd .u8 x6 (.slice (some ⟨db, dO, none⟩) n cap) ds) := HR.out.below (BW.out.trans (BB6.out.mono BW.out.size))
    have HF3 := zbn9 2 _ v6 ds Z x6 RT6.out P6.out.rd HY.out (by have := HQ.out; omega) (by have := HBN.out; omega)
    rw [hs.out, HQ.out] at HF3
    have HF3 := hideP HF3
    have HPK3 : Hid (PackR ds (shr (best1 ds) ([2] ++ digits (n : Int) ++ Z) ++ s)) := HPK2
    clear ho6 hg6 h6 hZ P5 T5 BB5 N4 HPK2 HPK
    go_wp2_with fail
    refine HF3.out.mono ?_
    clear HF3
    rintro e x7 ⟨v7, rfl, ho7, hb7, hf7⟩
    obtain ⟨X, hX⟩ : ∃ X : List Int, [2] ++ digits (n : Int) ++ Z ++ s = X := ⟨_, rfl⟩
    have HX : Hid ([2] ++ digits (n : Int) ++ Z ++ s = X) := hX
    rw [hX] at ho7
    have P7 : Hid (Owns .u8 5 x7 v7 X) := ho7
    have BB7 : Hid (Below wr.heap.size wr x7) := BB6.out.trans (hb7.mono BB6.out.size)
    have BW7 : Hid (Below w.heap.size w x7) := BW.out.trans (BB7.out.mono BW.out.size)
    have N7 : Hid (∀ k, v7.ownBlock = some k -> w.heap.size <= k) := fun k hk => by have := hf7 k hk; have := BB6.out.size; have := BW.out.size; omega
    have Q7 : Hid (Owns .u8 5 x7 (.slice wa wl wc) W) := O2.out.below BB7.out
    have HXB : Hid (X.length <= 3100000) := by
     show _ <= _
     rw [<- hX]
     have := ze9 (n : Int)
     have := HBN.out
     have := HSL.out
     simp
     omega
    obtain ⟨xa, xc, rfl, _⟩ := P7.out.rd
    obtain ⟨xl, hxl⟩ : ∃ xl, X.length = xl := ⟨_, rfl⟩
    have HXL : Hid (X.length = xl) := hxl
    have hxl2 : xl <= 3100000 := by rw [<- hxl]; exact HXB.out
    rw [hxl] at P7 N7
    rw [hxl]
    clear ho7 hb7 hf7 hX hxl P6 BB6 RT6
    by_cases hsx : xl < wl
    ·have hsxI : (xl : Int) < (wl : Int) := by omega
     have HFIN : Hid (PackR ds X) := by
      have h := HPK3.out
      rw [zfd9, HX.out, HB1.out, HXL.out, HWE.out, if_pos hsx] at h
      exact h
     go_wp2_with fail
     go_ret2
     exact ⟨_, X, rfl, HFIN.out, P7.out, BW7.out, N7.out⟩
    ·have hsxI : ¬ (xl : Int) < (wl : Int) := by omega
     have HFIN : Hid (PackR ds W) := by
      have h := HPK3.out
      rw [zfd9, HX.out, HB1.out, HXL.out, HWE.out, if_neg hsx] at h
      exact h
     go_wp2_with fail
     go_ret2
     exact ⟨_, W, rfl, HFIN.out, Q7.out, BW7.out, N1.out⟩
end Go.Proofs.YtobenjkacpipeaaGreat
