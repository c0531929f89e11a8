import Derived.Test.YtobenjkacpipeaaGreatPFFill
import Derived.Test.YtobenjkacpipeaaGreatPFArr
import Derived.Test.YtobenjkacpipeaaGreatPFRefMay
import Derived.Test.YtobenjkacpipeaaGreatPRefPutNum
import Derived.Test.YtobenjkacpipeaaGreatPFEnc2
set_option maxRecDepth 100000
set_option linter.unusedVariables false
set_option linter.unusedSimpArgs false
set_option maxHeartbeats 8000000
namespace Go.Proofs.YtobenjkacpipeaaGreat
open Go.RowKit Pl
theorem zcj9 (b o cap : Nat) (xs : List Int) (w : World) (h0 : 0 < xs.length) (h1 : xs.length <= 64)
  (hc : ∀ i, i < xs.length -> w.cell? ⟨b, o + i, none⟩ = some (.int .i64 (xs.getD i 0))) :
  Calls Tryz.prog 63 #[.slice (some ⟨b, o, none⟩) xs.length cap] w fun e w' => e = .returned (.int .i64 (fgF xs xs.length)) /\ Below w.heap.size w w' := by
 have HC : Hid (∀ i, i < xs.length -> w.cell? ⟨b, o + i, none⟩ = some (.int .i64 (xs.getD i 0))) := hc
 clear hc
 obtain ⟨R, hR⟩ : ∃ R, Hid (fgF xs xs.length = R) := ⟨_, rfl⟩
 rw [hR.out]
 go_enter Tryz.func63, Tryz.ntmps63
 go_wp2_with fail
 go_loopw [3, 4] (fun t i wr => ∃ k f : Nat, k <= xs.length /\ i = .int .i64 k /\ t = .int .i64 f /\ f < xs.length /\ Hid (fgF xs k = f) /\ Hid (Below w.heap.size w wr)) (fun _ i _ => xs.length - (intOf i).toNat)
 case atStart => exact ⟨1, 0, h0, rfl, rfl, h0, by show _ = _; simp [fgF], Below.refl _ _⟩
 case round =>
  obtain ⟨k, f, hk, rfl, rfl, hf, hI, HB⟩ := hrel
  by_cases hlt : k < xs.length
  ·obtain ⟨x, hxe⟩ : ∃ x, Hid (xs.getD k 0 = x) := ⟨_, rfl⟩
   obtain ⟨y, hye⟩ : ∃ y, Hid (xs.getD f 0 = y) := ⟨_, rfl⟩
   have cx : wr.cell? ⟨b, o + k, none⟩ = some (.int .i64 x) := by
    have h := HC.out k hlt
    rw [HB.out.cell (p := ⟨b, o + k, none⟩) (World.block_lt_of_cell? w ⟨b, o + k, none⟩ h), h, hxe.out]
   have cy : wr.cell? ⟨b, o + f, none⟩ = some (.int .i64 y) := by
    have h := HC.out f hf
    rw [HB.out.cell (p := ⟨b, o + f, none⟩) (World.block_lt_of_cell? w ⟨b, o + f, none⟩ h), h, hye.out]
   by_cases hxy : y < x
   ·have HI : Hid (fgF xs (k + 1) = k) := by show _ = _; simp only [fgF]; rw [hI.out, hxe.out, hye.out, if_pos hxy]
    go_wp2_with fail
    go_quiet (fail)
    go_wp2_with fail
    go_roundw
    case rel => exact ⟨k + 1, k, by omega, by go_num, rfl, hlt, HI, HB.out.trans (Below.of_drewN _ _ _)⟩
    case measure => simp [intOf]; omega
   ·have HI : Hid (fgF xs (k + 1) = f) := by show _ = _; simp only [fgF]; rw [hI.out, hxe.out, hye.out, if_neg hxy]
    go_wp2_with fail
    go_quiet (fail)
    go_wp2_with fail
    go_roundw
    case rel => exact ⟨k + 1, f, by omega, by go_num, rfl, hf, HI, HB.out.trans (Below.of_drewN _ _ _)⟩
    case measure => simp [intOf]; omega
  ·obtain rfl : k = xs.length := by omega
   have HE : Hid (f = R) := by show f = R; rw [<- hI.out, hR.out]
   go_wp2_with fail
   go_ret
   exact ⟨by rw [HE.out]; rfl, HB.out⟩
def lpF (c : List Int) : Nat -> Nat
 | 0 => 0
 | k + 1 => if 0 < c.getD k 0 then k + 1 else lpF c k
theorem lp_por {c : List Int} (z all : Int) (h : ∀ i, 0 <= c.getD i 0) : ∀ k, (por c z all k).length = lpF c k
 | 0 => rfl
 | k + 1 => by
  have h0 := h k
  simp only [por, lpF]
  by_cases e : c.getD k 0 = 0
  ·rw [if_pos e, if_neg (by omega)]; exact lp_por z all h k
  ·rw [if_neg e, if_pos (by omega)]
   have := ziw9 c z all k
   simp
   omega
def qs (ps : List Int) : Nat -> List Int
 | 0 => List.replicate ps.length 0
 | k + 1 => (qs ps k).set k (ps.getD k 0)
theorem zba9 (ps : List Int) (k : Nat) : (qs ps k).length = ps.length := by
 induction k with
 | zero => simp [qs]
 | succ k ih => simp only [qs, List.length_set, ih]
theorem rep0 (n i : Nat) : (List.replicate n (0 : Int)).getD i 0 = 0 := by
 rw [List.getD_eq_getElem?_getD, List.getElem?_replicate]
 split <;> rfl
theorem zlg9 (ps : List Int) : ∀ k, k <= ps.length -> ∀ i, (qs ps k).getD i 0 = if i < k then ps.getD i 0 else 0
 | 0, _, i => by simp only [qs]; rw [rep0, if_neg (by omega)]
 | k + 1, hk, i => by
  simp only [qs]
  rw [gset _ _ _ _ (by rw [zba9]; omega), zlg9 ps k (by omega) i]
  by_cases e : i = k
  ·subst e; rw [if_pos rfl, if_pos (by omega)]
  ·rw [if_neg e]
   by_cases e2 : i < k
   ·rw [if_pos e2, if_pos (by omega)]
   ·rw [if_neg e2, if_neg (by omega)]
theorem qs_all (ps : List Int) : qs ps ps.length = ps := by
 refine zg9 (zba9 _ _) fun i hi => ?_
 rw [zba9] at hi
 rw [zlg9 ps _ (Nat.le_refl _), if_pos hi]
theorem zaax9 (ps : List Int) (k : Nat) (hk : k < ps.length) (h : ps.getD k 0 = 0) : qs ps (k + 1) = qs ps k := by
 refine zg9 (by rw [zba9, zba9]) fun i hi => ?_
 rw [zlg9 _ _ (by omega), zlg9 _ _ (by omega)]
 by_cases e : i = k
 ·subst e; rw [if_pos (by omega), if_neg (by omega), h]
 ·by_cases e2 : i < k
  ·rw [if_pos (by omega), if_pos e2]
  ·rw [if_neg (by omega), if_neg e2]
set_option maxRecDepth 100000 in
theorem zky9 (v : Value) (c : List Int) (log : Int) (w : World) (h : Rd .i64 w v c) :
  Calls Tryz.prog 38 #[v, .int .i64 log] w fun e w' => DPostF (shR c log) w e w' := by
 obtain ⟨a1, p1, e1, _, _, _, q1⟩ := h
 subst e1
 have C1 : Hid (c = [] ∨ ∃ b o, a1 = some ⟨b, o, none⟩ /\ ∀ i, i < c.length -> w.cell? ⟨b, o + i, none⟩ = some (.int .i64 (c.getD i 0))) := q1
 clear q1
 obtain ⟨R, hR⟩ : ∃ R, Hid (shR c log = R) := ⟨_, rfl⟩
 have HBAD : Hid (mayCF c log = false -> R = (1, [])) := fun hm => by rw [<- hR.out]; unfold shR; rw [if_pos hm]
 rw [hR.out]
 by_cases h1 : log < 5
 ·have HE : Hid (R = (1, [])) := HBAD.out (by unfold mayCF; exact decide_eq_false (fun h => by omega))
  go_enter Tryz.func38, Tryz.ntmps38
  go_wp2_with fail
  go_ret2
  rw [HE.out]
  exact DPostF.bad (Below.refl _ _)
 have g1 : decide (log < 5) = false := by rw [decide_eq_false_iff_not]; exact h1
 by_cases h2 : 9 < log
 ·have HE : Hid (R = (1, [])) := HBAD.out (by unfold mayCF; exact decide_eq_false (fun h => by omega))
  go_enter Tryz.func38, Tryz.ntmps38
  go_wp2_with fail
  go_ret2
  rw [HE.out]
  exact DPostF.bad (Below.refl _ _)
 have g2 : decide (9 < log) = false := by rw [decide_eq_false_iff_not]; exact h2
 obtain ⟨lg, rfl⟩ := Int.eq_ofNat_of_zero_le (show 0 <= log by omega)
 by_cases h3 : 64 < c.length
 ·have HE : Hid (R = (1, [])) := HBAD.out (by unfold mayCF; exact decide_eq_false (fun h => by omega))
  have h3' : (64 : Int) < (c.length : Int) := by omega
  go_enter Tryz.func38, Tryz.ntmps38
  go_wp2_with fail
  go_ret2
  rw [HE.out]
  exact DPostF.bad (Below.refl _ _)
 have g3 : decide (64 < (c.length : Int)) = false := by rw [decide_eq_false_iff_not]; omega
 have hl64 : c.length <= 64 := by omega
 have h5 : 5 <= lg := by omega
 have h9 : lg <= 9 := by omega
 obtain ⟨z, hz, hz1, hz2, hw, hpz⟩ := pow_z h5 h9
 have HPZ : Hid ((2 : Int) ^ lg = (z : Int)) := hpz
 clear h1 h2 h3 hpz
 go_enter Tryz.func38, Tryz.ntmps38
 go_wp2_with fail
 go_loop [7, 8, 9, 10] (fun t u l i => ∃ (k n q : Nat) (r : Int), k <= c.length /\ i = .int .i64 k /\ t = .int .i64 r /\ u = .int .i64 n /\ l = .int .i64 ((q : Int) - 1) /\ 0 <= r /\ r <= 274877906880 /\ n <= 64 /\ q <= 64 /\ Hid (cumI c k = r /\ std c k = n /\ lpF c k = q /\ ∀ j, j < k -> 0 <= c.getD j 0 /\ c.getD j 0 <= 4294967295)) (fun _ _ _ i => c.length - (intOf i).toNat)
 case atStart => exact ⟨0, 0, 0, 0, Nat.zero_le _, rfl, rfl, rfl, rfl, by omega, by omega, by omega, by omega, rfl, rfl, rfl, fun j hj => by omega⟩
 case round =>
  obtain ⟨k, n, q, r, hk, rfl, rfl, rfl, rfl, hr0, hr1, hn, hq, hI⟩ := hrel
  by_cases hlt : k < c.length
  ·obtain ⟨b, o, ha, hc⟩ : ∃ b o, a1 = some ⟨b, o, none⟩ /\ ∀ i, i < c.length -> w.cell? ⟨b, o + i, none⟩ = some (.int .i64 (c.getD i 0)) := by
    rcases C1.out with rfl | h
    ·simp at hlt
    ·exact h
   subst ha
   obtain ⟨x, hx⟩ : ∃ x, Hid (c.getD k 0 = x) := ⟨_, rfl⟩
   have cx : w.cell? ⟨b, o + k, none⟩ = some (.int .i64 x) := by rw [hc k hlt, hx.out]
   clear hc
   by_cases hb1 : x < 0
   ·have HE : Hid (R = (1, [])) := HBAD.out (by unfold mayCF; exact decide_eq_false (fun h => by have := h.2.2.2.1 k hlt; rw [hx.out] at this; omega))
    go_wp2_with fail
    go_ret2
    rw [HE.out]
    exact DPostF.bad (Below.refl _ _)
   by_cases hb2 : 4294967295 < x
   ·have HE : Hid (R = (1, [])) := HBAD.out (by unfold mayCF; exact decide_eq_false (fun h => by have := h.2.2.2.1 k hlt; rw [hx.out] at this; omega))
    have hx0 : decide (x < 0) = false := by rw [decide_eq_false_iff_not]; omega
    go_wp2_with fail
    go_ret2
    rw [HE.out]
    exact DPostF.bad (Below.refl _ _)
   have hx0 : decide (x < 0) = false := by rw [decide_eq_false_iff_not]; omega
   have hx1 : decide (4294967295 < x) = false := by rw [decide_eq_false_iff_not]; omega
   have HJ : Hid (∀ j, j < k + 1 -> 0 <= c.getD j 0 /\ c.getD j 0 <= 4294967295) := fun j hj => by
    by_cases e : j < k
    ·exact hI.out.2.2.2 j e
    ·obtain rfl : j = k := by omega
     rw [hx.out]; omega
   have HS : Hid (cumI c (k + 1) = r + x) := by show _ = _; simp only [cumI]; rw [hI.out.1, hx.out]
   have hrx : 0 <= r + x /\ r + x <= 274877906880 := by
    have hbd : 0 <= cumI c (k + 1) /\ cumI c (k + 1) <= 4294967295 * (k + 1 : Nat) := by
     have : ∀ m, m <= k + 1 -> 0 <= cumI c m /\ cumI c m <= 4294967295 * (m : Int) := by
      intro m
      induction m with
      | zero => intro _; simp [cumI]
      | succ m ih => intro hm; have h1 := ih (by omega); have h2 := HJ.out m (by omega); simp only [cumI]; push_cast; omega
     exact this (k + 1) (Nat.le_refl _)
    rw [HS.out] at hbd
    omega
   by_cases hp : 0 < x
   ·have HI : Hid (std c (k + 1) = n + 1 /\ lpF c (k + 1) = k + 1) := ⟨by simp only [std]; rw [hI.out.2.1, hx.out, if_pos hp], by simp only [lpF]; rw [hx.out, if_pos hp]⟩
    have hn2 : n + 1 <= 64 := by have := std_le c (k + 1); rw [HI.out.1] at this; omega
    clear hb1 hb2
    go_wp2_with fail
    go_round
    case rel => exact ⟨k + 1, n + 1, k + 1, r + x, by omega, by go_num, by first | rfl | go_num, by go_num, by go_num, hrx.1, hrx.2, hn2, by omega, HS.out, HI.out.1, HI.out.2, HJ.out⟩
    case measure => simp [intOf]; omega
   ·have HI : Hid (std c (k + 1) = n /\ lpF c (k + 1) = q) := ⟨by simp only [std]; rw [hI.out.2.1, hx.out, if_neg hp]; rfl, by simp only [lpF]; rw [hx.out, if_neg hp]; exact hI.out.2.2.1⟩
    clear hb1 hb2
    go_wp2_with fail
    go_round
    case rel => exact ⟨k + 1, n, q, r + x, by omega, by go_num, by first | rfl | go_num, rfl, rfl, hrx.1, hrx.2, hn, hq, HS.out, HI.out.1, HI.out.2, HJ.out⟩
    case measure => simp [intOf]; omega
  ·obtain rfl : k = c.length := by omega
   by_cases hn0 : n = 0
   ·have HE : Hid (R = (1, [])) := HBAD.out (by unfold mayCF; exact decide_eq_false (fun h => by have := h.2.2.2.2.1; rw [hI.out.2.1] at this; omega))
    have g4 : ((n : Int) == 0) = true := by rw [beq_iff_eq]; omega
    clear hn0
    go_wp2_with fail
    go_ret2
    rw [HE.out]
    exact DPostF.bad (Below.refl _ _)
   have g4 : ((n : Int) == 0) = false := by rw [beq_eq_false_iff_ne]; omega
   by_cases hn1 : z < 2 * n
   ·have HE : Hid (R = (1, [])) := HBAD.out (by unfold mayCF; exact decide_eq_false (fun h => by have := h.2.2.2.2.2; rw [hI.out.2.1, Int.toNat_natCast, hz.out] at this; omega))
    have hn1' : (z : Int) < 2 * (n : Int) := by omega
    clear hn0
    go_wp2_with fail
    go_ret2
    rw [HE.out]
    exact DPostF.bad (Below.refl _ _)
   have g5 : decide ((z : Int) < 2 * (n : Int)) = false := by rw [decide_eq_false_iff_not]; omega
   have hm : mayCF c lg = true := by
    unfold mayCF
    rw [decide_eq_true_eq]
    refine ⟨by omega, by omega, hl64, hI.out.2.2.2, by rw [hI.out.2.1]; omega, by rw [hI.out.2.1, Int.toNat_natCast, hz.out]; omega⟩
   obtain ⟨lg', hlg', _, _, _, hsh, hok⟩ := ShOk.of hm
   obtain rfl : lg = lg' := by omega
   rw [HPZ.out, hI.out.1] at hsh hok
   obtain ⟨ps, hps⟩ : ∃ ps, Hid (por c z r c.length = ps) := ⟨_, rfl⟩
   rw [hps.out] at hsh hok
   have HRR : Hid (R = (0, fil ps z)) := by show R = _; rw [<- hR.out]; exact hsh
   have HOK : Hid (ShOk c z r ps) := hok
   have hql : ps.length = q := by rw [<- hps.out, lp_por z r hok.each, hI.out.2.2.1]
   have hq0 : 0 < q := by rw [<- hql]; exact hok.len0
   have hqc : q <= c.length := by rw [<- hql]; exact hok.len
   have HQL : Hid (ps.length = q) := hql
   have ha0 : 0 < r := hok.a0
   have HEACH : Hid (∀ j, j < c.length -> 0 <= c.getD j 0 /\ c.getD j 0 <= 4294967295) := hI.out.2.2.2
   obtain ⟨j0, hj, hy0, hy1, hy2⟩ := elem64.info
   have hqI : (q : Int) - 1 + 1 = (q : Int) := by omega
   clear hn0 hn1 hm hsh hok hql hI hlg' hlt hk
   go_wp2_with (at_make; refine wpList_make_full _ rfl (.tmp 68) (.tmp 68) 56 rfl 0 3 j0 _ 1 Tryz.underlying56 hj hy0 hy1 .i64 .i64 _ _ q rfl rfl (by first | rfl | omega) (by first | rfl | omega) (by rw [hy2]; omega) (by unfold maxLen; omega) (Nat.zero_le _) ?_)
   intro w2 ho2 hg2
   have b2 : Below w.heap.size w w2 := (Below.refl _ _).grown hg2 (Nat.le_refl _) (fun k e => by cases e)
   obtain ⟨g, hg⟩ : ∃ g, Hid (w.heap.size = g) := ⟨_, rfl⟩
   have hgw : w.heap.size <= g := by rw [hg.out]; exact Nat.le_refl _
   have OC2 : Hid (Owns .i64 3 w2 (.slice (some ⟨g, 0, none⟩) q q) (qs ps 0)) := by
    show w2.ownsRow _ _ _ _ _ _
    rw [toList_madeCells_one, hg.out] at ho2
    simp only [qs, List.length_replicate, List.map_replicate, HQL.out]
    simpa using ho2
   have B2 : Hid (Below w.heap.size w w2) := b2
   rw [hg.out]
   clear ho2 hg2 b2 hj hy0 hy1 hy2
   go_wp2_with fail
   go_loopw [12, 13] (fun t i wr => ∃ (k : Nat) (r2 : Int), k <= q /\ i = .int .i64 k /\ t = .int .i64 r2 /\ 0 <= r2 /\ r2 <= 274877906880 /\ Hid (cumI ps k = r2) /\ Hid (Owns .i64 3 wr (.slice (some ⟨g, 0, none⟩) q q) (qs ps k)) /\ Hid (Below w.heap.size w wr)) (fun _ i _ => q - (intOf i).toNat)
   case atStart => exact ⟨0, 0, Nat.zero_le _, rfl, rfl, by omega, by omega, rfl, OC2, B2⟩
   case round =>
    clear OC2 B2
    obtain ⟨k, r2, hk, rfl, rfl, hr20, hr21, HS, OC, B3⟩ := hrel
    have hPB : ∀ i, 0 <= ps.getD i 0 /\ ps.getD i 0 <= 512 := fun i => by
     have hx : ∀ x ∈ por c z r c.length, 0 <= x /\ x <= 512 := por_bd (by omega) ha0 (fun i => by
      by_cases hi : i < c.length
      ·rw [<- HOK.out.tot]; exact zis9 (fun j hj => (HEACH.out j hj).1) hi
      ·rw [gout (by omega)]; omega) (fun i => HOK.out.each i) c.length
     rw [hps.out] at hx
     by_cases hi : i < ps.length
     ·exact hx _ (by rw [List.getD_eq_getElem?_getD, List.getElem?_eq_getElem hi]; exact List.getElem_mem hi)
     ·rw [gout (by omega)]; omega
    have HPB : Hid (∀ i, 0 <= ps.getD i 0 /\ ps.getD i 0 <= 512) := hPB
    clear hPB
    by_cases hlt : k < q
    ·obtain ⟨b, o, ha, hc⟩ : ∃ b o, a1 = some ⟨b, o, none⟩ /\ ∀ i, i < c.length -> w.cell? ⟨b, o + i, none⟩ = some (.int .i64 (c.getD i 0)) := by
      rcases C1.out with rfl | h
      ·simp at hqc; omega
      ·exact h
     subst ha
     obtain ⟨x, hx⟩ : ∃ x, Hid (c.getD k 0 = x) := ⟨_, rfl⟩
     have cx : wr.cell? ⟨b, o + k, none⟩ = some (.int .i64 x) := by
      have h0 := hc k (by omega)
      rw [B3.out.cell (p := ⟨b, o + k, none⟩) (World.block_lt_of_cell? w ⟨b, o + k, none⟩ h0), h0, hx.out]
     have hbg : b < g := by rw [<- hg.out]; exact World.block_lt_of_cell? w ⟨b, o + k, none⟩ (hc k (by omega))
     clear hc
     have hxb := HEACH.out k (by omega)
     rw [hx.out] at hxb
     have hat := HOK.out.at_ k
     unfold pt at hat
     rw [hx.out] at hat
     by_cases hx0 : x = 0
     ·have hxb0 : (x == 0) = true := by simp [hx0]
      rw [if_pos hx0] at hat
      have HQ : Hid (qs ps (k + 1) = qs ps k) := zaax9 ps k (by rw [HQL.out]; exact hlt) hat
      have HS2 : Hid (cumI ps (k + 1) = r2) := by show _ = _; simp only [cumI]; rw [HS.out, hat]; omega
      clear hx0 hat
      go_wp2_with fail
      go_roundw
      case rel => exact ⟨k + 1, r2, by omega, by go_num, rfl, hr20, hr21, HS2, by rw [HQ.out]; exact OC, B3⟩
      case measure => simp [intOf]; omega
     ·have hxb0 : (x == 0) = false := by simp [hx0]
      rw [if_neg hx0] at hat
      have hq1 : 0 <= x * (z : Int) := Int.mul_nonneg hxb.1 (by omega)
      have hq2 : x * (z : Int) <= 4294967295 * 512 := Int.mul_le_mul hxb.2 (by omega) (by omega) (by omega)
      obtain ⟨m, hmm⟩ : ∃ m, Hid (x * z = m) := ⟨_, rfl⟩
      have hmI : x * (z : Int) = m := hmm.out
      rw [hmI] at hq1 hq2 hat
      obtain ⟨t, ht⟩ : ∃ t, Hid (m / r = t) := ⟨_, rfl⟩
      have ht1 : 0 <= t := by rw [<- ht.out]; exact Int.ediv_nonneg hq1 (by omega)
      have ht2 : t <= m := by rw [<- ht.out]; exact Int.ediv_le_self _ hq1
      have htI : m / r = t := ht.out
      rw [htI] at hat
      obtain ⟨_, _, e3, _, _, _, q3, f3⟩ := OC.out.shape (by rw [zba9, HQL.out]; exact hq0)
      rw [zba9, HQL.out] at e3
      cases e3
      have cc := q3 k (by rw [zba9, HQL.out]; exact hlt)
      obtain ⟨y0, hy0⟩ : ∃ y0, (qs ps k).getD k 0 = y0 := ⟨_, rfl⟩
      rw [hy0] at cc
      have fc := f3 k
      clear q3 f3 hy0
      have hne : ¬ b = g := by omega
      have hi0 : (0 : Int) <= (k : Int) := by omega
      have hi1 : (k : Int) < (q : Int) := by omega
      have hsum : 0 <= cumI ps (k + 1) /\ cumI ps (k + 1) <= 512 * ((k + 1 : Nat) : Int) := zfx9 (M := 512) (by omega) (fun i _ => HPB.out i) (k + 1) (by rw [HQL.out]; omega)
      by_cases ht0 : t < 1
      ·rw [Int.max_eq_left (by omega)] at hat
       have HS2 : Hid (cumI ps (k + 1) = r2 + 1) := by show _ = _; simp only [cumI]; rw [HS.out, hat]
       rw [HS2.out] at hsum
       have OC3 : Hid (Owns .i64 3 ((wr.setCell ⟨g, k, none⟩ (.int .i64 t)).setCell ⟨g, k, none⟩ (.int .i64 1)) (.slice (some ⟨g, 0, none⟩) q q) (qs ps (k + 1))) := by
        show Owns _ _ _ _ _
        have := (OC.out.set k t).set k 1
        rw [List.set_set] at this
        simp only [qs]
        rw [hat]
        exact this
       have B4 : Hid (Below w.heap.size w ((wr.setCell ⟨g, k, none⟩ (.int .i64 t)).setCell ⟨g, k, none⟩ (.int .i64 1))) := B3.out.trans ((Tch.setCell (Tch.setCell (Tch.refl (fun k => k = g) wr) (p := ⟨g, k, none⟩) (fun _ => rfl) _) (p := ⟨g, k, none⟩) (fun _ => rfl) _).below B3.out.size (fun j e => by rw [e]; exact hgw))
       clear hx0 hat OC hmm ht
       go_wp2_with fail
       go_roundw
       case rel => exact ⟨k + 1, r2 + 1, by omega, by go_num, by first | rfl | go_num, by omega, by omega, HS2, OC3, B4⟩
       case measure => simp [intOf]; omega
      ·rw [Int.max_eq_right (by omega)] at hat
       have HS2 : Hid (cumI ps (k + 1) = r2 + t) := by show _ = _; simp only [cumI]; rw [HS.out, hat]
       rw [HS2.out] at hsum
       have OC3 : Hid (Owns .i64 3 (wr.setCell ⟨g, k, none⟩ (.int .i64 t)) (.slice (some ⟨g, 0, none⟩) q q) (qs ps (k + 1))) := by
        show Owns _ _ _ _ _
        have := OC.out.set k t
        simp only [qs]
        rw [hat]
        exact this
       have B4 : Hid (Below w.heap.size w (wr.setCell ⟨g, k, none⟩ (.int .i64 t))) := B3.out.trans ((Tch.setCell (Tch.refl (fun k => k = g) wr) (p := ⟨g, k, none⟩) (fun _ => rfl) _).below B3.out.size (fun j e => by rw [e]; exact hgw))
       clear hx0 hat OC hmm ht
       go_wp2_with fail
       go_roundw
       case rel => exact ⟨k + 1, r2 + t, by omega, by go_num, by first | rfl | go_num, by omega, by omega, HS2, OC3, B4⟩
       case measure => simp [intOf]; omega
    ·obtain rfl : k = q := by omega
     obtain ⟨w1, hw1⟩ : ∃ w1, w1 = wr := ⟨_, rfl⟩
     subst hw1
     have B1 : Hid (Below w.heap.size w w1) := B3
     obtain ⟨xs, hxs⟩ : ∃ xs, Hid (ps = xs) := ⟨_, rfl⟩
     obtain ⟨len, hlenq⟩ : ∃ len, len = k := ⟨_, rfl⟩
     subst hlenq
     obtain ⟨cap, hcap⟩ : ∃ cap, Hid (len = cap) := ⟨_, rfl⟩
     have hlen : Hid (xs.length = len) := by show _ = _; rw [<- hxs.out]; exact HQL.out
     have HB : Hid (∀ i, i < xs.length -> 0 <= xs.getD i 0 /\ xs.getD i 0 <= 4294967295) := fun i _ => by rw [<- hxs.out]; have := HPB.out i; omega
     have HO : Hid (Owns .i64 3 w1 (.slice (some ⟨g, 0, none⟩) len len) xs) := by
      show Owns _ _ _ _ _
      have := OC.out
      have e : qs ps len = xs := by rw [<- hxs.out, <- HQL.out]; exact qs_all ps
      rw [e] at this
      exact this
     obtain ⟨F, hF⟩ : ∃ F, Hid (fil ps z = F) := ⟨_, rfl⟩
     obtain ⟨A, hA⟩ : ∃ A, A = r2 := ⟨_, rfl⟩
     subst hA
     have HF : Hid (up ((z : Int) - A).toNat (dn (A - z).toNat xs) = F) := by
      show _ = _
      rw [<- hF.out, <- hxs.out]
      unfold fil
      rw [HQL.out, HS.out]
     rw [hF.out] at HRR
     have hA2 : 0 <= A /\ A <= 274877906880 := ⟨hr20, hr21⟩
     have h0 : 0 < len := hq0
     have h1 : len <= 64 := hq
     clear B3 OC HS HPB HOK HEACH C1 hcap hlt hk hqc
     go_wp2_with fail
     go_loopw [12] (fun t wr => ∃ (r : Int) (ys : List Int), t = .int .i64 r /\ 0 <= r /\ r <= 274877906880 /\ Hid (ys.length = len) /\ Hid (r <= A /\ (r = A ∨ z <= r)) /\ Hid (dn (r - z).toNat ys = dn (A - z).toNat xs) /\ Hid (∀ i, i < len -> -274877906880 <= ys.getD i 0 - r + A /\ ys.getD i 0 <= 4294967295) /\ Hid (Owns .i64 3 wr (.slice (some ⟨g, 0, none⟩) len len) ys) /\ Hid (Tch (fun k => k = g) w1 wr)) (fun t _ => ((intOf t) - z).toNat)
     case atStart => exact ⟨A, xs, rfl, hA2.1, hA2.2, hlen, ⟨Int.le_refl _, .inl rfl⟩, rfl, fun i hi => by have := HB.out i (by rw [hlen.out]; exact hi); omega, HO, Tch.refl _ _⟩
     case round =>
      obtain ⟨r, ys, rfl, hr0, hr1, HL, HRA, HD, HBB, HO2, T⟩ := hrel
      obtain ⟨f, hf⟩ : ∃ f, Hid (fgF ys len = f) := ⟨_, rfl⟩
      have hfl : f < len := by rw [<- hf.out]; exact fg_lt _ _ h0
      obtain ⟨hxx, hcc, hfz⟩ := zbq9 HO2.out (by rw [HL.out]; exact h0)
      clear hxx
      rw [HL.out] at hcc
      obtain ⟨y, hy⟩ : ∃ y, Hid (ys.getD f 0 = y) := ⟨_, rfl⟩
      have cy : wr.cell? ⟨g, f, none⟩ = some (.int .i64 y) := by have := hcc f hfl; rw [Nat.zero_add] at this; rw [this, hy.out]
      have fy := hfz f
      have hgr := zcj9 g 0 len ys wr (by rw [HL.out]; exact h0) (by rw [HL.out]; exact h1) (by rw [HL.out]; exact hcc)
      rw [HL.out, hf.out] at hgr
      have HGR : Hid (Calls Tryz.prog 63 #[.slice (some ⟨g, 0, none⟩) len len] wr fun e w' => e = .returned (.int .i64 (f : Int)) /\ Below wr.heap.size wr w') := hgr
      clear hgr
      have hyb := HBB.out f hfl
      rw [hy.out] at hyb
      clear hcc hfz
      by_cases hgt : (z : Int) < r
      ·go_wp2_with fail
       refine HGR.out.mono ?_
       clear HGR cy fy
       rintro e w2 ⟨rfl, hb2⟩
       replace HO2 : Hid (Owns .i64 3 w2 (.slice (some ⟨g, 0, none⟩) len len) ys) := HO2.out.below hb2
       replace T : Hid (Tch (fun k => k = g) w1 w2) := T.out.trans (Tch.of_below (S := fun k => k = g) hb2) (fun _ _ h => h)
       obtain ⟨hxx, hcc, hfz⟩ := zbq9 HO2.out (by rw [HL.out]; exact h0)
       clear hxx hb2
       rw [HL.out] at hcc
       have cy : w2.cell? ⟨g, f, none⟩ = some (.int .i64 y) := by have := hcc f hfl; rw [Nat.zero_add] at this; rw [this, hy.out]
       have fy := hfz f
       clear hcc hfz
       have HO3 : Hid (Owns .i64 3 (w2.setCell ⟨g, f, none⟩ (.int .i64 (y - 1))) (.slice (some ⟨g, 0, none⟩) len len) (ys.set f (y - 1))) := HO2.out.set f (y - 1)
       have T3 : Hid (Tch (fun k => k = g) w1 (w2.setCell ⟨g, f, none⟩ (.int .i64 (y - 1)))) := Tch.setCell T.out (p := ⟨g, f, none⟩) (fun _ => rfl) _
       have HD3 : Hid (dn (r - 1 - z).toNat (ys.set f (y - 1)) = dn (A - z).toNat xs) := by
        show _ = _
        rw [<- HD.out]
        have e : (r - z).toNat = (r - 1 - z).toNat + 1 := by omega
        rw [e]
        simp only [dn]
        rw [HL.out, hf.out, hy.out]
       have HL3 : Hid ((ys.set f (y - 1)).length = len) := by show _ = _; rw [List.length_set]; exact HL.out
       have HBB3 : Hid (∀ i, i < len -> -274877906880 <= (ys.set f (y - 1)).getD i 0 - (r - 1) + A /\ (ys.set f (y - 1)).getD i 0 <= 4294967295) := fun i hi => by
        have hb := HBB.out i hi
        rw [List.getD_eq_getElem?_getD, List.getElem?_set]
        by_cases e : f = i
        ·subst e
         rw [if_pos rfl, if_pos (by rw [HL.out]; exact hi)]
         simp only [Option.getD_some]
         omega
        ·rw [if_neg e, <- List.getD_eq_getElem?_getD]
         omega
       have hi0 : (0 : Int) <= (f : Int) := by omega
       have hi1 : (f : Int) < (len : Int) := by omega
       clear HO2 T HD HL HBB
       go_wp2_with fail
       go_roundw
       case rel => exact ⟨r - 1, _, by first | rfl | go_num, by omega, by omega, HL3, ⟨by have := HRA.out.1; omega, .inr (by omega)⟩, HD3, HBB3, HO3, T3⟩
       case measure => simp [intOf]; omega
      ·have hle : r <= (z : Int) := by omega
       have HUP : Hid (up ((z : Int) - r).toNat ys = F) := by
        show _ = _
        have e0 : (r - (z : Int)).toNat = 0 := by omega
        have h2 := HD.out
        rw [e0] at h2
        simp only [dn] at h2
        rw [h2, <- HF.out]
        have e1 : ((z : Int) - r).toNat = ((z : Int) - A).toNat := by have := HRA.out; omega
        rw [e1]
       have HB2 : Hid (∀ i, i < len -> -549755813760 <= ys.getD i 0 /\ ys.getD i 0 <= 4294967295 + r) := fun i hi => by have := HBB.out i hi; have := HRA.out.1; omega
       clear HGR cy fy hyb HD HBB HRA HF hgt hf hy hfl
       go_wp2_with fail
       go_loopw [12] (fun t wr => ∃ (r : Int) (ys : List Int), t = .int .i64 r /\ 0 <= r /\ r <= (z : Int) /\ Hid (ys.length = len) /\ Hid (up ((z : Int) - r).toNat ys = F) /\ Hid (∀ i, i < len -> -549755813760 <= ys.getD i 0 /\ ys.getD i 0 <= 4294967295 + r) /\ Hid (Owns .i64 3 wr (.slice (some ⟨g, 0, none⟩) len len) ys) /\ Hid (Tch (fun k => k = g) w1 wr)) (fun t _ => ((z : Int) - intOf t).toNat)
       case atStart => exact ⟨r, ys, rfl, hr0, hle, HL, HUP, HB2, HO2, T⟩
       case round =>
        clear HUP HB2 HO2 T HL hle hr0 hr1
        obtain ⟨r, ys, rfl, hr0, hr1, HL, HU, HBB, HO2, T⟩ := hrel
        obtain ⟨f, hf⟩ : ∃ f, Hid (fgF ys len = f) := ⟨_, rfl⟩
        have hfl : f < len := by rw [<- hf.out]; exact fg_lt _ _ h0
        obtain ⟨hxx, hcc, hfz⟩ := zbq9 HO2.out (by rw [HL.out]; exact h0)
        clear hxx
        rw [HL.out] at hcc
        obtain ⟨y, hy⟩ : ∃ y, Hid (ys.getD f 0 = y) := ⟨_, rfl⟩
        have cy : wr.cell? ⟨g, f, none⟩ = some (.int .i64 y) := by have := hcc f hfl; rw [Nat.zero_add] at this; rw [this, hy.out]
        have fy := hfz f
        have hgr := zcj9 g 0 len ys wr (by rw [HL.out]; exact h0) (by rw [HL.out]; exact h1) (by rw [HL.out]; exact hcc)
        rw [HL.out, hf.out] at hgr
        have HGR : Hid (Calls Tryz.prog 63 #[.slice (some ⟨g, 0, none⟩) len len] wr fun e w' => e = .returned (.int .i64 (f : Int)) /\ Below wr.heap.size wr w') := hgr
        clear hgr
        have hyb := HBB.out f hfl
        rw [hy.out] at hyb
        clear hcc hfz
        by_cases hgt : r < (z : Int)
        ·go_wp2_with fail
         refine HGR.out.mono ?_
         clear HGR cy fy
         rintro e w2 ⟨rfl, hb2⟩
         replace HO2 : Hid (Owns .i64 3 w2 (.slice (some ⟨g, 0, none⟩) len len) ys) := HO2.out.below hb2
         replace T : Hid (Tch (fun k => k = g) w1 w2) := T.out.trans (Tch.of_below (S := fun k => k = g) hb2) (fun _ _ h => h)
         obtain ⟨hxx, hcc, hfz⟩ := zbq9 HO2.out (by rw [HL.out]; exact h0)
         clear hxx hb2
         rw [HL.out] at hcc
         have cy : w2.cell? ⟨g, f, none⟩ = some (.int .i64 y) := by have := hcc f hfl; rw [Nat.zero_add] at this; rw [this, hy.out]
         have fy := hfz f
         clear hcc hfz
         have HO3 : Hid (Owns .i64 3 (w2.setCell ⟨g, f, none⟩ (.int .i64 (y + 1))) (.slice (some ⟨g, 0, none⟩) len len) (ys.set f (y + 1))) := HO2.out.set f (y + 1)
         have T3 : Hid (Tch (fun k => k = g) w1 (w2.setCell ⟨g, f, none⟩ (.int .i64 (y + 1)))) := Tch.setCell T.out (p := ⟨g, f, none⟩) (fun _ => rfl) _
         have HU3 : Hid (up ((z : Int) - (r + 1)).toNat (ys.set f (y + 1)) = F) := by
          show _ = _
          rw [<- HU.out]
          have e : ((z : Int) - r).toNat = ((z : Int) - (r + 1)).toNat + 1 := by omega
          rw [e]
          simp only [up]
          rw [HL.out, hf.out, hy.out]
         have HL3 : Hid ((ys.set f (y + 1)).length = len) := by show _ = _; rw [List.length_set]; exact HL.out
         have HBB3 : Hid (∀ i, i < len -> -549755813760 <= (ys.set f (y + 1)).getD i 0 /\ (ys.set f (y + 1)).getD i 0 <= 4294967295 + (r + 1)) := fun i hi => by
          have hb := HBB.out i hi
          rw [List.getD_eq_getElem?_getD, List.getElem?_set]
          by_cases e : f = i
          ·subst e
           rw [if_pos rfl, if_pos (by rw [HL.out]; exact hi)]
           simp only [Option.getD_some]
           omega
          ·rw [if_neg e, <- List.getD_eq_getElem?_getD]
           omega
         have hi0 : (0 : Int) <= (f : Int) := by omega
         have hi1 : (f : Int) < (len : Int) := by omega
         clear HO2 T HU HL HBB
         go_wp2_with fail
         go_roundw
         case rel => exact ⟨r + 1, _, by first | rfl | go_num, by omega, by omega, HL3, HU3, HBB3, HO3, T3⟩
         case measure => simp [intOf]; omega
        ·obtain rfl : r = (z : Int) := by omega
         have HE : Hid (ys = F) := by show _ = _; rw [<- HU.out]; simp [up]
         clear HGR cy fy hyb
         have BF : Hid (Below w.heap.size w wr) := B1.out.trans (T.out.below B1.out.size (fun k e => by rw [e]; exact hgw))
         go_wp2_with fail
         go_ret2
         rw [HRR.out]
         exact ⟨_, rfl, BF.out, fun k hk => by cases hk; exact hgw, by show Owns _ _ _ _ _; have := HO2.out; rw [HE.out] at this; exact this⟩
def Pv (w : World) (g n : Nat) (c : Nat -> Int) : Prop := w.ownsRow 0 99 2 (.slice (some ⟨g, 0, none⟩) n n) n (ics (n * 2) c)
theorem Pv.at_ {w : World} {g n : Nat} {c : Nat -> Int} (h : Pv w g n c) (i : Nat) (hi : i < n * 2) : w.cell? ⟨g, i, none⟩ = some (.int .i64 (c i)) := by
 rw [World.ownsRow.cellAt (xs := ics (n * 2) c) h i hi, zfg9 _ _ _ hi]
theorem Pv.fz {w : World} {g n : Nat} {c : Nat -> Int} (h : Pv w g n c) (i : Nat) : w.frozen? ⟨g, i, none⟩ = false := World.ownsRow.frozenAt (xs := ics (n * 2) c) h i
theorem Pv.set {w : World} {g n : Nat} {c : Nat -> Int} (h : Pv w g n c) (i : Nat) (hi : i < n * 2) (v : Int) : Pv (w.setCell ⟨g, i, none⟩ (.int .i64 v)) g n (upd c i v) := by
 have := (World.ownsRow.stored (xs := ics (n * 2) c) h i (.int .i64 v)).1
 rw [zun9 _ _ _ _ hi] at this
 exact this
theorem Pv.congr {w : World} {g n : Nat} {c d : Nat -> Int} (h : Pv w g n c) (e : ∀ i, i < n * 2 -> c i = d i) : Pv w g n d := by
 unfold Pv; rw [<- zli9 e]; exact h
theorem Pv.below {w w' : World} {g n : Nat} {c : Nat -> Int} (h : Pv w g n c) (hb : Below w.heap.size w w') : Pv w' g n c :=
 Tch.owns (S := fun _ => False) (Tch.of_below hb) h (fun _ _ e => e)
def tq (f : Nat -> Nat) (L z j i : Nat) : Int := if i % 2 = 0 then (tj f L z j (i / 2) : Int) else 0
def tx (f : Nat -> Nat) (L z p i : Nat) : Int := if i % 2 = 0 then (tb f L z (i / 2) : Int) else if i / 2 < p then (xs_ f L z (i / 2) : Int) else 0
def tf (f : Nat -> Nat) (L z i : Nat) : Int := if i % 2 = 0 then (tb f L z (i / 2) : Int) else (xs_ f L z (i / 2) : Int)
theorem zaaz9 {z : Nat} (hz : Zok z) (f : Nat -> Nat) (L j k : Nat) (hj : j < z) (hk : k < L) (h1 : cu f k <= j) (h2 : j < cu f (k + 1)) (i : Nat) (hi : i < z * 2) :
  upd (tq f L z j) ((j * stp z) % z * 2) (k : Int) i = tq f L z (j + 1) i := by
 unfold upd tq
 have hm : (j * stp z) % z < z := Nat.mod_lt _ (by omega)
 by_cases e : i = (j * stp z) % z * 2
 ·rw [if_pos e, if_pos (by omega), zlm9 hz f L j (i / 2) k hj (by omega) hk h1 h2, if_pos (by omega)]
 ·rw [if_neg e]
  by_cases c : i % 2 = 0
  ·rw [if_pos c, if_pos c, zlm9 hz f L j (i / 2) k hj (by omega) hk h1 h2, if_neg (by omega)]
  ·rw [if_neg c, if_neg c]
theorem zyv9 (f : Nat -> Nat) (L z p i : Nat) : upd (tx f L z p) (p * 2 + 1) (xs_ f L z p : Int) i = tx f L z (p + 1) i := by
 unfold upd tx
 by_cases e : i = p * 2 + 1
 ·rw [if_pos e, if_neg (by omega), if_pos (by omega), show i / 2 = p by omega]
 ·rw [if_neg e]
  by_cases c : i % 2 = 0
  ·rw [if_pos c, if_pos c]
  ·rw [if_neg c, if_neg c]
   by_cases d : i / 2 < p
   ·rw [if_pos d, if_pos (by omega)]
   ·rw [if_neg d, if_neg (by omega)]
theorem infoPl : (Tryz.prog.info? 99).map (fun i => (i.zero, i.size, i.bytes)) = some (some (.agg #[.int .i64 0, .int .i64 0]), 2, 16) := by kernel_rfl
theorem made2 (n : Nat) : (madeCells #[Value.int .i64 0, Value.int .i64 0] (n * 2)).toList = ics (n * 2) (fun _ => 0) := by
 have h : ∀ i : Nat, (#[Value.int .i64 0, Value.int .i64 0] : Array Value)[i % 2]! = .int .i64 0 := fun i => by
  rcases (by omega : i % 2 = 0 ∨ i % 2 = 1) with e | e <;> rw [e] <;> rfl
 unfold madeCells ics
 apply List.ext_getElem?
 intro i
 by_cases hi : i < n * 2
 ·simp [hi, h]
 ·simp [hi]
set_option maxRecDepth 100000 in
theorem zje9 (v : Value) (s : List Int) (lg z : Nat) (w : World) (hr : Rd .i64 w v s) (hk : Sok s lg) (hz : 2 ^ lg = z) :
  Calls Tryz.prog 65 #[v, .int .i64 lg] w fun e w' => ∃ g, e = .returned (.slice (some ⟨g, 0, none⟩) z z) /\ Pv w' g z (tf (nn s) s.length z) /\ Below w.heap.size w w' /\ w.heap.size <= g := by
 obtain ⟨a, cap, rfl, hlc, hcm, _, hcc⟩ := hr
 have HC : Hid (s = [] ∨ ∃ b o, a = some ⟨b, o, none⟩ /\ ∀ i, i < s.length -> w.cell? ⟨b, o + i, none⟩ = some (.int .i64 (s.getD i 0))) := hcc
 have HK : Hid (Sok s lg) := hk
 have HZ : Hid (2 ^ lg = z) := hz
 have HZK : Hid (Zok z) := by show Zok z; rw [<- hz]; exact hk.fok.zok
 have HFOK : Hid (Fok (nn s) s.length z) := by show Fok _ _ _; rw [<- hz]; exact hk.fok
 have hz1 := HZK.out.pos
 have hlen := hk.len
 have HS : Hid (cu (nn s) s.length = z) := by show _ = _; rw [hk.fok.sum, hz]
 have hlg : lg <= 9 := hk.hi
 have hw : wrap64 (2 ^ lg) = (z : Int) := by
  obtain ⟨z', hz', _, _, h1, _⟩ := pow_z (lg := lg) hk.lo hk.hi
  rw [h1]
  have := hz'.out
  omega
 obtain ⟨st, hst⟩ : ∃ st, Hid (stp z = st) := ⟨_, rfl⟩
 have hst1 : (z : Int) / 2 + (z : Int) / 8 + 3 = (st : Int) := by rw [<- hst.out]; unfold stp; omega
 have HST1 : Hid ((z : Int) / 2 + (z : Int) / 8 + 3 = (st : Int)) := hst1
 have hst2 : 0 < st /\ st <= 400 := by rw [<- hst.out]; unfold stp; omega
 obtain ⟨j0, hj, hy0, hy1, hy2⟩ := info_parts infoPl
 clear hcc hk hz hst1
 go_enter Tryz.func65, Tryz.ntmps65
 go_wp2_with (at_make; refine wpList_make_full _ rfl (.tmp 15) (.tmp 15) 96 rfl 0 99 j0 _ 2 Tryz.underlying96 hj hy0 hy1 .i64 .i64 _ _ z rfl rfl (by first | rfl | exact hw) (by first | rfl | exact hw) (by rw [hy2]; omega) (by unfold maxLen; omega) (Nat.zero_le _) ?_)
 intro w1 ho1 hg1
 rw [made2] at ho1
 try rw [hw]
 obtain ⟨g, hg⟩ : ∃ g, Hid (w.heap.size = g) := ⟨_, rfl⟩
 rw [hg.out] at ho1
 have C0 : Hid (Pv w1 g z (tq (nn s) s.length z 0)) := Pv.congr (c := fun _ => 0) ho1 (fun i _ => by unfold tq; rw [zrc9]; split <;> rfl)
 have B1 : Hid (Below w.heap.size w w1) := (Below.refl _ _).grown hg1 (Nat.le_refl _) (fun k e => by cases e)
 have hgw : w.heap.size <= g := by rw [hg.out]; exact Nat.le_refl _
 rw [hg.out]
 clear ho1 hg1 hj hy0 hy1 hy2
 go_wp2_with fail
 go_loopw [7, 8] (fun x i wr => ∃ (k A : Nat), k <= s.length /\ i = .int .i64 k /\ x = .int .i64 A /\ A < z /\ Hid (A = (cu (nn s) k * st) % z) /\ Hid (Pv wr g z (tq (nn s) s.length z (cu (nn s) k))) /\ Hid (Below w.heap.size w wr)) (fun _ i _ => s.length - (intOf i).toNat)
 case atStart => exact ⟨0, 0, Nat.zero_le _, rfl, rfl, by omega, by show _ = _; simp [cu], C0, B1⟩
 case round =>
  clear C0 B1
  obtain ⟨k, A, hk, rfl, rfl, hA, HA, CV, T⟩ := hrel
  by_cases hlt : k < s.length
  ·obtain ⟨ab, ao, ha, hc⟩ : ∃ b o, a = some ⟨b, o, none⟩ /\ ∀ i, i < s.length -> w.cell? ⟨b, o + i, none⟩ = some (.int .i64 (s.getD i 0)) := by
    rcases HC.out with rfl | h
    ·simp at hlt
    ·exact h
   subst ha
   obtain ⟨m, hm⟩ : ∃ m, Hid (nn s k = m) := ⟨_, rfl⟩
   have C0 : Hid (w.cell? ⟨ab, ao + k, none⟩ = some (.int .i64 (m : Int))) := by show _ = _; rw [hc k hlt, (HK.out.le k).1, hm.out]
   have hm1 : m <= 512 := by have h1 := (HK.out.le k).2; have h2 := HK.out.z; rw [hm.out] at h1; omega
   have HM : Hid (cu (nn s) (k + 1) = cu (nn s) k + m) := by show _ = _; simp only [cu]; rw [hm.out]
   have HLE : Hid (cu (nn s) k + m <= z) := by show _ <= _; rw [<- HM.out, <- HS.out]; exact zbj9 _ hlt
   clear hc
   go_wp2_with fail
   go_loopw [7, 9] (fun x i wr => ∃ (j A : Nat), j <= m /\ i = .int .i64 j /\ x = .int .i64 A /\ A < z /\ Hid (A = ((cu (nn s) k + j) * st) % z) /\ Hid (Pv wr g z (tq (nn s) s.length z (cu (nn s) k + j))) /\ Hid (Below w.heap.size w wr)) (fun _ i _ => m - (intOf i).toNat)
   case atStart => exact ⟨0, A, Nat.zero_le _, rfl, rfl, hA, HA, CV, T⟩
   case round =>
    clear HA CV T hA
    obtain ⟨j, A, hj, rfl, rfl, hA, HA, CV, T⟩ := hrel
    have cx : wr.cell? ⟨ab, ao + k, none⟩ = some (.int .i64 (m : Int)) := by rw [T.out.cell (p := ⟨ab, ao + k, none⟩) (World.block_lt_of_cell? w _ C0.out)]; exact C0.out
    by_cases hjl : j < m
    ·have c0 := CV.out.at_ (A * 2) (by omega)
     have f0 := CV.out.fz (A * 2)
     obtain ⟨y0, hy0⟩ : ∃ y0, tq (nn s) s.length z (cu (nn s) k + j) (A * 2) = y0 := ⟨_, rfl⟩
     rw [hy0] at c0
     have CV2 : Hid (Pv (wr.setCell ⟨g, A * 2, none⟩ (.int .i64 (k : Int))) g z (tq (nn s) s.length z (cu (nn s) k + (j + 1)))) := by
      refine (CV.out.set (A * 2) (by omega) (k : Int)).congr (fun i hi => ?_)
      have := zaaz9 HZK.out (nn s) s.length (cu (nn s) k + j) k (by have := HLE.out; omega) hlt (by omega) (by rw [HM.out]; omega) i hi
      rw [hst.out, <- HA.out] at this
      exact this
     have T2 : Hid (Below w.heap.size w (wr.setCell ⟨g, A * 2, none⟩ (.int .i64 (k : Int)))) := T.out.trans ((Tch.setCell (Tch.refl (fun k => k = g) wr) (p := ⟨g, A * 2, none⟩) (fun _ => rfl) _).below T.out.size (fun j e => by rw [e]; exact hgw))
     obtain ⟨B, hB⟩ : ∃ B, Hid ((A + st) % z = B) := ⟨_, rfl⟩
     have hB1 : B < z := by rw [<- hB.out]; exact Nat.mod_lt _ (by omega)
     have HB : Hid (B = ((cu (nn s) k + (j + 1)) * st) % z) := by show _ = _; rw [<- hB.out, HA.out, zui9]; rfl
     have hBI : ((A : Int) + (z : Int) / 2 + (z : Int) / 8 + 3) % (z : Int) = (B : Int) := by
      rw [<- hB.out]
      have e : (A : Int) + (z : Int) / 2 + (z : Int) / 8 + 3 = ((A + st : Nat) : Int) := by have := HST1.out; push_cast; omega
      rw [e]
      push_cast
      rfl
     have hi0 : (0 : Int) <= (A : Int) := by omega
     have hi1 : (A : Int) < (z : Int) := by omega
     clear HA CV T hy0
     go_wp2_with fail
     go_roundw
     case rel => exact ⟨j + 1, B, by omega, by go_num, by first | rfl | go_num, hB1, HB, CV2, T2⟩
     case measure => simp [intOf]; omega
    ·obtain rfl : j = m := by omega
     rw [<- HM.out] at HA CV
     go_wp2_with fail
     go_roundw
     case rel => exact ⟨k + 1, A, by omega, by go_num, rfl, hA, HA, CV, T⟩
     case measure => simp [intOf]; omega
  ·obtain rfl : k = s.length := by omega
   rw [HS.out] at CV
   have CX : Hid (Pv wr g z (tx (nn s) s.length z 0)) := CV.out.congr (fun i hi => by unfold tq tx; split <;> rename_i e; (· rw [tj_end _ _ _ _ (by omega)]); (· rw [if_neg (by omega)]))
   clear CV HA
   go_wp2_with fail
   go_loopw [10] (fun i wr => ∃ p : Nat, p <= z /\ i = .int .i64 p /\ Hid (Pv wr g z (tx (nn s) s.length z p)) /\ Hid (Below w.heap.size w wr)) (fun i _ => z - (intOf i).toNat)
   case atStart => exact ⟨0, Nat.zero_le _, rfl, CX, T⟩
   case round =>
    clear CX T
    obtain ⟨p, hp, rfl, CX, T⟩ := hrel
    by_cases hpz : p < z
    ·obtain ⟨k, hkk⟩ : ∃ k, Hid (tb (nn s) s.length z p = k) := ⟨_, rfl⟩
     have hkl : k < s.length := by rw [<- hkk.out]; exact HFOK.out.tb_lt p
     obtain ⟨ab, ao, ha, hc⟩ : ∃ b o, a = some ⟨b, o, none⟩ /\ ∀ i, i < s.length -> w.cell? ⟨b, o + i, none⟩ = some (.int .i64 (s.getD i 0)) := by
      rcases HC.out with h | h
      ·rw [h] at hkl; simp at hkl
      ·exact h
     subst ha
     obtain ⟨m, hm⟩ : ∃ m, Hid (nn s k = m) := ⟨_, rfl⟩
     have hm1 : m <= 512 := by have h1 := (HK.out.le k).2; have h2 := HK.out.z; rw [hm.out] at h1; omega
     have c0 : wr.cell? ⟨ab, ao + k, none⟩ = some (.int .i64 (m : Int)) := by
      have h0 := hc k hkl
      rw [T.out.cell (p := ⟨ab, ao + k, none⟩) (World.block_lt_of_cell? w _ h0), h0, (HK.out.le k).1, hm.out]
     have cp : wr.cell? ⟨g, p * 2, none⟩ = some (.int .i64 (k : Int)) := by
      rw [CX.out.at_ (p * 2) (by omega)]
      unfold tx
      rw [if_pos (by omega), show p * 2 / 2 = p by omega, hkk.out]
     have hkI : (k : Int) < (s.length : Int) := by omega
     have hpI : (p : Int) < (z : Int) := by omega
     clear hc
     go_wp2_with fail
     go_loopw [11, 12] (fun x i wr => ∃ q : Nat, q <= p /\ i = .int .i64 q /\ x = .int .i64 ((m : Int) + (ah (nn s) s.length z k q : Int)) /\ Hid (Pv wr g z (tx (nn s) s.length z p)) /\ Hid (Below w.heap.size w wr)) (fun _ i _ => p - (intOf i).toNat)
     case atStart => exact ⟨0, Nat.zero_le _, rfl, by simp [ah], CX, T⟩
     case round =>
      clear CX T c0 cp
      obtain ⟨q, hq, rfl, rfl, CX, T⟩ := hrel
      have hah : ah (nn s) s.length z k q <= 512 := by
       have := HFOK.out.ah_le (k := k) (p := q) hkl (by omega)
       rw [hm.out] at this
       omega
      obtain ⟨A, hA⟩ : ∃ A, Hid (ah (nn s) s.length z k q = A) := ⟨_, rfl⟩
      rw [hA.out] at hah ⊢
      by_cases hqp : q < p
      ·obtain ⟨k2, hk2⟩ : ∃ k2, Hid (tb (nn s) s.length z q = k2) := ⟨_, rfl⟩
       have cq : wr.cell? ⟨g, q * 2, none⟩ = some (.int .i64 (k2 : Int)) := by
        rw [CX.out.at_ (q * 2) (by omega)]
        unfold tx
        rw [if_pos (by omega), show q * 2 / 2 = q by omega, hk2.out]
       have cp : wr.cell? ⟨g, p * 2, none⟩ = some (.int .i64 (k : Int)) := by
        rw [CX.out.at_ (p * 2) (by omega)]
        unfold tx
        rw [if_pos (by omega), show p * 2 / 2 = p by omega, hkk.out]
       have hqI : (q : Int) < (z : Int) := by omega
       by_cases he : k2 = k
       ·have g1 : ((k2 : Int) == (k : Int)) = true := by rw [beq_iff_eq]; omega
        have HA2 : Hid (ah (nn s) s.length z k (q + 1) = A + 1) := by show _ = _; simp only [ah]; rw [hA.out, hk2.out, if_pos he]
        clear he
        go_wp2_with fail
        go_quiet (fail)
        go_wp2_with fail
        go_roundw
        case rel => exact ⟨q + 1, by omega, by go_num, by rw [HA2.out]; push_cast; first | rfl | go_num | (congr 1; omega), CX.out.below (Below.of_drewN _ _ _), T.out.trans (Below.of_drewN _ _ _)⟩
        case measure => simp [intOf]; omega
       ·have g1 : ((k2 : Int) == (k : Int)) = false := by rw [beq_eq_false_iff_ne]; omega
        have HA2 : Hid (ah (nn s) s.length z k (q + 1) = A) := by show _ = _; simp only [ah]; rw [hA.out, hk2.out, if_neg he]; rfl
        clear he
        go_wp2_with fail
        go_quiet (fail)
        go_wp2_with fail
        go_roundw
        case rel => exact ⟨q + 1, by omega, by go_num, by rw [HA2.out], CX.out.below (Below.of_drewN _ _ _), T.out.trans (Below.of_drewN _ _ _)⟩
        case measure => simp [intOf]; omega
      ·obtain rfl : q = p := by omega
       have HXS : Hid (((xs_ (nn s) s.length z q : Nat) : Int) = (m : Int) + (A : Int)) := by show _ = _; unfold xs_; rw [hkk.out, hm.out, hA.out]; push_cast; rfl
       have c1 := CX.out.at_ (q * 2 + 1) (by omega)
       have f1 := CX.out.fz (q * 2 + 1)
       obtain ⟨y0, hy0⟩ : ∃ y0, tx (nn s) s.length z q (q * 2 + 1) = y0 := ⟨_, rfl⟩
       rw [hy0] at c1
       have CX2 : Hid (Pv (wr.setCell ⟨g, q * 2 + 1, none⟩ (.int .i64 ((m : Int) + (A : Int)))) g z (tx (nn s) s.length z (q + 1))) := by
        have := (CX.out.set (q * 2 + 1) (by omega) ((m : Int) + (A : Int))).congr (d := tx (nn s) s.length z (q + 1)) (fun i _ => by rw [<- HXS.out]; exact zyv9 _ _ _ _ _)
        exact this
       have T2 : Hid (Below w.heap.size w (wr.setCell ⟨g, q * 2 + 1, none⟩ (.int .i64 ((m : Int) + (A : Int))))) := T.out.trans ((Tch.setCell (Tch.refl (fun k => k = g) wr) (p := ⟨g, q * 2 + 1, none⟩) (fun _ => rfl) _).below T.out.size (fun j e => by rw [e]; exact hgw))
       clear hy0 CX T
       go_wp2_with fail
       go_roundw
       case rel => exact ⟨q + 1, by omega, by go_num, CX2, T2⟩
       case measure => simp [intOf]; omega
    ·obtain rfl : p = z := by omega
     have CF : Hid (Pv wr g p (tf (nn s) s.length p)) := CX.out.congr (fun i hi => by unfold tx tf; split; (· rfl); (· rw [if_pos (by omega)]))
     go_wp2_with fail
     go_ret
     exact ⟨g, rfl, CF.out, T.out, hgw⟩
theorem zvu9 {f : Nat -> Nat} {L z : Nat} (h : Fok f L z) {p q : Nat} (hp : p < z) (hq : q < z) (h1 : tb f L z p = tb f L z q) (h2 : xs_ f L z p = xs_ f L z q) : p = q := by
 refine h.ix_inj hp hq ?_
 unfold xs_ at h2
 unfold ix
 rw [h1] at h2 ⊢
 omega
theorem zsc9 {f : Nat -> Nat} {L lg : Nat} (h : Fok f L (2 ^ lg)) (hl : lg <= 9) {σ k : Nat} (h1 : 2 ^ lg <= σ) (h2 : σ < 2 * 2 ^ lg) (hk : k < L) (hf : 1 <= f k) :
  ∃ q, q < 2 ^ lg /\ nxs f L (2 ^ lg) σ k = 2 ^ lg + q /\ tb f L (2 ^ lg) q = k /\ xs_ f L (2 ^ lg) q = σ / 2 ^ nb σ (f k) := by
 obtain ⟨a1, a2, _, a4, _, _⟩ := ztd9 h hl h1 h2 hk hf
 refine ⟨_, a1, ?_, a2, a4⟩
 have : 2 ^ lg <= nxs f L (2 ^ lg) σ k := by unfold nxs; omega
 omega
set_option maxRecDepth 100000 in
theorem zio9 (sv dv : Value) (s ds : List Int) (log : Int) (w : World) (hr : Rd .i64 w sv s) (hd : Rd .i64 w dv ds) :
  Calls Tryz.prog 40 #[sv, .int .i64 log, dv] w fun e w' => EPostF (encR s log ds) w e w' := by
 have HR : Hid (Rd .i64 w sv s) := hr
 have HD : Hid (Rd .i64 w dv ds) := hd
 obtain ⟨sa, sc, rfl, _, _, _, q1⟩ := hr
 obtain ⟨da, dc, rfl, _, _, _, q2⟩ := hd
 have CS : Hid (s = [] ∨ ∃ b o, sa = some ⟨b, o, none⟩ /\ ∀ i, i < s.length -> w.cell? ⟨b, o + i, none⟩ = some (.int .i64 (s.getD i 0))) := q1
 have CD : Hid (ds = [] ∨ ∃ b o, da = some ⟨b, o, none⟩ /\ ∀ i, i < ds.length -> w.cell? ⟨b, o + i, none⟩ = some (.int .i64 (ds.getD i 0))) := q2
 clear q1 q2
 obtain ⟨R, hR⟩ : ∃ R, Hid (encR s log ds = R) := ⟨_, rfl⟩
 rw [hR.out]
 have HMB : Hid (Calls Tryz.prog 64 #[.slice sa s.length sc, .int .i64 log] w fun e w' => e = .returned (.bool (mayS s log)) /\ w' = w) := zmc9 _ s log w HR.out
 go_enter Tryz.func40, Tryz.ntmps40
 go_wp2_with fail
 refine HMB.out.mono ?_
 clear HMB
 rintro e w1 ⟨rfl, rfl⟩
 cases hm : mayS s log with
 | false =>
  have HE : Hid (R = (4, [])) := by show R = _; rw [<- hR.out]; unfold encR; rw [if_pos hm]
  clear hm
  go_wp2_with fail
  go_ret2
  rw [HE.out]
  exact EPostF.bad (Below.refl _ _)
 | true =>
 obtain ⟨lg, rfl, hsok⟩ := Sok.of hm
 have HMS : Hid (mayS s lg = true) := hm
 have HS : Hid (Sok s lg) := hsok
 have hsp := hsok.pos
 have hsl := hsok.len
 obtain ⟨sb, so, hsa, hsc⟩ : ∃ b o, sa = some ⟨b, o, none⟩ /\ ∀ i, i < s.length -> w1.cell? ⟨b, o + i, none⟩ = some (.int .i64 (s.getD i 0)) := by
  rcases CS.out with h | h
  ·rw [h] at hsp; simp at hsp
  ·exact h
 subst hsa
 have HSC : Hid (∀ i, i < s.length -> w1.cell? ⟨sb, so + i, none⟩ = some (.int .i64 (s.getD i 0))) := hsc
 clear hm hsok hsc CS
 by_cases hbig : 65536 < ds.length
 ·have hbI : (65536 : Int) < (ds.length : Int) := by omega
  have HE : Hid (R = (1, [])) := by show R = _; rw [<- hR.out]; unfold encR; rw [if_neg (by rw [HMS.out]; simp), if_pos (.inl hbig)]
  go_wp2_with fail
  go_ret2
  rw [HE.out]
  exact EPostF.bad (Below.refl _ _)
 have hdl : ds.length <= 65536 := by omega
 clear hbig
 go_wp2_with fail
 go_loop [9] (fun i => ∃ k : Nat, k <= ds.length /\ i = .int .i64 k /\ Hid (∀ j, j < k -> 0 <= ds.getD j 0 /\ (ds.getD j 0).toNat < s.length /\ s.getD (ds.getD j 0).toNat 0 ≠ 0)) (fun i => ds.length - (intOf i).toNat)
 case atStart => exact ⟨0, Nat.zero_le _, rfl, fun j hj => by omega⟩
 case round =>
  obtain ⟨k, hk, rfl, HA⟩ := hrel
  by_cases hlt : k < ds.length
  ·obtain ⟨b, o, hab, hc⟩ : ∃ b o, da = some ⟨b, o, none⟩ /\ ∀ i, i < ds.length -> w1.cell? ⟨b, o + i, none⟩ = some (.int .i64 (ds.getD i 0)) := by
    rcases CD.out with h | h
    ·rw [h] at hlt; simp at hlt
    ·exact h
   subst hab
   obtain ⟨x, hx⟩ : ∃ x, Hid (ds.getD k 0 = x) := ⟨_, rfl⟩
   have cx : w1.cell? ⟨b, o + k, none⟩ = some (.int .i64 x) := by rw [hc k hlt, hx.out]
   have HBAD : Hid (¬ (0 <= x /\ x.toNat < s.length /\ s.getD x.toNat 0 ≠ 0) -> R = (1, [])) := fun h => by
    have ha : allS s ds = false := by
     unfold allS
     refine decide_eq_false (fun h2 => h ?_)
     have := h2 k hlt
     rw [hx.out] at this
     exact this
    rw [<- hR.out]
    unfold encR
    rw [if_neg (by rw [HMS.out]; simp), if_pos (.inr ha)]
   clear hc
   by_cases h1 : x < 0
   ·have HE : Hid (R = (1, [])) := HBAD.out (by omega)
    go_wp2_with fail
    go_ret2
    rw [HE.out]
    exact EPostF.bad (Below.refl _ _)
   obtain ⟨X, rfl⟩ := Int.eq_ofNat_of_zero_le (show 0 <= x by omega)
   have g1 : decide ((X : Int) < 0) = false := by rw [decide_eq_false_iff_not]; omega
   by_cases h2 : s.length <= X
   ·have HE : Hid (R = (1, [])) := HBAD.out (by rw [Int.toNat_natCast]; omega)
    have g2 : (s.length : Int) <= (X : Int) := by omega
    clear h1
    go_wp2_with fail
    go_ret2
    rw [HE.out]
    exact EPostF.bad (Below.refl _ _)
   have g2 : decide (s.length <= X) = false := by rw [decide_eq_false_iff_not]; exact h2
   have hXl : X < s.length := by omega
   have hXI : (X : Int) < (s.length : Int) := by omega
   obtain ⟨y, hy⟩ : ∃ y, Hid (s.getD X 0 = y) := ⟨_, rfl⟩
   have cy : w1.cell? ⟨sb, so + X, none⟩ = some (.int .i64 y) := by rw [HSC.out X hXl, hy.out]
   clear h1 h2
   by_cases h3 : y = 0
   ·have HE : Hid (R = (1, [])) := HBAD.out (by rw [Int.toNat_natCast, hy.out]; exact fun h => h.2.2 h3)
    have g3 : (y == 0) = true := by simp [h3]
    clear h3
    go_wp2_with fail
    go_ret2
    rw [HE.out]
    exact EPostF.bad (Below.refl _ _)
   have g3 : (y == 0) = false := by simp [h3]
   have HA2 : Hid (∀ j, j < k + 1 -> 0 <= ds.getD j 0 /\ (ds.getD j 0).toNat < s.length /\ s.getD (ds.getD j 0).toNat 0 ≠ 0) := fun j hj => by
    by_cases e : j = k
    ·rw [e, hx.out, Int.toNat_natCast, hy.out]; exact ⟨by omega, hXl, h3⟩
    ·exact HA.out j (by omega)
   clear h3
   go_wp2_with fail
   go_round
   case rel => exact ⟨k + 1, by omega, by go_num, HA2⟩
   case measure => simp [intOf]; omega
  ·obtain rfl : k = ds.length := by omega
   have HALL : Hid (allS s ds = true) := by show _ = _; unfold allS; rw [decide_eq_true_eq]; exact HA.out
   obtain ⟨z, hz, hz1, hz2, hw, hpz⟩ := pow_z (lg := lg) HS.out.lo HS.out.hi
   have HE : Hid (R = (0, pack (eRow (nn s) s.length z lg ds ++ [1]))) := by
    show R = _
    rw [<- hR.out]
    unfold encR
    rw [if_neg (by rw [HMS.out]; simp), if_neg (by rw [HALL.out]; simp; omega), Int.toNat_natCast, hz.out]
   have HF : Hid (Fok (nn s) s.length z) := by show Fok _ _ _; rw [<- hz.out]; exact HS.out.fok
   have HTB : Hid (Calls Tryz.prog 65 #[.slice (some ⟨sb, so, none⟩) s.length sc, .int .i64 lg] w1 fun e w' => ∃ g, e = .returned (.slice (some ⟨g, 0, none⟩) z z) /\ Pv w' g z (tf (nn s) s.length z) /\ Below w1.heap.size w1 w' /\ w1.heap.size <= g) := zje9 _ s lg z w1 HR.out HS.out hz.out
   have hlg : lg <= 9 := HS.out.hi
   clear hlt hpz
   go_wp2_with fail
   try rw [hw]
   refine HTB.out.mono ?_
   clear HTB
   rintro e w2 ⟨g, rfl, hpv, hb2, hg2⟩
   have PV2 : Hid (Pv w2 g z (tf (nn s) s.length z)) := hpv
   have B2 : Hid (Below w1.heap.size w1 w2) := hb2
   clear hpv hb2
   go_wp2_with fail
   go_loopw [12, 13, 14] (fun rv st i wr => ∃ (k σ : Nat) (bs : List Int), k <= ds.length /\ i = .int .i64 ((k : Int) - 1) /\ st = .int .i64 σ /\ z <= σ /\ σ < 2 * z /\ bs.length <= 655360 /\ Hid (en (nn s) s.length z (ds.drop k) = (σ, bs)) /\ Hid (Owns .i64 3 wr rv bs) /\ Hid (Pv wr g z (tf (nn s) s.length z)) /\ Hid (Below w1.heap.size w1 wr) /\ Hid (∀ j, rv.ownBlock = some j -> w1.heap.size <= j)) (fun _ _ i _ => (intOf i + 1).toNat)
   case atStart =>
    refine ⟨ds.length, z, [], Nat.le_refl _, rfl, rfl, Nat.le_refl _, by omega, Nat.zero_le _, ?_, zf9 _ _ _, PV2, B2, fun j e => by cases e⟩
    show _ = _
    rw [List.drop_length]
    rfl
   case round =>
    clear PV2 B2
    obtain ⟨k, σ, bs, hk, rfl, rfl, hσ1, hσ2, hbl, HEN, HO, PV, HB, HN⟩ := hrel
    by_cases hk0 : k = 0
    ·subst hk0
     rw [List.drop_zero] at HEN
     have hx0 : 0 <= (σ : Int) - (z : Int) := by omega
     have hx1 : (σ : Int) - (z : Int) < 2 ^ lg := by
      have e : ((2 : Int) ^ lg) = ((2 ^ lg : Nat) : Int) := by push_cast; rfl
      rw [e, hz.out]
      omega
     have HPT : Hid (Calls Tryz.prog 61 #[u12, .int .i64 lg, .int .i64 ((σ : Int) - (z : Int))] wr fun e w' => ∃ v', e = .returned (.tuple #[v', .int .i64 0]) /\ Owns .i64 3 w' v' (bs ++ bitsOf ((σ : Int) - (z : Int)) lg) /\ Grew wr w' (.slice none 0 0) v') := zcu9 u12 bs lg _ wr HO.out.rd (by omega) (by omega) hx0 hx1
     have HROW : Hid (bs ++ bitsOf ((σ : Int) - (z : Int)) lg = eRow (nn s) s.length z lg ds) := by show _ = _; unfold eRow; rw [HEN.out]
     clear hx1
     go_wp2_with fail
     refine HPT.out.mono ?_
     clear HPT
     rintro e w4 ⟨v4, rfl, ho4, hg4⟩
     rw [HROW.out] at ho4
     obtain ⟨b4, n4⟩ := hg4.below
     have B4 : Hid (Below w1.heap.size w1 w4) := HB.out.trans (b4.mono HB.out.size)
     have O4 : Hid (Owns .i64 3 w4 v4 (eRow (nn s) s.length z lg ds)) := ho4
     have N4 : Hid (∀ j, v4.ownBlock = some j -> w1.heap.size <= j) := fun j e => Nat.le_trans HB.out.size (n4 j e)
     have HLN : Hid ((eRow (nn s) s.length z lg ds).length <= 655370) := by show _ <= _; rw [<- HROW.out, List.length_append, za9]; omega
     clear ho4 hg4 b4 n4 HO HB HN
     go_wp2_with (at_builtin; refine zd9 _ rfl (.tmp 121) (.tmp 122) 56 rfl 3 .i64 8 elem64 v4 (eRow (nn s) s.length z lg ds) rfl O4.out 1 rfl (by have := HLN.out; omega) (by have := HLN.out; omega) ?_)
     intro v5 w5 ho5 hg5
     obtain ⟨b5, n5⟩ := hg5.onto B4.out N4.out
     have B5 : Hid (Below w1.heap.size w1 w5) := b5
     have O5 : Hid (Owns .i64 3 w5 v5 (eRow (nn s) s.length z lg ds ++ [1])) := ho5
     have HPK : Hid (Calls Tryz.prog 41 #[v5] w5 fun e w' => ∃ v', e = .returned v' /\ Owns .u8 5 w' v' (pack (eRow (nn s) s.length z lg ds ++ [1])) /\ Grew w5 w' (.slice none 0 0) v') := zlf9 v5 _ w5 O5.out.rd ((zxo9 _ _ _ _ _).snoc (.inr rfl)) (by rw [List.length_append]; have := HLN.out; simp only [List.length_cons, List.length_nil]; omega)
     clear ho5 hg5 b5 n5 O4 B4 N4
     go_wp2_with fail
     refine HPK.out.mono ?_
     clear HPK
     rintro e w6 ⟨v6, rfl, ho6, hg6⟩
     obtain ⟨b6, n6⟩ := hg6.below
     have B6 : Hid (Below w1.heap.size w1 w6) := B5.out.trans (b6.mono B5.out.size)
     have O6 : Hid (Owns .u8 5 w6 v6 (pack (eRow (nn s) s.length z lg ds ++ [1]))) := ho6
     have N6 : Hid (∀ j, v6.ownBlock = some j -> w1.heap.size <= j) := fun j e => Nat.le_trans B5.out.size (n6 j e)
     clear ho6 hg6 b6 n6
     go_wp2_with fail
     go_ret2
     rw [HE.out]
     exact ⟨_, rfl, B6.out, N6.out, O6.out⟩
    ·obtain ⟨K, rfl⟩ : ∃ K, k = K + 1 := ⟨k - 1, by omega⟩
     have hKI : ((K + 1 : Nat) : Int) - 1 = (K : Int) := by omega
     rw [hKI]
     have HKI : Hid (((K + 1 : Nat) : Int) - 1 = (K : Int)) := hKI
     have hKl : K < ds.length := by omega
     obtain ⟨b, o, hab, hc⟩ : ∃ b o, da = some ⟨b, o, none⟩ /\ ∀ i, i < ds.length -> w1.cell? ⟨b, o + i, none⟩ = some (.int .i64 (ds.getD i 0)) := by
      rcases CD.out with h | h
      ·rw [h] at hKl; simp at hKl
      ·exact h
     subst hab
     obtain ⟨a1, a2, a3⟩ := HA.out K hKl
     obtain ⟨x, hx⟩ := Int.eq_ofNat_of_zero_le a1
     rw [hx, Int.toNat_natCast] at a2 a3
     have C0 : Hid (w1.cell? ⟨b, o + K, none⟩ = some (.int .i64 (x : Int))) := by show _ = _; rw [hc K hKl, hx]
     obtain ⟨sh, hsh⟩ : ∃ sh, Hid (nn s x = sh) := ⟨_, rfl⟩
     have CS0 : Hid (w1.cell? ⟨sb, so + x, none⟩ = some (.int .i64 (sh : Int))) := by show _ = _; rw [HSC.out x a2, (HS.out.le x).1, hsh.out]
     have hsh1 : 1 <= sh /\ sh <= z := by
      have h1 := HS.out.le x
      rw [hsh.out, hz.out] at h1
      refine ⟨?_, h1.2⟩
      rcases Nat.eq_zero_or_pos sh with e | e
      ·rw [e] at h1; exact absurd h1.1 a3
      ·exact e
     obtain ⟨N, hN⟩ : ∃ N, Hid (nb σ sh = N) := ⟨_, rfl⟩
     have hns := zlp9 hsh1.1 (show σ < 1024 by omega)
     rw [hN.out] at hns
     have HNS : Hid (σ / 2 ^ N < 2 * sh /\ (∀ m, m < N -> 2 * sh <= σ / 2 ^ m) /\ N <= 10) := hns
     have hN10 : N <= 10 := hns.2.2
     obtain ⟨q, q1, q2, q3, q4⟩ := zsc9 (f := nn s) (L := s.length) (lg := lg) (σ := σ) (k := x) HS.out.fok HS.out.hi (by rw [hz.out]; exact hσ1) (by rw [hz.out]; exact hσ2) a2 (by rw [hsh.out]; exact hsh1.1)
     rw [hz.out] at q1 q2 q3 q4
     rw [hsh.out, hN.out] at q4
     have HEN2 : Hid (en (nn s) s.length z (ds.drop K) = (z + q, bs ++ bitsOf (σ : Int) N)) := by
      show _ = _
      have hdd : ds.drop K = (x : Int) :: ds.drop (K + 1) := by
       rw [List.drop_eq_getElem_cons hKl]
       congr 1
       rw [<- hx, List.getD_eq_getElem?_getD, List.getElem?_eq_getElem hKl]
       rfl
      rw [hdd]
      simp only [en]
      rw [HEN.out]
      simp only [Int.toNat_natCast]
      rw [q2, hsh.out, hN.out]
     have HQ : Hid (tb (nn s) s.length z q = x /\ xs_ (nn s) s.length z q = σ / 2 ^ N) := ⟨q3, q4⟩
     have HBL2 : Hid ((bs ++ bitsOf (σ : Int) N).length <= 655360) := by
      have h1 := en_len (nn s) s.length z (ds.drop K)
      rw [HEN2.out] at h1
      rw [List.length_drop] at h1
      exact Nat.le_trans h1 (by omega)
     have hxI : (x : Int) < (s.length : Int) := by omega
     have d0 : wr.cell? ⟨b, o + K, none⟩ = some (.int .i64 (x : Int)) := by rw [HB.out.cell (p := ⟨b, o + K, none⟩) (World.block_lt_of_cell? w1 _ C0.out)]; exact C0.out
     clear hc hx a1 a3 hns q2 q3 q4 hk0 hKI
     go_wp2_with fail
     go_loopw [12, 16] (fun rv y wr => ∃ (j V : Nat), j <= N /\ y = .int .i64 V /\ V <= σ /\ Hid (σ / 2 ^ j = V) /\ Hid (Owns .i64 3 wr rv (bs ++ bitsOf (σ : Int) j)) /\ Hid (Pv wr g z (tf (nn s) s.length z)) /\ Hid (Below w1.heap.size w1 wr) /\ Hid (∀ j, rv.ownBlock = some j -> w1.heap.size <= j)) (fun _ y _ => (intOf y).toNat)
     case atStart => exact ⟨0, σ, Nat.zero_le _, rfl, Nat.le_refl _, by show _ = _; simp, by show Owns _ _ _ _ _; simp only [bitsOf, List.append_nil]; exact HO.out, PV, HB, HN⟩
     case round =>
      clear HO PV HB HN d0
      obtain ⟨j, V, hj, rfl, hVσ, HV, HO, PV, HB, HN⟩ := hrel
      have e0 : wr.cell? ⟨sb, so + x, none⟩ = some (.int .i64 (sh : Int)) := by rw [HB.out.cell (p := ⟨sb, so + x, none⟩) (World.block_lt_of_cell? w1 _ CS0.out)]; exact CS0.out
      by_cases hjN : j < N
      ·have hge : 2 * sh <= V := by rw [<- HV.out]; exact HNS.out.2.1 j hjN
       have hgeI : 2 * (sh : Int) <= (V : Int) := by omega
       have HLJ : Hid ((bs ++ bitsOf (σ : Int) j).length <= 655370) := by show _ <= _; rw [List.length_append, za9]; omega
       have HV2 : Hid (σ / 2 ^ (j + 1) = V / 2) := by show _ = _; rw [Nat.pow_succ, <- Nat.div_div_eq_div_mul, HV.out]
       have HBT : Hid (bs ++ (bitsOf (σ : Int) j ++ [(V : Int) % 2]) = bs ++ bitsOf (σ : Int) (j + 1)) := by
        show _ = _
        have e : (σ : Int) / 2 ^ j = (V : Int) := by
         rw [<- HV.out]
         push_cast
         rfl
        simp only [bitsOf]
        rw [e]
       go_wp2_with (at_builtin; refine zd9 _ rfl (.tmp 81) (.tmp 84) 56 rfl 3 .i64 8 elem64 _ (bs ++ bitsOf (σ : Int) j) rfl HO.out ((V : Int) % 2) rfl (by have := HLJ.out; omega) (by have := HLJ.out; omega) ?_)
       intro v5 w5 ho5 hg5
       try rw [List.append_assoc] at ho5
       rw [HBT.out] at ho5
       obtain ⟨b5, n5⟩ := hg5.onto HB.out HN.out
       have O5 : Hid (Owns .i64 3 w5 v5 (bs ++ bitsOf (σ : Int) (j + 1))) := ho5
       have B5 : Hid (Below w1.heap.size w1 w5) := b5
       have N5 : Hid (∀ j, v5.ownBlock = some j -> w1.heap.size <= j) := n5
       have P5 : Hid (Pv w5 g z (tf (nn s) s.length z)) := by
        refine Tch.owns hg5.tch PV.out (fun k hk e => ?_)
        rcases World.ownsRow.lt HO.out k e with _
        have h1 : w5.heap.size = w5.heap.size := rfl
        rcases PV.out.2 with ⟨e1, _⟩ | ⟨g', cap', cur, e1, _, hgb, _⟩
        ·cases e1
        ·cases e1
         have hk' : g = k := by simpa [Value.ownBlock] using hk
         subst hk'
         rcases HO.out.2 with ⟨e2, _⟩ | ⟨g2, cap2, cur2, e2, _, hg2', _⟩
         ·rw [e2] at e; cases e
         ·rw [e2] at e
          have : g2 = g := by simpa [Value.ownBlock] using e
          subst this
          rw [hgb] at hg2'
          simp at hg2'
       clear ho5 hg5 b5 n5 HO PV HB HN e0
       go_wp2_with fail
       go_roundw
       case rel => exact ⟨j + 1, V / 2, by omega, by first | rfl | (push_cast; rfl), by omega, HV2, O5, P5, B5, N5⟩
       case measure => simp [intOf]; omega
      ·obtain rfl : j = N := by omega
       have hltV : V < 2 * sh := by rw [<- HV.out]; exact HNS.out.1
       have hltI : (V : Int) < 2 * (sh : Int) := by omega
       have g0 : decide (2 * (sh : Int) <= (V : Int)) = false := by rw [decide_eq_false_iff_not]; omega
       go_wp2_with fail
       go_loop [13, 17] (fun st i => ∃ (p τ : Nat), p <= z /\ i = .int .i64 p /\ st = .int .i64 τ /\ τ < 2 * z /\ Hid (τ = if q < p then z + q else σ)) (fun _ i => z - (intOf i).toNat)
       case atStart => exact ⟨0, σ, Nat.zero_le _, rfl, rfl, hσ2, by show _ = _; rw [if_neg (by omega)]⟩
       case round =>
        obtain ⟨p, τ, hp, rfl, rfl, hτ, HT⟩ := hrel
        by_cases hpz : p < z
        ·have cp0 : wr.cell? ⟨g, p * 2, none⟩ = some (.int .i64 (tb (nn s) s.length z p : Int)) := by
          rw [PV.out.at_ (p * 2) (by omega)]
          unfold tf
          rw [if_pos (by omega), show p * 2 / 2 = p by omega]
         have cp1 : wr.cell? ⟨g, p * 2 + 1, none⟩ = some (.int .i64 (xs_ (nn s) s.length z p : Int)) := by
          rw [PV.out.at_ (p * 2 + 1) (by omega)]
          unfold tf
          rw [if_neg (by omega), show (p * 2 + 1) / 2 = p by omega]
         obtain ⟨t0, ht0⟩ : ∃ t0, Hid (tb (nn s) s.length z p = t0) := ⟨_, rfl⟩
         obtain ⟨t1, ht1⟩ : ∃ t1, Hid (xs_ (nn s) s.length z p = t1) := ⟨_, rfl⟩
         rw [ht0.out] at cp0
         rw [ht1.out] at cp1
         have hpI : (p : Int) < (z : Int) := by omega
         by_cases hpq : p = q
         ·subst hpq
          have g1 : ((t0 : Int) == (x : Int)) = true := by rw [beq_iff_eq]; have := HQ.out.1; rw [ht0.out] at this; omega
          have g2 : ((t1 : Int) == (V : Int)) = true := by rw [beq_iff_eq]; have := HQ.out.2; rw [ht1.out, HV.out] at this; omega
          have HT2 : Hid (z + p = if p < p + 1 then z + p else σ) := by show _ = _; rw [if_pos (by omega)]
          go_wp2_with fail
          go_round
          case rel => exact ⟨p + 1, z + p, by omega, by go_num, by first | rfl | (push_cast; rfl), by omega, HT2⟩
          case measure => simp [intOf]; omega
         ·have HT2 : Hid (τ = if q < p + 1 then z + q else σ) := by
           show _ = _
           rw [HT.out]
           by_cases c : q < p
           ·rw [if_pos c, if_pos (by omega)]
           ·rw [if_neg c, if_neg (by omega)]
          by_cases h0 : t0 = x
          ·have g1 : ((t0 : Int) == (x : Int)) = true := by rw [beq_iff_eq]; omega
           have g2 : ((t1 : Int) == (V : Int)) = false := by
            rw [beq_eq_false_iff_ne]
            intro e
            refine hpq (zvu9 HF.out hpz q1 ?_ ?_)
            ·rw [ht0.out, HQ.out.1]; exact h0
            ·rw [ht1.out, HQ.out.2, HV.out]; omega
           clear h0 hpq
           go_wp2_with fail
           go_round
           case rel => exact ⟨p + 1, τ, by omega, by go_num, rfl, hτ, HT2⟩
           case measure => simp [intOf]; omega
          ·have g1 : ((t0 : Int) == (x : Int)) = false := by rw [beq_eq_false_iff_ne]; omega
           clear h0 hpq
           go_wp2_with fail
           go_round
           case rel => exact ⟨p + 1, τ, by omega, by go_num, rfl, hτ, HT2⟩
           case measure => simp [intOf]; omega
        ·obtain rfl : p = z := by omega
         have hτq : τ = p + q := by rw [HT.out, if_pos q1]
         have HEN3 : Hid (en (nn s) s.length p (ds.drop K) = (τ, bs ++ bitsOf (σ : Int) j)) := by show _ = _; rw [HEN2.out, hτq]
         have hτ1 : p <= τ := by rw [hτq]; exact Nat.le_add_right _ _
         clear hτq
         go_wp2_with fail
         go_roundw
         case rel => exact ⟨K, τ, _, by omega, by first | rfl | go_num, rfl, hτ1, hτ, HBL2.out, HEN3, HO, PV, HB, HN⟩
         case measure => simp [intOf]
end Go.Proofs.YtobenjkacpipeaaGreat
