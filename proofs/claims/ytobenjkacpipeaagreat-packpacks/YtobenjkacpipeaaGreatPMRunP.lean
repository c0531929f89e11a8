import Derived.Test.YtobenjkacpipeaaGreatPMCut
set_option maxRecDepth 100000
set_option linter.unusedVariables false
set_option linter.unusedSimpArgs false
set_option maxHeartbeats 8000000
namespace Go.Proofs.YtobenjkacpipeaaGreat
open Go.RowKit Pl
def okS (x : Sq) (left there : Nat) : Bool := decide (0 <= x.1 /\ x.1 <= left /\ 0 <= x.2.1 /\ (x.2.1 = 0 -> x.2.2 = 0) /\ (0 < x.2.1 -> 1 <= x.2.2 /\ x.2.2 <= (there : Int) + x.1))
def cpy (d : Nat) : Nat -> List Int -> List Int
 | 0, o => o
 | n + 1, o => cpy d n (o ++ [o.getD (o.length - d) 0])
theorem zkg9 (d : Nat) : ∀ n o, cpy d (n + 1) o = cpy d n o ++ [(cpy d n o).getD ((cpy d n o).length - d) 0]
 | 0, o => rfl
 | n + 1, o => by
  have := zkg9 d n (o ++ [o.getD (o.length - d) 0])
  rw [show cpy d (n + 1 + 1) o = cpy d (n + 1) (o ++ [o.getD (o.length - d) 0]) from rfl, this]
  rfl
theorem zoo9 (d : Nat) : ∀ n o, (cpy d n o).length = o.length + n
 | 0, o => rfl
 | n + 1, o => by rw [show cpy d (n + 1) o = cpy d n (o ++ [o.getD (o.length - d) 0]) from rfl, zoo9 d n]; simp; omega
def rs (ls : List Int) (ps : List Sq) (most : Int) : Nat -> Int × Nat × List Int
 | 0 => (0, 0, [])
 | k + 1 =>
  if (rs ls ps most k).1 ≠ 0 then rs ls ps most k
  else if okS (ps.getD k sq0) (ls.length - (rs ls ps most k).2.1) (rs ls ps most k).2.2.length = false then (5, 0, [])
  else if most < ((rs ls ps most k).2.2.length : Int) + (ps.getD k sq0).1 ∨ most - ((rs ls ps most k).2.2.length : Int) - (ps.getD k sq0).1 < (ps.getD k sq0).2.1 then (11, 0, [])
  else (0, (rs ls ps most k).2.1 + (ps.getD k sq0).1.toNat, cpy (ps.getD k sq0).2.2.toNat (ps.getD k sq0).2.1.toNat ((rs ls ps most k).2.2 ++ (ls.drop (rs ls ps most k).2.1).take (ps.getD k sq0).1.toNat))
def runR (ls : List Int) (ps : List Sq) (most : Int) : Int × List Int :=
 if most < 0 ∨ 65536 < most then (1, [])
 else if (rs ls ps most ps.length).1 ≠ 0 then ((rs ls ps most ps.length).1, [])
 else if most - ((rs ls ps most ps.length).2.2.length : Int) < (ls.length : Int) - ((rs ls ps most ps.length).2.1 : Int) then (11, [])
 else (0, (rs ls ps most ps.length).2.2 ++ ls.drop (rs ls ps most ps.length).2.1)
theorem zyu9 {ls : List Int} {ps : List Sq} {most : Int} {k n : Nat} (h : (rs ls ps most k).1 ≠ 0) (hkn : k <= n) : rs ls ps most n = rs ls ps most k := by
 induction n with
 | zero => obtain rfl : k = 0 := by omega
           rfl
 | succ n ih =>
  by_cases e : k = n + 1
  ·rw [e]
  ·have := ih (by omega)
   simp only [rs]
   rw [this, if_pos h]
theorem zgv9 {ls : List Int} {ps : List Sq} {most : Int} {k : Nat} {E : Int} (hm : ¬ (most < 0 ∨ 65536 < most)) (hk : k < ps.length) (hE : E ≠ 0) (h : rs ls ps most (k + 1) = (E, 0, [])) : runR ls ps most = (E, []) := by
 have h1 : (rs ls ps most (k + 1)).1 ≠ 0 := by rw [h]; exact hE
 unfold runR
 rw [if_neg hm, zyu9 h1 hk, if_pos h1, h]
def lt_ (ds : List Int) (ps : List Sq) : Nat -> Option (Nat × List Int)
 | 0 => some (0, [])
 | k + 1 => match lt_ ds ps k with
  | none => none
  | some t => if (ps.getD k sq0).1 < 0 ∨ (ps.getD k sq0).2.1 < 0 ∨ (ps.getD k sq0).2.2 < 0 ∨ (ds.length : Int) - (t.1 : Int) < (ps.getD k sq0).1 ∨ (ds.length : Int) - (t.1 : Int) - (ps.getD k sq0).1 < (ps.getD k sq0).2.1 then none
   else some (t.1 + (ps.getD k sq0).1.toNat + (ps.getD k sq0).2.1.toNat, t.2 ++ (ds.drop t.1).take (ps.getD k sq0).1.toNat)
def litR (ds : List Int) (ps : List Sq) : Int × List Int := match lt_ ds ps ps.length with
 | none => (5, [])
 | some t => (0, t.2 ++ ds.drop t.1)
theorem zzy9 {ds : List Int} {ps : List Sq} {k n : Nat} (h : lt_ ds ps k = none) (hkn : k <= n) : lt_ ds ps n = none := by
 induction n with
 | zero => obtain rfl : k = 0 := by omega
           exact h
 | succ n ih =>
  by_cases e : k = n + 1
  ·rw [<- e]; exact h
  ·simp only [lt_]
   rw [ih (by omega)]
theorem lt_bd {ds : List Int} {ps : List Sq} : ∀ {k : Nat} {t : Nat × List Int}, lt_ ds ps k = some t -> t.1 <= ds.length /\ t.2.length <= t.1
 | 0, t, h => by simp [lt_] at h; subst h; simp
 | k + 1, t, h => by
  simp only [lt_] at h
  split at h
  ·cases h
  ·rename_i u hu
   split at h
   ·cases h
   ·rename_i hn
    have ih := lt_bd hu
    simp only [Option.some.injEq] at h
    subst h
    simp only [List.length_append, List.length_take, List.length_drop]
    omega
theorem zrb9 (x y z : Int) (left there : Nat) (w : World) (hl : left <= 140737488355328) (ht : there <= 65536) :
  Calls Tryz.prog 107 #[.agg #[.int .i64 x, .int .i64 y, .int .i64 z], .int .i64 left, .int .i64 there] w fun e w' => e = .returned (.bool (okS (x, y, z) left there)) /\ Below w.heap.size w w' := by
 obtain ⟨R, hR⟩ : ∃ R, Hid (okS (x, y, z) left there = R) := ⟨_, rfl⟩
 rw [hR.out]
 have HRR : Hid (R = decide (0 <= x /\ x <= left /\ 0 <= y /\ (y = 0 -> z = 0) /\ (0 < y -> 1 <= z /\ z <= (there : Int) + x))) := by show R = _; rw [<- hR.out]; rfl
 have HBL : Hid (Below w.heap.size w (w.alloc (.cells #[.int .i64 x, .int .i64 y, .int .i64 z] 55))) := (Below.refl _ _).alloc (Nat.le_refl _) _
 by_cases h1 : x < 0
 ·have HE : Hid (R = false) := by show R = _; rw [HRR.out]; exact decide_eq_false (by omega)
  go_enter Tryz.func107, Tryz.ntmps107
  go_wp2_with fail
  go_ret
  exact ⟨by rw [HE.out]; rfl, HBL.out⟩
 have g1 : decide (x < 0) = false := by rw [decide_eq_false_iff_not]; omega
 by_cases h2 : (left : Int) < x
 ·have HE : Hid (R = false) := by show R = _; rw [HRR.out]; exact decide_eq_false (by omega)
  go_enter Tryz.func107, Tryz.ntmps107
  go_wp2_with fail
  go_ret
  exact ⟨by rw [HE.out]; rfl, HBL.out⟩
 have g2 : decide ((left : Int) < x) = false := by rw [decide_eq_false_iff_not]; omega
 by_cases h3 : y < 0
 ·have HE : Hid (R = false) := by show R = _; rw [HRR.out]; exact decide_eq_false (by omega)
  go_enter Tryz.func107, Tryz.ntmps107
  go_wp2_with fail
  go_ret
  exact ⟨by rw [HE.out]; rfl, HBL.out⟩
 have g3 : decide (y < 0) = false := by rw [decide_eq_false_iff_not]; omega
 by_cases h4 : y = 0
 ·have g4 : (y == 0) = true := by simp [h4]
  have HE : Hid (R = (z == 0)) := by
   show R = _
   rw [HRR.out, Bool.eq_iff_iff, decide_eq_true_eq, beq_iff_eq]
   constructor
   ·intro h; exact h.2.2.2.1 h4
   ·intro h; exact ⟨by omega, by omega, by omega, fun _ => h, by omega⟩
  clear h1 h2 h3 h4
  go_enter Tryz.func107, Tryz.ntmps107
  go_wp2_with fail
  go_ret
  exact ⟨by rw [HE.out]; rfl, HBL.out⟩
 have g4 : (y == 0) = false := by simp [h4]
 by_cases h5 : 1 <= z
 ·have HE : Hid (R = decide (z <= (there : Int) + x)) := by
   show R = _
   rw [HRR.out, decide_eq_decide]
   constructor
   ·intro h; exact (h.2.2.2.2 (by omega)).2
   ·intro h; exact ⟨by omega, by omega, by omega, fun e => absurd e h4, fun _ => ⟨h5, h⟩⟩
  have hx0 : 0 <= x := by omega
  have hx1 : x <= (left : Int) := by omega
  clear h1 h2 h3 h4
  go_enter Tryz.func107, Tryz.ntmps107
  go_wp2_with fail
  go_ret
  exact ⟨by rw [HE.out]; rfl, HBL.out⟩
 ·have g5 : decide (1 <= z) = false := by rw [decide_eq_false_iff_not]; omega
  have HE : Hid (R = false) := by show R = _; rw [HRR.out]; exact decide_eq_false (by omega)
  clear h1 h2 h3 h4
  go_enter Tryz.func107, Tryz.ntmps107
  go_wp2_with fail
  go_ret
  exact ⟨by rw [HE.out]; rfl, HBL.out⟩
def BPost (r : Int × List Int) (w : World) (e : Ending) (w' : World) : Prop :=
 ∃ d, e = .returned (.tuple #[d, .int .i64 r.1]) /\ Below w.heap.size w w' /\ (∀ k, d.ownBlock = some k -> w.heap.size <= k) /\ Owns .u8 5 w' d r.2
theorem BPost.bad {E : Int} {w w' : World} (hb : Below w.heap.size w w') : BPost (E, []) w (.returned (.tuple #[.slice none 0 0, .int .i64 E])) w' :=
 ⟨_, rfl, hb, (fun k e => by cases e), zf9 _ _ _⟩
set_option maxRecDepth 100000 in
theorem zaan9 (v1 v2 : Value) (ls : List Int) (ps : List Sq) (most : Int) (w : World) (h1 : Rd .u8 w v1 ls) (hl : ls.length <= 140737488351232) (h2 : RdS w v2 ps) (hp : ps.length <= 140737488355328) :
  Calls Tryz.prog 73 #[v1, v2, .int .i64 most] w fun e w' => BPost (runR ls ps most) w e w' := by
 obtain ⟨R, hR⟩ : ∃ R, Hid (runR ls ps most = R) := ⟨_, rfl⟩
 rw [hR.out]
 by_cases hm1 : most < 0
 ·have HE : Hid (R = (1, [])) := by show R = _; rw [<- hR.out]; unfold runR; rw [if_pos (.inl hm1)]
  clear h1 h2
  go_enter Tryz.func73, Tryz.ntmps73
  go_wp2_with fail
  go_ret2
  rw [HE.out]
  exact BPost.bad (Below.refl _ _)
 have g1 : decide (most < 0) = false := by rw [decide_eq_false_iff_not]; exact hm1
 by_cases hm2 : 65536 < most
 ·have HE : Hid (R = (1, [])) := by show R = _; rw [<- hR.out]; unfold runR; rw [if_pos (.inr hm2)]
  clear h1 h2
  go_enter Tryz.func73, Tryz.ntmps73
  go_wp2_with fail
  go_ret2
  rw [HE.out]
  exact BPost.bad (Below.refl _ _)
 have g2 : decide (65536 < most) = false := by rw [decide_eq_false_iff_not]; exact hm2
 have HM : Hid (¬ (most < 0 ∨ 65536 < most)) := by intro h; omega
 have hm3 : 0 <= most := by omega
 have hm4 : most <= 65536 := by omega
 have H1 : Hid (Rd .u8 w v1 ls) := h1
 obtain ⟨la, lc, rfl, _, _, _, _⟩ := h1
 obtain ⟨pa, pc, rfl, _, _, q2⟩ := h2
 have C2 : Hid (ps = [] ∨ ∃ b o, pa = some ⟨b, o, none⟩ /\ ∀ i, i < ps.length -> w.cell? ⟨b, o + i * 3, none⟩ = some (.int .i64 (ps.getD i sq0).1) /\ w.cell? ⟨b, o + i * 3 + 1, none⟩ = some (.int .i64 (ps.getD i sq0).2.1) /\ w.cell? ⟨b, o + i * 3 + 2, none⟩ = some (.int .i64 (ps.getD i sq0).2.2)) := q2
 clear q2 hm1 hm2
 go_enter Tryz.func73, Tryz.ntmps73
 go_wp2_with fail
 go_loopw [8, 9, 21] (fun ov lv i wr => ∃ (k at_ : Nat) (out : List Int), k <= ps.length /\ i = .int .i64 k /\ at_ <= ls.length /\ (out.length : Int) <= most /\ Hid (rs ls ps most k = (0, at_, out)) /\ Hid (Rd .u8 w lv (ls.drop at_)) /\ Hid (Owns .u8 5 wr ov out) /\ Hid (Below w.heap.size w wr) /\ Hid (∀ j, ov.ownBlock = some j -> w.heap.size <= j)) (fun _ _ i _ => ps.length - (intOf i).toNat)
 case atStart => exact ⟨0, 0, [], Nat.zero_le _, rfl, Nat.zero_le _, by simpa using hm3, rfl, by show Rd _ _ _ _; rw [List.drop_zero]; exact H1.out, zf9 _ _ _, Below.refl _ _, fun j e => by cases e⟩
 case round =>
  obtain ⟨k, at_, out, hk, rfl, hat, hout, HRS, HLV, HO, HB, HN⟩ := hrel
  obtain ⟨La, Lc, hLv⟩ : ∃ a c, u9 = .slice a (ls.length - at_) c := by obtain ⟨a, c, e, _⟩ := HLV.out; rw [List.length_drop] at e; exact ⟨a, c, e⟩
  subst hLv
  obtain ⟨Oa, Oc, hOv⟩ : ∃ a c, u8 = .slice a out.length c := by obtain ⟨a, c, e, _⟩ := HO.out.rd; exact ⟨a, c, e⟩
  subst hOv
  obtain ⟨lf, hlf⟩ : ∃ lf, Hid (ls.length - at_ = lf) := ⟨_, rfl⟩
  obtain ⟨ol, hol⟩ : ∃ ol, Hid (out.length = ol) := ⟨_, rfl⟩
  have hlf1 : lf <= 140737488351232 := by rw [<- hlf.out]; omega
  rw [hol.out] at hout
  have HLL : Hid ((ls.drop at_).length = lf) := by show _ = _; rw [List.length_drop, hlf.out]
  rw [hlf.out] at HLV ⊢
  rw [hol.out] at HO HN ⊢
  by_cases hlt : k < ps.length
  ·obtain ⟨b, o, ha, hc⟩ : ∃ b o, pa = some ⟨b, o, none⟩ /\ ∀ i, i < ps.length -> w.cell? ⟨b, o + i * 3, none⟩ = some (.int .i64 (ps.getD i sq0).1) /\ w.cell? ⟨b, o + i * 3 + 1, none⟩ = some (.int .i64 (ps.getD i sq0).2.1) /\ w.cell? ⟨b, o + i * 3 + 2, none⟩ = some (.int .i64 (ps.getD i sq0).2.2) := by
    rcases C2.out with h | h
    ·rw [h] at hlt; simp at hlt
    ·exact h
   subst ha
   obtain ⟨⟨x, y, z⟩, hX⟩ : ∃ X, Hid (ps.getD k sq0 = X) := ⟨_, rfl⟩
   obtain ⟨c0, c1, c2⟩ := hc k hlt
   rw [hX.out] at c0 c1 c2
   have hbw := World.block_lt_of_cell? w _ c0
   rw [<- HB.out.cell (p := ⟨b, o + k * 3, none⟩) hbw] at c0
   rw [<- HB.out.cell (p := ⟨b, o + k * 3 + 1, none⟩) hbw] at c1
   rw [<- HB.out.cell (p := ⟨b, o + k * 3 + 2, none⟩) hbw] at c2
   have hbr : b < wr.heap.size := Nat.lt_of_lt_of_le hbw HB.out.size
   obtain ⟨wS, hwS⟩ : ∃ wS, Hid (wr.alloc (.cells #[.int .i64 x, .int .i64 y, .int .i64 z] 55) = wS) := ⟨_, rfl⟩
   have bS : Below wr.heap.size wr wS := by rw [<- hwS.out]; exact (Below.refl _ _).alloc (Nat.le_refl _) _
   have hblk : wS.heap[wr.heap.size]? = some (.cells #[.int .i64 x, .int .i64 y, .int .i64 z] 55 (0, 0)) := by rw [<- hwS.out]; exact heap_alloc_new wr _
   obtain ⟨S, hS⟩ : ∃ S, Hid (wr.heap.size = S) := ⟨_, rfl⟩
   rw [hS.out] at hblk
   have HBS : Hid (Below w.heap.size w wS) := HB.out.trans (bS.mono HB.out.size)
   have HOS : Hid (Owns .u8 5 wS (.slice Oa ol Oc) out) := HO.out.below bS
   have HSn : Hid (w.heap.size <= S) := by show _ <= _; rw [<- hS.out]; exact HB.out.size
   have HBK : Hid (wS.heap[S]? = some (.cells #[.int .i64 x, .int .i64 y, .int .i64 z] 55 (0, 0))) := hblk
   have HMR : Hid (Calls Tryz.prog 107 #[.agg #[.int .i64 x, .int .i64 y, .int .i64 z], .int .i64 (lf : Int), .int .i64 (ol : Int)] wS fun e w' => e = .returned (.bool (okS (x, y, z) lf ol)) /\ Below wS.heap.size wS w') := zrb9 x y z lf ol wS (by omega) (by omega)
   clear hc hbw bS hblk
   go_wp2_with fail
   rw [hwS.out, hS.out]
   refine HMR.out.mono ?_
   clear HMR
   rintro e w3 ⟨rfl, b3⟩
   have B3 : Hid (Below w.heap.size w w3) := HBS.out.trans (b3.mono HBS.out.size)
   have O3 : Hid (Owns .u8 5 w3 (.slice Oa ol Oc) out) := HOS.out.below b3
   have hSl : S < wS.heap.size := (Array.getElem?_eq_some_iff.1 HBK.out).1
   have HK3 : Hid (w3.heap[S]? = some (.cells #[.int .i64 x, .int .i64 y, .int .i64 z] 55 (0, 0))) := by show _ = _; rw [b3.block S hSl]; exact HBK.out
   have d0 : w3.cell? ⟨S, 0, none⟩ = some (.int .i64 x) := by rw [cell_of_row w3 S 0 _ _ (0, 0) HK3.out]; rfl
   have d1 : w3.cell? ⟨S, 1, none⟩ = some (.int .i64 y) := by rw [cell_of_row w3 S 1 _ _ (0, 0) HK3.out]; rfl
   have d2 : w3.cell? ⟨S, 2, none⟩ = some (.int .i64 z) := by rw [cell_of_row w3 S 2 _ _ (0, 0) HK3.out]; rfl
   clear b3 hSl HBK HOS HBS c0 c1 c2 HB HO
   cases hok : okS (x, y, z) lf ol with
   | false =>
    have HE : Hid (R = (5, [])) := by
     show R = _
     rw [<- hR.out]
     refine zgv9 HM.out hlt (by decide) ?_
     simp only [rs]
     rw [HRS.out, hX.out, if_neg (by simp), hlf.out, hol.out, if_pos hok]
    clear hok
    go_wp2_with fail
    go_ret2
    rw [HE.out]
    exact BPost.bad B3.out
   | true =>
    have hok2 := hok
    unfold okS at hok2
    rw [decide_eq_true_eq] at hok2
    obtain ⟨a1, a2, a3, a4, a5⟩ := hok2
    simp only at a1 a2 a3 a4 a5
    obtain ⟨X, rfl⟩ := Int.eq_ofNat_of_zero_le a1
    obtain ⟨Y, rfl⟩ := Int.eq_ofNat_of_zero_le a3
    have HAZ : Hid ((Y = 0 -> z = 0) /\ (0 < Y -> 1 <= z /\ z <= (ol : Int) + (X : Int))) := ⟨fun h => a4 (by omega), fun h => a5 (by omega)⟩
    have HOK : Hid (okS ((X : Int), (Y : Int), z) lf ol = true) := hok
    have hXl : X <= lf := by omega
    clear hok a4 a5
    by_cases hbg1 : most - (ol : Int) < (X : Int)
    ·have HE : Hid (R = (11, [])) := by
      show R = _
      rw [<- hR.out]
      refine zgv9 HM.out hlt (by decide) ?_
      simp only [rs]
      rw [HRS.out, hX.out, if_neg (by simp), hlf.out, hol.out, if_neg (by rw [HOK.out]; simp), if_pos (by show most < (ol : Int) + (X : Int) ∨ most - (ol : Int) - (X : Int) < (Y : Int); omega)]
     go_wp2_with fail
     go_ret2
     rw [HE.out]
     exact BPost.bad B3.out
    have g3 : decide (most - (ol : Int) < (X : Int)) = false := by rw [decide_eq_false_iff_not]; exact hbg1
    by_cases hbg2 : most - (ol : Int) - (X : Int) < (Y : Int)
    ·have HE : Hid (R = (11, [])) := by
      show R = _
      rw [<- hR.out]
      refine zgv9 HM.out hlt (by decide) ?_
      simp only [rs]
      rw [HRS.out, hX.out, if_neg (by simp), hlf.out, hol.out, if_neg (by rw [HOK.out]; simp), if_pos (by show most < (ol : Int) + (X : Int) ∨ most - (ol : Int) - (X : Int) < (Y : Int); omega)]
     go_wp2_with fail
     go_ret2
     rw [HE.out]
     exact BPost.bad B3.out
    have g4 : decide (most - (ol : Int) - (X : Int) < (Y : Int)) = false := by rw [decide_eq_false_iff_not]; exact hbg2
    have hfit : (ol : Int) + (X : Int) + (Y : Int) <= most := by omega
    obtain ⟨mid, hmid⟩ : ∃ mid, Hid (out ++ (ls.drop at_).take X = mid) := ⟨_, rfl⟩
    have HML : Hid (mid.length = ol + X) := by
     show _ = _
     rw [<- hmid.out, List.length_append, List.length_take, HLL.out, hol.out]
     omega
    have HRS2 : Hid (rs ls ps most (k + 1) = (0, at_ + X, cpy z.toNat Y mid)) := by
     show _ = _
     simp only [rs]
     rw [HRS.out, hX.out, if_neg (by simp), hlf.out, hol.out, if_neg (by rw [HOK.out]; simp), if_neg (by show ¬ (most < (ol : Int) + (X : Int) ∨ most - (ol : Int) - (X : Int) < (Y : Int)); omega)]
     simp only [Int.toNat_natCast]
     rw [hmid.out]
    clear hbg1 hbg2 HRS HOK
    go_wp2_with (refine zgh9 _ w rfl (.tmp 52) (.tmp 54) rfl (.slice La lf Lc) (ls.drop at_) rfl HLV.out X rfl (by rw [HLL.out]; exact hXl) ?_)
    intro v5 hv5
    have HV5 : Hid (Rd .u8 w3 v5 ((ls.drop at_).take X)) := hv5.below B3.out
    have HVL : Hid (((ls.drop at_).take X).length <= 65536) := by show _ <= _; rw [List.length_take]; omega
    clear hv5
    go_wp2_with (at_builtin; refine zb9 _ rfl (.tmp 51) (.tmp 55) 22 rfl 5 .u8 1 elem8 (.slice Oa ol Oc) out rfl O3.out v5 ((ls.drop at_).take X) rfl HV5.out (by have := HVL.out; have := hol.out; omega) (by have := HVL.out; have := hol.out; omega) ?_)
    intro v6 w6 ho6 hg6
    rw [hmid.out] at ho6
    obtain ⟨b6, n6⟩ := hg6.onto B3.out HN.out
    have O6 : Hid (Owns .u8 5 w6 v6 mid) := ho6
    have B6 : Hid (Below w.heap.size w w6) := b6
    have N6 : Hid (∀ j, v6.ownBlock = some j -> w.heap.size <= j) := n6
    have HK6 : Hid (w6.heap[S]? = some (.cells #[.int .i64 (X : Int), .int .i64 (Y : Int), .int .i64 z] 55 (0, 0))) := by
     show _ = _
     rw [hg6.tch.block S (Array.getElem?_eq_some_iff.1 HK3.out).1 (fun e => by
      obtain ⟨cur, hcur⟩ := zv9 (w := w3) O3.out e
      rw [HK3.out] at hcur
      simp at hcur)]
     exact HK3.out
    have e0 : w6.cell? ⟨S, 0, none⟩ = some (.int .i64 (X : Int)) := by rw [cell_of_row w6 S 0 _ _ (0, 0) HK6.out]; rfl
    have e1 : w6.cell? ⟨S, 1, none⟩ = some (.int .i64 (Y : Int)) := by rw [cell_of_row w6 S 1 _ _ (0, 0) HK6.out]; rfl
    clear ho6 hg6 b6 n6 O3 B3 HK3 d0 d1 d2 HV5 HVL HN
    go_wp2_with (refine zdq9 _ w rfl (.tmp 57) (.tmp 59) rfl (.slice La lf Lc) (ls.drop at_) rfl HLV.out X rfl (by rw [HLL.out]; exact hXl) ?_)
    intro v7 hv7
    have HV7 : Hid (Rd .u8 w v7 (ls.drop (at_ + X))) := by show Rd _ _ _ _; first | exact hv7 | (rw [<- List.drop_drop]; exact hv7)
    clear hv7
    go_wp2_with fail
    go_loopw [8, 63] (fun ov i wr => ∃ j : Nat, j <= Y /\ i = .int .i64 j /\ Hid (Owns .u8 5 wr ov (cpy z.toNat j mid)) /\ Hid (Below w.heap.size w wr) /\ Hid (∀ j, ov.ownBlock = some j -> w.heap.size <= j) /\ Hid (wr.heap[S]? = some (.cells #[.int .i64 (X : Int), .int .i64 (Y : Int), .int .i64 z] 55 (0, 0)))) (fun _ i _ => Y - (intOf i).toNat)
    case atStart => exact ⟨0, Nat.zero_le _, rfl, O6, B6, N6, HK6⟩
    case round =>
     clear O6 B6 N6 HK6 e0 e1
     obtain ⟨j, hj, rfl, O7, B7, N7, HK7⟩ := hrel
     by_cases hjl : j < Y
     ·obtain ⟨z1, z2⟩ := HAZ.out.2 (by omega)
      obtain ⟨Z, rfl⟩ := Int.eq_ofNat_of_zero_le (show 0 <= z by omega)
      have hZ1 : 1 <= Z := by omega
      have hZ2 : Z <= ol + X := by omega
      obtain ⟨cu, hcu⟩ : ∃ cu, Hid (cpy Z j mid = cu) := ⟨_, rfl⟩
      have O7' : Hid (Owns .u8 5 wr u8 cu) := by have := O7.out; rw [Int.toNat_natCast, hcu.out] at this; exact this
      have hcl : cu.length = ol + X + j := by rw [<- hcu.out, zoo9, HML.out]
      have HCL : Hid (cu.length = ol + X + j) := hcl
      obtain ⟨g, cp, hv, _, _, hcm, hcell, _⟩ := O7'.out.shape (by omega)
      subst hv
      obtain ⟨q, hq⟩ : ∃ q, Hid (ol + X + j - Z = q) := ⟨_, rfl⟩
      have hqI : (((ol + X + j : Nat) : Int)) - (Z : Int) = (q : Int) := by rw [<- hq.out]; omega
      have hql : q < ol + X + j := by rw [<- hq.out]; omega
      obtain ⟨x8, hx8⟩ : ∃ x8, Hid (cu.getD q 0 = x8) := ⟨_, rfl⟩
      have cq : wr.cell? ⟨g, q, none⟩ = some (.int .u8 x8) := by rw [hcell q (by omega), hx8.out]
      have e2 : wr.cell? ⟨S, 2, none⟩ = some (.int .i64 (Z : Int)) := by rw [cell_of_row wr S 2 _ _ (0, 0) HK7.out]; rfl
      rw [hcl]
      obtain ⟨cl, hcl2⟩ : ∃ cl, Hid (ol + X + j = cl) := ⟨_, rfl⟩
      rw [hcl2.out] at hqI hql ⊢
      have hql2 : (q : Int) < (cl : Int) := by omega
      have hcb : cl <= 65536 := by rw [<- hcl2.out]; omega
      clear hcell hcl O7 hcm
      go_wp2_with (at_builtin; refine zd9 _ rfl (.tmp 65) (.tmp 74) 22 rfl 5 .u8 1 elem8 (.slice (some ⟨g, 0, none⟩) cl cp) cu rfl (by have := O7'.out; rw [HCL.out, hcl2.out] at this; exact this) x8 rfl (by rw [HCL.out]; omega) (by rw [HCL.out]; omega) ?_)
      intro v8 w8 ho8 hg8
      obtain ⟨b8, n8⟩ := hg8.onto B7.out N7.out
      have O8 : Hid (Owns .u8 5 w8 v8 (cpy ((Z : Int)).toNat (j + 1) mid)) := by
       show Owns _ _ _ _ _
       rw [Int.toNat_natCast, zkg9, hcu.out, HCL.out, hq.out, hx8.out]
       exact ho8
      have HK8 : Hid (w8.heap[S]? = some (.cells #[.int .i64 (X : Int), .int .i64 (Y : Int), .int .i64 (Z : Int)] 55 (0, 0))) := by
       show _ = _
       rw [hg8.tch.block S (Array.getElem?_eq_some_iff.1 HK7.out).1 (fun e => by
        obtain ⟨cur, hcur⟩ := zv9 (w := wr) O7'.out e
        rw [HK7.out] at hcur
        simp at hcur)]
       exact HK7.out
      have B8 : Hid (Below w.heap.size w w8) := b8
      have N8 : Hid (∀ j, v8.ownBlock = some j -> w.heap.size <= j) := n8
      clear ho8 hg8 b8 n8 O7' B7 N7 HK7 cq e2
      go_wp2_with fail
      go_roundw
      case rel => exact ⟨j + 1, by omega, by go_num, O8, B8, N8, HK8⟩
      case measure => simp [intOf]; omega
     ·obtain rfl : j = Y := by omega
      have HCL : Hid (((cpy z.toNat j mid).length : Int) <= most) := by show _ <= _; rw [zoo9, HML.out]; push_cast; omega
      go_wp2_with fail
      go_roundw
      case rel => exact ⟨k + 1, at_ + X, _, by omega, by go_num, by have := hlf.out; omega, HCL.out, HRS2, HV7, O7, B7, N7⟩
      case measure => simp [intOf]; omega
  ·obtain rfl : k = ps.length := by omega
   by_cases hbig : most - (ol : Int) < (lf : Int)
   ·have HE : Hid (R = (11, [])) := by
     show R = _
     rw [<- hR.out]
     unfold runR
     rw [if_neg HM.out, HRS.out, if_neg (by simp)]
     rw [if_pos (by show most - (out.length : Int) < (ls.length : Int) - (at_ : Int); have := hlf.out; have := hol.out; omega)]
    go_wp2_with fail
    go_ret2
    rw [HE.out]
    exact BPost.bad HB.out
   ·have HE : Hid (R = (0, out ++ ls.drop at_)) := by
     show R = _
     rw [<- hR.out]
     unfold runR
     rw [if_neg HM.out, HRS.out, if_neg (by simp)]
     rw [if_neg (by show ¬ (most - (out.length : Int) < (ls.length : Int) - (at_ : Int)); have := hlf.out; have := hol.out; omega)]
    have HVW : Hid (Rd .u8 wr (.slice La lf Lc) (ls.drop at_)) := HLV.out.below HB.out
    have hle : (lf : Int) <= most - (ol : Int) := by omega
    clear hbig
    go_wp2_with (at_builtin; refine zb9 _ rfl (.tmp 85) (.tmp 86) 22 rfl 5 .u8 1 elem8 (.slice Oa ol Oc) out rfl HO.out (.slice La lf Lc) (ls.drop at_) rfl HVW.out (by have := HLL.out; have := hol.out; omega) (by have := HLL.out; have := hol.out; omega) ?_)
    intro v6 w6 ho6 hg6
    obtain ⟨b6, n6⟩ := hg6.onto HB.out HN.out
    have O6 : Hid (Owns .u8 5 w6 v6 (out ++ ls.drop at_)) := ho6
    have B6 : Hid (Below w.heap.size w w6) := b6
    have N6 : Hid (∀ j, v6.ownBlock = some j -> w.heap.size <= j) := n6
    clear ho6 hg6 b6 n6
    go_wp2_with fail
    go_ret2
    rw [HE.out]
    exact ⟨_, rfl, B6.out, N6.out, O6.out⟩
end Go.Proofs.YtobenjkacpipeaaGreat
