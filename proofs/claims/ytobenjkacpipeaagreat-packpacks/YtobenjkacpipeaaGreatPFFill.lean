import Derived.Test.YtobenjkacpipeaaGreatPFSh1
import Derived.Test.YtobenjkacpipeaaGreatPFDec
set_option maxRecDepth 100000
set_option linter.unusedVariables false
set_option linter.unusedSimpArgs false
set_option maxHeartbeats 8000000
namespace Go.Proofs.YtobenjkacpipeaaGreat
open Go.RowKit Pl
def dn : Nat -> List Int -> List Int
 | 0, xs => xs
 | n + 1, xs => dn n (xs.set (fgF xs xs.length) (xs.getD (fgF xs xs.length) 0 - 1))
def up : Nat -> List Int -> List Int
 | 0, xs => xs
 | n + 1, xs => up n (xs.set (fgF xs xs.length) (xs.getD (fgF xs xs.length) 0 + 1))
def fil (xs : List Int) (z : Int) : List Int := up (z - cumI xs xs.length).toNat (dn (cumI xs xs.length - z).toNat xs)
theorem zbq9 {w : World} {g len cap : Nat} {xs : List Int} (h : Owns .i64 3 w (.slice (some ⟨g, 0, none⟩) len cap) xs) (h0 : 0 < xs.length) :
  len = xs.length /\ (∀ i, i < xs.length -> w.cell? ⟨g, 0 + i, none⟩ = some (.int .i64 (xs.getD i 0))) /\ ∀ i, w.frozen? ⟨g, i, none⟩ = false := by
 obtain ⟨g', cap', e, _, _, _, hc, hf⟩ := h.shape h0
 simp only [Value.slice.injEq, Option.some.injEq, Addr.mk.injEq] at e
 obtain ⟨⟨rfl, _, _⟩, e2, _⟩ := e
 exact ⟨e2, fun i hi => by rw [Nat.zero_add]; exact hc i hi, hf⟩
set_option maxRecDepth 100000 in
theorem zwt9 (g cap : Nat) (xs : List Int) (z : Nat) (w : World) (hown : Owns .i64 3 w (.slice (some ⟨g, 0, none⟩) xs.length cap) xs) (h0 : 0 < xs.length) (h1 : xs.length <= 64) (hz : z <= 512)
  (hb : ∀ i, i < xs.length -> 0 <= xs.getD i 0 /\ xs.getD i 0 <= 4294967295) :
  Calls Tryz.prog 118 #[.slice (some ⟨g, 0, none⟩) xs.length cap, .int .i64 z] w fun e w' => (∃ v, e = .returned v) /\ Owns .i64 3 w' (.slice (some ⟨g, 0, none⟩) xs.length cap) (fil xs z) /\ Tch (fun k => k = g) w w' := by
 have HO : Hid (Owns .i64 3 w (.slice (some ⟨g, 0, none⟩) xs.length cap) xs) := hown
 have HB : Hid (∀ i, i < xs.length -> 0 <= xs.getD i 0 /\ xs.getD i 0 <= 4294967295) := hb
 have hsum := zfx9 (M := 4294967295) (by omega) hb xs.length (Nat.le_refl _)
 obtain ⟨A, hA⟩ : ∃ A, Hid (cumI xs xs.length = A) := ⟨_, rfl⟩
 rw [hA.out] at hsum
 have hA2 : 0 <= A /\ A <= 274877906880 := by omega
 obtain ⟨len, hlen⟩ : ∃ len, Hid (xs.length = len) := ⟨_, rfl⟩
 obtain ⟨F, hF⟩ : ∃ F, Hid (fil xs z = F) := ⟨_, rfl⟩
 have HF : Hid (up ((z : Int) - A).toNat (dn (A - z).toNat xs) = F) := by show _ = _; rw [<- hF.out]; unfold fil; rw [hA.out]
 rw [hF.out]
 have hs := zlq9 g 0 cap xs w h1 hb (zbq9 hown h0).2.1
 rw [hA.out, hlen.out] at hs
 rw [hlen.out] at h0 h1 HO ⊢
 clear hown hb hsum
 go_enter Tryz.func118, Tryz.ntmps118
 go_wp2_with fail
 refine hs.mono ?_
 clear hs
 rintro e w1 ⟨rfl, rfl⟩
 go_wp2_with fail
 go_loopw [4] (fun t wr => ∃ (r : Int) (ys : List Int), t = .int .i64 r /\ 0 <= r /\ r <= 274877906880 /\ Hid (ys.length = len) /\ Hid (r <= A /\ (r = A ∨ z <= r)) /\ Hid (dn (r - z).toNat ys = dn (A - z).toNat xs) /\ Hid (∀ i, i < len -> -274877906880 <= ys.getD i 0 - r + A /\ ys.getD i 0 <= 4294967295) /\ Hid (Owns .i64 3 wr (.slice (some ⟨g, 0, none⟩) len cap) ys) /\ Hid (Tch (fun k => k = g) w1 wr)) (fun t _ => ((intOf t) - z).toNat)
 case atStart => exact ⟨A, xs, rfl, hA2.1, hA2.2, hlen, ⟨Int.le_refl _, .inl rfl⟩, rfl, fun i hi => by have := HB.out i (by rw [hlen.out]; exact hi); omega, HO, Tch.refl _ _⟩
 case round =>
  obtain ⟨r, ys, rfl, hr0, hr1, HL, HRA, HD, HBB, HO2, T⟩ := hrel
  obtain ⟨f, hf⟩ : ∃ f, Hid (fgF ys len = f) := ⟨_, rfl⟩
  have hfl : f < len := by rw [<- hf.out]; exact fg_lt _ _ h0
  obtain ⟨hxx, hcc, hfz⟩ := zbq9 HO2.out (by rw [HL.out]; exact h0)
  clear hxx
  rw [HL.out] at hcc
  obtain ⟨y, hy⟩ : ∃ y, Hid (ys.getD f 0 = y) := ⟨_, rfl⟩
  have cy : wr.cell? ⟨g, f, none⟩ = some (.int .i64 y) := by have := hcc f hfl; rw [Nat.zero_add] at this; rw [this, hy.out]
  have fy := hfz f
  have hgr := zem9 g 0 cap ys wr (by rw [HL.out]; exact h0) (by rw [HL.out]; exact h1) (by rw [HL.out]; exact hcc)
  rw [HL.out, hf.out] at hgr
  have HGR : Hid (Calls Tryz.prog 142 #[.slice (some ⟨g, 0, none⟩) len cap] wr fun e w' => e = .returned (.int .i64 (f : Int)) /\ w' = wr) := hgr
  clear hgr
  have hyb := HBB.out f hfl
  rw [hy.out] at hyb
  clear hcc hfz
  by_cases hgt : (z : Int) < r
  ·go_wp2_with fail
   refine HGR.out.mono ?_
   clear HGR
   rintro e w2 ⟨rfl, rfl⟩
   have HO3 : Hid (Owns .i64 3 (w2.setCell ⟨g, f, none⟩ (.int .i64 (y - 1))) (.slice (some ⟨g, 0, none⟩) len cap) (ys.set f (y - 1))) := HO2.out.set f (y - 1)
   have T3 : Hid (Tch (fun k => k = g) w1 (w2.setCell ⟨g, f, none⟩ (.int .i64 (y - 1)))) := Tch.setCell T.out (p := ⟨g, f, none⟩) (fun _ => rfl) _
   have HD3 : Hid (dn (r - 1 - z).toNat (ys.set f (y - 1)) = dn (A - z).toNat xs) := by
    show _ = _
    rw [<- HD.out]
    have e : (r - z).toNat = (r - 1 - z).toNat + 1 := by omega
    rw [e]
    simp only [dn]
    rw [HL.out, hf.out, hy.out]
   have HL3 : Hid ((ys.set f (y - 1)).length = len) := by show _ = _; rw [List.length_set]; exact HL.out
   have HBB3 : Hid (∀ i, i < len -> -274877906880 <= (ys.set f (y - 1)).getD i 0 - (r - 1) + A /\ (ys.set f (y - 1)).getD i 0 <= 4294967295) := fun i hi => by
    have hb := HBB.out i hi
    rw [List.getD_eq_getElem?_getD, List.getElem?_set]
    by_cases e : f = i
    ·subst e
     rw [if_pos rfl, if_pos (by rw [HL.out]; exact hi)]
     simp only [Option.getD_some]
     omega
    ·rw [if_neg e, <- List.getD_eq_getElem?_getD]
     omega
   have hi0 : (0 : Int) <= (f : Int) := by omega
   have hi1 : (f : Int) < (len : Int) := by omega
   clear HO2 T HD HL HBB
   go_wp2_with fail
   go_roundw
   case rel => exact ⟨r - 1, _, by first | rfl | go_num, by omega, by omega, HL3, ⟨by have := HRA.out.1; omega, .inr (by omega)⟩, HD3, HBB3, HO3, T3⟩
   case measure => simp [intOf]; omega
  ·have hle : r <= (z : Int) := by omega
   have HUP : Hid (up ((z : Int) - r).toNat ys = F) := by
    show _ = _
    have e0 : (r - (z : Int)).toNat = 0 := by omega
    have h2 := HD.out
    rw [e0] at h2
    simp only [dn] at h2
    rw [h2, <- HF.out]
    have e1 : ((z : Int) - r).toNat = ((z : Int) - A).toNat := by have := HRA.out; omega
    rw [e1]
   have HB2 : Hid (∀ i, i < len -> -549755813760 <= ys.getD i 0 /\ ys.getD i 0 <= 4294967295 + r) := fun i hi => by have := HBB.out i hi; have := HRA.out.1; omega
   clear HGR cy fy hyb HD HBB HRA HF hgt hf hy hfl
   go_wp2_with fail
   go_loopw [4] (fun t wr => ∃ (r : Int) (ys : List Int), t = .int .i64 r /\ 0 <= r /\ r <= (z : Int) /\ Hid (ys.length = len) /\ Hid (up ((z : Int) - r).toNat ys = F) /\ Hid (∀ i, i < len -> -549755813760 <= ys.getD i 0 /\ ys.getD i 0 <= 4294967295 + r) /\ Hid (Owns .i64 3 wr (.slice (some ⟨g, 0, none⟩) len cap) ys) /\ Hid (Tch (fun k => k = g) w1 wr)) (fun t _ => ((z : Int) - intOf t).toNat)
   case atStart => exact ⟨r, ys, rfl, hr0, hle, HL, HUP, HB2, HO2, T⟩
   case round =>
    clear HUP HB2 HO2 T HL hle hr0 hr1
    obtain ⟨r, ys, rfl, hr0, hr1, HL, HU, HBB, HO2, T⟩ := hrel
    obtain ⟨f, hf⟩ : ∃ f, Hid (fgF ys len = f) := ⟨_, rfl⟩
    have hfl : f < len := by rw [<- hf.out]; exact fg_lt _ _ h0
    obtain ⟨hxx, hcc, hfz⟩ := zbq9 HO2.out (by rw [HL.out]; exact h0)
    clear hxx
    rw [HL.out] at hcc
    obtain ⟨y, hy⟩ : ∃ y, Hid (ys.getD f 0 = y) := ⟨_, rfl⟩
    have cy : wr.cell? ⟨g, f, none⟩ = some (.int .i64 y) := by have := hcc f hfl; rw [Nat.zero_add] at this; rw [this, hy.out]
    have fy := hfz f
    have hgr := zem9 g 0 cap ys wr (by rw [HL.out]; exact h0) (by rw [HL.out]; exact h1) (by rw [HL.out]; exact hcc)
    rw [HL.out, hf.out] at hgr
    have HGR : Hid (Calls Tryz.prog 142 #[.slice (some ⟨g, 0, none⟩) len cap] wr fun e w' => e = .returned (.int .i64 (f : Int)) /\ w' = wr) := hgr
    clear hgr
    have hyb := HBB.out f hfl
    rw [hy.out] at hyb
    clear hcc hfz
    by_cases hgt : r < (z : Int)
    ·go_wp2_with fail
     refine HGR.out.mono ?_
     clear HGR
     rintro e w2 ⟨rfl, rfl⟩
     have HO3 : Hid (Owns .i64 3 (w2.setCell ⟨g, f, none⟩ (.int .i64 (y + 1))) (.slice (some ⟨g, 0, none⟩) len cap) (ys.set f (y + 1))) := HO2.out.set f (y + 1)
     have T3 : Hid (Tch (fun k => k = g) w1 (w2.setCell ⟨g, f, none⟩ (.int .i64 (y + 1)))) := Tch.setCell T.out (p := ⟨g, f, none⟩) (fun _ => rfl) _
     have HU3 : Hid (up ((z : Int) - (r + 1)).toNat (ys.set f (y + 1)) = F) := by
      show _ = _
      rw [<- HU.out]
      have e : ((z : Int) - r).toNat = ((z : Int) - (r + 1)).toNat + 1 := by omega
      rw [e]
      simp only [up]
      rw [HL.out, hf.out, hy.out]
     have HL3 : Hid ((ys.set f (y + 1)).length = len) := by show _ = _; rw [List.length_set]; exact HL.out
     have HBB3 : Hid (∀ i, i < len -> -549755813760 <= (ys.set f (y + 1)).getD i 0 /\ (ys.set f (y + 1)).getD i 0 <= 4294967295 + (r + 1)) := fun i hi => by
      have hb := HBB.out i hi
      rw [List.getD_eq_getElem?_getD, List.getElem?_set]
      by_cases e : f = i
      ·subst e
       rw [if_pos rfl, if_pos (by rw [HL.out]; exact hi)]
       simp only [Option.getD_some]
       omega
      ·rw [if_neg e, <- List.getD_eq_getElem?_getD]
       omega
     have hi0 : (0 : Int) <= (f : Int) := by omega
     have hi1 : (f : Int) < (len : Int) := by omega
     clear HO2 T HU HL HBB
     go_wp2_with fail
     go_roundw
     case rel => exact ⟨r + 1, _, by first | rfl | go_num, by omega, by omega, HL3, HU3, HBB3, HO3, T3⟩
     case measure => simp [intOf]; omega
    ·obtain rfl : r = (z : Int) := by omega
     have HE : Hid (ys = F) := by show _ = _; rw [<- HU.out]; simp [up]
     clear HGR cy fy hyb
     go_wp2_with fail
     go_end0
     exact ⟨⟨_, rfl⟩, by rw [<- HE.out]; exact HO2.out, T.out⟩
theorem znz9 (c : List Int) : ∀ k, 0 < std c k -> ∃ i, i < k /\ 0 < c.getD i 0
 | 0, h => by simp [std] at h
 | k + 1, h => by
  by_cases e : 0 < c.getD k 0
  ·exact ⟨k, by omega, e⟩
  ·simp only [std] at h
   rw [if_neg e] at h
   obtain ⟨i, h1, h2⟩ := znz9 c k (by omega)
   exact ⟨i, by omega, h2⟩
theorem zox9 (c : List Int) (z all : Int) : ∀ k, 0 < std c k -> 0 < (por c z all k).length
 | 0, h => by simp [std] at h
 | k + 1, h => by
  simp only [por]
  by_cases e : c.getD k 0 = 0
  ·rw [if_pos e]
   simp only [std] at h
   rw [e] at h
   exact zox9 c z all k (by simpa using h)
  ·rw [if_neg e]
   simp
   omega
theorem por_bd {c : List Int} {z all : Int} (hz : 1 <= z /\ z <= 512) (ha : 0 < all) (hc : ∀ i, c.getD i 0 <= all) (hc0 : ∀ i, 0 <= c.getD i 0) : ∀ k, ∀ x ∈ por c z all k, 0 <= x /\ x <= 512
 | 0, x, hx => by simp [por] at hx
 | k + 1, x, hx => by
  simp only [por] at hx
  split at hx
  ·exact por_bd hz ha hc hc0 k x hx
  ·rcases List.mem_append.1 hx with h | h
   ·rcases List.mem_append.1 h with h | h
    ·exact por_bd hz ha hc hc0 k x h
    ·rw [List.eq_of_mem_replicate h]; omega
   ·simp only [List.mem_singleton] at h
    have h1 : c.getD k 0 * z / all <= z := by
     refine Int.ediv_le_of_le_mul ha ?_
     rw [Int.mul_comm z all]
     exact Int.mul_le_mul_of_nonneg_right (hc k) (by omega)
    rw [h]
    omega
def shR (c : List Int) (log : Int) : Int × List Int :=
 if mayCF c log = false then (1, []) else (0, fil (por c (2 ^ log.toNat) (cumI c c.length) c.length) (2 ^ log.toNat))
theorem zrh9 (v : Value) (c : List Int) (log : Int) (w : World) (h : Rd .i64 w v c) :
  Calls Tryz.prog 90 #[v, .int .i64 log] w fun e w' => DPostF (shR c log) w e w' := by
 have HR : Hid (Rd .i64 w v c) := h
 clear h
 obtain ⟨R, hR⟩ : ∃ R, Hid (shR c log = R) := ⟨_, rfl⟩
 rw [hR.out]
 cases hm : mayCF c log with
 | false =>
  have HM : Hid (mayCF c log = false) := hm
  have HE : Hid (R = (1, [])) := by show R = _; rw [<- hR.out]; unfold shR; rw [if_pos hm]
  clear hm
  go_enter Tryz.func90, Tryz.ntmps90
  go_wp2_with fail
  refine (zgf9 v c log w HR.out).mono ?_
  rintro e w1 ⟨rfl, rfl⟩
  rw [HM.out]
  go_wp2_with fail
  go_ret2
  rw [HE.out]
  exact DPostF.bad (Below.refl _ _)
 | true =>
  have HM : Hid (mayCF c log = true) := hm
  have hmf : ¬ mayCF c log = false := by rw [hm]; simp
  have hm2 := hm
  unfold mayCF at hm2
  rw [decide_eq_true_eq] at hm2
  obtain ⟨g1, g2, g3, g4, g5, g6⟩ := hm2
  obtain ⟨lg, rfl⟩ := Int.eq_ofNat_of_zero_le (show 0 <= log by omega)
  obtain ⟨z, hz, hz1, hz2, hpw, hpz⟩ := pow_z (lg := lg) (by omega) (by omega)
  have HPZ : Hid ((2 : Int) ^ lg = (z : Int)) := hpz
  have HG4 : Hid (∀ i, i < c.length -> 0 <= c.getD i 0 /\ c.getD i 0 <= 4294967295) := g4
  have hc0 : ∀ i, 0 <= c.getD i 0 := fun i => by
   by_cases hi : i < c.length
   ·exact (g4 i hi).1
   ·simp [List.getD_eq_getElem?_getD, List.getElem?_eq_none (by omega : c.length <= i)]
  have hcb := zfx9 (M := 4294967295) (by omega) g4 c.length (Nat.le_refl _)
  have hcall : ∀ i, c.getD i 0 <= cumI c c.length := fun i => by
   by_cases hi : i < c.length
   ·exact zis9 (fun j hj => (g4 j hj).1) hi
   ·have : c.getD i 0 = 0 := by simp [List.getD_eq_getElem?_getD, List.getElem?_eq_none (by omega : c.length <= i)]
    omega
  have hall : 0 < cumI c c.length := by
   obtain ⟨i, h1, h2⟩ := znz9 c c.length g5
   have := hcall i
   omega
  obtain ⟨ps, hps⟩ : ∃ ps, Hid (por c z (cumI c c.length) c.length = ps) := ⟨_, rfl⟩
  have hp1 : 0 < ps.length := by rw [<- hps.out]; exact zox9 c z _ _ g5
  have hp2 : ps.length <= 64 := by rw [<- hps.out]; have := ziw9 c z (cumI c c.length) c.length; omega
  have HPB : Hid (∀ i, i < ps.length -> 0 <= ps.getD i 0 /\ ps.getD i 0 <= 4294967295) := fun i hi => by
   have hx : ps.getD i 0 ∈ por c z (cumI c c.length) c.length := by
    rw [hps.out, List.getD_eq_getElem?_getD, List.getElem?_eq_getElem hi]
    exact List.getElem_mem hi
   have := por_bd (by omega) hall hcall hc0 c.length _ hx
   omega
  have HE : Hid (R = (0, fil ps z)) := by
   show R = _
   rw [<- hR.out]
   unfold shR
   rw [if_neg hmf]
   simp only [Int.toNat_natCast]
   rw [HPZ.out, hps.out]
  have HALL : Hid (0 < cumI c c.length) := hall
  obtain ⟨cb, co, cc, hv, hcc⟩ : ∃ b o cap, v = .slice (some ⟨b, o, none⟩) c.length cap /\ ∀ i, i < c.length -> w.cell? ⟨b, o + i, none⟩ = some (.int .i64 (c.getD i 0)) := by
   obtain ⟨a, cap, e, _, _, _, h⟩ := HR.out
   rcases h with h | ⟨b, o, rfl, hc⟩
   ·rw [h] at g5; simp [std] at g5
   ·exact ⟨b, o, cap, e, hc⟩
  subst hv
  have HCC : Hid (∀ i, i < c.length -> w.cell? ⟨cb, co + i, none⟩ = some (.int .i64 (c.getD i 0))) := hcc
  clear hm hmf g4 g5 g6 hc0 hcb hcall hall hcc hpz
  go_enter Tryz.func90, Tryz.ntmps90
  go_wp2_with fail
  refine (zgf9 _ c lg w HR.out).mono ?_
  rintro e w1 ⟨rfl, rfl⟩
  rw [HM.out]
  go_wp2_with fail
  refine (zjh9 cb co cc c z w1 g3 hz2 HG4.out HALL.out HCC.out).mono ?_
  rintro e w2 ⟨v2, rfl, ho2, hg2⟩
  rw [hps.out] at ho2
  obtain ⟨pg, pc, hv2, _, _, _, _, _⟩ := ho2.shape hp1
  subst hv2
  have O2 : Hid (Owns .i64 3 w2 (.slice (some ⟨pg, 0, none⟩) ps.length pc) ps) := ho2
  obtain ⟨b2, f2⟩ := hg2.below
  have B2 : Hid (Below w1.heap.size w1 w2) := b2
  have F2 : Hid (w1.heap.size <= pg) := f2 pg rfl
  clear ho2 hg2 b2 f2
  obtain ⟨pl, hpl⟩ : ∃ pl, Hid (ps.length = pl) := ⟨_, rfl⟩
  have hfill := zwt9 pg pc ps z w2 O2.out hp1 hp2 hz2 HPB.out
  have HFL : Hid (Calls Tryz.prog 118 #[.slice (some ⟨pg, 0, none⟩) ps.length pc, .int .i64 z] w2 fun e w' => (∃ v, e = .returned v) /\ Owns .i64 3 w' (.slice (some ⟨pg, 0, none⟩) ps.length pc) (fil ps z) /\ Tch (fun k => k = pg) w2 w') := hfill
  clear hfill
  go_wp2_with fail
  refine HFL.out.mono ?_
  rintro e w3 ⟨⟨v3, rfl⟩, ho3, ht3⟩
  have O3 : Hid (Owns .i64 3 w3 (.slice (some ⟨pg, 0, none⟩) ps.length pc) (fil ps z)) := ho3
  have B3 : Hid (Below w1.heap.size w1 w3) := B2.out.trans (ht3.below B2.out.size (fun k e => by rw [e]; exact F2.out))
  clear ho3 ht3 HFL
  go_wp2_with fail
  go_ret2
  rw [HE.out]
  exact ⟨_, rfl, B3.out, fun k hk => by cases hk; exact F2.out, O3.out⟩
theorem gset (xs : List Int) (f i : Nat) (v : Int) (hf : f < xs.length) : (xs.set f v).getD i 0 = if i = f then v else xs.getD i 0 := by
 rw [List.getD_eq_getElem?_getD, List.getElem?_set]
 by_cases e : f = i
 ·subst e
  rw [if_pos rfl, if_pos hf, if_pos rfl]
  rfl
 ·rw [if_neg e, if_neg (fun h => e h.symm), <- List.getD_eq_getElem?_getD]
theorem gout {xs : List Int} {i : Nat} (h : xs.length <= i) : xs.getD i 0 = 0 := by
 simp [List.getD_eq_getElem?_getD, List.getElem?_eq_none h]
theorem zgu9 (xs : List Int) (f : Nat) (v : Int) (hf : f < xs.length) : ∀ k, cumI (xs.set f v) k = cumI xs k + if f < k then v - xs.getD f 0 else 0
 | 0 => by simp [cumI]
 | k + 1 => by
  simp only [cumI]
  rw [zgu9 xs f v hf k, gset _ _ _ _ hf]
  by_cases e : k = f
  ·subst e
   rw [if_pos rfl, if_neg (by omega), if_pos (by omega)]
   omega
  ·rw [if_neg e]
   by_cases e2 : f < k
   ·rw [if_pos e2, if_pos (by omega)]; omega
   ·rw [if_neg e2, if_neg (by omega)]; omega
theorem zno9 (xs : List Int) (h : ∀ i, xs.getD i 0 <= 1) : ∀ k, cumI xs k <= (std xs k : Int)
 | 0 => by simp [cumI, std]
 | k + 1 => by
  have := zno9 xs h k
  have := h k
  simp only [cumI, std]
  split <;> omega
theorem zee9 (n : Nat) (xs : List Int) : (dn n xs).length = xs.length := by
 induction n generalizing xs with
 | zero => rfl
 | succ n ih => simp only [dn]; rw [ih, List.length_set]
theorem zrk9 (n : Nat) (xs : List Int) : (up n xs).length = xs.length := by
 induction n generalizing xs with
 | zero => rfl
 | succ n ih => simp only [up]; rw [ih, List.length_set]
theorem zdg9 (xs : List Int) (z : Int) : (fil xs z).length = xs.length := by unfold fil; rw [zrk9, zee9]
theorem dn_sum (n : Nat) : ∀ xs : List Int, 0 < xs.length -> cumI (dn n xs) xs.length = cumI xs xs.length - n := by
 induction n with
 | zero => intro xs h; simp [dn]
 | succ n ih =>
  intro xs h
  have hf := fg_lt xs xs.length h
  have := ih (xs.set (fgF xs xs.length) (xs.getD (fgF xs xs.length) 0 - 1)) (by rw [List.length_set]; exact h)
  rw [List.length_set] at this
  simp only [dn]
  rw [this, zgu9 _ _ _ hf, if_pos hf]
  omega
theorem up_sum (n : Nat) : ∀ xs : List Int, 0 < xs.length -> cumI (up n xs) xs.length = cumI xs xs.length + n := by
 induction n with
 | zero => intro xs h; simp [up]
 | succ n ih =>
  intro xs h
  have hf := fg_lt xs xs.length h
  have := ih (xs.set (fgF xs xs.length) (xs.getD (fgF xs xs.length) 0 + 1)) (by rw [List.length_set]; exact h)
  rw [List.length_set] at this
  simp only [up]
  rw [this, zgu9 _ _ _ hf, if_pos hf]
  omega
theorem zaaf9 (xs : List Int) (z : Int) (h : 0 < xs.length) : cumI (fil xs z) xs.length = z := by
 unfold fil
 have h1 := up_sum (z - cumI xs xs.length).toNat (dn (cumI xs xs.length - z).toNat xs) (by rw [zee9]; exact h)
 rw [zee9, dn_sum _ _ h] at h1
 rw [h1]
 omega
theorem zua9 (xs : List Int) (f : Nat) (v : Int) (hf : f < xs.length) (hv : 0 < v) (h0 : 0 < xs.getD f 0) : ∀ k, std (xs.set f v) k = std xs k
 | 0 => rfl
 | k + 1 => by
  simp only [std]
  rw [zua9 xs f v hf hv h0 k, gset _ _ _ _ hf]
  by_cases e : k = f
  ·subst e
   rw [if_pos rfl, if_pos hv, if_pos h0]
  ·rw [if_neg e]
theorem dn_pos (n : Nat) (z : Int) : ∀ xs : List Int, 0 < xs.length -> (∀ i, 0 <= xs.getD i 0) -> (std xs xs.length : Int) <= z -> z + n <= cumI xs xs.length -> ∀ i, 0 <= (dn n xs).getD i 0 /\ (0 < (dn n xs).getD i 0 ↔ 0 < xs.getD i 0) := by
 induction n with
 | zero => intro xs _ h _ _ i; exact ⟨h i, Iff.rfl⟩
 | succ n ih =>
  intro xs hl h hs hz i
  have hf := fg_lt xs xs.length hl
  have hg : 2 <= xs.getD (fgF xs xs.length) 0 := by
   rcases Int.lt_or_le (xs.getD (fgF xs xs.length) 0) 2 with e | e
   ·have := zno9 xs (fun j => by
     by_cases hj : j < xs.length
     ·have := fg_le xs xs.length j hj; omega
     ·rw [gout (by omega)]; omega) xs.length
    omega
   ·exact e
  obtain ⟨f, hfe⟩ : ∃ f, fgF xs xs.length = f := ⟨_, rfl⟩
  rw [hfe] at hf hg
  simp only [dn]
  rw [hfe]
  have hh := ih (xs.set f (xs.getD f 0 - 1)) (by rw [List.length_set]; exact hl) (fun j => by rw [gset _ _ _ _ hf]; split <;> first | omega | exact h j) (by rw [List.length_set, zua9 _ _ _ hf (by omega) (by omega)]; exact hs) (by rw [List.length_set, zgu9 _ _ _ hf, if_pos hf]; omega) i
  refine ⟨hh.1, hh.2.trans ?_⟩
  rw [gset _ _ _ _ hf]
  by_cases e : i = f
  ·subst e; rw [if_pos rfl]; omega
  ·rw [if_neg e]
theorem up_pos (n : Nat) : ∀ xs : List Int, 0 < xs.length -> (∀ i, 0 <= xs.getD i 0) -> (∃ i, 0 < xs.getD i 0) -> ∀ i, 0 <= (up n xs).getD i 0 /\ (0 < (up n xs).getD i 0 ↔ 0 < xs.getD i 0) := by
 induction n with
 | zero => intro xs _ h _ i; exact ⟨h i, Iff.rfl⟩
 | succ n ih =>
  intro xs hl h he i
  have hf := fg_lt xs xs.length hl
  have hg : 0 < xs.getD (fgF xs xs.length) 0 := by
   obtain ⟨j, hj⟩ := he
   have hjl : j < xs.length := by
    by_cases c : j < xs.length
    ·exact c
    ·rw [gout (by omega)] at hj; omega
   have := fg_le xs xs.length j hjl
   omega
  obtain ⟨f, hfe⟩ : ∃ f, fgF xs xs.length = f := ⟨_, rfl⟩
  rw [hfe] at hf hg
  simp only [up]
  rw [hfe]
  have hh := ih (xs.set f (xs.getD f 0 + 1)) (by rw [List.length_set]; exact hl) (fun j => by rw [gset _ _ _ _ hf]; split <;> first | omega | exact h j) ⟨f, by rw [gset _ _ _ _ hf, if_pos rfl]; omega⟩ i
  refine ⟨hh.1, hh.2.trans ?_⟩
  rw [gset _ _ _ _ hf]
  by_cases e : i = f
  ·subst e; rw [if_pos rfl]; omega
  ·rw [if_neg e]
def pt (c : List Int) (z all : Int) (i : Nat) : Int := if c.getD i 0 = 0 then 0 else max 1 (c.getD i 0 * z / all)
theorem zps9 (c : List Int) (z all : Int) : ∀ k, (∀ i, i < (por c z all k).length -> (por c z all k).getD i 0 = pt c z all i) /\ (∀ i, (por c z all k).length <= i -> i < k -> c.getD i 0 = 0) /\ (0 < (por c z all k).length -> c.getD ((por c z all k).length - 1) 0 ≠ 0)
 | 0 => by simp [por]
 | k + 1 => by
  obtain ⟨h1, h2, h3⟩ := zps9 c z all k
  have hl := ziw9 c z all k
  simp only [por]
  by_cases e : c.getD k 0 = 0
  ·rw [if_pos e]
   refine ⟨h1, fun i hi hk => ?_, h3⟩
   by_cases c2 : i = k
   ·rw [c2]; exact e
   ·exact h2 i hi (by omega)
  ·rw [if_neg e]
   obtain ⟨P, hP⟩ : ∃ P, por c z all k = P := ⟨_, rfl⟩
   rw [hP] at h1 h2 h3 hl ⊢
   have hlen : (P ++ List.replicate (k - P.length) 0 ++ [max 1 (c.getD k 0 * z / all)]).length = k + 1 := by simp; omega
   refine ⟨fun i hi => ?_, fun i hi hk => by rw [hlen] at hi; omega, fun _ => by rw [hlen]; exact e⟩
   rw [hlen] at hi
   have hl2 : (P ++ List.replicate (k - P.length) (0 : Int)).length = k := by simp; omega
   rw [zal9, hl2]
   by_cases c2 : i < k
   ·rw [if_pos c2, zal9]
    by_cases c3 : i < P.length
    ·rw [if_pos c3]; exact h1 i c3
    ·rw [if_neg c3]
     have := h2 i (by omega) c2
     unfold pt
     rw [if_pos this, List.getD_eq_getElem?_getD]
     rw [List.getElem?_replicate]
     split <;> rfl
   ·rw [if_neg c2]
    obtain rfl : i = k := by omega
    unfold pt
    rw [if_neg e]
    simp
structure ShOk (c : List Int) (z all : Int) (ps : List Int) : Prop where
 z1 : 1 <= z
 z2 : z <= 512
 a0 : 0 < all
 tot : cumI c c.length = all
 each : ∀ i, 0 <= c.getD i 0
 some_ : 0 < std c c.length
 half : 2 * (std c c.length : Int) <= z
 len : ps.length <= c.length
 len0 : 0 < ps.length
 at_ : ∀ i, ps.getD i 0 = pt c z all i
 last : c.getD (ps.length - 1) 0 ≠ 0
theorem ShOk.pos {c ps : List Int} {z all : Int} (h : ShOk c z all ps) (i : Nat) : 0 <= ps.getD i 0 /\ (0 < ps.getD i 0 ↔ 0 < c.getD i 0) := by
 have := h.each i
 rw [h.at_]
 unfold pt
 split <;> omega
theorem zlw9 {a b : List Int} : ∀ k, (∀ i, i < k -> (0 < a.getD i 0 ↔ 0 < b.getD i 0)) -> std a k = std b k
 | 0, _ => rfl
 | k + 1, h => by
  simp only [std]
  rw [zlw9 k (fun i hi => h i (by omega))]
  have := h k (by omega)
  by_cases e : 0 < b.getD k 0
  ·rw [if_pos e, if_pos (this.2 e)]
  ·rw [if_neg e, if_neg (fun x => e (this.1 x))]
theorem zou9 (a : List Int) {j k : Nat} (h : j <= k) : std a j <= std a k := by
 induction k with
 | zero => obtain rfl : j = 0 := by omega
           exact Nat.le_refl _
 | succ k ih =>
  by_cases e : j = k + 1
  ·rw [e]; exact Nat.le_refl _
  ·have := ih (by omega); simp only [std]; omega
theorem ShOk.fil_pos {c ps : List Int} {z all : Int} (h : ShOk c z all ps) (i : Nat) : 0 <= (fil ps z).getD i 0 /\ (0 < (fil ps z).getD i 0 ↔ 0 < c.getD i 0) := by
 unfold fil
 have hstd : (std ps ps.length : Int) <= z := by
  have h1 : std ps ps.length = std c ps.length := zlw9 _ fun i _ => (h.pos i).2
  have h2 := zou9 c h.len
  have h3 := h.half
  rw [h1]
  omega
 have hd : ∀ i, 0 <= (dn (cumI ps ps.length - z).toNat ps).getD i 0 /\ (0 < (dn (cumI ps ps.length - z).toNat ps).getD i 0 ↔ 0 < ps.getD i 0) := by
  by_cases e : z <= cumI ps ps.length
  ·exact dn_pos _ z ps h.len0 (fun i => (h.pos i).1) hstd (by omega)
  ·rw [show (cumI ps ps.length - z).toNat = 0 by omega]
   intro i
   exact ⟨(h.pos i).1, Iff.rfl⟩
 have hu := up_pos (z - cumI ps ps.length).toNat _ (by rw [zee9]; exact h.len0) (fun i => (hd i).1) ⟨ps.length - 1, by
  rw [(hd _).2, (h.pos _).2]
  have := h.last
  have := h.each (ps.length - 1)
  omega⟩ i
 exact ⟨hu.1, hu.2.trans ((hd i).2.trans (h.pos i).2)⟩
theorem ShOk.of {c : List Int} {log : Int} (hm : mayCF c log = true) : ∃ lg : Nat, log = lg /\ 5 <= lg /\ lg <= 9 /\ c.length <= 64 /\ shR c log = (0, fil (por c (2 ^ lg) (cumI c c.length) c.length) (2 ^ lg)) /\ ShOk c (2 ^ lg) (cumI c c.length) (por c (2 ^ lg) (cumI c c.length) c.length) := by
 have hm2 := hm
 unfold mayCF at hm2
 rw [decide_eq_true_eq] at hm2
 obtain ⟨g1, g2, g3, g4, g5, g6⟩ := hm2
 obtain ⟨lg, rfl⟩ := Int.eq_ofNat_of_zero_le (show 0 <= log by omega)
 obtain ⟨z, hz, hz1, hz2, hpw, hpz⟩ := pow_z (lg := lg) (by omega) (by omega)
 refine ⟨lg, rfl, by omega, by omega, g3, by unfold shR; rw [if_neg (by rw [hm]; simp), Int.toNat_natCast], ?_⟩
 rw [hpz]
 rw [Int.toNat_natCast, hz.out] at g6
 have hc0 : ∀ i, 0 <= c.getD i 0 := fun i => by
  by_cases hi : i < c.length
  ·exact (g4 i hi).1
  ·rw [gout (by omega)]; omega
 obtain ⟨j, hj1, hj2⟩ := znz9 c c.length g5
 have hall : 0 < cumI c c.length := by
  have := zis9 (fun j hj => (g4 j hj).1) hj1
  omega
 obtain ⟨s1, s2, s3⟩ := zps9 c z (cumI c c.length) c.length
 have hl := ziw9 c z (cumI c c.length) c.length
 have hp := zox9 c z (cumI c c.length) c.length g5
 refine ⟨by omega, by omega, hall, rfl, hc0, g5, by omega, hl, hp, fun i => ?_, s3 hp⟩
 by_cases h1 : i < (por c z (cumI c c.length) c.length).length
 ·exact s1 i h1
 ·rw [gout (by omega)]
  unfold pt
  by_cases h2 : i < c.length
  ·rw [if_pos (s2 i (by omega) h2)]
  ·rw [if_pos (gout (by omega))]
theorem ztn9 {c : List Int} {log : Int} (hm : mayCF c log = true) : ∃ s, shR c log = (0, s) /\ mayS s log = true /\ s.length <= c.length /\ ∀ i, 0 < s.getD i 0 ↔ 0 < c.getD i 0 := by
 obtain ⟨lg, rfl, h5, h9, hl, he, hs⟩ := ShOk.of hm
 refine ⟨_, he, ?_, by rw [zdg9]; exact hs.len, fun i => (hs.fil_pos i).2⟩
 unfold mayS
 rw [decide_eq_true_eq]
 have hll := hs.len
 refine ⟨by omega, by omega, by rw [zdg9]; omega, fun i _ => (hs.fil_pos i).1, ?_, ?_⟩
 ·rw [zdg9, Int.toNat_natCast]
  exact zaaf9 _ _ hs.len0
 ·rw [zdg9]
  have h1 := (hs.fil_pos ((por c (2 ^ lg) (cumI c c.length) c.length).length - 1)).2
  have h2 := hs.each ((por c (2 ^ lg) (cumI c c.length) c.length).length - 1)
  have h3 := hs.last
  have := h1.2 (by omega)
  omega
end Go.Proofs.YtobenjkacpipeaaGreat
