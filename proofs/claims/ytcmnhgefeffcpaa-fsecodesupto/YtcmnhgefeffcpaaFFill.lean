/-
  The greatest give or take till the shares are the size together; and Share.
-/
import Derived.Test.YtcmnhgefeffcpaaFPor
namespace Go.Proofs.Ytcmnhgefeffcpaa
open Go.RowKit Pl
set_option linter.unusedVariables false

/-- The first greatest one less, n times; one more, n times. -/
def dn : Nat → List Int → List Int
  | 0, xs => xs
  | n + 1, xs => dn n (xs.set (fgF xs xs.length) (xs.getD (fgF xs xs.length) 0 - 1))
def up : Nat → List Int → List Int
  | 0, xs => xs
  | n + 1, xs => up n (xs.set (fgF xs xs.length) (xs.getD (fgF xs xs.length) 0 + 1))
def fil (xs : List Int) (z : Int) : List Int := up (z - cumI xs xs.length).toNat (dn (cumI xs xs.length - z).toNat xs)

theorem fill_cell {w : World} {g len cap : Nat} {xs : List Int} (h : Owns .i64 3 w (.slice (some ⟨g, 0, none⟩) len cap) xs) (h0 : 0 < xs.length) :
    len = xs.length ∧ (∀ i, i < xs.length → w.cell? ⟨g, 0 + i, none⟩ = some (.int .i64 (xs.getD i 0))) ∧ ∀ i, w.frozen? ⟨g, i, none⟩ = false := by
  obtain ⟨g', cap', e, _, _, _, hc, hf⟩ := h.shape h0
  simp only [Value.slice.injEq, Option.some.injEq, Addr.mk.injEq] at e
  obtain ⟨⟨rfl, _, _⟩, e2, _⟩ := e
  exact ⟨e2, fun i hi => by rw [Nat.zero_add]; exact hc i hi, hf⟩

set_option maxRecDepth 100000 in
set_option maxHeartbeats 2000000 in
theorem fill_any (g cap : Nat) (xs : List Int) (z : Nat) (w : World) (hown : Owns .i64 3 w (.slice (some ⟨g, 0, none⟩) xs.length cap) xs) (h0 : 0 < xs.length) (h1 : xs.length ≤ 64) (hz : z ≤ 512)
    (hb : ∀ i, i < xs.length → 0 ≤ xs.getD i 0 ∧ xs.getD i 0 ≤ 4294967295) :
    Calls Try.prog 64 #[.slice (some ⟨g, 0, none⟩) xs.length cap, .int .i64 z] w fun e w' => (∃ v, e = .returned v) ∧ Owns .i64 3 w' (.slice (some ⟨g, 0, none⟩) xs.length cap) (fil xs z) ∧ Tch (fun k => k = g) w w' := by
  have HO : Hid (Owns .i64 3 w (.slice (some ⟨g, 0, none⟩) xs.length cap) xs) := hown
  have HB : Hid (∀ i, i < xs.length → 0 ≤ xs.getD i 0 ∧ xs.getD i 0 ≤ 4294967295) := hb
  have hsum := cumI_bd (M := 4294967295) (by omega) hb xs.length (Nat.le_refl _)
  obtain ⟨A, hA⟩ : ∃ A, Hid (cumI xs xs.length = A) := ⟨_, rfl⟩
  rw [hA.out] at hsum
  have hA2 : 0 ≤ A ∧ A ≤ 274877906880 := by omega
  obtain ⟨len, hlen⟩ : ∃ len, Hid (xs.length = len) := ⟨_, rfl⟩
  obtain ⟨F, hF⟩ : ∃ F, Hid (fil xs z = F) := ⟨_, rfl⟩
  have HF : Hid (up ((z : Int) - A).toNat (dn (A - z).toNat xs) = F) := by show _ = _; rw [← hF.out]; unfold fil; rw [hA.out]
  rw [hF.out]
  have hs := sumOf_any g 0 cap xs w h1 hb (fill_cell hown h0).2.1
  rw [hA.out, hlen.out] at hs
  rw [hlen.out] at h0 h1 HO ⊢
  clear hown hb hsum
  go_enter Try.func64, Try.ntmps64
  go_wp2_with fail
  refine hs.mono ?_
  clear hs
  rintro e w1 ⟨rfl, rfl⟩
  go_wp2_with fail
  go_loopw [4] (fun t wr => ∃ (r : Int) (ys : List Int), t = .int .i64 r ∧ 0 ≤ r ∧ r ≤ 274877906880 ∧ Hid (ys.length = len) ∧ Hid (r ≤ A ∧ (r = A ∨ z ≤ r)) ∧ Hid (dn (r - z).toNat ys = dn (A - z).toNat xs) ∧ Hid (∀ i, i < len → -274877906880 ≤ ys.getD i 0 - r + A ∧ ys.getD i 0 ≤ 4294967295) ∧ Hid (Owns .i64 3 wr (.slice (some ⟨g, 0, none⟩) len cap) ys) ∧ Hid (Tch (fun k => k = g) w1 wr)) (fun t _ => ((intOf t) - z).toNat)
  case atStart => exact ⟨A, xs, rfl, hA2.1, hA2.2, hlen, ⟨Int.le_refl _, .inl rfl⟩, rfl, fun i hi => by have := HB.out i (by rw [hlen.out]; exact hi); omega, HO, Tch.refl _ _⟩
  case round =>
    obtain ⟨r, ys, rfl, hr0, hr1, HL, HRA, HD, HBB, HO2, T⟩ := hrel
    obtain ⟨f, hf⟩ : ∃ f, Hid (fgF ys len = f) := ⟨_, rfl⟩
    have hfl : f < len := by rw [← hf.out]; exact fg_lt _ _ h0
    obtain ⟨hxx, hcc, hfz⟩ := fill_cell HO2.out (by rw [HL.out]; exact h0)
    clear hxx
    rw [HL.out] at hcc
    obtain ⟨y, hy⟩ : ∃ y, Hid (ys.getD f 0 = y) := ⟨_, rfl⟩
    have cy : wr.cell? ⟨g, f, none⟩ = some (.int .i64 y) := by have := hcc f hfl; rw [Nat.zero_add] at this; rw [this, hy.out]
    have fy := hfz f
    have hgr := greatest_any g 0 cap ys wr (by rw [HL.out]; exact h0) (by rw [HL.out]; exact h1) (by rw [HL.out]; exact hcc)
    rw [HL.out, hf.out] at hgr
    have HGR : Hid (Calls Try.prog 73 #[.slice (some ⟨g, 0, none⟩) len cap] wr fun e w' => e = .returned (.int .i64 (f : Int)) ∧ w' = wr) := hgr
    clear hgr
    have hyb := HBB.out f hfl
    rw [hy.out] at hyb
    clear hcc hfz
    by_cases hgt : (z : Int) < r
    · go_wp2_with fail
      refine HGR.out.mono ?_
      clear HGR
      rintro e w2 ⟨rfl, rfl⟩
      have HO3 : Hid (Owns .i64 3 (w2.setCell ⟨g, f, none⟩ (.int .i64 (y - 1))) (.slice (some ⟨g, 0, none⟩) len cap) (ys.set f (y - 1))) := HO2.out.set f (y - 1)
      have T3 : Hid (Tch (fun k => k = g) w1 (w2.setCell ⟨g, f, none⟩ (.int .i64 (y - 1)))) := Tch.setCell T.out (p := ⟨g, f, none⟩) (fun _ => rfl) _
      have HD3 : Hid (dn (r - 1 - z).toNat (ys.set f (y - 1)) = dn (A - z).toNat xs) := by
        show _ = _
        rw [← HD.out]
        have e : (r - z).toNat = (r - 1 - z).toNat + 1 := by omega
        rw [e]
        simp only [dn]
        rw [HL.out, hf.out, hy.out]
      have HL3 : Hid ((ys.set f (y - 1)).length = len) := by show _ = _; rw [List.length_set]; exact HL.out
      have HBB3 : Hid (∀ i, i < len → -274877906880 ≤ (ys.set f (y - 1)).getD i 0 - (r - 1) + A ∧ (ys.set f (y - 1)).getD i 0 ≤ 4294967295) := fun i hi => by
        have hb := HBB.out i hi
        rw [List.getD_eq_getElem?_getD, List.getElem?_set]
        by_cases e : f = i
        · subst e
          rw [if_pos rfl, if_pos (by rw [HL.out]; exact hi)]
          simp only [Option.getD_some]
          omega
        · rw [if_neg e, ← List.getD_eq_getElem?_getD]
          omega
      have hi0 : (0 : Int) ≤ (f : Int) := by omega
      have hi1 : (f : Int) < (len : Int) := by omega
      clear HO2 T HD HL HBB
      go_wp2_with fail
      go_roundw
      case rel => exact ⟨r - 1, _, by first | rfl | go_num, by omega, by omega, HL3, ⟨by have := HRA.out.1; omega, .inr (by omega)⟩, HD3, HBB3, HO3, T3⟩
      case measure => simp [intOf]; omega
    · have hle : r ≤ (z : Int) := by omega
      have HUP : Hid (up ((z : Int) - r).toNat ys = F) := by
        show _ = _
        have e0 : (r - (z : Int)).toNat = 0 := by omega
        have h2 := HD.out
        rw [e0] at h2
        simp only [dn] at h2
        rw [h2, ← HF.out]
        have e1 : ((z : Int) - r).toNat = ((z : Int) - A).toNat := by have := HRA.out; omega
        rw [e1]
      have HB2 : Hid (∀ i, i < len → -549755813760 ≤ ys.getD i 0 ∧ ys.getD i 0 ≤ 4294967295 + r) := fun i hi => by have := HBB.out i hi; have := HRA.out.1; omega
      clear HGR cy fy hyb HD HBB HRA HF hgt hf hy hfl
      go_wp2_with fail
      go_loopw [4] (fun t wr => ∃ (r : Int) (ys : List Int), t = .int .i64 r ∧ 0 ≤ r ∧ r ≤ (z : Int) ∧ Hid (ys.length = len) ∧ Hid (up ((z : Int) - r).toNat ys = F) ∧ Hid (∀ i, i < len → -549755813760 ≤ ys.getD i 0 ∧ ys.getD i 0 ≤ 4294967295 + r) ∧ Hid (Owns .i64 3 wr (.slice (some ⟨g, 0, none⟩) len cap) ys) ∧ Hid (Tch (fun k => k = g) w1 wr)) (fun t _ => ((z : Int) - intOf t).toNat)
      case atStart => exact ⟨r, ys, rfl, hr0, hle, HL, HUP, HB2, HO2, T⟩
      case round =>
        clear HUP HB2 HO2 T HL hle hr0 hr1
        obtain ⟨r, ys, rfl, hr0, hr1, HL, HU, HBB, HO2, T⟩ := hrel
        obtain ⟨f, hf⟩ : ∃ f, Hid (fgF ys len = f) := ⟨_, rfl⟩
        have hfl : f < len := by rw [← hf.out]; exact fg_lt _ _ h0
        obtain ⟨hxx, hcc, hfz⟩ := fill_cell HO2.out (by rw [HL.out]; exact h0)
        clear hxx
        rw [HL.out] at hcc
        obtain ⟨y, hy⟩ : ∃ y, Hid (ys.getD f 0 = y) := ⟨_, rfl⟩
        have cy : wr.cell? ⟨g, f, none⟩ = some (.int .i64 y) := by have := hcc f hfl; rw [Nat.zero_add] at this; rw [this, hy.out]
        have fy := hfz f
        have hgr := greatest_any g 0 cap ys wr (by rw [HL.out]; exact h0) (by rw [HL.out]; exact h1) (by rw [HL.out]; exact hcc)
        rw [HL.out, hf.out] at hgr
        have HGR : Hid (Calls Try.prog 73 #[.slice (some ⟨g, 0, none⟩) len cap] wr fun e w' => e = .returned (.int .i64 (f : Int)) ∧ w' = wr) := hgr
        clear hgr
        have hyb := HBB.out f hfl
        rw [hy.out] at hyb
        clear hcc hfz
        by_cases hgt : r < (z : Int)
        · go_wp2_with fail
          refine HGR.out.mono ?_
          clear HGR
          rintro e w2 ⟨rfl, rfl⟩
          have HO3 : Hid (Owns .i64 3 (w2.setCell ⟨g, f, none⟩ (.int .i64 (y + 1))) (.slice (some ⟨g, 0, none⟩) len cap) (ys.set f (y + 1))) := HO2.out.set f (y + 1)
          have T3 : Hid (Tch (fun k => k = g) w1 (w2.setCell ⟨g, f, none⟩ (.int .i64 (y + 1)))) := Tch.setCell T.out (p := ⟨g, f, none⟩) (fun _ => rfl) _
          have HU3 : Hid (up ((z : Int) - (r + 1)).toNat (ys.set f (y + 1)) = F) := by
            show _ = _
            rw [← HU.out]
            have e : ((z : Int) - r).toNat = ((z : Int) - (r + 1)).toNat + 1 := by omega
            rw [e]
            simp only [up]
            rw [HL.out, hf.out, hy.out]
          have HL3 : Hid ((ys.set f (y + 1)).length = len) := by show _ = _; rw [List.length_set]; exact HL.out
          have HBB3 : Hid (∀ i, i < len → -549755813760 ≤ (ys.set f (y + 1)).getD i 0 ∧ (ys.set f (y + 1)).getD i 0 ≤ 4294967295 + (r + 1)) := fun i hi => by
            have hb := HBB.out i hi
            rw [List.getD_eq_getElem?_getD, List.getElem?_set]
            by_cases e : f = i
            · subst e
              rw [if_pos rfl, if_pos (by rw [HL.out]; exact hi)]
              simp only [Option.getD_some]
              omega
            · rw [if_neg e, ← List.getD_eq_getElem?_getD]
              omega
          have hi0 : (0 : Int) ≤ (f : Int) := by omega
          have hi1 : (f : Int) < (len : Int) := by omega
          clear HO2 T HU HL HBB
          go_wp2_with fail
          go_roundw
          case rel => exact ⟨r + 1, _, by first | rfl | go_num, by omega, by omega, HL3, HU3, HBB3, HO3, T3⟩
          case measure => simp [intOf]; omega
        · obtain rfl : r = (z : Int) := by omega
          have HE : Hid (ys = F) := by show _ = _; rw [← HU.out]; simp [up]
          clear HGR cy fy hyb
          go_wp2_with fail
          go_end0
          exact ⟨⟨_, rfl⟩, by rw [← HE.out]; exact HO2.out, T.out⟩
end Go.Proofs.Ytcmnhgefeffcpaa
