/-
  Where the document cuts bytes.
-/
import Derived.Test.YtfdnlkhipjjnbaaCRef
import Derived.Test.YtfdnlkhipjjnbaaSPush
namespace Go.Proofs.Ytfdnlkhipjjnbaa
open Go.RowKit Pl
set_option linter.unusedVariables false

/-- The gears known behind k bytes, as a row. -/
def gk (xs : List Int) (k : Nat) : List Int := (List.range 256).map fun i => ((if stn xs k i then gr i else 0 : Nat) : Int)
theorem gk_len (xs : List Int) (k : Nat) : (gk xs k).length = 256 := by simp [gk]
theorem gk_get (xs : List Int) (k i : Nat) (h : i < 256) : (gk xs k).getD i 0 = ((if stn xs k i then gr i else 0 : Nat) : Int) := by
  simp [gk, List.getD_eq_getElem?_getD, h]
theorem gk_start (xs : List Int) : gk xs 0 = List.replicate 256 0 := by
  unfold gk stn
  simp [List.map_const']
theorem gk_step (xs : List Int) (k : Nat) (h : bN xs k < 256) : gk xs (k + 1) = (gk xs k).set (bN xs k) (gr (bN xs k) : Int) := by
  apply List.ext_getElem?
  intro j
  rw [List.getElem?_set]
  unfold gk
  by_cases hj : j < 256
  · by_cases e : bN xs k = j
    · rw [if_pos e, if_pos (by simpa using h)]
      simp [hj, stn_step, e]
    · rw [if_neg e]
      have hne : ¬ j = bN xs k := fun h => e h.symm
      simp [hj, stn_step, hne]
  · have hne : ¬ bN xs k = j := by omega
    rw [if_neg hne, List.getElem?_eq_none (by simp; omega), List.getElem?_eq_none (by simp; omega)]
theorem gk_same (xs : List Int) (k : Nat) (h : bN xs k < 256) (h0 : (gk xs k).getD (bN xs k) 0 ≠ 0) : gk xs (k + 1) = gk xs k := by
  rw [gk_get xs k _ h] at h0
  have hs : stn xs k (bN xs k) = true := by
    by_cases c : stn xs k (bN xs k) = true
    · exact c
    · simp [c] at h0
  unfold gk
  refine List.map_congr_left fun i _ => ?_
  rw [stn_step]
  by_cases e : i = bN xs k
  · rw [if_pos e, e, hs]
  · rw [if_neg e]

set_option maxRecDepth 100000 in
set_option maxHeartbeats 4000000 in
theorem refCut_any (v : Value) (xs : List Int) (w : World) (hr : Rd .u8 w v xs) (hb : By xs) (hL : xs.length ≤ 1000000) :
    Calls Try.prog 13 #[v] w fun e w' => CutR xs w e w' := by
  obtain ⟨a, cap, hv, hlc, hcm, _, hcc⟩ := id hr
  subst hv
  have HB : Hid (By xs) := hb
  have HCC : Hid (xs = [] ∨ ∃ b o, a = some ⟨b, o, none⟩ ∧ ∀ i, i < xs.length → w.cell? ⟨b, o + i, none⟩ = some (.int .u8 (xs.getD i 0))) := hcc
  have hcm2 : cap ≤ 9223372036854775807 := by unfold maxLen at hcm; omega
  clear hr hb hcm hcc
  obtain ⟨j0, hj, hy0, hy1, hy2⟩ := elem64.info
  go_enter Try.func13, Try.ntmps13
  go_wp2_with (at_make; refine wpList_make_full _ rfl (.const (.int .i64 256)) (.const (.int .i64 256)) 27 rfl 0 3 j0 _ 1 Try.underlying27 hj hy0 hy1 .i64 .i64 _ _ 256 rfl rfl rfl rfl (by rw [hy2]; omega) (by unfold maxLen; omega) (Nat.zero_le _) ?_)
  intro w2 ho2 hg2
  have b2 : Below w.heap.size w w2 := (Below.refl _ _).grown hg2 (Nat.le_refl _) (fun k e => by cases e)
  obtain ⟨g, hg⟩ : ∃ g, w.heap.size = g := ⟨_, rfl⟩
  have O2 : Hid (Owns .i64 3 w2 (.slice (some ⟨g, 0, none⟩) 256 256) (gk xs 0)) := by
    show w2.ownsRow _ _ _ _ _ _
    rw [toList_madeCells_one, hg] at ho2
    rw [gk_start]
    simp only [List.length_replicate, List.map_replicate]
    exact ho2
  have B2 : Hid (Below w.heap.size w w2) := b2
  rw [hg]
  clear ho2 hg2 b2 hj hy0 hy1 hy2
  go_wp2_with fail
  go_loopw [4] (fun i wr => ∃ k : Nat, k ≤ xs.length ∧ i = .int .i64 k ∧ Hid (Owns .i64 3 wr (.slice (some ⟨g, 0, none⟩) 256 256) (gk xs k)) ∧ Hid (Below w.heap.size w wr)) (fun i _ => xs.length - (intOf i).toNat)
  case atStart => exact ⟨0, Nat.zero_le _, rfl, O2, B2⟩
  case round =>
    clear O2 B2
    obtain ⟨k, hk, rfl, O1, B1⟩ := hrel
    by_cases hlt : k < xs.length
    · obtain ⟨ab, ao, ha, hc0⟩ : ∃ b o, a = some ⟨b, o, none⟩ ∧ ∀ i, i < xs.length → w.cell? ⟨b, o + i, none⟩ = some (.int .u8 (xs.getD i 0)) := by
        rcases HCC.out with h | h
        · rw [h] at hlt; simp at hlt
        · exact h
      subst ha
      have HAL : Hid (ab < w.heap.size) := World.block_lt_of_cell? w ⟨ab, ao + k, none⟩ (hc0 k hlt)
      have cx : wr.cell? ⟨ab, ao + k, none⟩ = some (.int .u8 (bN xs k : Int)) := by
        rw [B1.out.cell (p := ⟨ab, ao + k, none⟩) HAL.out, hc0 k hlt, bN_eq HB.out]
      have hbl := bN_lt HB.out k
      obtain ⟨g', cp', hv', hgl', _, _, hcell', hfz'⟩ := O1.out.shape (by rw [gk_len]; decide)
      simp only [Value.slice.injEq, Option.some.injEq, Addr.mk.injEq] at hv'
      obtain ⟨⟨rfl, _⟩, hx1, hx2⟩ := hv'
      clear hx1 hx2
      have cg := hcell' (bN xs k) (by rw [gk_len]; exact hbl)
      have fg := hfz' (bN xs k)
      have hi1 : (k : Int) < (xs.length : Int) := by omega
      by_cases hz : (gk xs k).getD (bN xs k) 0 = 0
      · rw [hz] at cg
        have HST := gk_step xs k hbl
        have HGR : Hid (∀ W, Calls Try.prog 16 #[.int .u8 (bN xs k : Int)] W fun e w' => e = .returned (.int .i64 (gr (bN xs k) : Int)) ∧ Below W.heap.size W w') := fun W => refGear_any _ W hbl
        have HSET : Hid (∀ W, Below wr.heap.size wr W → Owns .i64 3 (W.setCell ⟨g, bN xs k, none⟩ (.int .i64 (gr (bN xs k) : Int))) (.slice (some ⟨g, 0, none⟩) 256 256) (gk xs (k + 1))) := fun W hW => by
          rw [HST]; exact (O1.out.below hW).set _ _
        have HGL : Hid (g < wr.heap.size) := hgl'
        generalize gr (bN xs k) = G at *
        generalize bN xs k = b at *
        have hb256 : (b : Int) < 256 := by omega
        have HKE : Hid (∀ W, Below wr.heap.size wr W → W.cell? ⟨ab, ao + k, none⟩ = some (.int .u8 (b : Int)) ∧ W.cell? ⟨g, b, none⟩ = some (.int .i64 0) ∧ W.frozen? ⟨g, b, none⟩ = false) := fun W hW => by
          refine ⟨?_, ?_, ?_⟩
          · rw [hW.cell (p := ⟨ab, ao + k, none⟩) (Nat.lt_of_lt_of_le HAL.out B1.out.size)]; exact cx
          · rw [hW.cell (p := ⟨g, b, none⟩) HGL.out]; exact cg
          · have := (O1.out.below hW).shape (by rw [gk_len]; decide)
            obtain ⟨g', cp', hv', _, _, _, _, hfz'⟩ := this
            simp only [Value.slice.injEq, Option.some.injEq, Addr.mk.injEq] at hv'
            obtain ⟨⟨rfl, _⟩, _⟩ := hv'
            exact hfz' b
        have hne1 : ab ≠ g := by have := HAL.out; omega
        have hne2 : g ≠ ab := by have := HAL.out; omega
        have hb0 : (0 : Int) ≤ (b : Int) := by omega
        clear hc0 hcell' hfz' HST hz hgl'
        go_wp2_with fail
        go_region_held3 (fun w' => w'.cell? ⟨ab, ao + k, none⟩ = some (.int .u8 (b : Int))) (go_keep)
          (first
            | (go_at_call 16; refine (HGR.out _).mono ?_; rintro e W3 ⟨rfl, hb3⟩; have BW3 : Hid (Below wr.heap.size wr W3) := (Below.trans (by first | exact Below.refl _ _ | exact (Below.refl _ _).drew) (hb3.mono (by first | exact Nat.le_refl _ | simp))); clear hb3; obtain ⟨e7, ew, ef⟩ := HKE.out _ BW3.out))
        have O3 : Hid (Owns .i64 3 (W3.setCell ⟨g, b, none⟩ (.int .i64 (G : Int))) (.slice (some ⟨g, 0, none⟩) 256 256) (gk xs (k + 1))) := HSET.out _ BW3.out
        have B3 : Hid (Below w.heap.size w (W3.setCell ⟨g, b, none⟩ (.int .i64 (G : Int)))) := by
          have h1 : Below w.heap.size w W3 := B1.out.trans (BW3.out.mono B1.out.size)
          exact h1.trans ((Tch.setCell (Tch.refl (fun j => j = g) W3) (p := ⟨g, b, none⟩) (fun _ => rfl) _).below h1.size (fun j e => by rw [e]; omega))
        clear HSET HKE HGR BW3 O1 B1
        go_wp2_with fail
        go_roundw
        case rel => exact ⟨k + 1, by omega, by go_num, O3, B3⟩
        case measure => simp [intOf]; omega
      · have HST : Hid (gk xs (k + 1) = gk xs k) := gk_same xs k hbl hz
        have O3 : Hid (Owns .i64 3 wr (.slice (some ⟨g, 0, none⟩) 256 256) (gk xs (k + 1))) := by rw [HST.out]; exact O1
        obtain ⟨z, hzz⟩ : ∃ z, (gk xs k).getD (bN xs k) 0 = z := ⟨_, rfl⟩
        rw [hzz] at cg hz
        have hz2 : (z == 0) = false := by simpa using hz
        generalize bN xs k = b at *
        have hb256 : (b : Int) < 256 := by omega
        clear hc0 hcell' hfz' O1 hzz
        go_wp2_with fail
        go_roundw
        case rel => exact ⟨k + 1, by omega, by go_num, O3, B1⟩
        case measure => simp [intOf]; omega
    · have hk0 : k = xs.length := by omega
      rw [hk0] at O1
      have hkn : ¬ (k : Int) < (xs.length : Int) := by omega
      have RG : Hid (Rd .i64 wr (.slice (some ⟨g, 0, none⟩) 256 256) (gk xs xs.length)) := O1.out.rd
      obtain ⟨g', cp', hv', hgl', _, _, hcell', _⟩ := O1.out.shape (by rw [gk_len]; decide)
      simp only [Value.slice.injEq, Option.some.injEq, Addr.mk.injEq] at hv'
      obtain ⟨⟨rfl, _⟩, hx1, hx2⟩ := hv'
      clear hx1 hx2
      have HGC : Hid (∀ j, j < xs.length → wr.cell? ⟨g, bN xs j, none⟩ = some (.int .i64 (gr (bN xs j) : Int))) := fun j hj => by
        have hbl := bN_lt HB.out j
        rw [hcell' _ (by rw [gk_len]; exact hbl), gk_get xs _ _ hbl, stn_has xs _ j hj]
        rfl
      have HGL : Hid (g < wr.heap.size) := hgl'
      obtain ⟨wy, hwy⟩ : ∃ wy : World, wy = wr := ⟨_, rfl⟩
      clear hlt hk hk0 hgl' hcell' O1 RG
      go_wp2_with fail
      rw [← hwy] at HGC HGL B1
      go_loopw [5, 6, 7, 8] (fun o m n i wr => ∃ (k c X s : Nat) (ls : List Nat) (o0 : Value), k ≤ xs.length ∧ s + c = k ∧ c < 512 ∧ i = .int .i64 k ∧ n = .int .i64 c ∧ m = .int .i64 X ∧ X < 4294967296 ∧ o0 = o ∧ Hid (mk (fun j => bN xs (s + j)) c = X) ∧ Hid (∀ j, 1 ≤ j → j ≤ c → ¬ Ht (fun j => bN xs (s + j)) j) ∧ Hid (Cp (bN xs) xs.length s ls) ∧ Hid (ls.length ≤ s) ∧ Hid (Owns .i64 3 wr o0 (il ls)) ∧ Hid (∀ j, o0.ownBlock = some j → wy.heap.size ≤ j) ∧ Hid (Below wy.heap.size wy wr)) (fun _ _ _ i _ => xs.length - (intOf i).toNat)
      case atStart => exact ⟨0, 0, 0, 0, [], _, Nat.zero_le _, rfl, by decide, rfl, rfl, rfl, by decide, rfl, rfl, (fun j h1 h2 => by omega), Cp.start _ _, Nat.le_refl _, (owns_nil _ _ _ : Owns .i64 3 _ (.slice none 0 0) []), (fun j e => by cases e), by rw [hwy]; exact Below.refl _ _⟩
      case round =>
        clear hwy hkn
        obtain ⟨k, c, X, s, ls, o0, hk, hsc, hc512, rfl, rfl, rfl, hX, rfl, HX, HNH, HCP, HLS, OL, HN, BW⟩ := hrel
        by_cases hlt : k < xs.length
        · obtain ⟨ab, ao, ha, hc0⟩ : ∃ b o, a = some ⟨b, o, none⟩ ∧ ∀ i, i < xs.length → w.cell? ⟨b, o + i, none⟩ = some (.int .u8 (xs.getD i 0)) := by
            rcases HCC.out with h | h
            · rw [h] at hlt; simp at hlt
            · exact h
          subst ha
          have hal := World.block_lt_of_cell? w ⟨ab, ao + k, none⟩ (hc0 k hlt)
          have bw2 : Below w.heap.size w wr := B1.out.trans (BW.out.mono B1.out.size)
          have cx : wr.cell? ⟨ab, ao + k, none⟩ = some (.int .u8 (bN xs k : Int)) := by
            rw [bw2.cell (p := ⟨ab, ao + k, none⟩) hal, hc0 k hlt, bN_eq HB.out]
          have cg : wr.cell? ⟨g, bN xs k, none⟩ = some (.int .i64 (gr (bN xs k) : Int)) := by
            rw [BW.out.cell (p := ⟨g, bN xs k, none⟩) HGL.out]; exact HGC.out k hlt
          have hbl := bN_lt HB.out k
          obtain ⟨V, hV⟩ : ∃ V, (2 * X + gr (bN xs k)) % 4294967296 = V := ⟨_, rfl⟩
          have HV : Hid (mk (fun j => bN xs (s + j)) (c + 1) = V) := by
            show (2 * mk (fun j => bN xs (s + j)) c + gr (bN xs (s + c))) % 4294967296 = V
            rw [HX.out, hsc]; exact hV
          have hG := gr_lt (bN xs k)
          generalize gr (bN xs k) = G at hG hV cg
          generalize bN xs k = b at cx cg hbl
          have hb256 : (b : Int) < 256 := by omega
          have hi1 : (k : Int) < (xs.length : Int) := by omega
          obtain ⟨Y, hY⟩ : ∃ Y, 2 * X + G = Y := ⟨_, rfl⟩
          obtain ⟨Y0, hY0⟩ : ∃ Y, 2 * X = Y := ⟨_, rfl⟩
          have y0 : 2 * (X : Int) = (Y0 : Int) := by omega
          have y1 : (Y0 : Int) + (G : Int) = (Y : Int) := by omega
          have y2 : (Y : Int) % 4294967296 = (V : Int) := by omega
          have y3 : (Y : Int).tmod 4294967296 = (V : Int) := by rw [Int.tmod_eq_emod_of_nonneg (by omega)]; exact y2
          have w1 : IntKind.i64.wrap (Y0 : Int) = (Y0 : Int) := by rw [IntKind.wrap_i64]; omega
          have w2 : IntKind.i64.wrap (Y : Int) = (Y : Int) := by rw [IntKind.wrap_i64]; omega
          have w3 : IntKind.i64.wrap (V : Int) = (V : Int) := by rw [IntKind.wrap_i64]; omega
          have hVl : V < 4294967296 := by omega
          clear hY hY0 hV hc0 hX HX
          by_cases h5 : c + 1 = 512
          · have h51 : ((c : Int) + 1 == 512) = true := by rw [beq_iff_eq]; omega
            have h52 : (c : Int) + 1 = 512 := by omega
            have HCL : Hid (Cl (fun j => bN xs (s + j)) (min (xs.length - s) 512) (c + 1)) := ⟨by omega, by omega, fun j h1 h2 => HNH.out j h1 (by omega), .inl (by omega)⟩
            have CP2 : Hid (Cp (bN xs) xs.length (s + (c + 1)) (ls ++ [c + 1])) := HCP.out.more HCL.out
            have HLL : Hid ((il ls).length ≤ 1000000) := by show _ ≤ _; rw [il_len]; have := HLS.out; omega
            have HL3 : Hid ((ls ++ [c + 1]).length ≤ s + (c + 1)) := by show _ ≤ _; rw [List.length_append]; have := HLS.out; simp; omega
            clear HCL HCP
            go_wp2_with (at_builtin; refine wpList_push _ rfl (.tmp 65) (.tmp 67) 27 rfl 3 .i64 8 elem64 _ (il ls) rfl OL.out (512 : Int) rfl (by have := HLL.out; omega) (by have := HLL.out; omega) ?_)
            intro l2 w3 o3 g3
            have e3 : il ls ++ [(512 : Int)] = il (ls ++ [c + 1]) := by rw [il_snoc, h5]; rfl
            rw [e3] at o3
            have O3 : Hid (Owns .i64 3 w3 l2 (il (ls ++ [c + 1]))) := o3
            have N3 : Hid (∀ j, l2.ownBlock = some j → wy.heap.size ≤ j) := (g3.onto BW.out HN.out).2
            have B3 : Hid (Below wy.heap.size wy w3) := (g3.onto BW.out HN.out).1
            clear o3 g3 OL HN BW e3 cx cg HLL HLS
            go_wp2_with fail
            go_roundw
            case rel => exact ⟨k + 1, 0, 0, s + (c + 1), ls ++ [c + 1], _, by omega, by omega, by decide, by go_num, rfl, rfl, by decide, rfl, rfl, (fun j h1 h2 => by omega), CP2, HL3, O3, N3, B3⟩
            case measure => simp [intOf]; omega
          · have h51 : ((c : Int) + 1 == 512) = false := by rw [beq_eq_false_iff_ne]; omega
            have h52 : ¬ (c : Int) + 1 = 512 := by omega
            by_cases h64 : 64 ≤ c + 1
            · have h64a : (64 : Int) ≤ (c : Int) + 1 := by omega
              by_cases hd : V % 128 = 0
              · have hd1 : (V : Int) % 128 = 0 := by omega
                have hd3 : ((V : Int) % 128 == 0) = true := by rw [beq_iff_eq]; omega
                have HCL : Hid (Cl (fun j => bN xs (s + j)) (min (xs.length - s) 512) (c + 1)) := ⟨by omega, by omega, fun j h1 h2 => HNH.out j h1 (by omega), .inr ⟨h64, by rw [HV.out]; exact hd⟩⟩
                have CP2 : Hid (Cp (bN xs) xs.length (s + (c + 1)) (ls ++ [c + 1])) := HCP.out.more HCL.out
                have HLL : Hid ((il ls).length ≤ 1000000) := by show _ ≤ _; rw [il_len]; have := HLS.out; omega
                have HL3 : Hid ((ls ++ [c + 1]).length ≤ s + (c + 1)) := by show _ ≤ _; rw [List.length_append]; have := HLS.out; simp; omega
                clear HCL HCP
                go_wp2_with (at_builtin; refine wpList_push _ rfl (.tmp 65) (.tmp 67) 27 rfl 3 .i64 8 elem64 _ (il ls) rfl OL.out ((c : Int) + 1) rfl (by have := HLL.out; omega) (by have := HLL.out; omega) ?_)
                intro l2 w3 o3 g3
                have e3 : il ls ++ [(c : Int) + 1] = il (ls ++ [c + 1]) := by rw [il_snoc]; rfl
                rw [e3] at o3
                have O3 : Hid (Owns .i64 3 w3 l2 (il (ls ++ [c + 1]))) := o3
                have N3 : Hid (∀ j, l2.ownBlock = some j → wy.heap.size ≤ j) := (g3.onto BW.out HN.out).2
                have B3 : Hid (Below wy.heap.size wy w3) := (g3.onto BW.out HN.out).1
                clear o3 g3 OL HN BW e3 cx cg HLL HLS
                go_wp2_with fail
                go_roundw
                case rel => exact ⟨k + 1, 0, 0, s + (c + 1), ls ++ [c + 1], _, by omega, by omega, by decide, by go_num, rfl, rfl, by decide, rfl, rfl, (fun j h1 h2 => by omega), CP2, HL3, O3, N3, B3⟩
                case measure => simp [intOf]; omega
              · have hd1 : ¬ (V : Int) % 128 = 0 := by omega
                have hd3 : ((V : Int) % 128 == 0) = false := by rw [beq_eq_false_iff_ne]; omega
                have HN2 : Hid (∀ j, 1 ≤ j → j ≤ c + 1 → ¬ Ht (fun j => bN xs (s + j)) j) := fun j h1 h2 => by
                  by_cases e : j = c + 1
                  · subst e; rintro ⟨ha, hb⟩; rw [HV.out] at hb; omega
                  · exact HNH.out j h1 (by omega)
                go_wp2_with fail
                first
                  | exact ⟨⟨k + 1, c + 1, V, s, ls, _, by omega, by omega, by omega, by go_num, by go_num, rfl, hVl, rfl, HV, HN2, HCP, HLS, OL, HN, BW⟩, by simp [intOf]; omega⟩
                  | (go_roundw
                     case rel => exact ⟨k + 1, c + 1, V, s, ls, _, by omega, by omega, by omega, by go_num, by go_num, rfl, hVl, rfl, HV, HN2, HCP, HLS, OL, HN, BW⟩
                     case measure => simp [intOf]; omega)
            · have h64a : ¬ (64 : Int) ≤ (c : Int) + 1 := by omega
              have h64b : (c : Int) + 1 < 64 := by omega
              have HN2 : Hid (∀ j, 1 ≤ j → j ≤ c + 1 → ¬ Ht (fun j => bN xs (s + j)) j) := fun j h1 h2 => by
                by_cases e : j = c + 1
                · subst e; rintro ⟨ha, hb⟩; rw [HV.out] at hb; omega
                · exact HNH.out j h1 (by omega)
              go_wp2_with fail
              first
                | exact ⟨⟨k + 1, c + 1, V, s, ls, _, by omega, by omega, by omega, by go_num, by go_num, rfl, hVl, rfl, HV, HN2, HCP, HLS, OL, HN, BW⟩, by simp [intOf]; omega⟩
                | (go_roundw
                   case rel => exact ⟨k + 1, c + 1, V, s, ls, _, by omega, by omega, by omega, by go_num, by go_num, rfl, hVl, rfl, HV, HN2, HCP, HLS, OL, HN, BW⟩
                   case measure => simp [intOf]; omega)
        · have hk0 : k = xs.length := by omega
          have hkn : ¬ (k : Int) < (xs.length : Int) := by omega
          by_cases hc : 0 < c
          · have hc1 : (0 : Int) < (c : Int) := by omega
            have HCL : Hid (Cl (fun j => bN xs (s + j)) (min (xs.length - s) 512) c) := ⟨by omega, by omega, fun j h1 h2 => HNH.out j h1 (by omega), .inl (by omega)⟩
            have CP2 := HCP.out.more HCL.out
            rw [show s + c = xs.length by omega] at CP2
            have HCS : Hid (Cs (bN xs) xs.length (ls ++ [c])) := CP2.all
            have HLL : Hid ((il ls).length ≤ 1000000) := by show _ ≤ _; rw [il_len]; have := HLS.out; omega
            clear HCL HCP CP2 hk0 hlt
            go_wp2_with (at_builtin; refine wpList_push _ rfl (.tmp 71) (.tmp 73) 27 rfl 3 .i64 8 elem64 _ (il ls) rfl OL.out (c : Int) rfl (by have := HLL.out; omega) (by have := HLL.out; omega) ?_)
            intro l2 w3 o3 g3
            rw [← il_snoc] at o3
            have O3 : Hid (Owns .i64 3 w3 l2 (il (ls ++ [c]))) := o3
            have N3 : Hid (∀ j, l2.ownBlock = some j → wy.heap.size ≤ j) := (g3.onto BW.out HN.out).2
            have B3 : Hid (Below wy.heap.size wy w3) := (g3.onto BW.out HN.out).1
            clear o3 g3 OL HN BW HLL HLS
            go_wp2_with fail
            go_ret
            exact ⟨⟨_, _, rfl, O3.out, HCS.out, fun j hj => Nat.le_trans B1.out.size (N3.out j hj)⟩, B1.out.trans (B3.out.mono B1.out.size)⟩
          · have hc1 : ¬ (0 : Int) < (c : Int) := by omega
            have hs : s = xs.length := by omega
            rw [hs] at HCP
            have HCS : Hid (Cs (bN xs) xs.length ls) := HCP.out.all
            clear HCP hs hk0 hlt
            go_wp2_with fail
            go_ret
            exact ⟨⟨_, _, rfl, OL.out, HCS.out, fun j hj => Nat.le_trans B1.out.size (HN.out j hj)⟩, B1.out.trans (BW.out.mono B1.out.size)⟩
end Go.Proofs.Ytfdnlkhipjjnbaa
