/-
  Where the program cuts bytes, and where it says that a chunk might end.
-/
import Derived.Test.YtfdnlkhipjjnbaaCLen
import Derived.Test.YtfdnlkhipjjnbaaE64
namespace Go.Proofs.Ytfdnlkhipjjnbaa
open Go.RowKit Pl
set_option linter.unusedVariables false

/-- Lengths as numbers. -/
def il (l : List Nat) : List Int := l.map Int.ofNat
theorem il_len (l : List Nat) : (il l).length = l.length := by simp [il]
theorem il_snoc (l : List Nat) (n : Nat) : il (l ++ [n]) = il l ++ [(n : Int)] := by unfold il; rw [List.map_append]; rfl
theorem il_get (l : List Nat) (i : Nat) : (il l).getD i 0 = (l.getD i 0 : Int) := by
  unfold il
  rw [List.getD_eq_getElem?_getD, List.getD_eq_getElem?_getD, List.getElem?_map]
  cases l[i]? <;> rfl
/-- What a cut of bytes answers. -/
def CutR (xs : List Int) (w : World) (e : Ending) (w' : World) : Prop :=
  (∃ v ls, e = .returned v ∧ Owns .i64 3 w' v (il ls) ∧ Cs (bN xs) xs.length ls ∧ ∀ j, v.ownBlock = some j → w.heap.size ≤ j) ∧ Below w.heap.size w w'

set_option maxRecDepth 100000 in
set_option maxHeartbeats 2000000 in
theorem cut_any (v : Value) (xs : List Int) (w : World) (hr : Rd .u8 w v xs) (hb : By xs) (hL : xs.length ≤ 1000000) :
    Calls Try.prog 12 #[v] w fun e w' => CutR xs w e w' := by
  obtain ⟨hvG, hiG⟩ := zero_of_info info_256
  have HIG : Hid ((Try.prog.info? 46).map (·.size) = some 256) := hiG
  obtain ⟨Z, hZ⟩ : ∃ Z, Hid ((ucs .u32 256 (fun _ => 0)).toArray = Z) := ⟨_, rfl⟩
  rw [hZ.out] at hvG
  have HZ : Hid (Z.size = 256) := by show _ = _; rw [← hZ.out]; exact ucs_size _ _ _
  obtain ⟨F, hF⟩ : ∃ F, Hid (ucs .u32 256 (gs xs) = F) := ⟨_, rfl⟩
  have HSZ : Hid (F.toArray.size = 256) := by show _ = _; rw [← hF.out]; exact ucs_size _ _ _
  have HON : Hid (F.toArray.all (·.oneCell') = true) := by show _ = _; rw [← hF.out]; exact ucs_one _ _ _
  have HR : Hid (Rd .u8 w v xs) := hr
  have HB : Hid (By xs) := hb
  have HGO := gearsOf_any v xs w hr hb
  rw [hF.out] at HGO
  clear hiG hr hb
  go_enter Try.func12, Try.ntmps12
  go_wp2_with fail
  refine HGO.mono ?_
  rintro e w1 ⟨rfl, b1⟩
  have B1 : Hid (Below w.heap.size w w1) := b1
  clear b1 HGO
  obtain ⟨W0, hW0⟩ : ∃ W0, Hid (w1.alloc (.cells F.toArray 46) = W0) := ⟨_, rfl⟩
  go_wp2_with (with_reducible (show wpList _ _ _ (Oper.mk _ (Op.store _ _ _) _ _ _ _ :: _) _ _); refine wpList_store_newS w1 rfl 46 (.tmp 3) (.tmp 7) rfl Z F.toArray ?h1 ?h2 (by rw [HSZ.out]; exact HIG.out) (by rw [HSZ.out, HZ.out]) HON.out ?_; (case h1 => kernel_rfl); (case h2 => kernel_rfl))
  obtain ⟨g, hg⟩ : ∃ g, w1.heap.size = g := ⟨_, rfl⟩
  have U0 : Hid (Uv .u32 W0 g 46 256 (gs xs)) := by
    have h0 := uv_new .u32 w1 46 256 (gs xs)
    rw [hF.out, hW0.out, hg] at h0
    exact h0
  have B0 : Hid (Below w.heap.size w W0) := by rw [← hW0.out]; exact B1.out.alloc B1.out.size _
  have HWG : Hid (w.heap.size ≤ g) := by have := B1.out.size; show _ ≤ _; omega
  rw [hW0.out, hg]
  clear hvG hW0 hg B1
  go_loopw [0, 4] (fun d l wr => ∃ (s : Nat) (ls : List Nat) (d0 l0 : Value), s ≤ xs.length ∧ d0 = d ∧ l0 = l ∧ Hid (Rd .u8 w d0 (xs.drop s)) ∧ Hid (Owns .i64 3 wr l0 (il ls)) ∧ Hid (ls.length ≤ s) ∧ Hid (Cp (bN xs) xs.length s ls) ∧ Hid (Uv .u32 wr g 46 256 (gs xs)) ∧ Hid (∀ j, l0.ownBlock = some j → g < j) ∧ Hid (Below w.heap.size w wr)) (fun d _ _ => match d with | .slice _ l _ => l | _ => 0)
  case atStart => exact ⟨0, [], _, _, Nat.zero_le _, rfl, rfl, HR, (owns_nil _ _ _ : Owns .i64 3 W0 (.slice none 0 0) []), Nat.le_refl _, Cp.start _ _, U0, (fun j e => by cases e), B0⟩
  case round =>
    clear U0 B0
    obtain ⟨s, ls, d0, l0, hs, rfl, rfl, RD, OL, HLS, HCP, UG, HN, B1⟩ := hrel
    obtain ⟨a, cap, hv, hlc, hcm, _⟩ := id RD.out
    rw [List.length_drop] at hv hlc
    obtain ⟨R, hR⟩ : ∃ R, xs.length - s = R := ⟨_, rfl⟩
    rw [hR] at hv hlc
    subst hv
    have hcm2 : cap ≤ 9223372036854775807 := by unfold maxLen at hcm; omega
    by_cases hlt : 0 < R
    · have hR1 : (0 : Int) < (R : Int) := by omega
      have HDL : Hid ((xs.drop s).length = R) := by show _ = _; rw [List.length_drop]; exact hR
      have HCL : Hid (Calls Try.prog 27 #[.pointer (some ⟨g, 0, none⟩), .slice a R cap] wr fun e w' => (∃ n : Nat, e = .returned (.int .i64 (n : Int)) ∧ Cl (fun j => bN xs (s + j)) (min (xs.length - s) 512) n) ∧ w' = wr) := by
        have h := chunkLength_any g (gs xs) (.slice a R cap) (xs.drop s) wr UG.out (fun j hj => by
          rw [List.length_drop] at hj
          rw [bN_drop]
          exact gs_at xs (s + j) (by omega)) (RD.out.below B1.out) (by_drop HB.out s) (by rw [HDL.out]; exact hlt)
        rw [List.length_drop] at h
        have e : bN (xs.drop s) = fun j => bN xs (s + j) := by funext j; exact bN_drop xs s j
        rw [e] at h
        exact h
      clear hlc hcm
      go_wp2_with fail
      refine HCL.out.mono ?_
      rintro e w2 ⟨⟨n, rfl, hcl⟩, rfl⟩
      have hn1 := hcl.pos
      have hn2 := hcl.le
      have CP2 : Hid (Cp (bN xs) xs.length (s + n) (ls ++ [n])) := HCP.out.more hcl
      have hnR : n ≤ R := by omega
      have HLL : Hid ((il ls).length ≤ 1000000) := by show _ ≤ _; rw [il_len]; have := HLS.out; omega
      clear hcl HCL HCP
      go_wp2_with (at_builtin; refine wpList_push _ rfl (.tmp 13) (.tmp 15) 27 rfl 3 .i64 8 elem64 _ (il ls) rfl OL.out (n : Int) rfl (by have := HLL.out; omega) (by have := HLL.out; omega) ?_)
      intro l2 w3 o3 g3
      rw [← il_snoc] at o3
      have O3 : Hid (Owns .i64 3 w3 l2 (il (ls ++ [n]))) := o3
      have U3 : Hid (Uv .u32 w3 g 46 256 (gs xs)) := UG.out.tch g3.tch (fun e => by have := HN.out _ e; omega)
      have N3 : Hid (∀ j, l2.ownBlock = some j → g < j) := fun j hj => by
        rcases g3.fresh j hj with e | e
        · exact HN.out j e
        · have := UG.out.lt; omega
      have B3 : Hid (Below w.heap.size w w3) := (g3.onto B1.out (fun k e => by have := HN.out k e; have := HWG.out; omega)).1
      have HL3 : Hid ((ls ++ [n]).length ≤ s + n) := by show _ ≤ _; rw [List.length_append]; have := HLS.out; simp; omega
      have HNL : Hid (n ≤ (xs.drop s).length) := by rw [HDL.out]; exact hnR
      clear o3 g3 OL UG HN B1 HLS HLL
      go_wp2_with (with_reducible (show wpList _ _ _ (Oper.mk _ (Op.slice _ _ _ _ _) _ _ _ _ :: _) _ _); refine wpList_from _ w rfl (.tmp 17) (.tmp 18) rfl _ (xs.drop s) ?h1 RD.out n ?h2 HNL.out ?_; (case h1 => kernel_rfl); (case h2 => kernel_rfl))
      intro d2 r2
      have R2 : Hid (Rd .u8 w d2 (xs.drop (s + n))) := r2
      obtain ⟨a2, cap2, hv2, _⟩ := id R2.out
      rw [List.length_drop] at hv2
      subst hv2
      clear r2 RD
      go_wp2_with fail
      go_roundw
      case rel => exact ⟨s + n, ls ++ [n], _, _, by omega, rfl, rfl, R2, O3, HL3, CP2, U3, N3, B3⟩
      case measure => simp; omega
    · have hR0 : R = 0 := by omega
      have hRn : ¬ (0 : Int) < (R : Int) := by omega
      have hsL : s = xs.length := by omega
      rw [hsL] at HCP
      have HCS : Hid (Cs (bN xs) xs.length ls) := HCP.out.all
      clear hR hsL HCP
      go_wp2_with fail
      go_ret
      exact ⟨⟨_, ls, rfl, OL.out, HCS.out, fun j hj => by have := HN.out j hj; have := HWG.out; omega⟩, B1.out⟩
end Go.Proofs.Ytfdnlkhipjjnbaa
