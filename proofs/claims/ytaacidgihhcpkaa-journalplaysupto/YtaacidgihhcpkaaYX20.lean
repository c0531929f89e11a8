import Derived.Test.YtaacidgihhcpkaaYX05
import Derived.Test.YtaacidgihhcpkaaYX19
import Derived.Test.YtaacidgihhcpkaaYX06
import Derived.Deep.RegionHeld3
/-
  The document's Same of rows of rows: those that are the same are the same.
-/
namespace Go.Proofs.Ytaacidgihhcpkaa
open Go.RowKit
set_option linter.unusedVariables false
set_option linter.unusedSimpArgs false
set_option maxRecDepth 100000

theorem RdL.at_ {w wr : World} {a : Option Addr} {n cap : Nat} {rows : List (List Int)} (h : RdL w (.slice a n cap) rows) (hb : Below w.heap.size w wr) {k : Nat} (hk : k < rows.length) : ∃ b o u, a = some ⟨b, o, none⟩ ∧ wr.cell? ⟨b, o + k, none⟩ = some u ∧ Rd .u8 wr u (rows.getD k []) := by
  obtain ⟨a', cap', e, _, _, hc⟩ := h.below hb
  cases e
  rcases hc with e | ⟨b, o, rfl, hc⟩
  · rw [e] at hk; simp at hk
  · obtain ⟨u, c, r⟩ := hc k hk
    exact ⟨b, o, u, rfl, c, r⟩

set_option maxHeartbeats 400000 in
theorem sameL_any (u v : Value) (rows : List (List Int)) (w : World) (hu : RdL w u rows) (hv : RdL w v rows) : Calls Try.prog 26 #[u, v] w fun e w' => e = .returned (.bool true) ∧ Below w.heap.size w w' := by
  obtain ⟨a, ca, rfl, ha1, ha2, _⟩ := id hu
  obtain ⟨b, cb, rfl, hb1, hb2, _⟩ := id hv
  have HU : Hid (RdL w (.slice a rows.length ca) rows) := hu
  have HV : Hid (RdL w (.slice b rows.length cb) rows) := hv
  obtain ⟨n, hn⟩ : ∃ n, Hid (rows.length = n) := ⟨_, rfl⟩
  rw [hn.out] at HU HV ha1 hb1 ⊢
  have hca : ca ≤ 9223372036854775807 := by unfold maxLen at ha2; omega
  have hcb : cb ≤ 9223372036854775807 := by unfold maxLen at hb2; omega
  have hn63 : n ≤ 9223372036854775807 := by omega
  have hne : ((n : Int) != (n : Int)) = false := by simp
  clear hu hv ha2 hb2
  go_enter Try.func26, Try.ntmps26
  go_wp2_with fail
  go_loopw [5] (fun i wr => ∃ k : Nat, k ≤ n ∧ i = .int .i64 k ∧ Hid (Below w.heap.size w wr)) (fun i _ => n - (intOf i).toNat)
  case atStart => exact ⟨0, Nat.zero_le _, rfl, Below.refl _ _⟩
  case round =>
    obtain ⟨k, hk, rfl, BW⟩ := hrel
    by_cases hlt : k < n
    · have hkl : (k : Int) < (n : Int) := by omega
      obtain ⟨ab, ao, x, rfl, cx, rx⟩ := HU.out.at_ BW.out (k := k) (by rw [hn.out]; exact hlt)
      obtain ⟨bb, bo, y, rfl, cy, ry⟩ := HV.out.at_ BW.out (k := k) (by rw [hn.out]; exact hlt)
      have HX := hideP rx
      have HY := hideP ry
      obtain ⟨xa, xc, hx, _⟩ := id rx
      obtain ⟨ya, yc, hy, _⟩ := id ry
      subst hx hy
      have cx' : wr.drew.cell? ⟨ab, ao + k, none⟩ = some (.slice xa (rows.getD k []).length xc) := cx
      have cy' : wr.drew.cell? ⟨bb, bo + k, none⟩ = some (.slice ya (rows.getD k []).length yc) := cy
      have HSM := hideP (same_all _ _ _ wr.drew (HX.out.below (Below.refl _ _).drew) (HY.out.below (Below.refl _ _).drew))
      have HTA := hideP (fun W (hb : Below wr.drew.heap.size wr.drew W) => (Tch.of_below (S := fun _ => False) hb).cell (p := ⟨ab, ao + k, none⟩) (World.block_lt_of_cell? wr.drew ⟨ab, ao + k, none⟩ cx') (fun e => e))
      have HTB := hideP (fun W (hb : Below wr.drew.heap.size wr.drew W) => (Tch.of_below (S := fun _ => False) hb).cell (p := ⟨bb, bo + k, none⟩) (World.block_lt_of_cell? wr.drew ⟨bb, bo + k, none⟩ cy') (fun e => e))
      generalize (rows.getD k []).length = ln at *
      clear rx ry cx cy HX HY
      go_wp2_with fail
      go_region_held3 (fun w' => w'.cell? ⟨ab, ao + k, none⟩ = some (.slice xa ln xc) ∧ w'.cell? ⟨bb, bo + k, none⟩ = some (.slice ya ln yc)) (first | go_keep | exact ⟨cx', cy'⟩ | exact ⟨dx, dy⟩)
        ((go_at_call 31; refine HSM.out.mono ?_; rintro e W2 ⟨rfl, hb2⟩; have B2 : Hid (Below w.heap.size w W2) := BW.out.trans (((Below.refl _ _).drew.trans hb2).mono BW.out.size); have dx : W2.cell? ⟨ab, ao + k, none⟩ = some (.slice xa ln xc) := by rw [HTA.out W2 hb2]; exact cx'
          have dy : W2.cell? ⟨bb, bo + k, none⟩ = some (.slice ya ln yc) := by rw [HTB.out W2 hb2]; exact cy'
          clear hb2))
      clear dx dy cx' cy' HTA HTB HSM
      go_wp2_with fail
      go_roundw
      case rel => exact ⟨k + 1, by omega, by go_num, B2⟩
      case measure => simp [intOf]; omega
    · have hkl : ¬ (k : Int) < (n : Int) := by omega
      go_wp2_with fail
      go_ret
      exact ⟨rfl, BW.out⟩
end Go.Proofs.Ytaacidgihhcpkaa
