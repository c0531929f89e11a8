/-
  A bit is turned.
-/
import Derived.Test.YtaacidgihhcpkaaDPow
import Derived.StillTailTactics
import Derived.Laws.BitsAllLaws
namespace Go.Proofs.Ytaacidgihhcpkaa
open Go.RowKit Go.Maps
set_option linter.unusedVariables false
set_option linter.unusedSimpArgs false
set_option maxRecDepth 100000

theorem trn_ok {k : Nat} (hk : k < 2048) {x : List Int} (hx : x.length = 256) (hb : By x) : (trn k x).length = 256 ∧ By (trn k x) := by
  have h1 := hb (k / 8)
  obtain ⟨y, hy⟩ : ∃ y : Nat, x.getD (k / 8) 0 = (y : Int) := ⟨(x.getD (k / 8) 0).toNat, by omega⟩
  have h2 : y < 2 ^ 8 := by rw [hy] at h1; omega
  have h3 : (2 : Nat) ^ (k % 8) < 2 ^ 8 := Nat.pow_lt_pow_right (by decide) (by omega)
  have h4 := Nat.xor_lt_two_pow h2 h3
  unfold trn
  rw [hy, Int.toNat_natCast]
  refine ⟨by rw [List.length_set]; exact hx, hb.set _ (by omega) (by omega)⟩

set_option maxHeartbeats 1000000 in
theorem turn_any (b i k cap n : Nat) (rows : List (List Int)) (w : World) (h : SecR w (.slice (some ⟨b, 0, none⟩) n cap) rows) (hi : i < rows.length) (hk : k < 2048) :
    Calls Try.prog 43 #[.pointer (some ⟨b, i * 256, none⟩), .int .i64 (k : Int)] w fun e w' => e = .returned (.tuple #[]) ∧ SecR w' (.slice (some ⟨b, 0, none⟩) n cap) (rows.set i (trn k (rows.getD i []))) ∧ Tch (fun j => j = b) w w' := by
  have hj : k / 8 < 256 := by omega
  obtain ⟨hc, hf⟩ := h.cell hi hj
  have hb := (h.1.get hi).2 (k / 8)
  obtain ⟨y, hy⟩ : ∃ y : Nat, (rows.getD i []).getD (k / 8) 0 = (y : Int) := ⟨((rows.getD i []).getD (k / 8) 0).toNat, by omega⟩
  have hy8 : y < 256 := by rw [hy] at hb; omega
  rw [hy] at hc
  have hr8 : k % 8 < 8 := Nat.mod_lt _ (by decide)
  have hp8 : (2 : Nat) ^ (k % 8) < 256 := by have := Nat.pow_lt_pow_right (a := 2) (by decide) hr8; simpa using this
  have HX : Hid (Go.bits .xor .u8 (y : Int) ((2 ^ (k % 8) : Nat) : Int) = ((y ^^^ 2 ^ (k % 8) : Nat) : Int)) := u8_xor_nat y (2 ^ (k % 8)) (by omega) (by omega)
  have HZ : Hid (y ^^^ 2 ^ (k % 8) < 256) := Nat.xor_lt_two_pow (n := 8) (by omega) (by omega)
  have HT : Hid (rows.set i (trn k (rows.getD i [])) = rows.set i ((rows.getD i []).set (k / 8) ((y ^^^ 2 ^ (k % 8) : Nat) : Int))) := by
    show _ = _
    unfold trn
    rw [hy, Int.toNat_natCast]
  have HS : Hid (SecR w (.slice (some ⟨b, 0, none⟩) n cap) rows) := h
  have HI : Hid (i < rows.length ∧ k / 8 < 256) := ⟨hi, hj⟩
  obtain ⟨P, hP⟩ : ∃ P : Nat, 2 ^ (k % 8) = P := ⟨_, rfl⟩
  have hsh : IntKind.u8.wrap (1 * 2 ^ (k % 8)) = (P : Int) := by
    rw [← hP, Int.one_mul]
    have : ((2 : Int) ^ (k % 8)) = ((2 ^ (k % 8) : Nat) : Int) := by simp
    rw [this]
    have : ((2 ^ (k % 8) : Nat) : Int) < 256 := by omega
    simp [IntKind.wrap, IntKind.bits, IntKind.signed]
    omega
  rw [hP] at HX HZ HT
  obtain ⟨j, hjj⟩ : ∃ j, k / 8 = j := ⟨_, rfl⟩
  obtain ⟨r, hrr⟩ : ∃ r, k % 8 = r := ⟨_, rfl⟩
  have hdiv : (k : Int).tdiv 8 = (j : Int) := by rw [← hjj]; rfl
  have hmod : (k : Int).tmod 8 = (r : Int) := by rw [← hrr]; rfl
  rw [hjj] at hc hf HT HI
  rw [hrr] at hsh hr8
  clear h hi hj hb hy hp8 hP hjj hrr
  have hj0 : (0 : Int) ≤ (j : Int) := by omega
  have hj1 : (j : Int) < 256 := by have := HI.out.2; omega
  have hj2 : (j : Int) ≤ 255 := by omega
  have hr0 : (0 : Int) ≤ (r : Int) := by omega
  have hjw : IntKind.i64.wrap (j : Int) = (j : Int) := by rw [IntKind.wrap_i64]; omega
  have hsh2 : IntKind.u8.wrap (2 ^ min r 8) = (P : Int) := by rw [Nat.min_eq_left (by omega), ← hsh, Int.one_mul]
  have hx := HX.out
  obtain ⟨Z, hZ⟩ : ∃ Z : Nat, y ^^^ P = Z := ⟨_, rfl⟩
  rw [hZ] at hx HZ HT
  have S2 : Hid (SecR (w.drew.setCell ⟨b, i * 256 + j, none⟩ (.int .u8 (Z : Int))) (.slice (some ⟨b, 0, none⟩) n cap) (rows.set i ((rows.getD i []).set j (Z : Int)))) := (show SecR w.drew (.slice (some ⟨b, 0, none⟩) n cap) rows from HS.out.tch (S := fun _ => False) (Tch.drew (Tch.refl _ w)) (fun _ _ e => e)).put1 HI.out.1 HI.out.2 (by omega) (by have := HZ.out; omega)
  have T2 : Hid (Tch (fun j => j = b) w (w.drew.setCell ⟨b, i * 256 + j, none⟩ (.int .u8 (Z : Int)))) := Tch.trans (S := fun j => j = b) (S' := fun j => j = b) (Tch.drew (Tch.refl _ w)) (tch_set w.drew b (i * 256 + j) _) (fun _ _ e => e)
  have HPW : Hid ((2 : Int) ^ r % 256 = (P : Int)) := by
    have h1 := hsh2
    rw [Nat.min_eq_left (by omega)] at h1
    rw [← h1]
    simp [IntKind.wrap, IntKind.bits, IntKind.signed, Hid]
  clear hZ hsh HX
  go_enter Try.func43, Try.ntmps43
  go_still_tail 12, (by kernel_rfl)
  go_wp2_with fail
  go_end0
  have hv : Go.bits .xor .u8 (y : Int) ((2 : Int) ^ r % 256) = (Z : Int) := by
    rw [show (2 : Int) ^ r % 256 = (P : Int) from HPW.out]
    exact hx
  rw [hv, HT.out]
  exact ⟨rfl, S2.out, T2.out⟩
end Go.Proofs.Ytaacidgihhcpkaa
