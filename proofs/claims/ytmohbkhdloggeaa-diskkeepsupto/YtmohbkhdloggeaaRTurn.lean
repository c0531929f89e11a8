/-
  A bit is turned: the document's.
-/
import Derived.Test.YtmohbkhdloggeaaRSm
import Derived.Test.YtmohbkhdloggeaaDTurn
namespace Go.Proofs.Ytmohbkhdloggeaa
open Go.RowKit Go.Maps
set_option linter.unusedVariables false
set_option linter.unusedSimpArgs false
set_option maxRecDepth 100000

set_option maxHeartbeats 1000000 in
theorem refTurned_any (k : Nat) (v : Value) (x : List Int) (w : World) (hr : Rd .u8 w v x) (hx : x.length = 256) (hbx : By x) (hk : k < 2048) :
    Calls Try.prog 42 #[v, .int .i64 (k : Int)] w fun e w' => ∃ v', e = .returned v' ∧ Owns .u8 5 w' v' (trn k x) ∧ Below w.heap.size w w' ∧ ∀ j, v'.ownBlock = some j → w.heap.size ≤ j := by
  have hj : k / 8 < 256 := by omega
  have hb := hbx (k / 8)
  obtain ⟨y, hy⟩ : ∃ y : Nat, x.getD (k / 8) 0 = (y : Int) := ⟨(x.getD (k / 8) 0).toNat, by omega⟩
  have hy8 : y < 256 := by rw [hy] at hb; omega
  have hr8 : k % 8 < 8 := Nat.mod_lt _ (by decide)
  have hp8 : (2 : Nat) ^ (k % 8) < 256 := by have := Nat.pow_lt_pow_right (a := 2) (by decide) hr8; simpa using this
  have HX : Hid (Go.bits .xor .u8 (y : Int) ((2 ^ (k % 8) : Nat) : Int) = ((y ^^^ 2 ^ (k % 8) : Nat) : Int)) := u8_xor_nat y (2 ^ (k % 8)) (by omega) (by omega)
  have HZ : Hid (y ^^^ 2 ^ (k % 8) < 256) := Nat.xor_lt_two_pow (n := 8) (by omega) (by omega)
  have HT : Hid (trn k x = x.set (k / 8) ((y ^^^ 2 ^ (k % 8) : Nat) : Int)) := by
    show _ = _
    unfold trn
    rw [hy, Int.toNat_natCast]
  have HR : Hid (Rd .u8 w v x) := hr
  have HXL : Hid (x.length = 256) := hx
  obtain ⟨P, hP⟩ : ∃ P : Nat, 2 ^ (k % 8) = P := ⟨_, rfl⟩
  have hsh : IntKind.u8.wrap (1 * 2 ^ (k % 8)) = (P : Int) := by
    rw [← hP, Int.one_mul]
    have : ((2 : Int) ^ (k % 8)) = ((2 ^ (k % 8) : Nat) : Int) := by simp
    rw [this]
    have : ((2 ^ (k % 8) : Nat) : Int) < 256 := by omega
    simp [IntKind.wrap, IntKind.bits, IntKind.signed]
    omega
  rw [hP] at HX HZ HT
  obtain ⟨j, hjj⟩ : ∃ j, k / 8 = j := ⟨_, rfl⟩
  obtain ⟨r, hrr⟩ : ∃ r, k % 8 = r := ⟨_, rfl⟩
  have hdiv : (k : Int).tdiv 8 = (j : Int) := by rw [← hjj]; rfl
  have hmod : (k : Int).tmod 8 = (r : Int) := by rw [← hrr]; rfl
  rw [hjj] at HT hj
  rw [hrr] at hsh hr8
  have HY : Hid (x.getD j 0 = (y : Int)) := by rw [← hjj]; exact hy
  have HJ : Hid (j < 256) := hj
  have HS : Hid (∀ w2 v2, Owns .u8 5 w2 v2 x → ∃ g cap, v2 = .slice (some ⟨g, 0, none⟩) 256 cap ∧ w2.cell? ⟨g, j, none⟩ = some (.int .u8 (y : Int)) ∧ w2.frozen? ⟨g, j, none⟩ = false) := fun w2 v2 h2 => by
    obtain ⟨g, cap, rfl, h3, h4, h5, h6, h7⟩ := h2.shape (by rw [HXL.out]; decide)
    refine ⟨g, cap, by rw [HXL.out], ?_, h7 j⟩
    rw [h6 j (by rw [HXL.out]; exact HJ.out), HY.out]
  have hj1 : (j : Int) < 256 := by omega
  have hj2 : (j : Int) ≤ 255 := by omega
  clear hb hy hp8 hP hjj hrr hr hx hbx hj
  have hj0 : (0 : Int) ≤ (j : Int) := by omega
  have hr0 : (0 : Int) ≤ (r : Int) := by omega
  have hjw : IntKind.i64.wrap (j : Int) = (j : Int) := by rw [IntKind.wrap_i64]; omega
  have hsh2 : IntKind.u8.wrap (2 ^ min r 8) = (P : Int) := by rw [Nat.min_eq_left (by omega), ← hsh, Int.one_mul]
  have hx := HX.out
  obtain ⟨Z, hZ⟩ : ∃ Z : Nat, y ^^^ P = Z := ⟨_, rfl⟩
  rw [hZ] at hx HZ HT
  have HPW : Hid ((2 : Int) ^ r % 256 = (P : Int)) := by
    have h1 := hsh2
    rw [Nat.min_eq_left (by omega)] at h1
    rw [← h1]
    simp [IntKind.wrap, IntKind.bits, IntKind.signed, Hid]
  clear hZ hsh HX
  go_enter Try.func42, Try.ntmps42
  go_wp2_with (at_builtin; refine Hid.out ?_)
  refine hideP ?_
  refine wpList_many w rfl (.tmp 6) (.tmp 7) 41 rfl 5 .u8 1 elem8 (.slice none 0 0) [] rfl (owns_nil _ _ _) _ x rfl HR.out (by rw [HXL.out]; decide) (by rw [HXL.out]; decide) ?_
  intro v2 w2 ho2 hg2
  obtain ⟨g, cap, rfl, cg, fg⟩ := HS.out w2 v2 ho2
  have O2 : Hid (Owns .u8 5 (w2.drew.setCell ⟨g, j, none⟩ (.int .u8 (Z : Int))) (.slice (some ⟨g, 0, none⟩) 256 cap) (x.set j (Z : Int))) := (show Owns .u8 5 w2.drew (.slice (some ⟨g, 0, none⟩) 256 cap) x from ho2.tch (S := fun _ => False) (Tch.drew (Tch.refl _ w2)) (fun _ _ e => e)).set j (Z : Int)
  have F2 : Hid (w.heap.size ≤ g) := hg2.below.2 g rfl
  have B2 : Hid (Below w.heap.size w (w2.drew.setCell ⟨g, j, none⟩ (.int .u8 (Z : Int)))) := by
    have h1 := hg2.below.1
    exact h1.trans ((Tch.trans (S := fun k => k = g) (S' := fun k => k = g) (Tch.drew (Tch.refl _ w2)) (tch_set w2.drew g j _) (fun _ _ e => e)).below h1.size (fun k e => by rw [e]; exact F2.out))
  clear ho2 hg2 HS
  go_wp2_with fail
  go_still_tail 13, (by kernel_rfl)
  go_wp2_with fail
  go_ret
  have hv : Go.bits .xor .u8 (y : Int) ((2 : Int) ^ r % 256) = (Z : Int) := by
    rw [show (2 : Int) ^ r % 256 = (P : Int) from HPW.out]
    exact hx
  rw [hv, HT.out]
  exact ⟨_, rfl, O2.out, B2.out, fun k hk => by cases hk; exact F2.out⟩
end Go.Proofs.Ytmohbkhdloggeaa
