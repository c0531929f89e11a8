/-
  A number laid into a sector, and read from there.
-/
import Derived.Test.YtdicgaepggffbaaUFv
import Derived.Laws.CopyOwn
import Derived.StillTailTactics
import Derived.Test.YtdicgaepggffbaaSRefX
namespace Go.Proofs.Ytdicgaepggffbaa
open Go.RowKit Pl
set_option linter.unusedVariables false
set_option linter.unusedSimpArgs false
set_option maxRecDepth 100000

theorem spliceU_snoc {xs ys : List Int} {a j : Nat} (y : Int) (hj : ys.length = j) (h : a + j < xs.length) : (splice xs a ys).set (a + j) y = splice xs a (ys ++ [y]) := by
  unfold splice
  have hl : (xs.take a).length = a := by rw [List.length_take]; omega
  rw [List.set_append_right _ _ (by omega), hl, show a + j - a = j by omega, List.set_append_right _ _ (by omega), hj, Nat.sub_self]
  rw [List.drop_eq_getElem_cons (show a + j < xs.length from h), List.set_cons_zero, List.length_append, hj, List.append_assoc]
  rfl
theorem spliceU_nil (xs : List Int) (a : Nat) : splice xs a [] = xs := by
  unfold splice
  simp
theorem spliceU_len {xs ys : List Int} {a : Nat} (h : a + ys.length ≤ xs.length) : (splice xs a ys).length = xs.length := by
  unfold splice
  simp only [List.length_append, List.length_take, List.length_drop]
  omega

theorem sh_emod (N j : Nat) : ((N : Int) / 2 ^ (8 * j)) % 256 = (N : Int) / 256 ^ j % 256 := by
  rw [Int.pow_mul]
  rfl

set_option maxHeartbeats 400000 in
theorem setU_any (g at_ k N : Nat) (xs : List Int) (w : World) (h : Fu w g xs) (hN : N < 9223372036854775807) (hk : k ≤ 4) (ha : at_ + k ≤ 256) :
    Calls Try.prog 54 #[.pointer (some ⟨g, 0, none⟩), .int .i64 (at_ : Int), .int .i64 (k : Int), .int .i64 (N : Int)] w fun e w' => e = .returned (.tuple #[]) ∧ Fu w' g (splice xs at_ (leN k (N : Int))) ∧ Tch (fun j => j = g) w w' := by
  have HF : Hid (Fu w g xs) := h
  have hgl : Hid (g < w.heap.size) := h.lt
  have HL : Hid (xs.length = 256) := h.2.1
  clear h
  go_enter Try.func54, Try.ntmps54
  go_wp2_with fail
  go_loopw [10] (fun i wr => ∃ j : Nat, j ≤ k ∧ i = .int .i64 j ∧ Hid (Fu wr g (splice xs at_ (leN j (N : Int)))) ∧ Hid (Tch (fun j => j = g) w wr)) (fun i _ => k - (intOf i).toNat)
  case atStart => exact ⟨0, Nat.zero_le _, rfl, by rw [show leN 0 (N : Int) = [] from rfl, spliceU_nil]; exact HF, Tch.refl _ _⟩
  case round =>
    clear HF
    obtain ⟨j, hj, rfl, F, T⟩ := hrel
    by_cases hlt : j < k
    · obtain ⟨y, hy⟩ : ∃ y : Nat, N / 2 ^ (8 * j) % 256 = y := ⟨_, rfl⟩
      have hy2 : y < 256 := by rw [← hy]; exact Nat.mod_lt _ (by decide)
      obtain ⟨m, hm⟩ : ∃ m, 8 * j = m := ⟨_, rfl⟩
      have hy1 : (N : Int) / 2 ^ m % 256 = (y : Int) := by
        rw [← hy, ← hm, Int.natCast_emod, Int.natCast_ediv, Int.natCast_pow]
        rfl
      have hst : (splice xs at_ (leN j (N : Int))).set (at_ + j) (y : Int) = splice xs at_ (leN (j + 1) (N : Int)) := by
        rw [spliceU_snoc _ (leN_len j _) (by rw [HL.out]; omega), leN_succ, ← sh_emod, hm, hy1]
      have hm1 : 8 * (j : Int) = (m : Int) := by omega
      have hm2 : (m : Int) ≤ 24 := by omega
      obtain ⟨p, hp⟩ : ∃ p, at_ + j = p := ⟨_, rfl⟩
      have hp1 : (at_ : Int) + (j : Int) = (p : Int) := by omega
      have hp2 : (p : Int) < 256 := by omega
      rw [hp] at hst
      have cp := F.out.cell (i := p) (by omega)
      have fp := F.out.fz p
      have F1 : Hid (Fu (wr.setCell ⟨g, p, none⟩ (.int .u8 (y : Int))) g (splice xs at_ (leN (j + 1) (N : Int)))) := by
        have := F.out.set p (y := (y : Int)) (by omega) (by omega)
        rw [hst] at this
        exact this
      have T1 : Hid (Tch (fun j => j = g) w (wr.setCell ⟨g, p, none⟩ (.int .u8 (y : Int)))) := Tch.setCell T.out (p := ⟨g, p, none⟩) (fun _ => rfl) _
      generalize (splice xs at_ (leN j (N : Int))).getD p 0 = z at cp
      have hjk : (j : Int) < (k : Int) := by omega
      clear F T hy hm hp hst
      have w1 : IntKind.i64.wrap (p : Int) = (p : Int) := by rw [IntKind.wrap_i64]; omega
      have w2 : IntKind.i64.wrap (m : Int) = (m : Int) := by rw [IntKind.wrap_i64]; omega
      go_wp2_with fail
      go_still_tail 11, (by kernel_rfl)
      go_wp2_with fail
      go_roundw
      case rel => exact ⟨j + 1, by omega, by go_num, F1, T1.out.drew⟩
      case measure => simp [intOf]; omega
    · have hnn : ¬ (j : Int) < (k : Int) := by omega
      have hjk : j = k := by omega
      rw [hjk] at F
      clear hjk
      go_wp2_with fail
      go_end0
      exact ⟨rfl, F.out, T.out⟩

theorem i64_or (a b : Nat) (ha : a < 4294967296) (hb : b < 4294967296) : Go.bits .or .i64 (a : Int) (b : Int) = ((a ||| b : Nat) : Int) := by
  have hx : a ||| b < 4294967296 := Nat.or_lt_two_pow (n := 32) ha hb
  show IntKind.i64.wrap ((BitVec.ofInt 64 (a : Int) ||| BitVec.ofInt 64 (b : Int)).toNat : Int) = _
  rw [BitVec.toNat_or, ofInt_u64 a (by omega), ofInt_u64 b (by omega), IntKind.wrap_i64]
  omega

theorem sl_succ {xs : List Int} {a j : Nat} (h : a + j < xs.length) : sl xs a (j + 1) = sl xs a j ++ [xs.getD (a + j) 0] := by
  unfold sl
  rw [List.take_succ_eq_append_getElem (by rw [List.length_drop]; omega), List.getElem_drop, List.getD_eq_getElem?_getD, List.getElem?_eq_getElem h]
  rfl
theorem sl_len {xs : List Int} {a k : Nat} (h : a + k ≤ xs.length) : (sl xs a k).length = k := by unfold sl; rw [List.length_take, List.length_drop]; omega
theorem sl_by {xs : List Int} (h : By xs) (a k : Nat) : By (sl xs a k) := (h.dropB a).take k
theorem vN_nat {xs : List Int} (h : By xs) : ∃ n : Nat, vN xs = (n : Int) ∧ n < 256 ^ xs.length := by
  have := vN_bnd xs h
  refine ⟨(vN xs).toNat, by omega, ?_⟩
  have e : ((256 ^ xs.length : Nat) : Int) = 256 ^ xs.length := by rw [Int.natCast_pow]; rfl
  omega

set_option maxHeartbeats 400000 in
theorem numberU_any (g at_ k : Nat) (xs : List Int) (w : World) (h : Fu w g xs) (hk : k ≤ 4) (ha : at_ + k ≤ 256) :
    Calls Try.prog 58 #[.pointer (some ⟨g, 0, none⟩), .int .i64 (at_ : Int), .int .i64 (k : Int)] w fun e w' => e = .returned (.int .i64 (vN (sl xs at_ k))) ∧ Below w.heap.size w w' := by
  have HF : Hid (Fu w g xs) := h
  have HL : Hid (xs.length = 256) := h.2.1
  have HB : Hid (By xs) := h.2.2
  clear h
  obtain ⟨R, hR⟩ : ∃ R, Hid (vN (sl xs at_ k) = R) := ⟨_, rfl⟩
  rw [hR.out]
  go_enter Try.func58, Try.ntmps58
  go_wp2_with fail
  go_loopw [7, 10] (fun vv i wr => ∃ (j X : Nat), j ≤ k ∧ i = .int .i64 j ∧ vv = .int .i64 (X : Int) ∧ X < 4294967296 ∧ Hid (vN (sl xs at_ j) = (X : Int) ∧ X < 256 ^ j) ∧ Hid (Below w.heap.size w wr)) (fun _ i _ => k - (intOf i).toNat)
  case atStart => exact ⟨0, 0, Nat.zero_le _, rfl, rfl, by decide, ⟨by simp [sl, vN], by decide⟩, Below.refl _ _⟩
  case round =>
    obtain ⟨j, X, hj, rfl, rfl, hX, HX, B⟩ := hrel
    by_cases hlt : j < k
    · obtain ⟨b, hb⟩ : ∃ b : Nat, Hid (xs.getD (at_ + j) 0 = (b : Int) ∧ b < 256) := by
        have := HB.out (at_ + j)
        exact ⟨(xs.getD (at_ + j) 0).toNat, by omega, by omega⟩
      have hb1 := hb.out.2
      obtain ⟨m, hm⟩ : ∃ m, 8 * j = m := ⟨_, rfl⟩
      have hm1 : 8 * (j : Int) = (m : Int) := by omega
      have hm2 : (m : Int) ≤ 24 := by omega
      obtain ⟨p, hp⟩ : ∃ p, at_ + j = p := ⟨_, rfl⟩
      have hp1 : (at_ : Int) + (j : Int) = (p : Int) := by omega
      have hp2 : (p : Int) < 256 := by omega
      have F : Fu wr g xs := HF.out.below B.out
      have cp : wr.cell? ⟨g, p, none⟩ = some (.int .u8 (b : Int)) := by rw [F.cell (by omega), ← hp, hb.out.1]
      have e256 : 256 ^ j = 2 ^ m := by rw [← hm, Nat.pow_mul]
      have hXm : X < 2 ^ m := by rw [← e256]; exact HX.out.2
      have hor : X ||| b * 2 ^ m = X + b * 2 ^ m := by
        rw [Nat.or_comm, Nat.mul_comm, ← Nat.two_pow_add_eq_or_of_lt hXm, Nat.add_comm]
      obtain ⟨Y, hY⟩ : ∃ Y, b * 2 ^ m = Y := ⟨_, rfl⟩
      have hY2 : X + Y < 256 ^ (j + 1) := by
        rw [← hY, Nat.pow_succ, e256]
        have : b * 2 ^ m ≤ 255 * 2 ^ m := Nat.mul_le_mul_right _ (by omega)
        omega
      have hpw : 256 ^ (j + 1) ≤ 256 ^ 4 := Nat.pow_le_pow_right (by decide) (by omega)
      have hY3 : X + Y < 4294967296 := by
        have : (256 : Nat) ^ 4 = 4294967296 := rfl
        omega
      have hY4 : (b : Int) * 2 ^ m = (Y : Int) := by rw [← hY, Int.natCast_mul, Int.natCast_pow]; rfl
      have ho := i64_or X Y hX (by omega)
      rw [← hY, hor, hY] at ho
      have HN : Hid (vN (sl xs at_ (j + 1)) = ((X + Y : Nat) : Int) ∧ X + Y < 256 ^ (j + 1)) := by
        refine ⟨?_, hY2⟩
        have h256 : (256 : Int) ^ j = ((2 ^ m : Nat) : Int) := by rw [← e256, Int.natCast_pow]; rfl
        rw [sl_succ (by rw [HL.out]; omega), vN_snoc, HX.out.1, sl_len (by rw [HL.out]; omega), hb.out.1, h256, ← hY, Int.natCast_add, Int.natCast_mul, Int.mul_comm]
      obtain ⟨Z, hZ⟩ : ∃ Z, X + Y = Z := ⟨_, rfl⟩
      rw [hZ] at ho HN hY3
      have hjk : (j : Int) < (k : Int) := by omega
      have hb2 : (b : Int) < 256 := by omega
      have hY5 : (Y : Int) < 4294967296 := by omega
      have w1 : IntKind.i64.wrap (p : Int) = (p : Int) := by rw [IntKind.wrap_i64]; omega
      have w2 : IntKind.i64.wrap (m : Int) = (m : Int) := by rw [IntKind.wrap_i64]; omega
      have w3 : IntKind.i64.wrap (Y : Int) = (Y : Int) := by rw [IntKind.wrap_i64]; omega
      clear HX hm hp F e256 hXm hor hY hY2 hpw hZ
      go_wp2_with fail
      go_roundw
      case rel => exact ⟨j + 1, Z, by omega, by go_num, rfl, hY3, HN, B⟩
      case measure => simp [intOf]; omega
    · have hnn : ¬ (j : Int) < (k : Int) := by omega
      have HE : Hid ((X : Int) = R) := by
        show _ = _
        rw [← hR.out, ← HX.out.1, show j = k by omega]
      clear HX
      go_wp2_with fail
      go_ret
      exact ⟨by rw [← HE.out]; rfl, B.out⟩
end Go.Proofs.Ytdicgaepggffbaa
