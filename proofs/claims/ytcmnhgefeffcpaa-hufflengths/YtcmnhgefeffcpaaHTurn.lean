/-
  A code's number the other way round: its bits, the highest first.
-/
import Derived.Test.YtcmnhgefeffcpaaHRev
import Derived.Test.YtcmnhgefeffcpaaE64
import Derived.Test.YtcmnhgefeffcpaaRnd
import Derived.Deep.RegionWith
namespace Go.Proofs.Ytcmnhgefeffcpaa
open Go.RowKit Pl
set_option linter.unusedVariables false

/-- The bits of a number, the highest of s first. -/
def cbits (v : Int) (s : Nat) : List Int := (List.range s).map fun i => v / 2 ^ (s - 1 - i) % 2

def trn (s : Nat) (v : Int) : Int := rev16 v / 2 ^ (16 - s)

theorem wraps_u16 (n : Int) (h0 : 0 ≤ n) (h1 : n < 2 ^ 16) : IntKind.u16.wrap n = n := by
  simp only [IntKind.wrap, IntKind.signed, IntKind.bits]
  have : n % 65536 = n := by omega
  simpa using this

theorem and_u16 (x : Nat) (h : x < 65536) : Go.bits BinOp.and IntKind.u16 (x : Int) 255 = (x : Int) % 256 := by
  have := (bits_nat .u16 16 (by decide) wraps_u16 x 255 h (by decide)).1
  have e : x &&& 255 = x % 256 := Nat.and_two_pow_sub_one_eq_mod x 8
  rw [e] at this
  simpa using this


def rv8 (n : Nat) : Nat := n % 2 * 128 + n / 2 % 2 * 64 + n / 4 % 2 * 32 + n / 8 % 2 * 16 + n / 16 % 2 * 8 + n / 32 % 2 * 4 + n / 64 % 2 * 2 + n / 128 % 2

theorem rev8_eq : ∀ n : Fin 256, Lib.rev8 (n.val : Int) = (rv8 n.val : Int) := by decide +kernel

theorem rev8_nat (n : Nat) (h : n < 256) : Lib.rev8 (n : Int) = (rv8 n : Int) := rev8_eq ⟨n, h⟩

theorem rv8_lt (n : Nat) : rv8 n < 256 := by unfold rv8; omega

theorem rev16_eq (v : Nat) (h : v < 65536) : rev16 v = ((rv8 (v / 256) + rv8 (v % 256) * 256 : Nat) : Int) := by
  have e1 : (v : Int) / 256 = ((v / 256 : Nat) : Int) := by omega
  have e2 : (v : Int) % 256 = ((v % 256 : Nat) : Int) := by omega
  have l1 := rv8_lt (v / 256)
  have l2 := rv8_lt (v % 256)
  unfold rev16
  rw [e1, e2, rev8_nat _ (by omega), rev8_nat _ (by omega), wraps_u16 (rv8 (v / 256)) (by omega) (by omega), wraps_u16 (rv8 (v % 256)) (by omega) (by omega), wraps_u16 ((rv8 (v % 256) : Int) * 256) (by omega) (by omega)]
  have e3 : (rv8 (v % 256) : Int) * 256 = ((rv8 (v % 256) * 2 ^ 8 : Nat) : Int) := by omega
  rw [e3, (bits_nat .u16 16 (by decide) wraps_u16 _ _ (by omega) (by omega)).2, or_shift _ _ 8 (by omega)]

theorem rev16_bits : ((List.range 2048).all fun v => (List.range 16).all fun p => (rv8 (v / 256) + rv8 (v % 256) * 256) / 2 ^ p % 2 == v / 2 ^ (15 - p) % 2) = true := by decide +kernel

/-- A bit of the number the other way round. -/
theorem rev16_bit (v : Nat) (h : v < 2048) (p : Nat) (hp : p < 16) : (rv8 (v / 256) + rv8 (v % 256) * 256) / 2 ^ p % 2 = v / 2 ^ (15 - p) % 2 := by
  have h1 := rev16_bits
  rw [List.all_eq_true] at h1
  have h2 := h1 v (by simpa using h)
  rw [List.all_eq_true] at h2
  have h3 := h2 p (by simpa using hp)
  simpa using h3

theorem trn_ok (s v : Nat) (hs : s ≤ 11) (hv : v < 2 ^ s) : 0 ≤ rev16 v ∧ rev16 v < 65536 ∧ 0 ≤ trn s v ∧ trn s v < 2 ^ s ∧ bitsOf (trn s v) s = cbits v s := by
  have h11 : 2 ^ s ≤ 2 ^ 11 := Nat.pow_le_pow_right (by decide) hs
  have e := rev16_eq v (by omega)
  have l1 := rv8_lt (v / 256)
  have l2 := rv8_lt (v % 256)
  obtain ⟨R, hR⟩ : ∃ R, rv8 (v / 256) + rv8 (v % 256) * 256 = R := ⟨_, rfl⟩
  have hb := rev16_bit v (by omega)
  rw [hR] at e hb
  have et : trn s v = ((R / 2 ^ (16 - s) : Nat) : Int) := by unfold trn; rw [e]; push_cast; rfl
  have hlt : R / 2 ^ (16 - s) < 2 ^ s := by
    rw [Nat.div_lt_iff_lt_mul (Nat.pow_pos (by decide)), ← Nat.pow_add, show s + (16 - s) = 16 by omega]
    omega
  refine ⟨by omega, by omega, by rw [et]; exact Int.natCast_nonneg _, by rw [et]; exact_mod_cast hlt, ?_⟩
  rw [et]
  refine list_eq_of_getD (by rw [bitsOf_length]; simp [cbits]) (fun i hi => ?_)
  rw [bitsOf_length] at hi
  rw [bitsOf_getD, if_pos hi]
  have h1 : (cbits v s).getD i 0 = (v : Int) / 2 ^ (s - 1 - i) % 2 := by simp [cbits, List.getD_eq_getElem?_getD, hi]
  rw [h1]
  have h2 := hb (16 - s + i) (by omega)
  rw [Nat.pow_add, ← Nat.div_div_eq_div_mul, show 15 - (16 - s + i) = s - 1 - i by omega] at h2
  exact_mod_cast h2

theorem rev_any (v : Nat) (R x : Int) (w : World) (h : v < 65536) (hR : rev16 v = R) (hx : x = v) : Calls Try.prog 66 #[.int .u16 x] w fun e w' => e = .returned (.int .u16 R) ∧ ∃ m, w' = w.drewN m := by
  rw [← hR, hx]
  refine (rev_lib v w (by omega) (by omega) (and_u16 v h)).mono ?_
  rintro e w' ⟨rfl, rfl⟩
  exact ⟨rfl, 1, rfl⟩

set_option maxHeartbeats 300000 in
theorem turned_any (s v : Nat) (w : World) (hs : s ≤ 11) (hv : v < 2 ^ s) :
    Calls Try.prog 45 #[.agg #[.int .i64 s, .int .i64 v]] w fun e w' => e = .returned (.int .i64 (trn s v)) ∧ Below w.heap.size w w' := by
  obtain ⟨h1, h2, h3, h4, h5⟩ := trn_ok s v hs hv
  have hv2 : v < 65536 := by
    have : 2 ^ s ≤ 2 ^ 11 := Nat.pow_le_pow_right (by decide) hs
    omega
  have HV2 : Hid (v < 65536) := hv2
  obtain ⟨R, hR⟩ : ∃ R, Hid (rev16 v = R) := ⟨_, rfl⟩
  have HT : Hid (trn s v = R / 2 ^ (16 - s)) := by show _ = _; unfold trn; rw [hR.out]
  rw [hR.out] at h1 h2
  rw [HT.out]
  have hwv : IntKind.u16.wrap (v : Int) = (v : Int) := wraps_u16 v (by omega) (by omega)
  have hws : IntKind.i64.wrap (16 - (s : Int)) = ((16 - s : Nat) : Int) := by rw [wraps_i64 _ (by omega) (by omega)]; omega
  obtain ⟨q, hq⟩ : ∃ q : Nat, Hid (16 - s = q) := ⟨_, rfl⟩
  rw [hq.out] at hws HT ⊢
  have hq2 : q ≤ 16 := by have := hq.out; omega
  have HWV : Hid (IntKind.u16.wrap (v : Int) = (v : Int)) := hwv
  clear h3 h4 h5 hv
  go_enter Try.func45, Try.ntmps45
  go_wp2_with fail
  go_quiet ((go_at_call 66; exact Calls.quiet_of (rev_any v R _ _ HV2.out hR.out (by first | rfl | exact HWV.out | omega))))
  go_wp2_with fail
  go_ret
  have h3 : 0 ≤ R / 2 ^ q := Int.ediv_nonneg h1 (Int.le_of_lt (Int.pow_pos (by decide)))
  have h4 : R / 2 ^ q ≤ R := Int.ediv_le_self _ h1
  have hw64 : wrap64 (R / 2 ^ q) = R / 2 ^ q := IntWalk.wrap64_in _ ⟨by omega, by omega⟩
  refine ⟨?_, ((Below.refl _ _).alloc (Nat.le_refl _) _).trans (Below.of_drewN _ _ _)⟩
  show Ending.returned (.int .i64 (wrap64 (R / 2 ^ q))) = _
  rw [hw64]
end Go.Proofs.Ytcmnhgefeffcpaa
