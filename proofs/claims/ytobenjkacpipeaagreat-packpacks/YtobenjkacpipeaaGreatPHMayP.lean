import Derived.Test.YtobenjkacpipeaaGreatPMem
import Derived.Test.YtobenjkacpipeaaGreatPE64
import Derived.Test.YtobenjkacpipeaaGreatProg
import Derived.Lib.Strings
import Derived.Lib.Slices
import Derived.Lib.Small
import Derived.Lib.Walk
import Derived.Lib.BitFns
import Derived.Lib.Tables
import Derived.BigRegion
import Derived.BigQuiet
import Derived.Deep.QuietTactic
import Derived.Deep.RegionWith
set_option maxRecDepth 100000
set_option linter.unusedVariables false
set_option linter.unusedSimpArgs false
set_option maxHeartbeats 8000000
namespace Go.Proofs.YtobenjkacpipeaaGreat
open Go.RowKit Pl
def manyTo (ls : List Int) : Nat -> Int
 | 0 => 0
 | k + 1 => manyTo ls k + if 0 < ls.getD k 0 then 1 else 0
def roomTo (ls : List Int) : Nat -> Int
 | 0 => 0
 | k + 1 => roomTo ls k + if 0 < ls.getD k 0 then 2 ^ (11 - (ls.getD k 0).toNat) else 0
def mayB (ls : List Int) : Bool :=
 decide (1 <= ls.length /\ ls.length <= 256 /\ ls.getD (ls.length - 1) 0 ≠ 0 /\ (∀ i, i < ls.length -> 0 <= ls.getD i 0 /\ ls.getD i 0 <= 11) ∧
  if manyTo ls ls.length = 1 then ls.getD (ls.length - 1) 0 = 1 else roomTo ls ls.length = 2048)
theorem zdz9 (ls : List Int) (k : Nat) : 0 <= manyTo ls k /\ manyTo ls k <= k := by
 induction k with
 | zero => simp [manyTo]
 | succ k ih => simp only [manyTo]; split <;> omega
theorem zlt9 (ls : List Int) (k : Nat) : 0 <= roomTo ls k /\ roomTo ls k <= 2048 * k := by
 induction k with
 | zero => simp [roomTo]
 | succ k ih =>
  simp only [roomTo]
  have h1 : (0 : Int) < 2 ^ (11 - (ls.getD k 0).toNat) := Int.pow_pos (by decide)
  have h2 : (2 : Int) ^ (11 - (ls.getD k 0).toNat) <= 2 ^ 11 := zs9 (by omega)
  have e : (2 : Int) ^ 11 = 2048 := by decide
  split <;> omega
theorem zri9 (a : Option Addr) (cap : Nat) (w : World) :
  Calls Tryz.prog 60 #[.slice a 0 cap] w fun e w' => e = .returned (.bool false) /\ w' = w := by
 go_enter Tryz.func60, Tryz.ntmps60
 go_wp2
 go_ret
 exact ⟨rfl, rfl⟩
theorem zwa9 (a : Option Addr) (n cap : Nat) (w : World) (h : 256 < n) :
  Calls Tryz.prog 60 #[.slice a n cap] w fun e w' => e = .returned (.bool false) /\ w' = w := by
 have h' : (256 : Int) < (n : Int) := by omega
 go_enter Tryz.func60, Tryz.ntmps60
 go_wp2
 go_ret
 exact ⟨rfl, rfl⟩
set_option maxRecDepth 100000 in
theorem zze9 (b o cap : Nat) (ls : List Int) (w : World) (h1 : 1 <= ls.length) (h2 : ls.length <= 256)
  (hc : ∀ i, i < ls.length -> w.cell? ⟨b, o + i, none⟩ = some (.int .i64 (ls.getD i 0))) :
  Calls Tryz.prog 60 #[.slice (some ⟨b, o, none⟩) ls.length cap] w fun e w' => e = .returned (.bool (mayB ls)) /\ w' = w := by
 have HC : Hid (∀ i, i < ls.length -> w.cell? ⟨b, o + i, none⟩ = some (.int .i64 (ls.getD i 0))) := hc
 obtain ⟨y, hye⟩ : ∃ y, Hid (ls.getD (ls.length - 1) 0 = y) := ⟨_, rfl⟩
 have cy : w.cell? ⟨b, o + (ls.length - 1), none⟩ = some (.int .i64 y) := by rw [hc _ (by omega), hye.out]
 clear hc
 obtain ⟨R, hR⟩ : ∃ R, Hid (mayB ls = R) := ⟨_, rfl⟩
 rw [hR.out]
 by_cases hy0 : y = 0
 ·have hz : (y == 0) = true := by simp [hy0]
  have HR : Hid (R = false) := by
   show R = false
   rw [<- hR.out]
   unfold mayB
   exact decide_eq_false (fun h => h.2.2.1 (by rw [hye.out]; exact hy0))
  clear hy0
  go_enter Tryz.func60, Tryz.ntmps60
  go_wp2
  go_ret
  exact ⟨by rw [HR.out]; rfl, rfl⟩
 ·have hz : (y == 0) = false := by simp [hy0]
  have HY0 : Hid (¬ y = 0) := hy0
  clear hy0
  go_enter Tryz.func60, Tryz.ntmps60
  go_wp2
  go_loop [3, 4, 5] (fun s m i => ∃ (k : Nat) (r t : Int), k <= ls.length /\ i = .int .i64 k /\ s = .int .i64 r /\ m = .int .i64 t /\ 0 <= r /\ r <= 524288 /\ 0 <= t /\ t <= 256 /\ Hid (roomTo ls k = r /\ manyTo ls k = t /\ ∀ j, j < k -> 0 <= ls.getD j 0 /\ ls.getD j 0 <= 11)) (fun _ _ i => ls.length - (intOf i).toNat)
  case atStart => exact ⟨0, 0, 0, Nat.zero_le _, rfl, rfl, rfl, by omega, by omega, by omega, by omega, rfl, rfl, fun j hj => by omega⟩
  case round =>
   obtain ⟨k, r, t, hk, rfl, rfl, rfl, hr0, hr1, ht0, ht1, hI⟩ := hrel
   by_cases hlt : k < ls.length
   ·obtain ⟨x, hxe⟩ : ∃ x, Hid (ls.getD k 0 = x) := ⟨_, rfl⟩
    have cx : w.cell? ⟨b, o + k, none⟩ = some (.int .i64 x) := by rw [HC.out k hlt, hxe.out]
    by_cases hbad : x < 0 ∨ 11 < x
    ·have HR : Hid (R = false) := by
      show R = false
      rw [<- hR.out]
      unfold mayB
      refine decide_eq_false (fun h => ?_)
      have := h.2.2.2.1 k hlt
      rw [hxe.out] at this
      omega
     rcases hbad with hbad | hbad
     all_goals
      go_wp2
      go_ret
      exact ⟨by rw [HR.out]; rfl, rfl⟩
    ·obtain ⟨m, hm⟩ := Int.eq_ofNat_of_zero_le (show 0 <= x by omega)
     subst hm
     have hm11 : m <= 11 := by omega
     have hmany := zdz9 ls (k + 1)
     have hroom := zlt9 ls (k + 1)
     have HJ : Hid (∀ j, j < k + 1 -> 0 <= ls.getD j 0 /\ ls.getD j 0 <= 11) := fun j hj => by
      by_cases e : j < k
      ·exact hI.out.2.2 j e
      ·have : j = k := by omega
       subst this
       rw [hxe.out]; omega
     simp only [manyTo, roomTo, hxe.out, hI.out.1, hI.out.2.1] at hmany hroom
     by_cases hm0 : 0 < m
     ·have hm0' : (0 : Int) < (m : Int) := by omega
      rw [if_pos hm0'] at hmany hroom
      simp only [Int.toNat_natCast] at hroom
      obtain ⟨q, hq⟩ : ∃ q : Int, Hid ((2 : Int) ^ (11 - m) = q) := ⟨_, rfl⟩
      have hq1 : 0 < q /\ q <= 2048 := by
       rw [<- hq.out]
       have h2 : (2 : Int) ^ (11 - m) <= 2 ^ 11 := zs9 (by omega)
       have e : (2 : Int) ^ 11 = 2048 := by decide
       exact ⟨Int.pow_pos (by decide), by omega⟩
      have hw : wrap64 (2 ^ (11 - m)) = q := by rw [hq.out]; exact IntWalk.wrap64_in _ ⟨by omega, by omega⟩
      rw [hq.out] at hroom
      have HI : Hid (roomTo ls (k + 1) = r + q /\ manyTo ls (k + 1) = t + 1) := by
       refine ⟨?_, ?_⟩
       ·simp only [roomTo, hxe.out, hI.out.1]; rw [if_pos hm0']; simp only [Int.toNat_natCast]; rw [hq.out]
       ·simp only [manyTo, hxe.out, hI.out.2.1]; rw [if_pos hm0']
      clear hbad
      go_wp2
      go_round
      case rel => exact ⟨k + 1, r + q, t + 1, by omega, by go_num, by first | rfl | go_num, by first | rfl | go_num, by omega, by omega, by omega, by omega, HI.out.1, HI.out.2, HJ.out⟩
      case measure => simp [intOf]; omega
     ·have hm0' : ¬ (0 : Int) < (m : Int) := by omega
      have HI : Hid (roomTo ls (k + 1) = r /\ manyTo ls (k + 1) = t) := by
       refine ⟨?_, ?_⟩
       ·simp only [roomTo, hxe.out, hI.out.1]; rw [if_neg hm0']; omega
       ·simp only [manyTo, hxe.out, hI.out.2.1]; rw [if_neg hm0']; omega
      clear hbad hmany hroom
      go_wp2
      go_round
      case rel => exact ⟨k + 1, r, t, by omega, by go_num, rfl, rfl, by omega, by omega, by omega, by omega, HI.out.1, HI.out.2, HJ.out⟩
      case measure => simp [intOf]; omega
   ·obtain rfl : k = ls.length := by omega
    have HR : Hid (R = decide (if t = 1 then y = 1 else r = 2048)) := by
     show R = _
     rw [<- hR.out]
     unfold mayB
     rw [hI.out.1, hI.out.2.1, hye.out]
     rw [decide_eq_decide]
     exact ⟨fun h => h.2.2.2.2, fun h => ⟨h1, h2, HY0.out, hI.out.2.2, h⟩⟩
    by_cases ht : t = 1
    ·have hte : (t == 1) = true := by simp [ht]
     have HR2 : Hid (R = (y == 1)) := by show R = _; have := HR.out; rw [this, Bool.eq_iff_iff]; simp [ht]
     clear ht
     go_wp2
     go_ret
     exact ⟨by rw [HR2.out]; rfl, rfl⟩
    ·have hte : (t == 1) = false := by simp [ht]
     have HR2 : Hid (R = (r == 2048)) := by show R = _; have := HR.out; rw [this, Bool.eq_iff_iff]; simp [ht]
     clear ht
     go_wp2
     go_ret
     exact ⟨by rw [HR2.out]; rfl, rfl⟩
theorem may_rd (v : Value) (ls : List Int) (w : World) (h : Rd .i64 w v ls) :
  Calls Tryz.prog 60 #[v] w fun e w' => e = .returned (.bool (mayB ls)) /\ w' = w := by
 obtain ⟨a, cap, rfl, _, _, _, h⟩ := h
 by_cases h0 : ls.length = 0
 ·have hf : mayB ls = false := by unfold mayB; exact decide_eq_false (fun h => by have := h.1; omega)
  rw [hf, h0]
  exact zri9 a cap w
 ·by_cases h1 : 256 < ls.length
  ·have hf : mayB ls = false := by unfold mayB; exact decide_eq_false (fun h => by have := h.2.1; omega)
   rw [hf]
   exact zwa9 a _ cap w h1
  ·rcases h with rfl | ⟨b, o, rfl, hc⟩
   ·simp at h0
   ·exact zze9 b o cap ls w (by omega) (by omega) hc
def mayC (ls : List Int) : Bool :=
 decide (ls.length <= 256 /\ (∀ i, i < ls.length -> 0 <= ls.getD i 0 /\ ls.getD i 0 <= 11) ∧
  if manyTo ls ls.length = 1 then roomTo ls ls.length = 1024 else (roomTo ls ls.length = 2048 /\ ls.getD (ls.length - 1) 0 ≠ 0))
theorem zja9 (ls : List Int) (k : Nat) (h : manyTo ls k = 0) : roomTo ls k = 0 := by
 induction k with
 | zero => rfl
 | succ k ih =>
  have hb := zdz9 ls k
  simp only [manyTo] at h
  simp only [roomTo]
  split at h
  ·omega
  ·rename_i hn
   rw [if_neg hn, ih (by omega)]
   rfl
theorem zcm9 {ls : List Int} (h : mayB ls = true) : mayC ls = true := by
 unfold mayB at h
 unfold mayC
 rw [decide_eq_true_eq] at h ⊢
 obtain ⟨h1, h2, h3, h4, h5⟩ := h
 refine ⟨h2, h4, ?_⟩
 by_cases e : manyTo ls ls.length = 1
 ·rw [if_pos e] at h5 ⊢
  obtain ⟨n, hn⟩ : ∃ n, ls.length = n + 1 := ⟨ls.length - 1, by omega⟩
  rw [hn] at h5 e ⊢
  rw [show n + 1 - 1 = n by omega] at h5
  have hb := zdz9 ls n
  simp only [manyTo, h5] at e
  simp only [roomTo, h5]
  rw [if_pos (by decide)] at e ⊢
  rw [zja9 ls n (by omega)]
  decide
 ·rw [if_neg e] at h5 ⊢
  exact ⟨h5, h3⟩
theorem zov9 (a : Option Addr) (n cap : Nat) (w : World) (h : 256 < n) :
  Calls Tryz.prog 111 #[.slice a n cap] w fun e w' => e = .returned (.bool false) /\ w' = w := by
 have h' : (256 : Int) < (n : Int) := by omega
 go_enter Tryz.func111, Tryz.ntmps111
 go_wp2
 go_ret
 exact ⟨rfl, rfl⟩
theorem zne9 (a : Option Addr) (cap : Nat) (w : World) :
  Calls Tryz.prog 111 #[.slice a 0 cap] w fun e w' => e = .returned (.bool false) /\ w' = w := by
 go_enter Tryz.func111, Tryz.ntmps111
 go_wp2
 go_loop [3, 4, 12] (fun m s i => m = .int .i64 0 /\ s = .int .i64 0 /\ i = .int .i64 0) (fun _ _ _ => 0)
 case atStart => exact ⟨rfl, rfl, rfl⟩
 case round =>
  obtain ⟨rfl, rfl, rfl⟩ := hrel
  go_wp2
  go_ret
  exact ⟨rfl, rfl⟩
set_option maxRecDepth 100000 in
theorem ztr9 (b o cap : Nat) (ls : List Int) (w : World) (h1 : 1 <= ls.length) (h2 : ls.length <= 256)
  (hc : ∀ i, i < ls.length -> w.cell? ⟨b, o + i, none⟩ = some (.int .i64 (ls.getD i 0))) :
  Calls Tryz.prog 111 #[.slice (some ⟨b, o, none⟩) ls.length cap] w fun e w' => e = .returned (.bool (mayC ls)) /\ w' = w := by
 have HC : Hid (∀ i, i < ls.length -> w.cell? ⟨b, o + i, none⟩ = some (.int .i64 (ls.getD i 0))) := hc
 obtain ⟨y, hye⟩ : ∃ y, Hid (ls.getD (ls.length - 1) 0 = y) := ⟨_, rfl⟩
 have cy : w.cell? ⟨b, o + (ls.length - 1), none⟩ = some (.int .i64 y) := by rw [hc _ (by omega), hye.out]
 clear hc
 obtain ⟨R, hR⟩ : ∃ R, Hid (mayC ls = R) := ⟨_, rfl⟩
 rw [hR.out]
 go_enter Tryz.func111, Tryz.ntmps111
 go_wp2
 go_loop [3, 4, 12] (fun m s i => ∃ (k : Nat) (r t : Int), k <= ls.length /\ i = .int .i64 k /\ s = .int .i64 r /\ m = .int .i64 t /\ 0 <= r /\ r <= 524288 /\ 0 <= t /\ t <= 256 /\ Hid (roomTo ls k = r /\ manyTo ls k = t /\ ∀ j, j < k -> 0 <= ls.getD j 0 /\ ls.getD j 0 <= 11)) (fun _ _ i => ls.length - (intOf i).toNat)
 case atStart => exact ⟨0, 0, 0, Nat.zero_le _, rfl, rfl, rfl, by omega, by omega, by omega, by omega, rfl, rfl, fun j hj => by omega⟩
 case round =>
  obtain ⟨k, r, t, hk, rfl, rfl, rfl, hr0, hr1, ht0, ht1, hI⟩ := hrel
  by_cases hlt : k < ls.length
  ·obtain ⟨x, hxe⟩ : ∃ x, Hid (ls.getD k 0 = x) := ⟨_, rfl⟩
   have cx : w.cell? ⟨b, o + k, none⟩ = some (.int .i64 x) := by rw [HC.out k hlt, hxe.out]
   by_cases hbad : x < 0 ∨ 11 < x
   ·have HR : Hid (R = false) := by
     show R = false
     rw [<- hR.out]
     unfold mayC
     refine decide_eq_false (fun h => ?_)
     have := h.2.1 k hlt
     rw [hxe.out] at this
     omega
    rcases hbad with hbad | hbad
    all_goals
     go_wp2
     go_ret
     exact ⟨by rw [HR.out]; rfl, rfl⟩
   ·obtain ⟨m, hm⟩ := Int.eq_ofNat_of_zero_le (show 0 <= x by omega)
    subst hm
    have hm11 : m <= 11 := by omega
    have hmany := zdz9 ls (k + 1)
    have hroom := zlt9 ls (k + 1)
    have HJ : Hid (∀ j, j < k + 1 -> 0 <= ls.getD j 0 /\ ls.getD j 0 <= 11) := fun j hj => by
     by_cases e : j < k
     ·exact hI.out.2.2 j e
     ·have : j = k := by omega
      subst this
      rw [hxe.out]; omega
    simp only [manyTo, roomTo, hxe.out, hI.out.1, hI.out.2.1] at hmany hroom
    by_cases hm0 : 0 < m
    ·have hm0' : (0 : Int) < (m : Int) := by omega
     rw [if_pos hm0'] at hmany hroom
     simp only [Int.toNat_natCast] at hroom
     obtain ⟨q, hq⟩ : ∃ q : Int, Hid ((2 : Int) ^ (11 - m) = q) := ⟨_, rfl⟩
     have hq1 : 0 < q /\ q <= 2048 := by
      rw [<- hq.out]
      have h2 : (2 : Int) ^ (11 - m) <= 2 ^ 11 := zs9 (by omega)
      have e : (2 : Int) ^ 11 = 2048 := by decide
      exact ⟨Int.pow_pos (by decide), by omega⟩
     have hw : wrap64 (2 ^ (11 - m)) = q := by rw [hq.out]; exact IntWalk.wrap64_in _ ⟨by omega, by omega⟩
     rw [hq.out] at hroom
     have HI : Hid (roomTo ls (k + 1) = r + q /\ manyTo ls (k + 1) = t + 1) := by
      refine ⟨?_, ?_⟩
      ·simp only [roomTo, hxe.out, hI.out.1]; rw [if_pos hm0']; simp only [Int.toNat_natCast]; rw [hq.out]
      ·simp only [manyTo, hxe.out, hI.out.2.1]; rw [if_pos hm0']
     clear hbad
     go_wp2
     go_round
     case rel => exact ⟨k + 1, r + q, t + 1, by omega, by go_num, by first | rfl | go_num, by first | rfl | go_num, by omega, by omega, by omega, by omega, HI.out.1, HI.out.2, HJ.out⟩
     case measure => simp [intOf]; omega
    ·have hm0' : ¬ (0 : Int) < (m : Int) := by omega
     have HI : Hid (roomTo ls (k + 1) = r /\ manyTo ls (k + 1) = t) := by
      refine ⟨?_, ?_⟩
      ·simp only [roomTo, hxe.out, hI.out.1]; rw [if_neg hm0']; omega
      ·simp only [manyTo, hxe.out, hI.out.2.1]; rw [if_neg hm0']; omega
     clear hbad hmany hroom
     go_wp2
     go_round
     case rel => exact ⟨k + 1, r, t, by omega, by go_num, rfl, rfl, by omega, by omega, by omega, by omega, HI.out.1, HI.out.2, HJ.out⟩
     case measure => simp [intOf]; omega
  ·obtain rfl : k = ls.length := by omega
   have HR : Hid (R = decide (if t = 1 then r = 1024 else (r = 2048 /\ y ≠ 0))) := by
    show R = _
    rw [<- hR.out]
    unfold mayC
    rw [hI.out.1, hI.out.2.1, hye.out]
    rw [decide_eq_decide]
    exact ⟨fun h => h.2.2, fun h => ⟨h2, hI.out.2.2, h⟩⟩
   by_cases ht : t = 1
   ·have hte : (t == 1) = true := by simp [ht]
    have HR2 : Hid (R = (r == 1024)) := by show R = _; have := HR.out; rw [this, Bool.eq_iff_iff]; simp [ht]
    clear ht
    go_wp2
    go_ret
    exact ⟨by rw [HR2.out]; rfl, rfl⟩
   ·have hte : (t == 1) = false := by simp [ht]
    by_cases hr : r = 2048
    ·have hre : (r == 2048) = true := by simp [hr]
     have HR2 : Hid (R = (y != 0)) := by show R = _; have := HR.out; rw [this, Bool.eq_iff_iff]; simp [ht, hr]
     clear ht hr
     go_wp2
     go_ret
     exact ⟨by rw [HR2.out]; rfl, rfl⟩
    ·have hre : (r == 2048) = false := by simp [hr]
     have HR2 : Hid (R = false) := by show R = _; have := HR.out; rw [this]; simp [ht, hr]
     clear ht hr
     go_wp2
     go_ret
     exact ⟨by rw [HR2.out]; rfl, rfl⟩
theorem zbx9 (v : Value) (ls : List Int) (w : World) (h : Rd .i64 w v ls) :
  Calls Tryz.prog 111 #[v] w fun e w' => e = .returned (.bool (mayC ls)) /\ w' = w := by
 obtain ⟨a, cap, rfl, _, _, _, h⟩ := h
 by_cases h0 : ls.length = 0
 ·have hl : ls = [] := List.eq_nil_of_length_eq_zero h0
  subst hl
  exact zne9 a cap w
 ·by_cases h1 : 256 < ls.length
  ·have hf : mayC ls = false := by unfold mayC; exact decide_eq_false (fun h => by have := h.1; omega)
   rw [hf]
   exact zov9 a _ cap w h1
  ·rcases h with rfl | ⟨b, o, rfl, hc⟩
   ·simp at h0
   ·exact ztr9 b o cap ls w (by omega) (by omega) hc
end Go.Proofs.YtobenjkacpipeaaGreat
namespace Go.Proofs.YtobenjkacpipeaaGreat
def rev16 (x : Int) : Int := bits BinOp.or IntKind.u16 (IntKind.u16.wrap (Lib.rev8 (x / 256))) (IntKind.u16.wrap (IntKind.u16.wrap (Lib.rev8 (x % 256)) * 256))
set_option maxRecDepth 100000 in
theorem zaau9 (x : Int) (w : World) (h0 : 0 <= x) (h1 : x <= 65535) (hand : bits BinOp.and IntKind.u16 x 255 = x % 256) :
  Calls Tryz.prog 137 #[.int .u16 x] w fun e w' => e = .returned (.int .u16 (rev16 x)) /\ w' = w.drew := by
 have hd : 0 <= x / 256 /\ x / 256 <= 255 := by omega
 go_enter Tryz.func137, Tryz.ntmps137
 go_wp2
 go_region
 go_wp2
 go_ret
 exact ⟨rfl, rfl⟩
end Go.Proofs.YtobenjkacpipeaaGreat
namespace Go.Proofs.YtobenjkacpipeaaGreat
open Go.RowKit Pl
def cbits (v : Int) (s : Nat) : List Int := (List.range s).map fun i => v / 2 ^ (s - 1 - i) % 2
def trn (s : Nat) (v : Int) : Int := rev16 v / 2 ^ (16 - s)
theorem zci9 (n : Int) (h0 : 0 <= n) (h1 : n < 2 ^ 16) : IntKind.u16.wrap n = n := by
 simp only [IntKind.wrap, IntKind.signed, IntKind.bits]
 have : n % 65536 = n := by omega
 simpa using this
theorem zyw9 (x : Nat) (h : x < 65536) : Go.bits BinOp.and IntKind.u16 (x : Int) 255 = (x : Int) % 256 := by
 have := (bits_nat .u16 16 (by decide) zci9 x 255 h (by decide)).1
 have e : x &&& 255 = x % 256 := Nat.and_two_pow_sub_one_eq_mod x 8
 rw [e] at this
 simpa using this
def rv8 (n : Nat) : Nat := n % 2 * 128 + n / 2 % 2 * 64 + n / 4 % 2 * 32 + n / 8 % 2 * 16 + n / 16 % 2 * 8 + n / 32 % 2 * 4 + n / 64 % 2 * 2 + n / 128 % 2
theorem zyo9 : ∀ n : Fin 256, Lib.rev8 (n.val : Int) = (rv8 n.val : Int) := by decide +kernel
theorem zqt9 (n : Nat) (h : n < 256) : Lib.rev8 (n : Int) = (rv8 n : Int) := zyo9 ⟨n, h⟩
theorem rv8_lt (n : Nat) : rv8 n < 256 := by unfold rv8; omega
theorem zwi9 (v : Nat) (h : v < 65536) : rev16 v = ((rv8 (v / 256) + rv8 (v % 256) * 256 : Nat) : Int) := by
 have e1 : (v : Int) / 256 = ((v / 256 : Nat) : Int) := by omega
 have e2 : (v : Int) % 256 = ((v % 256 : Nat) : Int) := by omega
 have l1 := rv8_lt (v / 256)
 have l2 := rv8_lt (v % 256)
 unfold rev16
 rw [e1, e2, zqt9 _ (by omega), zqt9 _ (by omega), zci9 (rv8 (v / 256)) (by omega) (by omega), zci9 (rv8 (v % 256)) (by omega) (by omega), zci9 ((rv8 (v % 256) : Int) * 256) (by omega) (by omega)]
 have e3 : (rv8 (v % 256) : Int) * 256 = ((rv8 (v % 256) * 2 ^ 8 : Nat) : Int) := by omega
 rw [e3, (bits_nat .u16 16 (by decide) zci9 _ _ (by omega) (by omega)).2, zez9 _ _ 8 (by omega)]
theorem zoy9 : ((List.range 2048).all fun v => (List.range 16).all fun p => (rv8 (v / 256) + rv8 (v % 256) * 256) / 2 ^ p % 2 == v / 2 ^ (15 - p) % 2) = true := by decide +kernel
theorem zsd9 (v : Nat) (h : v < 2048) (p : Nat) (hp : p < 16) : (rv8 (v / 256) + rv8 (v % 256) * 256) / 2 ^ p % 2 = v / 2 ^ (15 - p) % 2 := by
 have h1 := zoy9
 rw [List.all_eq_true] at h1
 have h2 := h1 v (by simpa using h)
 rw [List.all_eq_true] at h2
 have h3 := h2 p (by simpa using hp)
 simpa using h3
theorem trn_ok (s v : Nat) (hs : s <= 11) (hv : v < 2 ^ s) : 0 <= rev16 v /\ rev16 v < 65536 /\ 0 <= trn s v /\ trn s v < 2 ^ s /\ bitsOf (trn s v) s = cbits v s := by
 have h11 : 2 ^ s <= 2 ^ 11 := Nat.pow_le_pow_right (by decide) hs
 have e := zwi9 v (by omega)
 have l1 := rv8_lt (v / 256)
 have l2 := rv8_lt (v % 256)
 obtain ⟨R, hR⟩ : ∃ R, rv8 (v / 256) + rv8 (v % 256) * 256 = R := ⟨_, rfl⟩
 have hb := zsd9 v (by omega)
 rw [hR] at e hb
 have et : trn s v = ((R / 2 ^ (16 - s) : Nat) : Int) := by unfold trn; rw [e]; push_cast; rfl
 have hlt : R / 2 ^ (16 - s) < 2 ^ s := by
  rw [Nat.div_lt_iff_lt_mul (Nat.pow_pos (by decide)), <- Nat.pow_add, show s + (16 - s) = 16 by omega]
  omega
 refine ⟨by omega, by omega, by rw [et]; exact Int.natCast_nonneg _, by rw [et]; exact_mod_cast hlt, ?_⟩
 rw [et]
 refine zg9 (by rw [za9]; simp [cbits]) (fun i hi => ?_)
 rw [za9] at hi
 rw [zbk9, if_pos hi]
 have h1 : (cbits v s).getD i 0 = (v : Int) / 2 ^ (s - 1 - i) % 2 := by simp [cbits, List.getD_eq_getElem?_getD, hi]
 rw [h1]
 have h2 := hb (16 - s + i) (by omega)
 rw [Nat.pow_add, <- Nat.div_div_eq_div_mul, show 15 - (16 - s + i) = s - 1 - i by omega] at h2
 exact_mod_cast h2
theorem zaac9 (v : Nat) (R x : Int) (w : World) (h : v < 65536) (hR : rev16 v = R) (hx : x = v) : Calls Tryz.prog 137 #[.int .u16 x] w fun e w' => e = .returned (.int .u16 R) /\ ∃ m, w' = w.drewN m := by
 rw [<- hR, hx]
 refine (zaau9 v w (by omega) (by omega) (zyw9 v h)).mono ?_
 rintro e w' ⟨rfl, rfl⟩
 exact ⟨rfl, 1, rfl⟩
theorem zqo9 (s v : Nat) (w : World) (hs : s <= 11) (hv : v < 2 ^ s) :
  Calls Tryz.prog 114 #[.agg #[.int .i64 s, .int .i64 v]] w fun e w' => e = .returned (.int .i64 (trn s v)) /\ Below w.heap.size w w' := by
 obtain ⟨h1, h2, h3, h4, h5⟩ := trn_ok s v hs hv
 have hv2 : v < 65536 := by
  have : 2 ^ s <= 2 ^ 11 := Nat.pow_le_pow_right (by decide) hs
  omega
 have HV2 : Hid (v < 65536) := hv2
 obtain ⟨R, hR⟩ : ∃ R, Hid (rev16 v = R) := ⟨_, rfl⟩
 have HT : Hid (trn s v = R / 2 ^ (16 - s)) := by show _ = _; unfold trn; rw [hR.out]
 rw [hR.out] at h1 h2
 rw [HT.out]
 have hwv : IntKind.u16.wrap (v : Int) = (v : Int) := zci9 v (by omega) (by omega)
 have hws : IntKind.i64.wrap (16 - (s : Int)) = ((16 - s : Nat) : Int) := by rw [zi9 _ (by omega) (by omega)]; omega
 obtain ⟨q, hq⟩ : ∃ q : Nat, Hid (16 - s = q) := ⟨_, rfl⟩
 rw [hq.out] at hws HT ⊢
 have hq2 : q <= 16 := by have := hq.out; omega
 have HWV : Hid (IntKind.u16.wrap (v : Int) = (v : Int)) := hwv
 clear h3 h4 h5 hv
 go_enter Tryz.func114, Tryz.ntmps114
 go_wp2_with fail
 go_quiet ((go_at_call 137; exact Calls.quiet_of (zaac9 v R _ _ HV2.out hR.out (by first | rfl | exact HWV.out | omega))))
 go_wp2_with fail
 go_ret
 have h3 : 0 <= R / 2 ^ q := Int.ediv_nonneg h1 (Int.le_of_lt (Int.pow_pos (by decide)))
 have h4 : R / 2 ^ q <= R := Int.ediv_le_self _ h1
 have hw64 : wrap64 (R / 2 ^ q) = R / 2 ^ q := IntWalk.wrap64_in _ ⟨by omega, by omega⟩
 refine ⟨?_, ((Below.refl _ _).alloc (Nat.le_refl _) _).trans (Below.of_drewN _ _ _)⟩
 show Ending.returned (.int .i64 (wrap64 (R / 2 ^ q))) = _
 rw [hw64]
def cnt (ls : List Int) (s : Nat) : Nat -> Nat
 | 0 => 0
 | k + 1 => cnt ls s k + if ls.getD k 0 = (s : Int) then 1 else 0
def nxE (ls : List Int) : Nat -> Nat
 | 0 => 0
 | s + 1 => 2 * nxE ls s + cnt ls (s + 1) ls.length
abbrev nx (ls : List Int) (s b : Nat) : Nat := 2 * nxE ls s + cnt ls (s + 1) b
def rmT (ls : List Int) (s : Nat) : Nat -> Nat
 | 0 => 0
 | k + 1 => rmT ls s k + if 0 < ls.getD k 0 /\ ls.getD k 0 <= (s : Int) then 2 ^ (11 - (ls.getD k 0).toNat) else 0
theorem zwe9 (ls : List Int) (s k : Nat) (hs : s + 1 <= 11) : rmT ls (s + 1) k = rmT ls s k + cnt ls (s + 1) k * 2 ^ (11 - (s + 1)) := by
 induction k with
 | zero => simp [rmT, cnt]
 | succ k ih =>
  simp only [rmT, cnt, ih]
  by_cases e : ls.getD k 0 = ((s + 1 : Nat) : Int)
  ·rw [if_pos ⟨by omega, by omega⟩, if_neg (by omega), if_pos e, e, Int.toNat_natCast, Nat.add_mul, Nat.one_mul]
   omega
  ·rw [if_neg e]
   by_cases h : 0 < ls.getD k 0 /\ ls.getD k 0 <= (s : Int)
   ·rw [if_pos ⟨h.1, by omega⟩, if_pos h]; simp; omega
   ·rw [if_neg (fun x => h ⟨x.1, by have := x.2; omega⟩), if_neg h]; simp
theorem zwx9 (ls : List Int) (k : Nat) : rmT ls 0 k = 0 := by
 induction k with
 | zero => rfl
 | succ k ih => simp only [rmT, ih]; rw [if_neg (by omega)]
theorem zvq9 (ls : List Int) (s : Nat) (hs : s <= 11) : nxE ls s * 2 ^ (11 - s) = rmT ls s ls.length := by
 induction s with
 | zero => simp [nxE, zwx9]
 | succ s ih =>
  have h1 := ih (by omega)
  have e : 11 - s = (11 - (s + 1)) + 1 := by omega
  rw [zwe9 ls s _ hs, <- h1, e, nxE, Nat.add_mul, Nat.pow_succ]
  rw [Nat.mul_comm (2 ^ _) 2, <- Nat.mul_assoc, Nat.mul_comm (nxE ls s) 2]
theorem zvt9 (ls : List Int) (k : Nat) (h : ∀ i, i < k -> ls.getD i 0 <= 11) : (rmT ls 11 k : Int) = roomTo ls k := by
 induction k with
 | zero => rfl
 | succ k ih =>
  have h1 := h k (by omega)
  simp only [rmT, roomTo]
  rw [<- ih (fun i hi => h i (by omega))]
  by_cases e : 0 < ls.getD k 0
  ·rw [if_pos ⟨e, by omega⟩, if_pos e]; push_cast; rfl
  ·rw [if_neg (fun x => e x.1), if_neg e]; simp
theorem zwz9 (ls : List Int) (s t k : Nat) (h : s <= t) : rmT ls s k <= rmT ls t k := by
 induction k with
 | zero => exact Nat.le_refl _
 | succ k ih =>
  simp only [rmT]
  by_cases e : 0 < ls.getD k 0 /\ ls.getD k 0 <= (s : Int)
  ·rw [if_pos e, if_pos ⟨e.1, by have := e.2; omega⟩]; omega
  ·rw [if_neg e]; omega
theorem zpj9 (ls : List Int) (s : Nat) {a b : Nat} (h : a <= b) : cnt ls s a <= cnt ls s b := by
 induction b with
 | zero => obtain rfl : a = 0 := by omega
           exact Nat.le_refl _
 | succ b ih =>
  by_cases e : a = b + 1
  ·subst e; exact Nat.le_refl _
  ·have := ih (by omega)
   simp only [cnt]
   omega
theorem cnt_lt (ls : List Int) (s : Nat) {a b : Nat} (h : a < b) (he : ls.getD a 0 = (s : Int)) : cnt ls s a + 1 <= cnt ls s b := by
 have := zpj9 ls s (a := a + 1) (b := b) (by omega)
 simp only [cnt] at this
 rw [if_pos he] at this
 exact this
structure LOk (ls : List Int) : Prop where
 most : ls.length <= 256
 each : ∀ i, i < ls.length -> 0 <= ls.getD i 0 /\ ls.getD i 0 <= 11
 room : roomTo ls ls.length <= 2048
theorem LOk.of {ls : List Int} (h : mayC ls = true) : LOk ls := by
 unfold mayC at h
 rw [decide_eq_true_eq] at h
 refine ⟨h.1, h.2.1, ?_⟩
 have := h.2.2
 split at this
 ·omega
 ·omega
theorem LOk.nxE_le {ls : List Int} (h : LOk ls) {s : Nat} (hs : s <= 11) : nxE ls s * 2 ^ (11 - s) <= 2048 /\ nxE ls s <= 2 ^ s := by
 have h1 := zvq9 ls s hs
 have h2 := zwz9 ls s 11 ls.length hs
 have h3 := zvt9 ls ls.length (fun i hi => (h.each i hi).2)
 have h4 := h.room
 have h5 : nxE ls s * 2 ^ (11 - s) <= 2048 := by omega
 refine ⟨h5, ?_⟩
 have e : (2048 : Nat) = 2 ^ s * 2 ^ (11 - s) := by rw [<- Nat.pow_add, show s + (11 - s) = 11 by omega]
 rw [e] at h5
 exact Nat.le_of_mul_le_mul_right h5 (Nat.pow_pos (by decide))
theorem LOk.pow {s : Nat} (hs : s <= 11) : 2 ^ s <= 2048 := by
 have : 2 ^ s <= 2 ^ 11 := Nat.pow_le_pow_right (by decide) hs
 simpa using this
theorem LOk.fits {ls : List Int} (h : LOk ls) {s b : Nat} (hs : s + 1 <= 11) (hb : b < ls.length) (he : ls.getD b 0 = ((s + 1 : Nat) : Int)) : nx ls s b < 2 ^ (s + 1) := by
 have h1 := (h.nxE_le hs).2
 have h2 := cnt_lt ls (s + 1) hb he
 simp only [nxE] at h1
 show 2 * nxE ls s + cnt ls (s + 1) b < _
 omega
theorem nxE_ge (ls : List Int) {s t : Nat} (h : s <= t) : 2 ^ (t - s) * nxE ls s <= nxE ls t := by
 induction t with
 | zero => obtain rfl : s = 0 := by omega
           simp [nxE]
 | succ t ih =>
  by_cases e : s = t + 1
  ·subst e; simp
  ·have h1 := ih (by omega)
   rw [show t + 1 - s = (t - s) + 1 by omega, Nat.pow_succ, Nat.mul_comm (2 ^ _) 2, Nat.mul_assoc]
   simp only [nxE]
   omega
theorem zib9 (ls : List Int) {s t b c : Nat} (hst : s < t) (hb : b < ls.length) (he : ls.getD b 0 = ((s + 1 : Nat) : Int)) : nx ls s b < nx ls t c / 2 ^ (t - s) := by
 rw [Nat.lt_iff_add_one_le, Nat.le_div_iff_mul_le (Nat.pow_pos (by decide))]
 have h1 := cnt_lt ls (s + 1) hb he
 have h2 : nx ls s b + 1 <= nxE ls (s + 1) := by simp only [nxE, nx]; omega
 have h3 := nxE_ge ls (show s + 1 <= t by omega)
 have h4 : (nx ls s b + 1) * 2 ^ (t - s) <= nxE ls (s + 1) * 2 ^ (t - s) := Nat.mul_le_mul_right _ h2
 have e : 2 ^ (t - s) = 2 * 2 ^ (t - (s + 1)) := by rw [show t - s = (t - (s + 1)) + 1 by omega, Nat.pow_succ, Nat.mul_comm]
 have h5 : nxE ls (s + 1) * 2 ^ (t - s) = 2 * (2 ^ (t - (s + 1)) * nxE ls (s + 1)) := by rw [e, Nat.mul_comm, Nat.mul_assoc]
 simp only [nx] at h4 ⊢
 omega
theorem ztv9 (ls : List Int) {s b c : Nat} (hbc : b < c) (he : ls.getD b 0 = ((s + 1 : Nat) : Int)) : nx ls s b < nx ls s c := by
 have := cnt_lt ls (s + 1) hbc he
 simp only [nx]
 omega
def cd (ls : List Int) (b : Nat) : Int × Int := if 0 < ls.getD b 0 then (ls.getD b 0, (nx ls ((ls.getD b 0).toNat - 1) b : Int)) else (0, 0)
def cdT (ls : List Int) (s b : Nat) : List (Int × Int) := (List.range 256).map fun c => if 0 < ls.getD c 0 /\ (ls.getD c 0 < (s : Int) ∨ (ls.getD c 0 = (s : Int) /\ c < b)) then cd ls c else (0, 0)
def cdl (ls : List Int) : List (Int × Int) := (List.range 256).map (cd ls)
theorem zaj9 (f : Nat -> Int × Int) (n b : Nat) (h : b < n) : ((List.range n).map f).getD b (0, 0) = f b := by simp [List.getD_eq_getElem?_getD, h]
theorem zar9 (ls : List Int) (s b : Nat) : (cdT ls s b).length = 256 := by simp [cdT]
theorem zbu9 (ls : List Int) : (cdl ls).length = 256 := by simp [cdl]
theorem zev9 {xs ys : List (Int × Int)} (hl : xs.length = ys.length) (h : ∀ i, i < xs.length -> xs.getD i (0, 0) = ys.getD i (0, 0)) : xs = ys := by
 apply List.ext_getElem hl
 intro i h1 h2
 have := h i h1
 simpa [List.getD_eq_getElem?_getD, h1, h2] using this
theorem zso9 (n i : Nat) : (List.replicate n ((0 : Int), (0 : Int))).getD i (0, 0) = (0, 0) := by
 simp only [List.getD_eq_getElem?_getD, List.getElem?_replicate]
 split <;> rfl
theorem ztl9 (ls : List Int) : cdT ls 1 0 = List.replicate 256 (0, 0) := by
 refine zev9 (by rw [zar9, List.length_replicate]) (fun i hi => ?_)
 rw [zar9] at hi
 unfold cdT
 rw [zaj9 _ _ i hi, if_neg (by omega), zso9]
theorem zxc9 (ls : List Int) (s : Nat) (h : ls.length <= 256) : cdT ls s ls.length = cdT ls (s + 1) 0 := by
 refine zev9 (by simp [cdT]) (fun i hi => ?_)
 rw [zar9] at hi
 unfold cdT
 rw [zaj9 _ _ i hi, zaj9 _ _ i hi]
 by_cases hil : i < ls.length
 ·by_cases e : 0 < ls.getD i 0 /\ (ls.getD i 0 < (s : Int) ∨ (ls.getD i 0 = (s : Int) /\ i < ls.length))
  ·rw [if_pos e, if_pos ⟨e.1, by have := e.2; omega⟩]
  ·rw [if_neg e, if_neg (fun x => e ⟨x.1, by have := x.2; omega⟩)]
 ·have hz : ls.getD i 0 = 0 := by simp [List.getD_eq_getElem?_getD, List.getElem?_eq_none (by omega : ls.length <= i)]
  rw [if_neg (by omega), if_neg (by omega)]
theorem zyx9 (ls : List Int) (s b : Nat) (hb : b < 256) (he : ls.getD b 0 = ((s + 1 : Nat) : Int)) : cdT ls (s + 1) (b + 1) = (cdT ls (s + 1) b).set b (((s + 1 : Nat) : Int), (nx ls s b : Int)) := by
 refine zev9 (by simp [cdT]) (fun i hi => ?_)
 rw [zar9] at hi
 have e2 : ((cdT ls (s + 1) b).set b (((s + 1 : Nat) : Int), (nx ls s b : Int))).getD i (0, 0) = if i = b then (((s + 1 : Nat) : Int), (nx ls s b : Int)) else (cdT ls (s + 1) b).getD i (0, 0) := by
  simp only [List.getD_eq_getElem?_getD, List.getElem?_set, zar9]
  by_cases e : b = i
  ·subst e; simp [hb]
  ·rw [if_neg e, if_neg (fun x => e x.symm)]
 rw [e2]
 unfold cdT
 rw [zaj9 _ _ i hi, zaj9 _ _ i hi]
 by_cases e : i = b
 ·subst e
  rw [if_pos ⟨by omega, .inr ⟨he, by omega⟩⟩, if_pos rfl]
  unfold cd
  rw [if_pos (by omega), he, Int.toNat_natCast]
  rfl
 ·rw [if_neg e]
  by_cases h : 0 < ls.getD i 0 /\ (ls.getD i 0 < ((s + 1 : Nat) : Int) ∨ (ls.getD i 0 = ((s + 1 : Nat) : Int) /\ i < b))
  ·rw [if_pos h, if_pos ⟨h.1, by have := h.2; omega⟩]
  ·rw [if_neg h, if_neg (fun x => h ⟨x.1, by have := x.2; omega⟩)]
theorem zvv9 (ls : List Int) (s b : Nat) (he : ls.getD b 0 ≠ (s : Int)) : cdT ls s (b + 1) = cdT ls s b := by
 refine zev9 (by simp [cdT]) (fun i hi => ?_)
 rw [zar9] at hi
 unfold cdT
 rw [zaj9 _ _ i hi, zaj9 _ _ i hi]
 by_cases h : 0 < ls.getD i 0 /\ (ls.getD i 0 < (s : Int) ∨ (ls.getD i 0 = (s : Int) /\ i < b))
 ·rw [if_pos h, if_pos ⟨h.1, by have := h.2; omega⟩]
 ·rw [if_neg h, if_neg]
  rintro ⟨h1, h2⟩
  apply h
  refine ⟨h1, ?_⟩
  rcases h2 with h2 | ⟨h2, h3⟩
  ·exact .inl h2
  ·by_cases e : i = b
   ·subst e; exact absurd h2 he
   ·exact .inr ⟨h2, by omega⟩
theorem zaag9 {ls : List Int} (h : LOk ls) : cdT ls 12 0 = cdl ls := by
 refine zev9 (by simp [cdT, cdl]) (fun i hi => ?_)
 rw [zar9] at hi
 unfold cdT cdl
 rw [zaj9 _ _ i hi, zaj9 _ _ i hi]
 by_cases e : 0 < ls.getD i 0
 ·have : ls.getD i 0 <= 11 := by
   by_cases hil : i < ls.length
   ·exact (h.each i hil).2
   ·simp [List.getD_eq_getElem?_getD, List.getElem?_eq_none (by omega : ls.length <= i)]
  rw [if_pos ⟨e, .inl (by omega)⟩]
 ·rw [if_neg (fun x => e x.1)]
  unfold cd
  rw [if_neg e]
end Go.Proofs.YtobenjkacpipeaaGreat
