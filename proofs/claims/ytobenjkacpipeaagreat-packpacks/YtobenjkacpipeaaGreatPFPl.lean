import Derived.Test.YtobenjkacpipeaaGreatPE64
import Derived.Test.YtobenjkacpipeaaGreatPNum
set_option maxRecDepth 100000
set_option linter.unusedVariables false
set_option linter.unusedSimpArgs false
set_option maxHeartbeats 8000000
namespace Go.Proofs.YtobenjkacpipeaaGreat.Pl
def cu (f : Nat -> Nat) : Nat -> Nat
 | 0 => 0
 | k + 1 => cu f k + f k
theorem zbj9 (f : Nat -> Nat) {a b : Nat} (h : a <= b) : cu f a <= cu f b := by
 induction b with
 | zero => obtain rfl : a = 0 := by omega
           exact Nat.le_refl _
 | succ b ih =>
  by_cases e : a = b + 1
  ·subst e; exact Nat.le_refl _
  ·have := ih (by omega); simp only [cu]; omega
def so (f : Nat -> Nat) (j : Nat) : Nat -> Nat
 | 0 => 0
 | k + 1 => if cu f k <= j then k else so f j k
theorem so_eq (f : Nat -> Nat) (j k n : Nat) (hk : k < n) (h1 : cu f k <= j) (h2 : j < cu f (k + 1)) : so f j n = k := by
 induction n with
 | zero => omega
 | succ n ih =>
  simp only [so]
  by_cases e : k = n
  ·subst e; rw [if_pos h1]
  ·have := zbj9 f (show k + 1 <= n by omega)
   rw [if_neg (by omega), ih (by omega)]
theorem zus9 (f : Nat -> Nat) (j n : Nat) (h : j < cu f n) : so f j n < n /\ cu f (so f j n) <= j /\ j < cu f (so f j n + 1) := by
 induction n with
 | zero => simp [cu] at h
 | succ n ih =>
  simp only [so]
  by_cases e : cu f n <= j
  ·rw [if_pos e]; exact ⟨by omega, e, h⟩
  ·rw [if_neg e]
   have := ih (by omega)
   exact ⟨by omega, this.2⟩
def stp (z : Nat) : Nat := z / 2 + z / 8 + 3
def iv (z : Nat) : Nat := if z = 32 then 7 else if z = 64 then 3 else if z = 128 then 91 else if z = 256 then 11 else 363
def Zok (z : Nat) : Prop := z = 32 ∨ z = 64 ∨ z = 128 ∨ z = 256 ∨ z = 512
theorem zok_of {log : Nat} (h5 : 5 <= log) (h9 : log <= 9) : Zok (2 ^ log) := by
 match log, h5, h9 with
 | 5, _, _ => exact .inl rfl
 | 6, _, _ => exact .inr (.inl rfl)
 | 7, _, _ => exact .inr (.inr (.inl rfl))
 | 8, _, _ => exact .inr (.inr (.inr (.inl rfl)))
 | 9, _, _ => exact .inr (.inr (.inr (.inr rfl)))
theorem iv32 : ∀ j : Fin 32, ((j.val * stp 32) % 32 * iv 32) % 32 = j.val /\ ((j.val * iv 32) % 32 * stp 32) % 32 = j.val := by decide +kernel
theorem iv64 : ∀ j : Fin 64, ((j.val * stp 64) % 64 * iv 64) % 64 = j.val /\ ((j.val * iv 64) % 64 * stp 64) % 64 = j.val := by decide +kernel
theorem iv128 : ∀ j : Fin 128, ((j.val * stp 128) % 128 * iv 128) % 128 = j.val /\ ((j.val * iv 128) % 128 * stp 128) % 128 = j.val := by decide +kernel
theorem iv256 : ∀ j : Fin 256, ((j.val * stp 256) % 256 * iv 256) % 256 = j.val /\ ((j.val * iv 256) % 256 * stp 256) % 256 = j.val := by decide +kernel
theorem iv512 : ∀ j : Fin 512, ((j.val * stp 512) % 512 * iv 512) % 512 = j.val /\ ((j.val * iv 512) % 512 * stp 512) % 512 = j.val := by decide +kernel
theorem Zok.back {z : Nat} (h : Zok z) {j : Nat} (hj : j < z) : ((j * stp z) % z * iv z) % z = j /\ ((j * iv z) % z * stp z) % z = j := by
 rcases h with rfl | rfl | rfl | rfl | rfl
 ·exact iv32 ⟨j, hj⟩
 ·exact iv64 ⟨j, hj⟩
 ·exact iv128 ⟨j, hj⟩
 ·exact iv256 ⟨j, hj⟩
 ·exact iv512 ⟨j, hj⟩
theorem pm32 : ((List.range 32).map (fun q => (q * iv 32) % 32)).isPerm (List.range 32) = true := by decide +kernel
theorem pm64 : ((List.range 64).map (fun q => (q * iv 64) % 64)).isPerm (List.range 64) = true := by decide +kernel
theorem pm128 : ((List.range 128).map (fun q => (q * iv 128) % 128)).isPerm (List.range 128) = true := by decide +kernel
theorem pm256 : ((List.range 256).map (fun q => (q * iv 256) % 256)).isPerm (List.range 256) = true := by decide +kernel
theorem pm512 : ((List.range 512).map (fun q => (q * iv 512) % 512)).isPerm (List.range 512) = true := by decide +kernel
theorem Zok.perm {z : Nat} (h : Zok z) : ((List.range z).map (fun q => (q * iv z) % z)).Perm (List.range z) := by
 rcases h with rfl | rfl | rfl | rfl | rfl
 ·exact List.isPerm_iff.1 pm32
 ·exact List.isPerm_iff.1 pm64
 ·exact List.isPerm_iff.1 pm128
 ·exact List.isPerm_iff.1 pm256
 ·exact List.isPerm_iff.1 pm512
theorem Zok.pos {z : Nat} (h : Zok z) : 32 <= z /\ z <= 512 := by rcases h with rfl | rfl | rfl | rfl | rfl <;> omega
def tb (f : Nat -> Nat) (L z p : Nat) : Nat := so f ((p * iv z) % z) L
def tj (f : Nat -> Nat) (L z j p : Nat) : Nat := if (p * iv z) % z < j then tb f L z p else 0
theorem zrc9 (f : Nat -> Nat) (L z p : Nat) : tj f L z 0 p = 0 := by simp [tj]
theorem tj_end (f : Nat -> Nat) (L z p : Nat) (hz : 0 < z) : tj f L z z p = tb f L z p := by unfold tj; rw [if_pos (Nat.mod_lt _ hz)]
theorem zlm9 {z : Nat} (hz : Zok z) (f : Nat -> Nat) (L j p k : Nat) (hj : j < z) (hp : p < z) (hk : k < L) (h1 : cu f k <= j) (h2 : j < cu f (k + 1)) :
  tj f L z (j + 1) p = if p = (j * stp z) % z then k else tj f L z j p := by
 unfold tj
 by_cases e : p = (j * stp z) % z
 ·rw [if_pos e]
  have hb := (hz.back hj).1
  rw [<- e] at hb
  rw [if_pos (by omega)]
  unfold tb
  rw [hb]
  exact so_eq f j k L hk h1 h2
 ·rw [if_neg e]
  have : (p * iv z) % z ≠ j := fun e2 => e (by have := (hz.back hp).2; rw [e2] at this; exact this.symm)
  by_cases e3 : (p * iv z) % z < j
  ·rw [if_pos e3, if_pos (by omega)]
  ·rw [if_neg e3, if_neg (by omega)]
def ah (f : Nat -> Nat) (L z k : Nat) : Nat -> Nat
 | 0 => 0
 | p + 1 => ah f L z k p + if tb f L z p = k then 1 else 0
theorem zlx9 (f : Nat -> Nat) (L z k : Nat) {a b : Nat} (h : a <= b) : ah f L z k a <= ah f L z k b := by
 induction b with
 | zero => obtain rfl : a = 0 := by omega
           exact Nat.le_refl _
 | succ b ih =>
  by_cases e : a = b + 1
  ·subst e; exact Nat.le_refl _
  ·have := ih (by omega); simp only [ah]; omega
theorem zxw9 (f : Nat -> Nat) (L z k p : Nat) : ah f L z k p = (List.range p).countP (fun q => decide (tb f L z q = k)) := by
 induction p with
 | zero => rfl
 | succ p ih =>
  rw [List.range_succ, List.countP_append, <- ih]
  simp only [ah, List.countP_cons, List.countP_nil]
  split <;> simp_all
theorem zhw9 (a b m : Nat) (h : a <= b) : (List.range m).countP (fun j => decide (a <= j /\ j < b)) = min m b - min m a := by
 induction m with
 | zero => simp
 | succ m ih =>
  rw [List.range_succ, List.countP_append, ih]
  simp only [List.countP_cons, List.countP_nil]
  by_cases e : a <= m /\ m < b
  ·simp only [e, and_self, decide_true, if_true]; omega
  ·simp only [e, decide_false]; simp; omega
theorem ah_all {z : Nat} (hz : Zok z) (f : Nat -> Nat) (L k : Nat) (hs : cu f L = z) (hk : k < L) : ah f L z k z = f k := by
 rw [zxw9]
 have h1 : (List.range z).countP (fun q => decide (tb f L z q = k)) = ((List.range z).map (fun q => (q * iv z) % z)).countP (fun j => decide (so f j L = k)) := by
  rw [List.countP_map]; rfl
 rw [h1, hz.perm.countP_eq]
 have h2 : (List.range z).countP (fun j => decide (so f j L = k)) = (List.range z).countP (fun j => decide (cu f k <= j /\ j < cu f (k + 1))) := by
  refine List.countP_congr fun j hj => ?_
  have hj' : j < cu f L := by rw [hs]; simpa using hj
  simp only [decide_eq_true_eq]
  constructor
  ·intro e
   have := zus9 f j L hj'
   rw [e] at this
   exact this.2
  ·intro e
   exact so_eq f j k L hk e.1 e.2
 rw [h2, zhw9 _ _ _ (by simp only [cu]; omega)]
 have := zbj9 f (show k + 1 <= L by omega)
 simp only [cu] at this ⊢
 omega
structure Fok (f : Nat -> Nat) (L z : Nat) : Prop where
 zok : Zok z
 sum : cu f L = z
theorem Fok.tb_lt {f : Nat -> Nat} {L z : Nat} (h : Fok f L z) (p : Nat) : tb f L z p < L := by
 have : (p * iv z) % z < cu f L := by rw [h.sum]; exact Nat.mod_lt _ (by have := h.zok.pos; omega)
 exact (zus9 f _ L this).1
theorem Fok.ah_lt {f : Nat -> Nat} {L z : Nat} (h : Fok f L z) {p : Nat} (hp : p < z) : ah f L z (tb f L z p) p < f (tb f L z p) := by
 have h1 := ah_all h.zok f L (tb f L z p) h.sum (h.tb_lt p)
 have h2 := zlx9 f L z (tb f L z p) (show p + 1 <= z by omega)
 simp only [ah, if_true] at h2
 omega
theorem Fok.ah_le {f : Nat -> Nat} {L z : Nat} (h : Fok f L z) {k p : Nat} (hk : k < L) (hp : p <= z) : ah f L z k p <= f k := by
 have h1 := ah_all h.zok f L k h.sum hk
 have h2 := zlx9 f L z k hp
 omega
def xs_ (f : Nat -> Nat) (L z p : Nat) : Nat := f (tb f L z p) + ah f L z (tb f L z p) p
def ix (f : Nat -> Nat) (L z p : Nat) : Nat := cu f (tb f L z p) + ah f L z (tb f L z p) p
theorem Fok.ix_lt {f : Nat -> Nat} {L z : Nat} (h : Fok f L z) {p : Nat} (hp : p < z) : ix f L z p < z := by
 have h1 := h.ah_lt hp
 have h2 := zbj9 f (show tb f L z p + 1 <= L from h.tb_lt p)
 have h3 := h.sum
 simp only [cu] at h2
 unfold ix
 omega
theorem Fok.ix_inj {f : Nat -> Nat} {L z : Nat} (h : Fok f L z) {p q : Nat} (hp : p < z) (hq : q < z) (e : ix f L z p = ix f L z q) : p = q := by
 have a1 := h.ah_lt hp
 have a2 := h.ah_lt hq
 unfold ix at e
 have et : tb f L z p = tb f L z q := by
  by_cases c1 : tb f L z p < tb f L z q
  ·have := zbj9 f (show tb f L z p + 1 <= tb f L z q from c1)
   simp only [cu] at this
   omega
  ·by_cases c2 : tb f L z q < tb f L z p
   ·have := zbj9 f (show tb f L z q + 1 <= tb f L z p from c2)
    simp only [cu] at this
    omega
   ·omega
 rw [et] at e
 have e' : ah f L z (tb f L z q) p = ah f L z (tb f L z q) q := by omega
 by_cases c1 : p < q
 ·have := zlx9 f L z (tb f L z q) (show p + 1 <= q from c1)
  simp only [ah, et, if_true] at this
  omega
 ·by_cases c2 : q < p
  ·have := zlx9 f L z (tb f L z q) (show q + 1 <= p from c2)
   simp only [ah, if_true] at this
   omega
  ·omega
def pl (f : Nat -> Nat) (L z : Nat) : Nat -> Nat -> Nat
 | 0, _ => 0
 | p + 1, i => if i = ix f L z p then p else pl f L z p i
theorem Fok.pl_ix {f : Nat -> Nat} {L z : Nat} (h : Fok f L z) {p q : Nat} (hp : p <= z) (hq : q < p) : pl f L z p (ix f L z q) = q := by
 induction p with
 | zero => omega
 | succ p ih =>
  simp only [pl]
  by_cases e : ix f L z q = ix f L z p
  ·rw [if_pos e]; exact (h.ix_inj (by omega) (by omega) e).symm
  ·rw [if_neg e]
   by_cases e2 : q = p
   ·subst e2; exact absurd rfl e
   ·exact ih (by omega) (by omega)
theorem pl_lt (f : Nat -> Nat) (L z p i : Nat) (h : 0 < p) : pl f L z p i < p := by
 induction p with
 | zero => omega
 | succ p ih =>
  simp only [pl]
  split
  ·omega
  ·by_cases e : 0 < p
   ·have := ih e; omega
   ·obtain rfl : p = 0 := by omega
    simp [pl]
theorem zuy9 (f : Nat -> Nat) (L z k a : Nat) : ∀ p, a < ah f L z k p -> ∃ q, q < p /\ tb f L z q = k /\ ah f L z k q = a
 | 0, h => by simp [ah] at h
 | p + 1, h => by
  by_cases c : a < ah f L z k p
  ·obtain ⟨q, h1, h2, h3⟩ := zuy9 f L z k a p c
   exact ⟨q, by omega, h2, h3⟩
  ·simp only [ah] at h
   split at h
   ·rename_i e
    exact ⟨p, by omega, e, by omega⟩
   ·omega
theorem Fok.find {f : Nat -> Nat} {L z : Nat} (h : Fok f L z) {k a : Nat} (hk : k < L) (ha : a < f k) :
  ∃ q, q < z /\ tb f L z q = k /\ ah f L z k q = a /\ pl f L z z (cu f k + a) = q := by
 obtain ⟨q, h1, h2, h3⟩ := zuy9 f L z k a z (by rw [ah_all h.zok f L k h.sum hk]; exact ha)
 refine ⟨q, h1, h2, h3, ?_⟩
 have := h.pl_ix (Nat.le_refl z) h1
 unfold ix at this
 rw [h2, h3] at this
 exact this
end Go.Proofs.YtobenjkacpipeaaGreat.Pl
namespace Go.Proofs.YtobenjkacpipeaaGreat
open Go.RowKit Pl
def nn (s : List Int) (k : Nat) : Nat := (s.getD k 0).toNat
def cumI (s : List Int) : Nat -> Int
 | 0 => 0
 | k + 1 => cumI s k + s.getD k 0
def mayS (s : List Int) (log : Int) : Bool :=
 decide (5 <= log /\ log <= 9 /\ s.length <= 64 /\ (∀ i, i < s.length -> 0 <= s.getD i 0) /\ cumI s s.length = 2 ^ log.toNat /\ s.getD (s.length - 1) 0 ≠ 0)
theorem zur9 {s : List Int} {k : Nat} (h : ∀ i, i < k -> 0 <= s.getD i 0) : cumI s k = (cu (nn s) k : Int) := by
 induction k with
 | zero => rfl
 | succ k ih =>
  have h0 := h k (by omega)
  simp only [cumI, cu, ih (fun i hi => h i (by omega)), nn]
  omega
theorem zis9 {s : List Int} {k i : Nat} (h : ∀ i, i < k -> 0 <= s.getD i 0) (hi : i < k) : s.getD i 0 <= cumI s k := by
 rw [zur9 h]
 have := zbj9 (nn s) (show i + 1 <= k from hi)
 simp only [cu, nn] at this
 have h0 := h i hi
 omega
structure Sok (s : List Int) (lg : Nat) : Prop where
 lo : 5 <= lg
 hi : lg <= 9
 len : s.length <= 64
 each : ∀ i, i < s.length -> 0 <= s.getD i 0
 fok : Fok (nn s) s.length (2 ^ lg)
 last : s.getD (s.length - 1) 0 ≠ 0
theorem Sok.of {s : List Int} {log : Int} (h : mayS s log = true) : ∃ lg : Nat, log = (lg : Int) /\ Sok s lg := by
 unfold mayS at h
 rw [decide_eq_true_eq] at h
 obtain ⟨h1, h2, h3, h4, h5, h6⟩ := h
 obtain ⟨lg, rfl⟩ := Int.eq_ofNat_of_zero_le (show 0 <= log by omega)
 refine ⟨lg, rfl, by omega, by omega, h3, h4, ⟨zok_of (by omega) (by omega), ?_⟩, h6⟩
 rw [zur9 h4] at h5
 simp only [Int.toNat_natCast] at h5
 have e : ((2 : Int) ^ lg) = ((2 ^ lg : Nat) : Int) := by push_cast; rfl
 rw [e] at h5
 exact_mod_cast h5
theorem Sok.le {s : List Int} {lg : Nat} (h : Sok s lg) (k : Nat) : s.getD k 0 = (nn s k : Int) /\ nn s k <= 2 ^ lg := by
 by_cases hk : k < s.length
 ·have h0 := h.each k hk
  have h1 := zbj9 (nn s) (show k + 1 <= s.length from hk)
  have h2 := h.fok.sum
  simp only [cu] at h1
  refine ⟨by unfold nn; omega, by omega⟩
 ·have e : s.getD k 0 = 0 := by simp [List.getD_eq_getElem?_getD, List.getElem?_eq_none (by omega : s.length <= k)]
  unfold nn
  rw [e]
  simp
theorem Sok.z {s : List Int} {lg : Nat} (h : Sok s lg) : 32 <= 2 ^ lg /\ 2 ^ lg <= 512 := h.fok.zok.pos
theorem Sok.pos {s : List Int} {lg : Nat} (h : Sok s lg) : 0 < s.length := by
 have := h.last
 cases s with
 | nil => simp at this
 | cons x r => simp
theorem zah9 (log : Int) (w : World) :
  Calls Tryz.prog 140 #[.int .i64 log] w fun e w' => e = .returned (.bool (decide (5 <= log /\ log <= 9))) /\ w' = w := by
 by_cases h1 : 5 <= log
 ·by_cases h2 : log <= 9
  ·have e : decide (5 <= log /\ log <= 9) = true := by simp [h1, h2]
   rw [e]; clear e
   go_enter Tryz.func140, Tryz.ntmps140
   go_wp2
   go_ret
   exact ⟨rfl, rfl⟩
  ·have e : decide (5 <= log /\ log <= 9) = false := by simp [h2]
   rw [e]; clear e
   have h3 : decide (log <= 9) = false := by simp [h2]
   go_enter Tryz.func140, Tryz.ntmps140
   go_wp2
   go_ret
   exact ⟨rfl, rfl⟩
 ·have e : decide (5 <= log /\ log <= 9) = false := by simp [h1]
  rw [e]; clear e
  have h3 : decide (5 <= log) = false := by simp [h1]
  go_enter Tryz.func140, Tryz.ntmps140
  go_wp2
  go_ret
  exact ⟨rfl, rfl⟩
theorem zsx9 (a : Option Addr) (n cap : Nat) (log : Int) (w : World) (h : decide (5 <= log /\ log <= 9) = false) :
  Calls Tryz.prog 119 #[.slice a n cap, .int .i64 log] w fun e w' => e = .returned (.bool false) /\ w' = w := by
 have H : Hid (decide (5 <= log /\ log <= 9) = false) := h
 clear h
 go_enter Tryz.func119, Tryz.ntmps119
 go_wp2_with fail
 refine (zah9 log w).mono ?_
 rintro e w1 ⟨rfl, rfl⟩
 rw [H.out]
 go_wp2
 go_ret
 exact ⟨rfl, rfl⟩
theorem zmp9 (a : Option Addr) (n cap : Nat) (log : Int) (w : World) (h : decide (5 <= log /\ log <= 9) = true) (hn : 64 < n) :
  Calls Tryz.prog 119 #[.slice a n cap, .int .i64 log] w fun e w' => e = .returned (.bool false) /\ w' = w := by
 have H : Hid (decide (5 <= log /\ log <= 9) = true) := h
 have hn' : (64 : Int) < (n : Int) := by omega
 clear h
 go_enter Tryz.func119, Tryz.ntmps119
 go_wp2_with fail
 refine (zah9 log w).mono ?_
 rintro e w1 ⟨rfl, rfl⟩
 rw [H.out]
 go_wp2
 go_ret
 exact ⟨rfl, rfl⟩
theorem pow_z {lg : Nat} (h5 : 5 <= lg) (h9 : lg <= 9) : ∃ z : Nat, Hid (2 ^ lg = z) /\ 32 <= z /\ z <= 512 /\ wrap64 (2 ^ lg) = (z : Int) /\ (2 : Int) ^ lg = (z : Int) := by
 have := (zok_of h5 h9).pos
 have e : ((2 : Int) ^ lg) = ((2 ^ lg : Nat) : Int) := by push_cast; rfl
 refine ⟨2 ^ lg, rfl, this.1, this.2, ?_, e⟩
 rw [e]
 exact IntWalk.wrap64_in _ ⟨by omega, by omega⟩
theorem zkm9 (a : Option Addr) (cap : Nat) (log : Int) (w : World) (h : decide (5 <= log /\ log <= 9) = true) :
  Calls Tryz.prog 119 #[.slice a 0 cap, .int .i64 log] w fun e w' => e = .returned (.bool false) /\ w' = w := by
 have H : Hid (decide (5 <= log /\ log <= 9) = true) := h
 rw [decide_eq_true_eq] at h
 obtain ⟨lg, rfl⟩ := Int.eq_ofNat_of_zero_le (show 0 <= log by omega)
 obtain ⟨z, hz, hz1, hz2, hw, hpz⟩ := pow_z (lg := lg) (by omega) (by omega)
 have hze : ((0 : Int) == (z : Int)) = false := by rw [beq_eq_false_iff_ne]; omega
 have hlg : lg <= 9 := by omega
 clear h hpz
 go_enter Tryz.func119, Tryz.ntmps119
 go_wp2_with fail
 refine (zah9 lg w).mono ?_
 rintro e w1 ⟨rfl, rfl⟩
 rw [H.out]
 go_wp2
 go_loop [6, 21] (fun s i => s = .int .i64 0 /\ i = .int .i64 0) (fun _ _ => 0)
 case atStart => exact ⟨rfl, rfl⟩
 case round =>
  obtain ⟨rfl, rfl⟩ := hrel
  go_wp2
  go_ret
  exact ⟨rfl, rfl⟩
set_option maxRecDepth 100000 in
theorem zpk9 (b o cap : Nat) (s : List Int) (lg : Nat) (w : World) (h5 : 5 <= lg) (h9 : lg <= 9) (h1 : 1 <= s.length) (h2 : s.length <= 64)
  (hc : ∀ i, i < s.length -> w.cell? ⟨b, o + i, none⟩ = some (.int .i64 (s.getD i 0))) :
  Calls Tryz.prog 119 #[.slice (some ⟨b, o, none⟩) s.length cap, .int .i64 lg] w fun e w' => e = .returned (.bool (mayS s lg)) /\ w' = w := by
 have HC : Hid (∀ i, i < s.length -> w.cell? ⟨b, o + i, none⟩ = some (.int .i64 (s.getD i 0))) := hc
 obtain ⟨y, hye⟩ : ∃ y, Hid (s.getD (s.length - 1) 0 = y) := ⟨_, rfl⟩
 have cy : w.cell? ⟨b, o + (s.length - 1), none⟩ = some (.int .i64 y) := by rw [hc _ (by omega), hye.out]
 obtain ⟨R, hR⟩ : ∃ R, Hid (mayS s lg = R) := ⟨_, rfl⟩
 have H : Hid (decide (5 <= (lg : Int) /\ (lg : Int) <= 9) = true) := by show _ = _; rw [decide_eq_true_eq]; omega
 obtain ⟨z, hz, hz1, hz2, hw, hpz⟩ := pow_z h5 h9
 have HPZ : Hid ((2 : Int) ^ lg = (z : Int)) := hpz
 rw [hR.out]
 clear hc hpz
 go_enter Tryz.func119, Tryz.ntmps119
 go_wp2_with fail
 refine (zah9 lg w).mono ?_
 rintro e w1 ⟨rfl, rfl⟩
 rw [H.out]
 go_wp2
 go_loop [6, 21] (fun t i => ∃ (k : Nat) (r : Int), k <= s.length /\ i = .int .i64 k /\ t = .int .i64 r /\ 0 <= r /\ r <= 32768 /\ Hid (cumI s k = r /\ r <= 512 * k /\ ∀ j, j < k -> 0 <= s.getD j 0)) (fun _ i => s.length - (intOf i).toNat)
 case atStart => exact ⟨0, 0, Nat.zero_le _, rfl, rfl, by omega, by omega, rfl, by omega, fun j hj => by omega⟩
 case round =>
  obtain ⟨k, r, hk, rfl, rfl, hr0, hr1, hI⟩ := hrel
  by_cases hlt : k < s.length
  ·obtain ⟨x, hxe⟩ : ∃ x, Hid (s.getD k 0 = x) := ⟨_, rfl⟩
   have cx : w1.cell? ⟨b, o + k, none⟩ = some (.int .i64 x) := by rw [HC.out k hlt, hxe.out]
   by_cases hbad : x < 0 ∨ (z : Int) < x
   ·have HR : Hid (R = false) := by
     show R = false
     rw [<- hR.out]
     unfold mayS
     refine decide_eq_false (fun h => ?_)
     have h4 := h.2.2.2.1
     have h6 := zis9 h4 hlt
     have h7 := h4 k hlt
     rw [h.2.2.2.2.1, Int.toNat_natCast, HPZ.out] at h6
     rw [hxe.out] at h6 h7
     omega
    rcases hbad with hbad | hbad
    ·go_wp2
     go_ret
     exact ⟨by rw [HR.out]; rfl, rfl⟩
    ·go_wp2
     go_ret
     exact ⟨by rw [HR.out]; rfl, rfl⟩
   ·have hx0 : 0 <= x := by omega
    have hx1 : x <= (z : Int) := by omega
    have HI : Hid (cumI s (k + 1) = r + x /\ r + x <= 512 * ((k + 1 : Nat) : Int) /\ ∀ j, j < k + 1 -> 0 <= s.getD j 0) := by
     refine ⟨by simp only [cumI]; rw [hI.out.1, hxe.out], by have := hI.out.2.1; omega, fun j hj => ?_⟩
     by_cases e : j < k
     ·exact hI.out.2.2 j e
     ·have : j = k := by omega
      subst this
      rw [hxe.out]; exact hx0
    have hg1 : decide (x < 0) = false := by rw [decide_eq_false_iff_not]; omega
    have hg2 : decide ((z : Int) < x) = false := by rw [decide_eq_false_iff_not]; omega
    have hrx : r + x <= 32768 := by have := HI.out.2.1; omega
    clear hbad
    go_wp2
    go_round
    case rel => exact ⟨k + 1, r + x, by omega, by go_num, by first | rfl | go_num, by omega, hrx, HI⟩
    case measure => simp [intOf]; omega
  ·obtain rfl : k = s.length := by omega
   have HR : Hid (R = decide (r = (z : Int) /\ y ≠ 0)) := by
    show R = _
    rw [<- hR.out]
    unfold mayS
    rw [hI.out.1, hye.out, decide_eq_decide, Int.toNat_natCast, HPZ.out]
    exact ⟨fun h => h.2.2.2.2, fun h => ⟨by omega, by omega, h2, hI.out.2.2, h⟩⟩
   by_cases hr : r = (z : Int)
   ·have hre : (r == (z : Int)) = true := by simp [hr]
    have HR2 : Hid (R = (y != 0)) := by show R = _; have := HR.out; rw [this, Bool.eq_iff_iff]; simp [hr]
    clear hr
    go_wp2
    go_ret
    exact ⟨by rw [HR2.out]; rfl, rfl⟩
   ·have hre : (r == (z : Int)) = false := by simp [hr]
    have HR2 : Hid (R = false) := by show R = _; have := HR.out; rw [this]; simp [hr]
    clear hr
    go_wp2
    go_ret
    exact ⟨by rw [HR2.out]; rfl, rfl⟩
theorem zau9 (v : Value) (s : List Int) (log : Int) (w : World) (h : Rd .i64 w v s) :
  Calls Tryz.prog 119 #[v, .int .i64 log] w fun e w' => e = .returned (.bool (mayS s log)) /\ w' = w := by
 obtain ⟨a, cap, rfl, _, _, _, h⟩ := h
 cases hd : decide (5 <= log /\ log <= 9) with
 | false =>
  have hf : mayS s log = false := by
   rw [decide_eq_false_iff_not] at hd
   unfold mayS
   exact decide_eq_false (fun h => hd ⟨h.1, h.2.1⟩)
  rw [hf]
  exact zsx9 a _ cap log w hd
 | true =>
  by_cases h1 : 64 < s.length
  ·have hf : mayS s log = false := by unfold mayS; exact decide_eq_false (fun h => by have := h.2.2.1; omega)
   rw [hf]
   exact zmp9 a _ cap log w hd h1
  ·by_cases h0 : s.length = 0
   ·have hl : s = [] := List.eq_nil_of_length_eq_zero h0
    subst hl
    have hf : mayS [] log = false := by unfold mayS; exact decide_eq_false (fun h => h.2.2.2.2.2 rfl)
    rw [hf]
    exact zkm9 a cap log w hd
   ·rcases h with rfl | ⟨b, o, rfl, hc⟩
    ·simp at h0
    ·rw [decide_eq_true_eq] at hd
     obtain ⟨lg, rfl⟩ := Int.eq_ofNat_of_zero_le (show 0 <= log by omega)
     exact zpk9 b o cap s lg w (by omega) (by omega) (by omega) (by omega) hc
end Go.Proofs.YtobenjkacpipeaaGreat
