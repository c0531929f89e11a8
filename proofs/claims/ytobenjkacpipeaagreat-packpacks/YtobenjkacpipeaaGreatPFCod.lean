import Derived.Test.YtobenjkacpipeaaGreatPFPl
import Derived.Test.YtobenjkacpipeaaGreatPLen8
import Derived.Test.YtobenjkacpipeaaGreatPFArr
import Derived.Laws.CopyOwn
set_option maxRecDepth 100000
set_option linter.unusedVariables false
set_option linter.unusedSimpArgs false
set_option maxHeartbeats 8000000
namespace Go.Proofs.YtobenjkacpipeaaGreat.Pl
def nbt (σ sh : Nat) : Nat -> Nat -> Nat
 | 0, n => n
 | f + 1, n => if σ / 2 ^ n < 2 * sh then n else nbt σ sh f (n + 1)
def nb (σ sh : Nat) : Nat := nbt σ sh 10 0
theorem zkf9 (σ sh : Nat) : ∀ f n, (∀ m, m < n -> 2 * sh <= σ / 2 ^ m) -> (∀ m, m < nbt σ sh f n -> 2 * sh <= σ / 2 ^ m) /\ nbt σ sh f n <= n + f /\ (σ / 2 ^ nbt σ sh f n < 2 * sh ∨ nbt σ sh f n = n + f)
 | 0, n, h => ⟨h, by simp [nbt], .inr rfl⟩
 | f + 1, n, h => by
  simp only [nbt]
  by_cases e : σ / 2 ^ n < 2 * sh
  ·rw [if_pos e]; exact ⟨h, by omega, .inl e⟩
  ·rw [if_neg e]
   have := zkf9 σ sh f (n + 1) (fun m hm => by
    by_cases c : m < n
    ·exact h m c
    ·obtain rfl : m = n := by omega
     omega)
   exact ⟨this.1, by omega, by rcases this.2.2 with h | h; (· exact .inl h); (· exact .inr (by omega))⟩
theorem zlp9 {σ sh : Nat} (h1 : 1 <= sh) (h2 : σ < 1024) : σ / 2 ^ nb σ sh < 2 * sh /\ (∀ m, m < nb σ sh -> 2 * sh <= σ / 2 ^ m) /\ nb σ sh <= 10 := by
 have h := zkf9 σ sh 10 0 (fun m hm => by omega)
 refine ⟨?_, h.1, by have := h.2.1; unfold nb; omega⟩
 rcases h.2.2 with e | e
 ·exact e
 ·unfold nb
  rw [e]
  have : σ / 2 ^ (0 + 10) = 0 := Nat.div_eq_of_lt (by omega)
  omega
theorem nb_x {σ sh z : Nat} (h1 : 1 <= sh) (h2 : σ < 1024) (hz : z <= σ) (hs : sh <= z) : sh <= σ / 2 ^ nb σ sh /\ σ / 2 ^ nb σ sh < 2 * sh := by
 have h := zlp9 h1 h2
 refine ⟨?_, h.1⟩
 cases e : nb σ sh with
 | zero => simp; omega
 | succ n =>
  have := h.2.1 n (by omega)
  rw [Nat.pow_succ, <- Nat.div_div_eq_div_mul]
  omega
def bt (lg x : Nat) : Nat := lg + 1 - Lib.bitLen x
theorem bl_fin : ∀ x : Fin 1024, x.val ≠ 0 -> 1 <= Lib.bitLen x.val /\ 2 ^ (Lib.bitLen x.val - 1) <= x.val /\ x.val < 2 ^ Lib.bitLen x.val := by decide +kernel
theorem bl {x : Nat} (h0 : 1 <= x) (h1 : x < 1024) : 1 <= Lib.bitLen x /\ 2 ^ (Lib.bitLen x - 1) <= x /\ x < 2 ^ Lib.bitLen x := bl_fin ⟨x, h1⟩ (by simp; omega)
theorem bl_le {lg x : Nat} (h0 : 1 <= x) (hl : lg <= 9) (h1 : x < 2 * 2 ^ lg) : Lib.bitLen x <= lg + 1 := by
 have h2 : 2 ^ (lg + 1) <= 2 ^ 10 := Nat.pow_le_pow_right (by decide) (by omega)
 have h := bl h0 (by rw [Nat.pow_succ] at h2; omega)
 by_cases c : Lib.bitLen x <= lg + 1
 ·exact c
 ·have : 2 ^ (lg + 1) <= 2 ^ (Lib.bitLen x - 1) := Nat.pow_le_pow_right (by decide) (by omega)
  rw [Nat.pow_succ] at this
  omega
theorem ziz9 {lg x : Nat} (h0 : 1 <= x) (hl : lg <= 9) (h1 : x < 2 * 2 ^ lg) : 2 ^ lg <= x * 2 ^ bt lg x /\ (x + 1) * 2 ^ bt lg x <= 2 * 2 ^ lg /\ bt lg x <= lg := by
 have h2 : 2 ^ (lg + 1) <= 2 ^ 10 := Nat.pow_le_pow_right (by decide) (by omega)
 have h := bl h0 (by rw [Nat.pow_succ] at h2; omega)
 have hle := bl_le h0 hl h1
 unfold bt
 refine ⟨?_, ?_, by omega⟩
 ·have e : 2 ^ lg = 2 ^ (Lib.bitLen x - 1) * 2 ^ (lg + 1 - Lib.bitLen x) := by rw [<- Nat.pow_add]; congr 1; omega
  rw [e]
  exact Nat.mul_le_mul_right _ h.2.1
 ·have e : 2 * 2 ^ lg = 2 ^ Lib.bitLen x * 2 ^ (lg + 1 - Lib.bitLen x) := by rw [<- Nat.pow_add, Nat.mul_comm, <- Nat.pow_succ]; congr 1; omega
  rw [e]
  exact Nat.mul_le_mul_right _ h.2.2
theorem zwo9 {lg x : Nat} (h0 : 1 <= x) (hl : lg <= 9) (h1 : x < 2 * 2 ^ lg) {b : Nat} (hb : b < bt lg x) : x * 2 ^ b < 2 ^ lg := by
 have h := ziz9 h0 hl h1
 have e : 2 ^ b * 2 <= 2 ^ bt lg x := by rw [<- Nat.pow_succ]; exact Nat.pow_le_pow_right (by decide) hb
 have h3 : (x + 1) * (2 ^ b * 2) <= (x + 1) * 2 ^ bt lg x := Nat.mul_le_mul_left _ e
 have h4 : 0 < 2 ^ b := Nat.pow_pos (by decide)
 have h5 : (x + 1) * (2 ^ b * 2) = 2 * (x * 2 ^ b) + 2 * 2 ^ b := by rw [Nat.add_mul, <- Nat.mul_assoc, Nat.mul_comm (x * 2 ^ b) 2]; omega
 omega
theorem bt_eq {lg x b : Nat} (h0 : 1 <= x) (hl : lg <= 9) (h1 : x < 2 * 2 ^ lg) (h2 : 2 ^ lg <= x * 2 ^ b) (h3 : ∀ m, m < b -> x * 2 ^ m < 2 ^ lg) : bt lg x = b := by
 by_cases c : bt lg x < b
 ·have := h3 _ c; have := (ziz9 h0 hl h1).1; omega
 ·by_cases c2 : b < bt lg x
  ·have := zwo9 h0 hl h1 c2; omega
  ·omega
def nxs (f : Nat -> Nat) (L z σ k : Nat) : Nat := z + pl f L z z (cu f k + (σ / 2 ^ nb σ (f k) - f k))
def en (f : Nat -> Nat) (L z : Nat) : List Int -> Nat × List Int
 | [] => (z, [])
 | s :: r => (nxs f L z (en f L z r).1 s.toNat, (en f L z r).2 ++ bitsOf (en f L z r).1 (nb (en f L z r).1 (f s.toNat)))
theorem zns9 {z : Nat} (hz : 0 < z) (f : Nat -> Nat) (L : Nat) (ds : List Int) : z <= (en f L z ds).1 /\ (en f L z ds).1 < 2 * z := by
 cases ds with
 | nil => simp only [en]; omega
 | cons s r =>
  simp only [en, nxs]
  have := pl_lt f L z z (cu f s.toNat + ((en f L z r).1 / 2 ^ nb (en f L z r).1 (f s.toNat) - f s.toNat)) hz
  omega
theorem Bits.append {a b : List Int} (ha : Bits a) (hb : Bits b) : Bits (a ++ b) := by
 intro i
 rw [zal9]
 split
 ·exact ha i
 ·exact hb _
theorem zys9 (f : Nat -> Nat) (L z : Nat) (ds : List Int) : Bits (en f L z ds).2 := by
 induction ds with
 | nil => exact Bits.nil
 | cons s r ih => exact Bits.append ih (zan9 _ _)
theorem nb_le (σ sh : Nat) : nb σ sh <= 10 := by
 have h := zkf9 σ sh 10 0 (fun m hm => by omega)
 have := h.2.1
 unfold nb
 omega
theorem en_len (f : Nat -> Nat) (L z : Nat) (ds : List Int) : (en f L z ds).2.length <= 10 * ds.length := by
 induction ds with
 | nil => simp [en]
 | cons s r ih =>
  simp only [en, List.length_append, za9, List.length_cons]
  have := nb_le (en f L z r).1 (f s.toNat)
  omega
def eRow (f : Nat -> Nat) (L z lg : Nat) (ds : List Int) : List Int := (en f L z ds).2 ++ bitsOf ((((en f L z ds).1 : Nat) : Int) - z) lg
def dc (f : Nat -> Nat) (L z lg : Nat) (B : List Int) (a p : Nat) : Nat -> Option (List Int × Nat × Nat)
 | 0 => some ([], a, p)
 | k + 1 => match dc f L z lg B a p k with
  | none => none
  | some (l, a', p') => if p' < bt lg (xs_ f L z a') then none else
   some (l ++ [(tb f L z a' : Int)], xs_ f L z a' * 2 ^ bt lg (xs_ f L z a') - z + (val B (p' - bt lg (xs_ f L z a')) (bt lg (xs_ f L z a'))).toNat, p' - bt lg (xs_ f L z a'))
theorem xs_bd {f : Nat -> Nat} {L z : Nat} (h : Fok f L z) {a : Nat} (ha : a < z) : 1 <= xs_ f L z a /\ xs_ f L z a < 2 * z := by
 have h1 := h.ah_lt ha
 have h2 := zbj9 f (show tb f L z a + 1 <= L from h.tb_lt a)
 have h3 := h.sum
 simp only [cu] at h2
 unfold xs_
 omega
theorem dc_lt {f : Nat -> Nat} {L lg : Nat} (h : Fok f L (2 ^ lg)) (hl : lg <= 9) {B : List Int} (hB : Bits B) {a p k : Nat} (ha : a < 2 ^ lg) {l : List Int} {a' p' : Nat}
  (he : dc f L (2 ^ lg) lg B a p k = some (l, a', p')) : a' < 2 ^ lg /\ p' <= p /\ l.length = k := by
 induction k generalizing l a' p' with
 | zero => simp only [dc, Option.some.injEq, Prod.mk.injEq] at he; obtain ⟨rfl, rfl, rfl⟩ := he; exact ⟨ha, Nat.le_refl _, rfl⟩
 | succ k ih =>
  simp only [dc] at he
  cases hq : dc f L (2 ^ lg) lg B a p k with
  | none => rw [hq] at he; simp at he
  | some t =>
   obtain ⟨l1, a1, p1⟩ := t
   rw [hq] at he
   simp only at he
   obtain ⟨i1, i2, i3⟩ := ih hq
   split at he
   ·cases he
   ·rename_i hb
    simp only [Option.some.injEq, Prod.mk.injEq] at he
    obtain ⟨rfl, rfl, rfl⟩ := he
    have hx := xs_bd h i1
    have hs := ziz9 hx.1 hl hx.2
    have hv := val_bd hB (p1 - bt lg (xs_ f L (2 ^ lg) a1)) (bt lg (xs_ f L (2 ^ lg) a1))
    have e : ((2 : Int) ^ bt lg (xs_ f L (2 ^ lg) a1)) = ((2 ^ bt lg (xs_ f L (2 ^ lg) a1) : Nat) : Int) := by push_cast; rfl
    rw [e] at hv
    rw [Nat.add_mul] at hs
    refine ⟨by omega, by omega, by simp [i3]⟩
end Go.Proofs.YtobenjkacpipeaaGreat.Pl
namespace Go.Proofs.YtobenjkacpipeaaGreat
open Go.RowKit Pl
theorem zkp9 (σ sh : Nat) (w : World) (h1 : 1 <= sh) (h2 : sh <= 512) (h3 : σ < 1024) :
  Calls Tryz.prog 124 #[.int .i64 σ, .int .i64 sh] w fun e w' => e = .returned (.int .i64 (nb σ sh)) /\ w' = w := by
 obtain ⟨R, hR⟩ : ∃ R, Hid (nb σ sh = R) := ⟨_, rfl⟩
 rw [hR.out]
 have hS := zlp9 h1 h3
 rw [hR.out] at hS
 have HS : Hid (σ / 2 ^ R < 2 * sh /\ ∀ m, m < R -> 2 * sh <= σ / 2 ^ m) := ⟨hS.1, hS.2.1⟩
 have hR10 : R <= 10 := hS.2.2
 clear hS
 go_enter Tryz.func124, Tryz.ntmps124
 go_wp2
 go_loop [5] (fun x => ∃ n : Nat, n <= R /\ x = .int .i64 n) (fun x => 11 - (intOf x).toNat)
 case atStart => exact ⟨0, Nat.zero_le _, rfl⟩
 case round =>
  obtain ⟨n, hn, rfl⟩ := hrel
  obtain ⟨y, hy⟩ : ∃ y, Hid (σ / 2 ^ n = y) := ⟨_, rfl⟩
  have hyI : (σ : Int) / 2 ^ n = (y : Int) := by rw [<- hy.out]; push_cast; rfl
  have hy1 : y <= 1023 := by rw [<- hy.out]; have := Nat.div_le_self σ (2 ^ n); omega
  by_cases hlt : n < R
  ·have hge := HS.out.2 n hlt
   rw [hy.out] at hge
   have hge' : (2 : Int) * (sh : Int) <= (y : Int) := by omega
   clear hge
   go_wp2
   go_round
   case rel => exact ⟨n + 1, by omega, by go_num⟩
   case measure => simp [intOf]; omega
  ·obtain rfl : n = R := by omega
   have hge := HS.out.1
   rw [hy.out] at hge
   have hge' : (y : Int) < (2 : Int) * (sh : Int) := by omega
   clear hge
   go_wp2
   go_ret
   exact ⟨rfl, rfl⟩
set_option maxRecDepth 100000 in
theorem zsr9 (g : Nat) (f : Nat -> Nat) (L z k a : Nat) (w : World) (h : Iv w g 148 576 (sp f L z z)) (hk : k < L) (hL : L <= 64) (ha : cu f k + a < 512) :
  Calls Tryz.prog 125 #[.pointer (some ⟨g, 0, none⟩), .int .i64 k, .int .i64 a] w fun e w' => e = .returned (.int .i64 (pl f L z z (cu f k + a))) /\ ∃ n, w' = w.drewN n := by
 have c0 : w.cell? ⟨g, k, none⟩ = some (.int .i64 (cu f k : Int)) := by
  rw [h.at_ k (by omega)]; unfold sp fs; rw [if_pos (by omega), if_pos hk]
 obtain ⟨I, hI⟩ : ∃ I, Hid (cu f k + a = I) := ⟨_, rfl⟩
 have c1 : w.cell? ⟨g, 64 + I, none⟩ = some (.int .i64 (pl f L z z I : Int)) := by
  rw [h.at_ (64 + I) (by rw [<- hI.out]; omega)]; unfold sp; rw [if_neg (by omega), show 64 + I - 64 = I by omega]
 have hI1 : I < 512 := by rw [<- hI.out]; exact ha
 have hII : (cu f k : Int) + (a : Int) = (I : Int) := by rw [<- hI.out]; push_cast; rfl
 have hcu : cu f k <= 512 := by omega
 rw [hI.out]
 obtain ⟨C, hC⟩ : ∃ C, Hid (cu f k = C) := ⟨_, rfl⟩
 rw [hC.out] at c0 hII hcu
 obtain ⟨R, hR⟩ : ∃ R, Hid (pl f L z z I = R) := ⟨_, rfl⟩
 rw [hR.out] at c1 ⊢
 have hi0 : (0 : Int) <= (k : Int) := by omega
 have hi1 : (k : Int) < 64 := by omega
 have hi2 : (k : Int) <= 63 := by omega
 have hj0 : (0 : Int) <= (I : Int) := by omega
 have hj1 : (I : Int) < 512 := by omega
 have hj2 : (I : Int) <= 511 := by omega
 have ha0 : a <= 512 := by omega
 clear h ha
 go_enter Tryz.func125, Tryz.ntmps125
 go_wp2_with fail
 go_quiet (fail)
 go_wp2
 go_ret
 exact ⟨rfl, _, rfl⟩
def allS (s ds : List Int) : Bool := decide (∀ i, i < ds.length -> 0 <= ds.getD i 0 /\ (ds.getD i 0).toNat < s.length /\ s.getD (ds.getD i 0).toNat 0 ≠ 0)
theorem zgs9 (v : Value) (a : Option Addr) (cap : Nat) (w : World) :
  Calls Tryz.prog 121 #[v, .slice a 0 cap] w fun e w' => e = .returned (.bool true) /\ w' = w := by
 go_enter Tryz.func121, Tryz.ntmps121
 go_wp2
 go_loop [9] (fun i => i = .int .i64 0) (fun _ => 0)
 case atStart => rfl
 case round =>
  subst hrel
  go_wp2
  go_ret
  exact ⟨rfl, rfl⟩
set_option maxRecDepth 100000 in
theorem zht9 (b o cap b2 o2 cap2 : Nat) (s ds : List Int) (w : World) (h1 : 1 <= s.length) (h2 : s.length <= 64) (h3 : ds.length <= 65536)
  (hc : ∀ i, i < s.length -> w.cell? ⟨b, o + i, none⟩ = some (.int .i64 (s.getD i 0))) (hd : ∀ i, i < ds.length -> w.cell? ⟨b2, o2 + i, none⟩ = some (.int .i64 (ds.getD i 0))) :
  Calls Tryz.prog 121 #[.slice (some ⟨b, o, none⟩) s.length cap, .slice (some ⟨b2, o2, none⟩) ds.length cap2] w fun e w' => e = .returned (.bool (allS s ds)) /\ w' = w := by
 have HC : Hid (∀ i, i < s.length -> w.cell? ⟨b, o + i, none⟩ = some (.int .i64 (s.getD i 0))) := hc
 have HD : Hid (∀ i, i < ds.length -> w.cell? ⟨b2, o2 + i, none⟩ = some (.int .i64 (ds.getD i 0))) := hd
 obtain ⟨R, hR⟩ : ∃ R, Hid (allS s ds = R) := ⟨_, rfl⟩
 rw [hR.out]
 clear hc hd
 go_enter Tryz.func121, Tryz.ntmps121
 go_wp2
 go_loop [9] (fun i => ∃ k : Nat, k <= ds.length /\ i = .int .i64 k /\ Hid (∀ i, i < k -> 0 <= ds.getD i 0 /\ (ds.getD i 0).toNat < s.length /\ s.getD (ds.getD i 0).toNat 0 ≠ 0)) (fun i => ds.length - (intOf i).toNat)
 case atStart => exact ⟨0, Nat.zero_le _, rfl, fun i hi => by omega⟩
 case round =>
  obtain ⟨k, hk, rfl, HA⟩ := hrel
  by_cases hlt : k < ds.length
  ·obtain ⟨x, hxe⟩ : ∃ x, Hid (ds.getD k 0 = x) := ⟨_, rfl⟩
   have cx : w.cell? ⟨b2, o2 + k, none⟩ = some (.int .i64 x) := by rw [HD.out k hlt, hxe.out]
   have bad : (x < 0 ∨ (s.length : Int) <= x ∨ s.getD x.toNat 0 = 0) -> R = false := fun h => by
    rw [<- hR.out]
    unfold allS
    refine decide_eq_false (fun h' => ?_)
    have := h' k hlt
    rw [hxe.out] at this
    rcases h with h | h | h
    ·omega
    ·omega
    ·exact this.2.2 h
   have BAD : Hid ((x < 0 ∨ (s.length : Int) <= x ∨ s.getD x.toNat 0 = 0) -> R = false) := bad
   clear bad
   by_cases hb1 : x < 0
   ·have HR : Hid (R = false) := BAD.out (.inl hb1)
    go_wp2
    go_ret
    exact ⟨by rw [HR.out]; rfl, rfl⟩
   ·by_cases hb2 : (s.length : Int) <= x
    ·have HR : Hid (R = false) := BAD.out (.inr (.inl hb2))
     have hg1 : decide (x < 0) = false := by rw [decide_eq_false_iff_not]; exact hb1
     go_wp2
     go_ret
     exact ⟨by rw [HR.out]; rfl, rfl⟩
    ·obtain ⟨m, hm⟩ := Int.eq_ofNat_of_zero_le (show 0 <= x by omega)
     subst hm
     obtain ⟨y, hy⟩ : ∃ y, Hid (s.getD m 0 = y) := ⟨_, rfl⟩
     have hml : m < s.length := by omega
     have cy : w.cell? ⟨b, o + m, none⟩ = some (.int .i64 y) := by rw [HC.out m hml, hy.out]
     have hg1 : decide ((m : Int) < 0) = false := by rw [decide_eq_false_iff_not]; exact hb1
     have hg2 : decide ((s.length : Int) <= (m : Int)) = false := by rw [decide_eq_false_iff_not]; exact hb2
     by_cases hy0 : y = 0
     ·have HR : Hid (R = false) := BAD.out (.inr (.inr (by rw [Int.toNat_natCast, hy.out]; exact hy0)))
      have hye : (y == 0) = true := by simp [hy0]
      clear hb1 hb2 hy0
      go_wp2
      go_ret
      exact ⟨by rw [HR.out]; rfl, rfl⟩
     ·have hye : (y == 0) = false := by simp [hy0]
      have HA2 : Hid (∀ i, i < k + 1 -> 0 <= ds.getD i 0 /\ (ds.getD i 0).toNat < s.length /\ s.getD (ds.getD i 0).toNat 0 ≠ 0) := fun i hi => by
       by_cases e : i < k
       ·exact HA.out i e
       ·obtain rfl : i = k := by omega
        rw [hxe.out, Int.toNat_natCast, hy.out]
        exact ⟨by omega, hml, hy0⟩
      clear hb1 hb2 hy0 HA
      go_wp2
      go_round
      case rel => exact ⟨k + 1, by omega, by go_num, HA2⟩
      case measure => simp [intOf]; omega
  ·obtain rfl : k = ds.length := by omega
   have HR : Hid (R = true) := by show R = true; rw [<- hR.out]; unfold allS; exact decide_eq_true HA.out
   go_wp2
   go_ret
   exact ⟨by rw [HR.out]; rfl, rfl⟩
def t2 (f : Nat -> Nat) (L z lg p i : Nat) : Int :=
 if i / 3 < z then (if i % 3 = 0 then (tb f L z (i / 3) : Int) else if i / 3 < p then (if i % 3 = 1 then (bt lg (xs_ f L z (i / 3)) : Int) else ((xs_ f L z (i / 3) * 2 ^ bt lg (xs_ f L z (i / 3)) - z : Nat) : Int)) else 0) else 0
def nt (f : Nat -> Nat) (L z p i : Nat) : Int := if i < L then ((f i + ah f L z i p : Nat) : Int) else 0
theorem t2_sym (f : Nat -> Nat) (L z lg p q : Nat) (hq : q < z) : t2 f L z lg p (q * 3) = (tb f L z q : Int) := by
 have h1 : q * 3 / 3 = q := by omega
 have h2 : q * 3 % 3 = 0 := by omega
 unfold t2
 rw [h1, h2, if_pos hq, if_pos rfl]
theorem zaad9 (f : Nat -> Nat) (L z lg q : Nat) (hq : q < z) : t2 f L z lg z (q * 3 + 1) = (bt lg (xs_ f L z q) : Int) := by
 have h1 : (q * 3 + 1) / 3 = q := by omega
 have h2 : (q * 3 + 1) % 3 = 1 := by omega
 unfold t2
 rw [h1, h2, if_pos hq, if_neg (by omega), if_pos hq, if_pos rfl]
theorem zzo9 (f : Nat -> Nat) (L z lg q : Nat) (hq : q < z) : t2 f L z lg z (q * 3 + 2) = ((xs_ f L z q * 2 ^ bt lg (xs_ f L z q) - z : Nat) : Int) := by
 have h1 : (q * 3 + 2) / 3 = q := by omega
 have h2 : (q * 3 + 2) % 3 = 2 := by omega
 unfold t2
 rw [h1, h2, if_pos hq, if_neg (by omega), if_pos hq, if_neg (by omega)]
theorem zye9 (f : Nat -> Nat) (L z lg i : Nat) (hz : 0 < z) : tc f L z z i = t2 f L z lg 0 i := by
 unfold tc t2
 by_cases c : i / 3 < z
 ·by_cases d : i % 3 = 0
  ·rw [if_pos ⟨d, c⟩, if_pos c, if_pos d, tj_end _ _ _ _ hz]
  ·rw [if_neg (fun h => d h.1), if_pos c, if_neg d, if_neg (by omega)]
 ·rw [if_neg (fun h => c h.2), if_neg c]
theorem zaaq9 (f : Nat -> Nat) (L z lg p i : Nat) (hp : p < z) :
  upd (upd (t2 f L z lg p) (p * 3 + 1) (bt lg (xs_ f L z p) : Int)) (p * 3 + 2) ((xs_ f L z p * 2 ^ bt lg (xs_ f L z p) - z : Nat) : Int) i = t2 f L z lg (p + 1) i := by
 unfold upd
 by_cases e2 : i = p * 3 + 2
 ·subst e2
  rw [if_pos rfl]
  unfold t2
  have h1 : (p * 3 + 2) / 3 = p := by omega
  have h2 : (p * 3 + 2) % 3 = 2 := by omega
  rw [h1, h2, if_pos hp, if_neg (by omega), if_pos (by omega), if_neg (by omega)]
 ·rw [if_neg e2]
  by_cases e1 : i = p * 3 + 1
  ·subst e1
   rw [if_pos rfl]
   unfold t2
   have h1 : (p * 3 + 1) / 3 = p := by omega
   have h2 : (p * 3 + 1) % 3 = 1 := by omega
   rw [h1, h2, if_pos hp, if_neg (by omega), if_pos (by omega), if_pos rfl]
  ·rw [if_neg e1]
   unfold t2
   by_cases c : i / 3 < z
   ·rw [if_pos c, if_pos c]
    by_cases d : i % 3 = 0
    ·rw [if_pos d, if_pos d]
    ·rw [if_neg d, if_neg d]
     by_cases h : i / 3 < p
     ·simp only [if_pos h, if_pos (show i / 3 < p + 1 by omega)]
     ·simp only [if_neg h, if_neg (show ¬ i / 3 < p + 1 by omega)]
   ·rw [if_neg c, if_neg c]
theorem zwh9 (s : List Int) (z i : Nat) (h : ∀ k, k < s.length -> 0 <= s.getD k 0) (hi : i < 64) (hl : s.length <= 64) :
  (splice (ics 64 (fun _ => 0)) 0 (s.map (Value.int .i64)))[i]? = some (.int .i64 (nt (nn s) s.length z 0 i)) := by
 unfold splice
 simp only [List.take_zero, List.nil_append, Nat.zero_add, List.length_map]
 rw [List.getElem?_append]
 by_cases c : i < s.length
 ·rw [if_pos (by simpa using c)]
  have h0 := h i c
  simp only [List.getElem?_map, nt, if_pos c, ah, nn]
  rw [List.getD_eq_getElem?_getD] at h0 ⊢
  rw [List.getElem?_eq_getElem c] at h0 ⊢
  simp at h0 ⊢
  omega
 ·rw [if_neg (by simpa using c), List.getElem?_drop]
  simp only [List.length_map]
  rw [show s.length + (i - s.length) = i by omega, zfg9 _ _ _ hi]
  unfold nt
  rw [if_neg c]
theorem nt_at {f : Nat -> Nat} {L z : Nat} (h : Fok f L z) (p : Nat) : nt f L z p (tb f L z p) = (xs_ f L z p : Int) := by
 unfold nt; rw [if_pos (h.tb_lt p)]; rfl
theorem zzz9 {f : Nat -> Nat} {L z : Nat} (h : Fok f L z) (p i : Nat) : upd (nt f L z p) (tb f L z p) ((xs_ f L z p : Int) + 1) i = nt f L z (p + 1) i := by
 have hl := h.tb_lt p
 unfold upd nt
 by_cases e : i = tb f L z p
 ·subst e
  rw [if_pos rfl, if_pos hl]
  simp only [ah, if_true, xs_]
  omega
 ·rw [if_neg e]
  by_cases c : i < L
  ·rw [if_pos c, if_pos c]
   simp only [ah]
   rw [if_neg (fun h => e h.symm)]
   rfl
  ·rw [if_neg c, if_neg c]
structure TbW (W0 wr : World) (gt gn : Nat) (f : Nat -> Nat) (L z lg p : Nat) : Prop where
 t : Iv wr gt 179 1536 (t2 f L z lg p)
 n : Iv wr gn 145 64 (nt f L z p)
 ne : gt ≠ gn
 tch : Tch (fun k => k = gt ∨ k = gn) W0 wr
theorem TbW.step {W0 wr : World} {gt gn : Nat} {f : Nat -> Nat} {L z lg p : Nat} (h : TbW W0 wr gt gn f L z lg p) (hk : Fok f L z) (hL : L <= 64) (hp : p < z) :
  TbW W0 (((wr.setCell ⟨gn, tb f L z p, none⟩ (.int .i64 ((xs_ f L z p : Int) + 1))).setCell ⟨gt, p * 3 + 1, none⟩ (.int .i64 (bt lg (xs_ f L z p) : Int))).setCell ⟨gt, p * 3 + 2, none⟩ (.int .i64 ((xs_ f L z p * 2 ^ bt lg (xs_ f L z p) - z : Nat) : Int))) gt gn f L z lg (p + 1) := by
 have hz := hk.zok.pos
 have ht := hk.tb_lt p
 have t1 : Tch (fun k => k = gn) wr (wr.setCell ⟨gn, tb f L z p, none⟩ (.int .i64 ((xs_ f L z p : Int) + 1))) := Tch.setCell (Tch.refl (fun k => k = gn) wr) (p := ⟨gn, tb f L z p, none⟩) (fun _ => rfl) _
 obtain ⟨w1, hw1⟩ : ∃ w1, w1 = wr.setCell ⟨gn, tb f L z p, none⟩ (.int .i64 ((xs_ f L z p : Int) + 1)) := ⟨_, rfl⟩
 have n1 := h.n.set (tb f L z p) (by omega) ((xs_ f L z p : Int) + 1)
 rw [<- hw1] at t1 n1 ⊢
 have t1' := (h.t.tch t1 h.ne).set (p * 3 + 1) (by omega) (bt lg (xs_ f L z p) : Int)
 have t2' := t1'.set (p * 3 + 2) (by omega) ((xs_ f L z p * 2 ^ bt lg (xs_ f L z p) - z : Nat) : Int)
 have tt : Tch (fun k => k = gt) w1 ((w1.setCell ⟨gt, p * 3 + 1, none⟩ (.int .i64 (bt lg (xs_ f L z p) : Int))).setCell ⟨gt, p * 3 + 2, none⟩ (.int .i64 ((xs_ f L z p * 2 ^ bt lg (xs_ f L z p) - z : Nat) : Int))) :=
  Tch.setCell (Tch.setCell (Tch.refl (fun k => k = gt) w1) (p := ⟨gt, p * 3 + 1, none⟩) (fun _ => rfl) _) (p := ⟨gt, p * 3 + 2, none⟩) (fun _ => rfl) _
 refine ⟨t2'.congr (fun i _ => zaaq9 f L z lg p i hp), (n1.tch tt (fun e => h.ne e.symm)).congr (fun i _ => zzz9 hk p i), h.ne, ?_⟩
 exact (h.tch.trans t1 (fun _ _ e => .inr e)).trans tt (fun _ _ e => .inl e)
set_option maxRecDepth 100000 in
theorem zmw9 (v : Value) (s : List Int) (lg z : Nat) (w : World) (hr : Rd .i64 w v s) (hk : Sok s lg) (hz : 2 ^ lg = z) :
  Calls Tryz.prog 152 #[v, .int .i64 lg] w fun e w' => e = .returned (.agg (ics 1536 (t2 (nn s) s.length z lg z)).toArray) /\ Below w.heap.size w w' := by
 have HR : Hid (Rd .i64 w v s) := hr
 obtain ⟨a, cap, rfl, hlc, hcm, _, hcc⟩ := hr
 have HC : Hid (s = [] ∨ ∃ b o, a = some ⟨b, o, none⟩ /\ ∀ i, i < s.length -> w.cell? ⟨b, o + i, none⟩ = some (.int .i64 (s.getD i 0))) := hcc
 have HK : Hid (Sok s lg) := hk
 have HZ : Hid (2 ^ lg = z) := hz
 have HF : Hid (Fok (nn s) s.length z) := by show Fok _ _ _; rw [<- hz]; exact hk.fok
 have hz1 := HF.out.zok.pos
 have hlen := hk.len
 have hl5 := hk.lo
 have hl9 := hk.hi
 have hpz : wrap64 (2 ^ lg) = (z : Int) := by
  have e : ((2 : Int) ^ lg) = ((2 ^ lg : Nat) : Int) := by push_cast; rfl
  rw [e, hz]
  exact IntWalk.wrap64_in _ ⟨by omega, by omega⟩
 obtain ⟨hvT, hiT⟩ := zero_of_info zhe9
 have HIT : Hid ((Tryz.prog.info? 179).map (·.size) = some 1536) := hiT
 obtain ⟨hvN, hiN⟩ := zero_of_info zqn9
 clear hcc hiT hiN hk hz
 obtain ⟨ZT, hZT⟩ : ∃ Z, Hid ((ics 1536 (fun _ => 0)).toArray = Z) := ⟨_, rfl⟩
 obtain ⟨ZL, hZL⟩ : ∃ Z, Hid (ics 64 (fun _ => 0) = Z) := ⟨_, rfl⟩
 rw [hZT.out] at hvT
 rw [hZL.out] at hvN
 have HVN : Hid (∀ (w : World), Sem.run Tryz.prog (zeroValue 145) w = Result.ok (Value.agg ZL.toArray) w) := hvN
 have HZTL : Hid (ZT.size = 1536) := by show _ = _; rw [<- hZT.out, zcs9]
 have HZLL : Hid (ZL.length = 64) := by show _ = _; rw [<- hZL.out, zp9]
 clear hvN
 obtain ⟨F, hF⟩ : ∃ F, Hid (ics 1536 (t2 (nn s) s.length z lg z) = F) := ⟨_, rfl⟩
 rw [hF.out]
 go_enter Tryz.func152, Tryz.ntmps152
 go_wp2_with fail
 have HB0 : Hid (Below w.heap.size w (w.alloc (.cells ZT 179))) := (Below.refl _ _).alloc (Nat.le_refl _) _
 have R0 : Hid ((w.alloc (.cells ZT 179)).heap[w.heap.size]? = some (.cells ZT 179 (0, 0))) := heap_alloc_new w _
 refine (zga9 _ s lg z _ (HR.out.below HB0.out) HK.out HZ.out).mono ?_
 rintro e w2 ⟨rfl, hb2⟩
 have HBW : Hid (Below (w.alloc (.cells ZT 179)).heap.size (w.alloc (.cells ZT 179)) w2) := hb2
 have hn2 : w.heap.size < w2.heap.size := by have := hb2.size; simp at this; omega
 clear hb2
 obtain ⟨FT, hFT⟩ : ∃ FT, Hid (ics 1536 (tc (nn s) s.length z z) = FT) := ⟨_, rfl⟩
 have HTS : Hid (FT.toArray.size = 1536) := by show _ = _; rw [List.size_toArray, <- hFT.out, zp9]
 have HTO : Hid (FT.toArray.all (·.oneCell') = true) := by show _ = _; rw [<- hFT.out]; exact zdv9 _ _
 rw [hFT.out]
 obtain ⟨X1, hX1⟩ : ∃ X1, Hid (s.map (Value.int .i64) = X1) := ⟨_, rfl⟩
 have HX1 : Hid (X1.length = s.length) := by show _ = _; rw [<- hX1.out, List.length_map]
 have HX2 : Hid (∀ v ∈ X1, v.oneCell' = true) := by rw [<- hX1.out]; exact ints_oneCell _ _
 have HX3 : Hid (0 < X1.length -> ∃ ad, a = some ad /\ ∀ j v, X1[j]? = some v -> w.cell? (ad.add j) = some v /\ (ad.add j).block < w.heap.size) := fun h => by
  rcases HC.out with rfl | ⟨b, o, rfl, hc⟩
  ·rw [HX1.out] at h; simp at h
  ·refine ⟨_, rfl, fun j x hx => ?_⟩
   have hj : j < s.length := by have := (List.getElem?_eq_some_iff.1 hx).1; rw [HX1.out] at this; exact this
   rw [<- hX1.out, List.getElem?_map, List.getElem?_eq_getElem hj] at hx
   simp at hx
   have h0 := hc j hj
   rw [List.getD_eq_getElem?_getD, List.getElem?_eq_getElem hj] at h0
   simp at h0
   rw [Addr.add_lit]
   refine ⟨?_, World.block_lt_of_cell? w ⟨b, o + j, none⟩ h0⟩
   rw [h0, <- hx]
 have HIE : Hid ((Tryz.prog.info? 3).map (·.size) = some 1) := by show _ = _; kernel_rfl
 have hvN := HVN.out
 go_wp2_with (refine zl9 w2 rfl 179 (.tmp 6) (.tmp 15) rfl ZT FT.toArray rfl rfl (by rw [HTS.out]; exact HIT.out) (by rw [HTS.out, HZTL.out]) HTO.out ?_)
 obtain ⟨ad, ha, hsrc⟩ := HX3.out (by rw [HX1.out]; exact HK.out.pos)
 subst ha
 have hgN : ((w2.alloc (.cells FT.toArray 179)).alloc (.cells ZL.toArray 145)).heap[w2.heap.size + 1]? = some (.cells ZL.toArray 145 (0, 0)) := by
  have := heap_alloc_new (w2.alloc (.cells FT.toArray 179)) (.cells ZL.toArray 145)
  simpa using this
 have hcp := run_copy_row (P := Tryz.prog) ((w2.alloc (.cells FT.toArray 179)).alloc (.cells ZL.toArray 145)) 56 56 3 3 (w2.heap.size + 1) 0 64 64 ad s.length cap ZL.toArray 145 X1
  Tryz.underlying56 HIE.out hgN (by rw [HX1.out]; exact (Nat.min_eq_left hlen).symm) (fun j x hx => by
   obtain ⟨h1, h2⟩ := hsrc j x hx
   have hbl : (ad.add j).block < w.heap.size := h2
   have hB : Below w.heap.size w ((w2.alloc (.cells FT.toArray 179)).alloc (.cells ZL.toArray 145)) := by
    have h3 := HB0.out.trans (HBW.out.mono HB0.out.size)
    exact (h3.alloc h3.size _).alloc (by simp; omega) _
   rw [hB.cell (p := ad.add j) hbl]
   exact h1) (by rw [List.size_toArray, HX1.out, HZLL.out]; omega) HX2.out
 rw [hcp]
 have hg3 : Hid ((((w2.alloc (.cells FT.toArray 179)).alloc (.cells ZL.toArray 145)).setRow (w2.heap.size + 1) (ZL.toArray.toList.take 0 ++ X1 ++ ZL.toArray.toList.drop (0 + X1.length)).toArray).heap[w2.heap.size + 1]? = some (.cells (splice ZL 0 X1).toArray 145 (0, 0))) := by
  show _ = _
  rw [setRow_heap _ _ _ _ _ _ hgN]
  simp [splice]
 have hb3 : Below (w2.heap.size + 1) ((w2.alloc (.cells FT.toArray 179)).alloc (.cells ZL.toArray 145)) (((w2.alloc (.cells FT.toArray 179)).alloc (.cells ZL.toArray 145)).setRow (w2.heap.size + 1) (ZL.toArray.toList.take 0 ++ X1 ++ ZL.toArray.toList.drop (0 + X1.length)).toArray) :=
  below_setRow (Below.refl _ _) (Nat.le_refl _) _
 obtain ⟨w3, hw3⟩ : ∃ w3, Hid (((w2.alloc (.cells FT.toArray 179)).alloc (.cells ZL.toArray 145)).setRow (w2.heap.size + 1) (ZL.toArray.toList.take 0 ++ X1 ++ ZL.toArray.toList.drop (0 + X1.length)).toArray = w3) := ⟨_, rfl⟩
 rw [hw3.out] at hg3 hb3 ⊢
 clear hvN hvT hcp hsrc hgN hw3
 have T0 : Hid (TbW w3 w3 w2.heap.size (w2.heap.size + 1) (nn s) s.length z lg 0) := by
  refine ⟨?_, ?_, by omega, Tch.refl _ _⟩
  ·have ht := iv_new w2 179 1536 (tc (nn s) s.length z z)
   rw [hFT.out] at ht
   have h1 : Iv w3 w2.heap.size 179 1536 (tc (nn s) s.length z z) := by
    unfold Iv
    rw [hb3.block w2.heap.size (by omega), Below.heap_alloc _ _ _ (by simp)]
    exact ht
   exact h1.congr (fun i _ => zye9 _ _ _ _ i (by omega))
  ·have he : splice ZL 0 X1 = ics 64 (nt (nn s) s.length z 0) := by
    apply List.ext_getElem?
    intro i
    by_cases hi : i < 64
    ·rw [zfg9 _ _ _ hi, <- hZL.out, <- hX1.out]
     exact zwh9 s z i HK.out.each hi hlen
    ·rw [List.getElem?_eq_none (by rw [length_splice _ _ _ (by rw [HX1.out, HZLL.out]; omega), HZLL.out]; omega), List.getElem?_eq_none (by rw [zp9]; omega)]
   unfold Iv
   rw [<- he]
   exact hg3.out
 have HB3 : Hid (Below w.heap.size w w3) := by
  have h3 := HB0.out.trans (HBW.out.mono HB0.out.size)
  have h4 := (h3.alloc h3.size (.cells FT.toArray 179)).alloc (by simp; omega) (.cells ZL.toArray 145)
  exact h4.trans (hb3.mono (by omega))
 have R3 : Hid (w3.heap[w.heap.size]? = some (.cells ZT 179 (0, 0))) := by
  show _ = _
  rw [hb3.block w.heap.size (by omega), Below.heap_alloc _ _ _ (by simp; omega), Below.heap_alloc _ _ _ (by omega), HBW.out.block w.heap.size (by simp)]
  exact R0.out
 obtain ⟨gt, hgt⟩ : ∃ gt, w2.heap.size = gt := ⟨_, rfl⟩
 obtain ⟨gn, hgn⟩ : ∃ gn, w2.heap.size + 1 = gn := ⟨_, rfl⟩
 rw [hgn, hgt] at T0
 rw [hgn, hgt]
 have hwg : w.heap.size < gt /\ w.heap.size < gn := by omega
 clear hg3 hb3 HBW HB0 HX1 HX2 HX3 hX1 hgt hgn hn2
 go_wp2_with fail
 go_loopw [20] (fun i wr => ∃ p : Nat, p <= z /\ i = .int .i64 p /\ Hid (TbW w3 wr gt gn (nn s) s.length z lg p)) (fun i _ => z - (intOf i).toNat)
 case atStart => exact ⟨0, Nat.zero_le _, rfl, T0⟩
 case round =>
  clear T0
  obtain ⟨p, hp, rfl, TW⟩ := hrel
  by_cases hlt : p < z
  ·obtain ⟨q, hq⟩ : ∃ q, Hid (tb (nn s) s.length z p = q) := ⟨_, rfl⟩
   obtain ⟨X, hX⟩ : ∃ X, Hid (xs_ (nn s) s.length z p = X) := ⟨_, rfl⟩
   obtain ⟨b, hb⟩ : ∃ b, Hid (bt lg X = b) := ⟨_, rfl⟩
   obtain ⟨Y, hY⟩ : ∃ Y, Hid (X * 2 ^ b = Y) := ⟨_, rfl⟩
   have hq1 : q < s.length := by rw [<- hq.out]; exact HF.out.tb_lt p
   have hX1 := xs_bd HF.out hlt
   rw [hX.out] at hX1
   have hbs := ziz9 (lg := lg) hX1.1 hl9 (by rw [HZ.out]; exact hX1.2)
   have hble := bl_le (lg := lg) hX1.1 hl9 (by rw [HZ.out]; exact hX1.2)
   rw [hb.out, HZ.out] at hbs
   rw [Nat.add_mul, hY.out] at hbs
   obtain ⟨BL, hBL⟩ : ∃ BL, Hid (Lib.bitLen X = BL) := ⟨_, rfl⟩
   rw [hBL.out] at hble
   have hbe := hb.out
   unfold bt at hbe
   rw [hBL.out] at hbe
   have hbI : (lg : Int) + 1 - (BL : Int) = (b : Int) := by omega
   clear hbe
   have hbl10 : BL <= 10 := by omega
   have hY1 : z <= Y /\ Y <= 1024 := by omega
   obtain ⟨D, hD⟩ : ∃ D, Hid (Y - z = D) := ⟨_, rfl⟩
   have hYD : Hid (wrap64 ((Y : Int) - (z : Int)) = (D : Int)) := by
    show _ = _
    rw [IntWalk.wrap64_in _ ⟨by omega, by omega⟩, <- hD.out]; omega
   have hb9 : b <= 9 := by omega
   have t0 : wr.cell? ⟨gt, p * 3, none⟩ = some (.int .i64 (q : Int)) := by
    rw [TW.out.t.at_ (p * 3) (by omega), t2_sym _ _ _ _ _ _ hlt, hq.out]
   have t1 := TW.out.t.at_ (p * 3 + 1) (by omega)
   have t3 := TW.out.t.at_ (p * 3 + 2) (by omega)
   have f1 := TW.out.t.fz (p * 3 + 1)
   have f2 := TW.out.t.fz (p * 3 + 2)
   have n0 : wr.cell? ⟨gn, q, none⟩ = some (.int .i64 (X : Int)) := by
    rw [TW.out.n.at_ q (by omega), <- hq.out, nt_at HF.out p, hX.out]
   have n1 := TW.out.n.fz q
   have hne := TW.out.ne
   have HTW : Hid (TbW w3 (((wr.setCell ⟨gn, q, none⟩ (.int .i64 ((X : Int) + 1))).setCell ⟨gt, p * 3 + 1, none⟩ (.int .i64 (b : Int))).setCell ⟨gt, p * 3 + 2, none⟩ (.int .i64 (D : Int))) gt gn (nn s) s.length z lg (p + 1)) := by
    have h := TW.out.step HF.out hlen hlt
    rw [hX.out, hq.out, hb.out, hY.out, hD.out] at h
    exact h
   obtain ⟨y1, hy1⟩ : ∃ y, Hid (t2 (nn s) s.length z lg p (p * 3 + 1) = y) := ⟨_, rfl⟩
   obtain ⟨y2, hy2⟩ : ∃ y, Hid (t2 (nn s) s.length z lg p (p * 3 + 2) = y) := ⟨_, rfl⟩
   rw [hy1.out] at t1
   rw [hy2.out] at t3
   have hX3 : X <= 1023 := by omega
   have hi0 : (0 : Int) <= (p : Int) := by omega
   have hi1 : (p : Int) < 512 := by omega
   have hi2 : (p : Int) <= 511 := by omega
   have hj0 : (0 : Int) <= (q : Int) := by omega
   have hj1 : (q : Int) < 64 := by omega
   have hj2 : (q : Int) <= 63 := by omega
   clear TW hbs hble
   have hYI : Hid (wrap64 ((X : Int) * 2 ^ b) = (Y : Int)) := by
    show _ = _
    have e : ((X : Int) * 2 ^ b) = ((X * 2 ^ b : Nat) : Int) := by push_cast; rfl
    rw [e, hY.out]
    exact IntWalk.wrap64_in _ ⟨by omega, by omega⟩
   go_wp2_with fail
   refine (zqf9 (X : Int) _ (by omega) (by omega)).mono ?_
   rintro e w5 ⟨rfl, rfl⟩
   rw [Int.toNat_natCast, hBL.out]
   go_wp2_with fail
   go_roundw
   case rel => exact ⟨p + 1, by omega, by go_num, by rw [hYI.out, hYD.out]; exact HTW⟩
   case measure => simp [intOf]; omega
  ·obtain rfl : p = z := by omega
   have RR : Hid (wr.there w.heap.size 0 1536) := by
    refine zbi9 (C := ZT) (t := 179) ?_ HZTL.out
    rw [TW.out.tch.block w.heap.size (Array.getElem?_eq_some_iff.1 R3.out).1 (fun e => by rcases e with e | e <;> omega)]
    exact R3.out
   have HRG : Hid (wr.rangeAt gt 0 F) := by rw [<- hF.out]; exact TW.out.t.range
   have HPL : Hid (F.length = 1536) := by show _ = _; rw [<- hF.out, zp9]
   have HSZ : Hid (F.toArray.size = 1536) := by show _ = _; rw [List.size_toArray]; exact HPL.out
   have HON : Hid (F.toArray.all (·.oneCell') = true) := by show _ = _; rw [<- hF.out]; exact zdv9 _ _
   go_wp2_with (first | (refine wpList_load_mid rfl 179 (.tmp 6) rfl gt 0 rfl F _ HRG.out Tryz.underlying179 rfl (by rw [HPL.out]; exact HIT.out) ?_) | (refine wpList_store_mid rfl 179 (.tmp 4) (.tmp 56) rfl w.heap.size 0 F.toArray rfl rfl (by rw [HSZ.out]; exact RR.out) (by rw [HSZ.out]; exact HIT.out) HON.out ?_))
   have hld := run_loadVar_mid (P := Tryz.prog) (wr.setCells w.heap.size 0 F.toArray.toList) w.heap.size 0 179 F _ (by
    have := World.rangeAt_setCells_same wr w.heap.size 0 F.toArray.toList (by rw [Array.length_toList, HSZ.out]; exact RR.out)
    simpa using this) Tryz.underlying179 rfl (by rw [HPL.out]; exact HIT.out)
   refine bodyPost_ret (v := .agg F.toArray) ?_ rfl ⟨rfl, ?_⟩
   ·exact zbo9 (p := 4) (ty := 179) rfl _ _ _ w.heap.size _ rfl hld
   ·have h1 := HB3.out.trans (TW.out.tch.below HB3.out.size (fun k e => by rcases e with e | e <;> omega))
    exact h1.trans ((zbe9 w.heap.size _ 0 wr).below h1.size (fun k e => by rw [e]; exact Nat.le_refl _))
end Go.Proofs.YtobenjkacpipeaaGreat
