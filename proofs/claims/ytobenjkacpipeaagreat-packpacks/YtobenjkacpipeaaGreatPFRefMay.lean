import Derived.Test.YtobenjkacpipeaaGreatPFPl
import Derived.Test.YtobenjkacpipeaaGreatPNum
import Derived.Test.YtobenjkacpipeaaGreatPMem
set_option maxRecDepth 100000
set_option linter.unusedVariables false
set_option linter.unusedSimpArgs false
set_option maxHeartbeats 8000000
namespace Go.Proofs.YtobenjkacpipeaaGreat
open Go.RowKit Pl
theorem znm9 (a : Option Addr) (n cap : Nat) (log : Int) (w : World) (h : log < 5 ∨ 9 < log ∨ n < 1 ∨ 64 < n) :
  Calls Tryz.prog 64 #[.slice a n cap, .int .i64 log] w fun e w' => e = .returned (.bool false) /\ w' = w := by
 by_cases h1 : log < 5
 ·clear h
  go_enter Tryz.func64, Tryz.ntmps64
  go_wp2
  go_ret
  exact ⟨rfl, rfl⟩
 ·have g1 : decide (log < 5) = false := by rw [decide_eq_false_iff_not]; exact h1
  by_cases h2 : 9 < log
  ·clear h
   go_enter Tryz.func64, Tryz.ntmps64
   go_wp2
   go_ret
   exact ⟨rfl, rfl⟩
  ·have g2 : decide (9 < log) = false := by rw [decide_eq_false_iff_not]; exact h2
   by_cases h3 : n < 1
   ·obtain rfl : n = 0 := by omega
    clear h
    go_enter Tryz.func64, Tryz.ntmps64
    go_wp2
    go_ret
    exact ⟨rfl, rfl⟩
   ·have h4 : (64 : Int) < (n : Int) := by omega
    have g3 : decide ((n : Int) < 1) = false := by rw [decide_eq_false_iff_not]; omega
    clear h
    go_enter Tryz.func64, Tryz.ntmps64
    go_wp2
    go_ret
    exact ⟨rfl, rfl⟩
set_option maxRecDepth 100000 in
theorem zra9 (b o cap : Nat) (s : List Int) (lg : Nat) (w : World) (h5 : 5 <= lg) (h9 : lg <= 9) (h1 : 1 <= s.length) (h2 : s.length <= 64)
  (hc : ∀ i, i < s.length -> w.cell? ⟨b, o + i, none⟩ = some (.int .i64 (s.getD i 0))) :
  Calls Tryz.prog 64 #[.slice (some ⟨b, o, none⟩) s.length cap, .int .i64 lg] w fun e w' => e = .returned (.bool (mayS s lg)) /\ w' = w := by
 have HC : Hid (∀ i, i < s.length -> w.cell? ⟨b, o + i, none⟩ = some (.int .i64 (s.getD i 0))) := hc
 obtain ⟨y, hye⟩ : ∃ y, Hid (s.getD (s.length - 1) 0 = y) := ⟨_, rfl⟩
 have cy : w.cell? ⟨b, o + (s.length - 1), none⟩ = some (.int .i64 y) := by rw [hc _ (by omega), hye.out]
 obtain ⟨R, hR⟩ : ∃ R, Hid (mayS s lg = R) := ⟨_, rfl⟩
 obtain ⟨z, hz, hz1, hz2, hw, hpz⟩ := pow_z h5 h9
 have HPZ : Hid ((2 : Int) ^ lg = (z : Int)) := hpz
 have g1 : decide ((lg : Int) < 5) = false := by rw [decide_eq_false_iff_not]; omega
 have g2 : decide (9 < (lg : Int)) = false := by rw [decide_eq_false_iff_not]; omega
 have g3 : decide ((s.length : Int) < 1) = false := by rw [decide_eq_false_iff_not]; omega
 have g4 : decide (64 < (s.length : Int)) = false := by rw [decide_eq_false_iff_not]; omega
 rw [hR.out]
 clear hc hpz
 by_cases hy0 : y = 0
 ·have g5 : (y == 0) = true := by simp [hy0]
  have HR : Hid (R = false) := by
   show R = false
   rw [<- hR.out]
   unfold mayS
   exact decide_eq_false (fun h => h.2.2.2.2.2 (by rw [hye.out]; exact hy0))
  clear hy0
  go_enter Tryz.func64, Tryz.ntmps64
  go_wp2
  go_ret
  exact ⟨by rw [HR.out]; rfl, rfl⟩
 ·have g5 : (y == 0) = false := by simp [hy0]
  have HY0 : Hid (y ≠ 0) := hy0
  clear hy0
  go_enter Tryz.func64, Tryz.ntmps64
  go_wp2
  go_loop [5, 6] (fun t i => ∃ (k : Nat) (r : Int), k <= s.length /\ i = .int .i64 k /\ t = .int .i64 r /\ 0 <= r /\ r <= 32768 /\ Hid (cumI s k = r /\ r <= 512 * k /\ ∀ j, j < k -> 0 <= s.getD j 0)) (fun _ i => s.length - (intOf i).toNat)
  case atStart => exact ⟨0, 0, Nat.zero_le _, rfl, rfl, by omega, by omega, rfl, by omega, fun j hj => by omega⟩
  case round =>
   obtain ⟨k, r, hk, rfl, rfl, hr0, hr1, hI⟩ := hrel
   by_cases hlt : k < s.length
   ·obtain ⟨x, hxe⟩ : ∃ x, Hid (s.getD k 0 = x) := ⟨_, rfl⟩
    have cx : w.cell? ⟨b, o + k, none⟩ = some (.int .i64 x) := by rw [HC.out k hlt, hxe.out]
    by_cases hbad : x < 0 ∨ 512 < x
    ·have HR : Hid (R = false) := by
      show R = false
      rw [<- hR.out]
      unfold mayS
      refine decide_eq_false (fun h => ?_)
      have h4 := h.2.2.2.1
      have h6 := zis9 h4 hlt
      have h7 := h4 k hlt
      rw [h.2.2.2.2.1, Int.toNat_natCast, HPZ.out] at h6
      rw [hxe.out] at h6 h7
      omega
     rcases hbad with hbad | hbad
     ·go_wp2
      go_ret
      exact ⟨by rw [HR.out]; rfl, rfl⟩
     ·go_wp2
      go_ret
      exact ⟨by rw [HR.out]; rfl, rfl⟩
    ·have hx0 : 0 <= x := by omega
     have hx1 : x <= 512 := by omega
     have HI : Hid (cumI s (k + 1) = r + x /\ r + x <= 512 * ((k + 1 : Nat) : Int) /\ ∀ j, j < k + 1 -> 0 <= s.getD j 0) := by
      refine ⟨by simp only [cumI]; rw [hI.out.1, hxe.out], by have := hI.out.2.1; omega, fun j hj => ?_⟩
      by_cases e : j < k
      ·exact hI.out.2.2 j e
      ·have : j = k := by omega
       subst this
       rw [hxe.out]; exact hx0
     have hg1 : decide (x < 0) = false := by rw [decide_eq_false_iff_not]; omega
     have hg2 : decide (512 < x) = false := by rw [decide_eq_false_iff_not]; omega
     have hrx : r + x <= 32768 := by have := HI.out.2.1; omega
     clear hbad
     go_wp2
     go_round
     case rel => exact ⟨k + 1, r + x, by omega, by go_num, by first | rfl | go_num, by omega, hrx, HI⟩
     case measure => simp [intOf]; omega
   ·obtain rfl : k = s.length := by omega
    have HR : Hid (R = (r == (z : Int))) := by
     show R = _
     rw [<- hR.out]
     unfold mayS
     rw [hI.out.1, hye.out, Bool.eq_iff_iff, decide_eq_true_eq, Int.toNat_natCast, HPZ.out, beq_iff_eq]
     exact ⟨fun h => h.2.2.2.2.1, fun h => ⟨by omega, by omega, h2, hI.out.2.2, h, HY0.out⟩⟩
    go_wp2
    go_ret
    exact ⟨by rw [HR.out]; rfl, rfl⟩
theorem zmc9 (v : Value) (s : List Int) (log : Int) (w : World) (h : Rd .i64 w v s) :
  Calls Tryz.prog 64 #[v, .int .i64 log] w fun e w' => e = .returned (.bool (mayS s log)) /\ w' = w := by
 obtain ⟨a, cap, rfl, _, _, _, h⟩ := h
 by_cases hb : log < 5 ∨ 9 < log ∨ s.length < 1 ∨ 64 < s.length
 ·have hf : mayS s log = false := by
   unfold mayS
   refine decide_eq_false (fun h => ?_)
   obtain ⟨h1, h2, h3, h4, h5, h6⟩ := h
   rcases hb with hb | hb | hb | hb
   ·omega
   ·omega
   ·have hl : s = [] := List.eq_nil_of_length_eq_zero (by omega)
    rw [hl] at h6
    exact h6 rfl
   ·omega
  rw [hf]
  exact znm9 a _ cap log w hb
 ·rcases h with rfl | ⟨b, o, rfl, hc⟩
  ·simp at hb
  ·obtain ⟨lg, rfl⟩ := Int.eq_ofNat_of_zero_le (show 0 <= log by omega)
   exact zra9 b o cap s lg w (by omega) (by omega) (by omega) (by omega) hc
theorem zgi9 {xs : List Int} (hx : By xs) : ∀ f k0 n k, zy9 xs f k0 = some (n, k) -> 0 <= n /\ n <= 4294967295
 | 0, k0, n, k, h => by simp [zy9] at h
 | f + 1, k0, n, k, h => by
  simp only [zy9] at h
  split at h
  ·split at h
   ·exact zgi9 hx f (k0 + 1) n k h
   ·split at h
    ·cases h
    ·rename_i h3
     simp only [Option.some.injEq, Prod.mk.injEq] at h
     have := zop9 xs hx (k0 + 1)
     omega
  ·cases h
theorem zfk9 {xs : List Int} (hx : By xs) {n : Int} {k : Nat} (h : numRes xs = some (n, k)) : 0 <= n /\ n <= 4294967295 := zgi9 hx _ _ _ _ h
theorem By.drop {xs : List Int} (h : By xs) (m : Nat) : By (xs.drop m) := by
 intro i
 rw [List.getD_eq_getElem?_getD, List.getElem?_drop, <- List.getD_eq_getElem?_getD]
 exact h _
theorem rd_drop' {k : IntKind} {w : World} {b o cap : Nat} {xs : List Int} (m : Nat) (hm : m <= xs.length) (hl : xs.length <= cap) (hc : cap <= maxLen)
  (h : ∀ i, i < xs.length -> w.cell? ⟨b, o + i, none⟩ = some (.int k (xs.getD i 0))) : Rd k w (.slice (some ⟨b, o + m, none⟩) (xs.length - m) (cap - m)) (xs.drop m) := by
 have e : (xs.drop m).length = xs.length - m := by rw [List.length_drop]
 refine ⟨_, cap - m, by rw [e], by omega, by omega, (fun e => by cases e), .inr ⟨b, o + m, rfl, fun i hi => ?_⟩⟩
 rw [Nat.add_assoc, h (m + i) (by omega), List.getD_eq_getElem?_getD, List.getD_eq_getElem?_getD, List.getElem?_drop]
def tkn (xs : List Int) : Nat -> Option (List Int × Nat)
 | 0 => some ([], 0)
 | m + 1 => match tkn xs m with
  | none => none
  | some t => match numRes (xs.drop t.2) with
   | none => none
   | some r => some (t.1 ++ [r.1], t.2 + r.2)
theorem zpu9 {xs : List Int} {m n : Nat} (h : tkn xs m = none) (hmn : m <= n) : tkn xs n = none := by
 induction n with
 | zero => obtain rfl : m = 0 := by omega
           exact h
 | succ n ih =>
  by_cases e : m = n + 1
  ·rw [<- e]; exact h
  ·simp only [tkn]; rw [ih (by omega)]
theorem tkn_le {xs : List Int} : ∀ {m : Nat} {l : List Int} {p : Nat}, tkn xs m = some (l, p) -> l.length = m /\ p <= xs.length
 | 0, l, p, h => by simp [tkn] at h; obtain ⟨rfl, rfl⟩ := h; exact ⟨rfl, Nat.zero_le _⟩
 | m + 1, l, p, h => by
  simp only [tkn] at h
  split at h
  ·cases h
  ·rename_i t ht
   split at h
   ·cases h
   ·rename_i r hr
    simp only [Option.some.injEq, Prod.mk.injEq] at h
    obtain ⟨rfl, rfl⟩ := h
    obtain ⟨h1, h2⟩ := tkn_le (l := t.1) (p := t.2) ht
    obtain ⟨_, h4, _, _⟩ := zbl9 (n := r.1) (k := r.2) hr
    rw [List.length_drop] at h4
    exact ⟨by simp [h1], by omega⟩
def tkW (r : Option (List Int × Nat)) : Int := match r with | some _ => 0 | none => 3
def tkP (r : Option (List Int × Nat)) : Nat := match r with | some t => t.2 | none => 0
def tkL (r : Option (List Int × Nat)) : List Int := match r with | some t => t.1 | none => []
set_option maxRecDepth 100000 in
theorem zlj9 (b o cap : Nat) (ys : List Int) (m : Nat) (w : World) (hy : By ys) (hl : ys.length <= cap) (hc0 : cap <= maxLen) (hm : m <= 64) (hc : ∀ i, i < ys.length -> w.cell? ⟨b, o + i, none⟩ = some (.int .u8 (ys.getD i 0))) :
  Calls Tryz.prog 150 #[.slice (some ⟨b, o, none⟩) ys.length cap, .int .i64 m] w fun e w' => ∃ v', e = .returned (.tuple #[v', .int .i64 (tkP (tkn ys m) : Int), .int .i64 (tkW (tkn ys m))]) /\ Owns .i64 3 w' v' (tkL (tkn ys m)) /\ Grew w w' (.slice none 0 0) v' := by
 have HC : Hid (∀ i, i < ys.length -> w.cell? ⟨b, o + i, none⟩ = some (.int .u8 (ys.getD i 0))) := hc
 have HY : Hid (By ys) := hy
 obtain ⟨R, hR⟩ : ∃ R, Hid (tkn ys m = R) := ⟨_, rfl⟩
 rw [hR.out]
 have hcm := hc0
 unfold maxLen at hcm
 clear hc hy
 obtain ⟨j0, hj, hy0, hy1, hy2⟩ := elem64.info
 go_enter Tryz.func150, Tryz.ntmps150
 go_wp2_with (at_make; refine wpList_make_own _ rfl (.const (.int .i64 0)) (.tmp 12) 56 rfl 0 3 j0 _ 1 Tryz.underlying56 hj hy0 hy1 .i64 .i64 _ m rfl rfl rfl (by rw [hy2]; omega) (by unfold maxLen; omega) (Nat.zero_le _) ?_)
 intro w1 ho1 hg1
 have O1 : Hid (Owns .i64 3 w1 (.slice (some ⟨w.heap.size, 0, none⟩) 0 m) []) := ho1
 have G1 : Hid (Grew w w1 (.slice none 0 0) (.slice (some ⟨w.heap.size, 0, none⟩) 0 m)) := by
  refine ⟨(Tch.refl _ _).grown hg1 (fun k _ e => by cases e), fun k e => .inr ?_⟩
  simp only [Value.ownBlock, Option.some.injEq] at e
  omega
 clear ho1 hg1 hj hy0 hy1 hy2
 go_wp2_with fail
 go_loopw [7, 8, 15] (fun r p i wr => ∃ (k q : Nat) (l : List Int), k <= m /\ q <= ys.length /\ i = .int .i64 k /\ p = .int .i64 q /\ Hid (tkn ys k = some (l, q)) /\ Hid (Owns .i64 3 wr r l) /\ Hid (Grew w wr (.slice none 0 0) r)) (fun _ _ i _ => m - (intOf i).toNat)
 case atStart => exact ⟨0, 0, [], Nat.zero_le _, Nat.zero_le _, rfl, rfl, rfl, O1, G1⟩
 case round =>
  clear O1 G1
  obtain ⟨k, q, l, hk, hq, rfl, rfl, HT, HO, HG⟩ := hrel
  by_cases hlt : k < m
  ·by_cases hql : ys.length <= q
   ·obtain rfl : q = ys.length := by omega
    have HE : Hid (R = none) := by
     show R = none
     rw [<- hR.out]
     refine zpu9 (m := k + 1) ?_ hlt
     simp only [tkn]
     rw [HT.out]
     simp only [List.drop_length]
     rfl
    have HNM : Hid (∀ a c, Calls Tryz.prog 67 #[.slice a 0 c] wr fun e w' => e = .returned (.tuple #[.int .i64 0, .int .i64 0, .int .i64 3]) /\ w' = wr) := fun a c => zgl9 a c wr
    have h00 : ys.length - ys.length = 0 := by omega
    clear hql
    go_wp2_with fail
    all_goals
     try rw [h00]
     refine (HNM.out _ _).mono ?_
     rintro e w2 ⟨rfl, rfl⟩
     go_wp2_with fail
     go_ret3
     rw [HE.out]
     exact ⟨_, rfl, zf9 _ _ _, (HG.out.below).1 |> fun b => ⟨Tch.of_below b, fun k e => by cases e⟩⟩
   have HRD : Hid (Rd .u8 wr (.slice (some ⟨b, o + q, none⟩) (ys.length - q) (cap - q)) (ys.drop q)) := rd_drop' q hq hl hc0 (fun i hi => by
    have h0 := HC.out i hi
    rw [HG.out.below.1.cell (p := ⟨b, o + i, none⟩) (World.block_lt_of_cell? w ⟨b, o + i, none⟩ h0), h0])
   have HNM : Hid (Calls Tryz.prog 67 #[.slice (some ⟨b, o + q, none⟩) (ys.length - q) (cap - q)] wr fun e w' => e = .returned (.tuple #[.int .i64 (resN (numRes (ys.drop q))), .int .i64 (resK (numRes (ys.drop q))), .int .i64 (resE (numRes (ys.drop q)))]) /\ w' = wr) := num_rd _ _ _ HRD.out (HY.out.drop q)
   have hcq : q < cap := by omega
   have hql2 : q < ys.length := by omega
   clear hql
   go_wp2_with fail
   refine HNM.out.mono ?_
   clear HNM HRD
   rintro e w2 ⟨rfl, rfl⟩
   cases hn : numRes (ys.drop q) with
   | none =>
    have HE : Hid (R = none) := by
     show R = none
     rw [<- hR.out]
     refine zpu9 (m := k + 1) ?_ hlt
     simp only [tkn]
     rw [HT.out]
     simp only [hn]
    simp only [resN, resK, resE]
    clear hn
    go_wp2_with fail
    go_ret3
    rw [HE.out]
    exact ⟨_, rfl, zf9 _ _ _, (HG.out.below).1 |> fun b => ⟨Tch.of_below b, fun k e => by cases e⟩⟩
   | some r =>
    obtain ⟨x, j⟩ := r
    obtain ⟨j1, j2, j3, _⟩ := zbl9 hn
    rw [List.length_drop] at j2
    have hx := zfk9 (HY.out.drop q) hn
    have HT2 : Hid (tkn ys (k + 1) = some (l ++ [x], q + j)) := by
     show _ = _
     simp only [tkn]
     rw [HT.out]
     simp only [hn]
    have hll : l.length <= 64 := by have := (tkn_le HT.out).1; omega
    simp only [resN, resK, resE]
    clear hn
    go_wp2_with (at_builtin; refine zd9 _ rfl (.tmp 28) (.tmp 30) 56 rfl 3 .i64 8 elem64 _ l rfl HO.out x rfl (by omega) (by omega) ?_)
    intro v3 w3 ho3 hg3
    have HO3 : Hid (Owns .i64 3 w3 v3 (l ++ [x])) := ho3
    have HG3 : Hid (Grew w w3 (.slice none 0 0) v3) := HG.out.trans hg3
    clear ho3 hg3 HO HG
    go_wp2_with fail
    go_roundw
    case rel => exact ⟨k + 1, q + j, l ++ [x], by omega, by omega, by go_num, by go_num, HT2, HO3, HG3⟩
    case measure => simp [intOf]; omega
  ·obtain rfl : k = m := by omega
   have HE : Hid (R = some (l, q)) := by show R = _; rw [<- hR.out]; exact HT.out
   go_wp2_with fail
   go_ret3
   rw [HE.out]
   exact ⟨_, rfl, HO.out, HG.out⟩
theorem zo9 {fn : Func} {t u v x : Tmp} (h : fn.results = #[.tmp t, .tmp u, .tmp v, .tmp x]) (tmps : Array Value) (P : Program) (w : World) :
  (results fn tmps).run P w = .ok (.tuple #[tmps.getD t undef, tmps.getD u undef, tmps.getD v undef, tmps.getD x undef]) w := by
 simp [results, h]
def getR (ys : List Int) : Int × List Int × Int × Int :=
 if ys.length = 0 then (3, [], 0, 0) else match numRes (ys.drop 1) with
  | none => (3, [], 0, 0)
  | some r => if ¬ (5 <= ys.getD 0 0 /\ ys.getD 0 0 <= 9) ∨ 64 < r.1 then (4, [], 0, 0) else match tkn (ys.drop (1 + r.2)) r.1.toNat with
   | none => (3, [], 0, 0)
   | some t => if mayS t.1 (ys.getD 0 0) = true then (0, t.1, ys.getD 0 0, ((1 + r.2 + t.2 : Nat) : Int)) else (4, [], 0, 0)
def GPost (R : Int × List Int × Int × Int) (w : World) (e : Ending) (w' : World) : Prop :=
 ∃ d, e = .returned (.tuple #[d, .int .i64 R.2.2.1, .int .i64 R.2.2.2, .int .i64 R.1]) /\ Below w.heap.size w w' /\ (∀ k, d.ownBlock = some k -> w.heap.size <= k) /\ Owns .i64 3 w' d R.2.1
theorem GPost.bad {E : Int} {w w' : World} (hb : Below w.heap.size w w') : GPost (E, [], 0, 0) w (.returned (.tuple #[.slice none 0 0, .int .i64 0, .int .i64 0, .int .i64 E])) w' :=
 ⟨_, rfl, hb, (fun k e => by cases e), zf9 _ _ _⟩
theorem zlh9 {ys : List Int} (h0 : ys.length ≠ 0) (h : numRes (ys.drop 1) = none) : getR ys = (3, [], 0, 0) := by
 unfold getR
 rw [if_neg h0, h]
theorem znr9 {ys : List Int} {n : Int} {k : Nat} (h0 : ys.length ≠ 0) (h : numRes (ys.drop 1) = some (n, k)) (hb : ¬ (5 <= ys.getD 0 0 /\ ys.getD 0 0 <= 9) ∨ 64 < n) : getR ys = (4, [], 0, 0) := by
 unfold getR
 rw [if_neg h0, h]
 show (if _ then _ else _) = _
 rw [if_pos hb]
theorem zln9 {ys : List Int} {n : Int} {k : Nat} (h0 : ys.length ≠ 0) (h : numRes (ys.drop 1) = some (n, k)) (hb : ¬ (¬ (5 <= ys.getD 0 0 /\ ys.getD 0 0 <= 9) ∨ 64 < n)) (ht : tkn (ys.drop (1 + k)) n.toNat = none) : getR ys = (3, [], 0, 0) := by
 unfold getR
 rw [if_neg h0, h]
 show (if _ then _ else _) = _
 rw [if_neg hb]
 show (match tkn (ys.drop (1 + k)) n.toNat with | none => _ | some t => _) = _
 rw [ht]
theorem zmb9 {ys : List Int} {n : Int} {k : Nat} (h0 : ys.length ≠ 0) (h : numRes (ys.drop 1) = some (n, k)) (hb : ¬ (¬ (5 <= ys.getD 0 0 /\ ys.getD 0 0 <= 9) ∨ 64 < n)) {l : List Int} {p : Nat} (ht : tkn (ys.drop (1 + k)) n.toNat = some (l, p)) :
  getR ys = if mayS l (ys.getD 0 0) = true then (0, l, ys.getD 0 0, ((1 + k + p : Nat) : Int)) else (4, [], 0, 0) := by
 unfold getR
 rw [if_neg h0, h]
 show (if _ then _ else _) = _
 rw [if_neg hb]
 show (match tkn (ys.drop (1 + k)) n.toNat with | none => _ | some t => _) = _
 rw [ht]
theorem zgt9 (a : Option Addr) (cap : Nat) (w : World) :
  Calls Tryz.prog 132 #[.slice a 0 cap] w fun e w' => GPost (getR []) w e w' := by
 go_enter Tryz.func132, Tryz.ntmps132
 go_wp2_with fail
 (try simp only [Exit.inBlock, Exit.then])
 refine bodyPost_ret (zo9 rfl _ _ _) rfl ?_
 exact GPost.bad (Below.refl _ _)
set_option maxRecDepth 100000 in
theorem zku9 (b o cap : Nat) (ys : List Int) (w : World) (hy : By ys) (h0 : 0 < ys.length) (hl : ys.length <= cap) (hc0 : cap <= maxLen) (hc : ∀ i, i < ys.length -> w.cell? ⟨b, o + i, none⟩ = some (.int .u8 (ys.getD i 0))) :
  Calls Tryz.prog 132 #[.slice (some ⟨b, o, none⟩) ys.length cap] w fun e w' => GPost (getR ys) w e w' := by
 have HC : Hid (∀ i, i < ys.length -> w.cell? ⟨b, o + i, none⟩ = some (.int .u8 (ys.getD i 0))) := hc
 have HY : Hid (By ys) := hy
 have hcm := hc0
 unfold maxLen at hcm
 obtain ⟨R, hR⟩ : ∃ R, Hid (getR ys = R) := ⟨_, rfl⟩
 rw [hR.out]
 obtain ⟨y, hye⟩ : ∃ y, Hid (ys.getD 0 0 = y) := ⟨_, rfl⟩
 have c0 : w.cell? ⟨b, o, none⟩ = some (.int .u8 y) := by have := hc 0 h0; rw [Nat.add_zero] at this; rw [this, hye.out]
 have hyb := hy 0
 rw [hye.out] at hyb
 have hz : ((ys.length : Int) == 0) = false := by rw [beq_eq_false_iff_ne]; omega
 have hne : ys.length ≠ 0 := by omega
 have HNE : Hid (ys.length ≠ 0) := hne
 clear hc hy hne
 by_cases h1 : ys.length = 1
 ·have HD : Hid (ys.drop 1 = []) := by show _ = _; rw [<- h1]; exact List.drop_length
  have HE : Hid (R = (3, [], 0, 0)) := by show R = _; rw [<- hR.out]; exact zlh9 HNE.out (by rw [HD.out]; rfl)
  have HNM : Hid (∀ a c, Calls Tryz.prog 67 #[.slice a 0 c] w fun e w' => e = .returned (.tuple #[.int .i64 0, .int .i64 0, .int .i64 3]) /\ w' = w) := fun a c => zgl9 a c w
  have h00 : ys.length - 1 = 0 := by omega
  go_enter Tryz.func132, Tryz.ntmps132
  go_wp2_with fail
  all_goals
   try rw [h00]
   refine (HNM.out _ _).mono ?_
   rintro e w2 ⟨rfl, rfl⟩
   go_wp2_with fail
   (try simp only [Exit.inBlock, Exit.then])
   refine bodyPost_ret (zo9 rfl _ _ _) rfl ?_
   rw [HE.out]
   exact GPost.bad (Below.refl _ _)
 have h2 : 1 < ys.length := by omega
 have h3 : 1 < cap := by omega
 have HRD : Hid (Rd .u8 w (.slice (some ⟨b, o + 1, none⟩) (ys.length - 1) (cap - 1)) (ys.drop 1)) := rd_drop' 1 (by omega) hl hc0 HC.out
 have HNM : Hid (Calls Tryz.prog 67 #[.slice (some ⟨b, o + 1, none⟩) (ys.length - 1) (cap - 1)] w fun e w' => e = .returned (.tuple #[.int .i64 (resN (numRes (ys.drop 1))), .int .i64 (resK (numRes (ys.drop 1))), .int .i64 (resE (numRes (ys.drop 1)))]) /\ w' = w) := num_rd _ _ _ HRD.out (HY.out.drop 1)
 clear h1 HRD
 go_enter Tryz.func132, Tryz.ntmps132
 go_wp2_with fail
 refine HNM.out.mono ?_
 clear HNM
 rintro e w2 ⟨rfl, rfl⟩
 cases hn : numRes (ys.drop 1) with
 | none =>
  have HE : Hid (R = (3, [], 0, 0)) := by show R = _; rw [<- hR.out]; exact zlh9 HNE.out hn
  simp only [resN, resK, resE]
  clear hn
  go_wp2_with fail
  (try simp only [Exit.inBlock, Exit.then])
  refine bodyPost_ret (zo9 rfl _ _ _) rfl ?_
  rw [HE.out]
  exact GPost.bad (Below.refl _ _)
 | some r =>
  obtain ⟨n, k⟩ := r
  obtain ⟨k1, k2, k3, _⟩ := zbl9 hn
  rw [List.length_drop] at k2
  have hnb := zfk9 (HY.out.drop 1) hn
  have HN : Hid (numRes (ys.drop 1) = some (n, k)) := hn
  simp only [resN, resK, resE]
  clear hn
  have HML : Hid (Calls Tryz.prog 140 #[.int .i64 y] w2 fun e w' => e = .returned (.bool (decide (5 <= y /\ y <= 9))) /\ w' = w2) := zah9 y w2
  go_wp2_with fail
  refine HML.out.mono ?_
  clear HML
  rintro e w3 ⟨rfl, rfl⟩
  by_cases hlog : ¬ (5 <= y /\ y <= 9)
  ·have HE : Hid (R = (4, [], 0, 0)) := by show R = _; rw [<- hR.out]; exact znr9 HNE.out HN.out (.inl (by rw [hye.out]; exact hlog))
   have hd : decide (5 <= y /\ y <= 9) = false := by rw [decide_eq_false_iff_not]; exact hlog
   rw [hd]
   clear hd hlog
   go_wp2_with fail
   (try simp only [Exit.inBlock, Exit.then])
   refine bodyPost_ret (zo9 rfl _ _ _) rfl ?_
   rw [HE.out]
   exact GPost.bad (Below.refl _ _)
  have hlog2 : 5 <= y /\ y <= 9 := Classical.not_not.1 hlog
  have hd : decide (5 <= y /\ y <= 9) = true := by rw [decide_eq_true_eq]; exact hlog2
  rw [hd]
  clear hd hlog
  by_cases hbig : 64 < n
  ·have HE : Hid (R = (4, [], 0, 0)) := by show R = _; rw [<- hR.out]; exact znr9 HNE.out HN.out (.inr hbig)
   go_wp2_with fail
   (try simp only [Exit.inBlock, Exit.then])
   refine bodyPost_ret (zo9 rfl _ _ _) rfl ?_
   rw [HE.out]
   exact GPost.bad (Below.refl _ _)
  have hbig2 : decide (64 < n) = false := by rw [decide_eq_false_iff_not]; exact hbig
  obtain ⟨m, rfl⟩ := Int.eq_ofNat_of_zero_le hnb.1
  have hm64 : m <= 64 := by omega
  have HB : Hid (¬ (¬ (5 <= ys.getD 0 0 /\ ys.getD 0 0 <= 9) ∨ 64 < (m : Int))) := by
   rw [hye.out]
   intro h
   rcases h with h | h
   ·exact h hlog2
   ·exact hbig h
  obtain ⟨T, hT⟩ : ∃ T, Hid (tkn (ys.drop (1 + k)) m = T) := ⟨_, rfl⟩
  have HTK : Hid (∀ a c, ((1 + k < ys.length /\ a = some ⟨b, o + (1 + k), none⟩ /\ c = cap - (1 + k)) ∨ (1 + k = ys.length /\ (∃ b o, a = some ⟨b, o, none⟩) /\ c <= maxLen)) -> Calls Tryz.prog 150 #[.slice a (ys.length - (1 + k)) c, .int .i64 m] w3 fun e w' => ∃ v', e = .returned (.tuple #[v', .int .i64 (tkP T : Int), .int .i64 (tkW T)]) /\ Owns .i64 3 w' v' (tkL T) /\ Grew w3 w' (.slice none 0 0) v') := by
   intro a c h
   rw [<- hT.out]
   rcases h with ⟨h1, rfl, rfl⟩ | ⟨h1, ⟨b', o', rfl⟩, h2⟩
   ·have := zlj9 b (o + (1 + k)) (cap - (1 + k)) (ys.drop (1 + k)) m w3 (HY.out.drop _) (by rw [List.length_drop]; omega) (by omega) hm64 (fun i hi => by
     rw [List.length_drop] at hi
     rw [Nat.add_assoc, HC.out (1 + k + i) (by omega), List.getD_eq_getElem?_getD, List.getD_eq_getElem?_getD, List.getElem?_drop])
    rw [List.length_drop] at this
    exact this
   ·have e : ys.drop (1 + k) = [] := by rw [h1]; exact List.drop_length
    have := zlj9 b' o' c [] m w3 (fun i => by simp) (Nat.zero_le _) h2 hm64 (fun i hi => by simp at hi)
    rw [e, show ys.length - (1 + k) = 0 by omega]
    exact this
  have hbd : 1 + k <= ys.length := by omega
  have HMID : Hid (∀ v' wq, Owns .i64 3 wq v' (tkL T) -> Grew w3 wq (.slice none 0 0) v' -> Below w3.heap.size w3 wq /\ (∀ k, v'.ownBlock = some k -> w3.heap.size <= k) /\ Calls Tryz.prog 119 #[v', .int .i64 y] wq fun e w' => e = .returned (.bool (mayS (tkL T) y)) /\ w' = wq) := fun v' wq ho hg => ⟨hg.below.1, hg.below.2, zau9 _ _ _ _ ho.rd⟩
  clear hbig HC
  by_cases hke : 1 + k = ys.length
  ·have HKE : Hid (1 + k = ys.length) := hke
   clear hke
   go_wp2_with fail
   all_goals
    refine (HTK.out _ _ (.inr ⟨HKE.out, ⟨_, _, rfl⟩, by omega⟩)).mono ?_
    clear HTK
    rintro e w4 ⟨v4, rfl, ho4, hg4⟩
    cases hTT : T with
    | none =>
     have HE : Hid (R = (3, [], 0, 0)) := by show R = _; rw [<- hR.out]; exact zln9 HNE.out HN.out HB.out (by rw [Int.toNat_natCast, hT.out, hTT])
     rw [hTT] at ho4
     obtain ⟨bl4, _⟩ := hg4.below
     have B4 : Hid (Below w3.heap.size w3 w4) := bl4
     simp only [tkP, tkW]
     clear ho4 hg4 bl4 hTT HMID
     go_wp2_with fail
     (try simp only [Exit.inBlock, Exit.then])
     refine bodyPost_ret (zo9 rfl _ _ _) rfl ?_
     rw [HE.out]
     exact GPost.bad B4.out
    | some t =>
     obtain ⟨l, p⟩ := t
     have HE : Hid (R = if mayS l y = true then (0, l, y, ((1 + k + p : Nat) : Int)) else (4, [], 0, 0)) := by show R = _; rw [<- hR.out, zmb9 HNE.out HN.out HB.out (by rw [Int.toNat_natCast, hT.out, hTT]), hye.out]
     obtain ⟨bl4, fr4, hmb⟩ := HMID.out v4 w4 ho4 hg4
     rw [hTT] at ho4 hmb
     have hpl := (tkn_le (by rw [hT.out, hTT] : tkn (ys.drop (1 + k)) m = some (l, p))).2
     rw [List.length_drop] at hpl
     have B4 : Hid (Below w3.heap.size w3 w4) := bl4
     have F4 : Hid (∀ k, v4.ownBlock = some k -> w3.heap.size <= k) := fr4
     have O4 : Hid (Owns .i64 3 w4 v4 l) := ho4
     have HMB : Hid (Calls Tryz.prog 119 #[v4, .int .i64 y] w4 fun e w' => e = .returned (.bool (mayS l y)) /\ w' = w4) := hmb
     simp only [tkP, tkW]
     clear ho4 hg4 bl4 fr4 hmb hTT HMID
     go_wp2_with fail
     refine HMB.out.mono ?_
     clear HMB
     rintro e w5 ⟨rfl, rfl⟩
     cases hmay : mayS l y with
     | false =>
      have HE2 : Hid (R = (4, [], 0, 0)) := by show R = _; rw [HE.out, if_neg (by rw [hmay]; simp)]
      clear hmay
      go_wp2_with fail
      (try simp only [Exit.inBlock, Exit.then])
      refine bodyPost_ret (zo9 rfl _ _ _) rfl ?_
      rw [HE2.out]
      exact GPost.bad B4.out
     | true =>
      have HE2 : Hid (R = (0, l, y, ((1 + k + p : Nat) : Int))) := by show R = _; rw [HE.out, if_pos hmay]
      clear hmay
      go_wp2_with fail
      (try simp only [Exit.inBlock, Exit.then])
      refine bodyPost_ret (zo9 rfl _ _ _) rfl ?_
      rw [HE2.out]
      exact ⟨_, by first | rfl | (push_cast; rfl), B4.out, F4.out, O4.out⟩
  ·have hkl : 1 + k < ys.length := by omega
   have hkc : 1 + k < cap := by omega
   clear hke
   go_wp2_with fail
   refine (HTK.out _ _ (.inl ⟨hkl, rfl, rfl⟩)).mono ?_
   clear HTK
   rintro e w4 ⟨v4, rfl, ho4, hg4⟩
   cases hTT : T with
   | none =>
    have HE : Hid (R = (3, [], 0, 0)) := by show R = _; rw [<- hR.out]; exact zln9 HNE.out HN.out HB.out (by rw [Int.toNat_natCast, hT.out, hTT])
    rw [hTT] at ho4
    obtain ⟨bl4, _⟩ := hg4.below
    have B4 : Hid (Below w3.heap.size w3 w4) := bl4
    simp only [tkP, tkW]
    clear ho4 hg4 bl4 hTT HMID
    go_wp2_with fail
    (try simp only [Exit.inBlock, Exit.then])
    refine bodyPost_ret (zo9 rfl _ _ _) rfl ?_
    rw [HE.out]
    exact GPost.bad B4.out
   | some t =>
    obtain ⟨l, p⟩ := t
    have HE : Hid (R = if mayS l y = true then (0, l, y, ((1 + k + p : Nat) : Int)) else (4, [], 0, 0)) := by show R = _; rw [<- hR.out, zmb9 HNE.out HN.out HB.out (by rw [Int.toNat_natCast, hT.out, hTT]), hye.out]
    obtain ⟨bl4, fr4, hmb⟩ := HMID.out v4 w4 ho4 hg4
    rw [hTT] at ho4 hmb
    have hpl := (tkn_le (by rw [hT.out, hTT] : tkn (ys.drop (1 + k)) m = some (l, p))).2
    rw [List.length_drop] at hpl
    have B4 : Hid (Below w3.heap.size w3 w4) := bl4
    have F4 : Hid (∀ k, v4.ownBlock = some k -> w3.heap.size <= k) := fr4
    have O4 : Hid (Owns .i64 3 w4 v4 l) := ho4
    have HMB : Hid (Calls Tryz.prog 119 #[v4, .int .i64 y] w4 fun e w' => e = .returned (.bool (mayS l y)) /\ w' = w4) := hmb
    simp only [tkP, tkW]
    clear ho4 hg4 bl4 fr4 hmb hTT HMID
    go_wp2_with fail
    refine HMB.out.mono ?_
    clear HMB
    rintro e w5 ⟨rfl, rfl⟩
    cases hmay : mayS l y with
    | false =>
     have HE2 : Hid (R = (4, [], 0, 0)) := by show R = _; rw [HE.out, if_neg (by rw [hmay]; simp)]
     clear hmay
     go_wp2_with fail
     (try simp only [Exit.inBlock, Exit.then])
     refine bodyPost_ret (zo9 rfl _ _ _) rfl ?_
     rw [HE2.out]
     exact GPost.bad B4.out
    | true =>
     have HE2 : Hid (R = (0, l, y, ((1 + k + p : Nat) : Int))) := by show R = _; rw [HE.out, if_pos hmay]
     clear hmay
     go_wp2_with fail
     (try simp only [Exit.inBlock, Exit.then])
     refine bodyPost_ret (zo9 rfl _ _ _) rfl ?_
     rw [HE2.out]
     exact ⟨_, by first | rfl | (push_cast; rfl), B4.out, F4.out, O4.out⟩
theorem znh9 (v : Value) (ys : List Int) (w : World) (h : Rd .u8 w v ys) (hy : By ys) :
  Calls Tryz.prog 132 #[v] w fun e w' => GPost (getR ys) w e w' := by
 obtain ⟨a, cap, rfl, h1, h2, _, h⟩ := h
 by_cases h0 : ys.length = 0
 ·obtain rfl : ys = [] := List.eq_nil_of_length_eq_zero h0
  exact zgt9 a cap w
 ·rcases h with rfl | ⟨b, o, rfl, hc⟩
  ·exact absurd rfl h0
  ·exact zku9 b o cap ys w hy (by omega) h1 h2 hc
end Go.Proofs.YtobenjkacpipeaaGreat
