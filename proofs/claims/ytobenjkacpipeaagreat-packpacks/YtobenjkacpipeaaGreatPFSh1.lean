import Derived.Test.YtobenjkacpipeaaGreatPFPl
import Derived.Test.YtobenjkacpipeaaGreatPE64
set_option maxRecDepth 100000
set_option linter.unusedVariables false
set_option linter.unusedSimpArgs false
set_option maxHeartbeats 8000000
namespace Go.Proofs.YtobenjkacpipeaaGreat
open Go.RowKit Pl
theorem zfx9 {xs : List Int} {M : Int} (hM : 0 <= M) (h : ∀ i, i < xs.length -> 0 <= xs.getD i 0 /\ xs.getD i 0 <= M) : ∀ k, k <= xs.length -> 0 <= cumI xs k /\ cumI xs k <= M * k
 | 0, _ => by simp [cumI]
 | k + 1, hk => by
  have h1 := zfx9 hM h k (by omega)
  have h2 := h k (by omega)
  simp only [cumI]
  have e : M * ((k + 1 : Nat) : Int) = M * k + M := by push_cast; rw [Int.mul_add, Int.mul_one]
  rw [e]
  omega
theorem zlq9 (b o cap : Nat) (xs : List Int) (w : World) (h1 : xs.length <= 64) (hb : ∀ i, i < xs.length -> 0 <= xs.getD i 0 /\ xs.getD i 0 <= 4294967295)
  (hc : ∀ i, i < xs.length -> w.cell? ⟨b, o + i, none⟩ = some (.int .i64 (xs.getD i 0))) :
  Calls Tryz.prog 141 #[.slice (some ⟨b, o, none⟩) xs.length cap] w fun e w' => e = .returned (.int .i64 (cumI xs xs.length)) /\ w' = w := by
 have HC : Hid (∀ i, i < xs.length -> w.cell? ⟨b, o + i, none⟩ = some (.int .i64 (xs.getD i 0))) := hc
 have HB : Hid (∀ i, i < xs.length -> 0 <= xs.getD i 0 /\ xs.getD i 0 <= 4294967295) := hb
 clear hc hb
 obtain ⟨R, hR⟩ : ∃ R, Hid (cumI xs xs.length = R) := ⟨_, rfl⟩
 rw [hR.out]
 go_enter Tryz.func141, Tryz.ntmps141
 go_wp2
 go_loop [3, 8] (fun t i => ∃ (k : Nat) (r : Int), k <= xs.length /\ i = .int .i64 k /\ t = .int .i64 r /\ 0 <= r /\ r <= 274877906880 /\ Hid (cumI xs k = r)) (fun _ i => xs.length - (intOf i).toNat)
 case atStart => exact ⟨0, 0, Nat.zero_le _, rfl, rfl, by omega, by omega, rfl⟩
 case round =>
  obtain ⟨k, r, hk, rfl, rfl, hr0, hr1, hI⟩ := hrel
  by_cases hlt : k < xs.length
  ·obtain ⟨x, hxe⟩ : ∃ x, Hid (xs.getD k 0 = x) := ⟨_, rfl⟩
   have cx : w.cell? ⟨b, o + k, none⟩ = some (.int .i64 x) := by rw [HC.out k hlt, hxe.out]
   have hx := HB.out k hlt
   rw [hxe.out] at hx
   have HI : Hid (cumI xs (k + 1) = r + x) := by show _ = _; simp only [cumI]; rw [hI.out, hxe.out]
   have hrx : 0 <= r + x /\ r + x <= 274877906880 := by
    have := zfx9 (M := 4294967295) (by omega) HB.out (k + 1) (by omega)
    rw [HI.out] at this
    omega
   go_wp2
   go_round
   case rel => exact ⟨k + 1, r + x, by omega, by go_num, by first | rfl | go_num, hrx.1, hrx.2, HI⟩
   case measure => simp [intOf]; omega
  ·obtain rfl : k = xs.length := by omega
   have HE : Hid (r = R) := by show r = R; rw [<- hI.out, hR.out]
   go_wp2
   go_ret
   exact ⟨by rw [HE.out]; rfl, rfl⟩
def fgF (xs : List Int) : Nat -> Nat
 | 0 => 0
 | k + 1 => if xs.getD (fgF xs k) 0 < xs.getD k 0 then k else fgF xs k
theorem fg_lt (xs : List Int) : ∀ k, 0 < k -> fgF xs k < k
 | 0, h => by omega
 | k + 1, _ => by
  simp only [fgF]
  split
  ·omega
  ·by_cases e : 0 < k
   ·have := fg_lt xs k e; omega
   ·obtain rfl : k = 0 := by omega
    simp [fgF]
theorem fg_le (xs : List Int) : ∀ k i, i < k -> xs.getD i 0 <= xs.getD (fgF xs k) 0
 | 0, i, h => by omega
 | k + 1, i, h => by
  simp only [fgF]
  by_cases e : i = k
  ·subst e
   split
   ·omega
   ·omega
  ·have := fg_le xs k i (by omega)
   split
   ·omega
   ·omega
theorem zem9 (b o cap : Nat) (xs : List Int) (w : World) (h0 : 0 < xs.length) (h1 : xs.length <= 64)
  (hc : ∀ i, i < xs.length -> w.cell? ⟨b, o + i, none⟩ = some (.int .i64 (xs.getD i 0))) :
  Calls Tryz.prog 142 #[.slice (some ⟨b, o, none⟩) xs.length cap] w fun e w' => e = .returned (.int .i64 (fgF xs xs.length)) /\ w' = w := by
 have HC : Hid (∀ i, i < xs.length -> w.cell? ⟨b, o + i, none⟩ = some (.int .i64 (xs.getD i 0))) := hc
 clear hc
 obtain ⟨R, hR⟩ : ∃ R, Hid (fgF xs xs.length = R) := ⟨_, rfl⟩
 rw [hR.out]
 go_enter Tryz.func142, Tryz.ntmps142
 go_wp2
 go_loop [3, 8] (fun t i => ∃ k f : Nat, k <= xs.length /\ i = .int .i64 k /\ t = .int .i64 f /\ f < xs.length /\ Hid (fgF xs k = f)) (fun _ i => xs.length - (intOf i).toNat)
 case atStart => exact ⟨0, 0, Nat.zero_le _, rfl, rfl, h0, rfl⟩
 case round =>
  obtain ⟨k, f, hk, rfl, rfl, hf, hI⟩ := hrel
  by_cases hlt : k < xs.length
  ·obtain ⟨x, hxe⟩ : ∃ x, Hid (xs.getD k 0 = x) := ⟨_, rfl⟩
   obtain ⟨y, hye⟩ : ∃ y, Hid (xs.getD f 0 = y) := ⟨_, rfl⟩
   have cx : w.cell? ⟨b, o + k, none⟩ = some (.int .i64 x) := by rw [HC.out k hlt, hxe.out]
   have cy : w.cell? ⟨b, o + f, none⟩ = some (.int .i64 y) := by rw [HC.out f hf, hye.out]
   by_cases hxy : y < x
   ·have HI : Hid (fgF xs (k + 1) = k) := by show _ = _; simp only [fgF]; rw [hI.out, hxe.out, hye.out, if_pos hxy]
    go_wp2
    go_round
    case rel => exact ⟨k + 1, k, by omega, by go_num, rfl, hlt, HI⟩
    case measure => simp [intOf]; omega
   ·have HI : Hid (fgF xs (k + 1) = f) := by show _ = _; simp only [fgF]; rw [hI.out, hxe.out, hye.out, if_neg hxy]
    go_wp2
    go_round
    case rel => exact ⟨k + 1, f, by omega, by go_num, rfl, hf, HI⟩
    case measure => simp [intOf]; omega
  ·obtain rfl : k = xs.length := by omega
   have HE : Hid (f = R) := by show f = R; rw [<- hI.out, hR.out]
   go_wp2
   go_ret
   exact ⟨by rw [HE.out]; rfl, rfl⟩
def std (xs : List Int) : Nat -> Nat
 | 0 => 0
 | k + 1 => std xs k + if 0 < xs.getD k 0 then 1 else 0
theorem std_le (xs : List Int) (k : Nat) : std xs k <= k := by
 induction k with
 | zero => simp [std]
 | succ k ih => simp only [std]; split <;> omega
def mayCF (xs : List Int) (log : Int) : Bool :=
 decide (5 <= log /\ log <= 9 /\ xs.length <= 64 /\ (∀ i, i < xs.length -> 0 <= xs.getD i 0 /\ xs.getD i 0 <= 4294967295) /\ 0 < std xs xs.length /\ 2 * std xs xs.length <= 2 ^ log.toNat)
theorem zkt9 (a : Option Addr) (n cap : Nat) (log : Int) (w : World) (h : decide (5 <= log /\ log <= 9) = false) :
  Calls Tryz.prog 116 #[.slice a n cap, .int .i64 log] w fun e w' => e = .returned (.bool false) /\ w' = w := by
 have H : Hid (decide (5 <= log /\ log <= 9) = false) := h
 clear h
 go_enter Tryz.func116, Tryz.ntmps116
 go_wp2_with fail
 refine (zah9 log w).mono ?_
 rintro e w1 ⟨rfl, rfl⟩
 rw [H.out]
 go_wp2
 go_ret
 exact ⟨rfl, rfl⟩
theorem zin9 (a : Option Addr) (n cap : Nat) (log : Int) (w : World) (h : decide (5 <= log /\ log <= 9) = true) (hn : 64 < n) :
  Calls Tryz.prog 116 #[.slice a n cap, .int .i64 log] w fun e w' => e = .returned (.bool false) /\ w' = w := by
 have H : Hid (decide (5 <= log /\ log <= 9) = true) := h
 have hn' : (64 : Int) < (n : Int) := by omega
 clear h
 go_enter Tryz.func116, Tryz.ntmps116
 go_wp2_with fail
 refine (zah9 log w).mono ?_
 rintro e w1 ⟨rfl, rfl⟩
 rw [H.out]
 go_wp2
 go_ret
 exact ⟨rfl, rfl⟩
theorem ziy9 (a : Option Addr) (cap : Nat) (log : Int) (w : World) (h : decide (5 <= log /\ log <= 9) = true) :
  Calls Tryz.prog 116 #[.slice a 0 cap, .int .i64 log] w fun e w' => e = .returned (.bool false) /\ w' = w := by
 have H : Hid (decide (5 <= log /\ log <= 9) = true) := h
 clear h
 go_enter Tryz.func116, Tryz.ntmps116
 go_wp2_with fail
 refine (zah9 log w).mono ?_
 rintro e w1 ⟨rfl, rfl⟩
 rw [H.out]
 go_wp2
 go_loop [5, 18] (fun t i => t = .int .i64 0 /\ i = .int .i64 0) (fun _ _ => 0)
 case atStart => exact ⟨rfl, rfl⟩
 case round =>
  obtain ⟨rfl, rfl⟩ := hrel
  go_wp2
  go_ret
  exact ⟨rfl, rfl⟩
set_option maxRecDepth 100000 in
theorem zjq9 (b o cap : Nat) (s : List Int) (lg : Nat) (w : World) (h5 : 5 <= lg) (h9 : lg <= 9) (h2 : s.length <= 64)
  (hc : ∀ i, i < s.length -> w.cell? ⟨b, o + i, none⟩ = some (.int .i64 (s.getD i 0))) :
  Calls Tryz.prog 116 #[.slice (some ⟨b, o, none⟩) s.length cap, .int .i64 lg] w fun e w' => e = .returned (.bool (mayCF s lg)) /\ w' = w := by
 have HC : Hid (∀ i, i < s.length -> w.cell? ⟨b, o + i, none⟩ = some (.int .i64 (s.getD i 0))) := hc
 obtain ⟨R, hR⟩ : ∃ R, Hid (mayCF s lg = R) := ⟨_, rfl⟩
 have H : Hid (decide (5 <= (lg : Int) /\ (lg : Int) <= 9) = true) := by show _ = _; rw [decide_eq_true_eq]; omega
 obtain ⟨z, hz, hz1, hz2, hw, hpz⟩ := pow_z h5 h9
 rw [hR.out]
 clear hc hpz
 go_enter Tryz.func116, Tryz.ntmps116
 go_wp2_with fail
 refine (zah9 lg w).mono ?_
 rintro e w1 ⟨rfl, rfl⟩
 rw [H.out]
 go_wp2
 go_loop [5, 18] (fun t i => ∃ k r : Nat, k <= s.length /\ i = .int .i64 k /\ t = .int .i64 r /\ r <= 64 /\ Hid (std s k = r /\ ∀ j, j < k -> 0 <= s.getD j 0 /\ s.getD j 0 <= 4294967295)) (fun _ i => s.length - (intOf i).toNat)
 case atStart => exact ⟨0, 0, Nat.zero_le _, rfl, rfl, by omega, rfl, fun j hj => by omega⟩
 case round =>
  obtain ⟨k, r, hk, rfl, rfl, hr1, hI⟩ := hrel
  by_cases hlt : k < s.length
  ·obtain ⟨x, hxe⟩ : ∃ x, Hid (s.getD k 0 = x) := ⟨_, rfl⟩
   have cx : w1.cell? ⟨b, o + k, none⟩ = some (.int .i64 x) := by rw [HC.out k hlt, hxe.out]
   by_cases hbad : x < 0 ∨ 4294967295 < x
   ·have HR : Hid (R = false) := by
     show R = false
     rw [<- hR.out]
     unfold mayCF
     refine decide_eq_false (fun h => ?_)
     have h4 := h.2.2.2.1 k hlt
     rw [hxe.out] at h4
     omega
    rcases hbad with hbad | hbad
    ·go_wp2
     go_ret
     exact ⟨by rw [HR.out]; rfl, rfl⟩
    ·go_wp2
     go_ret
     exact ⟨by rw [HR.out]; rfl, rfl⟩
   ·have hg1 : decide (x < 0) = false := by rw [decide_eq_false_iff_not]; omega
    have hg2 : decide ((4294967295 : Int) < x) = false := by rw [decide_eq_false_iff_not]; omega
    have hx0 : 0 <= x := by omega
    have HJ : Hid (∀ j, j < k + 1 -> 0 <= s.getD j 0 /\ s.getD j 0 <= 4294967295) := fun j hj => by
     by_cases e : j < k
     ·exact hI.out.2 j e
     ·have : j = k := by omega
      subst this
      rw [hxe.out]; omega
    clear hbad
    by_cases hp : 0 < x
    ·have HI : Hid (std s (k + 1) = r + 1 /\ ∀ j, j < k + 1 -> 0 <= s.getD j 0 /\ s.getD j 0 <= 4294967295) := ⟨by simp only [std]; rw [hI.out.1, hxe.out, if_pos hp], HJ.out⟩
     have hr2 : r + 1 <= 64 := by have := std_le s (k + 1); rw [HI.out.1] at this; omega
     go_wp2
     go_round
     case rel => exact ⟨k + 1, r + 1, by omega, by go_num, by go_num, hr2, HI⟩
     case measure => simp [intOf]; omega
    ·have HI : Hid (std s (k + 1) = r /\ ∀ j, j < k + 1 -> 0 <= s.getD j 0 /\ s.getD j 0 <= 4294967295) := ⟨by simp only [std]; rw [hI.out.1, hxe.out, if_neg hp]; rfl, HJ.out⟩
     go_wp2
     go_round
     case rel => exact ⟨k + 1, r, by omega, by go_num, rfl, hr1, HI⟩
     case measure => simp [intOf]; omega
  ·obtain rfl : k = s.length := by omega
   have HR : Hid (R = decide (0 < r /\ 2 * r <= z)) := by
    show R = _
    rw [<- hR.out]
    unfold mayCF
    rw [hI.out.1, decide_eq_decide, Int.toNat_natCast, hz.out]
    exact ⟨fun h => h.2.2.2.2, fun h => ⟨by omega, by omega, h2, hI.out.2, h⟩⟩
   by_cases hr : 0 < r
   ·have hre : decide ((0 : Int) < (r : Int)) = true := by rw [decide_eq_true_eq]; omega
    by_cases hr2 : 2 * r <= z
    ·have HR2 : Hid (R = true) := by show R = _; have := HR.out; rw [this, decide_eq_true_eq]; exact ⟨hr, hr2⟩
     have hle : (r : Int) <= (z : Int) / 2 := by omega
     go_wp2
     go_ret
     exact ⟨by rw [HR2.out]; rfl, rfl⟩
    ·have HR2 : Hid (R = false) := by show R = _; have := HR.out; rw [this, decide_eq_false_iff_not]; omega
     have hle : (z : Int) / 2 < (r : Int) := by omega
     have hle2 : decide ((r : Int) <= (z : Int) / 2) = false := by rw [decide_eq_false_iff_not]; omega
     go_wp2
     go_ret
     exact ⟨by rw [HR2.out]; rfl, rfl⟩
   ·have HR2 : Hid (R = false) := by show R = _; have := HR.out; rw [this, decide_eq_false_iff_not]; omega
    have hre : decide ((0 : Int) < (r : Int)) = false := by rw [decide_eq_false_iff_not]; omega
    obtain rfl : r = 0 := by omega
    go_wp2
    go_ret
    exact ⟨by rw [HR2.out]; rfl, rfl⟩
theorem zgf9 (v : Value) (s : List Int) (log : Int) (w : World) (h : Rd .i64 w v s) :
  Calls Tryz.prog 116 #[v, .int .i64 log] w fun e w' => e = .returned (.bool (mayCF s log)) /\ w' = w := by
 obtain ⟨a, cap, rfl, _, _, _, h⟩ := h
 cases hd : decide (5 <= log /\ log <= 9) with
 | false =>
  have hf : mayCF s log = false := by
   rw [decide_eq_false_iff_not] at hd
   unfold mayCF
   exact decide_eq_false (fun h => hd ⟨h.1, h.2.1⟩)
  rw [hf]
  exact zkt9 a _ cap log w hd
 | true =>
  by_cases h1 : 64 < s.length
  ·have hf : mayCF s log = false := by unfold mayCF; exact decide_eq_false (fun h => by have := h.2.2.1; omega)
   rw [hf]
   exact zin9 a _ cap log w hd h1
  ·rcases h with rfl | ⟨b, o, rfl, hc⟩
   ·have hf : mayCF [] log = false := by unfold mayCF; exact decide_eq_false (fun h => by have := h.2.2.2.2.1; simp [std] at this)
    rw [hf]
    exact ziy9 a cap log w hd
   ·rw [decide_eq_true_eq] at hd
    obtain ⟨lg, rfl⟩ := Int.eq_ofNat_of_zero_le (show 0 <= log by omega)
    exact zjq9 b o cap s lg w (by omega) (by omega) (by omega) hc
theorem zz9 (n : Nat) : Builtin.zeroCells (Value.int .i64 0).cells n = (List.replicate n (Value.int .i64 0)).toArray := by
 apply Array.ext'
 simp only [Builtin.zeroCells, Value.cells]
 apply List.ext_getElem
 ·simp
 ·intro i h1 h2
  simp [Nat.mod_one]
theorem zla9 : Tryz.prog.underlying 3 = some (.int .i64) := by kernel_rfl
theorem zea9 (n : Int) (w : World) : (asInt (.int .i64 n)).run Tryz.prog w = .ok n w := by simp [asInt, asIntOf]
theorem zxf9 (w : World) (ty : TypeId) (v : Value) (xs : List Int) (n : Nat) (hown : Owns .i64 3 w v xs) (hn : xs.length + n <= 4096) :
  ∃ v' w', (Builtin.append_ #[56, 3] ty #[v, .int .i64 (n : Int)]).run Tryz.prog w = .ok v' w' /\ Owns .i64 3 w' v' (xs ++ List.replicate n 0) /\ Grew w w' v v' := by
 obtain ⟨ht, i, hi, hz, hs1, hby⟩ := elem64
 have hu := zla9
 have hw : IntKind.i64.wrap (n : Int) = (n : Int) := zi9 _ (by omega) (by omega)
 have hn0 : ¬ ((n : Int) < 0) := by omega
 have hn48 : ¬ (281474976710656 < (n : Int) * 8) := by omega
 have ho : w.ownsRow 0 3 1 v xs.length (xs.map (Value.int .i64)) := hown
 have hai := fun w' => zea9 (n : Int) w'
 by_cases h0 : n = 0
 ·subst h0
  refine ⟨v, w, ?_, by simpa using hown, Grew.refl _ _⟩
  have hai0 := fun w' => zea9 0 w'
  have hw0 : IntKind.i64.wrap 0 = 0 := by rw [zi9 _ (by omega) (by omega)]
  rcases ho.2 with ⟨rfl, hx0⟩ | ⟨g, cap, cur, rfl, hb, hg, hnc, hcm, hcs, htake⟩
  ·simp [Builtin.append_, run_underlying ht, run_underlying hu, sizeOf, typeInfo, hi, hs1, hby, hw0, hai0]
  ·simp [Builtin.append_, run_underlying ht, run_underlying hu, sizeOf, typeInfo, hi, hs1, hby, hw0, hai0, hnc, storeCells]
 ·have hnz : ¬ ((n : Int) <= 0) := by omega
  have grown : ∀ (cap : Nat), cap < xs.length + n →
    Owns .i64 3 (w.drew.alloc (.cells ((xs.map (Value.int .i64)).toArray ++ (Builtin.zeroCells (Value.int .i64 0).cells n ++ Builtin.zeroCells (Value.int .i64 0).cells (grownCap w (xs.length + n) cap 3 - (xs.length + n)))) 3))
     (.slice (some ⟨w.heap.size, 0, none⟩) (xs.length + n) (grownCap w (xs.length + n) cap 3)) (xs ++ List.replicate n 0) ∧
    Grew w (w.drew.alloc (.cells ((xs.map (Value.int .i64)).toArray ++ (Builtin.zeroCells (Value.int .i64 0).cells n ++ Builtin.zeroCells (Value.int .i64 0).cells (grownCap w (xs.length + n) cap 3 - (xs.length + n)))) 3)) v (.slice (some ⟨w.heap.size, 0, none⟩) (xs.length + n) (grownCap w (xs.length + n) cap 3)) := by
   intro cap hc
   have hge := grownCap_ge w (xs.length + n) cap 3
   have hcm : grownCap w (xs.length + n) cap 3 <= maxLen := grownCap_le_maxLen w (xs.length + n) cap 3 (by unfold maxLen; omega)
   have hl : (xs ++ List.replicate n 0).length = xs.length + n := by simp
   refine ⟨?_, ⟨rfl, rfl, rfl, by simp, fun k hk _ => Below.heap_alloc w.drew _ k hk⟩, fun k hk => ?_⟩
   ·unfold Owns
    rw [hl]
    refine ⟨by simp, .inr ⟨w.heap.size, _, _, rfl, Nat.zero_le _, heap_alloc_new w.drew _, hge, hcm, ?_, ?_⟩⟩
    ·simp only [Array.size_append, List.size_toArray, size_zeroCells, List.length_map, Value.cells]
     simp
     omega
    ·rw [zz9, zz9]
     simp only [Array.toList_append, List.map_append, List.map_replicate]
     rw [<- List.append_assoc]
     have : (xs.map (Value.int .i64) ++ List.replicate n (Value.int .i64 0)).length = (xs.length + n) * 1 := by simp
     rw [<- this]
     exact List.take_left
   ·simp only [Value.ownBlock, Option.some.injEq] at hk
    exact .inr (by omega)
  have h63' : ¬ (9223372036854775807 < ((xs.length : Int) + (n : Int))) := by omega
  rcases ho.2 with ⟨rfl, hx0⟩ | ⟨g, cap, cur, rfl, hb, hg, hnc, hcm, hcs, htake⟩
  ·have hxs : xs = [] := List.eq_nil_of_length_eq_zero hx0
   subst hxs
   obtain ⟨g1, g2⟩ := grown 0 (by simp; omega)
   simp only [List.length_nil, Nat.zero_add] at g1 g2
   have hfit : ¬ (281474976710656 < Builtin.nextslicecap n 0 * 8) := by have := growslice_fits (old := 0) (need := n) (bytes := 8) (by omega) (by omega); omega
   have h63 : ¬ (9223372036854775807 < (n : Int)) := by omega
   refine ⟨_, _, ?_, g1, g2⟩
   simp [Builtin.append_, run_underlying ht, run_underlying hu, sizeOf, typeInfo, zeroValue, hi, hz, hs1, hby, hw, hai, h0, hn0, hn48, hnz, h63, hfit, Question.forced, Builtin.firstCells, loadCells, loadCellsFrom, newRow, grownCap]
  ·by_cases hroom : xs.length + n <= cap
   ·have hst := run_storeCells_at Tryz.prog g xs.length 3 (List.replicate n (Value.int .i64 0)) 0 cur w hg (by simp; omega) (fun u hu => by rw [List.eq_of_mem_replicate hu]; rfl)
    simp only [Nat.add_zero] at hst
    have hl : (xs ++ List.replicate n 0).length = xs.length + n := by simp
    refine ⟨.slice (some ⟨g, 0, none⟩) (xs.length + n) cap, w.setRow g (cur.toList.take xs.length ++ List.replicate n (Value.int .i64 0) ++ cur.toList.drop (xs.length + (List.replicate n (Value.int .i64 0)).length)).toArray, ?_, ?_, ?_⟩
    ·simp [Builtin.append_, run_underlying ht, run_underlying hu, sizeOf, typeInfo, zeroValue, hi, hz, hs1, hby, hw, hai, h0, hn0, hn48, hnz, hroom, zz9, Addr.add_lit]
     simp at hst
     rw [hst]
     rfl
    ·unfold Owns
     rw [hl]
     refine ⟨by simp, .inr ⟨g, cap, _, rfl, hb, setRow_heap w g cur _ 3 _ hg, hroom, hcm, ?_, ?_⟩⟩
     ·simp only [List.size_toArray, List.length_append, List.length_take, List.length_drop, Array.length_toList, List.length_replicate]
      omega
     ·have ht2 : cur.toList.take xs.length = xs.map (Value.int .i64) := by simpa using htake
      rw [ht2, List.map_append, List.map_replicate]
      have : (xs.map (Value.int .i64) ++ List.replicate n (Value.int .i64 0)).length = (xs.length + n) * 1 := by simp
      rw [<- this]
      exact List.take_left
    ·exact ⟨⟨rfl, rfl, rfl, by simp [World.setRow], fun k _ hk => setRow_other w g k _ (fun e => hk (by simp [Value.ownBlock, e]))⟩, fun k hk => .inl hk⟩
   ·obtain ⟨g1, g2⟩ := grown cap (by omega)
    have hfit : ¬ (281474976710656 < Builtin.nextslicecap (xs.length + n) cap * 8) := by have := growslice_fits (old := cap) (need := xs.length + n) (bytes := 8) (by omega) (by omega); omega
    have hfo := run_firstCells_some (P := Tryz.prog) w.drew 1 xs.length ⟨g, 0, none⟩ xs.length cap (xs.map (Value.int .i64)) (by simp) (fun j u hu => by
     have := ho.cells (g := g) rfl j u hu
     simpa using this)
    refine ⟨_, _, ?_, g1, g2⟩
    simp [Builtin.append_, run_underlying ht, run_underlying hu, sizeOf, typeInfo, zeroValue, hi, hz, hs1, hby, hw, hai, h0, hn0, hn48, hnz, hroom, h63', hfit, Question.forced, hfo, newRow, grownCap]
theorem zfv9 (w : World) {ops : Array Oper} {rest : List Oper} {o : Oper} {a : Act} {Q : Exit -> Act -> World -> Prop} (hgd : o.guard = none) (s x : Operand)
  (ho : o.op = .call { callee := .builtin .append, args := #[s, x], argTypes := #[56, 3] }) (v : Value) (xs : List Int) (hs : a.eval s = v) (hown : Owns .i64 3 w v xs) (n : Nat) (hx : a.eval x = .int .i64 (n : Int)) (hn : xs.length + n <= 4096)
  (h : ∀ v' w', Owns .i64 3 w' v' (xs ++ List.replicate n 0) -> Grew w w' v v' -> wpList Tryz.prog ops Q rest (a.put o.dst v') w') : wpList Tryz.prog ops Q (o :: rest) a w := by
 obtain ⟨v', w', hr, h2, h3⟩ := zxf9 w o.type v xs n hown hn
 refine wpList_plain hgd fun K hK => ?_
 unfold Oper.wp
 simp [execOp, ho, resolve, invoke, builtin, hs, hx, hr, Result.andThen]
 exact hK _ _ (h v' w' h2 h3)
def por (c : List Int) (z all : Int) : Nat -> List Int
 | 0 => []
 | k + 1 => if c.getD k 0 = 0 then por c z all k else por c z all k ++ List.replicate (k - (por c z all k).length) 0 ++ [max 1 (c.getD k 0 * z / all)]
theorem ziw9 (c : List Int) (z all : Int) (k : Nat) : (por c z all k).length <= k := by
 induction k with
 | zero => simp [por]
 | succ k ih =>
  simp only [por]
  split
  ·omega
  ·simp; omega
set_option maxRecDepth 100000 in
theorem zjh9 (b o cap : Nat) (s : List Int) (z : Nat) (w : World) (h1 : s.length <= 64) (hz : z <= 512) (hb : ∀ i, i < s.length -> 0 <= s.getD i 0 /\ s.getD i 0 <= 4294967295) (hall : 0 < cumI s s.length)
  (hc : ∀ i, i < s.length -> w.cell? ⟨b, o + i, none⟩ = some (.int .i64 (s.getD i 0))) :
  Calls Tryz.prog 117 #[.slice (some ⟨b, o, none⟩) s.length cap, .int .i64 z] w fun e w' => ∃ v', e = .returned v' /\ Owns .i64 3 w' v' (por s z (cumI s s.length) s.length) /\ Grew w w' (.slice none 0 0) v' := by
 have HC : Hid (∀ i, i < s.length -> w.cell? ⟨b, o + i, none⟩ = some (.int .i64 (s.getD i 0))) := hc
 have HB : Hid (∀ i, i < s.length -> 0 <= s.getD i 0 /\ s.getD i 0 <= 4294967295) := hb
 have hsum := zfx9 (M := 4294967295) (by omega) hb s.length (Nat.le_refl _)
 obtain ⟨A, hA⟩ : ∃ A, Hid (cumI s s.length = A) := ⟨_, rfl⟩
 rw [hA.out] at hall hsum ⊢
 have hA2 : A <= 274877906880 := by omega
 clear hc hb hsum
 go_enter Tryz.func117, Tryz.ntmps117
 go_wp2_with fail
 refine (zlq9 b o cap s w h1 HB.out HC.out).mono ?_
 rintro e w1 ⟨rfl, rfl⟩
 rw [hA.out]
 go_wp2_with fail
 go_loopw [6, 13] (fun r i wr => ∃ k : Nat, k <= s.length /\ i = .int .i64 k /\ Hid (Owns .i64 3 wr r (por s z A k)) /\ Hid (Grew w1 wr (.slice none 0 0) r)) (fun _ i _ => s.length - (intOf i).toNat)
 case atStart => exact ⟨0, Nat.zero_le _, rfl, zf9 _ _ _, Grew.refl _ _⟩
 case round =>
  obtain ⟨k, hk, rfl, HO, HG⟩ := hrel
  obtain ⟨ra, rc, hrv⟩ : ∃ a c, u6 = .slice a (por s z A k).length c := by obtain ⟨a, c, e, _⟩ := HO.out.rd; exact ⟨a, c, e⟩
  subst hrv
  have hpl := ziw9 s z A k
  obtain ⟨Lp, hLp⟩ : ∃ Lp, Hid ((por s z A k).length = Lp) := ⟨_, rfl⟩
  rw [hLp.out] at hpl HO HG ⊢
  by_cases hlt : k < s.length
  ·obtain ⟨x, hxe⟩ : ∃ x, Hid (s.getD k 0 = x) := ⟨_, rfl⟩
   have hx := HB.out k hlt
   rw [hxe.out] at hx
   have cx : wr.cell? ⟨b, o + k, none⟩ = some (.int .i64 x) := by
    have h := HC.out k hlt
    rw [HG.out.below.1.cell (p := ⟨b, o + k, none⟩) (World.block_lt_of_cell? w1 ⟨b, o + k, none⟩ h), h, hxe.out]
   by_cases hx0 : x = 0
   ·have hxb : (x == 0) = true := by simp [hx0]
    have HP : Hid (por s z A (k + 1) = por s z A k) := by show _ = _; simp only [por]; rw [hxe.out, if_pos hx0]
    clear hx0
    go_wp2_with fail
    go_roundw
    case rel => exact ⟨k + 1, by omega, by go_num, by rw [HP.out]; exact HO, HG⟩
    case measure => simp [intOf]; omega
   ·have hxb : (x == 0) = false := by simp [hx0]
    obtain ⟨D, hD⟩ : ∃ D, Hid (k - Lp = D) := ⟨_, rfl⟩
    have hDI : (k : Int) - (Lp : Int) = (D : Int) := by rw [<- hD.out]; omega
    have hD2 : Lp + D = k := by rw [<- hD.out]; omega
    obtain ⟨q, hq⟩ : ∃ q, Hid (x * z = q) := ⟨_, rfl⟩
    have hq1 : 0 <= x * (z : Int) := Int.mul_nonneg hx.1 (by omega)
    have hq2 : x * (z : Int) <= 4294967295 * 512 := Int.mul_le_mul hx.2 (by omega) (by omega) (by omega)
    have hqI : x * (z : Int) = q := hq.out
    rw [hqI] at hq1 hq2
    obtain ⟨t, ht⟩ : ∃ t, Hid (q / A = t) := ⟨_, rfl⟩
    have ht1 : 0 <= t := by rw [<- ht.out]; exact Int.ediv_nonneg hq1 (by omega)
    have ht2 : t <= q := by rw [<- ht.out]; exact Int.ediv_le_self _ hq1
    have HP : Hid (por s z A (k + 1) = por s z A k ++ List.replicate D 0 ++ [max 1 t]) := by show _ = _; simp only [por]; rw [hxe.out, if_neg hx0, hLp.out, hD.out, hqI, ht.out]
    have htI : q / A = t := ht.out
    clear hx0
    go_wp2_with (at_builtin; refine zfv9 _ rfl (.tmp 20) (.tmp 24) rfl _ (por s z A k) rfl HO.out D rfl (by rw [hLp.out]; omega) ?_)
    intro v2 w2 ho2 hg2
    have HO2 : Hid (Owns .i64 3 w2 v2 (por s z A k ++ List.replicate D 0)) := ho2
    have HG2 : Hid (Grew w1 w2 (.slice none 0 0) v2) := HG.out.trans hg2
    have HL2 : Hid ((por s z A k ++ List.replicate D 0).length = k) := by show _ = _; rw [List.length_append, List.length_replicate, hLp.out]; exact hD2
    clear ho2 hg2 HO HG cx
    by_cases hgt : 1 < t
    ·rw [Int.max_eq_right (by omega)] at HP
     go_wp2_with (at_builtin; refine zd9 _ rfl (.tmp 26) (.tmp 33) 56 rfl 3 .i64 8 elem64 _ (por s z A k ++ List.replicate D 0) rfl HO2.out t rfl (by rw [HL2.out]; omega) (by rw [HL2.out]; omega) ?_)
     intro v3 w3 ho3 hg3
     rw [<- List.append_assoc, <- HP.out] at ho3
     have HO3 : Hid (Owns .i64 3 w3 v3 (por s z A (k + 1))) := ho3
     have HG3 : Hid (Grew w1 w3 (.slice none 0 0) v3) := HG2.out.trans hg3
     clear ho3 hg3 HO2 HG2
     go_wp2_with fail
     go_roundw
     case rel => exact ⟨k + 1, by omega, by go_num, HO3, HG3⟩
     case measure => simp [intOf]; omega
    ·rw [Int.max_eq_left (by omega)] at HP
     have hle : t <= 1 := by omega
     clear hgt
     go_wp2_with (at_builtin; refine zd9 _ rfl (.tmp 26) (.tmp 33) 56 rfl 3 .i64 8 elem64 _ (por s z A k ++ List.replicate D 0) rfl HO2.out 1 rfl (by rw [HL2.out]; omega) (by rw [HL2.out]; omega) ?_)
     intro v3 w3 ho3 hg3
     rw [<- List.append_assoc, <- HP.out] at ho3
     have HO3 : Hid (Owns .i64 3 w3 v3 (por s z A (k + 1))) := ho3
     have HG3 : Hid (Grew w1 w3 (.slice none 0 0) v3) := HG2.out.trans hg3
     clear ho3 hg3 HO2 HG2
     go_wp2_with fail
     go_roundw
     case rel => exact ⟨k + 1, by omega, by go_num, HO3, HG3⟩
     case measure => simp [intOf]; omega
  ·obtain rfl : k = s.length := by omega
   go_wp2_with fail
   go_ret
   exact ⟨_, rfl, HO.out, HG.out⟩
end Go.Proofs.YtobenjkacpipeaaGreat
