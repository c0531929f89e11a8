import Derived.Test.YtobenjkacpipeaaGreatProg
import Derived.Test.YtobenjkacpipeaaGreatPMem
import Derived.WalkKit
import Derived.WalkSpells
import Derived.Test.YtobenjkacpipeaaGreatPE64
import Derived.Test.YtobenjkacpipeaaGreatPPlain
set_option maxRecDepth 100000
set_option linter.unusedVariables false
set_option linter.unusedSimpArgs false
set_option maxHeartbeats 8000000
namespace Go.Proofs.YtobenjkacpipeaaGreat
open Go.RowKit Pl
theorem znw9 (n x : Int) (j : Nat) (hn : 0 <= n) (hn1 : n < 2 ^ j) (hx : 0 <= x) (hx1 : x * 2 ^ j < 2 ^ 62) (hj : j <= 62) : bits BinOp.or IntKind.i64 n (x * 2 ^ j) = n + x * 2 ^ j := by
 obtain ⟨a, rfl⟩ := Int.eq_ofNat_of_zero_le hn
 obtain ⟨c, rfl⟩ := Int.eq_ofNat_of_zero_le hx
 have e : ((c : Int) * 2 ^ j) = ((c * 2 ^ j : Nat) : Int) := by push_cast; rfl
 have ha : a < 2 ^ j := by exact_mod_cast hn1
 have ha' : a < 2 ^ 62 := Nat.lt_of_lt_of_le ha (Nat.pow_le_pow_right (by decide) hj)
 have hc : c * 2 ^ j < 2 ^ 62 := by exact_mod_cast hx1
 rw [e, (bits_nat .i64 62 (by decide) zi9 a _ ha' hc).2, zez9 a c j ha]
 push_cast
 rfl
theorem or_num (xs : List Int) (k : Nat) (x : Int) (hxe : xs.getD k 0 = x) (hk : k < 5) (hb : 0 <= numAt xs k /\ numAt xs k < 128 ^ k) :
  bits BinOp.or IntKind.i64 (numAt xs k) (wrap64 (x % 128 * 2 ^ (7 * k))) = numAt xs (k + 1) := by
 have hp := zpx9 k hk
 have hp0 : (0 : Int) < 128 ^ k := Int.pow_pos (by decide)
 have hy0 : 0 <= x % 128 := by omega
 have hy1 : x % 128 <= 127 := by omega
 simp only [numAt, hxe]
 rw [zzd9] at *
 generalize x % 128 = y at *
 have hz0 : 0 <= y * 2 ^ (7 * k) := Int.mul_nonneg hy0 (Int.le_of_lt hp0)
 have hz1 : y * 2 ^ (7 * k) <= 127 * 268435456 := Int.mul_le_mul hy1 hp (Int.le_of_lt hp0) (by decide)
 rw [IntWalk.wrap64_in _ ⟨by omega, by omega⟩]
 exact znw9 _ _ _ hb.1 hb.2 hy0 (by omega) (by omega)
theorem zaah9 (b o cap : Nat) (xs : List Int) (w : World) (hx : ∀ i, 0 <= xs.getD i 0 /\ xs.getD i 0 <= 255) (hl : xs.length <= cap) (hm : cap <= maxLen)
  (hc : ∀ i, i < xs.length -> w.cell? ⟨b, o + i, none⟩ = some (.int .u8 (xs.getD i 0))) :
  Calls Tryz.prog 67 #[.slice (some ⟨b, o, none⟩) xs.length cap] w fun e w' =>
   e = .returned (.tuple #[.int .i64 (resN (numRes xs)), .int .i64 (resK (numRes xs)), .int .i64 (resE (numRes xs))]) /\ w' = w := by
 unfold maxLen at hm
 have HX : Hid (∀ i, 0 <= xs.getD i 0 /\ xs.getD i 0 <= 255) := hx
 have HC : Hid (∀ i, i < xs.length -> w.cell? ⟨b, o + i, none⟩ = some (.int .u8 (xs.getD i 0))) := hc
 have R0 : Hid (zy9 xs 5 0 = numRes xs) := rfl
 generalize numRes xs = R at *
 clear hx hc
 by_cases h5 : xs.length <= 5
 all_goals
  go_enter Tryz.func67, Tryz.ntmps67
  go_wp2
  go_loop [5, 15] (fun n i => ∃ k : Nat, k <= xs.length /\ k <= 5 /\ i = .int .i64 k /\ n = .int .i64 (numAt xs k) /\ Hid (zy9 xs (5 - k) k = R)) (fun _ i => 5 - (intOf i).toNat)
  case atStart => exact ⟨0, Nat.zero_le _, by omega, rfl, rfl, R0⟩
  case round =>
   obtain ⟨k, hk, hk5, rfl, rfl, hR⟩ := hrel
   have hbd := zop9 xs HX.out k
   by_cases hlt : k < xs.length /\ k < 5
   ·obtain ⟨hlt, hk5'⟩ := hlt
    obtain ⟨x, hxe⟩ : ∃ x, Hid (xs.getD k 0 = x) := ⟨_, rfl⟩
    obtain ⟨m, hme⟩ : ∃ m, Hid (numAt xs (k + 1) = m) := ⟨_, rfl⟩
    have hx1 : 0 <= x /\ x <= 255 := by have h := HX.out k; rw [hxe.out] at h; exact h
    have hcx : w.cell? ⟨b, o + k, none⟩ = some (.int .u8 x) := by rw [HC.out k hlt, hxe.out]
    have hor : bits BinOp.or IntKind.i64 (numAt xs k) (wrap64 (x % 128 * 2 ^ (7 * k))) = m := by rw [<- hme.out]; exact or_num xs k x hxe.out hk5' hbd
    clear hbd
    by_cases h128 : 128 <= x
    ·have hN := zjc9 hk5' hlt (by rw [hxe.out]; exact h128) hR.out
     have HN : Hid (zy9 xs (5 - (k + 1)) (k + 1) = R) := hN
     clear hN
     go_wp2
     go_round
     case rel => exact ⟨k + 1, by omega, by omega, by go_num, by rw [hme.out], HN⟩
     case measure => simp [intOf]; omega
    ·by_cases hbad : 4294967295 < m ∨ (0 < k /\ x = 0)
     ·have hN := zmu9 hk5' hlt (by rw [hxe.out]; exact h128) (by rw [hme.out, hxe.out]; exact hbad) hR.out
      have HN : Hid (R = none) := hN
      have HB : Hid (4294967295 < m ∨ (0 < k /\ x = 0)) := hbad
      clear hN hbad
      go_wp2
      all_goals
       first
       | (go_ret3; exact ⟨by rw [HN.out]; rfl, rfl⟩)
       | (exfalso; have := HB.out; omega)
     ·have hN := zji9 hk5' hlt (by rw [hxe.out]; exact h128) (by rw [hme.out, hxe.out]; exact hbad) hR.out
      rw [hme.out] at hN
      have HN : Hid (R = some (m, k + 1)) := hN
      have HB : Hid (¬ (4294967295 < m ∨ (0 < k /\ x = 0))) := hbad
      clear hN hbad
      go_wp2
      all_goals
       first
       | (go_ret3; exact ⟨by rw [HN.out]; rfl, rfl⟩)
       | (exfalso; have := HB.out; omega)
       | (have hk0 : k = 0 := by omega
          subst hk0
          go_ret3
          exact ⟨by rw [HN.out]; rfl, rfl⟩)
   ·have hN : R = none := zms9 hlt hk5 hR.out
    have HN : Hid (R = none) := hN
    clear hN
    have hk' : k = xs.length ∨ k = 5 := by omega
    go_wp2
    go_ret3
    exact ⟨by rw [HN.out]; rfl, rfl⟩
theorem zgl9 (a : Option Addr) (cap : Nat) (w : World) :
  Calls Tryz.prog 67 #[.slice a 0 cap] w fun e w' => e = .returned (.tuple #[.int .i64 0, .int .i64 0, .int .i64 3]) /\ w' = w := by
 cases a
 all_goals
  go_enter Tryz.func67, Tryz.ntmps67
  go_wp2
  go_loop [15] (fun i => i = .int .i64 0) (fun _ => 0)
  case atStart => rfl
  case round =>
   subst hrel
   go_wp2
   go_ret3
   exact ⟨rfl, rfl⟩
theorem num_rd (v : Value) (xs : List Int) (w : World) (h : Rd .u8 w v xs) (hx : By xs) :
  Calls Tryz.prog 67 #[v] w fun e w' =>
   e = .returned (.tuple #[.int .i64 (resN (numRes xs)), .int .i64 (resK (numRes xs)), .int .i64 (resE (numRes xs))]) /\ w' = w := by
 obtain ⟨a, cap, rfl, hl, hm, _, h⟩ := h
 rcases h with rfl | ⟨b, o, rfl, hc⟩
 ·exact zgl9 a cap w
 ·exact zaah9 b o cap xs w hx hl hm hc
theorem zld9 (v : Value) (xs : List Int) (n : Int) (w : World) (h : Rd .u8 w v xs) (hb : xs.length <= 140737488355000) (h0 : 0 <= n) (h1 : n <= 4294967295) :
  Calls Tryz.prog 22 #[v, .int .i64 n] w fun e w' => ∃ v', e = .returned (.tuple #[v', .int .i64 0]) /\ Owns .u8 5 w' v' (xs ++ digits n) /\ Grew w w' (.slice none 0 0) v' := by
 have H : Hid (Rd .u8 w v xs) := h
 clear h
 go_enter Tryz.func22, Tryz.ntmps22
 go_wp2_with fail
 refine (zde9 v xs w H.out (by omega)).mono ?_
 rintro e w1 ⟨v1, rfl, ho, hg⟩
 go_wp2_with fail
 go_loopw [1, 6] (fun m r wr => ∃ (f : Nat) (q : Int) (done : List Int), m = .int .i64 q /\ 0 <= q /\ q <= 4294967295 /\ done.length + f = 4 /\ Hid (q < 128 ^ (f + 1)) /\ Hid (done ++ dig f q = digits n) ∧
   Owns .u8 5 wr r (xs ++ done) /\ Grew w wr (.slice none 0 0) r) (fun m _ _ => (intOf m).toNat)
 case atStart =>
  exact ⟨4, n, [], rfl, h0, h1, rfl, by show n < 128 ^ (4 + 1); have : (128 : Int) ^ (4 + 1) = 34359738368 := by decide
                                        omega, rfl, by simpa using ho, hg⟩
 case round =>
  obtain ⟨f, q, done, rfl, hq0, hq1, hf4, hqf, hD, hO, hG⟩ := hrel
  have HO : Hid (Owns .u8 5 wr u6 (xs ++ done)) := hO
  have HG : Hid (Grew w wr (.slice none 0 0) u6) := hG
  clear hO hG ho hg
  by_cases h128 : 128 <= q
  ·obtain ⟨f', rfl⟩ : ∃ f', f = f' + 1 := by
    cases f with
    | zero => have := hqf.out; simp at this; omega
    | succ f' => exact ⟨f', rfl⟩
   have hp : (128 : Int) ^ (f' + 1 + 1) = 128 ^ (f' + 1) * 128 := Int.pow_succ _ _
   have HQ : Hid (q / 128 < 128 ^ (f' + 1)) := by show q / 128 < _; have := hqf.out; omega
   have HD : Hid ((done ++ [q % 128 + 128]) ++ dig f' (q / 128) = digits n) := by
    have := hD.out
    simp only [dig] at this
    rw [if_pos h128] at this
    simpa [Hid] using this
   clear hp hqf hD
   go_wp2_with (at_builtin; refine zd9 _ rfl (.tmp 18) (.tmp 23) 22 rfl 5 .u8 1 elem8 _ (xs ++ done) rfl HO.out (q % 128 + 128) rfl ?b1 ?b2 ?_)
   case b1 => simp; omega
   case b2 => simp; omega
   intro v' w2 hO2 hG2
   have hG3 := HG.out.trans hG2
   have hO3 : Owns .u8 5 w2 v' (xs ++ (done ++ [q % 128 + 128])) := by simpa using hO2
   clear hG2 hO2
   go_wp2_with fail
   go_roundw
   case rel => exact ⟨f', q / 128, done ++ [q % 128 + 128], rfl, by omega, by omega, by simp; omega, HQ, HD, hO3, hG3⟩
   case measure => simp [intOf]; omega
  ·have HD : Hid (done ++ [q] = digits n) := by
    have := hD.out
    cases f with
    | zero => exact this
    | succ f' =>
     simp only [dig] at this
     rw [if_neg h128] at this
     exact this
   clear hD hqf
   go_wp2_with (at_builtin; refine zd9 _ rfl (.tmp 27) (.tmp 30) 22 rfl 5 .u8 1 elem8 _ (xs ++ done) rfl HO.out q rfl ?c1 ?c2 ?_)
   case c1 => first | omega | (simp; omega)
   case c2 => first | omega | (simp; omega)
   intro v' w2 hO2 hG2
   have hG3 := HG.out.trans hG2
   have hO3 : Owns .u8 5 w2 v' (xs ++ digits n) := by rw [<- HD.out]; simpa using hO2
   clear hG2 hO2
   go_wp2_with fail
   go_ret2
   exact ⟨v', rfl, hO3, hG3⟩
theorem zmr9 (v : Value) (p : Nat) (w : World) :
  Calls Tryz.prog 156 #[v, .int .i64 p, .int .i64 0] w fun e w' => e = .returned (.int .i64 0) /\ w' = w := by
 go_enter Tryz.func156, Tryz.ntmps156
 go_wp2
 go_loop [7, 12] (fun v i => v = .int .i64 0 /\ i = .int .i64 0) (fun _ _ => 0)
 case atStart => exact ⟨rfl, rfl⟩
 case round =>
  obtain ⟨rfl, rfl⟩ := hrel
  go_wp2
  go_ret
  exact ⟨rfl, rfl⟩
theorem znu9 (n c : Int) (j : Nat) (hn : 0 <= n) (hn1 : n < 2 ^ j) (hc : c = 0 ∨ c = 1) (hj : j < 32) : Go.bits BinOp.or IntKind.i64 n (wrap64 (c * 2 ^ j)) = n + c * 2 ^ j := by
 have hp : (2 : Int) ^ j <= 2 ^ 31 := zs9 (by omega)
 have e31 : (2 : Int) ^ 31 = 2147483648 := by decide
 have e62 : (2 : Int) ^ 62 = 4611686018427387904 := by decide
 have hp0 : (0 : Int) < 2 ^ j := Int.pow_pos (by decide)
 have hz : 0 <= c * 2 ^ j /\ c * 2 ^ j <= 2147483648 := by
  rcases hc with rfl | rfl <;> constructor <;> omega
 rw [IntWalk.wrap64_in _ ⟨by omega, by omega⟩]
 obtain ⟨a, rfl⟩ := Int.eq_ofNat_of_zero_le hn
 obtain ⟨d, rfl⟩ : ∃ d : Nat, c = (d : Int) := by
  rcases hc with rfl | rfl
  ·exact ⟨0, rfl⟩
  ·exact ⟨1, rfl⟩
 have e : ((d : Int) * 2 ^ j) = ((d * 2 ^ j : Nat) : Int) := by push_cast; rfl
 have ha : a < 2 ^ j := by exact_mod_cast hn1
 have ha' : a < 2 ^ 62 := Nat.lt_of_lt_of_le ha (Nat.pow_le_pow_right (by decide) (by omega))
 have hd : d * 2 ^ j < 2 ^ 62 := by have := hz.2; rw [e] at this; omega
 rw [e, (bits_nat .i64 62 (by decide) zi9 a _ ha' hd).2, zez9 a d j ha]
 push_cast
 rfl
theorem zvy9 (y : Int) (hy : 0 <= y) (h1 : y <= 255) : Go.bits BinOp.and IntKind.u8 y 1 = y % 2 := by
 obtain ⟨a, rfl⟩ := Int.eq_ofNat_of_zero_le hy
 have := (bits_nat .u8 8 (by decide) wraps_u8 a 1 (by omega) (by decide)).1
 rw [ztw9] at this
 exact this
theorem zoa9 (b o cap p n : Nat) (ys : List Int) (w : World) (hy : By ys) (hl : ys.length <= 1125899906842624) (hn : p + n <= 8 * ys.length) (h32 : n <= 32)
  (hc : ∀ i, i < ys.length -> w.cell? ⟨b, o + i, none⟩ = some (.int .u8 (ys.getD i 0))) :
  Calls Tryz.prog 156 #[.slice (some ⟨b, o, none⟩) ys.length cap, .int .i64 p, .int .i64 n] w fun e w' => e = .returned (.int .i64 (val (unpack ys) p n)) /\ w' = w := by
 have HC : Hid (∀ i, i < ys.length -> w.cell? ⟨b, o + i, none⟩ = some (.int .u8 (ys.getD i 0))) := hc
 have HY : Hid (By ys) := hy
 clear hc hy
 go_enter Tryz.func156, Tryz.ntmps156
 go_wp2
 go_loop [7, 12] (fun v i => ∃ k : Nat, k <= n /\ i = .int .i64 k /\ v = .int .i64 (val (unpack ys) p k)) (fun _ i => n - (intOf i).toNat)
 case atStart => exact ⟨0, Nat.zero_le _, rfl, rfl⟩
 case round =>
  obtain ⟨k, hk, rfl, rfl⟩ := hrel
  by_cases hlt : k < n
  ·obtain ⟨y, hye⟩ : ∃ y, Hid (ys.getD ((p + k) / 8) 0 = y) := ⟨_, rfl⟩
   have hy1 : 0 <= y /\ y <= 255 := by rw [<- hye.out]; exact HY.out _
   have cy : w.cell? ⟨b, o + (p + k) / 8, none⟩ = some (.int .u8 y) := by rw [HC.out _ (by omega), hye.out]
   obtain ⟨c, hce⟩ : ∃ c, Hid ((unpack ys).getD (p + k) 0 = c) := ⟨_, rfl⟩
   have hc01 : c = 0 ∨ c = 1 := by rw [<- hce.out]; exact zt9 ys _
   have HC01 : Hid (c = 0 ∨ c = 1) := hc01
   obtain ⟨z, hze⟩ : ∃ z, Hid (val (unpack ys) p k = z) := ⟨_, rfl⟩
   obtain ⟨z', hze'⟩ : ∃ z', Hid (val (unpack ys) p (k + 1) = z') := ⟨_, rfl⟩
   rw [hze.out]
   have hand : Go.bits BinOp.and IntKind.u8 (y / 2 ^ ((p + k) % 8)) 1 = c := by
    have h0 : 0 <= y / 2 ^ ((p + k) % 8) := Int.ediv_nonneg hy1.1 (Int.le_of_lt (Int.pow_pos (by decide)))
    have h1 : y / 2 ^ ((p + k) % 8) <= y := Int.ediv_le_self _ hy1.1
    rw [zvy9 _ h0 (by omega), <- hce.out, zcg9, hye.out]
   have hor : Go.bits BinOp.or IntKind.i64 z (wrap64 (c * 2 ^ k)) = z' := by
    have hb := val_bd (zt9 ys) p k
    rw [hze.out] at hb
    rw [znu9 z c k hb.1 hb.2 HC01.out (by omega), <- hze'.out, <- hze.out, <- hce.out]
    rfl
   have hcb : 0 <= c /\ c <= 1 := by omega
   clear hc01
   go_wp2
   go_round
   case rel => exact ⟨k + 1, by omega, by go_num, by rw [hze'.out]⟩
   case measure => simp [intOf]; omega
  ·obtain rfl : k = n := by omega
   go_wp2
   go_ret
   exact ⟨rfl, rfl⟩
theorem zlo9 (v : Value) (p n : Nat) (ys : List Int) (w : World) (h : Rd .u8 w v ys) (hy : By ys) (hl : ys.length <= 1125899906842624) (hn : p + n <= 8 * ys.length) (h32 : n <= 32) :
  Calls Tryz.prog 156 #[v, .int .i64 p, .int .i64 n] w fun e w' => e = .returned (.int .i64 (val (unpack ys) p n)) /\ w' = w := by
 obtain ⟨a, cap, rfl, _, _, _, h⟩ := h
 rcases h with rfl | ⟨b, o, rfl, hc⟩
 ·obtain rfl : n = 0 := by simp at hn; omega
  exact zmr9 _ p w
 ·exact zoa9 b o cap p n ys w hy hl hn h32 hc
theorem zcc9 (n : Int) (left : Nat) (w : World) :
  Calls Tryz.prog 155 #[.int .i64 n, .int .i64 left] w fun e w' => e = .returned (.int .i64 (tkE left n)) /\ w' = w := by
 by_cases h1 : n < 0
 ·have e : tkE left n = 1 := by unfold tkE; rw [if_pos (by omega)]
  rw [e]; clear e
  go_enter Tryz.func155, Tryz.ntmps155
  go_wp2
  go_ret
  exact ⟨rfl, rfl⟩
 ·by_cases h2 : 32 < n
  ·have e : tkE left n = 1 := by unfold tkE; rw [if_pos (by omega)]
   rw [e]; clear e
   go_enter Tryz.func155, Tryz.ntmps155
   go_wp2
   go_ret
   exact ⟨rfl, rfl⟩
  ·by_cases h3 : (left : Int) < n
   ·have e : tkE left n = 3 := by unfold tkE; rw [if_neg (by omega), if_pos h3]
    rw [e]; clear e
    go_enter Tryz.func155, Tryz.ntmps155
    go_wp2
    go_ret
    exact ⟨rfl, rfl⟩
   ·have e : tkE left n = 0 := by unfold tkE; rw [if_neg (by omega), if_neg h3]
    rw [e]; clear e
    go_enter Tryz.func155, Tryz.ntmps155
    go_wp2
    go_ret
    exact ⟨rfl, rfl⟩
theorem Tch.of_drewN (S : Nat -> Prop) (w : World) (n : Nat) : Tch S w (w.drewN n) := ⟨rfl, rfl, rfl, Nat.le_refl _, fun _ _ _ => rfl⟩
structure Rr (w : World) (b : Nat) (rv : Value) (ys : List Int) (p : Nat) : Prop where
 blk : w.heap[b]? = some (.cells #[rv, .int .i64 p] 167 (0, 0))
 own : Owns .u8 5 w rv ys
 bys : By ys
 le : p <= 8 * ys.length
 small : ys.length <= 140737488355328
theorem Rr.c0 {w : World} {b : Nat} {rv : Value} {ys : List Int} {p : Nat} (h : Rr w b rv ys p) : w.cell? ⟨b, 0, none⟩ = some rv := by
 rw [cell_of_row w b 0 _ _ (0, 0) h.blk]; rfl
theorem Rr.c1 {w : World} {b : Nat} {rv : Value} {ys : List Int} {p : Nat} (h : Rr w b rv ys p) : w.cell? ⟨b, 1, none⟩ = some (.int .i64 p) := by
 rw [cell_of_row w b 1 _ _ (0, 0) h.blk]; rfl
theorem Rr.fz {w : World} {b : Nat} {rv : Value} {ys : List Int} {p : Nat} (h : Rr w b rv ys p) (j : Nat) : w.frozen? ⟨b, j, none⟩ = false := frozen_of_row w b j _ _ h.blk
theorem Rr.lt {w : World} {b : Nat} {rv : Value} {ys : List Int} {p : Nat} (h : Rr w b rv ys p) : b < w.heap.size := (Array.getElem?_eq_some_iff.1 h.blk).1
theorem Rr.shape {w : World} {b : Nat} {rv : Value} {ys : List Int} {p : Nat} (h : Rr w b rv ys p) : ∃ a cap, rv = .slice a ys.length cap := by
 obtain ⟨a, cap, e, _⟩ := h.own.rd
 exact ⟨a, cap, e⟩
theorem Rr.tch {S : Nat -> Prop} {w w' : World} {b : Nat} {rv : Value} {ys : List Int} {p : Nat} (h : Rr w b rv ys p) (ht : Tch S w w') (hb : ¬ S b) (hr : ∀ k, rv.ownBlock = some k -> ¬ S k) : Rr w' b rv ys p :=
 ⟨by rw [ht.block b h.lt hb]; exact h.blk, h.own.tch ht hr, h.bys, h.le, h.small⟩
theorem Rr.below {w w' : World} {b : Nat} {rv : Value} {ys : List Int} {p : Nat} (h : Rr w b rv ys p) (ht : Below w.heap.size w w') : Rr w' b rv ys p :=
 h.tch (S := fun _ => False) (Tch.of_below ht) (fun e => e) (fun _ _ e => e)
theorem Rr.ne {w : World} {b : Nat} {rv : Value} {ys : List Int} {p : Nat} (h : Rr w b rv ys p) : rv.ownBlock ≠ some b := by
 intro hg
 rcases h.own.2 with ⟨rfl, _⟩ | ⟨g', cap, cur, rfl, _, hgg, _⟩
 ·simp [Value.ownBlock] at hg
 ·simp only [Value.ownBlock, Option.some.injEq] at hg
  subst hg
  rw [h.blk] at hgg
  simp at hgg
theorem Rr.move {w : World} {b : Nat} {rv : Value} {ys : List Int} {p : Nat} (h : Rr w b rv ys p) (q : Nat) (hq : q <= 8 * ys.length) : Rr (w.setCell ⟨b, 1, none⟩ (.int .i64 q)) b rv ys q := by
 refine ⟨?_, h.own.tch (S := fun k => k = b) ((Tch.refl (fun k => k = b) w).setCell (p := ⟨b, 1, none⟩) (fun _ => rfl) _) (fun j hj e => h.ne (by rw [hj, e])), h.bys, hq, h.small⟩
 rw [heap_setCell_same w b 1 _ _ (.int .i64 q) h.blk]
 simp
theorem zbt9 (b : Nat) (rv : Value) (ys : List Int) (p : Nat) (w : World) (h : Rr w b rv ys p) :
  Calls Tryz.prog 135 #[.pointer (some ⟨b, 0, none⟩)] w fun e w' => e = .returned (.int .i64 ((8 * ys.length - p : Nat) : Int)) /\ ∃ n, w' = w.drewN n := by
 have c0 := h.c0
 have c1 := h.c1
 have hle := h.le
 have hsm := h.small
 obtain ⟨a, cap, rfl⟩ := h.shape
 clear h
 go_enter Tryz.func135, Tryz.ntmps135
 go_wp2
 go_quiet (fail)
 go_wp2
 go_ret
 refine ⟨?_, _, rfl⟩
 have e : ((8 * ys.length - p : Nat) : Int) = 8 * (ys.length : Int) - p := by omega
 rw [e]
 rfl
theorem tk_bad {left : Nat} {n : Int} (bs : List Int) (p : Nat) (h : tkE left n ≠ 0) : tkV bs left p n = 0 /\ tkN left n = 0 := by
 unfold tkE at h
 unfold tkV tkN
 split at h
 ·rename_i h1; rw [if_pos h1, if_pos h1]; exact ⟨rfl, rfl⟩
 ·rename_i h1
  split at h
  ·rename_i h2; rw [if_neg h1, if_pos h2, if_neg h1, if_pos h2]; exact ⟨rfl, rfl⟩
  ·exact absurd rfl h
theorem zzr9 {left : Nat} {n : Int} (bs : List Int) (p : Nat) (h : tkE left n = 0) : ∃ m : Nat, n = (m : Int) /\ m <= 32 /\ m <= left /\ tkV bs left p n = val bs p m /\ tkN left n = m := by
 have hn : 0 <= n /\ n <= 32 /\ n <= (left : Int) := by
  unfold tkE at h
  split at h
  ·cases h
  ·split at h
   ·cases h
   ·omega
 obtain ⟨m, rfl⟩ := Int.eq_ofNat_of_zero_le hn.1
 refine ⟨m, rfl, by omega, by omega, ?_, ?_⟩
 ·unfold tkV; rw [if_neg (by omega), if_neg (by omega)]; rfl
 ·unfold tkN; rw [if_neg (by omega), if_neg (by omega)]; rfl
theorem zgn9 (b : Nat) (rv : Value) (bs : List Int) (w : World) (h : Wr w b rv bs) (hb : bs.length <= 1125899906842000) :
  Calls Tryz.prog 96 #[.pointer (some ⟨b, 0, none⟩)] w fun e w' => ∃ v', e = .returned v' /\ w'.ownsRow 0 5 1 v' (pack bs).length ((pack bs).map (Value.int .u8)) ∧
   Below w.heap.size w w' /\ ∀ k, v'.ownBlock = some k -> w.heap.size <= k := by
 have c0 := h.c0
 have H : Hid (Wr w b rv bs) := h
 clear h
 go_enter Tryz.func96, Tryz.ntmps96
 go_wp2_with fail
 refine (zls9 rv (pack bs) w (zeh9 H.out.own) (by rw [zc9]; omega)).mono ?_
 rintro e w1 ⟨v', rfl, h1, h2, h3⟩
 go_wp2
 go_ret
 exact ⟨v', rfl, h1, h2, h3⟩
end Go.Proofs.YtobenjkacpipeaaGreat
