import Derived.Test.YtobenjkacpipeaaGreatPNum
import Derived.Test.YtobenjkacpipeaaGreatPE64
set_option maxRecDepth 100000
set_option linter.unusedVariables false
set_option linter.unusedSimpArgs false
set_option maxHeartbeats 8000000
namespace Go.Proofs.YtobenjkacpipeaaGreat
open Go.RowKit Pl
theorem zcq9 (v : Value) (xs : List Int) (n : Int) (w : World) (h : Rd .u8 w v xs) (hb : xs.length <= 140737488355000) (h0 : 0 <= n) (h1 : n <= 4294967295) :
  Calls Tryz.prog 57 #[v, .int .i64 n] w fun e w' => ∃ v', e = .returned (.tuple #[v', .int .i64 0]) /\ Owns .u8 5 w' v' (xs ++ digits n) /\ Grew w w' (.slice none 0 0) v' := by
 have H : Hid (Rd .u8 w v xs) := h
 clear h
 go_enter Tryz.func57, Tryz.ntmps57
 go_wp2_with (at_builtin; refine zb9 _ rfl (.tmp 7) (.tmp 8) 22 rfl 5 .u8 1 elem8 _ [] rfl (zf9 _ _ _) _ xs rfl H.out ?a1 ?a2 ?_)
 case a1 => simp; omega
 case a2 => simp; omega
 intro v1 w1 ho hg
 go_wp2_with fail
 go_loopw [1, 6] (fun m r wr => ∃ (f : Nat) (q : Int) (done : List Int), m = .int .i64 q /\ 0 <= q /\ q <= 4294967295 /\ done.length + f = 4 /\ Hid (q < 128 ^ (f + 1)) /\ Hid (done ++ dig f q = digits n) ∧
   Owns .u8 5 wr r (xs ++ done) /\ Grew w wr (.slice none 0 0) r) (fun m _ _ => (intOf m).toNat)
 case atStart =>
  exact ⟨4, n, [], rfl, h0, h1, rfl, by show n < 128 ^ (4 + 1); have : (128 : Int) ^ (4 + 1) = 34359738368 := by decide
                                        omega, rfl, by simpa using ho, hg⟩
 case round =>
  obtain ⟨f, q, done, rfl, hq0, hq1, hf4, hqf, hD, hO, hG⟩ := hrel
  have HO : Hid (Owns .u8 5 wr u6 (xs ++ done)) := hO
  have HG : Hid (Grew w wr (.slice none 0 0) u6) := hG
  clear hO hG ho hg
  by_cases h128 : 128 <= q
  ·obtain ⟨f', rfl⟩ : ∃ f', f = f' + 1 := by
    cases f with
    | zero => have := hqf.out; simp at this; omega
    | succ f' => exact ⟨f', rfl⟩
   have hp : (128 : Int) ^ (f' + 1 + 1) = 128 ^ (f' + 1) * 128 := Int.pow_succ _ _
   have HQ : Hid (q / 128 < 128 ^ (f' + 1)) := by show q / 128 < _; have := hqf.out; omega
   have HD : Hid ((done ++ [q % 128 + 128]) ++ dig f' (q / 128) = digits n) := by
    have := hD.out
    simp only [dig] at this
    rw [if_pos h128] at this
    simpa [Hid] using this
   clear hp hqf hD
   go_wp2_with (at_builtin; refine zd9 _ rfl (.tmp 19) (.tmp 24) 22 rfl 5 .u8 1 elem8 _ (xs ++ done) rfl HO.out (q % 128 + 128) rfl ?b1 ?b2 ?_)
   case b1 => first | omega | (simp; omega)
   case b2 => first | omega | (simp; omega)
   intro v' w2 hO2 hG2
   have hG3 := HG.out.trans hG2
   have hO3 : Owns .u8 5 w2 v' (xs ++ (done ++ [q % 128 + 128])) := by simpa using hO2
   clear hG2 hO2
   go_wp2_with fail
   go_roundw
   case rel => exact ⟨f', q / 128, done ++ [q % 128 + 128], rfl, by omega, by omega, by simp; omega, HQ, HD, hO3, hG3⟩
   case measure => simp [intOf]; omega
  ·have HD : Hid (done ++ [q] = digits n) := by
    have := hD.out
    cases f with
    | zero => exact this
    | succ f' =>
     simp only [dig] at this
     rw [if_neg h128] at this
     exact this
   clear hD hqf
   go_wp2_with (at_builtin; refine zd9 _ rfl (.tmp 28) (.tmp 31) 22 rfl 5 .u8 1 elem8 _ (xs ++ done) rfl HO.out q rfl ?c1 ?c2 ?_)
   case c1 => first | omega | (simp; omega)
   case c2 => first | omega | (simp; omega)
   intro v' w2 hO2 hG2
   have hG3 := HG.out.trans hG2
   have hO3 : Owns .u8 5 w2 v' (xs ++ digits n) := by rw [<- HD.out]; simpa using hO2
   clear hG2 hO2
   go_wp2_with fail
   go_ret2
   exact ⟨v', rfl, hO3, hG3⟩
set_option maxRecDepth 100000 in
theorem zcu9 (v : Value) (xs : List Int) (n : Nat) (x : Int) (w : World) (h : Rd .i64 w v xs) (hb : xs.length <= 1099511627776) (h32 : n <= 32) (hx : 0 <= x) (hx1 : x < 2 ^ n) :
  Calls Tryz.prog 61 #[v, .int .i64 n, .int .i64 x] w fun e w' => ∃ v', e = .returned (.tuple #[v', .int .i64 0]) /\ Owns .i64 3 w' v' (xs ++ bitsOf x n) /\ Grew w w' (.slice none 0 0) v' := by
 have H : Hid (Rd .i64 w v xs) := h
 have hp : (2 : Int) ^ n <= 2 ^ 32 := zs9 h32
 have e32 : (2 : Int) ^ 32 = 4294967296 := by decide
 have hp0 : (0 : Int) < 2 ^ n := Int.pow_pos (by decide)
 obtain ⟨t, hte⟩ : ∃ t : Int, Hid ((2 : Int) ^ n = t) := ⟨_, rfl⟩
 have ht : x < t /\ t <= 4294967296 := by rw [<- hte.out]; omega
 have hw : wrap64 (2 ^ n) = t := by rw [IntWalk.wrap64_in _ ⟨by omega, by omega⟩, hte.out]
 clear h hp e32 hp0 hx1
 go_enter Tryz.func61, Tryz.ntmps61
 go_wp2_with (at_builtin; refine zb9 _ rfl (.tmp 27) (.tmp 28) 56 rfl 3 .i64 8 elem64 _ [] rfl (zf9 _ _ _) _ xs rfl H.out (by simp; omega) (by simp; omega) ?_)
 intro v1 w1 ho hg
 go_wp2_with fail
 go_loopw [2, 8, 9] (fun y r i wr => ∃ (k : Nat) (q : Int), k <= n /\ i = .int .i64 k /\ y = .int .i64 q /\ 0 <= q /\ q <= 4294967296 /\ Hid (x / 2 ^ k = q) /\ Owns .i64 3 wr r (xs ++ bitsOf x k) /\ Grew w wr (.slice none 0 0) r) (fun _ _ i _ => n - (intOf i).toNat)
 case atStart => exact ⟨0, x, Nat.zero_le _, rfl, rfl, hx, by omega, by simp [Hid], by simpa [bitsOf] using ho, hg⟩
 case round =>
  obtain ⟨k, q, hk, rfl, rfl, hq0, hq1, hqe, hO, hG⟩ := hrel
  have HO : Hid (Owns .i64 3 wr u8 (xs ++ bitsOf x k)) := hO
  have HG : Hid (Grew w wr (.slice none 0 0) u8) := hG
  clear hO hG ho hg
  by_cases hlt : k < n
  ·have HLEN : Hid ((xs ++ bitsOf x k).length <= 1099511627900) := by
    show _ <= _
    rw [List.length_append, za9]; omega
   go_wp2_with (at_builtin; refine zd9 _ rfl (.tmp 35) (.tmp 38) 56 rfl 3 .i64 8 elem64 _ (xs ++ bitsOf x k) rfl HO.out (q % 2) rfl (by have := HLEN.out; omega) (by have := HLEN.out; omega) ?_)
   intro v' w2 hO3 hG3
   have hG4 := HG.out.trans hG3
   have hO4 : Owns .i64 3 w2 v' (xs ++ bitsOf x (k + 1)) := by
    rw [zmn9, hqe.out]; simpa using hO3
   have hqe2 : Hid (x / 2 ^ (k + 1) = q / 2) := by
    show _ = _
    rw [<- hqe.out, Int.pow_succ, Int.ediv_ediv_of_nonneg (Int.le_of_lt (Int.pow_pos (by decide)))]
   clear hO3 hG3
   go_wp2_with fail
   go_roundw
   case rel => exact ⟨k + 1, q / 2, by omega, by go_num, rfl, by omega, by omega, hqe2, hO4, hG4⟩
   case measure => simp [intOf]; omega
  ·obtain rfl : k = n := by omega
   go_wp2_with fail
   go_ret2
   exact ⟨u8, rfl, HO.out, HG.out⟩
theorem zcy9 (bs : List Int) (j : Nat) (h : 8 * j < bs.length) : (pack bs).take (j + 1) = (pack bs).take j ++ [val bs (8 * j) 8] := by
 rw [take_snoc' (pack bs) j (by rw [zc9]; omega), zbb9]
set_option maxRecDepth 100000 in
theorem znc9 (b o cap : Nat) (bs : List Int) (w : World) (hx : Bits bs) (hl : bs.length <= 1099511627776)
  (hc : ∀ i, i < bs.length -> w.cell? ⟨b, o + i, none⟩ = some (.int .i64 (bs.getD i 0))) :
  Calls Tryz.prog 41 #[.slice (some ⟨b, o, none⟩) bs.length cap] w fun e w' => ∃ v', e = .returned v' /\ Owns .u8 5 w' v' (pack bs) /\ Grew w w' (.slice none 0 0) v' := by
 have HC : Hid (∀ i, i < bs.length -> w.cell? ⟨b, o + i, none⟩ = some (.int .i64 (bs.getD i 0))) := hc
 have HX : Hid (Bits bs) := hx
 clear hc hx
 go_enter Tryz.func41, Tryz.ntmps41
 go_wp2
 go_loopw [3, 4] (fun r i wr => ∃ j : Nat, 8 * j <= bs.length + 7 /\ i = .int .i64 (8 * (j : Int)) /\ Hid (Owns .u8 5 wr r ((pack bs).take j)) /\ Hid (Grew w wr (.slice none 0 0) r)) (fun _ i _ => bs.length + 8 - (intOf i).toNat)
 case atStart => exact ⟨0, by omega, rfl, by simpa [Hid] using zf9 .u8 5 w, Grew.refl _ _⟩
 case round =>
  obtain ⟨j, hj, rfl, hO, hG⟩ := hrel
  by_cases hlt : 8 * j < bs.length
  ·go_wp2_with fail
   go_loop [5, 6, 7] (fun z s k => ∃ (t : Nat) (y p : Int), t <= 8 /\ 8 * j + t <= bs.length /\ k = .int .i64 (8 * (j : Int) + (t : Int)) /\ z = .int .i64 y /\ s = .int .i64 p /\ 0 <= y /\ y < p /\ p <= 256 /\ Hid (val bs (8 * j) t = y /\ (2 : Int) ^ t = p)) (fun _ _ k => 8 * j + 8 - (intOf k).toNat)
   case atStart => exact ⟨0, 0, 1, by omega, by omega, by go_num, rfl, rfl, by omega, by omega, by omega, ⟨rfl, rfl⟩⟩
   case round =>
    obtain ⟨t, y, p, ht, htl, rfl, rfl, rfl, hy0, hyp, hp, hyy⟩ := hrel
    by_cases hin : t < 8 /\ 8 * j + t < bs.length
    ·obtain ⟨h8, hlen⟩ := hin
     obtain ⟨c, hce⟩ : ∃ c, Hid (bs.getD (8 * j + t) 0 = c) := ⟨_, rfl⟩
     have hc01 : c = 0 ∨ c = 1 := by rw [<- hce.out]; exact HX.out _
     have cc : wr.cell? ⟨b, o + (8 * j + t), none⟩ = some (.int .i64 c) := by
      have h := HC.out _ hlen
      rw [hG.out.below.1.cell (p := ⟨b, o + (8 * j + t), none⟩) (World.block_lt_of_cell? w ⟨b, o + (8 * j + t), none⟩ h), h, hce.out]
     obtain ⟨d, hd⟩ : ∃ d, c * p = d := ⟨_, rfl⟩
     have hd1 : 0 <= d /\ d <= p := by rcases hc01 with rfl | rfl <;> simp at hd <;> omega
     have HZ : Hid (val bs (8 * j) (t + 1) = y + d /\ (2 : Int) ^ (t + 1) = p * 2) := by
      refine ⟨?_, ?_⟩
      ·show val bs (8 * j) t + bs.getD (8 * j + t) 0 * 2 ^ t = y + d
       rw [hyy.out.1, hyy.out.2, hce.out, hd]
      ·rw [Int.pow_succ, hyy.out.2]
     have HB : Hid (y + d < p * 2) := by
      have := (val_bd HX.out (8 * j) (t + 1)).2
      rw [HZ.out.1, HZ.out.2] at this
      exact this
     have hp2 : p * 2 <= 256 := by
      have h1 : (2 : Int) ^ (t + 1) <= 2 ^ 8 := zs9 (by omega)
      have e8 : (2 : Int) ^ 8 = 256 := by decide
      rw [HZ.out.2] at h1
      omega
     clear hc01
     go_wp2_with fail
     go_round
     case rel => exact ⟨_, _, _, ⟨t + 1, by omega, by omega, by go_num, y + d, rfl, p * 2, rfl, by omega, HB.out, hp2, HZ⟩, rfl, rfl, rfl⟩
     case measure => simp [intOf]; omega
    ·have HV : Hid (val bs (8 * j) 8 = y) := by
      show _ = _
      by_cases e8 : t = 8
      ·rw [<- hyy.out.1, e8]
      ·rw [zum9 bs (8 * j) 8 t ht (by omega), hyy.out.1]
     have HLEN : Hid (((pack bs).take j).length <= 1099511627776) := by
      show _ <= _
      rw [List.length_take, zc9]; omega
     by_cases h8 : t < 8
     ·go_wp2_with (at_builtin; refine zd9 _ rfl (.tmp 37) (.tmp 40) 22 rfl 5 .u8 1 elem8 _ ((pack bs).take j) rfl hO.out y rfl (by have := HLEN.out; omega) (by have := HLEN.out; omega) ?_)
      intro v' w2 hO3 hG3
      have hG4 : Hid (Grew w w2 (.slice none 0 0) v') := hG.out.trans hG3
      have hO4 : Hid (Owns .u8 5 w2 v' ((pack bs).take (j + 1))) := by show Owns _ _ _ _ _; rw [zcy9 bs j hlt, HV.out]; exact hO3
      clear hO3 hG3 hG hO
      go_wp2_with fail
      go_roundw
      case rel => exact ⟨j + 1, by omega, by go_num, hO4, hG4⟩
      case measure => simp [intOf]; omega
     ·go_wp2_with (at_builtin; refine zd9 _ rfl (.tmp 37) (.tmp 40) 22 rfl 5 .u8 1 elem8 _ ((pack bs).take j) rfl hO.out y rfl (by have := HLEN.out; omega) (by have := HLEN.out; omega) ?_)
      intro v' w2 hO3 hG3
      have hG4 : Hid (Grew w w2 (.slice none 0 0) v') := hG.out.trans hG3
      have hO4 : Hid (Owns .u8 5 w2 v' ((pack bs).take (j + 1))) := by show Owns _ _ _ _ _; rw [zcy9 bs j hlt, HV.out]; exact hO3
      clear hO3 hG3 hG hO
      go_wp2_with fail
      go_roundw
      case rel => exact ⟨j + 1, by omega, by go_num, hO4, hG4⟩
      case measure => simp [intOf]; omega
  ·have hO5 : Owns .u8 5 wr u3 (pack bs) := by
    have := hO.out
    rw [List.take_of_length_le (by rw [zc9]; omega)] at this
    exact this
   go_wp2_with fail
   go_ret
   exact ⟨u3, rfl, hO5, hG.out⟩
theorem zpi9 (a : Option Addr) (cap : Nat) (w : World) :
  Calls Tryz.prog 41 #[.slice a 0 cap] w fun e w' => e = .returned (.slice none 0 0) /\ w' = w := by
 go_enter Tryz.func41, Tryz.ntmps41
 go_wp2
 go_loop [3, 4] (fun r i => r = .slice none 0 0 /\ i = .int .i64 0) (fun _ _ => 0)
 case atStart => exact ⟨rfl, rfl⟩
 case round =>
  obtain ⟨rfl, rfl⟩ := hrel
  go_wp2
  go_ret
  exact ⟨rfl, rfl⟩
theorem zlf9 (v : Value) (bs : List Int) (w : World) (h : Rd .i64 w v bs) (hx : Bits bs) (hl : bs.length <= 1099511627776) :
  Calls Tryz.prog 41 #[v] w fun e w' => ∃ v', e = .returned v' /\ Owns .u8 5 w' v' (pack bs) /\ Grew w w' (.slice none 0 0) v' := by
 obtain ⟨a, cap, rfl, _, _, _, h⟩ := h
 rcases h with rfl | ⟨b, o, rfl, hc⟩
 ·refine (zpi9 a cap w).mono ?_
  rintro e w' ⟨rfl, rfl⟩
  exact ⟨_, rfl, zf9 _ _ _, Grew.refl _ _⟩
 ·exact znc9 b o cap bs w hx hl hc
end Go.Proofs.YtobenjkacpipeaaGreat
