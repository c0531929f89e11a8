import Derived.Test.YtobenjkacpipeaaGreatPSPl
import Derived.Test.YtobenjkacpipeaaGreatPPkSnk
import Derived.Test.YtobenjkacpipeaaGreatPRefPutNum
import Derived.Test.YtobenjkacpipeaaGreatPPkPart
import Derived.Test.YtobenjkacpipeaaGreatPPkCut
import Derived.Test.YtobenjkacpipeaaGreatPE64
import Derived.Test.YtobenjkacpipeaaGreatPFCod
import Derived.Test.YtobenjkacpipeaaGreatPHMayP
set_option maxRecDepth 100000
set_option linter.unusedVariables false
set_option linter.unusedSimpArgs false
set_option maxHeartbeats 8000000
namespace Go.Proofs.YtobenjkacpipeaaGreat
open Go.RowKit Pl
theorem zaai9 (a b : Nat) (ha : a < 4294967296) (hb : b < 4294967296) : Go.bits .xor .i64 (a : Int) (b : Int) = ((a ^^^ b : Nat) : Int) := by
 have hx : a ^^^ b < 4294967296 := Nat.xor_lt_two_pow (n := 32) ha hb
 show IntKind.i64.wrap ((BitVec.ofInt 64 (a : Int) ^^^ BitVec.ofInt 64 (b : Int)).toNat : Int) = _
 rw [BitVec.toNat_xor, ofInt_u64 a (by omega), ofInt_u64 b (by omega), IntKind.wrap_i64]
 omega
set_option maxRecDepth 100000 in
theorem zub9 (a b : Nat) (w : World) (ha : a < 4294967296) (hb : b < 4294967296) :
  Calls Tryz.prog 58 #[.int .i64 a, .int .i64 b] w fun e w' => e = .returned (.int .i64 ((a ^^^ b : Nat) : Int)) /\ w' = w := by
 have hx := zaai9 a b ha hb
 generalize a ^^^ b = x at *
 go_enter Tryz.func58, Tryz.ntmps58
 go_wp2
 go_ret
 exact ⟨rfl, rfl⟩
set_option maxRecDepth 100000 in
theorem zpy9 (v : Value) (xs : List Int) (w : World) (hr : Rd .u8 w v xs) (hb : By xs) :
  Calls Tryz.prog 31 #[v] w fun e w' => e = .returned (.int .i64 (crc xs : Int)) /\ Below w.heap.size w w' := by
 obtain ⟨a, cap, rfl, hlc, hcm, _, hcc⟩ := hr
 have HC : Hid (xs = [] ∨ ∃ b o, a = some ⟨b, o, none⟩ /\ ∀ i, i < xs.length -> w.cell? ⟨b, o + i, none⟩ = some (.int .u8 (xs.getD i 0))) := hcc
 have HB : Hid (By xs) := hb
 have hm : xs.length <= 9223372036854775807 := by unfold maxLen at hcm; omega
 clear hcc hb hcm
 obtain ⟨R, hR⟩ : ∃ R, Hid (crc xs = R) := ⟨_, rfl⟩
 rw [hR.out]
 go_enter Tryz.func31, Tryz.ntmps31
 go_wp2_with fail
 go_loopw [3, 4] (fun x i wr => ∃ (k X : Nat), k <= xs.length /\ i = .int .i64 k /\ x = .int .i64 X /\ X < 4294967296 /\ Hid (cR xs k = X) /\ Hid (Below w.heap.size w wr)) (fun _ i _ => xs.length - (intOf i).toNat)
 case atStart => exact ⟨0, 4294967295, Nat.zero_le _, rfl, rfl, by decide, rfl, Below.refl _ _⟩
 case round =>
  obtain ⟨k, X, hk, rfl, rfl, hX, HX, B⟩ := hrel
  by_cases hlt : k < xs.length
  ·obtain ⟨ab, ao, ha, hc⟩ : ∃ b o, a = some ⟨b, o, none⟩ /\ ∀ i, i < xs.length -> w.cell? ⟨b, o + i, none⟩ = some (.int .u8 (xs.getD i 0)) := by
    rcases HC.out with rfl | h
    ·simp at hlt
    ·exact h
   subst ha
   obtain ⟨b, hb⟩ : ∃ b : Nat, Hid (xs.getD k 0 = (b : Int) /\ b < 256) := by
    have := HB.out k
    exact ⟨(xs.getD k 0).toNat, by omega, by omega⟩
   have hb1 := hb.out.2
   have cx : wr.cell? ⟨ab, ao + k, none⟩ = some (.int .u8 (b : Int)) := by
    have h0 := hc k hlt
    rw [B.out.cell (p := ⟨ab, ao + k, none⟩) (World.block_lt_of_cell? w ⟨ab, ao + k, none⟩ h0), h0, hb.out.1]
   have hx2 : X ^^^ b < 4294967296 := Nat.xor_lt_two_pow (n := 32) hX (by omega)
   have HX1 : ∀ W, Calls Tryz.prog 58 #[.int .i64 X, .int .i64 b] W fun e w' => e = .returned (.int .i64 ((X ^^^ b : Nat) : Int)) /\ w' = W := fun W => zub9 X b W hX (by omega)
   have HN : Hid (cR xs (k + 1) = c8 8 (X ^^^ b)) := by show _ = _; simp only [cR]; rw [HX.out, hb.out.1]; rfl
   obtain ⟨Y, hY⟩ : ∃ Y, X ^^^ b = Y := ⟨_, rfl⟩
   rw [hY] at hx2 HN
   rw [hY] at HX1
   clear hc HX hY
   go_wp2_with (go_at_call 58; refine (HX1 _).mono ?_; rintro _ _ ⟨rfl, rfl⟩)
   clear HX1 cx
   go_loopw [3, 5] (fun x i wr => ∃ (j X : Nat), j <= 8 /\ i = .int .i64 j /\ x = .int .i64 X /\ X < 4294967296 /\ Hid (c8 j Y = X) /\ Hid (Below w.heap.size w wr)) (fun _ i _ => 8 - (intOf i).toNat)
   case atStart => exact ⟨0, Y, Nat.zero_le _, rfl, rfl, hx2, rfl, by first | exact B | exact B.out.drew⟩
   case round =>
    clear B
    obtain ⟨j, Z, hj, rfl, rfl, hZ, HZ, B⟩ := hrel
    by_cases hjl : j < 8
    ·have hs2 := c1_lt hZ
     have HZ2 : Hid (c8 (j + 1) Y = c1 Z) := by show _ = _; simp only [c8]; rw [HZ.out]
     obtain ⟨H, hH⟩ : ∃ H, Z / 2 = H := ⟨_, rfl⟩
     have hh : (Z : Int) / 2 = (H : Int) := by omega
     by_cases ho : Z % 2 = 1
     ·have hm2 : (Z : Int) % 2 = 1 := by omega
      have e1 : c1 Z = H ^^^ 2197175160 := by unfold c1; rw [if_pos ho, hH]
      have HX2 : ∀ W, Calls Tryz.prog 58 #[.int .i64 H, .int .i64 2197175160] W fun e w' => e = .returned (.int .i64 ((H ^^^ 2197175160 : Nat) : Int)) /\ w' = W := fun W => zub9 H 2197175160 W (by omega) (by decide)
      rw [e1] at hs2 HZ2
      obtain ⟨V, hV⟩ : ∃ V, H ^^^ 2197175160 = V := ⟨_, rfl⟩
      rw [hV] at hs2 HZ2
      rw [hV] at HX2
      clear HZ e1 hV hH ho
      go_wp2_with (go_at_call 58; refine (HX2 _).mono ?_; rintro _ _ ⟨rfl, rfl⟩)
      go_roundw
      case rel => exact ⟨j + 1, V, by omega, by go_num, rfl, hs2, HZ2, B⟩
      case measure => simp [intOf]; omega
     ·have hm2 : (Z : Int) % 2 = 0 := by omega
      have e1 : c1 Z = H := by unfold c1; rw [if_neg ho, hH]
      rw [e1] at hs2 HZ2
      clear HZ e1 hH ho
      go_wp2_with fail
      go_roundw
      case rel => exact ⟨j + 1, H, by omega, by go_num, rfl, hs2, HZ2, B⟩
      case measure => simp [intOf]; omega
    ·obtain rfl : j = 8 := by omega
     rw [HZ.out] at HN
     go_wp2_with fail
     go_roundw
     case rel => exact ⟨k + 1, Z, by omega, by go_num, rfl, hZ, HN, B⟩
     case measure => simp [intOf]; omega
  ·obtain rfl : k = xs.length := by omega
   have he : R = 4294967295 - X := by rw [<- hR.out]; unfold crc; rw [HX.out]
   have he2 : (4294967295 : Int) - (X : Int) = (R : Int) := by omega
   clear he
   go_wp2_with fail
   go_ret
   exact ⟨rfl, B.out⟩
theorem zam9 (v : Value) (xs : List Int) (n : Nat) (w : World) (h : Rd .u8 w v xs) (hb : xs.length <= 140737488355000) (h1 : n <= 4294967295) :
  Calls Tryz.prog 30 #[v, .int .i64 (n : Int)] w fun e w' => ∃ v', e = .returned v' /\ Owns .u8 5 w' v' (xs ++ digits n) /\ Below w.heap.size w w' /\ ∀ k, v'.ownBlock = some k -> w.heap.size <= k := by
 have HP : Hid (Calls Tryz.prog 57 #[v, .int .i64 (n : Int)] w fun e w' => ∃ v', e = .returned (.tuple #[v', .int .i64 0]) /\ Owns .u8 5 w' v' (xs ++ digits (n : Int)) /\ Grew w w' (.slice none 0 0) v') := zcq9 v xs n w h hb (by omega) (by omega)
 clear h
 go_enter Tryz.func30, Tryz.ntmps30
 go_wp2_with fail
 refine HP.out.mono ?_
 clear HP
 rintro e w1 ⟨v1, rfl, ho, hg⟩
 have O1 : Hid (Owns .u8 5 w1 v1 (xs ++ digits (n : Int))) := ho
 have B1 : Hid (Below w.heap.size w w1 /\ ∀ k, v1.ownBlock = some k -> w.heap.size <= k) := hg.below
 clear ho hg
 go_wp2_with fail
 go_ret
 exact ⟨v1, rfl, O1.out, B1.out⟩
theorem zbn9 (mode : Int) (v bv : Value) (ds bs : List Int) (w : World) (hr : Rd .u8 w v ds) (hb : Rd .u8 w bv bs) (hy : By ds) (h1 : ds.length <= 4294967295) (h2 : bs.length <= 4294967295) :
  Calls Tryz.prog 16 #[.int .u8 mode, v, bv] w fun e w' => ∃ v', e = .returned v' /\ Owns .u8 5 w' v' ([mode] ++ digits ds.length ++ bs ++ sumB (crc ds)) /\ Below w.heap.size w w' /\ ∀ k, v'.ownBlock = some k -> w.heap.size <= k := by
 have HR : Hid (Rd .u8 w v ds) := hr
 have HB : Hid (Rd .u8 w bv bs) := hb
 have HY : Hid (By ds) := hy
 obtain ⟨a, cap, rfl, hrest⟩ := hr
 clear hrest hb hy
 have hcl : crc ds <= 4294967295 := by unfold crc; omega
 obtain ⟨c, hc⟩ : ∃ c, Hid (crc ds = c) := ⟨_, rfl⟩
 rw [hc.out] at hcl ⊢
 go_enter Tryz.func16, Tryz.ntmps16
 go_wp2_with fail
 have hb0 : Below w.heap.size w (w.alloc (.cells #[.int .u8 mode] 5)) := (Below.refl _ _).alloc (Nat.le_refl _) _
 refine (zam9 _ [mode] ds.length _ (own1b w mode).rd (by simp) h1).mono ?_
 rintro e w1 ⟨v1, rfl, ho1, hb1, hf1⟩
 have hd := ze9 (ds.length : Int)
 obtain ⟨xs, hxs⟩ : ∃ xs, Hid ([mode] ++ digits (ds.length : Int) = xs) := ⟨_, rfl⟩
 have hxl : xs.length <= 6 := by rw [<- hxs.out]; simp; omega
 rw [hxs.out] at ho1
 have O1 : Hid (Owns .u8 5 w1 v1 xs) := ho1
 have B1 : Hid (Below w.heap.size w w1) := hb0.trans (hb1.mono (by simp))
 have N1 : Hid (∀ k, v1.ownBlock = some k -> w.heap.size <= k) := fun k hk => by have := hf1 k hk; simp at this; omega
 have R1 : Hid (Rd .u8 w1 bv bs) := HB.out.below B1.out
 clear ho1 hb1 hf1 hb0 HB hd
 have HL1 : Hid (xs.length + bs.length <= 9223372036854775807) := by show _ <= _; omega
 have HL2 : Hid ((xs.length + bs.length) * 1 <= 140737488355328) := by show _ <= _; omega
 go_wp2_with (at_builtin; refine zb9 w1 rfl (.tmp 15) (.tmp 16) 22 rfl 5 .u8 1 elem8 v1 xs rfl O1.out bv bs rfl R1.out HL1.out HL2.out ?_)
 intro v2 w2 ho2 hg2
 have O2 : Hid (Owns .u8 5 w2 v2 (xs ++ bs)) := ho2
 have B2 : Hid (Below w.heap.size w w2) := B1.out.trans (hg2.tch.below B1.out.size N1.out)
 have N2 : Hid (∀ k, v2.ownBlock = some k -> w.heap.size <= k) := fun k hk => by
  rcases hg2.fresh k hk with e | e
  ·exact N1.out k e
  ·have := B1.out.size; omega
 clear ho2 hg2 O1 B1 N1 R1 HL1 HL2
 go_wp2_with fail
 refine (zpy9 _ ds w2 (HR.out.below B2.out) HY.out).mono ?_
 rintro e w3 ⟨rfl, hb3⟩
 rw [hc.out]
 have O3 : Hid (Owns .u8 5 w3 v2 (xs ++ bs)) := O2.out.below hb3
 have B3 : Hid (Below w.heap.size w w3) := B2.out.trans (hb3.mono B2.out.size)
 clear hb3 O2 B2 HR HY
 go_wp2_with fail
 go_loopw [7, 9] (fun o i wr => ∃ (k : Nat), k <= 4 /\ i = .int .i64 k /\ Hid (Owns .u8 5 wr o (xs ++ bs ++ (sumB c).take k)) /\ Hid (Below w.heap.size w wr) /\ Hid (∀ k, o.ownBlock = some k -> w.heap.size <= k)) (fun _ i _ => 4 - (intOf i).toNat)
 case atStart => exact ⟨0, by omega, rfl, by simpa [Hid] using O3.out, B3, N2⟩
 case round =>
  clear O3 B3 N2
  obtain ⟨k, hk, rfl, OK, BK, NK⟩ := hrel
  by_cases hlt : k < 4
  ·have hki : (k : Int) < 4 := by omega
   obtain ⟨b, hb⟩ : ∃ b : Nat, Hid (c / 2 ^ (8 * k) % 256 = b) := ⟨_, rfl⟩
   have hsh : (c : Int) / 2 ^ (8 * k) % 256 = (b : Int) := by rw [<- hb.out]; push_cast; rfl
   have HTK : Hid ((sumB c).take (k + 1) = (sumB c).take k ++ [(b : Int)]) := by show _ = _; rw [zvd9 c k hlt, hb.out]
   have hlen : (xs ++ bs ++ (sumB c).take k).length <= 4294967399 := by rw [List.length_append, List.length_append, List.length_take]; simp [sumB]; omega
   obtain ⟨zs, hzs⟩ : ∃ zs, Hid (xs ++ bs ++ (sumB c).take k = zs) := ⟨_, rfl⟩
   rw [hzs.out] at hlen OK
   have HK1 : Hid (zs.length + 1 <= 9223372036854775807) := by show _ <= _; omega
   have HK2 : Hid ((zs.length + 1) * 1 <= 140737488355328) := by show _ <= _; omega
   have hmul : IntKind.i64.wrap (8 * (k : Int)) = 8 * (k : Int) := zi9 _ (by omega) (by omega)
   have hk0 : (0 : Int) <= 8 * (k : Int) := by omega
   have hsh2 : IntKind.u8.wrap ((c : Int) / 2 ^ (8 * (k : Int)).toNat) = (b : Int) := by
    rw [show (8 * (k : Int)).toNat = 8 * k by omega, IntKind.wrap_u8']
    exact hsh
   go_wp2_with (at_builtin; refine zd9 _ rfl (.tmp 24) (.tmp 30) 22 rfl 5 .u8 1 elem8 _ zs rfl OK.out _ rfl HK1.out HK2.out ?_)
   intro v5 w5 ho5 hg5
   have O5 : Hid (Owns .u8 5 w5 v5 (xs ++ bs ++ (sumB c).take (k + 1))) := by show Owns _ _ _ _ _; rw [HTK.out, <- List.append_assoc, hzs.out]; exact ho5
   have B5 : Hid (Below w.heap.size w w5) := BK.out.trans (hg5.tch.below BK.out.size NK.out)
   have N5 : Hid (∀ k, v5.ownBlock = some k -> w.heap.size <= k) := fun k hk => by
    rcases hg5.fresh k hk with e | e
    ·exact NK.out k e
    ·have := BK.out.size; omega
   clear ho5 hg5 OK BK NK
   go_wp2_with fail
   go_roundw
   case rel => exact ⟨k + 1, by omega, by go_num, O5, B5, N5⟩
   case measure => simp [intOf]; omega
  ·obtain rfl : k = 4 := by omega
   have O5 : Hid (Owns .u8 5 wr u7 ([mode] ++ digits (ds.length : Int) ++ bs ++ sumB c)) := by rw [hxs.out]; exact OK.out
   go_wp2_with fail
   go_ret
   exact ⟨u7, rfl, by have := O5.out; simpa using this, BK.out, NK.out⟩
theorem zyz9 (f : Nat) : Lib.bitLenAux f 0 = 0 := by cases f <;> simp [Lib.bitLenAux]
theorem zaay9 {x : Nat} (h : 0 < x) (hx : x < 4294967296) : Lib.bitLen x = Lib.bitLen (x / 2) + 1 := by
 have := Lib.bitLen_half x (by omega) (by have : (2 : Nat) ^ 64 = 18446744073709551616 := by decide
                                          omega)
 omega
theorem zft9 (v : Int) (w : World) (h : 0 <= v /\ v <= 65535) :
  Calls Tryz.prog 36 #[.int .i64 v] w fun e w' => e = .returned (.int .i64 (cOf v : Int)) /\ w' = w := by
 obtain ⟨x, rfl⟩ := Int.eq_ofNat_of_zero_le h.1
 have hx : x <= 65535 := by omega
 have HC : Hid (cOf (x : Int) = Lib.bitLen x) := by show _ = _; unfold cOf; rw [Int.toNat_natCast]
 rw [HC.out]
 obtain ⟨N, hN⟩ : ∃ N, Hid (Lib.bitLen x = N) := ⟨_, rfl⟩
 rw [hN.out]
 clear HC h
 have hN16 : N <= 64 := by
  rw [<- hN.out]
  exact Lib.bitLen_le x 64 (Nat.le_refl _) (by have : (2 : Nat) ^ 64 = 18446744073709551616 := by decide
                                               omega)
 go_enter Tryz.func36, Tryz.ntmps36
 go_wp2_with fail
 go_loopw [0, 3] (fun u i wr => ∃ (k y : Nat), u = .int .i64 y /\ i = .int .i64 k /\ y <= 65535 /\ Hid (k + Lib.bitLen y = N) /\ wr = w) (fun u _ _ => (intOf u).toNat)
 case atStart => exact ⟨0, x, rfl, rfl, hx, by rw [Nat.zero_add]; exact hN, rfl⟩
 case round =>
  obtain ⟨k, y, rfl, rfl, hy, HB, rfl⟩ := hrel
  by_cases h0 : 0 < y
  ·have h1 : (0 : Int) < (y : Int) := by omega
   have hq : (y : Int).tdiv 2 = ((y / 2 : Nat) : Int) := by rw [Int.tdiv_eq_ediv_of_nonneg (by omega)]; omega
   obtain ⟨z, hz⟩ : ∃ z, y / 2 = z := ⟨_, rfl⟩
   have HB2 : Hid (k + 1 + Lib.bitLen z = N) := by
    have h2 := HB.out
    rw [zaay9 h0 (by omega), hz] at h2
    show _ = _
    omega
   rw [hz] at hq
   have hzl : z < y := by omega
   have hq2 : (y : Int) / 2 = (z : Int) := by omega
   have hk : k <= 64 := by have := HB2.out; omega
   clear hz HB
   go_wp2_with fail
   go_roundw
   case rel => exact ⟨k + 1, z, by go_num, by go_num, by omega, HB2, by first | trivial | rfl⟩
   case measure => simp [intOf]; omega
  ·have hy0 : y = 0 := by omega
   have HB2 : Hid (k = N) := by
    have h2 := HB.out
    rw [hy0] at h2
    unfold Lib.bitLen at h2
    rw [zyz9] at h2
    exact h2
   have h1 : ¬ (0 : Int) < (y : Int) := by omega
   go_wp2_with fail
   go_ret
   exact ⟨by have h3 : k = N := HB2.out; rw [<- h3]; rfl, rfl⟩
theorem zel9 (x : Sq) (i : Nat) (hi : i < 3) (hx : SqOk x) (w : World) :
  Calls Tryz.prog 37 #[.agg #[.int .i64 x.1, .int .i64 x.2.1, .int .i64 x.2.2], .int .i64 (i : Int)] w fun e w' => e = .returned (.int .i64 (vOf i x)) /\ Below w.heap.size w w' := by
 obtain ⟨a, b, c⟩ := x
 have h1 := hx 1 (by omega)
 have h2 := hx 2 (by omega)
 simp only [vOf] at h1 h2
 have HB : Hid (Below w.heap.size w (w.alloc (.cells #[.int .i64 a, .int .i64 b, .int .i64 c] 55))) := (Below.refl _ _).alloc (Nat.le_refl _) _
 simp at h1 h2
 match i, hi with
 | 0, _ =>
  go_enter Tryz.func37, Tryz.ntmps37
  go_wp2_with fail
  go_ret
  exact ⟨rfl, by first | exact HB.out | exact Below.refl _ _⟩
 | 1, _ =>
  go_enter Tryz.func37, Tryz.ntmps37
  go_wp2_with fail
  go_ret
  exact ⟨rfl, by first | exact HB.out | exact Below.refl _ _⟩
 | 2, _ =>
  go_enter Tryz.func37, Tryz.ntmps37
  go_wp2_with fail
  go_ret
  exact ⟨rfl, by first | exact HB.out | exact Below.refl _ _⟩
theorem zki9 : ∀ (f : Nat) (l : List Int), Bits (ptL f l)
 | 0, _ => fun i => by simp [ptL]
 | f + 1, [] => fun i => by simp [ptL]
 | f + 1, x :: r => by
  simp only [ptL]
  split
  ·exact Bits.append (Bits.append (zan9 _ _) (zan9 _ _)) (zki9 f _)
  ·exact Bits.append (zan9 _ _) (zki9 f _)
theorem zgm9 (v : Value) (ls : List Int) (w : World) (h : Rd .i64 w v ls) (hm : mayB ls = true) :
  Calls Tryz.prog 34 #[v] w fun e w' => ∃ v', e = .returned (.tuple #[v', .int .i64 0]) /\ Owns .u8 5 w' v' (pack (ptBits ls)) /\ Below w.heap.size w w' /\ ∀ k, v'.ownBlock = some k -> w.heap.size <= k := by
 have HM : Hid (Calls Tryz.prog 60 #[v] w fun e w' => e = .returned (.bool true) /\ w' = w) := by have := may_rd v ls w h; rw [hm] at this; exact this
 unfold mayB at hm
 rw [decide_eq_true_eq] at hm
 obtain ⟨m1, m2, m3, m4, m5⟩ := hm
 clear m5
 have HLAST : Hid (ls.getD (ls.length - 1) 0 ≠ 0) := m3
 have HEACH : Hid (∀ i, i < ls.length -> 0 <= ls.getD i 0 /\ ls.getD i 0 <= 11) := m4
 obtain ⟨a, cap, rfl, hlc, hcm, hnil, hcc⟩ := h
 clear hnil
 obtain ⟨b, o, rfl, hc⟩ : ∃ b o, a = some ⟨b, o, none⟩ /\ ∀ i, i < ls.length -> w.cell? ⟨b, o + i, none⟩ = some (.int .i64 (ls.getD i 0)) := by
  rcases hcc with h | h
  ·rw [h] at m1; simp at m1
  ·exact h
 have HC : Hid (∀ i, i < ls.length -> w.cell? ⟨b, o + i, none⟩ = some (.int .i64 (ls.getD i 0))) := hc
 obtain ⟨n, hn⟩ : ∃ n, ls.length = n := ⟨_, rfl⟩
 have HN : Hid (ls.length = n) := hn
 rw [hn] at m1 m2 hlc HM HLAST HEACH HC ⊢
 clear hc hcc m3 m4 hn
 go_enter Tryz.func34, Tryz.ntmps34
 go_wp2_with fail
 refine HM.out.mono ?_
 clear HM
 rintro e w1 ⟨rfl, rfl⟩
 go_wp2_with fail
 have hp8 : (2 : Int) ^ 8 = 256 := by decide
 refine (zcu9 _ [] 8 ((n : Int) - 1) w1 ⟨none, 0, rfl, Nat.le_refl _, by unfold maxLen; omega, fun _ => rfl, .inl rfl⟩ (by simp) (by omega) (by omega) (by omega)).mono ?_
 rintro e w2 ⟨v2, rfl, ho2, hg2⟩
 have O2 : Hid (Owns .i64 3 w2 v2 (bitsOf ((n : Int) - 1) 8)) := ho2
 have B2 : Hid (Below w1.heap.size w1 w2) := hg2.below.1
 have NN : Hid (∀ k, v2.ownBlock = some k -> w1.heap.size <= k) := hg2.below.2
 have F0 : Hid (∃ f, (ls.drop 0).length <= f /\ bitsOf ((n : Int) - 1) 8 ++ ptL f (ls.drop 0) = ptBits ls) := ⟨ls.length, by simp, by unfold ptBits; rw [HN.out]; simp⟩
 clear ho2 hg2
 have N2 : Hid (∀ k, v2.ownBlock = some k -> w1.heap.size <= k) := NN.out
 have L0 : Hid ((bitsOf ((n : Int) - 1) 8).length <= 8 + 8 * 0) := by show _ <= _; rw [za9]; omega
 go_wp2_with fail
 go_loopw [5, 7] (fun r i wr => ∃ (k : Nat) (done : List Int), k <= n /\ i = .int .i64 k /\ Hid (Owns .i64 3 wr r done) /\ Hid (Below w1.heap.size w1 wr) /\ Hid (∃ f, (ls.drop k).length <= f /\ done ++ ptL f (ls.drop k) = ptBits ls) /\ Hid (done.length <= 8 + 8 * k)) (fun _ i _ => n - (intOf i).toNat)
 case atStart => exact ⟨0, _, Nat.zero_le _, rfl, O2, B2, F0, L0⟩
 case round =>
  clear O2 B2 F0 L0 N2 NN
  obtain ⟨k, done, hk, rfl, OK, BK, FK, LK⟩ := hrel
  by_cases hlt : k < n
  ·have lift : ∀ i, i < n -> wr.cell? ⟨b, o + i, none⟩ = some (.int .i64 (ls.getD i 0)) := fun i hi => by
    have h0 := HC.out i (by have := HN.out; omega)
    rw [BK.out.cell (p := ⟨b, o + i, none⟩) (World.block_lt_of_cell? w1 ⟨b, o + i, none⟩ h0)]; exact h0
   have c0 := lift k hlt
   have he := HEACH.out k hlt
   obtain ⟨x, hx⟩ : ∃ x, Hid (ls.getD k 0 = x) := ⟨_, rfl⟩
   rw [hx.out] at c0 he
   have hki : (k : Int) < (n : Int) := by omega
   have hp4 : (2 : Int) ^ 4 = 16 := by decide
   have HDR : Hid (ls.drop k = x :: ls.drop (k + 1)) := by
    show _ = _
    rw [List.drop_eq_getElem_cons (by have := HN.out; omega), <- hx.out, List.getD_eq_getElem?_getD, List.getElem?_eq_getElem (by have := HN.out; omega)]
    rfl
   clear lift
   go_wp2_with fail
   refine (zcu9 _ done 4 x wr OK.out.rd (by have := LK.out; omega) (by omega) he.1 (by omega)).mono ?_
   rintro e w3 ⟨v3, rfl, ho3, hg3⟩
   have O3 : Hid (Owns .i64 3 w3 v3 (done ++ bitsOf x 4)) := ho3
   have B3 : Hid (Below w1.heap.size w1 w3) := BK.out.trans (hg3.below.1.mono BK.out.size)
   have C3 : Hid (∀ i, i < n -> w3.cell? ⟨b, o + i, none⟩ = some (.int .i64 (ls.getD i 0))) := fun i hi => by
    have h0 := HC.out i (by have := HN.out; omega)
    rw [B3.out.cell (p := ⟨b, o + i, none⟩) (World.block_lt_of_cell? w1 ⟨b, o + i, none⟩ h0)]; exact h0
   have c3 : w3.cell? ⟨b, o + k, none⟩ = some (.int .i64 x) := by rw [C3.out k hlt, hx.out]
   clear ho3 hg3 OK BK c0
   by_cases h0 : 0 < x
   ·have F3 : Hid (∃ f, (ls.drop (k + 1)).length <= f /\ (done ++ bitsOf x 4) ++ ptL f (ls.drop (k + 1)) = ptBits ls) := by
     obtain ⟨f, hf, hd⟩ := FK.out
     rw [HDR.out] at hf hd
     obtain ⟨f, rfl⟩ : ∃ f', f = f' + 1 := ⟨f - 1, by simp at hf; omega⟩
     refine ⟨f, by simp at hf ⊢; omega, ?_⟩
     simp only [ptL] at hd
     rw [if_neg (by omega)] at hd
     rw [List.append_assoc]; exact hd
    have L3 : Hid ((done ++ bitsOf x 4).length <= 8 + 8 * (k + 1)) := by show _ <= _; rw [List.length_append, za9]; have := LK.out; omega
    clear FK LK HDR
    go_wp2_with fail
    go_roundw
    case rel => exact ⟨k + 1, _, by omega, by go_num, O3, B3, F3, L3⟩
    case measure => simp [intOf]; omega
   ·have hx0 : x = 0 := by omega
    go_wp2_with fail
    go_loopw [8] (fun m wz => ∃ j : Nat, 1 <= j /\ j <= 16 /\ m = .int .i64 j /\ Hid (∀ i, i < j -> ls.getD (k + i) 0 = 0) /\ wz = w3) (fun m _ => 16 - (intOf m).toNat)
    case atStart => exact ⟨1, by omega, by omega, rfl, fun i hi => by have : i = 0 := by omega
                                                                      subst this; rw [Nat.add_zero, hx.out]; exact hx0, rfl⟩
    case round =>
     obtain ⟨j, hj1, hj16, rfl, HJ, rfl⟩ := hrel
     have hkn : k + j < n := by
      by_cases e : k + j < n
      ·exact e
      ·exfalso
       apply HLAST.out
       have := HJ.out (n - 1 - k) (by omega)
       rw [show k + (n - 1 - k) = n - 1 by omega] at this
       exact this
     obtain ⟨q, hq⟩ : ∃ q, k + j = q := ⟨_, rfl⟩
     have cq := C3.out q (by omega)
     obtain ⟨y, hy⟩ : ∃ y, Hid (ls.getD q 0 = y) := ⟨_, rfl⟩
     rw [hy.out] at cq
     have hqI : (k : Int) + (j : Int) = (q : Int) := by omega
     have hqn : (q : Int) < (n : Int) := by omega
     have hwq : IntKind.i64.wrap ((k : Int) + (j : Int)) = (q : Int) := by rw [hqI, IntKind.wrap_i64]; omega
     by_cases hj : j < 16
     ·have hjI : (j : Int) < 16 := by omega
      by_cases hy0 : y = 0
      ·have HJ2 : Hid (∀ i, i < j + 1 -> ls.getD (k + i) 0 = 0) := fun i hi => by
        by_cases e : i < j
        ·exact HJ.out i e
        ·have : i = j := by omega
         subst this
         rw [hq, hy.out]; exact hy0
       subst hy0
       clear HJ hq
       go_wp2_with fail
       go_roundw
       case rel => exact ⟨j + 1, by omega, by omega, by go_num, HJ2, by first | trivial | rfl⟩
       case measure => simp [intOf]; omega
      ·have HZ : Hid (zc 16 (ls.drop k) = j) := by
        show _ = _
        refine zc_eq 16 (ls.drop k) j (by omega) (by rw [List.length_drop]; have := HN.out; omega) (fun i hi => ?_) (fun h => hy0 ?_)
        ·rw [List.getD_eq_getElem?_getD, List.getElem?_drop, <- List.getD_eq_getElem?_getD]; exact HJ.out i hi
        ·have := h.2.2
         rw [List.getD_eq_getElem?_getD, List.getElem?_drop, <- List.getD_eq_getElem?_getD, hq, hy.out] at this
         exact this
       have hyb : (y == 0) = false := by rw [beq_eq_false_iff_ne]; exact hy0
       have L3 : Hid ((done ++ bitsOf x 4).length <= 100000) := by show _ <= _; rw [List.length_append, za9]; have := LK.out; omega
       go_wp2_with fail
       refine (zcu9 _ (done ++ bitsOf x 4) 4 ((j : Int) - 1) _ O3.out.rd (by have := L3.out; omega) (by omega) (by omega) (by omega)).mono ?_
       rintro e w4 ⟨v4, rfl, ho4, hg4⟩
       have O4 : Hid (Owns .i64 3 w4 v4 ((done ++ bitsOf x 4) ++ bitsOf ((j : Int) - 1) 4)) := ho4
       have B4 : Hid (Below w1.heap.size w1 w4) := B3.out.trans (hg4.below.1.mono B3.out.size)
       have F4 : Hid (∃ f, (ls.drop (k + j)).length <= f /\ ((done ++ bitsOf x 4) ++ bitsOf ((j : Int) - 1) 4) ++ ptL f (ls.drop (k + j)) = ptBits ls) := by
        obtain ⟨f, hf, hd⟩ := FK.out
        have hz := HZ.out
        have hdd : (ls.drop k).drop j = ls.drop (k + j) := by rw [List.drop_drop]
        rw [HDR.out] at hf hd hz hdd
        obtain ⟨f, rfl⟩ : ∃ f', f = f' + 1 := ⟨f - 1, by simp at hf; omega⟩
        refine ⟨f, by have := congrArg List.length hdd; simp only [List.length_drop, List.length_cons] at this hf ⊢; omega, ?_⟩
        simp only [ptL] at hd
        rw [if_pos hx0, hz, hdd] at hd
        rw [hx0, <- hd]
        simp only [List.append_assoc]
       have L4 : Hid (((done ++ bitsOf x 4) ++ bitsOf ((j : Int) - 1) 4).length <= 8 + 8 * (k + j)) := by show _ <= _; rw [List.length_append, List.length_append, za9, za9]; have := LK.out; omega
       clear ho4 hg4 O3 B3 FK LK HDR HZ
       go_wp2_with fail
       go_roundw
       case rel => exact ⟨k + j, _, by omega, by go_num, O4, B4, F4, L4⟩
       case measure => simp [intOf]; omega
     ·have hjI : ¬ (j : Int) < 16 := by omega
      have HZ : Hid (zc 16 (ls.drop k) = j) := by
       show _ = _
       refine zc_eq 16 (ls.drop k) j (by omega) (by rw [List.length_drop]; have := HN.out; omega) (fun i hi => ?_) (fun h => by omega)
       rw [List.getD_eq_getElem?_getD, List.getElem?_drop, <- List.getD_eq_getElem?_getD]; exact HJ.out i hi
      have L3 : Hid ((done ++ bitsOf x 4).length <= 100000) := by show _ <= _; rw [List.length_append, za9]; have := LK.out; omega
      go_wp2_with fail
      refine (zcu9 _ (done ++ bitsOf x 4) 4 ((j : Int) - 1) _ O3.out.rd (by have := L3.out; omega) (by omega) (by omega) (by omega)).mono ?_
      rintro e w4 ⟨v4, rfl, ho4, hg4⟩
      have O4 : Hid (Owns .i64 3 w4 v4 ((done ++ bitsOf x 4) ++ bitsOf ((j : Int) - 1) 4)) := ho4
      have B4 : Hid (Below w1.heap.size w1 w4) := B3.out.trans (hg4.below.1.mono B3.out.size)
      have F4 : Hid (∃ f, (ls.drop (k + j)).length <= f /\ ((done ++ bitsOf x 4) ++ bitsOf ((j : Int) - 1) 4) ++ ptL f (ls.drop (k + j)) = ptBits ls) := by
       obtain ⟨f, hf, hd⟩ := FK.out
       have hz := HZ.out
       have hdd : (ls.drop k).drop j = ls.drop (k + j) := by rw [List.drop_drop]
       rw [HDR.out] at hf hd hz hdd
       obtain ⟨f, rfl⟩ : ∃ f', f = f' + 1 := ⟨f - 1, by simp at hf; omega⟩
       refine ⟨f, by have := congrArg List.length hdd; simp only [List.length_drop, List.length_cons] at this hf ⊢; omega, ?_⟩
       simp only [ptL] at hd
       rw [if_pos hx0, hz, hdd] at hd
       rw [hx0, <- hd]
       simp only [List.append_assoc]
      have L4 : Hid (((done ++ bitsOf x 4) ++ bitsOf ((j : Int) - 1) 4).length <= 8 + 8 * (k + j)) := by show _ <= _; rw [List.length_append, List.length_append, za9, za9]; have := LK.out; omega
      clear ho4 hg4 O3 B3 FK LK HDR HZ
      go_wp2_with fail
      go_roundw
      case rel => exact ⟨k + j, _, by omega, by go_num, O4, B4, F4, L4⟩
      case measure => simp [intOf]; omega
  ·obtain rfl : k = n := by omega
   have HD : Hid (done = ptBits ls) := by
    obtain ⟨f, _, hd⟩ := FK.out
    rw [List.drop_of_length_le (by have := HN.out; omega), zuk9, List.append_nil] at hd
    exact hd
   have HBT : Hid (Bits (ptBits ls)) := Bits.append (zan9 _ _) (zki9 _ _)
   have HDL : Hid ((ptBits ls).length <= 1099511627776) := by have := zcz9 ls; have := HN.out; show _ <= _; omega
   rw [HD.out] at OK
   go_wp2_with fail
   refine (zlf9 _ (ptBits ls) wr OK.out.rd HBT.out HDL.out).mono ?_
   rintro e w5 ⟨v5, rfl, ho5, hg5⟩
   have O5 : Hid (Owns .u8 5 w5 v5 (pack (ptBits ls))) := ho5
   have B5 : Hid (Below w1.heap.size w1 w5) := BK.out.trans (hg5.below.1.mono BK.out.size)
   have N5 : Hid (∀ k, v5.ownBlock = some k -> w1.heap.size <= k) := fun k hk => Nat.le_trans BK.out.size (hg5.below.2 k hk)
   clear ho5 hg5 BK OK
   go_wp2_with fail
   go_ret2
   exact ⟨v5, rfl, O5.out, B5.out, N5.out⟩
end Go.Proofs.YtobenjkacpipeaaGreat
