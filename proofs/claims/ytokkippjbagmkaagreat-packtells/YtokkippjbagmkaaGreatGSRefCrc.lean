import Derived.Test.YtokkippjbagmkaaGreatGSPl
import Derived.Test.YtokkippjbagmkaaGreatGPkBody
import Derived.Test.YtokkippjbagmkaaGreatGPkSnk
import Derived.Test.YtokkippjbagmkaaGreatGPkPk3
import Derived.Test.YtokkippjbagmkaaGreatGRefPutNum
import Derived.Test.YtokkippjbagmkaaGreatGMem
import Derived.Test.YtokkippjbagmkaaGreatGPkLv
import Derived.Test.YtokkippjbagmkaaGreatGSame
set_option maxRecDepth 100000
/-
  The document's check sum.
-/
namespace Go.Proofs.YtokkippjbagmkaaGreat
open Go.RowKit Pl
set_option linter.unusedVariables false

theorem i64_xor (a b : Nat) (ha : a < 4294967296) (hb : b < 4294967296) : Go.bits .xor .i64 (a : Int) (b : Int) = ((a ^^^ b : Nat) : Int) := by
  have hx : a ^^^ b < 4294967296 := Nat.xor_lt_two_pow (n := 32) ha hb
  show IntKind.i64.wrap ((BitVec.ofInt 64 (a : Int) ^^^ BitVec.ofInt 64 (b : Int)).toNat : Int) = _
  rw [BitVec.toNat_xor, ofInt_u64 a (by omega), ofInt_u64 b (by omega), IntKind.wrap_i64]
  omega
theorem i64_and (a b : Nat) (ha : a < 4294967296) (hb : b < 4294967296) : Go.bits .and .i64 (a : Int) (b : Int) = ((a &&& b : Nat) : Int) := by
  have hx : a &&& b < 4294967296 := Nat.and_lt_two_pow (n := 32) a hb
  show IntKind.i64.wrap ((BitVec.ofInt 64 (a : Int) &&& BitVec.ofInt 64 (b : Int)).toNat : Int) = _
  rw [BitVec.toNat_and, ofInt_u64 a (by omega), ofInt_u64 b (by omega), IntKind.wrap_i64]
  omega

set_option maxRecDepth 100000 in
set_option maxHeartbeats 1000000 in
theorem xor_any (a b : Nat) (w : World) (ha : a < 4294967296) (hb : b < 4294967296) :
    Calls Tryz.prog 72 #[.int .i64 a, .int .i64 b] w fun e w' => e = .returned (.int .i64 ((a ^^^ b : Nat) : Int)) ∧ w' = w := by
  have hx := i64_xor a b ha hb
  generalize a ^^^ b = x at *
  go_enter Tryz.func72, Tryz.ntmps72
  go_wp2
  go_ret
  exact ⟨rfl, rfl⟩

set_option maxRecDepth 100000 in
set_option maxHeartbeats 2000000 in
theorem refCrc_any (v : Value) (xs : List Int) (w : World) (hr : Rd .u8 w v xs) (hb : By xs) :
    Calls Tryz.prog 39 #[v] w fun e w' => e = .returned (.int .i64 (crc xs : Int)) ∧ Below w.heap.size w w' := by
  obtain ⟨a, cap, rfl, hlc, hcm, _, hcc⟩ := hr
  have HC : Hid (xs = [] ∨ ∃ b o, a = some ⟨b, o, none⟩ ∧ ∀ i, i < xs.length → w.cell? ⟨b, o + i, none⟩ = some (.int .u8 (xs.getD i 0))) := hcc
  have HB : Hid (By xs) := hb
  have hm : xs.length ≤ 9223372036854775807 := by unfold maxLen at hcm; omega
  clear hcc hb hcm
  obtain ⟨R, hR⟩ : ∃ R, Hid (crc xs = R) := ⟨_, rfl⟩
  rw [hR.out]
  go_enter Tryz.func39, Tryz.ntmps39
  go_wp2_with fail
  go_loopw [3, 4] (fun x i wr => ∃ (k X : Nat), k ≤ xs.length ∧ i = .int .i64 k ∧ x = .int .i64 X ∧ X < 4294967296 ∧ Hid (cR xs k = X) ∧ Hid (Below w.heap.size w wr)) (fun _ i _ => xs.length - (intOf i).toNat)
  case atStart => exact ⟨0, 4294967295, Nat.zero_le _, rfl, rfl, by decide, rfl, Below.refl _ _⟩
  case round =>
    obtain ⟨k, X, hk, rfl, rfl, hX, HX, B⟩ := hrel
    by_cases hlt : k < xs.length
    · obtain ⟨ab, ao, ha, hc⟩ : ∃ b o, a = some ⟨b, o, none⟩ ∧ ∀ i, i < xs.length → w.cell? ⟨b, o + i, none⟩ = some (.int .u8 (xs.getD i 0)) := by
        rcases HC.out with rfl | h
        · simp at hlt
        · exact h
      subst ha
      obtain ⟨b, hb⟩ : ∃ b : Nat, Hid (xs.getD k 0 = (b : Int) ∧ b < 256) := by
        have := HB.out k
        exact ⟨(xs.getD k 0).toNat, by omega, by omega⟩
      have hb1 := hb.out.2
      have cx : wr.cell? ⟨ab, ao + k, none⟩ = some (.int .u8 (b : Int)) := by
        have h0 := hc k hlt
        rw [B.out.cell (p := ⟨ab, ao + k, none⟩) (World.block_lt_of_cell? w ⟨ab, ao + k, none⟩ h0), h0, hb.out.1]
      have hx2 : X ^^^ b < 4294967296 := Nat.xor_lt_two_pow (n := 32) hX (by omega)
      have HX1 : ∀ W, Calls Tryz.prog 72 #[.int .i64 X, .int .i64 b] W fun e w' => e = .returned (.int .i64 ((X ^^^ b : Nat) : Int)) ∧ w' = W := fun W => xor_any X b W hX (by omega)
      have HN : Hid (cR xs (k + 1) = c8 8 (X ^^^ b)) := by show _ = _; simp only [cR]; rw [HX.out, hb.out.1]; rfl
      obtain ⟨Y, hY⟩ : ∃ Y, X ^^^ b = Y := ⟨_, rfl⟩
      rw [hY] at hx2 HN
      rw [hY] at HX1
      clear hc HX hY
      go_wp2_with (go_at_call 72; refine (HX1 _).mono ?_; rintro _ _ ⟨rfl, rfl⟩)
      clear HX1 cx
      go_loopw [3, 5] (fun x i wr => ∃ (j X : Nat), j ≤ 8 ∧ i = .int .i64 j ∧ x = .int .i64 X ∧ X < 4294967296 ∧ Hid (c8 j Y = X) ∧ Hid (Below w.heap.size w wr)) (fun _ i _ => 8 - (intOf i).toNat)
      case atStart => exact ⟨0, Y, Nat.zero_le _, rfl, rfl, hx2, rfl, by first | exact B | exact B.out.drew⟩
      case round =>
        clear B
        obtain ⟨j, Z, hj, rfl, rfl, hZ, HZ, B⟩ := hrel
        by_cases hjl : j < 8
        · have hs2 := c1_lt hZ
          have HZ2 : Hid (c8 (j + 1) Y = c1 Z) := by show _ = _; simp only [c8]; rw [HZ.out]
          obtain ⟨H, hH⟩ : ∃ H, Z / 2 = H := ⟨_, rfl⟩
          have hh : (Z : Int) / 2 = (H : Int) := by omega
          by_cases ho : Z % 2 = 1
          · have hm2 : (Z : Int) % 2 = 1 := by omega
            have e1 : c1 Z = H ^^^ 2197175160 := by unfold c1; rw [if_pos ho, hH]
            have HX2 : ∀ W, Calls Tryz.prog 72 #[.int .i64 H, .int .i64 2197175160] W fun e w' => e = .returned (.int .i64 ((H ^^^ 2197175160 : Nat) : Int)) ∧ w' = W := fun W => xor_any H 2197175160 W (by omega) (by decide)
            rw [e1] at hs2 HZ2
            obtain ⟨V, hV⟩ : ∃ V, H ^^^ 2197175160 = V := ⟨_, rfl⟩
            rw [hV] at hs2 HZ2
            rw [hV] at HX2
            clear HZ e1 hV hH ho
            go_wp2_with (go_at_call 72; refine (HX2 _).mono ?_; rintro _ _ ⟨rfl, rfl⟩)
            go_roundw
            case rel => exact ⟨j + 1, V, by omega, by go_num, rfl, hs2, HZ2, B⟩
            case measure => simp [intOf]; omega
          · have hm2 : (Z : Int) % 2 = 0 := by omega
            have e1 : c1 Z = H := by unfold c1; rw [if_neg ho, hH]
            rw [e1] at hs2 HZ2
            clear HZ e1 hH ho
            go_wp2_with fail
            go_roundw
            case rel => exact ⟨j + 1, H, by omega, by go_num, rfl, hs2, HZ2, B⟩
            case measure => simp [intOf]; omega
        · obtain rfl : j = 8 := by omega
          rw [HZ.out] at HN
          go_wp2_with fail
          go_roundw
          case rel => exact ⟨k + 1, Z, by omega, by go_num, rfl, hZ, HN, B⟩
          case measure => simp [intOf]; omega
    · obtain rfl : k = xs.length := by omega
      have he : R = 4294967295 - X := by rw [← hR.out]; unfold crc; rw [HX.out]
      have he2 : (4294967295 : Int) - (X : Int) = (R : Int) := by omega
      clear he
      go_wp2_with fail
      go_ret
      exact ⟨rfl, B.out⟩
end Go.Proofs.YtokkippjbagmkaaGreat

/-
  Bytes: of a short number, of one, of a sum.
-/
namespace Go.Proofs.YtokkippjbagmkaaGreat
open Go.RowKit Pl
set_option linter.unusedVariables false

theorem by_memP {xs : List Int} (h : ∀ x ∈ xs, 0 ≤ x ∧ x ≤ 255) : By xs := by
  intro i
  rw [List.getD_eq_getElem?_getD]
  cases e : xs[i]? with
  | none => simp
  | some n => exact h n (List.mem_of_getElem? e)
theorem by_dig (n : Int) (h0 : 0 ≤ n) (h1 : n ≤ 4294967295) : By (digits n) := by_memP (dig_by 4 n h0 (by have : (128 : Int) ^ (4 + 1) = 34359738368 := by decide
                                                                                                          omega))
theorem by_one {x : Int} (h : 0 ≤ x ∧ x ≤ 255) : By [x] := by_memP (fun y hy => by rw [List.mem_singleton] at hy; subst hy; exact h)
theorem by_sum (c : Nat) : By (sumB c) := by_memP (fun y hy => by
  unfold sumB at hy
  simp only [List.mem_cons, List.not_mem_nil, or_false] at hy
  omega)
end Go.Proofs.YtokkippjbagmkaaGreat

/-
  What is taken is what was put: the pieces that read from the front.
-/
namespace Go.Proofs.YtokkippjbagmkaaGreat
open Go.RowKit Pl
set_option linter.unusedVariables false
set_option maxRecDepth 100000
set_option linter.unusedSimpArgs false

theorem numS_digits (n : Nat) (rest : List Int) (h : n ≤ 4294967295) : numS (some (digits (n : Int) ++ rest)) = ((n : Int), some rest) := by
  unfold numS
  simp only
  rw [num_digits (n : Int) rest (by omega) (by omega)]
  simp

theorem oneS_cons (x : Int) (rest : List Int) : oneS (some (x :: rest)) = (x, some rest) := by
  unfold oneS
  simp

theorem bytesS_app (xs rest : List Int) : bytesS (some (xs ++ rest)) xs.length = (xs, some rest) := by
  unfold bytesS
  simp

theorem sizedS_app (xs rest : List Int) (h : xs.length ≤ 4294967295) : sizedS (some (digits (xs.length : Int) ++ xs ++ rest)) = (xs, some rest) := by
  unfold sizedS
  rw [List.append_assoc, numS_digits _ _ h]
  simp only [Int.toNat_natCast]
  exact bytesS_app xs rest

theorem sumB_length (c : Nat) : (sumB c).length = 4 := rfl

theorem sumS_app (c : Nat) (hc : c ≤ 4294967295) (rest : List Int) : sumS (some (sumB c ++ rest)) = ((c : Int), some rest) := by
  have h : bytesS (some (sumB c ++ rest)) 4 = (sumB c, some rest) := bytesS_app (sumB c) rest
  unfold sumS
  rw [h]
  simp only [Prod.mk.injEq, and_true]
  show leN (sumB c) 4 = _
  simp only [leN, sumB, List.getD_cons_zero, List.getD_cons_succ]
  omega

theorem sumS_short (l : List Int) (h : l.length < 4) : (sumS (some l)).2 = none := by
  unfold sumS bytesS
  simp only
  rw [if_neg (by omega)]

theorem crc_le (ds : List Int) : crc ds ≤ 4294967295 := by unfold crc; omega

/-- A form whose body is read again, with what stands behind. -/
theorem unp_of {m : Int} {n : Nat} {body tail ds : List Int} (hm : m ≤ 2) (hn : n ≤ 65536) (hb : bodyS (some (body ++ tail)) m n = (ds, some tail)) {most : Int} (h0 : 0 ≤ most) (h1 : most ≤ 65536) :
    unpS ([m] ++ digits (n : Int) ++ body ++ tail) most = if most < (n : Int) then (11, []) else if (sumS (some tail)).2.isNone = true ∨ 0 < ((sumS (some tail)).2.getD []).length then (5, []) else if (sumS (some tail)).1 = (crc ds : Int) then (0, ds) else (6, []) := by
  unfold unpS
  rw [if_neg (by omega)]
  have e : [m] ++ digits (n : Int) ++ body ++ tail = m :: (digits (n : Int) ++ (body ++ tail)) := by simp
  rw [e, oneS_cons]
  simp only
  rw [numS_digits n _ (by omega)]
  simp only
  unfold unpT
  rw [if_neg (by simp; omega), Int.toNat_natCast, hb]

theorem unp_whole {m : Int} {n : Nat} {body ds : List Int} (hm : m ≤ 2) (hn : n ≤ 65536) (hb : ∀ tail, bodyS (some (body ++ tail)) m n = (ds, some tail)) {most : Int} (h0 : (n : Int) ≤ most) (h1 : most ≤ 65536) :
    unpS ([m] ++ digits (n : Int) ++ body ++ sumB (crc ds)) most = (0, ds) := by
  rw [unp_of hm hn (hb _) (by omega) h1, if_neg (by omega)]
  have h := sumS_app (crc ds) (crc_le ds) []
  rw [List.append_nil] at h
  rw [h, if_neg (by simp), if_pos rfl]

theorem unp_room {m : Int} {n : Nat} {body ds tail : List Int} (hm : m ≤ 2) (hn : n ≤ 65536) (hb : bodyS (some (body ++ tail)) m n = (ds, some tail)) {most : Int} (h0 : 0 ≤ most) (h1 : most < (n : Int)) :
    unpS ([m] ++ digits (n : Int) ++ body ++ tail) most = (11, []) := by
  rw [unp_of hm hn hb h0 (by omega), if_pos h1]

theorem unp_more {m : Int} {n : Nat} {body ds : List Int} (hm : m ≤ 2) (hn : n ≤ 65536) (hb : ∀ tail, bodyS (some (body ++ tail)) m n = (ds, some tail)) {most : Int} (h0 : (n : Int) ≤ most) (h1 : most ≤ 65536) (x : Int) :
    unpS ([m] ++ digits (n : Int) ++ body ++ (sumB (crc ds) ++ [x])) most = (5, []) := by
  rw [unp_of hm hn (hb _) (by omega) h1, if_neg (by omega), sumS_app (crc ds) (crc_le ds) [x], if_pos (by simp)]

theorem unp_less {m : Int} {n : Nat} {body ds tail : List Int} (hm : m ≤ 2) (hn : n ≤ 65536) (hb : bodyS (some (body ++ tail)) m n = (ds, some tail)) (ht : tail.length < 4) {most : Int} (h0 : (n : Int) ≤ most) (h1 : most ≤ 65536) :
    unpS ([m] ++ digits (n : Int) ++ body ++ tail) most = (5, []) := by
  rw [unp_of hm hn hb (by omega) h1, if_neg (by omega), if_pos (by rw [sumS_short tail ht]; simp)]

/-- The raw form's bytes. -/
theorem raw_body (ds tail : List Int) : bodyS (some (ds ++ tail)) 0 ds.length = (ds, some tail) := by
  unfold bodyS
  rw [if_pos rfl]
  exact bytesS_app ds tail

theorem alike_rep {ds : List Int} (h : alike ds = true) : List.replicate ds.length (ds.getD 0 0) = ds := by
  unfold alike at h
  rw [decide_eq_true_eq] at h
  apply List.ext_getElem?
  intro i
  rw [List.getElem?_replicate]
  split
  · rename_i hi
    have := h.2 i hi
    rw [List.getD_eq_getElem?_getD, List.getElem?_eq_getElem hi] at this
    rw [List.getElem?_eq_getElem hi, ← this]
    rfl
  · rename_i hi
    rw [List.getElem?_eq_none (by omega)]

/-- The run's. -/
theorem run_body {ds : List Int} (h : alike ds = true) (tail : List Int) : bodyS (some ([ds.getD 0 0] ++ tail)) 1 ds.length = (ds, some tail) := by
  have h0 : 0 < ds.length := by unfold alike at h; rw [decide_eq_true_eq] at h; exact h.1
  unfold bodyS
  rw [if_neg (by decide), if_pos rfl]
  have e : askS (some ([ds.getD 0 0] ++ tail)) (decide (0 < (ds.length : Int))) = some (ds.getD 0 0 :: tail) := by
    rw [decide_eq_true (by omega)]; rfl
  rw [e, oneS_cons]
  simp only
  rw [alike_rep h]
end Go.Proofs.YtokkippjbagmkaaGreat

/-
  The document's frame: a mode, a length, a body, the sum.
-/
namespace Go.Proofs.YtokkippjbagmkaaGreat
open Go.RowKit Pl
set_option linter.unusedVariables false
set_option maxRecDepth 100000
set_option linter.unusedSimpArgs false

set_option maxHeartbeats 400000 in
theorem refNum6_any (v : Value) (xs : List Int) (n : Nat) (w : World) (h : Rd .u8 w v xs) (hb : xs.length ≤ 140737488355000) (h1 : n ≤ 4294967295) :
    Calls Tryz.prog 47 #[v, .int .i64 (n : Int)] w fun e w' => ∃ v', e = .returned v' ∧ Owns .u8 5 w' v' (xs ++ digits n) ∧ Below w.heap.size w w' ∧ ∀ k, v'.ownBlock = some k → w.heap.size ≤ k := by
  have HP : Hid (Calls Tryz.prog 15 #[v, .int .i64 (n : Int)] w fun e w' => ∃ v', e = .returned (.tuple #[v', .int .i64 0]) ∧ Owns .u8 5 w' v' (xs ++ digits (n : Int)) ∧ Grew w w' (.slice none 0 0) v') := refPutNum_ok v xs n w h hb (by omega) (by omega)
  clear h
  go_enter Tryz.func47, Tryz.ntmps47
  go_wp2_with fail
  refine HP.out.mono ?_
  clear HP
  rintro e w1 ⟨v1, rfl, ho, hg⟩
  have O1 : Hid (Owns .u8 5 w1 v1 (xs ++ digits (n : Int))) := ho
  have B1 : Hid (Below w.heap.size w w1 ∧ ∀ k, v1.ownBlock = some k → w.heap.size ≤ k) := hg.below
  clear ho hg
  go_wp2_with fail
  go_ret
  exact ⟨v1, rfl, O1.out, B1.out⟩

set_option maxHeartbeats 1000000 in
theorem framed_any (mode : Int) (v bv : Value) (ds bs : List Int) (w : World) (hr : Rd .u8 w v ds) (hb : Rd .u8 w bv bs) (hy : By ds) (h1 : ds.length ≤ 4294967295) (h2 : bs.length ≤ 4294967295) :
    Calls Tryz.prog 24 #[.int .u8 mode, v, bv] w fun e w' => ∃ v', e = .returned v' ∧ Owns .u8 5 w' v' ([mode] ++ digits ds.length ++ bs ++ sumB (crc ds)) ∧ Below w.heap.size w w' ∧ ∀ k, v'.ownBlock = some k → w.heap.size ≤ k := by
  have HR : Hid (Rd .u8 w v ds) := hr
  have HB : Hid (Rd .u8 w bv bs) := hb
  have HY : Hid (By ds) := hy
  obtain ⟨a, cap, rfl, hrest⟩ := hr
  clear hrest hb hy
  have hcl : crc ds ≤ 4294967295 := by unfold crc; omega
  obtain ⟨c, hc⟩ : ∃ c, Hid (crc ds = c) := ⟨_, rfl⟩
  rw [hc.out] at hcl ⊢
  go_enter Tryz.func24, Tryz.ntmps24
  go_wp2_with fail
  have hb0 : Below w.heap.size w (w.alloc (.cells #[.int .u8 mode] 5)) := (Below.refl _ _).alloc (Nat.le_refl _) _
  refine (refNum6_any _ [mode] ds.length _ (own1b w mode).rd (by simp) h1).mono ?_
  rintro e w1 ⟨v1, rfl, ho1, hb1, hf1⟩
  have hd := digits_len (ds.length : Int)
  obtain ⟨xs, hxs⟩ : ∃ xs, Hid ([mode] ++ digits (ds.length : Int) = xs) := ⟨_, rfl⟩
  have hxl : xs.length ≤ 6 := by rw [← hxs.out]; simp; omega
  rw [hxs.out] at ho1
  have O1 : Hid (Owns .u8 5 w1 v1 xs) := ho1
  have B1 : Hid (Below w.heap.size w w1) := hb0.trans (hb1.mono (by simp))
  have N1 : Hid (∀ k, v1.ownBlock = some k → w.heap.size ≤ k) := fun k hk => by have := hf1 k hk; simp at this; omega
  have R1 : Hid (Rd .u8 w1 bv bs) := HB.out.below B1.out
  clear ho1 hb1 hf1 hb0 HB hd
  have HL1 : Hid (xs.length + bs.length ≤ 9223372036854775807) := by show _ ≤ _; omega
  have HL2 : Hid ((xs.length + bs.length) * 1 ≤ 140737488355328) := by show _ ≤ _; omega
  go_wp2_with (at_builtin; refine wpList_many w1 rfl (.tmp 15) (.tmp 16) 22 rfl 5 .u8 1 elem8 v1 xs rfl O1.out bv bs rfl R1.out HL1.out HL2.out ?_)
  intro v2 w2 ho2 hg2
  have O2 : Hid (Owns .u8 5 w2 v2 (xs ++ bs)) := ho2
  have B2 : Hid (Below w.heap.size w w2) := B1.out.trans (hg2.tch.below B1.out.size N1.out)
  have N2 : Hid (∀ k, v2.ownBlock = some k → w.heap.size ≤ k) := fun k hk => by
    rcases hg2.fresh k hk with e | e
    · exact N1.out k e
    · have := B1.out.size; omega
  clear ho2 hg2 O1 B1 N1 R1 HL1 HL2
  go_wp2_with fail
  refine (refCrc_any _ ds w2 (HR.out.below B2.out) HY.out).mono ?_
  rintro e w3 ⟨rfl, hb3⟩
  rw [hc.out]
  have O3 : Hid (Owns .u8 5 w3 v2 (xs ++ bs)) := O2.out.below hb3
  have B3 : Hid (Below w.heap.size w w3) := B2.out.trans (hb3.mono B2.out.size)
  clear hb3 O2 B2 HR HY
  go_wp2_with fail
  go_loopw [7, 9] (fun o i wr => ∃ (k : Nat), k ≤ 4 ∧ i = .int .i64 k ∧ Hid (Owns .u8 5 wr o (xs ++ bs ++ (sumB c).take k)) ∧ Hid (Below w.heap.size w wr) ∧ Hid (∀ k, o.ownBlock = some k → w.heap.size ≤ k)) (fun _ i _ => 4 - (intOf i).toNat)
  case atStart => exact ⟨0, by omega, rfl, by simpa [Hid] using O3.out, B3, N2⟩
  case round =>
    clear O3 B3 N2
    obtain ⟨k, hk, rfl, OK, BK, NK⟩ := hrel
    by_cases hlt : k < 4
    · have hki : (k : Int) < 4 := by omega
      obtain ⟨b, hb⟩ : ∃ b : Nat, Hid (c / 2 ^ (8 * k) % 256 = b) := ⟨_, rfl⟩
      have hsh : (c : Int) / 2 ^ (8 * k) % 256 = (b : Int) := by rw [← hb.out]; push_cast; rfl
      have HTK : Hid ((sumB c).take (k + 1) = (sumB c).take k ++ [(b : Int)]) := by show _ = _; rw [sumB_at c k hlt, hb.out]
      have hlen : (xs ++ bs ++ (sumB c).take k).length ≤ 4294967399 := by rw [List.length_append, List.length_append, List.length_take]; simp [sumB]; omega
      obtain ⟨zs, hzs⟩ : ∃ zs, Hid (xs ++ bs ++ (sumB c).take k = zs) := ⟨_, rfl⟩
      rw [hzs.out] at hlen OK
      have HK1 : Hid (zs.length + 1 ≤ 9223372036854775807) := by show _ ≤ _; omega
      have HK2 : Hid ((zs.length + 1) * 1 ≤ 140737488355328) := by show _ ≤ _; omega
      have hmul : IntKind.i64.wrap (8 * (k : Int)) = 8 * (k : Int) := wraps_i64 _ (by omega) (by omega)
      have hk0 : (0 : Int) ≤ 8 * (k : Int) := by omega
      have hsh2 : IntKind.u8.wrap ((c : Int) / 2 ^ (8 * (k : Int)).toNat) = (b : Int) := by
        rw [show (8 * (k : Int)).toNat = 8 * k by omega, IntKind.wrap_u8']
        exact hsh
      go_wp2_with (at_builtin; refine wpList_push _ rfl (.tmp 24) (.tmp 30) 22 rfl 5 .u8 1 elem8 _ zs rfl OK.out _ rfl HK1.out HK2.out ?_)
      intro v5 w5 ho5 hg5
      have O5 : Hid (Owns .u8 5 w5 v5 (xs ++ bs ++ (sumB c).take (k + 1))) := by show Owns _ _ _ _ _; rw [HTK.out, ← List.append_assoc, hzs.out]; exact ho5
      have B5 : Hid (Below w.heap.size w w5) := BK.out.trans (hg5.tch.below BK.out.size NK.out)
      have N5 : Hid (∀ k, v5.ownBlock = some k → w.heap.size ≤ k) := fun k hk => by
        rcases hg5.fresh k hk with e | e
        · exact NK.out k e
        · have := BK.out.size; omega
      clear ho5 hg5 OK BK NK
      go_wp2_with fail
      go_roundw
      case rel => exact ⟨k + 1, by omega, by go_num, O5, B5, N5⟩
      case measure => simp [intOf]; omega
    · obtain rfl : k = 4 := by omega
      have O5 : Hid (Owns .u8 5 wr u7 ([mode] ++ digits (ds.length : Int) ++ bs ++ sumB c)) := by rw [hxs.out]; exact OK.out
      go_wp2_with fail
      go_ret
      exact ⟨u7, rfl, by have := O5.out; simpa using this, BK.out, NK.out⟩
end Go.Proofs.YtokkippjbagmkaaGreat

/-
  A change within 32 bits side by side is told, plainly (for the packed forms).
-/
namespace Go.Proofs.YtokkippjbagmkaaGreat
open Go.RowKit Pl
set_option linter.unusedVariables false

/-- A byte. -/
def bN (xs : List Int) (j : Nat) : Nat := (xs.getD j 0).toNat
theorem bN_lt {xs : List Int} (h : By xs) (j : Nat) : bN xs j < 256 := by have := h j; unfold bN; omega
theorem bN_eq {xs : List Int} (h : By xs) (j : Nat) : xs.getD j 0 = (bN xs j : Int) := by have := h j; unfold bN; omega

theorem xor0 {a b : Nat} : a ^^^ b = 0 ↔ a = b := by
  constructor
  · intro h
    have : a ^^^ b ^^^ b = b := by rw [h, Nat.zero_xor]
    rw [Nat.xor_assoc, Nat.xor_self, Nat.xor_zero] at this
    exact this
  · rintro rfl
    exact Nat.xor_self a
theorem c1_xor (a b : Nat) : c1 (a ^^^ b) = c1 a ^^^ c1 b := by
  have hd : (a ^^^ b) / 2 = a / 2 ^^^ b / 2 := by
    have := Nat.xor_div_two_pow (a := a) (b := b) (n := 1)
    simpa using this
  have hm := Nat.xor_mod_two_eq_one (a := a) (b := b)
  unfold c1
  rw [hd]
  by_cases ha : a % 2 = 1
  · by_cases hb : b % 2 = 1
    · rw [if_neg (by rw [hm]; simp [ha, hb]), if_pos ha, if_pos hb]
      rw [Nat.xor_assoc, ← Nat.xor_assoc 2197175160, Nat.xor_comm 2197175160 (b / 2), Nat.xor_assoc (b / 2), Nat.xor_self, Nat.xor_zero]
    · rw [if_pos (by rw [hm]; simp [ha, hb]), if_pos ha, if_neg hb]
      rw [Nat.xor_assoc, Nat.xor_comm (b / 2), ← Nat.xor_assoc]
  · by_cases hb : b % 2 = 1
    · rw [if_pos (by rw [hm]; simp [ha, hb]), if_neg ha, if_pos hb, Nat.xor_assoc]
    · rw [if_neg (by rw [hm]; simp [ha, hb]), if_neg ha, if_neg hb]
theorem c1_zero {x : Nat} (h : x < 4294967296) (h0 : c1 x = 0) : x = 0 := by
  unfold c1 at h0
  split at h0
  · have := xor0.1 h0
    omega
  · omega
theorem c8_xor (k a b : Nat) : c8 k (a ^^^ b) = c8 k a ^^^ c8 k b := by
  induction k with
  | zero => rfl
  | succ k ih => simp only [c8]; rw [ih, c1_xor]
theorem c8_zero (k : Nat) : c8 k 0 = 0 := by
  induction k with
  | zero => rfl
  | succ k ih => simp only [c8]; rw [ih]; rfl
theorem c8_inj {x : Nat} (h : x < 4294967296) (k : Nat) (h0 : c8 k x = 0) : x = 0 := by
  induction k with
  | zero => exact h0
  | succ k ih => exact ih (c1_zero (c8_lt h k) h0)
theorem c8_pow (m y : Nat) : c8 m (2 ^ m * y) = y := by
  induction m generalizing y with
  | zero => simp [c8]
  | succ m ih =>
    simp only [c8]
    rw [Nat.pow_succ, Nat.mul_assoc, ih]
    unfold c1
    rw [if_neg (by omega)]
    omega
theorem c8_add (k m x : Nat) : c8 (m + k) x = c8 k (c8 m x) := by
  induction k with
  | zero => rfl
  | succ k ih => show c1 (c8 (m + k) x) = c1 (c8 k (c8 m x)); rw [ih]

/-- How the difference of two sums goes on, bit by bit. -/
def eR (d : Nat → Bool) : Nat → Nat
  | 0 => 0
  | n + 1 => c1 (eR d n ^^^ (if d n then 1 else 0))
/-- Bits from a on as a number. -/
def vR (d : Nat → Bool) (a : Nat) : Nat → Nat
  | 0 => 0
  | m + 1 => vR d a m ^^^ (if d (a + m) then 2 ^ m else 0)

theorem vR_bit (d : Nat → Bool) (a m i : Nat) : (vR d a m).testBit i = (decide (i < m) && d (a + i)) := by
  induction m with
  | zero => simp [vR]
  | succ m ih =>
    simp only [vR]
    rw [Nat.testBit_xor, ih]
    by_cases hd : d (a + m)
    · rw [if_pos hd, Nat.testBit_two_pow]
      by_cases e : m = i
      · subst e; simp [hd]
      · have h1 : (i < m + 1) = (i < m) := by apply propext; omega
        simp [e, h1]
    · rw [if_neg hd]
      by_cases e : m = i
      · subst e; simp at hd; simp [hd]
      · have h1 : (i < m + 1) = (i < m) := by apply propext; omega
        simp [h1]
theorem vR_lt (d : Nat → Bool) (a m : Nat) : vR d a m < 2 ^ m := by
  refine Nat.lt_pow_two_of_testBit _ (fun i hi => ?_)
  rw [vR_bit]
  simp
  omega
theorem vR_eq (d : Nat → Bool) (a m e : Nat) (he : e < 2 ^ m) (h : ∀ i, i < m → d (a + i) = e.testBit i) : vR d a m = e := by
  apply Nat.eq_of_testBit_eq
  intro i
  rw [vR_bit]
  by_cases hi : i < m
  · simp [hi, h i hi]
  · rw [Nat.testBit_lt_two_pow (Nat.lt_of_lt_of_le he (Nat.pow_le_pow_right (by decide) (by omega)))]
    simp [hi]
theorem vR_zero (d : Nat → Bool) (a m : Nat) (h : ∀ i, i < m → d (a + i) = false) : vR d a m = 0 :=
  vR_eq d a m 0 (Nat.pow_pos (by decide)) (fun i hi => by rw [h i hi]; simp)
theorem eR_run (d : Nat → Bool) (a m : Nat) : eR d (a + m) = c8 m (eR d a ^^^ vR d a m) := by
  induction m with
  | zero => simp [c8, vR]
  | succ m ih =>
    show c1 (eR d (a + m) ^^^ (if d (a + m) then 1 else 0)) = c1 (c8 m (eR d a ^^^ (vR d a m ^^^ (if d (a + m) then 2 ^ m else 0))))
    rw [ih, ← Nat.xor_assoc, c8_xor m (eR d a ^^^ vR d a m)]
    congr 2
    split
    · have := c8_pow m 1
      rw [Nat.mul_one] at this
      exact this.symm
    · exact (c8_zero m).symm

/-- Two rows' sums: the difference. -/
theorem cR_diff (xs ys : List Int) (d : Nat → Bool) (hx : By xs) (hy : By ys) (n : Nat) (h : ∀ j i, j < n → i < 8 → d (8 * j + i) = (bN xs j ^^^ bN ys j).testBit i) : ∀ k, k ≤ n → cR xs k ^^^ cR ys k = eR d (8 * k)
  | 0, _ => by simp [cR, eR]
  | k + 1, hk => by
    have ih := cR_diff xs ys d hx hy n h k (by omega)
    have he : bN xs k ^^^ bN ys k < 2 ^ 8 := Nat.xor_lt_two_pow (bN_lt hx k) (bN_lt hy k)
    show c8 8 (cR xs k ^^^ bN xs k) ^^^ c8 8 (cR ys k ^^^ bN ys k) = eR d (8 * k + 8)
    rw [eR_run, vR_eq d (8 * k) 8 _ he (fun i hi => h k i (by omega) hi), ← ih, ← c8_xor]
    congr 1
    rw [Nat.xor_assoc, ← Nat.xor_assoc (bN xs k), Nat.xor_comm (bN xs k), Nat.xor_assoc (cR ys k), ← Nat.xor_assoc (cR xs k)]

/-- The bits that are turned: n bits of the mask from A on. -/
def dd (A mask N n p : Nat) : Bool := decide (A ≤ p ∧ p < A + n ∧ p < N) && mask.testBit (p - A)

theorem dd_out (A mask N n p : Nat) (h : p < A ∨ A + n ≤ p ∨ N ≤ p) : dd A mask N n p = false := by
  unfold dd
  have : ¬ (A ≤ p ∧ p < A + n ∧ p < N) := by omega
  simp [this]

theorem eR_burst (A mask L : Nat) (hA : A ≤ 8 * L) : eR (dd A mask (8 * L) 32) (8 * L) = 0 ↔ ∀ p, dd A mask (8 * L) 32 p = false := by
  obtain ⟨d, hd⟩ : ∃ d, dd A mask (8 * L) 32 = d := ⟨_, rfl⟩
  have ho := fun p h => dd_out A mask (8 * L) 32 p h
  rw [hd] at ho ⊢
  obtain ⟨m, hm1, hm2, hm3⟩ : ∃ m, m ≤ 32 ∧ A + m ≤ 8 * L ∧ (A + m = 8 * L ∨ m = 32) := by
    by_cases c : A + 32 ≤ 8 * L
    · exact ⟨32, Nat.le_refl _, c, .inr rfl⟩
    · exact ⟨8 * L - A, by omega, by omega, .inl (by omega)⟩
  have e1 : eR d A = 0 := by
    have := eR_run d 0 A
    rw [Nat.zero_add, vR_zero d 0 A (fun i hi => ho _ (.inl (by omega)))] at this
    rw [this, show eR d 0 = 0 from rfl, Nat.xor_zero]
    exact c8_zero A
  have e2 : eR d (A + m) = c8 m (vR d A m) := by rw [eR_run, e1, Nat.zero_xor]
  obtain ⟨r, hr⟩ : ∃ r, 8 * L = A + m + r := ⟨8 * L - (A + m), by omega⟩
  have e3 : eR d (8 * L) = c8 (m + r) (vR d A m) := by
    rw [hr, eR_run d (A + m) r, vR_zero d (A + m) r (fun i hi => ho _ (by omega)), Nat.xor_zero, e2, ← c8_add]
  have hv : vR d A m < 4294967296 := Nat.lt_of_lt_of_le (vR_lt d A m) (Nat.pow_le_pow_right (n := 2) (by decide) hm1)
  rw [e3]
  constructor
  · intro h p
    have hz := c8_inj hv _ h
    by_cases hp : A ≤ p ∧ p < A + m
    · have hb := vR_bit d A m (p - A)
      rw [hz, show A + (p - A) = p by omega] at hb
      have hlt : p - A < m := by omega
      simpa [hlt] using hb.symm
    · exact ho p (by omega)
  · intro h
    rw [vR_zero d A m (fun i _ => h _)]
    exact c8_zero _

/-- What a burst does to the sum. -/
theorem burst_told (xs ys : List Int) (A mask : Nat) (hx : By xs) (hy : By ys) (hl : ys.length = xs.length) (hA : A ≤ 8 * xs.length)
    (h : ∀ j i, j < xs.length → i < 8 → (bN ys j).testBit i = ((bN xs j).testBit i ^^ dd A mask (8 * xs.length) 32 (8 * j + i))) :
    crc ys ≠ crc xs ↔ ∃ p, dd A mask (8 * xs.length) 32 p = true := by
  have h1 := cR_diff xs ys (dd A mask (8 * xs.length) 32) hx hy xs.length (fun j i hj hi => by
    rw [Nat.testBit_xor, h j i hj hi]
    cases (bN xs j).testBit i <;> simp) xs.length (Nat.le_refl _)
  have h2 := eR_burst A mask xs.length hA
  rw [← h1] at h2
  have l1 := cR_lt hx xs.length
  have l2 := cR_lt hy xs.length
  unfold crc
  rw [hl]
  rw [xor0] at h2
  constructor
  · intro hne
    apply Classical.byContradiction
    intro hno
    have : cR xs xs.length = cR ys xs.length := h2.2 (fun p => by
      cases hp : dd A mask (8 * xs.length) 32 p with
      | false => rfl
      | true => exact absurd ⟨p, hp⟩ hno)
    omega
  · rintro ⟨p, hp⟩ he
    have := h2.1 (by omega) p
    rw [this] at hp
    cases hp

/-- Behind n bits. -/
structure Bs (ys zs : List Int) (A mask L n : Nat) (ch : Bool) : Prop where
  len : zs.length = L
  by_ : By zs
  bits : ∀ j i, j < L → i < 8 → (bN zs j).testBit i = ((bN ys j).testBit i ^^ dd A mask (8 * L) n (8 * j + i))
  told : ch = true ↔ ∃ p, dd A mask (8 * L) n p = true

theorem Bs.start {ys : List Int} (A mask L : Nat) (hl : ys.length = L) (hb : By ys) : Bs ys ys A mask L 0 false := by
  refine ⟨hl, hb, fun j i _ _ => ?_, ?_⟩
  · rw [dd_out _ _ _ _ _ (by omega)]; simp
  · constructor
    · intro h; cases h
    · rintro ⟨p, hp⟩
      rw [dd_out _ _ _ _ _ (by omega)] at hp
      cases hp

theorem dd_step (A mask N n p : Nat) : dd A mask N (n + 1) p = (dd A mask N n p ^^ (decide (p = A + n ∧ A + n < N) && mask.testBit n)) := by
  unfold dd
  by_cases e : p = A + n
  · subst e
    rw [show A + n - A = n by omega]
    by_cases c : A + n < N
    · simp [c]
    · simp [c]
  · have h1 : (A ≤ p ∧ p < A + (n + 1) ∧ p < N) ↔ (A ≤ p ∧ p < A + n ∧ p < N) := by omega
    simp [h1, e]

/-- No bit is turned. -/
theorem Bs.skip {ys zs : List Int} {A mask L n : Nat} {ch : Bool} (h : Bs ys zs A mask L n ch) (hn : ¬ (mask.testBit n = true ∧ A + n < 8 * L)) : Bs ys zs A mask L (n + 1) ch := by
  have e : ∀ p, dd A mask (8 * L) (n + 1) p = dd A mask (8 * L) n p := fun p => by
    rw [dd_step]
    have : (decide (p = A + n ∧ A + n < 8 * L) && mask.testBit n) = false := by
      rw [Bool.and_eq_false_iff]
      by_cases c : mask.testBit n = true
      · left
        have hh : ¬ A + n < 8 * L := fun h => hn ⟨c, h⟩
        have : ¬ (p = A + n ∧ A + n < 8 * L) := fun h => hh h.2
        simp [this]
      · right; simpa using c
    rw [this]; simp
  refine ⟨h.len, h.by_, fun j i hj hi => ?_, ?_⟩
  · rw [e]; exact h.bits j i hj hi
  · rw [h.told]; simp only [e]

theorem bN_set (zs : List Int) (q y j : Nat) (hq : q < zs.length) : bN (zs.set q (y : Int)) j = if j = q then y else bN zs j := by
  unfold bN
  rw [List.getD_eq_getElem?_getD, List.getD_eq_getElem?_getD, List.getElem?_set]
  by_cases e : q = j
  · subst e; simp [hq]
  · rw [if_neg e, if_neg (fun h => e h.symm)]

/-- One bit is turned. -/
theorem Bs.flip {ys zs : List Int} {A mask L n : Nat} {ch : Bool} (h : Bs ys zs A mask L n ch) (hm : mask.testBit n = true) (hn : A + n < 8 * L) (q r : Nat) (hq : (A + n) / 8 = q) (hr : (A + n) % 8 = r) :
    Bs ys (zs.set q ((bN zs q ^^^ 2 ^ r : Nat) : Int)) A mask L (n + 1) true := by
  have hql : q < L := by omega
  have hr8 : r < 8 := by omega
  have hp : 2 ^ r < 2 ^ 8 := Nat.pow_lt_pow_right (by decide) hr8
  have hlt : bN zs q ^^^ 2 ^ r < 2 ^ 8 := Nat.xor_lt_two_pow (bN_lt h.by_ q) hp
  refine ⟨by rw [List.length_set]; exact h.len, fun i => ?_, fun j i hj hi => ?_, ?_⟩
  · rw [List.getD_eq_getElem?_getD, List.getElem?_set]
    by_cases e : q = i
    · subst e
      rw [if_pos rfl, if_pos (by rw [h.len]; exact hql)]
      simp only [Option.getD_some]
      omega
    · rw [if_neg e, ← List.getD_eq_getElem?_getD]; exact h.by_ i
  · rw [bN_set _ _ _ _ (by rw [h.len]; exact hql), dd_step, hm]
    by_cases e : j = q
    · subst e
      rw [if_pos rfl, Nat.testBit_xor, h.bits j i hj hi, Nat.testBit_two_pow]
      have e2 : decide (8 * j + i = A + n ∧ A + n < 8 * L) = decide (r = i) := by
        by_cases c : r = i
        · have : 8 * j + i = A + n ∧ A + n < 8 * L := by omega
          simp [c, this]
        · have : ¬ (8 * j + i = A + n ∧ A + n < 8 * L) := by omega
          simp [c, this]
      rw [e2]
      simp
    · rw [if_neg e, h.bits j i hj hi]
      have : ¬ (8 * j + i = A + n ∧ A + n < 8 * L) := by omega
      simp [this]
  · simp only [true_iff]
    refine ⟨A + n, ?_⟩
    rw [dd_step, dd_out A mask (8 * L) n (A + n) (by omega)]
    simp [hn, hm]

theorem Bs.said {ys zs : List Int} {A mask L : Nat} {ch : Bool} (h : Bs ys zs A mask L 32 ch) (hl : ys.length = L) (hy : By ys) (hA : A ≤ 8 * L) : (crc zs != crc ys) = ch := by
  subst hl
  have := burst_told ys zs A mask hy h.by_ h.len hA h.bits
  rw [← h.told] at this
  cases ch with
  | true => simpa using this
  | false => simpa using this

/-- The bit of a mask. -/
theorem mask_bit (K n : Nat) (hK : K < 4294967296) (hn : n ≤ 31) : Go.bits .and .u32 ((K : Int) / 2 ^ n) 1 = if K.testBit n then 1 else 0 := by
  have e1 : (K : Int) / 2 ^ n = ((K / 2 ^ n : Nat) : Int) := by rw [Int.natCast_ediv, Int.natCast_pow]; rfl
  rw [e1]
  have := u32_and_nat (K / 2 ^ n) 1 (Nat.lt_of_le_of_lt (Nat.div_le_self _ _) hK) (by decide)
  rw [nat_mask1] at this
  rw [show (1 : Int) = ((1 : Nat) : Int) from rfl, this, Nat.testBit_eq_decide_div_mod_eq]
  by_cases c : K / 2 ^ n % 2 = 1
  · simp [c]
  · have : K / 2 ^ n % 2 = 0 := by omega
    simp [this]

end Go.Proofs.YtokkippjbagmkaaGreat

/-
  For PackTells: the raw form with turned bytes; the document's Pack of nothing; a row of one's own, cut to nothing.
-/
namespace Go.Proofs.YtokkippjbagmkaaGreat
open Go.RowKit Pl
set_option linter.unusedVariables false
set_option maxRecDepth 100000
set_option linter.unusedSimpArgs false

theorem unp_raw {zs : List Int} {c L : Nat} (hl : zs.length = L) (hL : L ≤ 65536) (hc : c ≤ 4294967295) :
    unpS ([0] ++ digits (L : Int) ++ zs ++ sumB c) (L : Int) = if c = crc zs then (0, zs) else (6, []) := by
  subst hl
  rw [unp_of (m := 0) (by decide) hL (raw_body zs (sumB c)) (by omega) (by omega), if_neg (by omega)]
  have h := sumS_app c hc []
  rw [List.append_nil] at h
  rw [h, if_neg (by simp)]
  by_cases e : c = crc zs
  · rw [if_pos e, if_pos (by rw [e])]
  · rw [if_neg e, if_neg (by simp only; omega)]

theorem owns_none {k : IntKind} {e : TypeId} {w : World} {a : Option Addr} {n c : Nat} {xs : List Int} (h : Owns k e w (.slice a n c) xs) : Owns k e w (.slice a 0 c) [] := by
  have h' : w.ownsRow 0 e 1 (.slice a n c) xs.length (xs.map (Value.int k)) := h
  show w.ownsRow 0 e 1 (.slice a 0 c) 0 []
  refine ⟨by simp, ?_⟩
  rcases h'.2 with ⟨h1, h2⟩ | ⟨g, cap, cur, h1, h2, h3, h4, h5, h6, h7⟩
  · cases h1; exact .inl ⟨rfl, rfl⟩
  · cases h1; exact .inr ⟨g, c, cur, rfl, h2, h3, by omega, h5, h6, by simp⟩

set_option maxHeartbeats 400000 in
theorem refPack_nil (w : World) : Calls Tryz.prog 10 #[.slice none 0 0] w fun e w' => ∃ v' xs, e = .returned (.tuple #[v', .int .i64 0]) ∧ Owns .u8 5 w' v' xs ∧ Below w.heap.size w w' ∧ ∀ k, v'.ownBlock = some k → w.heap.size ≤ k := by
  go_enter Tryz.func10, Tryz.ntmps10
  go_wp2_with fail
  refine (framed_any 0 _ _ [] [] w (rd_nil _ _) (rd_nil _ _) By.nil (by simp) (by simp)).mono ?_
  rintro e w1 ⟨v1, rfl, ho, hb, hf⟩
  have O1 : Hid (Owns .u8 5 w1 v1 ([0] ++ digits (([] : List Int).length : Int) ++ [] ++ sumB (crc []))) := ho
  have B1 : Hid (Below w.heap.size w w1 ∧ ∀ k, v1.ownBlock = some k → w.heap.size ≤ k) := ⟨hb, hf⟩
  clear ho hb hf
  go_wp2_with fail
  go_ret2
  exact ⟨v1, _, rfl, O1.out, B1.out⟩

theorem set_mid (pre zs suf : List Int) (q : Nat) (x : Int) (hq : q < zs.length) : (pre ++ zs ++ suf).set (pre.length + q) x = pre ++ zs.set q x ++ suf := by
  rw [List.append_assoc, List.set_append_right _ _ (by omega), show pre.length + q - pre.length = q by omega, List.set_append_left _ _ hq, List.append_assoc]

theorem getD_mid2 (pre zs suf : List Int) (q : Nat) (hq : q < zs.length) : (pre ++ zs ++ suf).getD (pre.length + q) 0 = zs.getD q 0 := by
  rw [List.append_assoc, getD_append, if_neg (by omega), show pre.length + q - pre.length = q by omega, getD_append, if_pos hq]

/-- What Pack answers ends in the sum. -/
theorem packR_sum {ds out : List Int} (h : PackR ds out) : 4 ≤ out.length ∧ out.drop (out.length - 4) = sumB (crc ds) := by
  obtain ⟨b, rfl, _⟩ := h
  rw [List.length_append, sumB_length]
  exact ⟨by omega, by rw [show b.length + 4 - 4 = b.length by omega, List.drop_left]⟩
end Go.Proofs.YtokkippjbagmkaaGreat
