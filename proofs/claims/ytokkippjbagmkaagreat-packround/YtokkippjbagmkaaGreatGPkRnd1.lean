import Derived.Test.YtokkippjbagmkaaGreatGPkPk3
import Derived.Test.YtokkippjbagmkaaGreatGPkBody
import Derived.Test.YtokkippjbagmkaaGreatGPkCut
import Derived.Test.YtokkippjbagmkaaGreatGE64
import Derived.Test.YtokkippjbagmkaaGreatGFCod
import Derived.Test.YtokkippjbagmkaaGreatGPkRst
import Derived.Test.YtokkippjbagmkaaGreatGFRt
set_option maxRecDepth 100000
/-
  What is taken is what was put: the pieces that read from the front.
-/
namespace Go.Proofs.YtokkippjbagmkaaGreat
open Go.RowKit Pl
set_option linter.unusedVariables false
set_option maxRecDepth 100000
set_option linter.unusedSimpArgs false

theorem numS_digits (n : Nat) (rest : List Int) (h : n ≤ 4294967295) : numS (some (digits (n : Int) ++ rest)) = ((n : Int), some rest) := by
  unfold numS
  simp only
  rw [num_digits (n : Int) rest (by omega) (by omega)]
  simp

theorem oneS_cons (x : Int) (rest : List Int) : oneS (some (x :: rest)) = (x, some rest) := by
  unfold oneS
  simp

theorem bytesS_app (xs rest : List Int) : bytesS (some (xs ++ rest)) xs.length = (xs, some rest) := by
  unfold bytesS
  simp

theorem sizedS_app (xs rest : List Int) (h : xs.length ≤ 4294967295) : sizedS (some (digits (xs.length : Int) ++ xs ++ rest)) = (xs, some rest) := by
  unfold sizedS
  rw [List.append_assoc, numS_digits _ _ h]
  simp only [Int.toNat_natCast]
  exact bytesS_app xs rest

theorem sumB_length (c : Nat) : (sumB c).length = 4 := rfl

theorem sumS_app (c : Nat) (hc : c ≤ 4294967295) (rest : List Int) : sumS (some (sumB c ++ rest)) = ((c : Int), some rest) := by
  have h : bytesS (some (sumB c ++ rest)) 4 = (sumB c, some rest) := bytesS_app (sumB c) rest
  unfold sumS
  rw [h]
  simp only [Prod.mk.injEq, and_true]
  show leN (sumB c) 4 = _
  simp only [leN, sumB, List.getD_cons_zero, List.getD_cons_succ]
  omega

theorem sumS_short (l : List Int) (h : l.length < 4) : (sumS (some l)).2 = none := by
  unfold sumS bytesS
  simp only
  rw [if_neg (by omega)]

theorem crc_le (ds : List Int) : crc ds ≤ 4294967295 := by unfold crc; omega

/-- A form whose body is read again, with what stands behind. -/
theorem unp_of {m : Int} {n : Nat} {body tail ds : List Int} (hm : m ≤ 2) (hn : n ≤ 65536) (hb : bodyS (some (body ++ tail)) m n = (ds, some tail)) {most : Int} (h0 : 0 ≤ most) (h1 : most ≤ 65536) :
    unpS ([m] ++ digits (n : Int) ++ body ++ tail) most = if most < (n : Int) then (11, []) else if (sumS (some tail)).2.isNone = true ∨ 0 < ((sumS (some tail)).2.getD []).length then (5, []) else if (sumS (some tail)).1 = (crc ds : Int) then (0, ds) else (6, []) := by
  unfold unpS
  rw [if_neg (by omega)]
  have e : [m] ++ digits (n : Int) ++ body ++ tail = m :: (digits (n : Int) ++ (body ++ tail)) := by simp
  rw [e, oneS_cons]
  simp only
  rw [numS_digits n _ (by omega)]
  simp only
  unfold unpT
  rw [if_neg (by simp; omega), Int.toNat_natCast, hb]

theorem unp_whole {m : Int} {n : Nat} {body ds : List Int} (hm : m ≤ 2) (hn : n ≤ 65536) (hb : ∀ tail, bodyS (some (body ++ tail)) m n = (ds, some tail)) {most : Int} (h0 : (n : Int) ≤ most) (h1 : most ≤ 65536) :
    unpS ([m] ++ digits (n : Int) ++ body ++ sumB (crc ds)) most = (0, ds) := by
  rw [unp_of hm hn (hb _) (by omega) h1, if_neg (by omega)]
  have h := sumS_app (crc ds) (crc_le ds) []
  rw [List.append_nil] at h
  rw [h, if_neg (by simp), if_pos rfl]

theorem unp_room {m : Int} {n : Nat} {body ds tail : List Int} (hm : m ≤ 2) (hn : n ≤ 65536) (hb : bodyS (some (body ++ tail)) m n = (ds, some tail)) {most : Int} (h0 : 0 ≤ most) (h1 : most < (n : Int)) :
    unpS ([m] ++ digits (n : Int) ++ body ++ tail) most = (11, []) := by
  rw [unp_of hm hn hb h0 (by omega), if_pos h1]

theorem unp_more {m : Int} {n : Nat} {body ds : List Int} (hm : m ≤ 2) (hn : n ≤ 65536) (hb : ∀ tail, bodyS (some (body ++ tail)) m n = (ds, some tail)) {most : Int} (h0 : (n : Int) ≤ most) (h1 : most ≤ 65536) (x : Int) :
    unpS ([m] ++ digits (n : Int) ++ body ++ (sumB (crc ds) ++ [x])) most = (5, []) := by
  rw [unp_of hm hn (hb _) (by omega) h1, if_neg (by omega), sumS_app (crc ds) (crc_le ds) [x], if_pos (by simp)]

theorem unp_less {m : Int} {n : Nat} {body ds tail : List Int} (hm : m ≤ 2) (hn : n ≤ 65536) (hb : bodyS (some (body ++ tail)) m n = (ds, some tail)) (ht : tail.length < 4) {most : Int} (h0 : (n : Int) ≤ most) (h1 : most ≤ 65536) :
    unpS ([m] ++ digits (n : Int) ++ body ++ tail) most = (5, []) := by
  rw [unp_of hm hn hb (by omega) h1, if_neg (by omega), if_pos (by rw [sumS_short tail ht]; simp)]

/-- The raw form's bytes. -/
theorem raw_body (ds tail : List Int) : bodyS (some (ds ++ tail)) 0 ds.length = (ds, some tail) := by
  unfold bodyS
  rw [if_pos rfl]
  exact bytesS_app ds tail

theorem alike_rep {ds : List Int} (h : alike ds = true) : List.replicate ds.length (ds.getD 0 0) = ds := by
  unfold alike at h
  rw [decide_eq_true_eq] at h
  apply List.ext_getElem?
  intro i
  rw [List.getElem?_replicate]
  split
  · rename_i hi
    have := h.2 i hi
    rw [List.getD_eq_getElem?_getD, List.getElem?_eq_getElem hi] at this
    rw [List.getElem?_eq_getElem hi, ← this]
    rfl
  · rename_i hi
    rw [List.getElem?_eq_none (by omega)]

/-- The run's. -/
theorem run_body {ds : List Int} (h : alike ds = true) (tail : List Int) : bodyS (some ([ds.getD 0 0] ++ tail)) 1 ds.length = (ds, some tail) := by
  have h0 : 0 < ds.length := by unfold alike at h; rw [decide_eq_true_eq] at h; exact h.1
  unfold bodyS
  rw [if_neg (by decide), if_pos rfl]
  have e : askS (some ([ds.getD 0 0] ++ tail)) (decide (0 < (ds.length : Int))) = some (ds.getD 0 0 :: tail) := by
    rw [decide_eq_true (by omega)]; rfl
  rw [e, oneS_cons]
  simp only
  rw [alike_rep h]
end Go.Proofs.YtokkippjbagmkaaGreat

/-
  A table of lengths that was put is read again, whatever stands behind.
-/
namespace Go.Proofs.YtokkippjbagmkaaGreat
open Go.RowKit Pl
set_option linter.unusedVariables false
set_option maxRecDepth 100000
set_option linter.unusedSimpArgs false

theorem val_right (a b : List Int) (q k : Nat) : val (a ++ b) (a.length + q) k = val b q k := by
  unfold val
  refine bv_congr _ _ _ (fun i hi => ?_)
  rw [getD_append, if_neg (by omega)]
  congr 1
  omega

theorem val_left (a b : List Int) (q k : Nat) (h : q + k ≤ a.length) : val (a ++ b) q k = val a q k := by
  unfold val
  refine bv_congr _ _ _ (fun i hi => ?_)
  rw [getD_append, if_pos (by omega)]

theorem val_bits (v : Int) (n : Nat) (b : List Int) (hv : 0 ≤ v) (h1 : v < 2 ^ n) : val (bitsOf v n ++ b) 0 n = v := by
  have := val_mid [] b v n hv h1
  simpa using this

theorem tl_put (B : List Int) (L less : Nat) : ∀ (f : Nat) (r : List Int) (g p : Nat) (l0 : List Int) (c : Bool), r.length ≤ f → r.length < g → l0.length + r.length = less + 1 → (∀ i, 0 ≤ r.getD i 0 ∧ r.getD i 0 ≤ 15) → (c = true → r = [] ∨ r.getD 0 0 ≠ 0) → p + (ptL f r).length ≤ L →
    (∀ q k, q + k ≤ (ptL f r).length → val B (p + q) k = val (ptL f r) q k) → tl B L less g p l0 c = (0, l0 ++ r, p + (ptL f r).length)
  | f, [], g, p, l0, c, hf, hg, hl, hb, hc, hL, hB => by
    rw [ptL_nil]
    cases g with
    | zero => simp [tl]
    | succ g => simp only [tl]; rw [if_pos (by simp at hl; omega)]; simp
  | 0, x :: r, g, p, l0, c, hf, hg, hl, hb, hc, hL, hB => by simp at hf
  | f + 1, x :: r, g, p, l0, c, hf, hg, hl, hb, hc, hL, hB => by
    obtain ⟨g, rfl⟩ : ∃ g', g = g' + 1 := ⟨g - 1, by simp at hg; omega⟩
    have hx := hb 0
    simp only [List.getD_cons_zero] at hx
    simp only [List.length_cons] at hf hg hl
    by_cases h0 : x = 0
    · subst h0
      obtain ⟨z, hz⟩ : ∃ z, zc 16 ((0 : Int) :: r) = z := ⟨_, rfl⟩
      have hzl := zc_le 16 ((0 : Int) :: r)
      have hz1 : 1 ≤ z := by rw [← hz]; simp [zc]
      have hzz := zc_zero 16 ((0 : Int) :: r)
      have hzs := zc_stop 16 ((0 : Int) :: r)
      rw [hz] at hzl hzz hzs
      have hpt : ptL (f + 1) ((0 : Int) :: r) = bitsOf 0 4 ++ (bitsOf ((z : Int) - 1) 4 ++ ptL f (((0 : Int) :: r).drop z)) := by simp only [ptL, if_true, hz, List.append_assoc]
      rw [hpt] at hL hB ⊢
      simp only [List.length_append, bitsOf_length] at hL hB ⊢
      have v1 : val B p 4 = 0 := by
        have := hB 0 4 (by omega)
        rw [Nat.add_zero] at this
        rw [this, val_bits 0 4 _ (by omega) (by decide)]
      have v2 : val B (p + 4) 4 = (z : Int) - 1 := by
        rw [hB 4 4 (by omega)]
        have := val_right (bitsOf 0 4) (bitsOf ((z : Int) - 1) 4 ++ ptL f (((0 : Int) :: r).drop z)) 0 4
        rw [bitsOf_length, Nat.add_zero] at this
        rw [this, val_bits _ 4 _ (by omega) (by omega)]
      simp only [List.length_cons] at hzl
      have hcf : c = false := by
        cases c with
        | false => rfl
        | true => rcases hc rfl with h | h; (· cases h); (· exact absurd rfl h)
      simp only [tl]
      rw [if_neg (by omega), if_neg (by omega), v1, if_neg (by omega), if_neg (by omega), v2, hcf]
      have e1 : ((z : Int) - 1).toNat + 1 = z := by omega
      rw [e1, if_neg (by simp; omega)]
      have hrep : List.replicate z (0 : Int) ++ ((0 : Int) :: r).drop z = (0 : Int) :: r := by
        have h : ((0 : Int) :: r).take z = List.replicate z 0 := by
          apply List.ext_getElem?
          intro i
          rw [List.getElem?_take, List.getElem?_replicate]
          split
          · rename_i hi
            have := hzz i hi
            have hil : i < ((0 : Int) :: r).length := by simp; omega
            rw [List.getD_eq_getElem?_getD, List.getElem?_eq_getElem hil] at this
            rw [List.getElem?_eq_getElem hil]
            simpa using this
          · rfl
        rw [← h, List.take_append_drop]
      rw [tl_put B L less f (((0 : Int) :: r).drop z) g (p + 8) (l0 ++ List.replicate z 0) (decide (z < 16)) (by simp; omega) (by simp; omega) (by simp; omega) (fun i => by
          rw [List.getD_eq_getElem?_getD, List.getElem?_drop, ← List.getD_eq_getElem?_getD]; exact hb _) (fun hd => ?_) (by omega) (fun q k hq => ?_)]
      · rw [List.append_assoc, hrep]
        congr 2
        omega
      · have hd2 : z < 16 := by simpa using hd
        by_cases hzl2 : z < ((0 : Int) :: r).length
        · right
          rw [List.getD_eq_getElem?_getD, List.getElem?_drop, ← List.getD_eq_getElem?_getD]
          exact hzs hd2 hzl2
        · left
          exact List.drop_of_length_le (by omega)
      · have := hB (8 + q) k (by omega)
        rw [show p + 8 + q = p + (8 + q) by omega, this]
        have h1 := val_right (bitsOf 0 4 ++ bitsOf ((z : Int) - 1) 4) (ptL f (((0 : Int) :: r).drop z)) q k
        rw [List.length_append, bitsOf_length, bitsOf_length, List.append_assoc] at h1
        exact h1
    · have hpt : ptL (f + 1) (x :: r) = bitsOf x 4 ++ ptL f r := by simp only [ptL]; rw [if_neg h0]
      rw [hpt] at hL hB ⊢
      simp only [List.length_append, bitsOf_length] at hL hB ⊢
      have v1 : val B p 4 = x := by
        have := hB 0 4 (by omega)
        rw [Nat.add_zero] at this
        rw [this, val_bits x 4 _ (by omega) (by omega)]
      simp only [tl]
      rw [if_neg (by omega), if_neg (by omega), v1, if_pos (by omega)]
      rw [tl_put B L less f r g (p + 4) (l0 ++ [x]) false (by omega) (by omega) (by simp; omega) (fun i => by have := hb (i + 1); simpa using this) (fun h => by cases h) (by omega) (fun q k hq => ?_)]
      · rw [List.append_assoc]
        simp only [List.singleton_append]
        congr 2
        omega
      · have := hB (4 + q) k (by omega)
        rw [show p + 4 + q = p + (4 + q) by omega, this]
        have h1 := val_right (bitsOf x 4) (ptL f r) q k
        rw [bitsOf_length] at h1
        exact h1
end Go.Proofs.YtokkippjbagmkaaGreat

/-
  A table that was put is read again by takeTable, whatever stands behind.
-/
namespace Go.Proofs.YtokkippjbagmkaaGreat
open Go.RowKit Pl
set_option linter.unusedVariables false
set_option maxRecDepth 100000
set_option linter.unusedSimpArgs false

theorem ptL_bits : ∀ (f : Nat) (l : List Int), Bits (ptL f l)
  | 0, _ => fun i => by simp [ptL]
  | f + 1, [] => fun i => by simp [ptL]
  | f + 1, x :: r => by
    simp only [ptL]
    split
    · exact Bits.append (Bits.append (bits_bitsOf _ _) (bits_bitsOf _ _)) (ptL_bits f _)
    · exact Bits.append (bits_bitsOf _ _) (ptL_bits f _)

theorem tab_round {ls : List Int} (h1 : 1 ≤ ls.length) (h2 : ls.length ≤ 256) (hb : ∀ i, 0 ≤ ls.getD i 0 ∧ ls.getD i 0 ≤ 15) (hm : mayC ls = true) (behind : List Int) :
    tabR (pack (ptBits ls) ++ behind) = (0, ls, (pack (ptBits ls)).length) := by
  have hbits : Bits (ptBits ls) := Bits.append (bits_bitsOf _ _) (ptL_bits _ _)
  obtain ⟨P, hP⟩ : ∃ P, (pack (ptBits ls)).length = P := ⟨_, rfl⟩
  have hPl : P = ((ptBits ls).length + 7) / 8 := by rw [← hP, pack_length]
  have hbl : (ptBits ls).length = 8 + (ptL ls.length ls).length := by simp [ptBits, bitsOf_length]
  have hB : ∀ q k, q + k ≤ 8 * P → val (unpack (pack (ptBits ls) ++ behind)) q k = val (ptBits ls) q k := fun q k h => by
    rw [unpack_append, val_left _ _ _ _ (by rw [unpack_length, hP]; exact h), val_pack hbits]
  have hyl : (pack (ptBits ls) ++ behind).length = P + behind.length := by rw [List.length_append, hP]
  have v0 : val (unpack (pack (ptBits ls) ++ behind)) 0 8 = (ls.length : Int) - 1 := by
    rw [hB 0 8 (by omega)]
    unfold ptBits
    exact val_bits _ 8 _ (by omega) (by omega)
  have htl : tabL (pack (ptBits ls) ++ behind) = (0, ls, (ptBits ls).length) := by
    unfold tabL
    rw [if_neg (by rw [hyl]; omega), v0, hyl]
    have e1 : ((ls.length : Int) - 1).toNat = ls.length - 1 := by omega
    rw [e1]
    rw [tl_put _ _ _ ls.length ls (ls.length - 1 + 2) 8 [] false (Nat.le_refl _) (by omega) (by simp; omega) hb (fun h => by cases h) (by omega) (fun q k hq => ?_)]
    · rw [hbl]; simp
    · rw [hB (8 + q) k (by omega)]
      unfold ptBits
      have := val_right (bitsOf ((ls.length : Int) - 1) 8) (ptL ls.length ls) q k
      rw [bitsOf_length] at this
      exact this
  unfold tabR
  rw [htl]
  simp only
  rw [if_neg (by simp), if_neg, hyl]
  · simp only [Prod.mk.injEq, true_and]
    omega
  · rw [hyl, hm]
    simp only [Bool.true_eq_false, or_false, Decidable.not_not, ne_eq]
    rw [hB _ _ (by omega)]
    exact val_past _ _ _ (Nat.le_refl _)
end Go.Proofs.YtokkippjbagmkaaGreat

/-
  Literals that were put are taken again, whatever stands behind.
-/
namespace Go.Proofs.YtokkippjbagmkaaGreat
open Go.RowKit Pl
set_option linter.unusedVariables false
set_option maxRecDepth 100000
set_option linter.unusedSimpArgs false

theorem cbits_bits (v : Int) (s : Nat) : Bits (cbits v s) := by
  intro i
  by_cases h : i < s
  · have : (cbits v s).getD i 0 = v / 2 ^ (s - 1 - i) % 2 := by simp [cbits, List.getD_eq_getElem?_getD, h]
    rw [this]
    omega
  · have : (cbits v s).getD i 0 = 0 := by simp [cbits, List.getD_eq_getElem?_getD, h]
    exact .inl this

theorem enc_bits (ls ds : List Int) : Bits (enc ls ds) := by
  induction ds with
  | nil => exact Bits.nil
  | cons x r ih => exact Bits.append (cbits_bits _ _) ih

theorem coded_enc {ls L : List Int} (hm : mayC ls = true) (hy : By L) (hc : ∀ i, i < L.length → 0 < ls.getD (L.getD i 0).toNat 0) : Coded ls (pack (enc ls L)) (L.length : Int) L := by
  have hb := enc_bits ls L
  have hr := rn_enc (LOk.of hm) L hy hc (unpack (pack (enc ls L))) (fun i hi => unpack_pack hb i) L.length (Nat.le_refl _)
  rw [List.take_length] at hr
  have hl : (pack (enc ls L)).length = ((enc ls L).length + 7) / 8 := pack_length _
  refine ⟨(enc ls L).length, hr, rfl, by omega, by omega, ?_⟩
  rw [val_pack hb]
  exact val_past _ _ _ (Nat.le_refl _)

theorem tc_round {L cb : List Int} (hcb : Cdd L cb) (hy : By L) (h1 : 1 ≤ L.length) (h2 : L.length ≤ 65536) (rest : List Int) : tcS (some (cb ++ rest)) (L.length : Int) = (L, some rest) := by
  obtain ⟨ds, _, hm, hc, rfl⟩ := hcb
  obtain ⟨ls, hls⟩ : ∃ ls, lens (cts L) ds = ls := ⟨_, rfl⟩
  rw [hls] at hm hc ⊢
  have hk := LOk.of hm
  have hl1 : 1 ≤ ls.length := by
    have h := hc 0 (by omega)
    by_cases e : ls.length = 0
    · have : ls = [] := List.eq_nil_of_length_eq_zero e
      rw [this] at h
      simp at h
    · omega
  have hb : ∀ i, 0 ≤ ls.getD i 0 ∧ ls.getD i 0 ≤ 15 := fun i => by
    by_cases e : i < ls.length
    · have := hk.each i e; omega
    · rw [List.getD_eq_getElem?_getD, List.getElem?_eq_none (by omega)]; simp
  have hel : (pack (enc ls L)).length ≤ 4294967295 := by
    have := enc_le hk L
    rw [pack_length]
    omega
  unfold tcS
  simp only
  rw [Option.getD_some, List.append_assoc, List.append_assoc, tab_round hl1 hk.most hb hm]
  simp only
  have e1 : askS (some (pack (ptBits ls) ++ (digits ((pack (enc ls L)).length : Int) ++ (pack (enc ls L) ++ rest)))) ((0 : Int) == 0) = some (pack (ptBits ls) ++ (digits ((pack (enc ls L)).length : Int) ++ (pack (enc ls L) ++ rest))) := rfl
  rw [e1, bytesS_app]
  simp only
  have e2 := sizedS_app (pack (enc ls L)) rest hel
  rw [List.append_assoc] at e2
  rw [e2]
  simp only
  rw [hdecR_good hm (by omega) (by omega) (coded_enc hm hy hc)]
  rfl

theorem lit_round {L lb : List Int} (hlb : LitR L lb) (hy : By L) (h1 : 1 ≤ L.length) {n : Nat} (h2 : L.length ≤ n) (hn : n ≤ 65536) (rest : List Int) : litS (some (lb ++ rest)) (n : Int) = (L, some rest) := by
  obtain ⟨cb, hcb, rfl⟩ := hlb
  unfold litS
  simp only
  rw [List.append_assoc, numS_digits L.length _ (by omega)]
  simp only
  rw [if_pos ⟨by omega, rfl⟩]
  by_cases hs : cb.length < L.length
  · rw [if_pos hs]
    have e : [1] ++ cb ++ rest = (1 : Int) :: (cb ++ rest) := by simp
    rw [e, oneS_cons]
    simp only
    rw [if_neg (by decide), if_pos trivial, tc_round hcb hy h1 (by omega)]
  · rw [if_neg hs]
    have e : [0] ++ L ++ rest = (0 : Int) :: (L ++ rest) := by simp
    rw [e, oneS_cons]
    simp only
    rw [if_pos trivial, Int.toNat_natCast, bytesS_app]
end Go.Proofs.YtokkippjbagmkaaGreat

/-
  A stream that was put is taken again, whatever stands behind.
-/
namespace Go.Proofs.YtokkippjbagmkaaGreat
open Go.RowKit Pl
set_option linter.unusedVariables false
set_option maxRecDepth 100000
set_option linter.unusedSimpArgs false

theorem goodF_of {s : List Int} {lg : Nat} (hs : Sok s lg) {cs : List Int} (h : allS s cs = true) : GoodF (nn s) s.length cs := by
  unfold allS at h
  rw [decide_eq_true_eq] at h
  intro i hi
  obtain ⟨h1, h2, h3⟩ := h i hi
  refine ⟨h1, h2, ?_⟩
  have := hs.each _ h2
  unfold nn
  omega

theorem stm_round {cs : List Int} (h : CodOk cs) (rest : List Int) : stmS (some (strR cs ++ rest)) (cs.length : Int) = (cs, some rest) := by
  obtain ⟨_, hm, hl, _, _, hall, _, hel⟩ := h.str
  unfold strR
  obtain ⟨s, hs⟩ : ∃ s, (shR (cts17 cs) 6).2 = s := ⟨_, rfl⟩
  rw [hs] at hm hl hall hel ⊢
  obtain ⟨lg, e6, hok⟩ := Sok.of hm
  obtain rfl : lg = 6 := by omega
  have hp : putR s 6 = (0, [((6 : Nat) : Int)] ++ pk ((s.length : Int) :: s) (s.length + 1)) := by unfold putR; rw [if_neg (by rw [hm]; decide)]; rfl
  have he : encR s 6 cs = (0, pack (eRow (nn s) s.length (2 ^ 6) 6 cs ++ [1])) := by unfold encR; rw [if_neg (by rw [hm]; decide), if_neg (by have := h.le; rw [hall]; simp; omega)]; rfl
  have hd := decR_whole hok hm h.le (goodF_of hok hall)
  rw [hp]
  rw [he] at hel ⊢
  simp only at hel ⊢
  obtain ⟨eb, heb⟩ : ∃ eb, pack (eRow (nn s) s.length (2 ^ 6) 6 cs ++ [1]) = eb := ⟨_, rfl⟩
  rw [heb] at hd hel ⊢
  obtain ⟨hb, hhb⟩ : ∃ hb, [((6 : Nat) : Int)] ++ pk ((s.length : Int) :: s) (s.length + 1) = hb := ⟨_, rfl⟩
  have hg := get_put (s := s) (lg := 6) hm (digits (eb.length : Int) ++ (eb ++ rest))
  rw [hhb] at hg ⊢
  unfold stmS
  simp only
  rw [Option.getD_some, List.append_assoc, List.append_assoc, hg]
  simp only
  have e1 : askS (some (hb ++ (digits (eb.length : Int) ++ (eb ++ rest)))) ((0 : Int) == 0 && decide ((s.length : Int) ≤ 17)) = some (hb ++ (digits (eb.length : Int) ++ (eb ++ rest))) := by
    rw [decide_eq_true (by omega)]; rfl
  rw [e1, Int.toNat_natCast, bytesS_app]
  simp only
  have e2 := sizedS_app eb rest (by omega)
  rw [List.append_assoc] at e2
  rw [e2]
  simp only
  rw [hd]
  rfl
end Go.Proofs.YtokkippjbagmkaaGreat

/-
  The rests that were put are read again.
-/
namespace Go.Proofs.YtokkippjbagmkaaGreat
open Go.RowKit Pl
set_option linter.unusedVariables false
set_option maxRecDepth 100000
set_option linter.unusedSimpArgs false

theorem bl_bounds : ∀ (f x : Nat), x < 2 ^ f → x ≠ 0 → 1 ≤ Lib.bitLenAux f x ∧ 2 ^ (Lib.bitLenAux f x - 1) ≤ x ∧ x < 2 ^ Lib.bitLenAux f x
  | 0, x, h, h0 => by simp at h; omega
  | f + 1, x, h, h0 => by
    simp only [Lib.bitLenAux]
    rw [if_neg h0]
    by_cases e : x / 2 = 0
    · have hx : x = 1 := by omega
      have ez : Lib.bitLenAux f 0 = 0 := by cases f <;> simp [Lib.bitLenAux]
      rw [e, ez, hx]
      decide
    · have h2 : x / 2 < 2 ^ f := by have : 2 ^ (f + 1) = 2 * 2 ^ f := by rw [Nat.pow_succ]; omega
                                    omega
      obtain ⟨a, b, c⟩ := bl_bounds f (x / 2) h2 e
      obtain ⟨k, hk⟩ : ∃ k, Lib.bitLenAux f (x / 2) = k + 1 := ⟨Lib.bitLenAux f (x / 2) - 1, by omega⟩
      rw [hk] at b c ⊢
      rw [show k + 1 - 1 = k by omega] at b
      rw [show 1 + (k + 1) - 1 = k + 1 by omega, show 1 + (k + 1) = k + 1 + 1 by omega]
      have e1 : 2 ^ (k + 1) = 2 * 2 ^ k := by rw [Nat.pow_succ]; omega
      have e2 : 2 ^ (k + 1 + 1) = 2 * 2 ^ (k + 1) := by rw [Nat.pow_succ 2 (k + 1)]; omega
      omega

theorem cOf_bounds {v : Int} (h : 0 ≤ v ∧ v ≤ 65535) : (cOf v = 0 ∧ v = 0) ∨ (1 ≤ cOf v ∧ (2 : Int) ^ (cOf v - 1) ≤ v ∧ v < 2 * (2 : Int) ^ (cOf v - 1)) := by
  obtain ⟨n, rfl⟩ := Int.eq_ofNat_of_zero_le h.1
  by_cases e : n = 0
  · subst e
    exact .inl ⟨by decide +kernel, rfl⟩
  · right
    have h64 : n < 2 ^ 64 := by
      have : (2 : Nat) ^ 64 = 18446744073709551616 := by decide
      omega
    obtain ⟨a, b, c⟩ := bl_bounds 64 n h64 e
    have hc : cOf (n : Int) = Lib.bitLenAux 64 n := rfl
    rw [hc]
    obtain ⟨k, hk⟩ : ∃ k, Lib.bitLenAux 64 n = k + 1 := ⟨Lib.bitLenAux 64 n - 1, by omega⟩
    rw [hk] at b c ⊢
    rw [show k + 1 - 1 = k by omega] at b ⊢
    have e1 : 2 ^ (k + 1) = 2 * 2 ^ k := by rw [Nat.pow_succ]; omega
    refine ⟨by omega, ?_, ?_⟩
    · have : ((2 ^ k : Nat) : Int) = (2 : Int) ^ k := by simp
      omega
    · have : ((2 ^ k : Nat) : Int) = (2 : Int) ^ k := by simp
      omega

theorem val_bitsm (v : Int) (n : Nat) (b : List Int) (hv : 0 ≤ v) : val (bitsOf v n ++ b) 0 n = v % 2 ^ n := by
  unfold val
  rw [bv_congr _ (fun i => v / 2 ^ i % 2) n (fun i hi => by
    rw [getD_append, if_pos (by simp [bitsOf_length]; omega), bitsOf_getD, Nat.zero_add, if_pos hi]), bv_bits v hv]

theorem rst_bits (v : Int) : Bits (rst v) := bits_bitsOf _ _
theorem rstK_bits (x : Sq) : ∀ k, Bits (rstK x k)
  | 0 => Bits.nil
  | k + 1 => Bits.append (rstK_bits x k) (rst_bits _)
theorem rsts_bits (ps : List Sq) : ∀ k, Bits (rsts ps k)
  | 0 => Bits.nil
  | k + 1 => Bits.append (rsts_bits ps k) (rstK_bits _ _)

theorem rstK_pre (x : Sq) (j : Nat) : ∀ k, j < k → ∃ t, rstK x k = rstK x j ++ (rst (vOf j x) ++ t)
  | 0, h => by omega
  | k + 1, h => by
    by_cases e : j = k
    · subst e; exact ⟨[], by simp [rstK]⟩
    · obtain ⟨t, ht⟩ := rstK_pre x j k (by omega)
      exact ⟨t ++ rst (vOf k x), by simp only [rstK]; rw [ht]; simp⟩
theorem rsts_pre (ps : List Sq) (i : Nat) : ∀ k, i < k → ∃ t, rsts ps k = rsts ps i ++ (rstK (ps.getD i sq0) 3 ++ t)
  | 0, h => by omega
  | k + 1, h => by
    by_cases e : i = k
    · subst e; exact ⟨[], by simp [rsts]⟩
    · obtain ⟨t, ht⟩ := rsts_pre ps i k (by omega)
      exact ⟨t ++ rstK (ps.getD k sq0) 3, by simp only [rsts]; rw [ht]; simp⟩

/-- One number. -/
theorem num_round {B pre t : List Int} {v : Int} (hv : 0 ≤ v ∧ v ≤ 65535) (hB : B = pre ++ (rst v ++ t)) {ys : List Int} (hys : ys = pack B) (hb : Bits B) :
    numV ys (cOf v : Int) pre.length = v ∧ tkX ys (cOf v : Int) pre.length = 0 ∧ tkQ ys (cOf v : Int) pre.length = pre.length + (rst v).length := by
  have hrl : (rst v).length = rbs (cOf v : Int) := by unfold rst; exact bitsOf_length _ _
  have hlen : pre.length + rbs (cOf v : Int) ≤ 8 * ys.length := by
    rw [hys, pack_length, hB]
    simp only [List.length_append, hrl]
    omega
  have hval : val (unpack ys) pre.length (rbs (cOf v : Int)) = v % 2 ^ rbs (cOf v : Int) := by
    rw [hys, val_pack hb, hB]
    have := val_right pre (rst v ++ t) 0 (rbs (cOf v : Int))
    rw [Nat.add_zero] at this
    rw [this]
    unfold rst
    exact val_bitsm v _ t hv.1
  refine ⟨?_, ?_, ?_⟩
  · unfold numV tkB
    rw [if_pos hlen, hval]
    rcases cOf_bounds hv with ⟨h1, h2⟩ | ⟨h1, h2, h3⟩
    · rw [h1, h2]; decide
    · rw [if_pos (by omega)]
      have hr : rbs (cOf v : Int) = cOf v - 1 := by unfold rbs; omega
      rw [hr]
      obtain ⟨P, hP⟩ : ∃ P : Int, (2 : Int) ^ (cOf v - 1) = P := ⟨_, rfl⟩
      rw [hP] at h2 h3 ⊢
      have : v % P = v - P := by
        rw [show v = (v - P) + P by omega, Int.add_emod_right, Int.emod_eq_of_lt (by omega) (by omega)]
        omega
      omega
  · unfold tkX; rw [if_pos hlen]
  · unfold tkQ; rw [if_pos hlen, hrl]

theorem ok_at {ps : List Sq} (h : ∀ x ∈ ps, SqOk x) {i : Nat} (hi : i < ps.length) : SqOk (ps.getD i sq0) := by
  rw [List.getD_eq_getElem?_getD, List.getElem?_eq_getElem hi]
  exact h _ (List.getElem_mem _)

theorem c3_at {ps : List Sq} {i j : Nat} (hi : i < ps.length) (hj : j < 3) : c3 (cods 0 ps) (cods 1 ps) (cods 2 ps) i j = (cOf (vOf j (ps.getD i sq0)) : Int) := by
  unfold c3
  match j, hj with
  | 0, _ => rw [if_pos rfl]; exact cods_at 0 ps i hi
  | 1, _ => rw [if_neg (by decide), if_pos rfl]; exact cods_at 1 ps i hi
  | 2, _ => rw [if_neg (by decide), if_neg (by decide)]; exact cods_at 2 ps i hi

theorem stq_round {ps : List Sq} (h : ∀ x ∈ ps, SqOk x) {i : Nat} (hi : i < ps.length) : ∀ k, k ≤ 3 → stq (pack (rsts ps ps.length)) (c3 (cods 0 ps) (cods 1 ps) (cods 2 ps) i) (rsts ps i).length k = ((rsts ps i).length + (rstK (ps.getD i sq0) k).length, true) ∧
    ∀ j, j < k → stv (pack (rsts ps ps.length)) (c3 (cods 0 ps) (cods 1 ps) (cods 2 ps) i) (rsts ps i).length j = vOf j (ps.getD i sq0)
  | 0, _ => ⟨by simp [stq, rstK], fun j hj => by omega⟩
  | k + 1, hk => by
    obtain ⟨ih1, ih2⟩ := stq_round h hi k (by omega)
    obtain ⟨t, ht⟩ := rsts_pre ps i ps.length hi
    obtain ⟨t2, ht2⟩ := rstK_pre (ps.getD i sq0) k 3 (by omega)
    have hB : rsts ps ps.length = (rsts ps i ++ rstK (ps.getD i sq0) k) ++ (rst (vOf k (ps.getD i sq0)) ++ (t2 ++ t)) := by
      rw [ht, ht2]; simp
    obtain ⟨n1, n2, n3⟩ := num_round (ok_at h hi k (by omega)) hB rfl (rsts_bits ps ps.length)
    rw [List.length_append] at n1 n2 n3
    have e3 := c3_at hi (show k < 3 by omega)
    refine ⟨?_, fun j hj => ?_⟩
    · simp only [stq]
      rw [ih1, e3]
      simp only
      rw [n2, n3]
      simp only [rstK, List.length_append, Prod.mk.injEq]
      exact ⟨by omega, rfl⟩
    · by_cases e : j = k
      · subst e
        unfold stv
        rw [ih1, e3]
        exact n1
      · exact ih2 j (by omega)

theorem stN_round {ps : List Sq} (h : ∀ x ∈ ps, SqOk x) : ∀ i, i ≤ ps.length → stN (pack (rsts ps ps.length)) (cods 0 ps) (cods 1 ps) (cods 2 ps) i = ((rsts ps i).length, true)
  | 0, _ => rfl
  | i + 1, hi => by
    have ih := stN_round h i (by omega)
    obtain ⟨h1, _⟩ := stq_round h (show i < ps.length by omega) 3 (by omega)
    simp only [stN]
    rw [ih]
    simp only
    rw [h1]
    simp only [rsts, List.length_append, Bool.and_self]

theorem seqAt_round {ps : List Sq} (h : ∀ x ∈ ps, SqOk x) {i : Nat} (hi : i < ps.length) : seqAt (pack (rsts ps ps.length)) (cods 0 ps) (cods 1 ps) (cods 2 ps) i = ps.getD i sq0 := by
  obtain ⟨_, h2⟩ := stq_round h hi 3 (by omega)
  unfold seqAt
  rw [stN_round h i (by omega)]
  simp only
  rw [h2 0 (by omega), h2 1 (by omega), h2 2 (by omega)]
  simp only [vOf]
  generalize ps.getD i sq0 = x
  obtain ⟨a, b, c⟩ := x
  simp

theorem seqN_round {ps : List Sq} (h : ∀ x ∈ ps, SqOk x) : seqN (pack (rsts ps ps.length)) (cods 0 ps) (cods 1 ps) (cods 2 ps) ps.length = ps := by
  apply List.ext_getElem?
  intro i
  unfold seqN
  rw [List.getElem?_map]
  by_cases hi : i < ps.length
  · rw [List.getElem?_range hi]
    simp only [Option.map_some]
    rw [seqAt_round h hi, List.getD_eq_getElem?_getD, List.getElem?_eq_getElem hi]
    rfl
  · rw [List.getElem?_eq_none (by simp; omega), List.getElem?_eq_none (by omega)]
    rfl

theorem fills_round (ps : List Sq) : fillsB (pack (rsts ps ps.length)) (rsts ps ps.length).length = true := by
  unfold fillsB
  rw [decide_eq_true_eq]
  refine ⟨by rw [pack_length]; omega, ?_⟩
  rw [val_pack (rsts_bits ps ps.length)]
  exact val_past _ _ _ (Nat.le_refl _)
end Go.Proofs.YtokkippjbagmkaaGreat

/-
  What is packed is unpacked again.
-/
namespace Go.Proofs.YtokkippjbagmkaaGreat
open Go.RowKit Pl
set_option linter.unusedVariables false
set_option maxRecDepth 100000
set_option linter.unusedSimpArgs false

theorem cods_length (i : Nat) (ps : List Sq) : (cods i ps).length = ps.length := by simp [cods]

theorem stp_round {ps : List Sq} (h : ∀ x ∈ ps, SqOk x) (h2 : ps.length ≤ 16384) {n : Nat} (hn : 4 * ps.length ≤ n) (rest : List Int) : stpS (some (stpB ps ++ rest)) (n : Int) = (ps, some rest) := by
  unfold stpB
  by_cases h0 : ps.length = 0
  · have : ps = [] := List.eq_nil_of_length_eq_zero h0
    subst this
    rw [if_pos h0]
    have hz0 : numS (some (digits (([] : List Sq).length : Int) ++ rest)) = (((0 : Nat) : Int), some rest) := numS_digits 0 rest (by omega)
    unfold stpS
    rw [hz0]
    simp only
    rw [if_pos ⟨by omega, rfl⟩, if_pos (by rfl)]
  · rw [if_neg h0]
    have h1 : 1 ≤ ps.length := by omega
    obtain ⟨ys, hys⟩ : ∃ ys, pack (rsts ps ps.length) = ys := ⟨_, rfl⟩
    have hyl : ys.length ≤ 4294967295 := by
      have := rsts_len h ps.length (Nat.le_refl _)
      rw [← hys, pack_length]
      omega
    have s0 := fun r => stm_round (cods_ok (i := 0) (by omega) h h1 h2) r
    have s1 := fun r => stm_round (cods_ok (i := 1) (by omega) h h1 h2) r
    have s2 := fun r => stm_round (cods_ok (i := 2) (by omega) h h1 h2) r
    simp only [cods_length] at s0 s1 s2
    have hst : strs ps 3 = strR (cods 0 ps) ++ (strR (cods 1 ps) ++ strR (cods 2 ps)) := by simp [strs]
    have hnum : numS (some (digits (ps.length : Int) ++ strs ps 3 ++ digits (ys.length : Int) ++ ys ++ rest)) = ((ps.length : Int), some (strR (cods 0 ps) ++ (strR (cods 1 ps) ++ (strR (cods 2 ps) ++ (digits (ys.length : Int) ++ ys ++ rest))))) := by
      have e : digits (ps.length : Int) ++ strs ps 3 ++ digits (ys.length : Int) ++ ys ++ rest = digits (ps.length : Int) ++ (strR (cods 0 ps) ++ (strR (cods 1 ps) ++ (strR (cods 2 ps) ++ (digits (ys.length : Int) ++ ys ++ rest)))) := by rw [hst]; simp
      rw [e, numS_digits _ _ (by omega)]
    obtain ⟨σ, hσ⟩ : ∃ σ, some (strR (cods 0 ps) ++ (strR (cods 1 ps) ++ (strR (cods 2 ps) ++ (digits (ys.length : Int) ++ ys ++ rest)))) = σ := ⟨_, rfl⟩
    have g1 : sgS σ (ps.length : Int) 1 = some (strR (cods 1 ps) ++ (strR (cods 2 ps) ++ (digits (ys.length : Int) ++ ys ++ rest))) := by
      simp only [sgS]; rw [← hσ, s0]
    have g2 : sgS σ (ps.length : Int) 2 = some (strR (cods 2 ps) ++ (digits (ys.length : Int) ++ ys ++ rest)) := by
      have : sgS σ (ps.length : Int) 2 = (stmS (sgS σ (ps.length : Int) 1) (ps.length : Int)).2 := rfl
      rw [this, g1, s1]
    have g3 : sgS σ (ps.length : Int) 3 = some (digits (ys.length : Int) ++ ys ++ rest) := by
      have : sgS σ (ps.length : Int) 3 = (stmS (sgS σ (ps.length : Int) 2) (ps.length : Int)).2 := rfl
      rw [this, g2, s2]
    have x0 : sgX σ (ps.length : Int) 0 = cods 0 ps := by unfold sgX; simp only [sgS]; rw [← hσ, s0]
    have x1 : sgX σ (ps.length : Int) 1 = cods 1 ps := by unfold sgX; rw [g1, s1]
    have x2 : sgX σ (ps.length : Int) 2 = cods 2 ps := by unfold sgX; rw [g2, s2]
    have hz : sizedS (some (digits (ys.length : Int) ++ ys ++ rest)) = (ys, some rest) := sizedS_app ys rest hyl
    rw [hys]
    unfold stpS
    rw [hnum, hσ]
    simp only
    rw [if_pos ⟨by omega, by rw [← hσ]; rfl⟩, if_neg (by omega), g3, hz, x0, x1, x2]
    simp only
    rw [if_pos (by rfl), Int.toNat_natCast]
    have q1 := seqN_round h
    have q2 := stN_round h ps.length (Nat.le_refl _)
    have q3 := fills_round ps
    rw [hys] at q1 q2 q3
    rw [q1, q2]
    simp only
    rw [q3]
    rfl

/-- The packed form's bytes. -/
theorem packed_body {ds bs : List Int} (hy : By ds) (h0 : 0 < ds.length) (hn : ds.length ≤ 65536) (h : PkdR ds bs) (tail : List Int) : bodyS (some (bs ++ tail)) 2 ds.length = (ds, some tail) := by
  obtain ⟨L, lb, hL, hLn, hlr, _, rfl⟩ := h
  obtain ⟨L2, hL1, hR, _⟩ := round_core ds 65536 hn
  rw [hL] at hL1
  simp only [Prod.mk.injEq, true_and] at hL1
  subst hL1
  obtain ⟨k1, k2, k3⟩ := steps_ok ds hn
  have hl := fun r => lit_round hlr (litR_by hy hL) (lits_some hn h0 hL) hLn hn r
  have hs := fun r => stp_round k1 k2 k3 r
  unfold bodyS
  rw [if_neg (by decide), if_neg (by decide)]
  have e : askS (some (lb ++ stpB (steps ds 65536) ++ tail)) (decide (0 < (ds.length : Int))) = some (lb ++ (stpB (steps ds 65536) ++ tail)) := by
    rw [decide_eq_true (by omega), List.append_assoc]; rfl
  rw [e]
  simp only
  rw [hl]
  simp only
  rw [hs]
  simp only
  rw [hR]
  simp [askS]

/-- Whatever Pack answers: its head, its body, its sum. -/
theorem pack_parts {ds out : List Int} (hy : By ds) (hn : ds.length ≤ 65536) (h : PackR ds out) : ∃ m body, m ≤ 2 ∧ out = [m] ++ digits (ds.length : Int) ++ body ++ sumB (crc ds) ∧ ∀ tail, bodyS (some (body ++ tail)) m ds.length = (ds, some tail) := by
  obtain ⟨b, rfl, h⟩ := h
  have raw : ∃ m body, m ≤ 2 ∧ rawB ds = [m] ++ digits (ds.length : Int) ++ body ∧ ∀ tail, bodyS (some (body ++ tail)) m ds.length = (ds, some tail) := ⟨0, ds, by decide, rfl, raw_body ds⟩
  have fin : ∀ b, (∃ m body, m ≤ 2 ∧ b = [m] ++ digits (ds.length : Int) ++ body ∧ ∀ tail, bodyS (some (body ++ tail)) m ds.length = (ds, some tail)) → ∃ m body, m ≤ 2 ∧ b ++ sumB (crc ds) = [m] ++ digits (ds.length : Int) ++ body ++ sumB (crc ds) ∧ ∀ tail, bodyS (some (body ++ tail)) m ds.length = (ds, some tail) := by
    rintro b ⟨m, body, h1, rfl, h2⟩
    exact ⟨m, body, h1, rfl, h2⟩
  apply fin
  rcases h with ⟨_, rfl⟩ | ⟨h0, bs, hbs, rfl⟩
  · exact raw
  · unfold shr
    split
    · exact ⟨2, bs, by decide, rfl, fun tail => packed_body hy h0 hn hbs tail⟩
    · unfold best1
      split
      · rename_i ha
        unfold shr
        split
        · exact ⟨1, [ds.getD 0 0], by decide, rfl, fun tail => run_body ha tail⟩
        · exact raw
      · exact raw

theorem pack_le {ds out : List Int} (h : PackR ds out) : out.length ≤ ds.length + 10 := by
  obtain ⟨b, rfl, h⟩ := h
  rw [List.length_append, sumB_length]
  rcases h with ⟨_, rfl⟩ | ⟨h0, bs, hbs, rfl⟩
  · have := rawB_le ds; omega
  · have := Nat.le_trans (shr_le (best1 ds) ([2] ++ digits ds.length ++ bs)) (best1_le ds)
    omega
end Go.Proofs.YtokkippjbagmkaaGreat

/-
  What Pack answers is bytes, and at most eight more.
-/
namespace Go.Proofs.YtokkippjbagmkaaGreat
open Go.RowKit Pl
set_option linter.unusedVariables false
set_option maxRecDepth 100000
set_option linter.unusedSimpArgs false

theorem by_memP {xs : List Int} (h : ∀ x ∈ xs, 0 ≤ x ∧ x ≤ 255) : By xs := by
  intro i
  rw [List.getD_eq_getElem?_getD]
  cases e : xs[i]? with
  | none => simp
  | some n => exact h n (List.mem_of_getElem? e)
theorem by_dig (n : Int) (h0 : 0 ≤ n) (h1 : n ≤ 4294967295) : By (digits n) := by_memP (dig_by 4 n h0 (by have : (128 : Int) ^ (4 + 1) = 34359738368 := by decide
                                                                                                          omega))
theorem by_pk {cs : List Int} (hb : ∀ i, 0 ≤ cs.getD i 0 ∧ cs.getD i 0 ≤ 4294967295) : ∀ k, By (pk cs k)
  | 0 => By.nil
  | k + 1 => (by_pk hb k).append (by_dig _ (hb k).1 (hb k).2)
theorem by_one {x : Int} (h : 0 ≤ x ∧ x ≤ 255) : By [x] := by_memP (fun y hy => by rw [List.mem_singleton] at hy; subst hy; exact h)
theorem by_pack {bs : List Int} (h : Bits bs) : By (pack bs) := fun i => pack_bd h i
theorem by_sum (c : Nat) : By (sumB c) := by_memP (fun y hy => by
  unfold sumB at hy
  simp only [List.mem_cons, List.not_mem_nil, or_false] at hy
  omega)

theorem by_str {cs : List Int} (h : CodOk cs) : By (strR cs) := by
  obtain ⟨_, hm, hl, _, _, hall, _, hel⟩ := h.str
  unfold strR
  obtain ⟨s, hs⟩ : ∃ s, (shR (cts17 cs) 6).2 = s := ⟨_, rfl⟩
  rw [hs] at hm hl hall hel ⊢
  obtain ⟨lg, e6, hok⟩ := Sok.of hm
  have hp : putR s 6 = (0, [6] ++ pk ((s.length : Int) :: s) (s.length + 1)) := by unfold putR; rw [if_neg (by rw [hm]; decide)]
  have he : encR s 6 cs = (0, pack (eRow (nn s) s.length (2 ^ (6 : Int).toNat) (6 : Int).toNat cs ++ [1])) := by unfold encR; rw [if_neg (by rw [hm]; decide), if_neg (by have := h.le; rw [hall]; simp; omega)]
  rw [hp]
  rw [he] at hel ⊢
  simp only at hel ⊢
  exact (((by_one (by decide)).append (by_pk (cs_bd hok) _)).append (by_dig _ (by omega) (by omega))).append (by_pack (Bits.snoc (row_bits _ _ _ _ _) (.inr rfl)))

theorem by_strs {ps : List Sq} (h : ∀ x ∈ ps, SqOk x) (h1 : 1 ≤ ps.length) (h2 : ps.length ≤ 16384) : ∀ k, k ≤ 3 → By (strs ps k)
  | 0, _ => By.nil
  | k + 1, hk => (by_strs h h1 h2 k (by omega)).append (by_str (cods_ok (by omega) h h1 h2))

theorem by_stp {ps : List Sq} (h : ∀ x ∈ ps, SqOk x) (h2 : ps.length ≤ 16384) : By (stpB ps) := by
  unfold stpB
  split
  · exact by_dig _ (by omega) (by omega)
  · have hl := rsts_len h ps.length (Nat.le_refl _)
    have hp : (pack (rsts ps ps.length)).length ≤ 4294967295 := by rw [pack_length]; omega
    exact (((by_dig _ (by omega) (by omega)).append (by_strs h (by omega) h2 3 (Nat.le_refl _))).append (by_dig _ (by omega) (by omega))).append (by_pack (rsts_bits _ _))

theorem by_lit {L lb : List Int} (h : LitR L lb) (hy : By L) (h2 : L.length ≤ 65536) : By lb := by
  obtain ⟨cb, ⟨ds, _, hm, _, rfl⟩, rfl⟩ := h
  have hel : (pack (enc (lens (cts L) ds) L)).length ≤ 4294967295 := by
    have := enc_le (LOk.of hm) L
    rw [pack_length]
    omega
  refine (by_dig _ (by omega) (by omega)).append ?_
  split
  · exact (by_one (by decide)).append (((by_pack (Bits.append (bits_bitsOf _ _) (ptL_bits _ _))).append (by_dig _ (by omega) (by omega))).append (by_pack (enc_bits _ _)))
  · exact (by_one (by decide)).append hy

theorem pack_by {ds out : List Int} (hy : By ds) (hn : ds.length ≤ 65536) (h : PackR ds out) : By out := by
  obtain ⟨b, rfl, h⟩ := h
  refine By.append ?_ (by_sum _)
  have hd : By (digits (ds.length : Int)) := by_dig _ (by omega) (by omega)
  have raw : By (rawB ds) := ((by_one (by decide)).append hd).append hy
  rcases h with ⟨_, rfl⟩ | ⟨h0, bs, ⟨L, lb, hL, hLn, hlr, _, rfl⟩, rfl⟩
  · exact raw
  · obtain ⟨k1, k2, k3⟩ := steps_ok ds hn
    unfold shr
    split
    · exact ((by_one (by decide)).append hd).append ((by_lit hlr (litR_by hy hL) (by omega)).append (by_stp k1 k2))
    · unfold best1
      split
      · unfold shr
        split
        · exact ((by_one (by decide)).append hd).append (by_one (hy 0))
        · exact raw
      · exact raw

theorem pack_le8 {ds out : List Int} (hn : ds.length ≤ 65536) (h : PackR ds out) : 4 ≤ out.length ∧ out.length ≤ ds.length + 8 := by
  have h3 : (digits (ds.length : Int)).length ≤ 3 := by
    have h1 := dig_mono 4 (ds.length : Int) 65536 (by omega)
    have h2 : (dig 4 65536).length = 3 := by decide
    unfold digits
    omega
  have hr : (rawB ds).length ≤ ds.length + 4 := by simp only [rawB, List.length_append, List.length_cons, List.length_nil]; omega
  obtain ⟨b, rfl, h⟩ := h
  rw [List.length_append, sumB_length]
  refine ⟨by omega, ?_⟩
  rcases h with ⟨_, rfl⟩ | ⟨h0, bs, hbs, rfl⟩
  · omega
  · have h1 := shr_le (best1 ds) ([2] ++ digits ds.length ++ bs)
    have h2 : (best1 ds).length ≤ (rawB ds).length := by
      unfold best1
      split
      · exact shr_le _ _
      · exact Nat.le_refl _
    omega

/-- All that the law asks of what is packed. -/
theorem pack_unp {ds out : List Int} (hy : By ds) (hn : ds.length ≤ 65536) (h : PackR ds out) :
    unpS out (ds.length : Int) = (0, ds) ∧ (0 < ds.length → unpS out ((ds.length : Int) - 1) = (11, [])) ∧ unpS (out.take (out.length - 1)) (ds.length : Int) = (5, []) ∧ ∀ x, unpS (out ++ [x]) (ds.length : Int) = (5, []) := by
  obtain ⟨m, body, hm, ho, hb⟩ := pack_parts hy hn h
  refine ⟨?_, fun h0 => ?_, ?_, fun x => ?_⟩
  · rw [ho]; exact unp_whole hm hn hb (by omega) (by omega)
  · rw [ho]; exact unp_room hm hn (hb _) (by omega) (by omega)
  · have e : out.take (out.length - 1) = [m] ++ digits (ds.length : Int) ++ body ++ (sumB (crc ds)).take 3 := by
      rw [ho]
      simp only [List.length_append, sumB_length]
      rw [show ([m].length + (digits (ds.length : Int)).length + body.length + 4 - 1) = ([m] ++ digits (ds.length : Int) ++ body).length + 3 by simp only [List.length_append]; omega, List.take_length_add_append]
    rw [e]
    exact unp_less hm hn (hb _) (by rw [List.length_take]; omega) (by omega) (by omega)
  · rw [ho, List.append_assoc _ (sumB (crc ds)) [x]]
    exact unp_more hm hn hb (by omega) (by omega) x
end Go.Proofs.YtokkippjbagmkaaGreat
