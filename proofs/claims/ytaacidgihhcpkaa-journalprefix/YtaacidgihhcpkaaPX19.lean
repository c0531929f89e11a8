import Derived.Test.YtaacidgihhcpkaaPX03
/-
  When two rows of bytes are the same.
-/
namespace Go.Proofs.Ytaacidgihhcpkaa
open Go.RowKit Pl
set_option linter.unusedVariables false

set_option maxHeartbeats 1000000 in
theorem same_any (a b o p ca cb : Nat) (xs ys : List Int) (w : World) (hl : xs.length = ys.length) (h63 : xs.length ≤ 9223372036854775807)
    (hx : ∀ i, i < xs.length → w.cell? ⟨a, o + i, none⟩ = some (.int .u8 (xs.getD i 0))) (hy : ∀ i, i < ys.length → w.cell? ⟨b, p + i, none⟩ = some (.int .u8 (ys.getD i 0))) :
    Calls Try.prog 31 #[.slice (some ⟨a, o, none⟩) xs.length ca, .slice (some ⟨b, p, none⟩) xs.length cb] w fun e w' => e = .returned (.bool (decide (xs = ys))) ∧ Below w.heap.size w w' := by
  have HX : Hid (∀ i, i < xs.length → w.cell? ⟨a, o + i, none⟩ = some (.int .u8 (xs.getD i 0))) := hx
  have HY : Hid (∀ i, i < ys.length → w.cell? ⟨b, p + i, none⟩ = some (.int .u8 (ys.getD i 0))) := hy
  have HL : Hid (xs.length = ys.length) := hl
  clear hx hy hl
  go_enter Try.func31, Try.ntmps31
  go_wp2
  go_loopw [5] (fun i wr => ∃ k : Nat, k ≤ xs.length ∧ i = .int .i64 k ∧ Hid (∀ j, j < k → xs.getD j 0 = ys.getD j 0) ∧ Below w.heap.size w wr) (fun i _ => xs.length - (intOf i).toNat)
  case atStart => exact ⟨0, Nat.zero_le _, rfl, fun j hj => by omega, Below.refl _ _⟩
  case round =>
    obtain ⟨k, hk, rfl, hE, hB⟩ := hrel
    have HB : Hid (Below w.heap.size w wr) := hB
    clear hB
    by_cases hlt : k < xs.length
    · obtain ⟨x, hxe⟩ : ∃ x, Hid (xs.getD k 0 = x) := ⟨_, rfl⟩
      obtain ⟨y, hye⟩ : ∃ y, Hid (ys.getD k 0 = y) := ⟨_, rfl⟩
      have cx : wr.cell? ⟨a, o + k, none⟩ = some (.int .u8 x) := by
        have h := HX.out k hlt
        rw [HB.out.cell (p := ⟨a, o + k, none⟩) (World.block_lt_of_cell? w ⟨a, o + k, none⟩ h), h, hxe.out]
      have cy : wr.cell? ⟨b, p + k, none⟩ = some (.int .u8 y) := by
        have h := HY.out k (by rw [← HL.out]; exact hlt)
        rw [HB.out.cell (p := ⟨b, p + k, none⟩) (World.block_lt_of_cell? w ⟨b, p + k, none⟩ h), h, hye.out]
      by_cases hxy : x = y
      · have hd : (x != y) = false := by simp [hxy]
        have HXY : Hid (x = y) := hxy
        clear hxy
        go_wp2
        go_quiet (fail)
        go_wp2
        go_roundw
        case rel =>
          refine ⟨k + 1, by omega, by go_num, fun j hj => ?_, ?_⟩
          · by_cases e : j < k
            · exact hE.out j e
            · have : j = k := by omega
              subst this
              rw [hxe.out, hye.out]; exact HXY.out
          · exact HB.out.trans (Below.of_drewN _ _ _)
        case measure => simp [intOf]; omega
      · have hd : (x != y) = true := by simp [hxy]
        go_wp2
        go_quiet (fail)
        go_wp2
        go_ret
        refine ⟨?_, HB.out.trans (Below.of_drewN _ _ _)⟩
        have : ¬ xs = ys := fun e => hxy (by rw [← hxe.out, ← hye.out, e])
        simp [this]
    · go_wp2
      go_ret
      refine ⟨?_, HB.out⟩
      have : xs = ys := list_eq_of_getD HL.out fun i hi => hE.out i (by omega)
      simp [this]

theorem same_unlike (a b : Option Addr) (la lb ca cb : Nat) (w : World) (hl : la ≠ lb) :
    Calls Try.prog 31 #[.slice a la ca, .slice b lb cb] w fun e w' => e = .returned (.bool false) ∧ w' = w := by
  have h : ((la : Int) != (lb : Int)) = true := by simp; omega
  clear hl
  go_enter Try.func31, Try.ntmps31
  go_wp2
  go_ret
  exact ⟨rfl, rfl⟩

theorem same_empty (a b : Option Addr) (ca cb : Nat) (w : World) :
    Calls Try.prog 31 #[.slice a 0 ca, .slice b 0 cb] w fun e w' => e = .returned (.bool true) ∧ w' = w := by
  go_enter Try.func31, Try.ntmps31
  go_wp2
  go_loop [5] (fun i => i = .int .i64 0) (fun _ => 0)
  case atStart => rfl
  case round =>
    subst hrel
    go_wp2
    go_ret
    exact ⟨rfl, rfl⟩

/-- Two rows of bytes that can be read: are they the same? -/
theorem same_rd (u v : Value) (xs ys : List Int) (w : World) (hx : Rd .u8 w u xs) (hy : Rd .u8 w v ys) :
    Calls Try.prog 31 #[u, v] w fun e w' => e = .returned (.bool (decide (xs = ys))) ∧ Below w.heap.size w w' := by
  obtain ⟨a, ca, rfl, h1, h2, _, hx⟩ := hx
  obtain ⟨b, cb, rfl, h3, h4, _, hy⟩ := hy
  by_cases hl : xs.length = ys.length
  · rcases hx with rfl | ⟨ab, ao, rfl, hx⟩
    · have : ys = [] := List.eq_nil_of_length_eq_zero (by simpa using hl.symm)
      subst this
      refine (same_empty a b ca cb w).mono ?_
      rintro e w' ⟨rfl, rfl⟩
      exact ⟨by simp, Below.refl _ _⟩
    · rcases hy with rfl | ⟨bb, bo, rfl, hy⟩
      · have : xs = [] := List.eq_nil_of_length_eq_zero (by simpa using hl)
        subst this
        refine (same_empty _ b ca cb w).mono ?_
        rintro e w' ⟨rfl, rfl⟩
        exact ⟨by simp, Below.refl _ _⟩
      · have := same_any ab bb ao bo ca cb xs ys w hl (by unfold maxLen at h2; omega) hx hy
        rw [← hl]
        exact this
  · refine (same_unlike a b _ _ ca cb w hl).mono ?_
    rintro e w' ⟨rfl, rfl⟩
    have : ¬ xs = ys := fun e => hl (by rw [e])
    exact ⟨by simp [this], Below.refl _ _⟩
end Go.Proofs.Ytaacidgihhcpkaa
/-
  Rows that are the same are the same.
-/
namespace Go.Proofs.Ytaacidgihhcpkaa
open Go.RowKit
set_option linter.unusedVariables false
set_option linter.unusedSimpArgs false
set_option maxRecDepth 100000

/-- Rows that are the same are the same. -/
theorem same_all (u v : Value) (xs : List Int) (w : World) (hu : Rd .u8 w u xs) (hv : Rd .u8 w v xs) : Calls Try.prog 31 #[u, v] w fun e w' => e = .returned (.bool true) ∧ Below w.heap.size w w' := by
  obtain ⟨a, ca, rfl, ha1, ha2, _, ha⟩ := hu
  obtain ⟨b, cb, rfl, hb1, hb2, _, hb⟩ := hv
  have h63 : xs.length ≤ 9223372036854775807 := by unfold maxLen at ha2; omega
  by_cases h0 : xs = []
  · subst h0
    simp only [List.length_nil]
    clear ha hb ha1 hb1 ha2 hb2 h63
    go_enter Try.func31, Try.ntmps31
    go_wp2
    go_loopw [5] (fun i wr => i = .int .i64 0 ∧ Below w.heap.size w wr) (fun _ _ => 0)
    case atStart => exact ⟨rfl, Below.refl _ _⟩
    case round =>
      obtain ⟨rfl, hB⟩ := hrel
      go_wp2
      go_ret
      exact ⟨rfl, hB⟩
  · rcases ha with e | ⟨ab, ao, rfl, ha⟩
    · exact absurd e h0
    rcases hb with e | ⟨bb, bo, rfl, hb⟩
    · exact absurd e h0
    have := same_any ab bb ao bo ca cb xs xs w rfl h63 ha hb
    simpa using this

end Go.Proofs.Ytaacidgihhcpkaa
/-
  Bits that are turned one by one, plainly.
-/
namespace Go.Proofs.Ytaacidgihhcpkaa
open Go.RowKit Pl
set_option linter.unusedVariables false

/-- Behind n bits. -/
structure Bs (ys zs : List Int) (A mask L n : Nat) (ch : Bool) : Prop where
  len : zs.length = L
  by_ : By zs
  bits : ∀ j i, j < L → i < 8 → (bN zs j).testBit i = ((bN ys j).testBit i ^^ dd A mask (8 * L) n (8 * j + i))
  told : ch = true ↔ ∃ p, dd A mask (8 * L) n p = true

theorem Bs.start {ys : List Int} (A mask L : Nat) (hl : ys.length = L) (hb : By ys) : Bs ys ys A mask L 0 false := by
  refine ⟨hl, hb, fun j i _ _ => ?_, ?_⟩
  · rw [dd_out _ _ _ _ _ (by omega)]; simp
  · constructor
    · intro h; cases h
    · rintro ⟨p, hp⟩
      rw [dd_out _ _ _ _ _ (by omega)] at hp
      cases hp

theorem dd_step (A mask N n p : Nat) : dd A mask N (n + 1) p = (dd A mask N n p ^^ (decide (p = A + n ∧ A + n < N) && mask.testBit n)) := by
  unfold dd
  by_cases e : p = A + n
  · subst e
    rw [show A + n - A = n by omega]
    by_cases c : A + n < N
    · simp [c]
    · simp [c]
  · have h1 : (A ≤ p ∧ p < A + (n + 1) ∧ p < N) ↔ (A ≤ p ∧ p < A + n ∧ p < N) := by omega
    simp [h1, e]

/-- No bit is turned. -/
theorem Bs.skip {ys zs : List Int} {A mask L n : Nat} {ch : Bool} (h : Bs ys zs A mask L n ch) (hn : ¬ (mask.testBit n = true ∧ A + n < 8 * L)) : Bs ys zs A mask L (n + 1) ch := by
  have e : ∀ p, dd A mask (8 * L) (n + 1) p = dd A mask (8 * L) n p := fun p => by
    rw [dd_step]
    have : (decide (p = A + n ∧ A + n < 8 * L) && mask.testBit n) = false := by
      rw [Bool.and_eq_false_iff]
      by_cases c : mask.testBit n = true
      · left
        have hh : ¬ A + n < 8 * L := fun h => hn ⟨c, h⟩
        have : ¬ (p = A + n ∧ A + n < 8 * L) := fun h => hh h.2
        simp [this]
      · right; simpa using c
    rw [this]; simp
  refine ⟨h.len, h.by_, fun j i hj hi => ?_, ?_⟩
  · rw [e]; exact h.bits j i hj hi
  · rw [h.told]; simp only [e]

theorem bN_set (zs : List Int) (q y j : Nat) (hq : q < zs.length) : bN (zs.set q (y : Int)) j = if j = q then y else bN zs j := by
  unfold bN
  rw [List.getD_eq_getElem?_getD, List.getD_eq_getElem?_getD, List.getElem?_set]
  by_cases e : q = j
  · subst e; simp [hq]
  · rw [if_neg e, if_neg (fun h => e h.symm)]

/-- One bit is turned. -/
theorem Bs.flip {ys zs : List Int} {A mask L n : Nat} {ch : Bool} (h : Bs ys zs A mask L n ch) (hm : mask.testBit n = true) (hn : A + n < 8 * L) (q r : Nat) (hq : (A + n) / 8 = q) (hr : (A + n) % 8 = r) :
    Bs ys (zs.set q ((bN zs q ^^^ 2 ^ r : Nat) : Int)) A mask L (n + 1) true := by
  have hql : q < L := by omega
  have hr8 : r < 8 := by omega
  have hp : 2 ^ r < 2 ^ 8 := Nat.pow_lt_pow_right (by decide) hr8
  have hlt : bN zs q ^^^ 2 ^ r < 2 ^ 8 := Nat.xor_lt_two_pow (bN_lt h.by_ q) hp
  refine ⟨by rw [List.length_set]; exact h.len, fun i => ?_, fun j i hj hi => ?_, ?_⟩
  · rw [List.getD_eq_getElem?_getD, List.getElem?_set]
    by_cases e : q = i
    · subst e
      rw [if_pos rfl, if_pos (by rw [h.len]; exact hql)]
      simp only [Option.getD_some]
      omega
    · rw [if_neg e, ← List.getD_eq_getElem?_getD]; exact h.by_ i
  · rw [bN_set _ _ _ _ (by rw [h.len]; exact hql), dd_step, hm]
    by_cases e : j = q
    · subst e
      rw [if_pos rfl, Nat.testBit_xor, h.bits j i hj hi, Nat.testBit_two_pow]
      have e2 : decide (8 * j + i = A + n ∧ A + n < 8 * L) = decide (r = i) := by
        by_cases c : r = i
        · have : 8 * j + i = A + n ∧ A + n < 8 * L := by omega
          simp [c, this]
        · have : ¬ (8 * j + i = A + n ∧ A + n < 8 * L) := by omega
          simp [c, this]
      rw [e2]
      simp
    · rw [if_neg e, h.bits j i hj hi]
      have : ¬ (8 * j + i = A + n ∧ A + n < 8 * L) := by omega
      simp [this]
  · simp only [true_iff]
    refine ⟨A + n, ?_⟩
    rw [dd_step, dd_out A mask (8 * L) n (A + n) (by omega)]
    simp [hn, hm]

theorem Bs.said {ys zs : List Int} {A mask L : Nat} {ch : Bool} (h : Bs ys zs A mask L 32 ch) (hl : ys.length = L) (hy : By ys) (hA : A ≤ 8 * L) : (crc zs != crc ys) = ch := by
  subst hl
  have := burst_told ys zs A mask hy h.by_ h.len hA h.bits
  rw [← h.told] at this
  cases ch with
  | true => simpa using this
  | false => simpa using this

/-- The bit of a mask. -/
theorem mask_bit (K n : Nat) (hK : K < 4294967296) (hn : n ≤ 31) : Go.bits .and .u32 ((K : Int) / 2 ^ n) 1 = if K.testBit n then 1 else 0 := by
  have e1 : (K : Int) / 2 ^ n = ((K / 2 ^ n : Nat) : Int) := by rw [Int.natCast_ediv, Int.natCast_pow]; rfl
  rw [e1]
  have := u32_and_nat (K / 2 ^ n) 1 (Nat.lt_of_le_of_lt (Nat.div_le_self _ _) hK) (by decide)
  rw [nat_mask1] at this
  rw [show (1 : Int) = ((1 : Nat) : Int) from rfl, this, Nat.testBit_eq_decide_div_mod_eq]
  by_cases c : K / 2 ^ n % 2 = 1
  · simp [c]
  · have : K / 2 ^ n % 2 = 0 := by omega
    simp [this]
end Go.Proofs.Ytaacidgihhcpkaa
