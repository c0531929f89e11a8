import Derived.Test.YtgpaklifjonlkaaProg
import Derived.Test.YtgpaklifjonlkaaKP02
import Derived.WalkKit
import Derived.WalkSpells
import Derived.BigRegion
import Derived.BigQuiet
import Derived.Deep.QuietTactic
import Derived.Laws.BitsAllLaws
/-
  Rows of numbers that a call makes for itself: what they hold, how they grow by append, one element or many.
-/
namespace Go.Proofs.Ytgpaklifjonlkaa
open Go.RowKit

/-- The slice v is a row of its own and holds the numbers xs. -/
def Owns (k : IntKind) (e : TypeId) (w : World) (v : Value) (xs : List Int) : Prop := w.ownsRow 0 e 1 v xs.length (xs.map (Value.int k))

/-- What an append onto v leaves: nothing old has turned but v's own block; what comes out lies there, or is new. -/
structure Grew (w w' : World) (v v' : Value) : Prop where
  tch : Tch (fun k => v.ownBlock = some k) w w'
  fresh : ∀ k, v'.ownBlock = some k → v.ownBlock = some k ∨ w.heap.size ≤ k

theorem Grew.refl (w : World) (v : Value) : Grew w w v v := ⟨Tch.refl _ _, fun _ e => .inl e⟩

theorem Grew.trans {a b c : World} {u v x : Value} (h : Grew a b u v) (h2 : Grew b c v x) : Grew a c u x := by
  refine ⟨h.tch.trans h2.tch fun i hi e => ?_, fun k hk => ?_⟩
  · rcases h.fresh i e with e | e
    · exact e
    · omega
  · rcases h2.fresh k hk with e | e
    · exact h.fresh k e
    · exact .inr (by have := h.tch.size; omega)

/-- Off an empty row: all is new. -/
theorem Grew.below {w w' : World} {v' : Value} (h : Grew w w' (.slice none 0 0) v') : Below w.heap.size w w' ∧ ∀ k, v'.ownBlock = some k → w.heap.size ≤ k :=
  ⟨h.tch.below (Nat.le_refl _) (fun k e => by cases e), fun k hk => by rcases h.fresh k hk with e | e; (· cases e); (· exact e)⟩

/-- A row that is new since w0 grows: still nothing of w0 has turned. -/
theorem Grew.onto {w0 w w' : World} {v v' : Value} (h : Grew w w' v v') (hb : Below w0.heap.size w0 w) (hn : ∀ k, v.ownBlock = some k → w0.heap.size ≤ k) : Below w0.heap.size w0 w' ∧ ∀ k, v'.ownBlock = some k → w0.heap.size ≤ k :=
  ⟨hb.trans (h.tch.below hb.size (fun k e => hn k e)), fun k hk => by
    rcases h.fresh k hk with e | e
    · exact hn k e
    · have := hb.size; omega⟩

theorem owns_nil (k : IntKind) (e : TypeId) (w : World) : Owns k e w (.slice none 0 0) [] := World.ownsRow_nil _ _ _ _

theorem Owns.rd {k : IntKind} {e : TypeId} {w : World} {v : Value} {xs : List Int} (h : Owns k e w v xs) : Rd k w v xs := rd_of_owns h

theorem Owns.tch {S : Nat → Prop} {k : IntKind} {e : TypeId} {w w' : World} {v : Value} {xs : List Int} (h : Owns k e w v xs) (ht : Tch S w w') (hn : ∀ j, v.ownBlock = some j → ¬ S j) : Owns k e w' v xs := ht.owns h hn

theorem Owns.below {k : IntKind} {e : TypeId} {w w' : World} {v : Value} {xs : List Int} (h : Owns k e w v xs) (hb : Below w.heap.size w w') : Owns k e w' v xs :=
  h.tch (S := fun _ => False) (Tch.of_below hb) (fun _ _ e => e)

theorem Owns.lt {k : IntKind} {e : TypeId} {w : World} {v : Value} {xs : List Int} (h : Owns k e w v xs) : ∀ j, v.ownBlock = some j → j < w.heap.size := fun j hj => (World.ownsRow.lt h j hj).2

/-- What the value is, where something is owned. -/
theorem Owns.shape {k : IntKind} {e : TypeId} {w : World} {v : Value} {xs : List Int} (h : Owns k e w v xs) (h0 : 0 < xs.length) :
    ∃ g cap, v = .slice (some ⟨g, 0, none⟩) xs.length cap ∧ g < w.heap.size ∧ xs.length ≤ cap ∧ cap ≤ maxLen ∧ (∀ i, i < xs.length → w.cell? ⟨g, i, none⟩ = some (.int k (xs.getD i 0))) ∧ ∀ i, w.frozen? ⟨g, i, none⟩ = false := by
  have h' : w.ownsRow 0 e 1 v xs.length (xs.map (Value.int k)) := h
  rcases h'.2 with ⟨_, e⟩ | ⟨g, cap, cur, rfl, _, hg, hnc, hcm, _⟩
  · omega
  · refine ⟨g, cap, rfl, (Array.getElem?_eq_some_iff.1 hg).1, hnc, hcm, fun i hi => ?_, fun i => h'.frozenAt i⟩
    rw [h'.cellAt i (by omega)]
    simp [List.getD_eq_getElem?_getD, hi]

/-- One cell of a row is written. -/
theorem Owns.set {k : IntKind} {e : TypeId} {w : World} {g n cap : Nat} {xs : List Int} (h : Owns k e w (.slice (some ⟨g, 0, none⟩) n cap) xs) (j : Nat) (u : Int) :
    Owns k e (w.setCell ⟨g, j, none⟩ (.int k u)) (.slice (some ⟨g, 0, none⟩) n cap) (xs.set j u) := by
  have h' : w.ownsRow 0 e 1 (.slice (some ⟨g, 0, none⟩) n cap) xs.length (xs.map (Value.int k)) := h
  have hn : n = xs.length := by
    rcases h'.2 with ⟨e, _⟩ | ⟨g', cap', cur, e, _⟩
    · cases e
    · simp only [Value.slice.injEq] at e; exact e.2.1
  subst hn
  have := (h'.stored j (.int k u)).1
  unfold Owns
  rw [List.length_set, List.map_set]
  exact this

/-- What is known of a slice type of one-cell numbers. -/
structure Elem (P : Program) (t e : TypeId) (k : IntKind) (bytes : Nat) : Prop where
  ht : P.underlying t = some (.slice e)
  info : ∃ i, P.info? e = some i ∧ i.zero = some (.int k 0) ∧ i.size = 1 ∧ i.bytes = bytes

section
variable {P : Program}

/-- 'append(v, u...)': many. -/
theorem wpList_many (w : World) {ops : Array Oper} {rest : List Oper} {o : Oper} {a : Act} {Q : Exit → Act → World → Prop} (hgd : o.guard = none) (s x : Operand) (t : TypeId)
    (ho : o.op = .call { callee := .builtin .append, args := #[s, x], argTypes := #[t, t] }) (e : TypeId) (k : IntKind) (bytes : Nat) (E : Elem P t e k bytes)
    (v : Value) (xs : List Int) (hs : a.eval s = v) (hown : Owns k e w v xs) (u : Value) (ys : List Int) (hx : a.eval x = u) (hu : Rd k w u ys)
    (h63 : xs.length + ys.length ≤ 9223372036854775807) (hbytes : (xs.length + ys.length) * bytes ≤ 140737488355328)
    (h : ∀ v' w', Owns k e w' v' (xs ++ ys) → Grew w w' v v' → wpList P ops Q rest (a.put o.dst v') w') : wpList P ops Q (o :: rest) a w := by
  obtain ⟨ht, i, hi, hz, h1, hb⟩ := E
  refine wpList_app w hgd s x t ho e i (.int k 0) bytes ht hi hz h1 hb rfl v (xs.map (Value.int k)) hs (by unfold Owns at hown; simpa using hown) u (ys.map (Value.int k)) hx (src_of_rd hu) (by unfold maxLen; simpa using h63) (by simpa using hbytes) ?_
  intro v' w' h2 h3 h4
  refine h v' w' (by unfold Owns; simpa using h2) ⟨(Tch.refl _ w).grown h3 (fun _ _ e => e), h4⟩

/-- 'append(v, x)': one, which lies in a block of its own first. -/
theorem wpList_push (w : World) {ops : Array Oper} {rest : List Oper} {o : Oper} {a : Act} {Q : Exit → Act → World → Prop} (hgd : o.guard = none) (s x : Operand) (t : TypeId)
    (ho : o.op = .call { callee := .builtin .append, args := #[s, x], argTypes := #[t, t] }) (e : TypeId) (k : IntKind) (bytes : Nat) (E : Elem P t e k bytes)
    (v : Value) (xs : List Int) (hs : a.eval s = v) (hown : Owns k e w v xs) (y : Int) (hx : a.eval x = .slice (some ⟨w.heap.size, 0, none⟩) 1 1)
    (h63 : xs.length + 1 ≤ 9223372036854775807) (hbytes : (xs.length + 1) * bytes ≤ 140737488355328)
    (h : ∀ v' w', Owns k e w' v' (xs ++ [y]) → Grew w w' v v' → wpList P ops Q rest (a.put o.dst v') w') : wpList P ops Q (o :: rest) a (w.alloc (.cells #[.int k y] e)) := by
  obtain ⟨ht, i, hi, hz, h1, hb⟩ := E
  refine wpList_app (w.alloc (.cells #[.int k y] e)) hgd s x t ho e i (.int k 0) bytes ht hi hz h1 hb rfl v (xs.map (Value.int k)) hs (by unfold Owns at hown; simpa using hown.alloc _) _ [.int k y] hx (src_one w _ _ rfl) (by unfold maxLen; simpa using h63) (by simpa using hbytes) ?_
  intro v' w' h2 h3 h4
  refine h v' w' (by unfold Owns; simpa using h2) ⟨Tch.grown ((Tch.refl _ w).alloc _) h3 (fun _ _ e => e), fun k hk => ?_⟩
  rcases h4 k hk with e | e
  · exact .inl e
  · exact .inr (by simp at e; omega)
end

/-- Draws turn no block. -/
theorem Below.of_drewN (B : Nat) (w : World) (n : Nat) : Below B w (w.drewN n) := ⟨rfl, rfl, rfl, Nat.le_refl _, fun _ _ => rfl⟩

end Go.Proofs.Ytgpaklifjonlkaa
/-
  Rows of numbers that a call makes for itself (Row0), and what is known of bytes.
-/
namespace Go.Proofs.Ytgpaklifjonlkaa
open Go.RowKit

theorem elem8 : Elem Try.prog 38 5 .u8 1 := ⟨Try.underlying38, info_parts (z := .int .u8 0) (size := 1) (bytes := 1) (by kernel_rfl)⟩

end Go.Proofs.Ytgpaklifjonlkaa
/-
  Check sums, plainly: numbers of 32 bits.
-/
namespace Go.Proofs.Ytgpaklifjonlkaa
open Go.RowKit Pl
set_option linter.unusedVariables false

/-- One bit: the number is halved, and, if its lowest bit was 1, put together with the given one. -/
def c1 (x : Nat) : Nat := if x % 2 = 1 then x / 2 ^^^ 2197175160 else x / 2
/-- So many bits. -/
def c8 : Nat → Nat → Nat
  | 0, x => x
  | k + 1, x => c1 (c8 k x)
/-- The number behind k bytes. -/
def cR (xs : List Int) : Nat → Nat
  | 0 => 4294967295
  | k + 1 => c8 8 (cR xs k ^^^ (xs.getD k 0).toNat)
def crc (xs : List Int) : Nat := 4294967295 - cR xs xs.length

theorem c1_lt {x : Nat} (h : x < 4294967296) : c1 x < 4294967296 := by
  unfold c1
  split
  · exact Nat.xor_lt_two_pow (n := 32) (by omega) (by decide)
  · omega
theorem c8_lt {x : Nat} (h : x < 4294967296) : ∀ k, c8 k x < 4294967296
  | 0 => h
  | k + 1 => c1_lt (c8_lt h k)
theorem cR_lt {xs : List Int} (hb : By xs) : ∀ k, cR xs k < 4294967296
  | 0 => by show (4294967295 : Nat) < _; decide
  | k + 1 => by
    refine c8_lt ?_ 8
    have := hb k
    exact Nat.xor_lt_two_pow (n := 32) (cR_lt hb k) (by omega)

theorem not_nat (x : Nat) (h : x < 4294967296) : 4294967295 ^^^ x = 4294967295 - x := by
  have h1 : (~~~ (BitVec.ofNat 32 x)).toNat = 4294967295 - x := by rw [BitVec.toNat_not, BitVec.toNat_ofNat]; omega
  have h2 : (BitVec.allOnes 32 ^^^ BitVec.ofNat 32 x).toNat = 4294967295 ^^^ x := by
    rw [BitVec.toNat_xor, BitVec.toNat_ofNat, BitVec.toNat_allOnes, Nat.mod_eq_of_lt (show x < 2 ^ 32 by omega)]
  rw [← h1, ← h2, BitVec.not_def]
theorem not_prog (x : Nat) (h : x < 4294967296) : Go.bits .xor .u32 IntKind.u32.max (x : Int) = ((4294967295 - x : Nat) : Int) := by
  have e : IntKind.u32.max = ((4294967295 : Nat) : Int) := by decide
  rw [e, u32_xor_nat _ _ (by decide) h, not_nat x h]
/-- The program's own step. -/
theorem c1_prog (x : Nat) (h : x < 4294967296) : Go.bits .xor .u32 ((x : Int) / 2) (2197175160 * Go.bits .and .u32 (x : Int) 1 % 4294967296) = (c1 x : Int) := by
  have e1 : Go.bits .and .u32 (x : Int) 1 = ((x % 2 : Nat) : Int) := by
    have := u32_and_nat x 1 h (by decide)
    rw [nat_mask1] at this
    exact this
  rw [e1]
  have e2 : (x : Int) / 2 = ((x / 2 : Nat) : Int) := by omega
  rw [e2]
  unfold c1
  by_cases c : x % 2 = 1
  · rw [if_pos c, c]
    have := u32_xor_nat (x / 2) 2197175160 (by omega) (by decide)
    exact this
  · have c0 : x % 2 = 0 := by omega
    rw [if_neg c, c0]
    have := u32_xor_nat (x / 2) 0 (by omega) (by decide)
    simpa using this
end Go.Proofs.Ytgpaklifjonlkaa
/-
  A byte of a row, as a natural number.
-/
namespace Go.Proofs.Ytgpaklifjonlkaa
open Go.RowKit Pl
set_option linter.unusedVariables false

/-- A byte. -/
def bN (xs : List Int) (j : Nat) : Nat := (xs.getD j 0).toNat
theorem bN_lt {xs : List Int} (h : By xs) (j : Nat) : bN xs j < 256 := by have := h j; unfold bN; omega
theorem bN_eq {xs : List Int} (h : By xs) (j : Nat) : xs.getD j 0 = (bN xs j : Int) := by have := h j; unfold bN; omega

end Go.Proofs.Ytgpaklifjonlkaa
/-
  A change within 32 bits side by side is told, plainly.
-/
namespace Go.Proofs.Ytgpaklifjonlkaa
open Go.RowKit Pl
set_option linter.unusedVariables false

theorem xor0 {a b : Nat} : a ^^^ b = 0 ↔ a = b := by
  constructor
  · intro h
    have : a ^^^ b ^^^ b = b := by rw [h, Nat.zero_xor]
    rw [Nat.xor_assoc, Nat.xor_self, Nat.xor_zero] at this
    exact this
  · rintro rfl
    exact Nat.xor_self a
theorem c1_xor (a b : Nat) : c1 (a ^^^ b) = c1 a ^^^ c1 b := by
  have hd : (a ^^^ b) / 2 = a / 2 ^^^ b / 2 := by
    have := Nat.xor_div_two_pow (a := a) (b := b) (n := 1)
    simpa using this
  have hm := Nat.xor_mod_two_eq_one (a := a) (b := b)
  unfold c1
  rw [hd]
  by_cases ha : a % 2 = 1
  · by_cases hb : b % 2 = 1
    · rw [if_neg (by rw [hm]; simp [ha, hb]), if_pos ha, if_pos hb]
      rw [Nat.xor_assoc, ← Nat.xor_assoc 2197175160, Nat.xor_comm 2197175160 (b / 2), Nat.xor_assoc (b / 2), Nat.xor_self, Nat.xor_zero]
    · rw [if_pos (by rw [hm]; simp [ha, hb]), if_pos ha, if_neg hb]
      rw [Nat.xor_assoc, Nat.xor_comm (b / 2), ← Nat.xor_assoc]
  · by_cases hb : b % 2 = 1
    · rw [if_pos (by rw [hm]; simp [ha, hb]), if_neg ha, if_pos hb, Nat.xor_assoc]
    · rw [if_neg (by rw [hm]; simp [ha, hb]), if_neg ha, if_neg hb]
theorem c1_zero {x : Nat} (h : x < 4294967296) (h0 : c1 x = 0) : x = 0 := by
  unfold c1 at h0
  split at h0
  · have := xor0.1 h0
    omega
  · omega
theorem c8_xor (k a b : Nat) : c8 k (a ^^^ b) = c8 k a ^^^ c8 k b := by
  induction k with
  | zero => rfl
  | succ k ih => simp only [c8]; rw [ih, c1_xor]
theorem c8_zero (k : Nat) : c8 k 0 = 0 := by
  induction k with
  | zero => rfl
  | succ k ih => simp only [c8]; rw [ih]; rfl
theorem c8_inj {x : Nat} (h : x < 4294967296) (k : Nat) (h0 : c8 k x = 0) : x = 0 := by
  induction k with
  | zero => exact h0
  | succ k ih => exact ih (c1_zero (c8_lt h k) h0)
theorem c8_pow (m y : Nat) : c8 m (2 ^ m * y) = y := by
  induction m generalizing y with
  | zero => simp [c8]
  | succ m ih =>
    simp only [c8]
    rw [Nat.pow_succ, Nat.mul_assoc, ih]
    unfold c1
    rw [if_neg (by omega)]
    omega
theorem c8_add (k m x : Nat) : c8 (m + k) x = c8 k (c8 m x) := by
  induction k with
  | zero => rfl
  | succ k ih => show c1 (c8 (m + k) x) = c1 (c8 k (c8 m x)); rw [ih]

/-- How the difference of two sums goes on, bit by bit. -/
def eR (d : Nat → Bool) : Nat → Nat
  | 0 => 0
  | n + 1 => c1 (eR d n ^^^ (if d n then 1 else 0))
/-- Bits from a on as a number. -/
def vR (d : Nat → Bool) (a : Nat) : Nat → Nat
  | 0 => 0
  | m + 1 => vR d a m ^^^ (if d (a + m) then 2 ^ m else 0)

theorem vR_bit (d : Nat → Bool) (a m i : Nat) : (vR d a m).testBit i = (decide (i < m) && d (a + i)) := by
  induction m with
  | zero => simp [vR]
  | succ m ih =>
    simp only [vR]
    rw [Nat.testBit_xor, ih]
    by_cases hd : d (a + m)
    · rw [if_pos hd, Nat.testBit_two_pow]
      by_cases e : m = i
      · subst e; simp [hd]
      · have h1 : (i < m + 1) = (i < m) := by apply propext; omega
        simp [e, h1]
    · rw [if_neg hd]
      by_cases e : m = i
      · subst e; simp at hd; simp [hd]
      · have h1 : (i < m + 1) = (i < m) := by apply propext; omega
        simp [h1]
theorem vR_lt (d : Nat → Bool) (a m : Nat) : vR d a m < 2 ^ m := by
  refine Nat.lt_pow_two_of_testBit _ (fun i hi => ?_)
  rw [vR_bit]
  simp
  omega
theorem vR_eq (d : Nat → Bool) (a m e : Nat) (he : e < 2 ^ m) (h : ∀ i, i < m → d (a + i) = e.testBit i) : vR d a m = e := by
  apply Nat.eq_of_testBit_eq
  intro i
  rw [vR_bit]
  by_cases hi : i < m
  · simp [hi, h i hi]
  · rw [Nat.testBit_lt_two_pow (Nat.lt_of_lt_of_le he (Nat.pow_le_pow_right (by decide) (by omega)))]
    simp [hi]
theorem vR_zero (d : Nat → Bool) (a m : Nat) (h : ∀ i, i < m → d (a + i) = false) : vR d a m = 0 :=
  vR_eq d a m 0 (Nat.pow_pos (by decide)) (fun i hi => by rw [h i hi]; simp)
theorem eR_run (d : Nat → Bool) (a m : Nat) : eR d (a + m) = c8 m (eR d a ^^^ vR d a m) := by
  induction m with
  | zero => simp [c8, vR]
  | succ m ih =>
    show c1 (eR d (a + m) ^^^ (if d (a + m) then 1 else 0)) = c1 (c8 m (eR d a ^^^ (vR d a m ^^^ (if d (a + m) then 2 ^ m else 0))))
    rw [ih, ← Nat.xor_assoc, c8_xor m (eR d a ^^^ vR d a m)]
    congr 2
    split
    · have := c8_pow m 1
      rw [Nat.mul_one] at this
      exact this.symm
    · exact (c8_zero m).symm

/-- Two rows' sums: the difference. -/
theorem cR_diff (xs ys : List Int) (d : Nat → Bool) (hx : By xs) (hy : By ys) (n : Nat) (h : ∀ j i, j < n → i < 8 → d (8 * j + i) = (bN xs j ^^^ bN ys j).testBit i) : ∀ k, k ≤ n → cR xs k ^^^ cR ys k = eR d (8 * k)
  | 0, _ => by simp [cR, eR]
  | k + 1, hk => by
    have ih := cR_diff xs ys d hx hy n h k (by omega)
    have he : bN xs k ^^^ bN ys k < 2 ^ 8 := Nat.xor_lt_two_pow (bN_lt hx k) (bN_lt hy k)
    show c8 8 (cR xs k ^^^ bN xs k) ^^^ c8 8 (cR ys k ^^^ bN ys k) = eR d (8 * k + 8)
    rw [eR_run, vR_eq d (8 * k) 8 _ he (fun i hi => h k i (by omega) hi), ← ih, ← c8_xor]
    congr 1
    rw [Nat.xor_assoc, ← Nat.xor_assoc (bN xs k), Nat.xor_comm (bN xs k), Nat.xor_assoc (cR ys k), ← Nat.xor_assoc (cR xs k)]

/-- The bits that are turned: n bits of the mask from A on. -/
def dd (A mask N n p : Nat) : Bool := decide (A ≤ p ∧ p < A + n ∧ p < N) && mask.testBit (p - A)

theorem dd_out (A mask N n p : Nat) (h : p < A ∨ A + n ≤ p ∨ N ≤ p) : dd A mask N n p = false := by
  unfold dd
  have : ¬ (A ≤ p ∧ p < A + n ∧ p < N) := by omega
  simp [this]

theorem eR_burst (A mask L : Nat) (hA : A ≤ 8 * L) : eR (dd A mask (8 * L) 32) (8 * L) = 0 ↔ ∀ p, dd A mask (8 * L) 32 p = false := by
  obtain ⟨d, hd⟩ : ∃ d, dd A mask (8 * L) 32 = d := ⟨_, rfl⟩
  have ho := fun p h => dd_out A mask (8 * L) 32 p h
  rw [hd] at ho ⊢
  obtain ⟨m, hm1, hm2, hm3⟩ : ∃ m, m ≤ 32 ∧ A + m ≤ 8 * L ∧ (A + m = 8 * L ∨ m = 32) := by
    by_cases c : A + 32 ≤ 8 * L
    · exact ⟨32, Nat.le_refl _, c, .inr rfl⟩
    · exact ⟨8 * L - A, by omega, by omega, .inl (by omega)⟩
  have e1 : eR d A = 0 := by
    have := eR_run d 0 A
    rw [Nat.zero_add, vR_zero d 0 A (fun i hi => ho _ (.inl (by omega)))] at this
    rw [this, show eR d 0 = 0 from rfl, Nat.xor_zero]
    exact c8_zero A
  have e2 : eR d (A + m) = c8 m (vR d A m) := by rw [eR_run, e1, Nat.zero_xor]
  obtain ⟨r, hr⟩ : ∃ r, 8 * L = A + m + r := ⟨8 * L - (A + m), by omega⟩
  have e3 : eR d (8 * L) = c8 (m + r) (vR d A m) := by
    rw [hr, eR_run d (A + m) r, vR_zero d (A + m) r (fun i hi => ho _ (by omega)), Nat.xor_zero, e2, ← c8_add]
  have hv : vR d A m < 4294967296 := Nat.lt_of_lt_of_le (vR_lt d A m) (Nat.pow_le_pow_right (n := 2) (by decide) hm1)
  rw [e3]
  constructor
  · intro h p
    have hz := c8_inj hv _ h
    by_cases hp : A ≤ p ∧ p < A + m
    · have hb := vR_bit d A m (p - A)
      rw [hz, show A + (p - A) = p by omega] at hb
      have hlt : p - A < m := by omega
      simpa [hlt] using hb.symm
    · exact ho p (by omega)
  · intro h
    rw [vR_zero d A m (fun i _ => h _)]
    exact c8_zero _

/-- What a burst does to the sum. -/
theorem burst_told (xs ys : List Int) (A mask : Nat) (hx : By xs) (hy : By ys) (hl : ys.length = xs.length) (hA : A ≤ 8 * xs.length)
    (h : ∀ j i, j < xs.length → i < 8 → (bN ys j).testBit i = ((bN xs j).testBit i ^^ dd A mask (8 * xs.length) 32 (8 * j + i))) :
    crc ys ≠ crc xs ↔ ∃ p, dd A mask (8 * xs.length) 32 p = true := by
  have h1 := cR_diff xs ys (dd A mask (8 * xs.length) 32) hx hy xs.length (fun j i hj hi => by
    rw [Nat.testBit_xor, h j i hj hi]
    cases (bN xs j).testBit i <;> simp) xs.length (Nat.le_refl _)
  have h2 := eR_burst A mask xs.length hA
  rw [← h1] at h2
  have l1 := cR_lt hx xs.length
  have l2 := cR_lt hy xs.length
  unfold crc
  rw [hl]
  rw [xor0] at h2
  constructor
  · intro hne
    apply Classical.byContradiction
    intro hno
    have : cR xs xs.length = cR ys xs.length := h2.2 (fun p => by
      cases hp : dd A mask (8 * xs.length) 32 p with
      | false => rfl
      | true => exact absurd ⟨p, hp⟩ hno)
    omega
  · rintro ⟨p, hp⟩ he
    have := h2.1 (by omega) p
    rw [this] at hp
    cases hp
end Go.Proofs.Ytgpaklifjonlkaa
/-
  Blocks, plainly: the bytes of a sector, what it tells, and that a change within 32 bits side by side is told.
-/
namespace Go.Proofs.Ytgpaklifjonlkaa
open Go.RowKit Pl
set_option linter.unusedVariables false

/-- The four bytes of a sum, the lowest first. -/
def le4 (s : Nat) : List Int := [((s % 256 : Nat) : Int), ((s / 256 % 256 : Nat) : Int), ((s / 65536 % 256 : Nat) : Int), ((s / 16777216 % 256 : Nat) : Int)]
/-- A sector with the sum that its other bytes have. -/
def smd (xs : List Int) : List Int := xs.take 252 ++ le4 (crc (xs.take 252))
/-- What stands ahead of the sum. -/
def pre (n k : Int) (ys : List Int) : List Int := [k, (ys.length : Int), n % 256, n / 256, 0, 0, 0, 0] ++ (ys ++ List.replicate (244 - ys.length) 0)
/-- A block's sector. -/
def sec (n k : Int) (ys : List Int) : List Int := pre n k ys ++ le4 (crc (pre n k ys))
/-- May it be? -/
def mayK (n k : Int) (l : Nat) : Bool := decide (0 ≤ n ∧ n ≤ 65535 ∧ 1 ≤ k ∧ k ≤ 4 ∧ l ≤ 240)
/-- The body that a sector tells. -/
def bdy (xs : List Int) : List Int := (xs.drop 8).take (min (bN xs 1) 244)
/-- What is told of a sector: the error's number. -/
def getE (n : Int) (xs : List Int) : Int :=
  if xs.length ≠ 256 then 1 else if xs ≠ smd xs then 6 else if mayK n (xs.getD 0 0) (bdy xs).length = true ∧ xs = sec n (xs.getD 0 0) (bdy xs) then 0 else 7
/-- The kind and the body. -/
def getB (n : Int) (xs : List Int) : Int × List Int := if getE n xs = 0 then (xs.getD 0 0, bdy xs) else (0, [])

theorem le4_len (s : Nat) : (le4 s).length = 4 := rfl
theorem by_of_memB {xs : List Int} (h : ∀ x ∈ xs, 0 ≤ x ∧ x ≤ 255) : By xs := fun i => by
  rw [List.getD_eq_getElem?_getD]
  cases e : xs[i]? with
  | none => simp
  | some n => exact h n (List.mem_of_getElem? e)
theorem mem_of_by {xs : List Int} (h : By xs) : ∀ x ∈ xs, 0 ≤ x ∧ x ≤ 255 := fun x hx => by
  obtain ⟨i, hi, rfl⟩ := List.getElem_of_mem hx
  have := h i
  rw [List.getD_eq_getElem?_getD, List.getElem?_eq_getElem hi] at this
  exact this
theorem By.appendB {xs ys : List Int} (h : By xs) (k : By ys) : By (xs ++ ys) := by_of_memB fun x hx => by
  rcases List.mem_append.1 hx with e | e
  · exact mem_of_by h x e
  · exact mem_of_by k x e
theorem By.dropB {xs : List Int} (h : By xs) (m : Nat) : By (xs.drop m) := by_of_memB fun x hx => mem_of_by h x (List.mem_of_mem_drop hx)
theorem le4_by (s : Nat) : By (le4 s) := by_of_memB fun x hx => by
  simp only [le4, List.mem_cons, List.not_mem_nil, or_false] at hx
  rcases hx with rfl | rfl | rfl | rfl <;> omega
theorem smd_len {xs : List Int} (h : xs.length = 256) : (smd xs).length = 256 := by simp only [smd, List.length_append, List.length_take, le4_len]; omega
theorem smd_by {xs : List Int} (h : By xs) : By (smd xs) := (h.take 252).appendB (le4_by _)
theorem smd_take {xs : List Int} (h : xs.length = 256) : (smd xs).take 252 = xs.take 252 := by
  unfold smd
  rw [List.take_append_of_le_length (by rw [List.length_take]; omega), List.take_take]
  rfl
theorem smd_idem {xs : List Int} (h : xs.length = 256) : smd (smd xs) = smd xs := by
  show (smd xs).take 252 ++ le4 (crc ((smd xs).take 252)) = _
  rw [smd_take h]
  rfl
theorem pre_len (n k : Int) {ys : List Int} (h : ys.length ≤ 244) : (pre n k ys).length = 252 := by
  simp only [pre, List.length_append, List.length_cons, List.length_nil, List.length_replicate]; omega
theorem sec_len (n k : Int) {ys : List Int} (h : ys.length ≤ 244) : (sec n k ys).length = 256 := by
  simp only [sec, List.length_append, pre_len n k h, le4_len]
theorem sec_take (n k : Int) {ys : List Int} (h : ys.length ≤ 244) : (sec n k ys).take 252 = pre n k ys := by
  unfold sec
  rw [List.take_append_of_le_length (by rw [pre_len n k h]; exact Nat.le_refl _), List.take_of_length_le (by rw [pre_len n k h]; exact Nat.le_refl _)]
theorem sec_smd (n k : Int) {ys : List Int} (h : ys.length ≤ 244) : smd (sec n k ys) = sec n k ys := by
  unfold smd
  rw [sec_take n k h]
  rfl
theorem smd_pre (n k : Int) {ys zs : List Int} (h : ys.length ≤ 244) : smd (pre n k ys ++ zs) = sec n k ys := by
  unfold smd
  rw [List.take_append_of_le_length (by rw [pre_len n k h]; exact Nat.le_refl _), List.take_of_length_le (by rw [pre_len n k h]; exact Nat.le_refl _)]
  rfl
theorem pre_by {n k : Int} {ys : List Int} (hn : 0 ≤ n ∧ n ≤ 65535) (hk : 1 ≤ k ∧ k ≤ 4) (hy : By ys) (hl : ys.length ≤ 244) : By (pre n k ys) := by
  refine By.appendB (by_of_memB fun x hx => ?_) (hy.appendB (by_of_memB fun x hx => ?_))
  · simp only [List.mem_cons, List.not_mem_nil, or_false] at hx
    rcases hx with rfl | rfl | rfl | rfl | rfl | rfl | rfl | rfl <;> omega
  · rw [List.mem_replicate] at hx
    omega
theorem sec_by {n k : Int} {ys : List Int} (hn : 0 ≤ n ∧ n ≤ 65535) (hk : 1 ≤ k ∧ k ≤ 4) (hy : By ys) (hl : ys.length ≤ 244) : By (sec n k ys) := (pre_by hn hk hy hl).appendB (le4_by _)
theorem sec_0 (n k : Int) (ys : List Int) : (sec n k ys).getD 0 0 = k := rfl
theorem sec_1 (n k : Int) (ys : List Int) : (sec n k ys).getD 1 0 = (ys.length : Int) := rfl
theorem sec_bdy (n k : Int) {ys : List Int} (h : ys.length ≤ 244) : bdy (sec n k ys) = ys := by
  have e1 : bN (sec n k ys) 1 = ys.length := by show ((ys.length : Int)).toNat = _; omega
  have e2 : (sec n k ys).drop 8 = ys ++ (List.replicate (244 - ys.length) 0 ++ le4 (crc (pre n k ys))) := by
    show (ys ++ List.replicate (244 - ys.length) 0) ++ le4 (crc (pre n k ys)) = _
    rw [List.append_assoc]
  unfold bdy
  rw [e1, e2, Nat.min_eq_left h, List.take_append_of_le_length (Nat.le_refl _), List.take_of_length_le (Nat.le_refl _)]
theorem bdy_len {xs : List Int} (h : xs.length = 256) : (bdy xs).length = min (bN xs 1) 244 := by
  unfold bdy
  rw [List.length_take, List.length_drop, h]
  omega
theorem bdy_by {xs : List Int} (h : By xs) : By (bdy xs) := (h.dropB 8).take _
theorem mayK_iff {n k : Int} {l : Nat} : mayK n k l = true ↔ 0 ≤ n ∧ n ≤ 65535 ∧ 1 ≤ k ∧ k ≤ 4 ∧ l ≤ 240 := by unfold mayK; exact decide_eq_true_iff
theorem sec_inj {n n' k k' : Int} {ys ys' : List Int} (h : mayK n k ys.length = true) (h' : mayK n' k' ys'.length = true) (e : sec n k ys = sec n' k' ys') : n = n' ∧ k = k' ∧ ys = ys' := by
  obtain ⟨h1, h2, h3, h4, h5⟩ := mayK_iff.1 h
  obtain ⟨g1, g2, g3, g4, g5⟩ := mayK_iff.1 h'
  have e0 : k = k' := congrArg (fun l => List.getD l 0 0) e
  have e2 : n % 256 = n' % 256 := congrArg (fun l => List.getD l 2 0) e
  have e3 : n / 256 = n' / 256 := congrArg (fun l => List.getD l 3 0) e
  have e4 := congrArg bdy e
  rw [sec_bdy n k (by omega), sec_bdy n' k' (by omega)] at e4
  exact ⟨by omega, e0, e4⟩
theorem getE_put {n k : Int} {ys : List Int} (h : mayK n k ys.length = true) : getE n (sec n k ys) = 0 ∧ getB n (sec n k ys) = (k, ys) := by
  obtain ⟨h1, h2, h3, h4, h5⟩ := mayK_iff.1 h
  have hl : ys.length ≤ 244 := by omega
  have e : getE n (sec n k ys) = 0 := by
    unfold getE
    rw [if_neg (by rw [sec_len n k hl]; simp), if_neg (by rw [sec_smd n k hl]; simp), sec_bdy n k hl, sec_0, if_pos ⟨h, rfl⟩]
  refine ⟨e, ?_⟩
  unfold getB
  rw [if_pos e, sec_bdy n k hl, sec_0]
theorem getE_else {m n k : Int} {ys : List Int} (h : mayK n k ys.length = true) (hm : m ≠ n) : getE m (sec n k ys) = 7 := by
  obtain ⟨h1, h2, h3, h4, h5⟩ := mayK_iff.1 h
  have hl : ys.length ≤ 244 := by omega
  unfold getE
  rw [if_neg (by rw [sec_len n k hl]; simp), if_neg (by rw [sec_smd n k hl]; simp), sec_bdy n k hl, sec_0, if_neg]
  rintro ⟨g, e⟩
  exact hm (sec_inj h g e).1.symm

/- A burst over the whole sector, its sum too. -/

theorem c8_fold (m A b : Nat) : c8 8 (c8 m A ^^^ b) = c8 (m + 8) (A ^^^ 2 ^ m * b) := by rw [c8_add, c8_xor m, c8_pow]
theorem split8 (s : Nat) : s = s % 256 ^^^ 2 ^ 8 * (s / 256) := by
  apply Nat.eq_of_testBit_eq
  intro i
  have h1 := Nat.testBit_mod_two_pow s 8 i
  have h2 := Nat.testBit_two_pow_mul (i := 8) (a := s / 2 ^ 8) (j := i)
  have h3 : (s / 2 ^ 8).testBit (i - 8) = s.testBit (i - 8 + 8) := Nat.testBit_div_two_pow _ _
  rw [Nat.testBit_xor, show (256 : Nat) = 2 ^ 8 from rfl, h1, h2, h3]
  by_cases c : i < 8
  · have : ¬ 8 ≤ i := by omega
    simp [c, this]
  · have : 8 ≤ i := by omega
    simp [c, this, show i - 8 + 8 = i by omega]
theorem mul_xor8 (a b : Nat) : 2 ^ 8 * (a ^^^ b) = 2 ^ 8 * a ^^^ 2 ^ 8 * b := by
  apply Nat.eq_of_testBit_eq
  intro i
  rw [Nat.testBit_xor, Nat.testBit_two_pow_mul, Nat.testBit_two_pow_mul, Nat.testBit_two_pow_mul, Nat.testBit_xor]
  cases decide (i ≥ 8) <;> simp
theorem split32 (s : Nat) (h : s < 4294967296) : s = s % 256 ^^^ 2 ^ 8 * (s / 256 % 256) ^^^ 2 ^ 16 * (s / 65536 % 256) ^^^ 2 ^ 24 * (s / 16777216 % 256) := by
  have e1 := split8 s
  have e2 := split8 (s / 256)
  have e3 := split8 (s / 65536)
  have e4 : s / 16777216 % 256 = s / 16777216 := by omega
  rw [Nat.div_div_eq_div_mul] at e2 e3
  have m1 : ∀ a b : Nat, 2 ^ 8 * (a ^^^ b) = 2 ^ 8 * a ^^^ 2 ^ 8 * b := mul_xor8
  have f3 : 2 ^ 8 * (s / 65536) = 2 ^ 8 * (s / 65536 % 256) ^^^ 2 ^ 16 * (s / 16777216) := by
    have := congrArg (2 ^ 8 * ·) e3
    rw [m1, ← Nat.mul_assoc] at this
    exact this
  have f2 : 2 ^ 8 * (s / 256) = 2 ^ 8 * (s / 256 % 256) ^^^ (2 ^ 16 * (s / 65536 % 256) ^^^ 2 ^ 24 * (s / 16777216)) := by
    have := congrArg (2 ^ 8 * ·) e2
    rw [m1] at this
    rw [this]
    congr 1
    have h3 := congrArg (2 ^ 8 * ·) f3
    rw [m1, ← Nat.mul_assoc, ← Nat.mul_assoc, ← Nat.mul_assoc] at h3
    rw [← Nat.mul_assoc]
    exact h3
  rw [e4, Nat.xor_assoc, Nat.xor_assoc, ← f2]
  exact e1

theorem cR_take (xs : List Int) (m : Nat) : ∀ k, k ≤ m → cR (xs.take m) k = cR xs k
  | 0, _ => rfl
  | k + 1, h => by
    simp only [cR]
    rw [cR_take xs m k (by omega), List.getD_eq_getElem?_getD, List.getElem?_take, if_pos (by omega), ← List.getD_eq_getElem?_getD]

/-- Behind a sector whose sum is right the number is always the same. -/
theorem res_same {xs : List Int} (hl : xs.length = 256) (hb : By xs) (h : xs = smd xs) : cR xs 256 = c8 32 4294967295 := by
  obtain ⟨X, hX⟩ : ∃ X, cR xs 252 = X := ⟨_, rfl⟩
  have hXl : X < 4294967296 := hX ▸ cR_lt hb 252
  obtain ⟨s, hs⟩ : ∃ s, crc (xs.take 252) = s := ⟨_, rfl⟩
  have hs1 : s = 4294967295 - X := by
    rw [← hs]
    unfold crc
    rw [List.length_take, hl, show min 252 256 = 252 from rfl, cR_take xs 252 252 (Nat.le_refl _), hX]
  have hg : ∀ j, xs.getD (252 + j) 0 = (le4 s).getD j 0 := fun j => by
    have : xs.getD (252 + j) 0 = (smd xs).getD (252 + j) 0 := by rw [← h]
    rw [this]
    unfold smd
    rw [hs, List.getD_eq_getElem?_getD, List.getElem?_append_right (by rw [List.length_take]; omega), List.length_take, hl, show 252 + j - min 252 256 = j by omega, ← List.getD_eq_getElem?_getD]
  have g0 : (xs.getD 252 0).toNat = s % 256 := by rw [hg 0]; simp [le4]; omega
  have g1 : (xs.getD 253 0).toNat = s / 256 % 256 := by rw [hg 1]; simp [le4]; omega
  have g2 : (xs.getD 254 0).toNat = s / 65536 % 256 := by rw [hg 2]; simp [le4]; omega
  have g3 : (xs.getD 255 0).toNat = s / 16777216 % 256 := by rw [hg 3]; simp [le4]; omega
  have e : cR xs 256 = c8 8 (c8 8 (c8 8 (c8 8 (X ^^^ s % 256) ^^^ s / 256 % 256) ^^^ s / 65536 % 256) ^^^ s / 16777216 % 256) := by
    rw [← g0, ← g1, ← g2, ← g3, ← hX]
    rfl
  rw [e, show c8 8 (X ^^^ s % 256) = c8 8 (X ^^^ s % 256) from rfl, c8_fold 8 (X ^^^ s % 256) (s / 256 % 256), c8_fold (8 + 8), c8_fold (8 + 8 + 8)]
  show c8 32 _ = _
  congr 1
  have hsp := split32 s (by omega)
  rw [Nat.xor_assoc, Nat.xor_assoc, Nat.xor_assoc, ← Nat.xor_assoc (s % 256), ← Nat.xor_assoc (s % 256 ^^^ _)]
  rw [← hsp, hs1, ← not_nat X hXl, Nat.xor_comm 4294967295, ← Nat.xor_assoc, Nat.xor_self, Nat.zero_xor]

/-- Bits are the numbers. -/
theorem ext_bits {xs ys : List Int} (hl : ys.length = xs.length) (hx : By xs) (hy : By ys) (h : ∀ j i, j < xs.length → i < 8 → (bN ys j).testBit i = (bN xs j).testBit i) : ys = xs := by
  apply List.ext_getElem hl
  intro j h1 h2
  have e : bN ys j = bN xs j := by
    apply Nat.eq_of_testBit_eq
    intro i
    by_cases c : i < 8
    · exact h j i h2 c
    · have hp : 2 ^ 8 ≤ 2 ^ i := Nat.pow_le_pow_right (by decide) (by omega)
      rw [Nat.testBit_lt_two_pow (Nat.lt_of_lt_of_le (bN_lt hy j) hp), Nat.testBit_lt_two_pow (Nat.lt_of_lt_of_le (bN_lt hx j) hp)]
  have e1 := bN_eq hy j
  have e2 := bN_eq hx j
  rw [List.getD_eq_getElem?_getD, List.getElem?_eq_getElem h1] at e1
  rw [List.getD_eq_getElem?_getD, List.getElem?_eq_getElem h2] at e2
  simp only [Option.getD_some] at e1 e2
  rw [e1, e2, e]

/-- A change within 32 bits side by side is told. -/
theorem sec_told {xs ys : List Int} {A mask : Nat} (hl : xs.length = 256) (hm : ys.length = 256) (hx : By xs) (hy : By ys) (h : xs = smd xs) (hA : A ≤ 2048)
    (hbits : ∀ j i, j < 256 → i < 8 → (bN ys j).testBit i = ((bN xs j).testBit i ^^ dd A mask 2048 32 (8 * j + i))) : (∃ p, dd A mask 2048 32 p = true) ↔ ys ≠ smd ys := by
  have hb := burst_told xs ys A mask hx hy (by rw [hm, hl]) (by rw [hl]; exact hA) (by rw [hl]; exact hbits)
  rw [hl] at hb
  constructor
  · intro hp he
    refine hb.2 hp ?_
    unfold crc
    rw [hl, hm, res_same hl hx h, res_same hm hy he]
  · intro hne
    apply Classical.byContradiction
    intro hno
    have e : ys = xs := ext_bits (by rw [hm, hl]) hx hy (fun j i hj hi => by
      rw [hbits j i (by rw [hl] at hj; exact hj) hi]
      cases hp : dd A mask 2048 32 (8 * j + i) with
      | false => simp
      | true => exact absurd ⟨_, hp⟩ hno)
    rw [e] at hne
    exact hne h
end Go.Proofs.Ytgpaklifjonlkaa
/-
  What is read needs its block only where there is something to read.
-/
namespace Go.Proofs.Ytgpaklifjonlkaa
open Go.RowKit

theorem Rd.tch0 {S : Nat → Prop} {k : IntKind} {w w' : World} {v : Value} {xs : List Int} (h : Rd k w v xs) (ht : Tch S w w') (hn : ∀ b, v.ownBlock = some b → xs ≠ [] → ¬ S b) : Rd k w' v xs := by
  by_cases e : xs = []
  · subst e
    obtain ⟨a, c, rfl, h1, h2, h3, _⟩ := h
    exact ⟨a, c, rfl, h1, h2, h3, .inl rfl⟩
  · exact h.tch ht (fun b hb => hn b hb e)
theorem Rd.blk_lt {k : IntKind} {w : World} {v : Value} {xs : List Int} (h : Rd k w v xs) (h0 : xs ≠ []) {b : Nat} (hb : v.ownBlock = some b) : b < w.heap.size := by
  obtain ⟨a, c, rfl, h1, h2, h3, h4⟩ := h
  rcases h4 with e | ⟨b', o, rfl, hc⟩
  · exact absurd e h0
  · cases hb
    exact World.block_lt_of_cell? w ⟨b', o + 0, none⟩ (hc 0 (by cases xs with | nil => exact absurd rfl h0 | cons x r => simp))
end Go.Proofs.Ytgpaklifjonlkaa
/-
  The program's check sum.
-/
namespace Go.Proofs.Ytgpaklifjonlkaa
open Go.RowKit Pl
set_option linter.unusedVariables false

set_option maxRecDepth 100000 in
set_option maxHeartbeats 2000000 in
theorem crc_any (v : Value) (xs : List Int) (w : World) (hr : Rd .u8 w v xs) (hb : By xs) :
    Calls Try.prog 96 #[v] w fun e w' => e = .returned (.int .i64 (crc xs : Int)) ∧ w' = w := by
  obtain ⟨a, cap, rfl, hlc, hcm, _, hcc⟩ := hr
  have HC : Hid (xs = [] ∨ ∃ b o, a = some ⟨b, o, none⟩ ∧ ∀ i, i < xs.length → w.cell? ⟨b, o + i, none⟩ = some (.int .u8 (xs.getD i 0))) := hcc
  have HB : Hid (By xs) := hb
  have hm : xs.length ≤ 9223372036854775807 := by unfold maxLen at hcm; omega
  clear hcc hb hcm
  obtain ⟨R, hR⟩ : ∃ R, Hid (crc xs = R) := ⟨_, rfl⟩
  rw [hR.out]
  go_enter Try.func96, Try.ntmps96
  go_wp2_with fail
  go_loopw [3, 9] (fun x i wr => ∃ (k X : Nat), k ≤ xs.length ∧ i = .int .i64 k ∧ x = .int .u32 X ∧ X < 4294967296 ∧ Hid (cR xs k = X) ∧ wr = w) (fun _ i _ => xs.length - (intOf i).toNat)
  case atStart => exact ⟨0, 4294967295, Nat.zero_le _, rfl, rfl, by decide, rfl, rfl⟩
  case round =>
    obtain ⟨k, X, hk, rfl, rfl, hX, HX, rfl⟩ := hrel
    by_cases hlt : k < xs.length
    · obtain ⟨ab, ao, ha, hc⟩ : ∃ b o, a = some ⟨b, o, none⟩ ∧ ∀ i, i < xs.length → wr.cell? ⟨b, o + i, none⟩ = some (.int .u8 (xs.getD i 0)) := by
        rcases HC.out with rfl | h
        · simp at hlt
        · exact h
      subst ha
      obtain ⟨b, hb⟩ : ∃ b : Nat, Hid (xs.getD k 0 = (b : Int) ∧ b < 256) := by
        have := HB.out k
        exact ⟨(xs.getD k 0).toNat, by omega, by omega⟩
      have hb1 := hb.out.2
      have cx : wr.cell? ⟨ab, ao + k, none⟩ = some (.int .u8 (b : Int)) := by rw [hc k hlt, hb.out.1]
      have hx1 : Go.bits .xor .u32 (X : Int) (b : Int) = ((X ^^^ b : Nat) : Int) := u32_xor_nat X b hX (by omega)
      have hx2 : X ^^^ b < 4294967296 := Nat.xor_lt_two_pow (n := 32) hX (by omega)
      have HN : Hid (cR xs (k + 1) = c8 8 (X ^^^ b)) := by show _ = _; simp only [cR]; rw [HX.out, hb.out.1]; rfl
      obtain ⟨Y, hY⟩ : ∃ Y, X ^^^ b = Y := ⟨_, rfl⟩
      rw [hY] at hx1 hx2 HN
      clear hc HX hY
      go_wp2_with fail
      go_loopw [3, 17] (fun x i wr' => ∃ (j X : Nat), j ≤ 8 ∧ i = .int .i64 j ∧ x = .int .u32 X ∧ X < 4294967296 ∧ Hid (c8 j Y = X) ∧ wr' = wr) (fun _ i _ => 8 - (intOf i).toNat)
      case atStart => exact ⟨0, Y, Nat.zero_le _, rfl, rfl, hx2, rfl, rfl⟩
      case round =>
        obtain ⟨j, Z, hj, rfl, rfl, hZ, HZ, rfl⟩ := hrel
        by_cases hjl : j < 8
        · have hs := c1_prog Z hZ
          have hs2 := c1_lt hZ
          have HZ2 : Hid (c8 (j + 1) Y = c1 Z) := by show _ = _; simp only [c8]; rw [HZ.out]
          go_wp2_with fail
          go_roundw
          case rel => exact ⟨j + 1, c1 Z, by omega, by go_num, by first | rfl | (rw [hs]), hs2, HZ2, trivial⟩
          case measure => simp [intOf]; omega
        · obtain rfl : j = 8 := by omega
          rw [HZ.out] at HN
          go_wp2_with fail
          go_roundw
          case rel => exact ⟨k + 1, Z, by omega, by go_num, rfl, hZ, HN, trivial⟩
          case measure => simp [intOf]; omega
    · obtain rfl : k = xs.length := by omega
      have he : R = 4294967295 - X := by rw [← hR.out]; unfold crc; rw [HX.out]
      have hn := not_prog X hX
      have hn2 : wrap64 ((4294967295 - X : Nat) : Int) = (R : Int) := by rw [he, wrap64]; omega
      go_wp2_with fail
      go_ret
      exact ⟨rfl, rfl⟩
end Go.Proofs.Ytgpaklifjonlkaa
/-
  Parts of what can be read: 'v[l:h]', 'v[l:]', 'v[:h]'.
-/
namespace Go.Proofs.Ytgpaklifjonlkaa
open Go.RowKit Pl
set_option linter.unusedVariables false

theorem rd_sliced {k : IntKind} {w : World} {a : Option Addr} {cap : Nat} {xs : List Int} (h : Rd k w (.slice a xs.length cap) xs) (l m : Nat) (hl : l ≤ m) (hm : m ≤ xs.length) : Rd k w (sliced a l m cap 1) ((xs.drop l).take (m - l)) := by
  obtain ⟨a', cap', e, h1, h2, h3, h4⟩ := h
  cases e
  have el : ((xs.drop l).take (m - l)).length = m - l := by rw [List.length_take, List.length_drop]; omega
  unfold sliced
  rw [Nat.mul_one]
  by_cases hz : m - l = 0
  · have hnil : (xs.drop l).take (m - l) = [] := by rw [hz]; rfl
    rw [hnil, hz]
    refine ⟨_, cap - l, rfl, Nat.zero_le _, by omega, fun e => ?_, .inl rfl⟩
    by_cases c : cap = l
    · omega
    · rw [if_neg c] at e
      have : a = none := by simpa using e
      have := h3 this
      omega
  · rcases h4 with rfl | ⟨b, o, rfl, hc⟩
    · simp at hm; omega
    · rw [if_neg (by omega)]
      refine ⟨_, cap - l, by rw [el], by omega, by omega, fun e => (by cases e), .inr ⟨b, o + l, ?_, fun i hi => ?_⟩⟩
      · simp [Addr.add]
      · rw [el] at hi
        rw [Nat.add_assoc, hc (l + i) (by omega), List.getD_eq_getElem?_getD, List.getD_eq_getElem?_getD, List.getElem?_take, if_pos hi, List.getElem?_drop]

theorem size8 (w : World) : (sizeOf (Try.prog.elem 38)).run Try.prog w = .ok 1 w := by
  have h : (Try.prog.info? (Try.prog.elem 38)).map (·.size) = some 1 := by kernel_rfl
  obtain ⟨i, hi, hs⟩ := Option.map_eq_some_iff.1 h
  simp [sizeOf, typeInfo, hi, hs]

theorem under8 : Try.prog.underlying 38 = some (.slice (Try.prog.elem 38)) := by
  have : Try.prog.elem 38 = 5 := by kernel_rfl
  rw [this]
  exact Try.underlying38

/-- 'v[l:]' -/
theorem wpList_from (w w0 : World) {ops : Array Oper} {rest : List Oper} {o : Oper} {a : Act} {Q : Exit → Act → World → Prop} (hgd : o.guard = none) (x l : Operand)
    (ho : o.op = .slice 38 x (some l) none none) (v : Value) (xs : List Int) (hv : a.eval x = v) (hr : Rd .u8 w0 v xs) (m : Nat) (hl : a.eval l = .int .i64 (m : Int)) (hm : m ≤ xs.length)
    (h : ∀ v', Rd .u8 w0 v' (xs.drop m) → wpList Try.prog ops Q rest (a.put o.dst v') w) : wpList Try.prog ops Q (o :: rest) a w := by
  obtain ⟨b, cap, hb, _⟩ := id hr
  rw [hb] at hr
  have h2 := rd_sliced hr m xs.length hm (Nat.le_refl _)
  rw [show (xs.drop m).take (xs.length - m) = xs.drop m by rw [List.take_of_length_le]; rw [List.length_drop]; omega] at h2
  refine wpList_plain hgd fun K hK => ?_
  have hrun : (Instr.sliceAt 38 (.slice b xs.length cap) (some (.int .i64 (m : Int))) none none).run Try.prog w = .ok (sliced b m xs.length cap 1) w := by
    rw [run_sliceAt_slice _ _ _ _ _ _ under8, run_slice_l _ _ _ _ _ under8 _ _ (by omega) (by omega), size8]
    simp [Result.andThen]
  unfold Oper.wp execOp
  simp only [ho, hv, hl, hb, Option.map_some, Option.map_none, Sem.run_bind, hrun, Result.andThen_ok]
  exact hK _ _ (h _ h2)

/-- 'v[:m]' -/
theorem wpList_upto (w w0 : World) {ops : Array Oper} {rest : List Oper} {o : Oper} {a : Act} {Q : Exit → Act → World → Prop} (hgd : o.guard = none) (x l : Operand)
    (ho : o.op = .slice 38 x none (some l) none) (v : Value) (xs : List Int) (hv : a.eval x = v) (hr : Rd .u8 w0 v xs) (m : Nat) (hl : a.eval l = .int .i64 (m : Int)) (hm : m ≤ xs.length)
    (h : ∀ v', Rd .u8 w0 v' (xs.take m) → wpList Try.prog ops Q rest (a.put o.dst v') w) : wpList Try.prog ops Q (o :: rest) a w := by
  obtain ⟨b, cap, hb, hcap, _⟩ := id hr
  rw [hb] at hr
  have h2 := rd_sliced hr 0 m (Nat.zero_le _) hm
  rw [List.drop_zero, Nat.sub_zero] at h2
  refine wpList_plain hgd fun K hK => ?_
  have hrun : (Instr.sliceAt 38 (.slice b xs.length cap) none (some (.int .i64 (m : Int))) none).run Try.prog w = .ok (sliced b 0 m cap 1) w := by
    rw [run_sliceAt_slice _ _ _ _ _ _ under8, run_slice_h _ _ _ _ _ under8 _ _ (by omega) (by omega), size8]
    simp [Result.andThen]
  unfold Oper.wp execOp
  simp only [ho, hv, hl, hb, Option.map_some, Option.map_none, Sem.run_bind, hrun, Result.andThen_ok]
  exact hK _ _ (h _ h2)

/-- 'v[l:m]' -/
theorem wpList_mid (w w0 : World) {ops : Array Oper} {rest : List Oper} {o : Oper} {a : Act} {Q : Exit → Act → World → Prop} (hgd : o.guard = none) (x l q : Operand)
    (ho : o.op = .slice 38 x (some l) (some q) none) (v : Value) (xs : List Int) (hv : a.eval x = v) (hr : Rd .u8 w0 v xs) (p m : Nat) (hl : a.eval l = .int .i64 (p : Int)) (hq : a.eval q = .int .i64 ((p : Int) + (m : Int))) (hm : p + m ≤ xs.length)
    (h : ∀ v', Rd .u8 w0 v' ((xs.drop p).take m) → wpList Try.prog ops Q rest (a.put o.dst v') w) : wpList Try.prog ops Q (o :: rest) a w := by
  obtain ⟨b, cap, hb, hcap, _⟩ := id hr
  rw [hb] at hr
  have h2 := rd_sliced hr p (p + m) (by omega) hm
  rw [show p + m - p = m by omega] at h2
  refine wpList_plain hgd fun K hK => ?_
  have hrun : (Instr.sliceAt 38 (.slice b xs.length cap) (some (.int .i64 (p : Int))) (some (.int .i64 ((p : Int) + (m : Int)))) none).run Try.prog w = .ok (sliced b p (p + m) cap 1) w := by
    rw [run_sliceAt_slice _ _ _ _ _ _ under8, run_slice_lh _ _ _ _ _ under8 _ _ _ _ (by omega) (by omega) (by omega), size8]
    have e : ((p : Int) + (m : Int)).toNat = p + m := by omega
    simp [Result.andThen, e]
  unfold Oper.wp execOp
  simp only [ho, hv, hl, hq, hb, Option.map_some, Option.map_none, Sem.run_bind, hrun, Result.andThen_ok]
  exact hK _ _ (h _ h2)
end Go.Proofs.Ytgpaklifjonlkaa
/-
  Superblocks, plainly: which may be, their bytes, and what bytes tell.
-/
namespace Go.Proofs.Ytgpaklifjonlkaa
open Go.RowKit Pl
set_option linter.unusedVariables false

/-- A version. -/
structure Vn where
  id : Int
  root : Int
  nx : Int
  fx : Bool
deriving DecidableEq
/-- A superblock. -/
structure Sp where
  gen : Int
  sc : Int
  nx : Int
  vs : List Vn
deriving DecidableEq
def sp0 : Sp := ⟨0, 0, 0, []⟩

/-- May a version be where it stands? -/
def vOk (nx sc last : Int) (v : Vn) : Bool := decide ((last + 1 ≤ v.id ∧ v.id ≤ nx - 1) ∧ (1 ≤ v.nx ∧ v.nx ≤ 16777216) ∧ (v.root = 0 ∨ (50 ≤ v.root ∧ v.root ≤ sc - 1)))
def vsOk (nx sc : Int) : Int → List Vn → Bool
  | _, [] => true
  | last, v :: r => vOk nx sc last v && vsOk nx sc v.id r
/-- May a superblock be, but for its versions? -/
def hdOk (s : Sp) : Bool := decide (1 ≤ s.gen ∧ s.gen ≤ 4294967295 ∧ 1 ≤ s.nx ∧ s.nx ≤ 4294967295 ∧ 128 ≤ s.sc ∧ s.sc ≤ 4096 ∧ s.vs.length ≤ 8)
def mayU (s : Sp) : Bool := hdOk s && vsOk s.nx s.sc 0 s.vs

/-- So many bytes of a number, the lowest first. -/
def leN (k : Nat) (n : Int) : List Int := (List.range k).map fun i => n / 256 ^ i % 256
/-- The number of such bytes. -/
def vN : List Int → Int
  | [] => 0
  | b :: r => b + 256 * vN r
def vby (v : Vn) : List Int := leN 4 v.id ++ (leN 2 v.root ++ (leN 4 v.nx ++ [if v.fx then 1 else 0]))
def vsb (vs : List Vn) : List Int := vs.flatMap vby
def hdb (s : Sp) : List Int := [75, 73, 83, 84] ++ (leN 4 s.gen ++ (leN 2 s.sc ++ (leN 4 s.nx ++ leN 1 (s.vs.length : Int))))
/-- What stands ahead of the sum. -/
def upre (s : Sp) : List Int := hdb s ++ (vsb s.vs ++ List.replicate (237 - 11 * s.vs.length) 0)
/-- A superblock's sector. -/
def usec (s : Sp) : List Int := upre s ++ le4 (crc (upre s))

/-- Some bytes. -/
def sl (xs : List Int) (a k : Nat) : List Int := (xs.drop a).take k
def rdVn (f : Int → Bool) (xs : List Int) (a : Nat) : Vn := ⟨vN (sl xs a 4), vN (sl xs (a + 4) 2), vN (sl xs (a + 6) 4), f (xs.getD (a + 10) 0)⟩
def rdVs (f : Int → Bool) (xs : List Int) (n : Nat) : List Vn := (List.range n).map fun i => rdVn f xs (15 + 11 * i)
/-- What a sector says, be it so or not. -/
def rdS (f : Int → Bool) (xs : List Int) (n : Nat) : Sp := ⟨vN (sl xs 4 4), vN (sl xs 8 2), vN (sl xs 10 4), rdVs f xs n⟩

theorem leN_len (k : Nat) (n : Int) : (leN k n).length = k := by simp [leN]
theorem leN_succ (k : Nat) (n : Int) : leN (k + 1) n = leN k n ++ [n / 256 ^ k % 256] := by simp [leN, List.range_succ]
theorem leN_cons (k : Nat) (n : Int) : leN (k + 1) n = n % 256 :: leN k (n / 256) := by
  unfold leN
  rw [List.range_succ_eq_map, List.map_cons, List.map_map]
  congr 1
  · simp
  · apply List.map_congr_left
    intro i _
    show n / 256 ^ (i + 1) % 256 = n / 256 / 256 ^ i % 256
    rw [Int.pow_succ, Int.mul_comm, ← Int.ediv_ediv_of_nonneg (by omega)]
theorem leN_by (k : Nat) (n : Int) : By (leN k n) := by_of_memB fun x hx => by
  simp only [leN, List.mem_map] at hx
  obtain ⟨i, _, rfl⟩ := hx
  omega
theorem vN_leN : ∀ (k : Nat) (n : Int), 0 ≤ n → n < 256 ^ k → vN (leN k n) = n
  | 0, n, h0, h1 => by
    simp at h1
    have : n = 0 := by omega
    rw [this]
    rfl
  | k + 1, n, h0, h1 => by
    rw [leN_cons]
    show n % 256 + 256 * vN (leN k (n / 256)) = n
    rw [vN_leN k (n / 256) (by omega) (by rw [Int.pow_succ] at h1; omega)]
    omega
theorem vN_snoc (b : Int) : ∀ xs : List Int, vN (xs ++ [b]) = vN xs + 256 ^ xs.length * b
  | [] => by simp [vN]
  | x :: xs => by
    show x + 256 * vN (xs ++ [b]) = x + 256 * vN xs + 256 ^ (xs.length + 1) * b
    rw [vN_snoc b xs, Int.mul_add, Int.pow_succ, Int.mul_comm (256 ^ xs.length) 256, Int.mul_assoc, Int.add_assoc]
theorem vN_bnd : ∀ xs : List Int, By xs → 0 ≤ vN xs ∧ vN xs < 256 ^ xs.length
  | [], _ => by simp [vN]
  | x :: xs, h => by
    have h0 := h 0
    have h1 := vN_bnd xs (fun i => h (i + 1))
    simp at h0
    show 0 ≤ x + 256 * vN xs ∧ x + 256 * vN xs < 256 ^ (xs.length + 1)
    rw [Int.pow_succ]
    omega
theorem vby_len (v : Vn) : (vby v).length = 11 := by simp [vby, leN_len]
theorem vsb_len (vs : List Vn) : (vsb vs).length = 11 * vs.length := by
  induction vs with
  | nil => rfl
  | cons v r ih =>
    have e : vsb (v :: r) = vby v ++ vsb r := by simp [vsb]
    rw [e, List.length_append, vby_len, ih, List.length_cons]
    omega
theorem vsb_snoc (vs : List Vn) (v : Vn) : vsb (vs ++ [v]) = vsb vs ++ vby v := by simp [vsb]
theorem hdb_len (s : Sp) : (hdb s).length = 15 := by simp [hdb, leN_len]
theorem upre_len {s : Sp} (h : s.vs.length ≤ 8) : (upre s).length = 252 := by
  simp only [upre, List.length_append, hdb_len, vsb_len, List.length_replicate]; omega
theorem usec_len {s : Sp} (h : s.vs.length ≤ 8) : (usec s).length = 256 := by
  simp only [usec, List.length_append, upre_len h, le4_len]
theorem usec_take {s : Sp} (h : s.vs.length ≤ 8) : (usec s).take 252 = upre s := by
  unfold usec
  rw [List.take_append_of_le_length (by rw [upre_len h]; exact Nat.le_refl _), List.take_of_length_le (by rw [upre_len h]; exact Nat.le_refl _)]
theorem usec_smd {s : Sp} (h : s.vs.length ≤ 8) : usec s = smd (usec s) := by
  unfold smd
  rw [usec_take h]
  rfl
theorem vby_by (v : Vn) : By (vby v) := (leN_by _ _).appendB ((leN_by _ _).appendB ((leN_by _ _).appendB (by_of_memB fun x hx => by simp at hx; subst hx; split <;> omega)))
theorem vsb_by (vs : List Vn) : By (vsb vs) := by
  induction vs with
  | nil => exact by_of_memB fun x hx => by cases hx
  | cons v r ih =>
    have e : vsb (v :: r) = vby v ++ vsb r := by simp [vsb]
    rw [e]
    exact (vby_by v).appendB ih
theorem hdb_by (s : Sp) : By (hdb s) := (by_of_memB (by decide)).appendB ((leN_by _ _).appendB ((leN_by _ _).appendB ((leN_by _ _).appendB (leN_by _ _))))
theorem upre_by (s : Sp) : By (upre s) := (hdb_by s).appendB ((vsb_by _).appendB (by_of_memB fun x hx => by rw [List.mem_replicate] at hx; omega))
theorem usec_by (s : Sp) : By (usec s) := (upre_by s).appendB (le4_by _)

theorem mayU_iff {s : Sp} : mayU s = true ↔ (1 ≤ s.gen ∧ s.gen ≤ 4294967295 ∧ 1 ≤ s.nx ∧ s.nx ≤ 4294967295 ∧ 128 ≤ s.sc ∧ s.sc ≤ 4096 ∧ s.vs.length ≤ 8) ∧ vsOk s.nx s.sc 0 s.vs = true := by
  unfold mayU hdOk
  rw [Bool.and_eq_true, decide_eq_true_iff]
theorem vOk_iff {nx sc last : Int} {v : Vn} : vOk nx sc last v = true ↔ (last + 1 ≤ v.id ∧ v.id ≤ nx - 1) ∧ (1 ≤ v.nx ∧ v.nx ≤ 16777216) ∧ (v.root = 0 ∨ (50 ≤ v.root ∧ v.root ≤ sc - 1)) := by unfold vOk; exact decide_eq_true_iff
/-- Numbers of a version that may be. -/
theorem vsOk_mem {nx sc : Int} : ∀ {vs : List Vn} {last : Int}, 0 ≤ last → vsOk nx sc last vs = true → ∀ v ∈ vs, 1 ≤ v.id ∧ v.id ≤ nx - 1 ∧ 1 ≤ v.nx ∧ v.nx ≤ 16777216 ∧ (v.root = 0 ∨ (50 ≤ v.root ∧ v.root ≤ sc - 1))
  | [], _, _, _, v, hv => by cases hv
  | u :: r, last, h0, h, v, hv => by
    unfold vsOk at h
    rw [Bool.and_eq_true, vOk_iff] at h
    rcases List.mem_cons.1 hv with rfl | e
    · omega
    · exact vsOk_mem (last := u.id) (by omega) h.2 v e

theorem sl_app {xs ys zs : List Int} {a k : Nat} (h : xs.drop a = ys ++ zs) (hk : ys.length = k) : sl xs a k = ys ∧ xs.drop (a + k) = zs := by
  subst hk
  refine ⟨by unfold sl; rw [h, List.take_left], ?_⟩
  rw [← List.drop_drop, h, List.drop_left]
theorem vsb_drop (Z : List Int) : ∀ (vs : List Vn) (i : Nat) (v : Vn), vs[i]? = some v → ∃ R, (vsb vs ++ Z).drop (11 * i) = vby v ++ R
  | [], i, v, h => by simp at h
  | u :: r, 0, v, h => by
    simp at h
    subst h
    exact ⟨vsb r ++ Z, by simp [vsb]⟩
  | u :: r, i + 1, v, h => by
    obtain ⟨R, hR⟩ := vsb_drop Z r i v (by simpa using h)
    refine ⟨R, ?_⟩
    have e : vsb (u :: r) ++ Z = vby u ++ (vsb r ++ Z) := by simp [vsb]
    rw [e, show 11 * (i + 1) = 11 + 11 * i by omega, ← List.drop_drop, ← vby_len u, List.drop_left]
    rw [vby_len]
    exact hR
theorem rdVn_of {f : Int → Bool} (f1 : f 1 = true) (f0 : f 0 = false) {xs R : List Int} {a : Nat} {v : Vn} (h : xs.drop a = vby v ++ R) (h1 : 1 ≤ v.id) (h2 : v.id ≤ 4294967295) (h3 : 1 ≤ v.nx) (h4 : v.nx ≤ 16777216) (h5 : 0 ≤ v.root) (h6 : v.root ≤ 4096) : rdVn f xs a = v := by
  unfold vby at h
  simp only [List.append_assoc] at h
  obtain ⟨e1, g1⟩ := sl_app h (leN_len 4 _)
  obtain ⟨e2, g2⟩ := sl_app g1 (leN_len 2 _)
  obtain ⟨e3, g3⟩ := sl_app g2 (leN_len 4 _)
  have e4 : xs.getD (a + 10) 0 = if v.fx then 1 else 0 := by
    have e := congrArg (fun l => List.getD l 0 0) g3
    simp only [List.getD_eq_getElem?_getD, List.getElem?_drop] at e
    rw [List.getD_eq_getElem?_getD, show a + 10 = a + 4 + 2 + 4 + 0 by omega, e]
    rfl
  unfold rdVn
  rw [show a + 6 = a + 4 + 2 by omega, e1, e2, e3, e4, vN_leN 4 _ (by omega) (by omega), vN_leN 2 _ (by omega) (by omega), vN_leN 4 _ (by omega) (by omega)]
  obtain ⟨i, r, n, x⟩ := v
  cases x
  · simp [f0]
  · simp [f1]
/-- What a superblock's sector says is the superblock. -/
theorem rd_usec {f : Int → Bool} (f1 : f 1 = true) (f0 : f 0 = false) {s : Sp} (h : mayU s = true) : rdS f (usec s) s.vs.length = s ∧ (usec s).getD 14 0 = (s.vs.length : Int) := by
  obtain ⟨⟨h1, h2, h3, h4, h5, h6, h7⟩, hv⟩ := mayU_iff.1 h
  have e0 : usec s = [75, 73, 83, 84] ++ (leN 4 s.gen ++ (leN 2 s.sc ++ (leN 4 s.nx ++ (leN 1 (s.vs.length : Int) ++ (vsb s.vs ++ (List.replicate (237 - 11 * s.vs.length) 0 ++ le4 (crc (upre s)))))))) := by
    unfold usec
    conv => lhs; lhs; unfold upre hdb
    simp only [List.append_assoc]
  obtain ⟨_, g0⟩ := sl_app (xs := usec s) (a := 0) (k := 4) (by rw [List.drop_zero]; exact e0) rfl
  obtain ⟨e1, g1⟩ := sl_app g0 (leN_len 4 _)
  obtain ⟨e2, g2⟩ := sl_app g1 (leN_len 2 _)
  obtain ⟨e3, g3⟩ := sl_app g2 (leN_len 4 _)
  obtain ⟨e4, g4⟩ := sl_app g3 (leN_len 1 _)
  have hn : (usec s).getD 14 0 = (s.vs.length : Int) := by
    have e := congrArg (fun l => List.getD l 0 0) g3
    simp only [List.getD_eq_getElem?_getD, List.getElem?_drop] at e
    rw [List.getD_eq_getElem?_getD, show 14 = 0 + 4 + 4 + 2 + 4 + 0 by omega, e]
    simp [leN]
    omega
  refine ⟨?_, hn⟩
  unfold rdS
  rw [show (4 : Nat) = 0 + 4 from rfl, show (8 : Nat) = 0 + 4 + 4 from rfl, show (10 : Nat) = 0 + 4 + 4 + 2 from rfl, e1, e2, e3, vN_leN _ _ (by omega) (by omega), vN_leN _ _ (by omega) (by omega), vN_leN _ _ (by omega) (by omega)]
  have e5 : rdVs f (usec s) s.vs.length = s.vs := by
    apply List.ext_getElem?
    intro i
    unfold rdVs
    rw [List.getElem?_map]
    by_cases hi : i < s.vs.length
    · rw [List.getElem?_range hi]
      obtain ⟨v, hv1⟩ : ∃ v, s.vs[i]? = some v := ⟨_, List.getElem?_eq_getElem hi⟩
      rw [hv1, Option.map_some]
      congr 1
      obtain ⟨R, hR⟩ := vsb_drop (List.replicate (237 - 11 * s.vs.length) 0 ++ le4 (crc (upre s))) s.vs i v hv1
      have hm := vsOk_mem (Int.le_refl 0) hv v (List.mem_of_getElem? hv1)
      refine rdVn_of f1 f0 (R := R) ?_ (by omega) (by omega) (by omega) (by omega) (by omega) (by omega)
      rw [← List.drop_drop, show (15 : Nat) = 0 + 4 + 4 + 2 + 4 + 1 from rfl, g4]
      exact hR
    · rw [List.getElem?_eq_none (l := List.range s.vs.length) (by simp; omega), List.getElem?_eq_none (by omega)]
      rfl
  rw [e5]

/-- These bytes are that superblock's. -/
def IsU (xs : List Int) (s : Sp) : Prop := mayU s = true ∧ xs = usec s
theorem IsU.uniq {xs : List Int} {s t : Sp} (h : IsU xs s) (k : IsU xs t) : s = t := by
  have e := h.2.symm.trans k.2
  have a := rd_usec (f := fun x => x == 1) rfl rfl h.1
  have b := rd_usec (f := fun x => x == 1) rfl rfl k.1
  have n : s.vs.length = t.vs.length := by
    have := a.2.symm.trans ((congrArg (fun l => List.getD l 14 0) e).trans b.2)
    omega
  rw [← a.1, ← b.1, e, n]
/-- The superblock that bytes tell. -/
def getU (xs : List Int) : Option Sp := if mayU (rdS (fun x => x == 1) xs (xs.getD 14 0).toNat) = true ∧ xs = usec (rdS (fun x => x == 1) xs (xs.getD 14 0).toNat) then some (rdS (fun x => x == 1) xs (xs.getD 14 0).toNat) else none
theorem getU_some {xs : List Int} {s : Sp} : getU xs = some s ↔ IsU xs s := by
  constructor
  · intro h
    unfold getU at h
    split at h
    · rename_i c
      cases h
      exact c
    · cases h
  · intro h
    have a := rd_usec (f := fun x => x == 1) rfl rfl h.1
    rw [← h.2] at a
    have n : (xs.getD 14 0).toNat = s.vs.length := by rw [a.2]; rfl
    unfold getU
    rw [n, a.1, if_pos (⟨h.1, h.2⟩ : mayU s = true ∧ xs = usec s)]
theorem getU_none {xs : List Int} (h : ∀ s, ¬ IsU xs s) : getU xs = none := by
  cases e : getU xs with
  | none => rfl
  | some s => exact absurd (getU_some.1 e) (h s)
theorem getU_put {s : Sp} (h : mayU s = true) : getU (usec s) = some s := getU_some.2 ⟨h, rfl⟩
theorem getU_len {xs : List Int} (h : xs.length ≠ 256) : getU xs = none := getU_none fun s hs => h (by rw [hs.2]; exact usec_len (mayU_iff.1 hs.1).1.2.2.2.2.2.2)
/-- Whoever reads what stands there tells this. -/
theorem getU_rd {f : Int → Bool} (f1 : f 1 = true) (f0 : f 0 = false) {xs : List Int} {n : Nat} (hb : By xs) (hn : (n : Int) = xs.getD 14 0 ∨ (8 < n ∧ 8 < xs.getD 14 0)) : getU xs = if mayU (rdS f xs n) = true ∧ xs = usec (rdS f xs n) then some (rdS f xs n) else none := by
  split
  · rename_i c
    exact getU_some.2 c
  · rename_i c
    refine getU_none fun s hs => c ?_
    have a := rd_usec f1 f0 hs.1
    rw [← hs.2] at a
    have h8 := (mayU_iff.1 hs.1).1.2.2.2.2.2.2
    have e : n = s.vs.length := by
      rcases hn with h | h <;> omega
    rw [e, a.1]
    exact hs
end Go.Proofs.Ytgpaklifjonlkaa
/-
  The document's xor.
-/
namespace Go.Proofs.Ytgpaklifjonlkaa
open Go.RowKit Pl
set_option linter.unusedVariables false

theorem i64_xor (a b : Nat) (ha : a < 4294967296) (hb : b < 4294967296) : Go.bits .xor .i64 (a : Int) (b : Int) = ((a ^^^ b : Nat) : Int) := by
  have hx : a ^^^ b < 4294967296 := Nat.xor_lt_two_pow (n := 32) ha hb
  show IntKind.i64.wrap ((BitVec.ofInt 64 (a : Int) ^^^ BitVec.ofInt 64 (b : Int)).toNat : Int) = _
  rw [BitVec.toNat_xor, ofInt_u64 a (by omega), ofInt_u64 b (by omega), IntKind.wrap_i64]
  omega
theorem i64_and (a b : Nat) (ha : a < 4294967296) (hb : b < 4294967296) : Go.bits .and .i64 (a : Int) (b : Int) = ((a &&& b : Nat) : Int) := by
  have hx : a &&& b < 4294967296 := Nat.and_lt_two_pow (n := 32) a hb
  show IntKind.i64.wrap ((BitVec.ofInt 64 (a : Int) &&& BitVec.ofInt 64 (b : Int)).toNat : Int) = _
  rw [BitVec.toNat_and, ofInt_u64 a (by omega), ofInt_u64 b (by omega), IntKind.wrap_i64]
  omega

set_option maxRecDepth 100000 in
set_option maxHeartbeats 1000000 in
theorem xor_any (a b : Nat) (w : World) (ha : a < 4294967296) (hb : b < 4294967296) :
    Calls Try.prog 76 #[.int .i64 a, .int .i64 b] w fun e w' => e = .returned (.int .i64 ((a ^^^ b : Nat) : Int)) ∧ w' = w := by
  have hx := i64_xor a b ha hb
  generalize a ^^^ b = x at *
  go_enter Try.func76, Try.ntmps76
  go_wp2
  go_ret
  exact ⟨rfl, rfl⟩

end Go.Proofs.Ytgpaklifjonlkaa
/-
  The document's check sum.
-/
namespace Go.Proofs.Ytgpaklifjonlkaa
open Go.RowKit Pl
set_option linter.unusedVariables false

set_option maxRecDepth 100000 in
set_option maxHeartbeats 2000000 in
theorem refCrc_any (v : Value) (xs : List Int) (w : World) (hr : Rd .u8 w v xs) (hb : By xs) :
    Calls Try.prog 52 #[v] w fun e w' => e = .returned (.int .i64 (crc xs : Int)) ∧ Below w.heap.size w w' := by
  obtain ⟨a, cap, rfl, hlc, hcm, _, hcc⟩ := hr
  have HC : Hid (xs = [] ∨ ∃ b o, a = some ⟨b, o, none⟩ ∧ ∀ i, i < xs.length → w.cell? ⟨b, o + i, none⟩ = some (.int .u8 (xs.getD i 0))) := hcc
  have HB : Hid (By xs) := hb
  have hm : xs.length ≤ 9223372036854775807 := by unfold maxLen at hcm; omega
  clear hcc hb hcm
  obtain ⟨R, hR⟩ : ∃ R, Hid (crc xs = R) := ⟨_, rfl⟩
  rw [hR.out]
  go_enter Try.func52, Try.ntmps52
  go_wp2_with fail
  go_loopw [3, 4] (fun x i wr => ∃ (k X : Nat), k ≤ xs.length ∧ i = .int .i64 k ∧ x = .int .i64 X ∧ X < 4294967296 ∧ Hid (cR xs k = X) ∧ Hid (Below w.heap.size w wr)) (fun _ i _ => xs.length - (intOf i).toNat)
  case atStart => exact ⟨0, 4294967295, Nat.zero_le _, rfl, rfl, by decide, rfl, Below.refl _ _⟩
  case round =>
    obtain ⟨k, X, hk, rfl, rfl, hX, HX, B⟩ := hrel
    by_cases hlt : k < xs.length
    · obtain ⟨ab, ao, ha, hc⟩ : ∃ b o, a = some ⟨b, o, none⟩ ∧ ∀ i, i < xs.length → w.cell? ⟨b, o + i, none⟩ = some (.int .u8 (xs.getD i 0)) := by
        rcases HC.out with rfl | h
        · simp at hlt
        · exact h
      subst ha
      obtain ⟨b, hb⟩ : ∃ b : Nat, Hid (xs.getD k 0 = (b : Int) ∧ b < 256) := by
        have := HB.out k
        exact ⟨(xs.getD k 0).toNat, by omega, by omega⟩
      have hb1 := hb.out.2
      have cx : wr.cell? ⟨ab, ao + k, none⟩ = some (.int .u8 (b : Int)) := by
        have h0 := hc k hlt
        rw [B.out.cell (p := ⟨ab, ao + k, none⟩) (World.block_lt_of_cell? w ⟨ab, ao + k, none⟩ h0), h0, hb.out.1]
      have hx2 : X ^^^ b < 4294967296 := Nat.xor_lt_two_pow (n := 32) hX (by omega)
      have HX1 : ∀ W, Calls Try.prog 76 #[.int .i64 X, .int .i64 b] W fun e w' => e = .returned (.int .i64 ((X ^^^ b : Nat) : Int)) ∧ w' = W := fun W => xor_any X b W hX (by omega)
      have HN : Hid (cR xs (k + 1) = c8 8 (X ^^^ b)) := by show _ = _; simp only [cR]; rw [HX.out, hb.out.1]; rfl
      obtain ⟨Y, hY⟩ : ∃ Y, X ^^^ b = Y := ⟨_, rfl⟩
      rw [hY] at hx2 HN
      rw [hY] at HX1
      clear hc HX hY
      go_wp2_with (go_at_call 76; refine (HX1 _).mono ?_; rintro _ _ ⟨rfl, rfl⟩)
      clear HX1 cx
      go_loopw [3, 5] (fun x i wr => ∃ (j X : Nat), j ≤ 8 ∧ i = .int .i64 j ∧ x = .int .i64 X ∧ X < 4294967296 ∧ Hid (c8 j Y = X) ∧ Hid (Below w.heap.size w wr)) (fun _ i _ => 8 - (intOf i).toNat)
      case atStart => exact ⟨0, Y, Nat.zero_le _, rfl, rfl, hx2, rfl, by first | exact B | exact B.out.drew⟩
      case round =>
        clear B
        obtain ⟨j, Z, hj, rfl, rfl, hZ, HZ, B⟩ := hrel
        by_cases hjl : j < 8
        · have hs2 := c1_lt hZ
          have HZ2 : Hid (c8 (j + 1) Y = c1 Z) := by show _ = _; simp only [c8]; rw [HZ.out]
          obtain ⟨H, hH⟩ : ∃ H, Z / 2 = H := ⟨_, rfl⟩
          have hh : (Z : Int) / 2 = (H : Int) := by omega
          by_cases ho : Z % 2 = 1
          · have hm2 : (Z : Int) % 2 = 1 := by omega
            have e1 : c1 Z = H ^^^ 2197175160 := by unfold c1; rw [if_pos ho, hH]
            have HX2 : ∀ W, Calls Try.prog 76 #[.int .i64 H, .int .i64 2197175160] W fun e w' => e = .returned (.int .i64 ((H ^^^ 2197175160 : Nat) : Int)) ∧ w' = W := fun W => xor_any H 2197175160 W (by omega) (by decide)
            rw [e1] at hs2 HZ2
            obtain ⟨V, hV⟩ : ∃ V, H ^^^ 2197175160 = V := ⟨_, rfl⟩
            rw [hV] at hs2 HZ2
            rw [hV] at HX2
            clear HZ e1 hV hH ho
            go_wp2_with (go_at_call 76; refine (HX2 _).mono ?_; rintro _ _ ⟨rfl, rfl⟩)
            go_roundw
            case rel => exact ⟨j + 1, V, by omega, by go_num, rfl, hs2, HZ2, B⟩
            case measure => simp [intOf]; omega
          · have hm2 : (Z : Int) % 2 = 0 := by omega
            have e1 : c1 Z = H := by unfold c1; rw [if_neg ho, hH]
            rw [e1] at hs2 HZ2
            clear HZ e1 hH ho
            go_wp2_with fail
            go_roundw
            case rel => exact ⟨j + 1, H, by omega, by go_num, rfl, hs2, HZ2, B⟩
            case measure => simp [intOf]; omega
        · obtain rfl : j = 8 := by omega
          rw [HZ.out] at HN
          go_wp2_with fail
          go_roundw
          case rel => exact ⟨k + 1, Z, by omega, by go_num, rfl, hZ, HN, B⟩
          case measure => simp [intOf]; omega
    · obtain rfl : k = xs.length := by omega
      have he : R = 4294967295 - X := by rw [← hR.out]; unfold crc; rw [HX.out]
      have he2 : (4294967295 : Int) - (X : Int) = (R : Int) := by omega
      clear he
      go_wp2_with fail
      go_ret
      exact ⟨rfl, B.out⟩
end Go.Proofs.Ytgpaklifjonlkaa
/-
  When two rows of bytes are the same.
-/
namespace Go.Proofs.Ytgpaklifjonlkaa
open Go.RowKit Pl
set_option linter.unusedVariables false

set_option maxHeartbeats 1000000 in
theorem same_any (a b o p ca cb : Nat) (xs ys : List Int) (w : World) (hl : xs.length = ys.length) (h63 : xs.length ≤ 9223372036854775807)
    (hx : ∀ i, i < xs.length → w.cell? ⟨a, o + i, none⟩ = some (.int .u8 (xs.getD i 0))) (hy : ∀ i, i < ys.length → w.cell? ⟨b, p + i, none⟩ = some (.int .u8 (ys.getD i 0))) :
    Calls Try.prog 51 #[.slice (some ⟨a, o, none⟩) xs.length ca, .slice (some ⟨b, p, none⟩) xs.length cb] w fun e w' => e = .returned (.bool (decide (xs = ys))) ∧ Below w.heap.size w w' := by
  have HX : Hid (∀ i, i < xs.length → w.cell? ⟨a, o + i, none⟩ = some (.int .u8 (xs.getD i 0))) := hx
  have HY : Hid (∀ i, i < ys.length → w.cell? ⟨b, p + i, none⟩ = some (.int .u8 (ys.getD i 0))) := hy
  have HL : Hid (xs.length = ys.length) := hl
  clear hx hy hl
  go_enter Try.func51, Try.ntmps51
  go_wp2
  go_loopw [5] (fun i wr => ∃ k : Nat, k ≤ xs.length ∧ i = .int .i64 k ∧ Hid (∀ j, j < k → xs.getD j 0 = ys.getD j 0) ∧ Below w.heap.size w wr) (fun i _ => xs.length - (intOf i).toNat)
  case atStart => exact ⟨0, Nat.zero_le _, rfl, fun j hj => by omega, Below.refl _ _⟩
  case round =>
    obtain ⟨k, hk, rfl, hE, hB⟩ := hrel
    have HB : Hid (Below w.heap.size w wr) := hB
    clear hB
    by_cases hlt : k < xs.length
    · obtain ⟨x, hxe⟩ : ∃ x, Hid (xs.getD k 0 = x) := ⟨_, rfl⟩
      obtain ⟨y, hye⟩ : ∃ y, Hid (ys.getD k 0 = y) := ⟨_, rfl⟩
      have cx : wr.cell? ⟨a, o + k, none⟩ = some (.int .u8 x) := by
        have h := HX.out k hlt
        rw [HB.out.cell (p := ⟨a, o + k, none⟩) (World.block_lt_of_cell? w ⟨a, o + k, none⟩ h), h, hxe.out]
      have cy : wr.cell? ⟨b, p + k, none⟩ = some (.int .u8 y) := by
        have h := HY.out k (by rw [← HL.out]; exact hlt)
        rw [HB.out.cell (p := ⟨b, p + k, none⟩) (World.block_lt_of_cell? w ⟨b, p + k, none⟩ h), h, hye.out]
      by_cases hxy : x = y
      · have hd : (x != y) = false := by simp [hxy]
        have HXY : Hid (x = y) := hxy
        clear hxy
        go_wp2
        go_quiet (fail)
        go_wp2
        go_roundw
        case rel =>
          refine ⟨k + 1, by omega, by go_num, fun j hj => ?_, ?_⟩
          · by_cases e : j < k
            · exact hE.out j e
            · have : j = k := by omega
              subst this
              rw [hxe.out, hye.out]; exact HXY.out
          · exact HB.out.trans (Below.of_drewN _ _ _)
        case measure => simp [intOf]; omega
      · have hd : (x != y) = true := by simp [hxy]
        go_wp2
        go_quiet (fail)
        go_wp2
        go_ret
        refine ⟨?_, HB.out.trans (Below.of_drewN _ _ _)⟩
        have : ¬ xs = ys := fun e => hxy (by rw [← hxe.out, ← hye.out, e])
        simp [this]
    · go_wp2
      go_ret
      refine ⟨?_, HB.out⟩
      have : xs = ys := list_eq_of_getD HL.out fun i hi => hE.out i (by omega)
      simp [this]

theorem same_unlike (a b : Option Addr) (la lb ca cb : Nat) (w : World) (hl : la ≠ lb) :
    Calls Try.prog 51 #[.slice a la ca, .slice b lb cb] w fun e w' => e = .returned (.bool false) ∧ w' = w := by
  have h : ((la : Int) != (lb : Int)) = true := by simp; omega
  clear hl
  go_enter Try.func51, Try.ntmps51
  go_wp2
  go_ret
  exact ⟨rfl, rfl⟩

theorem same_empty (a b : Option Addr) (ca cb : Nat) (w : World) :
    Calls Try.prog 51 #[.slice a 0 ca, .slice b 0 cb] w fun e w' => e = .returned (.bool true) ∧ w' = w := by
  go_enter Try.func51, Try.ntmps51
  go_wp2
  go_loop [5] (fun i => i = .int .i64 0) (fun _ => 0)
  case atStart => rfl
  case round =>
    subst hrel
    go_wp2
    go_ret
    exact ⟨rfl, rfl⟩

/-- Two rows of bytes that can be read: are they the same? -/
theorem same_rd (u v : Value) (xs ys : List Int) (w : World) (hx : Rd .u8 w u xs) (hy : Rd .u8 w v ys) :
    Calls Try.prog 51 #[u, v] w fun e w' => e = .returned (.bool (decide (xs = ys))) ∧ Below w.heap.size w w' := by
  obtain ⟨a, ca, rfl, h1, h2, _, hx⟩ := hx
  obtain ⟨b, cb, rfl, h3, h4, _, hy⟩ := hy
  by_cases hl : xs.length = ys.length
  · rcases hx with rfl | ⟨ab, ao, rfl, hx⟩
    · have : ys = [] := List.eq_nil_of_length_eq_zero (by simpa using hl.symm)
      subst this
      refine (same_empty a b ca cb w).mono ?_
      rintro e w' ⟨rfl, rfl⟩
      exact ⟨by simp, Below.refl _ _⟩
    · rcases hy with rfl | ⟨bb, bo, rfl, hy⟩
      · have : xs = [] := List.eq_nil_of_length_eq_zero (by simpa using hl)
        subst this
        refine (same_empty _ b ca cb w).mono ?_
        rintro e w' ⟨rfl, rfl⟩
        exact ⟨by simp, Below.refl _ _⟩
      · have := same_any ab bb ao bo ca cb xs ys w hl (by unfold maxLen at h2; omega) hx hy
        rw [← hl]
        exact this
  · refine (same_unlike a b _ _ ca cb w hl).mono ?_
    rintro e w' ⟨rfl, rfl⟩
    have : ¬ xs = ys := fun e => hl (by rw [e])
    exact ⟨by simp [this], Below.refl _ _⟩
end Go.Proofs.Ytgpaklifjonlkaa
