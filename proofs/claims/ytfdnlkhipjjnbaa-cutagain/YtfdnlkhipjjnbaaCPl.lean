/-
  Chunks, plainly: gears, marks, where a chunk ends, where bytes are cut.
-/
import Derived.Test.YtfdnlkhipjjnbaaSSha
namespace Go.Proofs.Ytfdnlkhipjjnbaa
open Go.RowKit Pl
set_option linter.unusedVariables false

theorem sha_lt (xs : List Int) (i : Nat) : sha xs i < 256 := by unfold sha dgB; exact Nat.mod_lt _ (by decide)
/-- A byte's gear. -/
def gr (b : Nat) : Nat := sha [(b : Int)] 0 + 256 * sha [(b : Int)] 1 + 65536 * sha [(b : Int)] 2 + 16777216 * sha [(b : Int)] 3
theorem gr_lt (b : Nat) : gr b < 4294967296 := by
  have h0 := sha_lt [(b : Int)] 0
  have h1 := sha_lt [(b : Int)] 1
  have h2 := sha_lt [(b : Int)] 2
  have h3 := sha_lt [(b : Int)] 3
  unfold gr; omega
/-- The mark behind so many bytes. -/
def mk (b : Nat → Nat) : Nat → Nat
  | 0 => 0
  | n + 1 => (2 * mk b n + gr (b n)) % 4294967296
theorem mk_lt (b : Nat → Nat) (n : Nat) : mk b n < 4294967296 := by
  cases n with
  | zero => show 0 < 4294967296; decide
  | succ n => exact Nat.mod_lt _ (by decide)
theorem mk_congr {b c : Nat → Nat} (n : Nat) (h : ∀ j, j < n → b j = c j) : mk b n = mk c n := by
  induction n with
  | zero => rfl
  | succ n ih => simp only [mk]; rw [ih (fun j hj => h j (by omega)), h n (by omega)]
/-- A chunk may end behind so many of its bytes. -/
def Ht (b : Nat → Nat) (n : Nat) : Prop := 64 ≤ n ∧ mk b n % 128 = 0
theorem Ht.congr {b c : Nat → Nat} {n : Nat} (h : ∀ j, j < n → b j = c j) : Ht b n ↔ Ht c n := by unfold Ht; rw [mk_congr n h]
/-- The chunk of at most M bytes has n. -/
structure Cl (b : Nat → Nat) (M n : Nat) : Prop where
  pos : 1 ≤ n
  le : n ≤ M
  none : ∀ j, 1 ≤ j → j < n → ¬ Ht b j
  ends : n = M ∨ Ht b n
theorem Cl.uniq {b : Nat → Nat} {M n m : Nat} (h : Cl b M n) (h2 : Cl b M m) : n = m := by
  rcases Nat.lt_trichotomy n m with c | c | c
  · rcases h.ends with e | e
    · have := h2.le; omega
    · exact absurd e (h2.none n h.pos c)
  · exact c
  · rcases h2.ends with e | e
    · have := h.le; omega
    · exact absurd e (h.none m h2.pos c)
theorem Cl.congr {b c : Nat → Nat} {M n : Nat} (h : Cl b M n) (hbc : ∀ j, j < n → b j = c j) : Cl c M n :=
  ⟨h.pos, h.le, fun j h1 h2 e => h.none j h1 h2 ((Ht.congr fun i hi => hbc i (by omega)).2 e), h.ends.imp id fun e => (Ht.congr hbc).1 e⟩
/-- R bytes are cut so. -/
def Cs (b : Nat → Nat) : Nat → List Nat → Prop
  | R, [] => R = 0
  | R, n :: t => Cl b (min R 512) n ∧ Cs (fun j => b (n + j)) (R - n) t
theorem Cs.uniq : ∀ {l : List Nat} {b : Nat → Nat} {R : Nat} {m : List Nat}, Cs b R l → Cs b R m → l = m
  | [], b, R, [], _, _ => rfl
  | [], b, R, n :: t, h, h2 => by
    have e : R = 0 := h
    have h3 := h2.1
    have := h3.pos; have := h3.le; omega
  | n :: t, b, R, [], h, h2 => by
    have e : R = 0 := h2
    have h3 := h.1
    have := h3.pos; have := h3.le; omega
  | n :: t, b, R, m :: u, h, h2 => by
    have e := h.1.uniq h2.1
    subst e
    rw [Cs.uniq h.2 h2.2]
theorem Cs.congr : ∀ {l : List Nat} {b c : Nat → Nat} {R : Nat}, Cs b R l → (∀ j, j < R → b j = c j) → Cs c R l
  | [], b, c, R, h, _ => h
  | n :: t, b, c, R, h, hbc => by
    have := h.1.le
    refine ⟨h.1.congr fun j hj => hbc j (by omega), Cs.congr h.2 fun j hj => hbc (n + j) (by omega)⟩
/-- The chunks l, and so many bytes in them, are the first ones. -/
def Cp (b : Nat → Nat) (R s : Nat) (l : List Nat) : Prop := ∀ t, Cs (fun j => b (s + j)) (R - s) t → Cs b R (l ++ t)
theorem Cp.start (b : Nat → Nat) (R : Nat) : Cp b R 0 [] := fun t h => by simpa using h
theorem Cp.more {b : Nat → Nat} {R s n : Nat} {l : List Nat} (h : Cp b R s l) (hc : Cl (fun j => b (s + j)) (min (R - s) 512) n) : Cp b R (s + n) (l ++ [n]) := fun t ht => by
  rw [List.append_assoc]
  refine h _ ⟨hc, ?_⟩
  rw [show R - s - n = R - (s + n) by omega]
  have : (fun j => b (s + (n + j))) = fun j => b (s + n + j) := by funext j; rw [Nat.add_assoc]
  rw [this]
  exact ht
theorem Cp.all {b : Nat → Nat} {R : Nat} {l : List Nat} (h : Cp b R R l) : Cs b R l := by
  have := h [] (by show R - R = 0; omega)
  simpa using this
theorem Cs.len : ∀ {l : List Nat} {b : Nat → Nat} {R : Nat}, Cs b R l → l.length ≤ R
  | [], _, _, _ => Nat.zero_le _
  | n :: t, b, R, h => by
    have := Cs.len h.2
    have := h.1.pos; have := h.1.le
    simp only [List.length_cons]; omega

/-- Whether a chunk might end at a place. -/
def En (b : Nat → Nat) (L : Nat) (at_ : Int) : Bool := decide (7 ≤ at_ ∧ at_ ≤ (L : Int)) && (mk (fun j => b (at_.toNat - 7 + j)) 7 % 128 == 0)

theorem step128 (k : Nat) (x y g : Nat) (hk : k = 1 ∨ k = 2 ∨ k = 4 ∨ k = 8 ∨ k = 16 ∨ k = 32 ∨ k = 64) (h : x % k = y % k) : (2 * x + g) % 4294967296 % (2 * k) = (2 * y + g) % 4294967296 % (2 * k) := by
  rcases hk with rfl | rfl | rfl | rfl | rfl | rfl | rfl <;> omega
/-- The lowest seven bits of a mark hang on the last seven bytes alone. -/
theorem mk_seven (b : Nat → Nat) (m : Nat) : mk b (m + 7) % 128 = mk (fun j => b (m + j)) 7 % 128 := by
  have h1 : mk b (m + 1) % 2 = mk (fun j => b (m + j)) 1 % 2 := step128 1 _ _ _ (.inl rfl) (by omega)
  have h2 : mk b (m + 2) % 4 = mk (fun j => b (m + j)) 2 % 4 := step128 2 _ _ _ (.inr (.inl rfl)) h1
  have h3 : mk b (m + 3) % 8 = mk (fun j => b (m + j)) 3 % 8 := step128 4 _ _ _ (.inr (.inr (.inl rfl))) h2
  have h4 : mk b (m + 4) % 16 = mk (fun j => b (m + j)) 4 % 16 := step128 8 _ _ _ (.inr (.inr (.inr (.inl rfl)))) h3
  have h5 : mk b (m + 5) % 32 = mk (fun j => b (m + j)) 5 % 32 := step128 16 _ _ _ (.inr (.inr (.inr (.inr (.inl rfl))))) h4
  have h6 : mk b (m + 6) % 64 = mk (fun j => b (m + j)) 6 % 64 := step128 32 _ _ _ (.inr (.inr (.inr (.inr (.inr (.inl rfl)))))) h5
  exact step128 64 _ _ _ (.inr (.inr (.inr (.inr (.inr (.inr rfl)))))) h6
theorem en_ht (b : Nat → Nat) (L s n : Nat) (h : 64 ≤ n) (hL : s + n ≤ L) : En b L ((s + n : Nat) : Int) = true ↔ Ht (fun j => b (s + j)) n := by
  obtain ⟨m, rfl⟩ : ∃ m, n = m + 7 := ⟨n - 7, by omega⟩
  unfold En Ht
  rw [mk_seven (fun j => b (s + j)) m]
  have e : (fun j => b ((((s + (m + 7) : Nat) : Int)).toNat - 7 + j)) = fun j => b (s + (m + j)) := by
    funext j
    congr 1
    omega
  rw [e]
  have hd : (7 : Int) ≤ ((s + (m + 7) : Nat) : Int) ∧ ((s + (m + 7) : Nat) : Int) ≤ (L : Int) := by omega
  simp only [hd, and_self, decide_true, Bool.true_and, beq_iff_eq]
  exact ⟨fun e => ⟨h, e⟩, fun e => e.2⟩

/-- What is alike is cut alike. -/
theorem Cs.again : ∀ {a : List Nat} {x : Nat} {b c : Nat → Nat} {R T : Nat} {t : List Nat}, Cs b R (a ++ [x]) → (∀ j, j < R - x → b j = c j) → Cs (fun j => c (R - x + j)) T t → x ≤ R → Cs c (R - x + T) (a ++ t)
  | [], x, b, c, R, T, t, h, _, ht, hx => by
    have h0 : R - x = 0 := h.2
    rw [h0] at ht ⊢
    simpa using ht
  | n :: a, x, b, c, R, T, t, h, hbc, ht, hx => by
    have h1 := h.1
    have hR : ∀ {a : List Nat} {b : Nat → Nat} {R : Nat}, Cs b R (a ++ [x]) → x ≤ R := by
      intro a
      induction a with
      | nil => intro b R h; have := h.1.le; omega
      | cons m a ih => intro b R h; have := ih h.2; omega
    have hx2 : x ≤ R - n := hR h.2
    have hn := h1.le
    have hp := h1.pos
    have hx0 : 0 < x := by
      have : ∀ {a : List Nat} {b : Nat → Nat} {R : Nat}, Cs b R (a ++ [x]) → 0 < x := by
        intro a
        induction a with
        | nil => intro b R h; exact h.1.pos
        | cons m a ih => intro b R h; exact ih h.2
      exact this h
    refine ⟨⟨hp, by omega, fun j h2 h3 e => h1.none j h2 h3 ((Ht.congr fun i hi => hbc i (by omega)).2 e), ?_⟩, ?_⟩
    · rcases h1.ends with e | e
      · exact .inl (by omega)
      · exact .inr ((Ht.congr fun i hi => hbc i (by omega)).1 e)
    · have h4 := Cs.again (c := fun j => c (n + j)) (T := T) (t := t) h.2 (fun j hj => hbc (n + j) (by omega)) (by
        have : (fun j => c (n + (R - n - x + j))) = fun j => c (R - x + j) := by funext j; congr 1; omega
        simp only [this]; exact ht) hx2
      rw [show R - n - x + T = R - x + T - n by omega] at h4
      exact h4

/-- All chunks are whole. -/
theorem Cs.sum : ∀ {l : List Nat} {b : Nat → Nat} {R : Nat}, Cs b R l → l.foldr (· + ·) 0 = R
  | [], _, R, h => by have : R = 0 := h; simp [this]
  | n :: t, b, R, h => by
    have := h.1.le
    simp only [List.foldr_cons]
    rw [Cs.sum h.2]; omega
end Go.Proofs.Ytfdnlkhipjjnbaa
