/-
  What records make of sectors, and what sectors tell of records, plainly.
-/
import Derived.Test.YtaacidgihhcpkaaJApl
namespace Go.Proofs.Ytaacidgihhcpkaa
open Go.RowKit Pl
set_option linter.unusedVariables false

/-- This record stands there. -/
def CurAt (f : Nat → List Int) (g n a : Nat) (ys : List Int) : Prop := ∀ i, i < npc ys.length → f (a + i) = jsec (pcA g n ys i)
/-- Where record r begins. -/
def stt (rows : List (List Int)) (r : Nat) : Nat := 2 + ((rows.take r).map fun ys => npc ys.length).sum
theorem stt_0 (rows : List (List Int)) : stt rows 0 = 2 := rfl
theorem stt_succ {rows : List (List Int)} {r : Nat} (h : r < rows.length) : stt rows (r + 1) = stt rows r + npc (rows.getD r []).length := by
  unfold stt
  rw [List.take_succ_eq_append_getElem h, List.map_append, List.sum_append, List.getD_eq_getElem?_getD, List.getElem?_eq_getElem h]
  simp
  omega
theorem stt_app {rows : List (List Int)} (ys : List Int) {r : Nat} (h : r ≤ rows.length) : stt (rows ++ [ys]) r = stt rows r := by
  unfold stt
  rw [List.take_append_of_le_length h]
theorem stt_end (rows : List (List Int)) (ys : List Int) : stt (rows ++ [ys]) (rows.length + 1) = stt rows rows.length + npc ys.length := by
  rw [stt_succ (by simp), stt_app ys (Nat.le_refl _)]
  simp
theorem stt_mono {rows : List (List Int)} {r q : Nat} (h : r ≤ q) (hq : q ≤ rows.length) : stt rows r + (q - r) ≤ stt rows q := by
  induction q with
  | zero =>
    have : r = 0 := by omega
    subst this; simp
  | succ q ih =>
    by_cases e : r = q + 1
    · subst e; omega
    · have h1 := ih (by omega) (by omega)
      have h2 := npc_pos (rows.getD q []).length
      rw [stt_succ (by omega)]
      omega
theorem stt_2 (rows : List (List Int)) (r : Nat) : 2 ≤ stt rows r := by unfold stt; omega

theorem rec_good {f : Nat → List Int} {g n a : Nat} {ys : List Int} (h : CurAt f g n a ys) (ha : 2 ≤ a) (hl : a + npc ys.length ≤ 50) (hg : g < 4294967296) (hn : n < 4294967296) : JGood f g n a ∧ jmn f a = npc ys.length ∧ jdat f a (npc ys.length) = ys := by
  have hp := npc_pos ys.length
  have hok : ∀ i, i < npc ys.length → OkR (pcA g n ys i) := fun i hi => pcA_ok hi (by omega) hg hn
  have hmn : jmn f a = npc ys.length := by
    unfold jmn
    have e := h 0 hp
    rw [Nat.add_zero] at e
    rw [e]
    have := congrArg Pc.mn (rdP_jsec (hok 0 hp))
    exact this
  refine ⟨⟨by omega, by omega, fun i hi => ?_⟩, hmn, ?_⟩
  · rw [hmn] at hi ⊢
    rw [h i hi]
    exact isP_of (hok i hi) (pcA_may hi)
  · have e : ∀ m, m ≤ npc ys.length → jdat f a m = (List.range m).flatMap (chk ys) := by
      intro m
      induction m with
      | zero => intro _; rfl
      | succ m ih =>
        intro hm
        rw [jdat_succ, ih (by omega), h m (by omega), rdP_jsec (hok m (by omega)), List.range_succ, List.flatMap_append]
        simp [pcA]
    rw [e _ (Nat.le_refl _), chk_whole]

/-- The first R records stand, and then none: they are what is told. -/
theorem open_take {f : Nat → List Int} {g : Nat} {rows : List (List Int)} {R : Nat} (hR : R ≤ rows.length) (hc : ∀ r, r < R → CurAt f g (r + 1) (stt rows r) (rows.getD r [])) (he : ¬ (stt rows R < 50 ∧ JGood f g (R + 1) (stt rows R))) (hl : stt rows R ≤ 50) (hg : g < 4294967296) : jopen f g = rows.take R := by
  have key : ∀ r, r ≤ R → jopen f g = rows.take r ++ jrun f g (48 - r) (r + 1) (stt rows r) := by
    intro r
    induction r with
    | zero => intro _; rfl
    | succ r ih =>
      intro hr
      have h1 := ih (by omega)
      have hrl : r < rows.length := by omega
      have m1 := stt_mono (rows := rows) (r := 0) (q := r) (by omega) (by omega)
      have m2 := stt_mono (rows := rows) (r := r + 1) (q := R) hr hR
      have m3 := stt_succ hrl
      have m4 := npc_pos (rows.getD r []).length
      rw [stt_0] at m1
      obtain ⟨q1, q2, q3⟩ := rec_good (hc r (by omega)) (stt_2 _ _) (by omega) hg (by omega)
      rw [h1, show 48 - r = (48 - (r + 1)) + 1 by omega, jrun_go (by omega) q1, q2, q3, m3, List.take_succ_eq_append_getElem hrl, List.append_assoc, List.getD_eq_getElem?_getD, List.getElem?_eq_getElem hrl]
      rfl
  rw [key R (Nat.le_refl _), jrun_end _ _ _ _ _ he, List.append_nil]

/-- No piece of this generation. -/
def Nop (x : List Int) (g : Nat) : Prop := ∀ i m n, ¬ IsP x i m g n
theorem nop_bad {f : Nat → List Int} {g n a : Nat} (h : a < 50 → Nop (f a) g) : ¬ (a < 50 ∧ JGood f g n a) := by
  rintro ⟨h1, h2, _, h3⟩
  have := h3 0 (by omega)
  rw [Nat.add_zero] at this
  exact h h1 _ _ _ this
theorem nop_zz (g : Nat) : Nop (List.replicate 256 0) g := fun i m n => not_isP_zz
theorem nop_gen {p : Pc} (h : OkR p) {g : Nat} (hg : p.gen ≠ g) : Nop (jsec p) g := fun i m n hp => hg ((isP_jsec h).1 hp).2.2.2.1
/-- A record with one bad sector is none. -/
theorem cur_bad {f : Nat → List Int} {g n a : Nat} {ys : List Int} (ha : 2 ≤ a) (hl : a + npc ys.length ≤ 50) (hg : g < 4294967296) (hn : n < 4294967296) {q : Nat} (hq : q < npc ys.length) (h : ∀ i, i < q → f (a + i) = jsec (pcA g n ys i)) (hb : Nop (f (a + q)) g) : ¬ (a < 50 ∧ JGood f g n a) := by
  rintro ⟨h1, h2, _, h3⟩
  by_cases q0 : q = 0
  · subst q0
    have := h3 0 (by omega)
    exact hb _ _ _ this
  · have e := h 0 (by omega)
    rw [Nat.add_zero] at e
    have hmn : jmn f a = npc ys.length := by
      unfold jmn
      rw [e]
      exact congrArg Pc.mn (rdP_jsec (pcA_ok (n := n) (g := g) (by omega : 0 < npc ys.length) (by omega) hg hn))
    have := h3 q (by omega)
    exact hb _ _ _ this

/-- The appended record stands behind the others. -/
theorem cur_app {s : DS} (hc : s.c = false) {g : Nat} {rows : List (List Int)} {ys : List Int} (h : ∀ r, r < rows.length → CurAt s.has g (r + 1) (stt rows r) (rows.getD r [])) :
    ∀ r, r < (rows ++ [ys]).length → CurAt (jap s g (rows.length + 1) (stt rows rows.length) ys (npc ys.length)).has g (r + 1) (stt (rows ++ [ys]) r) ((rows ++ [ys]).getD r []) := by
  intro r hr i hi
  rw [jap_has _ _ _ _ _ hc]
  simp only [List.length_append, List.length_cons, List.length_nil] at hr
  rw [stt_app ys (by omega)]
  by_cases e : r < rows.length
  · have eg : (rows ++ [ys]).getD r [] = rows.getD r [] := by rw [List.getD_eq_getElem?_getD, List.getElem?_append_left e, ← List.getD_eq_getElem?_getD]
    rw [eg] at hi ⊢
    have m1 := stt_mono (rows := rows) (r := r + 1) (q := rows.length) (by omega) (Nat.le_refl _)
    rw [stt_succ e] at m1
    rw [if_neg (by omega)]
    exact h r e i hi
  · have e2 : r = rows.length := by omega
    subst e2
    have eg : (rows ++ [ys]).getD rows.length [] = ys := by simp
    rw [eg] at hi ⊢
    rw [if_pos (by omega), Nat.add_sub_cancel_left]

/- How many versions sectors have while a journal is appended to; which sectors are dirty. -/

theorem wr_Vlen {s : DS} (hc : s.c = false) (i : Nat) (x : List Int) (j : Nat) : ((s.wr i x).V j).length = (s.V j).length + if j = i then 1 else 0 := by
  rw [wr_V hc]
  unfold vput
  by_cases h : j = i
  · subst h; simp
  · rw [if_neg h, if_neg h]; rfl
theorem jap_Vlen {s : DS} (hc : s.c = false) (g n a : Nat) (ys : List Int) : ∀ k j, ((jap s g n a ys k).V j).length = (s.V j).length + if a ≤ j ∧ j < a + k then 1 else 0
  | 0, j => by rw [if_neg (by omega)]; rfl
  | k + 1, j => by
    rw [jap, wr_Vlen (by rw [jap_c]; exact hc), jap_Vlen hc g n a ys k j]
    by_cases h1 : j = a + k
    · rw [if_pos h1, if_neg (by omega), if_pos (by omega)]
    · rw [if_neg h1]
      by_cases h2 : a ≤ j ∧ j < a + k
      · rw [if_pos h2, if_pos (by omega)]
      · rw [if_neg h2, if_neg (by omega)]
/-- Each of the sectors up to a was written once. -/
def VI (s : DS) (a : Nat) : Prop := ∀ p, (s.V p).length = if 2 ≤ p ∧ p < a then 1 else 0
theorem VI.app {s : DS} {a : Nat} (h : VI s a) (hc : s.c = false) (ha : 2 ≤ a) (g n : Nat) (ys : List Int) (k : Nat) : VI (jap s g n a ys k) (a + k) := fun p => by
  rw [jap_Vlen hc, h p]
  by_cases h1 : 2 ≤ p ∧ p < a
  · rw [if_pos h1, if_neg (by omega), if_pos (by omega)]
  · rw [if_neg h1]
    by_cases h2 : a ≤ p ∧ p < a + k
    · rw [if_pos h2, if_pos (by omega)]
    · rw [if_neg h2, if_neg (by omega)]
theorem VI.le {s : DS} {a : Nat} (h : VI s a) (p : Nat) : (s.V p).length < 274877906000 := by
  rw [h p]; split <;> omega
theorem filter_len (a : Nat) (ha : 2 ≤ a) : ∀ n, ((List.range n).filter fun p => decide (2 ≤ p ∧ p < a)).length = min n a - 2
  | 0 => by simp
  | n + 1 => by
    rw [List.range_succ, List.filter_append, List.length_append, filter_len a ha n]
    by_cases h : 2 ≤ n ∧ n < a
    · rw [List.filter_cons_of_pos (by simp [h])]; simp; omega
    · rw [List.filter_cons_of_neg (by simp; omega)]; simp; omega
theorem VI.dirty {s : DS} {a : Nat} (h : VI s a) (ha : 2 ≤ a) (hl : a ≤ s.L.length) : s.dirty.length = a - 2 := by
  unfold DS.dirty
  have e : (List.range s.L.length).filter (fun i => decide (s.V i ≠ [])) = (List.range s.L.length).filter (fun p => decide (2 ≤ p ∧ p < a)) := by
    apply List.filter_congr
    intro p _
    have := h p
    by_cases c : 2 ≤ p ∧ p < a
    · rw [if_pos c] at this
      rw [decide_eq_true c, decide_eq_true]
      intro e; rw [e] at this; cases this
    · rw [if_neg c] at this
      rw [decide_eq_false c, decide_eq_false]
      intro e; exact e (List.eq_nil_of_length_eq_zero this)
  rw [e, filter_len a ha]
  omega
theorem need_eq (l : Nat) (h : 0 < l) : (l + 231) / 232 = npc l := by
  rcases npc_cases l with h1 | h1
  · omega
  · rw [h1.2]; omega
end Go.Proofs.Ytaacidgihhcpkaa
