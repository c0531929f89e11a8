import Derived.Test.YtkjcfhebkfppdaaUH24
import Derived.Test.YtkjcfhebkfppdaaUH25
import Derived.Test.YtkjcfhebkfppdaaUH19
import Derived.Test.YtkjcfhebkfppdaaUH23
/-
  What two sectors hold when the power goes, and when a bit rots.
-/
namespace Go.Proofs.Ytkjcfhebkfppdaa
open Go.RowKit Pl
set_option linter.unusedVariables false
set_option linter.unusedSimpArgs false
set_option maxRecDepth 100000

/-- A disk of 128 sectors that has nothing to flush. -/
structure Qt (s : DS) : Prop where
  len : s.L.length = 128
  V : ∀ i, s.V i = []
  c : s.c = false

theorem qt_new : Qt (DS.new 128) := ⟨by simp [DS.new], fun i => rfl, rfl⟩

theorem wrr_Vh {s : DS} (at_ : Int) (b : List Int) {k : Nat} (h : ∀ i, (s.V i).length ≤ k) : ∀ i, ((wrr s at_ b).V i).length ≤ k + 1 := by
  intro i
  have hi := h i
  unfold wrr
  split
  · omega
  · split
    · have := wr_V_le s at_.toNat b i; omega
    · omega

section
variable {s : DS}
theorem Qt.wrr (h : Qt s) {j : Nat} (hj : j < 128) {x : List Int} (hx : x.length = 256) : wrr s (j : Int) x = { s with V := vput s.V j [x], l := s.l } := by
  unfold Proofs.Ytkjcfhebkfppdaa.wrr
  rw [if_neg (by rw [h.len]; omega), if_pos hx]
  unfold DS.wr DS.can DS.tick
  rw [h.c, Int.toNat_natCast, h.V j]
  simp [h.c]

theorem pers_one {s : DS} {j : Nat} {x : List Int} {ds : List Nat} {ps : List Int} (hV : s.V j = [x]) (hd : ∀ k, k < ds.length → ds.getD k 0 = j) : ∀ k, k ≤ ds.length → ((s.pers ds ps k).V j = [x] ∨ (s.pers ds ps k).V j = []) ∧ ((s.pers ds ps k).L = s.L ∨ (s.pers ds ps k).L = s.L.set j x)
  | 0, _ => ⟨.inl hV, .inl rfl⟩
  | k + 1, hk => by
    obtain ⟨h1, h2⟩ := pers_one hV hd k (by omega)
    rw [DS.pers, hd k (by omega)]
    generalize s.pers ds ps k = p at h1 h2
    refine ⟨.inr (by unfold DS.per vput; simp), ?_⟩
    unfold DS.per
    dsimp only
    rcases h1 with h1 | h1
    · rw [h1]
      split
      · rename_i c
        have e : rem (ps.getD k 0) [x].length = 1 := by
          have : rem (ps.getD k 0) [x].length ≤ 1 := by unfold rem; simp; omega
          omega
        rw [e]
        right
        rcases h2 with h2 | h2
        · rw [h2]; rfl
        · rw [h2, List.set_set]; rfl
      · exact h2
    · rw [h1]
      have e : rem (ps.getD k 0) ([] : List (List Int)).length = 0 := by unfold rem; simp
      rw [e, if_neg (by decide)]
      exact h2

theorem Qt.cut (h : Qt s) {j : Nat} (hj : j < 128) {x : List Int} (hx : x.length = 256) (ps : List Int) : Qt ((Proofs.Ytkjcfhebkfppdaa.wrr s (j : Int) x).pw ps) ∧ (((Proofs.Ytkjcfhebkfppdaa.wrr s (j : Int) x).pw ps).L = s.L ∨ ((Proofs.Ytkjcfhebkfppdaa.wrr s (j : Int) x).pw ps).L = s.L.set j x) := by
  rw [h.wrr hj hx]
  generalize hs1 : ({ s with V := vput s.V j [x], l := s.l } : DS) = s1
  have hL : s1.L = s.L := by rw [← hs1]
  have hV : s1.V = vput s.V j [x] := by rw [← hs1]
  have hVj : s1.V j = [x] := by rw [hV]; simp [vput]
  have hVo : ∀ i, i ≠ j → s1.V i = [] := fun i hi => by rw [hV]; unfold vput; rw [if_neg hi]; exact h.V i
  have hd : ∀ k, k < s1.dirty.length → s1.dirty.getD k 0 = j := fun k hk => by
    have e : s1.dirty.getD k 0 = s1.dirty[k] := by rw [List.getD_eq_getElem?_getD, List.getElem?_eq_getElem hk]; rfl
    rw [e]
    have hm := (dirty_mem.1 (List.getElem_mem hk)).2
    apply Classical.byContradiction
    intro hn
    exact hm (hVo _ hn)
  refine ⟨⟨by rw [pw_len, hL]; exact h.len, fun i => pw_V s1 ps (fun i hi => hVo i (by rw [hL, h.len] at hi; omega)) i, rfl⟩, ?_⟩
  have := (pers_one (ps := ps) hVj hd s1.dirty.length (Nat.le_refl _)).2
  rw [hL] at this
  exact this

theorem Qt.flu (h : Qt s) {j : Nat} (hj : j < 128) {x : List Int} (hx : x.length = 256) : Qt (Proofs.Ytkjcfhebkfppdaa.wrr s (j : Int) x).fl ∧ (Proofs.Ytkjcfhebkfppdaa.wrr s (j : Int) x).fl.L = s.L.set j x := by
  rw [h.wrr hj hx]
  have hL : (({ s with V := vput s.V j [x], l := s.l } : DS).fl).L = s.L.set j x := by
    unfold DS.fl DS.can
    dsimp only
    rw [if_pos (by rw [h.c]; rfl)]
    dsimp only
    apply List.ext_getElem
    · simp
    · intro i h1 h2
      rw [List.getElem_map, List.getElem_range, List.getElem_set]
      unfold DS.has vput
      dsimp only
      have hi : i < s.L.length := by simpa using h1
      by_cases e : j = i
      · subst e; simp
      · rw [if_neg (fun h => e h.symm), if_neg e, h.V i, List.getLastD_nil, List.getD_eq_getElem?_getD, List.getElem?_eq_getElem hi]; rfl
  refine ⟨⟨by rw [hL, List.length_set]; exact h.len, fun i => ?_, ?_⟩, hL⟩
  · unfold DS.fl DS.can
    dsimp only
    rw [if_pos (by rw [h.c]; rfl)]
  · unfold DS.fl DS.can DS.tick
    dsimp only
    rw [if_pos (by rw [h.c]; rfl)]
    exact h.c

theorem Qt.pw (h : Qt s) (ps : List Int) : Qt (s.pw ps) ∧ (s.pw ps).L = s.L := by
  have e : s.dirty = [] := List.eq_nil_iff_forall_not_mem.2 fun i hi => (dirty_mem.1 hi).2 (h.V i)
  have e2 : s.pw ps = { s with c := false, l := 0 } := by unfold DS.pw; rw [e]; rfl
  rw [e2]
  exact ⟨⟨h.len, h.V, rfl⟩, rfl⟩
theorem Qt.cpy (h : Qt s) : Qt s.cpy := ⟨h.len, h.V, rfl⟩
theorem Qt.rtt (h : Qt s) {j p : Nat} (hj : j < 128) (hp : p < 2048) : Qt (Proofs.Ytkjcfhebkfppdaa.rtt s (2048 * (j : Int) + (p : Int))) ∧ (Proofs.Ytkjcfhebkfppdaa.rtt s (2048 * (j : Int) + (p : Int))).L = s.L.set j (trn p (s.L.getD j [])) := by
  unfold Proofs.Ytkjcfhebkfppdaa.rtt
  rw [if_neg (by rw [h.len]; omega)]
  have e : (2048 * (j : Int) + (p : Int)).toNat = 2048 * j + p := by omega
  rw [e]
  have e1 : (2048 * j + p) / 2048 = j := by omega
  have e2 : (2048 * j + p) % 2048 = p := by omega
  unfold DS.rot
  rw [e1, e2]
  refine ⟨⟨by dsimp only; rw [List.length_set]; exact h.len, fun i => ?_, h.c⟩, rfl⟩
  dsimp only
  unfold vput
  split
  · rw [h.V j]; rfl
  · exact h.V i
theorem Qt.load (h : Qt s) : loadU s = nb 128 (nb 128 none (s.L.getD 0 [])) (s.L.getD 1 []) := by
  unfold loadU
  rw [h.len]
  have e0 : dhs s 0 = s.L.getD 0 [] := by unfold dhs; rw [if_neg (by rw [h.len]; decide)]; exact has_of_nil (h.V 0)
  have e1 : dhs s 1 = s.L.getD 1 [] := by unfold dhs; rw [if_neg (by rw [h.len]; decide)]; exact has_of_nil (h.V 1)
  rw [e0, e1]
  rfl
end

/-- Whatever a sector tells is older. -/
def Old (x : List Int) (g : Int) : Prop := ∀ t, getU x = some t → t.gen < g
theorem old_none {x : List Int} {g : Int} (h : getU x = none) : Old x g := fun t ht => by rw [h] at ht; cases ht
theorem old_put {m : Sp} {g : Int} (hm : mayU m = true) (h : m.gen < g) : Old (usec m) g := fun t ht => by rw [getU_put hm] at ht; cases ht; exact h

theorem nb_first {x y : List Int} {m : Sp} (hm : mayU m = true) (hs : m.sc = 128) (hx : x = usec m) (hy : Old y m.gen) : nb 128 (nb 128 none x) y = some m := by
  have h1 : nb 128 none x = some m := nb_take (by rw [hx]; exact getU_put hm) ⟨hs, (mayU_iff.1 hm).1.1⟩
  rw [h1]
  cases e : getU y with
  | none => exact nb_none e
  | some t => exact nb_skip e (fun h => by have := h.2; have := hy t e; simp at *; omega)
theorem nb_second {x y : List Int} {m : Sp} (hm : mayU m = true) (hs : m.sc = 128) (hx : x = usec m) (hy : Old y m.gen) : nb 128 (nb 128 none y) x = some m := by
  have hg := (mayU_iff.1 hm).1.1
  refine nb_take (by rw [hx]; exact getU_put hm) ⟨hs, ?_⟩
  cases e : getU y with
  | none => rw [nb_none e]; exact hg
  | some t =>
    have := hy t e
    unfold nb
    rw [e]
    dsimp only
    split
    · exact this
    · exact hg
theorem Qt.tells {s : DS} (h : Qt s) {j : Nat} (hj : j < 2) {m : Sp} (hm : mayU m = true) (hs : m.sc = 128) (hx : s.L.getD j [] = usec m) (hy : Old (s.L.getD (1 - j) []) m.gen) : loadU s = some m := by
  rw [h.load]
  have : j = 0 ∨ j = 1 := by omega
  rcases this with rfl | rfl
  · exact nb_first hm hs hx hy
  · exact nb_second hm hs hx hy
theorem Qt.none {s : DS} (h : Qt s) (h0 : getU (s.L.getD 0 []) = .none) (h1 : getU (s.L.getD 1 []) = .none) : loadU s = .none := by
  rw [h.load, nb_none h0, nb_none h1]

theorem dd_one {p q : Nat} (hp : p < 2048) : dd p 1 2048 32 q = decide (q = p) := by
  unfold dd
  by_cases e : q = p
  · subst e
    simp
    omega
  · rw [decide_eq_false e]
    by_cases h : p ≤ q ∧ q < p + 32 ∧ q < 2048
    · rw [decide_eq_true h, Bool.true_and]
      have h1 : (2 ^ 0 : Nat).testBit (q - p) = false := Nat.testBit_two_pow_of_ne (by omega)
      exact h1
    · rw [decide_eq_false h, Bool.false_and]
/-- A rotten bit is told. -/
theorem getU_trn {m : Sp} (hm : mayU m = true) {p : Nat} (hp : p < 2048) : getU (trn p (usec m)) = none := by
  have h8 := (mayU_iff.1 hm).1.2.2.2.2.2.2
  have hl := usec_len h8
  obtain ⟨tl, tb⟩ := trn_ok hp hl (usec_by m)
  have := (sec_told (A := p) (mask := 1) hl tl (usec_by m) tb (usec_smd h8) (by omega) (fun j i hj hi => by
    rw [dd_one hp]
    unfold bN trn
    by_cases e : j = p / 8
    · subst e
      rw [List.getD_eq_getElem?_getD, List.getElem?_set_self (by rw [hl]; omega)]
      show (Int.toNat (((usec m).getD (p / 8) 0).toNat ^^^ 2 ^ (p % 8) : Nat)).testBit i = _
      rw [Int.toNat_natCast, Nat.testBit_xor, Nat.testBit_two_pow]
      congr 1
      by_cases e2 : p % 8 = i
      · rw [decide_eq_true e2, decide_eq_true (by omega)]
      · rw [decide_eq_false e2, decide_eq_false (by omega)]
    · rw [decide_eq_false (by omega), Bool.xor_false, List.getD_eq_getElem?_getD, List.getElem?_set_ne (fun h => e h.symm), ← List.getD_eq_getElem?_getD])).1 ⟨p, by rw [dd_one hp]; simp⟩
  exact getU_none fun s hs => this (by rw [hs.2]; exact usec_smd (mayU_iff.1 hs.1).1.2.2.2.2.2.2)

theorem getU_zz : getU zz = none := getU_none fun m hm => by
  have h := congrArg (fun l => List.getD l 0 0) hm.2
  revert h
  show zz.getD 0 0 = (usec m).getD 0 0 → False
  have e : (usec m).getD 0 0 = 75 := by simp [usec, upre, hdb]
  rw [e]
  decide

/-- What stands on the disk ahead of round i. -/
structure Iv (i : Nat) (s : DS) (last : Sp) : Prop where
  q : Qt s
  z : i = 0 → getU (s.L.getD 0 []) = none ∧ getU (s.L.getD 1 []) = none
  p : 0 < i → mayU last = true ∧ last.gen = (i : Int) ∧ last.sc = 128 ∧ s.L.getD (i % 2) [] = usec last ∧ Old (s.L.getD ((i + 1) % 2) []) (i : Int)
theorem iv_new : Iv 0 (DS.new 128) sp0 := ⟨qt_new, fun _ => ⟨getU_zz, getU_zz⟩, fun h => by omega⟩

/-- One that is made in round i. -/
def Md (i : Nat) (m : Sp) : Prop := mayU m = true ∧ m.gen = ((i + 1 : Nat) : Int) ∧ m.sc = 128

theorem getD_set_same {α : Type} {l : List α} {i : Nat} {x d : α} (h : i < l.length) : (l.set i x).getD i d = x := by simp [List.getD_eq_getElem?_getD, h]
theorem getD_set_ne {α : Type} {l : List α} {i j : Nat} {x d : α} (h : i ≠ j) : (l.set i x).getD j d = l.getD j d := by simp [List.getD_eq_getElem?_getD, List.getElem?_set, h]

section
variable {i : Nat} {s : DS} {last m : Sp}
theorem Md.len (h : Md i m) : (usec m).length = 256 := usec_len (mayU_iff.1 h.1).1.2.2.2.2.2.2
theorem Md.rem (h : Md i m) : m.gen % 2 = (((i + 1) % 2 : Nat) : Int) := by rw [h.2.1]; omega
/-- What the other sector tells is older. -/
theorem Iv.other (h : Iv i s last) (hm : Md i m) : Old (s.L.getD (1 - (i + 1) % 2) []) m.gen := by
  by_cases h0 : i = 0
  · subst h0
    exact old_none (h.z rfl).1
  · obtain ⟨h1, h2, h3, h4, h5⟩ := h.p (by omega)
    have e : 1 - (i + 1) % 2 = i % 2 := by omega
    rw [e, h4]
    exact old_put h1 (by rw [h2, hm.2.1]; omega)

/-- The power goes within. -/
theorem Iv.cut (h : Iv i s last) (hm : Md i m) (ps : List Int) : Qt ((wrr s (m.gen % 2) (usec m)).pw ps) ∧ (((wrr s (m.gen % 2) (usec m)).pw ps).L = s.L ∨ ((wrr s (m.gen % 2) (usec m)).pw ps).L = s.L.set ((i + 1) % 2) (usec m)) ∧
    (loadU ((wrr s (m.gen % 2) (usec m)).pw ps) = some m ∨ (0 < i ∧ loadU ((wrr s (m.gen % 2) (usec m)).pw ps) = some last) ∨ (i = 0 ∧ loadU ((wrr s (m.gen % 2) (usec m)).pw ps) = none)) := by
  rw [hm.rem]
  obtain ⟨hq, hL⟩ := h.q.cut (j := (i + 1) % 2) (by omega) hm.len ps
  refine ⟨hq, hL, ?_⟩
  generalize (wrr s (((i + 1) % 2 : Nat) : Int) (usec m)).pw ps = s2 at hq hL
  rcases hL with hL | hL
  · by_cases h0 : i = 0
    · exact .inr (.inr ⟨h0, hq.none (by rw [hL]; exact (h.z h0).1) (by rw [hL]; exact (h.z h0).2)⟩)
    · obtain ⟨h1, h2, h3, h4, h5⟩ := h.p (by omega)
      refine .inr (.inl ⟨by omega, hq.tells (j := i % 2) (by omega) h1 h3 (by rw [hL]; exact h4) ?_⟩)
      have e : 1 - i % 2 = (i + 1) % 2 := by omega
      rw [e, hL, h2]
      exact h5
  · refine .inl (hq.tells (j := (i + 1) % 2) (by omega) hm.1 hm.2.2 (by rw [hL]; exact getD_set_same (by rw [h.q.len]; omega)) ?_)
    rw [hL, getD_set_ne (by omega)]
    exact h.other hm

/-- It is saved, whatever the power left. -/
theorem Iv.saved (h : Iv i s last) (hm : Md i m) {s2 : DS} (hq : Qt s2) (hL : s2.L = s.L ∨ s2.L = s.L.set ((i + 1) % 2) (usec m)) (ps : List Int) : sco s2 m = 0 ∧ loadU ((svv s2 m).pw ps) = some m ∧ Iv (i + 1) ((svv s2 m).pw ps) m ∧ ((svv s2 m).pw ps).L = s.L.set ((i + 1) % 2) (usec m) := by
  have hc : mayU m = true ∧ m.sc = (s2.L.length : Int) := ⟨hm.1, by rw [hq.len, hm.2.2]; rfl⟩
  have hs : svv s2 m = (wrr s2 (((i + 1) % 2 : Nat) : Int) (usec m)).fl := by unfold svv; rw [if_pos hc, hm.rem]
  have hL2 : s2.L.set ((i + 1) % 2) (usec m) = s.L.set ((i + 1) % 2) (usec m) := by
    rcases hL with e | e
    · rw [e]
    · rw [e, List.set_set]
  obtain ⟨q3, L3⟩ := hq.flu (j := (i + 1) % 2) (by omega) hm.len
  rw [← hs, hL2] at L3
  rw [← hs] at q3
  obtain ⟨q4, L4⟩ := q3.pw ps
  rw [L3] at L4
  generalize (svv s2 m).pw ps = s4 at q4 L4
  have hx : s4.L.getD ((i + 1) % 2) [] = usec m := by rw [L4]; exact getD_set_same (by rw [h.q.len]; omega)
  have hy : Old (s4.L.getD (1 - (i + 1) % 2) []) m.gen := by rw [L4, getD_set_ne (by omega)]; exact h.other hm
  refine ⟨by unfold sco; rw [if_pos hc], q4.tells (j := (i + 1) % 2) (by omega) hm.1 hm.2.2 hx hy, ⟨q4, fun e => by omega, fun _ => ⟨hm.1, hm.2.1, hm.2.2, hx, ?_⟩⟩, L4⟩
  have e : (i + 1 + 1) % 2 = 1 - (i + 1) % 2 := by omega
  rw [e, ← hm.2.1]
  exact hy

/-- A bit of it rots. -/
theorem Iv.rots (h : Iv i s last) (hm : Md i m) {s4 : DS} (hq : Qt s4) (hL : s4.L = s.L.set ((i + 1) % 2) (usec m)) {p : Nat} (hp : p < 2048) : (0 < i → loadU (rtt s4.cpy (2048 * (m.gen % 2) + (p : Int))) = some last) := by
  intro h0
  rw [hm.rem]
  obtain ⟨q5, L5⟩ := hq.cpy.rtt (j := (i + 1) % 2) (by omega) hp
  generalize rtt s4.cpy (2048 * (((i + 1) % 2 : Nat) : Int) + (p : Int)) = s5 at q5 L5
  have e4 : s4.cpy.L = s.L.set ((i + 1) % 2) (usec m) := hL
  rw [e4, getD_set_same (by rw [h.q.len]; omega), List.set_set] at L5
  obtain ⟨h1, h2, h3, h4, h5⟩ := h.p h0
  have e : 1 - i % 2 = (i + 1) % 2 := by omega
  refine q5.tells (j := i % 2) (by omega) h1 h3 (by rw [L5, getD_set_ne (by omega)]; exact h4) ?_
  rw [e, L5, getD_set_same (by rw [h.q.len]; omega)]
  exact old_none (getU_trn hm.1 hp)
end
end Go.Proofs.Ytkjcfhebkfppdaa
/-
  The law's own word: a superblock that may be, with a Gen.
-/
namespace Go.Proofs.Ytkjcfhebkfppdaa
open Go.RowKit Pl
set_option linter.unusedVariables false
set_option linter.unusedSimpArgs false
set_option maxRecDepth 100000

theorem made_may {i : Nat} (h : i < 200) : mayU ⟨((i + 1 : Nat) : Int), 128, 2 + ((i + 1 : Nat) : Int) % 7, [vnOne]⟩ = true := by
  rw [mayU_iff]
  refine ⟨⟨by dsimp only; omega, by dsimp only; omega, by dsimp only; omega, by dsimp only; omega, by dsimp only; omega, by dsimp only; omega, by dsimp only [List.length]; omega⟩, ?_⟩
  dsimp only
  unfold vsOk vsOk vOk vnOne
  rw [Bool.and_true, decide_eq_true_iff]
  dsimp only
  omega

set_option maxHeartbeats 400000 in
theorem made_any (i : Nat) (hi : i < 200) (s : Sp) (v : Value) (w : World) (hr : RdV w v s.vs) :
    Calls Try.prog 33 #[supv s v, .int .i64 ((i + 1 : Nat) : Int)] w fun e w' => ∃ m a c, Md i m ∧ e = .returned (supv m (.slice a m.vs.length c)) ∧ RdV w' (.slice a m.vs.length c) m.vs ∧ Below w.heap.size w w' ∧ ((Value.slice a m.vs.length c = v ∧ m.vs = s.vs) ∨ ∀ j, (Value.slice a m.vs.length c).ownBlock = some j → w.heap.size ≤ j) := by
  obtain ⟨a, cap, rfl, -⟩ := id hr
  have HR : Hid (RdV w (.slice a s.vs.length cap) s.vs) := hr
  obtain ⟨ge, hge⟩ : ∃ g : Int, Hid (((i + 1 : Nat) : Int) = g) := ⟨_, rfl⟩
  have hg1 : 1 ≤ ge := by rw [← hge.out]; omega
  have hg2 : ge ≤ 200 := by rw [← hge.out]; omega
  rw [hge.out]
  obtain ⟨l, hl⟩ : ∃ l, Hid (s.vs.length = l) := ⟨_, rfl⟩
  rw [hl.out] at HR ⊢
  obtain ⟨sg, ss, sn, svs⟩ := s
  unfold supv
  dsimp only at *
  clear hr
  obtain ⟨g, hg⟩ : ∃ g, Hid (w.heap.size = g) := ⟨_, rfl⟩
  obtain ⟨W1, hW1⟩ : ∃ W1, w.alloc (.cells #[.int .i64 ge, .int .i64 128, .int .i64 sn, .slice a l cap] 24) = W1 := ⟨_, rfl⟩
  obtain ⟨W2, hW2⟩ : ∃ W2, W1.alloc (.cells #[.int .i64 0, .int .i64 0, .int .i64 0, .slice none 0 0] 24) = W2 := ⟨_, rfl⟩
  have s1 : W1.heap.size = w.heap.size + 1 := by rw [← hW1]; simp
  have b1 : Below w.heap.size w W1 := by rw [← hW1]; exact (Below.refl _ _).alloc (Nat.le_refl _) _
  have b2 : Below W1.heap.size W1 W2 := by rw [← hW2]; exact (Below.refl _ _).alloc (Nat.le_refl _) _
  have B2 : Hid (Below w.heap.size w W2) := b1.trans (b2.mono (by omega))
  have U1 : Uv W1 w.heap.size ⟨ge, 128, sn, svs⟩ (.slice a l cap) := by rw [← hW1]; exact uv_new w ⟨ge, 128, sn, svs⟩ _
  have U2 : Hid (Uv W2 g ⟨ge, 128, sn, svs⟩ (.slice a l cap)) := by rw [← hg.out]; exact U1.below b2
  have Q2 : Hid (Uv W2 (g + 1) sp0 (.slice none 0 0)) := by rw [← hW2, ← hg.out, ← s1]; exact uv_new W1 sp0 _
  have HW1 := hideP hW1
  have HW2 := hideP hW2
  have hmu := refMayU_any ⟨ge, 128, sn, svs⟩ (.slice a l cap) W2 (HR.out.below B2.out)
  unfold supv at hmu
  dsimp only at hmu
  have HMU := hideP hmu
  clear hW1 hW2 s1 b1 b2 U1 hmu
  go_enter Try.func33, Try.ntmps33
  go_wp2_with fail
  rw [HW1.out, HW2.out, hg.out]
  clear HW1 HW2
  refine HMU.out.mono ?_
  clear HMU
  rintro e w3 ⟨rfl, b3⟩
  have U3 : Hid (Uv w3 g ⟨ge, 128, sn, svs⟩ (.slice a l cap)) := U2.out.below b3
  have Q3 : Hid (Uv w3 (g + 1) sp0 (.slice none 0 0)) := Q2.out.below b3
  have B3 : Hid (Below w.heap.size w w3) := B2.out.trans (b3.mono B2.out.size)
  clear U2 Q2 B2 b3
  obtain ⟨bb, hbb⟩ : ∃ b, mayU ⟨ge, 128, sn, svs⟩ = b := ⟨_, rfl⟩
  rw [hbb]
  have q0 : w3.cell? ⟨g + 1, 0, none⟩ = some (.int .i64 0) := Q3.out.c0
  have q1 : w3.cell? ⟨g + 1, 1, none⟩ = some (.int .i64 0) := Q3.out.c1
  have q2 : w3.cell? ⟨g + 1, 2, none⟩ = some (.int .i64 0) := Q3.out.c2
  have q3 := Q3.out.c3
  have f0 := Q3.out.fz 0
  have f1 := Q3.out.fz 1
  have f2 := Q3.out.fz 2
  have f3 := Q3.out.fz 3
  have u0 := U3.out.c0
  have u1 := U3.out.c1
  have u2 := U3.out.c2
  have u3 := U3.out.c3
  dsimp only at u0 u1 u2 u3
  cases bb with
  | true =>
    have HM : Hid (Md i ⟨ge, 128, sn, svs⟩) := ⟨hbb, hge.out.symm, rfl⟩
    have HLD := hideP (Q3.out.put ⟨ge, 128, sn, svs⟩ (.slice a l cap)).load
    have HTS := hideP (Q3.out.tset ⟨ge, 128, sn, svs⟩ (.slice a l cap))
    have HBE := hideP (B3.out.trans (HTS.out.below B3.out.size (fun k e => by rw [hg.out, e]; exact Nat.le_succ _)))
    have HRE := hideP ((HR.out.below HBE.out))
    dsimp only at HLD HTS HBE HRE
    clear hbb
    go_wp2_with fail
    refine bodyPost_ret (v := supv ⟨ge, 128, sn, svs⟩ (.slice a l cap)) (results_atU (p := 4) (ty := 24) rfl _ _ _ (g + 1) _ rfl HLD.out) rfl ?_
    exact ⟨⟨ge, 128, sn, svs⟩, a, cap, HM.out, by dsimp only; rw [hl.out]; rfl, by dsimp only; rw [hl.out]; exact HRE.out, HBE.out, .inl ⟨by dsimp only; rw [hl.out], rfl⟩⟩
  | false =>
    clear hbb
    go_wp2_with fail
    refine (one_any w3).mono ?_
    rintro e w4 ⟨a4, k4, rfl, r4, b4, n4⟩
    have U4 : Hid (Uv w4 g ⟨ge, 128, sn, svs⟩ (.slice a l cap)) := U3.out.below b4
    have Q4 : Hid (Uv w4 (g + 1) sp0 (.slice none 0 0)) := Q3.out.below b4
    have B4 : Hid (Below w.heap.size w w4) := B3.out.trans (b4.mono B3.out.size)
    have R4 : Hid (RdV w4 (.slice a4 1 k4) [vnOne]) := r4
    have N4 : Hid (∀ j, (Value.slice a4 1 k4).ownBlock = some j → g + 1 < j) := fun j hj => by have := n4 j hj; have := Q3.out.lt; omega
    clear U3 Q3 B3 b4 r4 n4 q0 q1 q2 q3 f0 f1 f2 f3 u0 u1 u2 u3
    have u0 := U4.out.c0
    have u1 := U4.out.c1
    have u2 := U4.out.c2
    have u3 := U4.out.c3
    dsimp only at u0 u1 u2 u3
    have f0 := U4.out.fz 0
    have f1 := U4.out.fz 1
    have f2 := U4.out.fz 2
    have f3 := U4.out.fz 3
    have q0 : w4.cell? ⟨g + 1, 0, none⟩ = some (.int .i64 0) := Q4.out.c0
    have q1 : w4.cell? ⟨g + 1, 1, none⟩ = some (.int .i64 0) := Q4.out.c1
    have q2 : w4.cell? ⟨g + 1, 2, none⟩ = some (.int .i64 0) := Q4.out.c2
    have q3 := Q4.out.c3
    have p0 := Q4.out.fz 0
    have p1 := Q4.out.fz 1
    have p2 := Q4.out.fz 2
    have p3 := Q4.out.fz 3
    obtain ⟨z, hz⟩ : ∃ z, ge.tmod 7 = z := ⟨_, rfl⟩
    have hz1 : z = ge % 7 := by rw [← hz, Int.tmod_eq_emod_of_nonneg (by omega)]
    have hz0 : 0 ≤ z := by omega
    have hz7 : z ≤ 6 := by omega
    have HZ := hideP hz1
    clear hz1
    have e1 : supv spOne (.slice a4 spOne.vs.length k4) = .agg #[.int .i64 1, .int .i64 128, .int .i64 2, .slice a4 1 k4] := rfl
    rw [e1]
    clear e1
    dsimp only
    iterate 3 (first | go_values | go_skip | go_guarded | go_step | go_upon | go_back | (simp only [Int.not_lt, Int.not_le] at *; go_simp) | (go_values <;> (try go_simp)))
    obtain ⟨W5, hW5⟩ : ∃ W5, Hid ((((w4.setCell ⟨g, 0, none⟩ (.int .i64 1)).setCell ⟨g, 1, none⟩ (.int .i64 128)).setCell ⟨g, 2, none⟩ (.int .i64 2)).setCell ⟨g, 3, none⟩ (.slice a4 1 k4) = W5) := ⟨_, rfl⟩
    have U5 : Hid (Uv W5 g spOne (.slice a4 1 k4)) := by rw [← hW5.out]; exact U4.out.put spOne (.slice a4 1 k4)
    have T5 : Hid (Tch (fun j => j = g) w4 W5) := by rw [← hW5.out]; exact U4.out.tset spOne (.slice a4 1 k4)
    rw [hW5.out]
    clear hW5 u0 u1 u2 u3 f0 f1 f2 f3 q0 q1 q2 q3 p0 p1 p2 p3
    have u0 : W5.cell? ⟨g, 0, none⟩ = some (.int .i64 1) := U5.out.c0
    have u1 : W5.cell? ⟨g, 1, none⟩ = some (.int .i64 128) := U5.out.c1
    have u2 : W5.cell? ⟨g, 2, none⟩ = some (.int .i64 2) := U5.out.c2
    have u3 := U5.out.c3
    have f0 := U5.out.fz 0
    have f1 := U5.out.fz 1
    have f2 := U5.out.fz 2
    have f3 := U5.out.fz 3
    have Q5 : Hid (Uv W5 (g + 1) sp0 (.slice none 0 0)) := Q4.out.tch T5.out (by omega)
    have q0 : W5.cell? ⟨g + 1, 0, none⟩ = some (.int .i64 0) := Q5.out.c0
    have q1 : W5.cell? ⟨g + 1, 1, none⟩ = some (.int .i64 0) := Q5.out.c1
    have q2 : W5.cell? ⟨g + 1, 2, none⟩ = some (.int .i64 0) := Q5.out.c2
    have q3 := Q5.out.c3
    have p0 := Q5.out.fz 0
    have p1 := Q5.out.fz 1
    have p2 := Q5.out.fz 2
    have p3 := Q5.out.fz 3
    have T7 : Hid (Tch (fun j => j = g) W5 ((W5.setCell ⟨g, 0, none⟩ (.int .i64 ge)).setCell ⟨g, 2, none⟩ (.int .i64 (2 + z)))) := Tch.setCell (Tch.setCell (Tch.refl (fun j => j = g) W5) (p := ⟨g, 0, none⟩) (fun _ => rfl) _) (p := ⟨g, 2, none⟩) (fun _ => rfl) _
    have Q7 := hideP (Q5.out.tch T7.out (by omega))
    have HM : Hid (Md i ⟨ge, 128, 2 + z, [vnOne]⟩) := by
      rw [HZ.out, ← hge.out]
      exact ⟨made_may hi, rfl, rfl⟩
    have HLD := hideP (Q7.out.put ⟨ge, 128, 2 + z, [vnOne]⟩ (.slice a4 1 k4)).load
    have HTS := hideP (Q7.out.tset ⟨ge, 128, 2 + z, [vnOne]⟩ (.slice a4 1 k4))
    have HB5 := hideP (B4.out.trans (T5.out.below B4.out.size (fun k e => by rw [hg.out, e]; exact Nat.le_refl _)))
    have HB7 := hideP (HB5.out.trans (T7.out.below HB5.out.size (fun k e => by rw [hg.out, e]; exact Nat.le_refl _)))
    have HBE := hideP (HB7.out.trans (HTS.out.below HB7.out.size (fun k e => by rw [hg.out, e]; exact Nat.le_succ _)))
    have HRE := hideP (((R4.out.tch T5.out (fun j hj e => by have := N4.out j hj; have e2 : j = g := e; omega)).tch T7.out (fun j hj e => by have := N4.out j hj; have e2 : j = g := e; omega)).tch HTS.out (fun j hj e => by have := N4.out j hj; have e2 : j = g + 1 := e; omega))
    dsimp only at HLD HTS HBE HRE
    go_wp2_with fail
    refine bodyPost_ret (v := supv ⟨ge, 128, 2 + z, [vnOne]⟩ (.slice a4 1 k4)) (results_atU (p := 4) (ty := 24) rfl _ _ _ (g + 1) _ rfl HLD.out) rfl ?_
    exact ⟨⟨ge, 128, 2 + z, [vnOne]⟩, a4, k4, HM.out, rfl, HRE.out, HBE.out, .inr (fun j hj => by have := N4.out j hj; rw [hg.out]; omega)⟩
end Go.Proofs.Ytkjcfhebkfppdaa
/-
  A disk, and superblocks in memory beside it.
-/
namespace Go.Proofs.Ytkjcfhebkfppdaa
open Go.RowKit Pl
set_option linter.unusedVariables false
set_option linter.unusedSimpArgs false
set_option maxRecDepth 100000

/-- Versions that lie in none of S. -/
def Kp (S : Nat → Prop) (w : World) (v : Value) (vs : List Vn) : Prop := RdV w v vs ∧ (vs ≠ [] → ∀ j, v.ownBlock = some j → ¬ S j)

theorem RdV.blk {w : World} {v : Value} {vs : List Vn} (h : RdV w v vs) (h0 : vs ≠ []) : ∀ j, v.ownBlock = some j → j < w.heap.size := fun j hj => by
  obtain ⟨a, cap, rfl, _, _, hc⟩ := h
  rcases hc with e | ⟨b, o, rfl, hc⟩
  · exact absurd e h0
  · cases hj
    have hp : 0 < vs.length := List.length_pos_iff.2 h0
    exact World.block_lt_of_cell? w ⟨b, o + 0 * 4, none⟩ (hc 0 vs[0] (List.getElem?_eq_getElem hp)).c0
theorem RdV.emp {w w' : World} {v : Value} {vs : List Vn} (h : RdV w v vs) (h0 : vs = []) : RdV w' v vs := by
  obtain ⟨a, cap, rfl, h1, h2, _⟩ := h
  exact ⟨a, cap, rfl, h1, h2, .inl h0⟩
/-- A superblock's own cells hold no version. -/
theorem rdV_ne {w : World} {v u : Value} {vs : List Vn} {q : Nat} {m : Sp} {a : Option Addr} {n c : Nat} (h : RdV w v vs) (hu : Uv w q m u) (he : u = .slice a n c) (h0 : vs ≠ []) : v.ownBlock ≠ some q := by
  intro hk
  obtain ⟨a', cap, rfl, _, _, hc⟩ := h
  rcases hc with e | ⟨b, o, rfl, hc⟩
  · exact absurd e h0
  · cases hk
    have hp : 0 < vs.length := List.length_pos_iff.2 h0
    have h3 := (hc 0 vs[0] (List.getElem?_eq_getElem hp)).c3
    rw [cell_of_row w b (o + 0 * 4 + 3) _ _ (0, 0) hu] at h3
    by_cases ho : o = 0
    · subst ho
      rw [he] at h3
      simp at h3
    · rw [Array.getElem?_eq_none (by simp; omega)] at h3
      cases h3

section
variable {S S' : Nat → Prop} {w0 w w' : World} {d : Nat} {s s' : DS} {v : Value} {vs : List Vn}
theorem Kp.tch (h : Kp S w v vs) {T : Nat → Prop} (ht : Tch T w w') (hn : vs ≠ [] → ∀ j, v.ownBlock = some j → ¬ T j) (hs : ∀ k, S' k → S k ∨ w.heap.size ≤ k) : Kp S' w' v vs := by
  by_cases h0 : vs = []
  · exact ⟨h.1.emp h0, fun e => absurd h0 e⟩
  · refine ⟨h.1.tch ht (hn h0), fun _ j hj e => ?_⟩
    rcases hs j e with e | e
    · exact h.2 h0 j hj e
    · have := h.1.blk h0 j hj; omega
theorem Kp.below (h : Kp S w v vs) (hb : Below w.heap.size w w') : Kp S w' v vs := h.tch (T := fun _ => False) (Tch.of_below hb) (fun _ _ _ e => e) (fun _ e => .inl e)

theorem loadR_some {m : Sp} {e : Ending} (h : LoadR (some m) w e w') : ∃ a c, e = .returned (.tuple #[.agg #[.int .i64 m.gen, .int .i64 m.sc, .int .i64 m.nx, .slice a m.vs.length c], .int .i64 0]) ∧ RdV w' (.slice a m.vs.length c) m.vs ∧ Below w.heap.size w w' ∧ ∀ j, (Value.slice a m.vs.length c).ownBlock = some j → w.heap.size ≤ j := h

/-- A superblock's box. -/
structure Bx (S : Nat → Prop) (w0 w : World) (q : Nat) (m : Sp) (v : Value) : Prop where
  uv : Uv w q m v
  ns : ¬ S q
  q0 : w0.heap.size ≤ q
  kp : Kp S w v m.vs

variable {q : Nat} {m : Sp}
theorem Bx.below (h : Bx S w0 w q m v) (hb : Below w.heap.size w w') : Bx S w0 w' q m v := ⟨h.uv.below hb, h.ns, h.q0, h.kp.below hb⟩
theorem Bx.dk (h : Bx S w0 w q m v) (ht : Tch S w w') (hs : ∀ k, S' k → S k ∨ w.heap.size ≤ k) : Bx S' w0 w' q m v :=
  ⟨h.uv.tch ht h.ns, fun e => by rcases hs q e with e | e; exact h.ns e; have := h.uv.lt; omega, h.q0, h.kp.tch ht h.kp.2 hs⟩
theorem Kp.set {a : Option Addr} {n c : Nat} {t : Sp} {u : Value} (h : Kp S w v vs) (hu : Uv w q m (.slice a n c)) : Kp S ((((w.setCell ⟨q, 0, none⟩ (.int .i64 t.gen)).setCell ⟨q, 1, none⟩ (.int .i64 t.sc)).setCell ⟨q, 2, none⟩ (.int .i64 t.nx)).setCell ⟨q, 3, none⟩ u) v vs :=
  h.tch (hu.tset t u) (fun h0 j hj e => by have e2 : j = q := e; rw [e2] at hj; exact rdV_ne h.1 hu rfl h0 hj) (fun _ e => .inl e)
/-- Another box is written. -/
theorem Bx.set {q' : Nat} {m' t : Sp} {a : Option Addr} {n c : Nat} {u : Value} (h : Bx S w0 w q m v) (hu : Uv w q' m' (.slice a n c)) (hne : q ≠ q') : Bx S w0 ((((w.setCell ⟨q', 0, none⟩ (.int .i64 t.gen)).setCell ⟨q', 1, none⟩ (.int .i64 t.sc)).setCell ⟨q', 2, none⟩ (.int .i64 t.nx)).setCell ⟨q', 3, none⟩ u) q m v :=
  ⟨h.uv.tch (hu.tset t u) hne, h.ns, h.q0, h.kp.set hu⟩
/-- This box is written. -/
theorem Bx.put {t : Sp} {a : Option Addr} {n c : Nat} {u : Value} (h : Bx S w0 w q m (.slice a n c)) (hk : Kp S w u t.vs) : Bx S w0 ((((w.setCell ⟨q, 0, none⟩ (.int .i64 t.gen)).setCell ⟨q, 1, none⟩ (.int .i64 t.sc)).setCell ⟨q, 2, none⟩ (.int .i64 t.nx)).setCell ⟨q, 3, none⟩ u) q t u :=
  ⟨h.uv.put t u, h.ns, h.q0, hk.set h.uv⟩
theorem Dc.set (h : Dc S w0 w d s) {a : Option Addr} {n c : Nat} {t : Sp} {u : Value} (hb : Bx S w0 w q m (.slice a n c)) : Dc S w0 ((((w.setCell ⟨q, 0, none⟩ (.int .i64 t.gen)).setCell ⟨q, 1, none⟩ (.int .i64 t.sc)).setCell ⟨q, 2, none⟩ (.int .i64 t.nx)).setCell ⟨q, 3, none⟩ u) d s :=
  ⟨h.1.tch (hb.uv.tset t u) (fun k hk e => by have e2 : k = q := e; rw [e2] at hk; exact hb.ns hk), h.2.1.trans ((hb.uv.tset t u).below h.2.1.size (fun k e => by rw [show k = q from e]; exact hb.q0)), h.2.2⟩
/-- A new box. -/
theorem bx_new (h : Dc S w0 w d s) {v : Value} (hk : Kp S w v m.vs) : Bx S w0 (w.alloc (.cells #[.int .i64 m.gen, .int .i64 m.sc, .int .i64 m.nx, v] 24)) w.heap.size m v :=
  ⟨uv_new w m v, fun e => by have := h.1.slt _ e; omega, h.2.1.size, hk.below ((Below.refl _ _).alloc (Nat.le_refl _) _)⟩
/-- New versions. -/
theorem kp_new (h : Dk S w d s) (hb : Below w.heap.size w w') {v : Value} {vs : List Vn} (hr : RdV w' v vs) (hn : ∀ j, v.ownBlock = some j → w.heap.size ≤ j) : Kp S w' v vs :=
  ⟨hr, fun _ j hj e => by have := h.slt j e; have := hn j hj; omega⟩
/-- Versions that came in. -/
theorem kp_old (h : Dc S w0 w d s) (hb : Below w.heap.size w w') {v : Value} {vs : List Vn} (hr0 : RdV w0 v vs) (hr : RdV w' v vs) : Kp S w' v vs :=
  ⟨hr, fun h0 j hj e => by have := h.2.2 j e; have := hr0.blk h0 j hj; omega⟩
end
end Go.Proofs.Ytkjcfhebkfppdaa
