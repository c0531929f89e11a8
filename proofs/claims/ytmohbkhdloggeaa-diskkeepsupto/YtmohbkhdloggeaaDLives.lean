/-
  The law's own example.
-/
import Derived.Test.YtmohbkhdloggeaaDPow
import Derived.Test.YtmohbkhdloggeaaDBy
namespace Go.Proofs.Ytmohbkhdloggeaa
open Go.RowKit Go.Maps
set_option linter.unusedVariables false
set_option linter.unusedSimpArgs false
set_option maxRecDepth 100000

theorem pers_L_nil (s : DS) (ds : List Nat) : ∀ k, (s.pers ds [] k).L = s.L
  | 0 => rfl
  | k + 1 => by
    rw [DS.pers]
    have : rem (([] : List Int).getD k 0) ((s.pers ds [] k).V (ds.getD k 0)).length = 0 := by simp [rem]
    unfold DS.per
    dsimp only
    rw [this, if_neg (by decide), pers_L_nil s ds k]
theorem pw_L_nil (s : DS) : (s.pw []).L = s.L := pers_L_nil s _ _
theorem pw_V (s : DS) (ps : List Int) (hV : ∀ i, s.L.length ≤ i → s.V i = []) (i : Nat) : (s.pw ps).V i = [] := by
  show (s.pers s.dirty ps s.dirty.length).V i = []
  rw [pers_V _ _ _ _ _ (Nat.le_refl _), List.take_length]
  by_cases h : i ∈ s.dirty
  · rw [if_pos h]
  · rw [if_neg h]
    by_cases h1 : i < s.L.length
    · by_cases h2 : s.V i = []
      · exact h2
      · exact absurd (dirty_mem.2 ⟨h1, h2⟩) h
    · exact hV i (by omega)
theorem pw_len (s : DS) (ps : List Int) : (s.pw ps).L.length = s.L.length := pers_L s _ ps _
theorem Dk.out_V {S : Nat → Prop} {w : World} {d : Nat} {s : DS} (h : Dk S w d s) : ∀ i, s.L.length ≤ i → s.V i = [] := fun i hi => by
  obtain ⟨lb, vb, lc, g, h⟩ := h
  cases e : g i with
  | none => exact h.no i e
  | some v => have := (h.yes i v e).1; omega
theorem Dk.len {S : Nat → Prop} {w : World} {d : Nat} {s : DS} (h : Dk S w d s) : 1 ≤ s.L.length ∧ s.L.length ≤ 4096 := by
  obtain ⟨lb, vb, lc, g, h⟩ := h
  exact ⟨h.n1, h.n2⟩
theorem has_of_nil {s : DS} {i : Nat} (h : s.V i = []) : s.has i = s.L.getD i [] := by unfold DS.has; rw [h]; rfl

theorem wr_V_le (s : DS) (i : Nat) (x : List Int) (j : Nat) : ((s.wr i x).V j).length ≤ (s.V j).length + 1 := by
  unfold DS.wr
  split
  · simp only [vput]
    split
    · rename_i e; subst e; simp
    · exact Nat.le_succ _
  · exact Nat.le_succ _
theorem fl_V_le (s : DS) (j : Nat) : (s.fl.V j).length ≤ (s.V j).length := by
  unfold DS.fl
  split
  · simp
  · exact Nat.le_refl _
theorem wr_L (s : DS) (i : Nat) (x : List Int) : (s.wr i x).L = s.L := by
  unfold DS.wr
  split <;> rfl
theorem fl_L (s : DS) : s.fl.L.length = s.L.length := by
  unfold DS.fl
  split <;> simp

/-- What the example writes. -/
def lv7 : Dd := ⟨0, 0, 7, 0, false, .slice none 0 0, []⟩
def lv8 : Dd := ⟨0, 0, 8, 0, false, .slice none 0 0, []⟩
theorem lv7_ok : DdOk lv7 := ⟨by decide, by decide, by decide, by decide⟩
theorem lv8_ok : DdOk lv8 := ⟨by decide, by decide, by decide, by decide⟩
theorem lv7_len : (dby lv7).length = 256 := by rw [dby_len]; rfl
theorem lv8_len : (dby lv8).length = 256 := by rw [dby_len]; rfl
theorem lv7_get : (dby lv7).getD 0 0 = 7 := by
  unfold dby
  rw [show dlen lv7 = 256 from rfl, List.getD_eq_getElem?_getD, List.getElem?_set, if_neg (by decide), List.getElem?_replicate, if_pos (by decide)]
  rfl

def lvS : DS := ((((DS.new 9).wr 3 (dby lv7)).fl).wr 3 (dby lv8)).pw []
theorem lvS_has (hV : ∀ i, 9 ≤ i → ((((DS.new 9).wr 3 (dby lv7)).fl).wr 3 (dby lv8)).V i = []) : lvS.has 3 = dby lv7 := by
  have hl : ((((DS.new 9).wr 3 (dby lv7)).fl).wr 3 (dby lv8)).L.length = 9 := by
    simp [DS.wr, DS.fl, DS.can, DS.tick, DS.new]
  unfold lvS
  rw [has_of_nil (pw_V _ _ (fun i hi => hV i (by rw [hl] at hi; exact hi)) 3)]
  rw [pw_L_nil]
  simp [DS.wr, DS.fl, DS.can, DS.tick, DS.new, DS.has, vput]

/-- A disk that was made since w0. -/
def Dc (S : Nat → Prop) (w0 w : World) (d : Nat) (s : DS) : Prop := Dk S w d s ∧ Below w0.heap.size w0 w ∧ ∀ k, S k → w0.heap.size ≤ k

theorem Dc.to {S : Nat → Prop} {w0 w w' : World} {d : Nat} {s s' : DS} (h : Dc S w0 w d s) (k : DkTo S w w' d s') : ∃ S', Dc S' w0 w' d s' ∧ Tch S w w' ∧ ∀ k, S' k → S k ∨ w.heap.size ≤ k := by
  obtain ⟨S', h1, h2, h3⟩ := k
  refine ⟨S', ⟨h1, h.2.1.trans (h2.below h.2.1.size h.2.2), fun j hj => ?_⟩, h2, h3⟩
  rcases h3 j hj with e | e
  · exact h.2.2 j e
  · exact Nat.le_trans h.2.1.size e
theorem Dc.below {S : Nat → Prop} {w0 w w' : World} {d : Nat} {s : DS} (h : Dc S w0 w d s) (hb : Below w.heap.size w w') : Dc S w0 w' d s := ⟨h.1.below hb, h.2.1.trans (hb.mono h.2.1.size), h.2.2⟩

set_option maxHeartbeats 2000000 in
theorem lives_any (w : World) : Calls Try.prog 10 #[] w fun e w' => e = .returned (.bool true) ∧ Below w.heap.size w w' := by
  have HNEW := hideP (new_ok 9 w (by decide) (by decide))
  go_enter Try.func10, Try.ntmps10
  go_wp2_with fail
  refine HNEW.out.mono ?_
  clear HNEW
  rintro e w1 ⟨d, S1, rfl, hd1, hb1, hs1⟩
  have D1 : Hid (Dc S1 w w1 d (DS.new 9)) := ⟨hd1, hb1, hs1⟩
  have HSZ := size_any w1 hd1
  rw [show (DS.new 9).L.length = 9 by simp [DS.new]] at HSZ
  have HSZ := hideP HSZ
  clear hd1 hb1 hs1
  go_wp2_with fail
  refine HSZ.out.mono ?_
  clear HSZ
  rintro e w1 ⟨rfl, rfl⟩
  go_wp2_with fail
  refine (deed_bytes lv7 lv7_ok w1).mono ?_
  rintro e w2 ⟨v2, rfl, ho2, hb2, hf2⟩
  have H3 := write_ok 3 v2 (dby lv7) w2 (D1.out.below hb2).1 (by simp [DS.new]) ho2.rd lv7_len (dby_by lv7_ok) (fun k hk hS => by have := hf2 k hk; have := D1.out.1.slt k hS; omega) (by simp [DS.new])
  have D2 : Hid (Dc S1 w w2 d (DS.new 9)) := D1.out.below hb2
  have H3 := hideP H3
  clear ho2 hb2 hf2 D1
  go_wp2_with fail
  refine H3.out.mono ?_
  clear H3
  rintro e w3 ⟨rfl, hd3⟩
  obtain ⟨S3, hd3, _, _⟩ := D2.out.to hd3
  have D3 : Hid (Dc S3 w w3 d ((DS.new 9).wr 3 (dby lv7))) := hd3
  clear hd3 D2
  go_wp2_with fail
  refine (flush_any w3 D3.out.1).mono ?_
  rintro e w4 ⟨rfl, hd4⟩
  obtain ⟨S4, hd4, _, _⟩ := D3.out.to hd4
  have D4 : Hid (Dc S4 w w4 d ((DS.new 9).wr 3 (dby lv7)).fl) := hd4
  clear hd4 D3
  go_wp2_with fail
  refine (deed_bytes lv8 lv8_ok w4).mono ?_
  rintro e w5 ⟨v5, rfl, ho5, hb5, hf5⟩
  have hl4 : ((DS.new 9).wr 3 (dby lv7)).fl.L.length = 9 := by simp [DS.wr, DS.fl, DS.can, DS.tick, DS.new]
  have H6 := write_ok 3 v5 (dby lv8) w5 (D4.out.below hb5).1 (by rw [hl4]; decide) ho5.rd lv8_len (dby_by lv8_ok) (fun k hk hS => by have := hf5 k hk; have := D4.out.1.slt k hS; omega) (by simp [DS.wr, DS.fl, DS.can, DS.tick, DS.new])
  have D5 : Hid (Dc S4 w w5 d ((DS.new 9).wr 3 (dby lv7)).fl) := D4.out.below hb5
  have H6 := hideP H6
  clear ho5 hb5 hf5 D4 hl4
  go_wp2_with fail
  refine H6.out.mono ?_
  clear H6
  rintro e w6 ⟨rfl, hd6⟩
  obtain ⟨S6, hd6, _, _⟩ := D5.out.to hd6
  have D6 : Hid (Dc S6 w w6 d (((DS.new 9).wr 3 (dby lv7)).fl.wr 3 (dby lv8))) := hd6
  have H7 := hideP (power_any (.slice none 0 0) [] w6 hd6.1 ⟨none, 0, rfl, Nat.le_refl _, by unfold maxLen; omega, fun _ => rfl, .inl rfl⟩ (fun k hk _ => by cases hk) (fun i => by
    have h1 := wr_V_le ((DS.new 9).wr 3 (dby lv7)).fl 3 (dby lv8) i
    have h2 := fl_V_le ((DS.new 9).wr 3 (dby lv7)) i
    have h3 := wr_V_le (DS.new 9) 3 (dby lv7) i
    have h4 : ((DS.new 9).V i).length = 0 := rfl
    omega))
  clear hd6 D5
  go_wp2_with fail
  refine H7.out.mono ?_
  clear H7
  rintro e w7 ⟨rfl, hd7⟩
  obtain ⟨S7, hd7, _, _⟩ := D6.out.to hd7
  have D7 : Hid (Dc S7 w w7 d lvS) := hd7
  have hl6 : (((DS.new 9).wr 3 (dby lv7)).fl.wr 3 (dby lv8)).L.length = 9 := by simp [DS.wr, DS.fl, DS.can, DS.tick, DS.new]
  have hHAS : lvS.has 3 = dby lv7 := lvS_has (fun i hi => D6.out.1.out_V i (by rw [hl6]; exact hi))
  have H8 := read_ok 3 w7 D7.out.1 (by show 3 < (DS.pw _ []).L.length; rw [pw_len, hl6]; decide)
  rw [hHAS] at H8
  have H8 := hideP H8
  clear hd7 D6 hl6 hHAS
  go_wp2_with fail
  refine H8.out.mono ?_
  clear H8
  rintro e w8 ⟨v8, rfl, hw8, hb8, _⟩
  have B8 : Hid (Below w.heap.size w w8) := (D7.out.below hb8).2.1
  have hr := hw8.rd
  obtain ⟨b, cap, t, C, rfl, h1, h2, h3, h4⟩ := hw8
  have c0 : w8.cell? ⟨b, 0, none⟩ = some (.int .u8 7) := by
    obtain ⟨a', cap', e, _, _, _, hc⟩ := hr
    simp only [Value.slice.injEq] at e
    obtain ⟨rfl, _, rfl⟩ := e
    rcases hc with e | ⟨b', o', e, hc⟩
    · have := lv7_len; rw [e] at this; simp at this
    · simp only [Option.some.injEq, Addr.mk.injEq] at e
      obtain ⟨rfl, rfl, _⟩ := e
      have := hc 0 (by rw [lv7_len]; decide)
      rw [lv7_get] at this
      exact this
  rw [lv7_len]
  clear h1 h2 h3 h4 hr D7 hb8
  go_wp2_with fail
  go_ret
  exact ⟨rfl, B8.out⟩
end Go.Proofs.Ytmohbkhdloggeaa
