import Derived.Test.YtobenjkacpipeaaGreatPPkRfP
import Derived.Test.YtobenjkacpipeaaGreatPPkLv
import Derived.Test.YtobenjkacpipeaaGreatPSame
set_option maxRecDepth 100000
set_option linter.unusedVariables false
set_option linter.unusedSimpArgs false
set_option maxHeartbeats 8000000
namespace Go.Proofs.YtobenjkacpipeaaGreat
open Go.RowKit Pl
theorem rd_of_row {k : IntKind} {w : World} {a : Option Addr} {len cap : Nat} {zs : List Int}
    (h : (a = none ∧ len = 0 ∧ cap = 0 ∧ zs = []) ∨
      ∃ x, a = some x ∧ len ≤ cap ∧ cap ≤ maxLen ∧ zs.length = cap ∧ (∀ i, i < zs.length → w.cell? (x.add i) = some (.int k (zs.getD i 0))) ∧ ∀ n ∈ zs, (Lit.int k n).wf = true) :
    Rd k w (.slice a len cap) (zs.take len) ∧ ∀ n ∈ zs.take len, (Lit.int k n).wf = true := by
  rcases h with ⟨rfl, rfl, rfl, rfl⟩ | ⟨x, rfl, hl, hm, hz, hcell, hwz⟩
  · exact ⟨⟨none, 0, rfl, Nat.le_refl _, by unfold maxLen; omega, fun _ => rfl, .inl rfl⟩, fun n hn => by simp at hn⟩
  · have e : (zs.take len).length = len := by rw [List.length_take]; omega
    refine ⟨⟨some x, cap, by rw [e], by omega, hm, (fun e => by cases e), ?_⟩, fun n hn => hwz n (List.mem_of_mem_take hn)⟩
    by_cases h0 : len = 0
    · subst h0; exact .inl rfl
    · right
      obtain ⟨b, off, spot⟩ := x
      have hc := hcell 0 (by omega)
      have hspot : spot = none := by simpa [Addr.add] using World.cell?_spot hc
      subst hspot
      refine ⟨b, off, rfl, fun i hi => ?_⟩
      have := hcell i (by omega)
      rw [Addr.add_lit] at this
      rw [this, List.getD_eq_getElem?_getD, List.getD_eq_getElem?_getD, List.getElem?_take, if_pos (by omega)]

theorem by_of_wf {xs : List Int} (h : ∀ n ∈ xs, (Lit.int .u8 n).wf = true) : By xs := by
  intro i
  rw [List.getD_eq_getElem?_getD]
  cases e : xs[i]? with
  | none => simp
  | some n =>
    have := h n (List.mem_of_getElem? e)
    simpa [Lit.wf, IntKind.min, IntKind.max, IntKind.signed, IntKind.bits] using this
theorem zfu9 (v : Value) (ds : List Int) (w : World) (hr : Rd .u8 w v ds) (hy : By ds) (hn : ds.length <= 65536) :
  Calls Tryz.prog 5 #[v] w fun e w' => ∃ ov out, e = .returned (.tuple #[ov, .int .i64 0]) /\ PackR ds out /\ Owns .u8 5 w' ov out /\ Below w.heap.size w w' /\ ∀ k, ov.ownBlock = some k -> w.heap.size <= k := by
 by_cases h0 : ds.length = 0
 ·obtain rfl : ds = [] := List.eq_nil_of_length_eq_zero h0
  exact zkb9 v w hr
 ·exact zju9 v ds w hr hy (by omega) hn
theorem zvx9 {xs : List Int} (h : By xs) (m : Nat) : By (xs.take m) := by
 intro i
 rw [List.getD_eq_getElem?_getD, List.getElem?_take]
 by_cases hi : i < m
 ·rw [if_pos hi, <- List.getD_eq_getElem?_getD]; exact h i
 ·rw [if_neg hi]; simp
theorem packPacks_walk (v : Value) (ds : List Int) (w : World) (hr : Rd .u8 w v ds) (hy : By ds) (hold : ∀ k, v.ownBlock = some k -> k < w.heap.size) :
  Calls Tryz.prog 3 #[v] w fun e w' => e = .returned (.bool true) /\ Below w.heap.size w w' := by
 have HR : Hid (Rd .u8 w v ds) := hr
 have HY : Hid (By ds) := hy
 have HOLD : Hid (∀ k, v.ownBlock = some k -> k < w.heap.size) := hold
 have HTAIL : Hid (∀ (u : Value) (xs : List Int), Rd .u8 w u xs -> By xs -> xs.length <= 65536 -> (∀ k, u.ownBlock = some k -> k < w.heap.size) -> Calls Tryz.prog 4 #[u] w fun e w' => ∃ ov out, e = .returned (.tuple #[ov, .int .i64 0]) /\ PackR xs out /\ Owns .u8 5 w' ov out /\ Below w.heap.size w w' /\ ∀ k, ov.ownBlock = some k -> w.heap.size <= k) := fun u xs h1 h2 h3 h4 => zqd9 u xs w h1 h2 h3 h4
 obtain ⟨a, cap, rfl, hlc, hcm, hrest⟩ := hr
 clear hrest hy hold
 obtain ⟨n, hn⟩ : ∃ n, ds.length = n := ⟨_, rfl⟩
 have HN : Hid (ds.length = n) := hn
 rw [hn] at hlc HR HOLD ⊢
 clear hn
 have hcm2 : cap <= 9223372036854775807 := by unfold maxLen at hcm; omega
 clear hcm
 by_cases hb : n <= 1500
 ·have hI : ¬ (n : Int) > 1500 := by omega
  have hI2 : ¬ 1500 < (n : Int) := by omega
  go_enter Tryz.func3, Tryz.ntmps3
  go_wp2_with fail
  refine (HTAIL.out (.slice a n cap) ds HR.out HY.out (by rw [HN.out]; omega) HOLD.out).mono ?_
  rintro e w1 ⟨ov, out, rfl, hp1, ho1, hb1, hf1⟩
  have P1 : Hid (PackR ds out) := hp1
  have O1 : Hid (Owns .u8 5 w1 ov out) := ho1
  have B1 : Hid (Below w.heap.size w w1) := hb1
  have R1 : Hid (Rd .u8 w1 (.slice a n cap) ds) := HR.out.below hb1
  clear hp1 ho1 hb1 hf1 HTAIL
  go_wp2_with fail
  refine (zfu9 _ ds w1 R1.out HY.out (by rw [HN.out]; omega)).mono ?_
  rintro e w2 ⟨ov2, out2, rfl, hp2, ho2, hb2, hf2⟩
  have e2 : out2 = out := PackR.det hp2 P1.out
  rw [e2] at ho2
  have O2 : Hid (Owns .u8 5 w2 ov2 out) := ho2
  have Q2 : Hid (Owns .u8 5 w2 ov out) := O1.out.below hb2
  have B2 : Hid (Below w.heap.size w w2) := B1.out.trans (hb2.mono B1.out.size)
  clear hp2 ho2 hb2 hf2 e2 O1 B1 R1
  go_wp2_with fail
  refine (zud9 ov ov2 out out w2 Q2.out.rd O2.out.rd).mono ?_
  rintro e w3 ⟨rfl, hb3⟩
  have hdec : decide (out = out) = true := by simp
  rw [hdec]
  have B3 : Hid (Below w.heap.size w w3) := B2.out.trans (hb3.mono B2.out.size)
  clear hdec hb3 B2 O2 Q2
  go_wp2_with fail
  refine (zid9 _).mono ?_
  rintro e w4 ⟨rfl, hb4⟩
  have B4 : Hid (Below w.heap.size w w4) := B3.out.trans (hb4.mono B3.out.size)
  clear hb4 B3
  go_wp2_with fail
  go_ret
  exact ⟨rfl, B4.out⟩
 ·have hI : (n : Int) > 1500 := by omega
  have hI2 : 1500 < (n : Int) := by omega
  go_enter Tryz.func3, Tryz.ntmps3
  go_wp2_with (with_reducible (show wpList _ _ _ (Oper.mk _ (Op.slice _ _ _ _ _) _ _ _ _ :: _) _ _); refine zbs9 sl8 _ w rfl (.tmp 11) (.const (.int .i64 1500)) rfl _ ds rfl HR.out 1500 rfl (by rw [HN.out]; omega) ?_)
  intro u hr1 hb1
  have HR2 : Hid (Rd .u8 w u (ds.take 1500)) := hr1
  have HO2 : Hid (∀ k, u.ownBlock = some k -> k < w.heap.size) := fun k hk => HOLD.out k (hb1 k hk)
  have HY2 : Hid (By (ds.take 1500)) := zvx9 HY.out 1500
  have HN2 : Hid ((ds.take 1500).length = 1500) := by show _ = _; rw [List.length_take, HN.out]; omega
  obtain ⟨xs, hxs⟩ : ∃ xs, ds.take 1500 = xs := ⟨_, rfl⟩
  rw [hxs] at HR2 HY2 HN2
  clear hr1 hb1 hxs
  go_wp2_with fail
  refine (HTAIL.out u xs HR2.out HY2.out (by rw [HN2.out]; omega) HO2.out).mono ?_
  rintro e w1 ⟨ov, out, rfl, hp1, ho1, hb1, hf1⟩
  have P1 : Hid (PackR xs out) := hp1
  have O1 : Hid (Owns .u8 5 w1 ov out) := ho1
  have B1 : Hid (Below w.heap.size w w1) := hb1
  have R1 : Hid (Rd .u8 w1 u xs) := HR2.out.below hb1
  clear hp1 ho1 hb1 hf1 HTAIL
  go_wp2_with fail
  refine (zfu9 _ xs w1 R1.out HY2.out (by rw [HN2.out]; omega)).mono ?_
  rintro e w2 ⟨ov2, out2, rfl, hp2, ho2, hb2, hf2⟩
  have e2 : out2 = out := PackR.det hp2 P1.out
  rw [e2] at ho2
  have O2 : Hid (Owns .u8 5 w2 ov2 out) := ho2
  have Q2 : Hid (Owns .u8 5 w2 ov out) := O1.out.below hb2
  have B2 : Hid (Below w.heap.size w w2) := B1.out.trans (hb2.mono B1.out.size)
  clear hp2 ho2 hb2 hf2 e2 O1 B1 R1
  go_wp2_with fail
  refine (zud9 ov ov2 out out w2 Q2.out.rd O2.out.rd).mono ?_
  rintro e w3 ⟨rfl, hb3⟩
  have hdec : decide (out = out) = true := by simp
  rw [hdec]
  have B3 : Hid (Below w.heap.size w w3) := B2.out.trans (hb3.mono B2.out.size)
  clear hdec hb3 B2 O2 Q2
  go_wp2_with fail
  refine (zid9 _).mono ?_
  rintro e w4 ⟨rfl, hb4⟩
  have B4 : Hid (Below w.heap.size w w4) := B3.out.trans (hb4.mono B3.out.size)
  clear hb4 B3
  go_wp2_with fail
  go_ret
  exact ⟨rfl, B4.out⟩
end Go.Proofs.YtobenjkacpipeaaGreat
