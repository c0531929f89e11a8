/-
  How deep each weight stands in the tree.
-/
import Derived.Test.YtcmnhgefeffcpaaHJoin
namespace Go.Proofs.Ytcmnhgefeffcpaa
open Go.RowKit Pl Hf
set_option linter.unusedVariables false
set_option maxRecDepth 100000

abbrev cw (ws : List Int) (i : Nat) : Nat := (ws.getD i 0).toNat

/-- The depths of the tree over weights. -/
def deps (ws : List Int) : List Int := (List.range ws.length).map fun i => (depthOf (treeOf (cw ws) ws.length) i : Int)

theorem deps_length (ws : List Int) : (deps ws).length = ws.length := by simp [deps]
theorem deps_getD (ws : List Int) (i : Nat) (hi : i < ws.length) : (deps ws).getD i 0 = (depthOf (treeOf (cw ws) ws.length) i : Int) := by
  simp [deps, List.getD_eq_getElem?_getD, hi]

/-- What the loop over numbers, from the last one down to k, has made. -/
structure DS (P DD : List Int) (R k : Nat) (m : Int) : Prop where
  len : DD.length = R + 1
  root : DD.getD R 0 = 0
  rel : ∀ j, k ≤ j → j < R → DD.getD j 0 = DD.getD (pf P j) 0 + 1
  bd : ∀ j, k ≤ j → j ≤ R → 0 ≤ DD.getD j 0 ∧ DD.getD j 0 ≤ R - j
  top : ∀ j, k ≤ j → j ≤ R → DD.getD j 0 ≤ m
  got : m = 0 ∨ ∃ j, k ≤ j ∧ j < R ∧ DD.getD j 0 = m

theorem DS.step {P DD : List Int} {R k : Nat} {m : Int} (h : DS P DD R (k + 1) m) (hk : k < R) (hp : k < pf P k ∧ pf P k ≤ R) (hr : ∀ j, j < R → j < pf P j ∧ pf P j ≤ R) :
    DS P (DD.set k (DD.getD (pf P k) 0 + 1)) R k (max m (DD.getD (pf P k) 0 + 1)) := by
  have hl := h.len
  have g : ∀ j, (DD.set k (DD.getD (pf P k) 0 + 1)).getD j 0 = if j = k then DD.getD (pf P k) 0 + 1 else DD.getD j 0 := fun j => by
    rw [getD_set]
    by_cases e : j = k
    · rw [if_pos ⟨e, by omega⟩, if_pos e]
    · rw [if_neg (fun x => e x.1), if_neg e]
  have hb := h.bd (pf P k) (by omega) hp.2
  refine ⟨by simp [hl], by rw [g, if_neg (by omega)]; exact h.root, fun j h1 h2 => ?_, fun j h1 h2 => ?_, fun j h1 h2 => ?_, ?_⟩
  · rw [g j, g (pf P j)]
    by_cases e : j = k
    · subst e
      rw [if_pos rfl, if_neg (by omega)]
    · have := hr j h2
      rw [if_neg e, if_neg (by omega)]
      exact h.rel j (by omega) h2
  · rw [g j]
    by_cases e : j = k
    · rw [if_pos e]; omega
    · rw [if_neg e]; exact h.bd j (by omega) h2
  · rw [g j]
    by_cases e : j = k
    · rw [if_pos e]; omega
    · rw [if_neg e]; have := h.top j (by omega) h2; omega
  · rcases h.got with e | ⟨j, h1, h2, h3⟩
    · right
      refine ⟨k, by omega, hk, ?_⟩
      rw [g, if_pos rfl]
      omega
    · by_cases hm : m ≤ DD.getD (pf P k) 0 + 1
      · right
        refine ⟨k, by omega, hk, ?_⟩
        rw [g, if_pos rfl]
        omega
      · right
        refine ⟨j, by omega, h2, ?_⟩
        rw [g, if_neg (by omega), h3]
        omega

theorem DS.start (P : List Int) (R : Nat) : DS P (List.replicate (R + 1) 0) R R 0 := by
  have g : ∀ j, (List.replicate (R + 1) (0 : Int)).getD j 0 = 0 := fun j => by
    simp only [List.getD_eq_getElem?_getD, List.getElem?_replicate]
    split <;> simp
  exact ⟨by simp, g _, fun j h1 h2 => by omega, fun j h1 h2 => by rw [g]; omega, fun j h1 h2 => by rw [g]; omega, .inl rfl⟩

theorem DS.done {P DD ws : List Int} {m : Int} {N S f : Nat} {t : NT} (h : DS P DD (2 * ws.length - 2) 0 m) (J : JS P N ws.length [t] (treeOf (cw ws) ws.length) S f) (hn : 1 ≤ ws.length) (hpos : ∀ i, i < ws.length → 0 < ws.getD i 0) :
    DD.take ws.length = deps ws ∧ 0 ≤ m ∧ m ≤ 2 * ws.length ∧ (m ≤ 11 ↔ ∀ i, i < ws.length → (deps ws).getD i 0 ≤ 11) := by
  obtain ⟨hr, hD⟩ := J.done hn
  have hlen := h.len
  obtain ⟨hT, hM⟩ := hD (fun j => (DD.getD j 0).toNat) (by rw [h.root]; rfl) (fun j hj => by
    have h1 := h.rel j (Nat.zero_le _) hj
    have h2 := h.bd (pf P j) (Nat.zero_le _) (hr j hj).2
    omega)
  have hst := stand_all (cw ws) ws.length (fun i hi => by have := hpos i hi; simp only [cw]; omega)
  have hdep : ∀ i, i < ws.length → DD.getD i 0 = (depthOf (treeOf (cw ws) ws.length) i : Int) := fun i hi => by
    have hb := treeOf_bytes (cw ws) ws.length (by rw [hst, List.length_range]; omega)
    have hb2 : ((treeOf (cw ws) ws.length).map (·.1)).Perm (List.range ws.length) := by
      refine hb.trans ?_
      rw [hst]
      exact sortB_perm _ _
    have hm : i ∈ (treeOf (cw ws) ws.length).map (·.1) := hb2.mem_iff.2 (by simpa using hi)
    obtain ⟨p, hp, rfl⟩ := List.mem_map.1 hm
    rw [depthOf_mem (hb2.nodup_iff.2 List.nodup_range) hp]
    have h1 := hT p hp
    have h2 := h.bd p.1 (Nat.zero_le _) (by omega)
    omega
  have e : DD.take ws.length = deps ws := by
    refine list_eq_of_getD (by rw [List.length_take, deps_length]; omega) (fun i hi => ?_)
    rw [List.length_take] at hi
    rw [deps_getD ws i (by omega), ← hdep i (by omega), List.getD_eq_getElem?_getD, List.getElem?_take, if_pos (by omega), ← List.getD_eq_getElem?_getD]
  have hm0 : 0 ≤ m ∧ m ≤ 2 * ws.length := by
    rcases h.got with e | ⟨j, _, h2, h3⟩
    · omega
    · have := h.bd j (Nat.zero_le _) (by omega)
      omega
  refine ⟨e, hm0.1, hm0.2, fun h1 i hi => ?_, fun h1 => ?_⟩
  · rw [deps_getD ws i hi, ← hdep i hi]
    have := h.top i (Nat.zero_le _) (by omega)
    omega
  · rcases h.got with e | ⟨j, _, h2, h3⟩
    · omega
    · have h4 := hM 11 (fun i hi => by
        have := h1 i hi
        rw [deps_getD ws i hi, ← hdep i hi] at this
        omega) j (by omega)
      have := h.bd j (Nat.zero_le _) (by omega)
      omega

theorem pf_cell {P : List Int} {n N S f : Nat} {L : List NT} {T : List (Nat × Nat)} (J : JS P N n L T S f) (j : Nat) : P.getD j 0 = (pf P j : Int) := by
  have := J.nn j
  unfold pf
  omega

set_option maxHeartbeats 4000000 in
theorem grow_any (v : Value) (ws : List Int) (w : World) (hr : Rd .i64 w v ws) (h2 : 2 ≤ ws.length) (h3 : ws.length ≤ 256) (hpos : ∀ i, i < ws.length → 0 < ws.getD i 0) (S : Nat) (hS : ((List.range ws.length).map (cw ws)).sum = S) (hS2 : S ≤ 1000000000000000) :
    Calls Try.prog 40 #[v] w fun e w' => ∃ dv m, e = .returned (.tuple #[dv, .int .i64 m]) ∧ Rd .i64 w' dv (deps ws) ∧ 0 ≤ m ∧ m ≤ 512 ∧ (m ≤ 11 ↔ ∀ i, i < ws.length → (deps ws).getD i 0 ≤ 11) ∧ Below w.heap.size w w' ∧ ∀ k, dv.ownBlock = some k → w.heap.size ≤ k := by
  have HR : Hid (Rd .i64 w v ws) := hr
  have HPOS : Hid (∀ i, i < ws.length → 0 < ws.getD i 0) := hpos
  have HS : Hid (((List.range ws.length).map (cw ws)).sum = S) := hS
  obtain ⟨a, cap, rfl, hlc, hcm, _, hcc⟩ := hr
  clear hcc hpos hS
  obtain ⟨j0, hj, hy0, hy1, hy2⟩ := elem64.info
  go_enter Try.func40, Try.ntmps40
  go_wp2_with fail
  refine (join_any _ ws w HR.out h2 h3 HPOS.out S HS.out hS2).mono ?_
  rintro e w1 ⟨pv, P, t, N, f, rfl, hop, hJ, hb, hfr⟩
  have HJ : Hid (JS P N ws.length [t] (treeOf (cw ws) ws.length) S f) := hJ
  have hpl : P.length = 2 * ws.length - 2 := hJ.plen
  obtain ⟨gp, pc, hpv, _⟩ := Owns.shape hop (by omega)
  rw [hpl] at hpv
  subst hpv
  have OP1 : Hid (Owns .i64 3 w1 (.slice (some ⟨gp, 0, none⟩) (2 * ws.length - 2) pc) P) := hop
  have HB1 : Hid (Below w.heap.size w w1) := hb
  have HPL : Hid (P.length = 2 * ws.length - 2) := hpl
  have HRT : Hid (∀ j, j < 2 * ws.length - 2 → j < pf P j ∧ pf P j ≤ 2 * ws.length - 2) := (hJ.done (by omega)).1
  clear hop hJ hb hfr hpl
  go_wp2_with (at_make; refine wpList_make_full _ rfl (.tmp 16) (.tmp 16) 22 rfl 0 3 j0 _ 1 Try.underlying22 hj hy0 hy1 .i64 .i64 _ _ (2 * ws.length - 2 + 1) rfl rfl (by omega) (by omega) (by rw [hy2]; omega) (by unfold maxLen; omega) (Nat.zero_le _) ?_)
  intro w2 ho2 hg2
  have b2 : Below w1.heap.size w1 w2 := (Below.refl _ _).grown hg2 (Nat.le_refl _) (fun k e => by cases e)
  obtain ⟨gd, hgd⟩ : ∃ gd, Hid (w1.heap.size = gd) := ⟨_, rfl⟩
  have OD2 : Hid (Owns .i64 3 w2 (.slice (some ⟨gd, 0, none⟩) (2 * ws.length - 2 + 1) (2 * ws.length - 2 + 1)) (List.replicate (2 * ws.length - 2 + 1) 0)) := by
    show w2.ownsRow _ _ _ _ _ _
    rw [toList_madeCells_one, hgd.out] at ho2
    simpa using ho2
  have OP2 : Hid (Owns .i64 3 w2 (.slice (some ⟨gp, 0, none⟩) (2 * ws.length - 2) pc) P) := OP1.out.below b2
  have hgpd : gp ≠ gd := by have := OP1.out.lt gp rfl; rw [hgd.out] at this; omega
  have HB2 : Hid (Below w.heap.size w w2) := HB1.out.trans (b2.mono HB1.out.size)
  have HGD : Hid (w.heap.size ≤ gd) := by show _ ≤ _; rw [← hgd.out]; exact HB1.out.size
  rw [hgd.out]
  clear ho2 hg2 b2 hj hy0 hy1 hy2 OP1 HB1
  go_wp2_with fail
  go_loopw [7, 8] (fun q i wr => ∃ (k : Nat) (m : Int) (DD : List Int), k ≤ 2 * ws.length - 2 ∧ i = .int .i64 ((k : Int) - 1) ∧ q = .int .i64 m ∧ 0 ≤ m ∧ m ≤ 512 ∧ Hid (DS P DD (2 * ws.length - 2) k m) ∧ Hid (Owns .i64 3 wr (.slice (some ⟨gd, 0, none⟩) (2 * ws.length - 2 + 1) (2 * ws.length - 2 + 1)) DD) ∧ Hid (Owns .i64 3 wr (.slice (some ⟨gp, 0, none⟩) (2 * ws.length - 2) pc) P) ∧ Hid (Below w.heap.size w wr)) (fun _ i _ => (intOf i + 1).toNat)
  case atStart => exact ⟨2 * ws.length - 2, 0, _, Nat.le_refl _, by first | rfl | go_num, rfl, by omega, by omega, DS.start P _, OD2, OP2, HB2⟩
  case round =>
    obtain ⟨k, m, DD, hk, rfl, rfl, hm0, hm1, HD, OD, OP, HB⟩ := hrel
    clear OD2 OP2 HB2
    by_cases h0 : k = 0
    · subst h0
      have hdone := HD.out.done HJ.out (by omega) HPOS.out
      have HDN : Hid (DD.take ws.length = deps ws ∧ 0 ≤ m ∧ m ≤ 2 * ws.length ∧ (m ≤ 11 ↔ ∀ i, i < ws.length → (deps ws).getD i 0 ≤ 11)) := hdone
      have HLD : Hid (DD.length = 2 * ws.length - 2 + 1) := HD.out.len
      have e1 : ((0 : Nat) : Int) - 1 = -1 := by omega
      rw [e1]
      clear hdone HD
      go_wp2_with fail
      go_ret2
      refine ⟨.slice (some ⟨gd, 0, none⟩) ws.length (2 * ws.length - 2 + 1), m, rfl, ?_, HDN.out.2.1, by omega, HDN.out.2.2.2, HB.out, fun k hk => by simp only [Value.ownBlock, Option.some.injEq] at hk; have := HGD.out; omega⟩
      rw [← HDN.out.1]
      have hc : ∀ i, i < DD.length → wr.cell? ⟨gd, 0 + i, none⟩ = some (.int .i64 (DD.getD i 0)) := fun i hi => by rw [Nat.zero_add]; exact (OD.out.at1 i hi).1
      exact rd_take ws.length (by rw [HLD.out]; omega) (by rw [HLD.out]; exact Nat.le_refl _) (by unfold maxLen; omega) hc
    · obtain ⟨j, rfl⟩ : ∃ j, k = j + 1 := ⟨k - 1, by omega⟩
      have e1 : ((j + 1 : Nat) : Int) - 1 = (j : Int) := by omega
      rw [e1]
      have hrt := HRT.out j (by omega)
      have hlen := HD.out.len
      obtain ⟨q, hq⟩ : ∃ q, Hid (pf P j = q) := ⟨_, rfl⟩
      rw [hq.out] at hrt
      have cp : wr.cell? ⟨gp, j, none⟩ = some (.int .i64 (q : Int)) := by rw [(OP.out.at1 j (by rw [HPL.out]; omega)).1, pf_cell HJ.out, hq.out]
      obtain ⟨x, hx⟩ : ∃ x, Hid (DD.getD q 0 = x) := ⟨_, rfl⟩
      have cq : wr.cell? ⟨gd, q, none⟩ = some (.int .i64 x) := by rw [(OD.out.at1 q (by omega)).1, hx.out]
      obtain ⟨y, hy⟩ : ∃ y, Hid (DD.getD j 0 = y) := ⟨_, rfl⟩
      obtain ⟨cj0, fj, _⟩ := OD.out.at1 j (by omega)
      have cj : wr.cell? ⟨gd, j, none⟩ = some (.int .i64 y) := by rw [cj0, hy.out]
      have hbd := HD.out.bd q (by omega) (by omega)
      rw [hx.out] at hbd
      have HD2 : Hid (DS P (DD.set j (x + 1)) (2 * ws.length - 2) j (max m (x + 1))) := by
        have := HD.out.step (by omega) (HRT.out j (by omega)) HRT.out
        rw [hq.out, hx.out] at this
        exact this
      have hx0 : 0 ≤ x ∧ x ≤ 510 := by omega
      have emx : max m (x + 1) = if m < x + 1 then x + 1 else m := by split <;> omega
      rw [emx] at HD2
      have OD3 : Hid (Owns .i64 3 (wr.setCell ⟨gd, j, none⟩ (.int .i64 (x + 1))) (.slice (some ⟨gd, 0, none⟩) (2 * ws.length - 2 + 1) (2 * ws.length - 2 + 1)) (DD.set j (x + 1))) := OD.out.set j (x + 1)
      have T3 : Tch (fun k => k = gd) wr (wr.setCell ⟨gd, j, none⟩ (.int .i64 (x + 1))) := Tch.setCell (Tch.refl (fun k => k = gd) wr) (p := ⟨gd, j, none⟩) (fun _ => rfl) _
      have OP3 : Hid (Owns .i64 3 (wr.setCell ⟨gd, j, none⟩ (.int .i64 (x + 1))) (.slice (some ⟨gp, 0, none⟩) (2 * ws.length - 2) pc) P) := OP.out.tch T3 (fun k hk e => by simp only [Value.ownBlock, Option.some.injEq] at hk; omega)
      have HB3 : Hid (Below w.heap.size w (wr.setCell ⟨gd, j, none⟩ (.int .i64 (x + 1)))) := HB.out.trans (T3.below HB.out.size (fun k e => by rw [e]; exact HGD.out))
      clear hbd hlen cj0 emx T3
      go_wp2_with fail
      go_roundw
      case rel => exact ⟨j, _, _, by omega, rfl, rfl, by split <;> omega, by split <;> omega, HD2, OD3, OP3, HB3⟩
      case measure => simp [intOf]
end Go.Proofs.Ytcmnhgefeffcpaa
