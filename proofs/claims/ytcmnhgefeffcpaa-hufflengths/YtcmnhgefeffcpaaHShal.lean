/-
  Depths of at most eleven: weights are halved till they are.
-/
import Derived.Test.YtcmnhgefeffcpaaHGrow
namespace Go.Proofs.Ytcmnhgefeffcpaa
open Go.RowKit Pl Hf
set_option linter.unusedVariables false
set_option maxRecDepth 100000

def halve (ws : List Int) : List Int := ws.map fun x => x / 2 + 1
def All11 (ws : List Int) : Prop := ∀ i, i < ws.length → (deps ws).getD i 0 ≤ 11

/-- The depths of weights that are halved till no depth is above eleven. -/
inductive Sh : List Int → List Int → Prop
  | now (ws : List Int) (h : All11 ws) : Sh ws (deps ws)
  | on (ws ds : List Int) (h : ¬ All11 ws) (k : Sh (halve ws) ds) : Sh ws ds

/-- Weights that may be: at least two, at most 256, each above 0. -/
structure Wts (ws : List Int) : Prop where
  two : 2 ≤ ws.length
  most : ws.length ≤ 256
  pos : ∀ i, i < ws.length → 0 < ws.getD i 0

theorem halve_length (ws : List Int) : (halve ws).length = ws.length := by simp [halve]
theorem halve_getD (ws : List Int) (i : Nat) (hi : i < ws.length) : (halve ws).getD i 0 = ws.getD i 0 / 2 + 1 := by
  simp [halve, List.getD_eq_getElem?_getD, hi]

theorem Wts.halve {ws : List Int} (h : Wts ws) : Wts (halve ws) := by
  refine ⟨by rw [halve_length]; exact h.two, by rw [halve_length]; exact h.most, fun i hi => ?_⟩
  rw [halve_length] at hi
  rw [halve_getD ws i hi]
  have := h.pos i hi
  omega

theorem Wts.stand {ws : List Int} (h : Wts ws) : stand (cw ws) ws.length = List.range ws.length := stand_all _ _ (fun i hi => by have := h.pos i hi; simp only [cw]; omega)

theorem Wts.tr {ws : List Int} (h : Wts ws) : Tr (cw ws) (depthOf (treeOf (cw ws) ws.length)) (sortB (cw ws) (List.range ws.length)) := by
  have := tr_of (cw ws) ws.length (by rw [h.stand, List.length_range]; exact h.two)
  rw [h.stand] at this
  exact this

theorem mem_sortR {c : Nat → Nat} {n b : Nat} : b ∈ sortB c (List.range n) ↔ b < n := by rw [(sortB_perm c _).mem_iff]; simp

/-- A depth above eleven: some weight is above two. -/
theorem Wts.big {ws : List Int} (h : Wts ws) (hn : ¬ All11 ws) : ∃ i, i < ws.length ∧ 2 < ws.getD i 0 := by
  refine Classical.byContradiction (fun hc => hn (fun i hi => ?_))
  have := h.tr.shallow (fun b hb => by
    have hb' := mem_sortR.1 hb
    have h1 := h.pos b hb'
    have h2 : ¬ 2 < ws.getD b 0 := fun e => hc ⟨b, hb', e⟩
    simp only [cw]
    omega) (by rw [(sortB_perm _ _).length_eq, List.length_range]; exact h.most) i (mem_sortR.2 hi)
  rw [deps_getD ws i hi]
  omega

def wsum (ws : List Int) : Nat := ((List.range ws.length).map (cw ws)).sum

theorem sum_lt {n : Nat} {f g : Nat → Nat} (hle : ∀ i, i < n → f i ≤ g i) (hlt : ∃ i, i < n ∧ f i < g i) : ((List.range n).map f).sum < ((List.range n).map g).sum := by
  induction n with
  | zero => obtain ⟨i, h, _⟩ := hlt; omega
  | succ n ih =>
    rw [List.range_succ, List.map_append, List.map_append, List.sum_append, List.sum_append]
    simp only [List.map_cons, List.map_nil, List.sum_cons, List.sum_nil, Nat.add_zero]
    have hle2 : ((List.range n).map f).sum ≤ ((List.range n).map g).sum := by
      clear ih hlt
      induction n with
      | zero => simp
      | succ n ih =>
        rw [List.range_succ, List.map_append, List.map_append, List.sum_append, List.sum_append]
        have := ih (fun i hi => hle i (by omega))
        have := hle n (by omega)
        simp
        omega
    obtain ⟨i, h1, h2⟩ := hlt
    have hn := hle n (by omega)
    by_cases e : i = n
    · subst e; omega
    · have := ih (fun i hi => hle i (by omega)) ⟨i, by omega, h2⟩
      omega

theorem Wts.less {ws : List Int} (h : Wts ws) (hn : ¬ All11 ws) : wsum (Go.Proofs.Ytcmnhgefeffcpaa.halve ws) < wsum ws := by
  obtain ⟨i, hi, hb⟩ := h.big hn
  unfold wsum
  rw [halve_length]
  refine sum_lt (fun j hj => ?_) ⟨i, hi, ?_⟩
  · have := h.pos j hj
    simp only [cw]
    rw [halve_getD ws j hj]
    omega
  · simp only [cw]
    rw [halve_getD ws i hi]
    omega

/-- What the weights in memory are together. -/
def msr (w : World) (g n : Nat) : Nat := ((List.range n).map fun i => match w.cell? ⟨g, i, none⟩ with | some (.int _ x) => x.toNat | _ => 0).sum

theorem msr_owns {w : World} {g n cap : Nat} {ws : List Int} (h : Owns .i64 3 w (.slice (some ⟨g, 0, none⟩) n cap) ws) : msr w g ws.length = wsum ws := by
  unfold msr wsum
  congr 1
  refine List.map_congr_left (fun i hi => ?_)
  rw [(h.at1 i (by simpa using hi)).1]

theorem Sh.facts {ws ds : List Int} (h : Sh ws ds) (hw : Wts ws) : ∃ vs, Wts vs ∧ vs.length = ws.length ∧ All11 vs ∧ ds = deps vs := by
  induction h with
  | now ws h => exact ⟨ws, hw, rfl, h, rfl⟩
  | on ws ds h k ih =>
    obtain ⟨vs, h1, h2, h3, h4⟩ := ih hw.halve
    exact ⟨vs, h1, by rw [h2, halve_length], h3, h4⟩

/-- The first k halved. -/
def halfTo (ws : List Int) (k : Nat) : List Int := (halve ws).take k ++ ws.drop k

theorem halfTo_length (ws : List Int) (k : Nat) : (halfTo ws k).length = ws.length := by simp [halfTo, halve_length]; omega
theorem halfTo_zero (ws : List Int) : halfTo ws 0 = ws := by simp [halfTo]
theorem halfTo_all (ws : List Int) : halfTo ws ws.length = halve ws := by
  unfold halfTo
  rw [List.drop_length, List.append_nil, ← halve_length ws, List.take_length]
theorem halfTo_getD (ws : List Int) (k i : Nat) (hi : i < ws.length) : (halfTo ws k).getD i 0 = if i < k then ws.getD i 0 / 2 + 1 else ws.getD i 0 := by
  unfold halfTo
  rw [getD_append]
  simp only [List.length_take, halve_length]
  by_cases e : i < k
  · rw [if_pos (by omega), if_pos e, List.getD_eq_getElem?_getD, List.getElem?_take, if_pos e, ← List.getD_eq_getElem?_getD, halve_getD ws i hi]
  · rw [if_neg (by omega), if_neg e, List.getD_eq_getElem?_getD, List.getElem?_drop, List.getD_eq_getElem?_getD]
    congr 2
    omega
theorem halfTo_succ (ws : List Int) (k : Nat) (hk : k < ws.length) : halfTo ws (k + 1) = (halfTo ws k).set k (ws.getD k 0 / 2 + 1) := by
  refine list_eq_of_getD (by simp [halfTo_length]) (fun i hi => ?_)
  rw [halfTo_length] at hi
  rw [getD_set, halfTo_getD ws _ i hi, halfTo_getD ws _ i hi, halfTo_length]
  by_cases e : i = k
  · subst e; simp [hk]
  · have hne : ¬ (i = k ∧ k < ws.length) := fun x => e x.1
    rw [if_neg hne]
    by_cases e2 : i < k
    · rw [if_pos (show i < k + 1 by omega), if_pos e2]
    · rw [if_neg (show ¬ i < k + 1 by omega), if_neg e2]

set_option maxHeartbeats 1000000 in
theorem shallow_one (g cap : Nat) (w : World) :
    Calls Try.prog 16 #[.slice (some ⟨g, 0, none⟩) 1 cap] w fun e w' => ∃ dv, e = .returned dv ∧ Rd .i64 w' dv [1] ∧ Below w.heap.size w w' ∧ ∀ k, dv.ownBlock = some k → w.heap.size ≤ k := by
  go_enter Try.func16, Try.ntmps16
  go_wp2_with fail
  go_ret
  refine ⟨.slice (some ⟨w.heap.size, 0, none⟩) 1 1, rfl, ?_, (Below.refl _ _).alloc (Nat.le_refl _) _, fun k hk => by simp only [Value.ownBlock, Option.some.injEq] at hk; omega⟩
  refine ⟨some ⟨w.heap.size, 0, none⟩, 1, rfl, Nat.le_refl _, by unfold maxLen; omega, (fun e => by cases e), .inr ⟨w.heap.size, 0, rfl, fun i hi => ?_⟩⟩
  have : i = 0 := by simpa using hi
  subst this
  simp

set_option maxHeartbeats 4000000 in
theorem shallow_any (g cap : Nat) (ws : List Int) (w : World) (ho : Owns .i64 3 w (.slice (some ⟨g, 0, none⟩) ws.length cap) ws) (hw : Wts ws) (hS2 : wsum ws ≤ 1000000000000000) :
    Calls Try.prog 16 #[.slice (some ⟨g, 0, none⟩) ws.length cap] w fun e w' => ∃ dv ds, e = .returned dv ∧ Rd .i64 w' dv ds ∧ Sh ws ds ∧ Tch (fun k => k = g) w w' ∧ ∀ k, dv.ownBlock = some k → w.heap.size ≤ k := by
  have HO : Hid (Owns .i64 3 w (.slice (some ⟨g, 0, none⟩) ws.length cap) ws) := ho
  have HW : Hid (Wts ws) := hw
  have hw2 := hw.two
  have hw3 := hw.most
  have hne : ((ws.length : Int) == 1) = false := by simp; omega
  clear ho hw
  go_enter Try.func16, Try.ntmps16
  go_wp2_with fail
  refine (grow_any _ ws w HO.out.rd hw2 hw3 HW.out.pos _ rfl hS2).mono ?_
  rintro e w1 ⟨dv, m, rfl, hd1, hm0, hm1, hm2, hb1, hf1⟩
  have HF1 : Hid (∀ k, dv.ownBlock = some k → w.heap.size ≤ k) := hf1
  clear hf1
  have HD1 : Hid (Rd .i64 w1 dv (deps ws)) := hd1
  have HM1 : Hid (m ≤ 11 ↔ All11 ws) := hm2
  have HO1 : Hid (Owns .i64 3 w1 (.slice (some ⟨g, 0, none⟩) ws.length cap) ws) := HO.out.below hb1
  have HT1 : Hid (Tch (fun k => k = g) w w1) := Tch.of_below hb1
  clear hd1 hm2 hb1
  go_wp2_with fail
  go_loopw [3, 4] (fun d q wr => ∃ (m : Int) (vs : List Int), q = .int .i64 m ∧ 0 ≤ m ∧ m ≤ 512 ∧ Hid (Rd .i64 wr d (deps vs)) ∧ Hid (m ≤ 11 ↔ All11 vs) ∧ Hid (Wts vs) ∧ Hid (vs.length = ws.length) ∧ Hid (wsum vs ≤ 1000000000000000) ∧
    Hid (Owns .i64 3 wr (.slice (some ⟨g, 0, none⟩) ws.length cap) vs) ∧ Hid (∀ ds, Sh vs ds → Sh ws ds) ∧ Hid (Tch (fun k => k = g) w wr) ∧ Hid (∀ k, d.ownBlock = some k → w.heap.size ≤ k)) (fun _ _ wr => msr wr g ws.length)
  case atStart => exact ⟨m, ws, rfl, hm0, hm1, HD1, HM1, HW, rfl, hS2, HO1, fun ds h => h, HT1, HF1⟩
  case round =>
    obtain ⟨m, vs, rfl, hm0, hm1, HD, HM, HW2, HL, HS, HO2, HK, HT, HFR⟩ := hrel
    clear HD1 HM1 HO1 HT1
    by_cases h11 : m ≤ 11
    · have HF : Hid (Sh ws (deps vs)) := HK.out _ (Sh.now vs (HM.out.1 h11))
      go_wp2_with fail
      go_ret
      exact ⟨_, deps vs, rfl, HD.out, HF.out, HT.out, HFR.out⟩
    · have HNA : Hid (¬ All11 vs) := fun e => h11 (HM.out.2 e)
      have HMS : Hid (msr wr g ws.length = wsum vs) := by show _ = _; rw [← HL.out]; exact msr_owns HO2.out
      go_wp2_with fail
      go_loopw [19] (fun i wr2 => ∃ k : Nat, k ≤ ws.length ∧ i = .int .i64 k ∧ Hid (Owns .i64 3 wr2 (.slice (some ⟨g, 0, none⟩) ws.length cap) (halfTo vs k)) ∧ Hid (Tch (fun k => k = g) w wr2)) (fun i _ => ws.length - (intOf i).toNat)
      case atStart => exact ⟨0, Nat.zero_le _, rfl, by rw [halfTo_zero]; exact HO2, HT⟩
      case round =>
        obtain ⟨k, hk, rfl, HO3, HT3⟩ := hrel
        by_cases hlt : k < ws.length
        · obtain ⟨x, hx⟩ : ∃ x, Hid (vs.getD k 0 = x) := ⟨_, rfl⟩
          have hlk : k < (halfTo vs k).length := by rw [halfTo_length, HL.out]; exact hlt
          obtain ⟨c0, f0, _⟩ := HO3.out.at1 k hlk
          have cx : wr.cell? ⟨g, k, none⟩ = some (.int .i64 x) := by rw [c0, halfTo_getD vs k k (by rw [HL.out]; exact hlt), if_neg (by omega), hx.out]
          have hxb : 0 < x ∧ x ≤ 1000000000000000 := by
            rw [← hx.out]
            refine ⟨HW2.out.pos k (by rw [HL.out]; exact hlt), ?_⟩
            have : cw vs k ≤ wsum vs := le_sum_mem (List.mem_map.2 ⟨k, by rw [HL.out]; simpa using hlt, rfl⟩)
            have h2 := HS.out
            simp only [cw] at this
            omega
          have hdv : x.tdiv 2 = x / 2 := Int.tdiv_eq_ediv_of_nonneg (by omega)
          have HO4 : Hid (Owns .i64 3 (wr.setCell ⟨g, k, none⟩ (.int .i64 (x / 2 + 1))) (.slice (some ⟨g, 0, none⟩) ws.length cap) (halfTo vs (k + 1))) := by
            show Owns _ _ _ _ _
            rw [halfTo_succ vs k (by rw [HL.out]; exact hlt), hx.out]
            exact HO3.out.set k (x / 2 + 1)
          have HT4 : Hid (Tch (fun k => k = g) w (wr.setCell ⟨g, k, none⟩ (.int .i64 (x / 2 + 1)))) := Tch.setCell HT3.out (p := ⟨g, k, none⟩) (fun _ => rfl) _
          clear c0 hlk HO3 HT3
          go_wp2_with fail
          go_roundw
          case rel => exact ⟨k + 1, by omega, by go_num, HO4, HT4⟩
          case measure => simp [intOf]; omega
        · obtain rfl : k = ws.length := by omega
          have e0 : halfTo vs ws.length = halve vs := by rw [← HL.out]; exact halfTo_all vs
          rw [e0] at HO3
          have HW4 : Hid (Wts (halve vs)) := HW2.out.halve
          have HL4 : Hid ((halve vs).length = ws.length) := by show _ = _; rw [halve_length]; exact HL.out
          have HLT : Hid (wsum (halve vs) < wsum vs) := HW2.out.less HNA.out
          have HS4 : Hid (wsum (halve vs) ≤ 1000000000000000) := by have := HLT.out; have := HS.out; show _ ≤ _; omega
          have HK4 : Hid (∀ ds, Sh (halve vs) ds → Sh ws ds) := fun ds h => HK.out ds (Sh.on vs ds HNA.out h)
          clear e0 HW2 HNA HD HM HO2 HK HT
          go_wp2_with fail
          refine (grow_any _ (halve vs) wr HO3.out.rd (by rw [HL4.out]; exact hw2) (by rw [HL4.out]; exact hw3) HW4.out.pos _ rfl HS4.out).mono ?_
          rintro e w5 ⟨dv5, m5, rfl, hd5, hm50, hm51, hm52, hb5, hf5⟩
          have HF5 : Hid (∀ k, dv5.ownBlock = some k → w.heap.size ≤ k) := fun k hk => Nat.le_trans HT3.out.size (hf5 k hk)
          clear hf5
          have HD5 : Hid (Rd .i64 w5 dv5 (deps (halve vs))) := hd5
          have HM5 : Hid (m5 ≤ 11 ↔ All11 (halve vs)) := hm52
          have HO5 : Hid (Owns .i64 3 w5 (.slice (some ⟨g, 0, none⟩) ws.length cap) (halve vs)) := HO3.out.below hb5
          have HT5 : Hid (Tch (fun k => k = g) w w5) := HT3.out.trans (S' := fun _ => False) (Tch.of_below hb5) (fun _ _ e => e.elim)
          have HMS5 : Hid (msr w5 g ws.length = wsum (halve vs)) := by show _ = _; rw [← HL4.out]; exact msr_owns HO5.out
          clear hd5 hm52 hb5 HO3 HT3
          go_wp2_with fail
          go_roundw
          case rel => exact ⟨m5, halve vs, rfl, hm50, hm51, HD5, HM5, HW4, HL4, HS4, HO5, HK4, HT5, HF5⟩
          case measure => rw [HMS.out, HMS5.out]; exact HLT.out
end Go.Proofs.Ytcmnhgefeffcpaa
