import Derived.Test.YtokkippjbagmkaaGreatGHJoin
set_option maxRecDepth 100000
/-
  Depths of at most eleven: weights are halved till they are.
-/
namespace Go.Proofs.YtokkippjbagmkaaGreat
open Go.RowKit Pl Hf
set_option linter.unusedVariables false
set_option maxRecDepth 100000

def halve (ws : List Int) : List Int := ws.map fun x => x / 2 + 1
def All11 (ws : List Int) : Prop := ∀ i, i < ws.length → (deps ws).getD i 0 ≤ 11

/-- The depths of weights that are halved till no depth is above eleven. -/
inductive Sh : List Int → List Int → Prop
  | now (ws : List Int) (h : All11 ws) : Sh ws (deps ws)
  | on (ws ds : List Int) (h : ¬ All11 ws) (k : Sh (halve ws) ds) : Sh ws ds

/-- Weights that may be: at least two, at most 256, each above 0. -/
structure Wts (ws : List Int) : Prop where
  two : 2 ≤ ws.length
  most : ws.length ≤ 256
  pos : ∀ i, i < ws.length → 0 < ws.getD i 0

theorem halve_length (ws : List Int) : (halve ws).length = ws.length := by simp [halve]
theorem halve_getD (ws : List Int) (i : Nat) (hi : i < ws.length) : (halve ws).getD i 0 = ws.getD i 0 / 2 + 1 := by
  simp [halve, List.getD_eq_getElem?_getD, hi]

theorem Wts.halve {ws : List Int} (h : Wts ws) : Wts (halve ws) := by
  refine ⟨by rw [halve_length]; exact h.two, by rw [halve_length]; exact h.most, fun i hi => ?_⟩
  rw [halve_length] at hi
  rw [halve_getD ws i hi]
  have := h.pos i hi
  omega

theorem Wts.stand {ws : List Int} (h : Wts ws) : stand (cw ws) ws.length = List.range ws.length := stand_all _ _ (fun i hi => by have := h.pos i hi; simp only [cw]; omega)

theorem Wts.tr {ws : List Int} (h : Wts ws) : Tr (cw ws) (depthOf (treeOf (cw ws) ws.length)) (sortB (cw ws) (List.range ws.length)) := by
  have := tr_of (cw ws) ws.length (by rw [h.stand, List.length_range]; exact h.two)
  rw [h.stand] at this
  exact this

theorem mem_sortR {c : Nat → Nat} {n b : Nat} : b ∈ sortB c (List.range n) ↔ b < n := by rw [(sortB_perm c _).mem_iff]; simp

/-- A depth above eleven: some weight is above two. -/
theorem Wts.big {ws : List Int} (h : Wts ws) (hn : ¬ All11 ws) : ∃ i, i < ws.length ∧ 2 < ws.getD i 0 := by
  refine Classical.byContradiction (fun hc => hn (fun i hi => ?_))
  have := h.tr.shallow (fun b hb => by
    have hb' := mem_sortR.1 hb
    have h1 := h.pos b hb'
    have h2 : ¬ 2 < ws.getD b 0 := fun e => hc ⟨b, hb', e⟩
    simp only [cw]
    omega) (by rw [(sortB_perm _ _).length_eq, List.length_range]; exact h.most) i (mem_sortR.2 hi)
  rw [deps_getD ws i hi]
  omega

def wsum (ws : List Int) : Nat := ((List.range ws.length).map (cw ws)).sum

theorem sum_lt {n : Nat} {f g : Nat → Nat} (hle : ∀ i, i < n → f i ≤ g i) (hlt : ∃ i, i < n ∧ f i < g i) : ((List.range n).map f).sum < ((List.range n).map g).sum := by
  induction n with
  | zero => obtain ⟨i, h, _⟩ := hlt; omega
  | succ n ih =>
    rw [List.range_succ, List.map_append, List.map_append, List.sum_append, List.sum_append]
    simp only [List.map_cons, List.map_nil, List.sum_cons, List.sum_nil, Nat.add_zero]
    have hle2 : ((List.range n).map f).sum ≤ ((List.range n).map g).sum := by
      clear ih hlt
      induction n with
      | zero => simp
      | succ n ih =>
        rw [List.range_succ, List.map_append, List.map_append, List.sum_append, List.sum_append]
        have := ih (fun i hi => hle i (by omega))
        have := hle n (by omega)
        simp
        omega
    obtain ⟨i, h1, h2⟩ := hlt
    have hn := hle n (by omega)
    by_cases e : i = n
    · subst e; omega
    · have := ih (fun i hi => hle i (by omega)) ⟨i, by omega, h2⟩
      omega

theorem Wts.less {ws : List Int} (h : Wts ws) (hn : ¬ All11 ws) : wsum (Go.Proofs.YtokkippjbagmkaaGreat.halve ws) < wsum ws := by
  obtain ⟨i, hi, hb⟩ := h.big hn
  unfold wsum
  rw [halve_length]
  refine sum_lt (fun j hj => ?_) ⟨i, hi, ?_⟩
  · have := h.pos j hj
    simp only [cw]
    rw [halve_getD ws j hj]
    omega
  · simp only [cw]
    rw [halve_getD ws i hi]
    omega

/-- What the weights in memory are together. -/
def msr (w : World) (g n : Nat) : Nat := ((List.range n).map fun i => match w.cell? ⟨g, i, none⟩ with | some (.int _ x) => x.toNat | _ => 0).sum

theorem msr_owns {w : World} {g n cap : Nat} {ws : List Int} (h : Owns .i64 3 w (.slice (some ⟨g, 0, none⟩) n cap) ws) : msr w g ws.length = wsum ws := by
  unfold msr wsum
  congr 1
  refine List.map_congr_left (fun i hi => ?_)
  rw [(h.at1 i (by simpa using hi)).1]

theorem Sh.facts {ws ds : List Int} (h : Sh ws ds) (hw : Wts ws) : ∃ vs, Wts vs ∧ vs.length = ws.length ∧ All11 vs ∧ ds = deps vs := by
  induction h with
  | now ws h => exact ⟨ws, hw, rfl, h, rfl⟩
  | on ws ds h k ih =>
    obtain ⟨vs, h1, h2, h3, h4⟩ := ih hw.halve
    exact ⟨vs, h1, by rw [h2, halve_length], h3, h4⟩

/-- The first k halved. -/
def halfTo (ws : List Int) (k : Nat) : List Int := (halve ws).take k ++ ws.drop k

theorem halfTo_length (ws : List Int) (k : Nat) : (halfTo ws k).length = ws.length := by simp [halfTo, halve_length]; omega
theorem halfTo_zero (ws : List Int) : halfTo ws 0 = ws := by simp [halfTo]
theorem halfTo_all (ws : List Int) : halfTo ws ws.length = halve ws := by
  unfold halfTo
  rw [List.drop_length, List.append_nil, ← halve_length ws, List.take_length]
theorem halfTo_getD (ws : List Int) (k i : Nat) (hi : i < ws.length) : (halfTo ws k).getD i 0 = if i < k then ws.getD i 0 / 2 + 1 else ws.getD i 0 := by
  unfold halfTo
  rw [getD_append]
  simp only [List.length_take, halve_length]
  by_cases e : i < k
  · rw [if_pos (by omega), if_pos e, List.getD_eq_getElem?_getD, List.getElem?_take, if_pos e, ← List.getD_eq_getElem?_getD, halve_getD ws i hi]
  · rw [if_neg (by omega), if_neg e, List.getD_eq_getElem?_getD, List.getElem?_drop, List.getD_eq_getElem?_getD]
    congr 2
    omega
theorem halfTo_succ (ws : List Int) (k : Nat) (hk : k < ws.length) : halfTo ws (k + 1) = (halfTo ws k).set k (ws.getD k 0 / 2 + 1) := by
  refine list_eq_of_getD (by simp [halfTo_length]) (fun i hi => ?_)
  rw [halfTo_length] at hi
  rw [getD_set, halfTo_getD ws _ i hi, halfTo_getD ws _ i hi, halfTo_length]
  by_cases e : i = k
  · subst e; simp [hk]
  · have hne : ¬ (i = k ∧ k < ws.length) := fun x => e x.1
    rw [if_neg hne]
    by_cases e2 : i < k
    · rw [if_pos (show i < k + 1 by omega), if_pos e2]
    · rw [if_neg (show ¬ i < k + 1 by omega), if_neg e2]

set_option maxHeartbeats 1000000 in
theorem shallow_one (g cap : Nat) (w : World) :
    Calls Tryz.prog 141 #[.slice (some ⟨g, 0, none⟩) 1 cap] w fun e w' => ∃ dv, e = .returned dv ∧ Rd .i64 w' dv [1] ∧ Below w.heap.size w w' ∧ ∀ k, dv.ownBlock = some k → w.heap.size ≤ k := by
  go_enter Tryz.func141, Tryz.ntmps141
  go_wp2_with fail
  go_ret
  refine ⟨.slice (some ⟨w.heap.size, 0, none⟩) 1 1, rfl, ?_, (Below.refl _ _).alloc (Nat.le_refl _) _, fun k hk => by simp only [Value.ownBlock, Option.some.injEq] at hk; omega⟩
  refine ⟨some ⟨w.heap.size, 0, none⟩, 1, rfl, Nat.le_refl _, by unfold maxLen; omega, (fun e => by cases e), .inr ⟨w.heap.size, 0, rfl, fun i hi => ?_⟩⟩
  have : i = 0 := by simpa using hi
  subst this
  simp

set_option maxHeartbeats 4000000 in
theorem shallow_any (g cap : Nat) (ws : List Int) (w : World) (ho : Owns .i64 3 w (.slice (some ⟨g, 0, none⟩) ws.length cap) ws) (hw : Wts ws) (hS2 : wsum ws ≤ 1000000000000000) :
    Calls Tryz.prog 141 #[.slice (some ⟨g, 0, none⟩) ws.length cap] w fun e w' => ∃ dv ds, e = .returned dv ∧ Rd .i64 w' dv ds ∧ Sh ws ds ∧ Tch (fun k => k = g) w w' ∧ ∀ k, dv.ownBlock = some k → w.heap.size ≤ k := by
  have HO : Hid (Owns .i64 3 w (.slice (some ⟨g, 0, none⟩) ws.length cap) ws) := ho
  have HW : Hid (Wts ws) := hw
  have hw2 := hw.two
  have hw3 := hw.most
  have hne : ((ws.length : Int) == 1) = false := by simp; omega
  clear ho hw
  go_enter Tryz.func141, Tryz.ntmps141
  go_wp2_with fail
  refine (grow_any _ ws w HO.out.rd hw2 hw3 HW.out.pos _ rfl hS2).mono ?_
  rintro e w1 ⟨dv, m, rfl, hd1, hm0, hm1, hm2, hb1, hf1⟩
  have HF1 : Hid (∀ k, dv.ownBlock = some k → w.heap.size ≤ k) := hf1
  clear hf1
  have HD1 : Hid (Rd .i64 w1 dv (deps ws)) := hd1
  have HM1 : Hid (m ≤ 11 ↔ All11 ws) := hm2
  have HO1 : Hid (Owns .i64 3 w1 (.slice (some ⟨g, 0, none⟩) ws.length cap) ws) := HO.out.below hb1
  have HT1 : Hid (Tch (fun k => k = g) w w1) := Tch.of_below hb1
  clear hd1 hm2 hb1
  go_wp2_with fail
  go_loopw [3, 4] (fun d q wr => ∃ (m : Int) (vs : List Int), q = .int .i64 m ∧ 0 ≤ m ∧ m ≤ 512 ∧ Hid (Rd .i64 wr d (deps vs)) ∧ Hid (m ≤ 11 ↔ All11 vs) ∧ Hid (Wts vs) ∧ Hid (vs.length = ws.length) ∧ Hid (wsum vs ≤ 1000000000000000) ∧
    Hid (Owns .i64 3 wr (.slice (some ⟨g, 0, none⟩) ws.length cap) vs) ∧ Hid (∀ ds, Sh vs ds → Sh ws ds) ∧ Hid (Tch (fun k => k = g) w wr) ∧ Hid (∀ k, d.ownBlock = some k → w.heap.size ≤ k)) (fun _ _ wr => msr wr g ws.length)
  case atStart => exact ⟨m, ws, rfl, hm0, hm1, HD1, HM1, HW, rfl, hS2, HO1, fun ds h => h, HT1, HF1⟩
  case round =>
    obtain ⟨m, vs, rfl, hm0, hm1, HD, HM, HW2, HL, HS, HO2, HK, HT, HFR⟩ := hrel
    clear HD1 HM1 HO1 HT1
    by_cases h11 : m ≤ 11
    · have HF : Hid (Sh ws (deps vs)) := HK.out _ (Sh.now vs (HM.out.1 h11))
      go_wp2_with fail
      go_ret
      exact ⟨_, deps vs, rfl, HD.out, HF.out, HT.out, HFR.out⟩
    · have HNA : Hid (¬ All11 vs) := fun e => h11 (HM.out.2 e)
      have HMS : Hid (msr wr g ws.length = wsum vs) := by show _ = _; rw [← HL.out]; exact msr_owns HO2.out
      go_wp2_with fail
      go_loopw [19] (fun i wr2 => ∃ k : Nat, k ≤ ws.length ∧ i = .int .i64 k ∧ Hid (Owns .i64 3 wr2 (.slice (some ⟨g, 0, none⟩) ws.length cap) (halfTo vs k)) ∧ Hid (Tch (fun k => k = g) w wr2)) (fun i _ => ws.length - (intOf i).toNat)
      case atStart => exact ⟨0, Nat.zero_le _, rfl, by rw [halfTo_zero]; exact HO2, HT⟩
      case round =>
        obtain ⟨k, hk, rfl, HO3, HT3⟩ := hrel
        by_cases hlt : k < ws.length
        · obtain ⟨x, hx⟩ : ∃ x, Hid (vs.getD k 0 = x) := ⟨_, rfl⟩
          have hlk : k < (halfTo vs k).length := by rw [halfTo_length, HL.out]; exact hlt
          obtain ⟨c0, f0, _⟩ := HO3.out.at1 k hlk
          have cx : wr.cell? ⟨g, k, none⟩ = some (.int .i64 x) := by rw [c0, halfTo_getD vs k k (by rw [HL.out]; exact hlt), if_neg (by omega), hx.out]
          have hxb : 0 < x ∧ x ≤ 1000000000000000 := by
            rw [← hx.out]
            refine ⟨HW2.out.pos k (by rw [HL.out]; exact hlt), ?_⟩
            have : cw vs k ≤ wsum vs := le_sum_mem (List.mem_map.2 ⟨k, by rw [HL.out]; simpa using hlt, rfl⟩)
            have h2 := HS.out
            simp only [cw] at this
            omega
          have hdv : x.tdiv 2 = x / 2 := Int.tdiv_eq_ediv_of_nonneg (by omega)
          have HO4 : Hid (Owns .i64 3 (wr.setCell ⟨g, k, none⟩ (.int .i64 (x / 2 + 1))) (.slice (some ⟨g, 0, none⟩) ws.length cap) (halfTo vs (k + 1))) := by
            show Owns _ _ _ _ _
            rw [halfTo_succ vs k (by rw [HL.out]; exact hlt), hx.out]
            exact HO3.out.set k (x / 2 + 1)
          have HT4 : Hid (Tch (fun k => k = g) w (wr.setCell ⟨g, k, none⟩ (.int .i64 (x / 2 + 1)))) := Tch.setCell HT3.out (p := ⟨g, k, none⟩) (fun _ => rfl) _
          clear c0 hlk HO3 HT3
          go_wp2_with fail
          go_roundw
          case rel => exact ⟨k + 1, by omega, by go_num, HO4, HT4⟩
          case measure => simp [intOf]; omega
        · obtain rfl : k = ws.length := by omega
          have e0 : halfTo vs ws.length = halve vs := by rw [← HL.out]; exact halfTo_all vs
          rw [e0] at HO3
          have HW4 : Hid (Wts (halve vs)) := HW2.out.halve
          have HL4 : Hid ((halve vs).length = ws.length) := by show _ = _; rw [halve_length]; exact HL.out
          have HLT : Hid (wsum (halve vs) < wsum vs) := HW2.out.less HNA.out
          have HS4 : Hid (wsum (halve vs) ≤ 1000000000000000) := by have := HLT.out; have := HS.out; show _ ≤ _; omega
          have HK4 : Hid (∀ ds, Sh (halve vs) ds → Sh ws ds) := fun ds h => HK.out ds (Sh.on vs ds HNA.out h)
          clear e0 HW2 HNA HD HM HO2 HK HT
          go_wp2_with fail
          refine (grow_any _ (halve vs) wr HO3.out.rd (by rw [HL4.out]; exact hw2) (by rw [HL4.out]; exact hw3) HW4.out.pos _ rfl HS4.out).mono ?_
          rintro e w5 ⟨dv5, m5, rfl, hd5, hm50, hm51, hm52, hb5, hf5⟩
          have HF5 : Hid (∀ k, dv5.ownBlock = some k → w.heap.size ≤ k) := fun k hk => Nat.le_trans HT3.out.size (hf5 k hk)
          clear hf5
          have HD5 : Hid (Rd .i64 w5 dv5 (deps (halve vs))) := hd5
          have HM5 : Hid (m5 ≤ 11 ↔ All11 (halve vs)) := hm52
          have HO5 : Hid (Owns .i64 3 w5 (.slice (some ⟨g, 0, none⟩) ws.length cap) (halve vs)) := HO3.out.below hb5
          have HT5 : Hid (Tch (fun k => k = g) w w5) := HT3.out.trans (S' := fun _ => False) (Tch.of_below hb5) (fun _ _ e => e.elim)
          have HMS5 : Hid (msr w5 g ws.length = wsum (halve vs)) := by show _ = _; rw [← HL4.out]; exact msr_owns HO5.out
          clear hd5 hm52 hb5 HO3 HT3
          go_wp2_with fail
          go_roundw
          case rel => exact ⟨m5, halve vs, rfl, hm50, hm51, HD5, HM5, HW4, HL4, HS4, HO5, HK4, HT5, HF5⟩
          case measure => rw [HMS.out, HMS5.out]; exact HLT.out
end Go.Proofs.YtokkippjbagmkaaGreat

/-
  Lengths of counts: which stand, what they weigh, and the lengths in their places.
-/
namespace Go.Proofs.YtokkippjbagmkaaGreat
open Go.RowKit Pl Hf
set_option linter.unusedVariables false
set_option maxRecDepth 100000

theorem getD_rng (f : Nat → Int) (n b : Nat) (h : b < n) : ((List.range n).map f).getD b 0 = f b := by simp [List.getD_eq_getElem?_getD, h]
theorem getD_rep (n i : Nat) : (List.replicate n (0 : Int)).getD i 0 = 0 := by
  simp only [List.getD_eq_getElem?_getD, List.getElem?_replicate]
  split <;> simp

/-- Which of the first k stand. -/
def st (cs : List Int) (k : Nat) : List Nat := (List.range k).filter fun i => 0 < cs.getD i 0
def stI (cs : List Int) (k : Nat) : List Int := (st cs k).map fun (i : Nat) => (i : Int)
def wt (cs : List Int) (k : Nat) : List Int := (st cs k).map fun i => cs.getD i 0

theorem st_succ (cs : List Int) (k : Nat) : st cs (k + 1) = if 0 < cs.getD k 0 then st cs k ++ [k] else st cs k := by
  unfold st
  rw [List.range_succ, List.filter_append]
  by_cases h : 0 < cs.getD k 0
  · rw [if_pos h]; simp only [List.filter_cons, List.filter_nil, h, decide_true, if_true]
  · rw [if_neg h]; simp only [List.filter_cons, List.filter_nil, h, decide_false]; simp

theorem mem_st {cs : List Int} {k i : Nat} : i ∈ st cs k ↔ i < k ∧ 0 < cs.getD i 0 := by simp [st]
theorem st_le (cs : List Int) (k : Nat) : (st cs k).length ≤ k := by
  have := List.length_filter_le (fun i => decide (0 < cs.getD i 0)) (List.range k)
  simpa [st] using this
theorem stI_length (cs : List Int) (k : Nat) : (stI cs k).length = (st cs k).length := by simp [stI]
theorem wt_length (cs : List Int) (k : Nat) : (wt cs k).length = (st cs k).length := by simp [wt]

/-- Where a byte stands among those that stand. -/
abbrev rk (cs : List Int) (b : Nat) : Nat := (st cs b).length

/-- The list begins with those that stand ahead. -/
theorem st_take (cs : List Int) {b k : Nat} (h : b ≤ k) : (st cs k).take (rk cs b) = st cs b := by
  induction k with
  | zero => obtain rfl : b = 0 := by omega
            simp [st]
  | succ k ih =>
    by_cases e : b = k + 1
    · subst e; exact List.take_length
    · have := ih (by omega)
      rw [st_succ]
      split
      · have hle : (st cs b).length ≤ (st cs k).length := by
          have h2 := congrArg List.length this
          rw [List.length_take] at h2
          have h3 : min (st cs b).length (st cs k).length = (st cs b).length := h2
          omega
        rw [List.take_append_of_le_length hle]
        exact this
      · exact this

theorem st_get (cs : List Int) {b k : Nat} (hb : b < k) (hp : 0 < cs.getD b 0) : rk cs b < (st cs k).length ∧ (st cs k).getD (rk cs b) 0 = b := by
  have h1 := st_take cs (b := b + 1) (k := k) (by omega)
  have h2 : st cs (b + 1) = st cs b ++ [b] := by rw [st_succ, if_pos hp]
  have h3 : rk cs (b + 1) = rk cs b + 1 := by unfold rk; rw [h2]; simp
  have h4 : rk cs (b + 1) ≤ (st cs k).length := by
    have := congrArg List.length h1
    rw [List.length_take] at this
    have h5 : min (rk cs (b + 1)) (st cs k).length = rk cs (b + 1) := this
    omega
  refine ⟨by omega, ?_⟩
  have : ((st cs k).take (rk cs (b + 1))).getD (rk cs b) 0 = b := by
    rw [h1, h2]
    simp [List.getD_eq_getElem?_getD, rk]
  rw [List.getD_eq_getElem?_getD, List.getElem?_take, if_pos (by omega), ← List.getD_eq_getElem?_getD] at this
  exact this

/-- Which is the i-th that stands: i stand ahead of it. -/
theorem rk_st (cs : List Int) {k i : Nat} (hi : i < (st cs k).length) : rk cs ((st cs k).getD i 0) = i ∧ (st cs k).getD i 0 < k ∧ 0 < cs.getD ((st cs k).getD i 0) 0 := by
  induction k with
  | zero => simp [st] at hi
  | succ k ih =>
    rw [st_succ] at hi ⊢
    split at hi
    · rename_i hp
      rw [if_pos hp]
      by_cases e : i < (st cs k).length
      · have := ih e
        have eg : (st cs k ++ [k]).getD i 0 = (st cs k).getD i 0 := by simp [List.getD_eq_getElem?_getD, List.getElem?_append_left e]
        rw [eg]
        exact ⟨this.1, by omega, this.2.2⟩
      · simp at hi
        have ei : i = (st cs k).length := by omega
        subst ei
        have eg : (st cs k ++ [k]).getD (st cs k).length 0 = k := by simp [List.getD_eq_getElem?_getD]
        rw [eg]
        exact ⟨rfl, by omega, hp⟩
    · rename_i hp
      rw [if_neg hp]
      have := ih hi
      exact ⟨this.1, by omega, this.2.2⟩

/-- The last one that stands. -/
abbrev lastSt (cs : List Int) : Nat := (st cs cs.length).getD ((st cs cs.length).length - 1) 0

/-- Lengths in their places, of the first k that stand. -/
def lensTo (cs ds : List Int) (k : Nat) : List Int := (List.range (lastSt cs + 1)).map fun b => if 0 < cs.getD b 0 ∧ rk cs b < k then ds.getD (rk cs b) 0 else 0
abbrev lens (cs ds : List Int) : List Int := lensTo cs ds (st cs cs.length).length

theorem lensTo_length (cs ds : List Int) (k : Nat) : (lensTo cs ds k).length = lastSt cs + 1 := by simp [lensTo]
theorem lensTo_getD (cs ds : List Int) (k b : Nat) (hb : b ≤ lastSt cs) : (lensTo cs ds k).getD b 0 = if 0 < cs.getD b 0 ∧ rk cs b < k then ds.getD (rk cs b) 0 else 0 := by
  unfold lensTo
  rw [getD_rng _ _ b (by omega)]
theorem lensTo_zero (cs ds : List Int) : lensTo cs ds 0 = List.replicate (lastSt cs + 1) 0 := by
  refine list_eq_of_getD (by simp [lensTo_length]) (fun i hi => ?_)
  rw [lensTo_length] at hi
  rw [lensTo_getD cs ds 0 i (by omega), if_neg (by omega)]
  rw [getD_rep]

theorem st_le_last (cs : List Int) {i : Nat} (hi : i < (st cs cs.length).length) : (st cs cs.length).getD i 0 ≤ lastSt cs := by
  obtain ⟨h1, h2, h3⟩ := rk_st cs hi
  obtain ⟨g1, g2, g3⟩ := rk_st cs (k := cs.length) (i := (st cs cs.length).length - 1) (by omega)
  by_cases e : (st cs cs.length).getD i 0 ≤ lastSt cs
  · exact e
  · exfalso
    have hle : lastSt cs + 1 ≤ (st cs cs.length).getD i 0 := by omega
    have hm : (st cs (lastSt cs + 1)).length ≤ (st cs ((st cs cs.length).getD i 0)).length := by
      have := congrArg List.length (st_take cs hle)
      rw [List.length_take] at this
      have h3 : min (st cs (lastSt cs + 1)).length (st cs ((st cs cs.length).getD i 0)).length = (st cs (lastSt cs + 1)).length := this
      omega
    have hs : (st cs (lastSt cs + 1)).length = (st cs (lastSt cs)).length + 1 := by
      rw [st_succ, if_pos g3]; simp
    have g1' : (st cs (lastSt cs)).length = (st cs cs.length).length - 1 := g1
    have h1' : (st cs ((st cs cs.length).getD i 0)).length = i := h1
    omega

theorem lensTo_succ (cs ds : List Int) (k : Nat) (hk : k < (st cs cs.length).length) : lensTo cs ds (k + 1) = (lensTo cs ds k).set ((st cs cs.length).getD k 0) (ds.getD k 0) := by
  have hl := st_le_last cs hk
  obtain ⟨h1, h2, h3⟩ := rk_st cs hk
  refine list_eq_of_getD (by simp [lensTo_length]) (fun b hb => ?_)
  rw [lensTo_length] at hb
  rw [getD_set, lensTo_getD cs ds _ b (by omega), lensTo_getD cs ds _ b (by omega), lensTo_length]
  by_cases e : b = (st cs cs.length).getD k 0
  · rw [if_pos (show b = _ ∧ _ from ⟨e, by omega⟩), if_pos ⟨by rw [e]; exact h3, by rw [e, h1]; omega⟩, e, h1]
  · have hne : ¬ (b = (st cs cs.length).getD k 0 ∧ (st cs cs.length).getD k 0 < lastSt cs + 1) := fun x => e x.1
    rw [if_neg hne]
    by_cases hp : 0 < cs.getD b 0
    · have hr : rk cs b ≠ k := by
        intro er
        by_cases hbl : b < cs.length
        · have := (st_get cs hbl hp).2
          rw [er] at this
          exact e this.symm
        · simp only [List.getD_eq_getElem?_getD, List.getElem?_eq_none (by omega : cs.length ≤ b), Option.getD_none] at hp
          omega
      by_cases hlt : rk cs b < k
      · rw [if_pos ⟨hp, by omega⟩, if_pos ⟨hp, hlt⟩]
      · rw [if_neg (fun x => by have := x.2; omega), if_neg (fun x => hlt x.2)]
    · rw [if_neg (fun x => hp x.1), if_neg (fun x => hp x.1)]
end Go.Proofs.YtokkippjbagmkaaGreat

/-
  What Lengths answers, for any counts.
-/
namespace Go.Proofs.YtokkippjbagmkaaGreat
open Go.RowKit Pl Hf
set_option linter.unusedVariables false
set_option maxRecDepth 100000

/-- Counts that may be. -/
structure OkC (cs : List Int) : Prop where
  most : cs.length ≤ 256
  each : ∀ i, i < cs.length → 0 ≤ cs.getD i 0 ∧ cs.getD i 0 ≤ 4294967295
  some : 0 < (st cs cs.length).length

/-- The depths of one weight, or of several. -/
def ShS (ws ds : List Int) : Prop := (ws.length = 1 ∧ ds = [1]) ∨ (2 ≤ ws.length ∧ Sh ws ds)

theorem wt_getD (cs : List Int) (k i : Nat) (hi : i < (st cs k).length) : (wt cs k).getD i 0 = cs.getD ((st cs k).getD i 0) 0 := by
  simp [wt, List.getD_eq_getElem?_getD, hi]
theorem stI_getD (cs : List Int) (k i : Nat) (hi : i < (st cs k).length) : (stI cs k).getD i 0 = ((st cs k).getD i 0 : Int) := by
  simp [stI, List.getD_eq_getElem?_getD, hi]

theorem wt_pos (cs : List Int) (k i : Nat) (hi : i < (wt cs k).length) : 0 < (wt cs k).getD i 0 := by
  rw [wt_length] at hi
  rw [wt_getD cs k i hi]
  exact (rk_st cs hi).2.2

theorem OkC.wsum {cs : List Int} (h : OkC cs) : wsum (wt cs cs.length) ≤ 256 * 4294967295 := by
  have hl := st_le cs cs.length
  have hm := h.most
  have h1 : sumOn (List.range (wt cs cs.length).length) (cw (wt cs cs.length)) ≤ (List.range (wt cs cs.length).length).length * 4294967295 := sumOn_le (fun b hb => by
    have hb' : b < (st cs cs.length).length := by rw [← wt_length]; simpa using hb
    simp only [cw]
    rw [wt_getD cs _ b hb']
    have := h.each _ (rk_st cs hb').2.1
    omega)
  rw [List.length_range, wt_length] at h1
  have h2 : (st cs cs.length).length * 4294967295 ≤ 256 * 4294967295 := Nat.mul_le_mul_right _ (by omega)
  have h3 : Go.Proofs.YtokkippjbagmkaaGreat.wsum (wt cs cs.length) = sumOn (List.range (st cs cs.length).length) (cw (wt cs cs.length)) := by unfold Go.Proofs.YtokkippjbagmkaaGreat.wsum sumOn; rw [wt_length]
  omega

theorem ShS.len {ws ds : List Int} (h : ShS ws ds) (hp : ∀ i, i < ws.length → 0 < ws.getD i 0) (hm : ws.length ≤ 256) : ds.length = ws.length := by
  rcases h with ⟨h1, rfl⟩ | ⟨h1, h2⟩
  · simp [h1]
  · obtain ⟨vs, _, h3, _, rfl⟩ := h2.facts ⟨h1, hm, hp⟩
    rw [deps_length, h3]

theorem shallow_all (g cap : Nat) (ws : List Int) (w : World) (ho : Owns .i64 3 w (.slice (some ⟨g, 0, none⟩) ws.length cap) ws) (h1 : 1 ≤ ws.length) (hm : ws.length ≤ 256) (hp : ∀ i, i < ws.length → 0 < ws.getD i 0) (hS2 : wsum ws ≤ 1000000000000000) :
    Calls Tryz.prog 141 #[.slice (some ⟨g, 0, none⟩) ws.length cap] w fun e w' => ∃ dv ds, e = .returned dv ∧ Rd .i64 w' dv ds ∧ ShS ws ds ∧ Tch (fun k => k = g) w w' ∧ ∀ k, dv.ownBlock = some k → w.heap.size ≤ k := by
  by_cases e : ws.length = 1
  · rw [e]
    refine (shallow_one g cap w).mono ?_
    rintro e1 w' ⟨dv, rfl, h2, h3, h4⟩
    exact ⟨dv, [1], rfl, h2, .inl ⟨e, rfl⟩, Tch.of_below h3, h4⟩
  · refine (shallow_any g cap ws w ho ⟨by omega, hm, hp⟩ hS2).mono ?_
    rintro e1 w' ⟨dv, ds, rfl, h2, h3, h4, h5⟩
    exact ⟨dv, ds, rfl, h2, .inr ⟨by omega, h3⟩, h4, h5⟩

/-- What Lengths answers. -/
def LPost (cs : List Int) (w : World) (e : Ending) (w' : World) : Prop :=
  ∃ lv E, e = .returned (.tuple #[lv, .int .i64 E]) ∧ Below w.heap.size w w' ∧ (∀ k, lv.ownBlock = some k → w.heap.size ≤ k) ∧
    ((E = 1 ∧ lv = .slice none 0 0 ∧ ¬ OkC cs) ∨ (E = 0 ∧ OkC cs ∧ ∃ ds, Owns .i64 3 w' lv (lens cs ds) ∧ ShS (wt cs cs.length) ds))

theorem LPost.bad {cs : List Int} {w w' : World} (hb : Below w.heap.size w w') (h : ¬ OkC cs) : LPost cs w (.returned (.tuple #[.slice none 0 0, .int .i64 1])) w' :=
  ⟨_, 1, rfl, hb, (fun k e => by cases e), .inl ⟨rfl, rfl, h⟩⟩

/-- Two rows of numbers, each of its own. -/
structure Two (w0 w : World) (sv wv : Value) (ss ws : List Int) : Prop where
  so : Owns .i64 3 w sv ss
  wo : Owns .i64 3 w wv ws
  ne : ∀ k, sv.ownBlock = some k → wv.ownBlock ≠ some k
  sn : ∀ k, sv.ownBlock = some k → w0.heap.size ≤ k
  wn : ∀ k, wv.ownBlock = some k → w0.heap.size ≤ k
  bel : Below w0.heap.size w0 w

theorem Two.left {w0 w w' : World} {sv wv sv' : Value} {ss ws ss' : List Int} (h : Two w0 w sv wv ss ws) (ho : Owns .i64 3 w' sv' ss') (hg : Grew w w' sv sv') : Two w0 w' sv' wv ss' ws := by
  have hb := hg.onto h.bel h.sn
  refine ⟨ho, h.wo.tch hg.tch (fun j hj e => h.ne j e hj), fun k hk e => ?_, hb.2, h.wn, hb.1⟩
  rcases hg.fresh k hk with e2 | e2
  · exact h.ne k e2 e
  · have := h.wo.lt k e; omega
theorem Two.right {w0 w w' : World} {sv wv wv' : Value} {ss ws ws' : List Int} (h : Two w0 w sv wv ss ws) (ho : Owns .i64 3 w' wv' ws') (hg : Grew w w' wv wv') : Two w0 w' sv wv' ss ws' := by
  have hb := hg.onto h.bel h.wn
  refine ⟨h.so.tch hg.tch (fun j hj e => h.ne j hj e), ho, fun k hk e => ?_, h.sn, hb.2, hb.1⟩
  rcases hg.fresh k e with e2 | e2
  · exact h.ne k hk e2
  · have := h.so.lt k hk; omega

theorem lengths_long (a : Option Addr) (n cap : Nat) (cs : List Int) (w : World) (hn : cs.length = n) (h : 256 < n) :
    Calls Tryz.prog 113 #[.slice a n cap] w fun e w' => LPost cs w e w' := by
  have h' : (256 : Int) < (n : Int) := by omega
  have HB : Hid (¬ OkC cs) := fun e => by have := e.most; omega
  go_enter Tryz.func113, Tryz.ntmps113
  go_wp2
  go_ret2
  exact LPost.bad (Below.refl _ _) HB.out

theorem st_st (cs : List Int) (k : Nat) (x : Int) (hx : cs.getD k 0 = x) (h : 0 < x) : stI cs (k + 1) = stI cs k ++ [(k : Int)] ∧ wt cs (k + 1) = wt cs k ++ [x] := by
  subst hx
  unfold stI wt
  rw [st_succ, if_pos h]
  simp
theorem st_st0 (cs : List Int) (k : Nat) (x : Int) (hx : cs.getD k 0 = x) (h : ¬ 0 < x) : stI cs (k + 1) = stI cs k ∧ wt cs (k + 1) = wt cs k := by
  subst hx
  unfold stI wt
  rw [st_succ, if_neg h]
  exact ⟨rfl, rfl⟩

set_option maxHeartbeats 4000000 in
theorem lengths_any (v : Value) (cs : List Int) (w : World) (hr : Rd .i64 w v cs) : Calls Tryz.prog 113 #[v] w fun e w' => LPost cs w e w' := by
  obtain ⟨a, cap, rfl, hlc, hcm, _, hcc⟩ := hr
  by_cases h256 : 256 < cs.length
  · exact lengths_long a _ cap cs w rfl h256
  have HC : Hid (cs = [] ∨ ∃ b o, a = some ⟨b, o, none⟩ ∧ ∀ i, i < cs.length → w.cell? ⟨b, o + i, none⟩ = some (.int .i64 (cs.getD i 0))) := hcc
  clear hcc
  obtain ⟨j0, hj, hy0, hy1, hy2⟩ := elem64.info
  go_enter Tryz.func113, Tryz.ntmps113
  go_wp2_with fail
  go_loopw [4, 5, 16] (fun s q i wr => ∃ k : Nat, k ≤ cs.length ∧ i = .int .i64 k ∧ Hid (Two w wr s q (stI cs k) (wt cs k)) ∧ Hid (∀ j, j < k → 0 ≤ cs.getD j 0 ∧ cs.getD j 0 ≤ 4294967295)) (fun _ _ i _ => cs.length - (intOf i).toNat)
  case atStart => exact ⟨0, Nat.zero_le _, rfl, ⟨owns_nil _ _ _, owns_nil _ _ _, (fun k e => by cases e), (fun k e => by cases e), (fun k e => by cases e), Below.refl _ _⟩, fun j hj => by omega⟩
  case round =>
    obtain ⟨k, hk, rfl, T, HE⟩ := hrel
    by_cases hlt : k < cs.length
    · obtain ⟨b, o, ha, hc⟩ : ∃ b o, a = some ⟨b, o, none⟩ ∧ ∀ i, i < cs.length → w.cell? ⟨b, o + i, none⟩ = some (.int .i64 (cs.getD i 0)) := by
        rcases HC.out with rfl | h
        · simp at hlt
        · exact h
      subst ha
      obtain ⟨x, hxe⟩ : ∃ x, Hid (cs.getD k 0 = x) := ⟨_, rfl⟩
      have cx : wr.cell? ⟨b, o + k, none⟩ = some (.int .i64 x) := by
        have h0 := hc k hlt
        rw [T.out.bel.cell (p := ⟨b, o + k, none⟩) (World.block_lt_of_cell? w ⟨b, o + k, none⟩ h0), h0, hxe.out]
      clear hc
      by_cases hbad : x < 0 ∨ 4294967295 < x
      · have HB : Hid (¬ OkC cs) := fun e => by have := e.each k hlt; rw [hxe.out] at this; omega
        have HBL : Hid (Below w.heap.size w wr) := T.out.bel
        clear T
        rcases hbad with hbad | hbad
        all_goals
          go_wp2_with fail
          go_ret2
          exact LPost.bad HBL.out HB.out
      · have HE2 : Hid (∀ j, j < k + 1 → 0 ≤ cs.getD j 0 ∧ cs.getD j 0 ≤ 4294967295) := fun j hj => by
          by_cases e : j < k
          · exact HE.out j e
          · have : j = k := by omega
            subst this
            rw [hxe.out]; omega
        have hx0 : 0 ≤ x := by omega
        have hx1 : x ≤ 4294967295 := by omega
        clear hbad
        have HL : Hid ((stI cs k).length ≤ 256 ∧ (wt cs k).length ≤ 256) := by
          have := st_le cs k
          exact ⟨by rw [stI_length]; omega, by rw [wt_length]; omega⟩
        by_cases hp : 0 < x
        · go_wp2_with (at_builtin; refine wpList_push _ rfl (.tmp 29) (.tmp 31) 73 rfl 3 .i64 8 elem64 _ (stI cs k) rfl T.out.so (k : Int) rfl (by have := HL.out.1; omega) (by have := HL.out.1; omega) ?_)
          intro s2 w2 ho2 hg2
          have T2 : Hid (Two w w2 s2 _ (stI cs k ++ [(k : Int)]) (wt cs k)) := T.out.left ho2 hg2
          clear ho2 hg2 T cx
          go_wp2_with (at_builtin; refine wpList_push _ rfl (.tmp 33) (.tmp 35) 73 rfl 3 .i64 8 elem64 _ (wt cs k) rfl T2.out.wo x rfl (by have := HL.out.2; omega) (by have := HL.out.2; omega) ?_)
          intro q3 w3 ho3 hg3
          have T3 : Hid (Two w w3 s2 q3 (stI cs (k + 1)) (wt cs (k + 1))) := by
            show Two _ _ _ _ _ _
            rw [(st_st cs k x hxe.out hp).1, (st_st cs k x hxe.out hp).2]
            exact T2.out.right ho3 hg3
          clear ho3 hg3 T2
          go_wp2_with fail
          go_roundw
          case rel => exact ⟨k + 1, by omega, by go_num, T3, HE2⟩
          case measure => simp [intOf]; omega
        · have T3 : Hid (Two w wr u4 u5 (stI cs (k + 1)) (wt cs (k + 1))) := by
            show Two _ _ _ _ _ _
            rw [(st_st0 cs k x hxe.out hp).1, (st_st0 cs k x hxe.out hp).2]
            exact T.out
          clear T
          go_wp2_with fail
          go_roundw
          case rel => exact ⟨k + 1, by omega, by go_num, T3, HE2⟩
          case measure => simp [intOf]; omega
    · obtain rfl : k = cs.length := by omega
      have hstl := st_le cs cs.length
      obtain ⟨sa, sc, hs4⟩ : ∃ a c, u4 = .slice a (st cs cs.length).length c := by obtain ⟨a, c, e, _⟩ := T.out.so.rd; rw [stI_length] at e; exact ⟨a, c, e⟩
      subst hs4
      by_cases h0 : (st cs cs.length).length = 0
      · have HB : Hid (¬ OkC cs) := fun e => by have := e.some; omega
        have HBL : Hid (Below w.heap.size w wr) := T.out.bel
        have h0' : (((st cs cs.length).length : Int) == 0) = true := by simp [h0]
        clear T
        go_wp2_with fail
        go_ret2
        exact LPost.bad HBL.out HB.out
      · have HOK : Hid (OkC cs) := ⟨by omega, HE.out, by omega⟩
        have h0' : (((st cs cs.length).length : Int) == 0) = false := by
          rw [beq_eq_false_iff_ne]
          omega
        obtain ⟨n, hn⟩ : ∃ n, (st cs cs.length).length = n + 1 := ⟨(st cs cs.length).length - 1, by omega⟩
        have hT := T.out
        obtain ⟨gs, sc', es, _⟩ := Owns.shape hT.so (by rw [stI_length]; omega)
        simp only [Value.slice.injEq] at es
        obtain ⟨rfl, _, rfl⟩ := es
        obtain ⟨gw, wc, ew, _⟩ := Owns.shape hT.wo (by rw [wt_length]; omega)
        rw [wt_length] at ew
        subst ew
        rw [hn] at T hstl h0' ⊢
        obtain ⟨M, hM⟩ : ∃ M, Hid (lastSt cs = M) := ⟨_, rfl⟩
        have hMl : M < cs.length := by
          rw [← hM.out]
          exact (rk_st cs (k := cs.length) (i := (st cs cs.length).length - 1) (by omega)).2.1
        have cM : wr.cell? ⟨gs, n, none⟩ = some (.int .i64 (M : Int)) := by
          have h1 := (hT.so.at1 n (by rw [stI_length]; omega)).1
          rw [stI_getD cs _ n (by omega)] at h1
          rw [h1, ← hM.out]
          simp only [lastSt, hn, Nat.add_sub_cancel]
        have hgw : gs ≠ gw := fun e => hT.ne gs rfl (by rw [e]; rfl)
        clear hT h0 HE
        go_wp2_with (at_make; refine wpList_make_full _ rfl (.tmp 47) (.tmp 47) 73 rfl 0 3 j0 _ 1 Tryz.underlying73 hj hy0 hy1 .i64 .i64 _ _ (M + 1) rfl rfl (by omega) (by omega) (by rw [hy2]; omega) (by unfold maxLen; omega) (Nat.zero_le _) ?_)
        intro w2 ho2 hg2
        have b2 : Below wr.heap.size wr w2 := (Below.refl _ _).grown hg2 (Nat.le_refl _) (fun k e => by cases e)
        obtain ⟨gl, hgl⟩ : ∃ gl, Hid (wr.heap.size = gl) := ⟨_, rfl⟩
        have OL2 : Hid (Owns .i64 3 w2 (.slice (some ⟨gl, 0, none⟩) (M + 1) (M + 1)) (List.replicate (M + 1) 0)) := by
          show w2.ownsRow _ _ _ _ _ _
          rw [toList_madeCells_one, hgl.out] at ho2
          simpa using ho2
        have OS2 : Hid (Owns .i64 3 w2 (.slice (some ⟨gs, 0, none⟩) (n + 1) sc) (stI cs cs.length)) := T.out.so.below b2
        have OW2 : Hid (Owns .i64 3 w2 (.slice (some ⟨gw, 0, none⟩) (n + 1) wc) (wt cs cs.length)) := T.out.wo.below b2
        have HB2 : Hid (Below w.heap.size w w2) := T.out.bel.trans (b2.mono T.out.bel.size)
        have hgs : gs < gl := by rw [← hgl.out]; exact T.out.so.lt gs rfl
        have hgw2 : gw < gl := by rw [← hgl.out]; exact T.out.wo.lt gw rfl
        have HGL : Hid (w.heap.size ≤ gl ∧ w.heap.size ≤ gw) := ⟨by rw [← hgl.out]; exact T.out.bel.size, T.out.wn gw rfl⟩
        have hgl2 : gl < w2.heap.size := OL2.out.lt gl rfl
        rw [hgl.out]
        clear ho2 hg2 b2 T cM hj hy0 hy1 hy2
        have HN : Hid ((wt cs cs.length).length = n + 1) := by show _ = _; rw [wt_length, hn]
        have hsh := shallow_all gw wc (wt cs cs.length) w2 (by rw [HN.out]; exact OW2.out) (by rw [HN.out]; omega) (by rw [HN.out]; omega) (fun i hi => wt_pos cs _ i hi) (by have := HOK.out.wsum; omega)
        rw [HN.out] at hsh
        go_wp2_with fail
        refine hsh.mono ?_
        clear hsh
        rintro e w3 ⟨dv, ds, rfl, hd3, hs3, ht3, hf3⟩
        have hdl : ds.length = n + 1 := by rw [hs3.len (fun i hi => wt_pos cs _ i hi) (by rw [HN.out]; omega), HN.out]
        have HDL : Hid (ds.length = n + 1) := hdl
        have OL3 : Hid (Owns .i64 3 w3 (.slice (some ⟨gl, 0, none⟩) (M + 1) (M + 1)) (lensTo cs ds 0)) := by
          show Owns _ _ _ _ _
          rw [lensTo_zero, hM.out]
          exact OL2.out.tch ht3 (fun j hj e => by simp only [Value.ownBlock, Option.some.injEq] at hj; omega)
        have OS3 : Hid (Owns .i64 3 w3 (.slice (some ⟨gs, 0, none⟩) (n + 1) sc) (stI cs cs.length)) := OS2.out.tch ht3 (fun j hj e => by simp only [Value.ownBlock, Option.some.injEq] at hj; omega)
        have HB3 : Hid (Below w.heap.size w w3) := HB2.out.trans (ht3.below HB2.out.size (fun k e => by rw [e]; exact HGL.out.2))
        have HSH : Hid (ShS (wt cs cs.length) ds) := hs3
        obtain ⟨da, dc, rfl, _, _, _, hdc⟩ := hd3
        obtain ⟨db, dof, rfl, hdc2⟩ : ∃ b o, da = some ⟨b, o, none⟩ ∧ ∀ i, i < ds.length → w3.cell? ⟨b, o + i, none⟩ = some (.int .i64 (ds.getD i 0)) := by
          rcases hdc with e | h
          · rw [e] at hdl; simp at hdl
          · exact h
        have hdb : gl ≠ db := by have := hf3 db rfl; omega
        have HDC : Hid (∀ i, i < ds.length → w3.cell? ⟨db, dof + i, none⟩ = some (.int .i64 (ds.getD i 0))) := hdc2
        rw [hdl]
        clear hs3 ht3 hf3 hdc hdc2 hdl OL2 OS2 OW2 HB2
        go_wp2_with fail
        go_loopw [52] (fun i wr => ∃ k : Nat, k ≤ n + 1 ∧ i = .int .i64 k ∧ Hid (Owns .i64 3 wr (.slice (some ⟨gl, 0, none⟩) (M + 1) (M + 1)) (lensTo cs ds k)) ∧ Hid (Tch (fun k => k = gl) w3 wr)) (fun i _ => n + 1 - (intOf i).toNat)
        case atStart => exact ⟨0, Nat.zero_le _, rfl, OL3, Tch.refl _ _⟩
        case round =>
          obtain ⟨k, hk, rfl, OL, T⟩ := hrel
          by_cases hlt : k < n + 1
          · obtain ⟨x, hx⟩ : ∃ x, Hid (ds.getD k 0 = x) := ⟨_, rfl⟩
            obtain ⟨y, hy⟩ : ∃ y, Hid ((st cs cs.length).getD k 0 = y) := ⟨_, rfl⟩
            have hyM : y ≤ M := by rw [← hM.out, ← hy.out]; exact st_le_last cs (by rw [hn]; exact hlt)
            have h3c := HDC.out k (by rw [HDL.out]; exact hlt)
            have cx : wr.cell? ⟨db, dof + k, none⟩ = some (.int .i64 x) := by
              rw [T.out.cell (p := ⟨db, dof + k, none⟩) (World.block_lt_of_cell? w3 ⟨db, dof + k, none⟩ h3c) (fun e => hdb e.symm), h3c, hx.out]
            have cs3 := (OS3.out.at1 k (by rw [stI_length, hn]; exact hlt))
            have cy : wr.cell? ⟨gs, k, none⟩ = some (.int .i64 (y : Int)) := by
              rw [T.out.cell (p := ⟨gs, k, none⟩) cs3.2.2 (fun e => by simp only at e; omega), cs3.1, stI_getD cs _ k (by rw [hn]; exact hlt), hy.out]
            obtain ⟨cl, fl, _⟩ := OL.out.at1 y (by rw [lensTo_length, hM.out]; omega)
            have OL5 : Hid (Owns .i64 3 (wr.setCell ⟨gl, y, none⟩ (.int .i64 x)) (.slice (some ⟨gl, 0, none⟩) (M + 1) (M + 1)) (lensTo cs ds (k + 1))) := by
              show Owns _ _ _ _ _
              rw [lensTo_succ cs ds k (by rw [hn]; exact hlt), hy.out, hx.out]
              exact OL.out.set y x
            have T5 : Hid (Tch (fun k => k = gl) w3 (wr.setCell ⟨gl, y, none⟩ (.int .i64 x))) := Tch.setCell T.out (p := ⟨gl, y, none⟩) (fun _ => rfl) _
            clear h3c cs3 OL T
            go_wp2_with fail
            go_roundw
            case rel => exact ⟨k + 1, by omega, by go_num, OL5, T5⟩
            case measure => simp [intOf]; omega
          · obtain rfl : k = n + 1 := by omega
            go_wp2_with fail
            go_ret2
            refine ⟨.slice (some ⟨gl, 0, none⟩) (M + 1) (M + 1), 0, rfl, HB3.out.trans (T.out.below HB3.out.size (fun k e => by rw [e]; exact HGL.out.1)), fun k hk => ?_, .inr ⟨rfl, HOK.out, ds, ?_, HSH.out⟩⟩
            · simp only [Value.ownBlock, Option.some.injEq] at hk
              have := HGL.out.1
              omega
            · unfold lens
              rw [hn]
              exact OL.out
end Go.Proofs.YtokkippjbagmkaaGreat
