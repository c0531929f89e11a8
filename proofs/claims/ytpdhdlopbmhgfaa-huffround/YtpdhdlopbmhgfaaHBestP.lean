/-
  No lengths are better: counts of at most 300 together.
-/
import Derived.Test.YtpdhdlopbmhgfaaHLives
namespace Go.Proofs.Ytpdhdlopbmhgfaa
open Go.RowKit Pl Hf
set_option linter.unusedVariables false

/-- What those that stand give together, of the first k. -/
def sumP (cs : List Int) (f : Nat → Int) : Nat → Int
  | 0 => 0
  | k + 1 => sumP cs f k + if 0 < cs.getD k 0 then f k else 0

theorem sumP_st (cs : List Int) (f : Nat → Int) (k : Nat) : sumP cs f k = ((st cs k).map f).sum := by
  induction k with
  | zero => simp [sumP, st]
  | succ k ih =>
    simp only [sumP, ih]
    rw [st_succ]
    split
    · simp
    · simp

theorem sumP_rng (cs : List Int) (f : Nat → Int) : sumP cs f cs.length = ((List.range (st cs cs.length).length).map fun j => f ((st cs cs.length).getD j 0)).sum := by
  rw [sumP_st]
  congr 1
  apply List.ext_getElem?
  intro i
  by_cases h : i < (st cs cs.length).length
  · simp [h, List.getD_eq_getElem?_getD]
  · simp [h]

theorem roomTo_mono (ls : List Int) {a b : Nat} (h : a ≤ b) : roomTo ls a ≤ roomTo ls b := by
  induction b with
  | zero => obtain rfl : a = 0 := by omega
            exact Int.le_refl _
  | succ b ih =>
    by_cases e : a = b + 1
    · subst e; exact Int.le_refl _
    · have := ih (by omega)
      simp only [roomTo]
      have h1 : (0 : Int) < 2 ^ (11 - (ls.getD b 0).toNat) := Int.pow_pos (by decide)
      split <;> omega

theorem roomTo_past (ls : List Int) (d : Nat) : roomTo ls (ls.length + d) = roomTo ls ls.length := by
  induction d with
  | zero => rfl
  | succ d ih =>
    rw [show ls.length + (d + 1) = ls.length + d + 1 by omega]
    simp only [roomTo, ih]
    rw [if_neg (by simp [List.getD_eq_getElem?_getD])]
    omega

theorem roomTo_le (ls : List Int) (k : Nat) : roomTo ls k ≤ roomTo ls ls.length := by
  by_cases h : k ≤ ls.length
  · exact roomTo_mono ls h
  · have := roomTo_past ls (k - ls.length)
    rw [show ls.length + (k - ls.length) = k by omega] at this
    omega

theorem sumP_room (cs other : List Int) (k : Nat) (h : ∀ i, i < k → 0 < cs.getD i 0 → 0 < other.getD i 0) : sumP cs (fun i => 2 ^ (11 - (other.getD i 0).toNat)) k ≤ roomTo other k := by
  induction k with
  | zero => exact Int.le_refl _
  | succ k ih =>
    have := ih (fun i hi => h i (by omega))
    simp only [sumP, roomTo]
    have h1 : (0 : Int) < 2 ^ (11 - (other.getD k 0).toNat) := Int.pow_pos (by decide)
    by_cases hp : 0 < cs.getD k 0
    · rw [if_pos hp, if_pos (h k (by omega) hp)]; omega
    · rw [if_neg hp]; split <;> omega

theorem all11_of_300 {ws : List Int} (h : Wts ws) (hs : wsum ws ≤ 300) : All11 ws := by
  intro i hi
  have hst := h.stand
  have ht := tree_300 (cw ws) ws.length (by rw [hst, List.length_range]; have := h.two; omega) (by rw [hst]; exact hs)
  have hb := treeOf_bytes (cw ws) ws.length (by rw [hst, List.length_range]; have := h.two; omega)
  have hb2 : ((treeOf (cw ws) ws.length).map (·.1)).Perm (List.range ws.length) := by
    refine hb.trans ?_
    rw [hst]
    exact sortB_perm _ _
  have hm : i ∈ (treeOf (cw ws) ws.length).map (·.1) := hb2.mem_iff.2 (by simpa using hi)
  obtain ⟨p, hp, rfl⟩ := List.mem_map.1 hm
  rw [deps_getD ws p.1 hi, depthOf_mem (hb2.nodup_iff.2 List.nodup_range) hp]
  have := ht p hp
  omega

theorem cast_sum (l : List Nat) (f : Nat → Nat) : ((l.map f).sum : Int) = (l.map fun i => (f i : Int)).sum := by
  induction l with
  | nil => rfl
  | cons a r ih => simp only [List.map_cons, List.sum_cons]; push_cast; rw [ih]

theorem wsum_sumP {cs : List Int} (h : OkC cs) : (wsum (wt cs cs.length) : Int) = sumP cs (fun i => cs.getD i 0) cs.length := by
  rw [sumP_rng]
  unfold wsum
  rw [cast_sum, wt_length]
  congr 1
  refine List.map_congr_left (fun j hj => ?_)
  have hj' : j < (st cs cs.length).length := by simpa using hj
  simp only [cw]
  rw [wt_getD cs _ j hj']
  have := (rk_st cs hj').2.2
  omega

/-- No lengths are better. -/
theorem best_core {cs ds other : List Int} (hok : OkC cs) (hsh : ShS (wt cs cs.length) ds) (hs : sumP cs (fun i => cs.getD i 0) cs.length ≤ 300) (hm : mayB other = true) (ha : ∀ i, i < cs.length → 0 < cs.getD i 0 → 0 < other.getD i 0) :
    sumP cs (fun i => cs.getD i 0 * (lens cs ds).getD i 0) cs.length ≤ sumP cs (fun i => cs.getD i 0 * other.getD i 0) cs.length := by
  have hk := LOk.of (mayC_of_mayB hm)
  have hwp : ∀ i, i < (wt cs cs.length).length → 0 < (wt cs cs.length).getD i 0 := fun i hi => wt_pos cs _ i hi
  have hwl := wt_length cs cs.length
  have hle := st_le cs cs.length
  have hmost := hok.most
  have hgl : ∀ j, j < (st cs cs.length).length → (lens cs ds).getD ((st cs cs.length).getD j 0) 0 = ds.getD j 0 := fun j hj => by
    obtain ⟨h1, h2, h3⟩ := rk_st cs hj
    rw [lensTo_getD cs ds _ _ (st_le_last cs hj), if_pos ⟨h3, by rw [h1]; exact hj⟩, h1]
  have hoj : ∀ j, j < (st cs cs.length).length → 0 < other.getD ((st cs cs.length).getD j 0) 0 ∧ other.getD ((st cs cs.length).getD j 0) 0 ≤ 11 := fun j hj => by
    obtain ⟨h1, h2, h3⟩ := rk_st cs hj
    have h4 := ha _ h2 h3
    refine ⟨h4, ?_⟩
    by_cases hl : (st cs cs.length).getD j 0 < other.length
    · exact (hk.each _ hl).2
    · rw [List.getD_eq_getElem?_getD (l := other), List.getElem?_eq_none (by omega)] at h4
      simp at h4
  rw [sumP_rng, sumP_rng]
  rcases hsh with ⟨h1, rfl⟩ | ⟨h2, h3⟩
  · rw [hwl] at h1
    rw [h1]
    have g0 := hgl 0 (by omega)
    have o0 := hoj 0 (by omega)
    have p0 := (rk_st cs (k := cs.length) (i := 0) (by omega)).2.2
    simp only [List.range_one, List.map_cons, List.map_nil, List.sum_cons, List.sum_nil, Int.add_zero]
    rw [g0]
    have : (([1] : List Int).getD 0 0) = 1 := rfl
    rw [this]
    exact Int.mul_le_mul_of_nonneg_left (by omega) (by omega)
  · have hw : Wts (wt cs cs.length) := ⟨h2, by omega, hwp⟩
    have hws := wsum_sumP hok
    have h11 := all11_of_300 hw (by omega)
    have hds : ds = deps (wt cs cs.length) := by
      cases h3 with
      | now _ _ => rfl
      | on _ _ hn _ => exact absurd h11 hn
    have hb := hw.tr.best 11 (fun j => (other.getD ((st cs cs.length).getD j 0) 0).toNat) (fun b hb => by
      have := hoj b (by rw [← hwl]; exact mem_sortR.1 hb)
      omega) (by
      have h5 := sumP_room cs other cs.length ha
      have h6 := roomTo_le other cs.length
      have h7 := hk.room
      rw [sumP_rng] at h5
      have h8 : (sumOn (sortB (cw (wt cs cs.length)) (List.range (wt cs cs.length).length)) (fun b => 2 ^ (11 - (other.getD ((st cs cs.length).getD b 0) 0).toNat)) : Int) ≤ 2048 := by
        rw [sumOn_perm (sortB_perm _ _)]
        unfold sumOn
        rw [cast_sum, hwl]
        push_cast
        omega
      have e : (2 : Nat) ^ 11 = 2048 := by decide
      omega)
    rw [sumOn_perm (sortB_perm _ _), sumOn_perm (sortB_perm _ _)] at hb
    unfold sumOn at hb
    have hb2 : (((List.range (wt cs cs.length).length).map fun b => cw (wt cs cs.length) b * depthOf (treeOf (cw (wt cs cs.length)) (wt cs cs.length).length) b).sum : Int) ≤ (((List.range (wt cs cs.length).length).map fun b => cw (wt cs cs.length) b * (other.getD ((st cs cs.length).getD b 0) 0).toNat).sum : Int) := by exact_mod_cast hb
    rw [cast_sum, cast_sum, hwl] at hb2
    have e1 : ((List.range (st cs cs.length).length).map fun j => cs.getD ((st cs cs.length).getD j 0) 0 * (lens cs ds).getD ((st cs cs.length).getD j 0) 0) = (List.range (st cs cs.length).length).map fun i => ((cw (wt cs cs.length) i * depthOf (treeOf (cw (wt cs cs.length)) (wt cs cs.length).length) i : Nat) : Int) := List.map_congr_left (fun j hj => by
      have hj' : j < (st cs cs.length).length := by simpa using hj
      rw [hgl j hj', hds, deps_getD _ j (by rw [hwl]; exact hj')]
      push_cast
      simp only [cw]
      rw [wt_getD cs _ j hj']
      have := (rk_st cs hj').2.2
      rw [Int.toNat_of_nonneg (by omega)])
    have e2 : ((List.range (st cs cs.length).length).map fun j => cs.getD ((st cs cs.length).getD j 0) 0 * other.getD ((st cs cs.length).getD j 0) 0) = (List.range (st cs cs.length).length).map fun i => ((cw (wt cs cs.length) i * (other.getD ((st cs cs.length).getD i 0) 0).toNat : Nat) : Int) := List.map_congr_left (fun j hj => by
      have hj' : j < (st cs cs.length).length := by simpa using hj
      push_cast
      simp only [cw]
      rw [wt_getD cs _ j hj']
      have := (rk_st cs hj').2.2
      have := (hoj j hj').1
      rw [Int.toNat_of_nonneg (by omega), Int.toNat_of_nonneg (by omega)])
    rw [e1, e2]
    rw [hwl]
    exact hb2
end Go.Proofs.Ytpdhdlopbmhgfaa
