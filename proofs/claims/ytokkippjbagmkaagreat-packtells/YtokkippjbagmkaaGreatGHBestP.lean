import Derived.Test.YtokkippjbagmkaaGreatGHDec
set_option maxRecDepth 100000
/-
  No lengths are better: counts of at most 300 together.
-/
namespace Go.Proofs.YtokkippjbagmkaaGreat
open Go.RowKit Pl Hf
set_option linter.unusedVariables false
set_option maxRecDepth 100000

/-- What those that stand give together, of the first k. -/
def sumP (cs : List Int) (f : Nat → Int) : Nat → Int
  | 0 => 0
  | k + 1 => sumP cs f k + if 0 < cs.getD k 0 then f k else 0

theorem sumP_st (cs : List Int) (f : Nat → Int) (k : Nat) : sumP cs f k = ((st cs k).map f).sum := by
  induction k with
  | zero => simp [sumP, st]
  | succ k ih =>
    simp only [sumP, ih]
    rw [st_succ]
    split
    · simp
    · simp

theorem sumP_rng (cs : List Int) (f : Nat → Int) : sumP cs f cs.length = ((List.range (st cs cs.length).length).map fun j => f ((st cs cs.length).getD j 0)).sum := by
  rw [sumP_st]
  congr 1
  apply List.ext_getElem?
  intro i
  by_cases h : i < (st cs cs.length).length
  · simp [h, List.getD_eq_getElem?_getD]
  · simp [h]

theorem roomTo_mono (ls : List Int) {a b : Nat} (h : a ≤ b) : roomTo ls a ≤ roomTo ls b := by
  induction b with
  | zero => obtain rfl : a = 0 := by omega
            exact Int.le_refl _
  | succ b ih =>
    by_cases e : a = b + 1
    · subst e; exact Int.le_refl _
    · have := ih (by omega)
      simp only [roomTo]
      have h1 : (0 : Int) < 2 ^ (11 - (ls.getD b 0).toNat) := Int.pow_pos (by decide)
      split <;> omega

theorem roomTo_past (ls : List Int) (d : Nat) : roomTo ls (ls.length + d) = roomTo ls ls.length := by
  induction d with
  | zero => rfl
  | succ d ih =>
    rw [show ls.length + (d + 1) = ls.length + d + 1 by omega]
    simp only [roomTo, ih]
    rw [if_neg (by simp [List.getD_eq_getElem?_getD])]
    omega

theorem roomTo_le (ls : List Int) (k : Nat) : roomTo ls k ≤ roomTo ls ls.length := by
  by_cases h : k ≤ ls.length
  · exact roomTo_mono ls h
  · have := roomTo_past ls (k - ls.length)
    rw [show ls.length + (k - ls.length) = k by omega] at this
    omega

theorem sumP_room (cs other : List Int) (k : Nat) (h : ∀ i, i < k → 0 < cs.getD i 0 → 0 < other.getD i 0) : sumP cs (fun i => 2 ^ (11 - (other.getD i 0).toNat)) k ≤ roomTo other k := by
  induction k with
  | zero => exact Int.le_refl _
  | succ k ih =>
    have := ih (fun i hi => h i (by omega))
    simp only [sumP, roomTo]
    have h1 : (0 : Int) < 2 ^ (11 - (other.getD k 0).toNat) := Int.pow_pos (by decide)
    by_cases hp : 0 < cs.getD k 0
    · rw [if_pos hp, if_pos (h k (by omega) hp)]; omega
    · rw [if_neg hp]; split <;> omega

theorem all11_of_300 {ws : List Int} (h : Wts ws) (hs : wsum ws ≤ 300) : All11 ws := by
  intro i hi
  have hst := h.stand
  have ht := tree_300 (cw ws) ws.length (by rw [hst, List.length_range]; have := h.two; omega) (by rw [hst]; exact hs)
  have hb := treeOf_bytes (cw ws) ws.length (by rw [hst, List.length_range]; have := h.two; omega)
  have hb2 : ((treeOf (cw ws) ws.length).map (·.1)).Perm (List.range ws.length) := by
    refine hb.trans ?_
    rw [hst]
    exact sortB_perm _ _
  have hm : i ∈ (treeOf (cw ws) ws.length).map (·.1) := hb2.mem_iff.2 (by simpa using hi)
  obtain ⟨p, hp, rfl⟩ := List.mem_map.1 hm
  rw [deps_getD ws p.1 hi, depthOf_mem (hb2.nodup_iff.2 List.nodup_range) hp]
  have := ht p hp
  omega

theorem cast_sum (l : List Nat) (f : Nat → Nat) : ((l.map f).sum : Int) = (l.map fun i => (f i : Int)).sum := by
  induction l with
  | nil => rfl
  | cons a r ih => simp only [List.map_cons, List.sum_cons]; push_cast; rw [ih]

theorem wsum_sumP {cs : List Int} (h : OkC cs) : (wsum (wt cs cs.length) : Int) = sumP cs (fun i => cs.getD i 0) cs.length := by
  rw [sumP_rng]
  unfold wsum
  rw [cast_sum, wt_length]
  congr 1
  refine List.map_congr_left (fun j hj => ?_)
  have hj' : j < (st cs cs.length).length := by simpa using hj
  simp only [cw]
  rw [wt_getD cs _ j hj']
  have := (rk_st cs hj').2.2
  omega

/-- No lengths are better. -/
theorem best_core {cs ds other : List Int} (hok : OkC cs) (hsh : ShS (wt cs cs.length) ds) (hs : sumP cs (fun i => cs.getD i 0) cs.length ≤ 300) (hm : mayB other = true) (ha : ∀ i, i < cs.length → 0 < cs.getD i 0 → 0 < other.getD i 0) :
    sumP cs (fun i => cs.getD i 0 * (lens cs ds).getD i 0) cs.length ≤ sumP cs (fun i => cs.getD i 0 * other.getD i 0) cs.length := by
  have hk := LOk.of (mayC_of_mayB hm)
  have hwp : ∀ i, i < (wt cs cs.length).length → 0 < (wt cs cs.length).getD i 0 := fun i hi => wt_pos cs _ i hi
  have hwl := wt_length cs cs.length
  have hle := st_le cs cs.length
  have hmost := hok.most
  have hgl : ∀ j, j < (st cs cs.length).length → (lens cs ds).getD ((st cs cs.length).getD j 0) 0 = ds.getD j 0 := fun j hj => by
    obtain ⟨h1, h2, h3⟩ := rk_st cs hj
    rw [lensTo_getD cs ds _ _ (st_le_last cs hj), if_pos ⟨h3, by rw [h1]; exact hj⟩, h1]
  have hoj : ∀ j, j < (st cs cs.length).length → 0 < other.getD ((st cs cs.length).getD j 0) 0 ∧ other.getD ((st cs cs.length).getD j 0) 0 ≤ 11 := fun j hj => by
    obtain ⟨h1, h2, h3⟩ := rk_st cs hj
    have h4 := ha _ h2 h3
    refine ⟨h4, ?_⟩
    by_cases hl : (st cs cs.length).getD j 0 < other.length
    · exact (hk.each _ hl).2
    · rw [List.getD_eq_getElem?_getD (l := other), List.getElem?_eq_none (by omega)] at h4
      simp at h4
  rw [sumP_rng, sumP_rng]
  rcases hsh with ⟨h1, rfl⟩ | ⟨h2, h3⟩
  · rw [hwl] at h1
    rw [h1]
    have g0 := hgl 0 (by omega)
    have o0 := hoj 0 (by omega)
    have p0 := (rk_st cs (k := cs.length) (i := 0) (by omega)).2.2
    simp only [List.range_one, List.map_cons, List.map_nil, List.sum_cons, List.sum_nil, Int.add_zero]
    rw [g0]
    have : (([1] : List Int).getD 0 0) = 1 := rfl
    rw [this]
    exact Int.mul_le_mul_of_nonneg_left (by omega) (by omega)
  · have hw : Wts (wt cs cs.length) := ⟨h2, by omega, hwp⟩
    have hws := wsum_sumP hok
    have h11 := all11_of_300 hw (by omega)
    have hds : ds = deps (wt cs cs.length) := by
      cases h3 with
      | now _ _ => rfl
      | on _ _ hn _ => exact absurd h11 hn
    have hb := hw.tr.best 11 (fun j => (other.getD ((st cs cs.length).getD j 0) 0).toNat) (fun b hb => by
      have := hoj b (by rw [← hwl]; exact mem_sortR.1 hb)
      omega) (by
      have h5 := sumP_room cs other cs.length ha
      have h6 := roomTo_le other cs.length
      have h7 := hk.room
      rw [sumP_rng] at h5
      have h8 : (sumOn (sortB (cw (wt cs cs.length)) (List.range (wt cs cs.length).length)) (fun b => 2 ^ (11 - (other.getD ((st cs cs.length).getD b 0) 0).toNat)) : Int) ≤ 2048 := by
        rw [sumOn_perm (sortB_perm _ _)]
        unfold sumOn
        rw [cast_sum, hwl]
        push_cast
        omega
      have e : (2 : Nat) ^ 11 = 2048 := by decide
      omega)
    rw [sumOn_perm (sortB_perm _ _), sumOn_perm (sortB_perm _ _)] at hb
    unfold sumOn at hb
    have hb2 : (((List.range (wt cs cs.length).length).map fun b => cw (wt cs cs.length) b * depthOf (treeOf (cw (wt cs cs.length)) (wt cs cs.length).length) b).sum : Int) ≤ (((List.range (wt cs cs.length).length).map fun b => cw (wt cs cs.length) b * (other.getD ((st cs cs.length).getD b 0) 0).toNat).sum : Int) := by exact_mod_cast hb
    rw [cast_sum, cast_sum, hwl] at hb2
    have e1 : ((List.range (st cs cs.length).length).map fun j => cs.getD ((st cs cs.length).getD j 0) 0 * (lens cs ds).getD ((st cs cs.length).getD j 0) 0) = (List.range (st cs cs.length).length).map fun i => ((cw (wt cs cs.length) i * depthOf (treeOf (cw (wt cs cs.length)) (wt cs cs.length).length) i : Nat) : Int) := List.map_congr_left (fun j hj => by
      have hj' : j < (st cs cs.length).length := by simpa using hj
      rw [hgl j hj', hds, deps_getD _ j (by rw [hwl]; exact hj')]
      push_cast
      simp only [cw]
      rw [wt_getD cs _ j hj']
      have := (rk_st cs hj').2.2
      rw [Int.toNat_of_nonneg (by omega)])
    have e2 : ((List.range (st cs cs.length).length).map fun j => cs.getD ((st cs cs.length).getD j 0) 0 * other.getD ((st cs cs.length).getD j 0) 0) = (List.range (st cs cs.length).length).map fun i => ((cw (wt cs cs.length) i * (other.getD ((st cs cs.length).getD i 0) 0).toNat : Nat) : Int) := List.map_congr_left (fun j hj => by
      have hj' : j < (st cs cs.length).length := by simpa using hj
      push_cast
      simp only [cw]
      rw [wt_getD cs _ j hj']
      have := (rk_st cs hj').2.2
      have := (hoj j hj').1
      rw [Int.toNat_of_nonneg (by omega), Int.toNat_of_nonneg (by omega)])
    rw [e1, e2]
    rw [hwl]
    exact hb2
end Go.Proofs.YtokkippjbagmkaaGreat

/-
  Lengths that are told may be; who stands more often has no longer code.
-/
namespace Go.Proofs.YtokkippjbagmkaaGreat
open Go.RowKit Pl Hf
set_option linter.unusedVariables false
set_option maxRecDepth 100000

theorem sumP_bd' {cs : List Int} (h : OkC cs) (k : Nat) (hk : k ≤ cs.length) : 0 ≤ sumP cs (fun i => cs.getD i 0) k ∧ sumP cs (fun i => cs.getD i 0) k ≤ 4294967295 * k := by
  induction k with
  | zero => simp [sumP]
  | succ k ih =>
    have := ih (by omega)
    have h1 := h.each k (by omega)
    simp only [sumP]
    split <;> omega

theorem shS_bd' {cs ds : List Int} (hok : OkC cs) (h : ShS (wt cs cs.length) ds) : ∀ i, 0 ≤ ds.getD i 0 ∧ ds.getD i 0 ≤ 11 := by
  have hle := st_le cs cs.length
  have hmost := hok.most
  have hwl := wt_length cs cs.length
  intro i
  rcases h with ⟨_, rfl⟩ | ⟨h2, h3⟩
  · match i with
    | 0 => decide
    | n + 1 => simp
  · obtain ⟨vs, _, _, h5, rfl⟩ := h3.facts ⟨h2, by omega, fun i hi => wt_pos cs _ i hi⟩
    by_cases hi : i < vs.length
    · have := h5 i hi
      refine ⟨?_, this⟩
      rw [deps_getD vs i hi]
      omega
    · have : (deps vs).getD i 0 = 0 := by simp [List.getD_eq_getElem?_getD, List.getElem?_eq_none (show (deps vs).length ≤ i by rw [deps_length]; omega)]
      rw [this]; decide

theorem lens_bd' {cs ds : List Int} (hok : OkC cs) (h : ShS (wt cs cs.length) ds) (i : Nat) : 0 ≤ (lens cs ds).getD i 0 ∧ (lens cs ds).getD i 0 ≤ 11 := by
  by_cases hi : i ≤ lastSt cs
  · rw [lensTo_getD cs ds _ i hi]
    split
    · exact shS_bd' hok h _
    · decide
  · have : (lens cs ds).getD i 0 = 0 := by simp [List.getD_eq_getElem?_getD, List.getElem?_eq_none (show (lens cs ds).length ≤ i by rw [lensTo_length]; omega)]
    rw [this]; decide

theorem last_of' {cs : List Int} {k : Nat} (hk : k < cs.length) (hp : 0 < cs.getD k 0) : k ≤ lastSt cs := by
  obtain ⟨h1, h2⟩ := st_get cs hk hp
  have := st_le_last cs h1
  rw [h2] at this
  exact this

/-- In a tree of two things or more none stands at the top. -/
theorem Tr.pos {c d : Nat → Nat} {Bs : List Nat} (h : Tr c d Bs) {b : Nat} (hb : b ∈ Bs) : 1 ≤ d b := by
  refine Classical.byContradiction (fun hn => ?_)
  have h0 : d b = 0 := by omega
  obtain ⟨x, hx, hm⟩ := exists_max d Bs (fun e => by rw [e] at hb; simp at hb)
  have hf := h.full (d x) hm
  have hp := perm_front hb
  rw [sumOn_perm hp, sumOn_cons, h0, Nat.sub_zero] at hf
  have hl : 1 ≤ (Bs.erase b).length := by
    have := hp.length_eq
    have := h.two
    simp at *
    omega
  obtain ⟨y, r, hy⟩ : ∃ y r, Bs.erase b = y :: r := by
    cases he : Bs.erase b with
    | nil => rw [he] at hl; simp at hl
    | cons y r => exact ⟨y, r, rfl⟩
  rw [hy, sumOn_cons] at hf
  have : 0 < 2 ^ (d x - d y) := Nat.pow_pos (by decide)
  omega

theorem shS_pos {cs ds : List Int} (hok : OkC cs) (h : ShS (wt cs cs.length) ds) : ∀ j, j < (st cs cs.length).length → 0 < ds.getD j 0 := by
  have hle := st_le cs cs.length
  have hmost := hok.most
  have hwl := wt_length cs cs.length
  intro j hj
  rcases h with ⟨h1, rfl⟩ | ⟨h2, h3⟩
  · obtain rfl : j = 0 := by omega
    decide
  · obtain ⟨vs, g1, g2, g3, rfl⟩ := h3.facts ⟨h2, by omega, fun i hi => wt_pos cs _ i hi⟩
    rw [deps_getD vs j (by omega)]
    have := Tr.pos g1.tr (mem_sortR.2 (show j < vs.length by omega))
    omega

theorem st_last {cs : List Int} (hok : OkC cs) : st cs (lastSt cs + 1) = st cs cs.length ∧ lastSt cs < cs.length := by
  have hs := hok.some
  obtain ⟨h1, h2, h3⟩ := rk_st cs (k := cs.length) (i := (st cs cs.length).length - 1) (by omega)
  refine ⟨?_, h2⟩
  have h2' : lastSt cs < cs.length := h2
  have ht := st_take cs (b := lastSt cs + 1) (k := cs.length) (by omega)
  have e : rk cs (lastSt cs + 1) = (st cs cs.length).length := by
    show (st cs (lastSt cs + 1)).length = _
    rw [st_succ, if_pos h3]
    have h1' : (st cs (lastSt cs)).length = (st cs cs.length).length - 1 := h1
    simp only [List.length_append, List.length_cons, List.length_nil]
    omega
  rw [e, List.take_length] at ht
  exact ht.symm

theorem lens_pos {cs ds : List Int} (hok : OkC cs) (h : ShS (wt cs cs.length) ds) (i : Nat) (hi : i ≤ lastSt cs) : 0 < (lens cs ds).getD i 0 ↔ 0 < cs.getD i 0 := by
  have hll := (st_last hok).2
  rw [lensTo_getD cs ds _ i hi]
  constructor
  · intro hp
    split at hp
    · rename_i hc; exact hc.1
    · omega
  · intro hp
    have := (st_get cs (k := cs.length) (by omega) hp).1
    rw [if_pos ⟨hp, this⟩]
    exact shS_pos hok h _ this

theorem many_lens {cs ds : List Int} (hok : OkC cs) (h : ShS (wt cs cs.length) ds) (k : Nat) (hk : k ≤ lastSt cs + 1) : manyTo (lens cs ds) k = ((st cs k).length : Int) ∧ roomTo (lens cs ds) k = sumP cs (fun i => 2 ^ (11 - ((lens cs ds).getD i 0).toNat)) k := by
  induction k with
  | zero => simp [manyTo, roomTo, sumP, st]
  | succ k ih =>
    obtain ⟨i1, i2⟩ := ih (by omega)
    have hp := lens_pos hok h k (by omega)
    simp only [manyTo, roomTo, sumP, i1, i2]
    rw [st_succ]
    by_cases e : 0 < cs.getD k 0
    · rw [if_pos (hp.2 e), if_pos e, if_pos (hp.2 e), if_pos e]
      simp
    · rw [if_neg (fun x => e (hp.1 x)), if_neg e, if_neg (fun x => e (hp.1 x)), if_neg e]
      simp

theorem may_lens {cs ds : List Int} (hok : OkC cs) (h : ShS (wt cs cs.length) ds) : mayB (lens cs ds) = true := by
  have hll := st_last hok
  have hmost := hok.most
  have hsome := hok.some
  have hlen := lensTo_length cs ds (st cs cs.length).length
  have hwl := wt_length cs cs.length
  have hle := st_le cs cs.length
  obtain ⟨m1, m2⟩ := many_lens hok h (lastSt cs + 1) (Nat.le_refl _)
  rw [hll.1] at m1
  have g3 := (rk_st cs (k := cs.length) (i := (st cs cs.length).length - 1) (by omega)).2.2
  have hlast := (lens_pos hok h (lastSt cs) (Nat.le_refl _)).2 g3
  unfold mayB
  rw [decide_eq_true_eq, hlen, m1, m2]
  refine ⟨by omega, by omega, by rw [Nat.add_sub_cancel]; omega, fun i _ => lens_bd' hok h i, ?_⟩
  rcases h with ⟨h1, rfl⟩ | ⟨h2, h3⟩
  · rw [hwl] at h1
    rw [if_pos (by omega), Nat.add_sub_cancel]
    have g1 := (rk_st cs (k := cs.length) (i := (st cs cs.length).length - 1) (by omega)).1
    rw [lensTo_getD cs [1] _ _ (Nat.le_refl _), if_pos ⟨g3, by show rk cs (lastSt cs) < _; rw [g1]; omega⟩]
    have e0 : rk cs (lastSt cs) = 0 := by rw [g1, h1]
    rw [e0]
    rfl
  · rw [if_neg (by omega)]
    have hs1 : sumP cs (fun i => 2 ^ (11 - ((lens cs ds).getD i 0).toNat)) (lastSt cs + 1) = sumP cs (fun i => 2 ^ (11 - ((lens cs ds).getD i 0).toNat)) cs.length := by rw [sumP_st, sumP_st, hll.1]
    rw [hs1, sumP_rng]
    obtain ⟨vs, v1, v2, v3, rfl⟩ := h3.facts ⟨h2, by omega, fun i hi => wt_pos cs _ i hi⟩
    have hf := v1.tr.full 11 (fun b hb => by
      have hb' := mem_sortR.1 hb
      have := v3 b hb'
      rw [deps_getD vs b hb'] at this
      omega)
    rw [sumOn_perm (sortB_perm _ _)] at hf
    unfold sumOn at hf
    have hf2 : ((((List.range vs.length).map fun b => 2 ^ (11 - depthOf (treeOf (cw vs) vs.length) b)).sum : Nat) : Int) = 2048 := by rw [hf]; rfl
    rw [cast_sum, v2, hwl] at hf2
    rw [← hf2]
    congr 1
    refine List.map_congr_left (fun j hj => ?_)
    have hj' : j < (st cs cs.length).length := by simpa using hj
    obtain ⟨r1, r2, r3⟩ := rk_st cs hj'
    rw [lensTo_getD cs _ _ _ (st_le_last cs hj'), if_pos ⟨r3, by rw [r1]; exact hj'⟩, r1, deps_getD vs j (by omega)]
    push_cast
    simp
    rw [v2, hwl]

/-- Who stands more often has no longer code. -/
theorem order_core {cs ds : List Int} (hok : OkC cs) (hsh : ShS (wt cs cs.length) ds) (hs : sumP cs (fun i => cs.getD i 0) cs.length ≤ 300) {a b : Nat} (ha : a < cs.length) (hb : b < cs.length) (hlt : cs.getD b 0 < cs.getD a 0) (hp : 0 < cs.getD b 0) : (lens cs ds).getD a 0 ≤ (lens cs ds).getD b 0 := by
  have hwl := wt_length cs cs.length
  have hle := st_le cs cs.length
  have hmost := hok.most
  have hpa : 0 < cs.getD a 0 := by omega
  obtain ⟨a1, a2⟩ := st_get cs ha hpa
  obtain ⟨b1, b2⟩ := st_get cs hb hp
  have la : a ≤ lastSt cs := by have := st_le_last cs a1; rw [a2] at this; exact this
  have lb : b ≤ lastSt cs := by have := st_le_last cs b1; rw [b2] at this; exact this
  rw [lensTo_getD cs ds _ a la, lensTo_getD cs ds _ b lb, if_pos ⟨hpa, a1⟩, if_pos ⟨hp, b1⟩]
  rcases hsh with ⟨h1, rfl⟩ | ⟨h2, h3⟩
  · rw [hwl] at h1
    exfalso
    have ea : rk cs a = 0 := by omega
    have eb : rk cs b = 0 := by omega
    rw [ea] at a2
    rw [eb] at b2
    have : a = b := by omega
    subst this
    omega
  · have hw : Wts (wt cs cs.length) := ⟨h2, by omega, fun i hi => wt_pos cs _ i hi⟩
    have h11 := all11_of_300 hw (by have := wsum_sumP hok; omega)
    have hds : ds = deps (wt cs cs.length) := by
      cases h3 with
      | now _ _ => rfl
      | on _ _ hn _ => exact absurd h11 hn
    rw [hds, deps_getD _ _ (by rw [hwl]; exact a1), deps_getD _ _ (by rw [hwl]; exact b1)]
    have := hw.tr.order (x := rk cs a) (y := rk cs b) (mem_sortR.2 (by rw [hwl]; exact a1)) (mem_sortR.2 (by rw [hwl]; exact b1)) (by
      simp only [cw]
      rw [wt_getD cs _ _ a1, wt_getD cs _ _ b1, a2, b2]
      omega)
    omega
end Go.Proofs.YtokkippjbagmkaaGreat
