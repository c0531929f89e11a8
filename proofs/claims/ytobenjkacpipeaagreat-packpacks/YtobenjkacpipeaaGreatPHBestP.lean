import Derived.Test.YtobenjkacpipeaaGreatPHKey
set_option maxRecDepth 100000
set_option linter.unusedVariables false
set_option linter.unusedSimpArgs false
set_option maxHeartbeats 8000000
namespace Go.Proofs.YtobenjkacpipeaaGreat
open Go.RowKit Pl Hf
def sumP (cs : List Int) (f : Nat -> Int) : Nat -> Int
 | 0 => 0
 | k + 1 => sumP cs f k + if 0 < cs.getD k 0 then f k else 0
theorem zqe9 (cs : List Int) (f : Nat -> Int) (k : Nat) : sumP cs f k = ((st cs k).map f).sum := by
 induction k with
 | zero => simp [sumP, st]
 | succ k ih =>
  simp only [sumP, ih]
  rw [zay9]
  split
  ·simp
  ·simp
theorem zvr9 (cs : List Int) (f : Nat -> Int) : sumP cs f cs.length = ((List.range (st cs cs.length).length).map fun j => f ((st cs cs.length).getD j 0)).sum := by
 rw [zqe9]
 congr 1
 apply List.ext_getElem?
 intro i
 by_cases h : i < (st cs cs.length).length
 ·simp [h, List.getD_eq_getElem?_getD]
 ·simp [h]
theorem zxt9 (l : List Nat) (f : Nat -> Nat) : ((l.map f).sum : Int) = (l.map fun i => (f i : Int)).sum := by
 induction l with
 | nil => rfl
 | cons a r ih => simp only [List.map_cons, List.sum_cons]; push_cast; rw [ih]
theorem shS_bd' {cs ds : List Int} (hok : OkC cs) (h : ShS (wt cs cs.length) ds) : ∀ i, 0 <= ds.getD i 0 /\ ds.getD i 0 <= 11 := by
 have hle := st_le cs cs.length
 have hmost := hok.most
 have hwl := zk9 cs cs.length
 intro i
 rcases h with ⟨_, rfl⟩ | ⟨h2, h3⟩
 ·match i with
  | 0 => decide
  | n + 1 => simp
 ·obtain ⟨vs, _, _, h5, rfl⟩ := h3.facts ⟨h2, by omega, fun i hi => wt_pos cs _ i hi⟩
  by_cases hi : i < vs.length
  ·have := h5 i hi
   refine ⟨?_, this⟩
   rw [zat9 vs i hi]
   omega
  ·have : (deps vs).getD i 0 = 0 := by simp [List.getD_eq_getElem?_getD, List.getElem?_eq_none (show (deps vs).length <= i by rw [zdm9]; omega)]
   rw [this]; decide
theorem lens_bd' {cs ds : List Int} (hok : OkC cs) (h : ShS (wt cs cs.length) ds) (i : Nat) : 0 <= (lens cs ds).getD i 0 /\ (lens cs ds).getD i 0 <= 11 := by
 by_cases hi : i <= lastSt cs
 ·rw [zu9 cs ds _ i hi]
  split
  ·exact shS_bd' hok h _
  ·decide
 ·have : (lens cs ds).getD i 0 = 0 := by simp [List.getD_eq_getElem?_getD, List.getElem?_eq_none (show (lens cs ds).length <= i by rw [zj9]; omega)]
  rw [this]; decide
theorem last_of' {cs : List Int} {k : Nat} (hk : k < cs.length) (hp : 0 < cs.getD k 0) : k <= lastSt cs := by
 obtain ⟨h1, h2⟩ := st_get cs hk hp
 have := zca9 cs h1
 rw [h2] at this
 exact this
theorem Tr.pos {c d : Nat -> Nat} {Bs : List Nat} (h : Tr c d Bs) {b : Nat} (hb : b ∈ Bs) : 1 <= d b := by
 refine Classical.byContradiction (fun hn => ?_)
 have h0 : d b = 0 := by omega
 obtain ⟨x, hx, hm⟩ := zii9 d Bs (fun e => by rw [e] at hb; simp at hb)
 have hf := h.full (d x) hm
 have hp := zcb9 hb
 rw [zaz9 hp, zn9, h0, Nat.sub_zero] at hf
 have hl : 1 <= (Bs.erase b).length := by
  have := hp.length_eq
  have := h.two
  simp at *
  omega
 obtain ⟨y, r, hy⟩ : ∃ y r, Bs.erase b = y :: r := by
  cases he : Bs.erase b with
  | nil => rw [he] at hl; simp at hl
  | cons y r => exact ⟨y, r, rfl⟩
 rw [hy, zn9] at hf
 have : 0 < 2 ^ (d x - d y) := Nat.pow_pos (by decide)
 omega
theorem zzg9 {cs ds : List Int} (hok : OkC cs) (h : ShS (wt cs cs.length) ds) : ∀ j, j < (st cs cs.length).length -> 0 < ds.getD j 0 := by
 have hle := st_le cs cs.length
 have hmost := hok.most
 have hwl := zk9 cs cs.length
 intro j hj
 rcases h with ⟨h1, rfl⟩ | ⟨h2, h3⟩
 ·obtain rfl : j = 0 := by omega
  decide
 ·obtain ⟨vs, g1, g2, g3, rfl⟩ := h3.facts ⟨h2, by omega, fun i hi => wt_pos cs _ i hi⟩
  rw [zat9 vs j (by omega)]
  have := Tr.pos g1.tr (zed9.2 (show j < vs.length by omega))
  omega
theorem zvg9 {cs : List Int} (hok : OkC cs) : st cs (lastSt cs + 1) = st cs cs.length /\ lastSt cs < cs.length := by
 have hs := hok.some
 obtain ⟨h1, h2, h3⟩ := rk_st cs (k := cs.length) (i := (st cs cs.length).length - 1) (by omega)
 refine ⟨?_, h2⟩
 have h2' : lastSt cs < cs.length := h2
 have ht := zre9 cs (b := lastSt cs + 1) (k := cs.length) (by omega)
 have e : rk cs (lastSt cs + 1) = (st cs cs.length).length := by
  show (st cs (lastSt cs + 1)).length = _
  rw [zay9, if_pos h3]
  have h1' : (st cs (lastSt cs)).length = (st cs cs.length).length - 1 := h1
  simp only [List.length_append, List.length_cons, List.length_nil]
  omega
 rw [e, List.take_length] at ht
 exact ht.symm
theorem zhl9 {cs ds : List Int} (hok : OkC cs) (h : ShS (wt cs cs.length) ds) (i : Nat) (hi : i <= lastSt cs) : 0 < (lens cs ds).getD i 0 ↔ 0 < cs.getD i 0 := by
 have hll := (zvg9 hok).2
 rw [zu9 cs ds _ i hi]
 constructor
 ·intro hp
  split at hp
  ·rename_i hc; exact hc.1
  ·omega
 ·intro hp
  have := (st_get cs (k := cs.length) (by omega) hp).1
  rw [if_pos ⟨hp, this⟩]
  exact zzg9 hok h _ this
theorem ztg9 {cs ds : List Int} (hok : OkC cs) (h : ShS (wt cs cs.length) ds) (k : Nat) (hk : k <= lastSt cs + 1) : manyTo (lens cs ds) k = ((st cs k).length : Int) /\ roomTo (lens cs ds) k = sumP cs (fun i => 2 ^ (11 - ((lens cs ds).getD i 0).toNat)) k := by
 induction k with
 | zero => simp [manyTo, roomTo, sumP, st]
 | succ k ih =>
  obtain ⟨i1, i2⟩ := ih (by omega)
  have hp := zhl9 hok h k (by omega)
  simp only [manyTo, roomTo, sumP, i1, i2]
  rw [zay9]
  by_cases e : 0 < cs.getD k 0
  ·rw [if_pos (hp.2 e), if_pos e, if_pos (hp.2 e), if_pos e]
   simp
  ·rw [if_neg (fun x => e (hp.1 x)), if_neg e, if_neg (fun x => e (hp.1 x)), if_neg e]
   simp
theorem zko9 {cs ds : List Int} (hok : OkC cs) (h : ShS (wt cs cs.length) ds) : mayB (lens cs ds) = true := by
 have hll := zvg9 hok
 have hmost := hok.most
 have hsome := hok.some
 have hlen := zj9 cs ds (st cs cs.length).length
 have hwl := zk9 cs cs.length
 have hle := st_le cs cs.length
 obtain ⟨m1, m2⟩ := ztg9 hok h (lastSt cs + 1) (Nat.le_refl _)
 rw [hll.1] at m1
 have g3 := (rk_st cs (k := cs.length) (i := (st cs cs.length).length - 1) (by omega)).2.2
 have hlast := (zhl9 hok h (lastSt cs) (Nat.le_refl _)).2 g3
 unfold mayB
 rw [decide_eq_true_eq, hlen, m1, m2]
 refine ⟨by omega, by omega, by rw [Nat.add_sub_cancel]; omega, fun i _ => lens_bd' hok h i, ?_⟩
 rcases h with ⟨h1, rfl⟩ | ⟨h2, h3⟩
 ·rw [hwl] at h1
  rw [if_pos (by omega), Nat.add_sub_cancel]
  have g1 := (rk_st cs (k := cs.length) (i := (st cs cs.length).length - 1) (by omega)).1
  rw [zu9 cs [1] _ _ (Nat.le_refl _), if_pos ⟨g3, by show rk cs (lastSt cs) < _; rw [g1]; omega⟩]
  have e0 : rk cs (lastSt cs) = 0 := by rw [g1, h1]
  rw [e0]
  rfl
 ·rw [if_neg (by omega)]
  have hs1 : sumP cs (fun i => 2 ^ (11 - ((lens cs ds).getD i 0).toNat)) (lastSt cs + 1) = sumP cs (fun i => 2 ^ (11 - ((lens cs ds).getD i 0).toNat)) cs.length := by rw [zqe9, zqe9, hll.1]
  rw [hs1, zvr9]
  obtain ⟨vs, v1, v2, v3, rfl⟩ := h3.facts ⟨h2, by omega, fun i hi => wt_pos cs _ i hi⟩
  have hf := v1.tr.full 11 (fun b hb => by
   have hb' := zed9.1 hb
   have := v3 b hb'
   rw [zat9 vs b hb'] at this
   omega)
  rw [zaz9 (zac9 _ _)] at hf
  unfold sumOn at hf
  have hf2 : ((((List.range vs.length).map fun b => 2 ^ (11 - zby9 (treeOf (cw vs) vs.length) b)).sum : Nat) : Int) = 2048 := by rw [hf]; rfl
  rw [zxt9, v2, hwl] at hf2
  rw [<- hf2]
  congr 1
  refine List.map_congr_left (fun j hj => ?_)
  have hj' : j < (st cs cs.length).length := by simpa using hj
  obtain ⟨r1, r2, r3⟩ := rk_st cs hj'
  rw [zu9 cs _ _ _ (zca9 cs hj'), if_pos ⟨r3, by rw [r1]; exact hj'⟩, r1, zat9 vs j (by omega)]
  push_cast
  simp
  rw [v2, hwl]
end Go.Proofs.YtobenjkacpipeaaGreat
