/-
  The document's tree, plainly: things in any order, the two least joined, and how deep each leaf stands.
-/
import Derived.Test.YtcmnhgefeffcpaaHThg
import Derived.Test.YtcmnhgefeffcpaaHLeast
import Derived.Test.YtcmnhgefeffcpaaHLen
namespace Go.Proofs.Ytcmnhgefeffcpaa
open Go.RowKit Pl Hf
set_option linter.unusedVariables false

/-- The least of things in any order is the first of them in their order. -/
theorem least_head {M : List NT} {a : NT} {r : List NT} (hp : M.Perm (a :: r)) (hl : Lex (a :: r)) (hn : ((a :: r).map (·.num)).Nodup) (d : NT) (i : Nat) (hi : i < M.length) (hle : ∀ j, j < M.length → leP (key (M.getD i d)) (key (M.getD j d))) : M.getD i d = a := by
  have hmem : M.getD i d ∈ M := by
    rw [List.getD_eq_getElem?_getD, List.getElem?_eq_getElem hi]
    exact List.getElem_mem hi
  have ha : a ∈ M := hp.mem_iff.2 (by simp)
  obtain ⟨j, hj, ej⟩ := List.getElem_of_mem ha
  have h1 : leP (key (M.getD i d)) (key a) := by
    have := hle j hj
    rw [show M.getD j d = a by rw [List.getD_eq_getElem?_getD, List.getElem?_eq_getElem hj]; exact ej] at this
    exact this
  have hm2 : M.getD i d ∈ a :: r := hp.mem_iff.1 hmem
  rcases List.mem_cons.1 hm2 with e | e
  · exact e
  · unfold Lex at hl
    rw [List.pairwise_cons] at hl
    have h2 := hl.1 _ e
    exact absurd h2 h1

/-- The leaves of things. -/
def lvs (L : List NT) : List (Nat × Nat) := L.flatMap (·.ls)
theorem lvs_perm {L M : List NT} (h : L.Perm M) : (lvs L).Perm (lvs M) := h.flatMap_right _
theorem lvs_join (a b : NT) (N : Nat) (r : List NT) : ((lvs (insN (jn a b N) r)).map (·.1)).Perm ((lvs (a :: b :: r)).map (·.1)) := by
  have h1 := (lvs_perm (insN_perm (jn a b N) r)).map (·.1)
  refine h1.trans ?_
  have e : (lvs (jn a b N :: r)).map (·.1) = (lvs (a :: b :: r)).map (·.1) := by
    simp [lvs, jn, bump, List.map_map, Function.comp_def]
  rw [e]
/-- Things in the order in which they come. -/
def L1 (c : Nat → Nat) (n : Nat) : List NT := (List.range n).map fun k => ⟨c k, k, [(k, 0)]⟩
theorem L1_perm (c : Nat → Nat) (n : Nat) : (L1 c n).Perm (L0 c n) := by
  induction n with
  | zero => exact List.Perm.refl _
  | succ n ih =>
    have e : L1 c (n + 1) = L1 c n ++ [⟨c n, n, [(n, 0)]⟩] := by unfold L1; rw [List.range_succ, List.map_append]; rfl
    rw [e]
    refine (ih.append_right _).trans ?_
    refine List.perm_append_comm.trans ?_
    exact (insN_perm _ _).symm
theorem lvs_L1 (c : Nat → Nat) (n : Nat) : (lvs (L1 c n)).map (·.1) = List.range n := by
  unfold lvs L1
  rw [List.flatMap_map]
  induction n with
  | zero => rfl
  | succ n ih => rw [List.range_succ, List.flatMap_append, List.map_append, ih]; rfl

/-- The state of the document's joining. -/
structure JT (N n : Nat) (L : List NT) (T : List (Nat × Nat)) (S f : Nat) : Prop where
  js : ∃ P, JS P N n L T S f
  lf : ((lvs L).map (·.1)).Perm (List.range n)
  dp : ∀ t ∈ L, ∀ q ∈ t.ls, q.2 + n ≤ N
theorem JT.start (c : Nat → Nat) (n : Nat) (hp : ∀ i, i < n → 0 < c i) : JT n n (L0 c n) (treeOf c n) ((List.range n).map c).sum n :=
  ⟨⟨_, JS.start c n hp⟩, by
    have h := (lvs_perm (L1_perm c n)).map (·.1)
    rw [lvs_L1] at h
    exact h.symm, fun t ht q hq => by
    obtain ⟨_, h2, _⟩ := L0_facts c n
    rw [(h2 t ht).2] at hq
    simp at hq
    subst hq
    omega⟩
theorem JT.step {N n : Nat} {a b : NT} {r : List NT} {T : List (Nat × Nat)} {S f : Nat} (h : JT N n (a :: b :: r) T S (f + 1)) : JT (N + 1) n (insN (jn a b N) r) T S f := by
  obtain ⟨⟨P, hj⟩, hl, hdp⟩ := h
  have hc := hj.cnt
  simp at hc
  have ha := hj.lt a (by simp)
  have hb := hj.lt b (by simp)
  have hp := hj.plen
  refine ⟨⟨_, hj.step (by omega) (by omega)⟩, (lvs_join a b N r).trans hl, fun t ht q hq => ?_⟩
  rcases mem_insN.1 ht with rfl | ht
  · simp only [jn, bump, List.mem_map, List.mem_append] at hq
    obtain ⟨p, hp, rfl⟩ := hq
    rcases hp with hp | hp
    · have := hdp a (by simp) p hp; simp only; omega
    · have := hdp b (by simp) p hp; simp only; omega
  · have := hdp t (by simp [ht]) q hq; omega
theorem JT.done {N n : Nat} {t : NT} {T : List (Nat × Nat)} {S f : Nat} (h : JT N n [t] T S f) : T = t.ls := by
  obtain ⟨⟨P, hj⟩, _⟩ := h
  have := hj.tree
  simp only [List.map_cons, List.map_nil] at this
  cases f <;> simp only [hgo] at this <;> exact this.symm

/-- How deep leaves stand, told by where they are: out is right for the things L. -/
structure OI (sb : Nat → Nat) (n : Nat) (L : List NT) (out : List Int) : Prop where
  at_ : ∀ t ∈ L, ∀ q ∈ t.ls, out.getD (sb q.1) 0 = (q.2 : Int)
  else_ : ∀ b, (∀ i, i < n → sb i ≠ b) → out.getD b 0 = 0

/-- While j of the leaves ls are one deeper. -/
structure OJ (sb : Nat → Nat) (ls : List (Nat × Nat)) (o out : List Int) (j : Nat) : Prop where
  len : out.length = o.length
  in_ : ∀ p, p < ls.length → out.getD (sb (ls.getD p (0, 0)).1) 0 = ((ls.getD p (0, 0)).2 : Int) + if p < j then 1 else 0
  out_ : ∀ b, (∀ q ∈ ls, sb q.1 ≠ b) → out.getD b 0 = o.getD b 0

theorem OJ.step {sb : Nat → Nat} {n : Nat} {ls : List (Nat × Nat)} {o out : List Int} {j : Nat} (h : OJ sb ls o out j) (hj : j < ls.length) (hnd : (ls.map (·.1)).Nodup) (hin : ∀ q ∈ ls, q.1 < n) (hinj : ∀ i k, i < n → k < n → sb i = sb k → i = k) (hb : ∀ i, i < n → sb i < o.length) :
    OJ sb ls o (out.set (sb (ls.getD j (0, 0)).1) (((ls.getD j (0, 0)).2 : Int) + 1)) (j + 1) := by
  have hmem : ∀ p, p < ls.length → ls.getD p (0, 0) ∈ ls := fun p hp => by
    rw [List.getD_eq_getElem?_getD, List.getElem?_eq_getElem hp]; exact List.getElem_mem hp
  have hlj : sb (ls.getD j (0, 0)).1 < out.length := by rw [h.len]; exact hb _ (hin _ (hmem j hj))
  have hne : ∀ p, p < ls.length → p ≠ j → sb (ls.getD p (0, 0)).1 ≠ sb (ls.getD j (0, 0)).1 := fun p hp hpj e => by
    have e1 := hinj _ _ (hin _ (hmem p hp)) (hin _ (hmem j hj)) e
    have g1 : (ls.map (·.1))[p]'(by simpa using hp) = (ls.getD p (0, 0)).1 := by simp [List.getD_eq_getElem?_getD, hp]
    have g2 : (ls.map (·.1))[j]'(by simpa using hj) = (ls.getD j (0, 0)).1 := by simp [List.getD_eq_getElem?_getD, hj]
    have hpw := List.pairwise_iff_getElem.1 hnd
    rcases Nat.lt_trichotomy p j with c | c | c
    · exact hpw p j (by simpa using hp) (by simpa using hj) c (by rw [g1, g2, e1])
    · exact hpj c
    · exact hpw j p (by simpa using hj) (by simpa using hp) c (by rw [g1, g2, e1])
  refine ⟨by rw [List.length_set]; exact h.len, fun p hp => ?_, fun b hbn => ?_⟩
  · rw [getD_set]
    by_cases e : p = j
    · subst e
      rw [if_pos ⟨rfl, hlj⟩, if_pos (Nat.lt_succ_self p)]
    · rw [if_neg (fun h2 => hne p hp e h2.1), h.in_ p hp]
      by_cases c : p < j
      · rw [if_pos c, if_pos (by omega)]
      · rw [if_neg c, if_neg (by omega)]
  · rw [getD_set, if_neg (fun h2 => hbn _ (hmem j hj) h2.1.symm)]
    exact h.out_ b hbn

theorem OI.join {sb : Nat → Nat} {n N : Nat} {a b : NT} {r : List NT} {o out : List Int} (h : OI sb n (a :: b :: r) o) (hd : OJ sb (a.ls ++ b.ls) o out (a.ls ++ b.ls).length) (hlf : ((lvs (a :: b :: r)).map (·.1)).Perm (List.range n)) (hinj : ∀ i k, i < n → k < n → sb i = sb k → i = k) :
    OI sb n (insN (jn a b N) r) out := by
  have hnd : ((lvs (a :: b :: r)).map (·.1)).Nodup := hlf.nodup_iff.2 List.nodup_range
  have hlt : ∀ q ∈ lvs (a :: b :: r), q.1 < n := fun q hq => by
    have : q.1 ∈ List.range n := hlf.mem_iff.1 (List.mem_map.2 ⟨q, hq, rfl⟩)
    simpa using this
  have e : lvs (a :: b :: r) = (a.ls ++ b.ls) ++ lvs r := by simp [lvs]
  rw [e, List.map_append, List.nodup_append] at hnd
  refine ⟨fun t ht q hq => ?_, fun b' hb' => ?_⟩
  · rcases mem_insN.1 ht with rfl | ht
    · simp only [jn, bump, List.mem_map] at hq
      obtain ⟨p, hp, rfl⟩ := hq
      obtain ⟨k, hk, ek⟩ := List.getElem_of_mem hp
      have := hd.in_ k hk
      rw [if_pos hk, show (a.ls ++ b.ls).getD k (0, 0) = p by rw [List.getD_eq_getElem?_getD, List.getElem?_eq_getElem hk]; exact ek] at this
      simpa using this
    · have hqr : q ∈ lvs r := List.mem_flatMap.2 ⟨t, ht, hq⟩
      rw [hd.out_ (sb q.1) (fun p hp e2 => ?_)]
      · exact h.at_ t (by simp [ht]) q hq
      · have e3 := hinj _ _ (hlt p (by rw [e]; simp at hp ⊢; rcases hp with hp | hp; (· exact .inl hp); (· exact .inr (.inl hp)))) (hlt q (by rw [e]; simp [hqr])) e2
        exact hnd.2.2 p.1 (List.mem_map.2 ⟨p, hp, rfl⟩) q.1 (List.mem_map.2 ⟨q, hqr, rfl⟩) e3
  · rw [hd.out_ b' (fun p hp => hb' p.1 (hlt p (by rw [e]; simp at hp ⊢; rcases hp with hp | hp; (· exact .inl hp); (· exact .inr (.inl hp)))))]
    exact h.else_ b' hb'

/-- The lengths that the document's tree tells. -/
theorem OI.lens {cs out : List Int} {t : NT} {n : Nat} (hn : (st cs cs.length).length = n) (hn1 : 1 ≤ n) (hlast : lastSt cs + 1 = cs.length) (hlen : out.length = cs.length)
    (h : OI (fun i => (st cs cs.length).getD i 0) n [t] out) (ht : treeOf (cw (wt cs cs.length)) n = t.ls) : out = Go.Proofs.Ytcmnhgefeffcpaa.lens cs (deps (wt cs cs.length)) := by
  have hwl : (wt cs cs.length).length = n := by rw [wt_length, hn]
  have hpos : ∀ i, i < n → 0 < cw (wt cs cs.length) i := fun i hi => by
    have : 0 < (wt cs cs.length).getD i 0 := by
      have h0 : i < (st cs cs.length).length := by rw [hn]; exact hi
      have e : (wt cs cs.length).getD i 0 = cs.getD ((st cs cs.length).getD i 0) 0 := by simp [wt, List.getD_eq_getElem?_getD, h0]
      rw [e]; exact (rk_st cs h0).2.2
    simp only [cw]; omega
  have hst : stand (cw (wt cs cs.length)) n = List.range n := stand_all _ _ hpos
  have hby := treeOf_bytes (cw (wt cs cs.length)) n (by rw [hst]; simpa using hn1)
  rw [hst] at hby
  have hnd : ((treeOf (cw (wt cs cs.length)) n).map (·.1)).Nodup := (hby.trans (sortB_perm _ _)).nodup_iff.2 List.nodup_range
  refine List.ext_getElem (by rw [lensTo_length, hlen, hlast]) (fun b h1 h2 => ?_)
  have g1 : out.getD b 0 = out[b] := by simp [List.getD_eq_getElem?_getD, h1]
  have g2 : (Go.Proofs.Ytcmnhgefeffcpaa.lens cs (deps (wt cs cs.length))).getD b 0 = (Go.Proofs.Ytcmnhgefeffcpaa.lens cs (deps (wt cs cs.length)))[b] := by simp [List.getD_eq_getElem?_getD, h2]
  rw [← g1, ← g2, lensTo_getD cs _ _ b (by omega)]
  by_cases hb : 0 < cs.getD b 0
  · obtain ⟨r1, r2⟩ := st_get cs (b := b) (k := cs.length) (by omega) hb
    rw [if_pos ⟨hb, r1⟩]
    have hrn : rk cs b < n := by rw [← hn]; exact r1
    have hmem : rk cs b ∈ (treeOf (cw (wt cs cs.length)) n).map (·.1) := (hby.trans (sortB_perm _ _)).mem_iff.2 (by simpa using hrn)
    obtain ⟨q, hq, eq⟩ := List.mem_map.1 hmem
    have hd := depthOf_mem hnd hq
    have ho := h.at_ t (by simp) q (by rw [← ht]; exact hq)
    rw [eq] at ho hd
    rw [r2] at ho
    rw [ho, deps_getD _ _ (by rw [hwl]; exact hrn), hwl, hd]
  · rw [if_neg (fun h2 => hb h2.1)]
    refine h.else_ b (fun i hi e => hb ?_)
    have := (rk_st cs (k := cs.length) (i := i) (by rw [hn]; exact hi)).2.2
    rw [e] at this
    exact this
end Go.Proofs.Ytcmnhgefeffcpaa
