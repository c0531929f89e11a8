/-
  The document's tree, walked.
-/
import Derived.Test.YtcmnhgefeffcpaaHTreeP
namespace Go.Proofs.Ytcmnhgefeffcpaa
open Go.RowKit Pl Hf
set_option linter.unusedVariables false

/-- Things as they lie. -/
def encG (M : List (NT × Value)) : List Tg := M.map fun p => ((p.1.w : Int), (p.1.num : Int), p.2)
theorem encG_len (M : List (NT × Value)) : (encG M).length = M.length := by simp [encG]
theorem encG_snoc (M : List (NT × Value)) (t : NT) (bv : Value) : encG (M ++ [(t, bv)]) = encG M ++ [((t.w : Int), (t.num : Int), bv)] := by simp [encG]
/-- A row of things, each with its bytes. -/
structure TL (w : World) (go : Nat) (v : Value) (sb : Nat → Nat) (M : List (NT × Value)) : Prop where
  own : OwnsG w v (encG M)
  by_ : ∀ p ∈ M, Owns .i64 3 w p.2 (p.1.ls.map fun q => (sb q.1 : Int))
  gt : ∀ p ∈ M, ∀ k, p.2.ownBlock = some k → go < k
  sl : ∀ p ∈ M, ∃ a l c, p.2 = .slice a l c
theorem TL.below {w w' : World} {go : Nat} {v : Value} {sb : Nat → Nat} {M : List (NT × Value)} (h : TL w go v sb M) (hb : Below w.heap.size w w') : TL w' go v sb M :=
  ⟨h.own.below hb, fun p hp => (h.by_ p hp).below hb, h.gt, h.sl⟩
theorem TL.out {w w' : World} {go : Nat} {v : Value} {sb : Nat → Nat} {M : List (NT × Value)} {n cap : Nat} {o : List Int} (h : TL w go v sb M) (ho : Owns .i64 3 w (.slice (some ⟨go, 0, none⟩) n cap) o) (ht : Tch (fun k => k = go) w w') : TL w' go v sb M :=
  ⟨h.own.tch ht (fun j hj e => h.own.ne_ints ho hj (by subst e; rfl)), fun p hp => (h.by_ p hp).tch ht (fun j hj e => by have := h.gt p hp j hj; omega), h.gt, h.sl⟩
theorem TL.sls {w : World} {go : Nat} {v : Value} {sb : Nat → Nat} {M : List (NT × Value)} (h : TL w go v sb M) : Sls (encG M) := fun i hi => by
  rw [encG_len] at hi
  have e : (encG M).getD i tg0 = (((M[i]).1.w : Int), ((M[i]).1.num : Int), (M[i]).2) := by simp [encG, List.getD_eq_getElem?_getD, hi]
  rw [e]
  exact h.sl _ (List.getElem_mem hi)
/-- One more thing. -/
theorem TL.push {w w' : World} {go : Nat} {v v' : Value} {sb : Nat → Nat} {M : List (NT × Value)} (h : TL w go v sb M) (t : NT) (bv : Value) (hbv : Owns .i64 3 w bv (t.ls.map fun q => (sb q.1 : Int))) (hgt : ∀ k, bv.ownBlock = some k → go < k) (hsl : ∃ a l c, bv = .slice a l c)
    (ho : OwnsG w' v' (encG M ++ [((t.w : Int), (t.num : Int), bv)])) (hg : Grew w w' v v') : TL w' go v' sb (M ++ [(t, bv)]) := by
  have hk : ∀ {u : Value} {xs : List Int}, Owns .i64 3 w u xs → Owns .i64 3 w' u xs := fun hu => hu.tch hg.tch (fun j hj e => h.own.ne_ints hu e hj)
  refine ⟨by rw [encG_snoc]; exact ho, fun p hp => ?_, fun p hp => ?_, fun p hp => ?_⟩
  · rcases List.mem_append.1 hp with hp | hp
    · exact hk (h.by_ p hp)
    · simp at hp; subst hp; exact hk hbv
  · rcases List.mem_append.1 hp with hp | hp
    · exact h.gt p hp
    · simp at hp; subst hp; exact hgt
  · rcases List.mem_append.1 hp with hp | hp
    · exact h.sl p hp
    · simp at hp; subst hp; exact hsl
/-- A row of numbers stays where a thing is added. -/
theorem TL.keeps {w w' : World} {go : Nat} {v v' : Value} {sb : Nat → Nat} {M : List (NT × Value)} (h : TL w go v sb M) (hg : Grew w w' v v') {u : Value} {xs : List Int} (hu : Owns .i64 3 w u xs) : Owns .i64 3 w' u xs :=
  hu.tch hg.tch (fun j hj e => h.own.ne_ints hu e hj)

theorem len2 {α : Type} {l : List α} (h : 2 ≤ l.length) : ∃ a b r, l = a :: b :: r := by
  match l, h with
  | a :: b :: r, _ => exact ⟨a, b, r, rfl⟩
/-- No thing. -/
def nt0 : NT × Value := (⟨0, 0, []⟩, .slice none 0 0)
theorem encG_wo (M : List (NT × Value)) (i k : Nat) : wo tg0 (encG M) i k = encG (wo nt0 M i k) := by
  unfold encG
  rw [wo_map]
  rfl
theorem encG_get (M : List (NT × Value)) (i : Nat) : (encG M).getD i tg0 = (((M.getD i nt0).1.w : Int), ((M.getD i nt0).1.num : Int), (M.getD i nt0).2) := by
  unfold encG
  rw [List.getD_eq_getElem?_getD, List.getElem?_map, List.getD_eq_getElem?_getD]
  cases M[i]? <;> rfl
/-- The least thing is found. -/
theorem TL.pick {w : World} {go : Nat} {v : Value} {sb : Nat → Nat} {M : List (NT × Value)} (h : TL w go v sb M) {a : NT} {r : List NT} (hp : (M.map (·.1)).Perm (a :: r)) (hlex : Lex (a :: r)) (hnd : ((a :: r).map (·.num)).Nodup) (hl : M.length ≤ 256) :
    ∃ g lc ia bv, v = .slice (some ⟨g, 0, none⟩) M.length lc ∧ M.length ≤ lc ∧ lc ≤ maxLen ∧ g < w.heap.size ∧ ia < M.length ∧ M.getD ia nt0 = (a, bv) ∧ (w.cell? ⟨g, ia * 3, none⟩ = some (.int .i64 (a.w : Int)) ∧ w.cell? ⟨g, ia * 3 + 1, none⟩ = some (.int .i64 (a.num : Int)) ∧ w.cell? ⟨g, ia * 3 + 2, none⟩ = some bv) ∧
      Owns .i64 3 w bv (a.ls.map fun q => (sb q.1 : Int)) ∧ (∀ k, bv.ownBlock = some k → go < k) ∧ (∃ x l c, bv = .slice x l c) ∧ ((wo nt0 M ia M.length).map (·.1)).Perm r ∧ (wo nt0 M ia M.length).length + 1 = M.length ∧ (∀ p ∈ wo nt0 M ia M.length, p ∈ M) ∧
      Calls Try.prog 41 #[v] w fun e w' => e = .returned (.int .i64 (ia : Int)) ∧ Tch (fun _ => False) w w' := by
  have hM : M.length = r.length + 1 := by have := hp.length_eq; simpa using this
  obtain ⟨g, lc, hv, hgl, hlc, hcm, hcell⟩ := h.own.shape (by rw [encG_len]; omega)
  rw [encG_len] at hv hlc hcell
  obtain ⟨ps, hps⟩ : ∃ ps : List (Int × Int), ps = M.map fun p => key p.1 := ⟨_, rfl⟩
  have hpl : ps.length = M.length := by rw [hps]; simp
  have hG : ∀ i, i < M.length → G ps i = key (M.getD i nt0).1 := fun i hi => by
    rw [hps]
    simp [G, List.getD_eq_getElem?_getD, hi]
  obtain ⟨ia, hia⟩ : ∃ ia, lst ps (M.length - 1) = ia := ⟨_, rfl⟩
  have hil : ia < M.length := by have := lst_le ps (M.length - 1); omega
  have hmin := lst_least ps (M.length - 1)
  rw [hia] at hmin
  have hget : ∀ i, i < M.length → (M.map (·.1)).getD i nt0.1 = (M.getD i nt0).1 := fun i hi => by simp [List.getD_eq_getElem?_getD, hi]
  have ha := least_head hp hlex hnd nt0.1 ia (by simpa using hil) (fun j hj => by
    rw [List.length_map] at hj
    have := hmin j (by omega)
    rw [hG ia hil, hG j hj] at this
    rw [hget ia hil, hget j hj]
    exact this)
  rw [hget ia hil] at ha
  have hmem : M.getD ia nt0 ∈ M := by rw [List.getD_eq_getElem?_getD, List.getElem?_eq_getElem hil]; exact List.getElem_mem hil
  have hca := hcell ia hil
  rw [encG_get, ha] at hca
  have hwp := wo_all nt0 M ia hil
  have hcl : Calls Try.prog 41 #[v] w fun e w' => e = .returned (.int .i64 (ia : Int)) ∧ Tch (fun _ => False) w w' := by
    have h1 := least_any g 0 lc ps w (by omega) (by omega) (fun i hi => by
      rw [hpl] at hi
      have := hcell i hi
      rw [encG_get] at this
      rw [hG i hi, Nat.zero_add]
      exact ⟨this.1, this.2.1⟩)
    rw [hpl, hia] at h1
    rw [hv]
    exact h1
  refine ⟨g, lc, ia, (M.getD ia nt0).2, hv, hlc, hcm, hgl, hil, by rw [← ha], hca, ?_, h.gt _ hmem, h.sl _ hmem, ?_, ?_, fun p hp => hwp.mem_iff.2 (by simp [hp]), hcl⟩
  · have := h.by_ _ hmem
    rw [ha] at this
    exact this
  · have h1 := (hwp.map (·.1)).symm.trans hp
    rw [List.map_cons, ha] at h1
    exact (List.perm_cons a).1 h1
  · have := hwp.length_eq
    simp at this
    omega

/-- What is asked of the counts, and what follows. -/
structure Own1 (cs : List Int) : Prop where
  one : 1 ≤ cs.length
  most : cs.length ≤ 256
  each : ∀ i, 0 ≤ cs.getD i 0 ∧ cs.getD i 0 ≤ 4294967296
  last : 0 < cs.getD (cs.length - 1) 0
theorem Own1.st {cs : List Int} (h : Own1 cs) : st cs cs.length = st cs (cs.length - 1) ++ [cs.length - 1] := by
  have := st_succ cs (cs.length - 1)
  rw [if_pos h.last, show cs.length - 1 + 1 = cs.length by have := h.one; omega] at this
  exact this
theorem Own1.lastSt {cs : List Int} (h : Own1 cs) : lastSt cs + 1 = cs.length := by
  have := h.one
  unfold Go.Proofs.Ytcmnhgefeffcpaa.lastSt
  rw [h.st]
  simp [List.getD_eq_getElem?_getD]
  omega
theorem Own1.pos {cs : List Int} (h : Own1 cs) : 1 ≤ (Go.Proofs.Ytcmnhgefeffcpaa.st cs cs.length).length := by rw [h.st]; simp
/-- The depths that the document's tree has. -/
def dpS (cs : List Int) : List Int := if (st cs cs.length).length = 1 then [1] else deps (wt cs cs.length)
/-- What the document's tree answers. -/
def TPostH (cs : List Int) (w : World) (e : Ending) (w' : World) : Prop :=
  ∃ ov m, e = .returned (.tuple #[ov, .int .i64 m]) ∧ Owns .i64 3 w' ov (lens cs (dpS cs)) ∧ (m ≤ 11 ↔ ∀ b, (lens cs (dpS cs)).getD b 0 ≤ 11) ∧ (∀ k, ov.ownBlock = some k → w.heap.size ≤ k) ∧ Below w.heap.size w w'

set_option maxRecDepth 100000 in
set_option maxHeartbeats 4000000 in
theorem refTree_any (v : Value) (cs : List Int) (w : World) (hr : Rd .i64 w v cs) (hk : Own1 cs) :
    Calls Try.prog 17 #[v] w fun e w' => TPostH cs w e w' := by
  obtain ⟨a, cap, hv, hlc, hcm, _, hcc⟩ := id hr
  subst hv
  obtain ⟨cb, co, ha, hcl⟩ : ∃ b o, a = some ⟨b, o, none⟩ ∧ ∀ i, i < cs.length → w.cell? ⟨b, o + i, none⟩ = some (.int .i64 (cs.getD i 0)) := by
    rcases hcc with h | h
    · have := hk.one; rw [h] at this; simp at this
    · exact h
  subst ha
  have HC : Hid (∀ i, i < cs.length → w.cell? ⟨cb, co + i, none⟩ = some (.int .i64 (cs.getD i 0))) := hcl
  have HCL : Hid (cb < w.heap.size) := World.block_lt_of_cell? w ⟨cb, co + 0, none⟩ (hcl 0 hk.one)
  have HK : Hid (Own1 cs) := hk
  have hl1 := hk.one
  have hl2 := hk.most
  have hcm2 : cap ≤ 9223372036854775807 := by unfold maxLen at hcm; omega
  obtain ⟨n, hn⟩ : ∃ n, (st cs cs.length).length = n := ⟨_, rfl⟩
  have hn1 : 1 ≤ n := by rw [← hn]; exact hk.pos
  have hn2 : n ≤ 256 := by rw [← hn]; exact Nat.le_trans (st_le _ _) hk.most
  have HN : Hid ((st cs cs.length).length = n) := hn
  obtain ⟨sb, hsb⟩ : ∃ sb : Nat → Nat, Hid ((fun i => (st cs cs.length).getD i 0) = sb) := ⟨_, rfl⟩
  have HSB : Hid (∀ i, i < n → sb i < cs.length ∧ rk cs (sb i) = i ∧ 0 < cs.getD (sb i) 0) := fun i hi => by
    have := rk_st cs (k := cs.length) (i := i) (by rw [hn]; exact hi)
    rw [← hsb.out]
    exact ⟨this.2.1, this.1, this.2.2⟩
  obtain ⟨c, hc⟩ : ∃ c : Nat → Nat, Hid (cw (wt cs cs.length) = c) := ⟨_, rfl⟩
  have HCW : Hid (∀ i, i < n → (c i : Int) = cs.getD (sb i) 0) := fun i hi => by
    have h0 : i < (st cs cs.length).length := by rw [hn]; exact hi
    have e : (wt cs cs.length).getD i 0 = cs.getD ((st cs cs.length).getD i 0) 0 := by simp [wt, List.getD_eq_getElem?_getD, h0]
    have h1 := (HSB.out i hi).2.2
    rw [← hc.out, ← hsb.out]
    rw [← hsb.out] at h1
    show (((wt cs cs.length).getD i 0).toNat : Int) = _
    rw [e]
    simp only at h1 ⊢
    omega
  obtain ⟨j0, hj, hy0, hy1, hy2⟩ := elem64.info
  clear hcc hcl hk hcm hr hn
  go_enter Try.func17, Try.ntmps17
  go_wp2_with (at_make; refine wpList_make_full _ rfl (.tmp 17) (.tmp 17) 22 rfl 0 3 j0 _ 1 Try.underlying22 hj hy0 hy1 .i64 .i64 _ _ cs.length rfl rfl rfl rfl (by rw [hy2]; omega) (by unfold maxLen; omega) (Nat.zero_le _) ?_)
  intro w2 ho2 hg2
  have b2 : Below w.heap.size w w2 := (Below.refl _ _).grown hg2 (Nat.le_refl _) (fun k e => by cases e)
  obtain ⟨go, hgo⟩ : ∃ go, w.heap.size = go := ⟨_, rfl⟩
  have O2 : Hid (Owns .i64 3 w2 (.slice (some ⟨go, 0, none⟩) cs.length cs.length) (List.replicate cs.length 0)) := by
    show w2.ownsRow _ _ _ _ _ _
    rw [toList_madeCells_one, hgo] at ho2
    simp only [List.length_replicate, List.map_replicate]
    exact ho2
  have B2 : Hid (Below w.heap.size w w2) := b2
  rw [hgo]
  clear ho2 hg2 b2 hj hy0 hy1 hy2
  go_wp2_with fail
  go_loopw [5, 6] (fun l i wr => ∃ (k : Nat) (M : List (NT × Value)) (l0 : Value), k ≤ cs.length ∧ i = .int .i64 k ∧ l0 = l ∧ Hid (M.map (·.1) = L1 c (rk cs k)) ∧ Hid (TL wr go l0 sb M) ∧ Hid (Owns .i64 3 wr (.slice (some ⟨go, 0, none⟩) cs.length cs.length) (List.replicate cs.length 0)) ∧ Hid (∀ j, l0.ownBlock = some j → w.heap.size ≤ j) ∧ Hid (Below w.heap.size w wr)) (fun _ i _ => cs.length - (intOf i).toNat)
  case atStart => exact ⟨0, [], _, Nat.zero_le _, rfl, rfl, rfl, ⟨ownsG_nil _, (fun p hp => by cases hp), (fun p hp => by cases hp), (fun p hp => by cases hp)⟩, O2, (fun j e => by cases e), B2⟩
  case round =>
    clear O2 B2
    obtain ⟨k, M, l0, hk, rfl, rfl, HM, HT, OO, HNL, BW⟩ := hrel
    by_cases hlt : k < cs.length
    · have hi1 : (k : Int) < (cs.length : Int) := by omega
      have cx : wr.cell? ⟨cb, co + k, none⟩ = some (.int .i64 (cs.getD k 0)) := by rw [BW.out.cell (p := ⟨cb, co + k, none⟩) HCL.out]; exact HC.out k hlt
      have HML : Hid (M.length = rk cs k) := by show _ = _; have := congrArg List.length HM.out; simpa [L1] using this
      obtain ⟨la, lc, hlv, hlc2, hlm2⟩ := HT.out.own.len
      rw [encG_len, HML.out] at hlv hlc2
      subst hlv
      have hlm3 : lc ≤ 9223372036854775807 := by unfold maxLen at hlm2; omega
      by_cases hx : 0 < cs.getD k 0
      · obtain ⟨hr1, hr2⟩ := st_get cs (b := k) (k := cs.length) hlt hx
        rw [HN.out] at hr1
        have hsr : sb (rk cs k) = k := by rw [← hsb.out]; exact hr2
        have hcr := HCW.out _ hr1
        rw [hsr] at hcr
        have hrs : rk cs (k + 1) = rk cs k + 1 := by
          have := st_succ cs k
          rw [if_pos hx] at this
          unfold rk
          rw [this]; simp
        have HL1 : Hid (L1 c (rk cs (k + 1)) = L1 c (rk cs k) ++ [⟨c (rk cs k), rk cs k, [(rk cs k, 0)]⟩]) := by
          show _ = _
          rw [hrs]; unfold L1; rw [List.range_succ, List.map_append]; rfl
        have hxb := (HK.out.each k).2
        rw [← hcr] at cx hx hxb
        obtain ⟨r, hr⟩ : ∃ r, rk cs k = r := ⟨_, rfl⟩
        rw [hr] at HM HML HL1 hsr hr1 hcr hlc2 cx hx hxb HT HNL ⊢
        obtain ⟨X, hX⟩ : ∃ X, c r = X := ⟨_, rfl⟩
        rw [hX] at HL1 cx hx hxb
        have hX1 : (0 : Int) < (X : Int) := hx
        have hX0 : 0 < X := by omega
        have b1 : Below wr.heap.size wr (wr.alloc (.cells #[.int .i64 (k : Int)] 3)) := (Below.refl _ _).alloc (Nat.le_refl _) _
        have T1 : Hid (TL (wr.alloc (.cells #[.int .i64 (k : Int)] 3)) go (.slice la r lc) sb M) := HT.out.below b1
        have OB : Hid (Owns .i64 3 (wr.alloc (.cells #[.int .i64 (k : Int)] 3)) (.slice (some ⟨wr.heap.size, 0, none⟩) 1 1) [(k : Int)]) := owns_one wr (k : Int)
        have OW : Hid (Owns .i64 3 (wr.alloc (.cells #[.int .i64 (k : Int)] 3)) (.slice (some ⟨go, 0, none⟩) cs.length cs.length) (List.replicate cs.length 0)) := OO.out.below b1
        have BW1 : Hid (Below w.heap.size w (wr.alloc (.cells #[.int .i64 (k : Int)] 3))) := BW.out.trans (b1.mono BW.out.size)
        have HGT : Hid (go < wr.heap.size) := by have := OO.out.lt go rfl; exact this
        have HSR : Hid (sb r = k) := hsr
        have HMM : Hid ((encG M).length ≤ 256) := by show _ ≤ _; rw [encG_len, HML.out]; omega
        have HW1 : Hid ((wr.alloc (.cells #[.int .i64 (k : Int)] 3)).heap.size = wr.heap.size + 1) := by show _ = _; simp
        clear hr hX hcr hsr hrs b1 hr2 HT OO
        go_wp2_with (at_builtin; refine wpList_pushG (wr.alloc (.cells #[.int .i64 (k : Int)] 3)) rfl (.tmp 30) (.tmp 40) rfl (.slice la r lc) (encG M) rfl T1.out.own (X : Int) (r : Int) (.slice (some ⟨wr.heap.size, 0, none⟩) 1 1) ⟨_, _, _, rfl⟩ ?h1 ?h2 ?_; (case h1 => rw [HW1.out]; rfl); (case h2 => have := HMM.out; omega))
        intro l2 w3 ho3 hg3
        have TT : Hid (TL w3 go l2 sb (M ++ [(⟨X, r, [(r, 0)]⟩, .slice (some ⟨wr.heap.size, 0, none⟩) 1 1)])) := T1.out.push ⟨X, r, [(r, 0)]⟩ _ (by show Owns _ _ _ _ [(sb r : Int)]; rw [HSR.out]; exact OB.out) (fun k hk => by simp [Value.ownBlock] at hk; rw [← hk]; exact HGT.out) ⟨_, _, _, rfl⟩ ho3 hg3
        have OO3 : Hid (Owns .i64 3 w3 (.slice (some ⟨go, 0, none⟩) cs.length cs.length) (List.replicate cs.length 0)) := T1.out.keeps hg3 OW.out
        have h3 := hg3.onto BW1.out HNL.out
        have B3 : Hid (Below w.heap.size w w3) := h3.1
        have N3 : Hid (∀ j, l2.ownBlock = some j → w.heap.size ≤ j) := h3.2
        have HM3 : Hid ((M ++ [((⟨X, r, [(r, 0)]⟩ : NT), (.slice (some ⟨wr.heap.size, 0, none⟩) 1 1 : Value))]).map (·.1) = L1 c (rk cs (k + 1))) := by show _ = _; rw [List.map_append, HM.out, HL1.out]; rfl
        clear ho3 hg3 h3 T1 OB OW BW1 HNL cx
        go_wp2_with fail
        go_roundw
        case rel => exact ⟨k + 1, _, _, by omega, by go_num, rfl, HM3, TT, OO3, N3, B3⟩
        case measure => simp [intOf]; omega
      · have hx1 : ¬ (0 : Int) < cs.getD k 0 := hx
        have hrs : rk cs (k + 1) = rk cs k := by
          have := st_succ cs k
          rw [if_neg hx] at this
          unfold rk
          rw [this]
        have HM3 : Hid (M.map (·.1) = L1 c (rk cs (k + 1))) := by rw [hrs]; exact HM
        generalize cs.getD k 0 = x at *
        clear hrs hx
        go_wp2_with fail
        first
          | exact ⟨⟨k + 1, M, _, by omega, by go_num, rfl, HM3, HT, OO, HNL, BW⟩, by simp [intOf]; omega⟩
          | (go_roundw
             case rel => exact ⟨k + 1, M, _, by omega, by go_num, rfl, HM3, HT, OO, HNL, BW⟩
             case measure => simp [intOf]; omega)
    · have hk0 : k = cs.length := by omega
      have hkn : ¬ (k : Int) < (cs.length : Int) := by omega
      rw [hk0] at HM
      have HM2 : Hid (M.map (·.1) = L1 c n) := by have h := HM.out; rw [show rk cs cs.length = n from HN.out] at h; exact h
      have HML : Hid (M.length = n) := by show _ = _; have := congrArg List.length HM2.out; simpa [L1] using this
      obtain ⟨la, lc, hlv, hlc2, hlm2⟩ := HT.out.own.len
      rw [encG_len, HML.out] at hlv hlc2
      subst hlv
      have hlm3 : lc ≤ 9223372036854775807 := by unfold maxLen at hlm2; omega
      clear hk hlt hk0 HM
      by_cases hn0 : n = 1
      · obtain ⟨p0, hM1⟩ : ∃ p0, M = [p0] := by
          have := HML.out
          rw [hn0] at this
          match M, this with
          | [p0], _ => exact ⟨p0, rfl⟩
        subst hM1
        have hp0 : p0.1 = ⟨c 0, 0, [(0, 0)]⟩ := by have := HM2.out; rw [hn0] at this; simpa [L1] using this
        obtain ⟨gl, lc', hv', hgl', _, _, hcell'⟩ := HT.out.own.shape (by rw [encG_len]; simp)
        have hc2 := (hcell' 0 (by rw [encG_len]; simp)).2.2
        rw [encG_get] at hc2
        have hob := HT.out.by_ p0 (by simp)
        rw [hp0] at hob
        obtain ⟨gb, cpb, hvb, hgbl, hcpb, hcmb, hcb, _⟩ := hob.shape (by simp)
        have hcb0 := hcb 0 (by simp)
        simp only [List.map_cons, List.map_nil, List.length_cons, List.length_nil] at hvb hcpb
        have c2 : wr.cell? ⟨gl, 2, none⟩ = some (.slice (some ⟨gb, 0, none⟩) 1 cpb) := by rw [← hvb]; exact hc2
        have c3 : wr.cell? ⟨gb, 0, none⟩ = some (.int .i64 (sb 0 : Int)) := hcb0
        have hs0 := (HSB.out 0 (by omega)).1
        obtain ⟨go', cpo', hvo', _, _, _, hcello, hfzo⟩ := OO.out.shape (by simp; omega)
        simp only [Value.slice.injEq, Option.some.injEq, Addr.mk.injEq] at hvo'
        obtain ⟨⟨rfl, _⟩, hxx1, hxx2⟩ := hvo'
        have co_ := hcello (sb 0) (by simp; exact hs0)
        have fo_ := hfzo (sb 0)
        have hgn : (List.replicate cs.length (0 : Int)).getD (sb 0) 0 = 0 := getD_rep _ _
        rw [hgn] at co_
        have HD1 : Hid (lens cs (dpS cs) = (List.replicate cs.length (0 : Int)).set (sb 0) 1) := by
          show _ = _
          have hst1 : (st cs cs.length).length = 1 := by rw [HN.out]; exact hn0
          have hd : dpS cs = [1] := by unfold dpS; rw [if_pos hst1]
          have h1 := lensTo_succ cs [1] 0 (by rw [hst1]; decide)
          rw [lensTo_zero, HK.out.lastSt] at h1
          rw [hd]
          unfold lens
          rw [hst1, h1, ← hsb.out]
          rfl
        have O3 : Hid (Owns .i64 3 (wr.setCell ⟨go, sb 0, none⟩ (.int .i64 1)) (.slice (some ⟨go, 0, none⟩) cs.length cs.length) (lens cs (dpS cs))) := by rw [HD1.out]; exact OO.out.set (sb 0) 1
        have B3 : Hid (Below w.heap.size w (wr.setCell ⟨go, sb 0, none⟩ (.int .i64 1))) := BW.out.trans ((Tch.setCell (Tch.refl (fun j => j = go) wr) (p := ⟨go, sb 0, none⟩) (fun _ => rfl) _).below BW.out.size (fun j e => by rw [e]; omega))
        have H11 : Hid (∀ b, (lens cs (dpS cs)).getD b 0 ≤ 11) := fun b => by
          rw [HD1.out, getD_set]
          split
          · omega
          · rw [getD_rep]; omega
        have hl1' : la = some ⟨gl, 0, none⟩ ∧ 1 ≤ lc := by
          rw [encG_len] at hv'
          simp only [Value.slice.injEq] at hv'
          exact ⟨hv'.1, by omega⟩
        obtain ⟨rfl, hlc3⟩ := hl1'
        obtain ⟨S0, hS0⟩ : ∃ S0, sb 0 = S0 := ⟨_, rfl⟩
        rw [hS0] at c3 hs0 co_ fo_ O3 B3
        have hi0 : (S0 : Int) < (cs.length : Int) := by omega
        have hz1 : ((n : Int) == 1) = true := by rw [beq_iff_eq]; omega
        have HGO : Hid (w.heap.size ≤ go) := by show _ ≤ _; omega
        subst hn0
        clear hxx1 hxx2 hgn hcell' hc2 hob hcb hcb0 hcello hfzo hvb hv' hp0 HM2 HML HT OO hS0 HNL
        go_wp2_with fail
        go_ret2
        exact ⟨_, 1, rfl, O3.out, ⟨fun _ => H11.out, fun _ => by decide⟩, fun j hj => by simp [Value.ownBlock] at hj; rw [← hj]; exact HGO.out, B3.out⟩
      · have hn3 : 2 ≤ n := by omega
        have hz1 : ((n : Int) == 1) = false := by rw [beq_eq_false_iff_ne]; omega
        have hpos : ∀ i, i < n → 0 < c i := fun i hi => by have h1 := HCW.out i hi; have h2 := (HSB.out i hi).2.2; omega
        obtain ⟨S, hS⟩ : ∃ S, ((List.range n).map c).sum = S := ⟨_, rfl⟩
        have hSb : S ≤ 1099511627776 := by
          rw [← hS]
          have : ∀ m, m ≤ n → ((List.range m).map c).sum ≤ m * 4294967296 := by
            intro m
            induction m with
            | zero => intro _; simp
            | succ m ih =>
              intro hm
              rw [List.range_succ, List.map_append, List.sum_append]
              have h1 := ih (by omega)
              have h2 := HCW.out m (by omega)
              have h3 := (HK.out.each (sb m)).2
              simp
              omega
          have := this n (Nat.le_refl _)
          omega
        have HJ0 : Hid (JT n n (L0 c n) (treeOf c n) S n) := by rw [← hS]; exact JT.start c n hpos
        have HP0 : Hid ((M.map (·.1)).Perm (L0 c n)) := by rw [HM2.out]; exact L1_perm c n
        have HO0 : Hid (OI sb n (L0 c n) (List.replicate cs.length 0)) := ⟨fun t ht q hq => by
            rw [getD_rep]
            obtain ⟨_, h2, _⟩ := L0_facts c n
            rw [(h2 t ht).2] at hq
            simp at hq
            subst hq
            rfl, fun b _ => getD_rep _ _⟩
        have HINJ : Hid (∀ i k, i < n → k < n → sb i = sb k → i = k) := fun i k hi hk e => by
          have h1 := (HSB.out i hi).2.1
          have h2 := (HSB.out k hk).2.1
          rw [e] at h1
          omega
        have HSBL : Hid (∀ i, i < n → sb i < cs.length) := fun i hi => (HSB.out i hi).1
        clear hS hpos
        go_wp2_with fail
        go_loopw [5, 7] (fun l nx wr => ∃ (M : List (NT × Value)) (L : List NT) (N f : Nat) (o : List Int) (l0 : Value), l0 = l ∧ nx = .int .i64 N ∧ 1 ≤ M.length ∧ n ≤ N ∧ N + M.length = 2 * n ∧ Hid ((M.map (·.1)).Perm L) ∧ Hid (JT N n L (treeOf c n) S f) ∧ Hid (OI sb n L o) ∧ Hid (o.length = cs.length) ∧ Hid (TL wr go l0 sb M) ∧ Hid (Owns .i64 3 wr (.slice (some ⟨go, 0, none⟩) cs.length cs.length) o) ∧ Hid (∀ j, l0.ownBlock = some j → w.heap.size ≤ j) ∧ Hid (Below w.heap.size w wr)) (fun l _ _ => match l with | .slice _ n _ => n | _ => 0)
        case atStart => exact ⟨M, L0 c n, n, n, List.replicate cs.length 0, _, rfl, rfl, by rw [HML.out]; omega, Nat.le_refl _, by rw [HML.out]; omega, HP0, HJ0, HO0, (List.length_replicate : (List.replicate cs.length (0 : Int)).length = cs.length), HT, OO, HNL, BW⟩
        case round =>
          clear HP0 HJ0 HO0 HT OO HNL BW HML HM2 hlc2 hlm2 hlm3
          obtain ⟨M, L, N, f, o, l0, rfl, rfl, hM1, hnN, hNM, HP, HJ, HO, HOL, HT, OO, HNL, BW⟩ := hrel
          by_cases hM2 : 2 ≤ M.length
          · obtain ⟨a, b, r, hL⟩ := len2 (l := L) (by have := HP.out.length_eq; rw [List.length_map] at this; omega)
            subst hL
            obtain ⟨PP, hJS⟩ := HJ.out.js
            have hlex := hJS.lex
            have hndA := hJS.nd
            have hlexB : Lex (b :: r) := by unfold Lex at hlex ⊢; rw [List.pairwise_cons] at hlex; exact hlex.2
            have hndB : ((b :: r).map (·.num)).Nodup := by rw [List.map_cons, List.nodup_cons] at hndA; exact hndA.2
            have hsum := hJS.sum
            simp only [List.map_cons, List.sum_cons] at hsum
            have hfu := hJS.fuel
            simp only [List.length_cons] at hfu
            obtain ⟨f', hf'⟩ : ∃ f', f = f' + 1 := ⟨f - 1, by omega⟩
            subst hf'
            obtain ⟨g, lc1, ia, bva, hv, hlc1, hcm1, hgl, hia, hgA, ⟨ca0, ca1, ca2⟩, hoA, hgtA, hslA, hpA, hlA, hmA, hcallA⟩ := HT.out.pick HP.out hlex hndA (by omega)
            subst hv
            obtain ⟨xa, xl, xc, hbva⟩ := hslA
            subst hbva
            have HCA : Hid (Calls Try.prog 41 #[.slice (some ⟨g, 0, none⟩) M.length lc1] wr fun e w' => e = .returned (.int .i64 (ia : Int)) ∧ Tch (fun _ => False) wr w') := hcallA
            have HOA : Hid (Owns .i64 3 wr (.slice xa xl xc) (a.ls.map fun q => (sb q.1 : Int))) := hoA
            have HGTA : Hid (∀ k, (Value.slice xa xl xc).ownBlock = some k → go < k) := hgtA
            have HPA : Hid (((wo nt0 M ia M.length).map (·.1)).Perm (b :: r)) := hpA
            have HMA : Hid (∀ p ∈ wo nt0 M ia M.length, p ∈ M) := hmA
            have HGL : Hid (g < wr.heap.size) := hgl
            have HCC : Hid (wr.cell? ⟨g, ia * 3, none⟩ = some (.int .i64 (a.w : Int)) ∧ wr.cell? ⟨g, ia * 3 + 1, none⟩ = some (.int .i64 (a.num : Int)) ∧ wr.cell? ⟨g, ia * 3 + 2, none⟩ = some (.slice xa xl xc)) := ⟨ca0, ca1, ca2⟩
            have HLXB : Hid (Lex (b :: r) ∧ ((b :: r).map (·.num)).Nodup) := ⟨hlexB, hndB⟩
            have hM3 : (1 : Int) < (M.length : Int) := by omega
            have hia2 : (ia : Int) < (M.length : Int) := by omega
            have hlc2 : lc1 ≤ 9223372036854775807 := by unfold maxLen at hcm1; omega
            have hab : a.w + b.w ≤ 1099511627776 := by omega
            have hN1 : N ≤ 512 := by omega
            clear hJS hlex hndA hlexB hndB hsum hfu hcallA hoA hgtA hpA hmA hgl ca0 ca1 ca2 hcm1
            go_wp2_with fail
            refine HCA.out.mono ?_
            rintro e w3 ⟨rfl, ht3⟩
            have b3 : Below wr.heap.size wr w3 := ht3.below (Nat.le_refl _) (fun k e => e.elim)
            have T3 : Hid (TL w3 go (.slice (some ⟨g, 0, none⟩) M.length lc1) sb M) := HT.out.below b3
            have O3 : Hid (Owns .i64 3 w3 (.slice (some ⟨go, 0, none⟩) cs.length cs.length) o) := OO.out.below b3
            have OA3 : Hid (Owns .i64 3 w3 (.slice xa xl xc) (a.ls.map fun q => (sb q.1 : Int))) := HOA.out.below b3
            have B3 : Hid (Below w.heap.size w w3) := BW.out.trans (b3.mono BW.out.size)
            have ca0 : w3.cell? ⟨g, ia * 3, none⟩ = some (.int .i64 (a.w : Int)) := by rw [b3.cell (p := ⟨g, ia * 3, none⟩) HGL.out]; exact HCC.out.1
            have ca1 : w3.cell? ⟨g, ia * 3 + 1, none⟩ = some (.int .i64 (a.num : Int)) := by rw [b3.cell (p := ⟨g, ia * 3 + 1, none⟩) HGL.out]; exact HCC.out.2.1
            have ca2 : w3.cell? ⟨g, ia * 3 + 2, none⟩ = some (.slice xa xl xc) := by rw [b3.cell (p := ⟨g, ia * 3 + 2, none⟩) HGL.out]; exact HCC.out.2.2
            clear ht3 b3 HCA HT OO HOA BW HGL HCC
            go_wp2_with fail
            obtain ⟨ga, hga⟩ : ∃ ga, w3.heap.size = ga := ⟨_, rfl⟩
            obtain ⟨W1, hW1⟩ : ∃ W1, Hid (w3.alloc (.cells #[.int .i64 (a.w : Int), .int .i64 (a.num : Int), .slice xa xl xc] 80) = W1) := ⟨_, rfl⟩
            have HBA : Hid (W1.heap[ga]? = some (.cells #[.int .i64 (a.w : Int), .int .i64 (a.num : Int), .slice xa xl xc] 80 (0, 0))) := by rw [← hW1.out, ← hga]; exact heap_alloc_new w3 _
            have b1 : Below w3.heap.size w3 W1 := by rw [← hW1.out]; exact (Below.refl _ _).alloc (Nat.le_refl _) _
            have T1 : Hid (TL W1 go (.slice (some ⟨g, 0, none⟩) M.length lc1) sb M) := T3.out.below b1
            have O1 : Hid (Owns .i64 3 W1 (.slice (some ⟨go, 0, none⟩) cs.length cs.length) o) := O3.out.below b1
            have OA1 : Hid (Owns .i64 3 W1 (.slice xa xl xc) (a.ls.map fun q => (sb q.1 : Int))) := OA3.out.below b1
            have BW1 : Hid (Below w.heap.size w W1) := B3.out.trans (b1.mono B3.out.size)
            rw [hW1.out, hga]
            clear hW1 hga b1 T3 O3 OA3 B3 ca0 ca1 ca2
            refine (without_any _ (encG M) ia W1 T1.out.own (by rw [encG_len]; omega) (by rw [encG_len]; omega) T1.out.sls).mono ?_
            rintro e w4 ⟨⟨l1, rfl, ho4, hn4⟩, hb4⟩
            rw [encG_len, encG_wo] at ho4
            obtain ⟨M1, hM1e⟩ : ∃ M1, wo nt0 M ia M.length = M1 := ⟨_, rfl⟩
            rw [hM1e] at ho4 HPA HMA hlA
            have T4 : Hid (TL w4 go l1 sb M1) := ⟨ho4, fun p hp => (T1.out.by_ p (HMA.out p hp)).below hb4, fun p hp => T1.out.gt p (HMA.out p hp), fun p hp => T1.out.sl p (HMA.out p hp)⟩
            have O4 : Hid (Owns .i64 3 w4 (.slice (some ⟨go, 0, none⟩) cs.length cs.length) o) := O1.out.below hb4
            have OA4 : Hid (Owns .i64 3 w4 (.slice xa xl xc) (a.ls.map fun q => (sb q.1 : Int))) := OA1.out.below hb4
            have B4 : Hid (Below w.heap.size w w4) := BW1.out.trans (hb4.mono BW1.out.size)
            have HBA4 : Hid (w4.heap[ga]? = some (.cells #[.int .i64 (a.w : Int), .int .i64 (a.num : Int), .slice xa xl xc] 80 (0, 0))) := by show _ = _; rw [hb4.block ga (Array.getElem?_eq_some_iff.1 HBA.out).1]; exact HBA.out
            obtain ⟨g1, lc4, ib, bvb, hv1, hlc4, hcm4, hgl4, hib, hgB, ⟨cb0, cb1, cb2⟩, hoB, hgtB, hslB, hpB, hlB, hmB, hcallB⟩ := T4.out.pick HPA.out HLXB.out.1 HLXB.out.2 (by omega)
            subst hv1
            obtain ⟨ya, yl, yc, hbvb⟩ := hslB
            subst hbvb
            have HCB : Hid (Calls Try.prog 41 #[.slice (some ⟨g1, 0, none⟩) M1.length lc4] w4 fun e w' => e = .returned (.int .i64 (ib : Int)) ∧ Tch (fun _ => False) w4 w') := hcallB
            have HOB : Hid (Owns .i64 3 w4 (.slice ya yl yc) (b.ls.map fun q => (sb q.1 : Int))) := hoB
            have HGTB : Hid (∀ k, (Value.slice ya yl yc).ownBlock = some k → go < k) := hgtB
            have HPB : Hid (((wo nt0 M1 ib M1.length).map (·.1)).Perm r) := hpB
            have HMB : Hid (∀ p ∈ wo nt0 M1 ib M1.length, p ∈ M1) := hmB
            have HGL4 : Hid (g1 < w4.heap.size) := hgl4
            have HCC4 : Hid (w4.cell? ⟨g1, ib * 3, none⟩ = some (.int .i64 (b.w : Int)) ∧ w4.cell? ⟨g1, ib * 3 + 1, none⟩ = some (.int .i64 (b.num : Int)) ∧ w4.cell? ⟨g1, ib * 3 + 2, none⟩ = some (.slice ya yl yc)) := ⟨cb0, cb1, cb2⟩
            have HNL4 : Hid (∀ j, (Value.slice (some ⟨g1, 0, none⟩) M1.length lc4).ownBlock = some j → W1.heap.size ≤ j) := hn4
            have hib2 : (ib : Int) < (M1.length : Int) := by omega
            have hlc5 : lc4 ≤ 9223372036854775807 := by unfold maxLen at hcm4; omega
            have hM1l : M1.length ≤ 256 := by omega
            clear ho4 hn4 hb4 hM1e T1 O1 OA1 HMA HBA hcallB hoB hgtB hpB hmB hgl4 cb0 cb1 cb2 hcm4
            go_wp2_with fail
            refine HCB.out.mono ?_
            rintro e w5 ⟨rfl, ht5⟩
            have b5 : Below w4.heap.size w4 w5 := ht5.below (Nat.le_refl _) (fun k e => e.elim)
            have T5 : Hid (TL w5 go (.slice (some ⟨g1, 0, none⟩) M1.length lc4) sb M1) := T4.out.below b5
            have O5 : Hid (Owns .i64 3 w5 (.slice (some ⟨go, 0, none⟩) cs.length cs.length) o) := O4.out.below b5
            have OA5 : Hid (Owns .i64 3 w5 (.slice xa xl xc) (a.ls.map fun q => (sb q.1 : Int))) := OA4.out.below b5
            have OB5 : Hid (Owns .i64 3 w5 (.slice ya yl yc) (b.ls.map fun q => (sb q.1 : Int))) := HOB.out.below b5
            have B5 : Hid (Below w.heap.size w w5) := B4.out.trans (b5.mono B4.out.size)
            have HBA5 : Hid (w5.heap[ga]? = some (.cells #[.int .i64 (a.w : Int), .int .i64 (a.num : Int), .slice xa xl xc] 80 (0, 0))) := by show _ = _; rw [b5.block ga (Array.getElem?_eq_some_iff.1 HBA4.out).1]; exact HBA4.out
            have cb0 : w5.cell? ⟨g1, ib * 3, none⟩ = some (.int .i64 (b.w : Int)) := by rw [b5.cell (p := ⟨g1, ib * 3, none⟩) HGL4.out]; exact HCC4.out.1
            have cb1 : w5.cell? ⟨g1, ib * 3 + 1, none⟩ = some (.int .i64 (b.num : Int)) := by rw [b5.cell (p := ⟨g1, ib * 3 + 1, none⟩) HGL4.out]; exact HCC4.out.2.1
            have cb2 : w5.cell? ⟨g1, ib * 3 + 2, none⟩ = some (.slice ya yl yc) := by rw [b5.cell (p := ⟨g1, ib * 3 + 2, none⟩) HGL4.out]; exact HCC4.out.2.2
            clear ht5 b5 HCB T4 O4 OA4 HOB B4 HBA4 HGL4 HCC4
            go_wp2_with fail
            obtain ⟨gb, hgb⟩ : ∃ gb, w5.heap.size = gb := ⟨_, rfl⟩
            obtain ⟨W2, hW2⟩ : ∃ W2, Hid (w5.alloc (.cells #[.int .i64 (b.w : Int), .int .i64 (b.num : Int), .slice ya yl yc] 80) = W2) := ⟨_, rfl⟩
            have HBB : Hid (W2.heap[gb]? = some (.cells #[.int .i64 (b.w : Int), .int .i64 (b.num : Int), .slice ya yl yc] 80 (0, 0))) := by rw [← hW2.out, ← hgb]; exact heap_alloc_new w5 _
            have b2 : Below w5.heap.size w5 W2 := by rw [← hW2.out]; exact (Below.refl _ _).alloc (Nat.le_refl _) _
            have T2 : Hid (TL W2 go (.slice (some ⟨g1, 0, none⟩) M1.length lc4) sb M1) := T5.out.below b2
            have O2 : Hid (Owns .i64 3 W2 (.slice (some ⟨go, 0, none⟩) cs.length cs.length) o) := O5.out.below b2
            have OA2 : Hid (Owns .i64 3 W2 (.slice xa xl xc) (a.ls.map fun q => (sb q.1 : Int))) := OA5.out.below b2
            have OB2 : Hid (Owns .i64 3 W2 (.slice ya yl yc) (b.ls.map fun q => (sb q.1 : Int))) := OB5.out.below b2
            have BW2 : Hid (Below w.heap.size w W2) := B5.out.trans (b2.mono B5.out.size)
            have HBA2 : Hid (W2.heap[ga]? = some (.cells #[.int .i64 (a.w : Int), .int .i64 (a.num : Int), .slice xa xl xc] 80 (0, 0))) := by show _ = _; rw [b2.block ga (Array.getElem?_eq_some_iff.1 HBA5.out).1]; exact HBA5.out
            rw [hW2.out, hgb]
            clear hW2 hgb b2 T5 O5 OA5 OB5 B5 HBA5 cb0 cb1 cb2
            refine (without_any _ (encG M1) ib W2 T2.out.own (by rw [encG_len]; omega) (by rw [encG_len]; omega) T2.out.sls).mono ?_
            rintro e w6 ⟨⟨l2, rfl, ho6, hn6⟩, hb6⟩
            rw [encG_len, encG_wo] at ho6
            obtain ⟨M2, hM2e⟩ : ∃ M2, wo nt0 M1 ib M1.length = M2 := ⟨_, rfl⟩
            rw [hM2e] at ho6 HPB HMB hlB
            have T6 : Hid (TL w6 go l2 sb M2) := ⟨ho6, fun p hp => (T2.out.by_ p (HMB.out p hp)).below hb6, fun p hp => T2.out.gt p (HMB.out p hp), fun p hp => T2.out.sl p (HMB.out p hp)⟩
            have O6 : Hid (Owns .i64 3 w6 (.slice (some ⟨go, 0, none⟩) cs.length cs.length) o) := O2.out.below hb6
            have OA6 : Hid (Owns .i64 3 w6 (.slice xa xl xc) (a.ls.map fun q => (sb q.1 : Int))) := OA2.out.below hb6
            have OB6 : Hid (Owns .i64 3 w6 (.slice ya yl yc) (b.ls.map fun q => (sb q.1 : Int))) := OB2.out.below hb6
            have B6 : Hid (Below w.heap.size w w6) := BW2.out.trans (hb6.mono BW2.out.size)
            have HBA6 : Hid (w6.heap[ga]? = some (.cells #[.int .i64 (a.w : Int), .int .i64 (a.num : Int), .slice xa xl xc] 80 (0, 0))) := by show _ = _; rw [hb6.block ga (Array.getElem?_eq_some_iff.1 HBA2.out).1]; exact HBA2.out
            have HBB6 : Hid (w6.heap[gb]? = some (.cells #[.int .i64 (b.w : Int), .int .i64 (b.num : Int), .slice ya yl yc] 80 (0, 0))) := by show _ = _; rw [hb6.block gb (Array.getElem?_eq_some_iff.1 HBB.out).1]; exact HBB.out
            have N6 : Hid (∀ j, l2.ownBlock = some j → w.heap.size ≤ j) := fun j hj => Nat.le_trans BW2.out.size (hn6 j hj)
            have HLL : Hid (a.ls.length + b.ls.length ≤ 256) := by
              have h := HJ.out.lf.length_eq
              simp only [lvs, List.flatMap_cons, List.length_map, List.length_append, List.length_range] at h
              show _ ≤ _
              omega
            have ca2 : w6.cell? ⟨ga, 2, none⟩ = some (.slice xa xl xc) := by rw [cell_of_row w6 ga 2 _ _ (0, 0) HBA6.out]; rfl
            have cb2 : w6.cell? ⟨gb, 2, none⟩ = some (.slice ya yl yc) := by rw [cell_of_row w6 gb 2 _ _ (0, 0) HBB6.out]; rfl
            clear ho6 hn6 hb6 hM2e T2 O2 OA2 OB2 BW2 HBA2 HBB HMB
            go_wp2_with (at_builtin; refine wpList_many _ rfl (.tmp 77) (.tmp 79) 22 rfl 3 .i64 8 elem64 (.slice none 0 0) [] rfl (owns_nil _ _ _) (.slice xa xl xc) (a.ls.map fun q => (sb q.1 : Int)) rfl OA6.out.rd ?a1 ?a2 ?_; (case a1 => have := HLL.out; simp; omega); (case a2 => have := HLL.out; simp; omega))
            intro v7 w7 ho7 hg7
            obtain ⟨b7, n7⟩ := hg7.below
            have O7 : Hid (Owns .i64 3 w7 v7 (a.ls.map fun q => (sb q.1 : Int))) := ho7
            have B67 : Hid (Below w6.heap.size w6 w7) := b7
            have N7 : Hid (∀ k, v7.ownBlock = some k → w6.heap.size ≤ k) := n7
            have OB7 : Hid (Owns .i64 3 w7 (.slice ya yl yc) (b.ls.map fun q => (sb q.1 : Int))) := OB6.out.below b7
            have cb2' : w7.cell? ⟨gb, 2, none⟩ = some (.slice ya yl yc) := by rw [b7.cell (p := ⟨gb, 2, none⟩) (Array.getElem?_eq_some_iff.1 HBB6.out).1]; exact cb2
            clear ho7 hg7 b7 n7 ca2 cb2
            go_wp2_with (at_builtin; refine wpList_many _ rfl (.tmp 81) (.tmp 83) 22 rfl 3 .i64 8 elem64 v7 (a.ls.map fun q => (sb q.1 : Int)) rfl O7.out (.slice ya yl yc) (b.ls.map fun q => (sb q.1 : Int)) rfl OB7.out.rd ?a1 ?a2 ?_; (case a1 => have := HLL.out; simp; omega); (case a2 => have := HLL.out; simp; omega))
            intro v8 w8 ho8 hg8
            have h8 := hg8.onto B67.out N7.out
            have b68 := h8.1
            obtain ⟨ls, hls⟩ : ∃ ls, a.ls ++ b.ls = ls := ⟨_, rfl⟩
            have O8 : Hid (Owns .i64 3 w8 v8 (ls.map fun q => (sb q.1 : Int))) := by rw [← hls, List.map_append]; exact ho8
            have N8 : Hid (∀ k, v8.ownBlock = some k → w6.heap.size ≤ k) := h8.2
            have T8 : Hid (TL w8 go l2 sb M2) := T6.out.below b68
            have OO8 : Hid (Owns .i64 3 w8 (.slice (some ⟨go, 0, none⟩) cs.length cs.length) o) := O6.out.below b68
            have B8 : Hid (Below w.heap.size w w8) := B6.out.trans (b68.mono B6.out.size)
            have HBA8 : Hid (w8.heap[ga]? = some (.cells #[.int .i64 (a.w : Int), .int .i64 (a.num : Int), .slice xa xl xc] 80 (0, 0))) := by show _ = _; rw [b68.block ga (Array.getElem?_eq_some_iff.1 HBA6.out).1]; exact HBA6.out
            have HBB8 : Hid (w8.heap[gb]? = some (.cells #[.int .i64 (b.w : Int), .int .i64 (b.num : Int), .slice ya yl yc] 80 (0, 0))) := by show _ = _; rw [b68.block gb (Array.getElem?_eq_some_iff.1 HBB6.out).1]; exact HBB6.out
            have HGN8 : Hid (∀ k, v8.ownBlock = some k → go < k) := fun k hk => by have h1 := N8.out k hk; have h2 := O6.out.lt go rfl; omega
            have HLL8 : Hid (ls.length ≤ 256) := by show _ ≤ _; rw [← hls, List.length_append]; exact HLL.out
            have hne : ∀ t : NT, (w8.heap[go]? = some (.cells #[.int .i64 (t.w : Int)] 0 (0, 0))) → True := fun _ _ => trivial
            have HGAO : Hid (ga ≠ go ∧ gb ≠ go) := by
              obtain ⟨cur, hcur⟩ := block_of_ownsG (w := w8) OO8.out (k := go) rfl
              refine ⟨fun e => ?_, fun e => ?_⟩
              · have := HBA8.out; rw [e, hcur] at this; simp at this
              · have := HBB8.out; rw [e, hcur] at this; simp at this
            have hne2 : 0 < ls.length → True := fun _ => trivial
            have HOJ0 : Hid (OJ sb ls o o 0) := ⟨rfl, fun p hp => by
                rw [if_neg (by omega), Int.add_zero]
                have hm : ls.getD p (0, 0) ∈ ls := by rw [List.getD_eq_getElem?_getD, List.getElem?_eq_getElem hp]; exact List.getElem_mem hp
                rw [← hls] at hm
                rcases List.mem_append.1 hm with hm | hm
                · rw [← hls]; exact HO.out.at_ a (by simp) _ hm
                · rw [← hls]; exact HO.out.at_ b (by simp) _ hm, fun b _ => rfl⟩
            have HLF : Hid ((ls.map (·.1)).Nodup ∧ ∀ q ∈ ls, q.1 < n) := by
              have hnd : ((lvs (a :: b :: r)).map (·.1)).Nodup := HJ.out.lf.nodup_iff.2 List.nodup_range
              have e : lvs (a :: b :: r) = ls ++ lvs r := by rw [← hls]; simp [lvs]
              rw [e, List.map_append, List.nodup_append] at hnd
              refine ⟨hnd.1, fun q hq => ?_⟩
              have : q.1 ∈ List.range n := HJ.out.lf.mem_iff.1 (List.mem_map.2 ⟨q, by rw [e]; simp [hq], rfl⟩)
              simpa using this
            have HLS : Hid (a.ls ++ b.ls = ls) := hls
            have HDP : Hid (∀ oj k, k < ls.length → OJ sb ls o oj k → (ls.getD k (0, 0)).2 ≤ 100000) := fun oj k hk _ => by
              have hm : ls.getD k (0, 0) ∈ ls := by rw [List.getD_eq_getElem?_getD, List.getElem?_eq_getElem hk]; exact List.getElem_mem hk
              rw [← hls] at hm
              have hd : (ls.getD k (0, 0)).2 + n ≤ N := by
                rcases List.mem_append.1 hm with hm | hm
                · rw [← hls]; exact HJ.out.dp a (by simp) _ hm
                · rw [← hls]; exact HJ.out.dp b (by simp) _ hm
              omega
            obtain ⟨va, vc, hv8, hvc8, hvm8, _, hcell8⟩ := id O8.out.rd
            rw [List.length_map] at hv8 hvc8 hcell8
            subst hv8
            have HC8 : Hid ((ls.map fun q => (sb q.1 : Int)) = [] ∨ ∃ b o, va = some ⟨b, o, none⟩ ∧ ∀ i, i < ls.length → w8.cell? ⟨b, o + i, none⟩ = some (.int .i64 ((ls.map fun q => (sb q.1 : Int)).getD i 0))) := hcell8
            have hvm9 : vc ≤ 9223372036854775807 := by unfold maxLen at hvm8; omega
            clear ho8 hg8 h8 b68 hne hne2 hls O7 OB7 T6 O6 OA6 OB6 B6 HBA6 HBB6 B67 N7 cb2' hvm8 hcell8
            go_wp2_with fail
            go_loopw [13] (fun j wr => ∃ (k : Nat) (oj : List Int), k ≤ ls.length ∧ j = .int .i64 k ∧ Hid (OJ sb ls o oj k) ∧ Hid (Owns .i64 3 wr (.slice (some ⟨go, 0, none⟩) cs.length cs.length) oj) ∧ Hid (Tch (fun b => b = go) w8 wr)) (fun j _ => ls.length - (intOf j).toNat)
            case atStart => exact ⟨0, o, Nat.zero_le _, rfl, HOJ0, OO8, Tch.refl _ _⟩
            case round =>
              clear HOJ0
              obtain ⟨k, oj, hk, rfl, HOJ, OJO, TJ⟩ := hrel
              by_cases hlt : k < ls.length
              · have hi1 : (k : Int) < (ls.length : Int) := by omega
                obtain ⟨vb, vo, hva, hvcell⟩ : ∃ b o, va = some ⟨b, o, none⟩ ∧ ∀ i, i < ls.length → w8.cell? ⟨b, o + i, none⟩ = some (.int .i64 ((ls.map fun q => (sb q.1 : Int)).getD i 0)) := by
                  rcases HC8.out with h | h
                  · have := congrArg List.length h; simp at this; rw [this] at hlt; simp at hlt
                  · exact h
                subst hva
                have hvk := hvcell k hlt
                have egk : (ls.map fun q => (sb q.1 : Int)).getD k 0 = (sb (ls.getD k (0, 0)).1 : Int) := by simp [List.getD_eq_getElem?_getD, hlt]
                rw [egk] at hvk
                have hvg := HGN8.out vb rfl
                have c1 : wr.cell? ⟨vb, vo + k, none⟩ = some (.int .i64 (sb (ls.getD k (0, 0)).1 : Int)) := by
                  rw [TJ.out.cell (p := ⟨vb, vo + k, none⟩) (World.block_lt_of_cell? w8 ⟨vb, vo + k, none⟩ hvk) (fun e => by simp only at e; omega)]; exact hvk
                have hqm : ls.getD k (0, 0) ∈ ls := by rw [List.getD_eq_getElem?_getD, List.getElem?_eq_getElem hlt]; exact List.getElem_mem hlt
                have hsl := HSBL.out _ (HLF.out.2 _ hqm)
                have hin := HOJ.out.in_ k hlt
                rw [if_neg (Nat.lt_irrefl k), Int.add_zero] at hin
                obtain ⟨go', cpo', hvo', _, _, _, hcello, hfzo⟩ := OJO.out.shape (by rw [HOJ.out.len, HOL.out]; omega)
                simp only [Value.slice.injEq, Option.some.injEq, Addr.mk.injEq] at hvo'
                obtain ⟨⟨rfl, _⟩, hxx1, hxx2⟩ := hvo'
                have c2 := hcello (sb (ls.getD k (0, 0)).1) (by rw [HOJ.out.len, HOL.out]; exact hsl)
                have f2 := hfzo (sb (ls.getD k (0, 0)).1)
                rw [hin] at c2
                have HOJ2 := HOJ.out.step hlt HLF.out.1 HLF.out.2 HINJ.out (fun i hi => by rw [HOL.out]; exact HSBL.out i hi)
                obtain ⟨B, hB⟩ : ∃ B, sb (ls.getD k (0, 0)).1 = B := ⟨_, rfl⟩
                obtain ⟨D, hD⟩ : ∃ D, (ls.getD k (0, 0)).2 = D := ⟨_, rfl⟩
                have hDb : D ≤ 100000 := by
                  have h := HDP.out oj k hlt HOJ.out
                  rw [hD] at h
                  exact h
                rw [hB, hD] at c2 HOJ2
                rw [hB] at c1 f2 hsl
                have HOJ3 : Hid (OJ sb ls o (oj.set B ((D : Int) + 1)) (k + 1)) := HOJ2
                have O3 : Hid (Owns .i64 3 (wr.setCell ⟨go, B, none⟩ (.int .i64 ((D : Int) + 1))) (.slice (some ⟨go, 0, none⟩) cs.length cs.length) (oj.set B ((D : Int) + 1))) := OJO.out.set B ((D : Int) + 1)
                have T3 : Hid (Tch (fun b => b = go) w8 (wr.setCell ⟨go, B, none⟩ (.int .i64 ((D : Int) + 1)))) := Tch.setCell TJ.out (p := ⟨go, B, none⟩) (fun _ => rfl) _
                have hBl : (B : Int) < (cs.length : Int) := by omega
                clear hxx1 hxx2 hvcell hvk egk hqm hin hcello hfzo HOJ2 hB hD HOJ OJO TJ hvg
                go_wp2_with fail
                go_roundw
                case rel => exact ⟨k + 1, _, by omega, by go_num, HOJ3, O3, T3⟩
                case measure => simp [intOf]; omega
              · have hkn : ¬ (k : Int) < (ls.length : Int) := by omega
                have hkl : k = ls.length := by omega
                rw [hkl] at HOJ
                have HOI : Hid (OI sb n (insN (jn a b N) r) oj) := HO.out.join (by rw [HLS.out]; exact HOJ.out) HJ.out.lf HINJ.out
                have HOL2 : Hid (oj.length = cs.length) := by show _ = _; rw [HOJ.out.len]; exact HOL.out
                have TR : Hid (TL wr go l2 sb M2) := T8.out.out OO8.out TJ.out
                have OV : Hid (Owns .i64 3 wr (.slice va ls.length vc) ((jn a b N).ls.map fun q => (sb q.1 : Int))) := by
                  have e : ((jn a b N).ls.map fun q => (sb q.1 : Int)) = ls.map fun q => (sb q.1 : Int) := by rw [← HLS.out]; simp [jn, bump, Function.comp_def]
                  rw [e]
                  exact O8.out.tch TJ.out (fun j hj e => by have := HGN8.out j hj; omega)
                have BR : Hid (Below w.heap.size w wr) := B8.out.trans (TJ.out.below B8.out.size (fun j e => by rw [e]; omega))
                have da : wr.heap[ga]? = some (.cells #[.int .i64 (a.w : Int), .int .i64 (a.num : Int), .slice xa xl xc] 80 (0, 0)) := by rw [TJ.out.block ga (Array.getElem?_eq_some_iff.1 HBA8.out).1 (fun e => HGAO.out.1 e)]; exact HBA8.out
                have db : wr.heap[gb]? = some (.cells #[.int .i64 (b.w : Int), .int .i64 (b.num : Int), .slice ya yl yc] 80 (0, 0)) := by rw [TJ.out.block gb (Array.getElem?_eq_some_iff.1 HBB8.out).1 (fun e => HGAO.out.2 e)]; exact HBB8.out
                have ca0 : wr.cell? ⟨ga, 0, none⟩ = some (.int .i64 (a.w : Int)) := by rw [cell_of_row wr ga 0 _ _ (0, 0) da]; rfl
                have cb0 : wr.cell? ⟨gb, 0, none⟩ = some (.int .i64 (b.w : Int)) := by rw [cell_of_row wr gb 0 _ _ (0, 0) db]; rfl
                have HJ2 : Hid (JT (N + 1) n (insN (jn a b N) r) (treeOf c n) S f') := HJ.out.step
                have HP2 : Hid (((M2 ++ [(jn a b N, (.slice va ls.length vc : Value))]).map (·.1)).Perm (insN (jn a b N) r)) := by
                  show List.Perm _ _
                  rw [List.map_append]
                  refine (HPB.out.append_right _).trans ?_
                  exact List.perm_append_comm.trans (insN_perm _ _).symm
                have HML : Hid ((encG M2).length ≤ 256) := by show _ ≤ _; rw [encG_len]; omega
                obtain ⟨AB, hAB⟩ : ∃ AB, a.w + b.w = AB := ⟨_, rfl⟩
                have hABI : (a.w : Int) + (b.w : Int) = (AB : Int) := by omega
                have HJW : Hid ((((jn a b N).w : Int), ((jn a b N).num : Int), (.slice va ls.length vc : Value)) = ((AB : Int), (N : Int), (.slice va ls.length vc : Value))) := by show _ = _; rw [← hAB]; rfl
                have wAB : IntKind.i64.wrap (AB : Int) = (AB : Int) := by rw [IntKind.wrap_i64]; omega
                clear HOJ HJ HO T8 OO8 O8 B8 HBA8 HBB8 TJ da db HPB hkl hAB HOL HP
                go_wp2_with (at_builtin; refine wpList_pushG wr rfl (.tmp 100) (.tmp 109) rfl l2 (encG M2) rfl TR.out.own (AB : Int) (N : Int) (.slice va ls.length vc) ⟨_, _, _, rfl⟩ rfl ?h2 ?_; (case h2 => have := HML.out; omega))
                intro l3 w9 ho9 hg9
                have TT : Hid (TL w9 go l3 sb (M2 ++ [(jn a b N, .slice va ls.length vc)])) := TR.out.push (jn a b N) _ OV.out HGN8.out ⟨_, _, _, rfl⟩ (by rw [HJW.out]; exact ho9) hg9
                have O9 : Hid (Owns .i64 3 w9 (.slice (some ⟨go, 0, none⟩) cs.length cs.length) oj) := TR.out.keeps hg9 OJO.out
                have h9 := hg9.onto BR.out N6.out
                have B9 : Hid (Below w.heap.size w w9) := h9.1
                have N9 : Hid (∀ j, l3.ownBlock = some j → w.heap.size ≤ j) := h9.2
                obtain ⟨la9, lc9, hl9, _⟩ := TT.out.own.len
                rw [encG_len, List.length_append] at hl9
                subst hl9
                clear ho9 hg9 h9 TR OJO BR N6 ca0 cb0 OV
                go_wp2_with fail
                go_roundw
                case rel => exact ⟨_, _, N + 1, f', oj, _, rfl, by go_num, by simp, by omega, by simp; omega, HP2, HJ2, HOI, HOL2, TT, O9, N9, B9⟩
                case measure => simp; omega
          · have hM3 : ¬ (1 : Int) < (M.length : Int) := by omega
            obtain ⟨tt, hL⟩ : ∃ tt, L = [tt] := by
              have := HP.out.length_eq
              rw [List.length_map, show M.length = 1 by omega] at this
              exact List.length_eq_one_iff.1 this.symm
            subst hL
            have htl : treeOf c n = tt.ls := HJ.out.done
            have HD : Hid (o = lens cs (dpS cs)) := by
              show _ = _
              have hd : dpS cs = deps (wt cs cs.length) := by unfold dpS; rw [if_neg (by rw [HN.out]; omega)]
              rw [hd]
              exact OI.lens HN.out hn1 HK.out.lastSt HOL.out (by rw [hsb.out]; exact HO.out) (by rw [hc.out]; exact htl)
            rw [HD.out] at OO HOL
            obtain ⟨R, hR⟩ : ∃ R, Hid (lens cs (dpS cs) = R) := ⟨_, rfl⟩
            rw [hR.out] at OO HOL
            obtain ⟨la5, lc5, hl5, _⟩ := HT.out.own.len
            rw [encG_len] at hl5
            subst hl5
            obtain ⟨go', cpo', hvo', hgol, _, _, hcello, _⟩ := OO.out.shape (by rw [HOL.out]; omega)
            simp only [Value.slice.injEq, Option.some.injEq, Addr.mk.injEq] at hvo'
            obtain ⟨⟨rfl, _⟩, hxx1, hxx2⟩ := hvo'
            rw [HOL.out] at hcello
            have HCO : Hid (∀ i, i < cs.length → wr.cell? ⟨go, i, none⟩ = some (.int .i64 (R.getD i 0))) := hcello
            have HGOL : Hid (go < wr.heap.size) := hgol
            obtain ⟨wy, hwy⟩ : ∃ wy : World, wy = wr := ⟨_, rfl⟩
            have HGO : Hid (w.heap.size ≤ go) := by show _ ≤ _; omega
            clear hxx1 hxx2 hcello hgol htl HJ HO HP HT HNL hM1 hM2 hnN hNM HD
            go_wp2_with fail
            rw [← hwy] at HCO HGOL BW OO
            go_loopw [14, 15] (fun m i wr => ∃ (k : Nat) (mx : Int), k ≤ cs.length ∧ i = .int .i64 k ∧ m = .int .i64 mx ∧ Hid (∀ b, b < k → R.getD b 0 ≤ mx) ∧ Hid (mx = 0 ∨ ∃ b, R.getD b 0 = mx) ∧ Hid (Below wy.heap.size wy wr)) (fun _ i _ => cs.length - (intOf i).toNat)
            case atStart => exact ⟨0, 0, Nat.zero_le _, rfl, rfl, (fun b hb => by omega), .inl rfl, by rw [hwy]; exact Below.refl _ _⟩
            case round =>
              clear hwy
              obtain ⟨k, mx, hk, rfl, rfl, HMX, HME, BY⟩ := hrel
              by_cases hlt : k < cs.length
              · have hi1 : (k : Int) < (cs.length : Int) := by omega
                have ck : wr.cell? ⟨go, k, none⟩ = some (.int .i64 (R.getD k 0)) := by rw [BY.out.cell (p := ⟨go, k, none⟩) HGOL.out]; exact HCO.out k hlt
                obtain ⟨x, hx⟩ : ∃ x, R.getD k 0 = x := ⟨_, rfl⟩
                rw [hx] at ck
                by_cases hg : mx < x
                · have HMX2 : Hid (∀ b, b < k + 1 → R.getD b 0 ≤ x) := fun b hb => by
                    by_cases e : b = k
                    · rw [e, hx]; omega
                    · have := HMX.out b (by omega); omega
                  have HME2 : Hid (x = 0 ∨ ∃ b, R.getD b 0 = x) := .inr ⟨k, hx⟩
                  clear hx
                  go_wp2_with fail
                  first
                    | exact ⟨⟨k + 1, x, by omega, by go_num, rfl, HMX2, HME2, BY⟩, by simp [intOf]; omega⟩
                    | (go_roundw
                       case rel => exact ⟨k + 1, x, by omega, by go_num, rfl, HMX2, HME2, BY⟩
                       case measure => simp [intOf]; omega)
                · have HMX2 : Hid (∀ b, b < k + 1 → R.getD b 0 ≤ mx) := fun b hb => by
                    by_cases e : b = k
                    · rw [e, hx]; omega
                    · exact HMX.out b (by omega)
                  clear hx
                  go_wp2_with fail
                  first
                    | exact ⟨⟨k + 1, mx, by omega, by go_num, rfl, HMX2, HME, BY⟩, by simp [intOf]; omega⟩
                    | (go_roundw
                       case rel => exact ⟨k + 1, mx, by omega, by go_num, rfl, HMX2, HME, BY⟩
                       case measure => simp [intOf]; omega)
              · have hkn : ¬ (k : Int) < (cs.length : Int) := by omega
                have hkl : k = cs.length := by omega
                rw [hkl] at HMX
                have OO2 : Hid (Owns .i64 3 wr (.slice (some ⟨go, 0, none⟩) cs.length cs.length) R) := OO.out.below BY.out
                have H11 : Hid (mx ≤ 11 ↔ ∀ b, R.getD b 0 ≤ 11) := by
                  constructor
                  · intro h b
                    by_cases hb : b < cs.length
                    · have := HMX.out b hb; omega
                    · rw [List.getD_eq_getElem?_getD, List.getElem?_eq_none (by rw [HOL.out]; omega)]; decide
                  · intro h
                    rcases HME.out with e | ⟨b, e⟩
                    · omega
                    · rw [← e]; exact h b
                clear hkl
                go_wp2_with fail
                go_ret2
                exact ⟨_, mx, rfl, by rw [hR.out]; exact OO2.out, by rw [hR.out]; exact H11.out, fun j hj => by simp [Value.ownBlock] at hj; rw [← hj]; exact HGO.out, BW.out.trans (BY.out.mono BW.out.size)⟩
end Go.Proofs.Ytcmnhgefeffcpaa
