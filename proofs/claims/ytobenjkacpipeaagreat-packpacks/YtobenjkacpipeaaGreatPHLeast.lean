import Derived.Test.YtobenjkacpipeaaGreatPHeapP
import Derived.Test.YtobenjkacpipeaaGreatPMem
import Derived.Test.YtobenjkacpipeaaGreatPE64
import Derived.Test.YtobenjkacpipeaaGreatPHCodes
import Derived.Test.YtobenjkacpipeaaGreatPHPop
set_option maxRecDepth 100000
set_option linter.unusedVariables false
set_option linter.unusedSimpArgs false
set_option maxHeartbeats 8000000
namespace Go.Proofs.YtobenjkacpipeaaGreat
open Go.RowKit Pl Hf
def lst (ps : List (Int × Int)) : Nat -> Nat
 | 0 => 0
 | k + 1 => if ltB (G ps (k + 1)) (G ps (lst ps k)) then k + 1 else lst ps k
theorem lst_le (ps : List (Int × Int)) (k : Nat) : lst ps k <= k := by
 induction k with
 | zero => exact Nat.le_refl _
 | succ k ih => simp only [lst]; split <;> omega
theorem zsa9 (ps : List (Int × Int)) (k : Nat) : ∀ i, i <= k -> leP (G ps (lst ps k)) (G ps i) := by
 induction k with
 | zero => intro i hi; obtain rfl : i = 0 := by omega
           exact zcp9 _
 | succ k ih =>
  intro i hi
  simp only [lst]
  split
  ·rename_i h
   by_cases e : i = k + 1
   ·subst e; exact zcp9 _
   ·exact zbp9 (zce9 (zck9.1 h)) (ih i (by omega))
  ·rename_i h
   by_cases e : i = k + 1
   ·subst e
    exact zcf9.1 (by simpa using h)
   ·exact ih i (by omega)
set_option maxRecDepth 100000 in
theorem zrr9 (b o cap : Nat) (ps : List (Int × Int)) (w : World) (h1 : 1 <= ps.length) (h2 : ps.length <= 100000)
  (hc : ∀ i, i < ps.length -> w.cell? ⟨b, o + i * 3, none⟩ = some (.int .i64 (G ps i).1) /\ w.cell? ⟨b, o + i * 3 + 1, none⟩ = some (.int .i64 (G ps i).2)) :
  Calls Tryz.prog 97 #[.slice (some ⟨b, o, none⟩) ps.length cap] w fun e w' => e = .returned (.int .i64 (lst ps (ps.length - 1))) /\ Tch (fun _ => False) w w' := by
 have HC : Hid (∀ i, i < ps.length -> w.cell? ⟨b, o + i * 3, none⟩ = some (.int .i64 (G ps i).1) /\ w.cell? ⟨b, o + i * 3 + 1, none⟩ = some (.int .i64 (G ps i).2)) := hc
 clear hc
 go_enter Tryz.func97, Tryz.ntmps97
 go_wp2_with fail
 go_loopw [3, 4] (fun a i wr => ∃ k : Nat, k < ps.length /\ i = .int .i64 ((k : Int) + 1) /\ a = .int .i64 (lst ps k) /\ Hid (Tch (fun _ => False) w wr)) (fun _ i _ => ps.length - (intOf i).toNat)
 case atStart => exact ⟨0, by omega, rfl, rfl, Tch.refl _ _⟩
 case round =>
  obtain ⟨k, hk, rfl, rfl, T⟩ := hrel
  by_cases hlt : k + 1 < ps.length
  ·obtain ⟨a, ha⟩ : ∃ a, Hid (lst ps k = a) := ⟨_, rfl⟩
   have hal := lst_le ps k
   rw [ha.out] at hal ⊢
   obtain ⟨x1, x2, hx⟩ : ∃ x1 x2, G ps (k + 1) = (x1, x2) := ⟨_, _, rfl⟩
   obtain ⟨y1, y2, hy⟩ : ∃ y1 y2, G ps a = (y1, y2) := ⟨_, _, rfl⟩
   obtain ⟨c0, c1⟩ := HC.out (k + 1) hlt
   obtain ⟨d0, d1⟩ := HC.out a (by omega)
   rw [hx] at c0 c1
   rw [hy] at d0 d1
   simp only at c0 c1 d0 d1
   have g : ∀ p : Addr, ∀ v, w.cell? p = some v -> wr.cell? p = some v := fun p v hv => by rw [T.out.cell (World.block_lt_of_cell? w p hv) (fun e => e)]; exact hv
   have C0 := g _ _ c0
   have C1 := g _ _ c1
   have D0 := g _ _ d0
   have D1 := g _ _ d1
   clear g c0 c1 d0 d1
   have i1 : (k : Int) + 1 = ((k + 1 : Nat) : Int) := by omega
   have HL : Hid (lst ps (k + 1) = if ltB (x1, x2) (y1, y2) then k + 1 else a) := by show _ = _; simp only [lst]; rw [ha.out, hx, hy]
   rw [i1]
   have hl1 : ((k + 1 : Nat) : Int) < (ps.length : Int) := by omega
   obtain ⟨m, hm⟩ : ∃ m, k + 1 = m := ⟨_, rfl⟩
   rw [hm] at C0 C1 hl1 ⊢
   clear i1 hx hy
   by_cases hlt1 : x1 < y1
   ·have HN : Hid (lst ps (k + 1) = m) := by show _ = _; rw [HL.out, if_pos (zck9.2 (by unfold ltP; simp only; omega))]; exact hm
    go_wp2_with fail
    go_quiet (fail)
    go_wp2_with fail
    go_roundw
    case rel => exact ⟨k + 1, by omega, by go_num, by rw [HN.out], T.out.trans (S' := fun _ => False) ⟨rfl, rfl, rfl, Nat.le_refl _, fun _ _ _ => rfl⟩ (fun _ _ e => e)⟩
    case measure => simp [intOf]; omega
   ·have q1 : decide (x1 < y1) = false := by rw [decide_eq_false_iff_not]; exact hlt1
    by_cases he : x1 = y1
    ·have q2 : (x1 == y1) = true := by simp [he]
     by_cases hlt2 : x2 < y2
     ·have HN : Hid (lst ps (k + 1) = m) := by show _ = _; rw [HL.out, if_pos (zck9.2 (by unfold ltP; simp only; omega))]; exact hm
      clear he hlt1
      go_wp2_with fail
      go_quiet (fail)
      go_wp2_with fail
      go_roundw
      case rel => exact ⟨k + 1, by omega, by go_num, by rw [HN.out], T.out.trans (S' := fun _ => False) ⟨rfl, rfl, rfl, Nat.le_refl _, fun _ _ _ => rfl⟩ (fun _ _ e => e)⟩
      case measure => simp [intOf]; omega
     ·have HN : Hid (lst ps (k + 1) = a) := by show _ = _; rw [HL.out, if_neg (by rw [zck9]; unfold ltP; simp only; omega)]
      have q3 : decide (x2 < y2) = false := by rw [decide_eq_false_iff_not]; exact hlt2
      clear he hlt1 hlt2
      go_wp2_with fail
      go_quiet (fail)
      go_wp2_with fail
      go_roundw
      case rel => exact ⟨k + 1, by omega, by go_num, by rw [HN.out], T.out.trans (S' := fun _ => False) ⟨rfl, rfl, rfl, Nat.le_refl _, fun _ _ _ => rfl⟩ (fun _ _ e => e)⟩
      case measure => simp [intOf]; omega
    ·have q2 : (x1 == y1) = false := by simp [he]
     have HN : Hid (lst ps (k + 1) = a) := by show _ = _; rw [HL.out, if_neg (by rw [zck9]; unfold ltP; simp only; omega)]
     clear he hlt1
     go_wp2_with fail
     go_quiet (fail)
     go_wp2_with fail
     go_roundw
     case rel => exact ⟨k + 1, by omega, by go_num, by rw [HN.out], T.out.trans (S' := fun _ => False) ⟨rfl, rfl, rfl, Nat.le_refl _, fun _ _ _ => rfl⟩ (fun _ _ e => e)⟩
     case measure => simp [intOf]; omega
  ·have hk1 : ps.length - 1 = k := by omega
   have HK1 : Hid (ps.length - 1 = k) := hk1
   clear hk1
   have hl1 : ¬ (k : Int) + 1 < (ps.length : Int) := by omega
   go_wp2_with fail
   go_ret
   exact ⟨by rw [HK1.out]; rfl, T.out⟩
theorem zpz9 {M : List NT} {a : NT} {r : List NT} (hp : M.Perm (a :: r)) (hl : Lex (a :: r)) (hn : ((a :: r).map (·.num)).Nodup) (d : NT) (i : Nat) (hi : i < M.length) (hle : ∀ j, j < M.length -> leP (key (M.getD i d)) (key (M.getD j d))) : M.getD i d = a := by
 have hmem : M.getD i d ∈ M := by
  rw [List.getD_eq_getElem?_getD, List.getElem?_eq_getElem hi]
  exact List.getElem_mem hi
 have ha : a ∈ M := hp.mem_iff.2 (by simp)
 obtain ⟨j, hj, ej⟩ := List.getElem_of_mem ha
 have h1 : leP (key (M.getD i d)) (key a) := by
  have := hle j hj
  rw [show M.getD j d = a by rw [List.getD_eq_getElem?_getD, List.getElem?_eq_getElem hj]; exact ej] at this
  exact this
 have hm2 : M.getD i d ∈ a :: r := hp.mem_iff.1 hmem
 rcases List.mem_cons.1 hm2 with e | e
 ·exact e
 ·unfold Lex at hl
  rw [List.pairwise_cons] at hl
  have h2 := hl.1 _ e
  exact absurd h2 h1
def lvs (L : List NT) : List (Nat × Nat) := L.flatMap (·.ls)
theorem zpe9 {L M : List NT} (h : L.Perm M) : (lvs L).Perm (lvs M) := h.flatMap_right _
theorem zxs9 (a b : NT) (N : Nat) (r : List NT) : ((lvs (insN (jn a b N) r)).map (·.1)).Perm ((lvs (a :: b :: r)).map (·.1)) := by
 have h1 := (zpe9 (zx9 (jn a b N) r)).map (·.1)
 refine h1.trans ?_
 have e : (lvs (jn a b N :: r)).map (·.1) = (lvs (a :: b :: r)).map (·.1) := by
  simp [lvs, jn, bump, List.map_map, Function.comp_def]
 rw [e]
def L1 (c : Nat -> Nat) (n : Nat) : List NT := (List.range n).map fun k => ⟨c k, k, [(k, 0)]⟩
theorem zvi9 (c : Nat -> Nat) (n : Nat) : (L1 c n).Perm (L0 c n) := by
 induction n with
 | zero => exact List.Perm.refl _
 | succ n ih =>
  have e : L1 c (n + 1) = L1 c n ++ [⟨c n, n, [(n, 0)]⟩] := by unfold L1; rw [List.range_succ, List.map_append]; rfl
  rw [e]
  refine (ih.append_right _).trans ?_
  refine List.perm_append_comm.trans ?_
  exact (zx9 _ _).symm
theorem lvs_L1 (c : Nat -> Nat) (n : Nat) : (lvs (L1 c n)).map (·.1) = List.range n := by
 unfold lvs L1
 rw [List.flatMap_map]
 induction n with
 | zero => rfl
 | succ n ih => rw [List.range_succ, List.flatMap_append, List.map_append, ih]; rfl
structure JT (N n : Nat) (L : List NT) (T : List (Nat × Nat)) (S f : Nat) : Prop where
 js : ∃ P, JS P N n L T S f
 lf : ((lvs L).map (·.1)).Perm (List.range n)
 dp : ∀ t ∈ L, ∀ q ∈ t.ls, q.2 + n <= N
theorem JT.start (c : Nat -> Nat) (n : Nat) (hp : ∀ i, i < n -> 0 < c i) : JT n n (L0 c n) (treeOf c n) ((List.range n).map c).sum n :=
 ⟨⟨_, JS.start c n hp⟩, by
  have h := (zpe9 (zvi9 c n)).map (·.1)
  rw [lvs_L1] at h
  exact h.symm, fun t ht q hq => by
  obtain ⟨_, h2, _⟩ := zen9 c n
  rw [(h2 t ht).2] at hq
  simp at hq
  subst hq
  omega⟩
theorem JT.step {N n : Nat} {a b : NT} {r : List NT} {T : List (Nat × Nat)} {S f : Nat} (h : JT N n (a :: b :: r) T S (f + 1)) : JT (N + 1) n (insN (jn a b N) r) T S f := by
 obtain ⟨⟨P, hj⟩, hl, hdp⟩ := h
 have hc := hj.cnt
 simp at hc
 have ha := hj.lt a (by simp)
 have hb := hj.lt b (by simp)
 have hp := hj.plen
 refine ⟨⟨_, hj.step (by omega) (by omega)⟩, (zxs9 a b N r).trans hl, fun t ht q hq => ?_⟩
 rcases zbg9.1 ht with rfl | ht
 ·simp only [jn, bump, List.mem_map, List.mem_append] at hq
  obtain ⟨p, hp, rfl⟩ := hq
  rcases hp with hp | hp
  ·have := hdp a (by simp) p hp; simp only; omega
  ·have := hdp b (by simp) p hp; simp only; omega
 ·have := hdp t (by simp [ht]) q hq; omega
theorem JT.done {N n : Nat} {t : NT} {T : List (Nat × Nat)} {S f : Nat} (h : JT N n [t] T S f) : T = t.ls := by
 obtain ⟨⟨P, hj⟩, _⟩ := h
 have := hj.tree
 simp only [List.map_cons, List.map_nil] at this
 cases f <;> simp only [hgo] at this <;> exact this.symm
structure OI (sb : Nat -> Nat) (n : Nat) (L : List NT) (out : List Int) : Prop where
 at_ : ∀ t ∈ L, ∀ q ∈ t.ls, out.getD (sb q.1) 0 = (q.2 : Int)
 else_ : ∀ b, (∀ i, i < n -> sb i ≠ b) -> out.getD b 0 = 0
structure OJ (sb : Nat -> Nat) (ls : List (Nat × Nat)) (o out : List Int) (j : Nat) : Prop where
 len : out.length = o.length
 in_ : ∀ p, p < ls.length -> out.getD (sb (ls.getD p (0, 0)).1) 0 = ((ls.getD p (0, 0)).2 : Int) + if p < j then 1 else 0
 out_ : ∀ b, (∀ q ∈ ls, sb q.1 ≠ b) -> out.getD b 0 = o.getD b 0
theorem OJ.step {sb : Nat -> Nat} {n : Nat} {ls : List (Nat × Nat)} {o out : List Int} {j : Nat} (h : OJ sb ls o out j) (hj : j < ls.length) (hnd : (ls.map (·.1)).Nodup) (hin : ∀ q ∈ ls, q.1 < n) (hinj : ∀ i k, i < n -> k < n -> sb i = sb k -> i = k) (hb : ∀ i, i < n -> sb i < o.length) :
  OJ sb ls o (out.set (sb (ls.getD j (0, 0)).1) (((ls.getD j (0, 0)).2 : Int) + 1)) (j + 1) := by
 have hmem : ∀ p, p < ls.length -> ls.getD p (0, 0) ∈ ls := fun p hp => by
  rw [List.getD_eq_getElem?_getD, List.getElem?_eq_getElem hp]; exact List.getElem_mem hp
 have hlj : sb (ls.getD j (0, 0)).1 < out.length := by rw [h.len]; exact hb _ (hin _ (hmem j hj))
 have hne : ∀ p, p < ls.length -> p ≠ j -> sb (ls.getD p (0, 0)).1 ≠ sb (ls.getD j (0, 0)).1 := fun p hp hpj e => by
  have e1 := hinj _ _ (hin _ (hmem p hp)) (hin _ (hmem j hj)) e
  have g1 : (ls.map (·.1))[p]'(by simpa using hp) = (ls.getD p (0, 0)).1 := by simp [List.getD_eq_getElem?_getD, hp]
  have g2 : (ls.map (·.1))[j]'(by simpa using hj) = (ls.getD j (0, 0)).1 := by simp [List.getD_eq_getElem?_getD, hj]
  have hpw := List.pairwise_iff_getElem.1 hnd
  rcases Nat.lt_trichotomy p j with c | c | c
  ·exact hpw p j (by simpa using hp) (by simpa using hj) c (by rw [g1, g2, e1])
  ·exact hpj c
  ·exact hpw j p (by simpa using hj) (by simpa using hp) c (by rw [g1, g2, e1])
 refine ⟨by rw [List.length_set]; exact h.len, fun p hp => ?_, fun b hbn => ?_⟩
 ·rw [zax9]
  by_cases e : p = j
  ·subst e
   rw [if_pos ⟨rfl, hlj⟩, if_pos (Nat.lt_succ_self p)]
  ·rw [if_neg (fun h2 => hne p hp e h2.1), h.in_ p hp]
   by_cases c : p < j
   ·rw [if_pos c, if_pos (by omega)]
   ·rw [if_neg c, if_neg (by omega)]
 ·rw [zax9, if_neg (fun h2 => hbn _ (hmem j hj) h2.1.symm)]
  exact h.out_ b hbn
theorem OI.join {sb : Nat -> Nat} {n N : Nat} {a b : NT} {r : List NT} {o out : List Int} (h : OI sb n (a :: b :: r) o) (hd : OJ sb (a.ls ++ b.ls) o out (a.ls ++ b.ls).length) (hlf : ((lvs (a :: b :: r)).map (·.1)).Perm (List.range n)) (hinj : ∀ i k, i < n -> k < n -> sb i = sb k -> i = k) :
  OI sb n (insN (jn a b N) r) out := by
 have hnd : ((lvs (a :: b :: r)).map (·.1)).Nodup := hlf.nodup_iff.2 List.nodup_range
 have hlt : ∀ q ∈ lvs (a :: b :: r), q.1 < n := fun q hq => by
  have : q.1 ∈ List.range n := hlf.mem_iff.1 (List.mem_map.2 ⟨q, hq, rfl⟩)
  simpa using this
 have e : lvs (a :: b :: r) = (a.ls ++ b.ls) ++ lvs r := by simp [lvs]
 rw [e, List.map_append, List.nodup_append] at hnd
 refine ⟨fun t ht q hq => ?_, fun b' hb' => ?_⟩
 ·rcases zbg9.1 ht with rfl | ht
  ·simp only [jn, bump, List.mem_map] at hq
   obtain ⟨p, hp, rfl⟩ := hq
   obtain ⟨k, hk, ek⟩ := List.getElem_of_mem hp
   have := hd.in_ k hk
   rw [if_pos hk, show (a.ls ++ b.ls).getD k (0, 0) = p by rw [List.getD_eq_getElem?_getD, List.getElem?_eq_getElem hk]; exact ek] at this
   simpa using this
  ·have hqr : q ∈ lvs r := List.mem_flatMap.2 ⟨t, ht, hq⟩
   rw [hd.out_ (sb q.1) (fun p hp e2 => ?_)]
   ·exact h.at_ t (by simp [ht]) q hq
   ·have e3 := hinj _ _ (hlt p (by rw [e]; simp at hp ⊢; rcases hp with hp | hp; (· exact .inl hp); (· exact .inr (.inl hp)))) (hlt q (by rw [e]; simp [hqr])) e2
    exact hnd.2.2 p.1 (List.mem_map.2 ⟨p, hp, rfl⟩) q.1 (List.mem_map.2 ⟨q, hqr, rfl⟩) e3
 ·rw [hd.out_ b' (fun p hp => hb' p.1 (hlt p (by rw [e]; simp at hp ⊢; rcases hp with hp | hp; (· exact .inl hp); (· exact .inr (.inl hp)))))]
  exact h.else_ b' hb'
theorem OI.lens {cs out : List Int} {t : NT} {n : Nat} (hn : (st cs cs.length).length = n) (hn1 : 1 <= n) (hlast : lastSt cs + 1 = cs.length) (hlen : out.length = cs.length)
  (h : OI (fun i => (st cs cs.length).getD i 0) n [t] out) (ht : treeOf (cw (wt cs cs.length)) n = t.ls) : out = Go.Proofs.YtobenjkacpipeaaGreat.lens cs (deps (wt cs cs.length)) := by
 have hwl : (wt cs cs.length).length = n := by rw [zk9, hn]
 have hpos : ∀ i, i < n -> 0 < cw (wt cs cs.length) i := fun i hi => by
  have : 0 < (wt cs cs.length).getD i 0 := by
   have h0 : i < (st cs cs.length).length := by rw [hn]; exact hi
   have e : (wt cs cs.length).getD i 0 = cs.getD ((st cs cs.length).getD i 0) 0 := by simp [wt, List.getD_eq_getElem?_getD, h0]
   rw [e]; exact (rk_st cs h0).2.2
  simp only [cw]; omega
 have hst : stand (cw (wt cs cs.length)) n = List.range n := zec9 _ _ hpos
 have hby := zcl9 (cw (wt cs cs.length)) n (by rw [hst]; simpa using hn1)
 rw [hst] at hby
 have hnd : ((treeOf (cw (wt cs cs.length)) n).map (·.1)).Nodup := (hby.trans (zac9 _ _)).nodup_iff.2 List.nodup_range
 refine List.ext_getElem (by rw [zj9, hlen, hlast]) (fun b h1 h2 => ?_)
 have g1 : out.getD b 0 = out[b] := by simp [List.getD_eq_getElem?_getD, h1]
 have g2 : (Go.Proofs.YtobenjkacpipeaaGreat.lens cs (deps (wt cs cs.length))).getD b 0 = (Go.Proofs.YtobenjkacpipeaaGreat.lens cs (deps (wt cs cs.length)))[b] := by simp [List.getD_eq_getElem?_getD, h2]
 rw [<- g1, <- g2, zu9 cs _ _ b (by omega)]
 by_cases hb : 0 < cs.getD b 0
 ·obtain ⟨r1, r2⟩ := st_get cs (b := b) (k := cs.length) (by omega) hb
  rw [if_pos ⟨hb, r1⟩]
  have hrn : rk cs b < n := by rw [<- hn]; exact r1
  have hmem : rk cs b ∈ (treeOf (cw (wt cs cs.length)) n).map (·.1) := (hby.trans (zac9 _ _)).mem_iff.2 (by simpa using hrn)
  obtain ⟨q, hq, eq⟩ := List.mem_map.1 hmem
  have hd := zch9 hnd hq
  have ho := h.at_ t (by simp) q (by rw [<- ht]; exact hq)
  rw [eq] at ho hd
  rw [r2] at ho
  rw [ho, zat9 _ _ (by rw [hwl]; exact hrn), hwl, hd]
 ·rw [if_neg (fun h2 => hb h2.1)]
  refine h.else_ b (fun i hi e => hb ?_)
  have := (rk_st cs (k := cs.length) (i := i) (by rw [hn]; exact hi)).2.2
  rw [e] at this
  exact this
def encG (M : List (NT × Value)) : List Tg := M.map fun p => ((p.1.w : Int), (p.1.num : Int), p.2)
theorem zw9 (M : List (NT × Value)) : (encG M).length = M.length := by simp [encG]
theorem zsq9 (M : List (NT × Value)) (t : NT) (bv : Value) : encG (M ++ [(t, bv)]) = encG M ++ [((t.w : Int), (t.num : Int), bv)] := by simp [encG]
structure TL (w : World) (go : Nat) (v : Value) (sb : Nat -> Nat) (M : List (NT × Value)) : Prop where
 own : OwnsG w v (encG M)
 by_ : ∀ p ∈ M, Owns .i64 3 w p.2 (p.1.ls.map fun q => (sb q.1 : Int))
 gt : ∀ p ∈ M, ∀ k, p.2.ownBlock = some k -> go < k
 sl : ∀ p ∈ M, ∃ a l c, p.2 = .slice a l c
theorem TL.below {w w' : World} {go : Nat} {v : Value} {sb : Nat -> Nat} {M : List (NT × Value)} (h : TL w go v sb M) (hb : Below w.heap.size w w') : TL w' go v sb M :=
 ⟨h.own.below hb, fun p hp => (h.by_ p hp).below hb, h.gt, h.sl⟩
theorem TL.out {w w' : World} {go : Nat} {v : Value} {sb : Nat -> Nat} {M : List (NT × Value)} {n cap : Nat} {o : List Int} (h : TL w go v sb M) (ho : Owns .i64 3 w (.slice (some ⟨go, 0, none⟩) n cap) o) (ht : Tch (fun k => k = go) w w') : TL w' go v sb M :=
 ⟨h.own.tch ht (fun j hj e => h.own.ne_ints ho hj (by subst e; rfl)), fun p hp => (h.by_ p hp).tch ht (fun j hj e => by have := h.gt p hp j hj; omega), h.gt, h.sl⟩
theorem TL.sls {w : World} {go : Nat} {v : Value} {sb : Nat -> Nat} {M : List (NT × Value)} (h : TL w go v sb M) : Sls (encG M) := fun i hi => by
 rw [zw9] at hi
 have e : (encG M).getD i tg0 = (((M[i]).1.w : Int), ((M[i]).1.num : Int), (M[i]).2) := by simp [encG, List.getD_eq_getElem?_getD, hi]
 rw [e]
 exact h.sl _ (List.getElem_mem hi)
theorem TL.push {w w' : World} {go : Nat} {v v' : Value} {sb : Nat -> Nat} {M : List (NT × Value)} (h : TL w go v sb M) (t : NT) (bv : Value) (hbv : Owns .i64 3 w bv (t.ls.map fun q => (sb q.1 : Int))) (hgt : ∀ k, bv.ownBlock = some k -> go < k) (hsl : ∃ a l c, bv = .slice a l c)
  (ho : OwnsG w' v' (encG M ++ [((t.w : Int), (t.num : Int), bv)])) (hg : Grew w w' v v') : TL w' go v' sb (M ++ [(t, bv)]) := by
 have hk : ∀ {u : Value} {xs : List Int}, Owns .i64 3 w u xs -> Owns .i64 3 w' u xs := fun hu => hu.tch hg.tch (fun j hj e => h.own.ne_ints hu e hj)
 refine ⟨by rw [zsq9]; exact ho, fun p hp => ?_, fun p hp => ?_, fun p hp => ?_⟩
 ·rcases List.mem_append.1 hp with hp | hp
  ·exact hk (h.by_ p hp)
  ·simp at hp; subst hp; exact hk hbv
 ·rcases List.mem_append.1 hp with hp | hp
  ·exact h.gt p hp
  ·simp at hp; subst hp; exact hgt
 ·rcases List.mem_append.1 hp with hp | hp
  ·exact h.sl p hp
  ·simp at hp; subst hp; exact hsl
theorem TL.keeps {w w' : World} {go : Nat} {v v' : Value} {sb : Nat -> Nat} {M : List (NT × Value)} (h : TL w go v sb M) (hg : Grew w w' v v') {u : Value} {xs : List Int} (hu : Owns .i64 3 w u xs) : Owns .i64 3 w' u xs :=
 hu.tch hg.tch (fun j hj e => h.own.ne_ints hu e hj)
theorem len2 {α : Type} {l : List α} (h : 2 <= l.length) : ∃ a b r, l = a :: b :: r := by
 match l, h with
 | a :: b :: r, _ => exact ⟨a, b, r, rfl⟩
def nt0 : NT × Value := (⟨0, 0, []⟩, .slice none 0 0)
theorem zve9 (M : List (NT × Value)) (i k : Nat) : wo tg0 (encG M) i k = encG (wo nt0 M i k) := by
 unfold encG
 rw [wo_map]
 rfl
theorem zjk9 (M : List (NT × Value)) (i : Nat) : (encG M).getD i tg0 = (((M.getD i nt0).1.w : Int), ((M.getD i nt0).1.num : Int), (M.getD i nt0).2) := by
 unfold encG
 rw [List.getD_eq_getElem?_getD, List.getElem?_map, List.getD_eq_getElem?_getD]
 cases M[i]? <;> rfl
theorem TL.pick {w : World} {go : Nat} {v : Value} {sb : Nat -> Nat} {M : List (NT × Value)} (h : TL w go v sb M) {a : NT} {r : List NT} (hp : (M.map (·.1)).Perm (a :: r)) (hlex : Lex (a :: r)) (hnd : ((a :: r).map (·.num)).Nodup) (hl : M.length <= 256) :
  ∃ g lc ia bv, v = .slice (some ⟨g, 0, none⟩) M.length lc /\ M.length <= lc /\ lc <= maxLen /\ g < w.heap.size /\ ia < M.length /\ M.getD ia nt0 = (a, bv) /\ (w.cell? ⟨g, ia * 3, none⟩ = some (.int .i64 (a.w : Int)) /\ w.cell? ⟨g, ia * 3 + 1, none⟩ = some (.int .i64 (a.num : Int)) /\ w.cell? ⟨g, ia * 3 + 2, none⟩ = some bv) ∧
   Owns .i64 3 w bv (a.ls.map fun q => (sb q.1 : Int)) /\ (∀ k, bv.ownBlock = some k -> go < k) /\ (∃ x l c, bv = .slice x l c) /\ ((wo nt0 M ia M.length).map (·.1)).Perm r /\ (wo nt0 M ia M.length).length + 1 = M.length /\ (∀ p ∈ wo nt0 M ia M.length, p ∈ M) ∧
   Calls Tryz.prog 97 #[v] w fun e w' => e = .returned (.int .i64 (ia : Int)) /\ Tch (fun _ => False) w w' := by
 have hM : M.length = r.length + 1 := by have := hp.length_eq; simpa using this
 obtain ⟨g, lc, hv, hgl, hlc, hcm, hcell⟩ := h.own.shape (by rw [zw9]; omega)
 rw [zw9] at hv hlc hcell
 obtain ⟨ps, hps⟩ : ∃ ps : List (Int × Int), ps = M.map fun p => key p.1 := ⟨_, rfl⟩
 have hpl : ps.length = M.length := by rw [hps]; simp
 have hG : ∀ i, i < M.length -> G ps i = key (M.getD i nt0).1 := fun i hi => by
  rw [hps]
  simp [G, List.getD_eq_getElem?_getD, hi]
 obtain ⟨ia, hia⟩ : ∃ ia, lst ps (M.length - 1) = ia := ⟨_, rfl⟩
 have hil : ia < M.length := by have := lst_le ps (M.length - 1); omega
 have hmin := zsa9 ps (M.length - 1)
 rw [hia] at hmin
 have hget : ∀ i, i < M.length -> (M.map (·.1)).getD i nt0.1 = (M.getD i nt0).1 := fun i hi => by simp [List.getD_eq_getElem?_getD, hi]
 have ha := zpz9 hp hlex hnd nt0.1 ia (by simpa using hil) (fun j hj => by
  rw [List.length_map] at hj
  have := hmin j (by omega)
  rw [hG ia hil, hG j hj] at this
  rw [hget ia hil, hget j hj]
  exact this)
 rw [hget ia hil] at ha
 have hmem : M.getD ia nt0 ∈ M := by rw [List.getD_eq_getElem?_getD, List.getElem?_eq_getElem hil]; exact List.getElem_mem hil
 have hca := hcell ia hil
 rw [zjk9, ha] at hca
 have hwp := wo_all nt0 M ia hil
 have hcl : Calls Tryz.prog 97 #[v] w fun e w' => e = .returned (.int .i64 (ia : Int)) /\ Tch (fun _ => False) w w' := by
  have h1 := zrr9 g 0 lc ps w (by omega) (by omega) (fun i hi => by
   rw [hpl] at hi
   have := hcell i hi
   rw [zjk9] at this
   rw [hG i hi, Nat.zero_add]
   exact ⟨this.1, this.2.1⟩)
  rw [hpl, hia] at h1
  rw [hv]
  exact h1
 refine ⟨g, lc, ia, (M.getD ia nt0).2, hv, hlc, hcm, hgl, hil, by rw [<- ha], hca, ?_, h.gt _ hmem, h.sl _ hmem, ?_, ?_, fun p hp => hwp.mem_iff.2 (by simp [hp]), hcl⟩
 ·have := h.by_ _ hmem
  rw [ha] at this
  exact this
 ·have h1 := (hwp.map (·.1)).symm.trans hp
  rw [List.map_cons, ha] at h1
  exact (List.perm_cons a).1 h1
 ·have := hwp.length_eq
  simp at this
  omega
structure Own1 (cs : List Int) : Prop where
 one : 1 <= cs.length
 most : cs.length <= 256
 each : ∀ i, 0 <= cs.getD i 0 /\ cs.getD i 0 <= 4294967296
 last : 0 < cs.getD (cs.length - 1) 0
theorem Own1.st {cs : List Int} (h : Own1 cs) : st cs cs.length = st cs (cs.length - 1) ++ [cs.length - 1] := by
 have := zay9 cs (cs.length - 1)
 rw [if_pos h.last, show cs.length - 1 + 1 = cs.length by have := h.one; omega] at this
 exact this
theorem Own1.lastSt {cs : List Int} (h : Own1 cs) : lastSt cs + 1 = cs.length := by
 have := h.one
 unfold Go.Proofs.YtobenjkacpipeaaGreat.lastSt
 rw [h.st]
 simp [List.getD_eq_getElem?_getD]
 omega
theorem Own1.pos {cs : List Int} (h : Own1 cs) : 1 <= (Go.Proofs.YtobenjkacpipeaaGreat.st cs cs.length).length := by rw [h.st]; simp
def dpS (cs : List Int) : List Int := if (st cs cs.length).length = 1 then [1] else deps (wt cs cs.length)
def TPostH (cs : List Int) (w : World) (e : Ending) (w' : World) : Prop :=
 ∃ ov m, e = .returned (.tuple #[ov, .int .i64 m]) /\ Owns .i64 3 w' ov (lens cs (dpS cs)) /\ (m <= 11 ↔ ∀ b, (lens cs (dpS cs)).getD b 0 <= 11) /\ (∀ k, ov.ownBlock = some k -> w.heap.size <= k) /\ Below w.heap.size w w'
set_option maxRecDepth 100000 in
theorem znk9 (v : Value) (cs : List Int) (w : World) (hr : Rd .i64 w v cs) (hk : Own1 cs) :
  Calls Tryz.prog 59 #[v] w fun e w' => TPostH cs w e w' := by
 obtain ⟨a, cap, hv, hlc, hcm, _, hcc⟩ := id hr
 subst hv
 obtain ⟨cb, co, ha, hcl⟩ : ∃ b o, a = some ⟨b, o, none⟩ /\ ∀ i, i < cs.length -> w.cell? ⟨b, o + i, none⟩ = some (.int .i64 (cs.getD i 0)) := by
  rcases hcc with h | h
  ·have := hk.one; rw [h] at this; simp at this
  ·exact h
 subst ha
 have HC : Hid (∀ i, i < cs.length -> w.cell? ⟨cb, co + i, none⟩ = some (.int .i64 (cs.getD i 0))) := hcl
 have HCL : Hid (cb < w.heap.size) := World.block_lt_of_cell? w ⟨cb, co + 0, none⟩ (hcl 0 hk.one)
 have HK : Hid (Own1 cs) := hk
 have hl1 := hk.one
 have hl2 := hk.most
 have hcm2 : cap <= 9223372036854775807 := by unfold maxLen at hcm; omega
 obtain ⟨n, hn⟩ : ∃ n, (st cs cs.length).length = n := ⟨_, rfl⟩
 have hn1 : 1 <= n := by rw [<- hn]; exact hk.pos
 have hn2 : n <= 256 := by rw [<- hn]; exact Nat.le_trans (st_le _ _) hk.most
 have HN : Hid ((st cs cs.length).length = n) := hn
 obtain ⟨sb, hsb⟩ : ∃ sb : Nat -> Nat, Hid ((fun i => (st cs cs.length).getD i 0) = sb) := ⟨_, rfl⟩
 have HSB : Hid (∀ i, i < n -> sb i < cs.length /\ rk cs (sb i) = i /\ 0 < cs.getD (sb i) 0) := fun i hi => by
  have := rk_st cs (k := cs.length) (i := i) (by rw [hn]; exact hi)
  rw [<- hsb.out]
  exact ⟨this.2.1, this.1, this.2.2⟩
 obtain ⟨c, hc⟩ : ∃ c : Nat -> Nat, Hid (cw (wt cs cs.length) = c) := ⟨_, rfl⟩
 have HCW : Hid (∀ i, i < n -> (c i : Int) = cs.getD (sb i) 0) := fun i hi => by
  have h0 : i < (st cs cs.length).length := by rw [hn]; exact hi
  have e : (wt cs cs.length).getD i 0 = cs.getD ((st cs cs.length).getD i 0) 0 := by simp [wt, List.getD_eq_getElem?_getD, h0]
  have h1 := (HSB.out i hi).2.2
  rw [<- hc.out, <- hsb.out]
  rw [<- hsb.out] at h1
  show (((wt cs cs.length).getD i 0).toNat : Int) = _
  rw [e]
  simp only at h1 ⊢
  omega
 obtain ⟨j0, hj, hy0, hy1, hy2⟩ := elem64.info
 clear hcc hcl hk hcm hr hn
 go_enter Tryz.func59, Tryz.ntmps59
 go_wp2_with (at_make; refine wpList_make_full _ rfl (.tmp 17) (.tmp 17) 56 rfl 0 3 j0 _ 1 Tryz.underlying56 hj hy0 hy1 .i64 .i64 _ _ cs.length rfl rfl rfl rfl (by rw [hy2]; omega) (by unfold maxLen; omega) (Nat.zero_le _) ?_)
 intro w2 ho2 hg2
 have b2 : Below w.heap.size w w2 := (Below.refl _ _).grown hg2 (Nat.le_refl _) (fun k e => by cases e)
 obtain ⟨go, hgo⟩ : ∃ go, w.heap.size = go := ⟨_, rfl⟩
 have O2 : Hid (Owns .i64 3 w2 (.slice (some ⟨go, 0, none⟩) cs.length cs.length) (List.replicate cs.length 0)) := by
  show w2.ownsRow _ _ _ _ _ _
  rw [toList_madeCells_one, hgo] at ho2
  simp only [List.length_replicate, List.map_replicate]
  exact ho2
 have B2 : Hid (Below w.heap.size w w2) := b2
 rw [hgo]
 clear ho2 hg2 b2 hj hy0 hy1 hy2
 go_wp2_with fail
 go_loopw [5, 6] (fun l i wr => ∃ (k : Nat) (M : List (NT × Value)) (l0 : Value), k <= cs.length /\ i = .int .i64 k /\ l0 = l /\ Hid (M.map (·.1) = L1 c (rk cs k)) /\ Hid (TL wr go l0 sb M) /\ Hid (Owns .i64 3 wr (.slice (some ⟨go, 0, none⟩) cs.length cs.length) (List.replicate cs.length 0)) /\ Hid (∀ j, l0.ownBlock = some j -> w.heap.size <= j) /\ Hid (Below w.heap.size w wr)) (fun _ i _ => cs.length - (intOf i).toNat)
 case atStart => exact ⟨0, [], _, Nat.zero_le _, rfl, rfl, rfl, ⟨zle9 _, (fun p hp => by cases hp), (fun p hp => by cases hp), (fun p hp => by cases hp)⟩, O2, (fun j e => by cases e), B2⟩
 case round =>
  clear O2 B2
  obtain ⟨k, M, l0, hk, rfl, rfl, HM, HT, OO, HNL, BW⟩ := hrel
  by_cases hlt : k < cs.length
  ·have hi1 : (k : Int) < (cs.length : Int) := by omega
   have cx : wr.cell? ⟨cb, co + k, none⟩ = some (.int .i64 (cs.getD k 0)) := by rw [BW.out.cell (p := ⟨cb, co + k, none⟩) HCL.out]; exact HC.out k hlt
   have HML : Hid (M.length = rk cs k) := by show _ = _; have := congrArg List.length HM.out; simpa [L1] using this
   obtain ⟨la, lc, hlv, hlc2, hlm2⟩ := HT.out.own.len
   rw [zw9, HML.out] at hlv hlc2
   subst hlv
   have hlm3 : lc <= 9223372036854775807 := by unfold maxLen at hlm2; omega
   by_cases hx : 0 < cs.getD k 0
   ·obtain ⟨hr1, hr2⟩ := st_get cs (b := k) (k := cs.length) hlt hx
    rw [HN.out] at hr1
    have hsr : sb (rk cs k) = k := by rw [<- hsb.out]; exact hr2
    have hcr := HCW.out _ hr1
    rw [hsr] at hcr
    have hrs : rk cs (k + 1) = rk cs k + 1 := by
     have := zay9 cs k
     rw [if_pos hx] at this
     unfold rk
     rw [this]; simp
    have HL1 : Hid (L1 c (rk cs (k + 1)) = L1 c (rk cs k) ++ [⟨c (rk cs k), rk cs k, [(rk cs k, 0)]⟩]) := by
     show _ = _
     rw [hrs]; unfold L1; rw [List.range_succ, List.map_append]; rfl
    have hxb := (HK.out.each k).2
    rw [<- hcr] at cx hx hxb
    obtain ⟨r, hr⟩ : ∃ r, rk cs k = r := ⟨_, rfl⟩
    rw [hr] at HM HML HL1 hsr hr1 hcr hlc2 cx hx hxb HT HNL ⊢
    obtain ⟨X, hX⟩ : ∃ X, c r = X := ⟨_, rfl⟩
    rw [hX] at HL1 cx hx hxb
    have hX1 : (0 : Int) < (X : Int) := hx
    have hX0 : 0 < X := by omega
    have b1 : Below wr.heap.size wr (wr.alloc (.cells #[.int .i64 (k : Int)] 3)) := (Below.refl _ _).alloc (Nat.le_refl _) _
    have T1 : Hid (TL (wr.alloc (.cells #[.int .i64 (k : Int)] 3)) go (.slice la r lc) sb M) := HT.out.below b1
    have OB : Hid (Owns .i64 3 (wr.alloc (.cells #[.int .i64 (k : Int)] 3)) (.slice (some ⟨wr.heap.size, 0, none⟩) 1 1) [(k : Int)]) := zxb9 wr (k : Int)
    have OW : Hid (Owns .i64 3 (wr.alloc (.cells #[.int .i64 (k : Int)] 3)) (.slice (some ⟨go, 0, none⟩) cs.length cs.length) (List.replicate cs.length 0)) := OO.out.below b1
    have BW1 : Hid (Below w.heap.size w (wr.alloc (.cells #[.int .i64 (k : Int)] 3))) := BW.out.trans (b1.mono BW.out.size)
    have HGT : Hid (go < wr.heap.size) := by have := OO.out.lt go rfl; exact this
    have HSR : Hid (sb r = k) := hsr
    have HMM : Hid ((encG M).length <= 256) := by show _ <= _; rw [zw9, HML.out]; omega
    have HW1 : Hid ((wr.alloc (.cells #[.int .i64 (k : Int)] 3)).heap.size = wr.heap.size + 1) := by show _ = _; simp
    clear hr hX hcr hsr hrs b1 hr2 HT OO
    go_wp2_with (at_builtin; refine zcn9 (wr.alloc (.cells #[.int .i64 (k : Int)] 3)) rfl (.tmp 30) (.tmp 40) rfl (.slice la r lc) (encG M) rfl T1.out.own (X : Int) (r : Int) (.slice (some ⟨wr.heap.size, 0, none⟩) 1 1) ⟨_, _, _, rfl⟩ ?h1 ?h2 ?_; (case h1 => rw [HW1.out]; rfl); (case h2 => have := HMM.out; omega))
    intro l2 w3 ho3 hg3
    have TT : Hid (TL w3 go l2 sb (M ++ [(⟨X, r, [(r, 0)]⟩, .slice (some ⟨wr.heap.size, 0, none⟩) 1 1)])) := T1.out.push ⟨X, r, [(r, 0)]⟩ _ (by show Owns _ _ _ _ [(sb r : Int)]; rw [HSR.out]; exact OB.out) (fun k hk => by simp [Value.ownBlock] at hk; rw [<- hk]; exact HGT.out) ⟨_, _, _, rfl⟩ ho3 hg3
    have OO3 : Hid (Owns .i64 3 w3 (.slice (some ⟨go, 0, none⟩) cs.length cs.length) (List.replicate cs.length 0)) := T1.out.keeps hg3 OW.out
    have h3 := hg3.onto BW1.out HNL.out
    have B3 : Hid (Below w.heap.size w w3) := h3.1
    have N3 : Hid (∀ j, l2.ownBlock = some j -> w.heap.size <= j) := h3.2
    have HM3 : Hid ((M ++ [((⟨X, r, [(r, 0)]⟩ : NT), (.slice (some ⟨wr.heap.size, 0, none⟩) 1 1 : Value))]).map (·.1) = L1 c (rk cs (k + 1))) := by show _ = _; rw [List.map_append, HM.out, HL1.out]; rfl
    clear ho3 hg3 h3 T1 OB OW BW1 HNL cx
    go_wp2_with fail
    go_roundw
    case rel => exact ⟨k + 1, _, _, by omega, by go_num, rfl, HM3, TT, OO3, N3, B3⟩
    case measure => simp [intOf]; omega
   ·have hx1 : ¬ (0 : Int) < cs.getD k 0 := hx
    have hrs : rk cs (k + 1) = rk cs k := by
     have := zay9 cs k
     rw [if_neg hx] at this
     unfold rk
     rw [this]
    have HM3 : Hid (M.map (·.1) = L1 c (rk cs (k + 1))) := by rw [hrs]; exact HM
    generalize cs.getD k 0 = x at *
    clear hrs hx
    go_wp2_with fail
    first
     | exact ⟨⟨k + 1, M, _, by omega, by go_num, rfl, HM3, HT, OO, HNL, BW⟩, by simp [intOf]; omega⟩
     | (go_roundw
        case rel => exact ⟨k + 1, M, _, by omega, by go_num, rfl, HM3, HT, OO, HNL, BW⟩
        case measure => simp [intOf]; omega)
  ·have hk0 : k = cs.length := by omega
   have hkn : ¬ (k : Int) < (cs.length : Int) := by omega
   rw [hk0] at HM
   have HM2 : Hid (M.map (·.1) = L1 c n) := by have h := HM.out; rw [show rk cs cs.length = n from HN.out] at h; exact h
   have HML : Hid (M.length = n) := by show _ = _; have := congrArg List.length HM2.out; simpa [L1] using this
   obtain ⟨la, lc, hlv, hlc2, hlm2⟩ := HT.out.own.len
   rw [zw9, HML.out] at hlv hlc2
   subst hlv
   have hlm3 : lc <= 9223372036854775807 := by unfold maxLen at hlm2; omega
   clear hk hlt hk0 HM
   by_cases hn0 : n = 1
   ·obtain ⟨p0, hM1⟩ : ∃ p0, M = [p0] := by
     have := HML.out
     rw [hn0] at this
     match M, this with
     | [p0], _ => exact ⟨p0, rfl⟩
    subst hM1
    have hp0 : p0.1 = ⟨c 0, 0, [(0, 0)]⟩ := by have := HM2.out; rw [hn0] at this; simpa [L1] using this
    obtain ⟨gl, lc', hv', hgl', _, _, hcell'⟩ := HT.out.own.shape (by rw [zw9]; simp)
    have hc2 := (hcell' 0 (by rw [zw9]; simp)).2.2
    rw [zjk9] at hc2
    have hob := HT.out.by_ p0 (by simp)
    rw [hp0] at hob
    obtain ⟨gb, cpb, hvb, hgbl, hcpb, hcmb, hcb, _⟩ := hob.shape (by simp)
    have hcb0 := hcb 0 (by simp)
    simp only [List.map_cons, List.map_nil, List.length_cons, List.length_nil] at hvb hcpb
    have c2 : wr.cell? ⟨gl, 2, none⟩ = some (.slice (some ⟨gb, 0, none⟩) 1 cpb) := by rw [<- hvb]; exact hc2
    have c3 : wr.cell? ⟨gb, 0, none⟩ = some (.int .i64 (sb 0 : Int)) := hcb0
    have hs0 := (HSB.out 0 (by omega)).1
    obtain ⟨go', cpo', hvo', _, _, _, hcello, hfzo⟩ := OO.out.shape (by simp; omega)
    simp only [Value.slice.injEq, Option.some.injEq, Addr.mk.injEq] at hvo'
    obtain ⟨⟨rfl, _⟩, hxx1, hxx2⟩ := hvo'
    have co_ := hcello (sb 0) (by simp; exact hs0)
    have fo_ := hfzo (sb 0)
    have hgn : (List.replicate cs.length (0 : Int)).getD (sb 0) 0 = 0 := zey9 _ _
    rw [hgn] at co_
    have HD1 : Hid (lens cs (dpS cs) = (List.replicate cs.length (0 : Int)).set (sb 0) 1) := by
     show _ = _
     have hst1 : (st cs cs.length).length = 1 := by rw [HN.out]; exact hn0
     have hd : dpS cs = [1] := by unfold dpS; rw [if_pos hst1]
     have h1 := zgg9 cs [1] 0 (by rw [hst1]; decide)
     rw [zgj9, HK.out.lastSt] at h1
     rw [hd]
     unfold lens
     rw [hst1, h1, <- hsb.out]
     rfl
    have O3 : Hid (Owns .i64 3 (wr.setCell ⟨go, sb 0, none⟩ (.int .i64 1)) (.slice (some ⟨go, 0, none⟩) cs.length cs.length) (lens cs (dpS cs))) := by rw [HD1.out]; exact OO.out.set (sb 0) 1
    have B3 : Hid (Below w.heap.size w (wr.setCell ⟨go, sb 0, none⟩ (.int .i64 1))) := BW.out.trans ((Tch.setCell (Tch.refl (fun j => j = go) wr) (p := ⟨go, sb 0, none⟩) (fun _ => rfl) _).below BW.out.size (fun j e => by rw [e]; omega))
    have H11 : Hid (∀ b, (lens cs (dpS cs)).getD b 0 <= 11) := fun b => by
     rw [HD1.out, zax9]
     split
     ·omega
     ·rw [zey9]; omega
    have hl1' : la = some ⟨gl, 0, none⟩ /\ 1 <= lc := by
     rw [zw9] at hv'
     simp only [Value.slice.injEq] at hv'
     exact ⟨hv'.1, by omega⟩
    obtain ⟨rfl, hlc3⟩ := hl1'
    obtain ⟨S0, hS0⟩ : ∃ S0, sb 0 = S0 := ⟨_, rfl⟩
    rw [hS0] at c3 hs0 co_ fo_ O3 B3
    have hi0 : (S0 : Int) < (cs.length : Int) := by omega
    have hz1 : ((n : Int) == 1) = true := by rw [beq_iff_eq]; omega
    have HGO : Hid (w.heap.size <= go) := by show _ <= _; omega
    subst hn0
    clear hxx1 hxx2 hgn hcell' hc2 hob hcb hcb0 hcello hfzo hvb hv' hp0 HM2 HML HT OO hS0 HNL
    go_wp2_with fail
    go_ret2
    exact ⟨_, 1, rfl, O3.out, ⟨fun _ => H11.out, fun _ => by decide⟩, fun j hj => by simp [Value.ownBlock] at hj; rw [<- hj]; exact HGO.out, B3.out⟩
   ·have hn3 : 2 <= n := by omega
    have hz1 : ((n : Int) == 1) = false := by rw [beq_eq_false_iff_ne]; omega
    have hpos : ∀ i, i < n -> 0 < c i := fun i hi => by have h1 := HCW.out i hi; have h2 := (HSB.out i hi).2.2; omega
    obtain ⟨S, hS⟩ : ∃ S, ((List.range n).map c).sum = S := ⟨_, rfl⟩
    have hSb : S <= 1099511627776 := by
     rw [<- hS]
     have : ∀ m, m <= n -> ((List.range m).map c).sum <= m * 4294967296 := by
      intro m
      induction m with
      | zero => intro _; simp
      | succ m ih =>
       intro hm
       rw [List.range_succ, List.map_append, List.sum_append]
       have h1 := ih (by omega)
       have h2 := HCW.out m (by omega)
       have h3 := (HK.out.each (sb m)).2
       simp
       omega
     have := this n (Nat.le_refl _)
     omega
    have HJ0 : Hid (JT n n (L0 c n) (treeOf c n) S n) := by rw [<- hS]; exact JT.start c n hpos
    have HP0 : Hid ((M.map (·.1)).Perm (L0 c n)) := by rw [HM2.out]; exact zvi9 c n
    have HO0 : Hid (OI sb n (L0 c n) (List.replicate cs.length 0)) := ⟨fun t ht q hq => by
      rw [zey9]
      obtain ⟨_, h2, _⟩ := zen9 c n
      rw [(h2 t ht).2] at hq
      simp at hq
      subst hq
      rfl, fun b _ => zey9 _ _⟩
    have HINJ : Hid (∀ i k, i < n -> k < n -> sb i = sb k -> i = k) := fun i k hi hk e => by
     have h1 := (HSB.out i hi).2.1
     have h2 := (HSB.out k hk).2.1
     rw [e] at h1
     omega
    have HSBL : Hid (∀ i, i < n -> sb i < cs.length) := fun i hi => (HSB.out i hi).1
    clear hS hpos
    go_wp2_with fail
    go_loopw [5, 7] (fun l nx wr => ∃ (M : List (NT × Value)) (L : List NT) (N f : Nat) (o : List Int) (l0 : Value), l0 = l /\ nx = .int .i64 N /\ 1 <= M.length /\ n <= N /\ N + M.length = 2 * n /\ Hid ((M.map (·.1)).Perm L) /\ Hid (JT N n L (treeOf c n) S f) /\ Hid (OI sb n L o) /\ Hid (o.length = cs.length) /\ Hid (TL wr go l0 sb M) /\ Hid (Owns .i64 3 wr (.slice (some ⟨go, 0, none⟩) cs.length cs.length) o) /\ Hid (∀ j, l0.ownBlock = some j -> w.heap.size <= j) /\ Hid (Below w.heap.size w wr)) (fun l _ _ => match l with | .slice _ n _ => n | _ => 0)
    case atStart => exact ⟨M, L0 c n, n, n, List.replicate cs.length 0, _, rfl, rfl, by rw [HML.out]; omega, Nat.le_refl _, by rw [HML.out]; omega, HP0, HJ0, HO0, (List.length_replicate : (List.replicate cs.length (0 : Int)).length = cs.length), HT, OO, HNL, BW⟩
    case round =>
     clear HP0 HJ0 HO0 HT OO HNL BW HML HM2 hlc2 hlm2 hlm3
     obtain ⟨M, L, N, f, o, l0, rfl, rfl, hM1, hnN, hNM, HP, HJ, HO, HOL, HT, OO, HNL, BW⟩ := hrel
     by_cases hM2 : 2 <= M.length
     ·obtain ⟨a, b, r, hL⟩ := len2 (l := L) (by have := HP.out.length_eq; rw [List.length_map] at this; omega)
      subst hL
      obtain ⟨PP, hJS⟩ := HJ.out.js
      have hlex := hJS.lex
      have hndA := hJS.nd
      have hlexB : Lex (b :: r) := by unfold Lex at hlex ⊢; rw [List.pairwise_cons] at hlex; exact hlex.2
      have hndB : ((b :: r).map (·.num)).Nodup := by rw [List.map_cons, List.nodup_cons] at hndA; exact hndA.2
      have hsum := hJS.sum
      simp only [List.map_cons, List.sum_cons] at hsum
      have hfu := hJS.fuel
      simp only [List.length_cons] at hfu
      obtain ⟨f', hf'⟩ : ∃ f', f = f' + 1 := ⟨f - 1, by omega⟩
      subst hf'
      obtain ⟨g, lc1, ia, bva, hv, hlc1, hcm1, hgl, hia, hgA, ⟨ca0, ca1, ca2⟩, hoA, hgtA, hslA, hpA, hlA, hmA, hcallA⟩ := HT.out.pick HP.out hlex hndA (by omega)
      subst hv
      obtain ⟨xa, xl, xc, hbva⟩ := hslA
      subst hbva
      have HCA : Hid (Calls Tryz.prog 97 #[.slice (some ⟨g, 0, none⟩) M.length lc1] wr fun e w' => e = .returned (.int .i64 (ia : Int)) /\ Tch (fun _ => False) wr w') := hcallA
      have HOA : Hid (Owns .i64 3 wr (.slice xa xl xc) (a.ls.map fun q => (sb q.1 : Int))) := hoA
      have HGTA : Hid (∀ k, (Value.slice xa xl xc).ownBlock = some k -> go < k) := hgtA
      have HPA : Hid (((wo nt0 M ia M.length).map (·.1)).Perm (b :: r)) := hpA
      have HMA : Hid (∀ p ∈ wo nt0 M ia M.length, p ∈ M) := hmA
      have HGL : Hid (g < wr.heap.size) := hgl
      have HCC : Hid (wr.cell? ⟨g, ia * 3, none⟩ = some (.int .i64 (a.w : Int)) /\ wr.cell? ⟨g, ia * 3 + 1, none⟩ = some (.int .i64 (a.num : Int)) /\ wr.cell? ⟨g, ia * 3 + 2, none⟩ = some (.slice xa xl xc)) := ⟨ca0, ca1, ca2⟩
      have HLXB : Hid (Lex (b :: r) /\ ((b :: r).map (·.num)).Nodup) := ⟨hlexB, hndB⟩
      have hM3 : (1 : Int) < (M.length : Int) := by omega
      have hia2 : (ia : Int) < (M.length : Int) := by omega
      have hlc2 : lc1 <= 9223372036854775807 := by unfold maxLen at hcm1; omega
      have hab : a.w + b.w <= 1099511627776 := by omega
      have hN1 : N <= 512 := by omega
      clear hJS hlex hndA hlexB hndB hsum hfu hcallA hoA hgtA hpA hmA hgl ca0 ca1 ca2 hcm1
      go_wp2_with fail
      refine HCA.out.mono ?_
      rintro e w3 ⟨rfl, ht3⟩
      have b3 : Below wr.heap.size wr w3 := ht3.below (Nat.le_refl _) (fun k e => e.elim)
      have T3 : Hid (TL w3 go (.slice (some ⟨g, 0, none⟩) M.length lc1) sb M) := HT.out.below b3
      have O3 : Hid (Owns .i64 3 w3 (.slice (some ⟨go, 0, none⟩) cs.length cs.length) o) := OO.out.below b3
      have OA3 : Hid (Owns .i64 3 w3 (.slice xa xl xc) (a.ls.map fun q => (sb q.1 : Int))) := HOA.out.below b3
      have B3 : Hid (Below w.heap.size w w3) := BW.out.trans (b3.mono BW.out.size)
      have ca0 : w3.cell? ⟨g, ia * 3, none⟩ = some (.int .i64 (a.w : Int)) := by rw [b3.cell (p := ⟨g, ia * 3, none⟩) HGL.out]; exact HCC.out.1
      have ca1 : w3.cell? ⟨g, ia * 3 + 1, none⟩ = some (.int .i64 (a.num : Int)) := by rw [b3.cell (p := ⟨g, ia * 3 + 1, none⟩) HGL.out]; exact HCC.out.2.1
      have ca2 : w3.cell? ⟨g, ia * 3 + 2, none⟩ = some (.slice xa xl xc) := by rw [b3.cell (p := ⟨g, ia * 3 + 2, none⟩) HGL.out]; exact HCC.out.2.2
      clear ht3 b3 HCA HT OO HOA BW HGL HCC
      go_wp2_with fail
      obtain ⟨ga, hga⟩ : ∃ ga, w3.heap.size = ga := ⟨_, rfl⟩
      obtain ⟨W1, hW1⟩ : ∃ W1, Hid (w3.alloc (.cells #[.int .i64 (a.w : Int), .int .i64 (a.num : Int), .slice xa xl xc] 120) = W1) := ⟨_, rfl⟩
      have HBA : Hid (W1.heap[ga]? = some (.cells #[.int .i64 (a.w : Int), .int .i64 (a.num : Int), .slice xa xl xc] 120 (0, 0))) := by rw [<- hW1.out, <- hga]; exact heap_alloc_new w3 _
      have b1 : Below w3.heap.size w3 W1 := by rw [<- hW1.out]; exact (Below.refl _ _).alloc (Nat.le_refl _) _
      have T1 : Hid (TL W1 go (.slice (some ⟨g, 0, none⟩) M.length lc1) sb M) := T3.out.below b1
      have O1 : Hid (Owns .i64 3 W1 (.slice (some ⟨go, 0, none⟩) cs.length cs.length) o) := O3.out.below b1
      have OA1 : Hid (Owns .i64 3 W1 (.slice xa xl xc) (a.ls.map fun q => (sb q.1 : Int))) := OA3.out.below b1
      have BW1 : Hid (Below w.heap.size w W1) := B3.out.trans (b1.mono B3.out.size)
      rw [hW1.out, hga]
      clear hW1 hga b1 T3 O3 OA3 B3 ca0 ca1 ca2
      refine (zfz9 _ (encG M) ia W1 T1.out.own (by rw [zw9]; omega) (by rw [zw9]; omega) T1.out.sls).mono ?_
      rintro e w4 ⟨⟨l1, rfl, ho4, hn4⟩, hb4⟩
      rw [zw9, zve9] at ho4
      obtain ⟨M1, hM1e⟩ : ∃ M1, wo nt0 M ia M.length = M1 := ⟨_, rfl⟩
      rw [hM1e] at ho4 HPA HMA hlA
      have T4 : Hid (TL w4 go l1 sb M1) := ⟨ho4, fun p hp => (T1.out.by_ p (HMA.out p hp)).below hb4, fun p hp => T1.out.gt p (HMA.out p hp), fun p hp => T1.out.sl p (HMA.out p hp)⟩
      have O4 : Hid (Owns .i64 3 w4 (.slice (some ⟨go, 0, none⟩) cs.length cs.length) o) := O1.out.below hb4
      have OA4 : Hid (Owns .i64 3 w4 (.slice xa xl xc) (a.ls.map fun q => (sb q.1 : Int))) := OA1.out.below hb4
      have B4 : Hid (Below w.heap.size w w4) := BW1.out.trans (hb4.mono BW1.out.size)
      have HBA4 : Hid (w4.heap[ga]? = some (.cells #[.int .i64 (a.w : Int), .int .i64 (a.num : Int), .slice xa xl xc] 120 (0, 0))) := by show _ = _; rw [hb4.block ga (Array.getElem?_eq_some_iff.1 HBA.out).1]; exact HBA.out
      obtain ⟨g1, lc4, ib, bvb, hv1, hlc4, hcm4, hgl4, hib, hgB, ⟨cb0, cb1, cb2⟩, hoB, hgtB, hslB, hpB, hlB, hmB, hcallB⟩ := T4.out.pick HPA.out HLXB.out.1 HLXB.out.2 (by omega)
      subst hv1
      obtain ⟨ya, yl, yc, hbvb⟩ := hslB
      subst hbvb
      have HCB : Hid (Calls Tryz.prog 97 #[.slice (some ⟨g1, 0, none⟩) M1.length lc4] w4 fun e w' => e = .returned (.int .i64 (ib : Int)) /\ Tch (fun _ => False) w4 w') := hcallB
      have HOB : Hid (Owns .i64 3 w4 (.slice ya yl yc) (b.ls.map fun q => (sb q.1 : Int))) := hoB
      have HGTB : Hid (∀ k, (Value.slice ya yl yc).ownBlock = some k -> go < k) := hgtB
      have HPB : Hid (((wo nt0 M1 ib M1.length).map (·.1)).Perm r) := hpB
      have HMB : Hid (∀ p ∈ wo nt0 M1 ib M1.length, p ∈ M1) := hmB
      have HGL4 : Hid (g1 < w4.heap.size) := hgl4
      have HCC4 : Hid (w4.cell? ⟨g1, ib * 3, none⟩ = some (.int .i64 (b.w : Int)) /\ w4.cell? ⟨g1, ib * 3 + 1, none⟩ = some (.int .i64 (b.num : Int)) /\ w4.cell? ⟨g1, ib * 3 + 2, none⟩ = some (.slice ya yl yc)) := ⟨cb0, cb1, cb2⟩
      have HNL4 : Hid (∀ j, (Value.slice (some ⟨g1, 0, none⟩) M1.length lc4).ownBlock = some j -> W1.heap.size <= j) := hn4
      have hib2 : (ib : Int) < (M1.length : Int) := by omega
      have hlc5 : lc4 <= 9223372036854775807 := by unfold maxLen at hcm4; omega
      have hM1l : M1.length <= 256 := by omega
      clear ho4 hn4 hb4 hM1e T1 O1 OA1 HMA HBA hcallB hoB hgtB hpB hmB hgl4 cb0 cb1 cb2 hcm4
      go_wp2_with fail
      refine HCB.out.mono ?_
      rintro e w5 ⟨rfl, ht5⟩
      have b5 : Below w4.heap.size w4 w5 := ht5.below (Nat.le_refl _) (fun k e => e.elim)
      have T5 : Hid (TL w5 go (.slice (some ⟨g1, 0, none⟩) M1.length lc4) sb M1) := T4.out.below b5
      have O5 : Hid (Owns .i64 3 w5 (.slice (some ⟨go, 0, none⟩) cs.length cs.length) o) := O4.out.below b5
      have OA5 : Hid (Owns .i64 3 w5 (.slice xa xl xc) (a.ls.map fun q => (sb q.1 : Int))) := OA4.out.below b5
      have OB5 : Hid (Owns .i64 3 w5 (.slice ya yl yc) (b.ls.map fun q => (sb q.1 : Int))) := HOB.out.below b5
      have B5 : Hid (Below w.heap.size w w5) := B4.out.trans (b5.mono B4.out.size)
      have HBA5 : Hid (w5.heap[ga]? = some (.cells #[.int .i64 (a.w : Int), .int .i64 (a.num : Int), .slice xa xl xc] 120 (0, 0))) := by show _ = _; rw [b5.block ga (Array.getElem?_eq_some_iff.1 HBA4.out).1]; exact HBA4.out
      have cb0 : w5.cell? ⟨g1, ib * 3, none⟩ = some (.int .i64 (b.w : Int)) := by rw [b5.cell (p := ⟨g1, ib * 3, none⟩) HGL4.out]; exact HCC4.out.1
      have cb1 : w5.cell? ⟨g1, ib * 3 + 1, none⟩ = some (.int .i64 (b.num : Int)) := by rw [b5.cell (p := ⟨g1, ib * 3 + 1, none⟩) HGL4.out]; exact HCC4.out.2.1
      have cb2 : w5.cell? ⟨g1, ib * 3 + 2, none⟩ = some (.slice ya yl yc) := by rw [b5.cell (p := ⟨g1, ib * 3 + 2, none⟩) HGL4.out]; exact HCC4.out.2.2
      clear ht5 b5 HCB T4 O4 OA4 HOB B4 HBA4 HGL4 HCC4
      go_wp2_with fail
      obtain ⟨gb, hgb⟩ : ∃ gb, w5.heap.size = gb := ⟨_, rfl⟩
      obtain ⟨W2, hW2⟩ : ∃ W2, Hid (w5.alloc (.cells #[.int .i64 (b.w : Int), .int .i64 (b.num : Int), .slice ya yl yc] 120) = W2) := ⟨_, rfl⟩
      have HBB : Hid (W2.heap[gb]? = some (.cells #[.int .i64 (b.w : Int), .int .i64 (b.num : Int), .slice ya yl yc] 120 (0, 0))) := by rw [<- hW2.out, <- hgb]; exact heap_alloc_new w5 _
      have b2 : Below w5.heap.size w5 W2 := by rw [<- hW2.out]; exact (Below.refl _ _).alloc (Nat.le_refl _) _
      have T2 : Hid (TL W2 go (.slice (some ⟨g1, 0, none⟩) M1.length lc4) sb M1) := T5.out.below b2
      have O2 : Hid (Owns .i64 3 W2 (.slice (some ⟨go, 0, none⟩) cs.length cs.length) o) := O5.out.below b2
      have OA2 : Hid (Owns .i64 3 W2 (.slice xa xl xc) (a.ls.map fun q => (sb q.1 : Int))) := OA5.out.below b2
      have OB2 : Hid (Owns .i64 3 W2 (.slice ya yl yc) (b.ls.map fun q => (sb q.1 : Int))) := OB5.out.below b2
      have BW2 : Hid (Below w.heap.size w W2) := B5.out.trans (b2.mono B5.out.size)
      have HBA2 : Hid (W2.heap[ga]? = some (.cells #[.int .i64 (a.w : Int), .int .i64 (a.num : Int), .slice xa xl xc] 120 (0, 0))) := by show _ = _; rw [b2.block ga (Array.getElem?_eq_some_iff.1 HBA5.out).1]; exact HBA5.out
      rw [hW2.out, hgb]
      clear hW2 hgb b2 T5 O5 OA5 OB5 B5 HBA5 cb0 cb1 cb2
      refine (zfz9 _ (encG M1) ib W2 T2.out.own (by rw [zw9]; omega) (by rw [zw9]; omega) T2.out.sls).mono ?_
      rintro e w6 ⟨⟨l2, rfl, ho6, hn6⟩, hb6⟩
      rw [zw9, zve9] at ho6
      obtain ⟨M2, hM2e⟩ : ∃ M2, wo nt0 M1 ib M1.length = M2 := ⟨_, rfl⟩
      rw [hM2e] at ho6 HPB HMB hlB
      have T6 : Hid (TL w6 go l2 sb M2) := ⟨ho6, fun p hp => (T2.out.by_ p (HMB.out p hp)).below hb6, fun p hp => T2.out.gt p (HMB.out p hp), fun p hp => T2.out.sl p (HMB.out p hp)⟩
      have O6 : Hid (Owns .i64 3 w6 (.slice (some ⟨go, 0, none⟩) cs.length cs.length) o) := O2.out.below hb6
      have OA6 : Hid (Owns .i64 3 w6 (.slice xa xl xc) (a.ls.map fun q => (sb q.1 : Int))) := OA2.out.below hb6
      have OB6 : Hid (Owns .i64 3 w6 (.slice ya yl yc) (b.ls.map fun q => (sb q.1 : Int))) := OB2.out.below hb6
      have B6 : Hid (Below w.heap.size w w6) := BW2.out.trans (hb6.mono BW2.out.size)
      have HBA6 : Hid (w6.heap[ga]? = some (.cells #[.int .i64 (a.w : Int), .int .i64 (a.num : Int), .slice xa xl xc] 120 (0, 0))) := by show _ = _; rw [hb6.block ga (Array.getElem?_eq_some_iff.1 HBA2.out).1]; exact HBA2.out
      have HBB6 : Hid (w6.heap[gb]? = some (.cells #[.int .i64 (b.w : Int), .int .i64 (b.num : Int), .slice ya yl yc] 120 (0, 0))) := by show _ = _; rw [hb6.block gb (Array.getElem?_eq_some_iff.1 HBB.out).1]; exact HBB.out
      have N6 : Hid (∀ j, l2.ownBlock = some j -> w.heap.size <= j) := fun j hj => Nat.le_trans BW2.out.size (hn6 j hj)
      have HLL : Hid (a.ls.length + b.ls.length <= 256) := by
       have h := HJ.out.lf.length_eq
       simp only [lvs, List.flatMap_cons, List.length_map, List.length_append, List.length_range] at h
       show _ <= _
       omega
      have ca2 : w6.cell? ⟨ga, 2, none⟩ = some (.slice xa xl xc) := by rw [cell_of_row w6 ga 2 _ _ (0, 0) HBA6.out]; rfl
      have cb2 : w6.cell? ⟨gb, 2, none⟩ = some (.slice ya yl yc) := by rw [cell_of_row w6 gb 2 _ _ (0, 0) HBB6.out]; rfl
      clear ho6 hn6 hb6 hM2e T2 O2 OA2 OB2 BW2 HBA2 HBB HMB
      go_wp2_with (at_builtin; refine zb9 _ rfl (.tmp 77) (.tmp 79) 56 rfl 3 .i64 8 elem64 (.slice none 0 0) [] rfl (zf9 _ _ _) (.slice xa xl xc) (a.ls.map fun q => (sb q.1 : Int)) rfl OA6.out.rd ?a1 ?a2 ?_; (case a1 => have := HLL.out; simp; omega); (case a2 => have := HLL.out; simp; omega))
      intro v7 w7 ho7 hg7
      obtain ⟨b7, n7⟩ := hg7.below
      have O7 : Hid (Owns .i64 3 w7 v7 (a.ls.map fun q => (sb q.1 : Int))) := ho7
      have B67 : Hid (Below w6.heap.size w6 w7) := b7
      have N7 : Hid (∀ k, v7.ownBlock = some k -> w6.heap.size <= k) := n7
      have OB7 : Hid (Owns .i64 3 w7 (.slice ya yl yc) (b.ls.map fun q => (sb q.1 : Int))) := OB6.out.below b7
      have cb2' : w7.cell? ⟨gb, 2, none⟩ = some (.slice ya yl yc) := by rw [b7.cell (p := ⟨gb, 2, none⟩) (Array.getElem?_eq_some_iff.1 HBB6.out).1]; exact cb2
      clear ho7 hg7 b7 n7 ca2 cb2
      go_wp2_with (at_builtin; refine zb9 _ rfl (.tmp 81) (.tmp 83) 56 rfl 3 .i64 8 elem64 v7 (a.ls.map fun q => (sb q.1 : Int)) rfl O7.out (.slice ya yl yc) (b.ls.map fun q => (sb q.1 : Int)) rfl OB7.out.rd ?a1 ?a2 ?_; (case a1 => have := HLL.out; simp; omega); (case a2 => have := HLL.out; simp; omega))
      intro v8 w8 ho8 hg8
      have h8 := hg8.onto B67.out N7.out
      have b68 := h8.1
      obtain ⟨ls, hls⟩ : ∃ ls, a.ls ++ b.ls = ls := ⟨_, rfl⟩
      have O8 : Hid (Owns .i64 3 w8 v8 (ls.map fun q => (sb q.1 : Int))) := by rw [<- hls, List.map_append]; exact ho8
      have N8 : Hid (∀ k, v8.ownBlock = some k -> w6.heap.size <= k) := h8.2
      have T8 : Hid (TL w8 go l2 sb M2) := T6.out.below b68
      have OO8 : Hid (Owns .i64 3 w8 (.slice (some ⟨go, 0, none⟩) cs.length cs.length) o) := O6.out.below b68
      have B8 : Hid (Below w.heap.size w w8) := B6.out.trans (b68.mono B6.out.size)
      have HBA8 : Hid (w8.heap[ga]? = some (.cells #[.int .i64 (a.w : Int), .int .i64 (a.num : Int), .slice xa xl xc] 120 (0, 0))) := by show _ = _; rw [b68.block ga (Array.getElem?_eq_some_iff.1 HBA6.out).1]; exact HBA6.out
      have HBB8 : Hid (w8.heap[gb]? = some (.cells #[.int .i64 (b.w : Int), .int .i64 (b.num : Int), .slice ya yl yc] 120 (0, 0))) := by show _ = _; rw [b68.block gb (Array.getElem?_eq_some_iff.1 HBB6.out).1]; exact HBB6.out
      have HGN8 : Hid (∀ k, v8.ownBlock = some k -> go < k) := fun k hk => by have h1 := N8.out k hk; have h2 := O6.out.lt go rfl; omega
      have HLL8 : Hid (ls.length <= 256) := by show _ <= _; rw [<- hls, List.length_append]; exact HLL.out
      have hne : ∀ t : NT, (w8.heap[go]? = some (.cells #[.int .i64 (t.w : Int)] 0 (0, 0))) -> True := fun _ _ => trivial
      have HGAO : Hid (ga ≠ go /\ gb ≠ go) := by
       obtain ⟨cur, hcur⟩ := zai9 (w := w8) OO8.out (k := go) rfl
       refine ⟨fun e => ?_, fun e => ?_⟩
       ·have := HBA8.out; rw [e, hcur] at this; simp at this
       ·have := HBB8.out; rw [e, hcur] at this; simp at this
      have hne2 : 0 < ls.length -> True := fun _ => trivial
      have HOJ0 : Hid (OJ sb ls o o 0) := ⟨rfl, fun p hp => by
        rw [if_neg (by omega), Int.add_zero]
        have hm : ls.getD p (0, 0) ∈ ls := by rw [List.getD_eq_getElem?_getD, List.getElem?_eq_getElem hp]; exact List.getElem_mem hp
        rw [<- hls] at hm
        rcases List.mem_append.1 hm with hm | hm
        ·rw [<- hls]; exact HO.out.at_ a (by simp) _ hm
        ·rw [<- hls]; exact HO.out.at_ b (by simp) _ hm, fun b _ => rfl⟩
      have HLF : Hid ((ls.map (·.1)).Nodup /\ ∀ q ∈ ls, q.1 < n) := by
       have hnd : ((lvs (a :: b :: r)).map (·.1)).Nodup := HJ.out.lf.nodup_iff.2 List.nodup_range
       have e : lvs (a :: b :: r) = ls ++ lvs r := by rw [<- hls]; simp [lvs]
       rw [e, List.map_append, List.nodup_append] at hnd
       refine ⟨hnd.1, fun q hq => ?_⟩
       have : q.1 ∈ List.range n := HJ.out.lf.mem_iff.1 (List.mem_map.2 ⟨q, by rw [e]; simp [hq], rfl⟩)
       simpa using this
      have HLS : Hid (a.ls ++ b.ls = ls) := hls
      have HDP : Hid (∀ oj k, k < ls.length -> OJ sb ls o oj k -> (ls.getD k (0, 0)).2 <= 100000) := fun oj k hk _ => by
       have hm : ls.getD k (0, 0) ∈ ls := by rw [List.getD_eq_getElem?_getD, List.getElem?_eq_getElem hk]; exact List.getElem_mem hk
       rw [<- hls] at hm
       have hd : (ls.getD k (0, 0)).2 + n <= N := by
        rcases List.mem_append.1 hm with hm | hm
        ·rw [<- hls]; exact HJ.out.dp a (by simp) _ hm
        ·rw [<- hls]; exact HJ.out.dp b (by simp) _ hm
       omega
      obtain ⟨va, vc, hv8, hvc8, hvm8, _, hcell8⟩ := id O8.out.rd
      rw [List.length_map] at hv8 hvc8 hcell8
      subst hv8
      have HC8 : Hid ((ls.map fun q => (sb q.1 : Int)) = [] ∨ ∃ b o, va = some ⟨b, o, none⟩ /\ ∀ i, i < ls.length -> w8.cell? ⟨b, o + i, none⟩ = some (.int .i64 ((ls.map fun q => (sb q.1 : Int)).getD i 0))) := hcell8
      have hvm9 : vc <= 9223372036854775807 := by unfold maxLen at hvm8; omega
      clear ho8 hg8 h8 b68 hne hne2 hls O7 OB7 T6 O6 OA6 OB6 B6 HBA6 HBB6 B67 N7 cb2' hvm8 hcell8
      go_wp2_with fail
      go_loopw [13] (fun j wr => ∃ (k : Nat) (oj : List Int), k <= ls.length /\ j = .int .i64 k /\ Hid (OJ sb ls o oj k) /\ Hid (Owns .i64 3 wr (.slice (some ⟨go, 0, none⟩) cs.length cs.length) oj) /\ Hid (Tch (fun b => b = go) w8 wr)) (fun j _ => ls.length - (intOf j).toNat)
      case atStart => exact ⟨0, o, Nat.zero_le _, rfl, HOJ0, OO8, Tch.refl _ _⟩
      case round =>
       clear HOJ0
       obtain ⟨k, oj, hk, rfl, HOJ, OJO, TJ⟩ := hrel
       by_cases hlt : k < ls.length
       ·have hi1 : (k : Int) < (ls.length : Int) := by omega
        obtain ⟨vb, vo, hva, hvcell⟩ : ∃ b o, va = some ⟨b, o, none⟩ /\ ∀ i, i < ls.length -> w8.cell? ⟨b, o + i, none⟩ = some (.int .i64 ((ls.map fun q => (sb q.1 : Int)).getD i 0)) := by
         rcases HC8.out with h | h
         ·have := congrArg List.length h; simp at this; rw [this] at hlt; simp at hlt
         ·exact h
        subst hva
        have hvk := hvcell k hlt
        have egk : (ls.map fun q => (sb q.1 : Int)).getD k 0 = (sb (ls.getD k (0, 0)).1 : Int) := by simp [List.getD_eq_getElem?_getD, hlt]
        rw [egk] at hvk
        have hvg := HGN8.out vb rfl
        have c1 : wr.cell? ⟨vb, vo + k, none⟩ = some (.int .i64 (sb (ls.getD k (0, 0)).1 : Int)) := by
         rw [TJ.out.cell (p := ⟨vb, vo + k, none⟩) (World.block_lt_of_cell? w8 ⟨vb, vo + k, none⟩ hvk) (fun e => by simp only at e; omega)]; exact hvk
        have hqm : ls.getD k (0, 0) ∈ ls := by rw [List.getD_eq_getElem?_getD, List.getElem?_eq_getElem hlt]; exact List.getElem_mem hlt
        have hsl := HSBL.out _ (HLF.out.2 _ hqm)
        have hin := HOJ.out.in_ k hlt
        rw [if_neg (Nat.lt_irrefl k), Int.add_zero] at hin
        obtain ⟨go', cpo', hvo', _, _, _, hcello, hfzo⟩ := OJO.out.shape (by rw [HOJ.out.len, HOL.out]; omega)
        simp only [Value.slice.injEq, Option.some.injEq, Addr.mk.injEq] at hvo'
        obtain ⟨⟨rfl, _⟩, hxx1, hxx2⟩ := hvo'
        have c2 := hcello (sb (ls.getD k (0, 0)).1) (by rw [HOJ.out.len, HOL.out]; exact hsl)
        have f2 := hfzo (sb (ls.getD k (0, 0)).1)
        rw [hin] at c2
        have HOJ2 := HOJ.out.step hlt HLF.out.1 HLF.out.2 HINJ.out (fun i hi => by rw [HOL.out]; exact HSBL.out i hi)
        obtain ⟨B, hB⟩ : ∃ B, sb (ls.getD k (0, 0)).1 = B := ⟨_, rfl⟩
        obtain ⟨D, hD⟩ : ∃ D, (ls.getD k (0, 0)).2 = D := ⟨_, rfl⟩
        have hDb : D <= 100000 := by
         have h := HDP.out oj k hlt HOJ.out
         rw [hD] at h
         exact h
        rw [hB, hD] at c2 HOJ2
        rw [hB] at c1 f2 hsl
        have HOJ3 : Hid (OJ sb ls o (oj.set B ((D : Int) + 1)) (k + 1)) := HOJ2
        have O3 : Hid (Owns .i64 3 (wr.setCell ⟨go, B, none⟩ (.int .i64 ((D : Int) + 1))) (.slice (some ⟨go, 0, none⟩) cs.length cs.length) (oj.set B ((D : Int) + 1))) := OJO.out.set B ((D : Int) + 1)
        have T3 : Hid (Tch (fun b => b = go) w8 (wr.setCell ⟨go, B, none⟩ (.int .i64 ((D : Int) + 1)))) := Tch.setCell TJ.out (p := ⟨go, B, none⟩) (fun _ => rfl) _
        have hBl : (B : Int) < (cs.length : Int) := by omega
        clear hxx1 hxx2 hvcell hvk egk hqm hin hcello hfzo HOJ2 hB hD HOJ OJO TJ hvg
        go_wp2_with fail
        go_roundw
        case rel => exact ⟨k + 1, _, by omega, by go_num, HOJ3, O3, T3⟩
        case measure => simp [intOf]; omega
       ·have hkn : ¬ (k : Int) < (ls.length : Int) := by omega
        have hkl : k = ls.length := by omega
        rw [hkl] at HOJ
        have HOI : Hid (OI sb n (insN (jn a b N) r) oj) := HO.out.join (by rw [HLS.out]; exact HOJ.out) HJ.out.lf HINJ.out
        have HOL2 : Hid (oj.length = cs.length) := by show _ = _; rw [HOJ.out.len]; exact HOL.out
        have TR : Hid (TL wr go l2 sb M2) := T8.out.out OO8.out TJ.out
        have OV : Hid (Owns .i64 3 wr (.slice va ls.length vc) ((jn a b N).ls.map fun q => (sb q.1 : Int))) := by
         have e : ((jn a b N).ls.map fun q => (sb q.1 : Int)) = ls.map fun q => (sb q.1 : Int) := by rw [<- HLS.out]; simp [jn, bump, Function.comp_def]
         rw [e]
         exact O8.out.tch TJ.out (fun j hj e => by have := HGN8.out j hj; omega)
        have BR : Hid (Below w.heap.size w wr) := B8.out.trans (TJ.out.below B8.out.size (fun j e => by rw [e]; omega))
        have da : wr.heap[ga]? = some (.cells #[.int .i64 (a.w : Int), .int .i64 (a.num : Int), .slice xa xl xc] 120 (0, 0)) := by rw [TJ.out.block ga (Array.getElem?_eq_some_iff.1 HBA8.out).1 (fun e => HGAO.out.1 e)]; exact HBA8.out
        have db : wr.heap[gb]? = some (.cells #[.int .i64 (b.w : Int), .int .i64 (b.num : Int), .slice ya yl yc] 120 (0, 0)) := by rw [TJ.out.block gb (Array.getElem?_eq_some_iff.1 HBB8.out).1 (fun e => HGAO.out.2 e)]; exact HBB8.out
        have ca0 : wr.cell? ⟨ga, 0, none⟩ = some (.int .i64 (a.w : Int)) := by rw [cell_of_row wr ga 0 _ _ (0, 0) da]; rfl
        have cb0 : wr.cell? ⟨gb, 0, none⟩ = some (.int .i64 (b.w : Int)) := by rw [cell_of_row wr gb 0 _ _ (0, 0) db]; rfl
        have HJ2 : Hid (JT (N + 1) n (insN (jn a b N) r) (treeOf c n) S f') := HJ.out.step
        have HP2 : Hid (((M2 ++ [(jn a b N, (.slice va ls.length vc : Value))]).map (·.1)).Perm (insN (jn a b N) r)) := by
         show List.Perm _ _
         rw [List.map_append]
         refine (HPB.out.append_right _).trans ?_
         exact List.perm_append_comm.trans (zx9 _ _).symm
        have HML : Hid ((encG M2).length <= 256) := by show _ <= _; rw [zw9]; omega
        obtain ⟨AB, hAB⟩ : ∃ AB, a.w + b.w = AB := ⟨_, rfl⟩
        have hABI : (a.w : Int) + (b.w : Int) = (AB : Int) := by omega
        have HJW : Hid ((((jn a b N).w : Int), ((jn a b N).num : Int), (.slice va ls.length vc : Value)) = ((AB : Int), (N : Int), (.slice va ls.length vc : Value))) := by show _ = _; rw [<- hAB]; rfl
        have wAB : IntKind.i64.wrap (AB : Int) = (AB : Int) := by rw [IntKind.wrap_i64]; omega
        clear HOJ HJ HO T8 OO8 O8 B8 HBA8 HBB8 TJ da db HPB hkl hAB HOL HP
        go_wp2_with (at_builtin; refine zcn9 wr rfl (.tmp 100) (.tmp 109) rfl l2 (encG M2) rfl TR.out.own (AB : Int) (N : Int) (.slice va ls.length vc) ⟨_, _, _, rfl⟩ rfl ?h2 ?_; (case h2 => have := HML.out; omega))
        intro l3 w9 ho9 hg9
        have TT : Hid (TL w9 go l3 sb (M2 ++ [(jn a b N, .slice va ls.length vc)])) := TR.out.push (jn a b N) _ OV.out HGN8.out ⟨_, _, _, rfl⟩ (by rw [HJW.out]; exact ho9) hg9
        have O9 : Hid (Owns .i64 3 w9 (.slice (some ⟨go, 0, none⟩) cs.length cs.length) oj) := TR.out.keeps hg9 OJO.out
        have h9 := hg9.onto BR.out N6.out
        have B9 : Hid (Below w.heap.size w w9) := h9.1
        have N9 : Hid (∀ j, l3.ownBlock = some j -> w.heap.size <= j) := h9.2
        obtain ⟨la9, lc9, hl9, _⟩ := TT.out.own.len
        rw [zw9, List.length_append] at hl9
        subst hl9
        clear ho9 hg9 h9 TR OJO BR N6 ca0 cb0 OV
        go_wp2_with fail
        go_roundw
        case rel => exact ⟨_, _, N + 1, f', oj, _, rfl, by go_num, by simp, by omega, by simp; omega, HP2, HJ2, HOI, HOL2, TT, O9, N9, B9⟩
        case measure => simp; omega
     ·have hM3 : ¬ (1 : Int) < (M.length : Int) := by omega
      obtain ⟨tt, hL⟩ : ∃ tt, L = [tt] := by
       have := HP.out.length_eq
       rw [List.length_map, show M.length = 1 by omega] at this
       exact List.length_eq_one_iff.1 this.symm
      subst hL
      have htl : treeOf c n = tt.ls := HJ.out.done
      have HD : Hid (o = lens cs (dpS cs)) := by
       show _ = _
       have hd : dpS cs = deps (wt cs cs.length) := by unfold dpS; rw [if_neg (by rw [HN.out]; omega)]
       rw [hd]
       exact OI.lens HN.out hn1 HK.out.lastSt HOL.out (by rw [hsb.out]; exact HO.out) (by rw [hc.out]; exact htl)
      rw [HD.out] at OO HOL
      obtain ⟨R, hR⟩ : ∃ R, Hid (lens cs (dpS cs) = R) := ⟨_, rfl⟩
      rw [hR.out] at OO HOL
      obtain ⟨la5, lc5, hl5, _⟩ := HT.out.own.len
      rw [zw9] at hl5
      subst hl5
      obtain ⟨go', cpo', hvo', hgol, _, _, hcello, _⟩ := OO.out.shape (by rw [HOL.out]; omega)
      simp only [Value.slice.injEq, Option.some.injEq, Addr.mk.injEq] at hvo'
      obtain ⟨⟨rfl, _⟩, hxx1, hxx2⟩ := hvo'
      rw [HOL.out] at hcello
      have HCO : Hid (∀ i, i < cs.length -> wr.cell? ⟨go, i, none⟩ = some (.int .i64 (R.getD i 0))) := hcello
      have HGOL : Hid (go < wr.heap.size) := hgol
      obtain ⟨wy, hwy⟩ : ∃ wy : World, wy = wr := ⟨_, rfl⟩
      have HGO : Hid (w.heap.size <= go) := by show _ <= _; omega
      clear hxx1 hxx2 hcello hgol htl HJ HO HP HT HNL hM1 hM2 hnN hNM HD
      go_wp2_with fail
      rw [<- hwy] at HCO HGOL BW OO
      go_loopw [14, 15] (fun m i wr => ∃ (k : Nat) (mx : Int), k <= cs.length /\ i = .int .i64 k /\ m = .int .i64 mx /\ Hid (∀ b, b < k -> R.getD b 0 <= mx) /\ Hid (mx = 0 ∨ ∃ b, R.getD b 0 = mx) /\ Hid (Below wy.heap.size wy wr)) (fun _ i _ => cs.length - (intOf i).toNat)
      case atStart => exact ⟨0, 0, Nat.zero_le _, rfl, rfl, (fun b hb => by omega), .inl rfl, by rw [hwy]; exact Below.refl _ _⟩
      case round =>
       clear hwy
       obtain ⟨k, mx, hk, rfl, rfl, HMX, HME, BY⟩ := hrel
       by_cases hlt : k < cs.length
       ·have hi1 : (k : Int) < (cs.length : Int) := by omega
        have ck : wr.cell? ⟨go, k, none⟩ = some (.int .i64 (R.getD k 0)) := by rw [BY.out.cell (p := ⟨go, k, none⟩) HGOL.out]; exact HCO.out k hlt
        obtain ⟨x, hx⟩ : ∃ x, R.getD k 0 = x := ⟨_, rfl⟩
        rw [hx] at ck
        by_cases hg : mx < x
        ·have HMX2 : Hid (∀ b, b < k + 1 -> R.getD b 0 <= x) := fun b hb => by
          by_cases e : b = k
          ·rw [e, hx]; omega
          ·have := HMX.out b (by omega); omega
         have HME2 : Hid (x = 0 ∨ ∃ b, R.getD b 0 = x) := .inr ⟨k, hx⟩
         clear hx
         go_wp2_with fail
         first
          | exact ⟨⟨k + 1, x, by omega, by go_num, rfl, HMX2, HME2, BY⟩, by simp [intOf]; omega⟩
          | (go_roundw
             case rel => exact ⟨k + 1, x, by omega, by go_num, rfl, HMX2, HME2, BY⟩
             case measure => simp [intOf]; omega)
        ·have HMX2 : Hid (∀ b, b < k + 1 -> R.getD b 0 <= mx) := fun b hb => by
          by_cases e : b = k
          ·rw [e, hx]; omega
          ·exact HMX.out b (by omega)
         clear hx
         go_wp2_with fail
         first
          | exact ⟨⟨k + 1, mx, by omega, by go_num, rfl, HMX2, HME, BY⟩, by simp [intOf]; omega⟩
          | (go_roundw
             case rel => exact ⟨k + 1, mx, by omega, by go_num, rfl, HMX2, HME, BY⟩
             case measure => simp [intOf]; omega)
       ·have hkn : ¬ (k : Int) < (cs.length : Int) := by omega
        have hkl : k = cs.length := by omega
        rw [hkl] at HMX
        have OO2 : Hid (Owns .i64 3 wr (.slice (some ⟨go, 0, none⟩) cs.length cs.length) R) := OO.out.below BY.out
        have H11 : Hid (mx <= 11 ↔ ∀ b, R.getD b 0 <= 11) := by
         constructor
         ·intro h b
          by_cases hb : b < cs.length
          ·have := HMX.out b hb; omega
          ·rw [List.getD_eq_getElem?_getD, List.getElem?_eq_none (by rw [HOL.out]; omega)]; decide
         ·intro h
          rcases HME.out with e | ⟨b, e⟩
          ·omega
          ·rw [<- e]; exact h b
        clear hkl
        go_wp2_with fail
        go_ret2
        exact ⟨_, mx, rfl, by rw [hR.out]; exact OO2.out, by rw [hR.out]; exact H11.out, fun j hj => by simp [Value.ownBlock] at hj; rw [<- hj]; exact HGO.out, BW.out.trans (BY.out.mono BW.out.size)⟩
theorem Sh.det {ws ds es : List Int} (h : Sh ws ds) (h2 : Sh ws es) : ds = es := by
 induction h with
 | now ws h =>
  cases h2 with
  | now _ _ => rfl
  | on _ _ h3 _ => exact absurd h h3
 | on ws ds h k ih =>
  cases h2 with
  | now _ h3 => exact absurd h3 h
  | on _ _ _ k2 => exact ih k2
theorem ShS.det {ws ds es : List Int} (h : ShS ws ds) (h2 : ShS ws es) : ds = es := by
 rcases h with ⟨h1, rfl⟩ | ⟨h1, h3⟩
 ·rcases h2 with ⟨_, rfl⟩ | ⟨h4, _⟩
  ·rfl
  ·omega
 ·rcases h2 with ⟨h4, _⟩ | ⟨_, h4⟩
  ·omega
  ·exact h3.det h4
structure Pat (cs os : List Int) : Prop where
 own : Own1 os
 le : os.length <= cs.length
 pat : ∀ b, b < os.length -> (0 < os.getD b 0 ↔ 0 < cs.getD b 0)
 past : ∀ b, os.length <= b -> b < cs.length -> ¬ 0 < cs.getD b 0
theorem Pat.st {cs os : List Int} (h : Pat cs os) : ∀ k, k <= os.length -> st os k = st cs k := by
 intro k
 induction k with
 | zero => intro _; rfl
 | succ k ih =>
  intro hk
  rw [zay9, zay9, ih (by omega)]
  by_cases c : 0 < os.getD k 0
  ·rw [if_pos c, if_pos ((h.pat k (by omega)).1 c)]
  ·rw [if_neg c, if_neg (fun e => c ((h.pat k (by omega)).2 e))]
theorem Pat.all {cs os : List Int} (h : Pat cs os) : Go.Proofs.YtobenjkacpipeaaGreat.st os os.length = Go.Proofs.YtobenjkacpipeaaGreat.st cs cs.length := by
 rw [h.st os.length (Nat.le_refl _)]
 have : ∀ d, os.length + d <= cs.length -> Go.Proofs.YtobenjkacpipeaaGreat.st cs (os.length + d) = Go.Proofs.YtobenjkacpipeaaGreat.st cs os.length := by
  intro d
  induction d with
  | zero => intro _; rfl
  | succ d ih =>
   intro hd
   rw [<- Nat.add_assoc, zay9, if_neg (h.past _ (by omega) (by omega)), ih (by omega)]
 have h2 := this (cs.length - os.length) (by have := h.le; omega)
 rw [show os.length + (cs.length - os.length) = cs.length by have := h.le; omega] at h2
 exact h2.symm
theorem Pat.lens {cs os : List Int} (h : Pat cs os) (ds : List Int) : Go.Proofs.YtobenjkacpipeaaGreat.lens os ds = Go.Proofs.YtobenjkacpipeaaGreat.lens cs ds := by
 have h1 := h.own.lastSt
 have h2 : lastSt cs = lastSt os := by unfold lastSt; rw [h.all]
 unfold Go.Proofs.YtobenjkacpipeaaGreat.lens lensTo
 rw [h2]
 rw [h.all]
 refine List.map_congr_left fun b hb => ?_
 have hb' : b < os.length := by have h3 := List.mem_range.1 hb; rw [h1] at h3; exact h3
 have e : rk os b = rk cs b := by unfold rk; rw [h.st b (by omega)]
 rw [e]
 by_cases c : 0 < os.getD b 0
 ·have c2 := (h.pat b hb').1 c
  simp only [c, c2]
 ·have c2 : ¬ 0 < cs.getD b 0 := fun e => c ((h.pat b hb').2 e)
  simp only [c, c2]
def hvH (x : Int) : Int := if 0 < x then x / 2 + 1 else x
def hvTo (os : List Int) (k : Nat) : List Int := (os.take k).map hvH ++ os.drop k
theorem zh9 (os : List Int) (k : Nat) : (hvTo os k).length = os.length := by simp [hvTo]; omega
theorem ztj9 (os : List Int) : hvTo os 0 = os := by simp [hvTo]
theorem zao9 (os : List Int) (k i : Nat) (hi : i < os.length) : (hvTo os k).getD i 0 = if i < k then hvH (os.getD i 0) else os.getD i 0 := by
 unfold hvTo
 by_cases c : i < k
 ·rw [if_pos c, List.getD_eq_getElem?_getD, List.getElem?_append_left (by simp; omega), List.getElem?_map, List.getElem?_take, if_pos c, List.getElem?_eq_getElem hi]
  simp [List.getD_eq_getElem?_getD, hi]
 ·rw [if_neg c, List.getD_eq_getElem?_getD, List.getElem?_append_right (by simp; omega), List.getElem?_drop]
  simp only [List.length_map, List.length_take]
  rw [show k + (i - min k os.length) = i by omega, <- List.getD_eq_getElem?_getD]
theorem zlk9 (os : List Int) (k : Nat) (hk : k < os.length) : hvTo os (k + 1) = (hvTo os k).set k (hvH (os.getD k 0)) := by
 refine List.ext_getElem (by rw [zh9, List.length_set, zh9]) (fun i h1 h2 => ?_)
 have hi : i < os.length := by rw [zh9] at h1; exact h1
 have g1 : (hvTo os (k + 1)).getD i 0 = (hvTo os (k + 1))[i] := by simp [List.getD_eq_getElem?_getD, h1]
 have g2 : ((hvTo os k).set k (hvH (os.getD k 0))).getD i 0 = ((hvTo os k).set k (hvH (os.getD k 0)))[i] := by rw [List.getD_eq_getElem?_getD, List.getElem?_eq_getElem h2]; rfl
 rw [<- g1, <- g2, zax9, zao9 os _ i hi, zao9 os _ i hi]
 by_cases e : i = k
 ·subst e
  rw [if_pos (Nat.lt_succ_self i), if_pos ⟨rfl, by rw [zh9]; exact hi⟩]
 ·rw [if_neg (show ¬ (i = k /\ k < (hvTo os k).length) from fun h => e h.1)]
  by_cases c : i < k
  ·rw [if_pos (show i < k + 1 by omega), if_pos c]
  ·rw [if_neg (show ¬ i < k + 1 by omega), if_neg c]
theorem zpb9 {x : Int} : 0 < hvH x ↔ 0 < x := by unfold hvH; split <;> omega
theorem Own1.hvH {os : List Int} (h : Own1 os) : Own1 (hvTo os os.length) := by
 have hg : ∀ i, i < os.length -> (hvTo os os.length).getD i 0 = Go.Proofs.YtobenjkacpipeaaGreat.hvH (os.getD i 0) := fun i hi => by rw [zao9 os _ i hi, if_pos hi]
 refine ⟨by rw [zh9]; exact h.one, by rw [zh9]; exact h.most, fun i => ?_, ?_⟩
 ·by_cases c : i < os.length
  ·rw [hg i c]
   have := h.each i
   unfold Go.Proofs.YtobenjkacpipeaaGreat.hvH
   split <;> omega
  ·rw [List.getD_eq_getElem?_getD, List.getElem?_eq_none (by rw [zh9]; omega)]; decide
 ·rw [zh9, hg _ (by have := h.one; omega)]
  exact zpb9.2 h.last
theorem Pat.hvH {cs os : List Int} (h : Pat cs os) : Pat cs (hvTo os os.length) := by
 refine ⟨h.own.hvH, by rw [zh9]; exact h.le, fun b hb => ?_, fun b h1 h2 => h.past b (by rw [zh9] at h1; exact h1) h2⟩
 rw [zh9] at hb
 rw [zao9 os _ b hb, if_pos hb, zpb9]
 exact h.pat b hb
theorem wt_hv {os : List Int} (hk : Own1 os) : wt (hvTo os os.length) (hvTo os os.length).length = halve (wt os os.length) := by
 have hp : Pat os (hvTo os os.length) := ⟨hk.hvH, by rw [zh9]; exact Nat.le_refl _, fun b hb => by
  rw [zh9] at hb
  rw [zao9 os _ b hb, if_pos hb, zpb9], fun b h1 h2 => by rw [zh9] at h1; omega⟩
 unfold wt halve
 rw [hp.all, List.map_map]
 refine List.map_congr_left fun b hb => ?_
 have hm := mem_st.1 hb
 show (hvTo os os.length).getD b 0 = os.getD b 0 / 2 + 1
 rw [zao9 os _ b hm.1, if_pos hm.1]
 unfold Go.Proofs.YtobenjkacpipeaaGreat.hvH
 rw [if_pos hm.2]
theorem zyn9 {os : List Int} (hk : Own1 os) (hn : ¬ All11 (wt os os.length)) (h2 : 2 <= (wt os os.length).length) : wsum (hvTo os os.length) < wsum os := by
 have hw : Wts (wt os os.length) := ⟨h2, by rw [zk9]; exact Nat.le_trans (st_le _ _) hk.most, fun i hi => wt_pos os _ i hi⟩
 obtain ⟨i, hi, hb⟩ := hw.big hn
 rw [zk9] at hi
 rw [zrd9 os _ i hi] at hb
 have hm := (rk_st os hi).2.1
 unfold wsum
 rw [zh9]
 refine sum_lt (fun j hj => ?_) ⟨_, hm, ?_⟩
 ·simp only [cw]
  rw [zao9 os _ j hj, if_pos hj]
  unfold Go.Proofs.YtobenjkacpipeaaGreat.hvH
  split <;> omega
 ·simp only [cw]
  rw [zao9 os _ _ hm, if_pos hm]
  unfold Go.Proofs.YtobenjkacpipeaaGreat.hvH
  rw [if_pos (by omega)]
  omega
theorem zqy9 {os : List Int} (hk : Own1 os) (h2 : 2 <= (wt os os.length).length) : (∀ b, (lens os (dpS os)).getD b 0 <= 11) ↔ All11 (wt os os.length) := by
 have hd : dpS os = deps (wt os os.length) := by unfold dpS; rw [if_neg (by rw [<- zk9]; omega)]
 rw [hd]
 constructor
 ·intro h i hi
  rw [zk9] at hi
  have h1 := rk_st os hi
  have h3 := h ((st os os.length).getD i 0)
  rw [zu9 os _ _ _ (zca9 os hi), if_pos ⟨h1.2.2, by rw [h1.1]; exact hi⟩, h1.1] at h3
  exact h3
 ·intro h b
  by_cases c : b <= lastSt os
  ·rw [zu9 os _ _ b c]
   split
   ·rename_i e
    exact h _ (by rw [zk9]; exact e.2)
   ·decide
  ·rw [List.getD_eq_getElem?_getD, List.getElem?_eq_none (by rw [zj9]; omega)]; decide
theorem zxp9 {os : List Int} (hk : Own1 os) (h1 : (st os os.length).length = 1) : ∀ b, (lens os (dpS os)).getD b 0 <= 11 := by
 have hd : dpS os = [1] := by unfold dpS; rw [if_pos h1]
 intro b
 rw [hd]
 by_cases c : b <= lastSt os
 ·rw [zu9 os _ _ b c]
  split
  ·rename_i e
   rw [h1] at e
   rw [show rk os b = 0 by omega]
   decide
  ·decide
 ·rw [List.getD_eq_getElem?_getD, List.getElem?_eq_none (by rw [zj9]; omega)]; decide
theorem ztu9 {cs : List Int} {p : Nat} (h1 : cs.length <= 256) (he : ∀ i, i < cs.length -> 0 <= cs.getD i 0 /\ cs.getD i 0 <= 4294967295) (hp : p < cs.length) (hpp : 0 < cs.getD p 0) (hq : ∀ j, p < j -> j < cs.length -> ¬ 0 < cs.getD j 0) :
  Pat cs (cs.take (p + 1)) /\ wt (cs.take (p + 1)) (cs.take (p + 1)).length = wt cs cs.length := by
 have hl : (cs.take (p + 1)).length = p + 1 := by rw [List.length_take]; omega
 have hg : ∀ b, b < p + 1 -> (cs.take (p + 1)).getD b 0 = cs.getD b 0 := fun b hb => by
  rw [List.getD_eq_getElem?_getD, List.getElem?_take, if_pos hb, <- List.getD_eq_getElem?_getD]
 have hP : Pat cs (cs.take (p + 1)) := by
  refine ⟨⟨by omega, by omega, fun i => ?_, ?_⟩, by omega, fun b hb => by rw [hg b (by omega)], fun b h1 h2 => hq b (by omega) h2⟩
  ·by_cases c : i < p + 1
   ·rw [hg i c]; have := he i (by omega); omega
   ·rw [List.getD_eq_getElem?_getD, List.getElem?_eq_none (by omega)]; decide
  ·rw [hl, hg _ (by omega)]; exact hpp
 refine ⟨hP, ?_⟩
 unfold wt
 rw [hP.all]
 refine List.map_congr_left fun b hb => ?_
 have hm := mem_st.1 (by rw [<- hP.all] at hb; exact hb)
 exact hg b (by omega)
theorem ztt9 (os : List Int) (k : Nat) (hk : k < os.length) (hx : ¬ 0 < os.getD k 0) : hvTo os (k + 1) = hvTo os k := by
 have e : hvH (os.getD k 0) = os.getD k 0 := by unfold hvH; rw [if_neg hx]
 rw [zlk9 os k hk, e]
 have h1 := zao9 os k k hk
 rw [if_neg (Nat.lt_irrefl k)] at h1
 rw [<- h1]
 have hl : k < (hvTo os k).length := by rw [zh9]; exact hk
 rw [List.getD_eq_getElem?_getD, List.getElem?_eq_getElem hl]
 exact List.set_getElem_self hl
theorem zxg9 {ws ds : List Int} (h2 : 2 <= ws.length) (hn : ¬ All11 ws) (h : ShS (halve ws) ds) : ShS ws ds := by
 rcases h with ⟨h1, _⟩ | ⟨_, h3⟩
 ·rw [zq9] at h1; omega
 ·exact .inr ⟨h2, Sh.on ws ds hn h3⟩
theorem zaap9 {os : List Int} (hk : Own1 os) (h : ∀ b, (lens os (dpS os)).getD b 0 <= 11) : ShS (wt os os.length) (dpS os) := by
 have hp := hk.pos
 by_cases e : (st os os.length).length = 1
 ·exact .inl ⟨by rw [zk9]; exact e, by unfold dpS; rw [if_pos e]⟩
 ·have h2 : 2 <= (wt os os.length).length := by rw [zk9]; omega
  have h3 := Sh.now _ ((zqy9 hk h2).1 h)
  have hd : dpS os = deps (wt os os.length) := by unfold dpS; rw [if_neg e]
  rw [hd]
  exact .inr ⟨h2, h3⟩
theorem not11 {os : List Int} (hk : Own1 os) (h : ¬ ∀ b, (lens os (dpS os)).getD b 0 <= 11) : 2 <= (wt os os.length).length /\ ¬ All11 (wt os os.length) := by
 have hp := hk.pos
 have h2 : 2 <= (wt os os.length).length := by
  rw [zk9]
  by_cases e : (st os os.length).length = 1
  ·exact absurd (zxp9 hk e) h
  ·omega
 exact ⟨h2, fun e => h ((zqy9 hk h2).2 e)⟩
set_option maxRecDepth 100000 in
theorem zgo9 (v : Value) (cs : List Int) (w : World) (hr : Rd .i64 w v cs) : Calls Tryz.prog 33 #[v] w fun e w' => LPost cs w e w' := by
 obtain ⟨a, cap, hv, hlc, hcm, _, hcc⟩ := id hr
 subst hv
 have HR : Hid (Rd .i64 w (.slice a cs.length cap) cs) := hr
 have HC : Hid (cs = [] ∨ ∃ b o, a = some ⟨b, o, none⟩ /\ ∀ i, i < cs.length -> w.cell? ⟨b, o + i, none⟩ = some (.int .i64 (cs.getD i 0))) := hcc
 have hcm2 : cap <= 9223372036854775807 := by unfold maxLen at hcm; omega
 clear hr hcc hcm
 by_cases h256 : 256 < cs.length
 ·have hb : (256 : Int) < (cs.length : Int) := by omega
  have HNO : Hid (¬ OkC cs) := fun h => by have := h.most; omega
  go_enter Tryz.func33, Tryz.ntmps33
  go_wp2_with fail
  go_ret2
  exact LPost.bad (Below.refl _ _) HNO.out
 ·have hb : ¬ (256 : Int) < (cs.length : Int) := by omega
  go_enter Tryz.func33, Tryz.ntmps33
  go_wp2_with fail
  go_loop [4, 5] (fun l i => ∃ (k : Nat) (z : Int), k <= cs.length /\ i = .int .i64 k /\ l = .int .i64 z /\ -1 <= z /\ z < k /\ Hid (∀ j, j < k -> 0 <= cs.getD j 0 /\ cs.getD j 0 <= 4294967295) /\ Hid (∀ j, j < k -> z < (j : Int) -> ¬ 0 < cs.getD j 0) /\ Hid (0 <= z -> 0 < cs.getD z.toNat 0)) (fun _ i => cs.length - (intOf i).toNat)
  case atStart => exact ⟨0, -1, Nat.zero_le _, rfl, rfl, by omega, by omega, (fun j hj => by omega), (fun j hj => by omega), (fun h => by omega)⟩
  case round =>
   obtain ⟨k, z, hk, rfl, rfl, hz1, hz2, HE, HZ, HP⟩ := hrel
   by_cases hlt : k < cs.length
   ·obtain ⟨cb, co, ha, hcl⟩ : ∃ b o, a = some ⟨b, o, none⟩ /\ ∀ i, i < cs.length -> w.cell? ⟨b, o + i, none⟩ = some (.int .i64 (cs.getD i 0)) := by
     rcases HC.out with h | h
     ·rw [h] at hlt; simp at hlt
     ·exact h
    subst ha
    have cx := hcl k hlt
    have hi1 : (k : Int) < (cs.length : Int) := by omega
    obtain ⟨x, hx⟩ : ∃ x, cs.getD k 0 = x := ⟨_, rfl⟩
    rw [hx] at cx
    by_cases h0 : x < 0
    ·have HNO : Hid (¬ OkC cs) := fun h => by have := (h.each k hlt).1; omega
     clear hcl hx
     go_wp2_with fail
     go_ret2
     exact LPost.bad (Below.refl _ _) HNO.out
    ·by_cases h4 : 4294967295 < x
     ·have HNO : Hid (¬ OkC cs) := fun h => by have := (h.each k hlt).2; omega
      have hd0 : decide (x < 0) = false := by rw [decide_eq_false_iff_not]; exact h0
      clear hcl hx h0
      go_wp2_with fail
      go_ret2
      exact LPost.bad (Below.refl _ _) HNO.out
     ·have hd0 : decide (x < 0) = false := by rw [decide_eq_false_iff_not]; exact h0
      have hd4 : decide (4294967295 < x) = false := by rw [decide_eq_false_iff_not]; exact h4
      have HE2 : Hid (∀ j, j < k + 1 -> 0 <= cs.getD j 0 /\ cs.getD j 0 <= 4294967295) := fun j hj => by
       by_cases e : j = k
       ·rw [e, hx]; omega
       ·exact HE.out j (by omega)
      by_cases hpx : 0 < x
      ·have HZ2 : Hid (∀ j, j < k + 1 -> (k : Int) < (j : Int) -> ¬ 0 < cs.getD j 0) := fun j h1 h2 => by omega
       have HP2 : Hid (0 <= (k : Int) -> 0 < cs.getD ((k : Int)).toNat 0) := fun _ => by rw [Int.toNat_natCast, hx]; exact hpx
       clear hcl hx h0 h4
       go_wp2_with fail
       first
        | exact ⟨⟨k + 1, (k : Int), by omega, by go_num, rfl, by omega, by omega, HE2, HZ2, HP2⟩, by simp [intOf]; omega⟩
        | (go_round
           case rel => exact ⟨k + 1, (k : Int), by omega, by go_num, rfl, by omega, by omega, HE2, HZ2, HP2⟩
           case measure => simp [intOf]; omega)
      ·have HZ2 : Hid (∀ j, j < k + 1 -> z < (j : Int) -> ¬ 0 < cs.getD j 0) := fun j h1 h2 => by
        by_cases e : j = k
        ·rw [e, hx]; exact hpx
        ·exact HZ.out j (by omega) h2
       clear hcl hx h0 h4
       go_wp2_with fail
       first
        | exact ⟨⟨k + 1, z, by omega, by go_num, rfl, by omega, by omega, HE2, HZ2, HP⟩, by simp [intOf]; omega⟩
        | (go_round
           case rel => exact ⟨k + 1, z, by omega, by go_num, rfl, by omega, by omega, HE2, HZ2, HP⟩
           case measure => simp [intOf]; omega)
   ·have hkl : k = cs.length := by omega
    have hkn : ¬ (k : Int) < (cs.length : Int) := by omega
    by_cases hz : z < 0
    ·have HNO : Hid (¬ OkC cs) := fun h => by
      have h1 := h.some
      have h2 := (rk_st cs (k := cs.length) (i := 0) h1).2
      exact HZ.out _ (by rw [hkl]; exact h2.1) (by omega) h2.2
     clear hkl
     go_wp2_with fail
     go_ret2
     exact LPost.bad (Below.refl _ _) HNO.out
    ·obtain ⟨p, rfl⟩ := Int.eq_ofNat_of_zero_le (show 0 <= z by omega)
     have hpl : p < cs.length := by omega
     have hpp : 0 < cs.getD p 0 := by have := HP.out (by omega); rw [Int.toNat_natCast] at this; exact this
     have HOK : Hid (OkC cs) := ⟨by omega, by rw [<- hkl]; exact HE.out, by
      have := (st_get cs hpl hpp).1
      omega⟩
     obtain ⟨hpat, hwt⟩ := ztu9 (cs := cs) (p := p) (by omega) (by rw [<- hkl]; exact HE.out) hpl hpp (fun j h1 h2 => HZ.out j (by omega) (by omega))
     have HPAT : Hid (Pat cs (cs.take (p + 1))) := hpat
     have HWT : Hid (wt (cs.take (p + 1)) (cs.take (p + 1)).length = wt cs cs.length) := hwt
     have HTL : Hid ((cs.take (p + 1)).length = p + 1) := by show _ = _; rw [List.length_take]; omega
     have HPL1 : Hid (p + 1 <= cs.length) := by show _ <= _; omega
     have hp2 : p <= 255 := by omega
     clear hpat hwt hz hkl hpp HE HZ HP hz1 hz2 hlt hk
     obtain ⟨cb, co, ha, hcl⟩ : ∃ b o, a = some ⟨b, o, none⟩ /\ ∀ i, i < cs.length -> w.cell? ⟨b, o + i, none⟩ = some (.int .i64 (cs.getD i 0)) := by
      rcases HC.out with h | h
      ·rw [h] at hpl; simp at hpl
      ·exact h
     subst ha
     have RT : Hid (Rd .i64 w (.slice (some ⟨cb, co, none⟩) (p + 1) cap) (cs.take (p + 1))) := zvj9 (p + 1) HPL1.out hlc (by unfold maxLen; omega) hcl
     have hs1 : (p : Int) + 1 <= (cap : Int) := by omega
     have hs2 : p + 1 <= cap := by omega
     clear hcl
     go_wp2_with (at_builtin; refine zb9 _ rfl (.tmp 39) (.tmp 43) 56 rfl 3 .i64 8 elem64 (.slice none 0 0) [] rfl (zf9 _ _ _) _ (cs.take (p + 1)) rfl RT.out ?a1 ?a2 ?_; (case a1 => rw [HTL.out]; simp; omega); (case a2 => rw [HTL.out]; simp; omega))
     intro v6 w6 ho6 hg6
     obtain ⟨b6, n6⟩ := hg6.below
     obtain ⟨g, cp, hv6, hgl6, hcp1, hcp2, _⟩ := ho6.shape (by rw [HTL.out]; omega)
     rw [HTL.out] at hv6 hcp1
     subst hv6
     have O6 : Hid (Owns .i64 3 w6 (.slice (some ⟨g, 0, none⟩) (p + 1) cp) (cs.take (p + 1))) := ho6
     have B6 : Hid (Below w.heap.size w w6) := b6
     have HGW : Hid (w.heap.size <= g) := n6 g rfl
     have hcp3 : cp <= 9223372036854775807 := by unfold maxLen at hcp2; omega
     have HK0 : Hid (∀ ds, ShS (wt (cs.take (p + 1)) (cs.take (p + 1)).length) ds -> ShS (wt cs cs.length) ds) := fun ds h => by rw [HWT.out] at h; exact h
     clear ho6 hg6 b6 n6 hgl6 hcp2 RT
     go_wp2_with fail
     go_loopw [9] (fun i9 wr => ∃ os : List Int, Hid (Pat cs os) /\ Hid (os.length = p + 1) /\ Hid (Owns .i64 3 wr (.slice (some ⟨g, 0, none⟩) (p + 1) cp) os) /\ Hid (∀ ds, ShS (wt os os.length) ds -> ShS (wt cs cs.length) ds) /\ Hid (Below w.heap.size w wr)) (fun _ wr => msr wr g (p + 1))
     case atStart => exact ⟨cs.take (p + 1), HPAT, HTL, O6, HK0, B6⟩
     case round =>
      clear HPAT HTL O6 HK0 B6 HWT
      obtain ⟨os, HPAT, HOL, OO, HKK, BW⟩ := hrel
      have HMS : Hid (msr wr g (p + 1) = wsum os) := by show _ = _; rw [<- HOL.out]; exact zgw9 OO.out
      have HTR : Hid (Calls Tryz.prog 59 #[.slice (some ⟨g, 0, none⟩) (p + 1) cp] wr fun e w' => TPostH os wr e w') := znk9 _ os wr OO.out.rd HPAT.out.own
      go_wp2_with fail
      refine HTR.out.mono ?_
      rintro e w7 ⟨ov, m, rfl, hov, h11, hfr, hb7⟩
      have OV : Hid (Owns .i64 3 w7 ov (lens os (dpS os))) := hov
      have H11 : Hid (m <= 11 ↔ ∀ b, (lens os (dpS os)).getD b 0 <= 11) := h11
      have HFR : Hid (∀ k, ov.ownBlock = some k -> w.heap.size <= k) := fun k hk => Nat.le_trans BW.out.size (hfr k hk)
      have O7 : Hid (Owns .i64 3 w7 (.slice (some ⟨g, 0, none⟩) (p + 1) cp) os) := OO.out.below hb7
      have B7 : Hid (Below w.heap.size w w7) := BW.out.trans (hb7.mono BW.out.size)
      clear hov h11 hfr hb7 HTR OO BW
      by_cases hm : m <= 11
      ·have HSH : Hid (ShS (wt cs cs.length) (dpS os)) := HKK.out _ (zaap9 HPAT.out.own (H11.out.1 hm))
       have OV2 : Hid (Owns .i64 3 w7 ov (lens cs (dpS os))) := by have h := OV.out; rw [HPAT.out.lens] at h; exact h
       go_wp2_with fail
       go_ret2
       exact ⟨ov, 0, rfl, B7.out, HFR.out, .inr ⟨rfl, HOK.out, dpS os, OV2.out, HSH.out⟩⟩
      ·have HNA : Hid (2 <= (wt os os.length).length /\ ¬ All11 (wt os os.length)) := not11 HPAT.out.own (fun h => hm (H11.out.2 h))
       have HLT : Hid (wsum (hvTo os os.length) < wsum os) := zyn9 HPAT.out.own HNA.out.2 HNA.out.1
       have HEA : Hid (∀ i, 0 <= os.getD i 0 /\ os.getD i 0 <= 4294967296) := HPAT.out.own.each
       clear OV H11 HFR
       go_wp2_with fail
       go_loopw [9] (fun i wr2 => ∃ k : Nat, k <= p + 1 /\ i = .int .i64 k /\ Hid (Owns .i64 3 wr2 (.slice (some ⟨g, 0, none⟩) (p + 1) cp) (hvTo os k)) /\ Hid (Below w.heap.size w wr2)) (fun i _ => p + 1 - (intOf i).toNat)
       case atStart => exact ⟨0, Nat.zero_le _, rfl, by rw [ztj9]; exact O7, B7⟩
       case round =>
        clear O7 B7
        obtain ⟨k, hk, rfl, OH, BH⟩ := hrel
        by_cases hkl : k < p + 1
        ·have hi1 : (k : Int) < (p : Int) + 1 := by omega
         have hi2 : (k : Int) < ((p + 1 : Nat) : Int) := by omega
         have hko : k < os.length := by rw [HOL.out]; exact hkl
         obtain ⟨g', cp', hvh, _, _, _, hcellh, hfzh⟩ := OH.out.shape (by rw [zh9]; omega)
         simp only [Value.slice.injEq, Option.some.injEq, Addr.mk.injEq] at hvh
         obtain ⟨⟨rfl, _⟩, hxx1, hxx2⟩ := hvh
         have ck := hcellh k (by rw [zh9]; exact hko)
         have fk := hfzh k
         rw [zao9 os k k hko, if_neg (Nat.lt_irrefl k)] at ck
         have hxb := HEA.out k
         by_cases hx : 0 < os.getD k 0
         ·have OH2 : Hid (Owns .i64 3 (wr.setCell ⟨g, k, none⟩ (.int .i64 (os.getD k 0 / 2 + 1))) (.slice (some ⟨g, 0, none⟩) (p + 1) cp) (hvTo os (k + 1))) := by
           have h := OH.out.set k (hvH (os.getD k 0))
           rw [<- zlk9 os k hko] at h
           unfold hvH at h
           rw [if_pos hx] at h
           exact h
          have BH2 : Hid (Below w.heap.size w (wr.setCell ⟨g, k, none⟩ (.int .i64 (os.getD k 0 / 2 + 1)))) := BH.out.trans ((Tch.setCell (Tch.refl (fun j => j = g) wr) (p := ⟨g, k, none⟩) (fun _ => rfl) _).below BH.out.size (fun j e => by rw [e]; exact HGW.out))
          generalize os.getD k 0 = x at *
          have hdv : x.tdiv 2 = x / 2 := Int.tdiv_eq_ediv_of_nonneg (by omega)
          clear hxx1 hxx2 hcellh hfzh OH BH
          go_wp2_with fail
          go_roundw
          case rel => exact ⟨k + 1, by omega, by go_num, OH2, BH2⟩
          case measure => simp [intOf]; omega
         ·have OH2 : Hid (Owns .i64 3 wr (.slice (some ⟨g, 0, none⟩) (p + 1) cp) (hvTo os (k + 1))) := by rw [ztt9 os k hko hx]; exact OH
          generalize os.getD k 0 = x at *
          clear hxx1 hxx2 hcellh hfzh OH
          go_wp2_with fail
          first
           | exact ⟨⟨k + 1, by omega, by go_num, OH2, BH⟩, by simp [intOf]; omega⟩
           | (go_roundw
              case rel => exact ⟨k + 1, by omega, by go_num, OH2, BH⟩
              case measure => simp [intOf]; omega)
        ·have hkn : ¬ (k : Int) < (p : Int) + 1 := by omega
         have hkn2 : ¬ (k : Int) < ((p + 1 : Nat) : Int) := by omega
         have hke : k = os.length := by rw [HOL.out]; omega
         rw [hke] at OH
         have HP2 : Hid (Pat cs (hvTo os os.length)) := HPAT.out.hvH
         have HOL2 : Hid ((hvTo os os.length).length = p + 1) := by show _ = _; rw [zh9]; exact HOL.out
         have HK2 : Hid (∀ ds, ShS (wt (hvTo os os.length) (hvTo os os.length).length) ds -> ShS (wt cs cs.length) ds) := fun ds h => by
          rw [wt_hv HPAT.out.own] at h
          exact HKK.out ds (zxg9 HNA.out.1 HNA.out.2 h)
         have HM2 : Hid (msr wr g (p + 1) = wsum (hvTo os os.length)) := by show _ = _; rw [<- HOL2.out]; exact zgw9 OH.out
         clear hke
         go_wp2_with fail
         exact ⟨⟨_, HP2, HOL2, OH, HK2, BH⟩, by rw [HM2.out, HMS.out]; exact HLT.out⟩
end Go.Proofs.YtobenjkacpipeaaGreat
