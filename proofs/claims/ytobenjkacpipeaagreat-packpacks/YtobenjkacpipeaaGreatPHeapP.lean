import Derived.KernelRfl
set_option maxRecDepth 100000
set_option linter.unusedVariables false
set_option linter.unusedSimpArgs false
set_option maxHeartbeats 8000000
namespace Go.Proofs.YtobenjkacpipeaaGreat.Hf
def ltP (a b : Int × Int) : Prop := a.1 < b.1 ∨ (a.1 = b.1 /\ a.2 < b.2)
instance (a b : Int × Int) : Decidable (ltP a b) := by unfold ltP; infer_instance
def ltB (a b : Int × Int) : Bool := decide (ltP a b)
theorem zck9 {a b : Int × Int} : ltB a b = true ↔ ltP a b := by simp [ltB]
theorem zcf9 {a b : Int × Int} : ltB a b = false ↔ ¬ ltP a b := by simp [ltB]
def leP (a b : Int × Int) : Prop := ¬ ltP b a
theorem zbp9 {a b c : Int × Int} (h : leP a b) (k : leP b c) : leP a c := by unfold leP ltP at *; omega
theorem zce9 {a b : Int × Int} (h : ltP a b) : leP a b := by unfold leP ltP at *; omega
theorem zcp9 (a : Int × Int) : leP a a := by unfold leP ltP at *; omega
theorem zka9 {a b : Int × Int} (h : leP a b) (k : leP b a) : a = b := by
 unfold leP ltP at *
 obtain ⟨a1, a2⟩ := a
 obtain ⟨b1, b2⟩ := b
 simp only [Prod.mk.injEq]
 simp only at h k
 omega
abbrev G (ps : List (Int × Int)) (i : Nat) : Int × Int := ps.getD i (0, 0)
def swp (ps : List (Int × Int)) (i j : Nat) : List (Int × Int) := (ps.set i (G ps j)).set j (G ps i)
theorem zdf9 (ps : List (Int × Int)) (i j : Nat) : (swp ps i j).length = ps.length := by simp [swp]
theorem zjj9 (ps : List (Int × Int)) {i j : Nat} (hi : i < ps.length) (hj : j < ps.length) : (swp ps i j).Perm ps := by
 have h := Array.swap_perm (xs := ps.toArray) (i := i) (j := j) (by simpa using hi) (by simpa using hj)
 have e : (ps.toArray.swap i j (by simpa using hi) (by simpa using hj)).toList = swp ps i j := by
  simp [Array.swap_def, swp, G, List.getD_eq_getElem?_getD, hi, hj]
 have := Array.perm_iff_toList_perm.1 h
 rw [e] at this
 simpa using this
theorem zep9 (ps : List (Int × Int)) {i j : Nat} (hi : i < ps.length) (hj : j < ps.length) (k : Nat) : G (swp ps i j) k = if k = j then G ps i else if k = i then G ps j else G ps k := by
 unfold G swp
 simp only [List.getD_eq_getElem?_getD, List.getElem?_set, List.length_set]
 by_cases h1 : k = j
 ·subst h1; simp [hj]
 ·by_cases h2 : k = i
  ·subst h2
   rw [if_neg (fun e => h1 e.symm), if_neg h1]
   simp [hi]
  ·rw [if_neg (fun e => h1 e.symm), if_neg (fun e => h2 e.symm), if_neg h1, if_neg h2]
def Ch (a c : Nat) : Prop := c = 2 * a + 1 ∨ c = 2 * a + 2
def Heap (ps : List (Int × Int)) (n k : Nat) : Prop := ∀ a c, k <= a -> Ch a c -> c < n -> leP (G ps a) (G ps c)
structure Dn (ps0 ps : List (Int × Int)) (n i0 i : Nat) : Prop where
 perm : ps.Perm ps0
 rest : ∀ k, n <= k -> G ps k = G ps0 k
 ok : ∀ a c, i0 <= a -> a ≠ i -> Ch a c -> c < n -> leP (G ps a) (G ps c)
 up : ∀ p c, i0 <= p -> Ch p i -> Ch i c -> c < n -> leP (G ps p) (G ps c)
 ge : i0 <= i
 nl : n <= ps.length
theorem Dn.start {ps : List (Int × Int)} {n i0 : Nat} (h : Heap ps n (i0 + 1)) (hn : n <= ps.length) : Dn ps ps n i0 i0 :=
 ⟨List.Perm.refl _, fun _ _ => rfl, fun a c h1 h2 h3 h4 => h a c (by omega) h3 h4, fun p c h1 h2 h3 h4 => by unfold Ch at h2; omega, Nat.le_refl _, hn⟩
theorem Dn.stop {ps0 ps : List (Int × Int)} {n i0 i : Nat} (h : Dn ps0 ps n i0 i) (hc : ∀ c, Ch i c -> c < n -> leP (G ps i) (G ps c)) : Heap ps n i0 := by
 intro a c h1 h2 h3
 by_cases e : a = i
 ·subst e; exact hc c h2 h3
 ·exact h.ok a c h1 e h2 h3
theorem Dn.sink {ps0 ps : List (Int × Int)} {n i0 i j : Nat} (h : Dn ps0 ps n i0 i) (hj : Ch i j) (hn : j < n) (hm : ∀ c, Ch i c -> c < n -> leP (G ps j) (G ps c)) (hl : ltP (G ps j) (G ps i)) : Dn ps0 (swp ps i j) n i0 j := by
 have hnl := h.nl
 have hge := h.ge
 have hij : i < j := by unfold Ch at hj; omega
 have hi' : i < ps.length := by omega
 have hj' : j < ps.length := by omega
 have g := zep9 ps hi' hj'
 refine ⟨(zjj9 ps hi' hj').trans h.perm, fun k hk => ?_, fun a c h1 h2 h3 h4 => ?_, fun p c h1 h2 h3 h4 => ?_, by omega, by rw [zdf9]; exact hnl⟩
 ·rw [g, if_neg (by omega), if_neg (by omega)]; exact h.rest k hk
 ·rw [g a, g c, if_neg h2]
  by_cases ea : a = i
  ·subst ea
   rw [if_pos rfl]
   by_cases ec : c = j
   ·rw [if_pos ec]; exact zce9 hl
   ·rw [if_neg ec, if_neg (by unfold Ch at h3; omega)]; exact hm c h3 h4
  ·rw [if_neg ea]
   by_cases ec : c = j
   ·subst ec; unfold Ch at hj h3; omega
   ·rw [if_neg ec]
    by_cases ec2 : c = i
    ·subst ec2; rw [if_pos rfl]; exact h.up a j h1 h3 hj hn
    ·rw [if_neg ec2]; exact h.ok a c h1 ea h3 h4
 ·have ep : p = i := by unfold Ch at h2 hj; omega
  subst ep
  rw [g p, g c, if_neg (by omega), if_pos rfl, if_neg (by unfold Ch at h3; omega), if_neg (by unfold Ch at h3; omega)]
  exact h.ok j c (by omega) (by omega) h3 h4
structure Up (ps0 ps : List (Int × Int)) (n j : Nat) : Prop where
 perm : ps.Perm ps0
 ok : ∀ a c, c ≠ j -> Ch a c -> c < n -> leP (G ps a) (G ps c)
 up : ∀ p c, Ch p j -> Ch j c -> c < n -> leP (G ps p) (G ps c)
 jn : j < n
 nl : n = ps.length
theorem Up.start {ps : List (Int × Int)} {x : Int × Int} (h : Heap ps ps.length 0) : Up (ps ++ [x]) (ps ++ [x]) (ps.length + 1) ps.length := by
 refine ⟨List.Perm.refl _, fun a c h1 h2 h3 => ?_, fun p c h1 h2 h3 => by unfold Ch at h2; omega, by omega, by simp⟩
 have e : ∀ k, k < ps.length -> G (ps ++ [x]) k = G ps k := fun k hk => by simp [G, List.getD_eq_getElem?_getD, List.getElem?_append_left hk]
 rw [e c (by omega), e a (by unfold Ch at h2; omega)]
 exact h a c (Nat.zero_le _) h2 (by omega)
theorem Up.top {ps0 ps : List (Int × Int)} {n : Nat} (h : Up ps0 ps n 0) : Heap ps n 0 := fun a c _ h2 h3 => h.ok a c (by unfold Ch at h2; omega) h2 h3
theorem Up.stop {ps0 ps : List (Int × Int)} {n p j : Nat} (h : Up ps0 ps n j) (hp : Ch p j) (hl : ¬ ltP (G ps j) (G ps p)) : Heap ps n 0 := by
 intro a c _ h2 h3
 by_cases e : c = j
 ·subst e
  have : a = p := by unfold Ch at h2 hp; omega
  subst this
  exact hl
 ·exact h.ok a c e h2 h3
theorem Up.rise {ps0 ps : List (Int × Int)} {n p j : Nat} (h : Up ps0 ps n j) (hp : Ch p j) (hl : ltP (G ps j) (G ps p)) : Up ps0 (swp ps p j) n p := by
 have hjn := h.jn
 have hnl := h.nl
 have hpj : p < j := by unfold Ch at hp; omega
 have hp' : p < ps.length := by omega
 have hj' : j < ps.length := by omega
 have g := zep9 ps hp' hj'
 refine ⟨(zjj9 ps hp' hj').trans h.perm, fun a c h1 h2 h3 => ?_, fun q c h1 h2 h3 => ?_, by omega, by rw [zdf9]; exact hnl⟩
 ·rw [g a, g c]
  by_cases ec : c = j
  ·have ea : a = p := by unfold Ch at h2 hp; omega
   subst ea; subst ec
   rw [if_neg (by omega), if_pos rfl, if_pos rfl]
   exact zce9 hl
  ·rw [if_neg ec, if_neg h1]
   by_cases ea : a = j
   ·subst ea; rw [if_pos rfl]; exact h.up p c hp h2 h3
   ·rw [if_neg ea]
    by_cases ea2 : a = p
    ·subst ea2; rw [if_pos rfl]; exact zbp9 (zce9 hl) (h.ok a c ec h2 h3)
    ·rw [if_neg ea2]; exact h.ok a c ec h2 h3
 ·have hq : leP (G ps q) (G ps p) := h.ok q p (by omega) h1 (by omega)
  rw [g q, g c, if_neg (by unfold Ch at h1; omega), if_neg (by unfold Ch at h1; omega)]
  by_cases ec : c = j
  ·subst ec; rw [if_pos rfl]; exact hq
  ·rw [if_neg ec, if_neg (by unfold Ch at h2; omega)]
   exact zbp9 hq (h.ok p c ec h2 h3)
theorem Heap.least {ps : List (Int × Int)} {n : Nat} (h : Heap ps n 0) : ∀ k, k < n -> leP (G ps 0) (G ps k) := by
 intro k
 induction k using Nat.strongRecOn with
 | ind k ih =>
  intro hk
  by_cases h0 : k = 0
  ·subst h0; exact zcp9 _
  ·have hc : Ch ((k - 1) / 2) k := by unfold Ch; omega
   exact zbp9 (ih ((k - 1) / 2) (by omega) (by omega)) (h _ k (Nat.zero_le _) hc hk)
theorem mem_G {ps : List (Int × Int)} {x : Int × Int} (h : x ∈ ps) : ∃ k, k < ps.length /\ G ps k = x := by
 obtain ⟨k, hk, e⟩ := List.mem_iff_getElem.1 h
 exact ⟨k, hk, by simp [G, List.getD_eq_getElem?_getD, hk, e]⟩
theorem G_mem {ps : List (Int × Int)} {k : Nat} (h : k < ps.length) : G ps k ∈ ps := by
 simp [G, List.getD_eq_getElem?_getD, h]
theorem zwd9 {ps qs : List (Int × Int)} {n : Nat} (hl : ps.length = n + 1) (hq : qs.Perm (swp ps 0 n)) (hr : ∀ k, n <= k -> G qs k = G (swp ps 0 n) k) :
  G qs n = G ps 0 /\ ps.Perm (G ps 0 :: qs.take n) := by
 have hql : qs.length = n + 1 := by rw [hq.length_eq, zdf9, hl]
 have e : G qs n = G ps 0 := by rw [hr n (Nat.le_refl _), zep9 ps (by omega) (by omega), if_pos rfl]
 refine ⟨e, ?_⟩
 have h1 : qs = qs.take n ++ [G qs n] := by
  have : qs.take (n + 1) = qs := List.take_of_length_le (by omega)
  conv => lhs; rw [<- this, List.take_succ_eq_append_getElem (by omega)]
  simp [G, List.getD_eq_getElem?_getD, hql]
 have h2 : ps.Perm qs := (hq.trans (zjj9 ps (by omega) (by omega))).symm
 rw [h1, e] at h2
 exact h2.trans (List.perm_append_comm)
theorem Heap.take {ps : List (Int × Int)} {n : Nat} (h : Heap ps n 0) : Heap (ps.take n) n 0 := by
 have e : ∀ k, k < n -> G (ps.take n) k = G ps k := fun k hk => by simp [G, List.getD_eq_getElem?_getD, hk]
 intro a c h1 h2 h3
 rw [e c h3, e a (by unfold Ch at h2; omega)]
 exact h a c h1 h2 h3
def cost (ps : List (Nat × Nat)) : Nat := (ps.map fun p => p.1 * p.2).sum
def kraft (M : Nat) (ps : List (Nat × Nat)) : Nat := (ps.map fun p => 2 ^ (M - p.2)).sum
def ins (x : Nat) : List Nat -> List Nat
 | [] => [x]
 | y :: r => if y <= x then y :: ins x r else x :: y :: r
def hc : Nat -> List Nat -> Nat
 | 0, _ => 0
 | _ + 1, [] => 0
 | _ + 1, [_] => 0
 | f + 1, a :: b :: r => (a + b) + hc f (ins (a + b) r)
def Asc (l : List Nat) : Prop := l.Pairwise (· <= ·)
theorem zod9 (x : Nat) (l : List Nat) : (ins x l).length = l.length + 1 := by
 induction l with
 | nil => rfl
 | cons y r ih => simp only [ins]; split <;> simp [ih]
theorem zzn9 {x z : Nat} {l : List Nat} : z ∈ ins x l ↔ z = x ∨ z ∈ l := by
 induction l with
 | nil => simp [ins]
 | cons y r ih =>
  simp only [ins]
  split
  ·simp only [List.mem_cons, ih]
   constructor
   ·rintro (h | h | h)
    ·exact .inr (.inl h)
    ·exact .inl h
    ·exact .inr (.inr h)
   ·rintro (h | h | h)
    ·exact .inr (.inl h)
    ·exact .inl h
    ·exact .inr (.inr h)
  ·simp [List.mem_cons]
theorem zuq9 {x : Nat} {l : List Nat} (h : Asc l) : Asc (ins x l) := by
 induction l with
 | nil => simp [ins, Asc]
 | cons y r ih =>
  obtain ⟨h1, h2⟩ := List.pairwise_cons.1 h
  simp only [ins]
  split
  ·rename_i hle
   refine List.pairwise_cons.2 ⟨fun z hz => ?_, ih h2⟩
   rcases zzn9.1 hz with e | e
   ·omega
   ·exact h1 z e
  ·rename_i hle
   refine List.pairwise_cons.2 ⟨fun z hz => ?_, h⟩
   rcases List.mem_cons.1 hz with e | e
   ·omega
   ·have := h1 z e; omega
def insP (x : Nat × Nat) : List (Nat × Nat) -> List (Nat × Nat)
 | [] => [x]
 | y :: r => if y.1 <= x.1 then y :: insP x r else x :: y :: r
theorem zjf9 (x : Nat × Nat) (l : List (Nat × Nat)) : (insP x l).map (·.1) = ins x.1 (l.map (·.1)) := by
 induction l with
 | nil => rfl
 | cons y r ih => simp only [insP, List.map_cons, ins]; split <;> simp [ih]
theorem zrv9 (x : Nat × Nat) (l : List (Nat × Nat)) : cost (insP x l) = x.1 * x.2 + cost l := by
 induction l with
 | nil => simp [insP, cost]
 | cons y r ih =>
  simp only [insP]
  split
  ·simp only [cost, List.map_cons, List.sum_cons] at ih ⊢; omega
  ·simp [cost]
theorem zoc9 (M : Nat) (x : Nat × Nat) (l : List (Nat × Nat)) : kraft M (insP x l) = 2 ^ (M - x.2) + kraft M l := by
 induction l with
 | nil => simp [insP, kraft]
 | cons y r ih =>
  simp only [insP]
  split
  ·simp only [kraft, List.map_cons, List.sum_cons] at ih ⊢; omega
  ·simp [kraft]
theorem zxx9 {x z : Nat × Nat} {l : List (Nat × Nat)} (h : z ∈ insP x l) : z = x ∨ z ∈ l := by
 induction l with
 | nil => simpa [insP] using h
 | cons y r ih =>
  simp only [insP] at h
  split at h
  ·rcases List.mem_cons.1 h with e | e
   ·exact .inr (List.mem_cons.2 (.inl e))
   ·rcases ih e with e | e
    ·exact .inl e
    ·exact .inr (List.mem_cons.2 (.inr e))
  ·exact List.mem_cons.1 h
theorem zva9 (M a l : Nat) (rs : List (Nat × Nat)) (ha : ∀ p ∈ rs, a <= p.1) :
  ∃ l' rs', rs'.map (·.1) = rs.map (·.1) /\ (∀ p ∈ rs', p.2 <= l') /\ cost ((a, l') :: rs') <= cost ((a, l) :: rs) /\ kraft M ((a, l') :: rs') = kraft M ((a, l) :: rs) ∧
   ∀ K, (∀ p ∈ (a, l) :: rs, p.2 <= K) -> ∀ p ∈ (a, l') :: rs', p.2 <= K := by
 induction rs with
 | nil => exact ⟨l, [], rfl, fun p hp => (by cases hp), Nat.le_refl _, rfl, fun K h => h⟩
 | cons p t ih =>
  obtain ⟨w, m⟩ := p
  obtain ⟨l', t', h1, h2, h3, h4, h5⟩ := ih (fun p hp => ha p (List.mem_cons.2 (.inr hp)))
  have haw : a <= w := ha (w, m) (List.mem_cons.2 (.inl rfl))
  by_cases hm : m <= l'
  ·refine ⟨l', (w, m) :: t', by simp [h1], ?_, ?_, ?_, ?_⟩
   ·intro p hp
    rcases List.mem_cons.1 hp with e | e
    ·rw [e]; exact hm
    ·exact h2 p e
   ·simp only [cost, List.map_cons, List.sum_cons] at h3 ⊢; omega
   ·simp only [kraft, List.map_cons, List.sum_cons] at h4 ⊢; omega
   ·intro K hK p hp
    have h6 := h5 K (fun p hp => by
     rcases List.mem_cons.1 hp with e | e
     ·exact hK p (by rw [e]; simp)
     ·exact hK p (by simp [e]))
    rcases List.mem_cons.1 hp with e | e
    ·exact h6 p (by rw [e]; simp)
    ·rcases List.mem_cons.1 e with e | e
     ·exact hK p (by rw [e]; simp)
     ·exact h6 p (by simp [e])
  ·refine ⟨m, (w, l') :: t', by simp [h1], ?_, ?_, ?_, ?_⟩
   ·intro p hp
    rcases List.mem_cons.1 hp with e | e
    ·rw [e]; show l' <= m; omega
    ·have := h2 p e; omega
   ·have hx : a * m + w * l' <= a * l' + w * m := by
     obtain ⟨d, rfl⟩ : ∃ d, w = a + d := ⟨w - a, by omega⟩
     obtain ⟨e, rfl⟩ : ∃ e, m = l' + e := ⟨m - l', by omega⟩
     have : d * l' <= d * (l' + e) := Nat.mul_le_mul_left _ (by omega)
     simp only [Nat.add_mul, Nat.mul_add] at this ⊢
     omega
    simp only [cost, List.map_cons, List.sum_cons] at h3 ⊢; omega
   ·simp only [kraft, List.map_cons, List.sum_cons] at h4 ⊢; omega
   ·intro K hK p hp
    have h6 := h5 K (fun p hp => by
     rcases List.mem_cons.1 hp with e | e
     ·exact hK p (by rw [e]; simp)
     ·exact hK p (by simp [e]))
    rcases List.mem_cons.1 hp with e | e
    ·rw [e]; exact hK (w, m) (by simp)
    ·rcases List.mem_cons.1 e with e | e
     ·rw [e]; exact h6 (a, l') (by simp)
     ·exact h6 p (by simp [e])
theorem zth9 (M L : Nat) (ps : List (Nat × Nat)) (h : ∀ p ∈ ps, p.2 <= L) : 2 ^ (M - L) ∣ kraft M ps := by
 induction ps with
 | nil => simp [kraft]
 | cons p t ih =>
  have h1 := ih (fun p hp => h p (List.mem_cons.2 (.inr hp)))
  have h2 : 2 ^ (M - L) ∣ 2 ^ (M - p.2) := Nat.pow_dvd_pow 2 (by have := h p (List.mem_cons.2 (.inl rfl)); omega)
  simp only [kraft, List.map_cons, List.sum_cons] at h1 ⊢
  exact Nat.dvd_add h2 h1
theorem opt (M f : Nat) (ps : List (Nat × Nat)) (hf : ps.length <= f + 1) (hs : Asc (ps.map (·.1))) (hM : ∀ p ∈ ps, p.2 <= M) (hk : kraft M ps <= 2 ^ M) : hc f (ps.map (·.1)) <= cost ps := by
 induction f generalizing ps with
 | zero => simp [hc]
 | succ f ih =>
  match ps, hf, hs, hM, hk with
  | [], _, _, _, _ => simp [hc]
  | [_], _, _, _, _ => simp [hc]
  | (a, l1) :: (b, l2) :: r, hf, hs, hM, hk =>
   simp only [List.map_cons] at hs
   obtain ⟨s1, s2⟩ := List.pairwise_cons.1 hs
   obtain ⟨s3, s4⟩ := List.pairwise_cons.1 s2
   obtain ⟨m1, r1, e1, g1, c1, k1, b1⟩ := zva9 M a l1 ((b, l2) :: r) (fun p hp => s1 p.1 (by
    rcases List.mem_cons.1 hp with e | e
    ·rw [e]; simp
    ·exact List.mem_cons.2 (.inr (List.mem_map.2 ⟨p, e, rfl⟩))))
   cases r1 with
   | nil => simp at e1
   | cons q r1 =>
    obtain ⟨b', l2'⟩ := q
    simp only [List.map_cons, List.cons.injEq] at e1
    obtain ⟨rfl, e1⟩ := e1
    obtain ⟨m2, r2, e2, g2, c2, k2, b2⟩ := zva9 M b' l2' r1 (fun p hp => s3 p.1 (by rw [<- e1]; exact List.mem_map.2 ⟨p, hp, rfl⟩))
    have hm21 : ∀ p ∈ (b', m2) :: r2, p.2 <= m1 := b2 m1 (fun p hp => g1 p hp)
    have hm12 : m2 <= m1 := hm21 (b', m2) (by simp)
    have hmM : m1 <= M := b1 M hM (a, m1) (by simp)
    have hc2 : cost ((a, m1) :: (b', m2) :: r2) <= cost ((a, l1) :: (b', l2) :: r) := by
     simp only [cost, List.map_cons, List.sum_cons] at c1 c2 ⊢; omega
    have hk2 : kraft M ((a, m1) :: (b', m2) :: r2) <= 2 ^ M := by
     simp only [kraft, List.map_cons, List.sum_cons] at k1 k2 hk ⊢; omega
    simp only [kraft, List.map_cons, List.sum_cons] at hk2
    -- room for both at the second one's length
    have d1 : 2 ^ (M - m2) ∣ kraft M r2 := zth9 M m2 r2 g2
    have d2 : 2 ^ (M - m2) ∣ 2 ^ M := Nat.pow_dvd_pow 2 (by omega)
    have p1 : 0 < 2 ^ (M - m1) := Nat.two_pow_pos _
    have hroom : 2 ^ (M - m2) + 2 ^ (M - m2) + kraft M r2 <= 2 ^ M := by
     obtain ⟨u, hu⟩ := d1
     obtain ⟨v, hv⟩ := d2
     have hk3 : 2 ^ (M - m1) + (2 ^ (M - m2) + kraft M r2) <= 2 ^ M := hk2
     rw [hu, hv] at hk3
     rw [hu, hv]
     generalize 2 ^ (M - m2) = q at *
     have hq : q * (1 + u) < q * v := by rw [Nat.mul_add, Nat.mul_one]; omega
     have huv : 1 + u < v := Nat.lt_of_mul_lt_mul_left hq
     have : q * (2 + u) <= q * v := Nat.mul_le_mul_left _ (by omega)
     rw [Nat.mul_add] at this
     omega
    have hpos : 1 <= m2 := by
     rcases Nat.eq_zero_or_pos m2 with e | e
     ·subst e
      have : 0 < 2 ^ M := Nat.two_pow_pos M
      simp only [Nat.sub_zero] at hroom
      omega
     ·exact e
    have e3 : 2 ^ (M - (m2 - 1)) = 2 ^ (M - m2) + 2 ^ (M - m2) := by
     rw [show M - (m2 - 1) = (M - m2) + 1 by omega, Nat.pow_succ]; omega
    have hih := ih (insP (a + b', m2 - 1) r2) (by
      have h1 : (insP (a + b', m2 - 1) r2).length = r2.length + 1 := by
       have := congrArg List.length (zjf9 (a + b', m2 - 1) r2)
       rw [List.length_map, zod9, List.length_map] at this
       exact this
      have h2 : r2.length = r.length := by
       have := congrArg List.length (e2.trans e1)
       simpa using this
      simp only [List.length_cons] at hf
      omega)
     (by rw [zjf9, e2, e1]; exact zuq9 s4)
     (fun p hp => by
      rcases zxx9 hp with e | e
      ·rw [e]; show m2 - 1 <= M; omega
      ·have := hm21 p (List.mem_cons.2 (.inr e)); omega)
     (by rw [zoc9, e3]; exact hroom)
    rw [zjf9, e2, e1, zrv9] at hih
    show (a + b') + hc f (ins (a + b') (r.map (·.1))) <= _
    refine Nat.le_trans ?_ hc2
    have e4 : (a + b') * (m2 - 1) + (a + b') = (a + b') * m2 := by
     obtain ⟨t, rfl⟩ : ∃ t, m2 = t + 1 := ⟨m2 - 1, by omega⟩
     simp [Nat.mul_add]
    have e5 : a * m2 <= a * m1 := Nat.mul_le_mul_left _ hm12
    have e6 : (a + b') * m2 = a * m2 + b' * m2 := Nat.add_mul _ _ _
    simp only [cost, List.map_cons, List.sum_cons] at hih ⊢
    omega
def insT (x : Nat × List (Nat × Nat)) : List (Nat × List (Nat × Nat)) -> List (Nat × List (Nat × Nat))
 | [] => [x]
 | y :: r => if y.1 <= x.1 then y :: insT x r else x :: y :: r
def bump (l : List (Nat × Nat)) : List (Nat × Nat) := l.map fun p => (p.1, p.2 + 1)
def join (a b : Nat × List (Nat × Nat)) : Nat × List (Nat × Nat) := (a.1 + b.1, bump (a.2 ++ b.2))
def hgo : Nat -> List (Nat × List (Nat × Nat)) -> List (Nat × Nat)
 | _, [] => []
 | _, [t] => t.2
 | 0, _ :: _ :: _ => []
 | f + 1, a :: b :: r => hgo f (insT (join a b) r)
theorem zyd9 (x : Nat × List (Nat × Nat)) (l : List (Nat × List (Nat × Nat))) : (insT x l).map (·.1) = ins x.1 (l.map (·.1)) := by
 induction l with
 | nil => rfl
 | cons y r ih => simp only [insT, List.map_cons, ins]; split <;> simp [ih]
theorem zgq9 (x : Nat × List (Nat × Nat)) (l : List (Nat × List (Nat × Nat))) : (insT x l).Perm (x :: l) := by
 induction l with
 | nil => exact List.Perm.refl _
 | cons y r ih =>
  simp only [insT]
  split
  ·exact (List.Perm.cons y ih).trans (List.Perm.swap x y r)
  ·exact List.Perm.refl _
theorem zav9 (x : Nat × List (Nat × Nat)) (l : List (Nat × List (Nat × Nat))) : (insT x l).length = l.length + 1 := (zgq9 x l).length_eq
theorem zog9 {x z : Nat × List (Nat × Nat)} {l : List (Nat × List (Nat × Nat))} : z ∈ insT x l ↔ z = x ∨ z ∈ l := by
 rw [(zgq9 x l).mem_iff, List.mem_cons]
def zab9 (c : Nat -> Nat) (ls : List (Nat × Nat)) : Nat := (ls.map fun p => c p.1 * p.2).sum
def leafW (c : Nat -> Nat) (ls : List (Nat × Nat)) : Nat := (ls.map fun p => c p.1).sum
def leafK (M : Nat) (ls : List (Nat × Nat)) : Nat := (ls.map fun p => 2 ^ (M - p.2)).sum
theorem zad9 (c : Nat -> Nat) (a b : List (Nat × Nat)) : zab9 c (a ++ b) = zab9 c a + zab9 c b := by simp [zab9]
theorem zeq9 (c : Nat -> Nat) (a b : List (Nat × Nat)) : leafW c (a ++ b) = leafW c a + leafW c b := by simp [leafW]
theorem zks9 (M : Nat) (a b : List (Nat × Nat)) : leafK M (a ++ b) = leafK M a + leafK M b := by simp [leafK]
theorem ziq9 (c : Nat -> Nat) (a : List (Nat × Nat)) : zab9 c (bump a) = zab9 c a + leafW c a := by
 induction a with
 | nil => rfl
 | cons p t ih =>
  simp only [zab9, leafW, bump, List.map_cons, List.sum_cons, List.map_map] at ih ⊢
  rw [ih, Nat.mul_add]
  omega
theorem zpf9 (c : Nat -> Nat) (a : List (Nat × Nat)) : leafW c (bump a) = leafW c a := by
 simp [leafW, bump, Function.comp_def]
def Good (c : Nat -> Nat) (l : List (Nat × List (Nat × Nat))) : Prop := ∀ t ∈ l, t.1 = leafW c t.2
theorem Good.step {c : Nat -> Nat} {a b : Nat × List (Nat × Nat)} {r : List (Nat × List (Nat × Nat))} (h : Good c (a :: b :: r)) : Good c (insT (join a b) r) := by
 intro t ht
 rcases zog9.1 ht with e | e
 ·subst e
  have h1 := h a (by simp)
  have h2 := h b (by simp)
  show a.1 + b.1 = leafW c (bump (a.2 ++ b.2))
  rw [zpf9, zeq9, h1, h2]
 ·exact h t (by simp [e])
def zr9 (l : List (Nat × List (Nat × Nat))) : List (Nat × Nat) := l.flatMap (·.2)
theorem zig9 (c : Nat -> Nat) {a b : List (Nat × Nat)} (h : a.Perm b) : zab9 c a = zab9 c b := (h.map _).sum_nat
theorem zir9 (x : Nat × List (Nat × Nat)) (l : List (Nat × List (Nat × Nat))) : (zr9 (insT x l)).Perm (x.2 ++ zr9 l) := by
 have := (zgq9 x l).flatMap_right (·.2)
 simpa [zr9] using this
theorem zwu9 (c : Nat -> Nat) (f : Nat) (l : List (Nat × List (Nat × Nat))) (hg : Good c l) (h0 : l ≠ []) (hf : l.length <= f + 1) : zab9 c (hgo f l) = zab9 c (zr9 l) + hc f (l.map (·.1)) := by
 induction f generalizing l with
 | zero =>
  match l, h0, hf with
  | [t], _, _ => simp [hgo, zr9, hc]
 | succ f ih =>
  match l, h0, hf, hg with
  | [t], _, _, _ => simp [hgo, zr9, hc]
  | a :: b :: r, _, hf, hg =>
   have h1 := ih (insT (join a b) r) hg.step (by intro e; have := zav9 (join a b) r; rw [e] at this; simp at this) (by rw [zav9]; simp at hf; omega)
   show zab9 c (hgo f (insT (join a b) r)) = _
   rw [h1, zig9 c (zir9 _ _), zad9, zyd9]
   show zab9 c (bump (a.2 ++ b.2)) + _ + _ = _
   rw [ziq9, zad9, zeq9, <- hg a (by simp), <- hg b (by simp)]
   simp only [zr9, List.flatMap_cons, List.map_cons, hc]
   rw [zad9, zad9]
   show _ + hc f (ins (a.1 + b.1) _) = _
   omega
theorem zrq9 (f : Nat) (l : List (Nat × List (Nat × Nat))) (h0 : l ≠ []) (hf : l.length <= f + 1) : ((hgo f l).map (·.1)).Perm ((zr9 l).map (·.1)) := by
 induction f generalizing l with
 | zero =>
  match l, h0, hf with
  | [t], _, _ => simp [hgo, zr9]
 | succ f ih =>
  match l, h0, hf with
  | [t], _, _ => simp [hgo, zr9]
  | a :: b :: r, _, hf =>
   have h1 := ih (insT (join a b) r) (by intro e; have := zav9 (join a b) r; rw [e] at this; simp at this) (by rw [zav9]; simp at hf; omega)
   show ((hgo f (insT (join a b) r)).map (·.1)).Perm _
   refine h1.trans (((zir9 _ _).map _).trans ?_)
   show (((bump (a.2 ++ b.2)) ++ zr9 r).map (·.1)).Perm _
   simp [bump, zr9, Function.comp_def]
def Full (l : List (Nat × List (Nat × Nat))) : Prop := ∀ t ∈ l, t.2 ≠ [] /\ ∀ M, (∀ p ∈ t.2, p.2 <= M) -> leafK M t.2 = 2 ^ M
theorem zpm9 (M : Nat) (a : List (Nat × Nat)) : leafK (M + 1) (bump a) = leafK M a := by
 induction a with
 | nil => rfl
 | cons p t ih =>
  simp only [leafK, bump, List.map_cons, List.sum_cons] at ih ⊢
  rw [ih, show M + 1 - (p.2 + 1) = M - p.2 by omega]
theorem Full.step {a b : Nat × List (Nat × Nat)} {r : List (Nat × List (Nat × Nat))} (h : Full (a :: b :: r)) : Full (insT (join a b) r) := by
 intro t ht
 rcases zog9.1 ht with e | e
 ·subst e
  obtain ⟨a1, a2⟩ := h a (by simp)
  obtain ⟨b1, b2⟩ := h b (by simp)
  refine ⟨by simp [join, bump, a1], fun M hM => ?_⟩
  show leafK M (bump (a.2 ++ b.2)) = 2 ^ M
  have hM' : ∀ p ∈ a.2 ++ b.2, p.2 + 1 <= M := fun p hp => hM (p.1, p.2 + 1) (List.mem_map.2 ⟨p, hp, rfl⟩)
  match M, hM' with
  | 0, hM' =>
   obtain ⟨p, t, e⟩ := List.exists_cons_of_ne_nil a1
   have := hM' p (by rw [e]; simp)
   omega
  | M + 1, hM' =>
   rw [zpm9, zks9, a2 M (fun p hp => by have := hM' p (List.mem_append.2 (.inl hp)); omega), b2 M (fun p hp => by have := hM' p (List.mem_append.2 (.inr hp)); omega), Nat.pow_succ]
   omega
 ·exact h t (by simp [e])
theorem zvp9 (f : Nat) (l : List (Nat × List (Nat × Nat))) (hg : Full l) (h0 : l ≠ []) (hf : l.length <= f + 1) (M : Nat) (hM : ∀ p ∈ hgo f l, p.2 <= M) : leafK M (hgo f l) = 2 ^ M := by
 induction f generalizing l with
 | zero =>
  match l, h0, hf, hg, hM with
  | [t], _, _, hg, hM => exact (hg t (by simp)).2 M hM
 | succ f ih =>
  match l, h0, hf, hg, hM with
  | [t], _, _, hg, hM => exact (hg t (by simp)).2 M hM
  | a :: b :: r, _, hf, hg, hM =>
   exact ih (insT (join a b) r) hg.step (by intro e; have := zav9 (join a b) r; rw [e] at this; simp at this) (by rw [zav9]; simp at hf; omega) hM
def fib : Nat -> Nat
 | 0 => 0
 | 1 => 1
 | n + 2 => fib (n + 1) + fib n
def Heavy (t s : Nat × List (Nat × Nat)) : Prop := (∀ p ∈ t.2, fib (p.2 + 1) <= s.1) /\ ∀ p ∈ s.2, fib (p.2 + 1) <= t.1
def Deep (l : List (Nat × List (Nat × Nat))) : Prop := (∀ t ∈ l, ∀ p ∈ t.2, fib (p.2 + 2) <= t.1) /\ l.Pairwise Heavy
def sumOn (Bs : List Nat) (g : Nat -> Nat) : Nat := (Bs.map g).sum
theorem zaz9 {a b : List Nat} (h : a.Perm b) (g : Nat -> Nat) : sumOn a g = sumOn b g := (h.map g).sum_nat
theorem zn9 (b : Nat) (r : List Nat) (g : Nat -> Nat) : sumOn (b :: r) g = g b + sumOn r g := by simp [sumOn]
theorem zfw9 {Bs : List Nat} {g h : Nat -> Nat} (e : ∀ b ∈ Bs, g b = h b) : sumOn Bs g = sumOn Bs h := by
 unfold sumOn; rw [List.map_congr_left e]
theorem znv9 {Bs : List Nat} {g : Nat -> Nat} {m : Nat} (h : ∀ b ∈ Bs, g b <= m) : sumOn Bs g <= Bs.length * m := by
 induction Bs with
 | nil => simp [sumOn]
 | cons b r ih =>
  rw [zn9]
  have h1 := ih (fun x hx => h x (List.mem_cons.2 (.inr hx)))
  have h2 := h b (List.mem_cons.2 (.inl rfl))
  simp only [List.length_cons, Nat.add_mul, Nat.one_mul]
  omega
structure Tr (c d : Nat -> Nat) (Bs : List Nat) : Prop where
 nd : Bs.Nodup
 two : 2 <= Bs.length
 full : ∀ M : Nat, (∀ b ∈ Bs, d b <= M) -> sumOn Bs (fun b => 2 ^ (M - d b)) = 2 ^ M
 best : ∀ (M : Nat) (o : Nat -> Nat), (∀ b ∈ Bs, o b <= M) -> sumOn Bs (fun b => 2 ^ (M - o b)) <= 2 ^ M -> sumOn Bs (fun b => c b * d b) <= sumOn Bs (fun b => c b * o b)
theorem zcb9 {x : Nat} {Bs : List Nat} (h : x ∈ Bs) : Bs.Perm (x :: Bs.erase x) := List.perm_cons_erase h
theorem zii9 (d : Nat -> Nat) (Bs : List Nat) (h : Bs ≠ []) : ∃ x ∈ Bs, ∀ b ∈ Bs, d b <= d x := by
 induction Bs with
 | nil => exact absurd rfl h
 | cons b r ih =>
  by_cases hr : r = []
  ·subst hr; exact ⟨b, by simp, fun y hy => by simp at hy; rw [hy]; exact Nat.le_refl _⟩
  ·obtain ⟨x, hx, hm⟩ := ih hr
   by_cases e : d b <= d x
   ·refine ⟨x, by simp [hx], fun y hy => ?_⟩
    rcases List.mem_cons.1 hy with q | q
    ·rw [q]; exact e
    ·exact hm y q
   ·refine ⟨b, by simp, fun y hy => ?_⟩
    rcases List.mem_cons.1 hy with q | q
    ·rw [q]; exact Nat.le_refl _
    ·have := hm y q; omega
theorem Tr.twins {c d : Nat -> Nat} {Bs : List Nat} (h : Tr c d Bs) {x : Nat} (hx : x ∈ Bs) (hm : ∀ b ∈ Bs, d b <= d x) : ∃ y ∈ Bs, y ≠ x /\ d y = d x := by
 rcases Classical.em (∃ y ∈ Bs, y ≠ x /\ d y = d x) with e | e
 ·exact e
 ·exfalso
  have hp := zcb9 hx
  have hk := h.full (d x) hm
  rw [zaz9 hp, zn9, Nat.sub_self, Nat.pow_zero] at hk
  have hnd := h.nd
  have hev : 2 ∣ sumOn (Bs.erase x) (fun b => 2 ^ (d x - d b)) := by
   have : ∀ L : List Nat, (∀ b ∈ L, d b < d x) -> 2 ∣ sumOn L (fun b => 2 ^ (d x - d b)) := by
    intro L
    induction L with
    | nil => intro _; simp [sumOn]
    | cons b r ih =>
     intro hL
     rw [zn9]
     refine Nat.dvd_add ?_ (ih (fun z hz => hL z (List.mem_cons.2 (.inr hz))))
     have := hL b (List.mem_cons.2 (.inl rfl))
     exact Nat.dvd_trans (show 2 ∣ 2 ^ 1 by decide) (Nat.pow_dvd_pow 2 (by omega))
   refine this _ fun b hb => ?_
   have hb' : b ∈ Bs := List.mem_of_mem_erase hb
   have hbx : b ≠ x := fun q => by
    rw [q] at hb
    exact (List.Nodup.not_mem_erase hnd) hb
   have := hm b hb'
   rcases Nat.lt_or_ge (d b) (d x) with q | q
   ·exact q
   ·exact absurd ⟨b, hb', hbx, by omega⟩ e
  have hpos : d x ≠ 0 := by
   intro q
   have h2 := h.two
   have hl : 1 <= (Bs.erase x).length := by rw [List.length_erase_of_mem hx]; omega
   obtain ⟨b, r, hbr⟩ := List.exists_cons_of_ne_nil (show Bs.erase x ≠ [] by intro q; rw [q] at hl; simp at hl)
   rw [q, hbr, zn9] at hk
   simp at hk
  obtain ⟨u, hu⟩ := hev
  obtain ⟨t, ht⟩ : ∃ t, d x = t + 1 := ⟨d x - 1, by omega⟩
  rw [hu, ht, Nat.pow_succ] at hk
  omega
theorem Tr.shallow {c d : Nat -> Nat} {Bs : List Nat} (h : Tr c d Bs) (hc : ∀ b ∈ Bs, 1 <= c b /\ c b <= 2) (hl : Bs.length <= 256) : ∀ b ∈ Bs, d b <= 11 := by
 obtain ⟨x, hx, hm⟩ := zii9 d Bs (by intro e; have := h.two; rw [e] at this; simp at this)
 intro b hb
 have hbx := hm b hb
 rcases Nat.lt_or_ge 11 (d x) with hL | hL
 ·exfalso
  obtain ⟨y, hy, hyx, hdy⟩ := h.twins hx hm
  have hall : ∀ z ∈ Bs, d x <= d z + 2 := by
   intro z hz
   rcases Nat.lt_or_ge (d z + 2) (d x) with hs | hs
   ·exfalso
    have hzx : z ≠ x := fun e => by rw [e] at hs; omega
    have hzy : z ≠ y := fun e => by rw [e] at hs; omega
    have hy1 : y ∈ Bs.erase x := (List.mem_erase_of_ne hyx).2 hy
    have hz1 : z ∈ (Bs.erase x).erase y := (List.mem_erase_of_ne hzy).2 ((List.mem_erase_of_ne hzx).2 hz)
    have hp : Bs.Perm (x :: y :: z :: ((Bs.erase x).erase y).erase z) := (zcb9 hx).trans (List.Perm.cons x ((zcb9 hy1).trans (List.Perm.cons y (zcb9 hz1))))
    generalize ((Bs.erase x).erase y).erase z = R at hp
    have hnd := hp.nodup_iff.1 h.nd
    obtain ⟨n1, n2⟩ := List.nodup_cons.1 hnd
    obtain ⟨n3, n4⟩ := List.nodup_cons.1 n2
    obtain ⟨n5, _⟩ := List.nodup_cons.1 n4
    let o : Nat -> Nat := fun b => if b = x then d z + 1 else if b = y then d x - 1 else if b = z then d z + 1 else d b
    have ox : o x = d z + 1 := by simp [o]
    have oy : o y = d x - 1 := by simp [o, hyx]
    have oz : o z = d z + 1 := by simp [o, hzx, hzy]
    have oR : ∀ b ∈ R, o b = d b := fun b hb => by
     have e1 : b ≠ x := fun e => n1 (by rw [<- e]; simp [hb])
     have e2 : b ≠ y := fun e => n3 (by rw [<- e]; simp [hb])
     have e3 : b ≠ z := fun e => n5 (by rw [<- e]; exact hb)
     simp [o, e1, e2, e3]
    have hk := h.full (d x) hm
    have hb := h.best (d x) o (fun b hb => by
      by_cases e1 : b = x
      ·rw [e1, ox]; omega
      ·by_cases e2 : b = y
       ·rw [e2, oy]; omega
       ·by_cases e3 : b = z
        ·rw [e3, oz]; omega
        ·have : o b = d b := by simp [o, e1, e2, e3]
         rw [this]; exact hm b hb)
     (by
      rw [zaz9 hp, zn9, zn9, zn9] at hk ⊢
      rw [ox, oy, oz, zfw9 (fun b hb => by rw [oR b hb])]
      have e1 : d x - (d x - 1) = 1 := by omega
      have e2 : d x - d z = (d x - (d z + 1)) + 1 := by omega
      rw [e2, Nat.pow_succ, hdy, Nat.sub_self, Nat.pow_zero] at hk
      rw [e1]
      omega)
    rw [zaz9 hp, zaz9 hp, zn9, zn9, zn9, zn9, zn9, zn9, ox, oy, oz, zfw9 (g := fun b => c b * o b) (h := fun b => c b * d b) (fun b hb => by rw [oR b hb])] at hb
    have cx := hc x hx
    have cy := hc y hy
    have cz := hc z hz
    obtain ⟨v, hv⟩ : ∃ v, d x = d z + (v + 3) := ⟨d x - d z - 3, by omega⟩
    rw [hdy, show d x - 1 = d z + (v + 2) by omega, hv] at hb
    simp only [Nat.mul_add, Nat.mul_one] at hb
    have q1 : c x * v = c x * v := rfl
    omega
   ·exact hs
  -- so there are too many
  have hk := h.full (d x) hm
  have h4 := znv9 (Bs := Bs) (g := fun b => 2 ^ (d x - d b)) (m := 4) (fun b hb => by
   have := hall b hb
   exact Nat.le_trans (Nat.pow_le_pow_right (by decide) (show d x - d b <= 2 by omega)) (by decide))
  rw [hk] at h4
  have : 2 ^ 12 <= 2 ^ d x := Nat.pow_le_pow_right (by decide) hL
  have e12 : (2 : Nat) ^ 12 = 4096 := by decide
  omega
 ·omega
def insB (c : Nat -> Nat) (x : Nat) : List Nat -> List Nat
 | [] => [x]
 | y :: r => if c y <= c x then y :: insB c x r else x :: y :: r
def sortB (c : Nat -> Nat) (bs : List Nat) : List Nat := bs.foldl (fun acc b => insB c b acc) []
def leaf (c : Nat -> Nat) (b : Nat) : Nat × List (Nat × Nat) := (c b, [(b, 0)])
theorem zsu9 (c : Nat -> Nat) (x : Nat) (l : List Nat) : (insB c x l).Perm (x :: l) := by
 induction l with
 | nil => exact List.Perm.refl _
 | cons y r ih =>
  simp only [insB]
  split
  ·exact (List.Perm.cons y ih).trans (List.Perm.swap x y r)
  ·exact List.Perm.refl _
theorem zxl9 (c : Nat -> Nat) (x : Nat) (l : List Nat) : (insB c x l).map c = ins (c x) (l.map c) := by
 induction l with
 | nil => rfl
 | cons y r ih => simp only [insB, List.map_cons, ins]; split <;> simp [ih]
theorem zse9 (c : Nat -> Nat) (x : Nat) (l : List Nat) : (insB c x l).map (leaf c) = insT (leaf c x) (l.map (leaf c)) := by
 induction l with
 | nil => rfl
 | cons y r ih =>
  simp only [insB, List.map_cons, insT]
  show _ = if c y <= c x then _ else _
  split <;> simp [ih]
theorem zlb9 (c : Nat -> Nat) (bs acc : List Nat) (ha : Asc (acc.map c)) : (bs.foldl (fun acc b => insB c b acc) acc).Perm (acc ++ bs) /\ Asc ((bs.foldl (fun acc b => insB c b acc) acc).map c) := by
 induction bs generalizing acc with
 | nil => exact ⟨by simp, ha⟩
 | cons b r ih =>
  simp only [List.foldl_cons]
  obtain ⟨h1, h2⟩ := ih (insB c b acc) (by rw [zxl9]; exact zuq9 ha)
  refine ⟨h1.trans ?_, h2⟩
  refine ((zsu9 c b acc).append_right r).trans ?_
  exact (List.perm_middle (a := b) (l₁ := acc) (l₂ := r)).symm
theorem zac9 (c : Nat -> Nat) (bs : List Nat) : (sortB c bs).Perm bs := by simpa [sortB] using (zlb9 c bs [] (by simp [Asc])).1
theorem zsn9 (c : Nat -> Nat) (bs : List Nat) : Asc ((sortB c bs).map c) := (zlb9 c bs [] (by simp [Asc])).2
def stand (c : Nat -> Nat) (n : Nat) : List Nat := (List.range n).filter fun b => 0 < c b
theorem zmz9 (c : Nat -> Nat) (n : Nat) : (stand c n).Nodup := List.nodup_range.filter _
theorem zrj9 {c : Nat -> Nat} {n b : Nat} : b ∈ stand c n ↔ b < n /\ 0 < c b := by simp [stand]
def zby9 : List (Nat × Nat) -> Nat -> Nat
 | [], _ => 0
 | p :: r, b => if p.1 = b then p.2 else zby9 r b
theorem zch9 {ls : List (Nat × Nat)} (hn : (ls.map (·.1)).Nodup) {p : Nat × Nat} (hp : p ∈ ls) : zby9 ls p.1 = p.2 := by
 induction ls with
 | nil => cases hp
 | cons q r ih =>
  simp only [List.map_cons] at hn
  obtain ⟨h1, h2⟩ := List.nodup_cons.1 hn
  simp only [zby9]
  rcases List.mem_cons.1 hp with e | e
  ·subst e; rw [if_pos rfl]
  ·rw [if_neg (fun q' => h1 (by rw [q']; exact List.mem_map.2 ⟨p, e, rfl⟩))]
   exact ih h2 e
theorem zfi9 {ls : List (Nat × Nat)} {Bs : List Nat} (hp : (ls.map (·.1)).Perm Bs) (hn : Bs.Nodup) (G : Nat -> Nat -> Nat) : (ls.map fun p => G p.1 p.2).sum = sumOn Bs (fun b => G b (zby9 ls b)) := by
 have hnd : (ls.map (·.1)).Nodup := hp.nodup_iff.2 hn
 rw [<- zaz9 hp]
 unfold sumOn
 rw [List.map_map]
 congr 1
 refine List.map_congr_left fun p h => ?_
 show G p.1 p.2 = G p.1 (zby9 ls p.1)
 rw [zch9 hnd h]
theorem map_ne {f : Nat -> Nat × List (Nat × Nat)} {l : List Nat} (h : 1 <= l.length) : l.map f ≠ [] := by
 cases l with
 | nil => simp at h
 | cons b r => simp
def treeOf (c : Nat -> Nat) (n : Nat) : List (Nat × Nat) := hgo (stand c n).length ((sortB c (stand c n)).map (leaf c))
theorem zcl9 (c : Nat -> Nat) (n : Nat) (h : 1 <= (stand c n).length) : ((treeOf c n).map (·.1)).Perm (sortB c (stand c n)) := by
 have hl : (sortB c (stand c n)).length = (stand c n).length := (zac9 c _).length_eq
 have h1 := zrq9 (stand c n).length ((sortB c (stand c n)).map (leaf c)) (map_ne (by omega)) (by simp [hl])
 refine h1.trans ?_
 have : (zr9 ((sortB c (stand c n)).map (leaf c))).map (·.1) = sortB c (stand c n) := by
  generalize sortB c (stand c n) = l
  induction l with
  | nil => rfl
  | cons b r ih => simp only [zr9, List.map_cons, List.flatMap_cons, leaf, List.map_append] at ih ⊢; rw [ih]; rfl
 rw [this]
theorem zzq9 (c : Nat -> Nat) (l : List Nat) (hp : ∀ b ∈ l, 0 < c b) : Good c (l.map (leaf c)) /\ Full (l.map (leaf c)) /\ Deep (l.map (leaf c)) /\ zab9 c (zr9 (l.map (leaf c))) = 0 := by
 refine ⟨fun t ht => ?_, fun t ht => ?_, ⟨fun t ht p hp' => ?_, ?_⟩, ?_⟩
 ·obtain ⟨b, _, rfl⟩ := List.mem_map.1 ht
  simp [leaf, leafW]
 ·obtain ⟨b, _, rfl⟩ := List.mem_map.1 ht
  exact ⟨by simp [leaf], fun M _ => by simp [leaf, leafK]⟩
 ·obtain ⟨b, hb, rfl⟩ := List.mem_map.1 ht
  simp only [leaf, List.mem_singleton] at hp'
  subst hp'
  show 1 <= c b
  exact hp b hb
 ·rw [List.pairwise_map]
  induction l with
  | nil => simp
  | cons b r ih =>
   refine List.pairwise_cons.2 ⟨fun s hs => ⟨fun p hp' => ?_, fun p hp' => ?_⟩, ih (fun b hb => hp b (List.mem_cons.2 (.inr hb)))⟩
   ·simp only [leaf, List.mem_singleton] at hp'
    subst hp'
    exact hp s (List.mem_cons.2 (.inr hs))
   ·simp only [leaf, List.mem_singleton] at hp'
    subst hp'
    exact hp b (List.mem_cons.2 (.inl rfl))
 ·induction l with
  | nil => rfl
  | cons b r ih =>
   have h1 := ih (fun b hb => hp b (List.mem_cons.2 (.inr hb)))
   simp only [zr9, List.map_cons, List.flatMap_cons] at h1 ⊢
   rw [zad9, h1]
   simp [leaf, zab9]
theorem tr_of (c : Nat -> Nat) (n : Nat) (h : 2 <= (stand c n).length) : Tr c (zby9 (treeOf c n)) (sortB c (stand c n)) := by
 have hl : (sortB c (stand c n)).length = (stand c n).length := (zac9 c _).length_eq
 have hnd : (sortB c (stand c n)).Nodup := (zac9 c _).nodup_iff.2 (zmz9 c n)
 have hb := zcl9 c n (by omega)
 have hpos : ∀ b ∈ sortB c (stand c n), 0 < c b := fun b hb => (zrj9.1 ((zac9 c _).mem_iff.1 hb)).2
 obtain ⟨g1, g2, _, g4⟩ := zzq9 c _ hpos
 have h0 : (sortB c (stand c n)).map (leaf c) ≠ [] := map_ne (by omega)
 have hf : ((sortB c (stand c n)).map (leaf c)).length <= (stand c n).length + 1 := by simp [hl]
 have hws : ((sortB c (stand c n)).map (leaf c)).map (·.1) = (sortB c (stand c n)).map c := by simp [leaf, Function.comp_def]
 refine ⟨hnd, by omega, fun M hM => ?_, fun M o hM hk => ?_⟩
 ·rw [<- zfi9 hb hnd (fun _ d => 2 ^ (M - d))]
  refine zvp9 _ _ g2 h0 hf M (fun p hp => ?_)
  have h1 := hM p.1 (hb.mem_iff.1 (List.mem_map.2 ⟨p, hp, rfl⟩))
  rw [zch9 (hb.nodup_iff.2 hnd) hp] at h1
  exact h1
 ·rw [<- zfi9 hb hnd (fun b d => c b * d)]
  have h1 := zwu9 c (stand c n).length _ g1 h0 hf
  rw [g4, Nat.zero_add, hws] at h1
  show zab9 c (treeOf c n) <= _
  unfold treeOf
  rw [h1]
  have h2 := opt M (stand c n).length ((sortB c (stand c n)).map fun b => (c b, o b)) (by simp [hl]) (by
    rw [List.map_map]
    show Asc ((sortB c (stand c n)).map c)
    exact zsn9 c _) (fun p hp => by
     obtain ⟨b, hb', rfl⟩ := List.mem_map.1 hp
     exact hM b hb') (by
     unfold kraft
     rw [List.map_map]
     exact hk)
  rw [List.map_map] at h2
  unfold cost at h2
  rw [List.map_map] at h2
  exact h2
end Go.Proofs.YtobenjkacpipeaaGreat.Hf
