/-
  A map of numbers, plainly: a row of states (0 free, 1 taken, 2 given back) from the least number on, and how many are set aside; what each call makes of it.
-/
import Derived.Test.YtamgogkkcbeaaaaAHeap
namespace Go.Proofs.Ytamgogkkcbeaaaa.Ah

structure St where
  lo : Nat
  L : List Int
  as : Nat

structure Sok (s : St) : Prop where
  top : s.lo + s.L.length ≤ 65536
  val : ∀ i, i < s.L.length → G s.L i = 0 ∨ G s.L i = 1 ∨ G s.L i = 2
  aside : s.as ≤ s.L.count 0

/-- A number's state; -1: there is none such. -/
def stv (s : St) (n : Int) : Int := if (s.lo : Int) ≤ n ∧ n < s.lo + s.L.length then G s.L (n - s.lo).toNat else -1
/-- The program's states: 0 for none, else one more. -/
def sts (lo : Nat) (L : List Int) : List Int := List.replicate lo 0 ++ L.map (· + 1)
def fre (s : St) : Int := (s.L.count 0 : Int) - s.as

theorem sts_length (lo : Nat) (L : List Int) : (sts lo L).length = lo + L.length := by simp [sts]

theorem stv_in {s : St} {i : Nat} (hi : i < s.L.length) : stv s ((s.lo + i : Nat) : Int) = G s.L i := by
  unfold stv
  rw [if_pos (by omega)]
  congr 1
  omega

theorem stv_out {s : St} {n : Int} (h : n < s.lo ∨ (s.lo + s.L.length : Nat) ≤ n) : stv s n = -1 := by
  unfold stv
  rw [if_neg (by omega)]

theorem stv_idx {s : St} {n : Int} (h : stv s n ≠ -1) : ∃ i : Nat, i < s.L.length ∧ n = ((s.lo + i : Nat) : Int) ∧ stv s n = G s.L i := by
  by_cases hc : (s.lo : Int) ≤ n ∧ n < s.lo + s.L.length
  · refine ⟨(n - s.lo).toNat, by omega, by omega, ?_⟩
    unfold stv
    rw [if_pos hc]
  · unfold stv at h
    rw [if_neg hc] at h
    exact absurd rfl h

theorem sts_at (s : St) (n : Nat) (h : n < s.lo + s.L.length) : G (sts s.lo s.L) n = stv s n + 1 := by
  unfold sts G
  by_cases hn : n < s.lo
  · rw [stv_out (.inl (by omega)), List.getD_eq_getElem?_getD, List.getElem?_append_left (by simpa using hn)]
    simp [hn]
  · obtain ⟨i, rfl⟩ : ∃ i, n = s.lo + i := ⟨n - s.lo, by omega⟩
    rw [stv_in (by omega), List.getD_eq_getElem?_getD, List.getElem?_append_right (by simp)]
    simp [G, List.getD_eq_getElem?_getD, show i < s.L.length by omega]

theorem sts_set (lo : Nat) (L : List Int) (i : Nat) (y : Int) : (sts lo L).set (lo + i) (y + 1) = sts lo (L.set i y) := by
  unfold sts
  rw [List.set_append_right _ _ (by simp)]
  simp [List.map_set]

theorem stv_ge {s : St} (h : Sok s) (n : Int) : -1 ≤ stv s n ∧ stv s n ≤ 2 := by
  by_cases e : stv s n = -1
  · omega
  · obtain ⟨i, hi, _, e⟩ := stv_idx e
    have := h.val i hi
    omega

theorem cnt_set (L : List Int) (i : Nat) (h : i < L.length) (x y : Int) : (L.set i y).count x + (if G L i = x then 1 else 0) = L.count x + (if y = x then 1 else 0) := by
  induction L generalizing i with
  | nil => simp at h
  | cons a r ih =>
    cases i with
    | zero =>
      simp only [List.set_cons_zero, List.count_cons, G, List.getD_cons_zero, beq_iff_eq]
      omega
    | succ i =>
      have := ih i (by simpa using h)
      simp only [List.set_cons_succ, List.count_cons, G, List.getD_cons_succ, beq_iff_eq] at this ⊢
      omega

/-- One's state is turned. -/
def put (s : St) (i : Nat) (y : Int) : St := ⟨s.lo, s.L.set i y, s.as⟩

theorem stv_put {s : St} {i : Nat} (hi : i < s.L.length) (y : Int) (n : Int) : stv (put s i y) n = if n = ((s.lo + i : Nat) : Int) then y else stv s n := by
  unfold stv put
  simp only [List.length_set]
  by_cases hc : (s.lo : Int) ≤ n ∧ n < s.lo + s.L.length
  · rw [if_pos hc, if_pos hc, G_set _ _ _ _ hi]
    by_cases e : n = ((s.lo + i : Nat) : Int)
    · rw [if_pos (by omega), if_pos e]
    · rw [if_neg (by omega), if_neg e]
  · rw [if_neg hc, if_neg hc, if_neg (by omega)]

theorem put_val {s : St} (h : ∀ i, i < s.L.length → G s.L i = 0 ∨ G s.L i = 1 ∨ G s.L i = 2) {i : Nat} (hi : i < s.L.length) {y : Int} (hy : y = 0 ∨ y = 1 ∨ y = 2) : ∀ j, j < (put s i y).L.length → G (put s i y).L j = 0 ∨ G (put s i y).L j = 1 ∨ G (put s i y).L j = 2 := by
  intro j hj
  have : G (put s i y).L j = if j = i then y else G s.L j := G_set _ _ _ _ hi
  rw [this]
  split
  · exact hy
  · exact h j (by simpa [put] using hj)

/-- What is free is kept by a row of numbers: just those, each once. -/
structure Ks (x : Int) (s : St) (ns : List Int) : Prop where
  mem : ∀ n, n ∈ ns ↔ stv s n = x
  len : ns.length = s.L.count x
  nd : ns.Nodup

theorem Ks.idx {x : Int} {s : St} {ns : List Int} (h : Ks x s ns) (hx : 0 ≤ x) {n : Int} (hn : n ∈ ns) : ∃ i : Nat, i < s.L.length ∧ n = ((s.lo + i : Nat) : Int) ∧ G s.L i = x := by
  have := (h.mem n).1 hn
  obtain ⟨i, h1, h2, h3⟩ := stv_idx (s := s) (n := n) (by omega)
  exact ⟨i, h1, h2, by omega⟩

/-- One more. -/
theorem Ks.add {x : Int} {s : St} {ns qs : List Int} (h : Ks x s ns) {i : Nat} (hi : i < s.L.length) (hne : G s.L i ≠ x) (hp : qs.Perm (ns ++ [((s.lo + i : Nat) : Int)])) : Ks x (put s i x) qs := by
  have e := stv_in hi
  refine ⟨fun n => ?_, ?_, ?_⟩
  · rw [hp.mem_iff, stv_put hi]
    simp only [List.mem_append, List.mem_cons, List.not_mem_nil, or_false, h.mem]
    by_cases hn : n = ((s.lo + i : Nat) : Int)
    · rw [if_pos hn]; simp [hn]
    · rw [if_neg hn]; exact ⟨fun e => e.resolve_right hn, .inl⟩
  · have := cnt_set s.L i hi x x
    rw [if_neg hne, if_pos rfl] at this
    rw [hp.length_eq]
    simp only [List.length_append, List.length_cons, List.length_nil, put, h.len]
    omega
  · rw [hp.nodup_iff, List.nodup_append]
    refine ⟨h.nd, by simp, fun a ha b hb => ?_⟩
    simp only [List.mem_cons, List.not_mem_nil, or_false] at hb
    subst hb
    intro e2
    subst e2
    exact hne (by rw [← e]; exact (h.mem _).1 ha)

/-- One less. -/
theorem Ks.sub {x y : Int} {s : St} {ns qs : List Int} (h : Ks x s ns) {i : Nat} (hi : i < s.L.length) (hx : G s.L i = x) (hy : y ≠ x) (hp : ns.Perm (((s.lo + i : Nat) : Int) :: qs)) : Ks x (put s i y) qs := by
  have nd := h.nd
  rw [hp.nodup_iff, List.nodup_cons] at nd
  refine ⟨fun n => ?_, ?_, nd.2⟩
  · rw [stv_put hi]
    have hm := h.mem n
    rw [hp.mem_iff, List.mem_cons] at hm
    by_cases hn : n = ((s.lo + i : Nat) : Int)
    · rw [if_pos hn]
      subst hn
      exact ⟨fun e => absurd e nd.1, fun e => absurd e hy⟩
    · rw [if_neg hn, ← hm]
      exact ⟨.inr, fun e => e.resolve_left hn⟩
  · have := cnt_set s.L i hi x y
    rw [if_pos hx, if_neg hy] at this
    have hl := h.len
    rw [hp.length_eq] at hl
    simp only [List.length_cons] at hl
    simp only [put]
    omega

/-- What is no matter. -/
theorem Ks.other {x y : Int} {s : St} {ns : List Int} (h : Ks x s ns) {i : Nat} (hi : i < s.L.length) (hx : G s.L i ≠ x) (hy : y ≠ x) : Ks x (put s i y) ns := by
  refine ⟨fun n => ?_, ?_, h.nd⟩
  · rw [h.mem, stv_put hi]
    by_cases hn : n = ((s.lo + i : Nat) : Int)
    · rw [if_pos hn]
      subst hn
      rw [stv_in hi]
      exact ⟨fun e => absurd e hx, fun e => absurd e hy⟩
    · rw [if_neg hn]
  · have := cnt_set s.L i hi x y
    rw [if_neg hx, if_neg hy] at this
    rw [h.len]
    simp only [put]
    omega

theorem Ks.aside {x : Int} {s : St} {ns : List Int} (h : Ks x s ns) (a : Nat) : Ks x ⟨s.lo, s.L, a⟩ ns := ⟨h.mem, h.len, h.nd⟩

/- What each call makes of it. -/
def mrk (n : Int) (s : St) : Bool × St := if stv s n ≠ 0 ∨ fre s < 1 then (false, s) else (true, put s (n - s.lo).toNat 1)
def back (n : Int) (s : St) : Bool × St := if stv s n ≠ 1 then (false, s) else (true, put s (n - s.lo).toNat 0)
def drop (n : Int) (s : St) : Bool × St := if stv s n ≠ 1 then (false, s) else (true, put s (n - s.lo).toNat 2)
def stl (s : St) : St := ⟨s.lo, s.L.map (fun x => if x = 2 then 0 else x), s.as⟩
def take (s : St) : Int × Bool × St := if s.L.count 0 = 0 then (0, false, s) else (((s.lo + s.L.idxOf 0 : Nat) : Int), true, ⟨s.lo, s.L.set (s.L.idxOf 0) 1, s.as - 1⟩)
def rsv (n : Int) (s : St) : Bool × St := if n < 0 ∨ n > fre s then (false, s) else (true, ⟨s.lo, s.L, s.as + n.toNat⟩)
def rls (s : St) : St := ⟨s.lo, s.L, 0⟩

theorem mark_ok {s : St} (h : Sok s) (n : Int) : Sok (mrk n s).2 := by
  unfold mrk
  split
  · exact h
  · rename_i hc
    obtain ⟨i, hi, hn, e⟩ := stv_idx (s := s) (n := n) (by omega)
    have e2 : (n - s.lo).toNat = i := by omega
    rw [e2]
    refine ⟨by simpa [put] using h.top, put_val h.val hi (by omega), ?_⟩
    have := cnt_set s.L i hi 0 1
    rw [if_pos (by omega), if_neg (by omega)] at this
    simp only [put]
    have := h.aside
    unfold fre at hc
    omega

theorem back_ok {s : St} (h : Sok s) (n : Int) : Sok (back n s).2 := by
  unfold back
  split
  · exact h
  · obtain ⟨i, hi, hn, e⟩ := stv_idx (s := s) (n := n) (by omega)
    have e2 : (n - s.lo).toNat = i := by omega
    rw [e2]
    refine ⟨by simpa [put] using h.top, put_val h.val hi (by omega), ?_⟩
    have := cnt_set s.L i hi 0 0
    rw [if_neg (by omega), if_pos rfl] at this
    simp only [put]
    have := h.aside
    omega

theorem drop_ok {s : St} (h : Sok s) (n : Int) : Sok (drop n s).2 := by
  unfold drop
  split
  · exact h
  · obtain ⟨i, hi, hn, e⟩ := stv_idx (s := s) (n := n) (by omega)
    have e2 : (n - s.lo).toNat = i := by omega
    rw [e2]
    refine ⟨by simpa [put] using h.top, put_val h.val hi (by omega), ?_⟩
    have := cnt_set s.L i hi 0 2
    rw [if_neg (by omega), if_neg (by omega)] at this
    simp only [put]
    have := h.aside
    omega

theorem stl_get (s : St) (i : Nat) (hi : i < s.L.length) : G (stl s).L i = if G s.L i = 2 then 0 else G s.L i := by
  simp [stl, G, List.getD_eq_getElem?_getD, hi]

theorem stl_cnt (L : List Int) : (L.map (fun x => if x = 2 then (0 : Int) else x)).count 0 = L.count 0 + L.count 2 ∧ (L.map (fun x => if x = 2 then (0 : Int) else x)).count 2 = 0 := by
  induction L with
  | nil => simp
  | cons a r ih =>
    simp only [List.map_cons, List.count_cons, beq_iff_eq]
    by_cases e : a = 2
    · subst e; simp; omega
    · simp only [e, if_false]; omega

theorem stl_ok {s : St} (h : Sok s) : Sok (stl s) := by
  refine ⟨by simpa [stl] using h.top, fun i hi => ?_, ?_⟩
  · have hi' : i < s.L.length := by simpa [stl] using hi
    rw [stl_get s i hi']
    have := h.val i hi'
    split <;> omega
  · have := (stl_cnt s.L).1
    have := h.aside
    simp only [stl]
    omega

theorem first0 {L : List Int} (h : L.count 0 ≠ 0) : L.idxOf 0 < L.length ∧ G L (L.idxOf 0) = 0 ∧ ∀ j, j < L.idxOf 0 → G L j ≠ 0 := by
  have hm : (0 : Int) ∈ L := List.count_pos_iff.1 (by omega)
  have hl : L.idxOf 0 < L.length := List.idxOf_lt_length_of_mem hm
  refine ⟨hl, ?_, fun j hj => ?_⟩
  · simp [G, List.getD_eq_getElem?_getD, hl]
  · have hjl : j < L.length := by omega
    have := List.not_of_lt_findIdx (p := (· == (0 : Int))) (xs := L) (i := j) (by simpa [List.idxOf] using hj)
    simpa [G, List.getD_eq_getElem?_getD, hjl] using this

theorem take_ok {s : St} (h : Sok s) : Sok (take s).2.2 := by
  unfold take
  split
  · exact h
  · rename_i hc
    obtain ⟨hl, h0, _⟩ := first0 hc
    refine ⟨by simpa using h.top, put_val (s := s) h.val hl (by omega), ?_⟩
    have := cnt_set s.L _ hl 0 1
    rw [if_pos h0, if_neg (by omega)] at this
    simp only
    have := h.aside
    omega

theorem rsv_ok {s : St} (h : Sok s) (n : Int) : Sok (rsv n s).2 := by
  unfold rsv
  split
  · exact h
  · rename_i hc
    refine ⟨h.top, h.val, ?_⟩
    simp only
    unfold fre at hc
    omega

theorem rls_ok {s : St} (h : Sok s) : Sok (rls s) := ⟨h.top, h.val, Nat.zero_le _⟩

/-- One of n. -/
def pk (c : Int) (n : Int) : Int := if c < 0 then (-(c + 1)).tmod n else c.tmod n

/-- A deed. -/
def stp (k n : Int) (s : St) : St :=
  if k = 0 then (take s).2.2 else if k = 1 then (mrk n s).2 else if k = 2 then (back n s).2 else if k = 3 then (drop n s).2 else if k = 4 then stl s else if k = 5 then (rsv n s).2 else rls s

theorem stp_ok {s : St} (h : Sok s) (k n : Int) : Sok (stp k n s) := by
  unfold stp
  repeat' split
  · exact take_ok h
  · exact mark_ok h n
  · exact back_ok h n
  · exact drop_ok h n
  · exact stl_ok h
  · exact rsv_ok h n
  · exact rls_ok h

/-- A new one. -/
def new (lo hi : Nat) : St := ⟨lo, List.replicate (hi - lo) 0, 0⟩
theorem new_ok {lo hi : Nat} (h : lo ≤ hi) (h2 : hi ≤ 65536) : Sok (new lo hi) :=
  ⟨by simp [new]; omega, fun i hi' => .inl (by simp only [new, List.length_replicate] at hi'; simp [new, G, List.getD_eq_getElem?_getD, hi']), Nat.zero_le _⟩

end Go.Proofs.Ytamgogkkcbeaaaa.Ah
