/-
  The document's things (two numbers and a row of numbers each): owned rows of them, grown by append.
-/
import Derived.Test.YtcmnhgefeffcpaaRow
import Derived.Test.YtcmnhgefeffcpaaE64
import Derived.Maps.AppendAt
namespace Go.Proofs.Ytcmnhgefeffcpaa
open Go.RowKit Pl
set_option linter.unusedVariables false

/-- A thing: weight, number, bytes (as a value). -/
abbrev Tg := Int × Int × Value
def tg0 : Tg := (0, 0, .slice none 0 0)
def gcells (ps : List Tg) : List Value := ps.flatMap fun p => [Value.int .i64 p.1, Value.int .i64 p.2.1, p.2.2]

theorem gcells_length (ps : List Tg) : (gcells ps).length = ps.length * 3 := by
  induction ps with
  | nil => rfl
  | cons p ps ih => simp only [gcells, List.flatMap_cons, List.length_append, List.length_cons, List.length_nil] at *; omega
theorem gcells_append (ps qs : List Tg) : gcells (ps ++ qs) = gcells ps ++ gcells qs := by simp [gcells]
theorem gcells_get (ps : List Tg) (i : Nat) (h : i < ps.length) : (gcells ps)[i * 3]? = some (.int .i64 (ps.getD i tg0).1) ∧ (gcells ps)[i * 3 + 1]? = some (.int .i64 (ps.getD i tg0).2.1) ∧ (gcells ps)[i * 3 + 2]? = some (ps.getD i tg0).2.2 := by
  induction ps generalizing i with
  | nil => simp at h
  | cons p ps ih =>
    have e : gcells (p :: ps) = [Value.int .i64 p.1, Value.int .i64 p.2.1, p.2.2] ++ gcells ps := by simp [gcells]
    rw [e]
    cases i with
    | zero => exact ⟨rfl, rfl, rfl⟩
    | succ i =>
      have := ih i (by simpa using h)
      rw [show (i + 1) * 3 = i * 3 + 3 by omega]
      simp only [List.getD_cons_succ]
      exact ⟨by simpa using this.1, by simpa using this.2.1, by simpa using this.2.2⟩

/-- The slice v is a row of its own and holds the things ps. -/
def OwnsG (w : World) (v : Value) (ps : List Tg) : Prop := w.ownsRow 0 80 3 v ps.length (gcells ps)

theorem ownsG_nil (w : World) : OwnsG w (.slice none 0 0) [] := World.ownsRow_nil _ _ _ _
theorem OwnsG.shape {w : World} {v : Value} {ps : List Tg} (h : OwnsG w v ps) (h0 : 0 < ps.length) :
    ∃ g cap, v = .slice (some ⟨g, 0, none⟩) ps.length cap ∧ g < w.heap.size ∧ ps.length ≤ cap ∧ cap ≤ maxLen ∧
      ∀ i, i < ps.length → w.cell? ⟨g, i * 3, none⟩ = some (.int .i64 (ps.getD i tg0).1) ∧ w.cell? ⟨g, i * 3 + 1, none⟩ = some (.int .i64 (ps.getD i tg0).2.1) ∧ w.cell? ⟨g, i * 3 + 2, none⟩ = some (ps.getD i tg0).2.2 := by
  have h' : w.ownsRow 0 80 3 v ps.length (gcells ps) := h
  rcases h'.2 with ⟨rfl, e⟩ | ⟨g, cap, cur, rfl, _, hg, hnc, hcm, _⟩
  · omega
  · refine ⟨g, cap, rfl, (Array.getElem?_eq_some_iff.1 hg).1, hnc, hcm, fun i hi => ?_⟩
    have := gcells_get ps i hi
    rw [h'.cellAt (i * 3) (by omega), h'.cellAt (i * 3 + 1) (by omega), h'.cellAt (i * 3 + 2) (by omega)]
    exact this
theorem OwnsG.len {w : World} {v : Value} {ps : List Tg} (h : OwnsG w v ps) : ∃ a cap, v = .slice a ps.length cap ∧ ps.length ≤ cap ∧ cap ≤ maxLen := by
  have h' : w.ownsRow 0 80 3 v ps.length (gcells ps) := h
  rcases h'.2 with ⟨rfl, e⟩ | ⟨g, cap, cur, rfl, _, hg, hnc, hcm, _⟩
  · exact ⟨none, 0, by rw [e], by omega, by unfold maxLen; omega⟩
  · exact ⟨_, cap, rfl, hnc, hcm⟩
theorem OwnsG.tch {S : Nat → Prop} {w w' : World} {v : Value} {ps : List Tg} (h : OwnsG w v ps) (ht : Tch S w w') (hn : ∀ j, v.ownBlock = some j → ¬ S j) : OwnsG w' v ps := ht.owns h hn
theorem OwnsG.below {w w' : World} {v : Value} {ps : List Tg} (h : OwnsG w v ps) (hb : Below w.heap.size w w') : OwnsG w' v ps :=
  h.tch (S := fun _ => False) (Tch.of_below hb) (fun _ _ e => e)
theorem block_of_ownsG {w : World} {e : TypeId} {size : Nat} {v : Value} {n : Nat} {xs : List Value} (h : w.ownsRow 0 e size v n xs) {k : Nat} (hk : v.ownBlock = some k) : ∃ cur, w.heap[k]? = some (.cells cur e (0, 0)) := by
  rcases h.2 with ⟨rfl, _⟩ | ⟨g, cap, cur, rfl, _, hg, _⟩
  · cases hk
  · simp only [Value.ownBlock, Option.some.injEq] at hk
    subst hk
    exact ⟨cur, hg⟩
/-- Things and numbers share no block. -/
theorem OwnsG.ne_ints {w : World} {v u : Value} {ps : List Tg} {xs : List Int} (h : OwnsG w v ps) (hu : Owns .i64 3 w u xs) {k : Nat} (hk : v.ownBlock = some k) : u.ownBlock ≠ some k := by
  intro e
  obtain ⟨c1, h1⟩ := block_of_ownsG (w := w) h hk
  obtain ⟨c2, h2⟩ := block_of_ownsG (w := w) hu e
  rw [h1] at h2
  simp at h2
/-- A row that was made with what it holds. -/
theorem owns_one (w : World) (x : Int) : Owns .i64 3 (w.alloc (.cells #[.int .i64 x] 3)) (.slice (some ⟨w.heap.size, 0, none⟩) 1 1) [x] := by
  refine ⟨by simp, .inr ⟨w.heap.size, 1, #[.int .i64 x], rfl, Nat.zero_le _, heap_alloc_new w _, Nat.le_refl _, by unfold maxLen; decide, rfl, rfl⟩⟩

theorem infoG : (Try.prog.info? 80).map (fun i => (i.zero, i.size, i.bytes)) = some (some (.agg #[.int .i64 0, .int .i64 0, .slice none 0 0]), 3, 40) := by kernel_rfl

/-- 'append(v, thing)': the thing lies in a block of its own first. -/
theorem wpList_pushG (w : World) {ops : Array Oper} {rest : List Oper} {o : Oper} {a : Act} {Q : Exit → Act → World → Prop} (hgd : o.guard = none) (s x : Operand)
    (ho : o.op = .call { callee := .builtin .append, args := #[s, x], argTypes := #[78, 78] })
    (v : Value) (ps : List Tg) (hs : a.eval s = v) (hown : OwnsG w v ps) (p1 p2 : Int) (p3 : Value) (h3s : ∃ a l c, p3 = .slice a l c) (hx : a.eval x = .slice (some ⟨w.heap.size, 0, none⟩) 1 1)
    (hbytes : (ps.length + 1) * 40 ≤ 140737488355328)
    (h : ∀ v' w', OwnsG w' v' (ps ++ [(p1, p2, p3)]) → Grew w w' v v' → wpList Try.prog ops Q rest (a.put o.dst v') w') : wpList Try.prog ops Q (o :: rest) a (w.alloc (.cells #[.int .i64 p1, .int .i64 p2, p3] 80)) := by
  obtain ⟨i0, hi, hz0, hz1, hz2⟩ := info_parts infoG
  obtain ⟨sa, sl, sc, rfl⟩ := h3s
  refine wpList_append_own_at (w.alloc (.cells #[.int .i64 p1, .int .i64 p2, .slice sa sl sc] 80)) hgd s x 78 ho 0 80 i0 _ 3 40 Try.underlying78 hi hz0 hz1 hz2 rfl (by decide) v ps.length (gcells ps) hs (World.ownsRow.alloc hown _)
    ⟨w.heap.size, 0, none⟩ 1 1 [.int .i64 p1, .int .i64 p2, .slice sa sl sc] hx rfl ?_ ?_ (by unfold maxLen; omega) hbytes (Nat.zero_le _) ?_
  · intro j u hj
    match j, hj with
    | 0, hj => simp at hj; subst hj; simp [Addr.add]
    | 1, hj => simp at hj; subst hj; simp [Addr.add]
    | 2, hj => simp at hj; subst hj; simp [Addr.add]
  · intro u hu
    simp at hu
    rcases hu with rfl | rfl | rfl <;> rfl
  · intro v' w' h2 h3 _ h5
    refine h v' w' ?_ ⟨Tch.grown ((Tch.refl _ w).alloc _) h3 (fun _ _ e => e), fun k hk => ?_⟩
    · unfold OwnsG
      rw [gcells_append]
      simpa [gcells] using h2
    · rcases h5 with e | e
      · exact .inl (by rw [← e]; exact hk)
      · rw [hk] at e
        simp at e
        exact .inr (by omega)

/-- The first k without one. -/
def wo {α : Type} (d : α) (ps : List α) (at_ : Nat) : Nat → List α
  | 0 => []
  | k + 1 => if k = at_ then wo d ps at_ k else wo d ps at_ k ++ [ps.getD k d]
theorem wo_map {α β : Type} (f : α → β) (d : α) (ps : List α) (at_ k : Nat) : (wo d ps at_ k).map f = wo (f d) (ps.map f) at_ k := by
  induction k with
  | zero => rfl
  | succ k ih =>
    simp only [wo]
    by_cases h : k = at_
    · rw [if_pos h, if_pos h]; exact ih
    · rw [if_neg h, if_neg h, List.map_append, ih]
      congr 1
      simp only [List.map_cons, List.map_nil, List.getD_eq_getElem?_getD, List.getElem?_map]
      cases ps[k]? <;> rfl
theorem wo_perm {α : Type} (d : α) (ps : List α) (at_ k : Nat) (hk : k ≤ ps.length) : (ps.take k).Perm (if at_ < k then ps.getD at_ d :: wo d ps at_ k else wo d ps at_ k) := by
  induction k with
  | zero => simp [wo]
  | succ k ih =>
    have h1 := ih (by omega)
    have e : ps.take (k + 1) = ps.take k ++ [ps.getD k d] := by
      rw [List.take_succ_eq_append_getElem (by omega)]
      simp [List.getD_eq_getElem?_getD, show k < ps.length by omega]
    rw [e]
    simp only [wo]
    by_cases h : k = at_
    · subst h
      rw [if_neg (Nat.lt_irrefl k)] at h1
      rw [if_pos (Nat.lt_succ_self k), if_pos rfl]
      exact (h1.append_right _).trans (List.perm_append_comm)
    · rw [if_neg h]
      by_cases h2 : at_ < k
      · rw [if_pos h2] at h1
        rw [if_pos (by omega)]
        exact h1.append_right _
      · rw [if_neg h2] at h1
        rw [if_neg (by omega)]
        exact h1.append_right _
theorem wo_all {α : Type} (d : α) (ps : List α) (at_ : Nat) (h : at_ < ps.length) : ps.Perm (ps.getD at_ d :: wo d ps at_ ps.length) := by
  have := wo_perm d ps at_ ps.length (Nat.le_refl _)
  rw [if_pos h, List.take_length] at this
  exact this
theorem wo_le {α : Type} (d : α) (ps : List α) (at_ k : Nat) : (wo d ps at_ k).length ≤ k := by
  induction k with
  | zero => exact Nat.le_refl _
  | succ k ih => simp only [wo]; split; (· omega); (· rw [List.length_append]; simp; omega)

/-- Each of them is some slice. -/
def Sls (ps : List Tg) : Prop := ∀ i, i < ps.length → ∃ a l c, (ps.getD i tg0).2.2 = .slice a l c

set_option maxRecDepth 100000 in
set_option maxHeartbeats 1000000 in
theorem without_any (v : Value) (ps : List Tg) (at_ : Nat) (w : World) (hv : OwnsG w v ps) (h0 : 0 < ps.length) (hl : ps.length ≤ 1000) (hs : Sls ps) :
    Calls Try.prog 42 #[v, .int .i64 (at_ : Int)] w fun e w' => (∃ v', e = .returned v' ∧ OwnsG w' v' (wo tg0 ps at_ ps.length) ∧ ∀ j, v'.ownBlock = some j → w.heap.size ≤ j) ∧ Below w.heap.size w w' := by
  obtain ⟨g, cap, hve, hgl, hlc, hcm, hcell⟩ := hv.shape h0
  subst hve
  have HC : Hid (∀ i, i < ps.length → w.cell? ⟨g, i * 3, none⟩ = some (.int .i64 (ps.getD i tg0).1) ∧ w.cell? ⟨g, i * 3 + 1, none⟩ = some (.int .i64 (ps.getD i tg0).2.1) ∧ w.cell? ⟨g, i * 3 + 2, none⟩ = some (ps.getD i tg0).2.2) := hcell
  have HGL : Hid (g < w.heap.size) := hgl
  have HSL : Hid (Sls ps) := hs
  have hcm2 : cap ≤ 9223372036854775807 := by unfold maxLen at hcm; omega
  clear hcell hgl hs hv hcm
  go_enter Try.func42, Try.ntmps42
  go_wp2_with fail
  go_loopw [5, 6] (fun o i wr => ∃ (k : Nat) (o0 : Value), k ≤ ps.length ∧ i = .int .i64 k ∧ o0 = o ∧ Hid (OwnsG wr o0 (wo tg0 ps at_ k)) ∧ Hid (∀ j, o0.ownBlock = some j → w.heap.size ≤ j) ∧ Hid (Below w.heap.size w wr)) (fun _ i _ => ps.length - (intOf i).toNat)
  case atStart => exact ⟨0, _, Nat.zero_le _, rfl, rfl, ownsG_nil _, (fun j e => by cases e), Below.refl _ _⟩
  case round =>
    obtain ⟨k, o0, hk, rfl, rfl, OO, HN, BW⟩ := hrel
    by_cases hlt : k < ps.length
    · have hi1 : (k : Int) < (ps.length : Int) := by omega
      by_cases he : k = at_
      · have h1 : ((k : Int) != (at_ : Int)) = false := by simp [he]
        have O2 : Hid (OwnsG wr o0 (wo tg0 ps at_ (k + 1))) := by show OwnsG _ _ _; simp only [wo]; rw [if_pos he]; exact OO.out
        clear he OO
        go_wp2_with fail
        first
          | exact ⟨⟨k + 1, _, by omega, by go_num, rfl, O2, HN, BW⟩, by simp [intOf]; omega⟩
          | (go_roundw
             case rel => exact ⟨k + 1, _, by omega, by go_num, rfl, O2, HN, BW⟩
             case measure => simp [intOf]; omega)
      · have h1 : ((k : Int) != (at_ : Int)) = true := by simp; omega
        obtain ⟨q1, q2, q3⟩ := HC.out k hlt
        have c1 : wr.cell? ⟨g, k * 3, none⟩ = some (.int .i64 (ps.getD k tg0).1) := by rw [BW.out.cell (p := ⟨g, k * 3, none⟩) HGL.out]; exact q1
        have c2 : wr.cell? ⟨g, k * 3 + 1, none⟩ = some (.int .i64 (ps.getD k tg0).2.1) := by rw [BW.out.cell (p := ⟨g, k * 3 + 1, none⟩) HGL.out]; exact q2
        have c3 : wr.cell? ⟨g, k * 3 + 2, none⟩ = some (ps.getD k tg0).2.2 := by rw [BW.out.cell (p := ⟨g, k * 3 + 2, none⟩) HGL.out]; exact q3
        have HS3 := HSL.out k hlt
        have HWO : Hid (wo tg0 ps at_ (k + 1) = wo tg0 ps at_ k ++ [((ps.getD k tg0).1, (ps.getD k tg0).2.1, (ps.getD k tg0).2.2)]) := by show _ = _; simp only [wo]; rw [if_neg he]
        generalize (ps.getD k tg0).1 = x1 at *
        generalize (ps.getD k tg0).2.1 = x2 at *
        generalize (ps.getD k tg0).2.2 = x3 at *
        obtain ⟨sa, sl, sc, hx3⟩ := HS3
        subst hx3
        have HLE : Hid ((wo tg0 ps at_ k).length ≤ 1000) := Nat.le_trans (wo_le _ _ _ _) (by omega)
        clear q1 q2 q3 he
        go_wp2_with (at_builtin; refine wpList_pushG _ rfl (.tmp 16) (.tmp 21) rfl _ (wo tg0 ps at_ k) rfl OO.out x1 x2 (.slice sa sl sc) ⟨sa, sl, sc, rfl⟩ rfl (by have := HLE.out; omega) ?_)
        intro o2 w3 ho3 hg3
        rw [← HWO.out] at ho3
        have O3 : Hid (OwnsG w3 o2 (wo tg0 ps at_ (k + 1))) := ho3
        have h3 := hg3.onto BW.out HN.out
        have B3 : Hid (Below w.heap.size w w3) := h3.1
        have N3 : Hid (∀ j, o2.ownBlock = some j → w.heap.size ≤ j) := h3.2
        clear ho3 hg3 h3 OO BW HN c1 c2 c3
        go_wp2_with fail
        go_roundw
        case rel => exact ⟨k + 1, _, by omega, by go_num, rfl, O3, N3, B3⟩
        case measure => simp [intOf]; omega
    · have hk0 : k = ps.length := by omega
      rw [hk0] at OO
      have hkn : ¬ (k : Int) < (ps.length : Int) := by omega
      go_wp2_with fail
      go_ret
      exact ⟨⟨_, rfl, OO.out, HN.out⟩, BW.out⟩
end Go.Proofs.Ytcmnhgefeffcpaa
