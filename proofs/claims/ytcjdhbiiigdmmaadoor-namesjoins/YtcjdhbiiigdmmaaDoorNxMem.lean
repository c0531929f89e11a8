/-
  Rows of texts in memory, and texts as bytes.
-/
import Derived.Test.YtcjdhbiiigdmmaaDoorRow0
import Derived.Test.YtcjdhbiiigdmmaaDoorNxPl
import Derived.Laws.BytesArg
import Derived.Lib.AppendStr
import Derived.Laws.Cover1
namespace Go.Proofs.YtcjdhbiiigdmmaaDoor
open Go.RowKit
set_option linter.unusedVariables false

def eS : ByteArray := ⟨#[]⟩
/-- The slice v reads as the values cs. -/
def RdV (w : World) (v : Value) (cs : List Value) : Prop :=
  ∃ a cap, v = .slice a cs.length cap ∧ cs.length ≤ cap ∧ cap ≤ maxLen ∧ (a = none → cap = 0) ∧
    (cs = [] ∨ ∃ b o, a = some ⟨b, o, none⟩ ∧ ∀ i c, cs[i]? = some c → w.cell? ⟨b, o + i, none⟩ = some c)

theorem rdV_nil (w : World) : RdV w (.slice none 0 0) [] := ⟨none, 0, rfl, Nat.le_refl _, by unfold maxLen; omega, fun _ => rfl, .inl rfl⟩
theorem RdV.tch {S : Nat → Prop} {w w' : World} {v : Value} {cs : List Value} (h : RdV w v cs) (ht : Tch S w w') (hn : ∀ b, v.ownBlock = some b → ¬ S b) : RdV w' v cs := by
  obtain ⟨a, cap, rfl, hl, hm, h0, h⟩ := h
  refine ⟨a, cap, rfl, hl, hm, h0, ?_⟩
  rcases h with h | ⟨b, o, rfl, hc⟩
  · exact .inl h
  · refine .inr ⟨b, o, rfl, fun i c hi => ?_⟩
    have h1 := hc i c hi
    rw [ht.cell (p := ⟨b, o + i, none⟩) (World.block_lt_of_cell? w ⟨b, o + i, none⟩ h1) (hn b rfl)]
    exact h1
theorem RdV.below {w w' : World} {v : Value} {cs : List Value} (h : RdV w v cs) (hb : Below w.heap.size w w') : RdV w' v cs :=
  h.tch (S := fun _ => False) (Tch.of_below hb) (fun _ _ e => e)
theorem RdV.at {w : World} {a : Option Addr} {l cap : Nat} {cs : List Value} (h : RdV w (.slice a l cap) cs) {i : Nat} {c : Value} (hi : cs[i]? = some c) :
    ∃ b o, a = some ⟨b, o, none⟩ ∧ w.cell? ⟨b, o + i, none⟩ = some c := by
  obtain ⟨a', cap', e, hl, hm, h0, h⟩ := h
  cases e
  rcases h with h | ⟨b, o, rfl, hc⟩
  · rw [h] at hi; cases hi
  · exact ⟨b, o, rfl, hc i c hi⟩
theorem rdV_of_rd {k : IntKind} {w : World} {v : Value} {xs : List Int} (h : Rd k w v xs) : RdV w v (xs.map (Value.int k)) := by
  obtain ⟨a, cap, rfl, hl, hm, h0, h⟩ := h
  refine ⟨a, cap, by rw [List.length_map], by rw [List.length_map]; exact hl, hm, h0, ?_⟩
  rcases h with rfl | ⟨b, o, rfl, hc⟩
  · exact .inl rfl
  · refine .inr ⟨b, o, rfl, fun i c hi => ?_⟩
    have hj : i < xs.length := by simpa using (List.getElem?_eq_some_iff.1 hi).1
    rw [hc i hj]
    rw [List.getElem?_map, List.getElem?_eq_getElem hj] at hi
    simp only [Option.map_some, Option.some.injEq] at hi
    rw [← hi, List.getD_eq_getElem?_getD, List.getElem?_eq_getElem hj]
    rfl
theorem RdV.len {w : World} {v : Value} {cs : List Value} (h : RdV w v cs) : ∃ a cap, v = .slice a cs.length cap ∧ cs.length ≤ cap ∧ cap ≤ 9223372036854775807 ∧ (a = none → cap = 0) := by
  obtain ⟨a, cap, rfl, hl, hm, h0, h⟩ := h
  exact ⟨a, cap, rfl, hl, by unfold maxLen at hm; omega, h0⟩
theorem RdV.blk_lt {w : World} {v : Value} {cs : List Value} (h : RdV w v cs) (h0 : cs ≠ []) : ∀ k, v.ownBlock = some k → k < w.heap.size := by
  intro k hk
  obtain ⟨a, cap, rfl, hl, hm, h1, h⟩ := h
  rcases h with h | ⟨b, o, rfl, hc⟩
  · exact absurd h h0
  · cases cs with
    | nil => exact absurd rfl h0
    | cons c cs =>
      have h2 : b < w.heap.size := World.block_lt_of_cell? w ⟨b, o + 0, none⟩ (hc 0 c rfl)
      simp only [Value.ownBlock, Option.some.injEq] at hk
      omega
theorem RdV.src {w : World} {v : Value} {cs : List Value} (h : RdV w v cs) (ho : ∀ x ∈ cs, x.oneCell' = true) : Src w v cs := by
  obtain ⟨a, cap, rfl, hl, hm, h0, h⟩ := h
  refine ⟨a, cap, rfl, ho, fun ha => ?_, fun ad ha j x hx => ?_⟩
  · have := h0 ha
    subst this
    exact ⟨List.eq_nil_of_length_eq_zero (by omega), rfl⟩
  · rcases h with rfl | ⟨b, o, rfl, hc⟩
    · cases hx
    · obtain rfl := Option.some.inj ha
      rw [Addr.add_lit]
      exact hc j x hx

/-- The slice v is a row of its own and holds the values cs. -/
def OwnsV (e : TypeId) (w : World) (v : Value) (cs : List Value) : Prop := w.ownsRow 0 e 1 v cs.length cs
theorem ownsV_nil (e : TypeId) (w : World) : OwnsV e w (.slice none 0 0) [] := World.ownsRow_nil _ _ _ _
theorem OwnsV.rd {e : TypeId} {w : World} {v : Value} {cs : List Value} (h : OwnsV e w v cs) : RdV w v cs := by
  have h' : w.ownsRow 0 e 1 v cs.length cs := h
  rcases h'.2 with ⟨rfl, h0⟩ | ⟨g, cap, cur, rfl, _, hg, hnc, hcm, hcs, htake⟩
  · have hx : cs = [] := List.eq_nil_of_length_eq_zero h0
    subst hx
    exact rdV_nil w
  · refine ⟨some ⟨g, 0, none⟩, cap, rfl, hnc, hcm, (fun e => by cases e), .inr ⟨g, 0, rfl, fun i c hi => ?_⟩⟩
    have hj := (List.getElem?_eq_some_iff.1 hi).1
    rw [Nat.zero_add, h'.cellAt i (by omega)]
    exact hi
theorem OwnsV.tch {S : Nat → Prop} {e : TypeId} {w w' : World} {v : Value} {cs : List Value} (h : OwnsV e w v cs) (ht : Tch S w w') (hn : ∀ j, v.ownBlock = some j → ¬ S j) : OwnsV e w' v cs := ht.owns h hn
theorem OwnsV.below {e : TypeId} {w w' : World} {v : Value} {cs : List Value} (h : OwnsV e w v cs) (hb : Below w.heap.size w w') : OwnsV e w' v cs :=
  h.tch (S := fun _ => False) (Tch.of_below hb) (fun _ _ e => e)
theorem OwnsV.lt {e : TypeId} {w : World} {v : Value} {cs : List Value} (h : OwnsV e w v cs) : ∀ j, v.ownBlock = some j → j < w.heap.size := fun j hj => (World.ownsRow.lt h j hj).2
theorem OwnsV.ints {e : TypeId} {k : IntKind} {w : World} {v : Value} {xs : List Int} (h : Owns k e w v xs) : OwnsV e w v (xs.map (Value.int k)) := by
  unfold OwnsV; rw [List.length_map]; exact h

/-- What is known of a slice type of one-cell elements. -/
structure ElemV (P : Program) (t e : TypeId) (z : Value) (bytes : Nat) : Prop where
  ht : P.underlying t = some (.slice e)
  info : ∃ i, P.info? e = some i ∧ i.zero = some z ∧ i.size = 1 ∧ i.bytes = bytes
  one : z.cells.size = 1

section
variable {P : Program}
/-- 'append(v, u...)'. -/
theorem wpList_manyV (w : World) {ops : Array Oper} {rest : List Oper} {o : Oper} {a : Act} {Q : Exit → Act → World → Prop} (hgd : o.guard = none) (s x : Operand) (t : TypeId)
    (ho : o.op = .call { callee := .builtin .append, args := #[s, x], argTypes := #[t, t] }) (e : TypeId) (z : Value) (bytes : Nat) (E : ElemV P t e z bytes)
    (v : Value) (xs : List Value) (hs : a.eval s = v) (hown : OwnsV e w v xs) (u : Value) (ys : List Value) (hx : a.eval x = u) (hu : RdV w u ys) (h1 : ∀ y ∈ ys, y.oneCell' = true)
    (h63 : xs.length + ys.length ≤ 9223372036854775807) (hbytes : (xs.length + ys.length) * bytes ≤ 140737488355328)
    (h : ∀ v' w', OwnsV e w' v' (xs ++ ys) → Grew w w' v v' → wpList P ops Q rest (a.put o.dst v') w') : wpList P ops Q (o :: rest) a w := by
  obtain ⟨ht, ⟨i, hi, hz, hsz, hb⟩, hone⟩ := E
  refine wpList_app w hgd s x t ho e i z bytes ht hi hz hsz hb hone v xs hs hown u ys hx (hu.src h1) (by unfold maxLen; exact h63) hbytes ?_
  intro v' w' h2 h3 h4
  exact h v' w' h2 ⟨(Tch.refl _ w).grown h3 (fun _ _ e => e), h4⟩
end

def strs (ss : List ByteArray) : List Value := ss.map Value.string
theorem strs_one (ss : List ByteArray) : ∀ x ∈ strs ss, x.oneCell' = true := fun x hx => by
  obtain ⟨s, _, rfl⟩ := List.mem_map.1 hx
  rfl
theorem strs_len (ss : List ByteArray) : (strs ss).length = ss.length := List.length_map ..
theorem elemS : ElemV Tryd.prog 22 9 (.string ⟨#[]⟩) 16 := ⟨Tryd.underlying22, info_parts (z := .string ⟨#[]⟩) (size := 1) (bytes := 16) (by kernel_rfl), rfl⟩

theorem hideN {p : Prop} (h : p) : Hid p := h
theorem below_alloc (w : World) (o : Obj) : Below w.heap.size w (w.alloc o) := (Below.refl _ _).alloc (Nat.le_refl _) _
/-- A text's bytes. -/
def bl (s : ByteArray) : List UInt8 := s.data.toList
def mk (l : List UInt8) : ByteArray := ⟨l.toArray⟩
theorem bl_mk (l : List UInt8) : bl (mk l) = l := by simp [bl, mk]
theorem mk_bl (s : ByteArray) : mk (bl s) = s := by obtain ⟨d⟩ := s; simp [bl, mk]
theorem bl_len (s : ByteArray) : (bl s).length = s.size := by obtain ⟨d⟩ := s; simp [bl, ByteArray.size]
theorem bl_inj {a b : ByteArray} (h : bl a = bl b) : a = b := by rw [← mk_bl a, ← mk_bl b, h]
theorem toList_bl (s : ByteArray) : s.toList = bl s := by rw [ByteArray.toList_eq]; rfl
theorem RdV.str {w : World} {a : Option Addr} {l c : Nat} {ss : List ByteArray} (h : RdV w (.slice a l c) (strs ss)) {i : Nat} (hi : i < ss.length) : ∃ b o, a = some ⟨b, o, none⟩ ∧ w.cell? ⟨b, o + i, none⟩ = some (.string (ss.getD i eS)) :=
  h.at (by rw [strs, List.getElem?_map, List.getElem?_eq_getElem hi]; simp [List.getD_eq_getElem?_getD, hi])
theorem bl_getElem {s : ByteArray} {i : Nat} (h : i < s.size) : (bl s)[i]'(by rw [bl_len]; exact h) = s[i] := by
  obtain ⟨d⟩ := s
  simp only [bl]
  rfl
end Go.Proofs.YtcjdhbiiigdmmaaDoor
