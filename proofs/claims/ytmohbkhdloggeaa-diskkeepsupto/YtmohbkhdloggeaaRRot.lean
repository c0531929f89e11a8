/-
  A bit rots: the document's.
-/
import Derived.Test.YtmohbkhdloggeaaRFlush
import Derived.Test.YtmohbkhdloggeaaRTurn
import Derived.Test.YtmohbkhdloggeaaDRot
namespace Go.Proofs.Ytmohbkhdloggeaa
open Go.RowKit Go.Maps
set_option linter.unusedVariables false
set_option linter.unusedSimpArgs false
set_option maxRecDepth 100000

theorem refRot_bad {R : Nat → Prop} {r : Nat} {s : DS} (bit : Int) (w : World) (h : Rf R w r s) (hb : bit < 0 ∨ 2048 * (s.L.length : Int) ≤ bit) :
    Calls Try.prog 32 #[dp r, .int .i64 bit] w fun e w' => e = .returned (.int .i64 2) ∧ w' = w := by
  obtain ⟨lb, cp, A, B, x, W, h⟩ := h
  by_cases h0 : bit < 0
  · clear hb h
    go_enter Try.func32, Try.ntmps32
    go_wp2_with fail
    go_ret
    exact ⟨rfl, rfl⟩
  · have c0 := h.c0
    have n2 := h.n2
    obtain ⟨n, hn⟩ : ∃ n, s.L.length = n := ⟨_, rfl⟩
    rw [hn] at c0 hb n2
    have h1 : bit ≥ 2048 * (n : Int) := by omega
    clear hb h hn
    go_enter Try.func32, Try.ntmps32
    go_wp2_with fail
    go_ret
    exact ⟨rfl, rfl⟩

/-- The turned ones, so far. -/
structure RotI (w wr : World) (nb : Nat) (v1 : Value) (y : List Int) (bv lv : Value) (Ws : List Value) (Vs : List (List Int)) : Prop where
  be : Below w.heap.size w wr
  box : wr.heap[nb]? = some (.cells #[v1, bv] 67 (0, 0))
  nbn : w.heap.size ≤ nb
  o1 : Owns .u8 5 wr v1 y
  f1 : ∀ k, v1.ownBlock = some k → w.heap.size ≤ k
  row : wr.ownsRow 0 41 1 lv Vs.length Ws
  ows : ∀ (j : Nat) (v : Value), Ws[j]? = some v → Owns .u8 5 wr v (Vs.getD j [])
  fl : ∀ k, lv.ownBlock = some k → w.heap.size ≤ k
  fw : ∀ (j : Nat) (v : Value) (k : Nat), Ws[j]? = some v → v.ownBlock = some k → w.heap.size ≤ k

section
variable {w wr : World} {nb : Nat} {v1 : Value} {y : List Int} {bv lv : Value} {Ws : List Value} {Vs : List (List Int)}
theorem RotI.wl (h : RotI w wr nb v1 y bv lv Ws Vs) : Ws.length = Vs.length := by have := h.row.1; omega
theorem RotI.c0 (h : RotI w wr nb v1 y bv lv Ws Vs) : wr.cell? ⟨nb, 0, none⟩ = some v1 := by rw [cell_of_row wr nb 0 _ _ (0, 0) h.box]; rfl
theorem RotI.c1 (h : RotI w wr nb v1 y bv lv Ws Vs) : wr.cell? ⟨nb, 1, none⟩ = some bv := by rw [cell_of_row wr nb 1 _ _ (0, 0) h.box]; rfl
theorem RotI.lt (h : RotI w wr nb v1 y bv lv Ws Vs) : nb < wr.heap.size := (Array.getElem?_eq_some_iff.1 h.box).1
/-- Another turned one is appended. -/
theorem RotI.step (h : RotI w wr nb v1 y bv lv Ws Vs) {w3 w5 : World} {v3 v5 : Value} {y3 : List Int} (ho : Owns .u8 5 w3 v3 y3) (hb : Below wr.heap.size wr w3) (hf : ∀ k, v3.ownBlock = some k → wr.heap.size ≤ k)
    (hr : w5.ownsRow 0 41 1 v5 (Ws ++ [v3]).length (Ws ++ [v3])) (hg : (w3.alloc (.cells #[v3] 41)).grownBy w5 lv.ownBlock) (hf5 : ∀ k, v5.ownBlock = some k → lv.ownBlock = some k ∨ (w3.alloc (.cells #[v3] 41)).heap.size ≤ k) :
    RotI w w5 nb v1 y bv v5 (Ws ++ [v3]) (Vs ++ [y3]) := by
  have T3 : Tch (fun _ => False) wr w3 := Tch.of_below hb
  have TA : Tch (fun _ => False) w3 (w3.alloc (.cells #[v3] 41)) := Tch.alloc (Tch.refl _ w3) _
  have T5 : Tch (fun k => lv.ownBlock = some k) w3 w5 := (TA.mono (S' := fun k => lv.ownBlock = some k) (fun _ _ e => e.elim)).trans (Tch.of_grown hg) (fun _ _ e => e)
  have T : Tch (fun k => lv.ownBlock = some k) wr w5 := (T3.mono (S' := fun k => lv.ownBlock = some k) (fun _ _ e => e.elim)).trans T5 (fun _ _ e => e)
  have hs1 := h.be.size
  have hs3 := T3.size
  have hne : ∀ {W : World} {v : Value} {ys : List Int} {k : Nat}, Owns .u8 5 W v ys → W.ownsRow 0 41 1 lv Vs.length Ws → v.ownBlock = some k → ¬ lv.ownBlock = some k := fun ho hr hk e => by
    obtain ⟨C, hC⟩ := owns_block ho hk
    obtain ⟨D, hD⟩ := owns_block hr e
    exact block_ne hC hD (by decide) rfl
  have hnb : ¬ lv.ownBlock = some nb := fun e => by
    obtain ⟨D, hD⟩ := owns_block h.row e
    exact block_ne hD h.box (by decide) rfl
  have row3 : w3.ownsRow 0 41 1 lv Vs.length Ws := T3.owns h.row (fun _ _ e => e)
  exact {
    be := h.be.trans (T.below hs1 (fun k e => h.fl k e))
    box := by rw [T.block nb h.lt hnb]; exact h.box
    nbn := h.nbn
    o1 := h.o1.tch T (fun k hk => hne h.o1 h.row hk)
    f1 := h.f1
    row := by
      have e : (Ws ++ [v3]).length = (Vs ++ [y3]).length := by simp [h.wl]
      rw [← e]; exact hr
    ows := fun j v hj => by
      rw [List.getElem?_append] at hj
      rw [List.getD_eq_getElem?_getD, List.getElem?_append]
      have hwl := h.wl
      split at hj
      · rename_i hjl
        rw [if_pos (by omega), ← List.getD_eq_getElem?_getD]
        have ho := h.ows j v hj
        exact ho.tch T (fun k hk => hne ho h.row hk)
      · rename_i hjl
        rw [if_neg (by omega)]
        have hj0 : j - Ws.length = 0 := by
          have := (List.getElem?_eq_some_iff.1 hj).1
          simp at this
          omega
        rw [hj0] at hj
        rw [← hwl, hj0]
        simp at hj
        subst hj
        exact ho.tch T5 (fun k hk => hne ho row3 hk)
    fl := fun k hk => by
      rcases hf5 k hk with e | e
      · exact h.fl k e
      · simp at e; omega
    fw := fun j v k hj hk => by
      rw [List.getElem?_append] at hj
      split at hj
      · exact h.fw j v k hj hk
      · have hj0 : j - Ws.length = 0 := by
          have := (List.getElem?_eq_some_iff.1 hj).1
          simp at this
          omega
        rw [hj0] at hj
        simp at hj
        subst hj
        have := hf k hk
        omega }
end

/-- 'append(v, u)': a row's value. -/
theorem wpList_appV (w : World) {ops : Array Oper} {rest : List Oper} {o : Oper} {a : Act} {Q : Exit → Act → World → Prop} (hgd : o.guard = none) (s x : Operand)
    (ho : o.op = .call { callee := .builtin .append, args := #[s, x], argTypes := #[43, 43] }) (v : Value) (xs : List Value) (hs : a.eval s = v) (hown : w.ownsRow 0 41 1 v xs.length xs)
    (g0 : Nat) (u : Value) (hx : a.eval x = .slice (some ⟨g0, 0, none⟩) 1 1) (hu : IsSl u) (hc : w.cell? ⟨g0, 0, none⟩ = some u) (hl : xs.length + 1 ≤ 2000000000000)
    (h : ∀ v' w', w'.ownsRow 0 41 1 v' (xs ++ [u]).length (xs ++ [u]) → w.grownBy w' v.ownBlock → (∀ k, v'.ownBlock = some k → v.ownBlock = some k ∨ w.heap.size ≤ k) → wpList Try.prog ops Q rest (a.put o.dst v') w') : wpList Try.prog ops Q (o :: rest) a w := by
  obtain ⟨j0, hj, hy0, hy1, hy2⟩ := info_parts info_41
  have hsrc : Src w (.slice (some ⟨g0, 0, none⟩) 1 1) [u] := by
    refine ⟨_, 1, rfl, fun y hy => by simp at hy; subst hy; exact hu.one, (fun e => by cases e), fun ad ha j y hy => ?_⟩
    obtain rfl := Option.some.inj ha
    match j, hy with
    | 0, hy => simp at hy; subst hy; simpa [Addr.add] using hc
  refine wpList_app w hgd s x 43 ho 41 j0 _ 24 Try.underlying43 hj hy0 hy1 hy2 rfl v xs hs hown _ [u] hx hsrc (by unfold maxLen; simp; omega) (by simp; omega) ?_
  intro v' w' h2 h3 h4
  exact h v' w' h2 h3 h4

/-- The turned sector is laid where it was. -/
theorem RotI.fin {R : Nat → Prop} {w wr : World} {r : Nat} {s : DS} {lb cp : Nat} {A B : Nat → Value} {x : Int} {W : Nat → List Value} (h : RfAt R w r s lb cp A B x W) {i b : Nat} (hi : i < s.L.length) (hb : b < 2048)
    {nb : Nat} {v1 bv lv : Value} {Ws : List Value} (I : RotI w wr nb v1 (trn b (s.L.getD i [])) bv lv Ws ((s.V i).map (trn b))) {w' : World} (ht : Tch (fun k => nb = k ∨ k = lb) wr w')
    (hrow : w'.ownsRow 0 67 2 (.slice (some ⟨lb, 0, none⟩) s.L.length cp) s.L.length (cl s.L.length (updV A i v1) (updV B i lv))) :
    RfTo R w w' r { s with L := s.L.set i (trn b (s.L.getD i [])), V := vput s.V i ((s.V i).map (trn b)) } := by
  have hs := I.be.size
  have hlb := h.rlt _ h.rl
  have T : Tch (fun k => k = lb) w w' := (Tch.of_below I.be).trans ht (fun k hk e => by
    rcases e with e | e
    · have := I.nbn; omega
    · exact e)
  have hne : ∀ {v : Value} {k : Nat} {ys : List Int}, Owns .u8 5 wr v ys → (∀ k, v.ownBlock = some k → w.heap.size ≤ k) → v.ownBlock = some k → ¬ (nb = k ∨ k = lb) := fun ho hf hk e => by
    rcases e with e | e
    · obtain ⟨C, hC⟩ := owns_block ho hk
      exact block_ne hC I.box (by decide) e.symm
    · have := hf _ hk; omega
  obtain ⟨hy1, hy2⟩ := h.okL.get hi
  refine h.put hi v1 lv _ _ Ws (T.mono (fun k _ e => .inl e)) hrow (I.o1.tch ht (fun k hk => hne I.o1 I.f1 hk)) (ht.owns I.row (fun k hk e => ?_)) (fun j v hj => (I.ows j v hj).tch ht (fun k hk => hne (I.ows j v hj) (fun k hk => I.fw j v k hj hk) hk)) (trn_ok hb hy1 hy2) ?_ (fun k hk => .inr (I.f1 k hk)) (fun k hk => .inr (I.fl k hk)) (fun j v k hj hk => .inr (I.fw j v k hj hk))
  · rcases e with e | e
    · obtain ⟨C, hC⟩ := owns_block I.row hk
      exact block_ne hC I.box (by decide) e.symm
    · have := I.fl _ hk; omega
  · intro y hy
    obtain ⟨z, hz, rfl⟩ := List.mem_map.1 hy
    exact trn_ok hb (h.okV i z hz).1 (h.okV i z hz).2
end Go.Proofs.Ytmohbkhdloggeaa
