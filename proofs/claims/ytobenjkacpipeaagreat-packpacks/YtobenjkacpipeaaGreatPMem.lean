import Derived.Test.YtobenjkacpipeaaGreatPPlain
import Derived.WalkKit
import Derived.Test.YtobenjkacpipeaaGreatProg
import Derived.WalkSpells
import Derived.BigRegion
import Derived.BigQuiet
import Derived.Deep.QuietTactic
set_option maxRecDepth 100000
set_option linter.unusedVariables false
set_option linter.unusedSimpArgs false
set_option maxHeartbeats 8000000
namespace Go.Proofs.YtobenjkacpipeaaGreat
open Go.RowKit
theorem zi9 (n : Int) (h0 : 0 <= n) (h1 : n < 2 ^ 62) : IntKind.i64.wrap n = n := by rw [IntKind.wrap_i64]; omega
def Rd (k : IntKind) (w : World) (v : Value) (xs : List Int) : Prop :=
 ∃ a cap, v = .slice a xs.length cap /\ xs.length <= cap /\ cap <= maxLen /\ (a = none -> cap = 0) ∧
  (xs = [] ∨ ∃ b o, a = some ⟨b, o, none⟩ /\ ∀ i, i < xs.length -> w.cell? ⟨b, o + i, none⟩ = some (.int k (xs.getD i 0)))
def By (xs : List Int) : Prop := ∀ i, 0 <= xs.getD i 0 /\ xs.getD i 0 <= 255
structure Tch (S : Nat -> Prop) (w w' : World) : Prop where
 os : w'.os = w.os
 tape : w'.tape = w.tape
 output : w'.output = w.output
 size : w.heap.size <= w'.heap.size
 block : ∀ k, k < w.heap.size -> ¬ S k -> w'.heap[k]? = w.heap[k]?
theorem Tch.refl (S : Nat -> Prop) (w : World) : Tch S w w := ⟨rfl, rfl, rfl, Nat.le_refl _, fun _ _ _ => rfl⟩
theorem Tch.trans {S S' : Nat -> Prop} {a b c : World} (h : Tch S a b) (k : Tch S' b c) (hs : ∀ i, i < a.heap.size -> S' i -> S i) : Tch S a c :=
 ⟨k.os.trans h.os, k.tape.trans h.tape, k.output.trans h.output, Nat.le_trans h.size k.size,
  fun i hi hn => (k.block i (Nat.lt_of_lt_of_le hi h.size) (fun e => hn (hs i hi e))).trans (h.block i hi hn)⟩
theorem Tch.mono {S S' : Nat -> Prop} {a b : World} (h : Tch S a b) (hs : ∀ i, i < a.heap.size -> S i -> S' i) : Tch S' a b :=
 ⟨h.os, h.tape, h.output, h.size, fun i hi hn => h.block i hi (fun e => hn (hs i hi e))⟩
theorem Tch.of_below {S : Nat -> Prop} {w w' : World} (h : Below w.heap.size w w') : Tch S w w' :=
 ⟨h.os, h.tape, h.output, h.size, fun k hk _ => h.block k hk⟩
theorem Tch.below {S : Nat -> Prop} {B : Nat} {w w' : World} (h : Tch S w w') (hB : B <= w.heap.size) (hs : ∀ k, S k -> B <= k) : Below B w w' :=
 ⟨h.os, h.tape, h.output, h.size, fun k hk => h.block k (by omega) (fun e => by have := hs k e; omega)⟩
theorem Tch.drew {S : Nat -> Prop} {a w : World} (h : Tch S a w) : Tch S a w.drew := ⟨h.os, h.tape, h.output, h.size, h.block⟩
theorem Tch.alloc {S : Nat -> Prop} {a w : World} (h : Tch S a w) (o : Obj) : Tch S a (w.alloc o) :=
 h.trans (S' := S) ⟨rfl, rfl, rfl, by simp, fun k hk _ => Below.heap_alloc _ _ _ hk⟩ (fun _ _ e => e)
theorem Tch.setCell {S : Nat -> Prop} {a w : World} (h : Tch S a w) {p : Addr} (hp : p.block < a.heap.size -> S p.block) (u : Value) : Tch S a (w.setCell p u) :=
 ⟨h.os, h.tape, h.output, by have := h.size; simpa [World.setCell] using this, fun k hk hn => by
  rw [Below.heap_setCell _ _ _ _ (fun e => hn (by rw [e]; exact hp (by omega)))]
  exact h.block k hk hn⟩
theorem Tch.grown {S : Nat -> Prop} {a w w' : World} {row : Option Nat} (h : Tch S a w) (hg : w.grownBy w' row) (hr : ∀ k, k < a.heap.size -> row = some k -> S k) : Tch S a w' :=
 ⟨hg.os.trans h.os, hg.tape.trans h.tape, hg.output.trans h.output, Nat.le_trans h.size hg.size, fun k hk hn =>
  (hg.block k (Nat.lt_of_lt_of_le hk h.size) (fun e => hn (hr k hk e.symm))).trans (h.block k hk hn)⟩
theorem Tch.cell {S : Nat -> Prop} {w w' : World} (h : Tch S w w') {p : Addr} (hp : p.block < w.heap.size) (hn : ¬ S p.block) : w'.cell? p = w.cell? p := World.cell?_of_block (w := w) (h.block p.block hp hn)
theorem Tch.frozen {S : Nat -> Prop} {w w' : World} (h : Tch S w w') {p : Addr} (hp : p.block < w.heap.size) (hn : ¬ S p.block) : w'.frozen? p = w.frozen? p := World.frozen?_of_block (w := w) (h.block p.block hp hn)
theorem Tch.owns {S : Nat -> Prop} {w w' : World} (h : Tch S w w') {base : Nat} {e : TypeId} {size : Nat} {v : Value} {n : Nat} {xs : List Value}
  (ho : w.ownsRow base e size v n xs) (hn : ∀ k, v.ownBlock = some k -> ¬ S k) : w'.ownsRow base e size v n xs := by
 refine ⟨ho.1, ?_⟩
 rcases ho.2 with h0 | ⟨g, cap, cur, rfl, hb, hg, rest⟩
 ·exact .inl h0
 ·refine .inr ⟨g, cap, cur, rfl, hb, ?_, rest⟩
  rw [h.block g (Array.getElem?_eq_some_iff.1 hg).1 (hn g rfl)]
  exact hg
theorem Rd.tch {S : Nat -> Prop} {k : IntKind} {w w' : World} {v : Value} {xs : List Int} (h : Rd k w v xs) (ht : Tch S w w') (hn : ∀ b, v.ownBlock = some b -> ¬ S b) : Rd k w' v xs := by
 obtain ⟨a, cap, rfl, hl, hm, h0, h⟩ := h
 refine ⟨a, cap, rfl, hl, hm, h0, ?_⟩
 rcases h with h | ⟨b, o, rfl, hc⟩
 ·exact .inl h
 ·refine .inr ⟨b, o, rfl, fun i hi => ?_⟩
  have h1 := hc i hi
  rw [ht.cell (p := ⟨b, o + i, none⟩) (World.block_lt_of_cell? w ⟨b, o + i, none⟩ h1) (hn b rfl)]
  exact h1
theorem Rd.below {k : IntKind} {w w' : World} {v : Value} {xs : List Int} (h : Rd k w v xs) (hb : Below w.heap.size w w') : Rd k w' v xs :=
 h.tch (S := fun _ => False) (Tch.of_below hb) (fun _ _ e => e)
theorem zeh9 {k : IntKind} {w : World} {e : TypeId} {v : Value} {xs : List Int} (h : w.ownsRow 0 e 1 v xs.length (xs.map (Value.int k))) : Rd k w v xs := by
 rcases h.2 with ⟨rfl, h0⟩ | ⟨g, cap, cur, rfl, _, hg, hnc, hcm, hcs, htake⟩
 ·have hx : xs = [] := List.eq_nil_of_length_eq_zero h0
  subst hx
  exact ⟨none, 0, rfl, Nat.le_refl _, by unfold maxLen; omega, fun _ => rfl, .inl rfl⟩
 ·refine ⟨some ⟨g, 0, none⟩, cap, rfl, hnc, hcm, (fun e => by cases e), .inr ⟨g, 0, rfl, fun i hi => ?_⟩⟩
  rw [Nat.zero_add, h.cellAt i (by omega)]
  simp [List.getD_eq_getElem?_getD, hi]
def Src (w : World) (u : Value) (news : List Value) : Prop :=
 ∃ ao c, u = .slice ao news.length c /\ (∀ x ∈ news, x.oneCell' = true) /\ (ao = none -> news = [] /\ c = 0) /\ ∀ ad, ao = some ad -> ∀ j x, news[j]? = some x -> w.cell? (ad.add j) = some x
theorem zlu9 {k : IntKind} {w : World} {v : Value} {xs : List Int} (h : Rd k w v xs) : Src w v (xs.map (Value.int k)) := by
 obtain ⟨a, cap, rfl, hl, hm, h0, h⟩ := h
 refine ⟨a, cap, by simp, ints_oneCell k xs, fun ha => ?_, fun ad ha j x hx => ?_⟩
 ·have := h0 ha
  subst this
  have : xs = [] := List.eq_nil_of_length_eq_zero (by omega)
  subst this
  exact ⟨rfl, rfl⟩
 ·rcases h with rfl | ⟨b, o, rfl, hc⟩
  ·simp at hx
  ·obtain rfl := Option.some.inj ha
   have hj : j < xs.length := by simpa using (List.getElem?_eq_some_iff.1 hx).1
   rw [Addr.add_lit, hc j hj]
   simp [List.getD_eq_getElem?_getD, hj] at hx ⊢
   exact hx
theorem zvf9 (w : World) (x : Value) (e : TypeId) (hx : x.oneCell' = true) : Src (w.alloc (.cells #[x] e)) (.slice (some ⟨w.heap.size, 0, none⟩) 1 1) [x] := by
 refine ⟨some ⟨w.heap.size, 0, none⟩, 1, rfl, fun y hy => ?_, (fun e => by cases e), fun ad ha j y hy => ?_⟩
 ·simp at hy; subst hy; exact hx
 ·obtain rfl := Option.some.inj ha
  match j, hy with
  | 0, hy => simp at hy; subst hy; simp [Addr.add]
section
variable {P : Program} (w : World)
theorem ztx9 (t ty e : TypeId) (i : TypeInfo) (z : Value) (bytes : Nat) (ht : P.underlying t = some (.slice e)) (hi : P.info? e = some i) (hz : i.zero = some z)
  (hsize : i.size = 1) (hby : i.bytes = bytes) (hzs : z.cells.size = 1) (v : Value) (xs : List Value) (hown : w.ownsRow 0 e 1 v xs.length xs) (u : Value) (news : List Value) (hu : Src w u news)
  (h63 : xs.length + news.length <= maxLen) (hbytes : (xs.length + news.length) * bytes <= 140737488355328) :
  ∃ v' w', (Builtin.append_ #[t, t] ty #[v, u]).run P w = .ok v' w' /\ w'.ownsRow 0 e 1 v' (xs ++ news).length (xs ++ news) /\ w.grownBy w' v.ownBlock ∧
   ∀ k, v'.ownBlock = some k -> v.ownBlock = some k ∨ w.heap.size <= k := by
 obtain ⟨ao, c, rfl, h1, hnone, hsome⟩ := hu
 cases ao with
 | none =>
  obtain ⟨rfl, rfl⟩ := hnone rfl
  have hrun := run_append_owned_none (P := P) w 0 t ty e i 1 ht hi v xs.length xs hown
  exact ⟨v, w, hrun, by simpa using hown, World.grownBy.refl _ _, fun k hk => .inl hk⟩
 | some ad =>
  have hnews := hsome ad rfl
  have hl : news.length = news.length * 1 := by omega
  obtain ⟨v', w', hr, ho, hg, _⟩ := run_append_own (P := P) w 0 t ty e i z 1 bytes ht hi hz hsize hby hzs (by decide) v xs.length xs hown ad news.length c news hl hnews h1 h63 hbytes (Nat.zero_le _)
  refine ⟨v', w', hr, by simpa using ho, hg, fun k hk => ?_⟩
  rcases hown.2 with ⟨rfl, h0⟩ | ⟨g, cap, cur, rfl, _, hgg, hnc, hcm, hcs, htake⟩
  ·have hx : xs = [] := List.eq_nil_of_length_eq_zero h0
   subst hx
   obtain ⟨v2, w2, hr2, ho2, _, _⟩ := run_append_own (P := P) w w.heap.size t ty e i z 1 bytes ht hi hz hsize hby hzs (by decide) (.slice none 0 0) 0 [] (World.ownsRow_nil _ _ _ _) ad news.length c news hl hnews h1 (by simpa using h63) (by simpa using hbytes) (Nat.le_refl _)
   have e2 := hr.symm.trans hr2
   simp only [Result.ok.injEq] at e2
   obtain ⟨rfl, rfl⟩ := e2
   exact .inr (ho2.lt k hk).1
  ·by_cases hroom : xs.length + news.length <= cap
   ·have hr2 := run_append_room (P := P) w t ty e i ht hi g xs.length cap cur hgg ad news.length c news (by rw [hsize]; omega) hnews h1 hroom (by rw [hsize, hcs]; omega)
    have e2 := hr.symm.trans hr2
    simp only [Result.ok.injEq] at e2
    obtain ⟨rfl, rfl⟩ := e2
    exact .inl hk
   ·have hr2 := run_append_grow (P := P) w t ty e i z ht hi hz ⟨g, 0, none⟩ xs.length cap xs (by rw [hsize]; omega) (hown.cells (g := g) rfl) ad news.length c news (by rw [hsize]; omega) hnews (by omega) (by unfold maxLen at h63; omega)
     (by rw [hby]; exact growslice_fits (by omega) hbytes)
    have e2 := hr.symm.trans hr2
    simp only [Result.ok.injEq] at e2
    obtain ⟨rfl, rfl⟩ := e2
    simp only [Value.ownBlock, Option.some.injEq] at hk
    exact .inr (by omega)
theorem zdb9 {ops : Array Oper} {rest : List Oper} {o : Oper} {a : Act} {Q : Exit -> Act -> World -> Prop} (hgd : o.guard = none) (s x : Operand) (t : TypeId)
  (ho : o.op = .call { callee := .builtin .append, args := #[s, x], argTypes := #[t, t] })
  (e : TypeId) (i : TypeInfo) (z : Value) (bytes : Nat) (ht : P.underlying t = some (.slice e)) (hi : P.info? e = some i) (hz : i.zero = some z)
  (hsize : i.size = 1) (hby : i.bytes = bytes) (hzs : z.cells.size = 1) (v : Value) (xs : List Value) (hs : a.eval s = v) (hown : w.ownsRow 0 e 1 v xs.length xs)
  (u : Value) (news : List Value) (hx : a.eval x = u) (hu : Src w u news) (h63 : xs.length + news.length <= maxLen) (hbytes : (xs.length + news.length) * bytes <= 140737488355328)
  (h : ∀ v' w', w'.ownsRow 0 e 1 v' (xs ++ news).length (xs ++ news) -> w.grownBy w' v.ownBlock -> (∀ k, v'.ownBlock = some k -> v.ownBlock = some k ∨ w.heap.size <= k) -> wpList P ops Q rest (a.put o.dst v') w') : wpList P ops Q (o :: rest) a w := by
 obtain ⟨v', w', hr, h2, h3, h4⟩ := ztx9 (P := P) w t o.type e i z bytes ht hi hz hsize hby hzs v xs hown u news hu h63 hbytes
 refine wpList_plain hgd fun K hK => ?_
 unfold Oper.wp
 simp [execOp, ho, resolve, invoke, builtin, hs, hx, hr, Result.andThen]
 exact hK _ _ (h v' w' h2 h3 h4)
end
theorem zvj9 {k : IntKind} {w : World} {b o cap : Nat} {xs : List Int} (m : Nat) (hm : m <= xs.length) (hl : xs.length <= cap) (hc : cap <= maxLen)
  (h : ∀ i, i < xs.length -> w.cell? ⟨b, o + i, none⟩ = some (.int k (xs.getD i 0))) : Rd k w (.slice (some ⟨b, o, none⟩) m cap) (xs.take m) := by
 have e : (xs.take m).length = m := by rw [List.length_take]; omega
 refine ⟨_, cap, by rw [e], by omega, hc, (fun e => by cases e), .inr ⟨b, o, rfl, fun i hi => ?_⟩⟩
 rw [h i (by omega), List.getD_eq_getElem?_getD, List.getD_eq_getElem?_getD, List.getElem?_take, if_pos (by omega)]
theorem By.take {xs : List Int} (h : By xs) (m : Nat) : By (xs.take m) := by
 intro i
 rw [List.getD_eq_getElem?_getD, List.getElem?_take]
 split
 ·rw [<- List.getD_eq_getElem?_getD]; exact h i
 ·simp
def Owns (k : IntKind) (e : TypeId) (w : World) (v : Value) (xs : List Int) : Prop := w.ownsRow 0 e 1 v xs.length (xs.map (Value.int k))
structure Grew (w w' : World) (v v' : Value) : Prop where
 tch : Tch (fun k => v.ownBlock = some k) w w'
 fresh : ∀ k, v'.ownBlock = some k -> v.ownBlock = some k ∨ w.heap.size <= k
theorem Grew.refl (w : World) (v : Value) : Grew w w v v := ⟨Tch.refl _ _, fun _ e => .inl e⟩
theorem Grew.trans {a b c : World} {u v x : Value} (h : Grew a b u v) (h2 : Grew b c v x) : Grew a c u x := by
 refine ⟨h.tch.trans h2.tch fun i hi e => ?_, fun k hk => ?_⟩
 ·rcases h.fresh i e with e | e
  ·exact e
  ·omega
 ·rcases h2.fresh k hk with e | e
  ·exact h.fresh k e
  ·exact .inr (by have := h.tch.size; omega)
theorem Grew.below {w w' : World} {v' : Value} (h : Grew w w' (.slice none 0 0) v') : Below w.heap.size w w' /\ ∀ k, v'.ownBlock = some k -> w.heap.size <= k :=
 ⟨h.tch.below (Nat.le_refl _) (fun k e => by cases e), fun k hk => by rcases h.fresh k hk with e | e; (· cases e); (· exact e)⟩
theorem Grew.onto {w0 w w' : World} {v v' : Value} (h : Grew w w' v v') (hb : Below w0.heap.size w0 w) (hn : ∀ k, v.ownBlock = some k -> w0.heap.size <= k) : Below w0.heap.size w0 w' /\ ∀ k, v'.ownBlock = some k -> w0.heap.size <= k :=
 ⟨hb.trans (h.tch.below hb.size (fun k e => hn k e)), fun k hk => by
  rcases h.fresh k hk with e | e
  ·exact hn k e
  ·have := hb.size; omega⟩
theorem zf9 (k : IntKind) (e : TypeId) (w : World) : Owns k e w (.slice none 0 0) [] := World.ownsRow_nil _ _ _ _
theorem Owns.rd {k : IntKind} {e : TypeId} {w : World} {v : Value} {xs : List Int} (h : Owns k e w v xs) : Rd k w v xs := zeh9 h
theorem Owns.tch {S : Nat -> Prop} {k : IntKind} {e : TypeId} {w w' : World} {v : Value} {xs : List Int} (h : Owns k e w v xs) (ht : Tch S w w') (hn : ∀ j, v.ownBlock = some j -> ¬ S j) : Owns k e w' v xs := ht.owns h hn
theorem Owns.below {k : IntKind} {e : TypeId} {w w' : World} {v : Value} {xs : List Int} (h : Owns k e w v xs) (hb : Below w.heap.size w w') : Owns k e w' v xs :=
 h.tch (S := fun _ => False) (Tch.of_below hb) (fun _ _ e => e)
theorem Owns.lt {k : IntKind} {e : TypeId} {w : World} {v : Value} {xs : List Int} (h : Owns k e w v xs) : ∀ j, v.ownBlock = some j -> j < w.heap.size := fun j hj => (World.ownsRow.lt h j hj).2
theorem Owns.shape {k : IntKind} {e : TypeId} {w : World} {v : Value} {xs : List Int} (h : Owns k e w v xs) (h0 : 0 < xs.length) :
  ∃ g cap, v = .slice (some ⟨g, 0, none⟩) xs.length cap /\ g < w.heap.size /\ xs.length <= cap /\ cap <= maxLen /\ (∀ i, i < xs.length -> w.cell? ⟨g, i, none⟩ = some (.int k (xs.getD i 0))) /\ ∀ i, w.frozen? ⟨g, i, none⟩ = false := by
 have h' : w.ownsRow 0 e 1 v xs.length (xs.map (Value.int k)) := h
 rcases h'.2 with ⟨_, e⟩ | ⟨g, cap, cur, rfl, _, hg, hnc, hcm, _⟩
 ·omega
 ·refine ⟨g, cap, rfl, (Array.getElem?_eq_some_iff.1 hg).1, hnc, hcm, fun i hi => ?_, fun i => h'.frozenAt i⟩
  rw [h'.cellAt i (by omega)]
  simp [List.getD_eq_getElem?_getD, hi]
theorem Owns.set {k : IntKind} {e : TypeId} {w : World} {g n cap : Nat} {xs : List Int} (h : Owns k e w (.slice (some ⟨g, 0, none⟩) n cap) xs) (j : Nat) (u : Int) :
  Owns k e (w.setCell ⟨g, j, none⟩ (.int k u)) (.slice (some ⟨g, 0, none⟩) n cap) (xs.set j u) := by
 have h' : w.ownsRow 0 e 1 (.slice (some ⟨g, 0, none⟩) n cap) xs.length (xs.map (Value.int k)) := h
 have hn : n = xs.length := by
  rcases h'.2 with ⟨e, _⟩ | ⟨g', cap', cur, e, _⟩
  ·cases e
  ·simp only [Value.slice.injEq] at e; exact e.2.1
 subst hn
 have := (h'.stored j (.int k u)).1
 unfold Owns
 rw [List.length_set, List.map_set]
 exact this
structure Elem (P : Program) (t e : TypeId) (k : IntKind) (bytes : Nat) : Prop where
 ht : P.underlying t = some (.slice e)
 info : ∃ i, P.info? e = some i /\ i.zero = some (.int k 0) /\ i.size = 1 /\ i.bytes = bytes
theorem elem8 : Elem Tryz.prog 22 5 .u8 1 := ⟨Tryz.underlying22, info_parts (z := .int .u8 0) (size := 1) (bytes := 1) (by kernel_rfl)⟩
section
variable {P : Program}
theorem zb9 (w : World) {ops : Array Oper} {rest : List Oper} {o : Oper} {a : Act} {Q : Exit -> Act -> World -> Prop} (hgd : o.guard = none) (s x : Operand) (t : TypeId)
  (ho : o.op = .call { callee := .builtin .append, args := #[s, x], argTypes := #[t, t] }) (e : TypeId) (k : IntKind) (bytes : Nat) (E : Elem P t e k bytes)
  (v : Value) (xs : List Int) (hs : a.eval s = v) (hown : Owns k e w v xs) (u : Value) (ys : List Int) (hx : a.eval x = u) (hu : Rd k w u ys)
  (h63 : xs.length + ys.length <= 9223372036854775807) (hbytes : (xs.length + ys.length) * bytes <= 140737488355328)
  (h : ∀ v' w', Owns k e w' v' (xs ++ ys) -> Grew w w' v v' -> wpList P ops Q rest (a.put o.dst v') w') : wpList P ops Q (o :: rest) a w := by
 obtain ⟨ht, i, hi, hz, h1, hb⟩ := E
 refine zdb9 w hgd s x t ho e i (.int k 0) bytes ht hi hz h1 hb rfl v (xs.map (Value.int k)) hs (by unfold Owns at hown; simpa using hown) u (ys.map (Value.int k)) hx (zlu9 hu) (by unfold maxLen; simpa using h63) (by simpa using hbytes) ?_
 intro v' w' h2 h3 h4
 refine h v' w' (by unfold Owns; simpa using h2) ⟨(Tch.refl _ w).grown h3 (fun _ _ e => e), h4⟩
theorem zd9 (w : World) {ops : Array Oper} {rest : List Oper} {o : Oper} {a : Act} {Q : Exit -> Act -> World -> Prop} (hgd : o.guard = none) (s x : Operand) (t : TypeId)
  (ho : o.op = .call { callee := .builtin .append, args := #[s, x], argTypes := #[t, t] }) (e : TypeId) (k : IntKind) (bytes : Nat) (E : Elem P t e k bytes)
  (v : Value) (xs : List Int) (hs : a.eval s = v) (hown : Owns k e w v xs) (y : Int) (hx : a.eval x = .slice (some ⟨w.heap.size, 0, none⟩) 1 1)
  (h63 : xs.length + 1 <= 9223372036854775807) (hbytes : (xs.length + 1) * bytes <= 140737488355328)
  (h : ∀ v' w', Owns k e w' v' (xs ++ [y]) -> Grew w w' v v' -> wpList P ops Q rest (a.put o.dst v') w') : wpList P ops Q (o :: rest) a (w.alloc (.cells #[.int k y] e)) := by
 obtain ⟨ht, i, hi, hz, h1, hb⟩ := E
 refine zdb9 (w.alloc (.cells #[.int k y] e)) hgd s x t ho e i (.int k 0) bytes ht hi hz h1 hb rfl v (xs.map (Value.int k)) hs (by unfold Owns at hown; simpa using hown.alloc _) _ [.int k y] hx (zvf9 w _ _ rfl) (by unfold maxLen; simpa using h63) (by simpa using hbytes) ?_
 intro v' w' h2 h3 h4
 refine h v' w' (by unfold Owns; simpa using h2) ⟨Tch.grown ((Tch.refl _ w).alloc _) h3 (fun _ _ e => e), fun k hk => ?_⟩
 rcases h4 k hk with e | e
 ·exact .inl e
 ·exact .inr (by simp at e; omega)
end
theorem Below.of_drewN (B : Nat) (w : World) (n : Nat) : Below B w (w.drewN n) := ⟨rfl, rfl, rfl, Nat.le_refl _, fun _ _ => rfl⟩
end Go.Proofs.YtobenjkacpipeaaGreat
