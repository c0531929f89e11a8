/-
  A new disk: the document's.
-/
import Derived.Test.YtmohbkhdloggeaaRWrite
import Derived.Test.YtmohbkhdloggeaaDNew
namespace Go.Proofs.Ytmohbkhdloggeaa
open Go.RowKit Go.Maps
set_option linter.unusedVariables false
set_option linter.unusedSimpArgs false
set_option maxRecDepth 100000

theorem info_cell : (Try.prog.info? 67).map (fun i => (i.zero, i.size, i.bytes)) = some (some (.agg #[.slice none 0 0, .slice none 0 0]), 2, 48) := by kernel_rfl
theorem info_byte : (Try.prog.info? 5).map (fun i => (i.zero, i.size, i.bytes)) = some (some (.int .u8 0), 1, 1) := by kernel_rfl

theorem cl_app (k : Nat) (A : Nat → Value) (u z : Value) : cl (k + 1) (updV A k u) (fun _ => z) = cl k A (fun _ => z) ++ [u, z] := by
  apply List.ext_getElem?
  intro j
  rw [List.getElem?_append, cl_len]
  unfold cl
  by_cases h : j < k * 2
  · rw [if_pos h, List.getElem?_map, List.getElem?_map, List.getElem?_range (by omega), List.getElem?_range h]
    simp only [Option.map_some, Option.some.injEq]
    by_cases e : j % 2 = 0
    · rw [if_pos e, if_pos e, updV, if_neg (by omega)]
    · rw [if_neg e, if_neg e]
  · rw [if_neg h, List.getElem?_map]
    by_cases h0 : j = k * 2
    · subst h0
      rw [List.getElem?_range (by omega)]
      simp [updV]
    · by_cases h1 : j = k * 2 + 1
      · subst h1
        rw [List.getElem?_range (by omega), show k * 2 + 1 - k * 2 = 1 by omega]
        simp only [Option.map_some]
        rw [if_neg (by omega)]
        rfl
      · rw [List.getElem?_eq_none (by simp; omega), List.getElem?_eq_none (by simp; omega)]
        rfl

theorem ownsRow_zero {w : World} {base : Nat} {e : TypeId} {size n : Nat} {v : Value} {xs : List Value} (h : w.ownsRow base e size v n xs) : w.ownsRow 0 e size v n xs := by
  refine ⟨h.1, ?_⟩
  rcases h.2 with h2 | ⟨g, cap, cur, h1, h2, h3⟩
  · exact .inl h2
  · exact .inr ⟨g, cap, cur, h1, Nat.zero_le _, h3⟩

section
variable {o : Oper} {a : Act} {w : World} {K : Act → World → Prop} {Q : Exit → Act → World → Prop}
theorem step_make256 (ho : o.op = Op.makeSlice 41 (.const (.int .i64 256)) (.const (.int .i64 256)))
    (h : ∀ w', Owns .u8 5 w' (.slice (some ⟨w.heap.size, 0, none⟩) 256 256) zz → w.grownBy w' none → K (a.put o.dst (.slice (some ⟨w.heap.size, 0, none⟩) 256 256)) w') : Oper.wp Try.prog o a w K Q := by
  obtain ⟨j0, hj, hy0, hy1, hy2⟩ := info_parts info_byte
  obtain ⟨w', hrun, r1, r2⟩ := run_make_full (P := Try.prog) w 0 41 5 j0 _ 1 Try.underlying41 hj hy0 hy1 .i64 .i64 256 (by rw [hy2]; decide) (by decide) (Nat.zero_le _)
  have hrun2 : (Instr.makeSlice 41 (.int .i64 256) (.int .i64 256)).run Try.prog w = .ok (.slice (some ⟨w.heap.size, 0, none⟩) 256 256) w' := hrun
  have hO : Owns .u8 5 w' (.slice (some ⟨w.heap.size, 0, none⟩) 256 256) zz := by
    have hz : zz = List.replicate 256 0 := rfl
    show w'.ownsRow _ _ _ _ _ _
    rw [show (Value.int .u8 0).cells = #[.int .u8 0] from rfl, toList_madeCells_one] at r1
    rw [hz, List.length_replicate, List.map_replicate]
    exact r1
  have := h w' hO r2
  unfold Oper.wp
  simp [execOp, ho, Act.eval, hrun2, Result.andThen]
  exact this

theorem step_buildC (x : Operand) (ho : o.op = Op.buildSlice 52 1 #[(0, x)]) (u : Value) (hx : a.eval x = .agg #[u, .slice none 0 0])
    (h : K (a.put o.dst (.slice (some ⟨w.heap.size, 0, none⟩) 1 1)) (w.alloc (.cells #[u, .slice none 0 0] 67))) : Oper.wp Try.prog o a w K Q := by
  have hrun : (Instr.buildSlice 52 1 #[(0, .agg #[u, .slice none 0 0])]).run Try.prog w = .ok (.slice (some ⟨w.heap.size, 0, none⟩) 1 1) (w.alloc (.cells #[u, .slice none 0 0] 67)) := by
    obtain ⟨j0, hj, hy0, hy1, hy2⟩ := info_parts info_cell
    refine run_buildSlice w _ 67 1 _ _ j0 _ Try.underlying52 hj hy0 (by rw [hy1]; decide) (by rw [hy1]; decide) ?_
    rw [hy1]
    have := Go.Great.fill_whole (s := 2) (by decide) [.agg #[u, .slice none 0 0]] ((Array.range (1 * 2)).map ((Value.agg #[.slice none 0 0, .slice none 0 0]).cells[· % (Value.agg #[.slice none 0 0, .slice none 0 0]).cells.size]!)) (fun v hv => by
      simp at hv
      subst hv
      rfl) (by simp)
    refine this.trans ?_
    simp [Value.cells]
  unfold Oper.wp
  simp [execOp, ho, hx, hrun, Result.andThen]
  exact h

theorem step_appC (s x : Operand) (ho : o.op = .call { callee := .builtin .append, args := #[s, x], argTypes := #[52, 52] }) (base : Nat) (hbase : base ≤ w.heap.size) (v : Value) (n : Nat) (xs : List Value) (hs : a.eval s = v) (hown : w.ownsRow base 67 2 v n xs)
    (g0 : Nat) (u z : Value) (hx : a.eval x = .slice (some ⟨g0, 0, none⟩) 1 1) (hu : IsSl u) (hz : IsSl z) (hc : w.cell? ⟨g0, 0, none⟩ = some u) (hc1 : w.cell? ⟨g0, 1, none⟩ = some z) (hl : n + 1 ≤ 1000000000000)
    (h : ∀ v' w', w'.ownsRow base 67 2 v' (n + 1) (xs ++ [u, z]) → w.grownBy w' v.ownBlock → K (a.put o.dst v') w') : Oper.wp Try.prog o a w K Q := by
  obtain ⟨j0, hj, hy0, hy1, hy2⟩ := info_parts info_cell
  obtain ⟨v', w', hr, h2, h3, _⟩ := run_append_own (P := Try.prog) w base 52 o.type 67 j0 _ 2 48 Try.underlying52 hj hy0 hy1 hy2 rfl (by decide) v n xs hown ⟨g0, 0, none⟩ 1 1 [u, z] rfl (fun j y hy => by
    match j, hy with
    | 0, hy => simp at hy; subst hy; simpa [Addr.add] using hc
    | 1, hy => simp at hy; subst hy; simpa [Addr.add] using hc1) (fun y hy => by
      simp at hy
      rcases hy with rfl | rfl
      · exact hu.one
      · exact hz.one) (by unfold maxLen; omega) (by omega) hbase
  unfold Oper.wp
  simp [execOp, ho, resolve, invoke, builtin, hs, hx, hr, Result.andThen]
  exact h v' w' h2 h3
end

/-- The first k sectors of a new one. -/
structure RnI (w wr : World) (r k : Nat) (lv : Value) (A : Nat → Value) : Prop where
  be : Below w.heap.size w wr
  rn : w.heap.size ≤ r
  box : wr.heap[r]? = some (.cells #[lv, .bool false, .int .i64 0] 54 (0, 0))
  row : wr.ownsRow w.heap.size 67 2 lv k (cl k A (fun _ => .slice none 0 0))
  la : ∀ i, i < k → Owns .u8 5 wr (A i) zz
  fa : ∀ i j, i < k → (A i).ownBlock = some j → w.heap.size ≤ j

section
variable {w wr : World} {r k : Nat} {lv : Value} {A : Nat → Value}
theorem RnI.c0 (h : RnI w wr r k lv A) : wr.cell? ⟨r, 0, none⟩ = some lv := by rw [cell_of_row wr r 0 _ _ (0, 0) h.box]; rfl
theorem RnI.fz (h : RnI w wr r k lv A) : wr.frozen? ⟨r, 0, none⟩ = false := frozen_of_row wr r 0 _ _ h.box
theorem RnI.lt (h : RnI w wr r k lv A) : r < wr.heap.size := (Array.getElem?_eq_some_iff.1 h.box).1
theorem RnI.ne (h : RnI w wr r k lv A) : ¬ lv.ownBlock = some r := fun e => by
  obtain ⟨C, hC⟩ := owns_block (ownsRow_zero h.row) e
  exact block_ne hC h.box (by decide) rfl
theorem RnI.yne (h : RnI w wr r k lv A) {W : World} {v : Value} {ys : List Int} (ho : Owns .u8 5 W v ys) (hr : W.ownsRow w.heap.size 67 2 lv k (cl k A (fun _ => .slice none 0 0))) {j : Nat} (hj : v.ownBlock = some j) : ¬ lv.ownBlock = some j := fun e => by
  obtain ⟨C, hC⟩ := owns_block ho hj
  obtain ⟨D, hD⟩ := owns_block (ownsRow_zero hr) e
  exact block_ne hC hD (by decide) rfl
theorem RnI.mono (h : RnI w wr r k lv A) {w2 : World} (ht : Tch (fun _ => False) wr w2) : RnI w w2 r k lv A :=
  { be := h.be.trans (ht.below h.be.size (fun _ e => e.elim))
    rn := h.rn
    box := by rw [ht.block r h.lt (fun e => e)]; exact h.box
    row := ht.owns h.row (fun _ _ e => e)
    la := fun i hi => (h.la i hi).tch ht (fun _ _ e => e)
    fa := h.fa }
/-- One more. -/
theorem RnI.step (h : RnI w wr r k lv A) {u : Value} (hu : Owns .u8 5 wr u zz) (hf : ∀ j, u.ownBlock = some j → w.heap.size ≤ j) {w5 : World} {v5 : Value} (hg : wr.grownBy w5 lv.ownBlock)
    (hr : w5.ownsRow w.heap.size 67 2 v5 (k + 1) (cl k A (fun _ => .slice none 0 0) ++ [u, .slice none 0 0])) : RnI w (w5.setCell ⟨r, 0, none⟩ v5) r (k + 1) v5 (updV A k u) := by
  have T5 : Tch (fun j => lv.ownBlock = some j) wr w5 := Tch.of_grown hg
  have hb5 : w5.heap[r]? = some (.cells #[lv, .bool false, .int .i64 0] 54 (0, 0)) := by rw [T5.block r h.lt h.ne]; exact h.box
  have T6 := tch_set w5 r 0 v5
  have hyr : ∀ {v : Value} {ys : List Int} {j : Nat}, Owns .u8 5 w5 v ys → v.ownBlock = some j → ¬ j = r := fun ho hj e => by
    obtain ⟨C, hC⟩ := owns_block ho hj
    exact block_ne hC hb5 (by decide) e
  have hfl : ∀ j, lv.ownBlock = some j → w.heap.size ≤ j := fun j hj => (h.row.lt j hj).1
  have move : ∀ {v : Value}, Owns .u8 5 wr v zz → Owns .u8 5 (w5.setCell ⟨r, 0, none⟩ v5) v zz := fun ho => by
    have h5 := ho.tch T5 (fun j hj => h.yne ho h.row hj)
    exact h5.tch T6 (fun j hj => hyr h5 hj)
  exact {
    be := (h.be.trans (T5.below h.be.size hfl)).trans (T6.below (Nat.le_trans h.be.size T5.size) (fun j e => by rw [e]; exact h.rn))
    rn := h.rn
    box := heap_setCell_same w5 r 0 _ _ _ hb5
    row := by
      rw [cl_app]
      refine T6.owns hr (fun j hj e => ?_)
      obtain ⟨C, hC⟩ := owns_block (ownsRow_zero hr) hj
      exact block_ne hC hb5 (by decide) e
    la := fun i hi => by
      unfold updV
      by_cases e : i = k
      · rw [if_pos e]; exact move hu
      · rw [if_neg e]; exact move (h.la i (by omega))
    fa := fun i j hi hj => by
      unfold updV at hj
      by_cases e : i = k
      · rw [if_pos e] at hj; exact hf j hj
      · rw [if_neg e] at hj; exact h.fa i j (by omega) hj }

theorem RnI.all (h : RnI w wr r k lv A) (h1 : 1 ≤ k) (h2 : k ≤ 4096) : ∃ R, Rf R wr r (DS.new k) ∧ ∀ j, R j → w.heap.size ≤ j := by
  have hl : (DS.new k).L.length = k := by simp [DS.new]
  have hg : ∀ i, i < k → (DS.new k).L.getD i [] = zz := fun i hi => by
    show (List.replicate k zz).getD i [] = zz
    rw [List.getD_eq_getElem?_getD, List.getElem?_replicate, if_pos hi]
    rfl
  rcases h.row.2 with ⟨_, e⟩ | ⟨g, cap, cur, rfl, hb, _⟩
  · omega
  refine ⟨fun j => w.heap.size ≤ j ∧ j < wr.heap.size, ⟨g, cap, A, fun _ => .slice none 0 0, 0, fun _ => [], ?_⟩, fun j hj => hj.1⟩
  exact {
    n1 := by rw [hl]; exact h1
    n2 := by rw [hl]; exact h2
    box := by rw [hl]; exact h.box
    left := fun e => by cases e
    xlo := by decide
    xhi := by decide
    l30 := Nat.zero_le _
    row := by rw [hl]; exact ownsRow_zero h.row
    la := fun i hi => by rw [hl] at hi; rw [hg i hi]; exact h.la i hi
    lv := fun i hi => World.ownsRow_nil _ _ _ _
    lw := fun i j v hi hj => by simp at hj
    apart := fun i j k _ _ _ e => by cases e
    okL := sok_new k
    okV := fun i => SOk.nil
    out := fun i _ => rfl
    rr := ⟨h.rn, h.lt⟩
    rl := ⟨hb, (h.row.lt g rfl).2⟩
    ra := fun i j hi hj => by rw [hl] at hi; exact ⟨h.fa i j hi hj, (h.la i hi).lt j hj⟩
    rb := fun i j _ e => by cases e
    rv := fun i j v b hi hj => by simp at hj
    rlt := fun j hj => hj.2 }
end

theorem refNew_bad (n : Int) (w : World) (h : n < 1 ∨ 4096 < n) : Calls Try.prog 11 #[.int .i64 n] w fun e w' => e = .returned (.tuple #[.pointer none, .int .i64 1]) ∧ w' = w := by
  by_cases h1 : n < 1
  · go_enter Try.func11, Try.ntmps11
    go_wp2_with fail
    go_ret2
    exact ⟨rfl, rfl⟩
  · have h2 : n > 4096 := by omega
    go_enter Try.func11, Try.ntmps11
    go_wp2_with fail
    go_ret2
    exact ⟨rfl, rfl⟩

set_option maxHeartbeats 2000000 in
theorem refNew_ok (n : Nat) (w : World) (h1 : 1 ≤ n) (h2 : n ≤ 4096) : Calls Try.prog 11 #[.int .i64 (n : Int)] w fun e w' =>
    ∃ r R, e = .returned (.tuple #[dp r, .int .i64 0]) ∧ Rf R w' r (DS.new n) ∧ Below w.heap.size w w' ∧ ∀ k, R k → w.heap.size ≤ k := by
  have ha : ¬ (n : Int) < 1 := by omega
  have hb : ¬ (n : Int) > 4096 := by omega
  obtain ⟨W1, hW1⟩ : ∃ W1, w.alloc (.cells #[.slice none 0 0, .bool false, .int .i64 0] 54) = W1 := ⟨_, rfl⟩
  obtain ⟨r, hr⟩ : ∃ r, w.heap.size = r := ⟨_, rfl⟩
  have I0 : Hid (RnI w W1 r 0 (.slice none 0 0) (fun _ => .slice none 0 0)) := by
    rw [← hW1, ← hr]
    exact {
      be := (Below.refl _ _).alloc (Nat.le_refl _) _
      rn := Nat.le_refl _
      box := heap_alloc_new w _
      row := World.ownsRow_nil _ _ _ _
      la := fun i hi => by omega
      fa := fun i j hi => by omega }
  have HW1 : Hid (w.alloc (.cells #[.slice none 0 0, .bool false, .int .i64 0] 54) = W1) := hW1
  have HR : Hid (w.heap.size = r) := hr
  have HN : Hid (1 ≤ n) := h1
  clear hW1 hr
  go_enter Try.func11, Try.ntmps11
  go_wp2_with fail
  rw [HW1.out, HR.out]
  clear HW1
  go_loopw [5] (fun iv wr => ∃ (k : Nat) (lv : Value) (A : Nat → Value), k ≤ n ∧ iv = .int .i64 k ∧ Hid (RnI w wr r k lv A)) (fun iv _ => n - (intOf iv).toNat)
  case atStart => exact ⟨0, _, _, Nat.zero_le _, rfl, I0⟩
  case round =>
    obtain ⟨k, lv, A, hk, rfl, I⟩ := hrel
    by_cases hkn : k < n
    · have hki : (k : Int) < (n : Int) := by omega
      obtain ⟨la, ln, lc, rfl⟩ : IsSl lv := by
        rcases I.out.row.2 with ⟨e, _⟩ | ⟨g, cap, cur, e, _⟩
        · exact ⟨_, _, _, e⟩
        · exact ⟨_, _, _, e⟩
      have ID : Hid (RnI w wr.drew r k (.slice la ln lc) A) := I.out.mono (Tch.drew (Tch.refl _ wr))
      have hS : wr.drew.cell? ⟨r, 0, none⟩ = some (.slice la ln lc) := ID.out.c0
      clear I
      go_wp2_with fail
      refine beginW (S := fun w' => w'.cell? ⟨r, 0, none⟩ = some (.slice la ln lc)) (t := 11) (by kernel_rfl) ?_
      refine takeW 0 (some 19) (.move (.tmp 4)) (Value.pointer (some ⟨r, 0, none⟩)) rfl rfl (by kernel_rfl) (by kernel_rfl) (by kernel_rfl) (by kernel_rfl) (fun _ _ _ h => h) ?hy hS ?_
      case hy =>
        rintro o ho w' hS1
        go_simp
      simp only [Act.put, List.setIfInBounds_toArray, List.set_cons_zero, List.set_cons_succ]
      refine takeW 1 (some 20) (.move (.tmp 4)) (Value.pointer (some ⟨r, 0, none⟩)) rfl rfl (by kernel_rfl) (by kernel_rfl) (by kernel_rfl) (by kernel_rfl) (fun _ _ _ h => h) ?hy hS ?_
      case hy =>
        rintro o ho w' hS1
        go_simp
      simp only [Act.put, List.setIfInBounds_toArray, List.set_cons_zero, List.set_cons_succ]
      refine takeW 2 (some 21) (.nilCheck (.tmp 20)) (Value.pointer (some ⟨r, 0, none⟩)) rfl rfl (by kernel_rfl) (by kernel_rfl) (by kernel_rfl) (by kernel_rfl) (fun _ _ _ h => h) ?hy hS ?_
      case hy =>
        rintro o ho w' hS1
        go_simp
      simp only [Act.put, List.setIfInBounds_toArray, List.set_cons_zero, List.set_cons_succ]
      refine takeW 3 (some 22) (.fieldAddr 54 (.tmp 21) 0) (Value.pointer (some ⟨r, 0, none⟩)) rfl rfl (by kernel_rfl) (by kernel_rfl) (by kernel_rfl) (by kernel_rfl) (fun _ _ _ h => h) ?hy hS ?_
      case hy =>
        rintro o ho w' hS1
        go_simp
      simp only [Act.put, List.setIfInBounds_toArray, List.set_cons_zero, List.set_cons_succ]
      refine takeW 4 (some 23) (.load 52 (.tmp 22)) (Value.slice la ln lc) rfl rfl (by kernel_rfl) (by kernel_rfl) (by kernel_rfl) (by kernel_rfl) (fun _ _ _ h => h) ?hy hS ?_
      case hy =>
        rintro o ho w' hS1
        go_simp
      simp only [Act.put, List.setIfInBounds_toArray, List.set_cons_zero, List.set_cons_succ]
      refine readyW 5 (some 24) (.makeSlice 41 (.const (.int .i64 256)) (.const (.int .i64 256))) rfl (by kernel_rfl) ?_
      rintro o K hd ho hg hK
      refine step_make256 ho ?_
      intro w2 ho2 hg2
      have I2 : Hid (RnI w w2 r k (.slice la ln lc) A) := ID.out.mono ((Tch.of_grown hg2).mono (fun _ _ e => by cases e))
      have O2 : Hid (Owns .u8 5 w2 (.slice (some ⟨wr.drew.heap.size, 0, none⟩) 256 256) zz) := ho2
      have G2 : Hid (w.heap.size ≤ wr.drew.heap.size) := ID.out.be.size
      generalize wr.drew.heap.size = g2 at *
      have k2 : w2.cell? ⟨r, 0, none⟩ = some (.slice la ln lc) := I2.out.c0
      rw [hd]
      refine hK _ _ (fun _ => k2) ?_
      clear ho hd hg hK ho2 hg2 ID hS
      simp only [Act.put, List.setIfInBounds_toArray, List.set_cons_zero, List.set_cons_succ]
      refine readyW 6 (some 25) (.build 67 #[(0, .tmp 24)]) rfl (by kernel_rfl) ?_
      rintro o K hd ho hg hK
      refine stepY (v := Value.agg #[.slice (some ⟨g2, 0, none⟩) 256 256, .slice none 0 0]) ?hy ?_
      case hy => go_simp
      rw [hd]
      refine hK _ _ (fun _ => k2) ?_
      clear ho hd hg hK
      simp only [Act.put, List.setIfInBounds_toArray, List.set_cons_zero, List.set_cons_succ]
      refine readyW 7 (some 26) (.buildSlice 52 1 #[(0, .tmp 25)]) rfl (by kernel_rfl) ?_
      rintro o K hd ho hg hK
      refine step_buildC (.tmp 25) ho _ rfl ?_
      have H3 : (w2.alloc (.cells #[.slice (some ⟨g2, 0, none⟩) 256 256, .slice none 0 0] 67)).heap[w2.heap.size]? = some (.cells #[.slice (some ⟨g2, 0, none⟩) 256 256, .slice none 0 0] 67 (0, 0)) := heap_alloc_new w2 _
      have I3 : Hid (RnI w (w2.alloc (.cells #[.slice (some ⟨g2, 0, none⟩) 256 256, .slice none 0 0] 67)) r k (.slice la ln lc) A) := I2.out.mono (Tch.alloc (Tch.refl _ _) _)
      have O3 : Hid (Owns .u8 5 (w2.alloc (.cells #[.slice (some ⟨g2, 0, none⟩) 256 256, .slice none 0 0] 67)) (.slice (some ⟨g2, 0, none⟩) 256 256) zz) := O2.out.tch (S := fun _ => False) (Tch.alloc (Tch.refl _ _) _) (fun _ _ e => e)
      obtain ⟨W3, hW3⟩ : ∃ W3, w2.alloc (.cells #[.slice (some ⟨g2, 0, none⟩) 256 256, .slice none 0 0] 67) = W3 := ⟨_, rfl⟩
      rw [hW3] at H3 I3 O3 ⊢
      generalize w2.heap.size = g3 at *
      have k3 : W3.cell? ⟨r, 0, none⟩ = some (.slice la ln lc) := I3.out.c0
      have H3H : Hid (W3.cell? ⟨g3, 0, none⟩ = some (.slice (some ⟨g2, 0, none⟩) 256 256) ∧ W3.cell? ⟨g3, 1, none⟩ = some (.slice none 0 0)) := ⟨cell_of_row W3 g3 0 _ _ (0, 0) H3, cell_of_row W3 g3 1 _ _ (0, 0) H3⟩
      rw [hd]
      refine hK _ _ (fun _ => k3) ?_
      clear ho hd hg hK H3 hW3 I2 O2 k2
      simp only [Act.put, List.setIfInBounds_toArray, List.set_cons_zero, List.set_cons_succ]
      refine readyW 8 (some 27) (.call { callee := .builtin .append, args := #[.tmp 23, .tmp 26], argTypes := #[52, 52] }) rfl (by kernel_rfl) ?_
      rintro o K hd ho hg hK
      refine step_appC (.tmp 23) (.tmp 26) ho w.heap.size I3.out.be.size (.slice la ln lc) k (cl k A (fun _ => .slice none 0 0)) rfl I3.out.row g3 (.slice (some ⟨g2, 0, none⟩) 256 256) (.slice none 0 0) rfl ⟨_, _, _, rfl⟩ ⟨_, _, _, rfl⟩ H3H.out.1 H3H.out.2 (by omega) ?_
      intro v5 w5 hr5 hg5
      have I6 : Hid (RnI w (w5.setCell ⟨r, 0, none⟩ v5) r (k + 1) v5 (updV A k (.slice (some ⟨g2, 0, none⟩) 256 256))) := I3.out.step O3.out (fun j hj => by cases hj; exact G2.out) hg5 hr5
      have T5 := Tch.of_grown hg5
      have k5 : w5.cell? ⟨r, 0, none⟩ = some (.slice la ln lc) := by rw [T5.cell (p := ⟨r, 0, none⟩) I3.out.lt I3.out.ne]; exact k3
      have f5 : w5.frozen? ⟨r, 0, none⟩ = false := by rw [T5.frozen (p := ⟨r, 0, none⟩) I3.out.lt I3.out.ne]; exact I3.out.fz
      obtain ⟨va, vn, vc, rfl⟩ : IsSl v5 := by
        rcases hr5.2 with ⟨e, _⟩ | ⟨g, cap, cur, e, _⟩
        · exact ⟨_, _, _, e⟩
        · exact ⟨_, _, _, e⟩
      rw [hd]
      refine hK _ _ (fun _ => k5) ?_
      clear ho hd hg hK hr5 hg5 T5 I3 O3 k3 H3H
      simp only [Act.put, List.setIfInBounds_toArray, List.set_cons_zero, List.set_cons_succ]
      refine readyW 9 (some 28) (.nilCheck (.tmp 19)) rfl (by kernel_rfl) ?_
      rintro o K hd ho hg hK
      refine stepY (v := Value.pointer (some ⟨r, 0, none⟩)) ?hy ?_
      case hy => go_simp
      rw [hd]
      refine hK _ _ (fun _ => k5) ?_
      clear ho hd hg hK
      simp only [Act.put, List.setIfInBounds_toArray, List.set_cons_zero, List.set_cons_succ]
      refine readyW 10 (some 29) (.fieldAddr 54 (.tmp 28) 0) rfl (by kernel_rfl) ?_
      rintro o K hd ho hg hK
      refine stepY (v := Value.pointer (some ⟨r, 0, none⟩)) ?hy ?_
      case hy => go_simp
      rw [hd]
      refine hK _ _ (fun _ => k5) ?_
      clear ho hd hg hK
      simp only [Act.put, List.setIfInBounds_toArray, List.set_cons_zero, List.set_cons_succ]
      refine readyW 11 none (.store 52 (.tmp 29) (.tmp 27)) rfl (by kernel_rfl) ?_
      rintro o K hd ho hg hK
      refine step_store1 (.tmp 29) (.tmp 27) ho r 0 _ rfl rfl (by kernel_rfl) rfl rfl k5 f5 ?_
      rw [hd]
      refine hK _ _ (fun e => absurd rfl e) ?_
      refine doneW (by kernel_rfl) ?_ _
      clear ho hd hg hK k5 f5
      simp only [Act.put]
      go_wp2_with fail
      go_roundw
      case rel => exact ⟨k + 1, _, _, by omega, by go_num, I6⟩
      case measure => simp [intOf]; omega
    · have hki : ¬ (k : Int) < (n : Int) := by omega
      obtain rfl : k = n := by omega
      go_wp2_with fail
      go_ret2
      obtain ⟨R, h3, h4⟩ := I.out.all HN.out h2
      exact ⟨r, rfl, R, h3, I.out.be, h4⟩
end Go.Proofs.Ytmohbkhdloggeaa
