import Derived.Test.YtdicgaepggffbaaUP28
import Derived.Test.YtdicgaepggffbaaUP26
import Derived.Test.YtdicgaepggffbaaUP03
import Derived.StillTailTactics
import Derived.Deep.RegionHeld3
import Derived.Test.YtdicgaepggffbaaUP25
import Derived.Test.YtdicgaepggffbaaUP13
import Derived.Test.YtdicgaepggffbaaUP23
import Derived.Great.BuildSlice
import Derived.Maps.AppendAt
/-
  The document's Get of superblocks.
-/
namespace Go.Proofs.Ytdicgaepggffbaa
open Go.RowKit Pl
set_option linter.unusedVariables false
set_option linter.unusedSimpArgs false
set_option maxRecDepth 100000

set_option maxHeartbeats 400000 in
theorem refGetU_len (v : Value) (xs : List Int) (w : World) (hr : Rd .u8 w v xs) (hl : xs.length ≠ 256) :
    Calls Try.prog 16 #[v] w fun e w' => GetU xs w e w' := by
  obtain ⟨a, cap, rfl, h1, h2, _⟩ := id hr
  have HE : Hid (getU xs = none) := getU_len hl
  have hl9 : xs.length ≤ 9223372036854775807 := by unfold maxLen at h2; omega
  obtain ⟨W1, hW1⟩ : ∃ W1, w.alloc (.cells #[.int .i64 0, .int .i64 0, .int .i64 0, .slice none 0 0] 24) = W1 := ⟨_, rfl⟩
  have b1 : Hid (Below w.heap.size w W1) := by rw [← hW1]; exact (Below.refl _ _).alloc (Nat.le_refl _) _
  have Q1 : Hid (Uv W1 w.heap.size sp0 (.slice none 0 0)) := by rw [← hW1]; exact uv_new w sp0 _
  have q0 : W1.cell? ⟨w.heap.size, 0, none⟩ = some (.int .i64 0) := Q1.out.c0
  have q1 : W1.cell? ⟨w.heap.size, 1, none⟩ = some (.int .i64 0) := Q1.out.c1
  have q2 : W1.cell? ⟨w.heap.size, 2, none⟩ = some (.int .i64 0) := Q1.out.c2
  have q3 := Q1.out.c3
  have f0 := Q1.out.fz 0
  have f1 := Q1.out.fz 1
  have f2 := Q1.out.fz 2
  have f3 := Q1.out.fz 3
  have HLD := hideP (Q1.out.put sp0 (.slice none 0 0)).load
  have HB : Hid (Below w.heap.size w ((((W1.setCell ⟨w.heap.size, 0, none⟩ (.int .i64 sp0.gen)).setCell ⟨w.heap.size, 1, none⟩ (.int .i64 sp0.sc)).setCell ⟨w.heap.size, 2, none⟩ (.int .i64 sp0.nx)).setCell ⟨w.heap.size, 3, none⟩ (.slice none 0 0))) := b1.out.trans ((Q1.out.tset sp0 _).below (by have := Q1.out.lt; omega) (fun k e => by omega))
  have hne : ((xs.length : Int) == 256) = false := by rw [beq_eq_false_iff_ne]; omega
  generalize xs.length = l at *
  clear hl hr h2
  go_enter Try.func16, Try.ntmps16
  go_wp2_with fail
  refine bodyPost_ret (v := .tuple #[supv sp0 (.slice none 0 0), .bool false]) (results_cellV (p := 2) (ty := 24) rfl _ _ _ w.heap.size _ _ rfl HLD.out rfl) rfl ?_
  exact getU_bad HE.out HB.out

theorem rd_sl {w : World} {b o cap : Nat} {xs : List Int} (hc : ∀ i, i < xs.length → w.cell? ⟨b, o + i, none⟩ = some (.int .u8 (xs.getD i 0))) (hcm : cap ≤ maxLen) (p k : Nat) (h : p + k ≤ xs.length) (hx : xs.length ≤ cap) : Rd .u8 w (.slice (some ⟨b, o + p, none⟩) k (cap - p)) (sl xs p k) := by
  have e := sl_len h
  refine ⟨_, cap - p, by rw [e], by rw [e]; omega, by omega, (fun e => by cases e), .inr ⟨b, o + p, rfl, fun i hi => ?_⟩⟩
  rw [e] at hi
  rw [Nat.add_assoc, hc (p + i) (by omega)]
  unfold sl
  rw [List.getD_eq_getElem?_getD, List.getD_eq_getElem?_getD, List.getElem?_take, if_pos hi, List.getElem?_drop]

/-- What comes behind is shown once. -/
theorem shareU {G X : Prop} (h : G → X) (g : G) : X := h g
/-- A part of a sector is taken. -/
theorem exec_sl {a : Act} {o' : Oper} {x l q : Operand} {b o cap : Nat} (W : World) (ho : o'.op = .slice 25 x (some l) (some q) none) (hv : a.eval x = .slice (some ⟨b, o, none⟩) 256 cap) {lv qv : Int} (hl : a.eval l = .int .i64 lv) (hq : a.eval q = .int .i64 qv) (p k : Nat) (hlv : (lv, qv) = ((p : Int), ((p + k : Nat) : Int))) (hpk : p + k ≤ 256) (hc : 256 ≤ cap) (hp : p < 256) :
    (execOp a.eval o').run Try.prog W = .ok (Next.value (.slice (some ⟨b, o + p, none⟩) k (cap - p))) W := by
  simp only [Prod.mk.injEq] at hlv
  obtain ⟨rfl, rfl⟩ := hlv
  have hrun : (Instr.sliceAt 25 (.slice (some ⟨b, o, none⟩) 256 cap) (some (.int .i64 (p : Int))) (some (.int .i64 ((p + k : Nat) : Int))) none).run Try.prog W = .ok (.slice (some ⟨b, o + p, none⟩) k (cap - p)) W := by
    rw [run_sliceAt_slice _ _ _ _ _ _ under8, run_slice_lh _ _ _ _ _ under8 _ _ _ _ (by omega) (by omega) (by omega), size8]
    have hne : ¬ cap = p := by omega
    simp [Result.andThen, sliced, hne, Addr.add]
    omega
  unfold execOp
  simp only [ho, hv, hl, hq, Option.map_some, Option.map_none, Sem.run_bind, hrun, Result.andThen_ok]
  rfl
theorem exec_slG {a : Act} {o' : Oper} {x l q : Operand} {b o n cap : Nat} (W : World) (ho : o'.op = .slice 25 x (some l) (some q) none) (hv : a.eval x = .slice (some ⟨b, o, none⟩) n cap) {lv qv : Int} (hl : a.eval l = .int .i64 lv) (hq : a.eval q = .int .i64 qv) (p k : Nat) (hlv : (lv, qv) = ((p : Int), ((p + k : Nat) : Int))) (hpk : p + k ≤ cap) (hp : p < cap) :
    (execOp a.eval o').run Try.prog W = .ok (Next.value (.slice (some ⟨b, o + p, none⟩) k (cap - p))) W := by
  simp only [Prod.mk.injEq] at hlv
  obtain ⟨rfl, rfl⟩ := hlv
  have hrun : (Instr.sliceAt 25 (.slice (some ⟨b, o, none⟩) n cap) (some (.int .i64 (p : Int))) (some (.int .i64 ((p + k : Nat) : Int))) none).run Try.prog W = .ok (.slice (some ⟨b, o + p, none⟩) k (cap - p)) W := by
    rw [run_sliceAt_slice _ _ _ _ _ _ under8, run_slice_lh _ _ _ _ _ under8 _ _ _ _ (by omega) (by omega) (by omega), size8]
    have hne : ¬ cap = p := by omega
    simp [Result.andThen, sliced, hne, Addr.add]
    omega
  unfold execOp
  simp only [ho, hv, hl, hq, Option.map_some, Option.map_none, Sem.run_bind, hrun, Result.andThen_ok]
  rfl
theorem exec_slG2 {a : Act} {o' : Oper} {x l q : Operand} {b o n cap o2 c2 : Nat} (W : World) (ho : o'.op = .slice 25 x (some l) (some q) none) (hv : a.eval x = .slice (some ⟨b, o, none⟩) n cap) {lv qv : Int} (hl : a.eval l = .int .i64 lv) (hq : a.eval q = .int .i64 qv) (p k : Nat) (hlv : (lv, qv) = ((p : Int), ((p + k : Nat) : Int))) (hpk : p + k ≤ cap) (hp : p < cap) (h2 : o2 = o + p) (h3 : c2 = cap - p) :
    (execOp a.eval o').run Try.prog W = .ok (Next.value (.slice (some ⟨b, o2, none⟩) k c2)) W := by
  rw [h2, h3]
  exact exec_slG W ho hv hl hq p k hlv hpk hp
theorem exec_slH {a : Act} {o' : Oper} {x q : Operand} {b o n cap : Nat} (W : World) (ho : o'.op = .slice 25 x none (some q) none) (hv : a.eval x = .slice (some ⟨b, o, none⟩) n cap) {qv : Int} (hq : a.eval q = .int .i64 qv) (k : Nat) (hqv : qv = (k : Int)) (hk : k ≤ cap) :
    (execOp a.eval o').run Try.prog W = .ok (Next.value (.slice (some ⟨b, o, none⟩) k cap)) W := by
  subst hqv
  have hrun : (Instr.sliceAt 25 (.slice (some ⟨b, o, none⟩) n cap) none (some (.int .i64 (k : Int))) none).run Try.prog W = .ok (.slice (some ⟨b, o, none⟩) k cap) W := by
    rw [run_sliceAt_slice _ _ _ _ _ _ under8, run_slice_h _ _ _ _ _ under8 _ _ (by omega) (by omega), size8]
    simp [Result.andThen, sliced, Addr.add]
  unfold execOp
  simp only [ho, hv, hq, Option.map_some, Option.map_none, Sem.run_bind, hrun, Result.andThen_ok]
  rfl
theorem wpList_slU {ops : Array Oper} {rest : List Oper} {o' : Oper} {a : Act} {Q : Exit → Act → World → Prop} {x l q : Operand} {b o n cap : Nat} (W : World) (hgd : o'.guard = none) (ho : o'.op = .slice 25 x (some l) (some q) none) (hv : a.eval x = .slice (some ⟨b, o, none⟩) n cap) {lv qv : Int} (hl : a.eval l = .int .i64 lv) (hq : a.eval q = .int .i64 qv) (p k : Nat) (hlv : (lv, qv) = ((p : Int), ((p + k : Nat) : Int))) (hpk : p + k ≤ cap) (hp : p < cap)
    (h : wpList Try.prog ops Q rest (a.put o'.dst (.slice (some ⟨b, o + p, none⟩) k (cap - p))) W) : wpList Try.prog ops Q (o' :: rest) a W := by
  refine wpList_plain hgd fun K hK => ?_
  unfold Oper.wp
  rw [exec_slG W ho hv hl hq p k hlv hpk hp]
  exact hK _ _ h
section
variable {a : Act} {w : World} {Q : Exit → Act → World → Prop} {o' : Oper} {K : Act → World → Prop}
theorem step_buildVn (x : Operand) (ho : o'.op = Op.buildSlice 22 1 #[(0, x)]) (y : Vn) (hx : a.eval x = verv y)
    (h : K (a.put o'.dst (.slice (some ⟨w.heap.size, 0, none⟩) 1 1)) (w.alloc (.cells #[.int .i64 y.id, .int .i64 y.root, .int .i64 y.nx, .bool y.fx] 66))) : Oper.wp Try.prog o' a w K Q := by
  have hrun : (Instr.buildSlice 22 1 #[(0, verv y)]).run Try.prog w = .ok (.slice (some ⟨w.heap.size, 0, none⟩) 1 1) (w.alloc (.cells #[.int .i64 y.id, .int .i64 y.root, .int .i64 y.nx, .bool y.fx] 66)) := by
    obtain ⟨j0, hj, hy0, hy1, hy2⟩ := info_parts infoV
    refine run_buildSlice w _ 66 1 _ _ j0 _ Try.underlying22 hj hy0 (by rw [hy1]; decide) (by rw [hy1]; decide) ?_
    rw [hy1]
    have := Go.Great.fill_whole (s := 4) (by decide) [verv y] ((Array.range (1 * 4)).map ((Value.agg #[.int .i64 0, .int .i64 0, .int .i64 0, .bool false]).cells[· % (Value.agg #[.int .i64 0, .int .i64 0, .int .i64 0, .bool false]).cells.size]!)) (fun v hv => by
      simp at hv
      subst hv
      rfl) (by simp)
    refine this.trans ?_
    simp [Value.cells, verv]
  unfold Oper.wp
  simp [execOp, ho, hx, hrun, Result.andThen]
  exact h
theorem step_appVn (s x : Operand) (ho : o'.op = .call { callee := .builtin .append, args := #[s, x], argTypes := #[22, 22] }) (v : Value) (ps : List Vn) (hs : a.eval s = v) (hown : OwnsV w v ps)
    (g0 : Nat) (y : Vn) (hx : a.eval x = .slice (some ⟨g0, 0, none⟩) 1 1) (hc : VCell w g0 0 y) (hl : ps.length ≤ 1000)
    (h : ∀ v' w', OwnsV w' v' (ps ++ [y]) → w.grownBy w' v.ownBlock → (v'.ownBlock = v.ownBlock ∨ v'.ownBlock = some w.heap.size) → K (a.put o'.dst v') w') : Oper.wp Try.prog o' a w K Q := by
  obtain ⟨j0, hj, hy0, hy1, hy2⟩ := info_parts infoV
  obtain ⟨v', w', hr, h2, h3, _, h5⟩ := run_append_own_at (P := Try.prog) w 0 22 o'.type 66 j0 _ 4 32 Try.underlying22 hj hy0 hy1 hy2 rfl (by decide) v ps.length (vcells ps) hown ⟨g0, 0, none⟩ 1 1 [.int .i64 y.id, .int .i64 y.root, .int .i64 y.nx, .bool y.fx] rfl
    (fun j u hj => by
      match j, hj with
      | 0, hj => simp at hj; subst hj; simpa [Addr.add] using hc.c0
      | 1, hj => simp at hj; subst hj; simpa [Addr.add] using hc.c1
      | 2, hj => simp at hj; subst hj; simpa [Addr.add] using hc.c2
      | 3, hj => simp at hj; subst hj; simpa [Addr.add] using hc.c3)
    (fun u hu => by
      simp only [List.mem_cons, List.not_mem_nil, or_false] at hu
      rcases hu with rfl | rfl | rfl | rfl <;> rfl) (by unfold maxLen; omega) (by omega) (Nat.zero_le _)
  unfold Oper.wp
  simp [execOp, ho, resolve, invoke, builtin, hs, hx, hr, Result.andThen]
  refine h v' w' ?_ h3 h5
  unfold OwnsV
  rw [vcells_append]
  simpa [vcells] using h2
theorem step_store1U (x y : Operand) {ty : TypeId} (ho : o'.op = .store ty x y) (b off : Nat) (v : Value) (hx : a.eval x = .pointer (some ⟨b, off, none⟩)) (hy : a.eval y = v) (hi : (Try.prog.info? ty).map (·.size) = some 1) (h1 : v.cells = #[v]) (hone : v.oneCell' = true) {u : Value} (hc : w.cell? ⟨b, off, none⟩ = some u) (hf : w.frozen? ⟨b, off, none⟩ = false)
    (h : K (a.put o'.dst undef) (w.setCell ⟨b, off, none⟩ v)) : Oper.wp Try.prog o' a w K Q := by
  cases hq : Try.prog.info? ty with
  | none => simp [hq] at hi
  | some j0 =>
    have hs : j0.size = 1 := by simpa [hq] using hi
    have hrun : (Instr.storeAt ty (.pointer (some ⟨b, off, none⟩)) v).run Try.prog w = .ok () (w.setCell ⟨b, off, none⟩ v) := by
      have := run_storeCells_cells (P := Try.prog) b off [v] 0 w (fun j hj => by simp at hj; subst hj; simp [hc]) (fun j hj => by simp at hj; subst hj; simpa using hf) (fun u hu => by simp at hu; subst hu; exact hone)
      simp only [Nat.add_zero] at this
      simp [Instr.storeAt, Instr.sureAddr, storeVar, sizeOf, typeInfo, hq, h1, hs, this, World.setCells]
    unfold Oper.wp
    simp [execOp, ho, hx, hy, hrun, Result.andThen]
    exact h
end
theorem tchU_set (w : World) (b i : Nat) (v : Value) : Tch (fun k => k = b) w (w.setCell ⟨b, i, none⟩ v) := Tch.setCell (Tch.refl (fun k => k = b) w) (p := ⟨b, i, none⟩) (fun _ => rfl) v
theorem Uv.set3 {w : World} {b : Nat} {s : Sp} {v : Value} (h : Uv w b s v) (u : Value) : Uv (w.setCell ⟨b, 3, none⟩ u) b s u := heap_setCell_same w b 3 _ _ u h
theorem OwnsV.sh {w : World} {v : Value} {ps : List Vn} (h : OwnsV w v ps) : ∃ a n c, v = .slice a n c := by
  obtain ⟨a, c, hv, _⟩ := h.rd
  exact ⟨a, _, c, hv⟩
theorem rdVs_succ (f : Int → Bool) (xs : List Int) (k : Nat) : rdVs f xs (k + 1) = rdVs f xs k ++ [rdVn f xs (15 + 11 * k)] := by
  unfold rdVs
  rw [List.range_succ, List.map_append]
  rfl
/-- A new superblock's variable. -/
theorem step_allocS {a : Act} {W : World} {Q : Exit → Act → World → Prop} {o' : Oper} {K : Act → World → Prop} (ho : o'.op = .alloc 24)
    (h : K (a.put o'.dst (.pointer (some ⟨W.heap.size, 0, none⟩))) (W.alloc (.cells #[.int .i64 0, .int .i64 0, .int .i64 0, .slice none 0 0] 24))) : Oper.wp Try.prog o' a W K Q := by
  have hrun : (execOp a.eval o').run Try.prog W = .ok (Next.value (.pointer (some ⟨W.heap.size, 0, none⟩))) (W.alloc (.cells #[.int .i64 0, .int .i64 0, .int .i64 0, .slice none 0 0] 24)) := by
    go_simp
  unfold Oper.wp
  rw [hrun]
  exact h

set_option maxHeartbeats 800000 in
theorem refGetU_ok (L : Nat) (v : Value) (xs : List Int) (w : World) (hr : Rd .u8 w v xs) (hb : By xs) (hl : xs.length = 256) (hL : xs.getD 14 0 = (L : Int)) :
    Calls Try.prog 16 #[v] w fun e w' => GetU xs w e w' := by
  obtain ⟨a, cap, rfl, h1, h2, _, hcc⟩ := id hr
  obtain ⟨b, o, rfl, hc⟩ : ∃ b o, a = some ⟨b, o, none⟩ ∧ ∀ i, i < xs.length → w.cell? ⟨b, o + i, none⟩ = some (.int .u8 (xs.getD i 0)) := by
    rcases hcc with e | h
    · rw [e] at hl; simp at hl
    · exact h
  have HL : Hid (xs.length = 256) := hl
  have HBY : Hid (By xs) := hb
  have HL14 : Hid (xs.getD 14 0 = (L : Int)) := hL
  have hcap : (256 : Int) ≤ (cap : Int) := by omega
  have c4 : ¬ cap = 4 := by omega
  have c8 : ¬ cap = 8 := by omega
  have c10 : ¬ cap = 10 := by omega
  have hcap2 : (cap : Int) ≤ 9223372036854775807 := by unfold maxLen at h2; omega
  obtain ⟨W1, hW1⟩ : ∃ W1, w.alloc (.cells #[.int .i64 0, .int .i64 0, .int .i64 0, .slice none 0 0] 24) = W1 := ⟨_, rfl⟩
  have b1 : Below w.heap.size w W1 := by rw [← hW1]; exact (Below.refl _ _).alloc (Nat.le_refl _) _
  have B1 : Hid (Below w.heap.size w W1) := b1
  have Q1 : Hid (Uv W1 w.heap.size sp0 (.slice none 0 0)) := by rw [← hW1]; exact uv_new w sp0 _
  have HCL : Hid (∀ W, Below w.heap.size w W → ∀ i, i < xs.length → W.cell? ⟨b, o + i, none⟩ = some (.int .u8 (xs.getD i 0))) := fun W hW i hi => by
    have h0 := hc i hi
    rw [hW.cell (p := ⟨b, o + i, none⟩) (World.block_lt_of_cell? w ⟨b, o + i, none⟩ h0)]
    exact h0
  have HSL : Hid (∀ W, Below w.heap.size w W → ∀ p k, p + k ≤ 256 → Rd .u8 W (.slice (some ⟨b, o + p, none⟩) k (cap - p)) (sl xs p k)) := fun W hW p k hpk => rd_sl (HCL.out W hW) h2 p k (by rw [HL.out]; exact hpk) (by omega)
  have HCM : Hid (cap ≤ maxLen) := h2
  rw [hl]
  clear hr hb hl hL hcc hc b1 h1 h2
  go_enter Try.func16, Try.ntmps16
  go_wp2_with fail
  have HV : Hid (∀ W, Below w.heap.size w W → ∀ p k, p + k ≤ 256 → k ≤ 4 → Calls Try.prog 42 #[.slice (some ⟨b, o + p, none⟩) k (cap - p)] W fun e w' => e = .returned (.int .i64 (vN (sl xs p k))) ∧ w' = W) := fun W hW p k hp hk => refValue_any _ (sl xs p k) W (HSL.out W hW p k hp) (sl_by HBY.out p k) (by rw [sl_len (by rw [HL.out]; exact hp)]; exact hk)
  have b1 := B1.out
  have HCP : Hid (256 ≤ cap) := by show _ ≤ _; omega
  have HSI := hideP inf_sup
  obtain ⟨n1, hn1⟩ : ∃ n, Hid (vN (sl xs 4 4) = n) := ⟨_, rfl⟩
  obtain ⟨n2, hn2⟩ : ∃ n, Hid (vN (sl xs 8 2) = n) := ⟨_, rfl⟩
  obtain ⟨n3, hn3⟩ : ∃ n, Hid (vN (sl xs 10 4) = n) := ⟨_, rfl⟩
  have HON : Hid ((#[Value.int .i64 n1, .int .i64 n2, .int .i64 n3, .slice none 0 0]).all (·.oneCell') = true) := all_oneCell_toArray (cs := [.int .i64 n1, .int .i64 n2, .int .i64 n3, .slice none 0 0]) (fun v hv => by
    simp only [List.mem_cons, List.not_mem_nil, or_false] at hv
    rcases hv with rfl | rfl | rfl | rfl <;> rfl)
  have U2 : Hid (Uv (W1.drew.alloc (.cells #[.int .i64 0, .int .i64 0, .int .i64 0, .slice none 0 0] 24)) (W1.drew).heap.size sp0 (.slice none 0 0)) := uv_new W1.drew sp0 _
  have HTH : Hid ((W1.drew.alloc (.cells #[.int .i64 0, .int .i64 0, .int .i64 0, .slice none 0 0] 24)).there (W1.drew).heap.size 0 4) := fun j hj => by
    rw [Nat.zero_add]
    refine ⟨?_, U2.out.fz j⟩
    match j, hj with
    | 0, _ => rw [U2.out.c0]; rfl
    | 1, _ => rw [U2.out.c1]; rfl
    | 2, _ => rw [U2.out.c2]; rfl
    | 3, _ => rw [U2.out.c3]; rfl
  refine @shareU ?G _ (fun REST => ?main) ?rest
  case main =>
    refine wp_region_held (S := fun _ => True) (by kernel_rfl) ?_
    refine takeT 0 (some 15) (.move (.tmp 0)) (.slice (some ⟨b, o, none⟩) 256 cap) rfl (by kernel_rfl) (by kernel_rfl) (by kernel_rfl) (fun _ _ _ h => h) ?hy trivial ?_
    case hy =>
      rintro o' ho w' _
      go_simp
    simp only [Act.put, List.setIfInBounds_toArray, List.set_cons_zero, List.set_cons_succ]
    refine takeT 1 (some 16) (.slice 25 (.tmp 15) (some (.const (.int .i64 4))) (some (.const (.int .i64 8))) none) (.slice (some ⟨b, o + 4, none⟩) 4 (cap - 4)) rfl (by kernel_rfl) (by kernel_rfl) (by kernel_rfl) (fun _ _ _ h => h) ?hy trivial ?_
    case hy =>
      rintro o' ho w' _
      exact exec_sl w' ho rfl rfl rfl 4 4 rfl (by decide) HCP.out (by decide)
    simp only [Act.put, List.setIfInBounds_toArray, List.set_cons_zero, List.set_cons_succ]
    refine takeT 3 (some 18) (.move (.tmp 0)) (.slice (some ⟨b, o, none⟩) 256 cap) rfl (by kernel_rfl) (by kernel_rfl) (by kernel_rfl) (fun _ _ _ h => h) ?hy trivial ?_
    case hy =>
      rintro o' ho w' _
      go_simp
    simp only [Act.put, List.setIfInBounds_toArray, List.set_cons_zero, List.set_cons_succ]
    refine takeT 4 (some 19) (.slice 25 (.tmp 18) (some (.const (.int .i64 8))) (some (.const (.int .i64 10))) none) (.slice (some ⟨b, o + 8, none⟩) 2 (cap - 8)) rfl (by kernel_rfl) (by kernel_rfl) (by kernel_rfl) (fun _ _ _ h => h) ?hy trivial ?_
    case hy =>
      rintro o' ho w' _
      exact exec_sl w' ho rfl rfl rfl 8 2 rfl (by decide) HCP.out (by decide)
    simp only [Act.put, List.setIfInBounds_toArray, List.set_cons_zero, List.set_cons_succ]
    refine takeT 6 (some 21) (.move (.tmp 0)) (.slice (some ⟨b, o, none⟩) 256 cap) rfl (by kernel_rfl) (by kernel_rfl) (by kernel_rfl) (fun _ _ _ h => h) ?hy trivial ?_
    case hy =>
      rintro o' ho w' _
      go_simp
    simp only [Act.put, List.setIfInBounds_toArray, List.set_cons_zero, List.set_cons_succ]
    refine takeT 7 (some 22) (.slice 25 (.tmp 21) (some (.const (.int .i64 10))) (some (.const (.int .i64 14))) none) (.slice (some ⟨b, o + 10, none⟩) 4 (cap - 10)) rfl (by kernel_rfl) (by kernel_rfl) (by kernel_rfl) (fun _ _ _ h => h) ?hy trivial ?_
    case hy =>
      rintro o' ho w' _
      exact exec_sl w' ho rfl rfl rfl 10 4 rfl (by decide) HCP.out (by decide)
    simp only [Act.put, List.setIfInBounds_toArray, List.set_cons_zero, List.set_cons_succ]
    refine readyT2 2 10 (some 17) (some 4) (.call { callee := .value (.func 42), args := #[.tmp 16], argTypes := #[25] }) (.alloc 24) rfl rfl (by kernel_rfl) ?_ ?_
    · rintro o' K hd ho hgd hK
      refine step_call (enters_of Try.func42 (by kernel_rfl) rfl) ho (vs := #[.slice (some ⟨b, o + 4, none⟩) 4 (cap - 4)]) (by kernel_rfl) (HV.out _ (by repeat (first | exact b1 | apply Below.drew | (refine Below.alloc ?_ (by exact b1.size) _))) 4 4 (by decide) (by decide)) ?_
      rintro e w' ⟨rfl, rfl⟩
      rw [hn1.out]
      refine ⟨_, rfl, ?_⟩
      rw [hd]
      refine hK _ _ trivial ?_
      clear hK ho hd hgd
      simp only [Act.put, List.setIfInBounds_toArray, List.set_cons_zero, List.set_cons_succ]
      refine readyT2 5 10 (some 20) (some 4) (.call { callee := .value (.func 42), args := #[.tmp 19], argTypes := #[25] }) (.alloc 24) rfl rfl (by kernel_rfl) ?_ ?_
      · rintro o' K hd ho hgd hK
        refine step_call (enters_of Try.func42 (by kernel_rfl) rfl) ho (vs := #[.slice (some ⟨b, o + 8, none⟩) 2 (cap - 8)]) (by kernel_rfl) (HV.out _ (by repeat (first | exact b1 | apply Below.drew | (refine Below.alloc ?_ (by exact b1.size) _))) 8 2 (by decide) (by decide)) ?_
        rintro e w' ⟨rfl, rfl⟩
        rw [hn2.out]
        refine ⟨_, rfl, ?_⟩
        rw [hd]
        refine hK _ _ trivial ?_
        clear hK ho hd hgd
        simp only [Act.put, List.setIfInBounds_toArray, List.set_cons_zero, List.set_cons_succ]
        refine readyT2 8 10 (some 23) (some 4) (.call { callee := .value (.func 42), args := #[.tmp 22], argTypes := #[25] }) (.alloc 24) rfl rfl (by kernel_rfl) ?_ ?_
        · rintro o' K hd ho hgd hK
          refine step_call (enters_of Try.func42 (by kernel_rfl) rfl) ho (vs := #[.slice (some ⟨b, o + 10, none⟩) 4 (cap - 10)]) (by kernel_rfl) (HV.out _ (by repeat (first | exact b1 | apply Below.drew | (refine Below.alloc ?_ (by exact b1.size) _))) 10 4 (by decide) (by decide)) ?_
          rintro e w' ⟨rfl, rfl⟩
          rw [hn3.out]
          refine ⟨_, rfl, ?_⟩
          rw [hd]
          refine hK _ _ trivial ?_
          clear hK ho hd hgd
          simp only [Act.put, List.setIfInBounds_toArray, List.set_cons_zero, List.set_cons_succ]
          refine takeT 9 (some 24) (.build 24 #[(0, .tmp 17), (1, .tmp 20), (2, .tmp 23)]) (.agg #[.int .i64 n1, .int .i64 n2, .int .i64 n3, .slice none 0 0]) rfl (by kernel_rfl) (by kernel_rfl) (by kernel_rfl) (fun _ _ _ h => h) ?hy trivial ?_
          case hy =>
            rintro o' ho w' _
            go_simp
          simp only [Act.put, List.setIfInBounds_toArray, List.set_cons_zero, List.set_cons_succ]
          refine readyT 10 (some 4) (.alloc 24) rfl (by kernel_rfl) ?_
          rintro o' K hd ho hgd hK
          refine step_allocS ho ?_
          rw [hd]
          refine hK _ _ trivial ?_
          clear hK ho hd hgd
          simp only [Act.put, List.setIfInBounds_toArray, List.set_cons_zero, List.set_cons_succ]
          refine readyT 11 none (.store 24 (.tmp 4) (.tmp 24)) rfl (by kernel_rfl) ?_
          rintro o' K hd ho hgd hK
          refine wp_store_mid 24 (.tmp 4) (.tmp 24) ho (W1.drew).heap.size 0 #[.int .i64 n1, .int .i64 n2, .int .i64 n3, .slice none 0 0] rfl rfl HTH.out HSI.out (HON.out) ?_
          rw [hd]
          refine hK _ _ trivial ?_
          refine wpAnyH_done (by kernel_rfl) ?_ _
          exact REST
        · rintro o' K hd ho hgd hK
          refine step_allocS ho ?_
          rw [hd]
          refine hK _ _ trivial ?_
          clear hK ho hd hgd
          simp only [Act.put, List.setIfInBounds_toArray, List.set_cons_zero, List.set_cons_succ]
          refine readyT 8 (some 23) (.call { callee := .value (.func 42), args := #[.tmp 22], argTypes := #[25] }) rfl (by kernel_rfl) ?_
          rintro o' K hd ho hgd hK
          refine step_call (enters_of Try.func42 (by kernel_rfl) rfl) ho (vs := #[.slice (some ⟨b, o + 10, none⟩) 4 (cap - 10)]) (by kernel_rfl) (HV.out _ (by repeat (first | exact b1 | apply Below.drew | (refine Below.alloc ?_ (by exact b1.size) _))) 10 4 (by decide) (by decide)) ?_
          rintro e w' ⟨rfl, rfl⟩
          rw [hn3.out]
          refine ⟨_, rfl, ?_⟩
          rw [hd]
          refine hK _ _ trivial ?_
          clear hK ho hd hgd
          simp only [Act.put, List.setIfInBounds_toArray, List.set_cons_zero, List.set_cons_succ]
          refine takeT 9 (some 24) (.build 24 #[(0, .tmp 17), (1, .tmp 20), (2, .tmp 23)]) (.agg #[.int .i64 n1, .int .i64 n2, .int .i64 n3, .slice none 0 0]) rfl (by kernel_rfl) (by kernel_rfl) (by kernel_rfl) (fun _ _ _ h => h) ?hy trivial ?_
          case hy =>
            rintro o' ho w' _
            go_simp
          simp only [Act.put, List.setIfInBounds_toArray, List.set_cons_zero, List.set_cons_succ]
          refine readyT 11 none (.store 24 (.tmp 4) (.tmp 24)) rfl (by kernel_rfl) ?_
          rintro o' K hd ho hgd hK
          refine wp_store_mid 24 (.tmp 4) (.tmp 24) ho (W1.drew).heap.size 0 #[.int .i64 n1, .int .i64 n2, .int .i64 n3, .slice none 0 0] rfl rfl HTH.out HSI.out (HON.out) ?_
          rw [hd]
          refine hK _ _ trivial ?_
          refine wpAnyH_done (by kernel_rfl) ?_ _
          exact REST
      · rintro o' K hd ho hgd hK
        refine step_allocS ho ?_
        rw [hd]
        refine hK _ _ trivial ?_
        clear hK ho hd hgd
        simp only [Act.put, List.setIfInBounds_toArray, List.set_cons_zero, List.set_cons_succ]
        refine readyT 5 (some 20) (.call { callee := .value (.func 42), args := #[.tmp 19], argTypes := #[25] }) rfl (by kernel_rfl) ?_
        rintro o' K hd ho hgd hK
        refine step_call (enters_of Try.func42 (by kernel_rfl) rfl) ho (vs := #[.slice (some ⟨b, o + 8, none⟩) 2 (cap - 8)]) (by kernel_rfl) (HV.out _ (by repeat (first | exact b1 | apply Below.drew | (refine Below.alloc ?_ (by exact b1.size) _))) 8 2 (by decide) (by decide)) ?_
        rintro e w' ⟨rfl, rfl⟩
        rw [hn2.out]
        refine ⟨_, rfl, ?_⟩
        rw [hd]
        refine hK _ _ trivial ?_
        clear hK ho hd hgd
        simp only [Act.put, List.setIfInBounds_toArray, List.set_cons_zero, List.set_cons_succ]
        refine readyT 8 (some 23) (.call { callee := .value (.func 42), args := #[.tmp 22], argTypes := #[25] }) rfl (by kernel_rfl) ?_
        rintro o' K hd ho hgd hK
        refine step_call (enters_of Try.func42 (by kernel_rfl) rfl) ho (vs := #[.slice (some ⟨b, o + 10, none⟩) 4 (cap - 10)]) (by kernel_rfl) (HV.out _ (by repeat (first | exact b1 | apply Below.drew | (refine Below.alloc ?_ (by exact b1.size) _))) 10 4 (by decide) (by decide)) ?_
        rintro e w' ⟨rfl, rfl⟩
        rw [hn3.out]
        refine ⟨_, rfl, ?_⟩
        rw [hd]
        refine hK _ _ trivial ?_
        clear hK ho hd hgd
        simp only [Act.put, List.setIfInBounds_toArray, List.set_cons_zero, List.set_cons_succ]
        refine takeT 9 (some 24) (.build 24 #[(0, .tmp 17), (1, .tmp 20), (2, .tmp 23)]) (.agg #[.int .i64 n1, .int .i64 n2, .int .i64 n3, .slice none 0 0]) rfl (by kernel_rfl) (by kernel_rfl) (by kernel_rfl) (fun _ _ _ h => h) ?hy trivial ?_
        case hy =>
          rintro o' ho w' _
          go_simp
        simp only [Act.put, List.setIfInBounds_toArray, List.set_cons_zero, List.set_cons_succ]
        refine readyT 11 none (.store 24 (.tmp 4) (.tmp 24)) rfl (by kernel_rfl) ?_
        rintro o' K hd ho hgd hK
        refine wp_store_mid 24 (.tmp 4) (.tmp 24) ho (W1.drew).heap.size 0 #[.int .i64 n1, .int .i64 n2, .int .i64 n3, .slice none 0 0] rfl rfl HTH.out HSI.out (HON.out) ?_
        rw [hd]
        refine hK _ _ trivial ?_
        refine wpAnyH_done (by kernel_rfl) ?_ _
        exact REST
    · rintro o' K hd ho hgd hK
      refine step_allocS ho ?_
      rw [hd]
      refine hK _ _ trivial ?_
      clear hK ho hd hgd
      simp only [Act.put, List.setIfInBounds_toArray, List.set_cons_zero, List.set_cons_succ]
      refine readyT 2 (some 17) (.call { callee := .value (.func 42), args := #[.tmp 16], argTypes := #[25] }) rfl (by kernel_rfl) ?_
      rintro o' K hd ho hgd hK
      refine step_call (enters_of Try.func42 (by kernel_rfl) rfl) ho (vs := #[.slice (some ⟨b, o + 4, none⟩) 4 (cap - 4)]) (by kernel_rfl) (HV.out _ (by repeat (first | exact b1 | apply Below.drew | (refine Below.alloc ?_ (by exact b1.size) _))) 4 4 (by decide) (by decide)) ?_
      rintro e w' ⟨rfl, rfl⟩
      rw [hn1.out]
      refine ⟨_, rfl, ?_⟩
      rw [hd]
      refine hK _ _ trivial ?_
      clear hK ho hd hgd
      simp only [Act.put, List.setIfInBounds_toArray, List.set_cons_zero, List.set_cons_succ]
      refine readyT 5 (some 20) (.call { callee := .value (.func 42), args := #[.tmp 19], argTypes := #[25] }) rfl (by kernel_rfl) ?_
      rintro o' K hd ho hgd hK
      refine step_call (enters_of Try.func42 (by kernel_rfl) rfl) ho (vs := #[.slice (some ⟨b, o + 8, none⟩) 2 (cap - 8)]) (by kernel_rfl) (HV.out _ (by repeat (first | exact b1 | apply Below.drew | (refine Below.alloc ?_ (by exact b1.size) _))) 8 2 (by decide) (by decide)) ?_
      rintro e w' ⟨rfl, rfl⟩
      rw [hn2.out]
      refine ⟨_, rfl, ?_⟩
      rw [hd]
      refine hK _ _ trivial ?_
      clear hK ho hd hgd
      simp only [Act.put, List.setIfInBounds_toArray, List.set_cons_zero, List.set_cons_succ]
      refine readyT 8 (some 23) (.call { callee := .value (.func 42), args := #[.tmp 22], argTypes := #[25] }) rfl (by kernel_rfl) ?_
      rintro o' K hd ho hgd hK
      refine step_call (enters_of Try.func42 (by kernel_rfl) rfl) ho (vs := #[.slice (some ⟨b, o + 10, none⟩) 4 (cap - 10)]) (by kernel_rfl) (HV.out _ (by repeat (first | exact b1 | apply Below.drew | (refine Below.alloc ?_ (by exact b1.size) _))) 10 4 (by decide) (by decide)) ?_
      rintro e w' ⟨rfl, rfl⟩
      rw [hn3.out]
      refine ⟨_, rfl, ?_⟩
      rw [hd]
      refine hK _ _ trivial ?_
      clear hK ho hd hgd
      simp only [Act.put, List.setIfInBounds_toArray, List.set_cons_zero, List.set_cons_succ]
      refine takeT 9 (some 24) (.build 24 #[(0, .tmp 17), (1, .tmp 20), (2, .tmp 23)]) (.agg #[.int .i64 n1, .int .i64 n2, .int .i64 n3, .slice none 0 0]) rfl (by kernel_rfl) (by kernel_rfl) (by kernel_rfl) (fun _ _ _ h => h) ?hy trivial ?_
      case hy =>
        rintro o' ho w' _
        go_simp
      simp only [Act.put, List.setIfInBounds_toArray, List.set_cons_zero, List.set_cons_succ]
      refine readyT 11 none (.store 24 (.tmp 4) (.tmp 24)) rfl (by kernel_rfl) ?_
      rintro o' K hd ho hgd hK
      refine wp_store_mid 24 (.tmp 4) (.tmp 24) ho (W1.drew).heap.size 0 #[.int .i64 n1, .int .i64 n2, .int .i64 n3, .slice none 0 0] rfl rfl HTH.out HSI.out (HON.out) ?_
      rw [hd]
      refine hK _ _ trivial ?_
      refine wpAnyH_done (by kernel_rfl) ?_ _
      exact REST
  case rest =>
    have E3 : Below w.heap.size w (W1.drew.alloc (.cells #[.int .i64 0, .int .i64 0, .int .i64 0, .slice none 0 0] 24)) := (b1.drew).alloc (by exact b1.size) _
    have T3 : Tch (fun j => j = (W1.drew).heap.size) (W1.drew.alloc (.cells #[.int .i64 0, .int .i64 0, .int .i64 0, .slice none 0 0] 24)) ((W1.drew.alloc (.cells #[.int .i64 0, .int .i64 0, .int .i64 0, .slice none 0 0] 24)).setCells (W1.drew).heap.size 0 [.int .i64 n1, .int .i64 n2, .int .i64 n3, .slice none 0 0]) := setCells_tchD _ _ 0 _
    have Q2 : Uv (W1.drew.alloc (.cells #[.int .i64 0, .int .i64 0, .int .i64 0, .slice none 0 0] 24)) w.heap.size sp0 (.slice none 0 0) := Q1.out.below (w' := W1.drew.alloc (.cells #[.int .i64 0, .int .i64 0, .int .i64 0, .slice none 0 0] 24)) ((Below.refl W1.heap.size W1).drew.alloc (by exact Nat.le_refl _) _)
    have U3' : Uv ((W1.drew.alloc (.cells #[.int .i64 0, .int .i64 0, .int .i64 0, .slice none 0 0] 24)).setCells (W1.drew).heap.size 0 [.int .i64 n1, .int .i64 n2, .int .i64 n3, .slice none 0 0]) (W1.drew).heap.size ⟨n1, n2, n3, []⟩ (.slice none 0 0) := U2.out.put ⟨n1, n2, n3, []⟩ (.slice none 0 0)
    obtain ⟨W3, hW3⟩ : ∃ W3, (W1.drew.alloc (.cells #[.int .i64 0, .int .i64 0, .int .i64 0, .slice none 0 0] 24)).setCells (W1.drew).heap.size 0 [.int .i64 n1, .int .i64 n2, .int .i64 n3, .slice none 0 0] = W3 := ⟨_, rfl⟩
    obtain ⟨q, hq⟩ : ∃ q, (W1.drew).heap.size = q := ⟨_, rfl⟩
    have hq2 : W1.heap.size = q := hq
    have hgq : w.heap.size < q := by rw [← hq2]; exact Q1.out.lt
    rw [hW3, hq] at U3' T3
    change Exit.then _ _ Exit.normal _ ((W1.drew.alloc (.cells #[.int .i64 0, .int .i64 0, .int .i64 0, .slice none 0 0] 24)).setCells (W1.drew).heap.size 0 [.int .i64 n1, .int .i64 n2, .int .i64 n3, .slice none 0 0])
    rw [hW3, hq2]
    simp only [Act.put]
    have U3 : Hid (Uv W3 q ⟨n1, n2, n3, []⟩ (.slice none 0 0)) := U3'
    obtain ⟨g, hg⟩ : ∃ g, Hid (w.heap.size = g) := ⟨_, rfl⟩
    rw [hg.out] at hgq
    have Q3 : Hid (Uv W3 g sp0 (.slice none 0 0)) := by
      rw [hg.out] at Q2
      exact Q2.tch T3 (by omega)
    have B3 : Hid (Below w.heap.size w W3) := E3.trans (T3.below (by exact E3.size) (fun k e => by rw [e, hg.out]; omega))
    have HQ3 : Hid (q < W3.heap.size) := U3'.lt
    have HGQ : Hid (g < q) := hgq
    have HC14 : Hid (∀ W, Below w.heap.size w W → W.cell? ⟨b, o + 14, none⟩ = some (.int .u8 (L : Int))) := fun W hW => by rw [HCL.out W hW 14 (by rw [HL.out]; decide), HL14.out]
    have hL256 : L < 256 := by have := HBY.out 14; have := HL14.out; omega
    rw [hg.out]
    clear U2 U3' Q1 Q2 E3 T3 hW3 hq hq2 HTH HON HSI hW1 B1 b1 c4 c8 c10 hgq
    have c14 := HC14.out W3 B3.out
    by_cases hL8 : L ≤ 8
    · have hL8i : decide ((L : Int) > 8) = false := by rw [decide_eq_false_iff_not]; omega
      have hL8j : ¬ (L : Int) > 8 := by omega
      go_wp2_with fail
      go_loopw [6] (fun i wr => ∃ (k : Nat) (vv : Value), k ≤ L ∧ i = .int .i64 k ∧ Hid (OwnsV wr vv (rdVs (fun x => x == 1) xs k)) ∧ Hid (Uv wr q ⟨n1, n2, n3, []⟩ vv) ∧ Hid (Uv wr g sp0 (.slice none 0 0)) ∧ Hid (Below w.heap.size w wr ∧ W3.heap.size ≤ wr.heap.size) ∧ Hid (∀ j, vv.ownBlock = some j → W3.heap.size ≤ j)) (fun i _ => L - (intOf i).toNat)
      case atStart => exact ⟨0, .slice none 0 0, Nat.zero_le _, rfl, ownsV_nil _, U3, Q3, ⟨B3.out, Nat.le_refl _⟩, fun j hj => by cases hj⟩
      case round =>
        clear U3 Q3 B3 c14
        obtain ⟨k, vv, hk, rfl, OV, UV, QV, BV, NV⟩ := hrel
        by_cases hlt : k < L
        · have hkL : (k : Int) < (L : Int) := by omega
          obtain ⟨p1, hp⟩ : ∃ m, 11 * k = m := ⟨_, rfl⟩
          have hm1 : 11 * (k : Int) = (p1 : Int) := by omega
          obtain ⟨p, hpp⟩ : ∃ p, 15 + p1 = p := ⟨_, rfl⟩
          have hp1 : 15 + (p1 : Int) = (p : Int) := by omega
          obtain ⟨r, hrr⟩ : ∃ r, p + 11 = r := ⟨_, rfl⟩
          have hr1 : 26 + (p1 : Int) = (r : Int) := by omega
          have hp2 : p ≤ 92 := by omega
          have HPK : Hid (15 + 11 * k = p) := by show _ = _; omega
          have HRP : Hid (((p : Int), (r : Int)) = ((p : Int), ((p + 11 : Nat) : Int))) := by rw [hrr]; exact rfl
          have HPC : Hid (p + 11 ≤ cap ∧ p < cap) := by have := HCP.out; exact ⟨by omega, by omega⟩
          have hw1 : (p1 : Int) ≤ 77 := by omega
          have hw2 : (p : Int) ≤ 92 := by omega
          have hw3 : (r : Int) ≤ 103 := by omega
          clear hp hpp hrr
          obtain ⟨B, hB⟩ : ∃ B, Hid (xs.getD (p + 10) 0 = B) := ⟨_, rfl⟩
          obtain ⟨a1, ha1⟩ : ∃ n, Hid (vN (sl xs p 4) = n) := ⟨_, rfl⟩
          obtain ⟨a2, ha2⟩ : ∃ n, Hid (vN (sl xs (p + 4) 2) = n) := ⟨_, rfl⟩
          obtain ⟨a3, ha3⟩ : ∃ n, Hid (vN (sl xs (p + 6) 4) = n) := ⟨_, rfl⟩
          have hbw : b < w.heap.size := World.block_lt_of_cell? w ⟨b, o + 0, none⟩ (HCL.out w (Below.refl _ _) 0 (by rw [HL.out]; decide))
          have hcB : ∀ W, Below w.heap.size w W → W.cell? ⟨b, o + p + 10, none⟩ = some (.int .u8 B) := fun W hW => by rw [Nat.add_assoc, HCL.out W hW (p + 10) (by rw [HL.out]; omega), hB.out]
          have HXN : Hid (rdVs (fun x => x == 1) xs k ++ [⟨a1, a2, a3, B == 1⟩] = rdVs (fun x => x == 1) xs (k + 1)) := by
            show _ = _
            rw [rdVs_succ, HPK.out, ← ha1.out, ← ha2.out, ← ha3.out, ← hB.out]
            rfl
          have hBd : Below wr.heap.size wr (wr.drew.alloc (.cells #[.int .i64 a1, .int .i64 a2, .int .i64 a3, .bool (B == 1)] 66)) := (Below.refl wr.heap.size wr).drew.alloc (by exact Nat.le_refl _) _
          have hS : wr.drew.cell? ⟨q, 3, none⟩ = some vv ∧ wr.drew.cell? ⟨b, o + p + 10, none⟩ = some (.int .u8 B) := ⟨UV.out.c3, hcB wr BV.out.1⟩
          have UW : Uv (wr.drew.alloc (.cells #[.int .i64 a1, .int .i64 a2, .int .i64 a3, .bool (B == 1)] 66)) q ⟨n1, n2, n3, []⟩ vv := UV.out.below hBd
          have QW : Uv (wr.drew.alloc (.cells #[.int .i64 a1, .int .i64 a2, .int .i64 a3, .bool (B == 1)] 66)) g sp0 (.slice none 0 0) := QV.out.below hBd
          have BW : Below w.heap.size w (wr.drew.alloc (.cells #[.int .i64 a1, .int .i64 a2, .int .i64 a3, .bool (B == 1)] 66)) := BV.out.1.trans (hBd.mono BV.out.1.size)
          have hS2 : (wr.drew.alloc (.cells #[.int .i64 a1, .int .i64 a2, .int .i64 a3, .bool (B == 1)] 66)).cell? ⟨q, 3, none⟩ = some vv ∧ (wr.drew.alloc (.cells #[.int .i64 a1, .int .i64 a2, .int .i64 a3, .bool (B == 1)] 66)).cell? ⟨b, o + p + 10, none⟩ = some (.int .u8 B) := ⟨UW.c3, hcB _ BW⟩
          have HOV : Hid (OwnsV (wr.drew.alloc (.cells #[.int .i64 a1, .int .i64 a2, .int .i64 a3, .bool (B == 1)] 66)) vv (rdVs (fun x => x == 1) xs k)) := OV.out.below hBd
          have HVC : Hid (VCell (wr.drew.alloc (.cells #[.int .i64 a1, .int .i64 a2, .int .i64 a3, .bool (B == 1)] 66)) wr.drew.heap.size 0 ⟨a1, a2, a3, B == 1⟩) := (vv_new wr.drew ⟨a1, a2, a3, B == 1⟩).cells
          have HLV : Hid ((rdVs (fun x => x == 1) xs k).length ≤ 1000) := by show _ ≤ _; rw [rdVs_len]; omega
          have HSZ : (wr.drew.alloc (.cells #[.int .i64 a1, .int .i64 a2, .int .i64 a3, .bool (B == 1)] 66)).heap.size = wr.heap.size + 1 := by simp
          have HPOST : Hid (∀ v5 w5, OwnsV w5 v5 (rdVs (fun x => x == 1) xs k ++ [⟨a1, a2, a3, B == 1⟩]) → (wr.drew.alloc (.cells #[.int .i64 a1, .int .i64 a2, .int .i64 a3, .bool (B == 1)] 66)).grownBy w5 vv.ownBlock → (v5.ownBlock = vv.ownBlock ∨ v5.ownBlock = some (wr.drew.alloc (.cells #[.int .i64 a1, .int .i64 a2, .int .i64 a3, .bool (B == 1)] 66)).heap.size) →
              w5.cell? ⟨q, 3, none⟩ = some vv ∧ w5.cell? ⟨b, o + p + 10, none⟩ = some (.int .u8 B) ∧ w5.frozen? ⟨q, 3, none⟩ = false ∧ Hid (OwnsV (w5.setCell ⟨q, 3, none⟩ v5) v5 (rdVs (fun x => x == 1) xs (k + 1)) ∧ Uv (w5.setCell ⟨q, 3, none⟩ v5) q ⟨n1, n2, n3, []⟩ v5 ∧ Uv (w5.setCell ⟨q, 3, none⟩ v5) g sp0 (.slice none 0 0) ∧ (Below w.heap.size w (w5.setCell ⟨q, 3, none⟩ v5) ∧ W3.heap.size ≤ (w5.setCell ⟨q, 3, none⟩ v5).heap.size) ∧ ∀ j, v5.ownBlock = some j → W3.heap.size ≤ j)) := fun v5 w5 ho5 hg5 hf5 => by
            have h3 := BV.out.2
            have hqs := HQ3.out
            have hgq := HGQ.out
            have t5 : Tch (fun j => vv.ownBlock = some j) (wr.drew.alloc (.cells #[.int .i64 a1, .int .i64 a2, .int .i64 a3, .bool (B == 1)] 66)) w5 := (Tch.refl _ _).grown hg5 (fun _ _ e => e)
            have nq : ∀ j, vv.ownBlock = some j → W3.heap.size ≤ j := NV.out
            have U5 : Uv w5 q ⟨n1, n2, n3, []⟩ vv := UW.tch t5 (fun e => by have := nq q e; omega)
            have Q5 : Uv w5 g sp0 (.slice none 0 0) := QW.tch t5 (fun e => by have := nq g e; omega)
            have B5 : Below w.heap.size w w5 := BW.trans (t5.below BW.size (fun j e => by have := nq j e; have := hg.out; omega))
            have n5 : ∀ j, v5.ownBlock = some j → W3.heap.size ≤ j := fun j hj => by
              rcases hf5 with e | e
              · exact nq j (by rw [← e]; exact hj)
              · rw [hj] at e
                simp only [Option.some.injEq] at e
                rw [e, HSZ]
                omega
            have ts := tchU_set w5 q 3 v5
            refine ⟨U5.c3, hcB w5 B5, U5.fz 3, ?_, U5.set3 v5, Q5.tch ts (by omega), ⟨B5.trans (ts.below B5.size (fun j e => by rw [e]; have := hg.out; omega)), ?_⟩, n5⟩
            · rw [← HXN.out]
              exact ho5.tch ts (fun j hj e => by have := n5 j hj; have e2 : j = q := e; omega)
            · have h6 := t5.size
              have h7 := ts.size
              rw [HSZ] at h6
              omega
          obtain ⟨va, vn, vc, hvv⟩ := OV.out.sh
          subst hvv
          clear HXN hBd UW QW BW HSZ hcB hbw OV UV QV NV
          go_wp2_with (with_reducible (show wpList _ _ _ (Oper.mk _ (Op.slice _ _ _ _ _) _ _ _ _ :: _) _ _); refine wpList_slU _ rfl rfl rfl rfl rfl p 11 HRP.out HPC.out.1 HPC.out.2 ?_)
          generalize hvvg : Value.slice va vn vc = vv at *
          refine beginW (S := fun w' => w'.cell? ⟨q, 3, none⟩ = some vv ∧ w'.cell? ⟨b, o + p + 10, none⟩ = some (.int .u8 B)) (t := 19) (by kernel_rfl) ?_
          refine takeW 0 (some 45) (.fieldAddr 24 (.tmp 4) 3) (.pointer (some ⟨q, 3, none⟩)) rfl rfl (by kernel_rfl) (by kernel_rfl) (by kernel_rfl) (by kernel_rfl) (fun _ _ _ h => h) ?hy hS ?_
          case hy =>
            rintro o' ho w' ⟨hS1, hS2⟩
            go_simp
          simp only [Act.put, List.setIfInBounds_toArray, List.set_cons_zero, List.set_cons_succ]
          refine takeW 1 (some 46) (.load 22 (.tmp 45)) (vv) rfl rfl (by kernel_rfl) (by kernel_rfl) (by kernel_rfl) (by kernel_rfl) (fun _ _ _ h => h) ?hy hS ?_
          case hy =>
            rintro o' ho w' ⟨hS1, hS2⟩
            go_simp
          simp only [Act.put, List.setIfInBounds_toArray, List.set_cons_zero, List.set_cons_succ]
          refine takeW 2 (some 47) (.move (.tmp 7)) ((.slice (some ⟨b, o + p, none⟩) 11 (cap - p))) rfl rfl (by kernel_rfl) (by kernel_rfl) (by kernel_rfl) (by kernel_rfl) (fun _ _ _ h => h) ?hy hS ?_
          case hy =>
            rintro o' ho w' ⟨hS1, hS2⟩
            go_simp
          simp only [Act.put, List.setIfInBounds_toArray, List.set_cons_zero, List.set_cons_succ]
          refine takeW 3 (some 48) (.slice 25 (.tmp 47) none (some (.const (.int .i64 4))) none) (.slice (some ⟨b, o + p, none⟩) 4 (cap - p)) rfl rfl (by kernel_rfl) (by kernel_rfl) (by kernel_rfl) (by kernel_rfl) (fun _ _ _ h => h) ?hy hS ?_
          case hy =>
            rintro o' ho w' ⟨hS1, hS2⟩
            exact exec_slH w' ho rfl rfl 4 rfl (by have := HPC.out; omega)
          simp only [Act.put, List.setIfInBounds_toArray, List.set_cons_zero, List.set_cons_succ]
          refine takeW 5 (some 50) (.move (.tmp 7)) ((.slice (some ⟨b, o + p, none⟩) 11 (cap - p))) rfl rfl (by kernel_rfl) (by kernel_rfl) (by kernel_rfl) (by kernel_rfl) (fun _ _ _ h => h) ?hy hS ?_
          case hy =>
            rintro o' ho w' ⟨hS1, hS2⟩
            go_simp
          simp only [Act.put, List.setIfInBounds_toArray, List.set_cons_zero, List.set_cons_succ]
          refine takeW 6 (some 51) (.slice 25 (.tmp 50) (some (.const (.int .i64 4))) (some (.const (.int .i64 6))) none) (.slice (some ⟨b, o + (p + 4), none⟩) 2 (cap - (p + 4))) rfl rfl (by kernel_rfl) (by kernel_rfl) (by kernel_rfl) (by kernel_rfl) (fun _ _ _ h => h) ?hy hS ?_
          case hy =>
            rintro o' ho w' ⟨hS1, hS2⟩
            exact exec_slG2 (o := o + p) (cap := cap - p) w' ho rfl rfl rfl 4 2 rfl (by have := HPC.out; omega) (by have := HPC.out; omega) (by omega) (by omega)
          simp only [Act.put, List.setIfInBounds_toArray, List.set_cons_zero, List.set_cons_succ]
          refine takeW 8 (some 53) (.move (.tmp 7)) ((.slice (some ⟨b, o + p, none⟩) 11 (cap - p))) rfl rfl (by kernel_rfl) (by kernel_rfl) (by kernel_rfl) (by kernel_rfl) (fun _ _ _ h => h) ?hy hS ?_
          case hy =>
            rintro o' ho w' ⟨hS1, hS2⟩
            go_simp
          simp only [Act.put, List.setIfInBounds_toArray, List.set_cons_zero, List.set_cons_succ]
          refine takeW 9 (some 54) (.slice 25 (.tmp 53) (some (.const (.int .i64 6))) (some (.const (.int .i64 10))) none) (.slice (some ⟨b, o + (p + 6), none⟩) 4 (cap - (p + 6))) rfl rfl (by kernel_rfl) (by kernel_rfl) (by kernel_rfl) (by kernel_rfl) (fun _ _ _ h => h) ?hy hS ?_
          case hy =>
            rintro o' ho w' ⟨hS1, hS2⟩
            exact exec_slG2 (o := o + p) (cap := cap - p) w' ho rfl rfl rfl 6 4 rfl (by have := HPC.out; omega) (by have := HPC.out; omega) (by omega) (by omega)
          simp only [Act.put, List.setIfInBounds_toArray, List.set_cons_zero, List.set_cons_succ]
          refine takeW 11 (some 56) (.move (.tmp 7)) ((.slice (some ⟨b, o + p, none⟩) 11 (cap - p))) rfl rfl (by kernel_rfl) (by kernel_rfl) (by kernel_rfl) (by kernel_rfl) (fun _ _ _ h => h) ?hy hS ?_
          case hy =>
            rintro o' ho w' ⟨hS1, hS2⟩
            go_simp
          simp only [Act.put, List.setIfInBounds_toArray, List.set_cons_zero, List.set_cons_succ]
          refine takeW 12 (some 57) (.indexAddr 25 (.tmp 56) (.const (.int .i64 10))) (.pointer (some ⟨b, o + p + 10, none⟩)) rfl rfl (by kernel_rfl) (by kernel_rfl) (by kernel_rfl) (by kernel_rfl) (fun _ _ _ h => h) ?hy hS ?_
          case hy =>
            rintro o' ho w' ⟨hS1, hS2⟩
            go_simp
          simp only [Act.put, List.setIfInBounds_toArray, List.set_cons_zero, List.set_cons_succ]
          refine takeW 13 (some 58) (.load 5 (.tmp 57)) (.int .u8 B) rfl rfl (by kernel_rfl) (by kernel_rfl) (by kernel_rfl) (by kernel_rfl) (fun _ _ _ h => h) ?hy hS ?_
          case hy =>
            rintro o' ho w' ⟨hS1, hS2⟩
            go_simp
          simp only [Act.put, List.setIfInBounds_toArray, List.set_cons_zero, List.set_cons_succ]
          refine takeW 14 (some 59) (.binOp .eql 5 (.tmp 58) (.const (.int .u8 1)) 5) (.bool (B == 1)) rfl rfl (by kernel_rfl) (by kernel_rfl) (by kernel_rfl) (by kernel_rfl) (fun _ _ _ h => h) ?hy hS ?_
          case hy =>
            rintro o' ho w' ⟨hS1, hS2⟩
            go_simp
          simp only [Act.put, List.setIfInBounds_toArray, List.set_cons_zero, List.set_cons_succ]
          refine readyW 4 (some 49) (.call { callee := .value (.func 42), args := #[.tmp 48], argTypes := #[25] }) rfl (by kernel_rfl) ?_
          rintro o' K hd ho hgd hK
          refine step_call (enters_of Try.func42 (by kernel_rfl) rfl) ho (vs := #[.slice (some ⟨b, o + p, none⟩) 4 (cap - p)]) (by kernel_rfl) (HV.out _ BV.out.1.drew p 4 (by omega) (by decide)) ?_
          rintro e w' ⟨rfl, rfl⟩
          rw [ha1.out]
          refine ⟨_, rfl, ?_⟩
          rw [hd]
          refine hK _ _ (fun _ => hS) ?_
          clear hK ho hd hgd
          simp only [Act.put, List.setIfInBounds_toArray, List.set_cons_zero, List.set_cons_succ]
          refine readyW 7 (some 52) (.call { callee := .value (.func 42), args := #[.tmp 51], argTypes := #[25] }) rfl (by kernel_rfl) ?_
          rintro o' K hd ho hgd hK
          refine step_call (enters_of Try.func42 (by kernel_rfl) rfl) ho (vs := #[.slice (some ⟨b, o + (p + 4), none⟩) 2 (cap - (p + 4))]) (by kernel_rfl) (HV.out _ BV.out.1.drew (p + 4) 2 (by omega) (by decide)) ?_
          rintro e w' ⟨rfl, rfl⟩
          rw [ha2.out]
          refine ⟨_, rfl, ?_⟩
          rw [hd]
          refine hK _ _ (fun _ => hS) ?_
          clear hK ho hd hgd
          simp only [Act.put, List.setIfInBounds_toArray, List.set_cons_zero, List.set_cons_succ]
          refine readyW 10 (some 55) (.call { callee := .value (.func 42), args := #[.tmp 54], argTypes := #[25] }) rfl (by kernel_rfl) ?_
          rintro o' K hd ho hgd hK
          refine step_call (enters_of Try.func42 (by kernel_rfl) rfl) ho (vs := #[.slice (some ⟨b, o + (p + 6), none⟩) 4 (cap - (p + 6))]) (by kernel_rfl) (HV.out _ BV.out.1.drew (p + 6) 4 (by omega) (by decide)) ?_
          rintro e w' ⟨rfl, rfl⟩
          rw [ha3.out]
          refine ⟨_, rfl, ?_⟩
          rw [hd]
          refine hK _ _ (fun _ => hS) ?_
          clear hK ho hd hgd
          simp only [Act.put, List.setIfInBounds_toArray, List.set_cons_zero, List.set_cons_succ]
          refine takeW 15 (some 60) (.build 66 #[(0, .tmp 49), (1, .tmp 52), (2, .tmp 55), (3, .tmp 59)]) (.agg #[.int .i64 a1, .int .i64 a2, .int .i64 a3, .bool (B == 1)]) rfl rfl (by kernel_rfl) (by kernel_rfl) (by kernel_rfl) (by kernel_rfl) (fun _ _ _ h => h) ?hy hS ?_
          case hy =>
            rintro o' ho w' ⟨hS1, hS2⟩
            go_simp
          simp only [Act.put, List.setIfInBounds_toArray, List.set_cons_zero, List.set_cons_succ]
          refine readyW 16 (some 61) (.buildSlice 22 1 #[(0, .tmp 60)]) rfl (by kernel_rfl) ?_
          rintro o' K hd ho hgd hK
          refine step_buildVn (.tmp 60) ho ⟨a1, a2, a3, B == 1⟩ rfl ?_
          rw [hd]
          refine hK _ _ (fun _ => hS2) ?_
          clear hK ho hd hgd
          simp only [Act.put, List.setIfInBounds_toArray, List.set_cons_zero, List.set_cons_succ]
          refine readyW 17 (some 62) (.call { callee := .builtin .append, args := #[.tmp 46, .tmp 61], argTypes := #[22, 22] }) rfl (by kernel_rfl) ?_
          rintro o' K hd ho hgd hK
          refine step_appVn (w := wr.drew.alloc (.cells #[.int .i64 a1, .int .i64 a2, .int .i64 a3, .bool (B == 1)] 66)) (.tmp 46) (.tmp 61) ho vv _ rfl HOV.out wr.drew.heap.size ⟨a1, a2, a3, B == 1⟩ rfl HVC.out HLV.out ?_
          intro v5 w5 ho5 hg5 hf5
          obtain ⟨k5, z5, f5, fin⟩ := HPOST.out v5 w5 ho5 hg5 hf5
          obtain ⟨va5, vn5, vc5, rfl⟩ := ho5.sh
          clear ho5 hg5 hf5
          rw [hd]
          refine hK _ _ (fun _ => ⟨k5, z5⟩) ?_
          clear hK ho hd hgd
          simp only [Act.put, List.setIfInBounds_toArray, List.set_cons_zero, List.set_cons_succ]
          refine readyW 18 (some 63) (.fieldAddr 24 (.tmp 4) 3) rfl (by kernel_rfl) ?_
          rintro o' K hd ho hgd hK
          refine stepY (v := Value.pointer (some ⟨q, 3, none⟩)) ?hy ?_
          case hy => go_simp
          rw [hd]
          refine hK _ _ (fun _ => ⟨k5, z5⟩) ?_
          clear hK ho hd hgd
          simp only [Act.put, List.setIfInBounds_toArray, List.set_cons_zero, List.set_cons_succ]
          refine readyW 19 none (.store 22 (.tmp 63) (.tmp 62)) rfl (by kernel_rfl) ?_
          rintro o' K hd ho hgd hK
          refine step_store1U (.tmp 63) (.tmp 62) ho q 3 _ rfl rfl (by kernel_rfl) rfl rfl k5 f5 ?_
          rw [hd]
          refine hK _ _ (fun e => absurd rfl e) ?_
          refine doneW (by kernel_rfl) ?_ _
          clear hK ho hd hgd
          simp only [Act.put]
          obtain ⟨F1, F2, F3, F4, F5⟩ := fin.out
          have OF := hideP F1
          have UF := hideP F2
          have QF := hideP F3
          have BF := hideP F4
          have NF := hideP F5
          clear F1 F2 F3 F4 F5 fin k5 z5 f5 hS hS2 HOV HVC HPOST HLV
          go_wp2_with fail
          go_roundw
          case rel => exact ⟨k + 1, _, by omega, by go_num, OF, UF, QF, BF, NF⟩
          case measure => simp [intOf]; omega
        · have hkL : ¬ (k : Int) < (L : Int) := by omega
          have hk2 : k = L := by omega
          rw [hk2] at OV
          obtain ⟨T, hT⟩ : ∃ T, rdS (fun x => x == 1) xs L = T := ⟨_, rfl⟩
          have hTv : rdVs (fun x => x == 1) xs L = T.vs := by rw [← hT]; rfl
          have HTG : Hid (n1 = T.gen ∧ n2 = T.sc ∧ n3 = T.nx) := by rw [← hT, ← hn1.out, ← hn2.out, ← hn3.out]; exact ⟨rfl, rfl, rfl⟩
          have HGU : Hid (getU xs = if mayU T = true ∧ xs = usec T then some T else none) := by
            show _ = _
            rw [← hT]
            exact getU_rd (f := fun x => x == 1) rfl rfl HBY.out (.inl HL14.out.symm)
          rw [hTv] at OV
          obtain ⟨va, vc, hvv, hv1, hv2, _⟩ := id OV.out.rd
          subst hvv
          have RV : Hid (RdV wr (.slice va T.vs.length vc) T.vs) := OV.out.rd
          have HPU := hideP (refPutU_any T (.slice va T.vs.length vc) wr RV.out)
          have BW : Hid (Below w.heap.size w wr) := BV.out.1
          have HRX : Hid (∀ W, Below w.heap.size w W → Rd .u8 W (.slice (some ⟨b, o, none⟩) 256 cap) xs) := fun W hW => ⟨_, cap, by rw [HL.out], by rw [HL.out]; exact HCP.out, HCM.out, (fun e => by cases e), .inr ⟨b, o, rfl, fun i hi => HCL.out W hW i hi⟩⟩
          have u0 := UV.out.c0
          have u1 := UV.out.c1
          have u2 := UV.out.c2
          have u3 := UV.out.c3
          dsimp only at u0 u1 u2
          unfold supv at HPU
          rw [← HTG.out.1, ← HTG.out.2.1, ← HTG.out.2.2] at HPU
          obtain ⟨l, hl⟩ : ∃ l, Hid (T.vs.length = l) := ⟨_, rfl⟩
          rw [hl.out] at HPU u3 RV UV NV
          clear OV BV hT hTv hk2 hlt hv1 hv2
          go_wp2_with fail
          refine HPU.out.mono ?_
          rintro e w4 ⟨v4, c4, rfl, b4, n4, h4⟩
          have U4 : Hid (Uv w4 q ⟨n1, n2, n3, []⟩ (.slice va l vc)) := UV.out.below b4
          have Q4 : Hid (Uv w4 g sp0 (.slice none 0 0)) := QV.out.below b4
          have B4 : Hid (Below w.heap.size w w4) := BW.out.trans (b4.mono BW.out.size)
          have R4 : Hid (RdV w4 (.slice va l vc) T.vs) := RV.out.below b4
          rcases h4 with ⟨hm, rfl, o4⟩ | ⟨hm, rfl, rfl⟩
          · obtain ⟨g4, cp4, hv4, _⟩ := o4.shape (by rw [usec_len (mayU_iff.1 hm).1.2.2.2.2.2.2]; decide)
            rw [usec_len (mayU_iff.1 hm).1.2.2.2.2.2.2] at hv4
            subst hv4
            have HS := hideP (same_rd _ _ (usec T) xs w4 o4.rd (HRX.out w4 B4.out))
            by_cases he : xs = usec T
            · have HE : Hid (getU xs = some T) := by show _ = _; rw [HGU.out, if_pos ⟨hm, he⟩]
              rw [decide_eq_true he.symm] at HS
              clear hm he b4 n4 o4 UV QV RV HPU u0 u1 u2 u3 HGU
              go_wp2_with fail
              refine HS.out.mono ?_
              rintro e w5 ⟨rfl, b5⟩
              have U5 : Hid (Uv w5 q ⟨n1, n2, n3, []⟩ (.slice va l vc)) := U4.out.below b5
              have Q5 : Hid (Uv w5 g sp0 (.slice none 0 0)) := Q4.out.below b5
              have B5 : Hid (Below w.heap.size w w5) := B4.out.trans (b5.mono B4.out.size)
              have R5 : Hid (RdV w5 (.slice va l vc) T.vs) := R4.out.below b5
              have u0 : w5.cell? ⟨q, 0, none⟩ = some (.int .i64 n1) := U5.out.c0
              have u1 : w5.cell? ⟨q, 1, none⟩ = some (.int .i64 n2) := U5.out.c1
              have u2 : w5.cell? ⟨q, 2, none⟩ = some (.int .i64 n3) := U5.out.c2
              have u3 := U5.out.c3
              clear b5 U4 Q4 B4 R4 HS
              have q0 : w5.cell? ⟨g, 0, none⟩ = some (.int .i64 0) := Q5.out.c0
              have q1 : w5.cell? ⟨g, 1, none⟩ = some (.int .i64 0) := Q5.out.c1
              have q2 : w5.cell? ⟨g, 2, none⟩ = some (.int .i64 0) := Q5.out.c2
              have q3 := Q5.out.c3
              have f0 := Q5.out.fz 0
              have f1 := Q5.out.fz 1
              have f2 := Q5.out.fz 2
              have f3 := Q5.out.fz 3
              have HLD := hideP (Q5.out.put T (.slice va l vc)).load
              have HTS := hideP (Q5.out.tset T (.slice va l vc))
              rw [← HTG.out.1, ← HTG.out.2.1, ← HTG.out.2.2] at HLD HTS
              have HBE := hideP (B5.out.trans (HTS.out.below B5.out.size (fun k e => by rw [e, hg.out]; exact Nat.le_refl _)))
              have HRE := hideP (R5.out.tch HTS.out (fun j hj e => by have e2 : j = g := e; have := NV.out j hj; have := HQ3.out; have := HGQ.out; omega))
              clear R5
              go_wp2_with fail
              refine bodyPost_ret (v := .tuple #[supv T (.slice va l vc), .bool true]) (results_cellV (p := 2) (ty := 24) rfl _ _ _ g _ _ rfl HLD.out rfl) rfl ?_
              exact ⟨_, by rw [HE.out]; rfl, by rw [HE.out]; exact HRE.out, HBE.out, fun j hj => by have := NV.out j hj; have := HQ3.out; have := HGQ.out; have := hg.out; omega⟩
            · have HE : Hid (getU xs = none) := by show _ = _; rw [HGU.out, if_neg (fun h => he h.2)]
              rw [decide_eq_false (fun e => he e.symm)] at HS
              clear hm he b4 n4 o4 UV QV RV HPU u0 u1 u2 u3 HGU
              go_wp2_with fail
              refine HS.out.mono ?_
              rintro e w5 ⟨rfl, b5⟩
              have Q5 : Hid (Uv w5 g sp0 (.slice none 0 0)) := Q4.out.below b5
              have B5 : Hid (Below w.heap.size w w5) := B4.out.trans (b5.mono B4.out.size)
              clear b5 U4 Q4 B4 R4 HS
              have q0 : w5.cell? ⟨g, 0, none⟩ = some (.int .i64 0) := Q5.out.c0
              have q1 : w5.cell? ⟨g, 1, none⟩ = some (.int .i64 0) := Q5.out.c1
              have q2 : w5.cell? ⟨g, 2, none⟩ = some (.int .i64 0) := Q5.out.c2
              have q3 := Q5.out.c3
              have f0 := Q5.out.fz 0
              have f1 := Q5.out.fz 1
              have f2 := Q5.out.fz 2
              have f3 := Q5.out.fz 3
              have HLD := hideP (Q5.out.put sp0 (.slice none 0 0)).load
              have HBE : Hid (Below w.heap.size w ((((w5.setCell ⟨g, 0, none⟩ (.int .i64 sp0.gen)).setCell ⟨g, 1, none⟩ (.int .i64 sp0.sc)).setCell ⟨g, 2, none⟩ (.int .i64 sp0.nx)).setCell ⟨g, 3, none⟩ (.slice none 0 0))) := B5.out.trans ((Q5.out.tset sp0 _).below B5.out.size (fun k e => by rw [e, hg.out]; exact Nat.le_refl _))
              go_wp2_with fail
              refine bodyPost_ret (v := .tuple #[supv sp0 (.slice none 0 0), .bool false]) (results_cellV (p := 2) (ty := 24) rfl _ _ _ g _ _ rfl HLD.out rfl) rfl ?_
              exact getU_bad HE.out HBE.out
          · have HE : Hid (getU xs = none) := by show _ = _; rw [HGU.out, if_neg (fun h => by rw [hm] at h; cases h.1)]
            have HS := hideP (same_rd (.slice none 0 0) _ [] xs w4 (owns_nil .u8 5 w4).rd (HRX.out w4 B4.out))
            rw [decide_eq_false (fun e => by have := HL.out; rw [← e] at this; simp at this)] at HS
            clear hm b4 n4 UV QV RV HPU u0 u1 u2 u3 HGU
            go_wp2_with fail
            refine HS.out.mono ?_
            rintro e w5 ⟨rfl, b5⟩
            have Q5 : Hid (Uv w5 g sp0 (.slice none 0 0)) := Q4.out.below b5
            have B5 : Hid (Below w.heap.size w w5) := B4.out.trans (b5.mono B4.out.size)
            clear b5 U4 Q4 B4 R4 HS
            have q0 : w5.cell? ⟨g, 0, none⟩ = some (.int .i64 0) := Q5.out.c0
            have q1 : w5.cell? ⟨g, 1, none⟩ = some (.int .i64 0) := Q5.out.c1
            have q2 : w5.cell? ⟨g, 2, none⟩ = some (.int .i64 0) := Q5.out.c2
            have q3 := Q5.out.c3
            have f0 := Q5.out.fz 0
            have f1 := Q5.out.fz 1
            have f2 := Q5.out.fz 2
            have f3 := Q5.out.fz 3
            have HLD := hideP (Q5.out.put sp0 (.slice none 0 0)).load
            have HBE : Hid (Below w.heap.size w ((((w5.setCell ⟨g, 0, none⟩ (.int .i64 sp0.gen)).setCell ⟨g, 1, none⟩ (.int .i64 sp0.sc)).setCell ⟨g, 2, none⟩ (.int .i64 sp0.nx)).setCell ⟨g, 3, none⟩ (.slice none 0 0))) := B5.out.trans ((Q5.out.tset sp0 _).below B5.out.size (fun k e => by rw [e, hg.out]; exact Nat.le_refl _))
            go_wp2_with fail
            refine bodyPost_ret (v := .tuple #[supv sp0 (.slice none 0 0), .bool false]) (results_cellV (p := 2) (ty := 24) rfl _ _ _ g _ _ rfl HLD.out rfl) rfl ?_
            exact getU_bad HE.out HBE.out
    · have hgt : (L : Int) > 8 := by omega
      have HE : Hid (getU xs = none) := by
        show _ = _
        rw [getU_rd (f := fun x => x == 1) rfl rfl (n := L) HBY.out (.inl HL14.out.symm), if_neg]
        rintro ⟨hm, _⟩
        have h7 := (mayU_iff.1 hm).1.2.2.2.2.2.2
        rw [show (rdS (fun x => x == 1) xs L).vs = rdVs (fun x => x == 1) xs L from rfl, rdVs_len] at h7
        exact hL8 h7
      clear hL8
      have q0 : W3.cell? ⟨g, 0, none⟩ = some (.int .i64 0) := Q3.out.c0
      have q1 : W3.cell? ⟨g, 1, none⟩ = some (.int .i64 0) := Q3.out.c1
      have q2 : W3.cell? ⟨g, 2, none⟩ = some (.int .i64 0) := Q3.out.c2
      have q3 := Q3.out.c3
      have f0 := Q3.out.fz 0
      have f1 := Q3.out.fz 1
      have f2 := Q3.out.fz 2
      have f3 := Q3.out.fz 3
      have HLD := hideP (Q3.out.put sp0 (.slice none 0 0)).load
      have HBE : Hid (Below w.heap.size w ((((W3.setCell ⟨g, 0, none⟩ (.int .i64 sp0.gen)).setCell ⟨g, 1, none⟩ (.int .i64 sp0.sc)).setCell ⟨g, 2, none⟩ (.int .i64 sp0.nx)).setCell ⟨g, 3, none⟩ (.slice none 0 0))) := B3.out.trans ((Q3.out.tset sp0 _).below B3.out.size (fun k e => by rw [e, hg.out]; exact Nat.le_refl _))
      go_wp2_with fail
      refine bodyPost_ret (v := .tuple #[supv sp0 (.slice none 0 0), .bool false]) (results_cellV (p := 2) (ty := 24) rfl _ _ _ g _ _ rfl HLD.out rfl) rfl ?_
      exact getU_bad HE.out HBE.out

theorem refGetU_any (v : Value) (xs : List Int) (w : World) (hr : Rd .u8 w v xs) (hb : By xs) : Calls Try.prog 16 #[v] w fun e w' => GetU xs w e w' := by
  by_cases hl : xs.length = 256
  · have h14 := hb 14
    exact refGetU_ok (xs.getD 14 0).toNat v xs w hr hb hl (by omega)
  · exact refGetU_len v xs w hr hl
end Go.Proofs.Ytdicgaepggffbaa
