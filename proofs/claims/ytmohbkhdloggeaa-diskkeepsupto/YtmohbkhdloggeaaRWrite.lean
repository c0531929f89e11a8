/-
  The document's Write.
-/
import Derived.Test.YtmohbkhdloggeaaRSm
import Derived.Test.YtmohbkhdloggeaaDRegT
namespace Go.Proofs.Ytmohbkhdloggeaa
open Go.RowKit Go.Maps
set_option linter.unusedVariables false
set_option linter.unusedSimpArgs false
set_option maxRecDepth 100000

theorem info_41 : (Try.prog.info? 41).map (fun i => (i.zero, i.size, i.bytes)) = some (some (.slice none 0 0), 1, 24) := by kernel_rfl

/-- Is it a slice's value? -/
def IsSl (v : Value) : Prop := ∃ a n c, v = .slice a n c
theorem Owns.isSl {k : IntKind} {e : TypeId} {w : World} {v : Value} {xs : List Int} (h : Owns k e w v xs) : IsSl v := by
  obtain ⟨a, c, e, _⟩ := h.rd
  exact ⟨a, _, c, e⟩
theorem IsSl.one {v : Value} (h : IsSl v) : v.oneCell' = true := by obtain ⟨a, n, c, rfl⟩ := h; rfl

theorem vshape {w : World} {v : Value} {n : Nat} {xs : List Value} (h : w.ownsRow 0 41 1 v n xs) (h0 : n ≠ 0) : ∃ g m cap, v = .slice (some ⟨g, 0, none⟩) m cap := by
  rcases h.2 with ⟨_, e⟩ | ⟨g, cap, cur, e, _⟩
  · exact absurd e h0
  · exact ⟨g, _, cap, e⟩

section
variable {o : Oper} {a : Act} {w : World} {K : Act → World → Prop} {Q : Exit → Act → World → Prop}
theorem step_buildV (x : Operand) (ho : o.op = Op.buildSlice 43 1 #[(0, x)]) (v : Value) (hx : a.eval x = v) (hv : IsSl v)
    (h : K (a.put o.dst (.slice (some ⟨w.heap.size, 0, none⟩) 1 1)) (w.alloc (.cells #[v] 41))) : Oper.wp Try.prog o a w K Q := by
  obtain ⟨sa, sn, sc, rfl⟩ := hv
  have hrun : (Instr.buildSlice 43 1 #[(0, .slice sa sn sc)]).run Try.prog w = .ok (.slice (some ⟨w.heap.size, 0, none⟩) 1 1) (w.alloc (.cells #[.slice sa sn sc] 41)) := by
    obtain ⟨j0, hj, hy0, hy1, hy2⟩ := info_parts info_41
    refine run_buildSlice w _ 41 1 _ _ j0 _ Try.underlying43 hj hy0 (by rw [hy1]; decide) (by rw [hy1]; decide) ?_
    rw [hy1]
    exact Go.Great.fill_flat [.slice sa sn sc] _ (fun v hv => by simp at hv; subst hv; rfl) (by simp)
  unfold Oper.wp
  simp [execOp, ho, hx, hrun, Result.andThen]
  exact h

theorem step_appV (s x : Operand) (ho : o.op = .call { callee := .builtin .append, args := #[s, x], argTypes := #[43, 43] }) (v : Value) (xs : List Value) (hs : a.eval s = v) (hown : w.ownsRow 0 41 1 v xs.length xs)
    (g0 : Nat) (u : Value) (hx : a.eval x = .slice (some ⟨g0, 0, none⟩) 1 1) (hu : IsSl u) (hc : w.cell? ⟨g0, 0, none⟩ = some u) (hl : xs.length + 1 ≤ 2000000000000)
    (h : ∀ v' w', w'.ownsRow 0 41 1 v' (xs ++ [u]).length (xs ++ [u]) → w.grownBy w' v.ownBlock → (∀ k, v'.ownBlock = some k → v.ownBlock = some k ∨ w.heap.size ≤ k) → K (a.put o.dst v') w') : Oper.wp Try.prog o a w K Q := by
  obtain ⟨j0, hj, hy0, hy1, hy2⟩ := info_parts info_41
  have hsrc : Src w (.slice (some ⟨g0, 0, none⟩) 1 1) [u] := by
    refine ⟨_, 1, rfl, fun y hy => by simp at hy; subst hy; exact hu.one, (fun e => by cases e), fun ad ha j y hy => ?_⟩
    obtain rfl := Option.some.inj ha
    match j, hy with
    | 0, hy => simp at hy; subst hy; simpa [Addr.add] using hc
  obtain ⟨v', w', hr, h2, h3, h4⟩ := run_app (P := Try.prog) w 43 o.type 41 j0 _ 24 Try.underlying43 hj hy0 hy1 hy2 rfl v xs hown _ [u] hsrc (by unfold maxLen; simp; omega) (by simp; omega)
  unfold Oper.wp
  simp [execOp, ho, resolve, invoke, builtin, hs, hx, hr, Result.andThen]
  exact h v' w' h2 h3 h4

theorem step_store1 (x y : Operand) {ty : TypeId} (ho : o.op = .store ty x y) (b off : Nat) (v : Value) (hx : a.eval x = .pointer (some ⟨b, off, none⟩)) (hy : a.eval y = v) (hi : (Try.prog.info? ty).map (·.size) = some 1) (h1 : v.cells = #[v]) (hone : v.oneCell' = true) {u : Value} (hc : w.cell? ⟨b, off, none⟩ = some u) (hf : w.frozen? ⟨b, off, none⟩ = false)
    (h : K (a.put o.dst undef) (w.setCell ⟨b, off, none⟩ v)) : Oper.wp Try.prog o a w K Q := by
  cases hq : Try.prog.info? ty with
  | none => simp [hq] at hi
  | some j0 =>
    have hs : j0.size = 1 := by simpa [hq] using hi
    have hrun : (Instr.storeAt ty (.pointer (some ⟨b, off, none⟩)) v).run Try.prog w = .ok () (w.setCell ⟨b, off, none⟩ v) := by
      have := run_storeCells_cells (P := Try.prog) b off [v] 0 w (fun j hj => by simp at hj; subst hj; simp [hc]) (fun j hj => by simp at hj; subst hj; simpa using hf) (fun u hu => by simp at hu; subst hu; exact hone)
      simp only [Nat.add_zero] at this
      simp [Instr.storeAt, Instr.sureAddr, storeVar, sizeOf, typeInfo, hq, h1, hs, this, World.setCells]
    unfold Oper.wp
    simp [execOp, ho, hx, hy, hrun, Result.andThen]
    exact h
end

theorem list_set_self {L : List (List Int)} {i : Nat} (h : i < L.length) : L.set i (L.getD i []) = L := by
  rw [List.getD_eq_getElem?_getD, List.getElem?_eq_getElem h]
  exact List.set_getElem_self h

/-- A cell of the row is written. -/
theorem row_set1 {w : World} {lb cp n : Nat} {A B : Nat → Value} (h : w.ownsRow 0 67 2 (.slice (some ⟨lb, 0, none⟩) n cp) n (cl n A B)) {i : Nat} (hi : i < n) (v : Value) :
    (w.setCell ⟨lb, i * 2 + 1, none⟩ v).ownsRow 0 67 2 (.slice (some ⟨lb, 0, none⟩) n cp) n (cl n A (updV B i v)) := by
  rw [← cl_set1 A B hi v]
  exact (h.stored (i * 2 + 1) v).1
theorem row_set0 {w : World} {lb cp n : Nat} {A B : Nat → Value} (h : w.ownsRow 0 67 2 (.slice (some ⟨lb, 0, none⟩) n cp) n (cl n A B)) {i : Nat} (hi : i < n) (v : Value) :
    (w.setCell ⟨lb, i * 2, none⟩ v).ownsRow 0 67 2 (.slice (some ⟨lb, 0, none⟩) n cp) n (cl n (updV A i v) B) := by
  rw [← cl_set0 A B hi v]
  exact (h.stored (i * 2) v).1

theorem refWrite_range {R : Nat → Prop} {r : Nat} {s : DS} (at_ : Int) (a : Option Addr) (len cap : Nat) (w : World) (h : Rf R w r s) (hb : at_ < 0 ∨ (s.L.length : Int) ≤ at_) :
    Calls Try.prog 29 #[dp r, .int .i64 at_, .slice a len cap] w fun e w' => e = .returned (.int .i64 2) ∧ w' = w := by
  obtain ⟨lb, cp, A, B, x, W, h⟩ := h
  have c0 := h.c0
  obtain ⟨n, hn⟩ : ∃ n, s.L.length = n := ⟨_, rfl⟩
  rw [hn] at c0 hb
  clear h hn
  by_cases h0 : at_ < 0
  · go_enter Try.func29, Try.ntmps29
    go_wp2_with fail
    go_ret
    exact ⟨rfl, rfl⟩
  · have h1 : at_ ≥ (n : Int) := by omega
    go_enter Try.func29, Try.ntmps29
    go_wp2_with fail
    go_ret
    exact ⟨rfl, rfl⟩

theorem refWrite_len {R : Nat → Prop} {r : Nat} {s : DS} (i : Nat) (a : Option Addr) (len cap : Nat) (w : World) (h : Rf R w r s) (hi : i < s.L.length) (hl : len ≠ 256) (hm : len ≤ maxLen) :
    Calls Try.prog 29 #[dp r, .int .i64 (i : Int), .slice a len cap] w fun e w' => e = .returned (.int .i64 1) ∧ w' = w := by
  obtain ⟨lb, cp, A, B, x, W, h⟩ := h
  have c0 := h.c0
  obtain ⟨n, hn⟩ : ∃ n, s.L.length = n := ⟨_, rfl⟩
  rw [hn] at c0 hi
  clear h hn
  have h0 : ¬ (i : Int) < 0 := by omega
  have h1 : ¬ (i : Int) ≥ (n : Int) := by omega
  have hl2 : ((len : Int) == 256) = false := by rw [beq_eq_false_iff_ne]; omega
  go_enter Try.func29, Try.ntmps29
  go_wp2_with fail
  go_ret
  exact ⟨rfl, rfl⟩

/-- One less is left. -/
theorem RfAt.less {R : Nat → Prop} {w : World} {r : Nat} {s : DS} {lb cp : Nat} {A B : Nat → Value} {x : Int} {W : Nat → List Value} (h : RfAt R w r s lb cp A B x W) (hc : s.can = true) (x' : Int) (hx : x' = wrap64 (x - 1)) : RfAt R (w.setCell ⟨r, 2, none⟩ (.int .i64 x')) r s.tick lb cp A B x' W := by
  have hb : -9223372036854775808 ≤ x' ∧ x' ≤ 9223372036854775807 := by
    rw [hx]
    unfold wrap64
    omega
  have h30 := h.l30
  by_cases e : s.c = true
  · have hx0 := h.left e
    have hl : s.l ≠ 0 := fun e2 => by simp [DS.can, e, e2] at hc
    have := h.set2 (s.l - 1) x' (by omega) (fun _ => by rw [hx, hx0]; unfold wrap64; omega) hb.1 hb.2
    unfold DS.tick
    rw [if_pos e]
    exact this
  · have := h.set2 s.l x' h30 (fun e2 => absurd e2 e) hb.1 hb.2
    unfold DS.tick
    rw [if_neg e]
    exact this

set_option maxHeartbeats 2000000 in
theorem refWrite_ok {R : Nat → Prop} {r : Nat} {s : DS} (i : Nat) (v : Value) (xs : List Int) (w : World) (h : Rf R w r s) (hi : i < s.L.length) (hr : Rd .u8 w v xs) (hx : xs.length = 256) (hy : By xs) (hv : ∀ k, v.ownBlock = some k → ¬ R k) (hm : (s.V i).length < 1000000000000) :
    Calls Try.prog 29 #[dp r, .int .i64 (i : Int), v] w fun e w' => e = .returned (.int .i64 0) ∧ RfTo R w w' r (s.wr i xs) := by
  obtain ⟨lb, cp, A, B, x, W, h⟩ := h
  have HR : Hid (Rd .u8 w v xs) := hr
  obtain ⟨va, vcap, rfl, hvl⟩ := hr
  rw [hx] at HR hv ⊢
  have c0 := h.c0
  have c1 := h.c1
  have c2 := h.c2
  have f2 := h.fz 2
  have HX : Hid (RfAt R w r s lb cp A B x W) := h
  have HXL : Hid (xs.length = 256) := hx
  have HBY : Hid (By xs) := hy
  have HV : Hid (∀ k, (Value.slice va 256 vcap).ownBlock = some k → ¬ R k) := hv
  have HI : Hid (i < s.L.length) := hi
  have HM : Hid ((s.V i).length < 1000000000000) := hm
  obtain ⟨n, hn⟩ : ∃ n, s.L.length = n := ⟨_, rfl⟩
  have HN : Hid (s.L.length = n) := hn
  rw [hn] at c0 hi
  have h0 : ¬ (i : Int) < 0 := by omega
  have h1 : ¬ (i : Int) ≥ (n : Int) := by omega
  have hi0 : (0 : Int) ≤ (i : Int) := by omega
  have hin : (i : Int) < (n : Int) := by omega
  have hle := h.left
  clear h hn hvl hx hy hv hm
  by_cases hc : s.can = true
  · obtain ⟨x', hx'⟩ : ∃ x', wrap64 (x - 1) = x' := ⟨_, rfl⟩
    have HL1 : Hid (RfAt R (w.setCell ⟨r, 2, none⟩ (.int .i64 x')) r s.tick lb cp A B x' W) := HX.out.less hc x' hx'.symm
    have HWR : Hid (s.wr i xs = { s.tick with L := s.tick.L.set i (s.tick.L.getD i []), V := vput s.tick.V i (s.tick.V i ++ [xs]) }) := by
      show _ = _
      rw [list_set_self (L := s.tick.L) HI.out]
      unfold DS.wr
      rw [hc]
      rfl
    obtain ⟨W1, hW1⟩ : ∃ W1, w.setCell ⟨r, 2, none⟩ (.int .i64 x') = W1 := ⟨_, rfl⟩
    have T1 : Hid (Tch R w W1) := by rw [← hW1]; exact (tch_set w r 2 _).mono (fun k _ e => by rw [e]; exact HX.out.rr)
    have R1 : Hid (Rd .u8 W1 (.slice va 256 vcap) xs) := by rw [← hW1]; exact HR.out.tch (tch_set w r 2 _) (fun k hk e => HV.out k hk (by rw [e]; exact HX.out.rr))
    rw [hW1] at HL1
    have HT1 : Hid (s.tick.L = s.L ∧ s.tick.V = s.V) := ⟨rfl, rfl⟩
    have HSC : (s.c = false) ∨ (s.c = true ∧ ((x == 0) = false)) := by
      cases e : s.c with
      | false => exact .inl rfl
      | true =>
        refine .inr ⟨rfl, ?_⟩
        rw [hle e, beq_eq_false_iff_ne]
        intro e2
        simp [DS.can, e] at hc
        omega
    generalize hs1 : s.tick = s1 at HL1 HWR HT1
    have HM1 : Hid ((s1.V i).length < 1000000000000) := by rw [HT1.out.2]; exact HM.out
    have HI1 : Hid (i < s1.L.length) := by rw [HT1.out.1]; exact HI.out
    have HN1 : Hid (s1.L.length = n) := by rw [HT1.out.1]; exact HN.out
    clear hs1 hc HR hle HM HT1
    obtain ⟨bv, hbv⟩ : ∃ bv, B i = bv := ⟨_, rfl⟩
    have HSTEP : Hid (∀ ov W2, Owns .u8 5 W2 ov xs → Below W1.heap.size W1 W2 → (∀ k, ov.ownBlock = some k → W1.heap.size ≤ k) →
        (W2.cell? ⟨r, 0, none⟩ = some (.slice (some ⟨lb, 0, none⟩) n cp) ∧ W2.cell? ⟨lb, i * 2 + 1, none⟩ = some bv) ∧
        (((W2.alloc (.cells #[ov] 41)).drew).cell? ⟨r, 0, none⟩ = some (.slice (some ⟨lb, 0, none⟩) n cp) ∧ ((W2.alloc (.cells #[ov] 41)).drew).cell? ⟨lb, i * 2 + 1, none⟩ = some bv) ∧
        ((W2.alloc (.cells #[ov] 41)).drew).ownsRow 0 41 1 bv (W i).length (W i) ∧ (W i).length + 1 ≤ 2000000000000 ∧
        ∀ v5 w5, w5.ownsRow 0 41 1 v5 (W i ++ [ov]).length (W i ++ [ov]) → ((W2.alloc (.cells #[ov] 41)).drew).grownBy w5 bv.ownBlock → (∀ k, v5.ownBlock = some k → bv.ownBlock = some k ∨ ((W2.alloc (.cells #[ov] 41)).drew).heap.size ≤ k) →
          (w5.cell? ⟨r, 0, none⟩ = some (.slice (some ⟨lb, 0, none⟩) n cp) ∧ w5.cell? ⟨lb, i * 2 + 1, none⟩ = some bv) ∧ w5.frozen? ⟨lb, i * 2 + 1, none⟩ = false ∧ Hid (RfTo R w (w5.setCell ⟨lb, i * 2 + 1, none⟩ v5) r (s.wr i xs))) := by
      intro ov W2 ho2 hb2 hf2
      have X2 : RfAt R W2 r s1 lb cp A B x' W := HL1.out.tch (S := fun _ => False) (Tch.of_below hb2) (fun _ _ e => e)
      have TA : Tch (fun _ => False) W2 (W2.alloc (.cells #[ov] 41)).drew := Tch.drew (Tch.alloc (Tch.refl _ W2) _)
      have XA : RfAt R (W2.alloc (.cells #[ov] 41)).drew r s1 lb cp A B x' W := X2.tch TA (fun _ _ e => e)
      have c0 : ∀ w', RfAt R w' r s1 lb cp A B x' W → w'.cell? ⟨r, 0, none⟩ = some (.slice (some ⟨lb, 0, none⟩) n cp) ∧ w'.cell? ⟨lb, i * 2 + 1, none⟩ = some bv := fun w' h => by
        have h1 := h.c0
        rw [HN1.out] at h1
        have h2 := h.cb HI1.out
        rw [hbv] at h2
        exact ⟨h1, h2⟩
      have hWl : (W i).length = (s1.V i).length := by have := (X2.lv i HI1.out).1; omega
      have hbA := XA.lv i HI1.out
      rw [hbv, ← hWl] at hbA
      refine ⟨c0 _ X2, c0 _ XA, hbA, by have := HM1.out; omega, fun v5 w5 ho5 hg5 hf5 => ?_⟩
      have hbne : ∀ k, bv.ownBlock = some k → k ≠ r ∧ k ≠ lb := fun k hk => X2.b_ne HI1.out (by rw [hbv]; exact hk)
      have T5 : Tch (fun k => bv.ownBlock = some k) W2 w5 := (TA.mono (S' := fun k => bv.ownBlock = some k) (fun _ _ e => e.elim)).trans (Tch.of_grown hg5) (fun _ _ e => e)
      have hlbl := X2.rlt _ X2.rl
      have e1 : w5.cell? ⟨r, 0, none⟩ = some (.slice (some ⟨lb, 0, none⟩) n cp) := by rw [T5.cell (p := ⟨r, 0, none⟩) X2.lt (fun e => (hbne r e).1 rfl)]; exact (c0 _ X2).1
      have e2 : w5.cell? ⟨lb, i * 2 + 1, none⟩ = some bv := by rw [T5.cell (p := ⟨lb, i * 2 + 1, none⟩) hlbl (fun e => (hbne lb e).2 rfl)]; exact (c0 _ X2).2
      have e3 : w5.frozen? ⟨lb, i * 2 + 1, none⟩ = false := by rw [T5.frozen (p := ⟨lb, i * 2 + 1, none⟩) hlbl (fun e => (hbne lb e).2 rfl)]; exact X2.fl _
      refine ⟨⟨e1, e2⟩, e3, ?_⟩
      have T6 := tch_set w5 lb (i * 2 + 1) v5
      have TT : Tch (fun k => k = lb ∨ (B i).ownBlock = some k) W2 (w5.setCell ⟨lb, i * 2 + 1, none⟩ v5) := by
        rw [hbv]
        exact (T5.mono (S' := fun k => k = lb ∨ bv.ownBlock = some k) (fun k _ e => .inr e)).trans T6 (fun k _ e => .inl e)
      have hrow5 : w5.ownsRow 0 67 2 (.slice (some ⟨lb, 0, none⟩) s1.L.length cp) s1.L.length (cl s1.L.length A B) := T5.owns X2.row (fun k e => by cases e; exact fun e => (hbne lb e).2 rfl)
      have hrow6 := row_set1 hrow5 HI1.out v5
      rw [cl_congr (A' := updV A i (A i)) (B' := updV B i v5) (fun j _ => by unfold updV; split <;> simp_all) (fun _ _ => rfl)] at hrow6
      have hneY : ∀ v ys k, Owns .u8 5 W2 v ys → v.ownBlock = some k → ¬ (k = lb ∨ (B i).ownBlock = some k) := fun v ys k ho hk e => by
        have := X2.y_ne ho hk
        rcases e with e | e
        · exact this.2.1 e
        · exact this.2.2 i HI1.out e
      have hL := X2.la i HI1.out
      have hv5 : ∀ k, v5.ownBlock = some k → k ≠ lb := fun k hk e => by
        rcases hf5 k hk with e2 | e2
        · exact (hbne k e2).2 e
        · simp at e2; omega
      have X2m := X2.mono (R2 := fun k => R k ∨ ov.ownBlock = some k) (fun k hk => .inl hk) (fun k hk => by
        rcases hk with hk | hk
        · exact X2.rlt k hk
        · exact ho2.lt k hk)
      have hput := X2m.put (w' := w5.setCell ⟨lb, i * 2 + 1, none⟩ v5) HI1.out (A i) v5 (s1.L.getD i []) (s1.V i ++ [xs]) (W i ++ [ov]) TT hrow6 (hL.tch TT (fun k hk => hneY _ _ k hL hk))
        (by
          have := T6.owns ho5 (fun k hk => hv5 k hk)
          have e : (W i ++ [ov]).length = (s1.V i ++ [xs]).length := by simp [hWl]
          rw [← e]
          exact this)
        (fun j v hj => by
          rw [List.getElem?_append] at hj
          rw [List.getD_eq_getElem?_getD, List.getElem?_append]
          split at hj
          · rename_i hjl
            rw [if_pos (by omega), ← List.getD_eq_getElem?_getD]
            have hw := X2.lw i j v HI1.out hj
            exact hw.tch TT (fun k hk => hneY _ _ k hw hk)
          · rename_i hjl
            rw [if_neg (by omega)]
            have hj0 : j - (W i).length = 0 := by
              have := (List.getElem?_eq_some_iff.1 hj).1
              simp at this
              omega
            rw [hj0] at hj
            rw [← hWl, hj0]
            simp at hj
            subst hj
            exact ho2.tch TT (fun k hk => hneY _ _ k ho2 hk))
        (X2.okL.get HI1.out) ((X2.okV i).app (SOk.one HXL.out HBY.out)) (fun k hk => .inl (.inl (X2.ra i k HI1.out hk)))
        (fun k hk => by
          rw [hbv]
          rcases hf5 k hk with e | e
          · exact .inl e
          · exact .inr (by simp at e; omega))
        (fun j v k hj hk => by
          rw [List.getElem?_append] at hj
          split at hj
          · exact .inl (.inl (X2.rv i j v k HI1.out hj hk))
          · rename_i hjl
            have hj0 : j - (W i).length = 0 := by
              have := (List.getElem?_eq_some_iff.1 hj).1
              simp at this
              omega
            rw [hj0] at hj
            simp at hj
            subst hj
            exact .inl (.inr hk))
      obtain ⟨R', h1, h2, h3⟩ := hput
      refine ⟨R', ?_, ?_, fun k hk => ?_⟩
      · rw [HWR.out]; exact h1
      · refine Tch.trans (S := R) (S' := fun k => R k ∨ ov.ownBlock = some k) (Tch.trans (S := R) (S' := R) T1.out (Tch.of_below hb2) (fun _ _ e => e)) h2 (fun k hk e => ?_)
        rcases e with e | e
        · exact e
        · have := hf2 k e; have := T1.out.size; omega
      · rcases h3 k hk with (e | e) | e
        · exact .inl e
        · exact .inr (Nat.le_trans T1.out.size (hf2 k e))
        · exact .inr (Nat.le_trans (Nat.le_trans T1.out.size hb2.size) e)
    clear hbv
    rcases HSC with hsc | ⟨hsc, hx0⟩
    · rw [hsc] at c1
      clear hsc
      go_enter Try.func29, Try.ntmps29
      go_wp2_with (at_builtin; refine Hid.out ?_)
      refine hideP ?_
      refine wpList_many W1 rfl (.tmp 40) (.tmp 41) 41 rfl 5 .u8 1 elem8 (.slice none 0 0) [] rfl (owns_nil _ _ _) _ xs rfl R1.out (by rw [HXL.out]; decide) (by rw [HXL.out]; decide) ?_
      intro ov W2 ho2 hg2
      obtain ⟨hS0, hS2, hbv2, hlb2, hpost⟩ := HSTEP.out ov W2 ho2 hg2.below.1 hg2.below.2
      have HOV : Hid (IsSl ov) := ho2.isSl
      have HCV : Hid (((W2.alloc (.cells #[ov] 41)).drew).cell? ⟨W2.heap.size, 0, none⟩ = some ov) := by
        show _ = _
        have := cell_of_row (W2.alloc (.cells #[ov] 41)) W2.heap.size 0 _ _ (0, 0) (heap_alloc_new W2 (.cells #[ov] 41))
        exact this
      have HBV : Hid (((W2.alloc (.cells #[ov] 41)).drew).ownsRow 0 41 1 bv (W i).length (W i)) := hbv2
      have HLB : Hid ((W i).length + 1 ≤ 2000000000000) := hlb2
      have HPOST := hideP hpost
      have hS : W2.drew.cell? ⟨r, 0, none⟩ = some (.slice (some ⟨lb, 0, none⟩) n cp) ∧ W2.drew.cell? ⟨lb, i * 2 + 1, none⟩ = some bv := hS0
      clear ho2 hg2 hbv2 hlb2 hpost hS0 hW1 hx'
      go_wp2_with fail
      refine beginW (S := fun w' => w'.cell? ⟨r, 0, none⟩ = some (.slice (some ⟨lb, 0, none⟩) n cp) ∧ w'.cell? ⟨lb, i * 2 + 1, none⟩ = some bv) (t := 18) (by kernel_rfl) ?_
      refine takeW 0 (some 43) (.move (.tmp 0)) (Value.pointer (some ⟨r, 0, none⟩)) rfl rfl (by kernel_rfl) (by kernel_rfl) (by kernel_rfl) (by kernel_rfl) (fun _ _ _ h => h) ?hy hS ?_
      case hy =>
        rintro o ho w' ⟨hS1, hS2⟩
        go_simp
      simp only [Act.put, List.setIfInBounds_toArray, List.set_cons_zero, List.set_cons_succ]
      refine takeW 1 (some 44) (.nilCheck (.tmp 43)) (Value.pointer (some ⟨r, 0, none⟩)) rfl rfl (by kernel_rfl) (by kernel_rfl) (by kernel_rfl) (by kernel_rfl) (fun _ _ _ h => h) ?hy hS ?_
      case hy =>
        rintro o ho w' ⟨hS1, hS2⟩
        go_simp
      simp only [Act.put, List.setIfInBounds_toArray, List.set_cons_zero, List.set_cons_succ]
      refine takeW 2 (some 45) (.fieldAddr 54 (.tmp 44) 0) (Value.pointer (some ⟨r, 0, none⟩)) rfl rfl (by kernel_rfl) (by kernel_rfl) (by kernel_rfl) (by kernel_rfl) (fun _ _ _ h => h) ?hy hS ?_
      case hy =>
        rintro o ho w' ⟨hS1, hS2⟩
        go_simp
      simp only [Act.put, List.setIfInBounds_toArray, List.set_cons_zero, List.set_cons_succ]
      refine takeW 3 (some 46) (.load 52 (.tmp 45)) (Value.slice (some ⟨lb, 0, none⟩) n cp) rfl rfl (by kernel_rfl) (by kernel_rfl) (by kernel_rfl) (by kernel_rfl) (fun _ _ _ h => h) ?hy hS ?_
      case hy =>
        rintro o ho w' ⟨hS1, hS2⟩
        go_simp
      simp only [Act.put, List.setIfInBounds_toArray, List.set_cons_zero, List.set_cons_succ]
      refine takeW 4 (some 47) (.move (.tmp 1)) (Value.int .i64 (i : Int)) rfl rfl (by kernel_rfl) (by kernel_rfl) (by kernel_rfl) (by kernel_rfl) (fun _ _ _ h => h) ?hy hS ?_
      case hy =>
        rintro o ho w' ⟨hS1, hS2⟩
        go_simp
      simp only [Act.put, List.setIfInBounds_toArray, List.set_cons_zero, List.set_cons_succ]
      refine takeW 5 (some 48) (.move (.tmp 0)) (Value.pointer (some ⟨r, 0, none⟩)) rfl rfl (by kernel_rfl) (by kernel_rfl) (by kernel_rfl) (by kernel_rfl) (fun _ _ _ h => h) ?hy hS ?_
      case hy =>
        rintro o ho w' ⟨hS1, hS2⟩
        go_simp
      simp only [Act.put, List.setIfInBounds_toArray, List.set_cons_zero, List.set_cons_succ]
      refine takeW 6 (some 49) (.nilCheck (.tmp 48)) (Value.pointer (some ⟨r, 0, none⟩)) rfl rfl (by kernel_rfl) (by kernel_rfl) (by kernel_rfl) (by kernel_rfl) (fun _ _ _ h => h) ?hy hS ?_
      case hy =>
        rintro o ho w' ⟨hS1, hS2⟩
        go_simp
      simp only [Act.put, List.setIfInBounds_toArray, List.set_cons_zero, List.set_cons_succ]
      refine takeW 7 (some 50) (.fieldAddr 54 (.tmp 49) 0) (Value.pointer (some ⟨r, 0, none⟩)) rfl rfl (by kernel_rfl) (by kernel_rfl) (by kernel_rfl) (by kernel_rfl) (fun _ _ _ h => h) ?hy hS ?_
      case hy =>
        rintro o ho w' ⟨hS1, hS2⟩
        go_simp
      simp only [Act.put, List.setIfInBounds_toArray, List.set_cons_zero, List.set_cons_succ]
      refine takeW 8 (some 51) (.load 52 (.tmp 50)) (Value.slice (some ⟨lb, 0, none⟩) n cp) rfl rfl (by kernel_rfl) (by kernel_rfl) (by kernel_rfl) (by kernel_rfl) (fun _ _ _ h => h) ?hy hS ?_
      case hy =>
        rintro o ho w' ⟨hS1, hS2⟩
        go_simp
      simp only [Act.put, List.setIfInBounds_toArray, List.set_cons_zero, List.set_cons_succ]
      refine takeW 9 (some 52) (.move (.tmp 1)) (Value.int .i64 (i : Int)) rfl rfl (by kernel_rfl) (by kernel_rfl) (by kernel_rfl) (by kernel_rfl) (fun _ _ _ h => h) ?hy hS ?_
      case hy =>
        rintro o ho w' ⟨hS1, hS2⟩
        go_simp
      simp only [Act.put, List.setIfInBounds_toArray, List.set_cons_zero, List.set_cons_succ]
      refine takeW 10 (some 53) (.indexAddr 52 (.tmp 51) (.tmp 52)) (Value.pointer (some ⟨lb, i * 2, none⟩)) rfl rfl (by kernel_rfl) (by kernel_rfl) (by kernel_rfl) (by kernel_rfl) (fun _ _ _ h => h) ?hy hS ?_
      case hy =>
        rintro o ho w' ⟨hS1, hS2⟩
        go_simp
      simp only [Act.put, List.setIfInBounds_toArray, List.set_cons_zero, List.set_cons_succ]
      refine takeW 11 (some 54) (.fieldAddr 67 (.tmp 53) 1) (Value.pointer (some ⟨lb, i * 2 + 1, none⟩)) rfl rfl (by kernel_rfl) (by kernel_rfl) (by kernel_rfl) (by kernel_rfl) (fun _ _ _ h => h) ?hy hS ?_
      case hy =>
        rintro o ho w' ⟨hS1, hS2⟩
        go_simp
      simp only [Act.put, List.setIfInBounds_toArray, List.set_cons_zero, List.set_cons_succ]
      refine takeW 12 (some 55) (.load 43 (.tmp 54)) (bv) rfl rfl (by kernel_rfl) (by kernel_rfl) (by kernel_rfl) (by kernel_rfl) (fun _ _ _ h => h) ?hy hS ?_
      case hy =>
        rintro o ho w' ⟨hS1, hS2⟩
        go_simp
      simp only [Act.put, List.setIfInBounds_toArray, List.set_cons_zero, List.set_cons_succ]
      refine takeW 13 (some 56) (.move (.tmp 7)) (ov) rfl rfl (by kernel_rfl) (by kernel_rfl) (by kernel_rfl) (by kernel_rfl) (fun _ _ _ h => h) ?hy hS ?_
      case hy =>
        rintro o ho w' ⟨hS1, hS2⟩
        go_simp
      simp only [Act.put, List.setIfInBounds_toArray, List.set_cons_zero, List.set_cons_succ]
      refine readyW 14 (some 57) (.buildSlice 43 1 #[(0, .tmp 56)]) rfl (by kernel_rfl) ?_
      rintro o K hd ho hg hK
      refine step_buildV (.tmp 56) ho ov rfl HOV.out ?_
      rw [hd]
      refine hK _ _ (fun _ => hS2) ?_
      simp only [Act.put, List.setIfInBounds_toArray, List.set_cons_zero, List.set_cons_succ]
      refine readyW 15 (some 58) (.call { callee := .builtin .append, args := #[.tmp 55, .tmp 57], argTypes := #[43, 43] }) rfl (by kernel_rfl) ?_
      rintro o K hd ho hg hK
      refine step_appV (w := (W2.alloc (.cells #[ov] 41)).drew) (.tmp 55) (.tmp 57) ho bv (W i) rfl HBV.out W2.heap.size ov rfl HOV.out HCV.out HLB.out ?_
      intro v5 w5 ho5 hg5 hf5
      obtain ⟨k5, f5, fin⟩ := HPOST.out v5 w5 ho5 hg5 hf5
      have hsh := vshape ho5 (by simp)
      obtain ⟨g5, n5, cap5, rfl⟩ := hsh
      clear ho5 hg5 hf5
      rw [hd]
      refine hK _ _ (fun _ => k5) ?_
      simp only [Act.put, List.setIfInBounds_toArray, List.set_cons_zero, List.set_cons_succ]
      clear hS
      have hS := k5
      refine readyW 16 (some 59) (.indexAddr 52 (.tmp 46) (.tmp 47)) rfl (by kernel_rfl) ?_
      rintro o K hd ho hg hK
      refine stepY (v := Value.pointer (some ⟨lb, i * 2, none⟩)) ?hy ?_
      case hy => go_simp
      rw [hd]
      refine hK _ _ (fun _ => k5) ?_
      clear ho hd hg hK
      simp only [Act.put, List.setIfInBounds_toArray, List.set_cons_zero, List.set_cons_succ]
      refine readyW 17 (some 60) (.fieldAddr 67 (.tmp 59) 1) rfl (by kernel_rfl) ?_
      rintro o K hd ho hg hK
      refine stepY (v := Value.pointer (some ⟨lb, i * 2 + 1, none⟩)) ?hy ?_
      case hy => go_simp
      rw [hd]
      refine hK _ _ (fun _ => k5) ?_
      clear ho hd hg hK
      simp only [Act.put, List.setIfInBounds_toArray, List.set_cons_zero, List.set_cons_succ]
      refine readyW 18 none (.store 43 (.tmp 60) (.tmp 58)) rfl (by kernel_rfl) ?_
      rintro o K hd ho hg hK
      refine step_store1 (.tmp 60) (.tmp 58) ho lb (i * 2 + 1) _ rfl rfl (by kernel_rfl) rfl rfl k5.2 f5 ?_
      rw [hd]
      refine hK _ _ (fun e => absurd rfl e) ?_
      refine doneW (by kernel_rfl) ?_ _
      clear ho hd hg hK
      simp only [Act.put]
      go_wp2_with fail
      go_ret
      exact ⟨rfl, fin.out⟩
    · rw [hsc] at c1
      clear hsc
      go_enter Try.func29, Try.ntmps29
      go_wp2_with (at_builtin; refine Hid.out ?_)
      refine hideP ?_
      refine wpList_many W1 rfl (.tmp 40) (.tmp 41) 41 rfl 5 .u8 1 elem8 (.slice none 0 0) [] rfl (owns_nil _ _ _) _ xs rfl R1.out (by rw [HXL.out]; decide) (by rw [HXL.out]; decide) ?_
      intro ov W2 ho2 hg2
      obtain ⟨hS0, hS2, hbv2, hlb2, hpost⟩ := HSTEP.out ov W2 ho2 hg2.below.1 hg2.below.2
      have HOV : Hid (IsSl ov) := ho2.isSl
      have HCV : Hid (((W2.alloc (.cells #[ov] 41)).drew).cell? ⟨W2.heap.size, 0, none⟩ = some ov) := by
        show _ = _
        have := cell_of_row (W2.alloc (.cells #[ov] 41)) W2.heap.size 0 _ _ (0, 0) (heap_alloc_new W2 (.cells #[ov] 41))
        exact this
      have HBV : Hid (((W2.alloc (.cells #[ov] 41)).drew).ownsRow 0 41 1 bv (W i).length (W i)) := hbv2
      have HLB : Hid ((W i).length + 1 ≤ 2000000000000) := hlb2
      have HPOST := hideP hpost
      have hS : W2.drew.cell? ⟨r, 0, none⟩ = some (.slice (some ⟨lb, 0, none⟩) n cp) ∧ W2.drew.cell? ⟨lb, i * 2 + 1, none⟩ = some bv := hS0
      clear ho2 hg2 hbv2 hlb2 hpost hS0 hW1 hx'
      go_wp2_with fail
      refine beginW (S := fun w' => w'.cell? ⟨r, 0, none⟩ = some (.slice (some ⟨lb, 0, none⟩) n cp) ∧ w'.cell? ⟨lb, i * 2 + 1, none⟩ = some bv) (t := 18) (by kernel_rfl) ?_
      refine takeW 0 (some 43) (.move (.tmp 0)) (Value.pointer (some ⟨r, 0, none⟩)) rfl rfl (by kernel_rfl) (by kernel_rfl) (by kernel_rfl) (by kernel_rfl) (fun _ _ _ h => h) ?hy hS ?_
      case hy =>
        rintro o ho w' ⟨hS1, hS2⟩
        go_simp
      simp only [Act.put, List.setIfInBounds_toArray, List.set_cons_zero, List.set_cons_succ]
      refine takeW 1 (some 44) (.nilCheck (.tmp 43)) (Value.pointer (some ⟨r, 0, none⟩)) rfl rfl (by kernel_rfl) (by kernel_rfl) (by kernel_rfl) (by kernel_rfl) (fun _ _ _ h => h) ?hy hS ?_
      case hy =>
        rintro o ho w' ⟨hS1, hS2⟩
        go_simp
      simp only [Act.put, List.setIfInBounds_toArray, List.set_cons_zero, List.set_cons_succ]
      refine takeW 2 (some 45) (.fieldAddr 54 (.tmp 44) 0) (Value.pointer (some ⟨r, 0, none⟩)) rfl rfl (by kernel_rfl) (by kernel_rfl) (by kernel_rfl) (by kernel_rfl) (fun _ _ _ h => h) ?hy hS ?_
      case hy =>
        rintro o ho w' ⟨hS1, hS2⟩
        go_simp
      simp only [Act.put, List.setIfInBounds_toArray, List.set_cons_zero, List.set_cons_succ]
      refine takeW 3 (some 46) (.load 52 (.tmp 45)) (Value.slice (some ⟨lb, 0, none⟩) n cp) rfl rfl (by kernel_rfl) (by kernel_rfl) (by kernel_rfl) (by kernel_rfl) (fun _ _ _ h => h) ?hy hS ?_
      case hy =>
        rintro o ho w' ⟨hS1, hS2⟩
        go_simp
      simp only [Act.put, List.setIfInBounds_toArray, List.set_cons_zero, List.set_cons_succ]
      refine takeW 4 (some 47) (.move (.tmp 1)) (Value.int .i64 (i : Int)) rfl rfl (by kernel_rfl) (by kernel_rfl) (by kernel_rfl) (by kernel_rfl) (fun _ _ _ h => h) ?hy hS ?_
      case hy =>
        rintro o ho w' ⟨hS1, hS2⟩
        go_simp
      simp only [Act.put, List.setIfInBounds_toArray, List.set_cons_zero, List.set_cons_succ]
      refine takeW 5 (some 48) (.move (.tmp 0)) (Value.pointer (some ⟨r, 0, none⟩)) rfl rfl (by kernel_rfl) (by kernel_rfl) (by kernel_rfl) (by kernel_rfl) (fun _ _ _ h => h) ?hy hS ?_
      case hy =>
        rintro o ho w' ⟨hS1, hS2⟩
        go_simp
      simp only [Act.put, List.setIfInBounds_toArray, List.set_cons_zero, List.set_cons_succ]
      refine takeW 6 (some 49) (.nilCheck (.tmp 48)) (Value.pointer (some ⟨r, 0, none⟩)) rfl rfl (by kernel_rfl) (by kernel_rfl) (by kernel_rfl) (by kernel_rfl) (fun _ _ _ h => h) ?hy hS ?_
      case hy =>
        rintro o ho w' ⟨hS1, hS2⟩
        go_simp
      simp only [Act.put, List.setIfInBounds_toArray, List.set_cons_zero, List.set_cons_succ]
      refine takeW 7 (some 50) (.fieldAddr 54 (.tmp 49) 0) (Value.pointer (some ⟨r, 0, none⟩)) rfl rfl (by kernel_rfl) (by kernel_rfl) (by kernel_rfl) (by kernel_rfl) (fun _ _ _ h => h) ?hy hS ?_
      case hy =>
        rintro o ho w' ⟨hS1, hS2⟩
        go_simp
      simp only [Act.put, List.setIfInBounds_toArray, List.set_cons_zero, List.set_cons_succ]
      refine takeW 8 (some 51) (.load 52 (.tmp 50)) (Value.slice (some ⟨lb, 0, none⟩) n cp) rfl rfl (by kernel_rfl) (by kernel_rfl) (by kernel_rfl) (by kernel_rfl) (fun _ _ _ h => h) ?hy hS ?_
      case hy =>
        rintro o ho w' ⟨hS1, hS2⟩
        go_simp
      simp only [Act.put, List.setIfInBounds_toArray, List.set_cons_zero, List.set_cons_succ]
      refine takeW 9 (some 52) (.move (.tmp 1)) (Value.int .i64 (i : Int)) rfl rfl (by kernel_rfl) (by kernel_rfl) (by kernel_rfl) (by kernel_rfl) (fun _ _ _ h => h) ?hy hS ?_
      case hy =>
        rintro o ho w' ⟨hS1, hS2⟩
        go_simp
      simp only [Act.put, List.setIfInBounds_toArray, List.set_cons_zero, List.set_cons_succ]
      refine takeW 10 (some 53) (.indexAddr 52 (.tmp 51) (.tmp 52)) (Value.pointer (some ⟨lb, i * 2, none⟩)) rfl rfl (by kernel_rfl) (by kernel_rfl) (by kernel_rfl) (by kernel_rfl) (fun _ _ _ h => h) ?hy hS ?_
      case hy =>
        rintro o ho w' ⟨hS1, hS2⟩
        go_simp
      simp only [Act.put, List.setIfInBounds_toArray, List.set_cons_zero, List.set_cons_succ]
      refine takeW 11 (some 54) (.fieldAddr 67 (.tmp 53) 1) (Value.pointer (some ⟨lb, i * 2 + 1, none⟩)) rfl rfl (by kernel_rfl) (by kernel_rfl) (by kernel_rfl) (by kernel_rfl) (fun _ _ _ h => h) ?hy hS ?_
      case hy =>
        rintro o ho w' ⟨hS1, hS2⟩
        go_simp
      simp only [Act.put, List.setIfInBounds_toArray, List.set_cons_zero, List.set_cons_succ]
      refine takeW 12 (some 55) (.load 43 (.tmp 54)) (bv) rfl rfl (by kernel_rfl) (by kernel_rfl) (by kernel_rfl) (by kernel_rfl) (fun _ _ _ h => h) ?hy hS ?_
      case hy =>
        rintro o ho w' ⟨hS1, hS2⟩
        go_simp
      simp only [Act.put, List.setIfInBounds_toArray, List.set_cons_zero, List.set_cons_succ]
      refine takeW 13 (some 56) (.move (.tmp 7)) (ov) rfl rfl (by kernel_rfl) (by kernel_rfl) (by kernel_rfl) (by kernel_rfl) (fun _ _ _ h => h) ?hy hS ?_
      case hy =>
        rintro o ho w' ⟨hS1, hS2⟩
        go_simp
      simp only [Act.put, List.setIfInBounds_toArray, List.set_cons_zero, List.set_cons_succ]
      refine readyW 14 (some 57) (.buildSlice 43 1 #[(0, .tmp 56)]) rfl (by kernel_rfl) ?_
      rintro o K hd ho hg hK
      refine step_buildV (.tmp 56) ho ov rfl HOV.out ?_
      rw [hd]
      refine hK _ _ (fun _ => hS2) ?_
      simp only [Act.put, List.setIfInBounds_toArray, List.set_cons_zero, List.set_cons_succ]
      refine readyW 15 (some 58) (.call { callee := .builtin .append, args := #[.tmp 55, .tmp 57], argTypes := #[43, 43] }) rfl (by kernel_rfl) ?_
      rintro o K hd ho hg hK
      refine step_appV (w := (W2.alloc (.cells #[ov] 41)).drew) (.tmp 55) (.tmp 57) ho bv (W i) rfl HBV.out W2.heap.size ov rfl HOV.out HCV.out HLB.out ?_
      intro v5 w5 ho5 hg5 hf5
      obtain ⟨k5, f5, fin⟩ := HPOST.out v5 w5 ho5 hg5 hf5
      have hsh := vshape ho5 (by simp)
      obtain ⟨g5, n5, cap5, rfl⟩ := hsh
      clear ho5 hg5 hf5
      rw [hd]
      refine hK _ _ (fun _ => k5) ?_
      simp only [Act.put, List.setIfInBounds_toArray, List.set_cons_zero, List.set_cons_succ]
      clear hS
      have hS := k5
      refine readyW 16 (some 59) (.indexAddr 52 (.tmp 46) (.tmp 47)) rfl (by kernel_rfl) ?_
      rintro o K hd ho hg hK
      refine stepY (v := Value.pointer (some ⟨lb, i * 2, none⟩)) ?hy ?_
      case hy => go_simp
      rw [hd]
      refine hK _ _ (fun _ => k5) ?_
      clear ho hd hg hK
      simp only [Act.put, List.setIfInBounds_toArray, List.set_cons_zero, List.set_cons_succ]
      refine readyW 17 (some 60) (.fieldAddr 67 (.tmp 59) 1) rfl (by kernel_rfl) ?_
      rintro o K hd ho hg hK
      refine stepY (v := Value.pointer (some ⟨lb, i * 2 + 1, none⟩)) ?hy ?_
      case hy => go_simp
      rw [hd]
      refine hK _ _ (fun _ => k5) ?_
      clear ho hd hg hK
      simp only [Act.put, List.setIfInBounds_toArray, List.set_cons_zero, List.set_cons_succ]
      refine readyW 18 none (.store 43 (.tmp 60) (.tmp 58)) rfl (by kernel_rfl) ?_
      rintro o K hd ho hg hK
      refine step_store1 (.tmp 60) (.tmp 58) ho lb (i * 2 + 1) _ rfl rfl (by kernel_rfl) rfl rfl k5.2 f5 ?_
      rw [hd]
      refine hK _ _ (fun e => absurd rfl e) ?_
      refine doneW (by kernel_rfl) ?_ _
      clear ho hd hg hK
      simp only [Act.put]
      go_wp2_with fail
      go_ret
      exact ⟨rfl, fin.out⟩
  · have hcc : s.c = true ∧ s.l = 0 := by
      cases e : s.c with
      | false => simp [DS.can, e] at hc
      | true => simp [DS.can, e] at hc; exact ⟨rfl, hc⟩
    rw [hcc.1] at c1
    rw [hle hcc.1, hcc.2] at c2
    have HW : Hid (s.wr i xs = s) := by show _ = _; unfold DS.wr; rw [if_neg hc]
    clear hc hcc hle
    go_enter Try.func29, Try.ntmps29
    go_wp2_with fail
    go_ret
    refine ⟨rfl, ?_⟩
    rw [HW.out]
    exact (show Rf R w r s from ⟨lb, cp, A, B, x, W, HX.out⟩).to
end Go.Proofs.Ytmohbkhdloggeaa
