import Derived.Test.YtgpaklifjonlkaaKP33
import Derived.Test.YtgpaklifjonlkaaKP27
import Derived.Test.YtgpaklifjonlkaaKP34
import Derived.Test.YtgpaklifjonlkaaKP06
/-
  The document's Write.
-/
namespace Go.Proofs.Ytgpaklifjonlkaa
open Go.RowKit Go.Maps
set_option linter.unusedVariables false
set_option linter.unusedSimpArgs false
set_option maxRecDepth 100000

section
variable {o : Oper} {a : Act} {w : World} {K : Act → World → Prop} {Q : Exit → Act → World → Prop}
theorem step_store1 (x y : Operand) {ty : TypeId} (ho : o.op = .store ty x y) (b off : Nat) (v : Value) (hx : a.eval x = .pointer (some ⟨b, off, none⟩)) (hy : a.eval y = v) (hi : (Try.prog.info? ty).map (·.size) = some 1) (h1 : v.cells = #[v]) (hone : v.oneCell' = true) {u : Value} (hc : w.cell? ⟨b, off, none⟩ = some u) (hf : w.frozen? ⟨b, off, none⟩ = false)
    (h : K (a.put o.dst undef) (w.setCell ⟨b, off, none⟩ v)) : Oper.wp Try.prog o a w K Q := by
  cases hq : Try.prog.info? ty with
  | none => simp [hq] at hi
  | some j0 =>
    have hs : j0.size = 1 := by simpa [hq] using hi
    have hrun : (Instr.storeAt ty (.pointer (some ⟨b, off, none⟩)) v).run Try.prog w = .ok () (w.setCell ⟨b, off, none⟩ v) := by
      have := run_storeCells_cells (P := Try.prog) b off [v] 0 w (fun j hj => by simp at hj; subst hj; simp [hc]) (fun j hj => by simp at hj; subst hj; simpa using hf) (fun u hu => by simp at hu; subst hu; exact hone)
      simp only [Nat.add_zero] at this
      simp [Instr.storeAt, Instr.sureAddr, storeVar, sizeOf, typeInfo, hq, h1, hs, this, World.setCells]
    unfold Oper.wp
    simp [execOp, ho, hx, hy, hrun, Result.andThen]
    exact h
end

theorem list_set_self {L : List (List Int)} {i : Nat} (h : i < L.length) : L.set i (L.getD i []) = L := by
  rw [List.getD_eq_getElem?_getD, List.getElem?_eq_getElem h]
  exact List.set_getElem_self h

/-- A cell of the row is written. -/
theorem row_set1 {w : World} {lb cp n : Nat} {A B : Nat → Value} (h : w.ownsRow 0 70 2 (.slice (some ⟨lb, 0, none⟩) n cp) n (cl n A B)) {i : Nat} (hi : i < n) (v : Value) :
    (w.setCell ⟨lb, i * 2 + 1, none⟩ v).ownsRow 0 70 2 (.slice (some ⟨lb, 0, none⟩) n cp) n (cl n A (updV B i v)) := by
  rw [← cl_set1 A B hi v]
  exact (h.stored (i * 2 + 1) v).1
theorem row_set0 {w : World} {lb cp n : Nat} {A B : Nat → Value} (h : w.ownsRow 0 70 2 (.slice (some ⟨lb, 0, none⟩) n cp) n (cl n A B)) {i : Nat} (hi : i < n) (v : Value) :
    (w.setCell ⟨lb, i * 2, none⟩ v).ownsRow 0 70 2 (.slice (some ⟨lb, 0, none⟩) n cp) n (cl n (updV A i v) B) := by
  rw [← cl_set0 A B hi v]
  exact (h.stored (i * 2) v).1

theorem refWrite_range {R : Nat → Prop} {r : Nat} {s : DS} (at_ : Int) (a : Option Addr) (len cap : Nat) (w : World) (h : Rf R w r s) (hb : at_ < 0 ∨ (s.L.length : Int) ≤ at_) :
    Calls Try.prog 57 #[dp r, .int .i64 at_, .slice a len cap] w fun e w' => e = .returned (.int .i64 2) ∧ w' = w := by
  obtain ⟨lb, cp, A, B, x, W, h⟩ := h
  have c0 := h.c0
  obtain ⟨n, hn⟩ : ∃ n, s.L.length = n := ⟨_, rfl⟩
  rw [hn] at c0 hb
  clear h hn
  by_cases h0 : at_ < 0
  · go_enter Try.func57, Try.ntmps57
    go_wp2_with fail
    go_ret
    exact ⟨rfl, rfl⟩
  · have h1 : at_ ≥ (n : Int) := by omega
    go_enter Try.func57, Try.ntmps57
    go_wp2_with fail
    go_ret
    exact ⟨rfl, rfl⟩

theorem refWrite_len {R : Nat → Prop} {r : Nat} {s : DS} (i : Nat) (a : Option Addr) (len cap : Nat) (w : World) (h : Rf R w r s) (hi : i < s.L.length) (hl : len ≠ 256) (hm : len ≤ maxLen) :
    Calls Try.prog 57 #[dp r, .int .i64 (i : Int), .slice a len cap] w fun e w' => e = .returned (.int .i64 1) ∧ w' = w := by
  obtain ⟨lb, cp, A, B, x, W, h⟩ := h
  have c0 := h.c0
  obtain ⟨n, hn⟩ : ∃ n, s.L.length = n := ⟨_, rfl⟩
  rw [hn] at c0 hi
  clear h hn
  have h0 : ¬ (i : Int) < 0 := by omega
  have h1 : ¬ (i : Int) ≥ (n : Int) := by omega
  have hl2 : ((len : Int) == 256) = false := by rw [beq_eq_false_iff_ne]; omega
  go_enter Try.func57, Try.ntmps57
  go_wp2_with fail
  go_ret
  exact ⟨rfl, rfl⟩

/-- One less is left. -/
theorem RfAt.less {R : Nat → Prop} {w : World} {r : Nat} {s : DS} {lb cp : Nat} {A B : Nat → Value} {x : Int} {W : Nat → List Value} (h : RfAt R w r s lb cp A B x W) (hc : s.can = true) (x' : Int) (hx : x' = wrap64 (x - 1)) : RfAt R (w.setCell ⟨r, 2, none⟩ (.int .i64 x')) r s.tick lb cp A B x' W := by
  have hb : -9223372036854775808 ≤ x' ∧ x' ≤ 9223372036854775807 := by
    rw [hx]
    unfold wrap64
    omega
  have h30 := h.l30
  by_cases e : s.c = true
  · have hx0 := h.left e
    have hl : s.l ≠ 0 := fun e2 => by simp [DS.can, e, e2] at hc
    have := h.set2 (s.l - 1) x' (by omega) (fun _ => by rw [hx, hx0]; unfold wrap64; omega) hb.1 hb.2
    unfold DS.tick
    rw [if_pos e]
    exact this
  · have := h.set2 s.l x' h30 (fun e2 => absurd e2 e) hb.1 hb.2
    unfold DS.tick
    rw [if_neg e]
    exact this

set_option maxHeartbeats 2000000 in
theorem refWrite_ok {R : Nat → Prop} {r : Nat} {s : DS} (i : Nat) (v : Value) (xs : List Int) (w : World) (h : Rf R w r s) (hi : i < s.L.length) (hr : Rd .u8 w v xs) (hx : xs.length = 256) (hy : By xs) (hv : ∀ k, v.ownBlock = some k → ¬ R k) (hm : (s.V i).length < 1000000000000) :
    Calls Try.prog 57 #[dp r, .int .i64 (i : Int), v] w fun e w' => e = .returned (.int .i64 0) ∧ RfTo R w w' r (s.wr i xs) := by
  obtain ⟨lb, cp, A, B, x, W, h⟩ := h
  have HR : Hid (Rd .u8 w v xs) := hr
  obtain ⟨va, vcap, rfl, hvl⟩ := hr
  rw [hx] at HR hv ⊢
  have c0 := h.c0
  have c1 := h.c1
  have c2 := h.c2
  have f2 := h.fz 2
  have HX : Hid (RfAt R w r s lb cp A B x W) := h
  have HXL : Hid (xs.length = 256) := hx
  have HBY : Hid (By xs) := hy
  have HV : Hid (∀ k, (Value.slice va 256 vcap).ownBlock = some k → ¬ R k) := hv
  have HI : Hid (i < s.L.length) := hi
  have HM : Hid ((s.V i).length < 1000000000000) := hm
  obtain ⟨n, hn⟩ : ∃ n, s.L.length = n := ⟨_, rfl⟩
  have HN : Hid (s.L.length = n) := hn
  rw [hn] at c0 hi
  have h0 : ¬ (i : Int) < 0 := by omega
  have h1 : ¬ (i : Int) ≥ (n : Int) := by omega
  have hi0 : (0 : Int) ≤ (i : Int) := by omega
  have hin : (i : Int) < (n : Int) := by omega
  have hle := h.left
  clear h hn hvl hx hy hv hm
  by_cases hc : s.can = true
  · obtain ⟨x', hx'⟩ : ∃ x', wrap64 (x - 1) = x' := ⟨_, rfl⟩
    have HL1 : Hid (RfAt R (w.setCell ⟨r, 2, none⟩ (.int .i64 x')) r s.tick lb cp A B x' W) := HX.out.less hc x' hx'.symm
    have HWR : Hid (s.wr i xs = { s.tick with L := s.tick.L.set i (s.tick.L.getD i []), V := vput s.tick.V i (s.tick.V i ++ [xs]) }) := by
      show _ = _
      rw [list_set_self (L := s.tick.L) HI.out]
      unfold DS.wr
      rw [hc]
      rfl
    obtain ⟨W1, hW1⟩ : ∃ W1, w.setCell ⟨r, 2, none⟩ (.int .i64 x') = W1 := ⟨_, rfl⟩
    have T1 : Hid (Tch R w W1) := by rw [← hW1]; exact (tch_set w r 2 _).mono (fun k _ e => by rw [e]; exact HX.out.rr)
    have R1 : Hid (Rd .u8 W1 (.slice va 256 vcap) xs) := by rw [← hW1]; exact HR.out.tch (tch_set w r 2 _) (fun k hk e => HV.out k hk (by rw [e]; exact HX.out.rr))
    rw [hW1] at HL1
    have HT1 : Hid (s.tick.L = s.L ∧ s.tick.V = s.V) := ⟨rfl, rfl⟩
    have HSC : (s.c = false) ∨ (s.c = true ∧ ((x == 0) = false)) := by
      cases e : s.c with
      | false => exact .inl rfl
      | true =>
        refine .inr ⟨rfl, ?_⟩
        rw [hle e, beq_eq_false_iff_ne]
        intro e2
        simp [DS.can, e] at hc
        omega
    generalize hs1 : s.tick = s1 at HL1 HWR HT1
    have HM1 : Hid ((s1.V i).length < 1000000000000) := by rw [HT1.out.2]; exact HM.out
    have HI1 : Hid (i < s1.L.length) := by rw [HT1.out.1]; exact HI.out
    have HN1 : Hid (s1.L.length = n) := by rw [HT1.out.1]; exact HN.out
    clear hs1 hc HR hle HM HT1
    obtain ⟨bv, hbv⟩ : ∃ bv, B i = bv := ⟨_, rfl⟩
    have HSTEP : Hid (∀ ov W2, Owns .u8 5 W2 ov xs → Below W1.heap.size W1 W2 → (∀ k, ov.ownBlock = some k → W1.heap.size ≤ k) →
        (W2.cell? ⟨r, 0, none⟩ = some (.slice (some ⟨lb, 0, none⟩) n cp) ∧ W2.cell? ⟨lb, i * 2 + 1, none⟩ = some bv) ∧
        (((W2.alloc (.cells #[ov] 38)).drew).cell? ⟨r, 0, none⟩ = some (.slice (some ⟨lb, 0, none⟩) n cp) ∧ ((W2.alloc (.cells #[ov] 38)).drew).cell? ⟨lb, i * 2 + 1, none⟩ = some bv) ∧
        ((W2.alloc (.cells #[ov] 38)).drew).ownsRow 0 38 1 bv (W i).length (W i) ∧ (W i).length + 1 ≤ 2000000000000 ∧
        ∀ v5 w5, w5.ownsRow 0 38 1 v5 (W i ++ [ov]).length (W i ++ [ov]) → ((W2.alloc (.cells #[ov] 38)).drew).grownBy w5 bv.ownBlock → (∀ k, v5.ownBlock = some k → bv.ownBlock = some k ∨ ((W2.alloc (.cells #[ov] 38)).drew).heap.size ≤ k) →
          (w5.cell? ⟨r, 0, none⟩ = some (.slice (some ⟨lb, 0, none⟩) n cp) ∧ w5.cell? ⟨lb, i * 2 + 1, none⟩ = some bv) ∧ w5.frozen? ⟨lb, i * 2 + 1, none⟩ = false ∧ Hid (RfTo R w (w5.setCell ⟨lb, i * 2 + 1, none⟩ v5) r (s.wr i xs))) := by
      intro ov W2 ho2 hb2 hf2
      have X2 : RfAt R W2 r s1 lb cp A B x' W := HL1.out.tch (S := fun _ => False) (Tch.of_below hb2) (fun _ _ e => e)
      have TA : Tch (fun _ => False) W2 (W2.alloc (.cells #[ov] 38)).drew := Tch.drew (Tch.alloc (Tch.refl _ W2) _)
      have XA : RfAt R (W2.alloc (.cells #[ov] 38)).drew r s1 lb cp A B x' W := X2.tch TA (fun _ _ e => e)
      have c0 : ∀ w', RfAt R w' r s1 lb cp A B x' W → w'.cell? ⟨r, 0, none⟩ = some (.slice (some ⟨lb, 0, none⟩) n cp) ∧ w'.cell? ⟨lb, i * 2 + 1, none⟩ = some bv := fun w' h => by
        have h1 := h.c0
        rw [HN1.out] at h1
        have h2 := h.cb HI1.out
        rw [hbv] at h2
        exact ⟨h1, h2⟩
      have hWl : (W i).length = (s1.V i).length := by have := (X2.lv i HI1.out).1; omega
      have hbA := XA.lv i HI1.out
      rw [hbv, ← hWl] at hbA
      refine ⟨c0 _ X2, c0 _ XA, hbA, by have := HM1.out; omega, fun v5 w5 ho5 hg5 hf5 => ?_⟩
      have hbne : ∀ k, bv.ownBlock = some k → k ≠ r ∧ k ≠ lb := fun k hk => X2.b_ne HI1.out (by rw [hbv]; exact hk)
      have T5 : Tch (fun k => bv.ownBlock = some k) W2 w5 := (TA.mono (S' := fun k => bv.ownBlock = some k) (fun _ _ e => e.elim)).trans (Tch.of_grown hg5) (fun _ _ e => e)
      have hlbl := X2.rlt _ X2.rl
      have e1 : w5.cell? ⟨r, 0, none⟩ = some (.slice (some ⟨lb, 0, none⟩) n cp) := by rw [T5.cell (p := ⟨r, 0, none⟩) X2.lt (fun e => (hbne r e).1 rfl)]; exact (c0 _ X2).1
      have e2 : w5.cell? ⟨lb, i * 2 + 1, none⟩ = some bv := by rw [T5.cell (p := ⟨lb, i * 2 + 1, none⟩) hlbl (fun e => (hbne lb e).2 rfl)]; exact (c0 _ X2).2
      have e3 : w5.frozen? ⟨lb, i * 2 + 1, none⟩ = false := by rw [T5.frozen (p := ⟨lb, i * 2 + 1, none⟩) hlbl (fun e => (hbne lb e).2 rfl)]; exact X2.fl _
      refine ⟨⟨e1, e2⟩, e3, ?_⟩
      have T6 := tch_set w5 lb (i * 2 + 1) v5
      have TT : Tch (fun k => k = lb ∨ (B i).ownBlock = some k) W2 (w5.setCell ⟨lb, i * 2 + 1, none⟩ v5) := by
        rw [hbv]
        exact (T5.mono (S' := fun k => k = lb ∨ bv.ownBlock = some k) (fun k _ e => .inr e)).trans T6 (fun k _ e => .inl e)
      have hrow5 : w5.ownsRow 0 70 2 (.slice (some ⟨lb, 0, none⟩) s1.L.length cp) s1.L.length (cl s1.L.length A B) := T5.owns X2.row (fun k e => by cases e; exact fun e => (hbne lb e).2 rfl)
      have hrow6 := row_set1 hrow5 HI1.out v5
      rw [cl_congr (A' := updV A i (A i)) (B' := updV B i v5) (fun j _ => by unfold updV; split <;> simp_all) (fun _ _ => rfl)] at hrow6
      have hneY : ∀ v ys k, Owns .u8 5 W2 v ys → v.ownBlock = some k → ¬ (k = lb ∨ (B i).ownBlock = some k) := fun v ys k ho hk e => by
        have := X2.y_ne ho hk
        rcases e with e | e
        · exact this.2.1 e
        · exact this.2.2 i HI1.out e
      have hL := X2.la i HI1.out
      have hv5 : ∀ k, v5.ownBlock = some k → k ≠ lb := fun k hk e => by
        rcases hf5 k hk with e2 | e2
        · exact (hbne k e2).2 e
        · simp at e2; omega
      have X2m := X2.mono (R2 := fun k => R k ∨ ov.ownBlock = some k) (fun k hk => .inl hk) (fun k hk => by
        rcases hk with hk | hk
        · exact X2.rlt k hk
        · exact ho2.lt k hk)
      have hput := X2m.put (w' := w5.setCell ⟨lb, i * 2 + 1, none⟩ v5) HI1.out (A i) v5 (s1.L.getD i []) (s1.V i ++ [xs]) (W i ++ [ov]) TT hrow6 (hL.tch TT (fun k hk => hneY _ _ k hL hk))
        (by
          have := T6.owns ho5 (fun k hk => hv5 k hk)
          have e : (W i ++ [ov]).length = (s1.V i ++ [xs]).length := by simp [hWl]
          rw [← e]
          exact this)
        (fun j v hj => by
          rw [List.getElem?_append] at hj
          rw [List.getD_eq_getElem?_getD, List.getElem?_append]
          split at hj
          · rename_i hjl
            rw [if_pos (by omega), ← List.getD_eq_getElem?_getD]
            have hw := X2.lw i j v HI1.out hj
            exact hw.tch TT (fun k hk => hneY _ _ k hw hk)
          · rename_i hjl
            rw [if_neg (by omega)]
            have hj0 : j - (W i).length = 0 := by
              have := (List.getElem?_eq_some_iff.1 hj).1
              simp at this
              omega
            rw [hj0] at hj
            rw [← hWl, hj0]
            simp at hj
            subst hj
            exact ho2.tch TT (fun k hk => hneY _ _ k ho2 hk))
        (X2.okL.get HI1.out) ((X2.okV i).app (SOk.one HXL.out HBY.out)) (fun k hk => .inl (.inl (X2.ra i k HI1.out hk)))
        (fun k hk => by
          rw [hbv]
          rcases hf5 k hk with e | e
          · exact .inl e
          · exact .inr (by simp at e; omega))
        (fun j v k hj hk => by
          rw [List.getElem?_append] at hj
          split at hj
          · exact .inl (.inl (X2.rv i j v k HI1.out hj hk))
          · rename_i hjl
            have hj0 : j - (W i).length = 0 := by
              have := (List.getElem?_eq_some_iff.1 hj).1
              simp at this
              omega
            rw [hj0] at hj
            simp at hj
            subst hj
            exact .inl (.inr hk))
      obtain ⟨R', h1, h2, h3⟩ := hput
      refine ⟨R', ?_, ?_, fun k hk => ?_⟩
      · rw [HWR.out]; exact h1
      · refine Tch.trans (S := R) (S' := fun k => R k ∨ ov.ownBlock = some k) (Tch.trans (S := R) (S' := R) T1.out (Tch.of_below hb2) (fun _ _ e => e)) h2 (fun k hk e => ?_)
        rcases e with e | e
        · exact e
        · have := hf2 k e; have := T1.out.size; omega
      · rcases h3 k hk with (e | e) | e
        · exact .inl e
        · exact .inr (Nat.le_trans T1.out.size (hf2 k e))
        · exact .inr (Nat.le_trans (Nat.le_trans T1.out.size hb2.size) e)
    clear hbv
    rcases HSC with hsc | ⟨hsc, hx0⟩
    · rw [hsc] at c1
      clear hsc
      go_enter Try.func57, Try.ntmps57
      go_wp2_with (at_builtin; refine Hid.out ?_)
      refine hideP ?_
      refine wpList_many W1 rfl (.tmp 40) (.tmp 41) 38 rfl 5 .u8 1 elem8 (.slice none 0 0) [] rfl (owns_nil _ _ _) _ xs rfl R1.out (by rw [HXL.out]; decide) (by rw [HXL.out]; decide) ?_
      intro ov W2 ho2 hg2
      obtain ⟨hS0, hS2, hbv2, hlb2, hpost⟩ := HSTEP.out ov W2 ho2 hg2.below.1 hg2.below.2
      have HOV : Hid (IsSl ov) := ho2.isSl
      have HCV : Hid (((W2.alloc (.cells #[ov] 38)).drew).cell? ⟨W2.heap.size, 0, none⟩ = some ov) := by
        show _ = _
        have := cell_of_row (W2.alloc (.cells #[ov] 38)) W2.heap.size 0 _ _ (0, 0) (heap_alloc_new W2 (.cells #[ov] 38))
        exact this
      have HBV : Hid (((W2.alloc (.cells #[ov] 38)).drew).ownsRow 0 38 1 bv (W i).length (W i)) := hbv2
      have HLB : Hid ((W i).length + 1 ≤ 2000000000000) := hlb2
      have HPOST := hideP hpost
      have hS : W2.drew.cell? ⟨r, 0, none⟩ = some (.slice (some ⟨lb, 0, none⟩) n cp) ∧ W2.drew.cell? ⟨lb, i * 2 + 1, none⟩ = some bv := hS0
      clear ho2 hg2 hbv2 hlb2 hpost hS0 hW1 hx'
      go_wp2_with fail
      refine beginW (S := fun w' => w'.cell? ⟨r, 0, none⟩ = some (.slice (some ⟨lb, 0, none⟩) n cp) ∧ w'.cell? ⟨lb, i * 2 + 1, none⟩ = some bv) (t := 18) (by kernel_rfl) ?_
      refine takeW 0 (some 43) (.move (.tmp 0)) (Value.pointer (some ⟨r, 0, none⟩)) rfl rfl (by kernel_rfl) (by kernel_rfl) (by kernel_rfl) (by kernel_rfl) (fun _ _ _ h => h) ?hy hS ?_
      case hy =>
        rintro o ho w' ⟨hS1, hS2⟩
        go_simp
      simp only [Act.put, List.setIfInBounds_toArray, List.set_cons_zero, List.set_cons_succ]
      refine takeW 1 (some 44) (.nilCheck (.tmp 43)) (Value.pointer (some ⟨r, 0, none⟩)) rfl rfl (by kernel_rfl) (by kernel_rfl) (by kernel_rfl) (by kernel_rfl) (fun _ _ _ h => h) ?hy hS ?_
      case hy =>
        rintro o ho w' ⟨hS1, hS2⟩
        go_simp
      simp only [Act.put, List.setIfInBounds_toArray, List.set_cons_zero, List.set_cons_succ]
      refine takeW 2 (some 45) (.fieldAddr 67 (.tmp 44) 0) (Value.pointer (some ⟨r, 0, none⟩)) rfl rfl (by kernel_rfl) (by kernel_rfl) (by kernel_rfl) (by kernel_rfl) (fun _ _ _ h => h) ?hy hS ?_
      case hy =>
        rintro o ho w' ⟨hS1, hS2⟩
        go_simp
      simp only [Act.put, List.setIfInBounds_toArray, List.set_cons_zero, List.set_cons_succ]
      refine takeW 3 (some 46) (.load 65 (.tmp 45)) (Value.slice (some ⟨lb, 0, none⟩) n cp) rfl rfl (by kernel_rfl) (by kernel_rfl) (by kernel_rfl) (by kernel_rfl) (fun _ _ _ h => h) ?hy hS ?_
      case hy =>
        rintro o ho w' ⟨hS1, hS2⟩
        go_simp
      simp only [Act.put, List.setIfInBounds_toArray, List.set_cons_zero, List.set_cons_succ]
      refine takeW 4 (some 47) (.move (.tmp 1)) (Value.int .i64 (i : Int)) rfl rfl (by kernel_rfl) (by kernel_rfl) (by kernel_rfl) (by kernel_rfl) (fun _ _ _ h => h) ?hy hS ?_
      case hy =>
        rintro o ho w' ⟨hS1, hS2⟩
        go_simp
      simp only [Act.put, List.setIfInBounds_toArray, List.set_cons_zero, List.set_cons_succ]
      refine takeW 5 (some 48) (.move (.tmp 0)) (Value.pointer (some ⟨r, 0, none⟩)) rfl rfl (by kernel_rfl) (by kernel_rfl) (by kernel_rfl) (by kernel_rfl) (fun _ _ _ h => h) ?hy hS ?_
      case hy =>
        rintro o ho w' ⟨hS1, hS2⟩
        go_simp
      simp only [Act.put, List.setIfInBounds_toArray, List.set_cons_zero, List.set_cons_succ]
      refine takeW 6 (some 49) (.nilCheck (.tmp 48)) (Value.pointer (some ⟨r, 0, none⟩)) rfl rfl (by kernel_rfl) (by kernel_rfl) (by kernel_rfl) (by kernel_rfl) (fun _ _ _ h => h) ?hy hS ?_
      case hy =>
        rintro o ho w' ⟨hS1, hS2⟩
        go_simp
      simp only [Act.put, List.setIfInBounds_toArray, List.set_cons_zero, List.set_cons_succ]
      refine takeW 7 (some 50) (.fieldAddr 67 (.tmp 49) 0) (Value.pointer (some ⟨r, 0, none⟩)) rfl rfl (by kernel_rfl) (by kernel_rfl) (by kernel_rfl) (by kernel_rfl) (fun _ _ _ h => h) ?hy hS ?_
      case hy =>
        rintro o ho w' ⟨hS1, hS2⟩
        go_simp
      simp only [Act.put, List.setIfInBounds_toArray, List.set_cons_zero, List.set_cons_succ]
      refine takeW 8 (some 51) (.load 65 (.tmp 50)) (Value.slice (some ⟨lb, 0, none⟩) n cp) rfl rfl (by kernel_rfl) (by kernel_rfl) (by kernel_rfl) (by kernel_rfl) (fun _ _ _ h => h) ?hy hS ?_
      case hy =>
        rintro o ho w' ⟨hS1, hS2⟩
        go_simp
      simp only [Act.put, List.setIfInBounds_toArray, List.set_cons_zero, List.set_cons_succ]
      refine takeW 9 (some 52) (.move (.tmp 1)) (Value.int .i64 (i : Int)) rfl rfl (by kernel_rfl) (by kernel_rfl) (by kernel_rfl) (by kernel_rfl) (fun _ _ _ h => h) ?hy hS ?_
      case hy =>
        rintro o ho w' ⟨hS1, hS2⟩
        go_simp
      simp only [Act.put, List.setIfInBounds_toArray, List.set_cons_zero, List.set_cons_succ]
      refine takeW 10 (some 53) (.indexAddr 65 (.tmp 51) (.tmp 52)) (Value.pointer (some ⟨lb, i * 2, none⟩)) rfl rfl (by kernel_rfl) (by kernel_rfl) (by kernel_rfl) (by kernel_rfl) (fun _ _ _ h => h) ?hy hS ?_
      case hy =>
        rintro o ho w' ⟨hS1, hS2⟩
        go_simp
      simp only [Act.put, List.setIfInBounds_toArray, List.set_cons_zero, List.set_cons_succ]
      refine takeW 11 (some 54) (.fieldAddr 70 (.tmp 53) 1) (Value.pointer (some ⟨lb, i * 2 + 1, none⟩)) rfl rfl (by kernel_rfl) (by kernel_rfl) (by kernel_rfl) (by kernel_rfl) (fun _ _ _ h => h) ?hy hS ?_
      case hy =>
        rintro o ho w' ⟨hS1, hS2⟩
        go_simp
      simp only [Act.put, List.setIfInBounds_toArray, List.set_cons_zero, List.set_cons_succ]
      refine takeW 12 (some 55) (.load 68 (.tmp 54)) (bv) rfl rfl (by kernel_rfl) (by kernel_rfl) (by kernel_rfl) (by kernel_rfl) (fun _ _ _ h => h) ?hy hS ?_
      case hy =>
        rintro o ho w' ⟨hS1, hS2⟩
        go_simp
      simp only [Act.put, List.setIfInBounds_toArray, List.set_cons_zero, List.set_cons_succ]
      refine takeW 13 (some 56) (.move (.tmp 7)) (ov) rfl rfl (by kernel_rfl) (by kernel_rfl) (by kernel_rfl) (by kernel_rfl) (fun _ _ _ h => h) ?hy hS ?_
      case hy =>
        rintro o ho w' ⟨hS1, hS2⟩
        go_simp
      simp only [Act.put, List.setIfInBounds_toArray, List.set_cons_zero, List.set_cons_succ]
      refine readyW 14 (some 57) (.buildSlice 68 1 #[(0, .tmp 56)]) rfl (by kernel_rfl) ?_
      rintro o K hd ho hg hK
      refine step_buildV (.tmp 56) ho ov rfl HOV.out ?_
      rw [hd]
      refine hK _ _ (fun _ => hS2) ?_
      simp only [Act.put, List.setIfInBounds_toArray, List.set_cons_zero, List.set_cons_succ]
      refine readyW 15 (some 58) (.call { callee := .builtin .append, args := #[.tmp 55, .tmp 57], argTypes := #[68, 68] }) rfl (by kernel_rfl) ?_
      rintro o K hd ho hg hK
      refine step_appV (w := (W2.alloc (.cells #[ov] 38)).drew) (.tmp 55) (.tmp 57) ho bv (W i) rfl HBV.out W2.heap.size ov rfl HOV.out HCV.out HLB.out ?_
      intro v5 w5 ho5 hg5 hf5
      obtain ⟨k5, f5, fin⟩ := HPOST.out v5 w5 ho5 hg5 hf5
      have hsh := vshape ho5 (by simp)
      obtain ⟨g5, n5, cap5, rfl⟩ := hsh
      clear ho5 hg5 hf5
      rw [hd]
      refine hK _ _ (fun _ => k5) ?_
      simp only [Act.put, List.setIfInBounds_toArray, List.set_cons_zero, List.set_cons_succ]
      clear hS
      have hS := k5
      refine readyW 16 (some 59) (.indexAddr 65 (.tmp 46) (.tmp 47)) rfl (by kernel_rfl) ?_
      rintro o K hd ho hg hK
      refine stepY (v := Value.pointer (some ⟨lb, i * 2, none⟩)) ?hy ?_
      case hy => go_simp
      rw [hd]
      refine hK _ _ (fun _ => k5) ?_
      clear ho hd hg hK
      simp only [Act.put, List.setIfInBounds_toArray, List.set_cons_zero, List.set_cons_succ]
      refine readyW 17 (some 60) (.fieldAddr 70 (.tmp 59) 1) rfl (by kernel_rfl) ?_
      rintro o K hd ho hg hK
      refine stepY (v := Value.pointer (some ⟨lb, i * 2 + 1, none⟩)) ?hy ?_
      case hy => go_simp
      rw [hd]
      refine hK _ _ (fun _ => k5) ?_
      clear ho hd hg hK
      simp only [Act.put, List.setIfInBounds_toArray, List.set_cons_zero, List.set_cons_succ]
      refine readyW 18 none (.store 68 (.tmp 60) (.tmp 58)) rfl (by kernel_rfl) ?_
      rintro o K hd ho hg hK
      refine step_store1 (.tmp 60) (.tmp 58) ho lb (i * 2 + 1) _ rfl rfl (by kernel_rfl) rfl rfl k5.2 f5 ?_
      rw [hd]
      refine hK _ _ (fun e => absurd rfl e) ?_
      refine doneW (by kernel_rfl) ?_ _
      clear ho hd hg hK
      simp only [Act.put]
      go_wp2_with fail
      go_ret
      exact ⟨rfl, fin.out⟩
    · rw [hsc] at c1
      clear hsc
      go_enter Try.func57, Try.ntmps57
      go_wp2_with (at_builtin; refine Hid.out ?_)
      refine hideP ?_
      refine wpList_many W1 rfl (.tmp 40) (.tmp 41) 38 rfl 5 .u8 1 elem8 (.slice none 0 0) [] rfl (owns_nil _ _ _) _ xs rfl R1.out (by rw [HXL.out]; decide) (by rw [HXL.out]; decide) ?_
      intro ov W2 ho2 hg2
      obtain ⟨hS0, hS2, hbv2, hlb2, hpost⟩ := HSTEP.out ov W2 ho2 hg2.below.1 hg2.below.2
      have HOV : Hid (IsSl ov) := ho2.isSl
      have HCV : Hid (((W2.alloc (.cells #[ov] 38)).drew).cell? ⟨W2.heap.size, 0, none⟩ = some ov) := by
        show _ = _
        have := cell_of_row (W2.alloc (.cells #[ov] 38)) W2.heap.size 0 _ _ (0, 0) (heap_alloc_new W2 (.cells #[ov] 38))
        exact this
      have HBV : Hid (((W2.alloc (.cells #[ov] 38)).drew).ownsRow 0 38 1 bv (W i).length (W i)) := hbv2
      have HLB : Hid ((W i).length + 1 ≤ 2000000000000) := hlb2
      have HPOST := hideP hpost
      have hS : W2.drew.cell? ⟨r, 0, none⟩ = some (.slice (some ⟨lb, 0, none⟩) n cp) ∧ W2.drew.cell? ⟨lb, i * 2 + 1, none⟩ = some bv := hS0
      clear ho2 hg2 hbv2 hlb2 hpost hS0 hW1 hx'
      go_wp2_with fail
      refine beginW (S := fun w' => w'.cell? ⟨r, 0, none⟩ = some (.slice (some ⟨lb, 0, none⟩) n cp) ∧ w'.cell? ⟨lb, i * 2 + 1, none⟩ = some bv) (t := 18) (by kernel_rfl) ?_
      refine takeW 0 (some 43) (.move (.tmp 0)) (Value.pointer (some ⟨r, 0, none⟩)) rfl rfl (by kernel_rfl) (by kernel_rfl) (by kernel_rfl) (by kernel_rfl) (fun _ _ _ h => h) ?hy hS ?_
      case hy =>
        rintro o ho w' ⟨hS1, hS2⟩
        go_simp
      simp only [Act.put, List.setIfInBounds_toArray, List.set_cons_zero, List.set_cons_succ]
      refine takeW 1 (some 44) (.nilCheck (.tmp 43)) (Value.pointer (some ⟨r, 0, none⟩)) rfl rfl (by kernel_rfl) (by kernel_rfl) (by kernel_rfl) (by kernel_rfl) (fun _ _ _ h => h) ?hy hS ?_
      case hy =>
        rintro o ho w' ⟨hS1, hS2⟩
        go_simp
      simp only [Act.put, List.setIfInBounds_toArray, List.set_cons_zero, List.set_cons_succ]
      refine takeW 2 (some 45) (.fieldAddr 67 (.tmp 44) 0) (Value.pointer (some ⟨r, 0, none⟩)) rfl rfl (by kernel_rfl) (by kernel_rfl) (by kernel_rfl) (by kernel_rfl) (fun _ _ _ h => h) ?hy hS ?_
      case hy =>
        rintro o ho w' ⟨hS1, hS2⟩
        go_simp
      simp only [Act.put, List.setIfInBounds_toArray, List.set_cons_zero, List.set_cons_succ]
      refine takeW 3 (some 46) (.load 65 (.tmp 45)) (Value.slice (some ⟨lb, 0, none⟩) n cp) rfl rfl (by kernel_rfl) (by kernel_rfl) (by kernel_rfl) (by kernel_rfl) (fun _ _ _ h => h) ?hy hS ?_
      case hy =>
        rintro o ho w' ⟨hS1, hS2⟩
        go_simp
      simp only [Act.put, List.setIfInBounds_toArray, List.set_cons_zero, List.set_cons_succ]
      refine takeW 4 (some 47) (.move (.tmp 1)) (Value.int .i64 (i : Int)) rfl rfl (by kernel_rfl) (by kernel_rfl) (by kernel_rfl) (by kernel_rfl) (fun _ _ _ h => h) ?hy hS ?_
      case hy =>
        rintro o ho w' ⟨hS1, hS2⟩
        go_simp
      simp only [Act.put, List.setIfInBounds_toArray, List.set_cons_zero, List.set_cons_succ]
      refine takeW 5 (some 48) (.move (.tmp 0)) (Value.pointer (some ⟨r, 0, none⟩)) rfl rfl (by kernel_rfl) (by kernel_rfl) (by kernel_rfl) (by kernel_rfl) (fun _ _ _ h => h) ?hy hS ?_
      case hy =>
        rintro o ho w' ⟨hS1, hS2⟩
        go_simp
      simp only [Act.put, List.setIfInBounds_toArray, List.set_cons_zero, List.set_cons_succ]
      refine takeW 6 (some 49) (.nilCheck (.tmp 48)) (Value.pointer (some ⟨r, 0, none⟩)) rfl rfl (by kernel_rfl) (by kernel_rfl) (by kernel_rfl) (by kernel_rfl) (fun _ _ _ h => h) ?hy hS ?_
      case hy =>
        rintro o ho w' ⟨hS1, hS2⟩
        go_simp
      simp only [Act.put, List.setIfInBounds_toArray, List.set_cons_zero, List.set_cons_succ]
      refine takeW 7 (some 50) (.fieldAddr 67 (.tmp 49) 0) (Value.pointer (some ⟨r, 0, none⟩)) rfl rfl (by kernel_rfl) (by kernel_rfl) (by kernel_rfl) (by kernel_rfl) (fun _ _ _ h => h) ?hy hS ?_
      case hy =>
        rintro o ho w' ⟨hS1, hS2⟩
        go_simp
      simp only [Act.put, List.setIfInBounds_toArray, List.set_cons_zero, List.set_cons_succ]
      refine takeW 8 (some 51) (.load 65 (.tmp 50)) (Value.slice (some ⟨lb, 0, none⟩) n cp) rfl rfl (by kernel_rfl) (by kernel_rfl) (by kernel_rfl) (by kernel_rfl) (fun _ _ _ h => h) ?hy hS ?_
      case hy =>
        rintro o ho w' ⟨hS1, hS2⟩
        go_simp
      simp only [Act.put, List.setIfInBounds_toArray, List.set_cons_zero, List.set_cons_succ]
      refine takeW 9 (some 52) (.move (.tmp 1)) (Value.int .i64 (i : Int)) rfl rfl (by kernel_rfl) (by kernel_rfl) (by kernel_rfl) (by kernel_rfl) (fun _ _ _ h => h) ?hy hS ?_
      case hy =>
        rintro o ho w' ⟨hS1, hS2⟩
        go_simp
      simp only [Act.put, List.setIfInBounds_toArray, List.set_cons_zero, List.set_cons_succ]
      refine takeW 10 (some 53) (.indexAddr 65 (.tmp 51) (.tmp 52)) (Value.pointer (some ⟨lb, i * 2, none⟩)) rfl rfl (by kernel_rfl) (by kernel_rfl) (by kernel_rfl) (by kernel_rfl) (fun _ _ _ h => h) ?hy hS ?_
      case hy =>
        rintro o ho w' ⟨hS1, hS2⟩
        go_simp
      simp only [Act.put, List.setIfInBounds_toArray, List.set_cons_zero, List.set_cons_succ]
      refine takeW 11 (some 54) (.fieldAddr 70 (.tmp 53) 1) (Value.pointer (some ⟨lb, i * 2 + 1, none⟩)) rfl rfl (by kernel_rfl) (by kernel_rfl) (by kernel_rfl) (by kernel_rfl) (fun _ _ _ h => h) ?hy hS ?_
      case hy =>
        rintro o ho w' ⟨hS1, hS2⟩
        go_simp
      simp only [Act.put, List.setIfInBounds_toArray, List.set_cons_zero, List.set_cons_succ]
      refine takeW 12 (some 55) (.load 68 (.tmp 54)) (bv) rfl rfl (by kernel_rfl) (by kernel_rfl) (by kernel_rfl) (by kernel_rfl) (fun _ _ _ h => h) ?hy hS ?_
      case hy =>
        rintro o ho w' ⟨hS1, hS2⟩
        go_simp
      simp only [Act.put, List.setIfInBounds_toArray, List.set_cons_zero, List.set_cons_succ]
      refine takeW 13 (some 56) (.move (.tmp 7)) (ov) rfl rfl (by kernel_rfl) (by kernel_rfl) (by kernel_rfl) (by kernel_rfl) (fun _ _ _ h => h) ?hy hS ?_
      case hy =>
        rintro o ho w' ⟨hS1, hS2⟩
        go_simp
      simp only [Act.put, List.setIfInBounds_toArray, List.set_cons_zero, List.set_cons_succ]
      refine readyW 14 (some 57) (.buildSlice 68 1 #[(0, .tmp 56)]) rfl (by kernel_rfl) ?_
      rintro o K hd ho hg hK
      refine step_buildV (.tmp 56) ho ov rfl HOV.out ?_
      rw [hd]
      refine hK _ _ (fun _ => hS2) ?_
      simp only [Act.put, List.setIfInBounds_toArray, List.set_cons_zero, List.set_cons_succ]
      refine readyW 15 (some 58) (.call { callee := .builtin .append, args := #[.tmp 55, .tmp 57], argTypes := #[68, 68] }) rfl (by kernel_rfl) ?_
      rintro o K hd ho hg hK
      refine step_appV (w := (W2.alloc (.cells #[ov] 38)).drew) (.tmp 55) (.tmp 57) ho bv (W i) rfl HBV.out W2.heap.size ov rfl HOV.out HCV.out HLB.out ?_
      intro v5 w5 ho5 hg5 hf5
      obtain ⟨k5, f5, fin⟩ := HPOST.out v5 w5 ho5 hg5 hf5
      have hsh := vshape ho5 (by simp)
      obtain ⟨g5, n5, cap5, rfl⟩ := hsh
      clear ho5 hg5 hf5
      rw [hd]
      refine hK _ _ (fun _ => k5) ?_
      simp only [Act.put, List.setIfInBounds_toArray, List.set_cons_zero, List.set_cons_succ]
      clear hS
      have hS := k5
      refine readyW 16 (some 59) (.indexAddr 65 (.tmp 46) (.tmp 47)) rfl (by kernel_rfl) ?_
      rintro o K hd ho hg hK
      refine stepY (v := Value.pointer (some ⟨lb, i * 2, none⟩)) ?hy ?_
      case hy => go_simp
      rw [hd]
      refine hK _ _ (fun _ => k5) ?_
      clear ho hd hg hK
      simp only [Act.put, List.setIfInBounds_toArray, List.set_cons_zero, List.set_cons_succ]
      refine readyW 17 (some 60) (.fieldAddr 70 (.tmp 59) 1) rfl (by kernel_rfl) ?_
      rintro o K hd ho hg hK
      refine stepY (v := Value.pointer (some ⟨lb, i * 2 + 1, none⟩)) ?hy ?_
      case hy => go_simp
      rw [hd]
      refine hK _ _ (fun _ => k5) ?_
      clear ho hd hg hK
      simp only [Act.put, List.setIfInBounds_toArray, List.set_cons_zero, List.set_cons_succ]
      refine readyW 18 none (.store 68 (.tmp 60) (.tmp 58)) rfl (by kernel_rfl) ?_
      rintro o K hd ho hg hK
      refine step_store1 (.tmp 60) (.tmp 58) ho lb (i * 2 + 1) _ rfl rfl (by kernel_rfl) rfl rfl k5.2 f5 ?_
      rw [hd]
      refine hK _ _ (fun e => absurd rfl e) ?_
      refine doneW (by kernel_rfl) ?_ _
      clear ho hd hg hK
      simp only [Act.put]
      go_wp2_with fail
      go_ret
      exact ⟨rfl, fin.out⟩
  · have hcc : s.c = true ∧ s.l = 0 := by
      cases e : s.c with
      | false => simp [DS.can, e] at hc
      | true => simp [DS.can, e] at hc; exact ⟨rfl, hc⟩
    rw [hcc.1] at c1
    rw [hle hcc.1, hcc.2] at c2
    have HW : Hid (s.wr i xs = s) := by show _ = _; unfold DS.wr; rw [if_neg hc]
    clear hc hcc hle
    go_enter Try.func57, Try.ntmps57
    go_wp2_with fail
    go_ret
    refine ⟨rfl, ?_⟩
    rw [HW.out]
    exact (show Rf R w r s from ⟨lb, cp, A, B, x, W, HX.out⟩).to
end Go.Proofs.Ytgpaklifjonlkaa
/-
  A new disk: the document's.
-/
namespace Go.Proofs.Ytgpaklifjonlkaa
open Go.RowKit Go.Maps
set_option linter.unusedVariables false
set_option linter.unusedSimpArgs false
set_option maxRecDepth 100000

theorem info_cell : (Try.prog.info? 70).map (fun i => (i.zero, i.size, i.bytes)) = some (some (.agg #[.slice none 0 0, .slice none 0 0]), 2, 48) := by kernel_rfl
theorem info_byte : (Try.prog.info? 5).map (fun i => (i.zero, i.size, i.bytes)) = some (some (.int .u8 0), 1, 1) := by kernel_rfl

theorem cl_app (k : Nat) (A : Nat → Value) (u z : Value) : cl (k + 1) (updV A k u) (fun _ => z) = cl k A (fun _ => z) ++ [u, z] := by
  apply List.ext_getElem?
  intro j
  rw [List.getElem?_append, cl_len]
  unfold cl
  by_cases h : j < k * 2
  · rw [if_pos h, List.getElem?_map, List.getElem?_map, List.getElem?_range (by omega), List.getElem?_range h]
    simp only [Option.map_some, Option.some.injEq]
    by_cases e : j % 2 = 0
    · rw [if_pos e, if_pos e, updV, if_neg (by omega)]
    · rw [if_neg e, if_neg e]
  · rw [if_neg h, List.getElem?_map]
    by_cases h0 : j = k * 2
    · subst h0
      rw [List.getElem?_range (by omega)]
      simp [updV]
    · by_cases h1 : j = k * 2 + 1
      · subst h1
        rw [List.getElem?_range (by omega), show k * 2 + 1 - k * 2 = 1 by omega]
        simp only [Option.map_some]
        rw [if_neg (by omega)]
        rfl
      · rw [List.getElem?_eq_none (by simp; omega), List.getElem?_eq_none (by simp; omega)]
        rfl

theorem ownsRow_zero {w : World} {base : Nat} {e : TypeId} {size n : Nat} {v : Value} {xs : List Value} (h : w.ownsRow base e size v n xs) : w.ownsRow 0 e size v n xs := by
  refine ⟨h.1, ?_⟩
  rcases h.2 with h2 | ⟨g, cap, cur, h1, h2, h3⟩
  · exact .inl h2
  · exact .inr ⟨g, cap, cur, h1, Nat.zero_le _, h3⟩

section
variable {o : Oper} {a : Act} {w : World} {K : Act → World → Prop} {Q : Exit → Act → World → Prop}
theorem step_make256 (ho : o.op = Op.makeSlice 38 (.const (.int .i64 256)) (.const (.int .i64 256)))
    (h : ∀ w', Owns .u8 5 w' (.slice (some ⟨w.heap.size, 0, none⟩) 256 256) zz → w.grownBy w' none → K (a.put o.dst (.slice (some ⟨w.heap.size, 0, none⟩) 256 256)) w') : Oper.wp Try.prog o a w K Q := by
  obtain ⟨j0, hj, hy0, hy1, hy2⟩ := info_parts info_byte
  obtain ⟨w', hrun, r1, r2⟩ := run_make_full (P := Try.prog) w 0 38 5 j0 _ 1 Try.underlying38 hj hy0 hy1 .i64 .i64 256 (by rw [hy2]; decide) (by decide) (Nat.zero_le _)
  have hrun2 : (Instr.makeSlice 38 (.int .i64 256) (.int .i64 256)).run Try.prog w = .ok (.slice (some ⟨w.heap.size, 0, none⟩) 256 256) w' := hrun
  have hO : Owns .u8 5 w' (.slice (some ⟨w.heap.size, 0, none⟩) 256 256) zz := by
    have hz : zz = List.replicate 256 0 := rfl
    show w'.ownsRow _ _ _ _ _ _
    rw [show (Value.int .u8 0).cells = #[.int .u8 0] from rfl, toList_madeCells_one] at r1
    rw [hz, List.length_replicate, List.map_replicate]
    exact r1
  have := h w' hO r2
  unfold Oper.wp
  simp [execOp, ho, Act.eval, hrun2, Result.andThen]
  exact this

theorem step_buildC (x : Operand) (ho : o.op = Op.buildSlice 65 1 #[(0, x)]) (u : Value) (hx : a.eval x = .agg #[u, .slice none 0 0])
    (h : K (a.put o.dst (.slice (some ⟨w.heap.size, 0, none⟩) 1 1)) (w.alloc (.cells #[u, .slice none 0 0] 70))) : Oper.wp Try.prog o a w K Q := by
  have hrun : (Instr.buildSlice 65 1 #[(0, .agg #[u, .slice none 0 0])]).run Try.prog w = .ok (.slice (some ⟨w.heap.size, 0, none⟩) 1 1) (w.alloc (.cells #[u, .slice none 0 0] 70)) := by
    obtain ⟨j0, hj, hy0, hy1, hy2⟩ := info_parts info_cell
    refine run_buildSlice w _ 70 1 _ _ j0 _ Try.underlying65 hj hy0 (by rw [hy1]; decide) (by rw [hy1]; decide) ?_
    rw [hy1]
    have := Go.Great.fill_whole (s := 2) (by decide) [.agg #[u, .slice none 0 0]] ((Array.range (1 * 2)).map ((Value.agg #[.slice none 0 0, .slice none 0 0]).cells[· % (Value.agg #[.slice none 0 0, .slice none 0 0]).cells.size]!)) (fun v hv => by
      simp at hv
      subst hv
      rfl) (by simp)
    refine this.trans ?_
    simp [Value.cells]
  unfold Oper.wp
  simp [execOp, ho, hx, hrun, Result.andThen]
  exact h

theorem step_appC (s x : Operand) (ho : o.op = .call { callee := .builtin .append, args := #[s, x], argTypes := #[65, 65] }) (base : Nat) (hbase : base ≤ w.heap.size) (v : Value) (n : Nat) (xs : List Value) (hs : a.eval s = v) (hown : w.ownsRow base 70 2 v n xs)
    (g0 : Nat) (u z : Value) (hx : a.eval x = .slice (some ⟨g0, 0, none⟩) 1 1) (hu : IsSl u) (hz : IsSl z) (hc : w.cell? ⟨g0, 0, none⟩ = some u) (hc1 : w.cell? ⟨g0, 1, none⟩ = some z) (hl : n + 1 ≤ 1000000000000)
    (h : ∀ v' w', w'.ownsRow base 70 2 v' (n + 1) (xs ++ [u, z]) → w.grownBy w' v.ownBlock → K (a.put o.dst v') w') : Oper.wp Try.prog o a w K Q := by
  obtain ⟨j0, hj, hy0, hy1, hy2⟩ := info_parts info_cell
  obtain ⟨v', w', hr, h2, h3, _⟩ := run_append_own (P := Try.prog) w base 65 o.type 70 j0 _ 2 48 Try.underlying65 hj hy0 hy1 hy2 rfl (by decide) v n xs hown ⟨g0, 0, none⟩ 1 1 [u, z] rfl (fun j y hy => by
    match j, hy with
    | 0, hy => simp at hy; subst hy; simpa [Addr.add] using hc
    | 1, hy => simp at hy; subst hy; simpa [Addr.add] using hc1) (fun y hy => by
      simp at hy
      rcases hy with rfl | rfl
      · exact hu.one
      · exact hz.one) (by unfold maxLen; omega) (by omega) hbase
  unfold Oper.wp
  simp [execOp, ho, resolve, invoke, builtin, hs, hx, hr, Result.andThen]
  exact h v' w' h2 h3
end

/-- The first k sectors of a new one. -/
structure RnI (w wr : World) (r k : Nat) (lv : Value) (A : Nat → Value) : Prop where
  be : Below w.heap.size w wr
  rn : w.heap.size ≤ r
  box : wr.heap[r]? = some (.cells #[lv, .bool false, .int .i64 0] 67 (0, 0))
  row : wr.ownsRow w.heap.size 70 2 lv k (cl k A (fun _ => .slice none 0 0))
  la : ∀ i, i < k → Owns .u8 5 wr (A i) zz
  fa : ∀ i j, i < k → (A i).ownBlock = some j → w.heap.size ≤ j

section
variable {w wr : World} {r k : Nat} {lv : Value} {A : Nat → Value}
theorem RnI.c0 (h : RnI w wr r k lv A) : wr.cell? ⟨r, 0, none⟩ = some lv := by rw [cell_of_row wr r 0 _ _ (0, 0) h.box]; rfl
theorem RnI.fz (h : RnI w wr r k lv A) : wr.frozen? ⟨r, 0, none⟩ = false := frozen_of_row wr r 0 _ _ h.box
theorem RnI.lt (h : RnI w wr r k lv A) : r < wr.heap.size := (Array.getElem?_eq_some_iff.1 h.box).1
theorem RnI.ne (h : RnI w wr r k lv A) : ¬ lv.ownBlock = some r := fun e => by
  obtain ⟨C, hC⟩ := owns_block (ownsRow_zero h.row) e
  exact block_ne hC h.box (by decide) rfl
theorem RnI.yne (h : RnI w wr r k lv A) {W : World} {v : Value} {ys : List Int} (ho : Owns .u8 5 W v ys) (hr : W.ownsRow w.heap.size 70 2 lv k (cl k A (fun _ => .slice none 0 0))) {j : Nat} (hj : v.ownBlock = some j) : ¬ lv.ownBlock = some j := fun e => by
  obtain ⟨C, hC⟩ := owns_block ho hj
  obtain ⟨D, hD⟩ := owns_block (ownsRow_zero hr) e
  exact block_ne hC hD (by decide) rfl
theorem RnI.mono (h : RnI w wr r k lv A) {w2 : World} (ht : Tch (fun _ => False) wr w2) : RnI w w2 r k lv A :=
  { be := h.be.trans (ht.below h.be.size (fun _ e => e.elim))
    rn := h.rn
    box := by rw [ht.block r h.lt (fun e => e)]; exact h.box
    row := ht.owns h.row (fun _ _ e => e)
    la := fun i hi => (h.la i hi).tch ht (fun _ _ e => e)
    fa := h.fa }
/-- One more. -/
theorem RnI.step (h : RnI w wr r k lv A) {u : Value} (hu : Owns .u8 5 wr u zz) (hf : ∀ j, u.ownBlock = some j → w.heap.size ≤ j) {w5 : World} {v5 : Value} (hg : wr.grownBy w5 lv.ownBlock)
    (hr : w5.ownsRow w.heap.size 70 2 v5 (k + 1) (cl k A (fun _ => .slice none 0 0) ++ [u, .slice none 0 0])) : RnI w (w5.setCell ⟨r, 0, none⟩ v5) r (k + 1) v5 (updV A k u) := by
  have T5 : Tch (fun j => lv.ownBlock = some j) wr w5 := Tch.of_grown hg
  have hb5 : w5.heap[r]? = some (.cells #[lv, .bool false, .int .i64 0] 67 (0, 0)) := by rw [T5.block r h.lt h.ne]; exact h.box
  have T6 := tch_set w5 r 0 v5
  have hyr : ∀ {v : Value} {ys : List Int} {j : Nat}, Owns .u8 5 w5 v ys → v.ownBlock = some j → ¬ j = r := fun ho hj e => by
    obtain ⟨C, hC⟩ := owns_block ho hj
    exact block_ne hC hb5 (by decide) e
  have hfl : ∀ j, lv.ownBlock = some j → w.heap.size ≤ j := fun j hj => (h.row.lt j hj).1
  have move : ∀ {v : Value}, Owns .u8 5 wr v zz → Owns .u8 5 (w5.setCell ⟨r, 0, none⟩ v5) v zz := fun ho => by
    have h5 := ho.tch T5 (fun j hj => h.yne ho h.row hj)
    exact h5.tch T6 (fun j hj => hyr h5 hj)
  exact {
    be := (h.be.trans (T5.below h.be.size hfl)).trans (T6.below (Nat.le_trans h.be.size T5.size) (fun j e => by rw [e]; exact h.rn))
    rn := h.rn
    box := heap_setCell_same w5 r 0 _ _ _ hb5
    row := by
      rw [cl_app]
      refine T6.owns hr (fun j hj e => ?_)
      obtain ⟨C, hC⟩ := owns_block (ownsRow_zero hr) hj
      exact block_ne hC hb5 (by decide) e
    la := fun i hi => by
      unfold updV
      by_cases e : i = k
      · rw [if_pos e]; exact move hu
      · rw [if_neg e]; exact move (h.la i (by omega))
    fa := fun i j hi hj => by
      unfold updV at hj
      by_cases e : i = k
      · rw [if_pos e] at hj; exact hf j hj
      · rw [if_neg e] at hj; exact h.fa i j (by omega) hj }

theorem RnI.all (h : RnI w wr r k lv A) (h1 : 1 ≤ k) (h2 : k ≤ 4096) : ∃ R, Rf R wr r (DS.new k) ∧ ∀ j, R j → w.heap.size ≤ j := by
  have hl : (DS.new k).L.length = k := by simp [DS.new]
  have hg : ∀ i, i < k → (DS.new k).L.getD i [] = zz := fun i hi => by
    show (List.replicate k zz).getD i [] = zz
    rw [List.getD_eq_getElem?_getD, List.getElem?_replicate, if_pos hi]
    rfl
  rcases h.row.2 with ⟨_, e⟩ | ⟨g, cap, cur, rfl, hb, _⟩
  · omega
  refine ⟨fun j => w.heap.size ≤ j ∧ j < wr.heap.size, ⟨g, cap, A, fun _ => .slice none 0 0, 0, fun _ => [], ?_⟩, fun j hj => hj.1⟩
  exact {
    n1 := by rw [hl]; exact h1
    n2 := by rw [hl]; exact h2
    box := by rw [hl]; exact h.box
    left := fun e => by cases e
    xlo := by decide
    xhi := by decide
    l30 := Nat.zero_le _
    row := by rw [hl]; exact ownsRow_zero h.row
    la := fun i hi => by rw [hl] at hi; rw [hg i hi]; exact h.la i hi
    lv := fun i hi => World.ownsRow_nil _ _ _ _
    lw := fun i j v hi hj => by simp at hj
    apart := fun i j k _ _ _ e => by cases e
    okL := sok_new k
    okV := fun i => SOk.nil
    out := fun i _ => rfl
    rr := ⟨h.rn, h.lt⟩
    rl := ⟨hb, (h.row.lt g rfl).2⟩
    ra := fun i j hi hj => by rw [hl] at hi; exact ⟨h.fa i j hi hj, (h.la i hi).lt j hj⟩
    rb := fun i j _ e => by cases e
    rv := fun i j v b hi hj => by simp at hj
    rlt := fun j hj => hj.2 }
end

theorem refNew_bad (n : Int) (w : World) (h : n < 1 ∨ 4096 < n) : Calls Try.prog 9 #[.int .i64 n] w fun e w' => e = .returned (.tuple #[.pointer none, .int .i64 1]) ∧ w' = w := by
  by_cases h1 : n < 1
  · go_enter Try.func9, Try.ntmps9
    go_wp2_with fail
    go_ret2
    exact ⟨rfl, rfl⟩
  · have h2 : n > 4096 := by omega
    go_enter Try.func9, Try.ntmps9
    go_wp2_with fail
    go_ret2
    exact ⟨rfl, rfl⟩

set_option maxHeartbeats 2000000 in
theorem refNew_ok (n : Nat) (w : World) (h1 : 1 ≤ n) (h2 : n ≤ 4096) : Calls Try.prog 9 #[.int .i64 (n : Int)] w fun e w' =>
    ∃ r R, e = .returned (.tuple #[dp r, .int .i64 0]) ∧ Rf R w' r (DS.new n) ∧ Below w.heap.size w w' ∧ ∀ k, R k → w.heap.size ≤ k := by
  have ha : ¬ (n : Int) < 1 := by omega
  have hb : ¬ (n : Int) > 4096 := by omega
  obtain ⟨W1, hW1⟩ : ∃ W1, w.alloc (.cells #[.slice none 0 0, .bool false, .int .i64 0] 67) = W1 := ⟨_, rfl⟩
  obtain ⟨r, hr⟩ : ∃ r, w.heap.size = r := ⟨_, rfl⟩
  have I0 : Hid (RnI w W1 r 0 (.slice none 0 0) (fun _ => .slice none 0 0)) := by
    rw [← hW1, ← hr]
    exact {
      be := (Below.refl _ _).alloc (Nat.le_refl _) _
      rn := Nat.le_refl _
      box := heap_alloc_new w _
      row := World.ownsRow_nil _ _ _ _
      la := fun i hi => by omega
      fa := fun i j hi => by omega }
  have HW1 : Hid (w.alloc (.cells #[.slice none 0 0, .bool false, .int .i64 0] 67) = W1) := hW1
  have HR : Hid (w.heap.size = r) := hr
  have HN : Hid (1 ≤ n) := h1
  clear hW1 hr
  go_enter Try.func9, Try.ntmps9
  go_wp2_with fail
  rw [HW1.out, HR.out]
  clear HW1
  go_loopw [5] (fun iv wr => ∃ (k : Nat) (lv : Value) (A : Nat → Value), k ≤ n ∧ iv = .int .i64 k ∧ Hid (RnI w wr r k lv A)) (fun iv _ => n - (intOf iv).toNat)
  case atStart => exact ⟨0, _, _, Nat.zero_le _, rfl, I0⟩
  case round =>
    obtain ⟨k, lv, A, hk, rfl, I⟩ := hrel
    by_cases hkn : k < n
    · have hki : (k : Int) < (n : Int) := by omega
      obtain ⟨la, ln, lc, rfl⟩ : IsSl lv := by
        rcases I.out.row.2 with ⟨e, _⟩ | ⟨g, cap, cur, e, _⟩
        · exact ⟨_, _, _, e⟩
        · exact ⟨_, _, _, e⟩
      have ID : Hid (RnI w wr.drew r k (.slice la ln lc) A) := I.out.mono (Tch.drew (Tch.refl _ wr))
      have hS : wr.drew.cell? ⟨r, 0, none⟩ = some (.slice la ln lc) := ID.out.c0
      clear I
      go_wp2_with fail
      refine beginW (S := fun w' => w'.cell? ⟨r, 0, none⟩ = some (.slice la ln lc)) (t := 11) (by kernel_rfl) ?_
      refine takeW 0 (some 19) (.move (.tmp 4)) (Value.pointer (some ⟨r, 0, none⟩)) rfl rfl (by kernel_rfl) (by kernel_rfl) (by kernel_rfl) (by kernel_rfl) (fun _ _ _ h => h) ?hy hS ?_
      case hy =>
        rintro o ho w' hS1
        go_simp
      simp only [Act.put, List.setIfInBounds_toArray, List.set_cons_zero, List.set_cons_succ]
      refine takeW 1 (some 20) (.move (.tmp 4)) (Value.pointer (some ⟨r, 0, none⟩)) rfl rfl (by kernel_rfl) (by kernel_rfl) (by kernel_rfl) (by kernel_rfl) (fun _ _ _ h => h) ?hy hS ?_
      case hy =>
        rintro o ho w' hS1
        go_simp
      simp only [Act.put, List.setIfInBounds_toArray, List.set_cons_zero, List.set_cons_succ]
      refine takeW 2 (some 21) (.nilCheck (.tmp 20)) (Value.pointer (some ⟨r, 0, none⟩)) rfl rfl (by kernel_rfl) (by kernel_rfl) (by kernel_rfl) (by kernel_rfl) (fun _ _ _ h => h) ?hy hS ?_
      case hy =>
        rintro o ho w' hS1
        go_simp
      simp only [Act.put, List.setIfInBounds_toArray, List.set_cons_zero, List.set_cons_succ]
      refine takeW 3 (some 22) (.fieldAddr 67 (.tmp 21) 0) (Value.pointer (some ⟨r, 0, none⟩)) rfl rfl (by kernel_rfl) (by kernel_rfl) (by kernel_rfl) (by kernel_rfl) (fun _ _ _ h => h) ?hy hS ?_
      case hy =>
        rintro o ho w' hS1
        go_simp
      simp only [Act.put, List.setIfInBounds_toArray, List.set_cons_zero, List.set_cons_succ]
      refine takeW 4 (some 23) (.load 65 (.tmp 22)) (Value.slice la ln lc) rfl rfl (by kernel_rfl) (by kernel_rfl) (by kernel_rfl) (by kernel_rfl) (fun _ _ _ h => h) ?hy hS ?_
      case hy =>
        rintro o ho w' hS1
        go_simp
      simp only [Act.put, List.setIfInBounds_toArray, List.set_cons_zero, List.set_cons_succ]
      refine readyW 5 (some 24) (.makeSlice 38 (.const (.int .i64 256)) (.const (.int .i64 256))) rfl (by kernel_rfl) ?_
      rintro o K hd ho hg hK
      refine step_make256 ho ?_
      intro w2 ho2 hg2
      have I2 : Hid (RnI w w2 r k (.slice la ln lc) A) := ID.out.mono ((Tch.of_grown hg2).mono (fun _ _ e => by cases e))
      have O2 : Hid (Owns .u8 5 w2 (.slice (some ⟨wr.drew.heap.size, 0, none⟩) 256 256) zz) := ho2
      have G2 : Hid (w.heap.size ≤ wr.drew.heap.size) := ID.out.be.size
      generalize wr.drew.heap.size = g2 at *
      have k2 : w2.cell? ⟨r, 0, none⟩ = some (.slice la ln lc) := I2.out.c0
      rw [hd]
      refine hK _ _ (fun _ => k2) ?_
      clear ho hd hg hK ho2 hg2 ID hS
      simp only [Act.put, List.setIfInBounds_toArray, List.set_cons_zero, List.set_cons_succ]
      refine readyW 6 (some 25) (.build 70 #[(0, .tmp 24)]) rfl (by kernel_rfl) ?_
      rintro o K hd ho hg hK
      refine stepY (v := Value.agg #[.slice (some ⟨g2, 0, none⟩) 256 256, .slice none 0 0]) ?hy ?_
      case hy => go_simp
      rw [hd]
      refine hK _ _ (fun _ => k2) ?_
      clear ho hd hg hK
      simp only [Act.put, List.setIfInBounds_toArray, List.set_cons_zero, List.set_cons_succ]
      refine readyW 7 (some 26) (.buildSlice 65 1 #[(0, .tmp 25)]) rfl (by kernel_rfl) ?_
      rintro o K hd ho hg hK
      refine step_buildC (.tmp 25) ho _ rfl ?_
      have H3 : (w2.alloc (.cells #[.slice (some ⟨g2, 0, none⟩) 256 256, .slice none 0 0] 70)).heap[w2.heap.size]? = some (.cells #[.slice (some ⟨g2, 0, none⟩) 256 256, .slice none 0 0] 70 (0, 0)) := heap_alloc_new w2 _
      have I3 : Hid (RnI w (w2.alloc (.cells #[.slice (some ⟨g2, 0, none⟩) 256 256, .slice none 0 0] 70)) r k (.slice la ln lc) A) := I2.out.mono (Tch.alloc (Tch.refl _ _) _)
      have O3 : Hid (Owns .u8 5 (w2.alloc (.cells #[.slice (some ⟨g2, 0, none⟩) 256 256, .slice none 0 0] 70)) (.slice (some ⟨g2, 0, none⟩) 256 256) zz) := O2.out.tch (S := fun _ => False) (Tch.alloc (Tch.refl _ _) _) (fun _ _ e => e)
      obtain ⟨W3, hW3⟩ : ∃ W3, w2.alloc (.cells #[.slice (some ⟨g2, 0, none⟩) 256 256, .slice none 0 0] 70) = W3 := ⟨_, rfl⟩
      rw [hW3] at H3 I3 O3 ⊢
      generalize w2.heap.size = g3 at *
      have k3 : W3.cell? ⟨r, 0, none⟩ = some (.slice la ln lc) := I3.out.c0
      have H3H : Hid (W3.cell? ⟨g3, 0, none⟩ = some (.slice (some ⟨g2, 0, none⟩) 256 256) ∧ W3.cell? ⟨g3, 1, none⟩ = some (.slice none 0 0)) := ⟨cell_of_row W3 g3 0 _ _ (0, 0) H3, cell_of_row W3 g3 1 _ _ (0, 0) H3⟩
      rw [hd]
      refine hK _ _ (fun _ => k3) ?_
      clear ho hd hg hK H3 hW3 I2 O2 k2
      simp only [Act.put, List.setIfInBounds_toArray, List.set_cons_zero, List.set_cons_succ]
      refine readyW 8 (some 27) (.call { callee := .builtin .append, args := #[.tmp 23, .tmp 26], argTypes := #[65, 65] }) rfl (by kernel_rfl) ?_
      rintro o K hd ho hg hK
      refine step_appC (.tmp 23) (.tmp 26) ho w.heap.size I3.out.be.size (.slice la ln lc) k (cl k A (fun _ => .slice none 0 0)) rfl I3.out.row g3 (.slice (some ⟨g2, 0, none⟩) 256 256) (.slice none 0 0) rfl ⟨_, _, _, rfl⟩ ⟨_, _, _, rfl⟩ H3H.out.1 H3H.out.2 (by omega) ?_
      intro v5 w5 hr5 hg5
      have I6 : Hid (RnI w (w5.setCell ⟨r, 0, none⟩ v5) r (k + 1) v5 (updV A k (.slice (some ⟨g2, 0, none⟩) 256 256))) := I3.out.step O3.out (fun j hj => by cases hj; exact G2.out) hg5 hr5
      have T5 := Tch.of_grown hg5
      have k5 : w5.cell? ⟨r, 0, none⟩ = some (.slice la ln lc) := by rw [T5.cell (p := ⟨r, 0, none⟩) I3.out.lt I3.out.ne]; exact k3
      have f5 : w5.frozen? ⟨r, 0, none⟩ = false := by rw [T5.frozen (p := ⟨r, 0, none⟩) I3.out.lt I3.out.ne]; exact I3.out.fz
      obtain ⟨va, vn, vc, rfl⟩ : IsSl v5 := by
        rcases hr5.2 with ⟨e, _⟩ | ⟨g, cap, cur, e, _⟩
        · exact ⟨_, _, _, e⟩
        · exact ⟨_, _, _, e⟩
      rw [hd]
      refine hK _ _ (fun _ => k5) ?_
      clear ho hd hg hK hr5 hg5 T5 I3 O3 k3 H3H
      simp only [Act.put, List.setIfInBounds_toArray, List.set_cons_zero, List.set_cons_succ]
      refine readyW 9 (some 28) (.nilCheck (.tmp 19)) rfl (by kernel_rfl) ?_
      rintro o K hd ho hg hK
      refine stepY (v := Value.pointer (some ⟨r, 0, none⟩)) ?hy ?_
      case hy => go_simp
      rw [hd]
      refine hK _ _ (fun _ => k5) ?_
      clear ho hd hg hK
      simp only [Act.put, List.setIfInBounds_toArray, List.set_cons_zero, List.set_cons_succ]
      refine readyW 10 (some 29) (.fieldAddr 67 (.tmp 28) 0) rfl (by kernel_rfl) ?_
      rintro o K hd ho hg hK
      refine stepY (v := Value.pointer (some ⟨r, 0, none⟩)) ?hy ?_
      case hy => go_simp
      rw [hd]
      refine hK _ _ (fun _ => k5) ?_
      clear ho hd hg hK
      simp only [Act.put, List.setIfInBounds_toArray, List.set_cons_zero, List.set_cons_succ]
      refine readyW 11 none (.store 65 (.tmp 29) (.tmp 27)) rfl (by kernel_rfl) ?_
      rintro o K hd ho hg hK
      refine step_store1 (.tmp 29) (.tmp 27) ho r 0 _ rfl rfl (by kernel_rfl) rfl rfl k5 f5 ?_
      rw [hd]
      refine hK _ _ (fun e => absurd rfl e) ?_
      refine doneW (by kernel_rfl) ?_ _
      clear ho hd hg hK k5 f5
      simp only [Act.put]
      go_wp2_with fail
      go_roundw
      case rel => exact ⟨k + 1, _, _, by omega, by go_num, I6⟩
      case measure => simp [intOf]; omega
    · have hki : ¬ (k : Int) < (n : Int) := by omega
      obtain rfl : k = n := by omega
      go_wp2_with fail
      go_ret2
      obtain ⟨R, h3, h4⟩ := I.out.all HN.out h2
      exact ⟨r, rfl, R, h3, I.out.be, h4⟩
end Go.Proofs.Ytgpaklifjonlkaa
