import Derived.Test.YtkjcfhebkfppdaaUH07
import Derived.Lib.SliceRun
/-
  A copy.
-/
namespace Go.Proofs.Ytkjcfhebkfppdaa
open Go.RowKit Go.Maps
set_option linter.unusedVariables false
set_option linter.unusedSimpArgs false
set_option maxRecDepth 100000

/-- 'append(v, u...)' of sectors. -/
theorem wpList_appS (w : World) {ops : Array Oper} {rest : List Oper} {o : Oper} {a : Act} {Q : Exit → Act → World → Prop} (hgd : o.guard = none) (s x : Operand)
    (ho : o.op = .call { callee := .builtin .append, args := #[s, x], argTypes := #[69, 69] })
    (v : Value) (rows : List (List Int)) (hs : a.eval s = v) (hR : SecR w v rows) (g0 m c : Nat) (hx : a.eval x = .slice (some ⟨g0, 0, none⟩) m c) (news : List (List Int)) (hl : m = news.length) (hok : SOk news) (hn : w.rangeAt g0 0 (bcs news.flatten)) (hb : rows.length + news.length ≤ 274877906944)
    (h : ∀ v' w', SecR w' v' (rows ++ news) → w.grownBy w' v.ownBlock → (∀ k, v'.ownBlock = some k → v.ownBlock = some k ∨ w.heap.size ≤ k) → wpList Try.prog ops Q rest (a.put o.dst v') w') : wpList Try.prog ops Q (o :: rest) a w := by
  obtain ⟨v', w', hr, h2, h3, h4⟩ := run_appS w o.type v rows hR g0 m c news hl hok hn hb
  refine wpList_plain hgd fun K hK => ?_
  unfold Oper.wp
  simp [execOp, ho, resolve, invoke, builtin, hs, hx, hr, Result.andThen]
  exact hK _ _ (h v' w' h2 h3 h4)

/-- slices.Clone of sectors. -/
theorem clone_sec (b n cap : Nat) (rows : List (List Int)) (w : World) (h : SecR w (.slice (some ⟨b, 0, none⟩) n cap) rows) (hb : rows.length ≤ 274877906944) :
    Calls Try.prog 52 #[.slice (some ⟨b, 0, none⟩) n cap] w fun e w' => ∃ v, e = .returned v ∧ SecR w' v rows ∧ Below w.heap.size w w' ∧ ∀ k, v.ownBlock = some k → w.heap.size ≤ k := by
  have q22 : ∀ (w : World) (a : Option Addr) (n c n' c' : Nat), (binOp .eql 69 (.slice a n c) (.slice none n' c')).run Try.prog w = .ok (.bool a.isNone) w := fun w a n c n' c' => Lib.run_eql_slice_nil w _ _ a n c n' c' Try.underlying69
  obtain ⟨cur, hn, _⟩ := h.blk
  have HN : Hid (n = rows.length) := hn
  have HE : Hid (SecR (w.alloc (.cells #[] 81)) (.slice (some ⟨w.heap.size, 0, none⟩) 0 0) []) := ⟨SOk.nil, rfl, .inr ⟨w.heap.size, 0, #[], rfl, Nat.zero_le _, heap_alloc_new w _, Nat.le_refl _, by unfold maxLen; omega, rfl, rfl⟩⟩
  have HS : Hid (SecR (w.alloc (.cells #[] 81)) (.slice (some ⟨b, 0, none⟩) n cap) rows) := h.below ((Below.refl _ _).alloc (Nat.le_refl _) _)
  have HB : Hid (rows.length ≤ 274877906944) := hb
  have HRA : Hid ((w.alloc (.cells #[] 81)).rangeAt b 0 (bcs rows.flatten)) := fun j u hu => by
    have := HS.out.2.cells (g := b) rfl j u hu
    rw [Addr.add_lit] at this
    exact this
  clear h hn hb
  go_enter Try.func52, Try.ntmps52
  go_wp2_with (at_builtin; refine Hid.out ?_)
  refine hideP ?_
  refine wpList_appS _ rfl (.tmp 5) (.tmp 6) rfl _ [] rfl HE.out b n cap rfl rows HN.out HS.out.1 HRA.out (by have := HB.out; simp; omega) ?_
  intro v1 w1 ho hg hf
  have O1 : Hid (SecR w1 v1 rows) := ho
  have B1 : Hid (Below w.heap.size w w1) := ((Below.refl _ _).alloc (Nat.le_refl _) _).trans ((Tch.of_grown hg).below (by simp) (fun k e => by cases e; exact Nat.le_refl _))
  have F1 : Hid (∀ k, v1.ownBlock = some k → w.heap.size ≤ k) := fun k hk => by
    rcases hf k hk with e | e
    · cases e; exact Nat.le_refl _
    · simp at e; omega
  clear ho hg hf
  go_wp2_with fail
  go_ret
  exact ⟨v1, rfl, O1.out, B1.out, F1.out⟩

/-- Versions are given to a sector. -/
theorem DkAt.give {S : Nat → Prop} {w w' : World} {d : Nat} {s : DS} {lb vb lc : Nat} {g : Nat → Option Value} (h : DkAt S w d s lb vb lc g) {i : Nat} (hi : i < s.L.length) {v : Value} {Y : List (List Int)} (hY : Y ≠ [])
    {wa : World} (ta : Tch (fun k => (gv g i).ownBlock = some k) w wa) (hv : SecR wa v Y) (hf : ∀ k, v.ownBlock = some k → (gv g i).ownBlock = some k ∨ w.heap.size ≤ k)
    (hm : Mp w' vb s.L.length (gput g i (some v))) (tb : Tch (fun k => k = vb) wa w') :
    ∃ S', DkAt S' w' d { s with V := vput s.V i Y } lb vb lc (gput g i (some v)) ∧ Tch S w w' ∧ ∀ k, S' k → S k ∨ w.heap.size ≤ k := by
  have hgs : ∀ k, (gv g i).ownBlock = some k → S k ∧ k ≠ d ∧ k ≠ lb ∧ k ≠ vb := fun k hk => by
    unfold gv at hk
    cases e : g i with
    | none => rw [e] at hk; cases hk
    | some u =>
      rw [e] at hk
      obtain ⟨b, cap, rfl, h1, h2, h3, h4, _⟩ := h.own e
      cases hk
      exact ⟨h4, h1, h3, h2⟩
  have hgj : ∀ j u k, g j = some u → j ≠ i → u.ownBlock = some k → (gv g i).ownBlock ≠ some k := fun j u k hj hne hk e => by
    unfold gv at e
    cases e2 : g i with
    | none => rw [e2] at e; cases e
    | some u2 =>
      rw [e2] at e
      exact h.apart j i u u2 hj e2 hne (hk.trans e.symm)
  have hsz := ta.size
  have hvlt := hv.lt
  have hob : ∃ b, v.ownBlock = some b := by
    obtain ⟨b, cap, cur, rfl, _⟩ := hv.shape hY
    exact ⟨b, rfl⟩
  obtain ⟨vbk, hvbk⟩ := hob
  have hcur : ∀ k, v.ownBlock = some k → k ≠ vb ∧ k ≠ d ∧ k ≠ lb := fun k hk => by
    rcases hf k hk with e | e
    · have := hgs k e; exact ⟨this.2.2.2, this.2.1, this.2.2.1⟩
    · have h1 := h.map.lt; have h2 := h.lt; have h3 := h.slt _ h.sl; omega
  refine ⟨fun k => S k ∨ v.ownBlock = some k, ?_, ?_, ?_⟩
  · have hd1 : wa.heap[d]? = w.heap[d]? := ta.block d h.lt (fun e => (hgs d e).2.1 rfl)
    have hd2 : w'.heap[d]? = wa.heap[d]? := tb.block d (Nat.lt_of_lt_of_le h.lt hsz) (fun e => h.ne_vb e)
    exact {
      n1 := h.n1
      n2 := h.n2
      l30 := h.l30
      box := by rw [hd2, hd1]; exact h.box
      lies := (h.lies.tch ta (fun j e => by cases e; exact fun e => (hgs _ e).2.2.1 rfl)).tch tb (fun j e => by cases e; exact fun e => h.lb_vb e)
      map := hm
      no := fun j hj => by
        by_cases e : j = i
        · subst e; simp [gput] at hj
        · simp only [gput, if_neg e] at hj
          simp only [vput, if_neg e]
          exact h.no j hj
      yes := fun j u hj => by
        by_cases e : j = i
        · subst e
          simp only [gput, if_pos] at hj
          cases hj
          simp only [vput, if_pos]
          exact ⟨hi, hY, hv.tch tb (fun k hk => (hcur k hk).1), fun e => (hcur lb e).2.2 rfl⟩
        · simp only [gput, if_neg e] at hj
          simp only [vput, if_neg e]
          obtain ⟨h1, h2, h3, h4⟩ := h.yes j u hj
          refine ⟨h1, h2, (h3.tch ta (fun k hk => hgj j u k hj e hk)).tch tb (fun k hk e2 => ?_), h4⟩
          obtain ⟨b, cap, rfl, _, h5, _⟩ := h.own hj
          cases hk
          exact h5 e2
      apart := fun j k u u2 hj hk hne => by
        have key : ∀ j u, g j = some u → j ≠ i → u.ownBlock ≠ v.ownBlock := fun j u hj hne e => by
          obtain ⟨b, cap, rfl, _, _, _, h4, _⟩ := h.own hj
          have hb : v.ownBlock = some b := e.symm
          rcases hf b hb with e2 | e2
          · exact hgj j _ b hj hne rfl e2
          · have := h.slt b h4; omega
        by_cases e : j = i
        · subst e
          simp only [gput, if_pos] at hj
          cases hj
          simp only [gput, if_neg (Ne.symm hne)] at hk
          exact fun e => key k u2 hk (Ne.symm hne) e.symm
        · simp only [gput, if_neg e] at hj
          by_cases e2 : k = i
          · subst e2
            simp only [gput, if_pos] at hk
            cases hk
            exact key j u hj e
          · simp only [gput, if_neg e2] at hk
            exact h.apart j k u u2 hj hk hne
      sd := .inl h.sd
      sl := .inl h.sl
      sv := .inl h.sv
      sg := fun j u k hj hk => by
        by_cases e : j = i
        · subst e
          simp only [gput, if_pos] at hj
          cases hj
          exact .inr hk
        · simp only [gput, if_neg e] at hj
          exact .inl (h.sg j u k hj hk)
      slt := fun k hk => by
        have := tb.size
        rcases hk with hk | hk
        · have := h.slt k hk; omega
        · have := hvlt k hk; omega }
  · exact (ta.mono (S' := S) (fun k _ e => (hgs k e).1)).trans tb (fun k _ e => by rw [e]; exact h.sv)
  · rintro k (hk | hk)
    · exact .inl hk
    · rcases hf k hk with e | e
      · exact .inl (hgs k e).1
      · exact .inr e


/-- How far a copy is. -/
def CpM (s : DS) (g : Nat → Option Value) (left : Lit → Bool) (V : Nat → List (List Int)) : Prop :=
  ∀ i, V i = if (g i).isSome && !left (Lit.int .i64 (i : Int)) then s.V i else []
theorem CpM.step {s : DS} {g : Nat → Option Value} {left : Lit → Bool} {V : Nat → List (List Int)} (h : CpM s g left V) {i : Nat} (hg : (g i).isSome) :
    CpM s g (fun z => left z && !z.sameKey (Lit.int .i64 (i : Int))) (vput V i (s.V i)) := fun j => by
  unfold vput
  by_cases e : j = i
  · subst e
    rw [if_pos rfl, hg]
    simp [Lit.sameKey]
  · rw [if_neg e, h j]
    have : (Lit.int IntKind.i64 (j : Int)).sameKey (Lit.int .i64 (i : Int)) = false := by simp [Lit.sameKey]; omega
    simp [this]
theorem CpM.fin {s : DS} {g : Nat → Option Value} {left : Lit → Bool} {V : Nat → List (List Int)} (h : CpM s g left V) (hl : ∀ k, left k = false) (hn : ∀ i, g i = none → s.V i = []) : V = s.V := by
  funext i
  rw [h i, hl]
  cases e : g i with
  | none => simp [hn i e]
  | some v => simp
theorem CpM.start (s : DS) (g : Nat → Option Value) (n : Nat) (hg : ∀ i v, g i = some v → i < n) : CpM s g (Maps.has (Dm n g)) (fun _ => []) := fun i => by
  cases e : g i with
  | none => simp
  | some v =>
    have : Maps.has (Dm n g) (Lit.int .i64 (i : Int)) = true := dm_has.2 ⟨i, v, hg i v e, e, rfl⟩
    simp [this]

/-- What a copy is. -/
def DS.cpy (s : DS) : DS := { L := s.L, V := s.V, c := false, l := 0 }

set_option maxHeartbeats 4000000 in
theorem copy_any {S : Nat → Prop} {d : Nat} {s : DS} (w : World) (h : Dk S w d s) (hV : ∀ i, (s.V i).length ≤ 274877906944) :
    Calls Try.prog 34 #[dp d] w fun e w' => ∃ o So, e = .returned (dp o) ∧ Dk So w' o s.cpy ∧ Below w.heap.size w w' ∧ ∀ k, So k → w.heap.size ≤ k := by
  obtain ⟨lb, vb, lc, g, h⟩ := h
  have c0 := h.c0
  have HV : Hid (∀ i, (s.V i).length ≤ 274877906944) := hV
  have D0 : Hid (DkAt S w d s lb vb lc g) := h
  have n2 := h.n2
  have n1 := h.n1
  have HCL := hideP (clone_sec lb s.L.length lc s.L w h.lies (by omega))
  obtain ⟨n, hn⟩ : ∃ n, s.L.length = n := ⟨_, rfl⟩
  have HN : Hid (s.L.length = n) := hn
  rw [hn] at c0 HCL n1 n2
  have hmm := @run_makeMap Try.prog
  clear h hn hV
  go_enter Try.func34, Try.ntmps34
  go_wp2_with fail
  refine HCL.out.mono ?_
  clear HCL
  rintro e w1 ⟨v1, rfl, ho1, hb1, hf1⟩
  obtain ⟨lb1, lc1, cur1, hv1, _⟩ := ho1.shape (fun e => by rw [e] at HN; have := HN.out; simp at this; omega)
  rw [HN.out] at hv1
  subst hv1
  have hlb1 : lb1 < w1.heap.size := ho1.lt lb1 rfl
  have hlb0 : w.heap.size ≤ lb1 := hf1 lb1 rfl
  obtain ⟨W2, hW2⟩ : ∃ W2, (w1.alloc (.map #[] 0)).alloc (.cells #[.slice (some ⟨lb1, 0, none⟩) n lc1, .map (some w1.heap.size), .bool false, .int .i64 0] 72) = W2 := ⟨_, rfl⟩
  obtain ⟨vb1, hvb1⟩ : ∃ vb1, w1.heap.size = vb1 := ⟨_, rfl⟩
  have hsz : W2.heap.size = vb1 + 2 := by rw [← hW2, ← hvb1]; simp
  have hb2 : Below w1.heap.size w1 W2 := by
    rw [← hW2]
    exact ((Below.refl _ _).alloc (Nat.le_refl _) _).alloc (by simp) _
  have DO : Hid (DkAt (fun k => w.heap.size ≤ k ∧ k < vb1 + 2) W2 (vb1 + 1) { s.cpy with V := fun _ => [] } lb1 vb1 lc1 (fun _ => none)) := by
    have M1 : Mp (w1.alloc (.map #[] 0)) w1.heap.size n (fun _ => none) := mp_of (World.ownsMap_made w1 _ _ _) (by rw [dm_empty (fun _ _ => rfl)])
    have hbs := hb1.size
    exact {
      n1 := by show 1 ≤ s.L.length; rw [HN.out]; exact n1
      n2 := by show s.L.length ≤ 4096; rw [HN.out]; exact n2
      l30 := Nat.zero_le _
      box := by
        show W2.heap[vb1 + 1]? = some (.cells #[.slice (some ⟨lb1, 0, none⟩) s.L.length lc1, .map (some vb1), .bool false, .int .i64 0] _ _)
        rw [HN.out, ← hW2, ← hvb1]
        have hs : (w1.alloc (.map #[] 0)).heap.size = w1.heap.size + 1 := by simp
        rw [← hs]
        exact heap_alloc_new _ _
      lies := by
        show SecR W2 (.slice (some ⟨lb1, 0, none⟩) s.L.length lc1) s.L
        rw [HN.out]
        exact ho1.below hb2
      map := by
        show Mp W2 vb1 s.L.length _
        rw [HN.out, ← hW2, ← hvb1]
        exact M1.tch (S := fun _ => False) (Tch.of_below ((Below.refl _ _).alloc (Nat.le_refl _) _)) (fun e => e)
      no := fun _ _ => rfl
      yes := fun _ _ e => by cases e
      apart := fun _ _ _ _ e => by cases e
      sd := ⟨by omega, by omega⟩
      sl := ⟨hlb0, by omega⟩
      sv := ⟨by omega, by omega⟩
      sg := fun _ _ _ e => by cases e
      slt := fun k hk => by rw [hsz]; exact hk.2 }
  have B2 : Hid (Below w.heap.size w W2) := hb1.trans (hb2.mono hb1.size)
  have HVB : Hid (w.heap.size ≤ vb1) := by rw [← hvb1]; exact hb1.size
  have D2 : Hid (DkAt S W2 d s lb vb lc g) := D0.out.tch (R := fun _ => False) (Tch.of_below B2.out) (fun _ _ e => e)
  have c12 := D2.out.c1
  have HM : Hid (Mp W2 vb n g) := by have := D2.out.map; rw [HN.out] at this; exact this
  have HVV : Hid (w1.heap.size = vb1) := hvb1
  clear ho1 hb1 hf1 hb2 hvb1 hlb1 hlb0 hsz
  go_wp2_with (at_range; refine wpList_range_own _ rfl (.tmp 17) 70 rfl 3 69 keyed3 Try.underlying70 Rv vb n (Dm n g) rfl HM.out ?_; intro w0 hrg0 hg0 hs0)
  go_frame
  obtain ⟨r, hr⟩ : ∃ r, W2.heap.size = r := ⟨_, rfl⟩
  have HRE : Hid (W2.heap.size = r) := hr
  rw [hr] at hrg0 ⊢
  rw [HVV.out]
  have T0 : Hid (Tch (fun _ => False) W2 w0) := (Tch.of_grown hg0).mono (fun k _ e => by cases e)
  have RG0 : Hid (w0.ranges Try.prog 3 Rv vb r n (Dm n g) (Maps.has (Dm n g)) (Maps.size (Dm n g))) := hrg0
  have HLG : Hid (∀ i v, g i = some v → i < n) := fun i v e => by have := (D0.out.yes i v e).1; rw [HN.out] at this; exact this
  have DO0 : Hid (DkAt (fun k => w.heap.size ≤ k ∧ k < vb1 + 2) w0 (vb1 + 1) { s.cpy with V := fun _ => [] } lb1 vb1 lc1 (fun _ => none)) := DO.out.tch T0.out (fun _ _ e => e)
  have HR0 : Hid (vb1 + 2 ≤ r ∧ w.heap.size ≤ r) := by
    have h1 := DO.out.slt (vb1 + 1) ⟨by have := HVB.out; omega, by omega⟩
    have h2 := HVB.out
    have h3 := HRE.out
    exact ⟨by omega, by omega⟩
  have BW0 : Hid (Below w.heap.size w w0) := B2.out.trans (T0.out.below B2.out.size (fun _ e => e.elim))
  clear hr hrg0 hg0 hs0 hW2 DO T0 c12 HM
  go_loopw [] (fun wr => ∃ left cnt V So g', Hid (wr.ranges Try.prog 3 Rv vb r n (Dm n g) left cnt) ∧ Hid (CpM s g left V) ∧ Hid (DkAt So wr (vb1 + 1) { s.cpy with V := V } lb1 vb1 lc1 g') ∧ Hid (Below w.heap.size w wr) ∧ Hid (∀ k, So k → w.heap.size ≤ k ∧ k ≠ r)) (fun wr => wr.rangeLeft vb r)
  case atStart => exact ⟨_, _, _, _, _, RG0, CpM.start s g n HLG.out, DO0, BW0, fun k hk => ⟨hk.1, by have := HR0.out.1; have := hk.2; omega⟩⟩
  case round =>
    obtain ⟨left, cnt, V, So, g', RG, CM, DK, BW, FS⟩ := hrel
    clear RG0 DO0 BW0
    go_wp2_with (at_next; refine wpList_next_ranges _ rfl (.tmp 18) rfl 3 keyed3 Rv (Value.int .i64) (fun v : Value => v) (fun key kl hk => by obtain ⟨x, hx, _⟩ := Maps.keyOf_int_inv Try.underlying3 hk; exact ⟨x, hx⟩) (fun v y _ => ⟨v, rfl⟩) vb r n _ _ _ rfl RG.out ?_ ?_)
    · intro _ hl0
      have HF : Hid (V = s.V) := CM.out.fin hl0 D0.out.no
      clear hl0
      go_wp2_with fail
      go_ret
      refine ⟨vb1 + 1, So, rfl, ?_, BW.out, fun k hk => (FS.out k hk).1⟩
      have h := DK.out
      rw [HF.out] at h
      exact ⟨_, _, _, _, h⟩
    · intro x c kl yd yp w2 cnt2 hkey hlk hv hat hrg2 hlt hg2 hs2 hen
      obtain ⟨x', ex, rfl, _⟩ := Maps.keyOf_int_inv Try.underlying3 hkey
      cases ex
      have hyd : yd = .held c := by simp only [Rv, Option.some.injEq, Prod.mk.injEq] at hv; exact hv.1.symm
      obtain ⟨i, v, hi, hgi, ei⟩ := dm_has.1 (has_true_of_atKey (y := yd) hat)
      simp only [Lit.int.injEq, true_and] at ei
      subst ei
      have hcv : v = c := by
        have h1 := hat (.held v)
        rw [dm_at hi hgi, hyd] at h1
        simpa using h1
      subst hcv
      obtain ⟨_, hv2, hv3, _⟩ := D0.out.yes i v hgi
      obtain ⟨b, cap, rfl, hbd, hbv, hbl, hbS, hk0⟩ := D0.out.own hgi
      have hbw : b < w.heap.size := D0.out.slt b hbS
      have hvw : vb < w.heap.size := D0.out.slt vb D0.out.sv
      have T2 : Hid (Tch (fun k => k = r) wr w2) := (Tch.of_grown hg2).mono (fun k _ e => by cases e; rfl)
      have BW2 : Hid (Below w.heap.size w w2) := BW.out.trans (T2.out.below BW.out.size (fun k e => by rw [e]; exact HR0.out.2))
      have SV : Hid (SecR w2 (.slice (some ⟨b, 0, none⟩) (s.V i).length cap) (s.V i)) := hv3.below BW2.out
      have DK2 : Hid (DkAt So w2 (vb1 + 1) { s.cpy with V := V } lb1 vb1 lc1 g') := DK.out.tch T2.out (fun k hk e => (FS.out k hk).2 e)
      have RG2 : Hid (w2.ranges Try.prog 3 Rv vb r n (Dm n g) (fun z => left z && !z.sameKey (Lit.int .i64 (i : Int))) cnt2) := hrg2
      have CM2 : Hid (CpM s g (fun z => left z && !z.sameKey (Lit.int .i64 (i : Int))) (vput V i (s.V i))) := CM.out.step (by rw [hgi]; rfl)
      have HLT : Hid (cnt2 < cnt) := hlt
      have HNE : Hid (s.V i ≠ []) := hv2
      have HIN : Hid (i < n) := hi
      have hi0 : (0 : Int) ≤ (i : Int) := by omega
      have HVI : Hid ((s.V i).length ≤ 274877906944) := HV.out i
      have HVW : Hid (vb < w.heap.size ∧ vb ≠ vb1 ∧ r ≠ vb1) := ⟨hvw, fun e => by have := HVB.out; omega, fun e => by have := HR0.out.1; omega⟩
      have cm2 : w2.drew.cell? ⟨vb1 + 1, 1, none⟩ = some (.map (some vb1)) := DK2.out.c1
      have cm1 : w2.cell? ⟨vb1 + 1, 1, none⟩ = some (.map (some vb1)) := DK2.out.c1
      obtain ⟨m, hm⟩ : ∃ m, (s.V i).length = m := ⟨_, rfl⟩
      have HMM : Hid ((s.V i).length = m) := hm
      have HSTEP : Hid (∀ W3 v3, SecR W3 v3 (s.V i) → Below w2.drew.heap.size w2.drew W3 → (∀ k, v3.ownBlock = some k → w2.drew.heap.size ≤ k) →
          W3.cell? ⟨vb1 + 1, 1, none⟩ = some (.map (some vb1)) ∧ ∃ W4, (Instr.mapUpdate 70 (.map (some vb1)) (.int .i64 (i : Int)) v3).run Try.prog W3 = .ok () W4 ∧ W4.cell? ⟨vb1 + 1, 1, none⟩ = some (.map (some vb1)) ∧
            Hid (W4.ranges Try.prog 3 Rv vb r n (Dm n g) (fun z => left z && !z.sameKey (Lit.int .i64 (i : Int))) cnt2 ∧ Below w.heap.size w W4 ∧ ∃ S4 g4, DkAt S4 W4 (vb1 + 1) { s.cpy with V := vput V i (s.V i) } lb1 vb1 lc1 g4 ∧ ∀ k, S4 k → w.heap.size ≤ k ∧ k ≠ r)) := by
        intro W3 v3 hs3 hb3 hf3
        have DD : DkAt So w2.drew (vb1 + 1) { s.cpy with V := V } lb1 vb1 lc1 g' := DK2.out.tch (R := fun _ => False) (Tch.drew (Tch.refl _ w2)) (fun _ _ e => e)
        have D3 : DkAt So W3 (vb1 + 1) { s.cpy with V := V } lb1 vb1 lc1 g' := DD.tch (R := fun _ => False) (Tch.of_below hb3) (fun _ _ e => e)
        have hM : Mp W3 vb1 n g' := by have := D3.map; rw [show ({ s.cpy with V := V } : DS).L.length = n from HN.out] at this; exact this
        obtain ⟨W4, hrun, r1, r2⟩ := World.ownsMap.update (val := v3) (d := .held v3) (ps := []) hM keyed3 Try.underlying70 (by unfold maxLen; omega) (key3 (i := i) (by have := HIN.out; omega)) rfl
        have hM4 : Mp W4 vb1 n (gput g' i (some v3)) := mp_of r1 (dm_put HIN.out v3 (r1.canon keyed3))
        have T4 : Tch (fun k => k = vb1) W3 W4 := (Tch.of_grown r2).mono (fun k _ e => by cases e; rfl)
        have T3 : Tch (fun _ => False) w2.drew W3 := Tch.of_below hb3
        have T24 : Tch (fun k => k = vb1) w2 W4 := Tch.trans (b := w2.drew) (S := fun k => k = vb1) (S' := fun k => k = vb1) (Tch.drew (Tch.refl _ w2)) ((T3.mono (S' := fun k => k = vb1) (fun _ _ e => e.elim)).trans T4 (fun _ _ e => e)) (fun _ _ e => e)
        have hM4' : Mp W4 vb1 ({ s.cpy with V := V } : DS).L.length (gput g' i (some v3)) := by rw [show ({ s.cpy with V := V } : DS).L.length = n from HN.out]; exact hM4
        obtain ⟨S4, h41, h42, h43⟩ := DD.give (i := i) (by show i < s.L.length; rw [HN.out]; exact HIN.out) HNE.out (wa := W3) (T3.mono (fun _ _ e => e.elim)) hs3 (fun k hk => .inr (hf3 k hk)) hM4' T4
        have hne : vb1 + 1 ≠ vb1 := by omega
        refine ⟨D3.c1, W4, hrun, by rw [T4.cell (p := ⟨vb1 + 1, 1, none⟩) D3.lt hne]; exact D3.c1, RG2.out.kept (row := some vb1) ⟨T24.os, T24.tape, T24.output, T24.size, fun k hk hne => T24.block k hk (fun e => hne (by rw [e]))⟩ (fun e => by cases e; exact HVW.out.2.1 rfl) (fun e => by cases e; exact HVW.out.2.2 rfl), BW2.out.trans (T24.below BW2.out.size (fun k e => by rw [e]; exact HVB.out)), S4, _, h41, fun k hk => ?_⟩
        rcases h43 k hk with e | e
        · exact FS.out k e
        · have h1 : w2.heap.size ≤ k := e
          have h2 : r < w2.heap.size := RG2.out.lt
          have h3 := BW2.out.size
          exact ⟨by omega, by omega⟩
      clear hkey hlk hv hat hyd hgi hv2 hv3 hbd hbv hbl hbS hg2 hs2 hrg2 hlt hi hvw
      have HCL := hideP (clone_sec b (s.V i).length cap (s.V i) w2.drew (show SecR w2.drew (.slice (some ⟨b, 0, none⟩) (s.V i).length cap) (s.V i) from SV.out.tch (S := fun _ => False) (Tch.drew (Tch.refl _ w2)) (fun _ _ e => e)) HVI.out)
      rw [hm] at HCL hen ⊢
      clear hm hk0 hbw
      go_wp2_with fail
      go_region_held3 (fun w' => w'.cell? ⟨vb1 + 1, 1, none⟩ = some (.map (some vb1))) (go_keep)
        (first
          | (go_at_call 52; refine HCL.out.mono ?_; rintro e W3 ⟨v3, rfl, hs3, hb3, hf3⟩; obtain ⟨k3, W4, hup, k4, FIN⟩ := HSTEP.out W3 v3 hs3 hb3 hf3; clear hs3 hb3 hf3))
      go_wp2_with fail
      obtain ⟨RG4, B4, S4, g4, D4, F4⟩ := FIN.out
      go_roundw
      case rel => exact ⟨_, cnt2, _, S4, g4, RG4, CM2, D4, B4, F4⟩
      case measure => rw [RG4.left_eq, RG.out.left_eq]; exact HLT.out
end Go.Proofs.Ytkjcfhebkfppdaa
