import Derived.Test.YtaacidgihhcpkaaYX22
import Derived.Test.YtaacidgihhcpkaaYX23
import Derived.Test.YtaacidgihhcpkaaYX12
import Derived.Test.YtaacidgihhcpkaaYX05
import Derived.Test.YtaacidgihhcpkaaYX27
import Derived.Test.YtaacidgihhcpkaaYX03
/-
  The document's Append of layer 11.
-/
namespace Go.Proofs.Ytaacidgihhcpkaa
open Go.RowKit Go.Maps Pl
set_option linter.unusedVariables false
set_option linter.unusedSimpArgs false
set_option maxRecDepth 100000

/-- 'v[l:]': the rest, in the same block. -/
theorem wpList_fromS (w w0 : World) {ops : Array Oper} {rest : List Oper} {o : Oper} {a : Act} {Q : Exit → Act → World → Prop} (hgd : o.guard = none) (x l : Operand)
    (ho : o.op = .slice 36 x (some l) none none) (v : Value) (xs : List Int) (hv : a.eval x = v) (hr : Rd .u8 w0 v xs) (m : Nat) (hl : a.eval l = .int .i64 (m : Int)) (hm : m ≤ xs.length)
    (h : ∀ v', Rd .u8 w0 v' (xs.drop m) → (∀ k, v'.ownBlock = some k → v.ownBlock = some k) → wpList Try.prog ops Q rest (a.put o.dst v') w) : wpList Try.prog ops Q (o :: rest) a w := by
  obtain ⟨b, cap, hb, _⟩ := id hr
  rw [hb] at hr
  have h2 := rd_sliced hr m xs.length hm (Nat.le_refl _)
  rw [show (xs.drop m).take (xs.length - m) = xs.drop m by rw [List.take_of_length_le]; rw [List.length_drop]; omega] at h2
  have h3 : ∀ k, (sliced b m xs.length cap 1).ownBlock = some k → v.ownBlock = some k := fun k hk => by
    rw [hb]
    unfold sliced at hk
    cases b with
    | none => simp [Value.ownBlock] at hk
    | some x =>
      by_cases c : cap = m
      · simp [Value.ownBlock, c] at hk ⊢; exact hk
      · simp [Value.ownBlock, c, Addr.add] at hk ⊢
        split at hk <;> exact hk
  refine wpList_plain hgd fun K hK => ?_
  have hrun : (Instr.sliceAt 36 (.slice b xs.length cap) (some (.int .i64 (m : Int))) none none).run Try.prog w = .ok (sliced b m xs.length cap 1) w := by
    rw [run_sliceAt_slice _ _ _ _ _ _ under8, run_slice_l _ _ _ _ _ under8 _ _ (by omega) (by omega), size8]
    simp [Result.andThen]
  unfold Oper.wp execOp
  simp only [ho, hv, hl, hb, Option.map_some, Option.map_none, Sem.run_bind, hrun, Result.andThen_ok]
  exact hK _ _ (h _ h2 h3)
/-- So many pieces. -/
def pcl (ys : List Int) (t : Nat) : List (List Int) := (List.range t).map (chk ys)
theorem pcl_len (ys : List Int) (t : Nat) : (pcl ys t).length = t := by simp [pcl]
theorem pcl_succ (ys : List Int) (t : Nat) : pcl ys (t + 1) = pcl ys t ++ [chk ys t] := by simp [pcl, List.range_succ]
theorem pcl_get (ys : List Int) {t i : Nat} (h : i < t) : (pcl ys t).getD i [] = chk ys i := by
  unfold pcl
  rw [List.getD_eq_getElem?_getD, List.getElem?_map, List.getElem?_range h]
  rfl
/-- What an Append tells, and leaves. -/
def AppRr (R : Nat → Prop) (r : Nat) (s : DS) (q g u m : Nat) (ys : List Int) (w : World) (e : Ending) (w' : World) : Prop :=
  (npc ys.length ≤ 48 - u ∧ e = .returned (.int .i64 0) ∧ ∃ R', Rf R' w' r (jap s g (m + 1) (2 + u) ys (npc ys.length)) ∧ Jr w' q r g (u + npc ys.length) (m + 1) ∧ Tch (fun k => R k ∨ k = q) w w' ∧ ∀ k, R' k → R k ∨ w.heap.size ≤ k) ∨
  (¬ npc ys.length ≤ 48 - u ∧ e = .returned (.int .i64 11) ∧ Below w.heap.size w w')

set_option maxHeartbeats 4000000 in
theorem refAppend_any {R : Nat → Prop} {r : Nat} {s : DS} (q g u m : Nat) (v : Value) (ys : List Int) (w : World) (h : Rf R w r s) (hj : Jr w q r g u m) (hRq : ¬ R q) (hr : Rd .u8 w v ys) (hb : By ys) (hv : ∀ k, v.ownBlock = some k → ys ≠ [] → ¬ R k ∧ k ≠ q)
    (h50 : 50 ≤ s.L.length) (hu : u ≤ 48) (hg : g < 4294967296) (hm : m < 4294967000) (hV : ∀ i, (s.V i).length < 274877906000) (hys : ys.length ≤ 2000000000) :
    Calls Try.prog 14 #[.pointer (some ⟨q, 0, none⟩), v] w fun e w' => AppRr R r s q g u m ys w e w' := by
  obtain ⟨da, cap, rfl, hc1, hc2, _⟩ := id hr
  have HR : Hid (Rd .u8 w (.slice da ys.length cap) ys) := hr
  have HY : Hid (By ys) := hb
  have HD : Hid (Rf R w r s) := h
  have HJ : Hid (Jr w q r g u m) := hj
  have HRQ : Hid (¬ R q) := hRq
  have HV := hideP hv
  have H50 : Hid (50 ≤ s.L.length) := h50
  have HVN := hideP hV
  have hcl : cap ≤ 9223372036854775807 := by unfold maxLen at hc2; omega
  have HN := hideP (npc_cases ys.length)
  have hql : q < w.heap.size := Bo.lt hj
  obtain ⟨L, hL⟩ : ∃ L, Hid (ys.length = L) := ⟨_, rfl⟩
  rw [hL.out] at HR HV HN hc1 hys ⊢
  have HBK : Hid (∀ k, (Value.slice da L cap).ownBlock = some k → ys ≠ [] → k < w.heap.size) := fun k hk h0 => HR.out.blk_lt h0 hk
  clear h hj hRq hr hb hv h50 hV hc2
  go_enter Try.func14, Try.ntmps14
  go_wp2_with fail
  go_loopw [5, 6] (fun pv rv wr => ∃ (t : Nat) (v0 v1 : Value), v0 = pv ∧ v1 = rv ∧ (t = 0 ∨ 232 * t < L) ∧ Hid (OwL (fun k => k < w.heap.size ∧ ¬ R k ∧ k ≠ q) wr v0 (pcl ys t)) ∧ Hid (Rd .u8 w v1 (ys.drop (232 * t))) ∧ Hid (∀ k, v1.ownBlock = some k → (Value.slice da L cap).ownBlock = some k) ∧ Hid (Below w.heap.size w wr) ∧ Hid (∀ k, v0.ownBlock = some k → w.heap.size ≤ k)) (fun _ rv _ => (match rv with | .slice _ n _ => n | _ => 0))
  case atStart => exact ⟨0, _, _, rfl, rfl, .inl rfl, owL_nil _ _, by rw [Nat.mul_zero, List.drop_zero]; exact HR, (fun k hk => hk), Below.refl _ _, (fun k hk => by cases hk)⟩
  case round =>
    obtain ⟨t, v0, v1, rfl, rfl, ht, OL, RR, OB, BW, NW⟩ := hrel
    obtain ⟨pa, pc, rfl, hp1, hp2⟩ := OL.out.len
    obtain ⟨ra, rc, hre, hr1, hr2, _⟩ := id RR.out
    subst hre
    have hpc9 : pc ≤ 9223372036854775807 := by unfold maxLen at hp2; omega
    have hrc9 : rc ≤ 9223372036854775807 := by unfold maxLen at hr2; omega
    have HRL : Hid ((ys.drop (232 * t)).length = L - 232 * t) := by show _ = _; rw [List.length_drop, hL.out]
    rw [pcl_len] at OL NW hp1 ⊢
    obtain ⟨l, hl⟩ : ∃ l, Hid (L - 232 * t = l) := ⟨_, rfl⟩
    rw [HRL.out, hl.out] at RR OB hr1 ⊢
    rw [hl.out] at HRL
    have HPS := hideP (pcl_succ ys t)
    have HRW := hideP (RR.out.below BW.out)
    have HRL2 : Hid ((pcl ys t).length + 1 ≤ 2000000000000) := by show _ ≤ _; rw [pcl_len]; rcases ht with e | e <;> omega
    have HEB : Hid (∀ k, (Value.slice ra l rc).ownBlock = some k → ys ≠ [] → (k < w.heap.size ∧ ¬ R k ∧ k ≠ q) ∧ k < wr.heap.size ∧ (Value.slice pa t pc).ownBlock ≠ some k) := fun k hk h0 => by
      have h1 := OB.out k hk
      have h2 := HBK.out k h1 h0
      exact ⟨⟨h2, HV.out k h1 h0⟩, Nat.lt_of_lt_of_le h2 BW.out.size, fun e => by have := NW.out k e; omega⟩
    have HNE : Hid (chk ys t ≠ [] → ys ≠ []) := fun h1 h2 => h1 (by rw [h2]; simp [chk])
    by_cases hlt : 232 < l
    · have hltI : (232 : Int) < (l : Int) := by omega
      have HR1 : Hid (Rd .u8 w (.slice ra 232 rc) (chk ys t)) := rd_upto RR.out (by rw [HRL.out]; omega)
      have HRD : Hid ((ys.drop (232 * t)).drop 232 = ys.drop (232 * (t + 1))) := by show _ = _; rw [List.drop_drop]; congr 1
      have HR1W := hideP (HR1.out.below BW.out)
      have HUE : Hid (∀ k, (Value.slice ra 232 rc).ownBlock = some k → chk ys t ≠ [] → (k < w.heap.size ∧ ¬ R k ∧ k ≠ q) ∧ k < wr.heap.size ∧ (Value.slice pa t pc).ownBlock ≠ some k) := fun k hk h0 => HEB.out k (by revert hk; cases ra <;> exact fun h => h) (HNE.out h0)
      go_wp2_with (at_builtin; refine wpList_pushL wr rfl (.tmp 12) (.tmp 15) rfl (.slice pa t pc) (pcl ys t) rfl OL.out (.slice ra 232 rc) (chk ys t) HR1W.out HUE.out rfl HRL2.out ?_)
      intro pv2 w5 OL5 GR5
      rw [← HPS.out] at OL5
      have OL5 := hideP OL5
      have B5 : Hid (Below w.heap.size w w5) := BW.out.trans (GR5.tch.below BW.out.size (fun k e => NW.out k e))
      have N5 : Hid (∀ j, pv2.ownBlock = some j → w.heap.size ≤ j) := fun j hj => by
        rcases GR5.fresh j hj with e | e
        · exact NW.out j e
        · exact Nat.le_trans BW.out.size e
      have RRX : Hid (Rd .u8 w (.slice ra l rc) (ys.drop (232 * t))) := RR
      obtain ⟨Z, hZ⟩ : ∃ Z, Hid (ys.drop (232 * t) = Z) := ⟨_, rfl⟩
      rw [hZ.out] at RRX HRD HRL
      clear GR5 OL HR1 HR1W HUE HEB
      go_wp2_with (with_reducible (show wpList _ _ _ (Oper.mk _ (Op.slice _ _ _ _ _) _ _ _ _ :: _) _ _); refine wpList_fromS w5 w rfl (.tmp 17) (.const (.int .i64 232)) rfl (.slice ra l rc) Z rfl RRX.out 232 rfl (by rw [HRL.out]; omega) ?_)
      intro rv2 RR2 ob2
      have OB2 : Hid (∀ k, rv2.ownBlock = some k → (Value.slice da L cap).ownBlock = some k) := fun k hk => OB.out k (ob2 k hk)
      rw [HRD.out] at RR2
      obtain ⟨ra2, rc2, hre2, _⟩ := id RR2
      have HR2 := hideP RR2
      rw [hre2] at HR2 OB2 ⊢
      have HL2 : Hid ((ys.drop (232 * (t + 1))).length = l - 232) := by show _ = _; rw [List.length_drop, hL.out, ← hl.out]; omega
      rw [HL2.out] at HR2 OB2 ⊢
      clear RR2 hre2 ob2
      go_wp2_with fail
      go_roundw
      case rel => exact ⟨t + 1, _, _, rfl, rfl, by have := hl.out; omega, OL5, HR2, OB2, B5, N5⟩
      case measure => show l - 232 < l; omega
    · have hltI : ¬ (232 : Int) < (l : Int) := by omega
      have HTN : Hid (npc ys.length = t + 1) := by
        show _ = _
        rw [hL.out]
        have := HN.out
        have := hl.out
        rcases ht with e | e <;> omega
      have HCK : Hid (ys.drop (232 * t) = chk ys t) := by
        show _ = _
        unfold chk
        rw [List.take_of_length_le (by rw [HRL.out]; omega)]
      have RRX : Hid (Rd .u8 w (.slice ra l rc) (chk ys t)) := by rw [← HCK.out]; exact RR
      have RRW := hideP (RRX.out.below BW.out)
      have HUE : Hid (∀ k, (Value.slice ra l rc).ownBlock = some k → chk ys t ≠ [] → (k < w.heap.size ∧ ¬ R k ∧ k ≠ q) ∧ k < wr.heap.size ∧ (Value.slice pa t pc).ownBlock ≠ some k) := fun k hk h0 => HEB.out k hk (HNE.out h0)
      have J1 : Hid (Jr wr q r g u m) := Bo.below HJ.out BW.out
      go_wp2_with (at_builtin; refine wpList_pushL wr rfl (.tmp 19) (.tmp 21) rfl (.slice pa t pc) (pcl ys t) rfl OL.out (.slice ra l rc) (chk ys t) RRW.out HUE.out rfl HRL2.out ?_)
      intro pv2 w5 OL5 GR5
      rw [← HPS.out] at OL5
      obtain ⟨pa2, pc2, hpe2, hpp1, hpp2⟩ := OL5.len
      subst hpe2
      have OL5 := hideP OL5
      have B5 : Hid (Below w.heap.size w w5) := BW.out.trans (GR5.tch.below BW.out.size (fun k e => NW.out k e))
      have N5 : Hid (∀ j, (Value.slice pa2 (pcl ys (t + 1)).length pc2).ownBlock = some j → w.heap.size ≤ j) := fun j hj => by
        rcases GR5.fresh j hj with e | e
        · exact NW.out j e
        · exact Nat.le_trans BW.out.size e
      have hpp9 : pc2 ≤ 9223372036854775807 := by unfold maxLen at hpp2; omega
      obtain ⟨M, hM⟩ : ∃ M, Hid (t + 1 = M) := ⟨_, rfl⟩
      rw [hM.out] at OL5 N5 HTN hpp1 ⊢
      rw [pcl_len] at OL5 N5 hpp1 ⊢
      have J5 : Hid (Jr w5 q r g u m) := Bo.below HJ.out B5.out
      have D5 := hideP (HD.out.below B5.out)
      have c2 := Bo.cell J5.out (i := 2) rfl
      have c3 := Bo.cell J5.out (i := 3) rfl
      have f3 := Bo.fz J5.out 3
      have huI : (48 : Int) - (u : Int) = ((48 - u : Nat) : Int) := by omega
      obtain ⟨uu, huu⟩ : ∃ x, 48 - u = x := ⟨_, rfl⟩
      rw [huu] at huI
      clear GR5 OL RRX RRW HUE HEB J1 hpp2
      by_cases hbig : uu < M
      · have hbI : (uu : Int) < (M : Int) := by omega
        have HB : Hid (¬ npc ys.length ≤ 48 - u) := by show ¬ _; rw [HTN.out]; omega
        clear huu
        go_wp2_with fail
        go_ret
        exact .inr ⟨HB.out, rfl, B5.out⟩
      · have hbI : decide (uu < M) = false := by rw [decide_eq_false_iff_not]; omega
        have hbI2 : ¬ (uu : Int) < (M : Int) := by omega
        have HB : Hid (npc ys.length ≤ 48 - u) := by show _ ≤ _; rw [HTN.out]; omega
        have hMu : u + M ≤ 48 := by omega
        have hM1 : 1 ≤ M := by have := hM.out; omega
        obtain ⟨m1, hm1⟩ : ∃ m1, m + 1 = m1 := ⟨_, rfl⟩
        have hmI : (m : Int) + 1 = (m1 : Int) := by omega
        have hm9 : m1 < 4294967296 := by omega
        have HM1 : Hid (m + 1 = m1) := hm1
        clear hm1 huu
        obtain ⟨W6, hW6⟩ : ∃ W6, w5.setCell ⟨q, 3, none⟩ (.int .i64 (m1 : Int)) = W6 := ⟨_, rfl⟩
        have t6 : Tch (fun k => k = q) w5 W6 := by rw [← hW6]; exact tch_set w5 q 3 _
        have J6 : Hid (Jr W6 q r g u m1) := by rw [← hW6]; exact Bo.set J5.out 3 (.int .i64 (m1 : Int))
        have D6 := hideP (D5.out.tch t6 (fun k hk e => by have e2 : k = q := e; exact HRQ.out (e2 ▸ hk)))
        have T6 : Hid (Tch (fun k => R k ∨ k = q) w W6) := (Tch.of_below (S := fun k => R k ∨ k = q) B5.out).trans t6 (fun k _ e => .inr e)
        have OL6 := hideP (OL5.out.tch t6 (fun k hk e => by have e2 : k = q := e; have := N5.out k hk; omega) (fun k hk _ e => hk.2.2 e))
        have HPW : Hid (∀ k, (Value.slice pa2 M pc2).ownBlock = some k → w.heap.size ≤ k ∧ k < W6.heap.size) := fun k hk => ⟨N5.out k hk, OL6.out.lt k hk⟩
        have HRW6 : Hid (w.heap.size ≤ W6.heap.size) := T6.out.size
        have R6T : Hid (RfTo R W6 W6 r s) := D6.out.to
        clear t6 OL5 D5 J5 B5 N5
        go_wp2_with fail
        go_loopw [7] (fun iv wr => ∃ (i : Nat), i ≤ M ∧ iv = .int .i64 (i : Int) ∧ Hid (RfTo R W6 wr r (jap s g m1 (2 + u) ys i))) (fun iv _ => M - (intOf iv).toNat)
        case atStart => exact ⟨0, Nat.zero_le _, rfl, R6T⟩
        case round =>
          obtain ⟨wj, rfl⟩ : ∃ wj, wj = wr := ⟨_, rfl⟩
          obtain ⟨i, hi, rfl, RT⟩ := hrel
          obtain ⟨R1, D1, T1, N1⟩ := RT.out
          have J1 : Hid (Jr wj q r g u m1) := Bo.tch J6.out T1 HRQ.out
          have OL1 : Hid (OwL (fun k => k < w.heap.size ∧ ¬ R k ∧ k ≠ q) wj (.slice pa2 M pc2) (pcl ys M)) := OL6.out.tch T1 (fun k hk e => by have h1 := HPW.out k hk; have h2 := HD.out.rlt k e; omega) (fun k hk _ e => hk.2.1 e)
          have d0 := Bo.cell J1.out (i := 0) rfl
          have d1 := Bo.cell J1.out (i := 1) rfl
          have d2 := Bo.cell J1.out (i := 2) rfl
          have d3 := Bo.cell J1.out (i := 3) rfl
          have g2 := Bo.fz J1.out 2
          have HD1 := hideP D1
          have HT1 := hideP T1
          have HN1 := hideP N1
          by_cases hlt2 : i < M
          · have hlt2I : (i : Int) < (M : Int) := by omega
            obtain ⟨pb, po, ui, hpe, cu, ru⟩ : ∃ b o u, pa2 = some ⟨b, o, none⟩ ∧ wj.cell? ⟨b, o + i, none⟩ = some u ∧ Rd .u8 wj u ((pcl ys M).getD i []) := by
              obtain ⟨a', cap', e, _, _, hc⟩ := OL1.out.rd
              simp only [Value.slice.injEq] at e
              obtain ⟨rfl, _, rfl⟩ := e
              rcases hc with e | ⟨b, o, e, hc⟩
              · have := congrArg List.length e; rw [pcl_len] at this; simp at this; omega
              · obtain ⟨u', c', r'⟩ := hc i (by rw [pcl_len]; exact hlt2)
                exact ⟨b, o, u', e, c', r'⟩
            subst hpe
            rw [pcl_get ys hlt2] at ru
            obtain ⟨xa, xc, hxe, _, hx2, _⟩ := id ru
            subst hxe
            have HRU := hideP ru
            have HPK : Hid (OkR ⟨i, M, g, m1, chk ys i⟩) := ⟨by show i < 256; omega, by show M < 256; omega, hg, hm9, by show (chk ys i).length ≤ 240; rw [chk_len]; omega⟩
            have HPB : Hid (By (chk ys i)) := chk_by HY.out i
            have HPC : Hid (∀ W, Below wj.heap.size wj W → Calls Try.prog 20 #[.int .i64 (g : Int), .int .i64 (m1 : Int), .int .i64 (i : Int), .int .i64 (M : Int), .slice xa (chk ys i).length xc] W fun e w' => ∃ v', e = .returned v' ∧ Owns .u8 5 w' v' (jsec ⟨i, M, g, m1, chk ys i⟩) ∧ Below W.heap.size W w' ∧ ∀ k, v'.ownBlock = some k → W.heap.size ≤ k) := fun W hW => refPieceJ_any ⟨i, M, g, m1, chk ys i⟩ _ W (HRU.out.below hW) HPB.out HPK.out
            have HJL : Hid ((jsec ⟨i, M, g, m1, chk ys i⟩).length = 256) := jsec_len HPK.out.len
            have HJB : Hid (By (jsec ⟨i, M, g, m1, chk ys i⟩)) := jsec_by HPB.out
            have HPA : Hid (jsec ⟨i, M, g, m1, chk ys i⟩ = jsec (pcA g m1 ys i)) := by show _ = _; unfold pcA; rw [HTN.out]
            obtain ⟨p, hp⟩ : ∃ p, 2 + u + i = p := ⟨_, rfl⟩
            have HPE : Hid (2 + u + i = p) := hp
            have hp50 : p < 50 := by omega
            have HWK : Hid (IntKind.i64.wrap (IntKind.i64.wrap (2 + (u : Int)) + (i : Int)) = (p : Int)) := by
              show _ = _
              have e1 : IntKind.i64.wrap (2 + (u : Int)) = ((2 + u : Nat) : Int) := by rw [IntKind.wrap_i64]; omega
              rw [e1, IntKind.wrap_i64]
              omega
            have HWV : Hid (((jap s g m1 (2 + u) ys i).V p).length < 274877906943) := by
              show _ < _
              have h1 := jap_V s g m1 (2 + u) ys i p
              have h2 := HVN.out p
              omega
            have HWR : Hid (∀ (W : World) (v : Value), Below wj.heap.size wj W → Rd .u8 W v (jsec ⟨i, M, g, m1, chk ys i⟩) → (∀ k, v.ownBlock = some k → wj.heap.size ≤ k) → Calls Try.prog 21 #[.pointer (some ⟨r, 0, none⟩), .int .i64 (p : Int), v] W fun e w' => e = .returned (.int .i64 0) ∧ RfTo R W6 w' r (jap s g m1 (2 + u) ys (i + 1))) := fun W v hW hr hv => (refWrite_ok p v _ W (HD1.out.below hW) (by rw [jap_L]; have := H50.out; omega) hr HJL.out HJB.out (fun k hk e => by have h1 := hv k hk; have h2 := HD1.out.rlt k e; omega) (by have := HWV.out; omega)).mono (by
              rintro e w' ⟨rfl, h⟩
              refine ⟨rfl, ?_⟩
              rw [HPA.out] at h
              rw [jap, HPE.out]
              exact RfTo.trans (HD1.out.below hW) (HT1.out.trans (Tch.of_below (S := fun _ => False) hW) (fun _ _ e => e.elim)) HN1.out h)
            have HCU : Hid (∀ W, Below wj.heap.size wj W → W.cell? ⟨pb, po + i, none⟩ = some (.slice xa (chk ys i).length xc)) := fun W hW => by rw [(Tch.of_below (S := fun _ => False) hW).cell (p := ⟨pb, po + i, none⟩) (World.block_lt_of_cell? wj ⟨pb, po + i, none⟩ cu) (fun e => e)]; exact cu
            have HJU : Hid (∀ W, Below wj.heap.size wj W → W.cell? ⟨q, 0, none⟩ = some (.pointer (some ⟨r, 0, none⟩)) ∧ W.cell? ⟨q, 1, none⟩ = some (.int .i64 (g : Int)) ∧ W.cell? ⟨q, 2, none⟩ = some (.int .i64 (u : Int)) ∧ W.cell? ⟨q, 3, none⟩ = some (.int .i64 (m1 : Int))) := fun W hW => by
              have := Bo.below J1.out hW
              exact ⟨this.cell (i := 0) rfl, this.cell (i := 1) rfl, this.cell (i := 2) rfl, this.cell (i := 3) rfl⟩
            have HJW : Hid (∀ W, RfTo R W6 W r (jap s g m1 (2 + u) ys (i + 1)) → (W.cell? ⟨q, 0, none⟩ = some (.pointer (some ⟨r, 0, none⟩)) ∧ W.cell? ⟨q, 1, none⟩ = some (.int .i64 (g : Int)) ∧ W.cell? ⟨q, 2, none⟩ = some (.int .i64 (u : Int)) ∧ W.cell? ⟨q, 3, none⟩ = some (.int .i64 (m1 : Int))) ∧ W.cell? ⟨pb, po + i, none⟩ = some (.slice xa (chk ys i).length xc)) := fun W hW => by
              obtain ⟨R2, h1, h2, h3⟩ := hW
              have h4 := Bo.tch J6.out h2 HRQ.out
              refine ⟨⟨h4.cell (i := 0) rfl, h4.cell (i := 1) rfl, h4.cell (i := 2) rfl, h4.cell (i := 3) rfl⟩, ?_⟩
              have h5 := HPW.out pb rfl
              have hn5 : ¬ R pb := fun e => by have := HD.out.rlt pb e; omega
              have e1 := HT1.out.cell (p := ⟨pb, po + i, none⟩) h5.2 hn5
              rw [h2.cell (p := ⟨pb, po + i, none⟩) h5.2 hn5, ← e1]
              exact cu
            obtain ⟨xl, hxl⟩ : ∃ xl, Hid ((chk ys i).length = xl) := ⟨_, rfl⟩
            rw [hxl.out] at HCU HPC HJW
            have hC0 := HCU.out wj.drew ((Below.refl _ _).drew)
            obtain ⟨k0, k1, k2, k3⟩ := HJU.out wj.drew ((Below.refl _ _).drew)
            have HPD := hideP (HPC.out wj.drew ((Below.refl _ _).drew))
            have hxc9 : xc ≤ 9223372036854775807 := by unfold maxLen at hx2; omega
            clear hp cu ru hx2 d0 d1 d2 d3 D1 T1 N1 RT OL1 J1 HRU
            go_wp2_with fail
            go_region_held3 (fun w' => (w'.cell? ⟨q, 0, none⟩ = some (.pointer (some ⟨r, 0, none⟩)) ∧ w'.cell? ⟨q, 1, none⟩ = some (.int .i64 (g : Int)) ∧ w'.cell? ⟨q, 2, none⟩ = some (.int .i64 (u : Int)) ∧ w'.cell? ⟨q, 3, none⟩ = some (.int .i64 (m1 : Int))) ∧ w'.cell? ⟨pb, po + i, none⟩ = some (.slice xa xl xc)) (first | go_keep | exact ⟨⟨k0, k1, k2, k3⟩, hC0⟩ | exact ⟨⟨l0, l1, l2, l3⟩, hC1⟩ | exact HS8)
              (first
                | (go_at_call 20; refine HPD.out.mono ?_; rintro e w7 ⟨v7, rfl, o7, b7, n7⟩; have B7 : Hid (Below wj.heap.size wj w7) := ((Below.refl _ _).drew).trans b7; have R7 := hideP o7.rd; have N7 : Hid (∀ k, v7.ownBlock = some k → wj.heap.size ≤ k) := n7; have hC1 := HCU.out w7 B7.out; obtain ⟨l0, l1, l2, l3⟩ := HJU.out w7 B7.out; clear o7 b7 n7)
                | (go_at_call 21; rw [HWK.out]; refine (HWR.out w7 v7 B7.out R7.out N7.out).mono ?_; rintro e w8 ⟨rfl, h8⟩; have RT8 := hideP h8; have HS8 := HJW.out w8 h8; clear h8))
            clear k0 k1 k2 k3 hC0 HS8 hC1 l0 l1 l2 l3 HPD
            go_wp2_with fail
            go_roundw
            case rel => exact ⟨i + 1, by omega, by go_num, RT8⟩
            case measure => simp [intOf]; omega
          · have hlt2I : ¬ (i : Int) < (M : Int) := by omega
            have hie : i = M := by omega
            rw [hie] at HD1
            obtain ⟨uM, huM⟩ : ∃ x, u + M = x := ⟨_, rfl⟩
            have huI2 : (u : Int) + (M : Int) = (uM : Int) := by omega
            have huM9 : (uM : Int) < 1000 := by omega
            have HUM : Hid (u + M = uM) := huM
            have J2 : Hid (Jr (wj.setCell ⟨q, 2, none⟩ (.int .i64 (uM : Int))) q r g uM m1) := Bo.set J1.out 2 (.int .i64 (uM : Int))
            have t2 : Tch (fun k => k = q) wj (wj.setCell ⟨q, 2, none⟩ (.int .i64 (uM : Int))) := tch_set wj q 2 _
            have HQ1 : Hid (¬ R1 q) := fun e => by
              rcases HN1.out q e with e | e
              · exact HRQ.out e
              · have := Bo.lt J6.out; omega
            have D2 := hideP (HD1.out.tch t2 (fun k hk e => by have e2 : k = q := e; exact HQ1.out (e2 ▸ hk)))
            have T2 : Hid (Tch (fun k => R k ∨ k = q) w (wj.setCell ⟨q, 2, none⟩ (.int .i64 (uM : Int)))) := (T6.out.trans (HT1.out.mono (S' := fun k => R k ∨ k = q) (fun k _ e => .inl e)) (fun k _ e => e)).trans t2 (fun k _ e => .inr e)
            have N2 : Hid (∀ k, R1 k → R k ∨ w.heap.size ≤ k) := fun k hk => by
              rcases HN1.out k hk with e | e
              · exact .inl e
              · exact .inr (Nat.le_trans HRW6.out e)
            clear hie huM t2 D1 T1 N1 RT HD1 HT1 HN1
            go_wp2_with fail
            go_ret
            refine .inl ⟨HB.out, rfl, R1, ?_, ?_, T2.out, N2.out⟩
            · rw [HTN.out, HM1.out]; exact D2.out
            · rw [HTN.out, HM1.out, HUM.out]; exact J2.out
end Go.Proofs.Ytaacidgihhcpkaa
