/-
  The document's Split and Join.
-/
import Derived.Test.YtcjdhbiiigdmmaaDoorNxRef
import Derived.Test.YtcjdhbiiigdmmaaDoorNxPath
namespace Go.Proofs.YtcjdhbiiigdmmaaDoor
open Go.RowKit Nx
set_option linter.unusedVariables false
set_option maxRecDepth 100000

/-- 'append(v, x)': one text, which lies in a block of its own first. -/
theorem wpList_pushV {P : Program} (w : World) {ops : Array Oper} {rest : List Oper} {o : Oper} {a : Act} {Q : Exit → Act → World → Prop} (hgd : o.guard = none) (s x : Operand) (t : TypeId)
    (ho : o.op = .call { callee := .builtin .append, args := #[s, x], argTypes := #[t, t] }) (e : TypeId) (z : Value) (bytes : Nat) (E : ElemV P t e z bytes)
    (v : Value) (xs : List Value) (hs : a.eval s = v) (hown : OwnsV e w v xs) (y : Value) (h1 : y.oneCell' = true) (hx : a.eval x = .slice (some ⟨w.heap.size, 0, none⟩) 1 1)
    (h63 : xs.length + 1 ≤ 9223372036854775807) (hbytes : (xs.length + 1) * bytes ≤ 140737488355328)
    (h : ∀ v' w', OwnsV e w' v' (xs ++ [y]) → Grew w w' v v' → wpList P ops Q rest (a.put o.dst v') w') : wpList P ops Q (o :: rest) a (w.alloc (.cells #[y] e)) := by
  obtain ⟨ht, ⟨i, hi, hz, hsz, hb⟩, hone⟩ := E
  refine wpList_app (w.alloc (.cells #[y] e)) hgd s x t ho e i z bytes ht hi hz hsz hb hone v xs hs (World.ownsRow.alloc hown _) _ [y] hx (src_one w _ _ h1) (by unfold maxLen; simpa using h63) (by simpa using hbytes) ?_
  intro v' w' h2 h3 h4
  refine h v' w' (by unfold OwnsV; simpa using h2) ⟨Tch.grown ((Tch.refl _ w).alloc _) h3 (fun _ _ e => e), fun k hk => ?_⟩
  rcases h4 k hk with e | e
  · exact .inl e
  · exact .inr (by simp at e; omega)

set_option maxHeartbeats 1000000 in
theorem refSplit_any (s : ByteArray) (w : World) (hs : s.size ≤ 140737488351232) : Calls Tryd.prog 8 #[.string s] w fun e w' => SpR w w' e (bl s) := by
  have hsz := bl_len s
  cases hl : bl s with
  | nil =>
    have e : s = ⟨#[]⟩ := bl_inj hl
    subst e
    clear hl hsz hs
    have HR : Hid (sp [] = none) := rfl
    go_enter Tryd.func8, Tryd.ntmps8
    go_wp2_with fail
    go_ret2
    exact ⟨_, [], _, rfl, rdV_nil _, Below.refl _ _, .inr ⟨HR.out, rfl, rfl⟩⟩
  | cons b l =>
    have hll : l.length + 1 = s.size := by rw [← hsz, hl]; rfl
    have h0s : 0 < s.size := by omega
    have eb : s[0] = b := by rw [← bl_getElem h0s]; simp [hl]
    by_cases hb : b = 47
    · subst hb
      by_cases h0 : l = []
      · subst h0
        have e : s = ⟨#[47]⟩ := bl_inj hl
        subst e
        clear hl hsz hs hll eb h0s
        have HR : Hid (sp [47] = some []) := rfl
        go_enter Tryd.func8, Tryd.ntmps8
        go_wp2_with fail
        go_ret2
        exact ⟨_, [], _, rfl, rdV_nil _, Below.refl _ _, .inl ⟨HR.out, rfl⟩⟩
      · have HR := hideN (sp_slash l h0)
        have e3 : (s.toList == [47]) = false := by rw [toList_bl, hl]; exact beq_eq_false_iff_ne.2 (by simpa using h0)
        have eb2 : ((s[0].toNat : Int) != 47) = false := by rw [eb]; rfl
        have hz1 : ¬ ((s.size : Int) < 1) := by omega
        have HL := hideN hl
        have hlen : l.length + 1 = s.size := hll
        clear hl hsz hll eb h0
        go_enter Tryd.func8, Tryd.ntmps8
        go_wp2_with fail
        clear e3 eb2
        go_loopw [4, 5, 6] (fun v f i wr => ∃ (out : List ByteArray) (G K : Nat), K ≤ s.size + 1 ∧ f = .int .i64 G ∧ i = .int .i64 K ∧ 1 ≤ G ∧ G ≤ K ∧ Hid (Wy l (out.map bl) (G - 1) (K - 1)) ∧ Hid (OwnsV 9 wr v (strs out)) ∧ Hid (Below w.heap.size w wr ∧ ∀ j, v.ownBlock = some j → w.heap.size ≤ j)) (fun _ _ i _ => s.size + 1 - (intOf i).toNat)
        case atStart => exact ⟨[], 1, 1, by omega, rfl, rfl, Nat.le_refl _, Nat.le_refl _, Wy.zero l, ownsV_nil _ _, Below.refl _ _, fun j hj => by simp [Value.ownBlock] at hj⟩
        case round =>
          obtain ⟨out, G, K, hk, rfl, rfl, hg1, hgk, HW, HO, HB⟩ := hrel
          have hK1 : 1 ≤ K := by omega
          by_cases hlt : K ≤ s.size
          · by_cases hc : ∃ h : K < s.size, s[K] ≠ 47
            · obtain ⟨hks, hne⟩ := hc
              have HW2 : Hid (Wy l (out.map bl) (G - 1) (K + 1 - 1)) := by
                have e : l[K - 1]? = some s[K] := by
                  have h1 : (bl s)[K]? = some s[K] := by rw [List.getElem?_eq_getElem (by rw [bl_len]; exact hks), bl_getElem hks]
                  rw [HL.out] at h1
                  obtain ⟨K', rfl⟩ : ∃ K', K = K' + 1 := ⟨K - 1, by omega⟩
                  simpa using h1
                obtain ⟨h2, h3⟩ := List.getElem?_eq_some_iff.1 e
                have h4 : Wy l (out.map bl) (G - 1) (K - 1 + 1) := HW.out.next h2 (by rw [h3]; exact hne)
                have h5 : K + 1 - 1 = K - 1 + 1 := by omega
                show Wy l (out.map bl) (G - 1) (K + 1 - 1)
                rw [h5]; exact h4
              have d2 : ((s[K].toNat : Int) != 47) = true := bne_iff_ne.2 (fun e => hne (UInt8.toNat_inj.1 (by simpa using (Int.ofNat_inj.1 e))))
              clear hne
              go_wp2_with fail
              exact ⟨⟨out, G, K + 1, by omega, rfl, by go_num, hg1, by omega, HW2, HO, HB⟩, by simp [intOf]; omega⟩
            · have HE : Hid (K - 1 = l.length ∨ l[K - 1]? = some 47) := by
                show K - 1 = l.length ∨ l[K - 1]? = some 47
                by_cases hks : K < s.size
                · right
                  have h1 : (bl s)[K]? = some s[K] := by rw [List.getElem?_eq_getElem (by rw [bl_len]; exact hks), bl_getElem hks]
                  have h2 : s[K] = 47 := Classical.byContradiction fun e => hc ⟨hks, e⟩
                  rw [HL.out, h2] at h1
                  obtain ⟨K', rfl⟩ : ∃ K', K = K' + 1 := ⟨K - 1, by omega⟩
                  simpa using h1
                · left; omega
              have HP : Hid (bl (s.extract G K) = (l.drop (G - 1)).take (K - 1 - (G - 1))) := by
                have e : bl (s.extract G K) = (l.drop (G - 1)).take (K - 1 - (G - 1)) := by
                  rw [bl_extract, HL.out]
                  obtain ⟨G', rfl⟩ : ∃ G', G = G' + 1 := ⟨G - 1, by omega⟩
                  rw [List.drop_succ_cons]
                  congr 1
                  omega
                exact e
              have hle : Hid (K - 1 ≤ l.length) := by show K - 1 ≤ l.length; omega
              have c := fun W => refName_any (s.extract G K) W
              obtain ⟨q, hq⟩ : ∃ q, Hid (nameL (bl (s.extract G K)) = q) := ⟨_, rfl⟩
              rw [hq.out] at c
              have HNO : Hid (q = false ∨ out.length = 6 → sp (47 :: l) = none) := fun h => by
                have e := HW.out.bad hle.out HE.out (by rw [← HP.out, hq.out, List.length_map]; exact h)
                rw [HR.out, if_neg (by rw [e]; simp)]
              obtain ⟨a1, ca1, rfl, l1, l2, _⟩ := HO.out.rd.len
              rw [strs_len] at l1 HO HB ⊢
              have hq1 : (G : Int) ≤ (K : Int) := by omega
              have hq2 : (K : Int) ≤ (s.size : Int) := by omega
              have h6le : Hid (out.length ≤ 6) := by have := (mayP_all HW.out.may).1; rw [List.length_map] at this; exact this
              have hkk : (∃ h : K < s.size, ((s[K].toNat : Int) != 47) = false) ∨ ¬ ((K : Int) < (s.size : Int)) := by
                by_cases hks : K < s.size
                · left
                  refine ⟨hks, ?_⟩
                  have h2 : s[K] = 47 := Classical.byContradiction fun e => hc ⟨hks, e⟩
                  rw [h2]; rfl
                · right; omega
              clear hc
              cases q with
              | false =>
                have HF := hideN (HNO.out (.inl rfl))
                clear HNO
                rcases hkk with ⟨hks, d2⟩ | hks
                all_goals
                  go_wp2_with (go_at_call 14; refine (c _).mono ?_; rintro e w1 ⟨rfl, hb1⟩)
                  go_ret2
                  exact ⟨_, [], _, rfl, rdV_nil _, HB.out.1.trans (hb1.mono HB.out.1.size), .inr ⟨HF.out, rfl, rfl⟩⟩
              | true =>
                by_cases h6 : out.length = 6
                · have HF := hideN (HNO.out (.inr h6))
                  have d6 : ((out.length : Int) == 6) = true := by rw [h6]; rfl
                  clear HNO h6
                  rcases hkk with ⟨hks, d2⟩ | hks
                  all_goals
                    go_wp2_with (go_at_call 14; refine (c _).mono ?_; rintro e w1 ⟨rfl, hb1⟩)
                    go_ret2
                    exact ⟨_, [], _, rfl, rdV_nil _, HB.out.1.trans (hb1.mono HB.out.1.size), .inr ⟨HF.out, rfl, rfl⟩⟩
                · have d6 : ((out.length : Int) == 6) = false := beq_eq_false_iff_ne.2 (by omega)
                  have HW2 : Hid (Wy l ((out ++ [s.extract G K]).map bl) (K + 1 - 1) (K + 1 - 1)) := by
                    have e : Wy l ((out ++ [s.extract G K]).map bl) (K + 1 - 1) (K + 1 - 1) := by
                      have h1 := HW.out.more hle.out HE.out (by rw [← HP.out]; exact hq.out) (by rw [List.length_map]; exact h6)
                      rw [List.map_append, List.map_singleton, HP.out]
                      have h5 : K + 1 - 1 = K - 1 + 1 := by omega
                      rw [h5]; exact h1
                    exact e
                  clear HNO h6
                  rcases hkk with ⟨hks, d2⟩ | hks
                  all_goals
                    go_wp2_with (first | (go_at_call 14; refine (c _).mono ?_; rintro e w1 ⟨rfl, hb1⟩; have HO1 := hideN (HO.out.below hb1); have HB1 := hideN (HB.out.1.trans (hb1.mono HB.out.1.size)); clear hb1) | (at_builtin; refine wpList_pushV _ rfl (.tmp 46) (.tmp 51) 22 rfl 9 (.string ⟨#[]⟩) 16 elemS _ (strs out) rfl HO1.out (.string (s.extract G K)) rfl rfl (by rw [strs_len]; have := h6le.out; omega) (by rw [strs_len]; have := h6le.out; omega) ?_; intro v2 w2 o2 g2))
                    have gn := g2.onto HB1.out HB.out.2
                    have HO2 : Hid (OwnsV 9 w2 v2 (strs (out ++ [s.extract G K]))) := by
                      have e : OwnsV 9 w2 v2 (strs (out ++ [s.extract G K])) := by
                        unfold strs at o2 ⊢; rw [List.map_append]; exact o2
                      exact e
                    have HG := hideN gn
                    clear gn o2 g2 HO1 HB1
                    exact ⟨⟨out ++ [s.extract G K], K + 1, K + 1, by omega, by go_num, by go_num, by omega, Nat.le_refl _, HW2, HO2, HG⟩, by simp [intOf]; omega⟩
          · have HF : Hid (sp (47 :: l) = some (out.map bl)) := by
              have e : sp (47 :: l) = some (out.map bl) := by
                have h1 : K - 1 = l.length + 1 := by omega
                have h2 : Wy l (out.map bl) (G - 1) (l.length + 1) := h1 ▸ HW.out
                obtain ⟨h3, h4⟩ := h2.fin
                rw [HR.out, if_pos h4, h3]
              exact e
            go_wp2_with fail
            go_ret2
            exact ⟨_, out, _, rfl, HO.out.rd, HB.out.1, .inl ⟨HF.out, rfl⟩⟩
    · have HR := hideN (sp_else l hb)
      have e3 : (s.toList == [47]) = false := by rw [toList_bl, hl]; exact beq_eq_false_iff_ne.2 (by simp [hb])
      have eb2 : ((s[0].toNat : Int) != 47) = true := by
        rw [eb, bne_iff_ne]
        intro e
        exact hb (UInt8.toNat_inj.1 (by simpa using (Int.ofNat_inj.1 e)))
      have hz1 : ¬ ((s.size : Int) < 1) := by omega
      clear hl hsz hll hb eb
      go_enter Tryd.func8, Tryd.ntmps8
      go_wp2_with fail
      go_ret2
      exact ⟨_, [], _, rfl, rdV_nil _, Below.refl _ _, .inr ⟨HR.out, rfl, rfl⟩⟩
end Go.Proofs.YtcjdhbiiigdmmaaDoor
