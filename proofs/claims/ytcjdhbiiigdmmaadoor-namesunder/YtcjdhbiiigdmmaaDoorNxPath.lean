/-
  Split and Join, of the program.
-/
import Derived.Test.YtcjdhbiiigdmmaaDoorNxMay
namespace Go.Proofs.YtcjdhbiiigdmmaaDoor
open Go.RowKit Nx
set_option linter.unusedVariables false
set_option maxRecDepth 100000

/-- What Split tells. -/
def SpR (w w' : World) (e : Ending) (p : List UInt8) : Prop :=
  ∃ (v : Value) (ss : List ByteArray) (c : Int), e = .returned (.tuple #[v, .int .i64 c]) ∧ RdV w' v (strs ss) ∧ Below w.heap.size w w' ∧ ((sp p = some (ss.map bl) ∧ c = 0) ∨ (sp p = none ∧ ss = [] ∧ c = 20))
theorem SpR.yes {w w' : World} {e : Ending} {p : List UInt8} {q : List (List UInt8)} (h : SpR w w' e p) (hp : sp p = some q) :
    ∃ (a : Option Addr) (m c : Nat) (ss : List ByteArray), e = .returned (.tuple #[.slice a m c, .int .i64 0]) ∧ Hid (RdV w' (.slice a m c) (strs ss)) ∧ Below w.heap.size w w' ∧ Hid (ss.map bl = q) ∧ Hid (ss.length = m) ∧ m ≤ c ∧ c ≤ 9223372036854775807 := by
  obtain ⟨v, ss, c, rfl, hv, hb, h | h⟩ := h
  · obtain ⟨h1, rfl⟩ := h
    rw [hp] at h1
    obtain ⟨a, ca, rfl, l1, l2, _⟩ := hv.len
    exact ⟨a, _, ca, ss, rfl, hv, hb, (Option.some.inj h1).symm, (strs_len ss).symm, l1, l2⟩
  · rw [hp] at h; cases h.1
theorem SpR.no {w w' : World} {e : Ending} {p : List UInt8} (h : SpR w w' e p) (hp : sp p = none) :
    ∃ (a : Option Addr) (c : Nat), e = .returned (.tuple #[.slice a 0 c, .int .i64 20]) ∧ Hid (RdV w' (.slice a 0 c) (strs [])) ∧ Below w.heap.size w w' := by
  obtain ⟨v, ss, c, rfl, hv, hb, h | h⟩ := h
  · rw [hp] at h; cases h.1
  · obtain ⟨_, rfl, rfl⟩ := h
    obtain ⟨a, ca, rfl, l1, l2, _⟩ := hv.len
    exact ⟨a, ca, rfl, hv, hb⟩
/-- What Join tells. -/
def JoR (w w' : World) (e : Ending) (ps : List (List UInt8)) : Prop :=
  ∃ (p : ByteArray) (c : Int), e = .returned (.tuple #[.string p, .int .i64 c]) ∧ Below w.heap.size w w' ∧ ((jo ps = some (bl p) ∧ c = 0) ∨ (jo ps = none ∧ p = ⟨#[]⟩ ∧ c = 20))

set_option maxHeartbeats 1000000 in
theorem split_any (s : ByteArray) (w : World) (hs : s.size ≤ 140737488351232) : Calls Tryd.prog 7 #[.string s] w fun e w' => SpR w w' e (bl s) := by
  have hsz := bl_len s
  cases hl : bl s with
  | nil =>
    have e : s = ⟨#[]⟩ := bl_inj hl
    subst e
    clear hl hsz hs
    have HR : Hid (sp [] = none) := rfl
    have c := cutPrefix_any ⟨#[]⟩
    have e1 : Lib.hasPrefix (ByteArray.mk #[]).data.toList [47] = false := rfl
    rw [e1] at c
    obtain ⟨u, hu⟩ : ∃ u, (⟨(Lib.trimPrefix (ByteArray.mk #[]).data.toList [47]).toArray⟩ : ByteArray) = u := ⟨_, rfl⟩
    rw [hu] at c
    clear hu e1
    go_enter Tryd.func7, Tryd.ntmps7
    go_wp2_with (go_at_call 17; refine (c _).mono ?_; rintro e w' ⟨rfl, rfl⟩)
    go_ret2
    exact ⟨_, [], _, rfl, rdV_nil _, Below.refl _ _, .inr ⟨HR.out, rfl, rfl⟩⟩
  | cons b l =>
    by_cases hb : b = 47
    · subst hb
      by_cases h0 : l = []
      · subst h0
        have e : s = ⟨#[47]⟩ := bl_inj hl
        subst e
        clear hl hsz hs
        have HR : Hid (sp [47] = some []) := rfl
        go_enter Tryd.func7, Tryd.ntmps7
        go_wp2_with fail
        go_ret2
        exact ⟨_, [], _, rfl, rdV_nil _, Below.refl _ _, .inl ⟨HR.out, rfl⟩⟩
      · have HR := hideN (sp_slash l h0)
        have e1 : Lib.hasPrefix s.data.toList [47] = true := by
          have : s.data.toList = 47 :: l := hl
          rw [this]
          simp [Lib.hasPrefix, List.isPrefixOf]
        have e2 : Lib.trimPrefix s.data.toList [47] = l := by
          unfold Lib.trimPrefix
          rw [e1]
          have : s.data.toList = 47 :: l := hl
          rw [this]
          rfl
        have c := cutPrefix_any s
        rw [e1, e2] at c
        have e3 : (s.toList == [47]) = false := by rw [toList_bl, hl]; exact beq_eq_false_iff_ne.2 (by simpa using h0)
        have hml : (mk l).size = l.length := by rw [← bl_len, bl_mk]
        have hll : l.length + 1 = s.size := by rw [← hsz, hl]; rfl
        have c2 := fun W => splitN_any (mk l) W (by omega)
        rw [bl_mk, hml] at c2
        have HM := hideN (sn_may (l := l) rfl)
        change ∀ w, Calls _ _ _ w fun e w' => e = .returned (.tuple #[.string (mk l), .bool true]) ∧ _ at c
        obtain ⟨t, ht⟩ : ∃ t, mk l = t := ⟨_, rfl⟩
        rw [ht] at c c2
        clear hl hsz e1 e2 hml hll ht hs h0
        go_enter Tryd.func7, Tryd.ntmps7
        go_wp2_with (first | (go_at_call 17; refine (c _).mono ?_; rintro e w' ⟨rfl, rfl⟩))
        rename_i W
        clear c
        go_wp2_with (go_at_call 18; refine (c2 _).mono ?_; rintro e w1 ⟨v, ss, rfl, hb, hv, h7, hm⟩)
        have HV := hideN hv
        have HM2 := hideN hm
        have HB := hideN hb
        have d := mayStand_any v ss w1 hv
        rw [hm] at d
        clear hv hm hb c2
        cases hq : mayP (pcs l) with
        | true =>
          have HS := hideN (HM.out.2 hq)
          rw [HM.out.1, hq] at d
          have HF : Hid (sp (47 :: l) = some (ss.map bl)) := by
            have e : sp (47 :: l) = some (ss.map bl) := by rw [HR.out, if_pos hq, HM2.out, HS.out]
            exact e
          clear hq HS HM HM2 HR
          go_wp2_with (go_at_call 19; refine d.mono ?_; rintro e w2 ⟨rfl, hb2⟩)
          go_ret2
          exact ⟨_, ss, _, rfl, HV.out.below hb2, HB.out.trans (hb2.mono HB.out.size), .inl ⟨HF.out, rfl⟩⟩
        | false =>
          rw [HM.out.1, hq] at d
          have HF : Hid (sp (47 :: l) = none) := by
            have e : sp (47 :: l) = none := by rw [HR.out, if_neg (by rw [hq]; simp)]
            exact e
          clear hq HM HM2 HR
          go_wp2_with (go_at_call 19; refine d.mono ?_; rintro e w2 ⟨rfl, hb2⟩)
          go_ret2
          exact ⟨_, [], _, rfl, rdV_nil _, HB.out.trans (hb2.mono HB.out.size), .inr ⟨HF.out, rfl, rfl⟩⟩
    · have HR := hideN (sp_else l hb)
      have e1 : Lib.hasPrefix s.data.toList [47] = false := by
        have : s.data.toList = b :: l := hl
        rw [this]
        simp [Lib.hasPrefix, List.isPrefixOf]
        exact fun e => hb e.symm
      have e3 : (s.toList == [47]) = false := by rw [toList_bl, hl]; exact beq_eq_false_iff_ne.2 (by simp [hb])
      have c := cutPrefix_any s
      rw [e1] at c
      obtain ⟨u, hu⟩ : ∃ u, (⟨(Lib.trimPrefix s.data.toList [47]).toArray⟩ : ByteArray) = u := ⟨_, rfl⟩
      rw [hu] at c
      clear hu e1 hl hsz hb
      go_enter Tryd.func7, Tryd.ntmps7
      go_wp2_with (go_at_call 17; refine (c _).mono ?_; rintro e w' ⟨rfl, rfl⟩)
      go_ret2
      exact ⟨_, [], _, rfl, rdV_nil _, Below.refl _ _, .inr ⟨HR.out, rfl, rfl⟩⟩

theorem bX : Builder.Extra Tryd.prog Tryd.joinS_ren := { sizeBuilder := by kernel_rfl, liesBuilder := by kernel_rfl, t5 := Tryd.underlying5, a5 := Tryd.isAgg5, z5 := Tryd.sizeOf5, v5 := Tryd.zeroValue5, infoByte := by kernel_rfl, cellsByte := by kernel_rfl, sizeByte := by kernel_rfl, neB5 := by decide }
theorem join_len {ss : List ByteArray} (hm : mayP (ss.map bl) = true) : (Lib.join (ss.map bl) [47]).length ≤ 102 := by
  obtain ⟨h6, hn⟩ := mayP_all hm
  cases ss with
  | nil => simp [Lib.join]
  | cons x r =>
    have h1 := sl_len (ps := (x :: r).map bl) (fun z hz => nameL_len (hn z hz))
    have h2 := pth_join ((x :: r).map bl)
    rw [pth, if_neg (by simp)] at h2
    rw [h2] at h1
    simp only [List.length_cons, List.length_map] at h1 h6
    omega
theorem joinS_any (v : Value) (ss : List ByteArray) (w : World) (h : RdV w v (strs ss)) (hm : mayP (ss.map bl) = true) :
    Calls Tryd.prog 20 #[v, .string ⟨#[47]⟩] w fun e w' => e = .returned (.string (mk (Lib.join (ss.map bl) [47]))) ∧ Below w.heap.size w w' := by
  obtain ⟨a, cap, rfl, hl, hmx, h0, hc⟩ := h
  rw [strs_len] at hl ⊢
  obtain ⟨h6, hn⟩ := mayP_all hm
  rw [List.length_map] at h6
  cases ss with
  | nil =>
    exact (Any.strings_Join_none Tryd.joinS bX a cap ⟨#[47]⟩ w).mono fun e w' ⟨he, hw⟩ => ⟨he, hw ▸ Below.refl _ _⟩
  | cons x r =>
    rcases hc with e | ⟨b, o, rfl, hc⟩
    · cases e
    · have hlen := join_len hm
      have hb : b < w.heap.size := World.block_lt_of_cell? w ⟨b, o + 0, none⟩ (hc 0 _ rfl)
      exact Any.strings_Join Tryd.joinS bX b o cap (x :: r) ⟨#[47]⟩ w (fun j y hj => hc j _ (by rw [strs, List.getElem?_map, hj]; rfl)) hb (by omega) hl (Nat.le_trans hlen (by omega))

set_option maxHeartbeats 1000000 in
theorem join_any (v : Value) (ss : List ByteArray) (w : World) (h : RdV w v (strs ss)) : Calls Tryd.prog 11 #[v] w fun e w' => JoR w w' e (ss.map bl) := by
  have c := mayStand_any v ss w h
  have HV := hideN h
  obtain ⟨a, ca, rfl, l1, l2, _⟩ := h.len
  clear h
  cases hq : mayP (ss.map bl) with
  | true =>
    rw [hq] at c
    have HJ : Hid (jo (ss.map bl) = some (47 :: Lib.join (ss.map bl) [47])) := by
      have e : jo (ss.map bl) = some (47 :: Lib.join (ss.map bl) [47]) := by unfold jo; rw [if_pos hq, pth_join]
      exact e
    have HQ := hideN hq
    clear hq
    go_enter Tryd.func11, Tryd.ntmps11
    go_wp2_with (go_at_call 19; refine c.mono ?_; rintro e w1 ⟨rfl, hb⟩)
    have d := joinS_any _ ss w1 (HV.out.below hb) HQ.out
    have HB := hideN hb
    clear hb c
    obtain ⟨u, hu⟩ : ∃ u, Hid (mk (Lib.join (ss.map bl) [47]) = u) := ⟨_, rfl⟩
    rw [hu.out] at d
    have hus : u.size ≤ 102 := by rw [← hu.out, ← bl_len, bl_mk]; exact join_len HQ.out
    go_wp2_with (go_at_call 20; refine d.mono ?_; rintro e w2 ⟨rfl, hb2⟩)
    go_ret2
    refine ⟨_, _, rfl, HB.out.trans (hb2.mono HB.out.size), .inl ⟨?_, rfl⟩⟩
    rw [HJ.out]
    have e : Lib.join (ss.map bl) [47] = bl u := by rw [← hu.out, bl_mk]
    rw [e]
    obtain ⟨d⟩ := u
    simp [bl]
  | false =>
    rw [hq] at c
    have HJ : Hid (jo (ss.map bl) = none) := by
      have e : jo (ss.map bl) = none := by unfold jo; rw [if_neg (by rw [hq]; simp)]
      exact e
    clear hq
    go_enter Tryd.func11, Tryd.ntmps11
    go_wp2_with (go_at_call 19; refine c.mono ?_; rintro e w1 ⟨rfl, hb⟩)
    go_ret2
    exact ⟨_, _, rfl, hb, .inr ⟨HJ.out, rfl, rfl⟩⟩
end Go.Proofs.YtcjdhbiiigdmmaaDoor
